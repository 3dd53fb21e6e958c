import PyProof.Rows.All
import Wide.All
import OpenK.AllK
import Wide.FinOn
import Lean
import PyProof.EqAt
import PyProof.EqKinds
import PyProof.TupleCall
import PyProof.StationsW
import PyProof.ExcClass2
import PyProof.RulesAs
import PyProof.ExcBaseAll.ValueError
import OpenK.KDescr
import OpenK.KWalk
import PyProof.ExcAttrAll.ValueError
import PyProof.Comp
import PyProof.ListRange
import PyProof.DictItems
import KE.KPairComp
import KE.KDictOf
import PyProof.AttrMissHeap
import PyProof.Rows.Range3
import KE.KRevIter
import PyProof.ZipIter
import OpenK.KEqL
import PyProof.AutoListH
import PyProof.EnumMake
import PyProof.WalksEnum
import PyProof.NeKinds
import PyProof.MaxThree
import KE.KSortTup
import PyProof.StrLawsIn
import PyProof.DictValues
import PyProof.DictIter
import PyProof.Draws
import PyProof.DictWalks
import PyProof.ListNew
import PyProof.ListStr
import KE.KIntText
import PyProof.Rows.FStr
import PyProof.MeetsStr
import PyProof.Rows.CallKwBuiltin
import PyProof.Rows.StrNews
import PyProof.Rows.StrNews2
import PyProof.StrLawsChain
import PyProof.StrLawsFirst
import PyProof.StrLawsTight
import PyProof.DictUpdate
import PyProof.Rows.SetFrom
import PyProof.DictStraight
import PyProof.SetRoads
import PySem.SetOps
import KE.KDictList
import PyProof.TupleKey
import PyProof.DictFindH
import PyProof.MeetsDictList
import PyProof.MeetsSeq3
import PyProof.Rows.SortStr
import PySem.Challenge.RW_rimnotes_k72_rows_read_back
set_option maxRecDepth 100000
set_option maxHeartbeats 4000000
set_option Elab.async false
set_option linter.all false
namespace L2
open PySem PySem.Spec PyProof.Rows
variable {q0:Bool}
abbrev Key:=Sum Int Str
def xey:Key->Value->Bool
 | .inl k,v=>Value.isInt k v
 | .inr x,v=>Value.isStrOf x v
def keyH (w:World):Key->Int
 | .inl k=>hashInt k
 | .inr x=>hashStr w x
theorem xbg:∀{k:Key}{v:Value},xey k v=true->(∃ i t,k=Sum.inl i/\v=Value.int i t)\/(∃ x t,k=Sum.inr x/\v=Value.str x t)
 | .inl i,v,h=>by
  obtain⟨t,e⟩:=Value.isInt_shape (k:=i) (v:=v) h
  exact .inl ⟨i,t,rfl,e⟩
 | .inr x,v,h=>by
  obtain⟨t,e⟩:=Value.isStrOf_shape (x:=x) (v:=v) h
  exact .inr ⟨x,t,rfl,e⟩
theorem xn2 (i:Int) (t:Tok):xey (.inl i) (.int i t)=true:=by simp[xey,Value.isInt]
theorem xm6 (x:Str) (t:Tok):xey (.inr x) (.str x t)=true:=by simp[xey,Value.isStrOf]
theorem xsm (a b:Int):decide ((Sum.inl a:Key)=Sum.inl b)=(a == b):=by
 by_cases e:a=b
 .subst e; simp
 .have h:¬ (Sum.inl a:Key)=Sum.inl b:=fun q=>e (Sum.inl.inj q)
  rw[decide_eq_false h]
  exact (beq_eq_false_iff_ne.mpr e).symm
theorem xr8 (a b:Str):decide ((Sum.inr a:Key)=Sum.inr b)=decide (a=b):=by
 by_cases e:a=b
 .subst e; simp
 .have h:¬ (Sum.inr a:Key)=Sum.inr b:=fun q=>e (Sum.inr.inj q)
  rw[decide_eq_false h,decide_eq_false e]
theorem xro (a:Int) (b:Str):decide ((Sum.inl a:Key)=Sum.inr b)=false:=decide_eq_false (fun q=>nomatch q)
theorem xru (a:Str) (b:Int):decide ((Sum.inr a:Key)=Sum.inl b)=false:=decide_eq_false (fun q=>nomatch q)
def xaj (prog:Program) (w:World):PySem.KeyKind prog w Key where
 is:=xey
 hash:=keyH w
 inj:=fun v a b ha hb=>by
  rcases xbg ha with⟨i,t,rfl,rfl⟩|⟨x,t,rfl,rfl⟩
  .rcases xbg hb with⟨j,u,rfl,e⟩|⟨y,u,rfl,e⟩
   .injection e with e1 _; rw[e1]
   .exact nomatch e
  .rcases xbg hb with⟨j,u,rfl,e⟩|⟨y,u,rfl,e⟩
   .exact nomatch e
   .injection e with e1 _; rw[e1]
 byValue:=fun k v h=>by
  rcases xbg h with⟨i,t,rfl,rfl⟩|⟨x,t,rfl,rfl⟩<;>rfl
 pyHash:=fun hv h=>by
  rcases xbg hv with⟨i,t,rfl,rfl⟩|⟨x,t,rfl,rfl⟩
  .exact wpAny_pyHash_int h
  .exact wpAny_pyHash_str h
 eqBool:=fun hu hv h=>by
  rcases xbg hu with⟨i,t,rfl,rfl⟩|⟨x,t,rfl,rfl⟩
  .rcases xbg hv with⟨j,u,rfl,rfl⟩|⟨y,u,rfl,rfl⟩
   .rw [xsm] at h; exact wpAny_eqBool_int h
   .rw [xro] at h; exact SeqAt.EqAt.int_str i t y u _ _ _ _ h
  .rcases xbg hv with⟨j,u,rfl,rfl⟩|⟨y,u,rfl,rfl⟩
   .rw [xru] at h; exact SeqAt.EqAt.str_int x t j u _ _ _ _ h
   .rw [xr8] at h; exact wpAny_eqBool_str h
 «strs»:=fun k x t v h=>by
  rcases xbg h with⟨i,u,rfl,e⟩|⟨y,u,rfl,e⟩
  .exact nomatch e
  .injection e with e1 _
   subst e1
   cases v<;>rfl
theorem xke (prog:Program) (w:World) (i:Int) (t:Tok):(xaj prog w).is (.inl i) (.int i t)=true:=xn2 i t
theorem xkj (prog:Program) (w:World) (x:Str) (t:Tok):(xaj prog w).is (.inr x) (.str x t)=true:=xm6 x t
inductive V where
 | non|bl (b:Bool)|int (i:Int)|str (x:Str)|byt (b:Array UInt8)|flt (b:UInt64)|ref (a:Addr)|ty (n:String)
 deriving DecidableEq
def RelV:V->Value->Prop
 | .non,u=>u=Value.none
 | .bl b,u=>u=Value.bool b
 | .int i,u=>∃ t,u=Value.int i t
 | .str x,u=>∃ t,u=Value.str x t
 | .byt b,u=>∃ t,u=Value.bytes b t
 | .flt b,u=>∃ t,u=Value.float b t
 | .ref a,u=>u=Value.ref a
 | .ty n,u=>u=Value.type n
abbrev Vals:List V->List Value->Prop:=Paired RelV
theorem Vals.length {xs:List V}{us:List Value} (r:Vals xs us):xs.length=us.length:=Paired.length r
theorem Vals.get:∀{xs:List V}{us:List Value}{i:Nat}{x:V},Vals xs us->xs[i]?=some x->∃ u,us[i]?=some u/\RelV x u
 | _,_,_,_,.nil,e=>by simp at e
 | _,_,0,_,.cons r _,e=>by simp at e; subst e; exact⟨_,rfl,r⟩
 | _,_,i+1,x,.cons _ t,e=>by
  obtain⟨u,h1,h2⟩:=Vals.get (i:=i) (x:=x) t (by simpa using e)
  exact⟨u,by simpa using h1,h2⟩
theorem Vals.append:∀{xs ys:List V}{us ws:List Value},Vals xs us->Vals ys ws->Vals (xs++ys) (us++ws)
 | _,_,_,_,.nil,s=>s
 | _,_,_,_,.cons r t,s=>.cons r (Vals.append t s)
theorem Vals.take:∀{xs:List V}{us:List Value} (n:Nat),Vals xs us->Vals (xs.take n) (us.take n)
 | _,_,0,_=>.nil
 | _,_,_+1,.nil=>.nil
 | _,_,n+1,.cons r t=>.cons r (Vals.take n t)
theorem Vals.drop:∀{xs:List V}{us:List Value} (n:Nat),Vals xs us->Vals (xs.drop n) (us.drop n)
 | _,_,0,r=>r
 | _,_,_+1,.nil=>.nil
 | _,_,n+1,.cons _ t=>Vals.drop n t
def RelO:Option V->Option Value->Prop
 | some v,some u=>RelV v u
 | none,none=>True
 | _,_=>False
def KV {κ:Type}:List (κ × V)->List (κ × Value)->Prop:=Paired fun (p:κ × V) (q:κ × Value)=>p.1=q.1/\RelV p.2 q.2
def kV:Key->V
 | .inl i=>.int i
 | .inr x=>.str x
inductive HO where
 /-- a list -/
 | lst (xs:List V)
 /-- a tuple (never changes) -/
 | tup (xs:List V)
 /-- a dict whose keys are ints and texts; one whose keys are tuples of ints and texts (the empty one is both) -/
 | dK (kvs:List (Key × V))|dT (kvs:List (List Key × V))
 /-- a set of ints: its members,its size -/
 | set (S:Int->Bool) (n:Nat)
 /-- an instance of the class at C,its dict at dx,its attributes -/
 | ins (C dx:Addr) (fs:List (Str × V))
 /-- the dict of the instance at x -/
 | own (x:Addr)
 /-- the dict of an exception -/
 | xd (fs:List (Str × V))
 /-- a bound method,f of x -/
 | met (f x:Addr)
 /-- a range object lo,lo+1,.. below hi -/
 | rng (lo hi:Int)
 /-- a thing that is known to the object (the script; a dict while a loop walks it): read,never written while it is so -/
 | frz (o:Obj) (u:HO)
 /-- a code object's table -/
 | tbl (ps:Array Value)
 /-- any other thing,by what is true of its one object (a def of one's own: SetO a S n:=HO.ext fun h=>..) -/
 | ext (φ:Heap->Prop)
abbrev Hp:=Addr->Option HO
def upd (H:Hp) (a:Addr) (o:HO):Hp:=fun b=>if b=a then some o else H b
theorem xf {H:Hp}{a:Addr}{o:HO}:upd H a o a=some o:=by unfold upd; rw[if_pos rfl]
theorem xg {H:Hp}{a b:Addr}{o:HO} (h:b≠a):upd H a o b=H b:=by unfold upd; rw[if_neg h]
theorem xeq {H:Hp}{a:Addr}{o u:HO}:upd (upd H a o) a u=upd H a u:=by
 funext b; unfold upd; split<;>rfl
theorem x5 {H:Hp}{a b:Addr}{o u:HO} (h:H a=some o) (h':H b=some u) (d:o≠u):a≠b:=by
 intro e; subst e; rw[h] at h'; exact d (Option.some.inj h')
theorem xi {H:Hp}{a b:Addr}{o:HO} (h:H a=some o) (h':H b=none):a≠b:=by
 intro e; subst e; rw[h] at h'; cases h'
section
variable (P:Program) (w:World)
def xav (H:Hp) (h:Heap) (a:Addr):HO->Prop
  | .lst xs=>xs.length<=sizeLine/\∃(its:List Value) (n:Nat),Vals xs its/\h.get? a=some { cls:=.type "list",data:=.seq its.toArray n }
  | .tup xs=>xs.length<=sizeLine/\∃ its:List Value,Vals xs its/\IsTup h a its.toArray
  | .dK kvs=>kvs.length<=sizeLine/\(a == sysModules)=false/\∃ vs,KV kvs vs/\h.DictOf (xaj P w) a vs
  | .dT kvs=>kvs.length<=sizeLine/\(a == sysModules)=false/\∃ xs:List (List Key × Addr × Value),
      Paired (fun (p:List Key × V) (q:List Key × Addr × Value)=>p.1=q.1/\H q.2.1=some (.tup (p.1.map kV))/\RelV p.2 q.2.2) kvs xs /\
      ∃ o es ep,h.get? a=some o/\o.ExactDict/\o.data=.dict es ep/\es.toList=xs.map (entryOfKey (tupleKind (xaj P w)))/\(xs.map (·.1)).Nodup
  | .set S n=>h.SetOf (intKind P w) a S n
  | .ins C dx fs=>H dx=some (.own a)/\fs.length<=1000/\dx≠a/\h.get? a=some (PySem.W.instObj C dx) /\
      ∃ mA,h.Ns1 dx mA/\(∀ f,RelO (fs.lookup f) (mA f))/\PySem.Within mA (fs.map (·.1))
  | .own _=>∃ o,h.get? a=some o
  | .xd fs=>∃ mA,h.Ns1 a mA/\∀ f,RelO (fs.lookup f) (mA f)
  | .rng lo hi=>∃ t u v,h.get? a=some { cls:=.type "range",data:=.fields #[.int lo t,.int hi u,.int 1 v] }
  | .frz o u=>h.get? a=some o/\xav H h a u
  | .tbl ps=>h.get? a=some { cls:=.none,data:=.fields ps }
  | .met f x=>h.get? a=some (PySem.W.methodObj (.ref f) (.ref x))
  | .ext φ=>φ h/\(∃ o,h.get? a=some o)/\∀ h1 h2:Heap,φ h1->(∀ o,h1.get? a=some o->h2.get? a=some o)->φ h2
def HOk (H:Hp) (h:Heap):Prop:=∀ a o,H a=some o->xav P w H h a o
end
section
variable {P:Program}{w:World}{H H':Hp}{h h':Heap}{a:Addr}{o:HO}
theorem xav.lt (x:xav P w H h a o):a<h.objs.size:=by
 cases o with
 | lst xs=>obtain⟨_,_,_,_,e⟩:=x; exact Heap.lt_size e
 | tup xs=>obtain⟨_,_,_,p⟩:=x; exact p.lt
 | dK kvs=>obtain⟨_,_,_,_,o,_,_,e,_⟩:=x; exact Heap.lt_size e
 | dT kvs=>obtain⟨_,_,_,_,o,_,_,e,_⟩:=x; exact Heap.lt_size e
 | set S n=>obtain⟨o,_,_,_,e,_⟩:=x; exact Heap.lt_size e
 | ins C dx fs=>obtain⟨_,_,_,e,_⟩:=x; exact Heap.lt_size e
 | own y=>obtain⟨_,e⟩:=x; exact Heap.lt_size e
 | xd fs=>obtain⟨_,⟨_,_,_,e,_⟩,_⟩:=x; exact Heap.lt_size e
 | rng lo hi=>obtain⟨_,_,_,e⟩:=x; exact Heap.lt_size e
 | frz ob u=>obtain⟨e,_⟩:=x; exact Heap.lt_size e
 | tbl ps=>exact Heap.lt_size (show h.get? a=some _ from x)
 | met f y=>exact Heap.lt_size (show h.get? a=some _ from x)
 | ext φ=>obtain⟨_,⟨_,e⟩,_⟩:=x; exact Heap.lt_size e
theorem Paired.mapP {α β:Type}{F G:α->β->Prop}:∀{l₁:List α}{l₂:List β},Paired F l₁ l₂->(∀ a b,F a b->G a b)->Paired G l₁ l₂
 | _,_,.nil,_=>.nil
 | _,_,.cons r t,f=>.cons (f _ _ r) (Paired.mapP t f)
theorem xav.stay (x:xav P w H h a o) (k:∀ b u,(b=a\/H b=some (.own a))->h.get? b=some u->h'.get? b=some u)
    (ho:∀ b,H b=some (.own a)->H' b=some (.own a)) (ht:∀ b xs,H b=some (.tup xs)->H' b=some (.tup xs)):xav P w H' h' a o:=by
  induction o with
  | lst xs=>obtain⟨z,its,n,r,e⟩:=x; exact⟨z,its,n,r,k _ _ (.inl rfl) e⟩
  | tup xs=>obtain⟨z,its,r,ob,e,c⟩:=x; exact⟨z,its,r,ob,k _ _ (.inl rfl) e,c⟩
  | dK kvs=>obtain⟨z,y,vs,r,ob,es,ep,e,c⟩:=x; exact⟨z,y,vs,r,ob,es,ep,k _ _ (.inl rfl) e,c⟩
  | dT kvs =>
    obtain⟨z,y,xs,r,ob,es,ep,e,c⟩:=x
    exact⟨z,y,xs,Paired.mapP r fun p q z=>⟨z.1,ht _ _ z.2.1,z.2.2⟩,ob,es,ep,k _ _ (.inl rfl) e,c⟩
  | set S n=>obtain⟨ob,es,ep,t,e,c⟩:=x; exact⟨ob,es,ep,t,k _ _ (.inl rfl) e,c⟩
  | ins C dx fs =>
    obtain⟨d,z,ne,e,mA,⟨od,es,ep,e2,c⟩,r⟩:=x
    exact⟨ho _ d,z,ne,k _ _ (.inl rfl) e,mA,⟨od,es,ep,k _ _ (.inr d) e2,c⟩,r⟩
  | own y=>obtain⟨ob,e⟩:=x; exact⟨ob,k _ _ (.inl rfl) e⟩
  | xd fs=>obtain⟨mA,⟨od,es,ep,e,c⟩,r⟩:=x; exact⟨mA,⟨od,es,ep,k _ _ (.inl rfl) e,c⟩,r⟩
  | rng lo hi=>obtain⟨t,u,v,e⟩:=x; exact⟨t,u,v,k _ _ (.inl rfl) e⟩
  | frz ob u ih=>obtain⟨e,q⟩:=x; exact⟨k _ _ (.inl rfl) e,ih q⟩
  | tbl ps =>
    have e:h.get? a=some { cls:=.none,data:=.fields ps }:=x
    show h'.get? a=some { cls:=.none,data:=.fields ps }
    exact k a _ (.inl rfl) e
  | met f y =>
    have e:h.get? a=some (PySem.W.methodObj (.ref f) (.ref y)):=x
    show h'.get? a=some (PySem.W.methodObj (.ref f) (.ref y))
    exact k a _ (.inl rfl) e
  | ext φ=>obtain⟨p,⟨o,e⟩,st⟩:=x; exact⟨st _ _ p fun o q=>k _ _ (.inl rfl) q,⟨o,k _ _ (.inl rfl) e⟩,st⟩
theorem HOk.lt (x:HOk P w H h) (e:H a=some o):a<h.objs.size:=(x a o e).lt
theorem HOk.fresh (x:HOk P w H h) (e:h.objs.size<=a):H a=none:=by
 cases q:H a with
 | none=>rfl
 | some u=>exact absurd (Nat.lt_of_lt_of_le (x.lt q) e) (Nat.lt_irrefl _)
theorem HOk.kept (x:HOk P w H h) (k:∀ b u,h.get? b=some u->h'.get? b=some u):HOk P w H h':=fun a o e =>
 (x a o e).stay (fun b u _ q=>k b u q) (fun _ q=>q) fun _ _ q=>q
theorem HOk.laid (x:HOk P w H h) (k:∀ b u,h.get? b=some u->h'.get? b=some u) (hp:h.objs.size<=a) (new:xav P w (upd H a o) h' a o):HOk P w (upd H a o) h':=fun b u e=>by
 have hn:=x.fresh hp
 by_cases hb:b=a
 .subst hb; rw[xf] at e; cases e; exact new
 .rw [xg hb] at e
  exact (x b u e).stay (fun c v _ q=>k c v q) (fun c q=>by rw[xg (xi q hn)]; exact q) fun c xs q=>by rw[xg (xi q hn)]; exact q
end
def Rd (H:Hp) (a:Addr) (u:HO):Prop:=H a=some u\/∃ o,H a=some (.frz o u)
theorem Rd.ok {P:Program}{w:World}{H:Hp}{h:Heap}{a:Addr}{u:HO} (r:Rd H a u) (x:HOk P w H h):xav P w H h a u:=by
 rcases r with r|⟨o,r⟩
 .exact x a u r
 .obtain ⟨_,q⟩:=x a _ r
  exact q
def Mut:Option HO->Prop
 | some (.lst _)=>True
 | some (.dK _)=>True
 | some (.dT _)=>True
 | some (.set _ _)=>True
 | some (.ins _ _ _)=>True
 | some (.ext _)=>True
 | _=>False
section
variable {P:Program}{w:World}{H:Hp}{h h':Heap}{x e:Addr}{o':HO}
theorem HOk.write (ok:HOk P w H h) (mu:Mut (H x)) (he:e=x\/H e=some (.own x)) (k:∀ b u,b≠e->h.get? b=some u->h'.get? b=some u) (heo:∃ u,h'.get? e=some u)
    (new:xav P w (upd H x o') h' x o'):HOk P w (upd H x o') h':=fun b u q=>by
  have nown:∀ c y,H c=some (.own y)->c≠x:=fun c y r z=>by subst z; rw[r] at mu; exact mu
  have ntup:∀ c xs,H c=some (.tup xs)->c≠x:=fun c xs r z=>by subst z; rw[r] at mu; exact mu
  by_cases hb:b=x
  . subst hb; rw[xf] at q; cases q; exact new
  . rw[xg hb] at q
    by_cases hbe:b=e
    . have q':H b=some (.own x):=by
        rcases he with z|z
        . exact absurd (hbe.trans z) hb
        . rw[hbe]; exact z
      rw[q] at q'; cases q'
      obtain⟨v,hv⟩:=heo
      exact⟨v,by rw[hbe]; exact hv⟩
    . refine (ok b u q).stay (fun c v hc r=>k c v ?_ r) (fun c r=>by rw[xg (nown c b r)]; exact r) fun c xs r=>by rw[xg (ntup c xs r)]; exact r
      rcases hc with rfl|hc
      . exact hbe
      . rintro rfl
        rcases he with z|z
        . exact nown c b hc z
        . rw[hc] at z; cases z; exact hb rfl
end
structure Un (fs ex:List Addr) (H H':Hp) (h h':Heap):Prop where
 keep:∀ b o,h.get? b=some o->H b=none->b∉fs->b∉ex->h'.get? b=some o
 slot:∀ b o,h.get? b=some o->H b=none->b∈fs->b∉ex->∃ sl,h'.get? b=some { o with slots:=sl }
 free:∀ b o,h.get? b=some o->H b=none->b∉ex->H' b=none
 there:∀ b o,h.get? b=some o->b∉ex->∃ o',h'.get? b=some o'
 tups:∀ b xs,H b=some (.tup xs)->H' b=some (.tup xs)
 frzs:∀ b o u,H b=some (.frz o u)->H' b=some (.frz o u)
 tbls:∀ b ps,H b=some (.tbl ps)->∃ more,H' b=some (.tbl (ps++more))
section
variable {fs fs' ex ex':List Addr}{H H1 H2:Hp}{h h1 h2 h':Heap}{a x e:Addr}{o:HO}
theorem Un.any (u:Un fs ex H H1 h h1) {b:Addr}{ob:Obj} (q:h.get? b=some ob) (n:H b=none) (hx:b∉ex):∃ sl,h1.get? b=some { ob with slots:=sl }:=by
 by_cases hb:b∈fs
 .exact u.slot b ob q n hb hx
 .exact ⟨ob.slots,u.keep b ob q n hb hx⟩
theorem Un.kept (k:∀ b u,h.get? b=some u->h'.get? b=some u):Un fs ex H H h h' :=
 ⟨fun b ob q _ _ _=>k b ob q,fun b ob q _ _ _=>⟨ob.slots,k b ob q⟩,fun _ _ _ n _=>n,fun b ob q _=>⟨ob,k b ob q⟩,fun _ _ q=>q,fun _ _ _ q=>q,fun _ ps q=>⟨#[],by rw[q]; simp⟩⟩
theorem Un.refl:Un fs ex H H h h:=Un.kept fun _ _ q=>q
theorem Un.laid (k:∀ b u,h.get? b=some u->h'.get? b=some u) (hp:h.objs.size<=a) (hn:H a=none):Un fs ex H (upd H a o) h h' where
 keep:=fun b u q _ _ _=>k b u q
 slot:=fun b u q _ _ _=>⟨u.slots,k b u q⟩
 free:=fun b u q n _=>by rw[xg (Nat.ne_of_lt (Nat.lt_of_lt_of_le (Heap.lt_size q) hp))]; exact n
 there:=fun b u q _=>⟨u,k b u q⟩
 tups:=fun b xs q=>by rw[xg (xi q hn)]; exact q
 frzs:=fun b u xs q=>by rw[xg (xi q hn)]; exact q
 tbls:=fun b ps q=>⟨#[],by rw[xg (xi q hn),q]; simp⟩
theorem Un.write (mu:Mut (H x)) (he:e=x\/H e=some (.own x)) (k:∀ b u,b≠e->h.get? b=some u->h'.get? b=some u) (heo:∃ u,h'.get? e=some u):Un fs ex H (upd H x o) h h':=by
 have hx:∀ b,H b=none->b≠x:=fun b n z=>by subst z; rw[n] at mu; exact mu
 have hb:∀ b,H b=none->b≠e:=fun b n z=>by
  subst z
  rcases he with r|r
  .exact hx b n r
  .rw [n] at r; cases r
 have hm:∀ b u,H b=some u->¬ Mut (some u)->b≠x:=fun b u q nm z=>by subst z; rw[q] at mu; exact nm mu
 refine⟨fun b u q n _ _=>k b u (hb b n) q,fun b u q n _ _=>⟨u.slots,k b u (hb b n) q⟩,fun b u q n _=>by rw[xg (hx b n)]; exact n,fun b u q _=>?_,
  fun b xs q=>by rw[xg (hm b _ q fun z=>z)]; exact q,fun b u xs q=>by rw[xg (hm b _ q fun z=>z)]; exact q,fun b ps q=>⟨#[],by rw[xg (hm b _ q fun z=>z),q]; simp⟩⟩
 by_cases hbe:b=e
 .subst hbe; exact heo
 .exact ⟨u,k b u hbe q⟩
end
def trk (h:Heap) (H:Hp):List Addr:=(List.range h.objs.size).filter fun a=>(H a).isSome
def hidT (h:Heap) (H:Hp):Heap:=PySem.W.hideAll h (trk h H)
theorem xnn (h:Heap) (H:Hp):(hidT h H).objs.size=h.objs.size:=PySem.W.hideAll_size _ _
theorem xoi {h:Heap}{H:Hp}{b:Addr}{o:Obj} (e:h.get? b=some o) (n:H b=none):(hidT h H).get? b=some o :=
 PySem.W.hideAll_get _ e fun hm=>by
  have q:(H b).isSome=true:=(List.mem_filter.mp hm).2
  rw[n] at q; simp at q
theorem xqs {h:Heap}{H:Hp}{b:Addr}{o:Obj} (e:(hidT h H).get? b=some o):h.get? b=some o/\H b=none:=by
 have e':h.get? b=some o:=PySem.W.of_hideAll (trk h H) e
 refine⟨e',?_⟩
 cases q:H b with
 | none=>rfl
 | some x =>
  have hm:b∈trk h H:=List.mem_filter.mpr ⟨List.mem_range.mpr (Heap.lt_size e'),by simp[q]⟩
  have z:(hidT h H).get? b=none:=PySem.W.hideAll_none (trk h H) hm
  rw[z] at e; cases e
def xqf (g h:Heap) (L:Addr):List (Addr × Obj):=(List.range h.objs.size).filterMap fun a=>if a=L\/(g.get? a).isSome=true then none else (h.get? a).map fun o=>(a,o)
def rest (g h:Heap) (L d:Addr):List (Addr × Obj):=(xqf g h L).filter fun p=>decide (p.1≠d)
structure Mod (K:PySem.W.Frag) (mg:Str->Option Value) (base:Heap):Prop where
 kin:K.In base
 glob:base.Ns mainGlobals mg
 blt:∃ mb,base.Ns builtinsNs mb/\∀ x:Str,x≠"__name__"->mb x=bootBuiltins x
 nolimit:base.NoLimit
structure Cx where
 prog:Program
 w:World
 K:PySem.W.Frag
 mg:Str->Option Value
 base:Heap
 A:Around
 N:List Str
 s₀:Shared
 H₀:Hp
 env:Env
 outer:List Env
 stack:List Env
 ex:List Addr
 fn:Str->Bool
 calm:Bool
 pn:List (Addr × Obj)
 xe:Value->Shared->Prop
def frs (l:List Env):List Addr:=l.filterMap (·.frame)
abbrev Cx.fs (X:Cx):List Addr:=frs X.outer
def Vis (sc:Scope) (x:Str):Prop:=sc.names.lookup x=some .local\/sc.names.lookup x=some .cell\/sc.names.lookup x=some .free
def Loc (sc:Scope) (x:Str):Prop:=sc.names.lookup x=some .local\/sc.names.lookup x=some .cell
def Look (env:Env) (h:Heap) (m:Str->Option Value) (x:Str) (u:Value):Prop :=
 (env.kindOf x=some .local/\m x=some u)\/((env.kindOf x=some .cell\/env.kindOf x=some .free)/\∃ c,env.cells.lookup x=some c/\h.IsCell c (some u))
structure Cx.Ok (X:Cx):Prop where
 mod:Mod X.K X.mg X.base
 kind:X.env.scope.kind=.function
 glob:X.env.globals=mainGlobals
 blt:X.env.builtins=builtinsNs
 above:X.s₀.heap.objs.size<=X.env.locals
 inj:∀ x y c,X.env.cells.lookup x=some c->X.env.cells.lookup y=some c->x=y
 has:∀ x,(X.env.kindOf x=some .cell\/X.env.kindOf x=some .free)->∃ c,X.env.cells.lookup x=some c
 cab:∀ x c,X.fn x=true->X.env.cells.lookup x=some c->X.s₀.heap.objs.size<=c
 hd:X.calm=true->X.A.handled=none
 frames:X.A.frames=some X.stack
 stk:X.stack=X.outer\/(X.stack=X.env::X.outer/\X.env.frame=some X.env.locals)
 exf:∀ b∈X.ex,b≠X.env.locals/\∀ x c,X.env.cells.lookup x=some c->c≠b
 bs:∀ b o,X.base.get? b=some o->X.s₀.heap.get? b=some o/\X.H₀ b=none
 bsz:X.base.objs.size<=X.s₀.heap.objs.size
 noex:∀ b o,X.base.get? b=some o->b∉X.ex
 exfs:∀ b∈X.ex,b∉X.fs
 funs:X.s₀.heap.FunFrames X.base X.outer
 frf:∀ b∈X.fs,X.H₀ b=none
structure Inv (X:Cx) (pins:List (Addr × Obj)) (σ:List (Option V)) (H:Hp) (s:Shared):Prop where
 ok:X.Ok
 os:s.os=X.s₀.os
 bare:AllBare s.gens
 base:Un X.fs X.ex X.H₀ H X.s₀.heap s.heap
 loc:∃ m,s.heap.Ns X.env.locals m/\∀(i:Nat) (x:Str) (v:V),X.N[i]?=some x->σ[i]?=some (some v)->Vis X.env.scope x->∃ u,RelV v u/\Look X.env s.heap m x u
 cell:∀ x c,X.env.cells.lookup x=some c->∃ v,s.heap.IsCell c v
 free:H X.env.locals=none
 freeC:∀ x c,X.env.cells.lookup x=some c->H c=none
 pin:∀ p∈X.pn++pins,s.heap.get? p.1=some p.2/\H p.1=none/\p.1≠X.env.locals/\p.1∉X.fs/\∀ v,p.2.data≠.cell v
 hok:HOk X.prog X.w H s.heap
 len:σ.length=X.N.length
section
variable {X:Cx}{pins:List (Addr × Obj)}{σ:List (Option V)}{H H':Hp}{s:Shared}{h':Heap}
theorem Cx.Ok.nofr (ok:X.Ok) {b:Addr}{o:Obj} (e:X.base.get? b=some o):b∉X.fs:=fun hb=>by
 have:=(ok.funs.mem hb).1
 rw[e] at this; cases this
theorem Inv.bs (I:Inv X pins σ H s):∀ b o,X.base.get? b=some o->s.heap.get? b=some o/\H b=none:=fun b o e =>
 ⟨I.base.keep b o (I.ok.bs b o e).1 (I.ok.bs b o e).2 (I.ok.nofr e) (I.ok.noex b o e),I.base.free b o (I.ok.bs b o e).1 (I.ok.bs b o e).2 (I.ok.noex b o e)⟩
theorem Inv.bk (I:Inv X pins σ H s):∀ b o,X.base.get? b=some o->s.heap.get? b=some o:=fun b o e=>(I.bs b o e).1
theorem Inv.mod (I:Inv X pins σ H s):Mod X.K X.mg X.base:=I.ok.mod
theorem Inv.kIn (I:Inv X pins σ H s):X.K.In s.heap:=I.ok.mod.kin.keeps I.bk
theorem Inv.fr (I:Inv X pins σ H s):∃ m,Fr X.base X.env.locals s.heap m :=
 let ⟨m,hn,_⟩:=I.loc
 ⟨m,hn,I.bk,Nat.le_trans I.ok.bsz I.ok.above⟩
theorem Inv.lt (I:Inv X pins σ H s):X.env.locals<s.heap.objs.size:=let ⟨_,hn,_⟩:=I.loc; hn.lt
theorem Inv.sz (I:Inv X pins σ H s):X.s₀.heap.objs.size<=s.heap.objs.size:=Nat.le_trans I.ok.above (Nat.le_of_lt I.lt)
theorem Inv.nofs (I:Inv X pins σ H s) {a:Addr} (h:s.heap.objs.size<=a):a∉X.fs:=fun hb=>by
 obtain⟨_,o,ho,_⟩:=I.ok.funs.mem hb
 exact absurd (Nat.lt_of_lt_of_le (Heap.lt_size ho) (Nat.le_trans I.sz h)) (Nat.lt_irrefl _)
theorem Inv.cne (I:Inv X pins σ H s):∀ x c,X.env.cells.lookup x=some c->c≠X.env.locals:=fun x c e z=>by
 obtain⟨v,o,ho,hd⟩:=I.cell x c e
 obtain⟨m,⟨o',es,ep,ho',hd',_⟩,_⟩:=I.loc
 rw[z,ho'] at ho; cases ho; rw[hd'] at hd; cases hd
theorem Inv.funs (I:Inv X pins σ H s):s.heap.FunFrames X.base X.outer:=by
 have all:∀(l:List Env),(∀ b∈frs l,b∈X.fs)->X.s₀.heap.FunFrames X.base l->s.heap.FunFrames X.base l:=by
  intro l
  induction l with
  | nil=>intro _ _; trivial
  | cons env r ih =>
   intro hs hl
   obtain⟨hk,⟨L,o,hf,hn,ho,hd⟩,hr⟩:=hl
   have hL:L∈X.fs:=hs L (by unfold frs; rw[List.filterMap_cons,hf]; exact List.mem_cons_self)
   obtain⟨sl,e⟩:=I.base.slot L o ho (I.ok.frf L hL) hL fun z=>I.ok.exfs L z hL
   exact⟨hk,⟨L,_,hf,hn,e,hd⟩,ih (fun b hb=>hs b (by unfold frs; rw[List.filterMap_cons,hf]; exact List.mem_cons_of_mem _ hb)) hr⟩
 exact all X.outer (fun _ hb=>hb) I.ok.funs
theorem Inv.stack (I:Inv X pins σ H s):s.heap.FunFrames X.base X.stack:=by
 rcases I.ok.stk with e|⟨e,hf⟩
 .rw [e]; exact I.funs
 .rw [e]
  obtain⟨m,hn,_⟩:=I.loc
  refine .cons (by rw[I.ok.kind]; decide) hf hn ?_ I.funs
  exact Heap.get?_none_of_le (Nat.le_trans I.ok.bsz I.ok.above)
theorem Inv.stkSub (I:Inv X pins σ H s):∀ b∈frs X.stack,b∈X.env.locals::X.fs:=fun b hb=>by
 rcases I.ok.stk with e|⟨e,hf⟩
 .rw [e] at hb; exact List.mem_cons_of_mem _ hb
 .rw [e] at hb
  unfold frs at hb
  rw[List.filterMap_cons,hf] at hb
  exact hb
theorem Inv.stkFree (I:Inv X pins σ H s):∀ b∈frs X.stack,H b=none:=fun b hb=>by
 rcases List.mem_cons.mp (I.stkSub b hb) with e|hb
 .rw [e]; exact I.free
 .obtain ⟨_,o,ho,_⟩:=I.ok.funs.mem hb
  exact I.base.free b o ho (I.ok.frf b hb) fun z=>I.ok.exfs b z hb
theorem Inv.step {g':Array GenState}{t':Nat}{d':Drawn}{ch:List Addr} (I:Inv X pins σ H s)
    (hch:∀ b∈ch,(b∈X.ex\/X.s₀.heap.objs.size<=b)/\b≠X.env.locals/\(∀ x c,X.env.cells.lookup x=some c->c≠b)/\∀ p∈X.pn++pins,p.1≠b)
    (keep:∀ b o,b≠X.env.locals->b∉X.fs->b∉ch->s.heap.get? b=some o->H b=none->h'.get? b=some o)
    (slot:∀ b o,b≠X.env.locals->b∈X.fs->b∉ch->s.heap.get? b=some o->H b=none->∃ sl,h'.get? b=some { o with slots:=sl }) (free:∀ b o,b∉ch->s.heap.get? b=some o->H b=none->H' b=none)
    (there:∀ b o,b∉ch->s.heap.get? b=some o->∃ o',h'.get? b=some o')
    (tups:∀ b xs,H b=some (.tup xs)->H' b=some (.tup xs)) (frzs:∀ b o u,H b=some (.frz o u)->H' b=some (.frz o u)) (tbls:∀ b ps,H b=some (.tbl ps)->∃ more,H' b=some (.tbl (ps++more)))
    (ns:∀ m,s.heap.Ns X.env.locals m->h'.Ns X.env.locals m) (hok:HOk X.prog X.w H' h') (hg:AllBare g') :
    Inv X pins σ H' { s with heap:=h',gens:=g',drawn:=d',toks:=t' }:=by
  have neL:∀ b o,X.s₀.heap.get? b=some o->b≠X.env.locals:=fun b o e=>Nat.ne_of_lt (Nat.lt_of_lt_of_le (Heap.lt_size e) I.ok.above)
  have neC:∀ b o,X.s₀.heap.get? b=some o->b∉X.ex->b∉ch:=fun b o e hx hb=>by
    rcases (hch b hb).1 with z|z
    . exact hx z
    . exact absurd (Nat.lt_of_lt_of_le (Heap.lt_size e) z) (Nat.lt_irrefl _)
  have cellK:∀ x c,X.env.cells.lookup x=some c->∀ v,s.heap.IsCell c v->h'.IsCell c v:=fun x c e v ⟨o,ho,hd⟩=>by
    have nch:c∉ch:=fun z=>(hch c z).2.2.1 x c e rfl
    by_cases hc:c∈X.fs
    . obtain⟨sl,q⟩:=slot c o (I.cne x c e) hc nch ho (I.freeC x c e)
      exact⟨_,q,hd⟩
    . exact⟨o,keep c o (I.cne x c e) hc nch ho (I.freeC x c e),hd⟩
  refine⟨I.ok,I.os,hg,⟨fun b o e n hb hx=>?_,fun b o e n hb hx=>?_,fun b o e n hx=>?_,fun b o e hx=>?_,fun b xs e=>tups b xs (I.base.tups b xs e),fun b o xs e=>frzs b o xs (I.base.frzs b o xs e),fun b ps e=>?_⟩,?_,fun x c e=>?_,?_,fun x c e=>?_,fun p hp=>?_,hok,I.len⟩
  . exact keep b o (neL b o e) hb (neC b o e hx) (I.base.keep b o e n hb hx) (I.base.free b o e n hx)
  . obtain⟨sl,e1⟩:=I.base.slot b o e n hb hx
    obtain⟨sl',e2⟩:=slot b _ (neL b o e) hb (neC b o e hx) e1 (I.base.free b o e n hx)
    exact⟨sl',e2⟩
  . obtain⟨o',e1⟩:=I.base.there b o e hx
    exact free b o' (neC b o e hx) e1 (I.base.free b o e n hx)
  . obtain⟨o',e1⟩:=I.base.there b o e hx
    exact there b o' (neC b o e hx) e1
  . obtain⟨m1,e1⟩:=I.base.tbls b ps e
    obtain⟨m2,e2⟩:=tbls b _ e1
    exact⟨m1++m2,by rw[e2,Array.append_assoc]⟩
  . obtain⟨m,hn,hl⟩:=I.loc
    refine⟨m,ns m hn,fun i x v e1 e2 e3=>?_⟩
    obtain⟨u,r,l⟩:=hl i x v e1 e2 e3
    refine⟨u,r,?_⟩
    rcases l with l|⟨k,c,e,z⟩
    . exact .inl l
    . exact .inr ⟨k,c,e,cellK x c e _ z⟩
  . obtain⟨v,z⟩:=I.cell x c e
    exact⟨v,cellK x c e v z⟩
  . obtain⟨m,⟨o,_,_,ho,_⟩,_⟩:=I.loc
    exact free _ o (fun z=>(hch _ z).2.1 rfl) ho I.free
  . obtain⟨v,o,ho,hd⟩:=I.cell x c e
    exact free c o (fun z=>(hch c z).2.2.1 x c e rfl) ho (I.freeC x c e)
  . obtain⟨e,n,ne,nf,d⟩:=I.pin p hp
    have nch:p.1∉ch:=fun z=>(hch p.1 z).2.2.2 p hp rfl
    exact⟨keep p.1 p.2 ne nf nch e n,free p.1 p.2 nch e n,ne,nf,d⟩
theorem Inv.un {t':Nat} (I:Inv X pins σ H s) (u:Un X.fs [] H H' s.heap h') (hok:HOk X.prog X.w H' h'):Inv X pins σ H' { s with heap:=h',toks:=t' }:=by
 obtain⟨m,⟨o,es,ep,ho,r⟩,_⟩:=id I.loc
 obtain⟨sl,hL⟩:=u.any ho I.free (by simp)
 exact I.step (g':=s.gens) (d':=s.drawn) (ch:=[]) (fun _ z=>nomatch z) (fun b o _ hb _ e n=>u.keep b o e n hb (by simp)) (fun b o _ hb _ e n=>u.slot b o e n hb (by simp)) (fun b o _ e n=>u.free b o e n (by simp)) (fun b o _ e=>u.there b o e (by simp)) u.tups u.frzs u.tbls (fun m' hm=>by
  obtain⟨o',es',ep',ho',r'⟩:=hm
  rw[ho] at ho'; cases ho'
  exact⟨_,es',ep',hL,r'⟩) hok I.bare
theorem Inv.call {g':Array GenState}{t':Nat}{d':Drawn}{ch:List Addr} (I:Inv X pins σ H s) (u:Un (frs X.stack) ch H H' s.heap h') (hok:HOk X.prog X.w H' h') (hg:AllBare g')
    (hch:∀ b∈ch,(b∈X.ex\/X.s₀.heap.objs.size<=b)/\b≠X.env.locals/\(∀ x c,X.env.cells.lookup x=some c->c≠b)/\∀ p∈X.pn++pins,p.1≠b) :
    Inv X pins σ H' { s with heap:=h',gens:=g',drawn:=d',toks:=t' }:=by
  obtain⟨m,⟨o,es,ep,ho,r⟩,_⟩:=id I.loc
  obtain⟨sl,hL⟩:=u.any ho I.free fun z=>(hch _ z).2.1 rfl
  exact I.step (ch:=ch) hch (fun b o hL hb hc e n=>u.keep b o e n (fun z=>(List.mem_cons.mp (I.stkSub b z)).elim hL hb) hc) (fun b o _ _ hc e n=>u.any e n hc) (fun b o hc e n=>u.free b o e n hc) (fun b o hc e=>u.there b o e hc) u.tups u.frzs u.tbls (fun m' hm=>by
    obtain⟨o',es',ep',ho',r'⟩:=hm
    rw[ho] at ho'; cases ho'
    exact⟨_,es',ep',hL,r'⟩) hok hg
theorem Inv.turned {t':Nat}{it:Addr} (I:Inv X pins σ H s) (k:∀ b o,b≠it->s.heap.get? b=some o->h'.get? b=some o) (hn:H it=none) (hL:it≠X.env.locals)
    (h1:it∈X.ex\/X.s₀.heap.objs.size<=it) (h2:∀ x c,X.env.cells.lookup x=some c->c≠it) (h3:∀ p∈X.pn++pins,p.1≠it):Inv X pins σ H { s with heap:=h',toks:=t' }:=by
  have nit:∀ b u,H b=some u->b≠it:=fun b u e z=>by rw[z,hn] at e; cases e
  refine I.step (g':=s.gens) (d':=s.drawn) (ch:=[it]) (fun b hb=>?_) (fun b o _ _ hc e _=>k b o (fun z=>hc (by simp[z])) e) (fun b o _ _ hc e _=>⟨o.slots,k b o (fun z=>hc (by simp[z])) e⟩) (fun _ _ _ _ n=>n)
    (fun b o hc e=>⟨o,k b o (fun z=>hc (by simp[z])) e⟩) (fun _ _ e=>e) (fun _ _ _ e=>e) (fun b ps e=>⟨#[],by rw[e]; simp⟩) (fun m hm=>?_) (fun b u e=>?_) I.bare
  . have e:b=it:=by simpa using hb
    subst e
    exact⟨h1,hL,h2,h3⟩
  . obtain⟨o,es,ep,ho,r⟩:=hm
    exact⟨o,es,ep,k _ o (Ne.symm hL) ho,r⟩
  . refine (I.hok b u e).stay (fun c v hc q=>k c v ?_ q) (fun _ q=>q) fun _ _ q=>q
    rcases hc with z|z
    . rw[z]; exact nit b u e
    . exact nit c _ z
theorem Inv.tok (I:Inv X pins σ H s) (t:Nat):Inv X pins σ H { s with toks:=t }:=I.un (h':=s.heap) (t':=t) Un.refl I.hok
theorem Inv.kept {t':Nat} (I:Inv X pins σ H s) (k:∀ b u,s.heap.get? b=some u->h'.get? b=some u):Inv X pins σ H { s with heap:=h',toks:=t' }:=I.un (Un.kept k) (I.hok.kept k)
theorem Inv.laid {a:Addr}{o:HO}{t':Nat} (I:Inv X pins σ H s) (k:∀ b u,s.heap.get? b=some u->h'.get? b=some u) (hp:s.heap.objs.size<=a) (new:xav X.prog X.w (upd H a o) h' a o) :
    Inv X pins σ (upd H a o) { s with heap:=h',toks:=t' }:=I.un (Un.laid k hp (I.hok.fresh hp)) (I.hok.laid k hp new)
theorem Inv.write {x e:Addr}{o:HO}{t':Nat} (I:Inv X pins σ H s) (mu:Mut (H x)) (he:e=x\/H e=some (.own x)) (k:∀ b u,b≠e->s.heap.get? b=some u->h'.get? b=some u) (heo:∃ u,h'.get? e=some u)
    (new:xav X.prog X.w (upd H x o) h' x o):Inv X pins σ (upd H x o) { s with heap:=h',toks:=t' }:=I.un (Un.write mu he k heo) (I.hok.write mu he k heo new)
theorem Inv.weak {σ':List (Option V)} (I:Inv X pins σ H s) (hl:σ'.length=σ.length) (w:∀(i:Nat) v,σ'[i]?=some (some v)->σ[i]?=some (some v)):Inv X pins σ' H s :=
 ⟨I.ok,I.os,I.bare,I.base,let ⟨m,hn,hl'⟩:=I.loc; ⟨m,hn,fun i x v e1 e2 e3=>hl' i x v e1 (w i v e2) e3⟩,I.cell,I.free,I.freeC,I.pin,I.hok,hl.trans I.len⟩
theorem Inv.pins_of {pins':List (Addr × Obj)} (I:Inv X pins σ H s) (h:∀ p∈pins',s.heap.get? p.1=some p.2/\H p.1=none/\p.1≠X.env.locals/\p.1∉X.fs/\∀ v,p.2.data≠.cell v):Inv X pins' σ H s :=
 ⟨I.ok,I.os,I.bare,I.base,I.loc,I.cell,I.free,I.freeC,fun p hp=>(List.mem_append.mp hp).elim (fun z=>I.pin p (List.mem_append_left _ z)) (h p),I.hok,I.len⟩
theorem xi8 {N:List Str} (hN:N.Nodup) {i j:Nat}{x:Str} (a:N[i]?=some x) (b:N[j]?=some x):i=j:=by
 obtain⟨h1,e1⟩:=List.getElem?_eq_some_iff.mp a
 obtain⟨h2,e2⟩:=List.getElem?_eq_some_iff.mp b
 exact (List.getElem_inj hN).mp (e1.trans e2.symm)
theorem xif {M:Model}{A:Around}{E:Value->Shared->Prop}{i:Nat}{x:Str}{v:V}{u:Value}{Q:Unit->Shared->Prop} (I:Inv X pins σ H s) (hN:X.N.Nodup) (hi:X.N[i]?=some x) (hx:Loc X.env.scope x) (r:RelV v u)
    (h:∀ s',Inv X pins (σ.set i (some v)) H s'->(∃ a,Heap.SameBut a s.heap s'.heap/\(a=X.env.locals\/X.env.cells.lookup x=some a))->Q () s') (hf:X.fn x=true\/X.env.scope.names.lookup x=some .local:=by first|exact .inl rfl|exact .inr rfl|assumption):wpAny M A (storeName X.env x u) Q E s:=by
  obtain⟨m,hn,hl⟩:=id I.loc
  have hcls:(X.env.scope.kind == .class||(X.env.scope.kind == .module&&X.env.locals != X.env.globals))=false:=by rw[I.ok.kind]; rfl
  have hiσ:i<σ.length:=by rw[I.len]; exact (List.getElem?_eq_some_iff.mp hi).1
  have cne:=I.cne
  have tracked:∀{a:Addr}{h':Heap},(∃ o,s.heap.get? a=some o/\H a=none)->Heap.SameBut a s.heap h'->HOk X.prog X.w H h':=fun {a h'} ha hs b ob e=>by
    obtain⟨_,_,hfree⟩:=ha
    refine (I.hok b ob e).stay (fun c w' hc q=>(hs.2 c ?_).trans q) (fun _ q=>q) fun _ _ q=>q
    rintro rfl
    rcases hc with rfl|hc
    . rw[hfree] at e; cases e
    . rw[hfree] at hc; cases hc
  rcases hx with hk|hk
  . refine wpAny_storeName_local hk hn (fun h' hn' hs=>?_) hcls
    obtain⟨oL,_,_,hoL,_⟩:=id hn
    refine h _ ⟨I.ok,I.os,I.bare,⟨fun b o e n hb hx=>?_,fun b o e n hb hx=>?_,I.base.free,fun b o e hx=>?_,I.base.tups,I.base.frzs,I.base.tbls⟩,⟨_,hn',fun j y v' e1 e2 e3=>?_⟩,fun y c e=>?_,I.free,I.freeC,fun p hp=>?_,tracked ⟨oL,hoL,I.free⟩ hs,by simpa using I.len⟩ ⟨_,hs,.inl rfl⟩
    . exact (hs.2 b (Nat.ne_of_lt (Nat.lt_of_lt_of_le (Heap.lt_size e) I.ok.above))).trans (I.base.keep b o e n hb hx)
    . obtain⟨sl,e1⟩:=I.base.slot b o e n hb hx
      exact⟨sl,(hs.2 b (Nat.ne_of_lt (Nat.lt_of_lt_of_le (Heap.lt_size e) I.ok.above))).trans e1⟩
    . obtain⟨o',e1⟩:=I.base.there b o e hx
      exact⟨o',(hs.2 b (Nat.ne_of_lt (Nat.lt_of_lt_of_le (Heap.lt_size e) I.ok.above))).trans e1⟩
    . by_cases hj:j=i
      . subst hj
        rw[hi] at e1; cases e1
        rw[List.getElem?_set_self hiσ] at e2
        cases e2
        exact⟨u,r,.inl ⟨hk,by simp⟩⟩
      . rw[List.getElem?_set_ne (Ne.symm hj)] at e2
        obtain⟨u',r',q⟩:=hl j y v' e1 e2 e3
        refine⟨u',r',?_⟩
        rcases q with⟨k,e⟩|⟨k,c,e,z⟩
        . refine .inl ⟨k,?_⟩
          have:y≠x:=fun e=>hj (xi8 hN e1 (e▸hi))
          simp[this,e]
        . exact .inr ⟨k,c,e,z.sameBut hs (cne y c e)⟩
    . obtain⟨w',z⟩:=I.cell y c e
      exact⟨w',z.sameBut hs (cne y c e)⟩
    . obtain⟨e,n,ne,nf,d⟩:=I.pin p hp
      exact⟨(hs.2 p.1 ne).trans e,n,ne,nf,d⟩
  . have hfn:X.fn x=true:=by
      rcases hf with z|z
      . exact z
      . rw[z] at hk; cases hk
    obtain⟨c,hc⟩:=I.ok.has x (.inl hk)
    obtain⟨w',z⟩:=I.cell x c hc
    refine wpAny_storeName_cell I.ok.kind hk hc z (fun h' hc' hs=>?_)
    obtain⟨oc,hoc,hocd⟩:=id z
    refine h { s with heap:=h' } ⟨I.ok,I.os,I.bare,⟨fun b o e n hb hx=>?_,fun b o e n hb hx=>?_,I.base.free,fun b o e hx=>?_,I.base.tups,I.base.frzs,I.base.tbls⟩,⟨m,hn.sameBut hs (Ne.symm (cne x c hc)),fun j y v' e1 e2 e3=>?_⟩,fun y c' e=>?_,I.free,I.freeC,fun p hp=>?_,tracked ⟨oc,hoc,I.freeC x c hc⟩ hs,by simpa using I.len⟩ ⟨c,hs,.inr hc⟩
    . exact (hs.2 b (Nat.ne_of_lt (Nat.lt_of_lt_of_le (Heap.lt_size e) (I.ok.cab x c hfn hc)))).trans (I.base.keep b o e n hb hx)
    . obtain⟨sl,e1⟩:=I.base.slot b o e n hb hx
      exact⟨sl,(hs.2 b (Nat.ne_of_lt (Nat.lt_of_lt_of_le (Heap.lt_size e) (I.ok.cab x c hfn hc)))).trans e1⟩
    . obtain⟨o',e1⟩:=I.base.there b o e hx
      exact⟨o',(hs.2 b (Nat.ne_of_lt (Nat.lt_of_lt_of_le (Heap.lt_size e) (I.ok.cab x c hfn hc)))).trans e1⟩
    . by_cases hj:j=i
      . subst hj
        rw[hi] at e1; cases e1
        rw[List.getElem?_set_self hiσ] at e2
        cases e2
        exact⟨u,r,.inr ⟨.inl hk,c,hc,hc'⟩⟩
      . rw[List.getElem?_set_ne (Ne.symm hj)] at e2
        obtain⟨u',r',q⟩:=hl j y v' e1 e2 e3
        refine⟨u',r',?_⟩
        rcases q with q|⟨k,c',e,z'⟩
        . exact .inl q
        . refine .inr ⟨k,c',e,z'.sameBut hs ?_⟩
          rintro rfl
          exact hj (xi8 hN e1 (I.ok.inj _ _ _ e hc▸hi))
    . by_cases hcc:c'=c
      . subst hcc; exact⟨_,hc'⟩
      . obtain⟨w2,z2⟩:=I.cell y c' e
        exact⟨w2,z2.sameBut hs hcc⟩
    . obtain⟨e,n,ne,nf,d⟩:=I.pin p hp
      refine⟨(hs.2 p.1 ?_).trans e,n,ne,nf,d⟩
      intro q
      rw[q,hoc] at e
      have q':oc=p.2:=Option.some.inj e
      exact d w' (by rw[<- q']; exact hocd)
theorem xjh {M:Model}{A:Around}{E:Value->Shared->Prop}{i:Nat}{x:Str}{v:V}{u:Value}{Q:Unit->Shared->Prop} (I:Inv X pins σ H s) (hN:X.N.Nodup) (hi:X.N[i]?=some x) (hx:Loc X.env.scope x) (r:RelV v u)
    (h:∀ s',Inv X pins (σ.set i (some v)) H s'->Q () s') (hf:X.fn x=true\/X.env.scope.names.lookup x=some .local:=by first|exact .inl rfl|exact .inr rfl|assumption):wpAny M A (storeName X.env x u) Q E s :=
  xif I hN hi hx r (fun s' I' _=>h s' I') hf
theorem Inv.call' {s':Shared}{ch:List Addr} (I:Inv X pins σ H s) (ho:s'.os=s.os) (u:Un (frs X.stack) ch H H' s.heap s'.heap) (hok:HOk X.prog X.w H' s'.heap) (hg:AllBare s'.gens)
    (hch:∀ b∈ch,(b∈X.ex\/X.s₀.heap.objs.size<=b)/\b≠X.env.locals/\(∀ x c,X.env.cells.lookup x=some c->c≠b)/\∀ p∈X.pn++pins,p.1≠b):Inv X pins σ H' s':=by
  obtain⟨h',g',d',t',o'⟩:=s'
  have e:o'=s.os:=ho
  subst e
  exact I.call (g':=g') (t':=t') (d':=d') u hok hg hch
end
abbrev XK:=Addr->Addr->Hp->Prop
abbrev St:=List (Option V)
abbrev VK:=V->Hp->Prop
abbrev TE:=St->Hp->VK->Prop
abbrev TT:=St->Hp->(Bool->Hp->Prop)->Prop
abbrev TA:=St->Hp->(List V->Hp->Prop)->Prop
structure Ends where
 nx:St->Hp->Prop
 rt:VK
 bk:St->Hp->Prop:=fun _ _=>False
 ct:St->Hp->Prop:=fun _ _=>False
abbrev TS:=Ends->St->Hp->Prop
def EP (X:Cx) (pins:List (Addr × Obj)) (σ:St) (Q:VK) (u:Value) (s':Shared):Prop:=∃ v H',Inv X pins σ H' s'/\RelV v u/\Q v H'
def TP (X:Cx) (pins:List (Addr × Obj)) (σ:St) (Q:Bool->Hp->Prop) (b:Bool) (s':Shared):Prop:=∃ H',Inv X pins σ H' s'/\Q b H'
def AP (X:Cx) (pins:List (Addr × Obj)) (σ:St) (Q:List V->Hp->Prop) (us:List Value) (s':Shared):Prop:=∃ vs H',Inv X pins σ H' s'/\Vals vs us/\Q vs H'
def SP (X:Cx) (pins:List (Addr × Obj)) (D:Ends) (f:Flow) (s':Shared):Prop :=
 match f with
 | .next=>∃ σ' H',Inv X pins σ' H' s'/\D.nx σ' H'
 | .brk=>∃ σ' H',Inv X pins σ' H' s'/\D.bk σ' H'
 | .cont=>∃ σ' H',Inv X pins σ' H' s'/\D.ct σ' H'
 | .ret u=>∃ v σ' H',Inv X pins σ' H' s'/\RelV v u/\D.rt v H'
def PE (X:Cx) (e:Expr) (t:TE):Prop :=
 ∀(pins:List (Addr × Obj)) (s:Shared) (σ:St) (H:Hp) (Q:VK),Inv X pins σ H s->t σ H Q->wpAny (model X.prog X.w) X.A (eval e X.env) (EP X pins σ Q) X.xe s
def PT (X:Cx) (e:Expr) (t:TT):Prop :=
 ∀(pins:List (Addr × Obj)) (s:Shared) (σ:St) (H:Hp) (Q:Bool->Hp->Prop),Inv X pins σ H s->t σ H Q->wpAny (model X.prog X.w) X.A (isTrue e X.env (eval e X.env)) (TP X pins σ Q) X.xe s
def PW (X:Cx) (e:Expr) (t:TT):Prop :=
 ∀(whole:Sem Value) (pins:List (Addr × Obj)) (s:Shared) (σ:St) (H:Hp) (Q:Bool->Hp->Prop),Inv X pins σ H s->t σ H Q->wpAny (model X.prog X.w) X.A (isTrue e X.env whole) (TP X pins σ Q) X.xe s
theorem PW.pt {X:Cx}{e:Expr}{t:TT} (h:PW X e t):PT X e t:=h _
def PA (X:Cx) (es:List Expr) (t:TA):Prop :=
 ∀(pos:Pos) (pins:List (Addr × Obj)) (s:Shared) (σ:St) (H:Hp) (Q:List V->Hp->Prop),Inv X pins σ H s->t σ H Q->wpAny (model X.prog X.w) X.A (spliced (backTo pos (starEach es X.env))) (AP X pins σ Q) X.xe s
def PS (X:Cx) (st:Stmt) (t:TS):Prop :=
 ∀(pins:List (Addr × Obj)) (s:Shared) (σ:St) (H:Hp) (D:Ends),Inv X pins σ H s->t D σ H->wpAny (model X.prog X.w) X.A (exec st X.env) (SP X pins D) X.xe s
def PSs (X:Cx) (st:List Stmt) (t:TS):Prop :=
 ∀(pins:List (Addr × Obj)) (s:Shared) (σ:St) (H:Hp) (D:Ends),Inv X pins σ H s->t D σ H->wpAny (model X.prog X.w) X.A (execs st X.env) (SP X pins D) X.xe s
theorem thn {α:Type}{t:Sem α}{Q Q':α->Shared->Prop}{M:Model}{A:Around}{E:Value->Shared->Prop}{s:Shared} (h:wpAny M A t Q E s) (hQ:∀ a s,Q a s->Q' a s):wpAny M A t Q' E s:=wpAny_mono h hQ fun _ _ x=>x
section
variable {X:Cx}
def tVar (i:Nat):TE:=fun σ H Q=>∃ v,σ[i]?=some (some v)/\Q v H
def tC (v:V):TE:=fun _ H Q=>Q v H
theorem xso {i:Nat}{x:Str}{pos:Pos} (hN:X.N[i]?=some x) (hv:Vis X.env.scope x) (hd:(x == ("__debug__":Str))=false:=by decide) (hcd:(x == ("__classdict__":Str))=false:=by decide):PE X (.Name x pos) (tVar i):=by
 intro pins s σ H Q I h
 obtain⟨v,e,h⟩:=h
 obtain⟨m,hn,hl⟩:=I.loc
 obtain⟨u,r,l⟩:=hl i x v hN e hv
 have fin:EP X pins σ Q u s:=⟨v,H,I,r,h⟩
 rcases l with⟨hk,hm⟩|⟨hk,c,hc,hcell⟩
 .exact wpAny_Name (wpAny_loadName_local I.ok.kind hk hn hm fin) hd
 .rcases hk with hk|hk
  .exact wpAny_Name (wpAny_loadName_cell I.ok.kind hk hc hcell fin) hd
  .exact wpAny_Name (wpAny_loadName_free I.ok.kind hk hc hcell fin hcd) hd
theorem xn {i j pos}:PE X (.Constant (.int i) j pos) (tC (.int i)):=fun _ _ _ H _ I h=>wpAny_Constant_int ⟨.int i,H,I.tok _,⟨_,rfl⟩,h⟩
theorem xe2 {b j pos}:PE X (.Constant (.bool b) j pos) (tC (.bl b)):=fun _ _ _ H _ I h=>Constant_bool ⟨.bl b,H,I,rfl,h⟩
theorem xsl {j pos}:PE X (.Constant .none j pos) (tC .non):=fun _ _ _ H _ I h=>Constant_none ⟨.non,H,I,rfl,h⟩
theorem xad {x j pos}:PE X (.Constant (.str x) j pos) (tC (.str x)):=fun _ _ _ H _ I h=>Calls.Constant_str ⟨.str x,H,I.tok _,⟨_,rfl⟩,h⟩
def Gl (X:Cx) (x:Str):Prop:=X.env.kindOf x=some .globalImplicit
theorem xhw {E:Value->Shared->Prop}{pins:List (Addr × Obj)}{s:Shared}{σ:St}{H:Hp}{x:Str}{u:Value}{pos:Pos}{Q:Value->Shared->Prop} (I:Inv X pins σ H s) (hg:Gl X x) (hm:X.mg x=some u) (h:Q u s)
    (hd:(x == ("__debug__":Str))=false:=by decide):wpAny (model X.prog X.w) X.A (eval (.Name x pos) X.env) Q E s :=
  Calls.Name_function_global I.ok.kind hg (Calls.loadGlobal_global (by rw[I.ok.glob]; exact I.mod.glob.keeps I.bk) hm h) hd
theorem xcn {E:Value->Shared->Prop}{pins:List (Addr × Obj)}{s:Shared}{σ:St}{H:Hp}{x:Str}{u:Value}{pos:Pos}{Q:Value->Shared->Prop} (I:Inv X pins σ H s) (hg:Gl X x) (hm:X.mg x=none) (hv:bootBuiltins x=some u) (h:Q u s)
    (hn:x≠"__name__":=by decide) (hd:(x == ("__debug__":Str))=false:=by decide):wpAny (model X.prog X.w) X.A (eval (.Name x pos) X.env) Q E s:=by
  obtain⟨mb,h1,h2⟩:=I.mod.blt
  exact Calls.Name_function_global I.ok.kind hg (Calls.loadGlobal_builtin (by rw[I.ok.glob]; exact I.mod.glob.keeps I.bk) hm (by rw[I.ok.blt]; exact h1.keeps I.bk) ((h2 x hn).trans hv) h) hd
theorem xct {x:Str}{v:V}{u:Value}{pos:Pos} (hg:Gl X x) (hm:X.mg x=some u) (r:RelV v u) (hd:(x == ("__debug__":Str))=false:=by decide):PE X (.Name x pos) (tC v) :=
 fun _ _ _ H _ I h=>xhw I hg hm ⟨v,H,I,r,h⟩ hd
theorem xb8 {x:Str}{v:V}{u:Value}{pos:Pos} (hg:Gl X x) (hm:X.mg x=none) (hv:bootBuiltins x=some u) (r:RelV v u) (hn:x≠"__name__":=by decide) (hd:(x == ("__debug__":Str))=false:=by decide):PE X (.Name x pos) (tC v) :=
 fun _ _ _ H _ I h=>xcn I hg hm hv ⟨v,H,I,r,h⟩ hn hd
variable {a b:Expr}{ta tb:TE}{pos:Pos}
def PC (X:Cx) (op:CmpOp) (a b:Expr) (t:TE):Prop :=
 ∀(pins:List (Addr × Obj)) (s:Shared) (σ:St) (H:Hp) (Q:VK),Inv X pins σ H s->t σ H Q ->
  wpAny (model X.prog X.w) X.A (eval a X.env) (fun v s₁=>wpAny (model X.prog X.w) X.A (eval b X.env) (fun u s₂=>wpAny (model X.prog X.w) X.A (compareOp op v u) (EP X pins σ Q) X.xe s₂) X.xe s₁) X.xe s
theorem xi5 (b:Expr) {op:CmpOp} (h:op≠.In) (h2:op≠.NotIn):behindInMarks op b=false:=by
 have e1:(op == CmpOp.In)=false:=by cases op<;>first|rfl|exact absurd rfl h
 have e2:(op == CmpOp.NotIn)=false:=by cases op<;>first|rfl|exact absurd rfl h2
 cases b<;>simp[behindInMarks,e1,e2]
def tB (t:TE):TT:=fun σ H Q=>t σ H fun x H1=>∃ c,x=.bl c/\Q c H1
theorem xns {op:CmpOp}{t:TE} (h:PC X op a b t) (h1:behindInMarks op b=false:=by first|exact xi5 _ (by decide) (by decide)|rfl):PE X (.Compare a [op] [b] pos) t:=fun pins s σ H Q I hw=>wpAny_Compare1 (h pins s σ H Q I hw) h1
theorem xd6 {op:CmpOp}{t:TE} (h:PC X op a b t) (h1:behindInMarks op b=false:=by first|exact xi5 _ (by decide) (by decide)|rfl):PT X (.Compare a [op] [b] pos) (tB t):=by
 intro pins s σ H Q I hw
 refine wpAny_isTrue_Compare1 (thn (h pins s σ H _ I hw) fun v s1 h1=>thn h1 fun u s2 h2=>thn h2 fun c s3 ⟨x,H1,I1,r1,q1⟩=>?_) h1
 obtain⟨d,rfl,q⟩:=q1
 cases r1
 exact wpAny_truthy_bool ⟨H1,I1,q⟩
theorem xa9 {e:Expr}{t:TE} (h:PE X e t) (he:∀ whole,isTrue e X.env whole=(do let v <- whole; standAt e.pos; holding [v] (truthy v)):=by intro _; rfl):PT X e (tB t):=by
 intro pins s σ H Q I hw
 refine isTrue_plain (thn (h pins s σ H _ I hw) fun v s1 ⟨x,H1,I1,r1,q1⟩=>?_) (he _)
 obtain⟨d,rfl,q⟩:=q1
 cases r1
 exact wpAny_truthy_bool ⟨H1,I1,q⟩
variable {tA tB':TT}{rest:List Expr}
def tAnd (t u:TT):TT:=fun σ H Q=>t σ H fun c H1=>if c=true then u σ H1 Q else Q false H1
def tOr (t u:TT):TT:=fun σ H Q=>t σ H fun c H1=>if c=true then Q true H1 else u σ H1 Q
def tNot (t:TT):TT:=fun σ H Q=>t σ H fun c H1=>Q (!c) H1
theorem xh0 (ha:PT X a tA):PW X (.BoolOp .And [a] pos) tA:=by
 intro wh pins s σ H Q I h
 refine isTrue_and (thn (ha pins s σ H Q I h) fun c s1 e=>?_)
 cases c with
 | true=>exact isTrue_and_nil e
 | false=>exact e
theorem xcm (ha:PT X a tA):PW X (.BoolOp .Or [a] pos) tA:=by
 intro wh pins s σ H Q I h
 refine isTrue_or (thn (ha pins s σ H Q I h) fun c s1 e=>?_)
 cases c with
 | false=>exact isTrue_or_nil e
 | true=>exact e
theorem xi7 (ha:PT X a tA) (hb:PW X (.BoolOp .And (b::rest) pos) tB'):PW X (.BoolOp .And (a::b::rest) pos) (tAnd tA tB'):=by
 intro wh pins s σ H Q I h
 refine isTrue_and (thn (ha pins s σ H _ I h) fun c s1 ⟨H1,I1,q1⟩=>?_)
 cases c with
 | true=>exact hb wh pins s1 σ H1 Q I1 q1
 | false=>exact⟨H1,I1,q1⟩
theorem xcj (ha:PT X a tA) (hb:PW X (.BoolOp .Or (b::rest) pos) tB'):PW X (.BoolOp .Or (a::b::rest) pos) (tOr tA tB'):=by
 intro wh pins s σ H Q I h
 refine isTrue_or (thn (ha pins s σ H _ I h) fun c s1 ⟨H1,I1,q1⟩=>?_)
 cases c with
 | true=>exact⟨H1,I1,q1⟩
 | false=>exact hb wh pins s1 σ H1 Q I1 q1
theorem xbh (ha:PT X a tA):PT X (.UnaryOp .Not a pos) (tNot tA):=by
 intro pins s σ H Q I h
 exact isTrue_not (ha pins s σ H (fun c H1=>Q (!c) H1) I h)
def xuf (ta tb:TE):TE:=fun σ H Q=>ta σ H fun x H1=>∃ c,x=.bl c/\if c=true then tb σ H1 Q else Q (.bl false) H1
def tOrV (ta tb:TE):TE:=fun σ H Q=>ta σ H fun x H1=>∃ c,x=.bl c/\if c=true then Q (.bl true) H1 else tb σ H1 Q
def xts (ta:TE):TE:=fun σ H Q=>ta σ H fun x H1=>∃ c,x=.bl c/\Q (.bl (!c)) H1
theorem xdo {op}{t:TE} (h:PE X a t):PE X (.BoolOp op [a] pos) t:=fun pins s σ H Q I hw=>BoolOp_one (h pins s σ H Q I hw)
theorem xco (ha:PE X a ta) (hb:PE X (.BoolOp .And (b::rest) pos) tb):PE X (.BoolOp .And (a::b::rest) pos) (xuf ta tb):=by
 intro pins s σ H Q I h
 refine BoolOp_and (thn (ha pins s σ H _ I h) fun v s1 ⟨x,H1,I1,r1,q1⟩=>?_)
 obtain⟨c,rfl,q1⟩:=q1
 cases r1
 refine wpAny_truthy_bool ?_
 cases c with
 | true=>exact hb pins s1 σ H1 Q I1 q1
 | false=>exact⟨.bl false,H1,I1,rfl,q1⟩
theorem xpw (ha:PE X a ta) (hb:PE X (.BoolOp .Or (b::rest) pos) tb):PE X (.BoolOp .Or (a::b::rest) pos) (tOrV ta tb):=by
 intro pins s σ H Q I h
 refine BoolOp_or (thn (ha pins s σ H _ I h) fun v s1 ⟨x,H1,I1,r1,q1⟩=>?_)
 obtain⟨c,rfl,q1⟩:=q1
 cases r1
 refine wpAny_truthy_bool ?_
 cases c with
 | false=>exact hb pins s1 σ H1 Q I1 q1
 | true=>exact⟨.bl true,H1,I1,rfl,q1⟩
theorem xss (ha:PE X a ta):PE X (.UnaryOp .Not a pos) (xts ta):=by
 intro pins s σ H Q I h
 refine UnaryOp_ (thn (ha pins s σ H _ I h) fun v s1 ⟨x,H1,I1,r1,q1⟩=>?_)
 obtain⟨c,rfl,q1⟩:=q1
 cases r1
 exact not_of (wpAny_truthy_bool ⟨.bl (!c),H1,I1,rfl,q1⟩)
def tIf (t:TT) (ta tb:TE):TE:=fun σ H Q=>t σ H fun c H1=>if c=true then ta σ H1 Q else tb σ H1 Q
theorem xc7 {c:Expr} (hc:PT X c tA) (ha:PE X a ta) (hb:PE X b tb):PE X (.IfExp c a b pos) (tIf tA ta tb):=by
 intro pins s σ H Q I h
 refine wpAny_IfExp (thn (hc pins s σ H _ I h) fun d s1 ⟨H1,I1,q1⟩=>?_)
 cases d with
 | true=>exact ha pins s1 σ H1 Q I1 q1
 | false=>exact hb pins s1 σ H1 Q I1 q1
end
def SqL (K:PySem.W.Frag) (H:Hp) (a:Addr) (xs:List V):Prop :=
 Rd H a (.lst xs) \/
  ∃(o:Obj) (its:Array Value) (n:Nat),K.lookup a=some o/\o.cls=.type "list"/\o.dict=none/\o.data=.seq its n/\its.size<=sizeLine/\Vals xs its.toList
def SqT (K:PySem.W.Frag) (H:Hp) (a:Addr) (xs:List V):Prop :=
 Rd H a (.tup xs) \/
  ∃(o:Obj) (its:Array Value) (n:Nat),K.lookup a=some o/\o.cls=.type "tuple"/\o.data=.seq its n/\its.size<=sizeLine/\Vals xs its.toList
def absV:Value->Option V
 | .none=>some .non
 | .bool b=>some (.bl b)
 | .int i _=>some (.int i)
 | .str x _=>some (.str x)
 | .bytes b _=>some (.byt b)
 | .float b _=>some (.flt b)
 | .ref a=>some (.ref a)
 | .type n=>some (.ty n)
 | _=>none
theorem RelV.abs {x:V}{u:Value} (r:RelV x u):absV u=some x:=by
 cases x with
 | non=>cases r; rfl
 | bl _=>cases r; rfl
 | int _=>obtain⟨t,rfl⟩:=r; rfl
 | str _=>obtain⟨t,rfl⟩:=r; rfl
 | byt _=>obtain⟨t,rfl⟩:=r; rfl
 | flt _=>obtain⟨t,rfl⟩:=r; rfl
 | ref _=>cases r; rfl
 | ty _=>cases r; rfl
theorem RelV.inj {x y:V}{u:Value} (r:RelV x u) (q:RelV y u):x=y:=Option.some.inj (r.abs.symm.trans q.abs)
theorem Vals.inj:∀{xs ys:List V}{us:List Value},Vals xs us->Vals ys us->xs=ys
 | _,_,_,.nil,.nil=>rfl
 | _,_,_,.cons r t,.cons r' t'=>by rw[r.inj r',Vals.inj t t']
section
variable {X:Cx}{pins:List (Addr × Obj)}{σ:St}{H:Hp}{s:Shared}{a:Addr}{xs ys:List V}
theorem SqL.of {K:PySem.W.Frag} (h:H a=some (.lst xs)):SqL K H a xs:=.inl (.inl h)
theorem SqT.of {K:PySem.W.Frag} (h:H a=some (.tup xs)):SqT K H a xs:=.inl (.inl h)
theorem Inv.list (I:Inv X pins σ H s) (h:SqL X.K H a xs):∃ its:List Value,Vals xs its/\PlainL s.heap a its.toArray/\xs.length<=sizeLine:=by
 rcases h with h|⟨o,its,n,hk,hc,hd,hs,hz,r⟩
 .obtain ⟨z,its,n,r,e⟩:=h.ok I.hok
  exact⟨its,r,⟨_,n,e,rfl,rfl,rfl⟩,z⟩
 .refine ⟨its.toList,r,⟨o,n,I.kIn a o hk,hc,hd,by simpa using hs⟩,?_⟩
  have e:=r.length
  simp only[Array.length_toList] at e
  omega
theorem Inv.tuple (I:Inv X pins σ H s) (h:SqT X.K H a xs):∃ its:List Value,Vals xs its/\IsTup s.heap a its.toArray/\xs.length<=sizeLine:=by
 rcases h with h|⟨o,its,n,hk,hc,hs,hz,r⟩
 .obtain ⟨z,its,r,p⟩:=h.ok I.hok
  exact⟨its,r,p,z⟩
 .refine ⟨its.toList,r,⟨o,I.kIn a o hk,hc,n,by simpa using hs⟩,?_⟩
  have e:=r.length
  simp only[Array.length_toList] at e
  omega
theorem Inv.list_inj (I:Inv X pins σ H s) (h:SqL X.K H a xs) (h':SqL X.K H a ys):xs=ys:=by
 obtain⟨its,r,⟨o,n,e,_,_,d⟩,_⟩:=I.list h
 obtain⟨its',r',⟨o',n',e',_,_,d'⟩,_⟩:=I.list h'
 rw[e] at e'; cases e'
 rw[d] at d'
 injection d' with d1 _
 have:its=its':=by simpa using congrArg Array.toList d1
 subst this
 exact r.inj r'
theorem Inv.tuple_inj (I:Inv X pins σ H s) (h:SqT X.K H a xs) (h':SqT X.K H a ys):xs=ys:=by
 obtain⟨its,r,⟨o,e,_,n,d⟩,_⟩:=I.tuple h
 obtain⟨its',r',⟨o',e',_,n',d'⟩,_⟩:=I.tuple h'
 rw[e] at e'; cases e'
 rw[d] at d'
 injection d' with d1 _
 have:its=its':=by simpa using congrArg Array.toList d1
 subst this
 exact r.inj r'
end
abbrev Cx.wish (X:Cx) (E:Value->Shared->Prop):Cx:={ X with xe:=E }
abbrev Cx.nox (X:Cx):Cx:=X.wish fun _ _=>False
theorem Cx.Ok.wish {X:Cx} (ok:X.Ok) (E:Value->Shared->Prop):(X.wish E).Ok :=
 ⟨ok.mod,ok.kind,ok.glob,ok.blt,ok.above,ok.inj,ok.has,ok.cab,ok.hd,ok.frames,ok.stk,ok.exf,ok.bs,ok.bsz,ok.noex,ok.exfs,ok.funs,ok.frf⟩
theorem Cx.Ok.unwish {X:Cx}{E:Value->Shared->Prop} (ok:(X.wish E).Ok):X.Ok :=
 ⟨ok.mod,ok.kind,ok.glob,ok.blt,ok.above,ok.inj,ok.has,ok.cab,ok.hd,ok.frames,ok.stk,ok.exf,ok.bs,ok.bsz,ok.noex,ok.exfs,ok.funs,ok.frf⟩
section
variable {X:Cx}{pins:List (Addr × Obj)}{σ:St}{H:Hp}{s:Shared}{E:Value->Shared->Prop}
theorem Inv.wish (I:Inv X pins σ H s) (E:Value->Shared->Prop):Inv (X.wish E) pins σ H s:=⟨I.ok.wish E,I.os,I.bare,I.base,I.loc,I.cell,I.free,I.freeC,I.pin,I.hok,I.len⟩
theorem Inv.unwish (I:Inv (X.wish E) pins σ H s):Inv X pins σ H s:=⟨I.ok.unwish,I.os,I.bare,I.base,I.loc,I.cell,I.free,I.freeC,I.pin,I.hok,I.len⟩
theorem SP.unwish {D:Ends}{f:Flow}{s':Shared} (h:SP (X.wish E) pins D f s'):SP X pins D f s':=by
 cases f with
 | next=>obtain⟨σ',H',I,q⟩:=h; exact⟨σ',H',I.unwish,q⟩
 | brk=>obtain⟨σ',H',I,q⟩:=h; exact⟨σ',H',I.unwish,q⟩
 | cont=>obtain⟨σ',H',I,q⟩:=h; exact⟨σ',H',I.unwish,q⟩
 | ret u=>obtain⟨v,σ',H',I,r,q⟩:=h; exact⟨v,σ',H',I.unwish,r,q⟩
theorem PSs.nox {st:List Stmt}{t:TS} (h:PSs X.nox st t):PSs X st t:=fun pins s σ H D I hw =>
 wpAny_mono (h pins s σ H D (I.wish _) hw) (fun _ _ q=>q.unwish) fun _ _ z=>False.elim z
end
section
variable {X:Cx}{st:Stmt}{rest:List Stmt}{t u:TS}{e:Expr}{te:TE}{pos:Pos}
def xth:TS:=fun D σ H=>D.nx σ H
def tSeq (t u:TS):TS:=fun D σ H=>t { D with nx:=u D } σ H
theorem x9:PSs X [] xth:=fun _ _ σ H _ I h=>wpAny_execs_nil ⟨σ,H,I,h⟩
theorem xk (h1:PS X st t) (h2:PSs X rest u):PSs X (st::rest) (tSeq t u):=by
 intro pins s σ H D I h
 refine wpAny_execs_cons (thn (h1 pins s σ H { D with nx:=u D } I h) fun f s1 q=>?_)
 cases f with
 | next =>
  obtain⟨σ',H',I',q⟩:=q
  exact h2 pins s1 σ' H' D I' q
 | ret v=>exact q
 | brk=>exact q
 | cont=>exact q
theorem xm (h1:PS X st t):PSs X [st] t:=by
 intro pins s σ H D I h
 refine wpAny_execs_cons (thn (h1 pins s σ H D I h) fun f s1 q=>?_)
 cases f with
 | next=>exact wpAny_execs_nil q
 | ret v=>exact q
 | brk=>exact q
 | cont=>exact q
theorem Inv.quiet {pins:List (Addr × Obj)}{σ:St}{H:Hp}{s:Shared} (I:Inv X pins σ H s):interactive X.env=false:=by simp[interactive,I.ok.kind]
def xt8 (te:TE):TS:=fun D σ H=>te σ H fun _ H1=>D.nx σ H1
theorem xaw (he:PE X e te) (hs:swapsWith e none pos.line X.env=pure false:=by rfl):PS X (.Expr e pos) (xt8 te):=by
 intro pins s σ H D I h
 exact wpAny_Expr_any (thn (he pins s σ H _ I h) fun v s1 ⟨x,H1,I1,r1,q1⟩=>⟨σ,H1,I1,q1⟩) I.quiet hs
def tRet (te:TE):TS:=fun D σ H=>te σ H D.rt
theorem x0 (he:PE X e te):PS X (.Return (some e) pos) (tRet te):=by
 intro pins s σ H D I h
 exact wpAny_Return_some (thn (he pins s σ H _ I h) fun v s1 ⟨x,H1,I1,r1,q1⟩=>⟨x,σ,H1,I1,r1,q1⟩)
def tIfS (c:TT) (t u:TS):TS:=fun D σ H=>c σ H fun b H1=>if b=true then t D σ H1 else u D σ H1
theorem xao {c:Expr}{a b:List Stmt}{tc:TT} (hc:PT X c tc) (ha:PSs X a t) (hb:PSs X b u):PS X (.If c a b pos) (tIfS tc t u):=by
 intro pins s σ H D I h
 refine wpAny_If (thn (hc pins s σ H _ I h) fun d s1 ⟨H1,I1,q1⟩=>?_)
 cases d with
 | true=>exact ha pins s1 σ H1 D I1 q1
 | false=>exact hb pins s1 σ H1 D I1 q1
def xsp:TS:=fun _ _ _=>False
theorem xa3:PS X st xsp:=fun _ _ _ _ _ _ h=>h.elim
end
abbrev TG:=V->St->Hp->(St->Hp->Prop)->Prop
abbrev TGs:=List V->St->Hp->(St->Hp->Prop)->Prop
def PG (X:Cx) (target:Expr) (t:TG):Prop :=
 ∀(pins:List (Addr × Obj)) (s:Shared) (σ:St) (H:Hp) (v:V) (u:Value) (Q:St->Hp->Prop),Inv X pins σ H s->RelV v u->t v σ H Q ->
  wpAny (model X.prog X.w) X.A (assign target X.env u) (fun _ s'=>∃ σ' H',Inv X pins σ' H' s'/\Q σ' H') X.xe s
def PGs (X:Cx) (ts:List Expr) (t:TGs):Prop :=
 ∀(pins:List (Addr × Obj)) (s:Shared) (σ:St) (H:Hp) (vs:List V) (us:List Value) (Q:St->Hp->Prop),Inv X pins σ H s->Vals vs us->t vs σ H Q ->
  wpAny (model X.prog X.w) X.A (assignInOrder ((assignEach ts X.env).map (·.2)) us) (fun _ s'=>∃ σ' H',Inv X pins σ' H' s'/\Q σ' H') X.xe s
section
variable {X:Cx}{pos:Pos}
def xeg (i:Nat):TG:=fun v σ H Q=>Q (σ.set i (some v)) H
theorem xo {i:Nat}{x:Str} (hN:X.N.Nodup) (hi:X.N[i]?=some x) (hx:Loc X.env.scope x) (hf:X.fn x=true\/X.env.scope.names.lookup x=some .local:=by first|exact .inl rfl|exact .inr rfl|assumption):PG X (.Name x pos) (xeg i):=by
 intro pins s σ H v u Q I r h
 exact wpAny_assign_Name (xjh I hN hi hx r (fun s' I'=>⟨_,H,I',h⟩) hf)
def gNil:TGs:=fun vs σ H Q=>vs=[]/\Q σ H
def xmg (t:TG) (u:TGs):TGs:=fun vs σ H Q=>∃ v r,vs=v::r/\t v σ H fun σ' H'=>u r σ' H' Q
theorem xak:PGs X [] gNil:=by
 intro pins s σ H vs us Q I r h
 obtain⟨e,h⟩:=h
 subst e
 cases r
 exact assignInOrder_nil ⟨σ,H,I,h⟩
theorem xq {e:Expr}{es:List Expr}{t:TG}{u:TGs} (h1:PG X e t) (h2:PGs X es u)
    (hs:(assignEach (e::es) X.env).map (·.2)=assign e X.env::(assignEach es X.env).map (·.2):=by rfl):PGs X (e::es) (xmg t u):=by
  intro pins s σ H vs us Q I r h
  obtain⟨v,vr,e1,h⟩:=h
  subst e1
  cases r with
  | cons r rr =>
    rw[hs]
    refine assignInOrder_cons (thn (h1 pins s σ H _ _ _ I r h) fun _ s1 ⟨σ1,H1,I1,q1⟩=>?_)
    exact h2 pins s1 σ1 H1 _ _ Q I1 rr q1
def gTup (K:PySem.W.Frag) (n:Nat) (t:TGs):TG:=fun v σ H Q=>∃ a xs,v=.ref a/\SqT K H a xs/\xs.length=n/\t xs σ H Q
theorem xat {es:List Expr}{k:Nat}{t:TGs}{n:Nat} (hc:X.calm=true) (h:PGs X es t)
    (hn:(assignEach es X.env).length=n:=by rfl) (hst:(assignEach es X.env).findIdx? (·.1)=none:=by rfl):PG X (.Tuple es k pos) (gTup X.K n t):=by
  intro pins s σ H v u Q I r hw
  obtain⟨a,xs,e1,hq,hl,hw⟩:=hw
  subst e1
  cases r
  obtain⟨its,rv,ht,hz⟩:=I.tuple hq
  refine assign_Tuple_tuple (I.ok.hd hc) ht (by simp[hn,<- hl,rv.length]) hst fun h' hx=>?_
  have I1:Inv X pins σ H { s with heap:=h' }:=I.kept (t':=s.toks) fun b o e=>hx b o (Nat.ne_of_lt (Heap.lt_size e)) e
  exact h pins _ σ H xs _ Q I1 (by simpa using rv) hw
def tAsg (te:TE) (g:TG):TS:=fun D σ H=>te σ H fun x H1=>g x σ H1 D.nx
theorem xd3 {tg e:Expr}{te:TE}{g:TG} (he:PE X e te) (hg:PG X tg g) (hs:swapsWithSole [tg] e pos.line X.env=pure false:=by rfl) (hw:swappedStores [tg] e X.env=pure none:=by rfl)
    (h1:(assignEach [tg] X.env).map (·.2)=[assign tg X.env]:=by rfl):PS X (.Assign [tg] e pos) (tAsg te g):=by
  intro pins s σ H D I h
  refine wpAny_Assign_stores (thn (he pins s σ H _ I h) fun v s1 ⟨x,H1,I1,r1,q1⟩=>?_) hs hw
  rw[h1]
  exact thn (hg pins s1 σ H1 x v _ I1 r1 q1) fun _ s2 q=>q
theorem x8 {i:Nat}{x:Str}{e:Expr}{te:TE}{pos':Pos} (hN:X.N.Nodup) (hi:X.N[i]?=some x) (hx:Loc X.env.scope x) (he:PE X e te) (hs:swapsWith e (some (.Name x pos')) pos.line X.env=pure false:=by rfl) (hf:X.fn x=true\/X.env.scope.names.lookup x=some .local:=by first|exact .inl rfl|exact .inr rfl|assumption) :
    PS X (.Assign [.Name x pos'] e pos) (tAsg te (xeg i)):=by
  intro pins s σ H D I h
  refine wpAny_Assign_Name (thn (he pins s σ H _ I h) fun v s1 ⟨y,H1,I1,r1,q1⟩=>?_) hs
  exact xjh I1 hN hi hx r1 (fun s2 I2=>⟨_,H1,I2,q1⟩) hf
end
structure It where
 go:Nat->Hp->Prop
 yld:Nat->Hp->V->Hp->Prop
 stop:Nat->Hp->Prop
def FpOk (X:Cx) (pins:List (Addr × Obj)) (H:Hp) (b:Addr):Prop :=
 H b=none/\b≠X.env.locals/\b∉X.fs/\(b∈X.ex\/X.s₀.heap.objs.size<=b)/\(∀ x c,X.env.cells.lookup x=some c->c≠b)/\∀ p∈X.pn++pins,p.1≠b
theorem Inv.fpOk {X:Cx}{pins:List (Addr × Obj)}{σ:St}{H H':Hp}{s:Shared}{b:Addr} (I:Inv X pins σ H s) (hb:s.heap.objs.size<=b) (hn:H' b=none):FpOk X pins H' b:=by
 refine⟨hn,Nat.ne_of_gt (Nat.lt_of_lt_of_le I.lt hb),I.nofs hb,.inr (Nat.le_trans I.sz hb),fun x c e z=>?_,fun p hp z=>?_⟩
 .obtain ⟨v,q⟩:=I.cell x c e
  exact absurd (Nat.lt_of_lt_of_le q.lt (by rw[z]; exact hb)) (Nat.lt_irrefl _)
 .exact absurd (Nat.lt_of_lt_of_le (Heap.lt_size (I.pin p hp).1) (by rw[z]; exact hb)) (Nat.lt_irrefl _)
structure Turn (P:Program) (w:World) (K:PySem.W.Frag) (tg:Expr) (J:It) (fp:List Addr) (it:Addr) (tn:Nat->Heap->Prop):Prop where
 mem:it∈fp
 obj:∀ i h,tn i h->∀ b∈fp,∃ o,h.get? b=some o/\∀ v,o.data≠.cell v
 keep:∀ i h h',tn i h->(∀ b∈fp,∀ o,h.get? b=some o->h'.get? b=some o)->tn i h'
 item:∀(X:Cx),X.prog=P->X.w=w->X.K=K->X.calm=true->∀(i:Nat) (pins:List (Addr × Obj)) (s:Shared) (σ:St) (H:Hp) (E:Value->Shared->Prop),Inv X pins σ H s->(∀ b∈fp,FpOk X pins H b)->tn i s.heap->J.go i H ->
  wpAny (model P w) X.A (pyNext (.ref it)) (fun r s1=>∃ u,r=some u /\
   wpAny (model P w) X.A (letOwnedTupleGo tg (.ref it) u) (fun _ s2=>∃ x H',Inv X pins σ H' s2/\RelV x u/\J.yld i H x H'/\tn (i+1) s2.heap/\∀ b∈fp,H' b=none) E s1) E s
 done:∀(X:Cx),X.prog=P->X.w=w->X.K=K->X.calm=true->∀(i:Nat) (pins:List (Addr × Obj)) (s:Shared) (σ:St) (H:Hp) (E:Value->Shared->Prop),Inv X pins σ H s->(∀ b∈fp,FpOk X pins H b)->tn i s.heap->J.stop i H ->
  wpAny (model P w) X.A (pyNext (.ref it)) (fun r s1=>r=none/\Inv X pins σ H s1) E s
 self:∀(A:Around) (i:Nat) (s:Shared) (Q:Value->Shared->Prop) (E:Value->Shared->Prop),tn i s.heap->Q (.ref it) s->wpAny (model P w) A (pyIter (.ref it)) Q E s
abbrev TI:=St->Hp->(It->Hp->Prop)->Prop
def PIE (X:Cx) (pins:List (Addr × Obj)) (σ:St) (tg:Expr) (R:It->Hp->Prop) (itv:Value) (s2:Shared):Prop :=
 ∃(it:Addr) (fp:List Addr) (tn:Nat->Heap->Prop) (J:It) (H':Hp),itv=.ref it/\Inv X pins σ H' s2/\Turn X.prog X.w X.K tg J fp it tn/\tn 0 s2.heap/\(∀ b∈fp,FpOk X pins H' b)/\R J H'
def PI (X:Cx) (tg iter:Expr) (wi:TI):Prop :=
 ∀(pins:List (Addr × Obj)) (s:Shared) (σ:St) (H:Hp) (R:It->Hp->Prop),Inv X pins σ H s->wi σ H R ->
  wpAny (model X.prog X.w) X.A (eval iter X.env) (fun v s1=>wpAny (model X.prog X.w) X.A (pyIter v) (PIE X pins σ tg R) X.xe s1) X.xe s
theorem xmc {M:Model}{A:Around}{E:Value->Shared->Prop}{s:Shared}{tg:Expr}{it:Addr}{u:Value}{o:Obj}{n:String}{vs:Array Value}{Q:Unit->Shared->Prop} (ho:s.heap.get? it=some o) (hc:o.cls=.type n) (hd:o.data=.fields vs)
    (hn:["enumerate", "zip", "dict_itemiterator", "dict_reverseitemiterator", "odict_iterator", "itertools.zip_longest", "itertools.pairwise"].contains n=false) (hQ:Q () s):wpAny M A (letOwnedTupleGo tg (.ref it) u) Q E s:=by
  unfold letOwnedTupleGo
  cases tg<;>first
    | exact wpAny_pure hQ
    | (cases u<;>first
        | exact wpAny_pure hQ
        | (refine wpAny_bind (wpAny_load ho ?_)
           rw[hc,hd]
           show wpAny M A (if (["enumerate", "zip", "dict_itemiterator", "dict_reverseitemiterator", "odict_iterator", "itertools.zip_longest", "itertools.pairwise"].contains n&&vs[0]? == some (rawInt _))=true then _ else _) Q E s
           rw[if_neg (by intro h; rw[hn,Bool.false_and] at h; cases h)]
           exact wpAny_pure hQ))
def Itl (K:PySem.W.Frag) (a:Addr):It :=
 ⟨fun i H=>∃ xs x,SqL K H a xs/\xs[i]?=some x,fun i H x H'=>H'=H/\∀ xs,SqL K H a xs->xs[i]?=some x,fun i H=>∃ xs,SqL K H a xs/\xs.length<=i⟩
def Itr (lo:Int) (n:Nat):It:=⟨fun i _=>i<n,fun i H x H'=>H'=H/\x=.int (lo+i),fun i _=>n<=i⟩
theorem xm7 {P:Program}{w:World}{K:PySem.W.Frag}{tg:Expr} (a it:Addr):Turn P w K tg (Itl K a) [it] it (fun i h=>h.IsListIter it a i) where
 mem:=by simp
 obj:=fun i h st b hb=>by
  have e:b=it:=by simpa using hb
  subst e
  obtain⟨o,e,c,d⟩:=st
  exact⟨o,e,fun v z=>by rw[d] at z; cases z⟩
 keep:=fun i h h' st k=>st.at fun o e=>k it (by simp) o e
 item:=by
  intro X hP hw hK hc i pins s σ H E I hf st hg
  subst hP hw hK
  obtain⟨xs,x,hq,hx⟩:=hg
  obtain⟨its,rv,p,hz⟩:=I.list hq
  obtain⟨u,hu,ru⟩:=rv.get hx
  obtain⟨f0,f1,f2,f3,f4,f5⟩:=hf it (by simp)
  refine wpAny_pyNext_list_item st p.isList (x:=u) (by simpa using hu) fun h' st' sb=>?_
  have I1:Inv X pins σ H { s with heap:=h' }:=I.turned (t':=s.toks) (fun b o hb e=>(sb.2 b hb).trans e) f0 f1 f3 f4 f5
  obtain⟨o,e,c,d⟩:=id st'
  exact⟨u,rfl,xmc (s:={ s with heap:=h' }) e c d (by decide) ⟨x,H,I1,ru,⟨rfl,fun ys hy=>by rw[I.list_inj hy hq]; exact hx⟩,st',fun b hb=>(hf b hb).1⟩⟩
 done:=by
  intro X hP hw hK hc i pins s σ H E I hf st hg
  subst hP hw hK
  obtain⟨xs,hq,hx⟩:=hg
  obtain⟨its,rv,p,hz⟩:=I.list hq
  obtain⟨f0,f1,f2,f3,f4,f5⟩:=hf it (by simp)
  have hl:=rv.length
  exact wpAny_pyNext_list_end (I.ok.hd hc) st p.isList (by simp; omega) fun h' eb=>⟨rfl,I.turned (t':=s.toks) (fun b o hb e=>eb b o hb e) f0 f1 f3 f4 f5⟩
 self:=fun _ _ _ _ _ st h=>wpAny_pyIter_listiter st h
theorem xmh {P:Program}{w:World}{K:PySem.W.Frag}{tg:Expr} (it:Addr) (lo:Int) (n:Nat):Turn P w K tg (Itr lo n) [it] it (fun i h=>IsRangeIter h it (lo+(i:Nat)*1) ((n:Int)-(i:Nat)) 1) where
 mem:=by simp
 obj:=fun i h st b hb=>by
  have e:b=it:=by simpa using hb
  subst e
  exact⟨_,st,fun v z=>by
   have z':Data.fields _=Data.cell v:=z
   cases z'⟩
 keep:=fun i h h' st k=>k it (by simp) _ st
 item:=by
  intro X hP hw hK hc i pins s σ H E I hf st hg
  subst hP hw hK
  obtain⟨f0,f1,f2,f3,f4,f5⟩:=hf it (by simp)
  have W:=Walks.range (prog:=X.prog) (w:=X.w) (I.ok.hd hc) it lo 1 n
  refine W.item i s _ _ hg st fun v h' tk hv st' kk=>?_
  obtain⟨t,rfl⟩:=hv
  have I1:Inv X pins σ H { s with heap:=h',toks:=tk }:=I.turned (fun b o hb e=>kk b o (by simpa using hb) e) f0 f1 f3 f4 f5
  refine⟨_,rfl,xmc (s:={ s with heap:=h',toks:=tk }) (n:="range_iterator") st' rfl rfl (by decide) ⟨.int (lo+i),H,I1,⟨t,?_⟩,⟨rfl,rfl⟩,st',fun b hb=>(hf b hb).1⟩⟩
  rw[Int.mul_one]
 done:=by
  intro X hP hw hK hc i pins s σ H E I hf st hg
  subst hP hw hK
  obtain⟨f0,f1,f2,f3,f4,f5⟩:=hf it (by simp)
  exact wpAny_pyNext_range_end (I.ok.hd hc) st (by have:n<=i:=hg; omega) fun h' eb=>⟨rfl,I.turned (t':=s.toks) (fun b o hb e=>eb b o hb e) f0 f1 f3 f4 f5⟩
 self:=fun _ _ _ _ _ st h=>wpAny_pyIter_rangeiter st h
section
variable {X:Cx}{tg:Expr}
def xtv (K:PySem.W.Frag) (tl:TE):TI:=fun σ H R=>tl σ H fun x H1=>∃ a,x=.ref a/\(∃ xs,SqL K H1 a xs)/\R (Itl K a) H1
theorem xar {l:Expr}{tl:TE} (hl:PE X l tl):PI X tg l (xtv X.K tl):=by
 intro pins s σ H R I h
 refine thn (hl pins s σ H _ I h) fun v s1 ⟨x,H1,I1,r1,q1⟩=>?_
 obtain⟨a,e,⟨xs,hq⟩,q⟩:=q1
 subst e
 cases r1
 obtain⟨its,rv,p,hz⟩:=I1.list hq
 refine wpAny_pyIter_list p.isList ?_
 refine⟨s1.heap.objs.size,[s1.heap.objs.size],_,_,H1,rfl,I1.kept (t':=s1.toks) fun b o e=>Heap.get?_push_of_some _ e,xm7 a _,⟨_,Heap.get?_push_size _ rfl,rfl,rfl⟩,fun b hb=>?_,q⟩
 have e:b=s1.heap.objs.size:=by simpa using hb
 subst e
 exact I1.fpOk (Nat.le_refl _) (I1.hok.fresh (Nat.le_refl _))
theorem xj0 {pins:List (Addr × Obj)}{σ:St}{H:Hp}{s:Shared}{R:It->Hp->Prop}{E:Value->Shared->Prop}{lo hi:Int}{t u v:Tok}{tk:Nat} (I:Inv X pins σ H s) (h1:-(2 ^ 62)<=lo) (h2:lo<2 ^ 62) (h3:-(2 ^ 62)<=hi) (h4:hi<2 ^ 62)
    (q:R (Itr lo (hi-lo).toNat) H):wpAny (model X.prog X.w) X.A (pyIter (.ref s.heap.objs.size)) (PIE X pins σ tg R) E { s with heap:=s.heap.push { cls:=.type "range",data:=.fields #[.int lo t,.int hi u,.int 1 v] },toks:=tk }:=by
  refine wpAny_pyIter_range (IsRange.new ..) (small_one h1 h2 h3 h4) ?_
  have I1:Inv X pins σ H { s with heap:=s.heap.push { cls:=.type "range",data:=.fields #[.int lo t,.int hi u,.int 1 v] },toks:=tk }:=I.kept fun b o e=>Heap.get?_push_of_some _ e
  refine⟨(s.heap.push { cls:=.type "range",data:=.fields #[.int lo t,.int hi u,.int 1 v] }).objs.size,[(s.heap.push { cls:=.type "range",data:=.fields #[.int lo t,.int hi u,.int 1 v] }).objs.size],_,_,H,rfl,
    I1.kept (t':=tk) fun b o e=>Heap.get?_push_of_some _ e,xmh _ lo (hi-lo).toNat,?_,fun b hb=>?_,q⟩
  . have e1:lo+((0:Nat):Int)*1=lo:=by simp
    have e2:(((hi-lo).toNat:Nat):Int)-((0:Nat):Int)=Builtin.Range.rangeSize lo hi 1:=by rw[rangeSize_one]; split<;>omega
    show IsRangeIter _ _ (lo+((0:Nat):Int)*1) ((((hi-lo).toNat:Nat):Int)-((0:Nat):Int)) 1
    rw[e1,e2]
    exact Heap.get?_push_size _ rfl
  . have e:b=(s.heap.push { cls:=.type "range",data:=.fields #[.int lo t,.int hi u,.int 1 v] }).objs.size:=by simpa using hb
    subst e
    exact I1.fpOk (Nat.le_refl _) (I1.hok.fresh (Nat.le_refl _))
def xta (ta:TA):TI:=fun σ H R=>ta σ H fun vs H1=>∃ j:Int,vs=[.int j]/\-(2 ^ 62)<=j/\j<2 ^ 62/\R (Itr 0 j.toNat) H1
def xt1 (ta:TA):TI:=fun σ H R=>ta σ H fun vs H1=>∃ i j:Int,vs=[.int i,.int j]/\(-(2 ^ 62)<=i/\i<2 ^ 62/\-(2 ^ 62)<=j/\j<2 ^ 62)/\R (Itr i (j-i).toNat) H1
theorem xic {a:Expr}{ta:TA}{p pos:Pos} (hg:Gl X "range") (hm:X.mg "range"=none) (ha:PA X [a] ta) (hs:starEach [a] X.env=[(false,eval a X.env)]:=by rfl):PI X tg (.Call (.Name "range" p) [a] [] pos) (xta ta):=by
 intro pins s σ H R I h
 refine Call_ (xcn I hg hm boot_range (PyProof.Rows.callWith_type1 (thn (ha pos pins s σ H _ I h) fun us s1 ⟨vs,H1,I1,r1,q1⟩=>?_) hs rfl))
 obtain⟨j,e,q1,q2,q⟩:=q1
 subst e
 cases r1 with
 | cons r rr =>
  cases rr
  obtain⟨t,rfl⟩:=r
  exact call_range_1 (xj0 I1 (by omega) (by omega) q1 q2 (by simpa using q))
theorem xch {a b:Expr}{ta:TA}{p pos:Pos} (hg:Gl X "range") (hm:X.mg "range"=none) (ha:PA X [a,b] ta) (hs:starEach [a,b] X.env=[(false,eval a X.env),(false,eval b X.env)]:=by rfl) (hs2:starEach [b] X.env=[(false,eval b X.env)]:=by rfl) :
    PI X tg (.Call (.Name "range" p) [a,b] [] pos) (xt1 ta):=by
  intro pins s σ H R I h
  refine Call_ (xcn I hg hm boot_range (PyProof.Rows.callWith_type1 (thn (ha pos pins s σ H _ I h) fun us s1 ⟨vs,H1,I1,r1,q1⟩=>?_) (by rw[hs,hs2]) (by rw[hs2]; rfl)))
  obtain⟨i,j,e,⟨q1,q2,q3,q4⟩,q⟩:=q1
  subst e
  cases r1 with
  | cons r rr =>
    cases rr with
    | cons r' rr =>
      cases rr
      obtain⟨t,rfl⟩:=r
      obtain⟨t',rfl⟩:=r'
      exact call_range_2 (xj0 I1 q1 q2 q3 q4 q)
def tFor (wi:TI) (g:TG) (tb:TS):TS:=fun D σ H=>wi σ H fun J H1=>∃ W:Nat->Nat->St->Hp->Prop,(∃ m,W 0 m σ H1)/\∀ i m σ H,W i m σ H ->
 (J.stop i H/\D.nx σ H)\/(J.go i H/\∃ N:St->Hp->Prop,(∀ σ' H',N σ' H'->∃ m',m'<m/\W (i+1) m' σ' H')/\∀ x H',J.yld i H x H'->g x σ H' fun σ2 H2=>tb { D with nx:=N,ct:=N,bk:=D.nx } σ2 H2)
def xfp (fp:List Addr) (h:Heap):List (Addr × Obj):=fp.filterMap fun b=>(h.get? b).map fun o=>(b,o)
theorem xc5 {fp:List Addr}{h:Heap}{b:Addr}{o:Obj} (hb:b∈fp) (e:h.get? b=some o):(b,o)∈xfp fp h:=List.mem_filterMap.mpr ⟨b,hb,by rw[e]; rfl⟩
theorem xnl {fp:List Addr}{h:Heap}{p:Addr × Obj} (hp:p∈xfp fp h):p.1∈fp/\h.get? p.1=some p.2:=by
 obtain⟨b,hb,e⟩:=List.mem_filterMap.mp hp
 cases q:h.get? b with
 | none=>rw[q] at e; cases e
 | some o =>
  rw[q] at e
  have e':(b,o)=p:=Option.some.inj e
  subst e'
  exact⟨hb,q⟩
theorem Inv.pinned {pins:List (Addr × Obj)}{σ:St}{H:Hp}{s:Shared}{fp:List Addr} (I:Inv X pins σ H s) (hf:∀ b∈fp,FpOk X pins H b) (ho:∀ b∈fp,∃ o,s.heap.get? b=some o/\∀ v,o.data≠.cell v):Inv X (pins++xfp fp s.heap) σ H s :=
 I.pins_of fun p hp=>(List.mem_append.mp hp).elim (fun z=>I.pin p (List.mem_append_right _ z)) fun z=>by
  obtain⟨hb,e⟩:=xnl z
  obtain⟨f0,f1,f2,_⟩:=hf p.1 hb
  obtain⟨o,e',d⟩:=ho p.1 hb
  rw[e] at e'; cases e'
  exact⟨e,f0,f1,f2,d⟩
theorem Inv.unpinned {pins pl:List (Addr × Obj)}{σ:St}{H:Hp}{s:Shared} (I:Inv X (pins++pl) σ H s):Inv X pins σ H s:=I.pins_of fun p hp=>I.pin p (List.mem_append_right _ (List.mem_append_left _ hp))
theorem xa4 {iter:Expr}{body:List Stmt}{wi:TI}{g:TG}{tb:TS}{pos:Pos} (hp:PassesOwn (model X.prog X.w) X.A X.env X.xe) (hc:X.calm=true) (hi:PI X tg iter wi) (hg:PG X tg g) (hb:PSs X body tb)
    (hs:∀ x,foldedSetIterable iter X.env x=pure x:=by intro _; rfl):PS X (.For tg iter body [] pos) (tFor wi g tb):=by
  intro pins s σ H D I h
  refine wpAny_For (thn (hi pins s σ H _ I h) fun v s1 h1=>thn h1 fun itv s2 h2=>?_) hs
  obtain⟨it,fp,tn,J,H2,e,I2,T,st2,f2,W,⟨m0,w0⟩,turn⟩:=h2
  subst e
  -- what stays true of the iterator's objects through the loop
  have stat:∀{H':Hp},(∀ b∈fp,H' b=none)->∀ b∈fp,FpOk X pins H' b:=fun hn b hb=>⟨hn b hb,(f2 b hb).2⟩
  refine codeAny_forLoop_any (fun n s'=>∃ i σ' H',Inv X pins σ' H' s'/\tn i s'.heap/\(∀ b∈fp,H' b=none)/\W i n σ' H') ?_ m0 ⟨0,σ,H2,I2,st2,fun b hb=>(f2 b hb).1,w0⟩
  rintro n s3 ⟨i,σ3,H3,I3,st3,fr3,w3⟩
  rcases turn i n σ3 H3 w3 with⟨stop,qn⟩|⟨go,N,hN,step⟩
  . refine wpAny_passesOwn hp (thn (T.done X rfl rfl rfl hc i pins s3 σ3 H3 X.xe I3 (stat fr3) st3 stop) fun r s4 ⟨hr,I4⟩=>?_)
    subst hr
    exact wpAny_execs_nil ⟨σ3,H3,I4,qn⟩
  . refine wpAny_passesOwn hp (thn (T.item X rfl rfl rfl hc i pins s3 σ3 H3 X.xe I3 (stat fr3) st3 go) fun r s4 ⟨u,hr,h4⟩=>?_)
    subst hr
    refine wpAny_passesOwn hp (thn h4 fun _ s5 ⟨x,H5,I5,r5,y5,st5,fr5⟩=>?_)
    have I5':=I5.pinned (stat fr5) (T.obj _ _ st5)
    refine wpAny_passesOwn hp (thn (hg _ s5 σ3 H5 x u _ I5' r5 (step x H5 y5)) fun _ s6 ⟨σ6,H6,I6,q6⟩=>?_)
    refine wpAny_passesOwn hp (thn (hb _ s6 σ6 H6 _ I6 q6) fun f s7 q7=>?_)
    have again:∀{σ7:St}{H7:Hp},Inv X (pins++xfp fp s5.heap) σ7 H7 s7->N σ7 H7->∃ m,m<n/\∃ i σ' H',Inv X pins σ' H' s7/\tn i s7.heap/\(∀ b∈fp,H' b=none)/\W i m σ' H':=fun {σ7 H7} I7 n7=>by
      obtain⟨m',hm,w7⟩:=hN σ7 H7 n7
      refine⟨m',hm,i+1,σ7,H7,I7.unpinned,T.keep _ _ _ st5 fun b hb o e=>(I7.pin (b,o) (List.mem_append_right _ (List.mem_append_right _ (xc5 hb e)))).1,fun b hb=>?_,w7⟩
      obtain⟨o,e,d⟩:=T.obj _ _ st5 b hb
      exact (I7.pin (b,o) (List.mem_append_right _ (List.mem_append_right _ (xc5 hb e)))).2.1
    cases f with
    | next=>obtain⟨σ7,H7,I7,n7⟩:=q7; exact again I7 n7
    | cont=>obtain⟨σ7,H7,I7,n7⟩:=q7; exact again I7 n7
    | brk=>obtain⟨σ7,H7,I7,q7⟩:=q7; exact⟨σ7,H7,I7.unpinned,q7⟩
    | ret v=>obtain⟨x7,σ7,H7,I7,r7,q7⟩:=q7; exact⟨x7,σ7,H7,I7.unpinned,r7,q7⟩
end
theorem xa6 {K:PySem.W.Frag}{a:Addr}{xs:List V}{g:TG}{tb:TS}{D:Ends}{σ:St}{H:Hp} (Pv:Nat->St->Hp->Prop) (h0:Pv 0 σ H) (hl:∀ i σ H,i<=xs.length->Pv i σ H->SqL K H a xs)
    (hs:∀ i x σ H,xs[i]?=some x->Pv i σ H->g x σ H fun σ2 H2=>tb { D with nx:=Pv (i+1),ct:=Pv (i+1),bk:=D.nx } σ2 H2) (hd:∀ σ H,Pv xs.length σ H->D.nx σ H) :
    ∃ W:Nat->Nat->St->Hp->Prop,(∃ m,W 0 m σ H)/\∀ i m σ H,W i m σ H ->
      ((Itl K a).stop i H/\D.nx σ H)\/((Itl K a).go i H/\∃ N:St->Hp->Prop,(∀ σ' H',N σ' H'->∃ m',m'<m/\W (i+1) m' σ' H')/\∀ x H',(Itl K a).yld i H x H'->g x σ H' fun σ2 H2=>tb { D with nx:=N,ct:=N,bk:=D.nx } σ2 H2):=by
  refine⟨fun i m σ H=>m=xs.length-i/\i<=xs.length/\Pv i σ H,⟨xs.length,by simp,Nat.zero_le _,h0⟩,?_⟩
  rintro i m σ H ⟨rfl,hi,p⟩
  have q:=hl i σ H hi p
  by_cases hlt:i<xs.length
  . refine .inr ⟨⟨xs,xs[i],q,by simp[hlt]⟩,Pv (i+1),fun σ' H' p'=>⟨xs.length-(i+1),by omega,rfl,hlt,p'⟩,fun x H' y=>?_⟩
    obtain⟨e,y⟩:=y
    subst e
    exact hs i x σ _ (y xs q) p
  . have e:i=xs.length:=by omega
    subst e
    exact .inl ⟨⟨xs,q,Nat.le_refl _⟩,hd σ H p⟩
theorem xir {lo:Int}{n:Nat}{g:TG}{tb:TS}{D:Ends}{σ:St}{H:Hp} (Pv:Nat->St->Hp->Prop) (h0:Pv 0 σ H)
    (hs:∀ i σ H,i<n->Pv i σ H->g (.int (lo+i)) σ H fun σ2 H2=>tb { D with nx:=Pv (i+1),ct:=Pv (i+1),bk:=D.nx } σ2 H2) (hd:∀ σ H,Pv n σ H->D.nx σ H) :
    ∃ W:Nat->Nat->St->Hp->Prop,(∃ m,W 0 m σ H)/\∀ i m σ H,W i m σ H ->
      ((Itr lo n).stop i H/\D.nx σ H)\/((Itr lo n).go i H/\∃ N:St->Hp->Prop,(∀ σ' H',N σ' H'->∃ m',m'<m/\W (i+1) m' σ' H')/\∀ x H',(Itr lo n).yld i H x H'->g x σ H' fun σ2 H2=>tb { D with nx:=N,ct:=N,bk:=D.nx } σ2 H2):=by
  refine⟨fun i m σ H=>m=n-i/\i<=n/\Pv i σ H,⟨n,by simp,Nat.zero_le _,h0⟩,?_⟩
  rintro i m σ H ⟨rfl,hi,p⟩
  by_cases hlt:i<n
  . refine .inr ⟨hlt,Pv (i+1),fun σ' H' p'=>⟨n-(i+1),by omega,rfl,hlt,p'⟩,fun x H' y=>?_⟩
    obtain⟨e,y⟩:=y
    subst e y
    exact hs i σ _ hlt p
  . have e:i=n:=by omega
    subst e
    exact .inl ⟨Nat.le_refl _,hd σ H p⟩
abbrev R2:=V->V->Hp->VK->Prop
def OpR (X:Cx) (f:Value->Value->Sem Value) (r:R2):Prop :=
 ∀(pins:List (Addr × Obj)) (s:Shared) (σ:St) (H:Hp) (x y:V) (v u:Value) (Q:VK),Inv X pins σ H s->RelV x v->RelV y u->r x y H Q ->
  wpAny (model X.prog X.w) X.A (f v u) (EP X pins σ Q) X.xe s
def UnR (X:Cx) (f:Value->Sem Value) (r:V->Hp->VK->Prop):Prop :=
 ∀(pins:List (Addr × Obj)) (s:Shared) (σ:St) (H:Hp) (x:V) (v:Value) (Q:VK),Inv X pins σ H s->RelV x v->r x H Q ->
  wpAny (model X.prog X.w) X.A (f v) (EP X pins σ Q) X.xe s
def xbu (X:Cx) (f:Value) (r:List V->Hp->VK->Prop):Prop :=
 ∀(pins:List (Addr × Obj)) (s:Shared) (σ:St) (H:Hp) (xs:List V) (us:List Value) (Q:VK),Inv X pins σ H s->Vals xs us->r xs H Q ->
  wpAny (model X.prog X.w) X.A (call f us) (EP X pins σ Q) X.xe s
def tOp (r:R2) (ta tb:TE):TE:=fun σ H Q=>ta σ H fun x H1=>tb σ H1 fun y H2=>r x y H2 Q
def tUn (r:V->Hp->VK->Prop) (ta:TE):TE:=fun σ H Q=>ta σ H fun x H1=>r x H1 Q
def rI (C:Int->Int->Prop) (g:Int->Int->V):R2:=fun x y H Q=>∃ i j,x=.int i/\y=.int j/\C i j/\Q (g i j) H
def rI0 (g:Int->Int->V):R2:=fun x y H Q=>∃ i j,x=.int i/\y=.int j/\Q (g i j) H
def rU (g:Int->V):V->Hp->VK->Prop:=fun x H Q=>∃ i,x=.int i/\Q (g i) H
section
variable {X:Cx}{a b c:Expr}{ta tb tc:TE}{pos:Pos}
theorem binT (ha:PE X a ta) (hb:PE X b tb) {pins:List (Addr × Obj)}{s:Shared}{σ:St}{H:Hp}{R:V->V->Hp->Prop} (I:Inv X pins σ H s)
    (h:ta σ H fun x H1=>tb σ H1 fun y H2=>R x y H2) {Q:Value->Shared->Prop}{f:Value->Value->Sem Value}
    (hf:∀ v u s2 x y H2,Inv X pins σ H2 s2->RelV x v->RelV y u->R x y H2->wpAny (model X.prog X.w) X.A (f v u) Q X.xe s2) :
    wpAny (model X.prog X.w) X.A (eval a X.env) (fun v s₁=>wpAny (model X.prog X.w) X.A (eval b X.env) (fun u s₂=>wpAny (model X.prog X.w) X.A (f v u) Q X.xe s₂) X.xe s₁) X.xe s:=by
  refine thn (ha pins s σ H _ I h) fun v s1 ⟨x,H1,I1,r1,q1⟩=>?_
  refine thn (hb pins s1 σ H1 _ I1 q1) fun u s2 ⟨y,H2,I2,r2,q2⟩=>?_
  exact hf v u s2 x y H2 I2 r1 r2 q2
theorem xx {op:Operator}{r:R2} (ho:OpR X (binaryOp op) r) (ha:PE X a ta) (hb:PE X b tb):PE X (.BinOp a op b pos) (tOp r ta tb):=by
 intro pins s σ H Q I h
 exact wpAny_BinOp (binT ha hb I h fun v u s2 x y H2 I2 rx ry q=>ho pins s2 σ H2 x y v u Q I2 rx ry q)
theorem xp1 {op:UnaryOp}{r:V->Hp->VK->Prop} (ho:UnR X (unaryOp op) r) (ha:PE X a ta):PE X (.UnaryOp op a pos) (tUn r ta):=by
 intro pins s σ H Q I h
 exact UnaryOp_ (thn (ha pins s σ H _ I h) fun v s1 ⟨x,H1,I1,r1,q1⟩=>ho pins s1 σ H1 x v Q I1 r1 q1)
theorem opI {f:Value->Value->Sem Value}{C:Int->Int->Prop}{g:Int->Int->Int}
    (rule:∀(i j:Int) (t u:Tok) (s:Shared) (Q:Value->Shared->Prop) (E:Value->Shared->Prop),C i j->Q (.int (g i j) s.toks) { s with toks:=s.toks+1 }->wpAny (model X.prog X.w) X.A (f (.int i t) (.int j u)) Q E s) :
    OpR X f (rI C fun i j=>.int (g i j)):=by
  intro pins s σ H x y v u Q I rx ry h
  obtain⟨i,j,rfl,rfl,hc,q⟩:=h
  obtain⟨t,rfl⟩:=rx
  obtain⟨t',rfl⟩:=ry
  exact rule i j t t' s _ _ hc ⟨.int (g i j),H,I.tok _,⟨_,rfl⟩,q⟩
theorem opI0 {f:Value->Value->Sem Value}{g:Int->Int->Int}
    (rule:∀(i j:Int) (t u:Tok) (s:Shared) (Q:Value->Shared->Prop) (E:Value->Shared->Prop),Q (.int (g i j) s.toks) { s with toks:=s.toks+1 }->wpAny (model X.prog X.w) X.A (f (.int i t) (.int j u)) Q E s) :
    OpR X f (rI0 fun i j=>.int (g i j)):=by
  intro pins s σ H x y v u Q I rx ry h
  obtain⟨i,j,rfl,rfl,q⟩:=h
  obtain⟨t,rfl⟩:=rx
  obtain⟨t',rfl⟩:=ry
  exact rule i j t t' s _ _ ⟨.int (g i j),H,I.tok _,⟨_,rfl⟩,q⟩
theorem opB0 {f:Value->Value->Sem Value}{g:Int->Int->Bool}
    (rule:∀(i j:Int) (t u:Tok) (s:Shared) (Q:Value->Shared->Prop) (E:Value->Shared->Prop),Q (.bool (g i j)) s->wpAny (model X.prog X.w) X.A (f (.int i t) (.int j u)) Q E s) :
    OpR X f (rI0 fun i j=>.bl (g i j)):=by
  intro pins s σ H x y v u Q I rx ry h
  obtain⟨i,j,rfl,rfl,q⟩:=h
  obtain⟨t,rfl⟩:=rx
  obtain⟨t',rfl⟩:=ry
  exact rule i j t t' s _ _ ⟨.bl (g i j),H,I,rfl,q⟩
def CMul (i j:Int):Prop:=(-(2 ^ 64)<i/\i<2 ^ 64)\/(-(2 ^ 64)<j/\j<2 ^ 64)
theorem CMul.ok {i j:Int} (h:CMul i j):IntMulOk i j:=by
 rcases h with⟨h1,h2⟩|⟨h1,h2⟩
 .exact .of_left (intBits_le_64 h1 h2)
 .exact .of_right (intBits_le_64 h1 h2)
theorem xap:OpR X (binaryOp .Add) (rI0 fun i j=>.int (i+j)):=opI0 fun _ _ _ _ _ _ _ q=>add_int q
theorem xfr:OpR X (binaryOp .Sub) (rI0 fun i j=>.int (i-j)):=opI0 fun _ _ _ _ _ _ _ q=>sub_int q
theorem xfh:OpR X (binaryOp .Mult) (rI CMul fun i j=>.int (i*j)):=opI fun _ _ _ _ _ _ _ hc q=>mul_int q hc.ok
theorem xa7:OpR X (binaryOp .Mod) (rI (fun _ j=>0<j) fun i j=>.int (i % j)):=opI fun i j _ _ _ _ _ hc q=>by
 have h1:(0:Int)<j:=hc
 exact mod_int' (by omega) (by rw[Int.fmod_eq_emod_of_nonneg i (by omega)]; exact q)
theorem unI {f:Value->Sem Value}{g:Int->Int}
    (rule:∀(i:Int) (t:Tok) (s:Shared) (Q:Value->Shared->Prop) (E:Value->Shared->Prop),Q (.int (g i) s.toks) { s with toks:=s.toks+1 }->wpAny (model X.prog X.w) X.A (f (.int i t)) Q E s) :
    UnR X f (rU fun i=>.int (g i)):=by
  intro pins s σ H x v Q I rx h
  obtain⟨i,rfl,q⟩:=h
  obtain⟨t,rfl⟩:=rx
  exact rule i t s _ _ ⟨.int (g i),H,I.tok _,⟨_,rfl⟩,q⟩
theorem xmz:UnR X (unaryOp .USub) (rU fun i=>.int (-i)):=unI fun _ _ _ _ _ q=>neg_int q
end
def scal:V->V->Bool
 | .non,.non=>true|.non,.int _=>true|.int _,.non=>true|.non,.bl _=>true|.bl _,.non=>true|.non,.str _=>true|.str _,.non=>true
 | .int _,.int _=>true|.bl _,.bl _=>true|.str _,.str _=>true|.byt _,.byt _=>true
 | .int _,.str _=>true|.str _,.int _=>true|.bl _,.str _=>true|.str _,.bl _=>true
 | _,_=>false
def rEq:R2:=fun x y H Q=>scal x y=true/\Q (.bl (decide (x=y))) H
def rNe:R2:=fun x y H Q=>scal x y=true/\Q (.bl (!decide (x=y))) H
theorem xks {i j:Int}:decide (V.int i=V.int j)=(i == j):=by
 rw[Bool.eq_iff_iff]
 simp
theorem xn7 {i j:Bool}:decide (V.bl i=V.bl j)=(i == j):=by
 rw[Bool.eq_iff_iff]
 simp
theorem xkr {i j:Str}:decide (V.str i=V.str j)=(i == j):=by
 rw[Bool.eq_iff_iff]
 simp
theorem xk2 {i j:Array UInt8}:decide (V.byt i=V.byt j)=(i.toList == j.toList):=by
 rw[Bool.eq_iff_iff]
 cases i
 cases j
 simp
section
variable {X:Cx}{a b c:Expr}{ta tb tc:TE}{pos:Pos}
theorem xaq {pins:List (Addr × Obj)}{σ:St}{H:Hp}{s:Shared}{Q:VK}{k k':Bool} (I:Inv X pins σ H s) (q:Q (.bl k) H) (e:k=k'):EP X pins σ Q (.bool k') s:=by
 subst e
 exact⟨.bl k,H,I,rfl,q⟩
theorem xby:OpR X (compareOp .Eq) rEq:=by
 intro pins s σ H x y v u Q I rx ry h
 obtain⟨hs,q⟩:=h
 cases x with
 | non =>
  cases rx
  cases y with
  | non=>cases ry; exact PySem.EqNone.eq_none_none (xaq I q (by simp))
  | bl j=>cases ry; exact PySem.EqNone.eq_none_bool (xaq I q (by simp))
  | int j=>obtain⟨t',rfl⟩:=ry; exact PySem.EqNone.eq_none_int (xaq I q (by simp))
  | str j=>obtain⟨t',rfl⟩:=ry; exact PySem.EqNone.eq_none_str (xaq I q (by simp))
  | _=>exact absurd (show false=true from hs) Bool.false_ne_true
 | bl i =>
  cases rx
  cases y with
  | non=>cases ry; exact PySem.EqNone.eq_bool_none (xaq I q (by simp))
  | bl j=>cases ry; exact eq_bool (xaq I q xn7)
  | str j=>obtain⟨t',rfl⟩:=ry; exact PySem.EqMixed.eq_bool_str (xaq I q (by simp))
  | _=>exact absurd (show false=true from hs) Bool.false_ne_true
 | int i =>
  obtain⟨t,rfl⟩:=rx
  cases y with
  | non=>cases ry; exact PySem.EqNone.eq_int_none (xaq I q (by simp))
  | int j=>obtain⟨t',rfl⟩:=ry; exact eq_int (xaq I q xks)
  | str j=>obtain⟨t',rfl⟩:=ry; exact PySem.EqMixed.eq_int_str (xaq I q (by simp))
  | _=>exact absurd (show false=true from hs) Bool.false_ne_true
 | str i =>
  obtain⟨t,rfl⟩:=rx
  cases y with
  | non=>cases ry; exact PySem.EqNone.eq_str_none (xaq I q (by simp))
  | bl j=>cases ry; exact PySem.EqMixed.eq_str_bool (xaq I q (by simp))
  | int j=>obtain⟨t',rfl⟩:=ry; exact PySem.EqMixed.eq_str_int (xaq I q (by simp))
  | str j=>obtain⟨t',rfl⟩:=ry; exact eq_str (xaq I q xkr)
  | _=>exact absurd (show false=true from hs) Bool.false_ne_true
 | byt i =>
  obtain⟨t,rfl⟩:=rx
  cases y with
  | byt j=>obtain⟨t',rfl⟩:=ry; exact PySem.W.eq_bytes (xaq I q xk2)
  | _=>exact absurd (show false=true from hs) Bool.false_ne_true
 | _=>cases y<;>exact absurd (show false=true from hs) Bool.false_ne_true
theorem xej:OpR X (compareOp .NotEq) rNe:=by
 intro pins s σ H x y v u Q I rx ry h
 obtain⟨hs,q⟩:=h
 cases x with
 | non =>
  cases rx
  cases y with
  | non=>cases ry; exact PySem.EqNone.ne_none_none (xaq I q (by simp))
  | bl j=>cases ry; exact PySem.EqNone.ne_none_bool (xaq I q (by simp))
  | int j=>obtain⟨t',rfl⟩:=ry; exact PySem.EqNone.ne_none_int (xaq I q (by simp))
  | str j=>obtain⟨t',rfl⟩:=ry; exact PySem.EqNone.ne_none_str (xaq I q (by simp))
  | _=>exact absurd (show false=true from hs) Bool.false_ne_true
 | bl i =>
  cases rx
  cases y with
  | non=>cases ry; exact PySem.EqNone.ne_bool_none (xaq I q (by simp))
  | bl j=>cases ry; exact ne_bool (xaq I q (congrArg not xn7))
  | str j=>obtain⟨t',rfl⟩:=ry; exact PySem.EqMixed.ne_bool_str (xaq I q (by simp))
  | _=>exact absurd (show false=true from hs) Bool.false_ne_true
 | int i =>
  obtain⟨t,rfl⟩:=rx
  cases y with
  | non=>cases ry; exact PySem.EqNone.ne_int_none (xaq I q (by simp))
  | int j=>obtain⟨t',rfl⟩:=ry; exact ne_int (xaq I q (congrArg not xks))
  | str j=>obtain⟨t',rfl⟩:=ry; exact PySem.EqMixed.ne_int_str (xaq I q (by simp))
  | _=>exact absurd (show false=true from hs) Bool.false_ne_true
 | str i =>
  obtain⟨t,rfl⟩:=rx
  cases y with
  | non=>cases ry; exact PySem.EqNone.ne_str_none (xaq I q (by simp))
  | bl j=>cases ry; exact PySem.EqMixed.ne_str_bool (xaq I q (by simp))
  | int j=>obtain⟨t',rfl⟩:=ry; exact PySem.EqMixed.ne_str_int (xaq I q (by simp))
  | str j=>obtain⟨t',rfl⟩:=ry; exact ne_str (xaq I q (congrArg not xkr))
  | _=>exact absurd (show false=true from hs) Bool.false_ne_true
 | byt i =>
  obtain⟨t,rfl⟩:=rx
  cases y with
  | byt j=>obtain⟨t',rfl⟩:=ry; exact PySem.W.ne_bytes (xaq I q (congrArg not xk2))
  | _=>exact absurd (show false=true from hs) Bool.false_ne_true
 | _=>cases y<;>exact absurd (show false=true from hs) Bool.false_ne_true
theorem xi3:OpR X (compareOp .Lt) (rI0 fun i j=>.bl (decide (i<j))):=opB0 fun _ _ _ _ _ _ _ q=>lt_int q
theorem xf4:OpR X (compareOp .LtE) (rI0 fun i j=>.bl (decide (i<=j))):=opB0 fun _ _ _ _ _ _ _ q=>le_int q
theorem xtz:OpR X (compareOp .Gt) (rI0 fun i j=>.bl (decide (j<i))):=opB0 fun _ _ _ _ _ _ _ q=>gt_int q
theorem xtl:OpR X (compareOp .GtE) (rI0 fun i j=>.bl (decide (j<=i))):=opB0 fun _ _ _ _ _ _ _ q=>ge_int q
theorem xr9:OpR X (compareOp .Is) (fun x y H Q=>y=.non/\Q (.bl (decide (x=.non))) H):=by
 intro pins s σ H x y v u Q I rx ry h
 obtain⟨rfl,q⟩:=h
 cases ry
 refine is_none_gen (xaq I q ?_)
 cases x<;>first
  | (cases rx; rfl)
  | (obtain⟨t,rfl⟩:=rx; rfl)
def isObj:HO->Bool
 | .lst _=>true
 | .ins _ _ _=>true
 | _=>false
theorem xaf (b:Expr) {op:CmpOp} (h:op≠.In:=by decide) (h2:op≠.NotIn:=by decide):behindInMarks op b=false:=by
 have e1:(op == CmpOp.In)=false:=by cases op<;>first|rfl|exact absurd rfl h
 have e2:(op == CmpOp.NotIn)=false:=by cases op<;>first|rfl|exact absurd rfl h2
 cases b<;>simp[behindInMarks,e1,e2]
theorem xcv {op:CmpOp}{r:R2} (ho:OpR X (compareOp op) r) (ha:PE X a ta) (hb:PE X b tb) (hm:behindInMarks op b=false):PE X (.Compare a [op] [b] pos) (tOp r ta tb):=by
 intro pins s σ H Q I h
 exact wpAny_Compare1 (binT ha hb I h fun v u s2 x y H2 I2 rx ry q=>ho pins s2 σ H2 x y v u Q I2 rx ry q) hm
def xp6 (t:TE):TT:=fun σ H Q=>t σ H fun x H'=>∃ k,x=.bl k/\Q k H'
theorem xaa {op:CmpOp}{r:R2} (ho:OpR X (compareOp op) r) (ha:PE X a ta) (hb:PE X b tb) (hm:behindInMarks op b=false):PT X (.Compare a [op] [b] pos) (xp6 (tOp r ta tb)):=by
 intro pins s σ H Q I h
 refine wpAny_isTrue_Compare1 (thn (ha pins s σ H _ I h) fun v s1 ⟨x,H1,I1,r1,q1⟩=>thn (hb pins s1 σ H1 _ I1 q1) fun u s2 ⟨y,H2,I2,r2,q2⟩ =>
  thn (ho pins s2 σ H2 x y v u _ I2 r1 r2 q2) fun c s3 ⟨z,H3,I3,r3,k,e,q3⟩=>?_) hm
 subst e
 cases r3
 exact wpAny_truthy_bool ⟨H3,I3,q3⟩
def xnv (r r':R2) (ta tb tc:TE):TE:=fun σ H Q=>ta σ H fun x H1=>tb σ H1 fun y H2=>r x y H2 fun z H3=>∃ k,z=.bl k /\
 (if k=true then tc σ H3 fun w' H4=>r' y w' H4 Q else Q (.bl false) H3)
theorem xgh {op op':CmpOp}{r r':R2} (ho:OpR X (compareOp op) r) (ho':OpR X (compareOp op') r') (ha:PE X a ta) (hb:PE X b tb) (hc:PE X c tc)
    (hm:lastMarks [op,op'] [b,c]=false:=by with_unfolding_all rfl):PE X (.Compare a [op,op'] [b,c] pos) (xnv r r' ta tb tc):=by
  intro pins s σ H Q I h
  refine Compare_chain (thn (ha pins s σ H _ I h) fun v s1 ⟨x,H1,I1,r1,q1⟩=>chain_link (thn (hb pins s1 σ H1 _ I1 q1) fun u s2 ⟨y,H2,I2,r2,q2⟩ =>
    thn (ho pins s2 σ H2 x y v u _ I2 r1 r2 q2) fun d s3 ⟨z,H3,I3,r3,k,e,q3⟩=>?_)) hm
  subst e
  cases r3
  refine wpAny_truthy_bool ?_
  cases k with
  | false=>exact ite_ff ⟨.bl false,H3,I3,rfl,q3⟩
  | true=>exact ite_tt (chain_last (thn (hc pins s3 σ H3 _ I3 q3) fun w' s4 ⟨z',H4,I4,r4,q4⟩=>ho' pins s4 σ H4 y z' u w' Q I4 r2 r4 q4))
theorem xjl {op op':CmpOp}{r r':R2} (ho:OpR X (compareOp op) r) (ho':OpR X (compareOp op') r') (ha:PE X a ta) (hb:PE X b tb) (hc:PE X c tc)
    (hm:lastMarks [op,op'] [b,c]=false:=by with_unfolding_all rfl):PT X (.Compare a [op,op'] [b,c] pos) (xp6 (xnv r r' ta tb tc)):=by
  intro pins s σ H Q I h
  refine isTrue_chain (thn (ha pins s σ H _ I h) fun v s1 ⟨x,H1,I1,r1,q1⟩=>test_link (thn (hb pins s1 σ H1 _ I1 q1) fun u s2 ⟨y,H2,I2,r2,q2⟩ =>
    thn (ho pins s2 σ H2 x y v u _ I2 r1 r2 q2) fun d s3 ⟨z,H3,I3,r3,k,e,q3⟩=>?_)) hm
  subst e
  cases r3
  refine wpAny_truthy_bool ?_
  cases k with
  | false =>
    obtain⟨k',e',q'⟩:=q3
    cases e'
    exact ite_ff ⟨H3,I3,q'⟩
  | true =>
    refine ite_tt (test_last (thn (hc pins s3 σ H3 _ I3 q3) fun w' s4 ⟨z',H4,I4,r4,q4⟩=>thn (ho' pins s4 σ H4 y z' u w' _ I4 r2 r4 q4) fun d' s5 ⟨z2,H5,I5,r5,k2,e2,q5⟩=>?_))
    subst e2
    cases r5
    exact wpAny_truthy_bool ⟨H5,I5,q5⟩
theorem xfi:(sizeLine:Nat)<2 ^ 63:=by rw[sizeLine_eq]; decide
theorem xb3 {x:V}{us:List Value} (r:Vals [x] us):∃ u,us=[u]/\RelV x u:=by
 cases r with
 | cons r1 r2=>cases r2; exact⟨_,rfl,r1⟩
theorem xhn {x y:V}{us:List Value} (r:Vals [x,y] us):∃ u w',us=[u,w']/\RelV x u/\RelV y w':=by
 cases r with
 | cons r1 r2 =>
  cases r2 with
  | cons r3 r4=>cases r4; exact⟨_,_,rfl,r1,r3⟩
theorem xok:xbu X (.builtin "abs") (fun xs H Q=>∃ i,xs=[.int i]/\Q (.int (if i<0 then -i else i)) H):=by
 intro pins s σ H xs us Q I r h
 obtain⟨i,rfl,q⟩:=h
 obtain⟨u,rfl,t,rfl⟩:=xb3 r
 exact call_abs_int fun u tk=>⟨.int (if i<0 then -i else i),H,I.tok _,⟨_,rfl⟩,q⟩
theorem xiv (hc:X.calm=true):xbu X (.builtin "max") (fun xs H Q=>∃ i j,xs=[.int i,.int j]/\Q (.int (if j>i then j else i)) H):=by
 intro pins s σ H xs us Q I r h
 obtain⟨i,j,rfl,q⟩:=h
 obtain⟨u,w',rfl,⟨t,rfl⟩,⟨t',rfl⟩⟩:=xhn r
 refine max_two_ints (I.ok.hd hc) fun h' tk k=>⟨_,H,I.kept k,?_,q⟩
 by_cases hj:j>i
 .rw [if_pos hj,if_pos hj]; exact⟨_,rfl⟩
 .rw [if_neg hj,if_neg hj]; exact⟨_,rfl⟩
theorem xfm (hc:X.calm=true):xbu X (.builtin "min") (fun xs H Q=>∃ i j,xs=[.int i,.int j]/\Q (.int (if j<i then j else i)) H):=by
 intro pins s σ H xs us Q I r h
 obtain⟨i,j,rfl,q⟩:=h
 obtain⟨u,w',rfl,⟨t,rfl⟩,⟨t',rfl⟩⟩:=xhn r
 refine min_two_ints (I.ok.hd hc) fun h' tk k=>⟨_,H,I.kept k,?_,q⟩
 by_cases hj:j<i
 .rw [if_pos hj,if_pos hj]; exact⟨_,rfl⟩
 .rw [if_neg hj,if_neg hj]; exact⟨_,rfl⟩
end
structure ObjM (h:Heap) (x dx C:Addr) (mA:Str->Option Value):Prop where
 obj:h.get? x=some (PySem.W.instObj C dx)
 ns:h.Ns1 dx mA
 ne:dx≠x
theorem xnr {h:Heap}{dx:Addr}{mA:Str->Option Value} (n:h.Ns1 dx mA):∃ od,h.get? dx=some od/\∀ name,PySem.W.lookIn name od=some (mA name):=by
 obtain⟨o,es,ep,ho,hd,hk,_,hm⟩:=n
 refine⟨o,ho,fun name=>?_⟩
 have e:=hm name
 unfold nsFind findBy at e
 rw[<- Array.find?_toList] at e
 unfold PySem.W.lookIn
 rw[hd]
 dsimp only
 split
 .rename_i y q
  rw[q] at e
  exact congrArg some e
 .rename_i q
  rw[q] at e
  have a:es.toList.any (·.refKey)=false:=by
   rw[List.any_eq_false]
   intro y hy
   obtain⟨z,t,hkey⟩:=hk y (Array.mem_toList_iff.mp hy)
   simp[DictEntry.refKey,hkey]
  have a':¬ es.toList.any (·.refKey)=true:=by rw[a]; exact Bool.false_ne_true
  rw[if_neg a']
  exact congrArg some e
theorem ObjM.look {h:Heap}{x dx C:Addr}{mA:Str->Option Value} (I:ObjM h x dx C mA):∃ od,PySem.W.InstAt h x (PySem.W.instObj C dx) C (some od)/\∀ name,PySem.W.lookIn name od=some (mA name) :=
 let ⟨od,ho,hl⟩:=xnr I.ns
 ⟨od,⟨I.obj,rfl,rfl,ho⟩,hl⟩
section
variable {prog:Program}{w:World}{A:Around}{E:Value->Shared->Prop}{s:Shared}{K:PySem.W.Frag}{x dx C f:Addr}{mA:Str->Option Value}{name:Str}{v:Value}
theorem xqz {expr:Bool}{Q:Value->Shared->Prop} (X:K.In s.heap) (I:ObjM s.heap x dx C mA) (hg:PySem.W.plainGet K C name=true) (hh:PySem.W.hasDictIn K C=true)
    (ha:PySem.W.findIn K (.ref C) name=some none) (hv:mA name=some v) (hv':PySem.W.handedIn v=true) (h:Q v { s with toks:=s.toks+1 }) :
    wpAny (model prog w) A (getAttr (.ref x) name expr) Q E s:=by
  obtain⟨od,J,hl⟩:=I.look
  exact PySem.W.get_value X J (PySem.W.plainGet_of hg).1 (PySem.W.findObj_own hh ha rfl (by rw[hl,hv])) hv' h
theorem xoj {pl:Sem Bool}{Q:Value × List Value->Shared->Prop} (X:K.In s.heap) (I:ObjM s.heap x dx C mA) (hg:PySem.W.plainGet K C name=true)
    (hf:PySem.W.findIn K (.ref C) name=some (some (.ref f))) (ht:PySem.W.isFn K (.ref f)=true) (hv:mA name=none) (h:Q (.ref f,[.ref x]) s) :
    wpAny (model prog w) A (getMethod (.ref x) name pl) Q E s:=by
  obtain⟨od,J,hl⟩:=I.look
  exact PySem.W.method_fn X J (PySem.W.plainGet_of hg).1 (PySem.W.plainGet_of hg).2 hf (beq_iff_eq.mp ht) (by show (PySem.W.lookIn name od).map (·.isSome)=some false; rw[hl,hv]; rfl) h
theorem xqy {ns:List Str}{Q:Unit->Shared->Prop} (X:K.In s.heap) (I:ObjM s.heap x dx C mA)
    (hs:PySem.W.findIn K (.ref C) "__setattr__"=some (some (.builtin "object.__setattr__"))) (hp:PySem.W.plainOver K C=true) (ht:PySem.W.takerIn K C name=some none) (hh:PySem.W.hasDictIn K C=true)
    (hw:PySem.Within mA ns) (hsz:ns.length<=sizeLine)
    (h:∀ h',ObjM h' x dx C (fun y=>if y=name then some v else mA y)->Heap.SameBut dx s.heap h'->Q () { s with heap:=h',toks:=s.toks+2 }) :
    wpAny (model prog w) A (setAttr (.ref x) name v) Q E s:=by
  obtain⟨od,J,hl⟩:=I.look
  refine PySem.W.set_plain X J hs (PySem.W.osa_open (s:={ s with toks:=s.toks+1 }) (r:=none) X J hp ht fun b=>?_)
  obtain⟨cd,hc,hd'⟩:=PySem.W.any_some hh
  have hx:s.heap.get? x=some ⟨.ref C,some dx,.plain,#[]⟩:=I.obj
  refine wpAny_bind (wpAny_pure (wpAny_bind (wpAny_bind (wpAny_loadPart hx (wpAny_bind (PySem.W.Looks.here (s:={ s with toks:=s.toks+1 }) (PySem.W.looks_clsIn X hc) ?_))))))
  rw[hd']
  refine wpAny_pure (a:=some dx) (wpAny_bind (wpAny_pure (wpAny_bind ?_)))
  refine wpAny_nsSet1 (s:={ s with toks:=s.toks+1 }) I.ns fun h' hn2 hs2=>?_
  obtain⟨oD,esD,epD,hoD,hdD,hcD⟩:=hn2.count (PySem.Within.cons name v hw)
  refine wpAny_bind (wpAny_lookBehind hoD (by rw[hdD]; exact pastItsLine_dict (Nat.le_trans hcD (by rw[List.length_cons]; omega))) ?_)
  exact wpAny_pure (h _ ⟨(hs2.2 _ (Ne.symm I.ne)).trans I.obj,hn2,I.ne⟩ hs2)
theorem xo0 {R:Result->Shared->Prop}{vs:List Value}{kw:List (Str × Value)} (X:K.In s.heap) (hm:PySem.W.makesIn K C=true)
    (hi:PySem.W.findIn K (.ref C) "__init__"=some (some (.ref f))) (hf:PySem.W.typeIn K (.ref f)=some (.type "function"))
    (h:codeAny (model prog w) (A.under (.builtin "type.__call__" ⟨.ref C::vs,kw⟩)) (.call (.ref f) ⟨.ref (s.heap.objs.size+1)::vs,kw⟩) (PySem.W.InitBack (s.heap.objs.size+1) R)
      { s with heap:=(s.heap.push PySem.W.emptyDict).push (PySem.W.instObj C s.heap.objs.size) }) :
    codeAny (model prog w) A (.call (.ref C) ⟨vs,kw⟩) R s:=by
  obtain⟨hh,g,d,t,os⟩:=s
  exact PySem.W.make_core (PySem.W.makes_of X hm) (PySem.W.looks_findIn X hi) (fun self=>PySem.W.bind_fn X self hf) (.inl rfl) h
end
def putF (f:Str) (v:V):List (Str × V)->List (Str × V)
 | []=>[(f,v)]
 | (g,x)::r=>if g=f then (g,v)::r else (g,x)::putF f v r
theorem xge (f g:Str) (v:V):∀ fs:List (Str × V),(putF f v fs).lookup g=if g=f then some v else fs.lookup g
 | []=>by
  show List.lookup g [(f,v)]=_
  by_cases h:g=f
  .have hb:(g == f)=true:=beq_iff_eq.mpr h
   simp only[List.lookup,hb,if_pos h]
  .have hb:(g == f)=false:=beq_eq_false_iff_ne.mpr h
   simp only[List.lookup,hb,if_neg h]
 | (k,x)::r=>by
  have ih:=xge f g v r
  rw[show putF f v ((k,x)::r)=(if k=f then (k,v)::r else (k,x)::putF f v r) from rfl]
  by_cases hk:k=f
  .rw [if_pos hk]
   by_cases h:g=k
   .have hb:(g == k)=true:=beq_iff_eq.mpr h
    simp only[List.lookup,hb,if_pos (h.trans hk)]
   .have hb:(g == k)=false:=beq_eq_false_iff_ne.mpr h
    simp only[List.lookup,hb,if_neg (fun e:g=f=>h (e.trans hk.symm))]
  .rw [if_neg hk]
   by_cases h:g=k
   .have hb:(g == k)=true:=beq_iff_eq.mpr h
    simp only[List.lookup,hb,if_neg (fun e:g=f=>hk (h.symm.trans e))]
   .have hb:(g == k)=false:=beq_eq_false_iff_ne.mpr h
    simp only[List.lookup,hb]
    exact ih
theorem xfd (f:Str) (v:V):∀ fs:List (Str × V),f∈(putF f v fs).map (·.1)/\∀ g,g∈fs.map (·.1)->g∈(putF f v fs).map (·.1)
 | []=>⟨by simp[putF],fun g h=>by simp at h⟩
 | (k,x)::r=>by
  obtain⟨i1,i2⟩:=xfd f v r
  rw[show putF f v ((k,x)::r)=(if k=f then (k,v)::r else (k,x)::putF f v r) from rfl]
  by_cases hk:k=f
  .rw [if_pos hk]
   subst hk
   exact⟨by simp,fun g h=>by simpa using h⟩
  .rw [if_neg hk]
   refine⟨?_,fun g h=>?_⟩
   .rw [List.map_cons]
    exact List.mem_cons_of_mem _ i1
   .rw [List.map_cons] at h ⊢
    rcases List.mem_cons.mp h with e|e
    .exact List.mem_cons.mpr (.inl e)
    .exact List.mem_cons_of_mem _ (i2 g e)
theorem xgf (f:Str) (v:V):∀ fs:List (Str × V),(putF f v fs).length<=fs.length+1
 | []=>by simp[putF]
 | (k,x)::r=>by
  have ih:=xgf f v r
  rw[show putF f v ((k,x)::r)=(if k=f then (k,v)::r else (k,x)::putF f v r) from rfl]
  by_cases hk:k=f
  .rw [if_pos hk,List.length_cons,List.length_cons]; omega
  .rw [if_neg hk,List.length_cons,List.length_cons]; omega
theorem RelO.some_of {v:V}{o:Option Value} (r:RelO (some v) o):∃ u,o=some u/\RelV v u:=by
 cases o with
 | none=>exact (show False from r).elim
 | some u=>exact⟨u,rfl,r⟩
theorem RelO.none_of {o:Option Value} (r:RelO none o):o=none:=by
 cases o with
 | none=>rfl
 | some u=>exact (show False from r).elim
theorem xm2 {v:V}{u:Value} (r:RelV v u):PySem.W.handedIn u=true:=by
 cases v with
 | non=>cases (show u=Value.none from r); rfl
 | bl b=>cases (show u=Value.bool b from r); rfl
 | int i=>obtain⟨t,e⟩:=(show ∃ t,u=Value.int i t from r); cases e; rfl
 | str x=>obtain⟨t,e⟩:=(show ∃ t,u=Value.str x t from r); cases e; rfl
 | byt b=>obtain⟨t,e⟩:=(show ∃ t,u=Value.bytes b t from r); cases e; rfl
 | flt b=>obtain⟨t,e⟩:=(show ∃ t,u=Value.float b t from r); cases e; rfl
 | ref a=>cases (show u=Value.ref a from r); rfl
 | ty n=>cases (show u=Value.type n from r); rfl
section
variable {P:Program}{w:World}{H H':Hp}{h h':Heap}{a C dx:Addr}{fs fs':List (Str × V)}
theorem xga (hok:HOk P w H h) (e:H a=some (.ins C dx fs)):∃ mA,ObjM h a dx C mA/\(∀ f,RelO (fs.lookup f) (mA f))/\PySem.Within mA (fs.map (·.1))/\fs.length<=1000/\H dx=some (.own a):=by
 obtain⟨d,z,ne,ob,mA,n,r,q⟩:=(show xav P w H h a (.ins C dx fs) from hok a _ e)
 exact⟨mA,⟨ob,n,ne⟩,r,q,z,d⟩
end
structure Cls (K:PySem.W.Frag) (C:Addr):Prop where
 pg:PySem.W.plainGet K C Str.empty=true
 hd:PySem.W.hasDictIn K C=true
 po:PySem.W.plainOver K C=true
 sa:PySem.W.findIn K (.ref C) "__setattr__"=some (some (.builtin "object.__setattr__"))
theorem Cls.get {K:PySem.W.Frag}{C:Addr} (c:Cls K C) (f:Str):PySem.W.plainGet K C f=true:=c.pg
def xd8 (K:PySem.W.Frag) (C:Addr) (f:Str):Prop:=PySem.W.findIn K (.ref C) f=some none
theorem xd8.taker {K:PySem.W.Frag}{C:Addr}{f:Str} (n:xd8 K C f):PySem.W.takerIn K C f=some none:=by
 unfold PySem.W.takerIn
 rw[show PySem.W.findIn K (.ref C) f=some none from n]
 rfl
structure Meth (K:PySem.W.Frag) (C:Addr) (m:Str) (f:Addr):Prop where
 at_:PySem.W.findIn K (.ref C) m=some (some (.ref f))
 fn:PySem.W.isFn K (.ref f)=true
 kp:PySem.W.keepIn K (.ref f)=true
section
variable {X:Cx}{pins:List (Addr × Obj)}{σ:St}{H:Hp}{s:Shared}{a C dx:Addr}{fs:List (Str × V)}{f:Str}{v:V}{A:Around}{E:Value->Shared->Prop}
theorem xl3 {b:Bool}{Q:Value->Shared->Prop} (I:Inv X pins σ H s) (e:H a=some (.ins C dx fs)) (c:Cls X.K C) (n:xd8 X.K C f) (l:fs.lookup f=some v)
    (h:∀ u s',Inv X pins σ H s'->RelV v u->Q u s'):wpAny (model X.prog X.w) A (getAttr (.ref a) f b) Q E s:=by
  obtain⟨mA,O,r,_,_,_⟩:=xga I.hok e
  obtain⟨u,hu,ru⟩:=RelO.some_of (v:=v) (o:=mA f) (by rw[<- l]; exact r f)
  exact xqz I.kIn O (c.get f) c.hd n hu (xm2 ru) (h u _ (I.tok _) ru)
theorem xg1 {m:Str}{g:Addr}{pl:Sem Bool}{Q:Value × List Value->Shared->Prop} (I:Inv X pins σ H s) (e:H a=some (.ins C dx fs)) (c:Cls X.K C) (k:Meth X.K C m g) (l:fs.lookup m=none)
    (h:Q (.ref g,[.ref a]) s):wpAny (model X.prog X.w) A (getMethod (.ref a) m pl) Q E s:=by
  obtain⟨mA,O,r,_,_,_⟩:=xga I.hok e
  have hn:mA m=none:=RelO.none_of (by rw[<- l]; exact r m)
  exact xoj I.kIn O (c.get m) k.at_ k.fn hn h
theorem xlt {y:V}{u:Value}{Q:Unit->Shared->Prop} (I:Inv X pins σ H s) (e:H a=some (.ins C dx fs)) (c:Cls X.K C) (n:xd8 X.K C f) (hl:fs.length<1000) (ry:RelV y u)
    (h:∀ s',Inv X pins σ (upd H a (.ins C dx (putF f y fs))) s'->Q () s'):wpAny (model X.prog X.w) A (setAttr (.ref a) f u) Q E s:=by
  obtain⟨mA,O,r,wi,_,ho⟩:=xga I.hok e
  have hz:(fs.map (·.1)).length<=sizeLine:=by rw[List.length_map,sizeLine_eq]; omega
  refine xqy I.kIn O c.sa c.po n.taker c.hd wi hz fun h' O' sb=>h _ ?_
  have hd:∃ o,h'.get? dx=some o:=let ⟨o,_,_,e',_⟩:=O'.ns; ⟨o,e'⟩
  refine I.write (x:=a) (e:=dx) (by rw[e]; exact True.intro) (.inr ho) (fun b q hb z=>(sb.2 b hb).trans z) hd ?_
  refine⟨by rw[xg O.ne]; exact ho,?_,O.ne,O'.obj,_,O'.ns,fun g=>?_,fun g hg=>?_⟩
  . have:=xgf f y fs; omega
  . show RelO ((putF f y fs).lookup g) (if g=f then some u else mA g)
    rw[xge]
    by_cases q:g=f
    . rw[if_pos q,if_pos q]; exact ry
    . rw[if_neg q,if_neg q]; exact r g
  . by_cases q:g=f
    . rw[q]; exact (xfd f y fs).1
    . refine (xfd f y fs).2 g (wi g fun z=>hg ?_)
      show (if g=f then some u else mA g)=none
      rw[if_neg q]; exact z
theorem Inv.made (I:Inv X pins σ H s):Inv X pins σ (upd (upd H s.heap.objs.size (.own (s.heap.objs.size+1))) (s.heap.objs.size+1) (.ins C s.heap.objs.size []))
    { s with heap:=(s.heap.push PySem.W.emptyDict).push (PySem.W.instObj C s.heap.objs.size) }:=by
  have e1:(s.heap.push PySem.W.emptyDict).get? s.heap.objs.size=some PySem.W.emptyDict:=Heap.get?_push_size s.heap rfl
  have e2:((s.heap.push PySem.W.emptyDict).push (PySem.W.instObj C s.heap.objs.size)).get? (s.heap.objs.size+1)=some (PySem.W.instObj C s.heap.objs.size):=by
    have:=Heap.get?_push_size (s.heap.push PySem.W.emptyDict) (o:=PySem.W.instObj C s.heap.objs.size) rfl
    rwa [Heap.size_push] at this
  have e3:(s.heap.push PySem.W.emptyDict).Ns s.heap.objs.size (fun _=>none):=⟨PySem.W.emptyDict,#[],_,e1,rfl,(fun e he=>absurd he (by simp)),fun _=>rfl⟩
  have I1:=I.laid (a:=s.heap.objs.size) (o:=.own (s.heap.objs.size+1)) (h':=s.heap.push PySem.W.emptyDict) (t':=s.toks) (fun b u q=>Heap.get?_push_of_some _ q) (Nat.le_refl _) ⟨_,e1⟩
  refine I1.laid (a:=s.heap.objs.size+1) (o:=.ins C s.heap.objs.size []) (t':=s.toks) (fun b u q=>Heap.get?_push_of_some _ q) (Nat.le_of_eq (Heap.size_push _ _)) ?_
  have ne:s.heap.objs.size≠s.heap.objs.size+1:=Nat.ne_of_lt (Nat.lt_succ_self _)
  refine⟨by rw[xg ne,xf],Nat.zero_le _,ne,e2,fun _=>none,(Heap.Ns1.of_empty e3).at fun o q=>Heap.get?_push_of_some _ q,fun _=>True.intro,fun y hy=>absurd rfl hy⟩
theorem xqc {prog:Program}{w:World}{env:Env}{e:Expr}{f:Str}{pos:Pos}{s:Shared}{Q:Value->Shared->Prop} (hb:attributeBase e f env (eval e env)=eval e env)
    (h:wpAny (model prog w) A (eval e env) (fun o s₁=>wpAny (model prog w) A (getAttr o f true) Q E s₁) E s):wpAny (model prog w) A (eval (.Attribute e f pos) env) Q E s :=
  Attribute_any_ h (by rw[arm_eval_Attribute,hb])
end
def tFld (K:PySem.W.Frag) (ta:TE) (f:Str):TE:=fun σ H Q=>ta σ H fun x H1=>∃ a C dx fs v,x=.ref a/\H1 a=some (.ins C dx fs)/\Cls K C/\xd8 K C f/\fs.lookup f=some v/\Q v H1
def sFld (K:PySem.W.Frag) (ta tv:TE) (f:Str):TS:=fun D σ H=>tv σ H fun y H1=>ta σ H1 fun x H2=>∃ a C dx fs,x=.ref a/\H2 a=some (.ins C dx fs)/\Cls K C/\xd8 K C f/\fs.length<1000 /\
 D.nx σ (upd H2 a (.ins C dx (putF f y fs)))
section
variable {X:Cx}{o e value:Expr}{f:Str}{pos pos' tpos:Pos}{ta tv:TE}
theorem xae (he:PE X e ta) (hb:attributeBase e f X.env (eval e X.env)=eval e X.env):PE X (.Attribute e f pos) (tFld X.K ta f):=by
 intro pins s σ H Q I h
 refine xqc hb (thn (he pins s σ H _ I h) fun u s1 ⟨x,H1,I1,rx,a,C,dx,fs,v,ex,ea,c,n,l,q⟩=>?_)
 subst ex
 obtain rfl:u=Value.ref a:=rx
 exact xl3 I1 ea c n l fun u' s2 I2 ru=>⟨v,H1,I2,ru,q⟩
theorem xdh (ha:PE X o ta) (hv:PE X value tv) (hs:swapsWith value (some (.Attribute o f pos')) pos.line X.env=pure false):PS X (.Assign [.Attribute o f pos'] value pos) (sFld X.K ta tv f):=by
 intro pins s σ H D I h
 refine plainObj_wpAny_Assign_Attribute (thn (hv pins s σ H _ I h) fun u s1 ⟨y,H1,I1,ry,q⟩=>thn (ha pins s1 σ H1 _ I1 q) fun ov s2 ⟨x,H2,I2,rx,a,C,dx,fs,ex,ea,c,n,l,q2⟩=>?_) hs
 subst ex
 obtain rfl:ov=Value.ref a:=rx
 exact xlt I2 ea c n l ry fun s3 I3=>⟨σ,_,I3,q2⟩
end
section
variable {X:Cx}{pins:List (Addr × Obj)}{σ:St}{H:Hp}{s:Shared}{A:Around}{E:Value->Shared->Prop}{Q:Value->Shared->Prop}{c:Value}{b:Bool}
inductive TyOf (K:PySem.W.Frag) (H:Hp):V->Value->Prop where
  | non:TyOf K H .non (.type "NoneType")
  | bl (x:Bool):TyOf K H (.bl x) (.type "bool")
  | int (i:Int):TyOf K H (.int i) (.type "int")
  | str (x:Str):TyOf K H (.str x) (.type "str")
  | flt (x:UInt64):TyOf K H (.flt x) (.type "float")
  | lst {a:Addr}{xs:List V} (e:H a=some (.lst xs)):TyOf K H (.ref a) (.type "list")
  | frz {a:Addr}{o:Obj}{xs:List V} (e:H a=some (.frz o (.lst xs))):TyOf K H (.ref a) (.type "list")
  | tup {a:Addr}{xs:List V} (e:H a=some (.tup xs)):TyOf K H (.ref a) (.type "tuple")
  | dK {a:Addr}{kvs:List (Key × V)} (e:H a=some (.dK kvs)):TyOf K H (.ref a) (.type "dict")
  | dT {a:Addr}{kvs:List (List Key × V)} (e:H a=some (.dT kvs)):TyOf K H (.ref a) (.type "dict")
  | ins {a C dx:Addr}{fs:List (Str × V)} (e:H a=some (.ins C dx fs)) (cl:Cls K C) (ha:PySem.W.findIn K (.ref C) "__class__"=some (some (.builtin "object.__class__")))
      (hn:PySem.W.specialIn K (.builtin "object.__class__") "__get__"=some (some (.builtin "getset_descriptor.__get__"))) (htk:PySem.W.takesIn K (.builtin "object.__class__")=some true)
      (hm:PySem.W.mroIn K C (.type "object")=some true):TyOf K H (.ref a) (.ref C)
theorem xms {x:V}{u t:Value} (I:Inv X pins σ H s) (rx:RelV x u) (ty:TyOf X.K H x t) (e:PySem.W.kitOne X.K t c=some b) (h:∀ tk,Q (.bool b) { s with toks:=tk }) :
    wpAny (model X.prog X.w) A (call (.builtin "isinstance") [u,c]) Q E s:=by
  cases ty with
  | non=>cases (show u=Value.none from rx); exact PySem.W.kia_one PySem.W.kitx_none I.kIn True.intro e (fun z=>nomatch z) h
  | bl y=>cases (show u=Value.bool y from rx); exact PySem.W.kia_one PySem.W.kitx_bool I.kIn True.intro e (fun z=>nomatch z) h
  | int i=>obtain⟨t,q⟩:=(show ∃ t,u=Value.int i t from rx); cases q; exact PySem.W.kia_one PySem.W.kitx_int I.kIn True.intro e (fun z=>nomatch z) h
  | str y=>obtain⟨t,q⟩:=(show ∃ t,u=Value.str y t from rx); cases q; exact PySem.W.kia_one PySem.W.kitx_str I.kIn True.intro e (fun z=>nomatch z) h
  | flt y=>obtain⟨t,q⟩:=(show ∃ t,u=Value.float y t from rx); cases q; exact PySem.W.kia_one PySem.W.kitx_float I.kIn True.intro e (fun z=>nomatch z) h
  | @lst a xs ea =>
    cases (show u=Value.ref a from rx)
    obtain⟨_,_,n,_,h1⟩:=(show xav X.prog X.w H s.heap a (.lst xs) from I.hok a _ ea)
    exact PySem.W.kia_one PySem.W.kitx_list I.kIn ⟨_,h1,rfl⟩ e (fun z=>nomatch z) h
  | @frz a ob xs ea =>
    cases (show u=Value.ref a from rx)
    obtain⟨_,_,_,n,_,h1⟩:=(show xav X.prog X.w H s.heap a (.frz ob (.lst xs)) from I.hok a _ ea)
    exact PySem.W.kia_one PySem.W.kitx_list I.kIn ⟨_,h1,rfl⟩ e (fun z=>nomatch z) h
  | @tup a xs ea =>
    cases (show u=Value.ref a from rx)
    obtain⟨_,_,_,p⟩:=(show xav X.prog X.w H s.heap a (.tup xs) from I.hok a _ ea)
    obtain⟨o,h1,h2,_⟩:=p
    exact PySem.W.kia_one PySem.W.kitx_tuple I.kIn ⟨o,h1,h2⟩ e (fun z=>nomatch z) h
  | @dK a kvs ea =>
    cases (show u=Value.ref a from rx)
    obtain⟨_,_,vs,_,p⟩:=(show xav X.prog X.w H s.heap a (.dK kvs) from I.hok a _ ea)
    obtain⟨o,es,ep,h1,h2,_⟩:=p
    exact PySem.W.kia_one PySem.W.kitx_dict I.kIn ⟨o,h1,h2.1⟩ e (fun z=>nomatch z) h
  | @dT a kvs ea =>
    cases (show u=Value.ref a from rx)
    obtain⟨_,_,xs,_,o,es,ep,h1,h2,_⟩:=(show xav X.prog X.w H s.heap a (.dT kvs) from I.hok a _ ea)
    exact PySem.W.kia_one PySem.W.kitx_dict I.kIn ⟨o,h1,h2.1⟩ e (fun z=>nomatch z) h
  | @ins a C dx fs ea cl ha hn htk hm =>
    cases (show u=Value.ref a from rx)
    obtain⟨mA,O,_⟩:=xga I.hok ea
    obtain⟨od,J,_⟩:=O.look
    exact PySem.W.kia_one (PySem.W.kitx_own (cl.get _) cl.hd ha hn htk hm) I.kIn J e (fun z=>nomatch z) h
end
structure Room (q0:Bool) (k:Nat) (A:Around):Prop where
 hd:q0=true->A.handled=none
 dp:A.depth+3*k+5<recursionLimit
 un:A.units+16*k+200<cLine
theorem Room.mono {j k:Nat}{A:Around} (r:Room q0 k A) (h:j<=k):Room q0 j A:=⟨r.hd,by have:=r.dp; omega,by have:=r.un; omega⟩
theorem Room.deeper {k:Nat}{A:Around} (r:Room q0 (k+1) A) (env:Env):Room q0 k (A.deeper env) :=
 ⟨r.hd,by have:=r.dp; show A.depth+1+3*k+5<_; omega,by have:=r.un; show A.units+3+16*k+200<_; omega⟩
theorem xlx {A:Around}{C:Addr}{us:List Value}{kw:List (Str × Value)}:(A.under (.builtin "type.__call__" ⟨.ref C::us,kw⟩)).depth=A.depth+1:=by
 first|rfl|simp[Around.under,Code.weight,Code.isCreation,Code.isGuard,Code.isCaller,Code.frames,Code.isFrame,guardIds]
theorem xlu {A:Around}{C:Addr}{us:List Value}{kw:List (Str × Value)}:(A.under (.builtin "type.__call__" ⟨.ref C::us,kw⟩)).units=A.units+1:=by
 first|rfl|simp[Around.under,Code.cUnits,Code.frames,Code.isFrame]
theorem Room.make {k:Nat}{A:Around} (r:Room q0 (k+1) A) (C:Addr) (us:List Value) (kw:List (Str × Value)):Room q0 k (A.under (.builtin "type.__call__" ⟨.ref C::us,kw⟩)) :=
 ⟨r.hd,by have:=r.dp; rw[xlx]; omega,by have:=r.un; rw[xlu]; omega⟩
theorem Room.depth {k:Nat}{A:Around} (r:Room q0 k A):A.depth<recursionLimit:=by have:=r.dp; omega
theorem Room.units {k:Nat}{A:Around} (r:Room q0 k A):A.units+64<cLine:=by have:=r.un; omega
def tNil:TA:=fun _ H Q=>Q [] H
def xfy (ta:TE) (tr:TA):TA:=fun σ H Q=>ta σ H fun x H1=>tr σ H1 fun xs H2=>Q (x::xs) H2
section
variable {X:Cx}{e:Expr}{es:List Expr}{te:TE}{t:TA}{pos:Pos}
theorem xb:PA X [] tNil:=fun _ _ _ _ H Q I h=>Calls.spliced_nil ⟨[],H,I,.nil,h⟩
theorem xa (ha:PE X e te) (hr:PA X es t) (hs:starEach (e::es) X.env=(false,eval e X.env)::starEach es X.env:=by rfl):PA X (e::es) (xfy te t):=by
 intro pos pins s σ H Q I h
 rw[hs]
 show wpAny _ _ (spliced ((false,eval e X.env)::backTo pos (starEach es X.env))) _ _ s
 refine Calls.spliced_cons (thn (ha pins s σ H _ I h) fun u s1 ⟨x,H1,I1,r1,q1⟩=>?_)
 exact thn (hr pos pins s1 σ H1 _ I1 q1) fun us s2 ⟨xs,H2,I2,r2,q2⟩=>⟨x::xs,H2,I2,.cons r1 r2,q2⟩
def tTup (t:TA):TE:=fun σ H Q=>t σ H fun xs H1=>xs.length<=sizeLine/\∀ p,H1 p=none->Q (.ref p) (upd H1 p (.tup xs))
def tLst (t:TA):TE:=fun σ H Q=>t σ H fun xs H1=>xs.length<=sizeLine/\∀ p,H1 p=none->Q (.ref p) (upd H1 p (.lst xs))
theorem xab {x1} (h:PA X es t):PE X (.Tuple es x1 pos) (tTup t):=by
 intro pins s σ H Q I hq
 refine wpAny_Tuple_spliced (thn (h pos pins s σ H _ I hq) fun us s1 ⟨xs,H1,I1,r,z,q⟩=>⟨by rw[<- r.length]; exact z,?_⟩)
 have hf:H1 s1.heap.objs.size=none:=I1.hok.fresh (Nat.le_refl _)
 refine⟨.ref s1.heap.objs.size,upd H1 s1.heap.objs.size (.tup xs),I1.laid (t':=s1.toks) (fun b u e=>Heap.get?_push_of_some _ e) (Nat.le_refl _) ?_,rfl,q _ hf⟩
 exact⟨z,us,r,⟨_,Heap.get?_push_size _ rfl,rfl,_,rfl⟩⟩
theorem xcd (h:PA X es t):PE X (.List es pos) (tLst t):=by
 intro pins s σ H Q I hq
 refine wpAny_List_spliced (thn (h pos pins s σ H _ I hq) fun us s1 ⟨xs,H1,I1,r,z,q⟩=>⟨by rw[<- r.length]; exact z,?_⟩)
 have hf:H1 s1.heap.objs.size=none:=I1.hok.fresh (Nat.le_refl _)
 refine⟨.ref s1.heap.objs.size,upd H1 s1.heap.objs.size (.lst xs),I1.laid (t':=s1.toks) (fun b u e=>Heap.get?_push_of_some _ e) (Nat.le_refl _) ?_,rfl,q _ hf⟩
 exact⟨z,us,0,r,Heap.get?_push_size _ rfl⟩
end
abbrev Sp:=List V->Hp->VK->XK->Prop
abbrev CXT:=List Env->Hp->Shared->XK->Value->Shared->Prop
structure Env0 (P:Program) (w:World) (K:PySem.W.Frag) (mg:Str->Option Value) (base:Heap) (A:Around) (outer:List Env) (s:Shared) (H:Hp):Prop where
 frames:A.frames=some outer
 mod:Mod K mg base
 bs:∀ b o,base.get? b=some o->s.heap.get? b=some o/\H b=none
 bsz:base.objs.size<=s.heap.objs.size
 funs:s.heap.FunFrames base outer
 frf:∀ b∈frs outer,H b=none
 hok:HOk P w H s.heap
 bare:AllBare s.gens
def CE (outer:List Env) (P:Program) (w:World) (H:Hp) (s:Shared) (Q:VK) (u:Value) (s':Shared):Prop :=
 ∃ v H',s'.os=s.os/\AllBare s'.gens/\Un (frs outer) [] H H' s.heap s'.heap/\HOk P w H' s'.heap/\RelV v u/\Q v H'
def CR (CX:CXT) (outer:List Env) (P:Program) (w:World) (H:Hp) (s:Shared) (Q:VK) (E:XK) (r:Result) (s':Shared):Prop :=
 match r with
 | .ok (.ret u)=>CE outer P w H s Q u s'
 | .ok _=>False
 | .error e=>CX outer H s E e s'
structure FnOk (q0:Bool) (P:Program) (w:World) (K:PySem.W.Frag) (mg:Str->Option Value) (base:Heap) (CX:CXT) (k:Nat) (f:Addr) (fd:FuncData) (ps:List Str) (sp:Sp):Prop where
 len:∀ vs H Q E,sp vs H Q E->vs.length=ps.length
 run:∀(A:Around) (outer:List Env) (s:Shared) (H:Hp) (args:Args) (us:List Value) (vs:List V) (Q:VK) (E:XK),Room q0 k A->Env0 P w K mg base A outer s H->BindsTo s fd args (ps.zip us)->Vals vs us->sp vs H Q E ->
  codeAny (model P w) A (.call (.ref f) args) (CR CX outer P w H s Q E) s
theorem Env0.make {P:Program}{w:World}{K:PySem.W.Frag}{mg:Str->Option Value}{base:Heap}{A:Around}{outer:List Env}{s:Shared}{H:Hp} (e:Env0 P w K mg base A outer s H) (C:Addr) (us:List Value) (kw:List (Str × Value)) :
    Env0 P w K mg base (A.under (.builtin "type.__call__" ⟨.ref C::us,kw⟩)) outer s H:=⟨by first|exact e.frames|(simpa [Around.under,Code.envs,Code.isFrame,pushEnvs] using e.frames),e.mod,e.bs,e.bsz,e.funs,e.frf,e.hok,e.bare⟩
section
variable {X:Cx}{pins:List (Addr × Obj)}{σ:St}{H:Hp}{s s':Shared}
theorem Inv.env0 (I:Inv X pins σ H s):Env0 X.prog X.w X.K X.mg X.base X.A X.stack s H :=
 ⟨I.ok.frames,I.ok.mod,I.bs,Nat.le_trans I.ok.bsz I.sz,I.stack,I.stkFree,I.hok,I.bare⟩
theorem Inv.after {Q:VK}{u:Value} (I:Inv X pins σ H s) (h:CE X.stack X.prog X.w H s Q u s'):EP X pins σ Q u s':=by
 obtain⟨v,H',os,bare,un,hok,r,q⟩:=h
 obtain⟨hh,g,d,t,os'⟩:=s'
 obtain rfl:os'=s.os:=os
 exact⟨v,H',I.call (h':=hh) (g':=g) (d':=d) (t':=t) (ch:=[]) un hok bare (fun b z=>absurd z (by simp)),r,q⟩
end
def xl4 (sp:Sp) (dvs:List V) (E:St->XK) (t:TA):TE:=fun σ H Q=>t σ H fun vs H1=>sp (vs++dvs) H1 Q (E σ)
def xi1 (C:Addr) (m:Str) (sp:Sp) (dvs:List V) (E:St->XK) (ta:TE) (t:TA):TE:=fun σ H Q=>ta σ H fun x H1=>∃ a dx fs,x=.ref a/\H1 a=some (.ins C dx fs)/\fs.lookup m=none /\
 t σ H1 fun vs H2=>sp (x::(vs++dvs)) H2 Q (E σ)
def xs7 (C:Addr) (sp:Sp) (dvs:List V) (E:St->XK) (t:TA):TE:=fun σ H Q=>t σ H fun vs H1=>∀ x dx,H1 x=none->H1 dx=none->dx≠x ->
 sp (.ref x::(vs++dvs)) (upd (upd H1 dx (.own x)) x (.ins C dx [])) (fun v H2=>v=.non/\Q (.ref x) H2) (E σ)
def x4 (K:PySem.W.Frag) (fd:FuncData) (ps:List Str) (ds:List Value):Prop :=
 ∀(s:Shared) (us:List Value),K.In s.heap->(us++ds).length=ps.length->BindsTo s fd ⟨us,[]⟩ (ps.zip (us++ds))
theorem x4.all {K:PySem.W.Frag}{fd:FuncData}{ps:List Str} (h:∀ us:List Value,us.length=ps.length->bindArgs fd ⟨us,[]⟩=pure (ps.zip us)):x4 K fd ps []:=fun s us _ hl=>by
 rw[List.append_nil] at hl ⊢
 exact .of_eq (h us hl)
def xd9 (CX:CXT) (X:Cx) (E:St->XK):Prop:=∀(pins:List (Addr × Obj)) (σ:St) (H:Hp) (s:Shared) (e:Value) (s':Shared),Inv X pins σ H s->CX X.stack H s (E σ) e s'->X.xe e s'
section
variable {X:Cx}{CX:CXT}{k:Nat}{f C:Addr}{fd:FuncData}{ps:List Str}{sp:Sp}{dvs:List V}{ds:List Value}{E:St->XK}{x m:Str}{p pos apos:Pos}{e o:Expr}{es:List Expr}{ta:TE}{t:TA}
theorem xi9 {pins:List (Addr × Obj)}{σ:St}{H:Hp}{s:Shared}{Q:VK}{us:List Value}{vs:List V} (F:FnOk q0 X.prog X.w X.K X.mg X.base CX k f fd ps sp) (hr:Room q0 k X.A) (hb:x4 X.K fd ps ds) (hd:Vals dvs ds) (hx:xd9 CX X E)
    (I:Inv X pins σ H s) (r:Vals vs us) (h:sp (vs++dvs) H Q (E σ)):wpAny (model X.prog X.w) X.A (call (.ref f) us) (EP X pins σ Q) X.xe s:=by
  have r2:Vals (vs++dvs) (us++ds):=r.append hd
  have hl:(us++ds).length=ps.length:=by rw[<- r2.length]; exact F.len _ _ _ _ h
  refine wpAny_call (codeAny_mono (F.run X.A X.stack s H ⟨us,[]⟩ (us++ds) (vs++dvs) Q (E σ) hr I.env0 (hb s us I.kIn hl) r2 h) fun r s' hq=>?_)
  cases r with
  | error e=>exact hx pins σ H s e s' I hq
  | ok fl =>
    cases fl with
    | ret u=>exact I.after hq
    | next=>exact False.elim hq
    | brk=>exact False.elim hq
    | cont=>exact False.elim hq
theorem xt (F:FnOk q0 X.prog X.w X.K X.mg X.base CX k f fd ps sp) (hr:Room q0 k X.A) (hg:Gl X x) (hm:X.mg x=some (.ref f)) (hk:PySem.W.keepIn X.K (.ref f)=true) (hb:x4 X.K fd ps ds) (hd:Vals dvs ds) (hx:xd9 CX X E)
    (ha:PA X (e::es) t) (hdb:(x == ("__debug__":Str))=false:=by decide) (he:starEach (e::es) X.env=(false,eval e X.env)::starEach es X.env:=by rfl) (hpl:(backTo pos (starEach es X.env)).any (·.1)=false:=by rfl) :
    PE X (.Call (.Name x p) (e::es) [] pos) (xl4 sp dvs E t):=by
  intro pins s σ H Q I h
  refine wpAny_Call_Name_kw (xhw I hg hm ?_ hdb)
  refine PySem.W.callWith_K (h₀:=X.base) I.ok.mod.kin hk (thn (ha pos pins s σ H _ I h) fun us s1 ⟨vs,H1,I1,r,q⟩=>⟨I1.kIn,?_⟩) he hpl
  exact xi9 F hr hb hd hx I1 r q
theorem xa0 {pl:Sem Bool} (he:PE X o ta) (c:Cls X.K C) (hm:Meth X.K C m f) (F:FnOk q0 X.prog X.w X.K X.mg X.base CX k f fd ps sp) (hr:Room q0 k X.A) (hb:x4 X.K fd ps ds) (hd:Vals dvs ds) (hx:xd9 CX X E) (ha:PA X (e::es) t)
    (hst:starEach (e::es) X.env=(false,eval e X.env)::starEach es X.env:=by rfl) (hpl:(backTo pos (starEach es X.env)).any (·.1)=false:=by rfl)
    (ht:eval (.Call (.Attribute o m apos) (e::es) [] pos) X.env=(do
      let ov <- eval o X.env
      standAt apos.atName
      let (f,first) <- holding [ov] (getMethod ov m pl)
      callWith pos f first (backTo pos (starEach (e::es) X.env)) (backToKw pos (keywordEach [] X.env))):=by rfl) :
    PE X (.Call (.Attribute o m apos) (e::es) [] pos) (xi1 C m sp dvs E ta t):=by
  intro pins s σ H Q I h
  refine PySem.W.methodCall_KW (pl:=pl) (thn (he pins s σ H _ I h) fun u s1 ⟨x,H1,I1,rx,a,dx,fs,ex,ea,l,q⟩=>?_) ht
  subst ex
  obtain rfl:u=Value.ref a:=rx
  refine xg1 I1 ea c hm l ?_
  refine PySem.W.callWith_K (first:=[.ref a]) (h₀:=X.base) I.ok.mod.kin hm.kp (thn (ha pos pins s1 σ H1 _ I1 q) fun us s2 ⟨vs,H2,I2,r,q2⟩=>⟨I2.kIn,?_⟩) hst hpl
  exact xi9 (us:=.ref a::us) (vs:=.ref a::vs) F hr hb hd hx I2 (.cons rfl r) q2
theorem xba {pl:Sem Bool} (he:PE X o ta) (c:Cls X.K C) (hm:Meth X.K C m f) (F:FnOk q0 X.prog X.w X.K X.mg X.base CX k f fd ps sp) (hr:Room q0 k X.A) (hb:x4 X.K fd ps ds) (hd:Vals dvs ds) (hx:xd9 CX X E)
    (ht:eval (.Call (.Attribute o m apos) [] [] pos) X.env=(do
      let ov <- eval o X.env
      standAt apos.atName
      let (f,first) <- holding [ov] (getMethod ov m pl)
      callWith pos f first (backTo pos (starEach [] X.env)) (backToKw pos (keywordEach [] X.env))):=by rfl) :
    PE X (.Call (.Attribute o m apos) [] [] pos) (xi1 C m sp dvs E ta tNil):=by
  intro pins s σ H Q I h
  refine PySem.W.methodCall_KW (pl:=pl) (thn (he pins s σ H _ I h) fun u s1 ⟨x,H1,I1,rx,a,dx,fs,ex,ea,l,q⟩=>?_) ht
  subst ex
  obtain rfl:u=Value.ref a:=rx
  refine xg1 I1 ea c hm l ?_
  exact PySem.W.callWith_K0 (first:=[.ref a]) I1.kIn hm.kp (xi9 (us:=[.ref a]) (vs:=[.ref a]) F hr hb hd hx I1 (.cons rfl .nil) q)
structure Mk (K:PySem.W.Frag) (C f:Addr):Prop where
 makes:PySem.W.makesIn K C=true
 init:PySem.W.findIn K (.ref C) "__init__"=some (some (.ref f))
 fn:PySem.W.isFn K (.ref f)=true
 kp:PySem.W.keepIn K (.ref C)=true
theorem xos {pins:List (Addr × Obj)}{σ:St}{H:Hp}{s:Shared}{Q:VK}{us:List Value}{vs:List V} (M:Mk X.K C f) (F:FnOk q0 X.prog X.w X.K X.mg X.base CX k f fd ps sp) (hr:Room q0 (k+1) X.A) (hb:x4 X.K fd ps ds) (hd:Vals dvs ds)
    (hx:xd9 CX X E) (I:Inv X pins σ H s) (r:Vals vs us)
    (h:∀ x dx,H x=none->H dx=none->dx≠x->sp (.ref x::(vs++dvs)) (upd (upd H dx (.own x)) x (.ins C dx [])) (fun v H2=>v=.non/\Q (.ref x) H2) (E σ)) :
    wpAny (model X.prog X.w) X.A (call (.ref C) us) (EP X pins σ Q) X.xe s:=by
  have hq:=h (s.heap.objs.size+1) s.heap.objs.size (I.hok.fresh (Nat.le_succ _)) (I.hok.fresh (Nat.le_refl _)) (Nat.ne_of_lt (Nat.lt_succ_self _))
  have I2:=Inv.made (C:=C) I
  have r2:Vals (V.ref (s.heap.objs.size+1)::(vs++dvs)) (Value.ref (s.heap.objs.size+1)::(us++ds)):=.cons rfl (r.append hd)
  have hl:(Value.ref (s.heap.objs.size+1)::us++ds).length=ps.length:=by
    have e:=r2.length
    rw[F.len _ _ _ _ hq] at e
    exact e.symm
  refine wpAny_call (xo0 (f:=f) I.kIn M.makes M.init (beq_iff_eq.mp M.fn) (codeAny_mono (F.run _ X.stack _ _ ⟨Value.ref (s.heap.objs.size+1)::us,[]⟩ (Value.ref (s.heap.objs.size+1)::(us++ds)) _ _ (E σ) (hr.make C us [])
    (I2.env0.make C us []) (hb _ (Value.ref (s.heap.objs.size+1)::us) I2.kIn hl) r2 hq) fun r s' hq'=>?_))
  cases r with
  | error e=>exact hx pins σ _ _ e s' I2 hq'
  | ok fl =>
    cases fl with
    | ret u =>
      obtain⟨v,H',I3,rv,ev,q3⟩:=I2.after hq'
      subst ev
      exact⟨rv,⟨V.ref (s.heap.objs.size+1),H',I3,rfl,q3⟩⟩
    | next=>exact False.elim hq'
    | brk=>exact False.elim hq'
    | cont=>exact False.elim hq'
theorem xf2 (M:Mk X.K C f) (F:FnOk q0 X.prog X.w X.K X.mg X.base CX k f fd ps sp) (hr:Room q0 (k+1) X.A) (hg:Gl X x) (hm:X.mg x=some (.ref C)) (hb:x4 X.K fd ps ds) (hd:Vals dvs ds) (hx:xd9 CX X E)
    (ha:PA X (e::es) t) (hdb:(x == ("__debug__":Str))=false:=by decide) (he:starEach (e::es) X.env=(false,eval e X.env)::starEach es X.env:=by rfl) (hpl:(backTo pos (starEach es X.env)).any (·.1)=false:=by rfl) :
    PE X (.Call (.Name x p) (e::es) [] pos) (xs7 C sp dvs E t):=by
  intro pins s σ H Q I h
  refine wpAny_Call_Name_kw (xhw I hg hm ?_ hdb)
  refine PySem.W.callWith_K (h₀:=X.base) I.ok.mod.kin M.kp (thn (ha pos pins s σ H _ I h) fun us s1 ⟨vs,H1,I1,r,q⟩=>⟨I1.kIn,?_⟩) he hpl
  exact xos M F hr hb hd hx I1 r q
end
structure xw (N P:List Str) (sc:Scope):Prop where
 kind:sc.kind=.function
 co:sc.isCoroutine=false
 gen:sc.isGenerator=false
 nd:N.Nodup
 pre:N.take P.length=P
 par:∀ x∈P,sc.names.lookup x=some .local\/sc.names.lookup x=some .cell
 nofree:∀ y∈sc.names,y.2≠.free
theorem xii {kindOf:Str->Option NameKind}{x:Str}:∀{binds:List (Str × Value)}{m:Str->Option Value},(∀ v,(x,v)∉binds)->bindL kindOf binds m x=m x
 | [],_,_=>rfl
 | (n,v)::r,m,h=>by
  unfold bindL
  rw[xii fun w hw=>h w (List.mem_cons_of_mem _ hw)]
  split
  .have:x≠n:=by rintro rfl; exact h v List.mem_cons_self
   simp[this]
  .rfl
theorem xis {kindOf:Str->Option NameKind}{x:Str}:∀{binds:List (Str × Value)}{m:Str->Option Value},(∀ v,(x,v)∉binds)->bindC kindOf binds m x=m x
 | [],_,_=>rfl
 | (n,v)::r,m,h=>by
  unfold bindC
  rw[xis fun w hw=>h w (List.mem_cons_of_mem _ hw)]
  split
  .rfl
  .have:x≠n:=by rintro rfl; exact h v List.mem_cons_self
   simp[this]
theorem xiu {kindOf:Str->Option NameKind}{x:Str}{v:Value}:∀{P:List Str}{vs:List Value}{i:Nat}{m:Str->Option Value},P.Nodup->P[i]?=some x->vs[i]?=some v->kindOf x=some .local ->
    bindL kindOf (P.zip vs) m x=some v
  | [],_,_,_,_,h,_,_=>by simp at h
  | _::_,[],_,_,_,_,h,_=>by simp at h
  | p::P,w::vs,0,m,nd,h1,h2,hk=>by
    simp at h1 h2; subst h1; subst h2
    show bindL kindOf ((p,w)::P.zip vs) m p=_
    unfold bindL
    rw[xii fun v hv=>(List.nodup_cons.mp nd).1 (List.of_mem_zip hv).1,if_pos hk]
    simp
  | p::P,w::vs,i+1,m,nd,h1,h2,hk=>by
    show bindL kindOf ((p,w)::P.zip vs) m x=_
    unfold bindL
    exact xiu (i:=i) (List.nodup_cons.mp nd).2 (by simpa using h1) (by simpa using h2) hk
theorem xij {kindOf:Str->Option NameKind}{x:Str}{v:Value}:∀{P:List Str}{vs:List Value}{i:Nat}{m:Str->Option Value},P.Nodup->P[i]?=some x->vs[i]?=some v->kindOf x≠some .local ->
    bindC kindOf (P.zip vs) m x=some v
  | [],_,_,_,_,h,_,_=>by simp at h
  | _::_,[],_,_,_,_,h,_=>by simp at h
  | p::P,w::vs,0,m,nd,h1,h2,hk=>by
    simp at h1 h2; subst h1; subst h2
    show bindC kindOf ((p,w)::P.zip vs) m p=_
    unfold bindC
    rw[xis fun v hv=>(List.nodup_cons.mp nd).1 (List.of_mem_zip hv).1,if_neg hk]
    simp
  | p::P,w::vs,i+1,m,nd,h1,h2,hk=>by
    show bindC kindOf ((p,w)::P.zip vs) m x=_
    unfold bindC
    exact xij (i:=i) (List.nodup_cons.mp nd).2 (by simpa using h1) (by simpa using h2) hk
def xde (N:List Str) (vs:List V):St:=vs.map some++List.replicate (N.length-vs.length) none
def cxOf (q0:Bool) (CX:CXT) (P:Program) (w:World) (K:PySem.W.Frag) (mg:Str->Option Value) (base:Heap) (N:List Str) (qual:Str) (scope:Scope) (f:Addr) (cd:Value) (A:Around) (outer:List Env) (s:Shared) (H:Hp) (E:XK):Cx where
 prog:=P
 w:=w
 K:=K
 mg:=mg
 base:=base
 A:=A.deeper (envOfC qual scope s.heap.objs.size f cd)
 N:=N
 s₀:=s
 H₀:=H
 env:=envOfC qual scope s.heap.objs.size f cd
 outer:=outer
 stack:=envOfC qual scope s.heap.objs.size f cd::outer
 ex:=[]
 calm:=q0
 fn:=fun _=>true
 pn:=[]
 xe:=fun e s'=>wpAny (model P w) (A.deeper (envOfC qual scope s.heap.objs.size f cd)) (leaving (envOfC qual scope s.heap.objs.size f cd) e) (fun _ s''=>CX outer H s E e s'') (fun e' s''=>CX outer H s E e' s'') s'
theorem xja {sc:Scope}{n:Nat}{x:Str} (h:sc.names.lookup x=some .cell):∃ c,(cellsFrom n sc.names []).lookup x=some c:=by
 have q:=PySem.W.cellsFrom_some sc.names n [] (.inl h)
 exact Option.isSome_iff_exists.mp q
theorem xm9 {CX:CXT}{P:Program}{w:World}{K:PySem.W.Frag}{mg:Str->Option Value}{base:Heap}{N ps:List Str}{qual:Str}{scope:Scope}{f:Addr}{cd:Value}{A:Around}{outer:List Env}{s s1:Shared}{H:Hp}{E:XK}{us:List Value}{vs:List V}
    (S:xw N ps scope) (hd:q0=true->A.handled=none) (e0:Env0 P w K mg base A outer s H) (hl:vs.length=ps.length) (r:Vals vs us)
    (x:InCallC s s.heap.objs.size (bindL (envOfC qual scope s.heap.objs.size f cd).kindOf (ps.zip us) fun _=>none) (cellsFrom (s.heap.objs.size+1) scope.names []) (bindC (envOfC qual scope s.heap.objs.size f cd).kindOf (ps.zip us) fun _=>none) s1) :
    Inv (cxOf q0 CX P w K mg base N qual scope f cd A outer s H E) [] (xde N vs) H s1:=by
  have hpl:ps.length<=N.length:=by have:=congrArg List.length S.pre; rw[List.length_take] at this; omega
  obtain⟨h1,tk,rfl,hk⟩:=x.done
  have noA:∀ b:Addr,b∉(cxOf q0 CX P w K mg base N qual scope f cd A outer s H E).ex:=fun b z=>absurd (show b∈([]:List Addr) from z) (by simp)
  refine⟨⟨e0.mod,S.kind,rfl,rfl,Nat.le_refl _,fun y z c h1 h2=>?_,fun y hy=>?_,fun y c _ h=>?_,hd,Around.frames_deeper e0.frames,.inr ⟨rfl,rfl⟩,fun b z=>absurd z (noA b),e0.bs,e0.bsz,fun b _ _=>noA b,fun b z=>absurd z (noA b),e0.funs,e0.frf⟩,
    rfl,e0.bare,Un.kept hk,⟨_,x.toInCall.ns,fun i y v h1 h2 h3=>?_⟩,fun y c h=>⟨_,x.cell y c h⟩,e0.hok.fresh (Nat.le_refl _),fun y c h=>?_,fun p hp=>absurd (show p∈([]:List (Addr × Obj)) from hp) (by simp),e0.hok.kept hk,?_⟩
  . exact name_of_addr x.apart (PySem.mem_of_lookup h1) (PySem.mem_of_lookup h2)
  . have hy:scope.names.lookup y=some .cell\/scope.names.lookup y=some .free:=hy
    rcases hy with hy|hy
    . exact xja hy
    . exact absurd rfl (S.nofree _ (PySem.mem_of_lookup hy))
  . exact Nat.le_of_lt (x.above y c (PySem.mem_of_lookup h))
  . have hi:i<vs.length:=by
      unfold xde at h2
      by_cases hi:i<vs.length
      . exact hi
      . rw[List.getElem?_append_right (by simpa using hi)] at h2
        rw[List.getElem?_replicate] at h2
        split at h2<;>cases h2
    have ha:vs[i]?=some v:=by
      unfold xde at h2
      rw[List.getElem?_append_left (by simpa using hi),List.getElem?_map] at h2
      cases e:vs[i]? with
      | none=>rw[e] at h2; cases h2
      | some a=>rw[e] at h2; cases h2; rfl
    obtain⟨u,hu,rv⟩:=r.get ha
    have hp:ps[i]?=some y:=by
      rw[<- S.pre,List.getElem?_take_of_lt (by omega)]; exact h1
    have ndP:ps.Nodup:=by rw[<- S.pre]; exact S.nd.sublist (List.take_sublist _ _)
    refine⟨u,rv,?_⟩
    rcases S.par y (List.mem_of_getElem? hp) with k|k
    . exact .inl ⟨k,xiu ndP hp hu k⟩
    . obtain⟨c,e⟩:=xja (n:=s.heap.objs.size+1) k
      refine .inr ⟨.inl k,c,e,?_⟩
      have q:=x.cell y c e
      rw[xij ndP hp hu (by show scope.names.lookup y≠_; rw[k]; decide)] at q
      exact q
  . exact e0.hok.fresh (Nat.le_of_lt (x.above y c (PySem.mem_of_lookup h)))
  . unfold xde
    show _=N.length
    rw[List.length_append,List.length_map,List.length_replicate]
    omega
theorem xl6 {CX:CXT}{P:Program}{w:World}{K:PySem.W.Frag}{mg:Str->Option Value}{base:Heap}{k:Nat}{f:Addr}{name qual:Str}{params:Arguments}{body:List Stmt}{scope:Scope}{dV kV doc pm cdv ct oc:Value}{an od:Option Addr}
    {osl:Array (Option Value)}{N ps:List Str}{sp:Sp} (lk:K.lookup f=some ⟨oc,od,.func (PySem.W.fnOf name qual params body scope dV kV doc pm an cdv ct),osl⟩) (hcd:PySem.W.codeIn K cdv qual=true) (S:xw N ps scope)
    (len:∀ vs H Q E,sp vs H Q E->vs.length=ps.length)
    (hbody:∀(A:Around) (outer:List Env) (s:Shared) (H:Hp) (vs:List V) (Q:VK) (E:XK),Room q0 k (A.deeper (envOfC qual scope s.heap.objs.size f cdv))->sp vs H Q E ->
      ∃ t,PSs (cxOf q0 CX P w K mg base N qual scope f cdv A outer s H E) body t/\t { nx:=fun _ H'=>Q .non H',rt:=Q } (xde N vs) H) :
    FnOk q0 P w K mg base CX (k+1) f (PySem.W.fnOf name qual params body scope dV kV doc pm an cdv ct) ps sp:=by
  refine⟨len,fun A outer s H args us vs Q E hr e0 hb r hsp=>?_⟩
  have hl:=len _ _ _ _ hsp
  have KX:K.In s.heap:=e0.mod.kin.keeps fun b o e=>(e0.bs b o e).1
  have lim:s.heap.NoLimit:=e0.mod.nolimit.keeps fun b o e=>(e0.bs b o e).1
  have hkind:∀ y∈ps.zip us,scope.names.lookup y.1=some .local\/(scope.names.lookup y.1=some .cell/\((cellsFrom (s.heap.objs.size+1) scope.names []).lookup y.1).isSome=true):=fun⟨n,v⟩ hy=>by
    rcases S.par n (List.of_mem_zip hy).1 with q|q
    . exact .inl q
    . exact .inr ⟨q,PySem.W.cellsFrom_some _ _ _ (.inl q)⟩
  refine codeAny_call_function hr.depth (KX _ _ lk) rfl S.co S.gen rfl (PySem.W.codeRec_of KX hcd) (hb _ _ _ _ ?_)
  refine wpAny_newFunctionEnv_cells S.kind hkind fun env he s1 x=>?_
  subst he
  refine⟨lim.keeps x.toInCall.keep,codeAny_func ?_⟩
  obtain⟨t,ht,hq⟩:=hbody A outer s H vs Q E (hr.deeper _) hsp
  have I:Inv (cxOf q0 CX P w K mg base N qual scope f cdv A outer s H E) [] (xde N vs) H s1:=xm9 S hr.hd e0 hl r x
  refine wpAny_mono (ht [] s1 (xde N vs) H _ I hq) (fun fl s' hs=>?_) fun e s' hs=>hs
  have fin:∀{σ':St}{H':Hp}{v:V}{u:Value},Inv (cxOf q0 CX P w K mg base N qual scope f cdv A outer s H E) [] σ' H' s'->RelV v u->Q v H'->CE outer P w H s Q u s' :=
    fun {σ' H' v u} J rv q=>⟨v,H',J.os,J.bare,J.base,J.hok,rv,q⟩
  cases fl with
  | ret u =>
    obtain⟨v,σ',H',J,rv,q⟩:=hs
    exact fin J rv q
  | next =>
    obtain⟨σ',H',J,q⟩:=hs
    exact fin (v:=V.non) (u:=Value.none) J rfl q
  | brk =>
    obtain⟨_,_,_,q⟩:=hs
    exact False.elim q
  | cont =>
    obtain⟨_,_,_,q⟩:=hs
    exact False.elim q
section
variable {X:Cx}{x:Str}{p pos:Pos}{e:Expr}{es:List Expr}{t:TA}{id T:String}{r:List V->Hp->VK->Prop}
def tCB (r:List V->Hp->VK->Prop) (t:TA):TE:=fun σ H Q=>t σ H fun vs H1=>r vs H1 Q
theorem x6 (hc:xbu X (.builtin id) r) (hg:Gl X x) (hm:X.mg x=none) (hv:bootBuiltins x=some (.builtin id)) (ha:PA X (e::es) t) (hn:x≠"__name__":=by decide) (hdb:(x == ("__debug__":Str))=false:=by decide)
    (he:starEach (e::es) X.env=(false,eval e X.env)::starEach es X.env:=by rfl) (hpl:(backTo pos (starEach es X.env)).any (·.1)=false:=by rfl):PE X (.Call (.Name x p) (e::es) [] pos) (tCB r t):=by
  intro pins s σ H Q I h
  refine wpAny_Call_Name_kw (xcn I hg hm hv ?_ hn hdb)
  exact PyProof.Rows.callWith_builtin1 (thn (ha pos pins s σ H _ I h) fun us s1 ⟨vs,H1,I1,r1,q1⟩=>hc pins s1 σ H1 vs us Q I1 r1 q1) he hpl
theorem xb1 (hc:xbu X (.type T) r) (hg:Gl X x) (hm:X.mg x=none) (hv:bootBuiltins x=some (.type T)) (ha:PA X (e::es) t) (hn:x≠"__name__":=by decide) (hdb:(x == ("__debug__":Str))=false:=by decide)
    (he:starEach (e::es) X.env=(false,eval e X.env)::starEach es X.env:=by rfl) (hpl:(backTo pos (starEach es X.env)).any (·.1)=false:=by rfl):PE X (.Call (.Name x p) (e::es) [] pos) (tCB r t):=by
  intro pins s σ H Q I h
  refine wpAny_Call_Name_kw (xcn I hg hm hv ?_ hn hdb)
  exact PyProof.Rows.callWith_type1 (thn (ha pos pins s σ H _ I h) fun us s1 ⟨vs,H1,I1,r1,q1⟩=>hc pins s1 σ H1 vs us Q I1 r1 q1) he hpl
end
end L2
namespace HT
open PySem PyProof.Rows
section
variable {prog:Program}{w:World}{A:Around}{E:Value->Shared->Prop}{s:Shared}
theorem cat_tup {t b:Addr}{vs ws:List Value}{Q:Value->Shared->Prop} (ht:IsTup s.heap t vs.toArray) (hb:IsTup s.heap b ws.toArray) (hv:vs≠[])
    (h1:ws=[]->Q (.ref t) s) (h2:ws≠[]->Q (.ref s.heap.objs.size) { s with heap:=s.heap.push { cls:=.type "tuple",data:=.seq (vs++ws).toArray } })
    (hsz:vs.length+ws.length<=sizeLine):wpAny (model prog w) A (binaryOp .Add (.ref t) (.ref b)) Q E s:=by
  obtain⟨⟨cls,dd,data,sl⟩,ho,hc,n,hd⟩:=id ht
  obtain⟨⟨cls2,dd2,data2,sl2⟩,ho2,hc2,n2,hd2⟩:=id hb
  simp only at hc hd hc2 hd2
  subst hc hd hc2 hd2
  have e:vs.toArray++ws.toArray=(vs++ws).toArray:=by simp
  by_cases hw:ws=[]
  . exact concat_meets ⟨_,ho,rfl⟩ ⟨_,ho2,rfl⟩ noFill_tuple_add seq_tuple_add PySem.F.slot_tuple_add PySem.F.entry_tuple_add (PySem.F.args_tuple_add_2 _ _)
      (tuple_addW1 t b vs.toArray ws.toArray n n2 dd dd2 sl sl2 (by simpa using hv) (by simp[hw])) ⟨ho,ho2,h1 hw⟩
  . refine concat_meets ⟨_,ho,rfl⟩ ⟨_,ho2,rfl⟩ noFill_tuple_add seq_tuple_add PySem.F.slot_tuple_add PySem.F.entry_tuple_add (PySem.F.args_tuple_add_2 _ _)
      (tuple_addW2 t b vs.toArray ws.toArray n n2 dd dd2 sl sl2 (by simpa using hv) (by simpa using hw) (by rw[List.size_toArray,List.size_toArray]; exact hsz)) ⟨ho,ho2,?_⟩
    rw[e]
    exact h2 hw
def sIx (n d:Nat):Option Int->Nat
 | none=>d
 | some v=>if v<0 then (v+(n:Int)).toNat else min v.toNat n
theorem xsc (n d:Nat) (hd:d<=n) (o:Option Int):sIx n d o<=n:=by
 cases o with
 | none=>exact hd
 | some v =>
  show (if v<0 then (v+(n:Int)).toNat else min v.toNat n)<=n
  by_cases hv:v<0
  .rw [if_pos hv]; omega
  .rw [if_neg hv]; exact Nat.min_le_right _ _
theorem xlo (v:Int) (n d:Nat):(if v<0 then max (v+(n:Int)) 0 else min v (n:Int))=((sIx n d (some v):Nat):Int):=by
 show (if v<0 then max (v+(n:Int)) 0 else min v (n:Int))=(((if v<0 then (v+(n:Int)).toNat else min v.toNat n):Nat):Int)
 by_cases hv:v<0
 .simp only [if_pos hv]; omega
 .simp only [if_neg hv]; omega
theorem xl9 (lo hi:Option Int) (n:Nat):Builtin.Slice.sliceAdjust lo hi 1 (n:Int)=(((sIx n 0 lo:Nat):Int),((sIx n n hi:Nat):Int)):=by
 have h1:¬ ((1:Int)<0):=by omega
 unfold Builtin.Slice.sliceAdjust
 simp only[h1,if_false]
 refine Prod.ext ?_ ?_
 .cases lo with
  | none=>rfl
  | some v=>exact xlo v n 0
 .cases hi with
  | none=>rfl
  | some v=>exact xlo v n n
theorem xmj (i j:Nat):Builtin.Slice.slicePlaces (i:Int) (j:Int) 1=j-i:=by
 unfold Builtin.Slice.slicePlaces
 have h1:(1:Int)>0:=by omega
 simp only[h1,if_true,Int.ediv_one]
 split<;>omega
theorem xhd {v:Value}{o:Option Int}{Q:Option Int->Shared->Prop} (p:IsPart v o) (h:Q o s):wpAny (model prog w) A (Builtin.Slice.slicePartIndex v) Q E s:=by
 cases p with
 | none=>exact slicePart_none h
 | int i t=>exact slicePart_int h
theorem xgt {sl:Addr}{vl vu:Value}{lo hi:Option Int}{n:Nat}{Q:Int × Int × Nat->Shared->Prop} (hs:s.heap.IsSliceOf sl vl vu .none) (pl:IsPart vl lo) (pu:IsPart vu hi)
    (h:Q (((sIx n 0 lo:Nat):Int),1,sIx n n hi-sIx n 0 lo) s):wpAny (model prog w) A (Builtin.Slice.sliceApplied (.ref sl) (pure (n:Int))) Q E s:=by
  obtain⟨os,hos,hcs,hds⟩:=id hs
  unfold Builtin.Slice.sliceApplied Builtin.Slice.sliceFields
  refine wpAny_bind (wpAny_bind (wpAny_field hos hds (x:=vl) rfl (wpAny_bind (wpAny_field hos hds (x:=vu) rfl (wpAny_bind (wpAny_field hos hds (x:=.none) rfl (wpAny_pure ?_)))))))
  refine wpAny_bind (slicePart_none ?_)
  show wpAny _ _ (if ((1:Int) == 0)=true then _ else _) _ _ s
  rw[if_neg (by decide)]
  refine wpAny_bind (xhd pl (wpAny_bind (xhd pu (wpAny_bind (wpAny_pure ?_)))))
  show wpAny _ _ (match Builtin.Slice.sliceAdjust lo hi 1 (n:Int) with|(lo,hi)=>pure (lo,(1:Int),Builtin.Slice.slicePlaces lo hi 1)) _ _ s
  rw[xl9 lo hi n]
  show wpAny _ _ (pure (((sIx n 0 lo:Nat):Int),(1:Int),Builtin.Slice.slicePlaces ((sIx n 0 lo:Nat):Int) ((sIx n n hi:Nat):Int) 1)) _ _ s
  rw[xmj]
  exact wpAny_pure h
theorem xom (xs:Array Value) (i k:Nat):((List.range k).filterMap fun (m:Nat)=>xs[((i:Int)+(m:Int)*1).toNat]?).toArray=((xs.toList.drop i).take k).toArray:=by
 have e:(fun (m:Nat)=>xs[((i:Int)+(m:Int)*1).toNat]?)=fun m=>xs[i+m]?:=by
  funext m
  have:((i:Int)+(m:Int)*1).toNat=i+m:=by omega
  rw[this]
 rw[e]
 have:=pick_run xs i k
 rw[List.filterMap_map] at this
 have e2:((fun x=>xs[x]?)∘fun x=>i+x)=fun m=>xs[i+m]?:=rfl
 rw[e2] at this
 rw[this]
theorem getItem_tuple_cut {t sl:Addr}{items:Array Value}{vl vu:Value}{lo hi:Option Int}{Q:Value->Shared->Prop} (ht:IsTup s.heap t items) (hs:s.heap.IsSliceOf sl vl vu .none) (pl:IsPart vl lo) (pu:IsPart vu hi)
    (hw:¬ (sIx items.size 0 lo=0/\sIx items.size items.size hi=items.size))
    (h:Q (.ref s.heap.objs.size) { s with heap:=s.heap.push { cls:=.type "tuple",data:=.seq ((items.toList.drop (sIx items.size 0 lo)).take (sIx items.size items.size hi-sIx items.size 0 lo)).toArray } })
    (hsz:items.size<=sizeLine):wpAny (model prog w) A (getItem (.ref t) (.ref sl)) Q E s:=by
  have htake:sizeOk (.seq ((items.toList.drop (sIx items.size 0 lo)).take (sIx items.size items.size hi-sIx items.size 0 lo)).toArray):=by
    show ((items.toList.drop (sIx items.size 0 lo)).take (sIx items.size items.size hi-sIx items.size 0 lo)).toArray.size<=sizeLine
    rw[List.size_toArray,List.length_take,List.length_drop,Array.length_toList]
    omega
  have hj:sIx items.size items.size hi<=items.size:=xsc _ _ (Nat.le_refl _) hi
  obtain⟨os,hos,hcs,hds⟩:=id hs
  have hTs:s.TypeIs (.ref sl) "slice":=⟨os,hos,hcs⟩
  unfold getItem
  try with_reducible refine wpAny_holding ?_
  first|refine wpAny_bind (wpAny_pure ?_)|skip
  refine wpAny_bind (wpAny_sequenceKey ht.typeIs (by decide) ?_)
  refine wpAny_bind (wpAny_callSpecial?_slot (name:=Str.ofString "__getitem__") ht.typeIs PyProof.Rows.slot_tuple_getitem
    (wpAny_call_entry PyProof.Rows.slot_tuple_getitem ht.typeIs entry_tuple_getitem ?_ (args_tuple_getitem _ _)))
  show wpAny _ _ (Builtin.Tuple.tupleItemsOf (.ref t)>>=_) _ _ s
  refine wpAny_bind (tupleItemsOf_ ht ?_)
  refine wpAny_bind (wpAny_typeOf hTs ?_)
  rw[if_pos (by decide)]
  refine wpAny_bind (xgt hs pl pu ?_)
  have hno:¬ ((((sIx items.size 0 lo:Nat):Int) == 0&&(1:Int) == 1&&(sIx items.size items.size hi-sIx items.size 0 lo) == items.size)=true):=by
    intro q
    rw[Bool.and_eq_true,Bool.and_eq_true] at q
    have q1:((sIx items.size 0 lo:Nat):Int)=0:=eq_of_beq q.1.1
    have q2:sIx items.size items.size hi-sIx items.size 0 lo=items.size:=eq_of_beq q.2
    exact hw ⟨by omega,by omega⟩
  show wpAny _ _ (if (((sIx items.size 0 lo:Nat):Int) == 0&&(1:Int) == 1&&(sIx items.size items.size hi-sIx items.size 0 lo) == items.size)=true then _ else _) _ _ s
  rw[if_neg hno,xom]
  first
    | exact wpAny_bind (m:=Builtin.Tuple.tupleExact _) (wpAny_newObj_type (wpAny_pure ⟨_,rfl,wpAny_pure h⟩) htake)
    | exact wpAny_bind (m:=Builtin.Tuple.tupleExact _) (wpAny_newObj_type (wpAny_bind (wpAny_pure (wpAny_pure ⟨_,rfl,wpAny_pure h⟩))) htake)
    | exact wpAny_bind (wpAny_bind (m:=Builtin.Tuple.tupleExact _) (wpAny_newObj_type (wpAny_pure (wpAny_pure ⟨_,rfl,wpAny_pure h⟩)) htake))
    | exact wpAny_bind (wpAny_bind (m:=Builtin.Tuple.tupleExact _) (wpAny_newObj_type (wpAny_pure ⟨_,rfl,wpAny_pure h⟩) htake))
end
end HT
namespace L2
open PySem PySem.Spec PyProof.Rows
variable {q0:Bool}
abbrev TO:=St->Hp->(Option Int->Hp->Prop)->Prop
def PO (X:Cx) (e:Option Expr) (t:TO):Prop :=
 ∀(pins:List (Addr × Obj)) (s:Shared) (σ:St) (H:Hp) (Q:Option Int->Hp->Prop),Inv X pins σ H s->t σ H Q ->
  wpAny (model X.prog X.w) X.A (evalPart e X.env) (fun u s'=>∃ o H',Inv X pins σ H' s'/\IsPart u o/\Q o H') X.xe s
def xri:TO:=fun _ H Q=>Q none H
def xt6 (t:TE):TO:=fun σ H Q=>t σ H fun x H1=>∃ i,x=.int i/\Q (some i) H1
section
variable {X:Cx}{e:Expr}{te:TE}{lo hi:Option Expr}{tl th:TO}{pos p2:Pos}
theorem xq8:PO X none xri:=by
 intro pins s σ H Q I h
 rw[evalPart_none]
 exact wpAny_pure ⟨none,H,I,.none,h⟩
theorem xhx (h:PE X e te):PO X (some e) (xt6 te):=by
 intro pins s σ H Q I hw
 rw[evalPart_some]
 refine thn (h pins s σ H _ I hw) fun u s1 ⟨x,H1,I1,r1,q1⟩=>?_
 obtain⟨i,rfl,q⟩:=q1
 obtain⟨t,rfl⟩:=r1
 exact⟨some i,H1,I1,.int i t,q⟩
def SlR (X:Cx) (r:V->Option Int->Option Int->Hp->VK->Prop):Prop :=
 ∀(pins:List (Addr × Obj)) (s:Shared) (σ:St) (H:Hp) (x:V) (v vl vu:Value) (lo hi:Option Int) (sl:Addr) (Q:VK),Inv X pins σ H s->RelV x v->s.heap.IsSliceOf sl vl vu .none->IsPart vl lo->IsPart vu hi->r x lo hi H Q ->
  ∃ T id,typeLookup (.type T) "__getitem__"=pure (some (.builtin id))/\s.TypeIs v T/\wpAny (model X.prog X.w) X.A (getItem v (.ref sl)) (EP X pins σ Q) X.xe s
def tSl (r:V->Option Int->Option Int->Hp->VK->Prop) (te:TE) (tl th:TO):TE:=fun σ H Q=>te σ H fun x H1=>tl σ H1 fun l H2=>th σ H2 fun u H3=>r x l u H3 Q
theorem xi6 {r:V->Option Int->Option Int->Hp->VK->Prop} (hr:SlR X r) (he:PE X e te) (hl:PO X lo tl) (hu:PO X hi th):PE X (.Subscript e (.Slice lo hi none p2) pos) (tSl r te tl th):=by
 intro pins s σ H Q I h
 refine Subscript_ (thn (he pins s σ H _ I h) fun v s1 ⟨x,H1,I1,r1,q1⟩=>?_)
 refine wpAny_Slice (thn (hl pins s1 σ H1 _ I1 q1) fun vl s2 ⟨l,H2,I2,pl,q2⟩=>thn (hu pins s2 σ H2 _ I2 q2) fun vu s3 ⟨u,H3,I3,pu,q3⟩=>?_)
 rw[evalPart_none]
 refine wpAny_pure ?_
 have I4:Inv X pins σ H3 { s3 with heap:=s3.heap.push { cls:=.type "slice",data:=.fields #[vl,vu,.none] } }:=I3.kept (t':=s3.toks) fun b ob q=>Heap.get?_push_of_some _ q
 obtain⟨T,id,hT,ht,hg⟩:=hr pins { s3 with heap:=s3.heap.push { cls:=.type "slice",data:=.fields #[vl,vu,.none] } } σ H3 x v vl vu l u s3.heap.objs.size Q I4 r1 (Heap.IsSliceOf.new ..) pl pu q3
 show wpAny (model X.prog X.w) X.A (subscriptTail e (.Slice lo hi none p2) v (.ref s3.heap.objs.size)) (EP X pins σ Q) X.xe { s3 with heap:=s3.heap.push { cls:=.type "slice",data:=.fields #[vl,vu,.none] } }
 exact tail_any (ops:=[.ref s3.heap.objs.size,v]) ht hT hg (by with_unfolding_all rfl)
def cutV (xs:List V) (lo hi:Option Int):List V:=(xs.drop (HT.sIx xs.length 0 lo)).take (HT.sIx xs.length xs.length hi-HT.sIx xs.length 0 lo)
theorem xgd (xs:List V) (lo hi:Option Int):(cutV xs lo hi).length<=xs.length:=by
 unfold cutV
 rw[List.length_take,List.length_drop]
 omega
def rSlT (K:PySem.W.Frag):V->Option Int->Option Int->Hp->VK->Prop:=fun x lo hi H Q=>∃ a xs,x=.ref a/\SqT K H a xs /\
 ¬ (HT.sIx xs.length 0 lo=0/\HT.sIx xs.length xs.length hi=xs.length)/\∀ p,H p=none->Q (.ref p) (upd H p (.tup (cutV xs lo hi)))
theorem xs3:SlR X (rSlT X.K):=by
 intro pins s σ H x v vl vu lo hi sl Q I rx hs pl pu h
 obtain⟨a,xs,rfl,hx,hw,q⟩:=h
 cases rx
 obtain⟨its,r,ht,hz⟩:=I.tuple hx
 have hlen:its.toArray.size=xs.length:=by rw[List.size_toArray]; exact r.length.symm
 refine⟨"tuple",_,PyProof.Rows.slot_tuple_getitem.lookup,ht.typeIs,?_⟩
 refine HT.getItem_tuple_cut ht hs pl pu (by rw[hlen]; exact hw) ?_ (by rw[hlen]; exact hz)
 rw[hlen]
 refine⟨.ref s.heap.objs.size,_,I.laid (t':=s.toks) (o:=.tup (cutV xs lo hi)) (fun b ob q=>Heap.get?_push_of_some _ q) (Nat.le_refl _) ?_,rfl,q _ (I.hok.fresh (Nat.le_refl _))⟩
 exact⟨Nat.le_trans (xgd xs lo hi) hz,_,(r.drop (HT.sIx xs.length 0 lo)).take (HT.sIx xs.length xs.length hi-HT.sIx xs.length 0 lo),IsTup.new _ _⟩
def xmf (K:PySem.W.Frag):R2:=fun x y H Q=>∃ a b xs ys,x=.ref a/\y=.ref b/\SqT K H a xs/\SqT K H b ys/\xs≠[]/\xs.length+ys.length<=sizeLine /\
 (ys=[]->Q (.ref a) H)/\(ys≠[]->∀ p,H p=none->Q (.ref p) (upd H p (.tup (xs++ys))))
theorem Vals.nil_iff {xs:List V}{us:List Value} (r:Vals xs us):us=[]↔xs=[]:=by
 cases r with
 | nil=>simp
 | cons _ _=>simp
theorem xli:OpR X (binaryOp .Add) (xmf X.K):=by
 intro pins s σ H x y v u Q I rx ry h
 obtain⟨a,b,xs,ys,rfl,rfl,ha,hb,hx,hz,q1,q2⟩:=h
 cases rx
 cases ry
 obtain⟨its,r1,p1,_⟩:=I.tuple ha
 obtain⟨its2,r2,p2,_⟩:=I.tuple hb
 refine HT.cat_tup p1 p2 (fun z=>hx (r1.nil_iff.mp z)) (fun z=>⟨.ref a,H,I,rfl,q1 (r2.nil_iff.mp z)⟩) (fun z=>?_) (by rw[<- r1.length,<- r2.length]; exact hz)
 refine⟨.ref s.heap.objs.size,_,I.laid (t':=s.toks) (o:=.tup (xs++ys)) (fun b ob q=>Heap.get?_push_of_some _ q) (Nat.le_refl _) ?_,rfl,q2 (fun w=>z (r2.nil_iff.mpr w)) _ (I.hok.fresh (Nat.le_refl _))⟩
 exact⟨by rw[List.length_append]; exact hz,_,r1.append r2,IsTup.new _ _⟩
end
def ixN (n:Nat) (i:Int):Option Nat:=if 0<=i then (if i<n then some i.toNat else none) else if -(n:Int)<=i then some (i+n).toNat else none
def atI {α:Type} (xs:List α) (i:Int):Option α:=(ixN xs.length i).bind fun j=>xs[j]?
theorem xq9 {n:Nat}{i:Int}{j:Nat} (h:ixN n i=some j):seqIndex? i n=some j/\j<n/\-(n:Int)<=i/\i<n:=by
 unfold ixN at h
 by_cases h0:0<=i
 .rw [if_pos h0] at h
  by_cases h1:i<n
  .rw [if_pos h1] at h
   have e:i.toNat=j:=Option.some.inj h
   exact⟨by rw[seqIndex_of h0 h1,e],by omega,by omega,h1⟩
  .rw [if_neg h1] at h; cases h
 .rw [if_neg h0] at h
  by_cases h1:-(n:Int)<=i
  .rw [if_pos h1] at h
   have e:(i+n).toNat=j:=Option.some.inj h
   exact⟨by rw[seqIndex_neg (by omega) h1,e],by omega,h1,by omega⟩
  .rw [if_neg h1] at h; cases h
theorem xhv {α:Type}{xs:List α}{i:Int}{v:α} (h:atI xs i=some v):∃ j,seqIndex? i xs.length=some j/\xs[j]?=some v/\j<xs.length/\-(xs.length:Int)<=i/\i<xs.length:=by
 unfold atI at h
 cases e:ixN xs.length i with
 | none=>rw[e] at h; cases h
 | some j =>
  rw[e] at h
  obtain⟨h1,h2,h3,h4⟩:=xq9 e
  exact⟨j,h1,h,h2,h3,h4⟩
theorem xdx {α:Type}{xs:List α}{j:Nat}{v:α} (h:xs[j]?=some v):atI xs (j:Int)=some v:=by
 have hj:j<xs.length:=(List.getElem?_eq_some_iff.mp h).1
 have e:ixN xs.length (j:Int)=some j:=by
  unfold ixN
  rw[if_pos (by omega),if_pos (by omega)]; simp
 unfold atI; rw[e]; exact h
def xrg (b:Expr):Prop:=∀ o i,subscripted b false o i=operate [o,i] (getItem o i)
def IxR (X:Cx) (r:R2):Prop :=
 ∀(value slice:Expr) (pins:List (Addr × Obj)) (s:Shared) (σ:St) (H:Hp) (x y:V) (v u:Value) (Q:VK),Inv X pins σ H s->RelV x v->RelV y u->r x y H Q ->
  subscripted slice false v u=operate [v,u] (getItem v u)->wpAny (model X.prog X.w) X.A (subscriptTail value slice v u) (EP X pins σ Q) X.xe s
def MtR (X:Cx) (id:String) (r:V->List V->Hp->VK->Prop):Prop :=
 ∀(pins:List (Addr × Obj)) (s:Shared) (σ:St) (H:Hp) (x:V) (xs:List V) (v:Value) (us:List Value) (Q:VK),Inv X pins σ H s->RelV x v->Vals xs us->r x xs H Q ->
  wpAny (model X.prog X.w) X.A (call (.builtin id) (v::us)) (EP X pins σ Q) X.xe s
section
variable {X:Cx}{a b:Expr}{ta tb:TE}{pos:Pos}
theorem xay {r:R2} (hr:IxR X r) (ha:PE X a ta) (hb:PE X b tb) (hs:xrg b):PE X (.Subscript a b pos) (tOp r ta tb):=by
 intro pins s σ H Q I h
 exact Subscript_ (binT ha hb I h fun v u s2 x y H2 I2 rx ry q=>hr a b pins s2 σ H2 x y v u Q I2 rx ry q (hs _ _))
def rIxL (K:PySem.W.Frag):R2:=fun x y H Q=>∃ p xs i v,x=.ref p/\y=.int i/\SqL K H p xs/\atI xs i=some v/\Q v H
def rIxT (K:PySem.W.Frag):R2:=fun x y H Q=>∃ p xs i v,x=.ref p/\y=.int i/\SqT K H p xs/\atI xs i=some v/\Q v H
def rIxS:R2:=fun x y H Q=>∃ z i c,x=.str z/\y=.int i/\z.length<=sizeLine/\atI z.cps.toList i=some c/\Q (.str ⟨#[c]⟩) H
theorem xdw:IxR X (rIxL X.K):=by
 intro value slice pins s σ H x y v u Q I rx ry h hs
 obtain⟨p,xs,i,z,rfl,rfl,hq,he,q⟩:=h
 cases rx
 obtain⟨t,rfl⟩:=ry
 obtain⟨its,r,pl,hz⟩:=I.list hq
 obtain⟨j,h1,h2,h3,h4,h5⟩:=xhv he
 obtain⟨w,ew,rw'⟩:=r.get h2
 have hl:=r.length
 have hn:=xfi
 have fin:EP X pins σ Q w s:=⟨z,H,I,rw',q⟩
 by_cases h0:0<=i
 .have hj:i.toNat=j:=by
   rw[seqIndex_of h0 h5] at h1
   exact Option.some.inj h1
  exact item_listR pl.isList h0 (by omega) (by rw[hj]; simpa using ew) fin hs
 .have hj:(i+(its.toArray.size:Int)).toNat=j:=by
   rw[seqIndex_neg (by omega) h4] at h1
   rw[List.size_toArray,<- hl]
   exact Option.some.inj h1
  exact subscriptTail_builtinR (x:=w) pl.isList.typeIs slot_list_getitem.lookup
   (wpAny_getItem_list_neg (Q:=fun r s'=>r=w/\EP X pins σ Q r s') pl.isList (by omega) (by rw[List.size_toArray]<;>omega) (by omega) (by rw[hj]; simpa using ew) ⟨rfl,fin⟩) hs
theorem xaz:IxR X (rIxT X.K):=by
 intro value slice pins s σ H x y v u Q I rx ry h hs
 obtain⟨p,xs,i,z,rfl,rfl,hq,he,q⟩:=h
 cases rx
 obtain⟨t,rfl⟩:=ry
 obtain⟨its,r,pl,hz⟩:=I.tuple hq
 obtain⟨j,h1,h2,h3,h4,h5⟩:=xhv he
 obtain⟨w,ew,rw'⟩:=r.get h2
 have hl:=r.length
 have hn:=xfi
 have fin:EP X pins σ Q w s:=⟨z,H,I,rw',q⟩
 exact subscriptTail_builtinR (x:=w) pl.typeIs slot_tuple_getitem.lookup
  (getItem_tuple (j:=j) (Q:=fun r s'=>r=w/\EP X pins σ Q r s') pl (by omega) (by omega) (by rw[List.size_toArray,<- hl]; exact h1) (by simpa using ew) ⟨rfl,fin⟩) hs
theorem xsx:IxR X rIxS:=by
 intro value slice pins s σ H x y v u Q I rx ry h hs
 obtain⟨z,i,c,rfl,rfl,hz,he,q⟩:=h
 obtain⟨t,rfl⟩:=rx
 obtain⟨t',rfl⟩:=ry
 obtain⟨j,h1,h2,h3,h4,h5⟩:=xhv he
 have hl:z.cps.toList.length=z.length:=by simp[Str.length]
 rw[hl] at h1 h4 h5
 have hn:=xfi
 exact tail_any (typeIs_str s z t) slot_str_getitem.lookup (getItem_str (c:=c) (by
  have e1:decide (i < -(2 ^ 63:Int))=false:=decide_eq_false (by omega)
  have e2:decide (i>=2 ^ 63)=false:=decide_eq_false (by omega)
  rw[e1,e2,Bool.or_false]) (by rw[h1]; simpa using h2) ⟨.str ⟨#[c]⟩,H,I.tok _,⟨_,rfl⟩,q⟩) hs
theorem Inv.lst {pins:List (Addr × Obj)}{σ:St}{H:Hp}{s:Shared}{p:Addr}{xs:List V} (I:Inv X pins σ H s) (h:H p=some (.lst xs)) :
    ∃(its:List Value) (n:Nat),Vals xs its/\s.heap.get? p=some { cls:=.type "list",data:=.seq its.toArray n }/\xs.length<=sizeLine:=by
  obtain⟨z,its,n,r,e⟩:=I.hok p _ h
  exact⟨its,n,r,e,z⟩
theorem xj9 (lo hi:Option Int) (n:Nat):(sliceBounds lo hi none n).1=((HT.sIx n 0 lo:Nat):Int)/\(sliceBounds lo hi none n).2.1=((HT.sIx n n hi:Nat):Int)/\(sliceBounds lo hi none n).2.2=1:=by
 refine⟨?_,?_,rfl⟩
 .cases lo with
  | none=>simp[sliceBounds,HT.sIx]
  | some i =>
   simp only[sliceBounds,HT.sIx,Option.getD_none,show (1:Int)>0 by decide,if_true]
   by_cases h:i<0
   .simp only [h,if_true]<;>omega
   .simp only [h,if_false]<;>omega
 .cases hi with
  | none=>simp[sliceBounds,HT.sIx]
  | some i =>
   simp only[sliceBounds,HT.sIx,Option.getD_none,show (1:Int)>0 by decide,if_true]
   by_cases h:i<0
   .simp only [h,if_true]<;>omega
   .simp only [h,if_false]<;>omega
theorem xi0 (its:List Value) (lo hi:Option Int):slicePick its.toArray lo hi none=((its.drop (HT.sIx its.length 0 lo)).take (HT.sIx its.length its.length hi-HT.sIx its.length 0 lo)).toArray:=by
 obtain⟨h1,h2,h3⟩:=xj9 lo hi its.toArray.size
 unfold slicePick
 rw[h1,h2,h3]
 simp only[sliceRange_one,pick_run,List.size_toArray]<;>rfl
def rSlL (K:PySem.W.Frag):V->Option Int->Option Int->Hp->VK->Prop:=fun x lo hi H Q=>∃ a xs,x=.ref a/\SqL K H a xs/\∀ p,H p=none->Q (.ref p) (upd H p (.lst (cutV xs lo hi)))
theorem xqq:SlR X (rSlL X.K):=by
 intro pins s σ H x v vl vu lo hi sl Q I rx hs pl pu h
 obtain⟨a,xs,rfl,hx,q⟩:=h
 cases rx
 obtain⟨its,r,ht,hz⟩:=I.list hx
 have hlen:=r.length
 refine⟨"list",_,slot_list_getitem.lookup,ht.isList.typeIs,?_⟩
 refine wpAny_getItem_list_slice ht.isList hs pl pu .none (by simp) ?_ (by rw[List.size_toArray]<;>omega)
 rw[xi0,<- hlen]
 refine⟨.ref s.heap.objs.size,_,I.laid (t':=s.toks) (o:=.lst (cutV xs lo hi)) (fun b ob q=>Heap.get?_push_of_some _ q) (Nat.le_refl _) ?_,rfl,q _ (I.hok.fresh (Nat.le_refl _))⟩
 exact⟨Nat.le_trans (xgd xs lo hi) hz,_,0,(r.drop (HT.sIx xs.length 0 lo)).take (HT.sIx xs.length xs.length hi-HT.sIx xs.length 0 lo),Heap.get?_push_size _ rfl⟩
def xed:V->Bool
 | .non=>true
 | .bl _=>true
 | .int _=>true
 | .str _=>true
 | _=>false
def eqV:V->V->Bool
 | .non,.non=>true
 | .bl a,.bl b=>a == b
 | .bl a,.int b=>(if a then 1 else 0) == b
 | .int a,.bl b=>a == (if b then 1 else 0)
 | .int a,.int b=>a == b
 | .str a,.str b=>a == b
 | _,_=>false
theorem xrt {A:Around}{s:Shared}{y x:V}{u v:Value} (ry:RelV y u) (rx:RelV x v) (fy:xed y=true) (fx:xed x=true):SeqAt.EqAt A s u v (eqV y x):=by
 cases y with
 | non =>
  cases ry
  cases x with
  | non=>cases rx; exact SeqAt.EqAt.same _
  | bl b=>cases rx; exact SeqAt.EqAt.none_bool b
  | int b=>obtain⟨t,rfl⟩:=rx; exact SeqAt.EqAt.none_int b t
  | str b=>obtain⟨t,rfl⟩:=rx; exact SeqAt.EqAt.none_str b t
  | _=>exact absurd (show false=true from fx) Bool.false_ne_true
 | bl a =>
  cases ry
  cases x with
  | non=>cases rx; exact SeqAt.EqAt.bool_none a
  | bl b=>cases rx; exact SeqAt.EqAt.bool_bool a b
  | int b=>obtain⟨t,rfl⟩:=rx; exact SeqAt.EqAt.bool_int a b t
  | str b=>obtain⟨t,rfl⟩:=rx; exact SeqAt.EqAt.bool_str a b t
  | _=>exact absurd (show false=true from fx) Bool.false_ne_true
 | int a =>
  obtain⟨t',rfl⟩:=ry
  cases x with
  | non=>cases rx; exact SeqAt.EqAt.int_none a t'
  | bl b=>cases rx; exact SeqAt.EqAt.int_bool a t' b
  | int b=>obtain⟨t,rfl⟩:=rx; exact SeqAt.EqAt.int_int a t' b t
  | str b=>obtain⟨t,rfl⟩:=rx; exact SeqAt.EqAt.int_str a t' b t
  | _=>exact absurd (show false=true from fx) Bool.false_ne_true
 | str a =>
  obtain⟨t',rfl⟩:=ry
  cases x with
  | non=>cases rx; exact SeqAt.EqAt.str_none a t'
  | bl b=>cases rx; exact SeqAt.EqAt.str_bool a t' b
  | int b=>obtain⟨t,rfl⟩:=rx; exact SeqAt.EqAt.str_int a t' b t
  | str b=>obtain⟨t,rfl⟩:=rx; exact SeqAt.EqAt.str_str a t' b t
  | _=>exact absurd (show false=true from fx) Bool.false_ne_true
 | _=>exact absurd (show false=true from fy) Bool.false_ne_true
def eqU (x:V) (u:Value):Bool:=match u with
 | .none=>eqV .non x
 | .bool b=>eqV (.bl b) x
 | .int i _=>eqV (.int i) x
 | .str z _=>eqV (.str z) x
 | _=>false
theorem xmm {x y:V}{u:Value} (r:RelV y u) (f:xed y=true):eqU x u=eqV y x:=by
 cases y with
 | non=>cases r; rfl
 | bl b=>cases r; rfl
 | int i=>obtain⟨t,rfl⟩:=r; rfl
 | str z=>obtain⟨t,rfl⟩:=r; rfl
 | _=>exact absurd (show false=true from f) Bool.false_ne_true
theorem xhz {x:V}:∀{xs:List V}{us:List Value},Vals xs us->xs.all xed=true->us.any (eqU x)=xs.any fun y=>eqV y x
 | _,_,.nil,_=>rfl
 | y::xs,u::us,.cons r t,f=>by
  rw[List.all_cons,Bool.and_eq_true] at f
  rw[List.any_cons,List.any_cons,xmm r f.1,xhz t f.2]
theorem xgq {A:Around}{s:Shared}{x:V}{v:Value} (rx:RelV x v) (fx:xed x=true):∀{xs:List V}{us:List Value},Vals xs us->xs.all xed=true->∀ u∈us,SeqAt.EqAt A s u v (eqU x u)
 | _,_,.nil,_=>fun u hu=>by cases hu
 | y::xs,u::us,.cons r t,f=>fun u' hu=>by
  rw[List.all_cons,Bool.and_eq_true] at f
  rcases List.mem_cons.mp hu with rfl|hu
  .rw [xmm r f.1]; exact xrt r rx f.1 fx
  .exact xgq rx fx t f.2 u' hu
def inV (x:V) (xs:List V):Bool:=xs.any fun y=>eqV y x
def rIn (K:PySem.W.Frag) (neg:Bool):R2:=fun x y H Q=>∃ p xs,y=.ref p/\(SqL K H p xs\/SqT K H p xs)/\xed x=true/\xs.all xed=true/\Q (.bl (if neg then !inV x xs else inV x xs)) H
theorem xff:OpR X (compareOp .In) (rIn X.K false):=by
 intro pins s σ H x y v u Q I rx ry h
 obtain⟨p,xs,rfl,hq,fx,fs,q⟩:=h
 cases ry
 rcases hq with hq|hq
 .obtain ⟨its,r,pl,hz⟩:=I.list hq
  refine SeqAt.in_listAt (eqU x) pl.isList (fun w hw=>xgq rx fx r fs w (by simpa using hw)) ⟨.bl _,H,I,rfl,?_⟩
  rw[show its.toArray.any (eqU x)=its.any (eqU x) by simp,xhz r fs]
  exact q
 .obtain ⟨its,r,pl,hz⟩:=I.tuple hq
  refine SeqAt.in_tupleAt (eqU x) pl (fun w hw=>xgq rx fx r fs w (by simpa using hw)) ⟨.bl _,H,I,rfl,?_⟩
  rw[show its.toArray.any (eqU x)=its.any (eqU x) by simp,xhz r fs]
  exact q
theorem xbn:xbu X (.builtin "len") (fun xs H Q=>∃ p ys,xs=[.ref p]/\(SqL X.K H p ys\/SqT X.K H p ys)/\Q (.int ys.length) H):=by
 intro pins s σ H xs us Q I r h
 obtain⟨p,ys,rfl,hq,q⟩:=h
 obtain⟨u,rfl,rx⟩:=xb3 r
 cases rx
 have hn:=xfi
 rcases hq with hq|hq
 .obtain ⟨its,r',pl,hz⟩:=I.list hq
  have hlen:=r'.length
  exact Calls.call_len_list pl.isList (by simp only[List.size_toArray]<;>omega) ⟨.int ys.length,H,I.tok _,⟨s.toks+1,by rw[List.size_toArray,hlen]⟩,q⟩
 .obtain ⟨its,r',pl,hz⟩:=I.tuple hq
  have hlen:=r'.length
  exact len_tuple pl (by simp only[List.size_toArray]<;>omega) ⟨.int ys.length,H,I.tok _,⟨s.toks+1,by rw[List.size_toArray,hlen]⟩,q⟩
theorem xb0:xbu X (.builtin "len") (fun xs H Q=>∃ z,xs=[.str z]/\z.length<=sizeLine/\Q (.int z.length) H):=by
 intro pins s σ H xs us Q I r h
 obtain⟨z,rfl,hz,q⟩:=h
 obtain⟨u,rfl,t,rfl⟩:=xb3 r
 have hn:=xfi
 exact len_str (by omega) ⟨.int z.length,H,I.tok _,⟨_,rfl⟩,q⟩
theorem xfb:xbu X (.type "list") (fun xs H Q=>∃ p ys,xs=[.ref p]/\(SqL X.K H p ys\/SqT X.K H p ys)/\∀ l,H l=none->Q (.ref l) (upd H l (.lst ys))):=by
  intro pins s σ H xs us Q I r h
  obtain⟨p,ys,rfl,hq,q⟩:=h
  obtain⟨u,rfl,rx⟩:=xb3 r
  cases rx
  have fin:∀(its:List Value),Vals ys its->ys.length<=sizeLine->∀(h':Heap) (c':Nat),(∀ b o',s.heap.get? b=some o'->h'.get? b=some o') ->
      h'.get? s.heap.objs.size=some { cls:=.type "list",dict:=none,data:=.seq its.toArray c',slots:=#[] }->EP X pins σ Q (.ref s.heap.objs.size) { s with heap:=h' }:=fun its r' hz h' c' kp e =>
    ⟨.ref s.heap.objs.size,_,I.laid (t':=s.toks) kp (Nat.le_refl _) (show xav X.prog X.w _ h' _ (.lst ys) from ⟨hz,its,c',r',e⟩),rfl,q _ (I.hok.fresh (Nat.le_refl _))⟩
  rcases hq with hq|hq
  . obtain⟨its,r',pl,hz⟩:=I.list hq
    have hlen:=r'.length
    obtain⟨o,ho,hc,n,hd⟩:=pl.isList
    exact call_list_seq p (.inl rfl) ho hc hd (fun h' c' kp e=>fin its r' hz h' c' kp e) (by simp only[List.size_toArray]<;>omega)
  . obtain⟨its,r',pl,hz⟩:=I.tuple hq
    have hlen:=r'.length
    obtain⟨o,ho,hc,n,hd⟩:=pl
    exact call_list_seq p (.inr rfl) ho hc hd (fun h' c' kp e=>fin its r' hz h' c' kp e) (by simp only[List.size_toArray]<;>omega)
def tyV (K:PySem.W.Frag) (T:String) (x:V) (H:Hp):Prop:=match x with
  | .str _=>T="str"
  | .int _=>T="int"
  | .ref p=>(T="list"/\∃ xs,SqL K H p xs)\/(T="tuple"/\∃ o,K.lookup p=some o/\o.cls=.type "tuple"/\o.dict=none) \/
      (T="dict"/\((∃ kvs,H p=some (.dK kvs))\/∃ kvs,H p=some (.dT kvs)))\/(T="set"/\∃ S n,H p=some (.set S n))
  | _=>False
theorem xn1 {pins:List (Addr × Obj)}{σ:St}{H:Hp}{s:Shared}{T:String}{x:V}{v:Value} (I:Inv X pins σ H s) (r:RelV x v) (ty:tyV X.K T x H) :
    s.TypeIs v T/\∀ a,v=.ref a->∃ ob,s.heap.get? a=some ob/\ob.dict=none:=by
  cases x with
  | str z =>
    obtain⟨t,rfl⟩:=r
    cases (show T="str" from ty)
    exact⟨typeIs_str s z t,fun _ e=>nomatch e⟩
  | int i =>
    obtain⟨t,rfl⟩:=r
    cases (show T="int" from ty)
    exact⟨typeIs_int s i t,fun _ e=>nomatch e⟩
  | ref p =>
    cases r
    rcases ty with⟨rfl,xs,hq⟩|⟨rfl,o,hk,hc,hd⟩|⟨rfl,hk⟩|⟨rfl,S,n,hk⟩
    . obtain⟨its,_,pl,_⟩:=I.list hq
      refine⟨pl.isList.typeIs,fun a e=>?_⟩
      cases e
      obtain⟨o,n,e,c,hd,_⟩:=pl
      exact⟨o,e,hd⟩
    . refine⟨⟨o,I.kIn p o hk,hc⟩,fun a e=>?_⟩
      cases e
      exact⟨o,I.kIn _ o hk,hd⟩
    . have z:∃ o,s.heap.get? p=some o/\o.ExactDict:=by
        rcases hk with⟨kvs,hk⟩|⟨kvs,hk⟩
        . obtain⟨_,_,_,_,o,_,_,e,ex,_⟩:=I.hok p _ hk
          exact⟨o,e,ex⟩
        . obtain⟨_,_,_,_,o,_,_,e,ex,_⟩:=I.hok p _ hk
          exact⟨o,e,ex⟩
      obtain⟨o,e,ex⟩:=z
      refine⟨⟨o,e,ex.1⟩,fun a e2=>?_⟩
      cases e2
      exact⟨o,e,ex.2.1⟩
    . obtain⟨o,_,_,_,e,ex,_⟩:=I.hok p _ hk
      refine⟨⟨o,e,ex.1⟩,fun a e2=>?_⟩
      cases e2
      exact⟨o,e,ex.2.1⟩
  | _=>exact False.elim ty
def tBM0 (K:PySem.W.Frag) (T:String) (r:V->List V->Hp->VK->Prop) (to:TE):TE:=fun σ H Q=>to σ H fun x H1=>tyV K T x H1/\r x [] H1 Q
def tBM (K:PySem.W.Frag) (T:String) (r:V->List V->Hp->VK->Prop) (to:TE) (t:TA):TE:=fun σ H Q=>to σ H fun x H1=>tyV K T x H1/\t σ H1 fun xs H2=>r x xs H2 Q
variable {o e:Expr}{es:List Expr}{to:TE}{t:TA}{name:Str}{apos cpos:Pos}{T id:String}{r:V->List V->Hp->VK->Prop}
theorem xoc (pa:PlainAttrs T) (slot:Slot T name id) (hty:typeOf (.builtin id)=pure (.type "method_descriptor")) (hm:MtR X id r) (ho:PE X o to)
    (hbase:attributeBase o name X.env (eval o X.env)=eval o X.env:=by rfl) (hline:(apos.endLine == cpos.line)=true:=by rfl):PE X (.Call (.Attribute o name apos) [] [] cpos) (tBM0 X.K T r to):=by
  intro pins s σ H Q I h
  refine wpAny_Call_method0_late hbase hline (thn (ho pins s σ H _ I h) fun v s1 ⟨x,H1,I1,r1,ty,q1⟩=>?_)
  obtain⟨h1,h2⟩:=xn1 I1 r1 ty
  exact⟨T,id,pa,slot,hty,h1,h2,Calls.callWith_builtin rfl (PySem.evalArgs_none (hm pins s1 σ H1 x [] v [] Q I1 r1 .nil q1))⟩
theorem xcl (pa:PlainAttrs T) (slot:Slot T name id) (hty:typeOf (.builtin id)=pure (.type "method_descriptor")) (hm:MtR X id r) (ho:PE X o to) (ha:PA X (e::es) t)
    (hbase:attributeBase o name X.env (eval o X.env)=eval o X.env:=by rfl)
    (hfew:((backTo cpos (starEach (e::es) X.env)).all (fun x=>!x.1)&&(backToKw cpos (keywordEach [] X.env)).all (fun x=>x.1.isSome)
      && decide ((e::es).length+([]:List Keyword).length+(if ([]:List Keyword).isEmpty then 0 else 1)<30))=true:=by rfl)
    (hline:(apos.endLine == cpos.line)=true:=by rfl) (hs:starEach (e::es) X.env=(false,eval e X.env)::starEach es X.env:=by rfl) (hplain:(backTo cpos (starEach es X.env)).any (·.1)=false:=by rfl) :
    PE X (.Call (.Attribute o name apos) (e::es) [] cpos) (tBM X.K T r to t):=by
  intro pins s σ H Q I h
  refine wpAny_Call_method_late hbase hfew hline rfl (thn (ho pins s σ H _ I h) fun v s1 ⟨x,H1,I1,r1,ty,q1⟩=>?_)
  obtain⟨h1,h2⟩:=xn1 I1 r1 ty
  refine⟨T,id,pa,slot,hty,h1,h2,?_⟩
  have hA:=ha cpos pins s1 σ H1 _ I1 q1
  rw[hs] at hA ⊢
  refine Calls.callWith_builtin (by show (false||(backTo cpos (starEach es X.env)).any (·.1))=false; rw[hplain]<;>rfl) (Calls.evalArgs_plain ?_)
  exact thn hA fun us s2 ⟨vs,H2,I2,r2,q2⟩=>hm pins s2 σ H2 x vs v us Q I2 r1 r2 q2
end
def MtM (X:Cx) (id:String) (r:V->List V->Hp->VK->Prop):Prop :=
 ∀(pins:List (Addr × Obj)) (s:Shared) (σ:St) (H:Hp) (x:V) (xs:List V) (v:Value) (us:List Value) (Q:VK),Inv X pins σ H s->RelV x v->Vals xs us->r x xs H Q ->
  wpAny (model X.prog X.w) X.A (call (.builtin id) (v::us)) (EP X pins σ Q) X.xe s
theorem Vals.one:∀{x:V}{us:List Value},Vals [x] us->∃ u,us=[u]/\RelV x u
 | _,_,.cons r .nil=>⟨_,rfl,r⟩
theorem Vals.zero:∀{us:List Value},Vals [] us->us=[]
 | _,.nil=>rfl
theorem Vals.eraseIdx:∀{xs:List V}{us:List Value} (i:Nat),Vals xs us->Vals (xs.eraseIdx i) (us.eraseIdx i)
 | _,_,_,.nil=>.nil
 | _,_,0,.cons _ t=>t
 | _,_,i+1,.cons r t=>.cons r (Vals.eraseIdx i t)
theorem xid {α:Type}:∀(l:List α) (i:Nat),(l.eraseIdx i).length<=l.length
 | [],_=>Nat.le_refl _
 | _::_,0=>Nat.le_succ _
 | _::r,i+1=>Nat.succ_le_succ (xid r i)
section
variable {X:Cx}{pins:List (Addr × Obj)}{σ:St}{H:Hp}{s:Shared}{l b:Addr}{xs ys zs:List V}
theorem Inv.lset {its its':List Value}{n:Nat}{f:Array Value->Array Value}{t':Nat} (I:Inv X pins σ H s) (hH:H l=some (.lst xs))
    (e:s.heap.get? l=some { cls:=.type "list",data:=.seq its.toArray n }) (hf:f its.toArray=its'.toArray) (hv:Vals ys its') (hz:ys.length<=sizeLine) :
    Inv X pins σ (upd H l (.lst ys)) { s with heap:=s.heap.update l (Obj.mapSeq f),toks:=t' }:=by
  have q:=PySem.IsL.update e f
  rw[hf] at q
  refine I.write (x:=l) (e:=l) (by rw[hH]; exact trivial) (.inl rfl) (fun b' u hb hu=>(Heap.get?_update_other s.heap (Obj.mapSeq f) (Ne.symm hb)).trans hu) ⟨_,q⟩ ?_
  exact⟨hz,its',_,hv,q⟩
theorem Inv.lnew {its:List Value}{t':Nat} (I:Inv X pins σ H s) (hv:Vals ys its) (hz:ys.length<=sizeLine) :
    Inv X pins σ (upd H s.heap.objs.size (.lst ys)) { s with heap:=s.heap.push { cls:=.type "list",data:=.seq its.toArray },toks:=t' } :=
  I.laid (fun _ _ q=>Heap.get?_push_of_some _ q) (Nat.le_refl _) ⟨hz,its,0,hv,Heap.get?_push_size _ rfl⟩
theorem Inv.fresh (I:Inv X pins σ H s):H s.heap.objs.size=none:=I.hok.fresh (Nat.le_refl _)
theorem Inv.lstM (I:Inv X pins σ H s) (hH:H l=some (.lst xs)):xs.length<=sizeLine/\∃(its:List Value) (n:Nat),Vals xs its/\xs.length=its.length/\s.heap.get? l=some { cls:=.type "list",data:=.seq its.toArray n }:=by
 obtain⟨z,its,n,r,e⟩:=I.hok l _ hH
 exact⟨z,its,n,r,r.length,e⟩
theorem xov {n:Nat} (h:n<=sizeLine):Builtin.List.listTooLong n=false:=by
 unfold Builtin.List.listTooLong
 exact decide_eq_false (by omega)
end
section
variable {X:Cx}
def xrb:V->List V->Hp->VK->Prop:=fun x vs H Q=>∃ l xs y,x=.ref l/\vs=[y]/\H l=some (.lst xs)/\xs.length<sizeLine/\Q .non (upd H l (.lst (xs++[y])))
theorem xcw:MtM X "list.append" xrb:=by
 intro pins s σ H x vs v us Q I rx rv h
 obtain⟨l,xs,y,rfl,rfl,hH,hz,q⟩:=h
 cases rx
 obtain⟨u,rfl,ru⟩:=rv.one
 obtain⟨z,its,n,r,hl,e⟩:=I.lstM hH
 refine call_meets F.slot_list_append ⟨_,e,rfl⟩ F.entry_list_append (F.args_list_append_2 _ _) (PySem.list_append l its.toArray n u (by rw[List.size_toArray]; omega)) ⟨e,?_⟩
 refine⟨.non,_,I.lset (its':=its++[u]) hH e (by simp) (r.append (.cons ru .nil)) ?_,rfl,q⟩
 rw[List.length_append,List.length_singleton]
 omega
def xrk:V->List V->Hp->VK->Prop:=fun x vs H Q=>∃ l b xs zs,x=.ref l/\vs=[.ref b]/\H l=some (.lst xs)/\H b=some (.lst zs)/\xs.length+zs.length<=sizeLine/\Q .non (upd H l (.lst (xs++zs)))
theorem xn9:MtM X "list.extend" xrk:=by
 intro pins s σ H x vs v us Q I rx rv h
 obtain⟨l,b,xs,zs,rfl,rfl,hH,hB,hz,q⟩:=h
 cases rx
 obtain⟨u,rfl,ru⟩:=rv.one
 cases ru
 obtain⟨z,its,n,r,hl,e⟩:=I.lstM hH
 obtain⟨z2,its2,n2,r2,hl2,e2⟩:=I.lstM hB
 have hsz:its.toArray.size+its2.toArray.size<=sizeLine:=by rw[List.size_toArray,List.size_toArray]; omega
 have hlong:¬ (!its.toArray.isEmpty&&Builtin.List.listTooLong (its.toArray.size+its2.toArray.size))=true:=by
  rw[xov hsz,Bool.and_false]
  exact Bool.false_ne_true
 refine call_meets F.slot_list_extend ⟨_,e,rfl⟩ F.entry_list_extend (F.args_list_extend_2 _ _)
  (AutoSeq1.list_extend_list_list_0 l its.toArray n b its2.toArray n2 hlong (by rw[List.size_toArray]; omega) (by omega)) ⟨e,e2,?_⟩
 refine⟨.non,_,I.lset (its':=its++its2) hH e (by simp) (r.append r2) ?_,rfl,q⟩
 rw[List.length_append]
 omega
def xsi:V->List V->Hp->VK->Prop:=fun x vs H Q=>∃ l xs i k y,x=.ref l/\vs=[.int i]/\H l=some (.lst xs)/\-(2 ^ 63)<=i/\i<2 ^ 63/\seqIndex? i xs.length=some k/\xs[k]?=some y/\Q y (upd H l (.lst (xs.eraseIdx k)))
theorem xe0:MtM X "list.pop" xsi:=by
 intro pins s σ H x vs v us Q I rx rv h
 obtain⟨l,xs,i,k,y,rfl,rfl,hH,h1,h2,hk,hy,q⟩:=h
 cases rx
 obtain⟨u,rfl,ru⟩:=rv.one
 obtain⟨t,rfl⟩:=ru
 obtain⟨z,its,n,r,hl,e⟩:=I.lstM hH
 obtain⟨w,hw,rw'⟩:=r.get hy
 refine call_meets F.slot_list_pop ⟨_,e,rfl⟩ F.entry_list_pop (F.args_list_pop_2 _ _)
  (MeetsSeq.list_pop_at l its.toArray n i t k w (fitsIndex_both h1 h2) (by rw[List.size_toArray,<- hl]; exact hk) (by rw[<- Array.getElem?_toList]; exact hw) (by rw[List.size_toArray]; omega)) ⟨e,?_⟩
 refine⟨y,_,I.lset (its':=its.eraseIdx k) hH e ?_ (r.eraseIdx k) ?_,rw',q⟩
 .show its.toArray.eraseIdxIfInBounds k=(its.eraseIdx k).toArray
  rw[List.eraseIdxIfInBounds_toArray]
 .have:=xid xs k
  omega
def xrq:V->List V->Hp->VK->Prop:=fun x vs H Q=>∃ l xs,x=.ref l/\vs=[]/\H l=some (.lst xs)/\Q .non (upd H l (.lst []))
theorem xj6:MtM X "list.clear" xrq:=by
 intro pins s σ H x vs v us Q I rx rv h
 obtain⟨l,xs,rfl,rfl,hH,q⟩:=h
 cases rx
 have hus:=rv.zero
 subst hus
 obtain⟨z,its,n,r,hl,e⟩:=I.lstM hH
 refine call_meets F.slot_list_clear ⟨_,e,rfl⟩ F.entry_list_clear (F.args_list_clear_1 _) (AutoSeq1.list_clear_list_0 l its.toArray n (by rw[List.size_toArray]; omega)) ⟨e,?_⟩
 exact⟨.non,_,I.lset (its':=[]) (ys:=[]) hH e rfl .nil (Nat.zero_le _),rfl,q⟩
def rCat:R2:=fun x y H Q=>∃ l b xs zs,x=.ref l/\y=.ref b/\H l=some (.lst xs)/\H b=some (.lst zs)/\xs.length+zs.length<=sizeLine/\∀ p,H p=none->Q (.ref p) (upd H p (.lst (xs++zs)))
theorem xhk:OpR X (binaryOp .Add) rCat:=by
 intro pins s σ H x y v u Q I rx ry h
 obtain⟨l,b,xs,zs,rfl,rfl,hH,hB,hz,q⟩:=h
 cases rx
 cases ry
 obtain⟨z,its,n,r,hl,e⟩:=I.lstM hH
 obtain⟨z2,its2,n2,r2,hl2,e2⟩:=I.lstM hB
 refine PySem.P.add_list e e2 ?_ (by rw[List.size_toArray,List.size_toArray]; omega)
 have ea:its.toArray++its2.toArray=(its++its2).toArray:=by simp
 rw[ea]
 exact⟨.ref _,_,I.lnew (t':=s.toks) (r.append r2) (by rw[List.length_append]; omega),rfl,q _ I.fresh⟩
end
section
variable {κ:Type} [DecidableEq κ]
def valV (kvs:List (κ × V)) (k:κ):Option V:=(kvs.find? fun kv=>decide (kv.1=k)).map (·.2)
def putK (kvs:List (κ × V)) (k:κ) (v:V):List (κ × V) :=
 if (kvs.any fun kv=>decide (kv.1=k))=true then kvs.map (fun kv=>if kv.1=k then (kv.1,v) else kv) else kvs++[(k,v)]
def xei (kvs:List (κ × V)) (k:κ):List (κ × V):=kvs.filter fun kv=>decide (kv.1≠k)
theorem xa5 {p:κ × V}{r:List (κ × V)}{k:κ} (e:p.1=k):valV (p::r) k=some p.2:=by simp[valV,List.find?_cons,e]
theorem xa2 {p:κ × V}{r:List (κ × V)}{k:κ} (e:¬ p.1=k):valV (p::r) k=valV r k:=by simp[valV,List.find?_cons,e]
theorem xda (k:κ):∀ kvs:List (κ × V),(kvs.any fun kv=>decide (kv.1=k))=(valV kvs k).isSome
 | []=>rfl
 | p::r=>by
  rw[List.any_cons]
  by_cases e:p.1=k
  .simp only [xa5 e,decide_eq_true e,Bool.true_or,Option.isSome_some]
  .rw [xa2 e,decide_eq_false e,Bool.false_or]; exact xda k r
theorem xjv (k j:κ) (y:V):∀ kvs:List (κ × V),valV (kvs.map fun kv=>if kv.1=k then (kv.1,y) else kv) j=(valV kvs j).map fun x=>if j=k then y else x
 | []=>rfl
 | p::r=>by
  have ih:=xjv k j y r
  rw[List.map_cons]
  by_cases h:p.1=k
  .rw [if_pos h]
   by_cases e:p.1=j
   .rw [xa5 (p:=(p.1,y)) e,xa5 e,Option.map_some,if_pos (e.symm.trans h)]
   .rw [xa2 (p:=(p.1,y)) e,xa2 e,ih]
  .rw [if_neg h]
   by_cases e:p.1=j
   .rw [xa5 (p:=p) e,xa5 e,Option.map_some,if_neg (fun z=>h (e.trans z))]
   .rw [xa2 (p:=p) e,xa2 e,ih]
theorem xh7 (k j:κ) (y:V):∀ kvs:List (κ × V),valV kvs k=none->valV (kvs++[(k,y)]) j=if j=k then some y else valV kvs j
 | [],_=>by
  by_cases e:k=j
  .rw [if_pos e.symm]; exact xa5 (p:=(k,y)) e
  .rw [if_neg (fun z=>e z.symm)]; exact xa2 (p:=(k,y)) e
 | p::r,hn=>by
  rw[List.cons_append]
  have hk:¬ p.1=k:=fun z=>by rw[xa5 z] at hn; cases hn
  rw[xa2 hk] at hn
  have ih:=xh7 k j y r hn
  by_cases e:p.1=j
  .rw [xa5 e,xa5 e,if_neg (fun z=>hk (e.trans z))]
  .rw [xa2 e,xa2 e,ih]
theorem xj7 (kvs:List (κ × V)) (k j:κ) (y:V):valV (putK kvs k y) j=if j=k then some y else valV kvs j:=by
 unfold putK
 by_cases a:(kvs.any fun kv=>decide (kv.1=k))=true
 .rw [if_pos a,xjv]
  rw[xda] at a
  by_cases e:j=k
  .obtain ⟨x,hx⟩:=Option.isSome_iff_exists.mp a
   rw[if_pos e,e,hx,Option.map_some,if_pos rfl]
  .rw [if_neg e]
   cases valV kvs j with
   | none=>rfl
   | some x=>rw[Option.map_some,if_neg e]
 .rw [if_neg a]
  refine xh7 k j y kvs ?_
  rw[xda] at a
  cases q:valV kvs k with
  | none=>rfl
  | some x=>rw[q] at a; exact (a rfl).elim
theorem xbx (kvs:List (κ × V)) (k:κ) (v:V):(putK kvs k v).length<=kvs.length+1:=by
 unfold putK
 split
 .rw [List.length_map]; omega
 .rw [List.length_append,List.length_cons,List.length_nil]; omega
theorem xdd {kvs:List (κ × V)}{k:κ} (v:V) (h:valV kvs k=none):putK kvs k v=kvs++[(k,v)]:=by
 unfold putK
 rw[xda,h]
 exact if_neg (by decide)
theorem RelO.isSome_eq {o:Option V}{u:Option Value} (r:RelO o u):o.isSome=u.isSome:=by
 cases o with
 | none=>cases u with
  | none=>rfl
  | some _=>exact (show False from r).elim
 | some _=>cases u with
  | none=>exact (show False from r).elim
  | some _=>rfl
theorem RelO.getD {o:Option V}{u:Option Value}{d:V}{d':Value} (r:RelO o u) (rd:RelV d d'):RelV (o.getD d) (u.getD d'):=by
 cases o with
 | none=>cases u with
  | none=>exact rd
  | some _=>exact (show False from r).elim
 | some _=>cases u with
  | none=>exact (show False from r).elim
  | some _=>exact r
theorem KV.val {kvs:List (κ × V)}{vs:List (κ × Value)} (r:KV kvs vs) (k:κ):RelO (valV kvs k) (valueAt vs k):=by
 unfold KV at r
 induction r with
 | nil=>exact True.intro
 | @cons p q ps qs h t ih =>
  obtain⟨h1,h2⟩:=h
  by_cases e:p.1=k
  .have e':q.1=k:=h1.symm.trans e
   have b:valueAt (q::qs) k=some q.2:=by simp[valueAt,List.find?_cons,e']
   rw[xa5 e,b]; exact h2
  .have e':¬ q.1=k:=fun z=>e (h1.trans z)
   have b:valueAt (q::qs) k=valueAt qs k:=by simp[valueAt,List.find?_cons,e']
   rw[xa2 e,b]; exact ih
theorem KV.any {kvs:List (κ × V)}{vs:List (κ × Value)} (r:KV kvs vs) (k:κ):(kvs.any fun kv=>decide (kv.1=k))=vs.any fun kv=>decide (kv.1=k):=by
 unfold KV at r
 induction r with
 | nil=>rfl
 | cons h t ih=>rw[List.any_cons,List.any_cons,ih,h.1]
theorem KV.repl {kvs:List (κ × V)}{vs:List (κ × Value)} (r:KV kvs vs) (k:κ) {y:V}{u:Value} (ry:RelV y u) :
    KV (kvs.map fun kv=>if kv.1=k then (kv.1,y) else kv) (vs.map fun kv=>if kv.1=k then (kv.1,u) else kv):=by
  unfold KV at r ⊢
  induction r with
  | nil=>exact .nil
  | @cons p q ps qs h t ih =>
    rw[List.map_cons,List.map_cons]
    refine .cons ?_ ih
    obtain⟨h1,h2⟩:=h
    by_cases e:p.1=k
    . rw[if_pos e,if_pos (h1.symm.trans e)]; exact⟨h1,ry⟩
    . rw[if_neg e,if_neg (fun z=>e (h1.trans z))]; exact⟨h1,h2⟩
theorem KV.put {kvs:List (κ × V)}{vs:List (κ × Value)} (r:KV kvs vs) (k:κ) {y:V}{u:Value} (ry:RelV y u):KV (putK kvs k y) (stored vs k u):=by
 unfold putK stored
 rw[r.any k]
 by_cases e:(vs.any fun kv=>decide (kv.1=k))=true
 .rw [if_pos e,if_pos e]; exact r.repl k ry
 .rw [if_neg e,if_neg e]; exact Paired.snoc r ⟨rfl,ry⟩
theorem KV.drop {kvs:List (κ × V)}{vs:List (κ × Value)} (r:KV kvs vs) (k:κ):KV (xei kvs k) (without vs k):=by
 unfold KV at r ⊢
 unfold xei without
 induction r with
 | nil=>exact .nil
 | @cons p q ps qs h t ih =>
  obtain⟨h1,h2⟩:=h
  rw[List.filter_cons,List.filter_cons]
  by_cases e:p.1=k
  .have a:¬ decide (p.1≠k)=true:=by simp[e]
   have b:¬ decide (q.1≠k)=true:=by simp[h1.symm.trans e]
   rw[if_neg a,if_neg b]; exact ih
  .have e':¬ q.1=k:=fun z=>e (h1.trans z)
   have a:decide (p.1≠k)=true:=by simp[e]
   have b:decide (q.1≠k)=true:=by simp[e']
   rw[if_pos a,if_pos b]; exact .cons ⟨h1,h2⟩ ih
theorem KV.keys {kvs:List (κ × V)}{vs:List (κ × Value)} (r:KV kvs vs):kvs.map (·.1)=vs.map (·.1):=by
 unfold KV at r
 induction r with
 | nil=>rfl
 | cons h t ih=>rw[List.map_cons,List.map_cons,ih,h.1]
theorem KV.length {kvs:List (κ × V)}{vs:List (κ × Value)} (r:KV kvs vs):kvs.length=vs.length:=Paired.length r
theorem xpd (kvs:List (κ × V)) (k:κ):(xei kvs k).length<=kvs.length:=List.length_filter_le _ _
end
theorem xcp {P:Program}{w:World}{k:Key}{u:Value} (r:RelV (kV k) u):(xaj P w).is k u=true:=by
 cases k with
 | inl i=>obtain⟨t,e⟩:=(show ∃ t,u=Value.int i t from r); subst e; exact xke P w i t
 | inr x=>obtain⟨t,e⟩:=(show ∃ t,u=Value.str x t from r); subst e; exact xkj P w x t
theorem xiq {P:Program}{w:World}:∀{ks:List Key}{us:List Value},Vals (ks.map kV) us->ItemsAre (xaj P w) ks us
 | [],_,r=>by rw[List.map_nil] at r; cases r; exact .nil
 | k::ks,_,r=>by
  rw[List.map_cons] at r
  cases r with
  | cons h t=>exact .cons (xcp h) (xiq t)
abbrev KT (H:Hp):List (List Key × V)->List (List Key × Addr × Value)->Prop:=Paired fun p q=>p.1=q.1/\H q.2.1=some (.tup (p.1.map kV))/\RelV p.2 q.2.2
theorem KT.val {H:Hp}{kvs:List (List Key × V)}{xs:List (List Key × Addr × Value)} (r:KT H kvs xs) (k:List Key):RelO (valV kvs k) ((atKey xs k).map (·.2)):=by
 induction r with
 | nil=>exact True.intro
 | @cons p q ps qs h t ih =>
  obtain⟨h1,_,h2⟩:=h
  by_cases e:p.1=k
  .have e':q.1=k:=h1.symm.trans e
   have b:atKey (q::qs) k=some q.2:=by simp[atKey,List.find?_cons,e']
   rw[xa5 e,b]; exact h2
  .have e':¬ q.1=k:=fun z=>e (h1.trans z)
   have b:atKey (q::qs) k=atKey qs k:=by simp[atKey,List.find?_cons,e']
   rw[xa2 e,b]; exact ih
theorem KT.repl {H:Hp}{kvs:List (List Key × V)}{xs:List (List Key × Addr × Value)} (r:KT H kvs xs) (k:List Key) {y:V}{u:Value} (ry:RelV y u) :
    KT H (kvs.map fun kv=>if kv.1=k then (kv.1,y) else kv) (xs.map (putAt k u)):=by
  induction r with
  | nil=>exact .nil
  | @cons p q ps qs h t ih =>
    rw[List.map_cons,List.map_cons]
    refine .cons ?_ ih
    obtain⟨h1,h2,h3⟩:=h
    unfold putAt
    by_cases e:p.1=k
    . rw[if_pos e,if_pos (h1.symm.trans e)]; exact⟨h1,h2,ry⟩
    . rw[if_neg e,if_neg (fun z=>e (h1.trans z))]; exact⟨h1,h2,h3⟩
theorem KT.put {H:Hp}{kvs:List (List Key × V)}{xs:List (List Key × Addr × Value)} (r:KT H kvs xs) (k:List Key) {b:Addr}{y:V}{u:Value} (hb:H b=some (.tup (k.map kV))) (ry:RelV y u) :
    KT H (putK kvs k y) (storedH xs k b u):=by
  have e:(kvs.any fun kv=>decide (kv.1=k))=(atKey xs k).isSome:=by
    rw[xda,(r.val k).isSome_eq,Option.isSome_map]
  unfold putK storedH
  rw[e]
  by_cases q:(atKey xs k).isSome=true
  . rw[if_pos q,if_pos q]; exact r.repl k ry
  . rw[if_neg q,if_neg q]; exact Paired.snoc r ⟨rfl,hb,ry⟩
theorem KT.keeps {H H':Hp}{kvs:List (List Key × V)}{xs:List (List Key × Addr × Value)} (r:KT H kvs xs) (ht:∀ b ys,H b=some (.tup ys)->H' b=some (.tup ys)):KT H' kvs xs :=
 Paired.mapP r fun _ _ z=>⟨z.1,ht _ _ z.2.1,z.2.2⟩
section
variable {P:Program}{w:World}{H:Hp}{h:Heap}{a:Addr}
theorem xpq {u:HO} (ok:HOk P w H h) (e:Rd H a u):xav P w H h a u:=e.ok ok
theorem xeh {kvs:List (Key × V)} (ok:HOk P w H h) (e:Rd H a (.dK kvs)):kvs.length<=sizeLine/\(a == sysModules)=false/\∃ vs,KV kvs vs/\h.DictOf (xaj P w) a vs :=
 show xav P w H h a (.dK kvs) from xpq ok e
theorem xf9 {kvs:List (Key × V)} (ok:HOk P w H h) (e:H a=some (.dK kvs)):kvs.length<=sizeLine/\(a == sysModules)=false/\∃ vs,KV kvs vs/\h.DictOf (xaj P w) a vs:=xeh ok (.inl e)
theorem xd0 {ks:List Key} (ok:HOk P w H h) (e:H a=some (.tup (ks.map kV))):(tupleKind (xaj P w)).is h ks a:=by
 obtain⟨_,its,r,o,h1,h2,n,h3⟩:=(show xav P w H h a (.tup (ks.map kV)) from ok a _ e)
 exact⟨o,its.toArray,n,h1,h2,h3,by simpa using xiq r⟩
theorem xe1 {kvs:List (List Key × V)} (ok:HOk P w H h) (e:Rd H a (.dT kvs)):kvs.length<=sizeLine/\(a == sysModules)=false /\
    ∃ xs,KT H kvs xs/\h.DictOfH (tupleKind (xaj P w)) a xs:=by
  obtain⟨z,y,xs,r,o,es,ep,h1,h2,h3,h4,h5⟩:=(show xav P w H h a (.dT kvs) from xpq ok e)
  refine⟨z,y,xs,r,o,es,ep,h1,h2,h3,h4,fun x hx=>?_,h5⟩
  have all:∀{l:List (List Key × V)}{m:List (List Key × Addr × Value)},KT H l m->∀ x∈m,(tupleKind (xaj P w)).is h x.1 x.2.1:=by
    intro l m q
    induction q with
    | nil=>intro x hx; exact nomatch hx
    | @cons p q ps qs hq t ih =>
      intro x hx
      rcases List.mem_cons.mp hx with e|hx
      . subst e
        exact xd0 ok (by rw[<- hq.1]; exact hq.2.1)
      . exact ih x hx
  exact all r x hx
theorem xhp {kvs:List (List Key × V)} (ok:HOk P w H h) (e:H a=some (.dT kvs)):kvs.length<=sizeLine/\(a == sysModules)=false /\
    ∃ xs,KT H kvs xs/\h.DictOfH (tupleKind (xaj P w)) a xs:=xe1 ok (.inl e)
end
def DGet (H:Hp) (a:Addr) (y:V) (r:Option V):Prop :=
 (∃ kvs k,Rd H a (.dK kvs)/\y=kV k/\r=valV kvs k)\/∃ kvs k b,Rd H a (.dT kvs)/\y=.ref b/\H b=some (.tup (k.map kV))/\r=valV kvs k
def DPut (H:Hp) (a:Addr) (y v:V) (H':Hp):Prop :=
 (∃ kvs k,H a=some (.dK kvs)/\y=kV k/\kvs.length<sizeLine/\H'=upd H a (.dK (putK kvs k v))) \/
 ∃ kvs k b,H a=some (.dT kvs)/\y=.ref b/\H b=some (.tup (k.map kV))/\kvs.length<sizeLine/\H'=upd H a (.dT (putK kvs k v))
theorem DGet.k {H:Hp}{a:Addr}{kvs:List (Key × V)}{k:Key} (e:H a=some (.dK kvs)):DGet H a (kV k) (valV kvs k):=.inl ⟨kvs,k,.inl e,rfl,rfl⟩
theorem DGet.t {H:Hp}{a b:Addr}{kvs:List (List Key × V)}{k:List Key} (e:H a=some (.dT kvs)) (eb:H b=some (.tup (k.map kV))):DGet H a (.ref b) (valV kvs k):=.inr ⟨kvs,k,b,.inl e,rfl,eb,rfl⟩
theorem DPut.k {H:Hp}{a:Addr}{kvs:List (Key × V)}{k:Key}{v:V} (e:H a=some (.dK kvs)) (hl:kvs.length<sizeLine):DPut H a (kV k) v (upd H a (.dK (putK kvs k v))):=.inl ⟨kvs,k,e,rfl,hl,rfl⟩
theorem DPut.t {H:Hp}{a b:Addr}{kvs:List (List Key × V)}{k:List Key}{v:V} (e:H a=some (.dT kvs)) (eb:H b=some (.tup (k.map kV))) (hl:kvs.length<sizeLine) :
    DPut H a (.ref b) v (upd H a (.dT (putK kvs k v))):=.inr ⟨kvs,k,b,e,rfl,eb,hl,rfl⟩
section
variable {X:Cx}{pins:List (Addr × Obj)}{σ:St}{H:Hp}{s:Shared}{a:Addr}{y v:V}{u r:Value}{o:Option V}{A:Around}{E:Value->Shared->Prop}
theorem Inv.big (I:Inv X pins σ H s):sysModules<s.heap.objs.size:=by
 have h:mainGlobals<s.heap.objs.size:=(I.mod.glob.keeps I.bk).lt
 exact Nat.lt_trans (by decide) h
theorem xmq {Q:Value->Shared->Prop} (hu:A.units+1<cLine) (I:Inv X pins σ H s) (g:DGet H a y (some v)) (ry:RelV y u) (h:∀ w' s',Inv X pins σ H s'->RelV v w'->Q w' s') :
    wpAny (model X.prog X.w) A (getItem (.ref a) u) Q E s:=by
  rcases g with⟨kvs,k,e,ey,l⟩|⟨kvs,k,b,e,ey,eb,l⟩
  . subst ey
    obtain⟨z,hd,vs,rel,dd⟩:=xeh I.hok e
    obtain⟨w',hw,rw'⟩:=RelO.some_of (v:=v) (o:=valueAt vs k) (by rw[l]; exact rel.val k)
    exact wpAny_getItem_of (xcp ry) dd.mapOf hw (h w' _ (I.tok _) rw')
  . subst ey
    cases (show u=Value.ref b from ry)
    obtain⟨z,hd,xs,rel,dd⟩:=xe1 I.hok e
    obtain⟨w',hw,rw'⟩:=RelO.some_of (v:=v) (o:=(atKey xs k).map (·.2)) (by rw[l]; exact rel.val k)
    obtain⟨p,hp,hp2⟩:=Option.map_eq_some_iff.mp hw
    refine wpAny_getItem_heap (tupleKind_room_in1 hu) (xd0 I.hok eb) dd hp ?_
    rw[hp2]
    exact h w' _ (I.tok _) rw'
theorem d_in {Q:Value->Shared->Prop} (hu:A.units+1<cLine) (I:Inv X pins σ H s) (g:DGet H a y o) (ry:RelV y u) (h:∀ s',Inv X pins σ H s'->Q (.bool o.isSome) s') :
    wpAny (model X.prog X.w) A (compareOp .In u (.ref a)) Q E s:=by
  rcases g with⟨kvs,k,e,ey,l⟩|⟨kvs,k,b,e,ey,eb,l⟩
  . subst ey
    obtain⟨z,hd,vs,rel,dd⟩:=xeh I.hok e
    refine wpAny_in_of (xcp ry) hd dd.mapOf ?_
    rw[<- (rel.val k).isSome_eq,<- l]
    exact h _ (I.tok _)
  . subst ey
    cases (show u=Value.ref b from ry)
    obtain⟨z,hd,xs,rel,dd⟩:=xe1 I.hok e
    refine wpAny_in_heap (tupleKind_room_in1 hu) (xd0 I.hok eb) hd dd ?_
    have q:=(rel.val k).isSome_eq
    rw[Option.isSome_map] at q
    rw[<- q,<- l]
    exact h _ (I.tok _)
theorem xqi {Q:Value->Shared->Prop} (hu:A.units+1<cLine) (I:Inv X pins σ H s) (g:DGet H a y o) (ry:RelV y u) (h:∀ s',Inv X pins σ H s'->Q (.bool (!o.isSome)) s') :
    wpAny (model X.prog X.w) A (compareOp .NotIn u (.ref a)) Q E s:=by
  rcases g with⟨kvs,k,e,ey,l⟩|⟨kvs,k,b,e,ey,eb,l⟩
  . subst ey
    obtain⟨z,hd,vs,rel,dd⟩:=xeh I.hok e
    refine wpAny_notIn_of (xcp ry) hd dd.mapOf ?_
    rw[<- (rel.val k).isSome_eq,<- l]
    exact h _ (I.tok _)
  . subst ey
    cases (show u=Value.ref b from ry)
    obtain⟨z,hd,xs,rel,dd⟩:=xe1 I.hok e
    refine wpAny_notIn_heap (tupleKind_room_in1 hu) (xd0 I.hok eb) hd dd ?_
    have q:=(rel.val k).isSome_eq
    rw[Option.isSome_map] at q
    rw[<- q,<- l]
    exact h _ (I.tok _)
theorem xdc {h':Heap}{t':Nat}{ob:HO} (I:Inv X pins σ H s) (mu:Mut (H a)) (hs:Heap.SameBut a s.heap h') (he:∃ q,h'.get? a=some q) (new:xav X.prog X.w (upd H a ob) h' a ob) :
    Inv X pins σ (upd H a ob) { s with heap:=h',toks:=t' } :=
  I.write (x:=a) (e:=a) mu (.inl rfl) (fun b q hb z=>(hs.2 b hb).trans z) he new
theorem xha {P:Program}{w:World}{H':Hp}{h':Heap}{kvs:List (Key × V)}{vs:List (Key × Value)} (z:kvs.length<=sizeLine) (hd:(a == sysModules)=false) (rel:KV kvs vs) (dd:h'.DictOf (xaj P w) a vs) :
    xav P w H' h' a (.dK kvs):=⟨z,hd,vs,rel,dd⟩
theorem xm8 {H':Hp}{Q:Unit->Shared->Prop} (hu:A.units+1<cLine) (I:Inv X pins σ H s) (g:DPut H a y v H') (ry:RelV y u) (rv:RelV v r) (h:∀ s',Inv X pins σ H' s'->Q () s') :
    wpAny (model X.prog X.w) A (setItem (.ref a) u r) Q E s:=by
  rcases g with⟨kvs,k,e,ey,l,eH⟩|⟨kvs,k,b,e,ey,eb,l,eH⟩
  . subst ey eH
    obtain⟨z,hd,vs,rel,dd⟩:=xf9 I.hok e
    have hz:vs.length<=sizeLine:=by rw[<- rel.length]; exact z
    have hl:(putK kvs k v).length<=sizeLine:=by have:=xbx kvs k v; omega
    refine wpAny_setItem_pairs (hsz:=hz) (xcp ry) dd fun h' dd' hs=>h _ ?_
    have he:∃ q,h'.get? a=some q:=let ⟨q,_,_,hq,_⟩:=dd'; ⟨q,hq⟩
    exact xdc I (by rw[e]; exact True.intro) hs he (xha hl hd (rel.put k rv) dd')
  . subst ey eH
    cases (show u=Value.ref b from ry)
    obtain⟨z,hd,xs,rel,dd⟩:=xhp I.hok e
    have hz:xs.length<=sizeLine:=by rw[<- Paired.length rel]; exact z
    have hl:(putK kvs k v).length<=sizeLine:=by have:=xbx kvs k v; omega
    refine wpAny_setItem_heap (hsz:=hz) (tupleKind_room_in1 hu) (xd0 I.hok eb) dd fun h' dd' hs=>h _ ?_
    obtain⟨q,es,ep,hq,h2,h3,h4,_,h5⟩:=dd'
    refine xdc I (by rw[e]; exact True.intro) hs ⟨q,hq⟩ ⟨hl,hd,_,(rel.put k eb rv).keeps fun c ys ec=>?_,q,es,ep,hq,h2,h3,h4,h5⟩
    rw[xg (x5 ec e (fun z=>nomatch z))]
    exact ec
end
section
variable {X:Cx}{pins:List (Addr × Obj)}{σ:St}{H:Hp}{s:Shared}{a:Addr}{kvs:List (Key × V)}{k:Key}{u:Value}{A:Around}{E:Value->Shared->Prop}
theorem xtq {v:V}{more:List Value}{Q:Value->Shared->Prop} (I:Inv X pins σ H s) (e:H a=some (.dK kvs)) (ry:RelV (kV k) u) (l:valV kvs k=some v) (hm:more=[]\/∃ x,more=[x])
    (h:∀ w' s',Inv X pins σ (upd H a (.dK (xei kvs k))) s'->RelV v w'->Q w' s'):wpAny (model X.prog X.w) A (call (.builtin "dict.pop") (.ref a::u::more)) Q E s:=by
  obtain⟨z,hd,vs,rel,dd⟩:=xf9 I.hok e
  obtain⟨w',hw,rw'⟩:=RelO.some_of (v:=v) (o:=valueAt vs k) (by rw[<- l]; exact rel.val k)
  have hp:(keyPart u).isSome=true:=by
    cases k with
    | inl i=>obtain⟨t,q⟩:=(show ∃ t,u=Value.int i t from ry); subst q; rfl
    | inr x=>obtain⟨t,q⟩:=(show ∃ t,u=Value.str x t from ry); subst q; rfl
  have ha:argsOk "dict.pop" ⟨.ref a::u::more,[]⟩:=by
    rcases hm with q|⟨x,q⟩
    . subst q; exact PySem.F.args_dict_pop_2 _ _
    . subst q; exact PySem.F.args_dict_pop_3 _ _ _
  refine call_meetsIn PySem.F.slot_dict_pop dd.typeIs PySem.F.entry_dict_pop ha (meets_dict_pop_there (xaj X.prog X.w) a (xcp ry) more hm hp)
    ⟨vs,w',dd,by rw[<- rel.length]; exact z,hw,fun h' dd' hs=>h w' _ ?_ rw'⟩
  have he:∃ q,h'.get? a=some q:=let ⟨q,_,_,hq,_⟩:=dd'; ⟨q,hq⟩
  exact xdc I (by rw[e]; exact True.intro) hs he (xha (Nat.le_trans (xpd kvs k) z) hd (rel.drop k) dd')
theorem xtx {Q:Value->Shared->Prop} (I:Inv X pins σ H s) (e:Rd H a (.dK kvs)) (h:∀ t s',Inv X pins σ H s'->Q (.int kvs.length t) s'):wpAny (model X.prog X.w) A (call (.builtin "len") [.ref a]) Q E s:=by
 obtain⟨z,hd,vs,rel,dd⟩:=xeh I.hok e
 refine call_len_dict hd dd (by rw[<- rel.length]; rw[sizeLine_eq] at z; omega) ?_
 rw[<- rel.length]
 exact h _ _ (I.tok _)
end
def NoSl (i:Expr):Prop:=∀ ov iv,subscripted i false ov iv=operate [ov,iv] (getItem ov iv)
theorem xqw {prog:Program}{w:World}{A:Around}{E:Value->Shared->Prop}{s:Shared}{env:Env}{value slice:Expr}{pos:Pos}{T id:String}{Q:Value->Shared->Prop}
    (hl:typeLookup (.type T) "__getitem__"=pure (some (.builtin id))) (hs:NoSl slice)
    (h:wpAny (model prog w) A (eval value env) (fun o s₁=>wpAny (model prog w) A (eval slice env) (fun i s₂=>s₂.TypeIs o T/\wpAny (model prog w) A (getItem o i) Q E s₂) E s₁) E s) :
    wpAny (model prog w) A (eval (.Subscript value slice pos) env) Q E s:=by
  refine Subscript_ (wpAny_mono h (fun o s₁ h₁=>wpAny_mono h₁ (fun i s₂ h₂=>?_) fun _ _ x=>x) fun _ _ x=>x)
  obtain⟨hT,h₂⟩:=h₂
  unfold subscriptTail
  refine wpAny_bind ?_
  rw[getitemInPython_of_ne hT.not_modules]
  refine wpAny_bind (wpAny_specialOf hT hl ?_)
  have fin:wpAny (model prog w) A (subscripted slice false o i) (fun r s₃=>wpAny (model prog w) A (letTemporaryGo value o r>>=fun _=>pure r) Q E s₃) E s₂:=by
    rw[hs o i]
    exact wpAny_operating (wpAny_mono h₂ (fun r s₃ h₃=>wpAny_bind (wpAny_letTemporaryGo (wpAny_pure h₃))) fun _ _ x=>x)
  first
    | exact wpAny_pure (wpAny_bind fin)
    | exact wpAny_bind (wpAny_pure (wpAny_bind fin))
    | exact wpAny_bind fin
theorem xkf {X:Cx}{pins:List (Addr × Obj)}{σ:St}{H:Hp}{s:Shared}{a:Addr}{y:V}{o:Option V} (I:Inv X pins σ H s) (g:DGet H a y o):s.TypeIs (.ref a) "dict":=by
 rcases g with⟨kvs,k,e,_,_⟩|⟨kvs,k,b,e,_,_,_⟩
 .obtain ⟨_,_,vs,_,dd⟩:=xeh I.hok e
  exact dd.typeIs
 .obtain ⟨_,_,xs,_,dd⟩:=xe1 I.hok e
  exact dd.typeIs
def xug (td ty:TE):TE:=fun σ H Q=>td σ H fun x H1=>ty σ H1 fun y H2=>∃ a v,x=.ref a/\DGet H2 a y (some v)/\Q v H2
def tDIn (ty td:TE):TE:=fun σ H Q=>ty σ H fun y H1=>td σ H1 fun x H2=>∃ a o,x=.ref a/\DGet H2 a y o/\Q (.bl o.isSome) H2
def xq2 (ty td:TE):TE:=fun σ H Q=>ty σ H fun y H1=>td σ H1 fun x H2=>∃ a o,x=.ref a/\DGet H2 a y o/\Q (.bl (!o.isSome)) H2
def xtc (td ty tv:TE):TS:=fun D σ H=>tv σ H fun v H1=>td σ H1 fun x H2=>ty σ H2 fun y H3=>∃ a H4,x=.ref a/\DPut H3 a y v H4/\D.nx σ H4
section
variable {X:Cx}{o i e value:Expr}{pos pos' tpos:Pos}{td ty tv:TE}
theorem xev (hu:X.A.units+1<cLine) (ho:PE X o td) (hi:PE X i ty) (hs:NoSl i):PE X (.Subscript o i pos) (xug td ty):=by
 intro pins s σ H Q I h
 refine xqw PySem.F.slot_dict_getitem.lookup hs (thn (ho pins s σ H _ I h) fun u s1 ⟨x,H1,I1,rx,q1⟩=>thn (hi pins s1 σ H1 _ I1 q1) fun iv s2 ⟨y,H2,I2,ry,a,v,ex,g,q2⟩=>?_)
 subst ex
 obtain rfl:u=Value.ref a:=rx
 exact⟨xkf I2 g,xmq hu I2 g ry fun w' s3 I3 rw'=>⟨v,H2,I3,rw',q2⟩⟩
theorem xg0 (hu:X.A.units+1<cLine) (hi:PE X i ty) (ho:PE X o td):PC X .In i o (tDIn ty td):=by
 intro pins s σ H Q I h
 refine thn (hi pins s σ H _ I h) fun iv s1 ⟨y,H1,I1,ry,q1⟩=>thn (ho pins s1 σ H1 _ I1 q1) fun u s2 ⟨x,H2,I2,rx,a,ov,ex,g,q2⟩=>?_
 subst ex
 obtain rfl:u=Value.ref a:=rx
 exact d_in hu I2 g ry fun s3 I3=>⟨.bl ov.isSome,H2,I3,rfl,q2⟩
theorem xec (hu:X.A.units+1<cLine) (hi:PE X i ty) (ho:PE X o td):PC X .NotIn i o (xq2 ty td):=by
 intro pins s σ H Q I h
 refine thn (hi pins s σ H _ I h) fun iv s1 ⟨y,H1,I1,ry,q1⟩=>thn (ho pins s1 σ H1 _ I1 q1) fun u s2 ⟨x,H2,I2,rx,a,ov,ex,g,q2⟩=>?_
 subst ex
 obtain rfl:u=Value.ref a:=rx
 exact xqi hu I2 g ry fun s3 I3=>⟨.bl (!ov.isSome),H2,I3,rfl,q2⟩
theorem xb7 (hu:X.A.units+1<cLine) (ho:PE X o td) (hi:PE X i ty) (hv:PE X value tv) (hs:swapsWith value (some (.Subscript o i pos')) pos.line X.env=pure false) :
    PS X (.Assign [.Subscript o i pos'] value pos) (xtc td ty tv):=by
  intro pins s σ H D I h
  refine wpAny_Assign_Subscript (thn (hv pins s σ H _ I h) fun r s1 ⟨v,H1,I1,rv,q1⟩=>thn (ho pins s1 σ H1 _ I1 q1) fun u s2 ⟨x,H2,I2,rx,q2⟩=>thn (hi pins s2 σ H2 _ I2 q2) fun iv s3 ⟨y,H3,I3,ry,a,H4,ex,g,q3⟩=>?_) hs
  subst ex
  obtain rfl:u=Value.ref a:=rx
  exact xm8 hu I3 g ry rv fun s4 I4=>⟨σ,H4,I4,q3⟩
end
theorem xgv {P:Program}{w:World}{H:Hp} (h:Heap) (hb:sysModules<h.objs.size):xav P w H (h.push { cls:=.type "dict",data:=.dict #[] }) h.objs.size (.dK []) :=
 ⟨Nat.zero_le _,beq_eq_false_iff_ne.mpr (Ne.symm (Nat.ne_of_lt hb)),[],.nil,Heap.DictOf.new h⟩
theorem xjo {P:Program}{w:World}{H:Hp} (h:Heap) (hb:sysModules<h.objs.size):xav P w H (h.push { cls:=.type "dict",data:=.dict #[] }) h.objs.size (.dT []) :=
 ⟨Nat.zero_le _,beq_eq_false_iff_ne.mpr (Ne.symm (Nat.ne_of_lt hb)),[],.nil,_,#[],0,Heap.get?_push_size _ rfl,⟨rfl,rfl,rfl⟩,rfl,rfl,List.nodup_nil⟩
def xsk:TE:=fun _ H Q=>∀ p,H p=none->Q (.ref p) (upd H p (.dK []))
def xs5:TE:=fun _ H Q=>∀ p,H p=none->Q (.ref p) (upd H p (.dT []))
section
variable {X:Cx}{pos:Pos}
theorem xgj:PE X (.Dict [] [] pos) xsk:=fun pins s σ H Q I h =>
 wpAny_Dict_empty ⟨.ref s.heap.objs.size,_,I.laid (a:=s.heap.objs.size) (o:=.dK []) (t':=s.toks) (fun _ _ q=>Heap.get?_push_of_some _ q) (Nat.le_refl _) (xgv s.heap I.big),rfl,h _ (I.hok.fresh (Nat.le_refl _))⟩
theorem xgs:PE X (.Dict [] [] pos) xs5:=fun pins s σ H Q I h =>
 wpAny_Dict_empty ⟨.ref s.heap.objs.size,_,I.laid (a:=s.heap.objs.size) (o:=.dT []) (t':=s.toks) (fun _ _ q=>Heap.get?_push_of_some _ q) (Nat.le_refl _) (xjo s.heap I.big),rfl,h _ (I.hok.fresh (Nat.le_refl _))⟩
end
def xji:List (TE × TE)->St->Hp->(List (V × V)->Hp->Prop)->Prop
 | [],_,H,Q=>Q [] H
 | (tk,tv)::r,σ,H,Q=>tk σ H fun x H1=>tv σ H1 fun y H2=>xji r σ H2 fun ps H3=>Q ((x,y)::ps) H3
abbrev VV:List (V × V)->List (Value × Value)->Prop:=Paired fun p q=>RelV p.1 q.1/\RelV p.2 q.2
def PPs (X:Cx) (pos:Pos) (keys:List (Option Expr)) (values:List Expr) (trs:List (TE × TE)):Prop :=
 ∀(pins:List (Addr × Obj)) (s:Shared) (σ:St) (H:Hp) (Q:List (V × V)->Hp->Prop),Inv X pins σ H s->xji trs σ H Q ->
  wpAny (model X.prog X.w) X.A (evalPairs (pairTrees keys values X.env pos)) (fun vs s'=>∃ ps H',Inv X pins σ H' s'/\VV ps vs/\Q ps H') X.xe s
theorem xq3 {X:Cx}{pos:Pos}:PPs X pos [] [] []:=fun pins s σ H Q I h=>pairTrees_nil_walk ⟨[],H,I,.nil,h⟩
theorem xjm {X:Cx}{pos:Pos}{k v:Expr}{ks:List (Option Expr)}{vs:List Expr}{tk tv:TE}{trs:List (TE × TE)} (hk:PE X k tk) (hv:PE X v tv) (hr:PPs X pos ks vs trs) :
    PPs X pos (some k::ks) (v::vs) ((tk,tv)::trs):=fun pins s σ H Q I h =>
  pairTrees_cons_walk (thn (hk pins s σ H _ I h) fun u s1 ⟨x,H1,I1,rx,q1⟩=>thn (hv pins s1 σ H1 _ I1 q1) fun w2 s2 ⟨y,H2,I2,ry,q2⟩ =>
    thn (hr pins s2 σ H2 _ I2 q2) fun ws s3 ⟨ps,H3,I3,rel,q3⟩=>⟨(x,y)::ps,H3,I3,.cons ⟨rx,ry⟩ rel,q3⟩)
def xd7 (kvs more:List (Key × V)):List (Key × V):=more.foldl (fun acc kv=>putK acc kv.1 kv.2) kvs
theorem KV.merge:∀{more:List (Key × V)}{rs:List (Key × Value)}{kvs:List (Key × V)}{vs:List (Key × Value)},KV more rs->KV kvs vs->KV (xd7 kvs more) (merged vs rs):=by
 intro more rs kvs vs r
 unfold KV at r
 induction r generalizing kvs vs with
 | nil=>intro q; exact q
 | @cons p q ps qs h t ih =>
  intro r0
  have e:KV (putK kvs p.1 p.2) (stored vs q.1 q.2):=by
   have:=r0.put p.1 h.2
   rw[<- h.1]; exact this
  exact ih e
theorem xfa:∀(more kvs:List (Key × V)),(xd7 kvs more).length<=kvs.length+more.length
 | [],kvs=>by show kvs.length<=kvs.length+0; omega
 | p::r,kvs=>by
  have h1:=xfa r (putK kvs p.1 p.2)
  have h2:=xbx kvs p.1 p.2
  show (xd7 (putK kvs p.1 p.2) r).length<=_
  rw[List.length_cons]; omega
theorem xhb {P:Program}{w:World}:∀{kvs:List (Key × V)}{ws:List (Value × Value)},VV (kvs.map fun kv=>(kV kv.1,kv.2)) ws->∃ rs,Carries (xaj P w) ws rs/\KV kvs rs
 | [],_,r=>by rw[List.map_nil] at r; cases r; exact⟨[],True.intro,.nil⟩
 | p::kvs,_,r=>by
  rw[List.map_cons] at r
  cases r with
  | @cons a b as bs h t =>
   obtain⟨rs,c,q⟩:=xhb (P:=P) (w:=w) t
   obtain⟨b1,b2⟩:=b
   exact⟨(p.1,b2)::rs,⟨xcp h.1,rfl,c⟩,.cons ⟨rfl,h.2⟩ q⟩
def xuc (trs:List (TE × TE)):TE:=fun σ H Q=>∀ p,H p=none->xji trs σ (upd H p (.dK [])) fun ps H2=>H2 p=some (.dK [])/\∃ kvs:List (Key × V),ps=kvs.map (fun kv=>(kV kv.1,kv.2))/\kvs.length<=15/\Q (.ref p) (upd H2 p (.dK (xd7 [] kvs)))
theorem xrm {X:Cx}{pos:Pos}{keys:List (Option Expr)}{values:List Expr}{trs:List (TE × TE)} (h:PPs X pos keys values trs) (hall:keys.all (·.isSome)=true) (hl:keys.length=values.length) (h0:keys≠[])
    (h15:keys.length<=15):PE X (.Dict keys values pos) (xuc trs):=by
  intro pins s σ H Q I q
  have hn:=I.hok.fresh (Nat.le_refl s.heap.objs.size)
  have I1:=I.laid (a:=s.heap.objs.size) (o:=.dK []) (h':=s.heap.push { cls:=.type "dict",data:=.dict #[] }) (t':=s.toks) (fun _ _ q=>Heap.get?_push_of_some _ q) (Nat.le_refl _) (xgv s.heap I.big)
  refine wpAny_Dict_walk (knd:=xaj X.prog X.w) hall hl h0 h15 (thn (h pins _ σ _ _ I1 (q _ hn)) fun ws s2 ⟨ps,H2,I2,rel,e,kvs,ep,lk,q2⟩=>?_)
  subst ep
  obtain⟨rs,c,rk⟩:=xhb (P:=X.prog) (w:=X.w) rel
  obtain⟨z,hd,vs0,r0,dd⟩:=xf9 I2.hok e
  cases r0
  refine⟨rs,c,dd,fun h' dd' hs=>⟨.ref s.heap.objs.size,_,?_,rfl,q2⟩⟩
  have hz:(xd7 [] kvs).length<=sizeLine:=by
    have h1:=xfa kvs []
    rw[List.length_nil] at h1
    rw[sizeLine_eq]; omega
  have he:∃ q,h'.get? s.heap.objs.size=some q:=let ⟨q,_,_,hq,_⟩:=dd'; ⟨q,hq⟩
  exact xdc I2 (by rw[e]; exact True.intro) hs he (xha hz hd (rk.merge .nil) dd')
structure M1 (X:Cx) (o:Expr) (m:Str) (apos:Pos) (e:Expr) (cpos:Pos):Prop where
 base:attributeBase o m X.env (eval o X.env)=eval o X.env
 few:((backTo cpos (starEach [e] X.env)).all (fun x=>!x.1)&&(backToKw cpos (keywordEach [] X.env)).all (fun x=>x.1.isSome)
  && decide (([e]:List Expr).length+([]:List Keyword).length+(if ([]:List Keyword).isEmpty then 0 else 1)<30))=true
 line:(apos.endLine == cpos.line)=true
 trees:backTo cpos (starEach [e] X.env)=[(false,eval e X.env)]
structure M2 (X:Cx) (o:Expr) (m:Str) (apos:Pos) (e f:Expr) (cpos:Pos):Prop where
 base:attributeBase o m X.env (eval o X.env)=eval o X.env
 few:((backTo cpos (starEach [e,f] X.env)).all (fun x=>!x.1)&&(backToKw cpos (keywordEach [] X.env)).all (fun x=>x.1.isSome)
  && decide (([e,f]:List Expr).length+([]:List Keyword).length+(if ([]:List Keyword).isEmpty then 0 else 1)<30))=true
 line:(apos.endLine == cpos.line)=true
 trees:backTo cpos (starEach [e,f] X.env)=[(false,eval e X.env),(false,eval f X.env)]
def IsD (H:Hp) (a:Addr):Prop:=(∃ kvs,Rd H a (.dK kvs))\/∃ kvs,Rd H a (.dT kvs)
theorem xnz {X:Cx}{pins:List (Addr × Obj)}{σ:St}{H:Hp}{s:Shared}{a:Addr} (I:Inv X pins σ H s) (d:IsD H a) :
    s.TypeIs (.ref a) "dict"/\(∀ b,Value.ref a=.ref b->∃ ob,s.heap.get? b=some ob/\ob.dict=none)/\(a == sysModules)=false:=by
  rcases d with⟨kvs,e⟩|⟨kvs,e⟩
  . obtain⟨_,hd,vs,_,dd⟩:=xeh I.hok e
    refine⟨dd.typeIs,fun b q=>?_,hd⟩
    cases q
    obtain⟨ob,_,_,h1,h2,_⟩:=dd
    exact⟨ob,h1,h2.2.1⟩
  . obtain⟨_,hd,xs,_,dd⟩:=xe1 I.hok e
    refine⟨dd.typeIs,fun b q=>?_,hd⟩
    cases q
    obtain⟨ob,_,_,h1,h2,_⟩:=dd
    exact⟨ob,h1,h2.2.1⟩
section
variable {X:Cx}{pins:List (Addr × Obj)}{σ:St}{H:Hp}{s:Shared}{a:Addr}{y d:V}{u r:Value}{o:Option V}{A:Around}{E:Value->Shared->Prop}
theorem xrn {Q:Value->Shared->Prop} (hu:A.units+1<cLine) (I:Inv X pins σ H s) (g:DGet H a y o) (ry:RelV y u) (rd:RelV d r) (h:∀ w' s',Inv X pins σ H s'->RelV (o.getD d) w'->Q w' s') :
    wpAny (model X.prog X.w) A (call (.builtin "dict.get") [.ref a,u,r]) Q E s:=by
  rcases g with⟨kvs,k,e,ey,l⟩|⟨kvs,k,b,e,ey,eb,l⟩
  . subst ey
    obtain⟨z,hd,vs,rel,dd⟩:=xeh I.hok e
    refine call_meetsIn PySem.F.slot_dict_get dd.typeIs PySem.F.entry_dict_get (PySem.F.args_dict_get_3 _ _ _) (meets_dict_get_default (xaj X.prog X.w) a (xcp ry) hd r) ⟨_,dd.mapOf,h _ _ (I.tok _) ?_⟩
    rw[l]
    exact (rel.val k).getD rd
  . subst ey
    cases (show u=Value.ref b from ry)
    obtain⟨z,hd,xs,rel,dd⟩:=xe1 I.hok e
    refine call_meetsIn PySem.F.slot_dict_get dd.typeIs PySem.F.entry_dict_get (PySem.F.args_dict_get_3 _ _ _) (meetsH_dict_get_default (tupleKind (xaj X.prog X.w)) a b hd r) ⟨tupleKind_room_in1 hu,k,xs,xd0 I.hok eb,dd,h _ _ (I.tok _) ?_⟩
    rw[l]
    exact (rel.val k).getD rd
end
def xse (td ty tx:TE):TE:=fun σ H Q=>td σ H fun x H1=>∃ a,x=.ref a/\IsD H1 a/\ty σ H1 fun y H2=>tx σ H2 fun z H3=>∃ o,DGet H3 a y o/\Q (o.getD z) H3
def xs4 (td ty:TE):TE:=fun σ H Q=>td σ H fun x H1=>∃ a,x=.ref a/\IsD H1 a/\ty σ H1 fun y H2=>∃ kvs k v,H2 a=some (.dK kvs)/\y=kV k/\valV kvs k=some v/\Q v (upd H2 a (.dK (xei kvs k)))
section
variable {X:Cx}{o e f:Expr}{apos cpos:Pos}{td ty tx:TE}
theorem xje (hu:X.A.units+1<cLine) (ho:PE X o td) (he:PE X e ty) (hf:PE X f tx) (m:M2 X o "get" apos e f cpos):PE X (.Call (.Attribute o "get" apos) [e,f] [] cpos) (xse td ty tx):=by
 intro pins s σ H Q I h
 refine wpAny_Call_method m.base m.few m.line PySem.F.plainAttrs_dict PySem.F.slot_dict_get PySem.F.type_dict_get (thn (ho pins s σ H _ I h) fun u s1 ⟨x,H1,I1,rx,a,ex,d,q1⟩=>?_)
 subst ex
 obtain rfl:u=Value.ref a:=rx
 obtain⟨t1,t2,_⟩:=xnz I1 d
 refine⟨t1,t2,?_⟩
 rw[m.trees]
 refine Calls.callWith_builtin rfl (Calls.evalArgs_plain (Calls.spliced_cons (thn (he pins s1 σ H1 _ I1 q1) fun iv s2 ⟨y,H2,I2,ry,q2⟩ =>
  Calls.spliced_cons (thn (hf pins s2 σ H2 _ I2 q2) fun fv s3 ⟨z,H3,I3,rz,ov,g,q3⟩=>Calls.spliced_nil ?_))))
 exact xrn hu I3 g ry rz fun w' s4 I4 rw'=>⟨_,H3,I4,rw',q3⟩
theorem xpc (ho:PE X o td) (he:PE X e ty) (m:M1 X o "pop" apos e cpos):PE X (.Call (.Attribute o "pop" apos) [e] [] cpos) (xs4 td ty):=by
 intro pins s σ H Q I h
 refine wpAny_Call_method m.base m.few m.line PySem.F.plainAttrs_dict PySem.F.slot_dict_pop PySem.F.type_dict_pop (thn (ho pins s σ H _ I h) fun u s1 ⟨x,H1,I1,rx,a,ex,d,q1⟩=>?_)
 subst ex
 obtain rfl:u=Value.ref a:=rx
 obtain⟨t1,t2,_⟩:=xnz I1 d
 refine⟨t1,t2,?_⟩
 rw[m.trees]
 refine Calls.callWith_builtin rfl (Calls.evalArgs_plain (Calls.spliced_cons (thn (he pins s1 σ H1 _ I1 q1) fun iv s2 ⟨y,H2,I2,ry,kvs,k,v,ea,ey,l,q2⟩=>Calls.spliced_nil ?_)))
 subst ey
 exact xtq I2 ea ry l (.inl rfl) fun w' s3 I3 rw'=>⟨v,_,I3,rw',q2⟩
end
end L2
namespace Att
open PySem PySem.W PySem.Calls PyProof.Rows
theorem xhf {P:Params}{h:Heap}:∀(ns:List Int) (vs:List Value),WellAll P h vs (ns.map WData.int)->IntsAre vs ns:=by
 intro ns
 induction ns with
 | nil =>
  intro vs w
  rw[List.map_nil] at w
  cases w
  exact .nil
 | cons n ns ih =>
  intro vs w
  rw[List.map_cons] at w
  cases w with
  | cons a b =>
   cases a
   exact .cons _ _ (ih _ b)
theorem xnq {l:OpenLaw}{n:Nat} (hn:l.most=some n) {P:Params}{h:Heap}{args:List WData}{vals:List Value}
    (hpre:l.row.toRowW.claim.pre args=true) (hwl:WellAll P h vals args) :
    ∃ a vs ns,vals=[Value.ref a]/\args=[WData.list (ns.map WData.int)]/\h.get? a=some { cls:=.type "list",data:=.seq vs.toArray }/\IntsAre vs ns/\ns.length<=n:=by
  have hsh:WShape.hasAll [] args [.list .int]=true:=(pre_splitW hpre).1
  have hc:l.pre.holds [] { args:=args }=true:=(pre_splitW hpre).2
  obtain⟨d,r,rfl,h1,h2⟩:=hasAllW_cons hsh
  obtain rfl:=hasAllW_nil h2
  obtain⟨xs,rfl,h3⟩:=hasW_list h1
  obtain⟨ns,rfl⟩:=items_int h3
  have hlen:ns.length<=n:=by
    unfold OpenLaw.pre at hc
    have h4:(WTm.not (.lt (.lit (.int (n:Int))) (.len (.arg 0)))).holds [] { args:=[.list (ns.map .int)] }=true:=by
      have h4:=(holds_andW hc).1
      rw[hn] at h4
      exact h4
    have h5:=condW_of h4 (w_not (w_lt w_lit (w_len_list (w_arg rfl))))
    rw[List.length_map] at h5
    refine Nat.le_of_not_lt fun q=>?_
    have q':(n:Int)<((ns.length:Nat):Int):=by omega
    first
      | (rw[decide_eq_true q'] at h5; exact absurd h5 (by decide))
      | (simp at h5; omega)
  cases hwl with
  | cons w1 w2 =>
    cases w2
    cases w1 with
    | list ho hall=>exact⟨_,_,ns,rfl,rfl,ho,xhf ns _ hall,hlen⟩
theorem xmw (l:OpenLaw) (args:List WData):l.row.toRowW.claim.post args (.bool true) args=true :=
 postW_of (r:=l.row.toRowW) (X:=(true == true))
  (show WShape.has [] (.bool true) .bool=true by first|rfl|decide|simp[WShape.has,WShape.arms,WShape.armsAll])
  (show (WTm.eq .res (.lit (.bool true))).value [] { args:=args,res:=some (.bool true),after:=args }=some (.bool (true == true)) from w_eq_bool (w_res rfl) w_lit) rfl
theorem attach_call {l:OpenLaw}{n:Nat}{q:Program}{loose:List Str}{XP:(Str->Option Value)->Heap->Prop}{YP:World->Heap->Prop}{d:DefRec}
    (hn:l.most=some n) (hdf:d.params.defaults=[])
    (call:∀(w:World) (s₀ s₁:Shared) (mg mb:Str->Option Value) (fa:Addr) (o:Obj) (pm cd doc:Value) (a:Addr) (vs:List Value) (ns:List Int),
      Ground q loose [] XP w s₀ mg mb s₁.heap->YP w s₁.heap ->
      s₁.heap.get? fa=some o->o.data=.func (docDef d.name d.params d.body d.scope pm cd doc)->s₁.heap.CodeRec cd d.name->mg d.name=some (.ref fa) ->
      s₁.heap.get? a=some { cls:=.type "list",data:=.seq vs.toArray }->IntsAre vs ns->ns.length<=n->s₁.gens=#[] ->
      codeAny (model l.prog w) callerA (.call (.ref fa) ⟨[.ref a],[]⟩) (fun r s'=>r=.ok (.ret (.bool true))/\OldK s₁.heap s'.heap/\s'.os=s₁.os/\AllBare s'.gens) s₁) :
    WalkO q loose XP YP l.row.toRowW d [] (fun f vs=>PySem.call f vs):=by
  intro w s₀ s₁ mg mb G Y fa o pm cd doc dV kV ho hd hcd hD hmg hg args vals as hpre hlay hrd hwl hlo
  obtain rfl:dV=.none:=Dflts.none hD hdf
  obtain rfl:kV=.none:=Dflts.noKw hD
  obtain⟨a,vs,ns,rfl,rfl,hobj,hints,hlen⟩:=xnq hn hpre hwl
  refine enter_call (codeAny_mono (call w s₀ s₁ mg mb fa o pm cd doc a vs ns G Y ho (fd_plain hd) hcd hmg hobj hints hlen hg) fun r s' hq=>?_)
  obtain⟨rfl,h2,h3,h4⟩:=hq
  exact⟨.inl ⟨.bool true,.bool true,[],rfl,fun _=>rfl,.bool true,xmw l _,fun _=>⟨List.Pairwise.nil,fun _ hm=>(nomatch hm)⟩⟩,h2,h3,h4⟩
section
variable {prog:Program}{w:World}{A:Around}{E:Value->Shared->Prop}{s:Shared}{K:Frag}
def xui (h:Heap) (L d:Addr):List (Addr × Obj):=(List.range h.objs.size).filterMap fun a=>if a=L\/a=d then none else (h.get? a).map fun o=>(a,o)
end
end Att
namespace L2
open PySem PySem.Spec PyProof.Rows
variable {q0:Bool}
theorem xit:∀{vs:List Value}{ns:List Int},IntsAre vs ns->Vals (ns.map V.int) vs
 | _,_,.nil=>.nil
 | _,_,.cons n t h=>.cons ⟨t,rfl⟩ (xit h)
def Only (H:Hp):Prop:=∀ b,H b=none\/∃ o xs,H b=some (.frz o (.lst xs))
theorem xpa {P:Program}{w:World}{K:PySem.W.Frag}{mg mb:Str->Option Value}{CX:CXT}{k:Nat}{fa a:Addr}{fd:FuncData}{x:Str}{sp:Sp}{s₁:Shared}{vs:List Value}{ns:List Int}
    (KX:K.In s₁.heap) (hns:s₁.heap.Ns mainGlobals mg) (hb:s₁.heap.Ns builtinsNs mb) (hbb:∀ x:Str,x≠"__name__"->mb x=bootBuiltins x) (hlim:s₁.heap.NoLimit) (hg:s₁.gens=#[])
    (ha:s₁.heap.get? a=some { cls:=.type "list",data:=.seq vs.toArray }) (hi:IntsAre vs ns) (hl:ns.length<=sizeLine) (hr:Room q0 k callerA)
    (F:∀ base:Heap,K.In base->base.Ns mainGlobals mg->FnOk q0 P w K mg base CX k fa fd [x] sp) (hbind:∀(s:Shared) (u:Value),BindsTo s fd ⟨[u],[]⟩ [(x,u)])
    (hsp:∀ H:Hp,Only H->SqL K H a (ns.map V.int)->sp [.ref a] H (fun v _=>v=.bl true) fun _ _ _=>False)
    (hCX:∀ H e s',CX [] H s₁ (fun _ _ _=>False) e s'->False) :
    codeAny (model P w) callerA (.call (.ref fa) ⟨[.ref a],[]⟩) (fun r s'=>r=.ok (.ret (.bool true))/\OldK s₁.heap s'.heap/\s'.os=s₁.os/\AllBare s'.gens) s₁:=by
  have rv:=xit hi
  have lenV:=hi.length
  -- from an abstract heap in which nothing but the script may be tracked
  have core:∀ H:Hp,Only H->SqL K H a (ns.map V.int)->HOk P w H s₁.heap->(∀ b,H b≠none->b=a)->(H a≠none->K.lookup a=none) ->
      codeAny (model P w) callerA (.call (.ref fa) ⟨[.ref a],[]⟩) (fun r s'=>r=.ok (.ret (.bool true))/\OldK s₁.heap s'.heap/\s'.os=s₁.os/\AllBare s'.gens) s₁:=by
    intro H hO hS hok hA hK
    have base_of:∀{b:Addr}{o:Obj},s₁.heap.get? b=some o->H b=none->(hidT s₁.heap H).get? b=some o:=fun e n=>xoi e n
    have noA:∀{b:Addr}{o:Obj}{es:Array DictEntry}{ep:Nat},s₁.heap.get? b=some o->o.data=.dict es ep->H b=none:=fun {b o es ep} e d=>by
      cases q:H b with
      | none=>rfl
      | some u =>
        have e':b=a:=hA b (by rw[q]; simp)
        subst e'
        rw[ha] at e; cases e
        have d':Data.seq vs.toArray _=Data.dict es ep:=d
        cases d'
    have nsK:∀{b:Addr}{m:Str->Option Value},s₁.heap.Ns b m->(hidT s₁.heap H).Ns b m:=fun {b m} ⟨o,es,ep,e,d,r⟩=>⟨o,es,ep,base_of e (noA e d),d,r⟩
    have hKb:K.In (hidT s₁.heap H):=fun b o e=>base_of (KX b o e) (by
      cases q:H b with
      | none=>rfl
      | some u =>
        have e':b=a:=hA b (by rw[q]; simp)
        subst e'
        rw[hK (by rw[q]; simp)] at e; cases e)
    have hM:Mod K mg (hidT s₁.heap H):=⟨hKb,nsK hns,⟨mb,nsK hb,hbb⟩,let ⟨mc,h1,h2⟩:=hlim; ⟨mc,nsK h1,h2⟩⟩
    have e0:Env0 P w K mg (hidT s₁.heap H) callerA [] s₁ H:=⟨rfl,hM,fun b o e=>xqs e,Nat.le_of_eq (xnn _ _),trivial,fun b hb=>absurd (show b∈([]:List Addr) from hb) (by simp),hok,.of_eq hg⟩
    refine codeAny_mono ((F _ hKb (nsK hns)).run callerA [] s₁ H ⟨[.ref a],[]⟩ [.ref a] [.ref a] _ _ hr e0 (hbind s₁ (.ref a)) (.cons rfl .nil) (hsp H hO hS)) fun r s' h=>?_
    cases r with
    | error e=>exact (hCX H e s' h).elim
    | ok fl =>
      cases fl with
      | next=>exact False.elim h
      | brk=>exact False.elim h
      | cont=>exact False.elim h
      | ret u =>
        obtain⟨v,H',os,bare,un,hok',r',q⟩:=h
        have q':v=.bl true:=q
        subst q'
        obtain rfl:u=Value.bool true:=r'
        refine⟨rfl,OldK.of_keep fun b o e=>?_,os,bare⟩
        cases q:H b with
        | none=>exact un.keep b o e q (by intro z; exact absurd (show b∈([]:List Addr) from z) (by simp)) (by simp)
        | some u =>
          rcases hO b with z|⟨ob,xs,z⟩
          . rw[q] at z; cases z
          . have z2:=un.frzs b ob _ z
            obtain⟨e1,_⟩:=hok b _ z
            obtain⟨e2,_⟩:=hok' b _ z2
            rw[e] at e1; cases e1
            exact e2
  cases hk:K.lookup a with
  | some o =>
    -- the script is one of the module's own objects
    have e:=KX a o hk
    rw[ha] at e
    cases e
    refine core (fun _=>none) (fun _=>.inl rfl) (.inr ⟨_,vs.toArray,_,hk,rfl,rfl,rfl,by rw[List.size_toArray,lenV]; exact hl,by simpa using rv⟩) (fun b u z=>by have z':(none:Option HO)=some u:=z; cases z') (fun b z=>absurd rfl z) fun z=>absurd rfl z
  | none =>
    refine core (fun b=>if b=a then some (.frz { cls:=.type "list",data:=.seq vs.toArray } (.lst (ns.map V.int))) else none) (fun b=>?_) (.inl (.inr ⟨{ cls:=.type "list",data:=.seq vs.toArray },if_pos rfl⟩)) (fun b u z=>?_) (fun b z=>?_) fun _=>hk
    . by_cases hb:b=a
      . exact .inr ⟨_,_,if_pos hb⟩
      . exact .inl (if_neg hb)
    . by_cases hb:b=a
      . have z':=(if_pos hb).symm.trans z
        cases z'
        subst hb
        exact⟨ha,by rw[List.length_map]; exact hl,vs,_,rv,ha⟩
      . have z':=(if_neg hb).symm.trans z
        cases z'
    . by_cases hb:b=a
      . exact hb
      . exact absurd (if_neg hb) z
abbrev KOf {K:PySem.W.Frag}{h:Heap} (_:K.In h):PySem.W.Frag:=K
theorem walk_of {l:PySem.W.OpenLaw}{n k:Nat}{q:Program}{loose:List Str}{XP:(Str->Option Value)->Heap->Prop}{YP:World->Heap->Prop}{d:DefRec}{K:Params->PySem.W.Frag}{CX:World->CXT}{sp:World->Sp}{x:Str}
    (hn:l.most=some n) (hn2:n<=sizeLine) (hdf:d.params.defaults=[]) (hr:Room q0 k callerA)
    (hY:∀(w:World) (h:Heap),YP w h->(K w.params).In h)
    (F:∀(w:World) (mg:Str->Option Value) (fa:Addr) (h:Heap),(K w.params).In h->h.Ns mainGlobals mg->mg d.name=some (.ref fa) ->
      ∃ fd:FuncData,(∀(s:Shared) (u:Value),BindsTo s fd ⟨[u],[]⟩ [(x,u)]) /\
        ∀ base:Heap,(K w.params).In base->base.Ns mainGlobals mg->FnOk q0 l.prog w (K w.params) mg base (CX w) k fa fd [x] (sp w))
    (hsp:∀(w:World) (H:Hp) (a:Addr) (ns:List Int),ns.length<=n->Only H->SqL (K w.params) H a (ns.map V.int)->sp w [.ref a] H (fun v _=>v=.bl true) fun _ _ _=>False)
    (hCX:∀(w:World) (H:Hp) (s:Shared) (e:Value) (s':Shared),CX w [] H s (fun _ _ _=>False) e s'->False) :
    PySem.W.WalkO q loose XP YP l.row.toRowW d [] (fun f vs=>PySem.call f vs):=by
  refine Att.attach_call hn hdf fun w s₀ s₁ mg mb fa o pm cd doc a vs ns G Y ho hd hcd hmg hobj hints hlen hg=>?_
  have KX:=hY w _ Y
  obtain⟨fd,hb,hF⟩:=F w mg fa _ KX G.T.g hmg
  exact xpa KX G.T.g G.T.b G.T.builtins G.T.nolimit hg hobj hints (Nat.le_trans hlen hn2) hr hF hb (fun H hO hS=>hsp w H a ns hlen hO hS) fun H e s'=>hCX w H s₁ e s'
def xax (s:Stmt) (j:Nat):Stmt:=match s with
 | .ClassDef _ _ _ body _ _ _ _ _ _ _=>body.getD j (.Pass ⟨0,0,0,0⟩)
 | _=>.Pass ⟨0,0,0,0⟩
def xv (s:Stmt):Arguments:=match s with
 | .FunctionDef _ a _ _ _ _ _ _ _ _=>a
 | _=>{ posonlyargs:=[],args:=[],vararg:=none,kwonlyargs:=[],kw_defaults:=[],kwarg:=none,defaults:=[] }
def xu (s:Stmt):List Stmt:=match s with
 | .FunctionDef _ _ b _ _ _ _ _ _ _=>b
 | _=>[]
def xh (s:Stmt):Scope:=match s with
 | .FunctionDef _ _ _ _ _ _ sc _ _ _=>sc
 | _=>{ kind:=.function,names:=[],isGenerator:=false,isCoroutine:=false }
abbrev CX0:CXT:=fun _ _ _ _ _ _=>False
structure Fun (K:PySem.W.Frag) (x qual:Str) (st:Stmt) (f:Addr) (fd:FuncData):Prop where
 ex:∃(oc:Value) (od:Option Addr) (kV doc pm:Value) (an:Option Addr) (cdv ct:Value) (osl:Array (Option Value)),
  fd=PySem.W.fnOf x qual (xv st) (xu st) (xh st) .none kV doc pm an cdv ct/\K.lookup f=some ⟨oc,od,.func fd,osl⟩/\PySem.W.codeIn K cdv qual=true
 kp:PySem.W.keepIn K (.ref f)=true
section
variable {P:Program}{w:World}{K:PySem.W.Frag}{mg:Str->Option Value}{base:Heap}
theorem Fun.ok {x qual:Str}{st:Stmt}{f:Addr}{fd:FuncData}{N ps:List Str}{k:Nat}{sp:Sp} (F:Fun K x qual st f fd) (S:xw N ps (xh st)) (len:∀ vs H Q E,sp vs H Q E->vs.length=ps.length)
    (hbody:∀(cdv:Value) (A:Around) (outer:List Env) (s:Shared) (H:Hp) (vs:List V) (Q:VK) (E:XK),Room q0 k (A.deeper (envOfC qual (xh st) s.heap.objs.size f cdv))->sp vs H Q E ->
      ∃ t,PSs (cxOf q0 CX0 P w K mg base N qual (xh st) f cdv A outer s H E).nox (xu st) t/\t { nx:=fun _ H'=>Q .non H',rt:=Q } (xde N vs) H):FnOk q0 P w K mg base CX0 (k+1) f fd ps sp:=by
  obtain⟨oc,od,kV,doc,pm,an,cdv,ct,osl,rfl,lk,hcd⟩:=F.ex
  refine xl6 lk hcd S len fun A outer s H vs Q E hr hsp=>?_
  obtain⟨t,h,q⟩:=hbody cdv A outer s H vs Q E hr hsp
  exact⟨t,h.nox,q⟩
theorem Fun.binds {x qual:Str}{st:Stmt}{f:Addr}{fd:FuncData}{ps:List Str} (F:Fun K x qual st f fd)
    (h:∀(kV doc pm:Value) (an:Option Addr) (cdv ct:Value) (us:List Value),us.length=ps.length->bindArgs (PySem.W.fnOf x qual (xv st) (xu st) (xh st) .none kV doc pm an cdv ct) ⟨us,[]⟩=pure (ps.zip us)):x4 K fd ps []:=by
  obtain⟨oc,od,kV,doc,pm,an,cdv,ct,osl,rfl,lk,hcd⟩:=F.ex
  exact .all (h kV doc pm an cdv ct)
theorem xr {x qual:Str}{st:Stmt}{f:Addr}{oc:Value}{od an:Option Addr}{osl:Array (Option Value)}{kV doc pm cdv ct:Value} (l:K.lookup f=some ⟨oc,od,.func (PySem.W.fnOf x qual (xv st) (xu st) (xh st) .none kV doc pm an cdv ct),osl⟩)
    (c:PySem.W.codeIn K cdv qual=true) (k:PySem.W.keepIn K (.ref f)=true):Fun K x qual st f (PySem.W.fnOf x qual (xv st) (xu st) (xh st) .none kV doc pm an cdv ct):=⟨⟨oc,od,kV,doc,pm,an,cdv,ct,osl,rfl,l,c⟩,k⟩
end
theorem xbc {A:Around}{k:Nat} (hr:Room q0 k A):A.units+1<cLine:=Nat.lt_of_le_of_lt (Nat.add_le_add_left (by decide:1<=64) _) hr.units
section
variable {X:Cx}
theorem pv (i:Nat) {x:Str}{pos:Pos} (hN:X.N[i]?=some x:=by rfl) (hv:Vis X.env.scope x:=by first|exact Or.inl rfl|exact Or.inr (Or.inl rfl)|exact Or.inr (Or.inr rfl)) (hd:(x == ("__debug__":Str))=false:=by decide)
    (hcd:(x == ("__classdict__":Str))=false:=by decide):PE X (.Name x pos) (tVar i):=xso hN hv hd hcd
end
theorem iteF {A B:Prop} (h:B):if false=true then A else B:=by
 rw[if_neg Bool.false_ne_true]
 exact h
theorem iteT {A B:Prop} (h:A):if true=true then A else B:=by
 rw[if_pos rfl]
 exact h
theorem ite2 {c A B:Prop} [Decidable c] (h1:c->A) (h2:¬ c->B):if c then A else B:=by
 by_cases h:c
 .rw [if_pos h]
  exact h1 h
 .rw [if_neg h]
  exact h2 h
def Same (H H':Hp):Prop:=∀ b o,H b=some o->H' b=some o
theorem Same.refl (H:Hp):Same H H:=fun _ _ h=>h
theorem Same.trans {H H1 H2:Hp} (a:Same H H1) (b:Same H1 H2):Same H H2:=fun c o h=>b c o (a c o h)
theorem Same.free {H H':Hp} (e:Same H H') {l:Addr} (h:H' l=Option.none):H l=Option.none:=by
 cases q:H l with
 | none=>rfl
 | some o =>
  rw[e l o q] at h
  cases h
theorem Same.seq {K:PySem.W.Frag}{H H':Hp}{a:Addr}{xs:List V} (e:Same H H') (h:SqL K H a xs):SqL K H' a xs:=by
 rcases h with (h|⟨o,h⟩)|h
 .exact .inl (.inl (e _ _ h))
 .exact .inl (.inr ⟨o,e _ _ h⟩)
 .exact .inr h
end L2
namespace Srt
open PySem PySem.W PyProof.Rows
abbrev CM:=Nat->Nat->(Bool->Shared->Prop)->Shared->Prop
abbrev g (p:Array Nat) (i:Nat):Nat:=p.getD i 0
structure Ord (n:Nat) (lt:Nat->Nat->Bool):Prop where
 irr:∀ i,i<n->lt i i=false
 tr:∀ i j k,i<n->j<n->k<n->lt i j=true->lt j k=true->lt i k=true
 tot:∀ i j,i<n->j<n->i≠j->lt i j=false->lt j i=true
def Cmp (n:Nat) (lt:Nat->Nat->Bool) (cmp:CM) (s:Shared):Prop:=∀ i j,i<n->j<n->∀ Q:Bool->Shared->Prop,Q (lt i j) s->cmp i j Q s
theorem xci {α:Type}{cmp:CM}{a:α}{Q:α->Shared->Prop}{s:Shared} (h:Q a s):KasT.kasWp cmp (.ret a) Q s:=h
theorem xfl {α:Type}{cmp:CM}{i j:Nat}{k:Bool->KasT α}{Q:α->Shared->Prop}{s:Shared} (h:cmp i j (fun c s'=>KasT.kasWp cmp (k c) Q s') s):KasT.kasWp cmp (.ask i j k) Q s:=h
theorem xua {p:Array Nat}{n:Nat}:kas_asc p 0 n=.ret n:=by unfold kas_asc; rfl
theorem xt9 {p:Array Nat}{f n:Nat}:kas_asc p (f+1) n=.ask (p.getD n 0) (p.getD (n-1) 0) fun c=>if c=true then .ret n else kas_asc p f (n+1):=by rw[kas_asc]
theorem xt0 {p:Array Nat}{k:Nat}:kas_bin 0 p k=.ret p:=by unfold kas_bin; rfl
theorem xte {f:Nat}{p:Array Nat}{k:Nat}:kas_bin (f+1) p k=(kas_place p k k 0 k).bind fun l=>kas_bin f (bubble p k (k-l)) (k+1):=by rw[kas_bin]
theorem xq0 {p:Array Nat}{k l r:Nat}:kas_place p k 0 l r=.ret l:=by unfold kas_place; rfl
theorem xp8 {p:Array Nat}{k f l r:Nat}:kas_place p k (f+1) l r=if l>=r then .ret l else .ask (p.getD k 0) (p.getD ((l+r) / 2) 0) fun c=>if c=true then kas_place p k f l ((l+r) / 2) else kas_place p k f ((l+r) / 2+1) r:=by rw[kas_place]
theorem xsd {p:Array Nat}{k l:Nat}:kas_desc 0 p k l=.ret (p,k,l):=by unfold kas_desc; rfl
theorem xsa {f:Nat}{p:Array Nat}{k l:Nat}:kas_desc (f+1) p k l=.ask (p.getD k 0) (p.getD (k-1) 0) fun c=>if c=true then (if l>0 then kas_desc f (kas_rev p (k-(l+1)) k) (k+1) 0 else kas_desc f p (k+1) 0) else .ask (p.getD (k-1) 0) (p.getD k 0) fun d=>if d=true then .ret (p,k,l) else kas_desc f p (k+1) (l+1):=by rw[kas_desc]
section
variable {n:Nat}{lt:Nat->Nat->Bool}{cmp:CM}{s:Shared}
structure Arr (n:Nat) (p:Array Nat):Prop where
 sz:p.size=n
 lt:∀ i,i<n->g p i<n
 inj:∀ i j,i<n->j<n->g p i=g p j->i=j
 pm:p.Perm (List.range n).toArray
theorem g_at {p:Array Nat}{i:Nat}{v:Nat} (h:p[i]?=some v):g p i=v:=by
 show p.getD i 0=v
 rw[Array.getD_eq_getD_getElem?,h]
 rfl
theorem Arr.at {p:Array Nat} (a:Arr n p) {i:Nat} (h:i<n):p[i]?=some (g p i):=by
 have z:i<p.size:=by rw[a.sz]; exact h
 have e:p[i]?=some p[i]:=Array.getElem?_eq_getElem z
 rw[e,g_at e]
def Srtd (lt:Nat->Nat->Bool) (p:Array Nat) (m:Nat):Prop:=∀ i j,i<j->j<m->lt (g p i) (g p j)=true
theorem xky (o:Ord n lt) {p:Array Nat} (a:Arr n p) {m:Nat} (hm:m<=n) (h:∀ i,1<=i->i<m->lt (g p (i-1)) (g p i)=true):Srtd lt p m:=by
 intro i j hij hj
 obtain⟨d,rfl⟩:∃ d,j=i+1+d:=⟨j-(i+1),by omega⟩
 induction d with
 | zero=>exact h (i+1) (by omega) hj
 | succ d ih =>
  have h1:=ih (by omega) (by omega)
  have h2:=h (i+1+(d+1)) (by omega) hj
  exact o.tr _ _ _ (a.lt _ (by omega)) (a.lt _ (by omega)) (a.lt _ (by omega)) h1 h2
theorem xjc (c:Cmp n lt cmp s) {p:Array Nat} (a:Arr n p) {G:Nat->Shared->Prop}:∀(f k:Nat),1<=k->k+f<=n ->
    (∀ m,k<=m->m<=k+f->(∀ i,k<=i->i<m->lt (g p i) (g p (i-1))=false)->(m<k+f->lt (g p m) (g p (m-1))=true)->G m s)->KasT.kasWp cmp (kas_asc p f k) G s
  | 0,k,h1,hf,hG=>by
    rw[xua]
    exact xci (hG k (Nat.le_refl _) (by omega) (fun i h h'=>by omega) (fun h=>by omega))
  | f+1,k,h1,hf,hG=>by
    rw[xt9]
    refine xfl (c _ _ (a.lt k (by omega)) (a.lt (k-1) (by omega)) _ ?_)
    cases e:lt (g p k) (g p (k-1)) with
    | true =>
      exact xci (hG k (Nat.le_refl _) (by omega) (fun i h h'=>by omega) (fun _=>e))
    | false =>
      show KasT.kasWp cmp (kas_asc p f (k+1)) G s
      refine xjc c a f (k+1) (by omega) (by omega) fun m hm hm2 h3 h4=>hG m (by omega) (by omega) (fun i hi hi2=>?_) (fun h=>h4 (by omega))
      by_cases z:i=k
      . rw[z]; exact e
      . exact h3 i (by omega) hi2
theorem xld (o:Ord n lt) (c:Cmp n lt cmp s) {p:Array Nat} (a:Arr n p) {G:Array Nat × Nat × Nat->Shared->Prop}:∀(f k:Nat),1<=k->k+f<=n ->
    (∀ m,k<=m->m<=k+f->(∀ i,k<=i->i<m->lt (g p i) (g p (i-1))=true)->G (p,m,0) s)->KasT.kasWp cmp (kas_desc f p k 0) G s
  | 0,k,h1,hf,hG=>by
    rw[xsd]
    exact xci (hG k (Nat.le_refl _) (by omega) (fun i h h'=>by omega))
  | f+1,k,h1,hf,hG=>by
    rw[xsa]
    refine xfl (c _ _ (a.lt k (by omega)) (a.lt (k-1) (by omega)) _ ?_)
    cases e:lt (g p k) (g p (k-1)) with
    | true =>
      show KasT.kasWp cmp (kas_desc f p (k+1) 0) G s
      refine xld o c a f (k+1) (by omega) (by omega) fun m hm hm2 h3=>hG m (by omega) (by omega) fun i hi hi2=>?_
      by_cases z:i=k
      . rw[z]; exact e
      . exact h3 i (by omega) hi2
    | false =>
      refine xfl (c _ _ (a.lt (k-1) (by omega)) (a.lt k (by omega)) _ ?_)
      have ne:g p k≠g p (k-1):=fun z=>by have:=a.inj _ _ (by omega) (by omega) z; omega
      rw[show lt (p.getD (k-1) 0) (p.getD k 0)=true from o.tot _ _ (a.lt k (by omega)) (a.lt (k-1) (by omega)) ne e]
      exact xci (hG k (Nat.le_refl _) (by omega) (fun i h h'=>by omega))
theorem Arr.rev {p:Array Nat} (a:Arr n p) {k:Nat} (hk:k<=n):Arr n (kas_rev p 0 k)/\∀ i,i<n->g (kas_rev p 0 k) i=if i<k then g p (k-1-i) else g p i:=by
 have ge:∀ i,i<n->g (kas_rev p 0 k) i=if i<k then g p (k-1-i) else g p i:=fun i hi=>by
  have z:=getElem?_mirror_all (xs:=p) (i:=0) (j:=k) (by rw[a.sz]; exact hk) i
  by_cases c:i<k
  .rw [if_pos c]
   rw[if_pos ⟨Nat.zero_le _,c⟩,show 0+k-1-i=k-1-i by omega,a.at (show k-1-i<n by omega)] at z
   exact g_at z
  .rw [if_neg c]
   rw[if_neg (fun w=>c w.2),a.at hi] at z
   exact g_at z
 refine⟨⟨by rw[kas_rev_size,a.sz],fun i hi=>?_,fun i j hi hj e=>?_,(mirror_perm _ _ _ _).trans a.pm⟩,ge⟩
 .rw [ge i hi]
  split<;>exact a.lt _ (by omega)
 .rw [ge i hi,ge j hj] at e
  split at e<;>split at e<;>have:=a.inj _ _ (by omega) (by omega) e<;>omega
theorem xpb (o:Ord n lt) (c:Cmp n lt cmp s) {p:Array Nat} (a:Arr n p) (h2:2<=n) {G:Nat × Array Nat->Shared->Prop}
    (hG:∀ m p',1<=m->m<=n->Arr n p'->Srtd lt p' m->G (m,p') s):KasT.kasWp cmp (kas_count n p) G s:=by
  unfold kas_count
  rw[KasT.kasWp_bind]
  have up:∀ q,Arr n q->∀ i,1<=i->i<n->lt (g q i) (g q (i-1))=false->lt (g q (i-1)) (g q i)=true:=fun q b i h1 hi e =>
    o.tot _ _ (b.lt i hi) (b.lt (i-1) (by omega)) (fun z=>by have:=b.inj _ _ hi (by omega) z; omega) e
  refine xjc c a (n-1) 1 (Nat.le_refl _) (by omega) fun m hm hm2 h3 h4=>?_
  have sm:Srtd lt p m:=xky o a (by omega) fun i hi hi2=>up p a i hi (by omega) (h3 i hi hi2)
  show KasT.kasWp cmp (if (m == n)=true then _ else _) G s
  by_cases e1:m=n
  . rw[if_pos (by simpa using e1)]
    exact xci (hG m p hm (by omega) a sm)
  . rw[if_neg (by simpa using e1)]
    by_cases e2:m>1
    . rw[if_pos e2]
      refine xfl (c _ _ (a.lt 0 (by omega)) (a.lt (m-1) (by omega)) _ ?_)
      rw[show lt (p.getD 0 0) (p.getD (m-1) 0)=true from sm 0 (m-1) (by omega) (by omega)]
      exact xci (hG m p hm (by omega) a sm)
    . rw[if_neg e2]
      have m1:m=1:=by omega
      subst m1
      have d1:=h4 (by omega)
      unfold kas_descPart
      rw[KasT.kasWp_bind]
      refine xld o c a (n-(1+1)) (1+1) (by omega) (by omega) fun k hk hk2 h5=>?_
      show KasT.kasWp cmp (if (0:Nat)>0 then _ else kas_tail3 k n p) G s
      rw[if_neg (Nat.lt_irrefl 0)]
      unfold kas_tail3
      rw[KasT.kasWp_bind]
      obtain⟨b,ge⟩:=a.rev (k:=k) (by omega)
      refine xjc c b (n-k) k (by omega) (by omega) fun m' hm' hm2' h6 _=>?_
      refine xci (hG m' _ (by omega) (by omega) b (xky o b (by omega) fun i hi hi2=>?_))
      by_cases ik:i<k
      . rw[ge i (by omega),ge (i-1) (by omega),if_pos ik,if_pos (by omega)]
        have e3:k-1-(i-1)-1=k-1-i:=by omega
        by_cases z:k-1-(i-1)=1
        . have z':k-1-i=0:=by omega
          rw[z,z']
          exact d1
        . have:=h5 (k-1-(i-1)) (by omega) (by omega)
          rw[e3] at this
          exact this
      . exact up _ b i hi (by omega) (h6 i (by omega) hi2)
theorem xgn (o:Ord n lt) (c:Cmp n lt cmp s) {p:Array Nat} (a:Arr n p) {k:Nat} (hk:k<n) (sk:Srtd lt p k) {G:Nat->Shared->Prop}:∀(f l r:Nat),l<=r->r<=k->r-l<=f ->
    (∀ j,j<l->lt (g p k) (g p j)=false)->(∀ j,r<=j->j<k->lt (g p k) (g p j)=true) ->
    (∀ m,m<=k->(∀ j,j<m->lt (g p k) (g p j)=false)->(∀ j,m<=j->j<k->lt (g p k) (g p j)=true)->G m s)->KasT.kasWp cmp (kas_place p k f l r) G s
  | 0,l,r,h1,h2,h3,lo,hi,hG=>by
    rw[xq0]
    exact xci (hG l (by omega) lo fun j hj hj2=>hi j (by omega) hj2)
  | f+1,l,r,h1,h2,h3,lo,hi,hG=>by
    rw[xp8]
    by_cases e:l>=r
    . rw[if_pos e]
      exact xci (hG l (by omega) lo fun j hj hj2=>hi j (by omega) hj2)
    . rw[if_neg e]
      have m1:(l+r) / 2<r:=by omega
      have m2:l<=(l+r) / 2:=by omega
      refine xfl (c _ _ (a.lt k hk) (a.lt _ (by omega)) _ ?_)
      cases e2:lt (g p k) (g p ((l+r) / 2)) with
      | true =>
        show KasT.kasWp cmp (kas_place p k f l ((l+r) / 2)) G s
        refine xgn o c a hk sk f l _ m2 (by omega) (by omega) lo (fun j hj hj2=>?_) hG
        by_cases z:j=(l+r) / 2
        . rw[z]; exact e2
        . exact o.tr _ _ _ (a.lt k hk) (a.lt _ (by omega)) (a.lt _ (by omega)) e2 (sk _ _ (by omega) hj2)
      | false =>
        show KasT.kasWp cmp (kas_place p k f ((l+r) / 2+1) r) G s
        refine xgn o c a hk sk f _ r (by omega) h2 (by omega) (fun j hj=>?_) hi hG
        by_cases z:j=(l+r) / 2
        . rw[z]; exact e2
        . cases e3:lt (g p k) (g p j) with
          | false=>rfl
          | true =>
            have:=o.tr _ _ _ (a.lt k hk) (a.lt _ (by omega)) (a.lt _ (by omega)) e3 (sk j ((l+r) / 2) (by omega) (by omega))
            rw[e2] at this
            cases this
theorem Arr.bub {p:Array Nat} (a:Arr n p) {k m:Nat} (hk:k<n) (hm:m<=k):Arr n (bubble p k (k-m))/\∀ i,i<n->g (bubble p k (k-m)) i=if i=m then g p k else if m<i/\i<=k then g p (i-1) else g p i:=by
 have ge:∀ i,i<n->g (bubble p k (k-m)) i=if i=m then g p k else if m<i/\i<=k then g p (i-1) else g p i:=fun i hi=>by
  have z:=getElem?_bubble (xs:=p) (src:=k) (by rw[a.sz]; exact hk) (k-m) (by omega) i
  rw[show k-(k-m)=m by omega] at z
  by_cases c:i=m
  .rw [if_pos c]
   rw[if_pos c,a.at hk] at z
   exact g_at z
  .rw [if_neg c]
   rw[if_neg c] at z
   by_cases d:m<i/\i<=k
   .rw [if_pos d]
    rw[if_pos d,a.at (show i-1<n by omega)] at z
    exact g_at z
   .rw [if_neg d]
    rw[if_neg d,a.at hi] at z
    exact g_at z
 refine⟨⟨by rw[bubble_size,a.sz],fun i hi=>?_,fun i j hi hj e=>?_,(bubble_perm _ _ _).trans a.pm⟩,ge⟩
 .rw [ge i hi]
  split
  .exact a.lt _ hk
  .split<;>exact a.lt _ (by omega)
 .rw [ge i hi,ge j hj] at e
  split at e<;>(try split at e)<;>(try split at e)<;>(try split at e)<;>first|omega|(have:=a.inj _ _ (by omega) (by omega) e; omega)
theorem xnm (o:Ord n lt) (c:Cmp n lt cmp s) {G:Array Nat->Shared->Prop}:∀(f k:Nat) (p:Array Nat),k+f=n->Arr n p->Srtd lt p k->(∀ p',Arr n p'->Srtd lt p' n->G p' s)->KasT.kasWp cmp (kas_bin f p k) G s
 | 0,k,p,h,a,sk,hG=>by
  rw[xt0]
  have:k=n:=by omega
  subst this
  exact xci (hG p a sk)
 | f+1,k,p,h,a,sk,hG=>by
  have hk:k<n:=by omega
  rw[xte,KasT.kasWp_bind]
  refine xgn o c a hk sk k 0 k (Nat.zero_le _) (Nat.le_refl _) (by omega) (fun j hj=>by omega) (fun j hj hj2=>by omega) fun m hm lo hi=>?_
  obtain⟨b,ge⟩:=a.bub hk hm
  refine xnm o c f (k+1) _ (by omega) b (fun i j hij hj=>?_) hG
  have inS:∀ i,i<m->lt (g p i) (g p k)=true:=fun i hi'=>o.tot _ _ (a.lt k hk) (a.lt i (by omega)) (fun z=>by have:=a.inj _ _ hk (by omega) z; omega) (lo i hi')
  have g1:∀ i,i<n->i=m->g (bubble p k (k-m)) i=g p k:=fun i hi z=>by rw[ge i hi,if_pos z]
  have g2:∀ i,i<n->m<i->i<=k->g (bubble p k (k-m)) i=g p (i-1):=fun i hi z z2=>by rw[ge i hi,if_neg (by omega),if_pos ⟨z,z2⟩]
  have g3:∀ i,i<n->i<m->g (bubble p k (k-m)) i=g p i:=fun i hi z=>by rw[ge i hi,if_neg (by omega),if_neg (by omega)]
  by_cases j1:j=m
  .rw [g1 j (by omega) j1,g3 i (by omega) (by omega)]
   exact inS i (by omega)
  .by_cases i1:i=m
   .rw [g1 i (by omega) i1,g2 j (by omega) (by omega) (by omega)]
    exact hi (j-1) (by omega) (by omega)
   .by_cases j2:m<j
    .rw [g2 j (by omega) j2 (by omega)]
     by_cases i2:m<i
     .rw [g2 i (by omega) i2 (by omega)]
      exact sk _ _ (by omega) (by omega)
     .rw [g3 i (by omega) (by omega)]
      by_cases z:i=j-1
      .omega
      .exact sk _ _ (by omega) (by omega)
    .rw [g3 j (by omega) (by omega),g3 i (by omega) (by omega)]
     exact sk _ _ hij (by omega)
theorem xn3:Arr n (List.range n).toArray:=by
 have e:∀ i,i<n->g (List.range n).toArray i=i:=fun i hi=>g_at (by rw[List.getElem?_toArray,List.getElem?_range hi])
 exact⟨by simp,fun i hi=>by rw[e i hi]; exact hi,fun i j hi hj z=>by rw[e i hi,e j hj] at z; exact z,Array.Perm.refl _⟩
theorem sort_wp (o:Ord n lt) (c:Cmp n lt cmp s) (h2:2<=n) {G:Array Nat->Shared->Prop} (hG:∀ p,Arr n p->Srtd lt p n->G p s):KasT.kasWp cmp (kas_sort n) G s:=by
 unfold kas_sort
 rw[KasT.kasWp_bind]
 refine xpb o c xn3 h2 fun m p hm hm2 a sm=>?_
 show KasT.kasWp cmp (if m<n then _ else _) G s
 by_cases e:m<n
 .rw [if_pos e]
  show KasT.kasWp cmp (kas_bin (n-max m 1) p (max m 1)) G s
  rw[Nat.max_eq_left hm]
  exact xnm o c (n-m) m p (by omega) a sm hG
 .rw [if_neg e]
  have:m=n:=by omega
  subst this
  exact xci (hG p a sm)
end
end Srt
namespace XL
open PySem
def Xat (h:Heap) (e:Addr) (cls:Value) (od tb:Option Addr):Prop :=
 ∃ oe vs,h.get? e=some oe/\oe.cls=cls/\oe.dict=od/\oe.data=.fields vs/\1<vs.size /\
  ((tb=none/\vs[1]?=some Value.none)\/∃ T oT ts,tb=some T/\vs[1]?=some (.ref T)/\T≠e/\h.get? T=some oT/\oT.data=.fields ts/\ts[3]?=some Value.none)
end XL
namespace XL
open PySem PySem.W PySem.Calls PyProof.Rows Builtin Builtin.ObjectAttr
def vErr:List Value:=[.type "ValueError",.type "Exception",.type "BaseException",.type "object"]
def xf8:List Value->Bool
 | []=>false
 | .ref c::r=>xf8 r||((.ref c::r:List Value) == vErr)
 | v::r=>(v::r) == vErr
def xrj (K:Frag) (C:Addr):Bool:=(clsIn K C).any fun cd=>xf8 cd.mro
theorem xgm:∀{l:List Value},xf8 l=true->l.contains (.type "object")=true/\l.contains (.type "BaseException")=true/\l.isEmpty=false
 | [],e=>by cases e
 | v::r,e=>by
  have last:((v::r:List Value) == vErr)=true->(v::r).contains (.type "object")=true/\(v::r).contains (.type "BaseException")=true/\(v::r).isEmpty=false:=fun z=>by
   rw[eq_of_beq z]
   exact⟨by decide +kernel,by decide +kernel,rfl⟩
  cases v with
  | ref c =>
   rcases Bool.or_eq_true_iff.mp e with z|z
   .obtain ⟨a,b,_⟩:=xgm z
    exact⟨by rw[List.contains_cons,a,Bool.or_true],by rw[List.contains_cons,b,Bool.or_true],rfl⟩
   .exact last z
  | _=>exact last e
structure XC (K:Frag) (C:Addr):Prop where
 over:xrj K C=true
 hd:hasDictIn K C=true
 sa:findIn K (.ref C) "__setattr__"=some (some (.builtin "object.__setattr__"))
 ga:findIn K (.ref C) "__getattribute__"=some (some (.builtin "BaseException.__getattribute__"))
 gh:findIn K (.ref C) "__getattr__"=some none
 ca:findIn K (.ref C) "__class__"=some (some (.builtin "object.__class__"))
 cg:specialIn K (.builtin "object.__class__") "__get__"=some (some (.builtin "getset_descriptor.__get__"))
 ct:takesIn K (.builtin "object.__class__")=some true
section
variable {prog:Program}{w:World}{A:Around}{E:Value->Shared->Prop}{s:Shared}{K:Frag}{x C dx:Addr}{ox:Obj}{od:Option Obj}{name:Str}{v:Value}{R:Result->Shared->Prop}
theorem XC.mro (c:XC K C):∃ cd,clsIn K C=some cd/\xf8 cd.mro=true/\cd.hasDict=true:=by
 obtain⟨cd,h1,h2⟩:=any_some c.over
 obtain⟨cd',h3,h4⟩:=any_some c.hd
 rw[h1] at h3
 cases h3
 exact⟨cd,h1,h2,h4⟩
theorem XC.isObj (c:XC K C):mroIn K C (.type "object")=some true:=by
 obtain⟨cd,h1,h2,_⟩:=c.mro
 obtain⟨a,_,b⟩:=xgm h2
 unfold mroIn
 rw[h1,Option.bind_some,if_neg (by rw[b]; decide),a]
theorem XC.isExc (c:XC K C):mroIn K C (.type "BaseException")=some true:=by
 obtain⟨cd,h1,h2,_⟩:=c.mro
 obtain⟨_,a,b⟩:=xgm h2
 unfold mroIn
 rw[h1,Option.bind_some,if_neg (by rw[b]; decide),a]
theorem xql (v:Value):bindSpecial (.builtin "BaseException.__getattribute__") v=pure (.builtin "BaseException.__getattribute__",[v]):=by
 have f:=PySem.F.attr_ValueError.ga.bind v
 exact f
theorem xpl:plainId "BaseException.__getattribute__"=true:=PySem.F.attr_ValueError.ga.plain
theorem xsh {Q:Value->Shared->Prop}{expr fill:Bool}{tk:Tok} (X:K.In s.heap) (c:XC K C) (I:InstAt s.heap x ox C od)
    (h:wpAny (model prog w) A.in1 (Builtin.«object.__getattribute__» ⟨[.ref x,.str name tk],[]⟩)
      (fun fin s'=>match fin with|.done (.ret v)=>wpAny (model prog w) A (handedOut v) Q E s'|_=>False) (fun _ _=>False) s) :
    wpAny (model prog w) A (getAttrBy (.ref x) (.str name tk) fill expr) Q E s:=by
  obtain⟨hh,g,d,t,os⟩:=s
  have L0:=I.type (M:=model prog w)
  have L1:=looks_findIn (M:=model prog w) X c.ga
  have L2:=looks_findIn (M:=model prog w) X c.gh
  have sub:Looks (model prog w) hh (isInstance (.ref x) (.type "BaseException")) true:=I.type.andThen (looks_mroIn X c.isExc)
  have f2:(onTheHeap (Value.ref C)&&Value.builtin "BaseException.__getattribute__" == Value.builtin "object.__getattribute__")=false:=by
    rw[show (Value.builtin "BaseException.__getattribute__" == Value.builtin "object.__getattribute__")=false from by decide +kernel]; rfl
  have f3:(expr&&onTheHeap (Value.builtin "BaseException.__getattribute__"))=false:=by cases expr<;>rfl
  unfold getAttrBy
  refine wpAny_holding (wpAny_bind (L0.at (wpAny_bind (L1.at ?_))))
  dsimp only
  rw[f2]
  simp only[Bool.false_eq_true,if_false]
  unfold getAttrByItsOwn hookBefore
  refine wpAny_bind (L2.at (wpAny_bind (wpAny_attempt (wpAny_holding ?_))))
  unfold callGetattribute
  rw[f3]
  simp only[Bool.false_eq_true,if_false]
  unfold boundAndCalled
  rw[xql]
  refine wpAny_bind (wpAny_pure (wpAny_call (codeAny_call_builtin xpl PySem.F.entry_bexc_ga
    (@check_slot (model prog w) _ _ ⟨hh,g,d,t,os⟩ "BaseException.__getattribute__" "BaseException" "__getattribute__" (.ref x) [.str name tk] [] _ (by decide +kernel) (by decide +kernel) sub (PySem.F.args_bexc_ga _ _) ?_))))
  refine wpAny_mono h (fun fin s' z=>?_) fun e s' z=>z.elim
  rcases fin with (_|_|_|_)|_<;>first|exact z|exact z.elim
theorem xox {Q:Option Value->Shared->Prop} (X:K.In s.heap) (c:XC K C) (I:InstAt s.heap x ox C od) (h:Q (some (.ref C)) { s with toks:=s.toks+1 }) :
    wpAny (model prog w) A (getAttr? (.ref x) "__class__") Q E s:=by
  obtain⟨cd,h1,_,h2⟩:=c.mro
  have hf:findObj K C od "__class__"=some (.bind (.builtin "getset_descriptor.__get__") (.builtin "object.__class__")):=by
    unfold findObj
    rw[h1,Option.bind_some,c.ca,Option.bind_some]
    simp[c.cg,c.ct]
  unfold getAttr? getAttrBy?
  refine wpAny_bind (wpAny_mkText (wpAny_bind (wpAny_attempt ?_)))
  refine xsh (s:={ s with toks:=s.toks+1 }) X c I ?_
  have L0:=I.type (M:=model prog w)
  have L1:=looks_find (M:=model prog w) X I hf
  refine wpAny_bind (wpAny_pure (wpAny_bind (wpAny_pure (wpAny_bind (L0.here (s:={ s with toks:=s.toks+1 }) (wpAny_bind (L1.here (s:={ s with toks:=s.toks+1 }) ?_)))))))
  show wpAny _ _ (holding [_] (call _ [_,.ref x,.ref C])>>=ret) _ _ _
  refine wpAny_bind (wpAny_holding (wpAny_call (class_get (s:={ s with toks:=s.toks+1 }) (ox:=ox) (od:=od) X I c.isObj ?_)))
  refine wpAny_pure ?_
  show wpAny _ _ (handedOut (.ref C)) _ _ _
  exact wpAny_pure (wpAny_pure h)
end
end XL
namespace XL
open PySem
end XL
namespace L2
open PySem PySem.Spec PyProof.Rows XL
variable {q0:Bool}
def XO (e C:Addr) (od:Option Addr):HO:=.ext fun h=>∃ ox vs,h.get? e=some ox/\ox.cls=.ref C/\ox.dict=od/\ox.data=.fields vs
def XD (dx:Addr) (fs:List (Str × V)):HO:=.ext fun h=>fs.length<=1000/\∃ mA,h.Ns1 dx mA/\(∀ f,RelO (fs.lookup f) (mA f))/\PySem.Within mA (fs.map (·.1))
def CXo (P:Program) (w:World):CXT:=fun outer H s E u s'=>∃ e C od H' T,u=.ref e/\s'.os=s.os/\AllBare s'.gens/\Un (frs outer) [] H H' s.heap s'.heap/\HOk P w H' s'.heap /\
 Xat s'.heap e (.ref C) od (some T)/\H' e=some (XO e C od)/\s.heap.objs.size<=T/\H' T=none/\E e C H'
section
variable {X:Cx}{pins:List (Addr × Obj)}{σ:St}{H:Hp}{s:Shared}{e C:Addr}{od tb:Option Addr}
theorem Inv.size_lt (I:Inv X pins σ H s) {b:Addr} (h:s.heap.objs.size<=b):H b=none/\b≠X.env.locals/\(∀ x c,X.env.cells.lookup x=some c->c≠b)/\∀ p∈X.pn++pins,p.1≠b:=by
 refine⟨I.hok.fresh h,fun z=>?_,fun x c hc z=>?_,fun p hp z=>?_⟩
 .rw [z] at h
  exact absurd I.lt (Nat.not_lt.mpr h)
 .obtain ⟨v,o,ho,_⟩:=I.cell x c hc
  rw[z] at ho
  exact absurd (Heap.lt_size ho) (Nat.not_lt.mpr h)
 .have g:=(I.pin p hp).1
  rw[z] at g
  exact absurd (Heap.lt_size g) (Nat.not_lt.mpr h)
theorem xj:xd9 (CXo X.prog X.w) X (fun _ _ _ _=>False):=fun pins σ H s u s' I h=>by
 obtain⟨e,C,od,H',T,_,_,_,_,_,_,_,_,_,q⟩:=h
 exact q.elim
end
end L2
namespace XL
open PySem PySem.W
end XL
namespace L2
open PySem PySem.Spec PyProof.Rows XL
variable {q0:Bool}
section
variable {X:Cx}{pins:List (Addr × Obj)}{σ:St}{H:Hp}{s:Shared}{a C dx:Addr}{od:Option Addr}{fs:List (Str × V)}{f:Str}{v y:V}{u:Value}{A:Around}{E:Value->Shared->Prop}
theorem xtt (I:Inv X pins σ H s) (e:H a=some (XO a C od)):∃ ox vs,s.heap.get? a=some ox/\ox.cls=.ref C/\ox.dict=od/\ox.data=.fields vs:=(I.hok a _ e).1
theorem xps (I:Inv X pins σ H s) (e:H dx=some (XD dx fs)):fs.length<=1000/\∃ mA,s.heap.Ns1 dx mA/\(∀ f,RelO (fs.lookup f) (mA f))/\PySem.Within mA (fs.map (·.1)):=(I.hok dx _ e).1
theorem xjt {o:Obj}{vs:Array Value} (d:o.data=.fields vs):PySem.W.notCls o=true:=by
 unfold PySem.W.notCls
 rw[d]
end
end L2
namespace XL
open PySem PySem.W
end XL
namespace L2
open PySem PySem.Spec PyProof.Rows XL
variable {q0:Bool}
end L2
namespace XL
open PySem PySem.W
theorem xng {K:Frag}{x C:Addr} (c:XC K C):KitX K (.ref x) (.ref C) (fun h=>∃ ox od,InstAt h x ox C od) where
 ty:=fun _ _ _ ⟨_,_,I⟩=>I.type
 it:=fun _ _ X _=>by
  obtain⟨cd,hc,_,_⟩:=c.mro
  unfold clsIn at hc
  split at hc
  .rename_i c' d' cd' sl' ho
   intro A' Q' E' s' k q
   unfold isType loadHead
   exact wpAny_bind (wpAny_loadPart (k _ _ (X _ _ ho)) (wpAny_pure q))
  .cases hc
 ne:=fun h tp dd its n sl X htp=>by
  obtain⟨cd,hc,_,_⟩:=c.mro
  refine Bool.eq_false_iff.mpr fun q=>?_
  have e:C=tp:=Value.ref.inj (beq_iff_eq.mp q)
  subst e
  unfold clsIn at hc
  split at hc
  .rename_i c' d' cd' sl' ho
   have z:=(X _ _ ho).symm.trans htp
   cases z
  .cases hc
 ca:=fun X ⟨ox,od,I⟩ k=>xox X c I k
end XL
namespace L2
open PySem PySem.Spec PyProof.Rows XL
variable {q0:Bool}
def clsV:V->Option Value
 | .ty n=>some (.type n)
 | .ref a=>some (.ref a)
 | _=>none
theorem xgi {c:V}{u cv:Value} (e:clsV c=some cv) (r:RelV c u):u=cv:=by
 cases c<;>first|(cases e; exact r)|cases e
def xmk:List V->Option (List Value)
 | []=>some []
 | c::r=>(clsV c).bind fun a=>(xmk r).map (a::·)
theorem xig:∀{cs:List V}{us cv:List Value},xmk cs=some cv->Vals cs us->us=cv
 | [],_,_,e,.nil=>by cases e; rfl
 | c::r,_,_,e,.cons rc rr=>by
  obtain⟨a,e1,e2⟩:=Option.bind_eq_some_iff.mp e
  obtain⟨b,e3,rfl⟩:=Option.map_eq_some_iff.mp e2
  rw[xgi e1 rc,xig e3 rr]
section
variable {X:Cx}{pins:List (Addr × Obj)}{σ:St}{H:Hp}{s:Shared}{A:Around}{E:Value->Shared->Prop}{Q:Value->Shared->Prop}
theorem xko {a C:Addr}{od:Option Addr} (I:Inv X pins σ H s) (h:H a=some (XO a C od)) (hd:∀ d,od=some d->∃ o,s.heap.get? d=some o):∃ ox odx,PySem.W.InstAt s.heap a ox C odx:=by
 obtain⟨ox,vs,g,ce,oo,de⟩:=xtt I h
 cases e:od with
 | none=>exact⟨ox,none,g,ce,xjt de,by rw[oo,e]; trivial⟩
 | some d =>
  obtain⟨o,go⟩:=hd d e
  exact⟨ox,some o,g,ce,xjt de,by rw[oo,e]; exact go⟩
end
def xtk (K:PySem.W.Frag):List V->Hp->VK->Prop:=fun xs H Q=>∃ x c,xs=[x,c]/\((∃ t cv b,TyOf K H x t/\clsV c=some cv/\PySem.W.kitOne K t cv=some b/\Q (.bl b) H) \/
 (∃ a C od cv b,x=.ref a/\H a=some (XO a C od)/\(∀ d,od=some d->∃ fs,H d=some (XD d fs))/\XC K C/\clsV c=some cv/\PySem.W.kitOne K (.ref C) cv=some b/\Q (.bl b) H) \/
 (∃ a C od p cs cv b,x=.ref a/\H a=some (XO a C od)/\(∀ d,od=some d->∃ fs,H d=some (XD d fs))/\XC K C/\c=.ref p/\SqT K H p cs/\xmk cs=some cv/\PySem.W.kitAny K (.ref C) cv=some b/\Q (.bl b) H))
section
variable {X:Cx}
theorem xbo:xbu X (.builtin "isinstance") (xtk X.K):=by
 intro pins s σ H us xs Q I r h
 obtain⟨x,c,rfl,h⟩:=h
 obtain⟨u,v,rfl,ru,rv⟩:=xhn r
 rcases h with⟨t,cv,b,ty,ec,ek,q⟩|⟨a,C,od,cv,b,rfl,ha,hd,xc,ec,ek,q⟩|⟨a,C,od,p,cs,cv,b,rfl,ha,hd,xc,rfl,hp,ec,ek,q⟩
 .obtain rfl:=xgi ec rv
  exact xms I ru ty ek fun tk=>⟨.bl b,H,I.tok tk,rfl,q⟩
 .obtain rfl:=xgi ec rv
  obtain rfl:u=Value.ref a:=ru
  refine PySem.W.kia_one (xng xc) I.kIn (xko I ha fun d e=>?_) ek (fun z=>nomatch z) fun tk=>⟨.bl b,H,I.tok tk,rfl,q⟩
  obtain⟨fs,hw⟩:=hd d e
  obtain⟨_,_,⟨o,_,_,go,_⟩,_⟩:=xps I hw
  exact⟨o,go⟩
 .obtain rfl:u=Value.ref a:=ru
  obtain rfl:v=Value.ref p:=rv
  obtain⟨its,vi,it,_⟩:=I.tuple hp
  obtain rfl:=xig ec vi
  obtain⟨o,g,oc,n,od'⟩:=it
  obtain⟨c1,d1,dt1,sl1⟩:=o
  dsimp only at oc od'
  subst oc od'
  refine PySem.W.kia_tup (xng xc) I.kIn (xko I ha fun d e=>?_) g ek (fun z=>nomatch z) fun tk=>⟨.bl b,H,I.tok tk,rfl,q⟩
  obtain⟨fs,hw⟩:=hd d e
  obtain⟨_,_,⟨o,_,_,go,_⟩,_⟩:=xps I hw
  exact⟨o,go⟩
end
def xc3 (scope:Scope):List Str:=(scope.names.filter fun x=>x.2 == .free).map (·.1)
def Cx.clo (X:Cx) (scope:Scope):List (Str × Addr):=(xc3 scope).reverse.map fun n=>(n,(X.env.cells.lookup n).getD 0)
theorem xg8 {env:Env}{f:Str->Addr}:∀(l:List (Str × NameKind)) (acc:List (Str × Addr)),(∀ x∈l,x.2=.free->env.cells.lookup x.1=some (f x.1)) ->
    (forIn l acc fun x cs=>(if x.2 == .free then do let c <- cellOf env x.1; pure (ForInStep.yield ((x.1,c)::cs)) else pure (ForInStep.yield cs):Sem (ForInStep (List (Str × Addr))))) =
      pure ((((l.filter fun x=>x.2 == .free).map (·.1)).reverse.map fun n=>(n,f n))++acc)
  | [],acc,_=>rfl
  | x::r,acc,h=>by
    have ih:=fun a=>xg8 r a fun y hy=>h y (List.mem_cons_of_mem _ hy)
    rw[List.forIn_cons]
    by_cases q:x.2=.free
    . have e:=h x List.mem_cons_self q
      have qb:(x.2 == NameKind.free)=true:=by rw[q]; rfl
      rw[if_pos qb,List.filter_cons,if_pos qb]
      have ec:cellOf env x.1=pure (f x.1):=by unfold cellOf; rw[e]
      rw[ec]
      simp only[pure_bind]
      rw[ih]
      simp
    . have qb:(x.2 == NameKind.free)=false:=by simpa using q
      rw[if_neg (by rw[qb]; decide),List.filter_cons,if_neg (by rw[qb]; decide)]
      simp only[pure_bind]
      rw[ih]
theorem xmx {X:Cx}{scope:Scope} (h:∀ n∈xc3 scope,∃ c,X.env.cells.lookup n=some c):closureFor scope X.env=pure (X.clo scope):=by
 unfold closureFor
 have z:=xg8 (env:=X.env) (f:=fun n=>(X.env.cells.lookup n).getD 0) scope.names [] fun x hx hf=>by
  obtain⟨c,e⟩:=h x.1 (List.mem_map.mpr ⟨x,List.mem_filter.mpr ⟨hx,by simp[hf]⟩,rfl⟩)
  rw[e]
  rfl
 rw[List.append_nil] at z
 refine (bind_pure (m:=Sem) _).trans ?_
 exact z
theorem xqo {X:Cx}{scope:Scope}{n:Str}{c:Addr} (h:(X.clo scope).lookup n=some c):n∈xc3 scope/\c=(X.env.cells.lookup n).getD 0:=by
 have z:=PySem.mem_of_lookup h
 unfold Cx.clo at z
 obtain⟨y,hy,e⟩:=List.mem_map.mp z
 injection e with e1 e2
 subst e1
 exact⟨List.mem_reverse.mp hy,e2.symm⟩
theorem xeb {f:Str->Addr}{n:Str}:∀{l:List Str},n∈l->(l.map fun y=>(y,f y)).lookup n=some (f n)
 | [],h=>by simp at h
 | y::r,h=>by
  rw[List.map_cons,List.lookup_cons]
  by_cases q:n=y
  .subst q
   simp
  .rw [show (n == y)=false from by simpa using q]
   exact xeb ((List.mem_cons.mp h).resolve_left q)
theorem xlp {X:Cx}{scope:Scope}{n:Str}{c:Addr} (hn:n∈xc3 scope) (h:X.env.cells.lookup n=some c):(X.clo scope).lookup n=some c:=by
 have z:=xeb (f:=fun n=>(X.env.cells.lookup n).getD 0) (List.mem_reverse.mpr hn)
 unfold Cx.clo
 rw[z,h]
 rfl
def xdf:TT:=fun _ H Q=>Q true H
def PIf (X:Cx) (ifs:List Expr) (t:TT):Prop :=
 ∀(pins:List (Addr × Obj)) (s:Shared) (σ:St) (H:Hp) (Q:Bool->Hp->Prop),Inv X pins σ H s->t σ H Q ->
  wpAny (model X.prog X.w) X.A (forIn ifs true fun c r=>if r=true then do let ok <- isTrue c X.env (eval c X.env); pure (ForInStep.yield ok) else pure (ForInStep.yield r)) (TP X pins σ Q) X.xe s
theorem xbi {X:Cx}:PIf X [] xdf:=fun pins s σ H Q I h=>wpAny_pure ⟨H,I,h⟩
theorem xer {X:Cx}{c:Expr}{t:TT} (hc:PT X c t):PIf X [c] t:=fun pins s σ H Q I h=>by
 rw[List.forIn_cons]
 refine wpAny_bind ?_
 rw[if_pos rfl]
 refine wpAny_bind (wpAny_mono (hc pins s σ H Q I h) (fun b s1 q=>wpAny_pure ?_) fun _ _ z=>z)
 exact wpAny_pure q
theorem xm3 {env:Env}{scope:Scope} (nc:∀ y∈scope.names,y.2≠.cell) (n:Str) (h:(relabel scope env).names.lookup n=some .cell\/(relabel scope env).names.lookup n=some .free):n∈xc3 scope:=by
 have key:∀ k,(relabel scope env).names.lookup n=some k->(k=.cell\/k=.free)->n∈xc3 scope:=fun k e hk=>by
  obtain⟨y,hy,ey⟩:=List.mem_map.mp (PySem.mem_of_lookup e)
  obtain⟨m,j⟩:=y
  dsimp only at ey
  split at ey
  .rename_i q
   injection ey with e1 e2
   subst e1
   have:j=.free:=by
    simp only[Bool.and_eq_true,beq_iff_eq] at q
    exact q.1.1
   subst this
   exact List.mem_map.mpr ⟨_,List.mem_filter.mpr ⟨hy,by simp⟩,rfl⟩
  .injection ey with e1 e2
   subst e1 e2
   rcases hk with z|z
   .exact absurd z (nc _ hy)
   .subst z
    exact List.mem_map.mpr ⟨_,List.mem_filter.mpr ⟨hy,by simp⟩,rfl⟩
 rcases h with h|h
 .exact key _ h (.inl rfl)
 .exact key _ h (.inr rfl)
theorem xl1 {env:Env}{scope:Scope}{n:Str} (h:scope.names.lookup n=some .free):(relabel scope env).names.lookup n=some .cell\/(relabel scope env).names.lookup n=some .free:=by
  have key:∀(l:List (Str × NameKind)),l.lookup n=some .free->(l.map fun (m,k)=>if (k == NameKind.free&&env.scope.kind == .function&&env.kindOf m == some .cell) then (m,NameKind.cell) else (m,k)).lookup n=some .cell \/
      (l.map fun (m,k)=>if (k == NameKind.free&&env.scope.kind == .function&&env.kindOf m == some .cell) then (m,NameKind.cell) else (m,k)).lookup n=some .free:=fun l=>by
    induction l with
    | nil=>intro e; simp at e
    | cons y r ih =>
      intro e
      obtain⟨m,k⟩:=y
      rw[List.map_cons]
      rw[List.lookup_cons] at e
      cases q:n == m with
      | true =>
        rw[q] at e
        cases e
        dsimp only
        split
        . left; rw[List.lookup_cons,q]
        . right; rw[List.lookup_cons,q]
      | false =>
        rw[q] at e
        have z:=ih e
        dsimp only
        split<;>(rw[List.lookup_cons,q]; exact z)
  exact key _ h
section
variable {P:Program}{w:World}{K:PySem.W.Frag}{mg:Str->Option Value}{base:Heap}
theorem Fun.okn {x qual:Str}{st:Stmt}{f:Addr}{fd:FuncData}{N ps:List Str}{k:Nat}{sp:Sp} (F:Fun K x qual st f fd) (S:xw N ps (xh st)) (len:∀ vs H Q E,sp vs H Q E->vs.length=ps.length)
    (hbody:∀(cdv:Value) (A:Around) (outer:List Env) (s:Shared) (H:Hp) (vs:List V) (Q:VK) (E:XK),Room q0 k (A.deeper (envOfC qual (xh st) s.heap.objs.size f cdv))->sp vs H Q E ->
      ∃ t,PSs (cxOf q0 (CXo P w) P w K mg base N qual (xh st) f cdv A outer s H E).nox (xu st) t/\t { nx:=fun _ H'=>Q .non H',rt:=Q } (xde N vs) H):FnOk q0 P w K mg base (CXo P w) (k+1) f fd ps sp:=by
  obtain⟨oc,od,kV,doc,pm,an,cdv,ct,osl,rfl,lk,hcd⟩:=F.ex
  refine xl6 lk hcd S len fun A outer s H vs Q E hr hsp=>?_
  obtain⟨t,h,q⟩:=hbody cdv A outer s H vs Q E hr hsp
  exact⟨t,h.nox,q⟩
end
end L2
namespace L2
open PySem PySem.Spec PyProof.Rows XL
theorem ifP {b:Bool}{A B:Prop} (h:b=true) (q:A):if b=true then A else B:=by
 rw[if_pos h]
 exact q
theorem ifN {b:Bool}{A B:Prop} (h:b=false) (q:B):if b=true then A else B:=by
 rw[if_neg (by rw[h]; decide)]
 exact q
def sgn (c:Nat):V:=.str ⟨#[c]⟩
theorem xll {h h':Heap}{it:Addr}{ty:String}{x:Str}{t:Tok}{i:Nat} (y:h.IsStrIter it ty x t i) (k:∀ o,h.get? it=some o->h'.get? it=some o):h'.IsStrIter it ty x t i:=by
 obtain⟨o,ho,r⟩:=y
 exact⟨o,k o ho,r⟩
section
variable {X:Cx}
theorem xea:OpR X (compareOp .LtE) (fun x y H Q=>∃ i j,x=.str i/\y=.str j/\Q (.bl (!decide (j.cps.toList<i.cps.toList))) H):=by
 intro pins s σ H x y v u Q I rx ry h
 obtain⟨i,j,rfl,rfl,q⟩:=h
 obtain⟨t,rfl⟩:=rx
 obtain⟨t',rfl⟩:=ry
 exact PySem.P.le_str (xaq I q rfl)
theorem xgc:xbu X (.type "range") (fun xs H Q=>∃ i j,xs=[.int i,.int j]/\∀ p,H p=none->Q (.ref p) (upd H p (.rng i j))):=by
 intro pins s σ H xs us Q I r h
 obtain⟨i,j,rfl,q⟩:=h
 obtain⟨u,w',rfl,⟨t,rfl⟩,⟨t',rfl⟩⟩:=xhn r
 refine call_range_2 ⟨.ref s.heap.objs.size,_,I.laid (t':=s.toks+1) (fun b o e=>Heap.get?_push_of_some _ e) (Nat.le_refl _) (show xav X.prog X.w _ _ _ (.rng i j) from ⟨_,_,_,Heap.get?_push_size _ rfl⟩),rfl,q _ (I.hok.fresh (Nat.le_refl _))⟩
end
end L2
namespace L2
open PySem PySem.Spec PyProof.Rows
variable {q0:Bool}
section
variable {X:Cx}
theorem xf5:∀{us:List Value}{ys:List V},us.length=ys.length->(∀(j:Nat) (y:V) (u:Value),ys[j]?=some y->us[j]?=some u->RelV y u)->Vals ys us
 | [],[],_,_=>.nil
 | u::us,y::ys,hl,h=>.cons (h 0 y u rfl rfl) (xf5 (Nat.succ.inj hl) fun j y' u' e e'=>h (j+1) y' u' e e')
def rngL (lo hi:Int):List V:=(List.range (hi-lo).toNat).map fun (i:Nat)=>V.int (lo+(i:Int))
theorem xe9 (hc:X.calm=true):xbu X (.type "list") (fun xs H Q=>∃ p lo hi,xs=[.ref p]/\H p=some (.rng lo hi)/\(-(2 ^ 62)<=lo/\lo<2 ^ 62/\-(2 ^ 62)<=hi/\hi<2 ^ 62)/\(hi-lo).toNat<=1000 /\
    ∀ l,H l=none->Q (.ref l) (upd H l (.lst (rngL lo hi)))):=by
  intro pins s σ H xs us Q I r h
  obtain⟨p,lo,hi,rfl,hp,⟨h1,h2,h3,h4⟩,hn,q⟩:=h
  obtain⟨u,rfl,rx⟩:=xb3 r
  cases rx
  obtain⟨t1,t2,t3,g⟩:=(show xav X.prog X.w H s.heap p (.rng lo hi) from I.hok p _ hp)
  refine call_list_range (I.ok.hd hc) g (small_one h1 h2 h3 h4) (n:=(hi-lo).toNat) (by rw[rangeSize_one]; split<;>omega) (Nat.le_trans hn (by decide)) fun h' tk acc' c' kp e it=>?_
  have len:acc'.toList.length=(rngL lo hi).length:=by rw[rngL,List.length_map,List.length_range]; exact it.1
  refine⟨.ref s.heap.objs.size,_,I.laid (t':=tk) kp (Nat.le_refl _) (show xav X.prog X.w _ h' _ (.lst (rngL lo hi)) from ⟨?_,acc'.toList,c',xf5 len fun j y u ey eu=>?_,by simpa using e⟩),rfl,q _ (I.hok.fresh (Nat.le_refl _))⟩
  . rw[rngL,List.length_map,List.length_range]
    exact Nat.le_trans hn (by decide)
  . have eu':acc'[j]?=some u:=by simpa using eu
    obtain⟨t,e2⟩:=it.2 j u eu'
    have lt:j<(hi-lo).toNat:=by
      have:=(List.getElem?_eq_some_iff.mp ey).1
      simpa [rngL] using this
    rw[rngL,List.getElem?_map,List.getElem?_range lt] at ey
    cases ey
    exact⟨t,by rw[e2,Int.mul_one]⟩
end
structure FunD (K:PySem.W.Frag) (x qual:Str) (st:Stmt) (T f:Addr) (fd:FuncData):Prop where
 ex:∃(oc:Value) (od:Option Addr) (kV doc pm:Value) (an:Option Addr) (cdv ct:Value) (osl:Array (Option Value)),
  fd=PySem.W.fnOf x qual (xv st) (xu st) (xh st) (.ref T) kV doc pm an cdv ct/\K.lookup f=some ⟨oc,od,.func fd,osl⟩/\PySem.W.codeIn K cdv qual=true
 kp:PySem.W.keepIn K (.ref f)=true
section
variable {P:Program}{w:World}{K:PySem.W.Frag}{mg:Str->Option Value}{base:Heap}
theorem FunD.okn {x qual:Str}{st:Stmt}{T f:Addr}{fd:FuncData}{N ps:List Str}{k:Nat}{sp:Sp} (F:FunD K x qual st T f fd) (S:xw N ps (xh st)) (len:∀ vs H Q E,sp vs H Q E->vs.length=ps.length)
    (hbody:∀(cdv:Value) (A:Around) (outer:List Env) (s:Shared) (H:Hp) (vs:List V) (Q:VK) (E:XK),Room q0 k (A.deeper (envOfC qual (xh st) s.heap.objs.size f cdv))->sp vs H Q E ->
      ∃ t,PSs (cxOf q0 (CXo P w) P w K mg base N qual (xh st) f cdv A outer s H E).nox (xu st) t/\t { nx:=fun _ H'=>Q .non H',rt:=Q } (xde N vs) H):FnOk q0 P w K mg base (CXo P w) (k+1) f fd ps sp:=by
  obtain⟨oc,od,kV,doc,pm,an,cdv,ct,osl,rfl,lk,hcd⟩:=F.ex
  refine xl6 lk hcd S len fun A outer s H vs Q E hr hsp=>?_
  obtain⟨t,h,q⟩:=hbody cdv A outer s H vs Q E hr hsp
  exact⟨t,h.nox,q⟩
theorem FunD.binds {x qual:Str}{st:Stmt}{T f:Addr}{fd:FuncData}{ps:List Str}{o:Obj}{items:Array Value}{n:Nat}{ds:List Value} (F:FunD K x qual st T f fd) (ho:K.lookup T=some o) (hs:o.data=.seq items n) (m:Nat) (hm:m+ds.length=ps.length)
    (h:∀(kV doc pm:Value) (an:Option Addr) (cdv ct:Value) (us:List Value),us.length=m ->
      ∃ k,bindArgs (PySem.W.fnOf x qual (xv st) (xu st) (xh st) (.ref T) kV doc pm an cdv ct) ⟨us,[]⟩=seqItems? (.ref T)>>=k/\k (some items)=pure (ps.zip (us++ds))):x4 K fd ps ds:=by
  obtain⟨oc,od,kV,doc,pm,an,cdv,ct,osl,rfl,lk,hcd⟩:=F.ex
  intro s us hK hl
  rw[List.length_append] at hl
  obtain⟨k,h1,h2⟩:=h kV doc pm an cdv ct us (by omega)
  exact BindsTo.of_defaults rfl (hK _ _ ho) hs h1 h2
theorem xlh {x qual:Str}{st:Stmt}{T f:Addr}{oc:Value}{od an:Option Addr}{osl:Array (Option Value)}{kV doc pm cdv ct:Value} (l:K.lookup f=some ⟨oc,od,.func (PySem.W.fnOf x qual (xv st) (xu st) (xh st) (.ref T) kV doc pm an cdv ct),osl⟩)
    (c:PySem.W.codeIn K cdv qual=true) (k:PySem.W.keepIn K (.ref f)=true):FunD K x qual st T f (PySem.W.fnOf x qual (xv st) (xu st) (xh st) (.ref T) kV doc pm an cdv ct):=⟨⟨oc,od,kV,doc,pm,an,cdv,ct,osl,rfl,l,c⟩,k⟩
end
end L2
namespace L2
open PySem PySem.Spec PyProof.Rows XL
variable {q0:Bool}
abbrev Cx.blkG (X:Cx) (scope:Scope) (zs:List Str) (ys:List Str) (C:Addr) (ex:List Addr) (s:Shared) (H:Hp) (pn:List (Addr × Obj)):Cx where
 prog:=X.prog
 w:=X.w
 K:=X.K
 mg:=X.mg
 base:=X.base
 A:=X.A
 N:=zs++ys
 s₀:=s
 H₀:=H
 env:=compEnvC scope (X.clo scope) C X.env
 outer:=X.stack
 stack:=X.stack
 ex:=ex
 fn:=fun _=>false
 calm:=X.calm
 pn:=pn
 xe:=fun _ _=>False
theorem xhq {prog:Program}{w:World}{A:Around}{R:Result->Shared->Prop}{s:Shared}{elt target iter:Expr}{ifs:List Expr}{scope:Scope}{pos:Pos}{it acc:Value}{env:Env} (I:Nat->Shared->Prop)
    (turn:∀ n s,I n s->wpAny (model prog w) A (pyNext it) (fun r s₁=>match r with
      | none=>R (.ok .next) s₁
      | some v=>wpAny (model prog w) A (letOwnedTupleGo target it v) (fun _ s₀=>wpAny (model prog w) A (assign target env v) (fun _ s₂ =>
          wpAny (model prog w) A (forIn ifs true fun c r=>if r=true then do let ok <- isTrue c env (eval c env); pure (ForInStep.yield ok) else pure (ForInStep.yield r)) (fun ok s₃ =>
            if ok=true then wpAny (model prog w) A (eval elt env) (fun x s₄ =>
              wpAny (model prog w) A (call (.builtin "list.append") [acc,x]) (fun _ s₅=>∃ m,m<n/\I m s₅) (notedBy (model prog w) A env fun e s'=>R (.error e) s') s₄) (notedBy (model prog w) A env fun e s'=>R (.error e) s') s₃
            else ∃ m,m<n/\I m s₃) (notedBy (model prog w) A env fun e s'=>R (.error e) s') s₂) (notedBy (model prog w) A env fun e s'=>R (.error e) s') s₀) (notedBy (model prog w) A env fun e s'=>R (.error e) s') s₁) (notedBy (model prog w) A env fun e s'=>R (.error e) s') s)
    (n:Nat) (h:I n s):codeAny (model prog w) A (.compLoop (.ListComp elt [⟨target,iter,ifs,0⟩] scope pos) 0 it acc env) R s:=by
  refine codeAny_loop rfl I (fun n s hI=>?_) n h
  show wpAny _ A ((compTurn (.ListComp elt [⟨target,iter,ifs,0⟩] scope pos) 0 it acc env).onRaise (fun x=>do noteFrame x env; theTreesLotGoes x)) _ _ s
  refine wpAny_noted ?_
  rw[compTurn_list]
  refine wpAny_bind (wpAny_standAt (wpAny_bind (wpAny_mono (turn n s hI) (fun r s₁ h₁=>?_) fun _ _ h'=>h')))
  cases r with
  | none=>exact wpAny_pure h₁
  | some v =>
    refine wpAny_bind (wpAny_mono h₁ (fun _ s₀ h₀=>wpAny_bind (wpAny_mono h₀ (fun _ s₂ h₂=>wpAny_bind (wpAny_mono h₂ (fun ok s₃ h₃=>?_) fun _ _ h'=>h')) fun _ _ h'=>h')) fun _ _ h'=>h')
    cases ok with
    | false=>exact wpAny_pure ⟨rfl,h₃⟩
    | true =>
      exact wpAny_bind (wpAny_bind (wpAny_mono h₃ (fun x s₄ h₄=>wpAny_bind (wpAny_mono h₄ (fun _ s₅ h₅=>wpAny_pure (wpAny_pure ⟨rfl,h₅⟩)) fun _ _ h'=>h')) fun _ _ h'=>h'))
structure BlkG (X:Cx) (scope:Scope) (zs:List Str) (ys:List Str) (fr:List Nat):Prop where
 kind:scope.kind=.function
 own:∀ x∈zs,scope.names.lookup x=some .local
 ncell:∀ y∈scope.names,y.2≠.cell
 names:∀ y∈scope.names,y.2=.local->scope.names.lookup y.1=some .local
 free:∀ n∈xc3 scope,X.env.scope.names.lookup n=some .cell
 has:∀ n,((relabel scope X.env).names.lookup n=some .cell\/(relabel scope X.env).names.lookup n=some .free)->n∈xc3 scope
 slots:fr.map (fun i=>X.N[i]?)=ys.map some
 ysf:∀ y∈ys,y∈xc3 scope
 ysc:∀ y∈ys,(relabel scope X.env).names.lookup y=some .cell\/(relabel scope X.env).names.lookup y=some .free
 nd:X.N.Nodup
 ndb:(zs++ys).Nodup
def blk0 (σ:St) (fr:List Nat) (n:Nat):St:=List.replicate n none++fr.map fun i=>(σ[i]?).join
section
variable {X:Cx}{pins:List (Addr × Obj)}{σ:St}{H:Hp}{s:Shared}{scope:Scope}{zs:List Str}{ys:List Str}{fr:List Nat}{fp:List Addr}
theorem BlkG.cells (B:BlkG X scope zs ys fr) (I:Inv X pins σ H s):∀ n∈xc3 scope,∃ c,X.env.cells.lookup n=some c:=fun n hn=>I.ok.has n (.inl (B.free n hn))
theorem BlkG.sub (B:BlkG X scope zs ys fr) (I:Inv X pins σ H s) {n:Str}{c:Addr} (h:(X.clo scope).lookup n=some c):X.env.cells.lookup n=some c:=by
 obtain⟨a,b⟩:=xqo h
 obtain⟨d,e⟩:=B.cells I n a
 rw[e] at b
 rw[b,e]
 rfl
theorem Inv.blkG {h1:Heap}{m1:Str->Option Value}{t':Nat} (B:BlkG X scope zs ys fr) (I:Inv X pins σ H s) (hf:∀ b∈fp,FpOk X pins H b) (hz:∀ b∈fp,b<s.heap.objs.size) (n1:h1.Ns s.heap.objs.size m1) (k1:∀ b o,s.heap.get? b=some o->h1.get? b=some o) :
    Inv (X.blkG scope zs ys s.heap.objs.size fp s H (X.pn++pins)) [] (blk0 σ fr zs.length) H { s with heap:=h1,toks:=t' }:=by
  have sub:∀ n c,(X.clo scope).lookup n=some c->X.env.cells.lookup n=some c:=fun n c h=>B.sub I h
  have cz:∀ n c,X.env.cells.lookup n=some c->c<s.heap.objs.size:=fun n c e=>by
    obtain⟨v,o,ho,_⟩:=I.cell n c e
    exact Heap.lt_size ho
  have nfs:∀ b∈fp,b∉frs X.stack:=fun b hb z=>(List.mem_cons.mp (I.stkSub b z)).elim (hf b hb).2.1 (hf b hb).2.2.1
  have fz:∀ b,b∈frs X.stack->b<s.heap.objs.size:=fun b hb=>by
    obtain⟨_,o,ho,_⟩:=I.stack.mem hb
    exact Heap.lt_size ho
  refine⟨⟨I.ok.mod,B.kind,I.ok.glob,I.ok.blt,Nat.le_refl _,fun y z c h1 h2=>I.ok.inj y z c (sub y c h1) (sub z c h2),fun y hy=>?_,(fun y c hy _=>nomatch hy),I.ok.hd,I.ok.frames,.inl rfl,fun b hb=>⟨?_,fun y c h=>(hf b hb).2.2.2.2.1 y c (sub y c h)⟩,
      I.bs,Nat.le_trans I.ok.bsz I.sz,fun b o e hb=>?_,fun b hb=>nfs b hb,I.stack,I.stkFree⟩,
    rfl,I.bare,Un.kept k1,⟨m1,n1,fun i y v e1 e2 e3=>?_⟩,fun y c h=>?_,I.hok.fresh (Nat.le_refl _),fun y c h=>I.freeC y c (sub y c h),fun p hp=>?_,I.hok.kept k1,?_⟩
  . obtain⟨c,e⟩:=B.cells I y (B.has y hy)
    exact⟨c,xlp (B.has y hy) e⟩
  . exact Nat.ne_of_lt (hz b hb)
  . rcases (hf b hb).2.2.2.1 with z|z
    . exact I.ok.noex b o e z
    . exact absurd (Nat.lt_of_lt_of_le (Heap.lt_size (I.ok.bs b o e).1) z) (Nat.lt_irrefl _)
  . have ln:(List.replicate zs.length (none:Option V)).length=zs.length:=List.length_replicate
    by_cases lt:i<zs.length
    . have e2':(blk0 σ fr zs.length)[i]?=some (some v):=e2
      unfold blk0 at e2'
      rw[List.getElem?_append_left (by rw[ln]; exact lt),List.getElem?_replicate] at e2'
      split at e2'<;>cases e2'
    . obtain⟨k,rfl⟩:∃ k,i=zs.length+k:=⟨i-zs.length,by omega⟩
      have e2':(fr.map fun i=>(σ[i]?).join)[k]?=some (some v):=by
        have z:(blk0 σ fr zs.length)[zs.length+k]?=some (some v):=e2
        unfold blk0 at z
        rw[List.getElem?_append_right (by rw[ln]; omega),ln] at z
        simpa using z
      have e1':ys[k]?=some y:=by
        have z:(zs++ys)[zs.length+k]?=some y:=e1
        rw[List.getElem?_append_right (by omega)] at z
        simpa using z
      rw[List.getElem?_map] at e2'
      obtain⟨j,hj,ej⟩:=Option.map_eq_some_iff.mp e2'
      have ev:σ[j]?=some (some v):=by
        cases q:σ[j]? with
        | none=>rw[q] at ej; cases ej
        | some w=>rw[q] at ej; exact congrArg some ej
      have eN:X.N[j]?=some y:=by
        have z:=congrArg (fun l=>l[k]?) B.slots
        simp only[List.getElem?_map,hj,e1',Option.map_some] at z
        exact Option.some.inj z
      have my:y∈ys:=List.mem_of_getElem? e1'
      obtain⟨m,_,lk⟩:=I.loc
      obtain⟨u,r,l⟩:=lk j y v eN ev (.inr (.inl (B.free y (B.ysf y my))))
      refine⟨u,r,.inr ⟨B.ysc y my,?_⟩⟩
      rcases l with⟨kk,_⟩|⟨_,c,e,o,ho,hd⟩
      . have z:=B.free y (B.ysf y my)
        rw[show X.env.scope.names.lookup y=some .local from kk] at z
        cases z
      . exact⟨c,xlp (B.ysf y my) e,o,k1 c o ho,hd⟩
  . obtain⟨v,o,ho,hd⟩:=I.cell y c (sub y c h)
    exact⟨v,o,k1 c o ho,hd⟩
  . have hp':p∈X.pn++pins:=by simpa using hp
    obtain⟨a1,a2,a3,a4,a5⟩:=I.pin p hp'
    exact⟨k1 _ _ a1,a2,Nat.ne_of_lt (Heap.lt_size a1),fun z=>(List.mem_cons.mp (I.stkSub _ z)).elim a3 a4,a5⟩
  . have z:=congrArg List.length B.slots
    simp only[List.length_map] at z
    simp[blk0,z]
end
section
variable {X:Cx}{pins:List (Addr × Obj)}{σ:St}{H:Hp}{s:Shared}{scope:Scope}{zs:List Str}{ys:List Str}{fr:List Nat}{fp:List Addr}
theorem Inv.unblkG {C:Addr}{s':Shared}{h2:Heap}{σ':St}{H':Hp}{pl:List (Addr × Obj)} (I:Inv X pins σ H s) (hf:∀ b∈fp,FpOk X pins H b) (hC:s.heap.objs.size<=C) (J:Inv (X.blkG scope zs ys C fp s H (X.pn++pins)) pl σ' H' s') (sb:Heap.SameBut C s'.heap h2) :
    Inv X pins σ H' { s' with heap:=h2 }:=by
  have kp:∀ b o,b≠C->s'.heap.get? b=some o->h2.get? b=some o:=fun b o nb g=>(sb.2 b nb).trans g
  have old:∀ b o,s.heap.get? b=some o->b≠C:=fun b o g=>Nat.ne_of_lt (Nat.lt_of_lt_of_le (Heap.lt_size g) hC)
  have trk:∀ b u,H' b=some u->b≠C:=fun b u hb z=>by
    have f:H' C=none:=J.free
    rw[z,f] at hb
    cases hb
  refine I.call' (s':={ s' with heap:=h2 }) J.os (ch:=fp) ⟨fun b o e n hb hx=>kp b o (old b o e) (J.base.keep b o e n hb hx),fun b o e n hb hx=>?_,fun b o e n hx=>J.base.free b o e n hx,fun b o e hx=>?_,J.base.tups,J.base.frzs,J.base.tbls⟩ (fun b u hb=>?_) J.bare fun b hb=>?_
  . obtain⟨sl,q⟩:=J.base.slot b o e n hb hx
    exact⟨sl,kp b _ (old b o e) q⟩
  . obtain⟨o',q⟩:=J.base.there b o e hx
    exact⟨o',kp b o' (old b o e) q⟩
  . refine (J.hok b u hb).stay (fun c v hc q=>?_) (fun c q=>q) fun c xs q=>q
    rcases hc with rfl|hc
    . exact kp c v (trk c u hb) q
    . exact kp c v (trk c _ hc) q
  . obtain⟨_,a1,_,a3,a4,a5⟩:=hf b hb
    exact⟨a3,a1,a4,a5⟩
end
def GOk (n:Nat) (g:TG):Prop:=∀ v σ H Q,g v σ H Q->g v σ H (fun σ' H'=>Q σ' H'/\σ'.length=σ.length/\∀ i,n<=i->σ'[i]?=σ[i]?)
theorem xbe {i n:Nat} (h:i<n):GOk n (xeg i):=fun v σ H Q q=>⟨q,by simp,fun j hj=>by rw[List.getElem?_set_ne (by omega)]⟩
def xc2 (J:It) (n:Nat) (g:TG) (σ:St) (fr:List Nat) (tc:TT) (te:TE) (l:Addr) (H1:Hp) (Q:VK):Prop:=∃ W:Nat->Nat->List V->Hp->Prop,(∃ m,W 0 m [] (upd H1 l (.lst [])))/\∀ i m xs H2,W i m xs H2 ->
 (J.stop i H2/\Q (.ref l) H2)\/(J.go i H2/\∀ v H3,J.yld i H2 v H3->g v (blk0 σ fr n) H3 fun σ' H3'=>tc σ' H3' fun b H4=>if b=true then
  (te σ' H4 fun y H5=>H5 l=some (.lst xs)/\xs.length<sizeLine/\∃ m',m'<m/\W (i+1) m' (xs++[y]) (upd H5 l (.lst (xs++[y])))) else ∃ m',m'<m/\W (i+1) m' xs H4)
def xjk (wi:TI) (n:Nat) (g:TG) (fr:List Nat) (tc:TT) (te:TE):TE:=fun σ H Q=>wi σ H fun J H1=>∀ l,H1 l=none->xc2 J n g σ fr tc te l H1 Q
section
variable {X:Cx}{scope:Scope}{zs:List Str}{ys:List Str}{fr:List Nat}{elt iter tg:Expr}{g:TG}{ifs:List Expr}{px pos:Pos}{wi:TI}{tc:TT}{te:TE}
theorem xhg {pins:List (Addr × Obj)}{s:Shared}{σ:St}{H:Hp}{Q:VK}{U:Option (Value->Sem Unit)}{R:Value->Shared->Prop} (hc:X.calm=true) (B:BlkG X scope zs ys fr) (hi:PI X tg iter wi) (hg:∀ C ex s H pn,(∀ x∈zs,(relabel scope X.env).names.lookup x=some .local)->(zs++ys).Nodup->PG (X.blkG scope zs ys C ex s H pn) tg g) (gok:GOk zs.length g)
    (hif:∀ C ex s H pn,PIf (X.blkG scope zs ys C ex s H pn) ifs tc) (he:∀ C ex s H pn,PE (X.blkG scope zs ys C ex s H pn) elt te) (I:Inv X pins σ H s) (h:xjk wi zs.length g fr tc te σ H Q)
    (fin:∀ C l H' s' m,(X.s₀.heap.objs.size<=C/\C≠X.env.locals/\(∀ x c,X.env.cells.lookup x=some c->c≠C)/\∀ p∈X.pn++pins,p.1≠C)->H' C=none->s'.heap.Ns C m->(∀ h2,Heap.SameBut C s'.heap h2->Inv X pins σ H' { s' with heap:=h2 })->Q (.ref l) H'->compPost (model X.prog X.w) X.A X.xe U R (.ref l) C (.ok .next) s') :
    wpAny (model X.prog X.w) X.A (eval iter X.env) (fun v s1=>wpAny (model X.prog X.w) X.A (pyIter v) (fun it s2=>wpAny (model X.prog X.w) X.A (newList []) (fun acc s3 =>
      wpAny (model X.prog X.w) X.A (newFunctionEnv scope X.env.globals (X.clo scope) [] X.env.qual none .none (some X.env)) (fun cenv s4 =>
        codeAny (model X.prog X.w) X.A (.compStart (.ListComp elt [⟨tg,iter,ifs,0⟩] scope pos) 0 it acc { cenv with scope:=relabel scope X.env }) (compPost (model X.prog X.w) X.A X.xe U R acc cenv.locals) s4) X.xe s3) X.xe s2) X.xe s1) X.xe s:=by
  refine thn (hi pins s σ H _ I h) fun v s1 h1=>thn h1 fun itv s2 h2=>?_
  obtain⟨it,fp,tn,J,H2,rfl,I2,T,st2,f2,body⟩:=h2
  have hN:H2 s2.heap.objs.size=none:=I2.hok.fresh (Nat.le_refl _)
  obtain⟨W,⟨m0,w0⟩,turn⟩:=body s2.heap.objs.size hN
  refine wpAny_newObj_type ?_
  generalize hs3:({ s2 with heap:=s2.heap.push { cls:=.type "list",data:=.seq ([]:List Value).toArray } }:Shared)=s3
  have k3:∀ b o,s2.heap.get? b=some o->s3.heap.get? b=some o:=fun b o g=>by rw[<- hs3]; exact Heap.get?_push_of_some _ g
  have I3:Inv X pins σ (upd H2 s2.heap.objs.size (.lst [])) s3:=by
    rw[<- hs3]
    exact I2.laid (t':=s2.toks) (fun b u e=>Heap.get?_push_of_some _ e) (Nat.le_refl _) ⟨Nat.zero_le _,[],0,.nil,Heap.get?_push_size _ rfl⟩
  have z2:∀ b∈fp,b<s2.heap.objs.size:=fun b hb=>by
    obtain⟨o,g,_⟩:=T.obj 0 _ st2 b hb
    exact Heap.lt_size g
  have z3:∀ b∈fp,b<s3.heap.objs.size:=fun b hb=>by
    obtain⟨o,g,_⟩:=T.obj 0 _ st2 b hb
    exact Heap.lt_size (k3 b o g)
  have f3:∀ b∈fp,FpOk X pins (upd H2 s2.heap.objs.size (.lst [])) b:=fun b hb=>⟨by rw[xg (Nat.ne_of_lt (z2 b hb))]; exact (f2 b hb).1,(f2 b hb).2⟩
  have st3:tn 0 s3.heap:=T.keep _ _ _ st2 fun b _ o g=>k3 b o g
  refine wpAny_newFunctionEnv B.ncell (by intro y hy; simp at hy) (fun h1 n1 sb1=>?_) B.kind
  have k4:∀ b o,s3.heap.get? b=some o->h1.get? b=some o:=fun b o g=>sb1.extBut b o (Nat.ne_of_lt (Heap.lt_size g)) (Heap.get?_push_of_some _ g)
  have I4:=I3.blkG (t':=s3.toks+([]:List (Str × Value)).length) B f3 z3 n1 k4
  have st4:tn 0 h1:=T.keep _ _ _ st3 fun b _ o g=>k4 b o g
  have own':∀ x∈zs,(relabel scope X.env).names.lookup x=some .local:=fun x hx=>lookup_relabel_local (B.own x hx)
  -- the iterator's objects,through the loop
  have stat:∀{H':Hp},(∀ b∈fp,H' b=none)->∀ b∈fp,FpOk (X.blkG scope zs ys s3.heap.objs.size fp s3 (upd H2 s2.heap.objs.size (.lst [])) (X.pn++pins)) [] H' b:=fun hn b hb=>by
    obtain⟨_,a1,a2,a3,a4,a5⟩:=f3 b hb
    exact⟨hn b hb,Nat.ne_of_lt (z3 b hb),fun z=>(List.mem_cons.mp (I3.stkSub b z)).elim a1 a2,.inl hb,fun y c h=>a4 y c (B.sub I3 h),fun p hp=>a5 p (by simpa using hp)⟩
  have loop:∀ s4:Shared,s4={ s3 with heap:=h1,toks:=s3.toks+([]:List (Str × Value)).length } ->
      codeAny (model X.prog X.w) X.A (.compLoop (.ListComp elt [⟨tg,iter,ifs,0⟩] scope pos) 0 (.ref it) (.ref s2.heap.objs.size) (compEnvC scope (X.clo scope) s3.heap.objs.size X.env))
        (compPost (model X.prog X.w) X.A X.xe U R (.ref s2.heap.objs.size) s3.heap.objs.size) s4:=by
    rintro s4 rfl
    refine xhq (fun n s'=>∃ i xs H',Inv (X.blkG scope zs ys s3.heap.objs.size fp s3 (upd H2 s2.heap.objs.size (.lst [])) (X.pn++pins)) [] (blk0 σ fr zs.length) H' s'/\tn i s'.heap/\(∀ b∈fp,H' b=none)/\W i n xs H') ?_ m0
      ⟨0,[],_,I4,st4,fun b hb=>(f3 b hb).1,w0⟩
    rintro n s5 ⟨i,xs,H5,I5,st5,fr5,w5⟩
    rcases turn i n xs H5 w5 with⟨stop,q⟩|⟨go,step⟩
    . refine wpAny_mono (T.done (X.blkG scope zs ys s3.heap.objs.size fp s3 (upd H2 s2.heap.objs.size (.lst [])) (X.pn++pins)) rfl rfl rfl hc i [] s5 _ H5 (fun _ _=>False) I5 (stat fr5) st5 stop) (fun r s6 ⟨hr,I6⟩=>?_) fun _ _ z=>z.elim
      subst hr
      obtain⟨m,hm,_⟩:=I6.loc
      exact fin _ _ H5 s6 m ⟨I3.sz,(I3.size_lt (Nat.le_refl _)).2⟩ I6.free hm (fun h2 sb=>I3.unblkG f3 (Nat.le_refl _) I6 sb) q
    . refine wpAny_mono (T.item (X.blkG scope zs ys s3.heap.objs.size fp s3 (upd H2 s2.heap.objs.size (.lst [])) (X.pn++pins)) rfl rfl rfl hc i [] s5 _ H5 (fun _ _=>False) I5 (stat fr5) st5 go) (fun r s6 ⟨u,hr,h6⟩=>?_) fun _ _ z=>z.elim
      subst hr
      refine wpAny_mono h6 (fun _ s7 ⟨y,H7,I7,r7,y7,st7,fr7⟩=>?_) fun _ _ z=>z.elim
      have I7':=I7.pinned (stat fr7) (T.obj _ _ st7)
      refine wpAny_mono (hg _ _ _ _ _ own' B.ndb _ s7 _ H7 y u _ I7' r7 (gok _ _ _ _ (step y H7 y7))) (fun _ s8 ⟨σ8,H8,I8,q8,l8,k8⟩=>?_) fun _ _ z=>z.elim
      have back:∀{s9:Shared}{H9:Hp}{xs':List V},Inv (X.blkG scope zs ys s3.heap.objs.size fp s3 (upd H2 s2.heap.objs.size (.lst [])) (X.pn++pins)) ([]++xfp fp s7.heap) σ8 H9 s9->(∃ m',m'<n/\W (i+1) m' xs' H9) ->
          ∃ m,m<n/\∃ i xs H',Inv (X.blkG scope zs ys s3.heap.objs.size fp s3 (upd H2 s2.heap.objs.size (.lst [])) (X.pn++pins)) [] (blk0 σ fr zs.length) H' s9/\tn i s9.heap/\(∀ b∈fp,H' b=none)/\W i m xs H':=fun {s9 H9 xs'} I9 ⟨m',lt,w9⟩=>by
        refine⟨m',lt,i+1,xs',H9,I9.unpinned.weak l8.symm (fun j v e=>?_),T.keep _ _ _ st7 fun b hb o e=>(I9.pin (b,o) (List.mem_append_right _ (List.mem_append_right _ (xc5 hb e)))).1,fun b hb=>?_,w9⟩
        . by_cases lj:j<zs.length
          . unfold blk0 at e
            rw[List.getElem?_append_left (by rw[List.length_replicate]; exact lj),List.getElem?_replicate] at e
            split at e<;>cases e
          . rw[k8 j (by omega)]
            exact e
        obtain⟨o,e,d⟩:=T.obj _ _ st7 b hb
        exact (I9.pin (b,o) (List.mem_append_right _ (List.mem_append_right _ (xc5 hb e)))).2.1
      refine wpAny_mono (hif _ _ _ _ _ _ s8 _ H8 _ I8 q8) (fun ok s9 ⟨H9,I9,q9⟩=>?_) fun _ _ z=>z.elim
      cases ok with
      | false =>
        rw[if_neg (by decide)] at q9 ⊢
        exact back I9 q9
      | true =>
        rw[if_pos rfl] at q9 ⊢
        refine wpAny_mono (he _ _ _ _ _ _ s9 _ H9 _ I9 q9) (fun ev s10 ⟨yv,H10,I10,r10,hl,len,w10⟩=>?_) fun _ _ z=>z.elim
        refine wpAny_mono (xcw (X:=X.blkG scope zs ys s3.heap.objs.size fp s3 (upd H2 s2.heap.objs.size (.lst [])) (X.pn++pins)) _ s10 _ H10 (.ref s2.heap.objs.size) [yv] (.ref s2.heap.objs.size) [ev] (fun v H'=>H'=upd H10 s2.heap.objs.size (.lst (xs++[yv]))) I10 rfl (.cons r10 .nil) ⟨_,xs,yv,rfl,rfl,hl,len,rfl⟩)
          (fun _ s11 ⟨_,H11,I11,_,e11⟩=>?_) fun _ _ z=>z.elim
        subst e11
        exact back I11 w10
  exact codeAny_compStart_list (loop _ rfl) (T.self _ 0 _ _ _ st4 (loop _ rfl))
theorem xbj (hc:X.calm=true) (B:BlkG X scope zs ys fr) (hi:PI X tg iter wi) (hg:∀ C ex s H pn,(∀ x∈zs,(relabel scope X.env).names.lookup x=some .local)->(zs++ys).Nodup->PG (X.blkG scope zs ys C ex s H pn) tg g) (gok:GOk zs.length g) (hif:∀ C ex s H pn,PIf (X.blkG scope zs ys C ex s H pn) ifs tc) (he:∀ C ex s H pn,PE (X.blkG scope zs ys C ex s H pn) elt te)
    (hs:∀ x,foldedSetIterable iter X.env x=pure x:=by intro _; rfl):PE X (.ListComp elt [⟨tg,iter,ifs,0⟩] scope pos) (xjk wi zs.length g fr tc te):=by
  intro pins s σ H Q I h
  rw[eval_ListComp]
  refine wpAny_comprehension_free (use:=none) rfl hs (xmx (B.cells I)) B.kind B.names (xhg hc B hi hg gok hif he I h fun C l H' s' m _ _ hm iv q=>?_)
  exact⟨m,hm,fun h2 sb=>⟨.ref l,H',iv h2 sb,rfl,q⟩⟩
theorem xce {j:Nat}{y:Str}{py spos:Pos} (hc:X.calm=true) (B:BlkG X scope zs ys fr) (hi:PI X tg iter wi) (hg:∀ C ex s H pn,(∀ x∈zs,(relabel scope X.env).names.lookup x=some .local)->(zs++ys).Nodup->PG (X.blkG scope zs ys C ex s H pn) tg g) (gok:GOk zs.length g) (hif:∀ C ex s H pn,PIf (X.blkG scope zs ys C ex s H pn) ifs tc) (he:∀ C ex s H pn,PE (X.blkG scope zs ys C ex s H pn) elt te)
    (hj:X.N[j]?=some y) (hy:Loc X.env.scope y) (hf:X.fn y=true\/X.env.scope.names.lookup y=some .local:=by first|exact .inl rfl|exact .inr rfl|assumption)
    (hsw:swapsWith (.ListComp elt [⟨tg,iter,ifs,0⟩] scope pos) (some (.Name y py)) spos.line X.env=pure true:=by rfl)
    (hs:∀ x,foldedSetIterable iter X.env x=pure x:=by intro _; rfl):PS X (.Assign [.Name y py] (.ListComp elt [⟨tg,iter,ifs,0⟩] scope pos) spos) (tAsg (xjk wi zs.length g fr tc te) (xeg j)):=by
  intro pins s σ H D I h
  rw[exec_Assign_Name_used _ _ _ _ hsw]
  refine wpAny_bind (wpAny_standAt (wpAny_bind ?_))
  show wpAny _ _ (do let _ <- comprehension (.ListComp elt [⟨tg,iter,ifs,0⟩] scope pos) scope X.env _ (newList []) false (eval iter X.env) (some (assign (.Name y py) X.env))) _ _ s
  refine wpAny_bind (wpAny_mono (wpAny_comprehension_free (use:=some (assign (.Name y py) X.env)) (Q:=fun _ s'=>SP X pins D .next s') rfl hs (xmx (B.cells I)) B.kind B.names
    (xhg hc B hi hg gok hif he I h fun C l H' s' m hC hn hm iv q=>?_)) (fun _ s' z=>wpAny_pure (wpAny_pure z)) fun _ _ e=>e)
  show wpAny _ _ (assign (.Name y py) X.env (.ref l)) _ _ _
  have J:Inv X pins σ H' s':=iv s'.heap (.refl ..)
  refine wpAny_assign_Name (xif (v:=V.ref l) J B.nd hj hy rfl (fun s2 J2 ⟨a,sb,ha⟩=>?_) hf)
  have na:a≠C:=by
    rcases ha with z|z
    . rw[z]; exact Ne.symm hC.2.1
    . exact hC.2.2.1 _ _ z
  refine⟨m,?_,fun h2 s3=>?_⟩
  . obtain⟨o,es,ep,g,r⟩:=hm
    exact⟨o,es,ep,(sb.2 C (Ne.symm na)).trans g,r⟩
  . exact⟨_,H',J2.turned (t':=s2.toks) (fun b o nb g=>(s3.2 b nb).trans g) hn (hC.2.1) (.inr hC.1) hC.2.2.1 hC.2.2.2,q⟩
end
def xj8 (scope sc0:Scope) (N0:List Str) (zs:List Str) (ys:List Str) (fr:List Nat):Bool :=
 scope.kind == .function&&zs.all (fun x=>scope.names.lookup x == some .local)&&scope.names.all (fun y=>y.2 != .cell)&&scope.names.all (fun y=>y.2 != .local||scope.names.lookup y.1 == some .local) &&
 (xc3 scope).all (fun n=>sc0.names.lookup n == some .cell)&&fr.map (fun i=>N0[i]?) == ys.map some&&ys.all (fun y=>scope.names.lookup y == some .free)&&decide N0.Nodup&&decide (zs++ys).Nodup
theorem xof {X:Cx}{scope sc0:Scope}{N0:List Str}{zs:List Str}{ys:List Str}{fr:List Nat} (chk:xj8 scope sc0 N0 zs ys fr=true) (es:X.env.scope=sc0) (eN:X.N=N0):BlkG X scope zs ys fr:=by
 unfold xj8 at chk
 simp only[Bool.and_eq_true,beq_iff_eq,List.all_eq_true,decide_eq_true_eq] at chk
 obtain⟨⟨⟨⟨⟨⟨⟨⟨a1,a2⟩,a3⟩,a4⟩,a5⟩,a6⟩,a7⟩,a8⟩,a9⟩:=chk
 have nc:∀ y∈scope.names,y.2≠.cell:=fun y hy=>by simpa using a3 y hy
 refine⟨a1,a2,nc,fun y hy hl=>?_,fun n hn=>by rw[es]; exact a5 n hn,fun n h=>xm3 nc n h,by rw[eN]; exact a6,fun y hy=>?_,fun y hy=>xl1 (a7 y hy),by rw[eN]; exact a8,a9⟩
 .have z:=a4 y hy
  rw[hl] at z
  simpa using z
 .exact List.mem_map.mpr ⟨(y,.free),List.mem_filter.mpr ⟨PySem.mem_of_lookup (a7 y hy),by simp⟩,rfl⟩
theorem xa1 {X:Cx}{scope sc0:Scope}{N0:List Str}{zs:List Str}{ys:List Str}{fr:List Nat} (chk:xj8 scope sc0 N0 zs ys fr=true) (es:X.env.scope=sc0) (eN:X.N=N0) (_:X.stack=X.env::X.outer):BlkG X scope zs ys fr:=xof chk es eN
theorem xdz {K:PySem.W.Frag}{m n:Nat}{t:TGs} (h:∀ vs σ H Q,t vs σ H Q->t vs σ H (fun σ' H'=>Q σ' H'/\σ'.length=σ.length/\∀ i,n<=i->σ'[i]?=σ[i]?)):GOk n (gTup K m t):=fun v σ H Q q=>by
 obtain⟨a,xs,e,hs,hl,q⟩:=q
 exact⟨a,xs,e,hs,hl,h _ _ _ _ q⟩
theorem xc8 {n:Nat}:∀ vs σ H Q,gNil vs σ H Q->gNil vs σ H (fun σ' H'=>Q σ' H'/\σ'.length=σ.length/\∀ i,n<=i->σ'[i]?=σ[i]?):=fun vs σ H Q q=>⟨q.1,q.2,rfl,fun _ _=>rfl⟩
theorem xbb {i n:Nat} (hi:i<n) {t:TGs} (h:∀ vs σ H Q,t vs σ H Q->t vs σ H (fun σ' H'=>Q σ' H'/\σ'.length=σ.length/\∀ i,n<=i->σ'[i]?=σ[i]?)) :
    ∀ vs σ H Q,xmg (xeg i) t vs σ H Q->xmg (xeg i) t vs σ H (fun σ' H'=>Q σ' H'/\σ'.length=σ.length/\∀ i,n<=i->σ'[i]?=σ[i]?):=fun vs σ H Q q=>by
  obtain⟨v,r,e,q⟩:=q
  refine⟨v,r,e,?_⟩
  have z:=h _ _ _ _ q
  have e2:∀(j:Nat),n<=j->(σ.set i (some v))[j]?=σ[j]?:=fun j hj=>by rw[List.getElem?_set_ne (by omega)]
  have e1:(σ.set i (some v)).length=σ.length:=by simp
  have key:(fun σ' H'=>Q σ' H'/\σ'.length=(σ.set i (some v)).length/\∀ j,n<=j->σ'[j]?=(σ.set i (some v))[j]?)=(fun σ' (H':Hp)=>Q σ' H'/\σ'.length=σ.length/\∀ j,n<=j->σ'[j]?=σ[j]?):=by
    funext σ' H'
    rw[e1]
    refine propext ⟨fun⟨a,b,c⟩=>⟨a,b,fun j hj=>(c j hj).trans (e2 j hj)⟩,fun⟨a,b,c⟩=>⟨a,b,fun j hj=>(c j hj).trans (e2 j hj).symm⟩⟩
  rw[key] at z
  exact z
theorem xc9 {J:It}{n:Nat}{g:TG}{σ:St}{fr:List Nat}{tc:TT}{te:TE}{l:Addr}{H1:Hp}{Q:VK} (len:Nat) (Pv:Nat->List V->Hp->Prop) (h0:Pv 0 [] (upd H1 l (.lst []))) (hgo:∀ i xs H,i<len->Pv i xs H->J.go i H)
    (step:∀ i xs H2 v H3,i<len->Pv i xs H2->J.yld i H2 v H3->∀ N:List V->Hp->Prop,(∀ xs' H',Pv (i+1) xs' H'->N xs' H')->g v (blk0 σ fr n) H3 fun σ' H3'=>tc σ' H3' fun b H4=>if b=true then
      (te σ' H4 fun y H5=>H5 l=some (.lst xs)/\xs.length<sizeLine/\N (xs++[y]) (upd H5 l (.lst (xs++[y])))) else N xs H4)
    (fin:∀ xs H2,Pv len xs H2->J.stop len H2/\Q (.ref l) H2):xc2 J n g σ fr tc te l H1 Q:=by
  refine⟨fun i m xs H=>m=len-i/\i<=len/\Pv i xs H,⟨len,by simp,Nat.zero_le _,h0⟩,?_⟩
  rintro i m xs H2 ⟨rfl,hi,p⟩
  by_cases lt:i<len
  . exact .inr ⟨hgo i xs H2 lt p,fun v H3 y=>step i xs H2 v H3 lt p y (fun xs' H'=>∃ m',m'<len-i/\m'=len-(i+1)/\i+1<=len/\Pv (i+1) xs' H') fun xs' H' q=>⟨_,by omega,rfl,lt,q⟩⟩
  . have e:i=len:=by omega
    subst e
    exact .inl (fin xs H2 p)
section
variable {X:Cx}{pins:List (Addr × Obj)}{σ:St}{H:Hp}{s:Shared}
theorem Inv.adopt {p:Addr}{o:HO} (I:Inv X pins σ H s) (n:H p=none) (h0:X.s₀.heap.objs.size<=p) (hL:p≠X.env.locals) (hC:∀ x c,X.env.cells.lookup x=some c->c≠p) (hp:∀ q∈X.pn++pins,q.1≠p)
    (new:xav X.prog X.w (upd H p o) s.heap p o):Inv X pins σ (upd H p o) s:=by
  have ne:∀ b u,H b=some u->b≠p:=fun b u e=>xi e n
  refine⟨I.ok,I.os,I.bare,⟨I.base.keep,I.base.slot,fun b ob e hn hx=>?_,I.base.there,fun b xs e=>?_,fun b ob u e=>?_,fun b ps e=>?_⟩,I.loc,I.cell,?_,fun x c e=>?_,fun q hq=>?_,fun b u e=>?_,I.len⟩
  . rw[xg (Nat.ne_of_lt (Nat.lt_of_lt_of_le (Heap.lt_size e) h0))]
    exact I.base.free b ob e hn hx
  . have z:=I.base.tups b xs e
    rw[xg (ne b _ z)]
    exact z
  . have z:=I.base.frzs b ob u e
    rw[xg (ne b _ z)]
    exact z
  . obtain⟨m,z⟩:=I.base.tbls b ps e
    exact⟨m,by rw[xg (ne b _ z)]; exact z⟩
  . rw[xg (Ne.symm hL)]
    exact I.free
  . rw[xg (hC x c e)]
    exact I.freeC x c e
  . obtain⟨a1,a2,a3⟩:=I.pin q hq
    exact⟨a1,by rw[xg (hp q hq)]; exact a2,a3⟩
  . by_cases hb:b=p
    . subst hb
      rw[xf] at e
      cases e
      exact new
    . rw[xg hb] at e
      exact (I.hok b u e).stay (fun c v _ q=>q) (fun c q=>by rw[xg (ne c _ q)]; exact q) fun c xs q=>by rw[xg (ne c _ q)]; exact q
theorem Inv.thaw {d:Addr}{o:Obj}{u:HO} (I:Inv X pins σ H s) (e:H d=some (.frz o u)) (nf:∀ o' u',X.H₀ d≠some (.frz o' u')):Inv X pins σ (upd H d u) s:=by
 have ne:∀ b v,H b=some v->(∀ o' u',v≠.frz o' u')->b≠d:=fun b v h1 h2 z=>by
  subst z
  rw[e] at h1
  cases h1
  exact h2 _ _ rfl
 have ne0:∀ b,H b=none->b≠d:=fun b h1 z=>by
  subst z
  rw[e] at h1
  cases h1
 refine⟨I.ok,I.os,I.bare,⟨I.base.keep,I.base.slot,fun b ob q hn hx=>?_,I.base.there,fun b xs q=>?_,fun b ob v q=>?_,fun b ps q=>?_⟩,I.loc,I.cell,?_,fun x c q=>?_,fun p hp=>?_,fun b v q=>?_,I.len⟩
 .have z:=I.base.free b ob q hn hx
  rw[xg (ne0 b z)]
  exact z
 .have z:=I.base.tups b xs q
  rw[xg (ne b _ z (fun _ _ h=>nomatch h))]
  exact z
 .have z:=I.base.frzs b ob v q
  have hb:b≠d:=fun w=>by
   subst w
   exact nf _ _ q
  rw[xg hb]
  exact z
 .obtain ⟨m,z⟩:=I.base.tbls b ps q
  exact⟨m,by rw[xg (ne b _ z (fun _ _ h=>nomatch h))]; exact z⟩
 .rw [xg (ne0 _ I.free)]
  exact I.free
 .rw [xg (ne0 _ (I.freeC x c q))]
  exact I.freeC x c q
 .obtain ⟨a1,a2,a3⟩:=I.pin p hp
  exact⟨a1,by rw[xg (ne0 _ a2)]; exact a2,a3⟩
 .have st:∀(a:Addr) (v:HO),xav X.prog X.w H s.heap a v->xav X.prog X.w (upd H d u) s.heap a v:=fun a v k =>
   k.stay (fun c v _ q=>q) (fun c q=>by rw[xg (ne c _ q (fun _ _ h=>nomatch h))]; exact q) fun c xs q=>by rw[xg (ne c _ q (fun _ _ h=>nomatch h))]; exact q
  by_cases hb:b=d
  .subst hb
   rw[xf] at q
   cases q
   obtain⟨g,ok⟩:=I.hok b _ e
   exact st _ _ ok
  .rw [xg hb] at q
   exact st _ _ (I.hok b v q)
theorem Inv.nofrz {d:Addr}{kvs:List (Key × V)} (I:Inv X pins σ H s) (e:H d=some (.dK kvs)):∀ o' u',X.H₀ d≠some (.frz o' u'):=fun o' u' z=>by
 have q:=I.base.frzs d o' u' z
 rw[e] at q
 cases q
theorem KV.get:∀{kvs:List (Key × V)}{vs:List (Key × Value)}{i:Nat}{k:Key}{x:V},KV kvs vs->kvs[i]?=some (k,x)->∃ u,vs[i]?=some (k,u)/\RelV x u
 | _,_,_,_,_,.nil,e=>by simp at e
 | _,(_,_)::_,0,_,_,.cons r _,e=>by
  simp at e
  subst e
  obtain⟨r1,r2⟩:=r
  dsimp only at r1 r2
  subst r1
  exact⟨_,rfl,r2⟩
 | _,_,i+1,k,x,.cons _ t,e=>by
  obtain⟨u,h1,h2⟩:=KV.get (i:=i) (k:=k) (x:=x) t (by simpa using e)
  exact⟨u,by simpa using h1,h2⟩
theorem xsy {P:Program}{w:World}{k:Key}{u:Value} (h:(xaj P w).is k u=true):RelV (kV k) u:=by
 rcases xbg (show xey k u=true from h) with⟨i,t,rfl,rfl⟩|⟨x,t,rfl,rfl⟩
 .exact ⟨t,rfl⟩
 .exact ⟨t,rfl⟩
theorem xmr {d:Addr}{o:Obj}{kvs:List (Key × V)}{ep:Nat} (I:Inv X pins σ H s) (e:H d=some (.frz o (.dK kvs))) (hep:∃ es,o.data=.dict es ep):∃ vs,KV kvs vs/\s.heap.DictAt (xaj X.prog X.w) d vs ep:=by
 obtain⟨g,_,_,vs,rel,o',es',ep',g',ex,hdat,hk,hp,hn⟩:=I.hok d _ e
 rw[g] at g'
 cases g'
 obtain⟨es,he⟩:=hep
 rw[he] at hdat
 cases hdat
 exact⟨vs,rel,o,_,g,ex,he,hk,hp,hn⟩
end
def Iti (d:Addr) (o:Obj) (kvs:List (Key × V)):It :=
 ⟨fun i H=>H d=some (.frz o (.dK kvs))/\i<kvs.length,fun i H v H'=>∃ p k x,kvs[i]?=some (k,x)/\v=.ref p/\H p=none/\H'=upd H p (.tup [kV k,x]),fun i H=>H d=some (.frz o (.dK kvs))/\kvs.length<=i⟩
theorem xml {P:Program}{w:World}{K:PySem.W.Frag}{elts:List Expr}{x1}{tpos:Pos} (d it:Addr) (o:Obj) (kvs:List (Key × V)) (ep:Nat) (hep:∃ es,o.data=.dict es ep) :
    Turn P w K (.Tuple elts x1 tpos) (Iti d o kvs) [it] it (fun i h=>∃ ok ov,IsItemIter h it d i kvs.length ep ok ov) where
  mem:=by simp
  obj:=fun i h st b hb=>by
    have e:b=it:=by simpa using hb
    subst e
    obtain⟨ok,ov,st⟩:=st
    exact⟨_,st,fun v z=>by
      have z':Data.fields _=Data.cell v:=z
      cases z'⟩
  keep:=fun i h h' ⟨ok,ov,st⟩ k=>⟨ok,ov,k it (by simp) _ st⟩
  item:=by
    intro X hP hw hK hc i pins s σ H E I hf st hg
    subst hP hw hK
    obtain⟨ok,ov,st⟩:=st
    obtain⟨e,lt⟩:=hg
    obtain⟨vs,rel,da⟩:=xmr I e hep
    obtain⟨f0,f1,f2,f3,f4,f5⟩:=hf it (by simp)
    have hl:kvs.length=vs.length:=rel.length
    obtain⟨⟨k,x⟩,q⟩:∃ y,kvs[i]=y:=⟨_,rfl⟩
    have hx:kvs[i]?=some (k,x):=by rw[List.getElem?_eq_getElem lt,q]
    obtain⟨u,hv,ru⟩:=rel.get hx
    rw[hl] at st
    refine wpAny_pyNext_items_item st da hv fun key h' hkey hout ht hz hkp=>?_
    refine⟨_,rfl,wpAny_letOwnedTupleGo_items hout fun h'' hit' hsb=>?_⟩
    have kk:∀ b o,b≠it->s.heap.get? b=some o->h''.get? b=some o:=fun b o hb g=>(hsb.2 b hb).trans (hkp b o hb g)
    have I1:Inv X pins σ H { s with heap:=h'' }:=I.turned (t':=s.toks) kk f0 f1 f3 f4 f5
    obtain⟨n0,nL,nC,nP⟩:=I.size_lt (Nat.le_refl s.heap.objs.size)
    have itlt:it<s.heap.objs.size:=Heap.lt_size st
    have pne:s.heap.objs.size≠it:=Nat.ne_of_gt itlt
    have hp:h''.get? s.heap.objs.size=some { cls:=.type "tuple",data:=.seq #[key,u] }:=(hsb.2 _ pne).trans ht
    refine⟨.ref s.heap.objs.size,upd H s.heap.objs.size (.tup [kV k,x]),I1.adopt n0 I.sz nL nC nP ⟨by show 2<=sizeLine; decide,[key,u],.cons (xsy hkey) (.cons ru .nil),_,hp,rfl,_,rfl⟩,rfl,⟨_,k,x,hx,rfl,n0,rfl⟩,?_,fun b hb=>?_⟩
    . rw[<- hl] at hit'
      exact⟨_,_,hit'⟩
    . have e:b=it:=by simpa using hb
      subst e
      rw[xg (Ne.symm pne)]
      exact f0
  done:=by
    intro X hP hw hK hc i pins s σ H E I hf st hg
    subst hP hw hK
    obtain⟨ok,ov,st⟩:=st
    obtain⟨e,le⟩:=hg
    obtain⟨vs,rel,da⟩:=xmr I e hep
    obtain⟨f0,f1,f2,f3,f4,f5⟩:=hf it (by simp)
    have hl:kvs.length=vs.length:=rel.length
    rw[hl] at st
    exact wpAny_pyNext_items_end (I.ok.hd hc) st da (by simpa using (by omega:vs.length<=i)) fun h' eb=>⟨rfl,I.turned (t':=s.toks) (fun b o hb e=>eb b o hb e) f0 f1 f3 f4 f5⟩
  self:=fun _ _ _ _ _ ⟨ok,ov,st⟩ h=>PySem.W.kcp_self st h
def xsr (X:Cx) (to:TE):TI:=fun σ H R=>to σ H fun x H1=>∃ d kvs,x=.ref d/\H1 d=some (.dK kvs)/\∀ ob,(∀ o' u',X.H₀ d≠some (.frz o' u'))->R (Iti d ob kvs) (upd H1 d (.frz ob (.dK kvs)))
section
variable {X:Cx}{o:Expr}{to:TE}{elts:List Expr}{x1:_}{tpos apos cpos:Pos}
theorem xgx (ho:PE X o to) (hbase:attributeBase o "items" X.env (eval o X.env)=eval o X.env:=by rfl) (hline:(apos.endLine == cpos.line)=true:=by rfl) :
    PI X (.Tuple elts x1 tpos) (.Call (.Attribute o "items" apos) [] [] cpos) (xsr X to):=by
  intro pins s σ H R I h
  refine wpAny_Call_method0_late hbase hline (thn (ho pins s σ H _ I h) fun v s1 ⟨x,H1,I1,r1,q1⟩=>?_)
  obtain⟨d,kvs,e1,e,q⟩:=q1
  subst e1
  cases r1
  obtain⟨z,hd,vs,rel,dd⟩:=xf9 I1.hok e
  obtain⟨ob,es,ep,g,ex,hdat,hk,hp,hn⟩:=id dd
  refine⟨"dict", "dict.items",PySem.F.plainAttrs_dict,PySem.F.slot_dict_items,PySem.F.type_dict_items,dd.typeIs,fun a e2=>?_,Calls.callWith_builtin rfl (PySem.evalArgs_none ?_)⟩
  . cases e2
    exact⟨ob,g,ex.2.1⟩
  refine call_meetsIn PySem.F.slot_dict_items dd.typeIs PySem.F.entry_dict_items (PySem.F.args_dict_items_1 _) (meets_dict_items (xaj X.prog X.w) d hd) ⟨⟨vs,dd⟩,?_⟩
  have da:(s1.heap.push { cls:=.type "dict_items",data:=.fields #[.ref d] }).DictAt (xaj X.prog X.w) d vs ep:=⟨ob,es,Heap.get?_push_of_some _ g,ex,hdat,hk,hp,hn⟩
  refine wpAny_pyIter_items (s:={ s1 with heap:=s1.heap.push { cls:=.type "dict_items",data:=.fields #[.ref d] } }) ⟨_,Heap.get?_push_size _ rfl,rfl,rfl⟩ da ?_
  have I2:Inv X pins σ H1 { s1 with heap:=s1.heap.push { cls:=.type "dict_items",data:=.fields #[.ref d] } }:=I1.kept (t':=s1.toks) fun b o e=>Heap.get?_push_of_some _ e
  generalize hs2:({ s1 with heap:=s1.heap.push { cls:=.type "dict_items",data:=.fields #[.ref d] } }:Shared)=s2 at I2
  have g2:s2.heap.get? d=some ob:=by rw[<- hs2]; exact Heap.get?_push_of_some _ g
  have I3:Inv X pins σ (upd H1 d (.frz ob (.dK kvs))) s2:=I2.write (t':=s2.toks) (x:=d) (e:=d) (by rw[e]; exact True.intro) (.inl rfl) (fun b u _ q=>q) ⟨ob,g2⟩ ⟨g2,I2.hok d _ e⟩
  have I4:Inv X pins σ (upd H1 d (.frz ob (.dK kvs))) { s2 with heap:=s2.heap.push { cls:=.type "dict_itemiterator",data:=.fields #[.none,.bool false,.ref d,.int 0 0,.int vs.length 0,.int ep 0,.none,.none] } } :=
    I3.kept (t':=s2.toks) fun b o e=>Heap.get?_push_of_some _ e
  have fin:PIE X pins σ (.Tuple elts x1 tpos) R (.ref s2.heap.objs.size) { s2 with heap:=s2.heap.push { cls:=.type "dict_itemiterator",data:=.fields #[.none,.bool false,.ref d,.int 0 0,.int vs.length 0,.int ep 0,.none,.none] } }:=by
    refine⟨s2.heap.objs.size,[s2.heap.objs.size],_,_,upd H1 d (.frz ob (.dK kvs)),rfl,I4,xml d _ ob kvs ep ⟨es,hdat⟩,⟨.none,.none,?_⟩,fun b hb=>?_,q ob (I1.nofrz e)⟩
    . have hl:kvs.length=vs.length:=rel.length
      show IsItemIter _ _ d 0 kvs.length ep .none .none
      rw[hl]
      exact Heap.get?_push_size _ rfl
    . have eb:b=s2.heap.objs.size:=by simpa using hb
      subst eb
      exact I3.fpOk (Nat.le_refl _) (I3.hok.fresh (Nat.le_refl _))
  exact fin
theorem xoo {pins:List (Addr × Obj)}{σ:St}{Q:VK}{u:Value}{s:Shared} (h:EP X pins σ (fun v H2=>∃ d ob u,H2 d=some (.frz ob u)/\(∀ o' u',X.H₀ d≠some (.frz o' u'))/\Q v (upd H2 d u)) u s):EP X pins σ Q u s:=by
 obtain⟨v,H2,I2,r2,d,ob,u',e,nf,q⟩:=h
 exact⟨v,_,I2.thaw e nf,r2,q⟩
theorem xqb {e:Expr}{t:TE} (h:PE X e t):PE X e (fun σ H Q=>t σ H fun v H2=>∃ d ob u,H2 d=some (.frz ob u)/\(∀ o' u',X.H₀ d≠some (.frz o' u'))/\Q v (upd H2 d u)):=fun pins s σ H Q I q =>
 thn (h pins s σ H _ I q) fun _ _ z=>xoo z
end
end L2
namespace PySem.F
theorem xl_plain_dict_loop:plainId "dict.update.loop"=true:=by decide +kernel
theorem xl_entry_dict_loop:entryFor table "dict.update.loop"=some Builtin.«dict.update.loop»:=entryFor_of_tree (by kernel_rfl)
theorem xl_list_nokeys:typeLookup (.type "list") "keys"=pure none:=by rw[typeLookup_type,builtinLookup_eq_fast]; kernel_rfl
end PySem.F
namespace L2
open PySem PySem.Spec PyProof.Rows XL
variable {q0:Bool}
theorem xnt {prog:Program}{w:World}{A:Around}{E:Value->Shared->Prop}{s:Shared}{a:Addr}{o:Obj}{xs:Array Value}{k:Nat}{Q:Option Value->Shared->Prop}
    (hx:s.heap.get? a=some o) (hc:o.cls=.type "list") (hdat:o.data=.seq xs k) (hd:o.dict=none) (hA:A.handled=none)
    (h:∀ h' tk,(∀ b o,s.heap.get? b=some o->h'.get? b=some o)->Q none { s with heap:=h',toks:=tk }):wpAny (model prog w) A (getAttr? (.ref a) "keys") Q E s:=by
  obtain⟨c,dct,dat,sl⟩:=o
  simp only at hc hdat hd
  subst hc hdat hd
  obtain⟨hp,g,d,tk,os⟩:=s
  have hT:∀ tk',(⟨hp,g,d,tk',os⟩:Shared).TypeIs (.ref a) "list":=fun _=>⟨_,hx,rfl⟩
  have f1:=sub_AttributeError
  have f3:=F.slot_list_getattribute.lookup
  have f4:=F.slot_list_getattribute.bind (.ref a)
  have f5:=am_list_getattr_none
  unfold getAttr? getAttrBy? getAttrBy
  repeat (any_goals (first|assumption|exact hT _|((with_reducible show wpAny _ _ (call (Value.builtin "list.__getattribute__") _ _) _ _ _); refine call_meets F.slot_list_getattribute (hT _) am_entry_list_getattribute (F.args_list_getattribute_2 _ _) (meets_getattribute_miss_list a xs k sl "keys" _ F.xl_list_nokeys (by decide +kernel) (by size_fits)) ⟨hx,hA,fun h' tk' e hx'=>?_⟩)|wp_step))
  obtain⟨t',u',he⟩:=hx'.there
  have hk:=hx'.of.keeps
  show wpAny _ _ (getattributeRaised _ _ _ _ _ _ _) _ _ _
  unfold getattributeRaised
  repeat (any_goals (first|assumption|wp_step))
  exact h _ _ hk
section
variable {X:Cx}{pins:List (Addr × Obj)}{σ:St}{H:Hp}{s:Shared}{a:Addr}{y v:V}{u r:Value}{A:Around}{E:Value->Shared->Prop}
theorem xmn {H':Hp}{Q:Unit->Shared->Prop} (hu:A.units<cLine) (I:Inv X pins σ H s) (g:DPut H a y v H') (ry:RelV y u) (rv:RelV v r) (h:∀ s',Inv X pins σ H' s'->Q () s') :
    wpAny (model X.prog X.w) A (dictSet a u r) Q E s:=by
  rcases g with⟨kvs,k,e,ey,l,eH⟩|⟨kvs,k,b,e,ey,eb,l,eH⟩
  . subst ey eH
    obtain⟨z,hd,vs,rel,dd⟩:=xf9 I.hok e
    have hz:vs.length<=sizeLine:=by rw[<- rel.length]; exact z
    have hl:(putK kvs k v).length<=sizeLine:=by have:=xbx kvs k v; omega
    refine wpAny_dictSet_pairs (hsz:=hz) (xcp ry) dd fun h' dd' hs=>h _ ?_
    have he:∃ q,h'.get? a=some q:=let ⟨q,_,_,hq,_⟩:=dd'; ⟨q,hq⟩
    exact xdc I (by rw[e]; exact True.intro) hs he (xha hl hd (rel.put k rv) dd')
  . subst ey eH
    cases (show u=Value.ref b from ry)
    obtain⟨z,hd,xs,rel,dd⟩:=xhp I.hok e
    have hz:xs.length<=sizeLine:=by rw[<- Paired.length rel]; exact z
    have hl:(putK kvs k v).length<=sizeLine:=by have:=xbx kvs k v; omega
    refine wpAny_dictSet_heap (hsz:=hz) (show (tupleKind (xaj X.prog X.w)).room A from hu) (xd0 I.hok eb) dd fun h' dd' hs=>h _ ?_
    obtain⟨q,es,ep,hq,h2,h3,h4,_,h5⟩:=dd'
    refine xdc I (by rw[e]; exact True.intro) hs ⟨q,hq⟩ ⟨hl,hd,_,(rel.put k eb rv).keeps fun c ys ec=>?_,q,es,ep,hq,h2,h3,h4,h5⟩
    rw[xg (x5 ec e (fun z=>nomatch z))]
    exact ec
theorem DPut.stay {d b:Addr}{H':Hp}{o:HO} (g:DPut H d y v H') (e:H b=some o) (n1:∀ kvs,o≠.dK kvs) (n2:∀ kvs,o≠.dT kvs):H' b=some o:=by
 rcases g with⟨kvs,k,e2,_,_,rfl⟩|⟨kvs,k,b2,e2,_,_,_,rfl⟩
 .rw [xg (x5 e e2 (n1 _))]
  exact e
 .rw [xg (x5 e e2 (n2 _))]
  exact e
theorem DPut.free {d b:Addr}{H':Hp} (g:DPut H d y v H') (e:H b=none):H' b=none:=by
 rcases g with⟨kvs,k,e2,_,_,rfl⟩|⟨kvs,k,b2,e2,_,_,_,rfl⟩
 .rw [xg (Ne.symm (xi e2 e))]
  exact e
 .rw [xg (Ne.symm (xi e2 e))]
  exact e
end
inductive xfv (d:Addr):Hp->List (V × V)->Hp->Prop
 | nil {H:Hp}:xfv d H [] H
 | cons {H H1 H2:Hp}{y v:V}{r:List (V × V)}:DPut H d y v H1->xfv d H1 r H2->xfv d H ((y,v)::r) H2
theorem xgg {X:Cx}{pins:List (Addr × Obj)}{σ:St}{A:Around}{R:Result->Shared->Prop} (hh:A.in1.handled=none) (hu:A.in1.units<cLine) {l it d:Addr} :
    ∀(ps:List (Addr × V × V)) (pre:List V) (j:Int) (H H2:Hp) (s:Shared),Inv X pins σ H s->H l=some (.lst (pre++ps.map fun p=>.ref p.1))->(∀ p∈ps,H p.1=some (.tup [p.2.1,p.2.2]))->xfv d H (ps.map (·.2)) H2 ->
      s.heap.IsListIter it l pre.length->FpOk X pins H it->(∀ s',Inv X pins σ H2 s'->R (.ok (.ret .none)) s') ->
      codeAny (model X.prog X.w) A (.builtin "dict.update.loop" ⟨[.ref d,.ref it,rawInt j,.none],[]⟩) R s
  | [],pre,j,H,H2,s,I,hl,hp,dp,st,fo,fin=>by
    cases dp
    obtain⟨z,its,n,r,hl2,e⟩:=I.lstM hl
    obtain⟨f0,f1,f2,f3,f4,f5⟩:=fo
    refine codeAny_builtin F.xl_entry_dict_loop ?_
    rw[Around.under_plainId F.xl_plain_dict_loop _]
    show wpAny _ A.in1 (pyNext (.ref it)>>=_) _ _ s
    refine wpAny_bind (wpAny_pyNext_list_end hh st ⟨_,e,rfl,_,rfl⟩ (by simp at hl2 ⊢; omega) fun h' eb=>?_)
    show wpAny _ A.in1 (Builtin.Dict.addKeywords d []>>=_) _ _ _
    exact wpAny_bind (wpAny_pure (wpAny_pure (fin _ (I.turned (t':=s.toks) (fun b o hb e=>eb b o hb e) f0 f1 f3 f4 f5))))
  | (a,y,v)::ps,pre,j,H,H2,s,I,hl,hp,dp,st,fo,fin=>by
    have fo':=fo
    obtain⟨f0,f1,f2,f3,f4,f5⟩:=fo
    cases dp with
    | @cons _ H1 _ _ _ _ g dp =>
    obtain⟨z,its,n,r,hl2,e⟩:=I.lstM hl
    obtain⟨u,hu1,ru⟩:=r.get (i:=pre.length) (x:=.ref a) (by simp)
    obtain rfl:u=Value.ref a:=ru
    refine codeAny_builtin F.xl_entry_dict_loop ?_
    rw[Around.under_plainId F.xl_plain_dict_loop _]
    show wpAny _ A.in1 (pyNext (.ref it)>>=_) _ _ s
    refine wpAny_bind (wpAny_pyNext_list_item st ⟨_,e,rfl,_,rfl⟩ (x:=.ref a) (by simpa using hu1) fun h' st' sb=>?_)
    have I1:Inv X pins σ H { s with heap:=h' }:=I.turned (t':=s.toks) (fun b o hb e=>(sb.2 b hb).trans e) f0 f1 f3 f4 f5
    obtain⟨z2,ts,rt,ot,et,ct,nt,dt⟩:=I1.hok a _ (hp _ List.mem_cons_self)
    obtain⟨uk,uv,rfl,rk,rv⟩:=xhn rt
    show wpAny _ A.in1 (holding [.ref a] _>>=_) _ _ _
    refine wpAny_bind (wpAny_holding ?_)
    refine wpAny_bind (wpAny_tryCatch ?_)
    unfold Builtin.Dict.pairItems
    refine wpAny_bind (wpAny_typeOf (T:="tuple") ⟨ot,et,ct⟩ ?_)
    rw[if_pos (by decide)]
    refine wpAny_bind (wpAny_seqItems et dt (wpAny_pure ?_))
    show wpAny _ A.in1 (holding [uk,uv] (dictSet d uk uv)) _ _ _
    have ob:∀ b∈[it],∃ o,h'.get? b=some o/\∀ v,o.data≠.cell v:=fun b hb=>by
      have e:b=it:=by simpa using hb
      subst e
      obtain⟨o,e,c,d⟩:=id st'
      exact⟨o,e,fun v z=>by rw[d] at z; cases z⟩
    have I1':=I1.pinned (fp:=[it]) (fun b hb=>by
      have e:b=it:=by simpa using hb
      subst e
      exact fo') ob
    refine wpAny_holding (xmn hu I1' g rk rv fun s' I2=>?_)
    refine wpAny_pure ⟨plainId_quiet F.xl_plain_dict_loop _,?_⟩
    have fo2:FpOk X pins H1 it:=⟨g.free f0,f1,f2,f3,f4,f5⟩
    have st2:s'.heap.IsListIter it l (pre++[V.ref a]).length:=by
      rw[List.length_append]
      exact st'.at fun o e=>(I2.pin (it,o) (List.mem_append_right _ (List.mem_append_right _ (xc5 (by simp) e)))).1
    refine xgg hh hu ps (pre++[V.ref a]) (j+1) H1 H2 s' I2.unpinned ?_ (fun p hp'=>?_) dp st2 fo2 fin
    . have z:=g.stay hl (fun _ q=>nomatch q) (fun _ q=>nomatch q)
      rw[z]
      simp
    . exact g.stay (hp p (List.mem_cons_of_mem _ hp')) (fun _ q=>nomatch q) (fun _ q=>nomatch q)
def xrc:List V->Hp->VK->Prop:=fun xs H Q=>∃(l:Addr) (ps:List (Addr × V × V)),xs=[.ref l]/\H l=some (.lst (ps.map fun p=>.ref p.1))/\(∀ p∈ps,H p.1=some (.tup [p.2.1,p.2.2])) /\
 ∀ d,H d=none->∃ e H2,(e=.dK []\/e=.dT [])/\xfv d (upd H d e) (ps.map (·.2)) H2/\Q (.ref d) H2
theorem xkl {X:Cx} (hc:X.calm=true) (hu:X.A.units+3<cLine):xbu X (.type "dict") xrc:=by
 intro pins s σ H xs us Q I r h
 obtain⟨l,ps,rfl,hl,hp,q⟩:=h
 obtain⟨u,rfl,rx⟩:=xb3 r
 obtain rfl:u=Value.ref l:=rx
 refine callType_codes (Q₁:=fun obj s₁=>obj=.ref s.heap.objs.size/\s₁={ s with heap:=s.heap.push { cls:=.type "dict",data:=.dict #[] } }) F.kt_called_dict (F.kt_typeCall_dict_1 _) F.entry_dict_init (kt_code_dict_new _ ⟨rfl,rfl⟩) ?_
 rintro obj s₁ ⟨rfl,rfl⟩
 obtain⟨e,H2,he,dps,q2⟩:=q s.heap.objs.size I.fresh
 have I1:Inv X pins σ (upd H s.heap.objs.size e) { s with heap:=s.heap.push { cls:=.type "dict",data:=.dict #[] } }:=by
  refine I.laid (t':=s.toks) (fun b u e=>Heap.get?_push_of_some _ e) (Nat.le_refl _) ?_
  rcases he with rfl|rfl
  .exact xgv s.heap I.big
  .exact xjo s.heap I.big
 have hT:(Shared.mk (s.heap.push { cls:=.type "dict",data:=.dict #[] }) s.gens s.drawn s.toks s.os).TypeIs (.ref s.heap.objs.size) "dict":=⟨_,Heap.get?_push_size _ rfl,rfl⟩
 have nl:l≠s.heap.objs.size:=fun z=>by
  rw[z,I.fresh] at hl
  cases hl
 have hl1:upd H s.heap.objs.size e l=some (.lst (ps.map fun p=>.ref p.1)):=by rw[xg nl]; exact hl
 obtain⟨z,its,n,rr,hll,el⟩:=I1.lstM hl1
 refine⟨hT,F.args_dict_init_2 _ _,?_⟩
 unfold Builtin.«dict.__init__»
 refine wpAny_bind ?_
 unfold Builtin.Dict.selfAndRest
 refine wpAny_bind (wpAny_notOrdered_dict hT ?_)
 show wpAny _ _ (pure (s.heap.objs.size,[Value.ref l])) _ _ _
 refine wpAny_pure ?_
 show wpAny _ _ (Builtin.Dict.updateFrom "dict.__init__" s.heap.objs.size (.ref l) [] .none) _ _ _
 unfold Builtin.Dict.updateFrom
 refine wpAny_bind (wpAny_typeOf (T:="list") ⟨_,el,rfl⟩ ?_)
 rw[if_pos (by decide)]
 refine wpAny_bind (xnt el rfl rfl rfl (I.ok.hd hc) fun h' tk hk=>?_)
 have I2:=I1.kept (h':=h') (t':=tk) hk
 show wpAny _ _ (rule _>>=_) _ _ _
 refine wpAny_bind (wpAny_rule ?_)
 refine wpAny_bind (wpAny_pyIter_list ⟨_,hk _ _ el,rfl,_,rfl⟩ ?_)
 refine wpAny_pure ⟨plainId_quiet F.xl_plain_dict_loop _,?_⟩
 have I3:Inv X pins σ (upd H s.heap.objs.size e) _:=I2.kept (t':=tk) (h':=h'.push { cls:=.type "list_iterator",data:=.fields #[.ref l,.int 0 0] }) fun b o e=>Heap.get?_push_of_some _ e
 refine xgg (A:=X.A.in1) (I.ok.hd hc) (by show X.A.units+1+1<cLine; omega) ps [] 0 _ H2 _ I3 (by simpa using hl1) (fun p hp'=>?_) dps ?_ ?_ fun s' I'=>?_
 .rw [xg (xi (hp p hp') I.fresh)]
  exact hp p hp'
 .exact ⟨_,Heap.get?_push_size _ rfl,rfl,rfl⟩
 .exact I2.fpOk (Nat.le_refl _) (I2.hok.fresh (Nat.le_refl _))
 .exact ⟨rfl,⟨.ref _,H2,I',rfl,q2⟩⟩
theorem xep {X:Cx}{e:Expr}{t1 t2:TE} (h1:PE X e t1) (h2:PE X e t2):PE X e (fun σ H Q=>t1 σ H Q\/t2 σ H Q):=fun pins s σ H Q I h=>h.elim (h1 pins s σ H Q I) (h2 pins s σ H Q I)
def Itrs (lo d:Int) (n:Nat):It:=⟨fun i _=>i<n,fun i H x H'=>H'=H/\x=.int (lo+(i:Int)*d),fun i _=>n<=i⟩
theorem xkk {P:Program}{w:World}{K:PySem.W.Frag}{tg:Expr} (it:Addr) (lo d:Int) (n:Nat):Turn P w K tg (Itrs lo d n) [it] it (fun i h=>IsRangeIter h it (lo+(i:Nat)*d) ((n:Int)-(i:Nat)) d) where
 mem:=by simp
 obj:=fun i h st b hb=>by
  have e:b=it:=by simpa using hb
  subst e
  exact⟨_,st,fun v z=>by
   have z':Data.fields _=Data.cell v:=z
   cases z'⟩
 keep:=fun i h h' st k=>k it (by simp) _ st
 item:=by
  intro X hP hw hK hc i pins s σ H E I hf st hg
  subst hP hw hK
  obtain⟨f0,f1,f2,f3,f4,f5⟩:=hf it (by simp)
  have W:=Walks.range (prog:=X.prog) (w:=X.w) (I.ok.hd hc) it lo d n
  refine W.item i s _ _ hg st fun v h' tk hv st' kk=>?_
  obtain⟨t,rfl⟩:=hv
  have I1:Inv X pins σ H { s with heap:=h',toks:=tk }:=I.turned (fun b o hb e=>kk b o (by simpa using hb) e) f0 f1 f3 f4 f5
  exact⟨_,rfl,xmc (s:={ s with heap:=h',toks:=tk }) (n:="range_iterator") st' rfl rfl (by decide) ⟨.int (lo+(i:Int)*d),H,I1,⟨t,rfl⟩,⟨rfl,rfl⟩,st',fun b hb=>(hf b hb).1⟩⟩
 done:=by
  intro X hP hw hK hc i pins s σ H E I hf st hg
  subst hP hw hK
  obtain⟨f0,f1,f2,f3,f4,f5⟩:=hf it (by simp)
  exact wpAny_pyNext_range_end (I.ok.hd hc) st (by have:n<=i:=hg; omega) fun h' eb=>⟨rfl,I.turned (t':=s.toks) (fun b o hb e=>eb b o hb e) f0 f1 f3 f4 f5⟩
 self:=fun _ _ _ _ _ st h=>wpAny_pyIter_rangeiter st h
theorem xeu (a b:Int):Builtin.Range.rangeSize a b (-1)=if b<a then a-b else 0:=by
 unfold Builtin.Range.rangeSize
 rw[if_neg (by decide)]
 simp only[Int.neg_neg,Int.ediv_one]
 split<;>omega
theorem xly {a b:Int} (ha:-(2 ^ 62)<=a) (ha':a<2 ^ 62) (hb:-(2 ^ 62)<=b) (hb':b<2 ^ 62):Builtin.Range.small a b (-1)=true:=by
 unfold Builtin.Range.small
 rw[xeu]
 simp only[Builtin.Range.rangeFitsLong,Bool.and_eq_true,Bool.or_eq_true,decide_eq_true_eq,beq_iff_eq,show ¬ ((-1:Int)>0) by decide,if_false]
 split<;>omega
section
variable {X:Cx}{tg:Expr}
theorem xh4 {pins:List (Addr × Obj)}{σ:St}{H:Hp}{s:Shared}{R:It->Hp->Prop}{E:Value->Shared->Prop}{lo hi d:Int}{n:Nat}{t u v:Tok}{tk:Nat} (I:Inv X pins σ H s) (sm:Builtin.Range.small lo hi d=true) (sz:Builtin.Range.rangeSize lo hi d=n)
    (q:R (Itrs lo d n) H):wpAny (model X.prog X.w) X.A (pyIter (.ref s.heap.objs.size)) (PIE X pins σ tg R) E { s with heap:=s.heap.push { cls:=.type "range",data:=.fields #[.int lo t,.int hi u,.int d v] },toks:=tk }:=by
  refine wpAny_pyIter_range (IsRange.new ..) sm ?_
  have I1:Inv X pins σ H { s with heap:=s.heap.push { cls:=.type "range",data:=.fields #[.int lo t,.int hi u,.int d v] },toks:=tk }:=I.kept fun b o e=>Heap.get?_push_of_some _ e
  refine⟨(s.heap.push { cls:=.type "range",data:=.fields #[.int lo t,.int hi u,.int d v] }).objs.size,[(s.heap.push { cls:=.type "range",data:=.fields #[.int lo t,.int hi u,.int d v] }).objs.size],_,_,H,rfl,
    I1.kept (t':=tk) fun b o e=>Heap.get?_push_of_some _ e,xkk _ lo d n,?_,fun b hb=>?_,q⟩
  . have e1:lo+((0:Nat):Int)*d=lo:=by simp
    have e2:((n:Nat):Int)-((0:Nat):Int)=Builtin.Range.rangeSize lo hi d:=by rw[sz]; simp
    show IsRangeIter _ _ (lo+((0:Nat):Int)*d) (((n:Nat):Int)-((0:Nat):Int)) d
    rw[e1,e2]
    exact Heap.get?_push_size _ rfl
  . have e:b=(s.heap.push { cls:=.type "range",data:=.fields #[.int lo t,.int hi u,.int d v] }).objs.size:=by simpa using hb
    subst e
    exact I1.fpOk (Nat.le_refl _) (I1.hok.fresh (Nat.le_refl _))
def xtd (ta:TA):TI:=fun σ H R=>ta σ H fun vs H1=>∃ i j d:Int,vs=[.int i,.int j,.int d]/\(-(2 ^ 62)<=i/\i<2 ^ 62/\-(2 ^ 62)<=j/\j<2 ^ 62)/\((d=1/\R (Itrs i 1 (j-i).toNat) H1)\/(d=-1/\R (Itrs i (-1) (i-j).toNat) H1))
theorem xie {a b c:Expr}{ta:TA}{p pos:Pos} (hg:Gl X "range") (hm:X.mg "range"=none) (ha:PA X [a,b,c] ta) (hs:starEach [a,b,c] X.env=[(false,eval a X.env),(false,eval b X.env),(false,eval c X.env)]:=by rfl) (hs2:starEach [b,c] X.env=[(false,eval b X.env),(false,eval c X.env)]:=by rfl) :
    PI X tg (.Call (.Name "range" p) [a,b,c] [] pos) (xtd ta):=by
  intro pins s σ H R I h
  refine Call_ (xcn I hg hm boot_range (PyProof.Rows.callWith_type1 (thn (ha pos pins s σ H _ I h) fun us s1 ⟨vs,H1,I1,r1,q1⟩=>?_) (by rw[hs,hs2]) (by rw[hs2]; rfl)))
  obtain⟨i,j,d,e,⟨q1,q2,q3,q4⟩,q⟩:=q1
  subst e
  cases r1 with
  | cons r rr =>
    cases rr with
    | cons r' rr =>
      cases rr with
      | cons r'' rr =>
        cases rr
        obtain⟨t,rfl⟩:=r
        obtain⟨t',rfl⟩:=r'
        obtain⟨t'',rfl⟩:=r''
        rcases q with⟨rfl,q⟩|⟨rfl,q⟩
        . exact call_range_3 (by decide) (xh4 I1 (small_one q1 q2 q3 q4) (by rw[rangeSize_one]; split<;>omega) q) (Or.inl (PyProof.noPylong_small (by decide)))
        . exact call_range_3 (by decide) (xh4 I1 (xly q1 q2 q3 q4) (by rw[xeu]; split<;>omega) q) (Or.inl (PyProof.noPylong_small (by decide)))
end
theorem xf7 {xs:List V}{us:List Value} (r:Vals xs us) {j:Nat} (h:j<us.toArray.size):∃ x,xs[j]?=some x/\RelV x us.toArray[j]:=by
 have hl:=r.length
 have hj:j<xs.length:=by simp at h; omega
 obtain⟨u,h1,h2⟩:=r.get (x:=xs[j]) (List.getElem?_eq_getElem hj)
 refine⟨xs[j],List.getElem?_eq_getElem hj,?_⟩
 have:us.toArray[j]=u:=by
  have z:=List.getElem?_eq_some_iff.mp h1
  obtain⟨z1,z2⟩:=z
  simpa using z2
 rw[this]
 exact h2
theorem xr0 {A:Around}{k:Nat} (hr:Room q0 k A):A.units+3<cLine:=by have:=hr.un; omega
theorem xb6 {A:Around}{k:Nat} (hr:Room q0 k A):A.units+20<cLine:=by have:=hr.un; omega
theorem xih {X:Cx}:xbu X (.builtin "len") (fun xs H Q=>∃ a kvs,xs=[.ref a]/\H a=some (.dK kvs)/\Q (.int kvs.length) H):=by
 intro pins s σ H xs us Q I r h
 obtain⟨a,kvs,rfl,e,q⟩:=h
 obtain⟨u,rfl,rx⟩:=xb3 r
 obtain rfl:u=Value.ref a:=rx
 exact xtx I (.inl e) fun t s' I'=>⟨.int _,H,I',⟨t,rfl⟩,q⟩
inductive Ents (w:World):List DictEntry->List (Key × V)->Prop
 | nil:Ents w [] []
 | cons {k:Key}{x:V}{key val:Value}{h:Int}{es:List DictEntry}{kvs:List (Key × V)} (hh:h=keyH w k) (hk:RelV (kV k) key) (hv:RelV x val) (r:Ents w es kvs):Ents w (⟨h,key,val⟩::es) ((k,x)::kvs)
def xlw (w:World) (K:PySem.W.Frag) (D:Addr) (kvs:List (Key × V)):Prop:=(D == sysModules)=false/\∃(es:Array DictEntry) (ep:Nat),K.lookup D=some ⟨.type "dict",none,.dict es ep,#[]⟩/\Ents w es.toList kvs/\(kvs.map (·.1)).Nodup
theorem Ents.ok {P:Program}{w:World}{es:List DictEntry}{kvs:List (Key × V)} (h:Ents w es kvs):∃ vs,KV kvs vs/\Pairs (xaj P w) es vs/\∀ e∈es,∃ k,(xaj P w).is k e.key=true/\e.hash=(xaj P w).hash k:=by
 induction h with
 | nil=>exact⟨[],.nil,.nil,fun e z=>nomatch z⟩
 | @cons k x key val h es kvs hh hk hv _ ih =>
  obtain⟨vs,a,b,c⟩:=ih
  refine⟨(k,val)::vs,.cons ⟨rfl,hv⟩ a,.cons (xcp hk) rfl b,fun e he=>?_⟩
  rcases List.mem_cons.mp he with rfl|z
  .exact ⟨k,xcp hk,hh⟩
  .exact c e z
section
variable {X:Cx}{pins:List (Addr × Obj)}{σ:St}{H:Hp}{s:Shared}{D:Addr}{kvs:List (Key × V)}
theorem xoy (I:Inv X pins σ H s) (g:xlw X.w X.K D kvs):∃ vs,KV kvs vs/\s.heap.DictOf (xaj X.prog X.w) D vs:=by
 obtain⟨_,es,ep,l,en,nd⟩:=g
 obtain⟨vs,a,b,c⟩:=en.ok (P:=X.prog)
 refine⟨vs,a,_,es,ep,I.kIn _ _ l,⟨rfl,rfl,rfl⟩,rfl,fun e he=>c e (by simpa using he),b,?_⟩
 rw[<- a.keys]
 exact nd
def tGIn (kvs:List (Key × V)) (neg:Bool) (ty:TE):TE:=fun σ H Q=>ty σ H fun y H1=>∃ k:Key,y=kV k/\Q (.bl (if neg then !(valV kvs k).isSome else (valV kvs k).isSome)) H1
theorem xm1 {i:Expr}{ty:TE}{x:Str}{p:Pos} (hi:PE X i ty) (hg:Gl X x) (hm:X.mg x=some (.ref D)) (g:xlw X.w X.K D kvs) (hd:(x == ("__debug__":Str))=false:=by decide):PC X .NotIn i (.Name x p) (tGIn kvs true ty):=by
 intro pins s σ H Q I h
 refine thn (hi pins s σ H _ I h) fun iv s1 ⟨y,H1,I1,ry,k,ey,q1⟩=>thn (xct (v:=.ref D) hg hm rfl hd pins s1 σ H1 (fun v H2=>v=.ref D/\H2=H1) I1 ⟨rfl,rfl⟩) fun u s2 ⟨x,H2,I2,rx,e1,e2⟩=>?_
 subst ey e1 e2
 obtain rfl:u=Value.ref D:=rx
 obtain⟨vs,rel,dd⟩:=xoy I2 g
 refine wpAny_notIn_of (xcp ry) g.1 dd.mapOf ?_
 rw[<- (rel.val k).isSome_eq]
 exact⟨.bl _,_,I2.tok _,rfl,q1⟩
end
section
variable {X:Cx}{pins:List (Addr × Obj)}{σ:St}{H:Hp}{s:Shared}{h':Heap}
theorem Inv.turnedL {t':Nat}{ch:List Addr} (I:Inv X pins σ H s) (k:∀ b o,b∉ch->s.heap.get? b=some o->h'.get? b=some o) (hf:∀ b∈ch,FpOk X pins H b):Inv X pins σ H { s with heap:=h',toks:=t' }:=by
 have nit:∀ b u,H b=some u->b∉ch:=fun b u e z=>by
  have:=(hf b z).1
  rw[this] at e
  cases e
 refine I.step (g':=s.gens) (d':=s.drawn) (ch:=ch) (fun b hb=>?_) (fun b o _ _ hc e _=>k b o hc e) (fun b o _ _ hc e _=>⟨o.slots,k b o hc e⟩) (fun _ _ _ _ n=>n)
  (fun b o hc e=>⟨o,k b o hc e⟩) (fun _ _ e=>e) (fun _ _ _ e=>e) (fun b ps e=>⟨#[],by rw[e]; simp⟩) (fun m hm=>?_) (fun b u e=>?_) I.bare
 .obtain ⟨f0,f1,f2,f3,f4,f5⟩:=hf b hb
  exact⟨f3,f1,f4,f5⟩
 .obtain ⟨o,es,ep,ho,r⟩:=hm
  exact⟨o,es,ep,k _ o (fun z=>(hf _ z).2.1 rfl) ho,r⟩
 .refine (I.hok b u e).stay (fun c v hc q=>k c v ?_ q) (fun _ q=>q) fun _ _ q=>q
  rcases hc with z|z
  .rw [z]; exact nit b u e
  .exact nit c _ z
end
theorem xm4 {a b:Nat} (h:a≠b):(a:Addr)≠(b:Addr):=h
def Ite (K:PySem.W.Frag) (a:Addr):It :=
 ⟨fun i H=>∃ xs x,SqL K H a xs/\xs[i]?=some x,fun i H v H'=>∃ p x,(∀ xs,SqL K H a xs->xs[i]?=some x)/\v=.ref p/\H p=none/\H'=upd H p (.tup [.int i,x]),fun i H=>∃ xs,SqL K H a xs/\xs.length<=i⟩
theorem xmo {P:Program}{w:World}{K:PySem.W.Frag}{elts:List Expr}{x1}{tpos:Pos} (e it l:Addr) (hei:e≠it) :
    Turn P w K (.Tuple elts x1 tpos) (Ite K l) [e,it] e (fun i h=>(∃ old,IsEnum h e it i old)/\h.IsListIter it l i) where
  mem:=by simp
  obj:=fun i h st b hb=>by
    obtain⟨⟨old,he⟩,⟨o1,e1,c1,d1⟩⟩:=st
    simp only[List.mem_cons,List.not_mem_nil,or_false] at hb
    rcases hb with rfl|rfl
    . exact⟨_,he,fun v k=>by have k':Data.fields _=Data.cell v:=k; cases k'⟩
    . exact⟨_,e1,fun v k=>by rw[d1] at k; cases k⟩
  keep:=fun i h h' ⟨⟨old,he⟩,h1⟩ k=>⟨⟨old,k e (by simp) _ he⟩,h1.at fun o z=>k it (by simp) o z⟩
  item:=by
    intro X hP hw hK hc i pins s σ H E I hf st hg
    subst hP hw hK
    obtain⟨xs,x,hq,hx⟩:=hg
    obtain⟨its,rv,p,hz1⟩:=I.list hq
    obtain⟨u,hu,ru⟩:=rv.get hx
    obtain⟨⟨old,he⟩,h1⟩:=id st
    refine wpAny_pyNext_enum_item he h1 p.isList (x:=u) (by simpa using hu) hei fun h' ho hit' hT hsz hk=>?_
    refine⟨_,rfl,wpAny_letOwnedTupleGo_enum (s:={ s with heap:=h',toks:=s.toks+1 }) ho fun h'' he' hs'=>?_⟩
    have elt:e<s.heap.objs.size:=Heap.lt_size he
    have pne:s.heap.objs.size≠e:=Nat.ne_of_gt elt
    have kk:∀ b o,b∉[e,it]->s.heap.get? b=some o->h''.get? b=some o:=fun b o hb g=>by
      simp only[List.mem_cons,List.not_mem_nil,or_false,not_or] at hb
      exact (hs'.2 b hb.1).trans (hk b o hb.1 hb.2 g)
    have I1:Inv X pins σ H { s with heap:=h'',toks:=s.toks+1 }:=I.turnedL kk hf
    obtain⟨n0,nL,nC,nP⟩:=I.size_lt (Nat.le_refl s.heap.objs.size)
    have hp:h''.get? s.heap.objs.size=some { cls:=.type "tuple",data:=.seq #[.int i s.toks,u] }:=(hs'.2 _ pne).trans hT
    refine⟨.ref s.heap.objs.size,upd H s.heap.objs.size (.tup [.int i,x]),I1.adopt n0 I.sz nL nC nP ⟨by show 2<=sizeLine; decide,[.int i s.toks,u],.cons ⟨_,rfl⟩ (.cons ru .nil),_,hp,rfl,_,rfl⟩,rfl,
      ⟨_,x,fun zs hz=>by rw[I.list_inj hz hq]; exact hx,rfl,n0,rfl⟩,?_,fun b hb=>?_⟩
    . exact⟨⟨_,by simpa using he'⟩,hit'.at fun o y=>(hs'.2 it (Ne.symm hei)).trans y⟩
    . obtain⟨o,ho⟩:∃ o,s.heap.get? b=some o:=by
        obtain⟨o1,e1,c1,d1⟩:=h1
        simp only[List.mem_cons,List.not_mem_nil,or_false] at hb
        rcases hb with rfl|rfl
        . exact⟨_,he⟩
        . exact⟨_,e1⟩
      rw[xg (Nat.ne_of_lt (Heap.lt_size ho))]
      exact (hf b hb).1
  done:=by
    intro X hP hw hK hc i pins s σ H E I hf st hg
    subst hP hw hK
    obtain⟨xs,hq,hl⟩:=hg
    obtain⟨its,rv,p,hz1⟩:=I.list hq
    have e1:=rv.length
    obtain⟨⟨old,he⟩,h1⟩:=id st
    refine wpAny_pyNext_enum_end (I.ok.hd hc) he h1 p.isList (by simp; omega) fun h' hx=>⟨rfl,I.turnedL (t':=s.toks) (fun b o hb g=>?_) hf⟩
    simp only[List.mem_cons,List.not_mem_nil,or_false,not_or] at hb
    exact hx b o hb.2 g
  self:=fun _ _ _ _ _ ⟨⟨_,st⟩,_⟩ h=>wpAny_pyIter_enum st h
def xto (K:PySem.W.Frag) (ta:TA):TI:=fun σ H R=>ta σ H fun vs H1=>∃ a xs,vs=[.ref a]/\SqL K H1 a xs/\R (Ite K a) H1
section
variable {X:Cx}{elts:List Expr}{x1:_}{tpos:Pos}
theorem xc1 {a:Expr}{ta:TA}{p pos:Pos} (hg:Gl X "enumerate") (hm:X.mg "enumerate"=none) (ha:PA X [a] ta) (hs:starEach [a] X.env=[(false,eval a X.env)]:=by rfl) :
    PI X (.Tuple elts x1 tpos) (.Call (.Name "enumerate" p) [a] [] pos) (xto X.K ta):=by
  intro pins s σ H R I h
  refine Call_ (xcn I hg hm PyProof.Rows.Boot.«enumerate» (PyProof.Rows.callWith_type1 (thn (ha pos pins s σ H _ I h) fun us s1 ⟨vs,H1,I1,r1,q1⟩=>?_) hs rfl))
  obtain⟨l,xs,e,hq,q⟩:=q1
  subst e
  obtain⟨u,rfl,ru⟩:=xb3 r1
  obtain rfl:u=Value.ref l:=ru
  obtain⟨its,rv,p1,hz1⟩:=I1.list hq
  refine call_enumerate_list p1.isList fun h' he h1 hsz hk=>?_
  refine wpAny_pyIter_enum (s:={ s1 with heap:=h' }) he ?_
  have I2:Inv X pins σ H1 { s1 with heap:=h' }:=I1.kept (t':=s1.toks) hk
  refine⟨_,[s1.heap.objs.size+1,s1.heap.objs.size],_,_,H1,rfl,I2,xmo _ _ l (xm4 (by omega)),⟨⟨_,he⟩,h1⟩,fun b hb=>?_,q⟩
  have hb':s1.heap.objs.size<=b:=by
    simp only[List.mem_cons,List.not_mem_nil,or_false] at hb
    rcases hb with rfl|rfl
    . exact Nat.le_add_right _ 1
    . exact Nat.le_refl _
  exact I1.fpOk hb' (I1.hok.fresh hb')
end
theorem xe6 {K:PySem.W.Frag}{a:Addr}{xs:List V}{g:TG}{tb:TS}{D:Ends}{σ:St}{H:Hp} (Pv:Nat->St->Hp->Prop) (h0:Pv 0 σ H) (hl:∀ i σ H,i<=xs.length->Pv i σ H->SqL K H a xs)
    (hs:∀ i x p σ H,xs[i]?=some x->H p=none->Pv i σ H->g (.ref p) σ (upd H p (.tup [.int i,x])) fun σ2 H2=>tb { D with nx:=Pv (i+1),ct:=Pv (i+1),bk:=D.nx } σ2 H2) (hd:∀ σ H,Pv xs.length σ H->D.nx σ H) :
    ∃ W:Nat->Nat->St->Hp->Prop,(∃ m,W 0 m σ H)/\∀ i m σ H,W i m σ H ->
      ((Ite K a).stop i H/\D.nx σ H)\/((Ite K a).go i H/\∃ N:St->Hp->Prop,(∀ σ' H',N σ' H'->∃ m',m'<m/\W (i+1) m' σ' H')/\∀ x H',(Ite K a).yld i H x H'->g x σ H' fun σ2 H2=>tb { D with nx:=N,ct:=N,bk:=D.nx } σ2 H2):=by
  refine⟨fun i m σ H=>m=xs.length-i/\i<=xs.length/\Pv i σ H,⟨xs.length,by simp,Nat.zero_le _,h0⟩,?_⟩
  rintro i m σ H ⟨rfl,hi,p⟩
  have q:=hl i σ H hi p
  by_cases hlt:i<xs.length
  . refine .inr ⟨⟨xs,xs[i],q,by simp[hlt]⟩,Pv (i+1),fun σ' H' p'=>⟨xs.length-(i+1),by omega,rfl,hlt,p'⟩,fun x H' y=>?_⟩
    obtain⟨r,x',e1,rfl,hr,rfl⟩:=y
    exact hs i x' r σ H (e1 _ q) hr p
  . have e:i=xs.length:=by omega
    subst e
    exact .inl ⟨⟨xs,q,Nat.le_refl _⟩,hd σ H p⟩
end L2
namespace L2
open PySem PySem.Spec PyProof.Rows XL
def tMid (t:TS):TS:=fun D σ H=>∃ Pv:St->Hp->Prop,t { D with nx:=Pv } σ H/\∀ σ' H',Pv σ' H'->D.nx σ' H'
theorem xb4 {X:Cx}{st:Stmt}{t:TS} (h:PS X st t):PS X st (tMid t):=by
 intro pins s σ H D I q
 obtain⟨Pv,q1,q2⟩:=q
 refine thn (h pins s σ H { D with nx:=Pv } I q1) fun fl s1 z=>?_
 cases fl with
 | next =>
  obtain⟨σ',H',I',r⟩:=z
  exact⟨σ',H',I',q2 _ _ r⟩
 | _=>exact z
end L2
namespace XL
open PySem PySem.W
end XL
namespace L2
open PySem PySem.Spec PyProof.Rows XL
variable {q0:Bool}
end L2
namespace L2
open PySem PySem.Spec PyProof.Rows XL
end L2
namespace L2
open PySem PySem.Calls PyProof PyProof.Rows
def eU (e:V->Bool) (u:Value):Bool:=match absV u with|some y=>e y|none=>false
theorem xpt {e:V->Bool}{y:V}{u:Value} (r:RelV y u):eU e u=e y:=by unfold eU; rw[r.abs]
theorem xmp {e:V->Bool}:∀{xs:List V}{us:List Value},Vals xs us->us.any (eU e)=xs.any e
 | _,_,.nil=>rfl
 | y::xs,u::us,.cons r t=>by rw[List.any_cons,List.any_cons,xpt r,xmp t]
theorem xln:∀{xs:List V}{us:List Value},Vals xs us->∀ u∈us,∃ y∈xs,RelV y u
 | _,_,.nil=>fun u hu=>nomatch hu
 | y::xs,u::us,.cons r t=>fun u' hu=>by
  rcases List.mem_cons.mp hu with rfl|hu
  .exact ⟨y,List.mem_cons_self,r⟩
  .obtain ⟨z,h1,h2⟩:=xln t u' hu
   exact⟨z,List.mem_cons_of_mem _ h1,h2⟩
end L2
namespace PySem.F
end PySem.F
namespace L2
open PySem PySem.Spec PyProof.Rows XL
variable {q0:Bool}
end L2
namespace L2
open PySem PySem.Spec PyProof.Rows XL PySem.W
variable {q0:Bool}
theorem xh2 {prog:Program}{w:World}{A:Around}{E:Value->Shared->Prop}{s:Shared}{a:Addr}{vs:List Value}{n:Nat}{P:PySem.Fin->Shared->Prop}
    (h:s.heap.get? a=some (seqObj "list" vs.toArray n)) (h2:2<=vs.length) (h64:vs.length<64)
    (hk:∀ s':Shared,s'.heap=(((s.heap.update a (Obj.mapSeq fun x=>#[])).push (seqObj "tuple" vs.toArray 0)).push (seqObj "list" #[] 0))->s'={ s with heap:=s'.heap } ->
      wpAny (model prog w) A (keyKind' vs.toArray) (fun κ s''=>s''=s'/\KasT.kasWp (kas_ask prog w A κ vs) (kas_sort vs.length) (fun p s3=>s3=s'/\P (.done (.ret .none)) { s with heap:=sortedHeap s.heap a vs (p.map fun i=>vs.getD i .none) }) s'') (fun _ _=>False) s') :
    wpAny (model prog w) A (Builtin.«list.sort» { pos:=[.ref a] }) P E s:=by
  obtain⟨hp,g,d,tk,os⟩:=s
  rw[list_sort_plain]
  repeat (any_goals (first|assumption|wp_step))
  have z:¬ vs.toArray.toList.toArray.size>sizeLine:=by
    simp
    exact Nat.le_of_lt (Nat.lt_trans h64 (by decide))
  rw[if_neg z]
  generalize keyKind' vs.toArray=kk at hk ⊢
  repeat (any_goals (first|assumption|wp_step))
  have hk':=hk { heap:=((hp.update a (Obj.mapSeq fun x=>#[])).push (seqObj "tuple" vs.toArray 0)).push (seqObj "list" #[] 0),gens:=g,drawn:=d,toks:=tk,os:=os } rfl rfl
  refine wpAny_mono hk' (fun κ s'' z=>?_) (fun _ _ z=>z.elim)
  obtain⟨e,q⟩:=z
  subst e
  show wpAny _ _ (StateT.run (if vs.toArray.size<2 then pure () else sortRuns') _>>=_) _ _ _
  rw[if_neg (by simp; omega)]
  refine wpAny_bind (wpAny_mono (kat_run (E:=E) (Q:=fun st' s'=>∃ p:Array Nat,p.size=vs.length/\arrOf st'=Array.map (kas_item (vs.toArray.zip vs.toArray)) p/\failedOf st'=none/\s'=_/\P (.done (.ret .none)) { heap:=sortedHeap hp a vs (p.map fun i=>vs.getD i .none),gens:=g,drawn:=d,toks:=tk,os:=os }) rfl h2 h64 (fun p st' s' hp' e f q'=>⟨p,hp',e,f,q'.1,q'.2⟩) q) (fun r s' z=>?_) fun _ _ z=>z)
  obtain⟨u,st⟩:=r
  obtain⟨p,psz,e,f,rfl,q'⟩:=z
  have al:a<hp.objs.size:=Heap.lt_size h
  have g1:(((hp.update a (Obj.mapSeq fun x=>#[])).push (seqObj "tuple" vs.toArray 0)).push (seqObj "list" #[] 0)).get? a=some (seqObj "list" #[] (n+1)):=by
    refine Heap.get?_push_of_some _ (Heap.get?_push_of_some _ ?_)
    rw[Heap.get?_update_self _ h rfl]
    have z:((0:Nat) == vs.length)=false:=by
      cases vs with
      | nil=>simp at h2
      | cons=>rfl
    simp[Obj.mapSeq,z]
  have e2:(if (((fun x=>#[]) vs.toArray:Array Value).size == vs.toArray.size)=true then n else n+1)=n+1:=by
    rw[if_neg]
    simp
    omega
  simp only[e2,f]
  have e3:Array.map (fun x=>x.snd) (arrOf st)=p.map fun i=>vs.getD i .none:=by
    rw[e,Array.map_map]
    congr 1
    funext i
    show (kas_item (vs.toArray.zip vs.toArray) i).snd=_
    unfold kas_item
    by_cases c:i<vs.length
    . simp[List.getElem?_eq_getElem c,c]
    . simp[List.getElem?_eq_none (by omega:vs.length<=i),c]
  simp only[e3]
  repeat (any_goals (first|assumption|wp_step))
  have e4:(Obj.mapSeq (fun x=>Array.map (fun i=>vs.getD i Value.none) p) (seqObj "list" #[] (n+1))).data.pastItsLine=none:=by
    show (if (Array.map (fun i=>vs.getD i Value.none) p).size>sizeLine+1 then _ else none)=none
    rw[if_neg]
    rw[Array.size_map,psz]
    have:vs.length<sizeLine:=Nat.lt_trans h64 (by decide)
    omega
  rw[e4]
  refine wpAny_pure ?_
  rw[f]
  show wpAny _ _ (if (n+1 != n+1)=true then _ else _) _ _ _
  rw[if_neg (by simp)]
  exact wpAny_pure q'
theorem xjw {prog:Program}{w:World}{A:Around}{E:Value->Shared->Prop}{s:Shared}{it d:Addr}{i ep:Nat}{o:Obj}{es:Array DictEntry}{en:DictEntry}{Q:Option Value->Shared->Prop}
    (st:s.heap.IsKeyIter it d i es.size ep) (hd:s.heap.get? d=some o) (hx:o.ExactDict) (hdat:o.data=.dict es ep) (hi:es[i]?=some en)
    (h:∀ h',h'.IsKeyIter it d (i+1) es.size ep->Heap.SameBut it s.heap h'->Q (some en.key) { s with heap:=h' }):wpAny (model prog w) A (pyNext (.ref it)) Q E s:=by
  unfold pyNext
  refine wpAny_bind (wpAny_attempt (wpAny_callSpecial?_slot st.typeIs F.slot_dict_keyiterator_next ?_))
  refine wpAny_call_entry F.slot_dict_keyiterator_next st.typeIs F.entry_dict_keyiterator_next ?_ (F.args_dict_keyiterator_next_1 _)
  have ti:=st.typeIs
  obtain⟨hp,g,dr,tk,os⟩:=s
  obtain⟨⟨c,dct,dat,sl⟩,hit,ci,di⟩:=st
  simp only at ci di
  subst ci di
  unfold Builtin.«dict_keyiterator.__next__»
  repeat (any_goals (first|assumption|(with_reducible refine wpAny_typeNameOfWhole_keyiter ti ?_)|(with_reducible refine wpAny_isOneOf_keyiter ti ?_)|(with_reducible refine wpAny_dictEntries hd hdat ?_)|(with_reducible refine wpAny_dictEpoch hd hdat ?_)|wp_step))
  have e1:(if (i:Int)<0 then none else es[(i:Int).toNat]?)=some en:=by
    rw[if_neg (by omega),Int.toNat_natCast]
    exact hi
  rw[e1]
  repeat (any_goals (first|assumption|(with_reducible refine wpAny_typeNameOfWhole_keyiter ti ?_)|(with_reducible refine wpAny_isOneOf_keyiter ti ?_)|(with_reducible refine wpAny_dictEntries hd hdat ?_)|(with_reducible refine wpAny_dictEpoch hd hdat ?_)|wp_step))
  refine⟨_,rfl,wpAny_pure (h _ ?_ (Heap.SameBut.update _ _ _))⟩
  refine⟨_,Heap.get?_update_self _ hit rfl,rfl,?_⟩
  rfl
theorem xkh {prog:Program}{w:World}{A:Around}{E:Value->Shared->Prop}{s:Shared}{it d:Addr}{ep:Nat}{o:Obj}{es:Array DictEntry}{Q:Option Value->Shared->Prop}
    (hA:A.handled=none) (st:s.heap.IsKeyIter it d es.size es.size ep) (hd:s.heap.get? d=some o) (hx:o.ExactDict) (hdat:o.data=.dict es ep)
    (h:∀ h',Heap.ExtBut it s.heap h'->Q none { s with heap:=h' }):wpAny (model prog w) A (pyNext (.ref it)) Q E s:=by
  unfold pyNext
  refine wpAny_bind (wpAny_attempt (wpAny_callSpecial?_slot st.typeIs F.slot_dict_keyiterator_next ?_))
  refine wpAny_call_entry F.slot_dict_keyiterator_next st.typeIs F.entry_dict_keyiterator_next ?_ (F.args_dict_keyiterator_next_1 _)
  have ti:=st.typeIs
  obtain⟨hp,g,dr,tk,os⟩:=s
  obtain⟨⟨c,dct,dat,sl⟩,hit,ci,di⟩:=st
  simp only at ci di
  subst ci di
  unfold Builtin.«dict_keyiterator.__next__»
  repeat (any_goals (first|assumption|(with_reducible refine wpAny_typeNameOfWhole_keyiter ti ?_)|(with_reducible refine wpAny_isOneOf_keyiter ti ?_)|(with_reducible refine wpAny_dictEntries hd hdat ?_)|(with_reducible refine wpAny_dictEpoch hd hdat ?_)|wp_step))
  have e1:(if (es.size:Int)<0 then none else es[(es.size:Int).toNat]?)=none:=by
    rw[if_neg (by omega),Int.toNat_natCast]
    simp
  rw[e1]
  repeat (any_goals (first|assumption|(with_reducible refine wpAny_typeNameOfWhole_keyiter ti ?_)|(with_reducible refine wpAny_isOneOf_keyiter ti ?_)|(with_reducible refine wpAny_dictEntries hd hdat ?_)|(with_reducible refine wpAny_dictEpoch hd hdat ?_)|wp_step))
  refine wpAny_raiseNew_none hA ?_
  refine wpAny_bind (wpAny_isInstance ⟨_,Heap.get?_push_size _ rfl,rfl⟩ isSubtype_stop (wpAny_pure (h _ fun b o nb e=>?_)))
  refine Heap.get?_push_of_some _ (Heap.get?_push_of_some _ ?_)
  rw[Heap.get?_update_other _ _ (Ne.symm nb)]
  exact e
theorem xo1 {prog:Program}{w:World}{A:Around}{E:Value->Shared->Prop}{s:Shared}{d:Addr}{ep:Nat}{o:Obj}{es:Array DictEntry}{Q:Value->Shared->Prop}
    (hs:(d == sysModules)=false) (hd:s.heap.get? d=some o) (hx:o.ExactDict) (hdat:o.data=.dict es ep)
    (h:Q (.ref s.heap.objs.size) { s with heap:=s.heap.push { cls:=.type "dict_keyiterator",data:=.fields #[.ref d,.int 0 0,.int es.size 0,.int ep 0] } }):wpAny (model prog w) A (pyIter (.ref d)) Q E s:=by
  have ti:s.TypeIs (.ref d) "dict":=⟨o,hd,hx.1⟩
  obtain⟨c,dct,dat,sl⟩:=o
  obtain⟨x1,x2,x3⟩:=hx
  simp only at x1 x2 x3 hdat
  subst x1 x2 x3 hdat
  refine wpAny_pyIter_slot ti F.slot_dict_iter ?_
  refine wpAny_call_entry F.slot_dict_iter ti F.entry_dict_iter ?_ (F.args_dict_iter_1 _)
  obtain⟨hp,g,dr,tk,os⟩:=s
  unfold Builtin.«dict.__iter__»
  repeat (any_goals (first|assumption|(with_reducible refine wpAny_notOrdered_dict ti ?_)|(with_reducible refine wpAny_dictEntries hd rfl ?_)|(with_reducible refine wpAny_dictEpoch hd rfl ?_)|wp_step))
  exact⟨_,rfl,_,_,⟨_,Heap.get?_push_size _ rfl,rfl⟩,F.slot_dict_keyiterator_next.lookup,h⟩
theorem xlk {prog:Program}{w:World}{d:Addr}{ep:Nat}{o:Obj}{es:Array DictEntry} (hs:(d == sysModules)=false) (hx:o.ExactDict) (hdat:o.data=.dict es ep) :
    KdlSrc prog w "dict" d d es.size (fun i v=>∃ en,es[i]?=some en/\v=en.key) (fun h=>h.get? d=some o) where
  type:=fun s h=>⟨o,h,hx.1⟩
  there:=fun h e=>⟨Heap.lt_size e,Heap.lt_size e⟩
  keep:=fun h h' e k=>k d (.inl rfl) o e
  notList:=by decide
  notTuple:=by decide
  hint:=fun A E s Q h q=>kdl_hint_dict ⟨o,h,hx.1⟩ q
  iter:=fun A s hA h=>by
    have dl:=Heap.lt_size h
    refine⟨{ cls:=.type "dict_keyiterator",data:=.fields #[.ref d,.int 0 0,.int es.size 0,.int ep 0] },fun i h=>h.IsKeyIter s.heap.objs.size d i es.size ep/\h.get? d=some o,fun E Q q=>xo1 hs h hx hdat q,?_,⟨_,Heap.get?_push_size _ rfl,rfl,rfl⟩,Heap.get?_push_of_some _ h⟩
    have dn:d≠s.heap.objs.size:=Nat.ne_of_lt dl
    exact {
      sub:=fun b hb=>by
        have e:b=s.heap.objs.size:=by simpa using hb
        rw[e]
        simp
      frame:=fun i h h' st k=>⟨st.1.at fun o e=>k _ (by simp) o e,k _ (by simp) _ st.2⟩
      item:=fun i s' Q E hi st q=>by
        refine xjw st.1 st.2 hx hdat (Array.getElem?_eq_getElem hi) fun h' st' sb=>q _ h' s'.toks ⟨_,Array.getElem?_eq_getElem hi,rfl⟩ ⟨st',(sb.2 d dn).trans st.2⟩ fun b o hb e=>?_
        exact (sb.2 b (by simpa using hb)).trans e
      done:=fun s' Q E st q=>by
        refine xkh hA st.1 st.2 hx hdat fun h' eb=>q h' s'.toks fun b o hb e=>?_
        exact eb b o (by simpa using hb) e
      self:=fun i s' Q E st q=>wpAny_pyIter_keyiter st.1 q }
def xc0:Key->Key->Bool
 | .inl a,.inl b=>decide (a<b)
 | .inr a,.inr b=>decide (a.cps.toList<b.cps.toList)
 | _,_=>false
def lexK:List Key->List Key->Bool
 | [],[]=>false
 | [],_::_=>true
 | _::_,[]=>false
 | x::xs,y::ys=>if x=y then lexK xs ys else xc0 x y
abbrev shp (k:List Key):List Bool:=k.map Sum.isLeft
theorem xrl {a b:Str} (h:a.cps.toList=b.cps.toList):a=b:=by
 cases a
 cases b
 simp at h
 rw[h]
theorem xnb (x:Key):xc0 x x=false:=by
 cases x with
 | inl a=>simp[xc0]
 | inr a=>exact PyProof.Rows.strKind.irrefl a.cps.toList
theorem xpk {x y z:Key} (h1:xc0 x y=true) (h2:xc0 y z=true):xc0 x z=true:=by
 cases x<;>cases y<;>cases z<;>simp only[xc0,Bool.false_eq_true] at h1 h2
 .have a:=of_decide_eq_true h1
  have b:=of_decide_eq_true h2
  exact decide_eq_true (Int.lt_trans a b)
 .exact PyProof.Rows.strKind.trans _ _ _ h1 h2
theorem xny {x y:Key} (hs:x.isLeft=y.isLeft) (ne:x≠y) (h:xc0 x y=false):xc0 y x=true:=by
 cases x with
 | inl a =>
  cases y with
  | inl b =>
   have h':¬ a<b:=of_decide_eq_false h
   have n':a≠b:=fun e=>ne (by rw[e])
   exact decide_eq_true (show b<a by omega)
  | inr b=>cases hs
 | inr a =>
  cases y with
  | inl b=>cases hs
  | inr b =>
   cases e:xc0 (.inr b) (.inr a) with
   | true=>rfl
   | false=>exact absurd (by rw[xrl (PyProof.Rows.strKind.total _ _ h e)]) ne
theorem xjs:∀ x:List Key,lexK x x=false
 | []=>rfl
 | x::xs=>by
  unfold lexK
  rw[if_pos rfl]
  exact xjs xs
theorem xlr:∀{x y z:List Key},shp x=shp y->shp y=shp z->lexK x y=true->lexK y z=true->lexK x z=true
 | [],[],_,_,_,h,_=>by cases h
 | [],_::_,_,h,_,_,_=>by cases h
 | _::_,[],_,h,_,_,_=>by cases h
 | _::_,_::_,[],_,h,_,_=>by cases h
 | x::xs,y::ys,z::zs,h1,h2,h3,h4=>by
  simp only[shp,List.map_cons,List.cons.injEq] at h1 h2
  unfold lexK at h3 h4 ⊢
  by_cases xy:x=y
  .subst xy
   rw[if_pos rfl] at h3
   by_cases yz:x=z
   .rw [if_pos yz] at h4 ⊢
    exact xlr h1.2 h2.2 h3 h4
   .rw [if_neg yz] at h4 ⊢
    exact h4
  .rw [if_neg xy] at h3
   by_cases yz:y=z
   .subst yz
    rw[if_neg xy]
    exact h3
   .rw [if_neg yz] at h4
    have h5:=xpk h3 h4
    rw[if_neg (fun e=>by rw[e,xnb] at h5; cases h5)]
    exact h5
theorem xjr:∀{x y:List Key},shp x=shp y->x≠y->lexK x y=false->lexK y x=true
 | [],[],_,h,_=>absurd rfl h
 | [],_::_,h,_,_=>by cases h
 | _::_,[],h,_,_=>by cases h
 | x::xs,y::ys,h1,h2,h3=>by
  simp only[shp,List.map_cons,List.cons.injEq] at h1
  unfold lexK at h3 ⊢
  by_cases xy:x=y
  .subst xy
   rw[if_pos rfl] at h3 ⊢
   exact xjr h1.2 (fun e=>h2 (by rw[e])) h3
  .rw [if_neg xy] at h3
   rw[if_neg (fun e=>xy e.symm)]
   exact xny h1.1 xy h3
theorem xjp {prog:Program}{w:World}{A:Around}{s:Shared}{b:Bool}{Q:Bool->Shared->Prop}:∀(xs ys:List Key) (us vs:List Value) (i:Nat),shp xs=shp ys->Vals (xs.map kV) us->Vals (ys.map kV) vs->Q (lexK xs ys) s->KatLex prog w A b false Q (us.zip vs) i s
 | [],[],_,_,i,_,.nil,.nil,q=>kat_nil q
 | [],_::_,_,_,_,h,_,_,_=>by cases h
 | _::_,[],_,_,_,h,_,_,_=>by cases h
 | x::xs,y::ys,_,_,i,h,.cons ru r,.cons rv r',q=>by
  simp only[shp,List.map_cons,List.cons.injEq] at h
  unfold lexK at q
  cases x with
  | inl a =>
   cases y with
   | inr c=>cases h.1
   | inl c =>
    obtain⟨t,rfl⟩:=ru
    obtain⟨t',rfl⟩:=rv
    refine kat_cons (wpAny_eqBool_int ?_)
    unfold KatGo
    by_cases e:a=c
    .subst e
     rw[if_pos rfl] at q
     rw[if_pos (by simp)]
     exact xjp xs ys _ _ (i+1) h.2 r r' q
    .rw [if_neg (fun z=>e (Sum.inl.inj z))] at q
     rw[if_neg (by simpa using e)]
     cases (b&&i == 0) with
     | true=>exact oneLt_int q
     | false=>exact kat_one _ _ (lt_int q)
  | inr a =>
   cases y with
   | inl c=>cases h.1
   | inr c =>
    obtain⟨t,rfl⟩:=ru
    obtain⟨t',rfl⟩:=rv
    refine kat_cons (wpAny_eqBool_str ?_)
    unfold KatGo
    by_cases e:a=c
    .subst e
     rw[if_pos rfl] at q
     rw[if_pos (by simp)]
     exact xjp xs ys _ _ (i+1) h.2 r r' q
    .rw [if_neg (fun z=>e (Sum.inr.inj z))] at q
     rw[if_neg (by simpa using e)]
     cases (b&&i == 0) with
     | true=>exact oneLt_str q
     | false=>exact kat_one _ _ (lt_str q)
theorem xiw {prog:Program}{w:World}{A:Around}{E:Value->Shared->Prop}{s:Shared}{a:Addr}{vs:List Value}{n:Nat}{P:PySem.Fin->Shared->Prop}
    (h:s.heap.get? a=some (seqObj "list" vs.toArray n)) (h2:vs.length<2) (q':P (.done (.ret .none)) { s with heap:=sortedHeap s.heap a vs vs.toArray }) :
    wpAny (model prog w) A (Builtin.«list.sort» { pos:=[.ref a] }) P E s:=by
  obtain⟨hp,g,d,tk,os⟩:=s
  rcases vs with _|⟨v,_|⟨v',r⟩⟩
  . rw[list_sort_plain]
    repeat (any_goals (first|assumption|wp_step))
    show wpAny _ _ (pure (PUnit.unit,SortSt.mk' general' ((#[]:Array Value).zip #[]) #[] 7 none)) _ _ _
    refine wpAny_pure ?_
    have e3:Array.map (fun x=>x.snd) (arrOf (SortSt.mk' general' ((#[]:Array Value).zip #[]) #[] 7 none))=#[]:=by
      show Array.map (fun x=>x.snd) ((#[]:Array Value).zip #[])=#[]
      simp
    simp only[e3]
    have g1:(((hp.update a (Obj.mapSeq fun x=>#[])).push (seqObj "tuple" #[] 0)).push (seqObj "list" #[] 0)).get? a=some (seqObj "list" #[] (n)):=by
      refine Heap.get?_push_of_some _ (Heap.get?_push_of_some _ ?_)
      rw[Heap.get?_update_self _ h rfl]
      rfl
    show wpAny _ _ (seqEpoch a>>=_) _ _ _
    repeat (any_goals (first|assumption|wp_step))
  . rw[list_sort_plain]
    repeat (any_goals (first|assumption|wp_step))
    show wpAny _ _ (pure (PUnit.unit,SortSt.mk' general' ((#[v]:Array Value).zip #[v]) #[] 7 none)) _ _ _
    refine wpAny_pure ?_
    have e3:Array.map (fun x=>x.snd) (arrOf (SortSt.mk' general' ((#[v]:Array Value).zip #[v]) #[] 7 none))=#[v]:=by
      show Array.map (fun x=>x.snd) ((#[v]:Array Value).zip #[v])=#[v]
      simp
    simp only[e3]
    have g1:(((hp.update a (Obj.mapSeq fun x=>#[])).push (seqObj "tuple" #[v] 0)).push (seqObj "list" #[] 0)).get? a=some (seqObj "list" #[] (n+1)):=by
      refine Heap.get?_push_of_some _ (Heap.get?_push_of_some _ ?_)
      rw[Heap.get?_update_self _ h rfl]
      rfl
    show wpAny _ _ (seqEpoch a>>=_) _ _ _
    repeat (any_goals (first|assumption|wp_step))
  . simp at h2
    omega
theorem xfn {α:Type} (f:α->Addr):∀(es:List α),Vals (es.map fun x=>V.ref (f x)) (es.map fun x=>Value.ref (f x))
 | []=>.nil
 | x::r=>.cons rfl (xfn f r)
theorem xr3 {H:Hp}{kvs:List (List Key × V)}{es:List (List Key × Addr × Value)} (h:KT H kvs es):(∀ x∈es,H x.2.1=some (.tup (x.1.map kV)))/\es.map (·.1)=kvs.map (·.1):=by
 induction h with
 | nil=>exact⟨(fun _ z=>nomatch z),rfl⟩
 | @cons p x kvs es hp r ih =>
  obtain⟨e1,e2,_⟩:=hp
  refine⟨fun y hy=>?_,by rw[List.map_cons,List.map_cons,ih.2,e1]⟩
  rcases List.mem_cons.mp hy with rfl|z
  .rw [<- e1]
   exact e2
  .exact ih.1 y z
theorem xnj {P:Program}{w:World}{H:Hp}{h:Heap} (ok:HOk P w H h) {b:Bool}{sh:List Bool}:∀(es:List (List Key × Addr × Value)),(∀ x∈es,H x.2.1=some (.tup (x.1.map kV)))->(∀ x∈es,shp x.1=b::sh) ->
    ∃ fs,KatTups h (es.map fun x=>Value.ref x.2.1) fs/\fs.length=es.length/\∀ v∈fs,if b=true then ∃ i t,v=Value.int i t else ∃ i t,v=Value.str i t
  | [],_,_=>⟨[],KatTups.nil,rfl,fun _ z=>nomatch z⟩
  | x::es,h1,h2=>by
    obtain⟨fs,k,l,m⟩:=xnj ok es (fun y hy=>h1 y (List.mem_cons_of_mem _ hy)) (fun y hy=>h2 y (List.mem_cons_of_mem _ hy))
    obtain⟨z2,ts,rt,ot,et,ct,nt,dt⟩:=ok x.2.1 _ (h1 x List.mem_cons_self)
    have s1:=h2 x List.mem_cons_self
    obtain⟨k1,a1,v1⟩:=x
    cases k1 with
    | nil=>cases s1
    | cons k0 kr =>
      simp only[shp,List.map_cons,List.cons.injEq] at s1
      simp only[List.map_cons] at rt
      cases rt with
      | @cons _ u _ us ru rr =>
        refine⟨u::fs,KatTups.cons et ct dt (by simp) k,by simp[l],fun v hv=>?_⟩
        rcases List.mem_cons.mp hv with rfl|hv'
        . cases k0 with
          | inl i =>
            obtain⟨t,rfl⟩:=ru
            rw[if_pos (show b=true from s1.1.symm)]
            exact⟨i,t,rfl⟩
          | inr i =>
            obtain⟨t,rfl⟩:=ru
            rw[if_neg (show ¬ b=true by rw[<- s1.1]; simp)]
            exact⟨i,t,rfl⟩
        . exact m v hv'
theorem xh5 {X:Cx}{pins:List (Addr × Obj)}{σ:St}{H:Hp}{s:Shared}{h1:Heap}{tk:Nat}{Q:VK}{sh:List Bool} (es':List (List Key × Addr × Value)) (I1:Inv X pins σ H { s with heap:=h1,toks:=tk })
    (hl:es'.length<64) (km:∀ x∈es',H x.2.1=some (.tup (x.1.map kV))) (shE:∀ x∈es',shp x.1=sh) (hpos:0<sh.length) (hnd:(List.map (fun x=>x.fst) es').Nodup)
    (q:∀(l:Addr) (ts:List (List Key × Addr)),H l=none->ts.Perm (es'.map fun x=>(x.1,x.2.1))->(ts.map (·.1)).Pairwise (fun x y=>lexK x y=true)->Q (.ref l) (upd H l (.lst (ts.map fun t=>.ref t.2)))) :
    wpAny (model X.prog X.w) X.A.in1 (newList (es'.map fun x=>Value.ref x.2.1)>>=fun l=>holding [l] (call (.builtin "list.sort") [l] [])>>=fun _=>ret l) (fun fin s'=>∃ v,fin=Fin.done (Flow.ret v)/\EP X pins σ Q v s') X.xe { s with heap:=h1,toks:=tk }:=by
  have hz:es'.length<=sizeLine:=Nat.le_of_lt (Nat.lt_trans hl (by decide))
  have vals:Vals (es'.map fun x=>V.ref x.2.1) (es'.map fun x=>Value.ref x.2.1):=xfn (fun x=>x.2.1) es'
  have I2:=I1.lnew (t':=tk) vals (by rw[List.length_map]; exact hz)
  refine wpAny_bind (wpAny_newList ?_ (by rw[List.length_map]; exact hz))
  have fr:H h1.objs.size=none:=I1.fresh
  have gl:(h1.push { cls:=.type "list",data:=.seq (es'.map fun x=>Value.ref x.2.1).toArray }).get? h1.objs.size=some (seqObj "list" (es'.map fun x=>Value.ref x.2.1).toArray 0):=Heap.get?_push_size _ rfl
  refine wpAny_bind (wpAny_holding (wpAny_call_entry slot_list_sort ⟨_,gl,rfl⟩ entry_list_sort ?_ (args_list_sort _)))
  have J1:=I2.lset (l:=h1.objs.size) (its:=es'.map fun x=>Value.ref x.2.1) (its':=[]) (ys:=[]) (f:=fun _=>#[]) (t':=tk) xf gl rfl .nil (Nat.zero_le _)
  have J2:=J1.kept (t':=tk) (h':=(((h1.push { cls:=.type "list",data:=.seq (es'.map fun x=>Value.ref x.2.1).toArray }).update h1.objs.size (Obj.mapSeq fun _=>#[])).push (seqObj "tuple" (es'.map fun x=>Value.ref x.2.1).toArray 0)).push (seqObj "list" #[] 0)) fun b u e=>Heap.get?_push_of_some _ (Heap.get?_push_of_some _ e)
  obtain⟨z9,its9,n9,r9,hl9,e9⟩:=J2.lstM xf
  have done:∀(ts:List (List Key × Addr)),ts.Perm (es'.map fun x=>(x.1,x.2.1))->(ts.map (·.1)).Pairwise (fun x y=>lexK x y=true) ->
      EP X pins σ Q (.ref h1.objs.size) { s with heap:=sortedHeap (h1.push { cls:=.type "list",data:=.seq (es'.map fun x=>Value.ref x.2.1).toArray }) h1.objs.size (es'.map fun x=>Value.ref x.2.1) (ts.map fun t=>Value.ref t.2).toArray,toks:=tk }:=by
    intro ts pm pw
    have tl:ts.length=es'.length:=by rw[pm.length_eq,List.length_map]
    have J3:=J2.lset (l:=h1.objs.size) (its:=its9) (its':=ts.map fun t=>Value.ref t.2) (ys:=ts.map fun t=>V.ref t.2) (f:=fun _=>(ts.map fun t=>Value.ref t.2).toArray) (t':=tk) xf e9 rfl (xfn (fun t=>t.2) ts) (by rw[List.length_map,tl]; exact hz)
    rw[xeq,xeq] at J3
    exact⟨.ref h1.objs.size,_,J3,rfl,q _ ts fr pm pw⟩
  by_cases few:es'.length<2
  . refine xiw gl (by rw[List.length_map]; exact few) ⟨_,rfl,wpAny_pure ⟨_,rfl,?_⟩⟩
    have:=done (es'.map fun x=>(x.1,x.2.1)) (List.Perm.refl _) ?_
    . rw[List.map_map] at this
      exact this
    . match es',few with
      | [],_=>exact .nil
      | [x],_=>exact List.pairwise_singleton _ _
      | _::_::_,h=>exact absurd h (by simp)
  . refine xh2 gl (by rw[List.length_map]; omega) (by rw[List.length_map]; exact hl) fun s' es1 es2=>?_
    obtain⟨b,sh0,rfl⟩:∃ b sh0,sh=b::sh0:=by
      cases sh with
      | nil=>simp at hpos
      | cons b r=>exact⟨b,r,rfl⟩
    rw[es1] at es2
    subst es2
    have km2:∀ x∈es',upd (upd H h1.objs.size (.lst (es'.map fun x=>V.ref x.2.1))) h1.objs.size (.lst []) x.2.1=some (.tup (x.1.map kV)):=fun x hx=>by
      rw[xg (xi (km x hx) fr),xg (xi (km x hx) fr)]
      exact km x hx
    obtain⟨fs,kt,fl,fm⟩:=xnj J2.hok es' km2 shE
    have few':2<=es'.length:=by omega
    refine kat_kind (T:=if b=true then .type "int" else .type "str") kt (by omega) (fun v hv=>?_) (by cases b<;>rfl) ⟨rfl,?_⟩
    . have z:=fm v hv
      cases b with
      | true =>
        obtain⟨i,t,rfl⟩:=z
        exact fun A Q E s _ q=>wpAny_typeOf (T:="int") rfl q
      | false =>
        obtain⟨i,t,rfl⟩:=z
        exact fun A Q E s _ q=>wpAny_typeOf (T:="str") rfl q
    rw[List.length_map]
    have eAt:∀ i,i<es'.length->es'[i]?=some (es'.getD i ([],0,.none)):=fun i hi=>by
      rw[List.getD_eq_getElem?_getD,List.getElem?_eq_getElem hi]
      rfl
    have eM:∀ i,i<es'.length->es'.getD i ([],0,.none)∈es':=fun i hi=>List.mem_of_getElem? (eAt i hi)
    have vAt:∀ i,i<es'.length->(es'.map fun x=>Value.ref x.2.1).getD i .none=.ref (es'.getD i ([],0,.none)).2.1:=fun i hi=>by
      rw[List.getD_eq_getElem?_getD,List.getElem?_map,eAt i hi]
      rfl
    have shI:∀ i j,i<es'.length->j<es'.length->shp (es'.getD i ([],0,.none)).1=shp (es'.getD j ([],0,.none)).1:=fun i j hi hj=>by rw[shE _ (eM i hi),shE _ (eM j hj)]
    refine Srt.sort_wp (lt:=fun i j=>lexK (es'.getD i ([],0,.none)).1 (es'.getD j ([],0,.none)).1) ⟨fun i hi=>xjs _,fun i j k hi hj hk=>xlr (shI i j hi hj) (shI j k hj hk),fun i j hi hj ne=>xjr (shI i j hi hj) fun e=>ne ?_⟩ (fun i j hi hj Q' q'=>?_) few' fun p arr srt=>⟨rfl,_,rfl,wpAny_pure ⟨_,rfl,?_⟩⟩
    . have e1:(es'.map (·.1))[i]?=(es'.map (·.1))[j]?:=by rw[List.getElem?_map,List.getElem?_map,eAt i hi,eAt j hj]; exact congrArg some e
      exact (List.getElem?_inj (by rw[List.length_map]; exact hi) hnd).mp e1
    . show wpAny _ _ (keyLt' _ ((es'.map fun x=>Value.ref x.2.1).getD i .none) ((es'.map fun x=>Value.ref x.2.1).getD j .none)) _ _ _
      rw[vAt i hi,vAt j hj]
      obtain⟨_,ti,ri,oi,ei,_,ni,di⟩:=J2.hok _ _ (km2 _ (eM i hi))
      obtain⟨_,tj,rj,oj,ej,_,nj,dj⟩:=J2.hok _ _ (km2 _ (eM j hj))
      have l1:=Vals.length ri
      have l2:=Vals.length rj
      have l3:=congrArg List.length (shI i j hi hj)
      simp only[List.length_map] at l1 l2 l3
      refine kat_lt ei di ej dj ?_
      rw[decide_eq_false (by simp; omega)]
      exact xjp _ _ _ _ 0 (shI i j hi hj) ri rj q'
    have pl:∀ i∈p.toList,i<es'.length:=fun i hi=>by
      have:=(Array.Perm.mem_iff arr.pm).mp (Array.mem_toList_iff.mp hi)
      simpa using this
    have:=done (p.toList.map fun i=>((es'.getD i ([],0,.none)).1,(es'.getD i ([],0,.none)).2.1)) ?_ ?_
    . rw[List.map_map] at this
      have e2:(p.map fun i=>(es'.map fun x=>Value.ref x.2.1).getD i .none)=(p.toList.map ((fun t:List Key × Addr=>Value.ref t.2)∘fun i=>((es'.getD i ([],0,.none)).1,(es'.getD i ([],0,.none)).2.1))).toArray:=by
        rw[<- Array.toList_inj,Array.toList_map]
        exact List.map_congr_left fun i hi=>vAt i (pl i hi)
      rw[e2]
      exact this
    . have e3:(es'.map fun x=>(x.1,x.2.1))=(List.range es'.length).map fun i=>((es'.getD i ([],0,.none)).1,(es'.getD i ([],0,.none)).2.1):=by
        refine List.ext_getElem? fun i=>?_
        by_cases c:i<es'.length
        . rw[List.getElem?_map,eAt i c,List.getElem?_map,List.getElem?_range c]
          rfl
        . rw[List.getElem?_eq_none (by rw[List.length_map]; omega),List.getElem?_eq_none (by simp; omega)]
      rw[e3]
      refine List.Perm.map _ ?_
      have:=Array.Perm.toList arr.pm
      simpa using this
    . rw[List.map_map,List.pairwise_map,List.pairwise_iff_getElem]
      intro i j hi hj hij
      have z:=srt i j hij (by rw[<- arr.sz]; simpa using hj)
      have gi:Srt.g p i=p.toList[i]:=Srt.g_at (by rw[<- Array.getElem?_toList]; exact List.getElem?_eq_getElem hi)
      have gj:Srt.g p j=p.toList[j]:=Srt.g_at (by rw[<- Array.getElem?_toList]; exact List.getElem?_eq_getElem hj)
      rw[gi,gj] at z
      exact z
def xor:List V->Hp->VK->Prop:=fun xs H Q=>∃(d:Addr) (kvs:List (List Key × V)) (sh:List Bool),xs=[.ref d]/\H d=some (.dT kvs)/\kvs.length<64/\(∀ p∈kvs,shp p.1=sh)/\0<sh.length /\
 ∀(l:Addr) (ts:List (List Key × Addr)),H l=none->(∀ t∈ts,H t.2=some (.tup (t.1.map kV)))->(ts.map (·.1)).Perm (kvs.map (·.1))->(ts.map (·.1)).Pairwise (fun x y=>lexK x y=true)->Q (.ref l) (upd H l (.lst (ts.map fun t=>.ref t.2)))
theorem xkb {X:Cx} (hc:X.calm=true):xbu X (.builtin "sorted") xor:=by
 intro pins s σ H xs us Q I r h
 obtain⟨d,kvs,sh,rfl,hd,hl,hsh,hpos,q⟩:=h
 obtain⟨u,rfl,ru⟩:=xb3 r
 obtain rfl:u=Value.ref d:=ru
 obtain⟨z,hsys,es',rel,dd⟩:=xhp I.hok hd
 obtain⟨o,es,ep,ho,hx,hdat,hes,hkk,hnd⟩:=dd
 have ln:=Paired.length rel
 have esz:es.size=es'.length:=by rw[<- Array.length_toList,hes,List.length_map]
 refine Calls.call_function_entry kind_sorted plain_sorted entry_sorted (args_sorted1 _) ?_
 unfold Builtin.sorted
 refine wpAny_bind (wpAny_pure ?_)
 show wpAny _ _ (collect (.ref d)>>=_) _ _ _
 refine wpAny_bind (kdu_collect (xlk hsys hx hdat) (I.ok.hd hc) ho (by rw[esz,<- ln]; exact z) fun h1 tk acc keep items=>?_)
 have acl:acc.toList=es'.map fun x=>Value.ref x.2.1:=by
  refine List.ext_getElem? fun j=>?_
  obtain⟨i1,i2⟩:=items
  by_cases c:j<es'.length
  .have c':j<acc.size:=by rw[i1,esz]; exact c
   have e:acc[j]?=some acc[j]:=Array.getElem?_eq_getElem c'
   obtain⟨en,he,hv⟩:=i2 j acc[j] e
   rw[Array.getElem?_toList,e,hv]
   have he':es.toList[j]?=some en:=by rw[Array.getElem?_toList]; exact he
   rw[hes,List.getElem?_map,List.getElem?_eq_getElem c] at he'
   rw[List.getElem?_map,List.getElem?_eq_getElem c]
   have:=Option.some.inj he'
   rw[<- this]
   rfl
  .rw [List.getElem?_eq_none (by rw[Array.length_toList,i1,esz]; omega),List.getElem?_eq_none (by rw[List.length_map]; omega)]
 rw[acl]
 have I1:Inv X pins σ H { s with heap:=h1,toks:=tk }:=I.kept keep
 obtain⟨km,ke⟩:=xr3 rel
 have shE:∀ x∈es',shp x.1=sh:=fun x hx=>by
  have m:x.1∈kvs.map (·.1):=by rw[<- ke]; exact List.mem_map.mpr ⟨x,hx,rfl⟩
  obtain⟨p,hp,e⟩:=List.mem_map.mp m
  rw[<- e]
  exact hsh p hp
 refine xh5 es' I1 (by rw[<- ln]; exact hl) km shE hpos hnd fun l ts fr pm pw=>q l ts fr (fun t ht=>?_) ?_ pw
 .obtain ⟨x,hx,rfl⟩:=List.mem_map.mp (pm.mem_iff.mp ht)
  exact km x hx
 .have:=pm.map (·.1)
  rw[List.map_map] at this
  rw[<- ke]
  exact this
def xgz:List V->Hp->VK->Prop:=fun xs H Q=>∃(d:Addr) (ts0:List (List Key × Addr)) (sh:List Bool),xs=[.ref d]/\H d=some (.lst (ts0.map fun t=>.ref t.2))/\ts0.length<64/\(∀ t∈ts0,H t.2=some (.tup (t.1.map kV)))/\(∀ t∈ts0,shp t.1=sh)/\0<sh.length/\(ts0.map (·.1)).Nodup /\
 ∀(l:Addr) (ts:List (List Key × Addr)),H l=none->ts.Perm ts0->(ts.map (·.1)).Pairwise (fun x y=>lexK x y=true)->Q (.ref l) (upd H l (.lst (ts.map fun t=>.ref t.2)))
theorem xh6 {α:Type} (f:α->Addr):∀{es:List α}{us:List Value},Vals (es.map fun x=>V.ref (f x)) us->us=es.map fun x=>Value.ref (f x)
 | [],_,.nil=>rfl
 | x::es,_,.cons r rs=>by
  cases r
  rw[xh6 f rs]
  rfl
theorem xfs {X:Cx} (hc:X.calm=true):xbu X (.builtin "sorted") xgz:=by
 intro pins s σ H xs us Q I r h
 obtain⟨d,ts0,sh,rfl,hd,hl,km,hsh,hpos,hnd,q⟩:=h
 obtain⟨u,rfl,ru⟩:=xb3 r
 obtain rfl:u=Value.ref d:=ru
 obtain⟨z,its,n,rv,hlen,el⟩:=I.lstM hd
 have eits:=xh6 (fun t:List Key × Addr=>t.2) rv
 refine Calls.call_function_entry kind_sorted plain_sorted entry_sorted (args_sorted1 _) ?_
 unfold Builtin.sorted
 refine wpAny_bind (wpAny_pure ?_)
 show wpAny _ _ (collect (.ref d)>>=_) _ _ _
 refine wpAny_bind (wpAny_collect_seq d (T:="list") (.inl rfl) el rfl rfl (fun h1 keep=>?_) (by rw[List.size_toArray,eits,List.length_map]; exact Nat.le_of_lt (Nat.lt_trans hl (by decide))))
 have I1:Inv X pins σ H { s with heap:=h1,toks:=s.toks }:=I.kept keep
 have e0:its.toArray.toList=(ts0.map fun t=>(t.1,t.2,Value.none)).map fun x=>Value.ref x.2.1:=by
  rw[List.map_map,eits]
  rfl
 rw[e0]
 refine xh5 (ts0.map fun t=>(t.1,t.2,Value.none)) I1 (by rw[List.length_map]; exact hl) (fun x hx=>?_) (fun x hx=>?_) hpos (by rw[List.map_map]; exact hnd) fun l ts fr pm pw=>q l ts fr ?_ pw
 .obtain ⟨t,ht,rfl⟩:=List.mem_map.mp hx
  exact km t ht
 .obtain ⟨t,ht,rfl⟩:=List.mem_map.mp hx
  exact hsh t ht
 .rw [List.map_map] at pm
  have e1:ts0.map ((fun x:List Key × Addr × Value=>(x.1,x.2.1))∘fun t=>(t.1,t.2,Value.none))=ts0:=List.map_id _
  rw[e1] at pm
  exact pm
theorem xh3 {κ:Type} [DecidableEq κ]:∀{kvs:List (κ × V)}{k:κ}{v:V},valV kvs k=some v->∃ i:Nat,kvs[i]?=some (k,v)
 | [],k,v,h=>by cases h
 | p::r,k,v,h=>by
  by_cases e:p.1=k
  .rw [xa5 e] at h
   cases h
   exact⟨0,by simp[<- e]⟩
  .rw [xa2 e] at h
   obtain⟨i,hi⟩:=xh3 h
   exact⟨i+1,by simpa using hi⟩
end L2
namespace L2
open PySem PySem.Spec PyProof.Rows XL PySem.W
inductive DV where
 | non
 | bl (b:Bool)
 | int (i:Int)
 | str (x:Str)
 | tup (xs:List DV)
 | lst (xs:List DV)
mutual
def dEq:DV->DV->Bool
 | .non,.non=>true
 | .bl a,.bl b=>a == b
 | .bl a,.int b=>(if a then 1 else 0) == b
 | .int a,.bl b=>a == (if b then 1 else 0)
 | .int a,.int b=>a == b
 | .str a,.str b=>a == b
 | .tup xs,.tup ys=>dEqs xs ys
 | .lst xs,.lst ys=>dEqs xs ys
 | _,_=>false
def dEqs:List DV->List DV->Bool
 | [],[]=>true
 | x::xs,y::ys=>dEq x y&&dEqs xs ys
 | _,_=>false
end
mutual
theorem xcr:∀ d,dEq d d=true
 | .non=>rfl
 | .bl _=>by simp[dEq]
 | .int _=>by simp[dEq]
 | .str _=>by simp[dEq]
 | .tup xs=>by simp only[dEq]; exact xdj xs
 | .lst xs=>by simp only[dEq]; exact xdj xs
theorem xdj:∀ xs,dEqs xs xs=true
 | []=>rfl
 | x::xs=>by simp only[dEqs,Bool.and_eq_true]; exact⟨xcr x,xdj xs⟩
end
mutual
def DV.pl:DV->Bool
 | .bl _=>false
 | .tup xs=>pls xs
 | .lst xs=>pls xs
 | _=>true
def pls:List DV->Bool
 | []=>true
 | x::xs=>x.pl&&pls xs
end
mutual
theorem xna:∀{d e:DV},d.pl=true->e.pl=true->dEq d e=true->d=e
 | .non,.non,_,_,_=>rfl
 | .int a,.int b,_,_,h=>by simp only[dEq,beq_iff_eq] at h; rw[h]
 | .str a,.str b,_,_,h=>by simp only[dEq,beq_iff_eq] at h; rw[h]
 | .tup xs,.tup ys,p,q,h=>by
  simp only[dEq] at h
  simp only[DV.pl] at p q
  rw[xht p q h]
 | .lst xs,.lst ys,p,q,h=>by
  simp only[dEq] at h
  simp only[DV.pl] at p q
  rw[xht p q h]
 | .bl _,_,p,_,_=>by simp[DV.pl] at p
 | .non,.bl _,_,q,_=>by simp[DV.pl] at q
 | .int _,.bl _,_,q,_=>by simp[DV.pl] at q
 | .str _,.bl _,_,q,_=>by simp[DV.pl] at q
 | .tup _,.bl _,_,q,_=>by simp[DV.pl] at q
 | .lst _,.bl _,_,q,_=>by simp[DV.pl] at q
 | .non,.int _,_,_,h=>by simp[dEq] at h
 | .non,.str _,_,_,h=>by simp[dEq] at h
 | .non,.tup _,_,_,h=>by simp[dEq] at h
 | .non,.lst _,_,_,h=>by simp[dEq] at h
 | .int _,.non,_,_,h=>by simp[dEq] at h
 | .int _,.str _,_,_,h=>by simp[dEq] at h
 | .int _,.tup _,_,_,h=>by simp[dEq] at h
 | .int _,.lst _,_,_,h=>by simp[dEq] at h
 | .str _,.non,_,_,h=>by simp[dEq] at h
 | .str _,.int _,_,_,h=>by simp[dEq] at h
 | .str _,.tup _,_,_,h=>by simp[dEq] at h
 | .str _,.lst _,_,_,h=>by simp[dEq] at h
 | .tup _,.non,_,_,h=>by simp[dEq] at h
 | .tup _,.int _,_,_,h=>by simp[dEq] at h
 | .tup _,.str _,_,_,h=>by simp[dEq] at h
 | .tup _,.lst _,_,_,h=>by simp[dEq] at h
 | .lst _,.non,_,_,h=>by simp[dEq] at h
 | .lst _,.int _,_,_,h=>by simp[dEq] at h
 | .lst _,.str _,_,_,h=>by simp[dEq] at h
 | .lst _,.tup _,_,_,h=>by simp[dEq] at h
theorem xht:∀{xs ys:List DV},pls xs=true->pls ys=true->dEqs xs ys=true->xs=ys
 | [],[],_,_,_=>rfl
 | x::xs,y::ys,p,q,h=>by
  simp only[pls,Bool.and_eq_true] at p q
  simp only[dEqs,Bool.and_eq_true] at h
  rw[xna p.1 q.1 h.1,xht p.2 q.2 h.2]
 | [],_::_,_,_,h=>by simp[dEqs] at h
 | _::_,[],_,_,h=>by simp[dEqs] at h
end
theorem xkv {d e:DV}{α:Type}{x y:α} [DecidableEq α] (p:d.pl=true) (q:e.pl=true) (f:d=e↔x=y):dEq d e=decide (x=y):=by
 by_cases c:x=y
 .rw [decide_eq_true c,f.mpr c]
  exact xcr _
 .rw [decide_eq_false c]
  cases z:dEq d e with
  | false=>rfl
  | true=>exact absurd (f.mp (xna p q z)) c
theorem xgw:∀{xs ys:List DV}{e:Nat->Bool},(∀(j:Nat) (x y:DV),xs[j]?=some x->ys[j]?=some y->e j=dEq x y)->((List.range (min xs.length ys.length)).all e&&xs.length == ys.length)=dEqs xs ys
 | [],[],_,_=>rfl
 | [],_::_,_,_=>by simp[dEqs]
 | _::_,[],_,_=>by simp[dEqs]
 | x::xs,y::ys,e,h=>by
  have ih:=xgw (xs:=xs) (ys:=ys) (e:=fun j=>e (j+1)) (fun j a b ha hb=>h (j+1) a b (by simpa using ha) (by simpa using hb))
  have h0:=h 0 x y rfl rfl
  rw[List.length_cons,List.length_cons,show min (xs.length+1) (ys.length+1)=min xs.length ys.length+1 by omega,List.range_succ_eq_map,List.all_cons,List.all_map]
  show _=(dEq x y&&dEqs xs ys)
  rw[<- ih,h0]
  have z:((xs.length+1 == ys.length+1):Bool)=(xs.length == ys.length):=by
   rw[Bool.eq_iff_iff]
   simp
  rw[z,Bool.and_assoc]
  rfl
theorem xj3:∀{xs ys:List DV},xs.length≠ys.length->dEqs xs ys=false
 | [],[],h=>absurd rfl h
 | [],_::_,_=>rfl
 | _::_,[],_=>rfl
 | x::xs,y::ys,h=>by
  show (dEq x y&&dEqs xs ys)=false
  rw[xj3 (xs:=xs) (ys:=ys) (fun z=>h (by simp[z]))]
  exact Bool.and_false _
inductive Dv (K:PySem.W.Frag) (H:Hp):Nat->V->DV->Prop
 | non {n:Nat}:Dv K H n .non .non
 | bl {n:Nat}{b:Bool}:Dv K H n (.bl b) (.bl b)
 | int {n:Nat}{b:Int}:Dv K H n (.int b) (.int b)
 | str {n:Nat}{b:Str}:Dv K H n (.str b) (.str b)
 | tup {n:Nat}{a:Addr}{xs:List V}{ds:List DV} (ha:SqT K H a xs) (hl:xs.length=ds.length) (h:∀(j:Nat) (x:V) (d:DV),xs[j]?=some x->ds[j]?=some d->Dv K H n x d):Dv K H (n+1) (.ref a) (.tup ds)
 | lst {n:Nat}{a:Addr}{xs:List V}{ds:List DV} (ha:SqL K H a xs) (hl:xs.length=ds.length) (h:∀(j:Nat) (x:V) (d:DV),xs[j]?=some x->ds[j]?=some d->Dv K H n x d):Dv K H (n+1) (.ref a) (.lst ds)
section
variable {X:Cx}{pins:List (Addr × Obj)}{σ:St}{H:Hp}{s:Shared}
theorem xia {h:Heap}{a:Addr}{i j:Array Value} (p:h.IsTuple a i) (q:PlainL h a j):False:=by
 obtain⟨o,e,c,_⟩:=p
 obtain⟨o',n,e',c',_⟩:=q
 rw[e] at e'
 cases e'
 rw[c] at c'
 exact absurd c' (by decide)
theorem xn8 {xs ys:List DV} (h:xs.length=ys.length) (f:∀(j:Nat) (x y:DV),xs[j]?=some x->ys[j]?=some y->x=y):xs=ys:=by
 refine List.ext_getElem? fun j=>?_
 by_cases c:j<xs.length
 .rw [List.getElem?_eq_getElem c,List.getElem?_eq_getElem (by omega),f j _ _ (List.getElem?_eq_getElem c) (List.getElem?_eq_getElem (by omega))]
 .rw [List.getElem?_eq_none (by omega),List.getElem?_eq_none (by omega)]
theorem xjz (I:Inv X pins σ H s) {n:Nat}{x:V}{d:DV} (h:Dv X.K H n x d):∀{m:Nat}{e:DV},Dv X.K H m x e->d=e:=by
 induction h with
 | non=>intro m e h; cases h; rfl
 | bl=>intro m e h; cases h; rfl
 | int=>intro m e h; cases h; rfl
 | str=>intro m e h; cases h; rfl
 | @tup n a xs ds ha hl h ih =>
  intro m e h2
  cases h2 with
  | @tup m _ ys es hb kl k =>
   obtain rfl:=I.tuple_inj ha hb
   refine congrArg DV.tup (xn8 (by omega) fun j d e h1 h2=>?_)
   have lt:j<xs.length:=by
    have:=(List.getElem?_eq_some_iff.mp h1).1
    omega
   exact ih j xs[j] d (List.getElem?_eq_getElem lt) h1 (k j xs[j] e (List.getElem?_eq_getElem lt) h2)
  | @lst m _ ys es hb kl k =>
   obtain⟨its,_,t1,_⟩:=I.tuple ha
   obtain⟨its2,_,t2,_⟩:=I.list hb
   exact (xia t1 t2).elim
 | @lst n a xs ds ha hl h ih =>
  intro m e h2
  cases h2 with
  | @lst m _ ys es hb kl k =>
   obtain rfl:=I.list_inj ha hb
   refine congrArg DV.lst (xn8 (by omega) fun j d e h1 h2=>?_)
   have lt:j<xs.length:=by
    have:=(List.getElem?_eq_some_iff.mp h1).1
    omega
   exact ih j xs[j] d (List.getElem?_eq_getElem lt) h1 (k j xs[j] e (List.getElem?_eq_getElem lt) h2)
  | @tup m _ ys es hb kl k =>
   obtain⟨its,_,t1,_⟩:=I.tuple hb
   obtain⟨its2,_,t2,_⟩:=I.list ha
   exact (xia t1 t2).elim
def at2 (f:DV->DV->Bool) (ds es:List DV) (j:Nat):Bool:=match ds[j]?,es[j]? with|some d,some e=>f d e|_,_=>false
theorem xhs {f:DV->DV->Bool}{ds es:List DV}{j:Nat}{d e:DV} (h:ds[j]?=some d) (h2:es[j]?=some e):at2 f ds es j=f d e:=by
 unfold at2
 rw[h,h2]
theorem xl0 (I:Inv X pins σ H s) {n:Nat}{x:V}{d:DV} (h:Dv X.K H n x d):∀{m:Nat}{y:V}{e:DV},Dv X.K H m y e->∀{A:Around}{u v:Value},A.units+n+m<cLine->RelV x u->RelV y v ->
    SeqAt.EqAt A s u v (dEq d e)/\SeqAt.RcAt A s u v (dEq d e)/\SeqAt.RcNeAt A s u v (!dEq d e):=by
  induction h with
  | @non n =>
    intro m y e h2 A u v hu rx ry
    obtain rfl:u=Value.none:=rx
    cases h2 with
    | @non  =>
      obtain rfl:v=Value.none:=ry
      exact⟨SeqAt.EqAt.same _,SeqAt.RcAt.none_none,SeqAt.RcNeAt.none_none⟩
    | @bl _ b2 =>
      obtain rfl:v=Value.bool _:=ry
      exact⟨SeqAt.EqAt.none_bool _,SeqAt.RcAt.none_bool _,SeqAt.RcNeAt.none_bool _⟩
    | @int _ b2 =>
      obtain⟨_,rfl⟩:=ry
      exact⟨SeqAt.EqAt.none_int _ _,SeqAt.RcAt.none_int _ _,SeqAt.RcNeAt.none_int _ _⟩
    | @str _ b2 =>
      obtain⟨_,rfl⟩:=ry
      exact⟨SeqAt.EqAt.none_str _ _,SeqAt.RcAt.none_str _ _,SeqAt.RcNeAt.none_str _ _⟩
    | @tup m b ys es hb kl k =>
      obtain rfl:v=Value.ref _:=ry
      obtain⟨its2,r2,t2,z2⟩:=I.tuple hb
      have l2:=r2.length
      exact⟨SeqAt.EqAt.none_tuple t2 (by omega),SeqAt.RcAt.none_tuple t2 (by omega),SeqAt.RcNeAt.none_tuple t2 (by omega)⟩
    | @lst m b ys es hb kl k =>
      obtain rfl:v=Value.ref _:=ry
      obtain⟨its2,r2,t2,z2⟩:=I.list hb
      have l2:=r2.length
      exact⟨SeqAt.EqAt.none_list t2.isList (by omega),SeqAt.RcAt.none_list t2.isList (by omega),SeqAt.RcNeAt.none_list t2.isList (by omega)⟩
  | @bl n b1 =>
    intro m y e h2 A u v hu rx ry
    obtain rfl:u=Value.bool _:=rx
    cases h2 with
    | @non  =>
      obtain rfl:v=Value.none:=ry
      exact⟨SeqAt.EqAt.bool_none _,SeqAt.RcAt.bool_none _,SeqAt.RcNeAt.bool_none _⟩
    | @bl _ b2 =>
      obtain rfl:v=Value.bool _:=ry
      exact⟨SeqAt.EqAt.bool_bool _ _,SeqAt.RcAt.bool_bool _ _,SeqAt.RcNeAt.bool_bool _ _⟩
    | @int _ b2 =>
      obtain⟨_,rfl⟩:=ry
      exact⟨SeqAt.EqAt.bool_int _ _ _,SeqAt.RcAt.bool_int _ _ _,SeqAt.RcNeAt.bool_int _ _ _⟩
    | @str _ b2 =>
      obtain⟨_,rfl⟩:=ry
      exact⟨SeqAt.EqAt.bool_str _ _ _,SeqAt.RcAt.bool_str _ _ _,SeqAt.RcNeAt.bool_str _ _ _⟩
    | @tup m b ys es hb kl k =>
      obtain rfl:v=Value.ref _:=ry
      obtain⟨its2,r2,t2,z2⟩:=I.tuple hb
      have l2:=r2.length
      exact⟨SeqAt.EqAt.bool_tuple _ t2 (by omega),SeqAt.RcAt.bool_tuple _ t2 (by omega),SeqAt.RcNeAt.bool_tuple _ t2 (by omega)⟩
    | @lst m b ys es hb kl k =>
      obtain rfl:v=Value.ref _:=ry
      obtain⟨its2,r2,t2,z2⟩:=I.list hb
      have l2:=r2.length
      exact⟨SeqAt.EqAt.bool_list _ t2.isList (by omega),SeqAt.RcAt.bool_list _ t2.isList (by omega),SeqAt.RcNeAt.bool_list _ t2.isList (by omega)⟩
  | @int n b1 =>
    intro m y e h2 A u v hu rx ry
    obtain⟨_,rfl⟩:=rx
    cases h2 with
    | @non  =>
      obtain rfl:v=Value.none:=ry
      exact⟨SeqAt.EqAt.int_none _ _,SeqAt.RcAt.int_none _ _,SeqAt.RcNeAt.int_none _ _⟩
    | @bl _ b2 =>
      obtain rfl:v=Value.bool _:=ry
      exact⟨SeqAt.EqAt.int_bool _ _ _,SeqAt.RcAt.int_bool _ _ _,SeqAt.RcNeAt.int_bool _ _ _⟩
    | @int _ b2 =>
      obtain⟨_,rfl⟩:=ry
      exact⟨SeqAt.EqAt.int_int _ _ _ _,SeqAt.RcAt.int_int _ _ _ _,SeqAt.RcNeAt.int_int _ _ _ _⟩
    | @str _ b2 =>
      obtain⟨_,rfl⟩:=ry
      exact⟨SeqAt.EqAt.int_str _ _ _ _,SeqAt.RcAt.int_str _ _ _ _,SeqAt.RcNeAt.int_str _ _ _ _⟩
    | @tup m b ys es hb kl k =>
      obtain rfl:v=Value.ref _:=ry
      obtain⟨its2,r2,t2,z2⟩:=I.tuple hb
      have l2:=r2.length
      exact⟨SeqAt.EqAt.int_tuple _ _ t2 (by omega),SeqAt.RcAt.int_tuple _ _ t2 (by omega),SeqAt.RcNeAt.int_tuple _ _ t2 (by omega)⟩
    | @lst m b ys es hb kl k =>
      obtain rfl:v=Value.ref _:=ry
      obtain⟨its2,r2,t2,z2⟩:=I.list hb
      have l2:=r2.length
      exact⟨SeqAt.EqAt.int_list _ _ t2.isList (by omega),SeqAt.RcAt.int_list _ _ t2.isList (by omega),SeqAt.RcNeAt.int_list _ _ t2.isList (by omega)⟩
  | @str n b1 =>
    intro m y e h2 A u v hu rx ry
    obtain⟨_,rfl⟩:=rx
    cases h2 with
    | @non  =>
      obtain rfl:v=Value.none:=ry
      exact⟨SeqAt.EqAt.str_none _ _,SeqAt.RcAt.str_none _ _,SeqAt.RcNeAt.str_none _ _⟩
    | @bl _ b2 =>
      obtain rfl:v=Value.bool _:=ry
      exact⟨SeqAt.EqAt.str_bool _ _ _,SeqAt.RcAt.str_bool _ _ _,SeqAt.RcNeAt.str_bool _ _ _⟩
    | @int _ b2 =>
      obtain⟨_,rfl⟩:=ry
      exact⟨SeqAt.EqAt.str_int _ _ _ _,SeqAt.RcAt.str_int _ _ _ _,SeqAt.RcNeAt.str_int _ _ _ _⟩
    | @str _ b2 =>
      obtain⟨_,rfl⟩:=ry
      exact⟨SeqAt.EqAt.str_str _ _ _ _,SeqAt.RcAt.str_str _ _ _ _,SeqAt.RcNeAt.str_str _ _ _ _⟩
    | @tup m b ys es hb kl k =>
      obtain rfl:v=Value.ref _:=ry
      obtain⟨its2,r2,t2,z2⟩:=I.tuple hb
      have l2:=r2.length
      exact⟨SeqAt.EqAt.str_tuple _ _ t2 (by omega),SeqAt.RcAt.str_tuple _ _ t2 (by omega),SeqAt.RcNeAt.str_tuple _ _ t2 (by omega)⟩
    | @lst m b ys es hb kl k =>
      obtain rfl:v=Value.ref _:=ry
      obtain⟨its2,r2,t2,z2⟩:=I.list hb
      have l2:=r2.length
      exact⟨SeqAt.EqAt.str_list _ _ t2.isList (by omega),SeqAt.RcAt.str_list _ _ t2.isList (by omega),SeqAt.RcNeAt.str_list _ _ t2.isList (by omega)⟩
  | @tup n a xs ds ha hl h ih =>
    intro m y e h2 A u v hu rx ry
    obtain rfl:u=Value.ref _:=rx
    obtain⟨its,r1,t1,z1⟩:=I.tuple ha
    have l1:=r1.length
    cases h2 with
    | @non  =>
      obtain rfl:v=Value.none:=ry
      exact⟨SeqAt.EqAt.tuple_none t1 (by omega),SeqAt.RcAt.tuple_none t1 (by omega),SeqAt.RcNeAt.tuple_none t1 (by omega)⟩
    | @bl _ b2 =>
      obtain rfl:v=Value.bool _:=ry
      exact⟨SeqAt.EqAt.tuple_bool _ t1 (by omega),SeqAt.RcAt.tuple_bool _ t1 (by omega),SeqAt.RcNeAt.tuple_bool _ t1 (by omega)⟩
    | @int _ b2 =>
      obtain⟨_,rfl⟩:=ry
      exact⟨SeqAt.EqAt.tuple_int _ _ t1 (by omega),SeqAt.RcAt.tuple_int _ _ t1 (by omega),SeqAt.RcNeAt.tuple_int _ _ t1 (by omega)⟩
    | @str _ b2 =>
      obtain⟨_,rfl⟩:=ry
      exact⟨SeqAt.EqAt.tuple_str _ _ t1 (by omega),SeqAt.RcAt.tuple_str _ _ t1 (by omega),SeqAt.RcNeAt.tuple_str _ _ t1 (by omega)⟩
    | @tup m b ys es hb kl k =>
      obtain rfl:v=Value.ref _:=ry
      obtain⟨its2,r2,t2,z2⟩:=I.tuple hb
      have l2:=r2.length
      have step:∀(j:Nat) (h1:j<its.toArray.size) (h2:j<its2.toArray.size),SeqAt.EqAt A.in1 s its.toArray[j] its2.toArray[j] (at2 dEq ds es j):=fun j h1 h2=>by
        obtain⟨x,hx,rx⟩:=xf7 r1 h1
        obtain⟨y,hy,ry⟩:=xf7 r2 h2
        have j1:j<ds.length:=by simp at h1; omega
        have j2:j<es.length:=by simp at h2; omega
        rw[xhs (List.getElem?_eq_getElem j1) (List.getElem?_eq_getElem j2)]
        exact (ih j x _ hx (List.getElem?_eq_getElem j1) (k j y _ hy (List.getElem?_eq_getElem j2)) (A:=A.in1) (by show A.units+1+n+m<cLine; omega) rx ry).1
      have all:=xgw (xs:=ds) (ys:=es) (e:=at2 dEq ds es) fun j x y h1 h2=>xhs h1 h2
      have both:SeqAt.RcAt A s (.ref a) (.ref b) (dEqs ds es)/\SeqAt.RcNeAt A s (.ref a) (.ref b) (!dEqs ds es):=by
        have z1:=SeqAt.RcAt.tuples (A:=A) (e:=at2 dEq ds es) (show s.heap.IsTuple a its.toArray from t1) (show s.heap.IsTuple b its2.toArray from t2) (by omega) step
        have z2:=SeqAt.RcNeAt.tuples (A:=A) (e:=at2 dEq ds es) (show s.heap.IsTuple a its.toArray from t1) (show s.heap.IsTuple b its2.toArray from t2) (by omega) step
        have e1:its.toArray.size=ds.length:=by simp; omega
        have e2:its2.toArray.size=es.length:=by simp; omega
        rw[e1,e2,all] at z1 z2
        exact⟨z1,z2⟩
      simp only[dEq]
      refine⟨?_,both⟩
      by_cases q:a=b
      . subst q
        have ed:DV.tup ds=DV.tup es:=xjz I (Dv.tup ha hl h) (Dv.tup hb kl k)
        rw[show es=ds by injection ed with z; exact z.symm,xdj]
        exact SeqAt.EqAt.same _
      . exact .of_refs q both.1
    | @lst m b ys es hb kl k =>
      obtain rfl:v=Value.ref _:=ry
      obtain⟨its2,r2,t2,z2⟩:=I.list hb
      have l2:=r2.length
      exact⟨SeqAt.EqAt.tuple_list t1 t2.isList (by omega),SeqAt.RcAt.tuple_list t1 t2.isList (by omega),SeqAt.RcNeAt.tuple_list t1 t2.isList (by omega)⟩
  | @lst n a xs ds ha hl h ih =>
    intro m y e h2 A u v hu rx ry
    obtain rfl:u=Value.ref _:=rx
    obtain⟨its,r1,t1,z1⟩:=I.list ha
    have l1:=r1.length
    cases h2 with
    | @non  =>
      obtain rfl:v=Value.none:=ry
      exact⟨SeqAt.EqAt.list_none t1.isList (by omega),SeqAt.RcAt.list_none t1.isList (by omega),SeqAt.RcNeAt.list_none t1.isList (by omega)⟩
    | @bl _ b2 =>
      obtain rfl:v=Value.bool _:=ry
      exact⟨SeqAt.EqAt.list_bool _ t1.isList (by omega),SeqAt.RcAt.list_bool _ t1.isList (by omega),SeqAt.RcNeAt.list_bool _ t1.isList (by omega)⟩
    | @int _ b2 =>
      obtain⟨_,rfl⟩:=ry
      exact⟨SeqAt.EqAt.list_int _ _ t1.isList (by omega),SeqAt.RcAt.list_int _ _ t1.isList (by omega),SeqAt.RcNeAt.list_int _ _ t1.isList (by omega)⟩
    | @str _ b2 =>
      obtain⟨_,rfl⟩:=ry
      exact⟨SeqAt.EqAt.list_str _ _ t1.isList (by omega),SeqAt.RcAt.list_str _ _ t1.isList (by omega),SeqAt.RcNeAt.list_str _ _ t1.isList (by omega)⟩
    | @tup m b ys es hb kl k =>
      obtain rfl:v=Value.ref _:=ry
      obtain⟨its2,r2,t2,z2⟩:=I.tuple hb
      have l2:=r2.length
      exact⟨SeqAt.EqAt.list_tuple t1.isList t2 (by omega),SeqAt.RcAt.list_tuple t1.isList t2 (by omega),SeqAt.RcNeAt.list_tuple t1.isList t2 (by omega)⟩
    | @lst m b ys es hb kl k =>
      obtain rfl:v=Value.ref _:=ry
      obtain⟨its2,r2,t2,z2⟩:=I.list hb
      have l2:=r2.length
      have step:∀(j:Nat) (h1:j<its.toArray.size) (h2:j<its2.toArray.size),SeqAt.EqAt A.in1 s its.toArray[j] its2.toArray[j] (at2 dEq ds es j):=fun j h1 h2=>by
        obtain⟨x,hx,rx⟩:=xf7 r1 h1
        obtain⟨y,hy,ry⟩:=xf7 r2 h2
        have j1:j<ds.length:=by simp at h1; omega
        have j2:j<es.length:=by simp at h2; omega
        rw[xhs (List.getElem?_eq_getElem j1) (List.getElem?_eq_getElem j2)]
        exact (ih j x _ hx (List.getElem?_eq_getElem j1) (k j y _ hy (List.getElem?_eq_getElem j2)) (A:=A.in1) (by show A.units+1+n+m<cLine; omega) rx ry).1
      have all:=xgw (xs:=ds) (ys:=es) (e:=at2 dEq ds es) fun j x y h1 h2=>xhs h1 h2
      have both:SeqAt.RcAt A s (.ref a) (.ref b) (dEqs ds es)/\SeqAt.RcNeAt A s (.ref a) (.ref b) (!dEqs ds es):=by
        have e1:its.toArray.size=ds.length:=by simp; omega
        have e2:its2.toArray.size=es.length:=by simp; omega
        by_cases c:ds.length=es.length
        . have z1:=SeqAt.RcAt.lists (A:=A) (e:=at2 dEq ds es) t1.isList t2.isList (by omega) (by omega) step
          have z2:=SeqAt.RcNeAt.lists (A:=A) (e:=at2 dEq ds es) t1.isList t2.isList (by omega) (by omega) step
          have all':(List.range ds.length).all (at2 dEq ds es)=dEqs ds es:=by
            rw[<- all,c,Nat.min_self]
            simp
          rw[e1,all'] at z1 z2
          exact⟨z1,z2⟩
        . rw[xj3 c]
          exact⟨SeqAt.RcAt.lists_lengths (A:=A) t1.isList t2.isList (by rw[e1,e2]; simpa using c) (by omega),SeqAt.RcNeAt.lists_lengths (A:=A) t1.isList t2.isList (by rw[e1,e2]; simpa using c) (by omega)⟩
      simp only[dEq]
      refine⟨?_,both⟩
      by_cases q:a=b
      . subst q
        have ed:DV.lst ds=DV.lst es:=xjz I (Dv.lst ha hl h) (Dv.lst hb kl k)
        rw[show es=ds by injection ed with z; exact z.symm,xdj]
        exact SeqAt.EqAt.same _
      . exact .of_refs q both.1
end
theorem Same.seqL {K:PySem.W.Frag}{H H':Hp}{a:Addr}{xs:List V} (s:Same H H') (h:SqL K H a xs):SqL K H' a xs:=by
 rcases h with (h|⟨ob,h⟩)|h
 .exact .inl (.inl (s _ _ h))
 .exact .inl (.inr ⟨ob,s _ _ h⟩)
 .exact .inr h
def rEqV (K:PySem.W.Frag):R2:=fun x y H Q=>∃(n m:Nat) (d e:DV),Dv K H n x d/\Dv K H m y e/\n<=9/\m<=9/\Q (.bl (dEq d e)) H
def rNeV (K:PySem.W.Frag):R2:=fun x y H Q=>∃(n m:Nat) (d e:DV),Dv K H n x d/\Dv K H m y e/\n<=9/\m<=9/\Q (.bl (!dEq d e)) H
def rInV (K:PySem.W.Frag) (neg:Bool):R2:=fun x y H Q=>∃(n m:Nat) (d:DV) (es:List DV),Dv K H n x d/\Dv K H m y (.lst es)/\n<=9/\m<=9/\Q (.bl (if neg then !es.any (fun z=>dEq z d) else es.any fun z=>dEq z d)) H
section
variable {X:Cx}
theorem xka (hu:X.A.units+20<cLine):OpR X (compareOp .Eq) (rEqV X.K):=by
 intro pins s σ H x y u v Q I rx ry h
 obtain⟨n,m,d,e,h1,h2,hn,hm,q⟩:=h
 exact (xl0 I h1 h2 (A:=X.A) (by omega) rx ry).2.1 X.prog X.w X.xe _ ⟨.bl _,H,I,rfl,q⟩
theorem xet (hu:X.A.units+20<cLine):OpR X (compareOp .NotEq) (rNeV X.K):=by
 intro pins s σ H x y u v Q I rx ry h
 obtain⟨n,m,d,e,h1,h2,hn,hm,q⟩:=h
 exact PySem.W.cmp_ofNotEq ((xl0 I h1 h2 (A:=X.A) (by omega) rx ry).2.2 X.prog X.w X.xe _ ⟨.bl _,H,I,rfl,q⟩)
theorem xn5 {α β:Type}{f:α->Bool}{g:β->Bool}:∀{xs:List α}{ys:List β},xs.length=ys.length->(∀(j:Nat) (x:α) (y:β),xs[j]?=some x->ys[j]?=some y->f x=g y)->xs.any f=ys.any g
 | [],[],_,_=>rfl
 | [],_::_,h,_=>by cases h
 | _::_,[],h,_=>by cases h
 | x::xs,y::ys,h,k=>by
  rw[List.any_cons,List.any_cons,k 0 x y rfl rfl,xn5 (xs:=xs) (ys:=ys) (by simpa using h) fun j a b h1 h2=>k (j+1) a b (by simpa using h1) (by simpa using h2)]
noncomputable def eOf (K:PySem.W.Frag) (H:Hp) (m:Nat) (d:DV) (z:V):Bool:=@dite Bool (∃ e,Dv K H m z e) (Classical.propDecidable _) (fun h=>dEq h.choose d) fun _=>false
theorem xoa {pins:List (Addr × Obj)}{σ:St}{H:Hp}{s:Shared} (I:Inv X pins σ H s) {m:Nat}{d e:DV}{z:V} (h:Dv X.K H m z e):eOf X.K H m d z=dEq e d:=by
 unfold eOf
 rw[dif_pos ⟨e,h⟩]
 have ex:∃ e,Dv X.K H m z e:=⟨e,h⟩
 rw[xjz I ex.choose_spec h]
theorem xrv (hu:X.A.units+20<cLine):OpR X (compareOp .In) (rInV X.K false):=by
 intro pins s σ H x y v u Q I rx ry h
 obtain⟨n,m,d,es,h1,h2,hn,hm,q⟩:=h
 cases h2 with
 | @lst m a xs _ ha hl k =>
  cases ry
  obtain⟨its,r,pl,hz⟩:=I.list ha
  have get:∀ z∈xs,∃(j:Nat) (e:DV),xs[j]?=some z/\es[j]?=some e/\Dv X.K H m z e:=fun z hz=>by
   obtain⟨j,hj⟩:=List.getElem?_of_mem hz
   have lt:j<es.length:=by rw[<- hl]; exact (List.getElem?_eq_some_iff.mp hj).1
   exact⟨j,es[j],hj,List.getElem?_eq_getElem lt,k j z _ hj (List.getElem?_eq_getElem lt)⟩
  refine SeqAt.in_listAt (eU (eOf X.K H m d)) pl.isList (fun w hw=>?_) ⟨.bl _,H,I,rfl,?_⟩
  .obtain ⟨z,m1,m2⟩:=xln r w (by simpa using hw)
   obtain⟨j,e,_,_,he⟩:=get z m1
   rw[xpt m2,xoa I he]
   exact (xl0 I he h1 (A:=X.A.in1) (by show X.A.units+1+m+n<cLine; omega) m2 rx).1
  .rw [show its.toArray.any (eU (eOf X.K H m d))=its.any (eU (eOf X.K H m d)) by simp,xmp r,xn5 (g:=fun z=>dEq z d) hl fun j z e g1 g2=>xoa I (k j z e g1 g2)]
   exact q
end
end L2
namespace L2
open PySem PySem.Spec PyProof.Rows XL PySem.W
def Tp (H H':Hp):Prop:=∀ b xs,H b=some (.tup xs)->H' b=some (.tup xs)
theorem Same.tp {H H':Hp} (s:Same H H'):Tp H H':=fun b xs e=>s b _ e
theorem Tp.trans {H H' H'':Hp} (s:Tp H H') (r:Tp H' H''):Tp H H'':=fun b xs e=>r b xs (s b xs e)
theorem xg7 {H:Hp}{l:Addr}{xs ys:List V} (h:H l=some (.lst xs)):Tp H (upd H l (.lst ys)):=fun b zs e=>by
 rw[xg (fun z=>by rw[z,h] at e; cases e)]
 exact e
section
variable {J:It}{n:Nat}{g:TG}{σ:St}{fr:List Nat}{tc:TT}{te:TE}{l:Addr}{H1:Hp}{Q:VK}
theorem xle (len:Nat) (hlen:len<sizeLine) (hl:H1 l=none) (x:Nat->V) (hgo:∀ i H,i<len->Same H1 H->J.go i H) (hy:∀ i H v H',i<len->Same H1 H->J.yld i H v H'->H'=H/\v=x i) (hst:∀ H,Same H1 H->J.stop len H)
    (p:Nat->Bool) (F:Nat->V->Hp->Prop) (stab:∀ i y H H',Tp H H'->F i y H->F i y H')
    (step:∀ i H2,i<len->Same H1 H2->∀(N:V->Hp->Prop) (M:Hp->Prop),(∀ y H',Same H2 H'->p i=true->F i y H'->N y H')->(∀ H',Same H2 H'->p i=false->M H') ->
      g (x i) (blk0 σ fr n) H2 fun σ' H3=>tc σ' H3 fun b H4=>if b=true then te σ' H4 N else M H4)
    (fin:∀ ys H2,Same H1 H2->H2 l=some (.lst ys)->ys.length=((List.range len).filter p).length->(∀(j:Nat) (y:V) (i:Nat),ys[j]?=some y->((List.range len).filter p)[j]?=some i->F i y H2)->Q (.ref l) H2):xc2 J n g σ fr tc te l H1 Q:=by
  refine xc9 len (fun i ys H2=>Same H1 H2/\H2 l=some (.lst ys)/\ys.length=((List.range i).filter p).length/\∀(j:Nat) (y:V) (k:Nat),ys[j]?=some y->((List.range i).filter p)[j]?=some k->F k y H2) ?_ ?_ ?_ ?_
  . refine⟨fun b u e=>?_,xf,rfl,fun j y k e=>by simp at e⟩
    rw[xg (xi e hl)]
    exact e
  . rintro i ys H2 lt ⟨s,_⟩
    exact hgo i H2 lt s
  . rintro i ys H2 v H3 lt ⟨s,el,ly,f⟩ yl N hN
    obtain⟨rfl,rfl⟩:=hy i H2 v H3 lt s yl
    refine step i H3 lt s _ _ (fun y H' s' pt hf=>?_) (fun H' s' pf=>?_)
    . have el':=s' _ _ el
      have ylen:ys.length<sizeLine:=by
        rw[ly]
        refine Nat.lt_of_le_of_lt (List.length_filter_le _ _) ?_
        rw[List.length_range]
        omega
      refine⟨el',ylen,hN _ _ ⟨fun b u e=>?_,xf,?_,fun j z k e1 e2=>?_⟩⟩
      . rw[xg (xi e hl)]
        exact s' _ _ (s _ _ e)
      . rw[List.range_succ,List.filter_append,List.length_append,List.length_append,ly,List.filter_cons_of_pos pt]
        rfl
      . rw[List.range_succ,List.filter_append,List.filter_cons_of_pos pt] at e2
        by_cases c:j<ys.length
        . rw[List.getElem?_append_left c] at e1
          rw[List.getElem?_append_left (by omega)] at e2
          exact stab _ _ _ _ ((Same.tp s').trans (xg7 el')) (f j z k e1 e2)
        . rw[List.getElem?_append_right (by omega)] at e1 e2
          rw[<- ly] at e2
          cases hj:j-ys.length with
          | zero =>
            rw[hj] at e1 e2
            simp at e1 e2
            subst e1 e2
            exact stab _ _ _ _ (xg7 el') hf
          | succ m =>
            rw[hj] at e1
            simp at e1
    . refine hN _ _ ⟨s.trans s',s' _ _ el,?_,fun j z k e1 e2=>?_⟩
      . rw[List.range_succ,List.filter_append,List.filter_cons_of_neg (by simp[pf])]
        simpa using ly
      . rw[List.range_succ,List.filter_append,List.filter_cons_of_neg (by simp[pf])] at e2
        simp only[List.filter_nil,List.append_nil] at e2
        exact stab _ _ _ _ (Same.tp s') (f j z k e1 e2)
  . rintro ys H2 ⟨s,el,ly,f⟩
    exact⟨hst _ s,fin ys H2 s el ly f⟩
theorem xdq {K:PySem.W.Frag}{a:Addr}{xs:List V} (hs:SqL K H1 a xs) (hlen:xs.length<sizeLine) (hl:H1 l=none) (p:Nat->Bool) (F:Nat->V->Hp->Prop) (stab:∀ i y H H',Tp H H'->F i y H->F i y H')
    (step:∀(i:Nat) (x:V) (H2:Hp),xs[i]?=some x->Same H1 H2->∀(N:V->Hp->Prop) (M:Hp->Prop),(∀ y H',Same H2 H'->p i=true->F i y H'->N y H')->(∀ H',Same H2 H'->p i=false->M H') ->
      g x (blk0 σ fr n) H2 fun σ' H3=>tc σ' H3 fun b H4=>if b=true then te σ' H4 N else M H4)
    (fin:∀ ys H2,Same H1 H2->H2 l=some (.lst ys)->ys.length=((List.range xs.length).filter p).length->(∀(j:Nat) (y:V) (i:Nat),ys[j]?=some y->((List.range xs.length).filter p)[j]?=some i->F i y H2)->Q (.ref l) H2):xc2 (Itl K a) n g σ fr tc te l H1 Q:=by
  refine xle xs.length hlen hl (fun i=>xs.getD i .non) (fun i H lt s=>⟨xs,xs[i],Same.seqL s hs,List.getElem?_eq_getElem lt⟩) (fun i H v H' lt s y=>?_) (fun H s=>⟨xs,Same.seqL s hs,Nat.le_refl _⟩) p F stab (fun i H2 lt s N M h1 h2=>?_) fin
  . obtain⟨e,f⟩:=y
    have z:=f xs (Same.seqL s hs)
    refine⟨e,?_⟩
    simp[z]
  . have e:xs[i]?=some (xs.getD i .non):=by simp[List.getElem?_eq_getElem lt]
    exact step i _ H2 e s N M h1 h2
theorem xgy {i:Nat}{x:V}{σ0:St}{H2:Hp}{N:V->Hp->Prop}{M:Hp->Prop}{g:TG}{te:TE} (h:g x σ0 H2 fun σ' H3=>te σ' H3 N):g x σ0 H2 fun σ' H3=>xdf σ' H3 fun b H4=>if b=true then te σ' H4 N else M H4:=by
 have e:(fun (σ':St) (H3:Hp)=>xdf σ' H3 fun b H4=>if b=true then te σ' H4 N else M H4)=fun σ' H3=>te σ' H3 N:=by
  funext σ' H3
  show (if true=true then te σ' H3 N else M H3)=te σ' H3 N
  rw[if_pos rfl]
 rw[e]
 exact h
theorem xdr (m:Nat):(List.range m).filter (fun _=>true)=List.range m:=by simp
theorem xdl {K:PySem.W.Frag}{a:Addr}{xs:List V} (hs:SqL K H1 a xs) (hlen:xs.length<sizeLine) (hl:H1 l=none) (F:Nat->V->Hp->Prop) (stab:∀ i y H H',Tp H H'->F i y H->F i y H')
    (step:∀(i:Nat) (x:V) (H2:Hp),xs[i]?=some x->Same H1 H2->∀(N:V->Hp->Prop),(∀ y H',Same H2 H'->F i y H'->N y H')->g x (blk0 σ fr n) H2 fun σ' H3=>te σ' H3 N)
    (fin:∀ ys H2,Same H1 H2->H2 l=some (.lst ys)->ys.length=xs.length->(∀(i:Nat) (y:V),ys[i]?=some y->F i y H2)->Q (.ref l) H2):xc2 (Itl K a) n g σ fr xdf te l H1 Q:=by
  refine xdq hs hlen hl (fun _=>true) F stab (fun i x H2 hx s N M h1 h2=>xgy (i:=i) (step i x H2 hx s N fun y H' s' f=>h1 y H' s' rfl f)) (fun ys H2 s e ly f=>?_)
  rw[xdr,List.length_range] at ly
  refine fin ys H2 s e ly fun i y hy=>f i y i hy ?_
  rw[xdr,List.getElem?_range (by have:=(List.getElem?_eq_some_iff.mp hy).1; omega)]
theorem xkm {lo:Int}{m:Nat} (hlen:m<sizeLine) (hl:H1 l=none) (p:Nat->Bool) (F:Nat->V->Hp->Prop) (stab:∀ i y H H',Tp H H'->F i y H->F i y H')
    (step:∀(i:Nat) H2,i<m->Same H1 H2->∀(N:V->Hp->Prop) (M:Hp->Prop),(∀ y H',Same H2 H'->p i=true->F i y H'->N y H')->(∀ H',Same H2 H'->p i=false->M H') ->
      g (.int (lo+i)) (blk0 σ fr n) H2 fun σ' H3=>tc σ' H3 fun b H4=>if b=true then te σ' H4 N else M H4)
    (fin:∀ ys H2,Same H1 H2->H2 l=some (.lst ys)->ys.length=((List.range m).filter p).length->(∀(j:Nat) (y:V) (i:Nat),ys[j]?=some y->((List.range m).filter p)[j]?=some i->F i y H2)->Q (.ref l) H2):xc2 (Itr lo m) n g σ fr tc te l H1 Q:=by
  exact xle m hlen hl (fun i=>.int (lo+i)) (fun i H lt s=>lt) (fun i H v H' lt s y=>y) (fun H s=>Nat.le_refl _) p F stab (fun i H2 lt s N M h1 h2=>step i H2 lt s N M h1 h2) fin
theorem xc4 {lo:Int}{m:Nat} (hlen:m<sizeLine) (hl:H1 l=none) (F:Nat->V->Hp->Prop) (stab:∀ i y H H',Tp H H'->F i y H->F i y H')
    (step:∀(i:Nat) H2,i<m->Same H1 H2->∀(N:V->Hp->Prop),(∀ y H',Same H2 H'->F i y H'->N y H')->g (.int (lo+i)) (blk0 σ fr n) H2 fun σ' H3=>te σ' H3 N)
    (fin:∀ ys H2,Same H1 H2->H2 l=some (.lst ys)->ys.length=m->(∀(i:Nat) (y:V),ys[i]?=some y->F i y H2)->Q (.ref l) H2):xc2 (Itr lo m) n g σ fr xdf te l H1 Q:=by
  refine xkm hlen hl (fun _=>true) F stab (fun i H2 hi s N M h1 h2=>xgy (i:=i) (step i H2 hi s N fun y H' s' f=>h1 y H' s' rfl f)) (fun ys H2 s e ly f=>?_)
  rw[xdr,List.length_range] at ly
  refine fin ys H2 s e ly fun i y hy=>f i y i hy ?_
  rw[xdr,List.getElem?_range (by have:=(List.getElem?_eq_some_iff.mp hy).1; omega)]
end
theorem xlc {α:Type} (q:α->Bool):∀(as:List α) (p:Nat->Bool),(∀(i:Nat) (a:α),as[i]?=some a->p i=q a)->((List.range as.length).filter p).filterMap (fun i=>as[i]?)=as.filter q
 | [],_,_=>rfl
 | a::as,p,h=>by
  have ih:=xlc q as (fun i=>p (i+1)) fun i b hb=>h (i+1) b (by simpa using hb)
  rw[List.length_cons,List.range_succ_eq_map]
  have e:((List.range as.length).map Nat.succ).filter p=((List.range as.length).filter (fun i=>p (i+1))).map Nat.succ:=by
   rw[List.filter_map]
   rfl
  have h0:=h 0 a rfl
  by_cases c:q a=true
  .rw [List.filter_cons_of_pos (by rw[h0]; exact c),List.filter_cons_of_pos c,e,List.filterMap_cons]
   simp only[List.getElem?_cons_zero,List.filterMap_map]
   rw[<- ih]
   rfl
  .rw [List.filter_cons_of_neg (by rw[h0]; exact c),List.filter_cons_of_neg c,e,List.filterMap_map,<- ih]
   rfl
theorem xkp {α:Type} (q:α->Bool) {as:List α}{p:Nat->Bool} (h:∀(i:Nat) (a:α),as[i]?=some a->p i=q a):((List.range as.length).filter p).length=(as.filter q).length/\∀ j i:Nat,((List.range as.length).filter p)[j]?=some i->as[i]?=(as.filter q)[j]?:=by
 rw[<- xlc q as p h]
 have all:∀ i∈(List.range as.length).filter p,∃ a,as[i]?=some a:=fun i hi=>by
  have:=List.mem_range.mp (List.mem_filter.mp hi).1
  exact⟨as[i],List.getElem?_eq_getElem this⟩
 generalize (List.range as.length).filter p=is at all
 induction is with
 | nil=>exact⟨rfl,fun j i e=>by simp at e⟩
 | cons i is ih =>
  obtain⟨a,ha⟩:=all i List.mem_cons_self
  obtain⟨h1,h2⟩:=ih fun k hk=>all k (List.mem_cons_of_mem _ hk)
  rw[List.filterMap_cons,ha]
  refine⟨by simp[h1],fun j k e=>?_⟩
  cases j with
  | zero =>
   simp at e
   subst e
   exact ha
  | succ m=>exact h2 m k (by simpa using e)
end L2
namespace XL
open PySem PySem.MeetsSeq PySem.MeetsSeq2 PySem.MeetsSeq3 PySem.SeqAt
open AutoSeq1 (wpAny_loadPart')
end XL
namespace L2
open PySem PySem.Spec PyProof.Rows XL PySem.W
def xnf:Expr->Bool
 | .Starred _ _=>false
 | _=>true
theorem xl2 {e:Expr}{es:List Expr}{env:Env} (h:xnf e=true):starEach (e::es) env=(false,eval e env)::starEach es env:=by
 cases e<;>first|rfl|cases h
theorem xz {X:Cx}{e:Expr}{es:List Expr}{te:TE}{t:TA} (ha:PE X e te) (hr:PA X es t) (hn:xnf e=true):PA X (e::es) (xfy te t):=xa ha hr (xl2 hn)
end L2
namespace XL
open PySem L2
open PyProof.Rows (assign_Tuple)
end XL
namespace L2
open PySem PySem.Spec PyProof.Rows XL PySem.W
end L2
namespace L2
open PySem PySem.Spec PyProof.Rows XL PySem.W PySem.Builtin PySem.Builtin.Str
theorem xex {a b:Str} (h:a.cps.toList=b.cps.toList):a=b:=by
 obtain⟨a⟩:=a
 obtain⟨b⟩:=b
 exact congrArg Str.mk (Array.toList_inj.mp h)
end L2
namespace L2
open PySem PySem.Spec PyProof.Rows XL
open AutoSeq1 (wpAny_loadPart')
end L2
namespace L2
open PySem PySem.Spec PyProof.Rows XL
theorem xmb:typeLookup (.type "list_reverseiterator") "__len__"=pure none:=by rw[typeLookup_type,builtinLookup_eq_fast]; kernel_rfl
theorem xpo:typeLookup (.type "list_reverseiterator") "__length_hint__"=pure (some (.builtin "list_reverseiterator.__length_hint__")):=by rw[typeLookup_type,builtinLookup_eq_fast]; kernel_rfl
section
variable {prog:Program}{w:World}{A:Around}{E:Value->Shared->Prop}{s:Shared}
theorem xo3 {I l:Addr}{i:Int}{Q:Bool->Shared->Prop} (hit:s.heap.IsRevIter I l i) (h:Q false s):wpAny (model prog w) A (Builtin.List.listLengthHint (.ref I)) Q E s:=by
 unfold Builtin.List.listLengthHint
 refine wpAny_bind (wpAny_specialOf hit.typeIs xmb ?_)
 show wpAny _ _ (specialOf (Value.ref I) (Str.ofString "__length_hint__")>>=_) _ _ _
 refine wpAny_bind (wpAny_specialOf hit.typeIs xpo ?_)
 generalize hid:("list_reverseiterator.__length_hint__":String)=id0
 wp_delta
 rw[show splitId id0=some ("list_reverseiterator", "__length_hint__") from by subst hid; decide +kernel]
 subst hid
 refine wpAny_bind (wpAny_isInstance (T:="list_reverseiterator") (b:=true) hit.typeIs (by rw[isSubtype_type]; kernel_rfl) ?_)
 refine wpAny_ite_split (fun hab=>absurd hab (by decide)) (fun _=>?_)
 refine wpAny_ite_split (fun _=>?_) (fun hab=>absurd (by decide +kernel) hab)
 refine wpAny_ite_split (fun hab=>absurd hab (by decide +kernel)) (fun _=>?_)
 exact wpAny_pure h
theorem xme {R:Result->Shared->Prop} (hh:A.handled=none) {I l:Addr}{items:Array Value} (hne:l≠I) (S:Addr) (hSI:S≠I) (hSl:S≠l) (res:Value) (c₀:Nat) (hit:s.heap.IsRevIter I l ((items.size:Int)-1)) (hl:s.heap.IsList l items)
    (hS:s.heap.get? S=some { cls:=.type "list",data:=.seq #[] c₀ }) (hn:items.size<=sizeLine)
    (hR:∀ h' tk acc' c',(∀ b o,b≠S->b≠I->s.heap.get? b=some o->h'.get? b=some o)->h'.get? S=some { cls:=.type "list",dict:=none,data:=.seq acc' c',slots:=#[] } ->
      ItemsOf (fun i v=>items[items.size-1-i]?=some v) acc' items.size->R (.ok (.ret res)) { s with heap:=h',toks:=tk }) :
    wpAny (model prog w) A.in1 (Builtin.List.listExtendWith (.ref S) (.ref I) res)
      (fun fin s'=>match fin with|.done f=>R (.ok f) s'|.again c'=>c'.quiet=true/\codeAny (model prog w) A c' R s') (fun e s'=>R (.error e) s') s:=by
  have hSf:S∉[I,l]:=by simp[hSI,hSl]
  have W:=(Walks.listRev (prog:=prog) (w:=w) (A:=A.in1) hh I l hne items).toS
  unfold Builtin.List.listExtendWith
  refine wpAny_bind (wpAny_typeOf hit.typeIs ?_)
  have h1:Builtin.List.listSameRef (.ref S) (.ref I)=false:=by simp[Builtin.List.listSameRef,hSI]
  have h2:(Value.type "list_reverseiterator" == Value.type "list")=false:=by decide
  have h3:(Value.type "list_reverseiterator" == Value.type "tuple")=false:=by decide
  simp only[h1,h2,h3,Bool.or_false,Bool.false_eq_true,if_false]
  refine wpAny_bind (wpAny_pyIter_revIter hit ?_)
  refine wpAny_bind (wpAny_holding (xo3 hit ?_))
  rw[if_neg (by decide)]
  have hit0:s.heap.IsRevIter I l ((items.size:Int)-1-((0:Nat):Int)):=by simpa using hit
  refine wpAny_pure ⟨plainId_quiet F.plain_extend_loop _,codeAny_extend_loopS W hn S hSf res items.size 0 _ #[] c₀ rfl (Nat.zero_le _) ⟨Nat.zero_le _,hit0,hl⟩ hS (ItemsOf.nil _) fun s' acc' c' hm hS' hacc=>?_⟩
  rw[Moved.eq_with hm]
  refine hR s'.heap s'.toks acc' c' (fun b o hb hb2 e=>hm.heap b o (fun hmem=>?_) e) hS' hacc
  rcases List.mem_cons.mp hmem with e'|hmem
  . exact hb e'
  . exact hb2 (List.mem_singleton.mp hmem)
theorem xiz {Q:Value->Shared->Prop} (hh:A.handled=none) {I l:Addr}{items:Array Value} (hne:l≠I) (hit:s.heap.IsRevIter I l ((items.size:Int)-1)) (hl:s.heap.IsList l items) (hn:items.size<=sizeLine)
    (hQ:∀ h' tk acc' c',(∀ b o,b≠I->s.heap.get? b=some o->h'.get? b=some o) ->
      h'.get? s.heap.objs.size=some { cls:=.type "list",dict:=none,data:=.seq acc' c',slots:=#[] }->ItemsOf (fun i v=>items[items.size-1-i]?=some v) acc' items.size->Q (.ref s.heap.objs.size) { s with heap:=h',toks:=tk }) :
    wpAny (model prog w) A (call (.type "list") [.ref I]) Q E s:=by
  refine callType_codes (Q₁:=fun obj s₁=>obj=.ref s.heap.objs.size/\s₁={ s with heap:=s.heap.push { cls:=.type "list",data:=.seq #[] } }) F.called_list (F.typeCall_list_1 _) F.entry_list_init
    (code_list_new _ ⟨rfl,rfl⟩) fun obj s₁ h₁=>?_
  obtain⟨rfl,rfl⟩:=h₁
  have hS:(s.heap.push { cls:=.type "list",data:=.seq #[] }).get? s.heap.objs.size=some { cls:=.type "list",data:=.seq #[] }:=Heap.get?_push_size _ rfl
  have iI:I<s.heap.objs.size:=by obtain⟨o,e,_⟩:=hit; exact Heap.lt_size e
  have il:l<s.heap.objs.size:=by obtain⟨o,e,_⟩:=hl; exact Heap.lt_size e
  refine⟨⟨_,hS,rfl⟩,F.args_list_init_2 _ _,?_⟩
  show wpAny _ _ (do let old <- Builtin.List.listItems (.ref s.heap.objs.size); Builtin.List.listUpdate (.ref s.heap.objs.size) (fun _=>#[]); letGo old.toList.reverse; Builtin.List.listExtendWith (.ref s.heap.objs.size) (.ref I) .none) _ _ _
  refine wpAny_bind ?_
  unfold Builtin.List.listItems
  refine wpAny_bind (wpAny_seqItems hS rfl (wpAny_pure ?_))
  show wpAny _ _ (updateSeq s.heap.objs.size (fun _=>#[])>>=fun _=>letGo (#[]:Array Value).toList.reverse>>=fun _=>Builtin.List.listExtendWith (.ref s.heap.objs.size) (.ref I) .none) _ _ _
  refine wpAny_bind (wpAny_updateSeq hS rfl ?_)
  have hS₂:=Heap.get?_update_self (Obj.mapSeq (fun _=>(#[]:Array Value))) hS rfl
  have oth:∀ b o,s.heap.get? b=some o->((s.heap.push { cls:=.type "list",data:=.seq #[] }).update s.heap.objs.size (Obj.mapSeq (fun _=>(#[]:Array Value)))).get? b=some o :=
    fun b o e=>(Heap.get?_update_other _ _ (Nat.ne_of_gt (Heap.lt_size e))).trans (Heap.get?_push_of_some _ e)
  refine wpAny_bind (wpAny_letGo ?_)
  refine xme (A:=A.in1) hh hne s.heap.objs.size (Nat.ne_of_gt iI) (Nat.ne_of_gt il) .none _ (hit.at (oth I)) (hl.at (oth l)) hS₂ hn fun h' tk acc' c' hk hS' hacc=>?_
  exact⟨rfl,hQ h' tk acc' c' (fun b o hb e=>hk b o (Nat.ne_of_lt (Heap.lt_size e)) hb (oth b o e)) hS' hacc⟩
end
def xt7 (K:PySem.W.Frag) (ta:TA):TE:=fun σ H Q=>ta σ H fun vs H1=>∃ a xs,vs=[.ref a]/\SqL K H1 a xs/\∀ l,H1 l=none->Q (.ref l) (upd H1 l (.lst xs.reverse))
section
variable {X:Cx}
theorem xl8 {a:Expr}{ta:TA}{p p2 pos pos2:Pos} (hc:X.calm=true) (hg:Gl X "list") (hm:X.mg "list"=none) (hg2:Gl X "reversed") (hm2:X.mg "reversed"=none) (ha:PA X [a] ta)
    (hs:starEach [a] X.env=[(false,eval a X.env)]:=by rfl) (hs3:starEach [.Call (.Name "reversed" p2) [a] [] pos2] X.env=[(false,eval (.Call (.Name "reversed" p2) [a] [] pos2) X.env)]:=by rfl) :
    PE X (.Call (.Name "list" p) [.Call (.Name "reversed" p2) [a] [] pos2] [] pos) (xt7 X.K ta):=by
  intro pins s σ H Q I h
  refine wpAny_Call_Name_kw (xcn I hg hm PyProof.Rows.Boot.«list» ?_)
  refine PyProof.Rows.callWith_type1 ?_ (by rw[hs3]; rfl) rfl
  rw[hs3]
  show wpAny _ _ (spliced ((false,eval (.Call (.Name "reversed" p2) [a] [] pos2) X.env)::backTo pos [])) _ _ s
  refine Calls.spliced_cons ?_
  refine Call_ (xcn I hg2 hm2 PyProof.Rows.Boot.«reversed» (PyProof.Rows.callWith_type1 (thn (ha pos2 pins s σ H _ I h) fun us s1 ⟨vs,H1,I1,r1,q1⟩=>?_) hs rfl))
  obtain⟨l,xs,e,hq,q⟩:=q1
  subst e
  obtain⟨u,rfl,ru⟩:=xb3 r1
  obtain rfl:u=Value.ref l:=ru
  obtain⟨its,rv,p,hz⟩:=I1.list hq
  have hlen:=rv.length
  refine call_reversed_list p.isList ?_
  refine Calls.spliced_nil ?_
  have I2:Inv X pins σ H1 { s1 with heap:=s1.heap.push (revObj l ((its.toArray.size:Int)-1)) }:=I1.kept (t':=s1.toks) fun b o e=>Heap.get?_push_of_some _ e
  have hit:Heap.IsRevIter (s1.heap.push (revObj l ((its.toArray.size:Int)-1))) s1.heap.objs.size l ((its.toArray.size:Int)-1):=⟨_,Heap.get?_push_size _ rfl,rfl,rfl⟩
  have hll:l<s1.heap.objs.size:=by obtain⟨o,e,_⟩:=p.isList; exact Heap.lt_size e
  have hl2:(s1.heap.push (revObj l ((its.toArray.size:Int)-1))).IsList l its.toArray:=p.isList.at fun o e=>Heap.get?_push_of_some _ e
  have f2:=I1.fpOk (Nat.le_refl s1.heap.objs.size) (I1.hok.fresh (Nat.le_refl _))
  generalize hs2:({ s1 with heap:=s1.heap.push (revObj l ((its.toArray.size:Int)-1)) }:Shared)=s2 at I2
  have hit':s2.heap.IsRevIter s1.heap.objs.size l ((its.toArray.size:Int)-1):=by rw[<- hs2]; exact hit
  have hl2':s2.heap.IsList l its.toArray:=by rw[<- hs2]; exact hl2
  refine xiz (I.ok.hd hc) (Nat.ne_of_lt hll) hit' hl2' (by simp only[List.size_toArray]; omega) fun h' tk acc' c' hk hS' hacc=>?_
  have I3:Inv X pins σ H1 { s2 with heap:=h',toks:=tk }:=I2.turned (t':=tk) (it:=s1.heap.objs.size) (fun b o hb e=>hk b o hb e) (I1.hok.fresh (Nat.le_refl _)) f2.2.1 f2.2.2.2.1 f2.2.2.2.2.1 f2.2.2.2.2.2
  have z2:s1.heap.objs.size<s2.heap.objs.size:=by obtain⟨o,e,_⟩:=hit'; exact Heap.lt_size e
  have e1:acc'.toList.length=xs.reverse.length:=by rw[List.length_reverse,hlen]; simpa using hacc.1
  obtain⟨n0,nL,nC,nP⟩:=I2.size_lt (Nat.le_refl s2.heap.objs.size)
  refine⟨.ref s2.heap.objs.size,_,I3.adopt n0 I2.sz nL nC nP (show xav X.prog X.w _ h' _ (.lst xs.reverse) from ⟨by rw[List.length_reverse]; exact hz,acc'.toList,c',xf5 e1 fun j y u ey eu=>?_,by simpa using hS'⟩),rfl,q _ n0⟩
  have eu':acc'[j]?=some u:=by simpa using eu
  have lt:j<xs.length:=by
    have:=(List.getElem?_eq_some_iff.mp ey).1
    simpa using this
  have h2:=hacc.2 j u eu'
  rw[List.getElem?_reverse lt] at ey
  obtain⟨u',hu',ru'⟩:=rv.get ey
  have h2':its[its.length-1-j]?=some u:=by simpa using h2
  rw[<- hlen,hu'] at h2'
  cases h2'
  exact ru'
end
end L2
namespace L2
open PySem PySem.Spec PyProof.Rows XL
open AutoSeq1 (wpAny_loadPart')
end L2
namespace L2
open PySem PySem.Spec PyProof.Rows XL
end L2
namespace L2
open PySem PySem.Spec PyProof.Rows XL PySem.W PySem.Builtin PySem.Builtin.Str
theorem xdv (a b:Str):(a++b).cps.toList=a.cps.toList++b.cps.toList:=by
 show (a.cps++b.cps).toList=_
 simp
theorem xf0 (a:Str):a.length=a.cps.toList.length:=by simp[Str.length]
theorem xjb (s k:Nat):∀(ws:List Str) (a:Nat),(∀ w∈ws,w.length<=k)->ws.foldl (fun n w=>n+w.length+s) a<=a+ws.length*(k+s)
 | [],a,_=>by simp
 | w::ws,a,h=>by
  have h1:=h w List.mem_cons_self
  have ih:=xjb s k ws (a+w.length+s) fun v hv=>h v (List.mem_cons_of_mem _ hv)
  rw[List.foldl_cons,List.length_cons,Nat.succ_mul]
  omega
theorem xk0:∀{ws:List Str}{its:List Value},Vals (ws.map V.str) its->∃ l:List (Str × Tok),its=strValues l/\l.map (·.1)=ws
 | [],_,.nil=>⟨[],rfl,rfl⟩
 | w::ws,_,.cons r rs=>by
  obtain⟨t,rfl⟩:=r
  obtain⟨l,e1,e2⟩:=xk0 rs
  exact⟨(w,t)::l,by rw[e1]; rfl,by rw[<- e2]; rfl⟩
theorem xh9 {sep:Str}{k:Nat}:∀{ws:List Str},(∀ p∈ws,p.length<=k)->(Str.join sep ws).length<=ws.length*(k+sep.length)
 | [],_=>by show (Str.join sep []).length<=0*(k+sep.length); rw[Nat.zero_mul]; exact Nat.le_of_eq rfl
 | [a],h=>by
  have:=h a List.mem_cons_self
  show a.length<=1*(k+sep.length)
  omega
 | a::b::r,h=>by
  have h1:=h a List.mem_cons_self
  have ih:=xh9 (sep:=sep) (k:=k) (ws:=b::r) fun p hp=>h p (List.mem_cons_of_mem _ hp)
  have e:(Str.join sep (a::b::r)).length=a.length+sep.length+(Str.join sep (b::r)).length:=by
   show (a++sep++Str.join sep (b::r)).length=_
   rw[xf0,xdv,xdv,List.length_append,List.length_append,<- xf0,<- xf0,<- xf0]
  rw[e,List.length_cons,Nat.succ_mul]
  omega
def xt4:V->List V->Hp->VK->Prop:=fun x xs H Q=>∃(sep:Str) (l:Addr) (ws:List Str) (k:Nat),x=.str sep/\xs=[.ref l]/\H l=some (.lst (ws.map V.str))/\(∀ w∈ws,w.length<=k)/\ws.length*(k+sep.length)<=sizeLine/\Q (.str (Str.join sep ws)) H
section
variable {X:Cx}
theorem xk3:MtR X "str.join" xt4:=by
 intro pins s σ H x xs v us Q I rx rs h
 obtain⟨sep,l,ws,k,rfl,rfl,hl,hk,hz,q⟩:=h
 obtain⟨t,rfl⟩:=rx
 obtain⟨u,rfl,ru⟩:=xb3 rs
 obtain rfl:u=Value.ref l:=ru
 obtain⟨_,its,n,vs,e⟩:=I.hok _ _ hl
 obtain⟨ps,rfl,rfl⟩:=xk0 vs
 have fl:=xjb sep.length k (ps.map (·.1)) 0 hk
 have hl2:tooLong ((ps.map (·.1)).toArray.foldl (·+·.length+sep.length) 0)=false:=by
  unfold tooLong
  rw[List.foldl_toArray]
  exact decide_eq_false (by omega)
 refine call_meets F.slot_str_join (typeIs_str s sep t) F.entry_str_join (F.args_str_join_2 _ _) (meets_str_join_list sep t l ps hl2) ⟨⟨_,e,rfl,n,rfl⟩,?_⟩
 have jz:=xh9 (sep:=sep) hk
 have jl:(glued sep (ps.map (·.1))).length<=sizeLine:=by
  rw[StrLaws.glued_eq_join]
  exact Nat.le_trans jz hz
 rw[<- StrLaws.glued_eq_join] at q
 match ps,jl,q with
 | [],jl,q=>exact⟨jl,.str _,H,I.tok _,⟨_,rfl⟩,q⟩
 | [p],jl,q =>
  rw[StrLaws.glued_eq_join] at q
  exact⟨.str p.1,H,I,⟨_,rfl⟩,q⟩
 | p::p2::r,jl,q=>exact⟨jl,.str _,H,I.tok _,⟨_,rfl⟩,q⟩
end
end L2
namespace L2
open PySem PySem.Spec PyProof.Rows XL PySem.W
section
variable {X:Cx}
def sgnL (x:Str):List V:=x.cps.toList.map fun c=>V.str ⟨#[c]⟩
theorem xiy (hc:X.calm=true):xbu X (.type "list") (fun xs H Q=>∃ x:Str,xs=[.str x]/\x.length<=1000/\∀ l,H l=none->Q (.ref l) (upd H l (.lst (sgnL x)))):=by
 intro pins s σ H xs us Q I r h
 obtain⟨x,rfl,hn,q⟩:=h
 obtain⟨u,rfl,t,rfl⟩:=xb3 r
 refine PySem.call_list_str (I.ok.hd hc) x t (fun h' tk acc' c' kp e it=>?_) (Nat.le_trans hn (by decide))
 have len:acc'.toList.length=(sgnL x).length:=by
  rw[sgnL,List.length_map]
  have:=it.1
  simpa using this
 refine⟨.ref s.heap.objs.size,_,I.laid (t':=tk) kp (Nat.le_refl _) (show xav X.prog X.w _ h' _ (.lst (sgnL x)) from ⟨?_,acc'.toList,c',xf5 len fun j y u ey eu=>?_,by simpa using e⟩),rfl,q _ (I.hok.fresh (Nat.le_refl _))⟩
 .rw [sgnL,List.length_map]
  have:x.cps.toList.length=x.length:=by simp[Str.length]
  exact Nat.le_trans (by omega:_<=1000) (by decide)
 .have eu':acc'[j]?=some u:=by simpa using eu
  obtain⟨c,t2,e1,e2⟩:=it.2 j u eu'
  rw[sgnL,List.getElem?_map,Array.getElem?_toList,e1] at ey
  cases ey
  exact⟨t2,e2⟩
end
end L2
namespace L2
open PySem PySem.Spec PyProof.Rows XL PySem.W PySem.Builtin PySem.Builtin.Str
def ofL (l:List Nat):Str:=⟨l.toArray⟩
theorem xbf (l:List Nat):(ofL l).cps.toList=l:=by simp[ofL]
section
variable {prog:Program}{w:World}{K:Type} [DecidableEq K] {A:Around}{E:Value->Shared->Prop}{s:Shared}
def xbp (xs more:List (K × Addr × Value)):List (K × Addr × Value):=more.foldl (fun acc x=>storedH acc x.1 x.2.1 x.2.2) xs
theorem xj5 (xs more:List (K × Addr × Value)) (i:Nat) (x:K × Addr × Value) (h:more[i]?=some x):xbp xs (more.take (i+1))=storedH (xbp xs (more.take i)) x.1 x.2.1 x.2.2:=by
 simp[xbp,List.take_add_one,h,List.foldl_append]
theorem xkn (xs:List (K × Addr × Value)) (k:K) (a:Addr) (v:Value):(storedH xs k a v).length<=xs.length+1:=by
 unfold storedH
 split<;>simp
theorem xen:∀(more xs:List (K × Addr × Value)),(xbp xs more).length<=xs.length+more.length
 | [],xs=>Nat.le_refl _
 | x::r,xs=>by
  have a:=xen r (storedH xs x.1 x.2.1 x.2.2)
  have b:=xkn xs x.1 x.2.1 x.2.2
  show (xbp (storedH xs x.1 x.2.1 x.2.2) r).length<=xs.length+(r.length+1)
  omega
theorem xe8:∀(more xs:List (K × Addr × Value)),((xs++more).map (·.1)).Nodup->xbp xs more=xs++more
 | [],xs,_=>(List.append_nil _).symm
 | x::r,xs,h=>by
  have e:storedH xs x.1 x.2.1 x.2.2=xs++[x]:=by
   refine storedH_new (atKey_none_of_get fun j p hj=>?_) x.2.1 x.2.2
   rw[List.map_append,List.nodup_append] at h
   exact h.2.2 x.1 (List.mem_map.mpr ⟨_,List.mem_of_getElem? hj,rfl⟩) x.1 (by simp) rfl
  show xbp (storedH xs x.1 x.2.1 x.2.2) r=_
  rw[e,xe8 r (xs++[x]) (by rw[List.append_assoc]; exact h),List.append_assoc]
  rfl
theorem xmd {knd:HeapKind prog w K}{d a:Addr}{xs:List (K × Addr × Value)}{k:K}{v:Value}{Q:Unit->Shared->Prop} (hu:knd.room A) (hkey:knd.is s.heap k a) (hm:s.heap.DictOfH knd d xs)
    (hsz:xs.length<=sizeLine) (hQ:∀ h',h'.DictOfH knd d (storedH xs k a v)->Heap.SameBut d s.heap h'->Q () { s with heap:=h' }) :
    wpAny (model prog w) A (dictSetHashed d (.ref a) (knd.hash k) v) Q E s:=by
  obtain⟨o,es,ep,ho,hc,hd,he,his,hn⟩:=hm
  unfold dictSetHashed
  try with_reducible refine wpAny_holding ?_
  refine wpAny_bind (wpAny_dictFind_heap hu hkey ho hd he his hn (fun hno=>?_) (fun j p hj=>?_))
  . have hnot:k∉xs.map (·.1):=not_mem_keys_of_get hno
    have e:=storedH_new (atKey_none_of_get hno) a v
    refine wpAny_bind (wpAny_rule (wpAny_updateDictKeys (hz:=by have e:=size_of_entries he; omega) ho hd (hQ _ ⟨_,_,ep+1,Heap.get?_update_self _ ho (Obj.isFreed_of_dict (Obj.data_mapDictKeys hd _)),hc.mapDictKeys _,Obj.data_mapDictKeys hd _,?_,?_,?_⟩ (Heap.SameBut.update ..))))
    . rw[e]
      simp[he,entryOfKey]
    . rw[e]
      intro x hx
      rcases List.mem_append.mp hx with hx|hx
      . exact knd.keeps (his x hx) ho hd (Heap.SameBut.update ..)
      . rw[List.mem_singleton.mp hx]
        exact knd.keeps hkey ho hd (Heap.SameBut.update ..)
    . rw[e,List.map_append,List.nodup_append]
      refine⟨hn,by simp,fun x hx y hy z=>hnot ?_⟩
      have hy:y∈[k]:=hy
      rw[List.mem_singleton.mp hy] at z
      exact z▸hx
  . have e:=storedH_old (atKey_of_get hn hj) a v
    refine wpAny_bind (wpAny_rule (wpAny_bind (wpAny_updateDict ho hd (wpAny_point (hQ _ ⟨_,_,ep,Heap.get?_update_self _ ho (Obj.isFreed_of_dict (Obj.data_mapDict hd _)),hc.mapDict _,Obj.data_mapDict hd _,?_,?_,?_⟩ (Heap.SameBut.update ..))))))
    . rw[e]
      have:=modify_map_putAt (entryOfKey knd) (fun e:DictEntry=>{ e with val:=v }) k v (fun _ _=>rfl) hn hj
      rw[<- he] at this
      obtain⟨l⟩:=es
      simpa using this
    . rw[e]
      intro x hx
      obtain⟨y,hy,rfl⟩:=List.mem_map.mp hx
      unfold putAt
      split<;>exact knd.keeps (his y hy) ho hd (Heap.SameBut.update ..)
    . rw[e,keys_map_putAt]
      exact hn
end
section
variable {prog:Program}{w:World}{K:Type} [DecidableEq K] {kk:KeyKind prog w K}{A:Around}{E:Value->Shared->Prop}{s:Shared}
theorem xn6 {α β:Type} [BEq β] [LawfulBEq β] {f:α->β}:∀{l:List α}{x:α},(l.map f).Nodup->x∈l->(l.filter fun y=>f y == f x).length<=1
 | y::r,x,h,hx=>by
  rw[List.map_cons,List.nodup_cons] at h
  rw[List.filter_cons]
  split
  .rename_i e
   have e:f y=f x:=eq_of_beq e
   have z:(r.filter fun y=>f y == f x)=[]:=by
    rw[List.filter_eq_nil_iff]
    intro u hu eu
    exact h.1 (List.mem_map.mpr ⟨u,hu,(eq_of_beq eu).trans e.symm⟩)
   rw[z]
   exact Nat.le_refl _
  .rename_i e
   rcases List.mem_cons.mp hx with rfl|hx
   .exact absurd (beq_self_eq_true _) e
   .exact xn6 h.2 hx
theorem xrz {nm:String}{o:Addr}{oo:Obj}{es:Array DictEntry}{ep:Nat}{more:List (List K × Addr × Value)}{Q:Array DictEntry->Shared->Prop} (hoo:s.heap.get? o=some oo) (hd:oo.data=.dict es ep)
    (he:es.toList=more.map (entryOfKey (tupleKind kk))) (his:∀ x∈more,(tupleKind kk).is s.heap x.1 x.2.1) (hh:(more.map fun x=>(tupleKind kk).hash x.1).Nodup) (h:Q es s) :
    wpAny (model prog w) A (Builtin.Dict.entriesForEmpty nm o) Q E s:=by
  unfold Builtin.Dict.entriesForEmpty
  refine wpAny_bind (wpAny_dictEntries hoo hd ?_)
  refine wpAny_bind ?_
  rw[<- Array.forIn_toList]
  refine wpAny_forIn_list _ (fun rest _ s'=>s'=s/\∀ e∈rest,e∈es.toList) _ ?_ ?_ _ _ ⟨rfl,fun e z=>z⟩
  . rintro e rest b s' ⟨rfl,mem⟩
    have me:=mem e (List.mem_cons_self ..)
    rw[he] at me
    obtain⟨x,hx,rfl⟩:=List.mem_map.mp me
    obtain⟨ox,its,n,h1,h2,h3,h4⟩:=his x hx
    have one:¬ (es.filter (·.hash == (entryOfKey (tupleKind kk) x).hash)).size>1:=by
      rw[<- Array.length_toList,Array.toList_filter,he]
      have z:=xn6 hh hx
      rw[List.filter_map,List.length_map]
      exact Nat.not_lt.mpr z
    refine wpAny_bind ?_
    show wpAny _ _ (Builtin.Dict.quietEq (.ref x.2.1)) _ _ _
    unfold Builtin.Dict.quietEq
    refine wpAny_bind (wpAny_specialOf (T:="tuple") ⟨ox,h1,h2⟩ F.slot_tuple_eq.lookup (wpAny_pure ?_))
    rw[show ((some (Value.builtin "tuple.__eq__"):Option Value) == some (Value.builtin "object.__eq__"))=false from by decide]
    simp only[Bool.not_false,if_true]
    rw[if_neg one]
    exact wpAny_pure ⟨rfl,fun e z=>mem e (List.mem_cons_of_mem _ z)⟩
  . rintro b s' ⟨rfl,_⟩
    exact wpAny_pure h
theorem xr6 {nm:String}{d o:Addr}{xs more:List (List K × Addr × Value)}{Q:Unit->Shared->Prop} (hu:(tupleKind kk).room A) (hdo:d≠o) (hoS:(o == sysModules)=false)
    (hd:s.heap.DictOfH (tupleKind kk) d xs) (ho:s.heap.DictOfH (tupleKind kk) o more) (hh:xs=[]->(more.map fun x=>(tupleKind kk).hash x.1).Nodup) (hsz:xs.length+more.length<=sizeLine)
    (hQ:∀ h',h'.DictOfH (tupleKind kk) d (xbp xs more)->Heap.SameBut d s.heap h'->Q () { s with heap:=h' }) :
    wpAny (model prog w) A (Builtin.Dict.mergeDict nm d o) Q E s:=by
  obtain⟨od,esd,epd,hod,hcd,hdd,hed,hid,hnd⟩:=id hd
  obtain⟨oo,eso,epo,hoo,hco,hdo',heo,hio,hno⟩:=id ho
  have hlen:more.length=eso.size:=by rw[<- Array.length_toList,heo,List.length_map]
  unfold Builtin.Dict.mergeDict
  rw[if_neg (by simpa using hdo)]
  unfold Builtin.Dict.showsAll
  rw[if_neg (by rw[hoS]; exact Bool.false_ne_true)]
  refine wpAny_bind (wpAny_pure ?_)
  refine wpAny_bind (wpAny_dictEntries hoo hdo' ?_)
  have loop:∀ Q':PUnit->Shared->Prop,(∀ h',h'.DictOfH (tupleKind kk) d (xbp xs more)->Heap.SameBut d s.heap h'->Q' PUnit.unit { s with heap:=h' })->wpAny (model prog w) A (forIn (List.range' 0 eso.size) PUnit.unit fun i (_:PUnit)=>(do
          let l' <- dictEntries o
          match l'[i]? with
            | some e=>do
              holding [e.key,e.val] (dictSetHashed d e.key e.hash e.val)
              let ep' <- dictEpoch o
              if (ep' != epo)=true then do
                  (unsupported (toString nm++toString ":source-changed-during-callback"):Sem PUnit)
                  pure (ForInStep.yield PUnit.unit)
                else pure (ForInStep.yield PUnit.unit)
            | _=>do
              (unsupported "internal:dict-merge":Sem PUnit)
              pure (ForInStep.yield PUnit.unit):Sem (ForInStep PUnit))) Q' E s:=by
    intro Q' hQ'
    refine wpAny_forIn_list _ (fun rest _ s'=>∃ h' i,s'={ s with heap:=h' }/\rest=List.range' i (eso.size-i)/\i<=eso.size/\h'.DictOfH (tupleKind kk) d (xbp xs (more.take i))/\h'.get? o=some oo/\Heap.SameBut d s.heap h')
      _ ?_ ?_ _ _ ⟨s.heap,0,rfl,by simp,Nat.zero_le _,hd,hoo,Heap.SameBut.refl _ _⟩
    . rintro x rest b s' ⟨h',i,rfl,hr,hi,hd',hoo',hs'⟩
      have hlt:i<eso.size:=by
        rcases Nat.lt_or_ge i eso.size with h|h
        . exact h
        . rw[Nat.sub_eq_zero_of_le h] at hr
          exact nomatch hr
      obtain⟨rfl,hrest⟩:x=i/\rest=List.range' (i+1) (eso.size-(i+1)):=by
        have e:eso.size-i=(eso.size-(i+1))+1:=by omega
        rw[e,List.range'_succ] at hr
        injection hr with h1 h2
        exact⟨h1,h2⟩
      have hlm:x<more.length:=by omega
      have hkv:more[x]?=some more[x]:=List.getElem?_eq_getElem hlm
      refine wpAny_bind (wpAny_dictEntries hoo' hdo' ?_)
      rw[entry_at heo x,hkv]
      have hk0:=hio more[x] (List.getElem_mem hlm)
      have hk1:(tupleKind kk).is h' more[x].1 more[x].2.1:=(tupleKind kk).keeps hk0 hod hdd hs'
      have hz:(xbp xs (more.take x)).length<=sizeLine:=by
        have e1:=xen (more.take x) xs
        rw[List.length_take] at e1
        omega
      show wpAny _ _ (holding [.ref more[x].2.1,more[x].2.2] (dictSetHashed d (.ref more[x].2.1) ((tupleKind kk).hash more[x].1) more[x].2.2)>>=_) _ _ _
      refine wpAny_bind (wpAny_holding (xmd hu hk1 hd' hz fun h2 hd2 hs2=>?_))
      have hoo2:h2.get? o=some oo:=(hs2.2 o (Ne.symm hdo)).trans hoo'
      refine wpAny_bind (wpAny_dictEpoch hoo2 hdo' ?_)
      rw[if_neg (by simp)]
      exact wpAny_pure ⟨h2,x+1,rfl,hrest,hlt,by rw[xj5 xs more x more[x] hkv]; exact hd2,hoo2,hs'.trans hs2⟩
    . rintro b s' ⟨h',i,rfl,hr,hi,hd',hoo',hs'⟩
      have hin:i=eso.size:=by
        rcases Nat.lt_or_ge i eso.size with h|h
        . have e:eso.size-i=(eso.size-(i+1))+1:=by omega
          rw[e,List.range'_succ] at hr
          exact nomatch hr
        . exact Nat.le_antisymm hi h
      rw[hin,<- hlen,List.take_length] at hd'
      exact hQ' h' hd' hs'
  dsimp only
  split
  . refine wpAny_bind (wpAny_dictEntries hod hdd ?_)
    split
    . rename_i hemp
      have h0:esd=#[]:=Array.isEmpty_iff.mp hemp
      have hx:xs=[]:=by
        rw[h0] at hed
        exact List.map_eq_nil_iff.mp hed.symm
      subst hx
      refine wpAny_bind (xrz hoo hdo' heo hio (hh rfl) ?_)
      rw[xe8 more [] hno] at hQ
      split
      . refine wpAny_bind (wpAny_updateDictKeysTo hod hdd (wpAny_pure (hQ _ ⟨_,_,epd+1,Heap.get?_update_self _ hod (Obj.isFreed_of_dict (Obj.data_mapDictKeys hdd _)),hcd.mapDictKeys _,Obj.data_mapDictKeys hdd _,heo,fun x hx=>(tupleKind kk).keeps (hio x hx) hod hdd (Heap.SameBut.update ..),hno⟩ (Heap.SameBut.update ..))) ?_)
        simp only[List.length_nil,Nat.zero_add] at hsz
        omega
      . rename_i hne
        have h1:eso=#[]:=Array.isEmpty_iff.mp (by simpa using hne)
        have hm0:more=[]:=List.length_eq_zero_iff.mp (by rw[hlen,h1]; rfl)
        subst hm0
        exact wpAny_pure (hQ _ hd (Heap.SameBut.refl _ _))
    . refine wpAny_bind (wpAny_dictEpoch hoo hdo' ?_)
      refine wpAny_bind (wpAny_dictEntries hoo hdo' ?_)
      refine wpAny_bind ?_
      rw[Std.Legacy.Range.forIn_eq_forIn_range']
      simp only[Std.Legacy.Range.size,Nat.sub_zero,Nat.add_sub_cancel,Nat.div_one]
      exact loop _ fun h' a b=>wpAny_pure (hQ h' a b)
  . refine wpAny_bind (wpAny_dictEpoch hoo hdo' ?_)
    refine wpAny_bind (wpAny_dictEntries hoo hdo' ?_)
    refine wpAny_bind ?_
    rw[Std.Legacy.Range.forIn_eq_forIn_range']
    simp only[Std.Legacy.Range.size,Nat.sub_zero,Nat.add_sub_cancel,Nat.div_one]
    exact loop _ fun h' a b=>wpAny_pure (hQ h' a b)
theorem xix (d o:Addr) (hdo:d≠o) (hoS:(o == sysModules)=false) :
    MeetsIn prog w (Builtin.«dict.update» ⟨[.ref d,.ref o],[]⟩) (fun A R s=>(tupleKind kk).room A.in1/\∃ xs more,s.heap.DictOfH (tupleKind kk) d xs/\s.heap.DictOfH (tupleKind kk) o more/\(xs=[]->(more.map fun x=>(tupleKind kk).hash x.1).Nodup)/\xs.length+more.length<=sizeLine /\
      ∀ h',h'.DictOfH (tupleKind kk) d (xbp xs more)->Heap.SameBut d s.heap h'->R (.ok (.ret .none)) { s with heap:=h' }) :=
  .of_wp fun A R s ⟨hu,xs,more,hd,ho,hh,hsz,h⟩=>by
    unfold Builtin.«dict.update»
    refine wpAny_bind ?_
    unfold Builtin.Dict.selfAndRest
    refine wpAny_bind (wpAny_notOrdered_dict hd.typeIs ?_)
    show wpAny _ _ (pure (d,[Value.ref o])) _ _ s
    refine wpAny_pure ?_
    show wpAny _ _ (Builtin.Dict.updateFrom "dict.update" d (.ref o) [] .none) _ _ s
    unfold Builtin.Dict.updateFrom
    refine wpAny_bind (wpAny_typeOf ho.typeIs ?_)
    rw[if_neg (by decide)]
    refine wpAny_bind ?_
    unfold Builtin.Dict.merge
    refine wpAny_bind ?_
    unfold Builtin.Dict.readDirectly
    refine wpAny_bind (wpAny_isInstance ho.typeIs isSubtype_dict_dict ?_)
    simp only[Bool.not_true,Bool.false_eq_true,if_false]
    refine wpAny_bind (wpAny_specialOf ho.typeIs F.slot_dict_iter.lookup (wpAny_pure ?_))
    simp only[beq_self_eq_true,if_true]
    refine wpAny_bind (wpAny_pure ?_)
    refine xr6 hu hdo hoS hd ho hh hsz fun h' hd' hs'=>?_
    show wpAny _ _ (Builtin.Dict.addKeywords d []>>=_) _ _ _
    exact wpAny_bind (wpAny_pure (wpAny_pure ⟨.none,rfl,h h' hd' hs'⟩))
end
def xcg (kvs more:List (List Key × V)):List (List Key × V):=more.foldl (fun acc x=>putK acc x.1 x.2) kvs
theorem KT.merge {H:Hp}:∀{more:List (List Key × V)}{ms:List (List Key × Addr × Value)},KT H more ms->∀{kvs:List (List Key × V)}{xs:List (List Key × Addr × Value)},KT H kvs xs->KT H (xcg kvs more) (xbp xs ms):=by
 intro more ms r
 induction r with
 | nil=>intro kvs xs q; exact q
 | cons h _ ih =>
  intro kvs xs q
  obtain⟨h1,h2,h3⟩:=h
  have z:=q.put _ h2 h3
  rw[h1] at z
  have y:=ih z
  rw[<- h1] at y
  show KT H (xcg (putK kvs _ _) _) (xbp (storedH xs _ _ _) _)
  rw[<- h1]
  exact y
def xf6 (X:Cx) (k:List Key):Int:=(tupleKind (xaj X.prog X.w)).hash k
def rUpd (X:Cx):V->List V->Hp->VK->Prop:=fun x vs H Q=>∃(a b:Addr) (kvs more:List (List Key × V)),x=.ref a/\vs=[.ref b]/\a≠b/\H a=some (.dT kvs)/\H b=some (.dT more)/\(kvs=[]->(more.map fun x=>xf6 X x.1).Nodup)/\kvs.length+more.length<=1000/\Q .non (upd H a (.dT (xcg kvs more)))
theorem xni {X:Cx} (hu:X.A.units+1<cLine):MtM X "dict.update" (rUpd X):=by
 intro pins s σ H x vs v us Q I rx rv h
 obtain⟨a,b,kvs,more,rfl,rfl,ab,ha,hb,hh,hz,q⟩:=h
 cases rx
 obtain⟨u,rfl,ru⟩:=rv.one
 cases (show u=Value.ref b from ru)
 obtain⟨za,hda,xs,rela,da⟩:=xhp I.hok ha
 obtain⟨zb,hdb,ms,relb,db⟩:=xhp I.hok hb
 have la:=Paired.length rela
 have lb:=Paired.length relb
 have hl:(xcg kvs more).length<=sizeLine:=by
  have e1:=xen ms xs
  have e2:=Paired.length (relb.merge rela)
  exact Nat.le_trans (by omega:_<=1000) (by decide)
 refine call_meetsIn PySem.F.slot_dict_update da.typeIs PySem.F.entry_dict_update (PySem.F.args_dict_update_2 _ _) (xix (kk:=xaj X.prog X.w) a b ab hdb) ⟨?_,xs,ms,da,db,fun e=>?_,?_,fun h' dd' hs=>?_⟩
 .show X.A.in1.units<cLine
  exact hu
 .subst e
  have e0:kvs=[]:=List.length_eq_zero_iff.mp la
  have z:=hh e0
  have em:more.map (fun x=>xf6 X x.1)=ms.map fun x=>(tupleKind (xaj X.prog X.w)).hash x.1:=by
   have aux:∀{l:List (List Key × V)}{m:List (List Key × Addr × Value)},KT H l m->l.map (fun x=>xf6 X x.1)=m.map fun x=>(tupleKind (xaj X.prog X.w)).hash x.1:=by
    intro l m r
    induction r with
    | nil=>rfl
    | cons h _ ih=>rw[List.map_cons,List.map_cons,ih,h.1]; rfl
   exact aux relb
  rw[<- em]
  exact z
 .exact Nat.le_trans (by omega:_<=1000) (by decide)
 .obtain ⟨qo,es,ep,hq,h2,h3,h4,_,h5⟩:=dd'
  refine⟨.non,_,xdc (ob:=.dT (xcg kvs more)) I (by rw[ha]; exact True.intro) hs ⟨qo,hq⟩ ⟨hl,hda,_,(relb.merge rela).keeps fun c ys ec=>?_,qo,es,ep,hq,h2,h3,h4,h5⟩,rfl,q⟩
  rw[xg (x5 ec ha (fun z=>nomatch z))]
  exact ec
end L2
namespace L2
open PySem
def th (a b:Int):Int:=reduceHash (Builtin.Tuple.tupleHashOf [hashInt a,hashInt b])
theorem xjn (X:Cx) (a b:Int):xf6 X [.inl a,.inl b]=th a b:=by
 unfold xf6 th
 show reduceHash (Builtin.Tuple.tupleHashOf ([.inl a,.inl b].map (keyH X.w)))=_
 rw[List.map_cons,List.map_cons,List.map_nil]
 unfold keyH
 with_reducible rfl
def rimH (w:Nat):List Int:=((List.range 16).map fun (r:Nat)=>th 0 ((r:Int)+1))++((List.range 16).map fun (r:Nat)=>th ((w:Int)+1) ((r:Int)+1))
theorem xqd:∀ w,w<31->1<=w->(rimH w).Nodup:=by decide +kernel
end L2
namespace XL
open PySem PySem.Spec PyProof.Rows
def xqr (acc:List Str) (x:Str):List Str:=if acc.any (· == x)=true then acc else acc++[x]
end XL
namespace L2
open PySem PySem.Spec PyProof.Rows XL
def xuh (xs:List Str):Nat:=(xs.foldl xqr []).length
end L2
namespace XS
open PySem PySem.SetTable
end XS
namespace XS
open PySem PySem.SetTable
variable {t:SetTable}{es:Array (Int × Value)}{L:List Row}
end XS
namespace XS
open PySem PySem.SetTable
end XS
namespace XS
open PySem PySem.Spec PySem.SetTable
end XS
namespace XS
open PySem PySem.Spec PyProof.Rows
end XS
namespace XS
open PySem PySem.Spec PyProof.Rows XL
end XS
namespace L2
open PySem PySem.Spec PyProof.Rows XL XS
end L2
namespace L2
open PySem PySem.Spec PyProof.Rows
end L2
namespace L2
open PySem PySem.Spec PyProof.Rows XL PySem.W
section
variable {J:It}{n:Nat}{g:TG}{σ:St}{fr:List Nat}{tc:TT}{te:TE}{l:Addr}{H1:Hp}{Q:VK}{α:Type}
theorem xo4 {α:Type}{bs as:List α}{i:Nat}{x:α} (h:bs.Sublist (as.take i)) (hx:as[i]?=some x):(bs++[x]).Sublist (as.take (i+1)):=by
 rw[List.take_add_one,hx]
 exact h.append (List.Sublist.refl _)
theorem xpm {α:Type}{bs as:List α}{i:Nat} (h:bs.Sublist (as.take i)):bs.Sublist (as.take (i+1)):=by
 rw[List.take_add_one]
 exact h.trans (List.sublist_append_left _ _)
end
section
variable {X:Cx}{o:Expr}{to:TE}{tg:Expr}{elts:List Expr}{x1:_}{tpos apos cpos:Pos}
def xud (X:Cx) (t:TS):TS:=fun D σ H=>t { D with nx:=fun σ' H'=>∃ d ob u,H' d=some (.frz ob u)/\(∀ o' u',X.H₀ d≠some (.frz o' u'))/\D.nx σ' (upd H' d u) } σ H
theorem xkz {st:Stmt}{t:TS} (h:PS X st t):PS X st (xud X t):=by
 intro pins s σ H D I q
 refine thn (h pins s σ H _ I q) fun fl s1 z=>?_
 cases fl with
 | next =>
  obtain⟨σ',H',I',d,ob,u,e,nf,r⟩:=z
  exact⟨σ',_,I'.thaw e nf,r⟩
 | _=>exact z
end
section
variable {X:Cx}{pins:List (Addr × Obj)}{σ:St}{H:Hp}{s:Shared}{a b:Addr}{A:Around}
theorem xog {prog:Program}{w:World}{K:Type} [DecidableEq K] {knd:KeyKind prog w K}{es:List DictEntry}{vs:List (K × Value)} (h:Pairs knd es vs):∀{i:Nat}{e:DictEntry},es[i]?=some e->∃ kv,vs[i]?=some kv/\knd.is kv.1 e.key=true/\e.val=kv.2:=by
 induction h with
 | nil=>intro i e h; simp at h
 | cons h1 h2 _ ih =>
  intro i e he
  cases i with
  | zero =>
   simp at he
   subst he
   exact⟨_,rfl,h1,h2⟩
  | succ i=>exact ih (by simpa using he)
end
theorem xdk:∀{us:List Value}{ss:List Str},StrsAre us ss->Vals (ss.map V.str) us
 | _,_,.nil=>.nil
 | _,_,.cons y t h=>.cons ⟨t,rfl⟩ (xdk h)
theorem xhj:∀{ss:List Str}{us:List Value},Vals (ss.map V.str) us->StrsAre us ss
 | [],_,.nil=>.nil
 | x::ss,_,.cons r rs=>by
  obtain⟨t,rfl⟩:=r
  exact .cons x t (xhj rs)
theorem xhc {X:Cx}{pins:List (Addr × Obj)}{σ:St}{H:Hp}{s:Shared}{h1:Heap}{tk:Nat}{Q:VK}{us:List Value}{ss:List Str} (I1:Inv X pins σ H { s with heap:=h1,toks:=tk }) (hS:StrsAre us ss) (few:us.length<64)
    (q:∀(l:Addr) (ss':List Str),H l=none->ss'.Perm ss->sortedS ss'=true->Q (.ref l) (upd H l (.lst (ss'.map V.str)))) :
    wpAny (model X.prog X.w) X.A.in1 (newList us>>=fun l=>holding [l] (call (.builtin "list.sort") [l] [])>>=fun _=>ret l) (fun fin s'=>∃ v,fin=Fin.done (Flow.ret v)/\EP X pins σ Q v s') X.xe { s with heap:=h1,toks:=tk }:=by
  have sz:us.length<=sizeLine:=Nat.le_of_lt (Nat.lt_trans few (by decide))
  have ln:=(xdk hS).length
  rw[List.length_map] at ln
  have I2:=I1.lnew (t':=tk) (xdk hS) (by rw[List.length_map,ln]; exact sz)
  refine wpAny_bind (wpAny_newList ?_ sz)
  have fr:H h1.objs.size=none:=I1.fresh
  have gl:(h1.push { cls:=.type "list",data:=.seq us.toArray }).get? h1.objs.size=some (seqObj "list" us.toArray 0):=Heap.get?_push_size _ rfl
  refine wpAny_bind (wpAny_holding (wpAny_call_entry slot_list_sort ⟨_,gl,rfl⟩ entry_list_sort (list_sort_treeK strKind_oneLt gl hS.keysOf (fun v₁ v₂ r e=>keyKind_strs (by rw[<- e]; exact hS)) few fun st a1 a2=>?_) (args_list_sort _)))
  obtain⟨ss',b1,b2,b3⟩:=sorted_out_str hS a1 a2
  refine⟨_,rfl,wpAny_pure ⟨_,rfl,?_⟩⟩
  have J1:=I2.lset (l:=h1.objs.size) (its:=us) (its':=[]) (ys:=[]) (f:=fun _=>#[]) (t':=tk) xf gl rfl .nil (Nat.zero_le _)
  have J2:=J1.kept (t':=tk) (h':=(((h1.push { cls:=.type "list",data:=.seq us.toArray }).update h1.objs.size (Obj.mapSeq fun _=>#[])).push (seqObj "tuple" us.toArray 0)).push (seqObj "list" #[] 0)) fun b u e=>Heap.get?_push_of_some _ (Heap.get?_push_of_some _ e)
  obtain⟨z9,its9,n9,r9,hl9,e9⟩:=J2.lstM xf
  have l':ss'.length=ss.length:=b2.length_eq
  have J3:=J2.lset (l:=h1.objs.size) (its:=its9) (its':=((arrOf st).map (·.2)).toList) (ys:=ss'.map V.str) (f:=fun _=>(arrOf st).map (·.2)) (t':=tk) xf e9 (show (arrOf st).map (·.2)=_ from (Array.toArray_toList ..).symm) (xdk b1) (by rw[List.length_map,l',ln]; exact sz)
  rw[xeq,xeq] at J3
  exact⟨.ref h1.objs.size,_,J3,rfl,q _ ss' fr b2 b3⟩
theorem xk6:∀{us:List Value}{ss:List Str},us.length=ss.length->(∀(i:Nat) (v:Value) (x:Str),us[i]?=some v->ss[i]?=some x->∃ t,v=Value.str x t)->StrsAre us ss
 | [],[],_,_=>.nil
 | [],_::_,h,_=>by cases h
 | _::_,[],h,_=>by cases h
 | u::us,x::ss,h,f=>by
  obtain⟨t,rfl⟩:=f 0 u x rfl rfl
  exact .cons x t (xk6 (by simpa using h) fun i v y h1 h2=>f (i+1) v y (by simpa using h1) (by simpa using h2))
def xoe:List V->Hp->VK->Prop:=fun xs H Q=>∃(d:Addr) (ss:List Str),xs=[.ref d]/\(H d=some (.lst (ss.map V.str))\/∃ kvs:List (Key × V),H d=some (.dK kvs)/\kvs.map (·.1)=ss.map Sum.inr)/\ss.length<64 /\
 ∀(l:Addr) (ss':List Str),H l=none->ss'.Perm ss->sortedS ss'=true->Q (.ref l) (upd H l (.lst (ss'.map V.str)))
theorem xfk {X:Cx} (hc:X.calm=true):xbu X (.builtin "sorted") xoe:=by
 intro pins s σ H xs us Q I r h
 obtain⟨d,ss,rfl,alt,hl,q⟩:=h
 obtain⟨u,rfl,ru⟩:=xb3 r
 obtain rfl:u=Value.ref d:=ru
 rcases alt with e|⟨kvs,e,ek⟩
 .obtain ⟨z,its,n,r1,hL,el⟩:=I.lstM e
  have ln:=r1.length
  rw[List.length_map] at ln
  refine Calls.call_function_entry kind_sorted plain_sorted entry_sorted (args_sorted1 _) ?_
  unfold Builtin.sorted
  refine wpAny_bind (wpAny_pure (show wpAny _ _ (collect (.ref d)>>=_) _ _ _ from wpAny_bind (wpAny_collect_seq d (T:="list") (.inl rfl) el rfl rfl (fun h1 keep=>?_) (by rw[List.size_toArray,<- ln]; exact Nat.le_of_lt (Nat.lt_trans hl (by decide))))))
  exact xhc (us:=its) (I.kept keep) (xhj r1) (by omega) q
 .obtain ⟨z,hsys,vs,rel,o,es,ep,ho,hx,hdat,hk,hp,hn⟩:=xf9 I.hok e
  have ln:=rel.length
  have le:=hp.length
  have esz:es.size=vs.length:=by simpa using le
  refine Calls.call_function_entry kind_sorted plain_sorted entry_sorted (args_sorted1 _) ?_
  unfold Builtin.sorted
  refine wpAny_bind (wpAny_pure ?_)
  show wpAny _ _ (collect (.ref d)>>=_) _ _ _
  refine wpAny_bind (kdu_collect (xlk hsys hx hdat) (I.ok.hd hc) ho (by rw[esz,<- ln]; exact z) fun h1 tk acc keep items=>?_)
  have hs:StrsAre acc.toList ss:=by
   refine xk6 (by rw[Array.length_toList,items.1,esz,<- ln,<- List.length_map (f:=(·.1)) (as:=kvs),ek,List.length_map]) fun i v x hv hx=>?_
   have hv':acc[i]?=some v:=by rw[<- Array.getElem?_toList]; exact hv
   obtain⟨en,he,ev⟩:=items.2 i v hv'
   obtain⟨kv,h1,h2,_⟩:=xog hp (i:=i) (e:=en) (by rw[Array.getElem?_toList]; exact he)
   have hk2:(kvs.map (·.1))[i]?=some (Sum.inr x):=by rw[ek,List.getElem?_map,hx]; rfl
   rw[rel.keys,List.getElem?_map,h1,Option.map_some] at hk2
   have e3:kv.1=Sum.inr x:=Option.some.inj hk2
   rw[e3] at h2
   obtain⟨t,et⟩:=Value.isStrOf_shape (x:=x) (v:=en.key) h2
   exact⟨t,by rw[ev]; exact et⟩
  exact xhc (I.kept keep) hs (by rw[(xdk hs).length.symm,List.length_map]; exact hl) q
end L2
namespace L2
open PySem PySem.Spec PyProof.Rows XL PySem.W PySem.MeetsSeq3
end L2
namespace L2
open PySem PySem.Spec PyProof.Rows XL PySem.W
def Ites (x:Str):It :=
 ⟨fun i _=>i<x.cps.toList.length,fun i H v H'=>∃ p c,x.cps.toList[i]?=some c/\v=.ref p/\H p=none/\H'=upd H p (.tup [.int i,sgn c]),fun i _=>x.cps.toList.length<=i⟩
theorem xki {P:Program}{w:World}{K:PySem.W.Frag}{elts:List Expr}{x1}{tpos:Pos}{x:Str} (t:Tok) (e it:Addr) (hei:e≠it) :
    Turn P w K (.Tuple elts x1 tpos) (Ites x) [e,it] e (fun i h=>(∃ old,IsEnum h e it i old)/\h.IsStrIter it "str_ascii_iterator" x t i) where
  mem:=by simp
  obj:=fun i h st b hb=>by
    obtain⟨⟨old,he⟩,⟨o1,e1,c1,d1⟩⟩:=st
    simp only[List.mem_cons,List.not_mem_nil,or_false] at hb
    rcases hb with rfl|rfl
    . exact⟨_,he,fun v k=>by have k':Data.fields _=Data.cell v:=k; cases k'⟩
    . exact⟨_,e1,fun v k=>by rw[d1] at k; cases k⟩
  keep:=fun i h h' ⟨⟨old,he⟩,h1⟩ k=>⟨⟨old,k e (by simp) _ he⟩,xll h1 fun o z=>k it (by simp) o z⟩
  item:=by
    intro X hP hw hK hc i pins s σ H E I hf st hg
    subst hP hw hK
    have lt:i<x.cps.toList.length:=hg
    obtain⟨⟨old,he⟩,h1⟩:=id st
    refine wpAny_pyNext_enum_itemD (Draws.strAscii (A:=X.A.in1) (I.ok.hd hc) it x t) he h1 (by simpa using lt) hei (by simp[hei]) fun y h' tk py ho hst' hT hsz hk=>?_
    obtain⟨c,u,hv,rfl⟩:=py
    have hx:x.cps.toList[i]?=some c:=by simpa using hv
    refine⟨_,rfl,wpAny_letOwnedTupleGo_enum (s:={ s with heap:=h',toks:=tk+1 }) ho fun h'' he' hs'=>?_⟩
    have elt:e<s.heap.objs.size:=Heap.lt_size he
    have pne:s.heap.objs.size≠e:=Nat.ne_of_gt elt
    have kk:∀ b o,b∉[e,it]->s.heap.get? b=some o->h''.get? b=some o:=fun b o hb g=>by
      simp only[List.mem_cons,List.not_mem_nil,or_false,not_or] at hb
      exact (hs'.2 b hb.1).trans (hk b o hb.1 (by simpa using hb.2) g)
    have I1:Inv X pins σ H { s with heap:=h'',toks:=tk+1 }:=I.turnedL kk hf
    obtain⟨n0,nL,nC,nP⟩:=I.size_lt (Nat.le_refl s.heap.objs.size)
    have hp:h''.get? s.heap.objs.size=some { cls:=.type "tuple",data:=.seq #[.int i tk,.str ⟨#[c]⟩ u] }:=(hs'.2 _ pne).trans hT
    refine⟨.ref s.heap.objs.size,upd H s.heap.objs.size (.tup [.int i,sgn c]),I1.adopt n0 I.sz nL nC nP ⟨by show 2<=sizeLine; decide,[.int i tk,.str ⟨#[c]⟩ u],.cons ⟨_,rfl⟩ (.cons ⟨_,rfl⟩ .nil),_,hp,rfl,_,rfl⟩,rfl,
      ⟨_,c,hx,rfl,n0,rfl⟩,?_,fun b hb=>?_⟩
    . exact⟨⟨_,by simpa using he'⟩,xll hst' fun o y=>(hs'.2 it (Ne.symm hei)).trans y⟩
    . obtain⟨o,ho⟩:∃ o,s.heap.get? b=some o:=by
        obtain⟨o1,e1,_⟩:=h1
        simp only[List.mem_cons,List.not_mem_nil,or_false] at hb
        rcases hb with rfl|rfl
        . exact⟨_,he⟩
        . exact⟨_,e1⟩
      rw[xg (Nat.ne_of_lt (Heap.lt_size ho))]
      exact (hf b hb).1
  done:=by
    intro X hP hw hK hc i pins s σ H E I hf st hg
    subst hP hw hK
    have ge:x.cps.toList.length<=i:=hg
    obtain⟨⟨old,he⟩,h1⟩:=id st
    have fin:∀ h',Heap.ExtBut it s.heap h'->(none:Option Value)=none/\Inv X pins σ H { s with heap:=h' }:=fun h' hx=>⟨rfl,I.turnedL (t':=s.toks) (fun b o hb g=>by
      simp only[List.mem_cons,List.not_mem_nil,or_false,not_or] at hb
      exact hx b o hb.2 g) hf⟩
    have hT:s.TypeIs (.ref e) "enumerate":=⟨_,he,rfl⟩
    unfold pyNext
    refine wpAny_bind (wpAny_attempt (wpAny_callSpecial?_slot (name:=Str.ofString "__next__") hT F.slot_enumerate_next
      (wpAny_call_entry F.slot_enumerate_next hT F.entry_enumerate_next ?_ (F.args_enumerate_next_1 _))))
    show wpAny _ _ (field (.ref e) 2>>=_) _ _ _
    refine wpAny_bind (wpAny_field he rfl (x:=.ref it) rfl ?_)
    refine wpAny_bind (wpAny_nextOf_ascii_end (I.ok.hd hc) h1 (by simpa using ge) fun h' x he' hx'=>?_)
    obtain⟨o,ho,hc⟩:=hx'
    refine wpAny_bind (wpAny_isInstance (T:="StopIteration") (b:=true) ⟨o,ho,hc⟩ isSubtype_stop ?_)
    exact wpAny_pure (fin _ he')
  self:=fun _ _ _ _ _ ⟨⟨_,st⟩,_⟩ h=>wpAny_pyIter_enum st h
def xq4 (ta:TA):TI:=fun σ H R=>ta σ H fun vs H1=>∃ x:Str,vs=[.str x]/\x.cps.all (·<128)=true/\R (Ites x) H1
section
variable {X:Cx}{elts:List Expr}{x1:_}{tpos:Pos}
theorem xm5 {a:Expr}{ta:TA}{p pos:Pos} (hg:Gl X "enumerate") (hm:X.mg "enumerate"=none) (ha:PA X [a] ta) (hs:starEach [a] X.env=[(false,eval a X.env)]:=by rfl) :
    PI X (.Tuple elts x1 tpos) (.Call (.Name "enumerate" p) [a] [] pos) (xq4 ta):=by
  intro pins s σ H R I h
  refine Call_ (xcn I hg hm PyProof.Rows.Boot.«enumerate» (PyProof.Rows.callWith_type1 (thn (ha pos pins s σ H _ I h) fun us s1 ⟨vs,H1,I1,r1,q1⟩=>?_) hs rfl))
  obtain⟨x,e,hx,q⟩:=q1
  subst e
  obtain⟨u,rfl,t,rfl⟩:=xb3 r1
  refine call_enumerate_str fun h' he h1 hsz hk=>?_
  have h1:h'.IsStrIter s1.heap.objs.size "str_ascii_iterator" x t 0:=by simpa [strIterType,hx] using h1
  refine wpAny_pyIter_enum (s:={ s1 with heap:=h' }) he ?_
  have I2:Inv X pins σ H1 { s1 with heap:=h' }:=I1.kept (t':=s1.toks) hk
  refine⟨_,[s1.heap.objs.size+1,s1.heap.objs.size],_,_,H1,rfl,I2,xki t _ _ (xm4 (by omega)),⟨⟨_,he⟩,h1⟩,fun b hb=>?_,q⟩
  have hb':s1.heap.objs.size<=b:=by
    simp only[List.mem_cons,List.not_mem_nil,or_false] at hb
    rcases hb with rfl|rfl
    . exact Nat.le_add_right _ 1
    . exact Nat.le_refl _
  exact I1.fpOk hb' (I1.hok.fresh hb')
end
theorem xip {H:Hp}{p:Addr}{o:HO} (hp:H p=none):Same H (upd H p o):=fun b u e=>by
 rw[xg (xi e hp)]
 exact e
section
variable {n:Nat}{g:TG}{σ:St}{fr:List Nat}{te:TE}{l:Addr}{H1:Hp}{Q:VK}
theorem xkd {x:Str} (hlen:x.cps.toList.length<sizeLine) (hl:H1 l=none) (F:Nat->V->Hp->Prop) (stab:∀ i y H H',Tp H H'->F i y H->F i y H')
    (step:∀(i:Nat) (c:Nat) (p:Addr) (H2:Hp),x.cps.toList[i]?=some c->Same H1 H2->H2 p=none->∀(N:V->Hp->Prop),(∀ y H',Same (upd H2 p (.tup [.int i,sgn c])) H'->F i y H'->N y H') ->
      g (.ref p) (blk0 σ fr n) (upd H2 p (.tup [.int i,sgn c])) fun σ' H3=>te σ' H3 N)
    (fin:∀ ys H2,Same H1 H2->H2 l=some (.lst ys)->ys.length=x.cps.toList.length->(∀(i:Nat) (y:V),ys[i]?=some y->F i y H2)->Q (.ref l) H2):xc2 (Ites x) n g σ fr xdf te l H1 Q:=by
  refine xc9 x.cps.toList.length (fun i ys H2=>Same H1 H2/\H2 l=some (.lst ys)/\ys.length=i/\∀(j:Nat) (y:V),ys[j]?=some y->F j y H2) ?_ ?_ ?_ ?_
  . exact⟨fun b u e=>by rw[xg (xi e hl)]; exact e,xf,rfl,fun j y e=>by simp at e⟩
  . rintro i ys H2 lt _
    exact lt
  . rintro i ys H2 v H3 lt ⟨s,el,ly,f⟩ ⟨p,c,hc,rfl,hp,rfl⟩ N hN
    have e1:upd H2 p (.tup [.int i,sgn c]) l=some (.lst ys):=by
      rw[xg (xi el hp)]
      exact el
    have s1:Same H2 (upd H2 p (.tup [.int i,sgn c])):=xip hp
    refine xgy (i:=i) (step i c p H2 hc s hp _ fun y H' s' hf=>?_)
    have el':=s' _ _ e1
    refine⟨el',by omega,hN _ _ ⟨fun b u e=>?_,xf,by rw[List.length_append,ly]; rfl,fun j z e=>?_⟩⟩
    . rw[xg (xi e hl)]
      exact s' _ _ (s1 _ _ (s _ _ e))
    . by_cases k:j<ys.length
      . rw[List.getElem?_append_left k] at e
        exact stab _ _ _ _ (((Same.tp s1).trans (Same.tp s')).trans (xg7 el')) (f j z e)
      . rw[List.getElem?_append_right (by omega)] at e
        cases hj:j-ys.length with
        | zero =>
          rw[hj] at e
          simp at e
          subst e
          have:j=i:=by omega
          subst this
          exact stab _ _ _ _ (xg7 el') hf
        | succ m =>
          rw[hj] at e
          simp at e
  . rintro ys H2 ⟨s,el,ly,f⟩
    exact⟨Nat.le_refl _,fin ys H2 s el ly f⟩
theorem xkg {d:Addr}{ob:Obj}{kvs:List (Key × V)}{tc:TT} (hd:H1 d=some (.frz ob (.dK kvs))) (hlen:kvs.length<sizeLine) (hl:H1 l=none) (q:Key × V->Bool)
    (step:∀(i:Nat) (k:Key) (x:V) (p:Addr) (H2:Hp),kvs[i]?=some (k,x)->Same H1 H2->H2 p=none->∀(N:V->Hp->Prop) (M:Hp->Prop),(∀ H',Same (upd H2 p (.tup [kV k,x])) H'->q (k,x)=true->N x H')->(∀ H',Same (upd H2 p (.tup [kV k,x])) H'->q (k,x)=false->M H') ->
      g (.ref p) (blk0 σ fr n) (upd H2 p (.tup [kV k,x])) fun σ' H3=>tc σ' H3 fun b H4=>if b=true then te σ' H4 N else M H4)
    (fin:∀ H2,Same H1 H2->H2 l=some (.lst ((kvs.filter q).map (·.2)))->Q (.ref l) H2):xc2 (Iti d ob kvs) n g σ fr tc te l H1 Q:=by
  refine xc9 kvs.length (fun i ys H2=>Same H1 H2/\H2 l=some (.lst ys)/\ys=((kvs.take i).filter q).map (·.2)) ?_ ?_ ?_ ?_
  . exact⟨fun b u e=>by rw[xg (xi e hl)]; exact e,xf,rfl⟩
  . rintro i ys H2 lt ⟨s,_⟩
    exact⟨s _ _ hd,lt⟩
  . rintro i ys H2 v H3 lt ⟨s,el,ey⟩ ⟨p,k,x,ex,rfl,hp,rfl⟩ N hN
    have e1:upd H2 p (.tup [kV k,x]) l=some (.lst ys):=by
      rw[xg (xi el hp)]
      exact el
    have s1:Same H1 (upd H2 p (.tup [kV k,x])):=fun b u e=>xip hp _ _ (s _ _ e)
    have ly:ys.length<=i:=by
      rw[ey,List.length_map]
      refine Nat.le_trans (List.length_filter_le _ _) ?_
      rw[List.length_take]
      omega
    refine step i k x p H2 ex s hp _ _ (fun H' s' qt=>?_) (fun H' s' qf=>?_)
    . have el':=s' _ _ e1
      refine⟨el',by omega,hN _ _ ⟨fun b u e=>?_,xf,?_⟩⟩
      . rw[xg (xi e hl)]
        exact s' _ _ (s1 _ _ e)
      . rw[ey,List.take_add_one,ex,List.filter_append,List.map_append,show (some (k,x)).toList=[(k,x)] from rfl,List.filter_cons_of_pos qt]
        rfl
    . refine hN _ _ ⟨fun b u e=>s' _ _ (s1 _ _ e),s' _ _ e1,?_⟩
      rw[ey,List.take_add_one,ex,List.filter_append,show (some (k,x)).toList=[(k,x)] from rfl,List.filter_cons_of_neg (by rw[qf]; decide)]
      rw[List.filter_nil,List.append_nil]
  . rintro ys H2 ⟨s,el,ey⟩
    rw[List.take_length] at ey
    exact⟨⟨s _ _ hd,Nat.le_refl _⟩,fin H2 s (ey▸el)⟩
end
section
variable {d:Addr}{ob:Obj}{kvs:List (Key × V)}{g:TG}{tb:TS}{D:Ends}{σ:St}{H:Hp}
theorem xmu (Pv:Nat->St->Hp->Prop) (h0:Pv 0 σ H) (hl:∀ i σ H,i<=kvs.length->Pv i σ H->H d=some (.frz ob (.dK kvs)))
    (hs:∀ i k x p σ H,kvs[i]?=some (k,x)->H p=none->Pv i σ H->g (.ref p) σ (upd H p (.tup [kV k,x])) fun σ2 H2=>tb { D with nx:=Pv (i+1),ct:=Pv (i+1),bk:=D.nx } σ2 H2) (hd:∀ σ H,Pv kvs.length σ H->D.nx σ H) :
    ∃ W:Nat->Nat->St->Hp->Prop,(∃ m,W 0 m σ H)/\∀ i m σ H,W i m σ H ->
      ((Iti d ob kvs).stop i H/\D.nx σ H)\/((Iti d ob kvs).go i H/\∃ N:St->Hp->Prop,(∀ σ' H',N σ' H'->∃ m',m'<m/\W (i+1) m' σ' H')/\∀ x H',(Iti d ob kvs).yld i H x H'->g x σ H' fun σ2 H2=>tb { D with nx:=N,ct:=N,bk:=D.nx } σ2 H2):=by
  refine⟨fun i m σ H=>m=kvs.length-i/\i<=kvs.length/\Pv i σ H,⟨kvs.length,by simp,Nat.zero_le _,h0⟩,?_⟩
  rintro i m σ H ⟨rfl,hi,p⟩
  have q:=hl i σ H hi p
  by_cases hlt:i<kvs.length
  . refine .inr ⟨⟨q,hlt⟩,Pv (i+1),fun σ' H' p'=>⟨kvs.length-(i+1),by omega,rfl,hlt,p'⟩,fun x H' y=>?_⟩
    obtain⟨pa,k,x',e1,rfl,hn,rfl⟩:=y
    exact hs i k x' pa σ H e1 hn p
  . have e:i=kvs.length:=by omega
    subst e
    exact .inl ⟨⟨q,Nat.le_refl _⟩,hd σ H p⟩
end
end L2
namespace Geo
def dn (y r:Int):Int:=if y<r then 1 else -1
def upN (y r:Int):Nat:=if y<r then (r-y).toNat else (y-r).toNat
def wayI (b:Bool):Int:=if b then -1 else 1
def lvN (w x:Int) (b:Bool):Nat:=if b then (x+1).toNat else (w+2-x).toNat
def upL (x y r:Int):List (Int × Int):=(List.range (upN y r)).map fun (i:Nat)=>(x,y+(i:Int)*dn y r)
def lvL (w x:Int) (b:Bool) (r:Int):List (Int × Int):=(List.range (lvN w x b)).map fun (i:Nat)=>(x+(i:Int)*wayI b,r)
def cells (w x y:Int) (b:Bool) (r:Int):List (Int × Int):=upL x y r++lvL w x b r
theorem mem_up {x y r u v:Int}:(u,v)∈upL x y r↔u=x/\((y<=v/\v<r)\/(r<v/\v<=y)):=by
 unfold upL upN dn
 rw[List.mem_map]
 constructor
 .rintro ⟨i,hi,e⟩
  rw[List.mem_range] at hi
  injection e with e1 e2
  subst e1
  refine⟨rfl,?_⟩
  split at hi
  .rename_i h
   rw[if_pos h] at e2
   left; omega
  .rename_i h
   rw[if_neg h] at e2
   right; omega
 .rintro ⟨rfl,h|h⟩
  .refine ⟨(v-y).toNat,?_,?_⟩
   .rw [List.mem_range,if_pos (by omega)]; omega
   .rw [if_pos (by omega)]
    have:((v-y).toNat:Int)=v-y:=by omega
    rw[this]; congr 1; omega
  .refine ⟨(y-v).toNat,?_,?_⟩
   .rw [List.mem_range,if_neg (by omega)]; omega
   .rw [if_neg (by omega)]
    have:((y-v).toNat:Int)=y-v:=by omega
    rw[this]; congr 1; omega
theorem xrp {w x r u v:Int}{b:Bool} (h1:1<=x) (h2:x<=w):(u,v)∈lvL w x b r↔v=r/\(if b then 0<=u/\u<=x else x<=u/\u<=w+1):=by
 unfold lvL lvN wayI
 rw[List.mem_map]
 cases b with
 | true =>
  simp only[if_true]
  constructor
  .rintro ⟨i,hi,e⟩
   rw[List.mem_range] at hi
   injection e with e1 e2
   exact⟨e2.symm,by omega,by omega⟩
  .rintro ⟨rfl,h⟩
   refine⟨(x-u).toNat,by rw[List.mem_range]; omega,?_⟩
   have:((x-u).toNat:Int)=x-u:=by omega
   rw[this]; congr 1; omega
 | false =>
  simp only[Bool.false_eq_true,if_false]
  constructor
  .rintro ⟨i,hi,e⟩
   rw[List.mem_range] at hi
   injection e with e1 e2
   exact⟨e2.symm,by omega,by omega⟩
  .rintro ⟨rfl,h⟩
   refine⟨(u-x).toNat,by rw[List.mem_range]; omega,?_⟩
   have:((u-x).toNat:Int)=u-x:=by omega
   rw[this]; congr 1; omega
theorem mem_cells {w x y r u v:Int}{b:Bool} (h1:1<=x) (h2:x<=w):(u,v)∈cells w x y b r↔(u=x/\((y<=v/\v<r)\/(r<v/\v<=y)))\/(v=r/\(if b then 0<=u/\u<=x else x<=u/\u<=w+1)):=by
 unfold cells
 rw[List.mem_append,mem_up,xrp h1 h2]
def btw (v a b:Int):Prop:=min a b<=v/\v<=max a b
instance (v a b:Int):Decidable (btw v a b):=inferInstanceAs (Decidable (_/\_))
end Geo
namespace Drw
variable {S:Type}
abbrev Cl:=Int × Int
def set1 (m:Cl->Option S) (c:Cl) (s:S):Cl->Option S:=fun z=>if z=c then some s else m z
def sets (m:Cl->Option S) (L:List (Cl × S)):Cl->Option S:=L.foldl (fun m x=>set1 m x.1 x.2) m
def mark1 (hs:S) (m:Cl->Option S) (c:Cl) (s:S):Cl->Option S:=set1 m c (if (m c).isSome then hs else s)
def marks (hs:S) (m:Cl->Option S) (L:List (Cl × S)):Cl->Option S:=L.foldl (fun m x=>mark1 hs m x.1 x.2) m
theorem sets_no:∀{L:List (Cl × S)}{m:Cl->Option S}{c:Cl},c∉L.map (·.1)->sets m L c=m c
 | [],_,_,_=>rfl
 | x::L,m,c,h=>by
  rw[List.map_cons,List.mem_cons,not_or] at h
  show sets (set1 m x.1 x.2) L c=m c
  rw[sets_no h.2]
  exact if_neg h.1
theorem xin:∀{L:List (Cl × S)}{m m':Cl->Option S}{c:Cl},m c=m' c->sets m L c=sets m' L c
 | [],_,_,_,h=>h
 | x::L,m,m',c,h=>by
  refine xin (L:=L) ?_
  show set1 m x.1 x.2 c=set1 m' x.1 x.2 c
  unfold set1
  split
  .rfl
  .exact h
theorem xfx:∀{L:List (Cl × S)}{c:Cl} (m m':Cl->Option S),c∈L.map (·.1)->sets m L c=sets m' L c
 | x::L,c,m,m',h=>by
  show sets (set1 m x.1 x.2) L c=sets (set1 m' x.1 x.2) L c
  rcases List.mem_cons.mp h with e|h
  .refine xin ?_
   unfold set1
   rw[if_pos e,if_pos e]
  .exact xfx _ _ h
theorem xfq:∀{L:List (Cl × S)}{m:Cl->Option S}{c:Cl},c∈L.map (·.1)->(sets m L c).isSome
 | x::L,m,c,h=>by
  show (sets (set1 m x.1 x.2) L c).isSome
  by_cases z:c∈L.map (·.1)
  .exact xfq z
  .rw [sets_no z]
   rcases List.mem_cons.mp h with e|h
   .unfold set1
    rw[if_pos e]
    rfl
   .exact absurd h z
theorem sets_one:∀{L:List (Cl × S)}{m:Cl->Option S}{c:Cl}{s:S},(L.map (·.1)).Nodup->(c,s)∈L->sets m L c=some s
 | x::L,m,c,s,nd,h=>by
  rw[List.map_cons,List.nodup_cons] at nd
  show sets (set1 m x.1 x.2) L c=some s
  rcases List.mem_cons.mp h with e|h
  .subst e
   rw[sets_no nd.1]
   exact if_pos rfl
  .exact sets_one nd.2 h
theorem xnx {L L':List (Cl × S)} (p:L.Perm L') (nd:(L.map (·.1)).Nodup) (m:Cl->Option S) (c:Cl):sets m L c=sets m L' c:=by
 by_cases h:c∈L.map (·.1)
 .obtain ⟨⟨c',s⟩,hx,rfl⟩:=List.mem_map.mp h
  rw[sets_one nd hx,sets_one ((p.map _).nodup_iff.mp nd) (p.mem_iff.mp hx)]
 .rw [sets_no h,sets_no (fun z=>h ((p.map _).mem_iff.mpr z))]
def mkc (hs:S) (o:Option S) (l:List S):Option S:=l.foldl (fun o s=>some (if o.isSome then hs else s)) o
def at_ (c:Cl) (L:List (Cl × S)):List S:=(L.filter fun x=>decide (x.1=c)).map (·.2)
theorem marks_at (hs:S):∀(L:List (Cl × S)) (m:Cl->Option S) (c:Cl),marks hs m L c=mkc hs (m c) (at_ c L)
 | [],_,_=>rfl
 | x::L,m,c=>by
  show marks hs (mark1 hs m x.1 x.2) L c=_
  rw[marks_at hs L]
  unfold at_ mark1 set1
  rw[List.filter_cons]
  by_cases e:x.1=c
  .subst e
   simp only[if_true,decide_true]
   rfl
  .have e':¬ c=x.1:=fun z=>e z.symm
   simp only[e,e',if_false,decide_false]
   rfl
theorem xgu (hs:S):∀(l:List S) (a:S),mkc hs (some a) l=some (if l=[] then a else hs)
 | [],a=>rfl
 | x::l,a=>by
  show mkc hs (some hs) l=_
  rw[xgu hs l]
  simp
theorem mkc_perm (hs:S) {l l':List S} (p:l.Perm l'):mkc hs none l=mkc hs none l':=by
 match l,p with
 | [],p=>rw[List.nil_perm.mp p]
 | [a],p=>rw[List.singleton_perm.mp p]
 | a::b::r,p =>
  match l',p with
  | [],p=>exact absurd p.length_eq (by simp)
  | [x],p=>exact absurd p.length_eq (by simp)
  | x::y::r',p =>
   show mkc hs (some a) (b::r)=mkc hs (some x) (y::r')
   rw[xgu,xgu]
   simp
theorem xne (c:Cl) (L M:List (Cl × S)):at_ c (L++M)=at_ c L++at_ c M:=by
 unfold at_
 rw[List.filter_append,List.map_append]
theorem at_flat {α:Type} (c:Cl) (f:α->List (Cl × S)):∀ l:List α,at_ c (l.flatMap f)=l.flatMap fun a=>at_ c (f a)
 | []=>rfl
 | a::l=>by
  rw[List.flatMap_cons,List.flatMap_cons,xne,at_flat c f l]
theorem at_no {c:Cl}{L:List (Cl × S)} (h:c∉L.map (·.1)):at_ c L=[]:=by
 unfold at_
 rw[List.map_eq_nil_iff,List.filter_eq_nil_iff]
 intro x hx e
 exact h (List.mem_map.mpr ⟨x,hx,of_decide_eq_true e⟩)
theorem xj2:∀{L:List (Cl × S)}{c:Cl}{s:S},(L.map (·.1)).Nodup->(c,s)∈L->at_ c L=[s]
 | x::L,c,s,nd,h=>by
  rw[List.map_cons,List.nodup_cons] at nd
  rw[show x::L=[x]++L from rfl,xne]
  rcases List.mem_cons.mp h with e|h
  .subst e
   rw[at_no nd.1]
   simp[at_]
  .have ne:¬ x.1=c:=fun e=>nd.1 (e▸List.mem_map.mpr ⟨_,h,rfl⟩)
   rw[xj2 nd.2 h]
   simp[at_,ne]
theorem xqv {L M:List (Cl × S)} (c:Cl) (n1:(L.map (·.1)).Nodup) (n2:(M.map (·.1)).Nodup) (h:∀ s,(c,s)∈L↔(c,s)∈M):at_ c L=at_ c M:=by
 by_cases e:c∈L.map (·.1)
 .obtain ⟨⟨c',s⟩,hx,rfl⟩:=List.mem_map.mp e
  rw[xj2 n1 hx,xj2 n2 ((h s).mp hx)]
 .rw [at_no e,at_no]
  intro z
  obtain⟨⟨c',s⟩,hx,rfl⟩:=List.mem_map.mp z
  exact e (List.mem_map.mpr ⟨_,(h s).mpr hx,rfl⟩)
def no:Cl->Option S:=fun _=>none
def drawP (hs:S) (PM dots names pts:List (Cl × S)):Cl->Option S:=sets (fun z=>(sets (sets no dots) names z).or (marks hs no PM z)) pts
def drawL (hs:S) (LM dots names pts:List (Cl × S)):Cl->Option S:=sets (sets (sets (marks hs no LM) pts) dots) names
theorem draw_same (hs:S) {w:Int}{PM LM dots names names' pts:List (Cl × S)} (hp:∀ x∈pts,1<=x.1.1/\x.1.1<=w) (hd:∀ x∈dots,x.1.1=0\/x.1.1=w+1) (hn:∀ x∈names,x.1.1=0\/x.1.1=w+1)
    (pn:names.Perm names') (nn:(names.map (·.1)).Nodup) (c:Cl) (hm:c∉pts.map (·.1)->c∉names.map (·.1)->(at_ c PM).Perm (at_ c LM)):drawP hs PM dots names pts c=drawL hs LM dots names' pts c:=by
  unfold drawP drawL
  rw[<- xnx pn nn]
  by_cases cp:c∈pts.map (·.1)
  . have c1:1<=c.1/\c.1<=w:=by
      obtain⟨x,hx,rfl⟩:=List.mem_map.mp cp
      exact hp x hx
    have nd:c∉dots.map (·.1):=fun z=>by
      obtain⟨x,hx,rfl⟩:=List.mem_map.mp z
      have:=hd x hx
      omega
    have nn:c∉names.map (·.1):=fun z=>by
      obtain⟨x,hx,rfl⟩:=List.mem_map.mp z
      have:=hn x hx
      omega
    rw[sets_no nn,sets_no nd]
    exact xfx _ _ cp
  . rw[sets_no cp]
    by_cases cn:c∈names.map (·.1)
    . have z:=xfq (m:=sets no dots) cn
      rw[xfx (sets (sets (marks hs no LM) pts) dots) (sets no dots) cn]
      revert z
      generalize sets (sets no dots) names c=o
      intro z
      cases o with
      | none=>cases z
      | some s=>rfl
    . rw[sets_no cn,sets_no cn]
      by_cases cd:c∈dots.map (·.1)
      . have z:=xfq (m:=(no:Cl->Option S)) cd
        rw[xfx (sets (marks hs no LM) pts) no cd]
        revert z
        generalize sets no dots c=o
        intro z
        cases o with
        | none=>cases z
        | some s=>rfl
      . rw[sets_no cd,sets_no cd,sets_no cp]
        show (none:Option S).or (marks hs no PM c)=_
        rw[Option.none_or,marks_at,marks_at]
        exact mkc_perm hs (hm cp cn)
def rim (w:Int) (b:Bool):Int:=if b then 0 else w+1
def ls (sp sb sm:S) (x r:Int) (c:Cl):S:=if c=(x,r) then sp else if c.1=x then sb else sm
def ledP (sp sb sm:S) (w x y:Int) (b:Bool) (r:Int):List (Cl × S):=(Geo.cells w x y b r).map fun c=>(c,ls sp sb sm x r c)
def rg (lo hi:Int):List Int:=(List.range (hi-lo).toNat).map fun (i:Nat)=>lo+(i:Int)
def ledL (sp sb sm:S) (w x y:Int) (b:Bool) (r:Int):List (Cl × S):=((rg (min y r+1) (max y r)).map fun a=>((x,a),sb))++(if r≠y then [((x,r),sp)] else [])++((rg (min x (rim w b)+1) (max x (rim w b))).map fun a=>((a,r),sm))
theorem mem_rg {lo hi a:Int}:a∈rg lo hi↔lo<=a/\a<hi:=by
 unfold rg
 rw[List.mem_map]
 constructor
 .rintro ⟨i,hi',rfl⟩
  rw[List.mem_range] at hi'
  omega
 .rintro ⟨h1,h2⟩
  exact⟨(a-lo).toNat,by rw[List.mem_range]; omega,by omega⟩
theorem nd_map {α β:Type}{f:α->β} (inj:∀ a b,f a=f b->a=b) {l:List α} (h:l.Nodup):(l.map f).Nodup:=by
 rw[List.Nodup,List.pairwise_map]
 exact h.imp fun ne e=>ne (inj _ _ e)
theorem xpr (lo hi:Int):(rg lo hi).Nodup:=nd_map (fun a b e=>by omega) List.nodup_range
theorem xpg {w x y:Int}{b:Bool}{r:Int}:(Geo.cells w x y b r).Nodup:=by
 unfold Geo.cells
 rw[List.nodup_append]
 refine⟨?_,?_,?_⟩
 .unfold Geo.upL Geo.dn
  refine nd_map (fun a b e=>?_) List.nodup_range
  rw[Prod.mk.injEq] at e
  split at e<;>omega
 .unfold Geo.lvL Geo.wayI
  refine nd_map (fun a b e=>?_) List.nodup_range
  rw[Prod.mk.injEq] at e
  split at e<;>omega
 .rintro ⟨u,v⟩ h1 ⟨u',v'⟩ h2 e
  rw[Geo.mem_up] at h1
  unfold Geo.lvL at h2
  obtain⟨i,_,e2⟩:=List.mem_map.mp h2
  rw[Prod.mk.injEq] at e e2
  omega
theorem ledL_keys (sp sb sm:S) (w x y:Int) (b:Bool) (r:Int):(ledL sp sb sm w x y b r).map (·.1)=((rg (min y r+1) (max y r)).map fun a=>(x,a))++(if r≠y then [(x,r)] else [])++((rg (min x (rim w b)+1) (max x (rim w b))).map fun a=>(a,r)):=by
 unfold ledL
 rw[List.map_append,List.map_append,List.map_map,List.map_map]
 congr 2
 split<;>rfl
theorem led_at (sp sb sm:S) {w x y:Int}{b:Bool}{r:Int} (h1:1<=x) (h2:x<=w) {c:Cl} (n1:c≠(x,y)) (n2:c≠(rim w b,r)):at_ c (ledP sp sb sm w x y b r)=at_ c (ledL sp sb sm w x y b r):=by
 obtain⟨u,v⟩:=c
 refine xqv _ ?_ ?_ ?_
 .unfold ledP
  rw[List.map_map]
  exact nd_map (fun a b e=>e) xpg
 .rw [ledL_keys]
  rw[List.nodup_append,List.nodup_append]
  refine⟨⟨nd_map (fun a b e=>(Prod.mk.injEq ..▸e).2) (xpr _ _),by split<;>simp,?_⟩,nd_map (fun a b e=>(Prod.mk.injEq ..▸e).1) (xpr _ _),?_⟩
  .rintro ⟨a,a'⟩ ha ⟨d,d'⟩ hd e
   obtain⟨i,hi,ei⟩:=List.mem_map.mp ha
   rw[mem_rg] at hi
   split at hd
   .have hd:=List.mem_singleton.mp hd
    rw[Prod.mk.injEq] at ei hd e
    omega
   .exact nomatch hd
  .rintro ⟨a,a'⟩ ha ⟨d,d'⟩ hd e
   obtain⟨j,hj,ej⟩:=List.mem_map.mp hd
   rw[mem_rg] at hj
   rw[Prod.mk.injEq] at ej e
   have hax:a=x:=by
    rcases List.mem_append.mp ha with ha|ha
    .obtain ⟨i,hi,ei⟩:=List.mem_map.mp ha
     rw[Prod.mk.injEq] at ei
     exact ei.1.symm
    .split at ha
     .have ha:=List.mem_singleton.mp ha
      rw[Prod.mk.injEq] at ha
      exact ha.1
     .exact nomatch ha
   omega
 .intro s
  have m1:((u,v),s)∈ledP sp sb sm w x y b r↔(u,v)∈Geo.cells w x y b r/\s=ls sp sb sm x r (u,v):=by
   unfold ledP
   rw[List.mem_map]
   constructor
   .rintro ⟨c,hc,e⟩
    rw[Prod.mk.injEq] at e
    obtain⟨rfl,rfl⟩:=e
    exact⟨hc,rfl⟩
   .rintro ⟨hc,rfl⟩
    exact⟨_,hc,rfl⟩
  have m2:((u,v),s)∈ledL sp sb sm w x y b r↔(u=x/\(min y r+1<=v/\v<max y r)/\s=sb)\/(r≠y/\u=x/\v=r/\s=sp)\/(v=r/\(min x (rim w b)+1<=u/\u<max x (rim w b))/\s=sm):=by
   unfold ledL
   rw[List.mem_append,List.mem_append,List.mem_map,List.mem_map,or_assoc]
   refine or_congr ⟨?_,?_⟩ (or_congr ⟨?_,?_⟩ ⟨?_,?_⟩)
   .rintro ⟨a,ha,e⟩
    rw[mem_rg] at ha
    simp only[Prod.mk.injEq] at e
    obtain⟨⟨rfl,rfl⟩,rfl⟩:=e
    exact⟨rfl,ha,rfl⟩
   .rintro ⟨rfl,ha,rfl⟩
    exact⟨v,mem_rg.mpr ha,rfl⟩
   .intro h
    split at h
    .rename_i ne
     have h:=List.mem_singleton.mp h
     simp only[Prod.mk.injEq] at h
     exact⟨ne,h.1.1,h.1.2,h.2⟩
    .exact nomatch h
   .rintro ⟨ne,rfl,rfl,rfl⟩
    rw[if_pos ne]
    exact List.mem_singleton.mpr rfl
   .rintro ⟨a,ha,e⟩
    rw[mem_rg] at ha
    simp only[Prod.mk.injEq] at e
    obtain⟨⟨rfl,rfl⟩,rfl⟩:=e
    exact⟨rfl,ha,rfl⟩
   .rintro ⟨rfl,ha,rfl⟩
    exact⟨u,mem_rg.mpr ha,rfl⟩
  rw[m1,m2,Geo.mem_cells h1 h2]
  have k1:¬ (u=x/\v=y):=fun z=>n1 (by rw[z.1,z.2])
  have k2:¬ (u=rim w b/\v=r):=fun z=>n2 (by rw[z.1,z.2])
  unfold ls
  by_cases ux:u=x
  .subst ux
   by_cases vr:v=r
   .subst vr
    rw[if_pos rfl]
    constructor
    .rintro ⟨_,e⟩
     exact .inr (.inl ⟨fun z=>k1 ⟨rfl,z⟩,rfl,rfl,e⟩)
    .rintro (⟨_,z,_⟩|⟨_,_,_,e⟩|⟨_,z,_⟩)
     .omega
     .exact ⟨.inr ⟨rfl,by cases b<;>simp<;>omega⟩,e⟩
     .omega
   .rw [if_neg (fun z=>vr (Prod.mk.inj z).2),if_pos rfl]
    constructor
    .rintro ⟨z|z,e⟩
     .exact .inl ⟨rfl,by omega,e⟩
     .exact absurd z.1 vr
    .rintro (⟨_,z,e⟩|⟨_,_,z,_⟩|⟨z,_⟩)
     .exact ⟨.inl ⟨rfl,by omega⟩,e⟩
     .exact absurd z vr
     .exact absurd z vr
  .rw [if_neg (fun z=>ux (Prod.mk.inj z).1),if_neg ux]
   constructor
   .rintro ⟨z|z,e⟩
    .exact absurd z.1 ux
    .refine .inr (.inr ⟨z.1,?_,e⟩)
     have z2:=z.2
     have k3:¬ u=rim w b:=fun y=>k2 ⟨y,z.1⟩
     unfold rim at k3 ⊢
     cases b
     .simp at z2 k3 ⊢
      omega
     .simp at z2 k3 ⊢
      omega
   .rintro (⟨z,_⟩|⟨_,z,_⟩|⟨z,y,e⟩)
    .exact absurd z ux
    .exact absurd z ux
    .refine ⟨.inr ⟨z,?_⟩,e⟩
     unfold rim at y
     cases b
     .simp at y ⊢
      omega
     .simp at y ⊢
      omega
end Drw
namespace S72
open PySem L2 XL
def top (i:Nat):Stmt:=PySem.Challenge.pw_rimnotes_k72_rows_read_back.main.body.getD i (.Pass ⟨0,0,0,0⟩)
abbrev s_ar:Stmt:=xax (top 18) 0
abbrev s_w:Stmt:=xax (top 19) 1
abbrev s_y:Stmt:=xax (top 19) 2
abbrev s_l:Stmt:=xax (top 19) 3
abbrev s_q:Stmt:=xax (top 20) 1
abbrev s_r:Stmt:=xax (top 20) 2
abbrev s_h:Stmt:=xax (top 20) 3
abbrev s_au:Stmt:=top 21
abbrev s_ay:Stmt:=top 23
abbrev s_al:Stmt:=top 25
abbrev s_ax:Stmt:=top 26
abbrev s_ae:Stmt:=xax (top 32) 0
abbrev s_p:Stmt:=xax (top 32) 1
abbrev s_ac:Stmt:=xax (top 32) 2
abbrev s_f:Stmt:=xax (top 32) 4
abbrev s_i:Stmt:=xax (top 32) 6
abbrev s_s:Stmt:=xax (top 32) 7
abbrev s_e:Stmt:=xax (top 32) 8
abbrev s_o:Stmt:=xax (top 32) 10
abbrev s_b:Stmt:=xax (top 32) 15
abbrev s_d:Stmt:=xax (top 32) 16
abbrev s_a:Stmt:=xax (top 32) 17
abbrev s_c:Stmt:=xax (top 32) 18
abbrev s_u:Stmt:=top 33
abbrev xcx:Stmt:=top 35
abbrev s_az:Stmt:=top 36
abbrev s_x:Stmt:=top 37
abbrev s_aj:Stmt:=top 38
abbrev s_ap:Stmt:=top 39
abbrev s_af:Stmt:=xax (top 40) 0
abbrev s_k:Stmt:=xax (top 40) 1
abbrev s_g:Stmt:=xax (top 40) 2
abbrev s_j:Stmt:=xax (top 40) 3
abbrev s_aa:Stmt:=xax (top 40) 4
abbrev xdn:Stmt:=top 41
abbrev s_ag:Stmt:=top 42
abbrev s_av:Stmt:=top 43
abbrev s_a1:Stmt:=top 44
abbrev s_z:Stmt:=top 45
abbrev s_t:Stmt:=top 46
abbrev s_ad:Stmt:=top 48
abbrev s_v:Stmt:=top 49
abbrev s_as:Stmt:=top 50
abbrev s_aq:Stmt:=top 51
abbrev s_at:Stmt:=top 52
abbrev s_ai:Stmt:=top 53
abbrev s_m:Stmt:=top 56
abbrev s_an:Stmt:=top 57
abbrev s_a0:Stmt:=top 58
abbrev s_am:Stmt:=top 59
abbrev s_ah:Stmt:=top 60
abbrev s_ab:Stmt:=top 61
abbrev xew:Stmt:=top 62
set_option genInjectivity false in
set_option genSizeOf false in
set_option genInjectivity false in
set_option genSizeOf false in
structure Adr where
 f_ar:Addr
 d_ar:FuncData
 f_w:Addr
 d_w:FuncData
 f_y:Addr
 d_y:FuncData
 f_l:Addr
 d_l:FuncData
 f_q:Addr
 d_q:FuncData
 f_r:Addr
 d_r:FuncData
 f_h:Addr
 d_h:FuncData
 f_au:Addr
 d_au:FuncData
 f_ay:Addr
 d_ay:FuncData
 f_al:Addr
 d_al:FuncData
 f_ax:Addr
 d_ax:FuncData
 f_ae:Addr
 d_ae:FuncData
 f_p:Addr
 d_p:FuncData
 T_p:Addr
 f_ac:Addr
 d_ac:FuncData
 f_f:Addr
 d_f:FuncData
 f_i:Addr
 d_i:FuncData
 f_s:Addr
 d_s:FuncData
 f_e:Addr
 d_e:FuncData
 f_o:Addr
 d_o:FuncData
 f_b:Addr
 d_b:FuncData
 f_d:Addr
 d_d:FuncData
 f_a:Addr
 d_a:FuncData
 f_c:Addr
 d_c:FuncData
 f_u:Addr
 d_u:FuncData
 f_drawn:Addr
 d_drawn:FuncData
 f_az:Addr
 d_az:FuncData
 f_x:Addr
 d_x:FuncData
 f_aj:Addr
 d_aj:FuncData
 f_ap:Addr
 d_ap:FuncData
 f_af:Addr
 d_af:FuncData
 f_k:Addr
 d_k:FuncData
 f_g:Addr
 d_g:FuncData
 f_j:Addr
 d_j:FuncData
 f_aa:Addr
 d_aa:FuncData
 f_seen:Addr
 d_seen:FuncData
 f_ag:Addr
 d_ag:FuncData
 f_av:Addr
 d_av:FuncData
 f_a1:Addr
 d_a1:FuncData
 f_z:Addr
 d_z:FuncData
 f_t:Addr
 d_t:FuncData
 f_ad:Addr
 d_ad:FuncData
 f_v:Addr
 d_v:FuncData
 f_as:Addr
 d_as:FuncData
 f_aq:Addr
 d_aq:FuncData
 f_at:Addr
 d_at:FuncData
 f_ai:Addr
 d_ai:FuncData
 f_m:Addr
 d_m:FuncData
 f_an:Addr
 d_an:FuncData
 f_a0:Addr
 d_a0:FuncData
 f_am:Addr
 d_am:FuncData
 f_ah:Addr
 d_ah:FuncData
 f_ab:Addr
 d_ab:FuncData
 f_law:Addr
 d_law:FuncData
 C_a3:Addr
 C_aw:Addr
 C_ak:Addr
 C_n:Addr
 C_ao:Addr
 D_a2:Addr
structure Txt (w:World) (K:PySem.W.Frag) (mg:Str->Option Value) (t:Adr):Prop where
 g_a3:mg "Side"=some (.ref t.C_a3)
 g_aw:mg "LeftSide"=some (.ref t.C_aw)
 g_ak:mg "RightSide"=some (.ref t.C_ak)
 g_n:mg "Picture"=some (.ref t.C_n)
 g_ao:mg "Letters"=some (.ref t.C_ao)
 F_ar:Fun K "__init__" "Side.__init__" s_ar t.f_ar t.d_ar
 b_ar:x4 K t.d_ar ["self", "width"] []
 F_w:Fun K "rim" "LeftSide.rim" s_w t.f_w t.d_w
 b_w:x4 K t.d_w ["self"] []
 F_y:Fun K "way" "LeftSide.way" s_y t.f_y t.d_y
 b_y:x4 K t.d_y ["self"] []
 F_l:Fun K "across" "LeftSide.across" s_l t.f_l t.d_l
 b_l:x4 K t.d_l ["self", "x"] []
 F_q:Fun K "rim" "RightSide.rim" s_q t.f_q t.d_q
 b_q:x4 K t.d_q ["self"] []
 F_r:Fun K "way" "RightSide.way" s_r t.f_r t.d_r
 b_r:x4 K t.d_r ["self"] []
 F_h:Fun K "across" "RightSide.across" s_h t.f_h t.d_h
 b_h:x4 K t.d_h ["self", "x"] []
 g_au:mg "side_of"=some (.ref t.f_au)
 F_au:Fun K "side_of" "side_of" s_au t.f_au t.d_au
 b_au:x4 K t.d_au ["word", "width"] []
 g_ay:mg "cells_of"=some (.ref t.f_ay)
 F_ay:Fun K "cells_of" "cells_of" s_ay t.f_ay t.d_ay
 b_ay:x4 K t.d_ay ["picture", "name", "side", "row"] []
 g_al:mg "is_whole"=some (.ref t.f_al)
 F_al:Fun K "is_whole" "is_whole" s_al t.f_al t.d_al
 b_al:x4 K t.d_al ["thing", "low", "high"] []
 g_ax:mg "is_name"=some (.ref t.f_ax)
 F_ax:Fun K "is_name" "is_name" s_ax t.f_ax t.d_ax
 b_ax:x4 K t.d_ax ["thing"] []
 F_ae:Fun K "__init__" "Picture.__init__" s_ae t.f_ae t.d_ae
 b_ae:x4 K t.d_ae ["self", "width", "height"] []
 F_p:FunD K "put" "Picture.put" s_p t.T_p t.f_p t.d_p
 b_p:x4 K t.d_p ["self", "name", "x", "y", "sides", "low", "high"] []
 F_ac:Fun K "take" "Picture.take" s_ac t.f_ac t.d_ac
 b_ac:x4 K t.d_ac ["self", "name"] []
 F_f:Fun K "open_seat" "Picture.open_seat" s_f t.f_f t.d_f
 b_f:x4 K t.d_f ["self", "side", "row"] []
 F_i:Fun K "points" "Picture.points" s_i t.f_i t.d_i
 b_i:x4 K t.d_i ["self"] []
 F_s:Fun K "seats" "Picture.seats" s_s t.f_s t.d_s
 b_s:x4 K t.d_s ["self"] []
 F_e:Fun K "place_of" "Picture.place_of" s_e t.f_e t.d_e
 b_e:x4 K t.d_e ["self", "name"] []
 F_o:Fun K "length" "Picture.length" s_o t.f_o t.d_o
 b_o:x4 K t.d_o ["self", "name", "side", "row"] []
 F_b:Fun K "check_name" "Picture.check_name" s_b t.f_b t.d_b
 b_b:x4 K t.d_b ["self", "name"] []
 F_d:Fun K "check_cell" "Picture.check_cell" s_d t.f_d t.d_d
 b_d:x4 K t.d_d ["self", "x", "y"] []
 F_a:Fun K "check_lines" "Picture.check_lines" s_a t.f_a t.d_a
 b_a:x4 K t.d_a ["self", "name", "x", "y"] []
 F_c:Fun K "check_seat" "Picture.check_seat" s_c t.f_c t.d_c
 b_c:x4 K t.d_c ["self", "side", "row"] []
 g_u:mg "picture_with"=some (.ref t.f_u)
 F_u:Fun K "picture_with" "picture_with" s_u t.f_u t.d_u
 b_u:x4 K t.d_u ["width", "height", "points", "seats"] []
 g_drawn:mg "drawn"=some (.ref t.f_drawn)
 F_drawn:Fun K "drawn" "drawn" xcx t.f_drawn t.d_drawn
 b_drawn:x4 K t.d_drawn ["picture", "pairs"] []
 g_az:mg "row_text"=some (.ref t.f_az)
 F_az:Fun K "row_text" "row_text" s_az t.f_az t.d_az
 b_az:x4 K t.d_az ["signs", "width", "row"] []
 g_x:mg "leader_signs"=some (.ref t.f_x)
 F_x:Fun K "leader_signs" "leader_signs" s_x t.f_x t.d_x
 b_x:x4 K t.d_x ["picture", "pairs"] []
 g_aj:mg "leader_sign"=some (.ref t.f_aj)
 F_aj:Fun K "leader_sign" "leader_sign" s_aj t.f_aj t.d_aj
 b_aj:x4 K t.d_aj ["cell", "x", "row"] []
 g_ap:mg "rim_signs"=some (.ref t.f_ap)
 F_ap:Fun K "rim_signs" "rim_signs" s_ap t.f_ap t.d_ap
 b_ap:x4 K t.d_ap ["picture", "pairs"] []
 F_af:Fun K "__init__" "Letters.__init__" s_af t.f_af t.d_af
 b_af:x4 K t.d_af ["self", "last_column"] []
 F_k:Fun K "is_rim" "Letters.is_rim" s_k t.f_k t.d_k
 b_k:x4 K t.d_k ["self", "column"] []
 F_g:Fun K "may_stand" "Letters.may_stand" s_g t.f_g t.d_g
 b_g:x4 K t.d_g ["self", "row", "column", "sign"] []
 F_j:Fun K "may_lie" "Letters.may_lie" s_j t.f_j t.d_j
 b_j:x4 K t.d_j ["self", "row", "column", "name"] []
 F_aa:Fun K "read" "Letters.read" s_aa t.f_aa t.d_aa
 b_aa:x4 K t.d_aa ["self", "row", "column", "sign"] []
 g_seen:mg "seen"=some (.ref t.f_seen)
 F_seen:Fun K "seen" "seen" xdn t.f_seen t.d_seen
 b_seen:x4 K t.d_seen ["rows"] []
 g_ag:mg "check_texts"=some (.ref t.f_ag)
 F_ag:Fun K "check_texts" "check_texts" s_ag t.f_ag t.d_ag
 b_ag:x4 K t.d_ag ["rows"] []
 g_av:mg "signs_in"=some (.ref t.f_av)
 F_av:Fun K "signs_in" "signs_in" s_av t.f_av t.d_av
 b_av:x4 K t.d_av ["rows"] []
 g_a1:mg "seat_at"=some (.ref t.f_a1)
 F_a1:Fun K "seat_at" "seat_at" s_a1 t.f_a1 t.d_a1
 b_a1:x4 K t.d_a1 ["place"] []
 g_z:mg "picture_seen"=some (.ref t.f_z)
 F_z:Fun K "picture_seen" "picture_seen" s_z t.f_z t.d_z
 b_z:x4 K t.d_z ["rows", "letters"] []
 g_t:mg "check_drawing"=some (.ref t.f_t)
 F_t:Fun K "check_drawing" "check_drawing" s_t t.f_t t.d_t
 b_t:x4 K t.d_t ["rows", "drawing"] []
 g_ad:mg "_law_cell_at"=some (.ref t.f_ad)
 F_ad:Fun K "_law_cell_at" "_law_cell_at" s_ad t.f_ad t.d_ad
 b_ad:x4 K t.d_ad ["_law_script", "_law_k"] []
 g_v:mg "_law_mix"=some (.ref t.f_v)
 F_v:Fun K "_law_mix" "_law_mix" s_v t.f_v t.d_v
 b_v:x4 K t.d_v ["_law_cell", "_law_k"] []
 g_as:mg "_law_frame"=some (.ref t.f_as)
 F_as:Fun K "_law_frame" "_law_frame" s_as t.f_as t.d_as
 b_as:x4 K t.d_as ["_law_script"] []
 g_aq:mg "_law_seats"=some (.ref t.f_aq)
 F_aq:Fun K "_law_seats" "_law_seats" s_aq t.f_aq t.d_aq
 b_aq:x4 K t.d_aq ["_law_script", "_law_height"] []
 g_at:mg "_law_point"=some (.ref t.f_at)
 F_at:Fun K "_law_point" "_law_point" s_at t.f_at t.d_at
 b_at:x4 K t.d_at ["_law_cell", "_law_name", "_law_x", "_law_y", "_law_height"] []
 g_ai:mg "_law_points"=some (.ref t.f_ai)
 F_ai:Fun K "_law_points" "_law_points" s_ai t.f_ai t.d_ai
 b_ai:x4 K t.d_ai ["_law_cells", "_law_width", "_law_height"] []
 g_m:mg "_law_every_seat"=some (.ref t.f_m)
 F_m:Fun K "_law_every_seat" "_law_every_seat" s_m t.f_m t.d_m
 b_m:x4 K t.d_m ["_law_height"] []
 g_an:mg "_law_pairs"=some (.ref t.f_an)
 F_an:Fun K "_law_pairs" "_law_pairs" s_an t.f_an t.d_an
 b_an:x4 K t.d_an ["_law_cell", "_law_points_here", "_law_height", "_law_seats_here"] []
 g_a0:mg "_law_rim"=some (.ref t.f_a0)
 F_a0:Fun K "_law_rim" "_law_rim" s_a0 t.f_a0 t.d_a0
 b_a0:x4 K t.d_a0 ["_law_width", "_law_side"] []
 g_am:mg "_law_leader"=some (.ref t.f_am)
 F_am:Fun K "_law_leader" "_law_leader" s_am t.f_am t.d_am
 b_am:x4 K t.d_am ["_law_rim_here", "_law_x", "_law_y", "_law_row"] []
 g_ah:mg "_law_sheet"=some (.ref t.f_ah)
 F_ah:Fun K "_law_sheet" "_law_sheet" s_ah t.f_ah t.d_ah
 b_ah:x4 K t.d_ah ["_law_width", "_law_height", "_law_points_here", "_law_seats_here", "_law_pairs_here"] []
 g_ab:mg "_law_is_seen"=some (.ref t.f_ab)
 F_ab:Fun K "_law_is_seen" "_law_is_seen" s_ab t.f_ab t.d_ab
 b_ab:x4 K t.d_ab ["_law_found", "_law_width", "_law_height", "_law_points_here", "_law_seats_here", "_law_pairs_here"] []
 g_law:mg "law"=some (.ref t.f_law)
 F_law:Fun K "law" "law" xew t.f_law t.d_law
 b_law:x4 K t.d_law ["_law_script"] []
 c_a3:Cls K t.C_a3
 ca_a3:PySem.W.findIn K (.ref t.C_a3) "__class__"=some (some (.builtin "object.__class__"))
 mo_a3:PySem.W.mroIn K t.C_a3 (.type "object")=some true
 k_a3:Mk K t.C_a3 t.f_ar
 c_aw:Cls K t.C_aw
 ca_aw:PySem.W.findIn K (.ref t.C_aw) "__class__"=some (some (.builtin "object.__class__"))
 mo_aw:PySem.W.mroIn K t.C_aw (.type "object")=some true
 k_aw:Mk K t.C_aw t.f_ar
 m_w:Meth K t.C_aw "rim" t.f_w
 m_y:Meth K t.C_aw "way" t.f_y
 m_l:Meth K t.C_aw "across" t.f_l
 c_ak:Cls K t.C_ak
 ca_ak:PySem.W.findIn K (.ref t.C_ak) "__class__"=some (some (.builtin "object.__class__"))
 mo_ak:PySem.W.mroIn K t.C_ak (.type "object")=some true
 k_ak:Mk K t.C_ak t.f_ar
 m_q:Meth K t.C_ak "rim" t.f_q
 m_r:Meth K t.C_ak "way" t.f_r
 m_h:Meth K t.C_ak "across" t.f_h
 c_n:Cls K t.C_n
 ca_n:PySem.W.findIn K (.ref t.C_n) "__class__"=some (some (.builtin "object.__class__"))
 mo_n:PySem.W.mroIn K t.C_n (.type "object")=some true
 k_n:Mk K t.C_n t.f_ae
 m_p:Meth K t.C_n "put" t.f_p
 m_ac:Meth K t.C_n "take" t.f_ac
 m_f:Meth K t.C_n "open_seat" t.f_f
 m_i:Meth K t.C_n "points" t.f_i
 m_s:Meth K t.C_n "seats" t.f_s
 m_e:Meth K t.C_n "place_of" t.f_e
 m_o:Meth K t.C_n "length" t.f_o
 m_b:Meth K t.C_n "check_name" t.f_b
 m_d:Meth K t.C_n "check_cell" t.f_d
 m_a:Meth K t.C_n "check_lines" t.f_a
 m_c:Meth K t.C_n "check_seat" t.f_c
 c_ao:Cls K t.C_ao
 ca_ao:PySem.W.findIn K (.ref t.C_ao) "__class__"=some (some (.builtin "object.__class__"))
 mo_ao:PySem.W.mroIn K t.C_ao (.type "object")=some true
 k_ao:Mk K t.C_ao t.f_af
 m_k:Meth K t.C_ao "is_rim" t.f_k
 m_g:Meth K t.C_ao "may_stand" t.f_g
 m_j:Meth K t.C_ao "may_lie" t.f_j
 m_aa:Meth K t.C_ao "read" t.f_aa
 cg:PySem.W.specialIn K (.builtin "object.__class__") "__get__"=some (some (.builtin "getset_descriptor.__get__"))
 ct:PySem.W.takesIn K (.builtin "object.__class__")=some true
 n_bb:PySem.W.findIn K (.ref t.C_ak) "width"=some none
 n_a4:PySem.W.findIn K (.ref t.C_n) "placed"=some none
 n_a6:PySem.W.findIn K (.ref t.C_n) "height"=some none
 n_a5:PySem.W.findIn K (.ref t.C_n) "width"=some none
 n_ba:PySem.W.findIn K (.ref t.C_n) "opened"=some none
 n_a8:PySem.W.findIn K (.ref t.C_ao) "last_column"=some none
 n_a7:PySem.W.findIn K (.ref t.C_ao) "inner"=some none
 n_a9:PySem.W.findIn K (.ref t.C_ao) "outer"=some none
 n_bg:PySem.W.findIn K (.ref t.C_a3) "width"=some none
 n_be:PySem.W.findIn K (.ref t.C_aw) "width"=some none
 n_abs:mg "abs"=none
 n_bool:mg "bool"=none
 n_dict:mg "dict"=none
 n_enumerate:mg "enumerate"=none
 n_int:mg "int"=none
 n_isinstance:mg "isinstance"=none
 n_len:mg "len"=none
 n_list:mg "list"=none
 n_max:mg "max"=none
 n_min:mg "min"=none
 n_range:mg "range"=none
 n_reversed:mg "reversed"=none
 n_sorted:mg "sorted"=none
 n_str:mg "str"=none
 n_tuple:mg "tuple"=none
 v_bf:∃ tk,mg "MOST_ROWS"=some (.int 16 tk)
 v_bc:∃ tk,mg "MOST_COLUMNS"=some (.int 30 tk)
 v_bd:∃ tk,mg "MOST_POINTS"=some (.int 12 tk)
 g_a2:mg "MIRRORED_SIDES"=some (.ref t.D_a2)
 D_a2:xlw w K t.D_a2 [(.inr "left",.str "right"),(.inr "right",.str "left"),(.inr "both",.str "both")]
@[elab_as_elim] theorem xcb {α:Type}{P:List α->Prop}:(us:List α)->us.length=1->(∀ a0,P [a0])->P us
 | [a0],_,h=>h a0
@[elab_as_elim] theorem xbt {α:Type}{P:List α->Prop}:(us:List α)->us.length=2->(∀ a0 a1,P [a0,a1])->P us
 | [a0,a1],_,h=>h a0 a1
@[elab_as_elim] theorem xel {α:Type}{P:List α->Prop}:(us:List α)->us.length=3->(∀ a0 a1 a2,P [a0,a1,a2])->P us
 | [a0,a1,a2],_,h=>h a0 a1 a2
@[elab_as_elim] theorem xdu {α:Type}{P:List α->Prop}:(us:List α)->us.length=4->(∀ a0 a1 a2 a3,P [a0,a1,a2,a3])->P us
 | [a0,a1,a2,a3],_,h=>h a0 a1 a2 a3
@[elab_as_elim] theorem xpz {α:Type}{P:List α->Prop}:(us:List α)->us.length=5->(∀ a0 a1 a2 a3 a4,P [a0,a1,a2,a3,a4])->P us
 | [a0,a1,a2,a3,a4],_,h=>h a0 a1 a2 a3 a4
@[elab_as_elim] theorem xtj {α:Type}{P:List α->Prop}:(us:List α)->us.length=6->(∀ a0 a1 a2 a3 a4 a5,P [a0,a1,a2,a3,a4,a5])->P us
 | [a0,a1,a2,a3,a4,a5],_,h=>h a0 a1 a2 a3 a4 a5
@[elab_as_elim] theorem xtw {α:Type}{P:List α->Prop}:(us:List α)->us.length=7->(∀ a0 a1 a2 a3 a4 a5 a6,P [a0,a1,a2,a3,a4,a5,a6])->P us
 | [a0,a1,a2,a3,a4,a5,a6],_,h=>h a0 a1 a2 a3 a4 a5 a6
theorem txt_mk {w:World}{K:PySem.W.Frag}{h:Heap}{mg:Str->Option Value} (X:K.In h) (G:h.Ns mainGlobals mg) {C_a3 C_aw C_ak C_n C_ao f_ar f_w f_y f_l f_q f_r f_h f_au f_ay f_al f_ax f_ae f_p T_p f_ac f_f f_i f_s f_e f_o f_b f_d f_a f_c f_u f_drawn f_az f_x f_aj f_ap f_af f_k f_g f_j f_aa f_seen f_ag f_av f_a1 f_z f_t f_ad f_v f_as f_aq f_at f_ai f_m f_an f_a0 f_am f_ah f_ab f_law:Addr}{oc_ar kv_ar dc_ar pm_ar cd_ar ct_ar:Value}{od_ar an_ar:Option Addr}{sl_ar:Array (Option Value)}{oc_w kv_w dc_w pm_w cd_w ct_w:Value}{od_w an_w:Option Addr}{sl_w:Array (Option Value)}{oc_y kv_y dc_y pm_y cd_y ct_y:Value}{od_y an_y:Option Addr}{sl_y:Array (Option Value)}{oc_l kv_l dc_l pm_l cd_l ct_l:Value}{od_l an_l:Option Addr}{sl_l:Array (Option Value)}{oc_q kv_q dc_q pm_q cd_q ct_q:Value}{od_q an_q:Option Addr}{sl_q:Array (Option Value)}{oc_r kv_r dc_r pm_r cd_r ct_r:Value}{od_r an_r:Option Addr}{sl_r:Array (Option Value)}{oc_h kv_h dc_h pm_h cd_h ct_h:Value}{od_h an_h:Option Addr}{sl_h:Array (Option Value)}{oc_au kv_au dc_au pm_au cd_au ct_au:Value}{od_au an_au:Option Addr}{sl_au:Array (Option Value)}{oc_ay kv_ay dc_ay pm_ay cd_ay ct_ay:Value}{od_ay an_ay:Option Addr}{sl_ay:Array (Option Value)}{oc_al kv_al dc_al pm_al cd_al ct_al:Value}{od_al an_al:Option Addr}{sl_al:Array (Option Value)}{oc_ax kv_ax dc_ax pm_ax cd_ax ct_ax:Value}{od_ax an_ax:Option Addr}{sl_ax:Array (Option Value)}{oc_ae kv_ae dc_ae pm_ae cd_ae ct_ae:Value}{od_ae an_ae:Option Addr}{sl_ae:Array (Option Value)}{oc_p kv_p dc_p pm_p cd_p ct_p:Value}{od_p an_p:Option Addr}{sl_p:Array (Option Value)}{oc_ac kv_ac dc_ac pm_ac cd_ac ct_ac:Value}{od_ac an_ac:Option Addr}{sl_ac:Array (Option Value)}{oc_f kv_f dc_f pm_f cd_f ct_f:Value}{od_f an_f:Option Addr}{sl_f:Array (Option Value)}{oc_i kv_i dc_i pm_i cd_i ct_i:Value}{od_i an_i:Option Addr}{sl_i:Array (Option Value)}{oc_s kv_s dc_s pm_s cd_s ct_s:Value}{od_s an_s:Option Addr}{sl_s:Array (Option Value)}{oc_e kv_e dc_e pm_e cd_e ct_e:Value}{od_e an_e:Option Addr}{sl_e:Array (Option Value)}{oc_o kv_o dc_o pm_o cd_o ct_o:Value}{od_o an_o:Option Addr}{sl_o:Array (Option Value)}{oc_b kv_b dc_b pm_b cd_b ct_b:Value}{od_b an_b:Option Addr}{sl_b:Array (Option Value)}{oc_d kv_d dc_d pm_d cd_d ct_d:Value}{od_d an_d:Option Addr}{sl_d:Array (Option Value)}{oc_a kv_a dc_a pm_a cd_a ct_a:Value}{od_a an_a:Option Addr}{sl_a:Array (Option Value)}{oc_c kv_c dc_c pm_c cd_c ct_c:Value}{od_c an_c:Option Addr}{sl_c:Array (Option Value)}{oc_u kv_u dc_u pm_u cd_u ct_u:Value}{od_u an_u:Option Addr}{sl_u:Array (Option Value)}{oc_drawn kv_drawn dc_drawn pm_drawn cd_drawn ct_drawn:Value}{od_drawn an_drawn:Option Addr}{sl_drawn:Array (Option Value)}{oc_az kv_az dc_az pm_az cd_az ct_az:Value}{od_az an_az:Option Addr}{sl_az:Array (Option Value)}{oc_x kv_x dc_x pm_x cd_x ct_x:Value}{od_x an_x:Option Addr}{sl_x:Array (Option Value)}{oc_aj kv_aj dc_aj pm_aj cd_aj ct_aj:Value}{od_aj an_aj:Option Addr}{sl_aj:Array (Option Value)}{oc_ap kv_ap dc_ap pm_ap cd_ap ct_ap:Value}{od_ap an_ap:Option Addr}{sl_ap:Array (Option Value)}{oc_af kv_af dc_af pm_af cd_af ct_af:Value}{od_af an_af:Option Addr}{sl_af:Array (Option Value)}{oc_k kv_k dc_k pm_k cd_k ct_k:Value}{od_k an_k:Option Addr}{sl_k:Array (Option Value)}{oc_g kv_g dc_g pm_g cd_g ct_g:Value}{od_g an_g:Option Addr}{sl_g:Array (Option Value)}{oc_j kv_j dc_j pm_j cd_j ct_j:Value}{od_j an_j:Option Addr}{sl_j:Array (Option Value)}{oc_aa kv_aa dc_aa pm_aa cd_aa ct_aa:Value}{od_aa an_aa:Option Addr}{sl_aa:Array (Option Value)}{oc_seen kv_seen dc_seen pm_seen cd_seen ct_seen:Value}{od_seen an_seen:Option Addr}{sl_seen:Array (Option Value)}{oc_ag kv_ag dc_ag pm_ag cd_ag ct_ag:Value}{od_ag an_ag:Option Addr}{sl_ag:Array (Option Value)}{oc_av kv_av dc_av pm_av cd_av ct_av:Value}{od_av an_av:Option Addr}{sl_av:Array (Option Value)}{oc_a1 kv_a1 dc_a1 pm_a1 cd_a1 ct_a1:Value}{od_a1 an_a1:Option Addr}{sl_a1:Array (Option Value)}{oc_z kv_z dc_z pm_z cd_z ct_z:Value}{od_z an_z:Option Addr}{sl_z:Array (Option Value)}{oc_t kv_t dc_t pm_t cd_t ct_t:Value}{od_t an_t:Option Addr}{sl_t:Array (Option Value)}{oc_ad kv_ad dc_ad pm_ad cd_ad ct_ad:Value}{od_ad an_ad:Option Addr}{sl_ad:Array (Option Value)}{oc_v kv_v dc_v pm_v cd_v ct_v:Value}{od_v an_v:Option Addr}{sl_v:Array (Option Value)}{oc_as kv_as dc_as pm_as cd_as ct_as:Value}{od_as an_as:Option Addr}{sl_as:Array (Option Value)}{oc_aq kv_aq dc_aq pm_aq cd_aq ct_aq:Value}{od_aq an_aq:Option Addr}{sl_aq:Array (Option Value)}{oc_at kv_at dc_at pm_at cd_at ct_at:Value}{od_at an_at:Option Addr}{sl_at:Array (Option Value)}{oc_ai kv_ai dc_ai pm_ai cd_ai ct_ai:Value}{od_ai an_ai:Option Addr}{sl_ai:Array (Option Value)}{oc_m kv_m dc_m pm_m cd_m ct_m:Value}{od_m an_m:Option Addr}{sl_m:Array (Option Value)}{oc_an kv_an dc_an pm_an cd_an ct_an:Value}{od_an an_an:Option Addr}{sl_an:Array (Option Value)}{oc_a0 kv_a0 dc_a0 pm_a0 cd_a0 ct_a0:Value}{od_a0 an_a0:Option Addr}{sl_a0:Array (Option Value)}{oc_am kv_am dc_am pm_am cd_am ct_am:Value}{od_am an_am:Option Addr}{sl_am:Array (Option Value)}{oc_ah kv_ah dc_ah pm_ah cd_ah ct_ah:Value}{od_ah an_ah:Option Addr}{sl_ah:Array (Option Value)}{oc_ab kv_ab dc_ab pm_ab cd_ab ct_ab:Value}{od_ab an_ab:Option Addr}{sl_ab:Array (Option Value)}{oc_law kv_law dc_law pm_law cd_law ct_law:Value}{od_law an_law:Option Addr}{sl_law:Array (Option Value)}{tk0_p:Tok}{tk1_p:Tok}{toc_p:Value}{tod_p:Option Addr}{tn_p:Nat}{tsl_p:Array (Option Value)}{tkc_bf:Tok}{tkc_bc:Tok}{tkc_bd:Tok}{D_a2:Addr}{ta0_a2 tb0_a2:Tok}{ta1_a2 tb1_a2:Tok}{ta2_a2 tb2_a2:Tok}{ep_a2:Nat}
    (g_a3:PySem.W.nsIn K mainGlobals "Side"=some (some (.ref C_a3)))
    (g_aw:PySem.W.nsIn K mainGlobals "LeftSide"=some (some (.ref C_aw)))
    (g_ak:PySem.W.nsIn K mainGlobals "RightSide"=some (some (.ref C_ak)))
    (g_n:PySem.W.nsIn K mainGlobals "Picture"=some (some (.ref C_n)))
    (g_ao:PySem.W.nsIn K mainGlobals "Letters"=some (some (.ref C_ao)))
    (a_ar:PySem.W.findIn K (.ref C_a3) "__init__"=some (some (.ref f_ar)))
    (l_ar:K.lookup f_ar=some ⟨oc_ar,od_ar,.func (PySem.W.fnOf "__init__" "Side.__init__" (xv s_ar) (xu s_ar) (xh s_ar) .none kv_ar dc_ar pm_ar an_ar cd_ar ct_ar),sl_ar⟩)
    (c_ar:PySem.W.codeIn K cd_ar "Side.__init__"=true)
    (k_ar:PySem.W.keepIn K (.ref f_ar)=true)
    (i_ar:PySem.W.isFn K (.ref f_ar)=true)
    (a_w:PySem.W.findIn K (.ref C_aw) "rim"=some (some (.ref f_w)))
    (l_w:K.lookup f_w=some ⟨oc_w,od_w,.func (PySem.W.fnOf "rim" "LeftSide.rim" (xv s_w) (xu s_w) (xh s_w) .none kv_w dc_w pm_w an_w cd_w ct_w),sl_w⟩)
    (c_w:PySem.W.codeIn K cd_w "LeftSide.rim"=true)
    (k_w:PySem.W.keepIn K (.ref f_w)=true)
    (i_w:PySem.W.isFn K (.ref f_w)=true)
    (a_y:PySem.W.findIn K (.ref C_aw) "way"=some (some (.ref f_y)))
    (l_y:K.lookup f_y=some ⟨oc_y,od_y,.func (PySem.W.fnOf "way" "LeftSide.way" (xv s_y) (xu s_y) (xh s_y) .none kv_y dc_y pm_y an_y cd_y ct_y),sl_y⟩)
    (c_y:PySem.W.codeIn K cd_y "LeftSide.way"=true)
    (k_y:PySem.W.keepIn K (.ref f_y)=true)
    (i_y:PySem.W.isFn K (.ref f_y)=true)
    (a_l:PySem.W.findIn K (.ref C_aw) "across"=some (some (.ref f_l)))
    (l_l:K.lookup f_l=some ⟨oc_l,od_l,.func (PySem.W.fnOf "across" "LeftSide.across" (xv s_l) (xu s_l) (xh s_l) .none kv_l dc_l pm_l an_l cd_l ct_l),sl_l⟩)
    (c_l:PySem.W.codeIn K cd_l "LeftSide.across"=true)
    (k_l:PySem.W.keepIn K (.ref f_l)=true)
    (i_l:PySem.W.isFn K (.ref f_l)=true)
    (a_q:PySem.W.findIn K (.ref C_ak) "rim"=some (some (.ref f_q)))
    (l_q:K.lookup f_q=some ⟨oc_q,od_q,.func (PySem.W.fnOf "rim" "RightSide.rim" (xv s_q) (xu s_q) (xh s_q) .none kv_q dc_q pm_q an_q cd_q ct_q),sl_q⟩)
    (c_q:PySem.W.codeIn K cd_q "RightSide.rim"=true)
    (k_q:PySem.W.keepIn K (.ref f_q)=true)
    (i_q:PySem.W.isFn K (.ref f_q)=true)
    (a_r:PySem.W.findIn K (.ref C_ak) "way"=some (some (.ref f_r)))
    (l_r:K.lookup f_r=some ⟨oc_r,od_r,.func (PySem.W.fnOf "way" "RightSide.way" (xv s_r) (xu s_r) (xh s_r) .none kv_r dc_r pm_r an_r cd_r ct_r),sl_r⟩)
    (c_r:PySem.W.codeIn K cd_r "RightSide.way"=true)
    (k_r:PySem.W.keepIn K (.ref f_r)=true)
    (i_r:PySem.W.isFn K (.ref f_r)=true)
    (a_h:PySem.W.findIn K (.ref C_ak) "across"=some (some (.ref f_h)))
    (l_h:K.lookup f_h=some ⟨oc_h,od_h,.func (PySem.W.fnOf "across" "RightSide.across" (xv s_h) (xu s_h) (xh s_h) .none kv_h dc_h pm_h an_h cd_h ct_h),sl_h⟩)
    (c_h:PySem.W.codeIn K cd_h "RightSide.across"=true)
    (k_h:PySem.W.keepIn K (.ref f_h)=true)
    (i_h:PySem.W.isFn K (.ref f_h)=true)
    (a_au:PySem.W.nsIn K mainGlobals "side_of"=some (some (.ref f_au)))
    (l_au:K.lookup f_au=some ⟨oc_au,od_au,.func (PySem.W.fnOf "side_of" "side_of" (xv s_au) (xu s_au) (xh s_au) .none kv_au dc_au pm_au an_au cd_au ct_au),sl_au⟩)
    (c_au:PySem.W.codeIn K cd_au "side_of"=true)
    (k_au:PySem.W.keepIn K (.ref f_au)=true)
    (i_au:PySem.W.isFn K (.ref f_au)=true)
    (a_ay:PySem.W.nsIn K mainGlobals "cells_of"=some (some (.ref f_ay)))
    (l_ay:K.lookup f_ay=some ⟨oc_ay,od_ay,.func (PySem.W.fnOf "cells_of" "cells_of" (xv s_ay) (xu s_ay) (xh s_ay) .none kv_ay dc_ay pm_ay an_ay cd_ay ct_ay),sl_ay⟩)
    (c_ay:PySem.W.codeIn K cd_ay "cells_of"=true)
    (k_ay:PySem.W.keepIn K (.ref f_ay)=true)
    (i_ay:PySem.W.isFn K (.ref f_ay)=true)
    (a_al:PySem.W.nsIn K mainGlobals "is_whole"=some (some (.ref f_al)))
    (l_al:K.lookup f_al=some ⟨oc_al,od_al,.func (PySem.W.fnOf "is_whole" "is_whole" (xv s_al) (xu s_al) (xh s_al) .none kv_al dc_al pm_al an_al cd_al ct_al),sl_al⟩)
    (c_al:PySem.W.codeIn K cd_al "is_whole"=true)
    (k_al:PySem.W.keepIn K (.ref f_al)=true)
    (i_al:PySem.W.isFn K (.ref f_al)=true)
    (a_ax:PySem.W.nsIn K mainGlobals "is_name"=some (some (.ref f_ax)))
    (l_ax:K.lookup f_ax=some ⟨oc_ax,od_ax,.func (PySem.W.fnOf "is_name" "is_name" (xv s_ax) (xu s_ax) (xh s_ax) .none kv_ax dc_ax pm_ax an_ax cd_ax ct_ax),sl_ax⟩)
    (c_ax:PySem.W.codeIn K cd_ax "is_name"=true)
    (k_ax:PySem.W.keepIn K (.ref f_ax)=true)
    (i_ax:PySem.W.isFn K (.ref f_ax)=true)
    (a_ae:PySem.W.findIn K (.ref C_n) "__init__"=some (some (.ref f_ae)))
    (l_ae:K.lookup f_ae=some ⟨oc_ae,od_ae,.func (PySem.W.fnOf "__init__" "Picture.__init__" (xv s_ae) (xu s_ae) (xh s_ae) .none kv_ae dc_ae pm_ae an_ae cd_ae ct_ae),sl_ae⟩)
    (c_ae:PySem.W.codeIn K cd_ae "Picture.__init__"=true)
    (k_ae:PySem.W.keepIn K (.ref f_ae)=true)
    (i_ae:PySem.W.isFn K (.ref f_ae)=true)
    (a_p:PySem.W.findIn K (.ref C_n) "put"=some (some (.ref f_p)))
    (l_p:K.lookup f_p=some ⟨oc_p,od_p,.func (PySem.W.fnOf "put" "Picture.put" (xv s_p) (xu s_p) (xh s_p) (.ref T_p) kv_p dc_p pm_p an_p cd_p ct_p),sl_p⟩)
    (c_p:PySem.W.codeIn K cd_p "Picture.put"=true)
    (k_p:PySem.W.keepIn K (.ref f_p)=true)
    (i_p:PySem.W.isFn K (.ref f_p)=true)
    (t_p:K.lookup T_p=some ⟨toc_p,tod_p,.seq #[.str "both" tk0_p,.int 1 tk1_p,.none] tn_p,tsl_p⟩)
    (a_ac:PySem.W.findIn K (.ref C_n) "take"=some (some (.ref f_ac)))
    (l_ac:K.lookup f_ac=some ⟨oc_ac,od_ac,.func (PySem.W.fnOf "take" "Picture.take" (xv s_ac) (xu s_ac) (xh s_ac) .none kv_ac dc_ac pm_ac an_ac cd_ac ct_ac),sl_ac⟩)
    (c_ac:PySem.W.codeIn K cd_ac "Picture.take"=true)
    (k_ac:PySem.W.keepIn K (.ref f_ac)=true)
    (i_ac:PySem.W.isFn K (.ref f_ac)=true)
    (a_f:PySem.W.findIn K (.ref C_n) "open_seat"=some (some (.ref f_f)))
    (l_f:K.lookup f_f=some ⟨oc_f,od_f,.func (PySem.W.fnOf "open_seat" "Picture.open_seat" (xv s_f) (xu s_f) (xh s_f) .none kv_f dc_f pm_f an_f cd_f ct_f),sl_f⟩)
    (c_f:PySem.W.codeIn K cd_f "Picture.open_seat"=true)
    (k_f:PySem.W.keepIn K (.ref f_f)=true)
    (i_f:PySem.W.isFn K (.ref f_f)=true)
    (a_i:PySem.W.findIn K (.ref C_n) "points"=some (some (.ref f_i)))
    (l_i:K.lookup f_i=some ⟨oc_i,od_i,.func (PySem.W.fnOf "points" "Picture.points" (xv s_i) (xu s_i) (xh s_i) .none kv_i dc_i pm_i an_i cd_i ct_i),sl_i⟩)
    (c_i:PySem.W.codeIn K cd_i "Picture.points"=true)
    (k_i:PySem.W.keepIn K (.ref f_i)=true)
    (i_i:PySem.W.isFn K (.ref f_i)=true)
    (a_s:PySem.W.findIn K (.ref C_n) "seats"=some (some (.ref f_s)))
    (l_s:K.lookup f_s=some ⟨oc_s,od_s,.func (PySem.W.fnOf "seats" "Picture.seats" (xv s_s) (xu s_s) (xh s_s) .none kv_s dc_s pm_s an_s cd_s ct_s),sl_s⟩)
    (c_s:PySem.W.codeIn K cd_s "Picture.seats"=true)
    (k_s:PySem.W.keepIn K (.ref f_s)=true)
    (i_s:PySem.W.isFn K (.ref f_s)=true)
    (a_e:PySem.W.findIn K (.ref C_n) "place_of"=some (some (.ref f_e)))
    (l_e:K.lookup f_e=some ⟨oc_e,od_e,.func (PySem.W.fnOf "place_of" "Picture.place_of" (xv s_e) (xu s_e) (xh s_e) .none kv_e dc_e pm_e an_e cd_e ct_e),sl_e⟩)
    (c_e:PySem.W.codeIn K cd_e "Picture.place_of"=true)
    (k_e:PySem.W.keepIn K (.ref f_e)=true)
    (i_e:PySem.W.isFn K (.ref f_e)=true)
    (a_o:PySem.W.findIn K (.ref C_n) "length"=some (some (.ref f_o)))
    (l_o:K.lookup f_o=some ⟨oc_o,od_o,.func (PySem.W.fnOf "length" "Picture.length" (xv s_o) (xu s_o) (xh s_o) .none kv_o dc_o pm_o an_o cd_o ct_o),sl_o⟩)
    (c_o:PySem.W.codeIn K cd_o "Picture.length"=true)
    (k_o:PySem.W.keepIn K (.ref f_o)=true)
    (i_o:PySem.W.isFn K (.ref f_o)=true)
    (a_b:PySem.W.findIn K (.ref C_n) "check_name"=some (some (.ref f_b)))
    (l_b:K.lookup f_b=some ⟨oc_b,od_b,.func (PySem.W.fnOf "check_name" "Picture.check_name" (xv s_b) (xu s_b) (xh s_b) .none kv_b dc_b pm_b an_b cd_b ct_b),sl_b⟩)
    (c_b:PySem.W.codeIn K cd_b "Picture.check_name"=true)
    (k_b:PySem.W.keepIn K (.ref f_b)=true)
    (i_b:PySem.W.isFn K (.ref f_b)=true)
    (a_d:PySem.W.findIn K (.ref C_n) "check_cell"=some (some (.ref f_d)))
    (l_d:K.lookup f_d=some ⟨oc_d,od_d,.func (PySem.W.fnOf "check_cell" "Picture.check_cell" (xv s_d) (xu s_d) (xh s_d) .none kv_d dc_d pm_d an_d cd_d ct_d),sl_d⟩)
    (c_d:PySem.W.codeIn K cd_d "Picture.check_cell"=true)
    (k_d:PySem.W.keepIn K (.ref f_d)=true)
    (i_d:PySem.W.isFn K (.ref f_d)=true)
    (a_a:PySem.W.findIn K (.ref C_n) "check_lines"=some (some (.ref f_a)))
    (l_a:K.lookup f_a=some ⟨oc_a,od_a,.func (PySem.W.fnOf "check_lines" "Picture.check_lines" (xv s_a) (xu s_a) (xh s_a) .none kv_a dc_a pm_a an_a cd_a ct_a),sl_a⟩)
    (c_a:PySem.W.codeIn K cd_a "Picture.check_lines"=true)
    (k_a:PySem.W.keepIn K (.ref f_a)=true)
    (i_a:PySem.W.isFn K (.ref f_a)=true)
    (a_c:PySem.W.findIn K (.ref C_n) "check_seat"=some (some (.ref f_c)))
    (l_c:K.lookup f_c=some ⟨oc_c,od_c,.func (PySem.W.fnOf "check_seat" "Picture.check_seat" (xv s_c) (xu s_c) (xh s_c) .none kv_c dc_c pm_c an_c cd_c ct_c),sl_c⟩)
    (c_c:PySem.W.codeIn K cd_c "Picture.check_seat"=true)
    (k_c:PySem.W.keepIn K (.ref f_c)=true)
    (i_c:PySem.W.isFn K (.ref f_c)=true)
    (a_u:PySem.W.nsIn K mainGlobals "picture_with"=some (some (.ref f_u)))
    (l_u:K.lookup f_u=some ⟨oc_u,od_u,.func (PySem.W.fnOf "picture_with" "picture_with" (xv s_u) (xu s_u) (xh s_u) .none kv_u dc_u pm_u an_u cd_u ct_u),sl_u⟩)
    (c_u:PySem.W.codeIn K cd_u "picture_with"=true)
    (k_u:PySem.W.keepIn K (.ref f_u)=true)
    (i_u:PySem.W.isFn K (.ref f_u)=true)
    (a_drawn:PySem.W.nsIn K mainGlobals "drawn"=some (some (.ref f_drawn)))
    (l_drawn:K.lookup f_drawn=some ⟨oc_drawn,od_drawn,.func (PySem.W.fnOf "drawn" "drawn" (xv xcx) (xu xcx) (xh xcx) .none kv_drawn dc_drawn pm_drawn an_drawn cd_drawn ct_drawn),sl_drawn⟩)
    (c_drawn:PySem.W.codeIn K cd_drawn "drawn"=true)
    (k_drawn:PySem.W.keepIn K (.ref f_drawn)=true)
    (i_drawn:PySem.W.isFn K (.ref f_drawn)=true)
    (a_az:PySem.W.nsIn K mainGlobals "row_text"=some (some (.ref f_az)))
    (l_az:K.lookup f_az=some ⟨oc_az,od_az,.func (PySem.W.fnOf "row_text" "row_text" (xv s_az) (xu s_az) (xh s_az) .none kv_az dc_az pm_az an_az cd_az ct_az),sl_az⟩)
    (c_az:PySem.W.codeIn K cd_az "row_text"=true)
    (k_az:PySem.W.keepIn K (.ref f_az)=true)
    (i_az:PySem.W.isFn K (.ref f_az)=true)
    (a_x:PySem.W.nsIn K mainGlobals "leader_signs"=some (some (.ref f_x)))
    (l_x:K.lookup f_x=some ⟨oc_x,od_x,.func (PySem.W.fnOf "leader_signs" "leader_signs" (xv s_x) (xu s_x) (xh s_x) .none kv_x dc_x pm_x an_x cd_x ct_x),sl_x⟩)
    (c_x:PySem.W.codeIn K cd_x "leader_signs"=true)
    (k_x:PySem.W.keepIn K (.ref f_x)=true)
    (i_x:PySem.W.isFn K (.ref f_x)=true)
    (a_aj:PySem.W.nsIn K mainGlobals "leader_sign"=some (some (.ref f_aj)))
    (l_aj:K.lookup f_aj=some ⟨oc_aj,od_aj,.func (PySem.W.fnOf "leader_sign" "leader_sign" (xv s_aj) (xu s_aj) (xh s_aj) .none kv_aj dc_aj pm_aj an_aj cd_aj ct_aj),sl_aj⟩)
    (c_aj:PySem.W.codeIn K cd_aj "leader_sign"=true)
    (k_aj:PySem.W.keepIn K (.ref f_aj)=true)
    (i_aj:PySem.W.isFn K (.ref f_aj)=true)
    (a_ap:PySem.W.nsIn K mainGlobals "rim_signs"=some (some (.ref f_ap)))
    (l_ap:K.lookup f_ap=some ⟨oc_ap,od_ap,.func (PySem.W.fnOf "rim_signs" "rim_signs" (xv s_ap) (xu s_ap) (xh s_ap) .none kv_ap dc_ap pm_ap an_ap cd_ap ct_ap),sl_ap⟩)
    (c_ap:PySem.W.codeIn K cd_ap "rim_signs"=true)
    (k_ap:PySem.W.keepIn K (.ref f_ap)=true)
    (i_ap:PySem.W.isFn K (.ref f_ap)=true)
    (a_af:PySem.W.findIn K (.ref C_ao) "__init__"=some (some (.ref f_af)))
    (l_af:K.lookup f_af=some ⟨oc_af,od_af,.func (PySem.W.fnOf "__init__" "Letters.__init__" (xv s_af) (xu s_af) (xh s_af) .none kv_af dc_af pm_af an_af cd_af ct_af),sl_af⟩)
    (c_af:PySem.W.codeIn K cd_af "Letters.__init__"=true)
    (k_af:PySem.W.keepIn K (.ref f_af)=true)
    (i_af:PySem.W.isFn K (.ref f_af)=true)
    (a_k:PySem.W.findIn K (.ref C_ao) "is_rim"=some (some (.ref f_k)))
    (l_k:K.lookup f_k=some ⟨oc_k,od_k,.func (PySem.W.fnOf "is_rim" "Letters.is_rim" (xv s_k) (xu s_k) (xh s_k) .none kv_k dc_k pm_k an_k cd_k ct_k),sl_k⟩)
    (c_k:PySem.W.codeIn K cd_k "Letters.is_rim"=true)
    (k_k:PySem.W.keepIn K (.ref f_k)=true)
    (i_k:PySem.W.isFn K (.ref f_k)=true)
    (a_g:PySem.W.findIn K (.ref C_ao) "may_stand"=some (some (.ref f_g)))
    (l_g:K.lookup f_g=some ⟨oc_g,od_g,.func (PySem.W.fnOf "may_stand" "Letters.may_stand" (xv s_g) (xu s_g) (xh s_g) .none kv_g dc_g pm_g an_g cd_g ct_g),sl_g⟩)
    (c_g:PySem.W.codeIn K cd_g "Letters.may_stand"=true)
    (k_g:PySem.W.keepIn K (.ref f_g)=true)
    (i_g:PySem.W.isFn K (.ref f_g)=true)
    (a_j:PySem.W.findIn K (.ref C_ao) "may_lie"=some (some (.ref f_j)))
    (l_j:K.lookup f_j=some ⟨oc_j,od_j,.func (PySem.W.fnOf "may_lie" "Letters.may_lie" (xv s_j) (xu s_j) (xh s_j) .none kv_j dc_j pm_j an_j cd_j ct_j),sl_j⟩)
    (c_j:PySem.W.codeIn K cd_j "Letters.may_lie"=true)
    (k_j:PySem.W.keepIn K (.ref f_j)=true)
    (i_j:PySem.W.isFn K (.ref f_j)=true)
    (a_aa:PySem.W.findIn K (.ref C_ao) "read"=some (some (.ref f_aa)))
    (l_aa:K.lookup f_aa=some ⟨oc_aa,od_aa,.func (PySem.W.fnOf "read" "Letters.read" (xv s_aa) (xu s_aa) (xh s_aa) .none kv_aa dc_aa pm_aa an_aa cd_aa ct_aa),sl_aa⟩)
    (c_aa:PySem.W.codeIn K cd_aa "Letters.read"=true)
    (k_aa:PySem.W.keepIn K (.ref f_aa)=true)
    (i_aa:PySem.W.isFn K (.ref f_aa)=true)
    (a_seen:PySem.W.nsIn K mainGlobals "seen"=some (some (.ref f_seen)))
    (l_seen:K.lookup f_seen=some ⟨oc_seen,od_seen,.func (PySem.W.fnOf "seen" "seen" (xv xdn) (xu xdn) (xh xdn) .none kv_seen dc_seen pm_seen an_seen cd_seen ct_seen),sl_seen⟩)
    (c_seen:PySem.W.codeIn K cd_seen "seen"=true)
    (k_seen:PySem.W.keepIn K (.ref f_seen)=true)
    (i_seen:PySem.W.isFn K (.ref f_seen)=true)
    (a_ag:PySem.W.nsIn K mainGlobals "check_texts"=some (some (.ref f_ag)))
    (l_ag:K.lookup f_ag=some ⟨oc_ag,od_ag,.func (PySem.W.fnOf "check_texts" "check_texts" (xv s_ag) (xu s_ag) (xh s_ag) .none kv_ag dc_ag pm_ag an_ag cd_ag ct_ag),sl_ag⟩)
    (c_ag:PySem.W.codeIn K cd_ag "check_texts"=true)
    (k_ag:PySem.W.keepIn K (.ref f_ag)=true)
    (i_ag:PySem.W.isFn K (.ref f_ag)=true)
    (a_av:PySem.W.nsIn K mainGlobals "signs_in"=some (some (.ref f_av)))
    (l_av:K.lookup f_av=some ⟨oc_av,od_av,.func (PySem.W.fnOf "signs_in" "signs_in" (xv s_av) (xu s_av) (xh s_av) .none kv_av dc_av pm_av an_av cd_av ct_av),sl_av⟩)
    (c_av:PySem.W.codeIn K cd_av "signs_in"=true)
    (k_av:PySem.W.keepIn K (.ref f_av)=true)
    (i_av:PySem.W.isFn K (.ref f_av)=true)
    (a_a1:PySem.W.nsIn K mainGlobals "seat_at"=some (some (.ref f_a1)))
    (l_a1:K.lookup f_a1=some ⟨oc_a1,od_a1,.func (PySem.W.fnOf "seat_at" "seat_at" (xv s_a1) (xu s_a1) (xh s_a1) .none kv_a1 dc_a1 pm_a1 an_a1 cd_a1 ct_a1),sl_a1⟩)
    (c_a1:PySem.W.codeIn K cd_a1 "seat_at"=true)
    (k_a1:PySem.W.keepIn K (.ref f_a1)=true)
    (i_a1:PySem.W.isFn K (.ref f_a1)=true)
    (a_z:PySem.W.nsIn K mainGlobals "picture_seen"=some (some (.ref f_z)))
    (l_z:K.lookup f_z=some ⟨oc_z,od_z,.func (PySem.W.fnOf "picture_seen" "picture_seen" (xv s_z) (xu s_z) (xh s_z) .none kv_z dc_z pm_z an_z cd_z ct_z),sl_z⟩)
    (c_z:PySem.W.codeIn K cd_z "picture_seen"=true)
    (k_z:PySem.W.keepIn K (.ref f_z)=true)
    (i_z:PySem.W.isFn K (.ref f_z)=true)
    (a_t:PySem.W.nsIn K mainGlobals "check_drawing"=some (some (.ref f_t)))
    (l_t:K.lookup f_t=some ⟨oc_t,od_t,.func (PySem.W.fnOf "check_drawing" "check_drawing" (xv s_t) (xu s_t) (xh s_t) .none kv_t dc_t pm_t an_t cd_t ct_t),sl_t⟩)
    (c_t:PySem.W.codeIn K cd_t "check_drawing"=true)
    (k_t:PySem.W.keepIn K (.ref f_t)=true)
    (i_t:PySem.W.isFn K (.ref f_t)=true)
    (a_ad:PySem.W.nsIn K mainGlobals "_law_cell_at"=some (some (.ref f_ad)))
    (l_ad:K.lookup f_ad=some ⟨oc_ad,od_ad,.func (PySem.W.fnOf "_law_cell_at" "_law_cell_at" (xv s_ad) (xu s_ad) (xh s_ad) .none kv_ad dc_ad pm_ad an_ad cd_ad ct_ad),sl_ad⟩)
    (c_ad:PySem.W.codeIn K cd_ad "_law_cell_at"=true)
    (k_ad:PySem.W.keepIn K (.ref f_ad)=true)
    (i_ad:PySem.W.isFn K (.ref f_ad)=true)
    (a_v:PySem.W.nsIn K mainGlobals "_law_mix"=some (some (.ref f_v)))
    (l_v:K.lookup f_v=some ⟨oc_v,od_v,.func (PySem.W.fnOf "_law_mix" "_law_mix" (xv s_v) (xu s_v) (xh s_v) .none kv_v dc_v pm_v an_v cd_v ct_v),sl_v⟩)
    (c_v:PySem.W.codeIn K cd_v "_law_mix"=true)
    (k_v:PySem.W.keepIn K (.ref f_v)=true)
    (i_v:PySem.W.isFn K (.ref f_v)=true)
    (a_as:PySem.W.nsIn K mainGlobals "_law_frame"=some (some (.ref f_as)))
    (l_as:K.lookup f_as=some ⟨oc_as,od_as,.func (PySem.W.fnOf "_law_frame" "_law_frame" (xv s_as) (xu s_as) (xh s_as) .none kv_as dc_as pm_as an_as cd_as ct_as),sl_as⟩)
    (c_as:PySem.W.codeIn K cd_as "_law_frame"=true)
    (k_as:PySem.W.keepIn K (.ref f_as)=true)
    (i_as:PySem.W.isFn K (.ref f_as)=true)
    (a_aq:PySem.W.nsIn K mainGlobals "_law_seats"=some (some (.ref f_aq)))
    (l_aq:K.lookup f_aq=some ⟨oc_aq,od_aq,.func (PySem.W.fnOf "_law_seats" "_law_seats" (xv s_aq) (xu s_aq) (xh s_aq) .none kv_aq dc_aq pm_aq an_aq cd_aq ct_aq),sl_aq⟩)
    (c_aq:PySem.W.codeIn K cd_aq "_law_seats"=true)
    (k_aq:PySem.W.keepIn K (.ref f_aq)=true)
    (i_aq:PySem.W.isFn K (.ref f_aq)=true)
    (a_at:PySem.W.nsIn K mainGlobals "_law_point"=some (some (.ref f_at)))
    (l_at:K.lookup f_at=some ⟨oc_at,od_at,.func (PySem.W.fnOf "_law_point" "_law_point" (xv s_at) (xu s_at) (xh s_at) .none kv_at dc_at pm_at an_at cd_at ct_at),sl_at⟩)
    (c_at:PySem.W.codeIn K cd_at "_law_point"=true)
    (k_at:PySem.W.keepIn K (.ref f_at)=true)
    (i_at:PySem.W.isFn K (.ref f_at)=true)
    (a_ai:PySem.W.nsIn K mainGlobals "_law_points"=some (some (.ref f_ai)))
    (l_ai:K.lookup f_ai=some ⟨oc_ai,od_ai,.func (PySem.W.fnOf "_law_points" "_law_points" (xv s_ai) (xu s_ai) (xh s_ai) .none kv_ai dc_ai pm_ai an_ai cd_ai ct_ai),sl_ai⟩)
    (c_ai:PySem.W.codeIn K cd_ai "_law_points"=true)
    (k_ai:PySem.W.keepIn K (.ref f_ai)=true)
    (i_ai:PySem.W.isFn K (.ref f_ai)=true)
    (a_m:PySem.W.nsIn K mainGlobals "_law_every_seat"=some (some (.ref f_m)))
    (l_m:K.lookup f_m=some ⟨oc_m,od_m,.func (PySem.W.fnOf "_law_every_seat" "_law_every_seat" (xv s_m) (xu s_m) (xh s_m) .none kv_m dc_m pm_m an_m cd_m ct_m),sl_m⟩)
    (c_m:PySem.W.codeIn K cd_m "_law_every_seat"=true)
    (k_m:PySem.W.keepIn K (.ref f_m)=true)
    (i_m:PySem.W.isFn K (.ref f_m)=true)
    (a_an:PySem.W.nsIn K mainGlobals "_law_pairs"=some (some (.ref f_an)))
    (l_an:K.lookup f_an=some ⟨oc_an,od_an,.func (PySem.W.fnOf "_law_pairs" "_law_pairs" (xv s_an) (xu s_an) (xh s_an) .none kv_an dc_an pm_an an_an cd_an ct_an),sl_an⟩)
    (c_an:PySem.W.codeIn K cd_an "_law_pairs"=true)
    (k_an:PySem.W.keepIn K (.ref f_an)=true)
    (i_an:PySem.W.isFn K (.ref f_an)=true)
    (a_a0:PySem.W.nsIn K mainGlobals "_law_rim"=some (some (.ref f_a0)))
    (l_a0:K.lookup f_a0=some ⟨oc_a0,od_a0,.func (PySem.W.fnOf "_law_rim" "_law_rim" (xv s_a0) (xu s_a0) (xh s_a0) .none kv_a0 dc_a0 pm_a0 an_a0 cd_a0 ct_a0),sl_a0⟩)
    (c_a0:PySem.W.codeIn K cd_a0 "_law_rim"=true)
    (k_a0:PySem.W.keepIn K (.ref f_a0)=true)
    (i_a0:PySem.W.isFn K (.ref f_a0)=true)
    (a_am:PySem.W.nsIn K mainGlobals "_law_leader"=some (some (.ref f_am)))
    (l_am:K.lookup f_am=some ⟨oc_am,od_am,.func (PySem.W.fnOf "_law_leader" "_law_leader" (xv s_am) (xu s_am) (xh s_am) .none kv_am dc_am pm_am an_am cd_am ct_am),sl_am⟩)
    (c_am:PySem.W.codeIn K cd_am "_law_leader"=true)
    (k_am:PySem.W.keepIn K (.ref f_am)=true)
    (i_am:PySem.W.isFn K (.ref f_am)=true)
    (a_ah:PySem.W.nsIn K mainGlobals "_law_sheet"=some (some (.ref f_ah)))
    (l_ah:K.lookup f_ah=some ⟨oc_ah,od_ah,.func (PySem.W.fnOf "_law_sheet" "_law_sheet" (xv s_ah) (xu s_ah) (xh s_ah) .none kv_ah dc_ah pm_ah an_ah cd_ah ct_ah),sl_ah⟩)
    (c_ah:PySem.W.codeIn K cd_ah "_law_sheet"=true)
    (k_ah:PySem.W.keepIn K (.ref f_ah)=true)
    (i_ah:PySem.W.isFn K (.ref f_ah)=true)
    (a_ab:PySem.W.nsIn K mainGlobals "_law_is_seen"=some (some (.ref f_ab)))
    (l_ab:K.lookup f_ab=some ⟨oc_ab,od_ab,.func (PySem.W.fnOf "_law_is_seen" "_law_is_seen" (xv s_ab) (xu s_ab) (xh s_ab) .none kv_ab dc_ab pm_ab an_ab cd_ab ct_ab),sl_ab⟩)
    (c_ab:PySem.W.codeIn K cd_ab "_law_is_seen"=true)
    (k_ab:PySem.W.keepIn K (.ref f_ab)=true)
    (i_ab:PySem.W.isFn K (.ref f_ab)=true)
    (a_law:PySem.W.nsIn K mainGlobals "law"=some (some (.ref f_law)))
    (l_law:K.lookup f_law=some ⟨oc_law,od_law,.func (PySem.W.fnOf "law" "law" (xv xew) (xu xew) (xh xew) .none kv_law dc_law pm_law an_law cd_law ct_law),sl_law⟩)
    (c_law:PySem.W.codeIn K cd_law "law"=true)
    (k_law:PySem.W.keepIn K (.ref f_law)=true)
    (i_law:PySem.W.isFn K (.ref f_law)=true)
    (kc_a3:PySem.W.keepIn K (.ref C_a3)=true)
    (pg_a3:PySem.W.plainGet K C_a3 Str.empty=true)
    (hd_a3:PySem.W.hasDictIn K C_a3=true)
    (po_a3:PySem.W.plainOver K C_a3=true)
    (sa_a3:PySem.W.findIn K (.ref C_a3) "__setattr__"=some (some (.builtin "object.__setattr__")))
    (mk_a3:PySem.W.makesIn K C_a3=true)
    (ca_a3:PySem.W.findIn K (.ref C_a3) "__class__"=some (some (.builtin "object.__class__")))
    (mo_a3:PySem.W.mroIn K C_a3 (.type "object")=some true)
    (kc_aw:PySem.W.keepIn K (.ref C_aw)=true)
    (pg_aw:PySem.W.plainGet K C_aw Str.empty=true)
    (hd_aw:PySem.W.hasDictIn K C_aw=true)
    (po_aw:PySem.W.plainOver K C_aw=true)
    (sa_aw:PySem.W.findIn K (.ref C_aw) "__setattr__"=some (some (.builtin "object.__setattr__")))
    (mk_aw:PySem.W.makesIn K C_aw=true)
    (ca_aw:PySem.W.findIn K (.ref C_aw) "__class__"=some (some (.builtin "object.__class__")))
    (mo_aw:PySem.W.mroIn K C_aw (.type "object")=some true)
    (a_LeftSide_init:PySem.W.findIn K (.ref C_aw) "__init__"=some (some (.ref f_ar)))
    (kc_ak:PySem.W.keepIn K (.ref C_ak)=true)
    (pg_ak:PySem.W.plainGet K C_ak Str.empty=true)
    (hd_ak:PySem.W.hasDictIn K C_ak=true)
    (po_ak:PySem.W.plainOver K C_ak=true)
    (sa_ak:PySem.W.findIn K (.ref C_ak) "__setattr__"=some (some (.builtin "object.__setattr__")))
    (mk_ak:PySem.W.makesIn K C_ak=true)
    (ca_ak:PySem.W.findIn K (.ref C_ak) "__class__"=some (some (.builtin "object.__class__")))
    (mo_ak:PySem.W.mroIn K C_ak (.type "object")=some true)
    (a_RightSide_init:PySem.W.findIn K (.ref C_ak) "__init__"=some (some (.ref f_ar)))
    (kc_n:PySem.W.keepIn K (.ref C_n)=true)
    (pg_n:PySem.W.plainGet K C_n Str.empty=true)
    (hd_n:PySem.W.hasDictIn K C_n=true)
    (po_n:PySem.W.plainOver K C_n=true)
    (sa_n:PySem.W.findIn K (.ref C_n) "__setattr__"=some (some (.builtin "object.__setattr__")))
    (mk_n:PySem.W.makesIn K C_n=true)
    (ca_n:PySem.W.findIn K (.ref C_n) "__class__"=some (some (.builtin "object.__class__")))
    (mo_n:PySem.W.mroIn K C_n (.type "object")=some true)
    (kc_ao:PySem.W.keepIn K (.ref C_ao)=true)
    (pg_ao:PySem.W.plainGet K C_ao Str.empty=true)
    (hd_ao:PySem.W.hasDictIn K C_ao=true)
    (po_ao:PySem.W.plainOver K C_ao=true)
    (sa_ao:PySem.W.findIn K (.ref C_ao) "__setattr__"=some (some (.builtin "object.__setattr__")))
    (mk_ao:PySem.W.makesIn K C_ao=true)
    (ca_ao:PySem.W.findIn K (.ref C_ao) "__class__"=some (some (.builtin "object.__class__")))
    (mo_ao:PySem.W.mroIn K C_ao (.type "object")=some true)
    (cg:PySem.W.specialIn K (.builtin "object.__class__") "__get__"=some (some (.builtin "getset_descriptor.__get__")))
    (ct:PySem.W.takesIn K (.builtin "object.__class__")=some true)
    (n_bb:PySem.W.findIn K (.ref C_ak) "width"=some none)
    (n_a4:PySem.W.findIn K (.ref C_n) "placed"=some none)
    (n_a6:PySem.W.findIn K (.ref C_n) "height"=some none)
    (n_a5:PySem.W.findIn K (.ref C_n) "width"=some none)
    (n_ba:PySem.W.findIn K (.ref C_n) "opened"=some none)
    (n_a8:PySem.W.findIn K (.ref C_ao) "last_column"=some none)
    (n_a7:PySem.W.findIn K (.ref C_ao) "inner"=some none)
    (n_a9:PySem.W.findIn K (.ref C_ao) "outer"=some none)
    (n_bg:PySem.W.findIn K (.ref C_a3) "width"=some none)
    (n_be:PySem.W.findIn K (.ref C_aw) "width"=some none)
    (n_abs:PySem.W.nsIn K mainGlobals "abs"=some none)
    (n_bool:PySem.W.nsIn K mainGlobals "bool"=some none)
    (n_dict:PySem.W.nsIn K mainGlobals "dict"=some none)
    (n_enumerate:PySem.W.nsIn K mainGlobals "enumerate"=some none)
    (n_int:PySem.W.nsIn K mainGlobals "int"=some none)
    (n_isinstance:PySem.W.nsIn K mainGlobals "isinstance"=some none)
    (n_len:PySem.W.nsIn K mainGlobals "len"=some none)
    (n_list:PySem.W.nsIn K mainGlobals "list"=some none)
    (n_max:PySem.W.nsIn K mainGlobals "max"=some none)
    (n_min:PySem.W.nsIn K mainGlobals "min"=some none)
    (n_range:PySem.W.nsIn K mainGlobals "range"=some none)
    (n_reversed:PySem.W.nsIn K mainGlobals "reversed"=some none)
    (n_sorted:PySem.W.nsIn K mainGlobals "sorted"=some none)
    (n_str:PySem.W.nsIn K mainGlobals "str"=some none)
    (n_tuple:PySem.W.nsIn K mainGlobals "tuple"=some none)
    (v_bf:PySem.W.nsIn K mainGlobals "MOST_ROWS"=some (some (.int 16 tkc_bf)))
    (v_bc:PySem.W.nsIn K mainGlobals "MOST_COLUMNS"=some (some (.int 30 tkc_bc)))
    (v_bd:PySem.W.nsIn K mainGlobals "MOST_POINTS"=some (some (.int 12 tkc_bd)))
    (g_a2:PySem.W.nsIn K mainGlobals "MIRRORED_SIDES"=some (some (.ref D_a2)))
    (l_a2:K.lookup D_a2=some ⟨.type "dict",none,.dict #[⟨hashStr w "left",.str "left" ta0_a2,.str "right" tb0_a2⟩,⟨hashStr w "right",.str "right" ta1_a2,.str "left" tb1_a2⟩,⟨hashStr w "both",.str "both" ta2_a2,.str "both" tb2_a2⟩] ep_a2,#[]⟩)
    (ns_a2:(D_a2 == sysModules)=false)
   :∃ t,Txt w K mg t :=
  ⟨⟨f_ar,_,f_w,_,f_y,_,f_l,_,f_q,_,f_r,_,f_h,_,f_au,_,f_ay,_,f_al,_,f_ax,_,f_ae,_,f_p,_,T_p,f_ac,_,f_f,_,f_i,_,f_s,_,f_e,_,f_o,_,f_b,_,f_d,_,f_a,_,f_c,_,f_u,_,f_drawn,_,f_az,_,f_x,_,f_aj,_,f_ap,_,f_af,_,f_k,_,f_g,_,f_j,_,f_aa,_,f_seen,_,f_ag,_,f_av,_,f_a1,_,f_z,_,f_t,_,f_ad,_,f_v,_,f_as,_,f_aq,_,f_at,_,f_ai,_,f_m,_,f_an,_,f_a0,_,f_am,_,f_ah,_,f_ab,_,f_law,_,C_a3,C_aw,C_ak,C_n,C_ao,D_a2⟩,{
    g_a3:=PySem.W.mg_of X G g_a3
    g_aw:=PySem.W.mg_of X G g_aw
    g_ak:=PySem.W.mg_of X G g_ak
    g_n:=PySem.W.mg_of X G g_n
    g_ao:=PySem.W.mg_of X G g_ao
    F_ar:=xr (st:=s_ar) l_ar c_ar k_ar
    b_ar:=(xr (st:=s_ar) l_ar c_ar k_ar).binds (ps:=["self", "width"]) fun _ _ _ _ _ _ us hl=>xbt us hl fun _ _=>rfl
    F_w:=xr (st:=s_w) l_w c_w k_w
    b_w:=(xr (st:=s_w) l_w c_w k_w).binds (ps:=["self"]) fun _ _ _ _ _ _ us hl=>xcb us hl fun _=>rfl
    F_y:=xr (st:=s_y) l_y c_y k_y
    b_y:=(xr (st:=s_y) l_y c_y k_y).binds (ps:=["self"]) fun _ _ _ _ _ _ us hl=>xcb us hl fun _=>rfl
    F_l:=xr (st:=s_l) l_l c_l k_l
    b_l:=(xr (st:=s_l) l_l c_l k_l).binds (ps:=["self", "x"]) fun _ _ _ _ _ _ us hl=>xbt us hl fun _ _=>rfl
    F_q:=xr (st:=s_q) l_q c_q k_q
    b_q:=(xr (st:=s_q) l_q c_q k_q).binds (ps:=["self"]) fun _ _ _ _ _ _ us hl=>xcb us hl fun _=>rfl
    F_r:=xr (st:=s_r) l_r c_r k_r
    b_r:=(xr (st:=s_r) l_r c_r k_r).binds (ps:=["self"]) fun _ _ _ _ _ _ us hl=>xcb us hl fun _=>rfl
    F_h:=xr (st:=s_h) l_h c_h k_h
    b_h:=(xr (st:=s_h) l_h c_h k_h).binds (ps:=["self", "x"]) fun _ _ _ _ _ _ us hl=>xbt us hl fun _ _=>rfl
    g_au:=PySem.W.mg_of X G a_au
    F_au:=xr (st:=s_au) l_au c_au k_au
    b_au:=(xr (st:=s_au) l_au c_au k_au).binds (ps:=["word", "width"]) fun _ _ _ _ _ _ us hl=>xbt us hl fun _ _=>rfl
    g_ay:=PySem.W.mg_of X G a_ay
    F_ay:=xr (st:=s_ay) l_ay c_ay k_ay
    b_ay:=(xr (st:=s_ay) l_ay c_ay k_ay).binds (ps:=["picture", "name", "side", "row"]) fun _ _ _ _ _ _ us hl=>xdu us hl fun _ _ _ _=>rfl
    g_al:=PySem.W.mg_of X G a_al
    F_al:=xr (st:=s_al) l_al c_al k_al
    b_al:=(xr (st:=s_al) l_al c_al k_al).binds (ps:=["thing", "low", "high"]) fun _ _ _ _ _ _ us hl=>xel us hl fun _ _ _=>rfl
    g_ax:=PySem.W.mg_of X G a_ax
    F_ax:=xr (st:=s_ax) l_ax c_ax k_ax
    b_ax:=(xr (st:=s_ax) l_ax c_ax k_ax).binds (ps:=["thing"]) fun _ _ _ _ _ _ us hl=>xcb us hl fun _=>rfl
    F_ae:=xr (st:=s_ae) l_ae c_ae k_ae
    b_ae:=(xr (st:=s_ae) l_ae c_ae k_ae).binds (ps:=["self", "width", "height"]) fun _ _ _ _ _ _ us hl=>xel us hl fun _ _ _=>rfl
    F_p:=(xlh (st:=s_p) l_p c_p k_p)
    b_p:=(xlh (st:=s_p) l_p c_p k_p).binds t_p rfl 7 rfl fun _ _ _ _ _ _ us hl=>xtw us hl fun _ _ _ _ _ _ _=>⟨_,rfl,rfl⟩
    F_ac:=xr (st:=s_ac) l_ac c_ac k_ac
    b_ac:=(xr (st:=s_ac) l_ac c_ac k_ac).binds (ps:=["self", "name"]) fun _ _ _ _ _ _ us hl=>xbt us hl fun _ _=>rfl
    F_f:=xr (st:=s_f) l_f c_f k_f
    b_f:=(xr (st:=s_f) l_f c_f k_f).binds (ps:=["self", "side", "row"]) fun _ _ _ _ _ _ us hl=>xel us hl fun _ _ _=>rfl
    F_i:=xr (st:=s_i) l_i c_i k_i
    b_i:=(xr (st:=s_i) l_i c_i k_i).binds (ps:=["self"]) fun _ _ _ _ _ _ us hl=>xcb us hl fun _=>rfl
    F_s:=xr (st:=s_s) l_s c_s k_s
    b_s:=(xr (st:=s_s) l_s c_s k_s).binds (ps:=["self"]) fun _ _ _ _ _ _ us hl=>xcb us hl fun _=>rfl
    F_e:=xr (st:=s_e) l_e c_e k_e
    b_e:=(xr (st:=s_e) l_e c_e k_e).binds (ps:=["self", "name"]) fun _ _ _ _ _ _ us hl=>xbt us hl fun _ _=>rfl
    F_o:=xr (st:=s_o) l_o c_o k_o
    b_o:=(xr (st:=s_o) l_o c_o k_o).binds (ps:=["self", "name", "side", "row"]) fun _ _ _ _ _ _ us hl=>xdu us hl fun _ _ _ _=>rfl
    F_b:=xr (st:=s_b) l_b c_b k_b
    b_b:=(xr (st:=s_b) l_b c_b k_b).binds (ps:=["self", "name"]) fun _ _ _ _ _ _ us hl=>xbt us hl fun _ _=>rfl
    F_d:=xr (st:=s_d) l_d c_d k_d
    b_d:=(xr (st:=s_d) l_d c_d k_d).binds (ps:=["self", "x", "y"]) fun _ _ _ _ _ _ us hl=>xel us hl fun _ _ _=>rfl
    F_a:=xr (st:=s_a) l_a c_a k_a
    b_a:=(xr (st:=s_a) l_a c_a k_a).binds (ps:=["self", "name", "x", "y"]) fun _ _ _ _ _ _ us hl=>xdu us hl fun _ _ _ _=>rfl
    F_c:=xr (st:=s_c) l_c c_c k_c
    b_c:=(xr (st:=s_c) l_c c_c k_c).binds (ps:=["self", "side", "row"]) fun _ _ _ _ _ _ us hl=>xel us hl fun _ _ _=>rfl
    g_u:=PySem.W.mg_of X G a_u
    F_u:=xr (st:=s_u) l_u c_u k_u
    b_u:=(xr (st:=s_u) l_u c_u k_u).binds (ps:=["width", "height", "points", "seats"]) fun _ _ _ _ _ _ us hl=>xdu us hl fun _ _ _ _=>rfl
    g_drawn:=PySem.W.mg_of X G a_drawn
    F_drawn:=xr (st:=xcx) l_drawn c_drawn k_drawn
    b_drawn:=(xr (st:=xcx) l_drawn c_drawn k_drawn).binds (ps:=["picture", "pairs"]) fun _ _ _ _ _ _ us hl=>xbt us hl fun _ _=>rfl
    g_az:=PySem.W.mg_of X G a_az
    F_az:=xr (st:=s_az) l_az c_az k_az
    b_az:=(xr (st:=s_az) l_az c_az k_az).binds (ps:=["signs", "width", "row"]) fun _ _ _ _ _ _ us hl=>xel us hl fun _ _ _=>rfl
    g_x:=PySem.W.mg_of X G a_x
    F_x:=xr (st:=s_x) l_x c_x k_x
    b_x:=(xr (st:=s_x) l_x c_x k_x).binds (ps:=["picture", "pairs"]) fun _ _ _ _ _ _ us hl=>xbt us hl fun _ _=>rfl
    g_aj:=PySem.W.mg_of X G a_aj
    F_aj:=xr (st:=s_aj) l_aj c_aj k_aj
    b_aj:=(xr (st:=s_aj) l_aj c_aj k_aj).binds (ps:=["cell", "x", "row"]) fun _ _ _ _ _ _ us hl=>xel us hl fun _ _ _=>rfl
    g_ap:=PySem.W.mg_of X G a_ap
    F_ap:=xr (st:=s_ap) l_ap c_ap k_ap
    b_ap:=(xr (st:=s_ap) l_ap c_ap k_ap).binds (ps:=["picture", "pairs"]) fun _ _ _ _ _ _ us hl=>xbt us hl fun _ _=>rfl
    F_af:=xr (st:=s_af) l_af c_af k_af
    b_af:=(xr (st:=s_af) l_af c_af k_af).binds (ps:=["self", "last_column"]) fun _ _ _ _ _ _ us hl=>xbt us hl fun _ _=>rfl
    F_k:=xr (st:=s_k) l_k c_k k_k
    b_k:=(xr (st:=s_k) l_k c_k k_k).binds (ps:=["self", "column"]) fun _ _ _ _ _ _ us hl=>xbt us hl fun _ _=>rfl
    F_g:=xr (st:=s_g) l_g c_g k_g
    b_g:=(xr (st:=s_g) l_g c_g k_g).binds (ps:=["self", "row", "column", "sign"]) fun _ _ _ _ _ _ us hl=>xdu us hl fun _ _ _ _=>rfl
    F_j:=xr (st:=s_j) l_j c_j k_j
    b_j:=(xr (st:=s_j) l_j c_j k_j).binds (ps:=["self", "row", "column", "name"]) fun _ _ _ _ _ _ us hl=>xdu us hl fun _ _ _ _=>rfl
    F_aa:=xr (st:=s_aa) l_aa c_aa k_aa
    b_aa:=(xr (st:=s_aa) l_aa c_aa k_aa).binds (ps:=["self", "row", "column", "sign"]) fun _ _ _ _ _ _ us hl=>xdu us hl fun _ _ _ _=>rfl
    g_seen:=PySem.W.mg_of X G a_seen
    F_seen:=xr (st:=xdn) l_seen c_seen k_seen
    b_seen:=(xr (st:=xdn) l_seen c_seen k_seen).binds (ps:=["rows"]) fun _ _ _ _ _ _ us hl=>xcb us hl fun _=>rfl
    g_ag:=PySem.W.mg_of X G a_ag
    F_ag:=xr (st:=s_ag) l_ag c_ag k_ag
    b_ag:=(xr (st:=s_ag) l_ag c_ag k_ag).binds (ps:=["rows"]) fun _ _ _ _ _ _ us hl=>xcb us hl fun _=>rfl
    g_av:=PySem.W.mg_of X G a_av
    F_av:=xr (st:=s_av) l_av c_av k_av
    b_av:=(xr (st:=s_av) l_av c_av k_av).binds (ps:=["rows"]) fun _ _ _ _ _ _ us hl=>xcb us hl fun _=>rfl
    g_a1:=PySem.W.mg_of X G a_a1
    F_a1:=xr (st:=s_a1) l_a1 c_a1 k_a1
    b_a1:=(xr (st:=s_a1) l_a1 c_a1 k_a1).binds (ps:=["place"]) fun _ _ _ _ _ _ us hl=>xcb us hl fun _=>rfl
    g_z:=PySem.W.mg_of X G a_z
    F_z:=xr (st:=s_z) l_z c_z k_z
    b_z:=(xr (st:=s_z) l_z c_z k_z).binds (ps:=["rows", "letters"]) fun _ _ _ _ _ _ us hl=>xbt us hl fun _ _=>rfl
    g_t:=PySem.W.mg_of X G a_t
    F_t:=xr (st:=s_t) l_t c_t k_t
    b_t:=(xr (st:=s_t) l_t c_t k_t).binds (ps:=["rows", "drawing"]) fun _ _ _ _ _ _ us hl=>xbt us hl fun _ _=>rfl
    g_ad:=PySem.W.mg_of X G a_ad
    F_ad:=xr (st:=s_ad) l_ad c_ad k_ad
    b_ad:=(xr (st:=s_ad) l_ad c_ad k_ad).binds (ps:=["_law_script", "_law_k"]) fun _ _ _ _ _ _ us hl=>xbt us hl fun _ _=>rfl
    g_v:=PySem.W.mg_of X G a_v
    F_v:=xr (st:=s_v) l_v c_v k_v
    b_v:=(xr (st:=s_v) l_v c_v k_v).binds (ps:=["_law_cell", "_law_k"]) fun _ _ _ _ _ _ us hl=>xbt us hl fun _ _=>rfl
    g_as:=PySem.W.mg_of X G a_as
    F_as:=xr (st:=s_as) l_as c_as k_as
    b_as:=(xr (st:=s_as) l_as c_as k_as).binds (ps:=["_law_script"]) fun _ _ _ _ _ _ us hl=>xcb us hl fun _=>rfl
    g_aq:=PySem.W.mg_of X G a_aq
    F_aq:=xr (st:=s_aq) l_aq c_aq k_aq
    b_aq:=(xr (st:=s_aq) l_aq c_aq k_aq).binds (ps:=["_law_script", "_law_height"]) fun _ _ _ _ _ _ us hl=>xbt us hl fun _ _=>rfl
    g_at:=PySem.W.mg_of X G a_at
    F_at:=xr (st:=s_at) l_at c_at k_at
    b_at:=(xr (st:=s_at) l_at c_at k_at).binds (ps:=["_law_cell", "_law_name", "_law_x", "_law_y", "_law_height"]) fun _ _ _ _ _ _ us hl=>xpz us hl fun _ _ _ _ _=>rfl
    g_ai:=PySem.W.mg_of X G a_ai
    F_ai:=xr (st:=s_ai) l_ai c_ai k_ai
    b_ai:=(xr (st:=s_ai) l_ai c_ai k_ai).binds (ps:=["_law_cells", "_law_width", "_law_height"]) fun _ _ _ _ _ _ us hl=>xel us hl fun _ _ _=>rfl
    g_m:=PySem.W.mg_of X G a_m
    F_m:=xr (st:=s_m) l_m c_m k_m
    b_m:=(xr (st:=s_m) l_m c_m k_m).binds (ps:=["_law_height"]) fun _ _ _ _ _ _ us hl=>xcb us hl fun _=>rfl
    g_an:=PySem.W.mg_of X G a_an
    F_an:=xr (st:=s_an) l_an c_an k_an
    b_an:=(xr (st:=s_an) l_an c_an k_an).binds (ps:=["_law_cell", "_law_points_here", "_law_height", "_law_seats_here"]) fun _ _ _ _ _ _ us hl=>xdu us hl fun _ _ _ _=>rfl
    g_a0:=PySem.W.mg_of X G a_a0
    F_a0:=xr (st:=s_a0) l_a0 c_a0 k_a0
    b_a0:=(xr (st:=s_a0) l_a0 c_a0 k_a0).binds (ps:=["_law_width", "_law_side"]) fun _ _ _ _ _ _ us hl=>xbt us hl fun _ _=>rfl
    g_am:=PySem.W.mg_of X G a_am
    F_am:=xr (st:=s_am) l_am c_am k_am
    b_am:=(xr (st:=s_am) l_am c_am k_am).binds (ps:=["_law_rim_here", "_law_x", "_law_y", "_law_row"]) fun _ _ _ _ _ _ us hl=>xdu us hl fun _ _ _ _=>rfl
    g_ah:=PySem.W.mg_of X G a_ah
    F_ah:=xr (st:=s_ah) l_ah c_ah k_ah
    b_ah:=(xr (st:=s_ah) l_ah c_ah k_ah).binds (ps:=["_law_width", "_law_height", "_law_points_here", "_law_seats_here", "_law_pairs_here"]) fun _ _ _ _ _ _ us hl=>xpz us hl fun _ _ _ _ _=>rfl
    g_ab:=PySem.W.mg_of X G a_ab
    F_ab:=xr (st:=s_ab) l_ab c_ab k_ab
    b_ab:=(xr (st:=s_ab) l_ab c_ab k_ab).binds (ps:=["_law_found", "_law_width", "_law_height", "_law_points_here", "_law_seats_here", "_law_pairs_here"]) fun _ _ _ _ _ _ us hl=>xtj us hl fun _ _ _ _ _ _=>rfl
    g_law:=PySem.W.mg_of X G a_law
    F_law:=xr (st:=xew) l_law c_law k_law
    b_law:=(xr (st:=xew) l_law c_law k_law).binds (ps:=["_law_script"]) fun _ _ _ _ _ _ us hl=>xcb us hl fun _=>rfl
    c_a3:=⟨pg_a3,hd_a3,po_a3,sa_a3⟩
    ca_a3:=ca_a3
    mo_a3:=mo_a3
    k_a3:=⟨mk_a3,a_ar,i_ar,kc_a3⟩
    c_aw:=⟨pg_aw,hd_aw,po_aw,sa_aw⟩
    ca_aw:=ca_aw
    mo_aw:=mo_aw
    k_aw:=⟨mk_aw,a_LeftSide_init,i_ar,kc_aw⟩
    m_w:=⟨a_w,i_w,k_w⟩
    m_y:=⟨a_y,i_y,k_y⟩
    m_l:=⟨a_l,i_l,k_l⟩
    c_ak:=⟨pg_ak,hd_ak,po_ak,sa_ak⟩
    ca_ak:=ca_ak
    mo_ak:=mo_ak
    k_ak:=⟨mk_ak,a_RightSide_init,i_ar,kc_ak⟩
    m_q:=⟨a_q,i_q,k_q⟩
    m_r:=⟨a_r,i_r,k_r⟩
    m_h:=⟨a_h,i_h,k_h⟩
    c_n:=⟨pg_n,hd_n,po_n,sa_n⟩
    ca_n:=ca_n
    mo_n:=mo_n
    k_n:=⟨mk_n,a_ae,i_ae,kc_n⟩
    m_p:=⟨a_p,i_p,k_p⟩
    m_ac:=⟨a_ac,i_ac,k_ac⟩
    m_f:=⟨a_f,i_f,k_f⟩
    m_i:=⟨a_i,i_i,k_i⟩
    m_s:=⟨a_s,i_s,k_s⟩
    m_e:=⟨a_e,i_e,k_e⟩
    m_o:=⟨a_o,i_o,k_o⟩
    m_b:=⟨a_b,i_b,k_b⟩
    m_d:=⟨a_d,i_d,k_d⟩
    m_a:=⟨a_a,i_a,k_a⟩
    m_c:=⟨a_c,i_c,k_c⟩
    c_ao:=⟨pg_ao,hd_ao,po_ao,sa_ao⟩
    ca_ao:=ca_ao
    mo_ao:=mo_ao
    k_ao:=⟨mk_ao,a_af,i_af,kc_ao⟩
    m_k:=⟨a_k,i_k,k_k⟩
    m_g:=⟨a_g,i_g,k_g⟩
    m_j:=⟨a_j,i_j,k_j⟩
    m_aa:=⟨a_aa,i_aa,k_aa⟩
    cg:=cg
    ct:=ct
    n_bb:=n_bb
    n_a4:=n_a4
    n_a6:=n_a6
    n_a5:=n_a5
    n_ba:=n_ba
    n_a8:=n_a8
    n_a7:=n_a7
    n_a9:=n_a9
    n_bg:=n_bg
    n_be:=n_be
    n_abs:=PySem.W.mg_none_of X G n_abs
    n_bool:=PySem.W.mg_none_of X G n_bool
    n_dict:=PySem.W.mg_none_of X G n_dict
    n_enumerate:=PySem.W.mg_none_of X G n_enumerate
    n_int:=PySem.W.mg_none_of X G n_int
    n_isinstance:=PySem.W.mg_none_of X G n_isinstance
    n_len:=PySem.W.mg_none_of X G n_len
    n_list:=PySem.W.mg_none_of X G n_list
    n_max:=PySem.W.mg_none_of X G n_max
    n_min:=PySem.W.mg_none_of X G n_min
    n_range:=PySem.W.mg_none_of X G n_range
    n_reversed:=PySem.W.mg_none_of X G n_reversed
    n_sorted:=PySem.W.mg_none_of X G n_sorted
    n_str:=PySem.W.mg_none_of X G n_str
    n_tuple:=PySem.W.mg_none_of X G n_tuple
    v_bf:=⟨_,PySem.W.mg_of X G v_bf⟩
    v_bc:=⟨_,PySem.W.mg_of X G v_bc⟩
    v_bd:=⟨_,PySem.W.mg_of X G v_bd⟩
    g_a2:=PySem.W.mg_of X G g_a2
    D_a2:=⟨ns_a2,_,_,l_a2,.cons rfl ⟨_,rfl⟩ ⟨_,rfl⟩ (.cons rfl ⟨_,rfl⟩ ⟨_,rfl⟩ (.cons rfl ⟨_,rfl⟩ ⟨_,rfl⟩ (.nil))),by decide⟩ }⟩
theorem sc_ar:xw ["self", "width"] ["self", "width"] (xh s_ar):=⟨rfl,rfl,rfl,by decide +kernel,rfl,by decide +kernel,by decide +kernel⟩
theorem sc_w:xw ["self"] ["self"] (xh s_w):=⟨rfl,rfl,rfl,by decide +kernel,rfl,by decide +kernel,by decide +kernel⟩
theorem sc_y:xw ["self"] ["self"] (xh s_y):=⟨rfl,rfl,rfl,by decide +kernel,rfl,by decide +kernel,by decide +kernel⟩
theorem sc_l:xw ["self", "x"] ["self", "x"] (xh s_l):=⟨rfl,rfl,rfl,by decide +kernel,rfl,by decide +kernel,by decide +kernel⟩
theorem sc_q:xw ["self"] ["self"] (xh s_q):=⟨rfl,rfl,rfl,by decide +kernel,rfl,by decide +kernel,by decide +kernel⟩
theorem sc_r:xw ["self"] ["self"] (xh s_r):=⟨rfl,rfl,rfl,by decide +kernel,rfl,by decide +kernel,by decide +kernel⟩
theorem sc_h:xw ["self", "x"] ["self", "x"] (xh s_h):=⟨rfl,rfl,rfl,by decide +kernel,rfl,by decide +kernel,by decide +kernel⟩
theorem sc_au:xw ["word", "width"] ["word", "width"] (xh s_au):=⟨rfl,rfl,rfl,by decide +kernel,rfl,by decide +kernel,by decide +kernel⟩
theorem sc_ay:xw ["picture", "name", "side", "row", "x", "y", "toward", "down", "upright", "level"] ["picture", "name", "side", "row"] (xh s_ay):=⟨rfl,rfl,rfl,by decide +kernel,rfl,by decide +kernel,by decide +kernel⟩
theorem sc_al:xw ["thing", "low", "high"] ["thing", "low", "high"] (xh s_al):=⟨rfl,rfl,rfl,by decide +kernel,rfl,by decide +kernel,by decide +kernel⟩
theorem sc_ax:xw ["thing"] ["thing"] (xh s_ax):=⟨rfl,rfl,rfl,by decide +kernel,rfl,by decide +kernel,by decide +kernel⟩
theorem sc_ae:xw ["self", "width", "height"] ["self", "width", "height"] (xh s_ae):=⟨rfl,rfl,rfl,by decide +kernel,rfl,by decide +kernel,by decide +kernel⟩
theorem sc_p:xw ["self", "name", "x", "y", "sides", "low", "high", "highest"] ["self", "name", "x", "y", "sides", "low", "high"] (xh s_p):=⟨rfl,rfl,rfl,by decide +kernel,rfl,by decide +kernel,by decide +kernel⟩
theorem sc_ac:xw ["self", "name"] ["self", "name"] (xh s_ac):=⟨rfl,rfl,rfl,by decide +kernel,rfl,by decide +kernel,by decide +kernel⟩
theorem sc_f:xw ["self", "side", "row"] ["self", "side", "row"] (xh s_f):=⟨rfl,rfl,rfl,by decide +kernel,rfl,by decide +kernel,by decide +kernel⟩
theorem sc_i:xw ["self"] ["self"] (xh s_i):=⟨rfl,rfl,rfl,by decide +kernel,rfl,by decide +kernel,by decide +kernel⟩
theorem sc_s:xw ["self"] ["self"] (xh s_s):=⟨rfl,rfl,rfl,by decide +kernel,rfl,by decide +kernel,by decide +kernel⟩
theorem sc_e:xw ["self", "name"] ["self", "name"] (xh s_e):=⟨rfl,rfl,rfl,by decide +kernel,rfl,by decide +kernel,by decide +kernel⟩
theorem sc_o:xw ["self", "name", "side", "row", "x", "y"] ["self", "name", "side", "row"] (xh s_o):=⟨rfl,rfl,rfl,by decide +kernel,rfl,by decide +kernel,by decide +kernel⟩
theorem sc_b:xw ["self", "name"] ["self", "name"] (xh s_b):=⟨rfl,rfl,rfl,by decide +kernel,rfl,by decide +kernel,by decide +kernel⟩
theorem sc_d:xw ["self", "x", "y"] ["self", "x", "y"] (xh s_d):=⟨rfl,rfl,rfl,by decide +kernel,rfl,by decide +kernel,by decide +kernel⟩
theorem sc_a:xw ["self", "name", "x", "y", "others", "other"] ["self", "name", "x", "y"] (xh s_a):=⟨rfl,rfl,rfl,by decide +kernel,rfl,by decide +kernel,by decide +kernel⟩
theorem sc_c:xw ["self", "side", "row"] ["self", "side", "row"] (xh s_c):=⟨rfl,rfl,rfl,by decide +kernel,rfl,by decide +kernel,by decide +kernel⟩
theorem sc_u:xw ["width", "height", "points", "seats", "picture", "name", "x", "y", "sides", "low", "high", "side", "row"] ["width", "height", "points", "seats"] (xh s_u):=⟨rfl,rfl,rfl,by decide +kernel,rfl,by decide +kernel,by decide +kernel⟩
theorem xcf:xw ["picture", "pairs", "signs", "name", "x", "y", "sides", "low", "high"] ["picture", "pairs"] (xh xcx):=⟨rfl,rfl,rfl,by decide +kernel,rfl,by decide +kernel,by decide +kernel⟩
theorem sc_az:xw ["signs", "width", "row"] ["signs", "width", "row"] (xh s_az):=⟨rfl,rfl,rfl,by decide +kernel,rfl,by decide +kernel,by decide +kernel⟩
theorem sc_x:xw ["picture", "pairs", "signs", "name", "side", "row", "x", "y", "cell"] ["picture", "pairs"] (xh s_x):=⟨rfl,rfl,rfl,by decide +kernel,rfl,by decide +kernel,by decide +kernel⟩
theorem sc_aj:xw ["cell", "x", "row"] ["cell", "x", "row"] (xh s_aj):=⟨rfl,rfl,rfl,by decide +kernel,rfl,by decide +kernel,by decide +kernel⟩
theorem sc_ap:xw ["picture", "pairs", "width", "signs", "name", "side", "row"] ["picture", "pairs"] (xh s_ap):=⟨rfl,rfl,rfl,by decide +kernel,rfl,by decide +kernel,by decide +kernel⟩
theorem sc_af:xw ["self", "last_column"] ["self", "last_column"] (xh s_af):=⟨rfl,rfl,rfl,by decide +kernel,rfl,by decide +kernel,by decide +kernel⟩
theorem sc_k:xw ["self", "column"] ["self", "column"] (xh s_k):=⟨rfl,rfl,rfl,by decide +kernel,rfl,by decide +kernel,by decide +kernel⟩
theorem sc_g:xw ["self", "row", "column", "sign"] ["self", "row", "column", "sign"] (xh s_g):=⟨rfl,rfl,rfl,by decide +kernel,rfl,by decide +kernel,by decide +kernel⟩
theorem sc_j:xw ["self", "row", "column", "name", "places"] ["self", "row", "column", "name"] (xh s_j):=⟨rfl,rfl,rfl,by decide +kernel,rfl,by decide +kernel,by decide +kernel⟩
theorem sc_aa:xw ["self", "row", "column", "sign", "letters"] ["self", "row", "column", "sign"] (xh s_aa):=⟨rfl,rfl,rfl,by decide +kernel,rfl,by decide +kernel,by decide +kernel⟩
theorem xcz:xw ["rows", "letters", "row", "column", "sign", "name", "place", "picture", "pairs"] ["rows"] (xh xdn):=⟨rfl,rfl,rfl,by decide +kernel,rfl,by decide +kernel,by decide +kernel⟩
theorem sc_ag:xw ["rows", "row", "text"] ["rows"] (xh s_ag):=⟨rfl,rfl,rfl,by decide +kernel,rfl,by decide +kernel,by decide +kernel⟩
theorem sc_av:xw ["rows", "found", "row", "text"] ["rows"] (xh s_av):=⟨rfl,rfl,rfl,by decide +kernel,rfl,by decide +kernel,by decide +kernel⟩
theorem sc_a1:xw ["place", "row", "column"] ["place"] (xh s_a1):=⟨rfl,rfl,rfl,by decide +kernel,rfl,by decide +kernel,by decide +kernel⟩
theorem sc_z:xw ["rows", "letters", "height", "points", "seats"] ["rows", "letters"] (xh s_z):=⟨rfl,rfl,rfl,by decide +kernel,rfl,by decide +kernel,by decide +kernel⟩
theorem sc_t:xw ["rows", "drawing", "row", "column", "sign"] ["rows", "drawing"] (xh s_t):=⟨rfl,rfl,rfl,by decide +kernel,rfl,by decide +kernel,by decide +kernel⟩
theorem sc_ad:xw ["_law_script", "_law_k"] ["_law_script", "_law_k"] (xh s_ad):=⟨rfl,rfl,rfl,by decide +kernel,rfl,by decide +kernel,by decide +kernel⟩
theorem sc_v:xw ["_law_cell", "_law_k", "_law_number"] ["_law_cell", "_law_k"] (xh s_v):=⟨rfl,rfl,rfl,by decide +kernel,rfl,by decide +kernel,by decide +kernel⟩
theorem sc_as:xw ["_law_script", "_law_cell", "_law_width", "_law_height"] ["_law_script"] (xh s_as):=⟨rfl,rfl,rfl,by decide +kernel,rfl,by decide +kernel,by decide +kernel⟩
theorem sc_aq:xw ["_law_script", "_law_height", "_law_cell", "_law_thick", "_law_seats_here", "_law_k", "_law_side", "_law_row"] ["_law_script", "_law_height"] (xh s_aq):=⟨rfl,rfl,rfl,by decide +kernel,rfl,by decide +kernel,by decide +kernel⟩
theorem sc_at:xw ["_law_cell", "_law_name", "_law_x", "_law_y", "_law_height", "_law_sides", "_law_low", "_law_high", "_law_way"] ["_law_cell", "_law_name", "_law_x", "_law_y", "_law_height"] (xh s_at):=⟨rfl,rfl,rfl,by decide +kernel,rfl,by decide +kernel,by decide +kernel⟩
theorem sc_ai:xw ["_law_cells", "_law_width", "_law_height", "_law_columns", "_law_rows", "_law_letters", "_law_points_here", "_law_cell", "_law_x", "_law_y", "_law_name"] ["_law_cells", "_law_width", "_law_height"] (xh s_ai):=⟨rfl,rfl,rfl,by decide +kernel,rfl,by decide +kernel,by decide +kernel⟩
theorem sc_m:xw ["_law_height"] ["_law_height"] (xh s_m):=⟨rfl,rfl,rfl,by decide +kernel,rfl,by decide +kernel,by decide +kernel⟩
theorem sc_an:xw ["_law_cell", "_law_points_here", "_law_height", "_law_seats_here", "_law_free", "_law_pairs_here", "_law_k", "_law_point_here", "_law_side", "_law_row"] ["_law_cell", "_law_points_here", "_law_height", "_law_seats_here"] (xh s_an):=⟨rfl,rfl,rfl,by decide +kernel,rfl,by decide +kernel,by decide +kernel⟩
theorem sc_a0:xw ["_law_width", "_law_side"] ["_law_width", "_law_side"] (xh s_a0):=⟨rfl,rfl,rfl,by decide +kernel,rfl,by decide +kernel,by decide +kernel⟩
theorem sc_am:xw ["_law_rim_here", "_law_x", "_law_y", "_law_row", "_law_found"] ["_law_rim_here", "_law_x", "_law_y", "_law_row"] (xh s_am):=⟨rfl,rfl,rfl,by decide +kernel,rfl,by decide +kernel,by decide +kernel⟩
theorem sc_ah:xw ["_law_width", "_law_height", "_law_points_here", "_law_seats_here", "_law_pairs_here", "_law_signs", "_law_name", "_law_side", "_law_row", "_law_x", "_law_y", "_law_cell", "_law_sign", "_law_point_here", "_law_rows"] ["_law_width", "_law_height", "_law_points_here", "_law_seats_here", "_law_pairs_here"] (xh s_ah):=⟨rfl,rfl,rfl,by decide +kernel,rfl,by decide +kernel,by decide +kernel⟩
theorem sc_ab:xw ["_law_found", "_law_width", "_law_height", "_law_points_here", "_law_seats_here", "_law_pairs_here", "_law_picture_here", "_law_had"] ["_law_found", "_law_width", "_law_height", "_law_points_here", "_law_seats_here", "_law_pairs_here"] (xh s_ab):=⟨rfl,rfl,rfl,by decide +kernel,rfl,by decide +kernel,by decide +kernel⟩
theorem xbr:xw ["_law_script", "_law_width", "_law_height", "_law_seats_here", "_law_points_here", "_law_pairs_here", "_law_rows", "_law_handed", "_law_found", "_law_again", "_law_name", "_law_x", "_law_y", "_law_sides", "_law_low", "_law_high"] ["_law_script"] (xh xew):=⟨rfl,rfl,rfl,by decide +kernel,rfl,by decide +kernel,by decide +kernel⟩
end S72
namespace S72
open PySem L2 XL PyProof.Rows
theorem xbq {K:PySem.W.Frag}{v:Value}:PySem.W.kitOne K v v=some true:=if_pos (by simp)
theorem xp {H H':Hp}{p:Addr}{o:HO} (s:Same H H') (hp:H' p=none):Same H (L2.upd H' p o):=fun b u z=>by
 have z':=s b u z
 rw[xg (xi z' hp)]
 exact z'
theorem xp4 {H:Hp}{x dx:Addr}{a b c:HO} (hx:H x=none) (hd:H dx=none):Same H (upd (upd (upd H dx a) x b) x c):=fun y o e=>by
 rw[xg (xi e hx),xg (xi e hx),xg (xi e hd)]
 exact e
def xai (b:Bool):Str:=if b then "left" else "right"
def xd4 (t:Adr) (H:Hp) (p:Addr) (b:Bool) (w:Int):Prop:=∃ dx,H p=some (.ins (if b then t.C_aw else t.C_ak) dx [("width",.int w)])
def xrw (K:PySem.W.Frag):Sp:=fun vs H Q _=>∃(p C dx:Addr) (n:Int),vs=[.ref p,.int n]/\H p=some (.ins C dx [])/\Cls K C/\xd8 K C "width"/\Q .non (upd H p (.ins C dx [("width",.int n)]))
def sp1 (v:V):Sp:=fun vs H Q _=>∃ p:V,vs=[p]/\Q v H
def xtr:Sp:=fun vs H Q _=>∃(p:V) (x:V),vs=[p,x]/\Q x H
def xpv (t:Adr):Sp:=fun vs H Q _=>∃(p:Addr) (n:Int),vs=[.ref p]/\xd4 t H p false n/\Q (.int (n+1)) H
def xtg (t:Adr):Sp:=fun vs H Q _=>∃(p:Addr) (n x:Int),vs=[.ref p,.int x]/\xd4 t H p false n/\Q (.int (n+1-x)) H
def xgo (t:Adr):Sp:=fun vs H Q _=>∃(b:Bool) (n:Int),vs=[.str (xai b),.int n]/\∀ p H',H p=none->xd4 t H' p b n->Same H H'->Q (.ref p) H'
section
variable {P:Program}{w:World}{K:PySem.W.Frag}{mg:Str->Option Value}{base:Heap}{t:Adr}
theorem ok_ar (T:Txt w K mg t):FnOk true P w K mg base (CXo P w) 1 t.f_ar t.d_ar ["self", "width"] (xrw K):=by
 refine T.F_ar.okn (k:=0) sc_ar (fun vs H Q E h=>?_) (fun cdv A outer s H vs Q E hr h=>?_)
 .obtain ⟨p,C,dx,n,rfl,_⟩:=h
  rfl
 .obtain ⟨p,C,dx,n,rfl,h⟩:=h
  refine⟨_,xm (xdh (pv 0) (pv 1) rfl),?_⟩
  obtain⟨hp,c,na,q⟩:=h
  exact⟨_,rfl,_,rfl,p,C,dx,[],rfl,hp,c,na,(by show 0<1000; decide),q⟩
theorem ok_w (T:Txt w K mg t):FnOk true P w K mg base (CXo P w) 1 t.f_w t.d_w ["self"] (sp1 (.int 0)):=by
 refine T.F_w.okn (k:=0) sc_w (fun vs H Q E h=>?_) (fun cdv A outer s H vs Q E hr h=>?_)
 .obtain ⟨p,rfl,_⟩:=h
  rfl
 .obtain ⟨p,rfl,h⟩:=h
  refine⟨_,xm (x0 (xn)),?_⟩
  exact h
theorem ok_y (T:Txt w K mg t):FnOk true P w K mg base (CXo P w) 1 t.f_y t.d_y ["self"] (sp1 (.int (-1))):=by
 refine T.F_y.okn (k:=0) sc_y (fun vs H Q E h=>?_) (fun cdv A outer s H vs Q E hr h=>?_)
 .obtain ⟨p,rfl,_⟩:=h
  rfl
 .obtain ⟨p,rfl,h⟩:=h
  refine⟨_,xm (x0 (xp1 xmz (xn))),?_⟩
  exact⟨1,rfl,h⟩
theorem ok_l (T:Txt w K mg t):FnOk true P w K mg base (CXo P w) 1 t.f_l t.d_l ["self", "x"] (xtr):=by
 refine T.F_l.okn (k:=0) sc_l (fun vs H Q E h=>?_) (fun cdv A outer s H vs Q E hr h=>?_)
 .obtain ⟨p,x,rfl,_⟩:=h
  rfl
 .obtain ⟨p,x,rfl,h⟩:=h
  refine⟨_,xm (x0 (pv 1)),?_⟩
  exact⟨_,rfl,h⟩
theorem ok_r (T:Txt w K mg t):FnOk true P w K mg base (CXo P w) 1 t.f_r t.d_r ["self"] (sp1 (.int 1)):=by
 refine T.F_r.okn (k:=0) sc_r (fun vs H Q E h=>?_) (fun cdv A outer s H vs Q E hr h=>?_)
 .obtain ⟨p,rfl,_⟩:=h
  rfl
 .obtain ⟨p,rfl,h⟩:=h
  refine⟨_,xm (x0 (xn)),?_⟩
  exact h
theorem ok_q (T:Txt w K mg t):FnOk true P w K mg base (CXo P w) 1 t.f_q t.d_q ["self"] (xpv t):=by
 refine T.F_q.okn (k:=0) sc_q (fun vs H Q E h=>?_) (fun cdv A outer s H vs Q E hr h=>?_)
 .obtain ⟨p,n,rfl,_⟩:=h
  rfl
 .obtain ⟨p,n,rfl,h⟩:=h
  refine⟨_,xm (x0 (xx xap (xae (pv 0) rfl) (xn))),?_⟩
  obtain⟨⟨dx,hp⟩,q⟩:=h
  exact⟨_,rfl,p,t.C_ak,dx,_,_,rfl,hp,T.c_ak,T.n_bb,rfl,_,_,rfl,rfl,q⟩
theorem ok_h (T:Txt w K mg t):FnOk true P w K mg base (CXo P w) 1 t.f_h t.d_h ["self", "x"] (xtg t):=by
 refine T.F_h.okn (k:=0) sc_h (fun vs H Q E h=>?_) (fun cdv A outer s H vs Q E hr h=>?_)
 .obtain ⟨p,n,x,rfl,_⟩:=h
  rfl
 .obtain ⟨p,n,x,rfl,h⟩:=h
  refine⟨_,xm (x0 (xx xfr (xx xap (xae (pv 0) rfl) (xn)) (pv 1))),?_⟩
  obtain⟨⟨dx,hp⟩,q⟩:=h
  exact⟨_,rfl,p,t.C_ak,dx,_,_,rfl,hp,T.c_ak,T.n_bb,rfl,_,_,rfl,rfl,_,rfl,_,_,rfl,rfl,q⟩
theorem ok_au (T:Txt w K mg t):FnOk true P w K mg base (CXo P w) 3 t.f_au t.d_au ["word", "width"] (xgo t):=by
 refine T.F_au.okn (k:=2) sc_au (fun vs H Q E h=>?_) (fun cdv A outer s H vs Q E hr h=>?_)
 .obtain ⟨b,n,rfl,_⟩:=h
  rfl
 .obtain ⟨b,n,rfl,h⟩:=h
  refine⟨_,xk (xao (xa9 (x6 xbo rfl T.n_isinstance boot_isinstance (xa (pv 0) (xa (xb8 (v:=.ty "str") rfl T.n_str boot_str rfl) (xb))))) (xk (xao (xaa xby (pv 0) (xad) (xaf _)) (xm (x0 (xf2 T.k_aw (ok_ar T) (hr.mono (by decide)) rfl T.g_aw T.b_ar .nil xj (xa (pv 1) (xb))))) (x9))
   (xm (xao (xaa xby (pv 0) (xad) (xaf _)) (xm (x0 (xf2 T.k_ak (ok_ar T) (hr.mono (by decide)) rfl T.g_ak T.b_ar .nil xj (xa (pv 1) (xb))))) (x9)))) (x9))
   (xm (xa3)),?_⟩
  cases b with
  | true =>
   refine⟨_,rfl,_,_,rfl,.inl ⟨_,_,true,.str _,rfl,xbq,true,rfl,iteT ?_⟩⟩
   refine⟨_,rfl,rfl,_,rfl,?_⟩
   refine ifP (by decide +kernel) ?_
   exact⟨_,rfl,fun x dx hx hdx ne=>⟨x,t.C_aw,dx,n,rfl,xf,T.c_aw,T.n_be,rfl,h x _ hx ⟨dx,xf⟩ (xp4 hx hdx)⟩⟩
  | false =>
   refine⟨_,rfl,_,_,rfl,.inl ⟨_,_,true,.str _,rfl,xbq,true,rfl,iteT ?_⟩⟩
   refine⟨_,rfl,rfl,_,rfl,?_⟩
   refine ifN (by decide +kernel) ?_
   refine⟨_,rfl,rfl,_,rfl,?_⟩
   refine ifP (by decide +kernel) ?_
   exact⟨_,rfl,fun x dx hx hdx ne=>⟨x,t.C_ak,dx,n,rfl,xf,T.c_ak,T.n_bb,rfl,h x _ hx ⟨dx,xf⟩ (xp4 hx hdx)⟩⟩
end
def isNm (x:Str):Bool:=decide (x.length=1)&&(!decide (x.cps.toList<[97])&&!decide ([122]<x.cps.toList))
def xtm:Sp:=fun vs H Q _=>∃(i lo hi:Int),vs=[.int i,.int lo,.int hi]/\lo<=i/\i<=hi/\Q (.bl true) H
def xtu:Sp:=fun vs H Q _=>∃(x:Str),vs=[.str x]/\isNm x=true/\Q (.bl true) H
theorem xl7:("a":Str).cps.toList=[97]:=by decide +kernel
theorem xpy:("z":Str).cps.toList=[122]:=by decide +kernel
section
variable {P:Program}{w:World}{K:PySem.W.Frag}{mg:Str->Option Value}{base:Heap}{t:Adr}
theorem ok_al (T:Txt w K mg t):FnOk true P w K mg base (CXo P w) 1 t.f_al t.d_al ["thing", "low", "high"] (xtm):=by
 refine T.F_al.okn (k:=0) sc_al (fun vs H Q E h=>?_) (fun cdv A outer s H vs Q E hr h=>?_)
 .obtain ⟨i,lo,hi,rfl,_⟩:=h
  rfl
 .obtain ⟨i,lo,hi,rfl,h⟩:=h
  refine⟨_,xm (x0 (xco (x6 xbo rfl T.n_isinstance boot_isinstance (xa (pv 0) (xa (xb8 (v:=.ty "int") rfl T.n_int boot_int rfl) (xb)))) (xco (xss (x6 xbo rfl T.n_isinstance boot_isinstance (xa (pv 0) (xa (xb8 (v:=.ty "bool") rfl T.n_bool boot_bool rfl) (xb))))) (xdo (xgh xf4 xf4 (pv 1) (pv 0) (pv 2)))))),?_⟩
  obtain⟨c1,c2,q⟩:=h
  refine⟨_,rfl,_,_,rfl,.inl ⟨_,_,true,.int i,rfl,xbq,true,rfl,iteT ?_⟩⟩
  refine⟨_,rfl,_,_,rfl,.inl ⟨_,_,false,.int i,rfl,(by rfl),false,rfl,true,rfl,iteT ?_⟩⟩
  refine⟨_,rfl,_,rfl,_,_,rfl,rfl,_,rfl,ite2 (fun c=>?_) (fun c=>?_)⟩
  .refine ⟨_,rfl,_,_,rfl,rfl,?_⟩
   show Q (.bl (decide (i<=hi))) H
   rw[decide_eq_true c2]
   exact q
  .exact absurd (decide_eq_true c1) c
theorem ok_ax (T:Txt w K mg t):FnOk true P w K mg base (CXo P w) 1 t.f_ax t.d_ax ["thing"] (xtu):=by
 refine T.F_ax.okn (k:=0) sc_ax (fun vs H Q E h=>?_) (fun cdv A outer s H vs Q E hr h=>?_)
 .obtain ⟨x,rfl,_⟩:=h
  rfl
 .obtain ⟨x,rfl,h⟩:=h
  refine⟨_,xm (x0 (xco (x6 xbo rfl T.n_isinstance boot_isinstance (xa (pv 0) (xa (xb8 (v:=.ty "str") rfl T.n_str boot_str rfl) (xb)))) (xco (xcv xby (x6 xb0 rfl T.n_len boot_len (xa (pv 0) (xb))) (xn) (xaf _)) (xdo (xgh xea xea (xad) (pv 0) (xad)))))),?_⟩
  obtain⟨hn,q⟩:=h
  unfold isNm at hn
  simp only[Bool.and_eq_true,decide_eq_true_eq,Bool.not_eq_true',decide_eq_false_iff_not] at hn
  obtain⟨l1,n1,n2⟩:=hn
  refine⟨_,rfl,_,_,rfl,.inl ⟨_,_,true,.str x,rfl,xbq,true,rfl,iteT ?_⟩⟩
  refine⟨_,rfl,_,rfl,(by rw[l1]; decide),rfl,_,rfl,ite2 (fun c=>?_) (fun c=>?_)⟩
  .refine ⟨_,rfl,_,_,rfl,rfl,_,rfl,ite2 (fun d=>?_) (fun d=>?_)⟩
   .refine ⟨_,_,rfl,rfl,?_⟩
    rw[xpy,decide_eq_false n2]
    exact q
   .rw [xl7,decide_eq_false n1] at d
    exact absurd rfl d
  .exact absurd (decide_eq_true (by rw[l1]; rfl)) c
end
structure Pt where
 nm:Str
 x:Int
 y:Int
 sd:Str
 lo:Int
 hi:Int
def ptV (p:Pt):List V:=[.int p.x,.int p.y,.str p.sd,.int p.lo,.int p.hi]
inductive Pl (H:Hp):List Pt->List (Key × V)->Prop
 | nil:Pl H [] []
 | cons {p:Pt}{q:Addr}{ps:List Pt}{kvs:List (Key × V)} (h:H q=some (.tup (ptV p))) (r:Pl H ps kvs):Pl H (p::ps) ((.inr p.nm,.ref q)::kvs)
inductive PtsL (H:Hp):List Pt->List Addr->Prop
 | nil:PtsL H [] []
 | cons {p:Pt}{q:Addr}{ps:List Pt}{qs:List Addr} (h:H q=some (.tup (.str p.nm::ptV p))) (r:PtsL H ps qs):PtsL H (p::ps) (q::qs)
theorem xub {σ:L2.St}{H:Hp}{A B:Hp->Prop} (h:A H):xdf σ H (fun b H4=>if b=true then A H4 else B H4):=by
 show if true=true then A H else B H
 rw[if_pos rfl]
 exact h
theorem xtb {i:Nat}{v:V}{σ:L2.St}{H:Hp}{A B:L2.St->Hp->Prop} (h:A (σ.set i (some v)) H):xeg i v σ H (fun σ' H'=>xdf σ' H' fun b H4=>if b=true then A σ' H4 else B σ' H4):=by
 show if true=true then A (σ.set i (some v)) H else B (σ.set i (some v)) H
 rw[if_pos rfl]
 exact h
def Tups (H H':Hp):Prop:=∀ b xs,H b=some (.tup xs)->H' b=some (.tup xs)
theorem Pl.keep {H H':Hp} (s:Tups H H') {ps:List Pt}{kvs:List (Key × V)} (h:Pl H ps kvs):Pl H' ps kvs:=by
 induction h with
 | nil=>exact .nil
 | cons h _ ih=>exact .cons (s _ _ h) ih
theorem PtsL.keep {H H':Hp} (s:Tups H H') {ps:List Pt}{qs:List Addr} (h:PtsL H ps qs):PtsL H' ps qs:=by
 induction h with
 | nil=>exact .nil
 | cons h _ ih=>exact .cons (s _ _ h) ih
theorem Pl.len {H:Hp}{ps:List Pt}{kvs:List (Key × V)} (h:Pl H ps kvs):kvs.length=ps.length:=by
 induction h with
 | nil=>rfl
 | cons _ _ ih=>simp[ih]
theorem PtsL.len {H:Hp}{ps:List Pt}{qs:List Addr} (h:PtsL H ps qs):qs.length=ps.length:=by
 induction h with
 | nil=>rfl
 | cons _ _ ih=>simp[ih]
theorem Pl.find {H:Hp}{ps:List Pt}{kvs:List (Key × V)} (h:Pl H ps kvs) {nm:Str}{pt:Pt} (e:ps.find? (fun p=>decide (p.nm=nm))=some pt):∃ q,valV kvs (.inr nm)=some (.ref q)/\H q=some (.tup (ptV pt)):=by
 induction h with
 | nil=>simp at e
 | @cons p q ps kvs h _ ih =>
  by_cases c:p.nm=nm
  .rw [List.find?_cons_of_pos (by simpa using c)] at e
   cases e
   exact⟨q,xa5 (by rw[c]),h⟩
  .rw [List.find?_cons_of_neg (by simpa using c)] at e
   obtain⟨q',h1,h2⟩:=ih e
   exact⟨q',by rw[xa2 (fun z=>c (Sum.inr.inj z))]; exact h1,h2⟩
theorem Pl.no {H:Hp}{ps:List Pt}{kvs:List (Key × V)} (h:Pl H ps kvs) {nm:Str} (e:∀ p∈ps,p.nm≠nm):valV kvs (.inr nm)=none:=by
 induction h with
 | nil=>rfl
 | @cons p q ps kvs h _ ih =>
  rw[xa2 (fun z=>e p List.mem_cons_self (Sum.inr.inj z))]
  exact ih fun p' hp=>e p' (List.mem_cons_of_mem _ hp)
theorem Pl.get {H:Hp}{ps:List Pt}{kvs:List (Key × V)} (h:Pl H ps kvs) {i:Nat}{k:Key}{x:V} (e:kvs[i]?=some (k,x)):∃ p q,ps[i]?=some p/\k=.inr p.nm/\x=.ref q/\H q=some (.tup (ptV p)):=by
 induction h generalizing i with
 | nil=>simp at e
 | @cons p q ps kvs h _ ih =>
  cases i with
  | zero =>
   simp at e
   exact⟨p,q,rfl,e.1.symm,e.2.symm,h⟩
  | succ j=>exact ih (by simpa using e)
theorem PtsL.get {H:Hp}{ps:List Pt}{qs:List Addr} (h:PtsL H ps qs) {i:Nat}{q:Addr} (e:qs[i]?=some q):∃ p,ps[i]?=some p/\H q=some (.tup (.str p.nm::ptV p)):=by
 induction h generalizing i with
 | nil=>simp at e
 | @cons p q' ps qs h _ ih =>
  cases i with
  | zero =>
   simp at e
   subst e
   exact⟨p,rfl,h⟩
  | succ j=>exact ih (by simpa using e)
theorem Pl.snoc {H:Hp}{ps:List Pt}{kvs:List (Key × V)} (h:Pl H ps kvs) {p:Pt}{q:Addr} (e:H q=some (.tup (ptV p))):Pl H (ps++[p]) (kvs++[(.inr p.nm,.ref q)]):=by
 induction h with
 | nil=>exact .cons e .nil
 | cons h _ ih=>exact .cons h ih
theorem PtsL.snoc {H:Hp}{ps:List Pt}{qs:List Addr} (h:PtsL H ps qs) {p:Pt}{q:Addr} (e:H q=some (.tup (.str p.nm::ptV p))):PtsL H (ps++[p]) (qs++[q]):=by
 induction h with
 | nil=>exact .cons e .nil
 | cons h _ ih=>exact .cons h ih
abbrev picF (w h:Int) (dp do_:Addr):List (Str × V):=[("width",.int w),("height",.int h),("placed",.ref dp),("opened",.ref do_)]
structure Pic (t:Adr) (H:Hp) (a dp do_:Addr) (w h:Int) (ps:List Pt):Prop where
 ins:∃ dx,H a=some (.ins t.C_n dx (picF w h dp do_))
 pl:∃ kvs,H dp=some (.dK kvs)/\Pl H ps kvs
 w1:1<=w
 w2:w<=30
 h1:1<=h
 h2:h<=16
 len:ps.length<=12
theorem Same.tups {H H':Hp} (s:Same H H'):Tups H H':=fun b xs e=>s b _ e
theorem Pic.same {t:Adr}{H H':Hp}{a dp do_:Addr}{w h:Int}{ps:List Pt} (s:Same H H') (p:Pic t H a dp do_ w h ps):Pic t H' a dp do_ w h ps :=
 ⟨let ⟨dx,e⟩:=p.ins; ⟨dx,s _ _ e⟩,let ⟨kvs,e,q⟩:=p.pl; ⟨kvs,s _ _ e,q.keep (Same.tups s)⟩,p.w1,p.w2,p.h1,p.h2,p.len⟩
theorem xa8 {w h:Int}{dp do_:Addr}{m:Str} (e:((["width", "height", "placed", "opened"]:List Str).all fun k=>!(m == k))=true):(picF w h dp do_).lookup m=none:=by
 simp only[List.all_cons,List.all_nil,Bool.and_eq_true,Bool.not_eq_true'] at e
 obtain⟨e1,e2,e3,e4,_⟩:=e
 unfold picF
 rw[List.lookup_cons,e1]
 show List.lookup m [("height",V.int h),("placed",V.ref dp),("opened",V.ref do_)]=none
 rw[List.lookup_cons,e2]
 show List.lookup m [("placed",V.ref dp),("opened",V.ref do_)]=none
 rw[List.lookup_cons,e3]
 show List.lookup m [("opened",V.ref do_)]=none
 rw[List.lookup_cons,e4]
 rfl
theorem lkW {w h:Int}{dp do_:Addr}:(picF w h dp do_).lookup ("width":Str)=some (.int w):=by
 unfold picF
 rw[List.lookup_cons,show (("width":Str) == "width")=true from by decide +kernel]
theorem lkH {w h:Int}{dp do_:Addr}:(picF w h dp do_).lookup ("height":Str)=some (.int h):=by
 unfold picF
 rw[List.lookup_cons,show (("height":Str) == "width")=false from by decide +kernel]
 show List.lookup ("height":Str) [("height",V.int h),("placed",V.ref dp),("opened",V.ref do_)]=_
 rw[List.lookup_cons,show (("height":Str) == "height")=true from by decide +kernel]
theorem lkP {w h:Int}{dp do_:Addr}:(picF w h dp do_).lookup ("placed":Str)=some (.ref dp):=by
 unfold picF
 rw[List.lookup_cons,show (("placed":Str) == "width")=false from by decide +kernel]
 show List.lookup ("placed":Str) [("height",V.int h),("placed",V.ref dp),("opened",V.ref do_)]=_
 rw[List.lookup_cons,show (("placed":Str) == "height")=false from by decide +kernel]
 show List.lookup ("placed":Str) [("placed",V.ref dp),("opened",V.ref do_)]=_
 rw[List.lookup_cons,show (("placed":Str) == "placed")=true from by decide +kernel]
def xqj (t:Adr):Sp:=fun vs H Q _=>∃(p dx:Addr) (w h:Int),vs=[.ref p,.int w,.int h]/\H p=some (.ins t.C_n dx [])/\1<=w/\w<=30/\1<=h/\h<=16 /\
 ∀ H' dp do_,H dp=none->H do_=none->(∀ b u,b≠p->H b=some u->H' b=some u)->Pic t H' p dp do_ w h []->H' do_=some (.dT [])->Q .non H'
def spCN (t:Adr):Sp:=fun vs H Q _=>∃(a dp do_:Addr) (pw ph:Int) (ps:List Pt) (nm:Str) (pt:Pt),vs=[.ref a,.str nm]/\Pic t H a dp do_ pw ph ps/\isNm nm=true/\ps.find? (fun p=>decide (p.nm=nm))=some pt/\Q .non H
def spCC (t:Adr):Sp:=fun vs H Q _=>∃(a dp do_:Addr) (pw ph:Int) (ps:List Pt) (x y:Int),vs=[.ref a,.int x,.int y]/\Pic t H a dp do_ pw ph ps/\1<=x/\x<=pw/\1<=y/\y<=ph/\Q .non H
def xt5 (t:Adr):Sp:=fun vs H Q _=>∃(a dp do_:Addr) (pw ph:Int) (ps:List Pt),vs=[.ref a]/\Pic t H a dp do_ pw ph ps/\∀ H' l qs,Same H H'->H' l=some (.lst (qs.map V.ref))->PtsL H' ps qs->Q (.ref l) H'
def spCL (t:Adr):Sp:=fun vs H Q _=>∃(a dp do_:Addr) (pw ph:Int) (ps:List Pt) (nm:Str) (x y:Int),vs=[.ref a,.str nm,.int x,.int y]/\Pic t H a dp do_ pw ph ps/\(∀ p∈ps,p.nm≠nm->p.x≠x/\p.y≠y)/\∀ H',Same H H'->Q .non H'
def spCS (t:Adr):Sp:=fun vs H Q _=>∃(a dp do_:Addr) (pw ph:Int) (ps:List Pt) (b:Bool) (r:Int),vs=[.ref a,.str (xai b),.int r]/\Pic t H a dp do_ pw ph ps/\1<=r/\r<=ph/\∀ H',Same H H'->Q .non H'
def xti (t:Adr):Sp:=fun vs H Q _=>∃(a dp do_:Addr) (pw ph:Int) (ps:List Pt) (nm:Str) (x y:Int) (sd:Str) (lo hi:Int) (hv:V),vs=[.ref a,.str nm,.int x,.int y,.str sd,.int lo,hv]/\Pic t H a dp do_ pw ph ps /\
 ((hv=.non/\hi=ph)\/hv=.int hi)/\isNm nm=true/\1<=x/\x<=pw/\1<=y/\y<=ph/\(sd="left"\/sd="right"\/sd="both")/\1<=lo/\lo<=hi/\hi<=ph/\(∀ p∈ps,p.nm≠nm/\p.x≠x/\p.y≠y)/\ps.length<12 /\
 ∀ H',(∀ b u,b≠dp->H b=some u->H' b=some u)->Pic t H' a dp do_ pw ph (ps++[⟨nm,x,y,sd,lo,hi⟩])->Q .non H'
def xtf (t:Adr):Sp:=fun vs H Q _=>∃(a dp do_:Addr) (pw ph:Int) (ps:List Pt) (nm:Str) (pt:Pt),vs=[.ref a,.str nm]/\Pic t H a dp do_ pw ph ps/\isNm nm=true/\ps.find? (fun p=>decide (p.nm=nm))=some pt /\
 ∀ H' q,Same H H'->H' q=some (.tup [.int pt.x,.int pt.y])->Q (.ref q) H'
def lenI (w x y:Int) (b:Bool) (r:Int):Int:=(if b then x else w+1-x)+(if y-r<0 then -(y-r) else y-r)
def xt3 (t:Adr):Sp:=fun vs H Q _=>∃(a dp do_:Addr) (pw ph:Int) (ps:List Pt) (nm:Str) (pt:Pt) (b:Bool) (r:Int),vs=[.ref a,.str nm,.str (xai b),.int r]/\Pic t H a dp do_ pw ph ps/\isNm nm=true/\ps.find? (fun p=>decide (p.nm=nm))=some pt/\1<=r/\r<=ph /\
 ∀ H',Same H H'->Q (.int (lenI pw pt.x pt.y b r)) H'
section
variable {P:Program}{w:World}{K:PySem.W.Frag}{mg:Str->Option Value}{base:Heap}{t:Adr}
theorem ok_ae (T:Txt w K mg t):FnOk true P w K mg base (CXo P w) 2 t.f_ae t.d_ae ["self", "width", "height"] (xqj t):=by
 refine T.F_ae.okn (k:=1) sc_ae (fun vs H Q E h=>?_) (fun cdv A outer s H vs Q E hr h=>?_)
 .obtain ⟨p,dx,pw,ph,rfl,_⟩:=h
  rfl
 .obtain ⟨p,dx,pw,ph,rfl,h⟩:=h
  refine⟨_,xk (xao (PW.pt (xcj (xbh (xa9 (xt (ok_al T) (hr.mono (by decide)) rfl T.g_al T.F_al.kp T.b_al .nil xj (xa (pv 1) (xa (xn) (xa (xct (v:=.int 30) rfl T.v_bc.choose_spec ⟨_,rfl⟩) (xb))))))) (xcm (xbh (xa9 (xt (ok_al T) (hr.mono (by decide)) rfl T.g_al T.F_al.kp T.b_al .nil xj (xa (pv 2) (xa (xn) (xa (xct (v:=.int 16) rfl T.v_bf.choose_spec ⟨_,rfl⟩) (xb)))))))))) (xm (xa3)) (x9))
   (xk (xdh (pv 0) (pv 1) rfl)
   (xk (xdh (pv 0) (pv 2) rfl)
   (xk (xdh (pv 0) (xgj) rfl)
   (xm (xdh (pv 0) (xgs) rfl))))),?_⟩
  obtain⟨hp,w1,w2,h1,h2,q⟩:=h
  refine⟨_,rfl,pw,1,30,rfl,w1,w2,true,rfl,iteF ⟨_,rfl,ph,1,16,rfl,h1,h2,true,rfl,iteF ?_⟩⟩
  refine⟨_,rfl,_,rfl,p,_,dx,_,rfl,hp,T.c_n,T.n_a5,(by show 0<1000; decide),?_⟩
  refine⟨_,rfl,_,rfl,p,_,dx,_,rfl,xf,T.c_n,T.n_a6,(by show 1<1000; decide),?_⟩
  rw[xeq]
  refine fun dp hdp=>?_
  have n1:p≠dp:=xi xf hdp
  refine⟨_,rfl,p,_,dx,_,rfl,(by rw[xg n1]; exact xf),T.c_n,T.n_a4,(by show 2<1000; decide),fun do_ hdo=>?_⟩
  have n2:p≠do_:=xi xf hdo
  have n3:dp≠do_:=xi (by rw[xg (Ne.symm n1)]; exact xf) hdo
  refine⟨_,rfl,p,_,dx,_,rfl,(by rw[xg n2]; exact xf),T.c_n,T.n_ba,(by show 3<1000; decide),?_⟩
  rw[xg (Ne.symm n1)] at hdp
  have hdo':H do_=none:=by
   have z:=hdo
   rw[xg (Ne.symm n2),xg (Ne.symm n3),xg (Ne.symm n2)] at z
   exact z
  refine q _ dp do_ hdp hdo' (fun b u nb e=>?_) ⟨⟨dx,xf⟩,⟨[],?_,.nil⟩,w1,w2,h1,h2,Nat.zero_le _⟩ ?_
  .have c1:b≠dp:=xi e hdp
   have c2:b≠do_:=fun z=>by
    subst z
    rw[xg nb,xg c1,xg nb] at hdo
    rw[e] at hdo
    cases hdo
   rw[xg nb,xg c2,xg nb,xg c1,xg nb]
   exact e
  .rw [xg (Ne.symm n1),xg n3,xg (Ne.symm n1)]
   exact xf
  .rw [xg (Ne.symm n2)]
   exact xf
theorem ok_b (T:Txt w K mg t):FnOk true P w K mg base (CXo P w) 2 t.f_b t.d_b ["self", "name"] (spCN t):=by
 refine T.F_b.okn (k:=1) sc_b (fun vs H Q E h=>?_) (fun cdv A outer s H vs Q E hr h=>?_)
 .obtain ⟨a,dp,do_,pw,ph,ps,nm,pt,rfl,_⟩:=h
  rfl
 .obtain ⟨a,dp,do_,pw,ph,ps,nm,pt,rfl,h⟩:=h
  refine⟨_,xm (xao (PW.pt (xcj (xbh (xa9 (xt (ok_ax T) (hr.mono (by decide)) rfl T.g_ax T.F_ax.kp T.b_ax .nil xj (xa (pv 1) (xb))))) (xcm (xd6 (xec (xbc hr) (pv 1) (xae (pv 0) rfl)))))) (xm (xa3)) (x9)),?_⟩
  obtain⟨pic,hn,hf,q⟩:=h
  obtain⟨⟨dx,hp⟩,⟨kvs,hk,pl⟩,_⟩:=id pic
  obtain⟨q0,e,_⟩:=pl.find hf
  exact⟨_,rfl,nm,rfl,hn,true,rfl,iteF ⟨_,rfl,_,rfl,a,_,dx,_,_,rfl,hp,T.c_n,T.n_a4,lkP,dp,some (.ref q0),rfl,(by rw[<- e]; exact DGet.k (k:=.inr nm) hk),false,rfl,iteF q⟩⟩
theorem ok_d (T:Txt w K mg t):FnOk true P w K mg base (CXo P w) 2 t.f_d t.d_d ["self", "x", "y"] (spCC t):=by
 refine T.F_d.okn (k:=1) sc_d (fun vs H Q E h=>?_) (fun cdv A outer s H vs Q E hr h=>?_)
 .obtain ⟨a,dp,do_,pw,ph,ps,x,y,rfl,_⟩:=h
  rfl
 .obtain ⟨a,dp,do_,pw,ph,ps,x,y,rfl,h⟩:=h
  refine⟨_,xm (xao (PW.pt (xcj (xbh (xa9 (xt (ok_al T) (hr.mono (by decide)) rfl T.g_al T.F_al.kp T.b_al .nil xj (xa (pv 1) (xa (xn) (xa (xae (pv 0) rfl) (xb))))))) (xcm (xbh (xa9 (xt (ok_al T) (hr.mono (by decide)) rfl T.g_al T.F_al.kp T.b_al .nil xj (xa (pv 2) (xa (xn) (xa (xae (pv 0) rfl) (xb)))))))))) (xm (xa3)) (x9)),?_⟩
  obtain⟨pic,x1,x2,y1,y2,q⟩:=h
  obtain⟨⟨dx,hp⟩,_,_⟩:=id pic
  exact⟨_,rfl,_,rfl,a,_,dx,_,_,rfl,hp,T.c_n,T.n_a5,lkW,x,1,pw,rfl,x1,x2,true,rfl,iteF ⟨_,rfl,_,rfl,a,_,dx,_,_,rfl,hp,T.c_n,T.n_a6,lkH,y,1,ph,rfl,y1,y2,true,rfl,iteF q⟩⟩
theorem ok_i (T:Txt w K mg t):FnOk true P w K mg base (CXo P w) 1 t.f_i t.d_i ["self"] (xt5 t):=by
 refine T.F_i.okn (k:=0) sc_i (fun vs H Q E h=>?_) (fun cdv A outer s H vs Q E hr h=>?_)
 .obtain ⟨a,dp,do_,pw,ph,ps,rfl,_⟩:=h
  rfl
 .obtain ⟨a,dp,do_,pw,ph,ps,rfl,h⟩:=h
  refine⟨_,xm (x0 (xqb (xbj rfl (xa1 (zs:=["name", "rest"]) (ys:=[]) (fr:=[]) (N0:=["self"]) (sc0:=xh s_i) (by decide +kernel) rfl rfl rfl) (xgx (xae (pv 0) rfl)) (fun _ _ _ _ _ ow nd=>(xat rfl (xq (xo (i:=0) nd rfl (Or.inl (ow _ (by simp))) (Or.inr (ow _ (by simp)))) (xq (xo (i:=1) nd rfl (Or.inl (ow _ (by simp))) (Or.inr (ow _ (by simp)))) (xak))):PG _ _ (gTup K 2 _))) (xdz (xbb (by decide) (xbb (by decide) (xc8)))) (fun _ _ _ _ _=>xbi) (fun _ _ _ _ _=>xx (r:=xmf K) xli (xab (xa (pv 0) (xb))) (pv 1))))),?_⟩
  obtain⟨pic,q⟩:=h
  obtain⟨⟨dx,hp⟩,⟨kvs,hk,pl⟩,_⟩:=id pic
  refine⟨_,rfl,a,_,dx,_,_,rfl,hp,T.c_n,T.n_a4,lkP,dp,kvs,rfl,hk,fun ob nf l hl=>?_⟩
  have nl:l≠dp:=fun z=>by
   rw[z,xf] at hl
   cases hl
  have hl0:H l=none:=by rwa [xg nl] at hl
  refine xc9 kvs.length (fun i xs H2=>∃ qs:List Addr,xs=qs.map V.ref/\qs.length<=i/\H2 dp=some (.frz ob (.dK kvs))/\(∀ b u,b≠dp->H b=some u->H2 b=some u)/\H2 l=some (.lst xs)/\PtsL H2 (ps.take i) qs) ?_ ?_ ?_ ?_
  .refine ⟨[],rfl,Nat.le_refl _,?_,fun b u nb e=>?_,xf,by simpa using PtsL.nil⟩
   .rw [xg (Ne.symm nl)]
    exact xf
   .rw [xg (xi e hl0),xg nb]
    exact e
  .rintro i xs H2 lt ⟨qs,_,_,hd,_⟩
   exact⟨hd,lt⟩
  .rintro i xs H2 v H3 lt ⟨qs,rfl,ql,hd,sm,hl2,pts⟩ ⟨p,k,x,hx,rfl,hpn,rfl⟩ N hN
   obtain⟨pt,q0,hpt,rfl,rfl,hq0⟩:=pl.get hx
   have e0:H2 q0=some (.tup (ptV pt)):=sm _ _ (x5 hq0 hk (fun z=>nomatch z)) hq0
   refine⟨p,_,rfl,SqT.of xf,rfl,_,_,rfl,_,_,rfl,rfl,?_⟩
   refine xub ?_
   have n0:q0≠p:=xi e0 hpn
   refine⟨_,rfl,(by show 1<=sizeLine; decide),fun p1 h1=>⟨_,rfl,p1,q0,_,ptV pt,rfl,rfl,SqT.of xf,SqT.of ?_,(by simp),(by show 1+5<=sizeLine; decide),(fun z=>nomatch z),fun _ p2 h2=>?_⟩⟩
   .rw [xg (xi (by rw[xg n0]; exact e0) h1),xg n0]
    exact e0
   have up:∀ b u,H2 b=some u->(upd (upd (upd H2 p (.tup [.str pt.nm,.ref q0])) p1 (.tup [.str pt.nm])) p2 (.tup ([.str pt.nm]++ptV pt))) b=some u:=fun b u e=>by
    have c1:b≠p:=xi e hpn
    have e1:upd H2 p (.tup [.str pt.nm,.ref q0]) b=some u:=by rw[xg c1]; exact e
    have c2:b≠p1:=xi e1 h1
    have e2:upd (upd H2 p (.tup [.str pt.nm,.ref q0])) p1 (.tup [.str pt.nm]) b=some u:=by rw[xg c2]; exact e1
    rw[xg (xi e2 h2)]
    exact e2
   have c3:l≠p2:=xi (show upd (upd H2 p (.tup [.str pt.nm,.ref q0])) p1 (.tup [.str pt.nm]) l=some (.lst (qs.map V.ref)) from by
    have c1:l≠p:=xi hl2 hpn
    have e1:upd H2 p (.tup [.str pt.nm,.ref q0]) l=some (.lst (qs.map V.ref)):=by rw[xg c1]; exact hl2
    rw[xg (xi e1 h1)]
    exact e1) h2
   have tk:ps.take (i+1)=ps.take i++[pt]:=by
    rw[List.take_add_one,hpt]
    rfl
   have ll:qs.length<sizeLine:=Nat.lt_trans (by have:=pl.len; have:=pic.len; omega:qs.length<13) (by decide)
   refine⟨up _ _ hl2,by rw[List.length_map]; exact ll,hN _ _ ⟨qs++[p2],by simp,by simp; omega,?_,fun b u nb e=>?_,xf,?_⟩⟩
   .rw [xg (Ne.symm nl)]
    exact up _ _ hd
   .have e2:=up _ _ (sm b u nb e)
    rw[xg (xi e hl0)]
    exact e2
   .rw [tk]
    refine PtsL.snoc (PtsL.keep (fun b xs e=>?_) pts) ?_
    .have e2:=up _ _ e
     rw[xg (x5 e2 (up _ _ hl2) (fun z=>nomatch z))]
     exact e2
    .rw [xg (Ne.symm c3)]
     exact xf
  .rintro xs H2 ⟨qs,rfl,_,hd,sm,hl2,pts⟩
   refine⟨⟨hd,Nat.le_refl _⟩,dp,ob,_,hd,nf,q _ l qs (fun b u e=>?_) ?_ (PtsL.keep (fun b xs e=>?_) (by rw[pl.len,List.take_length] at pts; exact pts))⟩
   .by_cases c:b=dp
    .subst c
     rw[hk] at e
     cases e
     exact xf
    .rw [xg c]
     exact sm b u c e
   .rw [xg nl]
    exact hl2
   .rw [xg (x5 e hd (fun z=>nomatch z))]
    exact e
theorem ok_a (T:Txt w K mg t):FnOk true P w K mg base (CXo P w) 2 t.f_a t.d_a ["self", "name", "x", "y"] (spCL t):=by
 refine T.F_a.okn (k:=1) sc_a (fun vs H Q E h=>?_) (fun cdv A outer s H vs Q E hr h=>?_)
 .obtain ⟨a,dp,do_,pw,ph,ps,nm,x,y,rfl,_⟩:=h
  rfl
 .obtain ⟨a,dp,do_,pw,ph,ps,nm,x,y,rfl,h⟩:=h
  refine⟨_,xk (xce rfl (xa1 (zs:=["other"]) (ys:=["name"]) (fr:=[1]) (N0:=["self", "name", "x", "y", "others", "other"]) (sc0:=xh s_a) (by decide +kernel) rfl rfl rfl) (xar (xba (pv 0) T.c_n T.m_i (ok_i T) (hr.mono (by decide)) T.b_i .nil xj)) (fun _ _ _ _ _ ow nd=>xo (i:=0) nd rfl (Or.inl (ow _ (by simp))) (Or.inr (ow _ (by simp)))) (xbe (by decide)) (fun _ _ _ _ _=>xer (xaa xej (xay (r:=rIxT K) xaz (pv 0) (xn) (fun _ _=>rfl)) (pv 1) (xaf _))) (fun _ _ _ _ _=>pv 0) (j:=4) rfl (Or.inl rfl))
   (xk (xa4 PassesOwn.never rfl (xar (pv 4)) (xo (i:=5) sc_a.nd rfl (Or.inl rfl)) (xm (xao (xaa xby (xay xaz (pv 5) (xn) (fun _ _=>rfl)) (pv 2) (xaf _)) (xm (xa3)) (x9))))
   (xm (xa4 PassesOwn.never rfl (xar (pv 4)) (xo (i:=5) sc_a.nd rfl (Or.inl rfl)) (xm (xao (xaa xby (xay xaz (pv 5) (xn) (fun _ _=>rfl)) (pv 3) (xaf _)) (xm (xa3)) (x9)))))),?_⟩
  obtain⟨pic,no,q⟩:=h
  obtain⟨⟨dx,hp⟩,⟨kvs,hk,pl⟩,_⟩:=id pic
  refine⟨_,rfl,a,dx,_,rfl,hp,xa8 (by decide +kernel),a,dp,do_,pw,ph,ps,rfl,pic,fun H1 l1 qs s1 hl1 pt1=>⟨l1,rfl,⟨_,SqL.of hl1⟩,fun l hl=>?_⟩⟩
  refine xc9 qs.length (fun i xs H2=>∃ os:List Addr,xs=os.map V.ref/\os.length<=i/\Same H1 H2/\H2 l=some (.lst xs)/\∀ o∈os,∃ p∈ps,p.nm≠nm/\H1 o=some (.tup (.str p.nm::ptV p))) ?_ ?_ ?_ ?_
  .exact ⟨[],rfl,Nat.le_refl _,xp (Same.refl _) hl,xf,fun o z=>nomatch z⟩
  .rintro i xs H2 lt ⟨os,_,_,s2,_⟩
   exact⟨_,.ref qs[i],SqL.of (s2 _ _ hl1),by simp[lt]⟩
  .rintro i xs H2 v H3 lt ⟨os,rfl,ol,s2,hl2,hos⟩ ⟨rfl,hv⟩ N hN
   have hv':=hv _ (SqL.of (s2 _ _ hl1))
   rw[List.getElem?_map] at hv'
   obtain⟨o,ho,rfl⟩:=Option.map_eq_some_iff.mp hv'
   obtain⟨p,hpp,ep⟩:=pt1.get ho
   refine⟨_,rfl,o,_,0,_,rfl,rfl,SqT.of (s2 _ _ ep),rfl,_,rfl,rfl,_,rfl,ite2 (fun c=>?_) (fun c=>?_)⟩
   .have cn:p.nm≠nm:=fun z=>by
     rw[z] at c
     simp at c
    refine⟨_,rfl,hl2,(by rw[List.length_map]; exact Nat.lt_trans (by have:=pt1.len; have:=pic.len; omega:os.length<13) (by decide)),hN _ _ ⟨os++[o],by simp,by simp; omega,?_,xf,?_⟩⟩
    .intro b u e
     by_cases cb:b=l
     .subst cb
      rw[e] at hl
      cases hl
     .rw [xg cb]
      exact s2 b u e
    .intro o' ho'
     rcases List.mem_append.mp ho' with z|z
     .exact hos o' z
     .have:=List.mem_singleton.mp z
      subst this
      exact⟨p,List.mem_of_getElem? hpp,cn,ep⟩
   .exact hN _ _ ⟨os,rfl,by omega,s2,hl2,hos⟩
  .rintro xs H2 ⟨os,rfl,ol,s2,hl2,hos⟩
   refine⟨⟨_,SqL.of (s2 _ _ hl1),by simp⟩,?_⟩
   have loop:∀(o:Addr),o∈os->∃ p∈ps,p.nm≠nm/\H2 o=some (.tup (.str p.nm::ptV p)):=fun o ho=>by
    obtain⟨p,h1,h2,h3⟩:=hos o ho
    exact⟨p,h1,h2,s2 _ _ h3⟩
   refine⟨_,rfl,l,rfl,⟨_,SqL.of hl2⟩,xa6 (xs:=os.map V.ref) (Pv:=fun i σ H3=>∃ v5:Option V,σ=[some (.ref a),some (.str nm),some (.int x),some (.int y),some (.ref l),v5]/\H2=H3) ⟨_,rfl,rfl⟩ (fun _ _ _ _ ⟨_,_,z⟩=>by rw[<- z]; exact SqL.of hl2) ?_ ?_⟩
   .rintro i v σ _ hv ⟨v5,rfl,rfl⟩
    rw[List.getElem?_map] at hv
    obtain⟨o,ho,rfl⟩:=Option.map_eq_some_iff.mp hv
    obtain⟨p,m1,m2,m3⟩:=loop o (List.mem_of_getElem? ho)
    refine⟨_,rfl,o,_,1,_,rfl,rfl,SqT.of m3,rfl,_,rfl,rfl,_,rfl,ifN (decide_eq_false fun z=>(no p m1 m2).1 (V.int.inj z)) ⟨_,rfl,rfl⟩⟩
   .rintro σ _ ⟨v5,rfl,rfl⟩
    refine⟨_,rfl,l,rfl,⟨_,SqL.of hl2⟩,xa6 (xs:=os.map V.ref) (Pv:=fun i σ H3=>∃ v5:Option V,σ=[some (.ref a),some (.str nm),some (.int x),some (.int y),some (.ref l),v5]/\H2=H3) ⟨_,rfl,rfl⟩ (fun _ _ _ _ ⟨_,_,z⟩=>by rw[<- z]; exact SqL.of hl2) ?_ ?_⟩
    .rintro i v σ _ hv ⟨v5,rfl,rfl⟩
     rw[List.getElem?_map] at hv
     obtain⟨o,ho,rfl⟩:=Option.map_eq_some_iff.mp hv
     obtain⟨p,m1,m2,m3⟩:=loop o (List.mem_of_getElem? ho)
     refine⟨_,rfl,o,_,2,_,rfl,rfl,SqT.of m3,rfl,_,rfl,rfl,_,rfl,ifN (decide_eq_false fun z=>(no p m1 m2).2 (V.int.inj z)) ⟨_,rfl,rfl⟩⟩
    .rintro σ _ ⟨v5,rfl,rfl⟩
     exact q _ (s1.trans s2)
theorem ok_c (T:Txt w K mg t):FnOk true P w K mg base (CXo P w) 4 t.f_c t.d_c ["self", "side", "row"] (spCS t):=by
 refine T.F_c.okn (k:=3) sc_c (fun vs H Q E h=>?_) (fun cdv A outer s H vs Q E hr h=>?_)
 .obtain ⟨a,dp,do_,pw,ph,ps,b,r,rfl,_⟩:=h
  rfl
 .obtain ⟨a,dp,do_,pw,ph,ps,b,r,rfl,h⟩:=h
  refine⟨_,xk (xaw (xt (ok_au T) (hr.mono (by decide)) rfl T.g_au T.F_au.kp T.b_au .nil xj (xa (pv 1) (xa (xae (pv 0) rfl) (xb)))))
   (xm (xao (xbh (xa9 (xt (ok_al T) (hr.mono (by decide)) rfl T.g_al T.F_al.kp T.b_al .nil xj (xa (pv 2) (xa (xn) (xa (xae (pv 0) rfl) (xb))))))) (xm (xa3)) (x9))),?_⟩
  obtain⟨pic,r1,r2,q⟩:=h
  obtain⟨⟨dx,hp⟩,_,_⟩:=id pic
  refine⟨_,rfl,_,rfl,a,_,dx,_,_,rfl,hp,T.c_n,T.n_a5,lkW,b,pw,rfl,fun p H1 hp1 sd1 s1=>?_⟩
  exact⟨_,rfl,_,rfl,a,_,dx,_,_,rfl,(s1 _ _ hp),T.c_n,T.n_a6,lkH,r,1,ph,rfl,r1,r2,true,rfl,iteF (q H1 s1)⟩
theorem ok_p (T:Txt w K mg t):FnOk true P w K mg base (CXo P w) 3 t.f_p t.d_p ["self", "name", "x", "y", "sides", "low", "high"] (xti t):=by
 refine T.F_p.okn (k:=2) sc_p (fun vs H Q E h=>?_) (fun cdv A outer s H vs Q E hr h=>?_)
 .obtain ⟨a,dp,do_,pw,ph,ps,nm,x,y,sd,lo,hi,hv,rfl,_⟩:=h
  rfl
 .obtain ⟨a,dp,do_,pw,ph,ps,nm,x,y,sd,lo,hi,hv,rfl,h⟩:=h
  refine⟨_,xk (x8 (i:=7) sc_p.nd rfl (Or.inl rfl) (xc7 (xaa xr9 (pv 6) (xsl) (xaf _)) (xae (pv 0) rfl) (pv 6)))
   (xk (xao (xbh (xa9 (xt (ok_ax T) (hr.mono (by decide)) rfl T.g_ax T.F_ax.kp T.b_ax .nil xj (xa (pv 1) (xb))))) (xm (xa3)) (x9))
   (xk (xaw (xa0 (pv 0) T.c_n T.m_d (ok_d T) (hr.mono (by decide)) T.b_d .nil xj (xa (pv 2) (xa (pv 3) (xb)))))
   (xk (xao (PW.pt (xcj (xbh (xa9 (x6 xbo rfl T.n_isinstance boot_isinstance (xa (pv 4) (xa (xb8 (v:=.ty "str") rfl T.n_str boot_str rfl) (xb)))))) (xcm (xd6 (xm1 (pv 4) rfl T.g_a2 T.D_a2))))) (xm (xa3)) (x9))
   (xk (xao (PW.pt (xcj (xbh (xa9 (xt (ok_al T) (hr.mono (by decide)) rfl T.g_al T.F_al.kp T.b_al .nil xj (xa (pv 5) (xa (xn) (xa (xae (pv 0) rfl) (xb))))))) (xcm (xbh (xa9 (xt (ok_al T) (hr.mono (by decide)) rfl T.g_al T.F_al.kp T.b_al .nil xj (xa (pv 7) (xa (pv 5) (xa (xae (pv 0) rfl) (xb)))))))))) (xm (xa3)) (x9))
   (xk (xao (xd6 (xg0 (xbc hr) (pv 1) (xae (pv 0) rfl))) (xm (xa3)) (x9))
   (xk (xao (xaa xtl (x6 xih rfl T.n_len boot_len (xa (xae (pv 0) rfl) (xb))) (xct (v:=.int 12) rfl T.v_bd.choose_spec ⟨_,rfl⟩) (xaf _)) (xm (xa3)) (x9))
   (xk (xaw (xa0 (pv 0) T.c_n T.m_a (ok_a T) (hr.mono (by decide)) T.b_a .nil xj (xa (pv 1) (xa (pv 2) (xa (pv 3) (xb))))))
   (xm (xb7 (xbc hr) (xae (pv 0) rfl) (pv 1) (xab (xa (pv 2) (xa (pv 3) (xa (pv 4) (xa (pv 5) (xa (pv 7) (xb))))))) rfl))))))))),?_⟩
  obtain⟨pic,hhv,hn,x1,x2,y1,y2,hsd,l1,l2,l3,no,len,q⟩:=h
  obtain⟨⟨dx,hp⟩,⟨kvs,hk,pl⟩,_⟩:=id pic
  have hsd':(valV ([(Sum.inr "left",V.str "right"),(Sum.inr "right",V.str "left"),(Sum.inr "both",V.str "both")]:List (Key × V)) (Sum.inr sd)).isSome=true:=by
   rcases hsd with rfl|rfl|rfl<;>decide +kernel
  rcases hhv with⟨rfl,e⟩|rfl
  .obtain rfl:=e.symm
   refine⟨_,rfl,rfl,_,rfl,ifP (by rfl) ⟨_,rfl,a,_,dx,_,_,rfl,hp,T.c_n,T.n_a6,lkH,?_⟩⟩
   refine⟨_,rfl,nm,rfl,hn,true,rfl,iteF ?_⟩
   refine⟨_,rfl,a,dx,_,rfl,hp,xa8 (by decide +kernel),_,rfl,_,rfl,a,dp,do_,pw,ph,ps,x,y,rfl,pic,x1,x2,y1,y2,?_⟩
   refine⟨_,rfl,_,_,rfl,.inl ⟨_,_,true,.str _,rfl,xbq,true,rfl,iteF ⟨_,rfl,.inr sd,rfl,false,(by rw[hsd']; rfl),iteF ?_⟩⟩⟩
   refine⟨_,rfl,_,rfl,a,_,dx,_,_,rfl,hp,T.c_n,T.n_a6,lkH,lo,1,ph,rfl,l1,(by omega),true,rfl,iteF ⟨_,rfl,_,rfl,_,rfl,a,_,dx,_,_,rfl,hp,T.c_n,T.n_a6,lkH,ph,lo,ph,rfl,(by omega),(by omega),true,rfl,iteF ?_⟩⟩
   refine⟨_,rfl,_,rfl,a,_,dx,_,_,rfl,hp,T.c_n,T.n_a4,lkP,dp,none,rfl,(by rw[<- pl.no (nm:=nm) (fun p hp=>(no p hp).1)]; exact DGet.k (k:=.inr nm) hk),false,rfl,iteF ?_⟩
   refine⟨_,rfl,a,_,dx,_,_,rfl,hp,T.c_n,T.n_a4,lkP,dp,kvs,rfl,hk,_,_,rfl,rfl,_,rfl,ifN (decide_eq_false (by have:=pl.len; omega)) ?_⟩
   refine⟨_,rfl,a,dx,_,rfl,hp,xa8 (by decide +kernel),_,rfl,_,rfl,_,rfl,a,dp,do_,pw,ph,ps,nm,x,y,rfl,pic,fun p hp _=>(no p hp).2,fun H1 s1=>?_⟩
   refine⟨_,rfl,_,rfl,_,rfl,_,rfl,_,rfl,(by show 5<=sizeLine; decide),fun q1 hq1=>?_⟩
   have hp1:upd H1 q1 (.tup [.int x,.int y,.str sd,.int lo,.int ph]) a=some (.ins t.C_n dx (picF pw ph dp do_)):=by rw[xg (xi (s1 _ _ hp) hq1)]; exact s1 _ _ hp
   have hk1:upd H1 q1 (.tup [.int x,.int y,.str sd,.int lo,.int ph]) dp=some (.dK kvs):=by rw[xg (xi (s1 _ _ hk) hq1)]; exact s1 _ _ hk
   refine⟨_,rfl,a,_,dx,_,_,rfl,hp1,T.c_n,T.n_a4,lkP,_,rfl,dp,_,rfl,DPut.k (k:=.inr nm) hk1 (Nat.lt_trans (by have:=pl.len; omega:kvs.length<12) (by decide)),?_⟩
   rw[xdd (.ref q1) (pl.no (nm:=nm) (fun p hp=>(no p hp).1))]
   have nq:q1≠dp:=fun z=>by
    subst z
    rw[s1 _ _ hk] at hq1
    cases hq1
   refine q _ (fun b u nb e=>?_) ⟨⟨dx,?_⟩,⟨_,xf,Pl.snoc (p:=⟨nm,x,y,sd,lo,ph⟩) (pl.keep (fun b xs e=>?_)) ?_⟩,pic.w1,pic.w2,pic.h1,pic.h2,(by rw[List.length_append]; exact len)⟩
   .rw [xg nb,xg (xi (s1 _ _ e) hq1)]
    exact s1 _ _ e
   .rw [xg (x5 hp1 hk1 (fun z=>nomatch z))]
    exact hp1
   .have e':=s1 _ _ e
    rw[xg (x5 e' (s1 _ _ hk) (fun z=>nomatch z)),xg (xi e' hq1)]
    exact e'
   .rw [xg nq]
    exact xf
  .refine ⟨_,rfl,rfl,_,rfl,ifN (by rfl) ⟨_,rfl,?_⟩⟩
   refine⟨_,rfl,nm,rfl,hn,true,rfl,iteF ?_⟩
   refine⟨_,rfl,a,dx,_,rfl,hp,xa8 (by decide +kernel),_,rfl,_,rfl,a,dp,do_,pw,ph,ps,x,y,rfl,pic,x1,x2,y1,y2,?_⟩
   refine⟨_,rfl,_,_,rfl,.inl ⟨_,_,true,.str _,rfl,xbq,true,rfl,iteF ⟨_,rfl,.inr sd,rfl,false,(by rw[hsd']; rfl),iteF ?_⟩⟩⟩
   refine⟨_,rfl,_,rfl,a,_,dx,_,_,rfl,hp,T.c_n,T.n_a6,lkH,lo,1,ph,rfl,l1,(by omega),true,rfl,iteF ⟨_,rfl,_,rfl,_,rfl,a,_,dx,_,_,rfl,hp,T.c_n,T.n_a6,lkH,hi,lo,ph,rfl,(by omega),(by omega),true,rfl,iteF ?_⟩⟩
   refine⟨_,rfl,_,rfl,a,_,dx,_,_,rfl,hp,T.c_n,T.n_a4,lkP,dp,none,rfl,(by rw[<- pl.no (nm:=nm) (fun p hp=>(no p hp).1)]; exact DGet.k (k:=.inr nm) hk),false,rfl,iteF ?_⟩
   refine⟨_,rfl,a,_,dx,_,_,rfl,hp,T.c_n,T.n_a4,lkP,dp,kvs,rfl,hk,_,_,rfl,rfl,_,rfl,ifN (decide_eq_false (by have:=pl.len; omega)) ?_⟩
   refine⟨_,rfl,a,dx,_,rfl,hp,xa8 (by decide +kernel),_,rfl,_,rfl,_,rfl,a,dp,do_,pw,ph,ps,nm,x,y,rfl,pic,fun p hp _=>(no p hp).2,fun H1 s1=>?_⟩
   refine⟨_,rfl,_,rfl,_,rfl,_,rfl,_,rfl,(by show 5<=sizeLine; decide),fun q1 hq1=>?_⟩
   have hp1:upd H1 q1 (.tup [.int x,.int y,.str sd,.int lo,.int hi]) a=some (.ins t.C_n dx (picF pw ph dp do_)):=by rw[xg (xi (s1 _ _ hp) hq1)]; exact s1 _ _ hp
   have hk1:upd H1 q1 (.tup [.int x,.int y,.str sd,.int lo,.int hi]) dp=some (.dK kvs):=by rw[xg (xi (s1 _ _ hk) hq1)]; exact s1 _ _ hk
   refine⟨_,rfl,a,_,dx,_,_,rfl,hp1,T.c_n,T.n_a4,lkP,_,rfl,dp,_,rfl,DPut.k (k:=.inr nm) hk1 (Nat.lt_trans (by have:=pl.len; omega:kvs.length<12) (by decide)),?_⟩
   rw[xdd (.ref q1) (pl.no (nm:=nm) (fun p hp=>(no p hp).1))]
   have nq:q1≠dp:=fun z=>by
    subst z
    rw[s1 _ _ hk] at hq1
    cases hq1
   refine q _ (fun b u nb e=>?_) ⟨⟨dx,?_⟩,⟨_,xf,Pl.snoc (p:=⟨nm,x,y,sd,lo,hi⟩) (pl.keep (fun b xs e=>?_)) ?_⟩,pic.w1,pic.w2,pic.h1,pic.h2,(by rw[List.length_append]; exact len)⟩
   .rw [xg nb,xg (xi (s1 _ _ e) hq1)]
    exact s1 _ _ e
   .rw [xg (x5 hp1 hk1 (fun z=>nomatch z))]
    exact hp1
   .have e':=s1 _ _ e
    rw[xg (x5 e' (s1 _ _ hk) (fun z=>nomatch z)),xg (xi e' hq1)]
    exact e'
   .rw [xg nq]
    exact xf
theorem ok_e (T:Txt w K mg t):FnOk true P w K mg base (CXo P w) 3 t.f_e t.d_e ["self", "name"] (xtf t):=by
 refine T.F_e.okn (k:=2) sc_e (fun vs H Q E h=>?_) (fun cdv A outer s H vs Q E hr h=>?_)
 .obtain ⟨a,dp,do_,pw,ph,ps,nm,pt,rfl,_⟩:=h
  rfl
 .obtain ⟨a,dp,do_,pw,ph,ps,nm,pt,rfl,h⟩:=h
  refine⟨_,xk (xaw (xa0 (pv 0) T.c_n T.m_b (ok_b T) (hr.mono (by decide)) T.b_b .nil xj (xa (pv 1) (xb))))
   (xm (x0 (xi6 xs3 (xev (xbc hr) (xae (pv 0) rfl) (pv 1) (fun _ _=>rfl)) xq8 (xhx (xn))))),?_⟩
  obtain⟨pic,hn,hf,q⟩:=h
  obtain⟨⟨dx,hp⟩,⟨kvs,hk,pl⟩,_⟩:=id pic
  obtain⟨q0,e,hq0⟩:=pl.find hf
  refine⟨_,rfl,a,dx,_,rfl,hp,xa8 (by decide +kernel),_,rfl,a,dp,do_,pw,ph,ps,nm,pt,rfl,pic,hn,hf,?_⟩
  exact⟨_,rfl,a,_,dx,_,_,rfl,hp,T.c_n,T.n_a4,lkP,_,rfl,dp,.ref q0,rfl,(by rw[<- e]; exact DGet.k (k:=.inr nm) hk),2,rfl,q0,ptV pt,rfl,SqT.of hq0,(fun z=>absurd z.2 (by show ¬ ((2:Nat)=5); decide)),fun p hp'=>q _ p (xp (Same.refl _) hp') xf⟩
theorem ok_o (T:Txt w K mg t):FnOk true P w K mg base (CXo P w) 5 t.f_o t.d_o ["self", "name", "side", "row"] (xt3 t):=by
 refine T.F_o.okn (k:=4) sc_o (fun vs H Q E h=>?_) (fun cdv A outer s H vs Q E hr h=>?_)
 .obtain ⟨a,dp,do_,pw,ph,ps,nm,pt,b,r,rfl,_⟩:=h
  rfl
 .obtain ⟨a,dp,do_,pw,ph,ps,nm,pt,b,r,rfl,h⟩:=h
  refine⟨_,xk (xd3 (xa0 (pv 0) T.c_n T.m_e (ok_e T) (hr.mono (by decide)) T.b_e .nil xj (xa (pv 1) (xb))) (xat rfl (xq (xo (i:=4) sc_o.nd rfl (Or.inl rfl)) (xq (xo (i:=5) sc_o.nd rfl (Or.inl rfl)) (xak)))))
   (xk (xaw (xa0 (pv 0) T.c_n T.m_c (ok_c T) (hr.mono (by decide)) T.b_c .nil xj (xa (pv 2) (xa (pv 3) (xb)))))
   (xm (x0 (xx xap (xep (xa0 (xt (ok_au T) (hr.mono (by decide)) rfl T.g_au T.F_au.kp T.b_au .nil xj (xa (pv 2) (xa (xae (pv 0) rfl) (xb)))) T.c_aw T.m_l (ok_l T) (hr.mono (by decide)) T.b_l .nil xj (xa (pv 4) (xb))) (xa0 (xt (ok_au T) (hr.mono (by decide)) rfl T.g_au T.F_au.kp T.b_au .nil xj (xa (pv 2) (xa (xae (pv 0) rfl) (xb)))) T.c_ak T.m_h (ok_h T) (hr.mono (by decide)) T.b_h .nil xj (xa (pv 4) (xb)))) (x6 xok rfl T.n_abs boot_abs (xa (xx xfr (pv 5) (pv 3)) (xb))))))),?_⟩
  obtain⟨pic,hn,hf,r1,r2,q⟩:=h
  obtain⟨⟨dx,hp⟩,_,_⟩:=id pic
  refine⟨_,rfl,a,dx,_,rfl,hp,xa8 (by decide +kernel),_,rfl,a,dp,do_,pw,ph,ps,nm,pt,rfl,pic,hn,hf,fun H1 q1 s1 hq1=>⟨q1,_,rfl,SqT.of hq1,rfl,_,_,rfl,_,_,rfl,rfl,?_⟩⟩
  refine⟨_,rfl,a,dx,_,rfl,s1 _ _ hp,xa8 (by decide +kernel),_,rfl,_,rfl,a,dp,do_,pw,ph,ps,b,r,rfl,Pic.same s1 pic,r1,r2,fun H2 s2=>?_⟩
  cases b with
  | true =>
   refine .inl ⟨_,rfl,_,rfl,a,_,dx,_,_,rfl,(s2 _ _ (s1 _ _ hp)),T.c_n,T.n_a5,lkW,true,pw,rfl,fun p H3 hp3 sd3 s3=>?_⟩
   obtain⟨ds,hs⟩:=sd3
   exact⟨p,ds,_,rfl,hs,(by rw[List.lookup_cons,show (("across":Str) == "width")=false from by decide +kernel]; rfl),_,rfl,_,_,rfl,_,rfl,_,rfl,_,_,rfl,rfl,_,rfl,_,_,rfl,rfl,q H3 ((s1.trans s2).trans s3)⟩
  | false =>
   refine .inr ⟨_,rfl,_,rfl,a,_,dx,_,_,rfl,(s2 _ _ (s1 _ _ hp)),T.c_n,T.n_a5,lkW,false,pw,rfl,fun p H3 hp3 sd3 s3=>?_⟩
   obtain⟨ds,hs⟩:=id sd3
   exact⟨p,ds,_,rfl,hs,(by rw[List.lookup_cons,show (("across":Str) == "width")=false from by decide +kernel]; rfl),_,rfl,p,pw,_,rfl,sd3,_,rfl,_,rfl,_,_,rfl,rfl,_,rfl,_,_,rfl,rfl,q H3 ((s1.trans s2).trans s3)⟩
end
inductive xas (H:Hp):List (Int × Int)->List Addr->Prop
 | nil:xas H [] []
 | cons {c:Int × Int}{q:Addr}{cs:List (Int × Int)}{qs:List Addr} (h:H q=some (.tup [.int c.1,.int c.2])) (r:xas H cs qs):xas H (c::cs) (q::qs)
theorem xas.keep {H H':Hp} (s:Tups H H') {cs:List (Int × Int)}{qs:List Addr} (h:xas H cs qs):xas H' cs qs:=by
 induction h with
 | nil=>exact .nil
 | cons h _ ih=>exact .cons (s _ _ h) ih
theorem xas.len {H:Hp}{cs:List (Int × Int)}{qs:List Addr} (h:xas H cs qs):qs.length=cs.length:=by
 induction h with
 | nil=>rfl
 | cons _ _ ih=>simp[ih]
theorem xas.get {H:Hp}{cs:List (Int × Int)}{qs:List Addr} (h:xas H cs qs) {i:Nat}{q:Addr} (e:qs[i]?=some q):∃ c,cs[i]?=some c/\H q=some (.tup [.int c.1,.int c.2]):=by
 induction h generalizing i with
 | nil=>simp at e
 | @cons c q' cs qs h _ ih =>
  cases i with
  | zero =>
   simp at e
   subst e
   exact⟨c,rfl,h⟩
  | succ j=>exact ih (by simpa using e)
theorem xas.append {H:Hp}{cs ds:List (Int × Int)}{qs rs:List Addr} (h:xas H cs qs) (h':xas H ds rs):xas H (cs++ds) (qs++rs):=by
 induction h with
 | nil=>exact h'
 | cons h _ ih=>exact .cons h ih
theorem xas.snoc {H:Hp}{cs:List (Int × Int)}{qs:List Addr} (h:xas H cs qs) {c:Int × Int}{q:Addr} (e:H q=some (.tup [.int c.1,.int c.2])):xas H (cs++[c]) (qs++[q]):=h.append (.cons e .nil)
theorem xbw {σ:L2.St}{fr:List Nat}{te:TE}{l:Addr}{H1:Hp}{Q:VK}{lo d:Int}{n:Nat} (f:Nat->Int × Int) (hl:H1 l=none) (hn:n<1000)
    (hte:∀(i:Nat) (H2:Hp) (R:VK),i<n->(∀ p,H2 p=none->R (.ref p) (upd H2 p (.tup [.int (f i).1,.int (f i).2])))->te ((blk0 σ fr 1).set 0 (some (.int (lo+(i:Int)*d)))) H2 R)
    (fin:∀(H2:Hp) (qs:List Addr),Same H1 H2->H2 l=some (.lst (qs.map V.ref))->xas H2 ((List.range n).map f) qs->Q (.ref l) H2):xc2 (Itrs lo d n) 1 (xeg 0) σ fr xdf te l H1 Q:=by
  refine xc9 n (fun i xs H2=>∃ qs:List Addr,xs=qs.map V.ref/\qs.length<=i/\Same H1 H2/\H2 l=some (.lst xs)/\xas H2 ((List.range i).map f) qs) ?_ ?_ ?_ ?_
  . exact⟨[],rfl,Nat.le_refl _,xp (Same.refl _) hl,xf,.nil⟩
  . rintro i xs H2 lt _
    exact lt
  . rintro i xs H2 v H3 lt ⟨qs,rfl,ql,s2,hl2,cl⟩ ⟨rfl,rfl⟩ N hN
    refine xtb ?_
    refine hte i _ _ lt fun p hp=>⟨?_,?_,hN _ _ ⟨qs++[p],by simp,by simp; omega,?_,xf,?_⟩⟩
    . rw[xg (xi hl2 hp)]
      exact hl2
    . rw[List.length_map]
      exact Nat.lt_of_le_of_lt ql (Nat.lt_trans lt (Nat.lt_of_lt_of_le hn (by decide)))
    . intro b u e
      have nb:b≠l:=xi e hl
      rw[xg nb,xg (xi (s2 _ _ e) hp)]
      exact s2 _ _ e
    . rw[List.range_succ,List.map_append]
      refine xas.snoc (xas.keep (fun b xs e=>?_) cl) ?_
      . rw[xg (x5 e hl2 (fun z=>nomatch z)),xg (xi e hp)]
        exact e
      . rw[xg (Ne.symm (xi hl2 hp))]
        exact xf
  . rintro xs H2 ⟨qs,rfl,_,s2,hl2,cl⟩
    exact⟨Nat.le_refl _,fin H2 qs s2 hl2 cl⟩
def xre (t:Adr):Sp:=fun vs H Q _=>∃(a dp do_:Addr) (pw ph:Int) (ps:List Pt) (nm:Str) (pt:Pt) (b:Bool) (r:Int),vs=[.ref a,.str nm,.str (xai b),.int r]/\Pic t H a dp do_ pw ph ps/\isNm nm=true/\ps.find? (fun p=>decide (p.nm=nm))=some pt/\1<=r/\r<=ph /\
 (1<=pt.x/\pt.x<=pw/\1<=pt.y/\pt.y<=ph)/\∀ H' l qs,Same H H'->H' l=some (.lst (qs.map V.ref))->xas H' (Geo.cells pw pt.x pt.y b r) qs->qs.length<100->Q (.ref l) H'
section
variable {P:Program}{w:World}{K:PySem.W.Frag}{mg:Str->Option Value}{base:Heap}{t:Adr}
theorem lno {m:Str}{v:V} (h:(m == ("width":Str))=false):([("width",v)]:List (Str × V)).lookup m=none:=by
 rw[List.lookup_cons,h]
 rfl
theorem ok_ay (T:Txt w K mg t):FnOk true P w K mg base (CXo P w) 6 t.f_ay t.d_ay ["picture", "name", "side", "row"] (xre t):=by
 refine T.F_ay.okn (k:=5) sc_ay (fun vs H Q E h=>?_) (fun cdv A outer s H vs Q E hr h=>?_)
 .obtain ⟨a,dp,do_,pw,ph,ps,nm,pt,b,r,rfl,_⟩:=h
  rfl
 .obtain ⟨a,dp,do_,pw,ph,ps,nm,pt,b,r,rfl,h⟩:=h
  refine⟨_,xk (xaw (xa0 (pv 0) T.c_n T.m_o (ok_o T) (hr.mono (by decide)) T.b_o .nil xj (xa (pv 1) (xa (pv 2) (xa (pv 3) (xb))))))
   (xk (xd3 (xa0 (pv 0) T.c_n T.m_e (ok_e T) (hr.mono (by decide)) T.b_e .nil xj (xa (pv 1) (xb))) (xat rfl (xq (xo (i:=4) sc_ay.nd rfl (Or.inr rfl)) (xq (xo (i:=5) sc_ay.nd rfl (Or.inl rfl)) (xak)))))
   (xk (x8 (i:=6) sc_ay.nd rfl (Or.inl rfl) (xt (ok_au T) (hr.mono (by decide)) rfl T.g_au T.F_au.kp T.b_au .nil xj (xa (pv 2) (xa (xae (pv 0) rfl) (xb)))))
   (xk (x8 (i:=7) sc_ay.nd rfl (Or.inl rfl) (xc7 (xaa xi3 (pv 5) (pv 3) (xaf _)) (xn) (xp1 xmz (xn))))
   (xk (xce rfl (xa1 (zs:=["at"]) (ys:=["x"]) (fr:=[4]) (N0:=["picture", "name", "side", "row", "x", "y", "toward", "down", "upright", "level"]) (sc0:=xh s_ay) (by decide +kernel) rfl rfl rfl) (xie rfl T.n_range (xa (pv 5) (xa (pv 3) (xa (pv 7) (xb))))) (fun _ _ _ _ _ ow nd=>xo (i:=0) nd rfl (Or.inl (ow _ (by simp))) (Or.inr (ow _ (by simp)))) (xbe (by decide)) (fun _ _ _ _ _=>xbi) (fun _ _ _ _ _=>xab (xa (pv 1) (xa (pv 0) (xb)))) (j:=8) rfl (Or.inl rfl))
   (xk (xce rfl (xa1 (zs:=["at"]) (ys:=["row"]) (fr:=[3]) (N0:=["picture", "name", "side", "row", "x", "y", "toward", "down", "upright", "level"]) (sc0:=xh s_ay) (by decide +kernel) rfl rfl rfl) (xie rfl T.n_range (xa (pv 4) (xa (xx xap (xep (xba (pv 6) T.c_aw T.m_w (ok_w T) (hr.mono (by decide)) T.b_w .nil xj) (xba (pv 6) T.c_ak T.m_q (ok_q T) (hr.mono (by decide)) T.b_q .nil xj)) (xep (xba (pv 6) T.c_aw T.m_y (ok_y T) (hr.mono (by decide)) T.b_y .nil xj) (xba (pv 6) T.c_ak T.m_r (ok_r T) (hr.mono (by decide)) T.b_r .nil xj))) (xa (xep (xba (pv 6) T.c_aw T.m_y (ok_y T) (hr.mono (by decide)) T.b_y .nil xj) (xba (pv 6) T.c_ak T.m_r (ok_r T) (hr.mono (by decide)) T.b_r .nil xj)) (xb))))) (fun _ _ _ _ _ ow nd=>xo (i:=0) nd rfl (Or.inl (ow _ (by simp))) (Or.inr (ow _ (by simp)))) (xbe (by decide)) (fun _ _ _ _ _=>xbi) (fun _ _ _ _ _=>xab (xa (pv 0) (xa (pv 1) (xb)))) (j:=9) rfl (Or.inl rfl))
   (xm (x0 (xx xhk (pv 8) (pv 9))))))))),?_⟩
  obtain⟨pic,hn,hf,r1,r2,⟨x1,x2,y1,y2⟩,q⟩:=h
  obtain⟨⟨dx,hp⟩,_,w1,w2,h1,h2,_⟩:=id pic
  by_cases hd:pt.y<r<;>cases b
  .-- down right
   refine⟨_,rfl,a,dx,_,rfl,hp,xa8 (by decide +kernel),_,rfl,_,rfl,_,rfl,a,dp,do_,pw,ph,ps,nm,pt,false,r,rfl,pic,hn,hf,r1,r2,fun H1 s1=>?_⟩
   refine⟨_,rfl,a,dx,_,rfl,s1 _ _ hp,xa8 (by decide +kernel),_,rfl,a,dp,do_,pw,ph,ps,nm,pt,rfl,Pic.same s1 pic,hn,hf,fun H2 q2 s2 hq2=>⟨q2,_,rfl,SqT.of hq2,rfl,_,_,rfl,_,_,rfl,rfl,?_⟩⟩
   refine⟨_,rfl,_,rfl,a,_,dx,_,_,rfl,(s2 _ _ (s1 _ _ hp)),T.c_n,T.n_a5,lkW,false,pw,rfl,fun p H3 hp3 sd3 s3=>?_⟩
   refine⟨_,rfl,_,rfl,_,_,rfl,rfl,_,rfl,ifP (decide_eq_true hd) ?_⟩
   refine⟨_,rfl,_,rfl,_,rfl,pt.y,r,1,rfl,⟨by omega,by omega,by omega,by omega⟩,.inl ⟨rfl,fun l1 hl1=>?_⟩⟩
   refine xbw (fun i=>(pt.x,pt.y+(i:Int)*1)) hl1 (by omega) (fun i H R _ k=>⟨_,rfl,_,rfl,(by show 2<=sizeLine; decide),k⟩) fun H4 qs1 s4 hu4 cu4=>?_
   obtain⟨ds,hs⟩:=id sd3
   have hs4:H4 p=some (.ins t.C_ak ds [("width",.int pw)]):=s4 _ _ hs
   have sd4:xd4 t H4 p false pw:=⟨ds,hs4⟩
   refine⟨_,rfl,.inr ⟨_,rfl,p,ds,_,rfl,hs4,lno (by decide +kernel),p,pw,rfl,sd4,.inr ⟨_,rfl,p,ds,_,rfl,hs4,lno (by decide +kernel),_,rfl,_,_,rfl,rfl,.inr ⟨_,rfl,p,ds,_,rfl,hs4,lno (by decide +kernel),_,rfl,pt.x,_,1,rfl,⟨by omega,by omega,by omega,by omega⟩,.inl ⟨rfl,fun l2 hl2=>?_⟩⟩⟩⟩⟩
   refine xbw (fun i=>(pt.x+(i:Int)*1,r)) hl2 (by omega) (fun i H R _ k=>⟨_,rfl,_,rfl,(by show 2<=sizeLine; decide),k⟩) fun H5 qs2 s5 hu5 cu5=>?_
   have c1:xas H5 (Geo.upL pt.x pt.y r) qs1:=by
    have e:Geo.upL pt.x pt.y r=(List.range (r-pt.y).toNat).map fun (i:Nat)=>(pt.x,pt.y+(i:Int)*1):=by unfold Geo.upL Geo.upN Geo.dn; rw[if_pos hd,if_pos hd]
    rw[e]
    exact cu4.keep (Same.tups s5)
   have c2:xas H5 (Geo.lvL pw pt.x false r) qs2:=by
    have e:Geo.lvL pw pt.x false r=(List.range (pw+1+1-pt.x).toNat).map fun (i:Nat)=>(pt.x+(i:Int)*1,r):=by
     unfold Geo.lvL Geo.lvN Geo.wayI
     simp only[if_true,Bool.false_eq_true,if_false]
     rw[show (pw+2-pt.x).toNat=(pw+1+1-pt.x).toNat from by omega]
    rw[e]
    exact cu5
   have l1':=c1.len
   have l2':=c2.len
   have b1:(Geo.upL pt.x pt.y r).length<17:=by unfold Geo.upL Geo.upN; rw[List.length_map,List.length_range]; split<;>omega
   have b2:(Geo.lvL pw pt.x false r).length<33:=by unfold Geo.lvL Geo.lvN; rw[List.length_map,List.length_range]; split<;>omega
   refine⟨_,rfl,_,rfl,l1,l2,_,_,rfl,rfl,s5 _ _ hu4,hu5,(by rw[List.length_map,List.length_map]; exact Nat.le_of_lt (Nat.lt_trans (by omega:qs1.length+qs2.length<100) (by decide))),fun p6 hp6=>?_⟩
   refine q _ p6 (qs1++qs2) (xp (((s1.trans s2).trans s3).trans (s4.trans s5)) hp6) (by rw[List.map_append]; exact xf) ((c1.append c2).keep (Same.tups (xp (Same.refl _) hp6))) (by rw[List.length_append]; omega)
  .-- down left
   refine⟨_,rfl,a,dx,_,rfl,hp,xa8 (by decide +kernel),_,rfl,_,rfl,_,rfl,a,dp,do_,pw,ph,ps,nm,pt,true,r,rfl,pic,hn,hf,r1,r2,fun H1 s1=>?_⟩
   refine⟨_,rfl,a,dx,_,rfl,s1 _ _ hp,xa8 (by decide +kernel),_,rfl,a,dp,do_,pw,ph,ps,nm,pt,rfl,Pic.same s1 pic,hn,hf,fun H2 q2 s2 hq2=>⟨q2,_,rfl,SqT.of hq2,rfl,_,_,rfl,_,_,rfl,rfl,?_⟩⟩
   refine⟨_,rfl,_,rfl,a,_,dx,_,_,rfl,(s2 _ _ (s1 _ _ hp)),T.c_n,T.n_a5,lkW,true,pw,rfl,fun p H3 hp3 sd3 s3=>?_⟩
   refine⟨_,rfl,_,rfl,_,_,rfl,rfl,_,rfl,ifP (decide_eq_true hd) ?_⟩
   refine⟨_,rfl,_,rfl,_,rfl,pt.y,r,1,rfl,⟨by omega,by omega,by omega,by omega⟩,.inl ⟨rfl,fun l1 hl1=>?_⟩⟩
   refine xbw (fun i=>(pt.x,pt.y+(i:Int)*1)) hl1 (by omega) (fun i H R _ k=>⟨_,rfl,_,rfl,(by show 2<=sizeLine; decide),k⟩) fun H4 qs1 s4 hu4 cu4=>?_
   obtain⟨ds,hs⟩:=id sd3
   have hs4:H4 p=some (.ins t.C_aw ds [("width",.int pw)]):=s4 _ _ hs
   have sd4:xd4 t H4 p true pw:=⟨ds,hs4⟩
   refine⟨_,rfl,.inl ⟨_,rfl,p,ds,_,rfl,hs4,lno (by decide +kernel),_,rfl,.inl ⟨_,rfl,p,ds,_,rfl,hs4,lno (by decide +kernel),_,rfl,_,_,rfl,rfl,.inl ⟨_,rfl,p,ds,_,rfl,hs4,lno (by decide +kernel),_,rfl,pt.x,_,(-1),rfl,⟨by omega,by omega,by omega,by omega⟩,.inr ⟨rfl,fun l2 hl2=>?_⟩⟩⟩⟩⟩
   refine xbw (fun i=>(pt.x+(i:Int)*(-1),r)) hl2 (by omega) (fun i H R _ k=>⟨_,rfl,_,rfl,(by show 2<=sizeLine; decide),k⟩) fun H5 qs2 s5 hu5 cu5=>?_
   have c1:xas H5 (Geo.upL pt.x pt.y r) qs1:=by
    have e:Geo.upL pt.x pt.y r=(List.range (r-pt.y).toNat).map fun (i:Nat)=>(pt.x,pt.y+(i:Int)*1):=by unfold Geo.upL Geo.upN Geo.dn; rw[if_pos hd,if_pos hd]
    rw[e]
    exact cu4.keep (Same.tups s5)
   have c2:xas H5 (Geo.lvL pw pt.x true r) qs2:=by
    have e:Geo.lvL pw pt.x true r=(List.range (pt.x-(0+-1)).toNat).map fun (i:Nat)=>(pt.x+(i:Int)*(-1),r):=by
     unfold Geo.lvL Geo.lvN Geo.wayI
     simp only[if_true,Bool.false_eq_true,if_false]
     rw[show (pt.x+1).toNat=(pt.x-(0+-1)).toNat from by omega]
    rw[e]
    exact cu5
   have l1':=c1.len
   have l2':=c2.len
   have b1:(Geo.upL pt.x pt.y r).length<17:=by unfold Geo.upL Geo.upN; rw[List.length_map,List.length_range]; split<;>omega
   have b2:(Geo.lvL pw pt.x true r).length<33:=by unfold Geo.lvL Geo.lvN; rw[List.length_map,List.length_range]; split<;>omega
   refine⟨_,rfl,_,rfl,l1,l2,_,_,rfl,rfl,s5 _ _ hu4,hu5,(by rw[List.length_map,List.length_map]; exact Nat.le_of_lt (Nat.lt_trans (by omega:qs1.length+qs2.length<100) (by decide))),fun p6 hp6=>?_⟩
   refine q _ p6 (qs1++qs2) (xp (((s1.trans s2).trans s3).trans (s4.trans s5)) hp6) (by rw[List.map_append]; exact xf) ((c1.append c2).keep (Same.tups (xp (Same.refl _) hp6))) (by rw[List.length_append]; omega)
  .-- up right
   refine⟨_,rfl,a,dx,_,rfl,hp,xa8 (by decide +kernel),_,rfl,_,rfl,_,rfl,a,dp,do_,pw,ph,ps,nm,pt,false,r,rfl,pic,hn,hf,r1,r2,fun H1 s1=>?_⟩
   refine⟨_,rfl,a,dx,_,rfl,s1 _ _ hp,xa8 (by decide +kernel),_,rfl,a,dp,do_,pw,ph,ps,nm,pt,rfl,Pic.same s1 pic,hn,hf,fun H2 q2 s2 hq2=>⟨q2,_,rfl,SqT.of hq2,rfl,_,_,rfl,_,_,rfl,rfl,?_⟩⟩
   refine⟨_,rfl,_,rfl,a,_,dx,_,_,rfl,(s2 _ _ (s1 _ _ hp)),T.c_n,T.n_a5,lkW,false,pw,rfl,fun p H3 hp3 sd3 s3=>?_⟩
   refine⟨_,rfl,_,rfl,_,_,rfl,rfl,_,rfl,ifN (decide_eq_false hd) ⟨1,rfl,?_⟩⟩
   refine⟨_,rfl,_,rfl,_,rfl,pt.y,r,(-1),rfl,⟨by omega,by omega,by omega,by omega⟩,.inr ⟨rfl,fun l1 hl1=>?_⟩⟩
   refine xbw (fun i=>(pt.x,pt.y+(i:Int)*(-1))) hl1 (by omega) (fun i H R _ k=>⟨_,rfl,_,rfl,(by show 2<=sizeLine; decide),k⟩) fun H4 qs1 s4 hu4 cu4=>?_
   obtain⟨ds,hs⟩:=id sd3
   have hs4:H4 p=some (.ins t.C_ak ds [("width",.int pw)]):=s4 _ _ hs
   have sd4:xd4 t H4 p false pw:=⟨ds,hs4⟩
   refine⟨_,rfl,.inr ⟨_,rfl,p,ds,_,rfl,hs4,lno (by decide +kernel),p,pw,rfl,sd4,.inr ⟨_,rfl,p,ds,_,rfl,hs4,lno (by decide +kernel),_,rfl,_,_,rfl,rfl,.inr ⟨_,rfl,p,ds,_,rfl,hs4,lno (by decide +kernel),_,rfl,pt.x,_,1,rfl,⟨by omega,by omega,by omega,by omega⟩,.inl ⟨rfl,fun l2 hl2=>?_⟩⟩⟩⟩⟩
   refine xbw (fun i=>(pt.x+(i:Int)*1,r)) hl2 (by omega) (fun i H R _ k=>⟨_,rfl,_,rfl,(by show 2<=sizeLine; decide),k⟩) fun H5 qs2 s5 hu5 cu5=>?_
   have c1:xas H5 (Geo.upL pt.x pt.y r) qs1:=by
    have e:Geo.upL pt.x pt.y r=(List.range (pt.y-r).toNat).map fun (i:Nat)=>(pt.x,pt.y+(i:Int)*(-1)):=by unfold Geo.upL Geo.upN Geo.dn; rw[if_neg hd,if_neg hd]
    rw[e]
    exact cu4.keep (Same.tups s5)
   have c2:xas H5 (Geo.lvL pw pt.x false r) qs2:=by
    have e:Geo.lvL pw pt.x false r=(List.range (pw+1+1-pt.x).toNat).map fun (i:Nat)=>(pt.x+(i:Int)*1,r):=by
     unfold Geo.lvL Geo.lvN Geo.wayI
     simp only[if_true,Bool.false_eq_true,if_false]
     rw[show (pw+2-pt.x).toNat=(pw+1+1-pt.x).toNat from by omega]
    rw[e]
    exact cu5
   have l1':=c1.len
   have l2':=c2.len
   have b1:(Geo.upL pt.x pt.y r).length<17:=by unfold Geo.upL Geo.upN; rw[List.length_map,List.length_range]; split<;>omega
   have b2:(Geo.lvL pw pt.x false r).length<33:=by unfold Geo.lvL Geo.lvN; rw[List.length_map,List.length_range]; split<;>omega
   refine⟨_,rfl,_,rfl,l1,l2,_,_,rfl,rfl,s5 _ _ hu4,hu5,(by rw[List.length_map,List.length_map]; exact Nat.le_of_lt (Nat.lt_trans (by omega:qs1.length+qs2.length<100) (by decide))),fun p6 hp6=>?_⟩
   refine q _ p6 (qs1++qs2) (xp (((s1.trans s2).trans s3).trans (s4.trans s5)) hp6) (by rw[List.map_append]; exact xf) ((c1.append c2).keep (Same.tups (xp (Same.refl _) hp6))) (by rw[List.length_append]; omega)
  .-- up left
   refine⟨_,rfl,a,dx,_,rfl,hp,xa8 (by decide +kernel),_,rfl,_,rfl,_,rfl,a,dp,do_,pw,ph,ps,nm,pt,true,r,rfl,pic,hn,hf,r1,r2,fun H1 s1=>?_⟩
   refine⟨_,rfl,a,dx,_,rfl,s1 _ _ hp,xa8 (by decide +kernel),_,rfl,a,dp,do_,pw,ph,ps,nm,pt,rfl,Pic.same s1 pic,hn,hf,fun H2 q2 s2 hq2=>⟨q2,_,rfl,SqT.of hq2,rfl,_,_,rfl,_,_,rfl,rfl,?_⟩⟩
   refine⟨_,rfl,_,rfl,a,_,dx,_,_,rfl,(s2 _ _ (s1 _ _ hp)),T.c_n,T.n_a5,lkW,true,pw,rfl,fun p H3 hp3 sd3 s3=>?_⟩
   refine⟨_,rfl,_,rfl,_,_,rfl,rfl,_,rfl,ifN (decide_eq_false hd) ⟨1,rfl,?_⟩⟩
   refine⟨_,rfl,_,rfl,_,rfl,pt.y,r,(-1),rfl,⟨by omega,by omega,by omega,by omega⟩,.inr ⟨rfl,fun l1 hl1=>?_⟩⟩
   refine xbw (fun i=>(pt.x,pt.y+(i:Int)*(-1))) hl1 (by omega) (fun i H R _ k=>⟨_,rfl,_,rfl,(by show 2<=sizeLine; decide),k⟩) fun H4 qs1 s4 hu4 cu4=>?_
   obtain⟨ds,hs⟩:=id sd3
   have hs4:H4 p=some (.ins t.C_aw ds [("width",.int pw)]):=s4 _ _ hs
   have sd4:xd4 t H4 p true pw:=⟨ds,hs4⟩
   refine⟨_,rfl,.inl ⟨_,rfl,p,ds,_,rfl,hs4,lno (by decide +kernel),_,rfl,.inl ⟨_,rfl,p,ds,_,rfl,hs4,lno (by decide +kernel),_,rfl,_,_,rfl,rfl,.inl ⟨_,rfl,p,ds,_,rfl,hs4,lno (by decide +kernel),_,rfl,pt.x,_,(-1),rfl,⟨by omega,by omega,by omega,by omega⟩,.inr ⟨rfl,fun l2 hl2=>?_⟩⟩⟩⟩⟩
   refine xbw (fun i=>(pt.x+(i:Int)*(-1),r)) hl2 (by omega) (fun i H R _ k=>⟨_,rfl,_,rfl,(by show 2<=sizeLine; decide),k⟩) fun H5 qs2 s5 hu5 cu5=>?_
   have c1:xas H5 (Geo.upL pt.x pt.y r) qs1:=by
    have e:Geo.upL pt.x pt.y r=(List.range (pt.y-r).toNat).map fun (i:Nat)=>(pt.x,pt.y+(i:Int)*(-1)):=by unfold Geo.upL Geo.upN Geo.dn; rw[if_neg hd,if_neg hd]
    rw[e]
    exact cu4.keep (Same.tups s5)
   have c2:xas H5 (Geo.lvL pw pt.x true r) qs2:=by
    have e:Geo.lvL pw pt.x true r=(List.range (pt.x-(0+-1)).toNat).map fun (i:Nat)=>(pt.x+(i:Int)*(-1),r):=by
     unfold Geo.lvL Geo.lvN Geo.wayI
     simp only[if_true,Bool.false_eq_true,if_false]
     rw[show (pt.x+1).toNat=(pt.x-(0+-1)).toNat from by omega]
    rw[e]
    exact cu5
   have l1':=c1.len
   have l2':=c2.len
   have b1:(Geo.upL pt.x pt.y r).length<17:=by unfold Geo.upL Geo.upN; rw[List.length_map,List.length_range]; split<;>omega
   have b2:(Geo.lvL pw pt.x true r).length<33:=by unfold Geo.lvL Geo.lvN; rw[List.length_map,List.length_range]; split<;>omega
   refine⟨_,rfl,_,rfl,l1,l2,_,_,rfl,rfl,s5 _ _ hu4,hu5,(by rw[List.length_map,List.length_map]; exact Nat.le_of_lt (Nat.lt_trans (by omega:qs1.length+qs2.length<100) (by decide))),fun p6 hp6=>?_⟩
   refine q _ p6 (qs1++qs2) (xp (((s1.trans s2).trans s3).trans (s4.trans s5)) hp6) (by rw[List.map_append]; exact xf) ((c1.append c2).keep (Same.tups (xp (Same.refl _) hp6))) (by rw[List.length_append]; omega)
end
theorem lkO {w h:Int}{dp do_:Addr}:(picF w h dp do_).lookup ("opened":Str)=some (.ref do_):=by
 unfold picF
 rw[List.lookup_cons,show (("opened":Str) == "width")=false from by decide +kernel]
 show List.lookup ("opened":Str) [("height",V.int h),("placed",V.ref dp),("opened",V.ref do_)]=_
 rw[List.lookup_cons,show (("opened":Str) == "height")=false from by decide +kernel]
 show List.lookup ("opened":Str) [("placed",V.ref dp),("opened",V.ref do_)]=_
 rw[List.lookup_cons,show (("opened":Str) == "placed")=false from by decide +kernel]
 show List.lookup ("opened":Str) [("opened",V.ref do_)]=_
 rw[List.lookup_cons,show (("opened":Str) == "opened")=true from by decide +kernel]
abbrev Seat:=Bool × Int
def xbm (s:Seat):List Key:=[.inr (xai s.1),.inl s.2]
def xcc (s:Seat):List V:=[.str (xai s.1),.int s.2]
theorem xft {a b:Bool} (h:xai a=xai b):a=b:=by
 cases a<;>cases b<;>first|rfl|exact absurd h (by decide +kernel)
theorem xnd {s t:Seat} (h:xbm s=xbm t):s=t:=by
 simp only[xbm,List.cons.injEq,Sum.inr.injEq,Sum.inl.injEq] at h
 exact Prod.ext (xft h.1) h.2.1
def Sts (H:Hp) (do_:Addr) (ss:List Seat):Prop:=∃ kvs:List (List Key × V),H do_=some (.dT kvs)/\kvs.map (·.1)=ss.map xbm/\ss.Nodup/\ss.length<=32
theorem Sts.same {H H':Hp}{do_:Addr}{ss:List Seat} (s:Same H H') (h:Sts H do_ ss):Sts H' do_ ss:=let ⟨k,e,r⟩:=h; ⟨k,s _ _ e,r⟩
theorem xsj {kvs:List (List Key × V)}{ss:List Seat} (e:kvs.map (·.1)=ss.map xbm) {s:Seat} (h:s∉ss):valV kvs (xbm s)=none:=by
 cases z:valV kvs (xbm s) with
 | none=>rfl
 | some v =>
  obtain⟨i,hi⟩:=xh3 z
  have m:xbm s∈kvs.map (·.1):=List.mem_map.mpr ⟨_,List.mem_of_getElem? hi,rfl⟩
  rw[e] at m
  obtain⟨t,ht,et⟩:=List.mem_map.mp m
  exact absurd ht (by rw[xnd et]; exact h)
inductive xac (H:Hp):List Seat->List Addr->Prop
 | nil:xac H [] []
 | cons {s:Seat}{q:Addr}{ss:List Seat}{qs:List Addr} (h:H q=some (.tup (xcc s))) (r:xac H ss qs):xac H (s::ss) (q::qs)
theorem xac.keep {H H':Hp} (k:Tups H H') {ss:List Seat}{qs:List Addr} (h:xac H ss qs):xac H' ss qs:=by
 induction h with
 | nil=>exact .nil
 | cons h _ ih=>exact .cons (k _ _ h) ih
theorem xac.len {H:Hp}{ss:List Seat}{qs:List Addr} (h:xac H ss qs):qs.length=ss.length:=by
 induction h with
 | nil=>rfl
 | cons _ _ ih=>simp[ih]
def xbv (s t:Seat):Prop:=(s.1=true/\t.1=false)\/(s.1=t.1/\s.2<t.2)
theorem xo8 {s t:Seat} (h:lexK (xbm s) (xbm t)=true):xbv s t:=by
 obtain⟨a,i⟩:=s
 obtain⟨b,j⟩:=t
 unfold xbm at h
 unfold lexK at h
 by_cases e:xai a=xai b
 .rw [if_pos (by rw[e])] at h
  unfold lexK at h
  by_cases e2:i=j
  .rw [if_pos (by rw[e2])] at h
   unfold lexK at h
   cases h
  .rw [if_neg (fun z=>e2 (Sum.inl.inj z))] at h
   exact .inr ⟨xft e,of_decide_eq_true h⟩
 .rw [if_neg (fun z=>e (Sum.inr.inj z))] at h
  cases a<;>cases b
  .exact absurd rfl e
  .exact absurd h (by show ¬ xc0 (.inr (xai false)) (.inr (xai true))=true; decide +kernel)
  .exact .inl ⟨rfl,rfl⟩
  .exact absurd rfl e
def unK:List Key->Seat
 | [.inr s,.inl r]=>(decide (s="left"),r)
 | _=>(true,0)
theorem xjy (s:Seat):unK (xbm s)=s:=by
 obtain⟨b,r⟩:=s
 cases b
 .show (decide (("right":Str)="left"),r)=_
  rw[decide_eq_false (by decide +kernel)]
 .show (decide (("left":Str)="left"),r)=_
  rw[decide_eq_true rfl]
def xrr (t:Adr):Sp:=fun vs H Q _=>∃(a dp do_:Addr) (pw ph:Int) (ps:List Pt) (ss:List Seat) (b:Bool) (r:Int),vs=[.ref a,.str (xai b),.int r]/\Pic t H a dp do_ pw ph ps/\Sts H do_ ss/\1<=r/\r<=ph/\(b,r)∉ss/\ss.length<32 /\
 ∀ H',(∀ c u,c≠do_->H c=some u->H' c=some u)->Pic t H' a dp do_ pw ph ps->Sts H' do_ (ss++[(b,r)])->Q .non H'
def xq1 (t:Adr):Sp:=fun vs H Q _=>∃(a dp do_:Addr) (pw ph:Int) (ps:List Pt) (ss:List Seat),vs=[.ref a]/\Pic t H a dp do_ pw ph ps/\Sts H do_ ss /\
 ∀(l:Addr) (ss':List Seat) (qs:List Addr),H l=none->xac H ss' qs->ss'.Perm ss->ss'.Pairwise xbv->Q (.ref l) (upd H l (.lst (qs.map V.ref)))
theorem Pic.but {t:Adr}{H H':Hp}{a dp do_:Addr}{w h:Int}{ps:List Pt}{kvs:List (List Key × V)} (e:H do_=some (.dT kvs)) (s:∀ c u,c≠do_->H c=some u->H' c=some u) (p:Pic t H a dp do_ w h ps):Pic t H' a dp do_ w h ps :=
 ⟨let ⟨dx,x⟩:=p.ins; ⟨dx,s _ _ (x5 x e (fun z=>nomatch z)) x⟩,let ⟨k,x,q⟩:=p.pl; ⟨k,s _ _ (x5 x e (fun z=>nomatch z)) x,q.keep fun b xs x=>s _ _ (x5 x e (fun z=>nomatch z)) x⟩,p.w1,p.w2,p.h1,p.h2,p.len⟩
section
variable {P:Program}{w:World}{K:PySem.W.Frag}{mg:Str->Option Value}{base:Heap}{t:Adr}
theorem ok_f (T:Txt w K mg t):FnOk true P w K mg base (CXo P w) 5 t.f_f t.d_f ["self", "side", "row"] (xrr t):=by
 refine T.F_f.okn (k:=4) sc_f (fun vs H Q E h=>?_) (fun cdv A outer s H vs Q E hr h=>?_)
 .obtain ⟨a,dp,do_,pw,ph,ps,ss,b,r,rfl,_⟩:=h
  rfl
 .obtain ⟨a,dp,do_,pw,ph,ps,ss,b,r,rfl,h⟩:=h
  refine⟨_,xk (xaw (xa0 (pv 0) T.c_n T.m_c (ok_c T) (hr.mono (by decide)) T.b_c .nil xj (xa (pv 1) (xa (pv 2) (xb)))))
   (xk (xao (xd6 (xg0 (xbc hr) (xab (xa (pv 1) (xa (pv 2) (xb)))) (xae (pv 0) rfl))) (xm (xa3)) (x9))
   (xm (xb7 (xbc hr) (xae (pv 0) rfl) (xab (xa (pv 1) (xa (pv 2) (xb)))) (xe2) rfl))),?_⟩
  obtain⟨pic,st,r1,r2,no,len,q⟩:=h
  obtain⟨⟨dx,hp⟩,_,_⟩:=id pic
  obtain⟨kvs,hk,ek,nd,l32⟩:=id st
  refine⟨_,rfl,a,dx,_,rfl,hp,xa8 (by decide +kernel),_,rfl,_,rfl,a,dp,do_,pw,ph,ps,b,r,rfl,pic,r1,r2,fun H1 s1=>?_⟩
  refine⟨_,rfl,_,rfl,(by show 2<=sizeLine; decide),fun q1 hq1=>?_⟩
  have s2:Same H1 (upd H1 q1 (.tup [.str (xai b),.int r])):=xp (Same.refl _) hq1
  have g2:upd H1 q1 (.tup [.str (xai b),.int r]) q1=some (.tup [.str (xai b),.int r]):=xf
  revert s2 g2
  generalize upd H1 q1 (.tup [.str (xai b),.int r])=H2
  intro s2 g2
  have hk2:=s2 _ _ (s1 _ _ hk)
  have hp2:=s2 _ _ (s1 _ _ hp)
  have n0:valV kvs (xbm (b,r))=none:=xsj ek no
  refine⟨_,rfl,a,_,dx,_,_,rfl,hp2,T.c_n,T.n_ba,lkO,do_,none,rfl,(by rw[<- n0]; exact DGet.t (k:=xbm (b,r)) hk2 g2),false,rfl,iteF ?_⟩
  refine⟨_,rfl,a,_,dx,_,_,rfl,hp2,T.c_n,T.n_ba,lkO,_,rfl,_,rfl,(by show 2<=sizeLine; decide),fun q3 hq3=>?_⟩
  have s3:Same H2 (upd H2 q3 (.tup [.str (xai b),.int r])):=xp (Same.refl _) hq3
  have g3:upd H2 q3 (.tup [.str (xai b),.int r]) q3=some (.tup [.str (xai b),.int r]):=xf
  revert s3 g3
  generalize upd H2 q3 (.tup [.str (xai b),.int r])=H3
  intro s3 g3
  have kl:kvs.length=ss.length:=by
   have:=congrArg List.length ek
   simpa using this
  refine⟨do_,_,rfl,DPut.t (k:=xbm (b,r)) (s3 _ _ hk2) g3 (Nat.lt_trans (by omega:kvs.length<33) (by decide)),?_⟩
  have bt:∀ c u,c≠do_->H c=some u->upd H3 do_ (.dT (putK kvs (xbm (b,r)) (.bl true))) c=some u:=fun c u nc e=>by
   rw[xg nc]
   exact s3 _ _ (s2 _ _ (s1 _ _ e))
  refine q _ bt (Pic.but hk bt pic) ⟨_,xf,?_,?_,?_⟩
  .rw [xdd _ n0,List.map_append,List.map_append,ek]
   rfl
  .rw [List.nodup_append]
   exact⟨nd,by simp,fun x hx y hy=>by rw[List.mem_singleton.mp hy]; exact fun e=>no (e▸hx)⟩
  .rw [List.length_append]
   show ss.length+1<=32
   omega
theorem ok_s (T:Txt w K mg t):FnOk true P w K mg base (CXo P w) 1 t.f_s t.d_s ["self"] (xq1 t):=by
 refine T.F_s.okn (k:=0) sc_s (fun vs H Q E h=>?_) (fun cdv A outer s H vs Q E hr h=>?_)
 .obtain ⟨a,dp,do_,pw,ph,ps,ss,rfl,_⟩:=h
  rfl
 .obtain ⟨a,dp,do_,pw,ph,ps,ss,rfl,h⟩:=h
  refine⟨_,xm (x0 (x6 (xkb rfl) rfl T.n_sorted PyProof.Rows.Boot.«sorted» (xa (xae (pv 0) rfl) (xb)))),?_⟩
  obtain⟨pic,st,q⟩:=h
  obtain⟨⟨dx,hp⟩,_,_⟩:=id pic
  obtain⟨kvs,hk,ek,nd,l32⟩:=id st
  have kl:kvs.length=ss.length:=by
   have:=congrArg List.length ek
   simpa using this
  refine⟨_,rfl,a,_,dx,_,_,rfl,hp,T.c_n,T.n_ba,lkO,do_,kvs,[false,true],rfl,hk,by omega,fun p hp'=>?_,by decide,fun l ts fr tm pm pw'=>?_⟩
  .have m:p.1∈kvs.map (·.1):=List.mem_map.mpr ⟨p,hp',rfl⟩
   rw[ek] at m
   obtain⟨s,_,e⟩:=List.mem_map.mp m
   rw[<- e]
   rfl
  rw[ek] at pm
  have back:∀ t∈ts,xbm (unK t.1)=t.1:=fun t ht=>by
   obtain⟨s,_,e⟩:=List.mem_map.mp (pm.mem_iff.mp (List.mem_map.mpr ⟨t,ht,rfl⟩))
   rw[<- e,xjy]
  have z:=q l ((ts.map (·.1)).map unK) (ts.map (·.2)) fr ?_ ?_ ?_
  .rw [List.map_map] at z
   exact z
  .clear pm pw'
   induction ts with
   | nil=>exact .nil
   | cons t ts ih =>
    refine .cons ?_ (ih (fun x hx=>tm x (List.mem_cons_of_mem _ hx)) fun x hx=>back x (List.mem_cons_of_mem _ hx))
    have e:=tm t List.mem_cons_self
    rw[<- back t List.mem_cons_self] at e
    exact e
  .have z2:=pm.map unK
   have e2:(ss.map xbm).map unK=ss:=by
    rw[List.map_map,show (unK∘xbm)=id from funext xjy]
    exact List.map_id _
   rw[e2] at z2
   exact z2
  .rw [List.pairwise_map] at pw'
   rw[List.map_map,List.pairwise_map]
   refine pw'.imp_of_mem fun {x y} hx hy hxy=>xo8 ?_
   show lexK (xbm (unK x.1)) (xbm (unK y.1))=true
   rw[back x hx,back y hy]
   exact hxy
end
def SsOk (h:Int) (ss:List Seat):Prop:=ss.Nodup/\ss.length<=32/\∀ s∈ss,1<=s.2/\s.2<=h
theorem xac.get {H:Hp}{ss:List Seat}{qs:List Addr} (h:xac H ss qs) {i:Nat}{q:Addr} (e:qs[i]?=some q):∃ s,ss[i]?=some s/\H q=some (.tup (xcc s)):=by
 induction h generalizing i with
 | nil=>simp at e
 | @cons s q' ss qs h _ ih =>
  cases i with
  | zero =>
   simp at e
   subst e
   exact⟨s,rfl,h⟩
  | succ j=>exact ih (by simpa using e)
theorem nd_map {α β:Type}{f:α->β} (inj:∀ a b,f a=f b->a=b) {l:List α} (h:l.Nodup):(l.map f).Nodup:=by
 rw[List.nodup_iff_pairwise_ne,List.pairwise_map]
 exact h.imp fun hne e=>hne (inj _ _ e)
theorem xac.snoc {H:Hp}{ss:List Seat}{qs:List Addr} (h:xac H ss qs) {s:Seat}{q:Addr} (e:H q=some (.tup (xcc s))):xac H (ss++[s]) (qs++[q]):=by
 induction h with
 | nil=>exact .cons e .nil
 | cons h _ ih=>exact .cons h ih
theorem xb9 {α:Type}{R:α->α->Prop} (as:∀ a b,R a b->¬ R b a):∀{l l':List α},l.Perm l'->l.Pairwise R->l'.Pairwise R->l=l'
 | [],l',p,_,_=>(List.Perm.nil_eq p)
 | a::t,[],p,_,_=>absurd p.symm (by intro z; exact absurd (List.Perm.nil_eq z) (by simp))
 | a::t,b::t',p,h,h'=>by
  have h1:=List.pairwise_cons.mp h
  have h2:=List.pairwise_cons.mp h'
  by_cases e:a=b
  .subst e
   rw[xb9 as ((List.perm_cons a).mp p) h1.2 h2.2]
  .have ma:a∈t':=by
    have:=p.mem_iff.mp (List.mem_cons_self (a:=a) (l:=t))
    rcases List.mem_cons.mp this with z|z
    .exact absurd z e
    .exact z
   have mb:b∈t:=by
    have:=p.mem_iff.mpr (List.mem_cons_self (a:=b) (l:=t'))
    rcases List.mem_cons.mp this with z|z
    .exact absurd z.symm e
    .exact z
   exact absurd (h2.1 a ma) (as _ _ (h1.1 b mb))
theorem xef (a b:Seat) (h:xbv a b):¬ xbv b a:=by
 rintro (⟨x,y⟩|⟨x,y⟩)<;>rcases h with⟨z,w⟩|⟨z,w⟩
 .rw [x] at w; cases w
 .rw [x,y] at z; cases z
 .rw [z,w] at x; cases x
 .omega
def xdp (s:Seat):DV:=.tup [.str (xai s.1),.int s.2]
theorem xnu {s t:Seat}:xdp s=xdp t↔s=t:=by
 constructor
 .intro h
  unfold xdp at h
  simp only[DV.tup.injEq,List.cons.injEq,DV.str.injEq,DV.int.injEq,and_true] at h
  exact Prod.ext (xft h.1) h.2
 .intro h
  rw[h]
theorem xo9 (s t:Seat):dEq (xdp s) (xdp t)=decide (s=t):=xkv rfl rfl xnu
theorem xpj (ss:List Seat) (s:Seat):(ss.map xdp).any (fun z=>dEq z (xdp s))=decide (s∈ss):=by
 rw[Bool.eq_iff_iff,List.any_eq_true,decide_eq_true_iff]
 constructor
 .rintro ⟨z,hz,e⟩
  obtain⟨t,ht,rfl⟩:=List.mem_map.mp hz
  rw[xo9,decide_eq_true_iff] at e
  exact e▸ht
 .intro h
  exact⟨_,List.mem_map.mpr ⟨s,h,rfl⟩,xcr _⟩
theorem xlm {K:PySem.W.Frag}{H:Hp}{q:Addr}{s:Seat} (h:H q=some (.tup (xcc s))):Dv K H 1 (.ref q) (xdp s):=by
 refine .tup (SqT.of h) rfl fun j x d h1 h2=>?_
 match j,h1,h2 with
 | 0,h1,h2=>cases h1; cases h2; exact .str
 | 1,h1,h2=>cases h1; cases h2; exact .int
 | j+2,h1,h2=>simp[xcc] at h1
theorem xac.dv {K:PySem.W.Frag}{H:Hp}{ss:List Seat}{qs:List Addr} (h:xac H ss qs) {l:Addr} (e:H l=some (.lst (qs.map V.ref))):Dv K H 2 (.ref l) (.lst (ss.map xdp)):=by
 refine .lst (SqL.of e) (by rw[List.length_map,List.length_map,h.len]) fun j x d h1 h2=>?_
 rw[List.getElem?_map] at h1 h2
 obtain⟨q,hq,rfl⟩:=Option.map_eq_some_iff.mp h1
 obtain⟨p,hp,rfl⟩:=Option.map_eq_some_iff.mp h2
 obtain⟨p',hp',e'⟩:=h.get hq
 rw[hp] at hp'
 cases hp'
 exact xlm e'
theorem xac.pick {H:Hp}:∀{ss:List Seat}{ys:List V},ys.length=ss.length->(∀(j:Nat) (y:V) (s:Seat),ys[j]?=some y->ss[j]?=some s->∃ q,y=.ref q/\H q=some (.tup (xcc s)))->∃ rs:List Addr,ys=rs.map V.ref/\xac H ss rs
 | [],[],_,_=>⟨[],rfl,.nil⟩
 | [],_::_,h,_=>by cases h
 | _::_,[],h,_=>by cases h
 | s::ss,y::ys,h,k=>by
  obtain⟨q,e,hq⟩:=k 0 y s rfl rfl
  obtain⟨rs,e2,r⟩:=xac.pick (ss:=ss) (ys:=ys) (by simpa using h) fun j y s h1 h2=>k (j+1) y s (by simpa using h1) (by simpa using h2)
  exact⟨q::rs,by rw[e,e2]; rfl,.cons hq r⟩
theorem xmv {α:Type} [DecidableEq α]:∀{l m:List α},l.Nodup->(∀ x∈l,x∈m)->l.length<=m.length
 | [],m,_,_=>Nat.zero_le _
 | a::l,m,nd,sub=>by
  obtain⟨h1,h2⟩:=List.nodup_cons.mp nd
  have ha:=sub a List.mem_cons_self
  have z:=xmv (l:=l) (m:=m.erase a) h2 (fun x hx=>(List.mem_erase_of_ne (fun e:x=a=>h1 (e▸hx))).mpr (sub x (List.mem_cons_of_mem _ hx)))
  rw[List.length_erase_of_mem ha] at z
  have:=List.length_pos_of_mem ha
  rw[List.length_cons]
  omega
def ptD (p:Pt):DV:=.tup [.str p.nm,.int p.x,.int p.y,.str p.sd,.int p.lo,.int p.hi]
theorem xtp {K:PySem.W.Frag}{H:Hp}{q:Addr}{p:Pt} (h:H q=some (.tup (.str p.nm::ptV p))):Dv K H 1 (.ref q) (ptD p):=by
 refine .tup (SqT.of h) rfl fun j x d h1 h2=>?_
 match j,h1,h2 with
 | 0,h1,h2=>cases h1; cases h2; exact .str
 | 1,h1,h2=>cases h1; cases h2; exact .int
 | 2,h1,h2=>cases h1; cases h2; exact .int
 | 3,h1,h2=>cases h1; cases h2; exact .str
 | 4,h1,h2=>cases h1; cases h2; exact .int
 | 5,h1,h2=>cases h1; cases h2; exact .int
 | j+6,h1,h2=>simp[ptV] at h1
theorem PtsL.dv {K:PySem.W.Frag}{H:Hp}{ps:List Pt}{qs:List Addr} (h:PtsL H ps qs) {l:Addr} (e:H l=some (.lst (qs.map V.ref))):Dv K H 2 (.ref l) (.lst (ps.map ptD)):=by
 refine .lst (SqL.of e) (by rw[List.length_map,List.length_map,h.len]) fun j x d h1 h2=>?_
 rw[List.getElem?_map] at h1 h2
 obtain⟨q,hq,rfl⟩:=Option.map_eq_some_iff.mp h1
 obtain⟨p,hp,rfl⟩:=Option.map_eq_some_iff.mp h2
 obtain⟨p',hp',e'⟩:=h.get hq
 rw[hp] at hp'
 cases hp'
 exact xtp e'
theorem xst {K:PySem.W.Frag}{H:Hp}{q:Addr}{a b:Int} (h:H q=some (.tup [.int a,.int b])):Dv K H 1 (.ref q) (.tup [.int a,.int b]):=by
 refine .tup (SqT.of h) rfl fun j x d h1 h2=>?_
 match j,h1,h2 with
 | 0,h1,h2=>cases h1; cases h2; exact .int
 | 1,h1,h2=>cases h1; cases h2; exact .int
 | j+2,h1,h2=>simp at h1
structure PtOk (w h:Int) (p:Pt):Prop where
 nm:isNm p.nm=true
 x1:1<=p.x
 x2:p.x<=w
 y1:1<=p.y
 y2:p.y<=h
 sd:p.sd="left"\/p.sd="right"\/p.sd="both"
 l1:1<=p.lo
 l2:p.lo<=p.hi
 l3:p.hi<=h
structure xdg (w h:Int) (ps:List Pt):Prop where
 ok:∀ p∈ps,PtOk w h p
 nn:(ps.map (·.nm)).Nodup
 nx:(ps.map (·.x)).Nodup
 ny:(ps.map (·.y)).Nodup
 le:ps.length<=12
theorem xfw {α β:Type} (f:α->β) {ps:List α} (nd:(ps.map f).Nodup) {i:Nat} (hi:i<ps.length):∀ p∈ps.take i,f p≠f ps[i]:=fun p hp e=>by
 have z:=nd
 rw[<- List.take_append_drop i ps,List.drop_eq_getElem_cons hi,List.map_append,List.map_cons,List.nodup_append] at z
 exact z.2.2 _ (List.mem_map.mpr ⟨p,hp,rfl⟩) _ List.mem_cons_self e
theorem PtsL.pick {H:Hp}:∀{ps:List Pt}{ys:List V},ys.length=ps.length->(∀(j:Nat) (y:V) (p:Pt),ys[j]?=some y->ps[j]?=some p->∃ q,y=.ref q/\H q=some (.tup (.str p.nm::ptV p)))->∃ rs:List Addr,ys=rs.map V.ref/\PtsL H ps rs
 | [],[],_,_=>⟨[],rfl,.nil⟩
 | [],_::_,h,_=>by cases h
 | _::_,[],h,_=>by cases h
 | s::ss,y::ys,h,k=>by
  obtain⟨q,e,hq⟩:=k 0 y s rfl rfl
  obtain⟨rs,e2,r⟩:=PtsL.pick (ps:=ss) (ys:=ys) (by simpa using h) fun j y s h1 h2=>k (j+1) y s (by simpa using h1) (by simpa using h2)
  exact⟨q::rs,by rw[e,e2]; rfl,.cons hq r⟩
theorem xh1 {ps:List Pt} (nd:(ps.map (·.nm)).Nodup) {p:Pt} (hp:p∈ps):ps.find? (fun q=>decide (q.nm=p.nm))=some p:=by
 induction ps with
 | nil=>simp at hp
 | cons a ps ih =>
  rw[List.map_cons,List.nodup_cons] at nd
  rcases List.mem_cons.mp hp with z|z
  .subst z
   rw[List.find?_cons_of_pos (by simp)]
  .have ne:¬ a.nm=p.nm:=fun y=>nd.1 (y▸List.mem_map.mpr ⟨p,z,rfl⟩)
   rw[List.find?_cons_of_neg (by simpa using ne)]
   exact ih nd.2 z
def xs1 (t:Adr):Sp:=fun vs H Q _=>∃(w h:Int) (l m:Addr) (ps:List Pt) (qs:List Addr) (ss:List Seat) (rs:List Addr),vs=[.int w,.int h,.ref l,.ref m]/\(1<=w/\w<=30/\1<=h/\h<=16)/\H l=some (.lst (qs.map V.ref))/\PtsL H ps qs/\xdg w h ps/\H m=some (.lst (rs.map V.ref))/\xac H ss rs/\SsOk h ss /\
 ∀ H' a dp do_,Same H H'->H a=none->H dp=none->H do_=none->Pic t H' a dp do_ w h ps->Sts H' do_ ss->Q (.ref a) H'
section
variable {P:Program}{w:World}{K:PySem.W.Frag}{mg:Str->Option Value}{base:Heap}{t:Adr}
theorem ok_u (T:Txt w K mg t):FnOk true P w K mg base (CXo P w) 6 t.f_u t.d_u ["width", "height", "points", "seats"] (xs1 t):=by
 refine T.F_u.okn (k:=5) sc_u (fun vs H Q E h=>?_) (fun cdv A outer s H vs Q E hr h=>?_)
 .obtain ⟨w,ph,l,m,ps,qs,ss,rs,rfl,_⟩:=h
  rfl
 .obtain ⟨w,ph,l,m,ps,qs,ss,rs,rfl,h⟩:=h
  refine⟨_,xk (x8 (i:=4) sc_u.nd rfl (Or.inl rfl) (xf2 T.k_n (ok_ae T) (hr.mono (by decide)) rfl T.g_n T.b_ae .nil xj (xa (pv 0) (xa (pv 1) (xb)))))
   (xk (xa4 PassesOwn.never rfl (xar (pv 2)) (xat rfl (xq (xo (i:=5) sc_u.nd rfl (Or.inl rfl)) (xq (xo (i:=6) sc_u.nd rfl (Or.inl rfl)) (xq (xo (i:=7) sc_u.nd rfl (Or.inl rfl)) (xq (xo (i:=8) sc_u.nd rfl (Or.inl rfl)) (xq (xo (i:=9) sc_u.nd rfl (Or.inl rfl)) (xq (xo (i:=10) sc_u.nd rfl (Or.inl rfl)) (xak)))))))) (xm (xaw (xa0 (pv 4) T.c_n T.m_p (ok_p T) (hr.mono (by decide)) T.b_p .nil xj (xz (pv 5) (xz (pv 6) (xz (pv 7) (xz (pv 8) (xz (pv 9) (xz (pv 10) (xb) rfl) rfl) rfl) rfl) rfl) rfl)))))
   (xk (xa4 PassesOwn.never rfl (xar (pv 3)) (xat rfl (xq (xo (i:=11) sc_u.nd rfl (Or.inl rfl)) (xq (xo (i:=12) sc_u.nd rfl (Or.inl rfl)) (xak)))) (xm (xaw (xa0 (pv 4) T.c_n T.m_f (ok_f T) (hr.mono (by decide)) T.b_f .nil xj (xa (pv 11) (xa (pv 12) (xb)))))))
   (xm (x0 (pv 4))))),?_⟩
  obtain⟨⟨w1,w2,h1,h2⟩,hl,pts,pok,hm,sts,⟨snd,sle,srow⟩,q⟩:=h
  refine⟨_,rfl,_,rfl,fun a dx hx hdx ne=>⟨a,dx,w,ph,rfl,xf,w1,w2,h1,h2,fun H5 dp do_ hdp5 hdo5 s6 pic5 hdt=>⟨rfl,?_⟩⟩⟩
  have k5:Same H H5:=fun b u e=>s6 b u (xi e hx) (by rw[xg (xi e hx),xg (xi e hdx)]; exact e)
  have up:∀ b,upd (upd H dx (.own a)) a (.ins t.C_n dx []) b=none->H b=none:=fun b z=>by
   cases e:H b with
   | none=>rfl
   | some u=>rw[xg (xi e hx),xg (xi e hdx),e] at z; cases z
  have fdp:=up _ hdp5
  have fdo:=up _ hdo5
  have pl:=pts.len
  have sl:=sts.len
  refine⟨_,rfl,l,rfl,⟨_,SqL.of (k5 _ _ hl)⟩,?_⟩
  refine xa6 (xs:=qs.map V.ref) (Pv:=fun i σ H2=>∃ v5 v6 v7 v8 v9 v10 v11 v12:Option V,σ=[some (.int w),some (.int ph),some (.ref l),some (.ref m),some (.ref a),v5,v6,v7,v8,v9,v10,v11,v12]/\Same H H2/\Pic t H2 a dp do_ w ph (ps.take i)/\H2 do_=some (.dT [])) ⟨_,_,_,_,_,_,_,_,rfl,k5,by simpa using pic5,hdt⟩ (fun _ _ _ _ ⟨_,_,_,_,_,_,_,_,_,z,_⟩=>SqL.of (z _ _ hl)) ?_ ?_
  .rintro i v σ H2 hv ⟨v5,v6,v7,v8,v9,v10,v11,v12,rfl,s2,pic2,hd2⟩
   rw[List.getElem?_map] at hv
   obtain⟨z,hz,rfl⟩:=Option.map_eq_some_iff.mp hv
   obtain⟨p,hp,ez⟩:=pts.get hz
   obtain⟨hi,ep⟩:=List.getElem?_eq_some_iff.mp hp
   have ok:=pok.ok p (List.mem_of_getElem? hp)
   obtain⟨⟨dx2,hp2⟩,⟨kvs,hk2,_⟩,_⟩:=id pic2
   have ple:=pok.le
   refine⟨z,_,rfl,SqT.of (s2 _ _ ez),rfl,_,_,rfl,_,_,rfl,_,_,rfl,_,_,rfl,_,_,rfl,_,_,rfl,rfl,?_⟩
   refine⟨_,rfl,a,dx2,_,rfl,hp2,xa8 (by decide +kernel),_,rfl,_,rfl,_,rfl,_,rfl,_,rfl,_,rfl,?_⟩
   refine⟨a,dp,do_,w,ph,ps.take i,p.nm,p.x,p.y,p.sd,p.lo,p.hi,.int p.hi,rfl,pic2,.inr rfl,ok.nm,ok.x1,ok.x2,ok.y1,ok.y2,ok.sd,ok.l1,ok.l2,ok.l3,fun p' hp'=>?_,?_,fun H3 k3 pic3=>?_⟩
   .have e:=ep.symm
    subst e
    exact⟨xfw _ pok.nn hi p' hp',xfw _ pok.nx hi p' hp',xfw _ pok.ny hi p' hp'⟩
   .rw [List.length_take]
    omega
   .refine ⟨_,_,_,_,_,_,_,_,rfl,fun b u e=>k3 b u (xi e fdp) (s2 b u e),?_,k3 _ _ (x5 hd2 hk2 (fun z=>nomatch z)) hd2⟩
    rw[List.take_add_one,hp]
    exact pic3
  .rintro σ H2 ⟨v5,v6,v7,v8,v9,v10,v11,v12,rfl,s2,pic2,hd2⟩
   rw[List.length_map,pl,List.take_length] at pic2
   refine⟨_,rfl,m,rfl,⟨_,SqL.of (s2 _ _ hm)⟩,?_⟩
   refine xa6 (xs:=rs.map V.ref) (Pv:=fun i σ H3=>∃ v5 v6 v7 v8 v9 v10 v11 v12:Option V,σ=[some (.int w),some (.int ph),some (.ref l),some (.ref m),some (.ref a),v5,v6,v7,v8,v9,v10,v11,v12]/\Same H H3/\Pic t H3 a dp do_ w ph ps/\Sts H3 do_ (ss.take i)) ⟨_,_,_,_,_,_,_,_,rfl,s2,pic2,[],hd2,rfl,List.nodup_nil,by simp⟩ (fun _ _ _ _ ⟨_,_,_,_,_,_,_,_,_,z,_⟩=>SqL.of (z _ _ hm)) ?_ ?_
   .rintro i v σ H3 hv ⟨v5,v6,v7,v8,v9,v10,v11,v12,rfl,s3,pic3,st3⟩
    rw[List.getElem?_map] at hv
    obtain⟨z,hz,rfl⟩:=Option.map_eq_some_iff.mp hv
    obtain⟨s0,hs0,ez⟩:=sts.get hz
    obtain⟨hi,es⟩:=List.getElem?_eq_some_iff.mp hs0
    obtain⟨b,r⟩:=s0
    obtain⟨r1,r2⟩:=srow _ (List.mem_of_getElem? hs0)
    obtain⟨⟨dx3,hp3⟩,_,_⟩:=id pic3
    have nin:(b,r)∉ss.take i:=fun hmem=>by
     have:=xfw id (by simpa using snd) hi _ hmem
     exact this (by rw[es])
    refine⟨z,_,rfl,SqT.of (s3 _ _ ez),rfl,_,_,rfl,_,_,rfl,rfl,?_⟩
    refine⟨_,rfl,a,dx3,_,rfl,hp3,xa8 (by decide +kernel),_,rfl,_,rfl,?_⟩
    refine⟨a,dp,do_,w,ph,ps,ss.take i,b,r,rfl,pic3,st3,r1,r2,nin,?_,fun H4 k4 pic4 st4=>?_⟩
    .rw [List.length_take]
     omega
    .refine ⟨_,_,_,_,_,_,_,_,rfl,fun c u e=>k4 c u (xi e fdo) (s3 c u e),pic4,?_⟩
     rw[List.take_add_one,hs0]
     exact st4
   .rintro σ H3 ⟨v5,v6,v7,v8,v9,v10,v11,v12,rfl,s3,pic3,st3⟩
    rw[List.length_map,sl,List.take_length] at st3
    exact⟨_,rfl,q H3 a dp do_ s3 hx fdp fdo pic3 st3⟩
end
theorem Pl.drop {H:Hp}{ps:List Pt}{kvs:List (Key × V)} (h:Pl H ps kvs) (nm:Str):Pl H (ps.filter fun p=>decide (p.nm≠nm)) (xei kvs (.inr nm)):=by
 induction h with
 | nil=>exact .nil
 | @cons p q ps kvs h r ih =>
  unfold xei at ih ⊢
  by_cases c:p.nm=nm
  .rw [List.filter_cons_of_neg (by simp[c]),List.filter_cons_of_neg (by simp[c])]
   exact ih
  .have c':¬ (Sum.inr p.nm:Key)=Sum.inr nm:=fun z=>c (Sum.inr.inj z)
   rw[List.filter_cons_of_pos (by simpa using c),List.filter_cons_of_pos (by simpa using c')]
   exact .cons h ih
def xs0 (t:Adr):Sp:=fun vs H Q _=>∃(a dp do_:Addr) (pw ph:Int) (ps:List Pt) (nm:Str) (pt:Pt),vs=[.ref a,.str nm]/\Pic t H a dp do_ pw ph ps/\isNm nm=true/\ps.find? (fun p=>decide (p.nm=nm))=some pt /\
 ∀ H',(∀ b u,b≠dp->H b=some u->H' b=some u)->Pic t H' a dp do_ pw ph (ps.filter fun p=>decide (p.nm≠nm))->Q .non H'
section
variable {P:Program}{w:World}{K:PySem.W.Frag}{mg:Str->Option Value}{base:Heap}{t:Adr}
theorem ok_ac (T:Txt w K mg t):FnOk true P w K mg base (CXo P w) 4 t.f_ac t.d_ac ["self", "name"] (xs0 t):=by
 refine T.F_ac.okn (k:=3) sc_ac (fun vs H Q E h=>?_) (fun cdv A outer s H vs Q E hr h=>?_)
 .obtain ⟨a,dp,do_,pw,ph,ps,nm,pt,rfl,_⟩:=h
  rfl
 .obtain ⟨a,dp,do_,pw,ph,ps,nm,pt,rfl,h⟩:=h
  refine⟨_,xk (xaw (xa0 (pv 0) T.c_n T.m_b (ok_b T) (hr.mono (by decide)) T.b_b .nil xj (xa (pv 1) (xb))))
   (xm (xaw (xpc (xae (pv 0) rfl) (pv 1) ⟨rfl,rfl,rfl,rfl⟩))),?_⟩
  obtain⟨pic,hn,hf,q⟩:=h
  obtain⟨⟨dx,hp⟩,⟨kvs,hk,pl⟩,w1,w2,h1,h2,le⟩:=id pic
  obtain⟨q0,e,hq0⟩:=pl.find hf
  refine⟨_,rfl,a,dx,_,rfl,hp,xa8 (by decide +kernel),_,rfl,a,dp,do_,pw,ph,ps,nm,pt,rfl,pic,hn,hf,?_⟩
  refine⟨_,rfl,a,_,dx,_,_,rfl,hp,T.c_n,T.n_a4,lkP,dp,rfl,.inl ⟨_,.inl hk⟩,_,rfl,kvs,.inr nm,.ref q0,hk,rfl,e,?_⟩
  have bt:∀ b u,b≠dp->H b=some u->upd H dp (.dK (xei kvs (.inr nm))) b=some u:=fun b u nb e=>by
   rw[xg nb]
   exact e
  refine q _ bt ⟨⟨dx,bt _ _ (x5 hp hk (fun z=>nomatch z)) hp⟩,⟨_,xf,(pl.drop nm).keep fun b xs e=>bt _ _ (x5 e hk (fun z=>nomatch z)) e⟩,w1,w2,h1,h2,Nat.le_trans (List.length_filter_le _ _) le⟩
end
abbrev Pr:=Pt × Bool × Int
def prV (p:Pr):List V:=[.str p.1.nm,.str (xai p.2.1),.int p.2.2]
inductive PrsL (H:Hp):List Pr->List Addr->Prop
 | nil:PrsL H [] []
 | cons {p:Pr}{q:Addr}{ps:List Pr}{qs:List Addr} (h:H q=some (.tup (prV p))) (r:PrsL H ps qs):PrsL H (p::ps) (q::qs)
theorem PrsL.keep {H H':Hp} (s:Tups H H') {ps:List Pr}{qs:List Addr} (h:PrsL H ps qs):PrsL H' ps qs:=by
 induction h with
 | nil=>exact .nil
 | cons h _ ih=>exact .cons (s _ _ h) ih
theorem PrsL.len {H:Hp}{ps:List Pr}{qs:List Addr} (h:PrsL H ps qs):qs.length=ps.length:=by
 induction h with
 | nil=>rfl
 | cons _ _ ih=>simp[ih]
theorem PrsL.snoc {H:Hp}{ps:List Pr}{qs:List Addr} (h:PrsL H ps qs) {p:Pr}{q:Addr} (e:H q=some (.tup (prV p))):PrsL H (ps++[p]) (qs++[q]):=by
 induction h with
 | nil=>exact .cons e .nil
 | cons h _ ih=>exact .cons h ih
theorem PrsL.get {H:Hp}{ps:List Pr}{qs:List Addr} (h:PrsL H ps qs) {i:Nat}{q:Addr} (e:qs[i]?=some q):∃ p,ps[i]?=some p/\H q=some (.tup (prV p)):=by
 induction h generalizing i with
 | nil=>simp at e
 | @cons p q' ps qs h _ ih =>
  cases i with
  | zero =>
   simp at e
   subst e
   exact⟨p,rfl,h⟩
  | succ j=>exact ih (by simpa using e)
structure PrOk (ps:List Pt) (w h:Int) (p:Pr):Prop where
 nm:isNm p.1.nm=true
 fd:ps.find? (fun z=>decide (z.nm=p.1.nm))=some p.1
 r1:1<=p.2.2
 r2:p.2.2<=h
 xy:1<=p.1.x/\p.1.x<=w/\1<=p.1.y/\p.1.y<=h
def scD:V->DV
 | .int i=>.int i
 | .bl b=>.bl b
 | .str s=>.str s
 | _=>.non
def scV:V->Bool
 | .int _=>true
 | .bl _=>true
 | .str _=>true
 | .non=>true
 | _=>false
theorem xs9 {K:PySem.W.Frag}{H:Hp}{v:V} (h:scV v=true):Dv K H 0 v (scD v):=by
 cases v with
 | int i=>exact .int
 | bl b=>exact .bl
 | str s=>exact .str
 | non=>exact .non
 | _=>cases h
theorem xd2 {K:PySem.W.Frag}{H:Hp}{xs:List V} (f:xs.all scV=true) (j:Nat) (x:V) (d:DV) (h1:xs[j]?=some x) (h2:(xs.map scD)[j]?=some d):Dv K H 0 x d:=by
 rw[List.getElem?_map,h1] at h2
 cases h2
 exact xs9 (List.all_eq_true.mp f x (List.mem_of_getElem? h1))
abbrev Cl:=Int × Int
def ck (c:Cl):List Key:=[.inl c.1,.inl c.2]
theorem xry {a b:Cl} (h:ck a=ck b):a=b:=by
 obtain⟨x,y⟩:=a
 obtain⟨u,v⟩:=b
 have h1:=List.cons.inj h
 have h2:=List.cons.inj h1.2
 rw[show x=u from Sum.inl.inj h1.1,show y=v from Sum.inl.inj h2.1]
def SD (H:Hp) (d:Addr) (n:Nat) (m:Cl->Option Str):Prop:=∃ kvs,H d=some (.dT kvs)/\kvs.length<=n/\(kvs.map (·.1)).Nodup/\(∀ kv∈kvs,∃ c,kv.1=ck c)/\∀ c,valV kvs (ck c)=(m c).map V.str
theorem xik {κ:Type} [DecidableEq κ] (kvs:List (κ × V)) (k:κ) (v:V):(putK kvs k v).map (·.1)=kvs.map (·.1)\/(valV kvs k=none/\(putK kvs k v).map (·.1)=kvs.map (·.1)++[k]):=by
 cases e:valV kvs k with
 | none =>
  rw[xdd v e,List.map_append]
  exact .inr ⟨rfl,rfl⟩
 | some y =>
  left
  unfold putK
  rw[if_pos (by rw[xda,e]; rfl),List.map_map]
  congr 1
  funext kv
  show (if kv.1=k then (kv.1,v) else kv).1=kv.1
  split<;>rfl
theorem xgl {κ:Type} [DecidableEq κ]:∀{kvs:List (κ × V)}{k:κ},valV kvs k=none->k∉kvs.map (·.1)
 | [],_,_,h=>nomatch h
 | x::r,k,e,h=>by
  by_cases z:x.1=k
  .rw [xa5 z] at e
   cases e
  .rw [xa2 z] at e
   rcases List.mem_cons.mp h with h|h
   .exact z h.symm
   .exact xgl e h
theorem xk8 {κ:Type} [DecidableEq κ] {kvs:List (κ × V)}{k:κ}{v:V} (h:(kvs.map (·.1)).Nodup):((putK kvs k v).map (·.1)).Nodup:=by
 rcases xik kvs k v with e|⟨e0,e⟩
 .rw [e]
  exact h
 .rw [e,List.nodup_append]
  refine⟨h,by simp,fun a ha b hb z=>xgl e0 ?_⟩
  rw[List.mem_singleton.mp hb] at z
  exact z▸ha
theorem xjg {κ:Type} [DecidableEq κ] {kvs:List (κ × V)}{k:κ}{v:V}{P:κ->Prop} (hk:P k) (h:∀ kv∈kvs,P kv.1):∀ kv∈putK kvs k v,P kv.1:=fun kv hkv=>by
 have m:kv.1∈(putK kvs k v).map (·.1):=List.mem_map.mpr ⟨kv,hkv,rfl⟩
 rcases xik kvs k v with e|⟨_,e⟩
 .rw [e] at m
  obtain⟨z,hz,ez⟩:=List.mem_map.mp m
  rw[<- ez]
  exact h z hz
 .rw [e] at m
  rcases List.mem_append.mp m with m|m
  .obtain ⟨z,hz,ez⟩:=List.mem_map.mp m
   rw[<- ez]
   exact h z hz
  .rw [List.mem_singleton.mp m]
   exact hk
theorem SD.put {H:Hp}{d:Addr}{n:Nat}{m:Cl->Option Str} (s:SD H d n m) (hn:n<1000) {b:Addr}{c:Cl} (eb:H b=some (.tup [.int c.1,.int c.2])) (x:Str) :
    ∃ H',DPut H d (.ref b) (.str x) H'/\SD H' d (n+1) (Drw.set1 m c x)/\(∀ a u,a≠d->H a=some u->H' a=some u)/\∀ a,H a=none->H' a=none:=by
  obtain⟨kvs,e,l,nd,ks,vs⟩:=s
  refine⟨_,DPut.t (k:=ck c) e eb (Nat.lt_of_le_of_lt (by omega:_<=1000) (by decide)),⟨_,xf,?_,xk8 nd,xjg (P:=fun k=>∃ c,k=ck c) ⟨c,rfl⟩ ks,fun z=>?_⟩,fun a u na ea=>by rw[xg na]; exact ea,fun a ea=>by rw[xg (fun z=>by rw[z,e] at ea; cases ea)]; exact ea⟩
  . have:=xbx kvs (ck c) (.str x)
    omega
  . rw[xj7]
    unfold Drw.set1
    by_cases zc:z=c
    . rw[if_pos (by rw[zc]),if_pos zc]
      rfl
    . rw[if_neg (fun y=>zc (xry y)),if_neg zc]
      exact vs z
theorem SD.get {H:Hp}{d:Addr}{n:Nat}{m:Cl->Option Str} (s:SD H d n m) {b:Addr}{c:Cl} (eb:H b=some (.tup [.int c.1,.int c.2])):DGet H d (.ref b) ((m c).map V.str):=by
 obtain⟨kvs,e,l,nd,ks,vs⟩:=s
 rw[<- vs c]
 exact DGet.t (k:=ck c) e eb
theorem SD.keep {H H':Hp}{d:Addr}{n:Nat}{m:Cl->Option Str} (s:SD H d n m) (h:∀ u,H d=some u->H' d=some u):SD H' d n m:=by
 obtain⟨kvs,e,r⟩:=s
 exact⟨kvs,h _ e,r⟩
theorem SD.le {H:Hp}{d:Addr}{n k:Nat}{m:Cl->Option Str} (s:SD H d n m) (h:n<=k):SD H d k m:=by
 obtain⟨kvs,e,l,r⟩:=s
 exact⟨kvs,e,by omega,r⟩
theorem SD.new {H:Hp}{d:Addr} (e:H d=some (.dT [])):SD H d 0 Drw.no:=⟨[],e,Nat.le_refl _,List.nodup_nil,fun _ z=>(nomatch z),fun _=>rfl⟩
def lsS (x r:Int) (c:Cl):Str:=Drw.ls (Str.ofString "+") (Str.ofString "|") (Str.ofString "-") x r c
def ledS (w:Int) (p:Pr):List (Cl × Str):=Drw.ledP (Str.ofString "+") (Str.ofString "|") (Str.ofString "-") w p.1.x p.1.y p.2.1 p.2.2
def hsS:Str:=Str.ofString "#"
theorem xm0 {w x y:Int}{b:Bool}{r:Int} (h1:1<=x) (h2:x<=w) (h3:w<=30) (h4:1<=y) (h5:y<=16) (h6:1<=r) (h7:r<=16):(Geo.cells w x y b r).length<=50:=by
 unfold Geo.cells Geo.upL Geo.lvL Geo.upN Geo.lvN
 rw[List.length_append,List.length_map,List.length_map,List.length_range,List.length_range]
 split<;>split<;>omega
theorem xrh (c d:Cl):DV.tup [.int c.1,.int c.2]=DV.tup [.int d.1,.int d.2]↔c=d:=by
 constructor
 .intro h
  have h1:=List.cons.inj (DV.tup.inj h)
  have h2:=List.cons.inj h1.2
  exact Prod.ext (DV.int.inj h1.1) (DV.int.inj h2.1)
 .intro h
  rw[h]
def xqh:Sp:=fun vs H Q _=>∃(q:Addr) (c:Cl) (x r:Int),vs=[.ref q,.int x,.int r]/\H q=some (.tup [.int c.1,.int c.2])/\∀ H',Same H H'->Q (.str (lsS x r c)) H'
def xpn (t:Adr):Sp:=fun vs H Q _=>∃(a l dp do_:Addr) (pw ph:Int) (ps:List Pt) (prs:List Pr) (qs:List Addr),vs=[.ref a,.ref l]/\Pic t H a dp do_ pw ph ps/\H l=some (.lst (qs.map V.ref))/\PrsL H prs qs/\(∀ p∈prs,PrOk ps pw ph p)/\prs.length<=12 /\
 ∀ H' d,Same H H'->H d=none->SD H' d 600 (Drw.marks hsS Drw.no (prs.flatMap (ledS pw)))->Q (.ref d) H'
section
variable {P:Program}{w:World}{K:PySem.W.Frag}{mg:Str->Option Value}{base:Heap}{t:Adr}
theorem ok_aj (T:Txt w K mg t):FnOk true P w K mg base (CXo P w) 1 t.f_aj t.d_aj ["cell", "x", "row"] (xqh):=by
 refine T.F_aj.okn (k:=0) sc_aj (fun vs H Q E h=>?_) (fun cdv A outer s H vs Q E hr h=>?_)
 .obtain ⟨q,c,x,r,rfl,_⟩:=h
  rfl
 .obtain ⟨q,c,x,r,rfl,h⟩:=h
  refine⟨_,xk (xao (xaa (xka (xb6 hr)) (pv 0) (xab (xa (pv 1) (xa (pv 2) (xb)))) (xaf _)) (xm (x0 (xad))) (x9))
   (xm (x0 (xc7 (xaa xby (xay xaz (pv 0) (xn) (fun _ _=>rfl)) (pv 1) (xaf _)) (xad) (xad)))),?_⟩
  obtain⟨hq,h⟩:=h
  refine⟨_,rfl,_,rfl,_,rfl,(by show 2<=sizeLine; decide),fun p1 hp1=>?_⟩
  have s1:Same H (upd H p1 (.tup [.int x,.int r])):=xp (Same.refl _) hp1
  have g1:upd H p1 (.tup [.int x,.int r]) p1=some (.tup [.int x,.int r]):=xf
  revert s1 g1
  generalize upd H p1 (.tup [.int x,.int r])=H1
  intro s1 g1
  have d1:Dv K H1 1 (.ref q) (.tup [.int c.1,.int c.2]):=.tup (SqT.of (s1 _ _ hq)) rfl (xd2 (xs:=[.int c.1,.int c.2]) rfl)
  have d2:Dv K H1 1 (.ref p1) (.tup [.int x,.int r]):=.tup (SqT.of g1) rfl (xd2 (xs:=[.int x,.int r]) rfl)
  refine⟨1,1,_,_,d1,d2,by decide,by decide,_,rfl,?_⟩
  rw[xkv (x:=c) (y:=(x,r)) rfl rfl (xrh c (x,r))]
  have e0:lsS x r c=if c=(x,r) then Str.ofString "+" else if c.1=x then Str.ofString "|" else Str.ofString "-":=rfl
  refine ite2 (fun z=>?_) (fun z=>?_)
  .have e:=h H1 s1
   rw[e0,if_pos (of_decide_eq_true z)] at e
   exact e
  .have nz:¬ c=(x,r):=fun y=>z (decide_eq_true y)
   refine⟨_,rfl,q,_,0,.int c.1,rfl,rfl,SqT.of (s1 _ _ hq),rfl,_,rfl,rfl,_,rfl,?_⟩
   have e:=h H1 s1
   rw[e0,if_neg nz] at e
   refine ite2 (fun y=>?_) (fun y=>?_)
   .have y1:c.1=x:=V.int.inj (of_decide_eq_true y)
    rw[if_pos y1] at e
    exact e
   .have y1:¬ c.1=x:=fun w=>y (decide_eq_true (by rw[w]))
    rw[if_neg y1] at e
    exact e
theorem ok_x (T:Txt w K mg t):FnOk true P w K mg base (CXo P w) 7 t.f_x t.d_x ["picture", "pairs"] (xpn t):=by
 refine T.F_x.okn (k:=6) sc_x (fun vs H Q E h=>?_) (fun cdv A outer s H vs Q E hr h=>?_)
 .obtain ⟨a,l,dp,do_,pw,ph,ps,prs,qs,rfl,_⟩:=h
  rfl
 .obtain ⟨a,l,dp,do_,pw,ph,ps,prs,qs,rfl,h⟩:=h
  refine⟨_,xk (x8 (i:=2) sc_x.nd rfl (Or.inl rfl) (xgs))
   (xk (xa4 PassesOwn.never rfl (xar (pv 1)) (xat rfl (xq (xo (i:=3) sc_x.nd rfl (Or.inl rfl)) (xq (xo (i:=4) sc_x.nd rfl (Or.inl rfl)) (xq (xo (i:=5) sc_x.nd rfl (Or.inl rfl)) (xak))))) (xk (xd3 (xa0 (pv 0) T.c_n T.m_e (ok_e T) (hr.mono (by decide)) T.b_e .nil xj (xa (pv 3) (xb))) (xat rfl (xq (xo (i:=6) sc_x.nd rfl (Or.inl rfl)) (xq (xo (i:=7) sc_x.nd rfl (Or.inl rfl)) (xak)))))
   (xm (xa4 PassesOwn.never rfl (xar (xt (ok_ay T) (hr.mono (by decide)) rfl T.g_ay T.F_ay.kp T.b_ay .nil xj (xa (pv 0) (xa (pv 3) (xa (pv 4) (xa (pv 5) (xb))))))) (xo (i:=8) sc_x.nd rfl (Or.inl rfl)) (xm (xb7 (xbc hr) (pv 2) (pv 8) (xc7 (xd6 (xg0 (xbc hr) (pv 8) (pv 2))) (xad) (xt (ok_aj T) (hr.mono (by decide)) rfl T.g_aj T.F_aj.kp T.b_aj .nil xj (xa (pv 8) (xa (pv 6) (xa (pv 5) (xb)))))) rfl))))))
   (xm (x0 (pv 2)))),?_⟩
  obtain⟨pic,hl,prl,oks,l12,q⟩:=h
  have pll:=prl.len
  refine fun d hd=>?_
  have s1:Same H (upd H d (.dT [])):=xp (Same.refl _) hd
  have g1:upd H d (.dT []) d=some (.dT []):=xf
  revert s1 g1
  generalize upd H d (.dT [])=H1
  intro s1 g1
  refine⟨_,rfl,l,rfl,⟨_,SqL.of (s1 _ _ hl)⟩,?_⟩
  refine xa6 (xs:=qs.map V.ref) (Pv:=fun i σ H5=>∃(v3 v4 v5 v6 v7 v8:Option V),σ=[some (.ref a),some (.ref l),some (.ref d),v3,v4,v5,v6,v7,v8]/\Same H H5/\SD H5 d (50*i) (Drw.marks hsS Drw.no ((prs.take i).flatMap (ledS pw)))) ⟨_,_,_,_,_,_,rfl,s1,SD.new g1⟩ ?_ ?_ ?_
  .rintro i σ H5 _ ⟨_,_,_,_,_,_,rfl,s5,_⟩
   exact SqL.of (s5 _ _ hl)
  .rintro i x σ H5 hx ⟨v3,v4,v5,v6,v7,v8,rfl,s5,sd⟩
   rw[List.getElem?_map,Option.map_eq_some_iff] at hx
   obtain⟨qa,hqa,rfl⟩:=hx
   obtain⟨⟨pt,b,r⟩,hp,hpq⟩:=prl.get hqa
   have ok:=oks _ (List.mem_of_getElem? hp)
   have i12:i<12:=by have:=(List.getElem?_eq_some_iff.mp hp).1; omega
   have w2:=pic.w2
   have h2:=pic.h2
   have xy:1<=pt.x/\pt.x<=pw/\1<=pt.y/\pt.y<=ph:=ok.xy
   have r1:1<=r:=ok.r1
   have r2:r<=ph:=ok.r2
   refine⟨qa,_,rfl,SqT.of (s5 _ _ hpq),rfl,_,_,rfl,_,_,rfl,_,_,rfl,rfl,?_⟩
   have pic5:=Pic.same s5 pic
   obtain⟨⟨dx,hpi⟩,_⟩:=id pic5
   refine⟨_,rfl,a,dx,_,rfl,hpi,xa8 (by decide +kernel),_,rfl,a,dp,do_,pw,ph,ps,pt.nm,pt,rfl,pic5,ok.nm,ok.fd,fun H6 q6 s6 hq6=>⟨q6,_,rfl,SqT.of hq6,rfl,_,_,rfl,_,_,rfl,rfl,?_⟩⟩
   refine⟨_,rfl,_,rfl,_,rfl,_,rfl,a,dp,do_,pw,ph,ps,pt.nm,pt,b,r,rfl,Pic.same s6 pic5,ok.nm,ok.fd,ok.r1,ok.r2,ok.xy,fun H7 l7 cq s7 hl7 cl7 c100=>⟨l7,rfl,⟨_,SqL.of hl7⟩,?_⟩⟩
   have sd7:=sd.keep (H':=H7) (fun u e=>s7 _ _ (s6 _ _ e))
   have ne7:l7≠d:=by
    obtain⟨kvs,e,_⟩:=sd7
    exact x5 hl7 e (fun z=>nomatch z)
   have cll:=cl7.len
   have c50:=xm0 (b:=b) xy.1 xy.2.1 w2 xy.2.2.1 (by omega) r1 (by omega)
   have ll:(ledS pw (pt,b,r)).length=cq.length:=by
    unfold ledS Drw.ledP
    rw[List.length_map,cll]
   refine xa6 (xs:=cq.map V.ref) (Pv:=fun j σ H8=>∃(v8:Option V),σ=[some (.ref a),some (.ref l),some (.ref d),some (.str pt.nm),some (.str (xai b)),some (.int r),some (.int pt.x),some (.int pt.y),v8]/\(∀ c u,c≠d->H7 c=some u->H8 c=some u)/\SD H8 d (50*i+j) (Drw.marks hsS (Drw.marks hsS Drw.no ((prs.take i).flatMap (ledS pw))) ((ledS pw (pt,b,r)).take j))) ⟨_,rfl,fun c u _ e=>e,sd7⟩ ?_ ?_ ?_
   .rintro j σ H8 _ ⟨_,rfl,k8,_⟩
    exact SqL.of (k8 _ _ ne7 hl7)
   .rintro j x σ H8 hx ⟨v8,rfl,k8,sd8⟩
    rw[List.getElem?_map,Option.map_eq_some_iff] at hx
    obtain⟨qc,hqc,rfl⟩:=hx
    obtain⟨c,hc,hc7⟩:=cl7.get hqc
    have j50:j<50:=by have:=(List.getElem?_eq_some_iff.mp hqc).1; omega
    have nqc:qc≠d:=by
     obtain⟨kvs,e,_⟩:=sd7
     exact x5 hc7 e (fun z=>nomatch z)
    have hc8:=k8 _ _ nqc hc7
    have stp:∀ m:Cl->Option Str,Drw.marks hsS m ((ledS pw (pt,b,r)).take (j+1))=Drw.mark1 hsS (Drw.marks hsS m ((ledS pw (pt,b,r)).take j)) c (lsS pt.x r c):=fun m=>by
     have e:(ledS pw (pt,b,r))[j]?=some (c,lsS pt.x r c):=by
      unfold ledS Drw.ledP
      rw[List.getElem?_map,hc]
      rfl
     rw[List.take_add_one,e]
     unfold Drw.marks
     rw[List.foldl_append]
     rfl
    refine⟨_,rfl,_,rfl,d,_,rfl,sd8.get hc8,_,rfl,ite2 (fun z=>?_) (fun z=>?_)⟩
    .rw [Option.isSome_map] at z
     obtain⟨H9,dput,sd9,k9,_⟩:=sd8.put (by omega) hc8 hsS
     refine⟨_,rfl,_,rfl,d,H9,rfl,dput,_,rfl,fun c u nc e=>k9 _ _ nc (k8 _ _ nc e),?_⟩
     rw[stp]
     unfold Drw.mark1
     rw[if_pos z]
     exact sd9
    .rw [Option.isSome_map] at z
     refine⟨_,rfl,_,rfl,_,rfl,qc,c,pt.x,r,rfl,hc8,fun H9 s9=>?_⟩
     obtain⟨H10,dput,sd10,k10,_⟩:=(sd8.keep (H':=H9) (fun u e=>s9 _ _ e)).put (by omega) (s9 _ _ hc8) (lsS pt.x r c)
     refine⟨_,rfl,_,rfl,d,H10,rfl,dput,_,rfl,fun c u nc e=>k10 _ _ nc (s9 _ _ (k8 _ _ nc e)),?_⟩
     rw[stp]
     unfold Drw.mark1
     rw[if_neg z]
     exact sd10
   .rintro σ H8 ⟨v8',rfl,k8,sd8⟩
    rw[List.length_map] at sd8
    refine⟨_,_,_,_,_,_,rfl,fun c u e=>k8 _ _ (xi e hd) (s7 _ _ (s6 _ _ (s5 _ _ e))),?_⟩
    rw[List.take_of_length_le (l:=ledS pw (pt,b,r)) (by omega)] at sd8
    have e:(prs.take (i+1)).flatMap (ledS pw)=(prs.take i).flatMap (ledS pw)++ledS pw (pt,b,r):=by
     rw[List.take_add_one,hp,List.flatMap_append]
     exact congrArg _ (List.append_nil _)
    rw[e]
    refine SD.le ?_ (show 50*i+cq.length<=50*(i+1) by omega)
    unfold Drw.marks at sd8 ⊢
    rw[List.foldl_append]
    exact sd8
  .rintro σ H5 ⟨v3,v4,v5,v6,v7,v8,rfl,s5,sd⟩
   refine⟨_,rfl,q H5 d s5 hd ?_⟩
   rw[List.length_map,List.take_of_length_le (by omega)] at sd
   exact sd.le (by omega)
end
theorem xgp {lo:Int}{m n:Nat}{g:TG}{σ:L2.St}{fr:List Nat}{te:TE}{l:Addr}{H1:Hp}{Q:VK} (hlen:m<sizeLine) (hl:H1 l=none) (f:Nat->V)
    (step:∀(i:Nat) H2,i<m->Same H1 H2->∀(N:V->Hp->Prop),(∀ H',Same H2 H'->N (f i) H')->g (.int (lo+i)) (blk0 σ fr n) H2 fun σ' H3=>te σ' H3 N)
    (fin:∀ H2,Same H1 H2->H2 l=some (.lst ((List.range m).map f))->Q (.ref l) H2):xc2 (Itr lo m) n g σ fr xdf te l H1 Q:=by
  refine xc4 hlen hl (fun i y _=>y=f i) (fun _ _ _ _ _ z=>z) (fun i H2 hi s N h=>step i H2 hi s N fun H' s'=>h _ H' s' rfl) (fun ys H2 s e ly fy=>fin H2 s ?_)
  rw[e]
  congr 2
  refine List.ext_getElem (by rw[ly,List.length_map,List.length_range]) fun i h1 h2=>?_
  rw[fy i _ (List.getElem?_eq_getElem h1),List.getElem_map,List.getElem_range]
def rimC (w:Int) (s:Seat):Cl:=(Drw.rim w s.1,s.2)
def xbl (w:Int) (ss:List Seat):List (Cl × Str):=ss.map fun s=>(rimC w s,Str.ofString ".")
def xbd (w:Int) (prs:List Pr):List (Cl × Str):=prs.map fun p=>(rimC w p.2,p.1.nm)
def ptsS (ps:List Pt):List (Cl × Str):=ps.map fun p=>((p.x,p.y),p.nm)
def xmi (w:Int) (ss:List Seat) (prs:List Pr):Cl->Option Str:=Drw.sets (Drw.sets Drw.no (xbl w ss)) (xbd w prs)
def rowT (w:Nat) (r:Int) (m:Cl->Option Str):Str:=Str.join (Str.ofString "") ((List.range (w+2)).map fun (j:Nat)=>(m ((j:Int),r)).getD (Str.ofString " "))
def xbs (w h:Nat) (m:Cl->Option Str):List V:=(List.range h).map fun (i:Nat)=>V.str (rowT w (1+(i:Int)) m)
def xl5 (m:Cl->Option Str):Prop:=∀ c s,m c=some s->s.length<=5
def xsz (t:Adr):Sp:=fun vs H Q _=>∃(a l dp do_:Addr) (pw ph:Int) (ps:List Pt) (ss srt:List Seat) (prs:List Pr) (qs:List Addr),vs=[.ref a,.ref l]/\Pic t H a dp do_ pw ph ps/\Sts H do_ ss/\ss.length<=32/\srt.Perm ss/\srt.Pairwise xbv/\H l=some (.lst (qs.map V.ref))/\PrsL H prs qs/\prs.length<=12 /\
 ∀ H' d,Same H H'->H d=none->SD H' d 50 (xmi pw srt prs)->Q (.ref d) H'
def xtn:Sp:=fun vs H Q _=>∃(d:Addr) (n w:Nat) (r:Int) (m:Cl->Option Str),vs=[.ref d,.int (w:Int),.int r]/\SD H d n m/\xl5 m/\w<=30/\∀ H',Same H H'->Q (.str (rowT w r m)) H'
theorem xpu {t:Adr}{σ:L2.St}{H:Hp}{Q:VK}{i j:Nat}{b:Bool}{w:Int} (hi:σ[i]?=some (some (.str (xai b)))) (hj:σ[j]?=some (some (.int w))) (h:∀ H',Same H H'->Q (.int (Drw.rim w b)) H') :
    xi1 t.C_aw (Str.ofString "rim") (sp1 (V.int 0)) [] (fun _ _ _ _=>False) (xl4 (xgo t) [] (fun _ _ _ _=>False) (xfy (tVar i) (xfy (tVar j) tNil))) tNil σ H Q \/
    xi1 t.C_ak (Str.ofString "rim") (xpv t) [] (fun _ _ _ _=>False) (xl4 (xgo t) [] (fun _ _ _ _=>False) (xfy (tVar i) (xfy (tVar j) tNil))) tNil σ H Q:=by
  cases b
  . refine .inr ⟨_,hi,_,hj,false,w,rfl,fun p H3 hp3 sd3 s3=>?_⟩
    obtain⟨ds,hs⟩:=id sd3
    exact⟨p,ds,_,rfl,hs,lno (by decide +kernel),p,w,rfl,sd3,h H3 s3⟩
  . refine .inl ⟨_,hi,_,hj,true,w,rfl,fun p H3 hp3 sd3 s3=>?_⟩
    obtain⟨ds,hs⟩:=id sd3
    exact⟨p,ds,_,rfl,hs,lno (by decide +kernel),_,rfl,h H3 s3⟩
theorem SD.puts {d:Addr}:∀(L:List (Addr × Cl × Str)) {H:Hp}{n:Nat}{m:Cl->Option Str},SD H d n m->n+L.length<=1000->(∀ x∈L,H x.1=some (.tup [.int x.2.1.1,.int x.2.1.2])) ->
    ∃ H2,xfv d H (L.map fun x=>(V.ref x.1,V.str x.2.2)) H2/\SD H2 d (n+L.length) (Drw.sets m (L.map fun x=>(x.2.1,x.2.2)))/\∀ a u,a≠d->H a=some u->H2 a=some u
  | [],H,n,m,s,_,_=>⟨H,.nil,s,fun _ _ _ e=>e⟩
  | x::L,H,n,m,s,hn,hk=>by
    rw[List.length_cons] at hn
    obtain⟨H1,dp,s1,k1,_⟩:=s.put (by omega) (hk x (List.mem_cons_self ..)) x.2.2
    obtain⟨H2,dps,s2,k2⟩:=SD.puts L s1 (by omega) (fun y hy=>by
      have e:=hk y (List.mem_cons_of_mem _ hy)
      obtain⟨kvs,ed,_⟩:=s
      exact k1 _ _ (x5 e ed (fun z=>nomatch z)) e)
    exact⟨H2,.cons dp dps,s2.le (by rw[List.length_cons]; omega),fun a u na e=>k2 _ _ na (k1 _ _ na e)⟩
theorem xim {H:Hp}{w:Int}:∀{ss:List Seat}{ys:List V},ys.length=ss.length->(∀(i:Nat) (y:V),ys[i]?=some y->∃ p kp s,y=.ref p/\ss[i]?=some s/\H p=some (.tup [.ref kp,.str (Str.ofString ".")])/\H kp=some (.tup [.int (Drw.rim w s.1),.int s.2])) ->
    ∃ L:List (Addr × Addr × Seat),ys=L.map (fun x=>V.ref x.1)/\L.map (·.2.2)=ss/\∀ x∈L,H x.1=some (.tup [.ref x.2.1,.str (Str.ofString ".")])/\H x.2.1=some (.tup [.int (Drw.rim w x.2.2.1),.int x.2.2.2])
  | [],[],_,_=>⟨[],rfl,rfl,fun _ z=>nomatch z⟩
  | s::ss,y::ys,hl,h=>by
    obtain⟨p,kp,s',rfl,es,h1,h2⟩:=h 0 y rfl
    cases es
    obtain⟨L,e1,e2,e3⟩:=xim (ss:=ss) (ys:=ys) (by simpa using hl) (fun i z hz=>h (i+1) z hz)
    refine⟨(p,kp,s)::L,by rw[e1]; rfl,by rw[<- e2]; rfl,fun x hx=>?_⟩
    rcases List.mem_cons.mp hx with rfl|hx
    . exact⟨h1,h2⟩
    . exact e3 x hx
  | [],_::_,hl,_=>nomatch hl
  | _::_,[],hl,_=>nomatch hl
theorem xdm {m:Cl->Option Str}{L:List (Cl × Str)}{i:Nat}{c:Cl}{x:Str} (h:L[i]?=some (c,x)):Drw.sets m (L.take (i+1))=Drw.set1 (Drw.sets m (L.take i)) c x:=by
 rw[List.take_add_one,h]
 unfold Drw.sets
 rw[List.foldl_append]
 rfl
section
variable {P:Program}{w:World}{K:PySem.W.Frag}{mg:Str->Option Value}{base:Heap}{t:Adr}
theorem ok_ap (T:Txt w K mg t):FnOk true P w K mg base (CXo P w) 7 t.f_ap t.d_ap ["picture", "pairs"] (xsz t):=by
 refine T.F_ap.okn (k:=6) sc_ap (fun vs H Q E h=>?_) (fun cdv A outer s H vs Q E hr h=>?_)
 .obtain ⟨a,l,dp,do_,pw,ph,ps,ss,srt,prs,qs,rfl,_⟩:=h
  rfl
 .obtain ⟨a,l,dp,do_,pw,ph,ps,ss,srt,prs,qs,rfl,h⟩:=h
  refine⟨_,xk (x8 (i:=2) sc_ap.nd rfl (Or.inr rfl) (xae (pv 0) rfl))
   (xk (x8 (i:=3) sc_ap.nd rfl (Or.inl rfl) (xb1 (xkl rfl (xr0 hr)) rfl T.n_dict boot_dict (xa (xbj rfl (xa1 (zs:=["side", "row"]) (ys:=["width"]) (fr:=[2]) (N0:=["picture", "pairs", "width", "signs", "name", "side", "row"]) (sc0:=xh s_ap) (by decide +kernel) rfl rfl rfl) (xar (xba (pv 0) T.c_n T.m_s (ok_s T) (hr.mono (by decide)) T.b_s .nil xj)) (fun _ _ _ _ _ ow nd=>(xat rfl (xq (xo (i:=0) nd rfl (Or.inl (ow _ (by simp))) (Or.inr (ow _ (by simp)))) (xq (xo (i:=1) nd rfl (Or.inl (ow _ (by simp))) (Or.inr (ow _ (by simp)))) (xak))):PG _ _ (gTup K 2 _))) (xdz (xbb (by decide) (xbb (by decide) (xc8)))) (fun _ _ _ _ _=>xbi) (fun _ _ _ _ _=>xab (xa (xab (xa (xep (xba (xt (ok_au T) (hr.mono (by decide)) rfl T.g_au T.F_au.kp T.b_au .nil xj (xa (pv 0) (xa (pv 2) (xb)))) T.c_aw T.m_w (ok_w T) (hr.mono (by decide)) T.b_w .nil xj) (xba (xt (ok_au T) (hr.mono (by decide)) rfl T.g_au T.F_au.kp T.b_au .nil xj (xa (pv 0) (xa (pv 2) (xb)))) T.c_ak T.m_q (ok_q T) (hr.mono (by decide)) T.b_q .nil xj)) (xa (pv 1) (xb)))) (xa (xad) (xb))))) (xb))))
   (xk (xa4 PassesOwn.never rfl (xar (pv 1)) (xat rfl (xq (xo (i:=4) sc_ap.nd rfl (Or.inl rfl)) (xq (xo (i:=5) sc_ap.nd rfl (Or.inl rfl)) (xq (xo (i:=6) sc_ap.nd rfl (Or.inl rfl)) (xak))))) (xm (xb7 (xbc hr) (pv 3) (xab (xa (xep (xba (xt (ok_au T) (hr.mono (by decide)) rfl T.g_au T.F_au.kp T.b_au .nil xj (xa (pv 5) (xa (pv 2) (xb)))) T.c_aw T.m_w (ok_w T) (hr.mono (by decide)) T.b_w .nil xj) (xba (xt (ok_au T) (hr.mono (by decide)) rfl T.g_au T.F_au.kp T.b_au .nil xj (xa (pv 5) (xa (pv 2) (xb)))) T.c_ak T.m_q (ok_q T) (hr.mono (by decide)) T.b_q .nil xj)) (xa (pv 6) (xb)))) (pv 4) rfl)))
   (xm (x0 (pv 3))))),?_⟩
  obtain⟨pic,sts,l32,pm,pw',hl,prl,l12,q⟩:=h
  obtain⟨⟨dx,hpi⟩,_⟩:=id pic
  have pll:=prl.len
  have lens:=pm.length_eq
  refine⟨_,rfl,a,_,_,_,_,rfl,hpi,T.c_n,T.n_a5,lkW,?_⟩
  refine⟨_,rfl,a,dx,_,rfl,hpi,xa8 (by decide +kernel),a,dp,do_,pw,ph,ps,ss,rfl,pic,sts,fun l1 ss' rs hl1 sl pm' pw2=>?_⟩
  obtain rfl:ss'=srt:=xb9 xef (pm'.trans pm.symm) pw2 pw'
  have s1:Same H (upd H l1 (.lst (rs.map V.ref))):=xp (Same.refl _) hl1
  have g1:upd H l1 (.lst (rs.map V.ref)) l1=some (.lst (rs.map V.ref)):=xf
  revert s1 g1
  generalize upd H l1 (.lst (rs.map V.ref))=H1
  intro s1 g1
  have sl1:=sl.keep (Same.tups s1)
  have rll:=sl.len
  refine⟨l1,rfl,⟨_,SqL.of g1⟩,fun l2 hl2=>?_⟩
  refine xdl (SqL.of g1) (by rw[List.length_map]; exact Nat.lt_of_le_of_lt (by omega:_<=1000) (by decide)) hl2 (fun i y H5=>∃ p kp s,y=.ref p/\ss'[i]?=some s/\H5 p=some (.tup [.ref kp,.str (Str.ofString ".")])/\H5 kp=some (.tup [.int (Drw.rim pw s.1),.int s.2])) ?_ ?_ ?_
  .rintro i y H5 H6 tp ⟨p,kp,s,e1,e2,e3,e4⟩
   exact⟨p,kp,s,e1,e2,tp _ _ e3,tp _ _ e4⟩
  .intro i x H5 hx s5 N hN
   rw[List.getElem?_map,Option.map_eq_some_iff] at hx
   obtain⟨qa,hqa,rfl⟩:=hx
   obtain⟨⟨b,r⟩,hs,hsq⟩:=sl1.get hqa
   refine⟨qa,_,rfl,SqT.of (s5 _ _ hsq),rfl,_,_,rfl,_,_,rfl,rfl,?_⟩
   refine xpu (i:=0) (j:=2) (b:=b) (w:=pw) rfl rfl fun H6 s6=>?_
   refine⟨_,rfl,(by show 2<=sizeLine; decide),fun kp hkp=>⟨(by show 2<=sizeLine; decide),fun p hp=>?_⟩⟩
   exact hN _ _ (s6.trans (xp (xp (Same.refl _) hkp) hp)) ⟨p,kp,(b,r),rfl,hs,xf,by rw[xg (xi xf hp)]; exact xf⟩
  .intro ys H5 s5 e5 ly fy
   obtain⟨L,rfl,e2,e3⟩:=xim (ss:=ss') (by rw[ly,List.length_map,rll]) fy
   have lL:L.length=ss'.length:=by rw[<- e2,List.length_map]
   refine⟨l2,L.map fun x=>(x.1,V.ref x.2.1,V.str (Str.ofString ".")),rfl,(by rw[List.map_map]; exact e5),?_,fun d hd=>?_⟩
   .intro p hp
    obtain⟨x,hx,rfl⟩:=List.mem_map.mp hp
    exact (e3 x hx).1
   have fd:H d=none:=s1.free (s5.free hd)
   obtain⟨H6,dps,sd6,k6⟩:=SD.puts (d:=d) (L.map fun x=>(x.2.1,rimC pw x.2.2,Str.ofString ".")) (SD.new (H:=upd H5 d (.dT [])) xf) (by rw[List.length_map]; omega) (fun x hx=>by
    obtain⟨z,hz,rfl⟩:=List.mem_map.mp hx
    rw[xg (xi (e3 z hz).2 hd)]
    exact (e3 z hz).2)
   refine⟨.dT [],H6,.inr rfl,?_,?_⟩
   .rw [List.map_map] at dps ⊢
    exact dps
   have k56:Same H H6:=fun c u e=>k6 _ _ (xi e fd) (by rw[xg (xi e fd)]; exact s5 _ _ (s1 _ _ e))
   have ed:(L.map fun x=>(x.2.1,rimC pw x.2.2,Str.ofString ".")).map (fun x=>(x.2.1,x.2.2))=xbl pw ss':=by
    unfold xbl
    rw[<- e2,List.map_map,List.map_map]
    rfl
   rw[ed] at sd6
   have sd6:=sd6.le (k:=32) (by rw[List.length_map]; omega)
   refine⟨_,rfl,l,rfl,⟨_,SqL.of (k56 _ _ hl)⟩,?_⟩
   refine xa6 (xs:=qs.map V.ref) (Pv:=fun i σ H7=>∃(v4 v5 v6:Option V),σ=[some (.ref a),some (.ref l),some (.int pw),some (.ref d),v4,v5,v6]/\Same H H7/\SD H7 d (32+i) (Drw.sets (Drw.sets Drw.no (xbl pw ss')) ((xbd pw prs).take i))) ⟨_,_,_,rfl,k56,sd6⟩ ?_ ?_ ?_
   .rintro i σ H7 _ ⟨_,_,_,rfl,s7,_⟩
    exact SqL.of (s7 _ _ hl)
   .rintro i x σ H7 hx ⟨v4,v5,v6,rfl,s7,sd7⟩
    rw[List.getElem?_map,Option.map_eq_some_iff] at hx
    obtain⟨qa,hqa,rfl⟩:=hx
    obtain⟨⟨pt,b,r⟩,hp,hpq⟩:=prl.get hqa
    have i12:i<12:=by have:=(List.getElem?_eq_some_iff.mp hp).1; omega
    refine⟨qa,_,rfl,SqT.of (s7 _ _ hpq),rfl,_,_,rfl,_,_,rfl,_,_,rfl,rfl,?_⟩
    refine⟨_,rfl,_,rfl,xpu (i:=5) (j:=2) (b:=b) (w:=pw) rfl rfl fun H8 s8=>?_⟩
    refine⟨_,rfl,(by show 2<=sizeLine; decide),fun kp hkp=>?_⟩
    have s9:Same H8 (upd H8 kp (.tup [.int (Drw.rim pw b),.int r])):=xp (Same.refl _) hkp
    have g9:upd H8 kp (.tup [.int (Drw.rim pw b),.int r]) kp=some (.tup [.int (Drw.rim pw b),.int r]):=xf
    revert s9 g9
    generalize upd H8 kp (.tup [.int (Drw.rim pw b),.int r])=H9
    intro s9 g9
    obtain⟨H10,dput,sd10,k10,_⟩:=(sd7.keep (H':=H9) (fun u e=>s9 _ _ (s8 _ _ e))).put (c:=rimC pw (b,r)) (by omega) g9 pt.nm
    refine⟨d,H10,rfl,dput,_,_,_,rfl,fun c u e=>k10 _ _ (xi e fd) (s9 _ _ (s8 _ _ (s7 _ _ e))),?_⟩
    rw[xdm (c:=rimC pw (b,r)) (x:=pt.nm)]
    .exact sd10
    .unfold xbd
     rw[List.getElem?_map,hp]
     rfl
   .rintro σ H7 ⟨v4,v5,v6,rfl,s7,sd7⟩
    refine⟨_,rfl,q H7 d s7 fd ?_⟩
    rw[List.length_map,List.take_of_length_le (l:=xbd pw prs) (by unfold xbd; rw[List.length_map]; omega)] at sd7
    exact sd7.le (by omega)
theorem ok_az (T:Txt w K mg t):FnOk true P w K mg base (CXo P w) 1 t.f_az t.d_az ["signs", "width", "row"] (xtn):=by
 refine T.F_az.okn (k:=0) sc_az (fun vs H Q E h=>?_) (fun cdv A outer s H vs Q E hr h=>?_)
 .obtain ⟨d,n,w',r,m,rfl,_⟩:=h
  rfl
 .obtain ⟨d,n,w',r,m,rfl,h⟩:=h
  refine⟨_,xm (x0 (xcl PySem.F.plainAttrs_str PySem.F.slot_str_join PySem.F.type_str_join xk3 (xad) (xa (xbj rfl (xa1 (zs:=["column"]) (ys:=["signs", "row"]) (fr:=[0,2]) (N0:=["signs", "width", "row"]) (sc0:=xh s_az) (by decide +kernel) rfl rfl rfl) (xic rfl T.n_range (xa (xx xap (pv 1) (xn)) (xb))) (fun _ _ _ _ _ ow nd=>xo (i:=0) nd rfl (Or.inl (ow _ (by simp))) (Or.inr (ow _ (by simp)))) (xbe (by decide)) (fun _ _ _ _ _=>xbi) (fun _ _ _ _ _=>xje (xbc hr) (pv 1) (xab (xa (pv 0) (xa (pv 2) (xb)))) (xad) ⟨rfl,rfl,rfl,rfl⟩)) (xb)))),?_⟩
  obtain⟨sd,sh,w30,q⟩:=h
  refine⟨rfl,_,rfl,_,_,rfl,rfl,((w'+2:Nat):Int),by rw[Int.natCast_add]; rfl,by omega,by omega,fun l1 hl1=>?_⟩
  refine xgp (Nat.lt_of_le_of_lt (by omega:_<=1000) (by decide)) hl1 (fun (j:Nat)=>V.str ((m ((j:Int),r)).getD (Str.ofString " "))) ?_ ?_
  .intro i H2 hi s2 N hN
   simp only[Int.zero_add]
   obtain⟨kvs,ed,_⟩:=id sd
   refine⟨_,rfl,d,rfl,.inr ⟨kvs,.inl (s2 _ _ ed)⟩,_,rfl,_,rfl,(by show 2<=sizeLine; decide),fun p hp=>?_⟩
   have s3:Same H2 (upd H2 p (.tup [.int (i:Int),.int r])):=xp (Same.refl _) hp
   have g3:upd H2 p (.tup [.int (i:Int),.int r]) p=some (.tup [.int (i:Int),.int r]):=xf
   revert s3 g3
   generalize upd H2 p (.tup [.int (i:Int),.int r])=H3
   intro s3 g3
   refine⟨_,(sd.keep (H':=H3) fun u e=>s3 _ _ (s2 _ _ e)).get (c:=((i:Int),r)) g3,?_⟩
   have e:((m ((i:Int),r)).map V.str).getD (V.str (Str.ofString " "))=V.str ((m ((i:Int),r)).getD (Str.ofString " ")):=by cases m ((i:Int),r)<;>rfl
   rw[e]
   exact hN H3 s3
  .intro H2 s2 e2
   rw[Int.toNat_natCast] at e2
   refine⟨Str.ofString "",l1,(List.range (w'+2)).map fun (j:Nat)=>(m ((j:Int),r)).getD (Str.ofString " "),5,rfl,rfl,(by rw[e2,List.map_map]; rfl),fun s hs=>?_,?_,q H2 s2⟩
   .obtain ⟨j,_,rfl⟩:=List.mem_map.mp hs
    cases e:m ((j:Int),r) with
    | none=>exact (by decide +kernel:(Str.ofString " ").length<=5)
    | some x=>exact sh _ _ e
   .rw [List.length_map,List.length_range,show (Str.ofString "").length=0 from by decide +kernel]
    exact Nat.le_trans (by omega:_<=1000) (by decide)
end
theorem xhm {κ:Type} [DecidableEq κ]:∀(more kvs:List (κ × V)) (k:κ),(more.map (·.1)).Nodup->valV (more.foldl (fun acc x=>putK acc x.1 x.2) kvs) k=(valV more k).or (valV kvs k)
 | [],kvs,k,_=>rfl
 | x::r,kvs,k,nd=>by
  rw[List.map_cons,List.nodup_cons] at nd
  show valV (r.foldl (fun acc x=>putK acc x.1 x.2) (putK kvs x.1 x.2)) k=_
  rw[xhm r _ k nd.2,xj7]
  by_cases e:x.1=k
  .subst e
   rw[xa5 rfl,if_pos rfl]
   have:valV r x.1=none:=by
    cases z:valV r x.1 with
    | none=>rfl
    | some y =>
     obtain⟨i,hi⟩:=xh3 z
     exact absurd (List.mem_map.mpr ⟨_,List.mem_of_getElem? hi,rfl⟩) nd.1
   rw[this]
   rfl
  .rw [xa2 e,if_neg (fun z=>e z.symm)]
theorem xhr {κ:Type} [DecidableEq κ] {P:κ->Prop}:∀(more kvs:List (κ × V)),(∀ kv∈more,P kv.1)->((kvs.map (·.1)).Nodup/\(∀ kv∈kvs,P kv.1))->((more.foldl (fun acc x=>putK acc x.1 x.2) kvs).map (·.1)).Nodup/\(∀ kv∈more.foldl (fun acc x=>putK acc x.1 x.2) kvs,P kv.1)/\(more.foldl (fun acc x=>putK acc x.1 x.2) kvs).length<=kvs.length+more.length
 | [],kvs,_,h=>⟨h.1,h.2,Nat.le_refl _⟩
 | x::r,kvs,hm,h=>by
  have z:=xhr r (putK kvs x.1 x.2) (fun kv hkv=>hm kv (List.mem_cons_of_mem _ hkv)) ⟨xk8 h.1,xjg (hm x (List.mem_cons_self ..)) h.2⟩
  refine⟨z.1,z.2.1,?_⟩
  have:=z.2.2
  have:=xbx kvs x.1 x.2
  rw[List.length_cons]
  show (r.foldl (fun acc x=>putK acc x.1 x.2) (putK kvs x.1 x.2)).length<=_
  omega
def xf3 (w:Int) (c:Cl):Prop:=(c.1=0\/c.1=w+1)/\1<=c.2/\c.2<=16
theorem xnh {α β:Type}{f:α->β}:∀{l:List α},(l.map f).Nodup->∀ a∈l,∀ b∈l,f a=f b->a=b
 | [],_,_,ha,_,_,_=>nomatch ha
 | x::l,nd,a,ha,b,hb,e=>by
  rw[List.map_cons,List.nodup_cons] at nd
  rcases List.mem_cons.mp ha with ea|ha'<;>rcases List.mem_cons.mp hb with eb|hb'
  .rw [ea,eb]
  .subst ea
   exact absurd (List.mem_map.mpr ⟨b,hb',e.symm⟩) nd.1
  .subst eb
   exact absurd (List.mem_map.mpr ⟨a,ha',e⟩) nd.1
  .exact xnh nd.2 a ha' b hb' e
def xe3 (w:Nat):List Cl:=((List.range 16).map fun (r:Nat)=>((0:Int),(r:Int)+1))++((List.range 16).map fun (r:Nat)=>((w:Int)+1,(r:Int)+1))
theorem xjf {w:Nat}{c:Cl} (h:xf3 w c):c∈xe3 w:=by
 obtain⟨u,v⟩:=c
 obtain⟨h1,h2,h3⟩:=h
 have h2:1<=v:=h2
 have h3:v<=16:=h3
 unfold xe3
 rw[List.mem_append,List.mem_map,List.mem_map]
 have e:((v-1).toNat:Int)+1=v:=by omega
 rcases h1 with h1|h1
 .have h1:u=0:=h1
  exact .inl ⟨(v-1).toNat,List.mem_range.mpr (by omega),by rw[e,h1]⟩
 .have h1:u=(w:Int)+1:=h1
  exact .inr ⟨(v-1).toNat,List.mem_range.mpr (by omega),by rw[e,h1]⟩
theorem xou {w:Nat} (w1:1<=w) (w2:w<=30) {a b:Cl} (ha:xf3 w a) (hb:xf3 w b) (e:th a.1 a.2=th b.1 b.2):a=b:=by
 have z:=xqd w (by omega) w1
 have y:((xe3 w).map fun c:Cl=>th c.1 c.2).Nodup:=by
  unfold xe3
  rw[List.map_append,List.map_map,List.map_map]
  exact z
 exact xnh y a (xjf ha) b (xjf hb) e
theorem SD.hash {X:Cx}{H:Hp}{d:Addr}{n w:Nat}{m:Cl->Option Str}{kvs:List (List Key × V)} (s:SD H d n m) (e:H d=some (.dT kvs)) (w1:1<=w) (w2:w<=30) (hm:∀ c,m c≠none->xf3 w c):(kvs.map fun x=>xf6 X x.1).Nodup:=by
 obtain⟨kvs',e',l,nd,ks,vs⟩:=s
 rw[e] at e'
 cases e'
 have on:∀ kv∈kvs,∃ c,kv.1=ck c/\xf3 w c:=fun kv hkv=>by
  obtain⟨c,ec⟩:=ks kv hkv
  refine⟨c,ec,hm c fun z=>?_⟩
  have y:=vs c
  rw[z] at y
  exact xgl y (List.mem_map.mpr ⟨kv,hkv,ec⟩)
 rw[List.Nodup,List.pairwise_map]
 rw[List.Nodup,List.pairwise_map] at nd
 refine List.Pairwise.imp_of_mem ?_ nd
 intro a b ha hb ne eh
 obtain⟨c,ec,oc⟩:=on a ha
 obtain⟨c',ec',oc'⟩:=on b hb
 rw[ec,ec'] at eh ne
 unfold ck at eh
 rw[xjn,xjn] at eh
 exact ne (by rw[xou w1 w2 oc oc' eh])
theorem SD.merge {H:Hp}{a b:Addr}{n k:Nat}{m m2:Cl->Option Str}{kvs more:List (List Key × V)} (s:SD H a n m) (s2:SD H b k m2) (ea:H a=some (.dT kvs)) (eb:H b=some (.dT more)):SD (upd H a (.dT (xcg kvs more))) a (n+k) (fun z=>(m2 z).or (m z)):=by
 obtain⟨kvs',ea',l,nd,ks,vs⟩:=s
 rw[ea] at ea'
 cases ea'
 obtain⟨more',eb',l2,nd2,ks2,vs2⟩:=s2
 rw[eb] at eb'
 cases eb'
 have z:=xhr (P:=fun k=>∃ c,k=ck c) more kvs ks2 ⟨nd,ks⟩
 refine⟨xcg kvs more,xf,?_,z.1,z.2.1,fun c=>?_⟩
 .have:=z.2.2
  unfold xcg
  omega
 .unfold xcg
  rw[xhm _ _ _ nd2,vs2,vs]
  show _=Option.map V.str ((m2 c).or (m c))
  cases m2 c<;>rfl
theorem xbk {P:Str->Prop}:∀{L:List (Cl × Str)}{m:Cl->Option Str},(∀ c s,m c=some s->P s)->(∀ x∈L,P x.2)->∀ c s,Drw.sets m L c=some s->P s
 | [],_,hm,_,c,s,e=>hm c s e
 | x::L,m,hm,hL,c,s,e=>by
  refine xbk (L:=L) (m:=Drw.set1 m x.1 x.2) (fun c s e=>?_) (fun y hy=>hL y (List.mem_cons_of_mem _ hy)) c s e
  unfold Drw.set1 at e
  split at e
  .cases e
   exact hL x (List.mem_cons_self ..)
  .exact hm c s e
theorem xcu {P:Str->Prop}{hs:Str} (hh:P hs):∀{L:List (Cl × Str)}{m:Cl->Option Str},(∀ c s,m c=some s->P s)->(∀ x∈L,P x.2)->∀ c s,Drw.marks hs m L c=some s->P s
 | [],_,hm,_,c,s,e=>hm c s e
 | x::L,m,hm,hL,c,s,e=>by
  refine xcu hh (L:=L) (m:=Drw.mark1 hs m x.1 x.2) (fun c s e=>?_) (fun y hy=>hL y (List.mem_cons_of_mem _ hy)) c s e
  unfold Drw.mark1 Drw.set1 at e
  split at e
  .cases e
   split
   .exact hh
   .exact hL x (List.mem_cons_self ..)
  .exact hm c s e
theorem xhe {L:List (Cl × Str)}{m:Cl->Option Str}{c:Cl} (h:Drw.sets m L c≠none):m c≠none\/∃ x∈L,x.1=c:=by
 by_cases z:c∈L.map (·.1)
 .obtain ⟨x,hx,e⟩:=List.mem_map.mp z
  exact .inr ⟨x,hx,e⟩
 .rw [Drw.sets_no z] at h
  exact .inl h
theorem xe4 {s:Str} (h:isNm s=true):s.length<=5:=by
 unfold isNm at h
 rw[Bool.and_eq_true] at h
 have:=of_decide_eq_true h.1
 omega
theorem xot (x r:Int) (c:Cl):(lsS x r c).length<=5:=by
 unfold lsS Drw.ls
 split
 .decide +kernel
 .split<;>decide +kernel
def xek (w:Int) (ps:List Pt) (ss:List Seat) (prs:List Pr):Cl->Option Str:=Drw.drawP hsS (prs.flatMap (ledS w)) (xbl w ss) (xbd w prs) (ptsS ps)
theorem xls {w:Int}{ps:List Pt}{ss:List Seat}{prs:List Pr} (h1:∀ p∈ps,isNm p.nm=true) (h2:∀ p∈prs,isNm p.1.nm=true):xl5 (xek w ps ss prs):=by
 have no:∀(c:Cl) (s:Str),(Drw.no:Cl->Option Str) c=some s->s.length<=5:=fun _ _ e=>nomatch e
 have n1:=xbk (P:=fun s=>s.length<=5) (L:=xbl w ss) no (fun x hx=>by
  obtain⟨z,_,rfl⟩:=List.mem_map.mp hx
  show (Str.ofString ".").length<=5
  decide +kernel)
 have n2:=xbk (P:=fun s=>s.length<=5) (L:=xbd w prs) n1 (fun x hx=>by
  obtain⟨z,hz,rfl⟩:=List.mem_map.mp hx
  exact xe4 (h2 z hz))
 have n3:=xcu (P:=fun s=>s.length<=5) (hs:=hsS) (by unfold hsS; decide +kernel) (L:=prs.flatMap (ledS w)) no (fun x hx=>by
  obtain⟨p,_,hx⟩:=List.mem_flatMap.mp hx
  obtain⟨c,_,rfl⟩:=List.mem_map.mp hx
  exact xot _ _ _)
 intro c s e
 refine xbk (P:=fun s=>s.length<=5) (L:=ptsS ps) (fun c s e=>?_) (fun x hx=>by
  obtain⟨z,hz,rfl⟩:=List.mem_map.mp hx
  exact xe4 (h1 z hz)) c s e
 cases e1:Drw.sets (Drw.sets Drw.no (xbl w ss)) (xbd w prs) c with
 | some y =>
  rw[e1] at e
  cases e
  exact n2 c _ e1
 | none =>
  rw[e1,Option.none_or] at e
  exact n3 c s e
structure Dr (t:Adr) (H:Hp) (a dp do_:Addr) (w h:Nat) (ps:List Pt) (ss srt:List Seat):Prop where
 pic:Pic t H a dp do_ (w:Int) (h:Int) ps
 sts:Sts H do_ ss
 ok:SsOk (h:Int) ss
 pm:srt.Perm ss
 lt:srt.Pairwise xbv
 nm:∀ p∈ps,isNm p.nm=true
def xqm (t:Adr):Sp:=fun vs H Q _=>∃(a l dp do_:Addr) (w h:Nat) (ps:List Pt) (ss srt:List Seat) (prs:List Pr) (qs:List Addr),vs=[.ref a,.ref l]/\Dr t H a dp do_ w h ps ss srt/\H l=some (.lst (qs.map V.ref))/\PrsL H prs qs/\(∀ p∈prs,PrOk ps (w:Int) (h:Int) p)/\prs.length<=12 /\
 ∀ H' l',Same H H'->H l'=none->H' l'=some (.lst (xbs w h (xek w ps srt prs)))->Q (.ref l') H'
section
variable {P:Program}{w:World}{K:PySem.W.Frag}{mg:Str->Option Value}{base:Heap}{t:Adr}
theorem xo6 (T:Txt w K mg t):FnOk true P w K mg base (CXo P w) 8 t.f_drawn t.d_drawn ["picture", "pairs"] (xqm t):=by
 refine T.F_drawn.okn (k:=7) xcf (fun vs H Q E h=>?_) (fun cdv A outer s H vs Q E hr h=>?_)
 .obtain ⟨a,l,dp,do_,w',h',ps,ss,srt,prs,qs,rfl,_⟩:=h
  rfl
 .obtain ⟨a,l,dp,do_,w',h',ps,ss,srt,prs,qs,rfl,h⟩:=h
  refine⟨_,xk (x8 (i:=2) xcf.nd rfl (Or.inr rfl) (xt (ok_x T) (hr.mono (by decide)) rfl T.g_x T.F_x.kp T.b_x .nil xj (xa (pv 0) (xa (pv 1) (xb)))))
   (xk (xaw (xcl PySem.F.plainAttrs_dict PySem.F.slot_dict_update PySem.F.type_dict_update (xni (xbc hr)) (pv 2) (xa (xt (ok_ap T) (hr.mono (by decide)) rfl T.g_ap T.F_ap.kp T.b_ap .nil xj (xa (pv 0) (xa (pv 1) (xb)))) (xb))))
   (xk (xa4 PassesOwn.never rfl (xar (xba (pv 0) T.c_n T.m_i (ok_i T) (hr.mono (by decide)) T.b_i .nil xj)) (xat rfl (xq (xo (i:=3) xcf.nd rfl (Or.inl rfl)) (xq (xo (i:=4) xcf.nd rfl (Or.inl rfl)) (xq (xo (i:=5) xcf.nd rfl (Or.inl rfl)) (xq (xo (i:=6) xcf.nd rfl (Or.inl rfl)) (xq (xo (i:=7) xcf.nd rfl (Or.inl rfl)) (xq (xo (i:=8) xcf.nd rfl (Or.inl rfl)) (xak)))))))) (xm (xb7 (xbc hr) (pv 2) (xab (xa (pv 4) (xa (pv 5) (xb)))) (pv 3) rfl)))
   (xm (x0 (xbj rfl (xa1 (zs:=["row"]) (ys:=["signs", "picture"]) (fr:=[2,0]) (N0:=["picture", "pairs", "signs", "name", "x", "y", "sides", "low", "high"]) (sc0:=xh xcx) (by decide +kernel) rfl rfl rfl) (xch rfl T.n_range (xa (xn) (xa (xx xap (xae (pv 0) rfl) (xn)) (xb)))) (fun _ _ _ _ _ ow nd=>xo (i:=0) nd rfl (Or.inl (ow _ (by simp))) (Or.inr (ow _ (by simp)))) (xbe (by decide)) (fun _ _ _ _ _=>xbi) (fun _ _ _ _ _=>xt (ok_az T) (hr.mono (by decide)) rfl T.g_az T.F_az.kp T.b_az .nil xj (xa (pv 1) (xa ((xae (pv 2) rfl:PE _ _ (tFld K _ _))) (xa (pv 0) (xb)))))))))),?_⟩
  obtain⟨dr,hl,prl,oks,l12,q⟩:=h
  have pic:=dr.pic
  have w1:=pic.w1
  have w2:=pic.w2
  have h2:=pic.h2
  have pl12:=pic.len
  obtain⟨⟨dx,hpi⟩,_⟩:=id pic
  refine⟨_,rfl,_,rfl,a,l,dp,do_,w',h',ps,prs,qs,rfl,pic,hl,prl,oks,l12,fun H1 d1 s1 f1 sd1=>?_⟩
  obtain⟨kvs,e1,_⟩:=id sd1
  refine⟨_,rfl,.inr (.inr (.inl ⟨rfl,.inr ⟨kvs,e1⟩⟩)),_,rfl,_,rfl,a,l,dp,do_,w',h',ps,ss,srt,prs,qs,rfl,Pic.same s1 pic,dr.sts.same s1,dr.ok.2.1,dr.pm,dr.lt,s1 _ _ hl,prl.keep (Same.tups s1),l12,fun H2 d2 s2 f2 sd2=>?_⟩
  obtain⟨more,e2,_⟩:=id sd2
  have e12:=s2 _ _ e1
  have ne:d1≠d2:=xi e1 f2
  have onr:∀ c,xmi w' srt prs c≠none->xf3 w' c:=fun c hc=>by
   rcases xhe hc with hc|⟨x,hx,rfl⟩
   .rcases xhe hc with hc|⟨x,hx,rfl⟩
    .exact absurd rfl hc
    .obtain ⟨z,hz,rfl⟩:=List.mem_map.mp hx
     have o:=dr.ok.2.2 z (dr.pm.mem_iff.mp hz)
     refine⟨?_,o.1,?_⟩
     .show Drw.rim w' z.1=0\/Drw.rim w' z.1=_
      unfold Drw.rim
      split
      .exact .inl rfl
      .exact .inr rfl
     .show z.2<=16
      omega
   .obtain ⟨z,hz,rfl⟩:=List.mem_map.mp hx
    have o:=oks z hz
    have o1:=o.r1
    have o2:=o.r2
    refine⟨?_,o1,?_⟩
    .show Drw.rim w' z.2.1=0\/Drw.rim w' z.2.1=_
     unfold Drw.rim
     split
     .exact .inl rfl
     .exact .inr rfl
    .show z.2.2<=16
     omega
  have ln1:kvs.length<=600:=by
   obtain⟨k',e',l',_⟩:=id sd1
   rw[e1] at e'
   cases e'
   exact l'
  have ln2:more.length<=50:=by
   obtain⟨k',e',l',_⟩:=id sd2
   rw[e2] at e'
   cases e'
   exact l'
  refine⟨d1,d2,kvs,more,rfl,rfl,ne,e12,e2,fun _=>sd2.hash e2 (by omega) (by omega) onr,by omega,?_⟩
  have sd3:=(sd1.keep (H':=H2) (fun u e=>s2 _ _ e)).merge sd2 e12 e2
  have s3:Same H (upd H2 d1 (.dT (xcg kvs more))):=fun c u e=>by
   rw[xg (xi e f1)]
   exact s2 _ _ (s1 _ _ e)
  revert sd3 s3
  generalize upd H2 d1 (.dT (xcg kvs more))=H3
  intro sd3 s3
  refine⟨_,rfl,a,dx,_,rfl,s3 _ _ hpi,xa8 (by decide +kernel),a,dp,do_,w',h',ps,rfl,Pic.same s3 pic,fun H4 l4 ds s4 hl4 pts4=>?_⟩
  have dl:=pts4.len
  have sd4:=sd3.keep (H':=H4) (fun u e=>s4 _ _ e)
  have nl4:l4≠d1:=by
   obtain⟨kv,e,_⟩:=sd4
   exact x5 hl4 e (fun z=>nomatch z)
  refine⟨l4,rfl,⟨_,SqL.of hl4⟩,?_⟩
  refine xa6 (xs:=ds.map V.ref) (Pv:=fun i σ H5=>∃(v3 v4 v5 v6 v7 v8:Option V),σ=[some (.ref a),some (.ref l),some (.ref d1),v3,v4,v5,v6,v7,v8]/\(∀ c u,c≠d1->H4 c=some u->H5 c=some u)/\SD H5 d1 (650+i) (Drw.sets (fun z=>(xmi w' srt prs z).or (Drw.marks hsS Drw.no (prs.flatMap (ledS w')) z)) ((ptsS ps).take i))) ⟨_,_,_,_,_,_,rfl,fun c u _ e=>e,sd4⟩ ?_ ?_ ?_
  .rintro i σ H5 _ ⟨_,_,_,_,_,_,rfl,k5,_⟩
   exact SqL.of (k5 _ _ nl4 hl4)
  .rintro i x σ H5 hx ⟨v3,v4,v5,v6,v7,v8,rfl,k5,sd5⟩
   rw[List.getElem?_map,Option.map_eq_some_iff] at hx
   obtain⟨qa,hqa,rfl⟩:=hx
   obtain⟨p,hp,hpq⟩:=pts4.get hqa
   have i12:i<12:=by have:=(List.getElem?_eq_some_iff.mp hp).1; omega
   have nqa:qa≠d1:=by
    obtain⟨kv,e,_⟩:=sd4
    exact x5 hpq e (fun z=>nomatch z)
   refine⟨qa,_,rfl,SqT.of (k5 _ _ nqa hpq),rfl,_,_,rfl,_,_,rfl,_,_,rfl,_,_,rfl,_,_,rfl,_,_,rfl,rfl,?_⟩
   refine⟨_,rfl,_,rfl,_,rfl,_,rfl,(by show 2<=sizeLine; decide),fun kp hkp=>?_⟩
   have s6:Same H5 (upd H5 kp (.tup [.int p.x,.int p.y])):=xp (Same.refl _) hkp
   have g6:upd H5 kp (.tup [.int p.x,.int p.y]) kp=some (.tup [.int p.x,.int p.y]):=xf
   revert s6 g6
   generalize upd H5 kp (.tup [.int p.x,.int p.y])=H6
   intro s6 g6
   obtain⟨H7,dput,sd7,k7,_⟩:=(sd5.keep (H':=H6) (fun u e=>s6 _ _ e)).put (c:=(p.x,p.y)) (by omega) g6 p.nm
   refine⟨d1,H7,rfl,dput,_,_,_,_,_,_,rfl,fun c u nc e=>k7 _ _ nc (s6 _ _ (k5 _ _ nc e)),?_⟩
   rw[xdm (c:=(p.x,p.y)) (x:=p.nm)]
   .exact sd7
   .unfold ptsS
    rw[List.getElem?_map,hp]
    rfl
  .rintro σ H5 ⟨v3,v4,v5,v6,v7,v8,rfl,k5,sd5⟩
   rw[List.length_map,List.take_of_length_le (l:=ptsS ps) (by unfold ptsS; rw[List.length_map]; omega)] at sd5
   have s5:Same H H5:=fun c u e=>k5 _ _ (xi e f1) (s4 _ _ (s3 _ _ e))
   have sd5:SD H5 d1 (650+ds.length) (xek w' ps srt prs):=sd5
   have hp5:=s5 _ _ hpi
   refine⟨_,rfl,a,_,_,_,_,rfl,hp5,T.c_n,T.n_a6,lkH,_,_,rfl,rfl,1,(h':Int)+1,rfl,⟨by decide,by decide,by omega,by omega⟩,fun l6 hl6=>?_⟩
   refine xgp (Nat.lt_of_le_of_lt (by omega:_<=1000) (by decide)) hl6 (fun (i:Nat)=>V.str (rowT w' (1+(i:Int)) (xek w' ps srt prs))) ?_ ?_
   .intro i H6 hi s6 N hN
    have hp6:=s6 _ _ hp5
    exact⟨_,rfl,_,rfl,a,_,_,_,_,rfl,hp6,T.c_n,T.n_a5,lkW,_,rfl,d1,_,w',1+(i:Int),_,rfl,sd5.keep (H':=H6) (fun u e=>s6 _ _ e),xls dr.nm (fun p hp=>(oks p hp).nm),by omega,hN⟩
   .intro H6 s6 e6
    refine q H6 l6 (s5.trans s6) (s5.free hl6) ?_
    rw[e6,show ((h':Int)+1-1).toNat=h' by omega]
    rfl
end
theorem xn4 {x d:Int} (h:0<d) (h2:d<=4294967296):-(2 ^ 64)<x % d/\x % d<2 ^ 64:=by
 have a:=Int.emod_nonneg x (show d≠0 by omega)
 have b:=Int.emod_lt_of_pos x h
 exact⟨by omega,by omega⟩
theorem xd1 (x:Int) {d:Int} (h:0<d):0<=x % d/\x % d<d:=⟨Int.emod_nonneg _ (by omega),Int.emod_lt_of_pos _ h⟩
def xsu (K:PySem.W.Frag):Sp:=fun vs H Q _=>∃(a:Addr) (ns:List Int) (k:Int),vs=[.ref a,.int k]/\SqL K H a (ns.map V.int)/\0<=k/\k<2 ^ 62/\∀ c:Int,Q (.int c) H
def xs8:Sp:=fun vs H Q _=>∃ c k:Int,vs=[.int c,.int k]/\∀ m:Int,0<=m->m<2147483587->Q (.int m) H
def xqa (K:PySem.W.Frag):Sp:=fun vs H Q _=>∃(a:Addr) (ns:List Int),vs=[.ref a]/\SqL K H a (ns.map V.int)/\∀(w h:Nat) H' p,1<=w->w<=30->1<=h->h<=16->Same H H'->H' p=some (.tup [.int (w:Int),.int (h:Int)])->Q (.ref p) H'
def xph (K:PySem.W.Frag):Sp:=fun vs H Q _=>∃(a:Addr) (ns:List Int) (h:Nat),vs=[.ref a,.int (h:Int)]/\SqL K H a (ns.map V.int)/\h<=16/\∀(ss:List Seat) (qs:List Addr) H' l,ss.length<=32->ss.Pairwise xbv->(∀ s∈ss,1<=s.2/\s.2<=(h:Int))->Same H H'->H l=none->H' l=some (.lst (qs.map V.ref))->xac H' ss qs->Q (.ref l) H'
theorem xho (a m d:Int) (h:0<d) (ha:0<=a):∃ x:Nat,a+m % d=(x:Int)/\a<=x/\(x:Int)<a+d:=by
 have z:=xd1 m h
 exact⟨(a+m % d).toNat,by omega,by omega,by omega⟩
section
variable {P:Program}{w:World}{K:PySem.W.Frag}{mg:Str->Option Value}{base:Heap}{t:Adr}
theorem ok_ad (T:Txt w K mg t):FnOk true P w K mg base (CXo P w) 1 t.f_ad t.d_ad ["_law_script", "_law_k"] (xsu K):=by
 refine T.F_ad.okn (k:=0) sc_ad (fun vs H Q E h=>?_) (fun cdv A outer s H vs Q E hr h=>?_)
 .obtain ⟨a,ns,k,rfl,_⟩:=h
  rfl
 .obtain ⟨a,ns,k,rfl,h⟩:=h
  refine⟨_,xk (xao (xaa xi3 (pv 1) (x6 xbn rfl T.n_len boot_len (xa (pv 0) (xb))) (xaf _)) (xm (x0 (xay xdw (pv 0) (pv 1) (fun _ _=>rfl)))) (x9))
   (xm (x0 (xn))),?_⟩
  obtain⟨hs,k0,k1,q⟩:=h
  refine⟨_,rfl,_,rfl,a,_,rfl,.inl hs,_,_,rfl,rfl,_,rfl,?_⟩
  refine ite2 (fun c=>?_) (fun c=>?_)
  .have c':k<(ns.length:Int):=by simpa using c
   obtain⟨j,rfl⟩:=Int.eq_ofNat_of_zero_le k0
   have lt:j<ns.length:=by omega
   exact⟨_,rfl,_,rfl,a,_,_,_,rfl,rfl,hs,xdx (by rw[List.getElem?_map,List.getElem?_eq_getElem lt]; rfl),q _⟩
  .exact q _
theorem ok_v (T:Txt w K mg t):FnOk true P w K mg base (CXo P w) 1 t.f_v t.d_v ["_law_cell", "_law_k"] (xs8):=by
 refine T.F_v.okn (k:=0) sc_v (fun vs H Q E h=>?_) (fun cdv A outer s H vs Q E hr h=>?_)
 .obtain ⟨c,k,rfl,_⟩:=h
  rfl
 .obtain ⟨c,k,rfl,h⟩:=h
  refine⟨_,xk (x8 (i:=2) sc_v.nd rfl (Or.inl rfl) (xx xa7 (xx xfh (xx xap (xx xap (xx xa7 (pv 0) (xn)) (xx xfh (xn) (pv 1))) (xn)) (xn)) (xn)))
   (xk (x8 (i:=2) sc_v.nd rfl (Or.inl rfl) (xx xa7 (xx xfh (pv 2) (pv 2)) (xn)))
   (xm (x0 (xx xa7 (xx xfh (pv 2) (xx xap (pv 2) (xn))) (xn))))),?_⟩
  refine⟨_,rfl,_,_,rfl,rfl,(by show (0:Int)<2147483629; decide),_,rfl,_,_,rfl,rfl,.inl ⟨by decide,by decide⟩,_,_,rfl,rfl,_,_,rfl,rfl,_,_,rfl,rfl,.inr ⟨by decide,by decide⟩,_,_,rfl,rfl,(by show (0:Int)<2147483647; decide),?_⟩
  refine⟨_,rfl,_,rfl,_,_,rfl,rfl,.inl (xn4 (by decide) (by decide)),_,_,rfl,rfl,(by show (0:Int)<2147483629; decide),?_⟩
  refine⟨_,rfl,_,rfl,_,_,rfl,rfl,_,_,rfl,rfl,.inl (xn4 (by decide) (by decide)),_,_,rfl,rfl,(by show (0:Int)<2147483587; decide),?_⟩
  exact h _ (xd1 _ (by decide)).1 (xd1 _ (by decide)).2
theorem ok_as (T:Txt w K mg t):FnOk true P w K mg base (CXo P w) 2 t.f_as t.d_as ["_law_script"] (xqa K):=by
 refine T.F_as.okn (k:=1) sc_as (fun vs H Q E h=>?_) (fun cdv A outer s H vs Q E hr h=>?_)
 .obtain ⟨sc,ns,rfl,_⟩:=h
  rfl
 .obtain ⟨sc,ns,rfl,h⟩:=h
  refine⟨_,xk (x8 (i:=1) sc_as.nd rfl (Or.inl rfl) (xt (ok_ad T) (hr.mono (by decide)) rfl T.g_ad T.F_ad.kp T.b_ad .nil xj (xa (pv 0) (xa (xn) (xb)))))
   (xk (x8 (i:=2) sc_as.nd rfl (Or.inl rfl) (xx xap (xn) (xx xa7 (xt (ok_v T) (hr.mono (by decide)) rfl T.g_v T.F_v.kp T.b_v .nil xj (xa (pv 1) (xa (xn) (xb)))) (xn))))
   (xk (x8 (i:=3) sc_as.nd rfl (Or.inl rfl) (xx xap (xn) (xx xa7 (xt (ok_v T) (hr.mono (by decide)) rfl T.g_v T.F_v.kp T.b_v .nil xj (xa (pv 1) (xa (xn) (xb)))) (xn))))
   (xk (xb4 (xao (xaa xby (xx xa7 (xt (ok_v T) (hr.mono (by decide)) rfl T.g_v T.F_v.kp T.b_v .nil xj (xa (pv 1) (xa (xn) (xb)))) (xn)) (xn) (xaf _)) (xk (x8 (i:=2) sc_as.nd rfl (Or.inl rfl) (xx xap (xn) (xx xa7 (xt (ok_v T) (hr.mono (by decide)) rfl T.g_v T.F_v.kp T.b_v .nil xj (xa (pv 1) (xa (xn) (xb)))) (xn))))
   (xm (x8 (i:=3) sc_as.nd rfl (Or.inl rfl) (xx xap (xn) (xx xa7 (xt (ok_v T) (hr.mono (by decide)) rfl T.g_v T.F_v.kp T.b_v .nil xj (xa (pv 1) (xa (xn) (xb)))) (xn)))))) (x9)))
   (xm (x0 (xab (xa (pv 2) (xa (pv 3) (xb))))))))),?_⟩
  obtain⟨hs,q⟩:=h
  refine⟨_,rfl,sc,ns,0,rfl,hs,by decide,by decide,fun c=>?_⟩
  refine⟨_,rfl,c,1,rfl,fun m1 _ _=>⟨_,_,rfl,rfl,(by show (0:Int)<30; decide),_,_,rfl,rfl,?_⟩⟩
  obtain⟨w1,ew,w11,w12⟩:=xho 1 m1 30 (by decide) (by decide)
  simp only[ew]
  refine⟨_,rfl,c,2,rfl,fun m2 _ _=>⟨_,_,rfl,rfl,(by show (0:Int)<16; decide),_,_,rfl,rfl,?_⟩⟩
  obtain⟨h1,eh,h11,h12⟩:=xho 1 m2 16 (by decide) (by decide)
  simp only[eh]
  refine⟨fun σ H1=>H=H1/\∃ w h:Nat,1<=w/\w<=30/\1<=h/\h<=16/\σ=[some (.ref sc),some (.int c),some (.int (w:Int)),some (.int (h:Int))],?_,?_⟩
  .refine ⟨_,rfl,c,3,rfl,fun m3 _ _=>⟨_,_,rfl,rfl,(by show (0:Int)<2; decide),rfl,_,rfl,ite2 (fun y=>?_) (fun y=>⟨rfl,w1,h1,by omega,by omega,by omega,by omega,rfl⟩)⟩⟩
   refine⟨_,rfl,c,1,rfl,fun m4 _ _=>⟨_,_,rfl,rfl,(by show (0:Int)<19; decide),_,_,rfl,rfl,?_⟩⟩
   obtain⟨w2,ew2,w21,w22⟩:=xho 12 m4 19 (by decide) (by decide)
   simp only[ew2]
   refine⟨_,rfl,c,2,rfl,fun m5 _ _=>⟨_,_,rfl,rfl,(by show (0:Int)<5; decide),_,_,rfl,rfl,?_⟩⟩
   obtain⟨h2,eh2,h21,h22⟩:=xho 12 m5 5 (by decide) (by decide)
   simp only[eh2]
   exact⟨rfl,w2,h2,by omega,by omega,by omega,by omega,rfl⟩
  rintro σ _ ⟨rfl,w,h,a1,a2,a3,a4,rfl⟩
  exact⟨_,rfl,_,rfl,(by show 2<=sizeLine; decide),fun p hp=>q w h _ p a1 a2 a3 a4 (xp (Same.refl _) hp) xf⟩
theorem ok_aq (T:Txt w K mg t):FnOk true P w K mg base (CXo P w) 2 t.f_aq t.d_aq ["_law_script", "_law_height"] (xph K):=by
 refine T.F_aq.okn (k:=1) sc_aq (fun vs H Q E h=>?_) (fun cdv A outer s H vs Q E hr h=>?_)
 .obtain ⟨sc,ns,ph,rfl,_⟩:=h
  rfl
 .obtain ⟨sc,ns,ph,rfl,h⟩:=h
  refine⟨_,xk (x8 (i:=2) sc_aq.nd rfl (Or.inl rfl) (xt (ok_ad T) (hr.mono (by decide)) rfl T.g_ad T.F_ad.kp T.b_ad .nil xj (xa (pv 0) (xa (xn) (xb)))))
   (xk (x8 (i:=3) sc_aq.nd rfl (Or.inl rfl) (xx xa7 (xt (ok_v T) (hr.mono (by decide)) rfl T.g_v T.F_v.kp T.b_v .nil xj (xa (pv 2) (xa (xn) (xb)))) (xn)))
   (xk (x8 (i:=4) sc_aq.nd rfl (Or.inl rfl) (xcd (xb)))
   (xk (xa4 PassesOwn.never rfl (xc1 rfl T.n_enumerate (xa (xcd (xa (xad) (xa (xad) (xb)))) (xb))) (xat rfl (xq (xo (i:=5) sc_aq.nd rfl (Or.inl rfl)) (xq (xo (i:=6) sc_aq.nd rfl (Or.inl rfl)) (xak)))) (xm (xa4 PassesOwn.never rfl (xch rfl T.n_range (xa (xn) (xa (xx xap (pv 1) (xn)) (xb)))) (xo (i:=7) sc_aq.nd rfl (Or.inl rfl)) (xm (xb4 (xao (xaa xi3 (xx xa7 (xt (ok_v T) (hr.mono (by decide)) rfl T.g_v T.F_v.kp T.b_v .nil xj (xa (pv 2) (xa (xx xap (xx xfh (xn) (pv 7)) (pv 5)) (xb)))) (xn)) (pv 3) (xaf _)) (xm (xaw (xcl PySem.F.plainAttrs_list PySem.F.slot_list_append PySem.F.type_list_append xcw (pv 4) (xa (xab (xa (pv 6) (xa (pv 7) (xb)))) (xb))))) (x9)))))))
   (xm (x0 (pv 4)))))),?_⟩
  obtain⟨hs,h16,q⟩:=h
  refine⟨_,rfl,sc,ns,1,rfl,hs,by decide,by decide,fun c=>?_⟩
  refine⟨_,rfl,c,1,rfl,fun m1 _ _=>⟨_,_,rfl,rfl,(by show (0:Int)<7; decide),?_⟩⟩
  refine⟨(by show 0<=sizeLine; decide),fun l hl=>?_⟩
  have s1:Same H (upd H l (.lst [])):=xp (Same.refl _) hl
  have g1:upd H l (.lst []) l=some (.lst []):=xf
  revert s1 g1
  generalize upd H l (.lst [])=H1
  intro s1 g1
  refine⟨(by show 2<=sizeLine; decide),fun le hle=>?_⟩
  have s2:Same H1 (upd H1 le (.lst [.str (Str.ofString "left"),.str (Str.ofString "right")])):=xp (Same.refl _) hle
  have g2:upd H1 le (.lst [.str (Str.ofString "left"),.str (Str.ofString "right")]) le=some (.lst [.str (Str.ofString "left"),.str (Str.ofString "right")]):=xf
  revert s2 g2
  generalize upd H1 le (.lst [.str (Str.ofString "left"),.str (Str.ofString "right")])=H2
  intro s2 g2
  refine⟨le,_,rfl,SqL.of g2,?_⟩
  have nle:le≠l:=Ne.symm (xi g1 hle)
  have fle:=s1.free hle
  refine xe6 (xs:=[.str (Str.ofString "left"),.str (Str.ofString "right")]) (Pv:=fun k σ H5=>∃(ss:List Seat) (qs:List Addr) (v5 v6 v7:Option V),σ=[some (.ref sc),some (.int (ph:Int)),some (.int c),some (.int (m1 % 7)),some (.ref l),v5,v6,v7]/\Same H H5/\H5 le=some (.lst [.str (Str.ofString "left"),.str (Str.ofString "right")])/\H5 l=some (.lst (qs.map V.ref))/\xac H5 ss qs/\ss.Pairwise xbv/\(∀ s∈ss,1<=s.2/\s.2<=(ph:Int))/\qs.length<=16*k/\(k=0->ss=[])/\(k=1->∀ s∈ss,s.1=true)) ?_ ?_ ?_ ?_
  .exact ⟨[],[],_,_,_,rfl,s1.trans s2,g2,s2 _ _ g1,.nil,.nil,fun _ z=>(nomatch z),Nat.le_refl _,fun _=>rfl,fun z=>(nomatch z)⟩
  .rintro i σ H5 _ ⟨_,_,_,_,_,rfl,_,e,_⟩
   exact SqL.of e
  .rintro k x p σ H5 hx hp ⟨ss,qs,v5,v6,v7,rfl,s5,e5,hl5,sl5,lt5,b5,n5,z0,z1⟩
   have k2:k<2:=(List.getElem?_eq_some_iff.mp hx).1
   obtain⟨b,rfl,hb⟩:∃ b,x=.str (xai b)/\((b=true/\k=0)\/(b=false/\k=1)):=by
    match k,k2,hx with
    | 0,_,hx=>cases hx; exact⟨true,rfl,.inl ⟨rfl,rfl⟩⟩
    | 1,_,hx=>cases hx; exact⟨false,rfl,.inr ⟨rfl,rfl⟩⟩
   have s6:Same H5 (upd H5 p (.tup [.int (k:Int),.str (xai b)])):=xp (Same.refl _) hp
   have g6:upd H5 p (.tup [.int (k:Int),.str (xai b)]) p=some (.tup [.int (k:Int),.str (xai b)]):=xf
   revert s6 g6
   generalize upd H5 p (.tup [.int (k:Int),.str (xai b)])=H6
   intro s6 g6
   refine⟨p,_,rfl,SqT.of g6,rfl,_,_,rfl,_,_,rfl,rfl,?_⟩
   refine⟨_,rfl,_,_,rfl,rfl,1,(ph:Int)+1,rfl,⟨by decide,by decide,by omega,by omega⟩,?_⟩
   refine xir (Pv:=fun j σ H7=>∃(ss:List Seat) (qs:List Addr) (v7:Option V),σ=[some (.ref sc),some (.int (ph:Int)),some (.int c),some (.int (m1 % 7)),some (.ref l),some (.int (k:Int)),some (.str (xai b)),v7]/\Same H H7/\H7 le=some (.lst [.str (Str.ofString "left"),.str (Str.ofString "right")])/\H7 l=some (.lst (qs.map V.ref))/\xac H7 ss qs/\ss.Pairwise xbv/\(∀ s∈ss,1<=s.2/\s.2<=(ph:Int))/\qs.length<=16*k+j/\∀ s∈ss,(s.1=true/\(k=0->s.2<=(j:Int)))\/(k=1/\s.1=false/\s.2<=(j:Int))) ?_ ?_ ?_
   .refine ⟨ss,qs,_,rfl,s5.trans s6,s6 _ _ e5,s6 _ _ hl5,sl5.keep (Same.tups s6),lt5,b5,by omega,fun s hs=>.inl ?_⟩
    rcases hb with⟨_,rfl⟩|⟨_,rfl⟩
    .rw [z0 rfl] at hs
     exact nomatch hs
    .exact ⟨z1 rfl s hs,fun z=>(nomatch z)⟩
   .rintro j σ H7 hj ⟨ss,qs,v7,rfl,s7,e7,hl7,sl7,lt7,b7,n7,z7⟩
    have jh:j<ph:=by omega
    have up:∀ s∈ss,(s.1=true/\(k=0->s.2<=((j+1:Nat):Int)))\/(k=1/\s.1=false/\s.2<=((j+1:Nat):Int)):=fun s hs=>by
     rcases z7 s hs with⟨a,b⟩|⟨a,b,c⟩
     .exact .inl ⟨a,fun z=>by have:=b z; omega⟩
     .exact .inr ⟨a,b,by omega⟩
    refine⟨_,?_,fun _ _ z=>z⟩
    refine⟨_,rfl,_,rfl,_,_,rfl,rfl,.inl ⟨by decide,by decide⟩,_,rfl,_,_,rfl,rfl,c,_,rfl,fun m _ _=>⟨_,_,rfl,rfl,(by show (0:Int)<6; decide),_,rfl,_,_,rfl,rfl,_,rfl,ite2 (fun y=>?_) (fun y=>⟨ss,qs,_,rfl,s7,e7,hl7,sl7,lt7,b7,by omega,up⟩)⟩⟩
    refine⟨_,rfl,.inl ⟨rfl,_,SqL.of hl7⟩,_,rfl,_,rfl,(by show 2<=sizeLine; decide),fun qa hqa=>?_⟩
    have s8:Same H7 (upd H7 qa (.tup [.str (xai b),.int (1+(j:Int))])):=xp (Same.refl _) hqa
    have g8:upd H7 qa (.tup [.str (xai b),.int (1+(j:Int))]) qa=some (.tup [.str (xai b),.int (1+(j:Int))]):=xf
    revert s8 g8
    generalize upd H7 qa (.tup [.str (xai b),.int (1+(j:Int))])=H8
    intro s8 g8
    have hl8:=s8 _ _ hl7
    refine⟨l,_,_,rfl,rfl,hl8,?_,?_⟩
    .rw [List.length_map]
     exact Nat.lt_of_le_of_lt (by omega:_<=1000) (by decide)
    have kt:Tups H8 (upd H8 l (.lst (qs.map V.ref++[.ref qa]))):=fun c xs e=>by rw[xg (x5 e hl8 (fun z=>nomatch z))]; exact e
    refine⟨ss++[(b,1+(j:Int))],qs++[qa],_,rfl,fun c u e=>by rw[xg (xi e hl)]; exact s8 _ _ (s7 _ _ e),by rw[xg nle]; exact s8 _ _ e7,by rw[xf,List.map_append]; rfl,((sl7.keep (Same.tups s8)).keep kt).snoc (kt _ _ g8),?_,fun s hs=>?_,by rw[List.length_append,List.length_singleton]; omega,fun s hs=>?_⟩
    .rw [List.pairwise_append]
     refine⟨lt7,List.pairwise_singleton _ _,fun s hs s' hs'=>?_⟩
     rw[List.mem_singleton.mp hs']
     rcases hb with⟨rfl,rfl⟩|⟨rfl,rfl⟩
     .rcases z7 s hs with⟨a,b⟩|⟨a,_⟩
      .exact .inr ⟨a,by have:=b rfl; show s.2<1+(j:Int); omega⟩
      .cases a
     .rcases z7 s hs with⟨a,b⟩|⟨_,a,b⟩
      .exact .inl ⟨a,rfl⟩
      .exact .inr ⟨a,by show s.2<1+(j:Int); omega⟩
    .rcases List.mem_append.mp hs with hs|hs
     .exact b7 s hs
     .rw [List.mem_singleton.mp hs]
      exact⟨by show (1:Int)<=1+(j:Int); omega,by show 1+(j:Int)<=_; omega⟩
    .rcases List.mem_append.mp hs with hs|hs
     .exact up s hs
     .rw [List.mem_singleton.mp hs]
      rcases hb with⟨rfl,rfl⟩|⟨rfl,rfl⟩
      .exact .inl ⟨rfl,fun _=>by show 1+(j:Int)<=_; omega⟩
      .exact .inr ⟨rfl,rfl,by show 1+(j:Int)<=_; omega⟩
   .rintro σ H7 ⟨ss,qs,v7,rfl,s7,e7,hl7,sl7,lt7,b7,n7,z7⟩
    refine⟨ss,qs,_,_,_,rfl,s7,e7,hl7,sl7,lt7,b7,by omega,fun z=>by omega,fun z s hs=>?_⟩
    rcases z7 s hs with⟨a,_⟩|⟨a,_⟩
    .exact a
    .omega
  .rintro σ H5 ⟨ss,qs,v5,v6,v7,rfl,s5,e5,hl5,sl5,lt5,b5,n5,_⟩
   exact⟨_,rfl,q ss qs H5 l (by have e:=sl5.len; have n6:qs.length<=16*2:=n5; omega) lt5 b5 s5 hl hl5 sl5⟩
end
def xq6:Sp:=fun vs H Q _=>∃(c:Int) (nm:Str) (x y:Int) (h:Nat),vs=[.int c,.str nm,.int x,.int y,.int (h:Int)]/\1<=h/\∀ H' q (sd:Str) (lo hi:Int),(sd="left"\/sd="right"\/sd="both")->1<=lo->lo<=hi->hi<=(h:Int)->Same H H'->H' q=some (.tup (.str nm::ptV ⟨nm,x,y,sd,lo,hi⟩))->Q (.ref q) H'
theorem xr1 (c:Int):∃ sd:Str,atI [V.str (Str.ofString "both"),V.str (Str.ofString "left"),V.str (Str.ofString "right")] (c % 3)=some (.str sd)/\(sd="left"\/sd="right"\/sd="both"):=by
 have b:=xd1 c (show (0:Int)<3 by decide)
 have:c % 3=0\/c % 3=1\/c % 3=2:=by omega
 rcases this with e|e|e
 .exact ⟨"both",by rw[e]; rfl,.inr (.inr rfl)⟩
 .exact ⟨"left",by rw[e]; rfl,.inl rfl⟩
 .exact ⟨"right",by rw[e]; rfl,.inr (.inl rfl)⟩
theorem xee {α:Type}{ls:List α}{k:Nat}{y:α} (nd:ls.Nodup) (h:ls[k]?=some y):(ls.eraseIdx k).Nodup/\y∉ls.eraseIdx k/\(∀ z∈ls.eraseIdx k,z∈ls)/\y∈ls:=by
 obtain⟨hk,hy⟩:=List.getElem?_eq_some_iff.mp h
 have e:ls.take k++y::ls.drop (k+1)=ls:=by
  rw[<- hy,List.getElem_cons_drop,List.take_append_drop]
 have e2:ls.eraseIdx k=ls.take k++ls.drop (k+1):=List.eraseIdx_eq_take_drop_succ ls k
 have nd2:=nd
 rw[<- e,List.nodup_append,List.nodup_cons] at nd2
 obtain⟨n1,⟨n2,n3⟩,n4⟩:=nd2
 refine⟨?_,?_,fun z hz=>List.mem_of_mem_eraseIdx hz,hy▸List.getElem_mem hk⟩
 .rw [e2,List.nodup_append]
  exact⟨n1,n3,fun a ha b hb=>n4 a ha b (List.mem_cons_of_mem _ hb)⟩
 .rw [e2,List.mem_append]
  rintro (z|z)
  .exact n4 _ z _ List.mem_cons_self rfl
  .exact n2 z
theorem xg9 {α:Type} (m:Int) {xs:List α} (h:xs≠[]) (h2:xs.length<=1000):∃ j y,xs[j]?=some y/\-(2 ^ 63)<=m % (xs.length:Int)/\m % (xs.length:Int)<2 ^ 63/\seqIndex? (m % (xs.length:Int)) xs.length=some j/\0<(xs.length:Int):=by
 have l0:0<xs.length:=List.length_pos_iff.mpr h
 have lp:(0:Int)<(xs.length:Int):=by omega
 obtain⟨k0,k1⟩:=xd1 m lp
 obtain⟨j,hj⟩:=Int.eq_ofNat_of_zero_le k0
 have jl:j<xs.length:=by
  have z:=k1
  rw[hj] at z
  omega
 exact⟨j,xs[j],List.getElem?_eq_getElem jl,by omega,by omega,by rw[seqIndex_of k0 k1,hj]; rfl,lp⟩
def abcS:Str:="abcdefghijklmnopqrstuvwxyz"
theorem xsg:∀ c∈abcS.cps.toList,isNm ⟨#[c]⟩=true:=by decide +kernel
theorem xs2:abcS.cps.toList.Nodup:=by decide +kernel
theorem xsn:(sgnL abcS).Nodup:=by
 unfold sgnL
 exact Drw.nd_map (fun a b e=>by
  have:=congrArg (fun s:Str=>s.cps.toList) (V.str.inj e)
  exact List.head_eq_of_cons_eq this) xs2
theorem xnp (n:Nat):(rngL 1 ((n:Int)+1)).Nodup:=by
 unfold rngL
 exact Drw.nd_map (fun a b e=>by
  have:=V.int.inj e
  omega) List.nodup_range
theorem xkq {n:Nat}{v:V} (h:v∈rngL 1 ((n:Int)+1)):∃ x:Int,v=.int x/\1<=x/\x<=n:=by
 unfold rngL at h
 obtain⟨i,hi,rfl⟩:=List.mem_map.mp h
 rw[List.mem_range] at hi
 exact⟨1+(i:Int),rfl,by omega,by omega⟩
structure PI (w h:Nat) (cols rows lts:List V) (ps:List Pt) (i:Nat):Prop where
 cn:cols.Nodup
 ci:∀ v∈cols,∃ x:Int,v=.int x/\1<=x/\x<=w
 rn:rows.Nodup
 ri:∀ v∈rows,∃ x:Int,v=.int x/\1<=x/\x<=h
 ln:lts.Nodup
 li:∀ v∈lts,v∈sgnL abcS
 ll:lts.length+ps.length=26
 cl:cols.length<=100
 rl:rows.length<=100
 pl:ps.length<=i
 ok:∀ p∈ps,PtOk w h p
 nx:(ps.map (·.x)).Nodup
 ny:(ps.map (·.y)).Nodup
 nn:(ps.map (·.nm)).Nodup
 ox:∀ p∈ps,V.int p.x∉cols
 oy:∀ p∈ps,V.int p.y∉rows
 on:∀ p∈ps,V.str p.nm∉lts
theorem xgb {α β:Type}{f:α->β}{l:List α}{x:α} (h:(l.map f).Nodup) (hx:∀ y∈l,f y≠f x):((l++[x]).map f).Nodup:=by
 rw[List.map_append,List.nodup_append]
 refine⟨h,by simp,fun a ha b hb e=>?_⟩
 obtain⟨y,hy,rfl⟩:=List.mem_map.mp ha
 have hb:b∈[f x]:=hb
 rw[List.mem_singleton.mp hb] at e
 exact hx y hy e
theorem PI.up {w h:Nat}{cols rows lts:List V}{ps:List Pt}{i:Nat} (g:PI w h cols rows lts ps i):PI w h cols rows lts ps (i+1):={ g with pl:=Nat.le_succ_of_le g.pl }
theorem PtsL.snoc1 {H:Hp}{ps:List Pt}{qs:List Addr} (h:PtsL H ps qs) {p:Pt}{q:Addr} (e:H q=some (.tup (.str p.nm::ptV p))):PtsL H (ps++[p]) (qs++[q]):=by
 induction h with
 | nil=>exact .cons e .nil
 | cons h _ ih=>exact .cons h ih
theorem PI.add {w h:Nat}{cols rows lts:List V}{ps:List Pt}{i jx jy jn:Nat}{p:Pt} (g:PI w h cols rows lts ps i) (hx:cols[jx]?=some (.int p.x)) (hy:rows[jy]?=some (.int p.y)) (hn:lts[jn]?=some (.str p.nm)) (ok:PtOk w h p):PI w h (cols.eraseIdx jx) (rows.eraseIdx jy) (lts.eraseIdx jn) (ps++[p]) (i+1):=by
 obtain⟨c1,c2,c3,c4⟩:=xee g.cn hx
 obtain⟨r1,r2,r3,r4⟩:=xee g.rn hy
 obtain⟨l1,l2,l3,l4⟩:=xee g.ln hn
 have lj:=(List.getElem?_eq_some_iff.mp hn).1
 refine⟨c1,fun v hv=>g.ci v (c3 v hv),r1,fun v hv=>g.ri v (r3 v hv),l1,fun v hv=>g.li v (l3 v hv),?_,?_,?_,?_,fun q hq=>?_,xgb g.nx fun y hy e=>?_,xgb g.ny fun y hy e=>?_,xgb g.nn fun y hy e=>?_,fun q hq=>?_,fun q hq=>?_,fun q hq=>?_⟩
 .rw [List.length_eraseIdx_of_lt lj,List.length_append,List.length_singleton]
  have:=g.ll
  omega
 .exact Nat.le_trans (List.length_eraseIdx_le _ _) g.cl
 .exact Nat.le_trans (List.length_eraseIdx_le _ _) g.rl
 .rw [List.length_append,List.length_singleton]
  have:=g.pl
  omega
 .rcases List.mem_append.mp hq with hq|hq
  .exact g.ok q hq
  .rw [List.mem_singleton.mp hq]; exact ok
 .exact g.ox y hy (e▸c4)
 .exact g.oy y hy (e▸r4)
 .exact g.on y hy (e▸l4)
 .rcases List.mem_append.mp hq with hq|hq
  .exact fun z=>g.ox q hq (c3 _ z)
  .rw [List.mem_singleton.mp hq]; exact c2
 .rcases List.mem_append.mp hq with hq|hq
  .exact fun z=>g.oy q hq (r3 _ z)
  .rw [List.mem_singleton.mp hq]; exact r2
 .rcases List.mem_append.mp hq with hq|hq
  .exact fun z=>g.on q hq (l3 _ z)
  .rw [List.mem_singleton.mp hq]; exact l2
def xow (K:PySem.W.Frag):Sp:=fun vs H Q _=>∃(lc:Addr) (ns:List Int) (w h:Nat),vs=[.ref lc,.int (w:Int),.int (h:Int)]/\H lc=some (.lst (ns.map V.int))/\ns.length<=12/\1<=w/\w<=30/\1<=h/\h<=16 /\
 ∀ H' l ps qs,xdg (w:Int) (h:Int) ps->ps.length<=ns.length->Same H H'->H l=none->H' l=some (.lst (qs.map V.ref))->PtsL H' ps qs->Q (.ref l) H'
theorem xob {K:PySem.W.Frag}{H:Hp}{l l2:Addr}{xs:List V} (h:H l=some (.lst xs)) (h2:H l2=some (.lst [])) (f:xs.all scV=true):∃(n m:Nat) (d e:DV),Dv K H n (.ref l) d/\Dv K H m (.ref l2) e/\n<=9/\m<=9/\(!dEq d e)=!decide (xs=[]):=by
 refine⟨1,1,.lst (xs.map scD),.lst [],.lst (SqL.of h) (by rw[List.length_map]) (xd2 f),.lst (SqL.of h2) rfl (xd2 (xs:=[]) rfl),by decide,by decide,?_⟩
 cases xs with
 | nil=>rfl
 | cons x r=>rfl
def IPt (H:Hp) (lcell lc lr ll lp:Addr) (w h:Nat) (i:Nat) (σ:L2.St) (H5:Hp):Prop:=∃(cols rows lts:List V) (ps:List Pt) (qs:List Addr) (v7 v8 v9 v10:Option V),σ=[some (.ref lcell),some (.int (w:Int)),some (.int (h:Int)),some (.ref lc),some (.ref lr),some (.ref ll),some (.ref lp),v7,v8,v9,v10] /\
 Same H H5/\H5 lc=some (.lst cols)/\H5 lr=some (.lst rows)/\H5 ll=some (.lst lts)/\H5 lp=some (.lst (qs.map V.ref))/\PtsL H5 ps qs/\PI w h cols rows lts ps i
section
variable {P:Program}{w:World}{K:PySem.W.Frag}{mg:Str->Option Value}{base:Heap}{t:Adr}
theorem ok_at (T:Txt w K mg t):FnOk true P w K mg base (CXo P w) 2 t.f_at t.d_at ["_law_cell", "_law_name", "_law_x", "_law_y", "_law_height"] (xq6):=by
 refine T.F_at.okn (k:=1) sc_at (fun vs H Q E h=>?_) (fun cdv A outer s H vs Q E hr h=>?_)
 .obtain ⟨c,nm,x,y,ph,rfl,_⟩:=h
  rfl
 .obtain ⟨c,nm,x,y,ph,rfl,h⟩:=h
  refine⟨_,xk (x8 (i:=5) sc_at.nd rfl (Or.inl rfl) (xay xdw (xcd (xa (xad) (xa (xad) (xa (xad) (xb))))) (xx xa7 (xx xa7 (xt (ok_v T) (hr.mono (by decide)) rfl T.g_v T.F_v.kp T.b_v .nil xj (xa (pv 0) (xa (xn) (xb)))) (xn)) (xn)) (fun _ _=>rfl)))
   (xk (x8 (i:=6) sc_at.nd rfl (Or.inl rfl) (xx xap (xn) (xx xa7 (xt (ok_v T) (hr.mono (by decide)) rfl T.g_v T.F_v.kp T.b_v .nil xj (xa (pv 0) (xa (xn) (xb)))) (pv 4))))
   (xk (x8 (i:=7) sc_at.nd rfl (Or.inl rfl) (xx xap (pv 6) (xx xa7 (xt (ok_v T) (hr.mono (by decide)) rfl T.g_v T.F_v.kp T.b_v .nil xj (xa (pv 0) (xa (xn) (xb)))) (xx xap (xx xfr (pv 4) (pv 6)) (xn)))))
   (xk (x8 (i:=8) sc_at.nd rfl (Or.inl rfl) (xx xa7 (xt (ok_v T) (hr.mono (by decide)) rfl T.g_v T.F_v.kp T.b_v .nil xj (xa (pv 0) (xa (xn) (xb)))) (xn)))
   (xk ((by (with_reducible refine' xb4 ?m7); (case m7=>((with_reducible refine' xao ?c2 ?a3 ?b4); (case c2=>exact xaa xby (pv 8) (xn) (xaf _)); (case a3=>((with_reducible refine' xm ?c5); (case c5=>((with_reducible refine' x0 ?e6); (case e6=>((exact xab (xz (pv 1) (xz (pv 2) (xz (pv 3) (xz (pv 5) (xz (xn) (xz (pv 4) (xb) rfl) rfl) rfl) rfl) rfl) rfl)))))))); (case b4=>((exact x9)))))))
   (xk (xb4 (xao (xaa xby (pv 8) (xn) (xaf _)) (xm (x8 (i:=7) sc_at.nd rfl (Or.inl rfl) (x6 (xfm rfl) rfl T.n_min boot_min (xa (xx xap (pv 6) (xn)) (xa (pv 4) (xb)))))) (x9)))
   (xm ((by (with_reducible refine' x0 ?e1); (case e1=>((exact xab (xz (pv 1) (xz (pv 2) (xz (pv 3) (xz (pv 5) (xz (pv 6) (xz (pv 7) (xb) rfl) rfl) rfl) rfl) rfl) rfl)))))))))))),?_⟩
  obtain⟨h1,q⟩:=h
  refine⟨(by show 3<=sizeLine; decide),fun l0 hl0=>?_⟩
  have s1:Same H (upd H l0 (.lst [V.str (Str.ofString "both"),V.str (Str.ofString "left"),V.str (Str.ofString "right")])):=xp (Same.refl _) hl0
  have g1:upd H l0 (.lst [V.str (Str.ofString "both"),V.str (Str.ofString "left"),V.str (Str.ofString "right")]) l0=some (.lst [V.str (Str.ofString "both"),V.str (Str.ofString "left"),V.str (Str.ofString "right")]):=xf
  revert s1 g1
  generalize upd H l0 (.lst [V.str (Str.ofString "both"),V.str (Str.ofString "left"),V.str (Str.ofString "right")])=H1
  intro s1 g1
  refine⟨_,rfl,c,6,rfl,fun m6 _ _=>?_⟩
  obtain⟨sd,esd,osd⟩:=xr1 (m6 % 4)
  refine⟨_,_,rfl,rfl,(by show (0:Int)<4; decide),_,_,rfl,rfl,(by show (0:Int)<3; decide),l0,_,_,.str sd,rfl,rfl,SqL.of g1,esd,?_⟩
  refine⟨_,rfl,c,7,rfl,fun m7 _ _=>⟨_,rfl,_,_,rfl,rfl,(by show (0:Int)<(ph:Int); omega),_,_,rfl,rfl,?_⟩⟩
  have b7:=xd1 m7 (show (0:Int)<(ph:Int) by omega)
  have p8:(0:Int)<(ph:Int)-(1+m7 % (ph:Int))+1:=by omega
  refine⟨_,rfl,_,rfl,c,8,rfl,fun m8 _ _=>⟨_,rfl,_,rfl,_,_,rfl,rfl,_,_,rfl,rfl,_,_,rfl,rfl,p8,_,_,rfl,rfl,?_⟩⟩
  have b8:=xd1 m8 p8
  refine⟨_,rfl,c,9,rfl,fun m9 _ _=>⟨_,_,rfl,rfl,(by show (0:Int)<3; decide),?_⟩⟩
  refine⟨fun σ H5=>H1=H5/\σ=[some (.int c),some (.str nm),some (.int x),some (.int y),some (.int (ph:Int)),some (.str sd),some (.int (1+m7 % (ph:Int))),some (.int (1+m7 % (ph:Int)+m8 % ((ph:Int)-(1+m7 % (ph:Int))+1))),some (.int (m9 % 3))],?_,?_⟩
  .refine ⟨_,rfl,rfl,_,rfl,ite2 (fun y=>?_) (fun y=>⟨rfl,rfl⟩)⟩
   exact⟨_,rfl,_,rfl,_,rfl,_,rfl,_,rfl,(by show 6<=sizeLine; decide),fun p hp=>q _ p sd 1 (ph:Int) osd (by omega) (by omega) (by omega) (s1.trans (xp (Same.refl _) hp)) xf⟩
  rintro σ _ ⟨rfl,rfl⟩
  refine⟨fun σ H5=>H1=H5/\∃ hi:Int,1+m7 % (ph:Int)<=hi/\hi<=(ph:Int)/\σ=[some (.int c),some (.str nm),some (.int x),some (.int y),some (.int (ph:Int)),some (.str sd),some (.int (1+m7 % (ph:Int))),some (.int hi),some (.int (m9 % 3))],?_,?_⟩
  .refine ⟨_,rfl,rfl,_,rfl,ite2 (fun y=>?_) (fun y=>⟨rfl,_,by omega,by omega,rfl⟩)⟩
   refine⟨_,rfl,_,_,rfl,rfl,_,rfl,_,_,rfl,rfl,_,?_,?_,rfl⟩
   .split<;>omega
   .split<;>omega
  rintro σ _ ⟨rfl,hi,a1,a2,rfl⟩
  exact⟨_,rfl,_,rfl,_,rfl,_,rfl,_,rfl,_,rfl,(by show 6<=sizeLine; decide),fun p hp=>q _ p sd _ hi osd (by omega) a1 a2 (s1.trans (xp (Same.refl _) hp)) xf⟩
theorem ok_ai (T:Txt w K mg t):FnOk true P w K mg base (CXo P w) 3 t.f_ai t.d_ai ["_law_cells", "_law_width", "_law_height"] (xow K):=by
 refine T.F_ai.okn (k:=2) sc_ai (fun vs H Q E h=>?_) (fun cdv A outer s H vs Q E hr h=>?_)
 .obtain ⟨lcell,ns,w',h',rfl,_⟩:=h
  rfl
 .obtain ⟨lcell,ns,w',h',rfl,h⟩:=h
  refine⟨_,xk (x8 (i:=3) sc_ai.nd rfl (Or.inl rfl) (xb1 (xe9 rfl) rfl T.n_list boot_list (xa (xb1 xgc rfl T.n_range boot_range (xa (xn) (xa (xx xap (pv 1) (xn)) (xb)))) (xb))))
   (xk (x8 (i:=4) sc_ai.nd rfl (Or.inl rfl) (xb1 (xe9 rfl) rfl T.n_list boot_list (xa (xb1 xgc rfl T.n_range boot_range (xa (xn) (xa (xx xap (pv 2) (xn)) (xb)))) (xb))))
   (xk (x8 (i:=5) sc_ai.nd rfl (Or.inl rfl) (xb1 (xiy rfl) rfl T.n_list boot_list (xa (xad) (xb))))
   (xk (x8 (i:=6) sc_ai.nd rfl (Or.inl rfl) (xcd (xb)))
   (xk (xa4 PassesOwn.never rfl (xar (pv 0)) (xo (i:=7) sc_ai.nd rfl (Or.inl rfl)) (xm (xb4 (xao (PW.pt (xi7 (xaa (xet (xb6 hr)) (pv 3) (xcd (xb)) (xaf _)) (xh0 (xaa (xet (xb6 hr)) (pv 4) (xcd (xb)) (xaf _))))) (xk (x8 (i:=8) sc_ai.nd rfl (Or.inl rfl) (xcl PySem.F.plainAttrs_list PySem.F.slot_list_pop PySem.F.type_list_pop xe0 (pv 3) (xa (xx xa7 (xt (ok_v T) (hr.mono (by decide)) rfl T.g_v T.F_v.kp T.b_v .nil xj (xa (pv 7) (xa (xn) (xb)))) (x6 xbn rfl T.n_len boot_len (xa (pv 3) (xb)))) (xb))))
   (xk (x8 (i:=9) sc_ai.nd rfl (Or.inl rfl) (xcl PySem.F.plainAttrs_list PySem.F.slot_list_pop PySem.F.type_list_pop xe0 (pv 4) (xa (xx xa7 (xt (ok_v T) (hr.mono (by decide)) rfl T.g_v T.F_v.kp T.b_v .nil xj (xa (pv 7) (xa (xn) (xb)))) (x6 xbn rfl T.n_len boot_len (xa (pv 4) (xb)))) (xb))))
   (xk (x8 (i:=10) sc_ai.nd rfl (Or.inl rfl) (xcl PySem.F.plainAttrs_list PySem.F.slot_list_pop PySem.F.type_list_pop xe0 (pv 5) (xa (xx xa7 (xt (ok_v T) (hr.mono (by decide)) rfl T.g_v T.F_v.kp T.b_v .nil xj (xa (pv 7) (xa (xn) (xb)))) (x6 xbn rfl T.n_len boot_len (xa (pv 5) (xb)))) (xb))))
   (xm (xaw (xcl PySem.F.plainAttrs_list PySem.F.slot_list_append PySem.F.type_list_append xcw (pv 6) (xa (xt (ok_at T) (hr.mono (by decide)) rfl T.g_at T.F_at.kp T.b_at .nil xj (xa (pv 7) (xa (pv 10) (xa (pv 8) (xa (pv 9) (xa (pv 2) (xb))))))) (xb)))))))) (x9)))))
   (xm (x0 (pv 6))))))),?_⟩
  obtain⟨hc,n12,w1,w2,h1,h2,q⟩:=h
  refine⟨_,rfl,_,_,rfl,rfl,1,(w':Int)+1,rfl,fun pr hpr=>?_⟩
  have s1:Same H (upd H pr (.rng 1 ((w':Int)+1))):=xp (Same.refl _) hpr
  have g1:upd H pr (.rng 1 ((w':Int)+1)) pr=some (.rng 1 ((w':Int)+1)):=xf
  revert s1 g1
  generalize upd H pr (.rng 1 ((w':Int)+1))=H1
  intro s1 g1
  refine⟨pr,_,_,rfl,g1,⟨by decide,by decide,by omega,by omega⟩,by omega,fun lc hlc=>?_⟩
  have s2:Same H1 (upd H1 lc (.lst (rngL 1 ((w':Int)+1)))):=xp (Same.refl _) hlc
  have g2:upd H1 lc (.lst (rngL 1 ((w':Int)+1))) lc=some (.lst (rngL 1 ((w':Int)+1))):=xf
  revert s2 g2
  generalize upd H1 lc (.lst (rngL 1 ((w':Int)+1)))=H2
  intro s2 g2
  refine⟨_,rfl,_,_,rfl,rfl,1,(h':Int)+1,rfl,fun pr2 hpr2=>?_⟩
  have s3:Same H2 (upd H2 pr2 (.rng 1 ((h':Int)+1))):=xp (Same.refl _) hpr2
  have g3:upd H2 pr2 (.rng 1 ((h':Int)+1)) pr2=some (.rng 1 ((h':Int)+1)):=xf
  revert s3 g3
  generalize upd H2 pr2 (.rng 1 ((h':Int)+1))=H3
  intro s3 g3
  refine⟨pr2,_,_,rfl,g3,⟨by decide,by decide,by omega,by omega⟩,by omega,fun lr hlr=>?_⟩
  have s4:Same H3 (upd H3 lr (.lst (rngL 1 ((h':Int)+1)))):=xp (Same.refl _) hlr
  have g4:upd H3 lr (.lst (rngL 1 ((h':Int)+1))) lr=some (.lst (rngL 1 ((h':Int)+1))):=xf
  revert s4 g4
  generalize upd H3 lr (.lst (rngL 1 ((h':Int)+1)))=H4
  intro s4 g4
  refine⟨abcS,rfl,by decide +kernel,fun ll hll=>?_⟩
  have s5:Same H4 (upd H4 ll (.lst (sgnL abcS))):=xp (Same.refl _) hll
  have g5:upd H4 ll (.lst (sgnL abcS)) ll=some (.lst (sgnL abcS)):=xf
  revert s5 g5
  generalize upd H4 ll (.lst (sgnL abcS))=H5
  intro s5 g5
  refine⟨(by show 0<=sizeLine; decide),fun lp hlp=>?_⟩
  have s6:Same H5 (upd H5 lp (.lst [])):=xp (Same.refl _) hlp
  have g6:upd H5 lp (.lst []) lp=some (.lst []):=xf
  revert s6 g6
  generalize upd H5 lp (.lst [])=H6
  intro s6 g6
  have s06:=(((s1.trans s2).trans s3).trans s4).trans (s5.trans s6)
  have f2:=s1.free hlc
  have f4:=((s1.trans s2).trans s3).free hlr
  have f5:=(((s1.trans s2).trans s3).trans s4).free hll
  have f6:=((((s1.trans s2).trans s3).trans s4).trans s5).free hlp
  have e2:=s6 _ _ (s5 _ _ (s4 _ _ (s3 _ _ g2)))
  have e4:=s6 _ _ (s5 _ _ g4)
  have e5:=s6 _ _ g5
  have n24:lc≠lr:=xi (s3 _ _ g2) hlr
  have n25:lc≠ll:=xi (s4 _ _ (s3 _ _ g2)) hll
  have n26:lc≠lp:=xi (s5 _ _ (s4 _ _ (s3 _ _ g2))) hlp
  have n45:lr≠ll:=xi g4 hll
  have n46:lr≠lp:=xi (s5 _ _ g4) hlp
  have n56:ll≠lp:=xi g5 hlp
  refine⟨_,rfl,lcell,rfl,⟨_,SqL.of (s06 _ _ hc)⟩,?_⟩
  refine xa6 (xs:=ns.map V.int) (Pv:=IPt H lcell lc lr ll lp w' h') ⟨_,_,_,[],[],_,_,_,_,rfl,s06,e2,e4,e5,g6,.nil,⟨xnp _,fun v hv=>xkq hv,xnp _,fun v hv=>xkq hv,xsn,fun v hv=>hv,(by decide +kernel),?_,?_,Nat.le_refl _,fun _ z=>(nomatch z),.nil,.nil,.nil,fun _ z=>(nomatch z),fun _ z=>(nomatch z),fun _ z=>(nomatch z)⟩⟩ ?_ ?_ ?_
  .unfold rngL
   rw[List.length_map,List.length_range]
   omega
  .unfold rngL
   rw[List.length_map,List.length_range]
   omega
  .rintro i σ H7 _ ⟨_,_,_,_,_,_,_,_,_,rfl,s7,_⟩
   exact SqL.of (s7 _ _ hc)
  .rintro i x σ H7 hx ⟨cols,rows,lts,ps,qs,v7,v8,v9,v10,rfl,s7,e7c,e7r,e7l,e7p,pl7,pi⟩
   rw[List.getElem?_map,Option.map_eq_some_iff] at hx
   obtain⟨c,hc',rfl⟩:=hx
   have i12:i<12:=by have:=(List.getElem?_eq_some_iff.mp hc').1; omega
   refine⟨_,?_,fun _ _ z=>z⟩
   have sc1:cols.all scV=true:=List.all_eq_true.mpr fun v hv=>by
    obtain⟨x,rfl,_⟩:=pi.ci v hv
    rfl
   have sc2:rows.all scV=true:=List.all_eq_true.mpr fun v hv=>by
    obtain⟨x,rfl,_⟩:=pi.ri v hv
    rfl
   refine⟨_,rfl,(by show 0<=sizeLine; decide),fun z1 hz1=>?_⟩
   have s8:Same H7 (upd H7 z1 (.lst [])):=xp (Same.refl _) hz1
   have g8:upd H7 z1 (.lst []) z1=some (.lst []):=xf
   revert s8 g8
   generalize upd H7 z1 (.lst [])=H8
   intro s8 g8
   obtain⟨n,m,d,e,d1,d2,n9,m9,ev⟩:=xob (K:=K) (s8 _ _ e7c) g8 sc1
   refine⟨n,m,d,e,d1,d2,n9,m9,_,rfl,?_⟩
   rw[ev]
   refine ite2 (fun y1=>?_) (fun y1=>⟨cols,rows,lts,ps,qs,_,_,_,_,rfl,s7.trans s8,s8 _ _ e7c,s8 _ _ e7r,s8 _ _ e7l,s8 _ _ e7p,pl7.keep (Same.tups s8),pi.up⟩)
   refine⟨_,rfl,(by show 0<=sizeLine; decide),fun z2 hz2=>?_⟩
   have s9:Same H8 (upd H8 z2 (.lst [])):=xp (Same.refl _) hz2
   have g9:upd H8 z2 (.lst []) z2=some (.lst []):=xf
   revert s9 g9
   generalize upd H8 z2 (.lst [])=H9
   intro s9 g9
   have s79:=s8.trans s9
   obtain⟨n',m',d',e',d1',d2',n9',m9',ev'⟩:=xob (K:=K) (s79 _ _ e7r) g9 sc2
   refine⟨n',m',d',e',d1',d2',n9',m9',_,rfl,?_⟩
   rw[ev']
   refine ite2 (fun y2=>?_) (fun y2=>⟨cols,rows,lts,ps,qs,_,_,_,_,rfl,s7.trans s79,s79 _ _ e7c,s79 _ _ e7r,s79 _ _ e7l,s79 _ _ e7p,pl7.keep (Same.tups s79),pi.up⟩)
   have cne:cols≠[]:=fun z=>by rw[z] at y1; exact absurd y1 (by decide)
   have rne:rows≠[]:=fun z=>by rw[z] at y2; exact absurd y2 (by decide)
   have lne:lts≠[]:=fun z=>by
    have l0:lts.length=0:=by rw[z]; rfl
    have:=pi.ll
    have:=pi.pl
    omega
   have e9c:=s79 _ _ e7c
   have e9r:=s79 _ _ e7r
   have e9l:=s79 _ _ e7l
   have e9p:=s79 _ _ e7p
   have p9:=pl7.keep (Same.tups s79)
   have s09:=s7.trans s79
   refine⟨_,rfl,.inl ⟨rfl,_,SqL.of e9c⟩,_,rfl,c,3,rfl,fun m3 _ _=>?_⟩
   obtain⟨jx,vx,gx,a1,a2,a3,a4⟩:=xg9 m3 cne (Nat.le_trans pi.cl (by decide))
   obtain⟨x,rfl,x1,x2⟩:=pi.ci vx (List.mem_of_getElem? gx)
   refine⟨_,rfl,lc,_,rfl,.inl (SqL.of e9c),_,_,rfl,rfl,a4,lc,_,_,jx,_,rfl,rfl,e9c,a1,a2,a3,gx,?_⟩
   have k10:∀ c u,c≠lc->H9 c=some u->upd H9 lc (.lst (cols.eraseIdx jx)) c=some u:=fun c u nc e=>by rw[xg nc]; exact e
   have g10:upd H9 lc (.lst (cols.eraseIdx jx)) lc=some (.lst (cols.eraseIdx jx)):=xf
   revert k10 g10
   generalize upd H9 lc (.lst (cols.eraseIdx jx))=H10
   intro k10 g10
   have e10r:=k10 _ _ (Ne.symm n24) e9r
   refine⟨_,rfl,.inl ⟨rfl,_,SqL.of e10r⟩,_,rfl,c,4,rfl,fun m4 _ _=>?_⟩
   obtain⟨jy,vy,gy,b1,b2,b3,b4⟩:=xg9 m4 rne (Nat.le_trans pi.rl (by decide))
   obtain⟨y,rfl,y3,y4⟩:=pi.ri vy (List.mem_of_getElem? gy)
   refine⟨_,rfl,lr,_,rfl,.inl (SqL.of e10r),_,_,rfl,rfl,b4,lr,_,_,jy,_,rfl,rfl,e10r,b1,b2,b3,gy,?_⟩
   have k11:∀ c u,c≠lr->H10 c=some u->upd H10 lr (.lst (rows.eraseIdx jy)) c=some u:=fun c u nc e=>by rw[xg nc]; exact e
   have g11:upd H10 lr (.lst (rows.eraseIdx jy)) lr=some (.lst (rows.eraseIdx jy)):=xf
   revert k11 g11
   generalize upd H10 lr (.lst (rows.eraseIdx jy))=H11
   intro k11 g11
   have e11l:=k11 _ _ (Ne.symm n45) (k10 _ _ (Ne.symm n25) e9l)
   have e11c:=k11 _ _ n24 g10
   refine⟨_,rfl,.inl ⟨rfl,_,SqL.of e11l⟩,_,rfl,c,5,rfl,fun m5 _ _=>?_⟩
   obtain⟨jn,vn,gn,c1,c2,c3,c4⟩:=xg9 m5 lne (by have:=pi.ll; omega)
   obtain⟨cc,hcc,rfl⟩:=List.mem_map.mp (pi.li vn (List.mem_of_getElem? gn))
   have inm:=xsg cc hcc
   refine⟨_,rfl,ll,_,rfl,.inl (SqL.of e11l),_,_,rfl,rfl,c4,ll,_,_,jn,_,rfl,rfl,e11l,c1,c2,c3,gn,?_⟩
   have k12:∀ c u,c≠ll->H11 c=some u->upd H11 ll (.lst (lts.eraseIdx jn)) c=some u:=fun c u nc e=>by rw[xg nc]; exact e
   have g12:upd H11 ll (.lst (lts.eraseIdx jn)) ll=some (.lst (lts.eraseIdx jn)):=xf
   revert k12 g12
   generalize upd H11 ll (.lst (lts.eraseIdx jn))=H12
   intro k12 g12
   have e12c:=k12 _ _ n25 e11c
   have e12r:=k12 _ _ n45 g11
   have e12p:=k12 _ _ (Ne.symm n56) (k11 _ _ (Ne.symm n46) (k10 _ _ (Ne.symm n26) e9p))
   have s012:Same H H12:=fun c u e=>k12 _ _ (xi e f5) (k11 _ _ (xi e f4) (k10 _ _ (xi e f2) (s09 _ _ e)))
   have t912:Tups H9 H12:=fun c xs e=>k12 _ _ (x5 e (s79 _ _ e7l) (fun z=>nomatch z)) (k11 _ _ (x5 e e9r (fun z=>nomatch z)) (k10 _ _ (x5 e e9c (fun z=>nomatch z)) e))
   refine⟨_,rfl,.inl ⟨rfl,_,SqL.of e12p⟩,_,rfl,_,rfl,_,rfl,_,rfl,_,rfl,c,⟨#[cc]⟩,x,y,h',rfl,h1,fun H13 qa sd lo hi osd o1 o2 o3 s13 hqa=>?_⟩
   have e13p:=s13 _ _ e12p
   refine⟨lp,_,_,rfl,rfl,e13p,?_,?_⟩
   .rw [List.length_map,pl7.len]
    exact Nat.lt_of_le_of_lt (by have:=pi.pl; omega:_<=1000) (by decide)
   have kt:Tups H13 (upd H13 lp (.lst (qs.map V.ref++[.ref qa]))):=fun c xs e=>by rw[xg (x5 e e13p (fun z=>nomatch z))]; exact e
   refine⟨_,_,_,ps++[⟨⟨#[cc]⟩,x,y,sd,lo,hi⟩],qs++[qa],_,_,_,_,rfl,fun c u e=>by rw[xg (xi e f6)]; exact s13 _ _ (s012 _ _ e),by rw[xg n26]; exact s13 _ _ e12c,by rw[xg n46]; exact s13 _ _ e12r,by rw[xg n56]; exact s13 _ _ g12,by rw[xf,List.map_append]; rfl,PtsL.snoc1 (((p9.keep t912).keep (Same.tups s13)).keep kt) (kt _ _ hqa),pi.add (p:=⟨⟨#[cc]⟩,x,y,sd,lo,hi⟩) gx gy gn ⟨inm,x1,x2,y3,y4,osd,o1,o2,o3⟩⟩
  .rintro σ H7 ⟨cols,rows,lts,ps,qs,v7,v8,v9,v10,rfl,s7,e7c,e7r,e7l,e7p,pl7,pi⟩
   have:=pi.pl
   rw[List.length_map] at this
   exact⟨_,rfl,q H7 lp ps qs ⟨pi.ok,pi.nn,pi.nx,pi.ny,by omega⟩ (by omega) s7 f6 e7p pl7⟩
end
theorem xgk {ss:List Seat} (h:ss.Pairwise xbv):ss.Nodup:=h.imp fun {a b} z e=>by
 subst e
 exact xef _ _ z z
def xal (b:Bool) (h:Nat):List Seat:=(List.range h).map fun (i:Nat)=>(b,1+(i:Int))
def xqe:Sp:=fun vs H Q _=>∃ h:Nat,vs=[.int (h:Int)]/\h<=16/\∀ H' l ss rs,ss=xal true h++xal false h->SsOk (h:Int) ss->Same H H'->H l=none->H' l=some (.lst (rs.map V.ref))->xac H' ss rs->Q (.ref l) H'
theorem xo7 (h:Nat) (h16:h<=16):SsOk (h:Int) (xal true h++xal false h):=by
 have nd:∀ b,(xal b h).Nodup:=fun b=>Drw.nd_map (fun a c e=>by
  have:=(Prod.mk.inj e).2
  omega) List.nodup_range
 refine⟨?_,?_,fun s hs=>?_⟩
 .rw [List.nodup_append]
  refine⟨nd _,nd _,fun a ha b hb e=>?_⟩
  obtain⟨i,_,rfl⟩:=List.mem_map.mp ha
  obtain⟨j,_,rfl⟩:=List.mem_map.mp hb
  exact absurd (Prod.mk.inj e).1 (by decide)
 .unfold xal
  rw[List.length_append,List.length_map,List.length_map,List.length_range]
  omega
 .rcases List.mem_append.mp hs with hs|hs
  .obtain ⟨i,hi,rfl⟩:=List.mem_map.mp hs
   rw[List.mem_range] at hi
   exact⟨by show (1:Int)<=1+(i:Int); omega,by show 1+(i:Int)<=_; omega⟩
  .obtain ⟨i,hi,rfl⟩:=List.mem_map.mp hs
   rw[List.mem_range] at hi
   exact⟨by show (1:Int)<=1+(i:Int); omega,by show 1+(i:Int)<=_; omega⟩
theorem xac.append {H:Hp}{ss ts:List Seat}{qs rs:List Addr} (h:xac H ss qs) (h':xac H ts rs):xac H (ss++ts) (qs++rs):=by
 induction h with
 | nil=>exact h'
 | cons h _ ih=>exact .cons h ih
theorem xac.erase {H:Hp}{ss:List Seat}{qs:List Addr} (h:xac H ss qs) (k:Nat):xac H (ss.eraseIdx k) (qs.eraseIdx k):=by
 induction h generalizing k with
 | nil=>exact .nil
 | cons h r ih =>
  cases k with
  | zero=>exact r
  | succ k=>exact .cons h (ih k)
section
variable {P:Program}{w:World}{K:PySem.W.Frag}{mg:Str->Option Value}{base:Heap}{t:Adr}
theorem ok_m (T:Txt w K mg t):FnOk true P w K mg base (CXo P w) 1 t.f_m t.d_m ["_law_height"] (xqe):=by
 refine T.F_m.okn (k:=0) sc_m (fun vs H Q E h=>?_) (fun cdv A outer s H vs Q E hr h=>?_)
 .obtain ⟨h',rfl,_⟩:=h
  rfl
 .obtain ⟨h',rfl,h⟩:=h
  refine⟨_,xm (x0 (xx xhk (xbj rfl (xa1 (zs:=["_law_row"]) (ys:=[]) (fr:=[]) (N0:=["_law_height"]) (sc0:=xh s_m) (by decide +kernel) rfl rfl rfl) (xch rfl T.n_range (xa (xn) (xa (xx xap (pv 0) (xn)) (xb)))) (fun _ _ _ _ _ ow nd=>xo (i:=0) nd rfl (Or.inl (ow _ (by simp))) (Or.inr (ow _ (by simp)))) (xbe (by decide)) (fun _ _ _ _ _=>xbi) (fun _ _ _ _ _=>xab (xa (xad) (xa (pv 0) (xb))))) (xbj rfl (xa1 (zs:=["_law_row"]) (ys:=[]) (fr:=[]) (N0:=["_law_height"]) (sc0:=xh s_m) (by decide +kernel) rfl rfl rfl) (xch rfl T.n_range (xa (xn) (xa (xx xap (pv 0) (xn)) (xb)))) (fun _ _ _ _ _ ow nd=>xo (i:=0) nd rfl (Or.inl (ow _ (by simp))) (Or.inr (ow _ (by simp)))) (xbe (by decide)) (fun _ _ _ _ _=>xbi) (fun _ _ _ _ _=>xab (xa (xad) (xa (pv 0) (xb))))))),?_⟩
  obtain⟨h16,q⟩:=h
  refine⟨_,rfl,_,_,rfl,rfl,1,(h':Int)+1,rfl,⟨by decide,by decide,by omega,by omega⟩,fun l1 hl1=>?_⟩
  have hh:((h':Int)+1-1).toNat=h':=by omega
  refine xc4 (Nat.lt_of_le_of_lt (by omega:_<=1000) (by decide)) hl1 (fun i y H5=>∃ q,y=.ref q/\H5 q=some (.tup (xcc (true,1+(i:Int))))) (fun i y H5 H6 tp z=>let ⟨q,e,f⟩:=z; ⟨q,e,tp _ _ f⟩) (fun i H5 hi s5 N hN=>?_) (fun ys H5 s5 e5 ly fy=>?_)
  .exact ⟨_,rfl,(by show 2<=sizeLine; decide),fun p hp=>hN _ _ (xp (Same.refl _) hp) ⟨p,rfl,xf⟩⟩
  rw[hh] at ly
  obtain⟨rs1,rfl,sl1⟩:=xac.pick (ss:=xal true h') (by rw[ly]; unfold xal; rw[List.length_map,List.length_range]) (fun j y s hy hs=>by
   obtain⟨q,e,f⟩:=fy j y hy
   unfold xal at hs
   rw[List.getElem?_map,Option.map_eq_some_iff] at hs
   obtain⟨i,hi,rfl⟩:=hs
   have:i=j:=by
    have z:=(List.getElem?_eq_some_iff.mp hi).2
    rw[List.getElem_range] at z
    exact z.symm
   subst this
   exact⟨q,e,f⟩)
  refine⟨_,rfl,_,_,rfl,rfl,1,(h':Int)+1,rfl,⟨by decide,by decide,by omega,by omega⟩,fun l2 hl2=>?_⟩
  refine xc4 (Nat.lt_of_le_of_lt (by omega:_<=1000) (by decide)) hl2 (fun i y H6=>∃ q,y=.ref q/\H6 q=some (.tup (xcc (false,1+(i:Int))))) (fun i y H5 H6 tp z=>let ⟨q,e,f⟩:=z; ⟨q,e,tp _ _ f⟩) (fun i H6 hi s6 N hN=>?_) (fun ys2 H6 s6 e6 ly2 fy2=>?_)
  .exact ⟨_,rfl,(by show 2<=sizeLine; decide),fun p hp=>hN _ _ (xp (Same.refl _) hp) ⟨p,rfl,xf⟩⟩
  rw[hh] at ly2
  obtain⟨rs2,rfl,sl2⟩:=xac.pick (ss:=xal false h') (by rw[ly2]; unfold xal; rw[List.length_map,List.length_range]) (fun j y s hy hs=>by
   obtain⟨q,e,f⟩:=fy2 j y hy
   unfold xal at hs
   rw[List.getElem?_map,Option.map_eq_some_iff] at hs
   obtain⟨i,hi,rfl⟩:=hs
   have:i=j:=by
    have z:=(List.getElem?_eq_some_iff.mp hi).2
    rw[List.getElem_range] at z
    exact z.symm
   subst this
   exact⟨q,e,f⟩)
  refine⟨l1,l2,_,_,rfl,rfl,s6 _ _ e5,e6,?_,fun l3 hl3=>?_⟩
  .rw [ly,ly2]
   exact Nat.le_trans (by omega:_<=1000) (by decide)
  rw[<- List.map_append]
  have s7:Same H6 (upd H6 l3 (.lst ((rs1++rs2).map V.ref))):=xp (Same.refl _) hl3
  have g7:upd H6 l3 (.lst ((rs1++rs2).map V.ref)) l3=some (.lst ((rs1++rs2).map V.ref)):=xf
  revert s7 g7
  generalize upd H6 l3 (.lst ((rs1++rs2).map V.ref))=H7
  intro s7 g7
  exact q H7 l3 _ _ rfl (xo7 h' h16) ((s5.trans s6).trans s7) ((s5.trans s6).free hl3) g7 (((sl1.keep (Same.tups s6)).append sl2).keep (Same.tups s7))
end
structure xfg (w h:Int) (ps:List Pt) (prs:List Pr):Prop where
 ok:∀ p∈prs,PrOk ps w h p
 nd:(prs.map (·.2)).Nodup
 len:prs.length<=12
 nn:(prs.map fun p=>p.1.nm).Nodup
def xq5 (w:Nat):Sp:=fun vs H Q _=>∃(c:Int) (lp ls:Addr) (h:Nat) (ps:List Pt) (ss:List Seat) (qs rs:List Addr),vs=[.int c,.ref lp,.int (h:Int),.ref ls]/\h<=16/\H lp=some (.lst (qs.map V.ref))/\PtsL H ps qs/\xdg (w:Int) (h:Int) ps/\H ls=some (.lst (rs.map V.ref))/\xac H ss rs/\SsOk (h:Int) ss /\
 ∀ H' l prs ts,xfg (w:Int) (h:Int) ps prs->Same H H'->H l=none->H' l=some (.lst (ts.map V.ref))->PrsL H' prs ts->Q (.ref l) H'
def xoq:Sp:=fun vs H Q E=>∃ w:Nat,xq5 w vs H Q E
theorem xk1 {ps:List Pt} (nd:(ps.map (·.nm)).Nodup) {p:Pt} (h:p∈ps):ps.find? (fun z=>decide (z.nm=p.nm))=some p:=by
 induction ps with
 | nil=>exact nomatch h
 | cons x r ih =>
  rw[List.map_cons,List.nodup_cons] at nd
  rcases List.mem_cons.mp h with rfl|h
  .rw [List.find?_cons_of_pos (by simp)]
  .rw [List.find?_cons_of_neg,ih nd.2 h]
   intro e
   exact nd.1 (List.mem_map.mpr ⟨p,h,(of_decide_eq_true e).symm⟩)
theorem xon {h:Int}{ss:List Seat} (o:SsOk h ss) {k:Nat}{s:Seat} (e:ss[k]?=some s):SsOk h (ss.eraseIdx k)/\s∉ss.eraseIdx k/\(∀ z∈ss.eraseIdx k,z∈ss)/\s∈ss:=by
 obtain⟨a,b,c,d⟩:=xee o.1 e
 exact⟨⟨a,Nat.le_trans (List.length_eraseIdx_le _ _) o.2.1,fun z hz=>o.2.2 z (c z hz)⟩,b,c,d⟩
theorem xpi {K:PySem.W.Frag}{H:Hp}{l l2:Addr}{ss:List Seat}{rs:List Addr} (sl:xac H ss rs) (h:H l=some (.lst (rs.map V.ref))) (h2:H l2=some (.lst [])):∃(n m:Nat) (d e:DV),Dv K H n (.ref l) d/\Dv K H m (.ref l2) e/\n<=9/\m<=9/\(!dEq d e)=!decide (ss=[]):=by
 refine⟨2,1,_,.lst [],sl.dv h,.lst (SqL.of h2) rfl (xd2 (xs:=[]) rfl),by decide,by decide,?_⟩
 cases ss with
 | nil=>rfl
 | cons x r=>rfl
def IPr (H:Hp) (lp ls lf l2:Addr) (c:Int) (w h:Nat) (ps:List Pt) (k:Nat) (σ:L2.St) (H5:Hp):Prop:=∃(ss:List Seat) (rs:List Addr) (prs:List Pr) (ts:List Addr) (v6 v7 v8 v9:Option V),σ=[some (.int c),some (.ref lp),some (.int (h:Int)),some (.ref ls),some (.ref lf),some (.ref l2),v6,v7,v8,v9] /\
 Same H H5/\H5 lf=some (.lst (rs.map V.ref))/\xac H5 ss rs/\SsOk (h:Int) ss/\H5 l2=some (.lst (ts.map V.ref))/\PrsL H5 prs ts/\(∀ p∈prs,PrOk ps (w:Int) (h:Int) p)/\prs.length<=k/\(prs.map (·.2)).Nodup/\(∀ p∈prs,p.2∉ss)/\List.Sublist (prs.map (·.1)) (ps.take k)
theorem xs6 {ps:List Pt} (nd:(ps.map (·.nm)).Nodup) {prs:List Pr}{k:Nat} (h:List.Sublist (prs.map (·.1)) (ps.take k)):(prs.map fun p=>p.1.nm).Nodup:=by
 have z:=(h.trans (List.take_sublist _ _)).map (·.nm)
 rw[List.map_map] at z
 exact z.nodup nd
theorem PrsL.rev {H:Hp}{ps:List Pr}{qs:List Addr} (h:PrsL H ps qs):PrsL H ps.reverse qs.reverse:=by
 induction h with
 | nil=>exact .nil
 | cons h _ ih =>
  rw[List.reverse_cons,List.reverse_cons]
  exact ih.snoc h
section
variable {P:Program}{w:World}{K:PySem.W.Frag}{mg:Str->Option Value}{base:Heap}{t:Adr}
theorem ok_an (T:Txt w K mg t):FnOk true P w K mg base (CXo P w) 2 t.f_an t.d_an ["_law_cell", "_law_points_here", "_law_height", "_law_seats_here"] (xoq):=by
 refine T.F_an.okn (k:=1) sc_an (fun vs H Q E h=>?_) (fun cdv A outer s H vs Q E hr h=>?_)
 .obtain ⟨w',c,lp,ls,h',ps,ss,qs,rs,rfl,_⟩:=h
  rfl
 .obtain ⟨w',c,lp,ls,h',ps,ss,qs,rs,rfl,h⟩:=h
  refine⟨_,xk (x8 (i:=4) sc_an.nd rfl (Or.inl rfl) (xb1 xfb rfl T.n_list boot_list (xa (pv 3) (xb))))
   (xk (xb4 (xao (xaa xby (xx xa7 (xt (ok_v T) (hr.mono (by decide)) rfl T.g_v T.F_v.kp T.b_v .nil xj (xa (pv 0) (xa (xn) (xb)))) (xn)) (xn) (xaf _)) (xm (x8 (i:=4) sc_an.nd rfl (Or.inl rfl) (xt (ok_m T) (hr.mono (by decide)) rfl T.g_m T.F_m.kp T.b_m .nil xj (xa (pv 2) (xb))))) (x9)))
   (xk (x8 (i:=5) sc_an.nd rfl (Or.inl rfl) (xcd (xb)))
   (xk (xa4 PassesOwn.never rfl (xc1 rfl T.n_enumerate (xa (pv 1) (xb))) (xat rfl (xq (xo (i:=6) sc_an.nd rfl (Or.inl rfl)) (xq (xo (i:=7) sc_an.nd rfl (Or.inl rfl)) (xak)))) (xm (xb4 (xao (PW.pt (xi7 (xaa (xet (xb6 hr)) (pv 4) (xcd (xb)) (xaf _)) (xh0 (xaa xtz (xx xa7 (xt (ok_v T) (hr.mono (by decide)) rfl T.g_v T.F_v.kp T.b_v .nil xj (xa (pv 0) (xa (xx xap (xn) (pv 6)) (xb)))) (xn)) (xn) (xaf _))))) (xk (xd3 (xcl PySem.F.plainAttrs_list PySem.F.slot_list_pop PySem.F.type_list_pop xe0 (pv 4) (xa (xx xa7 (xt (ok_v T) (hr.mono (by decide)) rfl T.g_v T.F_v.kp T.b_v .nil xj (xa (pv 0) (xa (xx xap (xn) (pv 6)) (xb)))) (x6 xbn rfl T.n_len boot_len (xa (pv 4) (xb)))) (xb))) (xat rfl (xq (xo (i:=8) sc_an.nd rfl (Or.inl rfl)) (xq (xo (i:=9) sc_an.nd rfl (Or.inl rfl)) (xak)))))
   (xm (xaw (xcl PySem.F.plainAttrs_list PySem.F.slot_list_append PySem.F.type_list_append xcw (pv 5) (xa (xab (xa (xay xaz (pv 7) (xn) (fun _ _=>rfl)) (xa (pv 8) (xa (pv 9) (xb))))) (xb)))))) (x9)))))
   (xk (xb4 (xao (xaa xby (xx xa7 (xt (ok_v T) (hr.mono (by decide)) rfl T.g_v T.F_v.kp T.b_v .nil xj (xa (pv 0) (xa (xn) (xb)))) (xn)) (xn) (xaf _)) (xm (x0 (xl8 rfl rfl T.n_list rfl T.n_reversed (xa (pv 5) (xb))))) (x9)))
   (xm (x0 (pv 5))))))),?_⟩
  obtain⟨h16,hlp,ptl,pok,hls,stl,sok,q⟩:=h
  have pll:=ptl.len
  have ple:=pok.le
  refine⟨_,rfl,ls,_,rfl,.inl (SqL.of hls),fun lf0 hlf0=>?_⟩
  have s1:Same H (upd H lf0 (.lst (rs.map V.ref))):=xp (Same.refl _) hlf0
  have g1:upd H lf0 (.lst (rs.map V.ref)) lf0=some (.lst (rs.map V.ref)):=xf
  revert s1 g1
  generalize upd H lf0 (.lst (rs.map V.ref))=H1
  intro s1 g1
  refine⟨fun σ H5=>∃(lf:Addr) (ss':List Seat) (rs':List Addr),σ=[some (.int c),some (.ref lp),some (.int (h':Int)),some (.ref ls),some (.ref lf),none,none,none,none,none]/\Same H H5/\H lf=none/\H5 lf=some (.lst (rs'.map V.ref))/\xac H5 ss' rs'/\SsOk (h':Int) ss',?_,?_⟩
  .refine ⟨_,rfl,c,40,rfl,fun m _ _=>⟨_,_,rfl,rfl,(by show (0:Int)<2; decide),rfl,_,rfl,ite2 (fun y=>?_) (fun y=>⟨lf0,ss,rs,rfl,s1,hlf0,g1,stl.keep (Same.tups s1),sok⟩)⟩⟩
   exact⟨_,rfl,h',rfl,h16,fun H5 lf ss' rs' _ o5 s5 f5 e5 sl5=>⟨lf,ss',rs',rfl,s1.trans s5,s1.free f5,e5,sl5,o5⟩⟩
  rintro σ H5 ⟨lf,ss5,rs5,rfl,s5,flf,e5,sl5,o5⟩
  refine⟨(by show 0<=sizeLine; decide),fun l2 hl2=>?_⟩
  have s6:Same H5 (upd H5 l2 (.lst [])):=xp (Same.refl _) hl2
  have g6:upd H5 l2 (.lst []) l2=some (.lst []):=xf
  revert s6 g6
  generalize upd H5 l2 (.lst [])=H6
  intro s6 g6
  have nfl:lf≠l2:=xi e5 hl2
  have fl2:=s5.free hl2
  refine⟨_,rfl,lp,_,rfl,SqL.of (s6 _ _ (s5 _ _ hlp)),?_⟩
  refine xe6 (xs:=qs.map V.ref) (Pv:=IPr H lp ls lf l2 c w' h' ps) ⟨ss5,rs5,[],[],_,_,_,_,rfl,s5.trans s6,s6 _ _ e5,sl5.keep (Same.tups s6),o5,g6,.nil,fun _ z=>(nomatch z),Nat.le_refl _,.nil,fun _ z=>(nomatch z),List.nil_sublist _⟩ ?_ ?_ ?_
  .rintro i σ H7 _ ⟨_,_,_,_,_,_,_,_,rfl,s7,_⟩
   exact SqL.of (s7 _ _ hlp)
  .rintro k x p σ H7 hx hp ⟨ss7,rs7,prs,ts,v6,v7,v8,v9,rfl,s7,e7,sl7,o7,t7,pr7,ok7,k7,nd7,no7,sb7⟩
   rw[List.getElem?_map,Option.map_eq_some_iff] at hx
   obtain⟨qa,hqa,rfl⟩:=hx
   obtain⟨pt,hpt,hpq⟩:=ptl.get hqa
   have k12:k<12:=by have:=(List.getElem?_eq_some_iff.mp hpt).1; omega
   have s8:Same H7 (upd H7 p (.tup [.int (k:Int),.ref qa])):=xp (Same.refl _) hp
   have g8:upd H7 p (.tup [.int (k:Int),.ref qa]) p=some (.tup [.int (k:Int),.ref qa]):=xf
   revert s8 g8
   generalize upd H7 p (.tup [.int (k:Int),.ref qa])=H8
   intro s8 g8
   refine⟨p,_,rfl,SqT.of g8,rfl,_,_,rfl,_,_,rfl,rfl,?_⟩
   refine⟨_,?_,fun _ _ z=>z⟩
   refine⟨_,rfl,(by show 0<=sizeLine; decide),fun z1 hz1=>?_⟩
   have s9:Same H8 (upd H8 z1 (.lst [])):=xp (Same.refl _) hz1
   have g9:upd H8 z1 (.lst []) z1=some (.lst []):=xf
   revert s9 g9
   generalize upd H8 z1 (.lst [])=H9
   intro s9 g9
   have s79:=s8.trans s9
   have e9:=s79 _ _ e7
   have sl9:=sl7.keep (Same.tups s79)
   obtain⟨n,m,d,e,d1,d2,n9,m9,ev⟩:=xpi (K:=K) sl9 e9 g9
   refine⟨n,m,d,e,d1,d2,n9,m9,_,rfl,?_⟩
   rw[ev]
   have skip:IPr H lp ls lf l2 c w' h' ps (k+1) [some (.int c),some (.ref lp),some (.int (h':Int)),some (.ref ls),some (.ref lf),some (.ref l2),some (.int (k:Int)),some (.ref qa),v8,v9] H9:=⟨ss7,rs7,prs,ts,_,_,_,_,rfl,s7.trans s79,e9,sl9,o7,s79 _ _ t7,pr7.keep (Same.tups s79),ok7,by omega,nd7,no7,xpm sb7⟩
   refine ite2 (fun y1=>?_) (fun y1=>skip)
   refine⟨_,rfl,_,rfl,_,_,rfl,rfl,c,_,rfl,fun m1 _ _=>⟨_,_,rfl,rfl,(by show (0:Int)<5; decide),_,_,rfl,rfl,_,rfl,ite2 (fun y2=>?_) (fun y2=>skip)⟩⟩
   have sne:rs7≠[]:=fun z=>by
    have l:=sl7.len
    rw[z] at l
    have:ss7=[]:=List.length_eq_zero_iff.mp l.symm
    rw[this] at y1
    exact absurd y1 (by decide)
   have r32:rs7.length<=32:=by rw[sl7.len]; exact o7.2.1
   refine⟨_,rfl,.inl ⟨rfl,_,SqL.of e9⟩,_,rfl,_,rfl,_,_,rfl,rfl,c,_,rfl,fun m2 _ _=>?_⟩
   obtain⟨j,vq,gj,a1,a2,a3,a4⟩:=xg9 m2 (xs:=rs7.map V.ref) (fun z=>sne (List.map_eq_nil_iff.mp z)) (by rw[List.length_map]; omega)
   rw[List.getElem?_map,Option.map_eq_some_iff] at gj
   obtain⟨qs9,hj,rfl⟩:=gj
   obtain⟨⟨b,r⟩,hs,hsq⟩:=sl9.get hj
   obtain⟨o10,n10,i10,m10⟩:=xon o7 hs
   refine⟨_,rfl,lf,_,rfl,.inl (SqL.of e9),_,_,rfl,rfl,a4,lf,_,_,j,.ref qs9,rfl,rfl,e9,a1,a2,a3,(by rw[List.getElem?_map,hj]; rfl),?_⟩
   have ee:(rs7.map V.ref).eraseIdx j=(rs7.eraseIdx j).map V.ref:=by
    rw[List.eraseIdx_eq_take_drop_succ,List.eraseIdx_eq_take_drop_succ,List.map_append,List.map_take,List.map_drop]
   rw[ee]
   have k10:∀ c u,c≠lf->H9 c=some u->upd H9 lf (.lst ((rs7.eraseIdx j).map V.ref)) c=some u:=fun c u nc e=>by rw[xg nc]; exact e
   have g10:upd H9 lf (.lst ((rs7.eraseIdx j).map V.ref)) lf=some (.lst ((rs7.eraseIdx j).map V.ref)):=xf
   revert k10 g10
   generalize upd H9 lf (.lst ((rs7.eraseIdx j).map V.ref))=H10
   intro k10 g10
   have t10:Tups H9 H10:=fun c xs e=>k10 _ _ (x5 e e9 (fun z=>nomatch z)) e
   have s010:Same H H10:=fun c u e=>k10 _ _ (xi e flf) (s79 _ _ (s7 _ _ e))
   refine⟨qs9,_,rfl,SqT.of (t10 _ _ hsq),rfl,_,_,rfl,_,_,rfl,rfl,?_⟩
   have e10t:=k10 _ _ (Ne.symm nfl) (s79 _ _ t7)
   refine⟨_,rfl,.inl ⟨rfl,_,SqL.of e10t⟩,_,rfl,qa,_,0,.str pt.nm,rfl,rfl,SqT.of (s010 _ _ hpq),rfl,_,rfl,_,rfl,(by show 3<=sizeLine; decide),fun ta hta=>?_⟩
   have s11:Same H10 (upd H10 ta (.tup [.str pt.nm,.str (xai b),.int r])):=xp (Same.refl _) hta
   have g11:upd H10 ta (.tup [.str pt.nm,.str (xai b),.int r]) ta=some (.tup [.str pt.nm,.str (xai b),.int r]):=xf
   revert s11 g11
   generalize upd H10 ta (.tup [.str pt.nm,.str (xai b),.int r])=H11
   intro s11 g11
   have g11:H11 ta=some (.tup (prV (pt,b,r))):=g11
   refine⟨l2,_,_,rfl,rfl,s11 _ _ e10t,?_,?_⟩
   .rw [List.length_map,pr7.len]
    exact Nat.lt_of_le_of_lt (by omega:_<=1000) (by decide)
   have e11t:=s11 _ _ e10t
   have kt:Tups H11 (upd H11 l2 (.lst (ts.map V.ref++[.ref ta]))):=fun c xs e=>by rw[xg (x5 e e11t (fun z=>nomatch z))]; exact e
   have pmem:=List.mem_of_getElem? hpt
   have po:=pok.ok pt pmem
   refine⟨ss7.eraseIdx j,rs7.eraseIdx j,prs++[(pt,b,r)],ts++[ta],_,_,_,_,rfl,fun c u e=>by rw[xg (xi e fl2)]; exact s11 _ _ (s010 _ _ e),by rw[xg nfl]; exact s11 _ _ g10,(((sl9.erase j).keep t10).keep (Same.tups s11)).keep kt,o10,by rw[xf,List.map_append]; rfl,PrsL.snoc ((((pr7.keep (Same.tups s79)).keep t10).keep (Same.tups s11)).keep kt) (kt _ _ g11),fun z hz=>?_,by rw[List.length_append,List.length_singleton]; omega,xgb nd7 fun z hz e=>?_,fun z hz=>?_,by rw[List.map_append]; exact xo4 sb7 hpt⟩
   .rcases List.mem_append.mp hz with hz|hz
    .exact ok7 z hz
    .rw [List.mem_singleton.mp hz]
     exact⟨po.nm,xk1 pok.nn pmem,(o7.2.2 _ m10).1,(o7.2.2 _ m10).2,po.x1,po.x2,po.y1,po.y2⟩
   .exact no7 z hz (e▸m10)
   .rcases List.mem_append.mp hz with hz|hz
    .exact fun y=>no7 z hz (i10 _ y)
    .rw [List.mem_singleton.mp hz]
     exact n10
  .rintro σ H7 ⟨ss7,rs7,prs,ts,v6,v7,v8,v9,rfl,s7,e7,sl7,o7,t7,pr7,ok7,k7,nd7,no7,sb7⟩
   have nn7:=xs6 pok.nn sb7
   rw[List.length_map,pll] at k7
   refine⟨fun σ H8=>H7=H8/\σ=[some (.int c),some (.ref lp),some (.int (h':Int)),some (.ref ls),some (.ref lf),some (.ref l2),v6,v7,v8,v9],?_,?_⟩
   .refine ⟨_,rfl,c,39,rfl,fun m _ _=>⟨_,_,rfl,rfl,(by show (0:Int)<2; decide),rfl,_,rfl,ite2 (fun y=>?_) (fun y=>⟨rfl,rfl⟩)⟩⟩
    refine⟨_,rfl,l2,_,rfl,SqL.of t7,fun l3 hl3=>?_⟩
    rw[<- List.map_reverse]
    have s9:Same H7 (upd H7 l3 (.lst (ts.reverse.map V.ref))):=xp (Same.refl _) hl3
    have g9:upd H7 l3 (.lst (ts.reverse.map V.ref)) l3=some (.lst (ts.reverse.map V.ref)):=xf
    revert s9 g9
    generalize upd H7 l3 (.lst (ts.reverse.map V.ref))=H9
    intro s9 g9
    exact q H9 l3 prs.reverse ts.reverse ⟨fun p hp=>ok7 p (List.mem_reverse.mp hp),by rw[List.map_reverse]; exact (List.reverse_perm _).nodup_iff.mpr nd7,by rw[List.length_reverse]; omega,by rw[List.map_reverse]; exact (List.reverse_perm _).nodup_iff.mpr nn7⟩ (s7.trans s9) (s7.free hl3) g9 (pr7.rev.keep (Same.tups s9))
   rintro σ _ ⟨rfl,rfl⟩
   exact⟨_,rfl,q H7 l2 prs ts ⟨ok7,nd7,by omega,nn7⟩ s7 fl2 t7 pr7⟩
end
def xr7:Sp:=fun vs H Q _=>∃(w:Int) (b:Bool),vs=[.int w,.str (xai b)]/\∀ H',Same H H'->Q (.int (Drw.rim w b)) H'
inductive CsL (H:Hp):List (Cl × Str)->List Addr->Prop
 | nil:CsL H [] []
 | cons {c:Cl × Str}{q k:Addr}{cs:List (Cl × Str)}{qs:List Addr} (h:H q=some (.tup [.ref k,.str c.2])) (hk:H k=some (.tup [.int c.1.1,.int c.1.2])) (r:CsL H cs qs):CsL H (c::cs) (q::qs)
theorem CsL.keep {H H':Hp} (s:Tups H H') {cs:List (Cl × Str)}{qs:List Addr} (h:CsL H cs qs):CsL H' cs qs:=by
 induction h with
 | nil=>exact .nil
 | cons h hk _ ih=>exact .cons (s _ _ h) (s _ _ hk) ih
theorem CsL.len {H:Hp}{cs:List (Cl × Str)}{qs:List Addr} (h:CsL H cs qs):qs.length=cs.length:=by
 induction h with
 | nil=>rfl
 | cons _ _ _ ih=>simp[ih]
theorem CsL.append {H:Hp}{cs ds:List (Cl × Str)}{qs rs:List Addr} (h:CsL H cs qs) (h':CsL H ds rs):CsL H (cs++ds) (qs++rs):=by
 induction h with
 | nil=>exact h'
 | cons h hk _ ih=>exact .cons h hk ih
theorem CsL.get {H:Hp}{cs:List (Cl × Str)}{qs:List Addr} (h:CsL H cs qs) {i:Nat}{q:Addr} (e:qs[i]?=some q):∃ c k,cs[i]?=some c/\H q=some (.tup [.ref k,.str c.2])/\H k=some (.tup [.int c.1.1,.int c.1.2]):=by
 induction h generalizing i with
 | nil=>simp at e
 | @cons c q' k cs qs h hk _ ih =>
  cases i with
  | zero =>
   simp at e
   subst e
   exact⟨c,k,rfl,h,hk⟩
  | succ j=>exact ih (by simpa using e)
theorem CsL.pick {H:Hp}:∀{cs:List (Cl × Str)}{ys:List V},ys.length=cs.length->(∀(j:Nat) (y:V),ys[j]?=some y->∃ q k c,y=.ref q/\cs[j]?=some c/\H q=some (.tup [.ref k,.str c.2])/\H k=some (.tup [.int c.1.1,.int c.1.2]))->∃ rs:List Addr,ys=rs.map V.ref/\CsL H cs rs
 | [],[],_,_=>⟨[],rfl,.nil⟩
 | [],_::_,h,_=>by cases h
 | _::_,[],h,_=>by cases h
 | c::cs,y::ys,h,f=>by
  obtain⟨q,k,c',rfl,e,h1,h2⟩:=f 0 y rfl
  cases e
  obtain⟨rs,e1,e2⟩:=CsL.pick (cs:=cs) (ys:=ys) (by simpa using h) (fun j z hz=>f (j+1) z hz)
  exact⟨q::rs,by rw[e1]; rfl,.cons h1 h2 e2⟩
def xau (w:Int) (p:Pr):List (Cl × Str):=Drw.ledL (Str.ofString "+") (Str.ofString "|") (Str.ofString "-") w p.1.x p.1.y p.2.1 p.2.2
def xr4:Sp:=fun vs H Q _=>∃(w h:Nat) (p:Pr),vs=[.int (Drw.rim w p.2.1),.int p.1.x,.int p.1.y,.int p.2.2]/\(1<=p.1.x/\p.1.x<=w/\1<=p.1.y/\p.1.y<=h/\1<=p.2.2/\p.2.2<=h/\w<=30/\h<=16) /\
 ∀ H' l qs,Same H H'->H l=none->H' l=some (.lst (qs.map V.ref))->CsL H' (xau w p) qs->Q (.ref l) H'
theorem xp3 (i j:Int):(if j<i then j else i)=min i j:=by
 rw[Int.min_def]
 split<;>split<;>omega
theorem xp2 (i j:Int):(if j>i then j else i)=max i j:=by
 rw[Int.max_def]
 split<;>split<;>omega
theorem xp5 {lo hi:Int}{i:Nat} (h:i<(hi-lo).toNat):(Drw.rg lo hi)[i]?=some (lo+(i:Int)):=by
 unfold Drw.rg
 rw[List.getElem?_map,List.getElem?_range h]
 rfl
theorem xg3 (lo hi:Int):(Drw.rg lo hi).length=(hi-lo).toNat:=by
 unfold Drw.rg
 rw[List.length_map,List.length_range]
section
variable {P:Program}{w:World}{K:PySem.W.Frag}{mg:Str->Option Value}{base:Heap}{t:Adr}
theorem ok_a0 (T:Txt w K mg t):FnOk true P w K mg base (CXo P w) 1 t.f_a0 t.d_a0 ["_law_width", "_law_side"] (xr7):=by
 refine T.F_a0.okn (k:=0) sc_a0 (fun vs H Q E h=>?_) (fun cdv A outer s H vs Q E hr h=>?_)
 .obtain ⟨w',b,rfl,_⟩:=h
  rfl
 .obtain ⟨w',b,rfl,h⟩:=h
  refine⟨_,xm (x0 (xev (xbc hr) (xrm (xjm (xad) (xn) (xjm (xad) (xx xap (pv 0) (xn)) (xq3))) rfl rfl (by simp) (by decide)) (pv 1) (fun _ _=>rfl))),?_⟩
  refine fun p hp=>?_
  refine⟨_,rfl,_,_,rfl,rfl,xf,[(.inr (Str.ofString "left"),.int 0),(.inr (Str.ofString "right"),.int (w'+1))],rfl,(by show 2<=15; decide),?_⟩
  have e:upd (upd H p (.dK [])) p (.dK (xd7 [] [(.inr (Str.ofString "left"),.int 0),(.inr (Str.ofString "right"),.int (w'+1))])) p=some (.dK [((.inr (Str.ofString "left"):Key),V.int 0),(.inr (Str.ofString "right"),.int (w'+1))]):=xf
  have s1:Same H (upd (upd H p (.dK [])) p (.dK (xd7 [] [(.inr (Str.ofString "left"),.int 0),(.inr (Str.ofString "right"),.int (w'+1))]))):=fun c u z=>by rw[xg (xi z hp),xg (xi z hp)]; exact z
  refine⟨_,rfl,p,.int (Drw.rim w' b),rfl,?_,h _ s1⟩
  have g:=DGet.k (k:=.inr (xai b)) e
  cases b
  .exact g
  .exact g
theorem ok_am (T:Txt w K mg t):FnOk true P w K mg base (CXo P w) 1 t.f_am t.d_am ["_law_rim_here", "_law_x", "_law_y", "_law_row"] (xr4):=by
 refine T.F_am.okn (k:=0) sc_am (fun vs H Q E h=>?_) (fun cdv A outer s H vs Q E hr h=>?_)
 .obtain ⟨w',h',p,rfl,_⟩:=h
  rfl
 .obtain ⟨w',h',p,rfl,h⟩:=h
  refine⟨_,xk (xce rfl (xa1 (zs:=["_law_at"]) (ys:=["_law_x"]) (fr:=[1]) (N0:=["_law_rim_here", "_law_x", "_law_y", "_law_row", "_law_found"]) (sc0:=xh s_am) (by decide +kernel) rfl rfl rfl) (xch rfl T.n_range (xa (xx xap (x6 (xfm rfl) rfl T.n_min boot_min (xa (pv 2) (xa (pv 3) (xb)))) (xn)) (xa (x6 (xiv rfl) rfl T.n_max boot_max (xa (pv 2) (xa (pv 3) (xb)))) (xb)))) (fun _ _ _ _ _ ow nd=>xo (i:=0) nd rfl (Or.inl (ow _ (by simp))) (Or.inr (ow _ (by simp)))) (xbe (by decide)) (fun _ _ _ _ _=>xbi) (fun _ _ _ _ _=>xab (xa (xab (xa (pv 1) (xa (pv 0) (xb)))) (xa (xad) (xb)))) (j:=4) rfl (Or.inl rfl))
   (xk (xb4 (xao (xaa xej (pv 3) (pv 2) (xaf _)) (xm (xaw (xcl PySem.F.plainAttrs_list PySem.F.slot_list_append PySem.F.type_list_append xcw (pv 4) (xa (xab (xa (xab (xa (pv 1) (xa (pv 3) (xb)))) (xa (xad) (xb)))) (xb))))) (x9)))
   (xm (x0 (xx xhk (pv 4) (xbj rfl (xa1 (zs:=["_law_at"]) (ys:=["_law_row"]) (fr:=[3]) (N0:=["_law_rim_here", "_law_x", "_law_y", "_law_row", "_law_found"]) (sc0:=xh s_am) (by decide +kernel) rfl rfl rfl) (xch rfl T.n_range (xa (xx xap (x6 (xfm rfl) rfl T.n_min boot_min (xa (pv 1) (xa (pv 0) (xb)))) (xn)) (xa (x6 (xiv rfl) rfl T.n_max boot_max (xa (pv 1) (xa (pv 0) (xb)))) (xb)))) (fun _ _ _ _ _ ow nd=>xo (i:=0) nd rfl (Or.inl (ow _ (by simp))) (Or.inr (ow _ (by simp)))) (xbe (by decide)) (fun _ _ _ _ _=>xbi) (fun _ _ _ _ _=>xab (xa (xab (xa (pv 0) (xa (pv 1) (xb)))) (xa (xad) (xb))))))))),?_⟩
  obtain⟨⟨x1,x2,y1,y2,r1,r2,w2,h2⟩,q⟩:=h
  obtain⟨pt,b,r⟩:=p
  have x1:1<=pt.x:=x1
  have x2:pt.x<=w':=x2
  have y1:1<=pt.y:=y1
  have y2:pt.y<=h':=y2
  have r1:1<=r:=r1
  have r2:r<=h':=r2
  have rb:Drw.rim w' b=0\/Drw.rim w' b=(w':Int)+1:=by cases b; exact .inr rfl; exact .inl rfl
  refine⟨_,rfl,_,rfl,_,_,rfl,_,_,rfl,rfl,_,rfl,_,rfl,_,_,rfl,min pt.y r+1,max pt.y r,(by show [V.int ((if r<pt.y then r else pt.y)+1),V.int (if r>pt.y then r else pt.y)]=_; rw[xp3,xp2]),⟨by omega,by omega,by omega,by omega⟩,fun l1 hl1=>?_⟩
  refine xc4 (Nat.lt_of_le_of_lt (by omega:_<=1000) (by decide)) hl1 (fun i y H5=>∃ q k c,y=.ref q/\((Drw.rg (min pt.y r+1) (max pt.y r)).map fun a=>((pt.x,a),Str.ofString "|"))[i]?=some c/\H5 q=some (.tup [.ref k,.str c.2])/\H5 k=some (.tup [.int c.1.1,.int c.1.2])) (fun i y H5 H6 tp z=>let ⟨q,k,c,e1,e2,e3,e4⟩:=z; ⟨q,k,c,e1,e2,tp _ _ e3,tp _ _ e4⟩) (fun i H5 hi s5 N hN=>?_) (fun ys H5 s5 e5 ly fy=>?_)
  .refine ⟨_,rfl,_,rfl,(by show 2<=sizeLine; decide),fun k hk=>⟨(by show 2<=sizeLine; decide),fun u hu=>hN _ _ (xp (xp (Same.refl _) hk) hu) ⟨u,k,((pt.x,min pt.y r+1+(i:Int)),Str.ofString "|"),rfl,by rw[List.getElem?_map,xp5 hi]; rfl,xf,?_⟩⟩⟩
   rw[xg (xi xf hu)]
   exact xf
  obtain⟨rs1,rfl,cl1⟩:=CsL.pick (by rw[ly,List.length_map,xg3]) fy
  have ul:rs1.length<=20:=by
   rw[List.length_map] at ly
   omega
  refine⟨fun σ H6=>∃ ds:List Addr,σ=[some (.int (Drw.rim w' b)),some (.int pt.x),some (.int pt.y),some (.int r),some (.ref l1)]/\Same H H6/\H6 l1=some (.lst (ds.map V.ref))/\ds.length<=21/\CsL H6 (((Drw.rg (min pt.y r+1) (max pt.y r)).map fun a=>((pt.x,a),Str.ofString "|"))++(if r≠pt.y then [((pt.x,r),Str.ofString "+")] else [])) ds,?_,?_⟩
  .refine ⟨_,rfl,_,rfl,rfl,_,rfl,ite2 (fun y=>?_) (fun y=>?_)⟩
   .have ne:r≠pt.y:=fun z=>by rw[z] at y; simp at y
    refine⟨_,rfl,.inl ⟨rfl,_,SqL.of e5⟩,_,rfl,_,rfl,(by show 2<=sizeLine; decide),fun k hk=>?_⟩
    have s6:Same H5 (upd H5 k (.tup [.int pt.x,.int r])):=xp (Same.refl _) hk
    have g6:upd H5 k (.tup [.int pt.x,.int r]) k=some (.tup [.int pt.x,.int r]):=xf
    revert s6 g6
    generalize upd H5 k (.tup [.int pt.x,.int r])=H6
    intro s6 g6
    refine⟨(by show 2<=sizeLine; decide),fun u hu=>?_⟩
    have s7:Same H6 (upd H6 u (.tup [.ref k,.str (Str.ofString "+")])):=xp (Same.refl _) hu
    have g7:upd H6 u (.tup [.ref k,.str (Str.ofString "+")]) u=some (.tup [.ref k,.str (Str.ofString "+")]):=xf
    revert s7 g7
    generalize upd H6 u (.tup [.ref k,.str (Str.ofString "+")])=H7
    intro s7 g7
    have e7:=s7 _ _ (s6 _ _ e5)
    refine⟨l1,_,_,rfl,rfl,e7,?_,?_⟩
    .rw [List.length_map]
     exact Nat.lt_of_le_of_lt (by omega:_<=1000) (by decide)
    have kt:Tups H7 (upd H7 l1 (.lst (rs1.map V.ref++[.ref u]))):=fun c xs e=>by rw[xg (x5 e e7 (fun z=>nomatch z))]; exact e
    refine⟨rs1++[u],rfl,fun c u e=>by rw[xg (xi e hl1)]; exact s7 _ _ (s6 _ _ (s5 _ _ e)),by rw[xf,List.map_append]; rfl,by rw[List.length_append,List.length_singleton]; omega,?_⟩
    rw[if_pos ne]
    exact (((cl1.keep (Same.tups s6)).keep (Same.tups s7)).keep kt).append (.cons (kt _ _ g7) (kt _ _ (s7 _ _ g6)) .nil)
   .have ne:¬ r≠pt.y:=fun z=>y (by simp[z])
    refine⟨rs1,rfl,s5,e5,by omega,?_⟩
    rw[if_neg ne,List.append_nil]
    exact cl1
  rintro σ H6 ⟨ds,rfl,s6,e6,d21,cl6⟩
  refine⟨_,rfl,_,rfl,_,rfl,_,_,rfl,_,_,rfl,rfl,_,rfl,_,rfl,_,_,rfl,min pt.x (Drw.rim w' b)+1,max pt.x (Drw.rim w' b),(by show [V.int ((if Drw.rim w' b<pt.x then Drw.rim w' b else pt.x)+1),V.int (if Drw.rim w' b>pt.x then Drw.rim w' b else pt.x)]=_; rw[xp3,xp2]),⟨by omega,by omega,by omega,by omega⟩,fun l2 hl2=>?_⟩
  refine xc4 (Nat.lt_of_le_of_lt (by omega:_<=1000) (by decide)) hl2 (fun i y H5=>∃ q k c,y=.ref q/\((Drw.rg (min pt.x (Drw.rim w' b)+1) (max pt.x (Drw.rim w' b))).map fun a=>((a,r),Str.ofString "-"))[i]?=some c/\H5 q=some (.tup [.ref k,.str c.2])/\H5 k=some (.tup [.int c.1.1,.int c.1.2])) (fun i y H5 H6 tp z=>let ⟨q,k,c,e1,e2,e3,e4⟩:=z; ⟨q,k,c,e1,e2,tp _ _ e3,tp _ _ e4⟩) (fun i H7 hi s7 N hN=>?_) (fun ys H7 s7 e7 ly7 fy7=>?_)
  .refine ⟨_,rfl,_,rfl,(by show 2<=sizeLine; decide),fun k hk=>⟨(by show 2<=sizeLine; decide),fun u hu=>hN _ _ (xp (xp (Same.refl _) hk) hu) ⟨u,k,((min pt.x (Drw.rim w' b)+1+(i:Int),r),Str.ofString "-"),rfl,by rw[List.getElem?_map,xp5 hi]; rfl,xf,?_⟩⟩⟩
   rw[xg (xi xf hu)]
   exact xf
  obtain⟨rs2,rfl,cl2⟩:=CsL.pick (by rw[ly7,List.length_map,xg3]) fy7
  refine⟨l1,l2,_,_,rfl,rfl,s7 _ _ e6,e7,?_,fun l3 hl3=>?_⟩
  .rw [List.length_map,ly7]
   exact Nat.le_trans (by omega:_<=1000) (by decide)
  rw[<- List.map_append]
  have s8:Same H7 (upd H7 l3 (.lst ((ds++rs2).map V.ref))):=xp (Same.refl _) hl3
  have g8:upd H7 l3 (.lst ((ds++rs2).map V.ref)) l3=some (.lst ((ds++rs2).map V.ref)):=xf
  revert s8 g8
  generalize upd H7 l3 (.lst ((ds++rs2).map V.ref))=H8
  intro s8 g8
  exact q H8 l3 (ds++rs2) ((s6.trans s7).trans s8) ((s6.trans s7).free hl3) g8 (((cl6.keep (Same.tups s7)).append cl2).keep (Same.tups s8))
end
def xah (w:Int) (ps:List Pt) (ss:List Seat) (prs:List Pr):Cl->Option Str:=Drw.drawL hsS (prs.flatMap (xau w)) (xbl w ss) (xbd w prs) (ptsS ps)
def xq7:Sp:=fun vs H Q _=>∃(w h:Nat) (lp ls l:Addr) (ps:List Pt) (ss:List Seat) (prs:List Pr) (qs rs ts:List Addr),vs=[.int (w:Int),.int (h:Int),.ref lp,.ref ls,.ref l]/\1<=w/\w<=30/\h<=16/\H lp=some (.lst (qs.map V.ref))/\PtsL H ps qs/\xdg (w:Int) (h:Int) ps/\H ls=some (.lst (rs.map V.ref))/\xac H ss rs/\ss.length<=32/\H l=some (.lst (ts.map V.ref))/\PrsL H prs ts/\xfg (w:Int) (h:Int) ps prs /\
 ∀ H' l',Same H H'->H l'=none->H' l'=some (.lst (xbs w h (xah w ps ss prs)))->Q (.ref l') H'
theorem xoh {w h:Nat}{p:Pr} (x1:1<=p.1.x) (x2:p.1.x<=w) (y1:1<=p.1.y) (y2:p.1.y<=h) (r1:1<=p.2.2) (r2:p.2.2<=h) (w2:w<=30) (h2:h<=16):(xau w p).length<=50:=by
 unfold xau Drw.ledL
 rw[List.length_append,List.length_append,List.length_map,List.length_map,xg3,xg3]
 have rb:Drw.rim w p.2.1=0\/Drw.rim w p.2.1=(w:Int)+1:=by
  unfold Drw.rim
  split
  .exact .inl rfl
  .exact .inr rfl
 have c:(if p.2.2≠p.1.y then [((p.1.x,p.2.2),Str.ofString "+")] else ([]:List (Cl × Str))).length<=1:=by
  split
  .exact Nat.le_refl _
  .exact Nat.zero_le _
 omega
theorem xkc {w:Int}{ps:List Pt}{ss:List Seat}{prs:List Pr} (h1:∀ p∈ps,isNm p.nm=true) (h2:∀ p∈prs,isNm p.1.nm=true):xl5 (xah w ps ss prs):=by
 have no:∀(c:Cl) (s:Str),(Drw.no:Cl->Option Str) c=some s->s.length<=5:=fun _ _ e=>nomatch e
 have n3:=xcu (P:=fun s=>s.length<=5) (hs:=hsS) (by unfold hsS; decide +kernel) (L:=prs.flatMap (xau w)) no (fun x hx=>by
  obtain⟨p,_,hx⟩:=List.mem_flatMap.mp hx
  unfold xau Drw.ledL at hx
  rcases List.mem_append.mp hx with hx|hx
  .rcases List.mem_append.mp hx with hx|hx
   .obtain ⟨c,_,rfl⟩:=List.mem_map.mp hx
    show (Str.ofString "|").length<=5
    decide +kernel
   .split at hx
    .rw [List.mem_singleton.mp hx]
     show (Str.ofString "+").length<=5
     decide +kernel
    .exact nomatch hx
  .obtain ⟨c,_,rfl⟩:=List.mem_map.mp hx
   show (Str.ofString "-").length<=5
   decide +kernel)
 have n4:=xbk (P:=fun s=>s.length<=5) (L:=ptsS ps) n3 (fun x hx=>by
  obtain⟨z,hz,rfl⟩:=List.mem_map.mp hx
  exact xe4 (h1 z hz))
 have n5:=xbk (P:=fun s=>s.length<=5) (L:=xbl w ss) n4 (fun x hx=>by
  obtain⟨z,_,rfl⟩:=List.mem_map.mp hx
  show (Str.ofString ".").length<=5
  decide +kernel)
 exact xbk (P:=fun s=>s.length<=5) (L:=xbd w prs) n5 (fun x hx=>by
  obtain⟨z,hz,rfl⟩:=List.mem_map.mp hx
  exact xe4 (h2 z hz))
section
variable {P:Program}{w:World}{K:PySem.W.Frag}{mg:Str->Option Value}{base:Heap}{t:Adr}
theorem ok_ah (T:Txt w K mg t):FnOk true P w K mg base (CXo P w) 2 t.f_ah t.d_ah ["_law_width", "_law_height", "_law_points_here", "_law_seats_here", "_law_pairs_here"] (xq7):=by
 refine T.F_ah.okn (k:=1) sc_ah (fun vs H Q E h=>?_) (fun cdv A outer s H vs Q E hr h=>?_)
 .obtain ⟨w',h',lp,ls,l,ps,ss,prs,qs,rs,ts,rfl,_⟩:=h
  rfl
 .obtain ⟨w',h',lp,ls,l,ps,ss,prs,qs,rs,ts,rfl,h⟩:=h
  refine⟨_,xk (x8 (i:=5) sc_ah.nd rfl (Or.inr rfl) (xgs))
   (xk (xa4 PassesOwn.never rfl (xar (pv 4)) (xat rfl (xq (xo (i:=6) sc_ah.nd rfl (Or.inr rfl)) (xq (xo (i:=7) sc_ah.nd rfl (Or.inl rfl)) (xq (xo (i:=8) sc_ah.nd rfl (Or.inl rfl)) (xak))))) (xk (xd3 (xay xdw (xbj rfl (xa1 (zs:=["_law_point_here"]) (ys:=["_law_name"]) (fr:=[6]) (N0:=["_law_width", "_law_height", "_law_points_here", "_law_seats_here", "_law_pairs_here", "_law_signs", "_law_name", "_law_side", "_law_row", "_law_x", "_law_y", "_law_cell", "_law_sign", "_law_point_here", "_law_rows"]) (sc0:=xh s_ah) (by decide +kernel) rfl rfl rfl) (xar (pv 2)) (fun _ _ _ _ _ ow nd=>xo (i:=0) nd rfl (Or.inl (ow _ (by simp))) (Or.inr (ow _ (by simp)))) (xbe (by decide)) (fun _ _ _ _ _=>xer (xaa xby (xay (r:=rIxT K) xaz (pv 0) (xn) (fun _ _=>rfl)) (pv 1) (xaf _))) (fun _ _ _ _ _=>xab (xa (xay (r:=rIxT K) xaz (pv 0) (xn) (fun _ _=>rfl)) (xa (xay (r:=rIxT K) xaz (pv 0) (xn) (fun _ _=>rfl)) (xb))))) (xn) (fun _ _=>rfl)) (xat rfl (xq (xo (i:=9) sc_ah.nd rfl (Or.inl rfl)) (xq (xo (i:=10) sc_ah.nd rfl (Or.inr rfl)) (xak)))))
   (xm (xa4 PassesOwn.never rfl (xar (xt (ok_am T) (hr.mono (by decide)) rfl T.g_am T.F_am.kp T.b_am .nil xj (xa (xt (ok_a0 T) (hr.mono (by decide)) rfl T.g_a0 T.F_a0.kp T.b_a0 .nil xj (xa (pv 0) (xa (pv 7) (xb)))) (xa (pv 9) (xa (pv 10) (xa (pv 8) (xb))))))) (xat rfl (xq (xo (i:=11) sc_ah.nd rfl (Or.inl rfl)) (xq (xo (i:=12) sc_ah.nd rfl (Or.inl rfl)) (xak)))) (xk (xb4 (xao (xd6 (xg0 (xbc hr) (pv 11) (pv 5))) (xm (x8 (i:=12) sc_ah.nd rfl (Or.inl rfl) (xad))) (x9)))
   (xm (xb7 (xbc hr) (pv 5) (pv 11) (pv 12) rfl)))))))
   (xk (xa4 PassesOwn.never rfl (xar (pv 2)) (xo (i:=13) sc_ah.nd rfl (Or.inl rfl)) (xm (xb7 (xbc hr) (pv 5) (xab (xa (xay xaz (pv 13) (xn) (fun _ _=>rfl)) (xa (xay xaz (pv 13) (xn) (fun _ _=>rfl)) (xb)))) (xay xaz (pv 13) (xn) (fun _ _=>rfl)) rfl)))
   (xk (xa4 PassesOwn.never rfl (xar (pv 3)) (xat rfl (xq (xo (i:=7) sc_ah.nd rfl (Or.inl rfl)) (xq (xo (i:=8) sc_ah.nd rfl (Or.inl rfl)) (xak)))) (xm (xb7 (xbc hr) (pv 5) (xab (xa (xt (ok_a0 T) (hr.mono (by decide)) rfl T.g_a0 T.F_a0.kp T.b_a0 .nil xj (xa (pv 0) (xa (pv 7) (xb)))) (xa (pv 8) (xb)))) (xad) rfl)))
   (xk (xa4 PassesOwn.never rfl (xar (pv 4)) (xat rfl (xq (xo (i:=6) sc_ah.nd rfl (Or.inr rfl)) (xq (xo (i:=7) sc_ah.nd rfl (Or.inl rfl)) (xq (xo (i:=8) sc_ah.nd rfl (Or.inl rfl)) (xak))))) (xm (xb7 (xbc hr) (pv 5) (xab (xa (xt (ok_a0 T) (hr.mono (by decide)) rfl T.g_a0 T.F_a0.kp T.b_a0 .nil xj (xa (pv 0) (xa (pv 7) (xb)))) (xa (pv 8) (xb)))) (pv 6) rfl)))
   (xk (x8 (i:=14) sc_ah.nd rfl (Or.inl rfl) (xcd (xb)))
   (xk (xa4 PassesOwn.never rfl (xch rfl T.n_range (xa (xn) (xa (xx xap (pv 1) (xn)) (xb)))) (xo (i:=10) sc_ah.nd rfl (Or.inr rfl)) (xm (xaw (xcl PySem.F.plainAttrs_list PySem.F.slot_list_append PySem.F.type_list_append xcw (pv 14) (xa (xcl PySem.F.plainAttrs_str PySem.F.slot_str_join PySem.F.type_str_join xk3 (xad) (xa (xbj rfl (xa1 (zs:=["_law_x"]) (ys:=["_law_signs", "_law_y"]) (fr:=[5,10]) (N0:=["_law_width", "_law_height", "_law_points_here", "_law_seats_here", "_law_pairs_here", "_law_signs", "_law_name", "_law_side", "_law_row", "_law_x", "_law_y", "_law_cell", "_law_sign", "_law_point_here", "_law_rows"]) (sc0:=xh s_ah) (by decide +kernel) rfl rfl rfl) (xic rfl T.n_range (xa (xx xap (pv 0) (xn)) (xb))) (fun _ _ _ _ _ ow nd=>xo (i:=0) nd rfl (Or.inl (ow _ (by simp))) (Or.inr (ow _ (by simp)))) (xbe (by decide)) (fun _ _ _ _ _=>xbi) (fun _ _ _ _ _=>xje (xbc hr) (pv 1) (xab (xa (pv 0) (xa (pv 2) (xb)))) (xad) ⟨rfl,rfl,rfl,rfl⟩)) (xb))) (xb))))))
   (xm (x0 (pv 14))))))))),?_⟩
  obtain⟨w1,w2,h2,hlp,ptl,pok,hls,stl,l32,hl,prl,pal,q⟩:=h
  have tll:=prl.len
  have qll:=ptl.len
  have rll:=stl.len
  have t12:=pal.len
  have p12:=pok.le
  refine fun d hd=>?_
  have s1:Same H (upd H d (.dT [])):=xp (Same.refl _) hd
  have g1:upd H d (.dT []) d=some (.dT []):=xf
  revert s1 g1
  generalize upd H d (.dT [])=H1
  intro s1 g1
  refine⟨_,rfl,l,rfl,⟨_,SqL.of (s1 _ _ hl)⟩,?_⟩
  refine xa6 (xs:=ts.map V.ref) (Pv:=fun i σ H5=>∃(v6 v7 v8 v9 v10 v11 v12:Option V),σ=[some (.int (w':Int)),some (.int (h':Int)),some (.ref lp),some (.ref ls),some (.ref l),some (.ref d),v6,v7,v8,v9,v10,v11,v12,none,none]/\Same H H5/\SD H5 d (50*i) (Drw.marks hsS Drw.no ((prs.take i).flatMap (xau w')))) ⟨_,_,_,_,_,_,_,rfl,s1,SD.new g1⟩ ?_ ?_ ?_
  .rintro i σ H5 _ ⟨_,_,_,_,_,_,_,rfl,s5,_⟩
   exact SqL.of (s5 _ _ hl)
  .rintro i x σ H5 hx ⟨v6,v7,v8,v9,v10,v11,v12,rfl,s5,sd⟩
   rw[List.getElem?_map,Option.map_eq_some_iff] at hx
   obtain⟨qa,hqa,rfl⟩:=hx
   obtain⟨⟨pt,b,r⟩,hp,hpq⟩:=prl.get hqa
   have ok:=pal.ok _ (List.mem_of_getElem? hp)
   have i12:i<12:=by have:=(List.getElem?_eq_some_iff.mp hp).1; omega
   have xy:1<=pt.x/\pt.x<=w'/\1<=pt.y/\pt.y<=h':=ok.xy
   have r1:1<=r:=ok.r1
   have r2:r<=h':=ok.r2
   have fd:ps.find? (fun z=>decide (z.nm=pt.nm))=some pt:=ok.fd
   refine⟨qa,_,rfl,SqT.of (s5 _ _ hpq),rfl,_,_,rfl,_,_,rfl,_,_,rfl,rfl,?_⟩
   refine⟨_,rfl,lp,rfl,⟨_,SqL.of (s5 _ _ hlp)⟩,fun l1 hl1=>?_⟩
   refine xdq (SqL.of (s5 _ _ hlp)) (by rw[List.length_map]; exact Nat.lt_of_le_of_lt (by omega:_<=1000) (by decide)) hl1 (fun i=>((ps[i]?).map fun p=>decide (p.nm=pt.nm)).getD false) (fun i y H=>∃ p q,ps[i]?=some p/\p.nm=pt.nm/\y=.ref q/\H q=some (.tup [.int p.x,.int p.y])) (fun i y H H' tp ⟨p,q,e0,e1,e2,e3⟩=>⟨p,q,e0,e1,e2,tp _ _ e3⟩) (fun i z H6 hz s6 N M hN hM=>?_) (fun ys H6 s6 e6 ly fy=>?_)
   .rw [List.getElem?_map,Option.map_eq_some_iff] at hz
    obtain⟨o,ho,rfl⟩:=hz
    obtain⟨p,hpp,ep⟩:=ptl.get ho
    have ep6:=s6 _ _ (s5 _ _ ep)
    refine⟨_,rfl,o,_,0,.str p.nm,rfl,rfl,SqT.of ep6,rfl,_,rfl,rfl,_,rfl,ite2 (fun c=>?_) (fun c=>?_)⟩
    .have cn:p.nm=pt.nm:=V.str.inj (of_decide_eq_true c)
     refine⟨_,rfl,o,_,1,.int p.x,rfl,rfl,SqT.of ep6,rfl,_,rfl,o,_,2,.int p.y,rfl,rfl,SqT.of ep6,rfl,(by show 2<=sizeLine; decide),fun u hu=>?_⟩
     exact hN _ _ (xp (Same.refl _) hu) (by rw[hpp]; simpa using cn) ⟨p,u,hpp,cn,rfl,xf⟩
    .have cn:p.nm≠pt.nm:=fun z=>c (decide_eq_true (by rw[z]))
     exact hM _ (Same.refl _) (by rw[hpp]; simpa using cn)
   have pin:pt∈ps:=List.mem_of_find?_eq_some fd
   obtain⟨k,hk,ek⟩:=List.getElem_of_mem pin
   rw[List.length_map,qll] at ly fy
   have kin:k∈(List.range ps.length).filter fun i=>((ps[i]?).map fun p=>decide (p.nm=pt.nm)).getD false:=by
    rw[List.mem_filter,List.mem_range]
    refine⟨hk,?_⟩
    rw[List.getElem?_eq_getElem hk,ek]
    simp
   have fl:0<((List.range ps.length).filter fun i=>((ps[i]?).map fun p=>decide (p.nm=pt.nm)).getD false).length:=List.length_pos_iff_exists_mem.mpr ⟨k,kin⟩
   have y0:0<ys.length:=by omega
   obtain⟨p',qn,hp',en,ey,eq⟩:=fy 0 _ _ (List.getElem?_eq_getElem y0) (List.getElem?_eq_getElem fl)
   have ept:p'=pt:=by
    have z:=xk1 pok.nn (List.mem_of_getElem? hp')
    rw[en,fd] at z
    exact (Option.some.inj z).symm
   subst ept
   refine⟨l1,_,0,.ref qn,rfl,rfl,SqL.of e6,xdx (j:=0) (by rw[List.getElem?_eq_getElem y0,ey]),qn,_,rfl,SqT.of eq,rfl,_,_,rfl,_,_,rfl,rfl,?_⟩
   refine⟨_,rfl,_,rfl,(w':Int),b,rfl,fun H7 s7=>?_⟩
   refine⟨_,rfl,_,rfl,_,rfl,w',h',(p',b,r),rfl,⟨xy.1,xy.2.1,xy.2.2.1,xy.2.2.2,r1,r2,w2,h2⟩,fun H8 l8 cq s8 f8 e8 cl8=>⟨l8,rfl,⟨_,SqL.of e8⟩,?_⟩⟩
   have s58:=(s6.trans s7).trans s8
   have sd8:=sd.keep (H':=H8) (fun u e=>s58 _ _ e)
   have ne8:l8≠d:=by
    obtain⟨kvs,e,_⟩:=sd8
    exact x5 e8 e (fun z=>nomatch z)
   have cll:=cl8.len
   have c50:=xoh (w:=w') (h:=h') (p:=(p',b,r)) xy.1 xy.2.1 xy.2.2.1 xy.2.2.2 r1 r2 w2 h2
   refine xa6 (xs:=cq.map V.ref) (Pv:=fun j σ H9=>∃(v11 v12:Option V),σ=[some (.int (w':Int)),some (.int (h':Int)),some (.ref lp),some (.ref ls),some (.ref l),some (.ref d),some (.str p'.nm),some (.str (xai b)),some (.int r),some (.int p'.x),some (.int p'.y),v11,v12,none,none]/\(∀ c u,c≠d->H8 c=some u->H9 c=some u)/\SD H9 d (50*i+j) (Drw.marks hsS (Drw.marks hsS Drw.no ((prs.take i).flatMap (xau w'))) ((xau w' (p',b,r)).take j))) ⟨_,_,rfl,fun c u _ e=>e,sd8⟩ ?_ ?_ ?_
   .rintro j σ H9 _ ⟨_,_,rfl,k9,_⟩
    exact SqL.of (k9 _ _ ne8 e8)
   .rintro j x σ H9 hx ⟨v11,v12,rfl,k9,sd9⟩
    rw[List.getElem?_map,Option.map_eq_some_iff] at hx
    obtain⟨qc,hqc,rfl⟩:=hx
    obtain⟨⟨c,sg⟩,kc,hc,hc8,hk8⟩:=cl8.get hqc
    have j50:j<50:=by have:=(List.getElem?_eq_some_iff.mp hqc).1; omega
    have nqc:qc≠d:=by
     obtain⟨kvs,e,_⟩:=sd8
     exact x5 hc8 e (fun z=>nomatch z)
    have nkc:kc≠d:=by
     obtain⟨kvs,e,_⟩:=sd8
     exact x5 hk8 e (fun z=>nomatch z)
    have hk9:=k9 _ _ nkc hk8
    have stp:∀ m:Cl->Option Str,Drw.marks hsS m ((xau w' (p',b,r)).take (j+1))=Drw.mark1 hsS (Drw.marks hsS m ((xau w' (p',b,r)).take j)) c sg:=fun m=>by
     rw[List.take_add_one,hc]
     unfold Drw.marks
     rw[List.foldl_append]
     rfl
    refine⟨qc,_,rfl,SqT.of (k9 _ _ nqc hc8),rfl,_,_,rfl,_,_,rfl,rfl,?_⟩
    refine⟨fun σ H10=>H9=H10/\σ=[some (.int (w':Int)),some (.int (h':Int)),some (.ref lp),some (.ref ls),some (.ref l),some (.ref d),some (.str p'.nm),some (.str (xai b)),some (.int r),some (.int p'.x),some (.int p'.y),some (.ref kc),some (.str (if (Drw.marks hsS (Drw.marks hsS Drw.no ((prs.take i).flatMap (xau w'))) ((xau w' (p',b,r)).take j) c).isSome then hsS else sg)),none,none],?_,?_⟩
    .refine ⟨_,rfl,_,rfl,d,_,rfl,sd9.get hk9,_,rfl,ite2 (fun z=>?_) (fun z=>?_)⟩
     .rw [Option.isSome_map] at z
      rw[if_pos z]
      exact⟨rfl,rfl⟩
     .rw [Option.isSome_map] at z
      rw[if_neg z]
      exact⟨rfl,rfl⟩
    rintro σ _ ⟨rfl,rfl⟩
    obtain⟨H10,dput,sd10,k10,_⟩:=sd9.put (by omega) hk9 (if (Drw.marks hsS (Drw.marks hsS Drw.no ((prs.take i).flatMap (xau w'))) ((xau w' (p',b,r)).take j) c).isSome then hsS else sg)
    refine⟨_,rfl,_,rfl,_,rfl,d,H10,rfl,dput,_,_,rfl,fun c u nc e=>k10 _ _ nc (k9 _ _ nc e),?_⟩
    rw[stp]
    exact sd10
   .rintro σ H9 ⟨v11',v12',rfl,k9,sd9⟩
    rw[List.length_map] at sd9
    refine⟨_,_,_,_,_,_,_,rfl,fun c u e=>k9 _ _ (xi e hd) (s58 _ _ (s5 _ _ e)),?_⟩
    rw[List.take_of_length_le (l:=xau w' (p',b,r)) (by omega)] at sd9
    have e:(prs.take (i+1)).flatMap (xau w')=(prs.take i).flatMap (xau w')++xau w' (p',b,r):=by
     rw[List.take_add_one,hp,List.flatMap_append]
     exact congrArg _ (List.append_nil _)
    rw[e]
    refine SD.le ?_ (show 50*i+cq.length<=50*(i+1) by omega)
    unfold Drw.marks at sd9 ⊢
    rw[List.foldl_append]
    exact sd9
  .rintro σ H5 ⟨v6,v7,v8,v9,v10,v11,v12,rfl,s5,sd⟩
   rw[List.length_map,List.take_of_length_le (by omega)] at sd
   have sd:=sd.le (k:=600) (by omega)
   refine⟨_,rfl,lp,rfl,⟨_,SqL.of (s5 _ _ hlp)⟩,?_⟩
   refine xa6 (xs:=qs.map V.ref) (Pv:=fun i σ H6=>∃(v13:Option V),σ=[some (.int (w':Int)),some (.int (h':Int)),some (.ref lp),some (.ref ls),some (.ref l),some (.ref d),v6,v7,v8,v9,v10,v11,v12,v13,none]/\Same H H6/\SD H6 d (600+i) (Drw.sets (Drw.marks hsS Drw.no (prs.flatMap (xau w'))) ((ptsS ps).take i))) ⟨_,rfl,s5,sd⟩ ?_ ?_ ?_
   .rintro i σ H6 _ ⟨_,rfl,s6,_⟩
    exact SqL.of (s6 _ _ hlp)
   .rintro i x σ H6 hx ⟨v13,rfl,s6,sd6⟩
    rw[List.getElem?_map,Option.map_eq_some_iff] at hx
    obtain⟨qa,hqa,rfl⟩:=hx
    obtain⟨p,hp,hpq⟩:=ptl.get hqa
    have i12:i<12:=by have:=(List.getElem?_eq_some_iff.mp hp).1; omega
    have hq6:=s6 _ _ hpq
    refine⟨_,rfl,qa,_,0,.str p.nm,rfl,rfl,SqT.of hq6,rfl,_,rfl,_,rfl,qa,_,1,.int p.x,rfl,rfl,SqT.of hq6,rfl,_,rfl,qa,_,2,.int p.y,rfl,rfl,SqT.of hq6,rfl,(by show 2<=sizeLine; decide),fun kp hkp=>?_⟩
    have s7:Same H6 (upd H6 kp (.tup [.int p.x,.int p.y])):=xp (Same.refl _) hkp
    have g7:upd H6 kp (.tup [.int p.x,.int p.y]) kp=some (.tup [.int p.x,.int p.y]):=xf
    revert s7 g7
    generalize upd H6 kp (.tup [.int p.x,.int p.y])=H7
    intro s7 g7
    obtain⟨H8,dput,sd8,k8,_⟩:=(sd6.keep (H':=H7) (fun u e=>s7 _ _ e)).put (c:=(p.x,p.y)) (by omega) g7 p.nm
    refine⟨d,H8,rfl,dput,_,rfl,fun c u e=>k8 _ _ (xi e hd) (s7 _ _ (s6 _ _ e)),?_⟩
    rw[xdm (c:=(p.x,p.y)) (x:=p.nm)]
    .exact sd8
    .unfold ptsS
     rw[List.getElem?_map,hp]
     rfl
   .rintro σ H6 ⟨v13,rfl,s6,sd6⟩
    rw[List.length_map,List.take_of_length_le (l:=ptsS ps) (by unfold ptsS; rw[List.length_map]; omega)] at sd6
    have sd6:=sd6.le (k:=620) (by omega)
    refine⟨_,rfl,ls,rfl,⟨_,SqL.of (s6 _ _ hls)⟩,?_⟩
    refine xa6 (xs:=rs.map V.ref) (Pv:=fun i σ H7=>∃(v7 v8:Option V),σ=[some (.int (w':Int)),some (.int (h':Int)),some (.ref lp),some (.ref ls),some (.ref l),some (.ref d),v6,v7,v8,v9,v10,v11,v12,v13,none]/\Same H H7/\SD H7 d (620+i) (Drw.sets (Drw.sets (Drw.marks hsS Drw.no (prs.flatMap (xau w'))) (ptsS ps)) ((xbl w' ss).take i))) ⟨_,_,rfl,s6,sd6⟩ ?_ ?_ ?_
    .rintro i σ H7 _ ⟨_,_,rfl,s7,_⟩
     exact SqL.of (s7 _ _ hls)
    .rintro i x σ H7 hx ⟨v7',v8',rfl,s7,sd7⟩
     rw[List.getElem?_map,Option.map_eq_some_iff] at hx
     obtain⟨qa,hqa,rfl⟩:=hx
     obtain⟨⟨b,r⟩,hs,hsq⟩:=stl.get hqa
     have i32:i<32:=by have:=(List.getElem?_eq_some_iff.mp hs).1; omega
     refine⟨qa,_,rfl,SqT.of (s7 _ _ hsq),rfl,_,_,rfl,_,_,rfl,rfl,?_⟩
     refine⟨_,rfl,_,rfl,_,rfl,(w':Int),b,rfl,fun H8 s8=>⟨_,rfl,(by show 2<=sizeLine; decide),fun kp hkp=>?_⟩⟩
     have s9:Same H8 (upd H8 kp (.tup [.int (Drw.rim w' b),.int r])):=xp (Same.refl _) hkp
     have g9:upd H8 kp (.tup [.int (Drw.rim w' b),.int r]) kp=some (.tup [.int (Drw.rim w' b),.int r]):=xf
     revert s9 g9
     generalize upd H8 kp (.tup [.int (Drw.rim w' b),.int r])=H9
     intro s9 g9
     obtain⟨H10,dput,sd10,k10,_⟩:=(sd7.keep (H':=H9) (fun u e=>s9 _ _ (s8 _ _ e))).put (c:=rimC w' (b,r)) (by omega) g9 (Str.ofString ".")
     refine⟨d,H10,rfl,dput,_,_,rfl,fun c u e=>k10 _ _ (xi e hd) (s9 _ _ (s8 _ _ (s7 _ _ e))),?_⟩
     rw[xdm (c:=rimC w' (b,r)) (x:=Str.ofString ".")]
     .exact sd10
     .unfold xbl
      rw[List.getElem?_map,hs]
      rfl
    .rintro σ H7 ⟨v7',v8',rfl,s7,sd7⟩
     rw[List.length_map,List.take_of_length_le (l:=xbl w' ss) (by unfold xbl; rw[List.length_map]; omega)] at sd7
     have sd7:=sd7.le (k:=660) (by omega)
     refine⟨_,rfl,l,rfl,⟨_,SqL.of (s7 _ _ hl)⟩,?_⟩
     refine xa6 (xs:=ts.map V.ref) (Pv:=fun i σ H8=>∃(v6 v7 v8:Option V),σ=[some (.int (w':Int)),some (.int (h':Int)),some (.ref lp),some (.ref ls),some (.ref l),some (.ref d),v6,v7,v8,v9,v10,v11,v12,v13,none]/\Same H H8/\SD H8 d (660+i) (Drw.sets (Drw.sets (Drw.sets (Drw.marks hsS Drw.no (prs.flatMap (xau w'))) (ptsS ps)) (xbl w' ss)) ((xbd w' prs).take i))) ⟨_,_,_,rfl,s7,sd7⟩ ?_ ?_ ?_
     .rintro i σ H8 _ ⟨_,_,_,rfl,s8,_⟩
      exact SqL.of (s8 _ _ hl)
     .rintro i x σ H8 hx ⟨v6'',v7'',v8'',rfl,s8,sd8⟩
      rw[List.getElem?_map,Option.map_eq_some_iff] at hx
      obtain⟨qa,hqa,rfl⟩:=hx
      obtain⟨⟨pt,b,r⟩,hp,hpq⟩:=prl.get hqa
      have i12:i<12:=by have:=(List.getElem?_eq_some_iff.mp hp).1; omega
      refine⟨qa,_,rfl,SqT.of (s8 _ _ hpq),rfl,_,_,rfl,_,_,rfl,_,_,rfl,rfl,?_⟩
      refine⟨_,rfl,_,rfl,_,rfl,_,rfl,(w':Int),b,rfl,fun H9 s9=>⟨_,rfl,(by show 2<=sizeLine; decide),fun kp hkp=>?_⟩⟩
      have s10:Same H9 (upd H9 kp (.tup [.int (Drw.rim w' b),.int r])):=xp (Same.refl _) hkp
      have g10:upd H9 kp (.tup [.int (Drw.rim w' b),.int r]) kp=some (.tup [.int (Drw.rim w' b),.int r]):=xf
      revert s10 g10
      generalize upd H9 kp (.tup [.int (Drw.rim w' b),.int r])=H10
      intro s10 g10
      obtain⟨H11,dput,sd11,k11,_⟩:=(sd8.keep (H':=H10) (fun u e=>s10 _ _ (s9 _ _ e))).put (c:=rimC w' (b,r)) (by omega) g10 pt.nm
      refine⟨d,H11,rfl,dput,_,_,_,rfl,fun c u e=>k11 _ _ (xi e hd) (s10 _ _ (s9 _ _ (s8 _ _ e))),?_⟩
      rw[xdm (c:=rimC w' (b,r)) (x:=pt.nm)]
      .exact sd11
      .unfold xbd
       rw[List.getElem?_map,hp]
       rfl
     .rintro σ H8 ⟨v6'',v7'',v8'',rfl,s8,sd8⟩
      rw[List.length_map,List.take_of_length_le (l:=xbd w' prs) (by unfold xbd; rw[List.length_map]; omega)] at sd8
      have sd8:SD H8 d (660+ts.length) (xah w' ps ss prs):=sd8
      have sh:=xkc (w:=w') (ss:=ss) (fun p hp=>(pok.ok p hp).nm) (fun p hp=>(pal.ok p hp).nm)
      refine⟨(by show 0<=sizeLine; decide),fun lw hlw=>?_⟩
      have s9:Same H8 (upd H8 lw (.lst [])):=xp (Same.refl _) hlw
      have g9:upd H8 lw (.lst []) lw=some (.lst []):=xf
      revert s9 g9
      generalize upd H8 lw (.lst [])=H9
      intro s9 g9
      have flw:=s8.free hlw
      have nwd:d≠lw:=by
       obtain⟨kvs,e,_⟩:=sd8
       exact xi e hlw
      have sd9:=sd8.keep (H':=H9) (fun u e=>s9 _ _ e)
      refine⟨_,rfl,_,_,rfl,rfl,1,(h':Int)+1,rfl,⟨by decide,by decide,by omega,by omega⟩,?_⟩
      refine xir (Pv:=fun i σ H10=>∃(v10:Option V),σ=[some (.int (w':Int)),some (.int (h':Int)),some (.ref lp),some (.ref ls),some (.ref l),some (.ref d),v6'',v7'',v8'',v9,v10,v11,v12,v13,some (.ref lw)]/\Same H H10/\SD H10 d (660+ts.length) (xah w' ps ss prs)/\H10 lw=some (.lst (xbs w' i (xah w' ps ss prs)))) ⟨_,rfl,s8.trans s9,sd9,g9⟩ ?_ ?_
      .rintro i σ H10 hi ⟨v10',rfl,s10,sd10,e10⟩
       refine⟨_,rfl,.inl ⟨rfl,_,SqL.of e10⟩,?_⟩
       refine⟨rfl,_,rfl,_,_,rfl,rfl,((w'+2:Nat):Int),by rw[Int.natCast_add]; rfl,by omega,by omega,fun l1 hl1=>?_⟩
       refine xgp (Nat.lt_of_le_of_lt (by omega:_<=1000) (by decide)) hl1 (fun (j:Nat)=>V.str ((xah w' ps ss prs ((j:Int),1+(i:Int))).getD (Str.ofString " "))) ?_ ?_
       .intro j H11 hj s11 N hN
        simp only[Int.zero_add]
        obtain⟨kvs,ed,_⟩:=id sd10
        refine⟨_,rfl,d,rfl,.inr ⟨kvs,.inl (s11 _ _ ed)⟩,_,rfl,_,rfl,(by show 2<=sizeLine; decide),fun p hp=>?_⟩
        have s12:Same H11 (upd H11 p (.tup [.int (j:Int),.int (1+(i:Int))])):=xp (Same.refl _) hp
        have g12:upd H11 p (.tup [.int (j:Int),.int (1+(i:Int))]) p=some (.tup [.int (j:Int),.int (1+(i:Int))]):=xf
        revert s12 g12
        generalize upd H11 p (.tup [.int (j:Int),.int (1+(i:Int))])=H12
        intro s12 g12
        refine⟨_,(sd10.keep (H':=H12) fun u e=>s12 _ _ (s11 _ _ e)).get (c:=((j:Int),1+(i:Int))) g12,?_⟩
        have e:((xah w' ps ss prs ((j:Int),1+(i:Int))).map V.str).getD (V.str (Str.ofString " "))=V.str ((xah w' ps ss prs ((j:Int),1+(i:Int))).getD (Str.ofString " ")):=by cases xah w' ps ss prs ((j:Int),1+(i:Int))<;>rfl
        rw[e]
        exact hN H12 s12
       .intro H11 s11 e11
        rw[Int.toNat_natCast] at e11
        refine⟨Str.ofString "",l1,(List.range (w'+2)).map fun (j:Nat)=>(xah w' ps ss prs ((j:Int),1+(i:Int))).getD (Str.ofString " "),5,rfl,rfl,(by rw[e11,List.map_map]; rfl),fun s hs=>?_,?_,?_⟩
        .obtain ⟨j,_,rfl⟩:=List.mem_map.mp hs
         cases e:xah w' ps ss prs ((j:Int),1+(i:Int)) with
         | none=>exact (by decide +kernel:(Str.ofString " ").length<=5)
         | some x=>exact sh _ _ e
        .rw [List.length_map,List.length_range,show (Str.ofString "").length=0 from by decide +kernel]
         exact Nat.le_trans (by omega:_<=1000) (by decide)
        have e11w:=s11 _ _ e10
        have ih:i<h':=by omega
        refine⟨lw,_,_,rfl,rfl,e11w,?_,?_⟩
        .unfold xbs
         rw[List.length_map,List.length_range]
         exact Nat.lt_of_le_of_lt (by omega:_<=1000) (by decide)
        refine⟨_,rfl,fun c u e=>by rw[xg (xi e flw)]; exact s11 _ _ (s10 _ _ e),(sd10.keep (H':=H11) fun u e=>s11 _ _ e).keep (fun u e=>by rw[xg nwd]; exact e),?_⟩
        rw[xf]
        unfold xbs
        rw[List.range_succ (n:=i),List.map_append]
        rfl
      .rintro σ H10 ⟨v10',rfl,s10,sd10,e10⟩
       rw[show ((h':Int)+1-1).toNat=h' by omega] at e10
       exact⟨_,rfl,q H10 lw s10 flw e10⟩
end
theorem xb5 {w:Nat} (w1:1<=w) {a b:Seat} (e:rimC w a=rimC w b):a=b:=by
 obtain⟨a1,a2⟩:=a
 obtain⟨b1,b2⟩:=b
 have e1:Drw.rim w a1=Drw.rim w b1:=(Prod.mk.inj e).1
 have e2:a2=b2:=(Prod.mk.inj e).2
 subst e2
 unfold Drw.rim at e1
 cases a1<;>cases b1
 .rfl
 .simp at e1; omega
 .simp at e1; omega
 .rfl
theorem xdi (w:Int) (s:Seat):(rimC w s).1=0\/(rimC w s).1=w+1:=by
 show Drw.rim w s.1=0\/Drw.rim w s.1=w+1
 unfold Drw.rim
 split
 .exact .inl rfl
 .exact .inr rfl
theorem xhl {α β:Type}{f g:α->List β}:∀{l:List α},(∀ a∈l,f a=g a)->l.flatMap f=l.flatMap g
 | [],_=>rfl
 | a::l,h=>by
  rw[List.flatMap_cons,List.flatMap_cons,h a (List.mem_cons_self ..),xhl fun b hb=>h b (List.mem_cons_of_mem _ hb)]
theorem xra {w h:Nat}{ps:List Pt}{ss:List Seat}{prs prs':List Pr} (w1:1<=w) (pok:xdg w h ps) (pal:xfg w h ps prs) (pm:prs'.Perm prs):xek w ps ss prs'=xah w ps ss prs:=by
 funext c
 unfold xek xah
 refine Drw.draw_same (w:=w) hsS (fun x hx=>?_) (fun x hx=>?_) (fun x hx=>?_) (pm.map _) ?_ c fun n1 n2=>?_
 .obtain ⟨p,hp,rfl⟩:=List.mem_map.mp hx
  exact⟨(pok.ok p hp).x1,(pok.ok p hp).x2⟩
 .obtain ⟨s,_,rfl⟩:=List.mem_map.mp hx
  exact xdi w s
 .obtain ⟨s,_,rfl⟩:=List.mem_map.mp hx
  exact xdi w s.2
 .rw [List.map_map]
  have nd:=(pm.map (·.2)).nodup_iff.mpr pal.nd
  rw[List.Nodup,List.pairwise_map] at nd ⊢
  exact nd.imp fun ne e=>ne (xb5 w1 e)
 .rw [Drw.at_flat,Drw.at_flat]
  rw[xhl (g:=fun a=>Drw.at_ c (xau w a))]
  .exact pm.flatMap_right _
  intro a ha
  have ok:=pal.ok a (pm.mem_iff.mp ha)
  refine Drw.led_at _ _ _ ok.xy.1 ok.xy.2.1 (fun e=>n1 ?_) (fun e=>n2 ?_)
  .rw [e]
   unfold ptsS
   rw[List.map_map]
   exact List.mem_map.mpr ⟨a.1,List.mem_of_find?_eq_some ok.fd,rfl⟩
  .rw [e]
   rw[List.map_map]
   exact List.mem_map.mpr ⟨a,ha,rfl⟩
theorem Dr.same {t:Adr}{H H':Hp}{a dp do_:Addr}{w h:Nat}{ps:List Pt}{ss srt:List Seat} (d:Dr t H a dp do_ w h ps ss srt) (s:Same H H'):Dr t H' a dp do_ w h ps ss srt:=⟨Pic.same s d.pic,d.sts.same s,d.ok,d.pm,d.lt,d.nm⟩
theorem xku {h:Nat}{s:Seat} (o:1<=s.2/\s.2<=(h:Int)):s∈xal true h++xal false h:=by
 obtain⟨b,r⟩:=s
 have o1:1<=r:=o.1
 have o2:r<=h:=o.2
 have z:∀ b,(b,r)∈xal b h:=fun b=>List.mem_map.mpr ⟨(r-1).toNat,List.mem_range.mpr (by omega),by rw[show 1+((r-1).toNat:Int)=r by omega]⟩
 cases b
 .exact List.mem_append_right _ (z false)
 .exact List.mem_append_left _ (z true)
theorem xpp (w h:Nat) (m:Cl->Option Str):(xbs w h m).all scV=true:=List.all_eq_true.mpr fun v hv=>by
 obtain⟨i,_,rfl⟩:=List.mem_map.mp hv
 rfl
theorem xj1 {K:PySem.W.Frag}{H:Hp}{a:Addr}{w h:Nat}{m:Cl->Option Str} (e:H a=some (.lst (xbs w h m))):Dv K H 1 (.ref a) (.lst ((xbs w h m).map scD)):=.lst (SqL.of e) (by rw[List.length_map]) (xd2 (xpp w h m))
theorem xol (ns:List Int):∃ ms:List Int,cutV (ns.map V.int) (some 3) (some 15)=ms.map V.int/\ms.length<=12:=by
 refine⟨(ns.drop (min 3 ns.length)).take (min 15 ns.length-min 3 ns.length),?_,?_⟩
 .unfold cutV
  simp only[HT.sIx,List.length_map]
  rw[if_neg (by decide),if_neg (by decide),List.map_take,List.map_drop]
  rfl
 .rw [List.length_take]
  omega
def prD (p:Pr):DV:=.tup [.str p.1.nm,.str (xai p.2.1),.int p.2.2]
theorem xt2 {K:PySem.W.Frag}{H:Hp}{q:Addr}{p:Pr} (h:H q=some (.tup (prV p))):Dv K H 1 (.ref q) (prD p):=.tup (SqT.of h) rfl (xd2 (xs:=prV p) rfl)
theorem PrsL.dv {K:PySem.W.Frag}{H:Hp}{ps:List Pr}{qs:List Addr} (h:PrsL H ps qs) {l:Addr} (e:H l=some (.lst (qs.map V.ref))):Dv K H 2 (.ref l) (.lst (ps.map prD)):=by
 refine .lst (SqL.of e) (by rw[List.length_map,List.length_map,h.len]) fun j x d h1 h2=>?_
 rw[List.getElem?_map] at h1 h2
 obtain⟨q,hq,rfl⟩:=Option.map_eq_some_iff.mp h1
 obtain⟨p,hp,rfl⟩:=Option.map_eq_some_iff.mp h2
 obtain⟨p',hp',e'⟩:=h.get hq
 rw[hp] at hp'
 cases hp'
 exact xt2 e'
def xi2 (K:PySem.W.Frag):Sp:=fun vs H Q _=>∃(a:Addr) (ns:List Int),vs=[.ref a]/\SqL K H a (ns.map V.int)/\ns.length<=63/\∀ H',Q (.bl true) H'
abbrev Sg:=Nat × Nat × Nat
def sgV (s:Sg):List V:=[.int (s.1:Int),.int (s.2.1:Int),sgn s.2.2]
def GV (G:List (List Nat)):List V:=G.map fun r=>V.str (ofL r)
def sgR (i:Nat) (r:List Nat):List Sg:=(List.range r.length).map fun j=>(i,j,r.getD j 0)
def sgsN (G:List (List Nat)) (n:Nat):List Sg:=(List.range n).flatMap fun i=>sgR i (G.getD i [])
def sgs (G:List (List Nat)):List Sg:=sgsN G G.length
structure Txs (W:Nat) (G:List (List Nat)):Prop where
 h1:1<=G.length
 h2:G.length<=16
 wd:∀ r∈G,r.length=W
 asc:∀ r∈G,∀ c∈r,c<128
 w1:3<=W
 w2:W<=32
def TL {α:Type} (f:α->List V) (H:Hp) (as:List α) (qs:List Addr):Prop:=qs.length=as.length/\∀(i:Nat) (q:Addr),qs[i]?=some q->∃ a,as[i]?=some a/\H q=some (.tup (f a))
theorem TL.keep {α:Type}{f:α->List V}{H H':Hp}{as:List α}{qs:List Addr} (s:Tups H H') (h:TL f H as qs):TL f H' as qs:=⟨h.1,fun i q e=>let ⟨a,e1,e2⟩:=h.2 i q e; ⟨a,e1,s _ _ e2⟩⟩
theorem TL.nil {α:Type}{f:α->List V}{H:Hp}:TL f H [] []:=⟨rfl,fun i q e=>by simp at e⟩
theorem TL.append {α:Type}{f:α->List V}{H:Hp}{as bs:List α}{qs rs:List Addr} (h:TL f H as qs) (k:TL f H bs rs):TL f H (as++bs) (qs++rs):=by
 refine⟨by rw[List.length_append,List.length_append,h.1,k.1],fun i q e=>?_⟩
 by_cases c:i<qs.length
 .rw [List.getElem?_append_left c] at e
  rw[List.getElem?_append_left (by rw[<- h.1]; exact c)]
  exact h.2 i q e
 .rw [List.getElem?_append_right (by omega)] at e
  rw[List.getElem?_append_right (by rw[<- h.1]; omega),<- h.1]
  exact k.2 _ q e
theorem TL.pick {α:Type}{f:α->List V}{H:Hp}:∀{as:List α}{ys:List V},ys.length=as.length->(∀(j:Nat) (y:V) (a:α),ys[j]?=some y->as[j]?=some a->∃ q,y=.ref q/\H q=some (.tup (f a)))->∃ rs:List Addr,ys=rs.map V.ref/\TL f H as rs
 | [],[],_,_=>⟨[],rfl,TL.nil⟩
 | [],_::_,h,_=>by cases h
 | _::_,[],h,_=>by cases h
 | s::ss,y::ys,h,k=>by
  obtain⟨q,e,hq⟩:=k 0 y s rfl rfl
  obtain⟨rs,e2,r⟩:=TL.pick (as:=ss) (ys:=ys) (by simpa using h) fun j y s h1 h2=>k (j+1) y s (by simpa using h1) (by simpa using h2)
  refine⟨q::rs,by rw[e,e2]; rfl,TL.append (as:=[s]) (qs:=[q]) ⟨rfl,fun i q' e'=>?_⟩ r⟩
  cases i with
  | zero =>
   simp at e'
   subst e'
   exact⟨s,rfl,hq⟩
  | succ i=>simp at e'
theorem xck (l:List Nat):(ofL l).length=l.length:=by simp[ofL,Str.length]
theorem xrf {l:List Nat} (h:∀ c∈l,c<128):(ofL l).cps.all (·<128)=true:=by
 rw[Array.all_eq_true]
 intro i hi
 have:(ofL l).cps[i]∈(ofL l).cps.toList:=by simp
 rw[xbf] at this
 exact decide_eq_true (h _ this)
def xqt:Sp:=fun vs H Q _=>∃(l:Addr) (W:Nat) (G:List (List Nat)),vs=[.ref l]/\H l=some (.lst (GV G))/\Txs W G/\∀ H',Same H H'->Q .non H'
def xrd:Sp:=fun vs H Q _=>∃(l:Addr) (W:Nat) (G:List (List Nat)),vs=[.ref l]/\H l=some (.lst (GV G))/\Txs W G/\∀ H' l' qs,Same H H'->H l'=none->H' l'=some (.lst (qs.map V.ref))->TL sgV H' (sgs G) qs->Q (.ref l') H'
def xfc (j:Nat):Bool:=decide (j=0)
def xpe:Sp:=fun vs H Q _=>∃(q:Addr) (i j:Nat),vs=[.ref q]/\H q=some (.tup [.int (i:Int),.int (j:Int)])/\∀ H' q',Same H H'->H q'=none->H' q'=some (.tup (xcc (xfc j,(i:Int)+1)))->Q (.ref q') H'
theorem xhi (G:List (List Nat)):(GV G).length=G.length:=by unfold GV; rw[List.length_map]
theorem xi4 {G:List (List Nat)}{i:Nat}{r:List Nat} (h:G[i]?=some r):(GV G)[i]?=some (V.str (ofL r)):=by unfold GV; rw[List.getElem?_map,h]; rfl
theorem xio {G:List (List Nat)}{i:Nat}{r:List Nat} (h:G[i]?=some r):sgsN G (i+1)=sgsN G i++sgR i r:=by
 unfold sgsN
 rw[List.range_succ,List.flatMap_append,List.flatMap_singleton,List.getD_eq_getElem?_getD,h]
 rfl
theorem xe5 {W:Nat}{G:List (List Nat)} (o:Txs W G):∀ n,n<=G.length->(sgsN G n).length=n*W
 | 0,_=>by simp[sgsN]
 | n+1,h=>by
  obtain⟨r,hr⟩:∃ r,G[n]?=some r:=⟨_,List.getElem?_eq_getElem h⟩
  rw[xio hr,List.length_append,xe5 o n (by omega),Nat.add_mul,Nat.one_mul]
  unfold sgR
  rw[List.length_map,List.length_range,o.wd r (List.mem_of_getElem? hr)]
section
variable {P:Program}{w:World}{K:PySem.W.Frag}{mg:Str->Option Value}{base:Heap}{t:Adr}
theorem ok_ag (T:Txt w K mg t):FnOk true P w K mg base (CXo P w) 1 t.f_ag t.d_ag ["rows"] (xqt):=by
 refine T.F_ag.okn (k:=0) sc_ag (fun vs H Q E h=>?_) (fun cdv A outer s H vs Q E hr h=>?_)
 .obtain ⟨l,W,G,rfl,_⟩:=h
  rfl
 .obtain ⟨l,W,G,rfl,h⟩:=h
  refine⟨_,xk (xao (PW.pt (xcj (xbh (xa9 (x6 xbo rfl T.n_isinstance boot_isinstance (xa (pv 0) (xa (xb8 (v:=.ty "list") rfl T.n_list boot_list rfl) (xb)))))) (xcm (xbh (xjl xf4 xf4 (xn) (x6 xbn rfl T.n_len boot_len (xa (pv 0) (xb))) (xct (v:=.int 16) rfl T.v_bf.choose_spec ⟨_,rfl⟩)))))) (xm (xa3)) (x9))
   (xm (xa4 PassesOwn.never rfl (xc1 rfl T.n_enumerate (xa (pv 0) (xb))) (xat rfl (xq (xo (i:=1) sc_ag.nd rfl (Or.inl rfl)) (xq (xo (i:=2) sc_ag.nd rfl (Or.inl rfl)) (xak)))) (xm (xao (PW.pt (xcj (xbh (xa9 (x6 xbo rfl T.n_isinstance boot_isinstance (xa (pv 2) (xa (xb8 (v:=.ty "str") rfl T.n_str boot_str rfl) (xb)))))) (xcj (xbh (xjl xf4 xf4 (xn) (x6 xb0 rfl T.n_len boot_len (xa (pv 2) (xb))) (xx xap (xct (v:=.int 30) rfl T.v_bc.choose_spec ⟨_,rfl⟩) (xn)))) (xcm (xaa xej (x6 xb0 rfl T.n_len boot_len (xa (pv 2) (xb))) (x6 xb0 rfl T.n_len boot_len (xa (xay xdw (pv 0) (xn) (fun _ _=>rfl)) (xb))) (xaf _)))))) (xm (xa3)) (x9))))),?_⟩
  obtain⟨hl,o,q⟩:=h
  have h1:=o.h1
  have h2:=o.h2
  have w1:=o.w1
  have w2:=o.w2
  have gl:=xhi G
  obtain⟨r0,hr0⟩:∃ r,G[0]?=some r:=⟨_,List.getElem?_eq_getElem h1⟩
  have l0:=o.wd r0 (List.mem_of_getElem? hr0)
  refine⟨_,rfl,_,_,rfl,.inl ⟨_,_,true,.lst hl,rfl,xbq,true,rfl,iteF ?_⟩⟩
  refine⟨_,rfl,l,_,rfl,.inl (SqL.of hl),?_⟩
  refine⟨_,_,rfl,rfl,_,rfl,ifP (decide_eq_true (by rw[gl]; omega)) ⟨_,_,rfl,rfl,_,rfl,ifN (by rw[decide_eq_true (by rw[gl]; omega)]; rfl) ?_⟩⟩
  refine⟨_,rfl,l,_,rfl,SqL.of hl,?_⟩
  refine xe6 (xs:=GV G) (Pv:=fun i σ H5=>∃(v1 v2:Option V),σ=[some (.ref l),v1,v2]/\Same H H5) ⟨_,_,rfl,Same.refl _⟩ ?_ ?_ ?_
  .rintro i σ H5 _ ⟨_,_,rfl,s5⟩
   exact SqL.of (s5 _ _ hl)
  .rintro i x p σ H5 hx hp ⟨v1,v2,rfl,s5⟩
   have ig:i<G.length:=by
    have:=(List.getElem?_eq_some_iff.mp hx).1
    omega
   obtain⟨r,hr'⟩:∃ r,G[i]?=some r:=⟨_,List.getElem?_eq_getElem ig⟩
   rw[xi4 hr'] at hx
   cases hx
   have rl:=o.wd r (List.mem_of_getElem? hr')
   have le:∀ z:List Nat,z.length=W->(ofL z).length<=sizeLine:=fun z hz=>by rw[xck,hz]; exact Nat.le_trans (by omega:_<=1000) (by decide)
   have s6:Same H5 (upd H5 p (.tup [.int (i:Int),.str (ofL r)])):=xp (Same.refl _) hp
   have g6:upd H5 p (.tup [.int (i:Int),.str (ofL r)]) p=some (.tup [.int (i:Int),.str (ofL r)]):=xf
   revert s6 g6
   generalize upd H5 p (.tup [.int (i:Int),.str (ofL r)])=H6
   intro s6 g6
   have hl6:=s6 _ _ (s5 _ _ hl)
   refine⟨p,_,rfl,SqT.of g6,rfl,_,_,rfl,_,_,rfl,rfl,?_⟩
   refine⟨_,rfl,_,_,rfl,.inl ⟨_,_,true,.str _,rfl,xbq,true,rfl,iteF ?_⟩⟩
   refine⟨_,rfl,_,rfl,le r rl,_,_,rfl,rfl,_,rfl,ifP (decide_eq_true (by rw[xck,rl]; omega)) ?_⟩
   refine⟨_,_,rfl,rfl,_,_,rfl,rfl,_,rfl,ifN (by rw[decide_eq_true (by rw[xck,rl]; omega)]; rfl) ?_⟩
   refine⟨_,rfl,_,rfl,le r rl,_,rfl,l,_,0,.str (ofL r0),rfl,rfl,SqL.of hl6,?_,_,rfl,le r0 l0,rfl,_,rfl,ifN ?_ ⟨_,_,rfl,s5.trans s6⟩⟩
   .show atI (GV G) ((0:Nat):Int)=_
    exact xdx (xi4 hr0)
   .rw [xck,xck,rl,l0]
    simp
  .rintro σ H5 ⟨v1,v2,rfl,s5⟩
   exact q H5 s5
theorem ok_av (T:Txt w K mg t):FnOk true P w K mg base (CXo P w) 1 t.f_av t.d_av ["rows"] (xrd):=by
 refine T.F_av.okn (k:=0) sc_av (fun vs H Q E h=>?_) (fun cdv A outer s H vs Q E hr h=>?_)
 .obtain ⟨l,W,G,rfl,_⟩:=h
  rfl
 .obtain ⟨l,W,G,rfl,h⟩:=h
  refine⟨_,xk (x8 (i:=1) sc_av.nd rfl (Or.inl rfl) (xcd (xb)))
   (xk (xa4 PassesOwn.never rfl (xc1 rfl T.n_enumerate (xa (pv 0) (xb))) (xat rfl (xq (xo (i:=2) sc_av.nd rfl (Or.inr rfl)) (xq (xo (i:=3) sc_av.nd rfl (Or.inl rfl)) (xak)))) (xm (xaw (xcl PySem.F.plainAttrs_list PySem.F.slot_list_extend PySem.F.type_list_extend xn9 (pv 1) (xa (xbj rfl (xa1 (zs:=["column", "sign"]) (ys:=["row"]) (fr:=[2]) (N0:=["rows", "found", "row", "text"]) (sc0:=xh s_av) (by decide +kernel) rfl rfl rfl) (xm5 rfl T.n_enumerate (xa (pv 3) (xb))) (fun _ _ _ _ _ ow nd=>(xat rfl (xq (xo (i:=0) nd rfl (Or.inl (ow _ (by simp))) (Or.inr (ow _ (by simp)))) (xq (xo (i:=1) nd rfl (Or.inl (ow _ (by simp))) (Or.inr (ow _ (by simp)))) (xak))):PG _ _ (gTup K 2 _))) (xdz (xbb (by decide) (xbb (by decide) (xc8)))) (fun _ _ _ _ _=>xbi) (fun _ _ _ _ _=>xab (xa (pv 2) (xa (pv 0) (xa (pv 1) (xb)))))) (xb))))))
   (xm (x0 (pv 1)))),?_⟩
  obtain⟨hl,o,q⟩:=h
  have h2:=o.h2
  have w2:=o.w2
  have gl:=xhi G
  refine⟨(by show 0<=sizeLine; decide),fun f hf=>?_⟩
  have s1:Same H (upd H f (.lst [])):=xp (Same.refl _) hf
  have g1:upd H f (.lst []) f=some (.lst []):=xf
  revert s1 g1
  generalize upd H f (.lst [])=H1
  intro s1 g1
  refine⟨_,rfl,l,_,rfl,SqL.of (s1 _ _ hl),?_⟩
  refine xe6 (xs:=GV G) (Pv:=fun i σ H5=>∃(v2 v3:Option V) (qs:List Addr),σ=[some (.ref l),some (.ref f),v2,v3]/\Same H H5/\H5 f=some (.lst (qs.map V.ref))/\TL sgV H5 (sgsN G i) qs) ⟨_,_,[],rfl,s1,g1,TL.nil⟩ ?_ ?_ ?_
  .rintro i σ H5 _ ⟨_,_,_,rfl,s5,_⟩
   exact SqL.of (s5 _ _ hl)
  .rintro i x p σ H5 hx hp ⟨v2,v3,qs,rfl,s5,e5,tl5⟩
   have ig:i<G.length:=by
    have:=(List.getElem?_eq_some_iff.mp hx).1
    omega
   obtain⟨r,hr⟩:∃ r,G[i]?=some r:=⟨_,List.getElem?_eq_getElem ig⟩
   rw[xi4 hr] at hx
   cases hx
   have rl:=o.wd r (List.mem_of_getElem? hr)
   have ra:=o.asc r (List.mem_of_getElem? hr)
   have s6:Same H5 (upd H5 p (.tup [.int (i:Int),.str (ofL r)])):=xp (Same.refl _) hp
   have g6:upd H5 p (.tup [.int (i:Int),.str (ofL r)]) p=some (.tup [.int (i:Int),.str (ofL r)]):=xf
   revert s6 g6
   generalize upd H5 p (.tup [.int (i:Int),.str (ofL r)])=H6
   intro s6 g6
   have e6:=s6 _ _ e5
   refine⟨p,_,rfl,SqT.of g6,rfl,_,_,rfl,_,_,rfl,rfl,?_⟩
   refine⟨_,rfl,.inl ⟨rfl,_,SqL.of e6⟩,_,rfl,ofL r,rfl,xrf ra,fun l1 hl1=>?_⟩
   refine xkd (by rw[xbf,rl]; exact Nat.lt_of_le_of_lt (by omega:_<=1000) (by decide)) hl1 (fun j y H7=>∃ q,y=.ref q/\H7 q=some (.tup (sgV (i,j,r.getD j 0)))) (fun j y H7 H8 tp ⟨q,e1,e2⟩=>⟨q,e1,tp _ _ e2⟩) (fun j c pp H7 hc s7 hpp N hN=>?_) (fun ys H7 s7 e7 ly fy=>?_)
   .rw [xbf] at hc
    refine⟨pp,_,rfl,SqT.of xf,rfl,_,_,rfl,_,_,rfl,rfl,_,rfl,_,rfl,_,rfl,(by show 3<=sizeLine; decide),fun u hu=>hN _ _ (xp (Same.refl _) hu) ⟨u,rfl,?_⟩⟩
    rw[xf,List.getD_eq_getElem?_getD,hc]
    rfl
   .rw [xbf] at ly
    obtain⟨rs,rfl,tr⟩:=TL.pick (f:=sgV) (H:=H7) (as:=sgR i r) (ys:=ys) (by rw[ly]; unfold sgR; rw[List.length_map,List.length_range]) (fun j y a h1 h2=>by
     unfold sgR at h2
     rw[List.getElem?_map] at h2
     obtain⟨j',hj,rfl⟩:=Option.map_eq_some_iff.mp h2
     obtain⟨_,ej⟩:=List.getElem?_eq_some_iff.mp hj
     rw[List.getElem_range] at ej
     subst ej
     exact fy _ y h1)
    have e67:=s7 _ _ e6
    have ne:f≠l1:=fun z=>by rw[z] at e6; rw[e6] at hl1; cases hl1
    have ln:=xe5 o i (by omega)
    have tq:=tl5.1
    refine⟨f,l1,_,_,rfl,rfl,e67,e7,?_,?_⟩
    .rw [ly,List.length_map,tq,ln]
     have:i*W<=16*32:=Nat.mul_le_mul (by omega) w2
     exact Nat.le_trans (by omega:_<=1000) (by decide)
    have kt:Tups H7 (upd H7 f (.lst (qs.map V.ref++rs.map V.ref))):=fun c xs e=>by rw[xg (x5 e e67 (fun z=>nomatch z))]; exact e
    refine⟨_,_,qs++rs,rfl,fun c u e=>by rw[xg (xi e hf)]; exact s7 _ _ (s6 _ _ (s5 _ _ e)),by rw[xf,List.map_append],?_⟩
    rw[xio hr]
    exact ((((tl5.keep (Same.tups s6)).keep (Same.tups s7)).append tr).keep kt)
  .rintro σ H5 ⟨v2,v3,qs,rfl,s5,e5,tl5⟩
   rw[gl] at tl5
   exact⟨_,rfl,q H5 f qs s5 hf e5 tl5⟩
theorem ok_a1 (T:Txt w K mg t):FnOk true P w K mg base (CXo P w) 1 t.f_a1 t.d_a1 ["place"] (xpe):=by
 refine T.F_a1.okn (k:=0) sc_a1 (fun vs H Q E h=>?_) (fun cdv A outer s H vs Q E hr h=>?_)
 .obtain ⟨q,i,j,rfl,_⟩:=h
  rfl
 .obtain ⟨q,i,j,rfl,h⟩:=h
  refine⟨_,xk (xd3 (pv 0) (xat rfl (xq (xo (i:=1) sc_a1.nd rfl (Or.inl rfl)) (xq (xo (i:=2) sc_a1.nd rfl (Or.inl rfl)) (xak)))))
   (xm (x0 (xab (xa (xc7 (xaa xby (pv 2) (xn) (xaf _)) (xad) (xad)) (xa (xx xap (pv 1) (xn)) (xb)))))),?_⟩
  obtain⟨hq,hQ⟩:=h
  refine⟨_,rfl,q,_,rfl,SqT.of hq,rfl,_,_,rfl,_,_,rfl,rfl,?_⟩
  refine⟨_,rfl,rfl,_,rfl,ite2 (fun c=>?_) (fun c=>?_)⟩
  .have j0:j=0:=by
    have:=of_decide_eq_true c
    injection this with z
    omega
   refine⟨_,rfl,_,_,rfl,rfl,(by show 2<=sizeLine; decide),fun u hu=>hQ _ u (xp (Same.refl _) hu) hu ?_⟩
   rw[xf,j0]
   rfl
  .have j0:¬ j=0:=fun z=>c (by rw[z]; rfl)
   refine⟨_,rfl,_,_,rfl,rfl,(by show 2<=sizeLine; decide),fun u hu=>hQ _ u (xp (Same.refl _) hu) hu ?_⟩
   rw[xf]
   unfold xfc
   rw[decide_eq_false j0]
   rfl
end
abbrev letF (lc:Int) (o i:Addr):List (Str × V):=[("last_column",.int lc),("outer",.ref o),("inner",.ref i)]
theorem xfu {lc:Int}{o i:Addr}{m:Str} (e:((["last_column", "outer", "inner"]:List Str).all fun k=>!(m == k))=true):(letF lc o i).lookup m=none:=by
 simp only[List.all_cons,List.all_nil,Bool.and_eq_true,Bool.not_eq_true'] at e
 obtain⟨e1,e2,e3,_⟩:=e
 unfold letF
 rw[List.lookup_cons,e1]
 show List.lookup m [("outer",V.ref o),("inner",V.ref i)]=none
 rw[List.lookup_cons,e2]
 show List.lookup m [("inner",V.ref i)]=none
 rw[List.lookup_cons,e3]
 rfl
theorem ltL {lc:Int}{o i:Addr}:(letF lc o i).lookup ("last_column":Str)=some (.int lc):=by
 unfold letF
 rw[List.lookup_cons,show (("last_column":Str) == "last_column")=true from by decide +kernel]
theorem ltO {lc:Int}{o i:Addr}:(letF lc o i).lookup ("outer":Str)=some (.ref o):=by
 unfold letF
 rw[List.lookup_cons,show (("outer":Str) == "last_column")=false from by decide +kernel]
 show List.lookup ("outer":Str) [("outer",V.ref o),("inner",V.ref i)]=_
 rw[List.lookup_cons,show (("outer":Str) == "outer")=true from by decide +kernel]
theorem ltI {lc:Int}{o i:Addr}:(letF lc o i).lookup ("inner":Str)=some (.ref i):=by
 unfold letF
 rw[List.lookup_cons,show (("inner":Str) == "last_column")=false from by decide +kernel]
 show List.lookup ("inner":Str) [("outer",V.ref o),("inner",V.ref i)]=_
 rw[List.lookup_cons,show (("inner":Str) == "outer")=false from by decide +kernel]
 show List.lookup ("inner":Str) [("inner",V.ref i)]=_
 rw[List.lookup_cons,show (("inner":Str) == "inner")=true from by decide +kernel]
inductive LD (H:Hp):List Sg->List (Key × V)->Prop
 | nil:LD H [] []
 | cons {s:Sg}{q:Addr}{es:List Sg}{kvs:List (Key × V)} (h:H q=some (.tup [.int (s.1:Int),.int (s.2.1:Int)])) (r:LD H es kvs):LD H (s::es) ((.inr (ofL [s.2.2]),.ref q)::kvs)
theorem LD.keep {H H':Hp} (s:Tups H H') {es:List Sg}{kvs:List (Key × V)} (h:LD H es kvs):LD H' es kvs:=by
 induction h with
 | nil=>exact .nil
 | cons h _ ih=>exact .cons (s _ _ h) ih
theorem LD.len {H:Hp}{es:List Sg}{kvs:List (Key × V)} (h:LD H es kvs):kvs.length=es.length:=by
 induction h with
 | nil=>rfl
 | cons _ _ ih=>simp[ih]
theorem LD.snoc {H:Hp}{es:List Sg}{kvs:List (Key × V)} (h:LD H es kvs) {s:Sg}{q:Addr} (e:H q=some (.tup [.int (s.1:Int),.int (s.2.1:Int)])):LD H (es++[s]) (kvs++[(.inr (ofL [s.2.2]),.ref q)]):=by
 induction h with
 | nil=>exact .cons e .nil
 | cons h _ ih=>exact .cons h ih
theorem xd5 {c d:Nat} (h:ofL [c]=ofL [d]):c=d:=by
 have:=congrArg (fun s:Str=>s.cps.toList) h
 simp only[xbf] at this
 exact (List.cons.inj this).1
theorem xlf {c d:Nat} (h:(Sum.inr (ofL [c]):Key)=Sum.inr (ofL [d])):c=d:=xd5 (Sum.inr.inj h)
theorem LD.get {H:Hp}{es:List Sg}{kvs:List (Key × V)} (h:LD H es kvs) {i:Nat}{k:Key}{x:V} (e:kvs[i]?=some (k,x)):∃ s q,es[i]?=some s/\k=.inr (ofL [s.2.2])/\x=.ref q/\H q=some (.tup [.int (s.1:Int),.int (s.2.1:Int)]):=by
 induction h generalizing i with
 | nil=>simp at e
 | @cons s q es kvs h _ ih =>
  cases i with
  | zero =>
   simp at e
   exact⟨s,q,rfl,e.1.symm,e.2.symm,h⟩
  | succ j=>exact ih (by simpa using e)
theorem LD.is {H:Hp}{es:List Sg}{kvs:List (Key × V)} (h:LD H es kvs) (c:Nat):(valV kvs (.inr (ofL [c]))).isSome=decide (c∈es.map fun s=>s.2.2):=by
 induction h with
 | nil=>rfl
 | @cons s q es kvs h r ih =>
  by_cases z:s.2.2=c
  .subst z
   rw[xa5 rfl]
   simp
  .rw [xa2 (fun e=>z (xlf e)),ih]
   have z':¬ c=s.2.2:=fun e=>z e.symm
   simp[z']
theorem LD.at_ {H:Hp}{es:List Sg}{kvs:List (Key × V)} (h:LD H es kvs) {s:Sg} (hs:s∈es) (nd:(es.map fun s=>s.2.2).Nodup):∃ q,valV kvs (.inr (ofL [s.2.2]))=some (.ref q)/\H q=some (.tup [.int (s.1:Int),.int (s.2.1:Int)]):=by
 induction h with
 | nil=>exact nomatch hs
 | @cons s' q es kvs h r ih =>
  rw[List.map_cons,List.nodup_cons] at nd
  rcases List.mem_cons.mp hs with z|z
  .subst z
   exact⟨q,xa5 rfl,h⟩
  .have ne:s'.2.2≠s.2.2:=fun e=>nd.1 (e▸List.mem_map.mpr ⟨s,z,rfl⟩)
   rw[xa2 (fun e=>ne (xlf e))]
   exact ih z nd.2
theorem LD.keys {H:Hp}{es:List Sg}{kvs:List (Key × V)} (h:LD H es kvs):kvs.map (·.1)=(es.map fun s=>ofL [s.2.2]).map Sum.inr:=by
 induction h with
 | nil=>rfl
 | cons _ _ ih=>simp only[List.map_cons,ih]
structure Let (t:Adr) (H:Hp) (a o i:Addr) (lc:Nat) (os is:List Sg):Prop where
 ins:∃ dx,H a=some (.ins t.C_ao dx (letF (lc:Int) o i))
 ou:∃ kvs,H o=some (.dK kvs)/\LD H os kvs
 inn:∃ kvs,H i=some (.dK kvs)/\LD H is kvs
 ne:o≠i
theorem Let.same {t:Adr}{H H':Hp}{a o i:Addr}{lc:Nat}{os is:List Sg} (h:Let t H a o i lc os is) (s:Same H H'):Let t H' a o i lc os is :=
 ⟨let ⟨dx,e⟩:=h.ins; ⟨dx,s _ _ e⟩,let ⟨k,e,r⟩:=h.ou; ⟨k,s _ _ e,r.keep (Same.tups s)⟩,let ⟨k,e,r⟩:=h.inn; ⟨k,s _ _ e,r.keep (Same.tups s)⟩,h.ne⟩
def nmC (c:Nat):Bool:=decide (97<=c)&&decide (c<=122)
theorem lt1 (a b:Nat):([a]<[b])↔a<b:=by
 constructor
 .intro h
  cases h with
  | rel h=>exact h
  | cons h=>exact absurd h (by intro z; cases z)
 .exact fun h=>.rel h
theorem xg5 (c:Nat):isNm (ofL [c])=nmC c:=by
 unfold isNm nmC
 rw[xck,xbf]
 simp only[lt1]
 rw[Bool.eq_iff_iff]
 simp
def rimB (lc j:Nat):Bool:=decide (j=0)||decide (j=lc)
def lieB (is:List Sg) (i j c:Nat):Bool:=decide (c∉is.map fun s=>s.2.2)&&(decide ((is.filter fun s=>decide (s.1=i)||decide (s.2.1=j))=[])&&decide (is.length<12))
def mayB (lc:Nat) (os is:List Sg) (s:Sg):Bool:=if rimB lc s.2.1 then (decide (s.2.2=32)||decide (s.2.2=46))||(nmC s.2.2&&decide (s.2.2∉os.map fun s=>s.2.2)) else (([32,124,45,43,35]:List Nat).contains s.2.2)||(nmC s.2.2&&lieB is s.1 s.2.1 s.2.2)
def xp9 (t:Adr):Sp:=fun vs H Q _=>∃(p dx:Addr) (lc:Nat),vs=[.ref p,.int (lc:Int)]/\H p=some (.ins t.C_ao dx [])/\∀ H' o i,H o=none->H i=none->(∀ b u,b≠p->H b=some u->H' b=some u)->Let t H' p o i lc [] []->Q .non H'
def xqp (t:Adr):Sp:=fun vs H Q _=>∃(a o i:Addr) (lc:Nat) (os is:List Sg) (j:Nat),vs=[.ref a,.int (j:Int)]/\Let t H a o i lc os is/\∀ H',Same H H'->Q (.bl (rimB lc j)) H'
def xty (t:Adr):Sp:=fun vs H Q _=>∃(a o i:Addr) (lc:Nat) (os is:List Sg) (s:Sg),vs=[.ref a,.int (s.1:Int),.int (s.2.1:Int),sgn s.2.2]/\Let t H a o i lc os is/\is.length<=600/\∀ H',Same H H'->Q (.bl (lieB is s.1 s.2.1 s.2.2)) H'
def xqg (t:Adr):Sp:=fun vs H Q _=>∃(a o i:Addr) (lc:Nat) (os is:List Sg) (s:Sg),vs=[.ref a,.int (s.1:Int),.int (s.2.1:Int),sgn s.2.2]/\Let t H a o i lc os is/\is.length<=600/\∀ H',Same H H'->Q (.bl (mayB lc os is s)) H'
def outP (lc:Nat) (s:Sg):Bool:=rimB lc s.2.1&&nmC s.2.2
def innP (lc:Nat) (s:Sg):Bool:=!rimB lc s.2.1&&nmC s.2.2
def xr5 (t:Adr):Sp:=fun vs H Q _=>∃(a o i:Addr) (lc:Nat) (os is:List Sg) (s:Sg),vs=[.ref a,.int (s.1:Int),.int (s.2.1:Int),sgn s.2.2]/\Let t H a o i lc os is/\is.length<=600/\os.length<=600/\mayB lc os is s=true /\
 ∀ H',(∀ b u,b≠o->b≠i->H b=some u->H' b=some u)->Let t H' a o i lc (if outP lc s then os++[s] else os) (if innP lc s then is++[s] else is)->Q .non H'
theorem xn0 (a b:Nat):eqV (sgn a) (sgn b)=decide (a=b):=by
 show ((⟨#[a]⟩:Str) == ⟨#[b]⟩)=decide (a=b)
 rw[Bool.eq_iff_iff,beq_iff_eq,decide_eq_true_iff]
 exact⟨fun h=>xd5 h,fun h=>by rw[h]⟩
theorem xla (c:Nat) (cs:List Nat):inV (sgn c) (cs.map sgn)=decide (c∈cs):=by
 unfold inV
 rw[List.any_map,Bool.eq_iff_iff,List.any_eq_true,decide_eq_true_iff]
 constructor
 .rintro ⟨x,hx,e⟩
  have e:eqV (sgn x) (sgn c)=true:=e
  rw[xn0] at e
  exact of_decide_eq_true e▸hx
 .exact fun h=>⟨c,h,by show eqV (sgn c) (sgn c)=true; rw[xn0]; exact decide_eq_true rfl⟩
def hitB (H:Hp) (i j:Nat) (kx:Key × V):Bool:=match kx.2 with
 | .ref a=>(match H a with
  | some (.tup [.int r,.int c])=>decide (r=(i:Int))||decide (c=(j:Int))
  | _=>false)
 | _=>false
theorem xmy {H:Hp}{i j:Nat}{k:Key}{q:Addr}{s:Sg} (h:H q=some (.tup [.int (s.1:Int),.int (s.2.1:Int)])):hitB H i j (k,.ref q)=(decide (s.1=i)||decide (s.2.1=j)):=by
 unfold hitB
 simp only[h]
 rw[Bool.eq_iff_iff]
 simp only[Bool.or_eq_true,decide_eq_true_iff]
 omega
theorem LD.filt {H:Hp}{es:List Sg}{kvs:List (Key × V)} (h:LD H es kvs) (i j:Nat):LD H (es.filter fun s=>decide (s.1=i)||decide (s.2.1=j)) (kvs.filter (hitB H i j)):=by
 induction h with
 | nil=>exact .nil
 | @cons s q es kvs h r ih =>
  rw[List.filter_cons,List.filter_cons,xmy h]
  cases decide (s.1=i)||decide (s.2.1=j) with
  | true=>exact .cons h ih
  | false=>exact ih
theorem LD.dv {K:PySem.W.Frag}{H:Hp}{es:List Sg}{kvs:List (Key × V)} (h:LD H es kvs) {l:Addr} (e:H l=some (.lst (kvs.map (·.2)))):Dv K H 2 (.ref l) (.lst (es.map fun s=>DV.tup [.int (s.1:Int),.int (s.2.1:Int)])):=by
 refine .lst (SqL.of e) (by rw[List.length_map,List.length_map,h.len]) fun j x d h1 h2=>?_
 rw[List.getElem?_map] at h1 h2
 obtain⟨⟨k,x'⟩,hx,rfl⟩:=Option.map_eq_some_iff.mp h1
 obtain⟨s,hs,rfl⟩:=Option.map_eq_some_iff.mp h2
 obtain⟨s',q,hs',_,ex,hq⟩:=h.get hx
 rw[hs] at hs'
 cases hs'
 show Dv K H 1 x' _
 rw[ex]
 exact xst hq
theorem xqu {α:Type} (f:α->DV) (es:List α) [Decidable (es=[])]:dEq (.lst (es.map f)) (.lst [])=decide (es=[]):=by
 cases es with
 | nil=>simp[dEq,dEqs]
 | cons x xs=>simp[dEq,dEqs]
def xsf:Sp:=fun vs H Q _=>∃(x:Str),vs=[.str x]/\x.length<=1000/\Q (.bl (isNm x)) H
section
variable {P:Program}{w:World}{K:PySem.W.Frag}{mg:Str->Option Value}{base:Heap}{t:Adr}
theorem okD_ax (T:Txt w K mg t):FnOk true P w K mg base (CXo P w) 1 t.f_ax t.d_ax ["thing"] (xsf):=by
 refine T.F_ax.okn (k:=0) sc_ax (fun vs H Q E h=>?_) (fun cdv A outer s H vs Q E hr h=>?_)
 .obtain ⟨x,rfl,_⟩:=h
  rfl
 .obtain ⟨x,rfl,h⟩:=h
  refine⟨_,xm (x0 (xco (x6 xbo rfl T.n_isinstance boot_isinstance (xa (pv 0) (xa (xb8 (v:=.ty "str") rfl T.n_str boot_str rfl) (xb)))) (xco (xcv xby (x6 xb0 rfl T.n_len boot_len (xa (pv 0) (xb))) (xn) (xaf _)) (xdo (xgh xea xea (xad) (pv 0) (xad)))))),?_⟩
  obtain⟨xl,q⟩:=h
  refine⟨_,rfl,_,_,rfl,.inl ⟨_,_,true,.str x,rfl,xbq,true,rfl,iteT ?_⟩⟩
  refine⟨_,rfl,_,rfl,(by first|exact Nat.lt_of_le_of_lt xl (by decide)|exact Nat.le_trans xl (by decide)|omega),rfl,_,rfl,ite2 (fun c=>?_) (fun c=>?_)⟩
  .have l1:x.length=1:=by
    have z:(x.length:Int)=1:=by simpa using c
    omega
   unfold isNm at q
   rw[decide_eq_true l1,Bool.true_and] at q
   refine⟨_,rfl,_,_,rfl,rfl,_,rfl,ite2 (fun d=>?_) (fun d=>?_)⟩
   .refine ⟨_,_,rfl,rfl,?_⟩
    rw[xl7] at d
    rw[xpy]
    rw[d,Bool.true_and] at q
    exact q
   .rw [xl7] at d
    rw[Bool.eq_false_iff.mpr d,Bool.false_and] at q
    exact q
  .have l1:¬ x.length=1:=fun z=>c (by rw[z]; rfl)
   unfold isNm at q
   rw[decide_eq_false l1,Bool.false_and] at q
   exact q
theorem ok_af (T:Txt w K mg t):FnOk true P w K mg base (CXo P w) 1 t.f_af t.d_af ["self", "last_column"] (xp9 t):=by
 refine T.F_af.okn (k:=0) sc_af (fun vs H Q E h=>?_) (fun cdv A outer s H vs Q E hr h=>?_)
 .obtain ⟨p,dx,lc,rfl,_⟩:=h
  rfl
 .obtain ⟨p,dx,lc,rfl,h⟩:=h
  refine⟨_,xk (xdh (pv 0) (pv 1) rfl)
   (xk (xdh (pv 0) (xgj) rfl)
   (xm (xdh (pv 0) (xgj) rfl))),?_⟩
  obtain⟨hp,q⟩:=h
  refine⟨_,rfl,_,rfl,p,_,dx,_,rfl,hp,T.c_ao,T.n_a8,(by show 0<1000; decide),?_⟩
  refine fun o ho=>?_
  have n1:p≠o:=xi xf ho
  refine⟨_,rfl,p,_,dx,_,rfl,(by rw[xg n1]; exact xf),T.c_ao,T.n_a9,(by show 1<1000; decide),fun i hi=>?_⟩
  have n2:p≠i:=xi xf hi
  have n3:o≠i:=xi (by rw[xg (Ne.symm n1)]; exact xf) hi
  refine⟨_,rfl,p,_,dx,_,rfl,(by rw[xg n2]; exact xf),T.c_ao,T.n_a7,(by show 2<1000; decide),?_⟩
  rw[xg (Ne.symm n1)] at ho
  have hi0:H i=none:=by rw[xg (Ne.symm n2),xg (Ne.symm n3),xg (Ne.symm n2)] at hi; exact hi
  refine q _ o i ho hi0 (fun b u nb e=>?_) ⟨⟨dx,xf⟩,⟨[],?_,.nil⟩,⟨[],?_,.nil⟩,n3⟩
  .have c1:b≠o:=xi e ho
   have c2:b≠i:=xi e hi0
   rw[xg nb,xg c2,xg nb,xg c1,xg nb]
   exact e
  .rw [xg (Ne.symm n1),xg n3,xg (Ne.symm n1)]
   exact xf
  .rw [xg (Ne.symm n2)]
   exact xf
theorem ok_k (T:Txt w K mg t):FnOk true P w K mg base (CXo P w) 1 t.f_k t.d_k ["self", "column"] (xqp t):=by
 refine T.F_k.okn (k:=0) sc_k (fun vs H Q E h=>?_) (fun cdv A outer s H vs Q E hr h=>?_)
 .obtain ⟨a,o,i,lc,os,is,j,rfl,_⟩:=h
  rfl
 .obtain ⟨a,o,i,lc,os,is,j,rfl,h⟩:=h
  refine⟨_,xm (x0 (xcv xff (pv 1) (xab (xa (xn) (xa (xae (pv 0) rfl) (xb)))) (by rfl))),?_⟩
  obtain⟨lt,q⟩:=h
  obtain⟨⟨dx,ins⟩,_⟩:=id lt
  refine⟨_,rfl,_,rfl,a,_,dx,_,_,rfl,ins,T.c_ao,T.n_a8,ltL,(by show 2<=sizeLine; decide),fun p1 hp1=>?_⟩
  have s1:Same H (upd H p1 (.tup [.int 0,.int (lc:Int)])):=xp (Same.refl _) hp1
  have g1:upd H p1 (.tup [.int 0,.int (lc:Int)]) p1=some (.tup [.int 0,.int (lc:Int)]):=xf
  revert s1 g1
  generalize upd H p1 (.tup [.int 0,.int (lc:Int)])=H1
  intro s1 g1
  refine⟨p1,_,rfl,.inr (SqT.of g1),rfl,rfl,?_⟩
  have e:inV (.int (j:Int)) [.int 0,.int (lc:Int)]=rimB lc j:=by
   show ((0:Int) == (j:Int)||(((lc:Int) == (j:Int))||false))=rimB lc j
   unfold rimB
   rw[Bool.eq_iff_iff]
   simp only[Bool.or_eq_true,Bool.or_false,beq_iff_eq,decide_eq_true_iff]
   omega
  rw[if_neg (by decide),e]
  exact q H1 s1
theorem ok_j (T:Txt w K mg t):FnOk true P w K mg base (CXo P w) 1 t.f_j t.d_j ["self", "row", "column", "name"] (xty t):=by
 refine T.F_j.okn (k:=0) sc_j (fun vs H Q E h=>?_) (fun cdv A outer s H vs Q E hr h=>?_)
 .obtain ⟨a,o,i,lc,os,is,s,rfl,_⟩:=h
  rfl
 .obtain ⟨a,o,i,lc,os,is,s,rfl,h⟩:=h
  refine⟨_,xk (xkz (xce rfl (xa1 (zs:=["other", "place"]) (ys:=["row", "column"]) (fr:=[1,2]) (N0:=["self", "row", "column", "name", "places"]) (sc0:=xh s_j) (by decide +kernel) rfl rfl rfl) (xgx (xae (pv 0) rfl)) (fun _ _ _ _ _ ow nd=>(xat rfl (xq (xo (i:=0) nd rfl (Or.inl (ow _ (by simp))) (Or.inr (ow _ (by simp)))) (xq (xo (i:=1) nd rfl (Or.inl (ow _ (by simp))) (Or.inr (ow _ (by simp)))) (xak))):PG _ _ (gTup K 2 _))) (xdz (xbb (by decide) (xbb (by decide) (xc8)))) (fun _ _ _ _ _=>xer (PW.pt (xcj (xaa xby (xay (r:=rIxT K) xaz (pv 1) (xn) (fun _ _=>rfl)) (pv 2) (xaf _)) (xcm (xaa xby (xay (r:=rIxT K) xaz (pv 1) (xn) (fun _ _=>rfl)) (pv 3) (xaf _)))))) (fun _ _ _ _ _=>pv 1) (j:=4) rfl (Or.inl rfl)))
   (xm (x0 (xco (xns (xec (xbc hr) (pv 3) (xae (pv 0) rfl))) (xco (xcv (xka (xb6 hr)) (pv 4) (xcd (xb)) (xaf _)) (xdo (xcv xi3 (x6 xih rfl T.n_len boot_len (xa (xae (pv 0) rfl) (xb))) (xct (v:=.int 12) rfl T.v_bd.choose_spec ⟨_,rfl⟩) (xaf _))))))),?_⟩
  obtain⟨lt,i6,q⟩:=h
  obtain⟨⟨dx,ins⟩,_,⟨kvs,hk,ld⟩,_⟩:=id lt
  have kl:=ld.len
  refine⟨_,rfl,a,_,dx,_,_,rfl,ins,T.c_ao,T.n_a7,ltI,i,kvs,rfl,hk,fun ob nf l hl=>?_⟩
  have nl:l≠i:=fun z=>by
   rw[z,xf] at hl
   cases hl
  have hl0:H l=none:=by rwa [xg nl] at hl
  refine xkg xf (by rw[kl]; exact Nat.lt_of_le_of_lt (by omega:_<=1000) (by decide)) hl (hitB H s.1 s.2.1) (fun n k x p H2 hx s2 hp N M hN hM=>?_) (fun H2 s2 e2=>?_)
  .obtain ⟨z,qa,hz,rfl,rfl,hqa⟩:=ld.get hx
   have hq2:H2 qa=some (.tup [.int (z.1:Int),.int (z.2.1:Int)]):=s2 _ _ (by rw[xg (x5 hqa hk (fun z=>nomatch z))]; exact hqa)
   have hq3:upd H2 p (.tup [kV (.inr (ofL [z.2.2])),.ref qa]) qa=some (.tup [.int (z.1:Int),.int (z.2.1:Int)]):=by
    rw[xg (xi hq2 hp)]
    exact hq2
   have hb:=xmy (i:=s.1) (j:=s.2.1) (k:=.inr (ofL [z.2.2])) hqa
   refine⟨p,_,rfl,SqT.of xf,rfl,_,_,rfl,_,_,rfl,rfl,?_⟩
   refine⟨_,rfl,qa,_,0,.int (z.1:Int),rfl,rfl,SqT.of hq3,rfl,_,rfl,rfl,_,rfl,ite2 (fun c=>?_) (fun c=>?_)⟩
   .have c1:z.1=s.1:=by
     have:=V.int.inj (of_decide_eq_true c)
     omega
    refine iteT ⟨_,rfl,hN _ (Same.refl _) ?_⟩
    rw[hb,decide_eq_true c1]
    rfl
   .have c1:¬ z.1=s.1:=fun e=>c (decide_eq_true (by rw[e]))
    refine⟨_,rfl,qa,_,1,.int (z.2.1:Int),rfl,rfl,SqT.of hq3,rfl,_,rfl,rfl,_,rfl,ite2 (fun c'=>?_) (fun c'=>?_)⟩
    .have c2:z.2.1=s.2.1:=by
      have:=V.int.inj (of_decide_eq_true c')
      omega
     refine⟨_,rfl,hN _ (Same.refl _) ?_⟩
     rw[hb,decide_eq_true c2,Bool.or_true]
    .have c2:¬ z.2.1=s.2.1:=fun e=>c' (decide_eq_true (by rw[e]))
     refine hM _ (Same.refl _) ?_
     rw[hb,decide_eq_false c1,decide_eq_false c2]
     rfl
  have hi2:=s2 _ _ (show upd H i (.frz ob (.dK kvs)) i=_ from xf)
  refine⟨i,ob,.dK kvs,hi2,nf,?_⟩
  have s3:Same H (upd H2 i (.dK kvs)):=fun b u e=>by
   by_cases z:b=i
   .subst z
    rw[xf,<- e,hk]
   .rw [xg z]
    exact s2 _ _ (by rw[xg z]; exact e)
  have e3:upd H2 i (.dK kvs) l=some (.lst ((kvs.filter (hitB H s.1 s.2.1)).map (·.2))):=by
   rw[xg nl]
   exact e2
  revert s3 e3
  generalize upd H2 i (.dK kvs)=H3
  intro s3 e3
  clear hi2 e2 s2
  have ins3:=s3 _ _ ins
  have hk3:=s3 _ _ hk
  have ld3:=((ld.filt s.1 s.2.1).keep (Same.tups s3))
  refine⟨_,rfl,_,rfl,a,_,dx,_,_,rfl,ins3,T.c_ao,T.n_a7,ltI,i,_,rfl,DGet.k (k:=.inr (ofL [s.2.2])) hk3,_,rfl,?_⟩
  rw[ld.is]
  have e0:lieB is s.1 s.2.1 s.2.2=(decide (s.2.2∉is.map fun s=>s.2.2)&&(decide ((is.filter fun z=>decide (z.1=s.1)||decide (z.2.1=s.2.1))=[])&&decide (is.length<12))):=rfl
  refine ite2 (fun c=>?_) (fun c=>?_)
  .have c1:s.2.2∉is.map fun s=>s.2.2:=by simpa using c
   rw[decide_eq_true c1,Bool.true_and] at e0
   refine⟨_,rfl,(by show 0<=sizeLine; decide),fun l0 hl0'=>?_⟩
   have s4:Same H3 (upd H3 l0 (.lst [])):=xp (Same.refl _) hl0'
   have g4:upd H3 l0 (.lst []) l0=some (.lst []):=xf
   revert s4 g4
   generalize upd H3 l0 (.lst [])=H4
   intro s4 g4
   refine⟨2,1,_,.lst [],(ld3.keep (Same.tups s4)).dv (s4 _ _ e3),.lst (SqL.of g4) rfl (fun j x d h1=>by simp at h1),by decide,by decide,_,rfl,?_⟩
   rw[xqu]
   refine ite2 (fun c2=>?_) (fun c2=>?_)
   .rw [c2,Bool.true_and] at e0
    refine⟨_,rfl,a,_,dx,_,_,rfl,s4 _ _ ins3,T.c_ao,T.n_a7,ltI,i,kvs,rfl,s4 _ _ hk3,_,_,rfl,rfl,?_⟩
    rw[e0] at q
    have e5:decide ((kvs.length:Int)<12)=decide (is.length<12):=by
     rw[kl,Bool.eq_iff_iff,decide_eq_true_iff,decide_eq_true_iff]
     omega
    show Q (.bl (decide ((kvs.length:Int)<12))) H4
    rw[e5]
    exact q _ (s3.trans s4)
   .rw [Bool.eq_false_iff.mpr c2,Bool.false_and] at e0
    rw[e0] at q
    exact q _ (s3.trans s4)
  .have c1:¬ s.2.2∉is.map fun s=>s.2.2:=fun z=>c (by simpa using z)
   rw[decide_eq_false c1,Bool.false_and] at e0
   rw[e0] at q
   exact q _ s3
theorem ok_g (T:Txt w K mg t):FnOk true P w K mg base (CXo P w) 2 t.f_g t.d_g ["self", "row", "column", "sign"] (xqg t):=by
 refine T.F_g.okn (k:=1) sc_g (fun vs H Q E h=>?_) (fun cdv A outer s H vs Q E hr h=>?_)
 .obtain ⟨a,o,i,lc,os,is,s,rfl,_⟩:=h
  rfl
 .obtain ⟨a,o,i,lc,os,is,s,rfl,h⟩:=h
  refine⟨_,xk (xao (xa9 (xa0 (pv 0) T.c_ao T.m_k (ok_k T) (hr.mono (by decide)) T.b_k .nil xj (xa (pv 2) (xb)))) (xm (x0 (xpw (xcv xff (pv 3) (xab (xa (xad) (xa (xad) (xb)))) (by rfl)) (xdo (xco (xt (okD_ax T) (hr.mono (by decide)) rfl T.g_ax T.F_ax.kp T.b_ax .nil xj (xa (pv 3) (xb))) (xdo (xns (xec (xbc hr) (pv 3) (xae (pv 0) rfl))))))))) (x9))
   (xm (x0 (xpw (xcv xff (pv 3) (xab (xa (xad) (xa (xad) (xa (xad) (xa (xad) (xa (xad) (xb))))))) (by rfl)) (xdo (xco (xt (okD_ax T) (hr.mono (by decide)) rfl T.g_ax T.F_ax.kp T.b_ax .nil xj (xa (pv 3) (xb))) (xdo (xa0 (pv 0) T.c_ao T.m_j (ok_j T) (hr.mono (by decide)) T.b_j .nil xj (xa (pv 1) (xa (pv 2) (xa (pv 3) (xb))))))))))),?_⟩
  obtain⟨lt,i6,q⟩:=h
  obtain⟨⟨dx,ins⟩,_⟩:=id lt
  refine⟨_,rfl,a,dx,_,rfl,ins,xfu (by decide +kernel),_,rfl,a,o,i,lc,os,is,s.2.1,rfl,lt,fun H1 s1=>⟨_,rfl,ite2 (fun c=>?_) (fun c=>?_)⟩⟩
  .have e0:mayB lc os is s=((decide (s.2.2=32)||decide (s.2.2=46))||(nmC s.2.2&&decide (s.2.2∉os.map fun s=>s.2.2))):=by
    unfold mayB
    rw[if_pos c]
   refine⟨_,rfl,(by show 2<=sizeLine; decide),fun p1 hp1=>?_⟩
   have s2:Same H1 (upd H1 p1 (.tup [.str (Str.ofString " "),.str (Str.ofString ".")])):=xp (Same.refl _) hp1
   have g2:upd H1 p1 (.tup [.str (Str.ofString " "),.str (Str.ofString ".")]) p1=some (.tup [.str (Str.ofString " "),.str (Str.ofString ".")]):=xf
   revert s2 g2
   generalize upd H1 p1 (.tup [.str (Str.ofString " "),.str (Str.ofString ".")])=H2
   intro s2 g2
   refine⟨p1,_,rfl,.inr (SqT.of g2),rfl,rfl,_,rfl,?_⟩
   have s02:=s1.trans s2
   have lt2:=lt.same s02
   have e1:(if false=true then !inV (sgn s.2.2) [.str (Str.ofString " "),.str (Str.ofString ".")] else inV (sgn s.2.2) [.str (Str.ofString " "),.str (Str.ofString ".")])=(decide (s.2.2=32)||decide (s.2.2=46)):=by
    have:=xla s.2.2 [32,46]
    rw[show (([32,46]:List Nat).map sgn)=[.str (Str.ofString " "),.str (Str.ofString ".")] from by decide +kernel] at this
    rw[if_neg Bool.false_ne_true,this,Bool.eq_iff_iff]
    simp
   rw[e1]
   refine ite2 (fun c1=>?_) (fun c1=>?_)
   .rw [c1,Bool.true_or] at e0
    rw[e0] at q
    exact q _ s02
   .rw [Bool.eq_false_iff.mpr c1,Bool.false_or] at e0
    refine⟨_,rfl,_,rfl,(by decide:(1:Nat)<=1000),_,rfl,?_⟩
    rw[show isNm (⟨#[s.2.2]⟩:Str)=nmC s.2.2 from xg5 _]
    obtain⟨⟨dx2,ins2⟩,⟨kvs,hk,ld⟩,_⟩:=id lt2
    refine ite2 (fun c2=>?_) (fun c2=>?_)
    .rw [c2,Bool.true_and] at e0
     refine⟨_,rfl,_,rfl,a,_,dx2,_,_,rfl,ins2,T.c_ao,T.n_a9,ltO,o,_,rfl,DGet.k (k:=.inr (ofL [s.2.2])) hk,?_⟩
     rw[ld.is]
     rw[e0] at q
     have:=q _ s02
     rw[decide_not] at this
     exact this
    .rw [Bool.eq_false_iff.mpr c2,Bool.false_and] at e0
     rw[e0] at q
     exact q _ s02
  .have e0:mayB lc os is s=((([32,124,45,43,35]:List Nat).contains s.2.2)||(nmC s.2.2&&lieB is s.1 s.2.1 s.2.2)):=by
    unfold mayB
    rw[if_neg c]
   refine⟨_,rfl,(by show 5<=sizeLine; decide),fun p1 hp1=>?_⟩
   have s2:Same H1 (upd H1 p1 (.tup [.str (Str.ofString " "),.str (Str.ofString "|"),.str (Str.ofString "-"),.str (Str.ofString "+"),.str (Str.ofString "#")])):=xp (Same.refl _) hp1
   have g2:upd H1 p1 (.tup [.str (Str.ofString " "),.str (Str.ofString "|"),.str (Str.ofString "-"),.str (Str.ofString "+"),.str (Str.ofString "#")]) p1=some (.tup [.str (Str.ofString " "),.str (Str.ofString "|"),.str (Str.ofString "-"),.str (Str.ofString "+"),.str (Str.ofString "#")]):=xf
   revert s2 g2
   generalize upd H1 p1 (.tup [.str (Str.ofString " "),.str (Str.ofString "|"),.str (Str.ofString "-"),.str (Str.ofString "+"),.str (Str.ofString "#")])=H2
   intro s2 g2
   refine⟨p1,_,rfl,.inr (SqT.of g2),rfl,rfl,_,rfl,?_⟩
   have s02:=s1.trans s2
   have lt2:=lt.same s02
   have e1:(if false=true then !inV (sgn s.2.2) [.str (Str.ofString " "),.str (Str.ofString "|"),.str (Str.ofString "-"),.str (Str.ofString "+"),.str (Str.ofString "#")] else inV (sgn s.2.2) [.str (Str.ofString " "),.str (Str.ofString "|"),.str (Str.ofString "-"),.str (Str.ofString "+"),.str (Str.ofString "#")])=([32,124,45,43,35]:List Nat).contains s.2.2:=by
    have:=xla s.2.2 [32,124,45,43,35]
    rw[show (([32,124,45,43,35]:List Nat).map sgn)=[.str (Str.ofString " "),.str (Str.ofString "|"),.str (Str.ofString "-"),.str (Str.ofString "+"),.str (Str.ofString "#")] from by decide +kernel] at this
    rw[if_neg Bool.false_ne_true,this,Bool.eq_iff_iff]
    simp
   rw[e1]
   refine ite2 (fun c1=>?_) (fun c1=>?_)
   .rw [c1,Bool.true_or] at e0
    rw[e0] at q
    exact q _ s02
   .rw [Bool.eq_false_iff.mpr c1,Bool.false_or] at e0
    refine⟨_,rfl,_,rfl,(by decide:(1:Nat)<=1000),_,rfl,?_⟩
    rw[show isNm (⟨#[s.2.2]⟩:Str)=nmC s.2.2 from xg5 _]
    obtain⟨⟨dx2,ins2⟩,_⟩:=id lt2
    refine ite2 (fun c2=>?_) (fun c2=>?_)
    .rw [c2,Bool.true_and] at e0
     refine⟨_,rfl,a,dx2,_,rfl,ins2,xfu (by decide +kernel),_,rfl,_,rfl,_,rfl,a,o,i,lc,os,is,s,rfl,lt2,i6,fun H3 s3=>?_⟩
     rw[e0] at q
     exact q _ (s02.trans s3)
    .rw [Bool.eq_false_iff.mpr c2,Bool.false_and] at e0
     rw[e0] at q
     exact q _ s02
theorem ok_aa (T:Txt w K mg t):FnOk true P w K mg base (CXo P w) 3 t.f_aa t.d_aa ["self", "row", "column", "sign"] (xr5 t):=by
 refine T.F_aa.okn (k:=2) sc_aa (fun vs H Q E h=>?_) (fun cdv A outer s H vs Q E hr h=>?_)
 .obtain ⟨a,o,i,lc,os,is,s,rfl,_⟩:=h
  rfl
 .obtain ⟨a,o,i,lc,os,is,s,rfl,h⟩:=h
  refine⟨_,xk (xao (xbh (xa9 (xa0 (pv 0) T.c_ao T.m_g (ok_g T) (hr.mono (by decide)) T.b_g .nil xj (xa (pv 1) (xa (pv 2) (xa (pv 3) (xb))))))) (xm (xa3)) (x9))
   (xm (xao (xa9 (xt (okD_ax T) (hr.mono (by decide)) rfl T.g_ax T.F_ax.kp T.b_ax .nil xj (xa (pv 3) (xb)))) (xk (x8 (i:=4) sc_aa.nd rfl (Or.inl rfl) (xc7 (xa9 (xa0 (pv 0) T.c_ao T.m_k (ok_k T) (hr.mono (by decide)) T.b_k .nil xj (xa (pv 2) (xb)))) (xae (pv 0) rfl) (xae (pv 0) rfl)))
   (xm (xb7 (xbc hr) (pv 4) (pv 3) (xab (xa (pv 1) (xa (pv 2) (xb)))) rfl))) (x9))),?_⟩
  obtain⟨lt,i6,o6,my,q⟩:=h
  obtain⟨⟨dx,ins⟩,_⟩:=id lt
  refine⟨_,rfl,a,dx,_,rfl,ins,xfu (by decide +kernel),_,rfl,_,rfl,_,rfl,a,o,i,lc,os,is,s,rfl,lt,i6,fun H1 s1=>⟨_,rfl,ifN (by rw[my]; rfl) ?_⟩⟩
  refine⟨_,rfl,_,rfl,(by decide:(1:Nat)<=1000),_,rfl,?_⟩
  rw[show isNm (⟨#[s.2.2]⟩:Str)=nmC s.2.2 from xg5 _]
  have lt1:=lt.same s1
  refine ite2 (fun c=>?_) (fun c=>?_)
  .obtain ⟨⟨dx1,ins1⟩,_⟩:=id lt1
   refine⟨_,rfl,a,dx1,_,rfl,ins1,xfu (by decide +kernel),_,rfl,a,o,i,lc,os,is,s.2.1,rfl,lt1,fun H2 s2=>⟨_,rfl,?_⟩⟩
   have s02:=s1.trans s2
   have lt2:=lt.same s02
   obtain⟨⟨dx2,ins2⟩,⟨ko,hko,ldo⟩,⟨ki,hki,ldi⟩,ne⟩:=id lt2
   have klo:=ldo.len
   have kli:=ldi.len
   refine ite2 (fun r=>?_) (fun r=>?_)
   .have nin:s.2.2∉os.map fun s=>s.2.2:=by
     unfold mayB at my
     rw[if_pos r] at my
     have n1:¬ s.2.2=32:=fun z=>by rw[z] at c; exact absurd c (by decide)
     have n2:¬ s.2.2=46:=fun z=>by rw[z] at c; exact absurd c (by decide)
     rw[decide_eq_false n1,decide_eq_false n2,c,Bool.or_false,Bool.false_or,Bool.true_and] at my
     exact of_decide_eq_true my
    refine⟨_,rfl,a,_,dx2,_,_,rfl,ins2,T.c_ao,T.n_a9,ltO,_,rfl,_,rfl,(by show 2<=sizeLine; decide),fun qa hqa=>?_⟩
    have s3:Same H2 (upd H2 qa (.tup [.int (s.1:Int),.int (s.2.1:Int)])):=xp (Same.refl _) hqa
    have g3:upd H2 qa (.tup [.int (s.1:Int),.int (s.2.1:Int)]) qa=some (.tup [.int (s.1:Int),.int (s.2.1:Int)]):=xf
    revert s3 g3
    generalize upd H2 qa (.tup [.int (s.1:Int),.int (s.2.1:Int)])=H3
    intro s3 g3
    refine⟨_,rfl,_,rfl,o,_,rfl,DPut.k (k:=.inr (ofL [s.2.2])) (s3 _ _ hko) (by rw[klo]; exact Nat.lt_of_le_of_lt (by omega:_<=1000) (by decide)),?_⟩
    have hv:valV ko (.inr (ofL [s.2.2]))=none:=by
     have:=ldo.is s.2.2
     rw[decide_eq_false nin] at this
     exact Option.isNone_iff_eq_none.mp (by rw[<- Option.not_isSome,this]; rfl)
    rw[xdd _ hv]
    have kp:∀ b u,b≠o->H3 b=some u->upd H3 o (.dK (ko++[(.inr (ofL [s.2.2]),.ref qa)])) b=some u:=fun b u nb e=>by rw[xg nb]; exact e
    have kt:Tups H3 (upd H3 o (.dK (ko++[(.inr (ofL [s.2.2]),.ref qa)]))):=fun b xs e=>kp _ _ (x5 e (s3 _ _ hko) (fun z=>nomatch z)) e
    refine q _ (fun b u nb _ e=>kp _ _ nb (s3 _ _ (s02 _ _ e))) ?_
    rw[if_pos (by unfold outP; rw[r,c]; rfl),if_neg (by unfold innP; rw[r]; simp)]
    exact⟨⟨dx2,kp _ _ (x5 ins2 hko (fun z=>nomatch z)) (s3 _ _ ins2)⟩,⟨_,xf,(((ldo.keep (Same.tups s3)).snoc g3).keep kt)⟩,⟨ki,kp _ _ (Ne.symm ne) (s3 _ _ hki),(ldi.keep (Same.tups s3)).keep kt⟩,ne⟩
   .have r':=Bool.eq_false_iff.mpr r
    have lie:lieB is s.1 s.2.1 s.2.2=true:=by
     unfold mayB at my
     rw[if_neg r,c,Bool.true_and] at my
     rcases Bool.or_eq_true _ _▸my with z|z
     .exfalso
      have z:=List.contains_iff_mem.mp z
      have c':97<=s.2.2:=by
       unfold nmC at c
       exact of_decide_eq_true (Bool.and_eq_true _ _▸c).1
      have z:s.2.2=32\/s.2.2=124\/s.2.2=45\/s.2.2=43\/s.2.2=35:=by simpa using z
      have c2:s.2.2<=122:=by
       unfold nmC at c
       exact of_decide_eq_true (Bool.and_eq_true _ _▸c).2
      omega
     .exact z
    have nin:s.2.2∉is.map fun s=>s.2.2:=by
     unfold lieB at lie
     exact of_decide_eq_true (Bool.and_eq_true _ _▸lie).1
    refine⟨_,rfl,a,_,dx2,_,_,rfl,ins2,T.c_ao,T.n_a7,ltI,_,rfl,_,rfl,(by show 2<=sizeLine; decide),fun qa hqa=>?_⟩
    have s3:Same H2 (upd H2 qa (.tup [.int (s.1:Int),.int (s.2.1:Int)])):=xp (Same.refl _) hqa
    have g3:upd H2 qa (.tup [.int (s.1:Int),.int (s.2.1:Int)]) qa=some (.tup [.int (s.1:Int),.int (s.2.1:Int)]):=xf
    revert s3 g3
    generalize upd H2 qa (.tup [.int (s.1:Int),.int (s.2.1:Int)])=H3
    intro s3 g3
    refine⟨_,rfl,_,rfl,i,_,rfl,DPut.k (k:=.inr (ofL [s.2.2])) (s3 _ _ hki) (by rw[kli]; exact Nat.lt_of_le_of_lt (by omega:_<=1000) (by decide)),?_⟩
    have hv:valV ki (.inr (ofL [s.2.2]))=none:=by
     have:=ldi.is s.2.2
     rw[decide_eq_false nin] at this
     exact Option.isNone_iff_eq_none.mp (by rw[<- Option.not_isSome,this]; rfl)
    rw[xdd _ hv]
    have kp:∀ b u,b≠i->H3 b=some u->upd H3 i (.dK (ki++[(.inr (ofL [s.2.2]),.ref qa)])) b=some u:=fun b u nb e=>by rw[xg nb]; exact e
    have kt:Tups H3 (upd H3 i (.dK (ki++[(.inr (ofL [s.2.2]),.ref qa)]))):=fun b xs e=>kp _ _ (x5 e (s3 _ _ hki) (fun z=>nomatch z)) e
    refine q _ (fun b u _ nb e=>kp _ _ nb (s3 _ _ (s02 _ _ e))) ?_
    rw[if_neg (by unfold outP; rw[r']; simp),if_pos (by unfold innP; rw[r',c]; rfl)]
    exact⟨⟨dx2,kp _ _ (x5 ins2 hki (fun z=>nomatch z)) (s3 _ _ ins2)⟩,⟨ko,kp _ _ ne (s3 _ _ hko),(ldo.keep (Same.tups s3)).keep kt⟩,⟨_,xf,(((ldi.keep (Same.tups s3)).snoc g3).keep kt)⟩,ne⟩
  .have c':=Bool.eq_false_iff.mpr c
   refine q _ (fun b u _ _ e=>s1 _ _ e) ?_
   rw[if_neg (by unfold outP; rw[c',Bool.and_false]; decide),if_neg (by unfold innP; rw[c',Bool.and_false]; decide)]
   exact lt1
end
theorem xfe {α β:Type}{f:α->β}{l' m:List β} (p:l'.Perm m):∀{l:List α},m=l.map f->∃ l2:List α,l2.Perm l/\l'=l2.map f:=by
 induction p with
 | nil =>
  intro l e
  have:l=[]:=List.map_eq_nil_iff.mp e.symm
  subst this
  exact⟨[],.refl _,rfl⟩
 | cons x _ ih =>
  intro l e
  cases l with
  | nil=>cases e
  | cons a l =>
   rw[List.map_cons] at e
   obtain⟨rfl,e2⟩:=List.cons.inj e
   obtain⟨l2,p2,rfl⟩:=ih e2
   exact⟨a::l2,p2.cons a,rfl⟩
 | swap x y r =>
  intro l e
  cases l with
  | nil=>cases e
  | cons a l =>
   cases l with
   | nil=>cases e
   | cons b l =>
    rw[List.map_cons,List.map_cons] at e
    obtain⟨rfl,e2⟩:=List.cons.inj e
    obtain⟨rfl,rfl⟩:=List.cons.inj e2
    exact⟨b::a::l,.swap a b l,rfl⟩
 | trans _ _ ih1 ih2 =>
  intro l e
  obtain⟨k2,p2,rfl⟩:=ih2 e
  obtain⟨k1,p1,rfl⟩:=ih1 rfl
  exact⟨k1,p1.trans p2,rfl⟩
theorem xhh {i:Nat}{r:List Nat}{s:Sg}:s∈sgR i r↔s.1=i/\s.2.1<r.length/\s.2.2=r.getD s.2.1 0:=by
 unfold sgR
 rw[List.mem_map]
 constructor
 .rintro ⟨j,hj,rfl⟩
  exact⟨rfl,List.mem_range.mp hj,rfl⟩
 .rintro ⟨h1,h2,h3⟩
  obtain⟨a,b,c⟩:=s
  dsimp only at h1 h2 h3
  exact⟨b,List.mem_range.mpr h2,by rw[h1,h3]⟩
theorem xf1 {G:List (List Nat)}{n:Nat}{s:Sg}:s∈sgsN G n↔s.1<n/\s.2.1<(G.getD s.1 []).length/\s.2.2=(G.getD s.1 []).getD s.2.1 0:=by
 unfold sgsN
 rw[List.mem_flatMap]
 constructor
 .rintro ⟨i,hi,hs⟩
  obtain⟨h1,h2,h3⟩:=xhh.mp hs
  subst h1
  exact⟨List.mem_range.mp hi,h2,h3⟩
 .rintro ⟨h1,h2,h3⟩
  exact⟨s.1,List.mem_range.mpr h1,xhh.mpr ⟨rfl,h2,h3⟩⟩
theorem xg6 {W:Nat}{G:List (List Nat)} (o:Txs W G) {s:Sg}:s∈sgs G↔s.1<G.length/\s.2.1<W/\s.2.2=(G.getD s.1 []).getD s.2.1 0:=by
 unfold sgs
 rw[xf1]
 have l:s.1<G.length->(G.getD s.1 []).length=W:=fun h=>by
  rw[List.getD_eq_getElem?_getD,List.getElem?_eq_getElem h]
  exact o.wd _ (List.getElem_mem h)
 constructor
 .rintro ⟨h1,h2,h3⟩
  exact⟨h1,by rw[<- l h1]; exact h2,h3⟩
 .rintro ⟨h1,h2,h3⟩
  exact⟨h1,by rw[l h1]; exact h2,h3⟩
abbrev xp0 (a b:Sg):Prop:=¬ (a.1=b.1/\a.2.1=b.2.1)
theorem xfz (G:List (List Nat)):∀ n,(sgsN G n).Pairwise xp0
 | 0=>by
  unfold sgsN
  exact List.Pairwise.nil
 | n+1=>by
  have e:sgsN G (n+1)=sgsN G n++sgR n (G.getD n []):=by
   unfold sgsN
   rw[List.range_succ,List.flatMap_append,List.flatMap_singleton]
  rw[e,List.pairwise_append]
  refine⟨xfz G n,?_,fun a ha b hb=>?_⟩
  .unfold sgR
   rw[List.pairwise_map]
   exact List.nodup_range.imp fun ne z=>ne z.2
  .have h1:=(xf1.mp ha).1
   have h2:=(xhh.mp hb).1
   intro z
   omega
def inns (w:Nat) (G:List (List Nat)):List Sg:=(sgs G).filter (innP (w+1))
def outs (w:Nat) (G:List (List Nat)):List Sg:=(sgs G).filter (outP (w+1))
def rims (w:Nat) (G:List (List Nat)):List Sg:=(sgs G).filter fun s=>rimB (w+1) s.2.1&&decide (s.2.2≠32)
abbrev InNe (a b:Sg):Prop:=a.2.2≠b.2.2/\a.1≠b.1/\a.2.1≠b.2.1
structure xdt (w:Nat) (G:List (List Nat)):Prop where
 tx:Txs (w+2) G
 sg:∀ s∈sgs G,nmC s.2.2=false->if rimB (w+1) s.2.1=true then s.2.2=32\/s.2.2=46 else s.2.2∈([32,124,45,43,35]:List Nat)
 in1:(inns w G).Pairwise InNe
 in2:(inns w G).length<=12
 ou1:((outs w G).map fun s=>s.2.2).Nodup
 ou2:∀ s∈outs w G,s.2.2∈(inns w G).map fun s=>s.2.2
theorem xr2 {α:Type}{l:List α}{k:Nat}{x:α} (h:l[k]?=some x):l=l.take k++x::l.drop (k+1):=by
 obtain⟨hk,rfl⟩:=List.getElem?_eq_some_iff.mp h
 rw[<- List.drop_eq_getElem_cons hk,List.take_append_drop]
theorem xhu {α:Type}{l:List α}{k:Nat}{x:α} (h:l[k]?=some x) {p:α->Bool} (hp:p x=true):l.filter p=(l.take k).filter p++x::(l.drop (k+1)).filter p:=by
 have e:=congrArg (List.filter p) (xr2 h)
 rw[List.filter_append,List.filter_cons_of_pos hp] at e
 exact e
theorem xqk {w:Nat}{G:List (List Nat)} (g:xdt w G) {k:Nat}{s:Sg} (h:(sgs G)[k]?=some s):mayB (w+1) (((sgs G).take k).filter (outP (w+1))) (((sgs G).take k).filter (innP (w+1))) s=true:=by
 have ms:=List.mem_of_getElem? h
 have sg:=g.sg s ms
 unfold mayB
 by_cases r:rimB (w+1) s.2.1=true
 .rw [if_pos r]
  rw[if_pos r] at sg
  cases n:nmC s.2.2 with
  | false =>
   rcases sg n with z|z
   .rw [decide_eq_true z]
    rfl
   .rw [decide_eq_true z,Bool.or_true]
    rfl
  | true =>
   have e:=g.ou1
   unfold outs at e
   rw[xhu h (by unfold outP; rw[r,n]; rfl),List.map_append,List.map_cons,List.nodup_append] at e
   have ni:s.2.2∉((sgs G).take k |>.filter (outP (w+1))).map fun s=>s.2.2:=fun z=>e.2.2 _ z _ List.mem_cons_self rfl
   rw[decide_eq_true ni,Bool.and_true,Bool.or_true]
 .rw [if_neg r]
  rw[if_neg r] at sg
  have r':=Bool.eq_false_iff.mpr r
  cases n:nmC s.2.2 with
  | false =>
   rw[List.contains_iff_mem.mpr (sg n)]
   rfl
  | true =>
   have pos:innP (w+1) s=true:=by unfold innP; rw[r',n]; rfl
   have e:=g.in1
   have e2:=g.in2
   unfold inns at e e2
   rw[xhu h pos,List.pairwise_append] at e
   rw[xhu h pos,List.length_append,List.length_cons] at e2
   have all:∀ a∈((sgs G).take k).filter (innP (w+1)),InNe a s:=fun a ha=>e.2.2 a ha s List.mem_cons_self
   have ni:s.2.2∉((sgs G).take k |>.filter (innP (w+1))).map fun s=>s.2.2:=fun z=>by
    obtain⟨a,ha,ea⟩:=List.mem_map.mp z
    exact (all a ha).1 ea
   have nf:(((sgs G).take k).filter (innP (w+1))).filter (fun z=>decide (z.1=s.1)||decide (z.2.1=s.2.1))=[]:=by
    rw[List.filter_eq_nil_iff]
    intro a ha z
    rcases Bool.or_eq_true _ _▸z with z|z
    .exact (all a ha).2.1 (of_decide_eq_true z)
    .exact (all a ha).2.2 (of_decide_eq_true z)
   have lie:lieB (((sgs G).take k).filter (innP (w+1))) s.1 s.2.1 s.2.2=true:=by
    unfold lieB
    rw[decide_eq_true ni,decide_eq_true nf,decide_eq_true (by omega)]
    rfl
   rw[lie,Bool.and_true,Bool.or_true]
theorem xib {α:Type}{l:List α}{k:Nat}{x:α} (h:l[k]?=some x) (p:α->Bool):(l.take (k+1)).filter p=if p x then (l.take k).filter p++[x] else (l.take k).filter p:=by
 rw[List.take_add_one,h,List.filter_append]
 cases e:p x with
 | true =>
  rw[if_pos rfl,show (some x).toList=[x] from rfl,List.filter_cons_of_pos e]
  rfl
 | false =>
  rw[if_neg (by decide),show (some x).toList=[x] from rfl,List.filter_cons_of_neg (by rw[e]; decide),List.filter_nil,List.append_nil]
def nmLt (a b:Sg):Prop:=a.2.2<b.2.2
theorem xfj:∀(p:Sg) (es:List Sg),risingS (ofL [p.2.2]) (es.map fun s=>ofL [s.2.2])=true->(∀ s∈es,p.2.2<=s.2.2)/\es.Pairwise fun a b=>a.2.2<=b.2.2
 | p,[],_=>⟨fun _ z=>(nomatch z),.nil⟩
 | p,x::r,h=>by
  rw[List.map_cons] at h
  unfold risingS at h
  rw[Bool.and_eq_true,xbf,xbf] at h
  obtain⟨h1,h2⟩:=h
  obtain⟨i1,i2⟩:=xfj x r h2
  have le:p.2.2<=x.2.2:=by
   simp[PySem.Spec.ltCps] at h1
   omega
  refine⟨fun s hs=>?_,List.pairwise_cons.mpr ⟨i1,i2⟩⟩
  rcases List.mem_cons.mp hs with z|z
  .rw [z]
   exact le
  .exact Nat.le_trans le (i1 s z)
theorem xg4 {es:List Sg} (h:sortedS (es.map fun s=>ofL [s.2.2])=true) (nd:(es.map fun s=>s.2.2).Nodup):es.Pairwise nmLt:=by
 have le:es.Pairwise fun a b=>a.2.2<=b.2.2:=by
  cases es with
  | nil=>exact .nil
  | cons x r =>
   obtain⟨i1,i2⟩:=xfj x r h
   exact List.pairwise_cons.mpr ⟨i1,i2⟩
 rw[List.Nodup,List.pairwise_map] at nd
 exact (le.and nd).imp fun z=>Nat.lt_of_le_of_ne z.1 z.2
theorem xlj:∀ cs:List Nat,Str.join (Str.ofString "") (cs.map fun n=>ofL [n])=ofL cs
 | []=>rfl
 | [c]=>rfl
 | c::d::r=>by
  apply xex
  have ih:=xlj (d::r)
  show (ofL [c]++Str.ofString ""++Str.join (Str.ofString "") ((d::r).map fun n=>ofL [n])).cps.toList=_
  rw[ih,xdv,xdv,xbf,xbf,xbf]
  rfl
def One (m:Cl->Option Str):Prop:=∀ c s,m c=some s->s.length=1
def cd (m:Cl->Option Str) (c:Cl):Nat:=match m c with
 | some s=>s.cps.toList.headD 32
 | none=>32
theorem xue {m:Cl->Option Str} (o:One m) (c:Cl):(m c).getD (Str.ofString " ")=ofL [cd m c]:=by
 unfold cd
 cases e:m c with
 | none=>rfl
 | some s =>
  have l:=o c s e
  show s=ofL [s.cps.toList.headD 32]
  apply xex
  rw[xbf]
  have l2:s.cps.toList.length=1:=by simpa [Str.length] using l
  cases h:s.cps.toList with
  | nil=>rw[h] at l2; cases l2
  | cons x r =>
   rw[h] at l2
   have:r=[]:=by simpa using l2
   rw[this]
   rfl
def rowC (w:Nat) (r:Int) (m:Cl->Option Str):List Nat:=(List.range (w+2)).map fun (j:Nat)=>cd m ((j:Int),r)
theorem xk7 {m:Cl->Option Str} (o:One m) (w:Nat) (r:Int):rowT w r m=ofL (rowC w r m):=by
 unfold rowT rowC
 rw[<- xlj,List.map_map]
 congr 1
 exact List.map_congr_left fun j _=>xue o _
def xds (w h:Nat) (m:Cl->Option Str):List (List Nat):=(List.range h).map fun (i:Nat)=>rowC w (1+(i:Int)) m
theorem xjx {m:Cl->Option Str} (o:One m) (w h:Nat):xbs w h m=GV (xds w h m):=by
 unfold xbs GV xds
 rw[List.map_map]
 exact List.map_congr_left fun i _=>by
  show V.str (rowT w (1+(i:Int)) m)=V.str (ofL (rowC w (1+(i:Int)) m))
  rw[xk7 o]
def xqn:Sp:=fun vs H Q _=>∃(l d:Addr) (w:Nat) (G:List (List Nat)) (m:Cl->Option Str),vs=[.ref l,.ref d]/\H l=some (.lst (GV G))/\Txs (w+2) G/\H d=some (.lst (xbs w G.length m))/\One m/\(∀ s∈sgs G,cd m ((s.2.1:Int),1+(s.1:Int))=s.2.2)/\∀ H',Same H H'->Q .non H'
theorem TL.get {α:Type}{f:α->List V}{H:Hp}{as:List α}{qs:List Addr} (h:TL f H as qs) {i:Nat}{q:Addr} (e:qs[i]?=some q):∃ a,as[i]?=some a/\H q=some (.tup (f a)):=h.2 i q e
section
variable {P:Program}{w:World}{K:PySem.W.Frag}{mg:Str->Option Value}{base:Heap}{t:Adr}
theorem ok_t (T:Txt w K mg t):FnOk true P w K mg base (CXo P w) 2 t.f_t t.d_t ["rows", "drawing"] (xqn):=by
 refine T.F_t.okn (k:=1) sc_t (fun vs H Q E h=>?_) (fun cdv A outer s H vs Q E hr h=>?_)
 .obtain ⟨l,d,w',G,m,rfl,_⟩:=h
  rfl
 .obtain ⟨l,d,w',G,m,rfl,h⟩:=h
  refine⟨_,xm (xa4 PassesOwn.never rfl (xar (xt (ok_av T) (hr.mono (by decide)) rfl T.g_av T.F_av.kp T.b_av .nil xj (xa (pv 0) (xb)))) (xat rfl (xq (xo (i:=2) sc_t.nd rfl (Or.inl rfl)) (xq (xo (i:=3) sc_t.nd rfl (Or.inl rfl)) (xq (xo (i:=4) sc_t.nd rfl (Or.inl rfl)) (xak))))) (xm (xao (xaa xej (pv 4) (xay xsx (xay xdw (pv 1) (pv 2) (fun _ _=>rfl)) (pv 3) (fun _ _=>rfl)) (xaf _)) (xm (xa3)) (x9)))),?_⟩
  obtain⟨hl,o,hd,o1,all,q⟩:=h
  have h2:=o.h2
  have w2:=o.w2
  refine⟨_,rfl,l,w'+2,G,rfl,hl,o,fun H1 l1 qs s1 f1 e1 tl1=>⟨l1,rfl,⟨_,SqL.of e1⟩,?_⟩⟩
  refine xa6 (xs:=qs.map V.ref) (Pv:=fun i σ H5=>∃(v2 v3 v4:Option V),σ=[some (.ref l),some (.ref d),v2,v3,v4]/\H5=H1) ⟨_,_,_,rfl,rfl⟩ ?_ ?_ ?_
  .rintro i σ H5 _ ⟨_,_,_,rfl,rfl⟩
   exact SqL.of e1
  .rintro i x σ H5 hx ⟨v2,v3,v4,rfl,rfl⟩
   rw[List.getElem?_map,Option.map_eq_some_iff] at hx
   obtain⟨qa,hqa,rfl⟩:=hx
   obtain⟨s,hs,hq⟩:=tl1.get hqa
   have ms:=List.mem_of_getElem? hs
   obtain⟨r1,r2,r3⟩:=(xg6 o).mp ms
   refine⟨qa,_,rfl,SqT.of hq,rfl,_,_,rfl,_,_,rfl,_,_,rfl,rfl,?_⟩
   have rt:=xk7 o1 w' (1+(s.1:Int))
   refine⟨_,rfl,_,rfl,_,rfl,d,_,_,.str (rowT w' (1+(s.1:Int)) m),rfl,rfl,SqL.of (s1 _ _ hd),?_,_,rfl,_,_,s.2.2,rfl,rfl,?_,?_,rfl,_,rfl,ifN ?_ ⟨_,_,_,rfl,rfl⟩⟩
   .refine xdx ?_
    unfold xbs
    rw[List.getElem?_map,List.getElem?_range r1]
    rfl
   .rw [rt,xck]
    unfold rowC
    rw[List.length_map,List.length_range]
    exact Nat.le_trans (by omega:_<=1000) (by decide)
   .rw [rt,xbf]
    refine xdx ?_
    unfold rowC
    rw[List.getElem?_map,List.getElem?_range r2]
    show some (cd m ((s.2.1:Int),1+(s.1:Int)))=_
    rw[all s ms]
   .simp [sgn]
  .rintro σ H5 ⟨v2,v3,v4,rfl,rfl⟩
   exact q _ s1
end
def toPt (h:Nat) (s:Sg):Pt:=⟨ofL [s.2.2],(s.2.1:Int),(s.1:Int)+1, "both",1,(h:Int)⟩
def xam (s:Sg):Seat:=(xfc s.2.1,(s.1:Int)+1)
theorem xqx {w:Nat}{G:List (List Nat)} (o:Txs (w+2) G) {s:Sg} (h:s∈inns w G):s∈sgs G/\nmC s.2.2=true/\1<=s.2.1/\s.2.1<=w/\s.1<G.length:=by
 obtain⟨h1,h2⟩:=List.mem_filter.mp h
 unfold innP rimB at h2
 obtain⟨r1,r2,_⟩:=(xg6 o).mp h1
 simp only[Bool.and_eq_true,Bool.not_eq_true',Bool.or_eq_false_iff,decide_eq_false_iff_not] at h2
 exact⟨h1,h2.2,by omega,by omega,r1⟩
theorem xes {lc j:Nat} (h:rimB lc j=true):j=0\/j=lc:=by
 unfold rimB at h
 simpa using h
theorem xg2 {α β:Type}{R:α->α->Prop}{f:α->β}{l:List α} (h:l.Pairwise R) (k:∀ a b,R a b->f a≠f b):(l.map f).Nodup:=by
 rw[List.Nodup,List.pairwise_map]
 exact h.imp fun {a b} z=>k a b z
theorem xfo {w:Nat}{G:List (List Nat)} (g:xdt w G) {es:List Sg} (pe:es.Perm (inns w G)):xdg (w:Int) (G.length:Int) (es.map (toPt G.length)):=by
 have nd:∀{β:Type} (f:Pt->β),(∀ a b:Sg,InNe a b->f (toPt G.length a)≠f (toPt G.length b))->((es.map (toPt G.length)).map f).Nodup:=fun f hf=>by
  rw[List.map_map]
  exact (pe.map _).nodup_iff.mpr (xg2 (f:=f∘toPt G.length) g.in1 hf)
 refine⟨fun p hp=>?_,nd _ fun a b z e=>z.1 (xd5 e),nd _ fun a b z e=>z.2.2 ?_,nd _ fun a b z e=>z.2.1 ?_,?_⟩
 .obtain ⟨s,hs,rfl⟩:=List.mem_map.mp hp
  obtain⟨_,i2,i3,i4,i5⟩:=xqx g.tx (pe.mem_iff.mp hs)
  have h1:=g.tx.h1
  exact⟨by rw[show (toPt G.length s).nm=ofL [s.2.2] from rfl,xg5,i2],by show (1:Int)<=(s.2.1:Int); omega,by show (s.2.1:Int)<=_; omega,by show (1:Int)<=(s.1:Int)+1; omega,by show (s.1:Int)+1<=_; omega,.inr (.inr rfl),by show (1:Int)<=1; omega,by show (1:Int)<=(G.length:Int); omega,by show (G.length:Int)<=_; omega⟩
 .have e:(a.2.1:Int)=(b.2.1:Int):=e
  omega
 .have e:(a.1:Int)+1=(b.1:Int)+1:=e
  omega
 .rw [List.length_map,pe.length_eq]
  exact g.in2
theorem xlq {w:Nat}{a b:Sg} (ra:rimB (w+1) a.2.1=true) (rb:rimB (w+1) b.2.1=true) (ne:xp0 a b):xam a≠xam b:=fun e=>by
 have e1:decide (a.2.1=0)=decide (b.2.1=0):=(Prod.mk.inj e).1
 have e2:(a.1:Int)+1=(b.1:Int)+1:=(Prod.mk.inj e).2
 rw[decide_eq_decide] at e1
 refine ne ⟨by omega,?_⟩
 rcases xes ra with x|x<;>rcases xes rb with y|y<;>omega
theorem xeo {α:Type}{R S:α->α->Prop}{p:α->Bool}{l:List α} (h:l.Pairwise R) (k:∀ a b,p a=true->p b=true->R a b->S a b):(l.filter p).Pairwise S:=by
 have z:=(h.filter p)
 refine List.Pairwise.imp_of_mem ?_ z
 intro a b ha hb r
 exact k a b (List.mem_filter.mp ha).2 (List.mem_filter.mp hb).2 r
theorem xlz {w:Nat}{G:List (List Nat)} (g:xdt w G):SsOk (G.length:Int) ((rims w G).map xam):=by
 have nd:((rims w G).map xam).Nodup:=by
  refine xg2 (R:=fun a b=>xam a≠xam b) ?_ fun _ _ z=>z
  refine xeo (xfz G _) fun a b ha hb z=>?_
  exact xlq (Bool.and_eq_true _ _▸ha).1 (Bool.and_eq_true _ _▸hb).1 z
 have bd:∀ s∈(rims w G).map xam,1<=s.2/\s.2<=(G.length:Int):=fun s hs=>by
  obtain⟨z,hz,rfl⟩:=List.mem_map.mp hs
  have:=((xg6 g.tx).mp (List.mem_filter.mp hz).1).1
  exact⟨by show (1:Int)<=(z.1:Int)+1; omega,by show (z.1:Int)+1<=_; omega⟩
 refine⟨nd,?_,bd⟩
 have h2:=g.tx.h2
 have:=nd.length_le_of_subset (l₂:=xal true G.length++xal false G.length) fun s hs=>xku (bd s hs)
 have e:(xal true G.length++xal false G.length).length=G.length+G.length:=by
  unfold xal
  rw[List.length_append,List.length_map,List.length_map,List.length_range]
 omega
theorem xkx {w:Nat}{G:List (List Nat)} (g:xdt w G):((inns w G).map fun s=>s.2.2).Nodup:=xg2 g.in1 fun _ _ z=>z.1
def xnk (t:Adr):Sp:=fun vs H Q _=>∃(l a o i:Addr) (w:Nat) (G:List (List Nat)),vs=[.ref l,.ref a]/\H l=some (.lst (GV G))/\Let t H a o i (w+1) (outs w G) (inns w G)/\xdt w G/\∀(H':Hp) (b dp do_:Addr) (es:List Sg),Same H H'->H b=none->H dp=none->es.Perm (inns w G)->es.Pairwise nmLt->Pic t H' b dp do_ (w:Int) (G.length:Int) (es.map (toPt G.length))->Sts H' do_ ((rims w G).map xam)->Q (.ref b) H'
section
variable {P:Program}{w:World}{K:PySem.W.Frag}{mg:Str->Option Value}{base:Heap}{t:Adr}
theorem ok_z (T:Txt w K mg t):FnOk true P w K mg base (CXo P w) 7 t.f_z t.d_z ["rows", "letters"] (xnk t):=by
 refine T.F_z.okn (k:=6) sc_z (fun vs H Q E h=>?_) (fun cdv A outer s H vs Q E hr h=>?_)
 .obtain ⟨l,a,o,i,w',G,rfl,_⟩:=h
  rfl
 .obtain ⟨l,a,o,i,w',G,rfl,h⟩:=h
  refine⟨_,xk (x8 (i:=2) sc_z.nd rfl (Or.inr rfl) (x6 xbn rfl T.n_len boot_len (xa (pv 0) (xb))))
   (xk (xce rfl (xa1 (zs:=["name"]) (ys:=["height", "letters"]) (fr:=[2,1]) (N0:=["rows", "letters", "height", "points", "seats"]) (sc0:=xh s_z) (by decide +kernel) rfl rfl rfl) (xar (x6 (xfk rfl) rfl T.n_sorted PyProof.Rows.Boot.«sorted» (xa (xae (pv 1) rfl) (xb)))) (fun _ _ _ _ _ ow nd=>xo (i:=0) nd rfl (Or.inl (ow _ (by simp))) (Or.inr (ow _ (by simp)))) (xbe (by decide)) (fun _ _ _ _ _=>xbi) (fun _ _ _ _ _=>xab (xz (pv 0) (xz (xay (r:=rIxT K) xaz (xev (xbc hr) ((xae (pv 2) rfl:PE _ _ (tFld K _ _))) (pv 0) (fun _ _=>rfl)) (xn) (fun _ _=>rfl)) (xz (xx xap (xay (r:=rIxT K) xaz (xev (xbc hr) ((xae (pv 2) rfl:PE _ _ (tFld K _ _))) (pv 0) (fun _ _=>rfl)) (xn) (fun _ _=>rfl)) (xn)) (xz (xad) (xz (xn) (xz (pv 1) (xb) rfl) rfl) rfl) rfl) rfl) rfl)) (j:=3) rfl (Or.inl rfl))
   (xk (xce rfl (xa1 (zs:=["row", "column", "sign"]) (ys:=["letters"]) (fr:=[1]) (N0:=["rows", "letters", "height", "points", "seats"]) (sc0:=xh s_z) (by decide +kernel) rfl rfl rfl) (xar (xt (ok_av T) (hr.mono (by decide)) rfl T.g_av T.F_av.kp T.b_av .nil xj (xa (pv 0) (xb)))) (fun _ _ _ _ _ ow nd=>(xat rfl (xq (xo (i:=0) nd rfl (Or.inl (ow _ (by simp))) (Or.inr (ow _ (by simp)))) (xq (xo (i:=1) nd rfl (Or.inl (ow _ (by simp))) (Or.inr (ow _ (by simp)))) (xq (xo (i:=2) nd rfl (Or.inl (ow _ (by simp))) (Or.inr (ow _ (by simp)))) (xak)))):PG _ _ (gTup K 3 _))) (xdz (xbb (by decide) (xbb (by decide) (xbb (by decide) (xc8))))) (fun _ _ _ _ _=>xer (PW.pt (xi7 (xa9 (xa0 (pv 3) T.c_ao T.m_k (ok_k T) (hr.mono (by decide)) T.b_k .nil xj (xa (pv 1) (xb)))) (xh0 (xaa xej (pv 2) (xad) (xaf _)))))) (fun _ _ _ _ _=>xt (ok_a1 T) (hr.mono (by decide)) rfl T.g_a1 T.F_a1.kp T.b_a1 .nil xj (xa (xab (xa (pv 0) (xa (pv 1) (xb)))) (xb))) (j:=4) rfl (Or.inl rfl))
   (xm (x0 (xt (ok_u T) (hr.mono (by decide)) rfl T.g_u T.F_u.kp T.b_u .nil xj (xa (xx xfr (xae (pv 1) rfl) (xn)) (xa (pv 2) (xa (pv 3) (xa (pv 4) (xb)))))))))),?_⟩
  obtain⟨hl,lt,g,q⟩:=h
  have tx:=g.tx
  have h1:=tx.h1
  have h2:=tx.h2
  have w1:=tx.w1
  have w2:=tx.w2
  have in2:=g.in2
  obtain⟨⟨dx,ins⟩,_,⟨kvs,hk,ld⟩,_⟩:=id lt
  refine⟨_,rfl,l,_,rfl,.inl (SqL.of hl),?_⟩
  rw[xhi]
  refine⟨_,rfl,a,_,dx,_,_,rfl,ins,T.c_ao,T.n_a7,ltI,i,(inns w' G).map (fun s=>ofL [s.2.2]),rfl,.inr ⟨kvs,hk,ld.keys⟩,(by rw[List.length_map]; omega),fun ls ns hls pm srt=>?_⟩
  obtain⟨es,pe,rfl⟩:=xfe pm rfl
  have nde:=(pe.map fun s=>s.2.2).nodup_iff.mpr (xkx g)
  have lt':=xg4 srt nde
  have el:=pe.length_eq
  have s1:Same H (upd H ls (.lst ((es.map fun s=>ofL [s.2.2]).map V.str))):=xp (Same.refl _) hls
  have g1:upd H ls (.lst ((es.map fun s=>ofL [s.2.2]).map V.str)) ls=some (.lst ((es.map fun s=>ofL [s.2.2]).map V.str)):=xf
  revert s1 g1
  generalize upd H ls (.lst ((es.map fun s=>ofL [s.2.2]).map V.str))=H1
  intro s1 g1
  refine⟨ls,rfl,⟨_,SqL.of g1⟩,fun l1 hl1=>?_⟩
  refine xdl (SqL.of g1) (by rw[List.length_map,List.length_map]; exact Nat.lt_of_le_of_lt (by omega:_<=1000) (by decide)) hl1 (fun j y H5=>∃ q s,y=.ref q/\es[j]?=some s/\H5 q=some (.tup (.str (toPt G.length s).nm::ptV (toPt G.length s)))) (fun j y H5 H6 tp ⟨q,s,e1,e2,e3⟩=>⟨q,s,e1,e2,tp _ _ e3⟩) (fun j x H5 hx s5 N hN=>?_) (fun ys H5 s5 e5 ly fy=>?_)
  .rw [List.getElem?_map,List.getElem?_map] at hx
   obtain⟨x2,hx2,rfl⟩:=Option.map_eq_some_iff.mp hx
   obtain⟨s,hs,rfl⟩:=Option.map_eq_some_iff.mp hx2
   have s05:=s1.trans s5
   have ins5:=s05 _ _ ins
   have hk5:=s05 _ _ hk
   obtain⟨qa,hv,hq⟩:=(ld.keep (Same.tups s05)).at_ (pe.mem_iff.mp (List.mem_of_getElem? hs)) (xkx g)
   have dg:=DGet.k (k:=.inr (ofL [s.2.2])) hk5
   rw[hv] at dg
   refine⟨_,rfl,_,rfl,a,_,dx,_,_,rfl,ins5,T.c_ao,T.n_a7,ltI,_,rfl,i,_,rfl,dg,qa,_,1,.int (s.2.1:Int),rfl,rfl,SqT.of hq,rfl,?_⟩
   refine⟨_,rfl,a,_,dx,_,_,rfl,ins5,T.c_ao,T.n_a7,ltI,_,rfl,i,_,rfl,dg,qa,_,0,.int (s.1:Int),rfl,rfl,SqT.of hq,rfl,_,_,rfl,rfl,_,rfl,(by show 6<=sizeLine; decide),fun u hu=>hN _ _ (xp (Same.refl _) hu) ⟨u,s,rfl,hs,?_⟩⟩
   rw[xf]
   rfl
  rw[List.length_map,List.length_map] at ly
  obtain⟨rs,rfl,ptl⟩:=PtsL.pick (H:=H5) (ps:=es.map (toPt G.length)) (ys:=ys) (by rw[ly,List.length_map]) (fun j y p hy hp=>by
   obtain⟨q,s,e1,e2,e3⟩:=fy j y hy
   rw[List.getElem?_map,e2] at hp
   cases hp
   exact⟨q,e1,e3⟩)
  have s05:=s1.trans s5
  have lt5:=lt.same s05
  refine⟨_,rfl,l,w'+2,G,rfl,s05 _ _ hl,tx,fun H6 l6 qs s6 f6 e6 tl6=>⟨l6,rfl,⟨_,SqL.of e6⟩,fun l7 hl7=>?_⟩⟩
  have qll:=tl6.1
  have gll:=xe5 tx G.length (Nat.le_refl _)
  have b512:G.length*(w'+2)<=16*32:=Nat.mul_le_mul h2 w2
  have gl2:(sgs G).length<=512:=by unfold sgs; omega
  have lt6:=lt5.same s6
  refine xdq (SqL.of e6) (by rw[List.length_map]; exact Nat.lt_of_le_of_lt (by omega:_<=1000) (by decide)) hl7 (fun k=>(((sgs G)[k]?).map fun s=>rimB (w'+1) s.2.1&&decide (s.2.2≠32)).getD false) (fun k y H8=>∃ q s,y=.ref q/\(sgs G)[k]?=some s/\H8 q=some (.tup (xcc (xam s)))) (fun j y H5 H6 tp ⟨q,s,e1,e2,e3⟩=>⟨q,s,e1,e2,tp _ _ e3⟩) (fun k x H8 hx s8 N M hN hM=>?_) (fun ys H8 s8 e8 ly8 fy8=>?_)
  .rw [List.getElem?_map,Option.map_eq_some_iff] at hx
   obtain⟨qa,hqa,rfl⟩:=hx
   obtain⟨s,hs,hq⟩:=tl6.get hqa
   have lt8:=lt6.same s8
   obtain⟨⟨dx8,ins8⟩,_⟩:=id lt8
   refine⟨qa,_,rfl,SqT.of (s8 _ _ hq),rfl,_,_,rfl,_,_,rfl,_,_,rfl,rfl,?_⟩
   refine⟨_,rfl,a,dx8,_,rfl,ins8,xfu (by decide +kernel),_,rfl,a,o,i,w'+1,_,_,s.2.1,rfl,lt8,fun H9 s9=>⟨_,rfl,ite2 (fun c=>?_) (fun c=>?_)⟩⟩
   .refine ⟨_,rfl,rfl,_,rfl,ite2 (fun c2=>?_) (fun c2=>?_)⟩
    .have n32:s.2.2≠32:=fun z=>by
      rw[z] at c2
      exact absurd c2 (by decide)
     refine⟨_,rfl,_,rfl,(by show 2<=sizeLine; decide),fun p hp=>⟨p,s.1,s.2.1,rfl,xf,fun H10 q10 s10 f10 e10=>hN _ _ (s9.trans (fun b u e=>s10 _ _ (xp (Same.refl _) hp _ _ e))) ?_ ⟨q10,s,rfl,hs,e10⟩⟩⟩
     rw[hs]
     show (rimB (w'+1) s.2.1&&decide (s.2.2≠32))=true
     rw[c,decide_eq_true n32]
     rfl
    .have n32:s.2.2=32:=by
      by_cases z:s.2.2=32
      .exact z
      .have y:¬ sgn s.2.2=V.str (Str.ofString " "):=fun y=>z (xd5 (d:=32) (V.str.inj y))
       exact absurd (by rw[decide_eq_false y]; rfl) c2
     refine hM _ s9 ?_
     rw[hs]
     show (rimB (w'+1) s.2.1&&decide (s.2.2≠32))=false
     rw[decide_eq_false (fun z=>z n32),Bool.and_false]
   .refine iteF (hM _ s9 ?_)
    rw[hs]
    show (rimB (w'+1) s.2.1&&decide (s.2.2≠32))=false
    rw[Bool.eq_false_iff.mpr c,Bool.false_and]
  have ix:=xkp (fun s:Sg=>rimB (w'+1) s.2.1&&decide (s.2.2≠32)) (as:=sgs G) (p:=fun k=>(((sgs G)[k]?).map fun s=>rimB (w'+1) s.2.1&&decide (s.2.2≠32)).getD false) (fun k s hs=>by rw[hs]; rfl)
  rw[List.length_map,qll] at ly8 fy8
  obtain⟨rs8,rfl,stl⟩:=xac.pick (H:=H8) (ss:=(rims w' G).map xam) (ys:=ys) (by rw[ly8,ix.1,List.length_map]; rfl) (fun j y z hy hz=>by
   obtain⟨k,hk⟩:∃ k,((List.range (sgs G).length).filter fun k=>(((sgs G)[k]?).map fun s=>rimB (w'+1) s.2.1&&decide (s.2.2≠32)).getD false)[j]?=some k:=⟨_,List.getElem?_eq_getElem (by rw[<- ly8]; exact (List.getElem?_eq_some_iff.mp hy).1)⟩
   obtain⟨q,s,e1,e2,e3⟩:=fy8 j y k hy hk
   rw[ix.2 j k hk] at e2
   rw[List.getElem?_map,show (rims w' G)[j]?=some s from e2] at hz
   cases hz
   exact⟨q,e1,e3⟩)
  have s58:=s6.trans s8
  have s08:=s05.trans s58
  obtain⟨⟨dx8,ins8⟩,_⟩:=id (lt6.same s8)
  have pok:=xfo g pe
  have ew:((w'+1:Nat):Int)-1=(w':Int):=by omega
  refine⟨_,rfl,a,_,dx8,_,_,rfl,ins8,T.c_ao,T.n_a8,ltL,_,_,rfl,rfl,_,rfl,_,rfl,_,rfl,?_⟩
  refine⟨(w':Int),(G.length:Int),l1,l7,es.map (toPt G.length),rs,(rims w' G).map xam,rs8,by show [V.int (((w'+1:Nat):Int)-1),V.int (G.length:Int),V.ref l1,V.ref l7]++[]=_; rw[ew]; rfl,⟨by omega,by omega,by omega,by omega⟩,s58 _ _ e5,ptl.keep (Same.tups s58),pok,e8,stl,xlz g,fun H' b dp do_ s' fb fdp _ pic st=>?_⟩
  exact q H' b dp do_ es (s08.trans s') (s08.free fb) (s08.free fdp) pe lt' pic st
end
theorem xk5 (G:List (List Nat)):∀ n,(sgsN G n).Pairwise fun a b=>a.1<b.1\/(a.1=b.1/\a.2.1<b.2.1)
 | 0=>by
  unfold sgsN
  exact List.Pairwise.nil
 | n+1=>by
  have e:sgsN G (n+1)=sgsN G n++sgR n (G.getD n []):=by
   unfold sgsN
   rw[List.range_succ,List.flatMap_append,List.flatMap_singleton]
  rw[e,List.pairwise_append]
  refine⟨xk5 G n,?_,fun a ha b hb=>?_⟩
  .unfold sgR
   rw[List.pairwise_map]
   exact List.pairwise_lt_range.imp fun z=>.inr ⟨rfl,z⟩
  .have h1:=(xf1.mp ha).1
   have h2:=(xhh.mp hb).1
   exact .inl (by omega)
theorem xjd {α:Type} (p:α->Bool):∀ l:List α,(l.filter p++l.filter fun x=>!p x).Perm l
 | []=>.refl _
 | x::l=>by
  have ih:=xjd p l
  cases e:p x with
  | true =>
   rw[List.filter_cons_of_pos e,List.filter_cons_of_neg (by rw[e]; decide)]
   exact ih.cons x
  | false =>
   rw[List.filter_cons_of_neg (by rw[e]; decide),List.filter_cons_of_pos (by rw[e]; rfl)]
   exact List.perm_middle.trans (ih.cons x)
def rimS (w:Nat) (G:List (List Nat)):List Seat:=(rims w G).map xam
def srtS (w:Nat) (G:List (List Nat)):List Seat:=(rimS w G).filter (fun s=>s.1)++(rimS w G).filter fun s=>!s.1
theorem xjj (w:Nat) (G:List (List Nat)):(srtS w G).Perm (rimS w G):=xjd _ _
theorem xsb (w:Nat) (G:List (List Nat)):(srtS w G).Pairwise xbv:=by
 have base:(rimS w G).Pairwise fun a b=>a.1=b.1->a.2<b.2:=by
  unfold rimS rims
  rw[List.pairwise_map]
  refine xeo (xk5 G _) fun a b ha hb z e=>?_
  have e:decide (a.2.1=0)=decide (b.2.1=0):=e
  rw[decide_eq_decide] at e
  have ra:=xes (Bool.and_eq_true _ _▸ha).1
  have rb:=xes (Bool.and_eq_true _ _▸hb).1
  show (a.1:Int)+1<(b.1:Int)+1
  omega
 unfold srtS
 rw[List.pairwise_append]
 refine⟨xeo base fun a b ha hb z=>.inr ⟨by rw[ha,hb],z (by rw[ha,hb])⟩,xeo base fun a b ha hb z=>?_,fun a ha b hb=>.inl ⟨(List.mem_filter.mp ha).2,by simpa using (List.mem_filter.mp hb).2⟩⟩
 have e:a.1=b.1:=by
  have ha:a.1=false:=by simpa using ha
  have hb:b.1=false:=by simpa using hb
  rw[ha,hb]
 exact .inr ⟨e,z e⟩
def toPr (w:Nat) (G:List (List Nat)) (s:Sg):Pr:=(toPt G.length (((inns w G).find? fun z=>decide (z.2.2=s.2.2)).getD s),xam s)
theorem xdy {w:Nat}{G:List (List Nat)} (g:xdt w G) {s:Sg} (h:s∈outs w G):s∈sgs G/\nmC s.2.2=true/\rimB (w+1) s.2.1=true/\∃ z∈inns w G,z.2.2=s.2.2/\toPr w G s=(toPt G.length z,xam s):=by
 obtain⟨h1,h2⟩:=List.mem_filter.mp h
 unfold outP at h2
 obtain⟨h3,h4⟩:=Bool.and_eq_true _ _▸h2
 refine⟨h1,h4,h3,?_⟩
 obtain⟨y,hy,ey⟩:=List.mem_map.mp (g.ou2 s h)
 cases e:(inns w G).find? fun z=>decide (z.2.2=s.2.2) with
 | none=>exact absurd (decide_eq_true ey) (by have:=List.find?_eq_none.mp e y hy; exact this)
 | some z =>
  have ez:z.2.2=s.2.2:=by
   have y:=List.find?_some e
   simpa using y
  exact⟨z,List.mem_of_find?_eq_some e,ez,by unfold toPr; rw[e]; rfl⟩
theorem xma {w:Nat}{G:List (List Nat)} (g:xdt w G) {es fs:List Sg} (pe:es.Perm (inns w G)) (pf:fs.Perm (outs w G)):xfg (w:Int) (G.length:Int) (es.map (toPt G.length)) (fs.map (toPr w G)):=by
 have pok:=xfo g pe
 have ou:=g.ou1
 have in2:=g.in2
 refine⟨fun p hp=>?_,?_,?_,?_⟩
 .obtain ⟨s,hs,rfl⟩:=List.mem_map.mp hp
  obtain⟨o1,o2,o3,z,hz,ez,et⟩:=xdy g (pf.mem_iff.mp hs)
  rw[et]
  have mem:toPt G.length z∈es.map (toPt G.length):=List.mem_map.mpr ⟨z,pe.mem_iff.mpr hz,rfl⟩
  have po:=pok.ok _ mem
  have r:=((xg6 g.tx).mp o1).1
  exact⟨po.nm,xh1 pok.nn mem,by show (1:Int)<=(s.1:Int)+1; omega,by show (s.1:Int)+1<=_; omega,po.x1,po.x2,po.y1,po.y2⟩
 .rw [List.map_map]
  have e:(outs w G).Pairwise fun a b=>xam a≠xam b:=by
   refine xeo (xfz G _) fun a b ha hb z=>?_
   unfold outP at ha hb
   exact xlq (Bool.and_eq_true _ _▸ha).1 (Bool.and_eq_true _ _▸hb).1 z
  exact (pf.map _).nodup_iff.mpr (xg2 (f:=fun s=>(toPr w G s).2) e fun _ _ z=>z)
 .rw [List.length_map,pf.length_eq]
  have z:=xmv ou fun x hx=>by
   obtain⟨s,hs,rfl⟩:=List.mem_map.mp hx
   exact g.ou2 s hs
  rw[List.length_map,List.length_map] at z
  omega
 .rw [List.map_map]
  have e:((outs w G).map fun s=>(toPr w G s).1.nm)=((outs w G).map fun s=>s.2.2).map fun c=>ofL [c]:=by
   rw[List.map_map]
   refine List.map_congr_left fun s hs=>?_
   obtain⟨_,_,_,z,_,ez,et⟩:=xdy g hs
   rw[et]
   show ofL [z.2.2]=ofL [s.2.2]
   rw[ez]
  refine (pf.map _).nodup_iff.mpr ?_
  show ((outs w G).map fun s=>(toPr w G s).1.nm).Nodup
  rw[e]
  exact Drw.nd_map (fun a b e=>xd5 e) ou
theorem xo5 {w:Int}{ps:List Pt}{ss:List Seat}{prs:List Pr} (h1:∀ p∈ps,isNm p.nm=true) (h2:∀ p∈prs,isNm p.1.nm=true):One (xek w ps ss prs):=by
 have no:∀(c:Cl) (s:Str),(Drw.no:Cl->Option Str) c=some s->s.length=1:=fun _ _ e=>nomatch e
 have nl:∀ s:Str,isNm s=true->s.length=1:=fun s h=>by
  unfold isNm at h
  exact of_decide_eq_true (Bool.and_eq_true _ _▸h).1
 have n1:=xbk (P:=fun s=>s.length=1) (L:=xbl w ss) no (fun x hx=>by
  obtain⟨z,_,rfl⟩:=List.mem_map.mp hx
  show (Str.ofString ".").length=1
  decide +kernel)
 have n2:=xbk (P:=fun s=>s.length=1) (L:=xbd w prs) n1 (fun x hx=>by
  obtain⟨z,hz,rfl⟩:=List.mem_map.mp hx
  exact nl _ (h2 z hz))
 have n3:=xcu (P:=fun s=>s.length=1) (hs:=hsS) (by unfold hsS; decide +kernel) (L:=prs.flatMap (ledS w)) no (fun x hx=>by
  obtain⟨p,_,hx⟩:=List.mem_flatMap.mp hx
  obtain⟨c,_,rfl⟩:=List.mem_map.mp hx
  show (lsS p.1.x p.2.2 c).length=1
  unfold lsS Drw.ls
  split
  .decide +kernel
  .split<;>decide +kernel)
 intro c s e
 refine xbk (P:=fun s=>s.length=1) (L:=ptsS ps) (fun c s e=>?_) (fun x hx=>by
  obtain⟨z,hz,rfl⟩:=List.mem_map.mp hx
  exact nl _ (h1 z hz)) c s e
 cases e1:Drw.sets (Drw.sets Drw.no (xbl w ss)) (xbd w prs) c with
 | some y =>
  rw[e1] at e
  cases e
  exact n2 c _ e1
 | none =>
  rw[e1,Option.none_or] at e
  exact n3 c s e
def xpx (w:Nat) (G:List (List Nat)):Prop:=∀ es fs:List Sg,es.Perm (inns w G)->fs.Perm (outs w G)->∀ s∈sgs G,cd (xek w (es.map (toPt G.length)) (srtS w G) (fs.map (toPr w G))) ((s.2.1:Int),1+(s.1:Int))=s.2.2
structure xc6 (t:Adr) (H:Hp) (q b dp do_ lp:Addr) (ts:List Addr) (w:Nat) (G:List (List Nat)) (es fs:List Sg):Prop where
 pe:es.Perm (inns w G)
 le:es.Pairwise nmLt
 pf:fs.Perm (outs w G)
 lf:fs.Pairwise nmLt
 q:H q=some (.tup [.ref b,.ref lp])
 dr:Dr t H b dp do_ w G.length (es.map (toPt G.length)) (rimS w G) (srtS w G)
 lp:H lp=some (.lst (ts.map V.ref))
 pr:PrsL H (fs.map (toPr w G)) ts
def xrx (t:Adr):Sp:=fun vs H Q _=>∃(l:Addr) (w:Nat) (G:List (List Nat)),vs=[.ref l]/\H l=some (.lst (GV G))/\xdt w G/\xpx w G /\
 ∀(H':Hp) (q b dp do_ lp:Addr) (ts:List Addr) (es fs:List Sg),Same H H'->H q=none->H b=none->H lp=none->H dp=none->xc6 t H' q b dp do_ lp ts w G es fs->Q (.ref q) H'
theorem PrsL.pick {H:Hp}:∀{ps:List Pr}{ys:List V},ys.length=ps.length->(∀(j:Nat) (y:V) (p:Pr),ys[j]?=some y->ps[j]?=some p->∃ q,y=.ref q/\H q=some (.tup (prV p)))->∃ rs:List Addr,ys=rs.map V.ref/\PrsL H ps rs
 | [],[],_,_=>⟨[],rfl,.nil⟩
 | [],_::_,h,_=>by cases h
 | _::_,[],h,_=>by cases h
 | s::ss,y::ys,h,k=>by
  obtain⟨q,e,hq⟩:=k 0 y s rfl rfl
  obtain⟨rs,e2,r⟩:=PrsL.pick (ps:=ss) (ys:=ys) (by simpa using h) fun j y s h1 h2=>k (j+1) y s (by simpa using h1) (by simpa using h2)
  exact⟨q::rs,by rw[e,e2]; rfl,.cons hq r⟩
section
variable {P:Program}{w:World}{K:PySem.W.Frag}{mg:Str->Option Value}{base:Heap}{t:Adr}
theorem xk9 (T:Txt w K mg t):FnOk true P w K mg base (CXo P w) 9 t.f_seen t.d_seen ["rows"] (xrx t):=by
 refine T.F_seen.okn (k:=8) xcz (fun vs H Q E h=>?_) (fun cdv A outer s H vs Q E hr h=>?_)
 .obtain ⟨l,w',G,rfl,_⟩:=h
  rfl
 .obtain ⟨l,w',G,rfl,h⟩:=h
  refine⟨_,xk (xaw (xt (ok_ag T) (hr.mono (by decide)) rfl T.g_ag T.F_ag.kp T.b_ag .nil xj (xa (pv 0) (xb))))
   (xk (x8 (i:=1) xcz.nd rfl (Or.inr rfl) (xf2 T.k_ao (ok_af T) (hr.mono (by decide)) rfl T.g_ao T.b_af .nil xj (xa (xx xfr (x6 xb0 rfl T.n_len boot_len (xa (xay xdw (pv 0) (xn) (fun _ _=>rfl)) (xb))) (xn)) (xb))))
   (xk (xa4 PassesOwn.never rfl (xar (xt (ok_av T) (hr.mono (by decide)) rfl T.g_av T.F_av.kp T.b_av .nil xj (xa (pv 0) (xb)))) (xat rfl (xq (xo (i:=2) xcz.nd rfl (Or.inl rfl)) (xq (xo (i:=3) xcz.nd rfl (Or.inl rfl)) (xq (xo (i:=4) xcz.nd rfl (Or.inl rfl)) (xak))))) (xm (xaw (xa0 (pv 1) T.c_ao T.m_aa (ok_aa T) (hr.mono (by decide)) T.b_aa .nil xj (xa (pv 2) (xa (pv 3) (xa (pv 4) (xb))))))))
   (xk (xkz (xa4 PassesOwn.never rfl (xgx (xae (pv 1) rfl)) (xat rfl (xq (xo (i:=5) xcz.nd rfl (Or.inl rfl)) (xq (xo (i:=6) xcz.nd rfl (Or.inl rfl)) (xak)))) (xm (xao (xd6 (xec (xbc hr) (pv 5) (xae (pv 1) rfl))) (xm (xa3)) (x9)))))
   (xk (x8 (i:=7) xcz.nd rfl (Or.inl rfl) (xt (ok_z T) (hr.mono (by decide)) rfl T.g_z T.F_z.kp T.b_z .nil xj (xa (pv 0) (xa (pv 1) (xb)))))
   (xk (xce rfl (xa1 (zs:=["name"]) (ys:=["letters"]) (fr:=[1]) (N0:=["rows", "letters", "row", "column", "sign", "name", "place", "picture", "pairs"]) (sc0:=xh xdn) (by decide +kernel) rfl rfl rfl) (xar (x6 (xfk rfl) rfl T.n_sorted PyProof.Rows.Boot.«sorted» (xa (xae (pv 1) rfl) (xb)))) (fun _ _ _ _ _ ow nd=>xo (i:=0) nd rfl (Or.inl (ow _ (by simp))) (Or.inr (ow _ (by simp)))) (xbe (by decide)) (fun _ _ _ _ _=>xbi) (fun _ _ _ _ _=>xx (r:=xmf K) xli (xab (xa (pv 0) (xb))) (xt (ok_a1 T) (hr.mono (by decide)) rfl T.g_a1 T.F_a1.kp T.b_a1 .nil xj (xa (xev (xbc hr) ((xae (pv 1) rfl:PE _ _ (tFld K _ _))) (pv 0) (fun _ _=>rfl)) (xb)))) (j:=8) rfl (Or.inl rfl))
   (xk (xaw (xt (ok_t T) (hr.mono (by decide)) rfl T.g_t T.F_t.kp T.b_t .nil xj (xa (pv 0) (xa (xt (xo6 T) (hr.mono (by decide)) rfl T.g_drawn T.F_drawn.kp T.b_drawn .nil xj (xa (pv 7) (xa (pv 8) (xb)))) (xb)))))
   (xm (x0 (xab (xa (pv 7) (xa (pv 8) (xb)))))))))))),?_⟩
  obtain⟨hl,g,sees,q⟩:=h
  have tx:=g.tx
  have h1:=tx.h1
  have h2:=tx.h2
  have w1:=tx.w1
  have w2:=tx.w2
  have gl:=xhi G
  obtain⟨r0,hr0⟩:∃ r,G[0]?=some r:=⟨_,List.getElem?_eq_getElem h1⟩
  have l0:=tx.wd r0 (List.mem_of_getElem? hr0)
  refine⟨_,rfl,l,w'+2,G,rfl,hl,tx,fun H1 s1=>?_⟩
  have hl1:=s1 _ _ hl
  refine⟨_,rfl,l,_,0,.str (ofL r0),rfl,rfl,SqL.of hl1,?_,_,rfl,?_,_,_,rfl,rfl,fun a dx ha hdx ne=>?_⟩
  .show atI (GV G) ((0:Nat):Int)=_
   exact xdx (xi4 hr0)
  .rw [xck,l0]
   exact Nat.le_trans (by omega:_<=1000) (by decide)
  refine⟨a,dx,w'+1,?_,xf,fun H2 o i ho hi k2 lt2=>⟨rfl,?_⟩⟩
  .show [V.ref a,V.int (((ofL r0).length:Int)-1)]=[V.ref a,V.int ((w'+1:Nat):Int)]
   rw[xck,l0,show ((w'+2:Nat):Int)-1=((w'+1:Nat):Int) by omega]
  have up:∀ b,upd (upd H1 dx (.own a)) a (.ins t.C_ao dx []) b=none->H b=none:=fun b z=>by
   cases e:H b with
   | none=>rfl
   | some u =>
    have e1:=s1 _ _ e
    rw[xg (xi e1 ha),xg (xi e1 hdx),e1] at z
    cases z
  have fo:=up _ ho
  have fi:=up _ hi
  have s2:Same H H2:=fun b u e=>by
   have e1:=s1 _ _ e
   exact k2 b u (xi e1 ha) (by rw[xg (xi e1 ha),xg (xi e1 hdx)]; exact e1)
  refine⟨_,rfl,l,w'+2,G,rfl,s2 _ _ hl,tx,fun H3 l3 qs s3 f3 e3 tl3=>⟨l3,rfl,⟨_,SqL.of e3⟩,?_⟩⟩
  have qll:=tl3.1
  have gll:(sgs G).length<=512:=by
   have e:=xe5 tx G.length (Nat.le_refl _)
   have b512:G.length*(w'+2)<=16*32:=Nat.mul_le_mul h2 w2
   unfold sgs
   omega
  have f3H:=s2.free f3
  refine xa6 (xs:=qs.map V.ref) (Pv:=fun k σ H5=>∃(v2 v3 v4:Option V),σ=[some (.ref l),some (.ref a),v2,v3,v4,none,none,none,none]/\Same H H5/\Let t H5 a o i (w'+1) (((sgs G).take k).filter (outP (w'+1))) (((sgs G).take k).filter (innP (w'+1)))/\H5 l3=some (.lst (qs.map V.ref))/\TL sgV H5 (sgs G) qs) ⟨_,_,_,rfl,s2.trans s3,lt2.same s3,e3,tl3⟩ ?_ ?_ ?_
  .rintro k σ H5 _ ⟨_,_,_,rfl,_,_,e5,_⟩
   exact SqL.of e5
  .rintro k x σ H5 hx ⟨v2,v3,v4,rfl,s5,lt5,e5,tl5⟩
   rw[List.getElem?_map,Option.map_eq_some_iff] at hx
   obtain⟨qa,hqa,rfl⟩:=hx
   obtain⟨s,hs,hq⟩:=tl5.get hqa
   obtain⟨⟨dx5,ins5⟩,⟨ko,hko,_⟩,⟨ki,hki,_⟩,_⟩:=id lt5
   refine⟨qa,_,rfl,SqT.of hq,rfl,_,_,rfl,_,_,rfl,_,_,rfl,rfl,?_⟩
   have lf:∀ p:Sg->Bool,(((sgs G).take k).filter p).length<=600:=fun p=>by
    refine Nat.le_trans (List.length_filter_le _ _) ?_
    rw[List.length_take]
    omega
   refine⟨_,rfl,a,dx5,_,rfl,ins5,xfu (by decide +kernel),_,rfl,_,rfl,_,rfl,a,o,i,w'+1,_,_,s,rfl,lt5,lf _,lf _,xqk g hs,fun H6 k6 lt6=>?_⟩
   have tp:Tups H5 H6:=fun c xs e=>k6 _ _ (x5 e hko (fun z=>nomatch z)) (x5 e hki (fun z=>nomatch z)) e
   refine⟨_,_,_,rfl,fun b u e=>k6 _ _ (xi e fo) (xi e fi) (s5 _ _ e),?_,k6 _ _ (x5 e5 hko (fun z=>nomatch z)) (x5 e5 hki (fun z=>nomatch z)) e5,tl5.keep tp⟩
   rw[xib hs,xib hs]
   exact lt6
  rintro σ H5 ⟨v2,v3,v4,rfl,s5,lt5,_,_⟩
  rw[List.length_map,qll,List.take_length] at lt5
  have lt5:Let t H5 a o i (w'+1) (outs w' G) (inns w' G):=lt5
  obtain⟨⟨dx5,ins5⟩,⟨ko,hko,ldo⟩,⟨ki,hki,ldi⟩,noi⟩:=id lt5
  refine⟨_,rfl,a,_,dx5,_,_,rfl,ins5,T.c_ao,T.n_a9,ltO,o,ko,rfl,hko,fun ob nf=>?_⟩
  refine xmu (Pv:=fun k σ H6=>∃(v5 v6:Option V),σ=[some (.ref l),some (.ref a),v2,v3,v4,v5,v6,none,none]/\H6 o=some (.frz ob (.dK ko))/\∀ b u,b≠o->H5 b=some u->H6 b=some u) ⟨_,_,rfl,xf,fun b u nb e=>by rw[xg nb]; exact e⟩ ?_ ?_ ?_
  .rintro k σ H6 _ ⟨_,_,rfl,e6,_⟩
   exact e6
  .rintro n k x p σ H6 hx hp ⟨v5,v6,rfl,e6,k6⟩
   obtain⟨s,qa,hs,rfl,rfl,hqa⟩:=ldo.get hx
   have k7:∀ b u,b≠o->H5 b=some u->upd H6 p (.tup [kV (.inr (ofL [s.2.2])),.ref qa]) b=some u:=fun b u nb e=>by
    have e':=k6 _ _ nb e
    rw[xg (xi e' hp)]
    exact e'
   have e7:upd H6 p (.tup [kV (.inr (ofL [s.2.2])),.ref qa]) o=some (.frz ob (.dK ko)):=by
    rw[xg (xi e6 hp)]
    exact e6
   refine⟨p,_,rfl,SqT.of xf,rfl,_,_,rfl,_,_,rfl,rfl,?_⟩
   refine⟨_,rfl,_,rfl,a,_,dx5,_,_,rfl,k7 _ _ (x5 ins5 hko (fun z=>nomatch z)) ins5,T.c_ao,T.n_a7,ltI,i,_,rfl,DGet.k (k:=.inr (ofL [s.2.2])) (k7 _ _ (Ne.symm noi) hki),_,rfl,ifN ?_ ⟨_,_,rfl,e7,k7⟩⟩
   rw[ldi.is,decide_eq_true (g.ou2 s (List.mem_of_getElem? hs))]
   rfl
  rintro σ H6 ⟨v5,v6,rfl,e6,k6⟩
  refine⟨o,ob,.dK ko,e6,nf,?_⟩
  have s7:Same H5 (upd H6 o (.dK ko)):=fun b u e=>by
   by_cases z:b=o
   .subst z
    rw[xf,<- e,hko]
   .rw [xg z]
    exact k6 _ _ z e
  revert s7
  generalize upd H6 o (.dK ko)=H7
  intro s7
  clear e6 k6
  have s07:=s5.trans s7
  have lt7:=lt5.same s7
  refine⟨_,rfl,_,rfl,l,a,o,i,w',G,rfl,s07 _ _ hl,lt7,g,fun H8 b dp do_ es s8 fb fdp pe le pic8 st8=>?_⟩
  have s08:=s07.trans s8
  have lt8:=lt7.same s8
  obtain⟨⟨dx8,ins8⟩,⟨ko8,hko8,ldo8⟩,_⟩:=id lt8
  have pok:=xfo g pe
  have dr8:Dr t H8 b dp do_ w' G.length (es.map (toPt G.length)) (rimS w' G) (srtS w' G):=⟨pic8,st8,xlz g,xjj w' G,xsb w' G,fun p hp=>(pok.ok p hp).nm⟩
  have ol:(outs w' G).length<=12:=by
   have z:=(xma g pe (.refl _)).len
   rw[List.length_map] at z
   exact z
  refine⟨_,rfl,a,_,dx8,_,_,rfl,ins8,T.c_ao,T.n_a9,ltO,o,(outs w' G).map (fun s=>ofL [s.2.2]),rfl,.inr ⟨ko8,hko8,ldo8.keys⟩,(by rw[List.length_map]; omega),fun ls ns hls pm srt=>?_⟩
  obtain⟨fs,pf,rfl⟩:=xfe pm rfl
  have ndf:=(pf.map fun s=>s.2.2).nodup_iff.mpr g.ou1
  have lf:=xg4 srt ndf
  have fl:=pf.length_eq
  have s9:Same H8 (upd H8 ls (.lst ((fs.map fun s=>ofL [s.2.2]).map V.str))):=xp (Same.refl _) hls
  have g9:upd H8 ls (.lst ((fs.map fun s=>ofL [s.2.2]).map V.str)) ls=some (.lst ((fs.map fun s=>ofL [s.2.2]).map V.str)):=xf
  revert s9 g9
  generalize upd H8 ls (.lst ((fs.map fun s=>ofL [s.2.2]).map V.str))=H9
  intro s9 g9
  refine⟨ls,rfl,⟨_,SqL.of g9⟩,fun l10 hl10=>?_⟩
  refine xdl (SqL.of g9) (by rw[List.length_map,List.length_map]; exact Nat.lt_of_le_of_lt (by omega:_<=1000) (by decide)) hl10 (fun j y H5=>∃ q s,y=.ref q/\fs[j]?=some s/\H5 q=some (.tup (prV (toPr w' G s)))) (fun j y H5 H6 tp ⟨q,s,e1,e2,e3⟩=>⟨q,s,e1,e2,tp _ _ e3⟩) (fun j x H10 hx s10 N hN=>?_) (fun ys H10 s10 e10 ly fy=>?_)
  .rw [List.getElem?_map,List.getElem?_map] at hx
   obtain⟨x2,hx2,rfl⟩:=Option.map_eq_some_iff.mp hx
   obtain⟨s,hs,rfl⟩:=Option.map_eq_some_iff.mp hx2
   have ms:=pf.mem_iff.mp (List.mem_of_getElem? hs)
   obtain⟨qa,hv,hq⟩:=(ldo8.keep (Same.tups (s9.trans s10))).at_ ms g.ou1
   have ins10:=(s9.trans s10) _ _ ins8
   have hko10:=(s9.trans s10) _ _ hko8
   refine⟨_,rfl,(by show 1<=sizeLine; decide),fun p1 hp1=>?_⟩
   have s11:Same H10 (upd H10 p1 (.tup [.str (ofL [s.2.2])])):=xp (Same.refl _) hp1
   have g11:upd H10 p1 (.tup [.str (ofL [s.2.2])]) p1=some (.tup [.str (ofL [s.2.2])]):=xf
   revert s11 g11
   generalize upd H10 p1 (.tup [.str (ofL [s.2.2])])=H11
   intro s11 g11
   have dg:=DGet.k (k:=.inr (ofL [s.2.2])) (s11 _ _ hko10)
   rw[hv] at dg
   refine⟨_,rfl,a,_,dx8,_,_,rfl,s11 _ _ ins10,T.c_ao,T.n_a9,ltO,_,rfl,o,_,rfl,dg,qa,s.1,s.2.1,rfl,s11 _ _ hq,fun H12 q12 s12 f12 e12=>?_⟩
   refine⟨p1,q12,_,_,rfl,rfl,SqT.of (s12 _ _ g11),SqT.of e12,(by simp),(by show 1+2<=sizeLine; decide),(fun z=>nomatch z),fun _ p2 hp2=>hN _ _ (fun b u e=>xp (Same.refl _) hp2 _ _ (s12 _ _ (s11 _ _ e))) ⟨p2,s,rfl,hs,?_⟩⟩
   obtain⟨_,_,_,z,_,ez,et⟩:=xdy g ms
   rw[xf,et]
   show some (HO.tup ([V.str (ofL [s.2.2])]++xcc (xam s)))=some (HO.tup (.str (ofL [z.2.2])::xcc (xam s)))
   rw[ez]
   rfl
  rw[List.length_map,List.length_map] at ly
  obtain⟨ts,rfl,prl⟩:=PrsL.pick (H:=H10) (ps:=fs.map (toPr w' G)) (ys:=ys) (by rw[ly,List.length_map]) (fun j y p hy hp=>by
   obtain⟨q,s,e1,e2,e3⟩:=fy j y hy
   rw[List.getElem?_map,e2] at hp
   cases hp
   exact⟨q,e1,e3⟩)
  have s810:=s9.trans s10
  have dr10:=dr8.same s810
  have pal:=xma g pe pf
  refine⟨_,rfl,_,rfl,_,rfl,b,l10,dp,do_,w',G.length,es.map (toPt G.length),rimS w' G,srtS w' G,fs.map (toPr w' G),ts,rfl,dr10,e10,prl,pal.ok,pal.len,fun H11 ld s11 fld e11=>?_⟩
  refine⟨l,ld,w',G,_,rfl,s11 _ _ (s810 _ _ (s08 _ _ hl)),tx,e11,xo5 (fun p hp=>(pok.ok p hp).nm) (fun p hp=>(pal.ok p hp).nm),sees es fs pe pf,fun H12 s12=>?_⟩
  refine⟨_,rfl,_,rfl,(by show 2<=sizeLine; decide),fun qt hqt=>?_⟩
  have s812:=(s810.trans s11).trans s12
  have s012:=s08.trans s812
  have s13:Same H12 (upd H12 qt (.tup [.ref b,.ref l10])):=xp (Same.refl _) hqt
  have g13:upd H12 qt (.tup [.ref b,.ref l10]) qt=some (.tup [.ref b,.ref l10]):=xf
  revert s13 g13
  generalize upd H12 qt (.tup [.ref b,.ref l10])=H13
  intro s13 g13
  have s1013:=(s11.trans s12).trans s13
  exact q H13 qt b dp do_ l10 ts es fs (s012.trans s13) (s012.free hqt) (s07.free fb) (s08.free (s9.free hl10)) (s07.free fdp) ⟨pe,le,pf,lf,g13,dr10.same s1013,s1013 _ _ e10,prl.keep (Same.tups s1013)⟩
end
def xan (s:Str):Nat:=s.cps.toList.headD 32
theorem xod {s:Str} (h:s.length=1):s=ofL [xan s]:=by
 apply xex
 unfold xan
 rw[xbf]
 have l2:s.cps.toList.length=1:=by simpa [Str.length] using h
 cases e:s.cps.toList with
 | nil=>rw[e] at l2; cases l2
 | cons x r =>
  rw[e] at l2
  have:r=[]:=by simpa using l2
  rw[this]
  rfl
theorem xbz {s:Str} (h:isNm s=true):s=ofL [xan s]/\nmC (xan s)=true:=by
 have l:s.length=1:=by
  have h2:=h
  unfold isNm at h2
  exact of_decide_eq_true (Bool.and_eq_true _ _▸h2).1
 have e:=xod l
 refine⟨e,?_⟩
 rw[<- xg5,<- e]
 exact h
theorem xe7 (c:Nat):xan (ofL [c])=c:=by
 unfold xan
 rw[xbf]
 rfl
theorem xez {s t:Str} (hs:isNm s=true) (ht:isNm t=true) (e:xan s=xan t):s=t:=by
 rw[(xbz hs).1,(xbz ht).1,e]
theorem xil {P:Str->Prop}{w:Int}{ps:List Pt}{ss:List Seat}{prs:List Pr} (k:P (Str.ofString "#")/\P (Str.ofString ".")/\P (Str.ofString "|")/\P (Str.ofString "+")/\P (Str.ofString "-")) (kn:∀ s,isNm s=true->P s) (h1:∀ p∈ps,isNm p.nm=true) (h2:∀ p∈prs,isNm p.1.nm=true):∀ c s,xah w ps ss prs c=some s->P s:=by
 have no:∀(c:Cl) (s:Str),(Drw.no:Cl->Option Str) c=some s->P s:=fun _ _ e=>nomatch e
 have n3:=xcu (P:=P) (hs:=hsS) k.1 (L:=prs.flatMap (xau w)) no (fun x hx=>by
  obtain⟨p,_,hx⟩:=List.mem_flatMap.mp hx
  unfold xau Drw.ledL at hx
  rcases List.mem_append.mp hx with hx|hx
  .rcases List.mem_append.mp hx with hx|hx
   .obtain ⟨c,_,rfl⟩:=List.mem_map.mp hx
    exact k.2.2.1
   .split at hx
    .rw [List.mem_singleton.mp hx]
     exact k.2.2.2.1
    .exact nomatch hx
  .obtain ⟨c,_,rfl⟩:=List.mem_map.mp hx
   exact k.2.2.2.2)
 have n4:=xbk (P:=P) (L:=ptsS ps) n3 (fun x hx=>by
  obtain⟨z,hz,rfl⟩:=List.mem_map.mp hx
  exact kn _ (h1 z hz))
 have n5:=xbk (P:=P) (L:=xbl w ss) n4 (fun x hx=>by
  obtain⟨z,_,rfl⟩:=List.mem_map.mp hx
  exact k.2.1)
 exact xbk (P:=P) (L:=xbd w prs) n5 (fun x hx=>by
  obtain⟨z,hz,rfl⟩:=List.mem_map.mp hx
  exact kn _ (h2 z hz))
structure Pict (w h:Nat) (ps:List Pt) (ss:List Seat) (prs:List Pr):Prop where
 w1:1<=w
 w2:w<=30
 h1:1<=h
 h2:h<=16
 pok:xdg (w:Int) (h:Int) ps
 sok:SsOk (h:Int) ss
 pal:xfg (w:Int) (h:Int) ps prs
section
variable {w h:Nat}{ps:List Pt}{ss:List Seat}{prs:List Pr}
theorem Pict.nms (o:Pict w h ps ss prs):∀ p∈ps,isNm p.nm=true:=fun p hp=>(o.pok.ok p hp).nm
theorem Pict.nmr (o:Pict w h ps ss prs):∀ p∈prs,isNm p.1.nm=true:=fun p hp=>(o.pal.ok p hp).nm
theorem Pict.one (o:Pict w h ps ss prs):One (xah w ps ss prs):=xil (P:=fun s=>s.length=1) (by decide +kernel) (fun s hs=>by
    unfold isNm at hs
    exact of_decide_eq_true (Bool.and_eq_true _ _▸hs).1) o.nms o.nmr
theorem xnw {c:Nat} (h:nmC c=true):97<=c/\c<=122:=by
 unfold nmC at h
 simpa using h
theorem Pict.asc (o:Pict w h ps ss prs) (c:Cl):cd (xah w ps ss prs) c<128:=by
 have kn:∀ s,isNm s=true->xan s<128:=fun s hs=>by
  have:=xnw (xbz hs).2
  omega
 have all:=xil (P:=fun s=>xan s<128) (w:=w) (ss:=ss) (by decide +kernel) kn o.nms o.nmr
 unfold cd
 cases e:xah w ps ss prs c with
 | none =>
  show 32<128
  decide
 | some s=>exact all c s e
theorem xop (w1:1<=w) (nd:(prs.map (·.2)).Nodup):((xbd w prs).map (·.1)).Nodup:=by
 unfold xbd
 rw[List.map_map]
 rw[List.Nodup,List.pairwise_map] at nd ⊢
 exact nd.imp fun ne e=>ne (xb5 w1 e)
theorem xp7 (w1:1<=w) (nd:ss.Nodup):((xbl w ss).map (·.1)).Nodup:=by
 unfold xbl
 rw[List.map_map]
 exact Drw.nd_map (fun a b e=>xb5 w1 e) nd
theorem xsq (nx:(ps.map (·.x)).Nodup):((ptsS ps).map (·.1)).Nodup:=by
 unfold ptsS
 rw[List.map_map]
 rw[List.Nodup,List.pairwise_map] at nx ⊢
 exact nx.imp fun ne e=>ne (Prod.mk.inj e).1
theorem xgr {c:Cl} (n:∀ p∈prs,rimC w p.2≠c):c∉(xbd w prs).map (·.1):=fun z=>by
 unfold xbd at z
 rw[List.map_map] at z
 obtain⟨p,hp,e⟩:=List.mem_map.mp z
 exact n p hp e
theorem xlg {c:Cl} (n:∀ s∈ss,rimC w s≠c):c∉(xbl w ss).map (·.1):=fun z=>by
 unfold xbl at z
 rw[List.map_map] at z
 obtain⟨p,hp,e⟩:=List.mem_map.mp z
 exact n p hp e
theorem xrs {c:Cl} (n:∀ p∈ps,(p.x,p.y)≠c):c∉(ptsS ps).map (·.1):=fun z=>by
 unfold ptsS at z
 rw[List.map_map] at z
 obtain⟨p,hp,e⟩:=List.mem_map.mp z
 exact n p hp e
theorem Pict.name (o:Pict w h ps ss prs) {p:Pr} (hp:p∈prs):xah w ps ss prs (rimC w p.2)=some p.1.nm:=Drw.sets_one (xop o.w1 o.pal.nd) (List.mem_map.mpr ⟨p,hp,rfl⟩)
theorem Pict.dot (o:Pict w h ps ss prs) {s:Seat} (hs:s∈ss) (no:∀ p∈prs,p.2≠s):xah w ps ss prs (rimC w s)=some (Str.ofString "."):=by
 unfold xah Drw.drawL
 rw[Drw.sets_no (xgr fun p hp e=>no p hp (xb5 o.w1 e))]
 exact Drw.sets_one (xp7 o.w1 o.sok.1) (List.mem_map.mpr ⟨s,hs,rfl⟩)
theorem xcs (w:Nat) (s:Seat) {x:Int} (h1:1<=x) (h2:x<=w) (y:Int):rimC w s≠(x,y):=fun e=>by
 have:=xdi w s
 rw[e] at this
 dsimp only at this
 omega
theorem Pict.pt (o:Pict w h ps ss prs) {p:Pt} (hp:p∈ps):xah w ps ss prs (p.x,p.y)=some p.nm:=by
 have k:=o.pok.ok p hp
 unfold xah Drw.drawL
 rw[Drw.sets_no (xgr fun q _=>xcs w q.2 k.x1 k.x2 _),Drw.sets_no (xlg fun s _=>xcs w s k.x1 k.x2 _)]
 exact Drw.sets_one (xsq o.pok.nx) (List.mem_map.mpr ⟨p,hp,rfl⟩)
theorem xem {c:Cl} (n1:∀ p∈prs,rimC w p.2≠c) (n2:∀ s∈ss,rimC w s≠c) (n3:∀ p∈ps,(p.x,p.y)≠c):xah w ps ss prs c=Drw.marks hsS Drw.no (prs.flatMap (xau w)) c:=by
 unfold xah Drw.drawL
 rw[Drw.sets_no (xgr n1),Drw.sets_no (xlg n2),Drw.sets_no (xrs n3)]
theorem xoz {p:Pr} (x1:1<=p.1.x) (x2:p.1.x<=w) {c:Cl} (h:c∈(xau w p).map (·.1)):1<=c.1/\c.1<=w:=by
 unfold xau at h
 rw[Drw.ledL_keys] at h
 have rb:Drw.rim w p.2.1=0\/Drw.rim w p.2.1=(w:Int)+1:=by
  unfold Drw.rim
  split
  .exact .inl rfl
  .exact .inr rfl
 rcases List.mem_append.mp h with h|h
 .rcases List.mem_append.mp h with h|h
  .obtain ⟨a,_,rfl⟩:=List.mem_map.mp h
   exact⟨x1,x2⟩
  .split at h
   .rw [List.mem_singleton.mp h]
    exact⟨x1,x2⟩
   .exact nomatch h
 .obtain ⟨a,ha,rfl⟩:=List.mem_map.mp h
  rw[Drw.mem_rg] at ha
  exact⟨by dsimp only; omega,by dsimp only; omega⟩
theorem Pict.off (o:Pict w h ps ss prs) {c:Cl} (hc:c.1=0\/c.1=(w:Int)+1) (n1:∀ p∈prs,rimC w p.2≠c) (n2:∀ s∈ss,rimC w s≠c):xah w ps ss prs c=none:=by
 rw[xem n1 n2 (fun p hp e=>by
  have k:=o.pok.ok p hp
  have e1:p.x=c.1:=by rw[<- e]
  have k1:=k.x1
  have k2:=k.x2
  omega),Drw.marks_at,Drw.at_no]
 .rfl
 .intro z
  obtain⟨x,hx,rfl⟩:=List.mem_map.mp z
  obtain⟨p,hp,hx⟩:=List.mem_flatMap.mp hx
  have k:=(o.pal.ok p hp).xy
  have:=xoz k.1 k.2.1 (List.mem_map.mpr ⟨x,hx,rfl⟩)
  omega
theorem xlv (c:Cl):Drw.marks hsS Drw.no (prs.flatMap (xau w)) c=none\/∃ s,Drw.marks hsS Drw.no (prs.flatMap (xau w)) c=some s/\xan s∈([32,124,45,43,35]:List Nat):=by
 have no:∀(c:Cl) (s:Str),(Drw.no:Cl->Option Str) c=some s->xan s∈([32,124,45,43,35]:List Nat):=fun _ _ e=>nomatch e
 cases e:Drw.marks hsS Drw.no (prs.flatMap (xau w)) c with
 | none=>exact .inl rfl
 | some s =>
  refine .inr ⟨s,rfl,xcu (P:=fun s=>xan s∈([32,124,45,43,35]:List Nat)) (hs:=hsS) (by unfold hsS; decide +kernel) (L:=prs.flatMap (xau w)) no (fun x hx=>?_) c s e⟩
  obtain⟨p,_,hx⟩:=List.mem_flatMap.mp hx
  unfold xau Drw.ledL at hx
  rcases List.mem_append.mp hx with hx|hx
  .rcases List.mem_append.mp hx with hx|hx
   .obtain ⟨c,_,rfl⟩:=List.mem_map.mp hx
    show xan (Str.ofString "|")∈_
    decide +kernel
   .split at hx
    .rw [List.mem_singleton.mp hx]
     show xan (Str.ofString "+")∈_
     decide +kernel
    .exact nomatch hx
  .obtain ⟨c,_,rfl⟩:=List.mem_map.mp hx
   show xan (Str.ofString "-")∈_
   decide +kernel
theorem xcy {m:Cl->Option Str}{c:Cl}{s:Str} (h:m c=some s):cd m c=xan s:=by
 unfold cd xan
 rw[h]
theorem xk4 {m:Cl->Option Str}{c:Cl} (h:m c=none):cd m c=32:=by
 unfold cd
 rw[h]
theorem Pict.inner (o:Pict w h ps ss prs) {c:Cl} (c1:1<=c.1) (c2:c.1<=w) (n3:∀ p∈ps,(p.x,p.y)≠c):cd (xah w ps ss prs) c∈([32,124,45,43,35]:List Nat):=by
 have e:=xem (w:=w) (ss:=ss) (prs:=prs) (fun p _=>xcs w p.2 c1 c2 c.2) (fun s _=>xcs w s c1 c2 c.2) n3
 rcases xlv (w:=w) (prs:=prs) c with z|⟨s,z,k⟩
 .rw [z] at e
  rw[xk4 e]
  decide
 .rw [z] at e
  rw[xcy e]
  exact k
abbrev xag (w h:Nat) (ps:List Pt) (ss:List Seat) (prs:List Pr):List (List Nat):=xds w h (xah w ps ss prs)
theorem xcq (w h:Nat) (m:Cl->Option Str):(xds w h m).length=h:=by
 unfold xds
 rw[List.length_map,List.length_range]
theorem Pict.tx (o:Pict w h ps ss prs):Txs (w+2) (xag w h ps ss prs):=by
 have h1:=o.h1
 have h2:=o.h2
 have w1:=o.w1
 have w2:=o.w2
 refine⟨by rw[xcq]; exact h1,by rw[xcq]; exact h2,fun r hr=>?_,fun r hr c hc=>?_,by omega,by omega⟩
 .obtain ⟨i,_,rfl⟩:=List.mem_map.mp hr
  unfold rowC
  rw[List.length_map,List.length_range]
 .obtain ⟨i,_,rfl⟩:=List.mem_map.mp hr
  obtain⟨j,_,rfl⟩:=List.mem_map.mp hc
  exact o.asc _
theorem xdb {m:Cl->Option Str}{s:Sg}:s∈sgs (xds w h m)↔s.1<h/\s.2.1<w+2/\s.2.2=cd m ((s.2.1:Int),1+(s.1:Int)):=by
 unfold sgs
 rw[xf1,xcq]
 have e:s.1<h->(xds w h m).getD s.1 []=rowC w (1+(s.1:Int)) m:=fun hs=>by
  unfold xds
  rw[List.getD_eq_getElem?_getD,List.getElem?_map,List.getElem?_range hs]
  rfl
 have l:∀ r,(rowC w r m).length=w+2:=fun r=>by
  unfold rowC
  rw[List.length_map,List.length_range]
 have v:∀ r (j:Nat),j<w+2->(rowC w r m).getD j 0=cd m ((j:Int),r):=fun r j hj=>by
  unfold rowC
  rw[List.getD_eq_getElem?_getD,List.getElem?_map,List.getElem?_range hj]
  rfl
 constructor
 .rintro ⟨a,b,c⟩
  rw[e a,l] at b
  rw[e a,v _ _ b] at c
  exact⟨a,b,c⟩
 .rintro ⟨a,b,c⟩
  rw[e a,l]
  exact⟨a,b,by rw[v _ _ b]; exact c⟩
def xca (p:Pt):Sg:=((p.y-1).toNat,p.x.toNat,xan p.nm)
def xb2 (w:Nat) (p:Pr):Sg:=((p.2.2-1).toNat,(Drw.rim w p.2.1).toNat,xan p.1.nm)
theorem xnc (G:List (List Nat)) (p:Sg->Bool):((sgs G).filter p).Nodup:=by
 have z:=(xfz G G.length).filter p
 exact z.imp fun ne e=>ne (by rw[e]; exact⟨rfl,rfl⟩)
theorem xjq {lc j:Nat} (h:¬ rimB lc j=true):j≠0/\j≠lc:=by
 unfold rimB at h
 simpa using h
theorem xo2 {c:Nat} (h:c∈([32,124,45,43,35]:List Nat)):nmC c=false:=by
 have h:c=32\/c=124\/c=45\/c=43\/c=35:=by simpa using h
 rcases h with rfl|rfl|rfl|rfl|rfl<;>rfl
theorem Pict.at_in (o:Pict w h ps ss prs) {s:Sg} (hs:s∈sgs (xag w h ps ss prs)) (nr:¬ rimB (w+1) s.2.1=true):(∃ p∈ps,xca p=s)\/s.2.2∈([32,124,45,43,35]:List Nat):=by
 obtain⟨g1,g2,g3⟩:=xdb.mp hs
 have nr:=xjq nr
 by_cases e:∃ p∈ps,(p.x,p.y)=((s.2.1:Int),1+(s.1:Int))
 .obtain ⟨p,hp,ep⟩:=e
  refine .inl ⟨p,hp,?_⟩
  have v:=xcy (o.pt hp)
  rw[ep,<- g3] at v
  have e1:=(Prod.mk.inj ep).1
  have e2:=(Prod.mk.inj ep).2
  obtain⟨a,b,c⟩:=s
  dsimp only at v e1 e2
  unfold xca
  rw[e1,e2,v,show (1+(a:Int)-1).toNat=a by omega,Int.toNat_natCast]
 .refine .inr ?_
  rw[g3]
  exact o.inner (by dsimp only; omega) (by dsimp only; omega) fun p hp z=>e ⟨p,hp,z⟩
theorem Pict.of_in (o:Pict w h ps ss prs) {p:Pt} (hp:p∈ps):xca p∈inns w (xag w h ps ss prs):=by
 have k:=o.pok.ok p hp
 have k1:=k.x1
 have k2:=k.x2
 have k3:=k.y1
 have k4:=k.y2
 have v:=xcy (o.pt hp)
 unfold inns
 rw[List.mem_filter]
 have ex:((xca p).2.1:Int)=p.x:=by show (p.x.toNat:Int)=p.x; omega
 have ey:1+((xca p).1:Int)=p.y:=by show 1+((p.y-1).toNat:Int)=p.y; omega
 refine⟨xdb.mpr ⟨by omega,by omega,by rw[ex,ey]; exact v.symm⟩,?_⟩
 have n:=(xbz k.nm).2
 have nr:rimB (w+1) (xca p).2.1=false:=by
  unfold rimB
  rw[decide_eq_false (by omega),decide_eq_false (by omega)]
  rfl
 unfold innP
 rw[nr,show (xca p).2.2=xan p.nm from rfl,n]
 rfl
theorem xno (pok:xdg (w:Int) (h:Int) ps):(ps.map xca).Pairwise InNe:=by
 rw[List.pairwise_map]
 have n1:=pok.nn
 have n2:=pok.nx
 have n3:=pok.ny
 rw[List.Nodup,List.pairwise_map] at n1 n2 n3
 refine List.Pairwise.imp_of_mem ?_ ((n1.and n2).and n3)
 intro a b ha hb ⟨⟨z1,z2⟩,z3⟩
 have ka:=pok.ok a ha
 have kb:=pok.ok b hb
 have a1:=ka.x1
 have a2:=ka.y1
 have b1:=kb.x1
 have b2:=kb.y1
 refine⟨fun e=>z1 (xez ka.nm kb.nm e),fun e=>z3 ?_,fun e=>z2 ?_⟩
 .have e:(a.y-1).toNat=(b.y-1).toNat:=e
  omega
 .have e:a.x.toNat=b.x.toNat:=e
  omega
theorem Pict.inn_pm (o:Pict w h ps ss prs):(inns w (xag w h ps ss prs)).Perm (ps.map xca):=by
 refine (List.perm_ext_iff_of_nodup (xnc _ _) ?_).mpr fun s=>⟨fun hs=>?_,fun hs=>?_⟩
 .exact (xno o.pok).imp fun z e=>z.1 (by rw[e])
 .obtain ⟨h1,h2⟩:=List.mem_filter.mp hs
  unfold innP at h2
  obtain⟨h3,h4⟩:=Bool.and_eq_true _ _▸h2
  rcases o.at_in h1 (by simpa using h3) with⟨p,hp,e⟩|z
  .exact List.mem_map.mpr ⟨p,hp,e⟩
  .rw [xo2 z] at h4
   cases h4
 .obtain ⟨p,hp,rfl⟩:=List.mem_map.mp hs
  exact o.of_in hp
theorem Pict.at_rim (o:Pict w h ps ss prs) {s:Sg} (hs:s∈sgs (xag w h ps ss prs)) (r:rimB (w+1) s.2.1=true):rimC w (xam s)=((s.2.1:Int),1+(s.1:Int))/\((∃ p∈prs,xb2 w p=s/\p.2=xam s)\/((∀ p∈prs,p.2≠xam s)/\xam s∈ss/\s.2.2=46)\/((∀ p∈prs,p.2≠xam s)/\xam s∉ss/\s.2.2=32)):=by
 obtain⟨g1,g2,g3⟩:=xdb.mp hs
 have w1:=o.w1
 have rc:rimC w (xam s)=((s.2.1:Int),1+(s.1:Int)):=by
  unfold rimC xam xfc Drw.rim
  rcases xes r with z|z
  .rw [z,decide_eq_true rfl,if_pos rfl]
   exact Prod.ext rfl (by dsimp only; omega)
  .rw [z,decide_eq_false (by omega),if_neg (by simp)]
   exact Prod.ext (by dsimp only; omega) (by dsimp only; omega)
 refine⟨rc,?_⟩
 by_cases e:∃ p∈prs,p.2=xam s
 .obtain ⟨p,hp,ep⟩:=e
  refine .inl ⟨p,hp,?_,ep⟩
  have v:=xcy (o.name hp)
  rw[ep,rc,<- g3] at v
  have e1:Drw.rim w p.2.1=(s.2.1:Int):=by
   rw[ep]
   exact congrArg Prod.fst rc
  have e2:p.2.2=(s.1:Int)+1:=by rw[ep]; rfl
  obtain⟨a,b,c⟩:=s
  dsimp only at v e1 e2
  unfold xb2
  rw[e1,e2,<- v,show ((a:Int)+1-1).toNat=a by omega,Int.toNat_natCast]
 .have n1:∀ p∈prs,p.2≠xam s:=fun p hp z=>e ⟨p,hp,z⟩
  by_cases d:xam s∈ss
  .refine .inr (.inl ⟨n1,d,?_⟩)
   have v:=xcy (o.dot d n1)
   rw[rc,<- g3] at v
   rw[v]
   decide +kernel
  .refine .inr (.inr ⟨n1,d,?_⟩)
   have v:=xk4 (o.off (c:=rimC w (xam s)) (xdi w _) (fun p hp z=>n1 p hp (xb5 w1 z)) (fun z hz y=>d (xb5 w1 y▸hz)))
   rw[rc,<- g3] at v
   exact v
theorem xju (w1:1<=w) {p:Pr} (r1:1<=p.2.2):xam (xb2 w p)=p.2:=by
 obtain⟨pt,b,r⟩:=p
 unfold xam xb2 xfc Drw.rim
 dsimp only at r1 ⊢
 refine Prod.ext ?_ (by dsimp only; omega)
 cases b
 .dsimp only
  rw[if_neg (by decide)]
  exact decide_eq_false (by omega)
 .rfl
theorem Pict.of_out (o:Pict w h ps ss prs) {p:Pr} (hp:p∈prs):xb2 w p∈outs w (xag w h ps ss prs):=by
 have k:=o.pal.ok p hp
 have k1:=k.r1
 have k2:=k.r2
 have w1:=o.w1
 have v:=xcy (o.name hp)
 have rb:Drw.rim w p.2.1=0\/Drw.rim w p.2.1=(w:Int)+1:=xdi w p.2
 unfold outs
 rw[List.mem_filter]
 have ex:((xb2 w p).2.1:Int)=Drw.rim w p.2.1:=by show ((Drw.rim w p.2.1).toNat:Int)=_; omega
 have ey:1+((xb2 w p).1:Int)=p.2.2:=by show 1+((p.2.2-1).toNat:Int)=p.2.2; omega
 refine⟨xdb.mpr ⟨by omega,by omega,by rw[ex,ey]; exact v.symm⟩,?_⟩
 have n:=(xbz k.nm).2
 have nr:rimB (w+1) (xb2 w p).2.1=true:=by
  unfold rimB
  rcases rb with z|z
  .rw [decide_eq_true (show (xb2 w p).2.1=0 by omega)]
   rfl
  .rw [decide_eq_true (show (xb2 w p).2.1=w+1 by omega),Bool.or_true]
 unfold outP
 rw[nr,show (xb2 w p).2.2=xan p.1.nm from rfl,n]
 rfl
theorem Pict.out_pm (o:Pict w h ps ss prs):(outs w (xag w h ps ss prs)).Perm (prs.map (xb2 w)):=by
 refine (List.perm_ext_iff_of_nodup (xnc _ _) ?_).mpr fun s=>⟨fun hs=>?_,fun hs=>?_⟩
 .have nd:=o.pal.nn
  rw[List.Nodup,List.pairwise_map] at nd
  rw[List.Nodup,List.pairwise_map]
  refine List.Pairwise.imp_of_mem ?_ nd
  intro a b ha hb z e
  exact z (xez (o.nmr a ha) (o.nmr b hb) (congrArg (fun s:Sg=>s.2.2) e))
 .obtain ⟨h1,h2⟩:=List.mem_filter.mp hs
  unfold outP at h2
  obtain⟨h3,h4⟩:=Bool.and_eq_true _ _▸h2
  rcases (o.at_rim h1 h3).2 with⟨p,hp,e,_⟩|⟨_,_,z⟩|⟨_,_,z⟩
  .exact List.mem_map.mpr ⟨p,hp,e⟩
  .rw [z] at h4
   cases h4
  .rw [z] at h4
   cases h4
 .obtain ⟨p,hp,rfl⟩:=List.mem_map.mp hs
  exact o.of_out hp
theorem PrOk.mem {w h:Int}{p:Pr} (k:PrOk ps w h p):p.1∈ps:=List.mem_of_find?_eq_some k.fd
theorem Pict.good (o:Pict w h ps ss prs):xdt w (xag w h ps ss prs):=by
 refine⟨o.tx,fun s hs n=>?_,?_,?_,?_,fun s hs=>?_⟩
 .by_cases r:rimB (w+1) s.2.1=true
  .rw [if_pos r]
   rcases (o.at_rim hs r).2 with⟨p,hp,e,_⟩|⟨_,_,z⟩|⟨_,_,z⟩
   .rw [<- e] at n
    have:=(xbz (o.nmr p hp)).2
    rw[show (xb2 w p).2.2=xan p.1.nm from rfl,this] at n
    cases n
   .exact .inr z
   .exact .inl z
  .rw [if_neg r]
   rcases o.at_in hs r with⟨p,hp,e⟩|z
   .rw [<- e] at n
    have:=(xbz (o.nms p hp)).2
    rw[show (xca p).2.2=xan p.nm from rfl,this] at n
    cases n
   .exact z
 .exact (List.Perm.pairwise_iff (fun {x y} z=>⟨Ne.symm z.1,Ne.symm z.2.1,Ne.symm z.2.2⟩) o.inn_pm).mpr (xno o.pok)
 .rw [o.inn_pm.length_eq,List.length_map]
  exact o.pok.le
 .refine (o.out_pm.map _).nodup_iff.mpr ?_
  rw[List.map_map]
  have nd:=o.pal.nn
  rw[List.Nodup,List.pairwise_map] at nd ⊢
  refine List.Pairwise.imp_of_mem ?_ nd
  intro a b ha hb z e
  exact z (xez (o.nmr a ha) (o.nmr b hb) e)
 .obtain ⟨p,hp,rfl⟩:=List.mem_map.mp (o.out_pm.mem_iff.mp hs)
  exact List.mem_map.mpr ⟨xca p.1,o.of_in (o.pal.ok p hp).mem,rfl⟩
end
def fr (h:Nat) (p:Pt):Pt:=⟨p.nm,p.x,p.y, "both",1,(h:Int)⟩
section
variable {w h:Nat}{ps:List Pt}{ss:List Seat}{prs:List Pr}
theorem xj4 (pok:xdg (w:Int) (h:Int) ps) {p:Pt} (hp:p∈ps):toPt h (xca p)=fr h p:=by
 have k:=pok.ok p hp
 have k1:=k.x1
 have k3:=k.y1
 unfold toPt xca fr
 dsimp only
 rw[<- (xbz k.nm).1,show (p.x.toNat:Int)=p.x by omega,show ((p.y-1).toNat:Int)+1=p.y by omega]
theorem Pict.ens (o:Pict w h ps ss prs) {es:List Sg} (pe:es.Perm (inns w (xag w h ps ss prs))):(es.map (toPt h)).Perm (ps.map (fr h)):=by
 have z:=(pe.trans o.inn_pm).map (toPt h)
 rw[List.map_map] at z
 rw[show ps.map (fr h)=ps.map (toPt h∘xca) from (List.map_congr_left fun p hp=>(xj4 o.pok hp).symm)]
 exact z
theorem xsw (pok:xdg (w:Int) (h:Int) ps) {p q:Pt} (hp:p∈ps) (hq:q∈ps) (e:p.nm=q.nm):p=q:=by
 have a:=xh1 pok.nn hp
 rw[e,xh1 pok.nn hq] at a
 exact (Option.some.inj a).symm
theorem Pict.toPr_out (o:Pict w h ps ss prs) {p:Pr} (hp:p∈prs):toPr w (xag w h ps ss prs) (xb2 w p)=(fr h p.1,p.2):=by
 obtain⟨_,_,_,z,hz,ez,et⟩:=xdy o.good (o.of_out hp)
 have k:=o.pal.ok p hp
 rw[et,xju o.w1 k.r1,xcq]
 obtain⟨p',hp',rfl⟩:=List.mem_map.mp (o.inn_pm.mem_iff.mp hz)
 have e:p'=p.1:=xsw o.pok hp' k.mem (xez (o.nms p' hp') k.nm ez)
 subst e
 rw[xj4 o.pok hp']
theorem Pict.fns (o:Pict w h ps ss prs) {fs:List Sg} (pf:fs.Perm (outs w (xag w h ps ss prs))):(fs.map (toPr w (xag w h ps ss prs))).Perm (prs.map fun p=>(fr h p.1,p.2)):=by
 have z:=(pf.trans o.out_pm).map (toPr w (xag w h ps ss prs))
 rw[List.map_map] at z
 rw[show (prs.map fun p=>(fr h p.1,p.2))=prs.map (toPr w (xag w h ps ss prs)∘xb2 w) from (List.map_congr_left fun p hp=>(o.toPr_out hp).symm)]
 exact z
theorem Pict.again (o:Pict w h ps ss prs) {es fs:List Sg} (pe:es.Perm (inns w (xag w h ps ss prs))) (pf:fs.Perm (outs w (xag w h ps ss prs))):Pict w h (es.map (toPt h)) (srtS w (xag w h ps ss prs)) (fs.map (toPr w (xag w h ps ss prs))):=by
 have a:=xfo o.good pe
 have b:=xma o.good pe pf
 have c:=xlz o.good
 rw[xcq] at a b c
 have pm:=xjj w (xag w h ps ss prs)
 exact⟨o.w1,o.w2,o.h1,o.h2,a,⟨pm.nodup_iff.mpr c.1,by rw[pm.length_eq]; exact c.2.1,fun s hs=>c.2.2 s (pm.mem_iff.mp hs)⟩,b⟩
theorem Pict.rim_in (o:Pict w h ps ss prs) (s:Seat):s∈srtS w (xag w h ps ss prs)↔(1<=s.2/\s.2<=(h:Int))/\(s∈ss\/∃ p∈prs,p.2=s):=by
 rw[(xjj w _).mem_iff]
 constructor
 .intro hs
  obtain⟨z,hz,rfl⟩:=List.mem_map.mp hs
  obtain⟨h1,h2⟩:=List.mem_filter.mp hz
  obtain⟨h3,h4⟩:=Bool.and_eq_true _ _▸h2
  have g1:=(xdb.mp h1).1
  refine⟨⟨by show (1:Int)<=(z.1:Int)+1; omega,by show (z.1:Int)+1<=_; omega⟩,?_⟩
  rcases (o.at_rim h1 h3).2 with⟨p,hp,_,e⟩|⟨_,z,_⟩|⟨_,_,y⟩
  .exact .inr ⟨p,hp,e⟩
  .exact .inl z
  .exact absurd y (of_decide_eq_true h4)
 .rintro ⟨⟨r1,r2⟩,hs⟩
  obtain⟨b,r⟩:=s
  dsimp only at r1 r2
  have w1:=o.w1
  have rb:Drw.rim w b=0\/Drw.rim w b=(w:Int)+1:=xdi w (b,r)
  have ex:((Drw.rim w b).toNat:Int)=Drw.rim w b:=by omega
  have ey:1+((r-1).toNat:Int)=r:=by omega
  have mem:((r-1).toNat,(Drw.rim w b).toNat,cd (xah w ps ss prs) (rimC w (b,r)))∈sgs (xag w h ps ss prs):=xdb.mpr ⟨by dsimp only; omega,by dsimp only; omega,by dsimp only; rw[ex,ey]; rfl⟩
  have rm:rimB (w+1) (Drw.rim w b).toNat=true:=by
   unfold rimB
   rcases rb with z|z
   .rw [decide_eq_true (show (Drw.rim w b).toNat=0 by omega)]
    rfl
   .rw [decide_eq_true (show (Drw.rim w b).toNat=w+1 by omega),Bool.or_true]
  have ts:xam ((r-1).toNat,(Drw.rim w b).toNat,cd (xah w ps ss prs) (rimC w (b,r)))=(b,r):=xju (w:=w) w1 (p:=(⟨Str.ofString "",0,0,Str.ofString "",0,0⟩,b,r)) r1
  have ts:xam ((r-1).toNat,(Drw.rim w b).toNat,cd (xah w ps ss prs) (rimC w (b,r)))=(b,r):=ts
  unfold rimS
  refine List.mem_map.mpr ⟨_,List.mem_filter.mpr ⟨mem,?_⟩,ts⟩
  dsimp only
  rw[rm,Bool.true_and]
  refine decide_eq_true fun z=>?_
  have hs:(b,r)∈ss\/∃ p∈prs,p.2=(b,r):=hs
  by_cases e:∃ p∈prs,p.2=(b,r)
  .obtain ⟨p,hp,ep⟩:=e
   have v:=xcy (o.name hp)
   rw[ep,z] at v
   have:=xnw (xbz (o.nmr p hp)).2
   omega
  .have v:=xcy (o.dot (hs.resolve_right e) fun p hp y=>e ⟨p,hp,y⟩)
   rw[z] at v
   exact absurd v (by decide +kernel)
theorem Pict.sees (o:Pict w h ps ss prs):xpx w (xag w h ps ss prs):=by
 intro es fs pe pf s hs
 have o':=o.again pe pf
 have qe:=o.ens pe
 have qf:=o.fns pf
 rw[xcq,xra o.w1 o'.pok o'.pal (.refl _)]
 obtain⟨g1,g2,g3⟩:=xdb.mp hs
 rw[g3]
 suffices e:xah w (es.map (toPt h)) (srtS w (xag w h ps ss prs)) (fs.map (toPr w (xag w h ps ss prs))) ((s.2.1:Int),1+(s.1:Int))=xah w ps ss prs ((s.2.1:Int),1+(s.1:Int)) by
  unfold cd
  rw[e]
 have pin:∀ p∈prs,(fr h p.1,p.2)∈fs.map (toPr w (xag w h ps ss prs)):=fun p hp=>qf.mem_iff.mpr (List.mem_map.mpr ⟨p,hp,rfl⟩)
 have pout:∀ p'∈fs.map (toPr w (xag w h ps ss prs)),∃ p∈prs,(fr h p.1,p.2)=p':=fun p' hp'=>List.mem_map.mp (qf.mem_iff.mp hp')
 by_cases r:rimB (w+1) s.2.1=true
 .obtain ⟨rc,z⟩:=o.at_rim hs r
  rw[<- rc]
  have rin:=o.rim_in (xam s)
  rcases z with⟨p,hp,_,ep⟩|⟨n1,d,_⟩|⟨n1,d,_⟩
  .rw [<- ep,o.name hp]
   exact o'.name (p:=(fr h p.1,p.2)) (pin p hp)
  .rw [o.dot d n1]
   refine o'.dot (rin.mpr ⟨⟨by show (1:Int)<=(s.1:Int)+1; omega,by show (s.1:Int)+1<=_; omega⟩,.inl d⟩) fun p' hp' e=>?_
   obtain⟨p,hp,rfl⟩:=pout p' hp'
   exact n1 p hp e
  .rw [o.off (xdi w _) (fun p hp z=>n1 p hp (xb5 o.w1 z)) (fun z hz y=>d (xb5 o.w1 y▸hz))]
   refine o'.off (xdi w _) (fun p' hp' z=>?_) (fun z hz y=>?_)
   .obtain ⟨p,hp,rfl⟩:=pout p' hp'
    exact n1 p hp (xb5 o.w1 z)
   .rw [xb5 o.w1 y] at hz
    rcases (rin.mp hz).2 with x|⟨p,hp,x⟩
    .exact d x
    .exact n1 p hp x
 .have nr:=xjq r
  by_cases e:∃ p∈ps,(p.x,p.y)=((s.2.1:Int),1+(s.1:Int))
  .obtain ⟨p,hp,ep⟩:=e
   rw[<- ep,o.pt hp]
   exact o'.pt (p:=fr h p) (qe.mem_iff.mpr (List.mem_map.mpr ⟨p,hp,rfl⟩))
  .have c1:(1:Int)<=(s.2.1:Int):=by omega
   have c2:(s.2.1:Int)<=w:=by omega
   rw[xem (fun p _=>xcs w p.2 c1 c2 _) (fun s _=>xcs w s c1 c2 _) (fun p hp z=>e ⟨p,hp,z⟩),xem (fun p _=>xcs w p.2 c1 c2 _) (fun s _=>xcs w s c1 c2 _) (fun p' hp' z=>?_),Drw.marks_at,Drw.marks_at]
   .refine Drw.mkc_perm hsS ?_
    unfold Drw.at_
    refine (List.Perm.filter _ ?_).map _
    have z:=qf.flatMap_right (xau w)
    have e:(prs.map fun p=>(fr h p.1,p.2)).flatMap (xau w)=prs.flatMap (xau w):=by
     rw[List.flatMap_map]
     rfl
    rw[e] at z
    exact z
   .obtain ⟨p,hp,rfl⟩:=List.mem_map.mp (qe.mem_iff.mp hp')
    exact e ⟨p,hp,z⟩
end
def ptK (p:Pt):List Key:=[.inr p.nm,.inl p.x,.inl p.y,.inr p.sd,.inl p.lo,.inl p.hi]
def prK (p:Pr):List Key:=[.inr p.1.nm,.inr (xai p.2.1),.inl p.2.2]
theorem xlb {α β:Type}:∀{as:List α}{bs:List β}{i:Nat}{a:α}{b:β},as[i]?=some a->bs[i]?=some b->(as.zip bs)[i]?=some (a,b)
 | [],_,_,_,_,h,_=>by simp at h
 | _::_,[],_,_,_,_,h=>by simp at h
 | x::as,y::bs,0,a,b,h1,h2=>by
  simp at h1 h2
  subst h1 h2
  rfl
 | x::as,y::bs,i+1,a,b,h1,h2=>xlb (as:=as) (bs:=bs) (i:=i) (by simpa using h1) (by simpa using h2)
theorem xkw {α β:Type}:∀{as:List α}{bs:List β},bs.length=as.length->(as.zip bs).map (·.2)=bs
 | [],[],_=>rfl
 | [],_::_,h=>by cases h
 | _::_,[],h=>by cases h
 | x::as,y::bs,h=>by
  rw[List.zip_cons_cons,List.map_cons,xkw (by simpa using h)]
theorem xhy {α β:Type}:∀{as:List α}{bs:List β},bs.length=as.length->(as.zip bs).map (·.1)=as
 | [],[],_=>rfl
 | [],_::_,h=>by cases h
 | _::_,[],h=>by cases h
 | x::as,y::bs,h=>by
  rw[List.zip_cons_cons,List.map_cons,xhy (by simpa using h)]
theorem xh8 {α:Type}{H:Hp}{d:Addr}{as:List α}{qs:List Addr}{f:α->List V}{kf:α->List Key}{nm:α->Str}{sh:List Bool} (ln:qs.length=as.length) (l64:as.length<64) (hd:H d=some (.lst (qs.map V.ref))) (tp:∀(i:Nat) (q:Addr),qs[i]?=some q->∃ a,as[i]?=some a/\H q=some (.tup (f a)))
    (hf:∀ a,f a=(kf a).map kV) (hn:∀ a,∃ r,kf a=.inr (nm a)::r) (hs:∀ a∈as,shp (kf a)=sh) (h0:0<sh.length) (nd:(as.map nm).Nodup) {Q:VK}
    (fin:∀(l:Addr) (bs:List α) (us:List Addr),H l=none->bs.Perm as->us.length=bs.length->(∀(i:Nat) (q:Addr),us[i]?=some q->∃ a,bs[i]?=some a/\H q=some (.tup (f a)))->bs.Pairwise (fun a b=>(nm a).cps.toList<(nm b).cps.toList)->Q (.ref l) (upd H l (.lst (us.map V.ref)))):xgz [.ref d] H Q:=by
  have inj:(as.map kf).Nodup:=by
    rw[List.Nodup,List.pairwise_map] at nd ⊢
    refine nd.imp fun {a b} ne e=>ne ?_
    obtain⟨r,er⟩:=hn a
    obtain⟨r',er'⟩:=hn b
    rw[er,er'] at e
    exact Sum.inr.inj (List.cons.inj e).1
  have zl:(as.zip qs).length=as.length:=by rw[List.length_zip,ln,Nat.min_self]
  have mem:∀ x∈as.zip qs,x.1∈as/\H x.2=some (.tup (f x.1)):=fun x hx=>by
    obtain⟨i,hi⟩:=List.mem_iff_getElem?.mp hx
    have l:i<as.length:=by
      have:=(List.getElem?_eq_some_iff.mp hi).1
      omega
    have hq:qs[i]?=some qs[i]:=List.getElem?_eq_getElem (by omega)
    obtain⟨a,ha,e⟩:=tp i _ hq
    rw[xlb ha hq] at hi
    cases hi
    exact⟨List.mem_of_getElem? ha,e⟩
  refine⟨d,(as.zip qs).map fun x=>(kf x.1,x.2),sh,rfl,?_,by rw[List.length_map,zl]; exact l64,fun z hz=>?_,fun z hz=>?_,h0,?_,fun l ts hl pm lx=>?_⟩
  . rw[hd,List.map_map]
    have e:=xkw (as:=as) (bs:=qs) ln
    congr 2
    conv=>lhs; rw[<- e]
    rw[List.map_map]
    rfl
  . obtain⟨x,hx,rfl⟩:=List.mem_map.mp hz
    rw[(mem x hx).2,hf]
  . obtain⟨x,hx,rfl⟩:=List.mem_map.mp hz
    exact hs _ (mem x hx).1
  . rw[List.map_map]
    have e:=congrArg (List.map kf) (xhy (as:=as) (bs:=qs) ln)
    rw[List.map_map] at e
    show ((as.zip qs).map (kf∘fun x=>x.1)).Nodup
    rw[e]
    exact inj
  . obtain⟨zs,pz,rfl⟩:=xfe pm rfl
    have pb:=pz.map (·.1)
    rw[xhy ln] at pb
    have z:=fin l (zs.map (·.1)) (zs.map (·.2)) hl pb (by rw[List.length_map,List.length_map]) (fun i q e=>by
      rw[List.getElem?_map,Option.map_eq_some_iff] at e
      obtain⟨x,hx,rfl⟩:=e
      exact⟨x.1,by rw[List.getElem?_map,hx]; rfl,(mem x (pz.mem_iff.mp (List.mem_of_getElem? hx))).2⟩) (by
      have nb:((zs.map (·.1)).map nm).Nodup:=(pb.map nm).nodup_iff.mpr nd
      rw[List.map_map] at lx
      rw[List.pairwise_map] at lx
      rw[List.Nodup,List.pairwise_map,List.pairwise_map] at nb
      rw[List.pairwise_map]
      refine (lx.and nb).imp fun {a b} y=>?_
      obtain⟨y1,y2⟩:=y
      obtain⟨r,er⟩:=hn a.1
      obtain⟨r',er'⟩:=hn b.1
      have y1:lexK (kf a.1) (kf b.1)=true:=y1
      rw[er,er'] at y1
      unfold lexK at y1
      rw[if_neg (fun e=>y2 (Sum.inr.inj e))] at y1
      exact of_decide_eq_true y1)
    rw[List.map_map] at z ⊢
    exact z
theorem xkt {s t:Str} (hs:isNm s=true) (ht:isNm t=true) (h:s.cps.toList<t.cps.toList):xan s<xan t:=by
 rw[(xbz hs).1,(xbz ht).1,xbf,xbf,lt1] at h
 exact h
def xpf (t:Adr):Sp:=fun vs H Q _=>∃(q b dp do_ lp lps ls lprs:Addr) (ts qs rs us:List Addr) (w h:Nat) (ps:List Pt) (ss:List Seat) (prs:List Pr) (es fs:List Sg),vs=[.ref q,.int (w:Int),.int (h:Int),.ref lps,.ref ls,.ref lprs]/\Pict w h ps ss prs/\xc6 t H q b dp do_ lp ts w (xag w h ps ss prs) es fs /\
 H lps=some (.lst (qs.map V.ref))/\PtsL H ps qs/\H ls=some (.lst (rs.map V.ref))/\xac H ss rs/\H lprs=some (.lst (us.map V.ref))/\PrsL H prs us/\∀ H',Same H H'->Q (.bl true) H'
section
variable {P:Program}{w:World}{K:PySem.W.Frag}{mg:Str->Option Value}{base:Heap}{t:Adr}
theorem ok_ab (T:Txt w K mg t):FnOk true P w K mg base (CXo P w) 3 t.f_ab t.d_ab ["_law_found", "_law_width", "_law_height", "_law_points_here", "_law_seats_here", "_law_pairs_here"] (xpf t):=by
 refine T.F_ab.okn (k:=2) sc_ab (fun vs H Q E h=>?_) (fun cdv A outer s H vs Q E hr h=>?_)
 .obtain ⟨q,b,dp,do_,lp,lps,ls,lprs,ts,qs,rs,us,w',h',ps,ss,prs,es,fs,rfl,_⟩:=h
  rfl
 .obtain ⟨q,b,dp,do_,lp,lps,ls,lprs,ts,qs,rs,us,w',h',ps,ss,prs,es,fs,rfl,h⟩:=h
  refine⟨_,xk (xao (PW.pt (xcj (xbh (xa9 (x6 xbo rfl T.n_isinstance boot_isinstance (xa (pv 0) (xa (xb8 (v:=.ty "tuple") rfl T.n_tuple boot_tuple rfl) (xb)))))) (xcj (xaa xej (x6 xbn rfl T.n_len boot_len (xa (pv 0) (xb))) (xn) (xaf _)) (xcm (xbh (xa9 (x6 xbo rfl T.n_isinstance boot_isinstance (xa (xay xaz (pv 0) (xn) (fun _ _=>rfl)) (xa (xct (v:=.ref _) rfl T.g_n rfl) (xb)))))))))) (xm (x0 (xe2))) (x9))
   (xk (x8 (i:=6) sc_ab.nd rfl (Or.inl rfl) (xay xaz (pv 0) (xn) (fun _ _=>rfl)))
   (xk (xao (PW.pt (xcj (xaa xej (xae (pv 6) rfl) (pv 1) (xaf _)) (xcj (xaa xej (xae (pv 6) rfl) (pv 2) (xaf _)) (xcm (xbh (xa9 (x6 xbo rfl T.n_isinstance boot_isinstance (xa (xay xaz (pv 0) (xn) (fun _ _=>rfl)) (xa (xb8 (v:=.ty "list") rfl T.n_list boot_list rfl) (xb)))))))))) (xm (x0 (xe2))) (x9))
   (xk ((by (with_reducible refine' xao ?c8 ?a9 ?b10); (case c8=>exact xaa (xet (xb6 hr)) (xba (pv 6) T.c_n T.m_i (ok_i T) (hr.mono (by decide)) T.b_i .nil xj) (xbj rfl (xa1 (zs:=["_law_point_here"]) (ys:=["_law_height"]) (fr:=[2]) (N0:=["_law_found", "_law_width", "_law_height", "_law_points_here", "_law_seats_here", "_law_pairs_here", "_law_picture_here", "_law_had"]) (sc0:=xh s_ab) (by decide +kernel) rfl rfl rfl) (xar (x6 (xfs rfl) rfl T.n_sorted PyProof.Rows.Boot.«sorted» (xa (pv 3) (xb)))) (fun _ _ _ _ _ ow nd=>xo (i:=0) nd rfl (Or.inl (ow _ (by simp))) (Or.inr (ow _ (by simp)))) (xbe (by decide)) (fun _ _ _ _ _=>xbi) (fun _ _ _ _ _=>xab (xz (xay (r:=rIxT K) xaz (pv 0) (xn) (fun _ _=>rfl)) (xz (xay (r:=rIxT K) xaz (pv 0) (xn) (fun _ _=>rfl)) (xz (xay (r:=rIxT K) xaz (pv 0) (xn) (fun _ _=>rfl)) (xz (xad) (xz (xn) (xz (pv 1) (xb) rfl) rfl) rfl) rfl) rfl) rfl))) (xaf _)); (case a9=>((with_reducible refine' xm ?c11); (case c11=>((exact x0 (xe2)))))); (case b10=>((exact x9)))))
   (xk (x8 (i:=7) sc_ab.nd rfl (Or.inr rfl) (xx xhk (pv 4) (xbj rfl (xa1 (zs:=["_law_name", "_law_side", "_law_row"]) (ys:=[]) (fr:=[]) (N0:=["_law_found", "_law_width", "_law_height", "_law_points_here", "_law_seats_here", "_law_pairs_here", "_law_picture_here", "_law_had"]) (sc0:=xh s_ab) (by decide +kernel) rfl rfl rfl) (xar (pv 5)) (fun _ _ _ _ _ ow nd=>(xat rfl (xq (xo (i:=0) nd rfl (Or.inl (ow _ (by simp))) (Or.inr (ow _ (by simp)))) (xq (xo (i:=1) nd rfl (Or.inl (ow _ (by simp))) (Or.inr (ow _ (by simp)))) (xq (xo (i:=2) nd rfl (Or.inl (ow _ (by simp))) (Or.inr (ow _ (by simp)))) (xak)))):PG _ _ (gTup K 3 _))) (xdz (xbb (by decide) (xbb (by decide) (xbb (by decide) (xc8))))) (fun _ _ _ _ _=>xbi) (fun _ _ _ _ _=>xab (xa (pv 1) (xa (pv 2) (xb)))))))
   (xk (xao (xaa (xet (xb6 hr)) (xba (pv 6) T.c_n T.m_s (ok_s T) (hr.mono (by decide)) T.b_s .nil xj) (xbj rfl (xa1 (zs:=["_law_seat"]) (ys:=["_law_had"]) (fr:=[7]) (N0:=["_law_found", "_law_width", "_law_height", "_law_points_here", "_law_seats_here", "_law_pairs_here", "_law_picture_here", "_law_had"]) (sc0:=xh s_ab) (by decide +kernel) rfl rfl rfl) (xar (xt (ok_m T) (hr.mono (by decide)) rfl T.g_m T.F_m.kp T.b_m .nil xj (xa (pv 2) (xb)))) (fun _ _ _ _ _ ow nd=>xo (i:=0) nd rfl (Or.inl (ow _ (by simp))) (Or.inr (ow _ (by simp)))) (xbe (by decide)) (fun _ _ _ _ _=>xer (xaa (r:=rInV K false) (xrv (xb6 hr)) (pv 0) (pv 1) (by rfl))) (fun _ _ _ _ _=>pv 0)) (xaf _)) (xm (x0 (xe2))) (x9))
   (xm (x0 (xcv (xka (xb6 hr)) (xay xaz (pv 0) (xn) (fun _ _=>rfl)) (x6 (xfs rfl) rfl T.n_sorted PyProof.Rows.Boot.«sorted» (xa (pv 5) (xb))) (xaf _))))))))),?_⟩
  obtain⟨o,sn,hlps,ptl,hls,stl,hlr,prl,hQ⟩:=h
  have sq:=sn.q
  have dr:=sn.dr
  have pic:=dr.pic
  have slp:=sn.lp
  obtain⟨⟨dx,hpi⟩,_⟩:=id pic
  have w2:=o.w2
  have h2:=o.h2
  have p12:=o.pok.le
  have r12:=o.pal.len
  have gl:=xcq w' h' (xah w' ps ss prs)
  refine⟨_,rfl,_,_,rfl,.inl ⟨_,_,true,.tup sq,rfl,xbq,true,rfl,iteF ?_⟩⟩
  refine⟨_,rfl,q,_,rfl,.inr (SqT.of sq),rfl,_,rfl,ifN (by simp) ?_⟩
  refine⟨_,rfl,q,_,0,.ref b,rfl,rfl,SqT.of sq,rfl,_,_,rfl,.inl ⟨_,_,true,.ins hpi T.c_n T.ca_n T.cg T.ct T.mo_n,rfl,xbq,true,rfl,iteF ?_⟩⟩
  refine⟨_,rfl,q,_,0,.ref b,rfl,rfl,SqT.of sq,rfl,?_⟩
  refine⟨_,rfl,b,_,dx,_,_,rfl,hpi,T.c_n,T.n_a5,lkW,_,rfl,rfl,_,rfl,ifN (by simp) ?_⟩
  refine⟨_,rfl,b,_,dx,_,_,rfl,hpi,T.c_n,T.n_a6,lkH,_,rfl,rfl,_,rfl,ifN (by rw[gl]; simp) ?_⟩
  refine⟨_,rfl,q,_,1,.ref lp,rfl,rfl,SqT.of sq,rfl,_,_,rfl,.inl ⟨_,_,true,.lst slp,rfl,xbq,true,rfl,iteF ?_⟩⟩
  refine⟨_,rfl,b,dx,_,rfl,hpi,xa8 (by decide +kernel),b,dp,do_,_,_,_,rfl,pic,fun H1 l1 ds s1 e1 pt1=>?_⟩
  refine⟨_,rfl,?_⟩
  unfold tNil
  refine xh8 (f:=fun p:Pt=>.str p.nm::ptV p) (kf:=ptK) (nm:=fun p=>p.nm) (sh:=shp (ptK ⟨Str.ofString "",0,0,Str.ofString "",0,0⟩)) ptl.len (by omega) (s1 _ _ hlps) (fun i q e=>let ⟨p,h1,h2⟩:=ptl.get e; ⟨p,h1,s1 _ _ h2⟩) (fun _=>rfl) (fun _=>⟨_,rfl⟩) (fun _ _=>rfl) (by decide) o.pok.nn (fun l2 bs ub hl2 pb lb tb lt2=>?_)
  have s2:Same H1 (upd H1 l2 (.lst (ub.map V.ref))):=xp (Same.refl _) hl2
  have g2:upd H1 l2 (.lst (ub.map V.ref)) l2=some (.lst (ub.map V.ref)):=xf
  revert s2 g2
  generalize upd H1 l2 (.lst (ub.map V.ref))=H2
  intro s2 g2
  have bl:=pb.length_eq
  have s12:=s1.trans s2
  refine⟨l2,rfl,⟨_,SqL.of g2⟩,fun l3 hl3=>?_⟩
  refine xdl (SqL.of g2) (by rw[List.length_map]; exact Nat.lt_of_le_of_lt (by omega:_<=1000) (by decide)) hl3 (fun j y H5=>∃ q p,y=.ref q/\bs[j]?=some p/\H5 q=some (.tup (.str (fr h' p).nm::ptV (fr h' p)))) (fun j y H5 H6 tp ⟨q,s,e1,e2,e3⟩=>⟨q,s,e1,e2,tp _ _ e3⟩) (fun j x H5 hx s5 N hN=>?_) (fun ys H3 s3 e3 ly fy=>?_)
  .rw [List.getElem?_map,Option.map_eq_some_iff] at hx
   obtain⟨qa,hqa,rfl⟩:=hx
   obtain⟨p,hp,hq⟩:=tb j qa hqa
   have hq5:=s5 _ _ (s2 _ _ hq)
   refine⟨_,rfl,qa,_,0,.str p.nm,rfl,rfl,SqT.of hq5,rfl,_,rfl,qa,_,1,.int p.x,rfl,rfl,SqT.of hq5,rfl,_,rfl,qa,_,2,.int p.y,rfl,rfl,SqT.of hq5,rfl,_,rfl,(by show 6<=sizeLine; decide),fun u hu=>hN _ _ (xp (Same.refl _) hu) ⟨u,p,rfl,hp,?_⟩⟩
   rw[xf]
   rfl
  rw[List.length_map,lb] at ly
  obtain⟨vs3,rfl,pt3⟩:=PtsL.pick (H:=H3) (ps:=bs.map (fr h')) (ys:=ys) (by rw[ly,List.length_map]) (fun j y p hy hp=>by
   obtain⟨q,s,e1,e2,e3⟩:=fy j y hy
   rw[List.getElem?_map,e2] at hp
   cases hp
   exact⟨q,e1,e3⟩)
  have s23:=s2.trans s3
  have s13:=s1.trans s23
  have eqp:es.map (toPt (xds w' h' (xah w' ps ss prs)).length)=bs.map (fr h'):=by
   rw[gl]
   refine xb9 (R:=fun a b:Pt=>xan a.nm<xan b.nm) (fun a b h1 h2=>by omega) ((o.ens sn.pe).trans (pb.map _).symm) ?_ ?_
   .rw [List.pairwise_map]
    refine sn.le.imp fun {a b} z=>?_
    show xan (ofL [a.2.2])<xan (ofL [b.2.2])
    rw[xe7,xe7]
    exact z
   .rw [List.pairwise_map]
    refine List.Pairwise.imp_of_mem ?_ lt2
    intro a b ha hb z
    exact xkt (o.nms a (pb.mem_iff.mp ha)) (o.nms b (pb.mem_iff.mp hb)) z
  refine⟨2,2,_,_,(pt1.keep (Same.tups s23)).dv (s23 _ _ e1),pt3.dv e3,by decide,by decide,_,rfl,ifN (by rw[eqp,xcr]; decide) ?_⟩
  refine⟨_,rfl,_,rfl,lprs,rfl,⟨_,SqL.of (s13 _ _ hlr)⟩,fun l4 hl4=>?_⟩
  have prl3:=prl.keep (Same.tups s13)
  have ull:=prl.len
  refine xdl (SqL.of (s13 _ _ hlr)) (by rw[List.length_map]; exact Nat.lt_of_le_of_lt (by omega:_<=1000) (by decide)) hl4 (fun j y H5=>∃ q p,y=.ref q/\prs[j]?=some p/\H5 q=some (.tup (xcc p.2))) (fun j y H5 H6 tp ⟨q,s,e1,e2,e3⟩=>⟨q,s,e1,e2,tp _ _ e3⟩) (fun j x H5 hx s5 N hN=>?_) (fun ys H4 s4 e4 ly4 fy4=>?_)
  .rw [List.getElem?_map,Option.map_eq_some_iff] at hx
   obtain⟨qa,hqa,rfl⟩:=hx
   obtain⟨p,hp,hq⟩:=prl3.get hqa
   exact⟨qa,_,rfl,SqT.of (s5 _ _ hq),rfl,_,_,rfl,_,_,rfl,_,_,rfl,rfl,_,rfl,_,rfl,(by show 2<=sizeLine; decide),fun u hu=>hN _ _ (xp (Same.refl _) hu) ⟨u,p,rfl,hp,xf⟩⟩
  rw[List.length_map,ull] at ly4
  obtain⟨rs4,rfl,st4⟩:=xac.pick (H:=H4) (ss:=prs.map (·.2)) (ys:=ys) (by rw[ly4,List.length_map]) (fun j y p hy hp=>by
   obtain⟨q,s,e1,e2,e3⟩:=fy4 j y hy
   rw[List.getElem?_map,e2] at hp
   cases hp
   exact⟨q,e1,e3⟩)
  have s14:=s13.trans s4
  have rl4:=st4.len
  rw[List.length_map] at rl4
  have rll:=stl.len
  have s32:=o.sok.2.1
  refine⟨ls,l4,_,_,rfl,rfl,s14 _ _ hls,e4,?_,fun l5 hl5=>?_⟩
  .rw [List.length_map,List.length_map]
   exact Nat.le_trans (by omega:_<=1000) (by decide)
  rw[<- List.map_append]
  have s5:Same H4 (upd H4 l5 (.lst ((rs++rs4).map V.ref))):=xp (Same.refl _) hl5
  have g5:upd H4 l5 (.lst ((rs++rs4).map V.ref)) l5=some (.lst ((rs++rs4).map V.ref)):=xf
  revert s5 g5
  generalize upd H4 l5 (.lst ((rs++rs4).map V.ref))=H5
  intro s5 g5
  have st5:=((stl.keep (Same.tups s14)).append st4).keep (Same.tups s5)
  have s15:=s14.trans s5
  have dr5:=dr.same s15
  refine⟨_,rfl,b,dx,_,rfl,s15 _ _ hpi,xa8 (by decide +kernel),b,dp,do_,_,_,_,_,rfl,dr5.pic,dr5.sts,fun l6 ss6 us6 hl6 sl6 pm6 lt6=>?_⟩
  have e66:ss6=srtS w' (xag w' h' ps ss prs):=xb9 xef (pm6.trans dr5.pm.symm) lt6 dr5.lt
  have s6:Same H5 (upd H5 l6 (.lst (us6.map V.ref))):=xp (Same.refl _) hl6
  have g6:upd H5 l6 (.lst (us6.map V.ref)) l6=some (.lst (us6.map V.ref)):=xf
  revert s6 g6
  generalize upd H5 l6 (.lst (us6.map V.ref))=H6
  intro s6 g6
  refine⟨_,rfl,h',rfl,h2,fun H7 l7 ss7 rs7 e77 o7 s7 f7 e7 sl7=>⟨l7,rfl,⟨_,SqL.of e7⟩,fun l8 hl8=>?_⟩⟩
  have s57:=s6.trans s7
  have r7l:=sl7.len
  have o32:=o7.2.1
  have had7:=s57 _ _ g5
  have st7:=st5.keep (Same.tups s57)
  refine xdq (SqL.of e7) (by rw[List.length_map]; exact Nat.lt_of_le_of_lt (by omega:_<=1000) (by decide)) hl8 (fun k=>((ss7[k]?).map fun s=>decide (s∈ss++prs.map (·.2))).getD false) (fun k y H8=>∃ q s,y=.ref q/\ss7[k]?=some s/\H8 q=some (.tup (xcc s))) (fun j y H5 H6 tp ⟨q,s,e1,e2,e3⟩=>⟨q,s,e1,e2,tp _ _ e3⟩) (fun k x H8 hx s8 N M hN hM=>?_) (fun ys H8 s8 e8 ly8 fy8=>?_)
  .rw [List.getElem?_map,Option.map_eq_some_iff] at hx
   obtain⟨qa,hqa,rfl⟩:=hx
   obtain⟨s,hs,hq⟩:=sl7.get hqa
   refine⟨_,rfl,_,rfl,1,2,_,_,xlm (s8 _ _ hq),(st7.keep (Same.tups s8)).dv (s8 _ _ had7),by decide,by decide,_,rfl,?_⟩
   rw[if_neg Bool.false_ne_true,xpj]
   refine ite2 (fun c=>⟨_,rfl,hN _ _ (Same.refl _) (by rw[hs]; exact c) ⟨qa,s,rfl,hs,s8 _ _ hq⟩⟩) (fun c=>hM _ (Same.refl _) (by rw[hs]; exact Bool.eq_false_iff.mpr c))
  have ix:=xkp (fun s:Seat=>decide (s∈ss++prs.map (·.2))) (as:=ss7) (p:=fun k=>((ss7[k]?).map fun s=>decide (s∈ss++prs.map (·.2))).getD false) (fun k s hs=>by rw[hs]; rfl)
  rw[List.length_map,r7l] at ly8 fy8
  obtain⟨rs8,rfl,st8⟩:=xac.pick (H:=H8) (ss:=ss7.filter fun s=>decide (s∈ss++prs.map (·.2))) (ys:=ys) (by rw[ly8,ix.1]) (fun j y z hy hz=>by
   obtain⟨k,hk⟩:∃ k,((List.range ss7.length).filter fun k=>((ss7[k]?).map fun s=>decide (s∈ss++prs.map (·.2))).getD false)[j]?=some k:=⟨_,List.getElem?_eq_getElem (by rw[<- ly8]; exact (List.getElem?_eq_some_iff.mp hy).1)⟩
   obtain⟨q,s,e1,e2,e3⟩:=fy8 j y k hy hk
   rw[ix.2 j k hk,hz] at e2
   cases e2
   exact⟨q,e1,e3⟩)
  have eqs:ss6=ss7.filter fun s=>decide (s∈ss++prs.map (·.2)):=by
   rw[e66,e77]
   have so:(xal true h'++xal false h').Pairwise xbv:=by
    have one:∀ b,(xal b h').Pairwise xbv:=fun b=>by
     unfold xal
     rw[List.pairwise_map]
     exact List.pairwise_lt_range.imp fun z=>.inr ⟨rfl,by dsimp only; omega⟩
    rw[List.pairwise_append]
    refine⟨one _,one _,fun a ha b hb=>?_⟩
    obtain⟨i,_,rfl⟩:=List.mem_map.mp ha
    obtain⟨j,_,rfl⟩:=List.mem_map.mp hb
    exact .inl ⟨rfl,rfl⟩
   have sp:((xal true h'++xal false h').filter fun s=>decide (s∈ss++prs.map (·.2))).Pairwise xbv:=so.filter _
   refine xb9 xef ?_ dr5.lt sp
   refine (List.perm_ext_iff_of_nodup (xgk dr5.lt) (xgk sp)).mpr fun s=>?_
   rw[o.rim_in,List.mem_filter,decide_eq_true_iff]
   have mm:s∈ss++prs.map (·.2)↔(s∈ss\/∃ p∈prs,p.2=s):=by rw[List.mem_append,List.mem_map]
   constructor
   .rintro ⟨x,y⟩
    exact⟨xku x,mm.mpr y⟩
   .rintro ⟨x,y⟩
    rw[<- e77] at x
    exact⟨o7.2.2 s x,mm.mp y⟩
  have s58:=s57.trans s8
  have s68:=s7.trans s8
  refine⟨2,2,_,_,((sl6.keep (Same.tups s6)).keep (Same.tups s68)).dv (s68 _ _ g6),st8.dv e8,by decide,by decide,_,rfl,ifN (by rw[eqs,xcr]; decide) ?_⟩
  have s18:=s15.trans s58
  refine⟨_,rfl,q,_,1,.ref lp,rfl,rfl,SqT.of (s18 _ _ sq),rfl,_,rfl,?_⟩
  show xgz [V.ref lprs] H8 _
  refine xh8 (f:=prV) (kf:=prK) (nm:=fun p=>p.1.nm) (sh:=shp (prK (⟨Str.ofString "",0,0,Str.ofString "",0,0⟩,true,0))) prl.len (by omega) (s18 _ _ hlr) (fun i q e=>let ⟨p,h1,h2⟩:=prl.get e; ⟨p,h1,s18 _ _ h2⟩) (fun _=>rfl) (fun _=>⟨_,rfl⟩) (fun _ _=>rfl) (by decide) o.pal.nn (fun l9 bs9 ub9 hl9 pb9 lb9 tb9 lt9=>?_)
  have s9:Same H8 (upd H8 l9 (.lst (ub9.map V.ref))):=xp (Same.refl _) hl9
  have g9:upd H8 l9 (.lst (ub9.map V.ref)) l9=some (.lst (ub9.map V.ref)):=xf
  revert s9 g9
  generalize upd H8 l9 (.lst (ub9.map V.ref))=H9
  intro s9 g9
  obtain⟨vs9,ev9,pr9⟩:=PrsL.pick (H:=H9) (ps:=bs9) (ys:=ub9.map V.ref) (by rw[List.length_map,lb9]) (fun j y p hy hp=>by
   rw[List.getElem?_map,Option.map_eq_some_iff] at hy
   obtain⟨qa,hqa,rfl⟩:=hy
   obtain⟨p',hp',hq⟩:=tb9 j qa hqa
   rw[hp] at hp'
   cases hp'
   exact⟨qa,rfl,s9 _ _ hq⟩)
  rw[ev9] at g9
  have eqf:(fs.map (toPr w' (xag w' h' ps ss prs))).map prD=bs9.map prD:=by
   have e:fs.map (toPr w' (xag w' h' ps ss prs))=bs9.map fun p=>(fr h' p.1,p.2):=by
    refine xb9 (R:=fun a b:Pr=>xan a.1.nm<xan b.1.nm) (fun a b h1 h2=>by omega) ((o.fns sn.pf).trans (pb9.map _).symm) ?_ ?_
    .rw [List.pairwise_map]
     refine List.Pairwise.imp_of_mem ?_ sn.lf
     intro a b ha hb z
     obtain⟨_,_,_,y,_,ey,et⟩:=xdy o.good (sn.pf.mem_iff.mp ha)
     obtain⟨_,_,_,x,_,ex,es⟩:=xdy o.good (sn.pf.mem_iff.mp hb)
     rw[et,es]
     show xan (ofL [y.2.2])<xan (ofL [x.2.2])
     rw[xe7,xe7,ey,ex]
     exact z
    .rw [List.pairwise_map]
     refine List.Pairwise.imp_of_mem ?_ lt9
     intro a b ha hb z
     exact xkt (o.nmr a (pb9.mem_iff.mp ha)) (o.nmr b (pb9.mem_iff.mp hb)) z
   rw[e,List.map_map]
   rfl
  refine⟨2,2,_,_,(sn.pr.keep (Same.tups (s18.trans s9))).dv ((s18.trans s9) _ _ slp),pr9.dv g9,by decide,by decide,?_⟩
  rw[eqf,xcr]
  exact hQ _ (s18.trans s9)
end
theorem xc6.mv {t:Adr}{H H':Hp}{q b dp do_ lp:Addr}{ts:List Addr}{w:Nat}{G:List (List Nat)}{es fs:List Sg} (sn:xc6 t H q b dp do_ lp ts w G es fs) (tp:Tups H H') (k:∀ c,c=b\/c=dp\/c=do_\/c=lp->∀ u,H c=some u->H' c=some u):xc6 t H' q b dp do_ lp ts w G es fs:=by
 have d:=sn.dr
 refine⟨sn.pe,sn.le,sn.pf,sn.lf,tp _ _ sn.q,⟨⟨?_,?_,d.pic.w1,d.pic.w2,d.pic.h1,d.pic.h2,d.pic.len⟩,?_,d.ok,d.pm,d.lt,d.nm⟩,k _ (.inr (.inr (.inr rfl))) _ sn.lp,sn.pr.keep tp⟩
 .obtain ⟨dx,e⟩:=d.pic.ins
  exact⟨dx,k _ (.inl rfl) _ e⟩
 .obtain ⟨kvs,e,r⟩:=d.pic.pl
  exact⟨kvs,k _ (.inr (.inl rfl)) _ e,r.keep tp⟩
 .obtain ⟨kvs,e,r⟩:=d.sts
  exact⟨kvs,k _ (.inr (.inr (.inl rfl))) _ e,r⟩
theorem xc6.same {t:Adr}{H H':Hp}{q b dp do_ lp:Addr}{ts:List Addr}{w:Nat}{G:List (List Nat)}{es fs:List Sg} (sn:xc6 t H q b dp do_ lp ts w G es fs) (s:Same H H'):xc6 t H' q b dp do_ lp ts w G es fs:=sn.mv (Same.tups s) fun c _ u e=>s c u e
theorem xmt {ps:List Pt} (nd:(ps.map (·.nm)).Nodup) {i:Nat}{p:Pt} (h:ps[i]?=some p):((ps.drop i).filter fun z=>decide (z.nm≠p.nm))=ps.drop (i+1)/\(ps.drop i).find? (fun z=>decide (z.nm=p.nm))=some p:=by
 obtain⟨hi,rfl⟩:=List.getElem?_eq_some_iff.mp h
 have nd2:=((List.drop_sublist i ps).map (·.nm)).nodup nd
 rw[List.drop_eq_getElem_cons hi] at nd2 ⊢
 rw[List.map_cons,List.nodup_cons] at nd2
 refine⟨?_,List.find?_cons_of_pos (by simp)⟩
 rw[List.filter_cons_of_neg (by simp)]
 refine List.filter_eq_self.mpr fun z hz=>decide_eq_true fun e=>nd2.1 (List.mem_map.mpr ⟨z,hz,e⟩)
section
variable {P:Program}{w:World}{K:PySem.W.Frag}{mg:Str->Option Value}{base:Heap}{t:Adr}
theorem xsv (T:Txt w K mg t):FnOk true P w K mg base (CXo P w) 10 t.f_law t.d_law ["_law_script"] (xi2 K):=by
 refine T.F_law.okn (k:=9) xbr (fun vs H Q E h=>?_) (fun cdv A outer s H vs Q E hr h=>?_)
 .obtain ⟨sc,ns,rfl,_⟩:=h
  rfl
 .obtain ⟨sc,ns,rfl,h⟩:=h
  refine⟨_,xk (xd3 (xt (ok_as T) (hr.mono (by decide)) rfl T.g_as T.F_as.kp T.b_as .nil xj (xa (pv 0) (xb))) (xat rfl (xq (xo (i:=1) xbr.nd rfl (Or.inl rfl)) (xq (xo (i:=2) xbr.nd rfl (Or.inl rfl)) (xak)))))
   (xk (x8 (i:=3) xbr.nd rfl (Or.inl rfl) (xt (ok_aq T) (hr.mono (by decide)) rfl T.g_aq T.F_aq.kp T.b_aq .nil xj (xa (pv 0) (xa (pv 2) (xb)))))
   (xk (x8 (i:=4) xbr.nd rfl (Or.inl rfl) (xt (ok_ai T) (hr.mono (by decide)) rfl T.g_ai T.F_ai.kp T.b_ai .nil xj (xa (xi6 xqq (pv 0) (xhx (xn)) (xhx (xn))) (xa (pv 1) (xa (pv 2) (xb))))))
   (xk (x8 (i:=5) xbr.nd rfl (Or.inl rfl) (xt (ok_an T) (hr.mono (by decide)) rfl T.g_an T.F_an.kp T.b_an .nil xj (xa (xt (ok_ad T) (hr.mono (by decide)) rfl T.g_ad T.F_ad.kp T.b_ad .nil xj (xa (pv 0) (xa (xn) (xb)))) (xa (pv 4) (xa (pv 2) (xa (pv 3) (xb)))))))
   (xk (x8 (i:=6) xbr.nd rfl (Or.inl rfl) (xt (ok_ah T) (hr.mono (by decide)) rfl T.g_ah T.F_ah.kp T.b_ah .nil xj (xa (pv 1) (xa (pv 2) (xa (pv 4) (xa (pv 3) (xa (pv 5) (xb))))))))
   (xk (x8 (i:=7) xbr.nd rfl (Or.inl rfl) (xb1 xfb rfl T.n_list boot_list (xa (pv 6) (xb))))
   (xk (x8 (i:=8) xbr.nd rfl (Or.inl rfl) (xt (xk9 T) (hr.mono (by decide)) rfl T.g_seen T.F_seen.kp T.b_seen .nil xj (xa (pv 7) (xb))))
   (xk (xb4 (xao (xaa (xet (xb6 hr)) (pv 7) (pv 6) (xaf _)) (xm (x0 (xe2))) (x9)))
   (xk (xaw (xoc PySem.F.plainAttrs_list PySem.F.slot_list_clear PySem.F.type_list_clear xj6 (pv 7)))
   (xk (xb4 (xao (xbh (xa9 (xt (ok_ab T) (hr.mono (by decide)) rfl T.g_ab T.F_ab.kp T.b_ab .nil xj (xz (pv 8) (xz (pv 1) (xz (pv 2) (xz (pv 4) (xz (pv 3) (xz (pv 5) (xb) rfl) rfl) rfl) rfl) rfl) rfl)))) (xm (x0 (xe2))) (x9)))
   (xk (x8 (i:=9) xbr.nd rfl (Or.inl rfl) (xt (xk9 T) (hr.mono (by decide)) rfl T.g_seen T.F_seen.kp T.b_seen .nil xj (xa (pv 6) (xb))))
   (xk (xaw (xoc PySem.F.plainAttrs_list PySem.F.slot_list_clear PySem.F.type_list_clear xj6 (xay xaz (pv 8) (xn) (fun _ _=>rfl))))
   (xk (xa4 PassesOwn.never rfl (xar (xba (xay xaz (pv 8) (xn) (fun _ _=>rfl)) T.c_n T.m_i (ok_i T) (hr.mono (by decide)) T.b_i .nil xj)) (xat rfl (xq (xo (i:=10) xbr.nd rfl (Or.inl rfl)) (xq (xo (i:=11) xbr.nd rfl (Or.inl rfl)) (xq (xo (i:=12) xbr.nd rfl (Or.inl rfl)) (xq (xo (i:=13) xbr.nd rfl (Or.inl rfl)) (xq (xo (i:=14) xbr.nd rfl (Or.inl rfl)) (xq (xo (i:=15) xbr.nd rfl (Or.inl rfl)) (xak)))))))) (xm (xaw (xa0 (xay xaz (pv 8) (xn) (fun _ _=>rfl)) T.c_n T.m_ac (ok_ac T) (hr.mono (by decide)) T.b_ac .nil xj (xa (pv 10) (xb))))))
   (xm (x0 (xt (ok_ab T) (hr.mono (by decide)) rfl T.g_ab T.F_ab.kp T.b_ab .nil xj (xz (pv 9) (xz (pv 1) (xz (pv 2) (xz (pv 4) (xz (pv 3) (xz (pv 5) (xb) rfl) rfl) rfl) rfl) rfl) rfl)))))))))))))))),?_⟩
  obtain⟨hs,nl,q⟩:=h
  refine⟨_,rfl,sc,ns,rfl,hs,fun w' h' H1 p1 w1 w2 h1 h2 s1 g1=>⟨p1,_,rfl,SqT.of g1,rfl,_,_,rfl,_,_,rfl,rfl,?_⟩⟩
  refine⟨_,rfl,_,rfl,sc,ns,h',rfl,Same.seqL s1 hs,h2,fun ss rs H2 ls l32 slt sb s2 fls e2 sl2=>?_⟩
  have s02:=s1.trans s2
  have sok:SsOk (h':Int) ss:=⟨xgk slt,l32,sb⟩
  obtain⟨ms,ems,m12⟩:=xol ns
  refine⟨_,rfl,3,rfl,15,rfl,sc,_,rfl,Same.seqL s02 hs,fun lc hlc=>?_⟩
  rw[ems]
  have s3:Same H2 (upd H2 lc (.lst (ms.map V.int))):=xp (Same.refl _) hlc
  have g3:upd H2 lc (.lst (ms.map V.int)) lc=some (.lst (ms.map V.int)):=xf
  revert s3 g3
  generalize upd H2 lc (.lst (ms.map V.int))=H3
  intro s3 g3
  refine⟨_,rfl,_,rfl,lc,ms,w',h',rfl,g3,m12,w1,w2,h1,h2,fun H5 lp ps qs pok _ s4 flp e5p pt5=>?_⟩
  have s24:=s3.trans s4
  have s05:=s02.trans s24
  have e5s:=s24 _ _ e2
  have sl5:=sl2.keep (Same.tups s24)
  refine⟨_,rfl,sc,ns,2,rfl,Same.seqL s05 hs,by decide,by decide,fun c2=>⟨_,rfl,_,rfl,_,rfl,w',c2,lp,ls,h',ps,ss,qs,rs,rfl,h2,e5p,pt5,pok,e5s,sl5,sok,fun H6 l prs ts pal s6 fl e6 pr6=>?_⟩⟩
  have e6p:=s6 _ _ e5p
  have pt6:=pt5.keep (Same.tups s6)
  have e6s:=s6 _ _ e5s
  have sl6:=sl5.keep (Same.tups s6)
  have o:Pict w' h' ps ss prs:=⟨w1,w2,h1,h2,pok,sok,pal⟩
  refine⟨_,rfl,_,rfl,_,rfl,_,rfl,_,rfl,w',h',lp,ls,l,ps,ss,prs,qs,rs,ts,rfl,w1,w2,h2,e6p,pt6,pok,e6s,sl6,l32,e6,pr6,pal,fun H7 du s7 fdu e7=>?_⟩
  have e7p:=s7 _ _ e6p
  have pt7:=pt6.keep (Same.tups s7)
  have e7s:=s7 _ _ e6s
  have sl7:=sl6.keep (Same.tups s7)
  have e7l:=s7 _ _ e6
  have pr7:=pr6.keep (Same.tups s7)
  refine⟨_,rfl,du,_,rfl,.inl (SqL.of e7),fun lh hlh=>?_⟩
  have s8:Same H7 (upd H7 lh (.lst (xbs w' h' (xah w' ps ss prs)))):=xp (Same.refl _) hlh
  have g8:upd H7 lh (.lst (xbs w' h' (xah w' ps ss prs))) lh=some (.lst (xbs w' h' (xah w' ps ss prs))):=xf
  revert s8 g8
  generalize upd H7 lh (.lst (xbs w' h' (xah w' ps ss prs)))=H8
  intro s8 g8
  have g8':=g8
  have e8':=s8 _ _ e7
  rw[xjx o.one] at g8' e8'
  refine⟨_,rfl,lh,w',xag w' h' ps ss prs,rfl,g8',o.good,o.sees,fun H9 q9 b9 dp9 do9 lp9 ts9 es9 fs9 s9 fq9 fb9 fl9 fd9 sn9=>?_⟩
  have s79:=s8.trans s9
  refine⟨fun σ H10=>H9=H10/\σ=[some (.ref sc),some (.int (w':Int)),some (.int (h':Int)),some (.ref ls),some (.ref lp),some (.ref l),some (.ref du),some (.ref lh),some (.ref q9),none,none,none,none,none,none,none],?_,?_⟩
  .exact ⟨_,rfl,_,rfl,1,1,_,_,xj1 (s9 _ _ g8),xj1 (s79 _ _ e7),by decide,by decide,_,rfl,ifN (by rw[xcr]; decide) ⟨rfl,rfl⟩⟩
  rintro σ _ ⟨rfl,rfl⟩
  have e9h:=s9 _ _ g8
  refine⟨_,rfl,.inl ⟨rfl,_,SqL.of e9h⟩,lh,_,rfl,rfl,e9h,?_⟩
  have k10:∀ c u,c≠lh->H9 c=some u->upd H9 lh (.lst []) c=some u:=fun c u nc e=>by rw[xg nc]; exact e
  revert k10
  generalize upd H9 lh (.lst [])=H10
  intro k10
  have t10:Tups H9 H10:=fun c xs e=>k10 _ _ (x5 e e9h (fun z=>nomatch z)) e
  have sn10:xc6 t H10 q9 b9 dp9 do9 lp9 ts9 w' (xag w' h' ps ss prs) es9 fs9:=by
   obtain⟨⟨dx,hpi⟩,⟨kp,hkp,_⟩,_⟩:=id sn9.dr.pic
   obtain⟨ko,hko,_⟩:=id sn9.dr.sts
   refine sn9.mv t10 fun c hc u e=>k10 _ _ ?_ e
   rcases hc with rfl|rfl|rfl|rfl
   .exact x5 hpi e9h (fun z=>nomatch z)
   .exact x5 hkp e9h (fun z=>nomatch z)
   .exact x5 hko e9h (fun z=>nomatch z)
   .exact Ne.symm (xi g8 fl9)
  have s710:Same H7 H10:=fun c u e=>k10 _ _ (xi e hlh) (s79 _ _ e)
  have e10p:=s710 _ _ e7p
  have pt10:=pt7.keep (Same.tups s710)
  have e10s:=s710 _ _ e7s
  have sl10:=sl7.keep (Same.tups s710)
  have e10l:=s710 _ _ e7l
  have pr10:=pr7.keep (Same.tups s710)
  have e10d:=s710 _ _ e7
  refine⟨fun σ H11=>Same H10 H11/\σ=[some (.ref sc),some (.int (w':Int)),some (.int (h':Int)),some (.ref ls),some (.ref lp),some (.ref l),some (.ref du),some (.ref lh),some (.ref q9),none,none,none,none,none,none,none],?_,?_⟩
  .exact ⟨_,rfl,_,rfl,_,rfl,_,rfl,_,rfl,_,rfl,q9,b9,dp9,do9,lp9,lp,ls,l,ts9,qs,rs,ts,w',h',ps,ss,prs,es9,fs9,rfl,o,sn10,e10p,pt10,e10s,sl10,e10l,pr10,fun H11 s11=>⟨_,rfl,ifN (by decide) ⟨s11,rfl⟩⟩⟩
  rintro σ H11 ⟨s11,rfl⟩
  have s711:=s710.trans s11
  have sn11:=sn10.same s11
  have e11d:=s711 _ _ e7
  rw[xjx o.one] at e11d
  refine⟨_,rfl,du,w',xag w' h' ps ss prs,rfl,e11d,o.good,o.sees,fun H12 q12 b12 dp12 do12 lp12 ts12 es12 fs12 s12 fq12 fb12 fl12 fd12 sn12=>?_⟩
  have sn9':=sn11.same s12
  have s712:=s711.trans s12
  have slp:=sn9'.lp
  refine⟨_,rfl,q9,_,1,.ref lp9,rfl,rfl,SqT.of sn9'.q,rfl,.inl ⟨rfl,_,SqL.of slp⟩,lp9,_,rfl,rfl,slp,?_⟩
  have k13:∀ c u,c≠lp9->H12 c=some u->upd H12 lp9 (.lst []) c=some u:=fun c u nc e=>by rw[xg nc]; exact e
  revert k13
  generalize upd H12 lp9 (.lst [])=H13
  intro k13
  have t13:Tups H12 H13:=fun c xs e=>k13 _ _ (x5 e slp (fun z=>nomatch z)) e
  have nl12:lp12≠lp9:=fun z=>by
   rw[z,sn11.lp] at fl12
   cases fl12
  have sn13:xc6 t H13 q12 b12 dp12 do12 lp12 ts12 w' (xag w' h' ps ss prs) es12 fs12:=by
   obtain⟨⟨dx,hpi⟩,⟨kp,hkp,_⟩,_⟩:=id sn12.dr.pic
   obtain⟨ko,hko,_⟩:=id sn12.dr.sts
   refine sn12.mv t13 fun c hc u e=>k13 _ _ ?_ e
   rcases hc with rfl|rfl|rfl|rfl
   .exact x5 hpi slp (fun z=>nomatch z)
   .exact x5 hkp slp (fun z=>nomatch z)
   .exact x5 hko slp (fun z=>nomatch z)
   .exact nl12
  have d9:=sn9'.dr.pic
  obtain⟨⟨dx9,hpi9⟩,⟨kp9,hkp9,pl9⟩,_⟩:=id d9
  have hpi13:=k13 _ _ (x5 hpi9 slp (fun z=>nomatch z)) hpi9
  have hkp13:=k13 _ _ (x5 hkp9 slp (fun z=>nomatch z)) hkp9
  have d13:Pic t H13 b9 dp9 do9 (w':Int) ((xag w' h' ps ss prs).length:Int) (es9.map (toPt (xag w' h' ps ss prs).length)):=⟨⟨dx9,hpi13⟩,⟨kp9,hkp13,pl9.keep t13⟩,d9.w1,d9.w2,d9.h1,d9.h2,d9.len⟩
  have q13:=t13 _ _ sn9'.q
  have l12:∀ c u,c≠lp9->H7 c=some u->H13 c=some u:=fun c u nc e=>k13 _ _ nc (s712 _ _ e)
  have nlp9:∀ c u,H7 c=some u->c≠lp9:=fun c u e=>xi (s8 _ _ e) fl9
  have s713:Same H7 H13:=fun c u e=>l12 c u (nlp9 c u e) e
  refine⟨_,rfl,q9,_,0,.ref b9,rfl,rfl,SqT.of q13,rfl,b9,dx9,_,rfl,hpi13,xa8 (by decide +kernel),b9,dp9,do9,_,_,_,rfl,d13,fun H14 l14 ds s14 e14 pt14=>⟨l14,rfl,⟨_,SqL.of e14⟩,?_⟩⟩
  have d14:=Pic.same s14 d13
  have hkp14:=s14 _ _ hkp13
  have s714:=s713.trans s14
  have sn14:=sn13.same s14
  have q14:=s14 _ _ q13
  have pokes:=xfo o.good sn9.pe
  have dsl:=pt14.len
  have nd12:dp12≠dp9:=fun z=>by
   rw[z] at fd12
   obtain⟨kvs,e,_⟩:=sn11.dr.pic.pl
   rw[e] at fd12
   cases fd12
  have ndp9:∀ c u,H7 c=some u->c≠dp9:=fun c u e=>xi (s8 _ _ e) fd9
  refine xa6 (xs:=ds.map V.ref) (Pv:=fun i σ H15=>∃(v10 v11 v12 v13 v14 v15:Option V),σ=[some (.ref sc),some (.int (w':Int)),some (.int (h':Int)),some (.ref ls),some (.ref lp),some (.ref l),some (.ref du),some (.ref lh),some (.ref q9),some (.ref q12),v10,v11,v12,v13,v14,v15]/\(∀ c u,c≠dp9->H14 c=some u->H15 c=some u)/\Pic t H15 b9 dp9 do9 (w':Int) ((xag w' h' ps ss prs).length:Int) ((es9.map (toPt (xag w' h' ps ss prs).length)).drop i)) ⟨_,_,_,_,_,_,rfl,fun c u _ e=>e,d14⟩ ?_ ?_ ?_
  .rintro i σ H15 _ ⟨_,_,_,_,_,_,rfl,k15,_⟩
   exact SqL.of (k15 _ _ (x5 e14 hkp14 (fun z=>nomatch z)) e14)
  .rintro i x σ H15 hx ⟨v10,v11,v12,v13,v14,v15,rfl,k15,d15⟩
   rw[List.getElem?_map,Option.map_eq_some_iff] at hx
   obtain⟨qa,hqa,rfl⟩:=hx
   obtain⟨p,hp,hq⟩:=pt14.get hqa
   have kt:∀ c xs,H14 c=some (.tup xs)->H15 c=some (.tup xs):=fun c xs e=>k15 _ _ (x5 e hkp14 (fun z=>nomatch z)) e
   obtain⟨⟨dx15,hpi15⟩,_⟩:=id d15
   refine⟨qa,_,rfl,SqT.of (kt _ _ hq),rfl,_,_,rfl,_,_,rfl,_,_,rfl,_,_,rfl,_,_,rfl,_,_,rfl,rfl,?_⟩
   obtain⟨df1,df2⟩:=xmt pokes.nn hp
   have pk:=pokes.ok p (List.mem_of_getElem? hp)
   refine⟨_,rfl,q9,_,0,.ref b9,rfl,rfl,SqT.of (kt _ _ q14),rfl,b9,dx15,_,rfl,hpi15,xa8 (by decide +kernel),_,rfl,b9,dp9,do9,_,_,_,p.nm,p,rfl,d15,pk.nm,df2,fun H16 k16 d16=>?_⟩
   rw[df1] at d16
   exact⟨_,_,_,_,_,_,rfl,fun c u nc e=>k16 _ _ nc (k15 _ _ nc e),d16⟩
  rintro σ H15 ⟨v10,v11,v12,v13,v14,v15,rfl,k15,d15⟩
  have t15:Tups H14 H15:=fun c xs e=>k15 _ _ (x5 e hkp14 (fun z=>nomatch z)) e
  have s715:Same H7 H15:=fun c u e=>k15 _ _ (ndp9 c u e) (s714 _ _ e)
  have sn15:xc6 t H15 q12 b12 dp12 do12 lp12 ts12 w' (xag w' h' ps ss prs) es12 fs12:=by
   obtain⟨⟨dx,hpi⟩,_⟩:=id sn14.dr.pic
   obtain⟨ko,hko,_⟩:=id sn14.dr.sts
   refine sn14.mv t15 fun c hc u e=>k15 _ _ ?_ e
   rcases hc with rfl|rfl|rfl|rfl
   .exact x5 hpi hkp14 (fun z=>nomatch z)
   .exact nd12
   .exact x5 hko hkp14 (fun z=>nomatch z)
   .exact x5 sn14.lp hkp14 (fun z=>nomatch z)
  exact⟨_,rfl,_,rfl,_,rfl,_,rfl,_,rfl,_,rfl,q12,b12,dp12,do12,lp12,lp,ls,l,ts12,qs,rs,ts,w',h',ps,ss,prs,es12,fs12,rfl,o,sn15,s715 _ _ e7p,pt7.keep (Same.tups s715),s715 _ _ e7s,sl7.keep (Same.tups s715),s715 _ _ e7l,pr7.keep (Same.tups s715),fun H16 _=>q _⟩
end
end S72
-- the names of the twins of whole trees and heaps are taken here,so that the head makes no such twins (they are what makes its compiled file large); see NOTE.md
namespace PySem.W.Fast
def tw10808168033995333483:=0
def tw13712752991677235141:=0
def tw3429854486440404620:=0
def tw4937130188015846662:=0
def tw16921148992242660604:=0
def tw6208878841353063374:=0
def tw16293735597198672813:=0
def tw18107121791112893126:=0
def tw7608757630258400708:=0
def tw8419696696705703122:=0
def tw6185889559530627391:=0
def tw17031319548308384366:=0
def tw5056449664277456626:=0
def tw15630089267915611891:=0
def tw17096965078921643983:=0
def tw10517206824473210099:=0
def tw9629594442451102657:=0
def tw11756396678520515488:=0
def tw10395401280546274064:=0
def tw5160397988215206164:=0
def tw7769412515450713313:=0
def tw16663526758657485749:=0
def tw10826530802778241116:=0
def tw7648153767364180710:=0
def tw4391742591706354242:=0
def tw9703915376705481000:=0
def tw144482711438686967:=0
def tw17865348958456309252:=0
def tw5865763103574603877:=0
def tw5308404393401336382:=0
def tw9330878995653264136:=0
def tw7332150098483266993:=0
def tw16357689908314739749:=0
def tw4649092033432781439:=0
def tw16063110475410129116:=0
def tw8174553964744485554:=0
def tw17612773225338703019:=0
def tw5761909222375674853:=0
def tw3457374725315189596:=0
def tw17056004681434470342:=0
def tw15713245359623782939:=0
def tw14874992564112262358:=0
def tw11463139779490649361:=0
def tw10321024905785620606:=0
def tw4947454199080183011:=0
def tw10033544045105764425:=0
def tw1677544410927402398:=0
def tw14012653385646961359:=0
def tw1949946066938328600:=0
def tw6438616830501090790:=0
def tw16022733178757646355:=0
def tw6579830376741632986:=0
def tw2271546670006397299:=0
def tw2200103160159658487:=0
def tw14610008794536588712:=0
def tw2079079496576782877:=0
def tw3446610239378633887:=0
def tw7551369380391638005:=0
def tw324285728872602249:=0
def tw7059147575041639774:=0
def tw10524060123106641789:=0
def tw3372249250337765933:=0
def tw17946588641732141114:=0
def tw8540464460337149300:=0
def tw14083833541423785754:=0
def tw5238383109759532947:=0
def tw3372591649988346145:=0
def tw15277869187696641021:=0
def tw14663496378251107767:=0
def tw6892515714340594086:=0
def tw5024256322560120925:=0
def tw10338449182856637448:=0
def tw13832955284171053668:=0
def tw9479710001851819774:=0
def tw10866766864217359646:=0
def tw1803959256703153050:=0
def tw5381291060405236914:=0
def tw16329367994789377315:=0
def tw8857263250121285459:=0
def tw6688083309053583998:=0
def tw18181655798623043831:=0
def tw15128267218432512107:=0
def tw1441691872894745637:=0
def tw399064527966635617:=0
def tw9171707161168588489:=0
def tw11999248049878401911:=0
def tw8282338691696954633:=0
def tw4153783185821941864:=0
def tw2222197928557007362:=0
def tw9359980925583721117:=0
def tw17317026712788522808:=0
def tw8635828644547484305:=0
def tw7638969885272645084:=0
def tw6745176072184937244:=0
def tw12837129744869540290:=0
def tw14072427171337769124:=0
def tw6182433560505474623:=0
def tw17759091561343801882:=0
def tw1444576430502883252:=0
def tw9200441993623586877:=0
def tw8965716608642814721:=0
def tw13724047220190205517:=0
def tw16606016300218289574:=0
def tw5002730514250418352:=0
def tw650444264543949579:=0
def tw18396514231660228916:=0
def tw14443300869043202544:=0
def tw13473856717178441179:=0
def tw6990417515457938756:=0
def tw14699684334432856940:=0
def tw10674130858534539930:=0
def tw13533176839836844781:=0
def tw7324576997128709821:=0
def tw4821585479197961613:=0
def tw2892396214507188792:=0
def tw10077697064933892714:=0
def tw9376326725635393720:=0
def tw8577487339173918656:=0
def tw8464471091304568065:=0
def tw646153264677275738:=0
def tw10934569338926386507:=0
def tw12540712854094136409:=0
def tw5418530454183603842:=0
def tw1740481586313642706:=0
def tw11382669277610296186:=0
def tw16047005279077697750:=0
def tw10480478136989008736:=0
def tw13984779323413293636:=0
def tw6645965771441380479:=0
def tw7300316587088684759:=0
def tw1945183121951246982:=0
def tw1857217764842152682:=0
def tw14521957209088726058:=0
def tw4308924711392288243:=0
def tw10236203487831295957:=0
def tw17223491348328267865:=0
def tw9837332597537842624:=0
def tw796125162000421214:=0
def tw12227190250289772584:=0
def tw5564671188629116810:=0
def tw5540954133538402553:=0
def tw7507085210805641864:=0
def tw3269994147276162649:=0
def tw1066619594814316715:=0
def tw14997562730171582599:=0
def tw11699578235893001444:=0
def tw17744784917840219565:=0
def tw10483450153338219636:=0
def tw6562039014858749382:=0
def tw1528626955829587792:=0
def tw14225041154223261414:=0
def tw8863238377691849262:=0
def tw15204152186706414854:=0
def tw2939007129394502532:=0
def tw8017479070512008443:=0
def tw2842068203004224665:=0
def tw17463507073701788333:=0
def tw3110411870896489825:=0
def tw1187479496163639163:=0
def tw13023547559083050198:=0
def tw11709482128904345464:=0
def tw9451298936608396360:=0
def tw14483073179905135311:=0
def tw9367305766578503822:=0
def tw16011796367838636905:=0
def tw14254589171966552101:=0
def tw10121971787665212375:=0
def tw17619090577428403129:=0
def tw5126618552745639455:=0
def tw241951002082210318:=0
def tw2715501049889489060:=0
def tw9467921030730612171:=0
def tw5484455694891841670:=0
def tw7667554633455709983:=0
def tw6721972280081748801:=0
def tw10550752400808082673:=0
def tw12274986135237726970:=0
def tw17973235517551880815:=0
def tw8410476972060767783:=0
def tw15479969368268191782:=0
def tw4430901836085706860:=0
def tw10312859203268803990:=0
def tw13860616273113446386:=0
def tw13003612228751804964:=0
def tw6043267748971189830:=0
def tw7434980395596314086:=0
def tw17140977751442788955:=0
def tw13314214325068668253:=0
def tw971854771332891294:=0
def tw17544426830900636386:=0
def tw17115757268651022782:=0
def tw14708545173246127018:=0
def tw9340454550938839233:=0
def tw12297768523314933158:=0
def tw12006132618259394502:=0
def tw601307339032237811:=0
def tw10229711903268089224:=0
def tw17805564676918382778:=0
def tw5741980109381859832:=0
def tw2097224947155408109:=0
def tw3019922340139573623:=0
def tw9099743877554956060:=0
def tw14109128941447882170:=0
def tw17768628483273096981:=0
def tw13989191814210429454:=0
def tw10634000228682687990:=0
def tw16907395949997832120:=0
def tw11946455428518424379:=0
def tw6610061575055076606:=0
def tw4623010411261573636:=0
def tw7656058348957450303:=0
def tw8777877808394947680:=0
def tw12720663583258854758:=0
def tw15097425155199275132:=0
def tw578881737438153971:=0
def tw9464894107686568138:=0
def tw7794406532934034052:=0
def tw5238641649800210142:=0
def tw17973695133584701837:=0
def tw2286211672604250378:=0
def tw9074888858564016631:=0
def tw15399389695173012687:=0
def tw8604741034510976646:=0
def tw13996675245191668322:=0
def tw11804544205425383484:=0
def tw10734329700665402566:=0
def tw461886204688129044:=0
def tw9312507596297274581:=0
def tw14858237678140788396:=0
def tw8337057095424549503:=0
def tw6801413202623581134:=0
def tw14192033266165447388:=0
def tw3584003323598700602:=0
def tw8629256709699538776:=0
def tw6481203881650808115:=0
def tw11830398058999212779:=0
def tw3043852887610626524:=0
def tw12590967731671812904:=0
def tw15027449297189250019:=0
def tw16392870467057868748:=0
def tw5815893765001721103:=0
def tw8386999625161104613:=0
def tw3825923701811991099:=0
def tw3461470839854128619:=0
def tw9537866084182338411:=0
def tw1702887640801937760:=0
def tw3357911509353841598:=0
def tw11989202495153844795:=0
def tw6072464129504906612:=0
def tw9257619129668373903:=0
def tw16910619194430977860:=0
def tw2390385506711780999:=0
def tw4667243209486409572:=0
def tw17362944284314302643:=0
def tw17109217895523651628:=0
def tw5134516878193461817:=0
def tw5286949181415095105:=0
def tw186418550429178589:=0
def tw17945649925077048561:=0
def tw10739811138910591738:=0
def tw5559377607440190571:=0
def tw6042570555529680670:=0
def tw4654848580231095031:=0
def tw5874475556907354226:=0
def tw9950873492266407712:=0
def tw17339115203925226963:=0
def tw4722567288810240226:=0
def tw11016411988870603375:=0
def tw18439025116721369118:=0
def tw12100093316360386167:=0
def tw17597768464312134080:=0
def tw9946634406716535714:=0
def tw17791940010627453086:=0
def tw8956725598165780480:=0
def tw14563047595705292349:=0
def tw3260787893708566888:=0
def tw7875028117276140059:=0
def tw5499690097731592276:=0
def tw12877520077311990519:=0
def tw5592723899742940498:=0
def tw13300602367855505809:=0
def tw6396252916863521824:=0
def tw11633408967352451432:=0
def tw13172402631896652696:=0
def tw3270088513652350642:=0
def tw10360160223878532135:=0
def tw2772986788423968219:=0
def tw13024704733614129778:=0
def tw15169240852621787886:=0
def tw1750449900567310228:=0
def tw861177303241343463:=0
def tw6862255433242900267:=0
def tw4736623847676801926:=0
def tw15970735162001223018:=0
def tw12872111178270934590:=0
def tw3350439467256981424:=0
def tw16815677817369546855:=0
def tw6449258348614925228:=0
def tw9376760195561036112:=0
def tw2115444353353135673:=0
def tw10798102332107522079:=0
def tw7871039906458913335:=0
def tw15762063305131625075:=0
def tw1227592089575965892:=0
def tw17686513523057128922:=0
def tw2014658989501093891:=0
def tw13580057165581147251:=0
def tw917894637403669489:=0
def tw15018357349053292219:=0
def tw11034397203049349206:=0
def tw9714215114631948010:=0
def tw17106150566624871705:=0
def tw7214087683966317449:=0
def tw10824502147586410767:=0
def tw7084801239963710976:=0
def tw16969582053678302264:=0
def tw10412141058889586467:=0
def tw9632474303907369626:=0
def tw9951331865510047867:=0
def tw10895814478004313198:=0
def tw13988838767008078324:=0
def tw196614873891529044:=0
def tw7616884299844172014:=0
def tw3284009474627261851:=0
def tw1650906521540862856:=0
def tw8450875361437927920:=0
def tw9056915397134058615:=0
def tw16791257235162481776:=0
def tw11142314545437002619:=0
def tw16833867789639156490:=0
def tw4606629985578622249:=0
def tw125869980208299846:=0
def tw7997153554407259459:=0
def tw1240164620497657693:=0
def tw1654335021138905574:=0
def tw14098380461332799515:=0
def tw9783469080309015316:=0
def tw897872392217074855:=0
def tw18053990675960400357:=0
def tw17733450707816904806:=0
def tw6464563881923016122:=0
def tw15803861442015113668:=0
def tw18248307474355665544:=0
def tw13327036250934791961:=0
def tw10328483287352620776:=0
def tw12920824194204710824:=0
def tw8903929554665711467:=0
def tw3960501351321667569:=0
def tw3361029354842232189:=0
def tw15360320686038067486:=0
def tw8665494453498110231:=0
def tw13471466470489038594:=0
def tw11113298519614664907:=0
def tw2988490357444729846:=0
def tw14345168730038633972:=0
def tw203080325890349315:=0
def tw1581366018031428255:=0
def tw2900113381376566736:=0
def tw8398302309476952669:=0
def tw10415160284586238873:=0
def tw17146827080922662427:=0
def tw8083721124082482296:=0
def tw16047447812912903053:=0
def tw16232039771652142073:=0
def tw3986534057880317067:=0
def tw7397997340848453703:=0
def tw7023799578995820631:=0
def tw5258192966591194856:=0
def tw12327685641821825876:=0
def tw2765957798740955960:=0
def tw9536619634888342738:=0
def tw7856402520794521286:=0
def tw16945470644568937830:=0
def tw18040312843351166795:=0
def tw6920185726441477880:=0
def tw13278519991900414789:=0
def tw10852752388795325279:=0
def tw11013298547284251513:=0
def tw8755058159142756038:=0
def tw515770343360218913:=0
def tw10877179222010568512:=0
def tw4363949947703452046:=0
def tw8667996050328715256:=0
def tw5293153251451702164:=0
def tw12378291192899713844:=0
def tw2371588833913771304:=0
def tw9739953813247753901:=0
def tw18112227253743392203:=0
def tw1284138323875678246:=0
def tw12950771116037067574:=0
def tw2070808667525179132:=0
def tw6684712257926296861:=0
def tw5595719334050534860:=0
def tw221064703677245026:=0
def tw2142046044572505948:=0
def tw3368059526441071032:=0
def tw9097186927998110227:=0
def tw10532022442877965229:=0
def tw11677041693359985766:=0
def tw6195544755060406424:=0
def tw13304256890058403113:=0
def tw10850207666376580388:=0
def tw745235943322763270:=0
def tw11141011934611127531:=0
def tw3774394459677229328:=0
def tw5266047429118686789:=0
def tw11103009860147534157:=0
def tw7065810346696513373:=0
def tw6948935393805488362:=0
def tw4532075744364910864:=0
def tw2224973360844510015:=0
def tw17044486766359905502:=0
def tw7977809016211960533:=0
def tw4215524890994393146:=0
def tw9615120087724498518:=0
def tw1958531901689420280:=0
def tw13858291688150036726:=0
def tw7204045864551287817:=0
def tw4628862769633339539:=0
def tw1546670662366065224:=0
def tw15751567540870288016:=0
def tw12765096011006867081:=0
def tw16447085691292349319:=0
def tw14577230239607983123:=0
def tw15982547981906373370:=0
def tw16399239999516483107:=0
def tw6783188874839136773:=0
def tw18205258112901203289:=0
def tw7389945446090205670:=0
def tw5044846218080334996:=0
def tw18016603126211043097:=0
def tw7644132343468159292:=0
def tw2513909630172907191:=0
def tw2054213763419151920:=0
def tw3619027173501132356:=0
def tw13647415675475489159:=0
def tw5284711903580700562:=0
def tw16797162996948614986:=0
def tw1454883946232987076:=0
def tw1570592659266387428:=0
def tw1606649855502700242:=0
def tw18134503321213576774:=0
def tw2990791649742652598:=0
def tw17188221832358249219:=0
def tw11538573330864138108:=0
def tw1031121716025236630:=0
def tw14742654024287968945:=0
def tw7139951301118217040:=0
def tw12009153441914175404:=0
def tw7927654213634690094:=0
def tw1101875494418229832:=0
def tw7831169772948479840:=0
def tw1435985482961727001:=0
def tw2118265903049784973:=0
def tw17210223722675834121:=0
def tw5204719002165487813:=0
def tw5120664392131851116:=0
def tw7561519470268874977:=0
def tw11999267449035108986:=0
def tw12896518882958239430:=0
def tw4839485128341749567:=0
def tw15758220766659756865:=0
def tw15151987922179935330:=0
def tw17679271470394374352:=0
def tw7544279394284386399:=0
def tw1131641034033562563:=0
def tw14762129457052817796:=0
def tw11193312892019729764:=0
def tw11749901168147106265:=0
def tw16740881685407663076:=0
def tw6852588679045219426:=0
def tw1509395768599956213:=0
def tw10585591916585018898:=0
def tw3904792592871505213:=0
def tw4447049788829273644:=0
def tw15070855811794339019:=0
def tw629545602443516244:=0
def tw12211696222869304797:=0
def tw4978277061635012423:=0
def tw14485438929464253961:=0
def tw7428319539257091352:=0
def tw11618076621979877350:=0
def tw10076635626618922817:=0
def tw7592499782132963567:=0
def tw4360416515663947243:=0
def tw5459991158341780240:=0
def tw5372511536429562021:=0
def tw17115814755829731306:=0
def tw4268260189302522812:=0
def tw1182816088947955141:=0
def tw11394934975645061293:=0
def tw15205779666055081712:=0
def tw12497543692788975998:=0
def tw9027888411004403462:=0
def tw11684371123466847111:=0
def tw6219943600150786017:=0
def tw5681787018039325929:=0
def tw12656554868181376829:=0
def tw6381309219856778603:=0
def tw7104059833998729083:=0
def tw1718847306917656667:=0
def tw1623919175047410697:=0
def tw7044704408297438542:=0
def tw3393378262713039399:=0
def tw2960966547199834532:=0
def tw4323773800708251405:=0
def tw4815140777804273752:=0
def tw12435016543644229859:=0
def tw12208516087722655728:=0
def tw12591196745148942596:=0
def tw4449567006323652251:=0
def tw10041385285233219938:=0
def tw6044634147434228485:=0
def tw14537753227641888187:=0
def tw9454171157539627329:=0
def tw13701587326058050925:=0
def tw14960060325993544374:=0
def tw15093769451879239315:=0
def tw9044416419708251867:=0
def tw3950959571196462612:=0
def tw25992272589575936:=0
def tw11416717416956845537:=0
def tw9659036076474152700:=0
def tw15178144258971672665:=0
def tw6362922944532078763:=0
def tw14618821828003112360:=0
def tw17020238003925903738:=0
def tw8504954211139629251:=0
def tw5956996402039681745:=0
def tw10680590923552334170:=0
def tw6374351153859679616:=0
def tw14258433404948312226:=0
def tw16635543547801837746:=0
def tw8503411754426748245:=0
def tw3223771652737532704:=0
def tw3528776223005031630:=0
def tw3545146354441098931:=0
def tw1232295352509472391:=0
def tw10845814056647147849:=0
def tw10258869315296756368:=0
def tw7349388938779870438:=0
def tw14746221439595781767:=0
def tw10822744141410752421:=0
def tw26985227181172851:=0
def tw12558046337524872487:=0
def tw10595564692420389743:=0
def tw13058406167349964909:=0
def tw16068070049651950080:=0
def tw18279568184532624349:=0
def tw13281188450437616419:=0
def tw6327111011399565132:=0
def tw12423664195475552031:=0
def tw1497524304064254499:=0
def tw14942296817136725822:=0
def tw8628410410533524115:=0
def tw8514734630012172415:=0
def tw6787580764319387239:=0
def tw15065002901021538098:=0
def tw1013899511983122792:=0
def tw3739623355025074174:=0
def tw5133000950633316089:=0
def tw12335611914421049641:=0
def tw4028709544639933409:=0
def tw10644669383287614478:=0
def tw14621922705094902433:=0
def tw8619743971931185371:=0
def tw10094910850898351117:=0
def tw12293101488976373665:=0
def tw892656572259107287:=0
def tw16439455742819435250:=0
def tw10455570697421451068:=0
def tw3618057461504343303:=0
def tw15984883049490196943:=0
def tw4746461547228296847:=0
def tw15250290546995368703:=0
def tw6104194358333454023:=0
def tw262452603430737491:=0
def tw11496660455324512400:=0
def tw16473816124644570139:=0
def tw11041531762382060938:=0
def tw15557525879221863130:=0
def tw14308339825669439954:=0
def tw2261704925767919140:=0
def tw242570872635057599:=0
def tw17207025100918921685:=0
def tw15788126818084658803:=0
def tw14532049612628735729:=0
def tw11616565687793265274:=0
def tw17212560956046311361:=0
def tw11457671944487051453:=0
def tw13202681282771181432:=0
def tw11979563067383993958:=0
def tw11072830825098270124:=0
def tw16655661724114682097:=0
def tw15497875265280683110:=0
def tw16505827517686803567:=0
def tw17779803320076188488:=0
def tw14255005143968231127:=0
def tw15330732029969068085:=0
def tw13852014242524732880:=0
def tw4843278238161352607:=0
def tw18144508763344760242:=0
def tw2166989719856070760:=0
def tw9185537741688294951:=0
def tw2454192424093463049:=0
def tw10544025839761804677:=0
def tw3249457401899692683:=0
def tw16412395162876057301:=0
def tw1671598720831013770:=0
def tw1295342091643350988:=0
def tw11862476725381157202:=0
def tw4949334886345071465:=0
def tw11768535800052800832:=0
def tw18136908578099199004:=0
def tw12758647860386476511:=0
def tw13790304422660534653:=0
def tw8852980579564243907:=0
def tw7394584423624901343:=0
def tw9875388217733287784:=0
def tw13739950024686726902:=0
def tw874461472885775311:=0
def tw5254361804920428524:=0
def tw4199509919430103826:=0
def tw8429008699326847127:=0
def tw11696192549787882612:=0
def tw1717806516611571023:=0
def tw3404614549281676152:=0
def tw5190045972855741413:=0
def tw17059867960040110681:=0
def tw2393805355787701226:=0
def tw5505989631833096111:=0
def tw4078018808585928815:=0
def tw15430303571026597208:=0
def tw3773727621814510903:=0
def tw2027368920426710946:=0
def tw15087447197313374667:=0
def tw10407626499082410042:=0
def tw10489622643905929793:=0
def tw1145569252323725583:=0
def tw10584833237399414586:=0
def tw13716260900655293034:=0
def tw17828421513643039084:=0
def tw5608491597800270873:=0
def tw9572102470200167065:=0
def tw18440520940617710783:=0
def tw6187511169571945540:=0
def tw12169218048831025195:=0
def tw10455577001311130879:=0
def tw3828878468616816022:=0
def tw3894207275981791172:=0
def tw6359122175565326427:=0
def tw4080446782846905147:=0
def tw11155623388436932039:=0
def tw182226513593502152:=0
def tw2116794069748956985:=0
def tw11833745571379140479:=0
def tw8810694731588463673:=0
def tw8794329950128485905:=0
def tw14196605699725992583:=0
def tw11209423167042464398:=0
def tw16897950449735057633:=0
def tw15547869248674015452:=0
def tw3747168592895296856:=0
def tw16781322067457456548:=0
def tw3830132866200602235:=0
def tw7830306102463289639:=0
def tw2684245045305880848:=0
def tw9161877022293388539:=0
def tw15131005493291105387:=0
def tw13989040756120089617:=0
def tw15092775091046310757:=0
def tw14047275723587566333:=0
def tw9059896825085938311:=0
def tw9827120541295187723:=0
def tw6479682102929868911:=0
def tw14822657901956334988:=0
def tw7994036317848756622:=0
def tw4979997104491821742:=0
def tw2249079054064381941:=0
def tw4625473814078640850:=0
def tw12810326237985404066:=0
def tw12498298729199319809:=0
def tw9976953298678604699:=0
def tw3897745236923245795:=0
def tw5352510926033065155:=0
def tw14560326008012917195:=0
def tw9737719131469229765:=0
def tw1095193588082697592:=0
def tw10570408361601551542:=0
def tw14441834898523895658:=0
def tw9293871240294403016:=0
def tw14611254478534494717:=0
def tw4618621087534555605:=0
def tw15937242580300113238:=0
def tw14133551366889171844:=0
def tw1693763839293266940:=0
def tw9942888479618122086:=0
def tw16293622343619635036:=0
def tw5477236636337084032:=0
def tw13485091032065141390:=0
def tw10722741168602930272:=0
def tw14997795302195779144:=0
def tw4246909224593951603:=0
def tw2525008556332475116:=0
def tw5255044577573645741:=0
def tw11367656286082215033:=0
def tw16693987155889579268:=0
def tw17491679999626234520:=0
def tw11620676613078402192:=0
def tw11763592816432677238:=0
def tw10423376374335402467:=0
def tw12624823533506281132:=0
def tw2516834857179295743:=0
def tw11099116612457833933:=0
def tw10216804036566182499:=0
def tw16373891926614632169:=0
def tw16948810740972026054:=0
def tw15896420841678023998:=0
def tw7663022618149049867:=0
def tw2892423779941408727:=0
def tw10830538437273659159:=0
def tw6777609514273898681:=0
def tw16868736341206688392:=0
def tw583413919059916118:=0
def tw13215863653360016805:=0
def tw6420866860684320793:=0
def tw5935599491337610825:=0
def tw866315004753689675:=0
def tw9341238307639342197:=0
def tw15156360249511606057:=0
def tw3084908879445940479:=0
def tw8677616819542712763:=0
def tw10805550408683204118:=0
def tw10166085044805474055:=0
def tw1716657029346484462:=0
def tw14861954525446650578:=0
def tw16389705175335496462:=0
def tw398466480249867705:=0
def tw11203169001635850089:=0
def tw2116341496879433762:=0
def tw13933289594992536855:=0
def tw11400072289091878676:=0
def tw4623626305845771490:=0
def tw992930082611540707:=0
def tw16464362123054021534:=0
def tw5768070273648382087:=0
def tw208940265143829202:=0
def tw1393900426951141256:=0
def tw465154238399643227:=0
def tw6315521374637596678:=0
def tw2090975628077504914:=0
def tw1638097112184142057:=0
def tw13140185259180467081:=0
def tw10428209513629840142:=0
def tw17527868606473172729:=0
def tw4360757618773968165:=0
def tw1490851510604498248:=0
def tw16905253752042310377:=0
def tw5141960430178178391:=0
def tw13633776385199044775:=0
def tw7100822474290196969:=0
def tw16872995238818617728:=0
def tw16209938781236970832:=0
def tw8465194494991565269:=0
def tw3281898036392693409:=0
def tw7515406466117225766:=0
def tw2657964384365781755:=0
def tw3174549247351106174:=0
def tw15543271531481824544:=0
def tw12043217053318376112:=0
def tw3420681298787727684:=0
def tw15324024233712168589:=0
def tw4842803689279234294:=0
def tw9230866603185107442:=0
def tw16963636129773504944:=0
def tw16967146323261817770:=0
def tw16194611699775318930:=0
def tw17839014053438039672:=0
def tw3345263888911769240:=0
def tw11058156721285901623:=0
def tw281401701161828233:=0
def tw4317544578500849823:=0
def tw16367866210101117161:=0
def tw13938269695961931350:=0
def tw6810631874527641320:=0
def tw3149564223321018285:=0
def tw18384092645210548807:=0
def tw1450456383255696817:=0
def tw7486536250801117138:=0
def tw9364829449441955648:=0
def tw15398807541261990975:=0
def tw12067844356692704513:=0
def tw10255846267426512573:=0
def tw15305212583902890521:=0
def tw14670810318702314192:=0
def tw14293206170278016956:=0
def tw3716782600781348731:=0
def tw11925011660071470542:=0
def tw6153633665433739190:=0
def tw18415010132882229241:=0
def tw7565190204536924582:=0
def tw7774363131483023174:=0
def tw17169481223551940335:=0
def tw3532633844451859349:=0
def tw730672888222812401:=0
def tw10150742326730965590:=0
def tw1687029754717621856:=0
def tw16877819268905360965:=0
def tw9811770565119438705:=0
def tw1715782559919239239:=0
def tw18135333936049636567:=0
def tw7863175823133110163:=0
def tw11995216105337117670:=0
def tw9947904249880226960:=0
def tw9318053695919641855:=0
def tw3585754684026417946:=0
def tw9399959608588598560:=0
def tw15122342172993445541:=0
def tw3550255011372150459:=0
def tw7346326789681492979:=0
def tw6066955974405473128:=0
def tw5129300681256584901:=0
def tw3682597915998893535:=0
def tw9882113574442156350:=0
def tw4674311790352181280:=0
def tw1667703084829216956:=0
def tw5547313673826566802:=0
def tw7449481298272476850:=0
def tw13965864247985102354:=0
end PySem.W.Fast
namespace S72
open PySem L2 XL
theorem walk {l:PySem.W.OpenLaw}{q:Program}{loose:List Str}{XP:(Str->Option Value)->Heap->Prop}{YP:World->Heap->Prop}{d:DefRec}{K:Params->PySem.W.Frag} (hn:l.most=some 63) (hdf:d.params.defaults=[])
    (hY:∀(w:World) (h:Heap),YP w h->(K w.params).In h)
    (F:∀(w:World) (mg:Str->Option Value) (fa:Addr) (h:Heap),(K w.params).In h->h.Ns mainGlobals mg->mg d.name=some (.ref fa) ->
      ∃ fd:FuncData,(∀(s:Shared) (u:Value),BindsTo s fd ⟨[u],[]⟩ [("_law_script",u)])/\∀ base:Heap,(K w.params).In base->base.Ns mainGlobals mg->FnOk true l.prog w (K w.params) mg base (CXo l.prog w) 10 fa fd ["_law_script"] (xi2 (K w.params))) :
    PySem.W.WalkO q loose XP YP l.row.toRowW d [] (fun f vs=>PySem.call f vs) :=
  L2.walk_of (q0:=true) (n:=63) (k:=10) (x:="_law_script") (CX:=fun w=>CXo l.prog w) (sp:=fun w=>xi2 (K w.params)) hn (by decide) hdf ⟨fun _=>rfl,by decide,by decide⟩ hY F (fun _ _ a ns hl _ hS=>⟨a,ns,rfl,hS,hl,fun _=>rfl⟩)
    fun w H s e s' z=>by obtain⟨_,_,_,_,_,_,_,_,_,_,_,_,_,_,q⟩:=z; exact q
theorem all_mk {l:PySem.W.OpenLaw}{w:World}{K:PySem.W.Frag}{h:Heap}{mg:Str->Option Value}{fa:Addr} (hfa:mg "law"=some (.ref fa)) (TT:∃ t,Txt w K mg t) :
    ∃ fd:FuncData,(∀(s:Shared) (v:Value),BindsTo s fd ⟨[v],[]⟩ [("_law_script",v)])/\∀ base:Heap,K.In base->base.Ns mainGlobals mg->FnOk true l.prog w K mg base (CXo l.prog w) 10 fa fd ["_law_script"] (xi2 K):=by
  obtain⟨t,T⟩:=TT
  have e:=hfa.symm.trans T.g_law
  cases e
  refine⟨t.d_law,fun s v=>?_,fun base _ _=>xsv T⟩
  obtain⟨oc,od,kV,doc,pm,an,cdv,ct,osl,e,lk,hcd⟩:=T.F_law.ex
  rw[e]
  exact .of_eq rfl
end S72
open PySem PySem.W PyProof.Rows
set_option maxRecDepth 100000 in
set_option maxHeartbeats 0 in
theorem PySem.Challenge.cw_rimnotes_k72_rows_read_back_holds : PySem.Challenge.rw_rimnotes_k72_rows_read_back.Holds := by
 w_on; o_law; k_head; (case hw=>w_witness2)
 k_fill
 refine S72.walk (l:=PySem.Challenge.rw_rimnotes_k72_rows_read_back) rfl rfl (fun w h Y=>PySem.W.kIn_of Y) ?F
 case F =>
  intro w mg fa h KX G hmg
  refine S72.all_mk (h:=h) hmg ?TT
  refine' S72.txt_mk (w:=w) KX G ?g_a3 ?g_aw ?g_ak ?g_n ?g_ao ?a_ar ?l_ar ?c_ar ?k_ar ?i_ar ?a_w ?l_w ?c_w ?k_w ?i_w ?a_y ?l_y ?c_y ?k_y ?i_y ?a_l ?l_l ?c_l ?k_l ?i_l ?a_q ?l_q ?c_q ?k_q ?i_q ?a_r ?l_r ?c_r ?k_r ?i_r ?a_h ?l_h ?c_h ?k_h ?i_h ?a_au ?l_au ?c_au ?k_au ?i_au ?a_ay ?l_ay ?c_ay ?k_ay ?i_ay ?a_al ?l_al ?c_al ?k_al ?i_al ?a_ax ?l_ax ?c_ax ?k_ax ?i_ax ?a_ae ?l_ae ?c_ae ?k_ae ?i_ae ?a_p ?l_p ?c_p ?k_p ?i_p ?t_p ?a_ac ?l_ac ?c_ac ?k_ac ?i_ac ?a_f ?l_f ?c_f ?k_f ?i_f ?a_i ?l_i ?c_i ?k_i ?i_i ?a_s ?l_s ?c_s ?k_s ?i_s ?a_e ?l_e ?c_e ?k_e ?i_e ?a_o ?l_o ?c_o ?k_o ?i_o ?a_b ?l_b ?c_b ?k_b ?i_b ?a_d ?l_d ?c_d ?k_d ?i_d ?a_a ?l_a ?c_a ?k_a ?i_a ?a_c ?l_c ?c_c ?k_c ?i_c ?a_u ?l_u ?c_u ?k_u ?i_u ?a_drawn ?l_drawn ?c_drawn ?k_drawn ?i_drawn ?a_az ?l_az ?c_az ?k_az ?i_az ?a_x ?l_x ?c_x ?k_x ?i_x ?a_aj ?l_aj ?c_aj ?k_aj ?i_aj ?a_ap ?l_ap ?c_ap ?k_ap ?i_ap ?a_af ?l_af ?c_af ?k_af ?i_af ?a_k ?l_k ?c_k ?k_k ?i_k ?a_g ?l_g ?c_g ?k_g ?i_g ?a_j ?l_j ?c_j ?k_j ?i_j ?a_aa ?l_aa ?c_aa ?k_aa ?i_aa ?a_seen ?l_seen ?c_seen ?k_seen ?i_seen ?a_ag ?l_ag ?c_ag ?k_ag ?i_ag ?a_av ?l_av ?c_av ?k_av ?i_av ?a_a1 ?l_a1 ?c_a1 ?k_a1 ?i_a1 ?a_z ?l_z ?c_z ?k_z ?i_z ?a_t ?l_t ?c_t ?k_t ?i_t ?a_ad ?l_ad ?c_ad ?k_ad ?i_ad ?a_v ?l_v ?c_v ?k_v ?i_v ?a_as ?l_as ?c_as ?k_as ?i_as ?a_aq ?l_aq ?c_aq ?k_aq ?i_aq ?a_at ?l_at ?c_at ?k_at ?i_at ?a_ai ?l_ai ?c_ai ?k_ai ?i_ai ?a_m ?l_m ?c_m ?k_m ?i_m ?a_an ?l_an ?c_an ?k_an ?i_an ?a_a0 ?l_a0 ?c_a0 ?k_a0 ?i_a0 ?a_am ?l_am ?c_am ?k_am ?i_am ?a_ah ?l_ah ?c_ah ?k_ah ?i_ah ?a_ab ?l_ab ?c_ab ?k_ab ?i_ab ?a_law ?l_law ?c_law ?k_law ?i_law ?kc_a3 ?pg_a3 ?hd_a3 ?po_a3 ?sa_a3 ?mk_a3 ?ca_a3 ?mo_a3 ?kc_aw ?pg_aw ?hd_aw ?po_aw ?sa_aw ?mk_aw ?ca_aw ?mo_aw ?a_LeftSide_init ?kc_ak ?pg_ak ?hd_ak ?po_ak ?sa_ak ?mk_ak ?ca_ak ?mo_ak ?a_RightSide_init ?kc_n ?pg_n ?hd_n ?po_n ?sa_n ?mk_n ?ca_n ?mo_n ?kc_ao ?pg_ao ?hd_ao ?po_ao ?sa_ao ?mk_ao ?ca_ao ?mo_ao ?cg ?ct ?n_bb ?n_a4 ?n_a6 ?n_a5 ?n_ba ?n_a8 ?n_a7 ?n_a9 ?n_bg ?n_be ?n_abs ?n_bool ?n_dict ?n_enumerate ?n_int ?n_isinstance ?n_len ?n_list ?n_max ?n_min ?n_range ?n_reversed ?n_sorted ?n_str ?n_tuple ?v_bf ?v_bc ?v_bd ?g_a2 ?l_a2 ?ns_a2
  (case g_a3=>k_is)
  (case g_aw=>k_is)
  (case g_ak=>k_is)
  (case g_n=>k_is)
  (case g_ao=>k_is)
  (case a_ar=>k_is)
  (case l_ar=>k_is)
  (case c_ar=>k_is)
  (case k_ar=>k_is)
  (case i_ar=>k_is)
  (case a_w=>k_is)
  (case l_w=>k_is)
  (case c_w=>k_is)
  (case k_w=>k_is)
  (case i_w=>k_is)
  (case a_y=>k_is)
  (case l_y=>k_is)
  (case c_y=>k_is)
  (case k_y=>k_is)
  (case i_y=>k_is)
  (case a_l=>k_is)
  (case l_l=>k_is)
  (case c_l=>k_is)
  (case k_l=>k_is)
  (case i_l=>k_is)
  (case a_q=>k_is)
  (case l_q=>k_is)
  (case c_q=>k_is)
  (case k_q=>k_is)
  (case i_q=>k_is)
  (case a_r=>k_is)
  (case l_r=>k_is)
  (case c_r=>k_is)
  (case k_r=>k_is)
  (case i_r=>k_is)
  (case a_h=>k_is)
  (case l_h=>k_is)
  (case c_h=>k_is)
  (case k_h=>k_is)
  (case i_h=>k_is)
  (case a_au=>k_is)
  (case l_au=>k_is)
  (case c_au=>k_is)
  (case k_au=>k_is)
  (case i_au=>k_is)
  (case a_ay=>k_is)
  (case l_ay=>k_is)
  (case c_ay=>k_is)
  (case k_ay=>k_is)
  (case i_ay=>k_is)
  (case a_al=>k_is)
  (case l_al=>k_is)
  (case c_al=>k_is)
  (case k_al=>k_is)
  (case i_al=>k_is)
  (case a_ax=>k_is)
  (case l_ax=>k_is)
  (case c_ax=>k_is)
  (case k_ax=>k_is)
  (case i_ax=>k_is)
  (case a_ae=>k_is)
  (case l_ae=>k_is)
  (case c_ae=>k_is)
  (case k_ae=>k_is)
  (case i_ae=>k_is)
  (case a_p=>k_is)
  (case l_p=>k_is)
  (case c_p=>k_is)
  (case k_p=>k_is)
  (case i_p=>k_is)
  (case t_p=>k_is)
  (case a_ac=>k_is)
  (case l_ac=>k_is)
  (case c_ac=>k_is)
  (case k_ac=>k_is)
  (case i_ac=>k_is)
  (case a_f=>k_is)
  (case l_f=>k_is)
  (case c_f=>k_is)
  (case k_f=>k_is)
  (case i_f=>k_is)
  (case a_i=>k_is)
  (case l_i=>k_is)
  (case c_i=>k_is)
  (case k_i=>k_is)
  (case i_i=>k_is)
  (case a_s=>k_is)
  (case l_s=>k_is)
  (case c_s=>k_is)
  (case k_s=>k_is)
  (case i_s=>k_is)
  (case a_e=>k_is)
  (case l_e=>k_is)
  (case c_e=>k_is)
  (case k_e=>k_is)
  (case i_e=>k_is)
  (case a_o=>k_is)
  (case l_o=>k_is)
  (case c_o=>k_is)
  (case k_o=>k_is)
  (case i_o=>k_is)
  (case a_b=>k_is)
  (case l_b=>k_is)
  (case c_b=>k_is)
  (case k_b=>k_is)
  (case i_b=>k_is)
  (case a_d=>k_is)
  (case l_d=>k_is)
  (case c_d=>k_is)
  (case k_d=>k_is)
  (case i_d=>k_is)
  (case a_a=>k_is)
  (case l_a=>k_is)
  (case c_a=>k_is)
  (case k_a=>k_is)
  (case i_a=>k_is)
  (case a_c=>k_is)
  (case l_c=>k_is)
  (case c_c=>k_is)
  (case k_c=>k_is)
  (case i_c=>k_is)
  (case a_u=>k_is)
  (case l_u=>k_is)
  (case c_u=>k_is)
  (case k_u=>k_is)
  (case i_u=>k_is)
  (case a_drawn=>k_is)
  (case l_drawn=>k_is)
  (case c_drawn=>k_is)
  (case k_drawn=>k_is)
  (case i_drawn=>k_is)
  (case a_az=>k_is)
  (case l_az=>k_is)
  (case c_az=>k_is)
  (case k_az=>k_is)
  (case i_az=>k_is)
  (case a_x=>k_is)
  (case l_x=>k_is)
  (case c_x=>k_is)
  (case k_x=>k_is)
  (case i_x=>k_is)
  (case a_aj=>k_is)
  (case l_aj=>k_is)
  (case c_aj=>k_is)
  (case k_aj=>k_is)
  (case i_aj=>k_is)
  (case a_ap=>k_is)
  (case l_ap=>k_is)
  (case c_ap=>k_is)
  (case k_ap=>k_is)
  (case i_ap=>k_is)
  (case a_af=>k_is)
  (case l_af=>k_is)
  (case c_af=>k_is)
  (case k_af=>k_is)
  (case i_af=>k_is)
  (case a_k=>k_is)
  (case l_k=>k_is)
  (case c_k=>k_is)
  (case k_k=>k_is)
  (case i_k=>k_is)
  (case a_g=>k_is)
  (case l_g=>k_is)
  (case c_g=>k_is)
  (case k_g=>k_is)
  (case i_g=>k_is)
  (case a_j=>k_is)
  (case l_j=>k_is)
  (case c_j=>k_is)
  (case k_j=>k_is)
  (case i_j=>k_is)
  (case a_aa=>k_is)
  (case l_aa=>k_is)
  (case c_aa=>k_is)
  (case k_aa=>k_is)
  (case i_aa=>k_is)
  (case a_seen=>k_is)
  (case l_seen=>k_is)
  (case c_seen=>k_is)
  (case k_seen=>k_is)
  (case i_seen=>k_is)
  (case a_ag=>k_is)
  (case l_ag=>k_is)
  (case c_ag=>k_is)
  (case k_ag=>k_is)
  (case i_ag=>k_is)
  (case a_av=>k_is)
  (case l_av=>k_is)
  (case c_av=>k_is)
  (case k_av=>k_is)
  (case i_av=>k_is)
  (case a_a1=>k_is)
  (case l_a1=>k_is)
  (case c_a1=>k_is)
  (case k_a1=>k_is)
  (case i_a1=>k_is)
  (case a_z=>k_is)
  (case l_z=>k_is)
  (case c_z=>k_is)
  (case k_z=>k_is)
  (case i_z=>k_is)
  (case a_t=>k_is)
  (case l_t=>k_is)
  (case c_t=>k_is)
  (case k_t=>k_is)
  (case i_t=>k_is)
  (case a_ad=>k_is)
  (case l_ad=>k_is)
  (case c_ad=>k_is)
  (case k_ad=>k_is)
  (case i_ad=>k_is)
  (case a_v=>k_is)
  (case l_v=>k_is)
  (case c_v=>k_is)
  (case k_v=>k_is)
  (case i_v=>k_is)
  (case a_as=>k_is)
  (case l_as=>k_is)
  (case c_as=>k_is)
  (case k_as=>k_is)
  (case i_as=>k_is)
  (case a_aq=>k_is)
  (case l_aq=>k_is)
  (case c_aq=>k_is)
  (case k_aq=>k_is)
  (case i_aq=>k_is)
  (case a_at=>k_is)
  (case l_at=>k_is)
  (case c_at=>k_is)
  (case k_at=>k_is)
  (case i_at=>k_is)
  (case a_ai=>k_is)
  (case l_ai=>k_is)
  (case c_ai=>k_is)
  (case k_ai=>k_is)
  (case i_ai=>k_is)
  (case a_m=>k_is)
  (case l_m=>k_is)
  (case c_m=>k_is)
  (case k_m=>k_is)
  (case i_m=>k_is)
  (case a_an=>k_is)
  (case l_an=>k_is)
  (case c_an=>k_is)
  (case k_an=>k_is)
  (case i_an=>k_is)
  (case a_a0=>k_is)
  (case l_a0=>k_is)
  (case c_a0=>k_is)
  (case k_a0=>k_is)
  (case i_a0=>k_is)
  (case a_am=>k_is)
  (case l_am=>k_is)
  (case c_am=>k_is)
  (case k_am=>k_is)
  (case i_am=>k_is)
  (case a_ah=>k_is)
  (case l_ah=>k_is)
  (case c_ah=>k_is)
  (case k_ah=>k_is)
  (case i_ah=>k_is)
  (case a_ab=>k_is)
  (case l_ab=>k_is)
  (case c_ab=>k_is)
  (case k_ab=>k_is)
  (case i_ab=>k_is)
  (case a_law=>k_is)
  (case l_law=>k_is)
  (case c_law=>k_is)
  (case k_law=>k_is)
  (case i_law=>k_is)
  (case kc_a3=>k_is)
  (case pg_a3=>k_is)
  (case hd_a3=>k_is)
  (case po_a3=>k_is)
  (case sa_a3=>k_is)
  (case mk_a3=>first|k_is|kernel_rfl)
  (case ca_a3=>k_is)
  (case mo_a3=>k_is)
  (case kc_aw=>k_is)
  (case pg_aw=>k_is)
  (case hd_aw=>k_is)
  (case po_aw=>k_is)
  (case sa_aw=>k_is)
  (case mk_aw=>first|k_is|kernel_rfl)
  (case ca_aw=>k_is)
  (case mo_aw=>k_is)
  (case a_LeftSide_init=>k_is)
  (case kc_ak=>k_is)
  (case pg_ak=>k_is)
  (case hd_ak=>k_is)
  (case po_ak=>k_is)
  (case sa_ak=>k_is)
  (case mk_ak=>first|k_is|kernel_rfl)
  (case ca_ak=>k_is)
  (case mo_ak=>k_is)
  (case a_RightSide_init=>k_is)
  (case kc_n=>k_is)
  (case pg_n=>k_is)
  (case hd_n=>k_is)
  (case po_n=>k_is)
  (case sa_n=>k_is)
  (case mk_n=>first|k_is|kernel_rfl)
  (case ca_n=>k_is)
  (case mo_n=>k_is)
  (case kc_ao=>k_is)
  (case pg_ao=>k_is)
  (case hd_ao=>k_is)
  (case po_ao=>k_is)
  (case sa_ao=>k_is)
  (case mk_ao=>first|k_is|kernel_rfl)
  (case ca_ao=>k_is)
  (case mo_ao=>k_is)
  (case cg=>k_is)
  (case ct=>k_is)
  (case n_bb=>k_is)
  (case n_a4=>k_is)
  (case n_a6=>k_is)
  (case n_a5=>k_is)
  (case n_ba=>k_is)
  (case n_a8=>k_is)
  (case n_a7=>k_is)
  (case n_a9=>k_is)
  (case n_bg=>k_is)
  (case n_be=>k_is)
  (case n_abs=>k_is)
  (case n_bool=>k_is)
  (case n_dict=>k_is)
  (case n_enumerate=>k_is)
  (case n_int=>k_is)
  (case n_isinstance=>k_is)
  (case n_len=>k_is)
  (case n_list=>k_is)
  (case n_max=>k_is)
  (case n_min=>k_is)
  (case n_range=>k_is)
  (case n_reversed=>k_is)
  (case n_sorted=>k_is)
  (case n_str=>k_is)
  (case n_tuple=>k_is)
  (case v_bf=>k_is)
  (case v_bc=>k_is)
  (case v_bd=>k_is)
  (case g_a2=>k_is)
  (case l_a2=>first|k_is|kernel_rfl)
  (case ns_a2=>kernel_rfl)
