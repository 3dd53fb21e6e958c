import PyProof.Rows.All
import Wide.All
import OpenK.AllK
import Wide.FinOn
import Lean
import PyProof.EqAt
import PyProof.EqKinds
import PyProof.TupleCall
import PyProof.StationsW
import PyProof.ExcClass2
import PyProof.RulesAs
import PyProof.ExcBaseAll.ValueError
import OpenK.KDescr
import OpenK.KWalk
import PyProof.ExcAttrAll.ValueError
import PyProof.Comp
import PyProof.ListRange
import PyProof.DictItems
import KE.KPairComp
import KE.KDictOf
import PyProof.AttrMissHeap
import PyProof.Rows.Range3
import KE.KRevIter
import PyProof.ZipIter
import OpenK.KEqL
import PyProof.AutoListH
import PyProof.EnumMake
import PyProof.WalksEnum
import PyProof.NeKinds
import PyProof.MaxThree
import KE.KSortTup
import PyProof.StrLawsIn
import PyProof.DictValues
import PyProof.DictIter
import PyProof.Draws
import PyProof.DictWalks
import PyProof.ListNew
import PyProof.ListStr
import KE.KIntText
import PyProof.Rows.FStr
import PyProof.MeetsStr
import PyProof.Rows.CallKwBuiltin
import PyProof.Rows.StrNews
import PyProof.Rows.StrNews2
import PyProof.StrLawsChain
import PyProof.StrLawsFirst
import PyProof.StrLawsTight
import PyProof.DictUpdate
import PyProof.Rows.SetFrom
import PyProof.DictStraight
import PyProof.SetRoads
import PySem.SetOps
import KE.KDictList
import PyProof.TupleKey
import PyProof.DictFindH
import PyProof.MeetsDictList
import PyProof.MeetsSeq3
import PyProof.Rows.SortStr
import PyProof.SliceStr2
import PyProof.StrBlockI
import PyProof.StrCalls
import PyProof.StrLaws
import PyProof.CollectIter
import PyProof.JoinWalk
import PySem.Challenge.RW_rimnotes_k76_mirrored_drawings
set_option maxRecDepth 100000
set_option maxHeartbeats 4000000
set_option Elab.async false
set_option linter.all false
open List renaming length_map→Za,mem_map→Zd,getElem?_map→Zf,getElem?_eq_getElem→Zh,getElem?_eq_some_iff→Zk,map_map→Zl,mem_of_getElem?→Zp,map_cons→Zr,length_append→Zs,length_range→Zv,mem_singleton→Zw,mem_cons→Zx,range→Zz,mem_cons_self→Z0,mem_cons_of_mem→Z1,lookup_cons→Z2,pairwise_map→Z3,size_toArray→Z5,mem_append→Z8,map_append→Z9,mem_filter→ZH,take_add_one→ZI,mem_range→ZL,mem_append_right→ZO,length_cons→ZQ,nodup_append→ZT,map_congr_left→ZX,lookup→Ja,nodup_cons→Jc,filter_cons_of_pos→Je,getElem?_append_left→Jg,filter_cons_of_neg→Jm,getElem?_append_right→Jp,getD_eq_getElem?_getD→Jq,length_take→Jt,getElem?_range→Ju,filter_append→Jy,take_length→Jz,not_mem_nil→J0,length_reverse→JA,getElem?_eq_none→JD,Nodup→JE,getElem_range→JF,take_of_length_le→JL,Pairwise→JN,filter_cons→JP,cons→JS,range_succ→JV,pairwise_append→JY,append_nil→Yh,length_singleton→Yk,reverse_perm→Ym,flatMap_cons→Yn,perm_ext_iff_of_nodup→Yp,reverse→Yr,nodup_range→Yu,mem_flatMap→Yv,map_reverse→Yw,mem_of_find?_eq_some→Yx,filterMap_cons→Yz,find?_cons→Y4,eraseIdx_eq_take_drop_succ→YG,getElem_map→YL,all_eq_true→YM,getElem?_set_ne→YO,map_eq_nil_iff→YU,flatMap_append→YV,pairwise_cons→Qb,foldl_append→Qd,any_cons→Qh,all_cons→Qi,mem_reverse→Qp,getElem_mem→Qq,length_eraseIdx_le→Qs,length_eq_zero_iff→Qt,getElem?_replicate→Qu,flatMap_singleton→Q0,find?_cons_of_pos→Q1,find?_cons_of_neg→Q2,filter_eq_nil_iff→Q3,take_append_drop→Q7,length_replicate→Q8,length_filter_le→Q9,getElem?_reverse→QA,length→QB,nodup_nil→QH,mem_append_left→QL,Perm→QO,filterMap_map→QW
open PySem.Str renaming ofString→Zb,join→Y0,length→Y5
open PySem renaming wpAny_bind→Zc,wpAny_pure→Zm,Spec→ZD,wpAny_mono→ZY,builtinLookup_eq_fast→Jb,wpAny_dictEntries→Jj,wpAny_call_entry→Js,wpAny_holding→J4,wpAny_truthy_bool→J5,wpAny_newObj_type→J6,mem_of_lookup→J9,typeLookup_type→JC,wpAny_callSpecial?_slot→JH,wpAny_specialOf→JI,wpAny_dictEpoch→JT,wpAny_field→JW,wpAny_attempt→JZ,boot_len→Yb,wpAny_typeNameOfWhole_keyiter→Ye,wpAny_typeOf→Yg,wpAny_of_eq→Yo,wpAny_isInstance→Yt,wpAny_Call_Name_kw→Y6,tupleKind_room_in1→Y7,isSubtype_type→YA,wpAny_isOneOf_keyiter→YH,wpAny_passesOwn→YR,wpAny_ite_split→YS,typeIs_str→YX,wpAny_pyIter_enum→Qc,plainId_quiet→Qg,wpAny_rule→Qv,call_meets→Qw,Within→Qy,codeAny_builtin→Q4,wpAny_notOrdered_dict→Q5,SetTable→QF,wpAny_pyIter_revIter→QJ,Builtin→QR
open PySem.W renaming Frag→Ze,mg_of→Z4,isFn→ZG,findIn→ZJ,mg_none_of→ZW,fnOf→Ji,kia_one→Jr,keepIn→Jw,emptyDict→J7,plainGet→JO,instObj→JU,hasDictIn→JX,plainOver→Yl,makesIn→Y2,codeIn→YB,nsIn→Qz,lookIn→QD,kitOne→QE,plainGet_of→QP,callWith_K→QV
open PySem.Heap renaming get?_push_of_some→Zg,lt_size→Zq,get?_push_size→Zu,SameBut→ZN,get?_update_self→ZU,get?_update_other→J8
open Option renaming map_eq_some_iff→Zi,some→JM,map_some→Y3,isSome_map→YC,bind_some→Qo
open Nat renaming le_refl→Zj,lt_of_le_of_lt→ZA,le_trans→ZB,lt_of_lt_of_le→ZF,ne_of_lt→ZK,lt_trans→ZV,zero_le→ZZ,le_of_lt→JG,ne_of_gt→Yq,lt_irrefl→Y1,mul_le_mul→QG,not_lt→QU
open PySem.Value renaming ref→Zn,none→Jd,bool→Yf,builtin→Yi,str→Qn,type→Qx,int→QN
open Or renaming inl→Zo,inr→ZS
open PySem.SeqAt renaming EqAt→Zt,RcNeAt→Z6,RcAt→ZC
open Bool renaming and_eq_true→Zy,false_ne_true→Z7,eq_iff_iff→Jh,eq_false_iff→Jk,false_eq_true→Jo,true_and→Ya,false_and→Yd,or_true→Ys,or_eq_true→YT,and_false→YZ,not_eq_true'→Qf,or_false→Qj,false_or→QT
open Ne renaming symm→ZE
open PySem.PassesOwn renaming never→ZM
open PyProof.Rows renaming callWith_type1→ZP,slot_tuple_getitem→YF,strKind→QK
open Prod renaming mk→ZR,ext→Yc
open Sum renaming inr→Jf,inl→Y9
open PySem.F renaming plainAttrs_list→Jl,slot_dict_keyiterator_next→JK,type_list_pop→YJ,slot_list_pop→YK,type_list_append→Qk,slot_list_append→Ql,slot_list_getattribute→Qm,plainAttrs_dict→Qr,slot_dict_get→Q6
open PySem.Obj renaming mapSeq→Jn,data_mapDictKeys→YN,data_mapFields→Qa,isFreed_of_dict→QQ
open Array renaming getElem?_toList→Jv,length_toList→JB,getElem?_eq_getElem→JR,map→YW
open True renaming intro→Jx
open ForInStep renaming yield→JJ
open False renaming elim→JQ
open PySem.Paired renaming length→Yj
open PySem.Calls renaming call_function_entry→Yy,spliced_cons→Y8,callWith_builtin→YE,spliced_nil→Qe,evalArgs_plain→QM
open Int renaming toNat_natCast→YD
open PySem.StrLaws renaming glued_eq_join→YI
open PySem.Around renaming under_plainId→YQ
open PUnit renaming unit→YY
open PySem.Data renaming fields→QC
open PySem.Builtin renaming sorted→QI
open PySem.NameKind renaming free→QS
namespace L2
open PySem PySem.Spec PyProof.Rows
variable {q0:Bool}
abbrev Key:=Sum Int Str
def xez:Key->Value->Bool
 | .inl k,v=>Value.isInt k v
 | .inr x,v=>Value.isStrOf x v
def keyH (w:World):Key->Int
 | .inl k=>hashInt k
 | .inr x=>hashStr w x
theorem xa8:∀{k:Key}{v:Value},xez k v=true->(∃ i t,k=Y9 i/\v=QN i t)\/(∃ x t,k=Jf x/\v=Qn x t)
 | .inl i,v,h=>by
  obtain⟨t,e⟩:=Value.isInt_shape (k:=i) (v:=v) h;exact .inl ⟨i,t,rfl,e⟩
 | .inr x,v,h=>by
  obtain⟨t,e⟩:=Value.isStrOf_shape (x:=x) (v:=v) h;exact .inr ⟨x,t,rfl,e⟩
theorem xny (i:Int) (t:Tok):xez (.inl i) (.int i t)=true:=by simp[xez,Value.isInt]
theorem xo3 (x:Str) (t:Tok):xez (.inr x) (.str x t)=true:=by simp[xez,Value.isStrOf]
theorem xs6 (a b:Int):decide ((Y9 a:Key)=Y9 b)=(a == b):=by
 by_cases e:a=b
 .subst e; simp
 .have h:¬ (Y9 a:Key)=Y9 b:=fun q=>e (Y9.inj q);rw[decide_eq_false h];exact (beq_eq_false_iff_ne.mpr e).symm
theorem xto (a b:Str):decide ((Jf a:Key)=Jf b)=decide (a=b):=by
 by_cases e:a=b
 .subst e; simp
 .have h:¬ (Jf a:Key)=Jf b:=fun q=>e (Jf.inj q);rw[decide_eq_false h,decide_eq_false e]
theorem xup (a:Int) (b:Str):decide ((Y9 a:Key)=Jf b)=false:=decide_eq_false (fun q=>nomatch q)
theorem xs4 (a:Str) (b:Int):decide ((Jf a:Key)=Y9 b)=false:=decide_eq_false (fun q=>nomatch q)
def xai (prog:Program) (w:World):PySem.KeyKind prog w Key where
 is:=xez
 hash:=keyH w
 inj:=fun v a b ha hb=>by
  rcases xa8 ha with⟨i,t,rfl,rfl⟩|⟨x,t,rfl,rfl⟩
  .rcases xa8 hb with⟨j,u,rfl,e⟩|⟨y,u,rfl,e⟩
   .injection e with e1 _; rw[e1]
   .exact nomatch e
  .rcases xa8 hb with⟨j,u,rfl,e⟩|⟨y,u,rfl,e⟩
   .exact nomatch e
   .injection e with e1 _; rw[e1]
 byValue:=fun k v h=>by
  rcases xa8 h with⟨i,t,rfl,rfl⟩|⟨x,t,rfl,rfl⟩<;>rfl
 pyHash:=fun hv h=>by
  rcases xa8 hv with⟨i,t,rfl,rfl⟩|⟨x,t,rfl,rfl⟩
  .exact wpAny_pyHash_int h
  .exact wpAny_pyHash_str h
 eqBool:=fun hu hv h=>by
  rcases xa8 hu with⟨i,t,rfl,rfl⟩|⟨x,t,rfl,rfl⟩
  .rcases xa8 hv with⟨j,u,rfl,rfl⟩|⟨y,u,rfl,rfl⟩
   .rw [xs6] at h; exact wpAny_eqBool_int h
   .rw [xup] at h; exact Zt.int_str i t y u _ _ _ _ h
  .rcases xa8 hv with⟨j,u,rfl,rfl⟩|⟨y,u,rfl,rfl⟩
   .rw [xs4] at h; exact Zt.str_int x t j u _ _ _ _ h
   .rw [xto] at h; exact wpAny_eqBool_str h
 «strs»:=fun k x t v h=>by
  rcases xa8 h with⟨i,u,rfl,e⟩|⟨y,u,rfl,e⟩
  .exact nomatch e
  .injection e with e1 _
   subst e1;cases v<;>rfl
theorem xk7 (prog:Program) (w:World) (i:Int) (t:Tok):(xai prog w).is (.inl i) (.int i t)=true:=xny i t
theorem xk4 (prog:Program) (w:World) (x:Str) (t:Tok):(xai prog w).is (.inr x) (.str x t)=true:=xo3 x t
inductive V where
 | non|bl (b:Bool)|int (i:Int)|str (x:Str)|byt (b:Array UInt8)|flt (b:UInt64)|ref (a:Addr)|ty (n:String)
 deriving DecidableEq
def RelV:V->Value->Prop
 | .non,u=>u=Jd
 | .bl b,u=>u=Yf b
 | .int i,u=>∃ t,u=QN i t
 | .str x,u=>∃ t,u=Qn x t
 | .byt b,u=>∃ t,u=Value.bytes b t
 | .flt b,u=>∃ t,u=Value.float b t
 | .ref a,u=>u=Zn a
 | .ty n,u=>u=Qx n
abbrev Vals:List V->List Value->Prop:=Paired RelV
theorem Vals.length {xs:List V}{us:List Value} (r:Vals xs us):xs.length=us.length:=Yj r
theorem Vals.get:∀{xs:List V}{us:List Value}{i:Nat}{x:V},Vals xs us->xs[i]?=some x->∃ u,us[i]?=some u/\RelV x u
 | _,_,_,_,.nil,e=>by simp at e
 | _,_,0,_,.cons r _,e=>by simp at e; subst e; exact⟨_,rfl,r⟩
 | _,_,i+1,x,.cons _ t,e=>by
  obtain⟨u,h1,h2⟩:=Vals.get (i:=i) (x:=x) t (by simpa using e);exact⟨u,by simpa using h1,h2⟩
theorem Vals.append:∀{xs ys:List V}{us ws:List Value},Vals xs us->Vals ys ws->Vals (xs++ys) (us++ws)
 | _,_,_,_,.nil,s=>s
 | _,_,_,_,.cons r t,s=>.cons r (Vals.append t s)
theorem Vals.take:∀{xs:List V}{us:List Value} (n:Nat),Vals xs us->Vals (xs.take n) (us.take n)
 | _,_,0,_=>.nil
 | _,_,_+1,.nil=>.nil
 | _,_,n+1,.cons r t=>.cons r (Vals.take n t)
theorem Vals.drop:∀{xs:List V}{us:List Value} (n:Nat),Vals xs us->Vals (xs.drop n) (us.drop n)
 | _,_,0,r=>r
 | _,_,_+1,.nil=>.nil
 | _,_,n+1,.cons _ t=>Vals.drop n t
def RelO:Option V->Option Value->Prop
 | some v,some u=>RelV v u
 | none,none=>True
 | _,_=>False
def KV {κ:Type}:List (κ × V)->List (κ × Value)->Prop:=Paired fun (p:κ × V) (q:κ × Value)=>p.1=q.1/\RelV p.2 q.2
def kV:Key->V
 | .inl i=>.int i
 | .inr x=>.str x
inductive HO where
 /-- a list -/
 | lst (xs:List V)
 /-- a tuple (never changes) -/
 | tup (xs:List V)
 /-- a dict whose keys are ints and texts; one whose keys are tuples of ints and texts (the empty one is both) -/
 | dK (kvs:List (Key × V))|dT (kvs:List (List Key × V))
 /-- a set of ints: its members,its size -/
 | set (S:Int->Bool) (n:Nat)
 /-- an instance of the class at C,its dict at dx,its attributes -/
 | ins (C dx:Addr) (fs:List (Str × V))
 /-- the dict of the instance at x -/
 | own (x:Addr)
 /-- the dict of an exception -/
 | xd (fs:List (Str × V))
 /-- a bound method,f of x -/
 | met (f x:Addr)
 /-- a range object lo,lo+1,.. below hi -/
 | rng (lo hi:Int)
 /-- a thing that is known to the object (the script; a dict while a loop walks it): read,never written while it is so -/
 | frz (o:Obj) (u:HO)
 /-- a code object's table -/
 | tbl (ps:Array Value)
 /-- any other thing,by what is true of its one object (a def of one's own: SetO a S n:=HO.ext fun h=>..) -/
 | ext (φ:Heap->Prop)
abbrev Hp:=Addr->Option HO
def upd (H:Hp) (a:Addr) (o:HO):Hp:=fun b=>if b=a then some o else H b
theorem xb {H:Hp}{a:Addr}{o:HO}:upd H a o a=some o:=by unfold upd; rw[if_pos rfl]
theorem xh {H:Hp}{a b:Addr}{o:HO} (h:b≠a):upd H a o b=H b:=by unfold upd; rw[if_neg h]
theorem xef {H:Hp}{a:Addr}{o u:HO}:upd (upd H a o) a u=upd H a u:=by
 funext b; unfold upd; split<;>rfl
theorem xae {H:Hp}{a b:Addr}{o u:HO} (h:H a=some o) (h':H b=some u) (d:o≠u):a≠b:=by
 intro e; subst e; rw[h] at h'; exact d (JM.inj h')
theorem xi {H:Hp}{a b:Addr}{o:HO} (h:H a=some o) (h':H b=none):a≠b:=by
 intro e; subst e; rw[h] at h'; cases h'
section
variable (P:Program) (w:World)
def xau (H:Hp) (h:Heap) (a:Addr):HO->Prop
  | .lst xs=>xs.length<=sizeLine/\∃(its:List Value) (n:Nat),Vals xs its/\h.get? a=some { cls:=.type "list",data:=.seq its.toArray n }
  | .tup xs=>xs.length<=sizeLine/\∃ its:List Value,Vals xs its/\IsTup h a its.toArray
  | .dK kvs=>kvs.length<=sizeLine/\(a == sysModules)=false/\∃ vs,KV kvs vs/\h.DictOf (xai P w) a vs
  | .dT kvs=>kvs.length<=sizeLine/\(a == sysModules)=false/\∃ xs:List (List Key × Addr × Value),
      Paired (fun (p:List Key × V) (q:List Key × Addr × Value)=>p.1=q.1/\H q.2.1=some (.tup (p.1.map kV))/\RelV p.2 q.2.2) kvs xs /\
      ∃ o es ep,h.get? a=some o/\o.ExactDict/\o.data=.dict es ep/\es.toList=xs.map (entryOfKey (tupleKind (xai P w)))/\(xs.map (·.1)).Nodup
  | .set S n=>h.SetOf (intKind P w) a S n
  | .ins C dx fs=>H dx=some (.own a)/\fs.length<=1000/\dx≠a/\h.get? a=some (JU C dx) /\
      ∃ mA,h.Ns1 dx mA/\(∀ f,RelO (fs.lookup f) (mA f))/\Qy mA (fs.map (·.1))
  | .own _=>∃ o,h.get? a=some o
  | .xd fs=>∃ mA,h.Ns1 a mA/\∀ f,RelO (fs.lookup f) (mA f)
  | .rng lo hi=>∃ t u v,h.get? a=some { cls:=.type "range",data:=.fields #[.int lo t,.int hi u,.int 1 v] }
  | .frz o u=>h.get? a=some o/\xau H h a u
  | .tbl ps=>h.get? a=some { cls:=.none,data:=.fields ps }
  | .met f x=>h.get? a=some (PySem.W.methodObj (.ref f) (.ref x))
  | .ext φ=>φ h/\(∃ o,h.get? a=some o)/\∀ h1 h2:Heap,φ h1->(∀ o,h1.get? a=some o->h2.get? a=some o)->φ h2
def HOk (H:Hp) (h:Heap):Prop:=∀ a o,H a=some o->xau P w H h a o
end
section
variable {P:Program}{w:World}{H H':Hp}{h h':Heap}{a:Addr}{o:HO}
theorem xau.lt (x:xau P w H h a o):a<h.objs.size:=by
 cases o with
 | lst xs=>obtain⟨_,_,_,_,e⟩:=x; exact Zq e
 | tup xs=>obtain⟨_,_,_,p⟩:=x; exact p.lt
 | dK kvs=>obtain⟨_,_,_,_,o,_,_,e,_⟩:=x; exact Zq e
 | dT kvs=>obtain⟨_,_,_,_,o,_,_,e,_⟩:=x; exact Zq e
 | set S n=>obtain⟨o,_,_,_,e,_⟩:=x; exact Zq e
 | ins C dx fs=>obtain⟨_,_,_,e,_⟩:=x; exact Zq e
 | own y=>obtain⟨_,e⟩:=x; exact Zq e
 | xd fs=>obtain⟨_,⟨_,_,_,e,_⟩,_⟩:=x; exact Zq e
 | rng lo hi=>obtain⟨_,_,_,e⟩:=x; exact Zq e
 | frz ob u=>obtain⟨e,_⟩:=x; exact Zq e
 | tbl ps=>exact Zq (show h.get? a=some _ from x)
 | met f y=>exact Zq (show h.get? a=some _ from x)
 | ext φ=>obtain⟨_,⟨_,e⟩,_⟩:=x; exact Zq e
theorem Paired.mapP {α β:Type}{F G:α->β->Prop}:∀{l₁:List α}{l₂:List β},Paired F l₁ l₂->(∀ a b,F a b->G a b)->Paired G l₁ l₂
 | _,_,.nil,_=>.nil
 | _,_,.cons r t,f=>.cons (f _ _ r) (Paired.mapP t f)
theorem xau.stay (x:xau P w H h a o) (k:∀ b u,(b=a\/H b=some (.own a))->h.get? b=some u->h'.get? b=some u)
    (ho:∀ b,H b=some (.own a)->H' b=some (.own a)) (ht:∀ b xs,H b=some (.tup xs)->H' b=some (.tup xs)):xau P w H' h' a o:=by
  induction o with
  | lst xs=>obtain⟨z,its,n,r,e⟩:=x; exact⟨z,its,n,r,k _ _ (.inl rfl) e⟩
  | tup xs=>obtain⟨z,its,r,ob,e,c⟩:=x; exact⟨z,its,r,ob,k _ _ (.inl rfl) e,c⟩
  | dK kvs=>obtain⟨z,y,vs,r,ob,es,ep,e,c⟩:=x; exact⟨z,y,vs,r,ob,es,ep,k _ _ (.inl rfl) e,c⟩
  | dT kvs =>
    obtain⟨z,y,xs,r,ob,es,ep,e,c⟩:=x;exact⟨z,y,xs,Paired.mapP r fun p q z=>⟨z.1,ht _ _ z.2.1,z.2.2⟩,ob,es,ep,k _ _ (.inl rfl) e,c⟩
  | set S n=>obtain⟨ob,es,ep,t,e,c⟩:=x; exact⟨ob,es,ep,t,k _ _ (.inl rfl) e,c⟩
  | ins C dx fs =>
    obtain⟨d,z,ne,e,mA,⟨od,es,ep,e2,c⟩,r⟩:=x;exact⟨ho _ d,z,ne,k _ _ (.inl rfl) e,mA,⟨od,es,ep,k _ _ (.inr d) e2,c⟩,r⟩
  | own y=>obtain⟨ob,e⟩:=x; exact⟨ob,k _ _ (.inl rfl) e⟩
  | xd fs=>obtain⟨mA,⟨od,es,ep,e,c⟩,r⟩:=x; exact⟨mA,⟨od,es,ep,k _ _ (.inl rfl) e,c⟩,r⟩
  | rng lo hi=>obtain⟨t,u,v,e⟩:=x; exact⟨t,u,v,k _ _ (.inl rfl) e⟩
  | frz ob u ih=>obtain⟨e,q⟩:=x; exact⟨k _ _ (.inl rfl) e,ih q⟩
  | tbl ps =>
    have e:h.get? a=some { cls:=.none,data:=.fields ps }:=x;show h'.get? a=some { cls:=.none,data:=.fields ps };exact k a _ (.inl rfl) e
  | met f y =>
    have e:h.get? a=some (PySem.W.methodObj (.ref f) (.ref y)):=x;show h'.get? a=some (PySem.W.methodObj (.ref f) (.ref y));exact k a _ (.inl rfl) e
  | ext φ=>obtain⟨p,⟨o,e⟩,st⟩:=x; exact⟨st _ _ p fun o q=>k _ _ (.inl rfl) q,⟨o,k _ _ (.inl rfl) e⟩,st⟩
theorem HOk.lt (x:HOk P w H h) (e:H a=some o):a<h.objs.size:=(x a o e).lt
theorem HOk.fresh (x:HOk P w H h) (e:h.objs.size<=a):H a=none:=by
 cases q:H a with
 | none=>rfl
 | some u=>exact absurd (ZF (x.lt q) e) (Y1 _)
theorem HOk.kept (x:HOk P w H h) (k:∀ b u,h.get? b=some u->h'.get? b=some u):HOk P w H h':=fun a o e =>
 (x a o e).stay (fun b u _ q=>k b u q) (fun _ q=>q) fun _ _ q=>q
theorem HOk.laid (x:HOk P w H h) (k:∀ b u,h.get? b=some u->h'.get? b=some u) (hp:h.objs.size<=a) (new:xau P w (upd H a o) h' a o):HOk P w (upd H a o) h':=fun b u e=>by
 have hn:=x.fresh hp;by_cases hb:b=a
 .subst hb; rw[xb] at e; cases e; exact new
 .rw [xh hb] at e;exact (x b u e).stay (fun c v _ q=>k c v q) (fun c q=>by rw[xh (xi q hn)]; exact q) fun c xs q=>by rw[xh (xi q hn)]; exact q
end
def Rd (H:Hp) (a:Addr) (u:HO):Prop:=H a=some u\/∃ o,H a=some (.frz o u)
theorem Rd.ok {P:Program}{w:World}{H:Hp}{h:Heap}{a:Addr}{u:HO} (r:Rd H a u) (x:HOk P w H h):xau P w H h a u:=by
 rcases r with r|⟨o,r⟩
 .exact x a u r
 .obtain ⟨_,q⟩:=x a _ r;exact q
def Mut:Option HO->Prop
 | some (.lst _)=>True
 | some (.dK _)=>True
 | some (.dT _)=>True
 | some (.set _ _)=>True
 | some (.ins _ _ _)=>True
 | some (.ext _)=>True
 | _=>False
section
variable {P:Program}{w:World}{H:Hp}{h h':Heap}{x e:Addr}{o':HO}
theorem HOk.write (ok:HOk P w H h) (mu:Mut (H x)) (he:e=x\/H e=some (.own x)) (k:∀ b u,b≠e->h.get? b=some u->h'.get? b=some u) (heo:∃ u,h'.get? e=some u)
    (new:xau P w (upd H x o') h' x o'):HOk P w (upd H x o') h':=fun b u q=>by
  have nown:∀ c y,H c=some (.own y)->c≠x:=fun c y r z=>by subst z; rw[r] at mu; exact mu
  have ntup:∀ c xs,H c=some (.tup xs)->c≠x:=fun c xs r z=>by subst z; rw[r] at mu; exact mu
  by_cases hb:b=x
  . subst hb; rw[xb] at q; cases q; exact new
  . rw[xh hb] at q
    by_cases hbe:b=e
    . have q':H b=some (.own x):=by
        rcases he with z|z
        . exact absurd (hbe.trans z) hb
        . rw[hbe]; exact z
      rw[q] at q'; cases q';obtain⟨v,hv⟩:=heo;exact⟨v,by rw[hbe]; exact hv⟩
    . refine (ok b u q).stay (fun c v hc r=>k c v ?_ r) (fun c r=>by rw[xh (nown c b r)]; exact r) fun c xs r=>by rw[xh (ntup c xs r)]; exact r
      rcases hc with rfl|hc
      . exact hbe
      . rintro rfl
        rcases he with z|z
        . exact nown c b hc z
        . rw[hc] at z; cases z; exact hb rfl
end
structure Un (fs ex:List Addr) (H H':Hp) (h h':Heap):Prop where
 keep:∀ b o,h.get? b=some o->H b=none->b∉fs->b∉ex->h'.get? b=some o
 slot:∀ b o,h.get? b=some o->H b=none->b∈fs->b∉ex->∃ sl,h'.get? b=some { o with slots:=sl }
 free:∀ b o,h.get? b=some o->H b=none->b∉ex->H' b=none
 there:∀ b o,h.get? b=some o->b∉ex->∃ o',h'.get? b=some o'
 tups:∀ b xs,H b=some (.tup xs)->H' b=some (.tup xs)
 frzs:∀ b o u,H b=some (.frz o u)->H' b=some (.frz o u)
 tbls:∀ b ps,H b=some (.tbl ps)->∃ more,H' b=some (.tbl (ps++more))
section
variable {fs fs' ex ex':List Addr}{H H1 H2:Hp}{h h1 h2 h':Heap}{a x e:Addr}{o:HO}
theorem Un.any (u:Un fs ex H H1 h h1) {b:Addr}{ob:Obj} (q:h.get? b=some ob) (n:H b=none) (hx:b∉ex):∃ sl,h1.get? b=some { ob with slots:=sl }:=by
 by_cases hb:b∈fs
 .exact u.slot b ob q n hb hx
 .exact ⟨ob.slots,u.keep b ob q n hb hx⟩
theorem Un.kept (k:∀ b u,h.get? b=some u->h'.get? b=some u):Un fs ex H H h h' :=
 ⟨fun b ob q _ _ _=>k b ob q,fun b ob q _ _ _=>⟨ob.slots,k b ob q⟩,fun _ _ _ n _=>n,fun b ob q _=>⟨ob,k b ob q⟩,fun _ _ q=>q,fun _ _ _ q=>q,fun _ ps q=>⟨#[],by rw[q]; simp⟩⟩
theorem Un.refl:Un fs ex H H h h:=Un.kept fun _ _ q=>q
theorem Un.laid (k:∀ b u,h.get? b=some u->h'.get? b=some u) (hp:h.objs.size<=a) (hn:H a=none):Un fs ex H (upd H a o) h h' where
 keep:=fun b u q _ _ _=>k b u q
 slot:=fun b u q _ _ _=>⟨u.slots,k b u q⟩
 free:=fun b u q n _=>by rw[xh (ZK (ZF (Zq q) hp))]; exact n
 there:=fun b u q _=>⟨u,k b u q⟩
 tups:=fun b xs q=>by rw[xh (xi q hn)]; exact q
 frzs:=fun b u xs q=>by rw[xh (xi q hn)]; exact q
 tbls:=fun b ps q=>⟨#[],by rw[xh (xi q hn),q]; simp⟩
theorem Un.write (mu:Mut (H x)) (he:e=x\/H e=some (.own x)) (k:∀ b u,b≠e->h.get? b=some u->h'.get? b=some u) (heo:∃ u,h'.get? e=some u):Un fs ex H (upd H x o) h h':=by
 have hx:∀ b,H b=none->b≠x:=fun b n z=>by subst z; rw[n] at mu; exact mu
 have hb:∀ b,H b=none->b≠e:=fun b n z=>by
  subst z;rcases he with r|r
  .exact hx b n r
  .rw [n] at r; cases r
 have hm:∀ b u,H b=some u->¬ Mut (some u)->b≠x:=fun b u q nm z=>by subst z; rw[q] at mu; exact nm mu
 refine⟨fun b u q n _ _=>k b u (hb b n) q,fun b u q n _ _=>⟨u.slots,k b u (hb b n) q⟩,fun b u q n _=>by rw[xh (hx b n)]; exact n,fun b u q _=>?_,
  fun b xs q=>by rw[xh (hm b _ q fun z=>z)]; exact q,fun b u xs q=>by rw[xh (hm b _ q fun z=>z)]; exact q,fun b ps q=>⟨#[],by rw[xh (hm b _ q fun z=>z),q]; simp⟩⟩
 by_cases hbe:b=e
 .subst hbe; exact heo
 .exact ⟨u,k b u hbe q⟩
end
def trk (h:Heap) (H:Hp):List Addr:=(Zz h.objs.size).filter fun a=>(H a).isSome
def hidT (h:Heap) (H:Hp):Heap:=PySem.W.hideAll h (trk h H)
theorem xoo (h:Heap) (H:Hp):(hidT h H).objs.size=h.objs.size:=PySem.W.hideAll_size _ _
theorem xph {h:Heap}{H:Hp}{b:Addr}{o:Obj} (e:h.get? b=some o) (n:H b=none):(hidT h H).get? b=some o :=
 PySem.W.hideAll_get _ e fun hm=>by
  have q:(H b).isSome=true:=(ZH.mp hm).2;rw[n] at q; simp at q
theorem xrb {h:Heap}{H:Hp}{b:Addr}{o:Obj} (e:(hidT h H).get? b=some o):h.get? b=some o/\H b=none:=by
 have e':h.get? b=some o:=PySem.W.of_hideAll (trk h H) e;refine⟨e',?_⟩;cases q:H b with
 | none=>rfl
 | some x =>
  have hm:b∈trk h H:=ZH.mpr ⟨ZL.mpr (Zq e'),by simp[q]⟩;have z:(hidT h H).get? b=none:=PySem.W.hideAll_none (trk h H) hm;rw[z] at e; cases e
def xq8 (g h:Heap) (L:Addr):List (Addr × Obj):=(Zz h.objs.size).filterMap fun a=>if a=L\/(g.get? a).isSome=true then none else (h.get? a).map fun o=>(a,o)
def rest (g h:Heap) (L d:Addr):List (Addr × Obj):=(xq8 g h L).filter fun p=>decide (p.1≠d)
structure Mod (K:Ze) (mg:Str->Option Value) (base:Heap):Prop where
 kin:K.In base
 glob:base.Ns mainGlobals mg
 blt:∃ mb,base.Ns builtinsNs mb/\∀ x:Str,x≠"__name__"->mb x=bootBuiltins x
 nolimit:base.NoLimit
structure Cx where
 prog:Program
 w:World
 K:Ze
 mg:Str->Option Value
 base:Heap
 A:Around
 N:List Str
 s₀:Shared
 H₀:Hp
 env:Env
 outer:List Env
 stack:List Env
 ex:List Addr
 fn:Str->Bool
 calm:Bool
 pn:List (Addr × Obj)
 xe:Value->Shared->Prop
def frs (l:List Env):List Addr:=l.filterMap (·.frame)
abbrev Cx.fs (X:Cx):List Addr:=frs X.outer
def Vis (sc:Scope) (x:Str):Prop:=sc.names.lookup x=some .local\/sc.names.lookup x=some .cell\/sc.names.lookup x=some .free
def Loc (sc:Scope) (x:Str):Prop:=sc.names.lookup x=some .local\/sc.names.lookup x=some .cell
def Look (env:Env) (h:Heap) (m:Str->Option Value) (x:Str) (u:Value):Prop :=
 (env.kindOf x=some .local/\m x=some u)\/((env.kindOf x=some .cell\/env.kindOf x=some .free)/\∃ c,env.cells.lookup x=some c/\h.IsCell c (some u))
structure Cx.Ok (X:Cx):Prop where
 mod:Mod X.K X.mg X.base
 kind:X.env.scope.kind=.function
 glob:X.env.globals=mainGlobals
 blt:X.env.builtins=builtinsNs
 above:X.s₀.heap.objs.size<=X.env.locals
 inj:∀ x y c,X.env.cells.lookup x=some c->X.env.cells.lookup y=some c->x=y
 has:∀ x,(X.env.kindOf x=some .cell\/X.env.kindOf x=some .free)->∃ c,X.env.cells.lookup x=some c
 cab:∀ x c,X.fn x=true->X.env.cells.lookup x=some c->X.s₀.heap.objs.size<=c
 hd:X.calm=true->X.A.handled=none
 frames:X.A.frames=some X.stack
 stk:X.stack=X.outer\/(X.stack=X.env::X.outer/\X.env.frame=some X.env.locals)
 exf:∀ b∈X.ex,b≠X.env.locals/\∀ x c,X.env.cells.lookup x=some c->c≠b
 bs:∀ b o,X.base.get? b=some o->X.s₀.heap.get? b=some o/\X.H₀ b=none
 bsz:X.base.objs.size<=X.s₀.heap.objs.size
 noex:∀ b o,X.base.get? b=some o->b∉X.ex
 exfs:∀ b∈X.ex,b∉X.fs
 funs:X.s₀.heap.FunFrames X.base X.outer
 frf:∀ b∈X.fs,X.H₀ b=none
structure Inv (X:Cx) (pins:List (Addr × Obj)) (σ:List (Option V)) (H:Hp) (s:Shared):Prop where
 ok:X.Ok
 os:s.os=X.s₀.os
 bare:AllBare s.gens
 base:Un X.fs X.ex X.H₀ H X.s₀.heap s.heap
 loc:∃ m,s.heap.Ns X.env.locals m/\∀(i:Nat) (x:Str) (v:V),X.N[i]?=some x->σ[i]?=some (some v)->Vis X.env.scope x->∃ u,RelV v u/\Look X.env s.heap m x u
 cell:∀ x c,X.env.cells.lookup x=some c->∃ v,s.heap.IsCell c v
 free:H X.env.locals=none
 freeC:∀ x c,X.env.cells.lookup x=some c->H c=none
 pin:∀ p∈X.pn++pins,s.heap.get? p.1=some p.2/\H p.1=none/\p.1≠X.env.locals/\p.1∉X.fs/\∀ v,p.2.data≠.cell v
 hok:HOk X.prog X.w H s.heap
 len:σ.length=X.N.length
section
variable {X:Cx}{pins:List (Addr × Obj)}{σ:List (Option V)}{H H':Hp}{s:Shared}{h':Heap}
theorem Cx.Ok.nofr (ok:X.Ok) {b:Addr}{o:Obj} (e:X.base.get? b=some o):b∉X.fs:=fun hb=>by
 have:=(ok.funs.mem hb).1;rw[e] at this; cases this
theorem Inv.bs (I:Inv X pins σ H s):∀ b o,X.base.get? b=some o->s.heap.get? b=some o/\H b=none:=fun b o e =>
 ⟨I.base.keep b o (I.ok.bs b o e).1 (I.ok.bs b o e).2 (I.ok.nofr e) (I.ok.noex b o e),I.base.free b o (I.ok.bs b o e).1 (I.ok.bs b o e).2 (I.ok.noex b o e)⟩
theorem Inv.bk (I:Inv X pins σ H s):∀ b o,X.base.get? b=some o->s.heap.get? b=some o:=fun b o e=>(I.bs b o e).1
theorem Inv.mod (I:Inv X pins σ H s):Mod X.K X.mg X.base:=I.ok.mod
theorem Inv.kIn (I:Inv X pins σ H s):X.K.In s.heap:=I.ok.mod.kin.keeps I.bk
theorem Inv.fr (I:Inv X pins σ H s):∃ m,Fr X.base X.env.locals s.heap m :=
 let ⟨m,hn,_⟩:=I.loc
 ⟨m,hn,I.bk,ZB I.ok.bsz I.ok.above⟩
theorem Inv.lt (I:Inv X pins σ H s):X.env.locals<s.heap.objs.size:=let ⟨_,hn,_⟩:=I.loc; hn.lt
theorem Inv.sz (I:Inv X pins σ H s):X.s₀.heap.objs.size<=s.heap.objs.size:=ZB I.ok.above (JG I.lt)
theorem Inv.nofs (I:Inv X pins σ H s) {a:Addr} (h:s.heap.objs.size<=a):a∉X.fs:=fun hb=>by
 obtain⟨_,o,ho,_⟩:=I.ok.funs.mem hb;exact absurd (ZF (Zq ho) (ZB I.sz h)) (Y1 _)
theorem Inv.cne (I:Inv X pins σ H s):∀ x c,X.env.cells.lookup x=some c->c≠X.env.locals:=fun x c e z=>by
 obtain⟨v,o,ho,hd⟩:=I.cell x c e;obtain⟨m,⟨o',es,ep,ho',hd',_⟩,_⟩:=I.loc;rw[z,ho'] at ho; cases ho; rw[hd'] at hd; cases hd
theorem Inv.funs (I:Inv X pins σ H s):s.heap.FunFrames X.base X.outer:=by
 have all:∀(l:List Env),(∀ b∈frs l,b∈X.fs)->X.s₀.heap.FunFrames X.base l->s.heap.FunFrames X.base l:=by
  intro l
  induction l with
  | nil=>intro _ _; trivial
  | cons env r ih =>
   intro hs hl;obtain⟨hk,⟨L,o,hf,hn,ho,hd⟩,hr⟩:=hl;have hL:L∈X.fs:=hs L (by unfold frs; rw[Yz,hf]; exact Z0);obtain⟨sl,e⟩:=I.base.slot L o ho (I.ok.frf L hL) hL fun z=>I.ok.exfs L z hL
   exact⟨hk,⟨L,_,hf,hn,e,hd⟩,ih (fun b hb=>hs b (by unfold frs; rw[Yz,hf]; exact Z1 _ hb)) hr⟩
 exact all X.outer (fun _ hb=>hb) I.ok.funs
theorem Inv.stack (I:Inv X pins σ H s):s.heap.FunFrames X.base X.stack:=by
 rcases I.ok.stk with e|⟨e,hf⟩
 .rw [e]; exact I.funs
 .rw [e];obtain⟨m,hn,_⟩:=I.loc;refine .cons (by rw[I.ok.kind]; decide) hf hn ?_ I.funs;exact Heap.get?_none_of_le (ZB I.ok.bsz I.ok.above)
theorem Inv.stkSub (I:Inv X pins σ H s):∀ b∈frs X.stack,b∈X.env.locals::X.fs:=fun b hb=>by
 rcases I.ok.stk with e|⟨e,hf⟩
 .rw [e] at hb; exact Z1 _ hb
 .rw [e] at hb;unfold frs at hb;rw[Yz,hf] at hb;exact hb
theorem Inv.stkFree (I:Inv X pins σ H s):∀ b∈frs X.stack,H b=none:=fun b hb=>by
 rcases Zx.mp (I.stkSub b hb) with e|hb
 .rw [e]; exact I.free
 .obtain ⟨_,o,ho,_⟩:=I.ok.funs.mem hb;exact I.base.free b o ho (I.ok.frf b hb) fun z=>I.ok.exfs b z hb
theorem Inv.step {g':Array GenState}{t':Nat}{d':Drawn}{ch:List Addr} (I:Inv X pins σ H s)
    (hch:∀ b∈ch,(b∈X.ex\/X.s₀.heap.objs.size<=b)/\b≠X.env.locals/\(∀ x c,X.env.cells.lookup x=some c->c≠b)/\∀ p∈X.pn++pins,p.1≠b)
    (keep:∀ b o,b≠X.env.locals->b∉X.fs->b∉ch->s.heap.get? b=some o->H b=none->h'.get? b=some o)
    (slot:∀ b o,b≠X.env.locals->b∈X.fs->b∉ch->s.heap.get? b=some o->H b=none->∃ sl,h'.get? b=some { o with slots:=sl }) (free:∀ b o,b∉ch->s.heap.get? b=some o->H b=none->H' b=none)
    (there:∀ b o,b∉ch->s.heap.get? b=some o->∃ o',h'.get? b=some o')
    (tups:∀ b xs,H b=some (.tup xs)->H' b=some (.tup xs)) (frzs:∀ b o u,H b=some (.frz o u)->H' b=some (.frz o u)) (tbls:∀ b ps,H b=some (.tbl ps)->∃ more,H' b=some (.tbl (ps++more)))
    (ns:∀ m,s.heap.Ns X.env.locals m->h'.Ns X.env.locals m) (hok:HOk X.prog X.w H' h') (hg:AllBare g') :
    Inv X pins σ H' { s with heap:=h',gens:=g',drawn:=d',toks:=t' }:=by
  have neL:∀ b o,X.s₀.heap.get? b=some o->b≠X.env.locals:=fun b o e=>ZK (ZF (Zq e) I.ok.above);have neC:∀ b o,X.s₀.heap.get? b=some o->b∉X.ex->b∉ch:=fun b o e hx hb=>by
    rcases (hch b hb).1 with z|z
    . exact hx z
    . exact absurd (ZF (Zq e) z) (Y1 _)
  have cellK:∀ x c,X.env.cells.lookup x=some c->∀ v,s.heap.IsCell c v->h'.IsCell c v:=fun x c e v ⟨o,ho,hd⟩=>by
    have nch:c∉ch:=fun z=>(hch c z).2.2.1 x c e rfl;by_cases hc:c∈X.fs
    . obtain⟨sl,q⟩:=slot c o (I.cne x c e) hc nch ho (I.freeC x c e)
      exact⟨_,q,hd⟩
    . exact⟨o,keep c o (I.cne x c e) hc nch ho (I.freeC x c e),hd⟩
  refine⟨I.ok,I.os,hg,⟨fun b o e n hb hx=>?_,fun b o e n hb hx=>?_,fun b o e n hx=>?_,fun b o e hx=>?_,fun b xs e=>tups b xs (I.base.tups b xs e),fun b o xs e=>frzs b o xs (I.base.frzs b o xs e),fun b ps e=>?_⟩,?_,fun x c e=>?_,?_,fun x c e=>?_,fun p hp=>?_,hok,I.len⟩
  . exact keep b o (neL b o e) hb (neC b o e hx) (I.base.keep b o e n hb hx) (I.base.free b o e n hx)
  . obtain⟨sl,e1⟩:=I.base.slot b o e n hb hx
    obtain⟨sl',e2⟩:=slot b _ (neL b o e) hb (neC b o e hx) e1 (I.base.free b o e n hx);exact⟨sl',e2⟩
  . obtain⟨o',e1⟩:=I.base.there b o e hx
    exact free b o' (neC b o e hx) e1 (I.base.free b o e n hx)
  . obtain⟨o',e1⟩:=I.base.there b o e hx
    exact there b o' (neC b o e hx) e1
  . obtain⟨m1,e1⟩:=I.base.tbls b ps e
    obtain⟨m2,e2⟩:=tbls b _ e1;exact⟨m1++m2,by rw[e2,Array.append_assoc]⟩
  . obtain⟨m,hn,hl⟩:=I.loc
    refine⟨m,ns m hn,fun i x v e1 e2 e3=>?_⟩;obtain⟨u,r,l⟩:=hl i x v e1 e2 e3;refine⟨u,r,?_⟩;rcases l with l|⟨k,c,e,z⟩
    . exact .inl l
    . exact .inr ⟨k,c,e,cellK x c e _ z⟩
  . obtain⟨v,z⟩:=I.cell x c e
    exact⟨v,cellK x c e v z⟩
  . obtain⟨m,⟨o,_,_,ho,_⟩,_⟩:=I.loc
    exact free _ o (fun z=>(hch _ z).2.1 rfl) ho I.free
  . obtain⟨v,o,ho,hd⟩:=I.cell x c e
    exact free c o (fun z=>(hch c z).2.2.1 x c e rfl) ho (I.freeC x c e)
  . obtain⟨e,n,ne,nf,d⟩:=I.pin p hp
    have nch:p.1∉ch:=fun z=>(hch p.1 z).2.2.2 p hp rfl;exact⟨keep p.1 p.2 ne nf nch e n,free p.1 p.2 nch e n,ne,nf,d⟩
theorem Inv.un {t':Nat} (I:Inv X pins σ H s) (u:Un X.fs [] H H' s.heap h') (hok:HOk X.prog X.w H' h'):Inv X pins σ H' { s with heap:=h',toks:=t' }:=by
 obtain⟨m,⟨o,es,ep,ho,r⟩,_⟩:=id I.loc;obtain⟨sl,hL⟩:=u.any ho I.free (by simp);exact I.step (g':=s.gens) (d':=s.drawn) (ch:=[]) (fun _ z=>nomatch z) (fun b o _ hb _ e n=>u.keep b o e n hb (by simp)) (fun b o _ hb _ e n=>u.slot b o e n hb (by simp)) (fun b o _ e n=>u.free b o e n (by simp)) (fun b o _ e=>u.there b o e (by simp)) u.tups u.frzs u.tbls (fun m' hm=>by
  obtain⟨o',es',ep',ho',r'⟩:=hm;rw[ho] at ho'; cases ho';exact⟨_,es',ep',hL,r'⟩) hok I.bare
theorem Inv.call {g':Array GenState}{t':Nat}{d':Drawn}{ch:List Addr} (I:Inv X pins σ H s) (u:Un (frs X.stack) ch H H' s.heap h') (hok:HOk X.prog X.w H' h') (hg:AllBare g')
    (hch:∀ b∈ch,(b∈X.ex\/X.s₀.heap.objs.size<=b)/\b≠X.env.locals/\(∀ x c,X.env.cells.lookup x=some c->c≠b)/\∀ p∈X.pn++pins,p.1≠b) :
    Inv X pins σ H' { s with heap:=h',gens:=g',drawn:=d',toks:=t' }:=by
  obtain⟨m,⟨o,es,ep,ho,r⟩,_⟩:=id I.loc;obtain⟨sl,hL⟩:=u.any ho I.free fun z=>(hch _ z).2.1 rfl
  exact I.step (ch:=ch) hch (fun b o hL hb hc e n=>u.keep b o e n (fun z=>(Zx.mp (I.stkSub b z)).elim hL hb) hc) (fun b o _ _ hc e n=>u.any e n hc) (fun b o hc e n=>u.free b o e n hc) (fun b o hc e=>u.there b o e hc) u.tups u.frzs u.tbls (fun m' hm=>by
    obtain⟨o',es',ep',ho',r'⟩:=hm;rw[ho] at ho'; cases ho';exact⟨_,es',ep',hL,r'⟩) hok hg
theorem Inv.turned {t':Nat}{it:Addr} (I:Inv X pins σ H s) (k:∀ b o,b≠it->s.heap.get? b=some o->h'.get? b=some o) (hn:H it=none) (hL:it≠X.env.locals)
    (h1:it∈X.ex\/X.s₀.heap.objs.size<=it) (h2:∀ x c,X.env.cells.lookup x=some c->c≠it) (h3:∀ p∈X.pn++pins,p.1≠it):Inv X pins σ H { s with heap:=h',toks:=t' }:=by
  have nit:∀ b u,H b=some u->b≠it:=fun b u e z=>by rw[z,hn] at e; cases e
  refine I.step (g':=s.gens) (d':=s.drawn) (ch:=[it]) (fun b hb=>?_) (fun b o _ _ hc e _=>k b o (fun z=>hc (by simp[z])) e) (fun b o _ _ hc e _=>⟨o.slots,k b o (fun z=>hc (by simp[z])) e⟩) (fun _ _ _ _ n=>n)
    (fun b o hc e=>⟨o,k b o (fun z=>hc (by simp[z])) e⟩) (fun _ _ e=>e) (fun _ _ _ e=>e) (fun b ps e=>⟨#[],by rw[e]; simp⟩) (fun m hm=>?_) (fun b u e=>?_) I.bare
  . have e:b=it:=by simpa using hb
    subst e;exact⟨h1,hL,h2,h3⟩
  . obtain⟨o,es,ep,ho,r⟩:=hm
    exact⟨o,es,ep,k _ o (ZE hL) ho,r⟩
  . refine (I.hok b u e).stay (fun c v hc q=>k c v ?_ q) (fun _ q=>q) fun _ _ q=>q
    rcases hc with z|z
    . rw[z]; exact nit b u e
    . exact nit c _ z
theorem Inv.tok (I:Inv X pins σ H s) (t:Nat):Inv X pins σ H { s with toks:=t }:=I.un (h':=s.heap) (t':=t) Un.refl I.hok
theorem Inv.kept {t':Nat} (I:Inv X pins σ H s) (k:∀ b u,s.heap.get? b=some u->h'.get? b=some u):Inv X pins σ H { s with heap:=h',toks:=t' }:=I.un (Un.kept k) (I.hok.kept k)
theorem Inv.laid {a:Addr}{o:HO}{t':Nat} (I:Inv X pins σ H s) (k:∀ b u,s.heap.get? b=some u->h'.get? b=some u) (hp:s.heap.objs.size<=a) (new:xau X.prog X.w (upd H a o) h' a o) :
    Inv X pins σ (upd H a o) { s with heap:=h',toks:=t' }:=I.un (Un.laid k hp (I.hok.fresh hp)) (I.hok.laid k hp new)
theorem Inv.write {x e:Addr}{o:HO}{t':Nat} (I:Inv X pins σ H s) (mu:Mut (H x)) (he:e=x\/H e=some (.own x)) (k:∀ b u,b≠e->s.heap.get? b=some u->h'.get? b=some u) (heo:∃ u,h'.get? e=some u)
    (new:xau X.prog X.w (upd H x o) h' x o):Inv X pins σ (upd H x o) { s with heap:=h',toks:=t' }:=I.un (Un.write mu he k heo) (I.hok.write mu he k heo new)
theorem Inv.weak {σ':List (Option V)} (I:Inv X pins σ H s) (hl:σ'.length=σ.length) (w:∀(i:Nat) v,σ'[i]?=some (some v)->σ[i]?=some (some v)):Inv X pins σ' H s :=
 ⟨I.ok,I.os,I.bare,I.base,let ⟨m,hn,hl'⟩:=I.loc; ⟨m,hn,fun i x v e1 e2 e3=>hl' i x v e1 (w i v e2) e3⟩,I.cell,I.free,I.freeC,I.pin,I.hok,hl.trans I.len⟩
theorem Inv.pins_of {pins':List (Addr × Obj)} (I:Inv X pins σ H s) (h:∀ p∈pins',s.heap.get? p.1=some p.2/\H p.1=none/\p.1≠X.env.locals/\p.1∉X.fs/\∀ v,p.2.data≠.cell v):Inv X pins' σ H s :=
 ⟨I.ok,I.os,I.bare,I.base,I.loc,I.cell,I.free,I.freeC,fun p hp=>(Z8.mp hp).elim (fun z=>I.pin p (QL _ z)) (h p),I.hok,I.len⟩
theorem xjj {N:List Str} (hN:N.Nodup) {i j:Nat}{x:Str} (a:N[i]?=some x) (b:N[j]?=some x):i=j:=by
 obtain⟨h1,e1⟩:=Zk.mp a;obtain⟨h2,e2⟩:=Zk.mp b;exact (List.getElem_inj hN).mp (e1.trans e2.symm)
theorem xii {M:Model}{A:Around}{E:Value->Shared->Prop}{i:Nat}{x:Str}{v:V}{u:Value}{Q:Unit->Shared->Prop} (I:Inv X pins σ H s) (hN:X.N.Nodup) (hi:X.N[i]?=some x) (hx:Loc X.env.scope x) (r:RelV v u)
    (h:∀ s',Inv X pins (σ.set i (some v)) H s'->(∃ a,ZN a s.heap s'.heap/\(a=X.env.locals\/X.env.cells.lookup x=some a))->Q () s') (hf:X.fn x=true\/X.env.scope.names.lookup x=some .local:=by first|exact .inl rfl|exact .inr rfl|assumption):wpAny M A (storeName X.env x u) Q E s:=by
  obtain⟨m,hn,hl⟩:=id I.loc;have hcls:(X.env.scope.kind == .class||(X.env.scope.kind == .module&&X.env.locals != X.env.globals))=false:=by rw[I.ok.kind]; rfl
  have hiσ:i<σ.length:=by rw[I.len]; exact (Zk.mp hi).1
  have cne:=I.cne;have tracked:∀{a:Addr}{h':Heap},(∃ o,s.heap.get? a=some o/\H a=none)->ZN a s.heap h'->HOk X.prog X.w H h':=fun {a h'} ha hs b ob e=>by
    obtain⟨_,_,hfree⟩:=ha;refine (I.hok b ob e).stay (fun c w' hc q=>(hs.2 c ?_).trans q) (fun _ q=>q) fun _ _ q=>q;rintro rfl;rcases hc with rfl|hc
    . rw[hfree] at e; cases e
    . rw[hfree] at hc; cases hc
  rcases hx with hk|hk
  . refine wpAny_storeName_local hk hn (fun h' hn' hs=>?_) hcls
    obtain⟨oL,_,_,hoL,_⟩:=id hn;refine h _ ⟨I.ok,I.os,I.bare,⟨fun b o e n hb hx=>?_,fun b o e n hb hx=>?_,I.base.free,fun b o e hx=>?_,I.base.tups,I.base.frzs,I.base.tbls⟩,⟨_,hn',fun j y v' e1 e2 e3=>?_⟩,fun y c e=>?_,I.free,I.freeC,fun p hp=>?_,tracked ⟨oL,hoL,I.free⟩ hs,by simpa using I.len⟩ ⟨_,hs,.inl rfl⟩
    . exact (hs.2 b (ZK (ZF (Zq e) I.ok.above))).trans (I.base.keep b o e n hb hx)
    . obtain⟨sl,e1⟩:=I.base.slot b o e n hb hx
      exact⟨sl,(hs.2 b (ZK (ZF (Zq e) I.ok.above))).trans e1⟩
    . obtain⟨o',e1⟩:=I.base.there b o e hx
      exact⟨o',(hs.2 b (ZK (ZF (Zq e) I.ok.above))).trans e1⟩
    . by_cases hj:j=i
      . subst hj
        rw[hi] at e1; cases e1;rw[List.getElem?_set_self hiσ] at e2;cases e2;exact⟨u,r,.inl ⟨hk,by simp⟩⟩
      . rw[YO (ZE hj)] at e2
        obtain⟨u',r',q⟩:=hl j y v' e1 e2 e3;refine⟨u',r',?_⟩;rcases q with⟨k,e⟩|⟨k,c,e,z⟩
        . refine .inl ⟨k,?_⟩
          have:y≠x:=fun e=>hj (xjj hN e1 (e▸hi));simp[this,e]
        . exact .inr ⟨k,c,e,z.sameBut hs (cne y c e)⟩
    . obtain⟨w',z⟩:=I.cell y c e
      exact⟨w',z.sameBut hs (cne y c e)⟩
    . obtain⟨e,n,ne,nf,d⟩:=I.pin p hp
      exact⟨(hs.2 p.1 ne).trans e,n,ne,nf,d⟩
  . have hfn:X.fn x=true:=by
      rcases hf with z|z
      . exact z
      . rw[z] at hk; cases hk
    obtain⟨c,hc⟩:=I.ok.has x (.inl hk);obtain⟨w',z⟩:=I.cell x c hc;refine wpAny_storeName_cell I.ok.kind hk hc z (fun h' hc' hs=>?_);obtain⟨oc,hoc,hocd⟩:=id z;refine h { s with heap:=h' } ⟨I.ok,I.os,I.bare,⟨fun b o e n hb hx=>?_,fun b o e n hb hx=>?_,I.base.free,fun b o e hx=>?_,I.base.tups,I.base.frzs,I.base.tbls⟩,⟨m,hn.sameBut hs (ZE (cne x c hc)),fun j y v' e1 e2 e3=>?_⟩,fun y c' e=>?_,I.free,I.freeC,fun p hp=>?_,tracked ⟨oc,hoc,I.freeC x c hc⟩ hs,by simpa using I.len⟩ ⟨c,hs,.inr hc⟩
    . exact (hs.2 b (ZK (ZF (Zq e) (I.ok.cab x c hfn hc)))).trans (I.base.keep b o e n hb hx)
    . obtain⟨sl,e1⟩:=I.base.slot b o e n hb hx
      exact⟨sl,(hs.2 b (ZK (ZF (Zq e) (I.ok.cab x c hfn hc)))).trans e1⟩
    . obtain⟨o',e1⟩:=I.base.there b o e hx
      exact⟨o',(hs.2 b (ZK (ZF (Zq e) (I.ok.cab x c hfn hc)))).trans e1⟩
    . by_cases hj:j=i
      . subst hj
        rw[hi] at e1; cases e1;rw[List.getElem?_set_self hiσ] at e2;cases e2;exact⟨u,r,.inr ⟨.inl hk,c,hc,hc'⟩⟩
      . rw[YO (ZE hj)] at e2
        obtain⟨u',r',q⟩:=hl j y v' e1 e2 e3;refine⟨u',r',?_⟩;rcases q with q|⟨k,c',e,z'⟩
        . exact .inl q
        . refine .inr ⟨k,c',e,z'.sameBut hs ?_⟩
          rintro rfl;exact hj (xjj hN e1 (I.ok.inj _ _ _ e hc▸hi))
    . by_cases hcc:c'=c
      . subst hcc; exact⟨_,hc'⟩
      . obtain⟨w2,z2⟩:=I.cell y c' e
        exact⟨w2,z2.sameBut hs hcc⟩
    . obtain⟨e,n,ne,nf,d⟩:=I.pin p hp
      refine⟨(hs.2 p.1 ?_).trans e,n,ne,nf,d⟩;intro q;rw[q,hoc] at e;have q':oc=p.2:=JM.inj e;exact d w' (by rw[<- q']; exact hocd)
theorem xj7 {M:Model}{A:Around}{E:Value->Shared->Prop}{i:Nat}{x:Str}{v:V}{u:Value}{Q:Unit->Shared->Prop} (I:Inv X pins σ H s) (hN:X.N.Nodup) (hi:X.N[i]?=some x) (hx:Loc X.env.scope x) (r:RelV v u)
    (h:∀ s',Inv X pins (σ.set i (some v)) H s'->Q () s') (hf:X.fn x=true\/X.env.scope.names.lookup x=some .local:=by first|exact .inl rfl|exact .inr rfl|assumption):wpAny M A (storeName X.env x u) Q E s :=
  xii I hN hi hx r (fun s' I' _=>h s' I') hf
theorem Inv.call' {s':Shared}{ch:List Addr} (I:Inv X pins σ H s) (ho:s'.os=s.os) (u:Un (frs X.stack) ch H H' s.heap s'.heap) (hok:HOk X.prog X.w H' s'.heap) (hg:AllBare s'.gens)
    (hch:∀ b∈ch,(b∈X.ex\/X.s₀.heap.objs.size<=b)/\b≠X.env.locals/\(∀ x c,X.env.cells.lookup x=some c->c≠b)/\∀ p∈X.pn++pins,p.1≠b):Inv X pins σ H' s':=by
  obtain⟨h',g',d',t',o'⟩:=s';have e:o'=s.os:=ho;subst e;exact I.call (g':=g') (t':=t') (d':=d') u hok hg hch
end
abbrev XK:=Addr->Addr->Hp->Prop
abbrev St:=List (Option V)
abbrev VK:=V->Hp->Prop
abbrev TE:=St->Hp->VK->Prop
abbrev TT:=St->Hp->(Bool->Hp->Prop)->Prop
abbrev TA:=St->Hp->(List V->Hp->Prop)->Prop
structure Ends where
 nx:St->Hp->Prop
 rt:VK
 bk:St->Hp->Prop:=fun _ _=>False
 ct:St->Hp->Prop:=fun _ _=>False
abbrev TS:=Ends->St->Hp->Prop
def EP (X:Cx) (pins:List (Addr × Obj)) (σ:St) (Q:VK) (u:Value) (s':Shared):Prop:=∃ v H',Inv X pins σ H' s'/\RelV v u/\Q v H'
def TP (X:Cx) (pins:List (Addr × Obj)) (σ:St) (Q:Bool->Hp->Prop) (b:Bool) (s':Shared):Prop:=∃ H',Inv X pins σ H' s'/\Q b H'
def AP (X:Cx) (pins:List (Addr × Obj)) (σ:St) (Q:List V->Hp->Prop) (us:List Value) (s':Shared):Prop:=∃ vs H',Inv X pins σ H' s'/\Vals vs us/\Q vs H'
def SP (X:Cx) (pins:List (Addr × Obj)) (D:Ends) (f:Flow) (s':Shared):Prop :=
 match f with
 | .next=>∃ σ' H',Inv X pins σ' H' s'/\D.nx σ' H'
 | .brk=>∃ σ' H',Inv X pins σ' H' s'/\D.bk σ' H'
 | .cont=>∃ σ' H',Inv X pins σ' H' s'/\D.ct σ' H'
 | .ret u=>∃ v σ' H',Inv X pins σ' H' s'/\RelV v u/\D.rt v H'
def PE (X:Cx) (e:Expr) (t:TE):Prop :=
 ∀(pins:List (Addr × Obj)) (s:Shared) (σ:St) (H:Hp) (Q:VK),Inv X pins σ H s->t σ H Q->wpAny (model X.prog X.w) X.A (eval e X.env) (EP X pins σ Q) X.xe s
def PT (X:Cx) (e:Expr) (t:TT):Prop :=
 ∀(pins:List (Addr × Obj)) (s:Shared) (σ:St) (H:Hp) (Q:Bool->Hp->Prop),Inv X pins σ H s->t σ H Q->wpAny (model X.prog X.w) X.A (isTrue e X.env (eval e X.env)) (TP X pins σ Q) X.xe s
def PW (X:Cx) (e:Expr) (t:TT):Prop :=
 ∀(whole:Sem Value) (pins:List (Addr × Obj)) (s:Shared) (σ:St) (H:Hp) (Q:Bool->Hp->Prop),Inv X pins σ H s->t σ H Q->wpAny (model X.prog X.w) X.A (isTrue e X.env whole) (TP X pins σ Q) X.xe s
theorem PW.pt {X:Cx}{e:Expr}{t:TT} (h:PW X e t):PT X e t:=h _
def PA (X:Cx) (es:List Expr) (t:TA):Prop :=
 ∀(pos:Pos) (pins:List (Addr × Obj)) (s:Shared) (σ:St) (H:Hp) (Q:List V->Hp->Prop),Inv X pins σ H s->t σ H Q->wpAny (model X.prog X.w) X.A (spliced (backTo pos (starEach es X.env))) (AP X pins σ Q) X.xe s
def PS (X:Cx) (st:Stmt) (t:TS):Prop :=
 ∀(pins:List (Addr × Obj)) (s:Shared) (σ:St) (H:Hp) (D:Ends),Inv X pins σ H s->t D σ H->wpAny (model X.prog X.w) X.A (exec st X.env) (SP X pins D) X.xe s
def PSs (X:Cx) (st:List Stmt) (t:TS):Prop :=
 ∀(pins:List (Addr × Obj)) (s:Shared) (σ:St) (H:Hp) (D:Ends),Inv X pins σ H s->t D σ H->wpAny (model X.prog X.w) X.A (execs st X.env) (SP X pins D) X.xe s
theorem thn {α:Type}{t:Sem α}{Q Q':α->Shared->Prop}{M:Model}{A:Around}{E:Value->Shared->Prop}{s:Shared} (h:wpAny M A t Q E s) (hQ:∀ a s,Q a s->Q' a s):wpAny M A t Q' E s:=ZY h hQ fun _ _ x=>x
section
variable {X:Cx}
def tVar (i:Nat):TE:=fun σ H Q=>∃ v,σ[i]?=some (some v)/\Q v H
def tC (v:V):TE:=fun _ H Q=>Q v H
theorem xuf {i:Nat}{x:Str}{pos:Pos} (hN:X.N[i]?=some x) (hv:Vis X.env.scope x) (hd:(x == ("__debug__":Str))=false:=by decide) (hcd:(x == ("__classdict__":Str))=false:=by decide):PE X (.Name x pos) (tVar i):=by
 intro pins s σ H Q I h;obtain⟨v,e,h⟩:=h;obtain⟨m,hn,hl⟩:=I.loc;obtain⟨u,r,l⟩:=hl i x v hN e hv;have fin:EP X pins σ Q u s:=⟨v,H,I,r,h⟩
 rcases l with⟨hk,hm⟩|⟨hk,c,hc,hcell⟩
 .exact wpAny_Name (wpAny_loadName_local I.ok.kind hk hn hm fin) hd
 .rcases hk with hk|hk
  .exact wpAny_Name (wpAny_loadName_cell I.ok.kind hk hc hcell fin) hd
  .exact wpAny_Name (wpAny_loadName_free I.ok.kind hk hc hcell fin hcd) hd
theorem xo {i j pos}:PE X (.Constant (.int i) j pos) (tC (.int i)):=fun _ _ _ H _ I h=>wpAny_Constant_int ⟨.int i,H,I.tok _,⟨_,rfl⟩,h⟩
theorem xf7 {b j pos}:PE X (.Constant (.bool b) j pos) (tC (.bl b)):=fun _ _ _ H _ I h=>Constant_bool ⟨.bl b,H,I,rfl,h⟩
theorem xta {j pos}:PE X (.Constant .none j pos) (tC .non):=fun _ _ _ H _ I h=>Constant_none ⟨.non,H,I,rfl,h⟩
theorem xad {x j pos}:PE X (.Constant (.str x) j pos) (tC (.str x)):=fun _ _ _ H _ I h=>Calls.Constant_str ⟨.str x,H,I.tok _,⟨_,rfl⟩,h⟩
def Gl (X:Cx) (x:Str):Prop:=X.env.kindOf x=some .globalImplicit
theorem xh5 {E:Value->Shared->Prop}{pins:List (Addr × Obj)}{s:Shared}{σ:St}{H:Hp}{x:Str}{u:Value}{pos:Pos}{Q:Value->Shared->Prop} (I:Inv X pins σ H s) (hg:Gl X x) (hm:X.mg x=some u) (h:Q u s)
    (hd:(x == ("__debug__":Str))=false:=by decide):wpAny (model X.prog X.w) X.A (eval (.Name x pos) X.env) Q E s :=
  Calls.Name_function_global I.ok.kind hg (Calls.loadGlobal_global (by rw[I.ok.glob]; exact I.mod.glob.keeps I.bk) hm h) hd
theorem xca {E:Value->Shared->Prop}{pins:List (Addr × Obj)}{s:Shared}{σ:St}{H:Hp}{x:Str}{u:Value}{pos:Pos}{Q:Value->Shared->Prop} (I:Inv X pins σ H s) (hg:Gl X x) (hm:X.mg x=none) (hv:bootBuiltins x=some u) (h:Q u s)
    (hn:x≠"__name__":=by decide) (hd:(x == ("__debug__":Str))=false:=by decide):wpAny (model X.prog X.w) X.A (eval (.Name x pos) X.env) Q E s:=by
  obtain⟨mb,h1,h2⟩:=I.mod.blt;exact Calls.Name_function_global I.ok.kind hg (Calls.loadGlobal_builtin (by rw[I.ok.glob]; exact I.mod.glob.keeps I.bk) hm (by rw[I.ok.blt]; exact h1.keeps I.bk) ((h2 x hn).trans hv) h) hd
theorem xcy {x:Str}{v:V}{u:Value}{pos:Pos} (hg:Gl X x) (hm:X.mg x=some u) (r:RelV v u) (hd:(x == ("__debug__":Str))=false:=by decide):PE X (.Name x pos) (tC v) :=
 fun _ _ _ H _ I h=>xh5 I hg hm ⟨v,H,I,r,h⟩ hd
theorem xcw {x:Str}{v:V}{u:Value}{pos:Pos} (hg:Gl X x) (hm:X.mg x=none) (hv:bootBuiltins x=some u) (r:RelV v u) (hn:x≠"__name__":=by decide) (hd:(x == ("__debug__":Str))=false:=by decide):PE X (.Name x pos) (tC v) :=
 fun _ _ _ H _ I h=>xca I hg hm hv ⟨v,H,I,r,h⟩ hn hd
variable {a b:Expr}{ta tb:TE}{pos:Pos}
def PC (X:Cx) (op:CmpOp) (a b:Expr) (t:TE):Prop :=
 ∀(pins:List (Addr × Obj)) (s:Shared) (σ:St) (H:Hp) (Q:VK),Inv X pins σ H s->t σ H Q ->
  wpAny (model X.prog X.w) X.A (eval a X.env) (fun v s₁=>wpAny (model X.prog X.w) X.A (eval b X.env) (fun u s₂=>wpAny (model X.prog X.w) X.A (compareOp op v u) (EP X pins σ Q) X.xe s₂) X.xe s₁) X.xe s
theorem xjx (b:Expr) {op:CmpOp} (h:op≠.In) (h2:op≠.NotIn):behindInMarks op b=false:=by
 have e1:(op == CmpOp.In)=false:=by cases op<;>first|rfl|exact absurd rfl h
 have e2:(op == CmpOp.NotIn)=false:=by cases op<;>first|rfl|exact absurd rfl h2
 cases b<;>simp[behindInMarks,e1,e2]
def tB (t:TE):TT:=fun σ H Q=>t σ H fun x H1=>∃ c,x=.bl c/\Q c H1
theorem xox {op:CmpOp}{t:TE} (h:PC X op a b t) (h1:behindInMarks op b=false:=by first|exact xjx _ (by decide) (by decide)|rfl):PE X (.Compare a [op] [b] pos) t:=fun pins s σ H Q I hw=>wpAny_Compare1 (h pins s σ H Q I hw) h1
theorem xep {op:CmpOp}{t:TE} (h:PC X op a b t) (h1:behindInMarks op b=false:=by first|exact xjx _ (by decide) (by decide)|rfl):PT X (.Compare a [op] [b] pos) (tB t):=by
 intro pins s σ H Q I hw;refine wpAny_isTrue_Compare1 (thn (h pins s σ H _ I hw) fun v s1 h1=>thn h1 fun u s2 h2=>thn h2 fun c s3 ⟨x,H1,I1,r1,q1⟩=>?_) h1;obtain⟨d,rfl,q⟩:=q1;cases r1;exact J5 ⟨H1,I1,q⟩
theorem xa6 {e:Expr}{t:TE} (h:PE X e t) (he:∀ whole,isTrue e X.env whole=(do let v <- whole; standAt e.pos; holding [v] (truthy v)):=by intro _; rfl):PT X e (tB t):=by
 intro pins s σ H Q I hw;refine isTrue_plain (thn (h pins s σ H _ I hw) fun v s1 ⟨x,H1,I1,r1,q1⟩=>?_) (he _);obtain⟨d,rfl,q⟩:=q1;cases r1;exact J5 ⟨H1,I1,q⟩
variable {tA tB':TT}{rest:List Expr}
def tAnd (t u:TT):TT:=fun σ H Q=>t σ H fun c H1=>if c=true then u σ H1 Q else Q false H1
def tOr (t u:TT):TT:=fun σ H Q=>t σ H fun c H1=>if c=true then Q true H1 else u σ H1 Q
def tNot (t:TT):TT:=fun σ H Q=>t σ H fun c H1=>Q (!c) H1
theorem xfz (ha:PT X a tA):PW X (.BoolOp .And [a] pos) tA:=by
 intro wh pins s σ H Q I h;refine isTrue_and (thn (ha pins s σ H Q I h) fun c s1 e=>?_);cases c with
 | true=>exact isTrue_and_nil e
 | false=>exact e
theorem xcp (ha:PT X a tA):PW X (.BoolOp .Or [a] pos) tA:=by
 intro wh pins s σ H Q I h;refine isTrue_or (thn (ha pins s σ H Q I h) fun c s1 e=>?_);cases c with
 | false=>exact isTrue_or_nil e
 | true=>exact e
theorem xfm (ha:PT X a tA) (hb:PW X (.BoolOp .And (b::rest) pos) tB'):PW X (.BoolOp .And (a::b::rest) pos) (tAnd tA tB'):=by
 intro wh pins s σ H Q I h;refine isTrue_and (thn (ha pins s σ H _ I h) fun c s1 ⟨H1,I1,q1⟩=>?_);cases c with
 | true=>exact hb wh pins s1 σ H1 Q I1 q1
 | false=>exact⟨H1,I1,q1⟩
theorem xc0 (ha:PT X a tA) (hb:PW X (.BoolOp .Or (b::rest) pos) tB'):PW X (.BoolOp .Or (a::b::rest) pos) (tOr tA tB'):=by
 intro wh pins s σ H Q I h;refine isTrue_or (thn (ha pins s σ H _ I h) fun c s1 ⟨H1,I1,q1⟩=>?_);cases c with
 | true=>exact⟨H1,I1,q1⟩
 | false=>exact hb wh pins s1 σ H1 Q I1 q1
theorem xbe (ha:PT X a tA):PT X (.UnaryOp .Not a pos) (tNot tA):=by
 intro pins s σ H Q I h;exact isTrue_not (ha pins s σ H (fun c H1=>Q (!c) H1) I h)
def xu9 (ta tb:TE):TE:=fun σ H Q=>ta σ H fun x H1=>∃ c,x=.bl c/\if c=true then tb σ H1 Q else Q (.bl false) H1
def tOrV (ta tb:TE):TE:=fun σ H Q=>ta σ H fun x H1=>∃ c,x=.bl c/\if c=true then Q (.bl true) H1 else tb σ H1 Q
def xu1 (ta:TE):TE:=fun σ H Q=>ta σ H fun x H1=>∃ c,x=.bl c/\Q (.bl (!c)) H1
theorem xcq {op}{t:TE} (h:PE X a t):PE X (.BoolOp op [a] pos) t:=fun pins s σ H Q I hw=>BoolOp_one (h pins s σ H Q I hw)
theorem xcd (ha:PE X a ta) (hb:PE X (.BoolOp .And (b::rest) pos) tb):PE X (.BoolOp .And (a::b::rest) pos) (xu9 ta tb):=by
 intro pins s σ H Q I h;refine BoolOp_and (thn (ha pins s σ H _ I h) fun v s1 ⟨x,H1,I1,r1,q1⟩=>?_);obtain⟨c,rfl,q1⟩:=q1;cases r1;refine J5 ?_;cases c with
 | true=>exact hb pins s1 σ H1 Q I1 q1
 | false=>exact⟨.bl false,H1,I1,rfl,q1⟩
theorem xq6 (ha:PE X a ta) (hb:PE X (.BoolOp .Or (b::rest) pos) tb):PE X (.BoolOp .Or (a::b::rest) pos) (tOrV ta tb):=by
 intro pins s σ H Q I h;refine BoolOp_or (thn (ha pins s σ H _ I h) fun v s1 ⟨x,H1,I1,r1,q1⟩=>?_);obtain⟨c,rfl,q1⟩:=q1;cases r1;refine J5 ?_;cases c with
 | false=>exact hb pins s1 σ H1 Q I1 q1
 | true=>exact⟨.bl true,H1,I1,rfl,q1⟩
theorem xti (ha:PE X a ta):PE X (.UnaryOp .Not a pos) (xu1 ta):=by
 intro pins s σ H Q I h;refine UnaryOp_ (thn (ha pins s σ H _ I h) fun v s1 ⟨x,H1,I1,r1,q1⟩=>?_);obtain⟨c,rfl,q1⟩:=q1;cases r1;exact not_of (J5 ⟨.bl (!c),H1,I1,rfl,q1⟩)
def tIf (t:TT) (ta tb:TE):TE:=fun σ H Q=>t σ H fun c H1=>if c=true then ta σ H1 Q else tb σ H1 Q
theorem xc6 {c:Expr} (hc:PT X c tA) (ha:PE X a ta) (hb:PE X b tb):PE X (.IfExp c a b pos) (tIf tA ta tb):=by
 intro pins s σ H Q I h;refine wpAny_IfExp (thn (hc pins s σ H _ I h) fun d s1 ⟨H1,I1,q1⟩=>?_);cases d with
 | true=>exact ha pins s1 σ H1 Q I1 q1
 | false=>exact hb pins s1 σ H1 Q I1 q1
end
def SqL (K:Ze) (H:Hp) (a:Addr) (xs:List V):Prop :=
 Rd H a (.lst xs) \/
  ∃(o:Obj) (its:Array Value) (n:Nat),K.lookup a=some o/\o.cls=.type "list"/\o.dict=none/\o.data=.seq its n/\its.size<=sizeLine/\Vals xs its.toList
def SqT (K:Ze) (H:Hp) (a:Addr) (xs:List V):Prop :=
 Rd H a (.tup xs) \/
  ∃(o:Obj) (its:Array Value) (n:Nat),K.lookup a=some o/\o.cls=.type "tuple"/\o.data=.seq its n/\its.size<=sizeLine/\Vals xs its.toList
def absV:Value->Option V
 | .none=>some .non
 | .bool b=>some (.bl b)
 | .int i _=>some (.int i)
 | .str x _=>some (.str x)
 | .bytes b _=>some (.byt b)
 | .float b _=>some (.flt b)
 | .ref a=>some (.ref a)
 | .type n=>some (.ty n)
 | _=>none
theorem RelV.abs {x:V}{u:Value} (r:RelV x u):absV u=some x:=by
 cases x with
 | non=>cases r; rfl
 | bl _=>cases r; rfl
 | int _=>obtain⟨t,rfl⟩:=r; rfl
 | str _=>obtain⟨t,rfl⟩:=r; rfl
 | byt _=>obtain⟨t,rfl⟩:=r; rfl
 | flt _=>obtain⟨t,rfl⟩:=r; rfl
 | ref _=>cases r; rfl
 | ty _=>cases r; rfl
theorem RelV.inj {x y:V}{u:Value} (r:RelV x u) (q:RelV y u):x=y:=JM.inj (r.abs.symm.trans q.abs)
theorem Vals.inj:∀{xs ys:List V}{us:List Value},Vals xs us->Vals ys us->xs=ys
 | _,_,_,.nil,.nil=>rfl
 | _,_,_,.cons r t,.cons r' t'=>by rw[r.inj r',Vals.inj t t']
section
variable {X:Cx}{pins:List (Addr × Obj)}{σ:St}{H:Hp}{s:Shared}{a:Addr}{xs ys:List V}
theorem SqL.of {K:Ze} (h:H a=some (.lst xs)):SqL K H a xs:=.inl (.inl h)
theorem SqT.of {K:Ze} (h:H a=some (.tup xs)):SqT K H a xs:=.inl (.inl h)
theorem Inv.list (I:Inv X pins σ H s) (h:SqL X.K H a xs):∃ its:List Value,Vals xs its/\PlainL s.heap a its.toArray/\xs.length<=sizeLine:=by
 rcases h with h|⟨o,its,n,hk,hc,hd,hs,hz,r⟩
 .obtain ⟨z,its,n,r,e⟩:=h.ok I.hok;exact⟨its,r,⟨_,n,e,rfl,rfl,rfl⟩,z⟩
 .refine ⟨its.toList,r,⟨o,n,I.kIn a o hk,hc,hd,by simpa using hs⟩,?_⟩;have e:=r.length;simp only[JB] at e;omega
theorem Inv.tuple (I:Inv X pins σ H s) (h:SqT X.K H a xs):∃ its:List Value,Vals xs its/\IsTup s.heap a its.toArray/\xs.length<=sizeLine:=by
 rcases h with h|⟨o,its,n,hk,hc,hs,hz,r⟩
 .obtain ⟨z,its,r,p⟩:=h.ok I.hok;exact⟨its,r,p,z⟩
 .refine ⟨its.toList,r,⟨o,I.kIn a o hk,hc,n,by simpa using hs⟩,?_⟩;have e:=r.length;simp only[JB] at e;omega
theorem Inv.list_inj (I:Inv X pins σ H s) (h:SqL X.K H a xs) (h':SqL X.K H a ys):xs=ys:=by
 obtain⟨its,r,⟨o,n,e,_,_,d⟩,_⟩:=I.list h;obtain⟨its',r',⟨o',n',e',_,_,d'⟩,_⟩:=I.list h';rw[e] at e'; cases e';rw[d] at d';injection d' with d1 _
 have:its=its':=by simpa using congrArg Array.toList d1
 subst this;exact r.inj r'
theorem Inv.tuple_inj (I:Inv X pins σ H s) (h:SqT X.K H a xs) (h':SqT X.K H a ys):xs=ys:=by
 obtain⟨its,r,⟨o,e,_,n,d⟩,_⟩:=I.tuple h;obtain⟨its',r',⟨o',e',_,n',d'⟩,_⟩:=I.tuple h';rw[e] at e'; cases e';rw[d] at d';injection d' with d1 _
 have:its=its':=by simpa using congrArg Array.toList d1
 subst this;exact r.inj r'
end
abbrev Cx.wish (X:Cx) (E:Value->Shared->Prop):Cx:={ X with xe:=E }
abbrev Cx.nox (X:Cx):Cx:=X.wish fun _ _=>False
theorem Cx.Ok.wish {X:Cx} (ok:X.Ok) (E:Value->Shared->Prop):(X.wish E).Ok :=
 ⟨ok.mod,ok.kind,ok.glob,ok.blt,ok.above,ok.inj,ok.has,ok.cab,ok.hd,ok.frames,ok.stk,ok.exf,ok.bs,ok.bsz,ok.noex,ok.exfs,ok.funs,ok.frf⟩
theorem Cx.Ok.unwish {X:Cx}{E:Value->Shared->Prop} (ok:(X.wish E).Ok):X.Ok :=
 ⟨ok.mod,ok.kind,ok.glob,ok.blt,ok.above,ok.inj,ok.has,ok.cab,ok.hd,ok.frames,ok.stk,ok.exf,ok.bs,ok.bsz,ok.noex,ok.exfs,ok.funs,ok.frf⟩
section
variable {X:Cx}{pins:List (Addr × Obj)}{σ:St}{H:Hp}{s:Shared}{E:Value->Shared->Prop}
theorem Inv.wish (I:Inv X pins σ H s) (E:Value->Shared->Prop):Inv (X.wish E) pins σ H s:=⟨I.ok.wish E,I.os,I.bare,I.base,I.loc,I.cell,I.free,I.freeC,I.pin,I.hok,I.len⟩
theorem Inv.unwish (I:Inv (X.wish E) pins σ H s):Inv X pins σ H s:=⟨I.ok.unwish,I.os,I.bare,I.base,I.loc,I.cell,I.free,I.freeC,I.pin,I.hok,I.len⟩
theorem SP.unwish {D:Ends}{f:Flow}{s':Shared} (h:SP (X.wish E) pins D f s'):SP X pins D f s':=by
 cases f with
 | next=>obtain⟨σ',H',I,q⟩:=h; exact⟨σ',H',I.unwish,q⟩
 | brk=>obtain⟨σ',H',I,q⟩:=h; exact⟨σ',H',I.unwish,q⟩
 | cont=>obtain⟨σ',H',I,q⟩:=h; exact⟨σ',H',I.unwish,q⟩
 | ret u=>obtain⟨v,σ',H',I,r,q⟩:=h; exact⟨v,σ',H',I.unwish,r,q⟩
theorem PSs.nox {st:List Stmt}{t:TS} (h:PSs X.nox st t):PSs X st t:=fun pins s σ H D I hw =>
 ZY (h pins s σ H D (I.wish _) hw) (fun _ _ q=>q.unwish) fun _ _ z=>JQ z
end
section
variable {X:Cx}{st:Stmt}{rest:List Stmt}{t u:TS}{e:Expr}{te:TE}{pos:Pos}
def xux:TS:=fun D σ H=>D.nx σ H
def tSeq (t u:TS):TS:=fun D σ H=>t { D with nx:=u D } σ H
theorem x8:PSs X [] xux:=fun _ _ σ H _ I h=>wpAny_execs_nil ⟨σ,H,I,h⟩
theorem xj (h1:PS X st t) (h2:PSs X rest u):PSs X (st::rest) (tSeq t u):=by
 intro pins s σ H D I h;refine wpAny_execs_cons (thn (h1 pins s σ H { D with nx:=u D } I h) fun f s1 q=>?_);cases f with
 | next =>
  obtain⟨σ',H',I',q⟩:=q;exact h2 pins s1 σ' H' D I' q
 | ret v=>exact q
 | brk=>exact q
 | cont=>exact q
theorem xk (h1:PS X st t):PSs X [st] t:=by
 intro pins s σ H D I h;refine wpAny_execs_cons (thn (h1 pins s σ H D I h) fun f s1 q=>?_);cases f with
 | next=>exact wpAny_execs_nil q
 | ret v=>exact q
 | brk=>exact q
 | cont=>exact q
theorem Inv.quiet {pins:List (Addr × Obj)}{σ:St}{H:Hp}{s:Shared} (I:Inv X pins σ H s):interactive X.env=false:=by simp[interactive,I.ok.kind]
def xu3 (te:TE):TS:=fun D σ H=>te σ H fun _ H1=>D.nx σ H1
theorem xax (he:PE X e te) (hs:swapsWith e none pos.line X.env=pure false:=by rfl):PS X (.Expr e pos) (xu3 te):=by
 intro pins s σ H D I h;exact wpAny_Expr_any (thn (he pins s σ H _ I h) fun v s1 ⟨x,H1,I1,r1,q1⟩=>⟨σ,H1,I1,q1⟩) I.quiet hs
def tRet (te:TE):TS:=fun D σ H=>te σ H D.rt
theorem xz (he:PE X e te):PS X (.Return (some e) pos) (tRet te):=by
 intro pins s σ H D I h;exact wpAny_Return_some (thn (he pins s σ H _ I h) fun v s1 ⟨x,H1,I1,r1,q1⟩=>⟨x,σ,H1,I1,r1,q1⟩)
def tIfS (c:TT) (t u:TS):TS:=fun D σ H=>c σ H fun b H1=>if b=true then t D σ H1 else u D σ H1
theorem xap {c:Expr}{a b:List Stmt}{tc:TT} (hc:PT X c tc) (ha:PSs X a t) (hb:PSs X b u):PS X (.If c a b pos) (tIfS tc t u):=by
 intro pins s σ H D I h;refine wpAny_If (thn (hc pins s σ H _ I h) fun d s1 ⟨H1,I1,q1⟩=>?_);cases d with
 | true=>exact ha pins s1 σ H1 D I1 q1
 | false=>exact hb pins s1 σ H1 D I1 q1
def xtp:TS:=fun _ _ _=>False
theorem xaz:PS X st xtp:=fun _ _ _ _ _ _ h=>h.elim
end
abbrev TG:=V->St->Hp->(St->Hp->Prop)->Prop
abbrev TGs:=List V->St->Hp->(St->Hp->Prop)->Prop
def PG (X:Cx) (target:Expr) (t:TG):Prop :=
 ∀(pins:List (Addr × Obj)) (s:Shared) (σ:St) (H:Hp) (v:V) (u:Value) (Q:St->Hp->Prop),Inv X pins σ H s->RelV v u->t v σ H Q ->
  wpAny (model X.prog X.w) X.A (assign target X.env u) (fun _ s'=>∃ σ' H',Inv X pins σ' H' s'/\Q σ' H') X.xe s
def PGs (X:Cx) (ts:List Expr) (t:TGs):Prop :=
 ∀(pins:List (Addr × Obj)) (s:Shared) (σ:St) (H:Hp) (vs:List V) (us:List Value) (Q:St->Hp->Prop),Inv X pins σ H s->Vals vs us->t vs σ H Q ->
  wpAny (model X.prog X.w) X.A (assignInOrder ((assignEach ts X.env).map (·.2)) us) (fun _ s'=>∃ σ' H',Inv X pins σ' H' s'/\Q σ' H') X.xe s
section
variable {X:Cx}{pos:Pos}
def xd7 (i:Nat):TG:=fun v σ H Q=>Q (σ.set i (some v)) H
theorem xn {i:Nat}{x:Str} (hN:X.N.Nodup) (hi:X.N[i]?=some x) (hx:Loc X.env.scope x) (hf:X.fn x=true\/X.env.scope.names.lookup x=some .local:=by first|exact .inl rfl|exact .inr rfl|assumption):PG X (.Name x pos) (xd7 i):=by
 intro pins s σ H v u Q I r h;exact wpAny_assign_Name (xj7 I hN hi hx r (fun s' I'=>⟨_,H,I',h⟩) hf)
def gNil:TGs:=fun vs σ H Q=>vs=[]/\Q σ H
def xl7 (t:TG) (u:TGs):TGs:=fun vs σ H Q=>∃ v r,vs=v::r/\t v σ H fun σ' H'=>u r σ' H' Q
theorem xag:PGs X [] gNil:=by
 intro pins s σ H vs us Q I r h;obtain⟨e,h⟩:=h;subst e;cases r;exact assignInOrder_nil ⟨σ,H,I,h⟩
theorem xp {e:Expr}{es:List Expr}{t:TG}{u:TGs} (h1:PG X e t) (h2:PGs X es u)
    (hs:(assignEach (e::es) X.env).map (·.2)=assign e X.env::(assignEach es X.env).map (·.2):=by rfl):PGs X (e::es) (xl7 t u):=by
  intro pins s σ H vs us Q I r h;obtain⟨v,vr,e1,h⟩:=h;subst e1;cases r with
  | cons r rr =>
    rw[hs];refine assignInOrder_cons (thn (h1 pins s σ H _ _ _ I r h) fun _ s1 ⟨σ1,H1,I1,q1⟩=>?_);exact h2 pins s1 σ1 H1 _ _ Q I1 rr q1
def gTup (K:Ze) (n:Nat) (t:TGs):TG:=fun v σ H Q=>∃ a xs,v=.ref a/\SqT K H a xs/\xs.length=n/\t xs σ H Q
theorem xar {es:List Expr}{k:Nat}{t:TGs}{n:Nat} (hc:X.calm=true) (h:PGs X es t)
    (hn:(assignEach es X.env).length=n:=by rfl) (hst:(assignEach es X.env).findIdx? (·.1)=none:=by rfl):PG X (.Tuple es k pos) (gTup X.K n t):=by
  intro pins s σ H v u Q I r hw;obtain⟨a,xs,e1,hq,hl,hw⟩:=hw;subst e1;cases r;obtain⟨its,rv,ht,hz⟩:=I.tuple hq;refine assign_Tuple_tuple (I.ok.hd hc) ht (by simp[hn,<- hl,rv.length]) hst fun h' hx=>?_;have I1:Inv X pins σ H { s with heap:=h' }:=I.kept (t':=s.toks) fun b o e=>hx b o (ZK (Zq e)) e;exact h pins _ σ H xs _ Q I1 (by simpa using rv) hw
def tAsg (te:TE) (g:TG):TS:=fun D σ H=>te σ H fun x H1=>g x σ H1 D.nx
theorem xdz {tg e:Expr}{te:TE}{g:TG} (he:PE X e te) (hg:PG X tg g) (hs:swapsWithSole [tg] e pos.line X.env=pure false:=by rfl) (hw:swappedStores [tg] e X.env=pure none:=by rfl)
    (h1:(assignEach [tg] X.env).map (·.2)=[assign tg X.env]:=by rfl):PS X (.Assign [tg] e pos) (tAsg te g):=by
  intro pins s σ H D I h;refine wpAny_Assign_stores (thn (he pins s σ H _ I h) fun v s1 ⟨x,H1,I1,r1,q1⟩=>?_) hs hw;rw[h1];exact thn (hg pins s1 σ H1 x v _ I1 r1 q1) fun _ s2 q=>q
theorem x0 {i:Nat}{x:Str}{e:Expr}{te:TE}{pos':Pos} (hN:X.N.Nodup) (hi:X.N[i]?=some x) (hx:Loc X.env.scope x) (he:PE X e te) (hs:swapsWith e (some (.Name x pos')) pos.line X.env=pure false:=by rfl) (hf:X.fn x=true\/X.env.scope.names.lookup x=some .local:=by first|exact .inl rfl|exact .inr rfl|assumption) :
    PS X (.Assign [.Name x pos'] e pos) (tAsg te (xd7 i)):=by
  intro pins s σ H D I h;refine wpAny_Assign_Name (thn (he pins s σ H _ I h) fun v s1 ⟨y,H1,I1,r1,q1⟩=>?_) hs;exact xj7 I1 hN hi hx r1 (fun s2 I2=>⟨_,H1,I2,q1⟩) hf
end
structure It where
 go:Nat->Hp->Prop
 yld:Nat->Hp->V->Hp->Prop
 stop:Nat->Hp->Prop
def FpOk (X:Cx) (pins:List (Addr × Obj)) (H:Hp) (b:Addr):Prop :=
 H b=none/\b≠X.env.locals/\b∉X.fs/\(b∈X.ex\/X.s₀.heap.objs.size<=b)/\(∀ x c,X.env.cells.lookup x=some c->c≠b)/\∀ p∈X.pn++pins,p.1≠b
theorem Inv.fpOk {X:Cx}{pins:List (Addr × Obj)}{σ:St}{H H':Hp}{s:Shared}{b:Addr} (I:Inv X pins σ H s) (hb:s.heap.objs.size<=b) (hn:H' b=none):FpOk X pins H' b:=by
 refine⟨hn,Yq (ZF I.lt hb),I.nofs hb,.inr (ZB I.sz hb),fun x c e z=>?_,fun p hp z=>?_⟩
 .obtain ⟨v,q⟩:=I.cell x c e;exact absurd (ZF q.lt (by rw[z]; exact hb)) (Y1 _)
 .exact absurd (ZF (Zq (I.pin p hp).1) (by rw[z]; exact hb)) (Y1 _)
structure Turn (P:Program) (w:World) (K:Ze) (tg:Expr) (J:It) (fp:List Addr) (it:Addr) (tn:Nat->Heap->Prop):Prop where
 mem:it∈fp
 obj:∀ i h,tn i h->∀ b∈fp,∃ o,h.get? b=some o/\∀ v,o.data≠.cell v
 keep:∀ i h h',tn i h->(∀ b∈fp,∀ o,h.get? b=some o->h'.get? b=some o)->tn i h'
 item:∀(X:Cx),X.prog=P->X.w=w->X.K=K->X.calm=true->∀(i:Nat) (pins:List (Addr × Obj)) (s:Shared) (σ:St) (H:Hp) (E:Value->Shared->Prop),Inv X pins σ H s->(∀ b∈fp,FpOk X pins H b)->tn i s.heap->J.go i H ->
  wpAny (model P w) X.A (pyNext (.ref it)) (fun r s1=>∃ u,r=some u /\
   wpAny (model P w) X.A (letOwnedTupleGo tg (.ref it) u) (fun _ s2=>∃ x H',Inv X pins σ H' s2/\RelV x u/\J.yld i H x H'/\tn (i+1) s2.heap/\∀ b∈fp,H' b=none) E s1) E s
 done:∀(X:Cx),X.prog=P->X.w=w->X.K=K->X.calm=true->∀(i:Nat) (pins:List (Addr × Obj)) (s:Shared) (σ:St) (H:Hp) (E:Value->Shared->Prop),Inv X pins σ H s->(∀ b∈fp,FpOk X pins H b)->tn i s.heap->J.stop i H ->
  wpAny (model P w) X.A (pyNext (.ref it)) (fun r s1=>r=none/\Inv X pins σ H s1) E s
 self:∀(A:Around) (i:Nat) (s:Shared) (Q:Value->Shared->Prop) (E:Value->Shared->Prop),tn i s.heap->Q (.ref it) s->wpAny (model P w) A (pyIter (.ref it)) Q E s
abbrev TI:=St->Hp->(It->Hp->Prop)->Prop
def PIE (X:Cx) (pins:List (Addr × Obj)) (σ:St) (tg:Expr) (R:It->Hp->Prop) (itv:Value) (s2:Shared):Prop :=
 ∃(it:Addr) (fp:List Addr) (tn:Nat->Heap->Prop) (J:It) (H':Hp),itv=.ref it/\Inv X pins σ H' s2/\Turn X.prog X.w X.K tg J fp it tn/\tn 0 s2.heap/\(∀ b∈fp,FpOk X pins H' b)/\R J H'
def PI (X:Cx) (tg iter:Expr) (wi:TI):Prop :=
 ∀(pins:List (Addr × Obj)) (s:Shared) (σ:St) (H:Hp) (R:It->Hp->Prop),Inv X pins σ H s->wi σ H R ->
  wpAny (model X.prog X.w) X.A (eval iter X.env) (fun v s1=>wpAny (model X.prog X.w) X.A (pyIter v) (PIE X pins σ tg R) X.xe s1) X.xe s
theorem xjb {M:Model}{A:Around}{E:Value->Shared->Prop}{s:Shared}{tg:Expr}{it:Addr}{u:Value}{o:Obj}{n:String}{vs:Array Value}{Q:Unit->Shared->Prop} (ho:s.heap.get? it=some o) (hc:o.cls=.type n) (hd:o.data=.fields vs)
    (hn:["enumerate", "zip", "dict_itemiterator", "dict_reverseitemiterator", "odict_iterator", "itertools.zip_longest", "itertools.pairwise"].contains n=false) (hQ:Q () s):wpAny M A (letOwnedTupleGo tg (.ref it) u) Q E s:=by
  unfold letOwnedTupleGo;cases tg<;>first
    | exact Zm hQ
    | (cases u<;>first
        | exact Zm hQ
        | (refine Zc (wpAny_load ho ?_)
           rw[hc,hd];show wpAny M A (if (["enumerate", "zip", "dict_itemiterator", "dict_reverseitemiterator", "odict_iterator", "itertools.zip_longest", "itertools.pairwise"].contains n&&vs[0]? == some (rawInt _))=true then _ else _) Q E s;rw[if_neg (by intro h; rw[hn,Yd] at h; cases h)];exact Zm hQ))
def Itl (K:Ze) (a:Addr):It :=
 ⟨fun i H=>∃ xs x,SqL K H a xs/\xs[i]?=some x,fun i H x H'=>H'=H/\∀ xs,SqL K H a xs->xs[i]?=some x,fun i H=>∃ xs,SqL K H a xs/\xs.length<=i⟩
def Itr (lo:Int) (n:Nat):It:=⟨fun i _=>i<n,fun i H x H'=>H'=H/\x=.int (lo+i),fun i _=>n<=i⟩
theorem xno {P:Program}{w:World}{K:Ze}{tg:Expr} (a it:Addr):Turn P w K tg (Itl K a) [it] it (fun i h=>h.IsListIter it a i) where
 mem:=by simp
 obj:=fun i h st b hb=>by
  have e:b=it:=by simpa using hb
  subst e;obtain⟨o,e,c,d⟩:=st;exact⟨o,e,fun v z=>by rw[d] at z; cases z⟩
 keep:=fun i h h' st k=>st.at fun o e=>k it (by simp) o e
 item:=by
  intro X hP hw hK hc i pins s σ H E I hf st hg;subst hP hw hK;obtain⟨xs,x,hq,hx⟩:=hg;obtain⟨its,rv,p,hz⟩:=I.list hq;obtain⟨u,hu,ru⟩:=rv.get hx;obtain⟨f0,f1,f2,f3,f4,f5⟩:=hf it (by simp);refine wpAny_pyNext_list_item st p.isList (x:=u) (by simpa using hu) fun h' st' sb=>?_;have I1:Inv X pins σ H { s with heap:=h' }:=I.turned (t':=s.toks) (fun b o hb e=>(sb.2 b hb).trans e) f0 f1 f3 f4 f5;obtain⟨o,e,c,d⟩:=id st';exact⟨u,rfl,xjb (s:={ s with heap:=h' }) e c d (by decide) ⟨x,H,I1,ru,⟨rfl,fun ys hy=>by rw[I.list_inj hy hq]; exact hx⟩,st',fun b hb=>(hf b hb).1⟩⟩
 done:=by
  intro X hP hw hK hc i pins s σ H E I hf st hg;subst hP hw hK;obtain⟨xs,hq,hx⟩:=hg;obtain⟨its,rv,p,hz⟩:=I.list hq;obtain⟨f0,f1,f2,f3,f4,f5⟩:=hf it (by simp);have hl:=rv.length;exact wpAny_pyNext_list_end (I.ok.hd hc) st p.isList (by simp; omega) fun h' eb=>⟨rfl,I.turned (t':=s.toks) (fun b o hb e=>eb b o hb e) f0 f1 f3 f4 f5⟩
 self:=fun _ _ _ _ _ st h=>wpAny_pyIter_listiter st h
theorem xmm {P:Program}{w:World}{K:Ze}{tg:Expr} (it:Addr) (lo:Int) (n:Nat):Turn P w K tg (Itr lo n) [it] it (fun i h=>IsRangeIter h it (lo+(i:Nat)*1) ((n:Int)-(i:Nat)) 1) where
 mem:=by simp
 obj:=fun i h st b hb=>by
  have e:b=it:=by simpa using hb
  subst e;exact⟨_,st,fun v z=>by
   have z':QC _=Data.cell v:=z;cases z'⟩
 keep:=fun i h h' st k=>k it (by simp) _ st
 item:=by
  intro X hP hw hK hc i pins s σ H E I hf st hg;subst hP hw hK;obtain⟨f0,f1,f2,f3,f4,f5⟩:=hf it (by simp);have W:=Walks.range (prog:=X.prog) (w:=X.w) (I.ok.hd hc) it lo 1 n;refine W.item i s _ _ hg st fun v h' tk hv st' kk=>?_;obtain⟨t,rfl⟩:=hv;have I1:Inv X pins σ H { s with heap:=h',toks:=tk }:=I.turned (fun b o hb e=>kk b o (by simpa using hb) e) f0 f1 f3 f4 f5;refine⟨_,rfl,xjb (s:={ s with heap:=h',toks:=tk }) (n:="range_iterator") st' rfl rfl (by decide) ⟨.int (lo+i),H,I1,⟨t,?_⟩,⟨rfl,rfl⟩,st',fun b hb=>(hf b hb).1⟩⟩;rw[Int.mul_one]
 done:=by
  intro X hP hw hK hc i pins s σ H E I hf st hg;subst hP hw hK;obtain⟨f0,f1,f2,f3,f4,f5⟩:=hf it (by simp);exact wpAny_pyNext_range_end (I.ok.hd hc) st (by have:n<=i:=hg; omega) fun h' eb=>⟨rfl,I.turned (t':=s.toks) (fun b o hb e=>eb b o hb e) f0 f1 f3 f4 f5⟩
 self:=fun _ _ _ _ _ st h=>wpAny_pyIter_rangeiter st h
section
variable {X:Cx}{tg:Expr}
def xvn (K:Ze) (tl:TE):TI:=fun σ H R=>tl σ H fun x H1=>∃ a,x=.ref a/\(∃ xs,SqL K H1 a xs)/\R (Itl K a) H1
theorem xav {l:Expr}{tl:TE} (hl:PE X l tl):PI X tg l (xvn X.K tl):=by
 intro pins s σ H R I h;refine thn (hl pins s σ H _ I h) fun v s1 ⟨x,H1,I1,r1,q1⟩=>?_;obtain⟨a,e,⟨xs,hq⟩,q⟩:=q1;subst e;cases r1;obtain⟨its,rv,p,hz⟩:=I1.list hq;refine wpAny_pyIter_list p.isList ?_;refine⟨s1.heap.objs.size,[s1.heap.objs.size],_,_,H1,rfl,I1.kept (t':=s1.toks) fun b o e=>Zg _ e,xno a _,⟨_,Zu _ rfl,rfl,rfl⟩,fun b hb=>?_,q⟩;have e:b=s1.heap.objs.size:=by simpa using hb
 subst e;exact I1.fpOk (Zj _) (I1.hok.fresh (Zj _))
theorem xjn {pins:List (Addr × Obj)}{σ:St}{H:Hp}{s:Shared}{R:It->Hp->Prop}{E:Value->Shared->Prop}{lo hi:Int}{t u v:Tok}{tk:Nat} (I:Inv X pins σ H s) (h1:-(2 ^ 62)<=lo) (h2:lo<2 ^ 62) (h3:-(2 ^ 62)<=hi) (h4:hi<2 ^ 62)
    (q:R (Itr lo (hi-lo).toNat) H):wpAny (model X.prog X.w) X.A (pyIter (.ref s.heap.objs.size)) (PIE X pins σ tg R) E { s with heap:=s.heap.push { cls:=.type "range",data:=.fields #[.int lo t,.int hi u,.int 1 v] },toks:=tk }:=by
  refine wpAny_pyIter_range (IsRange.new ..) (small_one h1 h2 h3 h4) ?_;have I1:Inv X pins σ H { s with heap:=s.heap.push { cls:=.type "range",data:=.fields #[.int lo t,.int hi u,.int 1 v] },toks:=tk }:=I.kept fun b o e=>Zg _ e;refine⟨(s.heap.push { cls:=.type "range",data:=.fields #[.int lo t,.int hi u,.int 1 v] }).objs.size,[(s.heap.push { cls:=.type "range",data:=.fields #[.int lo t,.int hi u,.int 1 v] }).objs.size],_,_,H,rfl,
    I1.kept (t':=tk) fun b o e=>Zg _ e,xmm _ lo (hi-lo).toNat,?_,fun b hb=>?_,q⟩
  . have e1:lo+((0:Nat):Int)*1=lo:=by simp
    have e2:(((hi-lo).toNat:Nat):Int)-((0:Nat):Int)=Builtin.Range.rangeSize lo hi 1:=by rw[rangeSize_one]; split<;>omega
    show IsRangeIter _ _ (lo+((0:Nat):Int)*1) ((((hi-lo).toNat:Nat):Int)-((0:Nat):Int)) 1;rw[e1,e2];exact Zu _ rfl
  . have e:b=(s.heap.push { cls:=.type "range",data:=.fields #[.int lo t,.int hi u,.int 1 v] }).objs.size:=by simpa using hb
    subst e;exact I1.fpOk (Zj _) (I1.hok.fresh (Zj _))
def xvs (ta:TA):TI:=fun σ H R=>ta σ H fun vs H1=>∃ j:Int,vs=[.int j]/\-(2 ^ 62)<=j/\j<2 ^ 62/\R (Itr 0 j.toNat) H1
def xvw (ta:TA):TI:=fun σ H R=>ta σ H fun vs H1=>∃ i j:Int,vs=[.int i,.int j]/\(-(2 ^ 62)<=i/\i<2 ^ 62/\-(2 ^ 62)<=j/\j<2 ^ 62)/\R (Itr i (j-i).toNat) H1
theorem xn0 {a:Expr}{ta:TA}{p pos:Pos} (hg:Gl X "range") (hm:X.mg "range"=none) (ha:PA X [a] ta) (hs:starEach [a] X.env=[(false,eval a X.env)]:=by rfl):PI X tg (.Call (.Name "range" p) [a] [] pos) (xvs ta):=by
 intro pins s σ H R I h;refine Call_ (xca I hg hm boot_range (ZP (thn (ha pos pins s σ H _ I h) fun us s1 ⟨vs,H1,I1,r1,q1⟩=>?_) hs rfl));obtain⟨j,e,q1,q2,q⟩:=q1;subst e;cases r1 with
 | cons r rr =>
  cases rr;obtain⟨t,rfl⟩:=r;exact call_range_1 (xjn I1 (by omega) (by omega) q1 q2 (by simpa using q))
theorem xd8 {a b:Expr}{ta:TA}{p pos:Pos} (hg:Gl X "range") (hm:X.mg "range"=none) (ha:PA X [a,b] ta) (hs:starEach [a,b] X.env=[(false,eval a X.env),(false,eval b X.env)]:=by rfl) (hs2:starEach [b] X.env=[(false,eval b X.env)]:=by rfl) :
    PI X tg (.Call (.Name "range" p) [a,b] [] pos) (xvw ta):=by
  intro pins s σ H R I h;refine Call_ (xca I hg hm boot_range (ZP (thn (ha pos pins s σ H _ I h) fun us s1 ⟨vs,H1,I1,r1,q1⟩=>?_) (by rw[hs,hs2]) (by rw[hs2]; rfl)));obtain⟨i,j,e,⟨q1,q2,q3,q4⟩,q⟩:=q1;subst e;cases r1 with
  | cons r rr =>
    cases rr with
    | cons r' rr =>
      cases rr;obtain⟨t,rfl⟩:=r;obtain⟨t',rfl⟩:=r';exact call_range_2 (xjn I1 q1 q2 q3 q4 q)
def tFor (wi:TI) (g:TG) (tb:TS):TS:=fun D σ H=>wi σ H fun J H1=>∃ W:Nat->Nat->St->Hp->Prop,(∃ m,W 0 m σ H1)/\∀ i m σ H,W i m σ H ->
 (J.stop i H/\D.nx σ H)\/(J.go i H/\∃ N:St->Hp->Prop,(∀ σ' H',N σ' H'->∃ m',m'<m/\W (i+1) m' σ' H')/\∀ x H',J.yld i H x H'->g x σ H' fun σ2 H2=>tb { D with nx:=N,ct:=N,bk:=D.nx } σ2 H2)
def xfe (fp:List Addr) (h:Heap):List (Addr × Obj):=fp.filterMap fun b=>(h.get? b).map fun o=>(b,o)
theorem xc5 {fp:List Addr}{h:Heap}{b:Addr}{o:Obj} (hb:b∈fp) (e:h.get? b=some o):(b,o)∈xfe fp h:=List.mem_filterMap.mpr ⟨b,hb,by rw[e]; rfl⟩
theorem xnr {fp:List Addr}{h:Heap}{p:Addr × Obj} (hp:p∈xfe fp h):p.1∈fp/\h.get? p.1=some p.2:=by
 obtain⟨b,hb,e⟩:=List.mem_filterMap.mp hp;cases q:h.get? b with
 | none=>rw[q] at e; cases e
 | some o =>
  rw[q] at e;have e':(b,o)=p:=JM.inj e;subst e';exact⟨hb,q⟩
theorem Inv.pinned {pins:List (Addr × Obj)}{σ:St}{H:Hp}{s:Shared}{fp:List Addr} (I:Inv X pins σ H s) (hf:∀ b∈fp,FpOk X pins H b) (ho:∀ b∈fp,∃ o,s.heap.get? b=some o/\∀ v,o.data≠.cell v):Inv X (pins++xfe fp s.heap) σ H s :=
 I.pins_of fun p hp=>(Z8.mp hp).elim (fun z=>I.pin p (ZO _ z)) fun z=>by
  obtain⟨hb,e⟩:=xnr z;obtain⟨f0,f1,f2,_⟩:=hf p.1 hb;obtain⟨o,e',d⟩:=ho p.1 hb;rw[e] at e'; cases e';exact⟨e,f0,f1,f2,d⟩
theorem Inv.unpinned {pins pl:List (Addr × Obj)}{σ:St}{H:Hp}{s:Shared} (I:Inv X (pins++pl) σ H s):Inv X pins σ H s:=I.pins_of fun p hp=>I.pin p (ZO _ (QL _ hp))
theorem xa9 {iter:Expr}{body:List Stmt}{wi:TI}{g:TG}{tb:TS}{pos:Pos} (hp:PassesOwn (model X.prog X.w) X.A X.env X.xe) (hc:X.calm=true) (hi:PI X tg iter wi) (hg:PG X tg g) (hb:PSs X body tb)
    (hs:∀ x,foldedSetIterable iter X.env x=pure x:=by intro _; rfl):PS X (.For tg iter body [] pos) (tFor wi g tb):=by
  intro pins s σ H D I h;refine wpAny_For (thn (hi pins s σ H _ I h) fun v s1 h1=>thn h1 fun itv s2 h2=>?_) hs;obtain⟨it,fp,tn,J,H2,e,I2,T,st2,f2,W,⟨m0,w0⟩,turn⟩:=h2;subst e
  -- what stays true of the iterator's objects through the loop
  have stat:∀{H':Hp},(∀ b∈fp,H' b=none)->∀ b∈fp,FpOk X pins H' b:=fun hn b hb=>⟨hn b hb,(f2 b hb).2⟩
  refine codeAny_forLoop_any (fun n s'=>∃ i σ' H',Inv X pins σ' H' s'/\tn i s'.heap/\(∀ b∈fp,H' b=none)/\W i n σ' H') ?_ m0 ⟨0,σ,H2,I2,st2,fun b hb=>(f2 b hb).1,w0⟩;rintro n s3 ⟨i,σ3,H3,I3,st3,fr3,w3⟩;rcases turn i n σ3 H3 w3 with⟨stop,qn⟩|⟨go,N,hN,step⟩
  . refine YR hp (thn (T.done X rfl rfl rfl hc i pins s3 σ3 H3 X.xe I3 (stat fr3) st3 stop) fun r s4 ⟨hr,I4⟩=>?_)
    subst hr;exact wpAny_execs_nil ⟨σ3,H3,I4,qn⟩
  . refine YR hp (thn (T.item X rfl rfl rfl hc i pins s3 σ3 H3 X.xe I3 (stat fr3) st3 go) fun r s4 ⟨u,hr,h4⟩=>?_)
    subst hr;refine YR hp (thn h4 fun _ s5 ⟨x,H5,I5,r5,y5,st5,fr5⟩=>?_);have I5':=I5.pinned (stat fr5) (T.obj _ _ st5);refine YR hp (thn (hg _ s5 σ3 H5 x u _ I5' r5 (step x H5 y5)) fun _ s6 ⟨σ6,H6,I6,q6⟩=>?_);refine YR hp (thn (hb _ s6 σ6 H6 _ I6 q6) fun f s7 q7=>?_);have again:∀{σ7:St}{H7:Hp},Inv X (pins++xfe fp s5.heap) σ7 H7 s7->N σ7 H7->∃ m,m<n/\∃ i σ' H',Inv X pins σ' H' s7/\tn i s7.heap/\(∀ b∈fp,H' b=none)/\W i m σ' H':=fun {σ7 H7} I7 n7=>by
      obtain⟨m',hm,w7⟩:=hN σ7 H7 n7;refine⟨m',hm,i+1,σ7,H7,I7.unpinned,T.keep _ _ _ st5 fun b hb o e=>(I7.pin (b,o) (ZO _ (ZO _ (xc5 hb e)))).1,fun b hb=>?_,w7⟩;obtain⟨o,e,d⟩:=T.obj _ _ st5 b hb;exact (I7.pin (b,o) (ZO _ (ZO _ (xc5 hb e)))).2.1
    cases f with
    | next=>obtain⟨σ7,H7,I7,n7⟩:=q7; exact again I7 n7
    | cont=>obtain⟨σ7,H7,I7,n7⟩:=q7; exact again I7 n7
    | brk=>obtain⟨σ7,H7,I7,q7⟩:=q7; exact⟨σ7,H7,I7.unpinned,q7⟩
    | ret v=>obtain⟨x7,σ7,H7,I7,r7,q7⟩:=q7; exact⟨x7,σ7,H7,I7.unpinned,r7,q7⟩
end
theorem xbi {K:Ze}{a:Addr}{xs:List V}{g:TG}{tb:TS}{D:Ends}{σ:St}{H:Hp} (Pv:Nat->St->Hp->Prop) (h0:Pv 0 σ H) (hl:∀ i σ H,i<=xs.length->Pv i σ H->SqL K H a xs)
    (hs:∀ i x σ H,xs[i]?=some x->Pv i σ H->g x σ H fun σ2 H2=>tb { D with nx:=Pv (i+1),ct:=Pv (i+1),bk:=D.nx } σ2 H2) (hd:∀ σ H,Pv xs.length σ H->D.nx σ H) :
    ∃ W:Nat->Nat->St->Hp->Prop,(∃ m,W 0 m σ H)/\∀ i m σ H,W i m σ H ->
      ((Itl K a).stop i H/\D.nx σ H)\/((Itl K a).go i H/\∃ N:St->Hp->Prop,(∀ σ' H',N σ' H'->∃ m',m'<m/\W (i+1) m' σ' H')/\∀ x H',(Itl K a).yld i H x H'->g x σ H' fun σ2 H2=>tb { D with nx:=N,ct:=N,bk:=D.nx } σ2 H2):=by
  refine⟨fun i m σ H=>m=xs.length-i/\i<=xs.length/\Pv i σ H,⟨xs.length,by simp,ZZ _,h0⟩,?_⟩;rintro i m σ H ⟨rfl,hi,p⟩;have q:=hl i σ H hi p;by_cases hlt:i<xs.length
  . refine .inr ⟨⟨xs,xs[i],q,by simp[hlt]⟩,Pv (i+1),fun σ' H' p'=>⟨xs.length-(i+1),by omega,rfl,hlt,p'⟩,fun x H' y=>?_⟩
    obtain⟨e,y⟩:=y;subst e;exact hs i x σ _ (y xs q) p
  . have e:i=xs.length:=by omega
    subst e;exact .inl ⟨⟨xs,q,Zj _⟩,hd σ H p⟩
theorem xnh {lo:Int}{n:Nat}{g:TG}{tb:TS}{D:Ends}{σ:St}{H:Hp} (Pv:Nat->St->Hp->Prop) (h0:Pv 0 σ H)
    (hs:∀ i σ H,i<n->Pv i σ H->g (.int (lo+i)) σ H fun σ2 H2=>tb { D with nx:=Pv (i+1),ct:=Pv (i+1),bk:=D.nx } σ2 H2) (hd:∀ σ H,Pv n σ H->D.nx σ H) :
    ∃ W:Nat->Nat->St->Hp->Prop,(∃ m,W 0 m σ H)/\∀ i m σ H,W i m σ H ->
      ((Itr lo n).stop i H/\D.nx σ H)\/((Itr lo n).go i H/\∃ N:St->Hp->Prop,(∀ σ' H',N σ' H'->∃ m',m'<m/\W (i+1) m' σ' H')/\∀ x H',(Itr lo n).yld i H x H'->g x σ H' fun σ2 H2=>tb { D with nx:=N,ct:=N,bk:=D.nx } σ2 H2):=by
  refine⟨fun i m σ H=>m=n-i/\i<=n/\Pv i σ H,⟨n,by simp,ZZ _,h0⟩,?_⟩;rintro i m σ H ⟨rfl,hi,p⟩;by_cases hlt:i<n
  . refine .inr ⟨hlt,Pv (i+1),fun σ' H' p'=>⟨n-(i+1),by omega,rfl,hlt,p'⟩,fun x H' y=>?_⟩
    obtain⟨e,y⟩:=y;subst e y;exact hs i σ _ hlt p
  . have e:i=n:=by omega
    subst e;exact .inl ⟨Zj _,hd σ H p⟩
abbrev R2:=V->V->Hp->VK->Prop
def OpR (X:Cx) (f:Value->Value->Sem Value) (r:R2):Prop :=
 ∀(pins:List (Addr × Obj)) (s:Shared) (σ:St) (H:Hp) (x y:V) (v u:Value) (Q:VK),Inv X pins σ H s->RelV x v->RelV y u->r x y H Q ->
  wpAny (model X.prog X.w) X.A (f v u) (EP X pins σ Q) X.xe s
def UnR (X:Cx) (f:Value->Sem Value) (r:V->Hp->VK->Prop):Prop :=
 ∀(pins:List (Addr × Obj)) (s:Shared) (σ:St) (H:Hp) (x:V) (v:Value) (Q:VK),Inv X pins σ H s->RelV x v->r x H Q ->
  wpAny (model X.prog X.w) X.A (f v) (EP X pins σ Q) X.xe s
def xbx (X:Cx) (f:Value) (r:List V->Hp->VK->Prop):Prop :=
 ∀(pins:List (Addr × Obj)) (s:Shared) (σ:St) (H:Hp) (xs:List V) (us:List Value) (Q:VK),Inv X pins σ H s->Vals xs us->r xs H Q ->
  wpAny (model X.prog X.w) X.A (call f us) (EP X pins σ Q) X.xe s
def tOp (r:R2) (ta tb:TE):TE:=fun σ H Q=>ta σ H fun x H1=>tb σ H1 fun y H2=>r x y H2 Q
def tUn (r:V->Hp->VK->Prop) (ta:TE):TE:=fun σ H Q=>ta σ H fun x H1=>r x H1 Q
def rI (C:Int->Int->Prop) (g:Int->Int->V):R2:=fun x y H Q=>∃ i j,x=.int i/\y=.int j/\C i j/\Q (g i j) H
def rI0 (g:Int->Int->V):R2:=fun x y H Q=>∃ i j,x=.int i/\y=.int j/\Q (g i j) H
def rU (g:Int->V):V->Hp->VK->Prop:=fun x H Q=>∃ i,x=.int i/\Q (g i) H
section
variable {X:Cx}{a b c:Expr}{ta tb tc:TE}{pos:Pos}
theorem binT (ha:PE X a ta) (hb:PE X b tb) {pins:List (Addr × Obj)}{s:Shared}{σ:St}{H:Hp}{R:V->V->Hp->Prop} (I:Inv X pins σ H s)
    (h:ta σ H fun x H1=>tb σ H1 fun y H2=>R x y H2) {Q:Value->Shared->Prop}{f:Value->Value->Sem Value}
    (hf:∀ v u s2 x y H2,Inv X pins σ H2 s2->RelV x v->RelV y u->R x y H2->wpAny (model X.prog X.w) X.A (f v u) Q X.xe s2) :
    wpAny (model X.prog X.w) X.A (eval a X.env) (fun v s₁=>wpAny (model X.prog X.w) X.A (eval b X.env) (fun u s₂=>wpAny (model X.prog X.w) X.A (f v u) Q X.xe s₂) X.xe s₁) X.xe s:=by
  refine thn (ha pins s σ H _ I h) fun v s1 ⟨x,H1,I1,r1,q1⟩=>?_;refine thn (hb pins s1 σ H1 _ I1 q1) fun u s2 ⟨y,H2,I2,r2,q2⟩=>?_;exact hf v u s2 x y H2 I2 r1 r2 q2
theorem xu {op:Operator}{r:R2} (ho:OpR X (binaryOp op) r) (ha:PE X a ta) (hb:PE X b tb):PE X (.BinOp a op b pos) (tOp r ta tb):=by
 intro pins s σ H Q I h;exact wpAny_BinOp (binT ha hb I h fun v u s2 x y H2 I2 rx ry q=>ho pins s2 σ H2 x y v u Q I2 rx ry q)
theorem xq0 {op:UnaryOp}{r:V->Hp->VK->Prop} (ho:UnR X (unaryOp op) r) (ha:PE X a ta):PE X (.UnaryOp op a pos) (tUn r ta):=by
 intro pins s σ H Q I h;exact UnaryOp_ (thn (ha pins s σ H _ I h) fun v s1 ⟨x,H1,I1,r1,q1⟩=>ho pins s1 σ H1 x v Q I1 r1 q1)
theorem opI {f:Value->Value->Sem Value}{C:Int->Int->Prop}{g:Int->Int->Int}
    (rule:∀(i j:Int) (t u:Tok) (s:Shared) (Q:Value->Shared->Prop) (E:Value->Shared->Prop),C i j->Q (.int (g i j) s.toks) { s with toks:=s.toks+1 }->wpAny (model X.prog X.w) X.A (f (.int i t) (.int j u)) Q E s) :
    OpR X f (rI C fun i j=>.int (g i j)):=by
  intro pins s σ H x y v u Q I rx ry h;obtain⟨i,j,rfl,rfl,hc,q⟩:=h;obtain⟨t,rfl⟩:=rx;obtain⟨t',rfl⟩:=ry;exact rule i j t t' s _ _ hc ⟨.int (g i j),H,I.tok _,⟨_,rfl⟩,q⟩
theorem opI0 {f:Value->Value->Sem Value}{g:Int->Int->Int}
    (rule:∀(i j:Int) (t u:Tok) (s:Shared) (Q:Value->Shared->Prop) (E:Value->Shared->Prop),Q (.int (g i j) s.toks) { s with toks:=s.toks+1 }->wpAny (model X.prog X.w) X.A (f (.int i t) (.int j u)) Q E s) :
    OpR X f (rI0 fun i j=>.int (g i j)):=by
  intro pins s σ H x y v u Q I rx ry h;obtain⟨i,j,rfl,rfl,q⟩:=h;obtain⟨t,rfl⟩:=rx;obtain⟨t',rfl⟩:=ry;exact rule i j t t' s _ _ ⟨.int (g i j),H,I.tok _,⟨_,rfl⟩,q⟩
theorem opB0 {f:Value->Value->Sem Value}{g:Int->Int->Bool}
    (rule:∀(i j:Int) (t u:Tok) (s:Shared) (Q:Value->Shared->Prop) (E:Value->Shared->Prop),Q (.bool (g i j)) s->wpAny (model X.prog X.w) X.A (f (.int i t) (.int j u)) Q E s) :
    OpR X f (rI0 fun i j=>.bl (g i j)):=by
  intro pins s σ H x y v u Q I rx ry h;obtain⟨i,j,rfl,rfl,q⟩:=h;obtain⟨t,rfl⟩:=rx;obtain⟨t',rfl⟩:=ry;exact rule i j t t' s _ _ ⟨.bl (g i j),H,I,rfl,q⟩
def CMul (i j:Int):Prop:=(-(2 ^ 64)<i/\i<2 ^ 64)\/(-(2 ^ 64)<j/\j<2 ^ 64)
theorem CMul.ok {i j:Int} (h:CMul i j):IntMulOk i j:=by
 rcases h with⟨h1,h2⟩|⟨h1,h2⟩
 .exact .of_left (intBits_le_64 h1 h2)
 .exact .of_right (intBits_le_64 h1 h2)
theorem xaq:OpR X (binaryOp .Add) (rI0 fun i j=>.int (i+j)):=opI0 fun _ _ _ _ _ _ _ q=>add_int q
theorem xcj:OpR X (binaryOp .Sub) (rI0 fun i j=>.int (i-j)):=opI0 fun _ _ _ _ _ _ _ q=>sub_int q
theorem xfg:OpR X (binaryOp .Mult) (rI CMul fun i j=>.int (i*j)):=opI fun _ _ _ _ _ _ _ hc q=>mul_int q hc.ok
theorem xa1:OpR X (binaryOp .Mod) (rI (fun _ j=>0<j) fun i j=>.int (i % j)):=opI fun i j _ _ _ _ _ hc q=>by
 have h1:(0:Int)<j:=hc;exact mod_int' (by omega) (by rw[Int.fmod_eq_emod_of_nonneg i (by omega)]; exact q)
theorem unI {f:Value->Sem Value}{g:Int->Int}
    (rule:∀(i:Int) (t:Tok) (s:Shared) (Q:Value->Shared->Prop) (E:Value->Shared->Prop),Q (.int (g i) s.toks) { s with toks:=s.toks+1 }->wpAny (model X.prog X.w) X.A (f (.int i t)) Q E s) :
    UnR X f (rU fun i=>.int (g i)):=by
  intro pins s σ H x v Q I rx h;obtain⟨i,rfl,q⟩:=h;obtain⟨t,rfl⟩:=rx;exact rule i t s _ _ ⟨.int (g i),H,I.tok _,⟨_,rfl⟩,q⟩
theorem xm9:UnR X (unaryOp .USub) (rU fun i=>.int (-i)):=unI fun _ _ _ _ _ q=>neg_int q
end
def scal:V->V->Bool
 | .non,.non=>true|.non,.int _=>true|.int _,.non=>true|.non,.bl _=>true|.bl _,.non=>true|.non,.str _=>true|.str _,.non=>true
 | .int _,.int _=>true|.bl _,.bl _=>true|.str _,.str _=>true|.byt _,.byt _=>true
 | .int _,.str _=>true|.str _,.int _=>true|.bl _,.str _=>true|.str _,.bl _=>true
 | _,_=>false
def rEq:R2:=fun x y H Q=>scal x y=true/\Q (.bl (decide (x=y))) H
def rNe:R2:=fun x y H Q=>scal x y=true/\Q (.bl (!decide (x=y))) H
theorem xls {i j:Int}:decide (V.int i=V.int j)=(i == j):=by
 rw[Jh];simp
theorem xnv {i j:Bool}:decide (V.bl i=V.bl j)=(i == j):=by
 rw[Jh];simp
theorem xlg {i j:Str}:decide (V.str i=V.str j)=(i == j):=by
 rw[Jh];simp
theorem xl6 {i j:Array UInt8}:decide (V.byt i=V.byt j)=(i.toList == j.toList):=by
 rw[Jh];cases i;cases j;simp
section
variable {X:Cx}{a b c:Expr}{ta tb tc:TE}{pos:Pos}
theorem xao {pins:List (Addr × Obj)}{σ:St}{H:Hp}{s:Shared}{Q:VK}{k k':Bool} (I:Inv X pins σ H s) (q:Q (.bl k) H) (e:k=k'):EP X pins σ Q (.bool k') s:=by
 subst e;exact⟨.bl k,H,I,rfl,q⟩
theorem xbo:OpR X (compareOp .Eq) rEq:=by
 intro pins s σ H x y v u Q I rx ry h;obtain⟨hs,q⟩:=h;cases x with
 | non =>
  cases rx;cases y with
  | non=>cases ry; exact PySem.EqNone.eq_none_none (xao I q (by simp))
  | bl j=>cases ry; exact PySem.EqNone.eq_none_bool (xao I q (by simp))
  | int j=>obtain⟨t',rfl⟩:=ry; exact PySem.EqNone.eq_none_int (xao I q (by simp))
  | str j=>obtain⟨t',rfl⟩:=ry; exact PySem.EqNone.eq_none_str (xao I q (by simp))
  | _=>exact absurd (show false=true from hs) Z7
 | bl i =>
  cases rx;cases y with
  | non=>cases ry; exact PySem.EqNone.eq_bool_none (xao I q (by simp))
  | bl j=>cases ry; exact eq_bool (xao I q xnv)
  | str j=>obtain⟨t',rfl⟩:=ry; exact PySem.EqMixed.eq_bool_str (xao I q (by simp))
  | _=>exact absurd (show false=true from hs) Z7
 | int i =>
  obtain⟨t,rfl⟩:=rx;cases y with
  | non=>cases ry; exact PySem.EqNone.eq_int_none (xao I q (by simp))
  | int j=>obtain⟨t',rfl⟩:=ry; exact eq_int (xao I q xls)
  | str j=>obtain⟨t',rfl⟩:=ry; exact PySem.EqMixed.eq_int_str (xao I q (by simp))
  | _=>exact absurd (show false=true from hs) Z7
 | str i =>
  obtain⟨t,rfl⟩:=rx;cases y with
  | non=>cases ry; exact PySem.EqNone.eq_str_none (xao I q (by simp))
  | bl j=>cases ry; exact PySem.EqMixed.eq_str_bool (xao I q (by simp))
  | int j=>obtain⟨t',rfl⟩:=ry; exact PySem.EqMixed.eq_str_int (xao I q (by simp))
  | str j=>obtain⟨t',rfl⟩:=ry; exact eq_str (xao I q xlg)
  | _=>exact absurd (show false=true from hs) Z7
 | byt i =>
  obtain⟨t,rfl⟩:=rx;cases y with
  | byt j=>obtain⟨t',rfl⟩:=ry; exact PySem.W.eq_bytes (xao I q xl6)
  | _=>exact absurd (show false=true from hs) Z7
 | _=>cases y<;>exact absurd (show false=true from hs) Z7
theorem xfu:OpR X (compareOp .NotEq) rNe:=by
 intro pins s σ H x y v u Q I rx ry h;obtain⟨hs,q⟩:=h;cases x with
 | non =>
  cases rx;cases y with
  | non=>cases ry; exact PySem.EqNone.ne_none_none (xao I q (by simp))
  | bl j=>cases ry; exact PySem.EqNone.ne_none_bool (xao I q (by simp))
  | int j=>obtain⟨t',rfl⟩:=ry; exact PySem.EqNone.ne_none_int (xao I q (by simp))
  | str j=>obtain⟨t',rfl⟩:=ry; exact PySem.EqNone.ne_none_str (xao I q (by simp))
  | _=>exact absurd (show false=true from hs) Z7
 | bl i =>
  cases rx;cases y with
  | non=>cases ry; exact PySem.EqNone.ne_bool_none (xao I q (by simp))
  | bl j=>cases ry; exact ne_bool (xao I q (congrArg not xnv))
  | str j=>obtain⟨t',rfl⟩:=ry; exact PySem.EqMixed.ne_bool_str (xao I q (by simp))
  | _=>exact absurd (show false=true from hs) Z7
 | int i =>
  obtain⟨t,rfl⟩:=rx;cases y with
  | non=>cases ry; exact PySem.EqNone.ne_int_none (xao I q (by simp))
  | int j=>obtain⟨t',rfl⟩:=ry; exact ne_int (xao I q (congrArg not xls))
  | str j=>obtain⟨t',rfl⟩:=ry; exact PySem.EqMixed.ne_int_str (xao I q (by simp))
  | _=>exact absurd (show false=true from hs) Z7
 | str i =>
  obtain⟨t,rfl⟩:=rx;cases y with
  | non=>cases ry; exact PySem.EqNone.ne_str_none (xao I q (by simp))
  | bl j=>cases ry; exact PySem.EqMixed.ne_str_bool (xao I q (by simp))
  | int j=>obtain⟨t',rfl⟩:=ry; exact PySem.EqMixed.ne_str_int (xao I q (by simp))
  | str j=>obtain⟨t',rfl⟩:=ry; exact ne_str (xao I q (congrArg not xlg))
  | _=>exact absurd (show false=true from hs) Z7
 | byt i =>
  obtain⟨t,rfl⟩:=rx;cases y with
  | byt j=>obtain⟨t',rfl⟩:=ry; exact PySem.W.ne_bytes (xao I q (congrArg not xl6))
  | _=>exact absurd (show false=true from hs) Z7
 | _=>cases y<;>exact absurd (show false=true from hs) Z7
theorem xji:OpR X (compareOp .Lt) (rI0 fun i j=>.bl (decide (i<j))):=opB0 fun _ _ _ _ _ _ _ q=>lt_int q
theorem xgb:OpR X (compareOp .LtE) (rI0 fun i j=>.bl (decide (i<=j))):=opB0 fun _ _ _ _ _ _ _ q=>le_int q
theorem xvj:OpR X (compareOp .Gt) (rI0 fun i j=>.bl (decide (j<i))):=opB0 fun _ _ _ _ _ _ _ q=>gt_int q
theorem xvd:OpR X (compareOp .GtE) (rI0 fun i j=>.bl (decide (j<=i))):=opB0 fun _ _ _ _ _ _ _ q=>ge_int q
theorem xtk:OpR X (compareOp .Is) (fun x y H Q=>y=.non/\Q (.bl (decide (x=.non))) H):=by
 intro pins s σ H x y v u Q I rx ry h;obtain⟨rfl,q⟩:=h;cases ry;refine is_none_gen (xao I q ?_);cases x<;>first
  | (cases rx; rfl)
  | (obtain⟨t,rfl⟩:=rx; rfl)
def isObj:HO->Bool
 | .lst _=>true
 | .ins _ _ _=>true
 | _=>false
theorem x9 (b:Expr) {op:CmpOp} (h:op≠.In:=by decide) (h2:op≠.NotIn:=by decide):behindInMarks op b=false:=by
 have e1:(op == CmpOp.In)=false:=by cases op<;>first|rfl|exact absurd rfl h
 have e2:(op == CmpOp.NotIn)=false:=by cases op<;>first|rfl|exact absurd rfl h2
 cases b<;>simp[behindInMarks,e1,e2]
theorem xby {op:CmpOp}{r:R2} (ho:OpR X (compareOp op) r) (ha:PE X a ta) (hb:PE X b tb) (hm:behindInMarks op b=false):PE X (.Compare a [op] [b] pos) (tOp r ta tb):=by
 intro pins s σ H Q I h;exact wpAny_Compare1 (binT ha hb I h fun v u s2 x y H2 I2 rx ry q=>ho pins s2 σ H2 x y v u Q I2 rx ry q) hm
def xq5 (t:TE):TT:=fun σ H Q=>t σ H fun x H'=>∃ k,x=.bl k/\Q k H'
theorem xaa {op:CmpOp}{r:R2} (ho:OpR X (compareOp op) r) (ha:PE X a ta) (hb:PE X b tb) (hm:behindInMarks op b=false):PT X (.Compare a [op] [b] pos) (xq5 (tOp r ta tb)):=by
 intro pins s σ H Q I h;refine wpAny_isTrue_Compare1 (thn (ha pins s σ H _ I h) fun v s1 ⟨x,H1,I1,r1,q1⟩=>thn (hb pins s1 σ H1 _ I1 q1) fun u s2 ⟨y,H2,I2,r2,q2⟩ =>
  thn (ho pins s2 σ H2 x y v u _ I2 r1 r2 q2) fun c s3 ⟨z,H3,I3,r3,k,e,q3⟩=>?_) hm
 subst e;cases r3;exact J5 ⟨H3,I3,q3⟩
def xm4 (r r':R2) (ta tb tc:TE):TE:=fun σ H Q=>ta σ H fun x H1=>tb σ H1 fun y H2=>r x y H2 fun z H3=>∃ k,z=.bl k /\
 (if k=true then tc σ H3 fun w' H4=>r' y w' H4 Q else Q (.bl false) H3)
theorem xgt {op op':CmpOp}{r r':R2} (ho:OpR X (compareOp op) r) (ho':OpR X (compareOp op') r') (ha:PE X a ta) (hb:PE X b tb) (hc:PE X c tc)
    (hm:lastMarks [op,op'] [b,c]=false:=by with_unfolding_all rfl):PE X (.Compare a [op,op'] [b,c] pos) (xm4 r r' ta tb tc):=by
  intro pins s σ H Q I h;refine Compare_chain (thn (ha pins s σ H _ I h) fun v s1 ⟨x,H1,I1,r1,q1⟩=>chain_link (thn (hb pins s1 σ H1 _ I1 q1) fun u s2 ⟨y,H2,I2,r2,q2⟩ =>
    thn (ho pins s2 σ H2 x y v u _ I2 r1 r2 q2) fun d s3 ⟨z,H3,I3,r3,k,e,q3⟩=>?_)) hm
  subst e;cases r3;refine J5 ?_;cases k with
  | false=>exact ite_ff ⟨.bl false,H3,I3,rfl,q3⟩
  | true=>exact ite_tt (chain_last (thn (hc pins s3 σ H3 _ I3 q3) fun w' s4 ⟨z',H4,I4,r4,q4⟩=>ho' pins s4 σ H4 y z' u w' Q I4 r2 r4 q4))
theorem xjo {op op':CmpOp}{r r':R2} (ho:OpR X (compareOp op) r) (ho':OpR X (compareOp op') r') (ha:PE X a ta) (hb:PE X b tb) (hc:PE X c tc)
    (hm:lastMarks [op,op'] [b,c]=false:=by with_unfolding_all rfl):PT X (.Compare a [op,op'] [b,c] pos) (xq5 (xm4 r r' ta tb tc)):=by
  intro pins s σ H Q I h;refine isTrue_chain (thn (ha pins s σ H _ I h) fun v s1 ⟨x,H1,I1,r1,q1⟩=>test_link (thn (hb pins s1 σ H1 _ I1 q1) fun u s2 ⟨y,H2,I2,r2,q2⟩ =>
    thn (ho pins s2 σ H2 x y v u _ I2 r1 r2 q2) fun d s3 ⟨z,H3,I3,r3,k,e,q3⟩=>?_)) hm
  subst e;cases r3;refine J5 ?_;cases k with
  | false =>
    obtain⟨k',e',q'⟩:=q3;cases e';exact ite_ff ⟨H3,I3,q'⟩
  | true =>
    refine ite_tt (test_last (thn (hc pins s3 σ H3 _ I3 q3) fun w' s4 ⟨z',H4,I4,r4,q4⟩=>thn (ho' pins s4 σ H4 y z' u w' _ I4 r2 r4 q4) fun d' s5 ⟨z2,H5,I5,r5,k2,e2,q5⟩=>?_));subst e2;cases r5;exact J5 ⟨H5,I5,q5⟩
theorem xe6:(sizeLine:Nat)<2 ^ 63:=by rw[sizeLine_eq]; decide
theorem xbr {x:V}{us:List Value} (r:Vals [x] us):∃ u,us=[u]/\RelV x u:=by
 cases r with
 | cons r1 r2=>cases r2; exact⟨_,rfl,r1⟩
theorem xja {x y:V}{us:List Value} (r:Vals [x,y] us):∃ u w',us=[u,w']/\RelV x u/\RelV y w':=by
 cases r with
 | cons r1 r2 =>
  cases r2 with
  | cons r3 r4=>cases r4; exact⟨_,_,rfl,r1,r3⟩
theorem xp1:xbx X (.builtin "abs") (fun xs H Q=>∃ i,xs=[.int i]/\Q (.int (if i<0 then -i else i)) H):=by
 intro pins s σ H xs us Q I r h;obtain⟨i,rfl,q⟩:=h;obtain⟨u,rfl,t,rfl⟩:=xbr r;exact call_abs_int fun u tk=>⟨.int (if i<0 then -i else i),H,I.tok _,⟨_,rfl⟩,q⟩
theorem xov (hc:X.calm=true):xbx X (.builtin "min") (fun xs H Q=>∃ i j,xs=[.int i,.int j]/\Q (.int (if j<i then j else i)) H):=by
 intro pins s σ H xs us Q I r h;obtain⟨i,j,rfl,q⟩:=h;obtain⟨u,w',rfl,⟨t,rfl⟩,⟨t',rfl⟩⟩:=xja r;refine min_two_ints (I.ok.hd hc) fun h' tk k=>⟨_,H,I.kept k,?_,q⟩
 by_cases hj:j<i
 .rw [if_pos hj,if_pos hj]; exact⟨_,rfl⟩
 .rw [if_neg hj,if_neg hj]; exact⟨_,rfl⟩
end
structure ObjM (h:Heap) (x dx C:Addr) (mA:Str->Option Value):Prop where
 obj:h.get? x=some (JU C dx)
 ns:h.Ns1 dx mA
 ne:dx≠x
theorem xow {h:Heap}{dx:Addr}{mA:Str->Option Value} (n:h.Ns1 dx mA):∃ od,h.get? dx=some od/\∀ name,QD name od=some (mA name):=by
 obtain⟨o,es,ep,ho,hd,hk,_,hm⟩:=n;refine⟨o,ho,fun name=>?_⟩;have e:=hm name;unfold nsFind findBy at e;rw[<- Array.find?_toList] at e;unfold QD;rw[hd]
 dsimp only
 split
 .rename_i y q
  rw[q] at e;exact congrArg some e
 .rename_i q
  rw[q] at e;have a:es.toList.any (·.refKey)=false:=by
   rw[List.any_eq_false];intro y hy;obtain⟨z,t,hkey⟩:=hk y (Array.mem_toList_iff.mp hy);simp[DictEntry.refKey,hkey]
  have a':¬ es.toList.any (·.refKey)=true:=by rw[a]; exact Z7
  rw[if_neg a'];exact congrArg some e
theorem ObjM.look {h:Heap}{x dx C:Addr}{mA:Str->Option Value} (I:ObjM h x dx C mA):∃ od,PySem.W.InstAt h x (JU C dx) C (some od)/\∀ name,QD name od=some (mA name) :=
 let ⟨od,ho,hl⟩:=xow I.ns
 ⟨od,⟨I.obj,rfl,rfl,ho⟩,hl⟩
section
variable {prog:Program}{w:World}{A:Around}{E:Value->Shared->Prop}{s:Shared}{K:Ze}{x dx C f:Addr}{mA:Str->Option Value}{name:Str}{v:Value}
theorem xss {expr:Bool}{Q:Value->Shared->Prop} (X:K.In s.heap) (I:ObjM s.heap x dx C mA) (hg:JO K C name=true) (hh:JX K C=true)
    (ha:ZJ K (.ref C) name=some none) (hv:mA name=some v) (hv':PySem.W.handedIn v=true) (h:Q v { s with toks:=s.toks+1 }) :
    wpAny (model prog w) A (getAttr (.ref x) name expr) Q E s:=by
  obtain⟨od,J,hl⟩:=I.look;exact PySem.W.get_value X J (QP hg).1 (PySem.W.findObj_own hh ha rfl (by rw[hl,hv])) hv' h
theorem xp3 {pl:Sem Bool}{Q:Value × List Value->Shared->Prop} (X:K.In s.heap) (I:ObjM s.heap x dx C mA) (hg:JO K C name=true)
    (hf:ZJ K (.ref C) name=some (some (.ref f))) (ht:ZG K (.ref f)=true) (hv:mA name=none) (h:Q (.ref f,[.ref x]) s) :
    wpAny (model prog w) A (getMethod (.ref x) name pl) Q E s:=by
  obtain⟨od,J,hl⟩:=I.look;exact PySem.W.method_fn X J (QP hg).1 (QP hg).2 hf (beq_iff_eq.mp ht) (by show (QD name od).map (·.isSome)=some false; rw[hl,hv]; rfl) h
theorem xq9 {ns:List Str}{Q:Unit->Shared->Prop} (X:K.In s.heap) (I:ObjM s.heap x dx C mA)
    (hs:ZJ K (.ref C) "__setattr__"=some (some (.builtin "object.__setattr__"))) (hp:Yl K C=true) (ht:PySem.W.takerIn K C name=some none) (hh:JX K C=true)
    (hw:Qy mA ns) (hsz:ns.length<=sizeLine)
    (h:∀ h',ObjM h' x dx C (fun y=>if y=name then some v else mA y)->ZN dx s.heap h'->Q () { s with heap:=h',toks:=s.toks+2 }) :
    wpAny (model prog w) A (setAttr (.ref x) name v) Q E s:=by
  obtain⟨od,J,hl⟩:=I.look;refine PySem.W.set_plain X J hs (PySem.W.osa_open (s:={ s with toks:=s.toks+1 }) (r:=none) X J hp ht fun b=>?_);obtain⟨cd,hc,hd'⟩:=PySem.W.any_some hh;have hx:s.heap.get? x=some ⟨.ref C,some dx,.plain,#[]⟩:=I.obj;refine Zc (Zm (Zc (Zc (wpAny_loadPart hx (Zc (PySem.W.Looks.here (s:={ s with toks:=s.toks+1 }) (PySem.W.looks_clsIn X hc) ?_))))));rw[hd'];refine Zm (a:=some dx) (Zc (Zm (Zc ?_)));refine wpAny_nsSet1 (s:={ s with toks:=s.toks+1 }) I.ns fun h' hn2 hs2=>?_;obtain⟨oD,esD,epD,hoD,hdD,hcD⟩:=hn2.count (Qy.cons name v hw);refine Zc (wpAny_lookBehind hoD (by rw[hdD]; exact pastItsLine_dict (ZB hcD (by rw[ZQ]; omega))) ?_);exact Zm (h _ ⟨(hs2.2 _ (ZE I.ne)).trans I.obj,hn2,I.ne⟩ hs2)
theorem xpg {R:Result->Shared->Prop}{vs:List Value}{kw:List (Str × Value)} (X:K.In s.heap) (hm:Y2 K C=true)
    (hi:ZJ K (.ref C) "__init__"=some (some (.ref f))) (hf:PySem.W.typeIn K (.ref f)=some (.type "function"))
    (h:codeAny (model prog w) (A.under (.builtin "type.__call__" ⟨.ref C::vs,kw⟩)) (.call (.ref f) ⟨.ref (s.heap.objs.size+1)::vs,kw⟩) (PySem.W.InitBack (s.heap.objs.size+1) R)
      { s with heap:=(s.heap.push J7).push (JU C s.heap.objs.size) }) :
    codeAny (model prog w) A (.call (.ref C) ⟨vs,kw⟩) R s:=by
  obtain⟨hh,g,d,t,os⟩:=s;exact PySem.W.make_core (PySem.W.makes_of X hm) (PySem.W.looks_findIn X hi) (fun self=>PySem.W.bind_fn X self hf) (.inl rfl) h
end
def putF (f:Str) (v:V):List (Str × V)->List (Str × V)
 | []=>[(f,v)]
 | (g,x)::r=>if g=f then (g,v)::r else (g,x)::putF f v r
theorem xgj (f g:Str) (v:V):∀ fs:List (Str × V),(putF f v fs).lookup g=if g=f then some v else fs.lookup g
 | []=>by
  show Ja g [(f,v)]=_;by_cases h:g=f
  .have hb:(g == f)=true:=beq_iff_eq.mpr h;simp only[Ja,hb,if_pos h]
  .have hb:(g == f)=false:=beq_eq_false_iff_ne.mpr h;simp only[Ja,hb,if_neg h]
 | (k,x)::r=>by
  have ih:=xgj f g v r;rw[show putF f v ((k,x)::r)=(if k=f then (k,v)::r else (k,x)::putF f v r) from rfl];by_cases hk:k=f
  .rw [if_pos hk];by_cases h:g=k
   .have hb:(g == k)=true:=beq_iff_eq.mpr h;simp only[Ja,hb,if_pos (h.trans hk)]
   .have hb:(g == k)=false:=beq_eq_false_iff_ne.mpr h;simp only[Ja,hb,if_neg (fun e:g=f=>h (e.trans hk.symm))]
  .rw [if_neg hk];by_cases h:g=k
   .have hb:(g == k)=true:=beq_iff_eq.mpr h;simp only[Ja,hb,if_neg (fun e:g=f=>hk (h.symm.trans e))]
   .have hb:(g == k)=false:=beq_eq_false_iff_ne.mpr h;simp only[Ja,hb];exact ih
theorem xfj (f:Str) (v:V):∀ fs:List (Str × V),f∈(putF f v fs).map (·.1)/\∀ g,g∈fs.map (·.1)->g∈(putF f v fs).map (·.1)
 | []=>⟨by simp[putF],fun g h=>by simp at h⟩
 | (k,x)::r=>by
  obtain⟨i1,i2⟩:=xfj f v r;rw[show putF f v ((k,x)::r)=(if k=f then (k,v)::r else (k,x)::putF f v r) from rfl];by_cases hk:k=f
  .rw [if_pos hk];subst hk;exact⟨by simp,fun g h=>by simpa using h⟩
  .rw [if_neg hk];refine⟨?_,fun g h=>?_⟩
   .rw [Zr];exact Z1 _ i1
   .rw [Zr] at h ⊢;rcases Zx.mp h with e|e
    .exact Zx.mpr (.inl e)
    .exact Z1 _ (i2 g e)
theorem xgi (f:Str) (v:V):∀ fs:List (Str × V),(putF f v fs).length<=fs.length+1
 | []=>by simp[putF]
 | (k,x)::r=>by
  have ih:=xgi f v r;rw[show putF f v ((k,x)::r)=(if k=f then (k,v)::r else (k,x)::putF f v r) from rfl];by_cases hk:k=f
  .rw [if_pos hk,ZQ,ZQ]; omega
  .rw [if_neg hk,ZQ,ZQ]; omega
theorem RelO.some_of {v:V}{o:Option Value} (r:RelO (some v) o):∃ u,o=some u/\RelV v u:=by
 cases o with
 | none=>exact (show False from r).elim
 | some u=>exact⟨u,rfl,r⟩
theorem RelO.none_of {o:Option Value} (r:RelO none o):o=none:=by
 cases o with
 | none=>rfl
 | some u=>exact (show False from r).elim
theorem xnt {v:V}{u:Value} (r:RelV v u):PySem.W.handedIn u=true:=by
 cases v with
 | non=>cases (show u=Jd from r); rfl
 | bl b=>cases (show u=Yf b from r); rfl
 | int i=>obtain⟨t,e⟩:=(show ∃ t,u=QN i t from r); cases e; rfl
 | str x=>obtain⟨t,e⟩:=(show ∃ t,u=Qn x t from r); cases e; rfl
 | byt b=>obtain⟨t,e⟩:=(show ∃ t,u=Value.bytes b t from r); cases e; rfl
 | flt b=>obtain⟨t,e⟩:=(show ∃ t,u=Value.float b t from r); cases e; rfl
 | ref a=>cases (show u=Zn a from r); rfl
 | ty n=>cases (show u=Qx n from r); rfl
section
variable {P:Program}{w:World}{H H':Hp}{h h':Heap}{a C dx:Addr}{fs fs':List (Str × V)}
theorem xf6 (hok:HOk P w H h) (e:H a=some (.ins C dx fs)):∃ mA,ObjM h a dx C mA/\(∀ f,RelO (fs.lookup f) (mA f))/\Qy mA (fs.map (·.1))/\fs.length<=1000/\H dx=some (.own a):=by
 obtain⟨d,z,ne,ob,mA,n,r,q⟩:=(show xau P w H h a (.ins C dx fs) from hok a _ e)
 exact⟨mA,⟨ob,n,ne⟩,r,q,z,d⟩
end
structure Cls (K:Ze) (C:Addr):Prop where
 pg:JO K C Str.empty=true
 hd:JX K C=true
 po:Yl K C=true
 sa:ZJ K (.ref C) "__setattr__"=some (some (.builtin "object.__setattr__"))
theorem Cls.get {K:Ze}{C:Addr} (c:Cls K C) (f:Str):JO K C f=true:=c.pg
def xd0 (K:Ze) (C:Addr) (f:Str):Prop:=ZJ K (.ref C) f=some none
theorem xd0.taker {K:Ze}{C:Addr}{f:Str} (n:xd0 K C f):PySem.W.takerIn K C f=some none:=by
 unfold PySem.W.takerIn;rw[show ZJ K (.ref C) f=some none from n];rfl
structure Meth (K:Ze) (C:Addr) (m:Str) (f:Addr):Prop where
 at_:ZJ K (.ref C) m=some (some (.ref f))
 fn:ZG K (.ref f)=true
 kp:Jw K (.ref f)=true
section
variable {X:Cx}{pins:List (Addr × Obj)}{σ:St}{H:Hp}{s:Shared}{a C dx:Addr}{fs:List (Str × V)}{f:Str}{v:V}{A:Around}{E:Value->Shared->Prop}
theorem xmd {b:Bool}{Q:Value->Shared->Prop} (I:Inv X pins σ H s) (e:H a=some (.ins C dx fs)) (c:Cls X.K C) (n:xd0 X.K C f) (l:fs.lookup f=some v)
    (h:∀ u s',Inv X pins σ H s'->RelV v u->Q u s'):wpAny (model X.prog X.w) A (getAttr (.ref a) f b) Q E s:=by
  obtain⟨mA,O,r,_,_,_⟩:=xf6 I.hok e;obtain⟨u,hu,ru⟩:=RelO.some_of (v:=v) (o:=mA f) (by rw[<- l]; exact r f);exact xss I.kIn O (c.get f) c.hd n hu (xnt ru) (h u _ (I.tok _) ru)
theorem xhc {m:Str}{g:Addr}{pl:Sem Bool}{Q:Value × List Value->Shared->Prop} (I:Inv X pins σ H s) (e:H a=some (.ins C dx fs)) (c:Cls X.K C) (k:Meth X.K C m g) (l:fs.lookup m=none)
    (h:Q (.ref g,[.ref a]) s):wpAny (model X.prog X.w) A (getMethod (.ref a) m pl) Q E s:=by
  obtain⟨mA,O,r,_,_,_⟩:=xf6 I.hok e;have hn:mA m=none:=RelO.none_of (by rw[<- l]; exact r m);exact xp3 I.kIn O (c.get m) k.at_ k.fn hn h
theorem xmc {y:V}{u:Value}{Q:Unit->Shared->Prop} (I:Inv X pins σ H s) (e:H a=some (.ins C dx fs)) (c:Cls X.K C) (n:xd0 X.K C f) (hl:fs.length<1000) (ry:RelV y u)
    (h:∀ s',Inv X pins σ (upd H a (.ins C dx (putF f y fs))) s'->Q () s'):wpAny (model X.prog X.w) A (setAttr (.ref a) f u) Q E s:=by
  obtain⟨mA,O,r,wi,_,ho⟩:=xf6 I.hok e;have hz:(fs.map (·.1)).length<=sizeLine:=by rw[Za,sizeLine_eq]; omega
  refine xq9 I.kIn O c.sa c.po n.taker c.hd wi hz fun h' O' sb=>h _ ?_;have hd:∃ o,h'.get? dx=some o:=let ⟨o,_,_,e',_⟩:=O'.ns; ⟨o,e'⟩;refine I.write (x:=a) (e:=dx) (by rw[e]; exact Jx) (.inr ho) (fun b q hb z=>(sb.2 b hb).trans z) hd ?_;refine⟨by rw[xh O.ne]; exact ho,?_,O.ne,O'.obj,_,O'.ns,fun g=>?_,fun g hg=>?_⟩
  . have:=xgi f y fs; omega
  . show RelO ((putF f y fs).lookup g) (if g=f then some u else mA g)
    rw[xgj];by_cases q:g=f
    . rw[if_pos q,if_pos q]; exact ry
    . rw[if_neg q,if_neg q]; exact r g
  . by_cases q:g=f
    . rw[q]; exact (xfj f y fs).1
    . refine (xfj f y fs).2 g (wi g fun z=>hg ?_)
      show (if g=f then some u else mA g)=none;rw[if_neg q]; exact z
theorem Inv.made (I:Inv X pins σ H s):Inv X pins σ (upd (upd H s.heap.objs.size (.own (s.heap.objs.size+1))) (s.heap.objs.size+1) (.ins C s.heap.objs.size []))
    { s with heap:=(s.heap.push J7).push (JU C s.heap.objs.size) }:=by
  have e1:(s.heap.push J7).get? s.heap.objs.size=some J7:=Zu s.heap rfl;have e2:((s.heap.push J7).push (JU C s.heap.objs.size)).get? (s.heap.objs.size+1)=some (JU C s.heap.objs.size):=by
    have:=Zu (s.heap.push J7) (o:=JU C s.heap.objs.size) rfl
    rwa [Heap.size_push] at this
  have e3:(s.heap.push J7).Ns s.heap.objs.size (fun _=>none):=⟨J7,#[],_,e1,rfl,(fun e he=>absurd he (by simp)),fun _=>rfl⟩
  have I1:=I.laid (a:=s.heap.objs.size) (o:=.own (s.heap.objs.size+1)) (h':=s.heap.push J7) (t':=s.toks) (fun b u q=>Zg _ q) (Zj _) ⟨_,e1⟩;refine I1.laid (a:=s.heap.objs.size+1) (o:=.ins C s.heap.objs.size []) (t':=s.toks) (fun b u q=>Zg _ q) (Nat.le_of_eq (Heap.size_push _ _)) ?_;have ne:s.heap.objs.size≠s.heap.objs.size+1:=ZK (Nat.lt_succ_self _);refine⟨by rw[xh ne,xb],ZZ _,ne,e2,fun _=>none,(Heap.Ns1.of_empty e3).at fun o q=>Zg _ q,fun _=>Jx,fun y hy=>absurd rfl hy⟩
theorem xrr {prog:Program}{w:World}{env:Env}{e:Expr}{f:Str}{pos:Pos}{s:Shared}{Q:Value->Shared->Prop} (hb:attributeBase e f env (eval e env)=eval e env)
    (h:wpAny (model prog w) A (eval e env) (fun o s₁=>wpAny (model prog w) A (getAttr o f true) Q E s₁) E s):wpAny (model prog w) A (eval (.Attribute e f pos) env) Q E s :=
  Attribute_any_ h (by rw[arm_eval_Attribute,hb])
end
def tFld (K:Ze) (ta:TE) (f:Str):TE:=fun σ H Q=>ta σ H fun x H1=>∃ a C dx fs v,x=.ref a/\H1 a=some (.ins C dx fs)/\Cls K C/\xd0 K C f/\fs.lookup f=some v/\Q v H1
def sFld (K:Ze) (ta tv:TE) (f:Str):TS:=fun D σ H=>tv σ H fun y H1=>ta σ H1 fun x H2=>∃ a C dx fs,x=.ref a/\H2 a=some (.ins C dx fs)/\Cls K C/\xd0 K C f/\fs.length<1000 /\
 D.nx σ (upd H2 a (.ins C dx (putF f y fs)))
section
variable {X:Cx}{o e value:Expr}{f:Str}{pos pos' tpos:Pos}{ta tv:TE}
theorem x4 (he:PE X e ta) (hb:attributeBase e f X.env (eval e X.env)=eval e X.env):PE X (.Attribute e f pos) (tFld X.K ta f):=by
 intro pins s σ H Q I h;refine xrr hb (thn (he pins s σ H _ I h) fun u s1 ⟨x,H1,I1,rx,a,C,dx,fs,v,ex,ea,c,n,l,q⟩=>?_);subst ex;obtain rfl:u=Zn a:=rx;exact xmd I1 ea c n l fun u' s2 I2 ru=>⟨v,H1,I2,ru,q⟩
theorem xdj (ha:PE X o ta) (hv:PE X value tv) (hs:swapsWith value (some (.Attribute o f pos')) pos.line X.env=pure false):PS X (.Assign [.Attribute o f pos'] value pos) (sFld X.K ta tv f):=by
 intro pins s σ H D I h;refine plainObj_wpAny_Assign_Attribute (thn (hv pins s σ H _ I h) fun u s1 ⟨y,H1,I1,ry,q⟩=>thn (ha pins s1 σ H1 _ I1 q) fun ov s2 ⟨x,H2,I2,rx,a,C,dx,fs,ex,ea,c,n,l,q2⟩=>?_) hs;subst ex;obtain rfl:ov=Zn a:=rx;exact xmc I2 ea c n l ry fun s3 I3=>⟨σ,_,I3,q2⟩
end
section
variable {X:Cx}{pins:List (Addr × Obj)}{σ:St}{H:Hp}{s:Shared}{A:Around}{E:Value->Shared->Prop}{Q:Value->Shared->Prop}{c:Value}{b:Bool}
inductive TyOf (K:Ze) (H:Hp):V->Value->Prop where
  | non:TyOf K H .non (.type "NoneType")
  | bl (x:Bool):TyOf K H (.bl x) (.type "bool")
  | int (i:Int):TyOf K H (.int i) (.type "int")
  | str (x:Str):TyOf K H (.str x) (.type "str")
  | flt (x:UInt64):TyOf K H (.flt x) (.type "float")
  | lst {a:Addr}{xs:List V} (e:H a=some (.lst xs)):TyOf K H (.ref a) (.type "list")
  | frz {a:Addr}{o:Obj}{xs:List V} (e:H a=some (.frz o (.lst xs))):TyOf K H (.ref a) (.type "list")
  | tup {a:Addr}{xs:List V} (e:H a=some (.tup xs)):TyOf K H (.ref a) (.type "tuple")
  | dK {a:Addr}{kvs:List (Key × V)} (e:H a=some (.dK kvs)):TyOf K H (.ref a) (.type "dict")
  | dT {a:Addr}{kvs:List (List Key × V)} (e:H a=some (.dT kvs)):TyOf K H (.ref a) (.type "dict")
  | ins {a C dx:Addr}{fs:List (Str × V)} (e:H a=some (.ins C dx fs)) (cl:Cls K C) (ha:ZJ K (.ref C) "__class__"=some (some (.builtin "object.__class__")))
      (hn:PySem.W.specialIn K (.builtin "object.__class__") "__get__"=some (some (.builtin "getset_descriptor.__get__"))) (htk:PySem.W.takesIn K (.builtin "object.__class__")=some true)
      (hm:PySem.W.mroIn K C (.type "object")=some true):TyOf K H (.ref a) (.ref C)
theorem xoy {x:V}{u t:Value} (I:Inv X pins σ H s) (rx:RelV x u) (ty:TyOf X.K H x t) (e:QE X.K t c=some b) (h:∀ tk,Q (.bool b) { s with toks:=tk }) :
    wpAny (model X.prog X.w) A (call (.builtin "isinstance") [u,c]) Q E s:=by
  cases ty with
  | non=>cases (show u=Jd from rx); exact Jr PySem.W.kitx_none I.kIn Jx e (fun z=>nomatch z) h
  | bl y=>cases (show u=Yf y from rx); exact Jr PySem.W.kitx_bool I.kIn Jx e (fun z=>nomatch z) h
  | int i=>obtain⟨t,q⟩:=(show ∃ t,u=QN i t from rx); cases q; exact Jr PySem.W.kitx_int I.kIn Jx e (fun z=>nomatch z) h
  | str y=>obtain⟨t,q⟩:=(show ∃ t,u=Qn y t from rx); cases q; exact Jr PySem.W.kitx_str I.kIn Jx e (fun z=>nomatch z) h
  | flt y=>obtain⟨t,q⟩:=(show ∃ t,u=Value.float y t from rx); cases q; exact Jr PySem.W.kitx_float I.kIn Jx e (fun z=>nomatch z) h
  | @lst a xs ea =>
    cases (show u=Zn a from rx);obtain⟨_,_,n,_,h1⟩:=(show xau X.prog X.w H s.heap a (.lst xs) from I.hok a _ ea)
    exact Jr PySem.W.kitx_list I.kIn ⟨_,h1,rfl⟩ e (fun z=>nomatch z) h
  | @frz a ob xs ea =>
    cases (show u=Zn a from rx);obtain⟨_,_,_,n,_,h1⟩:=(show xau X.prog X.w H s.heap a (.frz ob (.lst xs)) from I.hok a _ ea)
    exact Jr PySem.W.kitx_list I.kIn ⟨_,h1,rfl⟩ e (fun z=>nomatch z) h
  | @tup a xs ea =>
    cases (show u=Zn a from rx);obtain⟨_,_,_,p⟩:=(show xau X.prog X.w H s.heap a (.tup xs) from I.hok a _ ea)
    obtain⟨o,h1,h2,_⟩:=p;exact Jr PySem.W.kitx_tuple I.kIn ⟨o,h1,h2⟩ e (fun z=>nomatch z) h
  | @dK a kvs ea =>
    cases (show u=Zn a from rx);obtain⟨_,_,vs,_,p⟩:=(show xau X.prog X.w H s.heap a (.dK kvs) from I.hok a _ ea)
    obtain⟨o,es,ep,h1,h2,_⟩:=p;exact Jr PySem.W.kitx_dict I.kIn ⟨o,h1,h2.1⟩ e (fun z=>nomatch z) h
  | @dT a kvs ea =>
    cases (show u=Zn a from rx);obtain⟨_,_,xs,_,o,es,ep,h1,h2,_⟩:=(show xau X.prog X.w H s.heap a (.dT kvs) from I.hok a _ ea)
    exact Jr PySem.W.kitx_dict I.kIn ⟨o,h1,h2.1⟩ e (fun z=>nomatch z) h
  | @ins a C dx fs ea cl ha hn htk hm =>
    cases (show u=Zn a from rx);obtain⟨mA,O,_⟩:=xf6 I.hok ea;obtain⟨od,J,_⟩:=O.look;exact Jr (PySem.W.kitx_own (cl.get _) cl.hd ha hn htk hm) I.kIn J e (fun z=>nomatch z) h
end
structure Room (q0:Bool) (k:Nat) (A:Around):Prop where
 hd:q0=true->A.handled=none
 dp:A.depth+3*k+5<recursionLimit
 un:A.units+16*k+200<cLine
theorem Room.mono {j k:Nat}{A:Around} (r:Room q0 k A) (h:j<=k):Room q0 j A:=⟨r.hd,by have:=r.dp; omega,by have:=r.un; omega⟩
theorem Room.deeper {k:Nat}{A:Around} (r:Room q0 (k+1) A) (env:Env):Room q0 k (A.deeper env) :=
 ⟨r.hd,by have:=r.dp; show A.depth+1+3*k+5<_; omega,by have:=r.un; show A.units+3+16*k+200<_; omega⟩
theorem xmv {A:Around}{C:Addr}{us:List Value}{kw:List (Str × Value)}:(A.under (.builtin "type.__call__" ⟨.ref C::us,kw⟩)).depth=A.depth+1:=by
 first|rfl|simp[Around.under,Code.weight,Code.isCreation,Code.isGuard,Code.isCaller,Code.frames,Code.isFrame,guardIds]
theorem xmx {A:Around}{C:Addr}{us:List Value}{kw:List (Str × Value)}:(A.under (.builtin "type.__call__" ⟨.ref C::us,kw⟩)).units=A.units+1:=by
 first|rfl|simp[Around.under,Code.cUnits,Code.frames,Code.isFrame]
theorem Room.make {k:Nat}{A:Around} (r:Room q0 (k+1) A) (C:Addr) (us:List Value) (kw:List (Str × Value)):Room q0 k (A.under (.builtin "type.__call__" ⟨.ref C::us,kw⟩)) :=
 ⟨r.hd,by have:=r.dp; rw[xmv]; omega,by have:=r.un; rw[xmx]; omega⟩
theorem Room.depth {k:Nat}{A:Around} (r:Room q0 k A):A.depth<recursionLimit:=by have:=r.dp; omega
theorem Room.units {k:Nat}{A:Around} (r:Room q0 k A):A.units+64<cLine:=by have:=r.un; omega
def tNil:TA:=fun _ H Q=>Q [] H
def xfv (ta:TE) (tr:TA):TA:=fun σ H Q=>ta σ H fun x H1=>tr σ H1 fun xs H2=>Q (x::xs) H2
section
variable {X:Cx}{e:Expr}{es:List Expr}{te:TE}{t:TA}{pos:Pos}
theorem xf:PA X [] tNil:=fun _ _ _ _ H Q I h=>Qe ⟨[],H,I,.nil,h⟩
theorem xa (ha:PE X e te) (hr:PA X es t) (hs:starEach (e::es) X.env=(false,eval e X.env)::starEach es X.env:=by rfl):PA X (e::es) (xfv te t):=by
 intro pos pins s σ H Q I h;rw[hs];show wpAny _ _ (spliced ((false,eval e X.env)::backTo pos (starEach es X.env))) _ _ s;refine Y8 (thn (ha pins s σ H _ I h) fun u s1 ⟨x,H1,I1,r1,q1⟩=>?_);exact thn (hr pos pins s1 σ H1 _ I1 q1) fun us s2 ⟨xs,H2,I2,r2,q2⟩=>⟨x::xs,H2,I2,.cons r1 r2,q2⟩
def tTup (t:TA):TE:=fun σ H Q=>t σ H fun xs H1=>xs.length<=sizeLine/\∀ p,H1 p=none->Q (.ref p) (upd H1 p (.tup xs))
def tLst (t:TA):TE:=fun σ H Q=>t σ H fun xs H1=>xs.length<=sizeLine/\∀ p,H1 p=none->Q (.ref p) (upd H1 p (.lst xs))
theorem xal {x1} (h:PA X es t):PE X (.Tuple es x1 pos) (tTup t):=by
 intro pins s σ H Q I hq;refine wpAny_Tuple_spliced (thn (h pos pins s σ H _ I hq) fun us s1 ⟨xs,H1,I1,r,z,q⟩=>⟨by rw[<- r.length]; exact z,?_⟩);have hf:H1 s1.heap.objs.size=none:=I1.hok.fresh (Zj _);refine⟨.ref s1.heap.objs.size,upd H1 s1.heap.objs.size (.tup xs),I1.laid (t':=s1.toks) (fun b u e=>Zg _ e) (Zj _) ?_,rfl,q _ hf⟩;exact⟨z,us,r,⟨_,Zu _ rfl,rfl,_,rfl⟩⟩
theorem xco (h:PA X es t):PE X (.List es pos) (tLst t):=by
 intro pins s σ H Q I hq;refine wpAny_List_spliced (thn (h pos pins s σ H _ I hq) fun us s1 ⟨xs,H1,I1,r,z,q⟩=>⟨by rw[<- r.length]; exact z,?_⟩);have hf:H1 s1.heap.objs.size=none:=I1.hok.fresh (Zj _);refine⟨.ref s1.heap.objs.size,upd H1 s1.heap.objs.size (.lst xs),I1.laid (t':=s1.toks) (fun b u e=>Zg _ e) (Zj _) ?_,rfl,q _ hf⟩;exact⟨z,us,0,r,Zu _ rfl⟩
end
abbrev Sp:=List V->Hp->VK->XK->Prop
abbrev CXT:=List Env->Hp->Shared->XK->Value->Shared->Prop
structure Env0 (P:Program) (w:World) (K:Ze) (mg:Str->Option Value) (base:Heap) (A:Around) (outer:List Env) (s:Shared) (H:Hp):Prop where
 frames:A.frames=some outer
 mod:Mod K mg base
 bs:∀ b o,base.get? b=some o->s.heap.get? b=some o/\H b=none
 bsz:base.objs.size<=s.heap.objs.size
 funs:s.heap.FunFrames base outer
 frf:∀ b∈frs outer,H b=none
 hok:HOk P w H s.heap
 bare:AllBare s.gens
def CE (outer:List Env) (P:Program) (w:World) (H:Hp) (s:Shared) (Q:VK) (u:Value) (s':Shared):Prop :=
 ∃ v H',s'.os=s.os/\AllBare s'.gens/\Un (frs outer) [] H H' s.heap s'.heap/\HOk P w H' s'.heap/\RelV v u/\Q v H'
def CR (CX:CXT) (outer:List Env) (P:Program) (w:World) (H:Hp) (s:Shared) (Q:VK) (E:XK) (r:Result) (s':Shared):Prop :=
 match r with
 | .ok (.ret u)=>CE outer P w H s Q u s'
 | .ok _=>False
 | .error e=>CX outer H s E e s'
structure FnOk (q0:Bool) (P:Program) (w:World) (K:Ze) (mg:Str->Option Value) (base:Heap) (CX:CXT) (k:Nat) (f:Addr) (fd:FuncData) (ps:List Str) (sp:Sp):Prop where
 len:∀ vs H Q E,sp vs H Q E->vs.length=ps.length
 run:∀(A:Around) (outer:List Env) (s:Shared) (H:Hp) (args:Args) (us:List Value) (vs:List V) (Q:VK) (E:XK),Room q0 k A->Env0 P w K mg base A outer s H->BindsTo s fd args (ps.zip us)->Vals vs us->sp vs H Q E ->
  codeAny (model P w) A (.call (.ref f) args) (CR CX outer P w H s Q E) s
theorem Env0.make {P:Program}{w:World}{K:Ze}{mg:Str->Option Value}{base:Heap}{A:Around}{outer:List Env}{s:Shared}{H:Hp} (e:Env0 P w K mg base A outer s H) (C:Addr) (us:List Value) (kw:List (Str × Value)) :
    Env0 P w K mg base (A.under (.builtin "type.__call__" ⟨.ref C::us,kw⟩)) outer s H:=⟨by first|exact e.frames|(simpa [Around.under,Code.envs,Code.isFrame,pushEnvs] using e.frames),e.mod,e.bs,e.bsz,e.funs,e.frf,e.hok,e.bare⟩
section
variable {X:Cx}{pins:List (Addr × Obj)}{σ:St}{H:Hp}{s s':Shared}
theorem Inv.env0 (I:Inv X pins σ H s):Env0 X.prog X.w X.K X.mg X.base X.A X.stack s H :=
 ⟨I.ok.frames,I.ok.mod,I.bs,ZB I.ok.bsz I.sz,I.stack,I.stkFree,I.hok,I.bare⟩
theorem Inv.after {Q:VK}{u:Value} (I:Inv X pins σ H s) (h:CE X.stack X.prog X.w H s Q u s'):EP X pins σ Q u s':=by
 obtain⟨v,H',os,bare,un,hok,r,q⟩:=h;obtain⟨hh,g,d,t,os'⟩:=s';obtain rfl:os'=s.os:=os;exact⟨v,H',I.call (h':=hh) (g':=g) (d':=d) (t':=t) (ch:=[]) un hok bare (fun b z=>absurd z (by simp)),r,q⟩
end
def xmg (sp:Sp) (dvs:List V) (E:St->XK) (t:TA):TE:=fun σ H Q=>t σ H fun vs H1=>sp (vs++dvs) H1 Q (E σ)
def xjg (C:Addr) (m:Str) (sp:Sp) (dvs:List V) (E:St->XK) (ta:TE) (t:TA):TE:=fun σ H Q=>ta σ H fun x H1=>∃ a dx fs,x=.ref a/\H1 a=some (.ins C dx fs)/\fs.lookup m=none /\
 t σ H1 fun vs H2=>sp (x::(vs++dvs)) H2 Q (E σ)
def xvu (C:Addr) (sp:Sp) (dvs:List V) (E:St->XK) (t:TA):TE:=fun σ H Q=>t σ H fun vs H1=>∀ x dx,H1 x=none->H1 dx=none->dx≠x ->
 sp (.ref x::(vs++dvs)) (upd (upd H1 dx (.own x)) x (.ins C dx [])) (fun v H2=>v=.non/\Q (.ref x) H2) (E σ)
def xv (K:Ze) (fd:FuncData) (ps:List Str) (ds:List Value):Prop :=
 ∀(s:Shared) (us:List Value),K.In s.heap->(us++ds).length=ps.length->BindsTo s fd ⟨us,[]⟩ (ps.zip (us++ds))
theorem xv.all {K:Ze}{fd:FuncData}{ps:List Str} (h:∀ us:List Value,us.length=ps.length->bindArgs fd ⟨us,[]⟩=pure (ps.zip us)):xv K fd ps []:=fun s us _ hl=>by
 rw[Yh] at hl ⊢;exact .of_eq (h us hl)
def xdy (CX:CXT) (X:Cx) (E:St->XK):Prop:=∀(pins:List (Addr × Obj)) (σ:St) (H:Hp) (s:Shared) (e:Value) (s':Shared),Inv X pins σ H s->CX X.stack H s (E σ) e s'->X.xe e s'
section
variable {X:Cx}{CX:CXT}{k:Nat}{f C:Addr}{fd:FuncData}{ps:List Str}{sp:Sp}{dvs:List V}{ds:List Value}{E:St->XK}{x m:Str}{p pos apos:Pos}{e o:Expr}{es:List Expr}{ta:TE}{t:TA}
theorem xkh {pins:List (Addr × Obj)}{σ:St}{H:Hp}{s:Shared}{Q:VK}{us:List Value}{vs:List V} (F:FnOk q0 X.prog X.w X.K X.mg X.base CX k f fd ps sp) (hr:Room q0 k X.A) (hb:xv X.K fd ps ds) (hd:Vals dvs ds) (hx:xdy CX X E)
    (I:Inv X pins σ H s) (r:Vals vs us) (h:sp (vs++dvs) H Q (E σ)):wpAny (model X.prog X.w) X.A (call (.ref f) us) (EP X pins σ Q) X.xe s:=by
  have r2:Vals (vs++dvs) (us++ds):=r.append hd;have hl:(us++ds).length=ps.length:=by rw[<- r2.length]; exact F.len _ _ _ _ h
  refine wpAny_call (codeAny_mono (F.run X.A X.stack s H ⟨us,[]⟩ (us++ds) (vs++dvs) Q (E σ) hr I.env0 (hb s us I.kIn hl) r2 h) fun r s' hq=>?_);cases r with
  | error e=>exact hx pins σ H s e s' I hq
  | ok fl =>
    cases fl with
    | ret u=>exact I.after hq
    | next=>exact JQ hq
    | brk=>exact JQ hq
    | cont=>exact JQ hq
theorem xr (F:FnOk q0 X.prog X.w X.K X.mg X.base CX k f fd ps sp) (hr:Room q0 k X.A) (hg:Gl X x) (hm:X.mg x=some (.ref f)) (hk:Jw X.K (.ref f)=true) (hb:xv X.K fd ps ds) (hd:Vals dvs ds) (hx:xdy CX X E)
    (ha:PA X (e::es) t) (hdb:(x == ("__debug__":Str))=false:=by decide) (he:starEach (e::es) X.env=(false,eval e X.env)::starEach es X.env:=by rfl) (hpl:(backTo pos (starEach es X.env)).any (·.1)=false:=by rfl) :
    PE X (.Call (.Name x p) (e::es) [] pos) (xmg sp dvs E t):=by
  intro pins s σ H Q I h;refine Y6 (xh5 I hg hm ?_ hdb);refine QV (h₀:=X.base) I.ok.mod.kin hk (thn (ha pos pins s σ H _ I h) fun us s1 ⟨vs,H1,I1,r,q⟩=>⟨I1.kIn,?_⟩) he hpl;exact xkh F hr hb hd hx I1 r q
theorem xaw {pl:Sem Bool} (he:PE X o ta) (c:Cls X.K C) (hm:Meth X.K C m f) (F:FnOk q0 X.prog X.w X.K X.mg X.base CX k f fd ps sp) (hr:Room q0 k X.A) (hb:xv X.K fd ps ds) (hd:Vals dvs ds) (hx:xdy CX X E) (ha:PA X (e::es) t)
    (hst:starEach (e::es) X.env=(false,eval e X.env)::starEach es X.env:=by rfl) (hpl:(backTo pos (starEach es X.env)).any (·.1)=false:=by rfl)
    (ht:eval (.Call (.Attribute o m apos) (e::es) [] pos) X.env=(do
      let ov <- eval o X.env
      standAt apos.atName
      let (f,first) <- holding [ov] (getMethod ov m pl)
      callWith pos f first (backTo pos (starEach (e::es) X.env)) (backToKw pos (keywordEach [] X.env))):=by rfl) :
    PE X (.Call (.Attribute o m apos) (e::es) [] pos) (xjg C m sp dvs E ta t):=by
  intro pins s σ H Q I h;refine PySem.W.methodCall_KW (pl:=pl) (thn (he pins s σ H _ I h) fun u s1 ⟨x,H1,I1,rx,a,dx,fs,ex,ea,l,q⟩=>?_) ht;subst ex;obtain rfl:u=Zn a:=rx;refine xhc I1 ea c hm l ?_;refine QV (first:=[.ref a]) (h₀:=X.base) I.ok.mod.kin hm.kp (thn (ha pos pins s1 σ H1 _ I1 q) fun us s2 ⟨vs,H2,I2,r,q2⟩=>⟨I2.kIn,?_⟩) hst hpl;exact xkh (us:=.ref a::us) (vs:=.ref a::vs) F hr hb hd hx I2 (.cons rfl r) q2
theorem xaf {pl:Sem Bool} (he:PE X o ta) (c:Cls X.K C) (hm:Meth X.K C m f) (F:FnOk q0 X.prog X.w X.K X.mg X.base CX k f fd ps sp) (hr:Room q0 k X.A) (hb:xv X.K fd ps ds) (hd:Vals dvs ds) (hx:xdy CX X E)
    (ht:eval (.Call (.Attribute o m apos) [] [] pos) X.env=(do
      let ov <- eval o X.env
      standAt apos.atName
      let (f,first) <- holding [ov] (getMethod ov m pl)
      callWith pos f first (backTo pos (starEach [] X.env)) (backToKw pos (keywordEach [] X.env))):=by rfl) :
    PE X (.Call (.Attribute o m apos) [] [] pos) (xjg C m sp dvs E ta tNil):=by
  intro pins s σ H Q I h;refine PySem.W.methodCall_KW (pl:=pl) (thn (he pins s σ H _ I h) fun u s1 ⟨x,H1,I1,rx,a,dx,fs,ex,ea,l,q⟩=>?_) ht;subst ex;obtain rfl:u=Zn a:=rx;refine xhc I1 ea c hm l ?_;exact PySem.W.callWith_K0 (first:=[.ref a]) I1.kIn hm.kp (xkh (us:=[.ref a]) (vs:=[.ref a]) F hr hb hd hx I1 (.cons rfl .nil) q)
structure Mk (K:Ze) (C f:Addr):Prop where
 makes:Y2 K C=true
 init:ZJ K (.ref C) "__init__"=some (some (.ref f))
 fn:ZG K (.ref f)=true
 kp:Jw K (.ref C)=true
theorem xql {pins:List (Addr × Obj)}{σ:St}{H:Hp}{s:Shared}{Q:VK}{us:List Value}{vs:List V} (M:Mk X.K C f) (F:FnOk q0 X.prog X.w X.K X.mg X.base CX k f fd ps sp) (hr:Room q0 (k+1) X.A) (hb:xv X.K fd ps ds) (hd:Vals dvs ds)
    (hx:xdy CX X E) (I:Inv X pins σ H s) (r:Vals vs us)
    (h:∀ x dx,H x=none->H dx=none->dx≠x->sp (.ref x::(vs++dvs)) (upd (upd H dx (.own x)) x (.ins C dx [])) (fun v H2=>v=.non/\Q (.ref x) H2) (E σ)) :
    wpAny (model X.prog X.w) X.A (call (.ref C) us) (EP X pins σ Q) X.xe s:=by
  have hq:=h (s.heap.objs.size+1) s.heap.objs.size (I.hok.fresh (Nat.le_succ _)) (I.hok.fresh (Zj _)) (ZK (Nat.lt_succ_self _));have I2:=Inv.made (C:=C) I;have r2:Vals (V.ref (s.heap.objs.size+1)::(vs++dvs)) (Zn (s.heap.objs.size+1)::(us++ds)):=.cons rfl (r.append hd);have hl:(Zn (s.heap.objs.size+1)::us++ds).length=ps.length:=by
    have e:=r2.length;rw[F.len _ _ _ _ hq] at e;exact e.symm
  refine wpAny_call (xpg (f:=f) I.kIn M.makes M.init (beq_iff_eq.mp M.fn) (codeAny_mono (F.run _ X.stack _ _ ⟨Zn (s.heap.objs.size+1)::us,[]⟩ (Zn (s.heap.objs.size+1)::(us++ds)) _ _ (E σ) (hr.make C us [])
    (I2.env0.make C us []) (hb _ (Zn (s.heap.objs.size+1)::us) I2.kIn hl) r2 hq) fun r s' hq'=>?_))
  cases r with
  | error e=>exact hx pins σ _ _ e s' I2 hq'
  | ok fl =>
    cases fl with
    | ret u =>
      obtain⟨v,H',I3,rv,ev,q3⟩:=I2.after hq';subst ev;exact⟨rv,⟨V.ref (s.heap.objs.size+1),H',I3,rfl,q3⟩⟩
    | next=>exact JQ hq'
    | brk=>exact JQ hq'
    | cont=>exact JQ hq'
theorem xen (M:Mk X.K C f) (F:FnOk q0 X.prog X.w X.K X.mg X.base CX k f fd ps sp) (hr:Room q0 (k+1) X.A) (hg:Gl X x) (hm:X.mg x=some (.ref C)) (hb:xv X.K fd ps ds) (hd:Vals dvs ds) (hx:xdy CX X E)
    (ha:PA X (e::es) t) (hdb:(x == ("__debug__":Str))=false:=by decide) (he:starEach (e::es) X.env=(false,eval e X.env)::starEach es X.env:=by rfl) (hpl:(backTo pos (starEach es X.env)).any (·.1)=false:=by rfl) :
    PE X (.Call (.Name x p) (e::es) [] pos) (xvu C sp dvs E t):=by
  intro pins s σ H Q I h;refine Y6 (xh5 I hg hm ?_ hdb);refine QV (h₀:=X.base) I.ok.mod.kin M.kp (thn (ha pos pins s σ H _ I h) fun us s1 ⟨vs,H1,I1,r,q⟩=>⟨I1.kIn,?_⟩) he hpl;exact xql M F hr hb hd hx I1 r q
end
structure xt (N P:List Str) (sc:Scope):Prop where
 kind:sc.kind=.function
 co:sc.isCoroutine=false
 gen:sc.isGenerator=false
 nd:N.Nodup
 pre:N.take P.length=P
 par:∀ x∈P,sc.names.lookup x=some .local\/sc.names.lookup x=some .cell
 nofree:∀ y∈sc.names,y.2≠.free
theorem xi2 {kindOf:Str->Option NameKind}{x:Str}:∀{binds:List (Str × Value)}{m:Str->Option Value},(∀ v,(x,v)∉binds)->bindL kindOf binds m x=m x
 | [],_,_=>rfl
 | (n,v)::r,m,h=>by
  unfold bindL;rw[xi2 fun w hw=>h w (Z1 _ hw)];split
  .have:x≠n:=by rintro rfl; exact h v Z0
   simp[this]
  .rfl
theorem xig {kindOf:Str->Option NameKind}{x:Str}:∀{binds:List (Str × Value)}{m:Str->Option Value},(∀ v,(x,v)∉binds)->bindC kindOf binds m x=m x
 | [],_,_=>rfl
 | (n,v)::r,m,h=>by
  unfold bindC;rw[xig fun w hw=>h w (Z1 _ hw)];split
  .rfl
  .have:x≠n:=by rintro rfl; exact h v Z0
   simp[this]
theorem xit {kindOf:Str->Option NameKind}{x:Str}{v:Value}:∀{P:List Str}{vs:List Value}{i:Nat}{m:Str->Option Value},P.Nodup->P[i]?=some x->vs[i]?=some v->kindOf x=some .local ->
    bindL kindOf (P.zip vs) m x=some v
  | [],_,_,_,_,h,_,_=>by simp at h
  | _::_,[],_,_,_,_,h,_=>by simp at h
  | p::P,w::vs,0,m,nd,h1,h2,hk=>by
    simp at h1 h2; subst h1; subst h2;show bindL kindOf ((p,w)::P.zip vs) m p=_;unfold bindL;rw[xi2 fun v hv=>(Jc.mp nd).1 (List.of_mem_zip hv).1,if_pos hk];simp
  | p::P,w::vs,i+1,m,nd,h1,h2,hk=>by
    show bindL kindOf ((p,w)::P.zip vs) m x=_;unfold bindL;exact xit (i:=i) (Jc.mp nd).2 (by simpa using h1) (by simpa using h2) hk
theorem xid {kindOf:Str->Option NameKind}{x:Str}{v:Value}:∀{P:List Str}{vs:List Value}{i:Nat}{m:Str->Option Value},P.Nodup->P[i]?=some x->vs[i]?=some v->kindOf x≠some .local ->
    bindC kindOf (P.zip vs) m x=some v
  | [],_,_,_,_,h,_,_=>by simp at h
  | _::_,[],_,_,_,_,h,_=>by simp at h
  | p::P,w::vs,0,m,nd,h1,h2,hk=>by
    simp at h1 h2; subst h1; subst h2;show bindC kindOf ((p,w)::P.zip vs) m p=_;unfold bindC;rw[xig fun v hv=>(Jc.mp nd).1 (List.of_mem_zip hv).1,if_neg hk];simp
  | p::P,w::vs,i+1,m,nd,h1,h2,hk=>by
    show bindC kindOf ((p,w)::P.zip vs) m x=_;unfold bindC;exact xid (i:=i) (Jc.mp nd).2 (by simpa using h1) (by simpa using h2) hk
def xdc (N:List Str) (vs:List V):St:=vs.map some++List.replicate (N.length-vs.length) none
def cxOf (q0:Bool) (CX:CXT) (P:Program) (w:World) (K:Ze) (mg:Str->Option Value) (base:Heap) (N:List Str) (qual:Str) (scope:Scope) (f:Addr) (cd:Value) (A:Around) (outer:List Env) (s:Shared) (H:Hp) (E:XK):Cx where
 prog:=P
 w:=w
 K:=K
 mg:=mg
 base:=base
 A:=A.deeper (envOfC qual scope s.heap.objs.size f cd)
 N:=N
 s₀:=s
 H₀:=H
 env:=envOfC qual scope s.heap.objs.size f cd
 outer:=outer
 stack:=envOfC qual scope s.heap.objs.size f cd::outer
 ex:=[]
 calm:=q0
 fn:=fun _=>true
 pn:=[]
 xe:=fun e s'=>wpAny (model P w) (A.deeper (envOfC qual scope s.heap.objs.size f cd)) (leaving (envOfC qual scope s.heap.objs.size f cd) e) (fun _ s''=>CX outer H s E e s'') (fun e' s''=>CX outer H s E e' s'') s'
theorem xkd {sc:Scope}{n:Nat}{x:Str} (h:sc.names.lookup x=some .cell):∃ c,(cellsFrom n sc.names []).lookup x=some c:=by
 have q:=PySem.W.cellsFrom_some sc.names n [] (.inl h);exact Option.isSome_iff_exists.mp q
theorem xos {CX:CXT}{P:Program}{w:World}{K:Ze}{mg:Str->Option Value}{base:Heap}{N ps:List Str}{qual:Str}{scope:Scope}{f:Addr}{cd:Value}{A:Around}{outer:List Env}{s s1:Shared}{H:Hp}{E:XK}{us:List Value}{vs:List V}
    (S:xt N ps scope) (hd:q0=true->A.handled=none) (e0:Env0 P w K mg base A outer s H) (hl:vs.length=ps.length) (r:Vals vs us)
    (x:InCallC s s.heap.objs.size (bindL (envOfC qual scope s.heap.objs.size f cd).kindOf (ps.zip us) fun _=>none) (cellsFrom (s.heap.objs.size+1) scope.names []) (bindC (envOfC qual scope s.heap.objs.size f cd).kindOf (ps.zip us) fun _=>none) s1) :
    Inv (cxOf q0 CX P w K mg base N qual scope f cd A outer s H E) [] (xdc N vs) H s1:=by
  have hpl:ps.length<=N.length:=by have:=congrArg QB S.pre; rw[Jt] at this; omega
  obtain⟨h1,tk,rfl,hk⟩:=x.done;have noA:∀ b:Addr,b∉(cxOf q0 CX P w K mg base N qual scope f cd A outer s H E).ex:=fun b z=>absurd (show b∈([]:List Addr) from z) (by simp);refine⟨⟨e0.mod,S.kind,rfl,rfl,Zj _,fun y z c h1 h2=>?_,fun y hy=>?_,fun y c _ h=>?_,hd,Around.frames_deeper e0.frames,.inr ⟨rfl,rfl⟩,fun b z=>absurd z (noA b),e0.bs,e0.bsz,fun b _ _=>noA b,fun b z=>absurd z (noA b),e0.funs,e0.frf⟩,
    rfl,e0.bare,Un.kept hk,⟨_,x.toInCall.ns,fun i y v h1 h2 h3=>?_⟩,fun y c h=>⟨_,x.cell y c h⟩,e0.hok.fresh (Zj _),fun y c h=>?_,fun p hp=>absurd (show p∈([]:List (Addr × Obj)) from hp) (by simp),e0.hok.kept hk,?_⟩
  . exact name_of_addr x.apart (J9 h1) (J9 h2)
  . have hy:scope.names.lookup y=some .cell\/scope.names.lookup y=some .free:=hy
    rcases hy with hy|hy
    . exact xkd hy
    . exact absurd rfl (S.nofree _ (J9 hy))
  . exact JG (x.above y c (J9 h))
  . have hi:i<vs.length:=by
      unfold xdc at h2;by_cases hi:i<vs.length
      . exact hi
      . rw[Jp (by simpa using hi)] at h2
        rw[Qu] at h2;split at h2<;>cases h2
    have ha:vs[i]?=some v:=by
      unfold xdc at h2;rw[Jg (by simpa using hi),Zf] at h2;cases e:vs[i]? with
      | none=>rw[e] at h2; cases h2
      | some a=>rw[e] at h2; cases h2; rfl
    obtain⟨u,hu,rv⟩:=r.get ha;have hp:ps[i]?=some y:=by
      rw[<- S.pre,List.getElem?_take_of_lt (by omega)]; exact h1
    have ndP:ps.Nodup:=by rw[<- S.pre]; exact S.nd.sublist (List.take_sublist _ _)
    refine⟨u,rv,?_⟩;rcases S.par y (Zp hp) with k|k
    . exact .inl ⟨k,xit ndP hp hu k⟩
    . obtain⟨c,e⟩:=xkd (n:=s.heap.objs.size+1) k
      refine .inr ⟨.inl k,c,e,?_⟩;have q:=x.cell y c e;rw[xid ndP hp hu (by show scope.names.lookup y≠_; rw[k]; decide)] at q;exact q
  . exact e0.hok.fresh (JG (x.above y c (J9 h)))
  . unfold xdc
    show _=N.length;rw[Zs,Za,Q8];omega
theorem xmh {CX:CXT}{P:Program}{w:World}{K:Ze}{mg:Str->Option Value}{base:Heap}{k:Nat}{f:Addr}{name qual:Str}{params:Arguments}{body:List Stmt}{scope:Scope}{dV kV doc pm cdv ct oc:Value}{an od:Option Addr}
    {osl:Array (Option Value)}{N ps:List Str}{sp:Sp} (lk:K.lookup f=some ⟨oc,od,.func (Ji name qual params body scope dV kV doc pm an cdv ct),osl⟩) (hcd:YB K cdv qual=true) (S:xt N ps scope)
    (len:∀ vs H Q E,sp vs H Q E->vs.length=ps.length)
    (hbody:∀(A:Around) (outer:List Env) (s:Shared) (H:Hp) (vs:List V) (Q:VK) (E:XK),Room q0 k (A.deeper (envOfC qual scope s.heap.objs.size f cdv))->sp vs H Q E ->
      ∃ t,PSs (cxOf q0 CX P w K mg base N qual scope f cdv A outer s H E) body t/\t { nx:=fun _ H'=>Q .non H',rt:=Q } (xdc N vs) H) :
    FnOk q0 P w K mg base CX (k+1) f (Ji name qual params body scope dV kV doc pm an cdv ct) ps sp:=by
  refine⟨len,fun A outer s H args us vs Q E hr e0 hb r hsp=>?_⟩;have hl:=len _ _ _ _ hsp;have KX:K.In s.heap:=e0.mod.kin.keeps fun b o e=>(e0.bs b o e).1;have lim:s.heap.NoLimit:=e0.mod.nolimit.keeps fun b o e=>(e0.bs b o e).1;have hkind:∀ y∈ps.zip us,scope.names.lookup y.1=some .local\/(scope.names.lookup y.1=some .cell/\((cellsFrom (s.heap.objs.size+1) scope.names []).lookup y.1).isSome=true):=fun⟨n,v⟩ hy=>by
    rcases S.par n (List.of_mem_zip hy).1 with q|q
    . exact .inl q
    . exact .inr ⟨q,PySem.W.cellsFrom_some _ _ _ (.inl q)⟩
  refine codeAny_call_function hr.depth (KX _ _ lk) rfl S.co S.gen rfl (PySem.W.codeRec_of KX hcd) (hb _ _ _ _ ?_);refine wpAny_newFunctionEnv_cells S.kind hkind fun env he s1 x=>?_;subst he;refine⟨lim.keeps x.toInCall.keep,codeAny_func ?_⟩;obtain⟨t,ht,hq⟩:=hbody A outer s H vs Q E (hr.deeper _) hsp;have I:Inv (cxOf q0 CX P w K mg base N qual scope f cdv A outer s H E) [] (xdc N vs) H s1:=xos S hr.hd e0 hl r x;refine ZY (ht [] s1 (xdc N vs) H _ I hq) (fun fl s' hs=>?_) fun e s' hs=>hs;have fin:∀{σ':St}{H':Hp}{v:V}{u:Value},Inv (cxOf q0 CX P w K mg base N qual scope f cdv A outer s H E) [] σ' H' s'->RelV v u->Q v H'->CE outer P w H s Q u s' :=
    fun {σ' H' v u} J rv q=>⟨v,H',J.os,J.bare,J.base,J.hok,rv,q⟩
  cases fl with
  | ret u =>
    obtain⟨v,σ',H',J,rv,q⟩:=hs;exact fin J rv q
  | next =>
    obtain⟨σ',H',J,q⟩:=hs;exact fin (v:=V.non) (u:=Jd) J rfl q
  | brk =>
    obtain⟨_,_,_,q⟩:=hs;exact JQ q
  | cont =>
    obtain⟨_,_,_,q⟩:=hs;exact JQ q
section
variable {X:Cx}{x:Str}{p pos:Pos}{e:Expr}{es:List Expr}{t:TA}{id T:String}{r:List V->Hp->VK->Prop}
def tCB (r:List V->Hp->VK->Prop) (t:TA):TE:=fun σ H Q=>t σ H fun vs H1=>r vs H1 Q
theorem xab (hc:xbx X (.builtin id) r) (hg:Gl X x) (hm:X.mg x=none) (hv:bootBuiltins x=some (.builtin id)) (ha:PA X (e::es) t) (hn:x≠"__name__":=by decide) (hdb:(x == ("__debug__":Str))=false:=by decide)
    (he:starEach (e::es) X.env=(false,eval e X.env)::starEach es X.env:=by rfl) (hpl:(backTo pos (starEach es X.env)).any (·.1)=false:=by rfl):PE X (.Call (.Name x p) (e::es) [] pos) (tCB r t):=by
  intro pins s σ H Q I h;refine Y6 (xca I hg hm hv ?_ hn hdb);exact PyProof.Rows.callWith_builtin1 (thn (ha pos pins s σ H _ I h) fun us s1 ⟨vs,H1,I1,r1,q1⟩=>hc pins s1 σ H1 vs us Q I1 r1 q1) he hpl
theorem xcm (hc:xbx X (.type T) r) (hg:Gl X x) (hm:X.mg x=none) (hv:bootBuiltins x=some (.type T)) (ha:PA X (e::es) t) (hn:x≠"__name__":=by decide) (hdb:(x == ("__debug__":Str))=false:=by decide)
    (he:starEach (e::es) X.env=(false,eval e X.env)::starEach es X.env:=by rfl) (hpl:(backTo pos (starEach es X.env)).any (·.1)=false:=by rfl):PE X (.Call (.Name x p) (e::es) [] pos) (tCB r t):=by
  intro pins s σ H Q I h;refine Y6 (xca I hg hm hv ?_ hn hdb);exact ZP (thn (ha pos pins s σ H _ I h) fun us s1 ⟨vs,H1,I1,r1,q1⟩=>hc pins s1 σ H1 vs us Q I1 r1 q1) he hpl
end
end L2
namespace HT
open PySem PyProof.Rows
section
variable {prog:Program}{w:World}{A:Around}{E:Value->Shared->Prop}{s:Shared}
theorem cat_tup {t b:Addr}{vs ws:List Value}{Q:Value->Shared->Prop} (ht:IsTup s.heap t vs.toArray) (hb:IsTup s.heap b ws.toArray) (hv:vs≠[])
    (h1:ws=[]->Q (.ref t) s) (h2:ws≠[]->Q (.ref s.heap.objs.size) { s with heap:=s.heap.push { cls:=.type "tuple",data:=.seq (vs++ws).toArray } })
    (hsz:vs.length+ws.length<=sizeLine):wpAny (model prog w) A (binaryOp .Add (.ref t) (.ref b)) Q E s:=by
  obtain⟨⟨cls,dd,data,sl⟩,ho,hc,n,hd⟩:=id ht;obtain⟨⟨cls2,dd2,data2,sl2⟩,ho2,hc2,n2,hd2⟩:=id hb;simp only at hc hd hc2 hd2;subst hc hd hc2 hd2;have e:vs.toArray++ws.toArray=(vs++ws).toArray:=by simp
  by_cases hw:ws=[]
  . exact concat_meets ⟨_,ho,rfl⟩ ⟨_,ho2,rfl⟩ noFill_tuple_add seq_tuple_add PySem.F.slot_tuple_add PySem.F.entry_tuple_add (PySem.F.args_tuple_add_2 _ _)
      (tuple_addW1 t b vs.toArray ws.toArray n n2 dd dd2 sl sl2 (by simpa using hv) (by simp[hw])) ⟨ho,ho2,h1 hw⟩
  . refine concat_meets ⟨_,ho,rfl⟩ ⟨_,ho2,rfl⟩ noFill_tuple_add seq_tuple_add PySem.F.slot_tuple_add PySem.F.entry_tuple_add (PySem.F.args_tuple_add_2 _ _)
      (tuple_addW2 t b vs.toArray ws.toArray n n2 dd dd2 sl sl2 (by simpa using hv) (by simpa using hw) (by rw[Z5,Z5]; exact hsz)) ⟨ho,ho2,?_⟩
    rw[e];exact h2 hw
def sIx (n d:Nat):Option Int->Nat
 | none=>d
 | some v=>if v<0 then (v+(n:Int)).toNat else min v.toNat n
theorem xt5 (n d:Nat) (hd:d<=n) (o:Option Int):sIx n d o<=n:=by
 cases o with
 | none=>exact hd
 | some v =>
  show (if v<0 then (v+(n:Int)).toNat else min v.toNat n)<=n;by_cases hv:v<0
  .rw [if_pos hv]; omega
  .rw [if_neg hv]; exact Nat.min_le_right _ _
theorem xlc (v:Int) (n d:Nat):(if v<0 then max (v+(n:Int)) 0 else min v (n:Int))=((sIx n d (some v):Nat):Int):=by
 show (if v<0 then max (v+(n:Int)) 0 else min v (n:Int))=(((if v<0 then (v+(n:Int)).toNat else min v.toNat n):Nat):Int)
 by_cases hv:v<0
 .simp only [if_pos hv]; omega
 .simp only [if_neg hv]; omega
theorem xmn (lo hi:Option Int) (n:Nat):Builtin.Slice.sliceAdjust lo hi 1 (n:Int)=(((sIx n 0 lo:Nat):Int),((sIx n n hi:Nat):Int)):=by
 have h1:¬ ((1:Int)<0):=by omega
 unfold Builtin.Slice.sliceAdjust;simp only[h1,if_false];refine Yc ?_ ?_
 .cases lo with
  | none=>rfl
  | some v=>exact xlc v n 0
 .cases hi with
  | none=>rfl
  | some v=>exact xlc v n n
theorem xmy (i j:Nat):Builtin.Slice.slicePlaces (i:Int) (j:Int) 1=j-i:=by
 unfold Builtin.Slice.slicePlaces;have h1:(1:Int)>0:=by omega
 simp only[h1,if_true,Int.ediv_one];split<;>omega
theorem xg3 {v:Value}{o:Option Int}{Q:Option Int->Shared->Prop} (p:IsPart v o) (h:Q o s):wpAny (model prog w) A (Builtin.Slice.slicePartIndex v) Q E s:=by
 cases p with
 | none=>exact slicePart_none h
 | int i t=>exact slicePart_int h
theorem xgl {sl:Addr}{vl vu:Value}{lo hi:Option Int}{n:Nat}{Q:Int × Int × Nat->Shared->Prop} (hs:s.heap.IsSliceOf sl vl vu .none) (pl:IsPart vl lo) (pu:IsPart vu hi)
    (h:Q (((sIx n 0 lo:Nat):Int),1,sIx n n hi-sIx n 0 lo) s):wpAny (model prog w) A (Builtin.Slice.sliceApplied (.ref sl) (pure (n:Int))) Q E s:=by
  obtain⟨os,hos,hcs,hds⟩:=id hs;unfold Builtin.Slice.sliceApplied Builtin.Slice.sliceFields;refine Zc (Zc (JW hos hds (x:=vl) rfl (Zc (JW hos hds (x:=vu) rfl (Zc (JW hos hds (x:=.none) rfl (Zm ?_)))))));refine Zc (slicePart_none ?_);show wpAny _ _ (if ((1:Int) == 0)=true then _ else _) _ _ s;rw[if_neg (by decide)];refine Zc (xg3 pl (Zc (xg3 pu (Zc (Zm ?_)))));show wpAny _ _ (match Builtin.Slice.sliceAdjust lo hi 1 (n:Int) with|(lo,hi)=>pure (lo,(1:Int),Builtin.Slice.slicePlaces lo hi 1)) _ _ s;rw[xmn lo hi n];show wpAny _ _ (pure (((sIx n 0 lo:Nat):Int),(1:Int),Builtin.Slice.slicePlaces ((sIx n 0 lo:Nat):Int) ((sIx n n hi:Nat):Int) 1)) _ _ s;rw[xmy];exact Zm h
theorem xo8 (xs:Array Value) (i k:Nat):((Zz k).filterMap fun (m:Nat)=>xs[((i:Int)+(m:Int)*1).toNat]?).toArray=((xs.toList.drop i).take k).toArray:=by
 have e:(fun (m:Nat)=>xs[((i:Int)+(m:Int)*1).toNat]?)=fun m=>xs[i+m]?:=by
  funext m;have:((i:Int)+(m:Int)*1).toNat=i+m:=by omega
  rw[this]
 rw[e];have:=pick_run xs i k;rw[QW] at this;have e2:((fun x=>xs[x]?)∘fun x=>i+x)=fun m=>xs[i+m]?:=rfl;rw[e2] at this;rw[this]
theorem getItem_tuple_cut {t sl:Addr}{items:Array Value}{vl vu:Value}{lo hi:Option Int}{Q:Value->Shared->Prop} (ht:IsTup s.heap t items) (hs:s.heap.IsSliceOf sl vl vu .none) (pl:IsPart vl lo) (pu:IsPart vu hi)
    (hw:¬ (sIx items.size 0 lo=0/\sIx items.size items.size hi=items.size))
    (h:Q (.ref s.heap.objs.size) { s with heap:=s.heap.push { cls:=.type "tuple",data:=.seq ((items.toList.drop (sIx items.size 0 lo)).take (sIx items.size items.size hi-sIx items.size 0 lo)).toArray } })
    (hsz:items.size<=sizeLine):wpAny (model prog w) A (getItem (.ref t) (.ref sl)) Q E s:=by
  have htake:sizeOk (.seq ((items.toList.drop (sIx items.size 0 lo)).take (sIx items.size items.size hi-sIx items.size 0 lo)).toArray):=by
    show ((items.toList.drop (sIx items.size 0 lo)).take (sIx items.size items.size hi-sIx items.size 0 lo)).toArray.size<=sizeLine;rw[Z5,Jt,List.length_drop,JB];omega
  have hj:sIx items.size items.size hi<=items.size:=xt5 _ _ (Zj _) hi;obtain⟨os,hos,hcs,hds⟩:=id hs;have hTs:s.TypeIs (.ref sl) "slice":=⟨os,hos,hcs⟩
  unfold getItem
  try with_reducible refine J4 ?_
  first|refine Zc (Zm ?_)|skip
  refine Zc (wpAny_sequenceKey ht.typeIs (by decide) ?_);refine Zc (JH (name:=Zb "__getitem__") ht.typeIs YF
    (Js YF ht.typeIs entry_tuple_getitem ?_ (args_tuple_getitem _ _)))
  show wpAny _ _ (Builtin.Tuple.tupleItemsOf (.ref t)>>=_) _ _ s;refine Zc (tupleItemsOf_ ht ?_);refine Zc (Yg hTs ?_);rw[if_pos (by decide)];refine Zc (xgl hs pl pu ?_);have hno:¬ ((((sIx items.size 0 lo:Nat):Int) == 0&&(1:Int) == 1&&(sIx items.size items.size hi-sIx items.size 0 lo) == items.size)=true):=by
    intro q;rw[Zy,Zy] at q;have q1:((sIx items.size 0 lo:Nat):Int)=0:=eq_of_beq q.1.1;have q2:sIx items.size items.size hi-sIx items.size 0 lo=items.size:=eq_of_beq q.2;exact hw ⟨by omega,by omega⟩
  show wpAny _ _ (if (((sIx items.size 0 lo:Nat):Int) == 0&&(1:Int) == 1&&(sIx items.size items.size hi-sIx items.size 0 lo) == items.size)=true then _ else _) _ _ s;rw[if_neg hno,xo8]
  first
    | exact Zc (m:=Builtin.Tuple.tupleExact _) (J6 (Zm ⟨_,rfl,Zm h⟩) htake)
    | exact Zc (m:=Builtin.Tuple.tupleExact _) (J6 (Zc (Zm (Zm ⟨_,rfl,Zm h⟩))) htake)
    | exact Zc (Zc (m:=Builtin.Tuple.tupleExact _) (J6 (Zm (Zm ⟨_,rfl,Zm h⟩)) htake))
    | exact Zc (Zc (m:=Builtin.Tuple.tupleExact _) (J6 (Zm ⟨_,rfl,Zm h⟩) htake))
end
end HT
namespace L2
open PySem PySem.Spec PyProof.Rows
variable {q0:Bool}
abbrev TO:=St->Hp->(Option Int->Hp->Prop)->Prop
def PO (X:Cx) (e:Option Expr) (t:TO):Prop :=
 ∀(pins:List (Addr × Obj)) (s:Shared) (σ:St) (H:Hp) (Q:Option Int->Hp->Prop),Inv X pins σ H s->t σ H Q ->
  wpAny (model X.prog X.w) X.A (evalPart e X.env) (fun u s'=>∃ o H',Inv X pins σ H' s'/\IsPart u o/\Q o H') X.xe s
def xrs:TO:=fun _ H Q=>Q none H
def xuw (t:TE):TO:=fun σ H Q=>t σ H fun x H1=>∃ i,x=.int i/\Q (some i) H1
section
variable {X:Cx}{e:Expr}{te:TE}{lo hi:Option Expr}{tl th:TO}{pos p2:Pos}
theorem xr5:PO X none xrs:=by
 intro pins s σ H Q I h;rw[evalPart_none];exact Zm ⟨none,H,I,.none,h⟩
theorem xh0 (h:PE X e te):PO X (some e) (xuw te):=by
 intro pins s σ H Q I hw;rw[evalPart_some];refine thn (h pins s σ H _ I hw) fun u s1 ⟨x,H1,I1,r1,q1⟩=>?_;obtain⟨i,rfl,q⟩:=q1;obtain⟨t,rfl⟩:=r1;exact⟨some i,H1,I1,.int i t,q⟩
def SlR (X:Cx) (r:V->Option Int->Option Int->Hp->VK->Prop):Prop :=
 ∀(pins:List (Addr × Obj)) (s:Shared) (σ:St) (H:Hp) (x:V) (v vl vu:Value) (lo hi:Option Int) (sl:Addr) (Q:VK),Inv X pins σ H s->RelV x v->s.heap.IsSliceOf sl vl vu .none->IsPart vl lo->IsPart vu hi->r x lo hi H Q ->
  ∃ T id,typeLookup (.type T) "__getitem__"=pure (some (.builtin id))/\s.TypeIs v T/\wpAny (model X.prog X.w) X.A (getItem v (.ref sl)) (EP X pins σ Q) X.xe s
def tSl (r:V->Option Int->Option Int->Hp->VK->Prop) (te:TE) (tl th:TO):TE:=fun σ H Q=>te σ H fun x H1=>tl σ H1 fun l H2=>th σ H2 fun u H3=>r x l u H3 Q
theorem xj9 {r:V->Option Int->Option Int->Hp->VK->Prop} (hr:SlR X r) (he:PE X e te) (hl:PO X lo tl) (hu:PO X hi th):PE X (.Subscript e (.Slice lo hi none p2) pos) (tSl r te tl th):=by
 intro pins s σ H Q I h;refine Subscript_ (thn (he pins s σ H _ I h) fun v s1 ⟨x,H1,I1,r1,q1⟩=>?_);refine wpAny_Slice (thn (hl pins s1 σ H1 _ I1 q1) fun vl s2 ⟨l,H2,I2,pl,q2⟩=>thn (hu pins s2 σ H2 _ I2 q2) fun vu s3 ⟨u,H3,I3,pu,q3⟩=>?_);rw[evalPart_none];refine Zm ?_;have I4:Inv X pins σ H3 { s3 with heap:=s3.heap.push { cls:=.type "slice",data:=.fields #[vl,vu,.none] } }:=I3.kept (t':=s3.toks) fun b ob q=>Zg _ q;obtain⟨T,id,hT,ht,hg⟩:=hr pins { s3 with heap:=s3.heap.push { cls:=.type "slice",data:=.fields #[vl,vu,.none] } } σ H3 x v vl vu l u s3.heap.objs.size Q I4 r1 (Heap.IsSliceOf.new ..) pl pu q3;show wpAny (model X.prog X.w) X.A (subscriptTail e (.Slice lo hi none p2) v (.ref s3.heap.objs.size)) (EP X pins σ Q) X.xe { s3 with heap:=s3.heap.push { cls:=.type "slice",data:=.fields #[vl,vu,.none] } };exact tail_any (ops:=[.ref s3.heap.objs.size,v]) ht hT hg (by with_unfolding_all rfl)
def cutV (xs:List V) (lo hi:Option Int):List V:=(xs.drop (HT.sIx xs.length 0 lo)).take (HT.sIx xs.length xs.length hi-HT.sIx xs.length 0 lo)
theorem xgf (xs:List V) (lo hi:Option Int):(cutV xs lo hi).length<=xs.length:=by
 unfold cutV;rw[Jt,List.length_drop];omega
def rSlT (K:Ze):V->Option Int->Option Int->Hp->VK->Prop:=fun x lo hi H Q=>∃ a xs,x=.ref a/\SqT K H a xs /\
 ¬ (HT.sIx xs.length 0 lo=0/\HT.sIx xs.length xs.length hi=xs.length)/\∀ p,H p=none->Q (.ref p) (upd H p (.tup (cutV xs lo hi)))
theorem xtu:SlR X (rSlT X.K):=by
 intro pins s σ H x v vl vu lo hi sl Q I rx hs pl pu h;obtain⟨a,xs,rfl,hx,hw,q⟩:=h;cases rx;obtain⟨its,r,ht,hz⟩:=I.tuple hx;have hlen:its.toArray.size=xs.length:=by rw[Z5]; exact r.length.symm
 refine⟨"tuple",_,YF.lookup,ht.typeIs,?_⟩;refine HT.getItem_tuple_cut ht hs pl pu (by rw[hlen]; exact hw) ?_ (by rw[hlen]; exact hz);rw[hlen];refine⟨.ref s.heap.objs.size,_,I.laid (t':=s.toks) (o:=.tup (cutV xs lo hi)) (fun b ob q=>Zg _ q) (Zj _) ?_,rfl,q _ (I.hok.fresh (Zj _))⟩;exact⟨ZB (xgf xs lo hi) hz,_,(r.drop (HT.sIx xs.length 0 lo)).take (HT.sIx xs.length xs.length hi-HT.sIx xs.length 0 lo),IsTup.new _ _⟩
def xms (K:Ze):R2:=fun x y H Q=>∃ a b xs ys,x=.ref a/\y=.ref b/\SqT K H a xs/\SqT K H b ys/\xs≠[]/\xs.length+ys.length<=sizeLine /\
 (ys=[]->Q (.ref a) H)/\(ys≠[]->∀ p,H p=none->Q (.ref p) (upd H p (.tup (xs++ys))))
theorem Vals.nil_iff {xs:List V}{us:List Value} (r:Vals xs us):us=[]↔xs=[]:=by
 cases r with
 | nil=>simp
 | cons _ _=>simp
theorem xll:OpR X (binaryOp .Add) (xms X.K):=by
 intro pins s σ H x y v u Q I rx ry h;obtain⟨a,b,xs,ys,rfl,rfl,ha,hb,hx,hz,q1,q2⟩:=h;cases rx;cases ry;obtain⟨its,r1,p1,_⟩:=I.tuple ha;obtain⟨its2,r2,p2,_⟩:=I.tuple hb;refine HT.cat_tup p1 p2 (fun z=>hx (r1.nil_iff.mp z)) (fun z=>⟨.ref a,H,I,rfl,q1 (r2.nil_iff.mp z)⟩) (fun z=>?_) (by rw[<- r1.length,<- r2.length]; exact hz);refine⟨.ref s.heap.objs.size,_,I.laid (t':=s.toks) (o:=.tup (xs++ys)) (fun b ob q=>Zg _ q) (Zj _) ?_,rfl,q2 (fun w=>z (r2.nil_iff.mpr w)) _ (I.hok.fresh (Zj _))⟩;exact⟨by rw[Zs]; exact hz,_,r1.append r2,IsTup.new _ _⟩
end
def ixN (n:Nat) (i:Int):Option Nat:=if 0<=i then (if i<n then some i.toNat else none) else if -(n:Int)<=i then some (i+n).toNat else none
def atI {α:Type} (xs:List α) (i:Int):Option α:=(ixN xs.length i).bind fun j=>xs[j]?
theorem xrw {n:Nat}{i:Int}{j:Nat} (h:ixN n i=some j):seqIndex? i n=some j/\j<n/\-(n:Int)<=i/\i<n:=by
 unfold ixN at h;by_cases h0:0<=i
 .rw [if_pos h0] at h;by_cases h1:i<n
  .rw [if_pos h1] at h;have e:i.toNat=j:=JM.inj h;exact⟨by rw[seqIndex_of h0 h1,e],by omega,by omega,h1⟩
  .rw [if_neg h1] at h; cases h
 .rw [if_neg h0] at h;by_cases h1:-(n:Int)<=i
  .rw [if_pos h1] at h;have e:(i+n).toNat=j:=JM.inj h;exact⟨by rw[seqIndex_neg (by omega) h1,e],by omega,h1,by omega⟩
  .rw [if_neg h1] at h; cases h
theorem xh6 {α:Type}{xs:List α}{i:Int}{v:α} (h:atI xs i=some v):∃ j,seqIndex? i xs.length=some j/\xs[j]?=some v/\j<xs.length/\-(xs.length:Int)<=i/\i<xs.length:=by
 unfold atI at h;cases e:ixN xs.length i with
 | none=>rw[e] at h; cases h
 | some j =>
  rw[e] at h;obtain⟨h1,h2,h3,h4⟩:=xrw e;exact⟨j,h1,h,h2,h3,h4⟩
theorem xeg {α:Type}{xs:List α}{j:Nat}{v:α} (h:xs[j]?=some v):atI xs (j:Int)=some v:=by
 have hj:j<xs.length:=(Zk.mp h).1;have e:ixN xs.length (j:Int)=some j:=by
  unfold ixN;rw[if_pos (by omega),if_pos (by omega)]; simp
 unfold atI; rw[e]; exact h
def xrv (b:Expr):Prop:=∀ o i,subscripted b false o i=operate [o,i] (getItem o i)
def IxR (X:Cx) (r:R2):Prop :=
 ∀(value slice:Expr) (pins:List (Addr × Obj)) (s:Shared) (σ:St) (H:Hp) (x y:V) (v u:Value) (Q:VK),Inv X pins σ H s->RelV x v->RelV y u->r x y H Q ->
  subscripted slice false v u=operate [v,u] (getItem v u)->wpAny (model X.prog X.w) X.A (subscriptTail value slice v u) (EP X pins σ Q) X.xe s
def MtR (X:Cx) (id:String) (r:V->List V->Hp->VK->Prop):Prop :=
 ∀(pins:List (Addr × Obj)) (s:Shared) (σ:St) (H:Hp) (x:V) (xs:List V) (v:Value) (us:List Value) (Q:VK),Inv X pins σ H s->RelV x v->Vals xs us->r x xs H Q ->
  wpAny (model X.prog X.w) X.A (call (.builtin id) (v::us)) (EP X pins σ Q) X.xe s
section
variable {X:Cx}{a b:Expr}{ta tb:TE}{pos:Pos}
theorem xba {r:R2} (hr:IxR X r) (ha:PE X a ta) (hb:PE X b tb) (hs:xrv b):PE X (.Subscript a b pos) (tOp r ta tb):=by
 intro pins s σ H Q I h;exact Subscript_ (binT ha hb I h fun v u s2 x y H2 I2 rx ry q=>hr a b pins s2 σ H2 x y v u Q I2 rx ry q (hs _ _))
def rIxL (K:Ze):R2:=fun x y H Q=>∃ p xs i v,x=.ref p/\y=.int i/\SqL K H p xs/\atI xs i=some v/\Q v H
def rIxT (K:Ze):R2:=fun x y H Q=>∃ p xs i v,x=.ref p/\y=.int i/\SqT K H p xs/\atI xs i=some v/\Q v H
def rIxS:R2:=fun x y H Q=>∃ z i c,x=.str z/\y=.int i/\z.length<=sizeLine/\atI z.cps.toList i=some c/\Q (.str ⟨#[c]⟩) H
theorem xei:IxR X (rIxL X.K):=by
 intro value slice pins s σ H x y v u Q I rx ry h hs;obtain⟨p,xs,i,z,rfl,rfl,hq,he,q⟩:=h;cases rx;obtain⟨t,rfl⟩:=ry;obtain⟨its,r,pl,hz⟩:=I.list hq;obtain⟨j,h1,h2,h3,h4,h5⟩:=xh6 he;obtain⟨w,ew,rw'⟩:=r.get h2;have hl:=r.length;have hn:=xe6;have fin:EP X pins σ Q w s:=⟨z,H,I,rw',q⟩
 by_cases h0:0<=i
 .have hj:i.toNat=j:=by
   rw[seqIndex_of h0 h5] at h1;exact JM.inj h1
  exact item_listR pl.isList h0 (by omega) (by rw[hj]; simpa using ew) fin hs
 .have hj:(i+(its.toArray.size:Int)).toNat=j:=by
   rw[seqIndex_neg (by omega) h4] at h1;rw[Z5,<- hl];exact JM.inj h1
  exact subscriptTail_builtinR (x:=w) pl.isList.typeIs slot_list_getitem.lookup
   (wpAny_getItem_list_neg (Q:=fun r s'=>r=w/\EP X pins σ Q r s') pl.isList (by omega) (by rw[Z5]<;>omega) (by omega) (by rw[hj]; simpa using ew) ⟨rfl,fin⟩) hs
theorem xbd:IxR X (rIxT X.K):=by
 intro value slice pins s σ H x y v u Q I rx ry h hs;obtain⟨p,xs,i,z,rfl,rfl,hq,he,q⟩:=h;cases rx;obtain⟨t,rfl⟩:=ry;obtain⟨its,r,pl,hz⟩:=I.tuple hq;obtain⟨j,h1,h2,h3,h4,h5⟩:=xh6 he;obtain⟨w,ew,rw'⟩:=r.get h2;have hl:=r.length;have hn:=xe6;have fin:EP X pins σ Q w s:=⟨z,H,I,rw',q⟩
 exact subscriptTail_builtinR (x:=w) pl.typeIs slot_tuple_getitem.lookup
  (getItem_tuple (j:=j) (Q:=fun r s'=>r=w/\EP X pins σ Q r s') pl (by omega) (by omega) (by rw[Z5,<- hl]; exact h1) (by simpa using ew) ⟨rfl,fin⟩) hs
theorem xs2:IxR X rIxS:=by
 intro value slice pins s σ H x y v u Q I rx ry h hs;obtain⟨z,i,c,rfl,rfl,hz,he,q⟩:=h;obtain⟨t,rfl⟩:=rx;obtain⟨t',rfl⟩:=ry;obtain⟨j,h1,h2,h3,h4,h5⟩:=xh6 he;have hl:z.cps.toList.length=z.length:=by simp[Y5]
 rw[hl] at h1 h4 h5;have hn:=xe6;exact tail_any (YX s z t) slot_str_getitem.lookup (getItem_str (c:=c) (by
  have e1:decide (i < -(2 ^ 63:Int))=false:=decide_eq_false (by omega);have e2:decide (i>=2 ^ 63)=false:=decide_eq_false (by omega);rw[e1,e2,Qj]) (by rw[h1]; simpa using h2) ⟨.str ⟨#[c]⟩,H,I.tok _,⟨_,rfl⟩,q⟩) hs
theorem Inv.lst {pins:List (Addr × Obj)}{σ:St}{H:Hp}{s:Shared}{p:Addr}{xs:List V} (I:Inv X pins σ H s) (h:H p=some (.lst xs)) :
    ∃(its:List Value) (n:Nat),Vals xs its/\s.heap.get? p=some { cls:=.type "list",data:=.seq its.toArray n }/\xs.length<=sizeLine:=by
  obtain⟨z,its,n,r,e⟩:=I.hok p _ h;exact⟨its,n,r,e,z⟩
theorem xkr (lo hi:Option Int) (n:Nat):(sliceBounds lo hi none n).1=((HT.sIx n 0 lo:Nat):Int)/\(sliceBounds lo hi none n).2.1=((HT.sIx n n hi:Nat):Int)/\(sliceBounds lo hi none n).2.2=1:=by
 refine⟨?_,?_,rfl⟩
 .cases lo with
  | none=>simp[sliceBounds,HT.sIx]
  | some i =>
   simp only[sliceBounds,HT.sIx,Option.getD_none,show (1:Int)>0 by decide,if_true];by_cases h:i<0
   .simp only [h,if_true]<;>omega
   .simp only [h,if_false]<;>omega
 .cases hi with
  | none=>simp[sliceBounds,HT.sIx]
  | some i =>
   simp only[sliceBounds,HT.sIx,Option.getD_none,show (1:Int)>0 by decide,if_true];by_cases h:i<0
   .simp only [h,if_true]<;>omega
   .simp only [h,if_false]<;>omega
theorem xi7 (its:List Value) (lo hi:Option Int):slicePick its.toArray lo hi none=((its.drop (HT.sIx its.length 0 lo)).take (HT.sIx its.length its.length hi-HT.sIx its.length 0 lo)).toArray:=by
 obtain⟨h1,h2,h3⟩:=xkr lo hi its.toArray.size;unfold slicePick;rw[h1,h2,h3];simp only[sliceRange_one,pick_run,Z5]<;>rfl
def rSlL (K:Ze):V->Option Int->Option Int->Hp->VK->Prop:=fun x lo hi H Q=>∃ a xs,x=.ref a/\SqL K H a xs/\∀ p,H p=none->Q (.ref p) (upd H p (.lst (cutV xs lo hi)))
theorem xsr:SlR X (rSlL X.K):=by
 intro pins s σ H x v vl vu lo hi sl Q I rx hs pl pu h;obtain⟨a,xs,rfl,hx,q⟩:=h;cases rx;obtain⟨its,r,ht,hz⟩:=I.list hx;have hlen:=r.length;refine⟨"list",_,slot_list_getitem.lookup,ht.isList.typeIs,?_⟩;refine wpAny_getItem_list_slice ht.isList hs pl pu .none (by simp) ?_ (by rw[Z5]<;>omega);rw[xi7,<- hlen];refine⟨.ref s.heap.objs.size,_,I.laid (t':=s.toks) (o:=.lst (cutV xs lo hi)) (fun b ob q=>Zg _ q) (Zj _) ?_,rfl,q _ (I.hok.fresh (Zj _))⟩;exact⟨ZB (xgf xs lo hi) hz,_,0,(r.drop (HT.sIx xs.length 0 lo)).take (HT.sIx xs.length xs.length hi-HT.sIx xs.length 0 lo),Zu _ rfl⟩
def xd1:V->Bool
 | .non=>true
 | .bl _=>true
 | .int _=>true
 | .str _=>true
 | _=>false
def eqV:V->V->Bool
 | .non,.non=>true
 | .bl a,.bl b=>a == b
 | .bl a,.int b=>(if a then 1 else 0) == b
 | .int a,.bl b=>a == (if b then 1 else 0)
 | .int a,.int b=>a == b
 | .str a,.str b=>a == b
 | _,_=>false
theorem xte {A:Around}{s:Shared}{y x:V}{u v:Value} (ry:RelV y u) (rx:RelV x v) (fy:xd1 y=true) (fx:xd1 x=true):Zt A s u v (eqV y x):=by
 cases y with
 | non =>
  cases ry;cases x with
  | non=>cases rx; exact Zt.same _
  | bl b=>cases rx; exact Zt.none_bool b
  | int b=>obtain⟨t,rfl⟩:=rx; exact Zt.none_int b t
  | str b=>obtain⟨t,rfl⟩:=rx; exact Zt.none_str b t
  | _=>exact absurd (show false=true from fx) Z7
 | bl a =>
  cases ry;cases x with
  | non=>cases rx; exact Zt.bool_none a
  | bl b=>cases rx; exact Zt.bool_bool a b
  | int b=>obtain⟨t,rfl⟩:=rx; exact Zt.bool_int a b t
  | str b=>obtain⟨t,rfl⟩:=rx; exact Zt.bool_str a b t
  | _=>exact absurd (show false=true from fx) Z7
 | int a =>
  obtain⟨t',rfl⟩:=ry;cases x with
  | non=>cases rx; exact Zt.int_none a t'
  | bl b=>cases rx; exact Zt.int_bool a t' b
  | int b=>obtain⟨t,rfl⟩:=rx; exact Zt.int_int a t' b t
  | str b=>obtain⟨t,rfl⟩:=rx; exact Zt.int_str a t' b t
  | _=>exact absurd (show false=true from fx) Z7
 | str a =>
  obtain⟨t',rfl⟩:=ry;cases x with
  | non=>cases rx; exact Zt.str_none a t'
  | bl b=>cases rx; exact Zt.str_bool a t' b
  | int b=>obtain⟨t,rfl⟩:=rx; exact Zt.str_int a t' b t
  | str b=>obtain⟨t,rfl⟩:=rx; exact Zt.str_str a t' b t
  | _=>exact absurd (show false=true from fx) Z7
 | _=>exact absurd (show false=true from fy) Z7
def eqU (x:V) (u:Value):Bool:=match u with
 | .none=>eqV .non x
 | .bool b=>eqV (.bl b) x
 | .int i _=>eqV (.int i) x
 | .str z _=>eqV (.str z) x
 | _=>false
theorem xnx {x y:V}{u:Value} (r:RelV y u) (f:xd1 y=true):eqU x u=eqV y x:=by
 cases y with
 | non=>cases r; rfl
 | bl b=>cases r; rfl
 | int i=>obtain⟨t,rfl⟩:=r; rfl
 | str z=>obtain⟨t,rfl⟩:=r; rfl
 | _=>exact absurd (show false=true from f) Z7
theorem xib {x:V}:∀{xs:List V}{us:List Value},Vals xs us->xs.all xd1=true->us.any (eqU x)=xs.any fun y=>eqV y x
 | _,_,.nil,_=>rfl
 | y::xs,u::us,.cons r t,f=>by
  rw[Qi,Zy] at f;rw[Qh,Qh,xnx r f.1,xib t f.2]
theorem xgy {A:Around}{s:Shared}{x:V}{v:Value} (rx:RelV x v) (fx:xd1 x=true):∀{xs:List V}{us:List Value},Vals xs us->xs.all xd1=true->∀ u∈us,Zt A s u v (eqU x u)
 | _,_,.nil,_=>fun u hu=>by cases hu
 | y::xs,u::us,.cons r t,f=>fun u' hu=>by
  rw[Qi,Zy] at f;rcases Zx.mp hu with rfl|hu
  .rw [xnx r f.1]; exact xte r rx f.1 fx
  .exact xgy rx fx t f.2 u' hu
def inV (x:V) (xs:List V):Bool:=xs.any fun y=>eqV y x
def rIn (K:Ze) (neg:Bool):R2:=fun x y H Q=>∃ p xs,y=.ref p/\(SqL K H p xs\/SqT K H p xs)/\xd1 x=true/\xs.all xd1=true/\Q (.bl (if neg then !inV x xs else inV x xs)) H
theorem xfp:OpR X (compareOp .In) (rIn X.K false):=by
 intro pins s σ H x y v u Q I rx ry h;obtain⟨p,xs,rfl,hq,fx,fs,q⟩:=h;cases ry;rcases hq with hq|hq
 .obtain ⟨its,r,pl,hz⟩:=I.list hq;refine SeqAt.in_listAt (eqU x) pl.isList (fun w hw=>xgy rx fx r fs w (by simpa using hw)) ⟨.bl _,H,I,rfl,?_⟩;rw[show its.toArray.any (eqU x)=its.any (eqU x) by simp,xib r fs];exact q
 .obtain ⟨its,r,pl,hz⟩:=I.tuple hq;refine SeqAt.in_tupleAt (eqU x) pl (fun w hw=>xgy rx fx r fs w (by simpa using hw)) ⟨.bl _,H,I,rfl,?_⟩;rw[show its.toArray.any (eqU x)=its.any (eqU x) by simp,xib r fs];exact q
theorem xbn:xbx X (.builtin "len") (fun xs H Q=>∃ p ys,xs=[.ref p]/\(SqL X.K H p ys\/SqT X.K H p ys)/\Q (.int ys.length) H):=by
 intro pins s σ H xs us Q I r h;obtain⟨p,ys,rfl,hq,q⟩:=h;obtain⟨u,rfl,rx⟩:=xbr r;cases rx;have hn:=xe6;rcases hq with hq|hq
 .obtain ⟨its,r',pl,hz⟩:=I.list hq;have hlen:=r'.length;exact Calls.call_len_list pl.isList (by simp only[Z5]<;>omega) ⟨.int ys.length,H,I.tok _,⟨s.toks+1,by rw[Z5,hlen]⟩,q⟩
 .obtain ⟨its,r',pl,hz⟩:=I.tuple hq;have hlen:=r'.length;exact len_tuple pl (by simp only[Z5]<;>omega) ⟨.int ys.length,H,I.tok _,⟨s.toks+1,by rw[Z5,hlen]⟩,q⟩
theorem xb2:xbx X (.builtin "len") (fun xs H Q=>∃ z,xs=[.str z]/\z.length<=sizeLine/\Q (.int z.length) H):=by
 intro pins s σ H xs us Q I r h;obtain⟨z,rfl,hz,q⟩:=h;obtain⟨u,rfl,t,rfl⟩:=xbr r;have hn:=xe6;exact len_str (by omega) ⟨.int z.length,H,I.tok _,⟨_,rfl⟩,q⟩
theorem xko:xbx X (.type "list") (fun xs H Q=>∃ p ys,xs=[.ref p]/\(SqL X.K H p ys\/SqT X.K H p ys)/\∀ l,H l=none->Q (.ref l) (upd H l (.lst ys))):=by
  intro pins s σ H xs us Q I r h;obtain⟨p,ys,rfl,hq,q⟩:=h;obtain⟨u,rfl,rx⟩:=xbr r;cases rx;have fin:∀(its:List Value),Vals ys its->ys.length<=sizeLine->∀(h':Heap) (c':Nat),(∀ b o',s.heap.get? b=some o'->h'.get? b=some o') ->
      h'.get? s.heap.objs.size=some { cls:=.type "list",dict:=none,data:=.seq its.toArray c',slots:=#[] }->EP X pins σ Q (.ref s.heap.objs.size) { s with heap:=h' }:=fun its r' hz h' c' kp e =>
    ⟨.ref s.heap.objs.size,_,I.laid (t':=s.toks) kp (Zj _) (show xau X.prog X.w _ h' _ (.lst ys) from ⟨hz,its,c',r',e⟩),rfl,q _ (I.hok.fresh (Zj _))⟩
  rcases hq with hq|hq
  . obtain⟨its,r',pl,hz⟩:=I.list hq
    have hlen:=r'.length;obtain⟨o,ho,hc,n,hd⟩:=pl.isList;exact call_list_seq p (.inl rfl) ho hc hd (fun h' c' kp e=>fin its r' hz h' c' kp e) (by simp only[Z5]<;>omega)
  . obtain⟨its,r',pl,hz⟩:=I.tuple hq
    have hlen:=r'.length;obtain⟨o,ho,hc,n,hd⟩:=pl;exact call_list_seq p (.inr rfl) ho hc hd (fun h' c' kp e=>fin its r' hz h' c' kp e) (by simp only[Z5]<;>omega)
def tyV (K:Ze) (T:String) (x:V) (H:Hp):Prop:=match x with
  | .str _=>T="str"
  | .int _=>T="int"
  | .ref p=>(T="list"/\∃ xs,SqL K H p xs)\/(T="tuple"/\∃ o,K.lookup p=some o/\o.cls=.type "tuple"/\o.dict=none) \/
      (T="dict"/\((∃ kvs,H p=some (.dK kvs))\/∃ kvs,H p=some (.dT kvs)))\/(T="set"/\∃ S n,H p=some (.set S n))
  | _=>False
theorem xt7 {pins:List (Addr × Obj)}{σ:St}{H:Hp}{s:Shared}{T:String}{x:V}{v:Value} (I:Inv X pins σ H s) (r:RelV x v) (ty:tyV X.K T x H) :
    s.TypeIs v T/\∀ a,v=.ref a->∃ ob,s.heap.get? a=some ob/\ob.dict=none:=by
  cases x with
  | str z =>
    obtain⟨t,rfl⟩:=r;cases (show T="str" from ty);exact⟨YX s z t,fun _ e=>nomatch e⟩
  | int i =>
    obtain⟨t,rfl⟩:=r;cases (show T="int" from ty);exact⟨typeIs_int s i t,fun _ e=>nomatch e⟩
  | ref p =>
    cases r;rcases ty with⟨rfl,xs,hq⟩|⟨rfl,o,hk,hc,hd⟩|⟨rfl,hk⟩|⟨rfl,S,n,hk⟩
    . obtain⟨its,_,pl,_⟩:=I.list hq
      refine⟨pl.isList.typeIs,fun a e=>?_⟩;cases e;obtain⟨o,n,e,c,hd,_⟩:=pl;exact⟨o,e,hd⟩
    . refine⟨⟨o,I.kIn p o hk,hc⟩,fun a e=>?_⟩
      cases e;exact⟨o,I.kIn _ o hk,hd⟩
    . have z:∃ o,s.heap.get? p=some o/\o.ExactDict:=by
        rcases hk with⟨kvs,hk⟩|⟨kvs,hk⟩
        . obtain⟨_,_,_,_,o,_,_,e,ex,_⟩:=I.hok p _ hk
          exact⟨o,e,ex⟩
        . obtain⟨_,_,_,_,o,_,_,e,ex,_⟩:=I.hok p _ hk
          exact⟨o,e,ex⟩
      obtain⟨o,e,ex⟩:=z;refine⟨⟨o,e,ex.1⟩,fun a e2=>?_⟩;cases e2;exact⟨o,e,ex.2.1⟩
    . obtain⟨o,_,_,_,e,ex,_⟩:=I.hok p _ hk
      refine⟨⟨o,e,ex.1⟩,fun a e2=>?_⟩;cases e2;exact⟨o,e,ex.2.1⟩
  | _=>exact JQ ty
def tBM (K:Ze) (T:String) (r:V->List V->Hp->VK->Prop) (to:TE) (t:TA):TE:=fun σ H Q=>to σ H fun x H1=>tyV K T x H1/\t σ H1 fun xs H2=>r x xs H2 Q
variable {o e:Expr}{es:List Expr}{to:TE}{t:TA}{name:Str}{apos cpos:Pos}{T id:String}{r:V->List V->Hp->VK->Prop}
theorem xdb (pa:PlainAttrs T) (slot:Slot T name id) (hty:typeOf (.builtin id)=pure (.type "method_descriptor")) (hm:MtR X id r) (ho:PE X o to) (ha:PA X (e::es) t)
    (hbase:attributeBase o name X.env (eval o X.env)=eval o X.env:=by rfl)
    (hfew:((backTo cpos (starEach (e::es) X.env)).all (fun x=>!x.1)&&(backToKw cpos (keywordEach [] X.env)).all (fun x=>x.1.isSome)
      && decide ((e::es).length+([]:List Keyword).length+(if ([]:List Keyword).isEmpty then 0 else 1)<30))=true:=by rfl)
    (hline:(apos.endLine == cpos.line)=true:=by rfl) (hs:starEach (e::es) X.env=(false,eval e X.env)::starEach es X.env:=by rfl) (hplain:(backTo cpos (starEach es X.env)).any (·.1)=false:=by rfl) :
    PE X (.Call (.Attribute o name apos) (e::es) [] cpos) (tBM X.K T r to t):=by
  intro pins s σ H Q I h;refine wpAny_Call_method_late hbase hfew hline rfl (thn (ho pins s σ H _ I h) fun v s1 ⟨x,H1,I1,r1,ty,q1⟩=>?_);obtain⟨h1,h2⟩:=xt7 I1 r1 ty;refine⟨T,id,pa,slot,hty,h1,h2,?_⟩;have hA:=ha cpos pins s1 σ H1 _ I1 q1;rw[hs] at hA ⊢;refine YE (by show (false||(backTo cpos (starEach es X.env)).any (·.1))=false; rw[hplain]<;>rfl) (QM ?_);exact thn hA fun us s2 ⟨vs,H2,I2,r2,q2⟩=>hm pins s2 σ H2 x vs v us Q I2 r1 r2 q2
end
def MtM (X:Cx) (id:String) (r:V->List V->Hp->VK->Prop):Prop :=
 ∀(pins:List (Addr × Obj)) (s:Shared) (σ:St) (H:Hp) (x:V) (xs:List V) (v:Value) (us:List Value) (Q:VK),Inv X pins σ H s->RelV x v->Vals xs us->r x xs H Q ->
  wpAny (model X.prog X.w) X.A (call (.builtin id) (v::us)) (EP X pins σ Q) X.xe s
theorem Vals.one:∀{x:V}{us:List Value},Vals [x] us->∃ u,us=[u]/\RelV x u
 | _,_,.cons r .nil=>⟨_,rfl,r⟩
theorem Vals.eraseIdx:∀{xs:List V}{us:List Value} (i:Nat),Vals xs us->Vals (xs.eraseIdx i) (us.eraseIdx i)
 | _,_,_,.nil=>.nil
 | _,_,0,.cons _ t=>t
 | _,_,i+1,.cons r t=>.cons r (Vals.eraseIdx i t)
theorem xip {α:Type}:∀(l:List α) (i:Nat),(l.eraseIdx i).length<=l.length
 | [],_=>Zj _
 | _::_,0=>Nat.le_succ _
 | _::r,i+1=>Nat.succ_le_succ (xip r i)
section
variable {X:Cx}{pins:List (Addr × Obj)}{σ:St}{H:Hp}{s:Shared}{l b:Addr}{xs ys zs:List V}
theorem Inv.lset {its its':List Value}{n:Nat}{f:Array Value->Array Value}{t':Nat} (I:Inv X pins σ H s) (hH:H l=some (.lst xs))
    (e:s.heap.get? l=some { cls:=.type "list",data:=.seq its.toArray n }) (hf:f its.toArray=its'.toArray) (hv:Vals ys its') (hz:ys.length<=sizeLine) :
    Inv X pins σ (upd H l (.lst ys)) { s with heap:=s.heap.update l (Jn f),toks:=t' }:=by
  have q:=PySem.IsL.update e f;rw[hf] at q;refine I.write (x:=l) (e:=l) (by rw[hH]; exact trivial) (.inl rfl) (fun b' u hb hu=>(J8 s.heap (Jn f) (ZE hb)).trans hu) ⟨_,q⟩ ?_;exact⟨hz,its',_,hv,q⟩
theorem Inv.lnew {its:List Value}{t':Nat} (I:Inv X pins σ H s) (hv:Vals ys its) (hz:ys.length<=sizeLine) :
    Inv X pins σ (upd H s.heap.objs.size (.lst ys)) { s with heap:=s.heap.push { cls:=.type "list",data:=.seq its.toArray },toks:=t' } :=
  I.laid (fun _ _ q=>Zg _ q) (Zj _) ⟨hz,its,0,hv,Zu _ rfl⟩
theorem Inv.fresh (I:Inv X pins σ H s):H s.heap.objs.size=none:=I.hok.fresh (Zj _)
theorem Inv.lstM (I:Inv X pins σ H s) (hH:H l=some (.lst xs)):xs.length<=sizeLine/\∃(its:List Value) (n:Nat),Vals xs its/\xs.length=its.length/\s.heap.get? l=some { cls:=.type "list",data:=.seq its.toArray n }:=by
 obtain⟨z,its,n,r,e⟩:=I.hok l _ hH;exact⟨z,its,n,r,r.length,e⟩
theorem xqm {n:Nat} (h:n<=sizeLine):Builtin.List.listTooLong n=false:=by
 unfold Builtin.List.listTooLong;exact decide_eq_false (by omega)
end
section
variable {X:Cx}
def xsb:V->List V->Hp->VK->Prop:=fun x vs H Q=>∃ l xs y,x=.ref l/\vs=[y]/\H l=some (.lst xs)/\xs.length<sizeLine/\Q .non (upd H l (.lst (xs++[y])))
theorem xea:MtM X "list.append" xsb:=by
 intro pins s σ H x vs v us Q I rx rv h;obtain⟨l,xs,y,rfl,rfl,hH,hz,q⟩:=h;cases rx;obtain⟨u,rfl,ru⟩:=rv.one;obtain⟨z,its,n,r,hl,e⟩:=I.lstM hH;refine Qw F.slot_list_append ⟨_,e,rfl⟩ F.entry_list_append (F.args_list_append_2 _ _) (PySem.list_append l its.toArray n u (by rw[Z5]; omega)) ⟨e,?_⟩;refine⟨.non,_,I.lset (its':=its++[u]) hH e (by simp) (r.append (.cons ru .nil)) ?_,rfl,q⟩;rw[Zs,Yk];omega
def xsk:V->List V->Hp->VK->Prop:=fun x vs H Q=>∃ l b xs zs,x=.ref l/\vs=[.ref b]/\H l=some (.lst xs)/\H b=some (.lst zs)/\xs.length+zs.length<=sizeLine/\Q .non (upd H l (.lst (xs++zs)))
theorem xnb:MtM X "list.extend" xsk:=by
 intro pins s σ H x vs v us Q I rx rv h;obtain⟨l,b,xs,zs,rfl,rfl,hH,hB,hz,q⟩:=h;cases rx;obtain⟨u,rfl,ru⟩:=rv.one;cases ru;obtain⟨z,its,n,r,hl,e⟩:=I.lstM hH;obtain⟨z2,its2,n2,r2,hl2,e2⟩:=I.lstM hB;have hsz:its.toArray.size+its2.toArray.size<=sizeLine:=by rw[Z5,Z5]; omega
 have hlong:¬ (!its.toArray.isEmpty&&Builtin.List.listTooLong (its.toArray.size+its2.toArray.size))=true:=by
  rw[xqm hsz,YZ];exact Z7
 refine Qw F.slot_list_extend ⟨_,e,rfl⟩ F.entry_list_extend (F.args_list_extend_2 _ _)
  (AutoSeq1.list_extend_list_list_0 l its.toArray n b its2.toArray n2 hlong (by rw[Z5]; omega) (by omega)) ⟨e,e2,?_⟩
 refine⟨.non,_,I.lset (its':=its++its2) hH e (by simp) (r.append r2) ?_,rfl,q⟩;rw[Zs];omega
def xuc:V->List V->Hp->VK->Prop:=fun x vs H Q=>∃ l xs i k y,x=.ref l/\vs=[.int i]/\H l=some (.lst xs)/\-(2 ^ 63)<=i/\i<2 ^ 63/\seqIndex? i xs.length=some k/\xs[k]?=some y/\Q y (upd H l (.lst (xs.eraseIdx k)))
theorem xew:MtM X "list.pop" xuc:=by
 intro pins s σ H x vs v us Q I rx rv h;obtain⟨l,xs,i,k,y,rfl,rfl,hH,h1,h2,hk,hy,q⟩:=h;cases rx;obtain⟨u,rfl,ru⟩:=rv.one;obtain⟨t,rfl⟩:=ru;obtain⟨z,its,n,r,hl,e⟩:=I.lstM hH;obtain⟨w,hw,rw'⟩:=r.get hy;refine Qw F.slot_list_pop ⟨_,e,rfl⟩ F.entry_list_pop (F.args_list_pop_2 _ _)
  (MeetsSeq.list_pop_at l its.toArray n i t k w (fitsIndex_both h1 h2) (by rw[Z5,<- hl]; exact hk) (by rw[<- Jv]; exact hw) (by rw[Z5]; omega)) ⟨e,?_⟩
 refine⟨y,_,I.lset (its':=its.eraseIdx k) hH e ?_ (r.eraseIdx k) ?_,rw',q⟩
 .show its.toArray.eraseIdxIfInBounds k=(its.eraseIdx k).toArray;rw[List.eraseIdxIfInBounds_toArray]
 .have:=xip xs k;omega
def rCat:R2:=fun x y H Q=>∃ l b xs zs,x=.ref l/\y=.ref b/\H l=some (.lst xs)/\H b=some (.lst zs)/\xs.length+zs.length<=sizeLine/\∀ p,H p=none->Q (.ref p) (upd H p (.lst (xs++zs)))
theorem xop:OpR X (binaryOp .Add) rCat:=by
 intro pins s σ H x y v u Q I rx ry h;obtain⟨l,b,xs,zs,rfl,rfl,hH,hB,hz,q⟩:=h;cases rx;cases ry;obtain⟨z,its,n,r,hl,e⟩:=I.lstM hH;obtain⟨z2,its2,n2,r2,hl2,e2⟩:=I.lstM hB;refine PySem.P.add_list e e2 ?_ (by rw[Z5,Z5]; omega);have ea:its.toArray++its2.toArray=(its++its2).toArray:=by simp
 rw[ea];exact⟨.ref _,_,I.lnew (t':=s.toks) (r.append r2) (by rw[Zs]; omega),rfl,q _ I.fresh⟩
end
section
variable {κ:Type} [DecidableEq κ]
def valV (kvs:List (κ × V)) (k:κ):Option V:=(kvs.find? fun kv=>decide (kv.1=k)).map (·.2)
def putK (kvs:List (κ × V)) (k:κ) (v:V):List (κ × V) :=
 if (kvs.any fun kv=>decide (kv.1=k))=true then kvs.map (fun kv=>if kv.1=k then (kv.1,v) else kv) else kvs++[(k,v)]
theorem xa2 {p:κ × V}{r:List (κ × V)}{k:κ} (e:p.1=k):valV (p::r) k=some p.2:=by simp[valV,Y4,e]
theorem xa0 {p:κ × V}{r:List (κ × V)}{k:κ} (e:¬ p.1=k):valV (p::r) k=valV r k:=by simp[valV,Y4,e]
theorem xc8 (k:κ):∀ kvs:List (κ × V),(kvs.any fun kv=>decide (kv.1=k))=(valV kvs k).isSome
 | []=>rfl
 | p::r=>by
  rw[Qh];by_cases e:p.1=k
  .simp only [xa2 e,decide_eq_true e,Bool.true_or,Option.isSome_some]
  .rw [xa0 e,decide_eq_false e,QT]; exact xc8 k r
theorem xkp (k j:κ) (y:V):∀ kvs:List (κ × V),valV (kvs.map fun kv=>if kv.1=k then (kv.1,y) else kv) j=(valV kvs j).map fun x=>if j=k then y else x
 | []=>rfl
 | p::r=>by
  have ih:=xkp k j y r;rw[Zr];by_cases h:p.1=k
  .rw [if_pos h];by_cases e:p.1=j
   .rw [xa2 (p:=(p.1,y)) e,xa2 e,Y3,if_pos (e.symm.trans h)]
   .rw [xa0 (p:=(p.1,y)) e,xa0 e,ih]
  .rw [if_neg h];by_cases e:p.1=j
   .rw [xa2 (p:=p) e,xa2 e,Y3,if_neg (fun z=>h (e.trans z))]
   .rw [xa0 (p:=p) e,xa0 e,ih]
theorem xiy (k j:κ) (y:V):∀ kvs:List (κ × V),valV kvs k=none->valV (kvs++[(k,y)]) j=if j=k then some y else valV kvs j
 | [],_=>by
  by_cases e:k=j
  .rw [if_pos e.symm]; exact xa2 (p:=(k,y)) e
  .rw [if_neg (fun z=>e z.symm)]; exact xa0 (p:=(k,y)) e
 | p::r,hn=>by
  rw[List.cons_append];have hk:¬ p.1=k:=fun z=>by rw[xa2 z] at hn; cases hn
  rw[xa0 hk] at hn;have ih:=xiy k j y r hn;by_cases e:p.1=j
  .rw [xa2 e,xa2 e,if_neg (fun z=>hk (e.trans z))]
  .rw [xa0 e,xa0 e,ih]
theorem xj0 (kvs:List (κ × V)) (k j:κ) (y:V):valV (putK kvs k y) j=if j=k then some y else valV kvs j:=by
 unfold putK;by_cases a:(kvs.any fun kv=>decide (kv.1=k))=true
 .rw [if_pos a,xkp];rw[xc8] at a;by_cases e:j=k
  .obtain ⟨x,hx⟩:=Option.isSome_iff_exists.mp a;rw[if_pos e,e,hx,Y3,if_pos rfl]
  .rw [if_neg e];cases valV kvs j with
   | none=>rfl
   | some x=>rw[Y3,if_neg e]
 .rw [if_neg a];refine xiy k j y kvs ?_;rw[xc8] at a;cases q:valV kvs k with
  | none=>rfl
  | some x=>rw[q] at a; exact (a rfl).elim
theorem xbs (kvs:List (κ × V)) (k:κ) (v:V):(putK kvs k v).length<=kvs.length+1:=by
 unfold putK;split
 .rw [Za]; omega
 .rw [Zs,ZQ,List.length_nil]; omega
theorem xc7 {kvs:List (κ × V)}{k:κ} (v:V) (h:valV kvs k=none):putK kvs k v=kvs++[(k,v)]:=by
 unfold putK;rw[xc8,h];exact if_neg (by decide)
theorem RelO.isSome_eq {o:Option V}{u:Option Value} (r:RelO o u):o.isSome=u.isSome:=by
 cases o with
 | none=>cases u with
  | none=>rfl
  | some _=>exact (show False from r).elim
 | some _=>cases u with
  | none=>exact (show False from r).elim
  | some _=>rfl
theorem RelO.getD {o:Option V}{u:Option Value}{d:V}{d':Value} (r:RelO o u) (rd:RelV d d'):RelV (o.getD d) (u.getD d'):=by
 cases o with
 | none=>cases u with
  | none=>exact rd
  | some _=>exact (show False from r).elim
 | some _=>cases u with
  | none=>exact (show False from r).elim
  | some _=>exact r
theorem KV.val {kvs:List (κ × V)}{vs:List (κ × Value)} (r:KV kvs vs) (k:κ):RelO (valV kvs k) (valueAt vs k):=by
 unfold KV at r
 induction r with
 | nil=>exact Jx
 | @cons p q ps qs h t ih =>
  obtain⟨h1,h2⟩:=h;by_cases e:p.1=k
  .have e':q.1=k:=h1.symm.trans e;have b:valueAt (q::qs) k=some q.2:=by simp[valueAt,Y4,e']
   rw[xa2 e,b]; exact h2
  .have e':¬ q.1=k:=fun z=>e (h1.trans z);have b:valueAt (q::qs) k=valueAt qs k:=by simp[valueAt,Y4,e']
   rw[xa0 e,b]; exact ih
theorem KV.any {kvs:List (κ × V)}{vs:List (κ × Value)} (r:KV kvs vs) (k:κ):(kvs.any fun kv=>decide (kv.1=k))=vs.any fun kv=>decide (kv.1=k):=by
 unfold KV at r
 induction r with
 | nil=>rfl
 | cons h t ih=>rw[Qh,Qh,ih,h.1]
theorem KV.repl {kvs:List (κ × V)}{vs:List (κ × Value)} (r:KV kvs vs) (k:κ) {y:V}{u:Value} (ry:RelV y u) :
    KV (kvs.map fun kv=>if kv.1=k then (kv.1,y) else kv) (vs.map fun kv=>if kv.1=k then (kv.1,u) else kv):=by
  unfold KV at r ⊢
  induction r with
  | nil=>exact .nil
  | @cons p q ps qs h t ih =>
    rw[Zr,Zr];refine .cons ?_ ih;obtain⟨h1,h2⟩:=h;by_cases e:p.1=k
    . rw[if_pos e,if_pos (h1.symm.trans e)]; exact⟨h1,ry⟩
    . rw[if_neg e,if_neg (fun z=>e (h1.trans z))]; exact⟨h1,h2⟩
theorem KV.put {kvs:List (κ × V)}{vs:List (κ × Value)} (r:KV kvs vs) (k:κ) {y:V}{u:Value} (ry:RelV y u):KV (putK kvs k y) (stored vs k u):=by
 unfold putK stored;rw[r.any k];by_cases e:(vs.any fun kv=>decide (kv.1=k))=true
 .rw [if_pos e,if_pos e]; exact r.repl k ry
 .rw [if_neg e,if_neg e]; exact Paired.snoc r ⟨rfl,ry⟩
theorem KV.keys {kvs:List (κ × V)}{vs:List (κ × Value)} (r:KV kvs vs):kvs.map (·.1)=vs.map (·.1):=by
 unfold KV at r
 induction r with
 | nil=>rfl
 | cons h t ih=>rw[Zr,Zr,ih,h.1]
theorem KV.length {kvs:List (κ × V)}{vs:List (κ × Value)} (r:KV kvs vs):kvs.length=vs.length:=Yj r
end
theorem xcr {P:Program}{w:World}{k:Key}{u:Value} (r:RelV (kV k) u):(xai P w).is k u=true:=by
 cases k with
 | inl i=>obtain⟨t,e⟩:=(show ∃ t,u=QN i t from r); subst e; exact xk7 P w i t
 | inr x=>obtain⟨t,e⟩:=(show ∃ t,u=Qn x t from r); subst e; exact xk4 P w x t
theorem xic {P:Program}{w:World}:∀{ks:List Key}{us:List Value},Vals (ks.map kV) us->ItemsAre (xai P w) ks us
 | [],_,r=>by rw[List.map_nil] at r; cases r; exact .nil
 | k::ks,_,r=>by
  rw[Zr] at r;cases r with
  | cons h t=>exact .cons (xcr h) (xic t)
abbrev KT (H:Hp):List (List Key × V)->List (List Key × Addr × Value)->Prop:=Paired fun p q=>p.1=q.1/\H q.2.1=some (.tup (p.1.map kV))/\RelV p.2 q.2.2
theorem KT.val {H:Hp}{kvs:List (List Key × V)}{xs:List (List Key × Addr × Value)} (r:KT H kvs xs) (k:List Key):RelO (valV kvs k) ((atKey xs k).map (·.2)):=by
 induction r with
 | nil=>exact Jx
 | @cons p q ps qs h t ih =>
  obtain⟨h1,_,h2⟩:=h;by_cases e:p.1=k
  .have e':q.1=k:=h1.symm.trans e;have b:atKey (q::qs) k=some q.2:=by simp[atKey,Y4,e']
   rw[xa2 e,b]; exact h2
  .have e':¬ q.1=k:=fun z=>e (h1.trans z);have b:atKey (q::qs) k=atKey qs k:=by simp[atKey,Y4,e']
   rw[xa0 e,b]; exact ih
theorem KT.repl {H:Hp}{kvs:List (List Key × V)}{xs:List (List Key × Addr × Value)} (r:KT H kvs xs) (k:List Key) {y:V}{u:Value} (ry:RelV y u) :
    KT H (kvs.map fun kv=>if kv.1=k then (kv.1,y) else kv) (xs.map (putAt k u)):=by
  induction r with
  | nil=>exact .nil
  | @cons p q ps qs h t ih =>
    rw[Zr,Zr];refine .cons ?_ ih;obtain⟨h1,h2,h3⟩:=h;unfold putAt;by_cases e:p.1=k
    . rw[if_pos e,if_pos (h1.symm.trans e)]; exact⟨h1,h2,ry⟩
    . rw[if_neg e,if_neg (fun z=>e (h1.trans z))]; exact⟨h1,h2,h3⟩
theorem KT.put {H:Hp}{kvs:List (List Key × V)}{xs:List (List Key × Addr × Value)} (r:KT H kvs xs) (k:List Key) {b:Addr}{y:V}{u:Value} (hb:H b=some (.tup (k.map kV))) (ry:RelV y u) :
    KT H (putK kvs k y) (storedH xs k b u):=by
  have e:(kvs.any fun kv=>decide (kv.1=k))=(atKey xs k).isSome:=by
    rw[xc8,(r.val k).isSome_eq,YC]
  unfold putK storedH;rw[e];by_cases q:(atKey xs k).isSome=true
  . rw[if_pos q,if_pos q]; exact r.repl k ry
  . rw[if_neg q,if_neg q]; exact Paired.snoc r ⟨rfl,hb,ry⟩
theorem KT.keeps {H H':Hp}{kvs:List (List Key × V)}{xs:List (List Key × Addr × Value)} (r:KT H kvs xs) (ht:∀ b ys,H b=some (.tup ys)->H' b=some (.tup ys)):KT H' kvs xs :=
 Paired.mapP r fun _ _ z=>⟨z.1,ht _ _ z.2.1,z.2.2⟩
section
variable {P:Program}{w:World}{H:Hp}{h:Heap}{a:Addr}
theorem xqt {u:HO} (ok:HOk P w H h) (e:Rd H a u):xau P w H h a u:=e.ok ok
theorem xd2 {kvs:List (Key × V)} (ok:HOk P w H h) (e:Rd H a (.dK kvs)):kvs.length<=sizeLine/\(a == sysModules)=false/\∃ vs,KV kvs vs/\h.DictOf (xai P w) a vs :=
 show xau P w H h a (.dK kvs) from xqt ok e
theorem xg8 {kvs:List (Key × V)} (ok:HOk P w H h) (e:H a=some (.dK kvs)):kvs.length<=sizeLine/\(a == sysModules)=false/\∃ vs,KV kvs vs/\h.DictOf (xai P w) a vs:=xd2 ok (.inl e)
theorem xdw {ks:List Key} (ok:HOk P w H h) (e:H a=some (.tup (ks.map kV))):(tupleKind (xai P w)).is h ks a:=by
 obtain⟨_,its,r,o,h1,h2,n,h3⟩:=(show xau P w H h a (.tup (ks.map kV)) from ok a _ e)
 exact⟨o,its.toArray,n,h1,h2,h3,by simpa using xic r⟩
theorem xe0 {kvs:List (List Key × V)} (ok:HOk P w H h) (e:Rd H a (.dT kvs)):kvs.length<=sizeLine/\(a == sysModules)=false /\
    ∃ xs,KT H kvs xs/\h.DictOfH (tupleKind (xai P w)) a xs:=by
  obtain⟨z,y,xs,r,o,es,ep,h1,h2,h3,h4,h5⟩:=(show xau P w H h a (.dT kvs) from xqt ok e)
  refine⟨z,y,xs,r,o,es,ep,h1,h2,h3,h4,fun x hx=>?_,h5⟩;have all:∀{l:List (List Key × V)}{m:List (List Key × Addr × Value)},KT H l m->∀ x∈m,(tupleKind (xai P w)).is h x.1 x.2.1:=by
    intro l m q
    induction q with
    | nil=>intro x hx; exact nomatch hx
    | @cons p q ps qs hq t ih =>
      intro x hx;rcases Zx.mp hx with e|hx
      . subst e
        exact xdw ok (by rw[<- hq.1]; exact hq.2.1)
      . exact ih x hx
  exact all r x hx
theorem xhq {kvs:List (List Key × V)} (ok:HOk P w H h) (e:H a=some (.dT kvs)):kvs.length<=sizeLine/\(a == sysModules)=false /\
    ∃ xs,KT H kvs xs/\h.DictOfH (tupleKind (xai P w)) a xs:=xe0 ok (.inl e)
end
def DGet (H:Hp) (a:Addr) (y:V) (r:Option V):Prop :=
 (∃ kvs k,Rd H a (.dK kvs)/\y=kV k/\r=valV kvs k)\/∃ kvs k b,Rd H a (.dT kvs)/\y=.ref b/\H b=some (.tup (k.map kV))/\r=valV kvs k
def DPut (H:Hp) (a:Addr) (y v:V) (H':Hp):Prop :=
 (∃ kvs k,H a=some (.dK kvs)/\y=kV k/\kvs.length<sizeLine/\H'=upd H a (.dK (putK kvs k v))) \/
 ∃ kvs k b,H a=some (.dT kvs)/\y=.ref b/\H b=some (.tup (k.map kV))/\kvs.length<sizeLine/\H'=upd H a (.dT (putK kvs k v))
theorem DGet.k {H:Hp}{a:Addr}{kvs:List (Key × V)}{k:Key} (e:H a=some (.dK kvs)):DGet H a (kV k) (valV kvs k):=.inl ⟨kvs,k,.inl e,rfl,rfl⟩
theorem DGet.t {H:Hp}{a b:Addr}{kvs:List (List Key × V)}{k:List Key} (e:H a=some (.dT kvs)) (eb:H b=some (.tup (k.map kV))):DGet H a (.ref b) (valV kvs k):=.inr ⟨kvs,k,b,.inl e,rfl,eb,rfl⟩
theorem DPut.k {H:Hp}{a:Addr}{kvs:List (Key × V)}{k:Key}{v:V} (e:H a=some (.dK kvs)) (hl:kvs.length<sizeLine):DPut H a (kV k) v (upd H a (.dK (putK kvs k v))):=.inl ⟨kvs,k,e,rfl,hl,rfl⟩
theorem DPut.t {H:Hp}{a b:Addr}{kvs:List (List Key × V)}{k:List Key}{v:V} (e:H a=some (.dT kvs)) (eb:H b=some (.tup (k.map kV))) (hl:kvs.length<sizeLine) :
    DPut H a (.ref b) v (upd H a (.dT (putK kvs k v))):=.inr ⟨kvs,k,b,e,rfl,eb,hl,rfl⟩
section
variable {X:Cx}{pins:List (Addr × Obj)}{σ:St}{H:Hp}{s:Shared}{a:Addr}{y v:V}{u r:Value}{o:Option V}{A:Around}{E:Value->Shared->Prop}
theorem Inv.big (I:Inv X pins σ H s):sysModules<s.heap.objs.size:=by
 have h:mainGlobals<s.heap.objs.size:=(I.mod.glob.keeps I.bk).lt;exact ZV (by decide) h
theorem xoi {Q:Value->Shared->Prop} (hu:A.units+1<cLine) (I:Inv X pins σ H s) (g:DGet H a y (some v)) (ry:RelV y u) (h:∀ w' s',Inv X pins σ H s'->RelV v w'->Q w' s') :
    wpAny (model X.prog X.w) A (getItem (.ref a) u) Q E s:=by
  rcases g with⟨kvs,k,e,ey,l⟩|⟨kvs,k,b,e,ey,eb,l⟩
  . subst ey
    obtain⟨z,hd,vs,rel,dd⟩:=xd2 I.hok e;obtain⟨w',hw,rw'⟩:=RelO.some_of (v:=v) (o:=valueAt vs k) (by rw[l]; exact rel.val k);exact wpAny_getItem_of (xcr ry) dd.mapOf hw (h w' _ (I.tok _) rw')
  . subst ey
    cases (show u=Zn b from ry);obtain⟨z,hd,xs,rel,dd⟩:=xe0 I.hok e;obtain⟨w',hw,rw'⟩:=RelO.some_of (v:=v) (o:=(atKey xs k).map (·.2)) (by rw[l]; exact rel.val k);obtain⟨p,hp,hp2⟩:=Zi.mp hw;refine wpAny_getItem_heap (Y7 hu) (xdw I.hok eb) dd hp ?_;rw[hp2];exact h w' _ (I.tok _) rw'
theorem d_in {Q:Value->Shared->Prop} (hu:A.units+1<cLine) (I:Inv X pins σ H s) (g:DGet H a y o) (ry:RelV y u) (h:∀ s',Inv X pins σ H s'->Q (.bool o.isSome) s') :
    wpAny (model X.prog X.w) A (compareOp .In u (.ref a)) Q E s:=by
  rcases g with⟨kvs,k,e,ey,l⟩|⟨kvs,k,b,e,ey,eb,l⟩
  . subst ey
    obtain⟨z,hd,vs,rel,dd⟩:=xd2 I.hok e;refine wpAny_in_of (xcr ry) hd dd.mapOf ?_;rw[<- (rel.val k).isSome_eq,<- l];exact h _ (I.tok _)
  . subst ey
    cases (show u=Zn b from ry);obtain⟨z,hd,xs,rel,dd⟩:=xe0 I.hok e;refine wpAny_in_heap (Y7 hu) (xdw I.hok eb) hd dd ?_;have q:=(rel.val k).isSome_eq;rw[YC] at q;rw[<- q,<- l];exact h _ (I.tok _)
theorem xrq {Q:Value->Shared->Prop} (hu:A.units+1<cLine) (I:Inv X pins σ H s) (g:DGet H a y o) (ry:RelV y u) (h:∀ s',Inv X pins σ H s'->Q (.bool (!o.isSome)) s') :
    wpAny (model X.prog X.w) A (compareOp .NotIn u (.ref a)) Q E s:=by
  rcases g with⟨kvs,k,e,ey,l⟩|⟨kvs,k,b,e,ey,eb,l⟩
  . subst ey
    obtain⟨z,hd,vs,rel,dd⟩:=xd2 I.hok e;refine wpAny_notIn_of (xcr ry) hd dd.mapOf ?_;rw[<- (rel.val k).isSome_eq,<- l];exact h _ (I.tok _)
  . subst ey
    cases (show u=Zn b from ry);obtain⟨z,hd,xs,rel,dd⟩:=xe0 I.hok e;refine wpAny_notIn_heap (Y7 hu) (xdw I.hok eb) hd dd ?_;have q:=(rel.val k).isSome_eq;rw[YC] at q;rw[<- q,<- l];exact h _ (I.tok _)
theorem xdq {h':Heap}{t':Nat}{ob:HO} (I:Inv X pins σ H s) (mu:Mut (H a)) (hs:ZN a s.heap h') (he:∃ q,h'.get? a=some q) (new:xau X.prog X.w (upd H a ob) h' a ob) :
    Inv X pins σ (upd H a ob) { s with heap:=h',toks:=t' } :=
  I.write (x:=a) (e:=a) mu (.inl rfl) (fun b q hb z=>(hs.2 b hb).trans z) he new
theorem xjv {P:Program}{w:World}{H':Hp}{h':Heap}{kvs:List (Key × V)}{vs:List (Key × Value)} (z:kvs.length<=sizeLine) (hd:(a == sysModules)=false) (rel:KV kvs vs) (dd:h'.DictOf (xai P w) a vs) :
    xau P w H' h' a (.dK kvs):=⟨z,hd,vs,rel,dd⟩
theorem xnj {H':Hp}{Q:Unit->Shared->Prop} (hu:A.units+1<cLine) (I:Inv X pins σ H s) (g:DPut H a y v H') (ry:RelV y u) (rv:RelV v r) (h:∀ s',Inv X pins σ H' s'->Q () s') :
    wpAny (model X.prog X.w) A (setItem (.ref a) u r) Q E s:=by
  rcases g with⟨kvs,k,e,ey,l,eH⟩|⟨kvs,k,b,e,ey,eb,l,eH⟩
  . subst ey eH
    obtain⟨z,hd,vs,rel,dd⟩:=xg8 I.hok e;have hz:vs.length<=sizeLine:=by rw[<- rel.length]; exact z
    have hl:(putK kvs k v).length<=sizeLine:=by have:=xbs kvs k v; omega
    refine wpAny_setItem_pairs (hsz:=hz) (xcr ry) dd fun h' dd' hs=>h _ ?_;have he:∃ q,h'.get? a=some q:=let ⟨q,_,_,hq,_⟩:=dd'; ⟨q,hq⟩;exact xdq I (by rw[e]; exact Jx) hs he (xjv hl hd (rel.put k rv) dd')
  . subst ey eH
    cases (show u=Zn b from ry);obtain⟨z,hd,xs,rel,dd⟩:=xhq I.hok e;have hz:xs.length<=sizeLine:=by rw[<- Yj rel]; exact z
    have hl:(putK kvs k v).length<=sizeLine:=by have:=xbs kvs k v; omega
    refine wpAny_setItem_heap (hsz:=hz) (Y7 hu) (xdw I.hok eb) dd fun h' dd' hs=>h _ ?_;obtain⟨q,es,ep,hq,h2,h3,h4,_,h5⟩:=dd';refine xdq I (by rw[e]; exact Jx) hs ⟨q,hq⟩ ⟨hl,hd,_,(rel.put k eb rv).keeps fun c ys ec=>?_,q,es,ep,hq,h2,h3,h4,h5⟩;rw[xh (xae ec e (fun z=>nomatch z))];exact ec
end
section
variable {X:Cx}{pins:List (Addr × Obj)}{σ:St}{H:Hp}{s:Shared}{a:Addr}{kvs:List (Key × V)}{k:Key}{u:Value}{A:Around}{E:Value->Shared->Prop}
theorem xuu {Q:Value->Shared->Prop} (I:Inv X pins σ H s) (e:Rd H a (.dK kvs)) (h:∀ t s',Inv X pins σ H s'->Q (.int kvs.length t) s'):wpAny (model X.prog X.w) A (call (.builtin "len") [.ref a]) Q E s:=by
 obtain⟨z,hd,vs,rel,dd⟩:=xd2 I.hok e;refine call_len_dict hd dd (by rw[<- rel.length]; rw[sizeLine_eq] at z; omega) ?_;rw[<- rel.length];exact h _ _ (I.tok _)
end
def NoSl (i:Expr):Prop:=∀ ov iv,subscripted i false ov iv=operate [ov,iv] (getItem ov iv)
theorem xl5 {prog:Program}{w:World}{A:Around}{E:Value->Shared->Prop}{s:Shared}{env:Env}{value slice:Expr}{pos:Pos}{T id:String}{Q:Value->Shared->Prop}
    (hl:typeLookup (.type T) "__getitem__"=pure (some (.builtin id))) (hs:NoSl slice)
    (h:wpAny (model prog w) A (eval value env) (fun o s₁=>wpAny (model prog w) A (eval slice env) (fun i s₂=>s₂.TypeIs o T/\wpAny (model prog w) A (getItem o i) Q E s₂) E s₁) E s) :
    wpAny (model prog w) A (eval (.Subscript value slice pos) env) Q E s:=by
  refine Subscript_ (ZY h (fun o s₁ h₁=>ZY h₁ (fun i s₂ h₂=>?_) fun _ _ x=>x) fun _ _ x=>x);obtain⟨hT,h₂⟩:=h₂;unfold subscriptTail;refine Zc ?_;rw[getitemInPython_of_ne hT.not_modules];refine Zc (JI hT hl ?_);have fin:wpAny (model prog w) A (subscripted slice false o i) (fun r s₃=>wpAny (model prog w) A (letTemporaryGo value o r>>=fun _=>pure r) Q E s₃) E s₂:=by
    rw[hs o i];exact wpAny_operating (ZY h₂ (fun r s₃ h₃=>Zc (wpAny_letTemporaryGo (Zm h₃))) fun _ _ x=>x)
  first
    | exact Zm (Zc fin)
    | exact Zc (Zm (Zc fin))
    | exact Zc fin
theorem xkw {X:Cx}{pins:List (Addr × Obj)}{σ:St}{H:Hp}{s:Shared}{a:Addr}{y:V}{o:Option V} (I:Inv X pins σ H s) (g:DGet H a y o):s.TypeIs (.ref a) "dict":=by
 rcases g with⟨kvs,k,e,_,_⟩|⟨kvs,k,b,e,_,_,_⟩
 .obtain ⟨_,_,vs,_,dd⟩:=xd2 I.hok e;exact dd.typeIs
 .obtain ⟨_,_,xs,_,dd⟩:=xe0 I.hok e;exact dd.typeIs
def xuy (td ty:TE):TE:=fun σ H Q=>td σ H fun x H1=>ty σ H1 fun y H2=>∃ a v,x=.ref a/\DGet H2 a y (some v)/\Q v H2
def tDIn (ty td:TE):TE:=fun σ H Q=>ty σ H fun y H1=>td σ H1 fun x H2=>∃ a o,x=.ref a/\DGet H2 a y o/\Q (.bl o.isSome) H2
def xsu (ty td:TE):TE:=fun σ H Q=>ty σ H fun y H1=>td σ H1 fun x H2=>∃ a o,x=.ref a/\DGet H2 a y o/\Q (.bl (!o.isSome)) H2
def xvx (td ty tv:TE):TS:=fun D σ H=>tv σ H fun v H1=>td σ H1 fun x H2=>ty σ H2 fun y H3=>∃ a H4,x=.ref a/\DPut H3 a y v H4/\D.nx σ H4
section
variable {X:Cx}{o i e value:Expr}{pos pos' tpos:Pos}{td ty tv:TE}
theorem xel (hu:X.A.units+1<cLine) (ho:PE X o td) (hi:PE X i ty) (hs:NoSl i):PE X (.Subscript o i pos) (xuy td ty):=by
 intro pins s σ H Q I h;refine xl5 PySem.F.slot_dict_getitem.lookup hs (thn (ho pins s σ H _ I h) fun u s1 ⟨x,H1,I1,rx,q1⟩=>thn (hi pins s1 σ H1 _ I1 q1) fun iv s2 ⟨y,H2,I2,ry,a,v,ex,g,q2⟩=>?_);subst ex;obtain rfl:u=Zn a:=rx;exact⟨xkw I2 g,xoi hu I2 g ry fun w' s3 I3 rw'=>⟨v,H2,I3,rw',q2⟩⟩
theorem xke (hu:X.A.units+1<cLine) (hi:PE X i ty) (ho:PE X o td):PC X .In i o (tDIn ty td):=by
 intro pins s σ H Q I h;refine thn (hi pins s σ H _ I h) fun iv s1 ⟨y,H1,I1,ry,q1⟩=>thn (ho pins s1 σ H1 _ I1 q1) fun u s2 ⟨x,H2,I2,rx,a,ov,ex,g,q2⟩=>?_;subst ex;obtain rfl:u=Zn a:=rx;exact d_in hu I2 g ry fun s3 I3=>⟨.bl ov.isSome,H2,I3,rfl,q2⟩
theorem xd4 (hu:X.A.units+1<cLine) (hi:PE X i ty) (ho:PE X o td):PC X .NotIn i o (xsu ty td):=by
 intro pins s σ H Q I h;refine thn (hi pins s σ H _ I h) fun iv s1 ⟨y,H1,I1,ry,q1⟩=>thn (ho pins s1 σ H1 _ I1 q1) fun u s2 ⟨x,H2,I2,rx,a,ov,ex,g,q2⟩=>?_;subst ex;obtain rfl:u=Zn a:=rx;exact xrq hu I2 g ry fun s3 I3=>⟨.bl (!ov.isSome),H2,I3,rfl,q2⟩
theorem xdp (hu:X.A.units+1<cLine) (ho:PE X o td) (hi:PE X i ty) (hv:PE X value tv) (hs:swapsWith value (some (.Subscript o i pos')) pos.line X.env=pure false) :
    PS X (.Assign [.Subscript o i pos'] value pos) (xvx td ty tv):=by
  intro pins s σ H D I h;refine wpAny_Assign_Subscript (thn (hv pins s σ H _ I h) fun r s1 ⟨v,H1,I1,rv,q1⟩=>thn (ho pins s1 σ H1 _ I1 q1) fun u s2 ⟨x,H2,I2,rx,q2⟩=>thn (hi pins s2 σ H2 _ I2 q2) fun iv s3 ⟨y,H3,I3,ry,a,H4,ex,g,q3⟩=>?_) hs;subst ex;obtain rfl:u=Zn a:=rx;exact xnj hu I3 g ry rv fun s4 I4=>⟨σ,H4,I4,q3⟩
end
theorem xgw {P:Program}{w:World}{H:Hp} (h:Heap) (hb:sysModules<h.objs.size):xau P w H (h.push { cls:=.type "dict",data:=.dict #[] }) h.objs.size (.dK []) :=
 ⟨ZZ _,beq_eq_false_iff_ne.mpr (ZE (ZK hb)),[],.nil,Heap.DictOf.new h⟩
theorem xj5 {P:Program}{w:World}{H:Hp} (h:Heap) (hb:sysModules<h.objs.size):xau P w H (h.push { cls:=.type "dict",data:=.dict #[] }) h.objs.size (.dT []) :=
 ⟨ZZ _,beq_eq_false_iff_ne.mpr (ZE (ZK hb)),[],.nil,_,#[],0,Zu _ rfl,⟨rfl,rfl,rfl⟩,rfl,rfl,QH⟩
def xs1:TE:=fun _ H Q=>∀ p,H p=none->Q (.ref p) (upd H p (.dK []))
def xtj:TE:=fun _ H Q=>∀ p,H p=none->Q (.ref p) (upd H p (.dT []))
section
variable {X:Cx}{pos:Pos}
theorem xgu:PE X (.Dict [] [] pos) xs1:=fun pins s σ H Q I h =>
 wpAny_Dict_empty ⟨.ref s.heap.objs.size,_,I.laid (a:=s.heap.objs.size) (o:=.dK []) (t':=s.toks) (fun _ _ q=>Zg _ q) (Zj _) (xgw s.heap I.big),rfl,h _ (I.hok.fresh (Zj _))⟩
theorem xjk:PE X (.Dict [] [] pos) xtj:=fun pins s σ H Q I h =>
 wpAny_Dict_empty ⟨.ref s.heap.objs.size,_,I.laid (a:=s.heap.objs.size) (o:=.dT []) (t':=s.toks) (fun _ _ q=>Zg _ q) (Zj _) (xj5 s.heap I.big),rfl,h _ (I.hok.fresh (Zj _))⟩
end
def xj1:List (TE × TE)->St->Hp->(List (V × V)->Hp->Prop)->Prop
 | [],_,H,Q=>Q [] H
 | (tk,tv)::r,σ,H,Q=>tk σ H fun x H1=>tv σ H1 fun y H2=>xj1 r σ H2 fun ps H3=>Q ((x,y)::ps) H3
abbrev VV:List (V × V)->List (Value × Value)->Prop:=Paired fun p q=>RelV p.1 q.1/\RelV p.2 q.2
def PPs (X:Cx) (pos:Pos) (keys:List (Option Expr)) (values:List Expr) (trs:List (TE × TE)):Prop :=
 ∀(pins:List (Addr × Obj)) (s:Shared) (σ:St) (H:Hp) (Q:List (V × V)->Hp->Prop),Inv X pins σ H s->xj1 trs σ H Q ->
  wpAny (model X.prog X.w) X.A (evalPairs (pairTrees keys values X.env pos)) (fun vs s'=>∃ ps H',Inv X pins σ H' s'/\VV ps vs/\Q ps H') X.xe s
theorem xru {X:Cx}{pos:Pos}:PPs X pos [] [] []:=fun pins s σ H Q I h=>pairTrees_nil_walk ⟨[],H,I,.nil,h⟩
theorem xks {X:Cx}{pos:Pos}{k v:Expr}{ks:List (Option Expr)}{vs:List Expr}{tk tv:TE}{trs:List (TE × TE)} (hk:PE X k tk) (hv:PE X v tv) (hr:PPs X pos ks vs trs) :
    PPs X pos (some k::ks) (v::vs) ((tk,tv)::trs):=fun pins s σ H Q I h =>
  pairTrees_cons_walk (thn (hk pins s σ H _ I h) fun u s1 ⟨x,H1,I1,rx,q1⟩=>thn (hv pins s1 σ H1 _ I1 q1) fun w2 s2 ⟨y,H2,I2,ry,q2⟩ =>
    thn (hr pins s2 σ H2 _ I2 q2) fun ws s3 ⟨ps,H3,I3,rel,q3⟩=>⟨(x,y)::ps,H3,I3,.cons ⟨rx,ry⟩ rel,q3⟩)
def xdg (kvs more:List (Key × V)):List (Key × V):=more.foldl (fun acc kv=>putK acc kv.1 kv.2) kvs
theorem KV.merge:∀{more:List (Key × V)}{rs:List (Key × Value)}{kvs:List (Key × V)}{vs:List (Key × Value)},KV more rs->KV kvs vs->KV (xdg kvs more) (merged vs rs):=by
 intro more rs kvs vs r;unfold KV at r
 induction r generalizing kvs vs with
 | nil=>intro q; exact q
 | @cons p q ps qs h t ih =>
  intro r0;have e:KV (putK kvs p.1 p.2) (stored vs q.1 q.2):=by
   have:=r0.put p.1 h.2;rw[<- h.1]; exact this
  exact ih e
theorem xe4:∀(more kvs:List (Key × V)),(xdg kvs more).length<=kvs.length+more.length
 | [],kvs=>by show kvs.length<=kvs.length+0; omega
 | p::r,kvs=>by
  have h1:=xe4 r (putK kvs p.1 p.2);have h2:=xbs kvs p.1 p.2;show (xdg (putK kvs p.1 p.2) r).length<=_;rw[ZQ]; omega
theorem xhu {P:Program}{w:World}:∀{kvs:List (Key × V)}{ws:List (Value × Value)},VV (kvs.map fun kv=>(kV kv.1,kv.2)) ws->∃ rs,Carries (xai P w) ws rs/\KV kvs rs
 | [],_,r=>by rw[List.map_nil] at r; cases r; exact⟨[],Jx,.nil⟩
 | p::kvs,_,r=>by
  rw[Zr] at r;cases r with
  | @cons a b as bs h t =>
   obtain⟨rs,c,q⟩:=xhu (P:=P) (w:=w) t;obtain⟨b1,b2⟩:=b;exact⟨(p.1,b2)::rs,⟨xcr h.1,rfl,c⟩,.cons ⟨rfl,h.2⟩ q⟩
def xv3 (trs:List (TE × TE)):TE:=fun σ H Q=>∀ p,H p=none->xj1 trs σ (upd H p (.dK [])) fun ps H2=>H2 p=some (.dK [])/\∃ kvs:List (Key × V),ps=kvs.map (fun kv=>(kV kv.1,kv.2))/\kvs.length<=15/\Q (.ref p) (upd H2 p (.dK (xdg [] kvs)))
theorem xr3 {X:Cx}{pos:Pos}{keys:List (Option Expr)}{values:List Expr}{trs:List (TE × TE)} (h:PPs X pos keys values trs) (hall:keys.all (·.isSome)=true) (hl:keys.length=values.length) (h0:keys≠[])
    (h15:keys.length<=15):PE X (.Dict keys values pos) (xv3 trs):=by
  intro pins s σ H Q I q;have hn:=I.hok.fresh (Zj s.heap.objs.size);have I1:=I.laid (a:=s.heap.objs.size) (o:=.dK []) (h':=s.heap.push { cls:=.type "dict",data:=.dict #[] }) (t':=s.toks) (fun _ _ q=>Zg _ q) (Zj _) (xgw s.heap I.big);refine wpAny_Dict_walk (knd:=xai X.prog X.w) hall hl h0 h15 (thn (h pins _ σ _ _ I1 (q _ hn)) fun ws s2 ⟨ps,H2,I2,rel,e,kvs,ep,lk,q2⟩=>?_);subst ep;obtain⟨rs,c,rk⟩:=xhu (P:=X.prog) (w:=X.w) rel;obtain⟨z,hd,vs0,r0,dd⟩:=xg8 I2.hok e;cases r0;refine⟨rs,c,dd,fun h' dd' hs=>⟨.ref s.heap.objs.size,_,?_,rfl,q2⟩⟩;have hz:(xdg [] kvs).length<=sizeLine:=by
    have h1:=xe4 kvs [];rw[List.length_nil] at h1;rw[sizeLine_eq]; omega
  have he:∃ q,h'.get? s.heap.objs.size=some q:=let ⟨q,_,_,hq,_⟩:=dd'; ⟨q,hq⟩;exact xdq I2 (by rw[e]; exact Jx) hs he (xjv hz hd (rk.merge .nil) dd')
structure M2 (X:Cx) (o:Expr) (m:Str) (apos:Pos) (e f:Expr) (cpos:Pos):Prop where
 base:attributeBase o m X.env (eval o X.env)=eval o X.env
 few:((backTo cpos (starEach [e,f] X.env)).all (fun x=>!x.1)&&(backToKw cpos (keywordEach [] X.env)).all (fun x=>x.1.isSome)
  && decide (([e,f]:List Expr).length+([]:List Keyword).length+(if ([]:List Keyword).isEmpty then 0 else 1)<30))=true
 line:(apos.endLine == cpos.line)=true
 trees:backTo cpos (starEach [e,f] X.env)=[(false,eval e X.env),(false,eval f X.env)]
def IsD (H:Hp) (a:Addr):Prop:=(∃ kvs,Rd H a (.dK kvs))\/∃ kvs,Rd H a (.dT kvs)
theorem xus {X:Cx}{pins:List (Addr × Obj)}{σ:St}{H:Hp}{s:Shared}{a:Addr} (I:Inv X pins σ H s) (d:IsD H a) :
    s.TypeIs (.ref a) "dict"/\(∀ b,Zn a=.ref b->∃ ob,s.heap.get? b=some ob/\ob.dict=none)/\(a == sysModules)=false:=by
  rcases d with⟨kvs,e⟩|⟨kvs,e⟩
  . obtain⟨_,hd,vs,_,dd⟩:=xd2 I.hok e
    refine⟨dd.typeIs,fun b q=>?_,hd⟩;cases q;obtain⟨ob,_,_,h1,h2,_⟩:=dd;exact⟨ob,h1,h2.2.1⟩
  . obtain⟨_,hd,xs,_,dd⟩:=xe0 I.hok e
    refine⟨dd.typeIs,fun b q=>?_,hd⟩;cases q;obtain⟨ob,_,_,h1,h2,_⟩:=dd;exact⟨ob,h1,h2.2.1⟩
section
variable {X:Cx}{pins:List (Addr × Obj)}{σ:St}{H:Hp}{s:Shared}{a:Addr}{y d:V}{u r:Value}{o:Option V}{A:Around}{E:Value->Shared->Prop}
theorem xua {Q:Value->Shared->Prop} (hu:A.units+1<cLine) (I:Inv X pins σ H s) (g:DGet H a y o) (ry:RelV y u) (rd:RelV d r) (h:∀ w' s',Inv X pins σ H s'->RelV (o.getD d) w'->Q w' s') :
    wpAny (model X.prog X.w) A (call (.builtin "dict.get") [.ref a,u,r]) Q E s:=by
  rcases g with⟨kvs,k,e,ey,l⟩|⟨kvs,k,b,e,ey,eb,l⟩
  . subst ey
    obtain⟨z,hd,vs,rel,dd⟩:=xd2 I.hok e;refine call_meetsIn Q6 dd.typeIs PySem.F.entry_dict_get (PySem.F.args_dict_get_3 _ _ _) (meets_dict_get_default (xai X.prog X.w) a (xcr ry) hd r) ⟨_,dd.mapOf,h _ _ (I.tok _) ?_⟩;rw[l];exact (rel.val k).getD rd
  . subst ey
    cases (show u=Zn b from ry);obtain⟨z,hd,xs,rel,dd⟩:=xe0 I.hok e;refine call_meetsIn Q6 dd.typeIs PySem.F.entry_dict_get (PySem.F.args_dict_get_3 _ _ _) (meetsH_dict_get_default (tupleKind (xai X.prog X.w)) a b hd r) ⟨Y7 hu,k,xs,xdw I.hok eb,dd,h _ _ (I.tok _) ?_⟩;rw[l];exact (rel.val k).getD rd
end
def xs7 (td ty tx:TE):TE:=fun σ H Q=>td σ H fun x H1=>∃ a,x=.ref a/\IsD H1 a/\ty σ H1 fun y H2=>tx σ H2 fun z H3=>∃ o,DGet H3 a y o/\Q (o.getD z) H3
section
variable {X:Cx}{o e f:Expr}{apos cpos:Pos}{td ty tx:TE}
theorem xqb (hu:X.A.units+1<cLine) (ho:PE X o td) (he:PE X e ty) (hf:PE X f tx) (m:M2 X o "get" apos e f cpos):PE X (.Call (.Attribute o "get" apos) [e,f] [] cpos) (xs7 td ty tx):=by
 intro pins s σ H Q I h;refine wpAny_Call_method m.base m.few m.line Qr Q6 PySem.F.type_dict_get (thn (ho pins s σ H _ I h) fun u s1 ⟨x,H1,I1,rx,a,ex,d,q1⟩=>?_);subst ex;obtain rfl:u=Zn a:=rx;obtain⟨t1,t2,_⟩:=xus I1 d;refine⟨t1,t2,?_⟩;rw[m.trees];refine YE rfl (QM (Y8 (thn (he pins s1 σ H1 _ I1 q1) fun iv s2 ⟨y,H2,I2,ry,q2⟩ =>
  Y8 (thn (hf pins s2 σ H2 _ I2 q2) fun fv s3 ⟨z,H3,I3,rz,ov,g,q3⟩=>Qe ?_))))
 exact xua hu I3 g ry rz fun w' s4 I4 rw'=>⟨_,H3,I4,rw',q3⟩
end
end L2
namespace Att
open PySem PySem.W PySem.Calls PyProof.Rows
theorem xg4 {P:Params}{h:Heap}:∀(ns:List Int) (vs:List Value),WellAll P h vs (ns.map WData.int)->IntsAre vs ns:=by
 intro ns
 induction ns with
 | nil =>
  intro vs w;rw[List.map_nil] at w;cases w;exact .nil
 | cons n ns ih =>
  intro vs w;rw[Zr] at w;cases w with
  | cons a b =>
   cases a;exact .cons _ _ (ih _ b)
theorem xna {l:OpenLaw}{n:Nat} (hn:l.most=some n) {P:Params}{h:Heap}{args:List WData}{vals:List Value}
    (hpre:l.row.toRowW.claim.pre args=true) (hwl:WellAll P h vals args) :
    ∃ a vs ns,vals=[Zn a]/\args=[WData.list (ns.map WData.int)]/\h.get? a=some { cls:=.type "list",data:=.seq vs.toArray }/\IntsAre vs ns/\ns.length<=n:=by
  have hsh:WShape.hasAll [] args [.list .int]=true:=(pre_splitW hpre).1;have hc:l.pre.holds [] { args:=args }=true:=(pre_splitW hpre).2;obtain⟨d,r,rfl,h1,h2⟩:=hasAllW_cons hsh;obtain rfl:=hasAllW_nil h2;obtain⟨xs,rfl,h3⟩:=hasW_list h1;obtain⟨ns,rfl⟩:=items_int h3;have hlen:ns.length<=n:=by
    unfold OpenLaw.pre at hc;have h4:(WTm.not (.lt (.lit (.int (n:Int))) (.len (.arg 0)))).holds [] { args:=[.list (ns.map .int)] }=true:=by
      have h4:=(holds_andW hc).1;rw[hn] at h4;exact h4
    have h5:=condW_of h4 (w_not (w_lt w_lit (w_len_list (w_arg rfl))));rw[Za] at h5;refine Nat.le_of_not_lt fun q=>?_;have q':(n:Int)<((ns.length:Nat):Int):=by omega
    first
      | (rw[decide_eq_true q'] at h5; exact absurd h5 (by decide))
      | (simp at h5; omega)
  cases hwl with
  | cons w1 w2 =>
    cases w2;cases w1 with
    | list ho hall=>exact⟨_,_,ns,rfl,rfl,ho,xg4 ns _ hall,hlen⟩
theorem xnw (l:OpenLaw) (args:List WData):l.row.toRowW.claim.post args (.bool true) args=true :=
 postW_of (r:=l.row.toRowW) (X:=(true == true))
  (show WShape.has [] (.bool true) .bool=true by first|rfl|decide|simp[WShape.has,WShape.arms,WShape.armsAll])
  (show (WTm.eq .res (.lit (.bool true))).value [] { args:=args,res:=some (.bool true),after:=args }=some (.bool (true == true)) from w_eq_bool (w_res rfl) w_lit) rfl
theorem attach_call {l:OpenLaw}{n:Nat}{q:Program}{loose:List Str}{XP:(Str->Option Value)->Heap->Prop}{YP:World->Heap->Prop}{d:DefRec}
    (hn:l.most=some n) (hdf:d.params.defaults=[])
    (call:∀(w:World) (s₀ s₁:Shared) (mg mb:Str->Option Value) (fa:Addr) (o:Obj) (pm cd doc:Value) (a:Addr) (vs:List Value) (ns:List Int),
      Ground q loose [] XP w s₀ mg mb s₁.heap->YP w s₁.heap ->
      s₁.heap.get? fa=some o->o.data=.func (docDef d.name d.params d.body d.scope pm cd doc)->s₁.heap.CodeRec cd d.name->mg d.name=some (.ref fa) ->
      s₁.heap.get? a=some { cls:=.type "list",data:=.seq vs.toArray }->IntsAre vs ns->ns.length<=n->s₁.gens=#[] ->
      codeAny (model l.prog w) callerA (.call (.ref fa) ⟨[.ref a],[]⟩) (fun r s'=>r=.ok (.ret (.bool true))/\OldK s₁.heap s'.heap/\s'.os=s₁.os/\AllBare s'.gens) s₁) :
    WalkO q loose XP YP l.row.toRowW d [] (fun f vs=>PySem.call f vs):=by
  intro w s₀ s₁ mg mb G Y fa o pm cd doc dV kV ho hd hcd hD hmg hg args vals as hpre hlay hrd hwl hlo;obtain rfl:dV=.none:=Dflts.none hD hdf;obtain rfl:kV=.none:=Dflts.noKw hD;obtain⟨a,vs,ns,rfl,rfl,hobj,hints,hlen⟩:=xna hn hpre hwl;refine enter_call (codeAny_mono (call w s₀ s₁ mg mb fa o pm cd doc a vs ns G Y ho (fd_plain hd) hcd hmg hobj hints hlen hg) fun r s' hq=>?_);obtain⟨rfl,h2,h3,h4⟩:=hq;exact⟨.inl ⟨.bool true,.bool true,[],rfl,fun _=>rfl,.bool true,xnw l _,fun _=>⟨JN.nil,fun _ hm=>(nomatch hm)⟩⟩,h2,h3,h4⟩
section
variable {prog:Program}{w:World}{A:Around}{E:Value->Shared->Prop}{s:Shared}{K:Frag}
def xv5 (h:Heap) (L d:Addr):List (Addr × Obj):=(Zz h.objs.size).filterMap fun a=>if a=L\/a=d then none else (h.get? a).map fun o=>(a,o)
end
end Att
namespace L2
open PySem PySem.Spec PyProof.Rows
variable {q0:Bool}
theorem xim:∀{vs:List Value}{ns:List Int},IntsAre vs ns->Vals (ns.map V.int) vs
 | _,_,.nil=>.nil
 | _,_,.cons n t h=>.cons ⟨t,rfl⟩ (xim h)
def Only (H:Hp):Prop:=∀ b,H b=none\/∃ o xs,H b=some (.frz o (.lst xs))
theorem xqk {P:Program}{w:World}{K:Ze}{mg mb:Str->Option Value}{CX:CXT}{k:Nat}{fa a:Addr}{fd:FuncData}{x:Str}{sp:Sp}{s₁:Shared}{vs:List Value}{ns:List Int}
    (KX:K.In s₁.heap) (hns:s₁.heap.Ns mainGlobals mg) (hb:s₁.heap.Ns builtinsNs mb) (hbb:∀ x:Str,x≠"__name__"->mb x=bootBuiltins x) (hlim:s₁.heap.NoLimit) (hg:s₁.gens=#[])
    (ha:s₁.heap.get? a=some { cls:=.type "list",data:=.seq vs.toArray }) (hi:IntsAre vs ns) (hl:ns.length<=sizeLine) (hr:Room q0 k callerA)
    (F:∀ base:Heap,K.In base->base.Ns mainGlobals mg->FnOk q0 P w K mg base CX k fa fd [x] sp) (hbind:∀(s:Shared) (u:Value),BindsTo s fd ⟨[u],[]⟩ [(x,u)])
    (hsp:∀ H:Hp,Only H->SqL K H a (ns.map V.int)->sp [.ref a] H (fun v _=>v=.bl true) fun _ _ _=>False)
    (hCX:∀ H e s',CX [] H s₁ (fun _ _ _=>False) e s'->False) :
    codeAny (model P w) callerA (.call (.ref fa) ⟨[.ref a],[]⟩) (fun r s'=>r=.ok (.ret (.bool true))/\OldK s₁.heap s'.heap/\s'.os=s₁.os/\AllBare s'.gens) s₁:=by
  have rv:=xim hi;have lenV:=hi.length
  -- from an abstract heap in which nothing but the script may be tracked
  have core:∀ H:Hp,Only H->SqL K H a (ns.map V.int)->HOk P w H s₁.heap->(∀ b,H b≠none->b=a)->(H a≠none->K.lookup a=none) ->
      codeAny (model P w) callerA (.call (.ref fa) ⟨[.ref a],[]⟩) (fun r s'=>r=.ok (.ret (.bool true))/\OldK s₁.heap s'.heap/\s'.os=s₁.os/\AllBare s'.gens) s₁:=by
    intro H hO hS hok hA hK;have base_of:∀{b:Addr}{o:Obj},s₁.heap.get? b=some o->H b=none->(hidT s₁.heap H).get? b=some o:=fun e n=>xph e n;have noA:∀{b:Addr}{o:Obj}{es:Array DictEntry}{ep:Nat},s₁.heap.get? b=some o->o.data=.dict es ep->H b=none:=fun {b o es ep} e d=>by
      cases q:H b with
      | none=>rfl
      | some u =>
        have e':b=a:=hA b (by rw[q]; simp);subst e';rw[ha] at e; cases e;have d':Data.seq vs.toArray _=Data.dict es ep:=d;cases d'
    have nsK:∀{b:Addr}{m:Str->Option Value},s₁.heap.Ns b m->(hidT s₁.heap H).Ns b m:=fun {b m} ⟨o,es,ep,e,d,r⟩=>⟨o,es,ep,base_of e (noA e d),d,r⟩
    have hKb:K.In (hidT s₁.heap H):=fun b o e=>base_of (KX b o e) (by
      cases q:H b with
      | none=>rfl
      | some u =>
        have e':b=a:=hA b (by rw[q]; simp);subst e';rw[hK (by rw[q]; simp)] at e; cases e)
    have hM:Mod K mg (hidT s₁.heap H):=⟨hKb,nsK hns,⟨mb,nsK hb,hbb⟩,let ⟨mc,h1,h2⟩:=hlim; ⟨mc,nsK h1,h2⟩⟩
    have e0:Env0 P w K mg (hidT s₁.heap H) callerA [] s₁ H:=⟨rfl,hM,fun b o e=>xrb e,Nat.le_of_eq (xoo _ _),trivial,fun b hb=>absurd (show b∈([]:List Addr) from hb) (by simp),hok,.of_eq hg⟩
    refine codeAny_mono ((F _ hKb (nsK hns)).run callerA [] s₁ H ⟨[.ref a],[]⟩ [.ref a] [.ref a] _ _ hr e0 (hbind s₁ (.ref a)) (.cons rfl .nil) (hsp H hO hS)) fun r s' h=>?_;cases r with
    | error e=>exact (hCX H e s' h).elim
    | ok fl =>
      cases fl with
      | next=>exact JQ h
      | brk=>exact JQ h
      | cont=>exact JQ h
      | ret u =>
        obtain⟨v,H',os,bare,un,hok',r',q⟩:=h;have q':v=.bl true:=q;subst q';obtain rfl:u=Yf true:=r';refine⟨rfl,OldK.of_keep fun b o e=>?_,os,bare⟩;cases q:H b with
        | none=>exact un.keep b o e q (by intro z; exact absurd (show b∈([]:List Addr) from z) (by simp)) (by simp)
        | some u =>
          rcases hO b with z|⟨ob,xs,z⟩
          . rw[q] at z; cases z
          . have z2:=un.frzs b ob _ z
            obtain⟨e1,_⟩:=hok b _ z;obtain⟨e2,_⟩:=hok' b _ z2;rw[e] at e1; cases e1;exact e2
  cases hk:K.lookup a with
  | some o =>
    -- the script is one of the module's own objects
    have e:=KX a o hk;rw[ha] at e;cases e;refine core (fun _=>none) (fun _=>.inl rfl) (.inr ⟨_,vs.toArray,_,hk,rfl,rfl,rfl,by rw[Z5,lenV]; exact hl,by simpa using rv⟩) (fun b u z=>by have z':(none:Option HO)=some u:=z; cases z') (fun b z=>absurd rfl z) fun z=>absurd rfl z
  | none =>
    refine core (fun b=>if b=a then some (.frz { cls:=.type "list",data:=.seq vs.toArray } (.lst (ns.map V.int))) else none) (fun b=>?_) (.inl (.inr ⟨{ cls:=.type "list",data:=.seq vs.toArray },if_pos rfl⟩)) (fun b u z=>?_) (fun b z=>?_) fun _=>hk
    . by_cases hb:b=a
      . exact .inr ⟨_,_,if_pos hb⟩
      . exact .inl (if_neg hb)
    . by_cases hb:b=a
      . have z':=(if_pos hb).symm.trans z
        cases z';subst hb;exact⟨ha,by rw[Za]; exact hl,vs,_,rv,ha⟩
      . have z':=(if_neg hb).symm.trans z
        cases z'
    . by_cases hb:b=a
      . exact hb
      . exact absurd (if_neg hb) z
abbrev KOf {K:Ze}{h:Heap} (_:K.In h):Ze:=K
theorem walk_of {l:PySem.W.OpenLaw}{n k:Nat}{q:Program}{loose:List Str}{XP:(Str->Option Value)->Heap->Prop}{YP:World->Heap->Prop}{d:DefRec}{K:Params->Ze}{CX:World->CXT}{sp:World->Sp}{x:Str}
    (hn:l.most=some n) (hn2:n<=sizeLine) (hdf:d.params.defaults=[]) (hr:Room q0 k callerA)
    (hY:∀(w:World) (h:Heap),YP w h->(K w.params).In h)
    (F:∀(w:World) (mg:Str->Option Value) (fa:Addr) (h:Heap),(K w.params).In h->h.Ns mainGlobals mg->mg d.name=some (.ref fa) ->
      ∃ fd:FuncData,(∀(s:Shared) (u:Value),BindsTo s fd ⟨[u],[]⟩ [(x,u)]) /\
        ∀ base:Heap,(K w.params).In base->base.Ns mainGlobals mg->FnOk q0 l.prog w (K w.params) mg base (CX w) k fa fd [x] (sp w))
    (hsp:∀(w:World) (H:Hp) (a:Addr) (ns:List Int),ns.length<=n->Only H->SqL (K w.params) H a (ns.map V.int)->sp w [.ref a] H (fun v _=>v=.bl true) fun _ _ _=>False)
    (hCX:∀(w:World) (H:Hp) (s:Shared) (e:Value) (s':Shared),CX w [] H s (fun _ _ _=>False) e s'->False) :
    PySem.W.WalkO q loose XP YP l.row.toRowW d [] (fun f vs=>PySem.call f vs):=by
  refine Att.attach_call hn hdf fun w s₀ s₁ mg mb fa o pm cd doc a vs ns G Y ho hd hcd hmg hobj hints hlen hg=>?_;have KX:=hY w _ Y;obtain⟨fd,hb,hF⟩:=F w mg fa _ KX G.T.g hmg;exact xqk KX G.T.g G.T.b G.T.builtins G.T.nolimit hg hobj hints (ZB hlen hn2) hr hF hb (fun H hO hS=>hsp w H a ns hlen hO hS) fun H e s'=>hCX w H s₁ e s'
def xat (s:Stmt) (j:Nat):Stmt:=match s with
 | .ClassDef _ _ _ body _ _ _ _ _ _ _=>body.getD j (.Pass ⟨0,0,0,0⟩)
 | _=>.Pass ⟨0,0,0,0⟩
def xbf (s:Stmt):Arguments:=match s with
 | .FunctionDef _ a _ _ _ _ _ _ _ _=>a
 | _=>{ posonlyargs:=[],args:=[],vararg:=none,kwonlyargs:=[],kw_defaults:=[],kwarg:=none,defaults:=[] }
def xa7 (s:Stmt):List Stmt:=match s with
 | .FunctionDef _ _ b _ _ _ _ _ _ _=>b
 | _=>[]
def xm (s:Stmt):Scope:=match s with
 | .FunctionDef _ _ _ _ _ _ sc _ _ _=>sc
 | _=>{ kind:=.function,names:=[],isGenerator:=false,isCoroutine:=false }
abbrev CX0:CXT:=fun _ _ _ _ _ _=>False
structure Fun (K:Ze) (x qual:Str) (st:Stmt) (f:Addr) (fd:FuncData):Prop where
 ex:∃(oc:Value) (od:Option Addr) (kV doc pm:Value) (an:Option Addr) (cdv ct:Value) (osl:Array (Option Value)),
  fd=Ji x qual (xbf st) (xa7 st) (xm st) .none kV doc pm an cdv ct/\K.lookup f=some ⟨oc,od,.func fd,osl⟩/\YB K cdv qual=true
 kp:Jw K (.ref f)=true
section
variable {P:Program}{w:World}{K:Ze}{mg:Str->Option Value}{base:Heap}
theorem Fun.ok {x qual:Str}{st:Stmt}{f:Addr}{fd:FuncData}{N ps:List Str}{k:Nat}{sp:Sp} (F:Fun K x qual st f fd) (S:xt N ps (xm st)) (len:∀ vs H Q E,sp vs H Q E->vs.length=ps.length)
    (hbody:∀(cdv:Value) (A:Around) (outer:List Env) (s:Shared) (H:Hp) (vs:List V) (Q:VK) (E:XK),Room q0 k (A.deeper (envOfC qual (xm st) s.heap.objs.size f cdv))->sp vs H Q E ->
      ∃ t,PSs (cxOf q0 CX0 P w K mg base N qual (xm st) f cdv A outer s H E).nox (xa7 st) t/\t { nx:=fun _ H'=>Q .non H',rt:=Q } (xdc N vs) H):FnOk q0 P w K mg base CX0 (k+1) f fd ps sp:=by
  obtain⟨oc,od,kV,doc,pm,an,cdv,ct,osl,rfl,lk,hcd⟩:=F.ex;refine xmh lk hcd S len fun A outer s H vs Q E hr hsp=>?_;obtain⟨t,h,q⟩:=hbody cdv A outer s H vs Q E hr hsp;exact⟨t,h.nox,q⟩
theorem Fun.binds {x qual:Str}{st:Stmt}{f:Addr}{fd:FuncData}{ps:List Str} (F:Fun K x qual st f fd)
    (h:∀(kV doc pm:Value) (an:Option Addr) (cdv ct:Value) (us:List Value),us.length=ps.length->bindArgs (Ji x qual (xbf st) (xa7 st) (xm st) .none kV doc pm an cdv ct) ⟨us,[]⟩=pure (ps.zip us)):xv K fd ps []:=by
  obtain⟨oc,od,kV,doc,pm,an,cdv,ct,osl,rfl,lk,hcd⟩:=F.ex;exact .all (h kV doc pm an cdv ct)
theorem fun_mk {x qual:Str}{st:Stmt}{f:Addr}{oc:Value}{od an:Option Addr}{osl:Array (Option Value)}{kV doc pm cdv ct:Value} (l:K.lookup f=some ⟨oc,od,.func (Ji x qual (xbf st) (xa7 st) (xm st) .none kV doc pm an cdv ct),osl⟩)
    (c:YB K cdv qual=true) (k:Jw K (.ref f)=true):Fun K x qual st f (Ji x qual (xbf st) (xa7 st) (xm st) .none kV doc pm an cdv ct):=⟨⟨oc,od,kV,doc,pm,an,cdv,ct,osl,rfl,l,c⟩,k⟩
end
theorem xbh {A:Around}{k:Nat} (hr:Room q0 k A):A.units+1<cLine:=ZA (Nat.add_le_add_left (by decide:1<=64) _) hr.units
section
variable {X:Cx}
theorem pv (i:Nat) {x:Str}{pos:Pos} (hN:X.N[i]?=some x:=by rfl) (hv:Vis X.env.scope x:=by first|exact Zo rfl|exact ZS (Zo rfl)|exact ZS (ZS rfl)) (hd:(x == ("__debug__":Str))=false:=by decide)
    (hcd:(x == ("__classdict__":Str))=false:=by decide):PE X (.Name x pos) (tVar i):=xuf hN hv hd hcd
end
theorem iteF {A B:Prop} (h:B):if false=true then A else B:=by
 rw[if_neg Z7];exact h
theorem iteT {A B:Prop} (h:A):if true=true then A else B:=by
 rw[if_pos rfl];exact h
theorem ite2 {c A B:Prop} [Decidable c] (h1:c->A) (h2:¬ c->B):if c then A else B:=by
 by_cases h:c
 .rw [if_pos h];exact h1 h
 .rw [if_neg h];exact h2 h
def Same (H H':Hp):Prop:=∀ b o,H b=some o->H' b=some o
theorem Same.refl (H:Hp):Same H H:=fun _ _ h=>h
theorem Same.trans {H H1 H2:Hp} (a:Same H H1) (b:Same H1 H2):Same H H2:=fun c o h=>b c o (a c o h)
theorem Same.free {H H':Hp} (e:Same H H') {l:Addr} (h:H' l=Option.none):H l=Option.none:=by
 cases q:H l with
 | none=>rfl
 | some o =>
  rw[e l o q] at h;cases h
theorem Same.seq {K:Ze}{H H':Hp}{a:Addr}{xs:List V} (e:Same H H') (h:SqL K H a xs):SqL K H' a xs:=by
 rcases h with (h|⟨o,h⟩)|h
 .exact .inl (.inl (e _ _ h))
 .exact .inl (.inr ⟨o,e _ _ h⟩)
 .exact .inr h
end L2
namespace Srt
open PySem PySem.W PyProof.Rows
abbrev CM:=Nat->Nat->(Bool->Shared->Prop)->Shared->Prop
abbrev g (p:Array Nat) (i:Nat):Nat:=p.getD i 0
structure Ord (n:Nat) (lt:Nat->Nat->Bool):Prop where
 irr:∀ i,i<n->lt i i=false
 tr:∀ i j k,i<n->j<n->k<n->lt i j=true->lt j k=true->lt i k=true
 tot:∀ i j,i<n->j<n->i≠j->lt i j=false->lt j i=true
def Cmp (n:Nat) (lt:Nat->Nat->Bool) (cmp:CM) (s:Shared):Prop:=∀ i j,i<n->j<n->∀ Q:Bool->Shared->Prop,Q (lt i j) s->cmp i j Q s
theorem xcl {α:Type}{cmp:CM}{a:α}{Q:α->Shared->Prop}{s:Shared} (h:Q a s):KasT.kasWp cmp (.ret a) Q s:=h
theorem xfb {α:Type}{cmp:CM}{i j:Nat}{k:Bool->KasT α}{Q:α->Shared->Prop}{s:Shared} (h:cmp i j (fun c s'=>KasT.kasWp cmp (k c) Q s') s):KasT.kasWp cmp (.ask i j k) Q s:=h
theorem xvl {p:Array Nat}{n:Nat}:kas_asc p 0 n=.ret n:=by unfold kas_asc; rfl
theorem xv1 {p:Array Nat}{f n:Nat}:kas_asc p (f+1) n=.ask (p.getD n 0) (p.getD (n-1) 0) fun c=>if c=true then .ret n else kas_asc p f (n+1):=by rw[kas_asc]
theorem xu4 {p:Array Nat}{k:Nat}:kas_bin 0 p k=.ret p:=by unfold kas_bin; rfl
theorem xvb {f:Nat}{p:Array Nat}{k:Nat}:kas_bin (f+1) p k=(kas_place p k k 0 k).bind fun l=>kas_bin f (bubble p k (k-l)) (k+1):=by rw[kas_bin]
theorem xse {p:Array Nat}{k l r:Nat}:kas_place p k 0 l r=.ret l:=by unfold kas_place; rfl
theorem xr1 {p:Array Nat}{k f l r:Nat}:kas_place p k (f+1) l r=if l>=r then .ret l else .ask (p.getD k 0) (p.getD ((l+r) / 2) 0) fun c=>if c=true then kas_place p k f l ((l+r) / 2) else kas_place p k f ((l+r) / 2+1) r:=by rw[kas_place]
theorem xuj {p:Array Nat}{k l:Nat}:kas_desc 0 p k l=.ret (p,k,l):=by unfold kas_desc; rfl
theorem xtc {f:Nat}{p:Array Nat}{k l:Nat}:kas_desc (f+1) p k l=.ask (p.getD k 0) (p.getD (k-1) 0) fun c=>if c=true then (if l>0 then kas_desc f (kas_rev p (k-(l+1)) k) (k+1) 0 else kas_desc f p (k+1) 0) else .ask (p.getD (k-1) 0) (p.getD k 0) fun d=>if d=true then .ret (p,k,l) else kas_desc f p (k+1) (l+1):=by rw[kas_desc]
section
variable {n:Nat}{lt:Nat->Nat->Bool}{cmp:CM}{s:Shared}
structure Arr (n:Nat) (p:Array Nat):Prop where
 sz:p.size=n
 lt:∀ i,i<n->g p i<n
 inj:∀ i j,i<n->j<n->g p i=g p j->i=j
 pm:p.Perm (Zz n).toArray
theorem g_at {p:Array Nat}{i:Nat}{v:Nat} (h:p[i]?=some v):g p i=v:=by
 show p.getD i 0=v;rw[Array.getD_eq_getD_getElem?,h];rfl
theorem Arr.at {p:Array Nat} (a:Arr n p) {i:Nat} (h:i<n):p[i]?=some (g p i):=by
 have z:i<p.size:=by rw[a.sz]; exact h
 have e:p[i]?=some p[i]:=JR z;rw[e,g_at e]
def Srtd (lt:Nat->Nat->Bool) (p:Array Nat) (m:Nat):Prop:=∀ i j,i<j->j<m->lt (g p i) (g p j)=true
theorem xln (o:Ord n lt) {p:Array Nat} (a:Arr n p) {m:Nat} (hm:m<=n) (h:∀ i,1<=i->i<m->lt (g p (i-1)) (g p i)=true):Srtd lt p m:=by
 intro i j hij hj;obtain⟨d,rfl⟩:∃ d,j=i+1+d:=⟨j-(i+1),by omega⟩
 induction d with
 | zero=>exact h (i+1) (by omega) hj
 | succ d ih =>
  have h1:=ih (by omega) (by omega);have h2:=h (i+1+(d+1)) (by omega) hj;exact o.tr _ _ _ (a.lt _ (by omega)) (a.lt _ (by omega)) (a.lt _ (by omega)) h1 h2
theorem xkl (c:Cmp n lt cmp s) {p:Array Nat} (a:Arr n p) {G:Nat->Shared->Prop}:∀(f k:Nat),1<=k->k+f<=n ->
    (∀ m,k<=m->m<=k+f->(∀ i,k<=i->i<m->lt (g p i) (g p (i-1))=false)->(m<k+f->lt (g p m) (g p (m-1))=true)->G m s)->KasT.kasWp cmp (kas_asc p f k) G s
  | 0,k,h1,hf,hG=>by
    rw[xvl];exact xcl (hG k (Zj _) (by omega) (fun i h h'=>by omega) (fun h=>by omega))
  | f+1,k,h1,hf,hG=>by
    rw[xv1];refine xfb (c _ _ (a.lt k (by omega)) (a.lt (k-1) (by omega)) _ ?_);cases e:lt (g p k) (g p (k-1)) with
    | true =>
      exact xcl (hG k (Zj _) (by omega) (fun i h h'=>by omega) (fun _=>e))
    | false =>
      show KasT.kasWp cmp (kas_asc p f (k+1)) G s;refine xkl c a f (k+1) (by omega) (by omega) fun m hm hm2 h3 h4=>hG m (by omega) (by omega) (fun i hi hi2=>?_) (fun h=>h4 (by omega));by_cases z:i=k
      . rw[z]; exact e
      . exact h3 i (by omega) hi2
theorem xl0 (o:Ord n lt) (c:Cmp n lt cmp s) {p:Array Nat} (a:Arr n p) {G:Array Nat × Nat × Nat->Shared->Prop}:∀(f k:Nat),1<=k->k+f<=n ->
    (∀ m,k<=m->m<=k+f->(∀ i,k<=i->i<m->lt (g p i) (g p (i-1))=true)->G (p,m,0) s)->KasT.kasWp cmp (kas_desc f p k 0) G s
  | 0,k,h1,hf,hG=>by
    rw[xuj];exact xcl (hG k (Zj _) (by omega) (fun i h h'=>by omega))
  | f+1,k,h1,hf,hG=>by
    rw[xtc];refine xfb (c _ _ (a.lt k (by omega)) (a.lt (k-1) (by omega)) _ ?_);cases e:lt (g p k) (g p (k-1)) with
    | true =>
      show KasT.kasWp cmp (kas_desc f p (k+1) 0) G s;refine xl0 o c a f (k+1) (by omega) (by omega) fun m hm hm2 h3=>hG m (by omega) (by omega) fun i hi hi2=>?_;by_cases z:i=k
      . rw[z]; exact e
      . exact h3 i (by omega) hi2
    | false =>
      refine xfb (c _ _ (a.lt (k-1) (by omega)) (a.lt k (by omega)) _ ?_);have ne:g p k≠g p (k-1):=fun z=>by have:=a.inj _ _ (by omega) (by omega) z; omega
      rw[show lt (p.getD (k-1) 0) (p.getD k 0)=true from o.tot _ _ (a.lt k (by omega)) (a.lt (k-1) (by omega)) ne e];exact xcl (hG k (Zj _) (by omega) (fun i h h'=>by omega))
theorem Arr.rev {p:Array Nat} (a:Arr n p) {k:Nat} (hk:k<=n):Arr n (kas_rev p 0 k)/\∀ i,i<n->g (kas_rev p 0 k) i=if i<k then g p (k-1-i) else g p i:=by
 have ge:∀ i,i<n->g (kas_rev p 0 k) i=if i<k then g p (k-1-i) else g p i:=fun i hi=>by
  have z:=getElem?_mirror_all (xs:=p) (i:=0) (j:=k) (by rw[a.sz]; exact hk) i;by_cases c:i<k
  .rw [if_pos c];rw[if_pos ⟨ZZ _,c⟩,show 0+k-1-i=k-1-i by omega,a.at (show k-1-i<n by omega)] at z;exact g_at z
  .rw [if_neg c];rw[if_neg (fun w=>c w.2),a.at hi] at z;exact g_at z
 refine⟨⟨by rw[kas_rev_size,a.sz],fun i hi=>?_,fun i j hi hj e=>?_,(mirror_perm _ _ _ _).trans a.pm⟩,ge⟩
 .rw [ge i hi];split<;>exact a.lt _ (by omega)
 .rw [ge i hi,ge j hj] at e;split at e<;>split at e<;>have:=a.inj _ _ (by omega) (by omega) e<;>omega
theorem xpw (o:Ord n lt) (c:Cmp n lt cmp s) {p:Array Nat} (a:Arr n p) (h2:2<=n) {G:Nat × Array Nat->Shared->Prop}
    (hG:∀ m p',1<=m->m<=n->Arr n p'->Srtd lt p' m->G (m,p') s):KasT.kasWp cmp (kas_count n p) G s:=by
  unfold kas_count;rw[KasT.kasWp_bind];have up:∀ q,Arr n q->∀ i,1<=i->i<n->lt (g q i) (g q (i-1))=false->lt (g q (i-1)) (g q i)=true:=fun q b i h1 hi e =>
    o.tot _ _ (b.lt i hi) (b.lt (i-1) (by omega)) (fun z=>by have:=b.inj _ _ hi (by omega) z; omega) e
  refine xkl c a (n-1) 1 (Zj _) (by omega) fun m hm hm2 h3 h4=>?_;have sm:Srtd lt p m:=xln o a (by omega) fun i hi hi2=>up p a i hi (by omega) (h3 i hi hi2);show KasT.kasWp cmp (if (m == n)=true then _ else _) G s;by_cases e1:m=n
  . rw[if_pos (by simpa using e1)]
    exact xcl (hG m p hm (by omega) a sm)
  . rw[if_neg (by simpa using e1)]
    by_cases e2:m>1
    . rw[if_pos e2]
      refine xfb (c _ _ (a.lt 0 (by omega)) (a.lt (m-1) (by omega)) _ ?_);rw[show lt (p.getD 0 0) (p.getD (m-1) 0)=true from sm 0 (m-1) (by omega) (by omega)];exact xcl (hG m p hm (by omega) a sm)
    . rw[if_neg e2]
      have m1:m=1:=by omega
      subst m1;have d1:=h4 (by omega);unfold kas_descPart;rw[KasT.kasWp_bind];refine xl0 o c a (n-(1+1)) (1+1) (by omega) (by omega) fun k hk hk2 h5=>?_;show KasT.kasWp cmp (if (0:Nat)>0 then _ else kas_tail3 k n p) G s;rw[if_neg (Y1 0)];unfold kas_tail3;rw[KasT.kasWp_bind];obtain⟨b,ge⟩:=a.rev (k:=k) (by omega);refine xkl c b (n-k) k (by omega) (by omega) fun m' hm' hm2' h6 _=>?_;refine xcl (hG m' _ (by omega) (by omega) b (xln o b (by omega) fun i hi hi2=>?_));by_cases ik:i<k
      . rw[ge i (by omega),ge (i-1) (by omega),if_pos ik,if_pos (by omega)]
        have e3:k-1-(i-1)-1=k-1-i:=by omega
        by_cases z:k-1-(i-1)=1
        . have z':k-1-i=0:=by omega
          rw[z,z'];exact d1
        . have:=h5 (k-1-(i-1)) (by omega) (by omega)
          rw[e3] at this;exact this
      . exact up _ b i hi (by omega) (h6 i (by omega) hi2)
theorem xgk (o:Ord n lt) (c:Cmp n lt cmp s) {p:Array Nat} (a:Arr n p) {k:Nat} (hk:k<n) (sk:Srtd lt p k) {G:Nat->Shared->Prop}:∀(f l r:Nat),l<=r->r<=k->r-l<=f ->
    (∀ j,j<l->lt (g p k) (g p j)=false)->(∀ j,r<=j->j<k->lt (g p k) (g p j)=true) ->
    (∀ m,m<=k->(∀ j,j<m->lt (g p k) (g p j)=false)->(∀ j,m<=j->j<k->lt (g p k) (g p j)=true)->G m s)->KasT.kasWp cmp (kas_place p k f l r) G s
  | 0,l,r,h1,h2,h3,lo,hi,hG=>by
    rw[xse];exact xcl (hG l (by omega) lo fun j hj hj2=>hi j (by omega) hj2)
  | f+1,l,r,h1,h2,h3,lo,hi,hG=>by
    rw[xr1];by_cases e:l>=r
    . rw[if_pos e]
      exact xcl (hG l (by omega) lo fun j hj hj2=>hi j (by omega) hj2)
    . rw[if_neg e]
      have m1:(l+r) / 2<r:=by omega
      have m2:l<=(l+r) / 2:=by omega
      refine xfb (c _ _ (a.lt k hk) (a.lt _ (by omega)) _ ?_);cases e2:lt (g p k) (g p ((l+r) / 2)) with
      | true =>
        show KasT.kasWp cmp (kas_place p k f l ((l+r) / 2)) G s;refine xgk o c a hk sk f l _ m2 (by omega) (by omega) lo (fun j hj hj2=>?_) hG;by_cases z:j=(l+r) / 2
        . rw[z]; exact e2
        . exact o.tr _ _ _ (a.lt k hk) (a.lt _ (by omega)) (a.lt _ (by omega)) e2 (sk _ _ (by omega) hj2)
      | false =>
        show KasT.kasWp cmp (kas_place p k f ((l+r) / 2+1) r) G s;refine xgk o c a hk sk f _ r (by omega) h2 (by omega) (fun j hj=>?_) hi hG;by_cases z:j=(l+r) / 2
        . rw[z]; exact e2
        . cases e3:lt (g p k) (g p j) with
          | false=>rfl
          | true =>
            have:=o.tr _ _ _ (a.lt k hk) (a.lt _ (by omega)) (a.lt _ (by omega)) e3 (sk j ((l+r) / 2) (by omega) (by omega));rw[e2] at this;cases this
theorem Arr.bub {p:Array Nat} (a:Arr n p) {k m:Nat} (hk:k<n) (hm:m<=k):Arr n (bubble p k (k-m))/\∀ i,i<n->g (bubble p k (k-m)) i=if i=m then g p k else if m<i/\i<=k then g p (i-1) else g p i:=by
 have ge:∀ i,i<n->g (bubble p k (k-m)) i=if i=m then g p k else if m<i/\i<=k then g p (i-1) else g p i:=fun i hi=>by
  have z:=getElem?_bubble (xs:=p) (src:=k) (by rw[a.sz]; exact hk) (k-m) (by omega) i;rw[show k-(k-m)=m by omega] at z;by_cases c:i=m
  .rw [if_pos c];rw[if_pos c,a.at hk] at z;exact g_at z
  .rw [if_neg c];rw[if_neg c] at z;by_cases d:m<i/\i<=k
   .rw [if_pos d];rw[if_pos d,a.at (show i-1<n by omega)] at z;exact g_at z
   .rw [if_neg d];rw[if_neg d,a.at hi] at z;exact g_at z
 refine⟨⟨by rw[bubble_size,a.sz],fun i hi=>?_,fun i j hi hj e=>?_,(bubble_perm _ _ _).trans a.pm⟩,ge⟩
 .rw [ge i hi];split
  .exact a.lt _ hk
  .split<;>exact a.lt _ (by omega)
 .rw [ge i hi,ge j hj] at e;split at e<;>(try split at e)<;>(try split at e)<;>(try split at e)<;>first|omega|(have:=a.inj _ _ (by omega) (by omega) e; omega)
theorem xm2 (o:Ord n lt) (c:Cmp n lt cmp s) {G:Array Nat->Shared->Prop}:∀(f k:Nat) (p:Array Nat),k+f=n->Arr n p->Srtd lt p k->(∀ p',Arr n p'->Srtd lt p' n->G p' s)->KasT.kasWp cmp (kas_bin f p k) G s
 | 0,k,p,h,a,sk,hG=>by
  rw[xu4];have:k=n:=by omega
  subst this;exact xcl (hG p a sk)
 | f+1,k,p,h,a,sk,hG=>by
  have hk:k<n:=by omega
  rw[xvb,KasT.kasWp_bind];refine xgk o c a hk sk k 0 k (ZZ _) (Zj _) (by omega) (fun j hj=>by omega) (fun j hj hj2=>by omega) fun m hm lo hi=>?_;obtain⟨b,ge⟩:=a.bub hk hm;refine xm2 o c f (k+1) _ (by omega) b (fun i j hij hj=>?_) hG;have inS:∀ i,i<m->lt (g p i) (g p k)=true:=fun i hi'=>o.tot _ _ (a.lt k hk) (a.lt i (by omega)) (fun z=>by have:=a.inj _ _ hk (by omega) z; omega) (lo i hi');have g1:∀ i,i<n->i=m->g (bubble p k (k-m)) i=g p k:=fun i hi z=>by rw[ge i hi,if_pos z]
  have g2:∀ i,i<n->m<i->i<=k->g (bubble p k (k-m)) i=g p (i-1):=fun i hi z z2=>by rw[ge i hi,if_neg (by omega),if_pos ⟨z,z2⟩]
  have g3:∀ i,i<n->i<m->g (bubble p k (k-m)) i=g p i:=fun i hi z=>by rw[ge i hi,if_neg (by omega),if_neg (by omega)]
  by_cases j1:j=m
  .rw [g1 j (by omega) j1,g3 i (by omega) (by omega)];exact inS i (by omega)
  .by_cases i1:i=m
   .rw [g1 i (by omega) i1,g2 j (by omega) (by omega) (by omega)];exact hi (j-1) (by omega) (by omega)
   .by_cases j2:m<j
    .rw [g2 j (by omega) j2 (by omega)];by_cases i2:m<i
     .rw [g2 i (by omega) i2 (by omega)];exact sk _ _ (by omega) (by omega)
     .rw [g3 i (by omega) (by omega)];by_cases z:i=j-1
      .omega
      .exact sk _ _ (by omega) (by omega)
    .rw [g3 j (by omega) (by omega),g3 i (by omega) (by omega)];exact sk _ _ hij (by omega)
theorem xob:Arr n (Zz n).toArray:=by
 have e:∀ i,i<n->g (Zz n).toArray i=i:=fun i hi=>g_at (by rw[List.getElem?_toArray,Ju hi]);exact⟨by simp,fun i hi=>by rw[e i hi]; exact hi,fun i j hi hj z=>by rw[e i hi,e j hj] at z; exact z,Array.Perm.refl _⟩
theorem sort_wp (o:Ord n lt) (c:Cmp n lt cmp s) (h2:2<=n) {G:Array Nat->Shared->Prop} (hG:∀ p,Arr n p->Srtd lt p n->G p s):KasT.kasWp cmp (kas_sort n) G s:=by
 unfold kas_sort;rw[KasT.kasWp_bind];refine xpw o c xob h2 fun m p hm hm2 a sm=>?_;show KasT.kasWp cmp (if m<n then _ else _) G s;by_cases e:m<n
 .rw [if_pos e];show KasT.kasWp cmp (kas_bin (n-max m 1) p (max m 1)) G s;rw[Nat.max_eq_left hm];exact xm2 o c (n-m) m p (by omega) a sm hG
 .rw [if_neg e];have:m=n:=by omega
  subst this;exact xcl (hG p a sm)
end
end Srt
namespace XL
open PySem
def Xat (h:Heap) (e:Addr) (cls:Value) (od tb:Option Addr):Prop :=
 ∃ oe vs,h.get? e=some oe/\oe.cls=cls/\oe.dict=od/\oe.data=.fields vs/\1<vs.size /\
  ((tb=none/\vs[1]?=some Jd)\/∃ T oT ts,tb=some T/\vs[1]?=some (.ref T)/\T≠e/\h.get? T=some oT/\oT.data=.fields ts/\ts[3]?=some Jd)
end XL
namespace XL
open PySem PySem.W PySem.Calls PyProof.Rows Builtin Builtin.ObjectAttr
def vErr:List Value:=[.type "ValueError",.type "Exception",.type "BaseException",.type "object"]
def xf8:List Value->Bool
 | []=>false
 | .ref c::r=>xf8 r||((.ref c::r:List Value) == vErr)
 | v::r=>(v::r) == vErr
def xs0 (K:Frag) (C:Addr):Bool:=(clsIn K C).any fun cd=>xf8 cd.mro
theorem xg0:∀{l:List Value},xf8 l=true->l.contains (.type "object")=true/\l.contains (.type "BaseException")=true/\l.isEmpty=false
 | [],e=>by cases e
 | v::r,e=>by
  have last:((v::r:List Value) == vErr)=true->(v::r).contains (.type "object")=true/\(v::r).contains (.type "BaseException")=true/\(v::r).isEmpty=false:=fun z=>by
   rw[eq_of_beq z];exact⟨by decide +kernel,by decide +kernel,rfl⟩
  cases v with
  | ref c =>
   rcases Bool.or_eq_true_iff.mp e with z|z
   .obtain ⟨a,b,_⟩:=xg0 z;exact⟨by rw[List.contains_cons,a,Ys],by rw[List.contains_cons,b,Ys],rfl⟩
   .exact last z
  | _=>exact last e
structure XC (K:Frag) (C:Addr):Prop where
 over:xs0 K C=true
 hd:hasDictIn K C=true
 sa:findIn K (.ref C) "__setattr__"=some (some (.builtin "object.__setattr__"))
 ga:findIn K (.ref C) "__getattribute__"=some (some (.builtin "BaseException.__getattribute__"))
 gh:findIn K (.ref C) "__getattr__"=some none
 ca:findIn K (.ref C) "__class__"=some (some (.builtin "object.__class__"))
 cg:specialIn K (.builtin "object.__class__") "__get__"=some (some (.builtin "getset_descriptor.__get__"))
 ct:takesIn K (.builtin "object.__class__")=some true
section
variable {prog:Program}{w:World}{A:Around}{E:Value->Shared->Prop}{s:Shared}{K:Frag}{x C dx:Addr}{ox:Obj}{od:Option Obj}{name:Str}{v:Value}{R:Result->Shared->Prop}
theorem XC.mro (c:XC K C):∃ cd,clsIn K C=some cd/\xf8 cd.mro=true/\cd.hasDict=true:=by
 obtain⟨cd,h1,h2⟩:=any_some c.over;obtain⟨cd',h3,h4⟩:=any_some c.hd;rw[h1] at h3;cases h3;exact⟨cd,h1,h2,h4⟩
theorem XC.isObj (c:XC K C):mroIn K C (.type "object")=some true:=by
 obtain⟨cd,h1,h2,_⟩:=c.mro;obtain⟨a,_,b⟩:=xg0 h2;unfold mroIn;rw[h1,Qo,if_neg (by rw[b]; decide),a]
theorem XC.isExc (c:XC K C):mroIn K C (.type "BaseException")=some true:=by
 obtain⟨cd,h1,h2,_⟩:=c.mro;obtain⟨_,a,b⟩:=xg0 h2;unfold mroIn;rw[h1,Qo,if_neg (by rw[b]; decide),a]
theorem xrx (v:Value):bindSpecial (.builtin "BaseException.__getattribute__") v=pure (.builtin "BaseException.__getattribute__",[v]):=by
 have f:=PySem.F.attr_ValueError.ga.bind v;exact f
theorem xpd:plainId "BaseException.__getattribute__"=true:=PySem.F.attr_ValueError.ga.plain
theorem xtt {Q:Value->Shared->Prop}{expr fill:Bool}{tk:Tok} (X:K.In s.heap) (c:XC K C) (I:InstAt s.heap x ox C od)
    (h:wpAny (model prog w) A.in1 (Builtin.«object.__getattribute__» ⟨[.ref x,.str name tk],[]⟩)
      (fun fin s'=>match fin with|.done (.ret v)=>wpAny (model prog w) A (handedOut v) Q E s'|_=>False) (fun _ _=>False) s) :
    wpAny (model prog w) A (getAttrBy (.ref x) (.str name tk) fill expr) Q E s:=by
  obtain⟨hh,g,d,t,os⟩:=s;have L0:=I.type (M:=model prog w);have L1:=looks_findIn (M:=model prog w) X c.ga;have L2:=looks_findIn (M:=model prog w) X c.gh;have sub:Looks (model prog w) hh (isInstance (.ref x) (.type "BaseException")) true:=I.type.andThen (looks_mroIn X c.isExc);have f2:(onTheHeap (Zn C)&&Yi "BaseException.__getattribute__" == Yi "object.__getattribute__")=false:=by
    rw[show (Yi "BaseException.__getattribute__" == Yi "object.__getattribute__")=false from by decide +kernel]; rfl
  have f3:(expr&&onTheHeap (Yi "BaseException.__getattribute__"))=false:=by cases expr<;>rfl
  unfold getAttrBy;refine J4 (Zc (L0.at (Zc (L1.at ?_))))
  dsimp only
  rw[f2];simp only[Jo,if_false];unfold getAttrByItsOwn hookBefore;refine Zc (L2.at (Zc (JZ (J4 ?_))));unfold callGetattribute;rw[f3];simp only[Jo,if_false];unfold boundAndCalled;rw[xrx];refine Zc (Zm (wpAny_call (codeAny_call_builtin xpd PySem.F.entry_bexc_ga
    (@check_slot (model prog w) _ _ ⟨hh,g,d,t,os⟩ "BaseException.__getattribute__" "BaseException" "__getattribute__" (.ref x) [.str name tk] [] _ (by decide +kernel) (by decide +kernel) sub (PySem.F.args_bexc_ga _ _) ?_))))
  refine ZY h (fun fin s' z=>?_) fun e s' z=>z.elim;rcases fin with (_|_|_|_)|_<;>first|exact z|exact z.elim
theorem xpq {Q:Option Value->Shared->Prop} (X:K.In s.heap) (c:XC K C) (I:InstAt s.heap x ox C od) (h:Q (some (.ref C)) { s with toks:=s.toks+1 }) :
    wpAny (model prog w) A (getAttr? (.ref x) "__class__") Q E s:=by
  obtain⟨cd,h1,_,h2⟩:=c.mro;have hf:findObj K C od "__class__"=some (.bind (.builtin "getset_descriptor.__get__") (.builtin "object.__class__")):=by
    unfold findObj;rw[h1,Qo,c.ca,Qo];simp[c.cg,c.ct]
  unfold getAttr? getAttrBy?;refine Zc (wpAny_mkText (Zc (JZ ?_)));refine xtt (s:={ s with toks:=s.toks+1 }) X c I ?_;have L0:=I.type (M:=model prog w);have L1:=looks_find (M:=model prog w) X I hf;refine Zc (Zm (Zc (Zm (Zc (L0.here (s:={ s with toks:=s.toks+1 }) (Zc (L1.here (s:={ s with toks:=s.toks+1 }) ?_)))))));show wpAny _ _ (holding [_] (call _ [_,.ref x,.ref C])>>=ret) _ _ _;refine Zc (J4 (wpAny_call (class_get (s:={ s with toks:=s.toks+1 }) (ox:=ox) (od:=od) X I c.isObj ?_)));refine Zm ?_;show wpAny _ _ (handedOut (.ref C)) _ _ _;exact Zm (Zm h)
end
end XL
namespace XL
open PySem
end XL
namespace L2
open PySem PySem.Spec PyProof.Rows XL
variable {q0:Bool}
def XO (e C:Addr) (od:Option Addr):HO:=.ext fun h=>∃ ox vs,h.get? e=some ox/\ox.cls=.ref C/\ox.dict=od/\ox.data=.fields vs
def XD (dx:Addr) (fs:List (Str × V)):HO:=.ext fun h=>fs.length<=1000/\∃ mA,h.Ns1 dx mA/\(∀ f,RelO (fs.lookup f) (mA f))/\Qy mA (fs.map (·.1))
def CXo (P:Program) (w:World):CXT:=fun outer H s E u s'=>∃ e C od H' T,u=.ref e/\s'.os=s.os/\AllBare s'.gens/\Un (frs outer) [] H H' s.heap s'.heap/\HOk P w H' s'.heap /\
 Xat s'.heap e (.ref C) od (some T)/\H' e=some (XO e C od)/\s.heap.objs.size<=T/\H' T=none/\E e C H'
section
variable {X:Cx}{pins:List (Addr × Obj)}{σ:St}{H:Hp}{s:Shared}{e C:Addr}{od tb:Option Addr}
theorem Inv.size_lt (I:Inv X pins σ H s) {b:Addr} (h:s.heap.objs.size<=b):H b=none/\b≠X.env.locals/\(∀ x c,X.env.cells.lookup x=some c->c≠b)/\∀ p∈X.pn++pins,p.1≠b:=by
 refine⟨I.hok.fresh h,fun z=>?_,fun x c hc z=>?_,fun p hp z=>?_⟩
 .rw [z] at h;exact absurd I.lt (QU.mpr h)
 .obtain ⟨v,o,ho,_⟩:=I.cell x c hc;rw[z] at ho;exact absurd (Zq ho) (QU.mpr h)
 .have g:=(I.pin p hp).1;rw[z] at g;exact absurd (Zq g) (QU.mpr h)
theorem xg:xdy (CXo X.prog X.w) X (fun _ _ _ _=>False):=fun pins σ H s u s' I h=>by
 obtain⟨e,C,od,H',T,_,_,_,_,_,_,_,_,_,q⟩:=h;exact q.elim
end
end L2
namespace XL
open PySem PySem.W
end XL
namespace L2
open PySem PySem.Spec PyProof.Rows XL
variable {q0:Bool}
section
variable {X:Cx}{pins:List (Addr × Obj)}{σ:St}{H:Hp}{s:Shared}{a C dx:Addr}{od:Option Addr}{fs:List (Str × V)}{f:Str}{v y:V}{u:Value}{A:Around}{E:Value->Shared->Prop}
theorem xvp (I:Inv X pins σ H s) (e:H a=some (XO a C od)):∃ ox vs,s.heap.get? a=some ox/\ox.cls=.ref C/\ox.dict=od/\ox.data=.fields vs:=(I.hok a _ e).1
theorem xqu (I:Inv X pins σ H s) (e:H dx=some (XD dx fs)):fs.length<=1000/\∃ mA,s.heap.Ns1 dx mA/\(∀ f,RelO (fs.lookup f) (mA f))/\Qy mA (fs.map (·.1)):=(I.hok dx _ e).1
theorem xjp {o:Obj}{vs:Array Value} (d:o.data=.fields vs):PySem.W.notCls o=true:=by
 unfold PySem.W.notCls;rw[d]
end
end L2
namespace XL
open PySem PySem.W
end XL
namespace L2
open PySem PySem.Spec PyProof.Rows XL
variable {q0:Bool}
end L2
namespace XL
open PySem PySem.W
theorem xm1 {K:Frag}{x C:Addr} (c:XC K C):KitX K (.ref x) (.ref C) (fun h=>∃ ox od,InstAt h x ox C od) where
 ty:=fun _ _ _ ⟨_,_,I⟩=>I.type
 it:=fun _ _ X _=>by
  obtain⟨cd,hc,_,_⟩:=c.mro;unfold clsIn at hc;split at hc
  .rename_i c' d' cd' sl' ho
   intro A' Q' E' s' k q;unfold isType loadHead;exact Zc (wpAny_loadPart (k _ _ (X _ _ ho)) (Zm q))
  .cases hc
 ne:=fun h tp dd its n sl X htp=>by
  obtain⟨cd,hc,_,_⟩:=c.mro;refine Jk.mpr fun q=>?_;have e:C=tp:=Zn.inj (beq_iff_eq.mp q);subst e;unfold clsIn at hc;split at hc
  .rename_i c' d' cd' sl' ho
   have z:=(X _ _ ho).symm.trans htp;cases z
  .cases hc
 ca:=fun X ⟨ox,od,I⟩ k=>xpq X c I k
end XL
namespace L2
open PySem PySem.Spec PyProof.Rows XL
variable {q0:Bool}
def clsV:V->Option Value
 | .ty n=>some (.type n)
 | .ref a=>some (.ref a)
 | _=>none
theorem xgo {c:V}{u cv:Value} (e:clsV c=some cv) (r:RelV c u):u=cv:=by
 cases c<;>first|(cases e; exact r)|cases e
def xmk:List V->Option (List Value)
 | []=>some []
 | c::r=>(clsV c).bind fun a=>(xmk r).map (a::·)
theorem xi1:∀{cs:List V}{us cv:List Value},xmk cs=some cv->Vals cs us->us=cv
 | [],_,_,e,.nil=>by cases e; rfl
 | c::r,_,_,e,.cons rc rr=>by
  obtain⟨a,e1,e2⟩:=Option.bind_eq_some_iff.mp e;obtain⟨b,e3,rfl⟩:=Zi.mp e2;rw[xgo e1 rc,xi1 e3 rr]
section
variable {X:Cx}{pins:List (Addr × Obj)}{σ:St}{H:Hp}{s:Shared}{A:Around}{E:Value->Shared->Prop}{Q:Value->Shared->Prop}
theorem xlo {a C:Addr}{od:Option Addr} (I:Inv X pins σ H s) (h:H a=some (XO a C od)) (hd:∀ d,od=some d->∃ o,s.heap.get? d=some o):∃ ox odx,PySem.W.InstAt s.heap a ox C odx:=by
 obtain⟨ox,vs,g,ce,oo,de⟩:=xvp I h;cases e:od with
 | none=>exact⟨ox,none,g,ce,xjp de,by rw[oo,e]; trivial⟩
 | some d =>
  obtain⟨o,go⟩:=hd d e;exact⟨ox,some o,g,ce,xjp de,by rw[oo,e]; exact go⟩
end
def xvy (K:Ze):List V->Hp->VK->Prop:=fun xs H Q=>∃ x c,xs=[x,c]/\((∃ t cv b,TyOf K H x t/\clsV c=some cv/\QE K t cv=some b/\Q (.bl b) H) \/
 (∃ a C od cv b,x=.ref a/\H a=some (XO a C od)/\(∀ d,od=some d->∃ fs,H d=some (XD d fs))/\XC K C/\clsV c=some cv/\QE K (.ref C) cv=some b/\Q (.bl b) H) \/
 (∃ a C od p cs cv b,x=.ref a/\H a=some (XO a C od)/\(∀ d,od=some d->∃ fs,H d=some (XD d fs))/\XC K C/\c=.ref p/\SqT K H p cs/\xmk cs=some cv/\PySem.W.kitAny K (.ref C) cv=some b/\Q (.bl b) H))
section
variable {X:Cx}
theorem xb4:xbx X (.builtin "isinstance") (xvy X.K):=by
 intro pins s σ H us xs Q I r h;obtain⟨x,c,rfl,h⟩:=h;obtain⟨u,v,rfl,ru,rv⟩:=xja r;rcases h with⟨t,cv,b,ty,ec,ek,q⟩|⟨a,C,od,cv,b,rfl,ha,hd,xc,ec,ek,q⟩|⟨a,C,od,p,cs,cv,b,rfl,ha,hd,xc,rfl,hp,ec,ek,q⟩
 .obtain rfl:=xgo ec rv;exact xoy I ru ty ek fun tk=>⟨.bl b,H,I.tok tk,rfl,q⟩
 .obtain rfl:=xgo ec rv;obtain rfl:u=Zn a:=ru;refine Jr (xm1 xc) I.kIn (xlo I ha fun d e=>?_) ek (fun z=>nomatch z) fun tk=>⟨.bl b,H,I.tok tk,rfl,q⟩
  obtain⟨fs,hw⟩:=hd d e;obtain⟨_,_,⟨o,_,_,go,_⟩,_⟩:=xqu I hw;exact⟨o,go⟩
 .obtain rfl:u=Zn a:=ru;obtain rfl:v=Zn p:=rv;obtain⟨its,vi,it,_⟩:=I.tuple hp;obtain rfl:=xi1 ec vi;obtain⟨o,g,oc,n,od'⟩:=it;obtain⟨c1,d1,dt1,sl1⟩:=o
  dsimp only at oc od'
  subst oc od';refine PySem.W.kia_tup (xm1 xc) I.kIn (xlo I ha fun d e=>?_) g ek (fun z=>nomatch z) fun tk=>⟨.bl b,H,I.tok tk,rfl,q⟩
  obtain⟨fs,hw⟩:=hd d e;obtain⟨_,_,⟨o,_,_,go,_⟩,_⟩:=xqu I hw;exact⟨o,go⟩
end
def xc3 (scope:Scope):List Str:=(scope.names.filter fun x=>x.2 == .free).map (·.1)
def Cx.clo (X:Cx) (scope:Scope):List (Str × Addr):=(xc3 scope).reverse.map fun n=>(n,(X.env.cells.lookup n).getD 0)
theorem xhi {env:Env}{f:Str->Addr}:∀(l:List (Str × NameKind)) (acc:List (Str × Addr)),(∀ x∈l,x.2=.free->env.cells.lookup x.1=some (f x.1)) ->
    (forIn l acc fun x cs=>(if x.2 == .free then do let c <- cellOf env x.1; pure (JJ ((x.1,c)::cs)) else pure (JJ cs):Sem (ForInStep (List (Str × Addr))))) =
      pure ((((l.filter fun x=>x.2 == .free).map (·.1)).reverse.map fun n=>(n,f n))++acc)
  | [],acc,_=>rfl
  | x::r,acc,h=>by
    have ih:=fun a=>xhi r a fun y hy=>h y (Z1 _ hy);rw[List.forIn_cons];by_cases q:x.2=.free
    . have e:=h x Z0 q
      have qb:(x.2 == QS)=true:=by rw[q]; rfl
      rw[if_pos qb,JP,if_pos qb];have ec:cellOf env x.1=pure (f x.1):=by unfold cellOf; rw[e]
      rw[ec];simp only[pure_bind];rw[ih];simp
    . have qb:(x.2 == QS)=false:=by simpa using q
      rw[if_neg (by rw[qb]; decide),JP,if_neg (by rw[qb]; decide)];simp only[pure_bind];rw[ih]
theorem xoq {X:Cx}{scope:Scope} (h:∀ n∈xc3 scope,∃ c,X.env.cells.lookup n=some c):closureFor scope X.env=pure (X.clo scope):=by
 unfold closureFor;have z:=xhi (env:=X.env) (f:=fun n=>(X.env.cells.lookup n).getD 0) scope.names [] fun x hx hf=>by
  obtain⟨c,e⟩:=h x.1 (Zd.mpr ⟨x,ZH.mpr ⟨hx,by simp[hf]⟩,rfl⟩);rw[e];rfl
 rw[Yh] at z;refine (bind_pure (m:=Sem) _).trans ?_;exact z
theorem xrl {X:Cx}{scope:Scope}{n:Str}{c:Addr} (h:(X.clo scope).lookup n=some c):n∈xc3 scope/\c=(X.env.cells.lookup n).getD 0:=by
 have z:=J9 h;unfold Cx.clo at z;obtain⟨y,hy,e⟩:=Zd.mp z;injection e with e1 e2
 subst e1;exact⟨Qp.mp hy,e2.symm⟩
theorem xd6 {f:Str->Addr}{n:Str}:∀{l:List Str},n∈l->(l.map fun y=>(y,f y)).lookup n=some (f n)
 | [],h=>by simp at h
 | y::r,h=>by
  rw[Zr,Z2];by_cases q:n=y
  .subst q;simp
  .rw [show (n == y)=false from by simpa using q];exact xd6 ((Zx.mp h).resolve_left q)
theorem xlz {X:Cx}{scope:Scope}{n:Str}{c:Addr} (hn:n∈xc3 scope) (h:X.env.cells.lookup n=some c):(X.clo scope).lookup n=some c:=by
 have z:=xd6 (f:=fun n=>(X.env.cells.lookup n).getD 0) (Qp.mpr hn);unfold Cx.clo;rw[z,h];rfl
def xdd:TT:=fun _ H Q=>Q true H
def PIf (X:Cx) (ifs:List Expr) (t:TT):Prop :=
 ∀(pins:List (Addr × Obj)) (s:Shared) (σ:St) (H:Hp) (Q:Bool->Hp->Prop),Inv X pins σ H s->t σ H Q ->
  wpAny (model X.prog X.w) X.A (forIn ifs true fun c r=>if r=true then do let ok <- isTrue c X.env (eval c X.env); pure (JJ ok) else pure (JJ r)) (TP X pins σ Q) X.xe s
theorem xa5 {X:Cx}:PIf X [] xdd:=fun pins s σ H Q I h=>Zm ⟨H,I,h⟩
theorem xhz {X:Cx}{c:Expr}{t:TT} (hc:PT X c t):PIf X [c] t:=fun pins s σ H Q I h=>by
 rw[List.forIn_cons];refine Zc ?_;rw[if_pos rfl];refine Zc (ZY (hc pins s σ H Q I h) (fun b s1 q=>Zm ?_) fun _ _ z=>z);exact Zm q
theorem xnq {env:Env}{scope:Scope} (nc:∀ y∈scope.names,y.2≠.cell) (n:Str) (h:(relabel scope env).names.lookup n=some .cell\/(relabel scope env).names.lookup n=some .free):n∈xc3 scope:=by
 have key:∀ k,(relabel scope env).names.lookup n=some k->(k=.cell\/k=.free)->n∈xc3 scope:=fun k e hk=>by
  obtain⟨y,hy,ey⟩:=Zd.mp (J9 e);obtain⟨m,j⟩:=y
  dsimp only at ey
  split at ey
  .rename_i q
   injection ey with e1 e2
   subst e1;have:j=.free:=by
    simp only[Zy,beq_iff_eq] at q;exact q.1.1
   subst this;exact Zd.mpr ⟨_,ZH.mpr ⟨hy,by simp⟩,rfl⟩
  .injection ey with e1 e2
   subst e1 e2;rcases hk with z|z
   .exact absurd z (nc _ hy)
   .subst z;exact Zd.mpr ⟨_,ZH.mpr ⟨hy,by simp⟩,rfl⟩
 rcases h with h|h
 .exact key _ h (.inl rfl)
 .exact key _ h (.inr rfl)
theorem xmj {env:Env}{scope:Scope}{n:Str} (h:scope.names.lookup n=some .free):(relabel scope env).names.lookup n=some .cell\/(relabel scope env).names.lookup n=some .free:=by
  have key:∀(l:List (Str × NameKind)),l.lookup n=some .free->(l.map fun (m,k)=>if (k == QS&&env.scope.kind == .function&&env.kindOf m == some .cell) then (m,NameKind.cell) else (m,k)).lookup n=some .cell \/
      (l.map fun (m,k)=>if (k == QS&&env.scope.kind == .function&&env.kindOf m == some .cell) then (m,NameKind.cell) else (m,k)).lookup n=some .free:=fun l=>by
    induction l with
    | nil=>intro e; simp at e
    | cons y r ih =>
      intro e;obtain⟨m,k⟩:=y;rw[Zr];rw[Z2] at e;cases q:n == m with
      | true =>
        rw[q] at e;cases e
        dsimp only
        split
        . left; rw[Z2,q]
        . right; rw[Z2,q]
      | false =>
        rw[q] at e;have z:=ih e
        dsimp only
        split<;>(rw[Z2,q]; exact z)
  exact key _ h
section
variable {P:Program}{w:World}{K:Ze}{mg:Str->Option Value}{base:Heap}
theorem Fun.okn {x qual:Str}{st:Stmt}{f:Addr}{fd:FuncData}{N ps:List Str}{k:Nat}{sp:Sp} (F:Fun K x qual st f fd) (S:xt N ps (xm st)) (len:∀ vs H Q E,sp vs H Q E->vs.length=ps.length)
    (hbody:∀(cdv:Value) (A:Around) (outer:List Env) (s:Shared) (H:Hp) (vs:List V) (Q:VK) (E:XK),Room q0 k (A.deeper (envOfC qual (xm st) s.heap.objs.size f cdv))->sp vs H Q E ->
      ∃ t,PSs (cxOf q0 (CXo P w) P w K mg base N qual (xm st) f cdv A outer s H E).nox (xa7 st) t/\t { nx:=fun _ H'=>Q .non H',rt:=Q } (xdc N vs) H):FnOk q0 P w K mg base (CXo P w) (k+1) f fd ps sp:=by
  obtain⟨oc,od,kV,doc,pm,an,cdv,ct,osl,rfl,lk,hcd⟩:=F.ex;refine xmh lk hcd S len fun A outer s H vs Q E hr hsp=>?_;obtain⟨t,h,q⟩:=hbody cdv A outer s H vs Q E hr hsp;exact⟨t,h.nox,q⟩
end
end L2
namespace L2
open PySem PySem.Spec PyProof.Rows XL
theorem ifP {b:Bool}{A B:Prop} (h:b=true) (q:A):if b=true then A else B:=by
 rw[if_pos h];exact q
theorem ifN {b:Bool}{A B:Prop} (h:b=false) (q:B):if b=true then A else B:=by
 rw[if_neg (by rw[h]; decide)];exact q
def sgn (c:Nat):V:=.str ⟨#[c]⟩
theorem xlu {h h':Heap}{it:Addr}{ty:String}{x:Str}{t:Tok}{i:Nat} (y:h.IsStrIter it ty x t i) (k:∀ o,h.get? it=some o->h'.get? it=some o):h'.IsStrIter it ty x t i:=by
 obtain⟨o,ho,r⟩:=y;exact⟨o,k o ho,r⟩
section
variable {X:Cx}
theorem xd5:OpR X (compareOp .LtE) (fun x y H Q=>∃ i j,x=.str i/\y=.str j/\Q (.bl (!decide (j.cps.toList<i.cps.toList))) H):=by
 intro pins s σ H x y v u Q I rx ry h;obtain⟨i,j,rfl,rfl,q⟩:=h;obtain⟨t,rfl⟩:=rx;obtain⟨t',rfl⟩:=ry;exact PySem.P.le_str (xao I q rfl)
theorem xgg:xbx X (.type "range") (fun xs H Q=>∃ i j,xs=[.int i,.int j]/\∀ p,H p=none->Q (.ref p) (upd H p (.rng i j))):=by
 intro pins s σ H xs us Q I r h;obtain⟨i,j,rfl,q⟩:=h;obtain⟨u,w',rfl,⟨t,rfl⟩,⟨t',rfl⟩⟩:=xja r;refine call_range_2 ⟨.ref s.heap.objs.size,_,I.laid (t':=s.toks+1) (fun b o e=>Zg _ e) (Zj _) (show xau X.prog X.w _ _ _ (.rng i j) from ⟨_,_,_,Zu _ rfl⟩),rfl,q _ (I.hok.fresh (Zj _))⟩
end
end L2
namespace L2
open PySem PySem.Spec PyProof.Rows
variable {q0:Bool}
section
variable {X:Cx}
theorem xgd:∀{us:List Value}{ys:List V},us.length=ys.length->(∀(j:Nat) (y:V) (u:Value),ys[j]?=some y->us[j]?=some u->RelV y u)->Vals ys us
 | [],[],_,_=>.nil
 | u::us,y::ys,hl,h=>.cons (h 0 y u rfl rfl) (xgd (Nat.succ.inj hl) fun j y' u' e e'=>h (j+1) y' u' e e')
def rngL (lo hi:Int):List V:=(Zz (hi-lo).toNat).map fun (i:Nat)=>V.int (lo+(i:Int))
theorem xe5 (hc:X.calm=true):xbx X (.type "list") (fun xs H Q=>∃ p lo hi,xs=[.ref p]/\H p=some (.rng lo hi)/\(-(2 ^ 62)<=lo/\lo<2 ^ 62/\-(2 ^ 62)<=hi/\hi<2 ^ 62)/\(hi-lo).toNat<=1000 /\
    ∀ l,H l=none->Q (.ref l) (upd H l (.lst (rngL lo hi)))):=by
  intro pins s σ H xs us Q I r h;obtain⟨p,lo,hi,rfl,hp,⟨h1,h2,h3,h4⟩,hn,q⟩:=h;obtain⟨u,rfl,rx⟩:=xbr r;cases rx;obtain⟨t1,t2,t3,g⟩:=(show xau X.prog X.w H s.heap p (.rng lo hi) from I.hok p _ hp)
  refine call_list_range (I.ok.hd hc) g (small_one h1 h2 h3 h4) (n:=(hi-lo).toNat) (by rw[rangeSize_one]; split<;>omega) (ZB hn (by decide)) fun h' tk acc' c' kp e it=>?_;have len:acc'.toList.length=(rngL lo hi).length:=by rw[rngL,Za,Zv]; exact it.1
  refine⟨.ref s.heap.objs.size,_,I.laid (t':=tk) kp (Zj _) (show xau X.prog X.w _ h' _ (.lst (rngL lo hi)) from ⟨?_,acc'.toList,c',xgd len fun j y u ey eu=>?_,by simpa using e⟩),rfl,q _ (I.hok.fresh (Zj _))⟩
  . rw[rngL,Za,Zv]
    exact ZB hn (by decide)
  . have eu':acc'[j]?=some u:=by simpa using eu
    obtain⟨t,e2⟩:=it.2 j u eu';have lt:j<(hi-lo).toNat:=by
      have:=(Zk.mp ey).1;simpa [rngL] using this
    rw[rngL,Zf,Ju lt] at ey;cases ey;exact⟨t,by rw[e2,Int.mul_one]⟩
end
structure FunD (K:Ze) (x qual:Str) (st:Stmt) (T f:Addr) (fd:FuncData):Prop where
 ex:∃(oc:Value) (od:Option Addr) (kV doc pm:Value) (an:Option Addr) (cdv ct:Value) (osl:Array (Option Value)),
  fd=Ji x qual (xbf st) (xa7 st) (xm st) (.ref T) kV doc pm an cdv ct/\K.lookup f=some ⟨oc,od,.func fd,osl⟩/\YB K cdv qual=true
 kp:Jw K (.ref f)=true
section
variable {P:Program}{w:World}{K:Ze}{mg:Str->Option Value}{base:Heap}
theorem FunD.okn {x qual:Str}{st:Stmt}{T f:Addr}{fd:FuncData}{N ps:List Str}{k:Nat}{sp:Sp} (F:FunD K x qual st T f fd) (S:xt N ps (xm st)) (len:∀ vs H Q E,sp vs H Q E->vs.length=ps.length)
    (hbody:∀(cdv:Value) (A:Around) (outer:List Env) (s:Shared) (H:Hp) (vs:List V) (Q:VK) (E:XK),Room q0 k (A.deeper (envOfC qual (xm st) s.heap.objs.size f cdv))->sp vs H Q E ->
      ∃ t,PSs (cxOf q0 (CXo P w) P w K mg base N qual (xm st) f cdv A outer s H E).nox (xa7 st) t/\t { nx:=fun _ H'=>Q .non H',rt:=Q } (xdc N vs) H):FnOk q0 P w K mg base (CXo P w) (k+1) f fd ps sp:=by
  obtain⟨oc,od,kV,doc,pm,an,cdv,ct,osl,rfl,lk,hcd⟩:=F.ex;refine xmh lk hcd S len fun A outer s H vs Q E hr hsp=>?_;obtain⟨t,h,q⟩:=hbody cdv A outer s H vs Q E hr hsp;exact⟨t,h.nox,q⟩
theorem FunD.binds {x qual:Str}{st:Stmt}{T f:Addr}{fd:FuncData}{ps:List Str}{o:Obj}{items:Array Value}{n:Nat}{ds:List Value} (F:FunD K x qual st T f fd) (ho:K.lookup T=some o) (hs:o.data=.seq items n) (m:Nat) (hm:m+ds.length=ps.length)
    (h:∀(kV doc pm:Value) (an:Option Addr) (cdv ct:Value) (us:List Value),us.length=m ->
      ∃ k,bindArgs (Ji x qual (xbf st) (xa7 st) (xm st) (.ref T) kV doc pm an cdv ct) ⟨us,[]⟩=seqItems? (.ref T)>>=k/\k (some items)=pure (ps.zip (us++ds))):xv K fd ps ds:=by
  obtain⟨oc,od,kV,doc,pm,an,cdv,ct,osl,rfl,lk,hcd⟩:=F.ex;intro s us hK hl;rw[Zs] at hl;obtain⟨k,h1,h2⟩:=h kV doc pm an cdv ct us (by omega);exact BindsTo.of_defaults rfl (hK _ _ ho) hs h1 h2
theorem xh9 {x qual:Str}{st:Stmt}{T f:Addr}{oc:Value}{od an:Option Addr}{osl:Array (Option Value)}{kV doc pm cdv ct:Value} (l:K.lookup f=some ⟨oc,od,.func (Ji x qual (xbf st) (xa7 st) (xm st) (.ref T) kV doc pm an cdv ct),osl⟩)
    (c:YB K cdv qual=true) (k:Jw K (.ref f)=true):FunD K x qual st T f (Ji x qual (xbf st) (xa7 st) (xm st) (.ref T) kV doc pm an cdv ct):=⟨⟨oc,od,kV,doc,pm,an,cdv,ct,osl,rfl,l,c⟩,k⟩
end
end L2
namespace L2
open PySem PySem.Spec PyProof.Rows XL
variable {q0:Bool}
abbrev Cx.blkG (X:Cx) (scope:Scope) (zs:List Str) (ys:List Str) (C:Addr) (ex:List Addr) (s:Shared) (H:Hp) (pn:List (Addr × Obj)):Cx where
 prog:=X.prog
 w:=X.w
 K:=X.K
 mg:=X.mg
 base:=X.base
 A:=X.A
 N:=zs++ys
 s₀:=s
 H₀:=H
 env:=compEnvC scope (X.clo scope) C X.env
 outer:=X.stack
 stack:=X.stack
 ex:=ex
 fn:=fun _=>false
 calm:=X.calm
 pn:=pn
 xe:=fun _ _=>False
theorem xhp {prog:Program}{w:World}{A:Around}{R:Result->Shared->Prop}{s:Shared}{elt target iter:Expr}{ifs:List Expr}{scope:Scope}{pos:Pos}{it acc:Value}{env:Env} (I:Nat->Shared->Prop)
    (turn:∀ n s,I n s->wpAny (model prog w) A (pyNext it) (fun r s₁=>match r with
      | none=>R (.ok .next) s₁
      | some v=>wpAny (model prog w) A (letOwnedTupleGo target it v) (fun _ s₀=>wpAny (model prog w) A (assign target env v) (fun _ s₂ =>
          wpAny (model prog w) A (forIn ifs true fun c r=>if r=true then do let ok <- isTrue c env (eval c env); pure (JJ ok) else pure (JJ r)) (fun ok s₃ =>
            if ok=true then wpAny (model prog w) A (eval elt env) (fun x s₄ =>
              wpAny (model prog w) A (call (.builtin "list.append") [acc,x]) (fun _ s₅=>∃ m,m<n/\I m s₅) (notedBy (model prog w) A env fun e s'=>R (.error e) s') s₄) (notedBy (model prog w) A env fun e s'=>R (.error e) s') s₃
            else ∃ m,m<n/\I m s₃) (notedBy (model prog w) A env fun e s'=>R (.error e) s') s₂) (notedBy (model prog w) A env fun e s'=>R (.error e) s') s₀) (notedBy (model prog w) A env fun e s'=>R (.error e) s') s₁) (notedBy (model prog w) A env fun e s'=>R (.error e) s') s)
    (n:Nat) (h:I n s):codeAny (model prog w) A (.compLoop (.ListComp elt [⟨target,iter,ifs,0⟩] scope pos) 0 it acc env) R s:=by
  refine codeAny_loop rfl I (fun n s hI=>?_) n h;show wpAny _ A ((compTurn (.ListComp elt [⟨target,iter,ifs,0⟩] scope pos) 0 it acc env).onRaise (fun x=>do noteFrame x env; theTreesLotGoes x)) _ _ s;refine wpAny_noted ?_;rw[compTurn_list];refine Zc (wpAny_standAt (Zc (ZY (turn n s hI) (fun r s₁ h₁=>?_) fun _ _ h'=>h')));cases r with
  | none=>exact Zm h₁
  | some v =>
    refine Zc (ZY h₁ (fun _ s₀ h₀=>Zc (ZY h₀ (fun _ s₂ h₂=>Zc (ZY h₂ (fun ok s₃ h₃=>?_) fun _ _ h'=>h')) fun _ _ h'=>h')) fun _ _ h'=>h');cases ok with
    | false=>exact Zm ⟨rfl,h₃⟩
    | true =>
      exact Zc (Zc (ZY h₃ (fun x s₄ h₄=>Zc (ZY h₄ (fun _ s₅ h₅=>Zm (Zm ⟨rfl,h₅⟩)) fun _ _ h'=>h')) fun _ _ h'=>h'))
structure BlkG (X:Cx) (scope:Scope) (zs:List Str) (ys:List Str) (fr:List Nat):Prop where
 kind:scope.kind=.function
 own:∀ x∈zs,scope.names.lookup x=some .local
 ncell:∀ y∈scope.names,y.2≠.cell
 names:∀ y∈scope.names,y.2=.local->scope.names.lookup y.1=some .local
 free:∀ n∈xc3 scope,X.env.scope.names.lookup n=some .cell
 has:∀ n,((relabel scope X.env).names.lookup n=some .cell\/(relabel scope X.env).names.lookup n=some .free)->n∈xc3 scope
 slots:fr.map (fun i=>X.N[i]?)=ys.map some
 ysf:∀ y∈ys,y∈xc3 scope
 ysc:∀ y∈ys,(relabel scope X.env).names.lookup y=some .cell\/(relabel scope X.env).names.lookup y=some .free
 nd:X.N.Nodup
 ndb:(zs++ys).Nodup
def blk0 (σ:St) (fr:List Nat) (n:Nat):St:=List.replicate n none++fr.map fun i=>(σ[i]?).join
section
variable {X:Cx}{pins:List (Addr × Obj)}{σ:St}{H:Hp}{s:Shared}{scope:Scope}{zs:List Str}{ys:List Str}{fr:List Nat}{fp:List Addr}
theorem BlkG.cells (B:BlkG X scope zs ys fr) (I:Inv X pins σ H s):∀ n∈xc3 scope,∃ c,X.env.cells.lookup n=some c:=fun n hn=>I.ok.has n (.inl (B.free n hn))
theorem BlkG.sub (B:BlkG X scope zs ys fr) (I:Inv X pins σ H s) {n:Str}{c:Addr} (h:(X.clo scope).lookup n=some c):X.env.cells.lookup n=some c:=by
 obtain⟨a,b⟩:=xrl h;obtain⟨d,e⟩:=B.cells I n a;rw[e] at b;rw[b,e];rfl
theorem Inv.blkG {h1:Heap}{m1:Str->Option Value}{t':Nat} (B:BlkG X scope zs ys fr) (I:Inv X pins σ H s) (hf:∀ b∈fp,FpOk X pins H b) (hz:∀ b∈fp,b<s.heap.objs.size) (n1:h1.Ns s.heap.objs.size m1) (k1:∀ b o,s.heap.get? b=some o->h1.get? b=some o) :
    Inv (X.blkG scope zs ys s.heap.objs.size fp s H (X.pn++pins)) [] (blk0 σ fr zs.length) H { s with heap:=h1,toks:=t' }:=by
  have sub:∀ n c,(X.clo scope).lookup n=some c->X.env.cells.lookup n=some c:=fun n c h=>B.sub I h;have cz:∀ n c,X.env.cells.lookup n=some c->c<s.heap.objs.size:=fun n c e=>by
    obtain⟨v,o,ho,_⟩:=I.cell n c e;exact Zq ho
  have nfs:∀ b∈fp,b∉frs X.stack:=fun b hb z=>(Zx.mp (I.stkSub b z)).elim (hf b hb).2.1 (hf b hb).2.2.1;have fz:∀ b,b∈frs X.stack->b<s.heap.objs.size:=fun b hb=>by
    obtain⟨_,o,ho,_⟩:=I.stack.mem hb;exact Zq ho
  refine⟨⟨I.ok.mod,B.kind,I.ok.glob,I.ok.blt,Zj _,fun y z c h1 h2=>I.ok.inj y z c (sub y c h1) (sub z c h2),fun y hy=>?_,(fun y c hy _=>nomatch hy),I.ok.hd,I.ok.frames,.inl rfl,fun b hb=>⟨?_,fun y c h=>(hf b hb).2.2.2.2.1 y c (sub y c h)⟩,
      I.bs,ZB I.ok.bsz I.sz,fun b o e hb=>?_,fun b hb=>nfs b hb,I.stack,I.stkFree⟩,
    rfl,I.bare,Un.kept k1,⟨m1,n1,fun i y v e1 e2 e3=>?_⟩,fun y c h=>?_,I.hok.fresh (Zj _),fun y c h=>I.freeC y c (sub y c h),fun p hp=>?_,I.hok.kept k1,?_⟩
  . obtain⟨c,e⟩:=B.cells I y (B.has y hy)
    exact⟨c,xlz (B.has y hy) e⟩
  . exact ZK (hz b hb)
  . rcases (hf b hb).2.2.2.1 with z|z
    . exact I.ok.noex b o e z
    . exact absurd (ZF (Zq (I.ok.bs b o e).1) z) (Y1 _)
  . have ln:(List.replicate zs.length (none:Option V)).length=zs.length:=Q8
    by_cases lt:i<zs.length
    . have e2':(blk0 σ fr zs.length)[i]?=some (some v):=e2
      unfold blk0 at e2';rw[Jg (by rw[ln]; exact lt),Qu] at e2';split at e2'<;>cases e2'
    . obtain⟨k,rfl⟩:∃ k,i=zs.length+k:=⟨i-zs.length,by omega⟩
      have e2':(fr.map fun i=>(σ[i]?).join)[k]?=some (some v):=by
        have z:(blk0 σ fr zs.length)[zs.length+k]?=some (some v):=e2;unfold blk0 at z;rw[Jp (by rw[ln]; omega),ln] at z;simpa using z
      have e1':ys[k]?=some y:=by
        have z:(zs++ys)[zs.length+k]?=some y:=e1;rw[Jp (by omega)] at z;simpa using z
      rw[Zf] at e2';obtain⟨j,hj,ej⟩:=Zi.mp e2';have ev:σ[j]?=some (some v):=by
        cases q:σ[j]? with
        | none=>rw[q] at ej; cases ej
        | some w=>rw[q] at ej; exact congrArg some ej
      have eN:X.N[j]?=some y:=by
        have z:=congrArg (fun l=>l[k]?) B.slots;simp only[Zf,hj,e1',Y3] at z;exact JM.inj z
      have my:y∈ys:=Zp e1';obtain⟨m,_,lk⟩:=I.loc;obtain⟨u,r,l⟩:=lk j y v eN ev (.inr (.inl (B.free y (B.ysf y my))));refine⟨u,r,.inr ⟨B.ysc y my,?_⟩⟩;rcases l with⟨kk,_⟩|⟨_,c,e,o,ho,hd⟩
      . have z:=B.free y (B.ysf y my)
        rw[show X.env.scope.names.lookup y=some .local from kk] at z;cases z
      . exact⟨c,xlz (B.ysf y my) e,o,k1 c o ho,hd⟩
  . obtain⟨v,o,ho,hd⟩:=I.cell y c (sub y c h)
    exact⟨v,o,k1 c o ho,hd⟩
  . have hp':p∈X.pn++pins:=by simpa using hp
    obtain⟨a1,a2,a3,a4,a5⟩:=I.pin p hp';exact⟨k1 _ _ a1,a2,ZK (Zq a1),fun z=>(Zx.mp (I.stkSub _ z)).elim a3 a4,a5⟩
  . have z:=congrArg QB B.slots
    simp only[Za] at z;simp[blk0,z]
end
section
variable {X:Cx}{pins:List (Addr × Obj)}{σ:St}{H:Hp}{s:Shared}{scope:Scope}{zs:List Str}{ys:List Str}{fr:List Nat}{fp:List Addr}
theorem Inv.unblkG {C:Addr}{s':Shared}{h2:Heap}{σ':St}{H':Hp}{pl:List (Addr × Obj)} (I:Inv X pins σ H s) (hf:∀ b∈fp,FpOk X pins H b) (hC:s.heap.objs.size<=C) (J:Inv (X.blkG scope zs ys C fp s H (X.pn++pins)) pl σ' H' s') (sb:ZN C s'.heap h2) :
    Inv X pins σ H' { s' with heap:=h2 }:=by
  have kp:∀ b o,b≠C->s'.heap.get? b=some o->h2.get? b=some o:=fun b o nb g=>(sb.2 b nb).trans g;have old:∀ b o,s.heap.get? b=some o->b≠C:=fun b o g=>ZK (ZF (Zq g) hC);have trk:∀ b u,H' b=some u->b≠C:=fun b u hb z=>by
    have f:H' C=none:=J.free;rw[z,f] at hb;cases hb
  refine I.call' (s':={ s' with heap:=h2 }) J.os (ch:=fp) ⟨fun b o e n hb hx=>kp b o (old b o e) (J.base.keep b o e n hb hx),fun b o e n hb hx=>?_,fun b o e n hx=>J.base.free b o e n hx,fun b o e hx=>?_,J.base.tups,J.base.frzs,J.base.tbls⟩ (fun b u hb=>?_) J.bare fun b hb=>?_
  . obtain⟨sl,q⟩:=J.base.slot b o e n hb hx
    exact⟨sl,kp b _ (old b o e) q⟩
  . obtain⟨o',q⟩:=J.base.there b o e hx
    exact⟨o',kp b o' (old b o e) q⟩
  . refine (J.hok b u hb).stay (fun c v hc q=>?_) (fun c q=>q) fun c xs q=>q
    rcases hc with rfl|hc
    . exact kp c v (trk c u hb) q
    . exact kp c v (trk c _ hc) q
  . obtain⟨_,a1,_,a3,a4,a5⟩:=hf b hb
    exact⟨a3,a1,a4,a5⟩
end
def GOk (n:Nat) (g:TG):Prop:=∀ v σ H Q,g v σ H Q->g v σ H (fun σ' H'=>Q σ' H'/\σ'.length=σ.length/\∀ i,n<=i->σ'[i]?=σ[i]?)
theorem xbu {i n:Nat} (h:i<n):GOk n (xd7 i):=fun v σ H Q q=>⟨q,by simp,fun j hj=>by rw[YO (by omega)]⟩
def xc2 (J:It) (n:Nat) (g:TG) (σ:St) (fr:List Nat) (tc:TT) (te:TE) (l:Addr) (H1:Hp) (Q:VK):Prop:=∃ W:Nat->Nat->List V->Hp->Prop,(∃ m,W 0 m [] (upd H1 l (.lst [])))/\∀ i m xs H2,W i m xs H2 ->
 (J.stop i H2/\Q (.ref l) H2)\/(J.go i H2/\∀ v H3,J.yld i H2 v H3->g v (blk0 σ fr n) H3 fun σ' H3'=>tc σ' H3' fun b H4=>if b=true then
  (te σ' H4 fun y H5=>H5 l=some (.lst xs)/\xs.length<sizeLine/\∃ m',m'<m/\W (i+1) m' (xs++[y]) (upd H5 l (.lst (xs++[y])))) else ∃ m',m'<m/\W (i+1) m' xs H4)
def xjt (wi:TI) (n:Nat) (g:TG) (fr:List Nat) (tc:TT) (te:TE):TE:=fun σ H Q=>wi σ H fun J H1=>∀ l,H1 l=none->xc2 J n g σ fr tc te l H1 Q
section
variable {X:Cx}{scope:Scope}{zs:List Str}{ys:List Str}{fr:List Nat}{elt iter tg:Expr}{g:TG}{ifs:List Expr}{px pos:Pos}{wi:TI}{tc:TT}{te:TE}
theorem xhk {pins:List (Addr × Obj)}{s:Shared}{σ:St}{H:Hp}{Q:VK}{U:Option (Value->Sem Unit)}{R:Value->Shared->Prop} (hc:X.calm=true) (B:BlkG X scope zs ys fr) (hi:PI X tg iter wi) (hg:∀ C ex s H pn,(∀ x∈zs,(relabel scope X.env).names.lookup x=some .local)->(zs++ys).Nodup->PG (X.blkG scope zs ys C ex s H pn) tg g) (gok:GOk zs.length g)
    (hif:∀ C ex s H pn,PIf (X.blkG scope zs ys C ex s H pn) ifs tc) (he:∀ C ex s H pn,PE (X.blkG scope zs ys C ex s H pn) elt te) (I:Inv X pins σ H s) (h:xjt wi zs.length g fr tc te σ H Q)
    (fin:∀ C l H' s' m,(X.s₀.heap.objs.size<=C/\C≠X.env.locals/\(∀ x c,X.env.cells.lookup x=some c->c≠C)/\∀ p∈X.pn++pins,p.1≠C)->H' C=none->s'.heap.Ns C m->(∀ h2,ZN C s'.heap h2->Inv X pins σ H' { s' with heap:=h2 })->Q (.ref l) H'->compPost (model X.prog X.w) X.A X.xe U R (.ref l) C (.ok .next) s') :
    wpAny (model X.prog X.w) X.A (eval iter X.env) (fun v s1=>wpAny (model X.prog X.w) X.A (pyIter v) (fun it s2=>wpAny (model X.prog X.w) X.A (newList []) (fun acc s3 =>
      wpAny (model X.prog X.w) X.A (newFunctionEnv scope X.env.globals (X.clo scope) [] X.env.qual none .none (some X.env)) (fun cenv s4 =>
        codeAny (model X.prog X.w) X.A (.compStart (.ListComp elt [⟨tg,iter,ifs,0⟩] scope pos) 0 it acc { cenv with scope:=relabel scope X.env }) (compPost (model X.prog X.w) X.A X.xe U R acc cenv.locals) s4) X.xe s3) X.xe s2) X.xe s1) X.xe s:=by
  refine thn (hi pins s σ H _ I h) fun v s1 h1=>thn h1 fun itv s2 h2=>?_;obtain⟨it,fp,tn,J,H2,rfl,I2,T,st2,f2,body⟩:=h2;have hN:H2 s2.heap.objs.size=none:=I2.hok.fresh (Zj _);obtain⟨W,⟨m0,w0⟩,turn⟩:=body s2.heap.objs.size hN;refine J6 ?_;generalize hs3:({ s2 with heap:=s2.heap.push { cls:=.type "list",data:=.seq ([]:List Value).toArray } }:Shared)=s3;have k3:∀ b o,s2.heap.get? b=some o->s3.heap.get? b=some o:=fun b o g=>by rw[<- hs3]; exact Zg _ g
  have I3:Inv X pins σ (upd H2 s2.heap.objs.size (.lst [])) s3:=by
    rw[<- hs3];exact I2.laid (t':=s2.toks) (fun b u e=>Zg _ e) (Zj _) ⟨ZZ _,[],0,.nil,Zu _ rfl⟩
  have z2:∀ b∈fp,b<s2.heap.objs.size:=fun b hb=>by
    obtain⟨o,g,_⟩:=T.obj 0 _ st2 b hb;exact Zq g
  have z3:∀ b∈fp,b<s3.heap.objs.size:=fun b hb=>by
    obtain⟨o,g,_⟩:=T.obj 0 _ st2 b hb;exact Zq (k3 b o g)
  have f3:∀ b∈fp,FpOk X pins (upd H2 s2.heap.objs.size (.lst [])) b:=fun b hb=>⟨by rw[xh (ZK (z2 b hb))]; exact (f2 b hb).1,(f2 b hb).2⟩
  have st3:tn 0 s3.heap:=T.keep _ _ _ st2 fun b _ o g=>k3 b o g;refine wpAny_newFunctionEnv B.ncell (by intro y hy; simp at hy) (fun h1 n1 sb1=>?_) B.kind;have k4:∀ b o,s3.heap.get? b=some o->h1.get? b=some o:=fun b o g=>sb1.extBut b o (ZK (Zq g)) (Zg _ g);have I4:=I3.blkG (t':=s3.toks+([]:List (Str × Value)).length) B f3 z3 n1 k4;have st4:tn 0 h1:=T.keep _ _ _ st3 fun b _ o g=>k4 b o g;have own':∀ x∈zs,(relabel scope X.env).names.lookup x=some .local:=fun x hx=>lookup_relabel_local (B.own x hx)
  -- the iterator's objects,through the loop
  have stat:∀{H':Hp},(∀ b∈fp,H' b=none)->∀ b∈fp,FpOk (X.blkG scope zs ys s3.heap.objs.size fp s3 (upd H2 s2.heap.objs.size (.lst [])) (X.pn++pins)) [] H' b:=fun hn b hb=>by
    obtain⟨_,a1,a2,a3,a4,a5⟩:=f3 b hb;exact⟨hn b hb,ZK (z3 b hb),fun z=>(Zx.mp (I3.stkSub b z)).elim a1 a2,.inl hb,fun y c h=>a4 y c (B.sub I3 h),fun p hp=>a5 p (by simpa using hp)⟩
  have loop:∀ s4:Shared,s4={ s3 with heap:=h1,toks:=s3.toks+([]:List (Str × Value)).length } ->
      codeAny (model X.prog X.w) X.A (.compLoop (.ListComp elt [⟨tg,iter,ifs,0⟩] scope pos) 0 (.ref it) (.ref s2.heap.objs.size) (compEnvC scope (X.clo scope) s3.heap.objs.size X.env))
        (compPost (model X.prog X.w) X.A X.xe U R (.ref s2.heap.objs.size) s3.heap.objs.size) s4:=by
    rintro s4 rfl;refine xhp (fun n s'=>∃ i xs H',Inv (X.blkG scope zs ys s3.heap.objs.size fp s3 (upd H2 s2.heap.objs.size (.lst [])) (X.pn++pins)) [] (blk0 σ fr zs.length) H' s'/\tn i s'.heap/\(∀ b∈fp,H' b=none)/\W i n xs H') ?_ m0
      ⟨0,[],_,I4,st4,fun b hb=>(f3 b hb).1,w0⟩
    rintro n s5 ⟨i,xs,H5,I5,st5,fr5,w5⟩;rcases turn i n xs H5 w5 with⟨stop,q⟩|⟨go,step⟩
    . refine ZY (T.done (X.blkG scope zs ys s3.heap.objs.size fp s3 (upd H2 s2.heap.objs.size (.lst [])) (X.pn++pins)) rfl rfl rfl hc i [] s5 _ H5 (fun _ _=>False) I5 (stat fr5) st5 stop) (fun r s6 ⟨hr,I6⟩=>?_) fun _ _ z=>z.elim
      subst hr;obtain⟨m,hm,_⟩:=I6.loc;exact fin _ _ H5 s6 m ⟨I3.sz,(I3.size_lt (Zj _)).2⟩ I6.free hm (fun h2 sb=>I3.unblkG f3 (Zj _) I6 sb) q
    . refine ZY (T.item (X.blkG scope zs ys s3.heap.objs.size fp s3 (upd H2 s2.heap.objs.size (.lst [])) (X.pn++pins)) rfl rfl rfl hc i [] s5 _ H5 (fun _ _=>False) I5 (stat fr5) st5 go) (fun r s6 ⟨u,hr,h6⟩=>?_) fun _ _ z=>z.elim
      subst hr;refine ZY h6 (fun _ s7 ⟨y,H7,I7,r7,y7,st7,fr7⟩=>?_) fun _ _ z=>z.elim;have I7':=I7.pinned (stat fr7) (T.obj _ _ st7);refine ZY (hg _ _ _ _ _ own' B.ndb _ s7 _ H7 y u _ I7' r7 (gok _ _ _ _ (step y H7 y7))) (fun _ s8 ⟨σ8,H8,I8,q8,l8,k8⟩=>?_) fun _ _ z=>z.elim;have back:∀{s9:Shared}{H9:Hp}{xs':List V},Inv (X.blkG scope zs ys s3.heap.objs.size fp s3 (upd H2 s2.heap.objs.size (.lst [])) (X.pn++pins)) ([]++xfe fp s7.heap) σ8 H9 s9->(∃ m',m'<n/\W (i+1) m' xs' H9) ->
          ∃ m,m<n/\∃ i xs H',Inv (X.blkG scope zs ys s3.heap.objs.size fp s3 (upd H2 s2.heap.objs.size (.lst [])) (X.pn++pins)) [] (blk0 σ fr zs.length) H' s9/\tn i s9.heap/\(∀ b∈fp,H' b=none)/\W i m xs H':=fun {s9 H9 xs'} I9 ⟨m',lt,w9⟩=>by
        refine⟨m',lt,i+1,xs',H9,I9.unpinned.weak l8.symm (fun j v e=>?_),T.keep _ _ _ st7 fun b hb o e=>(I9.pin (b,o) (ZO _ (ZO _ (xc5 hb e)))).1,fun b hb=>?_,w9⟩
        . by_cases lj:j<zs.length
          . unfold blk0 at e
            rw[Jg (by rw[Q8]; exact lj),Qu] at e;split at e<;>cases e
          . rw[k8 j (by omega)]
            exact e
        obtain⟨o,e,d⟩:=T.obj _ _ st7 b hb;exact (I9.pin (b,o) (ZO _ (ZO _ (xc5 hb e)))).2.1
      refine ZY (hif _ _ _ _ _ _ s8 _ H8 _ I8 q8) (fun ok s9 ⟨H9,I9,q9⟩=>?_) fun _ _ z=>z.elim;cases ok with
      | false =>
        rw[if_neg (by decide)] at q9 ⊢;exact back I9 q9
      | true =>
        rw[if_pos rfl] at q9 ⊢;refine ZY (he _ _ _ _ _ _ s9 _ H9 _ I9 q9) (fun ev s10 ⟨yv,H10,I10,r10,hl,len,w10⟩=>?_) fun _ _ z=>z.elim;refine ZY (xea (X:=X.blkG scope zs ys s3.heap.objs.size fp s3 (upd H2 s2.heap.objs.size (.lst [])) (X.pn++pins)) _ s10 _ H10 (.ref s2.heap.objs.size) [yv] (.ref s2.heap.objs.size) [ev] (fun v H'=>H'=upd H10 s2.heap.objs.size (.lst (xs++[yv]))) I10 rfl (.cons r10 .nil) ⟨_,xs,yv,rfl,rfl,hl,len,rfl⟩)
          (fun _ s11 ⟨_,H11,I11,_,e11⟩=>?_) fun _ _ z=>z.elim
        subst e11;exact back I11 w10
  exact codeAny_compStart_list (loop _ rfl) (T.self _ 0 _ _ _ st4 (loop _ rfl))
theorem xbt (hc:X.calm=true) (B:BlkG X scope zs ys fr) (hi:PI X tg iter wi) (hg:∀ C ex s H pn,(∀ x∈zs,(relabel scope X.env).names.lookup x=some .local)->(zs++ys).Nodup->PG (X.blkG scope zs ys C ex s H pn) tg g) (gok:GOk zs.length g) (hif:∀ C ex s H pn,PIf (X.blkG scope zs ys C ex s H pn) ifs tc) (he:∀ C ex s H pn,PE (X.blkG scope zs ys C ex s H pn) elt te)
    (hs:∀ x,foldedSetIterable iter X.env x=pure x:=by intro _; rfl):PE X (.ListComp elt [⟨tg,iter,ifs,0⟩] scope pos) (xjt wi zs.length g fr tc te):=by
  intro pins s σ H Q I h;rw[eval_ListComp];refine wpAny_comprehension_free (use:=none) rfl hs (xoq (B.cells I)) B.kind B.names (xhk hc B hi hg gok hif he I h fun C l H' s' m _ _ hm iv q=>?_);exact⟨m,hm,fun h2 sb=>⟨.ref l,H',iv h2 sb,rfl,q⟩⟩
theorem xbm {j:Nat}{y:Str}{py spos:Pos} (hc:X.calm=true) (B:BlkG X scope zs ys fr) (hi:PI X tg iter wi) (hg:∀ C ex s H pn,(∀ x∈zs,(relabel scope X.env).names.lookup x=some .local)->(zs++ys).Nodup->PG (X.blkG scope zs ys C ex s H pn) tg g) (gok:GOk zs.length g) (hif:∀ C ex s H pn,PIf (X.blkG scope zs ys C ex s H pn) ifs tc) (he:∀ C ex s H pn,PE (X.blkG scope zs ys C ex s H pn) elt te)
    (hj:X.N[j]?=some y) (hy:Loc X.env.scope y) (hf:X.fn y=true\/X.env.scope.names.lookup y=some .local:=by first|exact .inl rfl|exact .inr rfl|assumption)
    (hsw:swapsWith (.ListComp elt [⟨tg,iter,ifs,0⟩] scope pos) (some (.Name y py)) spos.line X.env=pure true:=by rfl)
    (hs:∀ x,foldedSetIterable iter X.env x=pure x:=by intro _; rfl):PS X (.Assign [.Name y py] (.ListComp elt [⟨tg,iter,ifs,0⟩] scope pos) spos) (tAsg (xjt wi zs.length g fr tc te) (xd7 j)):=by
  intro pins s σ H D I h;rw[exec_Assign_Name_used _ _ _ _ hsw];refine Zc (wpAny_standAt (Zc ?_));show wpAny _ _ (do let _ <- comprehension (.ListComp elt [⟨tg,iter,ifs,0⟩] scope pos) scope X.env _ (newList []) false (eval iter X.env) (some (assign (.Name y py) X.env))) _ _ s;refine Zc (ZY (wpAny_comprehension_free (use:=some (assign (.Name y py) X.env)) (Q:=fun _ s'=>SP X pins D .next s') rfl hs (xoq (B.cells I)) B.kind B.names
    (xhk hc B hi hg gok hif he I h fun C l H' s' m hC hn hm iv q=>?_)) (fun _ s' z=>Zm (Zm z)) fun _ _ e=>e)
  show wpAny _ _ (assign (.Name y py) X.env (.ref l)) _ _ _;have J:Inv X pins σ H' s':=iv s'.heap (.refl ..);refine wpAny_assign_Name (xii (v:=V.ref l) J B.nd hj hy rfl (fun s2 J2 ⟨a,sb,ha⟩=>?_) hf);have na:a≠C:=by
    rcases ha with z|z
    . rw[z]; exact ZE hC.2.1
    . exact hC.2.2.1 _ _ z
  refine⟨m,?_,fun h2 s3=>?_⟩
  . obtain⟨o,es,ep,g,r⟩:=hm
    exact⟨o,es,ep,(sb.2 C (ZE na)).trans g,r⟩
  . exact⟨_,H',J2.turned (t':=s2.toks) (fun b o nb g=>(s3.2 b nb).trans g) hn (hC.2.1) (.inr hC.1) hC.2.2.1 hC.2.2.2,q⟩
end
def xj8 (scope sc0:Scope) (N0:List Str) (zs:List Str) (ys:List Str) (fr:List Nat):Bool :=
 scope.kind == .function&&zs.all (fun x=>scope.names.lookup x == some .local)&&scope.names.all (fun y=>y.2 != .cell)&&scope.names.all (fun y=>y.2 != .local||scope.names.lookup y.1 == some .local) &&
 (xc3 scope).all (fun n=>sc0.names.lookup n == some .cell)&&fr.map (fun i=>N0[i]?) == ys.map some&&ys.all (fun y=>scope.names.lookup y == some .free)&&decide N0.Nodup&&decide (zs++ys).Nodup
theorem xpb {X:Cx}{scope sc0:Scope}{N0:List Str}{zs:List Str}{ys:List Str}{fr:List Nat} (chk:xj8 scope sc0 N0 zs ys fr=true) (es:X.env.scope=sc0) (eN:X.N=N0):BlkG X scope zs ys fr:=by
 unfold xj8 at chk;simp only[Zy,beq_iff_eq,YM,decide_eq_true_eq] at chk;obtain⟨⟨⟨⟨⟨⟨⟨⟨a1,a2⟩,a3⟩,a4⟩,a5⟩,a6⟩,a7⟩,a8⟩,a9⟩:=chk;have nc:∀ y∈scope.names,y.2≠.cell:=fun y hy=>by simpa using a3 y hy
 refine⟨a1,a2,nc,fun y hy hl=>?_,fun n hn=>by rw[es]; exact a5 n hn,fun n h=>xnq nc n h,by rw[eN]; exact a6,fun y hy=>?_,fun y hy=>xmj (a7 y hy),by rw[eN]; exact a8,a9⟩
 .have z:=a4 y hy;rw[hl] at z;simpa using z
 .exact Zd.mpr ⟨(y,.free),ZH.mpr ⟨J9 (a7 y hy),by simp⟩,rfl⟩
theorem xay {X:Cx}{scope sc0:Scope}{N0:List Str}{zs:List Str}{ys:List Str}{fr:List Nat} (chk:xj8 scope sc0 N0 zs ys fr=true) (es:X.env.scope=sc0) (eN:X.N=N0) (_:X.stack=X.env::X.outer):BlkG X scope zs ys fr:=xpb chk es eN
theorem xbz {K:Ze}{m n:Nat}{t:TGs} (h:∀ vs σ H Q,t vs σ H Q->t vs σ H (fun σ' H'=>Q σ' H'/\σ'.length=σ.length/\∀ i,n<=i->σ'[i]?=σ[i]?)):GOk n (gTup K m t):=fun v σ H Q q=>by
 obtain⟨a,xs,e,hs,hl,q⟩:=q;exact⟨a,xs,e,hs,hl,h _ _ _ _ q⟩
theorem xbl {n:Nat}:∀ vs σ H Q,gNil vs σ H Q->gNil vs σ H (fun σ' H'=>Q σ' H'/\σ'.length=σ.length/\∀ i,n<=i->σ'[i]?=σ[i]?):=fun vs σ H Q q=>⟨q.1,q.2,rfl,fun _ _=>rfl⟩
theorem x5 {i n:Nat} (hi:i<n) {t:TGs} (h:∀ vs σ H Q,t vs σ H Q->t vs σ H (fun σ' H'=>Q σ' H'/\σ'.length=σ.length/\∀ i,n<=i->σ'[i]?=σ[i]?)) :
    ∀ vs σ H Q,xl7 (xd7 i) t vs σ H Q->xl7 (xd7 i) t vs σ H (fun σ' H'=>Q σ' H'/\σ'.length=σ.length/\∀ i,n<=i->σ'[i]?=σ[i]?):=fun vs σ H Q q=>by
  obtain⟨v,r,e,q⟩:=q;refine⟨v,r,e,?_⟩;have z:=h _ _ _ _ q;have e2:∀(j:Nat),n<=j->(σ.set i (some v))[j]?=σ[j]?:=fun j hj=>by rw[YO (by omega)]
  have e1:(σ.set i (some v)).length=σ.length:=by simp
  have key:(fun σ' H'=>Q σ' H'/\σ'.length=(σ.set i (some v)).length/\∀ j,n<=j->σ'[j]?=(σ.set i (some v))[j]?)=(fun σ' (H':Hp)=>Q σ' H'/\σ'.length=σ.length/\∀ j,n<=j->σ'[j]?=σ[j]?):=by
    funext σ' H';rw[e1];refine propext ⟨fun⟨a,b,c⟩=>⟨a,b,fun j hj=>(c j hj).trans (e2 j hj)⟩,fun⟨a,b,c⟩=>⟨a,b,fun j hj=>(c j hj).trans (e2 j hj).symm⟩⟩
  rw[key] at z;exact z
theorem xbw {J:It}{n:Nat}{g:TG}{σ:St}{fr:List Nat}{tc:TT}{te:TE}{l:Addr}{H1:Hp}{Q:VK} (len:Nat) (Pv:Nat->List V->Hp->Prop) (h0:Pv 0 [] (upd H1 l (.lst []))) (hgo:∀ i xs H,i<len->Pv i xs H->J.go i H)
    (step:∀ i xs H2 v H3,i<len->Pv i xs H2->J.yld i H2 v H3->∀ N:List V->Hp->Prop,(∀ xs' H',Pv (i+1) xs' H'->N xs' H')->g v (blk0 σ fr n) H3 fun σ' H3'=>tc σ' H3' fun b H4=>if b=true then
      (te σ' H4 fun y H5=>H5 l=some (.lst xs)/\xs.length<sizeLine/\N (xs++[y]) (upd H5 l (.lst (xs++[y])))) else N xs H4)
    (fin:∀ xs H2,Pv len xs H2->J.stop len H2/\Q (.ref l) H2):xc2 J n g σ fr tc te l H1 Q:=by
  refine⟨fun i m xs H=>m=len-i/\i<=len/\Pv i xs H,⟨len,by simp,ZZ _,h0⟩,?_⟩;rintro i m xs H2 ⟨rfl,hi,p⟩;by_cases lt:i<len
  . exact .inr ⟨hgo i xs H2 lt p,fun v H3 y=>step i xs H2 v H3 lt p y (fun xs' H'=>∃ m',m'<len-i/\m'=len-(i+1)/\i+1<=len/\Pv (i+1) xs' H') fun xs' H' q=>⟨_,by omega,rfl,lt,q⟩⟩
  . have e:i=len:=by omega
    subst e;exact .inl (fin xs H2 p)
section
variable {X:Cx}{pins:List (Addr × Obj)}{σ:St}{H:Hp}{s:Shared}
theorem Inv.adopt {p:Addr}{o:HO} (I:Inv X pins σ H s) (n:H p=none) (h0:X.s₀.heap.objs.size<=p) (hL:p≠X.env.locals) (hC:∀ x c,X.env.cells.lookup x=some c->c≠p) (hp:∀ q∈X.pn++pins,q.1≠p)
    (new:xau X.prog X.w (upd H p o) s.heap p o):Inv X pins σ (upd H p o) s:=by
  have ne:∀ b u,H b=some u->b≠p:=fun b u e=>xi e n;refine⟨I.ok,I.os,I.bare,⟨I.base.keep,I.base.slot,fun b ob e hn hx=>?_,I.base.there,fun b xs e=>?_,fun b ob u e=>?_,fun b ps e=>?_⟩,I.loc,I.cell,?_,fun x c e=>?_,fun q hq=>?_,fun b u e=>?_,I.len⟩
  . rw[xh (ZK (ZF (Zq e) h0))]
    exact I.base.free b ob e hn hx
  . have z:=I.base.tups b xs e
    rw[xh (ne b _ z)];exact z
  . have z:=I.base.frzs b ob u e
    rw[xh (ne b _ z)];exact z
  . obtain⟨m,z⟩:=I.base.tbls b ps e
    exact⟨m,by rw[xh (ne b _ z)]; exact z⟩
  . rw[xh (ZE hL)]
    exact I.free
  . rw[xh (hC x c e)]
    exact I.freeC x c e
  . obtain⟨a1,a2,a3⟩:=I.pin q hq
    exact⟨a1,by rw[xh (hp q hq)]; exact a2,a3⟩
  . by_cases hb:b=p
    . subst hb
      rw[xb] at e;cases e;exact new
    . rw[xh hb] at e
      exact (I.hok b u e).stay (fun c v _ q=>q) (fun c q=>by rw[xh (ne c _ q)]; exact q) fun c xs q=>by rw[xh (ne c _ q)]; exact q
theorem Inv.thaw {d:Addr}{o:Obj}{u:HO} (I:Inv X pins σ H s) (e:H d=some (.frz o u)) (nf:∀ o' u',X.H₀ d≠some (.frz o' u')):Inv X pins σ (upd H d u) s:=by
 have ne:∀ b v,H b=some v->(∀ o' u',v≠.frz o' u')->b≠d:=fun b v h1 h2 z=>by
  subst z;rw[e] at h1;cases h1;exact h2 _ _ rfl
 have ne0:∀ b,H b=none->b≠d:=fun b h1 z=>by
  subst z;rw[e] at h1;cases h1
 refine⟨I.ok,I.os,I.bare,⟨I.base.keep,I.base.slot,fun b ob q hn hx=>?_,I.base.there,fun b xs q=>?_,fun b ob v q=>?_,fun b ps q=>?_⟩,I.loc,I.cell,?_,fun x c q=>?_,fun p hp=>?_,fun b v q=>?_,I.len⟩
 .have z:=I.base.free b ob q hn hx;rw[xh (ne0 b z)];exact z
 .have z:=I.base.tups b xs q;rw[xh (ne b _ z (fun _ _ h=>nomatch h))];exact z
 .have z:=I.base.frzs b ob v q;have hb:b≠d:=fun w=>by
   subst w;exact nf _ _ q
  rw[xh hb];exact z
 .obtain ⟨m,z⟩:=I.base.tbls b ps q;exact⟨m,by rw[xh (ne b _ z (fun _ _ h=>nomatch h))]; exact z⟩
 .rw [xh (ne0 _ I.free)];exact I.free
 .rw [xh (ne0 _ (I.freeC x c q))];exact I.freeC x c q
 .obtain ⟨a1,a2,a3⟩:=I.pin p hp;exact⟨a1,by rw[xh (ne0 _ a2)]; exact a2,a3⟩
 .have st:∀(a:Addr) (v:HO),xau X.prog X.w H s.heap a v->xau X.prog X.w (upd H d u) s.heap a v:=fun a v k =>
   k.stay (fun c v _ q=>q) (fun c q=>by rw[xh (ne c _ q (fun _ _ h=>nomatch h))]; exact q) fun c xs q=>by rw[xh (ne c _ q (fun _ _ h=>nomatch h))]; exact q
  by_cases hb:b=d
  .subst hb;rw[xb] at q;cases q;obtain⟨g,ok⟩:=I.hok b _ e;exact st _ _ ok
  .rw [xh hb] at q;exact st _ _ (I.hok b v q)
theorem Inv.nofrz {d:Addr}{kvs:List (Key × V)} (I:Inv X pins σ H s) (e:H d=some (.dK kvs)):∀ o' u',X.H₀ d≠some (.frz o' u'):=fun o' u' z=>by
 have q:=I.base.frzs d o' u' z;rw[e] at q;cases q
theorem KV.get:∀{kvs:List (Key × V)}{vs:List (Key × Value)}{i:Nat}{k:Key}{x:V},KV kvs vs->kvs[i]?=some (k,x)->∃ u,vs[i]?=some (k,u)/\RelV x u
 | _,_,_,_,_,.nil,e=>by simp at e
 | _,(_,_)::_,0,_,_,.cons r _,e=>by
  simp at e;subst e;obtain⟨r1,r2⟩:=r
  dsimp only at r1 r2
  subst r1;exact⟨_,rfl,r2⟩
 | _,_,i+1,k,x,.cons _ t,e=>by
  obtain⟨u,h1,h2⟩:=KV.get (i:=i) (k:=k) (x:=x) t (by simpa using e);exact⟨u,by simpa using h1,h2⟩
theorem xt1 {P:Program}{w:World}{k:Key}{u:Value} (h:(xai P w).is k u=true):RelV (kV k) u:=by
 rcases xa8 (show xez k u=true from h) with⟨i,t,rfl,rfl⟩|⟨x,t,rfl,rfl⟩
 .exact ⟨t,rfl⟩
 .exact ⟨t,rfl⟩
theorem xm3 {d:Addr}{o:Obj}{kvs:List (Key × V)}{ep:Nat} (I:Inv X pins σ H s) (e:H d=some (.frz o (.dK kvs))) (hep:∃ es,o.data=.dict es ep):∃ vs,KV kvs vs/\s.heap.DictAt (xai X.prog X.w) d vs ep:=by
 obtain⟨g,_,_,vs,rel,o',es',ep',g',ex,hdat,hk,hp,hn⟩:=I.hok d _ e;rw[g] at g';cases g';obtain⟨es,he⟩:=hep;rw[he] at hdat;cases hdat;exact⟨vs,rel,o,_,g,ex,he,hk,hp,hn⟩
end
def Iti (d:Addr) (o:Obj) (kvs:List (Key × V)):It :=
 ⟨fun i H=>H d=some (.frz o (.dK kvs))/\i<kvs.length,fun i H v H'=>∃ p k x,kvs[i]?=some (k,x)/\v=.ref p/\H p=none/\H'=upd H p (.tup [kV k,x]),fun i H=>H d=some (.frz o (.dK kvs))/\kvs.length<=i⟩
theorem xmw {P:Program}{w:World}{K:Ze}{elts:List Expr}{x1}{tpos:Pos} (d it:Addr) (o:Obj) (kvs:List (Key × V)) (ep:Nat) (hep:∃ es,o.data=.dict es ep) :
    Turn P w K (.Tuple elts x1 tpos) (Iti d o kvs) [it] it (fun i h=>∃ ok ov,IsItemIter h it d i kvs.length ep ok ov) where
  mem:=by simp
  obj:=fun i h st b hb=>by
    have e:b=it:=by simpa using hb
    subst e;obtain⟨ok,ov,st⟩:=st;exact⟨_,st,fun v z=>by
      have z':QC _=Data.cell v:=z;cases z'⟩
  keep:=fun i h h' ⟨ok,ov,st⟩ k=>⟨ok,ov,k it (by simp) _ st⟩
  item:=by
    intro X hP hw hK hc i pins s σ H E I hf st hg;subst hP hw hK;obtain⟨ok,ov,st⟩:=st;obtain⟨e,lt⟩:=hg;obtain⟨vs,rel,da⟩:=xm3 I e hep;obtain⟨f0,f1,f2,f3,f4,f5⟩:=hf it (by simp);have hl:kvs.length=vs.length:=rel.length;obtain⟨⟨k,x⟩,q⟩:∃ y,kvs[i]=y:=⟨_,rfl⟩
    have hx:kvs[i]?=some (k,x):=by rw[Zh lt,q]
    obtain⟨u,hv,ru⟩:=rel.get hx;rw[hl] at st;refine wpAny_pyNext_items_item st da hv fun key h' hkey hout ht hz hkp=>?_;refine⟨_,rfl,wpAny_letOwnedTupleGo_items hout fun h'' hit' hsb=>?_⟩;have kk:∀ b o,b≠it->s.heap.get? b=some o->h''.get? b=some o:=fun b o hb g=>(hsb.2 b hb).trans (hkp b o hb g);have I1:Inv X pins σ H { s with heap:=h'' }:=I.turned (t':=s.toks) kk f0 f1 f3 f4 f5;obtain⟨n0,nL,nC,nP⟩:=I.size_lt (Zj s.heap.objs.size);have itlt:it<s.heap.objs.size:=Zq st;have pne:s.heap.objs.size≠it:=Yq itlt;have hp:h''.get? s.heap.objs.size=some { cls:=.type "tuple",data:=.seq #[key,u] }:=(hsb.2 _ pne).trans ht;refine⟨.ref s.heap.objs.size,upd H s.heap.objs.size (.tup [kV k,x]),I1.adopt n0 I.sz nL nC nP ⟨by show 2<=sizeLine; decide,[key,u],.cons (xt1 hkey) (.cons ru .nil),_,hp,rfl,_,rfl⟩,rfl,⟨_,k,x,hx,rfl,n0,rfl⟩,?_,fun b hb=>?_⟩
    . rw[<- hl] at hit'
      exact⟨_,_,hit'⟩
    . have e:b=it:=by simpa using hb
      subst e;rw[xh (ZE pne)];exact f0
  done:=by
    intro X hP hw hK hc i pins s σ H E I hf st hg;subst hP hw hK;obtain⟨ok,ov,st⟩:=st;obtain⟨e,le⟩:=hg;obtain⟨vs,rel,da⟩:=xm3 I e hep;obtain⟨f0,f1,f2,f3,f4,f5⟩:=hf it (by simp);have hl:kvs.length=vs.length:=rel.length;rw[hl] at st;exact wpAny_pyNext_items_end (I.ok.hd hc) st da (by simpa using (by omega:vs.length<=i)) fun h' eb=>⟨rfl,I.turned (t':=s.toks) (fun b o hb e=>eb b o hb e) f0 f1 f3 f4 f5⟩
  self:=fun _ _ _ _ _ ⟨ok,ov,st⟩ h=>PySem.W.kcp_self st h
def xt3 (X:Cx) (to:TE):TI:=fun σ H R=>to σ H fun x H1=>∃ d kvs,x=.ref d/\H1 d=some (.dK kvs)/\∀ ob,(∀ o' u',X.H₀ d≠some (.frz o' u'))->R (Iti d ob kvs) (upd H1 d (.frz ob (.dK kvs)))
section
variable {X:Cx}{o:Expr}{to:TE}{elts:List Expr}{x1:_}{tpos apos cpos:Pos}
theorem xgv (ho:PE X o to) (hbase:attributeBase o "items" X.env (eval o X.env)=eval o X.env:=by rfl) (hline:(apos.endLine == cpos.line)=true:=by rfl) :
    PI X (.Tuple elts x1 tpos) (.Call (.Attribute o "items" apos) [] [] cpos) (xt3 X to):=by
  intro pins s σ H R I h;refine wpAny_Call_method0_late hbase hline (thn (ho pins s σ H _ I h) fun v s1 ⟨x,H1,I1,r1,q1⟩=>?_);obtain⟨d,kvs,e1,e,q⟩:=q1;subst e1;cases r1;obtain⟨z,hd,vs,rel,dd⟩:=xg8 I1.hok e;obtain⟨ob,es,ep,g,ex,hdat,hk,hp,hn⟩:=id dd;refine⟨"dict", "dict.items",Qr,PySem.F.slot_dict_items,PySem.F.type_dict_items,dd.typeIs,fun a e2=>?_,YE rfl (PySem.evalArgs_none ?_)⟩
  . cases e2
    exact⟨ob,g,ex.2.1⟩
  refine call_meetsIn PySem.F.slot_dict_items dd.typeIs PySem.F.entry_dict_items (PySem.F.args_dict_items_1 _) (meets_dict_items (xai X.prog X.w) d hd) ⟨⟨vs,dd⟩,?_⟩;have da:(s1.heap.push { cls:=.type "dict_items",data:=.fields #[.ref d] }).DictAt (xai X.prog X.w) d vs ep:=⟨ob,es,Zg _ g,ex,hdat,hk,hp,hn⟩
  refine wpAny_pyIter_items (s:={ s1 with heap:=s1.heap.push { cls:=.type "dict_items",data:=.fields #[.ref d] } }) ⟨_,Zu _ rfl,rfl,rfl⟩ da ?_;have I2:Inv X pins σ H1 { s1 with heap:=s1.heap.push { cls:=.type "dict_items",data:=.fields #[.ref d] } }:=I1.kept (t':=s1.toks) fun b o e=>Zg _ e;generalize hs2:({ s1 with heap:=s1.heap.push { cls:=.type "dict_items",data:=.fields #[.ref d] } }:Shared)=s2 at I2;have g2:s2.heap.get? d=some ob:=by rw[<- hs2]; exact Zg _ g
  have I3:Inv X pins σ (upd H1 d (.frz ob (.dK kvs))) s2:=I2.write (t':=s2.toks) (x:=d) (e:=d) (by rw[e]; exact Jx) (.inl rfl) (fun b u _ q=>q) ⟨ob,g2⟩ ⟨g2,I2.hok d _ e⟩;have I4:Inv X pins σ (upd H1 d (.frz ob (.dK kvs))) { s2 with heap:=s2.heap.push { cls:=.type "dict_itemiterator",data:=.fields #[.none,.bool false,.ref d,.int 0 0,.int vs.length 0,.int ep 0,.none,.none] } } :=
    I3.kept (t':=s2.toks) fun b o e=>Zg _ e
  have fin:PIE X pins σ (.Tuple elts x1 tpos) R (.ref s2.heap.objs.size) { s2 with heap:=s2.heap.push { cls:=.type "dict_itemiterator",data:=.fields #[.none,.bool false,.ref d,.int 0 0,.int vs.length 0,.int ep 0,.none,.none] } }:=by
    refine⟨s2.heap.objs.size,[s2.heap.objs.size],_,_,upd H1 d (.frz ob (.dK kvs)),rfl,I4,xmw d _ ob kvs ep ⟨es,hdat⟩,⟨.none,.none,?_⟩,fun b hb=>?_,q ob (I1.nofrz e)⟩
    . have hl:kvs.length=vs.length:=rel.length
      show IsItemIter _ _ d 0 kvs.length ep .none .none;rw[hl];exact Zu _ rfl
    . have eb:b=s2.heap.objs.size:=by simpa using hb
      subst eb;exact I3.fpOk (Zj _) (I3.hok.fresh (Zj _))
  exact fin
theorem xqe {pins:List (Addr × Obj)}{σ:St}{Q:VK}{u:Value}{s:Shared} (h:EP X pins σ (fun v H2=>∃ d ob u,H2 d=some (.frz ob u)/\(∀ o' u',X.H₀ d≠some (.frz o' u'))/\Q v (upd H2 d u)) u s):EP X pins σ Q u s:=by
 obtain⟨v,H2,I2,r2,d,ob,u',e,nf,q⟩:=h;exact⟨v,_,I2.thaw e nf,r2,q⟩
theorem xry {e:Expr}{t:TE} (h:PE X e t):PE X e (fun σ H Q=>t σ H fun v H2=>∃ d ob u,H2 d=some (.frz ob u)/\(∀ o' u',X.H₀ d≠some (.frz o' u'))/\Q v (upd H2 d u)):=fun pins s σ H Q I q =>
 thn (h pins s σ H _ I q) fun _ _ z=>xqe z
end
end L2
namespace PySem.F
theorem xl_plain_dict_loop:plainId "dict.update.loop"=true:=by decide +kernel
theorem xl_entry_dict_loop:entryFor table "dict.update.loop"=some Builtin.«dict.update.loop»:=entryFor_of_tree (by kernel_rfl)
theorem xl_list_nokeys:typeLookup (.type "list") "keys"=pure none:=by rw[JC,Jb]; kernel_rfl
end PySem.F
namespace L2
open PySem PySem.Spec PyProof.Rows XL
variable {q0:Bool}
theorem xne {prog:Program}{w:World}{A:Around}{E:Value->Shared->Prop}{s:Shared}{a:Addr}{o:Obj}{xs:Array Value}{k:Nat}{Q:Option Value->Shared->Prop}
    (hx:s.heap.get? a=some o) (hc:o.cls=.type "list") (hdat:o.data=.seq xs k) (hd:o.dict=none) (hA:A.handled=none)
    (h:∀ h' tk,(∀ b o,s.heap.get? b=some o->h'.get? b=some o)->Q none { s with heap:=h',toks:=tk }):wpAny (model prog w) A (getAttr? (.ref a) "keys") Q E s:=by
  obtain⟨c,dct,dat,sl⟩:=o;simp only at hc hdat hd;subst hc hdat hd;obtain⟨hp,g,d,tk,os⟩:=s;have hT:∀ tk',(⟨hp,g,d,tk',os⟩:Shared).TypeIs (.ref a) "list":=fun _=>⟨_,hx,rfl⟩
  have f1:=sub_AttributeError;have f3:=Qm.lookup;have f4:=Qm.bind (.ref a);have f5:=am_list_getattr_none;unfold getAttr? getAttrBy? getAttrBy
  repeat (any_goals (first|assumption|exact hT _|((with_reducible show wpAny _ _ (call (Yi "list.__getattribute__") _ _) _ _ _); refine Qw Qm (hT _) am_entry_list_getattribute (F.args_list_getattribute_2 _ _) (meets_getattribute_miss_list a xs k sl "keys" _ F.xl_list_nokeys (by decide +kernel) (by size_fits)) ⟨hx,hA,fun h' tk' e hx'=>?_⟩)|wp_step))
  obtain⟨t',u',he⟩:=hx'.there;have hk:=hx'.of.keeps;show wpAny _ _ (getattributeRaised _ _ _ _ _ _ _) _ _ _;unfold getattributeRaised
  repeat (any_goals (first|assumption|wp_step))
  exact h _ _ hk
section
variable {X:Cx}{pins:List (Addr × Obj)}{σ:St}{H:Hp}{s:Shared}{a:Addr}{y v:V}{u r:Value}{A:Around}{E:Value->Shared->Prop}
theorem xm0 {H':Hp}{Q:Unit->Shared->Prop} (hu:A.units<cLine) (I:Inv X pins σ H s) (g:DPut H a y v H') (ry:RelV y u) (rv:RelV v r) (h:∀ s',Inv X pins σ H' s'->Q () s') :
    wpAny (model X.prog X.w) A (dictSet a u r) Q E s:=by
  rcases g with⟨kvs,k,e,ey,l,eH⟩|⟨kvs,k,b,e,ey,eb,l,eH⟩
  . subst ey eH
    obtain⟨z,hd,vs,rel,dd⟩:=xg8 I.hok e;have hz:vs.length<=sizeLine:=by rw[<- rel.length]; exact z
    have hl:(putK kvs k v).length<=sizeLine:=by have:=xbs kvs k v; omega
    refine wpAny_dictSet_pairs (hsz:=hz) (xcr ry) dd fun h' dd' hs=>h _ ?_;have he:∃ q,h'.get? a=some q:=let ⟨q,_,_,hq,_⟩:=dd'; ⟨q,hq⟩;exact xdq I (by rw[e]; exact Jx) hs he (xjv hl hd (rel.put k rv) dd')
  . subst ey eH
    cases (show u=Zn b from ry);obtain⟨z,hd,xs,rel,dd⟩:=xhq I.hok e;have hz:xs.length<=sizeLine:=by rw[<- Yj rel]; exact z
    have hl:(putK kvs k v).length<=sizeLine:=by have:=xbs kvs k v; omega
    refine wpAny_dictSet_heap (hsz:=hz) (show (tupleKind (xai X.prog X.w)).room A from hu) (xdw I.hok eb) dd fun h' dd' hs=>h _ ?_;obtain⟨q,es,ep,hq,h2,h3,h4,_,h5⟩:=dd';refine xdq I (by rw[e]; exact Jx) hs ⟨q,hq⟩ ⟨hl,hd,_,(rel.put k eb rv).keeps fun c ys ec=>?_,q,es,ep,hq,h2,h3,h4,h5⟩;rw[xh (xae ec e (fun z=>nomatch z))];exact ec
theorem DPut.stay {d b:Addr}{H':Hp}{o:HO} (g:DPut H d y v H') (e:H b=some o) (n1:∀ kvs,o≠.dK kvs) (n2:∀ kvs,o≠.dT kvs):H' b=some o:=by
 rcases g with⟨kvs,k,e2,_,_,rfl⟩|⟨kvs,k,b2,e2,_,_,_,rfl⟩
 .rw [xh (xae e e2 (n1 _))];exact e
 .rw [xh (xae e e2 (n2 _))];exact e
theorem DPut.free {d b:Addr}{H':Hp} (g:DPut H d y v H') (e:H b=none):H' b=none:=by
 rcases g with⟨kvs,k,e2,_,_,rfl⟩|⟨kvs,k,b2,e2,_,_,_,rfl⟩
 .rw [xh (ZE (xi e2 e))];exact e
 .rw [xh (ZE (xi e2 e))];exact e
end
inductive xf1 (d:Addr):Hp->List (V × V)->Hp->Prop
 | nil {H:Hp}:xf1 d H [] H
 | cons {H H1 H2:Hp}{y v:V}{r:List (V × V)}:DPut H d y v H1->xf1 d H1 r H2->xf1 d H ((y,v)::r) H2
theorem xgh {X:Cx}{pins:List (Addr × Obj)}{σ:St}{A:Around}{R:Result->Shared->Prop} (hh:A.in1.handled=none) (hu:A.in1.units<cLine) {l it d:Addr} :
    ∀(ps:List (Addr × V × V)) (pre:List V) (j:Int) (H H2:Hp) (s:Shared),Inv X pins σ H s->H l=some (.lst (pre++ps.map fun p=>.ref p.1))->(∀ p∈ps,H p.1=some (.tup [p.2.1,p.2.2]))->xf1 d H (ps.map (·.2)) H2 ->
      s.heap.IsListIter it l pre.length->FpOk X pins H it->(∀ s',Inv X pins σ H2 s'->R (.ok (.ret .none)) s') ->
      codeAny (model X.prog X.w) A (.builtin "dict.update.loop" ⟨[.ref d,.ref it,rawInt j,.none],[]⟩) R s
  | [],pre,j,H,H2,s,I,hl,hp,dp,st,fo,fin=>by
    cases dp;obtain⟨z,its,n,r,hl2,e⟩:=I.lstM hl;obtain⟨f0,f1,f2,f3,f4,f5⟩:=fo;refine Q4 F.xl_entry_dict_loop ?_;rw[YQ F.xl_plain_dict_loop _];show wpAny _ A.in1 (pyNext (.ref it)>>=_) _ _ s;refine Zc (wpAny_pyNext_list_end hh st ⟨_,e,rfl,_,rfl⟩ (by simp at hl2 ⊢; omega) fun h' eb=>?_);show wpAny _ A.in1 (Builtin.Dict.addKeywords d []>>=_) _ _ _;exact Zc (Zm (Zm (fin _ (I.turned (t':=s.toks) (fun b o hb e=>eb b o hb e) f0 f1 f3 f4 f5))))
  | (a,y,v)::ps,pre,j,H,H2,s,I,hl,hp,dp,st,fo,fin=>by
    have fo':=fo;obtain⟨f0,f1,f2,f3,f4,f5⟩:=fo;cases dp with
    | @cons _ H1 _ _ _ _ g dp =>
    obtain⟨z,its,n,r,hl2,e⟩:=I.lstM hl;obtain⟨u,hu1,ru⟩:=r.get (i:=pre.length) (x:=.ref a) (by simp);obtain rfl:u=Zn a:=ru;refine Q4 F.xl_entry_dict_loop ?_;rw[YQ F.xl_plain_dict_loop _];show wpAny _ A.in1 (pyNext (.ref it)>>=_) _ _ s;refine Zc (wpAny_pyNext_list_item st ⟨_,e,rfl,_,rfl⟩ (x:=.ref a) (by simpa using hu1) fun h' st' sb=>?_);have I1:Inv X pins σ H { s with heap:=h' }:=I.turned (t':=s.toks) (fun b o hb e=>(sb.2 b hb).trans e) f0 f1 f3 f4 f5;obtain⟨z2,ts,rt,ot,et,ct,nt,dt⟩:=I1.hok a _ (hp _ Z0);obtain⟨uk,uv,rfl,rk,rv⟩:=xja rt;show wpAny _ A.in1 (holding [.ref a] _>>=_) _ _ _;refine Zc (J4 ?_);refine Zc (wpAny_tryCatch ?_);unfold Builtin.Dict.pairItems;refine Zc (Yg (T:="tuple") ⟨ot,et,ct⟩ ?_);rw[if_pos (by decide)];refine Zc (wpAny_seqItems et dt (Zm ?_));show wpAny _ A.in1 (holding [uk,uv] (dictSet d uk uv)) _ _ _;have ob:∀ b∈[it],∃ o,h'.get? b=some o/\∀ v,o.data≠.cell v:=fun b hb=>by
      have e:b=it:=by simpa using hb
      subst e;obtain⟨o,e,c,d⟩:=id st';exact⟨o,e,fun v z=>by rw[d] at z; cases z⟩
    have I1':=I1.pinned (fp:=[it]) (fun b hb=>by
      have e:b=it:=by simpa using hb
      subst e;exact fo') ob
    refine J4 (xm0 hu I1' g rk rv fun s' I2=>?_);refine Zm ⟨Qg F.xl_plain_dict_loop _,?_⟩;have fo2:FpOk X pins H1 it:=⟨g.free f0,f1,f2,f3,f4,f5⟩
    have st2:s'.heap.IsListIter it l (pre++[V.ref a]).length:=by
      rw[Zs];exact st'.at fun o e=>(I2.pin (it,o) (ZO _ (ZO _ (xc5 (by simp) e)))).1
    refine xgh hh hu ps (pre++[V.ref a]) (j+1) H1 H2 s' I2.unpinned ?_ (fun p hp'=>?_) dp st2 fo2 fin
    . have z:=g.stay hl (fun _ q=>nomatch q) (fun _ q=>nomatch q)
      rw[z];simp
    . exact g.stay (hp p (Z1 _ hp')) (fun _ q=>nomatch q) (fun _ q=>nomatch q)
def xr2:List V->Hp->VK->Prop:=fun xs H Q=>∃(l:Addr) (ps:List (Addr × V × V)),xs=[.ref l]/\H l=some (.lst (ps.map fun p=>.ref p.1))/\(∀ p∈ps,H p.1=some (.tup [p.2.1,p.2.2])) /\
 ∀ d,H d=none->∃ e H2,(e=.dK []\/e=.dT [])/\xf1 d (upd H d e) (ps.map (·.2)) H2/\Q (.ref d) H2
theorem xkx {X:Cx} (hc:X.calm=true) (hu:X.A.units+3<cLine):xbx X (.type "dict") xr2:=by
 intro pins s σ H xs us Q I r h;obtain⟨l,ps,rfl,hl,hp,q⟩:=h;obtain⟨u,rfl,rx⟩:=xbr r;obtain rfl:u=Zn l:=rx;refine callType_codes (Q₁:=fun obj s₁=>obj=.ref s.heap.objs.size/\s₁={ s with heap:=s.heap.push { cls:=.type "dict",data:=.dict #[] } }) F.kt_called_dict (F.kt_typeCall_dict_1 _) F.entry_dict_init (kt_code_dict_new _ ⟨rfl,rfl⟩) ?_;rintro obj s₁ ⟨rfl,rfl⟩;obtain⟨e,H2,he,dps,q2⟩:=q s.heap.objs.size I.fresh;have I1:Inv X pins σ (upd H s.heap.objs.size e) { s with heap:=s.heap.push { cls:=.type "dict",data:=.dict #[] } }:=by
  refine I.laid (t':=s.toks) (fun b u e=>Zg _ e) (Zj _) ?_;rcases he with rfl|rfl
  .exact xgw s.heap I.big
  .exact xj5 s.heap I.big
 have hT:(Shared.mk (s.heap.push { cls:=.type "dict",data:=.dict #[] }) s.gens s.drawn s.toks s.os).TypeIs (.ref s.heap.objs.size) "dict":=⟨_,Zu _ rfl,rfl⟩
 have nl:l≠s.heap.objs.size:=fun z=>by
  rw[z,I.fresh] at hl;cases hl
 have hl1:upd H s.heap.objs.size e l=some (.lst (ps.map fun p=>.ref p.1)):=by rw[xh nl]; exact hl
 obtain⟨z,its,n,rr,hll,el⟩:=I1.lstM hl1;refine⟨hT,F.args_dict_init_2 _ _,?_⟩;unfold Builtin.«dict.__init__»;refine Zc ?_;unfold Builtin.Dict.selfAndRest;refine Zc (Q5 hT ?_);show wpAny _ _ (pure (s.heap.objs.size,[Zn l])) _ _ _;refine Zm ?_;show wpAny _ _ (Builtin.Dict.updateFrom "dict.__init__" s.heap.objs.size (.ref l) [] .none) _ _ _;unfold Builtin.Dict.updateFrom;refine Zc (Yg (T:="list") ⟨_,el,rfl⟩ ?_);rw[if_pos (by decide)];refine Zc (xne el rfl rfl rfl (I.ok.hd hc) fun h' tk hk=>?_);have I2:=I1.kept (h':=h') (t':=tk) hk;show wpAny _ _ (rule _>>=_) _ _ _;refine Zc (Qv ?_);refine Zc (wpAny_pyIter_list ⟨_,hk _ _ el,rfl,_,rfl⟩ ?_);refine Zm ⟨Qg F.xl_plain_dict_loop _,?_⟩;have I3:Inv X pins σ (upd H s.heap.objs.size e) _:=I2.kept (t':=tk) (h':=h'.push { cls:=.type "list_iterator",data:=.fields #[.ref l,.int 0 0] }) fun b o e=>Zg _ e;refine xgh (A:=X.A.in1) (I.ok.hd hc) (by show X.A.units+1+1<cLine; omega) ps [] 0 _ H2 _ I3 (by simpa using hl1) (fun p hp'=>?_) dps ?_ ?_ fun s' I'=>?_
 .rw [xh (xi (hp p hp') I.fresh)];exact hp p hp'
 .exact ⟨_,Zu _ rfl,rfl,rfl⟩
 .exact I2.fpOk (Zj _) (I2.hok.fresh (Zj _))
 .exact ⟨rfl,⟨.ref _,H2,I',rfl,q2⟩⟩
theorem xeq {X:Cx}{e:Expr}{t1 t2:TE} (h1:PE X e t1) (h2:PE X e t2):PE X e (fun σ H Q=>t1 σ H Q\/t2 σ H Q):=fun pins s σ H Q I h=>h.elim (h1 pins s σ H Q I) (h2 pins s σ H Q I)
def Itrs (lo d:Int) (n:Nat):It:=⟨fun i _=>i<n,fun i H x H'=>H'=H/\x=.int (lo+(i:Int)*d),fun i _=>n<=i⟩
theorem xk0 {P:Program}{w:World}{K:Ze}{tg:Expr} (it:Addr) (lo d:Int) (n:Nat):Turn P w K tg (Itrs lo d n) [it] it (fun i h=>IsRangeIter h it (lo+(i:Nat)*d) ((n:Int)-(i:Nat)) d) where
 mem:=by simp
 obj:=fun i h st b hb=>by
  have e:b=it:=by simpa using hb
  subst e;exact⟨_,st,fun v z=>by
   have z':QC _=Data.cell v:=z;cases z'⟩
 keep:=fun i h h' st k=>k it (by simp) _ st
 item:=by
  intro X hP hw hK hc i pins s σ H E I hf st hg;subst hP hw hK;obtain⟨f0,f1,f2,f3,f4,f5⟩:=hf it (by simp);have W:=Walks.range (prog:=X.prog) (w:=X.w) (I.ok.hd hc) it lo d n;refine W.item i s _ _ hg st fun v h' tk hv st' kk=>?_;obtain⟨t,rfl⟩:=hv;have I1:Inv X pins σ H { s with heap:=h',toks:=tk }:=I.turned (fun b o hb e=>kk b o (by simpa using hb) e) f0 f1 f3 f4 f5;exact⟨_,rfl,xjb (s:={ s with heap:=h',toks:=tk }) (n:="range_iterator") st' rfl rfl (by decide) ⟨.int (lo+(i:Int)*d),H,I1,⟨t,rfl⟩,⟨rfl,rfl⟩,st',fun b hb=>(hf b hb).1⟩⟩
 done:=by
  intro X hP hw hK hc i pins s σ H E I hf st hg;subst hP hw hK;obtain⟨f0,f1,f2,f3,f4,f5⟩:=hf it (by simp);exact wpAny_pyNext_range_end (I.ok.hd hc) st (by have:n<=i:=hg; omega) fun h' eb=>⟨rfl,I.turned (t':=s.toks) (fun b o hb e=>eb b o hb e) f0 f1 f3 f4 f5⟩
 self:=fun _ _ _ _ _ st h=>wpAny_pyIter_rangeiter st h
theorem xej (a b:Int):Builtin.Range.rangeSize a b (-1)=if b<a then a-b else 0:=by
 unfold Builtin.Range.rangeSize;rw[if_neg (by decide)];simp only[Int.neg_neg,Int.ediv_one];split<;>omega
theorem xmu {a b:Int} (ha:-(2 ^ 62)<=a) (ha':a<2 ^ 62) (hb:-(2 ^ 62)<=b) (hb':b<2 ^ 62):Builtin.Range.small a b (-1)=true:=by
 unfold Builtin.Range.small;rw[xej];simp only[Builtin.Range.rangeFitsLong,Zy,YT,decide_eq_true_eq,beq_iff_eq,show ¬ ((-1:Int)>0) by decide,if_false];split<;>omega
section
variable {X:Cx}{tg:Expr}
theorem xif {pins:List (Addr × Obj)}{σ:St}{H:Hp}{s:Shared}{R:It->Hp->Prop}{E:Value->Shared->Prop}{lo hi d:Int}{n:Nat}{t u v:Tok}{tk:Nat} (I:Inv X pins σ H s) (sm:Builtin.Range.small lo hi d=true) (sz:Builtin.Range.rangeSize lo hi d=n)
    (q:R (Itrs lo d n) H):wpAny (model X.prog X.w) X.A (pyIter (.ref s.heap.objs.size)) (PIE X pins σ tg R) E { s with heap:=s.heap.push { cls:=.type "range",data:=.fields #[.int lo t,.int hi u,.int d v] },toks:=tk }:=by
  refine wpAny_pyIter_range (IsRange.new ..) sm ?_;have I1:Inv X pins σ H { s with heap:=s.heap.push { cls:=.type "range",data:=.fields #[.int lo t,.int hi u,.int d v] },toks:=tk }:=I.kept fun b o e=>Zg _ e;refine⟨(s.heap.push { cls:=.type "range",data:=.fields #[.int lo t,.int hi u,.int d v] }).objs.size,[(s.heap.push { cls:=.type "range",data:=.fields #[.int lo t,.int hi u,.int d v] }).objs.size],_,_,H,rfl,
    I1.kept (t':=tk) fun b o e=>Zg _ e,xk0 _ lo d n,?_,fun b hb=>?_,q⟩
  . have e1:lo+((0:Nat):Int)*d=lo:=by simp
    have e2:((n:Nat):Int)-((0:Nat):Int)=Builtin.Range.rangeSize lo hi d:=by rw[sz]; simp
    show IsRangeIter _ _ (lo+((0:Nat):Int)*d) (((n:Nat):Int)-((0:Nat):Int)) d;rw[e1,e2];exact Zu _ rfl
  . have e:b=(s.heap.push { cls:=.type "range",data:=.fields #[.int lo t,.int hi u,.int d v] }).objs.size:=by simpa using hb
    subst e;exact I1.fpOk (Zj _) (I1.hok.fresh (Zj _))
def xvc (ta:TA):TI:=fun σ H R=>ta σ H fun vs H1=>∃ i j d:Int,vs=[.int i,.int j,.int d]/\(-(2 ^ 62)<=i/\i<2 ^ 62/\-(2 ^ 62)<=j/\j<2 ^ 62)/\((d=1/\R (Itrs i 1 (j-i).toNat) H1)\/(d=-1/\R (Itrs i (-1) (i-j).toNat) H1))
theorem xiq {a b c:Expr}{ta:TA}{p pos:Pos} (hg:Gl X "range") (hm:X.mg "range"=none) (ha:PA X [a,b,c] ta) (hs:starEach [a,b,c] X.env=[(false,eval a X.env),(false,eval b X.env),(false,eval c X.env)]:=by rfl) (hs2:starEach [b,c] X.env=[(false,eval b X.env),(false,eval c X.env)]:=by rfl) :
    PI X tg (.Call (.Name "range" p) [a,b,c] [] pos) (xvc ta):=by
  intro pins s σ H R I h;refine Call_ (xca I hg hm boot_range (ZP (thn (ha pos pins s σ H _ I h) fun us s1 ⟨vs,H1,I1,r1,q1⟩=>?_) (by rw[hs,hs2]) (by rw[hs2]; rfl)));obtain⟨i,j,d,e,⟨q1,q2,q3,q4⟩,q⟩:=q1;subst e;cases r1 with
  | cons r rr =>
    cases rr with
    | cons r' rr =>
      cases rr with
      | cons r'' rr =>
        cases rr;obtain⟨t,rfl⟩:=r;obtain⟨t',rfl⟩:=r';obtain⟨t'',rfl⟩:=r'';rcases q with⟨rfl,q⟩|⟨rfl,q⟩
        . exact call_range_3 (by decide) (xif I1 (small_one q1 q2 q3 q4) (by rw[rangeSize_one]; split<;>omega) q) (Zo (PyProof.noPylong_small (by decide)))
        . exact call_range_3 (by decide) (xif I1 (xmu q1 q2 q3 q4) (by rw[xej]; split<;>omega) q) (Zo (PyProof.noPylong_small (by decide)))
end
theorem xft {xs:List V}{us:List Value} (r:Vals xs us) {j:Nat} (h:j<us.toArray.size):∃ x,xs[j]?=some x/\RelV x us.toArray[j]:=by
 have hl:=r.length;have hj:j<xs.length:=by simp at h; omega
 obtain⟨u,h1,h2⟩:=r.get (x:=xs[j]) (Zh hj);refine⟨xs[j],Zh hj,?_⟩;have:us.toArray[j]=u:=by
  have z:=Zk.mp h1;obtain⟨z1,z2⟩:=z;simpa using z2
 rw[this];exact h2
theorem xui {A:Around}{k:Nat} (hr:Room q0 k A):A.units+3<cLine:=by have:=hr.un; omega
theorem xbp {A:Around}{k:Nat} (hr:Room q0 k A):A.units+20<cLine:=by have:=hr.un; omega
theorem xi0 {X:Cx}:xbx X (.builtin "len") (fun xs H Q=>∃ a kvs,xs=[.ref a]/\H a=some (.dK kvs)/\Q (.int kvs.length) H):=by
 intro pins s σ H xs us Q I r h;obtain⟨a,kvs,rfl,e,q⟩:=h;obtain⟨u,rfl,rx⟩:=xbr r;obtain rfl:u=Zn a:=rx;exact xuu I (.inl e) fun t s' I'=>⟨.int _,H,I',⟨t,rfl⟩,q⟩
inductive Ents (w:World):List DictEntry->List (Key × V)->Prop
 | nil:Ents w [] []
 | cons {k:Key}{x:V}{key val:Value}{h:Int}{es:List DictEntry}{kvs:List (Key × V)} (hh:h=keyH w k) (hk:RelV (kV k) key) (hv:RelV x val) (r:Ents w es kvs):Ents w (⟨h,key,val⟩::es) ((k,x)::kvs)
def xje (w:World) (K:Ze) (D:Addr) (kvs:List (Key × V)):Prop:=(D == sysModules)=false/\∃(es:Array DictEntry) (ep:Nat),K.lookup D=some ⟨.type "dict",none,.dict es ep,#[]⟩/\Ents w es.toList kvs/\(kvs.map (·.1)).Nodup
theorem Ents.ok {P:Program}{w:World}{es:List DictEntry}{kvs:List (Key × V)} (h:Ents w es kvs):∃ vs,KV kvs vs/\Pairs (xai P w) es vs/\∀ e∈es,∃ k,(xai P w).is k e.key=true/\e.hash=(xai P w).hash k:=by
 induction h with
 | nil=>exact⟨[],.nil,.nil,fun e z=>nomatch z⟩
 | @cons k x key val h es kvs hh hk hv _ ih =>
  obtain⟨vs,a,b,c⟩:=ih;refine⟨(k,val)::vs,.cons ⟨rfl,hv⟩ a,.cons (xcr hk) rfl b,fun e he=>?_⟩;rcases Zx.mp he with rfl|z
  .exact ⟨k,xcr hk,hh⟩
  .exact c e z
section
variable {X:Cx}{pins:List (Addr × Obj)}{σ:St}{H:Hp}{s:Shared}{D:Addr}{kvs:List (Key × V)}
theorem xju (I:Inv X pins σ H s) (g:xje X.w X.K D kvs):∃ vs,KV kvs vs/\s.heap.DictOf (xai X.prog X.w) D vs:=by
 obtain⟨_,es,ep,l,en,nd⟩:=g;obtain⟨vs,a,b,c⟩:=en.ok (P:=X.prog);refine⟨vs,a,_,es,ep,I.kIn _ _ l,⟨rfl,rfl,rfl⟩,rfl,fun e he=>c e (by simpa using he),b,?_⟩;rw[<- a.keys];exact nd
def tGIn (kvs:List (Key × V)) (neg:Bool) (ty:TE):TE:=fun σ H Q=>ty σ H fun y H1=>∃ k:Key,y=kV k/\Q (.bl (if neg then !(valV kvs k).isSome else (valV kvs k).isSome)) H1
theorem xom {i:Expr}{ty:TE}{x:Str}{p:Pos} (hi:PE X i ty) (hg:Gl X x) (hm:X.mg x=some (.ref D)) (g:xje X.w X.K D kvs) (hd:(x == ("__debug__":Str))=false:=by decide):PC X .NotIn i (.Name x p) (tGIn kvs true ty):=by
 intro pins s σ H Q I h;refine thn (hi pins s σ H _ I h) fun iv s1 ⟨y,H1,I1,ry,k,ey,q1⟩=>thn (xcy (v:=.ref D) hg hm rfl hd pins s1 σ H1 (fun v H2=>v=.ref D/\H2=H1) I1 ⟨rfl,rfl⟩) fun u s2 ⟨x,H2,I2,rx,e1,e2⟩=>?_;subst ey e1 e2;obtain rfl:u=Zn D:=rx;obtain⟨vs,rel,dd⟩:=xju I2 g;refine wpAny_notIn_of (xcr ry) g.1 dd.mapOf ?_;rw[<- (rel.val k).isSome_eq];exact⟨.bl _,_,I2.tok _,rfl,q1⟩
end
section
variable {X:Cx}{pins:List (Addr × Obj)}{σ:St}{H:Hp}{s:Shared}{h':Heap}
theorem Inv.turnedL {t':Nat}{ch:List Addr} (I:Inv X pins σ H s) (k:∀ b o,b∉ch->s.heap.get? b=some o->h'.get? b=some o) (hf:∀ b∈ch,FpOk X pins H b):Inv X pins σ H { s with heap:=h',toks:=t' }:=by
 have nit:∀ b u,H b=some u->b∉ch:=fun b u e z=>by
  have:=(hf b z).1;rw[this] at e;cases e
 refine I.step (g':=s.gens) (d':=s.drawn) (ch:=ch) (fun b hb=>?_) (fun b o _ _ hc e _=>k b o hc e) (fun b o _ _ hc e _=>⟨o.slots,k b o hc e⟩) (fun _ _ _ _ n=>n)
  (fun b o hc e=>⟨o,k b o hc e⟩) (fun _ _ e=>e) (fun _ _ _ e=>e) (fun b ps e=>⟨#[],by rw[e]; simp⟩) (fun m hm=>?_) (fun b u e=>?_) I.bare
 .obtain ⟨f0,f1,f2,f3,f4,f5⟩:=hf b hb;exact⟨f3,f1,f4,f5⟩
 .obtain ⟨o,es,ep,ho,r⟩:=hm;exact⟨o,es,ep,k _ o (fun z=>(hf _ z).2.1 rfl) ho,r⟩
 .refine (I.hok b u e).stay (fun c v hc q=>k c v ?_ q) (fun _ q=>q) fun _ _ q=>q;rcases hc with z|z
  .rw [z]; exact nit b u e
  .exact nit c _ z
end
def Itv (K:Ze) (a:Addr) (n:Nat):It :=
 ⟨fun i H=>i<n/\∃ xs,SqL K H a xs/\xs.length=n,fun i H x H'=>H'=H/\∀ xs,SqL K H a xs->xs[n-1-i]?=some x,fun i _=>i=n⟩
theorem xp4 {P:Program}{w:World}{K:Ze}{tg:Expr} (a it:Addr) (n:Nat):Turn P w K tg (Itv K a n) [it] it (fun i h=>h.IsRevIter it a ((n:Int)-1-(i:Int))) where
 mem:=by simp
 obj:=fun i h st b hb=>by
  have e:b=it:=by simpa using hb
  subst e;obtain⟨o,e,c,d⟩:=st;exact⟨o,e,fun v z=>by rw[d] at z; cases z⟩
 keep:=fun i h h' st k=>st.at fun o e=>k it (by simp) o e
 item:=by
  intro X hP hw hK hc i pins s σ H E I hf st hg;subst hP hw hK;obtain⟨lt,xs,hq,hn⟩:=hg;obtain⟨its,rv,p,hz⟩:=I.list hq;have hx:xs[n-1-i]?=some (xs[n-1-i]'(by omega)):=Zh (by omega);generalize (xs[n-1-i]'(by omega))=x at hx;obtain⟨u,hu,ru⟩:=rv.get hx;obtain⟨f0,f1,f2,f3,f4,f5⟩:=hf it (by simp);have e:(n:Int)-1-(i:Int)=((n-1-i:Nat):Int):=by omega
  rw[e] at st;refine wpAny_pyNext_rev_item st p.isList (x:=u) (by simpa using hu) fun h' st' sb=>?_;have e2:((n-1-i:Nat):Int)-1=(n:Int)-1-((i+1:Nat):Int):=by omega
  rw[e2] at st';have I1:Inv X pins σ H { s with heap:=h' }:=I.turned (t':=s.toks) (fun b o hb e=>(sb.2 b hb).trans e) f0 f1 f3 f4 f5;obtain⟨o,e,c,d⟩:=id st';exact⟨u,rfl,xjb (s:={ s with heap:=h' }) e c d (by decide) ⟨x,H,I1,ru,⟨rfl,fun ys hy=>by rw[I.list_inj hy hq]; exact hx⟩,st',fun b hb=>(hf b hb).1⟩⟩
 done:=by
  intro X hP hw hK hc i pins s σ H E I hf st hg;subst hP hw hK;obtain rfl:i=n:=hg;obtain⟨f0,f1,f2,f3,f4,f5⟩:=hf it (by simp);have e:(i:Int)-1-(i:Int)=-1:=by omega
  rw[e] at st;exact wpAny_pyNext_rev_end (I.ok.hd hc) st fun h' eb=>⟨rfl,I.turned (t':=s.toks) (fun b o hb e=>eb b o hb e) f0 f1 f3 f4 f5⟩
 self:=fun _ _ _ _ _ st h=>QJ st h
def iRev (K:Ze) (ta:TA):TI:=fun σ H R=>ta σ H fun vs H1=>∃ a xs,vs=[.ref a]/\SqL K H1 a xs/\R (Itv K a xs.length) H1
section
variable {X:Cx}{tg:Expr}
theorem xkz {a:Expr}{ta:TA}{p pos:Pos} (hg:Gl X "reversed") (hm:X.mg "reversed"=none) (ha:PA X [a] ta) (hs:starEach [a] X.env=[(false,eval a X.env)]:=by rfl):PI X tg (.Call (.Name "reversed" p) [a] [] pos) (iRev X.K ta):=by
 intro pins s σ H R I h;refine Call_ (xca I hg hm PyProof.Rows.Boot.«reversed» (ZP (thn (ha pos pins s σ H _ I h) fun us s1 ⟨vs,H1,I1,r1,q1⟩=>?_) hs rfl));obtain⟨l,xs,e,hq,q⟩:=q1;subst e;obtain⟨u,rfl,ru⟩:=xbr r1;obtain rfl:u=Zn l:=ru;obtain⟨its,rv,p,hz⟩:=I1.list hq;have hl:=rv.length;refine call_reversed_list p.isList ?_;have hit:Heap.IsRevIter (s1.heap.push (revObj l ((its.toArray.size:Int)-1))) s1.heap.objs.size l ((its.toArray.size:Int)-1):=⟨_,Zu _ rfl,rfl,rfl⟩
 refine QJ (s:={ s1 with heap:=s1.heap.push (revObj l ((its.toArray.size:Int)-1)) }) hit ?_;refine⟨s1.heap.objs.size,[s1.heap.objs.size],_,_,H1,rfl,I1.kept (t':=s1.toks) fun b o e=>Zg _ e,xp4 l _ xs.length,?_,fun b hb=>?_,q⟩
 .have e:(its.toArray.size:Int)-1=(xs.length:Int)-1-((0:Nat):Int):=by rw[Z5]; omega
  rw[e] at hit ⊢;exact hit
 .have e:b=s1.heap.objs.size:=by simpa using hb
  subst e;exact I1.fpOk (Zj _) (I1.hok.fresh (Zj _))
end
theorem xr4 {K:Ze}{a:Addr}{xs:List V}{g:TG}{tb:TS}{D:Ends}{σ:St}{H:Hp} (Pv:Nat->St->Hp->Prop) (h0:Pv 0 σ H) (hl:∀ i σ H,i<=xs.length->Pv i σ H->SqL K H a xs)
    (hs:∀ i x σ H,i<xs.length->xs[xs.length-1-i]?=some x->Pv i σ H->g x σ H fun σ2 H2=>tb { D with nx:=Pv (i+1),ct:=Pv (i+1),bk:=D.nx } σ2 H2) (hd:∀ σ H,Pv xs.length σ H->D.nx σ H) :
    ∃ W:Nat->Nat->St->Hp->Prop,(∃ m,W 0 m σ H)/\∀ i m σ H,W i m σ H ->
      ((Itv K a xs.length).stop i H/\D.nx σ H)\/((Itv K a xs.length).go i H/\∃ N:St->Hp->Prop,(∀ σ' H',N σ' H'->∃ m',m'<m/\W (i+1) m' σ' H')/\∀ x H',(Itv K a xs.length).yld i H x H'->g x σ H' fun σ2 H2=>tb { D with nx:=N,ct:=N,bk:=D.nx } σ2 H2):=by
  refine⟨fun i m σ H=>m=xs.length-i/\i<=xs.length/\Pv i σ H,⟨xs.length,by simp,ZZ _,h0⟩,?_⟩;rintro i m σ H ⟨rfl,hi,p⟩;have q:=hl i σ H hi p;by_cases hlt:i<xs.length
  . refine .inr ⟨⟨hlt,xs,q,rfl⟩,Pv (i+1),fun σ' H' p'=>⟨xs.length-(i+1),by omega,rfl,hlt,p'⟩,fun x H' y=>?_⟩
    obtain⟨e,y⟩:=y;subst e;exact hs i x σ _ hlt (y xs q) p
  . have e:i=xs.length:=by omega
    subst e;exact .inl ⟨rfl,hd σ H p⟩
theorem xnd {a b:Nat} (h:a≠b):(a:Addr)≠(b:Addr):=h
def Ite (K:Ze) (a:Addr):It :=
 ⟨fun i H=>∃ xs x,SqL K H a xs/\xs[i]?=some x,fun i H v H'=>∃ p x,(∀ xs,SqL K H a xs->xs[i]?=some x)/\v=.ref p/\H p=none/\H'=upd H p (.tup [.int i,x]),fun i H=>∃ xs,SqL K H a xs/\xs.length<=i⟩
theorem xoz {P:Program}{w:World}{K:Ze}{elts:List Expr}{x1}{tpos:Pos} (e it l:Addr) (hei:e≠it) :
    Turn P w K (.Tuple elts x1 tpos) (Ite K l) [e,it] e (fun i h=>(∃ old,IsEnum h e it i old)/\h.IsListIter it l i) where
  mem:=by simp
  obj:=fun i h st b hb=>by
    obtain⟨⟨old,he⟩,⟨o1,e1,c1,d1⟩⟩:=st;simp only[Zx,J0,or_false] at hb;rcases hb with rfl|rfl
    . exact⟨_,he,fun v k=>by have k':QC _=Data.cell v:=k; cases k'⟩
    . exact⟨_,e1,fun v k=>by rw[d1] at k; cases k⟩
  keep:=fun i h h' ⟨⟨old,he⟩,h1⟩ k=>⟨⟨old,k e (by simp) _ he⟩,h1.at fun o z=>k it (by simp) o z⟩
  item:=by
    intro X hP hw hK hc i pins s σ H E I hf st hg;subst hP hw hK;obtain⟨xs,x,hq,hx⟩:=hg;obtain⟨its,rv,p,hz1⟩:=I.list hq;obtain⟨u,hu,ru⟩:=rv.get hx;obtain⟨⟨old,he⟩,h1⟩:=id st;refine wpAny_pyNext_enum_item he h1 p.isList (x:=u) (by simpa using hu) hei fun h' ho hit' hT hsz hk=>?_;refine⟨_,rfl,wpAny_letOwnedTupleGo_enum (s:={ s with heap:=h',toks:=s.toks+1 }) ho fun h'' he' hs'=>?_⟩;have elt:e<s.heap.objs.size:=Zq he;have pne:s.heap.objs.size≠e:=Yq elt;have kk:∀ b o,b∉[e,it]->s.heap.get? b=some o->h''.get? b=some o:=fun b o hb g=>by
      simp only[Zx,J0,or_false,not_or] at hb;exact (hs'.2 b hb.1).trans (hk b o hb.1 hb.2 g)
    have I1:Inv X pins σ H { s with heap:=h'',toks:=s.toks+1 }:=I.turnedL kk hf;obtain⟨n0,nL,nC,nP⟩:=I.size_lt (Zj s.heap.objs.size);have hp:h''.get? s.heap.objs.size=some { cls:=.type "tuple",data:=.seq #[.int i s.toks,u] }:=(hs'.2 _ pne).trans hT;refine⟨.ref s.heap.objs.size,upd H s.heap.objs.size (.tup [.int i,x]),I1.adopt n0 I.sz nL nC nP ⟨by show 2<=sizeLine; decide,[.int i s.toks,u],.cons ⟨_,rfl⟩ (.cons ru .nil),_,hp,rfl,_,rfl⟩,rfl,
      ⟨_,x,fun zs hz=>by rw[I.list_inj hz hq]; exact hx,rfl,n0,rfl⟩,?_,fun b hb=>?_⟩
    . exact⟨⟨_,by simpa using he'⟩,hit'.at fun o y=>(hs'.2 it (ZE hei)).trans y⟩
    . obtain⟨o,ho⟩:∃ o,s.heap.get? b=some o:=by
        obtain⟨o1,e1,c1,d1⟩:=h1;simp only[Zx,J0,or_false] at hb;rcases hb with rfl|rfl
        . exact⟨_,he⟩
        . exact⟨_,e1⟩
      rw[xh (ZK (Zq ho))];exact (hf b hb).1
  done:=by
    intro X hP hw hK hc i pins s σ H E I hf st hg;subst hP hw hK;obtain⟨xs,hq,hl⟩:=hg;obtain⟨its,rv,p,hz1⟩:=I.list hq;have e1:=rv.length;obtain⟨⟨old,he⟩,h1⟩:=id st;refine wpAny_pyNext_enum_end (I.ok.hd hc) he h1 p.isList (by simp; omega) fun h' hx=>⟨rfl,I.turnedL (t':=s.toks) (fun b o hb g=>?_) hf⟩
    simp only[Zx,J0,or_false,not_or] at hb;exact hx b o hb.2 g
  self:=fun _ _ _ _ _ ⟨⟨_,st⟩,_⟩ h=>Qc st h
def xvh (K:Ze) (ta:TA):TI:=fun σ H R=>ta σ H fun vs H1=>∃ a xs,vs=[.ref a]/\SqL K H1 a xs/\R (Ite K a) H1
section
variable {X:Cx}{elts:List Expr}{x1:_}{tpos:Pos}
theorem xc1 {a:Expr}{ta:TA}{p pos:Pos} (hg:Gl X "enumerate") (hm:X.mg "enumerate"=none) (ha:PA X [a] ta) (hs:starEach [a] X.env=[(false,eval a X.env)]:=by rfl) :
    PI X (.Tuple elts x1 tpos) (.Call (.Name "enumerate" p) [a] [] pos) (xvh X.K ta):=by
  intro pins s σ H R I h;refine Call_ (xca I hg hm PyProof.Rows.Boot.«enumerate» (ZP (thn (ha pos pins s σ H _ I h) fun us s1 ⟨vs,H1,I1,r1,q1⟩=>?_) hs rfl));obtain⟨l,xs,e,hq,q⟩:=q1;subst e;obtain⟨u,rfl,ru⟩:=xbr r1;obtain rfl:u=Zn l:=ru;obtain⟨its,rv,p1,hz1⟩:=I1.list hq;refine call_enumerate_list p1.isList fun h' he h1 hsz hk=>?_;refine Qc (s:={ s1 with heap:=h' }) he ?_;have I2:Inv X pins σ H1 { s1 with heap:=h' }:=I1.kept (t':=s1.toks) hk;refine⟨_,[s1.heap.objs.size+1,s1.heap.objs.size],_,_,H1,rfl,I2,xoz _ _ l (xnd (by omega)),⟨⟨_,he⟩,h1⟩,fun b hb=>?_,q⟩;have hb':s1.heap.objs.size<=b:=by
    simp only[Zx,J0,or_false] at hb;rcases hb with rfl|rfl
    . exact Nat.le_add_right _ 1
    . exact Zj _
  exact I1.fpOk hb' (I1.hok.fresh hb')
end
theorem xe2 {K:Ze}{a:Addr}{xs:List V}{g:TG}{tb:TS}{D:Ends}{σ:St}{H:Hp} (Pv:Nat->St->Hp->Prop) (h0:Pv 0 σ H) (hl:∀ i σ H,i<=xs.length->Pv i σ H->SqL K H a xs)
    (hs:∀ i x p σ H,xs[i]?=some x->H p=none->Pv i σ H->g (.ref p) σ (upd H p (.tup [.int i,x])) fun σ2 H2=>tb { D with nx:=Pv (i+1),ct:=Pv (i+1),bk:=D.nx } σ2 H2) (hd:∀ σ H,Pv xs.length σ H->D.nx σ H) :
    ∃ W:Nat->Nat->St->Hp->Prop,(∃ m,W 0 m σ H)/\∀ i m σ H,W i m σ H ->
      ((Ite K a).stop i H/\D.nx σ H)\/((Ite K a).go i H/\∃ N:St->Hp->Prop,(∀ σ' H',N σ' H'->∃ m',m'<m/\W (i+1) m' σ' H')/\∀ x H',(Ite K a).yld i H x H'->g x σ H' fun σ2 H2=>tb { D with nx:=N,ct:=N,bk:=D.nx } σ2 H2):=by
  refine⟨fun i m σ H=>m=xs.length-i/\i<=xs.length/\Pv i σ H,⟨xs.length,by simp,ZZ _,h0⟩,?_⟩;rintro i m σ H ⟨rfl,hi,p⟩;have q:=hl i σ H hi p;by_cases hlt:i<xs.length
  . refine .inr ⟨⟨xs,xs[i],q,by simp[hlt]⟩,Pv (i+1),fun σ' H' p'=>⟨xs.length-(i+1),by omega,rfl,hlt,p'⟩,fun x H' y=>?_⟩
    obtain⟨r,x',e1,rfl,hr,rfl⟩:=y;exact hs i x' r σ H (e1 _ q) hr p
  . have e:i=xs.length:=by omega
    subst e;exact .inl ⟨⟨xs,q,Zj _⟩,hd σ H p⟩
end L2
namespace L2
open PySem PySem.Spec PyProof.Rows XL
def tMid (t:TS):TS:=fun D σ H=>∃ Pv:St->Hp->Prop,t { D with nx:=Pv } σ H/\∀ σ' H',Pv σ' H'->D.nx σ' H'
theorem xcc {X:Cx}{st:Stmt}{t:TS} (h:PS X st t):PS X st (tMid t):=by
 intro pins s σ H D I q;obtain⟨Pv,q1,q2⟩:=q;refine thn (h pins s σ H { D with nx:=Pv } I q1) fun fl s1 z=>?_;cases fl with
 | next =>
  obtain⟨σ',H',I',r⟩:=z;exact⟨σ',H',I',q2 _ _ r⟩
 | _=>exact z
end L2
namespace XL
open PySem PySem.W
end XL
namespace L2
open PySem PySem.Spec PyProof.Rows XL
variable {q0:Bool}
end L2
namespace L2
open PySem PySem.Spec PyProof.Rows XL
end L2
namespace L2
open PySem PySem.Calls PyProof PyProof.Rows
end L2
namespace PySem.F
end PySem.F
namespace L2
open PySem PySem.Spec PyProof.Rows XL
variable {q0:Bool}
end L2
namespace L2
open PySem PySem.Spec PyProof.Rows XL PySem.W
variable {q0:Bool}
theorem xhw {prog:Program}{w:World}{A:Around}{E:Value->Shared->Prop}{s:Shared}{a:Addr}{vs:List Value}{n:Nat}{P:PySem.Fin->Shared->Prop}
    (h:s.heap.get? a=some (seqObj "list" vs.toArray n)) (h2:2<=vs.length) (h64:vs.length<64)
    (hk:∀ s':Shared,s'.heap=(((s.heap.update a (Jn fun x=>#[])).push (seqObj "tuple" vs.toArray 0)).push (seqObj "list" #[] 0))->s'={ s with heap:=s'.heap } ->
      wpAny (model prog w) A (keyKind' vs.toArray) (fun κ s''=>s''=s'/\KasT.kasWp (kas_ask prog w A κ vs) (kas_sort vs.length) (fun p s3=>s3=s'/\P (.done (.ret .none)) { s with heap:=sortedHeap s.heap a vs (p.map fun i=>vs.getD i .none) }) s'') (fun _ _=>False) s') :
    wpAny (model prog w) A (Builtin.«list.sort» { pos:=[.ref a] }) P E s:=by
  obtain⟨hp,g,d,tk,os⟩:=s;rw[list_sort_plain]
  repeat (any_goals (first|assumption|wp_step))
  have z:¬ vs.toArray.toList.toArray.size>sizeLine:=by
    simp;exact JG (ZV h64 (by decide))
  rw[if_neg z];generalize keyKind' vs.toArray=kk at hk ⊢
  repeat (any_goals (first|assumption|wp_step))
  have hk':=hk { heap:=((hp.update a (Jn fun x=>#[])).push (seqObj "tuple" vs.toArray 0)).push (seqObj "list" #[] 0),gens:=g,drawn:=d,toks:=tk,os:=os } rfl rfl;refine ZY hk' (fun κ s'' z=>?_) (fun _ _ z=>z.elim);obtain⟨e,q⟩:=z;subst e;show wpAny _ _ (StateT.run (if vs.toArray.size<2 then pure () else sortRuns') _>>=_) _ _ _;rw[if_neg (by simp; omega)];refine Zc (ZY (kat_run (E:=E) (Q:=fun st' s'=>∃ p:Array Nat,p.size=vs.length/\arrOf st'=YW (kas_item (vs.toArray.zip vs.toArray)) p/\failedOf st'=none/\s'=_/\P (.done (.ret .none)) { heap:=sortedHeap hp a vs (p.map fun i=>vs.getD i .none),gens:=g,drawn:=d,toks:=tk,os:=os }) rfl h2 h64 (fun p st' s' hp' e f q'=>⟨p,hp',e,f,q'.1,q'.2⟩) q) (fun r s' z=>?_) fun _ _ z=>z);obtain⟨u,st⟩:=r;obtain⟨p,psz,e,f,rfl,q'⟩:=z;have al:a<hp.objs.size:=Zq h;have g1:(((hp.update a (Jn fun x=>#[])).push (seqObj "tuple" vs.toArray 0)).push (seqObj "list" #[] 0)).get? a=some (seqObj "list" #[] (n+1)):=by
    refine Zg _ (Zg _ ?_);rw[ZU _ h rfl];have z:((0:Nat) == vs.length)=false:=by
      cases vs with
      | nil=>simp at h2
      | cons=>rfl
    simp[Jn,z]
  have e2:(if (((fun x=>#[]) vs.toArray:Array Value).size == vs.toArray.size)=true then n else n+1)=n+1:=by
    rw[if_neg];simp;omega
  simp only[e2,f];have e3:YW (fun x=>x.snd) (arrOf st)=p.map fun i=>vs.getD i .none:=by
    rw[e,Array.map_map]
    congr 1
    funext i;show (kas_item (vs.toArray.zip vs.toArray) i).snd=_;unfold kas_item;by_cases c:i<vs.length
    . simp[Zh c,c]
    . simp[JD (by omega:vs.length<=i),c]
  simp only[e3]
  repeat (any_goals (first|assumption|wp_step))
  have e4:(Jn (fun x=>YW (fun i=>vs.getD i Jd) p) (seqObj "list" #[] (n+1))).data.pastItsLine=none:=by
    show (if (YW (fun i=>vs.getD i Jd) p).size>sizeLine+1 then _ else none)=none;rw[if_neg];rw[Array.size_map,psz];have:vs.length<sizeLine:=ZV h64 (by decide);omega
  rw[e4];refine Zm ?_;rw[f];show wpAny _ _ (if (n+1 != n+1)=true then _ else _) _ _ _;rw[if_neg (by simp)];exact Zm q'
theorem xjl {prog:Program}{w:World}{A:Around}{E:Value->Shared->Prop}{s:Shared}{it d:Addr}{i ep:Nat}{o:Obj}{es:Array DictEntry}{en:DictEntry}{Q:Option Value->Shared->Prop}
    (st:s.heap.IsKeyIter it d i es.size ep) (hd:s.heap.get? d=some o) (hx:o.ExactDict) (hdat:o.data=.dict es ep) (hi:es[i]?=some en)
    (h:∀ h',h'.IsKeyIter it d (i+1) es.size ep->ZN it s.heap h'->Q (some en.key) { s with heap:=h' }):wpAny (model prog w) A (pyNext (.ref it)) Q E s:=by
  unfold pyNext;refine Zc (JZ (JH st.typeIs JK ?_));refine Js JK st.typeIs F.entry_dict_keyiterator_next ?_ (F.args_dict_keyiterator_next_1 _);have ti:=st.typeIs;obtain⟨hp,g,dr,tk,os⟩:=s;obtain⟨⟨c,dct,dat,sl⟩,hit,ci,di⟩:=st;simp only at ci di;subst ci di;unfold Builtin.«dict_keyiterator.__next__»
  repeat (any_goals (first|assumption|(with_reducible refine Ye ti ?_)|(with_reducible refine YH ti ?_)|(with_reducible refine Jj hd hdat ?_)|(with_reducible refine JT hd hdat ?_)|wp_step))
  have e1:(if (i:Int)<0 then none else es[(i:Int).toNat]?)=some en:=by
    rw[if_neg (by omega),YD];exact hi
  rw[e1]
  repeat (any_goals (first|assumption|(with_reducible refine Ye ti ?_)|(with_reducible refine YH ti ?_)|(with_reducible refine Jj hd hdat ?_)|(with_reducible refine JT hd hdat ?_)|wp_step))
  refine⟨_,rfl,Zm (h _ ?_ (ZN.update _ _ _))⟩;refine⟨_,ZU _ hit rfl,rfl,?_⟩;rfl
theorem xk2 {prog:Program}{w:World}{A:Around}{E:Value->Shared->Prop}{s:Shared}{it d:Addr}{ep:Nat}{o:Obj}{es:Array DictEntry}{Q:Option Value->Shared->Prop}
    (hA:A.handled=none) (st:s.heap.IsKeyIter it d es.size es.size ep) (hd:s.heap.get? d=some o) (hx:o.ExactDict) (hdat:o.data=.dict es ep)
    (h:∀ h',Heap.ExtBut it s.heap h'->Q none { s with heap:=h' }):wpAny (model prog w) A (pyNext (.ref it)) Q E s:=by
  unfold pyNext;refine Zc (JZ (JH st.typeIs JK ?_));refine Js JK st.typeIs F.entry_dict_keyiterator_next ?_ (F.args_dict_keyiterator_next_1 _);have ti:=st.typeIs;obtain⟨hp,g,dr,tk,os⟩:=s;obtain⟨⟨c,dct,dat,sl⟩,hit,ci,di⟩:=st;simp only at ci di;subst ci di;unfold Builtin.«dict_keyiterator.__next__»
  repeat (any_goals (first|assumption|(with_reducible refine Ye ti ?_)|(with_reducible refine YH ti ?_)|(with_reducible refine Jj hd hdat ?_)|(with_reducible refine JT hd hdat ?_)|wp_step))
  have e1:(if (es.size:Int)<0 then none else es[(es.size:Int).toNat]?)=none:=by
    rw[if_neg (by omega),YD];simp
  rw[e1]
  repeat (any_goals (first|assumption|(with_reducible refine Ye ti ?_)|(with_reducible refine YH ti ?_)|(with_reducible refine Jj hd hdat ?_)|(with_reducible refine JT hd hdat ?_)|wp_step))
  refine wpAny_raiseNew_none hA ?_;refine Zc (Yt ⟨_,Zu _ rfl,rfl⟩ isSubtype_stop (Zm (h _ fun b o nb e=>?_)));refine Zg _ (Zg _ ?_);rw[J8 _ _ (ZE nb)];exact e
theorem xpi {prog:Program}{w:World}{A:Around}{E:Value->Shared->Prop}{s:Shared}{d:Addr}{ep:Nat}{o:Obj}{es:Array DictEntry}{Q:Value->Shared->Prop}
    (hs:(d == sysModules)=false) (hd:s.heap.get? d=some o) (hx:o.ExactDict) (hdat:o.data=.dict es ep)
    (h:Q (.ref s.heap.objs.size) { s with heap:=s.heap.push { cls:=.type "dict_keyiterator",data:=.fields #[.ref d,.int 0 0,.int es.size 0,.int ep 0] } }):wpAny (model prog w) A (pyIter (.ref d)) Q E s:=by
  have ti:s.TypeIs (.ref d) "dict":=⟨o,hd,hx.1⟩
  obtain⟨c,dct,dat,sl⟩:=o;obtain⟨x1,x2,x3⟩:=hx;simp only at x1 x2 x3 hdat;subst x1 x2 x3 hdat;refine wpAny_pyIter_slot ti F.slot_dict_iter ?_;refine Js F.slot_dict_iter ti F.entry_dict_iter ?_ (F.args_dict_iter_1 _);obtain⟨hp,g,dr,tk,os⟩:=s;unfold Builtin.«dict.__iter__»
  repeat (any_goals (first|assumption|(with_reducible refine Q5 ti ?_)|(with_reducible refine Jj hd rfl ?_)|(with_reducible refine JT hd rfl ?_)|wp_step))
  exact⟨_,rfl,_,_,⟨_,Zu _ rfl,rfl⟩,JK.lookup,h⟩
theorem xlq {prog:Program}{w:World}{d:Addr}{ep:Nat}{o:Obj}{es:Array DictEntry} (hs:(d == sysModules)=false) (hx:o.ExactDict) (hdat:o.data=.dict es ep) :
    KdlSrc prog w "dict" d d es.size (fun i v=>∃ en,es[i]?=some en/\v=en.key) (fun h=>h.get? d=some o) where
  type:=fun s h=>⟨o,h,hx.1⟩
  there:=fun h e=>⟨Zq e,Zq e⟩
  keep:=fun h h' e k=>k d (.inl rfl) o e
  notList:=by decide
  notTuple:=by decide
  hint:=fun A E s Q h q=>kdl_hint_dict ⟨o,h,hx.1⟩ q
  iter:=fun A s hA h=>by
    have dl:=Zq h;refine⟨{ cls:=.type "dict_keyiterator",data:=.fields #[.ref d,.int 0 0,.int es.size 0,.int ep 0] },fun i h=>h.IsKeyIter s.heap.objs.size d i es.size ep/\h.get? d=some o,fun E Q q=>xpi hs h hx hdat q,?_,⟨_,Zu _ rfl,rfl,rfl⟩,Zg _ h⟩;have dn:d≠s.heap.objs.size:=ZK dl;exact {
      sub:=fun b hb=>by
        have e:b=s.heap.objs.size:=by simpa using hb
        rw[e];simp
      frame:=fun i h h' st k=>⟨st.1.at fun o e=>k _ (by simp) o e,k _ (by simp) _ st.2⟩
      item:=fun i s' Q E hi st q=>by
        refine xjl st.1 st.2 hx hdat (JR hi) fun h' st' sb=>q _ h' s'.toks ⟨_,JR hi,rfl⟩ ⟨st',(sb.2 d dn).trans st.2⟩ fun b o hb e=>?_;exact (sb.2 b (by simpa using hb)).trans e
      done:=fun s' Q E st q=>by
        refine xk2 hA st.1 st.2 hx hdat fun h' eb=>q h' s'.toks fun b o hb e=>?_;exact eb b o (by simpa using hb) e
      self:=fun i s' Q E st q=>wpAny_pyIter_keyiter st.1 q }
def xcz:Key->Key->Bool
 | .inl a,.inl b=>decide (a<b)
 | .inr a,.inr b=>decide (a.cps.toList<b.cps.toList)
 | _,_=>false
def lexK:List Key->List Key->Bool
 | [],[]=>false
 | [],_::_=>true
 | _::_,[]=>false
 | x::xs,y::ys=>if x=y then lexK xs ys else xcz x y
abbrev shp (k:List Key):List Bool:=k.map Sum.isLeft
theorem xsy {a b:Str} (h:a.cps.toList=b.cps.toList):a=b:=by
 cases a;cases b;simp at h;rw[h]
theorem xni (x:Key):xcz x x=false:=by
 cases x with
 | inl a=>simp[xcz]
 | inr a=>exact QK.irrefl a.cps.toList
theorem xpt {x y z:Key} (h1:xcz x y=true) (h2:xcz y z=true):xcz x z=true:=by
 cases x<;>cases y<;>cases z<;>simp only[xcz,Jo] at h1 h2
 .have a:=of_decide_eq_true h1;have b:=of_decide_eq_true h2;exact decide_eq_true (Int.lt_trans a b)
 .exact QK.trans _ _ _ h1 h2
theorem xm7 {x y:Key} (hs:x.isLeft=y.isLeft) (ne:x≠y) (h:xcz x y=false):xcz y x=true:=by
 cases x with
 | inl a =>
  cases y with
  | inl b =>
   have h':¬ a<b:=of_decide_eq_false h;have n':a≠b:=fun e=>ne (by rw[e]);exact decide_eq_true (show b<a by omega)
  | inr b=>cases hs
 | inr a =>
  cases y with
  | inl b=>cases hs
  | inr b =>
   cases e:xcz (.inr b) (.inr a) with
   | true=>rfl
   | false=>exact absurd (by rw[xsy (QK.total _ _ h e)]) ne
theorem xjm:∀ x:List Key,lexK x x=false
 | []=>rfl
 | x::xs=>by
  unfold lexK;rw[if_pos rfl];exact xjm xs
theorem xli:∀{x y z:List Key},shp x=shp y->shp y=shp z->lexK x y=true->lexK y z=true->lexK x z=true
 | [],[],_,_,_,h,_=>by cases h
 | [],_::_,_,h,_,_,_=>by cases h
 | _::_,[],_,h,_,_,_=>by cases h
 | _::_,_::_,[],_,h,_,_=>by cases h
 | x::xs,y::ys,z::zs,h1,h2,h3,h4=>by
  simp only[shp,Zr,JS.injEq] at h1 h2;unfold lexK at h3 h4 ⊢;by_cases xy:x=y
  .subst xy;rw[if_pos rfl] at h3;by_cases yz:x=z
   .rw [if_pos yz] at h4 ⊢;exact xli h1.2 h2.2 h3 h4
   .rw [if_neg yz] at h4 ⊢;exact h4
  .rw [if_neg xy] at h3;by_cases yz:y=z
   .subst yz;rw[if_neg xy];exact h3
   .rw [if_neg yz] at h4;have h5:=xpt h3 h4;rw[if_neg (fun e=>by rw[e,xni] at h5; cases h5)];exact h5
theorem xku:∀{x y:List Key},shp x=shp y->x≠y->lexK x y=false->lexK y x=true
 | [],[],_,h,_=>absurd rfl h
 | [],_::_,h,_,_=>by cases h
 | _::_,[],h,_,_=>by cases h
 | x::xs,y::ys,h1,h2,h3=>by
  simp only[shp,Zr,JS.injEq] at h1;unfold lexK at h3 ⊢;by_cases xy:x=y
  .subst xy;rw[if_pos rfl] at h3 ⊢;exact xku h1.2 (fun e=>h2 (by rw[e])) h3
  .rw [if_neg xy] at h3;rw[if_neg (fun e=>xy e.symm)];exact xm7 h1.1 xy h3
theorem xkf {prog:Program}{w:World}{A:Around}{s:Shared}{b:Bool}{Q:Bool->Shared->Prop}:∀(xs ys:List Key) (us vs:List Value) (i:Nat),shp xs=shp ys->Vals (xs.map kV) us->Vals (ys.map kV) vs->Q (lexK xs ys) s->KatLex prog w A b false Q (us.zip vs) i s
 | [],[],_,_,i,_,.nil,.nil,q=>kat_nil q
 | [],_::_,_,_,_,h,_,_,_=>by cases h
 | _::_,[],_,_,_,h,_,_,_=>by cases h
 | x::xs,y::ys,_,_,i,h,.cons ru r,.cons rv r',q=>by
  simp only[shp,Zr,JS.injEq] at h;unfold lexK at q;cases x with
  | inl a =>
   cases y with
   | inr c=>cases h.1
   | inl c =>
    obtain⟨t,rfl⟩:=ru;obtain⟨t',rfl⟩:=rv;refine kat_cons (wpAny_eqBool_int ?_);unfold KatGo;by_cases e:a=c
    .subst e;rw[if_pos rfl] at q;rw[if_pos (by simp)];exact xkf xs ys _ _ (i+1) h.2 r r' q
    .rw [if_neg (fun z=>e (Y9.inj z))] at q;rw[if_neg (by simpa using e)];cases (b&&i == 0) with
     | true=>exact oneLt_int q
     | false=>exact kat_one _ _ (lt_int q)
  | inr a =>
   cases y with
   | inl c=>cases h.1
   | inr c =>
    obtain⟨t,rfl⟩:=ru;obtain⟨t',rfl⟩:=rv;refine kat_cons (wpAny_eqBool_str ?_);unfold KatGo;by_cases e:a=c
    .subst e;rw[if_pos rfl] at q;rw[if_pos (by simp)];exact xkf xs ys _ _ (i+1) h.2 r r' q
    .rw [if_neg (fun z=>e (Jf.inj z))] at q;rw[if_neg (by simpa using e)];cases (b&&i == 0) with
     | true=>exact oneLt_str q
     | false=>exact kat_one _ _ (lt_str q)
theorem xi4 {prog:Program}{w:World}{A:Around}{E:Value->Shared->Prop}{s:Shared}{a:Addr}{vs:List Value}{n:Nat}{P:PySem.Fin->Shared->Prop}
    (h:s.heap.get? a=some (seqObj "list" vs.toArray n)) (h2:vs.length<2) (q':P (.done (.ret .none)) { s with heap:=sortedHeap s.heap a vs vs.toArray }) :
    wpAny (model prog w) A (Builtin.«list.sort» { pos:=[.ref a] }) P E s:=by
  obtain⟨hp,g,d,tk,os⟩:=s;rcases vs with _|⟨v,_|⟨v',r⟩⟩
  . rw[list_sort_plain]
    repeat (any_goals (first|assumption|wp_step))
    show wpAny _ _ (pure (YY,SortSt.mk' general' ((#[]:Array Value).zip #[]) #[] 7 none)) _ _ _;refine Zm ?_;have e3:YW (fun x=>x.snd) (arrOf (SortSt.mk' general' ((#[]:Array Value).zip #[]) #[] 7 none))=#[]:=by
      show YW (fun x=>x.snd) ((#[]:Array Value).zip #[])=#[];simp
    simp only[e3];have g1:(((hp.update a (Jn fun x=>#[])).push (seqObj "tuple" #[] 0)).push (seqObj "list" #[] 0)).get? a=some (seqObj "list" #[] (n)):=by
      refine Zg _ (Zg _ ?_);rw[ZU _ h rfl];rfl
    show wpAny _ _ (seqEpoch a>>=_) _ _ _
    repeat (any_goals (first|assumption|wp_step))
  . rw[list_sort_plain]
    repeat (any_goals (first|assumption|wp_step))
    show wpAny _ _ (pure (YY,SortSt.mk' general' ((#[v]:Array Value).zip #[v]) #[] 7 none)) _ _ _;refine Zm ?_;have e3:YW (fun x=>x.snd) (arrOf (SortSt.mk' general' ((#[v]:Array Value).zip #[v]) #[] 7 none))=#[v]:=by
      show YW (fun x=>x.snd) ((#[v]:Array Value).zip #[v])=#[v];simp
    simp only[e3];have g1:(((hp.update a (Jn fun x=>#[])).push (seqObj "tuple" #[v] 0)).push (seqObj "list" #[] 0)).get? a=some (seqObj "list" #[] (n+1)):=by
      refine Zg _ (Zg _ ?_);rw[ZU _ h rfl];rfl
    show wpAny _ _ (seqEpoch a>>=_) _ _ _
    repeat (any_goals (first|assumption|wp_step))
  . simp at h2
    omega
theorem xe7 {α:Type} (f:α->Addr):∀(es:List α),Vals (es.map fun x=>V.ref (f x)) (es.map fun x=>Zn (f x))
 | []=>.nil
 | x::r=>.cons rfl (xe7 f r)
theorem xth {H:Hp}{kvs:List (List Key × V)}{es:List (List Key × Addr × Value)} (h:KT H kvs es):(∀ x∈es,H x.2.1=some (.tup (x.1.map kV)))/\es.map (·.1)=kvs.map (·.1):=by
 induction h with
 | nil=>exact⟨(fun _ z=>nomatch z),rfl⟩
 | @cons p x kvs es hp r ih =>
  obtain⟨e1,e2,_⟩:=hp;refine⟨fun y hy=>?_,by rw[Zr,Zr,ih.2,e1]⟩;rcases Zx.mp hy with rfl|z
  .rw [<- e1];exact e2
  .exact ih.1 y z
theorem xoa {P:Program}{w:World}{H:Hp}{h:Heap} (ok:HOk P w H h) {b:Bool}{sh:List Bool}:∀(es:List (List Key × Addr × Value)),(∀ x∈es,H x.2.1=some (.tup (x.1.map kV)))->(∀ x∈es,shp x.1=b::sh) ->
    ∃ fs,KatTups h (es.map fun x=>Zn x.2.1) fs/\fs.length=es.length/\∀ v∈fs,if b=true then ∃ i t,v=QN i t else ∃ i t,v=Qn i t
  | [],_,_=>⟨[],KatTups.nil,rfl,fun _ z=>nomatch z⟩
  | x::es,h1,h2=>by
    obtain⟨fs,k,l,m⟩:=xoa ok es (fun y hy=>h1 y (Z1 _ hy)) (fun y hy=>h2 y (Z1 _ hy));obtain⟨z2,ts,rt,ot,et,ct,nt,dt⟩:=ok x.2.1 _ (h1 x Z0);have s1:=h2 x Z0;obtain⟨k1,a1,v1⟩:=x;cases k1 with
    | nil=>cases s1
    | cons k0 kr =>
      simp only[shp,Zr,JS.injEq] at s1;simp only[Zr] at rt;cases rt with
      | @cons _ u _ us ru rr =>
        refine⟨u::fs,KatTups.cons et ct dt (by simp) k,by simp[l],fun v hv=>?_⟩;rcases Zx.mp hv with rfl|hv'
        . cases k0 with
          | inl i =>
            obtain⟨t,rfl⟩:=ru;rw[if_pos (show b=true from s1.1.symm)];exact⟨i,t,rfl⟩
          | inr i =>
            obtain⟨t,rfl⟩:=ru;rw[if_neg (show ¬ b=true by rw[<- s1.1]; simp)];exact⟨i,t,rfl⟩
        . exact m v hv'
theorem xir {X:Cx}{pins:List (Addr × Obj)}{σ:St}{H:Hp}{s:Shared}{h1:Heap}{tk:Nat}{Q:VK}{sh:List Bool} (es':List (List Key × Addr × Value)) (I1:Inv X pins σ H { s with heap:=h1,toks:=tk })
    (hl:es'.length<64) (km:∀ x∈es',H x.2.1=some (.tup (x.1.map kV))) (shE:∀ x∈es',shp x.1=sh) (hpos:0<sh.length) (hnd:(List.map (fun x=>x.fst) es').Nodup)
    (q:∀(l:Addr) (ts:List (List Key × Addr)),H l=none->ts.Perm (es'.map fun x=>(x.1,x.2.1))->(ts.map (·.1)).Pairwise (fun x y=>lexK x y=true)->Q (.ref l) (upd H l (.lst (ts.map fun t=>.ref t.2)))) :
    wpAny (model X.prog X.w) X.A.in1 (newList (es'.map fun x=>Zn x.2.1)>>=fun l=>holding [l] (call (.builtin "list.sort") [l] [])>>=fun _=>ret l) (fun fin s'=>∃ v,fin=Fin.done (Flow.ret v)/\EP X pins σ Q v s') X.xe { s with heap:=h1,toks:=tk }:=by
  have hz:es'.length<=sizeLine:=JG (ZV hl (by decide));have vals:Vals (es'.map fun x=>V.ref x.2.1) (es'.map fun x=>Zn x.2.1):=xe7 (fun x=>x.2.1) es';have I2:=I1.lnew (t':=tk) vals (by rw[Za]; exact hz);refine Zc (wpAny_newList ?_ (by rw[Za]; exact hz));have fr:H h1.objs.size=none:=I1.fresh;have gl:(h1.push { cls:=.type "list",data:=.seq (es'.map fun x=>Zn x.2.1).toArray }).get? h1.objs.size=some (seqObj "list" (es'.map fun x=>Zn x.2.1).toArray 0):=Zu _ rfl;refine Zc (J4 (Js slot_list_sort ⟨_,gl,rfl⟩ entry_list_sort ?_ (args_list_sort _)));have J1:=I2.lset (l:=h1.objs.size) (its:=es'.map fun x=>Zn x.2.1) (its':=[]) (ys:=[]) (f:=fun _=>#[]) (t':=tk) xb gl rfl .nil (ZZ _);have J2:=J1.kept (t':=tk) (h':=(((h1.push { cls:=.type "list",data:=.seq (es'.map fun x=>Zn x.2.1).toArray }).update h1.objs.size (Jn fun _=>#[])).push (seqObj "tuple" (es'.map fun x=>Zn x.2.1).toArray 0)).push (seqObj "list" #[] 0)) fun b u e=>Zg _ (Zg _ e);obtain⟨z9,its9,n9,r9,hl9,e9⟩:=J2.lstM xb;have done:∀(ts:List (List Key × Addr)),ts.Perm (es'.map fun x=>(x.1,x.2.1))->(ts.map (·.1)).Pairwise (fun x y=>lexK x y=true) ->
      EP X pins σ Q (.ref h1.objs.size) { s with heap:=sortedHeap (h1.push { cls:=.type "list",data:=.seq (es'.map fun x=>Zn x.2.1).toArray }) h1.objs.size (es'.map fun x=>Zn x.2.1) (ts.map fun t=>Zn t.2).toArray,toks:=tk }:=by
    intro ts pm pw;have tl:ts.length=es'.length:=by rw[pm.length_eq,Za]
    have J3:=J2.lset (l:=h1.objs.size) (its:=its9) (its':=ts.map fun t=>Zn t.2) (ys:=ts.map fun t=>V.ref t.2) (f:=fun _=>(ts.map fun t=>Zn t.2).toArray) (t':=tk) xb e9 rfl (xe7 (fun t=>t.2) ts) (by rw[Za,tl]; exact hz);rw[xef,xef] at J3;exact⟨.ref h1.objs.size,_,J3,rfl,q _ ts fr pm pw⟩
  by_cases few:es'.length<2
  . refine xi4 gl (by rw[Za]; exact few) ⟨_,rfl,Zm ⟨_,rfl,?_⟩⟩
    have:=done (es'.map fun x=>(x.1,x.2.1)) (QO.refl _) ?_
    . rw[Zl] at this
      exact this
    . match es',few with
      | [],_=>exact .nil
      | [x],_=>exact List.pairwise_singleton _ _
      | _::_::_,h=>exact absurd h (by simp)
  . refine xhw gl (by rw[Za]; omega) (by rw[Za]; exact hl) fun s' es1 es2=>?_
    obtain⟨b,sh0,rfl⟩:∃ b sh0,sh=b::sh0:=by
      cases sh with
      | nil=>simp at hpos
      | cons b r=>exact⟨b,r,rfl⟩
    rw[es1] at es2;subst es2;have km2:∀ x∈es',upd (upd H h1.objs.size (.lst (es'.map fun x=>V.ref x.2.1))) h1.objs.size (.lst []) x.2.1=some (.tup (x.1.map kV)):=fun x hx=>by
      rw[xh (xi (km x hx) fr),xh (xi (km x hx) fr)];exact km x hx
    obtain⟨fs,kt,fl,fm⟩:=xoa J2.hok es' km2 shE;have few':2<=es'.length:=by omega
    refine kat_kind (T:=if b=true then .type "int" else .type "str") kt (by omega) (fun v hv=>?_) (by cases b<;>rfl) ⟨rfl,?_⟩
    . have z:=fm v hv
      cases b with
      | true =>
        obtain⟨i,t,rfl⟩:=z;exact fun A Q E s _ q=>Yg (T:="int") rfl q
      | false =>
        obtain⟨i,t,rfl⟩:=z;exact fun A Q E s _ q=>Yg (T:="str") rfl q
    rw[Za];have eAt:∀ i,i<es'.length->es'[i]?=some (es'.getD i ([],0,.none)):=fun i hi=>by
      rw[Jq,Zh hi];rfl
    have eM:∀ i,i<es'.length->es'.getD i ([],0,.none)∈es':=fun i hi=>Zp (eAt i hi);have vAt:∀ i,i<es'.length->(es'.map fun x=>Zn x.2.1).getD i .none=.ref (es'.getD i ([],0,.none)).2.1:=fun i hi=>by
      rw[Jq,Zf,eAt i hi];rfl
    have shI:∀ i j,i<es'.length->j<es'.length->shp (es'.getD i ([],0,.none)).1=shp (es'.getD j ([],0,.none)).1:=fun i j hi hj=>by rw[shE _ (eM i hi),shE _ (eM j hj)]
    refine Srt.sort_wp (lt:=fun i j=>lexK (es'.getD i ([],0,.none)).1 (es'.getD j ([],0,.none)).1) ⟨fun i hi=>xjm _,fun i j k hi hj hk=>xli (shI i j hi hj) (shI j k hj hk),fun i j hi hj ne=>xku (shI i j hi hj) fun e=>ne ?_⟩ (fun i j hi hj Q' q'=>?_) few' fun p arr srt=>⟨rfl,_,rfl,Zm ⟨_,rfl,?_⟩⟩
    . have e1:(es'.map (·.1))[i]?=(es'.map (·.1))[j]?:=by rw[Zf,Zf,eAt i hi,eAt j hj]; exact congrArg some e
      exact (List.getElem?_inj (by rw[Za]; exact hi) hnd).mp e1
    . show wpAny _ _ (keyLt' _ ((es'.map fun x=>Zn x.2.1).getD i .none) ((es'.map fun x=>Zn x.2.1).getD j .none)) _ _ _
      rw[vAt i hi,vAt j hj];obtain⟨_,ti,ri,oi,ei,_,ni,di⟩:=J2.hok _ _ (km2 _ (eM i hi));obtain⟨_,tj,rj,oj,ej,_,nj,dj⟩:=J2.hok _ _ (km2 _ (eM j hj));have l1:=Vals.length ri;have l2:=Vals.length rj;have l3:=congrArg QB (shI i j hi hj);simp only[Za] at l1 l2 l3;refine kat_lt ei di ej dj ?_;rw[decide_eq_false (by simp; omega)];exact xkf _ _ _ _ 0 (shI i j hi hj) ri rj q'
    have pl:∀ i∈p.toList,i<es'.length:=fun i hi=>by
      have:=(Array.Perm.mem_iff arr.pm).mp (Array.mem_toList_iff.mp hi);simpa using this
    have:=done (p.toList.map fun i=>((es'.getD i ([],0,.none)).1,(es'.getD i ([],0,.none)).2.1)) ?_ ?_
    . rw[Zl] at this
      have e2:(p.map fun i=>(es'.map fun x=>Zn x.2.1).getD i .none)=(p.toList.map ((fun t:List Key × Addr=>Zn t.2)∘fun i=>((es'.getD i ([],0,.none)).1,(es'.getD i ([],0,.none)).2.1))).toArray:=by
        rw[<- Array.toList_inj,Array.toList_map];exact ZX fun i hi=>vAt i (pl i hi)
      rw[e2];exact this
    . have e3:(es'.map fun x=>(x.1,x.2.1))=(Zz es'.length).map fun i=>((es'.getD i ([],0,.none)).1,(es'.getD i ([],0,.none)).2.1):=by
        refine List.ext_getElem? fun i=>?_;by_cases c:i<es'.length
        . rw[Zf,eAt i c,Zf,Ju c]
          rfl
        . rw[JD (by rw[Za]; omega),JD (by simp; omega)]
      rw[e3];refine QO.map _ ?_;have:=Array.Perm.toList arr.pm;simpa using this
    . rw[Zl,Z3,List.pairwise_iff_getElem]
      intro i j hi hj hij;have z:=srt i j hij (by rw[<- arr.sz]; simpa using hj);have gi:Srt.g p i=p.toList[i]:=Srt.g_at (by rw[<- Jv]; exact Zh hi);have gj:Srt.g p j=p.toList[j]:=Srt.g_at (by rw[<- Jv]; exact Zh hj);rw[gi,gj] at z;exact z
def xpe:List V->Hp->VK->Prop:=fun xs H Q=>∃(d:Addr) (kvs:List (List Key × V)) (sh:List Bool),xs=[.ref d]/\H d=some (.dT kvs)/\kvs.length<64/\(∀ p∈kvs,shp p.1=sh)/\0<sh.length /\
 ∀(l:Addr) (ts:List (List Key × Addr)),H l=none->(∀ t∈ts,H t.2=some (.tup (t.1.map kV)))->(ts.map (·.1)).Perm (kvs.map (·.1))->(ts.map (·.1)).Pairwise (fun x y=>lexK x y=true)->Q (.ref l) (upd H l (.lst (ts.map fun t=>.ref t.2)))
theorem xkm {X:Cx} (hc:X.calm=true):xbx X (.builtin "sorted") xpe:=by
 intro pins s σ H xs us Q I r h;obtain⟨d,kvs,sh,rfl,hd,hl,hsh,hpos,q⟩:=h;obtain⟨u,rfl,ru⟩:=xbr r;obtain rfl:u=Zn d:=ru;obtain⟨z,hsys,es',rel,dd⟩:=xhq I.hok hd;obtain⟨o,es,ep,ho,hx,hdat,hes,hkk,hnd⟩:=dd;have ln:=Yj rel;have esz:es.size=es'.length:=by rw[<- JB,hes,Za]
 refine Yy kind_sorted plain_sorted entry_sorted (args_sorted1 _) ?_;unfold QI;refine Zc (Zm ?_);show wpAny _ _ (collect (.ref d)>>=_) _ _ _;refine Zc (kdu_collect (xlq hsys hx hdat) (I.ok.hd hc) ho (by rw[esz,<- ln]; exact z) fun h1 tk acc keep items=>?_);have acl:acc.toList=es'.map fun x=>Zn x.2.1:=by
  refine List.ext_getElem? fun j=>?_;obtain⟨i1,i2⟩:=items;by_cases c:j<es'.length
  .have c':j<acc.size:=by rw[i1,esz]; exact c
   have e:acc[j]?=some acc[j]:=JR c';obtain⟨en,he,hv⟩:=i2 j acc[j] e;rw[Jv,e,hv];have he':es.toList[j]?=some en:=by rw[Jv]; exact he
   rw[hes,Zf,Zh c] at he';rw[Zf,Zh c];have:=JM.inj he';rw[<- this];rfl
  .rw [JD (by rw[JB,i1,esz]; omega),JD (by rw[Za]; omega)]
 rw[acl];have I1:Inv X pins σ H { s with heap:=h1,toks:=tk }:=I.kept keep;obtain⟨km,ke⟩:=xth rel;have shE:∀ x∈es',shp x.1=sh:=fun x hx=>by
  have m:x.1∈kvs.map (·.1):=by rw[<- ke]; exact Zd.mpr ⟨x,hx,rfl⟩
  obtain⟨p,hp,e⟩:=Zd.mp m;rw[<- e];exact hsh p hp
 refine xir es' I1 (by rw[<- ln]; exact hl) km shE hpos hnd fun l ts fr pm pw=>q l ts fr (fun t ht=>?_) ?_ pw
 .obtain ⟨x,hx,rfl⟩:=Zd.mp (pm.mem_iff.mp ht);exact km x hx
 .have:=pm.map (·.1);rw[Zl] at this;rw[<- ke];exact this
def xj2:List V->Hp->VK->Prop:=fun xs H Q=>∃(d:Addr) (ts0:List (List Key × Addr)) (sh:List Bool),xs=[.ref d]/\H d=some (.lst (ts0.map fun t=>.ref t.2))/\ts0.length<64/\(∀ t∈ts0,H t.2=some (.tup (t.1.map kV)))/\(∀ t∈ts0,shp t.1=sh)/\0<sh.length/\(ts0.map (·.1)).Nodup /\
 ∀(l:Addr) (ts:List (List Key × Addr)),H l=none->ts.Perm ts0->(ts.map (·.1)).Pairwise (fun x y=>lexK x y=true)->Q (.ref l) (upd H l (.lst (ts.map fun t=>.ref t.2)))
theorem xih {α:Type} (f:α->Addr):∀{es:List α}{us:List Value},Vals (es.map fun x=>V.ref (f x)) us->us=es.map fun x=>Zn (f x)
 | [],_,.nil=>rfl
 | x::es,_,.cons r rs=>by
  cases r;rw[xih f rs];rfl
theorem xfd {X:Cx} (hc:X.calm=true):xbx X (.builtin "sorted") xj2:=by
 intro pins s σ H xs us Q I r h;obtain⟨d,ts0,sh,rfl,hd,hl,km,hsh,hpos,hnd,q⟩:=h;obtain⟨u,rfl,ru⟩:=xbr r;obtain rfl:u=Zn d:=ru;obtain⟨z,its,n,rv,hlen,el⟩:=I.lstM hd;have eits:=xih (fun t:List Key × Addr=>t.2) rv;refine Yy kind_sorted plain_sorted entry_sorted (args_sorted1 _) ?_;unfold QI;refine Zc (Zm ?_);show wpAny _ _ (collect (.ref d)>>=_) _ _ _;refine Zc (wpAny_collect_seq d (T:="list") (.inl rfl) el rfl rfl (fun h1 keep=>?_) (by rw[Z5,eits,Za]; exact JG (ZV hl (by decide))));have I1:Inv X pins σ H { s with heap:=h1,toks:=s.toks }:=I.kept keep;have e0:its.toArray.toList=(ts0.map fun t=>(t.1,t.2,Jd)).map fun x=>Zn x.2.1:=by
  rw[Zl,eits];rfl
 rw[e0];refine xir (ts0.map fun t=>(t.1,t.2,Jd)) I1 (by rw[Za]; exact hl) (fun x hx=>?_) (fun x hx=>?_) hpos (by rw[Zl]; exact hnd) fun l ts fr pm pw=>q l ts fr ?_ pw
 .obtain ⟨t,ht,rfl⟩:=Zd.mp hx;exact km t ht
 .obtain ⟨t,ht,rfl⟩:=Zd.mp hx;exact hsh t ht
 .rw [Zl] at pm;have e1:ts0.map ((fun x:List Key × Addr × Value=>(x.1,x.2.1))∘fun t=>(t.1,t.2,Jd))=ts0:=List.map_id _;rw[e1] at pm;exact pm
theorem xh4 {κ:Type} [DecidableEq κ]:∀{kvs:List (κ × V)}{k:κ}{v:V},valV kvs k=some v->∃ i:Nat,kvs[i]?=some (k,v)
 | [],k,v,h=>by cases h
 | p::r,k,v,h=>by
  by_cases e:p.1=k
  .rw [xa2 e] at h;cases h;exact⟨0,by simp[<- e]⟩
  .rw [xa0 e] at h;obtain⟨i,hi⟩:=xh4 h;exact⟨i+1,by simpa using hi⟩
def xvo (kvs:List (Key × V)) (ty:TE):TE:=fun σ H Q=>ty σ H fun y H1=>∃(k:Key) (v:V),y=kV k/\valV kvs k=some v/\Q v H1
theorem xk9 {X:Cx}{i:Expr}{ty:TE}{x:Str}{p pos:Pos}{D:Addr}{kvs:List (Key × V)} (hm:X.mg x=some (.ref D)) (g:xje X.w X.K D kvs) (hg:Gl X x) (hi:PE X i ty) (hs:NoSl i) (hd:(x == ("__debug__":Str))=false:=by decide) :
    PE X (.Subscript (.Name x p) i pos) (xvo kvs ty):=by
  intro pins s σ H Q I h;refine xl5 PySem.F.slot_dict_getitem.lookup hs (thn (xcy (v:=.ref D) hg hm rfl hd pins s σ H (fun v H2=>v=.ref D/\H2=H) I ⟨rfl,rfl⟩) fun u s1 ⟨x,H1,I1,rx,e1,e2⟩=>?_);subst e1 e2;obtain rfl:u=Zn D:=rx;refine thn (hi pins s1 σ _ _ I1 h) fun iv s2 ⟨y,H2,I2,ry,k,v,ey,l,q⟩=>?_;subst ey;obtain⟨vs,rel,dd⟩:=xju I2 g;obtain⟨w',hw,rw'⟩:=RelO.some_of (v:=v) (o:=valueAt vs k) (by rw[<- l]; exact rel.val k);exact⟨dd.typeIs,wpAny_getItem_of (xcr ry) dd.mapOf hw ⟨v,H2,I2.tok _,rw',q⟩⟩
end L2
namespace L2
open PySem PySem.Spec PyProof.Rows XL PySem.W
inductive DV where
 | non
 | bl (b:Bool)
 | int (i:Int)
 | str (x:Str)
 | tup (xs:List DV)
 | lst (xs:List DV)
mutual
def dEq:DV->DV->Bool
 | .non,.non=>true
 | .bl a,.bl b=>a == b
 | .bl a,.int b=>(if a then 1 else 0) == b
 | .int a,.bl b=>a == (if b then 1 else 0)
 | .int a,.int b=>a == b
 | .str a,.str b=>a == b
 | .tup xs,.tup ys=>dEqs xs ys
 | .lst xs,.lst ys=>dEqs xs ys
 | _,_=>false
def dEqs:List DV->List DV->Bool
 | [],[]=>true
 | x::xs,y::ys=>dEq x y&&dEqs xs ys
 | _,_=>false
end
mutual
theorem xb6:∀ d,dEq d d=true
 | .non=>rfl
 | .bl _=>by simp[dEq]
 | .int _=>by simp[dEq]
 | .str _=>by simp[dEq]
 | .tup xs=>by simp only[dEq]; exact xdh xs
 | .lst xs=>by simp only[dEq]; exact xdh xs
theorem xdh:∀ xs,dEqs xs xs=true
 | []=>rfl
 | x::xs=>by simp only[dEqs,Zy]; exact⟨xb6 x,xdh xs⟩
end
mutual
def DV.pl:DV->Bool
 | .bl _=>false
 | .tup xs=>pls xs
 | .lst xs=>pls xs
 | _=>true
def pls:List DV->Bool
 | []=>true
 | x::xs=>x.pl&&pls xs
end
mutual
theorem xor:∀{d e:DV},d.pl=true->e.pl=true->dEq d e=true->d=e
 | .non,.non,_,_,_=>rfl
 | .int a,.int b,_,_,h=>by simp only[dEq,beq_iff_eq] at h; rw[h]
 | .str a,.str b,_,_,h=>by simp only[dEq,beq_iff_eq] at h; rw[h]
 | .tup xs,.tup ys,p,q,h=>by
  simp only[dEq] at h;simp only[DV.pl] at p q;rw[xhv p q h]
 | .lst xs,.lst ys,p,q,h=>by
  simp only[dEq] at h;simp only[DV.pl] at p q;rw[xhv p q h]
 | .bl _,_,p,_,_=>by simp[DV.pl] at p
 | .non,.bl _,_,q,_=>by simp[DV.pl] at q
 | .int _,.bl _,_,q,_=>by simp[DV.pl] at q
 | .str _,.bl _,_,q,_=>by simp[DV.pl] at q
 | .tup _,.bl _,_,q,_=>by simp[DV.pl] at q
 | .lst _,.bl _,_,q,_=>by simp[DV.pl] at q
 | .non,.int _,_,_,h=>by simp[dEq] at h
 | .non,.str _,_,_,h=>by simp[dEq] at h
 | .non,.tup _,_,_,h=>by simp[dEq] at h
 | .non,.lst _,_,_,h=>by simp[dEq] at h
 | .int _,.non,_,_,h=>by simp[dEq] at h
 | .int _,.str _,_,_,h=>by simp[dEq] at h
 | .int _,.tup _,_,_,h=>by simp[dEq] at h
 | .int _,.lst _,_,_,h=>by simp[dEq] at h
 | .str _,.non,_,_,h=>by simp[dEq] at h
 | .str _,.int _,_,_,h=>by simp[dEq] at h
 | .str _,.tup _,_,_,h=>by simp[dEq] at h
 | .str _,.lst _,_,_,h=>by simp[dEq] at h
 | .tup _,.non,_,_,h=>by simp[dEq] at h
 | .tup _,.int _,_,_,h=>by simp[dEq] at h
 | .tup _,.str _,_,_,h=>by simp[dEq] at h
 | .tup _,.lst _,_,_,h=>by simp[dEq] at h
 | .lst _,.non,_,_,h=>by simp[dEq] at h
 | .lst _,.int _,_,_,h=>by simp[dEq] at h
 | .lst _,.str _,_,_,h=>by simp[dEq] at h
 | .lst _,.tup _,_,_,h=>by simp[dEq] at h
theorem xhv:∀{xs ys:List DV},pls xs=true->pls ys=true->dEqs xs ys=true->xs=ys
 | [],[],_,_,_=>rfl
 | x::xs,y::ys,p,q,h=>by
  simp only[pls,Zy] at p q;simp only[dEqs,Zy] at h;rw[xor p.1 q.1 h.1,xhv p.2 q.2 h.2]
 | [],_::_,_,_,h=>by simp[dEqs] at h
 | _::_,[],_,_,h=>by simp[dEqs] at h
end
theorem xre {d e:DV}{α:Type}{x y:α} [DecidableEq α] (p:d.pl=true) (q:e.pl=true) (f:d=e↔x=y):dEq d e=decide (x=y):=by
 by_cases c:x=y
 .rw [decide_eq_true c,f.mpr c];exact xb6 _
 .rw [decide_eq_false c];cases z:dEq d e with
  | false=>rfl
  | true=>exact absurd (f.mp (xor p q z)) c
theorem xgr:∀{xs ys:List DV}{e:Nat->Bool},(∀(j:Nat) (x y:DV),xs[j]?=some x->ys[j]?=some y->e j=dEq x y)->((Zz (min xs.length ys.length)).all e&&xs.length == ys.length)=dEqs xs ys
 | [],[],_,_=>rfl
 | [],_::_,_,_=>by simp[dEqs]
 | _::_,[],_,_=>by simp[dEqs]
 | x::xs,y::ys,e,h=>by
  have ih:=xgr (xs:=xs) (ys:=ys) (e:=fun j=>e (j+1)) (fun j a b ha hb=>h (j+1) a b (by simpa using ha) (by simpa using hb));have h0:=h 0 x y rfl rfl;rw[ZQ,ZQ,show min (xs.length+1) (ys.length+1)=min xs.length ys.length+1 by omega,List.range_succ_eq_map,Qi,List.all_map];show _=(dEq x y&&dEqs xs ys)
  rw[<- ih,h0];have z:((xs.length+1 == ys.length+1):Bool)=(xs.length == ys.length):=by
   rw[Jh];simp
  rw[z,Bool.and_assoc];rfl
theorem xkn:∀{xs ys:List DV},xs.length≠ys.length->dEqs xs ys=false
 | [],[],h=>absurd rfl h
 | [],_::_,_=>rfl
 | _::_,[],_=>rfl
 | x::xs,y::ys,h=>by
  show (dEq x y&&dEqs xs ys)=false;rw[xkn (xs:=xs) (ys:=ys) (fun z=>h (by simp[z]))];exact YZ _
inductive Dv (K:Ze) (H:Hp):Nat->V->DV->Prop
 | non {n:Nat}:Dv K H n .non .non
 | bl {n:Nat}{b:Bool}:Dv K H n (.bl b) (.bl b)
 | int {n:Nat}{b:Int}:Dv K H n (.int b) (.int b)
 | str {n:Nat}{b:Str}:Dv K H n (.str b) (.str b)
 | tup {n:Nat}{a:Addr}{xs:List V}{ds:List DV} (ha:SqT K H a xs) (hl:xs.length=ds.length) (h:∀(j:Nat) (x:V) (d:DV),xs[j]?=some x->ds[j]?=some d->Dv K H n x d):Dv K H (n+1) (.ref a) (.tup ds)
 | lst {n:Nat}{a:Addr}{xs:List V}{ds:List DV} (ha:SqL K H a xs) (hl:xs.length=ds.length) (h:∀(j:Nat) (x:V) (d:DV),xs[j]?=some x->ds[j]?=some d->Dv K H n x d):Dv K H (n+1) (.ref a) (.lst ds)
section
variable {X:Cx}{pins:List (Addr × Obj)}{σ:St}{H:Hp}{s:Shared}
theorem xil {h:Heap}{a:Addr}{i j:Array Value} (p:h.IsTuple a i) (q:PlainL h a j):False:=by
 obtain⟨o,e,c,_⟩:=p;obtain⟨o',n,e',c',_⟩:=q;rw[e] at e';cases e';rw[c] at c';exact absurd c' (by decide)
theorem xn2 {xs ys:List DV} (h:xs.length=ys.length) (f:∀(j:Nat) (x y:DV),xs[j]?=some x->ys[j]?=some y->x=y):xs=ys:=by
 refine List.ext_getElem? fun j=>?_;by_cases c:j<xs.length
 .rw [Zh c,Zh (by omega),f j _ _ (Zh c) (Zh (by omega))]
 .rw [JD (by omega),JD (by omega)]
theorem xnz (I:Inv X pins σ H s) {n:Nat}{x:V}{d:DV} (h:Dv X.K H n x d):∀{m:Nat}{e:DV},Dv X.K H m x e->d=e:=by
 induction h with
 | non=>intro m e h; cases h; rfl
 | bl=>intro m e h; cases h; rfl
 | int=>intro m e h; cases h; rfl
 | str=>intro m e h; cases h; rfl
 | @tup n a xs ds ha hl h ih =>
  intro m e h2;cases h2 with
  | @tup m _ ys es hb kl k =>
   obtain rfl:=I.tuple_inj ha hb;refine congrArg DV.tup (xn2 (by omega) fun j d e h1 h2=>?_);have lt:j<xs.length:=by
    have:=(Zk.mp h1).1;omega
   exact ih j xs[j] d (Zh lt) h1 (k j xs[j] e (Zh lt) h2)
  | @lst m _ ys es hb kl k =>
   obtain⟨its,_,t1,_⟩:=I.tuple ha;obtain⟨its2,_,t2,_⟩:=I.list hb;exact (xil t1 t2).elim
 | @lst n a xs ds ha hl h ih =>
  intro m e h2;cases h2 with
  | @lst m _ ys es hb kl k =>
   obtain rfl:=I.list_inj ha hb;refine congrArg DV.lst (xn2 (by omega) fun j d e h1 h2=>?_);have lt:j<xs.length:=by
    have:=(Zk.mp h1).1;omega
   exact ih j xs[j] d (Zh lt) h1 (k j xs[j] e (Zh lt) h2)
  | @tup m _ ys es hb kl k =>
   obtain⟨its,_,t1,_⟩:=I.tuple hb;obtain⟨its2,_,t2,_⟩:=I.list ha;exact (xil t1 t2).elim
def at2 (f:DV->DV->Bool) (ds es:List DV) (j:Nat):Bool:=match ds[j]?,es[j]? with|some d,some e=>f d e|_,_=>false
theorem xg9 {f:DV->DV->Bool}{ds es:List DV}{j:Nat}{d e:DV} (h:ds[j]?=some d) (h2:es[j]?=some e):at2 f ds es j=f d e:=by
 unfold at2;rw[h,h2]
theorem xq7 (I:Inv X pins σ H s) {n:Nat}{x:V}{d:DV} (h:Dv X.K H n x d):∀{m:Nat}{y:V}{e:DV},Dv X.K H m y e->∀{A:Around}{u v:Value},A.units+n+m<cLine->RelV x u->RelV y v ->
    Zt A s u v (dEq d e)/\ZC A s u v (dEq d e)/\Z6 A s u v (!dEq d e):=by
  induction h with
  | @non n =>
    intro m y e h2 A u v hu rx ry;obtain rfl:u=Jd:=rx;cases h2 with
    | @non  =>
      obtain rfl:v=Jd:=ry;exact⟨Zt.same _,ZC.none_none,Z6.none_none⟩
    | @bl _ b2 =>
      obtain rfl:v=Yf _:=ry;exact⟨Zt.none_bool _,ZC.none_bool _,Z6.none_bool _⟩
    | @int _ b2 =>
      obtain⟨_,rfl⟩:=ry;exact⟨Zt.none_int _ _,ZC.none_int _ _,Z6.none_int _ _⟩
    | @str _ b2 =>
      obtain⟨_,rfl⟩:=ry;exact⟨Zt.none_str _ _,ZC.none_str _ _,Z6.none_str _ _⟩
    | @tup m b ys es hb kl k =>
      obtain rfl:v=Zn _:=ry;obtain⟨its2,r2,t2,z2⟩:=I.tuple hb;have l2:=r2.length;exact⟨Zt.none_tuple t2 (by omega),ZC.none_tuple t2 (by omega),Z6.none_tuple t2 (by omega)⟩
    | @lst m b ys es hb kl k =>
      obtain rfl:v=Zn _:=ry;obtain⟨its2,r2,t2,z2⟩:=I.list hb;have l2:=r2.length;exact⟨Zt.none_list t2.isList (by omega),ZC.none_list t2.isList (by omega),Z6.none_list t2.isList (by omega)⟩
  | @bl n b1 =>
    intro m y e h2 A u v hu rx ry;obtain rfl:u=Yf _:=rx;cases h2 with
    | @non  =>
      obtain rfl:v=Jd:=ry;exact⟨Zt.bool_none _,ZC.bool_none _,Z6.bool_none _⟩
    | @bl _ b2 =>
      obtain rfl:v=Yf _:=ry;exact⟨Zt.bool_bool _ _,ZC.bool_bool _ _,Z6.bool_bool _ _⟩
    | @int _ b2 =>
      obtain⟨_,rfl⟩:=ry;exact⟨Zt.bool_int _ _ _,ZC.bool_int _ _ _,Z6.bool_int _ _ _⟩
    | @str _ b2 =>
      obtain⟨_,rfl⟩:=ry;exact⟨Zt.bool_str _ _ _,ZC.bool_str _ _ _,Z6.bool_str _ _ _⟩
    | @tup m b ys es hb kl k =>
      obtain rfl:v=Zn _:=ry;obtain⟨its2,r2,t2,z2⟩:=I.tuple hb;have l2:=r2.length;exact⟨Zt.bool_tuple _ t2 (by omega),ZC.bool_tuple _ t2 (by omega),Z6.bool_tuple _ t2 (by omega)⟩
    | @lst m b ys es hb kl k =>
      obtain rfl:v=Zn _:=ry;obtain⟨its2,r2,t2,z2⟩:=I.list hb;have l2:=r2.length;exact⟨Zt.bool_list _ t2.isList (by omega),ZC.bool_list _ t2.isList (by omega),Z6.bool_list _ t2.isList (by omega)⟩
  | @int n b1 =>
    intro m y e h2 A u v hu rx ry;obtain⟨_,rfl⟩:=rx;cases h2 with
    | @non  =>
      obtain rfl:v=Jd:=ry;exact⟨Zt.int_none _ _,ZC.int_none _ _,Z6.int_none _ _⟩
    | @bl _ b2 =>
      obtain rfl:v=Yf _:=ry;exact⟨Zt.int_bool _ _ _,ZC.int_bool _ _ _,Z6.int_bool _ _ _⟩
    | @int _ b2 =>
      obtain⟨_,rfl⟩:=ry;exact⟨Zt.int_int _ _ _ _,ZC.int_int _ _ _ _,Z6.int_int _ _ _ _⟩
    | @str _ b2 =>
      obtain⟨_,rfl⟩:=ry;exact⟨Zt.int_str _ _ _ _,ZC.int_str _ _ _ _,Z6.int_str _ _ _ _⟩
    | @tup m b ys es hb kl k =>
      obtain rfl:v=Zn _:=ry;obtain⟨its2,r2,t2,z2⟩:=I.tuple hb;have l2:=r2.length;exact⟨Zt.int_tuple _ _ t2 (by omega),ZC.int_tuple _ _ t2 (by omega),Z6.int_tuple _ _ t2 (by omega)⟩
    | @lst m b ys es hb kl k =>
      obtain rfl:v=Zn _:=ry;obtain⟨its2,r2,t2,z2⟩:=I.list hb;have l2:=r2.length;exact⟨Zt.int_list _ _ t2.isList (by omega),ZC.int_list _ _ t2.isList (by omega),Z6.int_list _ _ t2.isList (by omega)⟩
  | @str n b1 =>
    intro m y e h2 A u v hu rx ry;obtain⟨_,rfl⟩:=rx;cases h2 with
    | @non  =>
      obtain rfl:v=Jd:=ry;exact⟨Zt.str_none _ _,ZC.str_none _ _,Z6.str_none _ _⟩
    | @bl _ b2 =>
      obtain rfl:v=Yf _:=ry;exact⟨Zt.str_bool _ _ _,ZC.str_bool _ _ _,Z6.str_bool _ _ _⟩
    | @int _ b2 =>
      obtain⟨_,rfl⟩:=ry;exact⟨Zt.str_int _ _ _ _,ZC.str_int _ _ _ _,Z6.str_int _ _ _ _⟩
    | @str _ b2 =>
      obtain⟨_,rfl⟩:=ry;exact⟨Zt.str_str _ _ _ _,ZC.str_str _ _ _ _,Z6.str_str _ _ _ _⟩
    | @tup m b ys es hb kl k =>
      obtain rfl:v=Zn _:=ry;obtain⟨its2,r2,t2,z2⟩:=I.tuple hb;have l2:=r2.length;exact⟨Zt.str_tuple _ _ t2 (by omega),ZC.str_tuple _ _ t2 (by omega),Z6.str_tuple _ _ t2 (by omega)⟩
    | @lst m b ys es hb kl k =>
      obtain rfl:v=Zn _:=ry;obtain⟨its2,r2,t2,z2⟩:=I.list hb;have l2:=r2.length;exact⟨Zt.str_list _ _ t2.isList (by omega),ZC.str_list _ _ t2.isList (by omega),Z6.str_list _ _ t2.isList (by omega)⟩
  | @tup n a xs ds ha hl h ih =>
    intro m y e h2 A u v hu rx ry;obtain rfl:u=Zn _:=rx;obtain⟨its,r1,t1,z1⟩:=I.tuple ha;have l1:=r1.length;cases h2 with
    | @non  =>
      obtain rfl:v=Jd:=ry;exact⟨Zt.tuple_none t1 (by omega),ZC.tuple_none t1 (by omega),Z6.tuple_none t1 (by omega)⟩
    | @bl _ b2 =>
      obtain rfl:v=Yf _:=ry;exact⟨Zt.tuple_bool _ t1 (by omega),ZC.tuple_bool _ t1 (by omega),Z6.tuple_bool _ t1 (by omega)⟩
    | @int _ b2 =>
      obtain⟨_,rfl⟩:=ry;exact⟨Zt.tuple_int _ _ t1 (by omega),ZC.tuple_int _ _ t1 (by omega),Z6.tuple_int _ _ t1 (by omega)⟩
    | @str _ b2 =>
      obtain⟨_,rfl⟩:=ry;exact⟨Zt.tuple_str _ _ t1 (by omega),ZC.tuple_str _ _ t1 (by omega),Z6.tuple_str _ _ t1 (by omega)⟩
    | @tup m b ys es hb kl k =>
      obtain rfl:v=Zn _:=ry;obtain⟨its2,r2,t2,z2⟩:=I.tuple hb;have l2:=r2.length;have step:∀(j:Nat) (h1:j<its.toArray.size) (h2:j<its2.toArray.size),Zt A.in1 s its.toArray[j] its2.toArray[j] (at2 dEq ds es j):=fun j h1 h2=>by
        obtain⟨x,hx,rx⟩:=xft r1 h1;obtain⟨y,hy,ry⟩:=xft r2 h2;have j1:j<ds.length:=by simp at h1; omega
        have j2:j<es.length:=by simp at h2; omega
        rw[xg9 (Zh j1) (Zh j2)];exact (ih j x _ hx (Zh j1) (k j y _ hy (Zh j2)) (A:=A.in1) (by show A.units+1+n+m<cLine; omega) rx ry).1
      have all:=xgr (xs:=ds) (ys:=es) (e:=at2 dEq ds es) fun j x y h1 h2=>xg9 h1 h2;have both:ZC A s (.ref a) (.ref b) (dEqs ds es)/\Z6 A s (.ref a) (.ref b) (!dEqs ds es):=by
        have z1:=ZC.tuples (A:=A) (e:=at2 dEq ds es) (show s.heap.IsTuple a its.toArray from t1) (show s.heap.IsTuple b its2.toArray from t2) (by omega) step;have z2:=Z6.tuples (A:=A) (e:=at2 dEq ds es) (show s.heap.IsTuple a its.toArray from t1) (show s.heap.IsTuple b its2.toArray from t2) (by omega) step;have e1:its.toArray.size=ds.length:=by simp; omega
        have e2:its2.toArray.size=es.length:=by simp; omega
        rw[e1,e2,all] at z1 z2;exact⟨z1,z2⟩
      simp only[dEq];refine⟨?_,both⟩;by_cases q:a=b
      . subst q
        have ed:DV.tup ds=DV.tup es:=xnz I (Dv.tup ha hl h) (Dv.tup hb kl k);rw[show es=ds by injection ed with z; exact z.symm,xdh];exact Zt.same _
      . exact .of_refs q both.1
    | @lst m b ys es hb kl k =>
      obtain rfl:v=Zn _:=ry;obtain⟨its2,r2,t2,z2⟩:=I.list hb;have l2:=r2.length;exact⟨Zt.tuple_list t1 t2.isList (by omega),ZC.tuple_list t1 t2.isList (by omega),Z6.tuple_list t1 t2.isList (by omega)⟩
  | @lst n a xs ds ha hl h ih =>
    intro m y e h2 A u v hu rx ry;obtain rfl:u=Zn _:=rx;obtain⟨its,r1,t1,z1⟩:=I.list ha;have l1:=r1.length;cases h2 with
    | @non  =>
      obtain rfl:v=Jd:=ry;exact⟨Zt.list_none t1.isList (by omega),ZC.list_none t1.isList (by omega),Z6.list_none t1.isList (by omega)⟩
    | @bl _ b2 =>
      obtain rfl:v=Yf _:=ry;exact⟨Zt.list_bool _ t1.isList (by omega),ZC.list_bool _ t1.isList (by omega),Z6.list_bool _ t1.isList (by omega)⟩
    | @int _ b2 =>
      obtain⟨_,rfl⟩:=ry;exact⟨Zt.list_int _ _ t1.isList (by omega),ZC.list_int _ _ t1.isList (by omega),Z6.list_int _ _ t1.isList (by omega)⟩
    | @str _ b2 =>
      obtain⟨_,rfl⟩:=ry;exact⟨Zt.list_str _ _ t1.isList (by omega),ZC.list_str _ _ t1.isList (by omega),Z6.list_str _ _ t1.isList (by omega)⟩
    | @tup m b ys es hb kl k =>
      obtain rfl:v=Zn _:=ry;obtain⟨its2,r2,t2,z2⟩:=I.tuple hb;have l2:=r2.length;exact⟨Zt.list_tuple t1.isList t2 (by omega),ZC.list_tuple t1.isList t2 (by omega),Z6.list_tuple t1.isList t2 (by omega)⟩
    | @lst m b ys es hb kl k =>
      obtain rfl:v=Zn _:=ry;obtain⟨its2,r2,t2,z2⟩:=I.list hb;have l2:=r2.length;have step:∀(j:Nat) (h1:j<its.toArray.size) (h2:j<its2.toArray.size),Zt A.in1 s its.toArray[j] its2.toArray[j] (at2 dEq ds es j):=fun j h1 h2=>by
        obtain⟨x,hx,rx⟩:=xft r1 h1;obtain⟨y,hy,ry⟩:=xft r2 h2;have j1:j<ds.length:=by simp at h1; omega
        have j2:j<es.length:=by simp at h2; omega
        rw[xg9 (Zh j1) (Zh j2)];exact (ih j x _ hx (Zh j1) (k j y _ hy (Zh j2)) (A:=A.in1) (by show A.units+1+n+m<cLine; omega) rx ry).1
      have all:=xgr (xs:=ds) (ys:=es) (e:=at2 dEq ds es) fun j x y h1 h2=>xg9 h1 h2;have both:ZC A s (.ref a) (.ref b) (dEqs ds es)/\Z6 A s (.ref a) (.ref b) (!dEqs ds es):=by
        have e1:its.toArray.size=ds.length:=by simp; omega
        have e2:its2.toArray.size=es.length:=by simp; omega
        by_cases c:ds.length=es.length
        . have z1:=ZC.lists (A:=A) (e:=at2 dEq ds es) t1.isList t2.isList (by omega) (by omega) step
          have z2:=Z6.lists (A:=A) (e:=at2 dEq ds es) t1.isList t2.isList (by omega) (by omega) step;have all':(Zz ds.length).all (at2 dEq ds es)=dEqs ds es:=by
            rw[<- all,c,Nat.min_self];simp
          rw[e1,all'] at z1 z2;exact⟨z1,z2⟩
        . rw[xkn c]
          exact⟨ZC.lists_lengths (A:=A) t1.isList t2.isList (by rw[e1,e2]; simpa using c) (by omega),Z6.lists_lengths (A:=A) t1.isList t2.isList (by rw[e1,e2]; simpa using c) (by omega)⟩
      simp only[dEq];refine⟨?_,both⟩;by_cases q:a=b
      . subst q
        have ed:DV.lst ds=DV.lst es:=xnz I (Dv.lst ha hl h) (Dv.lst hb kl k);rw[show es=ds by injection ed with z; exact z.symm,xdh];exact Zt.same _
      . exact .of_refs q both.1
end
theorem Same.seqL {K:Ze}{H H':Hp}{a:Addr}{xs:List V} (s:Same H H') (h:SqL K H a xs):SqL K H' a xs:=by
 rcases h with (h|⟨ob,h⟩)|h
 .exact .inl (.inl (s _ _ h))
 .exact .inl (.inr ⟨ob,s _ _ h⟩)
 .exact .inr h
def rEqV (K:Ze):R2:=fun x y H Q=>∃(n m:Nat) (d e:DV),Dv K H n x d/\Dv K H m y e/\n<=9/\m<=9/\Q (.bl (dEq d e)) H
def rNeV (K:Ze):R2:=fun x y H Q=>∃(n m:Nat) (d e:DV),Dv K H n x d/\Dv K H m y e/\n<=9/\m<=9/\Q (.bl (!dEq d e)) H
section
variable {X:Cx}
theorem xem (hu:X.A.units+20<cLine):OpR X (compareOp .Eq) (rEqV X.K):=by
 intro pins s σ H x y u v Q I rx ry h;obtain⟨n,m,d,e,h1,h2,hn,hm,q⟩:=h;exact (xq7 I h1 h2 (A:=X.A) (by omega) rx ry).2.1 X.prog X.w X.xe _ ⟨.bl _,H,I,rfl,q⟩
theorem xek (hu:X.A.units+20<cLine):OpR X (compareOp .NotEq) (rNeV X.K):=by
 intro pins s σ H x y u v Q I rx ry h;obtain⟨n,m,d,e,h1,h2,hn,hm,q⟩:=h;exact PySem.W.cmp_ofNotEq ((xq7 I h1 h2 (A:=X.A) (by omega) rx ry).2.2 X.prog X.w X.xe _ ⟨.bl _,H,I,rfl,q⟩)
end
end L2
namespace L2
open PySem PySem.Spec PyProof.Rows XL PySem.W
def Tp (H H':Hp):Prop:=∀ b xs,H b=some (.tup xs)->H' b=some (.tup xs)
theorem Same.tp {H H':Hp} (s:Same H H'):Tp H H':=fun b xs e=>s b _ e
theorem Tp.trans {H H' H'':Hp} (s:Tp H H') (r:Tp H' H''):Tp H H'':=fun b xs e=>r b xs (s b xs e)
theorem xhe {H:Hp}{l:Addr}{xs ys:List V} (h:H l=some (.lst xs)):Tp H (upd H l (.lst ys)):=fun b zs e=>by
 rw[xh (fun z=>by rw[z,h] at e; cases e)];exact e
section
variable {J:It}{n:Nat}{g:TG}{σ:St}{fr:List Nat}{tc:TT}{te:TE}{l:Addr}{H1:Hp}{Q:VK}
theorem xl1 (len:Nat) (hlen:len<sizeLine) (hl:H1 l=none) (x:Nat->V) (hgo:∀ i H,i<len->Same H1 H->J.go i H) (hy:∀ i H v H',i<len->Same H1 H->J.yld i H v H'->H'=H/\v=x i) (hst:∀ H,Same H1 H->J.stop len H)
    (p:Nat->Bool) (F:Nat->V->Hp->Prop) (stab:∀ i y H H',Tp H H'->F i y H->F i y H')
    (step:∀ i H2,i<len->Same H1 H2->∀(N:V->Hp->Prop) (M:Hp->Prop),(∀ y H',Same H2 H'->p i=true->F i y H'->N y H')->(∀ H',Same H2 H'->p i=false->M H') ->
      g (x i) (blk0 σ fr n) H2 fun σ' H3=>tc σ' H3 fun b H4=>if b=true then te σ' H4 N else M H4)
    (fin:∀ ys H2,Same H1 H2->H2 l=some (.lst ys)->ys.length=((Zz len).filter p).length->(∀(j:Nat) (y:V) (i:Nat),ys[j]?=some y->((Zz len).filter p)[j]?=some i->F i y H2)->Q (.ref l) H2):xc2 J n g σ fr tc te l H1 Q:=by
  refine xbw len (fun i ys H2=>Same H1 H2/\H2 l=some (.lst ys)/\ys.length=((Zz i).filter p).length/\∀(j:Nat) (y:V) (k:Nat),ys[j]?=some y->((Zz i).filter p)[j]?=some k->F k y H2) ?_ ?_ ?_ ?_
  . refine⟨fun b u e=>?_,xb,rfl,fun j y k e=>by simp at e⟩
    rw[xh (xi e hl)];exact e
  . rintro i ys H2 lt ⟨s,_⟩
    exact hgo i H2 lt s
  . rintro i ys H2 v H3 lt ⟨s,el,ly,f⟩ yl N hN
    obtain⟨rfl,rfl⟩:=hy i H2 v H3 lt s yl;refine step i H3 lt s _ _ (fun y H' s' pt hf=>?_) (fun H' s' pf=>?_)
    . have el':=s' _ _ el
      have ylen:ys.length<sizeLine:=by
        rw[ly];refine ZA (Q9 _ _) ?_;rw[Zv];omega
      refine⟨el',ylen,hN _ _ ⟨fun b u e=>?_,xb,?_,fun j z k e1 e2=>?_⟩⟩
      . rw[xh (xi e hl)]
        exact s' _ _ (s _ _ e)
      . rw[JV,Jy,Zs,Zs,ly,Je pt]
        rfl
      . rw[JV,Jy,Je pt] at e2
        by_cases c:j<ys.length
        . rw[Jg c] at e1
          rw[Jg (by omega)] at e2;exact stab _ _ _ _ ((Same.tp s').trans (xhe el')) (f j z k e1 e2)
        . rw[Jp (by omega)] at e1 e2
          rw[<- ly] at e2;cases hj:j-ys.length with
          | zero =>
            rw[hj] at e1 e2;simp at e1 e2;subst e1 e2;exact stab _ _ _ _ (xhe el') hf
          | succ m =>
            rw[hj] at e1;simp at e1
    . refine hN _ _ ⟨s.trans s',s' _ _ el,?_,fun j z k e1 e2=>?_⟩
      . rw[JV,Jy,Jm (by simp[pf])]
        simpa using ly
      . rw[JV,Jy,Jm (by simp[pf])] at e2
        simp only[List.filter_nil,Yh] at e2;exact stab _ _ _ _ (Same.tp s') (f j z k e1 e2)
  . rintro ys H2 ⟨s,el,ly,f⟩
    exact⟨hst _ s,fin ys H2 s el ly f⟩
theorem xha {K:Ze}{a:Addr}{xs:List V} (hs:SqL K H1 a xs) (hlen:xs.length<sizeLine) (hl:H1 l=none) (p:Nat->Bool) (F:Nat->V->Hp->Prop) (stab:∀ i y H H',Tp H H'->F i y H->F i y H')
    (step:∀(i:Nat) (x:V) (H2:Hp),xs[i]?=some x->Same H1 H2->∀(N:V->Hp->Prop) (M:Hp->Prop),(∀ y H',Same H2 H'->p i=true->F i y H'->N y H')->(∀ H',Same H2 H'->p i=false->M H') ->
      g x (blk0 σ fr n) H2 fun σ' H3=>tc σ' H3 fun b H4=>if b=true then te σ' H4 N else M H4)
    (fin:∀ ys H2,Same H1 H2->H2 l=some (.lst ys)->ys.length=((Zz xs.length).filter p).length->(∀(j:Nat) (y:V) (i:Nat),ys[j]?=some y->((Zz xs.length).filter p)[j]?=some i->F i y H2)->Q (.ref l) H2):xc2 (Itl K a) n g σ fr tc te l H1 Q:=by
  refine xl1 xs.length hlen hl (fun i=>xs.getD i .non) (fun i H lt s=>⟨xs,xs[i],Same.seqL s hs,Zh lt⟩) (fun i H v H' lt s y=>?_) (fun H s=>⟨xs,Same.seqL s hs,Zj _⟩) p F stab (fun i H2 lt s N M h1 h2=>?_) fin
  . obtain⟨e,f⟩:=y
    have z:=f xs (Same.seqL s hs);refine⟨e,?_⟩;simp[z]
  . have e:xs[i]?=some (xs.getD i .non):=by simp[Zh lt]
    exact step i _ H2 e s N M h1 h2
theorem xgn {i:Nat}{x:V}{σ0:St}{H2:Hp}{N:V->Hp->Prop}{M:Hp->Prop}{g:TG}{te:TE} (h:g x σ0 H2 fun σ' H3=>te σ' H3 N):g x σ0 H2 fun σ' H3=>xdd σ' H3 fun b H4=>if b=true then te σ' H4 N else M H4:=by
 have e:(fun (σ':St) (H3:Hp)=>xdd σ' H3 fun b H4=>if b=true then te σ' H4 N else M H4)=fun σ' H3=>te σ' H3 N:=by
  funext σ' H3;show (if true=true then te σ' H3 N else M H3)=te σ' H3 N;rw[if_pos rfl]
 rw[e];exact h
theorem xdo (m:Nat):(Zz m).filter (fun _=>true)=Zz m:=by simp
theorem xct {K:Ze}{a:Addr}{xs:List V} (hs:SqL K H1 a xs) (hlen:xs.length<sizeLine) (hl:H1 l=none) (F:Nat->V->Hp->Prop) (stab:∀ i y H H',Tp H H'->F i y H->F i y H')
    (step:∀(i:Nat) (x:V) (H2:Hp),xs[i]?=some x->Same H1 H2->∀(N:V->Hp->Prop),(∀ y H',Same H2 H'->F i y H'->N y H')->g x (blk0 σ fr n) H2 fun σ' H3=>te σ' H3 N)
    (fin:∀ ys H2,Same H1 H2->H2 l=some (.lst ys)->ys.length=xs.length->(∀(i:Nat) (y:V),ys[i]?=some y->F i y H2)->Q (.ref l) H2):xc2 (Itl K a) n g σ fr xdd te l H1 Q:=by
  refine xha hs hlen hl (fun _=>true) F stab (fun i x H2 hx s N M h1 h2=>xgn (i:=i) (step i x H2 hx s N fun y H' s' f=>h1 y H' s' rfl f)) (fun ys H2 s e ly f=>?_);rw[xdo,Zv] at ly;refine fin ys H2 s e ly fun i y hy=>f i y i hy ?_;rw[xdo,Ju (by have:=(Zk.mp hy).1; omega)]
theorem xk1 {lo:Int}{m:Nat} (hlen:m<sizeLine) (hl:H1 l=none) (p:Nat->Bool) (F:Nat->V->Hp->Prop) (stab:∀ i y H H',Tp H H'->F i y H->F i y H')
    (step:∀(i:Nat) H2,i<m->Same H1 H2->∀(N:V->Hp->Prop) (M:Hp->Prop),(∀ y H',Same H2 H'->p i=true->F i y H'->N y H')->(∀ H',Same H2 H'->p i=false->M H') ->
      g (.int (lo+i)) (blk0 σ fr n) H2 fun σ' H3=>tc σ' H3 fun b H4=>if b=true then te σ' H4 N else M H4)
    (fin:∀ ys H2,Same H1 H2->H2 l=some (.lst ys)->ys.length=((Zz m).filter p).length->(∀(j:Nat) (y:V) (i:Nat),ys[j]?=some y->((Zz m).filter p)[j]?=some i->F i y H2)->Q (.ref l) H2):xc2 (Itr lo m) n g σ fr tc te l H1 Q:=by
  exact xl1 m hlen hl (fun i=>.int (lo+i)) (fun i H lt s=>lt) (fun i H v H' lt s y=>y) (fun H s=>Zj _) p F stab (fun i H2 lt s N M h1 h2=>step i H2 lt s N M h1 h2) fin
theorem xeu {lo:Int}{m:Nat} (hlen:m<sizeLine) (hl:H1 l=none) (F:Nat->V->Hp->Prop) (stab:∀ i y H H',Tp H H'->F i y H->F i y H')
    (step:∀(i:Nat) H2,i<m->Same H1 H2->∀(N:V->Hp->Prop),(∀ y H',Same H2 H'->F i y H'->N y H')->g (.int (lo+i)) (blk0 σ fr n) H2 fun σ' H3=>te σ' H3 N)
    (fin:∀ ys H2,Same H1 H2->H2 l=some (.lst ys)->ys.length=m->(∀(i:Nat) (y:V),ys[i]?=some y->F i y H2)->Q (.ref l) H2):xc2 (Itr lo m) n g σ fr xdd te l H1 Q:=by
  refine xk1 hlen hl (fun _=>true) F stab (fun i H2 hi s N M h1 h2=>xgn (i:=i) (step i H2 hi s N fun y H' s' f=>h1 y H' s' rfl f)) (fun ys H2 s e ly f=>?_);rw[xdo,Zv] at ly;refine fin ys H2 s e ly fun i y hy=>f i y i hy ?_;rw[xdo,Ju (by have:=(Zk.mp hy).1; omega)]
end
theorem xqr {α:Type}{f:α->V}:∀{as:List α}{ys:List V},ys.length=as.length->(∀(i:Nat) (y:V) (a:α),ys[i]?=some y->as[i]?=some a->y=f a)->ys=as.map f
 | [],[],_,_=>rfl
 | [],_::_,h,_=>by cases h
 | _::_,[],h,_=>by cases h
 | a::as,y::ys,h,k=>by
  rw[Zr,k 0 y a rfl rfl,xqr (as:=as) (ys:=ys) (by simpa using h) fun i y' a' h1 h2=>k (i+1) y' a' (by simpa using h1) (by simpa using h2)]
theorem xly {α:Type} (q:α->Bool):∀(as:List α) (p:Nat->Bool),(∀(i:Nat) (a:α),as[i]?=some a->p i=q a)->((Zz as.length).filter p).filterMap (fun i=>as[i]?)=as.filter q
 | [],_,_=>rfl
 | a::as,p,h=>by
  have ih:=xly q as (fun i=>p (i+1)) fun i b hb=>h (i+1) b (by simpa using hb);rw[ZQ,List.range_succ_eq_map];have e:((Zz as.length).map Nat.succ).filter p=((Zz as.length).filter (fun i=>p (i+1))).map Nat.succ:=by
   rw[List.filter_map];rfl
  have h0:=h 0 a rfl;by_cases c:q a=true
  .rw [Je (by rw[h0]; exact c),Je c,e,Yz];simp only[List.getElem?_cons_zero,QW];rw[<- ih];rfl
  .rw [Jm (by rw[h0]; exact c),Jm c,e,QW,<- ih];rfl
theorem xrj {α:Type} (q:α->Bool) {as:List α}{p:Nat->Bool} (h:∀(i:Nat) (a:α),as[i]?=some a->p i=q a):((Zz as.length).filter p).length=(as.filter q).length/\∀ j i:Nat,((Zz as.length).filter p)[j]?=some i->as[i]?=(as.filter q)[j]?:=by
 rw[<- xly q as p h];have all:∀ i∈(Zz as.length).filter p,∃ a,as[i]?=some a:=fun i hi=>by
  have:=ZL.mp (ZH.mp hi).1;exact⟨as[i],Zh this⟩
 generalize (Zz as.length).filter p=is at all
 induction is with
 | nil=>exact⟨rfl,fun j i e=>by simp at e⟩
 | cons i is ih =>
  obtain⟨a,ha⟩:=all i Z0;obtain⟨h1,h2⟩:=ih fun k hk=>all k (Z1 _ hk)
  rw[Yz,ha];refine⟨by simp[h1],fun j k e=>?_⟩;cases j with
  | zero =>
   simp at e;subst e;exact ha
  | succ m=>exact h2 m k (by simpa using e)
end L2
namespace XL
open PySem PySem.MeetsSeq PySem.MeetsSeq2 PySem.MeetsSeq3 PySem.SeqAt
open AutoSeq1 (wpAny_loadPart')
end XL
namespace L2
open PySem PySem.Spec PyProof.Rows XL PySem.W
def xnf:Expr->Bool
 | .Starred _ _=>false
 | _=>true
theorem xl8 {e:Expr}{es:List Expr}{env:Env} (h:xnf e=true):starEach (e::es) env=(false,eval e env)::starEach es env:=by
 cases e<;>first|rfl|cases h
theorem xx {X:Cx}{e:Expr}{es:List Expr}{te:TE}{t:TA} (ha:PE X e te) (hr:PA X es t) (hn:xnf e=true):PA X (e::es) (xfv te t):=xa ha hr (xl8 hn)
end L2
namespace XL
open PySem L2
open PyProof.Rows (assign_Tuple)
end XL
namespace L2
open PySem PySem.Spec PyProof.Rows XL PySem.W
end L2
namespace L2
open PySem PySem.Spec PyProof.Rows XL PySem.W PySem.Builtin PySem.Builtin.Str
theorem xet {a b:Str} (h:a.cps.toList=b.cps.toList):a=b:=by
 obtain⟨a⟩:=a;obtain⟨b⟩:=b;exact congrArg Str.mk (Array.toList_inj.mp h)
end L2
namespace L2
open PySem PySem.Spec PyProof.Rows XL
open AutoSeq1 (wpAny_loadPart')
end L2
namespace L2
open PySem PySem.Spec PyProof.Rows XL
theorem xmz:typeLookup (.type "list_reverseiterator") "__len__"=pure none:=by rw[JC,Jb]; kernel_rfl
theorem xqf:typeLookup (.type "list_reverseiterator") "__length_hint__"=pure (some (.builtin "list_reverseiterator.__length_hint__")):=by rw[JC,Jb]; kernel_rfl
section
variable {prog:Program}{w:World}{A:Around}{E:Value->Shared->Prop}{s:Shared}
theorem xqn {I l:Addr}{i:Int}{Q:Bool->Shared->Prop} (hit:s.heap.IsRevIter I l i) (h:Q false s):wpAny (model prog w) A (Builtin.List.listLengthHint (.ref I)) Q E s:=by
 unfold Builtin.List.listLengthHint;refine Zc (JI hit.typeIs xmz ?_);show wpAny _ _ (specialOf (Zn I) (Zb "__length_hint__")>>=_) _ _ _;refine Zc (JI hit.typeIs xqf ?_);generalize hid:("list_reverseiterator.__length_hint__":String)=id0
 wp_delta
 rw[show splitId id0=some ("list_reverseiterator", "__length_hint__") from by subst hid; decide +kernel];subst hid;refine Zc (Yt (T:="list_reverseiterator") (b:=true) hit.typeIs (by rw[YA]; kernel_rfl) ?_);refine YS (fun hab=>absurd hab (by decide)) (fun _=>?_);refine YS (fun _=>?_) (fun hab=>absurd (by decide +kernel) hab);refine YS (fun hab=>absurd hab (by decide +kernel)) (fun _=>?_);exact Zm h
theorem xmr {R:Result->Shared->Prop} (hh:A.handled=none) {I l:Addr}{items:Array Value} (hne:l≠I) (S:Addr) (hSI:S≠I) (hSl:S≠l) (res:Value) (c₀:Nat) (hit:s.heap.IsRevIter I l ((items.size:Int)-1)) (hl:s.heap.IsList l items)
    (hS:s.heap.get? S=some { cls:=.type "list",data:=.seq #[] c₀ }) (hn:items.size<=sizeLine)
    (hR:∀ h' tk acc' c',(∀ b o,b≠S->b≠I->s.heap.get? b=some o->h'.get? b=some o)->h'.get? S=some { cls:=.type "list",dict:=none,data:=.seq acc' c',slots:=#[] } ->
      ItemsOf (fun i v=>items[items.size-1-i]?=some v) acc' items.size->R (.ok (.ret res)) { s with heap:=h',toks:=tk }) :
    wpAny (model prog w) A.in1 (Builtin.List.listExtendWith (.ref S) (.ref I) res)
      (fun fin s'=>match fin with|.done f=>R (.ok f) s'|.again c'=>c'.quiet=true/\codeAny (model prog w) A c' R s') (fun e s'=>R (.error e) s') s:=by
  have hSf:S∉[I,l]:=by simp[hSI,hSl]
  have W:=(Walks.listRev (prog:=prog) (w:=w) (A:=A.in1) hh I l hne items).toS;unfold Builtin.List.listExtendWith;refine Zc (Yg hit.typeIs ?_);have h1:Builtin.List.listSameRef (.ref S) (.ref I)=false:=by simp[Builtin.List.listSameRef,hSI]
  have h2:(Qx "list_reverseiterator" == Qx "list")=false:=by decide
  have h3:(Qx "list_reverseiterator" == Qx "tuple")=false:=by decide
  simp only[h1,h2,h3,Qj,Jo,if_false];refine Zc (QJ hit ?_);refine Zc (J4 (xqn hit ?_));rw[if_neg (by decide)];have hit0:s.heap.IsRevIter I l ((items.size:Int)-1-((0:Nat):Int)):=by simpa using hit
  refine Zm ⟨Qg F.plain_extend_loop _,codeAny_extend_loopS W hn S hSf res items.size 0 _ #[] c₀ rfl (ZZ _) ⟨ZZ _,hit0,hl⟩ hS (ItemsOf.nil _) fun s' acc' c' hm hS' hacc=>?_⟩;rw[Moved.eq_with hm];refine hR s'.heap s'.toks acc' c' (fun b o hb hb2 e=>hm.heap b o (fun hmem=>?_) e) hS' hacc;rcases Zx.mp hmem with e'|hmem
  . exact hb e'
  . exact hb2 (Zw.mp hmem)
theorem xi6 {Q:Value->Shared->Prop} (hh:A.handled=none) {I l:Addr}{items:Array Value} (hne:l≠I) (hit:s.heap.IsRevIter I l ((items.size:Int)-1)) (hl:s.heap.IsList l items) (hn:items.size<=sizeLine)
    (hQ:∀ h' tk acc' c',(∀ b o,b≠I->s.heap.get? b=some o->h'.get? b=some o) ->
      h'.get? s.heap.objs.size=some { cls:=.type "list",dict:=none,data:=.seq acc' c',slots:=#[] }->ItemsOf (fun i v=>items[items.size-1-i]?=some v) acc' items.size->Q (.ref s.heap.objs.size) { s with heap:=h',toks:=tk }) :
    wpAny (model prog w) A (call (.type "list") [.ref I]) Q E s:=by
  refine callType_codes (Q₁:=fun obj s₁=>obj=.ref s.heap.objs.size/\s₁={ s with heap:=s.heap.push { cls:=.type "list",data:=.seq #[] } }) F.called_list (F.typeCall_list_1 _) F.entry_list_init
    (code_list_new _ ⟨rfl,rfl⟩) fun obj s₁ h₁=>?_
  obtain⟨rfl,rfl⟩:=h₁;have hS:(s.heap.push { cls:=.type "list",data:=.seq #[] }).get? s.heap.objs.size=some { cls:=.type "list",data:=.seq #[] }:=Zu _ rfl;have iI:I<s.heap.objs.size:=by obtain⟨o,e,_⟩:=hit; exact Zq e
  have il:l<s.heap.objs.size:=by obtain⟨o,e,_⟩:=hl; exact Zq e
  refine⟨⟨_,hS,rfl⟩,F.args_list_init_2 _ _,?_⟩;show wpAny _ _ (do let old <- Builtin.List.listItems (.ref s.heap.objs.size); Builtin.List.listUpdate (.ref s.heap.objs.size) (fun _=>#[]); letGo old.toList.reverse; Builtin.List.listExtendWith (.ref s.heap.objs.size) (.ref I) .none) _ _ _;refine Zc ?_;unfold Builtin.List.listItems;refine Zc (wpAny_seqItems hS rfl (Zm ?_));show wpAny _ _ (updateSeq s.heap.objs.size (fun _=>#[])>>=fun _=>letGo (#[]:Array Value).toList.reverse>>=fun _=>Builtin.List.listExtendWith (.ref s.heap.objs.size) (.ref I) .none) _ _ _;refine Zc (wpAny_updateSeq hS rfl ?_);have hS₂:=ZU (Jn (fun _=>(#[]:Array Value))) hS rfl;have oth:∀ b o,s.heap.get? b=some o->((s.heap.push { cls:=.type "list",data:=.seq #[] }).update s.heap.objs.size (Jn (fun _=>(#[]:Array Value)))).get? b=some o :=
    fun b o e=>(J8 _ _ (Yq (Zq e))).trans (Zg _ e)
  refine Zc (wpAny_letGo ?_);refine xmr (A:=A.in1) hh hne s.heap.objs.size (Yq iI) (Yq il) .none _ (hit.at (oth I)) (hl.at (oth l)) hS₂ hn fun h' tk acc' c' hk hS' hacc=>?_;exact⟨rfl,hQ h' tk acc' c' (fun b o hb e=>hk b o (ZK (Zq e)) hb (oth b o e)) hS' hacc⟩
end
def xu8 (K:Ze) (ta:TA):TE:=fun σ H Q=>ta σ H fun vs H1=>∃ a xs,vs=[.ref a]/\SqL K H1 a xs/\∀ l,H1 l=none->Q (.ref l) (upd H1 l (.lst xs.reverse))
section
variable {X:Cx}
theorem xdm {a:Expr}{ta:TA}{p p2 pos pos2:Pos} (hc:X.calm=true) (hg:Gl X "list") (hm:X.mg "list"=none) (hg2:Gl X "reversed") (hm2:X.mg "reversed"=none) (ha:PA X [a] ta)
    (hs:starEach [a] X.env=[(false,eval a X.env)]:=by rfl) (hs3:starEach [.Call (.Name "reversed" p2) [a] [] pos2] X.env=[(false,eval (.Call (.Name "reversed" p2) [a] [] pos2) X.env)]:=by rfl) :
    PE X (.Call (.Name "list" p) [.Call (.Name "reversed" p2) [a] [] pos2] [] pos) (xu8 X.K ta):=by
  intro pins s σ H Q I h;refine Y6 (xca I hg hm PyProof.Rows.Boot.«list» ?_);refine ZP ?_ (by rw[hs3]; rfl) rfl;rw[hs3];show wpAny _ _ (spliced ((false,eval (.Call (.Name "reversed" p2) [a] [] pos2) X.env)::backTo pos [])) _ _ s;refine Y8 ?_;refine Call_ (xca I hg2 hm2 PyProof.Rows.Boot.«reversed» (ZP (thn (ha pos2 pins s σ H _ I h) fun us s1 ⟨vs,H1,I1,r1,q1⟩=>?_) hs rfl));obtain⟨l,xs,e,hq,q⟩:=q1;subst e;obtain⟨u,rfl,ru⟩:=xbr r1;obtain rfl:u=Zn l:=ru;obtain⟨its,rv,p,hz⟩:=I1.list hq;have hlen:=rv.length;refine call_reversed_list p.isList ?_;refine Qe ?_;have I2:Inv X pins σ H1 { s1 with heap:=s1.heap.push (revObj l ((its.toArray.size:Int)-1)) }:=I1.kept (t':=s1.toks) fun b o e=>Zg _ e;have hit:Heap.IsRevIter (s1.heap.push (revObj l ((its.toArray.size:Int)-1))) s1.heap.objs.size l ((its.toArray.size:Int)-1):=⟨_,Zu _ rfl,rfl,rfl⟩
  have hll:l<s1.heap.objs.size:=by obtain⟨o,e,_⟩:=p.isList; exact Zq e
  have hl2:(s1.heap.push (revObj l ((its.toArray.size:Int)-1))).IsList l its.toArray:=p.isList.at fun o e=>Zg _ e;have f2:=I1.fpOk (Zj s1.heap.objs.size) (I1.hok.fresh (Zj _));generalize hs2:({ s1 with heap:=s1.heap.push (revObj l ((its.toArray.size:Int)-1)) }:Shared)=s2 at I2;have hit':s2.heap.IsRevIter s1.heap.objs.size l ((its.toArray.size:Int)-1):=by rw[<- hs2]; exact hit
  have hl2':s2.heap.IsList l its.toArray:=by rw[<- hs2]; exact hl2
  refine xi6 (I.ok.hd hc) (ZK hll) hit' hl2' (by simp only[Z5]; omega) fun h' tk acc' c' hk hS' hacc=>?_;have I3:Inv X pins σ H1 { s2 with heap:=h',toks:=tk }:=I2.turned (t':=tk) (it:=s1.heap.objs.size) (fun b o hb e=>hk b o hb e) (I1.hok.fresh (Zj _)) f2.2.1 f2.2.2.2.1 f2.2.2.2.2.1 f2.2.2.2.2.2;have z2:s1.heap.objs.size<s2.heap.objs.size:=by obtain⟨o,e,_⟩:=hit'; exact Zq e
  have e1:acc'.toList.length=xs.reverse.length:=by rw[JA,hlen]; simpa using hacc.1
  obtain⟨n0,nL,nC,nP⟩:=I2.size_lt (Zj s2.heap.objs.size);refine⟨.ref s2.heap.objs.size,_,I3.adopt n0 I2.sz nL nC nP (show xau X.prog X.w _ h' _ (.lst xs.reverse) from ⟨by rw[JA]; exact hz,acc'.toList,c',xgd e1 fun j y u ey eu=>?_,by simpa using hS'⟩),rfl,q _ n0⟩;have eu':acc'[j]?=some u:=by simpa using eu
  have lt:j<xs.length:=by
    have:=(Zk.mp ey).1;simpa using this
  have h2:=hacc.2 j u eu';rw[QA lt] at ey;obtain⟨u',hu',ru'⟩:=rv.get ey;have h2':its[its.length-1-j]?=some u:=by simpa using h2
  rw[<- hlen,hu'] at h2';cases h2';exact ru'
end
end L2
namespace L2
open PySem PySem.Spec PyProof.Rows XL
open AutoSeq1 (wpAny_loadPart')
end L2
namespace L2
open PySem PySem.Spec PyProof.Rows XL
end L2
namespace L2
open PySem PySem.Spec PyProof.Rows XL PySem.W PySem.Builtin PySem.Builtin.Str
theorem xdn (a b:Str):(a++b).cps.toList=a.cps.toList++b.cps.toList:=by
 show (a.cps++b.cps).toList=_;simp
theorem xf2 (a:Str):a.length=a.cps.toList.length:=by simp[Y5]
theorem xgp (s k:Nat):∀(ws:List Str) (a:Nat),(∀ w∈ws,w.length<=k)->ws.foldl (fun n w=>n+w.length+s) a<=a+ws.length*(k+s)
 | [],a,_=>by simp
 | w::ws,a,h=>by
  have h1:=h w Z0;have ih:=xgp s k ws (a+w.length+s) fun v hv=>h v (Z1 _ hv);rw[List.foldl_cons,ZQ,Nat.succ_mul];omega
theorem xlt:∀{ws:List Str}{its:List Value},Vals (ws.map V.str) its->∃ l:List (Str × Tok),its=strValues l/\l.map (·.1)=ws
 | [],_,.nil=>⟨[],rfl,rfl⟩
 | w::ws,_,.cons r rs=>by
  obtain⟨t,rfl⟩:=r;obtain⟨l,e1,e2⟩:=xlt rs;exact⟨(w,t)::l,by rw[e1]; rfl,by rw[<- e2]; rfl⟩
theorem xfk {sep:Str}{k:Nat}:∀{ws:List Str},(∀ p∈ws,p.length<=k)->(Y0 sep ws).length<=ws.length*(k+sep.length)
 | [],_=>by show (Y0 sep []).length<=0*(k+sep.length); rw[Nat.zero_mul]; exact Nat.le_of_eq rfl
 | [a],h=>by
  have:=h a Z0;show a.length<=1*(k+sep.length);omega
 | a::b::r,h=>by
  have h1:=h a Z0;have ih:=xfk (sep:=sep) (k:=k) (ws:=b::r) fun p hp=>h p (Z1 _ hp);have e:(Y0 sep (a::b::r)).length=a.length+sep.length+(Y0 sep (b::r)).length:=by
   show (a++sep++Y0 sep (b::r)).length=_;rw[xf2,xdn,xdn,Zs,Zs,<- xf2,<- xf2,<- xf2]
  rw[e,ZQ,Nat.succ_mul];omega
def xvf:V->List V->Hp->VK->Prop:=fun x xs H Q=>∃(sep:Str) (l:Addr) (ws:List Str) (k:Nat),x=.str sep/\xs=[.ref l]/\H l=some (.lst (ws.map V.str))/\(∀ w∈ws,w.length<=k)/\ws.length*(k+sep.length)<=sizeLine/\Q (.str (Y0 sep ws)) H
section
variable {X:Cx}
theorem xsc:MtR X "str.join" xvf:=by
 intro pins s σ H x xs v us Q I rx rs h;obtain⟨sep,l,ws,k,rfl,rfl,hl,hk,hz,q⟩:=h;obtain⟨t,rfl⟩:=rx;obtain⟨u,rfl,ru⟩:=xbr rs;obtain rfl:u=Zn l:=ru;obtain⟨_,its,n,vs,e⟩:=I.hok _ _ hl;obtain⟨ps,rfl,rfl⟩:=xlt vs;have fl:=xgp sep.length k (ps.map (·.1)) 0 hk;have hl2:tooLong ((ps.map (·.1)).toArray.foldl (·+·.length+sep.length) 0)=false:=by
  unfold tooLong;rw[List.foldl_toArray];exact decide_eq_false (by omega)
 refine Qw F.slot_str_join (YX s sep t) F.entry_str_join (F.args_str_join_2 _ _) (meets_str_join_list sep t l ps hl2) ⟨⟨_,e,rfl,n,rfl⟩,?_⟩;have jz:=xfk (sep:=sep) hk;have jl:(glued sep (ps.map (·.1))).length<=sizeLine:=by
  rw[YI];exact ZB jz hz
 rw[<- YI] at q
 match ps,jl,q with
 | [],jl,q=>exact⟨jl,.str _,H,I.tok _,⟨_,rfl⟩,q⟩
 | [p],jl,q =>
  rw[YI] at q;exact⟨.str p.1,H,I,⟨_,rfl⟩,q⟩
 | p::p2::r,jl,q=>exact⟨jl,.str _,H,I.tok _,⟨_,rfl⟩,q⟩
end
end L2
namespace L2
open PySem PySem.Spec PyProof.Rows XL PySem.W
section
variable {X:Cx}
def sgnL (x:Str):List V:=x.cps.toList.map fun c=>V.str ⟨#[c]⟩
theorem xi8 (hc:X.calm=true):xbx X (.type "list") (fun xs H Q=>∃ x:Str,xs=[.str x]/\x.length<=1000/\∀ l,H l=none->Q (.ref l) (upd H l (.lst (sgnL x)))):=by
 intro pins s σ H xs us Q I r h;obtain⟨x,rfl,hn,q⟩:=h;obtain⟨u,rfl,t,rfl⟩:=xbr r;refine PySem.call_list_str (I.ok.hd hc) x t (fun h' tk acc' c' kp e it=>?_) (ZB hn (by decide));have len:acc'.toList.length=(sgnL x).length:=by
  rw[sgnL,Za];have:=it.1;simpa using this
 refine⟨.ref s.heap.objs.size,_,I.laid (t':=tk) kp (Zj _) (show xau X.prog X.w _ h' _ (.lst (sgnL x)) from ⟨?_,acc'.toList,c',xgd len fun j y u ey eu=>?_,by simpa using e⟩),rfl,q _ (I.hok.fresh (Zj _))⟩
 .rw [sgnL,Za];have:x.cps.toList.length=x.length:=by simp[Y5]
  exact ZB (by omega:_<=1000) (by decide)
 .have eu':acc'[j]?=some u:=by simpa using eu
  obtain⟨c,t2,e1,e2⟩:=it.2 j u eu';rw[sgnL,Zf,Jv,e1] at ey;cases ey;exact⟨t2,e2⟩
end
end L2
namespace L2
open PySem PySem.Spec PyProof.Rows XL PySem.W PySem.Builtin PySem.Builtin.Str
def ofL (l:List Nat):Str:=⟨l.toArray⟩
theorem xa4 (l:List Nat):(ofL l).cps.toList=l:=by simp[ofL]
section
variable {prog:Program}{w:World}{K:Type} [DecidableEq K] {A:Around}{E:Value->Shared->Prop}{s:Shared}
def xbg (xs more:List (K × Addr × Value)):List (K × Addr × Value):=more.foldl (fun acc x=>storedH acc x.1 x.2.1 x.2.2) xs
theorem xjs (xs more:List (K × Addr × Value)) (i:Nat) (x:K × Addr × Value) (h:more[i]?=some x):xbg xs (more.take (i+1))=storedH (xbg xs (more.take i)) x.1 x.2.1 x.2.2:=by
 simp[xbg,ZI,h,Qd]
theorem xky (xs:List (K × Addr × Value)) (k:K) (a:Addr) (v:Value):(storedH xs k a v).length<=xs.length+1:=by
 unfold storedH;split<;>simp
theorem xeb:∀(more xs:List (K × Addr × Value)),(xbg xs more).length<=xs.length+more.length
 | [],xs=>Zj _
 | x::r,xs=>by
  have a:=xeb r (storedH xs x.1 x.2.1 x.2.2);have b:=xky xs x.1 x.2.1 x.2.2;show (xbg (storedH xs x.1 x.2.1 x.2.2) r).length<=xs.length+(r.length+1)
  omega
theorem xe3:∀(more xs:List (K × Addr × Value)),((xs++more).map (·.1)).Nodup->xbg xs more=xs++more
 | [],xs,_=>(Yh _).symm
 | x::r,xs,h=>by
  have e:storedH xs x.1 x.2.1 x.2.2=xs++[x]:=by
   refine storedH_new (atKey_none_of_get fun j p hj=>?_) x.2.1 x.2.2;rw[Z9,ZT] at h;exact h.2.2 x.1 (Zd.mpr ⟨_,Zp hj,rfl⟩) x.1 (by simp) rfl
  show xbg (storedH xs x.1 x.2.1 x.2.2) r=_;rw[e,xe3 r (xs++[x]) (by rw[List.append_assoc]; exact h),List.append_assoc];rfl
theorem xmo {knd:HeapKind prog w K}{d a:Addr}{xs:List (K × Addr × Value)}{k:K}{v:Value}{Q:Unit->Shared->Prop} (hu:knd.room A) (hkey:knd.is s.heap k a) (hm:s.heap.DictOfH knd d xs)
    (hsz:xs.length<=sizeLine) (hQ:∀ h',h'.DictOfH knd d (storedH xs k a v)->ZN d s.heap h'->Q () { s with heap:=h' }) :
    wpAny (model prog w) A (dictSetHashed d (.ref a) (knd.hash k) v) Q E s:=by
  obtain⟨o,es,ep,ho,hc,hd,he,his,hn⟩:=hm;unfold dictSetHashed
  try with_reducible refine J4 ?_
  refine Zc (wpAny_dictFind_heap hu hkey ho hd he his hn (fun hno=>?_) (fun j p hj=>?_))
  . have hnot:k∉xs.map (·.1):=not_mem_keys_of_get hno
    have e:=storedH_new (atKey_none_of_get hno) a v;refine Zc (Qv (wpAny_updateDictKeys (hz:=by have e:=size_of_entries he; omega) ho hd (hQ _ ⟨_,_,ep+1,ZU _ ho (QQ (YN hd _)),hc.mapDictKeys _,YN hd _,?_,?_,?_⟩ (ZN.update ..))))
    . rw[e]
      simp[he,entryOfKey]
    . rw[e]
      intro x hx;rcases Z8.mp hx with hx|hx
      . exact knd.keeps (his x hx) ho hd (ZN.update ..)
      . rw[Zw.mp hx]
        exact knd.keeps hkey ho hd (ZN.update ..)
    . rw[e,Z9,ZT]
      refine⟨hn,by simp,fun x hx y hy z=>hnot ?_⟩;have hy:y∈[k]:=hy;rw[Zw.mp hy] at z;exact z▸hx
  . have e:=storedH_old (atKey_of_get hn hj) a v
    refine Zc (Qv (Zc (wpAny_updateDict ho hd (wpAny_point (hQ _ ⟨_,_,ep,ZU _ ho (QQ (Obj.data_mapDict hd _)),hc.mapDict _,Obj.data_mapDict hd _,?_,?_,?_⟩ (ZN.update ..))))))
    . rw[e]
      have:=modify_map_putAt (entryOfKey knd) (fun e:DictEntry=>{ e with val:=v }) k v (fun _ _=>rfl) hn hj;rw[<- he] at this;obtain⟨l⟩:=es;simpa using this
    . rw[e]
      intro x hx;obtain⟨y,hy,rfl⟩:=Zd.mp hx;unfold putAt;split<;>exact knd.keeps (his y hy) ho hd (ZN.update ..)
    . rw[e,keys_map_putAt]
      exact hn
end
section
variable {prog:Program}{w:World}{K:Type} [DecidableEq K] {kk:KeyKind prog w K}{A:Around}{E:Value->Shared->Prop}{s:Shared}
theorem xng {α β:Type} [BEq β] [LawfulBEq β] {f:α->β}:∀{l:List α}{x:α},(l.map f).Nodup->x∈l->(l.filter fun y=>f y == f x).length<=1
 | y::r,x,h,hx=>by
  rw[Zr,Jc] at h;rw[JP];split
  .rename_i e
   have e:f y=f x:=eq_of_beq e;have z:(r.filter fun y=>f y == f x)=[]:=by
    rw[Q3];intro u hu eu;exact h.1 (Zd.mpr ⟨u,hu,(eq_of_beq eu).trans e.symm⟩)
   rw[z];exact Zj _
  .rename_i e
   rcases Zx.mp hx with rfl|hx
   .exact absurd (beq_self_eq_true _) e
   .exact xng h.2 hx
theorem xs9 {nm:String}{o:Addr}{oo:Obj}{es:Array DictEntry}{ep:Nat}{more:List (List K × Addr × Value)}{Q:Array DictEntry->Shared->Prop} (hoo:s.heap.get? o=some oo) (hd:oo.data=.dict es ep)
    (he:es.toList=more.map (entryOfKey (tupleKind kk))) (his:∀ x∈more,(tupleKind kk).is s.heap x.1 x.2.1) (hh:(more.map fun x=>(tupleKind kk).hash x.1).Nodup) (h:Q es s) :
    wpAny (model prog w) A (Builtin.Dict.entriesForEmpty nm o) Q E s:=by
  unfold Builtin.Dict.entriesForEmpty;refine Zc (Jj hoo hd ?_);refine Zc ?_;rw[<- Array.forIn_toList];refine wpAny_forIn_list _ (fun rest _ s'=>s'=s/\∀ e∈rest,e∈es.toList) _ ?_ ?_ _ _ ⟨rfl,fun e z=>z⟩
  . rintro e rest b s' ⟨rfl,mem⟩
    have me:=mem e (Z0 ..);rw[he] at me;obtain⟨x,hx,rfl⟩:=Zd.mp me;obtain⟨ox,its,n,h1,h2,h3,h4⟩:=his x hx;have one:¬ (es.filter (·.hash == (entryOfKey (tupleKind kk) x).hash)).size>1:=by
      rw[<- JB,Array.toList_filter,he];have z:=xng hh hx;rw[List.filter_map,Za];exact QU.mpr z
    refine Zc ?_;show wpAny _ _ (Builtin.Dict.quietEq (.ref x.2.1)) _ _ _;unfold Builtin.Dict.quietEq;refine Zc (JI (T:="tuple") ⟨ox,h1,h2⟩ F.slot_tuple_eq.lookup (Zm ?_));rw[show ((some (Yi "tuple.__eq__"):Option Value) == some (Yi "object.__eq__"))=false from by decide];simp only[Bool.not_false,if_true];rw[if_neg one];exact Zm ⟨rfl,fun e z=>mem e (Z1 _ z)⟩
  . rintro b s' ⟨rfl,_⟩
    exact Zm h
theorem xtb {nm:String}{d o:Addr}{xs more:List (List K × Addr × Value)}{Q:Unit->Shared->Prop} (hu:(tupleKind kk).room A) (hdo:d≠o) (hoS:(o == sysModules)=false)
    (hd:s.heap.DictOfH (tupleKind kk) d xs) (ho:s.heap.DictOfH (tupleKind kk) o more) (hh:xs=[]->(more.map fun x=>(tupleKind kk).hash x.1).Nodup) (hsz:xs.length+more.length<=sizeLine)
    (hQ:∀ h',h'.DictOfH (tupleKind kk) d (xbg xs more)->ZN d s.heap h'->Q () { s with heap:=h' }) :
    wpAny (model prog w) A (Builtin.Dict.mergeDict nm d o) Q E s:=by
  obtain⟨od,esd,epd,hod,hcd,hdd,hed,hid,hnd⟩:=id hd;obtain⟨oo,eso,epo,hoo,hco,hdo',heo,hio,hno⟩:=id ho;have hlen:more.length=eso.size:=by rw[<- JB,heo,Za]
  unfold Builtin.Dict.mergeDict;rw[if_neg (by simpa using hdo)];unfold Builtin.Dict.showsAll;rw[if_neg (by rw[hoS]; exact Z7)];refine Zc (Zm ?_);refine Zc (Jj hoo hdo' ?_);have loop:∀ Q':PUnit->Shared->Prop,(∀ h',h'.DictOfH (tupleKind kk) d (xbg xs more)->ZN d s.heap h'->Q' YY { s with heap:=h' })->wpAny (model prog w) A (forIn (List.range' 0 eso.size) YY fun i (_:PUnit)=>(do
          let l' <- dictEntries o
          match l'[i]? with
            | some e=>do
              holding [e.key,e.val] (dictSetHashed d e.key e.hash e.val)
              let ep' <- dictEpoch o
              if (ep' != epo)=true then do
                  (unsupported (toString nm++toString ":source-changed-during-callback"):Sem PUnit)
                  pure (JJ YY)
                else pure (JJ YY)
            | _=>do
              (unsupported "internal:dict-merge":Sem PUnit)
              pure (JJ YY):Sem (ForInStep PUnit))) Q' E s:=by
    intro Q' hQ';refine wpAny_forIn_list _ (fun rest _ s'=>∃ h' i,s'={ s with heap:=h' }/\rest=List.range' i (eso.size-i)/\i<=eso.size/\h'.DictOfH (tupleKind kk) d (xbg xs (more.take i))/\h'.get? o=some oo/\ZN d s.heap h')
      _ ?_ ?_ _ _ ⟨s.heap,0,rfl,by simp,ZZ _,hd,hoo,ZN.refl _ _⟩
    . rintro x rest b s' ⟨h',i,rfl,hr,hi,hd',hoo',hs'⟩
      have hlt:i<eso.size:=by
        rcases Nat.lt_or_ge i eso.size with h|h
        . exact h
        . rw[Nat.sub_eq_zero_of_le h] at hr
          exact nomatch hr
      obtain⟨rfl,hrest⟩:x=i/\rest=List.range' (i+1) (eso.size-(i+1)):=by
        have e:eso.size-i=(eso.size-(i+1))+1:=by omega
        rw[e,List.range'_succ] at hr;injection hr with h1 h2
        exact⟨h1,h2⟩
      have hlm:x<more.length:=by omega
      have hkv:more[x]?=some more[x]:=Zh hlm;refine Zc (Jj hoo' hdo' ?_);rw[entry_at heo x,hkv];have hk0:=hio more[x] (Qq hlm);have hk1:(tupleKind kk).is h' more[x].1 more[x].2.1:=(tupleKind kk).keeps hk0 hod hdd hs';have hz:(xbg xs (more.take x)).length<=sizeLine:=by
        have e1:=xeb (more.take x) xs;rw[Jt] at e1;omega
      show wpAny _ _ (holding [.ref more[x].2.1,more[x].2.2] (dictSetHashed d (.ref more[x].2.1) ((tupleKind kk).hash more[x].1) more[x].2.2)>>=_) _ _ _;refine Zc (J4 (xmo hu hk1 hd' hz fun h2 hd2 hs2=>?_));have hoo2:h2.get? o=some oo:=(hs2.2 o (ZE hdo)).trans hoo';refine Zc (JT hoo2 hdo' ?_);rw[if_neg (by simp)];exact Zm ⟨h2,x+1,rfl,hrest,hlt,by rw[xjs xs more x more[x] hkv]; exact hd2,hoo2,hs'.trans hs2⟩
    . rintro b s' ⟨h',i,rfl,hr,hi,hd',hoo',hs'⟩
      have hin:i=eso.size:=by
        rcases Nat.lt_or_ge i eso.size with h|h
        . have e:eso.size-i=(eso.size-(i+1))+1:=by omega
          rw[e,List.range'_succ] at hr;exact nomatch hr
        . exact Nat.le_antisymm hi h
      rw[hin,<- hlen,Jz] at hd';exact hQ' h' hd' hs'
  dsimp only
  split
  . refine Zc (Jj hod hdd ?_)
    split
    . rename_i hemp
      have h0:esd=#[]:=Array.isEmpty_iff.mp hemp;have hx:xs=[]:=by
        rw[h0] at hed;exact YU.mp hed.symm
      subst hx;refine Zc (xs9 hoo hdo' heo hio (hh rfl) ?_);rw[xe3 more [] hno] at hQ;split
      . refine Zc (wpAny_updateDictKeysTo hod hdd (Zm (hQ _ ⟨_,_,epd+1,ZU _ hod (QQ (YN hdd _)),hcd.mapDictKeys _,YN hdd _,heo,fun x hx=>(tupleKind kk).keeps (hio x hx) hod hdd (ZN.update ..),hno⟩ (ZN.update ..))) ?_)
        simp only[List.length_nil,Nat.zero_add] at hsz;omega
      . rename_i hne
        have h1:eso=#[]:=Array.isEmpty_iff.mp (by simpa using hne);have hm0:more=[]:=Qt.mp (by rw[hlen,h1]; rfl);subst hm0;exact Zm (hQ _ hd (ZN.refl _ _))
    . refine Zc (JT hoo hdo' ?_)
      refine Zc (Jj hoo hdo' ?_);refine Zc ?_;rw[Std.Legacy.Range.forIn_eq_forIn_range'];simp only[Std.Legacy.Range.size,Nat.sub_zero,Nat.add_sub_cancel,Nat.div_one];exact loop _ fun h' a b=>Zm (hQ h' a b)
  . refine Zc (JT hoo hdo' ?_)
    refine Zc (Jj hoo hdo' ?_);refine Zc ?_;rw[Std.Legacy.Range.forIn_eq_forIn_range'];simp only[Std.Legacy.Range.size,Nat.sub_zero,Nat.add_sub_cancel,Nat.div_one];exact loop _ fun h' a b=>Zm (hQ h' a b)
theorem xi5 (d o:Addr) (hdo:d≠o) (hoS:(o == sysModules)=false) :
    MeetsIn prog w (Builtin.«dict.update» ⟨[.ref d,.ref o],[]⟩) (fun A R s=>(tupleKind kk).room A.in1/\∃ xs more,s.heap.DictOfH (tupleKind kk) d xs/\s.heap.DictOfH (tupleKind kk) o more/\(xs=[]->(more.map fun x=>(tupleKind kk).hash x.1).Nodup)/\xs.length+more.length<=sizeLine /\
      ∀ h',h'.DictOfH (tupleKind kk) d (xbg xs more)->ZN d s.heap h'->R (.ok (.ret .none)) { s with heap:=h' }) :=
  .of_wp fun A R s ⟨hu,xs,more,hd,ho,hh,hsz,h⟩=>by
    unfold Builtin.«dict.update»;refine Zc ?_;unfold Builtin.Dict.selfAndRest;refine Zc (Q5 hd.typeIs ?_);show wpAny _ _ (pure (d,[Zn o])) _ _ s;refine Zm ?_;show wpAny _ _ (Builtin.Dict.updateFrom "dict.update" d (.ref o) [] .none) _ _ s;unfold Builtin.Dict.updateFrom;refine Zc (Yg ho.typeIs ?_);rw[if_neg (by decide)];refine Zc ?_;unfold Builtin.Dict.merge;refine Zc ?_;unfold Builtin.Dict.readDirectly;refine Zc (Yt ho.typeIs isSubtype_dict_dict ?_);simp only[Bool.not_true,Jo,if_false];refine Zc (JI ho.typeIs F.slot_dict_iter.lookup (Zm ?_));simp only[beq_self_eq_true,if_true];refine Zc (Zm ?_);refine xtb hu hdo hoS hd ho hh hsz fun h' hd' hs'=>?_;show wpAny _ _ (Builtin.Dict.addKeywords d []>>=_) _ _ _;exact Zc (Zm (Zm ⟨.none,rfl,h h' hd' hs'⟩))
end
def xck (kvs more:List (List Key × V)):List (List Key × V):=more.foldl (fun acc x=>putK acc x.1 x.2) kvs
theorem KT.merge {H:Hp}:∀{more:List (List Key × V)}{ms:List (List Key × Addr × Value)},KT H more ms->∀{kvs:List (List Key × V)}{xs:List (List Key × Addr × Value)},KT H kvs xs->KT H (xck kvs more) (xbg xs ms):=by
 intro more ms r
 induction r with
 | nil=>intro kvs xs q; exact q
 | cons h _ ih =>
  intro kvs xs q;obtain⟨h1,h2,h3⟩:=h;have z:=q.put _ h2 h3;rw[h1] at z;have y:=ih z;rw[<- h1] at y;show KT H (xck (putK kvs _ _) _) (xbg (storedH xs _ _ _) _);rw[<- h1];exact y
def xf3 (X:Cx) (k:List Key):Int:=(tupleKind (xai X.prog X.w)).hash k
def rUpd (X:Cx):V->List V->Hp->VK->Prop:=fun x vs H Q=>∃(a b:Addr) (kvs more:List (List Key × V)),x=.ref a/\vs=[.ref b]/\a≠b/\H a=some (.dT kvs)/\H b=some (.dT more)/\(kvs=[]->(more.map fun x=>xf3 X x.1).Nodup)/\kvs.length+more.length<=1000/\Q .non (upd H a (.dT (xck kvs more)))
theorem xog {X:Cx} (hu:X.A.units+1<cLine):MtM X "dict.update" (rUpd X):=by
 intro pins s σ H x vs v us Q I rx rv h;obtain⟨a,b,kvs,more,rfl,rfl,ab,ha,hb,hh,hz,q⟩:=h;cases rx;obtain⟨u,rfl,ru⟩:=rv.one;cases (show u=Zn b from ru);obtain⟨za,hda,xs,rela,da⟩:=xhq I.hok ha;obtain⟨zb,hdb,ms,relb,db⟩:=xhq I.hok hb;have la:=Yj rela;have lb:=Yj relb;have hl:(xck kvs more).length<=sizeLine:=by
  have e1:=xeb ms xs;have e2:=Yj (relb.merge rela);exact ZB (by omega:_<=1000) (by decide)
 refine call_meetsIn PySem.F.slot_dict_update da.typeIs PySem.F.entry_dict_update (PySem.F.args_dict_update_2 _ _) (xi5 (kk:=xai X.prog X.w) a b ab hdb) ⟨?_,xs,ms,da,db,fun e=>?_,?_,fun h' dd' hs=>?_⟩
 .show X.A.in1.units<cLine;exact hu
 .subst e;have e0:kvs=[]:=Qt.mp la;have z:=hh e0;have em:more.map (fun x=>xf3 X x.1)=ms.map fun x=>(tupleKind (xai X.prog X.w)).hash x.1:=by
   have aux:∀{l:List (List Key × V)}{m:List (List Key × Addr × Value)},KT H l m->l.map (fun x=>xf3 X x.1)=m.map fun x=>(tupleKind (xai X.prog X.w)).hash x.1:=by
    intro l m r
    induction r with
    | nil=>rfl
    | cons h _ ih=>rw[Zr,Zr,ih,h.1]; rfl
   exact aux relb
  rw[<- em];exact z
 .exact ZB (by omega:_<=1000) (by decide)
 .obtain ⟨qo,es,ep,hq,h2,h3,h4,_,h5⟩:=dd';refine⟨.non,_,xdq (ob:=.dT (xck kvs more)) I (by rw[ha]; exact Jx) hs ⟨qo,hq⟩ ⟨hl,hda,_,(relb.merge rela).keeps fun c ys ec=>?_,qo,es,ep,hq,h2,h3,h4,h5⟩,rfl,q⟩;rw[xh (xae ec ha (fun z=>nomatch z))];exact ec
end L2
namespace L2
open PySem
def th (a b:Int):Int:=reduceHash (Builtin.Tuple.tupleHashOf [hashInt a,hashInt b])
theorem xkq (X:Cx) (a b:Int):xf3 X [.inl a,.inl b]=th a b:=by
 unfold xf3 th;show reduceHash (Builtin.Tuple.tupleHashOf ([.inl a,.inl b].map (keyH X.w)))=_;rw[Zr,Zr,List.map_nil];unfold keyH
 with_reducible rfl
def rimH (w:Nat):List Int:=((Zz 16).map fun (r:Nat)=>th 0 ((r:Int)+1))++((Zz 16).map fun (r:Nat)=>th ((w:Int)+1) ((r:Int)+1))
theorem xsp:∀ w,w<31->1<=w->(rimH w).Nodup:=by decide +kernel
end L2
namespace XL
open PySem PySem.Spec PyProof.Rows
def xsz (acc:List Str) (x:Str):List Str:=if acc.any (· == x)=true then acc else acc++[x]
end XL
namespace L2
open PySem PySem.Spec PyProof.Rows XL
def xv6 (xs:List Str):Nat:=(xs.foldl xsz []).length
end L2
namespace XS
open PySem PySem.SetTable
end XS
namespace XS
open PySem PySem.SetTable
variable {t:SetTable}{es:Array (Int × Value)}{L:List Row}
end XS
namespace XS
open PySem PySem.SetTable
end XS
namespace XS
open PySem PySem.Spec PySem.SetTable
end XS
namespace XS
open PySem PySem.Spec PyProof.Rows
end XS
namespace XS
open PySem PySem.Spec PyProof.Rows XL
end XS
namespace L2
open PySem PySem.Spec PyProof.Rows XL XS
end L2
namespace L2
open PySem PySem.Spec PyProof.Rows
end L2
namespace L2
open PySem PySem.Spec PyProof.Rows XL PySem.W
section
variable {J:It}{n:Nat}{g:TG}{σ:St}{fr:List Nat}{tc:TT}{te:TE}{l:Addr}{H1:Hp}{Q:VK}{α:Type}
theorem xpn {α:Type}{bs as:List α}{i:Nat}{x:α} (h:bs.Sublist (as.take i)) (hx:as[i]?=some x):(bs++[x]).Sublist (as.take (i+1)):=by
 rw[ZI,hx];exact h.append (List.Sublist.refl _)
theorem xpm {α:Type}{bs as:List α}{i:Nat} (h:bs.Sublist (as.take i)):bs.Sublist (as.take (i+1)):=by
 rw[ZI];exact h.trans (List.sublist_append_left _ _)
end
section
variable {X:Cx}{o:Expr}{to:TE}{tg:Expr}{elts:List Expr}{x1:_}{tpos apos cpos:Pos}
def xva (X:Cx) (t:TS):TS:=fun D σ H=>t { D with nx:=fun σ' H'=>∃ d ob u,H' d=some (.frz ob u)/\(∀ o' u',X.H₀ d≠some (.frz o' u'))/\D.nx σ' (upd H' d u) } σ H
theorem xlx {st:Stmt}{t:TS} (h:PS X st t):PS X st (xva X t):=by
 intro pins s σ H D I q;refine thn (h pins s σ H _ I q) fun fl s1 z=>?_;cases fl with
 | next =>
  obtain⟨σ',H',I',d,ob,u,e,nf,r⟩:=z;exact⟨σ',_,I'.thaw e nf,r⟩
 | _=>exact z
end
section
variable {X:Cx}{pins:List (Addr × Obj)}{σ:St}{H:Hp}{s:Shared}{a b:Addr}{A:Around}
theorem xqc {prog:Program}{w:World}{K:Type} [DecidableEq K] {knd:KeyKind prog w K}{es:List DictEntry}{vs:List (K × Value)} (h:Pairs knd es vs):∀{i:Nat}{e:DictEntry},es[i]?=some e->∃ kv,vs[i]?=some kv/\knd.is kv.1 e.key=true/\e.val=kv.2:=by
 induction h with
 | nil=>intro i e h; simp at h
 | cons h1 h2 _ ih =>
  intro i e he;cases i with
  | zero =>
   simp at he;subst he;exact⟨_,rfl,h1,h2⟩
  | succ i=>exact ih (by simpa using he)
end
theorem xdi:∀{us:List Value}{ss:List Str},StrsAre us ss->Vals (ss.map V.str) us
 | _,_,.nil=>.nil
 | _,_,.cons y t h=>.cons ⟨t,rfl⟩ (xdi h)
theorem xhd:∀{ss:List Str}{us:List Value},Vals (ss.map V.str) us->StrsAre us ss
 | [],_,.nil=>.nil
 | x::ss,_,.cons r rs=>by
  obtain⟨t,rfl⟩:=r;exact .cons x t (xhd rs)
theorem xhl {X:Cx}{pins:List (Addr × Obj)}{σ:St}{H:Hp}{s:Shared}{h1:Heap}{tk:Nat}{Q:VK}{us:List Value}{ss:List Str} (I1:Inv X pins σ H { s with heap:=h1,toks:=tk }) (hS:StrsAre us ss) (few:us.length<64)
    (q:∀(l:Addr) (ss':List Str),H l=none->ss'.Perm ss->sortedS ss'=true->Q (.ref l) (upd H l (.lst (ss'.map V.str)))) :
    wpAny (model X.prog X.w) X.A.in1 (newList us>>=fun l=>holding [l] (call (.builtin "list.sort") [l] [])>>=fun _=>ret l) (fun fin s'=>∃ v,fin=Fin.done (Flow.ret v)/\EP X pins σ Q v s') X.xe { s with heap:=h1,toks:=tk }:=by
  have sz:us.length<=sizeLine:=JG (ZV few (by decide));have ln:=(xdi hS).length;rw[Za] at ln;have I2:=I1.lnew (t':=tk) (xdi hS) (by rw[Za,ln]; exact sz);refine Zc (wpAny_newList ?_ sz);have fr:H h1.objs.size=none:=I1.fresh;have gl:(h1.push { cls:=.type "list",data:=.seq us.toArray }).get? h1.objs.size=some (seqObj "list" us.toArray 0):=Zu _ rfl;refine Zc (J4 (Js slot_list_sort ⟨_,gl,rfl⟩ entry_list_sort (list_sort_treeK strKind_oneLt gl hS.keysOf (fun v₁ v₂ r e=>keyKind_strs (by rw[<- e]; exact hS)) few fun st a1 a2=>?_) (args_list_sort _)));obtain⟨ss',b1,b2,b3⟩:=sorted_out_str hS a1 a2;refine⟨_,rfl,Zm ⟨_,rfl,?_⟩⟩;have J1:=I2.lset (l:=h1.objs.size) (its:=us) (its':=[]) (ys:=[]) (f:=fun _=>#[]) (t':=tk) xb gl rfl .nil (ZZ _);have J2:=J1.kept (t':=tk) (h':=(((h1.push { cls:=.type "list",data:=.seq us.toArray }).update h1.objs.size (Jn fun _=>#[])).push (seqObj "tuple" us.toArray 0)).push (seqObj "list" #[] 0)) fun b u e=>Zg _ (Zg _ e);obtain⟨z9,its9,n9,r9,hl9,e9⟩:=J2.lstM xb;have l':ss'.length=ss.length:=b2.length_eq;have J3:=J2.lset (l:=h1.objs.size) (its:=its9) (its':=((arrOf st).map (·.2)).toList) (ys:=ss'.map V.str) (f:=fun _=>(arrOf st).map (·.2)) (t':=tk) xb e9 (show (arrOf st).map (·.2)=_ from (Array.toArray_toList ..).symm) (xdi b1) (by rw[Za,l',ln]; exact sz);rw[xef,xef] at J3;exact⟨.ref h1.objs.size,_,J3,rfl,q _ ss' fr b2 b3⟩
theorem xlk:∀{us:List Value}{ss:List Str},us.length=ss.length->(∀(i:Nat) (v:Value) (x:Str),us[i]?=some v->ss[i]?=some x->∃ t,v=Qn x t)->StrsAre us ss
 | [],[],_,_=>.nil
 | [],_::_,h,_=>by cases h
 | _::_,[],h,_=>by cases h
 | u::us,x::ss,h,f=>by
  obtain⟨t,rfl⟩:=f 0 u x rfl rfl;exact .cons x t (xlk (by simpa using h) fun i v y h1 h2=>f (i+1) v y (by simpa using h1) (by simpa using h2))
def xqo:List V->Hp->VK->Prop:=fun xs H Q=>∃(d:Addr) (ss:List Str),xs=[.ref d]/\(H d=some (.lst (ss.map V.str))\/∃ kvs:List (Key × V),H d=some (.dK kvs)/\kvs.map (·.1)=ss.map Jf)/\ss.length<64 /\
 ∀(l:Addr) (ss':List Str),H l=none->ss'.Perm ss->sortedS ss'=true->Q (.ref l) (upd H l (.lst (ss'.map V.str)))
theorem xe9 {X:Cx} (hc:X.calm=true):xbx X (.builtin "sorted") xqo:=by
 intro pins s σ H xs us Q I r h;obtain⟨d,ss,rfl,alt,hl,q⟩:=h;obtain⟨u,rfl,ru⟩:=xbr r;obtain rfl:u=Zn d:=ru;rcases alt with e|⟨kvs,e,ek⟩
 .obtain ⟨z,its,n,r1,hL,el⟩:=I.lstM e;have ln:=r1.length;rw[Za] at ln;refine Yy kind_sorted plain_sorted entry_sorted (args_sorted1 _) ?_;unfold QI;refine Zc (Zm (show wpAny _ _ (collect (.ref d)>>=_) _ _ _ from Zc (wpAny_collect_seq d (T:="list") (.inl rfl) el rfl rfl (fun h1 keep=>?_) (by rw[Z5,<- ln]; exact JG (ZV hl (by decide))))));exact xhl (us:=its) (I.kept keep) (xhd r1) (by omega) q
 .obtain ⟨z,hsys,vs,rel,o,es,ep,ho,hx,hdat,hk,hp,hn⟩:=xg8 I.hok e;have ln:=rel.length;have le:=hp.length;have esz:es.size=vs.length:=by simpa using le
  refine Yy kind_sorted plain_sorted entry_sorted (args_sorted1 _) ?_;unfold QI;refine Zc (Zm ?_);show wpAny _ _ (collect (.ref d)>>=_) _ _ _;refine Zc (kdu_collect (xlq hsys hx hdat) (I.ok.hd hc) ho (by rw[esz,<- ln]; exact z) fun h1 tk acc keep items=>?_);have hs:StrsAre acc.toList ss:=by
   refine xlk (by rw[JB,items.1,esz,<- ln,<- Za (f:=(·.1)) (as:=kvs),ek,Za]) fun i v x hv hx=>?_;have hv':acc[i]?=some v:=by rw[<- Jv]; exact hv
   obtain⟨en,he,ev⟩:=items.2 i v hv';obtain⟨kv,h1,h2,_⟩:=xqc hp (i:=i) (e:=en) (by rw[Jv]; exact he);have hk2:(kvs.map (·.1))[i]?=some (Jf x):=by rw[ek,Zf,hx]; rfl
   rw[rel.keys,Zf,h1,Y3] at hk2;have e3:kv.1=Jf x:=JM.inj hk2;rw[e3] at h2;obtain⟨t,et⟩:=Value.isStrOf_shape (x:=x) (v:=en.key) h2;exact⟨t,by rw[ev]; exact et⟩
  exact xhl (I.kept keep) hs (by rw[(xdi hs).length.symm,Za]; exact hl) q
end L2
namespace L2
open PySem PySem.Spec PyProof.Rows XL PySem.W PySem.MeetsSeq3
end L2
namespace L2
open PySem PySem.Spec PyProof.Rows XL PySem.W
def Ites (x:Str):It :=
 ⟨fun i _=>i<x.cps.toList.length,fun i H v H'=>∃ p c,x.cps.toList[i]?=some c/\v=.ref p/\H p=none/\H'=upd H p (.tup [.int i,sgn c]),fun i _=>x.cps.toList.length<=i⟩
theorem xk3 {P:Program}{w:World}{K:Ze}{elts:List Expr}{x1}{tpos:Pos}{x:Str} (t:Tok) (e it:Addr) (hei:e≠it) :
    Turn P w K (.Tuple elts x1 tpos) (Ites x) [e,it] e (fun i h=>(∃ old,IsEnum h e it i old)/\h.IsStrIter it "str_ascii_iterator" x t i) where
  mem:=by simp
  obj:=fun i h st b hb=>by
    obtain⟨⟨old,he⟩,⟨o1,e1,c1,d1⟩⟩:=st;simp only[Zx,J0,or_false] at hb;rcases hb with rfl|rfl
    . exact⟨_,he,fun v k=>by have k':QC _=Data.cell v:=k; cases k'⟩
    . exact⟨_,e1,fun v k=>by rw[d1] at k; cases k⟩
  keep:=fun i h h' ⟨⟨old,he⟩,h1⟩ k=>⟨⟨old,k e (by simp) _ he⟩,xlu h1 fun o z=>k it (by simp) o z⟩
  item:=by
    intro X hP hw hK hc i pins s σ H E I hf st hg;subst hP hw hK;have lt:i<x.cps.toList.length:=hg;obtain⟨⟨old,he⟩,h1⟩:=id st;refine wpAny_pyNext_enum_itemD (Draws.strAscii (A:=X.A.in1) (I.ok.hd hc) it x t) he h1 (by simpa using lt) hei (by simp[hei]) fun y h' tk py ho hst' hT hsz hk=>?_;obtain⟨c,u,hv,rfl⟩:=py;have hx:x.cps.toList[i]?=some c:=by simpa using hv
    refine⟨_,rfl,wpAny_letOwnedTupleGo_enum (s:={ s with heap:=h',toks:=tk+1 }) ho fun h'' he' hs'=>?_⟩;have elt:e<s.heap.objs.size:=Zq he;have pne:s.heap.objs.size≠e:=Yq elt;have kk:∀ b o,b∉[e,it]->s.heap.get? b=some o->h''.get? b=some o:=fun b o hb g=>by
      simp only[Zx,J0,or_false,not_or] at hb;exact (hs'.2 b hb.1).trans (hk b o hb.1 (by simpa using hb.2) g)
    have I1:Inv X pins σ H { s with heap:=h'',toks:=tk+1 }:=I.turnedL kk hf;obtain⟨n0,nL,nC,nP⟩:=I.size_lt (Zj s.heap.objs.size);have hp:h''.get? s.heap.objs.size=some { cls:=.type "tuple",data:=.seq #[.int i tk,.str ⟨#[c]⟩ u] }:=(hs'.2 _ pne).trans hT;refine⟨.ref s.heap.objs.size,upd H s.heap.objs.size (.tup [.int i,sgn c]),I1.adopt n0 I.sz nL nC nP ⟨by show 2<=sizeLine; decide,[.int i tk,.str ⟨#[c]⟩ u],.cons ⟨_,rfl⟩ (.cons ⟨_,rfl⟩ .nil),_,hp,rfl,_,rfl⟩,rfl,
      ⟨_,c,hx,rfl,n0,rfl⟩,?_,fun b hb=>?_⟩
    . exact⟨⟨_,by simpa using he'⟩,xlu hst' fun o y=>(hs'.2 it (ZE hei)).trans y⟩
    . obtain⟨o,ho⟩:∃ o,s.heap.get? b=some o:=by
        obtain⟨o1,e1,_⟩:=h1;simp only[Zx,J0,or_false] at hb;rcases hb with rfl|rfl
        . exact⟨_,he⟩
        . exact⟨_,e1⟩
      rw[xh (ZK (Zq ho))];exact (hf b hb).1
  done:=by
    intro X hP hw hK hc i pins s σ H E I hf st hg;subst hP hw hK;have ge:x.cps.toList.length<=i:=hg;obtain⟨⟨old,he⟩,h1⟩:=id st;have fin:∀ h',Heap.ExtBut it s.heap h'->(none:Option Value)=none/\Inv X pins σ H { s with heap:=h' }:=fun h' hx=>⟨rfl,I.turnedL (t':=s.toks) (fun b o hb g=>by
      simp only[Zx,J0,or_false,not_or] at hb;exact hx b o hb.2 g) hf⟩
    have hT:s.TypeIs (.ref e) "enumerate":=⟨_,he,rfl⟩
    unfold pyNext;refine Zc (JZ (JH (name:=Zb "__next__") hT F.slot_enumerate_next
      (Js F.slot_enumerate_next hT F.entry_enumerate_next ?_ (F.args_enumerate_next_1 _))))
    show wpAny _ _ (field (.ref e) 2>>=_) _ _ _;refine Zc (JW he rfl (x:=.ref it) rfl ?_);refine Zc (wpAny_nextOf_ascii_end (I.ok.hd hc) h1 (by simpa using ge) fun h' x he' hx'=>?_);obtain⟨o,ho,hc⟩:=hx';refine Zc (Yt (T:="StopIteration") (b:=true) ⟨o,ho,hc⟩ isSubtype_stop ?_);exact Zm (fin _ he')
  self:=fun _ _ _ _ _ ⟨⟨_,st⟩,_⟩ h=>Qc st h
def xr9 (ta:TA):TI:=fun σ H R=>ta σ H fun vs H1=>∃ x:Str,vs=[.str x]/\x.cps.all (·<128)=true/\R (Ites x) H1
section
variable {X:Cx}{elts:List Expr}{x1:_}{tpos:Pos}
theorem xou {a:Expr}{ta:TA}{p pos:Pos} (hg:Gl X "enumerate") (hm:X.mg "enumerate"=none) (ha:PA X [a] ta) (hs:starEach [a] X.env=[(false,eval a X.env)]:=by rfl) :
    PI X (.Tuple elts x1 tpos) (.Call (.Name "enumerate" p) [a] [] pos) (xr9 ta):=by
  intro pins s σ H R I h;refine Call_ (xca I hg hm PyProof.Rows.Boot.«enumerate» (ZP (thn (ha pos pins s σ H _ I h) fun us s1 ⟨vs,H1,I1,r1,q1⟩=>?_) hs rfl));obtain⟨x,e,hx,q⟩:=q1;subst e;obtain⟨u,rfl,t,rfl⟩:=xbr r1;refine call_enumerate_str fun h' he h1 hsz hk=>?_;have h1:h'.IsStrIter s1.heap.objs.size "str_ascii_iterator" x t 0:=by simpa [strIterType,hx] using h1
  refine Qc (s:={ s1 with heap:=h' }) he ?_;have I2:Inv X pins σ H1 { s1 with heap:=h' }:=I1.kept (t':=s1.toks) hk;refine⟨_,[s1.heap.objs.size+1,s1.heap.objs.size],_,_,H1,rfl,I2,xk3 t _ _ (xnd (by omega)),⟨⟨_,he⟩,h1⟩,fun b hb=>?_,q⟩;have hb':s1.heap.objs.size<=b:=by
    simp only[Zx,J0,or_false] at hb;rcases hb with rfl|rfl
    . exact Nat.le_add_right _ 1
    . exact Zj _
  exact I1.fpOk hb' (I1.hok.fresh hb')
end
theorem xix {H:Hp}{p:Addr}{o:HO} (hp:H p=none):Same H (upd H p o):=fun b u e=>by
 rw[xh (xi e hp)];exact e
section
variable {n:Nat}{g:TG}{σ:St}{fr:List Nat}{te:TE}{l:Addr}{H1:Hp}{Q:VK}
theorem xk6 {x:Str} (hlen:x.cps.toList.length<sizeLine) (hl:H1 l=none) (F:Nat->V->Hp->Prop) (stab:∀ i y H H',Tp H H'->F i y H->F i y H')
    (step:∀(i:Nat) (c:Nat) (p:Addr) (H2:Hp),x.cps.toList[i]?=some c->Same H1 H2->H2 p=none->∀(N:V->Hp->Prop),(∀ y H',Same (upd H2 p (.tup [.int i,sgn c])) H'->F i y H'->N y H') ->
      g (.ref p) (blk0 σ fr n) (upd H2 p (.tup [.int i,sgn c])) fun σ' H3=>te σ' H3 N)
    (fin:∀ ys H2,Same H1 H2->H2 l=some (.lst ys)->ys.length=x.cps.toList.length->(∀(i:Nat) (y:V),ys[i]?=some y->F i y H2)->Q (.ref l) H2):xc2 (Ites x) n g σ fr xdd te l H1 Q:=by
  refine xbw x.cps.toList.length (fun i ys H2=>Same H1 H2/\H2 l=some (.lst ys)/\ys.length=i/\∀(j:Nat) (y:V),ys[j]?=some y->F j y H2) ?_ ?_ ?_ ?_
  . exact⟨fun b u e=>by rw[xh (xi e hl)]; exact e,xb,rfl,fun j y e=>by simp at e⟩
  . rintro i ys H2 lt _
    exact lt
  . rintro i ys H2 v H3 lt ⟨s,el,ly,f⟩ ⟨p,c,hc,rfl,hp,rfl⟩ N hN
    have e1:upd H2 p (.tup [.int i,sgn c]) l=some (.lst ys):=by
      rw[xh (xi el hp)];exact el
    have s1:Same H2 (upd H2 p (.tup [.int i,sgn c])):=xix hp;refine xgn (i:=i) (step i c p H2 hc s hp _ fun y H' s' hf=>?_);have el':=s' _ _ e1;refine⟨el',by omega,hN _ _ ⟨fun b u e=>?_,xb,by rw[Zs,ly]; rfl,fun j z e=>?_⟩⟩
    . rw[xh (xi e hl)]
      exact s' _ _ (s1 _ _ (s _ _ e))
    . by_cases k:j<ys.length
      . rw[Jg k] at e
        exact stab _ _ _ _ (((Same.tp s1).trans (Same.tp s')).trans (xhe el')) (f j z e)
      . rw[Jp (by omega)] at e
        cases hj:j-ys.length with
        | zero =>
          rw[hj] at e;simp at e;subst e;have:j=i:=by omega
          subst this;exact stab _ _ _ _ (xhe el') hf
        | succ m =>
          rw[hj] at e;simp at e
  . rintro ys H2 ⟨s,el,ly,f⟩
    exact⟨Zj _,fin ys H2 s el ly f⟩
theorem xk5 {d:Addr}{ob:Obj}{kvs:List (Key × V)}{tc:TT} (hd:H1 d=some (.frz ob (.dK kvs))) (hlen:kvs.length<sizeLine) (hl:H1 l=none) (q:Key × V->Bool)
    (step:∀(i:Nat) (k:Key) (x:V) (p:Addr) (H2:Hp),kvs[i]?=some (k,x)->Same H1 H2->H2 p=none->∀(N:V->Hp->Prop) (M:Hp->Prop),(∀ H',Same (upd H2 p (.tup [kV k,x])) H'->q (k,x)=true->N x H')->(∀ H',Same (upd H2 p (.tup [kV k,x])) H'->q (k,x)=false->M H') ->
      g (.ref p) (blk0 σ fr n) (upd H2 p (.tup [kV k,x])) fun σ' H3=>tc σ' H3 fun b H4=>if b=true then te σ' H4 N else M H4)
    (fin:∀ H2,Same H1 H2->H2 l=some (.lst ((kvs.filter q).map (·.2)))->Q (.ref l) H2):xc2 (Iti d ob kvs) n g σ fr tc te l H1 Q:=by
  refine xbw kvs.length (fun i ys H2=>Same H1 H2/\H2 l=some (.lst ys)/\ys=((kvs.take i).filter q).map (·.2)) ?_ ?_ ?_ ?_
  . exact⟨fun b u e=>by rw[xh (xi e hl)]; exact e,xb,rfl⟩
  . rintro i ys H2 lt ⟨s,_⟩
    exact⟨s _ _ hd,lt⟩
  . rintro i ys H2 v H3 lt ⟨s,el,ey⟩ ⟨p,k,x,ex,rfl,hp,rfl⟩ N hN
    have e1:upd H2 p (.tup [kV k,x]) l=some (.lst ys):=by
      rw[xh (xi el hp)];exact el
    have s1:Same H1 (upd H2 p (.tup [kV k,x])):=fun b u e=>xix hp _ _ (s _ _ e);have ly:ys.length<=i:=by
      rw[ey,Za];refine ZB (Q9 _ _) ?_;rw[Jt];omega
    refine step i k x p H2 ex s hp _ _ (fun H' s' qt=>?_) (fun H' s' qf=>?_)
    . have el':=s' _ _ e1
      refine⟨el',by omega,hN _ _ ⟨fun b u e=>?_,xb,?_⟩⟩
      . rw[xh (xi e hl)]
        exact s' _ _ (s1 _ _ e)
      . rw[ey,ZI,ex,Jy,Z9,show (some (k,x)).toList=[(k,x)] from rfl,Je qt]
        rfl
    . refine hN _ _ ⟨fun b u e=>s' _ _ (s1 _ _ e),s' _ _ e1,?_⟩
      rw[ey,ZI,ex,Jy,show (some (k,x)).toList=[(k,x)] from rfl,Jm (by rw[qf]; decide)];rw[List.filter_nil,Yh]
  . rintro ys H2 ⟨s,el,ey⟩
    rw[Jz] at ey;exact⟨⟨s _ _ hd,Zj _⟩,fin H2 s (ey▸el)⟩
end
section
variable {d:Addr}{ob:Obj}{kvs:List (Key × V)}{g:TG}{tb:TS}{D:Ends}{σ:St}{H:Hp}
theorem xnn (Pv:Nat->St->Hp->Prop) (h0:Pv 0 σ H) (hl:∀ i σ H,i<=kvs.length->Pv i σ H->H d=some (.frz ob (.dK kvs)))
    (hs:∀ i k x p σ H,kvs[i]?=some (k,x)->H p=none->Pv i σ H->g (.ref p) σ (upd H p (.tup [kV k,x])) fun σ2 H2=>tb { D with nx:=Pv (i+1),ct:=Pv (i+1),bk:=D.nx } σ2 H2) (hd:∀ σ H,Pv kvs.length σ H->D.nx σ H) :
    ∃ W:Nat->Nat->St->Hp->Prop,(∃ m,W 0 m σ H)/\∀ i m σ H,W i m σ H ->
      ((Iti d ob kvs).stop i H/\D.nx σ H)\/((Iti d ob kvs).go i H/\∃ N:St->Hp->Prop,(∀ σ' H',N σ' H'->∃ m',m'<m/\W (i+1) m' σ' H')/\∀ x H',(Iti d ob kvs).yld i H x H'->g x σ H' fun σ2 H2=>tb { D with nx:=N,ct:=N,bk:=D.nx } σ2 H2):=by
  refine⟨fun i m σ H=>m=kvs.length-i/\i<=kvs.length/\Pv i σ H,⟨kvs.length,by simp,ZZ _,h0⟩,?_⟩;rintro i m σ H ⟨rfl,hi,p⟩;have q:=hl i σ H hi p;by_cases hlt:i<kvs.length
  . refine .inr ⟨⟨q,hlt⟩,Pv (i+1),fun σ' H' p'=>⟨kvs.length-(i+1),by omega,rfl,hlt,p'⟩,fun x H' y=>?_⟩
    obtain⟨pa,k,x',e1,rfl,hn,rfl⟩:=y;exact hs i k x' pa σ H e1 hn p
  . have e:i=kvs.length:=by omega
    subst e;exact .inl ⟨⟨q,Zj _⟩,hd σ H p⟩
end
end L2
namespace L2
open PySem PySem.Spec PyProof.Rows XL
theorem xj6:Manifest.owners.lookup (String.ofList ['d','e','s','r','e','v','e','r'].reverse)=some Manifest.sig_reversed:=by kernel_rfl
theorem xfc:Slot "reversed" "__next__" "reversed.__next__" :=
 .of (owner:="reversed") (n:="__next__") (by rw[JC,Jb]; kernel_rfl) (by decide +kernel) (by decide +kernel) (by decide +kernel) (by first|exact .inl (by decide +kernel)|exact .inr (by decide +kernel)) (by rw[YA]; kernel_rfl)
theorem xn7:entryFor table "reversed.__next__"=some Builtin.«reversed.__next__»:=entryFor_of_tree (by kernel_rfl)
theorem xnu (a:Value):argsOk "reversed.__next__" ⟨[a],[]⟩:=by
 unfold argsOk; rw[signature?_of (id:="reversed.__next__") (n:=['_','_','t','x','e','n','_','_']) (o:=['d','e','s','r','e','v','e','r']) (by kernel_rfl) xj6]; kernel_rfl
theorem xm5:Slot "reversed" "__iter__" "reversed.__iter__" :=
 .of (owner:="reversed") (n:="__iter__") (by rw[JC,Jb]; kernel_rfl) (by decide +kernel) (by decide +kernel) (by decide +kernel) (by first|exact .inl (by decide +kernel)|exact .inr (by decide +kernel)) (by rw[YA]; kernel_rfl)
theorem xt9 (a:Value):argsOk "reversed.__iter__" ⟨[a],[]⟩:=by
 unfold argsOk; rw[signature?_of (id:="reversed.__iter__") (n:=['_','_','r','e','t','i','_','_']) (o:=['d','e','s','r','e','v','e','r']) (by kernel_rfl) xj6]; kernel_rfl
theorem xud:entryFor table "reversed.__iter__"=some Builtin.«dict_keyiterator.__iter__» :=
 entryFor_alias (id':="dict_keyiterator.__iter__") (by kernel_rfl) (by first|rfl|decide +kernel|(unfold String.splitOn; simp +decide [String.splitOnAux])) (by decide +kernel) (by kernel_rfl)
theorem xns:typeLookup (.type "reversed") "__len__"=pure none:=by rw[JC,Jb]; kernel_rfl
theorem xrn:typeLookup (.type "reversed") "__length_hint__"=pure (some (.builtin "reversed.__length_hint__")):=by rw[JC,Jb]; kernel_rfl
theorem xmq:typeLookup (.type "str") "__reversed__"=pure none:=by rw[JC,Jb]; kernel_rfl
def xjf (x:Str) (t:Tok) (i:Int):Obj:={ cls:=.type "reversed",data:=.fields #[.str x t,rawInt i] }
def IsRv (h:Heap) (a:Addr) (x:Str) (t:Tok) (i:Int):Prop:=∃ o,h.get? a=some o/\o.cls=.type "reversed"/\o.data=.fields #[.str x t,rawInt i]
section
variable {prog:Program}{w:World}{A:Around}{E:Value->Shared->Prop}{s:Shared}
theorem IsRv.ty {a:Addr}{x:Str}{t:Tok}{i:Int} (h:IsRv s.heap a x t i):s.TypeIs (.ref a) "reversed":=let ⟨o,ho,hc,_⟩:=h; ⟨o,ho,hc⟩
theorem IsRv.at {h h':Heap}{a:Addr}{x:Str}{t:Tok}{i:Int} (z:IsRv h a x t i) (e:∀ o,h.get? a=some o->h'.get? a=some o):IsRv h' a x t i:=let ⟨o,ho,r⟩:=z; ⟨o,e _ ho,r⟩
theorem xpy {x:Str}{t:Tok} (hz:x.length<2 ^ 62):Meets (Builtin.«reversed.__new__» ⟨[.type "reversed",.str x t],[]⟩) (fun _ R s=>R (.ok (.ret (.ref s.heap.objs.size))) { s with heap:=s.heap.push (xjf x t ((x.length:Int)-1)),toks:=s.toks+1+1 }):=fun prog w A R s h=>by
 unfold Builtin.«reversed.__new__»;refine Zc (Yo (newClass_reversed _) ?_)
 try dsimp only
 refine Zc (Yo (a:=()) (by first|rfl|kernel_rfl) ?_);refine Zc (Yo (a:=()) (by first|rfl|kernel_rfl) ?_)
 try dsimp only
 refine Zc (JI (YX s x t) xmq ?_)
 try dsimp only
 refine Zc (Yo (a:=true) (by kernel_rfl) ?_);rw[if_neg (by decide)];refine Zc (len_str (by omega) ?_);refine Zc (m:=asInt? _) (Zm ?_)
 dsimp only
 refine Zc ?_;unfold Builtin.SmallTypes.newRecord;refine J6 ?_ (by size_fits);exact Zm h
theorem xo5:Slot "reversed" "__init__" "object.__init__" :=
 .of (owner:="object") (n:="__init__") (by rw[JC,Jb]; kernel_rfl) (by decide +kernel) (by decide +kernel) (by decide +kernel) (by first|exact .inl (by decide +kernel)|exact .inr (by decide +kernel)) (by rw[YA]; kernel_rfl)
theorem xn9:TypeCalled "reversed" "reversed.__new__" "object.__init__" :=
 ⟨by decide +kernel,by decide +kernel,⟨_,_,F.mro_reversed⟩,F.made_reversed,by decide +kernel,by rw[YA]; kernel_rfl,xo5⟩
theorem xrk {x:Str}{t:Tok}{Q:Value->Shared->Prop} (hz:x.length<2 ^ 62)
    (h:Q (.ref s.heap.objs.size) { s with heap:=s.heap.push (xjf x t ((x.length:Int)-1)),toks:=s.toks+1+1 }):wpAny (model prog w) A (call (.type "reversed") [.str x t]) Q E s :=
  callType_new xn9 (by decide) (F.typeCall_reversed_1 _) (F.newCall_reversed_1 _) (fun obj=>F.args_object_init_2 obj _) F.entry_reversed_new (xpy hz) ⟨⟨_,Zu _ rfl,rfl⟩,h⟩
theorem xrd {I:Addr}{x:Str}{t:Tok}{i c:Nat}{Q:Option Value->Shared->Prop} (hit:IsRv s.heap I x t (i:Int)) (hc:x.cps[i]?=some c) (hz:x.length<2 ^ 62)
    (hQ:∀ h' tk u,IsRv h' I x t ((i:Int)-1)->ZN I s.heap h'->Q (some (.str ⟨#[c]⟩ u)) { s with heap:=h',toks:=tk }):wpAny (model prog w) A (pyNext (.ref I)) Q E s:=by
  obtain⟨o,ho,hcl,hd⟩:=id hit;unfold pyNext;refine Zc (JZ (JH (name:=Zb "__next__") hit.ty xfc (Js xfc hit.ty xn7 ?_ (xnu _))));unfold Builtin.«reversed.__next__»;refine Zc (Yo (a:=(Zn I,[])) rfl ?_)
  try dsimp only
  refine Zc (JW ho hd (x:=.str x t) rfl ?_);refine Zc (JW ho hd (x:=rawInt (i:Int)) rfl ?_);show wpAny _ _ (if (i:Int)<0 then _ else _) _ _ s;rw[if_neg (by omega)];refine Zc (JI (YX s x t) slot_str_getitem.lookup ?_);show wpAny _ _ (if false=true then _ else _) _ _ s;rw[if_neg (by decide)];have hil:i<x.length:=by
    have:=(Array.getElem?_eq_some_iff.mp hc).1;simpa [Y5] using this
  refine Zc (wpAny_mkInt ?_);refine Zc (JZ (getItem_str (c:=c) ?_ ?_ ?_))
  . have e1:decide ((i:Int) < -(2 ^ 63:Int))=false:=decide_eq_false (by omega)
    have e2:decide ((i:Int)>=2 ^ 63)=false:=decide_eq_false (by omega);rw[e1,e2,Qj]
  . rw[seqIndex_of (by omega) (by omega)]
    simpa using hc
  dsimp only
  refine Zc (JW ho hd (x:=rawInt (i:Int)) rfl ?_);show wpAny _ _ (setField (Zn I) 1 (rawInt ((i:Int)-1))>>=_) _ _ _;refine Zc (wpAny_setField ho hd (by simp) ?_);refine Zm ⟨_,rfl,Zm (hQ _ _ _ ?_ (ZN.update ..))⟩;exact⟨_,ZU _ ho (Obj.isFreed_of_fields (Qa hd _)),(Obj.cls_mapFields ..).trans hcl,by
    rw[Qa hd]; simp⟩
theorem xtn {I:Addr}{x:Str}{t:Tok}{Q:Option Value->Shared->Prop} (hh:A.handled=none) (hit:IsRv s.heap I x t (-1))
    (hQ:∀ h',Heap.ExtBut I s.heap h'->Q none { s with heap:=h' }):wpAny (model prog w) A (pyNext (.ref I)) Q E s:=by
  obtain⟨o,ho,hcl,hd⟩:=id hit;unfold pyNext;refine Zc (JZ (JH (name:=Zb "__next__") hit.ty xfc (Js xfc hit.ty xn7 ?_ (xnu _))));unfold Builtin.«reversed.__next__»;refine Zc (Yo (a:=(Zn I,[])) rfl ?_)
  try dsimp only
  refine Zc (JW ho hd (x:=.str x t) rfl ?_);refine Zc (JW ho hd (x:=rawInt (-1)) rfl ?_);show wpAny _ _ (if (-1:Int)<0 then _ else _) _ _ s;rw[if_pos (by decide)];refine Zc (Qv ?_);show wpAny _ _ ((setField (Zn I) 1 (rawInt (-1))>>=fun _=>setField (Zn I) 0 .none)>>=_) _ _ _;refine Zc (Zc (wpAny_setField ho hd (by simp) ?_));have ho1:=ZU (Obj.mapFields (fun a=>a.set! 1 (rawInt (-1)))) ho (Obj.isFreed_of_fields (Qa hd _));have hd1:(Obj.mapFields (fun a=>a.set! 1 (rawInt (-1))) o).data=.fields #[.str x t,rawInt (-1)]:=by rw[Qa hd]; simp
  refine wpAny_setField (s:={ s with heap:=s.heap.update I (Obj.mapFields (fun a=>a.set! 1 (rawInt (-1)))) }) ho1 hd1 (by simp) ?_;refine Zc ?_;unfold Builtin.SmallTypes.stopIteration;refine Zc ?_;simp only[newExc,newTuple];refine Zc (J6 ?_ (by size_fits));refine Zc (m:=firstArgMember _ _) (Yo (a:=Jd) (by first|rfl|(simp only[firstArgMember]; rfl)) ?_);refine J6 ?_ (by size_fits);simp only[raiseNew];refine Zc (wpAny_handled ?_)
  first|rw[show A.in1.handled=none from hh]|rw[hh]
  refine Zc (Zm (wpAny_throw ?_));refine Zc (Yt (T:="StopIteration") (b:=true) ⟨_,Zu _ rfl,rfl⟩ isSubtype_stop ?_);exact Zm (hQ _ fun b o' hb e=>Zg _ (Zg _ ((J8 _ _ fun z=>hb z.symm).trans ((J8 _ _ fun z=>hb z.symm).trans e))))
theorem xh7 {I:Addr}{x:Str}{t:Tok}{i:Int}{Q:Value->Shared->Prop} (hit:IsRv s.heap I x t i) (h:Q (.ref I) s):wpAny (model prog w) A (pyIter (.ref I)) Q E s:=by
 refine wpAny_pyIter_slot hit.ty xm5 (Js xm5 hit.ty xud ?_ (xt9 _));show wpAny _ _ (ret (.ref I)) _ _ s;exact Zm ⟨_,rfl, "reversed",_,hit.ty,xfc.lookup,h⟩
end
theorem xps {prog:Program}{w:World}{A:Around} (hh:A.handled=none) (I:Addr) (x:Str) (t:Tok) (hz:x.length<2 ^ 62) :
    Walks prog w A I [I] [I] x.length (fun i v=>∃ c u,x.cps[x.length-1-i]?=some c/\v=.str ⟨#[c]⟩ u) (fun i h=>i<=x.length/\IsRv h I x t ((x.length:Int)-1-(i:Int))) where
  sub:=fun b hb=>hb
  frame:=fun _ _ _ z hk=>⟨z.1,z.2.at fun o e=>hk I (by simp) o e⟩
  item:=fun i s Q E hi z hQ=>by
    have e:(x.length:Int)-1-(i:Int)=((x.length-1-i:Nat):Int):=by omega
    have hit:=z.2;rw[e] at hit;have hl:x.length-1-i<x.cps.size:=by show x.length-1-i<x.length; omega
    have hx:x.cps[x.length-1-i]?=some (x.cps[x.length-1-i]'hl):=JR hl;refine xrd hit hx hz fun h' tk u hit' hs'=>?_;have e2:((x.length-1-i:Nat):Int)-1=(x.length:Int)-1-((i+1:Nat):Int):=by omega
    rw[e2] at hit';exact hQ _ h' tk ⟨_,u,hx,rfl⟩ ⟨hi,hit'⟩ fun b o hb eo=>hs'.extBut b o (fun h=>hb (by simp[h])) eo
  done:=fun s Q E z hQ=>by
    have e:(x.length:Int)-1-(x.length:Int)=-1:=by omega
    have hit:=z.2;rw[e] at hit;exact xtn hh hit fun h' he'=>hQ h' s.toks fun b o hb eo=>he' b o (fun h=>hb (by simp[h])) eo
  self:=fun _ _ _ _ z hQ=>xh7 z.2 hQ
section
variable {prog:Program}{w:World}{A:Around}{E:Value->Shared->Prop}{s:Shared}
theorem xm8:Slot "reversed" "__length_hint__" "reversed.__length_hint__" :=
 .of (owner:="reversed") (n:="__length_hint__") (by rw[JC,Jb]; kernel_rfl) (by decide +kernel) (by decide +kernel) (by decide +kernel) (by first|exact .inl (by decide +kernel)|exact .inr (by decide +kernel)) (by rw[YA]; kernel_rfl)
theorem xtq:entryFor table "reversed.__length_hint__"=some Builtin.«reversed.__length_hint__»:=entryFor_of_tree (by kernel_rfl)
theorem xt6 (a:Value):argsOk "reversed.__length_hint__" ⟨[a],[]⟩:=by
 unfold argsOk; rw[signature?_of (id:="reversed.__length_hint__") (n:=['_','_','t','n','i','h','_','h','t','g','n','e','l','_','_']) (o:=['d','e','s','r','e','v','e','r']) (by kernel_rfl) xj6]; kernel_rfl
theorem xpx {I:Addr}{x:Str}{t:Tok}{Q:Value->Shared->Prop} (hit:IsRv s.heap I x t ((x.length:Int)-1)) (hz:x.length<=1000) (h:∀ u tk,Q (.int (x.length:Int) u) { s with toks:=tk }) :
    wpAny (model prog w) A (call (.builtin "reversed.__length_hint__") [.ref I]) Q E s:=by
  obtain⟨o,ho,hcl,hd⟩:=id hit;refine Js xm8 hit.ty xtq ?_ (xt6 _);unfold Builtin.«reversed.__length_hint__»;refine Zc (Yo (a:=Zn I) rfl ?_);refine Zc (JW ho hd (x:=.str x t) rfl ?_);rw[if_neg (by simp)];refine Zc (len_str (by omega) ?_);refine Zc (m:=asInt? _) (Zm ?_)
  dsimp only
  refine Zc (JW ho hd (x:=rawInt ((x.length:Int)-1)) rfl ?_);show wpAny _ _ (if (x.length:Int)<(x.length:Int)-1+1 then _ else _) _ _ _;rw[if_neg (by omega)];unfold retInt;refine Zc (wpAny_mkInt (Zm ⟨_,rfl,?_⟩));rw[Int.sub_add_cancel];exact h _ _
theorem xof (i:Int) (u:Tok):asInt? (.int i u)=pure (some i):=rfl
theorem xrz {I:Addr}{x:Str}{t:Tok}{Q:Bool->Shared->Prop} (hit:IsRv s.heap I x t ((x.length:Int)-1)) (h0:0<x.length) (hz:x.length<=1000) (h:∀ tk,Q true { s with toks:=tk }) :
    wpAny (model prog w) A (Builtin.List.listLengthHint (.ref I)) Q E s:=by
  unfold Builtin.List.listLengthHint;refine Zc (JI hit.ty xns ?_);show wpAny _ _ (specialOf (Zn I) (Zb "__length_hint__")>>=_) _ _ _;refine Zc (JI hit.ty xrn ?_);generalize hid:("reversed.__length_hint__":String)=id0
  wp_delta
  rw[show splitId id0=some ("reversed", "__length_hint__") from by subst hid; decide +kernel];subst hid;refine Zc (Yt (T:="reversed") (b:=true) hit.ty F.sub_reversed_self ?_);refine YS (fun hab=>absurd hab (by decide)) (fun _=>?_);refine YS (fun hab=>absurd hab (by decide +kernel)) (fun _=>?_);refine Zc (Qv ?_);refine Zc (Yo (xm8.bind _) ?_)
  dsimp only
  refine Zc (JZ (xpx hit hz fun u tk=>?_))
  dsimp only
  have n0:0<(x.length:Int):=by omega
  have n1:(x.length:Int)<=1000:=by omega
  revert n0 n1;generalize ((x.length:Nat):Int)=n;intro n0 n1;have fi:Builtin.List.listFitsIndex n=true:=by
    unfold Builtin.List.listFitsIndex;rw[decide_eq_true (by omega:-(2 ^ 63:Int)<=n),decide_eq_true (by omega:n<2 ^ 63)];rfl
  have tl:Builtin.List.listTooLong n.toNat=false:=by
    unfold Builtin.List.listTooLong;exact decide_eq_false (QU.mpr (ZB (by omega:n.toNat<=1000) (by decide)))
  have ne:(n != 0)=true:=by simp; omega
  have lt:¬ n<0:=by omega
  rw[xof,pure_bind]
  dsimp only
  rw[fi,if_neg (by decide),if_neg lt,tl,if_neg (by decide),ne];exact Zm (h tk)
def xhb (x:Str) (i:Nat) (v:Value):Prop:=∃ c u,x.cps[x.length-1-i]?=some c/\v=.str ⟨#[c]⟩ u
theorem xnc {R:Result->Shared->Prop} (hh:A.handled=none) {I:Addr}{x:Str}{t:Tok}{S:Addr} (hSI:S≠I) {res:Value}{c₀:Nat} (hit:IsRv s.heap I x t ((x.length:Int)-1)) (h0:0<x.length) (hz:x.length<=1000)
    (hS:s.heap.get? S=some { cls:=.type "list",data:=.seq #[] c₀ })
    (hR:∀ h' tk acc' c',(∀ b o,b≠S->b≠I->s.heap.get? b=some o->h'.get? b=some o)->h'.get? S=some { cls:=.type "list",dict:=none,data:=.seq acc' c',slots:=#[] }->ItemsOf (xhb x) acc' x.length->R (.ok (.ret res)) { s with heap:=h',toks:=tk }) :
    wpAny (model prog w) A.in1 (Builtin.List.listExtendWith (.ref S) (.ref I) res)
      (fun fin s'=>match fin with|.done f=>R (.ok f) s'|.again c'=>c'.quiet=true/\codeAny (model prog w) A c' R s') (fun e s'=>R (.error e) s') s:=by
  have W:=(xps (prog:=prog) (w:=w) (A:=A.in1) hh I x t (by omega)).toS;unfold Builtin.List.listExtendWith;refine Zc (Yg hit.ty ?_);rw[if_neg (by rw[show Builtin.List.listSameRef (.ref S) (.ref I)=false by simp[Builtin.List.listSameRef,hSI]]; decide)];refine Zc (xh7 hit ?_);refine Zc (J4 (xrz hit h0 hz fun tk=>?_));rw[Bool.true_or,if_pos rfl];refine Zc (Qv ?_);refine Zc ?_;show wpAny _ _ (updateSeq S (·.push .none)>>=fun _=>updateSeq S (·.pop)) _ _ _;refine Zc (wpAny_updateSeq hS rfl ?_);have hS2:=ZU (Jn (·.push Jd)) hS rfl;refine wpAny_updateSeq hS2 rfl ?_;have hS3:=ZU (Jn (·.pop)) hS2 rfl;have oth:∀ b o,b≠S->s.heap.get? b=some o->((s.heap.update S (Jn (·.push Jd))).update S (Jn (·.pop))).get? b=some o:=fun b o hb e=>(J8 _ _ (ZE hb)).trans ((J8 _ _ (ZE hb)).trans e);have hit0:IsRv ((s.heap.update S (Jn (·.push Jd))).update S (Jn (·.pop))) I x t ((x.length:Int)-1-((0:Nat):Int)):=by simpa using hit.at fun o e=>oth I o (ZE hSI) e
  refine Zm ⟨Qg F.plain_extend_loop _,codeAny_extend_loopS W (ZB hz (by decide)) S (by simp[hSI]) res x.length 0 _ _ _ rfl (ZZ _) ⟨ZZ _,hit0⟩ hS3 (ItemsOf.nil _) fun s' acc' c' hm hS' hacc=>?_⟩;rw[Moved.eq_with hm];exact hR s'.heap s'.toks acc' c' (fun b o hb hb2 e=>hm.heap b o (fun z=>(Zx.mp z).elim hb fun z=>hb2 (Zw.mp z)) (oth b o hb e)) hS' hacc
theorem xmt {Q:List Value->Shared->Prop} (hh:A.handled=none) {I:Addr}{x:Str}{t:Tok} (hit:IsRv s.heap I x t ((x.length:Int)-1)) (h0:0<x.length) (hz:x.length<=1000)
    (hQ:∀ h' tk acc,(∀ b o,b≠I->s.heap.get? b=some o->h'.get? b=some o)->ItemsOf (xhb x) acc x.length->Q acc.toList { s with heap:=h',toks:=tk }):wpAny (model prog w) A (collect (.ref I)) Q E s:=by
  have il:I<s.heap.objs.size:=by obtain⟨o,e,_⟩:=hit; exact Zq e
  have key:∀ R:Result->Shared->Prop,(∀ h' tk acc' c',(∀ b o,b≠I->s.heap.get? b=some o->h'.get? b=some o)->h'.get? s.heap.objs.size=some { cls:=.type "list",dict:=none,data:=.seq acc' c',slots:=#[] }->ItemsOf (xhb x) acc' x.length->R (.ok (.ret (.ref s.heap.objs.size))) { s with heap:=h',toks:=tk }) ->
      codeAny (model prog w) A (.builtin "proto.collect" ⟨[.ref I],[]⟩) R s:=fun R hR=>by
    refine Q4 F.entry_proto_collect ?_;rw[YQ F.plain_proto_collect _];refine Zc (m:=newList []) (J6 (Zm ⟨Qg F.plain_list_iadd _,Q4 F.entry_list_iadd ?_⟩));rw[YQ F.plain_list_iadd _];exact xnc (A:=A) (R:=R) (s:={ s with heap:=s.heap.push { cls:=.type "list",data:=.seq #[] } }) hh (Yq il) (hit.at fun o e=>Zg _ e) h0 hz (Zu _ rfl) fun h' tk acc' c' hk hS' hacc =>
      hR h' tk acc' c' (fun b o hb e=>hk b o (ZK (Zq e)) hb (Zg _ e)) hS' hacc
  unfold collect;exact Zc (wpAny_runValue (key _ fun h' tk acc' c' hk hS' hacc=>Zc (m:=load s.heap.objs.size) (wpAny_load hS' (Zm (hQ h' tk acc' hk hacc)))))
end
end L2
namespace L2
open PySem PySem.Spec PyProof.Rows XL PySem.W PySem.Builtin PySem.Builtin.Str
def xda (x:Str):List Str:=x.cps.toList.reverse.map fun c=>⟨#[c]⟩
theorem xiu (x:Str):(xda x).length=x.length:=by
 unfold xda;rw[Za,JA];simp[Y5]
theorem xis:∀{vs:List Value}{ws:List Str},vs.length=ws.length->(∀(j:Nat) v w,vs[j]?=some v->ws[j]?=some w->∃ u,v=.str w u)->∃ l:List (Str × Tok),vs=strValues l/\l.map (·.1)=ws
 | [],[],_,_=>⟨[],rfl,rfl⟩
 | [],_::_,h,_=>nomatch h
 | _::_,[],h,_=>nomatch h
 | v::vs,w::ws,h,g=>by
  obtain⟨u,rfl⟩:=g 0 v w rfl rfl;obtain⟨l,e1,e2⟩:=xis (vs:=vs) (ws:=ws) (Nat.succ.inj h) fun j v w a b=>g (j+1) v w (by simpa using a) (by simpa using b)
  exact⟨(w,u)::l,by rw[e1]; rfl,by rw[<- e2]; rfl⟩
theorem xr7 {x:Str}{acc:Array Value} (h:ItemsOf (xhb x) acc x.length):∃ l:List (Str × Tok),acc.toList=strValues l/\l.map (·.1)=xda x:=by
 refine xis (by rw[xiu]; simpa using h.1) fun j v w hv hw=>?_;obtain⟨c,u,hc,rfl⟩:=h.2 j v (by simpa using hv);unfold xda at hw;rw[Zf] at hw;obtain⟨c',hc',rfl⟩:=Zi.mp hw;have lt:j<x.cps.toList.length:=by
  have:=(Zk.mp hc').1
  rwa [JA] at this
 rw[QA lt] at hc';have e:x.cps.toList.length=x.length:=by simp[Y5]
 rw[e] at hc';have:some c=some c':=by rw[<- hc,<- hc']; simp
 cases this;exact⟨u,rfl⟩
theorem xi3 (sep:Str) (ts:Tok) (I:Addr) (x:Str) (t:Tok) (h2:2<=x.length) (hz:x.length<=1000) (hs:sep.length<=10):Meets («str.join» ⟨[.str sep ts,.ref I],[]⟩)
    (fun A R s=>A.handled=none/\IsRv s.heap I x t ((x.length:Int)-1)/\∀ h' tk u,(∀ b o,b≠I->s.heap.get? b=some o->h'.get? b=some o)->R (.ok (.ret (.str (Y0 sep (xda x)) u))) { s with heap:=h',toks:=tk }):=by
  rintro prog w A R s ⟨hh,hit,hR⟩;rw[join_tree_other];refine Zc (Yg hit.ty ?_);rw[if_neg (by decide)];refine Zc (wpAny_tryCatch (xh7 hit ?_));refine Zc (xmt (A:=A.in1) hh hit (by omega) hz fun h' tk acc hk hacc=>?_);obtain⟨l,e1,e2⟩:=xr7 hacc;rw[e1];have one:∀ w∈xda x,w.length<=1:=fun w hw=>by
    obtain⟨c,_,rfl⟩:=Zd.mp hw;exact Zj 1
  have bl:=xiu x;have fl:=xgp sep.length 1 (l.map (·.1)) 0 (by rw[e2]; exact one);have ll:l.length=x.length:=by rw[<- bl,<- e2,Za]
  rw[Za,ll] at fl;have bd:x.length*(1+sep.length)<=1000*11:=QG hz (by omega);have sz:11000<=sizeLine:=by decide
  have hl2:tooLong ((l.map (·.1)).toArray.foldl (·+·.length+sep.length) 0)=false:=by
    unfold tooLong;rw[List.foldl_toArray];exact decide_eq_false (by omega)
  have jz:=xfk (sep:=sep) (k:=1) (ws:=xda x) one;rw[bl] at jz;have g:=gives_joinTail sep l hl2;cases l with
  | nil=>exact absurd ll (by simp; omega)
  | cons p r =>
    cases r with
    | nil=>exact absurd ll (by simp; omega)
    | cons q r =>
      refine g prog w A R _ ?_;show _/\_;rw[YI,e2];exact⟨by omega,hR h' _ _ hk⟩
def xqd (to:TE) (ta:TA):TE:=fun σ H Q=>to σ H fun x H1=>∃ sep,x=.str sep/\sep.length<=10/\ta σ H1 fun vs H2=>∃ z,vs=[.str z]/\2<=z.length/\z.length<=1000/\Q (.str (Y0 sep (xda z))) H2
section
variable {X:Cx}
theorem xmb {o a:Expr}{to:TE}{ta:TA}{p2 apos cpos pos2:Pos} (hc:X.calm=true) (hg2:Gl X "reversed") (hm2:X.mg "reversed"=none) (ho:PE X o to) (ha:PA X [a] ta)
    (hbase:attributeBase o "join" X.env (eval o X.env)=eval o X.env:=by rfl)
    (hfew:((backTo cpos (starEach [.Call (.Name "reversed" p2) [a] [] pos2] X.env)).all (fun x=>!x.1)&&(backToKw cpos (keywordEach [] X.env)).all (fun x=>x.1.isSome)
      && decide (([.Call (.Name "reversed" p2) [a] [] pos2]:List Expr).length+([]:List Keyword).length+(if ([]:List Keyword).isEmpty then 0 else 1)<30))=true:=by rfl)
    (hline:(apos.endLine == cpos.line)=true:=by rfl) (hs:starEach [a] X.env=[(false,eval a X.env)]:=by rfl) (hs3:starEach [.Call (.Name "reversed" p2) [a] [] pos2] X.env=[(false,eval (.Call (.Name "reversed" p2) [a] [] pos2) X.env)]:=by rfl) :
    PE X (.Call (.Attribute o "join" apos) [.Call (.Name "reversed" p2) [a] [] pos2] [] cpos) (xqd to ta):=by
  intro pins s σ H Q I h;refine wpAny_Call_method_late hbase hfew hline rfl (thn (ho pins s σ H _ I h) fun v s1 ⟨x,H1,I1,r1,q1⟩=>?_);obtain⟨sep,rfl,sl,q1⟩:=q1;obtain⟨ts,rfl⟩:=r1;refine⟨"str", "str.join",PySem.F.plainAttrs_str,F.slot_str_join,PySem.F.type_str_join,YX _ _ _,?_,?_⟩
  . intro a e
    cases e
  rw[hs3];refine YE (by rfl) (QM ?_);refine Y8 ?_;refine Call_ (xca I1 hg2 hm2 PyProof.Rows.Boot.«reversed» (ZP (thn (ha pos2 pins s1 σ H1 _ I1 q1) fun us s2 ⟨vs,H2,I2,r2,q2⟩=>?_) hs rfl));obtain⟨z,rfl,z2,z3,q⟩:=q2;obtain⟨u,rfl,tz,rfl⟩:=xbr r2;refine xrk (by omega) ?_;refine Qe ?_;have I3:Inv X pins σ H2 { s2 with heap:=s2.heap.push (xjf z tz ((z.length:Int)-1)),toks:=s2.toks+1+1 }:=I2.kept (t':=s2.toks+1+1) fun b o e=>Zg _ e;have hit:IsRv (s2.heap.push (xjf z tz ((z.length:Int)-1))) s2.heap.objs.size z tz ((z.length:Int)-1):=⟨_,Zu _ rfl,rfl,rfl⟩
  have f2:=I2.fpOk (Zj s2.heap.objs.size) (I2.hok.fresh (Zj _));refine Qw F.slot_str_join (YX _ sep ts) F.entry_str_join (F.args_str_join_2 _ _) (xi3 sep ts s2.heap.objs.size z tz z2 z3 sl) ⟨I.ok.hd hc,hit,fun h' tk u hk=>?_⟩;have I4:=I3.turned (t':=tk) (it:=s2.heap.objs.size) (fun b o hb e=>hk b o hb e) (I2.hok.fresh (Zj _)) f2.2.1 f2.2.2.2.1 f2.2.2.2.2.1 f2.2.2.2.2.2;exact⟨.str _,H2,I4,⟨_,rfl⟩,q⟩
end
end L2
namespace Geo
def dn (y r:Int):Int:=if y<r then 1 else -1
def upN (y r:Int):Nat:=if y<r then (r-y).toNat else (y-r).toNat
def wayI (b:Bool):Int:=if b then -1 else 1
def lvN (w x:Int) (b:Bool):Nat:=if b then (x+1).toNat else (w+2-x).toNat
def upL (x y r:Int):List (Int × Int):=(Zz (upN y r)).map fun (i:Nat)=>(x,y+(i:Int)*dn y r)
def lvL (w x:Int) (b:Bool) (r:Int):List (Int × Int):=(Zz (lvN w x b)).map fun (i:Nat)=>(x+(i:Int)*wayI b,r)
def cells (w x y:Int) (b:Bool) (r:Int):List (Int × Int):=upL x y r++lvL w x b r
theorem mem_up {x y r u v:Int}:(u,v)∈upL x y r↔u=x/\((y<=v/\v<r)\/(r<v/\v<=y)):=by
 unfold upL upN dn;rw[Zd];constructor
 .rintro ⟨i,hi,e⟩;rw[ZL] at hi;injection e with e1 e2
  subst e1;refine⟨rfl,?_⟩;split at hi
  .rename_i h
   rw[if_pos h] at e2;left; omega
  .rename_i h
   rw[if_neg h] at e2;right; omega
 .rintro ⟨rfl,h|h⟩
  .refine ⟨(v-y).toNat,?_,?_⟩
   .rw [ZL,if_pos (by omega)]; omega
   .rw [if_pos (by omega)];have:((v-y).toNat:Int)=v-y:=by omega
    rw[this]; congr 1; omega
  .refine ⟨(y-v).toNat,?_,?_⟩
   .rw [ZL,if_neg (by omega)]; omega
   .rw [if_neg (by omega)];have:((y-v).toNat:Int)=y-v:=by omega
    rw[this]; congr 1; omega
theorem xuq {w x r u v:Int}{b:Bool} (h1:1<=x) (h2:x<=w):(u,v)∈lvL w x b r↔v=r/\(if b then 0<=u/\u<=x else x<=u/\u<=w+1):=by
 unfold lvL lvN wayI;rw[Zd];cases b with
 | true =>
  simp only[if_true];constructor
  .rintro ⟨i,hi,e⟩;rw[ZL] at hi;injection e with e1 e2
   exact⟨e2.symm,by omega,by omega⟩
  .rintro ⟨rfl,h⟩;refine⟨(x-u).toNat,by rw[ZL]; omega,?_⟩;have:((x-u).toNat:Int)=x-u:=by omega
   rw[this]; congr 1; omega
 | false =>
  simp only[Jo,if_false];constructor
  .rintro ⟨i,hi,e⟩;rw[ZL] at hi;injection e with e1 e2
   exact⟨e2.symm,by omega,by omega⟩
  .rintro ⟨rfl,h⟩;refine⟨(u-x).toNat,by rw[ZL]; omega,?_⟩;have:((u-x).toNat:Int)=u-x:=by omega
   rw[this]; congr 1; omega
theorem mem_cells {w x y r u v:Int}{b:Bool} (h1:1<=x) (h2:x<=w):(u,v)∈cells w x y b r↔(u=x/\((y<=v/\v<r)\/(r<v/\v<=y)))\/(v=r/\(if b then 0<=u/\u<=x else x<=u/\u<=w+1)):=by
 unfold cells;rw[Z8,mem_up,xuq h1 h2]
def btw (v a b:Int):Prop:=min a b<=v/\v<=max a b
instance (v a b:Int):Decidable (btw v a b):=inferInstanceAs (Decidable (_/\_))
end Geo
namespace Drw
variable {S:Type}
abbrev Cl:=Int × Int
def set1 (m:Cl->Option S) (c:Cl) (s:S):Cl->Option S:=fun z=>if z=c then some s else m z
def sets (m:Cl->Option S) (L:List (Cl × S)):Cl->Option S:=L.foldl (fun m x=>set1 m x.1 x.2) m
def mark1 (hs:S) (m:Cl->Option S) (c:Cl) (s:S):Cl->Option S:=set1 m c (if (m c).isSome then hs else s)
def marks (hs:S) (m:Cl->Option S) (L:List (Cl × S)):Cl->Option S:=L.foldl (fun m x=>mark1 hs m x.1 x.2) m
theorem sets_no:∀{L:List (Cl × S)}{m:Cl->Option S}{c:Cl},c∉L.map (·.1)->sets m L c=m c
 | [],_,_,_=>rfl
 | x::L,m,c,h=>by
  rw[Zr,Zx,not_or] at h;show sets (set1 m x.1 x.2) L c=m c;rw[sets_no h.2];exact if_neg h.1
theorem sets_base:∀{L:List (Cl × S)}{m m':Cl->Option S}{c:Cl},m c=m' c->sets m L c=sets m' L c
 | [],_,_,_,h=>h
 | x::L,m,m',c,h=>by
  refine sets_base (L:=L) ?_;show set1 m x.1 x.2 c=set1 m' x.1 x.2 c;unfold set1;split
  .rfl
  .exact h
theorem xfy:∀{L:List (Cl × S)}{c:Cl} (m m':Cl->Option S),c∈L.map (·.1)->sets m L c=sets m' L c
 | x::L,c,m,m',h=>by
  show sets (set1 m x.1 x.2) L c=sets (set1 m' x.1 x.2) L c;rcases Zx.mp h with e|h
  .refine sets_base ?_;unfold set1;rw[if_pos e,if_pos e]
  .exact xfy _ _ h
theorem xfa:∀{L:List (Cl × S)}{m:Cl->Option S}{c:Cl},c∈L.map (·.1)->(sets m L c).isSome
 | x::L,m,c,h=>by
  show (sets (set1 m x.1 x.2) L c).isSome;by_cases z:c∈L.map (·.1)
  .exact xfa z
  .rw [sets_no z];rcases Zx.mp h with e|h
   .unfold set1;rw[if_pos e];rfl
   .exact absurd h z
theorem sets_one:∀{L:List (Cl × S)}{m:Cl->Option S}{c:Cl}{s:S},(L.map (·.1)).Nodup->(c,s)∈L->sets m L c=some s
 | x::L,m,c,s,nd,h=>by
  rw[Zr,Jc] at nd;show sets (set1 m x.1 x.2) L c=some s;rcases Zx.mp h with e|h
  .subst e;rw[sets_no nd.1];exact if_pos rfl
  .exact sets_one nd.2 h
theorem sets_perm {L L':List (Cl × S)} (p:L.Perm L') (nd:(L.map (·.1)).Nodup) (m:Cl->Option S) (c:Cl):sets m L c=sets m L' c:=by
 by_cases h:c∈L.map (·.1)
 .obtain ⟨⟨c',s⟩,hx,rfl⟩:=Zd.mp h;rw[sets_one nd hx,sets_one ((p.map _).nodup_iff.mp nd) (p.mem_iff.mp hx)]
 .rw [sets_no h,sets_no (fun z=>h ((p.map _).mem_iff.mpr z))]
def mkc (hs:S) (o:Option S) (l:List S):Option S:=l.foldl (fun o s=>some (if o.isSome then hs else s)) o
def at_ (c:Cl) (L:List (Cl × S)):List S:=(L.filter fun x=>decide (x.1=c)).map (·.2)
theorem marks_at (hs:S):∀(L:List (Cl × S)) (m:Cl->Option S) (c:Cl),marks hs m L c=mkc hs (m c) (at_ c L)
 | [],_,_=>rfl
 | x::L,m,c=>by
  show marks hs (mark1 hs m x.1 x.2) L c=_;rw[marks_at hs L];unfold at_ mark1 set1;rw[JP];by_cases e:x.1=c
  .subst e;simp only[if_true,decide_true];rfl
  .have e':¬ c=x.1:=fun z=>e z.symm;simp only[e,e',if_false,decide_false];rfl
theorem xgs (hs:S):∀(l:List S) (a:S),mkc hs (some a) l=some (if l=[] then a else hs)
 | [],a=>rfl
 | x::l,a=>by
  show mkc hs (some hs) l=_;rw[xgs hs l];simp
theorem mkc_perm (hs:S) {l l':List S} (p:l.Perm l'):mkc hs none l=mkc hs none l':=by
 match l,p with
 | [],p=>rw[List.nil_perm.mp p]
 | [a],p=>rw[List.singleton_perm.mp p]
 | a::b::r,p =>
  match l',p with
  | [],p=>exact absurd p.length_eq (by simp)
  | [x],p=>exact absurd p.length_eq (by simp)
  | x::y::r',p =>
   show mkc hs (some a) (b::r)=mkc hs (some x) (y::r');rw[xgs,xgs];simp
theorem xn8 (c:Cl) (L M:List (Cl × S)):at_ c (L++M)=at_ c L++at_ c M:=by
 unfold at_;rw[Jy,Z9]
theorem at_flat {α:Type} (c:Cl) (f:α->List (Cl × S)):∀ l:List α,at_ c (l.flatMap f)=l.flatMap fun a=>at_ c (f a)
 | []=>rfl
 | a::l=>by
  rw[Yn,Yn,xn8,at_flat c f l]
theorem at_no {c:Cl}{L:List (Cl × S)} (h:c∉L.map (·.1)):at_ c L=[]:=by
 unfold at_;rw[YU,Q3];intro x hx e;exact h (Zd.mpr ⟨x,hx,of_decide_eq_true e⟩)
theorem xkb:∀{L:List (Cl × S)}{c:Cl}{s:S},(L.map (·.1)).Nodup->(c,s)∈L->at_ c L=[s]
 | x::L,c,s,nd,h=>by
  rw[Zr,Jc] at nd;rw[show x::L=[x]++L from rfl,xn8];rcases Zx.mp h with e|h
  .subst e;rw[at_no nd.1];simp[at_]
  .have ne:¬ x.1=c:=fun e=>nd.1 (e▸Zd.mpr ⟨_,h,rfl⟩);rw[xkb nd.2 h];simp[at_,ne]
theorem xh1 {L M:List (Cl × S)} (c:Cl) (n1:(L.map (·.1)).Nodup) (n2:(M.map (·.1)).Nodup) (h:∀ s,(c,s)∈L↔(c,s)∈M):at_ c L=at_ c M:=by
 by_cases e:c∈L.map (·.1)
 .obtain ⟨⟨c',s⟩,hx,rfl⟩:=Zd.mp e;rw[xkb n1 hx,xkb n2 ((h s).mp hx)]
 .rw [at_no e,at_no];intro z;obtain⟨⟨c',s⟩,hx,rfl⟩:=Zd.mp z;exact e (Zd.mpr ⟨_,(h s).mpr hx,rfl⟩)
def no:Cl->Option S:=fun _=>none
def drawP (hs:S) (PM dots names pts:List (Cl × S)):Cl->Option S:=sets (fun z=>(sets (sets no dots) names z).or (marks hs no PM z)) pts
def drawL (hs:S) (LM dots names pts:List (Cl × S)):Cl->Option S:=sets (sets (sets (marks hs no LM) pts) dots) names
theorem draw_same (hs:S) {w:Int}{PM LM dots names names' pts:List (Cl × S)} (hp:∀ x∈pts,1<=x.1.1/\x.1.1<=w) (hd:∀ x∈dots,x.1.1=0\/x.1.1=w+1) (hn:∀ x∈names,x.1.1=0\/x.1.1=w+1)
    (pn:names.Perm names') (nn:(names.map (·.1)).Nodup) (c:Cl) (hm:c∉pts.map (·.1)->c∉names.map (·.1)->(at_ c PM).Perm (at_ c LM)):drawP hs PM dots names pts c=drawL hs LM dots names' pts c:=by
  unfold drawP drawL;rw[<- sets_perm pn nn];by_cases cp:c∈pts.map (·.1)
  . have c1:1<=c.1/\c.1<=w:=by
      obtain⟨x,hx,rfl⟩:=Zd.mp cp;exact hp x hx
    have nd:c∉dots.map (·.1):=fun z=>by
      obtain⟨x,hx,rfl⟩:=Zd.mp z;have:=hd x hx;omega
    have nn:c∉names.map (·.1):=fun z=>by
      obtain⟨x,hx,rfl⟩:=Zd.mp z;have:=hn x hx;omega
    rw[sets_no nn,sets_no nd];exact xfy _ _ cp
  . rw[sets_no cp]
    by_cases cn:c∈names.map (·.1)
    . have z:=xfa (m:=sets no dots) cn
      rw[xfy (sets (sets (marks hs no LM) pts) dots) (sets no dots) cn];revert z;generalize sets (sets no dots) names c=o;intro z;cases o with
      | none=>cases z
      | some s=>rfl
    . rw[sets_no cn,sets_no cn]
      by_cases cd:c∈dots.map (·.1)
      . have z:=xfa (m:=(no:Cl->Option S)) cd
        rw[xfy (sets (marks hs no LM) pts) no cd];revert z;generalize sets no dots c=o;intro z;cases o with
        | none=>cases z
        | some s=>rfl
      . rw[sets_no cd,sets_no cd,sets_no cp]
        show (none:Option S).or (marks hs no PM c)=_;rw[Option.none_or,marks_at,marks_at];exact mkc_perm hs (hm cp cn)
def rim (w:Int) (b:Bool):Int:=if b then 0 else w+1
def ls (sp sb sm:S) (x r:Int) (c:Cl):S:=if c=(x,r) then sp else if c.1=x then sb else sm
def ledP (sp sb sm:S) (w x y:Int) (b:Bool) (r:Int):List (Cl × S):=(Geo.cells w x y b r).map fun c=>(c,ls sp sb sm x r c)
def rg (lo hi:Int):List Int:=(Zz (hi-lo).toNat).map fun (i:Nat)=>lo+(i:Int)
def ledL (sp sb sm:S) (w x y:Int) (b:Bool) (r:Int):List (Cl × S):=((rg (min y r+1) (max y r)).map fun a=>((x,a),sb))++(if r≠y then [((x,r),sp)] else [])++((rg (min x (rim w b)+1) (max x (rim w b))).map fun a=>((a,r),sm))
theorem mem_rg {lo hi a:Int}:a∈rg lo hi↔lo<=a/\a<hi:=by
 unfold rg;rw[Zd];constructor
 .rintro ⟨i,hi',rfl⟩;rw[ZL] at hi';omega
 .rintro ⟨h1,h2⟩;exact⟨(a-lo).toNat,by rw[ZL]; omega,by omega⟩
theorem nd_map {α β:Type}{f:α->β} (inj:∀ a b,f a=f b->a=b) {l:List α} (h:l.Nodup):(l.map f).Nodup:=by
 rw[JE,Z3];exact h.imp fun ne e=>ne (inj _ _ e)
theorem xjh (lo hi:Int):(rg lo hi).Nodup:=nd_map (fun a b e=>by omega) Yu
theorem xqh {w x y:Int}{b:Bool}{r:Int}:(Geo.cells w x y b r).Nodup:=by
 unfold Geo.cells;rw[ZT];refine⟨?_,?_,?_⟩
 .unfold Geo.upL Geo.dn;refine nd_map (fun a b e=>?_) Yu;rw[ZR.injEq] at e;split at e<;>omega
 .unfold Geo.lvL Geo.wayI;refine nd_map (fun a b e=>?_) Yu;rw[ZR.injEq] at e;split at e<;>omega
 .rintro ⟨u,v⟩ h1 ⟨u',v'⟩ h2 e;rw[Geo.mem_up] at h1;unfold Geo.lvL at h2;obtain⟨i,_,e2⟩:=Zd.mp h2;rw[ZR.injEq] at e e2;omega
theorem ledL_keys (sp sb sm:S) (w x y:Int) (b:Bool) (r:Int):(ledL sp sb sm w x y b r).map (·.1)=((rg (min y r+1) (max y r)).map fun a=>(x,a))++(if r≠y then [(x,r)] else [])++((rg (min x (rim w b)+1) (max x (rim w b))).map fun a=>(a,r)):=by
 unfold ledL;rw[Z9,Z9,Zl,Zl]
 congr 2
 split<;>rfl
theorem led_at (sp sb sm:S) {w x y:Int}{b:Bool}{r:Int} (h1:1<=x) (h2:x<=w) {c:Cl} (n1:c≠(x,y)) (n2:c≠(rim w b,r)):at_ c (ledP sp sb sm w x y b r)=at_ c (ledL sp sb sm w x y b r):=by
 obtain⟨u,v⟩:=c;refine xh1 _ ?_ ?_ ?_
 .unfold ledP;rw[Zl];exact nd_map (fun a b e=>e) xqh
 .rw [ledL_keys];rw[ZT,ZT];refine⟨⟨nd_map (fun a b e=>(ZR.injEq ..▸e).2) (xjh _ _),by split<;>simp,?_⟩,nd_map (fun a b e=>(ZR.injEq ..▸e).1) (xjh _ _),?_⟩
  .rintro ⟨a,a'⟩ ha ⟨d,d'⟩ hd e;obtain⟨i,hi,ei⟩:=Zd.mp ha;rw[mem_rg] at hi;split at hd
   .have hd:=Zw.mp hd;rw[ZR.injEq] at ei hd e;omega
   .exact nomatch hd
  .rintro ⟨a,a'⟩ ha ⟨d,d'⟩ hd e;obtain⟨j,hj,ej⟩:=Zd.mp hd;rw[mem_rg] at hj;rw[ZR.injEq] at ej e;have hax:a=x:=by
    rcases Z8.mp ha with ha|ha
    .obtain ⟨i,hi,ei⟩:=Zd.mp ha;rw[ZR.injEq] at ei;exact ei.1.symm
    .split at ha
     .have ha:=Zw.mp ha;rw[ZR.injEq] at ha;exact ha.1
     .exact nomatch ha
   omega
 .intro s
  have m1:((u,v),s)∈ledP sp sb sm w x y b r↔(u,v)∈Geo.cells w x y b r/\s=ls sp sb sm x r (u,v):=by
   unfold ledP;rw[Zd];constructor
   .rintro ⟨c,hc,e⟩;rw[ZR.injEq] at e;obtain⟨rfl,rfl⟩:=e;exact⟨hc,rfl⟩
   .rintro ⟨hc,rfl⟩;exact⟨_,hc,rfl⟩
  have m2:((u,v),s)∈ledL sp sb sm w x y b r↔(u=x/\(min y r+1<=v/\v<max y r)/\s=sb)\/(r≠y/\u=x/\v=r/\s=sp)\/(v=r/\(min x (rim w b)+1<=u/\u<max x (rim w b))/\s=sm):=by
   unfold ledL;rw[Z8,Z8,Zd,Zd,or_assoc];refine or_congr ⟨?_,?_⟩ (or_congr ⟨?_,?_⟩ ⟨?_,?_⟩)
   .rintro ⟨a,ha,e⟩;rw[mem_rg] at ha;simp only[ZR.injEq] at e;obtain⟨⟨rfl,rfl⟩,rfl⟩:=e;exact⟨rfl,ha,rfl⟩
   .rintro ⟨rfl,ha,rfl⟩;exact⟨v,mem_rg.mpr ha,rfl⟩
   .intro h
    split at h
    .rename_i ne
     have h:=Zw.mp h;simp only[ZR.injEq] at h;exact⟨ne,h.1.1,h.1.2,h.2⟩
    .exact nomatch h
   .rintro ⟨ne,rfl,rfl,rfl⟩;rw[if_pos ne];exact Zw.mpr rfl
   .rintro ⟨a,ha,e⟩;rw[mem_rg] at ha;simp only[ZR.injEq] at e;obtain⟨⟨rfl,rfl⟩,rfl⟩:=e;exact⟨rfl,ha,rfl⟩
   .rintro ⟨rfl,ha,rfl⟩;exact⟨u,mem_rg.mpr ha,rfl⟩
  rw[m1,m2,Geo.mem_cells h1 h2];clear m1 m2;have k1:¬ (u=x/\v=y):=fun z=>n1 (by rw[z.1,z.2]);have k2:¬ (u=rim w b/\v=r):=fun z=>n2 (by rw[z.1,z.2]);unfold ls;by_cases ux:u=x
  .subst ux;by_cases vr:v=r
   .subst vr;rw[if_pos rfl];constructor
    .rintro ⟨_,e⟩;exact .inr (.inl ⟨fun z=>k1 ⟨rfl,z⟩,rfl,rfl,e⟩)
    .rintro (⟨_,z,_⟩|⟨_,_,_,e⟩|⟨_,z,_⟩)
     .omega
     .exact ⟨.inr ⟨rfl,by cases b<;>simp<;>omega⟩,e⟩
     .omega
   .rw [if_neg (fun z=>vr (ZR.inj z).2),if_pos rfl];constructor
    .rintro ⟨z|z,e⟩
     .exact .inl ⟨rfl,by omega,e⟩
     .exact absurd z.1 vr
    .rintro (⟨_,z,e⟩|⟨_,_,z,_⟩|⟨z,_⟩)
     .exact ⟨.inl ⟨rfl,by omega⟩,e⟩
     .exact absurd z vr
     .exact absurd z vr
  .rw [if_neg (fun z=>ux (ZR.inj z).1),if_neg ux];constructor
   .rintro ⟨z|z,e⟩
    .exact absurd z.1 ux
    .refine .inr (.inr ⟨z.1,?_,e⟩);have z2:=z.2;have k3:¬ u=rim w b:=fun y=>k2 ⟨y,z.1⟩;clear k1 k2 z n1 n2;unfold rim at k3 ⊢;cases b
     .simp at z2 k3 ⊢;omega
     .simp at z2 k3 ⊢;omega
   .rintro (⟨z,_⟩|⟨_,z,_⟩|⟨z,y,e⟩)
    .exact absurd z ux
    .exact absurd z ux
    .refine ⟨.inr ⟨z,?_⟩,e⟩;unfold rim at y;cases b
     .simp at y ⊢;omega
     .simp at y ⊢;omega
def go (φ:Cl->Cl) (L:List (Cl × S)):List (Cl × S):=L.map fun x=>(φ x.1,x.2)
theorem xfx {φ:Cl->Cl} (inj:∀ a b,φ a=φ b->a=b):∀(L:List (Cl × S)) (m m':Cl->Option S),(∀ c,m' (φ c)=m c)->∀ c,sets m' (go φ L) (φ c)=sets m L c
 | [],m,m',h,c=>h c
 | x::L,m,m',h,c=>by
  show sets (set1 m' (φ x.1) x.2) (go φ L) (φ c)=sets (set1 m x.1 x.2) L c;refine xfx inj L _ _ (fun c=>?_) c;unfold set1;by_cases e:c=x.1
  .rw [if_pos e,if_pos (by rw[e])]
  .rw [if_neg e,if_neg (fun z=>e (inj _ _ z)),h]
theorem xmi {φ:Cl->Cl} (inj:∀ a b,φ a=φ b->a=b) (c:Cl):∀ L:List (Cl × S),at_ (φ c) (go φ L)=at_ c L
 | []=>rfl
 | x::L=>by
  have ih:=xmi inj c L;unfold at_ go at ih ⊢;rw[Zr,JP,JP];by_cases e:x.1=c
  .rw [if_pos (decide_eq_true (by rw[e])),if_pos (decide_eq_true e),Zr,Zr,ih]
  .rw [if_neg (by simpa using fun z=>e (inj _ _ z)),if_neg (by simpa using e),ih]
theorem xp9 {α:Type} (hs:S) {φ:Cl->Cl}{f f':α->List (Cl × S)}{l:List α} (h:∀ a∈l,∀ c,at_ (φ c) (f' a)=at_ c (f a)) (c:Cl):marks hs no (l.flatMap f') (φ c)=marks hs no (l.flatMap f) c:=by
 rw[marks_at,marks_at,at_flat,at_flat];have:∀ l:List α,(∀ a∈l,∀ c,at_ (φ c) (f' a)=at_ c (f a))->(l.flatMap fun a=>at_ (φ c) (f' a))=l.flatMap fun a=>at_ c (f a):=by
  intro l
  induction l with
  | nil=>intro _; rfl
  | cons a l ih=>intro h; rw[Yn,Yn,h a Z0,ih fun b hb=>h b (Z1 _ hb)]
 rw[this l h];rfl
theorem draw_go {α:Type} (hs:S) {φ:Cl->Cl} (inj:∀ a b,φ a=φ b->a=b) {f f':α->List (Cl × S)}{l:List α} (h:∀ a∈l,∀ c,at_ (φ c) (f' a)=at_ c (f a)) (dots names pts:List (Cl × S)) (c:Cl) :
    drawL hs (l.flatMap f') (go φ dots) (go φ names) (go φ pts) (φ c)=drawL hs (l.flatMap f) dots names pts c:=by
  unfold drawL;exact xfx inj _ _ _ (xfx inj _ _ _ (xfx inj _ _ _ (xp9 hs h))) c
theorem xf9 (sp sb sm:S) (w x y:Int) (b:Bool) (r:Int):((ledL sp sb sm w x y b r).map (·.1)).Nodup:=by
 rw[ledL_keys,ZT,ZT];refine⟨⟨nd_map (fun a b e=>(ZR.inj e).2) (xjh _ _),by split<;>simp,?_⟩,nd_map (fun a b e=>(ZR.inj e).1) (xjh _ _),?_⟩
 .rintro ⟨a,a'⟩ ha ⟨d,d'⟩ hd e;obtain⟨i,hi,ei⟩:=Zd.mp ha;rw[mem_rg] at hi;split at hd
  .have hd:=Zw.mp hd;have z1:=(ZR.inj ei).2;have z2:=(ZR.inj hd).2;have z3:=(ZR.inj e).2;omega
  .exact nomatch hd
 .rintro ⟨a,a'⟩ ha ⟨d,d'⟩ hd e;obtain⟨j,hj,ej⟩:=Zd.mp hd;rw[mem_rg] at hj;have z0:=(ZR.inj ej).1;have z3:=(ZR.inj e).1;have hax:a=x:=by
   rcases Z8.mp ha with ha|ha
   .obtain ⟨i,hi,ei⟩:=Zd.mp ha;exact (ZR.inj ei).1.symm
   .split at ha
    .exact (ZR.inj (Zw.mp ha)).1
    .exact nomatch ha
  omega
theorem xe1 {sp sb sm:S}{w x y:Int}{b:Bool}{r u v:Int}{s:S}:((u,v),s)∈ledL sp sb sm w x y b r↔(u=x/\(min y r+1<=v/\v<max y r)/\s=sb)\/(r≠y/\u=x/\v=r/\s=sp)\/(v=r/\(min x (rim w b)+1<=u/\u<max x (rim w b))/\s=sm):=by
 unfold ledL;rw[Z8,Z8,Zd,Zd,or_assoc];refine or_congr ⟨?_,?_⟩ (or_congr ⟨?_,?_⟩ ⟨?_,?_⟩)
 .rintro ⟨a,ha,e⟩;rw[mem_rg] at ha;simp only[ZR.injEq] at e;obtain⟨⟨rfl,rfl⟩,rfl⟩:=e;exact⟨rfl,ha,rfl⟩
 .rintro ⟨rfl,ha,rfl⟩;exact⟨v,mem_rg.mpr ha,rfl⟩
 .intro h
  split at h
  .rename_i ne
   have h:=Zw.mp h;simp only[ZR.injEq] at h;exact⟨ne,h.1.1,h.1.2,h.2⟩
  .exact nomatch h
 .rintro ⟨ne,rfl,rfl,rfl⟩;rw[if_pos ne];exact Zw.mpr rfl
 .rintro ⟨a,ha,e⟩;rw[mem_rg] at ha;simp only[ZR.injEq] at e;obtain⟨⟨rfl,rfl⟩,rfl⟩:=e;exact⟨rfl,ha,rfl⟩
 .rintro ⟨rfl,ha,rfl⟩;exact⟨u,mem_rg.mpr ha,rfl⟩
def mirC (w:Int) (c:Cl):Cl:=(w+1-c.1,c.2)
def turC (h:Int) (c:Cl):Cl:=(c.1,h+1-c.2)
theorem mirC_inj (w:Int) (a b:Cl) (h:mirC w a=mirC w b):a=b:=by
 have h1:=(ZR.inj h).1;have h2:=(ZR.inj h).2;exact Yc (by omega) h2
theorem turC_inj (k:Int) (a b:Cl) (h:turC k a=turC k b):a=b:=by
 have h1:=(ZR.inj h).1;have h2:=(ZR.inj h).2;exact Yc h1 (by omega)
theorem xnm {φ:Cl->Cl} (inv:∀ c,φ (φ c)=c) {c:Cl}{s:S}{L:List (Cl × S)}:(c,s)∈go φ L↔(φ c,s)∈L:=by
 unfold go;rw[Zd];constructor
 .rintro ⟨⟨d,s'⟩,hd,e⟩;have e1:=(ZR.inj e).1;have e2:=(ZR.inj e).2
  dsimp only at e1 e2
  subst e1 e2;rw[inv];exact hd
 .intro h
  exact⟨_,h,by rw[inv]⟩
theorem xjz (w:Int) (c:Cl):mirC w (mirC w c)=c:=Yc (by show w+1-(w+1-c.1)=c.1; omega) rfl
theorem xkk (h:Int) (c:Cl):turC h (turC h c)=c:=Yc rfl (by show h+1-(h+1-c.2)=c.2; omega)
theorem led_mir (sp sb sm:S) (w x y:Int) (b:Bool) (r:Int) (c:Cl):at_ (mirC w c) (ledL sp sb sm w (w+1-x) y (!b) r)=at_ c (ledL sp sb sm w x y b r):=by
 rw[<- xmi (mirC_inj w) c (ledL sp sb sm w x y b r)];refine xh1 _ (xf9 ..) (by unfold go; rw[Zl]; have:=nd_map (mirC_inj w) (xf9 sp sb sm w x y b r); rwa [Zl] at this) fun s=>?_;rw[xnm (xjz w),xjz];obtain⟨u,v⟩:=c;show ((w+1-u,v),s)∈_↔_;rw[xe1,xe1];have hr:rim w (!b)=w+1-rim w b:=by cases b<;>(unfold rim; simp)
 rw[hr];generalize rim w b=q;refine or_congr (and_congr (by omega) .rfl) (or_congr (and_congr .rfl (and_congr (by omega) .rfl)) (and_congr .rfl (and_congr (by omega) .rfl)))
theorem led_tur (sp sb sm:S) (w h x y:Int) (b:Bool) (r:Int) (c:Cl):at_ (turC h c) (ledL sp sb sm w x (h+1-y) b (h+1-r))=at_ c (ledL sp sb sm w x y b r):=by
 rw[<- xmi (turC_inj h) c (ledL sp sb sm w x y b r)];refine xh1 _ (xf9 ..) (by unfold go; rw[Zl]; have:=nd_map (turC_inj h) (xf9 sp sb sm w x y b r); rwa [Zl] at this) fun s=>?_;rw[xnm (xkk h),xkk];obtain⟨u,v⟩:=c;show ((u,h+1-v),s)∈_↔_;rw[xe1,xe1];generalize rim w b=q;refine or_congr (and_congr .rfl (and_congr (by omega) .rfl)) (or_congr (and_congr (by omega) (and_congr .rfl (and_congr (by omega) .rfl))) (and_congr (by omega) .rfl))
end Drw
namespace S76
open PySem L2 XL
def top (i:Nat):Stmt:=PySem.Challenge.pw_rimnotes_k76_mirrored_drawings.main.body.getD i (.Pass ⟨0,0,0,0⟩)
abbrev s_au:Stmt:=xat (top 18) 0
abbrev s_y:Stmt:=xat (top 19) 1
abbrev s_ac:Stmt:=xat (top 19) 2
abbrev s_s:Stmt:=xat (top 19) 3
abbrev s_u:Stmt:=xat (top 20) 1
abbrev s_x:Stmt:=xat (top 20) 2
abbrev s_o:Stmt:=xat (top 20) 3
abbrev s_ao:Stmt:=top 21
abbrev s_a1:Stmt:=top 23
abbrev s_ak:Stmt:=top 25
abbrev s_at:Stmt:=top 26
abbrev s_aj:Stmt:=xat (top 32) 0
abbrev s_a:Stmt:=xat (top 32) 1
abbrev s_h:Stmt:=xat (top 32) 4
abbrev s_f:Stmt:=xat (top 32) 6
abbrev s_n:Stmt:=xat (top 32) 7
abbrev s_g:Stmt:=xat (top 32) 8
abbrev s_v:Stmt:=xat (top 32) 10
abbrev s_d:Stmt:=xat (top 32) 13
abbrev s_m:Stmt:=xat (top 32) 14
abbrev s_i:Stmt:=xat (top 32) 15
abbrev s_j:Stmt:=xat (top 32) 16
abbrev s_c:Stmt:=xat (top 32) 17
abbrev s_e:Stmt:=xat (top 32) 18
abbrev s_q:Stmt:=top 33
abbrev xf0:Stmt:=top 35
abbrev s_a3:Stmt:=top 36
abbrev s_ad:Stmt:=top 37
abbrev s_as:Stmt:=top 38
abbrev s_ax:Stmt:=top 39
abbrev s_am:Stmt:=xat (top 40) 0
abbrev s_p:Stmt:=xat (top 40) 1
abbrev s_l:Stmt:=xat (top 40) 2
abbrev s_r:Stmt:=xat (top 40) 3
abbrev s_ag:Stmt:=xat (top 40) 4
abbrev xhn:Stmt:=top 41
abbrev s_ar:Stmt:=top 42
abbrev s_aw:Stmt:=top 43
abbrev s_a4:Stmt:=top 44
abbrev s_al:Stmt:=top 45
abbrev s_af:Stmt:=top 46
abbrev s_ai:Stmt:=top 48
abbrev s_k:Stmt:=top 49
abbrev s_az:Stmt:=top 50
abbrev s_ay:Stmt:=top 51
abbrev s_a0:Stmt:=top 52
abbrev s_aq:Stmt:=top 53
abbrev s_a5:Stmt:=top 54
abbrev s_ap:Stmt:=top 55
abbrev s_ab:Stmt:=top 56
abbrev s_av:Stmt:=top 57
abbrev s_ah:Stmt:=top 61
abbrev s_an:Stmt:=top 62
abbrev s_aa:Stmt:=top 63
abbrev s_a2:Stmt:=top 64
abbrev xmp:Stmt:=top 65
set_option genInjectivity false in
set_option genSizeOf false in
set_option genInjectivity false in
set_option genSizeOf false in
structure Adr where
 f_au:Addr
 d_au:FuncData
 f_y:Addr
 d_y:FuncData
 f_ac:Addr
 d_ac:FuncData
 f_s:Addr
 d_s:FuncData
 f_u:Addr
 d_u:FuncData
 f_x:Addr
 d_x:FuncData
 f_o:Addr
 d_o:FuncData
 f_ao:Addr
 d_ao:FuncData
 f_a1:Addr
 d_a1:FuncData
 f_ak:Addr
 d_ak:FuncData
 f_at:Addr
 d_at:FuncData
 f_aj:Addr
 d_aj:FuncData
 f_a:Addr
 d_a:FuncData
 T_a:Addr
 f_h:Addr
 d_h:FuncData
 f_f:Addr
 d_f:FuncData
 f_n:Addr
 d_n:FuncData
 f_g:Addr
 d_g:FuncData
 f_v:Addr
 d_v:FuncData
 f_d:Addr
 d_d:FuncData
 f_m:Addr
 d_m:FuncData
 f_i:Addr
 d_i:FuncData
 f_j:Addr
 d_j:FuncData
 f_c:Addr
 d_c:FuncData
 f_e:Addr
 d_e:FuncData
 f_q:Addr
 d_q:FuncData
 f_drawn:Addr
 d_drawn:FuncData
 f_a3:Addr
 d_a3:FuncData
 f_ad:Addr
 d_ad:FuncData
 f_as:Addr
 d_as:FuncData
 f_ax:Addr
 d_ax:FuncData
 f_am:Addr
 d_am:FuncData
 f_p:Addr
 d_p:FuncData
 f_l:Addr
 d_l:FuncData
 f_r:Addr
 d_r:FuncData
 f_ag:Addr
 d_ag:FuncData
 f_seen:Addr
 d_seen:FuncData
 f_ar:Addr
 d_ar:FuncData
 f_aw:Addr
 d_aw:FuncData
 f_a4:Addr
 d_a4:FuncData
 f_al:Addr
 d_al:FuncData
 f_af:Addr
 d_af:FuncData
 f_ai:Addr
 d_ai:FuncData
 f_k:Addr
 d_k:FuncData
 f_az:Addr
 d_az:FuncData
 f_ay:Addr
 d_ay:FuncData
 f_a0:Addr
 d_a0:FuncData
 f_aq:Addr
 d_aq:FuncData
 f_a5:Addr
 d_a5:FuncData
 f_ap:Addr
 d_ap:FuncData
 f_ab:Addr
 d_ab:FuncData
 f_av:Addr
 d_av:FuncData
 f_ah:Addr
 d_ah:FuncData
 f_an:Addr
 d_an:FuncData
 f_aa:Addr
 d_aa:FuncData
 f_a2:Addr
 d_a2:FuncData
 f_law:Addr
 d_law:FuncData
 C_bj:Addr
 C_ae:Addr
 C_t:Addr
 C_b:Addr
 C_w:Addr
 D_z:Addr
structure Txt (w:World) (K:Ze) (mg:Str->Option Value) (t:Adr):Prop where
 g_ae:mg "LeftSide"=some (.ref t.C_ae)
 g_t:mg "RightSide"=some (.ref t.C_t)
 g_b:mg "Picture"=some (.ref t.C_b)
 g_w:mg "Letters"=some (.ref t.C_w)
 F_au:Fun K "__init__" "Side.__init__" s_au t.f_au t.d_au
 b_au:xv K t.d_au ["self", "width"] []
 F_y:Fun K "rim" "LeftSide.rim" s_y t.f_y t.d_y
 b_y:xv K t.d_y ["self"] []
 F_ac:Fun K "way" "LeftSide.way" s_ac t.f_ac t.d_ac
 b_ac:xv K t.d_ac ["self"] []
 F_s:Fun K "across" "LeftSide.across" s_s t.f_s t.d_s
 b_s:xv K t.d_s ["self", "x"] []
 F_u:Fun K "rim" "RightSide.rim" s_u t.f_u t.d_u
 b_u:xv K t.d_u ["self"] []
 F_x:Fun K "way" "RightSide.way" s_x t.f_x t.d_x
 b_x:xv K t.d_x ["self"] []
 F_o:Fun K "across" "RightSide.across" s_o t.f_o t.d_o
 b_o:xv K t.d_o ["self", "x"] []
 g_ao:mg "side_of"=some (.ref t.f_ao)
 F_ao:Fun K "side_of" "side_of" s_ao t.f_ao t.d_ao
 b_ao:xv K t.d_ao ["word", "width"] []
 g_a1:mg "cells_of"=some (.ref t.f_a1)
 F_a1:Fun K "cells_of" "cells_of" s_a1 t.f_a1 t.d_a1
 b_a1:xv K t.d_a1 ["picture", "name", "side", "row"] []
 g_ak:mg "is_whole"=some (.ref t.f_ak)
 F_ak:Fun K "is_whole" "is_whole" s_ak t.f_ak t.d_ak
 b_ak:xv K t.d_ak ["thing", "low", "high"] []
 g_at:mg "is_name"=some (.ref t.f_at)
 F_at:Fun K "is_name" "is_name" s_at t.f_at t.d_at
 b_at:xv K t.d_at ["thing"] []
 F_aj:Fun K "__init__" "Picture.__init__" s_aj t.f_aj t.d_aj
 b_aj:xv K t.d_aj ["self", "width", "height"] []
 F_a:FunD K "put" "Picture.put" s_a t.T_a t.f_a t.d_a
 b_bi:∃ ds,Vals [.str "both",.int 1,.non] ds/\xv K t.d_a ["self", "name", "x", "y", "sides", "low", "high"] ds
 b_a:xv K t.d_a ["self", "name", "x", "y", "sides", "low", "high"] []
 F_h:Fun K "open_seat" "Picture.open_seat" s_h t.f_h t.d_h
 b_h:xv K t.d_h ["self", "side", "row"] []
 F_f:Fun K "points" "Picture.points" s_f t.f_f t.d_f
 b_f:xv K t.d_f ["self"] []
 F_n:Fun K "seats" "Picture.seats" s_n t.f_n t.d_n
 b_n:xv K t.d_n ["self"] []
 F_g:Fun K "place_of" "Picture.place_of" s_g t.f_g t.d_g
 b_g:xv K t.d_g ["self", "name"] []
 F_v:Fun K "length" "Picture.length" s_v t.f_v t.d_v
 b_v:xv K t.d_v ["self", "name", "side", "row"] []
 F_d:Fun K "mirrored" "Picture.mirrored" s_d t.f_d t.d_d
 b_d:xv K t.d_d ["self"] []
 F_m:Fun K "turned" "Picture.turned" s_m t.f_m t.d_m
 b_m:xv K t.d_m ["self"] []
 F_i:Fun K "check_name" "Picture.check_name" s_i t.f_i t.d_i
 b_i:xv K t.d_i ["self", "name"] []
 F_j:Fun K "check_cell" "Picture.check_cell" s_j t.f_j t.d_j
 b_j:xv K t.d_j ["self", "x", "y"] []
 F_c:Fun K "check_lines" "Picture.check_lines" s_c t.f_c t.d_c
 b_c:xv K t.d_c ["self", "name", "x", "y"] []
 F_e:Fun K "check_seat" "Picture.check_seat" s_e t.f_e t.d_e
 b_e:xv K t.d_e ["self", "side", "row"] []
 g_q:mg "picture_with"=some (.ref t.f_q)
 F_q:Fun K "picture_with" "picture_with" s_q t.f_q t.d_q
 b_q:xv K t.d_q ["width", "height", "points", "seats"] []
 g_drawn:mg "drawn"=some (.ref t.f_drawn)
 F_drawn:Fun K "drawn" "drawn" xf0 t.f_drawn t.d_drawn
 b_drawn:xv K t.d_drawn ["picture", "pairs"] []
 g_a3:mg "row_text"=some (.ref t.f_a3)
 F_a3:Fun K "row_text" "row_text" s_a3 t.f_a3 t.d_a3
 b_a3:xv K t.d_a3 ["signs", "width", "row"] []
 g_ad:mg "leader_signs"=some (.ref t.f_ad)
 F_ad:Fun K "leader_signs" "leader_signs" s_ad t.f_ad t.d_ad
 b_ad:xv K t.d_ad ["picture", "pairs"] []
 g_as:mg "leader_sign"=some (.ref t.f_as)
 F_as:Fun K "leader_sign" "leader_sign" s_as t.f_as t.d_as
 b_as:xv K t.d_as ["cell", "x", "row"] []
 g_ax:mg "rim_signs"=some (.ref t.f_ax)
 F_ax:Fun K "rim_signs" "rim_signs" s_ax t.f_ax t.d_ax
 b_ax:xv K t.d_ax ["picture", "pairs"] []
 F_am:Fun K "__init__" "Letters.__init__" s_am t.f_am t.d_am
 b_am:xv K t.d_am ["self", "last_column"] []
 F_p:Fun K "is_rim" "Letters.is_rim" s_p t.f_p t.d_p
 b_p:xv K t.d_p ["self", "column"] []
 F_l:Fun K "may_stand" "Letters.may_stand" s_l t.f_l t.d_l
 b_l:xv K t.d_l ["self", "row", "column", "sign"] []
 F_r:Fun K "may_lie" "Letters.may_lie" s_r t.f_r t.d_r
 b_r:xv K t.d_r ["self", "row", "column", "name"] []
 F_ag:Fun K "read" "Letters.read" s_ag t.f_ag t.d_ag
 b_ag:xv K t.d_ag ["self", "row", "column", "sign"] []
 g_seen:mg "seen"=some (.ref t.f_seen)
 F_seen:Fun K "seen" "seen" xhn t.f_seen t.d_seen
 b_seen:xv K t.d_seen ["rows"] []
 g_ar:mg "check_texts"=some (.ref t.f_ar)
 F_ar:Fun K "check_texts" "check_texts" s_ar t.f_ar t.d_ar
 b_ar:xv K t.d_ar ["rows"] []
 g_aw:mg "signs_in"=some (.ref t.f_aw)
 F_aw:Fun K "signs_in" "signs_in" s_aw t.f_aw t.d_aw
 b_aw:xv K t.d_aw ["rows"] []
 g_a4:mg "seat_at"=some (.ref t.f_a4)
 F_a4:Fun K "seat_at" "seat_at" s_a4 t.f_a4 t.d_a4
 b_a4:xv K t.d_a4 ["place"] []
 g_al:mg "picture_seen"=some (.ref t.f_al)
 F_al:Fun K "picture_seen" "picture_seen" s_al t.f_al t.d_al
 b_al:xv K t.d_al ["rows", "letters"] []
 g_af:mg "check_drawing"=some (.ref t.f_af)
 F_af:Fun K "check_drawing" "check_drawing" s_af t.f_af t.d_af
 b_af:xv K t.d_af ["rows", "drawing"] []
 g_ai:mg "_law_cell_at"=some (.ref t.f_ai)
 F_ai:Fun K "_law_cell_at" "_law_cell_at" s_ai t.f_ai t.d_ai
 b_ai:xv K t.d_ai ["_law_script", "_law_k"] []
 g_k:mg "_law_mix"=some (.ref t.f_k)
 F_k:Fun K "_law_mix" "_law_mix" s_k t.f_k t.d_k
 b_k:xv K t.d_k ["_law_cell", "_law_k"] []
 g_az:mg "_law_frame"=some (.ref t.f_az)
 F_az:Fun K "_law_frame" "_law_frame" s_az t.f_az t.d_az
 b_az:xv K t.d_az ["_law_script"] []
 g_ay:mg "_law_seats"=some (.ref t.f_ay)
 F_ay:Fun K "_law_seats" "_law_seats" s_ay t.f_ay t.d_ay
 b_ay:xv K t.d_ay ["_law_script", "_law_height"] []
 g_a0:mg "_law_point"=some (.ref t.f_a0)
 F_a0:Fun K "_law_point" "_law_point" s_a0 t.f_a0 t.d_a0
 b_a0:xv K t.d_a0 ["_law_cell", "_law_name", "_law_x", "_law_y", "_law_height"] []
 g_aq:mg "_law_points"=some (.ref t.f_aq)
 F_aq:Fun K "_law_points" "_law_points" s_aq t.f_aq t.d_aq
 b_aq:xv K t.d_aq ["_law_cells", "_law_width", "_law_height"] []
 g_a5:mg "_law_put"=some (.ref t.f_a5)
 F_a5:Fun K "_law_put" "_law_put" s_a5 t.f_a5 t.d_a5
 b_a5:xv K t.d_a5 ["_law_picture_here", "_law_point_here"] []
 g_ap:mg "_law_picture"=some (.ref t.f_ap)
 F_ap:Fun K "_law_picture" "_law_picture" s_ap t.f_ap t.d_ap
 b_ap:xv K t.d_ap ["_law_width", "_law_height", "_law_points_here", "_law_seats_here"] []
 g_ab:mg "_law_every_seat"=some (.ref t.f_ab)
 F_ab:Fun K "_law_every_seat" "_law_every_seat" s_ab t.f_ab t.d_ab
 b_ab:xv K t.d_ab ["_law_height"] []
 g_av:mg "_law_pairs"=some (.ref t.f_av)
 F_av:Fun K "_law_pairs" "_law_pairs" s_av t.f_av t.d_av
 b_av:xv K t.d_av ["_law_cell", "_law_points_here", "_law_height", "_law_seats_here"] []
 g_ah:mg "_law_mirrored"=some (.ref t.f_ah)
 F_ah:Fun K "_law_mirrored" "_law_mirrored" s_ah t.f_ah t.d_ah
 b_ah:xv K t.d_ah ["_law_pairs_here"] []
 g_an:mg "_law_turned"=some (.ref t.f_an)
 F_an:Fun K "_law_turned" "_law_turned" s_an t.f_an t.d_an
 b_an:xv K t.d_an ["_law_pairs_here", "_law_height"] []
 g_aa:mg "_law_backward"=some (.ref t.f_aa)
 F_aa:Fun K "_law_backward" "_law_backward" s_aa t.f_aa t.d_aa
 b_aa:xv K t.d_aa ["_law_rows"] []
 g_a2:mg "_law_same"=some (.ref t.f_a2)
 F_a2:Fun K "_law_same" "_law_same" s_a2 t.f_a2 t.d_a2
 b_a2:xv K t.d_a2 ["_law_one", "_law_other"] []
 g_law:mg "law"=some (.ref t.f_law)
 F_law:Fun K "law" "law" xmp t.f_law t.d_law
 c_ae:Cls K t.C_ae
 k_ae:Mk K t.C_ae t.f_au
 m_y:Meth K t.C_ae "rim" t.f_y
 m_ac:Meth K t.C_ae "way" t.f_ac
 m_s:Meth K t.C_ae "across" t.f_s
 c_t:Cls K t.C_t
 k_t:Mk K t.C_t t.f_au
 m_u:Meth K t.C_t "rim" t.f_u
 m_x:Meth K t.C_t "way" t.f_x
 m_o:Meth K t.C_t "across" t.f_o
 c_b:Cls K t.C_b
 k_b:Mk K t.C_b t.f_aj
 m_a:Meth K t.C_b "put" t.f_a
 m_h:Meth K t.C_b "open_seat" t.f_h
 m_f:Meth K t.C_b "points" t.f_f
 m_n:Meth K t.C_b "seats" t.f_n
 m_g:Meth K t.C_b "place_of" t.f_g
 m_v:Meth K t.C_b "length" t.f_v
 m_d:Meth K t.C_b "mirrored" t.f_d
 m_m:Meth K t.C_b "turned" t.f_m
 m_i:Meth K t.C_b "check_name" t.f_i
 m_j:Meth K t.C_b "check_cell" t.f_j
 m_c:Meth K t.C_b "check_lines" t.f_c
 m_e:Meth K t.C_b "check_seat" t.f_e
 c_w:Cls K t.C_w
 k_w:Mk K t.C_w t.f_am
 m_p:Meth K t.C_w "is_rim" t.f_p
 m_l:Meth K t.C_w "may_stand" t.f_l
 m_r:Meth K t.C_w "may_lie" t.f_r
 m_ag:Meth K t.C_w "read" t.f_ag
 cg:PySem.W.specialIn K (.builtin "object.__class__") "__get__"=some (some (.builtin "getset_descriptor.__get__"))
 ct:PySem.W.takesIn K (.builtin "object.__class__")=some true
 n_bd:ZJ K (.ref t.C_t) "width"=some none
 n_a8:ZJ K (.ref t.C_b) "placed"=some none
 n_a6:ZJ K (.ref t.C_b) "height"=some none
 n_a7:ZJ K (.ref t.C_b) "width"=some none
 n_bc:ZJ K (.ref t.C_b) "opened"=some none
 n_ba:ZJ K (.ref t.C_w) "last_column"=some none
 n_a9:ZJ K (.ref t.C_w) "inner"=some none
 n_bb:ZJ K (.ref t.C_w) "outer"=some none
 n_bg:ZJ K (.ref t.C_ae) "width"=some none
 n_abs:mg "abs"=none
 n_bool:mg "bool"=none
 n_dict:mg "dict"=none
 n_enumerate:mg "enumerate"=none
 n_int:mg "int"=none
 n_isinstance:mg "isinstance"=none
 n_len:mg "len"=none
 n_list:mg "list"=none
 n_min:mg "min"=none
 n_range:mg "range"=none
 n_reversed:mg "reversed"=none
 n_sorted:mg "sorted"=none
 n_str:mg "str"=none
 v_bh:∃ tk,mg "MOST_ROWS"=some (.int 16 tk)
 v_be:∃ tk,mg "MOST_COLUMNS"=some (.int 30 tk)
 v_bf:∃ tk,mg "MOST_POINTS"=some (.int 12 tk)
 g_z:mg "MIRRORED_SIDES"=some (.ref t.D_z)
 D_z:xje w K t.D_z [(.inr "left",.str "right"),(.inr "right",.str "left"),(.inr "both",.str "both")]
@[elab_as_elim] theorem xvq {α:Type}{P:List α->Prop}:(us:List α)->us.length=1->(∀ a0,P [a0])->P us
 | [a0],_,h=>h a0
@[elab_as_elim] theorem xvk {α:Type}{P:List α->Prop}:(us:List α)->us.length=2->(∀ a0 a1,P [a0,a1])->P us
 | [a0,a1],_,h=>h a0 a1
@[elab_as_elim] theorem xvv {α:Type}{P:List α->Prop}:(us:List α)->us.length=3->(∀ a0 a1 a2,P [a0,a1,a2])->P us
 | [a0,a1,a2],_,h=>h a0 a1 a2
@[elab_as_elim] theorem xqy {α:Type}{P:List α->Prop}:(us:List α)->us.length=4->(∀ a0 a1 a2 a3,P [a0,a1,a2,a3])->P us
 | [a0,a1,a2,a3],_,h=>h a0 a1 a2 a3
@[elab_as_elim] theorem xve {α:Type}{P:List α->Prop}:(us:List α)->us.length=5->(∀ a0 a1 a2 a3 a4,P [a0,a1,a2,a3,a4])->P us
 | [a0,a1,a2,a3,a4],_,h=>h a0 a1 a2 a3 a4
@[elab_as_elim] theorem xu0 {α:Type}{P:List α->Prop}:(us:List α)->us.length=7->(∀ a0 a1 a2 a3 a4 a5 a6,P [a0,a1,a2,a3,a4,a5,a6])->P us
 | [a0,a1,a2,a3,a4,a5,a6],_,h=>h a0 a1 a2 a3 a4 a5 a6
def gI (K:Ze) (n:Str) (a:Addr):Prop:=Qz K mainGlobals n=some (some (.ref a))
def gN (K:Ze) (n:Str):Prop:=Qz K mainGlobals n=some none
def fN (K:Ze) (C:Addr) (n:Str):Prop:=ZJ K (.ref C) n=some none
def fI (K:Ze) (C:Addr) (n:Str) (a:Addr):Prop:=ZJ K (.ref C) n=some (some (.ref a))
def fB (K:Ze) (C:Addr) (n:Str) (b:String):Prop:=ZJ K (.ref C) n=some (some (.builtin b))
theorem bi_1 {K:Ze}{x q:Str}{st:Stmt}{f:Addr}{fd:FuncData}{p0:Str} (F:Fun K x q st f fd) (h:∀(kV doc pm:Value) (an:Option Addr) (cdv ct:Value) (a0:Value),bindArgs (Ji x q (xbf st) (xa7 st) (xm st) .none kV doc pm an cdv ct) ⟨[a0],[]⟩=pure (List.zip [p0] [a0]):=by intros; rfl):xv K fd [p0] []:=F.binds fun a b c d e f us hl=>xvq us hl (h a b c d e f)
theorem bi_2 {K:Ze}{x q:Str}{st:Stmt}{f:Addr}{fd:FuncData}{p0 p1:Str} (F:Fun K x q st f fd) (h:∀(kV doc pm:Value) (an:Option Addr) (cdv ct:Value) (a0 a1:Value),bindArgs (Ji x q (xbf st) (xa7 st) (xm st) .none kV doc pm an cdv ct) ⟨[a0,a1],[]⟩=pure (List.zip [p0,p1] [a0,a1]):=by intros; rfl):xv K fd [p0,p1] []:=F.binds fun a b c d e f us hl=>xvk us hl (h a b c d e f)
theorem bi_3 {K:Ze}{x q:Str}{st:Stmt}{f:Addr}{fd:FuncData}{p0 p1 p2:Str} (F:Fun K x q st f fd) (h:∀(kV doc pm:Value) (an:Option Addr) (cdv ct:Value) (a0 a1 a2:Value),bindArgs (Ji x q (xbf st) (xa7 st) (xm st) .none kV doc pm an cdv ct) ⟨[a0,a1,a2],[]⟩=pure (List.zip [p0,p1,p2] [a0,a1,a2]):=by intros; rfl):xv K fd [p0,p1,p2] []:=F.binds fun a b c d e f us hl=>xvv us hl (h a b c d e f)
theorem bi_4 {K:Ze}{x q:Str}{st:Stmt}{f:Addr}{fd:FuncData}{p0 p1 p2 p3:Str} (F:Fun K x q st f fd) (h:∀(kV doc pm:Value) (an:Option Addr) (cdv ct:Value) (a0 a1 a2 a3:Value),bindArgs (Ji x q (xbf st) (xa7 st) (xm st) .none kV doc pm an cdv ct) ⟨[a0,a1,a2,a3],[]⟩=pure (List.zip [p0,p1,p2,p3] [a0,a1,a2,a3]):=by intros; rfl):xv K fd [p0,p1,p2,p3] []:=F.binds fun a b c d e f us hl=>xqy us hl (h a b c d e f)
theorem bi_5 {K:Ze}{x q:Str}{st:Stmt}{f:Addr}{fd:FuncData}{p0 p1 p2 p3 p4:Str} (F:Fun K x q st f fd) (h:∀(kV doc pm:Value) (an:Option Addr) (cdv ct:Value) (a0 a1 a2 a3 a4:Value),bindArgs (Ji x q (xbf st) (xa7 st) (xm st) .none kV doc pm an cdv ct) ⟨[a0,a1,a2,a3,a4],[]⟩=pure (List.zip [p0,p1,p2,p3,p4] [a0,a1,a2,a3,a4]):=by intros; rfl):xv K fd [p0,p1,p2,p3,p4] []:=F.binds fun a b c d e f us hl=>xve us hl (h a b c d e f)
theorem txt_mk {w:World}{K:Ze}{h:Heap}{mg:Str->Option Value} (X:K.In h) (G:h.Ns mainGlobals mg) {C_bj C_ae C_t C_b C_w f_au f_y f_ac f_s f_u f_x f_o f_ao f_a1 f_ak f_at f_aj f_a T_a f_h f_f f_n f_g f_v f_d f_m f_i f_j f_c f_e f_q f_drawn f_a3 f_ad f_as f_ax f_am f_p f_l f_r f_ag f_seen f_ar f_aw f_a4 f_al f_af f_ai f_k f_az f_ay f_a0 f_aq f_a5 f_ap f_ab f_av f_ah f_an f_aa f_a2 f_law:Addr}{d_au d_y d_ac d_s d_u d_x d_o d_ao d_a1 d_ak d_at d_aj d_h d_f d_n d_g d_v d_d d_m d_i d_j d_c d_e d_q d_drawn d_a3 d_ad d_as d_ax d_am d_p d_l d_r d_ag d_seen d_ar d_aw d_a4 d_al d_af d_ai d_k d_az d_ay d_a0 d_aq d_a5 d_ap d_ab d_av d_ah d_an d_aa d_a2 d_law:FuncData}{oc_a kv_a dc_a pm_a cd_a ct_a:Value}{od_a an_a:Option Addr}{sl_a:Array (Option Value)}{tk0_a:Tok}{tk1_a:Tok}{toc_a:Value}{tod_a:Option Addr}{tn_a:Nat}{tsl_a:Array (Option Value)}{tkc_bh:Tok}{tkc_be:Tok}{tkc_bf:Tok}{D_z:Addr}{ta0_z tb0_z:Tok}{ta1_z tb1_z:Tok}{ta2_z tb2_z:Tok}{ep_z:Nat}
    (g_bj:gI K "Side" C_bj)
    (g_ae:gI K "LeftSide" C_ae)
    (g_t:gI K "RightSide" C_t)
    (g_b:gI K "Picture" C_b)
    (g_w:gI K "Letters" C_w)
    (a_au:fI K C_bj "__init__" f_au)
    (F_au:Fun K "__init__" "Side.__init__" s_au f_au d_au)
    (i_au:ZG K (.ref f_au)=true)
    (a_y:fI K C_ae "rim" f_y)
    (F_y:Fun K "rim" "LeftSide.rim" s_y f_y d_y)
    (i_y:ZG K (.ref f_y)=true)
    (a_ac:fI K C_ae "way" f_ac)
    (F_ac:Fun K "way" "LeftSide.way" s_ac f_ac d_ac)
    (i_ac:ZG K (.ref f_ac)=true)
    (a_s:fI K C_ae "across" f_s)
    (F_s:Fun K "across" "LeftSide.across" s_s f_s d_s)
    (i_s:ZG K (.ref f_s)=true)
    (a_u:fI K C_t "rim" f_u)
    (F_u:Fun K "rim" "RightSide.rim" s_u f_u d_u)
    (i_u:ZG K (.ref f_u)=true)
    (a_x:fI K C_t "way" f_x)
    (F_x:Fun K "way" "RightSide.way" s_x f_x d_x)
    (i_x:ZG K (.ref f_x)=true)
    (a_o:fI K C_t "across" f_o)
    (F_o:Fun K "across" "RightSide.across" s_o f_o d_o)
    (i_o:ZG K (.ref f_o)=true)
    (a_ao:gI K "side_of" f_ao)
    (F_ao:Fun K "side_of" "side_of" s_ao f_ao d_ao)
    (a_a1:gI K "cells_of" f_a1)
    (F_a1:Fun K "cells_of" "cells_of" s_a1 f_a1 d_a1)
    (a_ak:gI K "is_whole" f_ak)
    (F_ak:Fun K "is_whole" "is_whole" s_ak f_ak d_ak)
    (a_at:gI K "is_name" f_at)
    (F_at:Fun K "is_name" "is_name" s_at f_at d_at)
    (a_aj:fI K C_b "__init__" f_aj)
    (F_aj:Fun K "__init__" "Picture.__init__" s_aj f_aj d_aj)
    (i_aj:ZG K (.ref f_aj)=true)
    (a_a:fI K C_b "put" f_a)
    (l_a:K.lookup f_a=some ⟨oc_a,od_a,.func (Ji "put" "Picture.put" (xbf s_a) (xa7 s_a) (xm s_a) (.ref T_a) kv_a dc_a pm_a an_a cd_a ct_a),sl_a⟩)
    (c_a:YB K cd_a "Picture.put"=true)
    (k_a:Jw K (.ref f_a)=true)
    (i_a:ZG K (.ref f_a)=true)
    (t_a:K.lookup T_a=some ⟨toc_a,tod_a,.seq #[.str "both" tk0_a,.int 1 tk1_a,.none] tn_a,tsl_a⟩)
    (a_h:fI K C_b "open_seat" f_h)
    (F_h:Fun K "open_seat" "Picture.open_seat" s_h f_h d_h)
    (i_h:ZG K (.ref f_h)=true)
    (a_f:fI K C_b "points" f_f)
    (F_f:Fun K "points" "Picture.points" s_f f_f d_f)
    (i_f:ZG K (.ref f_f)=true)
    (a_n:fI K C_b "seats" f_n)
    (F_n:Fun K "seats" "Picture.seats" s_n f_n d_n)
    (i_n:ZG K (.ref f_n)=true)
    (a_g:fI K C_b "place_of" f_g)
    (F_g:Fun K "place_of" "Picture.place_of" s_g f_g d_g)
    (i_g:ZG K (.ref f_g)=true)
    (a_v:fI K C_b "length" f_v)
    (F_v:Fun K "length" "Picture.length" s_v f_v d_v)
    (i_v:ZG K (.ref f_v)=true)
    (a_d:fI K C_b "mirrored" f_d)
    (F_d:Fun K "mirrored" "Picture.mirrored" s_d f_d d_d)
    (i_d:ZG K (.ref f_d)=true)
    (a_m:fI K C_b "turned" f_m)
    (F_m:Fun K "turned" "Picture.turned" s_m f_m d_m)
    (i_m:ZG K (.ref f_m)=true)
    (a_i:fI K C_b "check_name" f_i)
    (F_i:Fun K "check_name" "Picture.check_name" s_i f_i d_i)
    (i_i:ZG K (.ref f_i)=true)
    (a_j:fI K C_b "check_cell" f_j)
    (F_j:Fun K "check_cell" "Picture.check_cell" s_j f_j d_j)
    (i_j:ZG K (.ref f_j)=true)
    (a_c:fI K C_b "check_lines" f_c)
    (F_c:Fun K "check_lines" "Picture.check_lines" s_c f_c d_c)
    (i_c:ZG K (.ref f_c)=true)
    (a_e:fI K C_b "check_seat" f_e)
    (F_e:Fun K "check_seat" "Picture.check_seat" s_e f_e d_e)
    (i_e:ZG K (.ref f_e)=true)
    (a_q:gI K "picture_with" f_q)
    (F_q:Fun K "picture_with" "picture_with" s_q f_q d_q)
    (a_drawn:gI K "drawn" f_drawn)
    (F_drawn:Fun K "drawn" "drawn" xf0 f_drawn d_drawn)
    (a_a3:gI K "row_text" f_a3)
    (F_a3:Fun K "row_text" "row_text" s_a3 f_a3 d_a3)
    (a_ad:gI K "leader_signs" f_ad)
    (F_ad:Fun K "leader_signs" "leader_signs" s_ad f_ad d_ad)
    (a_as:gI K "leader_sign" f_as)
    (F_as:Fun K "leader_sign" "leader_sign" s_as f_as d_as)
    (a_ax:gI K "rim_signs" f_ax)
    (F_ax:Fun K "rim_signs" "rim_signs" s_ax f_ax d_ax)
    (a_am:fI K C_w "__init__" f_am)
    (F_am:Fun K "__init__" "Letters.__init__" s_am f_am d_am)
    (i_am:ZG K (.ref f_am)=true)
    (a_p:fI K C_w "is_rim" f_p)
    (F_p:Fun K "is_rim" "Letters.is_rim" s_p f_p d_p)
    (i_p:ZG K (.ref f_p)=true)
    (a_l:fI K C_w "may_stand" f_l)
    (F_l:Fun K "may_stand" "Letters.may_stand" s_l f_l d_l)
    (i_l:ZG K (.ref f_l)=true)
    (a_r:fI K C_w "may_lie" f_r)
    (F_r:Fun K "may_lie" "Letters.may_lie" s_r f_r d_r)
    (i_r:ZG K (.ref f_r)=true)
    (a_ag:fI K C_w "read" f_ag)
    (F_ag:Fun K "read" "Letters.read" s_ag f_ag d_ag)
    (i_ag:ZG K (.ref f_ag)=true)
    (a_seen:gI K "seen" f_seen)
    (F_seen:Fun K "seen" "seen" xhn f_seen d_seen)
    (a_ar:gI K "check_texts" f_ar)
    (F_ar:Fun K "check_texts" "check_texts" s_ar f_ar d_ar)
    (a_aw:gI K "signs_in" f_aw)
    (F_aw:Fun K "signs_in" "signs_in" s_aw f_aw d_aw)
    (a_a4:gI K "seat_at" f_a4)
    (F_a4:Fun K "seat_at" "seat_at" s_a4 f_a4 d_a4)
    (a_al:gI K "picture_seen" f_al)
    (F_al:Fun K "picture_seen" "picture_seen" s_al f_al d_al)
    (a_af:gI K "check_drawing" f_af)
    (F_af:Fun K "check_drawing" "check_drawing" s_af f_af d_af)
    (a_ai:gI K "_law_cell_at" f_ai)
    (F_ai:Fun K "_law_cell_at" "_law_cell_at" s_ai f_ai d_ai)
    (a_k:gI K "_law_mix" f_k)
    (F_k:Fun K "_law_mix" "_law_mix" s_k f_k d_k)
    (a_az:gI K "_law_frame" f_az)
    (F_az:Fun K "_law_frame" "_law_frame" s_az f_az d_az)
    (a_ay:gI K "_law_seats" f_ay)
    (F_ay:Fun K "_law_seats" "_law_seats" s_ay f_ay d_ay)
    (a_a0:gI K "_law_point" f_a0)
    (F_a0:Fun K "_law_point" "_law_point" s_a0 f_a0 d_a0)
    (a_aq:gI K "_law_points" f_aq)
    (F_aq:Fun K "_law_points" "_law_points" s_aq f_aq d_aq)
    (a_a5:gI K "_law_put" f_a5)
    (F_a5:Fun K "_law_put" "_law_put" s_a5 f_a5 d_a5)
    (a_ap:gI K "_law_picture" f_ap)
    (F_ap:Fun K "_law_picture" "_law_picture" s_ap f_ap d_ap)
    (a_ab:gI K "_law_every_seat" f_ab)
    (F_ab:Fun K "_law_every_seat" "_law_every_seat" s_ab f_ab d_ab)
    (a_av:gI K "_law_pairs" f_av)
    (F_av:Fun K "_law_pairs" "_law_pairs" s_av f_av d_av)
    (a_ah:gI K "_law_mirrored" f_ah)
    (F_ah:Fun K "_law_mirrored" "_law_mirrored" s_ah f_ah d_ah)
    (a_an:gI K "_law_turned" f_an)
    (F_an:Fun K "_law_turned" "_law_turned" s_an f_an d_an)
    (a_aa:gI K "_law_backward" f_aa)
    (F_aa:Fun K "_law_backward" "_law_backward" s_aa f_aa d_aa)
    (a_a2:gI K "_law_same" f_a2)
    (F_a2:Fun K "_law_same" "_law_same" s_a2 f_a2 d_a2)
    (a_law:gI K "law" f_law)
    (F_law:Fun K "law" "law" xmp f_law d_law)
    (kc_ae:Jw K (.ref C_ae)=true)
    (pg_ae:JO K C_ae Str.empty=true)
    (hd_ae:JX K C_ae=true)
    (po_ae:Yl K C_ae=true)
    (sa_ae:fB K C_ae "__setattr__" "object.__setattr__")
    (mk_ae:Y2 K C_ae=true)
    (a_LeftSide_init:fI K C_ae "__init__" f_au)
    (kc_t:Jw K (.ref C_t)=true)
    (pg_t:JO K C_t Str.empty=true)
    (hd_t:JX K C_t=true)
    (po_t:Yl K C_t=true)
    (sa_t:fB K C_t "__setattr__" "object.__setattr__")
    (mk_t:Y2 K C_t=true)
    (a_RightSide_init:fI K C_t "__init__" f_au)
    (kc_b:Jw K (.ref C_b)=true)
    (pg_b:JO K C_b Str.empty=true)
    (hd_b:JX K C_b=true)
    (po_b:Yl K C_b=true)
    (sa_b:fB K C_b "__setattr__" "object.__setattr__")
    (mk_b:Y2 K C_b=true)
    (kc_w:Jw K (.ref C_w)=true)
    (pg_w:JO K C_w Str.empty=true)
    (hd_w:JX K C_w=true)
    (po_w:Yl K C_w=true)
    (sa_w:fB K C_w "__setattr__" "object.__setattr__")
    (mk_w:Y2 K C_w=true)
    (cg:PySem.W.specialIn K (.builtin "object.__class__") "__get__"=some (some (.builtin "getset_descriptor.__get__")))
    (ct:PySem.W.takesIn K (.builtin "object.__class__")=some true)
    (n_bd:fN K C_t "width")
    (n_a8:fN K C_b "placed")
    (n_a6:fN K C_b "height")
    (n_a7:fN K C_b "width")
    (n_bc:fN K C_b "opened")
    (n_ba:fN K C_w "last_column")
    (n_a9:fN K C_w "inner")
    (n_bb:fN K C_w "outer")
    (n_bg:fN K C_ae "width")
    (n_abs:gN K "abs")
    (n_bool:gN K "bool")
    (n_dict:gN K "dict")
    (n_enumerate:gN K "enumerate")
    (n_int:gN K "int")
    (n_isinstance:gN K "isinstance")
    (n_len:gN K "len")
    (n_list:gN K "list")
    (n_min:gN K "min")
    (n_range:gN K "range")
    (n_reversed:gN K "reversed")
    (n_sorted:gN K "sorted")
    (n_str:gN K "str")
    (v_bh:Qz K mainGlobals "MOST_ROWS"=some (some (.int 16 tkc_bh)))
    (v_be:Qz K mainGlobals "MOST_COLUMNS"=some (some (.int 30 tkc_be)))
    (v_bf:Qz K mainGlobals "MOST_POINTS"=some (some (.int 12 tkc_bf)))
    (g_z:gI K "MIRRORED_SIDES" D_z)
    (l_z:K.lookup D_z=some ⟨.type "dict",none,.dict #[⟨hashStr w "left",.str "left" ta0_z,.str "right" tb0_z⟩,⟨hashStr w "right",.str "right" ta1_z,.str "left" tb1_z⟩,⟨hashStr w "both",.str "both" ta2_z,.str "both" tb2_z⟩] ep_z,#[]⟩)
    (ns_z:(D_z == sysModules)=false):∃ t,Txt w K mg t :=
  ⟨⟨f_au,_,f_y,_,f_ac,_,f_s,_,f_u,_,f_x,_,f_o,_,f_ao,_,f_a1,_,f_ak,_,f_at,_,f_aj,_,f_a,_,T_a,f_h,_,f_f,_,f_n,_,f_g,_,f_v,_,f_d,_,f_m,_,f_i,_,f_j,_,f_c,_,f_e,_,f_q,_,f_drawn,_,f_a3,_,f_ad,_,f_as,_,f_ax,_,f_am,_,f_p,_,f_l,_,f_r,_,f_ag,_,f_seen,_,f_ar,_,f_aw,_,f_a4,_,f_al,_,f_af,_,f_ai,_,f_k,_,f_az,_,f_ay,_,f_a0,_,f_aq,_,f_a5,_,f_ap,_,f_ab,_,f_av,_,f_ah,_,f_an,_,f_aa,_,f_a2,_,f_law,_,C_bj,C_ae,C_t,C_b,C_w,D_z⟩,⟨Z4 X G g_ae,Z4 X G g_t,Z4 X G g_b,Z4 X G g_w,F_au,bi_2 F_au,F_y,bi_1 F_y,F_ac,bi_1 F_ac,F_s,bi_2 F_s,F_u,bi_1 F_u,F_x,bi_1 F_x,F_o,bi_2 F_o,Z4 X G a_ao,F_ao,bi_2 F_ao,Z4 X G a_a1,F_a1,bi_4 F_a1,Z4 X G a_ak,F_ak,bi_3 F_ak,Z4 X G a_at,F_at,bi_1 F_at,F_aj,bi_3 F_aj,(xh9 (st:=s_a) l_a c_a k_a),⟨_,.cons (⟨_,rfl⟩) (.cons (⟨_,rfl⟩) (.cons (rfl) (.nil))),(xh9 (st:=s_a) l_a c_a k_a).binds t_a rfl 4 rfl fun _ _ _ _ _ _ us hl=>xqy us hl fun _ _ _ _=>⟨_,rfl,rfl⟩⟩,(xh9 (st:=s_a) l_a c_a k_a).binds t_a rfl 7 rfl fun _ _ _ _ _ _ us hl=>xu0 us hl fun _ _ _ _ _ _ _=>⟨_,rfl,rfl⟩,F_h,bi_3 F_h,F_f,bi_1 F_f,F_n,bi_1 F_n,F_g,bi_2 F_g,F_v,bi_4 F_v,F_d,bi_1 F_d,F_m,bi_1 F_m,F_i,bi_2 F_i,F_j,bi_3 F_j,F_c,bi_4 F_c,F_e,bi_3 F_e,Z4 X G a_q,F_q,bi_4 F_q,Z4 X G a_drawn,F_drawn,bi_2 F_drawn,Z4 X G a_a3,F_a3,bi_3 F_a3,Z4 X G a_ad,F_ad,bi_2 F_ad,Z4 X G a_as,F_as,bi_3 F_as,Z4 X G a_ax,F_ax,bi_2 F_ax,F_am,bi_2 F_am,F_p,bi_2 F_p,F_l,bi_4 F_l,F_r,bi_4 F_r,F_ag,bi_4 F_ag,Z4 X G a_seen,F_seen,bi_1 F_seen,Z4 X G a_ar,F_ar,bi_1 F_ar,Z4 X G a_aw,F_aw,bi_1 F_aw,Z4 X G a_a4,F_a4,bi_1 F_a4,Z4 X G a_al,F_al,bi_2 F_al,Z4 X G a_af,F_af,bi_2 F_af,Z4 X G a_ai,F_ai,bi_2 F_ai,Z4 X G a_k,F_k,bi_2 F_k,Z4 X G a_az,F_az,bi_1 F_az,Z4 X G a_ay,F_ay,bi_2 F_ay,Z4 X G a_a0,F_a0,bi_5 F_a0,Z4 X G a_aq,F_aq,bi_3 F_aq,Z4 X G a_a5,F_a5,bi_2 F_a5,Z4 X G a_ap,F_ap,bi_4 F_ap,Z4 X G a_ab,F_ab,bi_1 F_ab,Z4 X G a_av,F_av,bi_4 F_av,Z4 X G a_ah,F_ah,bi_1 F_ah,Z4 X G a_an,F_an,bi_2 F_an,Z4 X G a_aa,F_aa,bi_1 F_aa,Z4 X G a_a2,F_a2,bi_2 F_a2,Z4 X G a_law,F_law,⟨pg_ae,hd_ae,po_ae,sa_ae⟩,⟨mk_ae,a_LeftSide_init,i_au,kc_ae⟩,⟨a_y,i_y,F_y.kp⟩,⟨a_ac,i_ac,F_ac.kp⟩,⟨a_s,i_s,F_s.kp⟩,⟨pg_t,hd_t,po_t,sa_t⟩,⟨mk_t,a_RightSide_init,i_au,kc_t⟩,⟨a_u,i_u,F_u.kp⟩,⟨a_x,i_x,F_x.kp⟩,⟨a_o,i_o,F_o.kp⟩,⟨pg_b,hd_b,po_b,sa_b⟩,⟨mk_b,a_aj,i_aj,kc_b⟩,⟨a_a,i_a,k_a⟩,⟨a_h,i_h,F_h.kp⟩,⟨a_f,i_f,F_f.kp⟩,⟨a_n,i_n,F_n.kp⟩,⟨a_g,i_g,F_g.kp⟩,⟨a_v,i_v,F_v.kp⟩,⟨a_d,i_d,F_d.kp⟩,⟨a_m,i_m,F_m.kp⟩,⟨a_i,i_i,F_i.kp⟩,⟨a_j,i_j,F_j.kp⟩,⟨a_c,i_c,F_c.kp⟩,⟨a_e,i_e,F_e.kp⟩,⟨pg_w,hd_w,po_w,sa_w⟩,⟨mk_w,a_am,i_am,kc_w⟩,⟨a_p,i_p,F_p.kp⟩,⟨a_l,i_l,F_l.kp⟩,⟨a_r,i_r,F_r.kp⟩,⟨a_ag,i_ag,F_ag.kp⟩,cg,ct,n_bd,n_a8,n_a6,n_a7,n_bc,n_ba,n_a9,n_bb,n_bg,ZW X G n_abs,ZW X G n_bool,ZW X G n_dict,ZW X G n_enumerate,ZW X G n_int,ZW X G n_isinstance,ZW X G n_len,ZW X G n_list,ZW X G n_min,ZW X G n_range,ZW X G n_reversed,ZW X G n_sorted,ZW X G n_str,⟨_,Z4 X G v_bh⟩,⟨_,Z4 X G v_be⟩,⟨_,Z4 X G v_bf⟩,Z4 X G g_z,⟨ns_z,_,_,l_z,.cons rfl ⟨_,rfl⟩ ⟨_,rfl⟩ (.cons rfl ⟨_,rfl⟩ ⟨_,rfl⟩ (.cons rfl ⟨_,rfl⟩ ⟨_,rfl⟩ (.nil))),by decide⟩⟩⟩
theorem mkS {N P:List Str}{sc:Scope} (a:sc.kind=.function:=by rfl) (b:sc.isCoroutine=false:=by rfl) (c:sc.isGenerator=false:=by rfl) (d:N.Nodup:=by decide +kernel) (e:N.take P.length=P:=by rfl) (f:∀ x∈P,sc.names.lookup x=some .local\/sc.names.lookup x=some .cell:=by decide +kernel) (g:∀ y∈sc.names,y.2≠.free:=by decide +kernel):xt N P sc:=⟨a,b,c,d,e,f,g⟩
theorem sc_au:xt ["self", "width"] ["self", "width"] (xm s_au):=mkS
theorem sc_y:xt ["self"] ["self"] (xm s_y):=mkS
theorem sc_ac:xt ["self"] ["self"] (xm s_ac):=mkS
theorem sc_s:xt ["self", "x"] ["self", "x"] (xm s_s):=mkS
theorem sc_u:xt ["self"] ["self"] (xm s_u):=mkS
theorem sc_x:xt ["self"] ["self"] (xm s_x):=mkS
theorem sc_o:xt ["self", "x"] ["self", "x"] (xm s_o):=mkS
theorem sc_ao:xt ["word", "width"] ["word", "width"] (xm s_ao):=mkS
theorem sc_a1:xt ["picture", "name", "side", "row", "x", "y", "toward", "down", "upright", "level"] ["picture", "name", "side", "row"] (xm s_a1):=mkS
theorem sc_ak:xt ["thing", "low", "high"] ["thing", "low", "high"] (xm s_ak):=mkS
theorem sc_at:xt ["thing"] ["thing"] (xm s_at):=mkS
theorem sc_aj:xt ["self", "width", "height"] ["self", "width", "height"] (xm s_aj):=mkS
theorem sc_a:xt ["self", "name", "x", "y", "sides", "low", "high", "highest"] ["self", "name", "x", "y", "sides", "low", "high"] (xm s_a):=mkS
theorem sc_h:xt ["self", "side", "row"] ["self", "side", "row"] (xm s_h):=mkS
theorem sc_f:xt ["self"] ["self"] (xm s_f):=mkS
theorem sc_n:xt ["self"] ["self"] (xm s_n):=mkS
theorem sc_g:xt ["self", "name"] ["self", "name"] (xm s_g):=mkS
theorem sc_v:xt ["self", "name", "side", "row", "x", "y"] ["self", "name", "side", "row"] (xm s_v):=mkS
theorem sc_d:xt ["self", "columns", "points", "seats"] ["self"] (xm s_d):=mkS
theorem sc_m:xt ["self", "rows", "points", "seats"] ["self"] (xm s_m):=mkS
theorem sc_i:xt ["self", "name"] ["self", "name"] (xm s_i):=mkS
theorem sc_j:xt ["self", "x", "y"] ["self", "x", "y"] (xm s_j):=mkS
theorem sc_c:xt ["self", "name", "x", "y", "others", "other"] ["self", "name", "x", "y"] (xm s_c):=mkS
theorem sc_e:xt ["self", "side", "row"] ["self", "side", "row"] (xm s_e):=mkS
theorem sc_q:xt ["width", "height", "points", "seats", "picture", "name", "x", "y", "sides", "low", "high", "side", "row"] ["width", "height", "points", "seats"] (xm s_q):=mkS
theorem xci:xt ["picture", "pairs", "signs", "name", "x", "y", "sides", "low", "high"] ["picture", "pairs"] (xm xf0):=mkS
theorem sc_a3:xt ["signs", "width", "row"] ["signs", "width", "row"] (xm s_a3):=mkS
theorem sc_ad:xt ["picture", "pairs", "signs", "name", "side", "row", "x", "y", "cell"] ["picture", "pairs"] (xm s_ad):=mkS
theorem sc_as:xt ["cell", "x", "row"] ["cell", "x", "row"] (xm s_as):=mkS
theorem sc_ax:xt ["picture", "pairs", "width", "signs", "name", "side", "row"] ["picture", "pairs"] (xm s_ax):=mkS
theorem sc_am:xt ["self", "last_column"] ["self", "last_column"] (xm s_am):=mkS
theorem sc_p:xt ["self", "column"] ["self", "column"] (xm s_p):=mkS
theorem sc_l:xt ["self", "row", "column", "sign"] ["self", "row", "column", "sign"] (xm s_l):=mkS
theorem sc_r:xt ["self", "row", "column", "name", "places"] ["self", "row", "column", "name"] (xm s_r):=mkS
theorem sc_ag:xt ["self", "row", "column", "sign", "letters"] ["self", "row", "column", "sign"] (xm s_ag):=mkS
theorem xcx:xt ["rows", "letters", "row", "column", "sign", "name", "place", "picture", "pairs"] ["rows"] (xm xhn):=mkS
theorem sc_ar:xt ["rows", "row", "text"] ["rows"] (xm s_ar):=mkS
theorem sc_aw:xt ["rows", "found", "row", "text"] ["rows"] (xm s_aw):=mkS
theorem sc_a4:xt ["place", "row", "column"] ["place"] (xm s_a4):=mkS
theorem sc_al:xt ["rows", "letters", "height", "points", "seats"] ["rows", "letters"] (xm s_al):=mkS
theorem sc_af:xt ["rows", "drawing", "row", "column", "sign"] ["rows", "drawing"] (xm s_af):=mkS
theorem sc_ai:xt ["_law_script", "_law_k"] ["_law_script", "_law_k"] (xm s_ai):=mkS
theorem sc_k:xt ["_law_cell", "_law_k", "_law_number"] ["_law_cell", "_law_k"] (xm s_k):=mkS
theorem sc_az:xt ["_law_script", "_law_cell", "_law_width", "_law_height"] ["_law_script"] (xm s_az):=mkS
theorem sc_ay:xt ["_law_script", "_law_height", "_law_cell", "_law_thick", "_law_seats_here", "_law_k", "_law_side", "_law_row"] ["_law_script", "_law_height"] (xm s_ay):=mkS
theorem sc_a0:xt ["_law_cell", "_law_name", "_law_x", "_law_y", "_law_height", "_law_sides", "_law_low", "_law_high", "_law_way"] ["_law_cell", "_law_name", "_law_x", "_law_y", "_law_height"] (xm s_a0):=mkS
theorem sc_aq:xt ["_law_cells", "_law_width", "_law_height", "_law_columns", "_law_rows", "_law_letters", "_law_points_here", "_law_cell", "_law_x", "_law_y", "_law_name"] ["_law_cells", "_law_width", "_law_height"] (xm s_aq):=mkS
theorem sc_a5:xt ["_law_picture_here", "_law_point_here", "_law_name", "_law_x", "_law_y", "_law_sides", "_law_low", "_law_high"] ["_law_picture_here", "_law_point_here"] (xm s_a5):=mkS
theorem sc_ap:xt ["_law_width", "_law_height", "_law_points_here", "_law_seats_here", "_law_picture_here", "_law_side", "_law_row", "_law_point_here"] ["_law_width", "_law_height", "_law_points_here", "_law_seats_here"] (xm s_ap):=mkS
theorem sc_ab:xt ["_law_height"] ["_law_height"] (xm s_ab):=mkS
theorem sc_av:xt ["_law_cell", "_law_points_here", "_law_height", "_law_seats_here", "_law_free", "_law_pairs_here", "_law_k", "_law_point_here", "_law_side", "_law_row"] ["_law_cell", "_law_points_here", "_law_height", "_law_seats_here"] (xm s_av):=mkS
theorem sc_ah:xt ["_law_pairs_here"] ["_law_pairs_here"] (xm s_ah):=mkS
theorem sc_an:xt ["_law_pairs_here", "_law_height"] ["_law_pairs_here", "_law_height"] (xm s_an):=mkS
theorem sc_aa:xt ["_law_rows"] ["_law_rows"] (xm s_aa):=mkS
theorem sc_a2:xt ["_law_one", "_law_other"] ["_law_one", "_law_other"] (xm s_a2):=mkS
theorem xcb:xt ["_law_script", "_law_width", "_law_height", "_law_seats_here", "_law_points_here", "_law_picture_here", "_law_pairs_here", "_law_rows", "_law_other", "_law_one", "_law_mirrored_here", "_law_turned_here"] ["_law_script"] (xm xmp):=mkS
end S76
namespace S76
open PySem L2 XL PyProof.Rows
theorem xb8 {K:Ze}{v:Value}:QE K v v=some true:=if_pos (by simp)
theorem xq {H H':Hp}{p:Addr}{o:HO} (s:Same H H') (hp:H' p=none):Same H (L2.upd H' p o):=fun b u z=>by
 have z':=s b u z;rw[xh (xi z' hp)];exact z'
theorem xq3 {H:Hp}{x dx:Addr}{a b c:HO} (hx:H x=none) (hd:H dx=none):Same H (upd (upd (upd H dx a) x b) x c):=fun y o e=>by
 rw[xh (xi e hx),xh (xi e hx),xh (xi e hd)];exact e
def xac (b:Bool):Str:=if b then "left" else "right"
def xds (t:Adr) (H:Hp) (p:Addr) (b:Bool) (w:Int):Prop:=∃ dx,H p=some (.ins (if b then t.C_ae else t.C_t) dx [("width",.int w)])
def xt0 (K:Ze):Sp:=fun vs H Q _=>∃(p C dx:Addr) (n:Int),vs=[.ref p,.int n]/\H p=some (.ins C dx [])/\Cls K C/\xd0 K C "width"/\Q .non (upd H p (.ins C dx [("width",.int n)]))
def sp1 (v:V):Sp:=fun vs H Q _=>∃ p:V,vs=[p]/\Q v H
def xuz:Sp:=fun vs H Q _=>∃(p:V) (x:V),vs=[p,x]/\Q x H
def xq1 (t:Adr):Sp:=fun vs H Q _=>∃(p:Addr) (n:Int),vs=[.ref p]/\xds t H p false n/\Q (.int (n+1)) H
def xv0 (t:Adr):Sp:=fun vs H Q _=>∃(p:Addr) (n x:Int),vs=[.ref p,.int x]/\xds t H p false n/\Q (.int (n+1-x)) H
def xgq (t:Adr):Sp:=fun vs H Q _=>∃(b:Bool) (n:Int),vs=[.str (xac b),.int n]/\∀ p H',H p=none->xds t H' p b n->Same H H'->Q (.ref p) H'
section
variable {P:Program}{w:World}{K:Ze}{mg:Str->Option Value}{base:Heap}{t:Adr}
theorem ok_au (T:Txt w K mg t):FnOk true P w K mg base (CXo P w) 1 t.f_au t.d_au ["self", "width"] (xt0 K):=by
 refine T.F_au.okn (k:=0) sc_au (fun vs H Q E h=>?_) (fun cdv A outer s H vs Q E hr h=>?_)
 .obtain ⟨p,C,dx,n,rfl,_⟩:=h;rfl
 .obtain ⟨p,C,dx,n,rfl,h⟩:=h;refine⟨_,xk (xdj (pv 0) (pv 1) rfl),?_⟩;obtain⟨hp,c,na,q⟩:=h;exact⟨_,rfl,_,rfl,p,C,dx,[],rfl,hp,c,na,(by show 0<1000; decide),q⟩
theorem ok_y (T:Txt w K mg t):FnOk true P w K mg base (CXo P w) 1 t.f_y t.d_y ["self"] (sp1 (.int 0)):=by
 refine T.F_y.okn (k:=0) sc_y (fun vs H Q E h=>?_) (fun cdv A outer s H vs Q E hr h=>?_)
 .obtain ⟨p,rfl,_⟩:=h;rfl
 .obtain ⟨p,rfl,h⟩:=h;refine⟨_,xk (xz (xo)),?_⟩;exact h
theorem ok_ac (T:Txt w K mg t):FnOk true P w K mg base (CXo P w) 1 t.f_ac t.d_ac ["self"] (sp1 (.int (-1))):=by
 refine T.F_ac.okn (k:=0) sc_ac (fun vs H Q E h=>?_) (fun cdv A outer s H vs Q E hr h=>?_)
 .obtain ⟨p,rfl,_⟩:=h;rfl
 .obtain ⟨p,rfl,h⟩:=h;refine⟨_,xk (xz (xq0 xm9 (xo))),?_⟩;exact⟨1,rfl,h⟩
theorem ok_s (T:Txt w K mg t):FnOk true P w K mg base (CXo P w) 1 t.f_s t.d_s ["self", "x"] (xuz):=by
 refine T.F_s.okn (k:=0) sc_s (fun vs H Q E h=>?_) (fun cdv A outer s H vs Q E hr h=>?_)
 .obtain ⟨p,x,rfl,_⟩:=h;rfl
 .obtain ⟨p,x,rfl,h⟩:=h;refine⟨_,xk (xz (pv 1)),?_⟩;exact⟨_,rfl,h⟩
theorem ok_x (T:Txt w K mg t):FnOk true P w K mg base (CXo P w) 1 t.f_x t.d_x ["self"] (sp1 (.int 1)):=by
 refine T.F_x.okn (k:=0) sc_x (fun vs H Q E h=>?_) (fun cdv A outer s H vs Q E hr h=>?_)
 .obtain ⟨p,rfl,_⟩:=h;rfl
 .obtain ⟨p,rfl,h⟩:=h;refine⟨_,xk (xz (xo)),?_⟩;exact h
theorem ok_u (T:Txt w K mg t):FnOk true P w K mg base (CXo P w) 1 t.f_u t.d_u ["self"] (xq1 t):=by
 refine T.F_u.okn (k:=0) sc_u (fun vs H Q E h=>?_) (fun cdv A outer s H vs Q E hr h=>?_)
 .obtain ⟨p,n,rfl,_⟩:=h;rfl
 .obtain ⟨p,n,rfl,h⟩:=h;refine⟨_,xk (xz (xu xaq (x4 (pv 0) rfl) (xo))),?_⟩;obtain⟨⟨dx,hp⟩,q⟩:=h;exact⟨_,rfl,p,t.C_t,dx,_,_,rfl,hp,T.c_t,T.n_bd,rfl,_,_,rfl,rfl,q⟩
theorem ok_o (T:Txt w K mg t):FnOk true P w K mg base (CXo P w) 1 t.f_o t.d_o ["self", "x"] (xv0 t):=by
 refine T.F_o.okn (k:=0) sc_o (fun vs H Q E h=>?_) (fun cdv A outer s H vs Q E hr h=>?_)
 .obtain ⟨p,n,x,rfl,_⟩:=h;rfl
 .obtain ⟨p,n,x,rfl,h⟩:=h;refine⟨_,xk (xz (xu xcj (xu xaq (x4 (pv 0) rfl) (xo)) (pv 1))),?_⟩;obtain⟨⟨dx,hp⟩,q⟩:=h;exact⟨_,rfl,p,t.C_t,dx,_,_,rfl,hp,T.c_t,T.n_bd,rfl,_,_,rfl,rfl,_,rfl,_,_,rfl,rfl,q⟩
theorem ok_ao (T:Txt w K mg t):FnOk true P w K mg base (CXo P w) 3 t.f_ao t.d_ao ["word", "width"] (xgq t):=by
 refine T.F_ao.okn (k:=2) sc_ao (fun vs H Q E h=>?_) (fun cdv A outer s H vs Q E hr h=>?_)
 .obtain ⟨b,n,rfl,_⟩:=h;rfl
 .obtain ⟨b,n,rfl,h⟩:=h;refine⟨_,xj (xap (xa6 (xab xb4 rfl T.n_isinstance boot_isinstance (xa (pv 0) (xa (xcw (v:=.ty "str") rfl T.n_str boot_str rfl) (xf))))) (xj (xap (xaa xbo (pv 0) (xad) (x9 _)) (xk (xz (xen T.k_ae (ok_au T) (hr.mono (by decide)) rfl T.g_ae T.b_au .nil xg (xa (pv 1) (xf))))) (x8))
   (xk (xap (xaa xbo (pv 0) (xad) (x9 _)) (xk (xz (xen T.k_t (ok_au T) (hr.mono (by decide)) rfl T.g_t T.b_au .nil xg (xa (pv 1) (xf))))) (x8)))) (x8))
   (xk (xaz)),?_⟩
  cases b with
  | true =>
   refine⟨_,rfl,_,_,rfl,.inl ⟨_,_,true,.str _,rfl,xb8,true,rfl,iteT ?_⟩⟩;refine⟨_,rfl,rfl,_,rfl,?_⟩;refine ifP (by decide +kernel) ?_;exact⟨_,rfl,fun x dx hx hdx ne=>⟨x,t.C_ae,dx,n,rfl,xb,T.c_ae,T.n_bg,rfl,h x _ hx ⟨dx,xb⟩ (xq3 hx hdx)⟩⟩
  | false =>
   refine⟨_,rfl,_,_,rfl,.inl ⟨_,_,true,.str _,rfl,xb8,true,rfl,iteT ?_⟩⟩;refine⟨_,rfl,rfl,_,rfl,?_⟩;refine ifN (by decide +kernel) ?_;refine⟨_,rfl,rfl,_,rfl,?_⟩;refine ifP (by decide +kernel) ?_;exact⟨_,rfl,fun x dx hx hdx ne=>⟨x,t.C_t,dx,n,rfl,xb,T.c_t,T.n_bd,rfl,h x _ hx ⟨dx,xb⟩ (xq3 hx hdx)⟩⟩
end
def isNm (x:Str):Bool:=decide (x.length=1)&&(!decide (x.cps.toList<[97])&&!decide ([122]<x.cps.toList))
def xvg:Sp:=fun vs H Q _=>∃(i lo hi:Int),vs=[.int i,.int lo,.int hi]/\lo<=i/\i<=hi/\Q (.bl true) H
def xv4:Sp:=fun vs H Q _=>∃(x:Str),vs=[.str x]/\isNm x=true/\Q (.bl true) H
theorem xma:("a":Str).cps.toList=[97]:=by decide +kernel
theorem xqw:("z":Str).cps.toList=[122]:=by decide +kernel
section
variable {P:Program}{w:World}{K:Ze}{mg:Str->Option Value}{base:Heap}{t:Adr}
theorem ok_ak (T:Txt w K mg t):FnOk true P w K mg base (CXo P w) 1 t.f_ak t.d_ak ["thing", "low", "high"] (xvg):=by
 refine T.F_ak.okn (k:=0) sc_ak (fun vs H Q E h=>?_) (fun cdv A outer s H vs Q E hr h=>?_)
 .obtain ⟨i,lo,hi,rfl,_⟩:=h;rfl
 .obtain ⟨i,lo,hi,rfl,h⟩:=h;refine⟨_,xk (xz (xcd (xab xb4 rfl T.n_isinstance boot_isinstance (xa (pv 0) (xa (xcw (v:=.ty "int") rfl T.n_int boot_int rfl) (xf)))) (xcd (xti (xab xb4 rfl T.n_isinstance boot_isinstance (xa (pv 0) (xa (xcw (v:=.ty "bool") rfl T.n_bool boot_bool rfl) (xf))))) (xcq (xgt xgb xgb (pv 1) (pv 0) (pv 2)))))),?_⟩;obtain⟨c1,c2,q⟩:=h;refine⟨_,rfl,_,_,rfl,.inl ⟨_,_,true,.int i,rfl,xb8,true,rfl,iteT ?_⟩⟩;refine⟨_,rfl,_,_,rfl,.inl ⟨_,_,false,.int i,rfl,(by rfl),false,rfl,true,rfl,iteT ?_⟩⟩;refine⟨_,rfl,_,rfl,_,_,rfl,rfl,_,rfl,ite2 (fun c=>?_) (fun c=>?_)⟩
  .refine ⟨_,rfl,_,_,rfl,rfl,?_⟩;show Q (.bl (decide (i<=hi))) H;rw[decide_eq_true c2];exact q
  .exact absurd (decide_eq_true c1) c
theorem ok_at (T:Txt w K mg t):FnOk true P w K mg base (CXo P w) 1 t.f_at t.d_at ["thing"] (xv4):=by
 refine T.F_at.okn (k:=0) sc_at (fun vs H Q E h=>?_) (fun cdv A outer s H vs Q E hr h=>?_)
 .obtain ⟨x,rfl,_⟩:=h;rfl
 .obtain ⟨x,rfl,h⟩:=h;refine⟨_,xk (xz (xcd (xab xb4 rfl T.n_isinstance boot_isinstance (xa (pv 0) (xa (xcw (v:=.ty "str") rfl T.n_str boot_str rfl) (xf)))) (xcd (xby xbo (xab xb2 rfl T.n_len Yb (xa (pv 0) (xf))) (xo) (x9 _)) (xcq (xgt xd5 xd5 (xad) (pv 0) (xad)))))),?_⟩;obtain⟨hn,q⟩:=h;unfold isNm at hn;simp only[Zy,decide_eq_true_eq,Qf,decide_eq_false_iff_not] at hn;obtain⟨l1,n1,n2⟩:=hn;refine⟨_,rfl,_,_,rfl,.inl ⟨_,_,true,.str x,rfl,xb8,true,rfl,iteT ?_⟩⟩;refine⟨_,rfl,_,rfl,(by rw[l1]; decide),rfl,_,rfl,ite2 (fun c=>?_) (fun c=>?_)⟩
  .refine ⟨_,rfl,_,_,rfl,rfl,_,rfl,ite2 (fun d=>?_) (fun d=>?_)⟩
   .refine ⟨_,_,rfl,rfl,?_⟩;rw[xqw,decide_eq_false n2];exact q
   .rw [xma,decide_eq_false n1] at d;exact absurd rfl d
  .exact absurd (decide_eq_true (by rw[l1]; rfl)) c
end
structure Pt where
 nm:Str
 x:Int
 y:Int
 sd:Str
 lo:Int
 hi:Int
def ptV (p:Pt):List V:=[.int p.x,.int p.y,.str p.sd,.int p.lo,.int p.hi]
inductive Pl (H:Hp):List Pt->List (Key × V)->Prop
 | nil:Pl H [] []
 | cons {p:Pt}{q:Addr}{ps:List Pt}{kvs:List (Key × V)} (h:H q=some (.tup (ptV p))) (r:Pl H ps kvs):Pl H (p::ps) ((.inr p.nm,.ref q)::kvs)
inductive PtsL (H:Hp):List Pt->List Addr->Prop
 | nil:PtsL H [] []
 | cons {p:Pt}{q:Addr}{ps:List Pt}{qs:List Addr} (h:H q=some (.tup (.str p.nm::ptV p))) (r:PtsL H ps qs):PtsL H (p::ps) (q::qs)
theorem xhh {σ:L2.St}{H:Hp}{A B:Hp->Prop} (h:A H):xdd σ H (fun b H4=>if b=true then A H4 else B H4):=by
 show if true=true then A H else B H
 rw[if_pos rfl];exact h
theorem xu2 {i:Nat}{v:V}{σ:L2.St}{H:Hp}{A B:L2.St->Hp->Prop} (h:A (σ.set i (some v)) H):xd7 i v σ H (fun σ' H'=>xdd σ' H' fun b H4=>if b=true then A σ' H4 else B σ' H4):=by
 show if true=true then A (σ.set i (some v)) H else B (σ.set i (some v)) H
 rw[if_pos rfl];exact h
def Tups (H H':Hp):Prop:=∀ b xs,H b=some (.tup xs)->H' b=some (.tup xs)
theorem Pl.keep {H H':Hp} (s:Tups H H') {ps:List Pt}{kvs:List (Key × V)} (h:Pl H ps kvs):Pl H' ps kvs:=by
 induction h with
 | nil=>exact .nil
 | cons h _ ih=>exact .cons (s _ _ h) ih
theorem PtsL.keep {H H':Hp} (s:Tups H H') {ps:List Pt}{qs:List Addr} (h:PtsL H ps qs):PtsL H' ps qs:=by
 induction h with
 | nil=>exact .nil
 | cons h _ ih=>exact .cons (s _ _ h) ih
theorem Pl.len {H:Hp}{ps:List Pt}{kvs:List (Key × V)} (h:Pl H ps kvs):kvs.length=ps.length:=by
 induction h with
 | nil=>rfl
 | cons _ _ ih=>simp[ih]
theorem PtsL.len {H:Hp}{ps:List Pt}{qs:List Addr} (h:PtsL H ps qs):qs.length=ps.length:=by
 induction h with
 | nil=>rfl
 | cons _ _ ih=>simp[ih]
theorem Pl.find {H:Hp}{ps:List Pt}{kvs:List (Key × V)} (h:Pl H ps kvs) {nm:Str}{pt:Pt} (e:ps.find? (fun p=>decide (p.nm=nm))=some pt):∃ q,valV kvs (.inr nm)=some (.ref q)/\H q=some (.tup (ptV pt)):=by
 induction h with
 | nil=>simp at e
 | @cons p q ps kvs h _ ih =>
  by_cases c:p.nm=nm
  .rw [Q1 (by simpa using c)] at e;cases e;exact⟨q,xa2 (by rw[c]),h⟩
  .rw [Q2 (by simpa using c)] at e;obtain⟨q',h1,h2⟩:=ih e;exact⟨q',by rw[xa0 (fun z=>c (Jf.inj z))]; exact h1,h2⟩
theorem Pl.no {H:Hp}{ps:List Pt}{kvs:List (Key × V)} (h:Pl H ps kvs) {nm:Str} (e:∀ p∈ps,p.nm≠nm):valV kvs (.inr nm)=none:=by
 induction h with
 | nil=>rfl
 | @cons p q ps kvs h _ ih =>
  rw[xa0 (fun z=>e p Z0 (Jf.inj z))];exact ih fun p' hp=>e p' (Z1 _ hp)
theorem Pl.get {H:Hp}{ps:List Pt}{kvs:List (Key × V)} (h:Pl H ps kvs) {i:Nat}{k:Key}{x:V} (e:kvs[i]?=some (k,x)):∃ p q,ps[i]?=some p/\k=.inr p.nm/\x=.ref q/\H q=some (.tup (ptV p)):=by
 induction h generalizing i with
 | nil=>simp at e
 | @cons p q ps kvs h _ ih =>
  cases i with
  | zero =>
   simp at e;exact⟨p,q,rfl,e.1.symm,e.2.symm,h⟩
  | succ j=>exact ih (by simpa using e)
theorem PtsL.get {H:Hp}{ps:List Pt}{qs:List Addr} (h:PtsL H ps qs) {i:Nat}{q:Addr} (e:qs[i]?=some q):∃ p,ps[i]?=some p/\H q=some (.tup (.str p.nm::ptV p)):=by
 induction h generalizing i with
 | nil=>simp at e
 | @cons p q' ps qs h _ ih =>
  cases i with
  | zero =>
   simp at e;subst e;exact⟨p,rfl,h⟩
  | succ j=>exact ih (by simpa using e)
theorem Pl.snoc {H:Hp}{ps:List Pt}{kvs:List (Key × V)} (h:Pl H ps kvs) {p:Pt}{q:Addr} (e:H q=some (.tup (ptV p))):Pl H (ps++[p]) (kvs++[(.inr p.nm,.ref q)]):=by
 induction h with
 | nil=>exact .cons e .nil
 | cons h _ ih=>exact .cons h ih
theorem PtsL.snoc {H:Hp}{ps:List Pt}{qs:List Addr} (h:PtsL H ps qs) {p:Pt}{q:Addr} (e:H q=some (.tup (.str p.nm::ptV p))):PtsL H (ps++[p]) (qs++[q]):=by
 induction h with
 | nil=>exact .cons e .nil
 | cons h _ ih=>exact .cons h ih
abbrev picF (w h:Int) (dp do_:Addr):List (Str × V):=[("width",.int w),("height",.int h),("placed",.ref dp),("opened",.ref do_)]
structure Pic (t:Adr) (H:Hp) (a dp do_:Addr) (w h:Int) (ps:List Pt):Prop where
 ins:∃ dx,H a=some (.ins t.C_b dx (picF w h dp do_))
 pl:∃ kvs,H dp=some (.dK kvs)/\Pl H ps kvs
 w1:1<=w
 w2:w<=30
 h1:1<=h
 h2:h<=16
 len:ps.length<=12
theorem Same.tups {H H':Hp} (s:Same H H'):Tups H H':=fun b xs e=>s b _ e
theorem Pic.same {t:Adr}{H H':Hp}{a dp do_:Addr}{w h:Int}{ps:List Pt} (s:Same H H') (p:Pic t H a dp do_ w h ps):Pic t H' a dp do_ w h ps :=
 ⟨let ⟨dx,e⟩:=p.ins; ⟨dx,s _ _ e⟩,let ⟨kvs,e,q⟩:=p.pl; ⟨kvs,s _ _ e,q.keep (Same.tups s)⟩,p.w1,p.w2,p.h1,p.h2,p.len⟩
theorem xan {w h:Int}{dp do_:Addr}{m:Str} (e:((["width", "height", "placed", "opened"]:List Str).all fun k=>!(m == k))=true):(picF w h dp do_).lookup m=none:=by
 simp only[Qi,List.all_nil,Zy,Qf] at e;obtain⟨e1,e2,e3,e4,_⟩:=e;unfold picF;rw[Z2,e1];show Ja m [("height",V.int h),("placed",V.ref dp),("opened",V.ref do_)]=none;rw[Z2,e2];show Ja m [("placed",V.ref dp),("opened",V.ref do_)]=none;rw[Z2,e3];show Ja m [("opened",V.ref do_)]=none;rw[Z2,e4];rfl
theorem lkW {w h:Int}{dp do_:Addr}:(picF w h dp do_).lookup ("width":Str)=some (.int w):=by
 unfold picF;rw[Z2,show (("width":Str) == "width")=true from by decide +kernel]
theorem lkH {w h:Int}{dp do_:Addr}:(picF w h dp do_).lookup ("height":Str)=some (.int h):=by
 unfold picF;rw[Z2,show (("height":Str) == "width")=false from by decide +kernel];show Ja ("height":Str) [("height",V.int h),("placed",V.ref dp),("opened",V.ref do_)]=_;rw[Z2,show (("height":Str) == "height")=true from by decide +kernel]
theorem lkP {w h:Int}{dp do_:Addr}:(picF w h dp do_).lookup ("placed":Str)=some (.ref dp):=by
 unfold picF;rw[Z2,show (("placed":Str) == "width")=false from by decide +kernel];show Ja ("placed":Str) [("height",V.int h),("placed",V.ref dp),("opened",V.ref do_)]=_;rw[Z2,show (("placed":Str) == "height")=false from by decide +kernel];show Ja ("placed":Str) [("placed",V.ref dp),("opened",V.ref do_)]=_;rw[Z2,show (("placed":Str) == "placed")=true from by decide +kernel]
def xsg (t:Adr):Sp:=fun vs H Q _=>∃(p dx:Addr) (w h:Int),vs=[.ref p,.int w,.int h]/\H p=some (.ins t.C_b dx [])/\1<=w/\w<=30/\1<=h/\h<=16 /\
 ∀ H' dp do_,H dp=none->H do_=none->(∀ b u,b≠p->H b=some u->H' b=some u)->Pic t H' p dp do_ w h []->H' do_=some (.dT [])->Q .non H'
def spCN (t:Adr):Sp:=fun vs H Q _=>∃(a dp do_:Addr) (pw ph:Int) (ps:List Pt) (nm:Str) (pt:Pt),vs=[.ref a,.str nm]/\Pic t H a dp do_ pw ph ps/\isNm nm=true/\ps.find? (fun p=>decide (p.nm=nm))=some pt/\Q .non H
def spCC (t:Adr):Sp:=fun vs H Q _=>∃(a dp do_:Addr) (pw ph:Int) (ps:List Pt) (x y:Int),vs=[.ref a,.int x,.int y]/\Pic t H a dp do_ pw ph ps/\1<=x/\x<=pw/\1<=y/\y<=ph/\Q .non H
def xvi (t:Adr):Sp:=fun vs H Q _=>∃(a dp do_:Addr) (pw ph:Int) (ps:List Pt),vs=[.ref a]/\Pic t H a dp do_ pw ph ps/\∀ H' l qs,Same H H'->H' l=some (.lst (qs.map V.ref))->PtsL H' ps qs->Q (.ref l) H'
def spCL (t:Adr):Sp:=fun vs H Q _=>∃(a dp do_:Addr) (pw ph:Int) (ps:List Pt) (nm:Str) (x y:Int),vs=[.ref a,.str nm,.int x,.int y]/\Pic t H a dp do_ pw ph ps/\(∀ p∈ps,p.nm≠nm->p.x≠x/\p.y≠y)/\∀ H',Same H H'->Q .non H'
def spCS (t:Adr):Sp:=fun vs H Q _=>∃(a dp do_:Addr) (pw ph:Int) (ps:List Pt) (b:Bool) (r:Int),vs=[.ref a,.str (xac b),.int r]/\Pic t H a dp do_ pw ph ps/\1<=r/\r<=ph/\∀ H',Same H H'->Q .non H'
def xq2 (t:Adr):Sp:=fun vs H Q _=>∃(a dp do_:Addr) (pw ph:Int) (ps:List Pt) (nm:Str) (x y:Int) (sd:Str) (lo hi:Int) (hv:V),vs=[.ref a,.str nm,.int x,.int y,.str sd,.int lo,hv]/\Pic t H a dp do_ pw ph ps /\
 ((hv=.non/\hi=ph)\/hv=.int hi)/\isNm nm=true/\1<=x/\x<=pw/\1<=y/\y<=ph/\(sd="left"\/sd="right"\/sd="both")/\1<=lo/\lo<=hi/\hi<=ph/\(∀ p∈ps,p.nm≠nm/\p.x≠x/\p.y≠y)/\ps.length<12 /\
 ∀ H',(∀ b u,b≠dp->H b=some u->H' b=some u)->Pic t H' a dp do_ pw ph (ps++[⟨nm,x,y,sd,lo,hi⟩])->Q .non H'
def xvz (t:Adr):Sp:=fun vs H Q _=>∃(a dp do_:Addr) (pw ph:Int) (ps:List Pt) (nm:Str) (pt:Pt),vs=[.ref a,.str nm]/\Pic t H a dp do_ pw ph ps/\isNm nm=true/\ps.find? (fun p=>decide (p.nm=nm))=some pt /\
 ∀ H' q,Same H H'->H' q=some (.tup [.int pt.x,.int pt.y])->Q (.ref q) H'
def lenI (w x y:Int) (b:Bool) (r:Int):Int:=(if b then x else w+1-x)+(if y-r<0 then -(y-r) else y-r)
def xvm (t:Adr):Sp:=fun vs H Q _=>∃(a dp do_:Addr) (pw ph:Int) (ps:List Pt) (nm:Str) (pt:Pt) (b:Bool) (r:Int),vs=[.ref a,.str nm,.str (xac b),.int r]/\Pic t H a dp do_ pw ph ps/\isNm nm=true/\ps.find? (fun p=>decide (p.nm=nm))=some pt/\1<=r/\r<=ph /\
 ∀ H',Same H H'->Q (.int (lenI pw pt.x pt.y b r)) H'
section
variable {P:Program}{w:World}{K:Ze}{mg:Str->Option Value}{base:Heap}{t:Adr}
theorem ok_aj (T:Txt w K mg t):FnOk true P w K mg base (CXo P w) 2 t.f_aj t.d_aj ["self", "width", "height"] (xsg t):=by
 refine T.F_aj.okn (k:=1) sc_aj (fun vs H Q E h=>?_) (fun cdv A outer s H vs Q E hr h=>?_)
 .obtain ⟨p,dx,pw,ph,rfl,_⟩:=h;rfl
 .obtain ⟨p,dx,pw,ph,rfl,h⟩:=h;refine⟨_,xj (xap (PW.pt (xc0 (xbe (xa6 (xr (ok_ak T) (hr.mono (by decide)) rfl T.g_ak T.F_ak.kp T.b_ak .nil xg (xa (pv 1) (xa (xo) (xa (xcy (v:=.int 30) rfl T.v_be.choose_spec ⟨_,rfl⟩) (xf))))))) (xcp (xbe (xa6 (xr (ok_ak T) (hr.mono (by decide)) rfl T.g_ak T.F_ak.kp T.b_ak .nil xg (xa (pv 2) (xa (xo) (xa (xcy (v:=.int 16) rfl T.v_bh.choose_spec ⟨_,rfl⟩) (xf)))))))))) (xk (xaz)) (x8))
   (xj (xdj (pv 0) (pv 1) rfl)
   (xj (xdj (pv 0) (pv 2) rfl)
   (xj (xdj (pv 0) (xgu) rfl)
   (xk (xdj (pv 0) (xjk) rfl))))),?_⟩
  obtain⟨hp,w1,w2,h1,h2,q⟩:=h;refine⟨_,rfl,pw,1,30,rfl,w1,w2,true,rfl,iteF ⟨_,rfl,ph,1,16,rfl,h1,h2,true,rfl,iteF ?_⟩⟩;refine⟨_,rfl,_,rfl,p,_,dx,_,rfl,hp,T.c_b,T.n_a7,(by show 0<1000; decide),?_⟩;refine⟨_,rfl,_,rfl,p,_,dx,_,rfl,xb,T.c_b,T.n_a6,(by show 1<1000; decide),?_⟩;rw[xef];refine fun dp hdp=>?_;have n1:p≠dp:=xi xb hdp;refine⟨_,rfl,p,_,dx,_,rfl,(by rw[xh n1]; exact xb),T.c_b,T.n_a8,(by show 2<1000; decide),fun do_ hdo=>?_⟩;have n2:p≠do_:=xi xb hdo;have n3:dp≠do_:=xi (by rw[xh (ZE n1)]; exact xb) hdo;refine⟨_,rfl,p,_,dx,_,rfl,(by rw[xh n2]; exact xb),T.c_b,T.n_bc,(by show 3<1000; decide),?_⟩;rw[xh (ZE n1)] at hdp;have hdo':H do_=none:=by
   have z:=hdo;rw[xh (ZE n2),xh (ZE n3),xh (ZE n2)] at z;exact z
  refine q _ dp do_ hdp hdo' (fun b u nb e=>?_) ⟨⟨dx,xb⟩,⟨[],?_,.nil⟩,w1,w2,h1,h2,ZZ _⟩ ?_
  .have c1:b≠dp:=xi e hdp;have c2:b≠do_:=fun z=>by
    subst z;rw[xh nb,xh c1,xh nb] at hdo;rw[e] at hdo;cases hdo
   rw[xh nb,xh c2,xh nb,xh c1,xh nb];exact e
  .rw [xh (ZE n1),xh n3,xh (ZE n1)];exact xb
  .rw [xh (ZE n2)];exact xb
theorem ok_i (T:Txt w K mg t):FnOk true P w K mg base (CXo P w) 2 t.f_i t.d_i ["self", "name"] (spCN t):=by
 refine T.F_i.okn (k:=1) sc_i (fun vs H Q E h=>?_) (fun cdv A outer s H vs Q E hr h=>?_)
 .obtain ⟨a,dp,do_,pw,ph,ps,nm,pt,rfl,_⟩:=h;rfl
 .obtain ⟨a,dp,do_,pw,ph,ps,nm,pt,rfl,h⟩:=h;refine⟨_,xk (xap (PW.pt (xc0 (xbe (xa6 (xr (ok_at T) (hr.mono (by decide)) rfl T.g_at T.F_at.kp T.b_at .nil xg (xa (pv 1) (xf))))) (xcp (xep (xd4 (xbh hr) (pv 1) (x4 (pv 0) rfl)))))) (xk (xaz)) (x8)),?_⟩;obtain⟨pic,hn,hf,q⟩:=h;obtain⟨⟨dx,hp⟩,⟨kvs,hk,pl⟩,_⟩:=id pic;obtain⟨q0,e,_⟩:=pl.find hf;exact⟨_,rfl,nm,rfl,hn,true,rfl,iteF ⟨_,rfl,_,rfl,a,_,dx,_,_,rfl,hp,T.c_b,T.n_a8,lkP,dp,some (.ref q0),rfl,(by rw[<- e]; exact DGet.k (k:=.inr nm) hk),false,rfl,iteF q⟩⟩
theorem ok_j (T:Txt w K mg t):FnOk true P w K mg base (CXo P w) 2 t.f_j t.d_j ["self", "x", "y"] (spCC t):=by
 refine T.F_j.okn (k:=1) sc_j (fun vs H Q E h=>?_) (fun cdv A outer s H vs Q E hr h=>?_)
 .obtain ⟨a,dp,do_,pw,ph,ps,x,y,rfl,_⟩:=h;rfl
 .obtain ⟨a,dp,do_,pw,ph,ps,x,y,rfl,h⟩:=h;refine⟨_,xk (xap (PW.pt (xc0 (xbe (xa6 (xr (ok_ak T) (hr.mono (by decide)) rfl T.g_ak T.F_ak.kp T.b_ak .nil xg (xa (pv 1) (xa (xo) (xa (x4 (pv 0) rfl) (xf))))))) (xcp (xbe (xa6 (xr (ok_ak T) (hr.mono (by decide)) rfl T.g_ak T.F_ak.kp T.b_ak .nil xg (xa (pv 2) (xa (xo) (xa (x4 (pv 0) rfl) (xf)))))))))) (xk (xaz)) (x8)),?_⟩;obtain⟨pic,x1,x2,y1,y2,q⟩:=h;obtain⟨⟨dx,hp⟩,_,_⟩:=id pic;exact⟨_,rfl,_,rfl,a,_,dx,_,_,rfl,hp,T.c_b,T.n_a7,lkW,x,1,pw,rfl,x1,x2,true,rfl,iteF ⟨_,rfl,_,rfl,a,_,dx,_,_,rfl,hp,T.c_b,T.n_a6,lkH,y,1,ph,rfl,y1,y2,true,rfl,iteF q⟩⟩
theorem ok_f (T:Txt w K mg t):FnOk true P w K mg base (CXo P w) 1 t.f_f t.d_f ["self"] (xvi t):=by
 refine T.F_f.okn (k:=0) sc_f (fun vs H Q E h=>?_) (fun cdv A outer s H vs Q E hr h=>?_)
 .obtain ⟨a,dp,do_,pw,ph,ps,rfl,_⟩:=h;rfl
 .obtain ⟨a,dp,do_,pw,ph,ps,rfl,h⟩:=h;refine⟨_,xk (xz (xry (xbt rfl (xay (zs:=["name", "rest"]) (ys:=[]) (fr:=[]) (N0:=["self"]) (sc0:=xm s_f) (by decide +kernel) rfl rfl rfl) (xgv (x4 (pv 0) rfl)) (fun _ _ _ _ _ ow nd=>(xar rfl (xp (xn (i:=0) nd rfl (Zo (ow _ (by simp))) (ZS (ow _ (by simp)))) (xp (xn (i:=1) nd rfl (Zo (ow _ (by simp))) (ZS (ow _ (by simp)))) (xag))):PG _ _ (gTup K 2 _))) (xbz (x5 (by decide) (x5 (by decide) (xbl)))) (fun _ _ _ _ _=>xa5) (fun _ _ _ _ _=>xu (r:=xms K) xll (xal (xa (pv 0) (xf))) (pv 1))))),?_⟩;obtain⟨pic,q⟩:=h;obtain⟨⟨dx,hp⟩,⟨kvs,hk,pl⟩,_⟩:=id pic;refine⟨_,rfl,a,_,dx,_,_,rfl,hp,T.c_b,T.n_a8,lkP,dp,kvs,rfl,hk,fun ob nf l hl=>?_⟩;have nl:l≠dp:=fun z=>by
   rw[z,xb] at hl;cases hl
  have hl0:H l=none:=by rwa [xh nl] at hl
  refine xbw kvs.length (fun i xs H2=>∃ qs:List Addr,xs=qs.map V.ref/\qs.length<=i/\H2 dp=some (.frz ob (.dK kvs))/\(∀ b u,b≠dp->H b=some u->H2 b=some u)/\H2 l=some (.lst xs)/\PtsL H2 (ps.take i) qs) ?_ ?_ ?_ ?_
  .refine ⟨[],rfl,Zj _,?_,fun b u nb e=>?_,xb,by simpa using PtsL.nil⟩
   .rw [xh (ZE nl)];exact xb
   .rw [xh (xi e hl0),xh nb];exact e
  .rintro i xs H2 lt ⟨qs,_,_,hd,_⟩;exact⟨hd,lt⟩
  .rintro i xs H2 v H3 lt ⟨qs,rfl,ql,hd,sm,hl2,pts⟩ ⟨p,k,x,hx,rfl,hpn,rfl⟩ N hN;obtain⟨pt,q0,hpt,rfl,rfl,hq0⟩:=pl.get hx;have e0:H2 q0=some (.tup (ptV pt)):=sm _ _ (xae hq0 hk (fun z=>nomatch z)) hq0;refine⟨p,_,rfl,SqT.of xb,rfl,_,_,rfl,_,_,rfl,rfl,?_⟩;refine xhh ?_;have n0:q0≠p:=xi e0 hpn;refine⟨_,rfl,(by show 1<=sizeLine; decide),fun p1 h1=>⟨_,rfl,p1,q0,_,ptV pt,rfl,rfl,SqT.of xb,SqT.of ?_,(by simp),(by show 1+5<=sizeLine; decide),(fun z=>nomatch z),fun _ p2 h2=>?_⟩⟩
   .rw [xh (xi (by rw[xh n0]; exact e0) h1),xh n0];exact e0
   have up:∀ b u,H2 b=some u->(upd (upd (upd H2 p (.tup [.str pt.nm,.ref q0])) p1 (.tup [.str pt.nm])) p2 (.tup ([.str pt.nm]++ptV pt))) b=some u:=fun b u e=>by
    have c1:b≠p:=xi e hpn;have e1:upd H2 p (.tup [.str pt.nm,.ref q0]) b=some u:=by rw[xh c1]; exact e
    have c2:b≠p1:=xi e1 h1;have e2:upd (upd H2 p (.tup [.str pt.nm,.ref q0])) p1 (.tup [.str pt.nm]) b=some u:=by rw[xh c2]; exact e1
    rw[xh (xi e2 h2)];exact e2
   have c3:l≠p2:=xi (show upd (upd H2 p (.tup [.str pt.nm,.ref q0])) p1 (.tup [.str pt.nm]) l=some (.lst (qs.map V.ref)) from by
    have c1:l≠p:=xi hl2 hpn;have e1:upd H2 p (.tup [.str pt.nm,.ref q0]) l=some (.lst (qs.map V.ref)):=by rw[xh c1]; exact hl2
    rw[xh (xi e1 h1)];exact e1) h2
   have tk:ps.take (i+1)=ps.take i++[pt]:=by
    rw[ZI,hpt];rfl
   have ll:qs.length<sizeLine:=ZV (by have:=pl.len; have:=pic.len; omega:qs.length<13) (by decide);refine⟨up _ _ hl2,by rw[Za]; exact ll,hN _ _ ⟨qs++[p2],by simp,by simp; omega,?_,fun b u nb e=>?_,xb,?_⟩⟩
   .rw [xh (ZE nl)];exact up _ _ hd
   .have e2:=up _ _ (sm b u nb e);rw[xh (xi e hl0)];exact e2
   .rw [tk];refine PtsL.snoc (PtsL.keep (fun b xs e=>?_) pts) ?_
    .have e2:=up _ _ e;rw[xh (xae e2 (up _ _ hl2) (fun z=>nomatch z))];exact e2
    .rw [xh (ZE c3)];exact xb
  .rintro xs H2 ⟨qs,rfl,_,hd,sm,hl2,pts⟩;refine⟨⟨hd,Zj _⟩,dp,ob,_,hd,nf,q _ l qs (fun b u e=>?_) ?_ (PtsL.keep (fun b xs e=>?_) (by rw[pl.len,Jz] at pts; exact pts))⟩
   .by_cases c:b=dp
    .subst c;rw[hk] at e;cases e;exact xb
    .rw [xh c];exact sm b u c e
   .rw [xh nl];exact hl2
   .rw [xh (xae e hd (fun z=>nomatch z))];exact e
theorem ok_c (T:Txt w K mg t):FnOk true P w K mg base (CXo P w) 2 t.f_c t.d_c ["self", "name", "x", "y"] (spCL t):=by
 refine T.F_c.okn (k:=1) sc_c (fun vs H Q E h=>?_) (fun cdv A outer s H vs Q E hr h=>?_)
 .obtain ⟨a,dp,do_,pw,ph,ps,nm,x,y,rfl,_⟩:=h;rfl
 .obtain ⟨a,dp,do_,pw,ph,ps,nm,x,y,rfl,h⟩:=h;refine⟨_,xj (xbm rfl (xay (zs:=["other"]) (ys:=["name"]) (fr:=[1]) (N0:=["self", "name", "x", "y", "others", "other"]) (sc0:=xm s_c) (by decide +kernel) rfl rfl rfl) (xav (xaf (pv 0) T.c_b T.m_f (ok_f T) (hr.mono (by decide)) T.b_f .nil xg)) (fun _ _ _ _ _ ow nd=>xn (i:=0) nd rfl (Zo (ow _ (by simp))) (ZS (ow _ (by simp)))) (xbu (by decide)) (fun _ _ _ _ _=>xhz (xaa xfu (xba (r:=rIxT K) xbd (pv 0) (xo) (fun _ _=>rfl)) (pv 1) (x9 _))) (fun _ _ _ _ _=>pv 0) (j:=4) rfl (Zo rfl))
   (xj (xa9 ZM rfl (xav (pv 4)) (xn (i:=5) sc_c.nd rfl (Zo rfl)) (xk (xap (xaa xbo (xba xbd (pv 5) (xo) (fun _ _=>rfl)) (pv 2) (x9 _)) (xk (xaz)) (x8))))
   (xk (xa9 ZM rfl (xav (pv 4)) (xn (i:=5) sc_c.nd rfl (Zo rfl)) (xk (xap (xaa xbo (xba xbd (pv 5) (xo) (fun _ _=>rfl)) (pv 3) (x9 _)) (xk (xaz)) (x8)))))),?_⟩
  obtain⟨pic,no,q⟩:=h;obtain⟨⟨dx,hp⟩,⟨kvs,hk,pl⟩,_⟩:=id pic;refine⟨_,rfl,a,dx,_,rfl,hp,xan (by decide +kernel),a,dp,do_,pw,ph,ps,rfl,pic,fun H1 l1 qs s1 hl1 pt1=>⟨l1,rfl,⟨_,SqL.of hl1⟩,fun l hl=>?_⟩⟩;refine xbw qs.length (fun i xs H2=>∃ os:List Addr,xs=os.map V.ref/\os.length<=i/\Same H1 H2/\H2 l=some (.lst xs)/\∀ o∈os,∃ p∈ps,p.nm≠nm/\H1 o=some (.tup (.str p.nm::ptV p))) ?_ ?_ ?_ ?_
  .exact ⟨[],rfl,Zj _,xq (Same.refl _) hl,xb,fun o z=>nomatch z⟩
  .rintro i xs H2 lt ⟨os,_,_,s2,_⟩;exact⟨_,.ref qs[i],SqL.of (s2 _ _ hl1),by simp[lt]⟩
  .rintro i xs H2 v H3 lt ⟨os,rfl,ol,s2,hl2,hos⟩ ⟨rfl,hv⟩ N hN;have hv':=hv _ (SqL.of (s2 _ _ hl1));rw[Zf] at hv';obtain⟨o,ho,rfl⟩:=Zi.mp hv';obtain⟨p,hpp,ep⟩:=pt1.get ho;refine⟨_,rfl,o,_,0,_,rfl,rfl,SqT.of (s2 _ _ ep),rfl,_,rfl,rfl,_,rfl,ite2 (fun c=>?_) (fun c=>?_)⟩
   .have cn:p.nm≠nm:=fun z=>by
     rw[z] at c;simp at c
    refine⟨_,rfl,hl2,(by rw[Za]; exact ZV (by have:=pt1.len; have:=pic.len; omega:os.length<13) (by decide)),hN _ _ ⟨os++[o],by simp,by simp; omega,?_,xb,?_⟩⟩
    .intro b u e
     by_cases cb:b=l
     .subst cb;rw[e] at hl;cases hl
     .rw [xh cb];exact s2 b u e
    .intro o' ho'
     rcases Z8.mp ho' with z|z
     .exact hos o' z
     .have:=Zw.mp z;subst this;exact⟨p,Zp hpp,cn,ep⟩
   .exact hN _ _ ⟨os,rfl,by omega,s2,hl2,hos⟩
  .rintro xs H2 ⟨os,rfl,ol,s2,hl2,hos⟩;refine⟨⟨_,SqL.of (s2 _ _ hl1),by simp⟩,?_⟩;have loop:∀(o:Addr),o∈os->∃ p∈ps,p.nm≠nm/\H2 o=some (.tup (.str p.nm::ptV p)):=fun o ho=>by
    obtain⟨p,h1,h2,h3⟩:=hos o ho;exact⟨p,h1,h2,s2 _ _ h3⟩
   refine⟨_,rfl,l,rfl,⟨_,SqL.of hl2⟩,xbi (xs:=os.map V.ref) (Pv:=fun i σ H3=>∃ v5:Option V,σ=[some (.ref a),some (.str nm),some (.int x),some (.int y),some (.ref l),v5]/\H2=H3) ⟨_,rfl,rfl⟩ (fun _ _ _ _ ⟨_,_,z⟩=>by rw[<- z]; exact SqL.of hl2) ?_ ?_⟩
   .rintro i v σ _ hv ⟨v5,rfl,rfl⟩;rw[Zf] at hv;obtain⟨o,ho,rfl⟩:=Zi.mp hv;obtain⟨p,m1,m2,m3⟩:=loop o (Zp ho);refine⟨_,rfl,o,_,1,_,rfl,rfl,SqT.of m3,rfl,_,rfl,rfl,_,rfl,ifN (decide_eq_false fun z=>(no p m1 m2).1 (V.int.inj z)) ⟨_,rfl,rfl⟩⟩
   .rintro σ _ ⟨v5,rfl,rfl⟩;refine⟨_,rfl,l,rfl,⟨_,SqL.of hl2⟩,xbi (xs:=os.map V.ref) (Pv:=fun i σ H3=>∃ v5:Option V,σ=[some (.ref a),some (.str nm),some (.int x),some (.int y),some (.ref l),v5]/\H2=H3) ⟨_,rfl,rfl⟩ (fun _ _ _ _ ⟨_,_,z⟩=>by rw[<- z]; exact SqL.of hl2) ?_ ?_⟩
    .rintro i v σ _ hv ⟨v5,rfl,rfl⟩;rw[Zf] at hv;obtain⟨o,ho,rfl⟩:=Zi.mp hv;obtain⟨p,m1,m2,m3⟩:=loop o (Zp ho);refine⟨_,rfl,o,_,2,_,rfl,rfl,SqT.of m3,rfl,_,rfl,rfl,_,rfl,ifN (decide_eq_false fun z=>(no p m1 m2).2 (V.int.inj z)) ⟨_,rfl,rfl⟩⟩
    .rintro σ _ ⟨v5,rfl,rfl⟩;exact q _ (s1.trans s2)
theorem ok_e (T:Txt w K mg t):FnOk true P w K mg base (CXo P w) 4 t.f_e t.d_e ["self", "side", "row"] (spCS t):=by
 refine T.F_e.okn (k:=3) sc_e (fun vs H Q E h=>?_) (fun cdv A outer s H vs Q E hr h=>?_)
 .obtain ⟨a,dp,do_,pw,ph,ps,b,r,rfl,_⟩:=h;rfl
 .obtain ⟨a,dp,do_,pw,ph,ps,b,r,rfl,h⟩:=h;refine⟨_,xj (xax (xr (ok_ao T) (hr.mono (by decide)) rfl T.g_ao T.F_ao.kp T.b_ao .nil xg (xa (pv 1) (xa (x4 (pv 0) rfl) (xf)))))
   (xk (xap (xbe (xa6 (xr (ok_ak T) (hr.mono (by decide)) rfl T.g_ak T.F_ak.kp T.b_ak .nil xg (xa (pv 2) (xa (xo) (xa (x4 (pv 0) rfl) (xf))))))) (xk (xaz)) (x8))),?_⟩
  obtain⟨pic,r1,r2,q⟩:=h;obtain⟨⟨dx,hp⟩,_,_⟩:=id pic;refine⟨_,rfl,_,rfl,a,_,dx,_,_,rfl,hp,T.c_b,T.n_a7,lkW,b,pw,rfl,fun p H1 hp1 sd1 s1=>?_⟩;exact⟨_,rfl,_,rfl,a,_,dx,_,_,rfl,(s1 _ _ hp),T.c_b,T.n_a6,lkH,r,1,ph,rfl,r1,r2,true,rfl,iteF (q H1 s1)⟩
theorem ok_a (T:Txt w K mg t):FnOk true P w K mg base (CXo P w) 3 t.f_a t.d_a ["self", "name", "x", "y", "sides", "low", "high"] (xq2 t):=by
 refine T.F_a.okn (k:=2) sc_a (fun vs H Q E h=>?_) (fun cdv A outer s H vs Q E hr h=>?_)
 .obtain ⟨a,dp,do_,pw,ph,ps,nm,x,y,sd,lo,hi,hv,rfl,_⟩:=h;rfl
 .obtain ⟨a,dp,do_,pw,ph,ps,nm,x,y,sd,lo,hi,hv,rfl,h⟩:=h;refine⟨_,xj (x0 (i:=7) sc_a.nd rfl (Zo rfl) (xc6 (xaa xtk (pv 6) (xta) (x9 _)) (x4 (pv 0) rfl) (pv 6)))
   (xj (xap (xbe (xa6 (xr (ok_at T) (hr.mono (by decide)) rfl T.g_at T.F_at.kp T.b_at .nil xg (xa (pv 1) (xf))))) (xk (xaz)) (x8))
   (xj (xax (xaw (pv 0) T.c_b T.m_j (ok_j T) (hr.mono (by decide)) T.b_j .nil xg (xa (pv 2) (xa (pv 3) (xf)))))
   (xj (xap (PW.pt (xc0 (xbe (xa6 (xab xb4 rfl T.n_isinstance boot_isinstance (xa (pv 4) (xa (xcw (v:=.ty "str") rfl T.n_str boot_str rfl) (xf)))))) (xcp (xep (xom (pv 4) rfl T.g_z T.D_z))))) (xk (xaz)) (x8))
   (xj (xap (PW.pt (xc0 (xbe (xa6 (xr (ok_ak T) (hr.mono (by decide)) rfl T.g_ak T.F_ak.kp T.b_ak .nil xg (xa (pv 5) (xa (xo) (xa (x4 (pv 0) rfl) (xf))))))) (xcp (xbe (xa6 (xr (ok_ak T) (hr.mono (by decide)) rfl T.g_ak T.F_ak.kp T.b_ak .nil xg (xa (pv 7) (xa (pv 5) (xa (x4 (pv 0) rfl) (xf)))))))))) (xk (xaz)) (x8))
   (xj (xap (xep (xke (xbh hr) (pv 1) (x4 (pv 0) rfl))) (xk (xaz)) (x8))
   (xj (xap (xaa xvd (xab xi0 rfl T.n_len Yb (xa (x4 (pv 0) rfl) (xf))) (xcy (v:=.int 12) rfl T.v_bf.choose_spec ⟨_,rfl⟩) (x9 _)) (xk (xaz)) (x8))
   (xj (xax (xaw (pv 0) T.c_b T.m_c (ok_c T) (hr.mono (by decide)) T.b_c .nil xg (xa (pv 1) (xa (pv 2) (xa (pv 3) (xf))))))
   (xk (xdp (xbh hr) (x4 (pv 0) rfl) (pv 1) (xal (xa (pv 2) (xa (pv 3) (xa (pv 4) (xa (pv 5) (xa (pv 7) (xf))))))) rfl))))))))),?_⟩
  obtain⟨pic,hhv,hn,x1,x2,y1,y2,hsd,l1,l2,l3,no,len,q⟩:=h;obtain⟨⟨dx,hp⟩,⟨kvs,hk,pl⟩,_⟩:=id pic;have hsd':(valV ([(Jf "left",V.str "right"),(Jf "right",V.str "left"),(Jf "both",V.str "both")]:List (Key × V)) (Jf sd)).isSome=true:=by
   rcases hsd with rfl|rfl|rfl<;>decide +kernel
  rcases hhv with⟨rfl,e⟩|rfl
  .obtain rfl:=e.symm;refine⟨_,rfl,rfl,_,rfl,ifP (by rfl) ⟨_,rfl,a,_,dx,_,_,rfl,hp,T.c_b,T.n_a6,lkH,?_⟩⟩;refine⟨_,rfl,nm,rfl,hn,true,rfl,iteF ?_⟩;refine⟨_,rfl,a,dx,_,rfl,hp,xan (by decide +kernel),_,rfl,_,rfl,a,dp,do_,pw,ph,ps,x,y,rfl,pic,x1,x2,y1,y2,?_⟩;refine⟨_,rfl,_,_,rfl,.inl ⟨_,_,true,.str _,rfl,xb8,true,rfl,iteF ⟨_,rfl,.inr sd,rfl,false,(by rw[hsd']; rfl),iteF ?_⟩⟩⟩;refine⟨_,rfl,_,rfl,a,_,dx,_,_,rfl,hp,T.c_b,T.n_a6,lkH,lo,1,ph,rfl,l1,(by omega),true,rfl,iteF ⟨_,rfl,_,rfl,_,rfl,a,_,dx,_,_,rfl,hp,T.c_b,T.n_a6,lkH,ph,lo,ph,rfl,(by omega),(by omega),true,rfl,iteF ?_⟩⟩;refine⟨_,rfl,_,rfl,a,_,dx,_,_,rfl,hp,T.c_b,T.n_a8,lkP,dp,none,rfl,(by rw[<- pl.no (nm:=nm) (fun p hp=>(no p hp).1)]; exact DGet.k (k:=.inr nm) hk),false,rfl,iteF ?_⟩;refine⟨_,rfl,a,_,dx,_,_,rfl,hp,T.c_b,T.n_a8,lkP,dp,kvs,rfl,hk,_,_,rfl,rfl,_,rfl,ifN (decide_eq_false (by have:=pl.len; omega)) ?_⟩;refine⟨_,rfl,a,dx,_,rfl,hp,xan (by decide +kernel),_,rfl,_,rfl,_,rfl,a,dp,do_,pw,ph,ps,nm,x,y,rfl,pic,fun p hp _=>(no p hp).2,fun H1 s1=>?_⟩;refine⟨_,rfl,_,rfl,_,rfl,_,rfl,_,rfl,(by show 5<=sizeLine; decide),fun q1 hq1=>?_⟩;have hp1:upd H1 q1 (.tup [.int x,.int y,.str sd,.int lo,.int ph]) a=some (.ins t.C_b dx (picF pw ph dp do_)):=by rw[xh (xi (s1 _ _ hp) hq1)]; exact s1 _ _ hp
   have hk1:upd H1 q1 (.tup [.int x,.int y,.str sd,.int lo,.int ph]) dp=some (.dK kvs):=by rw[xh (xi (s1 _ _ hk) hq1)]; exact s1 _ _ hk
   refine⟨_,rfl,a,_,dx,_,_,rfl,hp1,T.c_b,T.n_a8,lkP,_,rfl,dp,_,rfl,DPut.k (k:=.inr nm) hk1 (ZV (by have:=pl.len; omega:kvs.length<12) (by decide)),?_⟩;rw[xc7 (.ref q1) (pl.no (nm:=nm) (fun p hp=>(no p hp).1))];have nq:q1≠dp:=fun z=>by
    subst z;rw[s1 _ _ hk] at hq1;cases hq1
   refine q _ (fun b u nb e=>?_) ⟨⟨dx,?_⟩,⟨_,xb,Pl.snoc (p:=⟨nm,x,y,sd,lo,ph⟩) (pl.keep (fun b xs e=>?_)) ?_⟩,pic.w1,pic.w2,pic.h1,pic.h2,(by rw[Zs]; exact len)⟩
   .rw [xh nb,xh (xi (s1 _ _ e) hq1)];exact s1 _ _ e
   .rw [xh (xae hp1 hk1 (fun z=>nomatch z))];exact hp1
   .have e':=s1 _ _ e;rw[xh (xae e' (s1 _ _ hk) (fun z=>nomatch z)),xh (xi e' hq1)];exact e'
   .rw [xh nq];exact xb
  .refine ⟨_,rfl,rfl,_,rfl,ifN (by rfl) ⟨_,rfl,?_⟩⟩;refine⟨_,rfl,nm,rfl,hn,true,rfl,iteF ?_⟩;refine⟨_,rfl,a,dx,_,rfl,hp,xan (by decide +kernel),_,rfl,_,rfl,a,dp,do_,pw,ph,ps,x,y,rfl,pic,x1,x2,y1,y2,?_⟩;refine⟨_,rfl,_,_,rfl,.inl ⟨_,_,true,.str _,rfl,xb8,true,rfl,iteF ⟨_,rfl,.inr sd,rfl,false,(by rw[hsd']; rfl),iteF ?_⟩⟩⟩;refine⟨_,rfl,_,rfl,a,_,dx,_,_,rfl,hp,T.c_b,T.n_a6,lkH,lo,1,ph,rfl,l1,(by omega),true,rfl,iteF ⟨_,rfl,_,rfl,_,rfl,a,_,dx,_,_,rfl,hp,T.c_b,T.n_a6,lkH,hi,lo,ph,rfl,(by omega),(by omega),true,rfl,iteF ?_⟩⟩;refine⟨_,rfl,_,rfl,a,_,dx,_,_,rfl,hp,T.c_b,T.n_a8,lkP,dp,none,rfl,(by rw[<- pl.no (nm:=nm) (fun p hp=>(no p hp).1)]; exact DGet.k (k:=.inr nm) hk),false,rfl,iteF ?_⟩;refine⟨_,rfl,a,_,dx,_,_,rfl,hp,T.c_b,T.n_a8,lkP,dp,kvs,rfl,hk,_,_,rfl,rfl,_,rfl,ifN (decide_eq_false (by have:=pl.len; omega)) ?_⟩;refine⟨_,rfl,a,dx,_,rfl,hp,xan (by decide +kernel),_,rfl,_,rfl,_,rfl,a,dp,do_,pw,ph,ps,nm,x,y,rfl,pic,fun p hp _=>(no p hp).2,fun H1 s1=>?_⟩;refine⟨_,rfl,_,rfl,_,rfl,_,rfl,_,rfl,(by show 5<=sizeLine; decide),fun q1 hq1=>?_⟩;have hp1:upd H1 q1 (.tup [.int x,.int y,.str sd,.int lo,.int hi]) a=some (.ins t.C_b dx (picF pw ph dp do_)):=by rw[xh (xi (s1 _ _ hp) hq1)]; exact s1 _ _ hp
   have hk1:upd H1 q1 (.tup [.int x,.int y,.str sd,.int lo,.int hi]) dp=some (.dK kvs):=by rw[xh (xi (s1 _ _ hk) hq1)]; exact s1 _ _ hk
   refine⟨_,rfl,a,_,dx,_,_,rfl,hp1,T.c_b,T.n_a8,lkP,_,rfl,dp,_,rfl,DPut.k (k:=.inr nm) hk1 (ZV (by have:=pl.len; omega:kvs.length<12) (by decide)),?_⟩;rw[xc7 (.ref q1) (pl.no (nm:=nm) (fun p hp=>(no p hp).1))];have nq:q1≠dp:=fun z=>by
    subst z;rw[s1 _ _ hk] at hq1;cases hq1
   refine q _ (fun b u nb e=>?_) ⟨⟨dx,?_⟩,⟨_,xb,Pl.snoc (p:=⟨nm,x,y,sd,lo,hi⟩) (pl.keep (fun b xs e=>?_)) ?_⟩,pic.w1,pic.w2,pic.h1,pic.h2,(by rw[Zs]; exact len)⟩
   .rw [xh nb,xh (xi (s1 _ _ e) hq1)];exact s1 _ _ e
   .rw [xh (xae hp1 hk1 (fun z=>nomatch z))];exact hp1
   .have e':=s1 _ _ e;rw[xh (xae e' (s1 _ _ hk) (fun z=>nomatch z)),xh (xi e' hq1)];exact e'
   .rw [xh nq];exact xb
theorem ok_g (T:Txt w K mg t):FnOk true P w K mg base (CXo P w) 3 t.f_g t.d_g ["self", "name"] (xvz t):=by
 refine T.F_g.okn (k:=2) sc_g (fun vs H Q E h=>?_) (fun cdv A outer s H vs Q E hr h=>?_)
 .obtain ⟨a,dp,do_,pw,ph,ps,nm,pt,rfl,_⟩:=h;rfl
 .obtain ⟨a,dp,do_,pw,ph,ps,nm,pt,rfl,h⟩:=h;refine⟨_,xj (xax (xaw (pv 0) T.c_b T.m_i (ok_i T) (hr.mono (by decide)) T.b_i .nil xg (xa (pv 1) (xf))))
   (xk (xz (xj9 xtu (xel (xbh hr) (x4 (pv 0) rfl) (pv 1) (fun _ _=>rfl)) xr5 (xh0 (xo))))),?_⟩
  obtain⟨pic,hn,hf,q⟩:=h;obtain⟨⟨dx,hp⟩,⟨kvs,hk,pl⟩,_⟩:=id pic;obtain⟨q0,e,hq0⟩:=pl.find hf;refine⟨_,rfl,a,dx,_,rfl,hp,xan (by decide +kernel),_,rfl,a,dp,do_,pw,ph,ps,nm,pt,rfl,pic,hn,hf,?_⟩;exact⟨_,rfl,a,_,dx,_,_,rfl,hp,T.c_b,T.n_a8,lkP,_,rfl,dp,.ref q0,rfl,(by rw[<- e]; exact DGet.k (k:=.inr nm) hk),2,rfl,q0,ptV pt,rfl,SqT.of hq0,(fun z=>absurd z.2 (by show ¬ ((2:Nat)=5); decide)),fun p hp'=>q _ p (xq (Same.refl _) hp') xb⟩
theorem ok_v (T:Txt w K mg t):FnOk true P w K mg base (CXo P w) 5 t.f_v t.d_v ["self", "name", "side", "row"] (xvm t):=by
 refine T.F_v.okn (k:=4) sc_v (fun vs H Q E h=>?_) (fun cdv A outer s H vs Q E hr h=>?_)
 .obtain ⟨a,dp,do_,pw,ph,ps,nm,pt,b,r,rfl,_⟩:=h;rfl
 .obtain ⟨a,dp,do_,pw,ph,ps,nm,pt,b,r,rfl,h⟩:=h;refine⟨_,xj (xdz (xaw (pv 0) T.c_b T.m_g (ok_g T) (hr.mono (by decide)) T.b_g .nil xg (xa (pv 1) (xf))) (xar rfl (xp (xn (i:=4) sc_v.nd rfl (Zo rfl)) (xp (xn (i:=5) sc_v.nd rfl (Zo rfl)) (xag)))))
   (xj (xax (xaw (pv 0) T.c_b T.m_e (ok_e T) (hr.mono (by decide)) T.b_e .nil xg (xa (pv 2) (xa (pv 3) (xf)))))
   (xk (xz (xu xaq (xeq (xaw (xr (ok_ao T) (hr.mono (by decide)) rfl T.g_ao T.F_ao.kp T.b_ao .nil xg (xa (pv 2) (xa (x4 (pv 0) rfl) (xf)))) T.c_ae T.m_s (ok_s T) (hr.mono (by decide)) T.b_s .nil xg (xa (pv 4) (xf))) (xaw (xr (ok_ao T) (hr.mono (by decide)) rfl T.g_ao T.F_ao.kp T.b_ao .nil xg (xa (pv 2) (xa (x4 (pv 0) rfl) (xf)))) T.c_t T.m_o (ok_o T) (hr.mono (by decide)) T.b_o .nil xg (xa (pv 4) (xf)))) (xab xp1 rfl T.n_abs boot_abs (xa (xu xcj (pv 5) (pv 3)) (xf))))))),?_⟩
  obtain⟨pic,hn,hf,r1,r2,q⟩:=h;obtain⟨⟨dx,hp⟩,_,_⟩:=id pic;refine⟨_,rfl,a,dx,_,rfl,hp,xan (by decide +kernel),_,rfl,a,dp,do_,pw,ph,ps,nm,pt,rfl,pic,hn,hf,fun H1 q1 s1 hq1=>⟨q1,_,rfl,SqT.of hq1,rfl,_,_,rfl,_,_,rfl,rfl,?_⟩⟩;refine⟨_,rfl,a,dx,_,rfl,s1 _ _ hp,xan (by decide +kernel),_,rfl,_,rfl,a,dp,do_,pw,ph,ps,b,r,rfl,Pic.same s1 pic,r1,r2,fun H2 s2=>?_⟩;cases b with
  | true =>
   refine .inl ⟨_,rfl,_,rfl,a,_,dx,_,_,rfl,(s2 _ _ (s1 _ _ hp)),T.c_b,T.n_a7,lkW,true,pw,rfl,fun p H3 hp3 sd3 s3=>?_⟩;obtain⟨ds,hs⟩:=sd3;exact⟨p,ds,_,rfl,hs,(by rw[Z2,show (("across":Str) == "width")=false from by decide +kernel]; rfl),_,rfl,_,_,rfl,_,rfl,_,rfl,_,_,rfl,rfl,_,rfl,_,_,rfl,rfl,q H3 ((s1.trans s2).trans s3)⟩
  | false =>
   refine .inr ⟨_,rfl,_,rfl,a,_,dx,_,_,rfl,(s2 _ _ (s1 _ _ hp)),T.c_b,T.n_a7,lkW,false,pw,rfl,fun p H3 hp3 sd3 s3=>?_⟩;obtain⟨ds,hs⟩:=id sd3;exact⟨p,ds,_,rfl,hs,(by rw[Z2,show (("across":Str) == "width")=false from by decide +kernel]; rfl),_,rfl,p,pw,_,rfl,sd3,_,rfl,_,rfl,_,_,rfl,rfl,_,rfl,_,_,rfl,rfl,q H3 ((s1.trans s2).trans s3)⟩
end
inductive xas (H:Hp):List (Int × Int)->List Addr->Prop
 | nil:xas H [] []
 | cons {c:Int × Int}{q:Addr}{cs:List (Int × Int)}{qs:List Addr} (h:H q=some (.tup [.int c.1,.int c.2])) (r:xas H cs qs):xas H (c::cs) (q::qs)
theorem xas.keep {H H':Hp} (s:Tups H H') {cs:List (Int × Int)}{qs:List Addr} (h:xas H cs qs):xas H' cs qs:=by
 induction h with
 | nil=>exact .nil
 | cons h _ ih=>exact .cons (s _ _ h) ih
theorem xas.len {H:Hp}{cs:List (Int × Int)}{qs:List Addr} (h:xas H cs qs):qs.length=cs.length:=by
 induction h with
 | nil=>rfl
 | cons _ _ ih=>simp[ih]
theorem xas.get {H:Hp}{cs:List (Int × Int)}{qs:List Addr} (h:xas H cs qs) {i:Nat}{q:Addr} (e:qs[i]?=some q):∃ c,cs[i]?=some c/\H q=some (.tup [.int c.1,.int c.2]):=by
 induction h generalizing i with
 | nil=>simp at e
 | @cons c q' cs qs h _ ih =>
  cases i with
  | zero =>
   simp at e;subst e;exact⟨c,rfl,h⟩
  | succ j=>exact ih (by simpa using e)
theorem xas.append {H:Hp}{cs ds:List (Int × Int)}{qs rs:List Addr} (h:xas H cs qs) (h':xas H ds rs):xas H (cs++ds) (qs++rs):=by
 induction h with
 | nil=>exact h'
 | cons h _ ih=>exact .cons h ih
theorem xas.snoc {H:Hp}{cs:List (Int × Int)}{qs:List Addr} (h:xas H cs qs) {c:Int × Int}{q:Addr} (e:H q=some (.tup [.int c.1,.int c.2])):xas H (cs++[c]) (qs++[q]):=h.append (.cons e .nil)
theorem xbq {σ:L2.St}{fr:List Nat}{te:TE}{l:Addr}{H1:Hp}{Q:VK}{lo d:Int}{n:Nat} (f:Nat->Int × Int) (hl:H1 l=none) (hn:n<1000)
    (hte:∀(i:Nat) (H2:Hp) (R:VK),i<n->(∀ p,H2 p=none->R (.ref p) (upd H2 p (.tup [.int (f i).1,.int (f i).2])))->te ((blk0 σ fr 1).set 0 (some (.int (lo+(i:Int)*d)))) H2 R)
    (fin:∀(H2:Hp) (qs:List Addr),Same H1 H2->H2 l=some (.lst (qs.map V.ref))->xas H2 ((Zz n).map f) qs->Q (.ref l) H2):xc2 (Itrs lo d n) 1 (xd7 0) σ fr xdd te l H1 Q:=by
  refine xbw n (fun i xs H2=>∃ qs:List Addr,xs=qs.map V.ref/\qs.length<=i/\Same H1 H2/\H2 l=some (.lst xs)/\xas H2 ((Zz i).map f) qs) ?_ ?_ ?_ ?_
  . exact⟨[],rfl,Zj _,xq (Same.refl _) hl,xb,.nil⟩
  . rintro i xs H2 lt _
    exact lt
  . rintro i xs H2 v H3 lt ⟨qs,rfl,ql,s2,hl2,cl⟩ ⟨rfl,rfl⟩ N hN
    refine xu2 ?_;refine hte i _ _ lt fun p hp=>⟨?_,?_,hN _ _ ⟨qs++[p],by simp,by simp; omega,?_,xb,?_⟩⟩
    . rw[xh (xi hl2 hp)]
      exact hl2
    . rw[Za]
      exact ZA ql (ZV lt (ZF hn (by decide)))
    . intro b u e
      have nb:b≠l:=xi e hl;rw[xh nb,xh (xi (s2 _ _ e) hp)];exact s2 _ _ e
    . rw[JV,Z9]
      refine xas.snoc (xas.keep (fun b xs e=>?_) cl) ?_
      . rw[xh (xae e hl2 (fun z=>nomatch z)),xh (xi e hp)]
        exact e
      . rw[xh (ZE (xi hl2 hp))]
        exact xb
  . rintro xs H2 ⟨qs,rfl,_,s2,hl2,cl⟩
    exact⟨Zj _,fin H2 qs s2 hl2 cl⟩
def xri (t:Adr):Sp:=fun vs H Q _=>∃(a dp do_:Addr) (pw ph:Int) (ps:List Pt) (nm:Str) (pt:Pt) (b:Bool) (r:Int),vs=[.ref a,.str nm,.str (xac b),.int r]/\Pic t H a dp do_ pw ph ps/\isNm nm=true/\ps.find? (fun p=>decide (p.nm=nm))=some pt/\1<=r/\r<=ph /\
 (1<=pt.x/\pt.x<=pw/\1<=pt.y/\pt.y<=ph)/\∀ H' l qs,Same H H'->H' l=some (.lst (qs.map V.ref))->xas H' (Geo.cells pw pt.x pt.y b r) qs->qs.length<100->Q (.ref l) H'
section
variable {P:Program}{w:World}{K:Ze}{mg:Str->Option Value}{base:Heap}{t:Adr}
theorem lno {m:Str}{v:V} (h:(m == ("width":Str))=false):([("width",v)]:List (Str × V)).lookup m=none:=by
 rw[Z2,h];rfl
theorem ok_a1 (T:Txt w K mg t):FnOk true P w K mg base (CXo P w) 6 t.f_a1 t.d_a1 ["picture", "name", "side", "row"] (xri t):=by
 refine T.F_a1.okn (k:=5) sc_a1 (fun vs H Q E h=>?_) (fun cdv A outer s H vs Q E hr h=>?_)
 .obtain ⟨a,dp,do_,pw,ph,ps,nm,pt,b,r,rfl,_⟩:=h;rfl
 .obtain ⟨a,dp,do_,pw,ph,ps,nm,pt,b,r,rfl,h⟩:=h;refine⟨_,xj (xax (xaw (pv 0) T.c_b T.m_v (ok_v T) (hr.mono (by decide)) T.b_v .nil xg (xa (pv 1) (xa (pv 2) (xa (pv 3) (xf))))))
   (xj (xdz (xaw (pv 0) T.c_b T.m_g (ok_g T) (hr.mono (by decide)) T.b_g .nil xg (xa (pv 1) (xf))) (xar rfl (xp (xn (i:=4) sc_a1.nd rfl (ZS rfl)) (xp (xn (i:=5) sc_a1.nd rfl (Zo rfl)) (xag)))))
   (xj (x0 (i:=6) sc_a1.nd rfl (Zo rfl) (xr (ok_ao T) (hr.mono (by decide)) rfl T.g_ao T.F_ao.kp T.b_ao .nil xg (xa (pv 2) (xa (x4 (pv 0) rfl) (xf)))))
   (xj (x0 (i:=7) sc_a1.nd rfl (Zo rfl) (xc6 (xaa xji (pv 5) (pv 3) (x9 _)) (xo) (xq0 xm9 (xo))))
   (xj (xbm rfl (xay (zs:=["at"]) (ys:=["x"]) (fr:=[4]) (N0:=["picture", "name", "side", "row", "x", "y", "toward", "down", "upright", "level"]) (sc0:=xm s_a1) (by decide +kernel) rfl rfl rfl) (xiq rfl T.n_range (xa (pv 5) (xa (pv 3) (xa (pv 7) (xf))))) (fun _ _ _ _ _ ow nd=>xn (i:=0) nd rfl (Zo (ow _ (by simp))) (ZS (ow _ (by simp)))) (xbu (by decide)) (fun _ _ _ _ _=>xa5) (fun _ _ _ _ _=>xal (xa (pv 1) (xa (pv 0) (xf)))) (j:=8) rfl (Zo rfl))
   (xj (xbm rfl (xay (zs:=["at"]) (ys:=["row"]) (fr:=[3]) (N0:=["picture", "name", "side", "row", "x", "y", "toward", "down", "upright", "level"]) (sc0:=xm s_a1) (by decide +kernel) rfl rfl rfl) (xiq rfl T.n_range (xa (pv 4) (xa (xu xaq (xeq (xaf (pv 6) T.c_ae T.m_y (ok_y T) (hr.mono (by decide)) T.b_y .nil xg) (xaf (pv 6) T.c_t T.m_u (ok_u T) (hr.mono (by decide)) T.b_u .nil xg)) (xeq (xaf (pv 6) T.c_ae T.m_ac (ok_ac T) (hr.mono (by decide)) T.b_ac .nil xg) (xaf (pv 6) T.c_t T.m_x (ok_x T) (hr.mono (by decide)) T.b_x .nil xg))) (xa (xeq (xaf (pv 6) T.c_ae T.m_ac (ok_ac T) (hr.mono (by decide)) T.b_ac .nil xg) (xaf (pv 6) T.c_t T.m_x (ok_x T) (hr.mono (by decide)) T.b_x .nil xg)) (xf))))) (fun _ _ _ _ _ ow nd=>xn (i:=0) nd rfl (Zo (ow _ (by simp))) (ZS (ow _ (by simp)))) (xbu (by decide)) (fun _ _ _ _ _=>xa5) (fun _ _ _ _ _=>xal (xa (pv 0) (xa (pv 1) (xf)))) (j:=9) rfl (Zo rfl))
   (xk (xz (xu xop (pv 8) (pv 9))))))))),?_⟩
  obtain⟨pic,hn,hf,r1,r2,⟨x1,x2,y1,y2⟩,q⟩:=h;obtain⟨⟨dx,hp⟩,_,w1,w2,h1,h2,_⟩:=id pic;by_cases hd:pt.y<r<;>cases b
  .-- down right
   refine⟨_,rfl,a,dx,_,rfl,hp,xan (by decide +kernel),_,rfl,_,rfl,_,rfl,a,dp,do_,pw,ph,ps,nm,pt,false,r,rfl,pic,hn,hf,r1,r2,fun H1 s1=>?_⟩;refine⟨_,rfl,a,dx,_,rfl,s1 _ _ hp,xan (by decide +kernel),_,rfl,a,dp,do_,pw,ph,ps,nm,pt,rfl,Pic.same s1 pic,hn,hf,fun H2 q2 s2 hq2=>⟨q2,_,rfl,SqT.of hq2,rfl,_,_,rfl,_,_,rfl,rfl,?_⟩⟩;refine⟨_,rfl,_,rfl,a,_,dx,_,_,rfl,(s2 _ _ (s1 _ _ hp)),T.c_b,T.n_a7,lkW,false,pw,rfl,fun p H3 hp3 sd3 s3=>?_⟩;refine⟨_,rfl,_,rfl,_,_,rfl,rfl,_,rfl,ifP (decide_eq_true hd) ?_⟩;refine⟨_,rfl,_,rfl,_,rfl,pt.y,r,1,rfl,⟨by omega,by omega,by omega,by omega⟩,.inl ⟨rfl,fun l1 hl1=>?_⟩⟩;refine xbq (fun i=>(pt.x,pt.y+(i:Int)*1)) hl1 (by omega) (fun i H R _ k=>⟨_,rfl,_,rfl,(by show 2<=sizeLine; decide),k⟩) fun H4 qs1 s4 hu4 cu4=>?_;obtain⟨ds,hs⟩:=id sd3;have hs4:H4 p=some (.ins t.C_t ds [("width",.int pw)]):=s4 _ _ hs;have sd4:xds t H4 p false pw:=⟨ds,hs4⟩
   refine⟨_,rfl,.inr ⟨_,rfl,p,ds,_,rfl,hs4,lno (by decide +kernel),p,pw,rfl,sd4,.inr ⟨_,rfl,p,ds,_,rfl,hs4,lno (by decide +kernel),_,rfl,_,_,rfl,rfl,.inr ⟨_,rfl,p,ds,_,rfl,hs4,lno (by decide +kernel),_,rfl,pt.x,_,1,rfl,⟨by omega,by omega,by omega,by omega⟩,.inl ⟨rfl,fun l2 hl2=>?_⟩⟩⟩⟩⟩;refine xbq (fun i=>(pt.x+(i:Int)*1,r)) hl2 (by omega) (fun i H R _ k=>⟨_,rfl,_,rfl,(by show 2<=sizeLine; decide),k⟩) fun H5 qs2 s5 hu5 cu5=>?_;have c1:xas H5 (Geo.upL pt.x pt.y r) qs1:=by
    have e:Geo.upL pt.x pt.y r=(Zz (r-pt.y).toNat).map fun (i:Nat)=>(pt.x,pt.y+(i:Int)*1):=by unfold Geo.upL Geo.upN Geo.dn; rw[if_pos hd,if_pos hd]
    rw[e];exact cu4.keep (Same.tups s5)
   have c2:xas H5 (Geo.lvL pw pt.x false r) qs2:=by
    have e:Geo.lvL pw pt.x false r=(Zz (pw+1+1-pt.x).toNat).map fun (i:Nat)=>(pt.x+(i:Int)*1,r):=by
     unfold Geo.lvL Geo.lvN Geo.wayI;simp only[if_true,Jo,if_false];rw[show (pw+2-pt.x).toNat=(pw+1+1-pt.x).toNat from by omega]
    rw[e];exact cu5
   have l1':=c1.len;have l2':=c2.len;have b1:(Geo.upL pt.x pt.y r).length<17:=by unfold Geo.upL Geo.upN; rw[Za,Zv]; split<;>omega
   have b2:(Geo.lvL pw pt.x false r).length<33:=by unfold Geo.lvL Geo.lvN; rw[Za,Zv]; split<;>omega
   refine⟨_,rfl,_,rfl,l1,l2,_,_,rfl,rfl,s5 _ _ hu4,hu5,(by rw[Za,Za]; exact JG (ZV (by omega:qs1.length+qs2.length<100) (by decide))),fun p6 hp6=>?_⟩;refine q _ p6 (qs1++qs2) (xq (((s1.trans s2).trans s3).trans (s4.trans s5)) hp6) (by rw[Z9]; exact xb) ((c1.append c2).keep (Same.tups (xq (Same.refl _) hp6))) (by rw[Zs]; omega)
  .-- down left
   refine⟨_,rfl,a,dx,_,rfl,hp,xan (by decide +kernel),_,rfl,_,rfl,_,rfl,a,dp,do_,pw,ph,ps,nm,pt,true,r,rfl,pic,hn,hf,r1,r2,fun H1 s1=>?_⟩;refine⟨_,rfl,a,dx,_,rfl,s1 _ _ hp,xan (by decide +kernel),_,rfl,a,dp,do_,pw,ph,ps,nm,pt,rfl,Pic.same s1 pic,hn,hf,fun H2 q2 s2 hq2=>⟨q2,_,rfl,SqT.of hq2,rfl,_,_,rfl,_,_,rfl,rfl,?_⟩⟩;refine⟨_,rfl,_,rfl,a,_,dx,_,_,rfl,(s2 _ _ (s1 _ _ hp)),T.c_b,T.n_a7,lkW,true,pw,rfl,fun p H3 hp3 sd3 s3=>?_⟩;refine⟨_,rfl,_,rfl,_,_,rfl,rfl,_,rfl,ifP (decide_eq_true hd) ?_⟩;refine⟨_,rfl,_,rfl,_,rfl,pt.y,r,1,rfl,⟨by omega,by omega,by omega,by omega⟩,.inl ⟨rfl,fun l1 hl1=>?_⟩⟩;refine xbq (fun i=>(pt.x,pt.y+(i:Int)*1)) hl1 (by omega) (fun i H R _ k=>⟨_,rfl,_,rfl,(by show 2<=sizeLine; decide),k⟩) fun H4 qs1 s4 hu4 cu4=>?_;obtain⟨ds,hs⟩:=id sd3;have hs4:H4 p=some (.ins t.C_ae ds [("width",.int pw)]):=s4 _ _ hs;have sd4:xds t H4 p true pw:=⟨ds,hs4⟩
   refine⟨_,rfl,.inl ⟨_,rfl,p,ds,_,rfl,hs4,lno (by decide +kernel),_,rfl,.inl ⟨_,rfl,p,ds,_,rfl,hs4,lno (by decide +kernel),_,rfl,_,_,rfl,rfl,.inl ⟨_,rfl,p,ds,_,rfl,hs4,lno (by decide +kernel),_,rfl,pt.x,_,(-1),rfl,⟨by omega,by omega,by omega,by omega⟩,.inr ⟨rfl,fun l2 hl2=>?_⟩⟩⟩⟩⟩;refine xbq (fun i=>(pt.x+(i:Int)*(-1),r)) hl2 (by omega) (fun i H R _ k=>⟨_,rfl,_,rfl,(by show 2<=sizeLine; decide),k⟩) fun H5 qs2 s5 hu5 cu5=>?_;have c1:xas H5 (Geo.upL pt.x pt.y r) qs1:=by
    have e:Geo.upL pt.x pt.y r=(Zz (r-pt.y).toNat).map fun (i:Nat)=>(pt.x,pt.y+(i:Int)*1):=by unfold Geo.upL Geo.upN Geo.dn; rw[if_pos hd,if_pos hd]
    rw[e];exact cu4.keep (Same.tups s5)
   have c2:xas H5 (Geo.lvL pw pt.x true r) qs2:=by
    have e:Geo.lvL pw pt.x true r=(Zz (pt.x-(0+-1)).toNat).map fun (i:Nat)=>(pt.x+(i:Int)*(-1),r):=by
     unfold Geo.lvL Geo.lvN Geo.wayI;simp only[if_true,Jo,if_false];rw[show (pt.x+1).toNat=(pt.x-(0+-1)).toNat from by omega]
    rw[e];exact cu5
   have l1':=c1.len;have l2':=c2.len;have b1:(Geo.upL pt.x pt.y r).length<17:=by unfold Geo.upL Geo.upN; rw[Za,Zv]; split<;>omega
   have b2:(Geo.lvL pw pt.x true r).length<33:=by unfold Geo.lvL Geo.lvN; rw[Za,Zv]; split<;>omega
   refine⟨_,rfl,_,rfl,l1,l2,_,_,rfl,rfl,s5 _ _ hu4,hu5,(by rw[Za,Za]; exact JG (ZV (by omega:qs1.length+qs2.length<100) (by decide))),fun p6 hp6=>?_⟩;refine q _ p6 (qs1++qs2) (xq (((s1.trans s2).trans s3).trans (s4.trans s5)) hp6) (by rw[Z9]; exact xb) ((c1.append c2).keep (Same.tups (xq (Same.refl _) hp6))) (by rw[Zs]; omega)
  .-- up right
   refine⟨_,rfl,a,dx,_,rfl,hp,xan (by decide +kernel),_,rfl,_,rfl,_,rfl,a,dp,do_,pw,ph,ps,nm,pt,false,r,rfl,pic,hn,hf,r1,r2,fun H1 s1=>?_⟩;refine⟨_,rfl,a,dx,_,rfl,s1 _ _ hp,xan (by decide +kernel),_,rfl,a,dp,do_,pw,ph,ps,nm,pt,rfl,Pic.same s1 pic,hn,hf,fun H2 q2 s2 hq2=>⟨q2,_,rfl,SqT.of hq2,rfl,_,_,rfl,_,_,rfl,rfl,?_⟩⟩;refine⟨_,rfl,_,rfl,a,_,dx,_,_,rfl,(s2 _ _ (s1 _ _ hp)),T.c_b,T.n_a7,lkW,false,pw,rfl,fun p H3 hp3 sd3 s3=>?_⟩;refine⟨_,rfl,_,rfl,_,_,rfl,rfl,_,rfl,ifN (decide_eq_false hd) ⟨1,rfl,?_⟩⟩;refine⟨_,rfl,_,rfl,_,rfl,pt.y,r,(-1),rfl,⟨by omega,by omega,by omega,by omega⟩,.inr ⟨rfl,fun l1 hl1=>?_⟩⟩;refine xbq (fun i=>(pt.x,pt.y+(i:Int)*(-1))) hl1 (by omega) (fun i H R _ k=>⟨_,rfl,_,rfl,(by show 2<=sizeLine; decide),k⟩) fun H4 qs1 s4 hu4 cu4=>?_;obtain⟨ds,hs⟩:=id sd3;have hs4:H4 p=some (.ins t.C_t ds [("width",.int pw)]):=s4 _ _ hs;have sd4:xds t H4 p false pw:=⟨ds,hs4⟩
   refine⟨_,rfl,.inr ⟨_,rfl,p,ds,_,rfl,hs4,lno (by decide +kernel),p,pw,rfl,sd4,.inr ⟨_,rfl,p,ds,_,rfl,hs4,lno (by decide +kernel),_,rfl,_,_,rfl,rfl,.inr ⟨_,rfl,p,ds,_,rfl,hs4,lno (by decide +kernel),_,rfl,pt.x,_,1,rfl,⟨by omega,by omega,by omega,by omega⟩,.inl ⟨rfl,fun l2 hl2=>?_⟩⟩⟩⟩⟩;refine xbq (fun i=>(pt.x+(i:Int)*1,r)) hl2 (by omega) (fun i H R _ k=>⟨_,rfl,_,rfl,(by show 2<=sizeLine; decide),k⟩) fun H5 qs2 s5 hu5 cu5=>?_;have c1:xas H5 (Geo.upL pt.x pt.y r) qs1:=by
    have e:Geo.upL pt.x pt.y r=(Zz (pt.y-r).toNat).map fun (i:Nat)=>(pt.x,pt.y+(i:Int)*(-1)):=by unfold Geo.upL Geo.upN Geo.dn; rw[if_neg hd,if_neg hd]
    rw[e];exact cu4.keep (Same.tups s5)
   have c2:xas H5 (Geo.lvL pw pt.x false r) qs2:=by
    have e:Geo.lvL pw pt.x false r=(Zz (pw+1+1-pt.x).toNat).map fun (i:Nat)=>(pt.x+(i:Int)*1,r):=by
     unfold Geo.lvL Geo.lvN Geo.wayI;simp only[if_true,Jo,if_false];rw[show (pw+2-pt.x).toNat=(pw+1+1-pt.x).toNat from by omega]
    rw[e];exact cu5
   have l1':=c1.len;have l2':=c2.len;have b1:(Geo.upL pt.x pt.y r).length<17:=by unfold Geo.upL Geo.upN; rw[Za,Zv]; split<;>omega
   have b2:(Geo.lvL pw pt.x false r).length<33:=by unfold Geo.lvL Geo.lvN; rw[Za,Zv]; split<;>omega
   refine⟨_,rfl,_,rfl,l1,l2,_,_,rfl,rfl,s5 _ _ hu4,hu5,(by rw[Za,Za]; exact JG (ZV (by omega:qs1.length+qs2.length<100) (by decide))),fun p6 hp6=>?_⟩;refine q _ p6 (qs1++qs2) (xq (((s1.trans s2).trans s3).trans (s4.trans s5)) hp6) (by rw[Z9]; exact xb) ((c1.append c2).keep (Same.tups (xq (Same.refl _) hp6))) (by rw[Zs]; omega)
  .-- up left
   refine⟨_,rfl,a,dx,_,rfl,hp,xan (by decide +kernel),_,rfl,_,rfl,_,rfl,a,dp,do_,pw,ph,ps,nm,pt,true,r,rfl,pic,hn,hf,r1,r2,fun H1 s1=>?_⟩;refine⟨_,rfl,a,dx,_,rfl,s1 _ _ hp,xan (by decide +kernel),_,rfl,a,dp,do_,pw,ph,ps,nm,pt,rfl,Pic.same s1 pic,hn,hf,fun H2 q2 s2 hq2=>⟨q2,_,rfl,SqT.of hq2,rfl,_,_,rfl,_,_,rfl,rfl,?_⟩⟩;refine⟨_,rfl,_,rfl,a,_,dx,_,_,rfl,(s2 _ _ (s1 _ _ hp)),T.c_b,T.n_a7,lkW,true,pw,rfl,fun p H3 hp3 sd3 s3=>?_⟩;refine⟨_,rfl,_,rfl,_,_,rfl,rfl,_,rfl,ifN (decide_eq_false hd) ⟨1,rfl,?_⟩⟩;refine⟨_,rfl,_,rfl,_,rfl,pt.y,r,(-1),rfl,⟨by omega,by omega,by omega,by omega⟩,.inr ⟨rfl,fun l1 hl1=>?_⟩⟩;refine xbq (fun i=>(pt.x,pt.y+(i:Int)*(-1))) hl1 (by omega) (fun i H R _ k=>⟨_,rfl,_,rfl,(by show 2<=sizeLine; decide),k⟩) fun H4 qs1 s4 hu4 cu4=>?_;obtain⟨ds,hs⟩:=id sd3;have hs4:H4 p=some (.ins t.C_ae ds [("width",.int pw)]):=s4 _ _ hs;have sd4:xds t H4 p true pw:=⟨ds,hs4⟩
   refine⟨_,rfl,.inl ⟨_,rfl,p,ds,_,rfl,hs4,lno (by decide +kernel),_,rfl,.inl ⟨_,rfl,p,ds,_,rfl,hs4,lno (by decide +kernel),_,rfl,_,_,rfl,rfl,.inl ⟨_,rfl,p,ds,_,rfl,hs4,lno (by decide +kernel),_,rfl,pt.x,_,(-1),rfl,⟨by omega,by omega,by omega,by omega⟩,.inr ⟨rfl,fun l2 hl2=>?_⟩⟩⟩⟩⟩;refine xbq (fun i=>(pt.x+(i:Int)*(-1),r)) hl2 (by omega) (fun i H R _ k=>⟨_,rfl,_,rfl,(by show 2<=sizeLine; decide),k⟩) fun H5 qs2 s5 hu5 cu5=>?_;have c1:xas H5 (Geo.upL pt.x pt.y r) qs1:=by
    have e:Geo.upL pt.x pt.y r=(Zz (pt.y-r).toNat).map fun (i:Nat)=>(pt.x,pt.y+(i:Int)*(-1)):=by unfold Geo.upL Geo.upN Geo.dn; rw[if_neg hd,if_neg hd]
    rw[e];exact cu4.keep (Same.tups s5)
   have c2:xas H5 (Geo.lvL pw pt.x true r) qs2:=by
    have e:Geo.lvL pw pt.x true r=(Zz (pt.x-(0+-1)).toNat).map fun (i:Nat)=>(pt.x+(i:Int)*(-1),r):=by
     unfold Geo.lvL Geo.lvN Geo.wayI;simp only[if_true,Jo,if_false];rw[show (pt.x+1).toNat=(pt.x-(0+-1)).toNat from by omega]
    rw[e];exact cu5
   have l1':=c1.len;have l2':=c2.len;have b1:(Geo.upL pt.x pt.y r).length<17:=by unfold Geo.upL Geo.upN; rw[Za,Zv]; split<;>omega
   have b2:(Geo.lvL pw pt.x true r).length<33:=by unfold Geo.lvL Geo.lvN; rw[Za,Zv]; split<;>omega
   refine⟨_,rfl,_,rfl,l1,l2,_,_,rfl,rfl,s5 _ _ hu4,hu5,(by rw[Za,Za]; exact JG (ZV (by omega:qs1.length+qs2.length<100) (by decide))),fun p6 hp6=>?_⟩;refine q _ p6 (qs1++qs2) (xq (((s1.trans s2).trans s3).trans (s4.trans s5)) hp6) (by rw[Z9]; exact xb) ((c1.append c2).keep (Same.tups (xq (Same.refl _) hp6))) (by rw[Zs]; omega)
end
theorem lkO {w h:Int}{dp do_:Addr}:(picF w h dp do_).lookup ("opened":Str)=some (.ref do_):=by
 unfold picF;rw[Z2,show (("opened":Str) == "width")=false from by decide +kernel];show Ja ("opened":Str) [("height",V.int h),("placed",V.ref dp),("opened",V.ref do_)]=_;rw[Z2,show (("opened":Str) == "height")=false from by decide +kernel];show Ja ("opened":Str) [("placed",V.ref dp),("opened",V.ref do_)]=_;rw[Z2,show (("opened":Str) == "placed")=false from by decide +kernel];show Ja ("opened":Str) [("opened",V.ref do_)]=_;rw[Z2,show (("opened":Str) == "opened")=true from by decide +kernel]
abbrev Seat:=Bool × Int
def xbb (s:Seat):List Key:=[.inr (xac s.1),.inl s.2]
def xch (s:Seat):List V:=[.str (xac s.1),.int s.2]
theorem xij {a b:Bool} (h:xac a=xac b):a=b:=by
 cases a<;>cases b<;>first|rfl|exact absurd h (by decide +kernel)
theorem xoc {s t:Seat} (h:xbb s=xbb t):s=t:=by
 simp only[xbb,JS.injEq,Jf.injEq,Y9.injEq] at h;exact Yc (xij h.1) h.2.1
def Sts (H:Hp) (do_:Addr) (ss:List Seat):Prop:=∃ kvs:List (List Key × V),H do_=some (.dT kvs)/\kvs.map (·.1)=ss.map xbb/\ss.Nodup/\ss.length<=32
theorem Sts.same {H H':Hp}{do_:Addr}{ss:List Seat} (s:Same H H') (h:Sts H do_ ss):Sts H' do_ ss:=let ⟨k,e,r⟩:=h; ⟨k,s _ _ e,r⟩
theorem xtm {kvs:List (List Key × V)}{ss:List Seat} (e:kvs.map (·.1)=ss.map xbb) {s:Seat} (h:s∉ss):valV kvs (xbb s)=none:=by
 cases z:valV kvs (xbb s) with
 | none=>rfl
 | some v =>
  obtain⟨i,hi⟩:=xh4 z;have m:xbb s∈kvs.map (·.1):=Zd.mpr ⟨_,Zp hi,rfl⟩;rw[e] at m;obtain⟨t,ht,et⟩:=Zd.mp m;exact absurd ht (by rw[xoc et]; exact h)
inductive x6 (H:Hp):List Seat->List Addr->Prop
 | nil:x6 H [] []
 | cons {s:Seat}{q:Addr}{ss:List Seat}{qs:List Addr} (h:H q=some (.tup (xch s))) (r:x6 H ss qs):x6 H (s::ss) (q::qs)
theorem x6.keep {H H':Hp} (k:Tups H H') {ss:List Seat}{qs:List Addr} (h:x6 H ss qs):x6 H' ss qs:=by
 induction h with
 | nil=>exact .nil
 | cons h _ ih=>exact .cons (k _ _ h) ih
theorem x6.len {H:Hp}{ss:List Seat}{qs:List Addr} (h:x6 H ss qs):qs.length=ss.length:=by
 induction h with
 | nil=>rfl
 | cons _ _ ih=>simp[ih]
def xbj (s t:Seat):Prop:=(s.1=true/\t.1=false)\/(s.1=t.1/\s.2<t.2)
theorem xp7 {s t:Seat} (h:lexK (xbb s) (xbb t)=true):xbj s t:=by
 obtain⟨a,i⟩:=s;obtain⟨b,j⟩:=t;unfold xbb at h;unfold lexK at h;by_cases e:xac a=xac b
 .rw [if_pos (by rw[e])] at h;unfold lexK at h;by_cases e2:i=j
  .rw [if_pos (by rw[e2])] at h;unfold lexK at h;cases h
  .rw [if_neg (fun z=>e2 (Y9.inj z))] at h;exact .inr ⟨xij e,of_decide_eq_true h⟩
 .rw [if_neg (fun z=>e (Jf.inj z))] at h;cases a<;>cases b
  .exact absurd rfl e
  .exact absurd h (by show ¬ xcz (.inr (xac false)) (.inr (xac true))=true; decide +kernel)
  .exact .inl ⟨rfl,rfl⟩
  .exact absurd rfl e
def unK:List Key->Seat
 | [.inr s,.inl r]=>(decide (s="left"),r)
 | _=>(true,0)
theorem xkv (s:Seat):unK (xbb s)=s:=by
 obtain⟨b,r⟩:=s;cases b
 .show (decide (("right":Str)="left"),r)=_;rw[decide_eq_false (by decide +kernel)]
 .show (decide (("left":Str)="left"),r)=_;rw[decide_eq_true rfl]
def xs8 (t:Adr):Sp:=fun vs H Q _=>∃(a dp do_:Addr) (pw ph:Int) (ps:List Pt) (ss:List Seat) (b:Bool) (r:Int),vs=[.ref a,.str (xac b),.int r]/\Pic t H a dp do_ pw ph ps/\Sts H do_ ss/\1<=r/\r<=ph/\(b,r)∉ss/\ss.length<32 /\
 ∀ H',(∀ c u,c≠do_->H c=some u->H' c=some u)->Pic t H' a dp do_ pw ph ps->Sts H' do_ (ss++[(b,r)])->Q .non H'
def xr0 (t:Adr):Sp:=fun vs H Q _=>∃(a dp do_:Addr) (pw ph:Int) (ps:List Pt) (ss:List Seat),vs=[.ref a]/\Pic t H a dp do_ pw ph ps/\Sts H do_ ss /\
 ∀(l:Addr) (ss':List Seat) (qs:List Addr),H l=none->x6 H ss' qs->ss'.Perm ss->ss'.Pairwise xbj->Q (.ref l) (upd H l (.lst (qs.map V.ref)))
theorem Pic.but {t:Adr}{H H':Hp}{a dp do_:Addr}{w h:Int}{ps:List Pt}{kvs:List (List Key × V)} (e:H do_=some (.dT kvs)) (s:∀ c u,c≠do_->H c=some u->H' c=some u) (p:Pic t H a dp do_ w h ps):Pic t H' a dp do_ w h ps :=
 ⟨let ⟨dx,x⟩:=p.ins; ⟨dx,s _ _ (xae x e (fun z=>nomatch z)) x⟩,let ⟨k,x,q⟩:=p.pl; ⟨k,s _ _ (xae x e (fun z=>nomatch z)) x,q.keep fun b xs x=>s _ _ (xae x e (fun z=>nomatch z)) x⟩,p.w1,p.w2,p.h1,p.h2,p.len⟩
section
variable {P:Program}{w:World}{K:Ze}{mg:Str->Option Value}{base:Heap}{t:Adr}
theorem ok_h (T:Txt w K mg t):FnOk true P w K mg base (CXo P w) 5 t.f_h t.d_h ["self", "side", "row"] (xs8 t):=by
 refine T.F_h.okn (k:=4) sc_h (fun vs H Q E h=>?_) (fun cdv A outer s H vs Q E hr h=>?_)
 .obtain ⟨a,dp,do_,pw,ph,ps,ss,b,r,rfl,_⟩:=h;rfl
 .obtain ⟨a,dp,do_,pw,ph,ps,ss,b,r,rfl,h⟩:=h;refine⟨_,xj (xax (xaw (pv 0) T.c_b T.m_e (ok_e T) (hr.mono (by decide)) T.b_e .nil xg (xa (pv 1) (xa (pv 2) (xf)))))
   (xj (xap (xep (xke (xbh hr) (xal (xa (pv 1) (xa (pv 2) (xf)))) (x4 (pv 0) rfl))) (xk (xaz)) (x8))
   (xk (xdp (xbh hr) (x4 (pv 0) rfl) (xal (xa (pv 1) (xa (pv 2) (xf)))) (xf7) rfl))),?_⟩
  obtain⟨pic,st,r1,r2,no,len,q⟩:=h;obtain⟨⟨dx,hp⟩,_,_⟩:=id pic;obtain⟨kvs,hk,ek,nd,l32⟩:=id st;refine⟨_,rfl,a,dx,_,rfl,hp,xan (by decide +kernel),_,rfl,_,rfl,a,dp,do_,pw,ph,ps,b,r,rfl,pic,r1,r2,fun H1 s1=>?_⟩;refine⟨_,rfl,_,rfl,(by show 2<=sizeLine; decide),fun q1 hq1=>?_⟩;have s2:Same H1 (upd H1 q1 (.tup [.str (xac b),.int r])):=xq (Same.refl _) hq1;have g2:upd H1 q1 (.tup [.str (xac b),.int r]) q1=some (.tup [.str (xac b),.int r]):=xb;revert s2 g2;generalize upd H1 q1 (.tup [.str (xac b),.int r])=H2;intro s2 g2;have hk2:=s2 _ _ (s1 _ _ hk);have hp2:=s2 _ _ (s1 _ _ hp);have n0:valV kvs (xbb (b,r))=none:=xtm ek no;refine⟨_,rfl,a,_,dx,_,_,rfl,hp2,T.c_b,T.n_bc,lkO,do_,none,rfl,(by rw[<- n0]; exact DGet.t (k:=xbb (b,r)) hk2 g2),false,rfl,iteF ?_⟩;refine⟨_,rfl,a,_,dx,_,_,rfl,hp2,T.c_b,T.n_bc,lkO,_,rfl,_,rfl,(by show 2<=sizeLine; decide),fun q3 hq3=>?_⟩;have s3:Same H2 (upd H2 q3 (.tup [.str (xac b),.int r])):=xq (Same.refl _) hq3;have g3:upd H2 q3 (.tup [.str (xac b),.int r]) q3=some (.tup [.str (xac b),.int r]):=xb;revert s3 g3;generalize upd H2 q3 (.tup [.str (xac b),.int r])=H3;intro s3 g3;have kl:kvs.length=ss.length:=by
   have:=congrArg QB ek;simpa using this
  refine⟨do_,_,rfl,DPut.t (k:=xbb (b,r)) (s3 _ _ hk2) g3 (ZV (by omega:kvs.length<33) (by decide)),?_⟩;have bt:∀ c u,c≠do_->H c=some u->upd H3 do_ (.dT (putK kvs (xbb (b,r)) (.bl true))) c=some u:=fun c u nc e=>by
   rw[xh nc];exact s3 _ _ (s2 _ _ (s1 _ _ e))
  refine q _ bt (Pic.but hk bt pic) ⟨_,xb,?_,?_,?_⟩
  .rw [xc7 _ n0,Z9,Z9,ek];rfl
  .rw [ZT];exact⟨nd,by simp,fun x hx y hy=>by rw[Zw.mp hy]; exact fun e=>no (e▸hx)⟩
  .rw [Zs];show ss.length+1<=32;omega
theorem ok_n (T:Txt w K mg t):FnOk true P w K mg base (CXo P w) 1 t.f_n t.d_n ["self"] (xr0 t):=by
 refine T.F_n.okn (k:=0) sc_n (fun vs H Q E h=>?_) (fun cdv A outer s H vs Q E hr h=>?_)
 .obtain ⟨a,dp,do_,pw,ph,ps,ss,rfl,_⟩:=h;rfl
 .obtain ⟨a,dp,do_,pw,ph,ps,ss,rfl,h⟩:=h;refine⟨_,xk (xz (xab (xkm rfl) rfl T.n_sorted PyProof.Rows.Boot.«sorted» (xa (x4 (pv 0) rfl) (xf)))),?_⟩;obtain⟨pic,st,q⟩:=h;obtain⟨⟨dx,hp⟩,_,_⟩:=id pic;obtain⟨kvs,hk,ek,nd,l32⟩:=id st;have kl:kvs.length=ss.length:=by
   have:=congrArg QB ek;simpa using this
  refine⟨_,rfl,a,_,dx,_,_,rfl,hp,T.c_b,T.n_bc,lkO,do_,kvs,[false,true],rfl,hk,by omega,fun p hp'=>?_,by decide,fun l ts fr tm pm pw'=>?_⟩
  .have m:p.1∈kvs.map (·.1):=Zd.mpr ⟨p,hp',rfl⟩;rw[ek] at m;obtain⟨s,_,e⟩:=Zd.mp m;rw[<- e];rfl
  rw[ek] at pm;have back:∀ t∈ts,xbb (unK t.1)=t.1:=fun t ht=>by
   obtain⟨s,_,e⟩:=Zd.mp (pm.mem_iff.mp (Zd.mpr ⟨t,ht,rfl⟩));rw[<- e,xkv]
  have z:=q l ((ts.map (·.1)).map unK) (ts.map (·.2)) fr ?_ ?_ ?_
  .rw [Zl] at z;exact z
  .clear pm pw'
   induction ts with
   | nil=>exact .nil
   | cons t ts ih =>
    refine .cons ?_ (ih (fun x hx=>tm x (Z1 _ hx)) fun x hx=>back x (Z1 _ hx));have e:=tm t Z0;rw[<- back t Z0] at e;exact e
  .have z2:=pm.map unK;have e2:(ss.map xbb).map unK=ss:=by
    rw[Zl,show (unK∘xbb)=id from funext xkv];exact List.map_id _
   rw[e2] at z2;exact z2
  .rw [Z3] at pw';rw[Zl,Z3];refine pw'.imp_of_mem fun {x y} hx hy hxy=>xp7 ?_;show lexK (xbb (unK x.1)) (xbb (unK y.1))=true;rw[back x hx,back y hy];exact hxy
end
def SsOk (h:Int) (ss:List Seat):Prop:=ss.Nodup/\ss.length<=32/\∀ s∈ss,1<=s.2/\s.2<=h
theorem x6.get {H:Hp}{ss:List Seat}{qs:List Addr} (h:x6 H ss qs) {i:Nat}{q:Addr} (e:qs[i]?=some q):∃ s,ss[i]?=some s/\H q=some (.tup (xch s)):=by
 induction h generalizing i with
 | nil=>simp at e
 | @cons s q' ss qs h _ ih =>
  cases i with
  | zero =>
   simp at e;subst e;exact⟨s,rfl,h⟩
  | succ j=>exact ih (by simpa using e)
theorem nd_map {α β:Type}{f:α->β} (inj:∀ a b,f a=f b->a=b) {l:List α} (h:l.Nodup):(l.map f).Nodup:=by
 rw[List.nodup_iff_pairwise_ne,Z3];exact h.imp fun hne e=>hne (inj _ _ e)
theorem x6.snoc {H:Hp}{ss:List Seat}{qs:List Addr} (h:x6 H ss qs) {s:Seat}{q:Addr} (e:H q=some (.tup (xch s))):x6 H (ss++[s]) (qs++[q]):=by
 induction h with
 | nil=>exact .cons e .nil
 | cons h _ ih=>exact .cons h ih
theorem xcn {α:Type}{R:α->α->Prop} (as:∀ a b,R a b->¬ R b a):∀{l l':List α},l.Perm l'->l.Pairwise R->l'.Pairwise R->l=l'
 | [],l',p,_,_=>(QO.nil_eq p)
 | a::t,[],p,_,_=>absurd p.symm (by intro z; exact absurd (QO.nil_eq z) (by simp))
 | a::t,b::t',p,h,h'=>by
  have h1:=Qb.mp h;have h2:=Qb.mp h';by_cases e:a=b
  .subst e;rw[xcn as ((List.perm_cons a).mp p) h1.2 h2.2]
  .have ma:a∈t':=by
    have:=p.mem_iff.mp (Z0 (a:=a) (l:=t));rcases Zx.mp this with z|z
    .exact absurd z e
    .exact z
   have mb:b∈t:=by
    have:=p.mem_iff.mpr (Z0 (a:=b) (l:=t'));rcases Zx.mp this with z|z
    .exact absurd z.symm e
    .exact z
   exact absurd (h2.1 a ma) (as _ _ (h1.1 b mb))
theorem xfn (a b:Seat) (h:xbj a b):¬ xbj b a:=by
 rintro (⟨x,y⟩|⟨x,y⟩)<;>rcases h with⟨z,w⟩|⟨z,w⟩
 .rw [x] at w; cases w
 .rw [x,y] at z; cases z
 .rw [z,w] at x; cases x
 .omega
def xqs (s:Seat):DV:=.tup [.str (xac s.1),.int s.2]
theorem xsm {K:Ze}{H:Hp}{q:Addr}{s:Seat} (h:H q=some (.tup (xch s))):Dv K H 1 (.ref q) (xqs s):=by
 refine .tup (SqT.of h) rfl fun j x d h1 h2=>?_
 match j,h1,h2 with
 | 0,h1,h2=>cases h1; cases h2; exact .str
 | 1,h1,h2=>cases h1; cases h2; exact .int
 | j+2,h1,h2=>simp[xch] at h1
theorem x6.dv {K:Ze}{H:Hp}{ss:List Seat}{qs:List Addr} (h:x6 H ss qs) {l:Addr} (e:H l=some (.lst (qs.map V.ref))):Dv K H 2 (.ref l) (.lst (ss.map xqs)):=by
 refine .lst (SqL.of e) (by rw[Za,Za,h.len]) fun j x d h1 h2=>?_;rw[Zf] at h1 h2;obtain⟨q,hq,rfl⟩:=Zi.mp h1;obtain⟨p,hp,rfl⟩:=Zi.mp h2;obtain⟨p',hp',e'⟩:=h.get hq;rw[hp] at hp';cases hp';exact xsm e'
theorem x6.pick {H:Hp}:∀{ss:List Seat}{ys:List V},ys.length=ss.length->(∀(j:Nat) (y:V) (s:Seat),ys[j]?=some y->ss[j]?=some s->∃ q,y=.ref q/\H q=some (.tup (xch s)))->∃ rs:List Addr,ys=rs.map V.ref/\x6 H ss rs
 | [],[],_,_=>⟨[],rfl,.nil⟩
 | [],_::_,h,_=>by cases h
 | _::_,[],h,_=>by cases h
 | s::ss,y::ys,h,k=>by
  obtain⟨q,e,hq⟩:=k 0 y s rfl rfl;obtain⟨rs,e2,r⟩:=x6.pick (ss:=ss) (ys:=ys) (by simpa using h) fun j y s h1 h2=>k (j+1) y s (by simpa using h1) (by simpa using h2)
  exact⟨q::rs,by rw[e,e2]; rfl,.cons hq r⟩
theorem xn4 {α:Type} [DecidableEq α]:∀{l m:List α},l.Nodup->(∀ x∈l,x∈m)->l.length<=m.length
 | [],m,_,_=>ZZ _
 | a::l,m,nd,sub=>by
  obtain⟨h1,h2⟩:=Jc.mp nd;have ha:=sub a Z0;have z:=xn4 (l:=l) (m:=m.erase a) h2 (fun x hx=>(List.mem_erase_of_ne (fun e:x=a=>h1 (e▸hx))).mpr (sub x (Z1 _ hx)));rw[List.length_erase_of_mem ha] at z;have:=List.length_pos_of_mem ha;rw[ZQ];omega
def ptD (p:Pt):DV:=.tup [.str p.nm,.int p.x,.int p.y,.str p.sd,.int p.lo,.int p.hi]
theorem xv2 {K:Ze}{H:Hp}{q:Addr}{p:Pt} (h:H q=some (.tup (.str p.nm::ptV p))):Dv K H 1 (.ref q) (ptD p):=by
 refine .tup (SqT.of h) rfl fun j x d h1 h2=>?_
 match j,h1,h2 with
 | 0,h1,h2=>cases h1; cases h2; exact .str
 | 1,h1,h2=>cases h1; cases h2; exact .int
 | 2,h1,h2=>cases h1; cases h2; exact .int
 | 3,h1,h2=>cases h1; cases h2; exact .str
 | 4,h1,h2=>cases h1; cases h2; exact .int
 | 5,h1,h2=>cases h1; cases h2; exact .int
 | j+6,h1,h2=>simp[ptV] at h1
theorem PtsL.dv {K:Ze}{H:Hp}{ps:List Pt}{qs:List Addr} (h:PtsL H ps qs) {l:Addr} (e:H l=some (.lst (qs.map V.ref))):Dv K H 2 (.ref l) (.lst (ps.map ptD)):=by
 refine .lst (SqL.of e) (by rw[Za,Za,h.len]) fun j x d h1 h2=>?_;rw[Zf] at h1 h2;obtain⟨q,hq,rfl⟩:=Zi.mp h1;obtain⟨p,hp,rfl⟩:=Zi.mp h2;obtain⟨p',hp',e'⟩:=h.get hq;rw[hp] at hp';cases hp';exact xv2 e'
theorem xul {K:Ze}{H:Hp}{q:Addr}{a b:Int} (h:H q=some (.tup [.int a,.int b])):Dv K H 1 (.ref q) (.tup [.int a,.int b]):=by
 refine .tup (SqT.of h) rfl fun j x d h1 h2=>?_
 match j,h1,h2 with
 | 0,h1,h2=>cases h1; cases h2; exact .int
 | 1,h1,h2=>cases h1; cases h2; exact .int
 | j+2,h1,h2=>simp at h1
structure PtOk (w h:Int) (p:Pt):Prop where
 nm:isNm p.nm=true
 x1:1<=p.x
 x2:p.x<=w
 y1:1<=p.y
 y2:p.y<=h
 sd:p.sd="left"\/p.sd="right"\/p.sd="both"
 l1:1<=p.lo
 l2:p.lo<=p.hi
 l3:p.hi<=h
structure xbk (w h:Int) (ps:List Pt):Prop where
 ok:∀ p∈ps,PtOk w h p
 nn:(ps.map (·.nm)).Nodup
 nx:(ps.map (·.x)).Nodup
 ny:(ps.map (·.y)).Nodup
 le:ps.length<=12
theorem xcs {α β:Type} (f:α->β) {ps:List α} (nd:(ps.map f).Nodup) {i:Nat} (hi:i<ps.length):∀ p∈ps.take i,f p≠f ps[i]:=fun p hp e=>by
 have z:=nd;rw[<- Q7 i ps,List.drop_eq_getElem_cons hi,Z9,Zr,ZT] at z;exact z.2.2 _ (Zd.mpr ⟨p,hp,rfl⟩) _ Z0 e
theorem xhy {α β γ:Type}{f:α->β}{g:α->γ}{k:β->γ} (e:∀ a,g a=k (f a)) (inj:∀ a b,k a=k b->a=b) {l:List α} (h:(l.map f).Nodup):(l.map g).Nodup:=by
 have z:=nd_map inj h;rw[Zl] at z;rw[show g=k∘f from funext e];exact z
theorem PtsL.pick {H:Hp}:∀{ps:List Pt}{ys:List V},ys.length=ps.length->(∀(j:Nat) (y:V) (p:Pt),ys[j]?=some y->ps[j]?=some p->∃ q,y=.ref q/\H q=some (.tup (.str p.nm::ptV p)))->∃ rs:List Addr,ys=rs.map V.ref/\PtsL H ps rs
 | [],[],_,_=>⟨[],rfl,.nil⟩
 | [],_::_,h,_=>by cases h
 | _::_,[],h,_=>by cases h
 | s::ss,y::ys,h,k=>by
  obtain⟨q,e,hq⟩:=k 0 y s rfl rfl;obtain⟨rs,e2,r⟩:=PtsL.pick (ps:=ss) (ys:=ys) (by simpa using h) fun j y s h1 h2=>k (j+1) y s (by simpa using h1) (by simpa using h2)
  exact⟨q::rs,by rw[e,e2]; rfl,.cons hq r⟩
theorem xh3 {ps:List Pt} (nd:(ps.map (·.nm)).Nodup) {p:Pt} (hp:p∈ps):ps.find? (fun q=>decide (q.nm=p.nm))=some p:=by
 induction ps with
 | nil=>simp at hp
 | cons a ps ih =>
  rw[Zr,Jc] at nd;rcases Zx.mp hp with z|z
  .subst z;rw[Q1 (by simp)]
  .have ne:¬ a.nm=p.nm:=fun y=>nd.1 (y▸Zd.mpr ⟨p,z,rfl⟩);rw[Q2 (by simpa using ne)];exact ih nd.2 z
def xt4 (t:Adr):Sp:=fun vs H Q _=>∃(w h:Int) (l m:Addr) (ps:List Pt) (qs:List Addr) (ss:List Seat) (rs:List Addr),vs=[.int w,.int h,.ref l,.ref m]/\(1<=w/\w<=30/\1<=h/\h<=16)/\H l=some (.lst (qs.map V.ref))/\PtsL H ps qs/\xbk w h ps/\H m=some (.lst (rs.map V.ref))/\x6 H ss rs/\SsOk h ss /\
 ∀ H' a dp do_,Same H H'->H a=none->H dp=none->H do_=none->Pic t H' a dp do_ w h ps->Sts H' do_ ss->Q (.ref a) H'
section
variable {P:Program}{w:World}{K:Ze}{mg:Str->Option Value}{base:Heap}{t:Adr}
theorem ok_q (T:Txt w K mg t):FnOk true P w K mg base (CXo P w) 6 t.f_q t.d_q ["width", "height", "points", "seats"] (xt4 t):=by
 refine T.F_q.okn (k:=5) sc_q (fun vs H Q E h=>?_) (fun cdv A outer s H vs Q E hr h=>?_)
 .obtain ⟨w,ph,l,m,ps,qs,ss,rs,rfl,_⟩:=h;rfl
 .obtain ⟨w,ph,l,m,ps,qs,ss,rs,rfl,h⟩:=h;refine⟨_,xj (x0 (i:=4) sc_q.nd rfl (Zo rfl) (xen T.k_b (ok_aj T) (hr.mono (by decide)) rfl T.g_b T.b_aj .nil xg (xa (pv 0) (xa (pv 1) (xf)))))
   (xj (xa9 ZM rfl (xav (pv 2)) (xar rfl (xp (xn (i:=5) sc_q.nd rfl (Zo rfl)) (xp (xn (i:=6) sc_q.nd rfl (Zo rfl)) (xp (xn (i:=7) sc_q.nd rfl (Zo rfl)) (xp (xn (i:=8) sc_q.nd rfl (Zo rfl)) (xp (xn (i:=9) sc_q.nd rfl (Zo rfl)) (xp (xn (i:=10) sc_q.nd rfl (Zo rfl)) (xag)))))))) (xk (xax (xaw (pv 4) T.c_b T.m_a (ok_a T) (hr.mono (by decide)) T.b_a .nil xg (xx (pv 5) (xx (pv 6) (xx (pv 7) (xx (pv 8) (xx (pv 9) (xx (pv 10) (xf) rfl) rfl) rfl) rfl) rfl) rfl)))))
   (xj (xa9 ZM rfl (xav (pv 3)) (xar rfl (xp (xn (i:=11) sc_q.nd rfl (Zo rfl)) (xp (xn (i:=12) sc_q.nd rfl (Zo rfl)) (xag)))) (xk (xax (xaw (pv 4) T.c_b T.m_h (ok_h T) (hr.mono (by decide)) T.b_h .nil xg (xa (pv 11) (xa (pv 12) (xf)))))))
   (xk (xz (pv 4))))),?_⟩
  obtain⟨⟨w1,w2,h1,h2⟩,hl,pts,pok,hm,sts,⟨snd,sle,srow⟩,q⟩:=h;refine⟨_,rfl,_,rfl,fun a dx hx hdx ne=>⟨a,dx,w,ph,rfl,xb,w1,w2,h1,h2,fun H5 dp do_ hdp5 hdo5 s6 pic5 hdt=>⟨rfl,?_⟩⟩⟩;have k5:Same H H5:=fun b u e=>s6 b u (xi e hx) (by rw[xh (xi e hx),xh (xi e hdx)]; exact e);have up:∀ b,upd (upd H dx (.own a)) a (.ins t.C_b dx []) b=none->H b=none:=fun b z=>by
   cases e:H b with
   | none=>rfl
   | some u=>rw[xh (xi e hx),xh (xi e hdx),e] at z; cases z
  have fdp:=up _ hdp5;have fdo:=up _ hdo5;have pl:=pts.len;have sl:=sts.len;refine⟨_,rfl,l,rfl,⟨_,SqL.of (k5 _ _ hl)⟩,?_⟩;refine xbi (xs:=qs.map V.ref) (Pv:=fun i σ H2=>∃ v5 v6 v7 v8 v9 v10 v11 v12:Option V,σ=[some (.int w),some (.int ph),some (.ref l),some (.ref m),some (.ref a),v5,v6,v7,v8,v9,v10,v11,v12]/\Same H H2/\Pic t H2 a dp do_ w ph (ps.take i)/\H2 do_=some (.dT [])) ⟨_,_,_,_,_,_,_,_,rfl,k5,by simpa using pic5,hdt⟩ (fun _ _ _ _ ⟨_,_,_,_,_,_,_,_,_,z,_⟩=>SqL.of (z _ _ hl)) ?_ ?_
  .rintro i v σ H2 hv ⟨v5,v6,v7,v8,v9,v10,v11,v12,rfl,s2,pic2,hd2⟩;rw[Zf] at hv;obtain⟨z,hz,rfl⟩:=Zi.mp hv;obtain⟨p,hp,ez⟩:=pts.get hz;obtain⟨hi,ep⟩:=Zk.mp hp;have ok:=pok.ok p (Zp hp);obtain⟨⟨dx2,hp2⟩,⟨kvs,hk2,_⟩,_⟩:=id pic2;have ple:=pok.le;refine⟨z,_,rfl,SqT.of (s2 _ _ ez),rfl,_,_,rfl,_,_,rfl,_,_,rfl,_,_,rfl,_,_,rfl,_,_,rfl,rfl,?_⟩;refine⟨_,rfl,a,dx2,_,rfl,hp2,xan (by decide +kernel),_,rfl,_,rfl,_,rfl,_,rfl,_,rfl,_,rfl,?_⟩;refine⟨a,dp,do_,w,ph,ps.take i,p.nm,p.x,p.y,p.sd,p.lo,p.hi,.int p.hi,rfl,pic2,.inr rfl,ok.nm,ok.x1,ok.x2,ok.y1,ok.y2,ok.sd,ok.l1,ok.l2,ok.l3,fun p' hp'=>?_,?_,fun H3 k3 pic3=>?_⟩
   .have e:=ep.symm;subst e;exact⟨xcs _ pok.nn hi p' hp',xcs _ pok.nx hi p' hp',xcs _ pok.ny hi p' hp'⟩
   .rw [Jt];omega
   .refine ⟨_,_,_,_,_,_,_,_,rfl,fun b u e=>k3 b u (xi e fdp) (s2 b u e),?_,k3 _ _ (xae hd2 hk2 (fun z=>nomatch z)) hd2⟩;rw[ZI,hp];exact pic3
  .rintro σ H2 ⟨v5,v6,v7,v8,v9,v10,v11,v12,rfl,s2,pic2,hd2⟩;rw[Za,pl,Jz] at pic2;refine⟨_,rfl,m,rfl,⟨_,SqL.of (s2 _ _ hm)⟩,?_⟩;refine xbi (xs:=rs.map V.ref) (Pv:=fun i σ H3=>∃ v5 v6 v7 v8 v9 v10 v11 v12:Option V,σ=[some (.int w),some (.int ph),some (.ref l),some (.ref m),some (.ref a),v5,v6,v7,v8,v9,v10,v11,v12]/\Same H H3/\Pic t H3 a dp do_ w ph ps/\Sts H3 do_ (ss.take i)) ⟨_,_,_,_,_,_,_,_,rfl,s2,pic2,[],hd2,rfl,QH,by simp⟩ (fun _ _ _ _ ⟨_,_,_,_,_,_,_,_,_,z,_⟩=>SqL.of (z _ _ hm)) ?_ ?_
   .rintro i v σ H3 hv ⟨v5,v6,v7,v8,v9,v10,v11,v12,rfl,s3,pic3,st3⟩;rw[Zf] at hv;obtain⟨z,hz,rfl⟩:=Zi.mp hv;obtain⟨s0,hs0,ez⟩:=sts.get hz;obtain⟨hi,es⟩:=Zk.mp hs0;obtain⟨b,r⟩:=s0;obtain⟨r1,r2⟩:=srow _ (Zp hs0);obtain⟨⟨dx3,hp3⟩,_,_⟩:=id pic3;have nin:(b,r)∉ss.take i:=fun hmem=>by
     have:=xcs id (by simpa using snd) hi _ hmem;exact this (by rw[es])
    refine⟨z,_,rfl,SqT.of (s3 _ _ ez),rfl,_,_,rfl,_,_,rfl,rfl,?_⟩;refine⟨_,rfl,a,dx3,_,rfl,hp3,xan (by decide +kernel),_,rfl,_,rfl,?_⟩;refine⟨a,dp,do_,w,ph,ps,ss.take i,b,r,rfl,pic3,st3,r1,r2,nin,?_,fun H4 k4 pic4 st4=>?_⟩
    .rw [Jt];omega
    .refine ⟨_,_,_,_,_,_,_,_,rfl,fun c u e=>k4 c u (xi e fdo) (s3 c u e),pic4,?_⟩;rw[ZI,hs0];exact st4
   .rintro σ H3 ⟨v5,v6,v7,v8,v9,v10,v11,v12,rfl,s3,pic3,st3⟩;rw[Za,sl,Jz] at st3;exact⟨_,rfl,q H3 a dp do_ s3 hx fdp fdo pic3 st3⟩
end
def xes (s:Str):Str:=if s="left" then "right" else if s="right" then "left" else s
def mirP (w:Int) (p:Pt):Pt:=⟨p.nm,w+1-p.x,p.y,xes p.sd,p.lo,p.hi⟩
def turP (h:Int) (p:Pt):Pt:=⟨p.nm,p.x,h+1-p.y,p.sd,h+1-p.hi,h+1-p.lo⟩
def mirS (s:Seat):Seat:=(!s.1,s.2)
def turS (h:Int) (s:Seat):Seat:=(s.1,h+1-s.2)
def xnp (t:Adr) (f:Int->Int->Pt->Pt) (g:Int->Seat->Seat):Sp:=fun vs H Q _=>∃(a dp do_:Addr) (pw ph:Int) (ps:List Pt) (ss:List Seat),vs=[.ref a]/\Pic t H a dp do_ pw ph ps/\Sts H do_ ss/\xbk pw ph ps/\SsOk ph ss /\
 ∀(H':Hp) (a' dp' do':Addr) (ss':List Seat),Same H H'->H a'=none->H dp'=none->H do'=none->ss'.Perm ss->ss'.Pairwise xbj->Pic t H' a' dp' do' pw ph (ps.map (f pw ph))->Sts H' do' (ss'.map (g ph))->Q (.ref a') H'
theorem SsOk.perm {h:Int}{ss ss':List Seat} (p:ss'.Perm ss) (o:SsOk h ss):SsOk h ss':=⟨p.nodup_iff.mpr o.1,by rw[p.length_eq]; exact o.2.1,fun s hs=>o.2.2 s (p.mem_iff.mp hs)⟩
theorem xfs {h:Int}{ss:List Seat} (o:SsOk h ss):SsOk h (ss.map (turS h)):=by
 refine⟨nd_map (fun a b e=>?_) o.1,by rw[Za]; exact o.2.1,fun s hs=>?_⟩
 .simp only [turS,ZR.injEq] at e;exact Yc e.1 (by omega)
 .obtain ⟨s',hs',rfl⟩:=Zd.mp hs;have:=o.2.2 s' hs';simp only[turS];omega
theorem xfw {h:Int}{ss:List Seat} (o:SsOk h ss):SsOk h (ss.map mirS):=by
 refine⟨nd_map (fun a b e=>?_) o.1,by rw[Za]; exact o.2.1,fun s hs=>?_⟩
 .simp only [mirS,ZR.injEq] at e;exact Yc (by have:=e.1; revert this; cases a.1<;>cases b.1<;>simp) e.2
 .obtain ⟨s',hs',rfl⟩:=Zd.mp hs;exact o.2.2 s' hs'
theorem xec {w h:Int}{ps:List Pt} (o:xbk w h ps):xbk w h (ps.map (mirP w)):=by
 refine⟨fun p hp=>?_,?_,?_,?_,by rw[Za]; exact o.le⟩
 .obtain ⟨p',hp',rfl⟩:=Zd.mp hp;obtain⟨a,b,c,d,e,f,g,i,j⟩:=o.ok p' hp';have f':xes p'.sd="left"\/xes p'.sd="right"\/xes p'.sd="both":=by
   rcases f with z|z|z<;>rw[z]
   .exact .inr (.inl (by decide +kernel))
   .exact .inl (by decide +kernel)
   .exact .inr (.inr (by decide +kernel))
  exact⟨a,by simp only[mirP]; omega,by simp only[mirP]; omega,d,e,f',g,i,j⟩
 .rw [Zl]; exact o.nn
 .rw [Zl]; exact xhy (k:=fun x=>w+1-x) (fun _=>rfl) (fun a b e=>by omega) o.nx
 .rw [Zl]; exact o.ny
theorem xeh {w h:Int}{ps:List Pt} (o:xbk w h ps):xbk w h (ps.map (turP h)):=by
 refine⟨fun p hp=>?_,?_,?_,?_,by rw[Za]; exact o.le⟩
 .obtain ⟨p',hp',rfl⟩:=Zd.mp hp;obtain⟨a,b,c,d,e,f,g,i,j⟩:=o.ok p' hp';exact⟨a,b,c,by simp only[turP]; omega,by simp only[turP]; omega,f,by simp only[turP]; omega,by simp only[turP]; omega,by simp only[turP]; omega⟩
 .rw [Zl]; exact o.nn
 .rw [Zl]; exact o.nx
 .rw [Zl]; exact xhy (k:=fun x=>h+1-x) (fun _=>rfl) (fun a b e=>by omega) o.ny
section
variable {P:Program}{w:World}{K:Ze}{mg:Str->Option Value}{base:Heap}{t:Adr}
theorem ok_m (T:Txt w K mg t):FnOk true P w K mg base (CXo P w) 7 t.f_m t.d_m ["self"] (xnp t (fun _ h p=>turP h p) turS):=by
 refine T.F_m.okn (k:=6) sc_m (fun vs H Q E h=>?_) (fun cdv A outer s H vs Q E hr h=>?_)
 .obtain ⟨a,dp,do_,pw,ph,ps,ss,rfl,_⟩:=h;rfl
 .obtain ⟨a,dp,do_,pw,ph,ps,ss,rfl,h⟩:=h;refine⟨_,xj (x0 (i:=1) sc_m.nd rfl (ZS rfl) (xu xaq (x4 (pv 0) rfl) (xo)))
   (xj (xbm rfl (xay (zs:=["name", "x", "y", "sides", "low", "high"]) (ys:=["rows"]) (fr:=[1]) (N0:=["self", "rows", "points", "seats"]) (sc0:=xm s_m) (by decide +kernel) rfl rfl rfl) (xav (xaf (pv 0) T.c_b T.m_f (ok_f T) (hr.mono (by decide)) T.b_f .nil xg)) (fun _ _ _ _ _ ow nd=>(xar rfl (xp (xn (i:=0) nd rfl (Zo (ow _ (by simp))) (ZS (ow _ (by simp)))) (xp (xn (i:=1) nd rfl (Zo (ow _ (by simp))) (ZS (ow _ (by simp)))) (xp (xn (i:=2) nd rfl (Zo (ow _ (by simp))) (ZS (ow _ (by simp)))) (xp (xn (i:=3) nd rfl (Zo (ow _ (by simp))) (ZS (ow _ (by simp)))) (xp (xn (i:=4) nd rfl (Zo (ow _ (by simp))) (ZS (ow _ (by simp)))) (xp (xn (i:=5) nd rfl (Zo (ow _ (by simp))) (ZS (ow _ (by simp)))) (xag))))))):PG _ _ (gTup K 6 _))) (xbz (x5 (by decide) (x5 (by decide) (x5 (by decide) (x5 (by decide) (x5 (by decide) (x5 (by decide) (xbl)))))))) (fun _ _ _ _ _=>xa5) (fun _ _ _ _ _=>xal (xx (pv 0) (xx (pv 1) (xx (xu xcj (pv 6) (pv 2)) (xx (pv 3) (xx (xu xcj (pv 6) (pv 5)) (xx (xu xcj (pv 6) (pv 4)) (xf) rfl) rfl) rfl) rfl) rfl) rfl)) (j:=2) rfl (Zo rfl))
   (xj (xbm rfl (xay (zs:=["side", "row"]) (ys:=["rows"]) (fr:=[1]) (N0:=["self", "rows", "points", "seats"]) (sc0:=xm s_m) (by decide +kernel) rfl rfl rfl) (xav (xaf (pv 0) T.c_b T.m_n (ok_n T) (hr.mono (by decide)) T.b_n .nil xg)) (fun _ _ _ _ _ ow nd=>(xar rfl (xp (xn (i:=0) nd rfl (Zo (ow _ (by simp))) (ZS (ow _ (by simp)))) (xp (xn (i:=1) nd rfl (Zo (ow _ (by simp))) (ZS (ow _ (by simp)))) (xag))):PG _ _ (gTup K 2 _))) (xbz (x5 (by decide) (x5 (by decide) (xbl)))) (fun _ _ _ _ _=>xa5) (fun _ _ _ _ _=>xal (xa (pv 0) (xa (xu xcj (pv 2) (pv 1)) (xf)))) (j:=3) rfl (Zo rfl))
   (xk (xz (xr (ok_q T) (hr.mono (by decide)) rfl T.g_q T.F_q.kp T.b_q .nil xg (xa (x4 (pv 0) rfl) (xa (x4 (pv 0) rfl) (xa (pv 2) (xa (pv 3) (xf)))))))))),?_⟩
  obtain⟨pic,st,pok,sok,q⟩:=h;obtain⟨⟨dx,hp⟩,_,w1,w2,h1,h2,_⟩:=id pic;refine⟨_,rfl,a,_,dx,_,_,rfl,hp,T.c_b,T.n_a6,lkH,_,_,rfl,rfl,?_⟩;refine⟨_,rfl,a,dx,_,rfl,hp,xan (by decide +kernel),a,dp,do_,pw,ph,ps,rfl,pic,fun H1 l1 qs s1 hl1 pt1=>?_⟩;have ple:=pok.le;have ql:=pt1.len;refine⟨l1,rfl,⟨_,SqL.of hl1⟩,fun l2 hl2=>?_⟩;refine xbw qs.length (fun i zs H2=>∃ rs:List Addr,zs=rs.map V.ref/\rs.length<=i/\Same H1 H2/\H2 l2=some (.lst zs)/\PtsL H2 ((ps.take i).map (turP ph)) rs) ?_ ?_ ?_ ?_
  .exact ⟨[],rfl,Zj _,xq (Same.refl _) hl2,xb,by simpa using PtsL.nil⟩
  .rintro i zs H2 lt ⟨rs,_,_,s2,_⟩;exact⟨_,.ref qs[i],SqL.of (s2 _ _ hl1),by simp[lt]⟩
  .rintro i zs H2 v H3 lt ⟨rs,rfl,rl,s2,h2l,pl2⟩ ⟨rfl,hv⟩ N hN;have hv':=hv _ (SqL.of (s2 _ _ hl1));rw[Zf] at hv';obtain⟨o,ho,rfl⟩:=Zi.mp hv';obtain⟨p,hpp,ep⟩:=pt1.get ho;have okp:=pok.ok p (Zp hpp);refine⟨o,_,rfl,SqT.of (s2 _ _ ep),rfl,_,_,rfl,_,_,rfl,_,_,rfl,_,_,rfl,_,_,rfl,_,_,rfl,rfl,?_⟩;refine xhh ?_;refine⟨_,rfl,_,rfl,_,rfl,_,rfl,_,_,rfl,rfl,_,rfl,_,rfl,_,rfl,_,_,rfl,rfl,_,rfl,_,rfl,_,_,rfl,rfl,(by show 6<=sizeLine; decide),fun p7 hp7=>?_⟩;have s7:=xq (o:=.tup (.str ((turP ph) p).nm::ptV ((turP ph) p))) (Same.refl _) hp7;have n7:l2≠p7:=xi h2l hp7;refine⟨s7 _ _ h2l,(by rw[Za]; exact ZV (by omega:rs.length<13) (by decide)),hN _ _ ⟨rs++[p7],by simp,by simp; omega,fun b u e=>?_,xb,?_⟩⟩
   .rw [xh (xi e hl2)];exact s7 _ _ (s2 _ _ e)
   .rw [ZI,hpp,Z9];refine PtsL.snoc (PtsL.keep (fun b xs e=>?_) pl2) ?_
    .rw [xh (xae e h2l (fun z=>nomatch z))];exact s7 _ _ e
    .rw [xh (ZE n7)];exact xb
  rintro zs H2 ⟨rs,rfl,rl,s2,h2l,pl2⟩;refine⟨⟨_,SqL.of (s2 _ _ hl1),by simp⟩,?_⟩;rw[ql,Jz] at pl2;have s12:Same H H2:=s1.trans s2;refine⟨_,rfl,a,dx,_,rfl,s12 _ _ hp,xan (by decide +kernel),a,dp,do_,pw,ph,ps,ss,rfl,Pic.same s12 pic,st.same s12,fun l3 ss' rs3 fr sl pm pw'=>?_⟩;have s3:Same H2 (upd H2 l3 (.lst (rs3.map V.ref))):=xq (Same.refl _) fr;have g3:upd H2 l3 (.lst (rs3.map V.ref)) l3=some (.lst (rs3.map V.ref)):=xb;have sl3:=sl.keep (Same.tups s3);revert s3 g3 sl3;generalize upd H2 l3 (.lst (rs3.map V.ref))=H3;intro s3 g3 sl3;have sok':=sok.perm pm;have rl3:=sl.len;refine⟨l3,rfl,⟨_,SqL.of g3⟩,fun l4 hl4=>?_⟩;refine xbw rs3.length (fun i zs H4=>∃ rs:List Addr,zs=rs.map V.ref/\rs.length<=i/\Same H3 H4/\H4 l4=some (.lst zs)/\x6 H4 ((ss'.take i).map (turS ph)) rs) ?_ ?_ ?_ ?_
  .exact ⟨[],rfl,Zj _,xq (Same.refl _) hl4,xb,by simpa using x6.nil⟩
  .rintro i zs H4 lt ⟨rs,_,_,s4,_⟩;exact⟨_,.ref rs3[i],SqL.of (s4 _ _ g3),by simp[lt]⟩
  .rintro i zs H4 v H5 lt ⟨rs,rfl,rl,s4,h4l,sl4⟩ ⟨rfl,hv⟩ N hN;have hv':=hv _ (SqL.of (s4 _ _ g3));rw[Zf] at hv';obtain⟨o,ho,rfl⟩:=Zi.mp hv';obtain⟨s0,hs0,ep⟩:=sl3.get ho;have sle:=sok'.2.1;refine⟨o,_,rfl,SqT.of (s4 _ _ ep),rfl,_,_,rfl,_,_,rfl,rfl,?_⟩;refine xhh ?_;refine⟨_,rfl,_,rfl,_,rfl,_,_,rfl,rfl,(by show 2<=sizeLine; decide),fun p7 hp7=>?_⟩;have s7:=xq (o:=.tup (xch ((turS ph) s0))) (Same.refl _) hp7;have n7:l4≠p7:=xi h4l hp7;refine⟨s7 _ _ h4l,(by rw[Za]; exact ZV (by omega:rs.length<33) (by decide)),hN _ _ ⟨rs++[p7],by simp,by simp; omega,fun b u e=>?_,xb,?_⟩⟩
   .rw [xh (xi e hl4)];exact s7 _ _ (s4 _ _ e)
   .rw [ZI,hs0,Z9];refine x6.snoc (x6.keep (fun b xs e=>?_) sl4) ?_
    .rw [xh (xae e h4l (fun z=>nomatch z))];exact s7 _ _ e
    .rw [xh (ZE n7)];exact xb
  rintro zs H4 ⟨rs,rfl,rl,s4,h4l,sl4⟩;refine⟨⟨_,SqL.of (s4 _ _ g3),by simp⟩,?_⟩;rw[rl3,Jz] at sl4;have s34:Same H2 H4:=s3.trans s4;have s14:Same H H4:=s12.trans s34;refine⟨_,rfl,a,_,dx,_,_,rfl,(s14 _ _ hp),T.c_b,T.n_a7,lkW,_,rfl,a,_,dx,_,_,rfl,(s14 _ _ hp),T.c_b,T.n_a6,lkH,_,rfl,_,rfl,pw,ph,l2,l4,ps.map (turP ph),_,ss'.map (turS ph),rs,rfl,⟨w1,w2,h1,h2⟩,s34 _ _ h2l,pl2.keep (Same.tups s34),xeh pok,h4l,sl4,xfs sok',fun H' a' dp' do' s5 f1 f2 f3 pic' st'=>?_⟩;exact q H' a' dp' do' ss' (s14.trans s5) (s14.free f1) (s14.free f2) (s14.free f3) pm pw' pic' st'
end
theorem xtv {sd:Str} (h:sd="left"\/sd="right"\/sd="both"):valV ([(Jf "left",V.str "right"),(Jf "right",V.str "left"),(Jf "both",V.str "both")]:List (Key × V)) (Jf sd)=some (.str (xes sd)):=by
 rcases h with rfl|rfl|rfl<;>decide +kernel
theorem xsf (b:Bool):valV ([(Jf "left",V.str "right"),(Jf "right",V.str "left"),(Jf "both",V.str "both")]:List (Key × V)) (Jf (xac b))=some (.str (xac (!b))):=by
 cases b<;>decide +kernel
section
variable {P:Program}{w:World}{K:Ze}{mg:Str->Option Value}{base:Heap}{t:Adr}
theorem ok_d (T:Txt w K mg t):FnOk true P w K mg base (CXo P w) 7 t.f_d t.d_d ["self"] (xnp t (fun w _ p=>mirP w p) (fun _ s=>mirS s)):=by
 refine T.F_d.okn (k:=6) sc_d (fun vs H Q E h=>?_) (fun cdv A outer s H vs Q E hr h=>?_)
 .obtain ⟨a,dp,do_,pw,ph,ps,ss,rfl,_⟩:=h;rfl
 .obtain ⟨a,dp,do_,pw,ph,ps,ss,rfl,h⟩:=h;refine⟨_,xj (x0 (i:=1) sc_d.nd rfl (ZS rfl) (xu xaq (x4 (pv 0) rfl) (xo)))
   (xj (xbm rfl (xay (zs:=["name", "x", "y", "sides", "low", "high"]) (ys:=["columns"]) (fr:=[1]) (N0:=["self", "columns", "points", "seats"]) (sc0:=xm s_d) (by decide +kernel) rfl rfl rfl) (xav (xaf (pv 0) T.c_b T.m_f (ok_f T) (hr.mono (by decide)) T.b_f .nil xg)) (fun _ _ _ _ _ ow nd=>(xar rfl (xp (xn (i:=0) nd rfl (Zo (ow _ (by simp))) (ZS (ow _ (by simp)))) (xp (xn (i:=1) nd rfl (Zo (ow _ (by simp))) (ZS (ow _ (by simp)))) (xp (xn (i:=2) nd rfl (Zo (ow _ (by simp))) (ZS (ow _ (by simp)))) (xp (xn (i:=3) nd rfl (Zo (ow _ (by simp))) (ZS (ow _ (by simp)))) (xp (xn (i:=4) nd rfl (Zo (ow _ (by simp))) (ZS (ow _ (by simp)))) (xp (xn (i:=5) nd rfl (Zo (ow _ (by simp))) (ZS (ow _ (by simp)))) (xag))))))):PG _ _ (gTup K 6 _))) (xbz (x5 (by decide) (x5 (by decide) (x5 (by decide) (x5 (by decide) (x5 (by decide) (x5 (by decide) (xbl)))))))) (fun _ _ _ _ _=>xa5) (fun _ _ _ _ _=>xal (xx (pv 0) (xx (xu xcj (pv 6) (pv 1)) (xx (pv 2) (xx (xk9 T.g_z T.D_z rfl (pv 3) (fun _ _=>rfl)) (xx (pv 4) (xx (pv 5) (xf) rfl) rfl) rfl) rfl) rfl) rfl)) (j:=2) rfl (Zo rfl))
   (xj (xbm rfl (xay (zs:=["side", "row"]) (ys:=[]) (fr:=[]) (N0:=["self", "columns", "points", "seats"]) (sc0:=xm s_d) (by decide +kernel) rfl rfl rfl) (xav (xaf (pv 0) T.c_b T.m_n (ok_n T) (hr.mono (by decide)) T.b_n .nil xg)) (fun _ _ _ _ _ ow nd=>(xar rfl (xp (xn (i:=0) nd rfl (Zo (ow _ (by simp))) (ZS (ow _ (by simp)))) (xp (xn (i:=1) nd rfl (Zo (ow _ (by simp))) (ZS (ow _ (by simp)))) (xag))):PG _ _ (gTup K 2 _))) (xbz (x5 (by decide) (x5 (by decide) (xbl)))) (fun _ _ _ _ _=>xa5) (fun _ _ _ _ _=>xal (xa (xk9 T.g_z T.D_z rfl (pv 0) (fun _ _=>rfl)) (xa (pv 1) (xf)))) (j:=3) rfl (Zo rfl))
   (xk (xz (xr (ok_q T) (hr.mono (by decide)) rfl T.g_q T.F_q.kp T.b_q .nil xg (xa (x4 (pv 0) rfl) (xa (x4 (pv 0) rfl) (xa (pv 2) (xa (pv 3) (xf)))))))))),?_⟩
  obtain⟨pic,st,pok,sok,q⟩:=h;obtain⟨⟨dx,hp⟩,_,w1,w2,h1,h2,_⟩:=id pic;refine⟨_,rfl,a,_,dx,_,_,rfl,hp,T.c_b,T.n_a7,lkW,_,_,rfl,rfl,?_⟩;refine⟨_,rfl,a,dx,_,rfl,hp,xan (by decide +kernel),a,dp,do_,pw,ph,ps,rfl,pic,fun H1 l1 qs s1 hl1 pt1=>?_⟩;have ple:=pok.le;have ql:=pt1.len;refine⟨l1,rfl,⟨_,SqL.of hl1⟩,fun l2 hl2=>?_⟩;refine xbw qs.length (fun i zs H2=>∃ rs:List Addr,zs=rs.map V.ref/\rs.length<=i/\Same H1 H2/\H2 l2=some (.lst zs)/\PtsL H2 ((ps.take i).map (mirP pw)) rs) ?_ ?_ ?_ ?_
  .exact ⟨[],rfl,Zj _,xq (Same.refl _) hl2,xb,by simpa using PtsL.nil⟩
  .rintro i zs H2 lt ⟨rs,_,_,s2,_⟩;exact⟨_,.ref qs[i],SqL.of (s2 _ _ hl1),by simp[lt]⟩
  .rintro i zs H2 v H3 lt ⟨rs,rfl,rl,s2,h2l,pl2⟩ ⟨rfl,hv⟩ N hN;have hv':=hv _ (SqL.of (s2 _ _ hl1));rw[Zf] at hv';obtain⟨o,ho,rfl⟩:=Zi.mp hv';obtain⟨p,hpp,ep⟩:=pt1.get ho;have okp:=pok.ok p (Zp hpp);refine⟨o,_,rfl,SqT.of (s2 _ _ ep),rfl,_,_,rfl,_,_,rfl,_,_,rfl,_,_,rfl,_,_,rfl,_,_,rfl,rfl,?_⟩;refine xhh ?_;refine⟨_,rfl,_,rfl,_,rfl,_,_,rfl,rfl,_,rfl,_,rfl,.inr p.sd,.str (xes p.sd),rfl,xtv okp.sd,_,rfl,_,rfl,(by show 6<=sizeLine; decide),fun p7 hp7=>?_⟩;have s7:=xq (o:=.tup (.str ((mirP pw) p).nm::ptV ((mirP pw) p))) (Same.refl _) hp7;have n7:l2≠p7:=xi h2l hp7;refine⟨s7 _ _ h2l,(by rw[Za]; exact ZV (by omega:rs.length<13) (by decide)),hN _ _ ⟨rs++[p7],by simp,by simp; omega,fun b u e=>?_,xb,?_⟩⟩
   .rw [xh (xi e hl2)];exact s7 _ _ (s2 _ _ e)
   .rw [ZI,hpp,Z9];refine PtsL.snoc (PtsL.keep (fun b xs e=>?_) pl2) ?_
    .rw [xh (xae e h2l (fun z=>nomatch z))];exact s7 _ _ e
    .rw [xh (ZE n7)];exact xb
  rintro zs H2 ⟨rs,rfl,rl,s2,h2l,pl2⟩;refine⟨⟨_,SqL.of (s2 _ _ hl1),by simp⟩,?_⟩;rw[ql,Jz] at pl2;have s12:Same H H2:=s1.trans s2;refine⟨_,rfl,a,dx,_,rfl,s12 _ _ hp,xan (by decide +kernel),a,dp,do_,pw,ph,ps,ss,rfl,Pic.same s12 pic,st.same s12,fun l3 ss' rs3 fr sl pm pw'=>?_⟩;have s3:Same H2 (upd H2 l3 (.lst (rs3.map V.ref))):=xq (Same.refl _) fr;have g3:upd H2 l3 (.lst (rs3.map V.ref)) l3=some (.lst (rs3.map V.ref)):=xb;have sl3:=sl.keep (Same.tups s3);revert s3 g3 sl3;generalize upd H2 l3 (.lst (rs3.map V.ref))=H3;intro s3 g3 sl3;have sok':=sok.perm pm;have rl3:=sl.len;refine⟨l3,rfl,⟨_,SqL.of g3⟩,fun l4 hl4=>?_⟩;refine xbw rs3.length (fun i zs H4=>∃ rs:List Addr,zs=rs.map V.ref/\rs.length<=i/\Same H3 H4/\H4 l4=some (.lst zs)/\x6 H4 ((ss'.take i).map (mirS)) rs) ?_ ?_ ?_ ?_
  .exact ⟨[],rfl,Zj _,xq (Same.refl _) hl4,xb,by simpa using x6.nil⟩
  .rintro i zs H4 lt ⟨rs,_,_,s4,_⟩;exact⟨_,.ref rs3[i],SqL.of (s4 _ _ g3),by simp[lt]⟩
  .rintro i zs H4 v H5 lt ⟨rs,rfl,rl,s4,h4l,sl4⟩ ⟨rfl,hv⟩ N hN;have hv':=hv _ (SqL.of (s4 _ _ g3));rw[Zf] at hv';obtain⟨o,ho,rfl⟩:=Zi.mp hv';obtain⟨s0,hs0,ep⟩:=sl3.get ho;have sle:=sok'.2.1;refine⟨o,_,rfl,SqT.of (s4 _ _ ep),rfl,_,_,rfl,_,_,rfl,rfl,?_⟩;refine xhh ?_;refine⟨_,rfl,.inr (xac s0.1),.str (xac (!s0.1)),rfl,xsf s0.1,_,rfl,(by show 2<=sizeLine; decide),fun p7 hp7=>?_⟩;have s7:=xq (o:=.tup (xch ((mirS) s0))) (Same.refl _) hp7;have n7:l4≠p7:=xi h4l hp7;refine⟨s7 _ _ h4l,(by rw[Za]; exact ZV (by omega:rs.length<33) (by decide)),hN _ _ ⟨rs++[p7],by simp,by simp; omega,fun b u e=>?_,xb,?_⟩⟩
   .rw [xh (xi e hl4)];exact s7 _ _ (s4 _ _ e)
   .rw [ZI,hs0,Z9];refine x6.snoc (x6.keep (fun b xs e=>?_) sl4) ?_
    .rw [xh (xae e h4l (fun z=>nomatch z))];exact s7 _ _ e
    .rw [xh (ZE n7)];exact xb
  rintro zs H4 ⟨rs,rfl,rl,s4,h4l,sl4⟩;refine⟨⟨_,SqL.of (s4 _ _ g3),by simp⟩,?_⟩;rw[rl3,Jz] at sl4;have s34:Same H2 H4:=s3.trans s4;have s14:Same H H4:=s12.trans s34;refine⟨_,rfl,a,_,dx,_,_,rfl,(s14 _ _ hp),T.c_b,T.n_a7,lkW,_,rfl,a,_,dx,_,_,rfl,(s14 _ _ hp),T.c_b,T.n_a6,lkH,_,rfl,_,rfl,pw,ph,l2,l4,ps.map (mirP pw),_,ss'.map (mirS),rs,rfl,⟨w1,w2,h1,h2⟩,s34 _ _ h2l,pl2.keep (Same.tups s34),xec pok,h4l,sl4,xfw sok',fun H' a' dp' do' s5 f1 f2 f3 pic' st'=>?_⟩;exact q H' a' dp' do' ss' (s14.trans s5) (s14.free f1) (s14.free f2) (s14.free f3) pm pw' pic' st'
end
abbrev Pr:=Pt × Bool × Int
def prV (p:Pr):List V:=[.str p.1.nm,.str (xac p.2.1),.int p.2.2]
inductive PrsL (H:Hp):List Pr->List Addr->Prop
 | nil:PrsL H [] []
 | cons {p:Pr}{q:Addr}{ps:List Pr}{qs:List Addr} (h:H q=some (.tup (prV p))) (r:PrsL H ps qs):PrsL H (p::ps) (q::qs)
theorem PrsL.keep {H H':Hp} (s:Tups H H') {ps:List Pr}{qs:List Addr} (h:PrsL H ps qs):PrsL H' ps qs:=by
 induction h with
 | nil=>exact .nil
 | cons h _ ih=>exact .cons (s _ _ h) ih
theorem PrsL.len {H:Hp}{ps:List Pr}{qs:List Addr} (h:PrsL H ps qs):qs.length=ps.length:=by
 induction h with
 | nil=>rfl
 | cons _ _ ih=>simp[ih]
theorem PrsL.snoc {H:Hp}{ps:List Pr}{qs:List Addr} (h:PrsL H ps qs) {p:Pr}{q:Addr} (e:H q=some (.tup (prV p))):PrsL H (ps++[p]) (qs++[q]):=by
 induction h with
 | nil=>exact .cons e .nil
 | cons h _ ih=>exact .cons h ih
theorem PrsL.get {H:Hp}{ps:List Pr}{qs:List Addr} (h:PrsL H ps qs) {i:Nat}{q:Addr} (e:qs[i]?=some q):∃ p,ps[i]?=some p/\H q=some (.tup (prV p)):=by
 induction h generalizing i with
 | nil=>simp at e
 | @cons p q' ps qs h _ ih =>
  cases i with
  | zero =>
   simp at e;subst e;exact⟨p,rfl,h⟩
  | succ j=>exact ih (by simpa using e)
structure PrOk (ps:List Pt) (w h:Int) (p:Pr):Prop where
 nm:isNm p.1.nm=true
 fd:ps.find? (fun z=>decide (z.nm=p.1.nm))=some p.1
 r1:1<=p.2.2
 r2:p.2.2<=h
 xy:1<=p.1.x/\p.1.x<=w/\1<=p.1.y/\p.1.y<=h
def scD:V->DV
 | .int i=>.int i
 | .bl b=>.bl b
 | .str s=>.str s
 | _=>.non
def scV:V->Bool
 | .int _=>true
 | .bl _=>true
 | .str _=>true
 | .non=>true
 | _=>false
theorem xu7 {K:Ze}{H:Hp}{v:V} (h:scV v=true):Dv K H 0 v (scD v):=by
 cases v with
 | int i=>exact .int
 | bl b=>exact .bl
 | str s=>exact .str
 | non=>exact .non
 | _=>cases h
theorem xdt {K:Ze}{H:Hp}{xs:List V} (f:xs.all scV=true) (j:Nat) (x:V) (d:DV) (h1:xs[j]?=some x) (h2:(xs.map scD)[j]?=some d):Dv K H 0 x d:=by
 rw[Zf,h1] at h2;cases h2;exact xu7 (YM.mp f x (Zp h1))
abbrev Cl:=Int × Int
def ck (c:Cl):List Key:=[.inl c.1,.inl c.2]
theorem xty {a b:Cl} (h:ck a=ck b):a=b:=by
 obtain⟨x,y⟩:=a;obtain⟨u,v⟩:=b;have h1:=JS.inj h;have h2:=JS.inj h1.2;rw[show x=u from Y9.inj h1.1,show y=v from Y9.inj h2.1]
def SD (H:Hp) (d:Addr) (n:Nat) (m:Cl->Option Str):Prop:=∃ kvs,H d=some (.dT kvs)/\kvs.length<=n/\(kvs.map (·.1)).Nodup/\(∀ kv∈kvs,∃ c,kv.1=ck c)/\∀ c,valV kvs (ck c)=(m c).map V.str
theorem xiv {κ:Type} [DecidableEq κ] (kvs:List (κ × V)) (k:κ) (v:V):(putK kvs k v).map (·.1)=kvs.map (·.1)\/(valV kvs k=none/\(putK kvs k v).map (·.1)=kvs.map (·.1)++[k]):=by
 cases e:valV kvs k with
 | none =>
  rw[xc7 v e,Z9];exact .inr ⟨rfl,rfl⟩
 | some y =>
  left;unfold putK;rw[if_pos (by rw[xc8,e]; rfl),Zl]
  congr 1
  funext kv;show (if kv.1=k then (kv.1,v) else kv).1=kv.1;split<;>rfl
theorem xgm {κ:Type} [DecidableEq κ]:∀{kvs:List (κ × V)}{k:κ},valV kvs k=none->k∉kvs.map (·.1)
 | [],_,_,h=>nomatch h
 | x::r,k,e,h=>by
  by_cases z:x.1=k
  .rw [xa2 z] at e;cases e
  .rw [xa0 z] at e;rcases Zx.mp h with h|h
   .exact z h.symm
   .exact xgm e h
theorem xle {κ:Type} [DecidableEq κ] {kvs:List (κ × V)}{k:κ}{v:V} (h:(kvs.map (·.1)).Nodup):((putK kvs k v).map (·.1)).Nodup:=by
 rcases xiv kvs k v with e|⟨e0,e⟩
 .rw [e];exact h
 .rw [e,ZT];refine⟨h,by simp,fun a ha b hb z=>xgm e0 ?_⟩;rw[Zw.mp hb] at z;exact z▸ha
theorem xjw {κ:Type} [DecidableEq κ] {kvs:List (κ × V)}{k:κ}{v:V}{P:κ->Prop} (hk:P k) (h:∀ kv∈kvs,P kv.1):∀ kv∈putK kvs k v,P kv.1:=fun kv hkv=>by
 have m:kv.1∈(putK kvs k v).map (·.1):=Zd.mpr ⟨kv,hkv,rfl⟩;rcases xiv kvs k v with e|⟨_,e⟩
 .rw [e] at m;obtain⟨z,hz,ez⟩:=Zd.mp m;rw[<- ez];exact h z hz
 .rw [e] at m;rcases Z8.mp m with m|m
  .obtain ⟨z,hz,ez⟩:=Zd.mp m;rw[<- ez];exact h z hz
  .rw [Zw.mp m];exact hk
theorem SD.put {H:Hp}{d:Addr}{n:Nat}{m:Cl->Option Str} (s:SD H d n m) (hn:n<1000) {b:Addr}{c:Cl} (eb:H b=some (.tup [.int c.1,.int c.2])) (x:Str) :
    ∃ H',DPut H d (.ref b) (.str x) H'/\SD H' d (n+1) (Drw.set1 m c x)/\(∀ a u,a≠d->H a=some u->H' a=some u)/\∀ a,H a=none->H' a=none:=by
  obtain⟨kvs,e,l,nd,ks,vs⟩:=s;refine⟨_,DPut.t (k:=ck c) e eb (ZA (by omega:_<=1000) (by decide)),⟨_,xb,?_,xle nd,xjw (P:=fun k=>∃ c,k=ck c) ⟨c,rfl⟩ ks,fun z=>?_⟩,fun a u na ea=>by rw[xh na]; exact ea,fun a ea=>by rw[xh (fun z=>by rw[z,e] at ea; cases ea)]; exact ea⟩
  . have:=xbs kvs (ck c) (.str x)
    omega
  . rw[xj0]
    unfold Drw.set1;by_cases zc:z=c
    . rw[if_pos (by rw[zc]),if_pos zc]
      rfl
    . rw[if_neg (fun y=>zc (xty y)),if_neg zc]
      exact vs z
theorem SD.get {H:Hp}{d:Addr}{n:Nat}{m:Cl->Option Str} (s:SD H d n m) {b:Addr}{c:Cl} (eb:H b=some (.tup [.int c.1,.int c.2])):DGet H d (.ref b) ((m c).map V.str):=by
 obtain⟨kvs,e,l,nd,ks,vs⟩:=s;rw[<- vs c];exact DGet.t (k:=ck c) e eb
theorem SD.keep {H H':Hp}{d:Addr}{n:Nat}{m:Cl->Option Str} (s:SD H d n m) (h:∀ u,H d=some u->H' d=some u):SD H' d n m:=by
 obtain⟨kvs,e,r⟩:=s;exact⟨kvs,h _ e,r⟩
theorem SD.le {H:Hp}{d:Addr}{n k:Nat}{m:Cl->Option Str} (s:SD H d n m) (h:n<=k):SD H d k m:=by
 obtain⟨kvs,e,l,r⟩:=s;exact⟨kvs,e,by omega,r⟩
theorem SD.new {H:Hp}{d:Addr} (e:H d=some (.dT [])):SD H d 0 Drw.no:=⟨[],e,Zj _,QH,fun _ z=>(nomatch z),fun _=>rfl⟩
def lsS (x r:Int) (c:Cl):Str:=Drw.ls (Zb "+") (Zb "|") (Zb "-") x r c
def ledS (w:Int) (p:Pr):List (Cl × Str):=Drw.ledP (Zb "+") (Zb "|") (Zb "-") w p.1.x p.1.y p.2.1 p.2.2
def hsS:Str:=Zb "#"
theorem xod {w x y:Int}{b:Bool}{r:Int} (h1:1<=x) (h2:x<=w) (h3:w<=30) (h4:1<=y) (h5:y<=16) (h6:1<=r) (h7:r<=16):(Geo.cells w x y b r).length<=50:=by
 unfold Geo.cells Geo.upL Geo.lvL Geo.upN Geo.lvN;rw[Zs,Za,Za,Zv,Zv];split<;>split<;>omega
theorem xsh (c d:Cl):DV.tup [.int c.1,.int c.2]=DV.tup [.int d.1,.int d.2]↔c=d:=by
 constructor
 .intro h
  have h1:=JS.inj (DV.tup.inj h);have h2:=JS.inj h1.2;exact Yc (DV.int.inj h1.1) (DV.int.inj h2.1)
 .intro h
  rw[h]
def xrt:Sp:=fun vs H Q _=>∃(q:Addr) (c:Cl) (x r:Int),vs=[.ref q,.int x,.int r]/\H q=some (.tup [.int c.1,.int c.2])/\∀ H',Same H H'->Q (.str (lsS x r c)) H'
def xpk (t:Adr):Sp:=fun vs H Q _=>∃(a l dp do_:Addr) (pw ph:Int) (ps:List Pt) (prs:List Pr) (qs:List Addr),vs=[.ref a,.ref l]/\Pic t H a dp do_ pw ph ps/\H l=some (.lst (qs.map V.ref))/\PrsL H prs qs/\(∀ p∈prs,PrOk ps pw ph p)/\prs.length<=12 /\
 ∀ H' d,Same H H'->H d=none->SD H' d 600 (Drw.marks hsS Drw.no (prs.flatMap (ledS pw)))->Q (.ref d) H'
section
variable {P:Program}{w:World}{K:Ze}{mg:Str->Option Value}{base:Heap}{t:Adr}
theorem ok_as (T:Txt w K mg t):FnOk true P w K mg base (CXo P w) 1 t.f_as t.d_as ["cell", "x", "row"] (xrt):=by
 refine T.F_as.okn (k:=0) sc_as (fun vs H Q E h=>?_) (fun cdv A outer s H vs Q E hr h=>?_)
 .obtain ⟨q,c,x,r,rfl,_⟩:=h;rfl
 .obtain ⟨q,c,x,r,rfl,h⟩:=h;refine⟨_,xj (xap (xaa (xem (xbp hr)) (pv 0) (xal (xa (pv 1) (xa (pv 2) (xf)))) (x9 _)) (xk (xz (xad))) (x8))
   (xk (xz (xc6 (xaa xbo (xba xbd (pv 0) (xo) (fun _ _=>rfl)) (pv 1) (x9 _)) (xad) (xad)))),?_⟩
  obtain⟨hq,h⟩:=h;refine⟨_,rfl,_,rfl,_,rfl,(by show 2<=sizeLine; decide),fun p1 hp1=>?_⟩;have s1:Same H (upd H p1 (.tup [.int x,.int r])):=xq (Same.refl _) hp1;have g1:upd H p1 (.tup [.int x,.int r]) p1=some (.tup [.int x,.int r]):=xb;revert s1 g1;generalize upd H p1 (.tup [.int x,.int r])=H1;intro s1 g1;have d1:Dv K H1 1 (.ref q) (.tup [.int c.1,.int c.2]):=.tup (SqT.of (s1 _ _ hq)) rfl (xdt (xs:=[.int c.1,.int c.2]) rfl);have d2:Dv K H1 1 (.ref p1) (.tup [.int x,.int r]):=.tup (SqT.of g1) rfl (xdt (xs:=[.int x,.int r]) rfl);refine⟨1,1,_,_,d1,d2,by decide,by decide,_,rfl,?_⟩;rw[xre (x:=c) (y:=(x,r)) rfl rfl (xsh c (x,r))];have e0:lsS x r c=if c=(x,r) then Zb "+" else if c.1=x then Zb "|" else Zb "-":=rfl
  refine ite2 (fun z=>?_) (fun z=>?_)
  .have e:=h H1 s1;rw[e0,if_pos (of_decide_eq_true z)] at e;exact e
  .have nz:¬ c=(x,r):=fun y=>z (decide_eq_true y);refine⟨_,rfl,q,_,0,.int c.1,rfl,rfl,SqT.of (s1 _ _ hq),rfl,_,rfl,rfl,_,rfl,?_⟩;have e:=h H1 s1;rw[e0,if_neg nz] at e;refine ite2 (fun y=>?_) (fun y=>?_)
   .have y1:c.1=x:=V.int.inj (of_decide_eq_true y);rw[if_pos y1] at e;exact e
   .have y1:¬ c.1=x:=fun w=>y (decide_eq_true (by rw[w]));rw[if_neg y1] at e;exact e
theorem ok_ad (T:Txt w K mg t):FnOk true P w K mg base (CXo P w) 7 t.f_ad t.d_ad ["picture", "pairs"] (xpk t):=by
 refine T.F_ad.okn (k:=6) sc_ad (fun vs H Q E h=>?_) (fun cdv A outer s H vs Q E hr h=>?_)
 .obtain ⟨a,l,dp,do_,pw,ph,ps,prs,qs,rfl,_⟩:=h;rfl
 .obtain ⟨a,l,dp,do_,pw,ph,ps,prs,qs,rfl,h⟩:=h;refine⟨_,xj (x0 (i:=2) sc_ad.nd rfl (Zo rfl) (xjk))
   (xj (xa9 ZM rfl (xav (pv 1)) (xar rfl (xp (xn (i:=3) sc_ad.nd rfl (Zo rfl)) (xp (xn (i:=4) sc_ad.nd rfl (Zo rfl)) (xp (xn (i:=5) sc_ad.nd rfl (Zo rfl)) (xag))))) (xj (xdz (xaw (pv 0) T.c_b T.m_g (ok_g T) (hr.mono (by decide)) T.b_g .nil xg (xa (pv 3) (xf))) (xar rfl (xp (xn (i:=6) sc_ad.nd rfl (Zo rfl)) (xp (xn (i:=7) sc_ad.nd rfl (Zo rfl)) (xag)))))
   (xk (xa9 ZM rfl (xav (xr (ok_a1 T) (hr.mono (by decide)) rfl T.g_a1 T.F_a1.kp T.b_a1 .nil xg (xa (pv 0) (xa (pv 3) (xa (pv 4) (xa (pv 5) (xf))))))) (xn (i:=8) sc_ad.nd rfl (Zo rfl)) (xk (xdp (xbh hr) (pv 2) (pv 8) (xc6 (xep (xke (xbh hr) (pv 8) (pv 2))) (xad) (xr (ok_as T) (hr.mono (by decide)) rfl T.g_as T.F_as.kp T.b_as .nil xg (xa (pv 8) (xa (pv 6) (xa (pv 5) (xf)))))) rfl))))))
   (xk (xz (pv 2)))),?_⟩
  obtain⟨pic,hl,prl,oks,l12,q⟩:=h;have pll:=prl.len;refine fun d hd=>?_;have s1:Same H (upd H d (.dT [])):=xq (Same.refl _) hd;have g1:upd H d (.dT []) d=some (.dT []):=xb;revert s1 g1;generalize upd H d (.dT [])=H1;intro s1 g1;refine⟨_,rfl,l,rfl,⟨_,SqL.of (s1 _ _ hl)⟩,?_⟩;refine xbi (xs:=qs.map V.ref) (Pv:=fun i σ H5=>∃(v3 v4 v5 v6 v7 v8:Option V),σ=[some (.ref a),some (.ref l),some (.ref d),v3,v4,v5,v6,v7,v8]/\Same H H5/\SD H5 d (50*i) (Drw.marks hsS Drw.no ((prs.take i).flatMap (ledS pw)))) ⟨_,_,_,_,_,_,rfl,s1,SD.new g1⟩ ?_ ?_ ?_
  .rintro i σ H5 _ ⟨_,_,_,_,_,_,rfl,s5,_⟩;exact SqL.of (s5 _ _ hl)
  .rintro i x σ H5 hx ⟨v3,v4,v5,v6,v7,v8,rfl,s5,sd⟩;rw[Zf,Zi] at hx;obtain⟨qa,hqa,rfl⟩:=hx;obtain⟨⟨pt,b,r⟩,hp,hpq⟩:=prl.get hqa;have ok:=oks _ (Zp hp);have i12:i<12:=by have:=(Zk.mp hp).1; omega
   have w2:=pic.w2;have h2:=pic.h2;have xy:1<=pt.x/\pt.x<=pw/\1<=pt.y/\pt.y<=ph:=ok.xy;have r1:1<=r:=ok.r1;have r2:r<=ph:=ok.r2;refine⟨qa,_,rfl,SqT.of (s5 _ _ hpq),rfl,_,_,rfl,_,_,rfl,_,_,rfl,rfl,?_⟩;have pic5:=Pic.same s5 pic;obtain⟨⟨dx,hpi⟩,_⟩:=id pic5;refine⟨_,rfl,a,dx,_,rfl,hpi,xan (by decide +kernel),_,rfl,a,dp,do_,pw,ph,ps,pt.nm,pt,rfl,pic5,ok.nm,ok.fd,fun H6 q6 s6 hq6=>⟨q6,_,rfl,SqT.of hq6,rfl,_,_,rfl,_,_,rfl,rfl,?_⟩⟩;refine⟨_,rfl,_,rfl,_,rfl,_,rfl,a,dp,do_,pw,ph,ps,pt.nm,pt,b,r,rfl,Pic.same s6 pic5,ok.nm,ok.fd,ok.r1,ok.r2,ok.xy,fun H7 l7 cq s7 hl7 cl7 c100=>⟨l7,rfl,⟨_,SqL.of hl7⟩,?_⟩⟩;have sd7:=sd.keep (H':=H7) (fun u e=>s7 _ _ (s6 _ _ e));have ne7:l7≠d:=by
    obtain⟨kvs,e,_⟩:=sd7;exact xae hl7 e (fun z=>nomatch z)
   have cll:=cl7.len;have c50:=xod (b:=b) xy.1 xy.2.1 w2 xy.2.2.1 (by omega) r1 (by omega);have ll:(ledS pw (pt,b,r)).length=cq.length:=by
    unfold ledS Drw.ledP;rw[Za,cll]
   refine xbi (xs:=cq.map V.ref) (Pv:=fun j σ H8=>∃(v8:Option V),σ=[some (.ref a),some (.ref l),some (.ref d),some (.str pt.nm),some (.str (xac b)),some (.int r),some (.int pt.x),some (.int pt.y),v8]/\(∀ c u,c≠d->H7 c=some u->H8 c=some u)/\SD H8 d (50*i+j) (Drw.marks hsS (Drw.marks hsS Drw.no ((prs.take i).flatMap (ledS pw))) ((ledS pw (pt,b,r)).take j))) ⟨_,rfl,fun c u _ e=>e,sd7⟩ ?_ ?_ ?_
   .rintro j σ H8 _ ⟨_,rfl,k8,_⟩;exact SqL.of (k8 _ _ ne7 hl7)
   .rintro j x σ H8 hx ⟨v8,rfl,k8,sd8⟩;rw[Zf,Zi] at hx;obtain⟨qc,hqc,rfl⟩:=hx;obtain⟨c,hc,hc7⟩:=cl7.get hqc;have j50:j<50:=by have:=(Zk.mp hqc).1; omega
    have nqc:qc≠d:=by
     obtain⟨kvs,e,_⟩:=sd7;exact xae hc7 e (fun z=>nomatch z)
    have hc8:=k8 _ _ nqc hc7;have stp:∀ m:Cl->Option Str,Drw.marks hsS m ((ledS pw (pt,b,r)).take (j+1))=Drw.mark1 hsS (Drw.marks hsS m ((ledS pw (pt,b,r)).take j)) c (lsS pt.x r c):=fun m=>by
     have e:(ledS pw (pt,b,r))[j]?=some (c,lsS pt.x r c):=by
      unfold ledS Drw.ledP;rw[Zf,hc];rfl
     rw[ZI,e];unfold Drw.marks;rw[Qd];rfl
    refine⟨_,rfl,_,rfl,d,_,rfl,sd8.get hc8,_,rfl,ite2 (fun z=>?_) (fun z=>?_)⟩
    .rw [YC] at z;obtain⟨H9,dput,sd9,k9,_⟩:=sd8.put (by omega) hc8 hsS;refine⟨_,rfl,_,rfl,d,H9,rfl,dput,_,rfl,fun c u nc e=>k9 _ _ nc (k8 _ _ nc e),?_⟩;rw[stp];unfold Drw.mark1;rw[if_pos z];exact sd9
    .rw [YC] at z;refine⟨_,rfl,_,rfl,_,rfl,qc,c,pt.x,r,rfl,hc8,fun H9 s9=>?_⟩;obtain⟨H10,dput,sd10,k10,_⟩:=(sd8.keep (H':=H9) (fun u e=>s9 _ _ e)).put (by omega) (s9 _ _ hc8) (lsS pt.x r c);refine⟨_,rfl,_,rfl,d,H10,rfl,dput,_,rfl,fun c u nc e=>k10 _ _ nc (s9 _ _ (k8 _ _ nc e)),?_⟩;rw[stp];unfold Drw.mark1;rw[if_neg z];exact sd10
   .rintro σ H8 ⟨v8',rfl,k8,sd8⟩;rw[Za] at sd8;refine⟨_,_,_,_,_,_,rfl,fun c u e=>k8 _ _ (xi e hd) (s7 _ _ (s6 _ _ (s5 _ _ e))),?_⟩;rw[JL (l:=ledS pw (pt,b,r)) (by omega)] at sd8;have e:(prs.take (i+1)).flatMap (ledS pw)=(prs.take i).flatMap (ledS pw)++ledS pw (pt,b,r):=by
     rw[ZI,hp,YV];exact congrArg _ (Yh _)
    rw[e];refine SD.le ?_ (show 50*i+cq.length<=50*(i+1) by omega);unfold Drw.marks at sd8 ⊢;rw[Qd];exact sd8
  .rintro σ H5 ⟨v3,v4,v5,v6,v7,v8,rfl,s5,sd⟩;refine⟨_,rfl,q H5 d s5 hd ?_⟩;rw[Za,JL (by omega)] at sd;exact sd.le (by omega)
end
theorem xkc {lo:Int}{m n:Nat}{g:TG}{σ:L2.St}{fr:List Nat}{te:TE}{l:Addr}{H1:Hp}{Q:VK} (hlen:m<sizeLine) (hl:H1 l=none) (f:Nat->V)
    (step:∀(i:Nat) H2,i<m->Same H1 H2->∀(N:V->Hp->Prop),(∀ H',Same H2 H'->N (f i) H')->g (.int (lo+i)) (blk0 σ fr n) H2 fun σ' H3=>te σ' H3 N)
    (fin:∀ H2,Same H1 H2->H2 l=some (.lst ((Zz m).map f))->Q (.ref l) H2):xc2 (Itr lo m) n g σ fr xdd te l H1 Q:=by
  refine xeu hlen hl (fun i y _=>y=f i) (fun _ _ _ _ _ z=>z) (fun i H2 hi s N h=>step i H2 hi s N fun H' s'=>h _ H' s' rfl) (fun ys H2 s e ly fy=>fin H2 s ?_);rw[e]
  congr 2
  refine List.ext_getElem (by rw[ly,Za,Zv]) fun i h1 h2=>?_;rw[fy i _ (Zh h1),YL,JF]
def rimC (w:Int) (s:Seat):Cl:=(Drw.rim w s.1,s.2)
def xbc (w:Int) (ss:List Seat):List (Cl × Str):=ss.map fun s=>(rimC w s,Zb ".")
def xa3 (w:Int) (prs:List Pr):List (Cl × Str):=prs.map fun p=>(rimC w p.2,p.1.nm)
def ptsS (ps:List Pt):List (Cl × Str):=ps.map fun p=>((p.x,p.y),p.nm)
def xme (w:Int) (ss:List Seat) (prs:List Pr):Cl->Option Str:=Drw.sets (Drw.sets Drw.no (xbc w ss)) (xa3 w prs)
def rowT (w:Nat) (r:Int) (m:Cl->Option Str):Str:=Y0 (Zb "") ((Zz (w+2)).map fun (j:Nat)=>(m ((j:Int),r)).getD (Zb " "))
def xed (w h:Nat) (m:Cl->Option Str):List V:=(Zz h).map fun (i:Nat)=>V.str (rowT w (1+(i:Int)) m)
def xqv (m:Cl->Option Str):Prop:=∀ c s,m c=some s->s.length<=5
def xue (t:Adr):Sp:=fun vs H Q _=>∃(a l dp do_:Addr) (pw ph:Int) (ps:List Pt) (ss srt:List Seat) (prs:List Pr) (qs:List Addr),vs=[.ref a,.ref l]/\Pic t H a dp do_ pw ph ps/\Sts H do_ ss/\ss.length<=32/\srt.Perm ss/\srt.Pairwise xbj/\H l=some (.lst (qs.map V.ref))/\PrsL H prs qs/\prs.length<=12 /\
 ∀ H' d,Same H H'->H d=none->SD H' d 50 (xme pw srt prs)->Q (.ref d) H'
def xuv:Sp:=fun vs H Q _=>∃(d:Addr) (n w:Nat) (r:Int) (m:Cl->Option Str),vs=[.ref d,.int (w:Int),.int r]/\SD H d n m/\xqv m/\w<=30/\∀ H',Same H H'->Q (.str (rowT w r m)) H'
theorem xqq {t:Adr}{σ:L2.St}{H:Hp}{Q:VK}{i j:Nat}{b:Bool}{w:Int} (hi:σ[i]?=some (some (.str (xac b)))) (hj:σ[j]?=some (some (.int w))) (h:∀ H',Same H H'->Q (.int (Drw.rim w b)) H') :
    xjg t.C_ae (Zb "rim") (sp1 (V.int 0)) [] (fun _ _ _ _=>False) (xmg (xgq t) [] (fun _ _ _ _=>False) (xfv (tVar i) (xfv (tVar j) tNil))) tNil σ H Q \/
    xjg t.C_t (Zb "rim") (xq1 t) [] (fun _ _ _ _=>False) (xmg (xgq t) [] (fun _ _ _ _=>False) (xfv (tVar i) (xfv (tVar j) tNil))) tNil σ H Q:=by
  cases b
  . refine .inr ⟨_,hi,_,hj,false,w,rfl,fun p H3 hp3 sd3 s3=>?_⟩
    obtain⟨ds,hs⟩:=id sd3;exact⟨p,ds,_,rfl,hs,lno (by decide +kernel),p,w,rfl,sd3,h H3 s3⟩
  . refine .inl ⟨_,hi,_,hj,true,w,rfl,fun p H3 hp3 sd3 s3=>?_⟩
    obtain⟨ds,hs⟩:=id sd3;exact⟨p,ds,_,rfl,hs,lno (by decide +kernel),_,rfl,h H3 s3⟩
theorem SD.puts {d:Addr}:∀(L:List (Addr × Cl × Str)) {H:Hp}{n:Nat}{m:Cl->Option Str},SD H d n m->n+L.length<=1000->(∀ x∈L,H x.1=some (.tup [.int x.2.1.1,.int x.2.1.2])) ->
    ∃ H2,xf1 d H (L.map fun x=>(V.ref x.1,V.str x.2.2)) H2/\SD H2 d (n+L.length) (Drw.sets m (L.map fun x=>(x.2.1,x.2.2)))/\∀ a u,a≠d->H a=some u->H2 a=some u
  | [],H,n,m,s,_,_=>⟨H,.nil,s,fun _ _ _ e=>e⟩
  | x::L,H,n,m,s,hn,hk=>by
    rw[ZQ] at hn;obtain⟨H1,dp,s1,k1,_⟩:=s.put (by omega) (hk x (Z0 ..)) x.2.2;obtain⟨H2,dps,s2,k2⟩:=SD.puts L s1 (by omega) (fun y hy=>by
      have e:=hk y (Z1 _ hy);obtain⟨kvs,ed,_⟩:=s;exact k1 _ _ (xae e ed (fun z=>nomatch z)) e)
    exact⟨H2,.cons dp dps,s2.le (by rw[ZQ]; omega),fun a u na e=>k2 _ _ na (k1 _ _ na e)⟩
theorem xiz {H:Hp}{w:Int}:∀{ss:List Seat}{ys:List V},ys.length=ss.length->(∀(i:Nat) (y:V),ys[i]?=some y->∃ p kp s,y=.ref p/\ss[i]?=some s/\H p=some (.tup [.ref kp,.str (Zb ".")])/\H kp=some (.tup [.int (Drw.rim w s.1),.int s.2])) ->
    ∃ L:List (Addr × Addr × Seat),ys=L.map (fun x=>V.ref x.1)/\L.map (·.2.2)=ss/\∀ x∈L,H x.1=some (.tup [.ref x.2.1,.str (Zb ".")])/\H x.2.1=some (.tup [.int (Drw.rim w x.2.2.1),.int x.2.2.2])
  | [],[],_,_=>⟨[],rfl,rfl,fun _ z=>nomatch z⟩
  | s::ss,y::ys,hl,h=>by
    obtain⟨p,kp,s',rfl,es,h1,h2⟩:=h 0 y rfl;cases es;obtain⟨L,e1,e2,e3⟩:=xiz (ss:=ss) (ys:=ys) (by simpa using hl) (fun i z hz=>h (i+1) z hz);refine⟨(p,kp,s)::L,by rw[e1]; rfl,by rw[<- e2]; rfl,fun x hx=>?_⟩;rcases Zx.mp hx with rfl|hx
    . exact⟨h1,h2⟩
    . exact e3 x hx
  | [],_::_,hl,_=>nomatch hl
  | _::_,[],hl,_=>nomatch hl
theorem xie {m:Cl->Option Str}{L:List (Cl × Str)}{i:Nat}{c:Cl}{x:Str} (h:L[i]?=some (c,x)):Drw.sets m (L.take (i+1))=Drw.set1 (Drw.sets m (L.take i)) c x:=by
 rw[ZI,h];unfold Drw.sets;rw[Qd];rfl
section
variable {P:Program}{w:World}{K:Ze}{mg:Str->Option Value}{base:Heap}{t:Adr}
theorem ok_ax (T:Txt w K mg t):FnOk true P w K mg base (CXo P w) 7 t.f_ax t.d_ax ["picture", "pairs"] (xue t):=by
 refine T.F_ax.okn (k:=6) sc_ax (fun vs H Q E h=>?_) (fun cdv A outer s H vs Q E hr h=>?_)
 .obtain ⟨a,l,dp,do_,pw,ph,ps,ss,srt,prs,qs,rfl,_⟩:=h;rfl
 .obtain ⟨a,l,dp,do_,pw,ph,ps,ss,srt,prs,qs,rfl,h⟩:=h;refine⟨_,xj (x0 (i:=2) sc_ax.nd rfl (ZS rfl) (x4 (pv 0) rfl))
   (xj (x0 (i:=3) sc_ax.nd rfl (Zo rfl) (xcm (xkx rfl (xui hr)) rfl T.n_dict boot_dict (xa (xbt rfl (xay (zs:=["side", "row"]) (ys:=["width"]) (fr:=[2]) (N0:=["picture", "pairs", "width", "signs", "name", "side", "row"]) (sc0:=xm s_ax) (by decide +kernel) rfl rfl rfl) (xav (xaf (pv 0) T.c_b T.m_n (ok_n T) (hr.mono (by decide)) T.b_n .nil xg)) (fun _ _ _ _ _ ow nd=>(xar rfl (xp (xn (i:=0) nd rfl (Zo (ow _ (by simp))) (ZS (ow _ (by simp)))) (xp (xn (i:=1) nd rfl (Zo (ow _ (by simp))) (ZS (ow _ (by simp)))) (xag))):PG _ _ (gTup K 2 _))) (xbz (x5 (by decide) (x5 (by decide) (xbl)))) (fun _ _ _ _ _=>xa5) (fun _ _ _ _ _=>xal (xa (xal (xa (xeq (xaf (xr (ok_ao T) (hr.mono (by decide)) rfl T.g_ao T.F_ao.kp T.b_ao .nil xg (xa (pv 0) (xa (pv 2) (xf)))) T.c_ae T.m_y (ok_y T) (hr.mono (by decide)) T.b_y .nil xg) (xaf (xr (ok_ao T) (hr.mono (by decide)) rfl T.g_ao T.F_ao.kp T.b_ao .nil xg (xa (pv 0) (xa (pv 2) (xf)))) T.c_t T.m_u (ok_u T) (hr.mono (by decide)) T.b_u .nil xg)) (xa (pv 1) (xf)))) (xa (xad) (xf))))) (xf))))
   (xj (xa9 ZM rfl (xav (pv 1)) (xar rfl (xp (xn (i:=4) sc_ax.nd rfl (Zo rfl)) (xp (xn (i:=5) sc_ax.nd rfl (Zo rfl)) (xp (xn (i:=6) sc_ax.nd rfl (Zo rfl)) (xag))))) (xk (xdp (xbh hr) (pv 3) (xal (xa (xeq (xaf (xr (ok_ao T) (hr.mono (by decide)) rfl T.g_ao T.F_ao.kp T.b_ao .nil xg (xa (pv 5) (xa (pv 2) (xf)))) T.c_ae T.m_y (ok_y T) (hr.mono (by decide)) T.b_y .nil xg) (xaf (xr (ok_ao T) (hr.mono (by decide)) rfl T.g_ao T.F_ao.kp T.b_ao .nil xg (xa (pv 5) (xa (pv 2) (xf)))) T.c_t T.m_u (ok_u T) (hr.mono (by decide)) T.b_u .nil xg)) (xa (pv 6) (xf)))) (pv 4) rfl)))
   (xk (xz (pv 3))))),?_⟩
  obtain⟨pic,sts,l32,pm,pw',hl,prl,l12,q⟩:=h;obtain⟨⟨dx,hpi⟩,_⟩:=id pic;have pll:=prl.len;have lens:=pm.length_eq;refine⟨_,rfl,a,_,_,_,_,rfl,hpi,T.c_b,T.n_a7,lkW,?_⟩;refine⟨_,rfl,a,dx,_,rfl,hpi,xan (by decide +kernel),a,dp,do_,pw,ph,ps,ss,rfl,pic,sts,fun l1 ss' rs hl1 sl pm' pw2=>?_⟩;obtain rfl:ss'=srt:=xcn xfn (pm'.trans pm.symm) pw2 pw';have s1:Same H (upd H l1 (.lst (rs.map V.ref))):=xq (Same.refl _) hl1;have g1:upd H l1 (.lst (rs.map V.ref)) l1=some (.lst (rs.map V.ref)):=xb;revert s1 g1;generalize upd H l1 (.lst (rs.map V.ref))=H1;intro s1 g1;have sl1:=sl.keep (Same.tups s1);have rll:=sl.len;refine⟨l1,rfl,⟨_,SqL.of g1⟩,fun l2 hl2=>?_⟩;refine xct (SqL.of g1) (by rw[Za]; exact ZA (by omega:_<=1000) (by decide)) hl2 (fun i y H5=>∃ p kp s,y=.ref p/\ss'[i]?=some s/\H5 p=some (.tup [.ref kp,.str (Zb ".")])/\H5 kp=some (.tup [.int (Drw.rim pw s.1),.int s.2])) ?_ ?_ ?_
  .rintro i y H5 H6 tp ⟨p,kp,s,e1,e2,e3,e4⟩;exact⟨p,kp,s,e1,e2,tp _ _ e3,tp _ _ e4⟩
  .intro i x H5 hx s5 N hN
   rw[Zf,Zi] at hx;obtain⟨qa,hqa,rfl⟩:=hx;obtain⟨⟨b,r⟩,hs,hsq⟩:=sl1.get hqa;refine⟨qa,_,rfl,SqT.of (s5 _ _ hsq),rfl,_,_,rfl,_,_,rfl,rfl,?_⟩;refine xqq (i:=0) (j:=2) (b:=b) (w:=pw) rfl rfl fun H6 s6=>?_;refine⟨_,rfl,(by show 2<=sizeLine; decide),fun kp hkp=>⟨(by show 2<=sizeLine; decide),fun p hp=>?_⟩⟩;exact hN _ _ (s6.trans (xq (xq (Same.refl _) hkp) hp)) ⟨p,kp,(b,r),rfl,hs,xb,by rw[xh (xi xb hp)]; exact xb⟩
  .intro ys H5 s5 e5 ly fy
   obtain⟨L,rfl,e2,e3⟩:=xiz (ss:=ss') (by rw[ly,Za,rll]) fy;have lL:L.length=ss'.length:=by rw[<- e2,Za]
   refine⟨l2,L.map fun x=>(x.1,V.ref x.2.1,V.str (Zb ".")),rfl,(by rw[Zl]; exact e5),?_,fun d hd=>?_⟩
   .intro p hp
    obtain⟨x,hx,rfl⟩:=Zd.mp hp;exact (e3 x hx).1
   have fd:H d=none:=s1.free (s5.free hd);obtain⟨H6,dps,sd6,k6⟩:=SD.puts (d:=d) (L.map fun x=>(x.2.1,rimC pw x.2.2,Zb ".")) (SD.new (H:=upd H5 d (.dT [])) xb) (by rw[Za]; omega) (fun x hx=>by
    obtain⟨z,hz,rfl⟩:=Zd.mp hx;rw[xh (xi (e3 z hz).2 hd)];exact (e3 z hz).2)
   refine⟨.dT [],H6,.inr rfl,?_,?_⟩
   .rw [Zl] at dps ⊢;exact dps
   have k56:Same H H6:=fun c u e=>k6 _ _ (xi e fd) (by rw[xh (xi e fd)]; exact s5 _ _ (s1 _ _ e));have ed:(L.map fun x=>(x.2.1,rimC pw x.2.2,Zb ".")).map (fun x=>(x.2.1,x.2.2))=xbc pw ss':=by
    unfold xbc;rw[<- e2,Zl,Zl];rfl
   rw[ed] at sd6;have sd6:=sd6.le (k:=32) (by rw[Za]; omega);refine⟨_,rfl,l,rfl,⟨_,SqL.of (k56 _ _ hl)⟩,?_⟩;refine xbi (xs:=qs.map V.ref) (Pv:=fun i σ H7=>∃(v4 v5 v6:Option V),σ=[some (.ref a),some (.ref l),some (.int pw),some (.ref d),v4,v5,v6]/\Same H H7/\SD H7 d (32+i) (Drw.sets (Drw.sets Drw.no (xbc pw ss')) ((xa3 pw prs).take i))) ⟨_,_,_,rfl,k56,sd6⟩ ?_ ?_ ?_
   .rintro i σ H7 _ ⟨_,_,_,rfl,s7,_⟩;exact SqL.of (s7 _ _ hl)
   .rintro i x σ H7 hx ⟨v4,v5,v6,rfl,s7,sd7⟩;rw[Zf,Zi] at hx;obtain⟨qa,hqa,rfl⟩:=hx;obtain⟨⟨pt,b,r⟩,hp,hpq⟩:=prl.get hqa;have i12:i<12:=by have:=(Zk.mp hp).1; omega
    refine⟨qa,_,rfl,SqT.of (s7 _ _ hpq),rfl,_,_,rfl,_,_,rfl,_,_,rfl,rfl,?_⟩;refine⟨_,rfl,_,rfl,xqq (i:=5) (j:=2) (b:=b) (w:=pw) rfl rfl fun H8 s8=>?_⟩;refine⟨_,rfl,(by show 2<=sizeLine; decide),fun kp hkp=>?_⟩;have s9:Same H8 (upd H8 kp (.tup [.int (Drw.rim pw b),.int r])):=xq (Same.refl _) hkp;have g9:upd H8 kp (.tup [.int (Drw.rim pw b),.int r]) kp=some (.tup [.int (Drw.rim pw b),.int r]):=xb;revert s9 g9;generalize upd H8 kp (.tup [.int (Drw.rim pw b),.int r])=H9;intro s9 g9;obtain⟨H10,dput,sd10,k10,_⟩:=(sd7.keep (H':=H9) (fun u e=>s9 _ _ (s8 _ _ e))).put (c:=rimC pw (b,r)) (by omega) g9 pt.nm;refine⟨d,H10,rfl,dput,_,_,_,rfl,fun c u e=>k10 _ _ (xi e fd) (s9 _ _ (s8 _ _ (s7 _ _ e))),?_⟩;rw[xie (c:=rimC pw (b,r)) (x:=pt.nm)]
    .exact sd10
    .unfold xa3;rw[Zf,hp];rfl
   .rintro σ H7 ⟨v4,v5,v6,rfl,s7,sd7⟩;refine⟨_,rfl,q H7 d s7 fd ?_⟩;rw[Za,JL (l:=xa3 pw prs) (by unfold xa3; rw[Za]; omega)] at sd7;exact sd7.le (by omega)
theorem ok_a3 (T:Txt w K mg t):FnOk true P w K mg base (CXo P w) 1 t.f_a3 t.d_a3 ["signs", "width", "row"] (xuv):=by
 refine T.F_a3.okn (k:=0) sc_a3 (fun vs H Q E h=>?_) (fun cdv A outer s H vs Q E hr h=>?_)
 .obtain ⟨d,n,w',r,m,rfl,_⟩:=h;rfl
 .obtain ⟨d,n,w',r,m,rfl,h⟩:=h;refine⟨_,xk (xz (xdb PySem.F.plainAttrs_str PySem.F.slot_str_join PySem.F.type_str_join xsc (xad) (xa (xbt rfl (xay (zs:=["column"]) (ys:=["signs", "row"]) (fr:=[0,2]) (N0:=["signs", "width", "row"]) (sc0:=xm s_a3) (by decide +kernel) rfl rfl rfl) (xn0 rfl T.n_range (xa (xu xaq (pv 1) (xo)) (xf))) (fun _ _ _ _ _ ow nd=>xn (i:=0) nd rfl (Zo (ow _ (by simp))) (ZS (ow _ (by simp)))) (xbu (by decide)) (fun _ _ _ _ _=>xa5) (fun _ _ _ _ _=>xqb (xbh hr) (pv 1) (xal (xa (pv 0) (xa (pv 2) (xf)))) (xad) ⟨rfl,rfl,rfl,rfl⟩)) (xf)))),?_⟩;obtain⟨sd,sh,w30,q⟩:=h;refine⟨rfl,_,rfl,_,_,rfl,rfl,((w'+2:Nat):Int),by rw[Int.natCast_add]; rfl,by omega,by omega,fun l1 hl1=>?_⟩;refine xkc (ZA (by omega:_<=1000) (by decide)) hl1 (fun (j:Nat)=>V.str ((m ((j:Int),r)).getD (Zb " "))) ?_ ?_
  .intro i H2 hi s2 N hN
   simp only[Int.zero_add];obtain⟨kvs,ed,_⟩:=id sd;refine⟨_,rfl,d,rfl,.inr ⟨kvs,.inl (s2 _ _ ed)⟩,_,rfl,_,rfl,(by show 2<=sizeLine; decide),fun p hp=>?_⟩;have s3:Same H2 (upd H2 p (.tup [.int (i:Int),.int r])):=xq (Same.refl _) hp;have g3:upd H2 p (.tup [.int (i:Int),.int r]) p=some (.tup [.int (i:Int),.int r]):=xb;revert s3 g3;generalize upd H2 p (.tup [.int (i:Int),.int r])=H3;intro s3 g3;refine⟨_,(sd.keep (H':=H3) fun u e=>s3 _ _ (s2 _ _ e)).get (c:=((i:Int),r)) g3,?_⟩;have e:((m ((i:Int),r)).map V.str).getD (V.str (Zb " "))=V.str ((m ((i:Int),r)).getD (Zb " ")):=by cases m ((i:Int),r)<;>rfl
   rw[e];exact hN H3 s3
  .intro H2 s2 e2
   rw[YD] at e2;refine⟨Zb "",l1,(Zz (w'+2)).map fun (j:Nat)=>(m ((j:Int),r)).getD (Zb " "),5,rfl,rfl,(by rw[e2,Zl]; rfl),fun s hs=>?_,?_,q H2 s2⟩
   .obtain ⟨j,_,rfl⟩:=Zd.mp hs;cases e:m ((j:Int),r) with
    | none=>exact (by decide +kernel:(Zb " ").length<=5)
    | some x=>exact sh _ _ e
   .rw [Za,Zv,show (Zb "").length=0 from by decide +kernel];exact ZB (by omega:_<=1000) (by decide)
end
theorem xho {κ:Type} [DecidableEq κ]:∀(more kvs:List (κ × V)) (k:κ),(more.map (·.1)).Nodup->valV (more.foldl (fun acc x=>putK acc x.1 x.2) kvs) k=(valV more k).or (valV kvs k)
 | [],kvs,k,_=>rfl
 | x::r,kvs,k,nd=>by
  rw[Zr,Jc] at nd;show valV (r.foldl (fun acc x=>putK acc x.1 x.2) (putK kvs x.1 x.2)) k=_;rw[xho r _ k nd.2,xj0];by_cases e:x.1=k
  .subst e;rw[xa2 rfl,if_pos rfl];have:valV r x.1=none:=by
    cases z:valV r x.1 with
    | none=>rfl
    | some y =>
     obtain⟨i,hi⟩:=xh4 z;exact absurd (Zd.mpr ⟨_,Zp hi,rfl⟩) nd.1
   rw[this];rfl
  .rw [xa0 e,if_neg (fun z=>e z.symm)]
theorem xg5 {κ:Type} [DecidableEq κ] {P:κ->Prop}:∀(more kvs:List (κ × V)),(∀ kv∈more,P kv.1)->((kvs.map (·.1)).Nodup/\(∀ kv∈kvs,P kv.1))->((more.foldl (fun acc x=>putK acc x.1 x.2) kvs).map (·.1)).Nodup/\(∀ kv∈more.foldl (fun acc x=>putK acc x.1 x.2) kvs,P kv.1)/\(more.foldl (fun acc x=>putK acc x.1 x.2) kvs).length<=kvs.length+more.length
 | [],kvs,_,h=>⟨h.1,h.2,Zj _⟩
 | x::r,kvs,hm,h=>by
  have z:=xg5 r (putK kvs x.1 x.2) (fun kv hkv=>hm kv (Z1 _ hkv)) ⟨xle h.1,xjw (hm x (Z0 ..)) h.2⟩;refine⟨z.1,z.2.1,?_⟩;have:=z.2.2;have:=xbs kvs x.1 x.2;rw[ZQ];show (r.foldl (fun acc x=>putK acc x.1 x.2) (putK kvs x.1 x.2)).length<=_;omega
def xgc (w:Int) (c:Cl):Prop:=(c.1=0\/c.1=w+1)/\1<=c.2/\c.2<=16
theorem xn1 {α β:Type}{f:α->β}:∀{l:List α},(l.map f).Nodup->∀ a∈l,∀ b∈l,f a=f b->a=b
 | [],_,_,ha,_,_,_=>nomatch ha
 | x::l,nd,a,ha,b,hb,e=>by
  rw[Zr,Jc] at nd;rcases Zx.mp ha with ea|ha'<;>rcases Zx.mp hb with eb|hb'
  .rw [ea,eb]
  .subst ea;exact absurd (Zd.mpr ⟨b,hb',e.symm⟩) nd.1
  .subst eb;exact absurd (Zd.mpr ⟨a,ha',e⟩) nd.1
  .exact xn1 nd.2 a ha' b hb' e
def xey (w:Nat):List Cl:=((Zz 16).map fun (r:Nat)=>((0:Int),(r:Int)+1))++((Zz 16).map fun (r:Nat)=>((w:Int)+1,(r:Int)+1))
theorem xkj {w:Nat}{c:Cl} (h:xgc w c):c∈xey w:=by
 obtain⟨u,v⟩:=c;obtain⟨h1,h2,h3⟩:=h;have h2:1<=v:=h2;have h3:v<=16:=h3;unfold xey;rw[Z8,Zd,Zd];have e:((v-1).toNat:Int)+1=v:=by omega
 rcases h1 with h1|h1
 .have h1:u=0:=h1;exact .inl ⟨(v-1).toNat,ZL.mpr (by omega),by rw[e,h1]⟩
 .have h1:u=(w:Int)+1:=h1;exact .inr ⟨(v-1).toNat,ZL.mpr (by omega),by rw[e,h1]⟩
theorem xpc {w:Nat} (w1:1<=w) (w2:w<=30) {a b:Cl} (ha:xgc w a) (hb:xgc w b) (e:th a.1 a.2=th b.1 b.2):a=b:=by
 have z:=xsp w (by omega) w1;have y:((xey w).map fun c:Cl=>th c.1 c.2).Nodup:=by
  unfold xey;rw[Z9,Zl,Zl];exact z
 exact xn1 y a (xkj ha) b (xkj hb) e
theorem SD.hash {X:Cx}{H:Hp}{d:Addr}{n w:Nat}{m:Cl->Option Str}{kvs:List (List Key × V)} (s:SD H d n m) (e:H d=some (.dT kvs)) (w1:1<=w) (w2:w<=30) (hm:∀ c,m c≠none->xgc w c):(kvs.map fun x=>xf3 X x.1).Nodup:=by
 obtain⟨kvs',e',l,nd,ks,vs⟩:=s;rw[e] at e';cases e';have on:∀ kv∈kvs,∃ c,kv.1=ck c/\xgc w c:=fun kv hkv=>by
  obtain⟨c,ec⟩:=ks kv hkv;refine⟨c,ec,hm c fun z=>?_⟩;have y:=vs c;rw[z] at y;exact xgm y (Zd.mpr ⟨kv,hkv,ec⟩)
 rw[JE,Z3];rw[JE,Z3] at nd;refine JN.imp_of_mem ?_ nd;intro a b ha hb ne eh;obtain⟨c,ec,oc⟩:=on a ha;obtain⟨c',ec',oc'⟩:=on b hb;rw[ec,ec'] at eh ne;unfold ck at eh;rw[xkq,xkq] at eh;exact ne (by rw[xpc w1 w2 oc oc' eh])
theorem SD.merge {H:Hp}{a b:Addr}{n k:Nat}{m m2:Cl->Option Str}{kvs more:List (List Key × V)} (s:SD H a n m) (s2:SD H b k m2) (ea:H a=some (.dT kvs)) (eb:H b=some (.dT more)):SD (upd H a (.dT (xck kvs more))) a (n+k) (fun z=>(m2 z).or (m z)):=by
 obtain⟨kvs',ea',l,nd,ks,vs⟩:=s;rw[ea] at ea';cases ea';obtain⟨more',eb',l2,nd2,ks2,vs2⟩:=s2;rw[eb] at eb';cases eb';have z:=xg5 (P:=fun k=>∃ c,k=ck c) more kvs ks2 ⟨nd,ks⟩;refine⟨xck kvs more,xb,?_,z.1,z.2.1,fun c=>?_⟩
 .have:=z.2.2;unfold xck;omega
 .unfold xck;rw[xho _ _ _ nd2,vs2,vs];show _=Option.map V.str ((m2 c).or (m c));cases m2 c<;>rfl
theorem xbv {P:Str->Prop}:∀{L:List (Cl × Str)}{m:Cl->Option Str},(∀ c s,m c=some s->P s)->(∀ x∈L,P x.2)->∀ c s,Drw.sets m L c=some s->P s
 | [],_,hm,_,c,s,e=>hm c s e
 | x::L,m,hm,hL,c,s,e=>by
  refine xbv (L:=L) (m:=Drw.set1 m x.1 x.2) (fun c s e=>?_) (fun y hy=>hL y (Z1 _ hy)) c s e;unfold Drw.set1 at e;split at e
  .cases e;exact hL x (Z0 ..)
  .exact hm c s e
theorem xdf {P:Str->Prop}{hs:Str} (hh:P hs):∀{L:List (Cl × Str)}{m:Cl->Option Str},(∀ c s,m c=some s->P s)->(∀ x∈L,P x.2)->∀ c s,Drw.marks hs m L c=some s->P s
 | [],_,hm,_,c,s,e=>hm c s e
 | x::L,m,hm,hL,c,s,e=>by
  refine xdf hh (L:=L) (m:=Drw.mark1 hs m x.1 x.2) (fun c s e=>?_) (fun y hy=>hL y (Z1 _ hy)) c s e;unfold Drw.mark1 Drw.set1 at e;split at e
  .cases e;split
   .exact hh
   .exact hL x (Z0 ..)
  .exact hm c s e
theorem xhg {L:List (Cl × Str)}{m:Cl->Option Str}{c:Cl} (h:Drw.sets m L c≠none):m c≠none\/∃ x∈L,x.1=c:=by
 by_cases z:c∈L.map (·.1)
 .obtain ⟨x,hx,e⟩:=Zd.mp z;exact .inr ⟨x,hx,e⟩
 .rw [Drw.sets_no z] at h;exact .inl h
theorem xj3 {s:Str} (h:isNm s=true):s.length<=5:=by
 unfold isNm at h;rw[Zy] at h;have:=of_decide_eq_true h.1;omega
theorem xo7 (x r:Int) (c:Cl):(lsS x r c).length<=5:=by
 unfold lsS Drw.ls;split
 .decide +kernel
 .split<;>decide +kernel
def xdk (w:Int) (ps:List Pt) (ss:List Seat) (prs:List Pr):Cl->Option Str:=Drw.drawP hsS (prs.flatMap (ledS w)) (xbc w ss) (xa3 w prs) (ptsS ps)
theorem xml {w:Int}{ps:List Pt}{ss:List Seat}{prs:List Pr} (h1:∀ p∈ps,isNm p.nm=true) (h2:∀ p∈prs,isNm p.1.nm=true):xqv (xdk w ps ss prs):=by
 have no:∀(c:Cl) (s:Str),(Drw.no:Cl->Option Str) c=some s->s.length<=5:=fun _ _ e=>nomatch e;have n1:=xbv (P:=fun s=>s.length<=5) (L:=xbc w ss) no (fun x hx=>by
  obtain⟨z,_,rfl⟩:=Zd.mp hx;show (Zb ".").length<=5;decide +kernel)
 have n2:=xbv (P:=fun s=>s.length<=5) (L:=xa3 w prs) n1 (fun x hx=>by
  obtain⟨z,hz,rfl⟩:=Zd.mp hx;exact xj3 (h2 z hz))
 have n3:=xdf (P:=fun s=>s.length<=5) (hs:=hsS) (by unfold hsS; decide +kernel) (L:=prs.flatMap (ledS w)) no (fun x hx=>by
  obtain⟨p,_,hx⟩:=Yv.mp hx;obtain⟨c,_,rfl⟩:=Zd.mp hx;exact xo7 _ _ _)
 intro c s e;refine xbv (P:=fun s=>s.length<=5) (L:=ptsS ps) (fun c s e=>?_) (fun x hx=>by
  obtain⟨z,hz,rfl⟩:=Zd.mp hx;exact xj3 (h1 z hz)) c s e
 cases e1:Drw.sets (Drw.sets Drw.no (xbc w ss)) (xa3 w prs) c with
 | some y =>
  rw[e1] at e;cases e;exact n2 c _ e1
 | none =>
  rw[e1,Option.none_or] at e;exact n3 c s e
structure Dr (t:Adr) (H:Hp) (a dp do_:Addr) (w h:Nat) (ps:List Pt) (ss srt:List Seat):Prop where
 pic:Pic t H a dp do_ (w:Int) (h:Int) ps
 sts:Sts H do_ ss
 ok:SsOk (h:Int) ss
 pm:srt.Perm ss
 lt:srt.Pairwise xbj
 nm:∀ p∈ps,isNm p.nm=true
def xst (t:Adr):Sp:=fun vs H Q _=>∃(a l dp do_:Addr) (w h:Nat) (ps:List Pt) (ss srt:List Seat) (prs:List Pr) (qs:List Addr),vs=[.ref a,.ref l]/\Dr t H a dp do_ w h ps ss srt/\H l=some (.lst (qs.map V.ref))/\PrsL H prs qs/\(∀ p∈prs,PrOk ps (w:Int) (h:Int) p)/\prs.length<=12 /\
 ∀ H' l',Same H H'->H l'=none->H' l'=some (.lst (xed w h (xdk w ps srt prs)))->Q (.ref l') H'
section
variable {P:Program}{w:World}{K:Ze}{mg:Str->Option Value}{base:Heap}{t:Adr}
theorem xdx (T:Txt w K mg t):FnOk true P w K mg base (CXo P w) 8 t.f_drawn t.d_drawn ["picture", "pairs"] (xst t):=by
 refine T.F_drawn.okn (k:=7) xci (fun vs H Q E h=>?_) (fun cdv A outer s H vs Q E hr h=>?_)
 .obtain ⟨a,l,dp,do_,w',h',ps,ss,srt,prs,qs,rfl,_⟩:=h;rfl
 .obtain ⟨a,l,dp,do_,w',h',ps,ss,srt,prs,qs,rfl,h⟩:=h;refine⟨_,xj (x0 (i:=2) xci.nd rfl (ZS rfl) (xr (ok_ad T) (hr.mono (by decide)) rfl T.g_ad T.F_ad.kp T.b_ad .nil xg (xa (pv 0) (xa (pv 1) (xf)))))
   (xj (xax (xdb Qr PySem.F.slot_dict_update PySem.F.type_dict_update (xog (xbh hr)) (pv 2) (xa (xr (ok_ax T) (hr.mono (by decide)) rfl T.g_ax T.F_ax.kp T.b_ax .nil xg (xa (pv 0) (xa (pv 1) (xf)))) (xf))))
   (xj (xa9 ZM rfl (xav (xaf (pv 0) T.c_b T.m_f (ok_f T) (hr.mono (by decide)) T.b_f .nil xg)) (xar rfl (xp (xn (i:=3) xci.nd rfl (Zo rfl)) (xp (xn (i:=4) xci.nd rfl (Zo rfl)) (xp (xn (i:=5) xci.nd rfl (Zo rfl)) (xp (xn (i:=6) xci.nd rfl (Zo rfl)) (xp (xn (i:=7) xci.nd rfl (Zo rfl)) (xp (xn (i:=8) xci.nd rfl (Zo rfl)) (xag)))))))) (xk (xdp (xbh hr) (pv 2) (xal (xa (pv 4) (xa (pv 5) (xf)))) (pv 3) rfl)))
   (xk (xz (xbt rfl (xay (zs:=["row"]) (ys:=["signs", "picture"]) (fr:=[2,0]) (N0:=["picture", "pairs", "signs", "name", "x", "y", "sides", "low", "high"]) (sc0:=xm xf0) (by decide +kernel) rfl rfl rfl) (xd8 rfl T.n_range (xa (xo) (xa (xu xaq (x4 (pv 0) rfl) (xo)) (xf)))) (fun _ _ _ _ _ ow nd=>xn (i:=0) nd rfl (Zo (ow _ (by simp))) (ZS (ow _ (by simp)))) (xbu (by decide)) (fun _ _ _ _ _=>xa5) (fun _ _ _ _ _=>xr (ok_a3 T) (hr.mono (by decide)) rfl T.g_a3 T.F_a3.kp T.b_a3 .nil xg (xa (pv 1) (xa ((x4 (pv 2) rfl:PE _ _ (tFld K _ _))) (xa (pv 0) (xf)))))))))),?_⟩
  obtain⟨dr,hl,prl,oks,l12,q⟩:=h;have pic:=dr.pic;have w1:=pic.w1;have w2:=pic.w2;have h2:=pic.h2;have pl12:=pic.len;obtain⟨⟨dx,hpi⟩,_⟩:=id pic;refine⟨_,rfl,_,rfl,a,l,dp,do_,w',h',ps,prs,qs,rfl,pic,hl,prl,oks,l12,fun H1 d1 s1 f1 sd1=>?_⟩;obtain⟨kvs,e1,_⟩:=id sd1;refine⟨_,rfl,.inr (.inr (.inl ⟨rfl,.inr ⟨kvs,e1⟩⟩)),_,rfl,_,rfl,a,l,dp,do_,w',h',ps,ss,srt,prs,qs,rfl,Pic.same s1 pic,dr.sts.same s1,dr.ok.2.1,dr.pm,dr.lt,s1 _ _ hl,prl.keep (Same.tups s1),l12,fun H2 d2 s2 f2 sd2=>?_⟩;obtain⟨more,e2,_⟩:=id sd2;have e12:=s2 _ _ e1;have ne:d1≠d2:=xi e1 f2;have onr:∀ c,xme w' srt prs c≠none->xgc w' c:=fun c hc=>by
   rcases xhg hc with hc|⟨x,hx,rfl⟩
   .rcases xhg hc with hc|⟨x,hx,rfl⟩
    .exact absurd rfl hc
    .obtain ⟨z,hz,rfl⟩:=Zd.mp hx;have o:=dr.ok.2.2 z (dr.pm.mem_iff.mp hz);refine⟨?_,o.1,?_⟩
     .show Drw.rim w' z.1=0\/Drw.rim w' z.1=_;unfold Drw.rim;split
      .exact .inl rfl
      .exact .inr rfl
     .show z.2<=16;omega
   .obtain ⟨z,hz,rfl⟩:=Zd.mp hx;have o:=oks z hz;have o1:=o.r1;have o2:=o.r2;refine⟨?_,o1,?_⟩
    .show Drw.rim w' z.2.1=0\/Drw.rim w' z.2.1=_;unfold Drw.rim;split
     .exact .inl rfl
     .exact .inr rfl
    .show z.2.2<=16;omega
  have ln1:kvs.length<=600:=by
   obtain⟨k',e',l',_⟩:=id sd1;rw[e1] at e';cases e';exact l'
  have ln2:more.length<=50:=by
   obtain⟨k',e',l',_⟩:=id sd2;rw[e2] at e';cases e';exact l'
  refine⟨d1,d2,kvs,more,rfl,rfl,ne,e12,e2,fun _=>sd2.hash e2 (by omega) (by omega) onr,by omega,?_⟩;have sd3:=(sd1.keep (H':=H2) (fun u e=>s2 _ _ e)).merge sd2 e12 e2;have s3:Same H (upd H2 d1 (.dT (xck kvs more))):=fun c u e=>by
   rw[xh (xi e f1)];exact s2 _ _ (s1 _ _ e)
  revert sd3 s3;generalize upd H2 d1 (.dT (xck kvs more))=H3;intro sd3 s3;refine⟨_,rfl,a,dx,_,rfl,s3 _ _ hpi,xan (by decide +kernel),a,dp,do_,w',h',ps,rfl,Pic.same s3 pic,fun H4 l4 ds s4 hl4 pts4=>?_⟩;have dl:=pts4.len;have sd4:=sd3.keep (H':=H4) (fun u e=>s4 _ _ e);have nl4:l4≠d1:=by
   obtain⟨kv,e,_⟩:=sd4;exact xae hl4 e (fun z=>nomatch z)
  refine⟨l4,rfl,⟨_,SqL.of hl4⟩,?_⟩;refine xbi (xs:=ds.map V.ref) (Pv:=fun i σ H5=>∃(v3 v4 v5 v6 v7 v8:Option V),σ=[some (.ref a),some (.ref l),some (.ref d1),v3,v4,v5,v6,v7,v8]/\(∀ c u,c≠d1->H4 c=some u->H5 c=some u)/\SD H5 d1 (650+i) (Drw.sets (fun z=>(xme w' srt prs z).or (Drw.marks hsS Drw.no (prs.flatMap (ledS w')) z)) ((ptsS ps).take i))) ⟨_,_,_,_,_,_,rfl,fun c u _ e=>e,sd4⟩ ?_ ?_ ?_
  .rintro i σ H5 _ ⟨_,_,_,_,_,_,rfl,k5,_⟩;exact SqL.of (k5 _ _ nl4 hl4)
  .rintro i x σ H5 hx ⟨v3,v4,v5,v6,v7,v8,rfl,k5,sd5⟩;rw[Zf,Zi] at hx;obtain⟨qa,hqa,rfl⟩:=hx;obtain⟨p,hp,hpq⟩:=pts4.get hqa;have i12:i<12:=by have:=(Zk.mp hp).1; omega
   have nqa:qa≠d1:=by
    obtain⟨kv,e,_⟩:=sd4;exact xae hpq e (fun z=>nomatch z)
   refine⟨qa,_,rfl,SqT.of (k5 _ _ nqa hpq),rfl,_,_,rfl,_,_,rfl,_,_,rfl,_,_,rfl,_,_,rfl,_,_,rfl,rfl,?_⟩;refine⟨_,rfl,_,rfl,_,rfl,_,rfl,(by show 2<=sizeLine; decide),fun kp hkp=>?_⟩;have s6:Same H5 (upd H5 kp (.tup [.int p.x,.int p.y])):=xq (Same.refl _) hkp;have g6:upd H5 kp (.tup [.int p.x,.int p.y]) kp=some (.tup [.int p.x,.int p.y]):=xb;revert s6 g6;generalize upd H5 kp (.tup [.int p.x,.int p.y])=H6;intro s6 g6;obtain⟨H7,dput,sd7,k7,_⟩:=(sd5.keep (H':=H6) (fun u e=>s6 _ _ e)).put (c:=(p.x,p.y)) (by omega) g6 p.nm;refine⟨d1,H7,rfl,dput,_,_,_,_,_,_,rfl,fun c u nc e=>k7 _ _ nc (s6 _ _ (k5 _ _ nc e)),?_⟩;rw[xie (c:=(p.x,p.y)) (x:=p.nm)]
   .exact sd7
   .unfold ptsS;rw[Zf,hp];rfl
  .rintro σ H5 ⟨v3,v4,v5,v6,v7,v8,rfl,k5,sd5⟩;rw[Za,JL (l:=ptsS ps) (by unfold ptsS; rw[Za]; omega)] at sd5;have s5:Same H H5:=fun c u e=>k5 _ _ (xi e f1) (s4 _ _ (s3 _ _ e));have sd5:SD H5 d1 (650+ds.length) (xdk w' ps srt prs):=sd5;have hp5:=s5 _ _ hpi;refine⟨_,rfl,a,_,_,_,_,rfl,hp5,T.c_b,T.n_a6,lkH,_,_,rfl,rfl,1,(h':Int)+1,rfl,⟨by decide,by decide,by omega,by omega⟩,fun l6 hl6=>?_⟩;refine xkc (ZA (by omega:_<=1000) (by decide)) hl6 (fun (i:Nat)=>V.str (rowT w' (1+(i:Int)) (xdk w' ps srt prs))) ?_ ?_
   .intro i H6 hi s6 N hN
    have hp6:=s6 _ _ hp5;exact⟨_,rfl,_,rfl,a,_,_,_,_,rfl,hp6,T.c_b,T.n_a7,lkW,_,rfl,d1,_,w',1+(i:Int),_,rfl,sd5.keep (H':=H6) (fun u e=>s6 _ _ e),xml dr.nm (fun p hp=>(oks p hp).nm),by omega,hN⟩
   .intro H6 s6 e6
    refine q H6 l6 (s5.trans s6) (s5.free hl6) ?_;rw[e6,show ((h':Int)+1-1).toNat=h' by omega];rfl
end
theorem xnk {x d:Int} (h:0<d) (h2:d<=4294967296):-(2 ^ 64)<x % d/\x % d<2 ^ 64:=by
 have a:=Int.emod_nonneg x (show d≠0 by omega);have b:=Int.emod_lt_of_pos x h;exact⟨by omega,by omega⟩
theorem xdv (x:Int) {d:Int} (h:0<d):0<=x % d/\x % d<d:=⟨Int.emod_nonneg _ (by omega),Int.emod_lt_of_pos _ h⟩
def xtw (K:Ze):Sp:=fun vs H Q _=>∃(a:Addr) (ns:List Int) (k:Int),vs=[.ref a,.int k]/\SqL K H a (ns.map V.int)/\0<=k/\k<2 ^ 62/\∀ c:Int,Q (.int c) H
def xu5:Sp:=fun vs H Q _=>∃ c k:Int,vs=[.int c,.int k]/\∀ m:Int,0<=m->m<2147483587->Q (.int m) H
def xrg (K:Ze):Sp:=fun vs H Q _=>∃(a:Addr) (ns:List Int),vs=[.ref a]/\SqL K H a (ns.map V.int)/\∀(w h:Nat) H' p,1<=w->w<=30->1<=h->h<=16->Same H H'->H' p=some (.tup [.int (w:Int),.int (h:Int)])->Q (.ref p) H'
def xp0 (K:Ze):Sp:=fun vs H Q _=>∃(a:Addr) (ns:List Int) (h:Nat),vs=[.ref a,.int (h:Int)]/\SqL K H a (ns.map V.int)/\h<=16/\∀(ss:List Seat) (qs:List Addr) H' l,ss.length<=32->ss.Pairwise xbj->(∀ s∈ss,1<=s.2/\s.2<=(h:Int))->Same H H'->H l=none->H' l=some (.lst (qs.map V.ref))->x6 H' ss qs->Q (.ref l) H'
theorem xg1 (a m d:Int) (h:0<d) (ha:0<=a):∃ x:Nat,a+m % d=(x:Int)/\a<=x/\(x:Int)<a+d:=by
 have z:=xdv m h;exact⟨(a+m % d).toNat,by omega,by omega,by omega⟩
section
variable {P:Program}{w:World}{K:Ze}{mg:Str->Option Value}{base:Heap}{t:Adr}
theorem ok_ai (T:Txt w K mg t):FnOk true P w K mg base (CXo P w) 1 t.f_ai t.d_ai ["_law_script", "_law_k"] (xtw K):=by
 refine T.F_ai.okn (k:=0) sc_ai (fun vs H Q E h=>?_) (fun cdv A outer s H vs Q E hr h=>?_)
 .obtain ⟨a,ns,k,rfl,_⟩:=h;rfl
 .obtain ⟨a,ns,k,rfl,h⟩:=h;refine⟨_,xj (xap (xaa xji (pv 1) (xab xbn rfl T.n_len Yb (xa (pv 0) (xf))) (x9 _)) (xk (xz (xba xei (pv 0) (pv 1) (fun _ _=>rfl)))) (x8))
   (xk (xz (xo))),?_⟩
  obtain⟨hs,k0,k1,q⟩:=h;refine⟨_,rfl,_,rfl,a,_,rfl,.inl hs,_,_,rfl,rfl,_,rfl,?_⟩;refine ite2 (fun c=>?_) (fun c=>?_)
  .have c':k<(ns.length:Int):=by simpa using c
   obtain⟨j,rfl⟩:=Int.eq_ofNat_of_zero_le k0;have lt:j<ns.length:=by omega
   exact⟨_,rfl,_,rfl,a,_,_,_,rfl,rfl,hs,xeg (by rw[Zf,Zh lt]; rfl),q _⟩
  .exact q _
theorem ok_k (T:Txt w K mg t):FnOk true P w K mg base (CXo P w) 1 t.f_k t.d_k ["_law_cell", "_law_k"] (xu5):=by
 refine T.F_k.okn (k:=0) sc_k (fun vs H Q E h=>?_) (fun cdv A outer s H vs Q E hr h=>?_)
 .obtain ⟨c,k,rfl,_⟩:=h;rfl
 .obtain ⟨c,k,rfl,h⟩:=h;refine⟨_,xj (x0 (i:=2) sc_k.nd rfl (Zo rfl) (xu xa1 (xu xfg (xu xaq (xu xaq (xu xa1 (pv 0) (xo)) (xu xfg (xo) (pv 1))) (xo)) (xo)) (xo)))
   (xj (x0 (i:=2) sc_k.nd rfl (Zo rfl) (xu xa1 (xu xfg (pv 2) (pv 2)) (xo)))
   (xk (xz (xu xa1 (xu xfg (pv 2) (xu xaq (pv 2) (xo))) (xo))))),?_⟩
  refine⟨_,rfl,_,_,rfl,rfl,(by show (0:Int)<2147483629; decide),_,rfl,_,_,rfl,rfl,.inl ⟨by decide,by decide⟩,_,_,rfl,rfl,_,_,rfl,rfl,_,_,rfl,rfl,.inr ⟨by decide,by decide⟩,_,_,rfl,rfl,(by show (0:Int)<2147483647; decide),?_⟩;refine⟨_,rfl,_,rfl,_,_,rfl,rfl,.inl (xnk (by decide) (by decide)),_,_,rfl,rfl,(by show (0:Int)<2147483629; decide),?_⟩;refine⟨_,rfl,_,rfl,_,_,rfl,rfl,_,_,rfl,rfl,.inl (xnk (by decide) (by decide)),_,_,rfl,rfl,(by show (0:Int)<2147483587; decide),?_⟩;exact h _ (xdv _ (by decide)).1 (xdv _ (by decide)).2
theorem ok_az (T:Txt w K mg t):FnOk true P w K mg base (CXo P w) 2 t.f_az t.d_az ["_law_script"] (xrg K):=by
 refine T.F_az.okn (k:=1) sc_az (fun vs H Q E h=>?_) (fun cdv A outer s H vs Q E hr h=>?_)
 .obtain ⟨sc,ns,rfl,_⟩:=h;rfl
 .obtain ⟨sc,ns,rfl,h⟩:=h;refine⟨_,xj (x0 (i:=1) sc_az.nd rfl (Zo rfl) (xr (ok_ai T) (hr.mono (by decide)) rfl T.g_ai T.F_ai.kp T.b_ai .nil xg (xa (pv 0) (xa (xo) (xf)))))
   (xj (x0 (i:=2) sc_az.nd rfl (Zo rfl) (xu xaq (xo) (xu xa1 (xr (ok_k T) (hr.mono (by decide)) rfl T.g_k T.F_k.kp T.b_k .nil xg (xa (pv 1) (xa (xo) (xf)))) (xo))))
   (xj (x0 (i:=3) sc_az.nd rfl (Zo rfl) (xu xaq (xo) (xu xa1 (xr (ok_k T) (hr.mono (by decide)) rfl T.g_k T.F_k.kp T.b_k .nil xg (xa (pv 1) (xa (xo) (xf)))) (xo))))
   (xj (xcc (xap (xaa xbo (xu xa1 (xr (ok_k T) (hr.mono (by decide)) rfl T.g_k T.F_k.kp T.b_k .nil xg (xa (pv 1) (xa (xo) (xf)))) (xo)) (xo) (x9 _)) (xj (x0 (i:=2) sc_az.nd rfl (Zo rfl) (xu xaq (xo) (xu xa1 (xr (ok_k T) (hr.mono (by decide)) rfl T.g_k T.F_k.kp T.b_k .nil xg (xa (pv 1) (xa (xo) (xf)))) (xo))))
   (xk (x0 (i:=3) sc_az.nd rfl (Zo rfl) (xu xaq (xo) (xu xa1 (xr (ok_k T) (hr.mono (by decide)) rfl T.g_k T.F_k.kp T.b_k .nil xg (xa (pv 1) (xa (xo) (xf)))) (xo)))))) (x8)))
   (xk (xz (xal (xa (pv 2) (xa (pv 3) (xf))))))))),?_⟩
  obtain⟨hs,q⟩:=h;refine⟨_,rfl,sc,ns,0,rfl,hs,by decide,by decide,fun c=>?_⟩;refine⟨_,rfl,c,1,rfl,fun m1 _ _=>⟨_,_,rfl,rfl,(by show (0:Int)<30; decide),_,_,rfl,rfl,?_⟩⟩;obtain⟨w1,ew,w11,w12⟩:=xg1 1 m1 30 (by decide) (by decide);simp only[ew];refine⟨_,rfl,c,2,rfl,fun m2 _ _=>⟨_,_,rfl,rfl,(by show (0:Int)<16; decide),_,_,rfl,rfl,?_⟩⟩;obtain⟨h1,eh,h11,h12⟩:=xg1 1 m2 16 (by decide) (by decide);simp only[eh];refine⟨fun σ H1=>H=H1/\∃ w h:Nat,1<=w/\w<=30/\1<=h/\h<=16/\σ=[some (.ref sc),some (.int c),some (.int (w:Int)),some (.int (h:Int))],?_,?_⟩
  .refine ⟨_,rfl,c,3,rfl,fun m3 _ _=>⟨_,_,rfl,rfl,(by show (0:Int)<2; decide),rfl,_,rfl,ite2 (fun y=>?_) (fun y=>⟨rfl,w1,h1,by omega,by omega,by omega,by omega,rfl⟩)⟩⟩;refine⟨_,rfl,c,1,rfl,fun m4 _ _=>⟨_,_,rfl,rfl,(by show (0:Int)<19; decide),_,_,rfl,rfl,?_⟩⟩;obtain⟨w2,ew2,w21,w22⟩:=xg1 12 m4 19 (by decide) (by decide);simp only[ew2];refine⟨_,rfl,c,2,rfl,fun m5 _ _=>⟨_,_,rfl,rfl,(by show (0:Int)<5; decide),_,_,rfl,rfl,?_⟩⟩;obtain⟨h2,eh2,h21,h22⟩:=xg1 12 m5 5 (by decide) (by decide);simp only[eh2];exact⟨rfl,w2,h2,by omega,by omega,by omega,by omega,rfl⟩
  rintro σ _ ⟨rfl,w,h,a1,a2,a3,a4,rfl⟩;exact⟨_,rfl,_,rfl,(by show 2<=sizeLine; decide),fun p hp=>q w h _ p a1 a2 a3 a4 (xq (Same.refl _) hp) xb⟩
theorem ok_ay (T:Txt w K mg t):FnOk true P w K mg base (CXo P w) 2 t.f_ay t.d_ay ["_law_script", "_law_height"] (xp0 K):=by
 refine T.F_ay.okn (k:=1) sc_ay (fun vs H Q E h=>?_) (fun cdv A outer s H vs Q E hr h=>?_)
 .obtain ⟨sc,ns,ph,rfl,_⟩:=h;rfl
 .obtain ⟨sc,ns,ph,rfl,h⟩:=h;refine⟨_,xj (x0 (i:=2) sc_ay.nd rfl (Zo rfl) (xr (ok_ai T) (hr.mono (by decide)) rfl T.g_ai T.F_ai.kp T.b_ai .nil xg (xa (pv 0) (xa (xo) (xf)))))
   (xj (x0 (i:=3) sc_ay.nd rfl (Zo rfl) (xu xa1 (xr (ok_k T) (hr.mono (by decide)) rfl T.g_k T.F_k.kp T.b_k .nil xg (xa (pv 2) (xa (xo) (xf)))) (xo)))
   (xj (x0 (i:=4) sc_ay.nd rfl (Zo rfl) (xco (xf)))
   (xj (xa9 ZM rfl (xc1 rfl T.n_enumerate (xa (xco (xa (xad) (xa (xad) (xf)))) (xf))) (xar rfl (xp (xn (i:=5) sc_ay.nd rfl (Zo rfl)) (xp (xn (i:=6) sc_ay.nd rfl (Zo rfl)) (xag)))) (xk (xa9 ZM rfl (xd8 rfl T.n_range (xa (xo) (xa (xu xaq (pv 1) (xo)) (xf)))) (xn (i:=7) sc_ay.nd rfl (Zo rfl)) (xk (xcc (xap (xaa xji (xu xa1 (xr (ok_k T) (hr.mono (by decide)) rfl T.g_k T.F_k.kp T.b_k .nil xg (xa (pv 2) (xa (xu xaq (xu xfg (xo) (pv 7)) (pv 5)) (xf)))) (xo)) (pv 3) (x9 _)) (xk (xax (xdb Jl Ql Qk xea (pv 4) (xa (xal (xa (pv 6) (xa (pv 7) (xf)))) (xf))))) (x8)))))))
   (xk (xz (pv 4)))))),?_⟩
  obtain⟨hs,h16,q⟩:=h;refine⟨_,rfl,sc,ns,1,rfl,hs,by decide,by decide,fun c=>?_⟩;refine⟨_,rfl,c,1,rfl,fun m1 _ _=>⟨_,_,rfl,rfl,(by show (0:Int)<7; decide),?_⟩⟩;refine⟨(by show 0<=sizeLine; decide),fun l hl=>?_⟩;have s1:Same H (upd H l (.lst [])):=xq (Same.refl _) hl;have g1:upd H l (.lst []) l=some (.lst []):=xb;revert s1 g1;generalize upd H l (.lst [])=H1;intro s1 g1;refine⟨(by show 2<=sizeLine; decide),fun le hle=>?_⟩;have s2:Same H1 (upd H1 le (.lst [.str (Zb "left"),.str (Zb "right")])):=xq (Same.refl _) hle;have g2:upd H1 le (.lst [.str (Zb "left"),.str (Zb "right")]) le=some (.lst [.str (Zb "left"),.str (Zb "right")]):=xb;revert s2 g2;generalize upd H1 le (.lst [.str (Zb "left"),.str (Zb "right")])=H2;intro s2 g2;refine⟨le,_,rfl,SqL.of g2,?_⟩;have nle:le≠l:=ZE (xi g1 hle);have fle:=s1.free hle;refine xe2 (xs:=[.str (Zb "left"),.str (Zb "right")]) (Pv:=fun k σ H5=>∃(ss:List Seat) (qs:List Addr) (v5 v6 v7:Option V),σ=[some (.ref sc),some (.int (ph:Int)),some (.int c),some (.int (m1 % 7)),some (.ref l),v5,v6,v7]/\Same H H5/\H5 le=some (.lst [.str (Zb "left"),.str (Zb "right")])/\H5 l=some (.lst (qs.map V.ref))/\x6 H5 ss qs/\ss.Pairwise xbj/\(∀ s∈ss,1<=s.2/\s.2<=(ph:Int))/\qs.length<=16*k/\(k=0->ss=[])/\(k=1->∀ s∈ss,s.1=true)) ?_ ?_ ?_ ?_
  .exact ⟨[],[],_,_,_,rfl,s1.trans s2,g2,s2 _ _ g1,.nil,.nil,fun _ z=>(nomatch z),Zj _,fun _=>rfl,fun z=>(nomatch z)⟩
  .rintro i σ H5 _ ⟨_,_,_,_,_,rfl,_,e,_⟩;exact SqL.of e
  .rintro k x p σ H5 hx hp ⟨ss,qs,v5,v6,v7,rfl,s5,e5,hl5,sl5,lt5,b5,n5,z0,z1⟩;have k2:k<2:=(Zk.mp hx).1;obtain⟨b,rfl,hb⟩:∃ b,x=.str (xac b)/\((b=true/\k=0)\/(b=false/\k=1)):=by
    match k,k2,hx with
    | 0,_,hx=>cases hx; exact⟨true,rfl,.inl ⟨rfl,rfl⟩⟩
    | 1,_,hx=>cases hx; exact⟨false,rfl,.inr ⟨rfl,rfl⟩⟩
   have s6:Same H5 (upd H5 p (.tup [.int (k:Int),.str (xac b)])):=xq (Same.refl _) hp;have g6:upd H5 p (.tup [.int (k:Int),.str (xac b)]) p=some (.tup [.int (k:Int),.str (xac b)]):=xb;revert s6 g6;generalize upd H5 p (.tup [.int (k:Int),.str (xac b)])=H6;intro s6 g6;refine⟨p,_,rfl,SqT.of g6,rfl,_,_,rfl,_,_,rfl,rfl,?_⟩;refine⟨_,rfl,_,_,rfl,rfl,1,(ph:Int)+1,rfl,⟨by decide,by decide,by omega,by omega⟩,?_⟩;refine xnh (Pv:=fun j σ H7=>∃(ss:List Seat) (qs:List Addr) (v7:Option V),σ=[some (.ref sc),some (.int (ph:Int)),some (.int c),some (.int (m1 % 7)),some (.ref l),some (.int (k:Int)),some (.str (xac b)),v7]/\Same H H7/\H7 le=some (.lst [.str (Zb "left"),.str (Zb "right")])/\H7 l=some (.lst (qs.map V.ref))/\x6 H7 ss qs/\ss.Pairwise xbj/\(∀ s∈ss,1<=s.2/\s.2<=(ph:Int))/\qs.length<=16*k+j/\∀ s∈ss,(s.1=true/\(k=0->s.2<=(j:Int)))\/(k=1/\s.1=false/\s.2<=(j:Int))) ?_ ?_ ?_
   .refine ⟨ss,qs,_,rfl,s5.trans s6,s6 _ _ e5,s6 _ _ hl5,sl5.keep (Same.tups s6),lt5,b5,by omega,fun s hs=>.inl ?_⟩;rcases hb with⟨_,rfl⟩|⟨_,rfl⟩
    .rw [z0 rfl] at hs;exact nomatch hs
    .exact ⟨z1 rfl s hs,fun z=>(nomatch z)⟩
   .rintro j σ H7 hj ⟨ss,qs,v7,rfl,s7,e7,hl7,sl7,lt7,b7,n7,z7⟩;have jh:j<ph:=by omega
    have up:∀ s∈ss,(s.1=true/\(k=0->s.2<=((j+1:Nat):Int)))\/(k=1/\s.1=false/\s.2<=((j+1:Nat):Int)):=fun s hs=>by
     rcases z7 s hs with⟨a,b⟩|⟨a,b,c⟩
     .exact .inl ⟨a,fun z=>by have:=b z; omega⟩
     .exact .inr ⟨a,b,by omega⟩
    refine⟨_,?_,fun _ _ z=>z⟩;refine⟨_,rfl,_,rfl,_,_,rfl,rfl,.inl ⟨by decide,by decide⟩,_,rfl,_,_,rfl,rfl,c,_,rfl,fun m _ _=>⟨_,_,rfl,rfl,(by show (0:Int)<6; decide),_,rfl,_,_,rfl,rfl,_,rfl,ite2 (fun y=>?_) (fun y=>⟨ss,qs,_,rfl,s7,e7,hl7,sl7,lt7,b7,by omega,up⟩)⟩⟩;refine⟨_,rfl,.inl ⟨rfl,_,SqL.of hl7⟩,_,rfl,_,rfl,(by show 2<=sizeLine; decide),fun qa hqa=>?_⟩;have s8:Same H7 (upd H7 qa (.tup [.str (xac b),.int (1+(j:Int))])):=xq (Same.refl _) hqa;have g8:upd H7 qa (.tup [.str (xac b),.int (1+(j:Int))]) qa=some (.tup [.str (xac b),.int (1+(j:Int))]):=xb;revert s8 g8;generalize upd H7 qa (.tup [.str (xac b),.int (1+(j:Int))])=H8;intro s8 g8;have hl8:=s8 _ _ hl7;refine⟨l,_,_,rfl,rfl,hl8,?_,?_⟩
    .rw [Za];exact ZA (by omega:_<=1000) (by decide)
    have kt:Tups H8 (upd H8 l (.lst (qs.map V.ref++[.ref qa]))):=fun c xs e=>by rw[xh (xae e hl8 (fun z=>nomatch z))]; exact e
    refine⟨ss++[(b,1+(j:Int))],qs++[qa],_,rfl,fun c u e=>by rw[xh (xi e hl)]; exact s8 _ _ (s7 _ _ e),by rw[xh nle]; exact s8 _ _ e7,by rw[xb,Z9]; rfl,((sl7.keep (Same.tups s8)).keep kt).snoc (kt _ _ g8),?_,fun s hs=>?_,by rw[Zs,Yk]; omega,fun s hs=>?_⟩
    .rw [JY];refine⟨lt7,List.pairwise_singleton _ _,fun s hs s' hs'=>?_⟩;rw[Zw.mp hs'];rcases hb with⟨rfl,rfl⟩|⟨rfl,rfl⟩
     .rcases z7 s hs with⟨a,b⟩|⟨a,_⟩
      .exact .inr ⟨a,by have:=b rfl; show s.2<1+(j:Int); omega⟩
      .cases a
     .rcases z7 s hs with⟨a,b⟩|⟨_,a,b⟩
      .exact .inl ⟨a,rfl⟩
      .exact .inr ⟨a,by show s.2<1+(j:Int); omega⟩
    .rcases Z8.mp hs with hs|hs
     .exact b7 s hs
     .rw [Zw.mp hs];exact⟨by show (1:Int)<=1+(j:Int); omega,by show 1+(j:Int)<=_; omega⟩
    .rcases Z8.mp hs with hs|hs
     .exact up s hs
     .rw [Zw.mp hs];rcases hb with⟨rfl,rfl⟩|⟨rfl,rfl⟩
      .exact .inl ⟨rfl,fun _=>by show 1+(j:Int)<=_; omega⟩
      .exact .inr ⟨rfl,rfl,by show 1+(j:Int)<=_; omega⟩
   .rintro σ H7 ⟨ss,qs,v7,rfl,s7,e7,hl7,sl7,lt7,b7,n7,z7⟩;refine⟨ss,qs,_,_,_,rfl,s7,e7,hl7,sl7,lt7,b7,by omega,fun z=>by omega,fun z s hs=>?_⟩;rcases z7 s hs with⟨a,_⟩|⟨a,_⟩
    .exact a
    .omega
  .rintro σ H5 ⟨ss,qs,v5,v6,v7,rfl,s5,e5,hl5,sl5,lt5,b5,n5,_⟩;exact⟨_,rfl,q ss qs H5 l (by have e:=sl5.len; have n6:qs.length<=16*2:=n5; omega) lt5 b5 s5 hl hl5 sl5⟩
end
def xrm:Sp:=fun vs H Q _=>∃(c:Int) (nm:Str) (x y:Int) (h:Nat),vs=[.int c,.str nm,.int x,.int y,.int (h:Int)]/\1<=h/\∀ H' q (sd:Str) (lo hi:Int),(sd="left"\/sd="right"\/sd="both")->1<=lo->lo<=hi->hi<=(h:Int)->Same H H'->H' q=some (.tup (.str nm::ptV ⟨nm,x,y,sd,lo,hi⟩))->Q (.ref q) H'
theorem xtd (c:Int):∃ sd:Str,atI [V.str (Zb "both"),V.str (Zb "left"),V.str (Zb "right")] (c % 3)=some (.str sd)/\(sd="left"\/sd="right"\/sd="both"):=by
 have b:=xdv c (show (0:Int)<3 by decide);have:c % 3=0\/c % 3=1\/c % 3=2:=by omega
 rcases this with e|e|e
 .exact ⟨"both",by rw[e]; rfl,.inr (.inr rfl)⟩
 .exact ⟨"left",by rw[e]; rfl,.inl rfl⟩
 .exact ⟨"right",by rw[e]; rfl,.inr (.inl rfl)⟩
theorem xd9 {α:Type}{ls:List α}{k:Nat}{y:α} (nd:ls.Nodup) (h:ls[k]?=some y):(ls.eraseIdx k).Nodup/\y∉ls.eraseIdx k/\(∀ z∈ls.eraseIdx k,z∈ls)/\y∈ls:=by
 obtain⟨hk,hy⟩:=Zk.mp h;have e:ls.take k++y::ls.drop (k+1)=ls:=by
  rw[<- hy,List.getElem_cons_drop,Q7]
 have e2:ls.eraseIdx k=ls.take k++ls.drop (k+1):=YG ls k;have nd2:=nd;rw[<- e,ZT,Jc] at nd2;obtain⟨n1,⟨n2,n3⟩,n4⟩:=nd2;refine⟨?_,?_,fun z hz=>List.mem_of_mem_eraseIdx hz,hy▸Qq hk⟩
 .rw [e2,ZT];exact⟨n1,n3,fun a ha b hb=>n4 a ha b (Z1 _ hb)⟩
 .rw [e2,Z8];rintro (z|z)
  .exact n4 _ z _ Z0 rfl
  .exact n2 z
theorem xht {α:Type} (m:Int) {xs:List α} (h:xs≠[]) (h2:xs.length<=1000):∃ j y,xs[j]?=some y/\-(2 ^ 63)<=m % (xs.length:Int)/\m % (xs.length:Int)<2 ^ 63/\seqIndex? (m % (xs.length:Int)) xs.length=some j/\0<(xs.length:Int):=by
 have l0:0<xs.length:=List.length_pos_iff.mpr h;have lp:(0:Int)<(xs.length:Int):=by omega
 obtain⟨k0,k1⟩:=xdv m lp;obtain⟨j,hj⟩:=Int.eq_ofNat_of_zero_le k0;have jl:j<xs.length:=by
  have z:=k1;rw[hj] at z;omega
 exact⟨j,xs[j],Zh jl,by omega,by omega,by rw[seqIndex_of k0 k1,hj]; rfl,lp⟩
def abcS:Str:="abcdefghijklmnopqrstuvwxyz"
theorem xum:∀ c∈abcS.cps.toList,isNm ⟨#[c]⟩=true:=by decide +kernel
theorem xub:abcS.cps.toList.Nodup:=by decide +kernel
theorem xut:(sgnL abcS).Nodup:=by
 unfold sgnL;exact Drw.nd_map (fun a b e=>by
  have:=congrArg (fun s:Str=>s.cps.toList) (V.str.inj e);exact List.head_eq_of_cons_eq this) xub
theorem xoj (n:Nat):(rngL 1 ((n:Int)+1)).Nodup:=by
 unfold rngL;exact Drw.nd_map (fun a b e=>by
  have:=V.int.inj e;omega) Yu
theorem xlp {n:Nat}{v:V} (h:v∈rngL 1 ((n:Int)+1)):∃ x:Int,v=.int x/\1<=x/\x<=n:=by
 unfold rngL at h;obtain⟨i,hi,rfl⟩:=Zd.mp h;rw[ZL] at hi;exact⟨1+(i:Int),rfl,by omega,by omega⟩
structure PI (w h:Nat) (cols rows lts:List V) (ps:List Pt) (i:Nat):Prop where
 cn:cols.Nodup
 ci:∀ v∈cols,∃ x:Int,v=.int x/\1<=x/\x<=w
 rn:rows.Nodup
 ri:∀ v∈rows,∃ x:Int,v=.int x/\1<=x/\x<=h
 ln:lts.Nodup
 li:∀ v∈lts,v∈sgnL abcS
 ll:lts.length+ps.length=26
 cl:cols.length<=100
 rl:rows.length<=100
 pl:ps.length<=i
 ok:∀ p∈ps,PtOk w h p
 nx:(ps.map (·.x)).Nodup
 ny:(ps.map (·.y)).Nodup
 nn:(ps.map (·.nm)).Nodup
 ox:∀ p∈ps,V.int p.x∉cols
 oy:∀ p∈ps,V.int p.y∉rows
 on:∀ p∈ps,V.str p.nm∉lts
theorem xfr {α β:Type}{f:α->β}{l:List α}{x:α} (h:(l.map f).Nodup) (hx:∀ y∈l,f y≠f x):((l++[x]).map f).Nodup:=by
 rw[Z9,ZT];refine⟨h,by simp,fun a ha b hb e=>?_⟩;obtain⟨y,hy,rfl⟩:=Zd.mp ha;have hb:b∈[f x]:=hb;rw[Zw.mp hb] at e;exact hx y hy e
theorem PI.up {w h:Nat}{cols rows lts:List V}{ps:List Pt}{i:Nat} (g:PI w h cols rows lts ps i):PI w h cols rows lts ps (i+1):={ g with pl:=Nat.le_succ_of_le g.pl }
theorem PtsL.snoc1 {H:Hp}{ps:List Pt}{qs:List Addr} (h:PtsL H ps qs) {p:Pt}{q:Addr} (e:H q=some (.tup (.str p.nm::ptV p))):PtsL H (ps++[p]) (qs++[q]):=by
 induction h with
 | nil=>exact .cons e .nil
 | cons h _ ih=>exact .cons h ih
theorem PI.add {w h:Nat}{cols rows lts:List V}{ps:List Pt}{i jx jy jn:Nat}{p:Pt} (g:PI w h cols rows lts ps i) (hx:cols[jx]?=some (.int p.x)) (hy:rows[jy]?=some (.int p.y)) (hn:lts[jn]?=some (.str p.nm)) (ok:PtOk w h p):PI w h (cols.eraseIdx jx) (rows.eraseIdx jy) (lts.eraseIdx jn) (ps++[p]) (i+1):=by
 obtain⟨c1,c2,c3,c4⟩:=xd9 g.cn hx;obtain⟨r1,r2,r3,r4⟩:=xd9 g.rn hy;obtain⟨l1,l2,l3,l4⟩:=xd9 g.ln hn;have lj:=(Zk.mp hn).1;refine⟨c1,fun v hv=>g.ci v (c3 v hv),r1,fun v hv=>g.ri v (r3 v hv),l1,fun v hv=>g.li v (l3 v hv),?_,?_,?_,?_,fun q hq=>?_,xfr g.nx fun y hy e=>?_,xfr g.ny fun y hy e=>?_,xfr g.nn fun y hy e=>?_,fun q hq=>?_,fun q hq=>?_,fun q hq=>?_⟩
 .rw [List.length_eraseIdx_of_lt lj,Zs,Yk];have:=g.ll;omega
 .exact ZB (Qs _ _) g.cl
 .exact ZB (Qs _ _) g.rl
 .rw [Zs,Yk];have:=g.pl;omega
 .rcases Z8.mp hq with hq|hq
  .exact g.ok q hq
  .rw [Zw.mp hq]; exact ok
 .exact g.ox y hy (e▸c4)
 .exact g.oy y hy (e▸r4)
 .exact g.on y hy (e▸l4)
 .rcases Z8.mp hq with hq|hq
  .exact fun z=>g.ox q hq (c3 _ z)
  .rw [Zw.mp hq]; exact c2
 .rcases Z8.mp hq with hq|hq
  .exact fun z=>g.oy q hq (r3 _ z)
  .rw [Zw.mp hq]; exact r2
 .rcases Z8.mp hq with hq|hq
  .exact fun z=>g.on q hq (l3 _ z)
  .rw [Zw.mp hq]; exact l2
def xqj (K:Ze):Sp:=fun vs H Q _=>∃(lc:Addr) (ns:List Int) (w h:Nat),vs=[.ref lc,.int (w:Int),.int (h:Int)]/\H lc=some (.lst (ns.map V.int))/\ns.length<=12/\1<=w/\w<=30/\1<=h/\h<=16 /\
 ∀ H' l ps qs,xbk (w:Int) (h:Int) ps->ps.length<=ns.length->Same H H'->H l=none->H' l=some (.lst (qs.map V.ref))->PtsL H' ps qs->Q (.ref l) H'
theorem xo6 {K:Ze}{H:Hp}{l l2:Addr}{xs:List V} (h:H l=some (.lst xs)) (h2:H l2=some (.lst [])) (f:xs.all scV=true):∃(n m:Nat) (d e:DV),Dv K H n (.ref l) d/\Dv K H m (.ref l2) e/\n<=9/\m<=9/\(!dEq d e)=!decide (xs=[]):=by
 refine⟨1,1,.lst (xs.map scD),.lst [],.lst (SqL.of h) (by rw[Za]) (xdt f),.lst (SqL.of h2) rfl (xdt (xs:=[]) rfl),by decide,by decide,?_⟩;cases xs with
 | nil=>rfl
 | cons x r=>rfl
def IPt (H:Hp) (lcell lc lr ll lp:Addr) (w h:Nat) (i:Nat) (σ:L2.St) (H5:Hp):Prop:=∃(cols rows lts:List V) (ps:List Pt) (qs:List Addr) (v7 v8 v9 v10:Option V),σ=[some (.ref lcell),some (.int (w:Int)),some (.int (h:Int)),some (.ref lc),some (.ref lr),some (.ref ll),some (.ref lp),v7,v8,v9,v10] /\
 Same H H5/\H5 lc=some (.lst cols)/\H5 lr=some (.lst rows)/\H5 ll=some (.lst lts)/\H5 lp=some (.lst (qs.map V.ref))/\PtsL H5 ps qs/\PI w h cols rows lts ps i
section
variable {P:Program}{w:World}{K:Ze}{mg:Str->Option Value}{base:Heap}{t:Adr}
theorem ok_a0 (T:Txt w K mg t):FnOk true P w K mg base (CXo P w) 2 t.f_a0 t.d_a0 ["_law_cell", "_law_name", "_law_x", "_law_y", "_law_height"] (xrm):=by
 refine T.F_a0.okn (k:=1) sc_a0 (fun vs H Q E h=>?_) (fun cdv A outer s H vs Q E hr h=>?_)
 .obtain ⟨c,nm,x,y,ph,rfl,_⟩:=h;rfl
 .obtain ⟨c,nm,x,y,ph,rfl,h⟩:=h;refine⟨_,xj (x0 (i:=5) sc_a0.nd rfl (Zo rfl) (xba xei (xco (xa (xad) (xa (xad) (xa (xad) (xf))))) (xu xa1 (xu xa1 (xr (ok_k T) (hr.mono (by decide)) rfl T.g_k T.F_k.kp T.b_k .nil xg (xa (pv 0) (xa (xo) (xf)))) (xo)) (xo)) (fun _ _=>rfl)))
   (xj (x0 (i:=6) sc_a0.nd rfl (Zo rfl) (xu xaq (xo) (xu xa1 (xr (ok_k T) (hr.mono (by decide)) rfl T.g_k T.F_k.kp T.b_k .nil xg (xa (pv 0) (xa (xo) (xf)))) (pv 4))))
   (xj (x0 (i:=7) sc_a0.nd rfl (Zo rfl) (xu xaq (pv 6) (xu xa1 (xr (ok_k T) (hr.mono (by decide)) rfl T.g_k T.F_k.kp T.b_k .nil xg (xa (pv 0) (xa (xo) (xf)))) (xu xaq (xu xcj (pv 4) (pv 6)) (xo)))))
   (xj (x0 (i:=8) sc_a0.nd rfl (Zo rfl) (xu xa1 (xr (ok_k T) (hr.mono (by decide)) rfl T.g_k T.F_k.kp T.b_k .nil xg (xa (pv 0) (xa (xo) (xf)))) (xo)))
   (xj ((by (with_reducible refine' xcc ?m7); (case m7=>((with_reducible refine' xap ?c2 ?a3 ?b4); (case c2=>exact xaa xbo (pv 8) (xo) (x9 _)); (case a3=>((with_reducible refine' xk ?c5); (case c5=>((with_reducible refine' xz ?e6); (case e6=>((exact xal (xx (pv 1) (xx (pv 2) (xx (pv 3) (xx (pv 5) (xx (xo) (xx (pv 4) (xf) rfl) rfl) rfl) rfl) rfl) rfl)))))))); (case b4=>((exact x8)))))))
   (xj (xcc (xap (xaa xbo (pv 8) (xo) (x9 _)) (xk (x0 (i:=7) sc_a0.nd rfl (Zo rfl) (xab (xov rfl) rfl T.n_min boot_min (xa (xu xaq (pv 6) (xo)) (xa (pv 4) (xf)))))) (x8)))
   (xk ((by (with_reducible refine' xz ?e1); (case e1=>((exact xal (xx (pv 1) (xx (pv 2) (xx (pv 3) (xx (pv 5) (xx (pv 6) (xx (pv 7) (xf) rfl) rfl) rfl) rfl) rfl) rfl)))))))))))),?_⟩
  obtain⟨h1,q⟩:=h;refine⟨(by show 3<=sizeLine; decide),fun l0 hl0=>?_⟩;have s1:Same H (upd H l0 (.lst [V.str (Zb "both"),V.str (Zb "left"),V.str (Zb "right")])):=xq (Same.refl _) hl0;have g1:upd H l0 (.lst [V.str (Zb "both"),V.str (Zb "left"),V.str (Zb "right")]) l0=some (.lst [V.str (Zb "both"),V.str (Zb "left"),V.str (Zb "right")]):=xb;revert s1 g1;generalize upd H l0 (.lst [V.str (Zb "both"),V.str (Zb "left"),V.str (Zb "right")])=H1;intro s1 g1;refine⟨_,rfl,c,6,rfl,fun m6 _ _=>?_⟩;obtain⟨sd,esd,osd⟩:=xtd (m6 % 4);refine⟨_,_,rfl,rfl,(by show (0:Int)<4; decide),_,_,rfl,rfl,(by show (0:Int)<3; decide),l0,_,_,.str sd,rfl,rfl,SqL.of g1,esd,?_⟩;refine⟨_,rfl,c,7,rfl,fun m7 _ _=>⟨_,rfl,_,_,rfl,rfl,(by show (0:Int)<(ph:Int); omega),_,_,rfl,rfl,?_⟩⟩;have b7:=xdv m7 (show (0:Int)<(ph:Int) by omega);have p8:(0:Int)<(ph:Int)-(1+m7 % (ph:Int))+1:=by omega
  refine⟨_,rfl,_,rfl,c,8,rfl,fun m8 _ _=>⟨_,rfl,_,rfl,_,_,rfl,rfl,_,_,rfl,rfl,_,_,rfl,rfl,p8,_,_,rfl,rfl,?_⟩⟩;have b8:=xdv m8 p8;refine⟨_,rfl,c,9,rfl,fun m9 _ _=>⟨_,_,rfl,rfl,(by show (0:Int)<3; decide),?_⟩⟩;refine⟨fun σ H5=>H1=H5/\σ=[some (.int c),some (.str nm),some (.int x),some (.int y),some (.int (ph:Int)),some (.str sd),some (.int (1+m7 % (ph:Int))),some (.int (1+m7 % (ph:Int)+m8 % ((ph:Int)-(1+m7 % (ph:Int))+1))),some (.int (m9 % 3))],?_,?_⟩
  .refine ⟨_,rfl,rfl,_,rfl,ite2 (fun y=>?_) (fun y=>⟨rfl,rfl⟩)⟩;exact⟨_,rfl,_,rfl,_,rfl,_,rfl,_,rfl,(by show 6<=sizeLine; decide),fun p hp=>q _ p sd 1 (ph:Int) osd (by omega) (by omega) (by omega) (s1.trans (xq (Same.refl _) hp)) xb⟩
  rintro σ _ ⟨rfl,rfl⟩;refine⟨fun σ H5=>H1=H5/\∃ hi:Int,1+m7 % (ph:Int)<=hi/\hi<=(ph:Int)/\σ=[some (.int c),some (.str nm),some (.int x),some (.int y),some (.int (ph:Int)),some (.str sd),some (.int (1+m7 % (ph:Int))),some (.int hi),some (.int (m9 % 3))],?_,?_⟩
  .refine ⟨_,rfl,rfl,_,rfl,ite2 (fun y=>?_) (fun y=>⟨rfl,_,by omega,by omega,rfl⟩)⟩;refine⟨_,rfl,_,_,rfl,rfl,_,rfl,_,_,rfl,rfl,_,?_,?_,rfl⟩
   .split<;>omega
   .split<;>omega
  rintro σ _ ⟨rfl,hi,a1,a2,rfl⟩;exact⟨_,rfl,_,rfl,_,rfl,_,rfl,_,rfl,_,rfl,(by show 6<=sizeLine; decide),fun p hp=>q _ p sd _ hi osd (by omega) a1 a2 (s1.trans (xq (Same.refl _) hp)) xb⟩
theorem ok_aq (T:Txt w K mg t):FnOk true P w K mg base (CXo P w) 3 t.f_aq t.d_aq ["_law_cells", "_law_width", "_law_height"] (xqj K):=by
 refine T.F_aq.okn (k:=2) sc_aq (fun vs H Q E h=>?_) (fun cdv A outer s H vs Q E hr h=>?_)
 .obtain ⟨lcell,ns,w',h',rfl,_⟩:=h;rfl
 .obtain ⟨lcell,ns,w',h',rfl,h⟩:=h;refine⟨_,xj (x0 (i:=3) sc_aq.nd rfl (Zo rfl) (xcm (xe5 rfl) rfl T.n_list boot_list (xa (xcm xgg rfl T.n_range boot_range (xa (xo) (xa (xu xaq (pv 1) (xo)) (xf)))) (xf))))
   (xj (x0 (i:=4) sc_aq.nd rfl (Zo rfl) (xcm (xe5 rfl) rfl T.n_list boot_list (xa (xcm xgg rfl T.n_range boot_range (xa (xo) (xa (xu xaq (pv 2) (xo)) (xf)))) (xf))))
   (xj (x0 (i:=5) sc_aq.nd rfl (Zo rfl) (xcm (xi8 rfl) rfl T.n_list boot_list (xa (xad) (xf))))
   (xj (x0 (i:=6) sc_aq.nd rfl (Zo rfl) (xco (xf)))
   (xj (xa9 ZM rfl (xav (pv 0)) (xn (i:=7) sc_aq.nd rfl (Zo rfl)) (xk (xcc (xap (PW.pt (xfm (xaa (xek (xbp hr)) (pv 3) (xco (xf)) (x9 _)) (xfz (xaa (xek (xbp hr)) (pv 4) (xco (xf)) (x9 _))))) (xj (x0 (i:=8) sc_aq.nd rfl (Zo rfl) (xdb Jl YK YJ xew (pv 3) (xa (xu xa1 (xr (ok_k T) (hr.mono (by decide)) rfl T.g_k T.F_k.kp T.b_k .nil xg (xa (pv 7) (xa (xo) (xf)))) (xab xbn rfl T.n_len Yb (xa (pv 3) (xf)))) (xf))))
   (xj (x0 (i:=9) sc_aq.nd rfl (Zo rfl) (xdb Jl YK YJ xew (pv 4) (xa (xu xa1 (xr (ok_k T) (hr.mono (by decide)) rfl T.g_k T.F_k.kp T.b_k .nil xg (xa (pv 7) (xa (xo) (xf)))) (xab xbn rfl T.n_len Yb (xa (pv 4) (xf)))) (xf))))
   (xj (x0 (i:=10) sc_aq.nd rfl (Zo rfl) (xdb Jl YK YJ xew (pv 5) (xa (xu xa1 (xr (ok_k T) (hr.mono (by decide)) rfl T.g_k T.F_k.kp T.b_k .nil xg (xa (pv 7) (xa (xo) (xf)))) (xab xbn rfl T.n_len Yb (xa (pv 5) (xf)))) (xf))))
   (xk (xax (xdb Jl Ql Qk xea (pv 6) (xa (xr (ok_a0 T) (hr.mono (by decide)) rfl T.g_a0 T.F_a0.kp T.b_a0 .nil xg (xa (pv 7) (xa (pv 10) (xa (pv 8) (xa (pv 9) (xa (pv 2) (xf))))))) (xf)))))))) (x8)))))
   (xk (xz (pv 6))))))),?_⟩
  obtain⟨hc,n12,w1,w2,h1,h2,q⟩:=h;refine⟨_,rfl,_,_,rfl,rfl,1,(w':Int)+1,rfl,fun pr hpr=>?_⟩;have s1:Same H (upd H pr (.rng 1 ((w':Int)+1))):=xq (Same.refl _) hpr;have g1:upd H pr (.rng 1 ((w':Int)+1)) pr=some (.rng 1 ((w':Int)+1)):=xb;revert s1 g1;generalize upd H pr (.rng 1 ((w':Int)+1))=H1;intro s1 g1;refine⟨pr,_,_,rfl,g1,⟨by decide,by decide,by omega,by omega⟩,by omega,fun lc hlc=>?_⟩;have s2:Same H1 (upd H1 lc (.lst (rngL 1 ((w':Int)+1)))):=xq (Same.refl _) hlc;have g2:upd H1 lc (.lst (rngL 1 ((w':Int)+1))) lc=some (.lst (rngL 1 ((w':Int)+1))):=xb;revert s2 g2;generalize upd H1 lc (.lst (rngL 1 ((w':Int)+1)))=H2;intro s2 g2;refine⟨_,rfl,_,_,rfl,rfl,1,(h':Int)+1,rfl,fun pr2 hpr2=>?_⟩;have s3:Same H2 (upd H2 pr2 (.rng 1 ((h':Int)+1))):=xq (Same.refl _) hpr2;have g3:upd H2 pr2 (.rng 1 ((h':Int)+1)) pr2=some (.rng 1 ((h':Int)+1)):=xb;revert s3 g3;generalize upd H2 pr2 (.rng 1 ((h':Int)+1))=H3;intro s3 g3;refine⟨pr2,_,_,rfl,g3,⟨by decide,by decide,by omega,by omega⟩,by omega,fun lr hlr=>?_⟩;have s4:Same H3 (upd H3 lr (.lst (rngL 1 ((h':Int)+1)))):=xq (Same.refl _) hlr;have g4:upd H3 lr (.lst (rngL 1 ((h':Int)+1))) lr=some (.lst (rngL 1 ((h':Int)+1))):=xb;revert s4 g4;generalize upd H3 lr (.lst (rngL 1 ((h':Int)+1)))=H4;intro s4 g4;refine⟨abcS,rfl,by decide +kernel,fun ll hll=>?_⟩;have s5:Same H4 (upd H4 ll (.lst (sgnL abcS))):=xq (Same.refl _) hll;have g5:upd H4 ll (.lst (sgnL abcS)) ll=some (.lst (sgnL abcS)):=xb;revert s5 g5;generalize upd H4 ll (.lst (sgnL abcS))=H5;intro s5 g5;refine⟨(by show 0<=sizeLine; decide),fun lp hlp=>?_⟩;have s6:Same H5 (upd H5 lp (.lst [])):=xq (Same.refl _) hlp;have g6:upd H5 lp (.lst []) lp=some (.lst []):=xb;revert s6 g6;generalize upd H5 lp (.lst [])=H6;intro s6 g6;have s06:=(((s1.trans s2).trans s3).trans s4).trans (s5.trans s6);have f2:=s1.free hlc;have f4:=((s1.trans s2).trans s3).free hlr;have f5:=(((s1.trans s2).trans s3).trans s4).free hll;have f6:=((((s1.trans s2).trans s3).trans s4).trans s5).free hlp;have e2:=s6 _ _ (s5 _ _ (s4 _ _ (s3 _ _ g2)));have e4:=s6 _ _ (s5 _ _ g4);have e5:=s6 _ _ g5;have n24:lc≠lr:=xi (s3 _ _ g2) hlr;have n25:lc≠ll:=xi (s4 _ _ (s3 _ _ g2)) hll;have n26:lc≠lp:=xi (s5 _ _ (s4 _ _ (s3 _ _ g2))) hlp;have n45:lr≠ll:=xi g4 hll;have n46:lr≠lp:=xi (s5 _ _ g4) hlp;have n56:ll≠lp:=xi g5 hlp;refine⟨_,rfl,lcell,rfl,⟨_,SqL.of (s06 _ _ hc)⟩,?_⟩;refine xbi (xs:=ns.map V.int) (Pv:=IPt H lcell lc lr ll lp w' h') ⟨_,_,_,[],[],_,_,_,_,rfl,s06,e2,e4,e5,g6,.nil,⟨xoj _,fun v hv=>xlp hv,xoj _,fun v hv=>xlp hv,xut,fun v hv=>hv,(by decide +kernel),?_,?_,Zj _,fun _ z=>(nomatch z),.nil,.nil,.nil,fun _ z=>(nomatch z),fun _ z=>(nomatch z),fun _ z=>(nomatch z)⟩⟩ ?_ ?_ ?_
  .unfold rngL;rw[Za,Zv];omega
  .unfold rngL;rw[Za,Zv];omega
  .rintro i σ H7 _ ⟨_,_,_,_,_,_,_,_,_,rfl,s7,_⟩;exact SqL.of (s7 _ _ hc)
  .rintro i x σ H7 hx ⟨cols,rows,lts,ps,qs,v7,v8,v9,v10,rfl,s7,e7c,e7r,e7l,e7p,pl7,pi⟩;rw[Zf,Zi] at hx;obtain⟨c,hc',rfl⟩:=hx;have i12:i<12:=by have:=(Zk.mp hc').1; omega
   refine⟨_,?_,fun _ _ z=>z⟩;have sc1:cols.all scV=true:=YM.mpr fun v hv=>by
    obtain⟨x,rfl,_⟩:=pi.ci v hv;rfl
   have sc2:rows.all scV=true:=YM.mpr fun v hv=>by
    obtain⟨x,rfl,_⟩:=pi.ri v hv;rfl
   refine⟨_,rfl,(by show 0<=sizeLine; decide),fun z1 hz1=>?_⟩;have s8:Same H7 (upd H7 z1 (.lst [])):=xq (Same.refl _) hz1;have g8:upd H7 z1 (.lst []) z1=some (.lst []):=xb;revert s8 g8;generalize upd H7 z1 (.lst [])=H8;intro s8 g8;obtain⟨n,m,d,e,d1,d2,n9,m9,ev⟩:=xo6 (K:=K) (s8 _ _ e7c) g8 sc1;refine⟨n,m,d,e,d1,d2,n9,m9,_,rfl,?_⟩;rw[ev];refine ite2 (fun y1=>?_) (fun y1=>⟨cols,rows,lts,ps,qs,_,_,_,_,rfl,s7.trans s8,s8 _ _ e7c,s8 _ _ e7r,s8 _ _ e7l,s8 _ _ e7p,pl7.keep (Same.tups s8),pi.up⟩);refine⟨_,rfl,(by show 0<=sizeLine; decide),fun z2 hz2=>?_⟩;have s9:Same H8 (upd H8 z2 (.lst [])):=xq (Same.refl _) hz2;have g9:upd H8 z2 (.lst []) z2=some (.lst []):=xb;revert s9 g9;generalize upd H8 z2 (.lst [])=H9;intro s9 g9;have s79:=s8.trans s9;obtain⟨n',m',d',e',d1',d2',n9',m9',ev'⟩:=xo6 (K:=K) (s79 _ _ e7r) g9 sc2;refine⟨n',m',d',e',d1',d2',n9',m9',_,rfl,?_⟩;rw[ev'];refine ite2 (fun y2=>?_) (fun y2=>⟨cols,rows,lts,ps,qs,_,_,_,_,rfl,s7.trans s79,s79 _ _ e7c,s79 _ _ e7r,s79 _ _ e7l,s79 _ _ e7p,pl7.keep (Same.tups s79),pi.up⟩);have cne:cols≠[]:=fun z=>by rw[z] at y1; exact absurd y1 (by decide)
   have rne:rows≠[]:=fun z=>by rw[z] at y2; exact absurd y2 (by decide)
   have lne:lts≠[]:=fun z=>by
    have l0:lts.length=0:=by rw[z]; rfl
    have:=pi.ll;have:=pi.pl;omega
   have e9c:=s79 _ _ e7c;have e9r:=s79 _ _ e7r;have e9l:=s79 _ _ e7l;have e9p:=s79 _ _ e7p;have p9:=pl7.keep (Same.tups s79);have s09:=s7.trans s79;refine⟨_,rfl,.inl ⟨rfl,_,SqL.of e9c⟩,_,rfl,c,3,rfl,fun m3 _ _=>?_⟩;obtain⟨jx,vx,gx,a1,a2,a3,a4⟩:=xht m3 cne (ZB pi.cl (by decide));obtain⟨x,rfl,x1,x2⟩:=pi.ci vx (Zp gx);refine⟨_,rfl,lc,_,rfl,.inl (SqL.of e9c),_,_,rfl,rfl,a4,lc,_,_,jx,_,rfl,rfl,e9c,a1,a2,a3,gx,?_⟩;have k10:∀ c u,c≠lc->H9 c=some u->upd H9 lc (.lst (cols.eraseIdx jx)) c=some u:=fun c u nc e=>by rw[xh nc]; exact e
   have g10:upd H9 lc (.lst (cols.eraseIdx jx)) lc=some (.lst (cols.eraseIdx jx)):=xb;revert k10 g10;generalize upd H9 lc (.lst (cols.eraseIdx jx))=H10;intro k10 g10;have e10r:=k10 _ _ (ZE n24) e9r;refine⟨_,rfl,.inl ⟨rfl,_,SqL.of e10r⟩,_,rfl,c,4,rfl,fun m4 _ _=>?_⟩;obtain⟨jy,vy,gy,b1,b2,b3,b4⟩:=xht m4 rne (ZB pi.rl (by decide));obtain⟨y,rfl,y3,y4⟩:=pi.ri vy (Zp gy);refine⟨_,rfl,lr,_,rfl,.inl (SqL.of e10r),_,_,rfl,rfl,b4,lr,_,_,jy,_,rfl,rfl,e10r,b1,b2,b3,gy,?_⟩;have k11:∀ c u,c≠lr->H10 c=some u->upd H10 lr (.lst (rows.eraseIdx jy)) c=some u:=fun c u nc e=>by rw[xh nc]; exact e
   have g11:upd H10 lr (.lst (rows.eraseIdx jy)) lr=some (.lst (rows.eraseIdx jy)):=xb;revert k11 g11;generalize upd H10 lr (.lst (rows.eraseIdx jy))=H11;intro k11 g11;have e11l:=k11 _ _ (ZE n45) (k10 _ _ (ZE n25) e9l);have e11c:=k11 _ _ n24 g10;refine⟨_,rfl,.inl ⟨rfl,_,SqL.of e11l⟩,_,rfl,c,5,rfl,fun m5 _ _=>?_⟩;obtain⟨jn,vn,gn,c1,c2,c3,c4⟩:=xht m5 lne (by have:=pi.ll; omega);obtain⟨cc,hcc,rfl⟩:=Zd.mp (pi.li vn (Zp gn));have inm:=xum cc hcc;refine⟨_,rfl,ll,_,rfl,.inl (SqL.of e11l),_,_,rfl,rfl,c4,ll,_,_,jn,_,rfl,rfl,e11l,c1,c2,c3,gn,?_⟩;have k12:∀ c u,c≠ll->H11 c=some u->upd H11 ll (.lst (lts.eraseIdx jn)) c=some u:=fun c u nc e=>by rw[xh nc]; exact e
   have g12:upd H11 ll (.lst (lts.eraseIdx jn)) ll=some (.lst (lts.eraseIdx jn)):=xb;revert k12 g12;generalize upd H11 ll (.lst (lts.eraseIdx jn))=H12;intro k12 g12;have e12c:=k12 _ _ n25 e11c;have e12r:=k12 _ _ n45 g11;have e12p:=k12 _ _ (ZE n56) (k11 _ _ (ZE n46) (k10 _ _ (ZE n26) e9p));have s012:Same H H12:=fun c u e=>k12 _ _ (xi e f5) (k11 _ _ (xi e f4) (k10 _ _ (xi e f2) (s09 _ _ e)));have t912:Tups H9 H12:=fun c xs e=>k12 _ _ (xae e (s79 _ _ e7l) (fun z=>nomatch z)) (k11 _ _ (xae e e9r (fun z=>nomatch z)) (k10 _ _ (xae e e9c (fun z=>nomatch z)) e));refine⟨_,rfl,.inl ⟨rfl,_,SqL.of e12p⟩,_,rfl,_,rfl,_,rfl,_,rfl,_,rfl,c,⟨#[cc]⟩,x,y,h',rfl,h1,fun H13 qa sd lo hi osd o1 o2 o3 s13 hqa=>?_⟩;have e13p:=s13 _ _ e12p;refine⟨lp,_,_,rfl,rfl,e13p,?_,?_⟩
   .rw [Za,pl7.len];exact ZA (by have:=pi.pl; omega:_<=1000) (by decide)
   have kt:Tups H13 (upd H13 lp (.lst (qs.map V.ref++[.ref qa]))):=fun c xs e=>by rw[xh (xae e e13p (fun z=>nomatch z))]; exact e
   refine⟨_,_,_,ps++[⟨⟨#[cc]⟩,x,y,sd,lo,hi⟩],qs++[qa],_,_,_,_,rfl,fun c u e=>by rw[xh (xi e f6)]; exact s13 _ _ (s012 _ _ e),by rw[xh n26]; exact s13 _ _ e12c,by rw[xh n46]; exact s13 _ _ e12r,by rw[xh n56]; exact s13 _ _ g12,by rw[xb,Z9]; rfl,PtsL.snoc1 (((p9.keep t912).keep (Same.tups s13)).keep kt) (kt _ _ hqa),pi.add (p:=⟨⟨#[cc]⟩,x,y,sd,lo,hi⟩) gx gy gn ⟨inm,x1,x2,y3,y4,osd,o1,o2,o3⟩⟩
  .rintro σ H7 ⟨cols,rows,lts,ps,qs,v7,v8,v9,v10,rfl,s7,e7c,e7r,e7l,e7p,pl7,pi⟩;have:=pi.pl;rw[Za] at this;exact⟨_,rfl,q H7 lp ps qs ⟨pi.ok,pi.nn,pi.nx,pi.ny,by omega⟩ (by omega) s7 f6 e7p pl7⟩
end
def xtz (t:Adr):Sp:=fun vs H Q _=>∃(a q dp do_:Addr) (pw ph:Int) (ps:List Pt) (p:Pt),vs=[.ref a,.ref q]/\Pic t H a dp do_ pw ph ps/\H q=some (.tup (.str p.nm::ptV p))/\PtOk pw ph p/\(∀ z∈ps,z.nm≠p.nm/\z.x≠p.x/\z.y≠p.y)/\ps.length<12 /\
 ∀ H',(∀ b u,b≠dp->H b=some u->H' b=some u)->Pic t H' a dp do_ pw ph (ps++[p])->Q .non H'
def xtx (t:Adr):Sp:=fun vs H Q _=>∃(lp ls:Addr) (w h:Nat) (ps:List Pt) (ss:List Seat) (qs rs:List Addr),vs=[.int (w:Int),.int (h:Int),.ref lp,.ref ls]/\1<=w/\w<=30/\1<=h/\h<=16/\H lp=some (.lst (qs.map V.ref))/\PtsL H ps qs/\xbk (w:Int) (h:Int) ps/\H ls=some (.lst (rs.map V.ref))/\x6 H ss rs/\SsOk (h:Int) ss/\ss.Pairwise xbj /\
 ∀ H' a dp do_,Same H H'->Dr t H' a dp do_ w h ps ss.reverse ss->Q (.ref a) H'
theorem xbk.at_ {w h:Int}{ps:List Pt} (o:xbk w h ps) {i:Nat}{p:Pt} (e:ps[i]?=some p):PtOk w h p/\(∀ q∈ps.take i,q.nm≠p.nm/\q.x≠p.x/\q.y≠p.y)/\i<12:=by
 obtain⟨hi,rfl⟩:=Zk.mp e;refine⟨o.ok _ (Qq hi),fun q hq=>⟨xcs (·.nm) o.nn hi q hq,xcs (·.x) o.nx hi q hq,xcs (·.y) o.ny hi q hq⟩,by have:=o.le; omega⟩
theorem xgz {ss:List Seat} (h:ss.Pairwise xbj):ss.Nodup:=h.imp fun {a b} z e=>by
 subst e;exact xfn _ _ z z
theorem xtl {α:Type}{l:List α}{i:Nat} (h:i<l.length) {x:α} (e:l[l.length-1-i]?=some x):l.reverse[i]?=some x:=by
 rw[QA h];exact e
def xak (b:Bool) (h:Nat):List Seat:=(Zz h).map fun (i:Nat)=>(b,1+(i:Int))
def xsn:Sp:=fun vs H Q _=>∃ h:Nat,vs=[.int (h:Int)]/\h<=16/\∀ H' l ss rs,ss=xak true h++xak false h->SsOk (h:Int) ss->Same H H'->H l=none->H' l=some (.lst (rs.map V.ref))->x6 H' ss rs->Q (.ref l) H'
theorem xqi (h:Nat) (h16:h<=16):SsOk (h:Int) (xak true h++xak false h):=by
 have nd:∀ b,(xak b h).Nodup:=fun b=>Drw.nd_map (fun a c e=>by
  have:=(ZR.inj e).2;omega) Yu
 refine⟨?_,?_,fun s hs=>?_⟩
 .rw [ZT];refine⟨nd _,nd _,fun a ha b hb e=>?_⟩;obtain⟨i,_,rfl⟩:=Zd.mp ha;obtain⟨j,_,rfl⟩:=Zd.mp hb;exact absurd (ZR.inj e).1 (by decide)
 .unfold xak;rw[Zs,Za,Za,Zv];omega
 .rcases Z8.mp hs with hs|hs
  .obtain ⟨i,hi,rfl⟩:=Zd.mp hs;rw[ZL] at hi;exact⟨by show (1:Int)<=1+(i:Int); omega,by show 1+(i:Int)<=_; omega⟩
  .obtain ⟨i,hi,rfl⟩:=Zd.mp hs;rw[ZL] at hi;exact⟨by show (1:Int)<=1+(i:Int); omega,by show 1+(i:Int)<=_; omega⟩
theorem x6.append {H:Hp}{ss ts:List Seat}{qs rs:List Addr} (h:x6 H ss qs) (h':x6 H ts rs):x6 H (ss++ts) (qs++rs):=by
 induction h with
 | nil=>exact h'
 | cons h _ ih=>exact .cons h ih
theorem x6.erase {H:Hp}{ss:List Seat}{qs:List Addr} (h:x6 H ss qs) (k:Nat):x6 H (ss.eraseIdx k) (qs.eraseIdx k):=by
 induction h generalizing k with
 | nil=>exact .nil
 | cons h r ih =>
  cases k with
  | zero=>exact r
  | succ k=>exact .cons h (ih k)
section
variable {P:Program}{w:World}{K:Ze}{mg:Str->Option Value}{base:Heap}{t:Adr}
theorem ok_a5 (T:Txt w K mg t):FnOk true P w K mg base (CXo P w) 4 t.f_a5 t.d_a5 ["_law_picture_here", "_law_point_here"] (xtz t):=by
 refine T.F_a5.okn (k:=3) sc_a5 (fun vs H Q E h=>?_) (fun cdv A outer s H vs Q E hr h=>?_)
 .obtain ⟨a,q,dp,do_,pw,ph,ps,p,rfl,_⟩:=h;rfl
 .obtain ⟨a,q,dp,do_,pw,ph,ps,p,rfl,h⟩:=h;refine⟨_,xj (xdz (pv 1) (xar rfl (xp (xn (i:=2) sc_a5.nd rfl (Zo rfl)) (xp (xn (i:=3) sc_a5.nd rfl (Zo rfl)) (xp (xn (i:=4) sc_a5.nd rfl (Zo rfl)) (xp (xn (i:=5) sc_a5.nd rfl (Zo rfl)) (xp (xn (i:=6) sc_a5.nd rfl (Zo rfl)) (xp (xn (i:=7) sc_a5.nd rfl (Zo rfl)) (xag)))))))))
   (xk (xap (PW.pt (xfm (xaa xbo (pv 5) (xad) (x9 _)) (xfm (xaa xbo (pv 6) (xo) (x9 _)) (xfz (xaa xbo (pv 7) (x4 (pv 0) rfl) (x9 _)))))) (xk (xax (xaw (pv 0) T.c_b T.m_a (ok_a T) (hr.mono (by decide)) T.b_bi.choose_spec.2 T.b_bi.choose_spec.1 xg (xa (pv 2) (xa (pv 3) (xa (pv 4) (xf))))))) (xk (xax (xaw (pv 0) T.c_b T.m_a (ok_a T) (hr.mono (by decide)) T.b_a .nil xg (xx (pv 2) (xx (pv 3) (xx (pv 4) (xx (pv 5) (xx (pv 6) (xx (pv 7) (xf) rfl) rfl) rfl) rfl) rfl) rfl)))))),?_⟩
  obtain⟨pic,hq,ok,un,l12,hQ⟩:=h;obtain⟨⟨dx,hpi⟩,_⟩:=id pic;obtain⟨nm,x,y,sd,lo,hi⟩:=p;refine⟨_,rfl,q,_,rfl,SqT.of hq,rfl,_,_,rfl,_,_,rfl,_,_,rfl,_,_,rfl,_,_,rfl,_,_,rfl,rfl,?_⟩;have B:∀(hv:V) (sd':Str) (lo':Int),sd'=sd->lo'=lo->((hv=.non/\hi=ph)\/hv=.int hi)->xq2 t [.ref a,.str nm,.int x,.int y,.str sd',.int lo',hv] H (fun _ H'=>Q .non H') (fun _ _ _=>False):=fun hv sd' lo' e1 e2 e3=>by
   subst e1 e2;exact⟨a,dp,do_,pw,ph,ps,nm,x,y,sd',lo',hi,hv,rfl,pic,e3,ok.nm,ok.x1,ok.x2,ok.y1,ok.y2,ok.sd,ok.l1,ok.l2,ok.l3,un,l12,hQ⟩
  have C:∀ Q':V->Hp->Prop,(∀ v H',Q .non H'->Q' v H')->True:=fun _ _=>trivial;refine⟨_,rfl,rfl,_,rfl,ite2 (fun y1=>⟨_,rfl,rfl,_,rfl,ite2 (fun y2=>⟨_,rfl,_,rfl,a,_,_,_,_,rfl,hpi,T.c_b,T.n_a6,lkH,rfl,_,rfl,ite2 (fun y3=>?_) (fun y3=>?_)⟩) (fun y2=>?_)⟩) (fun y1=>?_)⟩
  .have e1:sd=Zb "both":=V.str.inj (of_decide_eq_true y1);have e2:lo=1:=V.int.inj (of_decide_eq_true y2);have e3:hi=ph:=V.int.inj (of_decide_eq_true y3);refine⟨_,rfl,a,dx,_,rfl,hpi,xan (by decide +kernel),_,rfl,_,rfl,_,rfl,?_⟩;exact⟨a,dp,do_,pw,ph,ps,nm,x,y, "both",1,hi,.non,rfl,pic,.inl ⟨rfl,e3⟩,ok.nm,ok.x1,ok.x2,ok.y1,ok.y2,.inr (.inr rfl),by decide,e2▸ok.l2,ok.l3,un,l12,fun H' k pc=>hQ H' k (by rw[e1,e2]; exact pc)⟩
  all_goals
   refine⟨_,rfl,a,dx,_,rfl,hpi,xan (by decide +kernel),_,rfl,_,rfl,_,rfl,_,rfl,_,rfl,_,rfl,?_⟩;exact⟨a,dp,do_,pw,ph,ps,nm,x,y,sd,lo,hi,.int hi,rfl,pic,.inr rfl,ok.nm,ok.x1,ok.x2,ok.y1,ok.y2,ok.sd,ok.l1,ok.l2,ok.l3,un,l12,hQ⟩
theorem ok_ap (T:Txt w K mg t):FnOk true P w K mg base (CXo P w) 6 t.f_ap t.d_ap ["_law_width", "_law_height", "_law_points_here", "_law_seats_here"] (xtx t):=by
 refine T.F_ap.okn (k:=5) sc_ap (fun vs H Q E h=>?_) (fun cdv A outer s H vs Q E hr h=>?_)
 .obtain ⟨lp,ls,w',h',ps,ss,qs,rs,rfl,_⟩:=h;rfl
 .obtain ⟨lp,ls,w',h',ps,ss,qs,rs,rfl,h⟩:=h;refine⟨_,xj (x0 (i:=4) sc_ap.nd rfl (Zo rfl) (xen T.k_b (ok_aj T) (hr.mono (by decide)) rfl T.g_b T.b_aj .nil xg (xa (pv 0) (xa (pv 1) (xf)))))
   (xj (xa9 ZM rfl (xkz rfl T.n_reversed (xa (pv 3) (xf))) (xar rfl (xp (xn (i:=5) sc_ap.nd rfl (Zo rfl)) (xp (xn (i:=6) sc_ap.nd rfl (Zo rfl)) (xag)))) (xk (xax (xaw (pv 4) T.c_b T.m_h (ok_h T) (hr.mono (by decide)) T.b_h .nil xg (xa (pv 5) (xa (pv 6) (xf)))))))
   (xj (xa9 ZM rfl (xav (pv 2)) (xn (i:=7) sc_ap.nd rfl (Zo rfl)) (xk (xax (xr (ok_a5 T) (hr.mono (by decide)) rfl T.g_a5 T.F_a5.kp T.b_a5 .nil xg (xa (pv 4) (xa (pv 7) (xf)))))))
   (xk (xz (pv 4))))),?_⟩
  obtain⟨w1,w2,h1,h2,hlp,ptl,pok,hls,stl,sok,slt,q⟩:=h;have sll:=stl.len;have pll:=ptl.len;have nd:=xgz slt;refine⟨_,rfl,_,rfl,fun a dx ha hdx ne=>?_⟩;refine⟨a,dx,w',h',rfl,xb,by omega,by omega,by omega,by omega,fun H5 dp do_ hdp hdo k5 pic5 hdt=>⟨rfl,?_⟩⟩;have up:∀ b,upd (upd H dx (.own a)) a (.ins t.C_b dx []) b=none->H b=none:=fun b z=>by
   cases e:H b with
   | none=>rfl
   | some u=>rw[xh (xi e ha),xh (xi e hdx),e] at z; cases z
  have s5:Same H H5:=fun b u e=>k5 b u (xi e ha) (by rw[xh (xi e ha),xh (xi e hdx)]; exact e);have fdp:=up _ hdp;have fdo:=up _ hdo;have st5:Sts H5 do_ []:=⟨[],hdt,rfl,QH,by decide⟩
  have rnd:(ss.reverse.map id).Nodup:=by
   rw[List.map_id];exact (Ym ss).nodup_iff.mpr nd
  refine⟨_,rfl,ls,_,rfl,SqL.of (s5 _ _ hls),?_⟩;refine xr4 (xs:=rs.map V.ref) (Pv:=fun i σ H6=>∃(v5 v6 v7:Option V),σ=[some (.int (w':Int)),some (.int (h':Int)),some (.ref lp),some (.ref ls),some (.ref a),v5,v6,v7]/\Same H H6/\Pic t H6 a dp do_ w' h' []/\Sts H6 do_ (ss.reverse.take i)) ⟨_,_,_,rfl,s5,pic5,st5⟩ ?_ ?_ ?_
  .rintro i σ H6 _ ⟨_,_,_,rfl,s6,_⟩;exact SqL.of (s6 _ _ hls)
  .rintro i x σ H6 hi hx ⟨v5,v6,v7,rfl,s6,pic6,st6⟩;rw[Za] at hi hx;rw[Zf,Zi] at hx;obtain⟨qa,hqa,rfl⟩:=hx;obtain⟨⟨b,r⟩,hs,hsq⟩:=stl.get hqa;rw[sll] at hs hi;have hr:=xtl hi hs;have mem:=Zp hs;obtain⟨⟨dx6,hp6⟩,_⟩:=id pic6;obtain⟨ko,hko,_⟩:=id st6;have hil:i<ss.reverse.length:=by rw[JA]; exact hi
   have nin:(b,r)∉ss.reverse.take i:=fun z=>by
    have:=xcs id rnd hil (b,r) z;rw[(Zk.mp hr).2] at this;exact this rfl
   have l32:=sok.2.1;refine⟨qa,_,rfl,SqT.of (s6 _ _ hsq),rfl,_,_,rfl,_,_,rfl,rfl,?_⟩;refine⟨_,rfl,a,dx6,_,rfl,hp6,xan (by decide +kernel),_,rfl,_,rfl,a,dp,do_,w',h',[],ss.reverse.take i,b,r,rfl,pic6,st6,(sok.2.2 _ mem).1,(sok.2.2 _ mem).2,nin,by rw[Jt]; omega,fun H7 k7 pc7 st7=>⟨_,_,_,rfl,fun c u e=>k7 _ _ (xi e fdo) (s6 _ _ e),pc7,?_⟩⟩;rw[ZI,hr];exact st7
  .rintro σ H6 ⟨v5,v6,v7,rfl,s6,pic6,st6⟩;rw[Za,sll,JL (by rw[JA]; exact Zj _)] at st6;refine⟨_,rfl,lp,rfl,⟨_,SqL.of (s6 _ _ hlp)⟩,?_⟩;refine xbi (xs:=qs.map V.ref) (Pv:=fun i σ H7=>∃(v5 v6 v7:Option V),σ=[some (.int (w':Int)),some (.int (h':Int)),some (.ref lp),some (.ref ls),some (.ref a),v5,v6,v7]/\Same H H7/\Pic t H7 a dp do_ w' h' (ps.take i)/\Sts H7 do_ ss.reverse) ⟨_,_,_,rfl,s6,pic6,st6⟩ ?_ ?_ ?_
   .rintro i σ H7 _ ⟨_,_,_,rfl,s7,_⟩;exact SqL.of (s7 _ _ hlp)
   .rintro i x σ H7 hx ⟨v5,v6,v7,rfl,s7,pic7,st7⟩;rw[Zf,Zi] at hx;obtain⟨qa,hqa,rfl⟩:=hx;obtain⟨p,hp,hpq⟩:=ptl.get hqa;obtain⟨o1,o2,o3⟩:=pok.at_ hp;obtain⟨ko,hko,kr⟩:=id st7;obtain⟨_,⟨kp,hkp,_⟩,_⟩:=id pic7;refine⟨_,rfl,_,rfl,a,qa,dp,do_,w',h',ps.take i,p,rfl,pic7,s7 _ _ hpq,o1,o2,by rw[Jt]; omega,fun H8 k8 pc8=>⟨_,_,_,rfl,fun c u e=>k8 _ _ (xi e fdp) (s7 _ _ e),?_,ko,k8 _ _ (xae hko hkp (fun z=>nomatch z)) hko,kr⟩⟩;rw[ZI,hp];exact pc8
   .rintro σ H7 ⟨v5,v6,v7,rfl,s7,pic7,st7⟩;rw[Za,pll,JL (Zj _)] at pic7;exact⟨_,rfl,q H7 a dp do_ s7 ⟨pic7,st7,⟨(Ym ss).nodup_iff.mpr nd,by rw[JA]; exact sok.2.1,fun s hs=>sok.2.2 s (Qp.mp hs)⟩,(Ym ss).symm,slt,fun p hp=>(pok.ok p hp).nm⟩⟩
theorem ok_ab (T:Txt w K mg t):FnOk true P w K mg base (CXo P w) 1 t.f_ab t.d_ab ["_law_height"] (xsn):=by
 refine T.F_ab.okn (k:=0) sc_ab (fun vs H Q E h=>?_) (fun cdv A outer s H vs Q E hr h=>?_)
 .obtain ⟨h',rfl,_⟩:=h;rfl
 .obtain ⟨h',rfl,h⟩:=h;refine⟨_,xk (xz (xu xop (xbt rfl (xay (zs:=["_law_row"]) (ys:=[]) (fr:=[]) (N0:=["_law_height"]) (sc0:=xm s_ab) (by decide +kernel) rfl rfl rfl) (xd8 rfl T.n_range (xa (xo) (xa (xu xaq (pv 0) (xo)) (xf)))) (fun _ _ _ _ _ ow nd=>xn (i:=0) nd rfl (Zo (ow _ (by simp))) (ZS (ow _ (by simp)))) (xbu (by decide)) (fun _ _ _ _ _=>xa5) (fun _ _ _ _ _=>xal (xa (xad) (xa (pv 0) (xf))))) (xbt rfl (xay (zs:=["_law_row"]) (ys:=[]) (fr:=[]) (N0:=["_law_height"]) (sc0:=xm s_ab) (by decide +kernel) rfl rfl rfl) (xd8 rfl T.n_range (xa (xo) (xa (xu xaq (pv 0) (xo)) (xf)))) (fun _ _ _ _ _ ow nd=>xn (i:=0) nd rfl (Zo (ow _ (by simp))) (ZS (ow _ (by simp)))) (xbu (by decide)) (fun _ _ _ _ _=>xa5) (fun _ _ _ _ _=>xal (xa (xad) (xa (pv 0) (xf))))))),?_⟩;obtain⟨h16,q⟩:=h;refine⟨_,rfl,_,_,rfl,rfl,1,(h':Int)+1,rfl,⟨by decide,by decide,by omega,by omega⟩,fun l1 hl1=>?_⟩;have hh:((h':Int)+1-1).toNat=h':=by omega
  refine xeu (ZA (by omega:_<=1000) (by decide)) hl1 (fun i y H5=>∃ q,y=.ref q/\H5 q=some (.tup (xch (true,1+(i:Int))))) (fun i y H5 H6 tp z=>let ⟨q,e,f⟩:=z; ⟨q,e,tp _ _ f⟩) (fun i H5 hi s5 N hN=>?_) (fun ys H5 s5 e5 ly fy=>?_)
  .exact ⟨_,rfl,(by show 2<=sizeLine; decide),fun p hp=>hN _ _ (xq (Same.refl _) hp) ⟨p,rfl,xb⟩⟩
  rw[hh] at ly;obtain⟨rs1,rfl,sl1⟩:=x6.pick (ss:=xak true h') (by rw[ly]; unfold xak; rw[Za,Zv]) (fun j y s hy hs=>by
   obtain⟨q,e,f⟩:=fy j y hy;unfold xak at hs;rw[Zf,Zi] at hs;obtain⟨i,hi,rfl⟩:=hs;have:i=j:=by
    have z:=(Zk.mp hi).2;rw[JF] at z;exact z.symm
   subst this;exact⟨q,e,f⟩)
  refine⟨_,rfl,_,_,rfl,rfl,1,(h':Int)+1,rfl,⟨by decide,by decide,by omega,by omega⟩,fun l2 hl2=>?_⟩;refine xeu (ZA (by omega:_<=1000) (by decide)) hl2 (fun i y H6=>∃ q,y=.ref q/\H6 q=some (.tup (xch (false,1+(i:Int))))) (fun i y H5 H6 tp z=>let ⟨q,e,f⟩:=z; ⟨q,e,tp _ _ f⟩) (fun i H6 hi s6 N hN=>?_) (fun ys2 H6 s6 e6 ly2 fy2=>?_)
  .exact ⟨_,rfl,(by show 2<=sizeLine; decide),fun p hp=>hN _ _ (xq (Same.refl _) hp) ⟨p,rfl,xb⟩⟩
  rw[hh] at ly2;obtain⟨rs2,rfl,sl2⟩:=x6.pick (ss:=xak false h') (by rw[ly2]; unfold xak; rw[Za,Zv]) (fun j y s hy hs=>by
   obtain⟨q,e,f⟩:=fy2 j y hy;unfold xak at hs;rw[Zf,Zi] at hs;obtain⟨i,hi,rfl⟩:=hs;have:i=j:=by
    have z:=(Zk.mp hi).2;rw[JF] at z;exact z.symm
   subst this;exact⟨q,e,f⟩)
  refine⟨l1,l2,_,_,rfl,rfl,s6 _ _ e5,e6,?_,fun l3 hl3=>?_⟩
  .rw [ly,ly2];exact ZB (by omega:_<=1000) (by decide)
  rw[<- Z9];have s7:Same H6 (upd H6 l3 (.lst ((rs1++rs2).map V.ref))):=xq (Same.refl _) hl3;have g7:upd H6 l3 (.lst ((rs1++rs2).map V.ref)) l3=some (.lst ((rs1++rs2).map V.ref)):=xb;revert s7 g7;generalize upd H6 l3 (.lst ((rs1++rs2).map V.ref))=H7;intro s7 g7;exact q H7 l3 _ _ rfl (xqi h' h16) ((s5.trans s6).trans s7) ((s5.trans s6).free hl3) g7 (((sl1.keep (Same.tups s6)).append sl2).keep (Same.tups s7))
end
structure xfi (w h:Int) (ps:List Pt) (prs:List Pr):Prop where
 ok:∀ p∈prs,PrOk ps w h p
 nd:(prs.map (·.2)).Nodup
 len:prs.length<=12
 nn:(prs.map fun p=>p.1.nm).Nodup
def xsa (w:Nat):Sp:=fun vs H Q _=>∃(c:Int) (lp ls:Addr) (h:Nat) (ps:List Pt) (ss:List Seat) (qs rs:List Addr),vs=[.int c,.ref lp,.int (h:Int),.ref ls]/\h<=16/\H lp=some (.lst (qs.map V.ref))/\PtsL H ps qs/\xbk (w:Int) (h:Int) ps/\H ls=some (.lst (rs.map V.ref))/\x6 H ss rs/\SsOk (h:Int) ss /\
 ∀ H' l prs ts,xfi (w:Int) (h:Int) ps prs->Same H H'->H l=none->H' l=some (.lst (ts.map V.ref))->PrsL H' prs ts->Q (.ref l) H'
def xp8:Sp:=fun vs H Q E=>∃ w:Nat,xsa w vs H Q E
theorem xrc {ps:List Pt} (nd:(ps.map (·.nm)).Nodup) {p:Pt} (h:p∈ps):ps.find? (fun z=>decide (z.nm=p.nm))=some p:=by
 induction ps with
 | nil=>exact nomatch h
 | cons x r ih =>
  rw[Zr,Jc] at nd;rcases Zx.mp h with rfl|h
  .rw [Q1 (by simp)]
  .rw [Q2,ih nd.2 h];intro e;exact nd.1 (Zd.mpr ⟨p,h,(of_decide_eq_true e).symm⟩)
theorem xpo {h:Int}{ss:List Seat} (o:SsOk h ss) {k:Nat}{s:Seat} (e:ss[k]?=some s):SsOk h (ss.eraseIdx k)/\s∉ss.eraseIdx k/\(∀ z∈ss.eraseIdx k,z∈ss)/\s∈ss:=by
 obtain⟨a,b,c,d⟩:=xd9 o.1 e;exact⟨⟨a,ZB (Qs _ _) o.2.1,fun z hz=>o.2.2 z (c z hz)⟩,b,c,d⟩
theorem xqp {K:Ze}{H:Hp}{l l2:Addr}{ss:List Seat}{rs:List Addr} (sl:x6 H ss rs) (h:H l=some (.lst (rs.map V.ref))) (h2:H l2=some (.lst [])):∃(n m:Nat) (d e:DV),Dv K H n (.ref l) d/\Dv K H m (.ref l2) e/\n<=9/\m<=9/\(!dEq d e)=!decide (ss=[]):=by
 refine⟨2,1,_,.lst [],sl.dv h,.lst (SqL.of h2) rfl (xdt (xs:=[]) rfl),by decide,by decide,?_⟩;cases ss with
 | nil=>rfl
 | cons x r=>rfl
def IPr (H:Hp) (lp ls lf l2:Addr) (c:Int) (w h:Nat) (ps:List Pt) (k:Nat) (σ:L2.St) (H5:Hp):Prop:=∃(ss:List Seat) (rs:List Addr) (prs:List Pr) (ts:List Addr) (v6 v7 v8 v9:Option V),σ=[some (.int c),some (.ref lp),some (.int (h:Int)),some (.ref ls),some (.ref lf),some (.ref l2),v6,v7,v8,v9] /\
 Same H H5/\H5 lf=some (.lst (rs.map V.ref))/\x6 H5 ss rs/\SsOk (h:Int) ss/\H5 l2=some (.lst (ts.map V.ref))/\PrsL H5 prs ts/\(∀ p∈prs,PrOk ps (w:Int) (h:Int) p)/\prs.length<=k/\(prs.map (·.2)).Nodup/\(∀ p∈prs,p.2∉ss)/\List.Sublist (prs.map (·.1)) (ps.take k)
theorem xs3 {ps:List Pt} (nd:(ps.map (·.nm)).Nodup) {prs:List Pr}{k:Nat} (h:List.Sublist (prs.map (·.1)) (ps.take k)):(prs.map fun p=>p.1.nm).Nodup:=by
 have z:=(h.trans (List.take_sublist _ _)).map (·.nm);rw[Zl] at z;exact z.nodup nd
theorem PrsL.rev {H:Hp}{ps:List Pr}{qs:List Addr} (h:PrsL H ps qs):PrsL H ps.reverse qs.reverse:=by
 induction h with
 | nil=>exact .nil
 | cons h _ ih =>
  rw[List.reverse_cons,List.reverse_cons];exact ih.snoc h
section
variable {P:Program}{w:World}{K:Ze}{mg:Str->Option Value}{base:Heap}{t:Adr}
theorem ok_av (T:Txt w K mg t):FnOk true P w K mg base (CXo P w) 2 t.f_av t.d_av ["_law_cell", "_law_points_here", "_law_height", "_law_seats_here"] (xp8):=by
 refine T.F_av.okn (k:=1) sc_av (fun vs H Q E h=>?_) (fun cdv A outer s H vs Q E hr h=>?_)
 .obtain ⟨w',c,lp,ls,h',ps,ss,qs,rs,rfl,_⟩:=h;rfl
 .obtain ⟨w',c,lp,ls,h',ps,ss,qs,rs,rfl,h⟩:=h;refine⟨_,xj (x0 (i:=4) sc_av.nd rfl (Zo rfl) (xcm xko rfl T.n_list boot_list (xa (pv 3) (xf))))
   (xj (xcc (xap (xaa xbo (xu xa1 (xr (ok_k T) (hr.mono (by decide)) rfl T.g_k T.F_k.kp T.b_k .nil xg (xa (pv 0) (xa (xo) (xf)))) (xo)) (xo) (x9 _)) (xk (x0 (i:=4) sc_av.nd rfl (Zo rfl) (xr (ok_ab T) (hr.mono (by decide)) rfl T.g_ab T.F_ab.kp T.b_ab .nil xg (xa (pv 2) (xf))))) (x8)))
   (xj (x0 (i:=5) sc_av.nd rfl (Zo rfl) (xco (xf)))
   (xj (xa9 ZM rfl (xc1 rfl T.n_enumerate (xa (pv 1) (xf))) (xar rfl (xp (xn (i:=6) sc_av.nd rfl (Zo rfl)) (xp (xn (i:=7) sc_av.nd rfl (Zo rfl)) (xag)))) (xk (xcc (xap (PW.pt (xfm (xaa (xek (xbp hr)) (pv 4) (xco (xf)) (x9 _)) (xfz (xaa xvj (xu xa1 (xr (ok_k T) (hr.mono (by decide)) rfl T.g_k T.F_k.kp T.b_k .nil xg (xa (pv 0) (xa (xu xaq (xo) (pv 6)) (xf)))) (xo)) (xo) (x9 _))))) (xj (xdz (xdb Jl YK YJ xew (pv 4) (xa (xu xa1 (xr (ok_k T) (hr.mono (by decide)) rfl T.g_k T.F_k.kp T.b_k .nil xg (xa (pv 0) (xa (xu xaq (xo) (pv 6)) (xf)))) (xab xbn rfl T.n_len Yb (xa (pv 4) (xf)))) (xf))) (xar rfl (xp (xn (i:=8) sc_av.nd rfl (Zo rfl)) (xp (xn (i:=9) sc_av.nd rfl (Zo rfl)) (xag)))))
   (xk (xax (xdb Jl Ql Qk xea (pv 5) (xa (xal (xa (xba xbd (pv 7) (xo) (fun _ _=>rfl)) (xa (pv 8) (xa (pv 9) (xf))))) (xf)))))) (x8)))))
   (xj (xcc (xap (xaa xbo (xu xa1 (xr (ok_k T) (hr.mono (by decide)) rfl T.g_k T.F_k.kp T.b_k .nil xg (xa (pv 0) (xa (xo) (xf)))) (xo)) (xo) (x9 _)) (xk (xz (xdm rfl rfl T.n_list rfl T.n_reversed (xa (pv 5) (xf))))) (x8)))
   (xk (xz (pv 5))))))),?_⟩
  obtain⟨h16,hlp,ptl,pok,hls,stl,sok,q⟩:=h;have pll:=ptl.len;have ple:=pok.le;refine⟨_,rfl,ls,_,rfl,.inl (SqL.of hls),fun lf0 hlf0=>?_⟩;have s1:Same H (upd H lf0 (.lst (rs.map V.ref))):=xq (Same.refl _) hlf0;have g1:upd H lf0 (.lst (rs.map V.ref)) lf0=some (.lst (rs.map V.ref)):=xb;revert s1 g1;generalize upd H lf0 (.lst (rs.map V.ref))=H1;intro s1 g1;refine⟨fun σ H5=>∃(lf:Addr) (ss':List Seat) (rs':List Addr),σ=[some (.int c),some (.ref lp),some (.int (h':Int)),some (.ref ls),some (.ref lf),none,none,none,none,none]/\Same H H5/\H lf=none/\H5 lf=some (.lst (rs'.map V.ref))/\x6 H5 ss' rs'/\SsOk (h':Int) ss',?_,?_⟩
  .refine ⟨_,rfl,c,40,rfl,fun m _ _=>⟨_,_,rfl,rfl,(by show (0:Int)<2; decide),rfl,_,rfl,ite2 (fun y=>?_) (fun y=>⟨lf0,ss,rs,rfl,s1,hlf0,g1,stl.keep (Same.tups s1),sok⟩)⟩⟩;exact⟨_,rfl,h',rfl,h16,fun H5 lf ss' rs' _ o5 s5 f5 e5 sl5=>⟨lf,ss',rs',rfl,s1.trans s5,s1.free f5,e5,sl5,o5⟩⟩
  rintro σ H5 ⟨lf,ss5,rs5,rfl,s5,flf,e5,sl5,o5⟩;refine⟨(by show 0<=sizeLine; decide),fun l2 hl2=>?_⟩;have s6:Same H5 (upd H5 l2 (.lst [])):=xq (Same.refl _) hl2;have g6:upd H5 l2 (.lst []) l2=some (.lst []):=xb;revert s6 g6;generalize upd H5 l2 (.lst [])=H6;intro s6 g6;have nfl:lf≠l2:=xi e5 hl2;have fl2:=s5.free hl2;refine⟨_,rfl,lp,_,rfl,SqL.of (s6 _ _ (s5 _ _ hlp)),?_⟩;refine xe2 (xs:=qs.map V.ref) (Pv:=IPr H lp ls lf l2 c w' h' ps) ⟨ss5,rs5,[],[],_,_,_,_,rfl,s5.trans s6,s6 _ _ e5,sl5.keep (Same.tups s6),o5,g6,.nil,fun _ z=>(nomatch z),Zj _,.nil,fun _ z=>(nomatch z),List.nil_sublist _⟩ ?_ ?_ ?_
  .rintro i σ H7 _ ⟨_,_,_,_,_,_,_,_,rfl,s7,_⟩;exact SqL.of (s7 _ _ hlp)
  .rintro k x p σ H7 hx hp ⟨ss7,rs7,prs,ts,v6,v7,v8,v9,rfl,s7,e7,sl7,o7,t7,pr7,ok7,k7,nd7,no7,sb7⟩;rw[Zf,Zi] at hx;obtain⟨qa,hqa,rfl⟩:=hx;obtain⟨pt,hpt,hpq⟩:=ptl.get hqa;have k12:k<12:=by have:=(Zk.mp hpt).1; omega
   have s8:Same H7 (upd H7 p (.tup [.int (k:Int),.ref qa])):=xq (Same.refl _) hp;have g8:upd H7 p (.tup [.int (k:Int),.ref qa]) p=some (.tup [.int (k:Int),.ref qa]):=xb;revert s8 g8;generalize upd H7 p (.tup [.int (k:Int),.ref qa])=H8;intro s8 g8;refine⟨p,_,rfl,SqT.of g8,rfl,_,_,rfl,_,_,rfl,rfl,?_⟩;refine⟨_,?_,fun _ _ z=>z⟩;refine⟨_,rfl,(by show 0<=sizeLine; decide),fun z1 hz1=>?_⟩;have s9:Same H8 (upd H8 z1 (.lst [])):=xq (Same.refl _) hz1;have g9:upd H8 z1 (.lst []) z1=some (.lst []):=xb;revert s9 g9;generalize upd H8 z1 (.lst [])=H9;intro s9 g9;have s79:=s8.trans s9;have e9:=s79 _ _ e7;have sl9:=sl7.keep (Same.tups s79);obtain⟨n,m,d,e,d1,d2,n9,m9,ev⟩:=xqp (K:=K) sl9 e9 g9;refine⟨n,m,d,e,d1,d2,n9,m9,_,rfl,?_⟩;rw[ev];have skip:IPr H lp ls lf l2 c w' h' ps (k+1) [some (.int c),some (.ref lp),some (.int (h':Int)),some (.ref ls),some (.ref lf),some (.ref l2),some (.int (k:Int)),some (.ref qa),v8,v9] H9:=⟨ss7,rs7,prs,ts,_,_,_,_,rfl,s7.trans s79,e9,sl9,o7,s79 _ _ t7,pr7.keep (Same.tups s79),ok7,by omega,nd7,no7,xpm sb7⟩
   refine ite2 (fun y1=>?_) (fun y1=>skip);refine⟨_,rfl,_,rfl,_,_,rfl,rfl,c,_,rfl,fun m1 _ _=>⟨_,_,rfl,rfl,(by show (0:Int)<5; decide),_,_,rfl,rfl,_,rfl,ite2 (fun y2=>?_) (fun y2=>skip)⟩⟩;have sne:rs7≠[]:=fun z=>by
    have l:=sl7.len;rw[z] at l;have:ss7=[]:=Qt.mp l.symm;rw[this] at y1;exact absurd y1 (by decide)
   have r32:rs7.length<=32:=by rw[sl7.len]; exact o7.2.1
   refine⟨_,rfl,.inl ⟨rfl,_,SqL.of e9⟩,_,rfl,_,rfl,_,_,rfl,rfl,c,_,rfl,fun m2 _ _=>?_⟩;obtain⟨j,vq,gj,a1,a2,a3,a4⟩:=xht m2 (xs:=rs7.map V.ref) (fun z=>sne (YU.mp z)) (by rw[Za]; omega);rw[Zf,Zi] at gj;obtain⟨qs9,hj,rfl⟩:=gj;obtain⟨⟨b,r⟩,hs,hsq⟩:=sl9.get hj;obtain⟨o10,n10,i10,m10⟩:=xpo o7 hs;refine⟨_,rfl,lf,_,rfl,.inl (SqL.of e9),_,_,rfl,rfl,a4,lf,_,_,j,.ref qs9,rfl,rfl,e9,a1,a2,a3,(by rw[Zf,hj]; rfl),?_⟩;have ee:(rs7.map V.ref).eraseIdx j=(rs7.eraseIdx j).map V.ref:=by
    rw[YG,YG,Z9,List.map_take,List.map_drop]
   rw[ee];have k10:∀ c u,c≠lf->H9 c=some u->upd H9 lf (.lst ((rs7.eraseIdx j).map V.ref)) c=some u:=fun c u nc e=>by rw[xh nc]; exact e
   have g10:upd H9 lf (.lst ((rs7.eraseIdx j).map V.ref)) lf=some (.lst ((rs7.eraseIdx j).map V.ref)):=xb;revert k10 g10;generalize upd H9 lf (.lst ((rs7.eraseIdx j).map V.ref))=H10;intro k10 g10;have t10:Tups H9 H10:=fun c xs e=>k10 _ _ (xae e e9 (fun z=>nomatch z)) e;have s010:Same H H10:=fun c u e=>k10 _ _ (xi e flf) (s79 _ _ (s7 _ _ e));refine⟨qs9,_,rfl,SqT.of (t10 _ _ hsq),rfl,_,_,rfl,_,_,rfl,rfl,?_⟩;have e10t:=k10 _ _ (ZE nfl) (s79 _ _ t7);refine⟨_,rfl,.inl ⟨rfl,_,SqL.of e10t⟩,_,rfl,qa,_,0,.str pt.nm,rfl,rfl,SqT.of (s010 _ _ hpq),rfl,_,rfl,_,rfl,(by show 3<=sizeLine; decide),fun ta hta=>?_⟩;have s11:Same H10 (upd H10 ta (.tup [.str pt.nm,.str (xac b),.int r])):=xq (Same.refl _) hta;have g11:upd H10 ta (.tup [.str pt.nm,.str (xac b),.int r]) ta=some (.tup [.str pt.nm,.str (xac b),.int r]):=xb;revert s11 g11;generalize upd H10 ta (.tup [.str pt.nm,.str (xac b),.int r])=H11;intro s11 g11;have g11:H11 ta=some (.tup (prV (pt,b,r))):=g11;refine⟨l2,_,_,rfl,rfl,s11 _ _ e10t,?_,?_⟩
   .rw [Za,pr7.len];exact ZA (by omega:_<=1000) (by decide)
   have e11t:=s11 _ _ e10t;have kt:Tups H11 (upd H11 l2 (.lst (ts.map V.ref++[.ref ta]))):=fun c xs e=>by rw[xh (xae e e11t (fun z=>nomatch z))]; exact e
   have pmem:=Zp hpt;have po:=pok.ok pt pmem;refine⟨ss7.eraseIdx j,rs7.eraseIdx j,prs++[(pt,b,r)],ts++[ta],_,_,_,_,rfl,fun c u e=>by rw[xh (xi e fl2)]; exact s11 _ _ (s010 _ _ e),by rw[xh nfl]; exact s11 _ _ g10,(((sl9.erase j).keep t10).keep (Same.tups s11)).keep kt,o10,by rw[xb,Z9]; rfl,PrsL.snoc ((((pr7.keep (Same.tups s79)).keep t10).keep (Same.tups s11)).keep kt) (kt _ _ g11),fun z hz=>?_,by rw[Zs,Yk]; omega,xfr nd7 fun z hz e=>?_,fun z hz=>?_,by rw[Z9]; exact xpn sb7 hpt⟩
   .rcases Z8.mp hz with hz|hz
    .exact ok7 z hz
    .rw [Zw.mp hz];exact⟨po.nm,xrc pok.nn pmem,(o7.2.2 _ m10).1,(o7.2.2 _ m10).2,po.x1,po.x2,po.y1,po.y2⟩
   .exact no7 z hz (e▸m10)
   .rcases Z8.mp hz with hz|hz
    .exact fun y=>no7 z hz (i10 _ y)
    .rw [Zw.mp hz];exact n10
  .rintro σ H7 ⟨ss7,rs7,prs,ts,v6,v7,v8,v9,rfl,s7,e7,sl7,o7,t7,pr7,ok7,k7,nd7,no7,sb7⟩;have nn7:=xs3 pok.nn sb7;rw[Za,pll] at k7;refine⟨fun σ H8=>H7=H8/\σ=[some (.int c),some (.ref lp),some (.int (h':Int)),some (.ref ls),some (.ref lf),some (.ref l2),v6,v7,v8,v9],?_,?_⟩
   .refine ⟨_,rfl,c,39,rfl,fun m _ _=>⟨_,_,rfl,rfl,(by show (0:Int)<2; decide),rfl,_,rfl,ite2 (fun y=>?_) (fun y=>⟨rfl,rfl⟩)⟩⟩;refine⟨_,rfl,l2,_,rfl,SqL.of t7,fun l3 hl3=>?_⟩;rw[<- Yw];have s9:Same H7 (upd H7 l3 (.lst (ts.reverse.map V.ref))):=xq (Same.refl _) hl3;have g9:upd H7 l3 (.lst (ts.reverse.map V.ref)) l3=some (.lst (ts.reverse.map V.ref)):=xb;revert s9 g9;generalize upd H7 l3 (.lst (ts.reverse.map V.ref))=H9;intro s9 g9;exact q H9 l3 prs.reverse ts.reverse ⟨fun p hp=>ok7 p (Qp.mp hp),by rw[Yw]; exact (Ym _).nodup_iff.mpr nd7,by rw[JA]; omega,by rw[Yw]; exact (Ym _).nodup_iff.mpr nn7⟩ (s7.trans s9) (s7.free hl3) g9 (pr7.rev.keep (Same.tups s9))
   rintro σ _ ⟨rfl,rfl⟩;exact⟨_,rfl,q H7 l2 prs ts ⟨ok7,nd7,by omega,nn7⟩ s7 fl2 t7 pr7⟩
end
def xb5 (w:Int) (p:Pr):List (Cl × Str):=Drw.ledL (Zb "+") (Zb "|") (Zb "-") w p.1.x p.1.y p.2.1 p.2.2
def xam (w:Int) (ps:List Pt) (ss:List Seat) (prs:List Pr):Cl->Option Str:=Drw.drawL hsS (prs.flatMap (xb5 w)) (xbc w ss) (xa3 w prs) (ptsS ps)
theorem xb0 {w:Nat} (w1:1<=w) {a b:Seat} (e:rimC w a=rimC w b):a=b:=by
 obtain⟨a1,a2⟩:=a;obtain⟨b1,b2⟩:=b;have e1:Drw.rim w a1=Drw.rim w b1:=(ZR.inj e).1;have e2:a2=b2:=(ZR.inj e).2;subst e2;unfold Drw.rim at e1;cases a1<;>cases b1
 .rfl
 .simp at e1; omega
 .simp at e1; omega
 .rfl
theorem xde (w:Int) (s:Seat):(rimC w s).1=0\/(rimC w s).1=w+1:=by
 show Drw.rim w s.1=0\/Drw.rim w s.1=w+1;unfold Drw.rim;split
 .exact .inl rfl
 .exact .inr rfl
theorem xhj {α β:Type}{f g:α->List β}:∀{l:List α},(∀ a∈l,f a=g a)->l.flatMap f=l.flatMap g
 | [],_=>rfl
 | a::l,h=>by
  rw[Yn,Yn,h a (Z0 ..),xhj fun b hb=>h b (Z1 _ hb)]
theorem xla {w h:Nat}{ps:List Pt}{ss:List Seat}{prs prs':List Pr} (w1:1<=w) (pok:xbk w h ps) (pal:xfi w h ps prs) (pm:prs'.Perm prs):xdk w ps ss prs'=xam w ps ss prs:=by
 funext c;unfold xdk xam;refine Drw.draw_same (w:=w) hsS (fun x hx=>?_) (fun x hx=>?_) (fun x hx=>?_) (pm.map _) ?_ c fun n1 n2=>?_
 .obtain ⟨p,hp,rfl⟩:=Zd.mp hx;exact⟨(pok.ok p hp).x1,(pok.ok p hp).x2⟩
 .obtain ⟨s,_,rfl⟩:=Zd.mp hx;exact xde w s
 .obtain ⟨s,_,rfl⟩:=Zd.mp hx;exact xde w s.2
 .rw [Zl];have nd:=(pm.map (·.2)).nodup_iff.mpr pal.nd;rw[JE,Z3] at nd ⊢;exact nd.imp fun ne e=>ne (xb0 w1 e)
 .rw [Drw.at_flat,Drw.at_flat];rw[xhj (g:=fun a=>Drw.at_ c (xb5 w a))]
  .exact pm.flatMap_right _
  intro a ha;have ok:=pal.ok a (pm.mem_iff.mp ha);refine Drw.led_at _ _ _ ok.xy.1 ok.xy.2.1 (fun e=>n1 ?_) (fun e=>n2 ?_)
  .rw [e];unfold ptsS;rw[Zl];exact Zd.mpr ⟨a.1,Yx ok.fd,rfl⟩
  .rw [e];rw[Zl];exact Zd.mpr ⟨a,ha,rfl⟩
theorem Dr.same {t:Adr}{H H':Hp}{a dp do_:Addr}{w h:Nat}{ps:List Pt}{ss srt:List Seat} (d:Dr t H a dp do_ w h ps ss srt) (s:Same H H'):Dr t H' a dp do_ w h ps ss srt:=⟨Pic.same s d.pic,d.sts.same s,d.ok,d.pm,d.lt,d.nm⟩
theorem xlh {h:Nat}{s:Seat} (o:1<=s.2/\s.2<=(h:Int)):s∈xak true h++xak false h:=by
 obtain⟨b,r⟩:=s;have o1:1<=r:=o.1;have o2:r<=h:=o.2;have z:∀ b,(b,r)∈xak b h:=fun b=>Zd.mpr ⟨(r-1).toNat,ZL.mpr (by omega),by rw[show 1+((r-1).toNat:Int)=r by omega]⟩;cases b
 .exact ZO _ (z false)
 .exact QL _ (z true)
theorem xp2 (ns:List Int):∃ ms:List Int,cutV (ns.map V.int) (some 3) (some 15)=ms.map V.int/\ms.length<=12:=by
 refine⟨(ns.drop (min 3 ns.length)).take (min 15 ns.length-min 3 ns.length),?_,?_⟩
 .unfold cutV;simp only[HT.sIx,Za];rw[if_neg (by decide),if_neg (by decide),List.map_take,List.map_drop];rfl
 .rw [Jt];omega
def prD (p:Pr):DV:=.tup [.str p.1.nm,.str (xac p.2.1),.int p.2.2]
theorem xu6 {K:Ze}{H:Hp}{q:Addr}{p:Pr} (h:H q=some (.tup (prV p))):Dv K H 1 (.ref q) (prD p):=.tup (SqT.of h) rfl (xdt (xs:=prV p) rfl)
theorem PrsL.dv {K:Ze}{H:Hp}{ps:List Pr}{qs:List Addr} (h:PrsL H ps qs) {l:Addr} (e:H l=some (.lst (qs.map V.ref))):Dv K H 2 (.ref l) (.lst (ps.map prD)):=by
 refine .lst (SqL.of e) (by rw[Za,Za,h.len]) fun j x d h1 h2=>?_;rw[Zf] at h1 h2;obtain⟨q,hq,rfl⟩:=Zi.mp h1;obtain⟨p,hp,rfl⟩:=Zi.mp h2;obtain⟨p',hp',e'⟩:=h.get hq;rw[hp] at hp';cases hp';exact xu6 e'
def xi9 (K:Ze):Sp:=fun vs H Q _=>∃(a:Addr) (ns:List Int),vs=[.ref a]/\SqL K H a (ns.map V.int)/\ns.length<=63/\∀ H',Q (.bl true) H'
abbrev Sg:=Nat × Nat × Nat
def sgV (s:Sg):List V:=[.int (s.1:Int),.int (s.2.1:Int),sgn s.2.2]
def GV (G:List (List Nat)):List V:=G.map fun r=>V.str (ofL r)
def sgR (i:Nat) (r:List Nat):List Sg:=(Zz r.length).map fun j=>(i,j,r.getD j 0)
def sgsN (G:List (List Nat)) (n:Nat):List Sg:=(Zz n).flatMap fun i=>sgR i (G.getD i [])
def sgs (G:List (List Nat)):List Sg:=sgsN G G.length
structure Txs (W:Nat) (G:List (List Nat)):Prop where
 h1:1<=G.length
 h2:G.length<=16
 wd:∀ r∈G,r.length=W
 asc:∀ r∈G,∀ c∈r,c<128
 w1:3<=W
 w2:W<=32
def TL {α:Type} (f:α->List V) (H:Hp) (as:List α) (qs:List Addr):Prop:=qs.length=as.length/\∀(i:Nat) (q:Addr),qs[i]?=some q->∃ a,as[i]?=some a/\H q=some (.tup (f a))
theorem TL.keep {α:Type}{f:α->List V}{H H':Hp}{as:List α}{qs:List Addr} (s:Tups H H') (h:TL f H as qs):TL f H' as qs:=⟨h.1,fun i q e=>let ⟨a,e1,e2⟩:=h.2 i q e; ⟨a,e1,s _ _ e2⟩⟩
theorem TL.nil {α:Type}{f:α->List V}{H:Hp}:TL f H [] []:=⟨rfl,fun i q e=>by simp at e⟩
theorem TL.append {α:Type}{f:α->List V}{H:Hp}{as bs:List α}{qs rs:List Addr} (h:TL f H as qs) (k:TL f H bs rs):TL f H (as++bs) (qs++rs):=by
 refine⟨by rw[Zs,Zs,h.1,k.1],fun i q e=>?_⟩;by_cases c:i<qs.length
 .rw [Jg c] at e;rw[Jg (by rw[<- h.1]; exact c)];exact h.2 i q e
 .rw [Jp (by omega)] at e;rw[Jp (by rw[<- h.1]; omega),<- h.1];exact k.2 _ q e
theorem TL.pick {α:Type}{f:α->List V}{H:Hp}:∀{as:List α}{ys:List V},ys.length=as.length->(∀(j:Nat) (y:V) (a:α),ys[j]?=some y->as[j]?=some a->∃ q,y=.ref q/\H q=some (.tup (f a)))->∃ rs:List Addr,ys=rs.map V.ref/\TL f H as rs
 | [],[],_,_=>⟨[],rfl,TL.nil⟩
 | [],_::_,h,_=>by cases h
 | _::_,[],h,_=>by cases h
 | s::ss,y::ys,h,k=>by
  obtain⟨q,e,hq⟩:=k 0 y s rfl rfl;obtain⟨rs,e2,r⟩:=TL.pick (as:=ss) (ys:=ys) (by simpa using h) fun j y s h1 h2=>k (j+1) y s (by simpa using h1) (by simpa using h2)
  refine⟨q::rs,by rw[e,e2]; rfl,TL.append (as:=[s]) (qs:=[q]) ⟨rfl,fun i q' e'=>?_⟩ r⟩;cases i with
  | zero =>
   simp at e';subst e';exact⟨s,rfl,hq⟩
  | succ i=>simp at e'
theorem xb1 (l:List Nat):(ofL l).length=l.length:=by simp[ofL,Y5]
theorem xsx {l:List Nat} (h:∀ c∈l,c<128):(ofL l).cps.all (·<128)=true:=by
 rw[Array.all_eq_true];intro i hi;have:(ofL l).cps[i]∈(ofL l).cps.toList:=by simp
 rw[xa4] at this;exact decide_eq_true (h _ this)
def xso:Sp:=fun vs H Q _=>∃(l:Addr) (W:Nat) (G:List (List Nat)),vs=[.ref l]/\H l=some (.lst (GV G))/\Txs W G/\∀ H',Same H H'->Q .non H'
def xr8:Sp:=fun vs H Q _=>∃(l:Addr) (W:Nat) (G:List (List Nat)),vs=[.ref l]/\H l=some (.lst (GV G))/\Txs W G/\∀ H' l' qs,Same H H'->H l'=none->H' l'=some (.lst (qs.map V.ref))->TL sgV H' (sgs G) qs->Q (.ref l') H'
def xfl (j:Nat):Bool:=decide (j=0)
def xpa:Sp:=fun vs H Q _=>∃(q:Addr) (i j:Nat),vs=[.ref q]/\H q=some (.tup [.int (i:Int),.int (j:Int)])/\∀ H' q',Same H H'->H q'=none->H' q'=some (.tup (xch (xfl j,(i:Int)+1)))->Q (.ref q') H'
theorem xff (G:List (List Nat)):(GV G).length=G.length:=by unfold GV; rw[Za]
theorem xhm {G:List (List Nat)}{i:Nat}{r:List Nat} (h:G[i]?=some r):(GV G)[i]?=some (V.str (ofL r)):=by unfold GV; rw[Zf,h]; rfl
theorem xio {G:List (List Nat)}{i:Nat}{r:List Nat} (h:G[i]?=some r):sgsN G (i+1)=sgsN G i++sgR i r:=by
 unfold sgsN;rw[JV,YV,Q0,Jq,h];rfl
theorem xex {W:Nat}{G:List (List Nat)} (o:Txs W G):∀ n,n<=G.length->(sgsN G n).length=n*W
 | 0,_=>by simp[sgsN]
 | n+1,h=>by
  obtain⟨r,hr⟩:∃ r,G[n]?=some r:=⟨_,Zh h⟩
  rw[xio hr,Zs,xex o n (by omega),Nat.add_mul,Nat.one_mul];unfold sgR;rw[Za,Zv,o.wd r (Zp hr)]
section
variable {P:Program}{w:World}{K:Ze}{mg:Str->Option Value}{base:Heap}{t:Adr}
theorem ok_ar (T:Txt w K mg t):FnOk true P w K mg base (CXo P w) 1 t.f_ar t.d_ar ["rows"] (xso):=by
 refine T.F_ar.okn (k:=0) sc_ar (fun vs H Q E h=>?_) (fun cdv A outer s H vs Q E hr h=>?_)
 .obtain ⟨l,W,G,rfl,_⟩:=h;rfl
 .obtain ⟨l,W,G,rfl,h⟩:=h;refine⟨_,xj (xap (PW.pt (xc0 (xbe (xa6 (xab xb4 rfl T.n_isinstance boot_isinstance (xa (pv 0) (xa (xcw (v:=.ty "list") rfl T.n_list boot_list rfl) (xf)))))) (xcp (xbe (xjo xgb xgb (xo) (xab xbn rfl T.n_len Yb (xa (pv 0) (xf))) (xcy (v:=.int 16) rfl T.v_bh.choose_spec ⟨_,rfl⟩)))))) (xk (xaz)) (x8))
   (xk (xa9 ZM rfl (xc1 rfl T.n_enumerate (xa (pv 0) (xf))) (xar rfl (xp (xn (i:=1) sc_ar.nd rfl (Zo rfl)) (xp (xn (i:=2) sc_ar.nd rfl (Zo rfl)) (xag)))) (xk (xap (PW.pt (xc0 (xbe (xa6 (xab xb4 rfl T.n_isinstance boot_isinstance (xa (pv 2) (xa (xcw (v:=.ty "str") rfl T.n_str boot_str rfl) (xf)))))) (xc0 (xbe (xjo xgb xgb (xo) (xab xb2 rfl T.n_len Yb (xa (pv 2) (xf))) (xu xaq (xcy (v:=.int 30) rfl T.v_be.choose_spec ⟨_,rfl⟩) (xo)))) (xcp (xaa xfu (xab xb2 rfl T.n_len Yb (xa (pv 2) (xf))) (xab xb2 rfl T.n_len Yb (xa (xba xei (pv 0) (xo) (fun _ _=>rfl)) (xf))) (x9 _)))))) (xk (xaz)) (x8))))),?_⟩
  obtain⟨hl,o,q⟩:=h;have h1:=o.h1;have h2:=o.h2;have w1:=o.w1;have w2:=o.w2;have gl:=xff G;obtain⟨r0,hr0⟩:∃ r,G[0]?=some r:=⟨_,Zh h1⟩
  have l0:=o.wd r0 (Zp hr0);refine⟨_,rfl,_,_,rfl,.inl ⟨_,_,true,.lst hl,rfl,xb8,true,rfl,iteF ?_⟩⟩;refine⟨_,rfl,l,_,rfl,.inl (SqL.of hl),?_⟩;refine⟨_,_,rfl,rfl,_,rfl,ifP (decide_eq_true (by rw[gl]; omega)) ⟨_,_,rfl,rfl,_,rfl,ifN (by rw[decide_eq_true (by rw[gl]; omega)]; rfl) ?_⟩⟩;refine⟨_,rfl,l,_,rfl,SqL.of hl,?_⟩;refine xe2 (xs:=GV G) (Pv:=fun i σ H5=>∃(v1 v2:Option V),σ=[some (.ref l),v1,v2]/\Same H H5) ⟨_,_,rfl,Same.refl _⟩ ?_ ?_ ?_
  .rintro i σ H5 _ ⟨_,_,rfl,s5⟩;exact SqL.of (s5 _ _ hl)
  .rintro i x p σ H5 hx hp ⟨v1,v2,rfl,s5⟩;have ig:i<G.length:=by
    have:=(Zk.mp hx).1;omega
   obtain⟨r,hr'⟩:∃ r,G[i]?=some r:=⟨_,Zh ig⟩
   rw[xhm hr'] at hx;cases hx;have rl:=o.wd r (Zp hr');have le:∀ z:List Nat,z.length=W->(ofL z).length<=sizeLine:=fun z hz=>by rw[xb1,hz]; exact ZB (by omega:_<=1000) (by decide)
   have s6:Same H5 (upd H5 p (.tup [.int (i:Int),.str (ofL r)])):=xq (Same.refl _) hp;have g6:upd H5 p (.tup [.int (i:Int),.str (ofL r)]) p=some (.tup [.int (i:Int),.str (ofL r)]):=xb;revert s6 g6;generalize upd H5 p (.tup [.int (i:Int),.str (ofL r)])=H6;intro s6 g6;have hl6:=s6 _ _ (s5 _ _ hl);refine⟨p,_,rfl,SqT.of g6,rfl,_,_,rfl,_,_,rfl,rfl,?_⟩;refine⟨_,rfl,_,_,rfl,.inl ⟨_,_,true,.str _,rfl,xb8,true,rfl,iteF ?_⟩⟩;refine⟨_,rfl,_,rfl,le r rl,_,_,rfl,rfl,_,rfl,ifP (decide_eq_true (by rw[xb1,rl]; omega)) ?_⟩;refine⟨_,_,rfl,rfl,_,_,rfl,rfl,_,rfl,ifN (by rw[decide_eq_true (by rw[xb1,rl]; omega)]; rfl) ?_⟩;refine⟨_,rfl,_,rfl,le r rl,_,rfl,l,_,0,.str (ofL r0),rfl,rfl,SqL.of hl6,?_,_,rfl,le r0 l0,rfl,_,rfl,ifN ?_ ⟨_,_,rfl,s5.trans s6⟩⟩
   .show atI (GV G) ((0:Nat):Int)=_;exact xeg (xhm hr0)
   .rw [xb1,xb1,rl,l0];simp
  .rintro σ H5 ⟨v1,v2,rfl,s5⟩;exact q H5 s5
theorem ok_aw (T:Txt w K mg t):FnOk true P w K mg base (CXo P w) 1 t.f_aw t.d_aw ["rows"] (xr8):=by
 refine T.F_aw.okn (k:=0) sc_aw (fun vs H Q E h=>?_) (fun cdv A outer s H vs Q E hr h=>?_)
 .obtain ⟨l,W,G,rfl,_⟩:=h;rfl
 .obtain ⟨l,W,G,rfl,h⟩:=h;refine⟨_,xj (x0 (i:=1) sc_aw.nd rfl (Zo rfl) (xco (xf)))
   (xj (xa9 ZM rfl (xc1 rfl T.n_enumerate (xa (pv 0) (xf))) (xar rfl (xp (xn (i:=2) sc_aw.nd rfl (ZS rfl)) (xp (xn (i:=3) sc_aw.nd rfl (Zo rfl)) (xag)))) (xk (xax (xdb Jl PySem.F.slot_list_extend PySem.F.type_list_extend xnb (pv 1) (xa (xbt rfl (xay (zs:=["column", "sign"]) (ys:=["row"]) (fr:=[2]) (N0:=["rows", "found", "row", "text"]) (sc0:=xm s_aw) (by decide +kernel) rfl rfl rfl) (xou rfl T.n_enumerate (xa (pv 3) (xf))) (fun _ _ _ _ _ ow nd=>(xar rfl (xp (xn (i:=0) nd rfl (Zo (ow _ (by simp))) (ZS (ow _ (by simp)))) (xp (xn (i:=1) nd rfl (Zo (ow _ (by simp))) (ZS (ow _ (by simp)))) (xag))):PG _ _ (gTup K 2 _))) (xbz (x5 (by decide) (x5 (by decide) (xbl)))) (fun _ _ _ _ _=>xa5) (fun _ _ _ _ _=>xal (xa (pv 2) (xa (pv 0) (xa (pv 1) (xf)))))) (xf))))))
   (xk (xz (pv 1)))),?_⟩
  obtain⟨hl,o,q⟩:=h;have h2:=o.h2;have w2:=o.w2;have gl:=xff G;refine⟨(by show 0<=sizeLine; decide),fun f hf=>?_⟩;have s1:Same H (upd H f (.lst [])):=xq (Same.refl _) hf;have g1:upd H f (.lst []) f=some (.lst []):=xb;revert s1 g1;generalize upd H f (.lst [])=H1;intro s1 g1;refine⟨_,rfl,l,_,rfl,SqL.of (s1 _ _ hl),?_⟩;refine xe2 (xs:=GV G) (Pv:=fun i σ H5=>∃(v2 v3:Option V) (qs:List Addr),σ=[some (.ref l),some (.ref f),v2,v3]/\Same H H5/\H5 f=some (.lst (qs.map V.ref))/\TL sgV H5 (sgsN G i) qs) ⟨_,_,[],rfl,s1,g1,TL.nil⟩ ?_ ?_ ?_
  .rintro i σ H5 _ ⟨_,_,_,rfl,s5,_⟩;exact SqL.of (s5 _ _ hl)
  .rintro i x p σ H5 hx hp ⟨v2,v3,qs,rfl,s5,e5,tl5⟩;have ig:i<G.length:=by
    have:=(Zk.mp hx).1;omega
   obtain⟨r,hr⟩:∃ r,G[i]?=some r:=⟨_,Zh ig⟩
   rw[xhm hr] at hx;cases hx;have rl:=o.wd r (Zp hr);have ra:=o.asc r (Zp hr);have s6:Same H5 (upd H5 p (.tup [.int (i:Int),.str (ofL r)])):=xq (Same.refl _) hp;have g6:upd H5 p (.tup [.int (i:Int),.str (ofL r)]) p=some (.tup [.int (i:Int),.str (ofL r)]):=xb;revert s6 g6;generalize upd H5 p (.tup [.int (i:Int),.str (ofL r)])=H6;intro s6 g6;have e6:=s6 _ _ e5;refine⟨p,_,rfl,SqT.of g6,rfl,_,_,rfl,_,_,rfl,rfl,?_⟩;refine⟨_,rfl,.inl ⟨rfl,_,SqL.of e6⟩,_,rfl,ofL r,rfl,xsx ra,fun l1 hl1=>?_⟩;refine xk6 (by rw[xa4,rl]; exact ZA (by omega:_<=1000) (by decide)) hl1 (fun j y H7=>∃ q,y=.ref q/\H7 q=some (.tup (sgV (i,j,r.getD j 0)))) (fun j y H7 H8 tp ⟨q,e1,e2⟩=>⟨q,e1,tp _ _ e2⟩) (fun j c pp H7 hc s7 hpp N hN=>?_) (fun ys H7 s7 e7 ly fy=>?_)
   .rw [xa4] at hc;refine⟨pp,_,rfl,SqT.of xb,rfl,_,_,rfl,_,_,rfl,rfl,_,rfl,_,rfl,_,rfl,(by show 3<=sizeLine; decide),fun u hu=>hN _ _ (xq (Same.refl _) hu) ⟨u,rfl,?_⟩⟩;rw[xb,Jq,hc];rfl
   .rw [xa4] at ly;obtain⟨rs,rfl,tr⟩:=TL.pick (f:=sgV) (H:=H7) (as:=sgR i r) (ys:=ys) (by rw[ly]; unfold sgR; rw[Za,Zv]) (fun j y a h1 h2=>by
     unfold sgR at h2;rw[Zf] at h2;obtain⟨j',hj,rfl⟩:=Zi.mp h2;obtain⟨_,ej⟩:=Zk.mp hj;rw[JF] at ej;subst ej;exact fy _ y h1)
    have e67:=s7 _ _ e6;have ne:f≠l1:=fun z=>by rw[z] at e6; rw[e6] at hl1; cases hl1
    have ln:=xex o i (by omega);have tq:=tl5.1;refine⟨f,l1,_,_,rfl,rfl,e67,e7,?_,?_⟩
    .rw [ly,Za,tq,ln];have:i*W<=16*32:=QG (by omega) w2;exact ZB (by omega:_<=1000) (by decide)
    have kt:Tups H7 (upd H7 f (.lst (qs.map V.ref++rs.map V.ref))):=fun c xs e=>by rw[xh (xae e e67 (fun z=>nomatch z))]; exact e
    refine⟨_,_,qs++rs,rfl,fun c u e=>by rw[xh (xi e hf)]; exact s7 _ _ (s6 _ _ (s5 _ _ e)),by rw[xb,Z9],?_⟩;rw[xio hr];exact ((((tl5.keep (Same.tups s6)).keep (Same.tups s7)).append tr).keep kt)
  .rintro σ H5 ⟨v2,v3,qs,rfl,s5,e5,tl5⟩;rw[gl] at tl5;exact⟨_,rfl,q H5 f qs s5 hf e5 tl5⟩
theorem ok_a4 (T:Txt w K mg t):FnOk true P w K mg base (CXo P w) 1 t.f_a4 t.d_a4 ["place"] (xpa):=by
 refine T.F_a4.okn (k:=0) sc_a4 (fun vs H Q E h=>?_) (fun cdv A outer s H vs Q E hr h=>?_)
 .obtain ⟨q,i,j,rfl,_⟩:=h;rfl
 .obtain ⟨q,i,j,rfl,h⟩:=h;refine⟨_,xj (xdz (pv 0) (xar rfl (xp (xn (i:=1) sc_a4.nd rfl (Zo rfl)) (xp (xn (i:=2) sc_a4.nd rfl (Zo rfl)) (xag)))))
   (xk (xz (xal (xa (xc6 (xaa xbo (pv 2) (xo) (x9 _)) (xad) (xad)) (xa (xu xaq (pv 1) (xo)) (xf)))))),?_⟩
  obtain⟨hq,hQ⟩:=h;refine⟨_,rfl,q,_,rfl,SqT.of hq,rfl,_,_,rfl,_,_,rfl,rfl,?_⟩;refine⟨_,rfl,rfl,_,rfl,ite2 (fun c=>?_) (fun c=>?_)⟩
  .have j0:j=0:=by
    have:=of_decide_eq_true c;injection this with z
    omega
   refine⟨_,rfl,_,_,rfl,rfl,(by show 2<=sizeLine; decide),fun u hu=>hQ _ u (xq (Same.refl _) hu) hu ?_⟩;rw[xb,j0];rfl
  .have j0:¬ j=0:=fun z=>c (by rw[z]; rfl);refine⟨_,rfl,_,_,rfl,rfl,(by show 2<=sizeLine; decide),fun u hu=>hQ _ u (xq (Same.refl _) hu) hu ?_⟩;rw[xb];unfold xfl;rw[decide_eq_false j0];rfl
end
abbrev letF (lc:Int) (o i:Addr):List (Str × V):=[("last_column",.int lc),("outer",.ref o),("inner",.ref i)]
theorem xga {lc:Int}{o i:Addr}{m:Str} (e:((["last_column", "outer", "inner"]:List Str).all fun k=>!(m == k))=true):(letF lc o i).lookup m=none:=by
 simp only[Qi,List.all_nil,Zy,Qf] at e;obtain⟨e1,e2,e3,_⟩:=e;unfold letF;rw[Z2,e1];show Ja m [("outer",V.ref o),("inner",V.ref i)]=none;rw[Z2,e2];show Ja m [("inner",V.ref i)]=none;rw[Z2,e3];rfl
theorem ltL {lc:Int}{o i:Addr}:(letF lc o i).lookup ("last_column":Str)=some (.int lc):=by
 unfold letF;rw[Z2,show (("last_column":Str) == "last_column")=true from by decide +kernel]
theorem ltO {lc:Int}{o i:Addr}:(letF lc o i).lookup ("outer":Str)=some (.ref o):=by
 unfold letF;rw[Z2,show (("outer":Str) == "last_column")=false from by decide +kernel];show Ja ("outer":Str) [("outer",V.ref o),("inner",V.ref i)]=_;rw[Z2,show (("outer":Str) == "outer")=true from by decide +kernel]
theorem ltI {lc:Int}{o i:Addr}:(letF lc o i).lookup ("inner":Str)=some (.ref i):=by
 unfold letF;rw[Z2,show (("inner":Str) == "last_column")=false from by decide +kernel];show Ja ("inner":Str) [("outer",V.ref o),("inner",V.ref i)]=_;rw[Z2,show (("inner":Str) == "outer")=false from by decide +kernel];show Ja ("inner":Str) [("inner",V.ref i)]=_;rw[Z2,show (("inner":Str) == "inner")=true from by decide +kernel]
inductive LD (H:Hp):List Sg->List (Key × V)->Prop
 | nil:LD H [] []
 | cons {s:Sg}{q:Addr}{es:List Sg}{kvs:List (Key × V)} (h:H q=some (.tup [.int (s.1:Int),.int (s.2.1:Int)])) (r:LD H es kvs):LD H (s::es) ((.inr (ofL [s.2.2]),.ref q)::kvs)
theorem LD.keep {H H':Hp} (s:Tups H H') {es:List Sg}{kvs:List (Key × V)} (h:LD H es kvs):LD H' es kvs:=by
 induction h with
 | nil=>exact .nil
 | cons h _ ih=>exact .cons (s _ _ h) ih
theorem LD.len {H:Hp}{es:List Sg}{kvs:List (Key × V)} (h:LD H es kvs):kvs.length=es.length:=by
 induction h with
 | nil=>rfl
 | cons _ _ ih=>simp[ih]
theorem LD.snoc {H:Hp}{es:List Sg}{kvs:List (Key × V)} (h:LD H es kvs) {s:Sg}{q:Addr} (e:H q=some (.tup [.int (s.1:Int),.int (s.2.1:Int)])):LD H (es++[s]) (kvs++[(.inr (ofL [s.2.2]),.ref q)]):=by
 induction h with
 | nil=>exact .cons e .nil
 | cons h _ ih=>exact .cons h ih
theorem xdu {c d:Nat} (h:ofL [c]=ofL [d]):c=d:=by
 have:=congrArg (fun s:Str=>s.cps.toList) h;simp only[xa4] at this;exact (JS.inj this).1
theorem xlb {c d:Nat} (h:(Jf (ofL [c]):Key)=Jf (ofL [d])):c=d:=xdu (Jf.inj h)
theorem LD.get {H:Hp}{es:List Sg}{kvs:List (Key × V)} (h:LD H es kvs) {i:Nat}{k:Key}{x:V} (e:kvs[i]?=some (k,x)):∃ s q,es[i]?=some s/\k=.inr (ofL [s.2.2])/\x=.ref q/\H q=some (.tup [.int (s.1:Int),.int (s.2.1:Int)]):=by
 induction h generalizing i with
 | nil=>simp at e
 | @cons s q es kvs h _ ih =>
  cases i with
  | zero =>
   simp at e;exact⟨s,q,rfl,e.1.symm,e.2.symm,h⟩
  | succ j=>exact ih (by simpa using e)
theorem LD.is {H:Hp}{es:List Sg}{kvs:List (Key × V)} (h:LD H es kvs) (c:Nat):(valV kvs (.inr (ofL [c]))).isSome=decide (c∈es.map fun s=>s.2.2):=by
 induction h with
 | nil=>rfl
 | @cons s q es kvs h r ih =>
  by_cases z:s.2.2=c
  .subst z;rw[xa2 rfl];simp
  .rw [xa0 (fun e=>z (xlb e)),ih];have z':¬ c=s.2.2:=fun e=>z e.symm;simp[z']
theorem LD.at_ {H:Hp}{es:List Sg}{kvs:List (Key × V)} (h:LD H es kvs) {s:Sg} (hs:s∈es) (nd:(es.map fun s=>s.2.2).Nodup):∃ q,valV kvs (.inr (ofL [s.2.2]))=some (.ref q)/\H q=some (.tup [.int (s.1:Int),.int (s.2.1:Int)]):=by
 induction h with
 | nil=>exact nomatch hs
 | @cons s' q es kvs h r ih =>
  rw[Zr,Jc] at nd;rcases Zx.mp hs with z|z
  .subst z;exact⟨q,xa2 rfl,h⟩
  .have ne:s'.2.2≠s.2.2:=fun e=>nd.1 (e▸Zd.mpr ⟨s,z,rfl⟩);rw[xa0 (fun e=>ne (xlb e))];exact ih z nd.2
theorem LD.keys {H:Hp}{es:List Sg}{kvs:List (Key × V)} (h:LD H es kvs):kvs.map (·.1)=(es.map fun s=>ofL [s.2.2]).map Jf:=by
 induction h with
 | nil=>rfl
 | cons _ _ ih=>simp only[Zr,ih]
structure Let (t:Adr) (H:Hp) (a o i:Addr) (lc:Nat) (os is:List Sg):Prop where
 ins:∃ dx,H a=some (.ins t.C_w dx (letF (lc:Int) o i))
 ou:∃ kvs,H o=some (.dK kvs)/\LD H os kvs
 inn:∃ kvs,H i=some (.dK kvs)/\LD H is kvs
 ne:o≠i
theorem Let.same {t:Adr}{H H':Hp}{a o i:Addr}{lc:Nat}{os is:List Sg} (h:Let t H a o i lc os is) (s:Same H H'):Let t H' a o i lc os is :=
 ⟨let ⟨dx,e⟩:=h.ins; ⟨dx,s _ _ e⟩,let ⟨k,e,r⟩:=h.ou; ⟨k,s _ _ e,r.keep (Same.tups s)⟩,let ⟨k,e,r⟩:=h.inn; ⟨k,s _ _ e,r.keep (Same.tups s)⟩,h.ne⟩
def nmC (c:Nat):Bool:=decide (97<=c)&&decide (c<=122)
theorem lt1 (a b:Nat):([a]<[b])↔a<b:=by
 constructor
 .intro h
  cases h with
  | rel h=>exact h
  | cons h=>exact absurd h (by intro z; cases z)
 .exact fun h=>.rel h
theorem xhf (c:Nat):isNm (ofL [c])=nmC c:=by
 unfold isNm nmC;rw[xb1,xa4];simp only[lt1];rw[Jh];simp
def rimB (lc j:Nat):Bool:=decide (j=0)||decide (j=lc)
def lieB (is:List Sg) (i j c:Nat):Bool:=decide (c∉is.map fun s=>s.2.2)&&(decide ((is.filter fun s=>decide (s.1=i)||decide (s.2.1=j))=[])&&decide (is.length<12))
def mayB (lc:Nat) (os is:List Sg) (s:Sg):Bool:=if rimB lc s.2.1 then (decide (s.2.2=32)||decide (s.2.2=46))||(nmC s.2.2&&decide (s.2.2∉os.map fun s=>s.2.2)) else (([32,124,45,43,35]:List Nat).contains s.2.2)||(nmC s.2.2&&lieB is s.1 s.2.1 s.2.2)
def xsv (t:Adr):Sp:=fun vs H Q _=>∃(p dx:Addr) (lc:Nat),vs=[.ref p,.int (lc:Int)]/\H p=some (.ins t.C_w dx [])/\∀ H' o i,H o=none->H i=none->(∀ b u,b≠p->H b=some u->H' b=some u)->Let t H' p o i lc [] []->Q .non H'
def xsi (t:Adr):Sp:=fun vs H Q _=>∃(a o i:Addr) (lc:Nat) (os is:List Sg) (j:Nat),vs=[.ref a,.int (j:Int)]/\Let t H a o i lc os is/\∀ H',Same H H'->Q (.bl (rimB lc j)) H'
def xvr (t:Adr):Sp:=fun vs H Q _=>∃(a o i:Addr) (lc:Nat) (os is:List Sg) (s:Sg),vs=[.ref a,.int (s.1:Int),.int (s.2.1:Int),sgn s.2.2]/\Let t H a o i lc os is/\is.length<=600/\∀ H',Same H H'->Q (.bl (lieB is s.1 s.2.1 s.2.2)) H'
def xra (t:Adr):Sp:=fun vs H Q _=>∃(a o i:Addr) (lc:Nat) (os is:List Sg) (s:Sg),vs=[.ref a,.int (s.1:Int),.int (s.2.1:Int),sgn s.2.2]/\Let t H a o i lc os is/\is.length<=600/\∀ H',Same H H'->Q (.bl (mayB lc os is s)) H'
def outP (lc:Nat) (s:Sg):Bool:=rimB lc s.2.1&&nmC s.2.2
def innP (lc:Nat) (s:Sg):Bool:=!rimB lc s.2.1&&nmC s.2.2
def xur (t:Adr):Sp:=fun vs H Q _=>∃(a o i:Addr) (lc:Nat) (os is:List Sg) (s:Sg),vs=[.ref a,.int (s.1:Int),.int (s.2.1:Int),sgn s.2.2]/\Let t H a o i lc os is/\is.length<=600/\os.length<=600/\mayB lc os is s=true /\
 ∀ H',(∀ b u,b≠o->b≠i->H b=some u->H' b=some u)->Let t H' a o i lc (if outP lc s then os++[s] else os) (if innP lc s then is++[s] else is)->Q .non H'
theorem xol (a b:Nat):eqV (sgn a) (sgn b)=decide (a=b):=by
 show ((⟨#[a]⟩:Str) == ⟨#[b]⟩)=decide (a=b);rw[Jh,beq_iff_eq,decide_eq_true_iff];exact⟨fun h=>xdu h,fun h=>by rw[h]⟩
theorem xl4 (c:Nat) (cs:List Nat):inV (sgn c) (cs.map sgn)=decide (c∈cs):=by
 unfold inV;rw[List.any_map,Jh,List.any_eq_true,decide_eq_true_iff];constructor
 .rintro ⟨x,hx,e⟩;have e:eqV (sgn x) (sgn c)=true:=e;rw[xol] at e;exact of_decide_eq_true e▸hx
 .exact fun h=>⟨c,h,by show eqV (sgn c) (sgn c)=true; rw[xol]; exact decide_eq_true rfl⟩
def hitB (H:Hp) (i j:Nat) (kx:Key × V):Bool:=match kx.2 with
 | .ref a=>(match H a with
  | some (.tup [.int r,.int c])=>decide (r=(i:Int))||decide (c=(j:Int))
  | _=>false)
 | _=>false
theorem xm6 {H:Hp}{i j:Nat}{k:Key}{q:Addr}{s:Sg} (h:H q=some (.tup [.int (s.1:Int),.int (s.2.1:Int)])):hitB H i j (k,.ref q)=(decide (s.1=i)||decide (s.2.1=j)):=by
 unfold hitB;simp only[h];rw[Jh];simp only[YT,decide_eq_true_iff];omega
theorem LD.filt {H:Hp}{es:List Sg}{kvs:List (Key × V)} (h:LD H es kvs) (i j:Nat):LD H (es.filter fun s=>decide (s.1=i)||decide (s.2.1=j)) (kvs.filter (hitB H i j)):=by
 induction h with
 | nil=>exact .nil
 | @cons s q es kvs h r ih =>
  rw[JP,JP,xm6 h];cases decide (s.1=i)||decide (s.2.1=j) with
  | true=>exact .cons h ih
  | false=>exact ih
theorem LD.dv {K:Ze}{H:Hp}{es:List Sg}{kvs:List (Key × V)} (h:LD H es kvs) {l:Addr} (e:H l=some (.lst (kvs.map (·.2)))):Dv K H 2 (.ref l) (.lst (es.map fun s=>DV.tup [.int (s.1:Int),.int (s.2.1:Int)])):=by
 refine .lst (SqL.of e) (by rw[Za,Za,h.len]) fun j x d h1 h2=>?_;rw[Zf] at h1 h2;obtain⟨⟨k,x'⟩,hx,rfl⟩:=Zi.mp h1;obtain⟨s,hs,rfl⟩:=Zi.mp h2;obtain⟨s',q,hs',_,ex,hq⟩:=h.get hx;rw[hs] at hs';cases hs';show Dv K H 1 x' _;rw[ex];exact xul hq
theorem xsq {α:Type} (f:α->DV) (es:List α) [Decidable (es=[])]:dEq (.lst (es.map f)) (.lst [])=decide (es=[]):=by
 cases es with
 | nil=>simp[dEq,dEqs]
 | cons x xs=>simp[dEq,dEqs]
def xuh:Sp:=fun vs H Q _=>∃(x:Str),vs=[.str x]/\x.length<=1000/\Q (.bl (isNm x)) H
section
variable {P:Program}{w:World}{K:Ze}{mg:Str->Option Value}{base:Heap}{t:Adr}
theorem okD_at (T:Txt w K mg t):FnOk true P w K mg base (CXo P w) 1 t.f_at t.d_at ["thing"] (xuh):=by
 refine T.F_at.okn (k:=0) sc_at (fun vs H Q E h=>?_) (fun cdv A outer s H vs Q E hr h=>?_)
 .obtain ⟨x,rfl,_⟩:=h;rfl
 .obtain ⟨x,rfl,h⟩:=h;refine⟨_,xk (xz (xcd (xab xb4 rfl T.n_isinstance boot_isinstance (xa (pv 0) (xa (xcw (v:=.ty "str") rfl T.n_str boot_str rfl) (xf)))) (xcd (xby xbo (xab xb2 rfl T.n_len Yb (xa (pv 0) (xf))) (xo) (x9 _)) (xcq (xgt xd5 xd5 (xad) (pv 0) (xad)))))),?_⟩;obtain⟨xl,q⟩:=h;refine⟨_,rfl,_,_,rfl,.inl ⟨_,_,true,.str x,rfl,xb8,true,rfl,iteT ?_⟩⟩;refine⟨_,rfl,_,rfl,(by first|exact ZA xl (by decide)|exact ZB xl (by decide)|omega),rfl,_,rfl,ite2 (fun c=>?_) (fun c=>?_)⟩
  .have l1:x.length=1:=by
    have z:(x.length:Int)=1:=by simpa using c
    omega
   unfold isNm at q;rw[decide_eq_true l1,Ya] at q;refine⟨_,rfl,_,_,rfl,rfl,_,rfl,ite2 (fun d=>?_) (fun d=>?_)⟩
   .refine ⟨_,_,rfl,rfl,?_⟩;rw[xma] at d;rw[xqw];rw[d,Ya] at q;exact q
   .rw [xma] at d;rw[Jk.mpr d,Yd] at q;exact q
  .have l1:¬ x.length=1:=fun z=>c (by rw[z]; rfl);unfold isNm at q;rw[decide_eq_false l1,Yd] at q;exact q
theorem ok_am (T:Txt w K mg t):FnOk true P w K mg base (CXo P w) 1 t.f_am t.d_am ["self", "last_column"] (xsv t):=by
 refine T.F_am.okn (k:=0) sc_am (fun vs H Q E h=>?_) (fun cdv A outer s H vs Q E hr h=>?_)
 .obtain ⟨p,dx,lc,rfl,_⟩:=h;rfl
 .obtain ⟨p,dx,lc,rfl,h⟩:=h;refine⟨_,xj (xdj (pv 0) (pv 1) rfl)
   (xj (xdj (pv 0) (xgu) rfl)
   (xk (xdj (pv 0) (xgu) rfl))),?_⟩
  obtain⟨hp,q⟩:=h;refine⟨_,rfl,_,rfl,p,_,dx,_,rfl,hp,T.c_w,T.n_ba,(by show 0<1000; decide),?_⟩;refine fun o ho=>?_;have n1:p≠o:=xi xb ho;refine⟨_,rfl,p,_,dx,_,rfl,(by rw[xh n1]; exact xb),T.c_w,T.n_bb,(by show 1<1000; decide),fun i hi=>?_⟩;have n2:p≠i:=xi xb hi;have n3:o≠i:=xi (by rw[xh (ZE n1)]; exact xb) hi;refine⟨_,rfl,p,_,dx,_,rfl,(by rw[xh n2]; exact xb),T.c_w,T.n_a9,(by show 2<1000; decide),?_⟩;rw[xh (ZE n1)] at ho;have hi0:H i=none:=by rw[xh (ZE n2),xh (ZE n3),xh (ZE n2)] at hi; exact hi
  refine q _ o i ho hi0 (fun b u nb e=>?_) ⟨⟨dx,xb⟩,⟨[],?_,.nil⟩,⟨[],?_,.nil⟩,n3⟩
  .have c1:b≠o:=xi e ho;have c2:b≠i:=xi e hi0;rw[xh nb,xh c2,xh nb,xh c1,xh nb];exact e
  .rw [xh (ZE n1),xh n3,xh (ZE n1)];exact xb
  .rw [xh (ZE n2)];exact xb
theorem ok_p (T:Txt w K mg t):FnOk true P w K mg base (CXo P w) 1 t.f_p t.d_p ["self", "column"] (xsi t):=by
 refine T.F_p.okn (k:=0) sc_p (fun vs H Q E h=>?_) (fun cdv A outer s H vs Q E hr h=>?_)
 .obtain ⟨a,o,i,lc,os,is,j,rfl,_⟩:=h;rfl
 .obtain ⟨a,o,i,lc,os,is,j,rfl,h⟩:=h;refine⟨_,xk (xz (xby xfp (pv 1) (xal (xa (xo) (xa (x4 (pv 0) rfl) (xf)))) (by rfl))),?_⟩;obtain⟨lt,q⟩:=h;obtain⟨⟨dx,ins⟩,_⟩:=id lt;refine⟨_,rfl,_,rfl,a,_,dx,_,_,rfl,ins,T.c_w,T.n_ba,ltL,(by show 2<=sizeLine; decide),fun p1 hp1=>?_⟩;have s1:Same H (upd H p1 (.tup [.int 0,.int (lc:Int)])):=xq (Same.refl _) hp1;have g1:upd H p1 (.tup [.int 0,.int (lc:Int)]) p1=some (.tup [.int 0,.int (lc:Int)]):=xb;revert s1 g1;generalize upd H p1 (.tup [.int 0,.int (lc:Int)])=H1;intro s1 g1;refine⟨p1,_,rfl,.inr (SqT.of g1),rfl,rfl,?_⟩;have e:inV (.int (j:Int)) [.int 0,.int (lc:Int)]=rimB lc j:=by
   show ((0:Int) == (j:Int)||(((lc:Int) == (j:Int))||false))=rimB lc j;unfold rimB;rw[Jh];simp only[YT,Qj,beq_iff_eq,decide_eq_true_iff];omega
  rw[if_neg (by decide),e];exact q H1 s1
theorem ok_r (T:Txt w K mg t):FnOk true P w K mg base (CXo P w) 1 t.f_r t.d_r ["self", "row", "column", "name"] (xvr t):=by
 refine T.F_r.okn (k:=0) sc_r (fun vs H Q E h=>?_) (fun cdv A outer s H vs Q E hr h=>?_)
 .obtain ⟨a,o,i,lc,os,is,s,rfl,_⟩:=h;rfl
 .obtain ⟨a,o,i,lc,os,is,s,rfl,h⟩:=h;refine⟨_,xj (xlx (xbm rfl (xay (zs:=["other", "place"]) (ys:=["row", "column"]) (fr:=[1,2]) (N0:=["self", "row", "column", "name", "places"]) (sc0:=xm s_r) (by decide +kernel) rfl rfl rfl) (xgv (x4 (pv 0) rfl)) (fun _ _ _ _ _ ow nd=>(xar rfl (xp (xn (i:=0) nd rfl (Zo (ow _ (by simp))) (ZS (ow _ (by simp)))) (xp (xn (i:=1) nd rfl (Zo (ow _ (by simp))) (ZS (ow _ (by simp)))) (xag))):PG _ _ (gTup K 2 _))) (xbz (x5 (by decide) (x5 (by decide) (xbl)))) (fun _ _ _ _ _=>xhz (PW.pt (xc0 (xaa xbo (xba (r:=rIxT K) xbd (pv 1) (xo) (fun _ _=>rfl)) (pv 2) (x9 _)) (xcp (xaa xbo (xba (r:=rIxT K) xbd (pv 1) (xo) (fun _ _=>rfl)) (pv 3) (x9 _)))))) (fun _ _ _ _ _=>pv 1) (j:=4) rfl (Zo rfl)))
   (xk (xz (xcd (xox (xd4 (xbh hr) (pv 3) (x4 (pv 0) rfl))) (xcd (xby (xem (xbp hr)) (pv 4) (xco (xf)) (x9 _)) (xcq (xby xji (xab xi0 rfl T.n_len Yb (xa (x4 (pv 0) rfl) (xf))) (xcy (v:=.int 12) rfl T.v_bf.choose_spec ⟨_,rfl⟩) (x9 _))))))),?_⟩
  obtain⟨lt,i6,q⟩:=h;obtain⟨⟨dx,ins⟩,_,⟨kvs,hk,ld⟩,_⟩:=id lt;have kl:=ld.len;refine⟨_,rfl,a,_,dx,_,_,rfl,ins,T.c_w,T.n_a9,ltI,i,kvs,rfl,hk,fun ob nf l hl=>?_⟩;have nl:l≠i:=fun z=>by
   rw[z,xb] at hl;cases hl
  have hl0:H l=none:=by rwa [xh nl] at hl
  refine xk5 xb (by rw[kl]; exact ZA (by omega:_<=1000) (by decide)) hl (hitB H s.1 s.2.1) (fun n k x p H2 hx s2 hp N M hN hM=>?_) (fun H2 s2 e2=>?_)
  .obtain ⟨z,qa,hz,rfl,rfl,hqa⟩:=ld.get hx;have hq2:H2 qa=some (.tup [.int (z.1:Int),.int (z.2.1:Int)]):=s2 _ _ (by rw[xh (xae hqa hk (fun z=>nomatch z))]; exact hqa);have hq3:upd H2 p (.tup [kV (.inr (ofL [z.2.2])),.ref qa]) qa=some (.tup [.int (z.1:Int),.int (z.2.1:Int)]):=by
    rw[xh (xi hq2 hp)];exact hq2
   have hb:=xm6 (i:=s.1) (j:=s.2.1) (k:=.inr (ofL [z.2.2])) hqa;refine⟨p,_,rfl,SqT.of xb,rfl,_,_,rfl,_,_,rfl,rfl,?_⟩;refine⟨_,rfl,qa,_,0,.int (z.1:Int),rfl,rfl,SqT.of hq3,rfl,_,rfl,rfl,_,rfl,ite2 (fun c=>?_) (fun c=>?_)⟩
   .have c1:z.1=s.1:=by
     have:=V.int.inj (of_decide_eq_true c);omega
    refine iteT ⟨_,rfl,hN _ (Same.refl _) ?_⟩;rw[hb,decide_eq_true c1];rfl
   .have c1:¬ z.1=s.1:=fun e=>c (decide_eq_true (by rw[e]));refine⟨_,rfl,qa,_,1,.int (z.2.1:Int),rfl,rfl,SqT.of hq3,rfl,_,rfl,rfl,_,rfl,ite2 (fun c'=>?_) (fun c'=>?_)⟩
    .have c2:z.2.1=s.2.1:=by
      have:=V.int.inj (of_decide_eq_true c');omega
     refine⟨_,rfl,hN _ (Same.refl _) ?_⟩;rw[hb,decide_eq_true c2,Ys]
    .have c2:¬ z.2.1=s.2.1:=fun e=>c' (decide_eq_true (by rw[e]));refine hM _ (Same.refl _) ?_;rw[hb,decide_eq_false c1,decide_eq_false c2];rfl
  have hi2:=s2 _ _ (show upd H i (.frz ob (.dK kvs)) i=_ from xb);refine⟨i,ob,.dK kvs,hi2,nf,?_⟩;have s3:Same H (upd H2 i (.dK kvs)):=fun b u e=>by
   by_cases z:b=i
   .subst z;rw[xb,<- e,hk]
   .rw [xh z];exact s2 _ _ (by rw[xh z]; exact e)
  have e3:upd H2 i (.dK kvs) l=some (.lst ((kvs.filter (hitB H s.1 s.2.1)).map (·.2))):=by
   rw[xh nl];exact e2
  revert s3 e3;generalize upd H2 i (.dK kvs)=H3;intro s3 e3;clear hi2 e2 s2;have ins3:=s3 _ _ ins;have hk3:=s3 _ _ hk;have ld3:=((ld.filt s.1 s.2.1).keep (Same.tups s3))
  refine⟨_,rfl,_,rfl,a,_,dx,_,_,rfl,ins3,T.c_w,T.n_a9,ltI,i,_,rfl,DGet.k (k:=.inr (ofL [s.2.2])) hk3,_,rfl,?_⟩;rw[ld.is];have e0:lieB is s.1 s.2.1 s.2.2=(decide (s.2.2∉is.map fun s=>s.2.2)&&(decide ((is.filter fun z=>decide (z.1=s.1)||decide (z.2.1=s.2.1))=[])&&decide (is.length<12))):=rfl;refine ite2 (fun c=>?_) (fun c=>?_)
  .have c1:s.2.2∉is.map fun s=>s.2.2:=by simpa using c
   rw[decide_eq_true c1,Ya] at e0;refine⟨_,rfl,(by show 0<=sizeLine; decide),fun l0 hl0'=>?_⟩;have s4:Same H3 (upd H3 l0 (.lst [])):=xq (Same.refl _) hl0';have g4:upd H3 l0 (.lst []) l0=some (.lst []):=xb;revert s4 g4;generalize upd H3 l0 (.lst [])=H4;intro s4 g4;refine⟨2,1,_,.lst [],(ld3.keep (Same.tups s4)).dv (s4 _ _ e3),.lst (SqL.of g4) rfl (fun j x d h1=>by simp at h1),by decide,by decide,_,rfl,?_⟩;rw[xsq];refine ite2 (fun c2=>?_) (fun c2=>?_)
   .rw [c2,Ya] at e0;refine⟨_,rfl,a,_,dx,_,_,rfl,s4 _ _ ins3,T.c_w,T.n_a9,ltI,i,kvs,rfl,s4 _ _ hk3,_,_,rfl,rfl,?_⟩;rw[e0] at q;have e5:decide ((kvs.length:Int)<12)=decide (is.length<12):=by
     rw[kl,Jh,decide_eq_true_iff,decide_eq_true_iff];omega
    show Q (.bl (decide ((kvs.length:Int)<12))) H4;rw[e5];exact q _ (s3.trans s4)
   .rw [Jk.mpr c2,Yd] at e0;rw[e0] at q;exact q _ (s3.trans s4)
  .have c1:¬ s.2.2∉is.map fun s=>s.2.2:=fun z=>c (by simpa using z);rw[decide_eq_false c1,Yd] at e0;rw[e0] at q;exact q _ s3
theorem ok_l (T:Txt w K mg t):FnOk true P w K mg base (CXo P w) 2 t.f_l t.d_l ["self", "row", "column", "sign"] (xra t):=by
 refine T.F_l.okn (k:=1) sc_l (fun vs H Q E h=>?_) (fun cdv A outer s H vs Q E hr h=>?_)
 .obtain ⟨a,o,i,lc,os,is,s,rfl,_⟩:=h;rfl
 .obtain ⟨a,o,i,lc,os,is,s,rfl,h⟩:=h;refine⟨_,xj (xap (xa6 (xaw (pv 0) T.c_w T.m_p (ok_p T) (hr.mono (by decide)) T.b_p .nil xg (xa (pv 2) (xf)))) (xk (xz (xq6 (xby xfp (pv 3) (xal (xa (xad) (xa (xad) (xf)))) (by rfl)) (xcq (xcd (xr (okD_at T) (hr.mono (by decide)) rfl T.g_at T.F_at.kp T.b_at .nil xg (xa (pv 3) (xf))) (xcq (xox (xd4 (xbh hr) (pv 3) (x4 (pv 0) rfl))))))))) (x8))
   (xk (xz (xq6 (xby xfp (pv 3) (xal (xa (xad) (xa (xad) (xa (xad) (xa (xad) (xa (xad) (xf))))))) (by rfl)) (xcq (xcd (xr (okD_at T) (hr.mono (by decide)) rfl T.g_at T.F_at.kp T.b_at .nil xg (xa (pv 3) (xf))) (xcq (xaw (pv 0) T.c_w T.m_r (ok_r T) (hr.mono (by decide)) T.b_r .nil xg (xa (pv 1) (xa (pv 2) (xa (pv 3) (xf))))))))))),?_⟩
  obtain⟨lt,i6,q⟩:=h;obtain⟨⟨dx,ins⟩,_⟩:=id lt;refine⟨_,rfl,a,dx,_,rfl,ins,xga (by decide +kernel),_,rfl,a,o,i,lc,os,is,s.2.1,rfl,lt,fun H1 s1=>⟨_,rfl,ite2 (fun c=>?_) (fun c=>?_)⟩⟩
  .have e0:mayB lc os is s=((decide (s.2.2=32)||decide (s.2.2=46))||(nmC s.2.2&&decide (s.2.2∉os.map fun s=>s.2.2))):=by
    unfold mayB;rw[if_pos c]
   refine⟨_,rfl,(by show 2<=sizeLine; decide),fun p1 hp1=>?_⟩;have s2:Same H1 (upd H1 p1 (.tup [.str (Zb " "),.str (Zb ".")])):=xq (Same.refl _) hp1;have g2:upd H1 p1 (.tup [.str (Zb " "),.str (Zb ".")]) p1=some (.tup [.str (Zb " "),.str (Zb ".")]):=xb;revert s2 g2;generalize upd H1 p1 (.tup [.str (Zb " "),.str (Zb ".")])=H2;intro s2 g2;refine⟨p1,_,rfl,.inr (SqT.of g2),rfl,rfl,_,rfl,?_⟩;have s02:=s1.trans s2;have lt2:=lt.same s02;have e1:(if false=true then !inV (sgn s.2.2) [.str (Zb " "),.str (Zb ".")] else inV (sgn s.2.2) [.str (Zb " "),.str (Zb ".")])=(decide (s.2.2=32)||decide (s.2.2=46)):=by
    have:=xl4 s.2.2 [32,46];rw[show (([32,46]:List Nat).map sgn)=[.str (Zb " "),.str (Zb ".")] from by decide +kernel] at this;rw[if_neg Z7,this,Jh];simp
   rw[e1];refine ite2 (fun c1=>?_) (fun c1=>?_)
   .rw [c1,Bool.true_or] at e0;rw[e0] at q;exact q _ s02
   .rw [Jk.mpr c1,QT] at e0;refine⟨_,rfl,_,rfl,(by decide:(1:Nat)<=1000),_,rfl,?_⟩;rw[show isNm (⟨#[s.2.2]⟩:Str)=nmC s.2.2 from xhf _];obtain⟨⟨dx2,ins2⟩,⟨kvs,hk,ld⟩,_⟩:=id lt2;refine ite2 (fun c2=>?_) (fun c2=>?_)
    .rw [c2,Ya] at e0;refine⟨_,rfl,_,rfl,a,_,dx2,_,_,rfl,ins2,T.c_w,T.n_bb,ltO,o,_,rfl,DGet.k (k:=.inr (ofL [s.2.2])) hk,?_⟩;rw[ld.is];rw[e0] at q;have:=q _ s02;rw[decide_not] at this;exact this
    .rw [Jk.mpr c2,Yd] at e0;rw[e0] at q;exact q _ s02
  .have e0:mayB lc os is s=((([32,124,45,43,35]:List Nat).contains s.2.2)||(nmC s.2.2&&lieB is s.1 s.2.1 s.2.2)):=by
    unfold mayB;rw[if_neg c]
   refine⟨_,rfl,(by show 5<=sizeLine; decide),fun p1 hp1=>?_⟩;have s2:Same H1 (upd H1 p1 (.tup [.str (Zb " "),.str (Zb "|"),.str (Zb "-"),.str (Zb "+"),.str (Zb "#")])):=xq (Same.refl _) hp1;have g2:upd H1 p1 (.tup [.str (Zb " "),.str (Zb "|"),.str (Zb "-"),.str (Zb "+"),.str (Zb "#")]) p1=some (.tup [.str (Zb " "),.str (Zb "|"),.str (Zb "-"),.str (Zb "+"),.str (Zb "#")]):=xb;revert s2 g2;generalize upd H1 p1 (.tup [.str (Zb " "),.str (Zb "|"),.str (Zb "-"),.str (Zb "+"),.str (Zb "#")])=H2;intro s2 g2;refine⟨p1,_,rfl,.inr (SqT.of g2),rfl,rfl,_,rfl,?_⟩;have s02:=s1.trans s2;have lt2:=lt.same s02;have e1:(if false=true then !inV (sgn s.2.2) [.str (Zb " "),.str (Zb "|"),.str (Zb "-"),.str (Zb "+"),.str (Zb "#")] else inV (sgn s.2.2) [.str (Zb " "),.str (Zb "|"),.str (Zb "-"),.str (Zb "+"),.str (Zb "#")])=([32,124,45,43,35]:List Nat).contains s.2.2:=by
    have:=xl4 s.2.2 [32,124,45,43,35];rw[show (([32,124,45,43,35]:List Nat).map sgn)=[.str (Zb " "),.str (Zb "|"),.str (Zb "-"),.str (Zb "+"),.str (Zb "#")] from by decide +kernel] at this;rw[if_neg Z7,this,Jh];simp
   rw[e1];refine ite2 (fun c1=>?_) (fun c1=>?_)
   .rw [c1,Bool.true_or] at e0;rw[e0] at q;exact q _ s02
   .rw [Jk.mpr c1,QT] at e0;refine⟨_,rfl,_,rfl,(by decide:(1:Nat)<=1000),_,rfl,?_⟩;rw[show isNm (⟨#[s.2.2]⟩:Str)=nmC s.2.2 from xhf _];obtain⟨⟨dx2,ins2⟩,_⟩:=id lt2;refine ite2 (fun c2=>?_) (fun c2=>?_)
    .rw [c2,Ya] at e0;refine⟨_,rfl,a,dx2,_,rfl,ins2,xga (by decide +kernel),_,rfl,_,rfl,_,rfl,a,o,i,lc,os,is,s,rfl,lt2,i6,fun H3 s3=>?_⟩;rw[e0] at q;exact q _ (s02.trans s3)
    .rw [Jk.mpr c2,Yd] at e0;rw[e0] at q;exact q _ s02
theorem ok_ag (T:Txt w K mg t):FnOk true P w K mg base (CXo P w) 3 t.f_ag t.d_ag ["self", "row", "column", "sign"] (xur t):=by
 refine T.F_ag.okn (k:=2) sc_ag (fun vs H Q E h=>?_) (fun cdv A outer s H vs Q E hr h=>?_)
 .obtain ⟨a,o,i,lc,os,is,s,rfl,_⟩:=h;rfl
 .obtain ⟨a,o,i,lc,os,is,s,rfl,h⟩:=h;refine⟨_,xj (xap (xbe (xa6 (xaw (pv 0) T.c_w T.m_l (ok_l T) (hr.mono (by decide)) T.b_l .nil xg (xa (pv 1) (xa (pv 2) (xa (pv 3) (xf))))))) (xk (xaz)) (x8))
   (xk (xap (xa6 (xr (okD_at T) (hr.mono (by decide)) rfl T.g_at T.F_at.kp T.b_at .nil xg (xa (pv 3) (xf)))) (xj (x0 (i:=4) sc_ag.nd rfl (Zo rfl) (xc6 (xa6 (xaw (pv 0) T.c_w T.m_p (ok_p T) (hr.mono (by decide)) T.b_p .nil xg (xa (pv 2) (xf)))) (x4 (pv 0) rfl) (x4 (pv 0) rfl)))
   (xk (xdp (xbh hr) (pv 4) (pv 3) (xal (xa (pv 1) (xa (pv 2) (xf)))) rfl))) (x8))),?_⟩
  obtain⟨lt,i6,o6,my,q⟩:=h;obtain⟨⟨dx,ins⟩,_⟩:=id lt;refine⟨_,rfl,a,dx,_,rfl,ins,xga (by decide +kernel),_,rfl,_,rfl,_,rfl,a,o,i,lc,os,is,s,rfl,lt,i6,fun H1 s1=>⟨_,rfl,ifN (by rw[my]; rfl) ?_⟩⟩;refine⟨_,rfl,_,rfl,(by decide:(1:Nat)<=1000),_,rfl,?_⟩;rw[show isNm (⟨#[s.2.2]⟩:Str)=nmC s.2.2 from xhf _];have lt1:=lt.same s1;refine ite2 (fun c=>?_) (fun c=>?_)
  .obtain ⟨⟨dx1,ins1⟩,_⟩:=id lt1;refine⟨_,rfl,a,dx1,_,rfl,ins1,xga (by decide +kernel),_,rfl,a,o,i,lc,os,is,s.2.1,rfl,lt1,fun H2 s2=>⟨_,rfl,?_⟩⟩;have s02:=s1.trans s2;have lt2:=lt.same s02;obtain⟨⟨dx2,ins2⟩,⟨ko,hko,ldo⟩,⟨ki,hki,ldi⟩,ne⟩:=id lt2;have klo:=ldo.len;have kli:=ldi.len;refine ite2 (fun r=>?_) (fun r=>?_)
   .have nin:s.2.2∉os.map fun s=>s.2.2:=by
     unfold mayB at my;rw[if_pos r] at my;have n1:¬ s.2.2=32:=fun z=>by rw[z] at c; exact absurd c (by decide)
     have n2:¬ s.2.2=46:=fun z=>by rw[z] at c; exact absurd c (by decide)
     rw[decide_eq_false n1,decide_eq_false n2,c,Qj,QT,Ya] at my;exact of_decide_eq_true my
    refine⟨_,rfl,a,_,dx2,_,_,rfl,ins2,T.c_w,T.n_bb,ltO,_,rfl,_,rfl,(by show 2<=sizeLine; decide),fun qa hqa=>?_⟩;have s3:Same H2 (upd H2 qa (.tup [.int (s.1:Int),.int (s.2.1:Int)])):=xq (Same.refl _) hqa;have g3:upd H2 qa (.tup [.int (s.1:Int),.int (s.2.1:Int)]) qa=some (.tup [.int (s.1:Int),.int (s.2.1:Int)]):=xb;revert s3 g3;generalize upd H2 qa (.tup [.int (s.1:Int),.int (s.2.1:Int)])=H3;intro s3 g3;refine⟨_,rfl,_,rfl,o,_,rfl,DPut.k (k:=.inr (ofL [s.2.2])) (s3 _ _ hko) (by rw[klo]; exact ZA (by omega:_<=1000) (by decide)),?_⟩;have hv:valV ko (.inr (ofL [s.2.2]))=none:=by
     have:=ldo.is s.2.2;rw[decide_eq_false nin] at this;exact Option.isNone_iff_eq_none.mp (by rw[<- Option.not_isSome,this]; rfl)
    rw[xc7 _ hv];have kp:∀ b u,b≠o->H3 b=some u->upd H3 o (.dK (ko++[(.inr (ofL [s.2.2]),.ref qa)])) b=some u:=fun b u nb e=>by rw[xh nb]; exact e
    have kt:Tups H3 (upd H3 o (.dK (ko++[(.inr (ofL [s.2.2]),.ref qa)]))):=fun b xs e=>kp _ _ (xae e (s3 _ _ hko) (fun z=>nomatch z)) e;refine q _ (fun b u nb _ e=>kp _ _ nb (s3 _ _ (s02 _ _ e))) ?_;rw[if_pos (by unfold outP; rw[r,c]; rfl),if_neg (by unfold innP; rw[r]; simp)];exact⟨⟨dx2,kp _ _ (xae ins2 hko (fun z=>nomatch z)) (s3 _ _ ins2)⟩,⟨_,xb,(((ldo.keep (Same.tups s3)).snoc g3).keep kt)⟩,⟨ki,kp _ _ (ZE ne) (s3 _ _ hki),(ldi.keep (Same.tups s3)).keep kt⟩,ne⟩
   .have r':=Jk.mpr r;have lie:lieB is s.1 s.2.1 s.2.2=true:=by
     unfold mayB at my;rw[if_neg r,c,Ya] at my;rcases YT _ _▸my with z|z
     .exfalso;have z:=List.contains_iff_mem.mp z;have c':97<=s.2.2:=by
       unfold nmC at c;exact of_decide_eq_true (Zy _ _▸c).1
      have z:s.2.2=32\/s.2.2=124\/s.2.2=45\/s.2.2=43\/s.2.2=35:=by simpa using z
      have c2:s.2.2<=122:=by
       unfold nmC at c;exact of_decide_eq_true (Zy _ _▸c).2
      omega
     .exact z
    have nin:s.2.2∉is.map fun s=>s.2.2:=by
     unfold lieB at lie;exact of_decide_eq_true (Zy _ _▸lie).1
    refine⟨_,rfl,a,_,dx2,_,_,rfl,ins2,T.c_w,T.n_a9,ltI,_,rfl,_,rfl,(by show 2<=sizeLine; decide),fun qa hqa=>?_⟩;have s3:Same H2 (upd H2 qa (.tup [.int (s.1:Int),.int (s.2.1:Int)])):=xq (Same.refl _) hqa;have g3:upd H2 qa (.tup [.int (s.1:Int),.int (s.2.1:Int)]) qa=some (.tup [.int (s.1:Int),.int (s.2.1:Int)]):=xb;revert s3 g3;generalize upd H2 qa (.tup [.int (s.1:Int),.int (s.2.1:Int)])=H3;intro s3 g3;refine⟨_,rfl,_,rfl,i,_,rfl,DPut.k (k:=.inr (ofL [s.2.2])) (s3 _ _ hki) (by rw[kli]; exact ZA (by omega:_<=1000) (by decide)),?_⟩;have hv:valV ki (.inr (ofL [s.2.2]))=none:=by
     have:=ldi.is s.2.2;rw[decide_eq_false nin] at this;exact Option.isNone_iff_eq_none.mp (by rw[<- Option.not_isSome,this]; rfl)
    rw[xc7 _ hv];have kp:∀ b u,b≠i->H3 b=some u->upd H3 i (.dK (ki++[(.inr (ofL [s.2.2]),.ref qa)])) b=some u:=fun b u nb e=>by rw[xh nb]; exact e
    have kt:Tups H3 (upd H3 i (.dK (ki++[(.inr (ofL [s.2.2]),.ref qa)]))):=fun b xs e=>kp _ _ (xae e (s3 _ _ hki) (fun z=>nomatch z)) e;refine q _ (fun b u _ nb e=>kp _ _ nb (s3 _ _ (s02 _ _ e))) ?_;rw[if_neg (by unfold outP; rw[r']; simp),if_pos (by unfold innP; rw[r',c]; rfl)];exact⟨⟨dx2,kp _ _ (xae ins2 hki (fun z=>nomatch z)) (s3 _ _ ins2)⟩,⟨ko,kp _ _ ne (s3 _ _ hko),(ldo.keep (Same.tups s3)).keep kt⟩,⟨_,xb,(((ldi.keep (Same.tups s3)).snoc g3).keep kt)⟩,ne⟩
  .have c':=Jk.mpr c;refine q _ (fun b u _ _ e=>s1 _ _ e) ?_;rw[if_neg (by unfold outP; rw[c',YZ]; decide),if_neg (by unfold innP; rw[c',YZ]; decide)];exact lt1
end
theorem xfh {α β:Type}{f:α->β}{l' m:List β} (p:l'.Perm m):∀{l:List α},m=l.map f->∃ l2:List α,l2.Perm l/\l'=l2.map f:=by
 induction p with
 | nil =>
  intro l e;have:l=[]:=YU.mp e.symm;subst this;exact⟨[],.refl _,rfl⟩
 | cons x _ ih =>
  intro l e;cases l with
  | nil=>cases e
  | cons a l =>
   rw[Zr] at e;obtain⟨rfl,e2⟩:=JS.inj e;obtain⟨l2,p2,rfl⟩:=ih e2;exact⟨a::l2,p2.cons a,rfl⟩
 | swap x y r =>
  intro l e;cases l with
  | nil=>cases e
  | cons a l =>
   cases l with
   | nil=>cases e
   | cons b l =>
    rw[Zr,Zr] at e;obtain⟨rfl,e2⟩:=JS.inj e;obtain⟨rfl,rfl⟩:=JS.inj e2;exact⟨b::a::l,.swap a b l,rfl⟩
 | trans _ _ ih1 ih2 =>
  intro l e;obtain⟨k2,p2,rfl⟩:=ih2 e;obtain⟨k1,p1,rfl⟩:=ih1 rfl;exact⟨k1,p1.trans p2,rfl⟩
theorem xg7 {i:Nat}{r:List Nat}{s:Sg}:s∈sgR i r↔s.1=i/\s.2.1<r.length/\s.2.2=r.getD s.2.1 0:=by
 unfold sgR;rw[Zd];constructor
 .rintro ⟨j,hj,rfl⟩;exact⟨rfl,ZL.mp hj,rfl⟩
 .rintro ⟨h1,h2,h3⟩;obtain⟨a,b,c⟩:=s
  dsimp only at h1 h2 h3
  exact⟨b,ZL.mpr h2,by rw[h1,h3]⟩
theorem xf5 {G:List (List Nat)}{n:Nat}{s:Sg}:s∈sgsN G n↔s.1<n/\s.2.1<(G.getD s.1 []).length/\s.2.2=(G.getD s.1 []).getD s.2.1 0:=by
 unfold sgsN;rw[Yv];constructor
 .rintro ⟨i,hi,hs⟩;obtain⟨h1,h2,h3⟩:=xg7.mp hs;subst h1;exact⟨ZL.mp hi,h2,h3⟩
 .rintro ⟨h1,h2,h3⟩;exact⟨s.1,ZL.mpr h1,xg7.mpr ⟨rfl,h2,h3⟩⟩
theorem xg6 {W:Nat}{G:List (List Nat)} (o:Txs W G) {s:Sg}:s∈sgs G↔s.1<G.length/\s.2.1<W/\s.2.2=(G.getD s.1 []).getD s.2.1 0:=by
 unfold sgs;rw[xf5];have l:s.1<G.length->(G.getD s.1 []).length=W:=fun h=>by
  rw[Jq,Zh h];exact o.wd _ (Qq h)
 constructor
 .rintro ⟨h1,h2,h3⟩;exact⟨h1,by rw[<- l h1]; exact h2,h3⟩
 .rintro ⟨h1,h2,h3⟩;exact⟨h1,by rw[l h1]; exact h2,h3⟩
abbrev xqx (a b:Sg):Prop:=¬ (a.1=b.1/\a.2.1=b.2.1)
theorem xge (G:List (List Nat)):∀ n,(sgsN G n).Pairwise xqx
 | 0=>by
  unfold sgsN;exact JN.nil
 | n+1=>by
  have e:sgsN G (n+1)=sgsN G n++sgR n (G.getD n []):=by
   unfold sgsN;rw[JV,YV,Q0]
  rw[e,JY];refine⟨xge G n,?_,fun a ha b hb=>?_⟩
  .unfold sgR;rw[Z3];exact Yu.imp fun ne z=>ne z.2
  .have h1:=(xf5.mp ha).1;have h2:=(xg7.mp hb).1;intro z;omega
def inns (w:Nat) (G:List (List Nat)):List Sg:=(sgs G).filter (innP (w+1))
def outs (w:Nat) (G:List (List Nat)):List Sg:=(sgs G).filter (outP (w+1))
def rims (w:Nat) (G:List (List Nat)):List Sg:=(sgs G).filter fun s=>rimB (w+1) s.2.1&&decide (s.2.2≠32)
abbrev InNe (a b:Sg):Prop:=a.2.2≠b.2.2/\a.1≠b.1/\a.2.1≠b.2.1
structure xdl (w:Nat) (G:List (List Nat)):Prop where
 tx:Txs (w+2) G
 sg:∀ s∈sgs G,nmC s.2.2=false->if rimB (w+1) s.2.1=true then s.2.2=32\/s.2.2=46 else s.2.2∈([32,124,45,43,35]:List Nat)
 in1:(inns w G).Pairwise InNe
 in2:(inns w G).length<=12
 ou1:((outs w G).map fun s=>s.2.2).Nodup
 ou2:∀ s∈outs w G,s.2.2∈(inns w G).map fun s=>s.2.2
theorem xun {α:Type}{l:List α}{k:Nat}{x:α} (h:l[k]?=some x):l=l.take k++x::l.drop (k+1):=by
 obtain⟨hk,rfl⟩:=Zk.mp h;rw[<- List.drop_eq_getElem_cons hk,Q7]
theorem xhx {α:Type}{l:List α}{k:Nat}{x:α} (h:l[k]?=some x) {p:α->Bool} (hp:p x=true):l.filter p=(l.take k).filter p++x::(l.drop (k+1)).filter p:=by
 have e:=congrArg (List.filter p) (xun h);rw[Jy,Je hp] at e;exact e
theorem xsw {w:Nat}{G:List (List Nat)} (g:xdl w G) {k:Nat}{s:Sg} (h:(sgs G)[k]?=some s):mayB (w+1) (((sgs G).take k).filter (outP (w+1))) (((sgs G).take k).filter (innP (w+1))) s=true:=by
 have ms:=Zp h;have sg:=g.sg s ms;unfold mayB;by_cases r:rimB (w+1) s.2.1=true
 .rw [if_pos r];rw[if_pos r] at sg;cases n:nmC s.2.2 with
  | false =>
   rcases sg n with z|z
   .rw [decide_eq_true z];rfl
   .rw [decide_eq_true z,Ys];rfl
  | true =>
   have e:=g.ou1;unfold outs at e;rw[xhx h (by unfold outP; rw[r,n]; rfl),Z9,Zr,ZT] at e;have ni:s.2.2∉((sgs G).take k |>.filter (outP (w+1))).map fun s=>s.2.2:=fun z=>e.2.2 _ z _ Z0 rfl;rw[decide_eq_true ni,Bool.and_true,Ys]
 .rw [if_neg r];rw[if_neg r] at sg;have r':=Jk.mpr r;cases n:nmC s.2.2 with
  | false =>
   rw[List.contains_iff_mem.mpr (sg n)];rfl
  | true =>
   have pos:innP (w+1) s=true:=by unfold innP; rw[r',n]; rfl
   have e:=g.in1;have e2:=g.in2;unfold inns at e e2;rw[xhx h pos,JY] at e;rw[xhx h pos,Zs,ZQ] at e2;have all:∀ a∈((sgs G).take k).filter (innP (w+1)),InNe a s:=fun a ha=>e.2.2 a ha s Z0;have ni:s.2.2∉((sgs G).take k |>.filter (innP (w+1))).map fun s=>s.2.2:=fun z=>by
    obtain⟨a,ha,ea⟩:=Zd.mp z;exact (all a ha).1 ea
   have nf:(((sgs G).take k).filter (innP (w+1))).filter (fun z=>decide (z.1=s.1)||decide (z.2.1=s.2.1))=[]:=by
    rw[Q3];intro a ha z;rcases YT _ _▸z with z|z
    .exact (all a ha).2.1 (of_decide_eq_true z)
    .exact (all a ha).2.2 (of_decide_eq_true z)
   have lie:lieB (((sgs G).take k).filter (innP (w+1))) s.1 s.2.1 s.2.2=true:=by
    unfold lieB;rw[decide_eq_true ni,decide_eq_true nf,decide_eq_true (by omega)];rfl
   rw[lie,Bool.and_true,Ys]
theorem xik {α:Type}{l:List α}{k:Nat}{x:α} (h:l[k]?=some x) (p:α->Bool):(l.take (k+1)).filter p=if p x then (l.take k).filter p++[x] else (l.take k).filter p:=by
 rw[ZI,h,Jy];cases e:p x with
 | true =>
  rw[if_pos rfl,show (some x).toList=[x] from rfl,Je e];rfl
 | false =>
  rw[if_neg (by decide),show (some x).toList=[x] from rfl,Jm (by rw[e]; decide),List.filter_nil,Yh]
def nmLt (a b:Sg):Prop:=a.2.2<b.2.2
theorem xfo:∀(p:Sg) (es:List Sg),risingS (ofL [p.2.2]) (es.map fun s=>ofL [s.2.2])=true->(∀ s∈es,p.2.2<=s.2.2)/\es.Pairwise fun a b=>a.2.2<=b.2.2
 | p,[],_=>⟨fun _ z=>(nomatch z),.nil⟩
 | p,x::r,h=>by
  rw[Zr] at h;unfold risingS at h;rw[Zy,xa4,xa4] at h;obtain⟨h1,h2⟩:=h;obtain⟨i1,i2⟩:=xfo x r h2;have le:p.2.2<=x.2.2:=by
   simp[ZD.ltCps] at h1;omega
  refine⟨fun s hs=>?_,Qb.mpr ⟨i1,i2⟩⟩;rcases Zx.mp hs with z|z
  .rw [z];exact le
  .exact ZB le (i1 s z)
theorem xg2 {es:List Sg} (h:sortedS (es.map fun s=>ofL [s.2.2])=true) (nd:(es.map fun s=>s.2.2).Nodup):es.Pairwise nmLt:=by
 have le:es.Pairwise fun a b=>a.2.2<=b.2.2:=by
  cases es with
  | nil=>exact .nil
  | cons x r =>
   obtain⟨i1,i2⟩:=xfo x r h;exact Qb.mpr ⟨i1,i2⟩
 rw[JE,Z3] at nd;exact (le.and nd).imp fun z=>Nat.lt_of_le_of_ne z.1 z.2
theorem xh8:∀ cs:List Nat,Y0 (Zb "") (cs.map fun n=>ofL [n])=ofL cs
 | []=>rfl
 | [c]=>rfl
 | c::d::r=>by
  apply xet;have ih:=xh8 (d::r);show (ofL [c]++Zb ""++Y0 (Zb "") ((d::r).map fun n=>ofL [n])).cps.toList=_;rw[ih,xdn,xdn,xa4,xa4,xa4];rfl
def One (m:Cl->Option Str):Prop:=∀ c s,m c=some s->s.length=1
def cd (m:Cl->Option Str) (c:Cl):Nat:=match m c with
 | some s=>s.cps.toList.headD 32
 | none=>32
theorem xvt {m:Cl->Option Str} (o:One m) (c:Cl):(m c).getD (Zb " ")=ofL [cd m c]:=by
 unfold cd;cases e:m c with
 | none=>rfl
 | some s =>
  have l:=o c s e;show s=ofL [s.cps.toList.headD 32];apply xet;rw[xa4];have l2:s.cps.toList.length=1:=by simpa [Y5] using l
  cases h:s.cps.toList with
  | nil=>rw[h] at l2; cases l2
  | cons x r =>
   rw[h] at l2;have:r=[]:=by simpa using l2
   rw[this];rfl
def rowC (w:Nat) (r:Int) (m:Cl->Option Str):List Nat:=(Zz (w+2)).map fun (j:Nat)=>cd m ((j:Int),r)
theorem xlj {m:Cl->Option Str} (o:One m) (w:Nat) (r:Int):rowT w r m=ofL (rowC w r m):=by
 unfold rowT rowC;rw[<- xh8,Zl]
 congr 1
 exact ZX fun j _=>xvt o _
def xcf (w h:Nat) (m:Cl->Option Str):List (List Nat):=(Zz h).map fun (i:Nat)=>rowC w (1+(i:Int)) m
theorem xqa {m:Cl->Option Str} (o:One m) (w h:Nat):xed w h m=GV (xcf w h m):=by
 unfold xed GV xcf;rw[Zl];exact ZX fun i _=>by
  show V.str (rowT w (1+(i:Int)) m)=V.str (ofL (rowC w (1+(i:Int)) m));rw[xlj o]
def xrp:Sp:=fun vs H Q _=>∃(l d:Addr) (w:Nat) (G:List (List Nat)) (m:Cl->Option Str),vs=[.ref l,.ref d]/\H l=some (.lst (GV G))/\Txs (w+2) G/\H d=some (.lst (xed w G.length m))/\One m/\(∀ s∈sgs G,cd m ((s.2.1:Int),1+(s.1:Int))=s.2.2)/\∀ H',Same H H'->Q .non H'
theorem TL.get {α:Type}{f:α->List V}{H:Hp}{as:List α}{qs:List Addr} (h:TL f H as qs) {i:Nat}{q:Addr} (e:qs[i]?=some q):∃ a,as[i]?=some a/\H q=some (.tup (f a)):=h.2 i q e
section
variable {P:Program}{w:World}{K:Ze}{mg:Str->Option Value}{base:Heap}{t:Adr}
theorem ok_af (T:Txt w K mg t):FnOk true P w K mg base (CXo P w) 2 t.f_af t.d_af ["rows", "drawing"] (xrp):=by
 refine T.F_af.okn (k:=1) sc_af (fun vs H Q E h=>?_) (fun cdv A outer s H vs Q E hr h=>?_)
 .obtain ⟨l,d,w',G,m,rfl,_⟩:=h;rfl
 .obtain ⟨l,d,w',G,m,rfl,h⟩:=h;refine⟨_,xk (xa9 ZM rfl (xav (xr (ok_aw T) (hr.mono (by decide)) rfl T.g_aw T.F_aw.kp T.b_aw .nil xg (xa (pv 0) (xf)))) (xar rfl (xp (xn (i:=2) sc_af.nd rfl (Zo rfl)) (xp (xn (i:=3) sc_af.nd rfl (Zo rfl)) (xp (xn (i:=4) sc_af.nd rfl (Zo rfl)) (xag))))) (xk (xap (xaa xfu (pv 4) (xba xs2 (xba xei (pv 1) (pv 2) (fun _ _=>rfl)) (pv 3) (fun _ _=>rfl)) (x9 _)) (xk (xaz)) (x8)))),?_⟩;obtain⟨hl,o,hd,o1,all,q⟩:=h;have h2:=o.h2;have w2:=o.w2;refine⟨_,rfl,l,w'+2,G,rfl,hl,o,fun H1 l1 qs s1 f1 e1 tl1=>⟨l1,rfl,⟨_,SqL.of e1⟩,?_⟩⟩;refine xbi (xs:=qs.map V.ref) (Pv:=fun i σ H5=>∃(v2 v3 v4:Option V),σ=[some (.ref l),some (.ref d),v2,v3,v4]/\H5=H1) ⟨_,_,_,rfl,rfl⟩ ?_ ?_ ?_
  .rintro i σ H5 _ ⟨_,_,_,rfl,rfl⟩;exact SqL.of e1
  .rintro i x σ H5 hx ⟨v2,v3,v4,rfl,rfl⟩;rw[Zf,Zi] at hx;obtain⟨qa,hqa,rfl⟩:=hx;obtain⟨s,hs,hq⟩:=tl1.get hqa;have ms:=Zp hs;obtain⟨r1,r2,r3⟩:=(xg6 o).mp ms;refine⟨qa,_,rfl,SqT.of hq,rfl,_,_,rfl,_,_,rfl,_,_,rfl,rfl,?_⟩;have rt:=xlj o1 w' (1+(s.1:Int));refine⟨_,rfl,_,rfl,_,rfl,d,_,_,.str (rowT w' (1+(s.1:Int)) m),rfl,rfl,SqL.of (s1 _ _ hd),?_,_,rfl,_,_,s.2.2,rfl,rfl,?_,?_,rfl,_,rfl,ifN ?_ ⟨_,_,_,rfl,rfl⟩⟩
   .refine xeg ?_;unfold xed;rw[Zf,Ju r1];rfl
   .rw [rt,xb1];unfold rowC;rw[Za,Zv];exact ZB (by omega:_<=1000) (by decide)
   .rw [rt,xa4];refine xeg ?_;unfold rowC;rw[Zf,Ju r2];show some (cd m ((s.2.1:Int),1+(s.1:Int)))=_;rw[all s ms]
   .simp [sgn]
  .rintro σ H5 ⟨v2,v3,v4,rfl,rfl⟩;exact q _ s1
end
def toPt (h:Nat) (s:Sg):Pt:=⟨ofL [s.2.2],(s.2.1:Int),(s.1:Int)+1, "both",1,(h:Int)⟩
def xaj (s:Sg):Seat:=(xfl s.2.1,(s.1:Int)+1)
theorem xrf {w:Nat}{G:List (List Nat)} (o:Txs (w+2) G) {s:Sg} (h:s∈inns w G):s∈sgs G/\nmC s.2.2=true/\1<=s.2.1/\s.2.1<=w/\s.1<G.length:=by
 obtain⟨h1,h2⟩:=ZH.mp h;unfold innP rimB at h2;obtain⟨r1,r2,_⟩:=(xg6 o).mp h1;simp only[Zy,Qf,Bool.or_eq_false_iff,decide_eq_false_iff_not] at h2;exact⟨h1,h2.2,by omega,by omega,r1⟩
theorem xer {lc j:Nat} (h:rimB lc j=true):j=0\/j=lc:=by
 unfold rimB at h;simpa using h
theorem xhr {α β:Type}{R:α->α->Prop}{f:α->β}{l:List α} (h:l.Pairwise R) (k:∀ a b,R a b->f a≠f b):(l.map f).Nodup:=by
 rw[JE,Z3];exact h.imp fun {a b} z=>k a b z
theorem xe8 {w:Nat}{G:List (List Nat)} (g:xdl w G) {es:List Sg} (pe:es.Perm (inns w G)):xbk (w:Int) (G.length:Int) (es.map (toPt G.length)):=by
 have nd:∀{β:Type} (f:Pt->β),(∀ a b:Sg,InNe a b->f (toPt G.length a)≠f (toPt G.length b))->((es.map (toPt G.length)).map f).Nodup:=fun f hf=>by
  rw[Zl];exact (pe.map _).nodup_iff.mpr (xhr (f:=f∘toPt G.length) g.in1 hf)
 refine⟨fun p hp=>?_,nd _ fun a b z e=>z.1 (xdu e),nd _ fun a b z e=>z.2.2 ?_,nd _ fun a b z e=>z.2.1 ?_,?_⟩
 .obtain ⟨s,hs,rfl⟩:=Zd.mp hp;obtain⟨_,i2,i3,i4,i5⟩:=xrf g.tx (pe.mem_iff.mp hs);have h1:=g.tx.h1;exact⟨by rw[show (toPt G.length s).nm=ofL [s.2.2] from rfl,xhf,i2],by show (1:Int)<=(s.2.1:Int); omega,by show (s.2.1:Int)<=_; omega,by show (1:Int)<=(s.1:Int)+1; omega,by show (s.1:Int)+1<=_; omega,.inr (.inr rfl),by show (1:Int)<=1; omega,by show (1:Int)<=(G.length:Int); omega,by show (G.length:Int)<=_; omega⟩
 .have e:(a.2.1:Int)=(b.2.1:Int):=e;omega
 .have e:(a.1:Int)+1=(b.1:Int)+1:=e;omega
 .rw [Za,pe.length_eq];exact g.in2
theorem xl2 {w:Nat}{a b:Sg} (ra:rimB (w+1) a.2.1=true) (rb:rimB (w+1) b.2.1=true) (ne:xqx a b):xaj a≠xaj b:=fun e=>by
 have e1:decide (a.2.1=0)=decide (b.2.1=0):=(ZR.inj e).1;have e2:(a.1:Int)+1=(b.1:Int)+1:=(ZR.inj e).2;rw[decide_eq_decide] at e1;refine ne ⟨by omega,?_⟩;rcases xer ra with x|x<;>rcases xer rb with y|y<;>omega
theorem xee {α:Type}{R S:α->α->Prop}{p:α->Bool}{l:List α} (h:l.Pairwise R) (k:∀ a b,p a=true->p b=true->R a b->S a b):(l.filter p).Pairwise S:=by
 have z:=(h.filter p)
 refine JN.imp_of_mem ?_ z;intro a b ha hb r;exact k a b (ZH.mp ha).2 (ZH.mp hb).2 r
theorem xhs {w:Nat}{G:List (List Nat)} (g:xdl w G):SsOk (G.length:Int) ((rims w G).map xaj):=by
 have nd:((rims w G).map xaj).Nodup:=by
  refine xhr (R:=fun a b=>xaj a≠xaj b) ?_ fun _ _ z=>z;refine xee (xge G _) fun a b ha hb z=>?_;exact xl2 (Zy _ _▸ha).1 (Zy _ _▸hb).1 z
 have bd:∀ s∈(rims w G).map xaj,1<=s.2/\s.2<=(G.length:Int):=fun s hs=>by
  obtain⟨z,hz,rfl⟩:=Zd.mp hs;have:=((xg6 g.tx).mp (ZH.mp hz).1).1;exact⟨by show (1:Int)<=(z.1:Int)+1; omega,by show (z.1:Int)+1<=_; omega⟩
 refine⟨nd,?_,bd⟩;have h2:=g.tx.h2;have:=nd.length_le_of_subset (l₂:=xak true G.length++xak false G.length) fun s hs=>xlh (bd s hs);have e:(xak true G.length++xak false G.length).length=G.length+G.length:=by
  unfold xak;rw[Zs,Za,Za,Zv]
 omega
theorem xl3 {w:Nat}{G:List (List Nat)} (g:xdl w G):((inns w G).map fun s=>s.2.2).Nodup:=xhr g.in1 fun _ _ z=>z.1
def xon (t:Adr):Sp:=fun vs H Q _=>∃(l a o i:Addr) (w:Nat) (G:List (List Nat)),vs=[.ref l,.ref a]/\H l=some (.lst (GV G))/\Let t H a o i (w+1) (outs w G) (inns w G)/\xdl w G/\∀(H':Hp) (b dp do_:Addr) (es:List Sg),Same H H'->H b=none->H dp=none->es.Perm (inns w G)->es.Pairwise nmLt->Pic t H' b dp do_ (w:Int) (G.length:Int) (es.map (toPt G.length))->Sts H' do_ ((rims w G).map xaj)->Q (.ref b) H'
section
variable {P:Program}{w:World}{K:Ze}{mg:Str->Option Value}{base:Heap}{t:Adr}
theorem ok_al (T:Txt w K mg t):FnOk true P w K mg base (CXo P w) 7 t.f_al t.d_al ["rows", "letters"] (xon t):=by
 refine T.F_al.okn (k:=6) sc_al (fun vs H Q E h=>?_) (fun cdv A outer s H vs Q E hr h=>?_)
 .obtain ⟨l,a,o,i,w',G,rfl,_⟩:=h;rfl
 .obtain ⟨l,a,o,i,w',G,rfl,h⟩:=h;refine⟨_,xj (x0 (i:=2) sc_al.nd rfl (ZS rfl) (xab xbn rfl T.n_len Yb (xa (pv 0) (xf))))
   (xj (xbm rfl (xay (zs:=["name"]) (ys:=["height", "letters"]) (fr:=[2,1]) (N0:=["rows", "letters", "height", "points", "seats"]) (sc0:=xm s_al) (by decide +kernel) rfl rfl rfl) (xav (xab (xe9 rfl) rfl T.n_sorted PyProof.Rows.Boot.«sorted» (xa (x4 (pv 1) rfl) (xf)))) (fun _ _ _ _ _ ow nd=>xn (i:=0) nd rfl (Zo (ow _ (by simp))) (ZS (ow _ (by simp)))) (xbu (by decide)) (fun _ _ _ _ _=>xa5) (fun _ _ _ _ _=>xal (xx (pv 0) (xx (xba (r:=rIxT K) xbd (xel (xbh hr) ((x4 (pv 2) rfl:PE _ _ (tFld K _ _))) (pv 0) (fun _ _=>rfl)) (xo) (fun _ _=>rfl)) (xx (xu xaq (xba (r:=rIxT K) xbd (xel (xbh hr) ((x4 (pv 2) rfl:PE _ _ (tFld K _ _))) (pv 0) (fun _ _=>rfl)) (xo) (fun _ _=>rfl)) (xo)) (xx (xad) (xx (xo) (xx (pv 1) (xf) rfl) rfl) rfl) rfl) rfl) rfl)) (j:=3) rfl (Zo rfl))
   (xj (xbm rfl (xay (zs:=["row", "column", "sign"]) (ys:=["letters"]) (fr:=[1]) (N0:=["rows", "letters", "height", "points", "seats"]) (sc0:=xm s_al) (by decide +kernel) rfl rfl rfl) (xav (xr (ok_aw T) (hr.mono (by decide)) rfl T.g_aw T.F_aw.kp T.b_aw .nil xg (xa (pv 0) (xf)))) (fun _ _ _ _ _ ow nd=>(xar rfl (xp (xn (i:=0) nd rfl (Zo (ow _ (by simp))) (ZS (ow _ (by simp)))) (xp (xn (i:=1) nd rfl (Zo (ow _ (by simp))) (ZS (ow _ (by simp)))) (xp (xn (i:=2) nd rfl (Zo (ow _ (by simp))) (ZS (ow _ (by simp)))) (xag)))):PG _ _ (gTup K 3 _))) (xbz (x5 (by decide) (x5 (by decide) (x5 (by decide) (xbl))))) (fun _ _ _ _ _=>xhz (PW.pt (xfm (xa6 (xaw (pv 3) T.c_w T.m_p (ok_p T) (hr.mono (by decide)) T.b_p .nil xg (xa (pv 1) (xf)))) (xfz (xaa xfu (pv 2) (xad) (x9 _)))))) (fun _ _ _ _ _=>xr (ok_a4 T) (hr.mono (by decide)) rfl T.g_a4 T.F_a4.kp T.b_a4 .nil xg (xa (xal (xa (pv 0) (xa (pv 1) (xf)))) (xf))) (j:=4) rfl (Zo rfl))
   (xk (xz (xr (ok_q T) (hr.mono (by decide)) rfl T.g_q T.F_q.kp T.b_q .nil xg (xa (xu xcj (x4 (pv 1) rfl) (xo)) (xa (pv 2) (xa (pv 3) (xa (pv 4) (xf)))))))))),?_⟩
  obtain⟨hl,lt,g,q⟩:=h;have tx:=g.tx;have h1:=tx.h1;have h2:=tx.h2;have w1:=tx.w1;have w2:=tx.w2;have in2:=g.in2;obtain⟨⟨dx,ins⟩,_,⟨kvs,hk,ld⟩,_⟩:=id lt;refine⟨_,rfl,l,_,rfl,.inl (SqL.of hl),?_⟩;rw[xff];refine⟨_,rfl,a,_,dx,_,_,rfl,ins,T.c_w,T.n_a9,ltI,i,(inns w' G).map (fun s=>ofL [s.2.2]),rfl,.inr ⟨kvs,hk,ld.keys⟩,(by rw[Za]; omega),fun ls ns hls pm srt=>?_⟩;obtain⟨es,pe,rfl⟩:=xfh pm rfl;have nde:=(pe.map fun s=>s.2.2).nodup_iff.mpr (xl3 g);have lt':=xg2 srt nde;have el:=pe.length_eq;have s1:Same H (upd H ls (.lst ((es.map fun s=>ofL [s.2.2]).map V.str))):=xq (Same.refl _) hls;have g1:upd H ls (.lst ((es.map fun s=>ofL [s.2.2]).map V.str)) ls=some (.lst ((es.map fun s=>ofL [s.2.2]).map V.str)):=xb;revert s1 g1;generalize upd H ls (.lst ((es.map fun s=>ofL [s.2.2]).map V.str))=H1;intro s1 g1;refine⟨ls,rfl,⟨_,SqL.of g1⟩,fun l1 hl1=>?_⟩;refine xct (SqL.of g1) (by rw[Za,Za]; exact ZA (by omega:_<=1000) (by decide)) hl1 (fun j y H5=>∃ q s,y=.ref q/\es[j]?=some s/\H5 q=some (.tup (.str (toPt G.length s).nm::ptV (toPt G.length s)))) (fun j y H5 H6 tp ⟨q,s,e1,e2,e3⟩=>⟨q,s,e1,e2,tp _ _ e3⟩) (fun j x H5 hx s5 N hN=>?_) (fun ys H5 s5 e5 ly fy=>?_)
  .rw [Zf,Zf] at hx;obtain⟨x2,hx2,rfl⟩:=Zi.mp hx;obtain⟨s,hs,rfl⟩:=Zi.mp hx2;have s05:=s1.trans s5;have ins5:=s05 _ _ ins;have hk5:=s05 _ _ hk;obtain⟨qa,hv,hq⟩:=(ld.keep (Same.tups s05)).at_ (pe.mem_iff.mp (Zp hs)) (xl3 g);have dg:=DGet.k (k:=.inr (ofL [s.2.2])) hk5;rw[hv] at dg;refine⟨_,rfl,_,rfl,a,_,dx,_,_,rfl,ins5,T.c_w,T.n_a9,ltI,_,rfl,i,_,rfl,dg,qa,_,1,.int (s.2.1:Int),rfl,rfl,SqT.of hq,rfl,?_⟩;refine⟨_,rfl,a,_,dx,_,_,rfl,ins5,T.c_w,T.n_a9,ltI,_,rfl,i,_,rfl,dg,qa,_,0,.int (s.1:Int),rfl,rfl,SqT.of hq,rfl,_,_,rfl,rfl,_,rfl,(by show 6<=sizeLine; decide),fun u hu=>hN _ _ (xq (Same.refl _) hu) ⟨u,s,rfl,hs,?_⟩⟩;rw[xb];rfl
  rw[Za,Za] at ly;obtain⟨rs,rfl,ptl⟩:=PtsL.pick (H:=H5) (ps:=es.map (toPt G.length)) (ys:=ys) (by rw[ly,Za]) (fun j y p hy hp=>by
   obtain⟨q,s,e1,e2,e3⟩:=fy j y hy;rw[Zf,e2] at hp;cases hp;exact⟨q,e1,e3⟩)
  have s05:=s1.trans s5;have lt5:=lt.same s05;refine⟨_,rfl,l,w'+2,G,rfl,s05 _ _ hl,tx,fun H6 l6 qs s6 f6 e6 tl6=>⟨l6,rfl,⟨_,SqL.of e6⟩,fun l7 hl7=>?_⟩⟩;have qll:=tl6.1;have gll:=xex tx G.length (Zj _);have b512:G.length*(w'+2)<=16*32:=QG h2 w2;have gl2:(sgs G).length<=512:=by unfold sgs; omega
  have lt6:=lt5.same s6;refine xha (SqL.of e6) (by rw[Za]; exact ZA (by omega:_<=1000) (by decide)) hl7 (fun k=>(((sgs G)[k]?).map fun s=>rimB (w'+1) s.2.1&&decide (s.2.2≠32)).getD false) (fun k y H8=>∃ q s,y=.ref q/\(sgs G)[k]?=some s/\H8 q=some (.tup (xch (xaj s)))) (fun j y H5 H6 tp ⟨q,s,e1,e2,e3⟩=>⟨q,s,e1,e2,tp _ _ e3⟩) (fun k x H8 hx s8 N M hN hM=>?_) (fun ys H8 s8 e8 ly8 fy8=>?_)
  .rw [Zf,Zi] at hx;obtain⟨qa,hqa,rfl⟩:=hx;obtain⟨s,hs,hq⟩:=tl6.get hqa;have lt8:=lt6.same s8;obtain⟨⟨dx8,ins8⟩,_⟩:=id lt8;refine⟨qa,_,rfl,SqT.of (s8 _ _ hq),rfl,_,_,rfl,_,_,rfl,_,_,rfl,rfl,?_⟩;refine⟨_,rfl,a,dx8,_,rfl,ins8,xga (by decide +kernel),_,rfl,a,o,i,w'+1,_,_,s.2.1,rfl,lt8,fun H9 s9=>⟨_,rfl,ite2 (fun c=>?_) (fun c=>?_)⟩⟩
   .refine ⟨_,rfl,rfl,_,rfl,ite2 (fun c2=>?_) (fun c2=>?_)⟩
    .have n32:s.2.2≠32:=fun z=>by
      rw[z] at c2;exact absurd c2 (by decide)
     refine⟨_,rfl,_,rfl,(by show 2<=sizeLine; decide),fun p hp=>⟨p,s.1,s.2.1,rfl,xb,fun H10 q10 s10 f10 e10=>hN _ _ (s9.trans (fun b u e=>s10 _ _ (xq (Same.refl _) hp _ _ e))) ?_ ⟨q10,s,rfl,hs,e10⟩⟩⟩;rw[hs];show (rimB (w'+1) s.2.1&&decide (s.2.2≠32))=true;rw[c,decide_eq_true n32];rfl
    .have n32:s.2.2=32:=by
      by_cases z:s.2.2=32
      .exact z
      .have y:¬ sgn s.2.2=V.str (Zb " "):=fun y=>z (xdu (d:=32) (V.str.inj y));exact absurd (by rw[decide_eq_false y]; rfl) c2
     refine hM _ s9 ?_;rw[hs];show (rimB (w'+1) s.2.1&&decide (s.2.2≠32))=false;rw[decide_eq_false (fun z=>z n32),YZ]
   .refine iteF (hM _ s9 ?_);rw[hs];show (rimB (w'+1) s.2.1&&decide (s.2.2≠32))=false;rw[Jk.mpr c,Yd]
  have ix:=xrj (fun s:Sg=>rimB (w'+1) s.2.1&&decide (s.2.2≠32)) (as:=sgs G) (p:=fun k=>(((sgs G)[k]?).map fun s=>rimB (w'+1) s.2.1&&decide (s.2.2≠32)).getD false) (fun k s hs=>by rw[hs]; rfl);rw[Za,qll] at ly8 fy8;obtain⟨rs8,rfl,stl⟩:=x6.pick (H:=H8) (ss:=(rims w' G).map xaj) (ys:=ys) (by rw[ly8,ix.1,Za]; rfl) (fun j y z hy hz=>by
   obtain⟨k,hk⟩:∃ k,((Zz (sgs G).length).filter fun k=>(((sgs G)[k]?).map fun s=>rimB (w'+1) s.2.1&&decide (s.2.2≠32)).getD false)[j]?=some k:=⟨_,Zh (by rw[<- ly8]; exact (Zk.mp hy).1)⟩
   obtain⟨q,s,e1,e2,e3⟩:=fy8 j y k hy hk;rw[ix.2 j k hk] at e2;rw[Zf,show (rims w' G)[j]?=some s from e2] at hz;cases hz;exact⟨q,e1,e3⟩)
  have s58:=s6.trans s8;have s08:=s05.trans s58;obtain⟨⟨dx8,ins8⟩,_⟩:=id (lt6.same s8);have pok:=xe8 g pe;have ew:((w'+1:Nat):Int)-1=(w':Int):=by omega
  refine⟨_,rfl,a,_,dx8,_,_,rfl,ins8,T.c_w,T.n_ba,ltL,_,_,rfl,rfl,_,rfl,_,rfl,_,rfl,?_⟩;refine⟨(w':Int),(G.length:Int),l1,l7,es.map (toPt G.length),rs,(rims w' G).map xaj,rs8,by show [V.int (((w'+1:Nat):Int)-1),V.int (G.length:Int),V.ref l1,V.ref l7]++[]=_; rw[ew]; rfl,⟨by omega,by omega,by omega,by omega⟩,s58 _ _ e5,ptl.keep (Same.tups s58),pok,e8,stl,xhs g,fun H' b dp do_ s' fb fdp _ pic st=>?_⟩;exact q H' b dp do_ es (s08.trans s') (s08.free fb) (s08.free fdp) pe lt' pic st
end
theorem xlw (G:List (List Nat)):∀ n,(sgsN G n).Pairwise fun a b=>a.1<b.1\/(a.1=b.1/\a.2.1<b.2.1)
 | 0=>by
  unfold sgsN;exact JN.nil
 | n+1=>by
  have e:sgsN G (n+1)=sgsN G n++sgR n (G.getD n []):=by
   unfold sgsN;rw[JV,YV,Q0]
  rw[e,JY];refine⟨xlw G n,?_,fun a ha b hb=>?_⟩
  .unfold sgR;rw[Z3];exact List.pairwise_lt_range.imp fun z=>.inr ⟨rfl,z⟩
  .have h1:=(xf5.mp ha).1;have h2:=(xg7.mp hb).1;exact .inl (by omega)
theorem xkt {α:Type} (p:α->Bool):∀ l:List α,(l.filter p++l.filter fun x=>!p x).Perm l
 | []=>.refl _
 | x::l=>by
  have ih:=xkt p l;cases e:p x with
  | true =>
   rw[Je e,Jm (by rw[e]; decide)];exact ih.cons x
  | false =>
   rw[Jm (by rw[e]; decide),Je (by rw[e]; rfl)];exact List.perm_middle.trans (ih.cons x)
def rimS (w:Nat) (G:List (List Nat)):List Seat:=(rims w G).map xaj
def srtS (w:Nat) (G:List (List Nat)):List Seat:=(rimS w G).filter (fun s=>s.1)++(rimS w G).filter fun s=>!s.1
theorem xeo (w:Nat) (G:List (List Nat)):(srtS w G).Perm (rimS w G):=xkt _ _
theorem xts (w:Nat) (G:List (List Nat)):(srtS w G).Pairwise xbj:=by
 have base:(rimS w G).Pairwise fun a b=>a.1=b.1->a.2<b.2:=by
  unfold rimS rims;rw[Z3];refine xee (xlw G _) fun a b ha hb z e=>?_;have e:decide (a.2.1=0)=decide (b.2.1=0):=e;rw[decide_eq_decide] at e;have ra:=xer (Zy _ _▸ha).1;have rb:=xer (Zy _ _▸hb).1;show (a.1:Int)+1<(b.1:Int)+1;omega
 unfold srtS;rw[JY];refine⟨xee base fun a b ha hb z=>.inr ⟨by rw[ha,hb],z (by rw[ha,hb])⟩,xee base fun a b ha hb z=>?_,fun a ha b hb=>.inl ⟨(ZH.mp ha).2,by simpa using (ZH.mp hb).2⟩⟩;have e:a.1=b.1:=by
  have ha:a.1=false:=by simpa using ha
  have hb:b.1=false:=by simpa using hb
  rw[ha,hb]
 exact .inr ⟨e,z e⟩
def toPr (w:Nat) (G:List (List Nat)) (s:Sg):Pr:=(toPt G.length (((inns w G).find? fun z=>decide (z.2.2=s.2.2)).getD s),xaj s)
theorem xdr {w:Nat}{G:List (List Nat)} (g:xdl w G) {s:Sg} (h:s∈outs w G):s∈sgs G/\nmC s.2.2=true/\rimB (w+1) s.2.1=true/\∃ z∈inns w G,z.2.2=s.2.2/\toPr w G s=(toPt G.length z,xaj s):=by
 obtain⟨h1,h2⟩:=ZH.mp h;unfold outP at h2;obtain⟨h3,h4⟩:=Zy _ _▸h2;refine⟨h1,h4,h3,?_⟩;obtain⟨y,hy,ey⟩:=Zd.mp (g.ou2 s h);cases e:(inns w G).find? fun z=>decide (z.2.2=s.2.2) with
 | none=>exact absurd (decide_eq_true ey) (by have:=List.find?_eq_none.mp e y hy; exact this)
 | some z =>
  have ez:z.2.2=s.2.2:=by
   have y:=List.find?_some e;simpa using y
  exact⟨z,Yx e,ez,by unfold toPr; rw[e]; rfl⟩
theorem xjc {w:Nat}{G:List (List Nat)} (g:xdl w G) {es fs:List Sg} (pe:es.Perm (inns w G)) (pf:fs.Perm (outs w G)):xfi (w:Int) (G.length:Int) (es.map (toPt G.length)) (fs.map (toPr w G)):=by
 have pok:=xe8 g pe;have ou:=g.ou1;have in2:=g.in2;refine⟨fun p hp=>?_,?_,?_,?_⟩
 .obtain ⟨s,hs,rfl⟩:=Zd.mp hp;obtain⟨o1,o2,o3,z,hz,ez,et⟩:=xdr g (pf.mem_iff.mp hs);rw[et];have mem:toPt G.length z∈es.map (toPt G.length):=Zd.mpr ⟨z,pe.mem_iff.mpr hz,rfl⟩;have po:=pok.ok _ mem;have r:=((xg6 g.tx).mp o1).1;exact⟨po.nm,xh3 pok.nn mem,by show (1:Int)<=(s.1:Int)+1; omega,by show (s.1:Int)+1<=_; omega,po.x1,po.x2,po.y1,po.y2⟩
 .rw [Zl];have e:(outs w G).Pairwise fun a b=>xaj a≠xaj b:=by
   refine xee (xge G _) fun a b ha hb z=>?_;unfold outP at ha hb;exact xl2 (Zy _ _▸ha).1 (Zy _ _▸hb).1 z
  exact (pf.map _).nodup_iff.mpr (xhr (f:=fun s=>(toPr w G s).2) e fun _ _ z=>z)
 .rw [Za,pf.length_eq];have z:=xn4 ou fun x hx=>by
   obtain⟨s,hs,rfl⟩:=Zd.mp hx;exact g.ou2 s hs
  rw[Za,Za] at z;omega
 .rw [Zl];have e:((outs w G).map fun s=>(toPr w G s).1.nm)=((outs w G).map fun s=>s.2.2).map fun c=>ofL [c]:=by
   rw[Zl];refine ZX fun s hs=>?_;obtain⟨_,_,_,z,_,ez,et⟩:=xdr g hs;rw[et];show ofL [z.2.2]=ofL [s.2.2];rw[ez]
  refine (pf.map _).nodup_iff.mpr ?_;show ((outs w G).map fun s=>(toPr w G s).1.nm).Nodup;rw[e];exact Drw.nd_map (fun a b e=>xdu e) ou
theorem xqg {w:Int}{ps:List Pt}{ss:List Seat}{prs:List Pr} (h1:∀ p∈ps,isNm p.nm=true) (h2:∀ p∈prs,isNm p.1.nm=true):One (xdk w ps ss prs):=by
 have no:∀(c:Cl) (s:Str),(Drw.no:Cl->Option Str) c=some s->s.length=1:=fun _ _ e=>nomatch e;have nl:∀ s:Str,isNm s=true->s.length=1:=fun s h=>by
  unfold isNm at h;exact of_decide_eq_true (Zy _ _▸h).1
 have n1:=xbv (P:=fun s=>s.length=1) (L:=xbc w ss) no (fun x hx=>by
  obtain⟨z,_,rfl⟩:=Zd.mp hx;show (Zb ".").length=1;decide +kernel)
 have n2:=xbv (P:=fun s=>s.length=1) (L:=xa3 w prs) n1 (fun x hx=>by
  obtain⟨z,hz,rfl⟩:=Zd.mp hx;exact nl _ (h2 z hz))
 have n3:=xdf (P:=fun s=>s.length=1) (hs:=hsS) (by unfold hsS; decide +kernel) (L:=prs.flatMap (ledS w)) no (fun x hx=>by
  obtain⟨p,_,hx⟩:=Yv.mp hx;obtain⟨c,_,rfl⟩:=Zd.mp hx;show (lsS p.1.x p.2.2 c).length=1;unfold lsS Drw.ls;split
  .decide +kernel
  .split<;>decide +kernel)
 intro c s e;refine xbv (P:=fun s=>s.length=1) (L:=ptsS ps) (fun c s e=>?_) (fun x hx=>by
  obtain⟨z,hz,rfl⟩:=Zd.mp hx;exact nl _ (h1 z hz)) c s e
 cases e1:Drw.sets (Drw.sets Drw.no (xbc w ss)) (xa3 w prs) c with
 | some y =>
  rw[e1] at e;cases e;exact n2 c _ e1
 | none =>
  rw[e1,Option.none_or] at e;exact n3 c s e
def xqz (w:Nat) (G:List (List Nat)):Prop:=∀ es fs:List Sg,es.Perm (inns w G)->fs.Perm (outs w G)->∀ s∈sgs G,cd (xdk w (es.map (toPt G.length)) (srtS w G) (fs.map (toPr w G))) ((s.2.1:Int),1+(s.1:Int))=s.2.2
structure xjd (t:Adr) (H:Hp) (q b dp do_ lp:Addr) (ts:List Addr) (w:Nat) (G:List (List Nat)) (es fs:List Sg):Prop where
 pe:es.Perm (inns w G)
 le:es.Pairwise nmLt
 pf:fs.Perm (outs w G)
 lf:fs.Pairwise nmLt
 q:H q=some (.tup [.ref b,.ref lp])
 dr:Dr t H b dp do_ w G.length (es.map (toPt G.length)) (rimS w G) (srtS w G)
 lp:H lp=some (.lst (ts.map V.ref))
 pr:PrsL H (fs.map (toPr w G)) ts
def xtg (t:Adr):Sp:=fun vs H Q _=>∃(l:Addr) (w:Nat) (G:List (List Nat)),vs=[.ref l]/\H l=some (.lst (GV G))/\xdl w G/\xqz w G /\
 ∀(H':Hp) (q b dp do_ lp:Addr) (ts:List Addr) (es fs:List Sg),Same H H'->H q=none->H b=none->H lp=none->H dp=none->xjd t H' q b dp do_ lp ts w G es fs->Q (.ref q) H'
theorem PrsL.pick {H:Hp}:∀{ps:List Pr}{ys:List V},ys.length=ps.length->(∀(j:Nat) (y:V) (p:Pr),ys[j]?=some y->ps[j]?=some p->∃ q,y=.ref q/\H q=some (.tup (prV p)))->∃ rs:List Addr,ys=rs.map V.ref/\PrsL H ps rs
 | [],[],_,_=>⟨[],rfl,.nil⟩
 | [],_::_,h,_=>by cases h
 | _::_,[],h,_=>by cases h
 | s::ss,y::ys,h,k=>by
  obtain⟨q,e,hq⟩:=k 0 y s rfl rfl;obtain⟨rs,e2,r⟩:=PrsL.pick (ps:=ss) (ys:=ys) (by simpa using h) fun j y s h1 h2=>k (j+1) y s (by simpa using h1) (by simpa using h2)
  exact⟨q::rs,by rw[e,e2]; rfl,.cons hq r⟩
section
variable {P:Program}{w:World}{K:Ze}{mg:Str->Option Value}{base:Heap}{t:Adr}
theorem xia (T:Txt w K mg t):FnOk true P w K mg base (CXo P w) 9 t.f_seen t.d_seen ["rows"] (xtg t):=by
 refine T.F_seen.okn (k:=8) xcx (fun vs H Q E h=>?_) (fun cdv A outer s H vs Q E hr h=>?_)
 .obtain ⟨l,w',G,rfl,_⟩:=h;rfl
 .obtain ⟨l,w',G,rfl,h⟩:=h;refine⟨_,xj (xax (xr (ok_ar T) (hr.mono (by decide)) rfl T.g_ar T.F_ar.kp T.b_ar .nil xg (xa (pv 0) (xf))))
   (xj (x0 (i:=1) xcx.nd rfl (ZS rfl) (xen T.k_w (ok_am T) (hr.mono (by decide)) rfl T.g_w T.b_am .nil xg (xa (xu xcj (xab xb2 rfl T.n_len Yb (xa (xba xei (pv 0) (xo) (fun _ _=>rfl)) (xf))) (xo)) (xf))))
   (xj (xa9 ZM rfl (xav (xr (ok_aw T) (hr.mono (by decide)) rfl T.g_aw T.F_aw.kp T.b_aw .nil xg (xa (pv 0) (xf)))) (xar rfl (xp (xn (i:=2) xcx.nd rfl (Zo rfl)) (xp (xn (i:=3) xcx.nd rfl (Zo rfl)) (xp (xn (i:=4) xcx.nd rfl (Zo rfl)) (xag))))) (xk (xax (xaw (pv 1) T.c_w T.m_ag (ok_ag T) (hr.mono (by decide)) T.b_ag .nil xg (xa (pv 2) (xa (pv 3) (xa (pv 4) (xf))))))))
   (xj (xlx (xa9 ZM rfl (xgv (x4 (pv 1) rfl)) (xar rfl (xp (xn (i:=5) xcx.nd rfl (Zo rfl)) (xp (xn (i:=6) xcx.nd rfl (Zo rfl)) (xag)))) (xk (xap (xep (xd4 (xbh hr) (pv 5) (x4 (pv 1) rfl))) (xk (xaz)) (x8)))))
   (xj (x0 (i:=7) xcx.nd rfl (Zo rfl) (xr (ok_al T) (hr.mono (by decide)) rfl T.g_al T.F_al.kp T.b_al .nil xg (xa (pv 0) (xa (pv 1) (xf)))))
   (xj (xbm rfl (xay (zs:=["name"]) (ys:=["letters"]) (fr:=[1]) (N0:=["rows", "letters", "row", "column", "sign", "name", "place", "picture", "pairs"]) (sc0:=xm xhn) (by decide +kernel) rfl rfl rfl) (xav (xab (xe9 rfl) rfl T.n_sorted PyProof.Rows.Boot.«sorted» (xa (x4 (pv 1) rfl) (xf)))) (fun _ _ _ _ _ ow nd=>xn (i:=0) nd rfl (Zo (ow _ (by simp))) (ZS (ow _ (by simp)))) (xbu (by decide)) (fun _ _ _ _ _=>xa5) (fun _ _ _ _ _=>xu (r:=xms K) xll (xal (xa (pv 0) (xf))) (xr (ok_a4 T) (hr.mono (by decide)) rfl T.g_a4 T.F_a4.kp T.b_a4 .nil xg (xa (xel (xbh hr) ((x4 (pv 1) rfl:PE _ _ (tFld K _ _))) (pv 0) (fun _ _=>rfl)) (xf)))) (j:=8) rfl (Zo rfl))
   (xj (xax (xr (ok_af T) (hr.mono (by decide)) rfl T.g_af T.F_af.kp T.b_af .nil xg (xa (pv 0) (xa (xr (xdx T) (hr.mono (by decide)) rfl T.g_drawn T.F_drawn.kp T.b_drawn .nil xg (xa (pv 7) (xa (pv 8) (xf)))) (xf)))))
   (xk (xz (xal (xa (pv 7) (xa (pv 8) (xf)))))))))))),?_⟩
  obtain⟨hl,g,sees,q⟩:=h;have tx:=g.tx;have h1:=tx.h1;have h2:=tx.h2;have w1:=tx.w1;have w2:=tx.w2;have gl:=xff G;obtain⟨r0,hr0⟩:∃ r,G[0]?=some r:=⟨_,Zh h1⟩
  have l0:=tx.wd r0 (Zp hr0);refine⟨_,rfl,l,w'+2,G,rfl,hl,tx,fun H1 s1=>?_⟩;have hl1:=s1 _ _ hl;refine⟨_,rfl,l,_,0,.str (ofL r0),rfl,rfl,SqL.of hl1,?_,_,rfl,?_,_,_,rfl,rfl,fun a dx ha hdx ne=>?_⟩
  .show atI (GV G) ((0:Nat):Int)=_;exact xeg (xhm hr0)
  .rw [xb1,l0];exact ZB (by omega:_<=1000) (by decide)
  refine⟨a,dx,w'+1,?_,xb,fun H2 o i ho hi k2 lt2=>⟨rfl,?_⟩⟩
  .show [V.ref a,V.int (((ofL r0).length:Int)-1)]=[V.ref a,V.int ((w'+1:Nat):Int)]
   rw[xb1,l0,show ((w'+2:Nat):Int)-1=((w'+1:Nat):Int) by omega]
  have up:∀ b,upd (upd H1 dx (.own a)) a (.ins t.C_w dx []) b=none->H b=none:=fun b z=>by
   cases e:H b with
   | none=>rfl
   | some u =>
    have e1:=s1 _ _ e;rw[xh (xi e1 ha),xh (xi e1 hdx),e1] at z;cases z
  have fo:=up _ ho;have fi:=up _ hi;have s2:Same H H2:=fun b u e=>by
   have e1:=s1 _ _ e;exact k2 b u (xi e1 ha) (by rw[xh (xi e1 ha),xh (xi e1 hdx)]; exact e1)
  refine⟨_,rfl,l,w'+2,G,rfl,s2 _ _ hl,tx,fun H3 l3 qs s3 f3 e3 tl3=>⟨l3,rfl,⟨_,SqL.of e3⟩,?_⟩⟩;have qll:=tl3.1;have gll:(sgs G).length<=512:=by
   have e:=xex tx G.length (Zj _);have b512:G.length*(w'+2)<=16*32:=QG h2 w2;unfold sgs;omega
  have f3H:=s2.free f3;refine xbi (xs:=qs.map V.ref) (Pv:=fun k σ H5=>∃(v2 v3 v4:Option V),σ=[some (.ref l),some (.ref a),v2,v3,v4,none,none,none,none]/\Same H H5/\Let t H5 a o i (w'+1) (((sgs G).take k).filter (outP (w'+1))) (((sgs G).take k).filter (innP (w'+1)))/\H5 l3=some (.lst (qs.map V.ref))/\TL sgV H5 (sgs G) qs) ⟨_,_,_,rfl,s2.trans s3,lt2.same s3,e3,tl3⟩ ?_ ?_ ?_
  .rintro k σ H5 _ ⟨_,_,_,rfl,_,_,e5,_⟩;exact SqL.of e5
  .rintro k x σ H5 hx ⟨v2,v3,v4,rfl,s5,lt5,e5,tl5⟩;rw[Zf,Zi] at hx;obtain⟨qa,hqa,rfl⟩:=hx;obtain⟨s,hs,hq⟩:=tl5.get hqa;obtain⟨⟨dx5,ins5⟩,⟨ko,hko,_⟩,⟨ki,hki,_⟩,_⟩:=id lt5;refine⟨qa,_,rfl,SqT.of hq,rfl,_,_,rfl,_,_,rfl,_,_,rfl,rfl,?_⟩;have lf:∀ p:Sg->Bool,(((sgs G).take k).filter p).length<=600:=fun p=>by
    refine ZB (Q9 _ _) ?_;rw[Jt];omega
   refine⟨_,rfl,a,dx5,_,rfl,ins5,xga (by decide +kernel),_,rfl,_,rfl,_,rfl,a,o,i,w'+1,_,_,s,rfl,lt5,lf _,lf _,xsw g hs,fun H6 k6 lt6=>?_⟩;have tp:Tups H5 H6:=fun c xs e=>k6 _ _ (xae e hko (fun z=>nomatch z)) (xae e hki (fun z=>nomatch z)) e;refine⟨_,_,_,rfl,fun b u e=>k6 _ _ (xi e fo) (xi e fi) (s5 _ _ e),?_,k6 _ _ (xae e5 hko (fun z=>nomatch z)) (xae e5 hki (fun z=>nomatch z)) e5,tl5.keep tp⟩;rw[xik hs,xik hs];exact lt6
  rintro σ H5 ⟨v2,v3,v4,rfl,s5,lt5,_,_⟩;rw[Za,qll,Jz] at lt5;have lt5:Let t H5 a o i (w'+1) (outs w' G) (inns w' G):=lt5;obtain⟨⟨dx5,ins5⟩,⟨ko,hko,ldo⟩,⟨ki,hki,ldi⟩,noi⟩:=id lt5;refine⟨_,rfl,a,_,dx5,_,_,rfl,ins5,T.c_w,T.n_bb,ltO,o,ko,rfl,hko,fun ob nf=>?_⟩;refine xnn (Pv:=fun k σ H6=>∃(v5 v6:Option V),σ=[some (.ref l),some (.ref a),v2,v3,v4,v5,v6,none,none]/\H6 o=some (.frz ob (.dK ko))/\∀ b u,b≠o->H5 b=some u->H6 b=some u) ⟨_,_,rfl,xb,fun b u nb e=>by rw[xh nb]; exact e⟩ ?_ ?_ ?_
  .rintro k σ H6 _ ⟨_,_,rfl,e6,_⟩;exact e6
  .rintro n k x p σ H6 hx hp ⟨v5,v6,rfl,e6,k6⟩;obtain⟨s,qa,hs,rfl,rfl,hqa⟩:=ldo.get hx;have k7:∀ b u,b≠o->H5 b=some u->upd H6 p (.tup [kV (.inr (ofL [s.2.2])),.ref qa]) b=some u:=fun b u nb e=>by
    have e':=k6 _ _ nb e;rw[xh (xi e' hp)];exact e'
   have e7:upd H6 p (.tup [kV (.inr (ofL [s.2.2])),.ref qa]) o=some (.frz ob (.dK ko)):=by
    rw[xh (xi e6 hp)];exact e6
   refine⟨p,_,rfl,SqT.of xb,rfl,_,_,rfl,_,_,rfl,rfl,?_⟩;refine⟨_,rfl,_,rfl,a,_,dx5,_,_,rfl,k7 _ _ (xae ins5 hko (fun z=>nomatch z)) ins5,T.c_w,T.n_a9,ltI,i,_,rfl,DGet.k (k:=.inr (ofL [s.2.2])) (k7 _ _ (ZE noi) hki),_,rfl,ifN ?_ ⟨_,_,rfl,e7,k7⟩⟩;rw[ldi.is,decide_eq_true (g.ou2 s (Zp hs))];rfl
  rintro σ H6 ⟨v5,v6,rfl,e6,k6⟩;refine⟨o,ob,.dK ko,e6,nf,?_⟩;have s7:Same H5 (upd H6 o (.dK ko)):=fun b u e=>by
   by_cases z:b=o
   .subst z;rw[xb,<- e,hko]
   .rw [xh z];exact k6 _ _ z e
  revert s7;generalize upd H6 o (.dK ko)=H7;intro s7;clear e6 k6;have s07:=s5.trans s7;have lt7:=lt5.same s7;refine⟨_,rfl,_,rfl,l,a,o,i,w',G,rfl,s07 _ _ hl,lt7,g,fun H8 b dp do_ es s8 fb fdp pe le pic8 st8=>?_⟩;have s08:=s07.trans s8;have lt8:=lt7.same s8;obtain⟨⟨dx8,ins8⟩,⟨ko8,hko8,ldo8⟩,_⟩:=id lt8;have pok:=xe8 g pe;have dr8:Dr t H8 b dp do_ w' G.length (es.map (toPt G.length)) (rimS w' G) (srtS w' G):=⟨pic8,st8,xhs g,xeo w' G,xts w' G,fun p hp=>(pok.ok p hp).nm⟩
  have ol:(outs w' G).length<=12:=by
   have z:=(xjc g pe (.refl _)).len;rw[Za] at z;exact z
  refine⟨_,rfl,a,_,dx8,_,_,rfl,ins8,T.c_w,T.n_bb,ltO,o,(outs w' G).map (fun s=>ofL [s.2.2]),rfl,.inr ⟨ko8,hko8,ldo8.keys⟩,(by rw[Za]; omega),fun ls ns hls pm srt=>?_⟩;obtain⟨fs,pf,rfl⟩:=xfh pm rfl;have ndf:=(pf.map fun s=>s.2.2).nodup_iff.mpr g.ou1;have lf:=xg2 srt ndf;have fl:=pf.length_eq;have s9:Same H8 (upd H8 ls (.lst ((fs.map fun s=>ofL [s.2.2]).map V.str))):=xq (Same.refl _) hls;have g9:upd H8 ls (.lst ((fs.map fun s=>ofL [s.2.2]).map V.str)) ls=some (.lst ((fs.map fun s=>ofL [s.2.2]).map V.str)):=xb;revert s9 g9;generalize upd H8 ls (.lst ((fs.map fun s=>ofL [s.2.2]).map V.str))=H9;intro s9 g9;refine⟨ls,rfl,⟨_,SqL.of g9⟩,fun l10 hl10=>?_⟩;refine xct (SqL.of g9) (by rw[Za,Za]; exact ZA (by omega:_<=1000) (by decide)) hl10 (fun j y H5=>∃ q s,y=.ref q/\fs[j]?=some s/\H5 q=some (.tup (prV (toPr w' G s)))) (fun j y H5 H6 tp ⟨q,s,e1,e2,e3⟩=>⟨q,s,e1,e2,tp _ _ e3⟩) (fun j x H10 hx s10 N hN=>?_) (fun ys H10 s10 e10 ly fy=>?_)
  .rw [Zf,Zf] at hx;obtain⟨x2,hx2,rfl⟩:=Zi.mp hx;obtain⟨s,hs,rfl⟩:=Zi.mp hx2;have ms:=pf.mem_iff.mp (Zp hs);obtain⟨qa,hv,hq⟩:=(ldo8.keep (Same.tups (s9.trans s10))).at_ ms g.ou1;have ins10:=(s9.trans s10) _ _ ins8;have hko10:=(s9.trans s10) _ _ hko8;refine⟨_,rfl,(by show 1<=sizeLine; decide),fun p1 hp1=>?_⟩;have s11:Same H10 (upd H10 p1 (.tup [.str (ofL [s.2.2])])):=xq (Same.refl _) hp1;have g11:upd H10 p1 (.tup [.str (ofL [s.2.2])]) p1=some (.tup [.str (ofL [s.2.2])]):=xb;revert s11 g11;generalize upd H10 p1 (.tup [.str (ofL [s.2.2])])=H11;intro s11 g11;have dg:=DGet.k (k:=.inr (ofL [s.2.2])) (s11 _ _ hko10);rw[hv] at dg;refine⟨_,rfl,a,_,dx8,_,_,rfl,s11 _ _ ins10,T.c_w,T.n_bb,ltO,_,rfl,o,_,rfl,dg,qa,s.1,s.2.1,rfl,s11 _ _ hq,fun H12 q12 s12 f12 e12=>?_⟩;refine⟨p1,q12,_,_,rfl,rfl,SqT.of (s12 _ _ g11),SqT.of e12,(by simp),(by show 1+2<=sizeLine; decide),(fun z=>nomatch z),fun _ p2 hp2=>hN _ _ (fun b u e=>xq (Same.refl _) hp2 _ _ (s12 _ _ (s11 _ _ e))) ⟨p2,s,rfl,hs,?_⟩⟩;obtain⟨_,_,_,z,_,ez,et⟩:=xdr g ms;rw[xb,et];show some (HO.tup ([V.str (ofL [s.2.2])]++xch (xaj s)))=some (HO.tup (.str (ofL [z.2.2])::xch (xaj s)));rw[ez];rfl
  rw[Za,Za] at ly;obtain⟨ts,rfl,prl⟩:=PrsL.pick (H:=H10) (ps:=fs.map (toPr w' G)) (ys:=ys) (by rw[ly,Za]) (fun j y p hy hp=>by
   obtain⟨q,s,e1,e2,e3⟩:=fy j y hy;rw[Zf,e2] at hp;cases hp;exact⟨q,e1,e3⟩)
  have s810:=s9.trans s10;have dr10:=dr8.same s810;have pal:=xjc g pe pf;refine⟨_,rfl,_,rfl,_,rfl,b,l10,dp,do_,w',G.length,es.map (toPt G.length),rimS w' G,srtS w' G,fs.map (toPr w' G),ts,rfl,dr10,e10,prl,pal.ok,pal.len,fun H11 ld s11 fld e11=>?_⟩;refine⟨l,ld,w',G,_,rfl,s11 _ _ (s810 _ _ (s08 _ _ hl)),tx,e11,xqg (fun p hp=>(pok.ok p hp).nm) (fun p hp=>(pal.ok p hp).nm),sees es fs pe pf,fun H12 s12=>?_⟩;refine⟨_,rfl,_,rfl,(by show 2<=sizeLine; decide),fun qt hqt=>?_⟩;have s812:=(s810.trans s11).trans s12;have s012:=s08.trans s812;have s13:Same H12 (upd H12 qt (.tup [.ref b,.ref l10])):=xq (Same.refl _) hqt;have g13:upd H12 qt (.tup [.ref b,.ref l10]) qt=some (.tup [.ref b,.ref l10]):=xb;revert s13 g13;generalize upd H12 qt (.tup [.ref b,.ref l10])=H13;intro s13 g13;have s1013:=(s11.trans s12).trans s13;exact q H13 qt b dp do_ l10 ts es fs (s012.trans s13) (s012.free hqt) (s07.free fb) (s08.free (s9.free hl10)) (s07.free fdp) ⟨pe,le,pf,lf,g13,dr10.same s1013,s1013 _ _ e10,prl.keep (Same.tups s1013)⟩
end
def xah (s:Str):Nat:=s.cps.toList.headD 32
theorem xp6 {s:Str} (h:s.length=1):s=ofL [xah s]:=by
 apply xet;unfold xah;rw[xa4];have l2:s.cps.toList.length=1:=by simpa [Y5] using h
 cases e:s.cps.toList with
 | nil=>rw[e] at l2; cases l2
 | cons x r =>
  rw[e] at l2;have:r=[]:=by simpa using l2
  rw[this];rfl
theorem xb3 {s:Str} (h:isNm s=true):s=ofL [xah s]/\nmC (xah s)=true:=by
 have l:s.length=1:=by
  have h2:=h;unfold isNm at h2;exact of_decide_eq_true (Zy _ _▸h2).1
 have e:=xp6 l;refine⟨e,?_⟩;rw[<- xhf,<- e];exact h
theorem xjy (c:Nat):xah (ofL [c])=c:=by
 unfold xah;rw[xa4];rfl
theorem xev {s t:Str} (hs:isNm s=true) (ht:isNm t=true) (e:xah s=xah t):s=t:=by
 rw[(xb3 hs).1,(xb3 ht).1,e]
theorem xin {P:Str->Prop}{w:Int}{ps:List Pt}{ss:List Seat}{prs:List Pr} (k:P (Zb "#")/\P (Zb ".")/\P (Zb "|")/\P (Zb "+")/\P (Zb "-")) (kn:∀ s,isNm s=true->P s) (h1:∀ p∈ps,isNm p.nm=true) (h2:∀ p∈prs,isNm p.1.nm=true):∀ c s,xam w ps ss prs c=some s->P s:=by
 have no:∀(c:Cl) (s:Str),(Drw.no:Cl->Option Str) c=some s->P s:=fun _ _ e=>nomatch e;have n3:=xdf (P:=P) (hs:=hsS) k.1 (L:=prs.flatMap (xb5 w)) no (fun x hx=>by
  obtain⟨p,_,hx⟩:=Yv.mp hx;unfold xb5 Drw.ledL at hx;rcases Z8.mp hx with hx|hx
  .rcases Z8.mp hx with hx|hx
   .obtain ⟨c,_,rfl⟩:=Zd.mp hx;exact k.2.2.1
   .split at hx
    .rw [Zw.mp hx];exact k.2.2.2.1
    .exact nomatch hx
  .obtain ⟨c,_,rfl⟩:=Zd.mp hx;exact k.2.2.2.2)
 have n4:=xbv (P:=P) (L:=ptsS ps) n3 (fun x hx=>by
  obtain⟨z,hz,rfl⟩:=Zd.mp hx;exact kn _ (h1 z hz))
 have n5:=xbv (P:=P) (L:=xbc w ss) n4 (fun x hx=>by
  obtain⟨z,_,rfl⟩:=Zd.mp hx;exact k.2.1)
 exact xbv (P:=P) (L:=xa3 w prs) n5 (fun x hx=>by
  obtain⟨z,hz,rfl⟩:=Zd.mp hx;exact kn _ (h2 z hz))
structure Pict (w h:Nat) (ps:List Pt) (ss:List Seat) (prs:List Pr):Prop where
 w1:1<=w
 w2:w<=30
 h1:1<=h
 h2:h<=16
 pok:xbk (w:Int) (h:Int) ps
 sok:SsOk (h:Int) ss
 pal:xfi (w:Int) (h:Int) ps prs
section
variable {w h:Nat}{ps:List Pt}{ss:List Seat}{prs:List Pr}
theorem Pict.nms (o:Pict w h ps ss prs):∀ p∈ps,isNm p.nm=true:=fun p hp=>(o.pok.ok p hp).nm
theorem Pict.nmr (o:Pict w h ps ss prs):∀ p∈prs,isNm p.1.nm=true:=fun p hp=>(o.pal.ok p hp).nm
theorem Pict.one (o:Pict w h ps ss prs):One (xam w ps ss prs):=xin (P:=fun s=>s.length=1) (by decide +kernel) (fun s hs=>by
    unfold isNm at hs;exact of_decide_eq_true (Zy _ _▸hs).1) o.nms o.nmr
theorem xo1 {c:Nat} (h:nmC c=true):97<=c/\c<=122:=by
 unfold nmC at h;simpa using h
theorem Pict.asc (o:Pict w h ps ss prs) (c:Cl):cd (xam w ps ss prs) c<128:=by
 have kn:∀ s,isNm s=true->xah s<128:=fun s hs=>by
  have:=xo1 (xb3 hs).2;omega
 have all:=xin (P:=fun s=>xah s<128) (w:=w) (ss:=ss) (by decide +kernel) kn o.nms o.nmr;unfold cd;cases e:xam w ps ss prs c with
 | none =>
  show 32<128;decide
 | some s=>exact all c s e
theorem xpl (w1:1<=w) (nd:(prs.map (·.2)).Nodup):((xa3 w prs).map (·.1)).Nodup:=by
 unfold xa3;rw[Zl];rw[JE,Z3] at nd ⊢;exact nd.imp fun ne e=>ne (xb0 w1 e)
theorem xsj (w1:1<=w) (nd:ss.Nodup):((xbc w ss).map (·.1)).Nodup:=by
 unfold xbc;rw[Zl];exact Drw.nd_map (fun a b e=>xb0 w1 e) nd
theorem xs5 (nx:(ps.map (·.x)).Nodup):((ptsS ps).map (·.1)).Nodup:=by
 unfold ptsS;rw[Zl];rw[JE,Z3] at nx ⊢;exact nx.imp fun ne e=>ne (ZR.inj e).1
theorem xgx {c:Cl} (n:∀ p∈prs,rimC w p.2≠c):c∉(xa3 w prs).map (·.1):=fun z=>by
 unfold xa3 at z;rw[Zl] at z;obtain⟨p,hp,e⟩:=Zd.mp z;exact n p hp e
theorem xld {c:Cl} (n:∀ s∈ss,rimC w s≠c):c∉(xbc w ss).map (·.1):=fun z=>by
 unfold xbc at z;rw[Zl] at z;obtain⟨p,hp,e⟩:=Zd.mp z;exact n p hp e
theorem xt2 {c:Cl} (n:∀ p∈ps,(p.x,p.y)≠c):c∉(ptsS ps).map (·.1):=fun z=>by
 unfold ptsS at z;rw[Zl] at z;obtain⟨p,hp,e⟩:=Zd.mp z;exact n p hp e
theorem Pict.name (o:Pict w h ps ss prs) {p:Pr} (hp:p∈prs):xam w ps ss prs (rimC w p.2)=some p.1.nm:=Drw.sets_one (xpl o.w1 o.pal.nd) (Zd.mpr ⟨p,hp,rfl⟩)
theorem Pict.dot (o:Pict w h ps ss prs) {s:Seat} (hs:s∈ss) (no:∀ p∈prs,p.2≠s):xam w ps ss prs (rimC w s)=some (Zb "."):=by
 unfold xam Drw.drawL;rw[Drw.sets_no (xgx fun p hp e=>no p hp (xb0 o.w1 e))];exact Drw.sets_one (xsj o.w1 o.sok.1) (Zd.mpr ⟨s,hs,rfl⟩)
theorem xcv (w:Nat) (s:Seat) {x:Int} (h1:1<=x) (h2:x<=w) (y:Int):rimC w s≠(x,y):=fun e=>by
 have:=xde w s;rw[e] at this
 dsimp only at this
 omega
theorem Pict.pt (o:Pict w h ps ss prs) {p:Pt} (hp:p∈ps):xam w ps ss prs (p.x,p.y)=some p.nm:=by
 have k:=o.pok.ok p hp;unfold xam Drw.drawL;rw[Drw.sets_no (xgx fun q _=>xcv w q.2 k.x1 k.x2 _),Drw.sets_no (xld fun s _=>xcv w s k.x1 k.x2 _)];exact Drw.sets_one (xs5 o.pok.nx) (Zd.mpr ⟨p,hp,rfl⟩)
theorem xd3 {c:Cl} (n1:∀ p∈prs,rimC w p.2≠c) (n2:∀ s∈ss,rimC w s≠c) (n3:∀ p∈ps,(p.x,p.y)≠c):xam w ps ss prs c=Drw.marks hsS Drw.no (prs.flatMap (xb5 w)) c:=by
 unfold xam Drw.drawL;rw[Drw.sets_no (xgx n1),Drw.sets_no (xld n2),Drw.sets_no (xt2 n3)]
theorem xpp {p:Pr} (x1:1<=p.1.x) (x2:p.1.x<=w) {c:Cl} (h:c∈(xb5 w p).map (·.1)):1<=c.1/\c.1<=w:=by
 unfold xb5 at h;rw[Drw.ledL_keys] at h;have rb:Drw.rim w p.2.1=0\/Drw.rim w p.2.1=(w:Int)+1:=by
  unfold Drw.rim;split
  .exact .inl rfl
  .exact .inr rfl
 rcases Z8.mp h with h|h
 .rcases Z8.mp h with h|h
  .obtain ⟨a,_,rfl⟩:=Zd.mp h;exact⟨x1,x2⟩
  .split at h
   .rw [Zw.mp h];exact⟨x1,x2⟩
   .exact nomatch h
 .obtain ⟨a,ha,rfl⟩:=Zd.mp h;rw[Drw.mem_rg] at ha;exact⟨by dsimp only; omega,by dsimp only; omega⟩
theorem Pict.off (o:Pict w h ps ss prs) {c:Cl} (hc:c.1=0\/c.1=(w:Int)+1) (n1:∀ p∈prs,rimC w p.2≠c) (n2:∀ s∈ss,rimC w s≠c):xam w ps ss prs c=none:=by
 rw[xd3 n1 n2 (fun p hp e=>by
  have k:=o.pok.ok p hp;have e1:p.x=c.1:=by rw[<- e]
  have k1:=k.x1;have k2:=k.x2;omega),Drw.marks_at,Drw.at_no]
 .rfl
 .intro z
  obtain⟨x,hx,rfl⟩:=Zd.mp z;obtain⟨p,hp,hx⟩:=Yv.mp hx;have k:=(o.pal.ok p hp).xy;have:=xpp k.1 k.2.1 (Zd.mpr ⟨x,hx,rfl⟩);omega
theorem xmf (c:Cl):Drw.marks hsS Drw.no (prs.flatMap (xb5 w)) c=none\/∃ s,Drw.marks hsS Drw.no (prs.flatMap (xb5 w)) c=some s/\xah s∈([32,124,45,43,35]:List Nat):=by
 have no:∀(c:Cl) (s:Str),(Drw.no:Cl->Option Str) c=some s->xah s∈([32,124,45,43,35]:List Nat):=fun _ _ e=>nomatch e;cases e:Drw.marks hsS Drw.no (prs.flatMap (xb5 w)) c with
 | none=>exact .inl rfl
 | some s =>
  refine .inr ⟨s,rfl,xdf (P:=fun s=>xah s∈([32,124,45,43,35]:List Nat)) (hs:=hsS) (by unfold hsS; decide +kernel) (L:=prs.flatMap (xb5 w)) no (fun x hx=>?_) c s e⟩;obtain⟨p,_,hx⟩:=Yv.mp hx;unfold xb5 Drw.ledL at hx;rcases Z8.mp hx with hx|hx
  .rcases Z8.mp hx with hx|hx
   .obtain ⟨c,_,rfl⟩:=Zd.mp hx;show xah (Zb "|")∈_;decide +kernel
   .split at hx
    .rw [Zw.mp hx];show xah (Zb "+")∈_;decide +kernel
    .exact nomatch hx
  .obtain ⟨c,_,rfl⟩:=Zd.mp hx;show xah (Zb "-")∈_;decide +kernel
theorem xcu {m:Cl->Option Str}{c:Cl}{s:Str} (h:m c=some s):cd m c=xah s:=by
 unfold cd xah;rw[h]
theorem xlv {m:Cl->Option Str}{c:Cl} (h:m c=none):cd m c=32:=by
 unfold cd;rw[h]
theorem Pict.inner (o:Pict w h ps ss prs) {c:Cl} (c1:1<=c.1) (c2:c.1<=w) (n3:∀ p∈ps,(p.x,p.y)≠c):cd (xam w ps ss prs) c∈([32,124,45,43,35]:List Nat):=by
 have e:=xd3 (w:=w) (ss:=ss) (prs:=prs) (fun p _=>xcv w p.2 c1 c2 c.2) (fun s _=>xcv w s c1 c2 c.2) n3;rcases xmf (w:=w) (prs:=prs) c with z|⟨s,z,k⟩
 .rw [z] at e;rw[xlv e];decide
 .rw [z] at e;rw[xcu e];exact k
abbrev xw (w h:Nat) (ps:List Pt) (ss:List Seat) (prs:List Pr):List (List Nat):=xcf w h (xam w ps ss prs)
theorem xb7 (w h:Nat) (m:Cl->Option Str):(xcf w h m).length=h:=by
 unfold xcf;rw[Za,Zv]
theorem Pict.tx (o:Pict w h ps ss prs):Txs (w+2) (xw w h ps ss prs):=by
 have h1:=o.h1;have h2:=o.h2;have w1:=o.w1;have w2:=o.w2;refine⟨by rw[xb7]; exact h1,by rw[xb7]; exact h2,fun r hr=>?_,fun r hr c hc=>?_,by omega,by omega⟩
 .obtain ⟨i,_,rfl⟩:=Zd.mp hr;unfold rowC;rw[Za,Zv]
 .obtain ⟨i,_,rfl⟩:=Zd.mp hr;obtain⟨j,_,rfl⟩:=Zd.mp hc;exact o.asc _
theorem xc9 {m:Cl->Option Str}{s:Sg}:s∈sgs (xcf w h m)↔s.1<h/\s.2.1<w+2/\s.2.2=cd m ((s.2.1:Int),1+(s.1:Int)):=by
 unfold sgs;rw[xf5,xb7];have e:s.1<h->(xcf w h m).getD s.1 []=rowC w (1+(s.1:Int)) m:=fun hs=>by
  unfold xcf;rw[Jq,Zf,Ju hs];rfl
 have l:∀ r,(rowC w r m).length=w+2:=fun r=>by
  unfold rowC;rw[Za,Zv]
 have v:∀ r (j:Nat),j<w+2->(rowC w r m).getD j 0=cd m ((j:Int),r):=fun r j hj=>by
  unfold rowC;rw[Jq,Zf,Ju hj];rfl
 constructor
 .rintro ⟨a,b,c⟩;rw[e a,l] at b;rw[e a,v _ _ b] at c;exact⟨a,b,c⟩
 .rintro ⟨a,b,c⟩;rw[e a,l];exact⟨a,b,by rw[v _ _ b]; exact c⟩
def xce (p:Pt):Sg:=((p.y-1).toNat,p.x.toNat,xah p.nm)
def xb9 (w:Nat) (p:Pr):Sg:=((p.2.2-1).toNat,(Drw.rim w p.2.1).toNat,xah p.1.nm)
theorem xo0 (G:List (List Nat)) (p:Sg->Bool):((sgs G).filter p).Nodup:=by
 have z:=(xge G G.length).filter p;exact z.imp fun ne e=>ne (by rw[e]; exact⟨rfl,rfl⟩)
theorem xka {lc j:Nat} (h:¬ rimB lc j=true):j≠0/\j≠lc:=by
 unfold rimB at h;simpa using h
theorem xpv {c:Nat} (h:c∈([32,124,45,43,35]:List Nat)):nmC c=false:=by
 have h:c=32\/c=124\/c=45\/c=43\/c=35:=by simpa using h
 rcases h with rfl|rfl|rfl|rfl|rfl<;>rfl
theorem Pict.at_in (o:Pict w h ps ss prs) {s:Sg} (hs:s∈sgs (xw w h ps ss prs)) (nr:¬ rimB (w+1) s.2.1=true):(∃ p∈ps,xce p=s)\/s.2.2∈([32,124,45,43,35]:List Nat):=by
 obtain⟨g1,g2,g3⟩:=xc9.mp hs;have nr:=xka nr;by_cases e:∃ p∈ps,(p.x,p.y)=((s.2.1:Int),1+(s.1:Int))
 .obtain ⟨p,hp,ep⟩:=e;refine .inl ⟨p,hp,?_⟩;have v:=xcu (o.pt hp);rw[ep,<- g3] at v;have e1:=(ZR.inj ep).1;have e2:=(ZR.inj ep).2;obtain⟨a,b,c⟩:=s
  dsimp only at v e1 e2
  unfold xce;rw[e1,e2,v,show (1+(a:Int)-1).toNat=a by omega,YD]
 .refine .inr ?_;rw[g3];exact o.inner (by dsimp only; omega) (by dsimp only; omega) fun p hp z=>e ⟨p,hp,z⟩
theorem Pict.of_in (o:Pict w h ps ss prs) {p:Pt} (hp:p∈ps):xce p∈inns w (xw w h ps ss prs):=by
 have k:=o.pok.ok p hp;have k1:=k.x1;have k2:=k.x2;have k3:=k.y1;have k4:=k.y2;have v:=xcu (o.pt hp);unfold inns;rw[ZH];have ex:((xce p).2.1:Int)=p.x:=by show (p.x.toNat:Int)=p.x; omega
 have ey:1+((xce p).1:Int)=p.y:=by show 1+((p.y-1).toNat:Int)=p.y; omega
 refine⟨xc9.mpr ⟨by omega,by omega,by rw[ex,ey]; exact v.symm⟩,?_⟩;have n:=(xb3 k.nm).2;have nr:rimB (w+1) (xce p).2.1=false:=by
  unfold rimB;rw[decide_eq_false (by omega),decide_eq_false (by omega)];rfl
 unfold innP;rw[nr,show (xce p).2.2=xah p.nm from rfl,n];rfl
theorem xn6 (pok:xbk (w:Int) (h:Int) ps):(ps.map xce).Pairwise InNe:=by
 rw[Z3];have n1:=pok.nn;have n2:=pok.nx;have n3:=pok.ny;rw[JE,Z3] at n1 n2 n3;refine JN.imp_of_mem ?_ ((n1.and n2).and n3);intro a b ha hb ⟨⟨z1,z2⟩,z3⟩;have ka:=pok.ok a ha;have kb:=pok.ok b hb;have a1:=ka.x1;have a2:=ka.y1;have b1:=kb.x1;have b2:=kb.y1;refine⟨fun e=>z1 (xev ka.nm kb.nm e),fun e=>z3 ?_,fun e=>z2 ?_⟩
 .have e:(a.y-1).toNat=(b.y-1).toNat:=e;omega
 .have e:a.x.toNat=b.x.toNat:=e;omega
theorem Pict.inn_pm (o:Pict w h ps ss prs):(inns w (xw w h ps ss prs)).Perm (ps.map xce):=by
 refine (Yp (xo0 _ _) ?_).mpr fun s=>⟨fun hs=>?_,fun hs=>?_⟩
 .exact (xn6 o.pok).imp fun z e=>z.1 (by rw[e])
 .obtain ⟨h1,h2⟩:=ZH.mp hs;unfold innP at h2;obtain⟨h3,h4⟩:=Zy _ _▸h2;rcases o.at_in h1 (by simpa using h3) with⟨p,hp,e⟩|z
  .exact Zd.mpr ⟨p,hp,e⟩
  .rw [xpv z] at h4;cases h4
 .obtain ⟨p,hp,rfl⟩:=Zd.mp hs;exact o.of_in hp
theorem Pict.at_rim (o:Pict w h ps ss prs) {s:Sg} (hs:s∈sgs (xw w h ps ss prs)) (r:rimB (w+1) s.2.1=true):rimC w (xaj s)=((s.2.1:Int),1+(s.1:Int))/\((∃ p∈prs,xb9 w p=s/\p.2=xaj s)\/((∀ p∈prs,p.2≠xaj s)/\xaj s∈ss/\s.2.2=46)\/((∀ p∈prs,p.2≠xaj s)/\xaj s∉ss/\s.2.2=32)):=by
 obtain⟨g1,g2,g3⟩:=xc9.mp hs;have w1:=o.w1;have rc:rimC w (xaj s)=((s.2.1:Int),1+(s.1:Int)):=by
  unfold rimC xaj xfl Drw.rim;rcases xer r with z|z
  .rw [z,decide_eq_true rfl,if_pos rfl];exact Yc rfl (by dsimp only; omega)
  .rw [z,decide_eq_false (by omega),if_neg (by simp)];exact Yc (by dsimp only; omega) (by dsimp only; omega)
 refine⟨rc,?_⟩;by_cases e:∃ p∈prs,p.2=xaj s
 .obtain ⟨p,hp,ep⟩:=e;refine .inl ⟨p,hp,?_,ep⟩;have v:=xcu (o.name hp);rw[ep,rc,<- g3] at v;have e1:Drw.rim w p.2.1=(s.2.1:Int):=by
   rw[ep];exact congrArg Prod.fst rc
  have e2:p.2.2=(s.1:Int)+1:=by rw[ep]; rfl
  obtain⟨a,b,c⟩:=s
  dsimp only at v e1 e2
  unfold xb9;rw[e1,e2,<- v,show ((a:Int)+1-1).toNat=a by omega,YD]
 .have n1:∀ p∈prs,p.2≠xaj s:=fun p hp z=>e ⟨p,hp,z⟩;by_cases d:xaj s∈ss
  .refine .inr (.inl ⟨n1,d,?_⟩);have v:=xcu (o.dot d n1);rw[rc,<- g3] at v;rw[v];decide +kernel
  .refine .inr (.inr ⟨n1,d,?_⟩);have v:=xlv (o.off (c:=rimC w (xaj s)) (xde w _) (fun p hp z=>n1 p hp (xb0 w1 z)) (fun z hz y=>d (xb0 w1 y▸hz)));rw[rc,<- g3] at v;exact v
theorem xj4 (w1:1<=w) {p:Pr} (r1:1<=p.2.2):xaj (xb9 w p)=p.2:=by
 obtain⟨pt,b,r⟩:=p;unfold xaj xb9 xfl Drw.rim
 dsimp only at r1 ⊢
 refine Yc ?_ (by dsimp only; omega);cases b
 .dsimp only
  rw[if_neg (by decide)];exact decide_eq_false (by omega)
 .rfl
theorem Pict.of_out (o:Pict w h ps ss prs) {p:Pr} (hp:p∈prs):xb9 w p∈outs w (xw w h ps ss prs):=by
 have k:=o.pal.ok p hp;have k1:=k.r1;have k2:=k.r2;have w1:=o.w1;have v:=xcu (o.name hp);have rb:Drw.rim w p.2.1=0\/Drw.rim w p.2.1=(w:Int)+1:=xde w p.2;unfold outs;rw[ZH];have ex:((xb9 w p).2.1:Int)=Drw.rim w p.2.1:=by show ((Drw.rim w p.2.1).toNat:Int)=_; omega
 have ey:1+((xb9 w p).1:Int)=p.2.2:=by show 1+((p.2.2-1).toNat:Int)=p.2.2; omega
 refine⟨xc9.mpr ⟨by omega,by omega,by rw[ex,ey]; exact v.symm⟩,?_⟩;have n:=(xb3 k.nm).2;have nr:rimB (w+1) (xb9 w p).2.1=true:=by
  unfold rimB;rcases rb with z|z
  .rw [decide_eq_true (show (xb9 w p).2.1=0 by omega)];rfl
  .rw [decide_eq_true (show (xb9 w p).2.1=w+1 by omega),Ys]
 unfold outP;rw[nr,show (xb9 w p).2.2=xah p.1.nm from rfl,n];rfl
theorem Pict.out_pm (o:Pict w h ps ss prs):(outs w (xw w h ps ss prs)).Perm (prs.map (xb9 w)):=by
 refine (Yp (xo0 _ _) ?_).mpr fun s=>⟨fun hs=>?_,fun hs=>?_⟩
 .have nd:=o.pal.nn;rw[JE,Z3] at nd;rw[JE,Z3];refine JN.imp_of_mem ?_ nd;intro a b ha hb z e;exact z (xev (o.nmr a ha) (o.nmr b hb) (congrArg (fun s:Sg=>s.2.2) e))
 .obtain ⟨h1,h2⟩:=ZH.mp hs;unfold outP at h2;obtain⟨h3,h4⟩:=Zy _ _▸h2;rcases (o.at_rim h1 h3).2 with⟨p,hp,e,_⟩|⟨_,_,z⟩|⟨_,_,z⟩
  .exact Zd.mpr ⟨p,hp,e⟩
  .rw [z] at h4;cases h4
  .rw [z] at h4;cases h4
 .obtain ⟨p,hp,rfl⟩:=Zd.mp hs;exact o.of_out hp
theorem PrOk.mem {w h:Int}{p:Pr} (k:PrOk ps w h p):p.1∈ps:=Yx k.fd
theorem Pict.good (o:Pict w h ps ss prs):xdl w (xw w h ps ss prs):=by
 refine⟨o.tx,fun s hs n=>?_,?_,?_,?_,fun s hs=>?_⟩
 .by_cases r:rimB (w+1) s.2.1=true
  .rw [if_pos r];rcases (o.at_rim hs r).2 with⟨p,hp,e,_⟩|⟨_,_,z⟩|⟨_,_,z⟩
   .rw [<- e] at n;have:=(xb3 (o.nmr p hp)).2;rw[show (xb9 w p).2.2=xah p.1.nm from rfl,this] at n;cases n
   .exact .inr z
   .exact .inl z
  .rw [if_neg r];rcases o.at_in hs r with⟨p,hp,e⟩|z
   .rw [<- e] at n;have:=(xb3 (o.nms p hp)).2;rw[show (xce p).2.2=xah p.nm from rfl,this] at n;cases n
   .exact z
 .exact (QO.pairwise_iff (fun {x y} z=>⟨ZE z.1,ZE z.2.1,ZE z.2.2⟩) o.inn_pm).mpr (xn6 o.pok)
 .rw [o.inn_pm.length_eq,Za];exact o.pok.le
 .refine (o.out_pm.map _).nodup_iff.mpr ?_;rw[Zl];have nd:=o.pal.nn;rw[JE,Z3] at nd ⊢;refine JN.imp_of_mem ?_ nd;intro a b ha hb z e;exact z (xev (o.nmr a ha) (o.nmr b hb) e)
 .obtain ⟨p,hp,rfl⟩:=Zd.mp (o.out_pm.mem_iff.mp hs);exact Zd.mpr ⟨xce p.1,o.of_in (o.pal.ok p hp).mem,rfl⟩
end
def fr (h:Nat) (p:Pt):Pt:=⟨p.nm,p.x,p.y, "both",1,(h:Int)⟩
section
variable {w h:Nat}{ps:List Pt}{ss:List Seat}{prs:List Pr}
theorem xjr (pok:xbk (w:Int) (h:Int) ps) {p:Pt} (hp:p∈ps):toPt h (xce p)=fr h p:=by
 have k:=pok.ok p hp;have k1:=k.x1;have k3:=k.y1;unfold toPt xce fr
 dsimp only
 rw[<- (xb3 k.nm).1,show (p.x.toNat:Int)=p.x by omega,show ((p.y-1).toNat:Int)+1=p.y by omega]
theorem Pict.ens (o:Pict w h ps ss prs) {es:List Sg} (pe:es.Perm (inns w (xw w h ps ss prs))):(es.map (toPt h)).Perm (ps.map (fr h)):=by
 have z:=(pe.trans o.inn_pm).map (toPt h);rw[Zl] at z;rw[show ps.map (fr h)=ps.map (toPt h∘xce) from (ZX fun p hp=>(xjr o.pok hp).symm)];exact z
theorem xuo (pok:xbk (w:Int) (h:Int) ps) {p q:Pt} (hp:p∈ps) (hq:q∈ps) (e:p.nm=q.nm):p=q:=by
 have a:=xh3 pok.nn hp;rw[e,xh3 pok.nn hq] at a;exact (JM.inj a).symm
theorem Pict.toPr_out (o:Pict w h ps ss prs) {p:Pr} (hp:p∈prs):toPr w (xw w h ps ss prs) (xb9 w p)=(fr h p.1,p.2):=by
 obtain⟨_,_,_,z,hz,ez,et⟩:=xdr o.good (o.of_out hp);have k:=o.pal.ok p hp;rw[et,xj4 o.w1 k.r1,xb7];obtain⟨p',hp',rfl⟩:=Zd.mp (o.inn_pm.mem_iff.mp hz);have e:p'=p.1:=xuo o.pok hp' k.mem (xev (o.nms p' hp') k.nm ez);subst e;rw[xjr o.pok hp']
theorem Pict.fns (o:Pict w h ps ss prs) {fs:List Sg} (pf:fs.Perm (outs w (xw w h ps ss prs))):(fs.map (toPr w (xw w h ps ss prs))).Perm (prs.map fun p=>(fr h p.1,p.2)):=by
 have z:=(pf.trans o.out_pm).map (toPr w (xw w h ps ss prs));rw[Zl] at z;rw[show (prs.map fun p=>(fr h p.1,p.2))=prs.map (toPr w (xw w h ps ss prs)∘xb9 w) from (ZX fun p hp=>(o.toPr_out hp).symm)];exact z
theorem Pict.again (o:Pict w h ps ss prs) {es fs:List Sg} (pe:es.Perm (inns w (xw w h ps ss prs))) (pf:fs.Perm (outs w (xw w h ps ss prs))):Pict w h (es.map (toPt h)) (srtS w (xw w h ps ss prs)) (fs.map (toPr w (xw w h ps ss prs))):=by
 have a:=xe8 o.good pe;have b:=xjc o.good pe pf;have c:=xhs o.good;rw[xb7] at a b c;have pm:=xeo w (xw w h ps ss prs);exact⟨o.w1,o.w2,o.h1,o.h2,a,⟨pm.nodup_iff.mpr c.1,by rw[pm.length_eq]; exact c.2.1,fun s hs=>c.2.2 s (pm.mem_iff.mp hs)⟩,b⟩
theorem Pict.rim_in (o:Pict w h ps ss prs) (s:Seat):s∈srtS w (xw w h ps ss prs)↔(1<=s.2/\s.2<=(h:Int))/\(s∈ss\/∃ p∈prs,p.2=s):=by
 rw[(xeo w _).mem_iff];constructor
 .intro hs
  obtain⟨z,hz,rfl⟩:=Zd.mp hs;obtain⟨h1,h2⟩:=ZH.mp hz;obtain⟨h3,h4⟩:=Zy _ _▸h2;have g1:=(xc9.mp h1).1;refine⟨⟨by show (1:Int)<=(z.1:Int)+1; omega,by show (z.1:Int)+1<=_; omega⟩,?_⟩;rcases (o.at_rim h1 h3).2 with⟨p,hp,_,e⟩|⟨_,z,_⟩|⟨_,_,y⟩
  .exact .inr ⟨p,hp,e⟩
  .exact .inl z
  .exact absurd y (of_decide_eq_true h4)
 .rintro ⟨⟨r1,r2⟩,hs⟩;obtain⟨b,r⟩:=s
  dsimp only at r1 r2
  have w1:=o.w1;have rb:Drw.rim w b=0\/Drw.rim w b=(w:Int)+1:=xde w (b,r);have ex:((Drw.rim w b).toNat:Int)=Drw.rim w b:=by omega
  have ey:1+((r-1).toNat:Int)=r:=by omega
  have mem:((r-1).toNat,(Drw.rim w b).toNat,cd (xam w ps ss prs) (rimC w (b,r)))∈sgs (xw w h ps ss prs):=xc9.mpr ⟨by dsimp only; omega,by dsimp only; omega,by dsimp only; rw[ex,ey]; rfl⟩;have rm:rimB (w+1) (Drw.rim w b).toNat=true:=by
   unfold rimB;rcases rb with z|z
   .rw [decide_eq_true (show (Drw.rim w b).toNat=0 by omega)];rfl
   .rw [decide_eq_true (show (Drw.rim w b).toNat=w+1 by omega),Ys]
  have ts:xaj ((r-1).toNat,(Drw.rim w b).toNat,cd (xam w ps ss prs) (rimC w (b,r)))=(b,r):=xj4 (w:=w) w1 (p:=(⟨Zb "",0,0,Zb "",0,0⟩,b,r)) r1;have ts:xaj ((r-1).toNat,(Drw.rim w b).toNat,cd (xam w ps ss prs) (rimC w (b,r)))=(b,r):=ts;unfold rimS;refine Zd.mpr ⟨_,ZH.mpr ⟨mem,?_⟩,ts⟩
  dsimp only
  rw[rm,Ya];refine decide_eq_true fun z=>?_;have hs:(b,r)∈ss\/∃ p∈prs,p.2=(b,r):=hs;by_cases e:∃ p∈prs,p.2=(b,r)
  .obtain ⟨p,hp,ep⟩:=e;have v:=xcu (o.name hp);rw[ep,z] at v;have:=xo1 (xb3 (o.nmr p hp)).2;omega
  .have v:=xcu (o.dot (hs.resolve_right e) fun p hp y=>e ⟨p,hp,y⟩);rw[z] at v;exact absurd v (by decide +kernel)
theorem Pict.sees (o:Pict w h ps ss prs):xqz w (xw w h ps ss prs):=by
 intro es fs pe pf s hs;have o':=o.again pe pf;have qe:=o.ens pe;have qf:=o.fns pf;rw[xb7,xla o.w1 o'.pok o'.pal (.refl _)];obtain⟨g1,g2,g3⟩:=xc9.mp hs;rw[g3]
 suffices e:xam w (es.map (toPt h)) (srtS w (xw w h ps ss prs)) (fs.map (toPr w (xw w h ps ss prs))) ((s.2.1:Int),1+(s.1:Int))=xam w ps ss prs ((s.2.1:Int),1+(s.1:Int)) by
  unfold cd;rw[e]
 have pin:∀ p∈prs,(fr h p.1,p.2)∈fs.map (toPr w (xw w h ps ss prs)):=fun p hp=>qf.mem_iff.mpr (Zd.mpr ⟨p,hp,rfl⟩);have pout:∀ p'∈fs.map (toPr w (xw w h ps ss prs)),∃ p∈prs,(fr h p.1,p.2)=p':=fun p' hp'=>Zd.mp (qf.mem_iff.mp hp');by_cases r:rimB (w+1) s.2.1=true
 .obtain ⟨rc,z⟩:=o.at_rim hs r;rw[<- rc];have rin:=o.rim_in (xaj s);rcases z with⟨p,hp,_,ep⟩|⟨n1,d,_⟩|⟨n1,d,_⟩
  .rw [<- ep,o.name hp];exact o'.name (p:=(fr h p.1,p.2)) (pin p hp)
  .rw [o.dot d n1];refine o'.dot (rin.mpr ⟨⟨by show (1:Int)<=(s.1:Int)+1; omega,by show (s.1:Int)+1<=_; omega⟩,.inl d⟩) fun p' hp' e=>?_;obtain⟨p,hp,rfl⟩:=pout p' hp';exact n1 p hp e
  .rw [o.off (xde w _) (fun p hp z=>n1 p hp (xb0 o.w1 z)) (fun z hz y=>d (xb0 o.w1 y▸hz))];refine o'.off (xde w _) (fun p' hp' z=>?_) (fun z hz y=>?_)
   .obtain ⟨p,hp,rfl⟩:=pout p' hp';exact n1 p hp (xb0 o.w1 z)
   .rw [xb0 o.w1 y] at hz;rcases (rin.mp hz).2 with x|⟨p,hp,x⟩
    .exact d x
    .exact n1 p hp x
 .have nr:=xka r;by_cases e:∃ p∈ps,(p.x,p.y)=((s.2.1:Int),1+(s.1:Int))
  .obtain ⟨p,hp,ep⟩:=e;rw[<- ep,o.pt hp];exact o'.pt (p:=fr h p) (qe.mem_iff.mpr (Zd.mpr ⟨p,hp,rfl⟩))
  .have c1:(1:Int)<=(s.2.1:Int):=by omega
   have c2:(s.2.1:Int)<=w:=by omega
   rw[xd3 (fun p _=>xcv w p.2 c1 c2 _) (fun s _=>xcv w s c1 c2 _) (fun p hp z=>e ⟨p,hp,z⟩),xd3 (fun p _=>xcv w p.2 c1 c2 _) (fun s _=>xcv w s c1 c2 _) (fun p' hp' z=>?_),Drw.marks_at,Drw.marks_at]
   .refine Drw.mkc_perm hsS ?_;unfold Drw.at_;refine (QO.filter _ ?_).map _;have z:=qf.flatMap_right (xb5 w);have e:(prs.map fun p=>(fr h p.1,p.2)).flatMap (xb5 w)=prs.flatMap (xb5 w):=by
     rw[List.flatMap_map];rfl
    rw[e] at z;exact z
   .obtain ⟨p,hp,rfl⟩:=Zd.mp (qe.mem_iff.mp hp');exact e ⟨p,hp,z⟩
end
theorem xk8 {α β:Type}:∀{as:List α}{bs:List β}{i:Nat}{a:α}{b:β},as[i]?=some a->bs[i]?=some b->(as.zip bs)[i]?=some (a,b)
 | [],_,_,_,_,h,_=>by simp at h
 | _::_,[],_,_,_,_,h=>by simp at h
 | x::as,y::bs,0,a,b,h1,h2=>by
  simp at h1 h2;subst h1 h2;rfl
 | x::as,y::bs,i+1,a,b,h1,h2=>xk8 (as:=as) (bs:=bs) (i:=i) (by simpa using h1) (by simpa using h2)
theorem xlm {α β:Type}:∀{as:List α}{bs:List β},bs.length=as.length->(as.zip bs).map (·.2)=bs
 | [],[],_=>rfl
 | [],_::_,h=>by cases h
 | _::_,[],h=>by cases h
 | x::as,y::bs,h=>by
  rw[List.zip_cons_cons,Zr,xlm (by simpa using h)]
theorem xh2 {α β:Type}:∀{as:List α}{bs:List β},bs.length=as.length->(as.zip bs).map (·.1)=as
 | [],[],_=>rfl
 | [],_::_,h=>by cases h
 | _::_,[],h=>by cases h
 | x::as,y::bs,h=>by
  rw[List.zip_cons_cons,Zr,xh2 (by simpa using h)]
def xc4 (w:Int) (p:Pr):Pr:=(mirP w p.1,!p.2.1,p.2.2)
def xcg (h:Int) (p:Pr):Pr:=(turP h p.1,p.2.1,h+1-p.2.2)
def xtr:Sp:=fun vs H Q _=>∃(l:Addr) (us:List Addr) (prs:List Pr) (w:Int),vs=[.ref l]/\H l=some (.lst (us.map V.ref))/\PrsL H prs us/\prs.length<=12/\∀ H' l' us',Same H H'->H' l'=some (.lst (us'.map V.ref))->PrsL H' (prs.map (xc4 w)) us'->Q (.ref l') H'
def xt8:Sp:=fun vs H Q _=>∃(l:Addr) (us:List Addr) (prs:List Pr) (h:Int),vs=[.ref l,.int h]/\H l=some (.lst (us.map V.ref))/\PrsL H prs us/\prs.length<=12/\∀ H' l' us',Same H H'->H' l'=some (.lst (us'.map V.ref))->PrsL H' (prs.map (xcg h)) us'->Q (.ref l') H'
def xuk:Sp:=fun vs H Q _=>∃(l:Addr) (W:Nat) (G:List (List Nat)),vs=[.ref l]/\H l=some (.lst (GV G))/\Txs W G/\∀ H' l',Same H H'->H' l'=some (.lst (GV (G.map Yr)))->Q (.ref l') H'
theorem xpr (r:List Nat):Y0 (Zb "") (xda (ofL r))=ofL r.reverse:=by
 unfold xda;rw[xa4];exact xh8 r.reverse
section
variable {P:Program}{w:World}{K:Ze}{mg:Str->Option Value}{base:Heap}{t:Adr}
theorem ok_an (T:Txt w K mg t):FnOk true P w K mg base (CXo P w) 1 t.f_an t.d_an ["_law_pairs_here", "_law_height"] (xt8):=by
 refine T.F_an.okn (k:=0) sc_an (fun vs H Q E h=>?_) (fun cdv A outer s H vs Q E hr h=>?_)
 .obtain ⟨l,us,prs,h',rfl,_⟩:=h;rfl
 .obtain ⟨l,us,prs,h',rfl,h⟩:=h;refine⟨_,xk (xz (xbt rfl (xay (zs:=["_law_name", "_law_side", "_law_row"]) (ys:=["_law_height"]) (fr:=[1]) (N0:=["_law_pairs_here", "_law_height"]) (sc0:=xm s_an) (by decide +kernel) rfl rfl rfl) (xav (pv 0)) (fun _ _ _ _ _ ow nd=>(xar rfl (xp (xn (i:=0) nd rfl (Zo (ow _ (by simp))) (ZS (ow _ (by simp)))) (xp (xn (i:=1) nd rfl (Zo (ow _ (by simp))) (ZS (ow _ (by simp)))) (xp (xn (i:=2) nd rfl (Zo (ow _ (by simp))) (ZS (ow _ (by simp)))) (xag)))):PG _ _ (gTup K 3 _))) (xbz (x5 (by decide) (x5 (by decide) (x5 (by decide) (xbl))))) (fun _ _ _ _ _=>xa5) (fun _ _ _ _ _=>xal (xa (pv 0) (xa (pv 1) (xa (xu xcj (xu xaq (pv 3) (xo)) (pv 2)) (xf))))))),?_⟩;obtain⟨hl,prl,l12,q⟩:=h;have ul:=prl.len;refine⟨_,rfl,l,rfl,⟨_,SqL.of hl⟩,fun l1 hl1=>?_⟩;refine xct (SqL.of hl) (by rw[Za,ul]; exact ZA (by omega:_<=1000) (by decide)) hl1 (fun i y H5=>∃ q p,y=.ref q/\prs[i]?=some p/\H5 q=some (.tup (prV (xcg h' p)))) (fun i y H5 H6 tp z=>let ⟨q,p,e,e',f⟩:=z; ⟨q,p,e,e',tp _ _ f⟩) (fun i x H5 hx s5 N hN=>?_) (fun ys H5 s5 e5 ly fy=>?_)
  .rw [Zf] at hx;obtain⟨q0,hq0,rfl⟩:=Zi.mp hx;obtain⟨pr,hpr,ex⟩:=prl.get hq0;refine⟨q0,_,rfl,SqT.of (s5 _ _ ex),rfl,_,_,rfl,_,_,rfl,_,_,rfl,rfl,?_⟩;exact⟨_,rfl,_,rfl,_,rfl,_,_,rfl,rfl,_,rfl,_,_,rfl,rfl,(by show 3<=sizeLine; decide),fun p hp=>hN _ _ (xq (Same.refl _) hp) ⟨p,pr,rfl,hpr,xb⟩⟩
  rw[Za,ul] at ly;obtain⟨qs,rfl,f⟩:=PrsL.pick (H:=H5) (ps:=prs.map (xcg h')) (ys:=ys) (by rw[ly,Za]) fun j y p hy hp=>by
   obtain⟨q,p',e,e',f⟩:=fy j y hy;rw[Zf,e'] at hp;cases hp;exact⟨q,e,f⟩
  exact q H5 l1 qs s5 e5 f
theorem ok_ah (T:Txt w K mg t):FnOk true P w K mg base (CXo P w) 1 t.f_ah t.d_ah ["_law_pairs_here"] (xtr):=by
 refine T.F_ah.okn (k:=0) sc_ah (fun vs H Q E h=>?_) (fun cdv A outer s H vs Q E hr h=>?_)
 .obtain ⟨l,us,prs,w',rfl,_⟩:=h;rfl
 .obtain ⟨l,us,prs,w',rfl,h⟩:=h;refine⟨_,xk (xz (xbt rfl (xay (zs:=["_law_name", "_law_side", "_law_row"]) (ys:=[]) (fr:=[]) (N0:=["_law_pairs_here"]) (sc0:=xm s_ah) (by decide +kernel) rfl rfl rfl) (xav (pv 0)) (fun _ _ _ _ _ ow nd=>(xar rfl (xp (xn (i:=0) nd rfl (Zo (ow _ (by simp))) (ZS (ow _ (by simp)))) (xp (xn (i:=1) nd rfl (Zo (ow _ (by simp))) (ZS (ow _ (by simp)))) (xp (xn (i:=2) nd rfl (Zo (ow _ (by simp))) (ZS (ow _ (by simp)))) (xag)))):PG _ _ (gTup K 3 _))) (xbz (x5 (by decide) (x5 (by decide) (x5 (by decide) (xbl))))) (fun _ _ _ _ _=>xa5) (fun _ _ _ _ _=>xal (xa (pv 0) (xa (xel (xbh hr) (xr3 (xks (xad) (xad) (xks (xad) (xad) (xru))) rfl rfl (by simp) (by decide)) (pv 1) (fun _ _=>rfl)) (xa (pv 2) (xf))))))),?_⟩;obtain⟨hl,prl,l12,q⟩:=h;have ul:=prl.len;refine⟨_,rfl,l,rfl,⟨_,SqL.of hl⟩,fun l1 hl1=>?_⟩;refine xct (SqL.of hl) (by rw[Za,ul]; exact ZA (by omega:_<=1000) (by decide)) hl1 (fun i y H5=>∃ q p,y=.ref q/\prs[i]?=some p/\H5 q=some (.tup (prV (xc4 w' p)))) (fun i y H5 H6 tp z=>let ⟨q,p,e,e',f⟩:=z; ⟨q,p,e,e',tp _ _ f⟩) (fun i x H5 hx s5 N hN=>?_) (fun ys H5 s5 e5 ly fy=>?_)
  .rw [Zf] at hx;obtain⟨q0,hq0,rfl⟩:=Zi.mp hx;obtain⟨pr,hpr,ex⟩:=prl.get hq0;refine⟨q0,_,rfl,SqT.of (s5 _ _ ex),rfl,_,_,rfl,_,_,rfl,_,_,rfl,rfl,?_⟩;refine⟨_,rfl,fun p hp=>?_⟩;refine⟨xb,[(.inr (Zb "left"),.str (Zb "right")),(.inr (Zb "right"),.str (Zb "left"))],rfl,(by show 2<=15; decide),?_⟩;have e:upd (upd H5 p (.dK [])) p (.dK (xdg [] [(.inr (Zb "left"),.str (Zb "right")),(.inr (Zb "right"),.str (Zb "left"))])) p=some (.dK [((.inr (Zb "left"):Key),V.str (Zb "right")),(.inr (Zb "right"),.str (Zb "left"))]):=xb;have s6:Same H5 (upd (upd H5 p (.dK [])) p (.dK (xdg [] [(.inr (Zb "left"),.str (Zb "right")),(.inr (Zb "right"),.str (Zb "left"))]))):=fun c u z=>by rw[xh (xi z hp),xh (xi z hp)]; exact z
   revert e s6;generalize upd (upd H5 p (.dK [])) p (.dK (xdg [] [(.inr (Zb "left"),.str (Zb "right")),(.inr (Zb "right"),.str (Zb "left"))]))=H6;intro e s6;have g:=DGet.k (k:=.inr (xac pr.2.1)) e;have g':DGet H6 p (.str (xac pr.2.1)) (some (.str (xac (!pr.2.1)))):=by
    obtain⟨pt,b,r⟩:=pr;cases b
    .exact g
    .exact g
   exact⟨_,rfl,p,_,rfl,g',_,rfl,(by show 3<=sizeLine; decide),fun p7 hp7=>hN _ _ (xq s6 hp7) ⟨p7,pr,rfl,hpr,xb⟩⟩
  rw[Za,ul] at ly;obtain⟨qs,rfl,f⟩:=PrsL.pick (H:=H5) (ps:=prs.map (xc4 w')) (ys:=ys) (by rw[ly,Za]) fun j y p hy hp=>by
   obtain⟨q,p',e,e',f⟩:=fy j y hy;rw[Zf,e'] at hp;cases hp;exact⟨q,e,f⟩
  exact q H5 l1 qs s5 e5 f
theorem ok_aa (T:Txt w K mg t):FnOk true P w K mg base (CXo P w) 1 t.f_aa t.d_aa ["_law_rows"] (xuk):=by
 refine T.F_aa.okn (k:=0) sc_aa (fun vs H Q E h=>?_) (fun cdv A outer s H vs Q E hr h=>?_)
 .obtain ⟨l,W,G,rfl,_⟩:=h;rfl
 .obtain ⟨l,W,G,rfl,h⟩:=h;refine⟨_,xk (xz (xbt rfl (xay (zs:=["_law_row"]) (ys:=[]) (fr:=[]) (N0:=["_law_rows"]) (sc0:=xm s_aa) (by decide +kernel) rfl rfl rfl) (xav (pv 0)) (fun _ _ _ _ _ ow nd=>xn (i:=0) nd rfl (Zo (ow _ (by simp))) (ZS (ow _ (by simp)))) (xbu (by decide)) (fun _ _ _ _ _=>xa5) (fun _ _ _ _ _=>xmb rfl rfl T.n_reversed (xad) (xa (pv 0) (xf))))),?_⟩;obtain⟨hl,o,q⟩:=h;have h2:=o.h2;have w1:=o.w1;have w2:=o.w2;have gl:=xff G;refine⟨_,rfl,l,rfl,⟨_,SqL.of hl⟩,fun l1 hl1=>?_⟩;refine xct (SqL.of hl) (by rw[gl]; exact ZA (by omega:_<=1000) (by decide)) hl1 (fun i y _=>∃ r,G[i]?=some r/\y=.str (ofL r.reverse)) (fun i y H5 H6 tp z=>z) (fun i x H5 hx s5 N hN=>?_) (fun ys H5 s5 e5 ly fy=>?_)
  .have ig:i<G.length:=by
    have:=(Zk.mp hx).1;omega
   obtain⟨r,hr'⟩:∃ r,G[i]?=some r:=⟨_,Zh ig⟩
   rw[xhm hr'] at hx;cases hx;have rl:=o.wd r (Zp hr');refine⟨Zb "",rfl,by decide,_,rfl,ofL r,rfl,by rw[xb1]; omega,by rw[xb1]; omega,?_⟩;rw[xpr];exact hN _ _ (Same.refl _) ⟨r,hr',rfl⟩
  rw[gl] at ly;have:ys=GV (G.map Yr):=by
   unfold GV;rw[Zl];exact xqr ly fun j y r hy hr=>by
    obtain⟨r',e,e'⟩:=fy j y hy;rw[hr] at e;cases e;exact e'
  exact q H5 l1 s5 (this▸e5)
end
def ptK (p:Pt):List Key:=[.inr p.nm,.inl p.x,.inl p.y,.inr p.sd,.inl p.lo,.inl p.hi]
theorem xiw {α:Type}{H:Hp}{d:Addr}{as:List α}{qs:List Addr}{f:α->List V}{kf:α->List Key}{nm:α->Str}{sh:List Bool} (ln:qs.length=as.length) (l64:as.length<64) (hd:H d=some (.lst (qs.map V.ref))) (tp:∀(i:Nat) (q:Addr),qs[i]?=some q->∃ a,as[i]?=some a/\H q=some (.tup (f a)))
    (hf:∀ a,f a=(kf a).map kV) (hn:∀ a,∃ r,kf a=.inr (nm a)::r) (hs:∀ a∈as,shp (kf a)=sh) (h0:0<sh.length) (nd:(as.map nm).Nodup) {Q:VK}
    (fin:∀(l:Addr) (bs:List α) (us:List Addr),H l=none->bs.Perm as->us.length=bs.length->(∀(i:Nat) (q:Addr),us[i]?=some q->∃ a,bs[i]?=some a/\H q=some (.tup (f a)))->bs.Pairwise (fun a b=>(nm a).cps.toList<(nm b).cps.toList)->Q (.ref l) (upd H l (.lst (us.map V.ref)))):xj2 [.ref d] H Q:=by
  have inj:(as.map kf).Nodup:=by
    rw[JE,Z3] at nd ⊢;refine nd.imp fun {a b} ne e=>ne ?_;obtain⟨r,er⟩:=hn a;obtain⟨r',er'⟩:=hn b;rw[er,er'] at e;exact Jf.inj (JS.inj e).1
  have zl:(as.zip qs).length=as.length:=by rw[List.length_zip,ln,Nat.min_self]
  have mem:∀ x∈as.zip qs,x.1∈as/\H x.2=some (.tup (f x.1)):=fun x hx=>by
    obtain⟨i,hi⟩:=List.mem_iff_getElem?.mp hx;have l:i<as.length:=by
      have:=(Zk.mp hi).1;omega
    have hq:qs[i]?=some qs[i]:=Zh (by omega);obtain⟨a,ha,e⟩:=tp i _ hq;rw[xk8 ha hq] at hi;cases hi;exact⟨Zp ha,e⟩
  refine⟨d,(as.zip qs).map fun x=>(kf x.1,x.2),sh,rfl,?_,by rw[Za,zl]; exact l64,fun z hz=>?_,fun z hz=>?_,h0,?_,fun l ts hl pm lx=>?_⟩
  . rw[hd,Zl]
    have e:=xlm (as:=as) (bs:=qs) ln
    congr 2
    conv=>lhs; rw[<- e]
    rw[Zl];rfl
  . obtain⟨x,hx,rfl⟩:=Zd.mp hz
    rw[(mem x hx).2,hf]
  . obtain⟨x,hx,rfl⟩:=Zd.mp hz
    exact hs _ (mem x hx).1
  . rw[Zl]
    have e:=congrArg (List.map kf) (xh2 (as:=as) (bs:=qs) ln);rw[Zl] at e;show ((as.zip qs).map (kf∘fun x=>x.1)).Nodup;rw[e];exact inj
  . obtain⟨zs,pz,rfl⟩:=xfh pm rfl
    have pb:=pz.map (·.1);rw[xh2 ln] at pb;have z:=fin l (zs.map (·.1)) (zs.map (·.2)) hl pb (by rw[Za,Za]) (fun i q e=>by
      rw[Zf,Zi] at e;obtain⟨x,hx,rfl⟩:=e;exact⟨x.1,by rw[Zf,hx]; rfl,(mem x (pz.mem_iff.mp (Zp hx))).2⟩) (by
      have nb:((zs.map (·.1)).map nm).Nodup:=(pb.map nm).nodup_iff.mpr nd;rw[Zl] at lx;rw[Z3] at lx;rw[JE,Z3,Z3] at nb;rw[Z3];refine (lx.and nb).imp fun {a b} y=>?_;obtain⟨y1,y2⟩:=y;obtain⟨r,er⟩:=hn a.1;obtain⟨r',er'⟩:=hn b.1;have y1:lexK (kf a.1) (kf b.1)=true:=y1;rw[er,er'] at y1;unfold lexK at y1;rw[if_neg (fun e=>y2 (Jf.inj e))] at y1;exact of_decide_eq_true y1)
    rw[Zl] at z ⊢;exact z
theorem xrh {s t:Str} (hs:isNm s=true) (ht:isNm t=true) (h:s.cps.toList<t.cps.toList):xah s<xah t:=by
 rw[(xb3 hs).1,(xb3 ht).1,xa4,xa4,lt1] at h;exact h
def xug (t:Adr):Sp:=fun vs H Q _=>∃(a b dp do_ dp' do':Addr) (w h:Int) (ps ps':List Pt) (ss ss':List Seat),vs=[.ref a,.ref b]/\Pic t H a dp do_ w h ps/\Pic t H b dp' do' w h ps'/\ps'.Perm ps/\(ps.map (·.nm)).Nodup/\(∀ p∈ps,isNm p.nm=true)/\Sts H do_ ss/\Sts H do' ss'/\ss'.Perm ss/\∀ H',Same H H'->Q (.bl true) H'
section
variable {P:Program}{w:World}{K:Ze}{mg:Str->Option Value}{base:Heap}{t:Adr}
theorem ok_a2 (T:Txt w K mg t):FnOk true P w K mg base (CXo P w) 4 t.f_a2 t.d_a2 ["_law_one", "_law_other"] (xug t):=by
 refine T.F_a2.okn (k:=3) sc_a2 (fun vs H Q E h=>?_) (fun cdv A outer s H vs Q E hr h=>?_)
 .obtain ⟨a,b,dp,do_,dp',do',w',h',ps,ps',ss,ss',rfl,_⟩:=h;rfl
 .obtain ⟨a,b,dp,do_,dp',do',w',h',ps,ps',ss,ss',rfl,h⟩:=h;refine⟨_,xj (xap (PW.pt (xc0 (xaa xfu (x4 (pv 0) rfl) (x4 (pv 1) rfl) (x9 _)) (xcp (xaa xfu (x4 (pv 0) rfl) (x4 (pv 1) rfl) (x9 _))))) (xk (xz (xf7))) (x8))
   (xk (xz (xcd (xby (xem (xbp hr)) (xab (xfd rfl) rfl T.n_sorted PyProof.Rows.Boot.«sorted» (xa (xaf (pv 0) T.c_b T.m_f (ok_f T) (hr.mono (by decide)) T.b_f .nil xg) (xf))) (xab (xfd rfl) rfl T.n_sorted PyProof.Rows.Boot.«sorted» (xa (xaf (pv 1) T.c_b T.m_f (ok_f T) (hr.mono (by decide)) T.b_f .nil xg) (xf))) (x9 _)) (xcq (xby (xem (xbp hr)) (xaf (pv 0) T.c_b T.m_n (ok_n T) (hr.mono (by decide)) T.b_n .nil xg) (xaf (pv 1) T.c_b T.m_n (ok_n T) (hr.mono (by decide)) T.b_n .nil xg) (x9 _)))))),?_⟩
  obtain⟨pa,pb,pm,nd,nm,sa,sb,sm,q⟩:=h;obtain⟨⟨dxa,hpa⟩,_⟩:=id pa;obtain⟨⟨dxb,hpb⟩,_⟩:=id pb;have pal:=pa.len;have pbl:=pb.len;refine⟨_,rfl,a,_,dxa,_,_,rfl,hpa,T.c_b,T.n_a7,lkW,_,rfl,b,_,dxb,_,_,rfl,hpb,T.c_b,T.n_a7,lkW,rfl,_,rfl,ifN (by simp) ?_⟩;refine⟨_,rfl,a,_,dxa,_,_,rfl,hpa,T.c_b,T.n_a6,lkH,_,rfl,b,_,dxb,_,_,rfl,hpb,T.c_b,T.n_a6,lkH,rfl,_,rfl,ifN (by simp) ?_⟩;refine⟨_,rfl,a,dxa,_,rfl,hpa,xan (by decide +kernel),a,dp,do_,w',h',ps,rfl,pa,fun H1 l1 q1 s1 e1 pl1=>?_⟩;unfold tNil;refine xiw (f:=fun p:Pt=>.str p.nm::ptV p) (kf:=ptK) (nm:=fun p=>p.nm) (sh:=shp (ptK ⟨Zb "",0,0,Zb "",0,0⟩)) pl1.len (by omega) e1 (fun i q e=>pl1.get e) (fun _=>rfl) (fun _=>⟨_,rfl⟩) (fun _ _=>rfl) (by decide) nd (fun l2 bs ub hl2 pm2 lb tb lt2=>?_);have s2:Same H1 (upd H1 l2 (.lst (ub.map V.ref))):=xq (Same.refl _) hl2;have g2:upd H1 l2 (.lst (ub.map V.ref)) l2=some (.lst (ub.map V.ref)):=xb;revert s2 g2;generalize upd H1 l2 (.lst (ub.map V.ref))=H2;intro s2 g2;have s12:=s1.trans s2;have pb2:=Pic.same s12 pb;have hpb2:=s12 _ _ hpb;have nd':(ps'.map (·.nm)).Nodup:=(pm.map _).nodup_iff.mpr nd;refine⟨_,rfl,b,dxb,_,rfl,hpb2,xan (by decide +kernel),b,dp',do',w',h',ps',rfl,pb2,fun H3 l3 q3 s3 e3 pl3=>?_⟩;refine xiw (f:=fun p:Pt=>.str p.nm::ptV p) (kf:=ptK) (nm:=fun p=>p.nm) (sh:=shp (ptK ⟨Zb "",0,0,Zb "",0,0⟩)) pl3.len (by omega) e3 (fun i q e=>pl3.get e) (fun _=>rfl) (fun _=>⟨_,rfl⟩) (fun _ _=>rfl) (by decide) nd' (fun l4 cs uc hl4 pm4 lc tc lt4=>?_);have s4:Same H3 (upd H3 l4 (.lst (uc.map V.ref))):=xq (Same.refl _) hl4;have g4:upd H3 l4 (.lst (uc.map V.ref)) l4=some (.lst (uc.map V.ref)):=xb;revert s4 g4;generalize upd H3 l4 (.lst (uc.map V.ref))=H4;intro s4 g4;have s24:=s3.trans s4;have s04:=s12.trans s24;have asL:∀(ds:List Pt) (ud:List Addr) (HX:Hp),ud.length=ds.length->(∀(i:Nat) (q:Addr),ud[i]?=some q->∃ p,ds[i]?=some p/\HX q=some (.tup (.str p.nm::ptV p)))->PtsL HX ds ud:=fun ds ud HX ln f=>by
   obtain⟨rs,er,pr⟩:=PtsL.pick (H:=HX) (ps:=ds) (ys:=ud.map V.ref) (by rw[Za,ln]) fun j y p hy hp=>by
    rw[Zf] at hy;obtain⟨q,hq,rfl⟩:=Zi.mp hy;obtain⟨p',hp',e⟩:=f j q hq;rw[hp] at hp';cases hp';exact⟨q,rfl,e⟩
   have:ud=rs:=List.map_inj_right (fun a b e=>V.ref.inj e) |>.mp er
   exact this▸pr
  have srt:∀(ds:List Pt),(∀ p∈ds,isNm p.nm=true)->ds.Pairwise (fun a b=>a.nm.cps.toList<b.nm.cps.toList)->ds.Pairwise (fun a b=>xah a.nm<xah b.nm):=fun ds hn hp=>JN.imp_of_mem (fun {x y} hx hy z=>xrh (hn x hx) (hn y hy) z) hp;have ebc:bs=cs:=xcn (R:=fun a b:Pt=>xah a.nm<xah b.nm) (fun a b h1 h2=>by omega) ((pm2.trans pm.symm).trans pm4.symm) (srt bs (fun p hp=>nm p (pm2.mem_iff.mp hp)) lt2) (srt cs (fun p hp=>nm p (pm.mem_iff.mp (pm4.mem_iff.mp hp))) lt4);subst ebc;have d1:=(asL bs ub H4 lb (fun i q e=>let ⟨p,h1,h2⟩:=tb i q e; ⟨p,h1,s24 _ _ (s2 _ _ h2)⟩)).dv (K:=K) (s24 _ _ g2);have d2:=(asL bs uc H4 lc (fun i q e=>let ⟨p,h1,h2⟩:=tc i q e; ⟨p,h1,s4 _ _ h2⟩)).dv (K:=K) g4;refine⟨2,2,_,_,d1,d2,by decide,by decide,true,by rw[xb6],ifP rfl ?_⟩;have pa4:=Pic.same s04 pa;have pb4:=Pic.same s04 pb;refine⟨_,rfl,a,dxa,_,rfl,s04 _ _ hpa,xan (by decide +kernel),a,dp,do_,w',h',ps,ss,rfl,pa4,sa.same s04,fun l5 s5 q5 hl5 sl5 sp5 sw5=>?_⟩;have s6:Same H4 (upd H4 l5 (.lst (q5.map V.ref))):=xq (Same.refl _) hl5;have g6:upd H4 l5 (.lst (q5.map V.ref)) l5=some (.lst (q5.map V.ref)):=xb;revert s6 g6;generalize upd H4 l5 (.lst (q5.map V.ref))=H6;intro s6 g6;have s06:=s04.trans s6;refine⟨_,rfl,b,dxb,_,rfl,s06 _ _ hpb,xan (by decide +kernel),b,dp',do',w',h',ps',ss',rfl,Pic.same s06 pb,sb.same s06,fun l7 s7 q7 hl7 sl7 sp7 sw7=>?_⟩;have s8:Same H6 (upd H6 l7 (.lst (q7.map V.ref))):=xq (Same.refl _) hl7;have g8:upd H6 l7 (.lst (q7.map V.ref)) l7=some (.lst (q7.map V.ref)):=xb;revert s8 g8;generalize upd H6 l7 (.lst (q7.map V.ref))=H8;intro s8 g8;have es:s5=s7:=xcn xfn ((sp5.trans sm.symm).trans sp7.symm) sw5 sw7;subst es;refine⟨2,2,_,_,(sl5.keep (Same.tups (s6.trans s8))).dv (s8 _ _ g6),(sl7.keep (Same.tups s8)).dv g8,by decide,by decide,?_⟩;rw[xb6];exact q H8 (s06.trans s8)
end
theorem xp5 (w:Int) (ss:List Seat):xbc w (ss.map mirS)=Drw.go (Drw.mirC w) (xbc w ss):=by
 unfold xbc Drw.go;rw[Zl,Zl];refine ZX fun s _=>?_;obtain⟨b,r⟩:=s;show ((Drw.rim w (!b),r),_)=((w+1-Drw.rim w b,r),_)
 rw[show Drw.rim w (!b)=w+1-Drw.rim w b by cases b<;>(unfold Drw.rim; simp)]
theorem xoh (w:Int) (prs:List Pr):xa3 w (prs.map (xc4 w))=Drw.go (Drw.mirC w) (xa3 w prs):=by
 unfold xa3 Drw.go;rw[Zl,Zl];refine ZX fun s _=>?_;obtain⟨p,b,r⟩:=s;show ((Drw.rim w (!b),r),_)=((w+1-Drw.rim w b,r),_)
 rw[show Drw.rim w (!b)=w+1-Drw.rim w b by cases b<;>(unfold Drw.rim; simp)];rfl
theorem xsl (w:Int) (ps:List Pt):ptsS (ps.map (mirP w))=Drw.go (Drw.mirC w) (ptsS ps):=by
 unfold ptsS Drw.go;rw[Zl,Zl];rfl
theorem xpz (w:Int) (ps:List Pt) (ss:List Seat) (prs:List Pr) (c:Cl):xam w (ps.map (mirP w)) (ss.map mirS) (prs.map (xc4 w)) (Drw.mirC w c)=xam w ps ss prs c:=by
 unfold xam;rw[xp5,xoh,xsl,List.flatMap_map];exact Drw.draw_go hsS (Drw.mirC_inj w) (fun p _ c=>Drw.led_mir _ _ _ w p.1.x p.1.y p.2.1 p.2.2 c) _ _ _ c
theorem xpu (w h:Int) (ss:List Seat):xbc w (ss.map (turS h))=Drw.go (Drw.turC h) (xbc w ss):=by
 unfold xbc Drw.go;rw[Zl,Zl];rfl
theorem xoe (w h:Int) (prs:List Pr):xa3 w (prs.map (xcg h))=Drw.go (Drw.turC h) (xa3 w prs):=by
 unfold xa3 Drw.go;rw[Zl,Zl];rfl
theorem xro (h:Int) (ps:List Pt):ptsS (ps.map (turP h))=Drw.go (Drw.turC h) (ptsS ps):=by
 unfold ptsS Drw.go;rw[Zl,Zl];rfl
theorem xpj (w h:Int) (ps:List Pt) (ss:List Seat) (prs:List Pr) (c:Cl):xam w (ps.map (turP h)) (ss.map (turS h)) (prs.map (xcg h)) (Drw.turC h c)=xam w ps ss prs c:=by
 unfold xam;rw[xpu,xoe,xro,List.flatMap_map];exact Drw.draw_go hsS (Drw.turC_inj h) (fun p _ c=>Drw.led_tur _ _ _ w h p.1.x p.1.y p.2.1 p.2.2 c) _ _ _ c
theorem xq4 {m m':Cl->Option Str}{c c':Cl} (e:m' c'=m c):cd m' c'=cd m c:=by
 unfold cd;rw[e]
theorem xr6 {w:Nat}{r:Int}{m m':Cl->Option Str} (e:∀ c,m' (Drw.mirC w c)=m c):rowC w r m'=(rowC w r m).reverse:=by
 unfold rowC;rw[<- Yw];refine List.ext_getElem (by simp) fun j h1 h2=>?_;have hj:j<w+2:=by simpa using h1
 rw[YL,YL,JF,List.getElem_reverse,JF];refine xq4 ?_;rw[<- e]
 congr 1
 show _=((w:Int)+1-_,r)
 rw[Zv];exact Yc (by show (j:Int)=(w:Int)+1-((w+2-1-j:Nat):Int); omega) rfl
theorem xo9 {w h:Nat}{m m':Cl->Option Str} (e:∀ c,m' (Drw.mirC w c)=m c):xcf w h m'=(xcf w h m).map Yr:=by
 unfold xcf;rw[Zl];exact ZX fun i _=>xr6 e
theorem xpf {w h:Nat}{m m':Cl->Option Str} (e:∀ c,m' (Drw.turC h c)=m c):xcf w h m'=(xcf w h m).reverse:=by
 unfold xcf;rw[<- Yw];refine List.ext_getElem (by simp) fun j h1 h2=>?_;have hj:j<h:=by simpa using h1
 rw[YL,YL,JF,List.getElem_reverse,JF];unfold rowC;refine ZX fun i _=>xq4 ?_;rw[<- e]
 congr 1
 rw[Zv];exact Yc rfl (by show 1+(j:Int)=(h:Int)+1-(1+((h-1-j:Nat):Int)); omega)
theorem xsd (h:Nat):(xak true h++xak false h).Pairwise xbj:=by
 have one:∀ b,(xak b h).Pairwise xbj:=fun b=>by
  unfold xak;rw[Z3];exact List.pairwise_lt_range.imp fun z=>.inr ⟨rfl,by dsimp only; omega⟩
 rw[JY];refine⟨one _,one _,fun a ha b hb=>?_⟩;obtain⟨i,_,rfl⟩:=Zd.mp ha;obtain⟨j,_,rfl⟩:=Zd.mp hb;exact .inl ⟨rfl,rfl⟩
def srtO (h:Nat) (ss:List Seat):List Seat:=(xak true h++xak false h).filter fun s=>decide (s∈ss)
theorem xlr (h:Nat) (ss:List Seat):(srtO h ss).Pairwise xbj:=(xsd h).filter _
theorem xfq {h:Nat}{ss:List Seat} (o:SsOk (h:Int) ss):(srtO h ss).Perm ss:=(Yp (xgz (xlr h ss)) o.1).mpr fun s=>by
 unfold srtO;rw[ZH,decide_eq_true_iff];exact⟨fun z=>z.2,fun z=>⟨xlh (o.2.2 s z),z⟩⟩
theorem xl9 {w:Nat}{ps:List Pt}{ss ss':List Seat}{prs:List Pr} (w1:1<=w) (pm:ss'.Perm ss) (nd:ss.Nodup):xam w ps ss' prs=xam w ps ss prs:=by
 funext c;unfold xam Drw.drawL;refine Drw.sets_base ?_;refine Drw.sets_perm (pm.map _) ?_ _ c;rw[Zl];have nd:=pm.nodup_iff.mpr nd;rw[JE,Z3];exact nd.imp fun ne e=>ne (xb0 w1 e)
theorem xf4 {K:Ze}{H:Hp}{a:Addr}{G:List (List Nat)} (e:H a=some (.lst (GV G))):Dv K H 1 (.ref a) (.lst ((GV G).map scD)):=.lst (SqL.of e) (by rw[Za]) (xdt (YM.mpr fun v hv=>by
 obtain⟨i,_,rfl⟩:=Zd.mp hv;rfl))
section
variable {w h:Nat}{ps:List Pt}{ss:List Seat}{prs:List Pr}
theorem Pict.drw (o:Pict w h ps ss prs) {srt:List Seat} (pm:srt.Perm ss):xed w h (xdk w ps srt prs)=GV (xw w h ps ss prs):=by
 rw[xla o.w1 o.pok o.pal (.refl _),xl9 o.w1 pm o.sok.1,xqa o.one]
theorem xok {f:Pt->Pt}{g:Seat->Seat} (o:Pict w h ps ss prs) (fn:∀ p,(f p).nm=p.nm) (gi:∀ s,g (g s)=s) (gb:∀ s,(1<=s.2/\s.2<=(h:Int))->1<=(g s).2/\(g s).2<=(h:Int)) (po:xbk (w:Int) (h:Int) (ps.map f)):xfi (w:Int) (h:Int) (ps.map f) (prs.map fun p=>(f p.1,g p.2)):=by
 refine⟨fun p hp=>?_,?_,?_,?_⟩
 .obtain ⟨q,hq,rfl⟩:=Zd.mp hp;have k:=o.pal.ok q hq;have m:=po.ok (f q.1) (Zd.mpr ⟨q.1,Yx k.fd,rfl⟩);have b:=gb q.2 ⟨k.r1,k.r2⟩;refine⟨m.nm,?_,b.1,b.2,m.x1,m.x2,m.y1,m.y2⟩;rw[List.find?_map];have e:((fun z:Pt=>decide (z.nm=(f q.1).nm))∘f)=fun z=>decide (z.nm=q.1.nm):=by
   funext z;show decide ((f z).nm=(f q.1).nm)=_;rw[fn,fn]
  rw[e,k.fd];rfl
 .rw [Zl];exact xhy (k:=g) (fun _=>rfl) (fun a b e=>by rw[<- gi a,e,gi]) o.pal.nd
 .rw [Za];exact o.pal.len
 .rw [Zl];have e:((fun p:Pr=>p.1.nm)∘fun p:Pr=>(f p.1,g p.2))=fun p=>p.1.nm:=by
   funext p;exact fn p.1
  rw[e];exact o.pal.nn
theorem xkg (s:Seat):mirS (mirS s)=s:=by
 obtain⟨b,r⟩:=s;cases b<;>rfl
theorem xjq (h:Int) (s:Seat):turS h (turS h s)=s:=by
 obtain⟨b,r⟩:=s;show (b,h+1-(h+1-r))=(b,r)
 rw[show h+1-(h+1-r)=r by omega]
theorem xlf (h:Int) (s:Seat) (o:1<=s.2/\s.2<=h):1<=(turS h s).2/\(turS h s).2<=h:=by
 unfold turS
 dsimp only
 omega
theorem Pict.mir (o:Pict w h ps ss prs):Pict w h (ps.map (mirP w)) (ss.map mirS) (prs.map (xc4 w)):=⟨o.w1,o.w2,o.h1,o.h2,xec o.pok,xfw o.sok,xok (g:=mirS) o (fun _=>rfl) xkg (fun _ z=>z) (xec o.pok)⟩
theorem Pict.tur (o:Pict w h ps ss prs):Pict w h (ps.map (turP h)) (ss.map (turS h)) (prs.map (xcg h)):=⟨o.w1,o.w2,o.h1,o.h2,xeh o.pok,xfs o.sok,xok (g:=turS h) o (fun _=>rfl) (xjq h) (xlf h) (xeh o.pok)⟩
theorem gmir:xw w h (ps.map (mirP w)) (ss.map mirS) (prs.map (xc4 w))=(xw w h ps ss prs).map Yr:=xo9 (xpz w ps ss prs)
theorem gtur:xw w h (ps.map (turP h)) (ss.map (turS h)) (prs.map (xcg h))=(xw w h ps ss prs).reverse:=xpf (xpj w h ps ss prs)
theorem xo2 {ps':List Pt}{F:Pr->Pr}{g:Seat->Seat} (o:Pict w h ps ss prs) (o':Pict w h ps' (ss.map g) (prs.map F)) (hg:∀ s,g (g s)=s) (hF:∀ p,(F p).2=g p.2) (hb:∀ s,(1<=s.2/\s.2<=(h:Int))->1<=(g s).2/\(g s).2<=(h:Int)) {s':List Seat} (pm:s'.Perm (rimS w (xw w h ps ss prs))):(rimS w (xw w h ps' (ss.map g) (prs.map F))).Perm (s'.map g):=by
 have inj:∀ a b,g a=g b->a=b:=fun a b e=>by rw[<- hg a,e,hg]
 have n1:=(xhs o.good).1;have n2:=(xhs o'.good).1;refine (Yp n2 (nd_map inj (pm.nodup_iff.mpr n1))).mpr fun s=>?_;refine ((xeo w _).mem_iff.symm.trans (o'.rim_in s)).trans ?_;constructor
 .rintro ⟨b,z⟩;refine Zd.mpr ⟨g s,pm.mem_iff.mpr ((xeo w _).mem_iff.mp ((o.rim_in _).mpr ⟨hb s b,?_⟩)),hg s⟩;rcases z with z|⟨p,hp,rfl⟩
  .obtain ⟨y,hy,rfl⟩:=Zd.mp z;exact .inl (by rw[hg]; exact hy)
  .obtain ⟨y,hy,rfl⟩:=Zd.mp hp;exact .inr ⟨y,hy,by rw[hF,hg]⟩
 .intro z
  obtain⟨y,hy,rfl⟩:=Zd.mp z;obtain⟨b,k⟩:=(o.rim_in y).mp ((xeo w _).mem_iff.mpr (pm.mem_iff.mp hy));refine⟨hb y b,?_⟩;rcases k with k|⟨p,hp,rfl⟩
  .exact .inl (Zd.mpr ⟨y,k,rfl⟩)
  .exact .inr ⟨F p,Zd.mpr ⟨p,hp,rfl⟩,hF p⟩
theorem xnl {f:Pt->Pt}{ss':List Seat}{prs':List Pr} (o:Pict w h ps ss prs) (o':Pict w h (ps.map f) ss' prs') (hf:∀ p,fr h (f p)=f (fr h p)) {es es':List Sg} (pe:es.Perm (inns w (xw w h ps ss prs))) (pe':es'.Perm (inns w (xw w h (ps.map f) ss' prs'))):(es'.map (toPt h)).Perm ((es.map (toPt h)).map f):=by
 refine (o'.ens pe').trans ?_;have z:=((o.ens pe).map f).symm;rw[Zl] at z ⊢;rw[show ps.map (fr h∘f)=ps.map (f∘fr h) from ZX fun p _=>hf p];exact z
theorem xn3 (o:Pict w h ps ss prs) {fs:List Sg} (pf:fs.Perm (outs w (xw w h ps ss prs))) (lf:fs.Pairwise nmLt):(fs.map (toPr w (xw w h ps ss prs))).Pairwise fun a b=>xah a.1.nm<xah b.1.nm:=by
 rw[Z3];refine JN.imp_of_mem ?_ lf;intro a b ha hb z;obtain⟨_,_,_,y,_,ey,et⟩:=xdr o.good (pf.mem_iff.mp ha);obtain⟨_,_,_,x,_,ex,es⟩:=xdr o.good (pf.mem_iff.mp hb);rw[et,es];show xah (ofL [y.2.2])<xah (ofL [x.2.2]);rw[xjy,xjy,ey,ex];exact z
theorem xot {ps':List Pt}{ss':List Seat}{f:Pt->Pt}{F:Pr->Pr} (o:Pict w h ps ss prs) (o':Pict w h ps' ss' (prs.map F)) (hf:∀ p,fr h (f p)=f (fr h p)) (fn:∀ p,(f p).nm=p.nm) (hF:∀ p,(F p).1=f p.1) (hG:∀ p q:Pr,p.2=q.2->(F p).2=(F q).2) {fs fs':List Sg} (pf:fs.Perm (outs w (xw w h ps ss prs))) (pf':fs'.Perm (outs w (xw w h ps' ss' (prs.map F)))) (lf:fs.Pairwise nmLt) (lf':fs'.Pairwise nmLt):fs'.map (toPr w (xw w h ps' ss' (prs.map F)))=(fs.map (toPr w (xw w h ps ss prs))).map F:=by
 refine xcn (R:=fun a b:Pr=>xah a.1.nm<xah b.1.nm) (fun a b h1 h2=>by omega) ?_ (xn3 o' pf' lf') ?_
 .refine (o'.fns pf').trans ?_;have z:=((o.fns pf).map F).symm;rw[Zl] at z ⊢;rw[show prs.map ((fun p:Pr=>(fr h p.1,p.2))∘F)=prs.map (F∘fun p:Pr=>(fr h p.1,p.2)) from ZX fun p _=>by
   show (fr h (F p).1,(F p).2)=F (fr h p.1,p.2);exact Yc (by rw[hF,hf,hF]) (hG _ _ rfl)]
  exact z
 .rw [Z3];refine (xn3 o pf lf).imp fun {a b} z=>?_;rw[hF,hF,fn,fn];exact z
theorem xo4 (p:Pt):fr h (mirP w p)=mirP w (fr h p):=by
 unfold fr mirP;rw[show xes "both"="both" by decide +kernel]
theorem xn5 (p:Pt):fr h (turP h p)=turP h (fr h p):=by
 unfold fr turP
 dsimp only
 rw[show (h:Int)+1-h=1 by omega,show (h:Int)+1-1=h by omega]
end
theorem Dr.new {t:Adr}{H:Hp}{a dp do_:Addr}{w h:Nat}{ps:List Pt}{ss:List Seat} (p:Pic t H a dp do_ (w:Int) (h:Int) ps) (s:Sts H do_ ss) (o:xbk (w:Int) (h:Int) ps) (so:SsOk (h:Int) ss):Dr t H a dp do_ w h ps ss (srtO h ss):=⟨p,s,so,xfq so,xlr h ss,fun p hp=>(o.ok p hp).nm⟩
theorem xjd.same {t:Adr}{H H':Hp}{q b dp do_ lp:Addr}{ts:List Addr}{w:Nat}{G:List (List Nat)}{es fs:List Sg} (sn:xjd t H q b dp do_ lp ts w G es fs) (s:Same H H'):xjd t H' q b dp do_ lp ts w G es fs:=by
 have d:=sn.dr;exact⟨sn.pe,sn.le,sn.pf,sn.lf,s _ _ sn.q,d.same s,s _ _ sn.lp,sn.pr.keep (Same.tups s)⟩
theorem xki (G:List (List Nat)):(GV G).reverse=GV G.reverse:=by
 unfold GV;rw[Yw]
section
variable {P:Program}{w:World}{K:Ze}{mg:Str->Option Value}{base:Heap}{t:Adr}
theorem xtf (T:Txt w K mg t):FnOk true P w K mg base (CXo P w) 10 t.f_law t.d_law ["_law_script"] (xi9 K):=by
 refine T.F_law.okn (k:=9) xcb (fun vs H Q E h=>?_) (fun cdv A outer s H vs Q E hr h=>?_)
 .obtain ⟨sc,ns,rfl,_⟩:=h;rfl
 .obtain ⟨sc,ns,rfl,h⟩:=h;refine⟨_,xj (xdz (xr (ok_az T) (hr.mono (by decide)) rfl T.g_az T.F_az.kp T.b_az .nil xg (xa (pv 0) (xf))) (xar rfl (xp (xn (i:=1) xcb.nd rfl (Zo rfl)) (xp (xn (i:=2) xcb.nd rfl (Zo rfl)) (xag)))))
   (xj (x0 (i:=3) xcb.nd rfl (Zo rfl) (xr (ok_ay T) (hr.mono (by decide)) rfl T.g_ay T.F_ay.kp T.b_ay .nil xg (xa (pv 0) (xa (pv 2) (xf)))))
   (xj (x0 (i:=4) xcb.nd rfl (Zo rfl) (xr (ok_aq T) (hr.mono (by decide)) rfl T.g_aq T.F_aq.kp T.b_aq .nil xg (xa (xj9 xsr (pv 0) (xh0 (xo)) (xh0 (xo))) (xa (pv 1) (xa (pv 2) (xf))))))
   (xj (x0 (i:=5) xcb.nd rfl (Zo rfl) (xr (ok_ap T) (hr.mono (by decide)) rfl T.g_ap T.F_ap.kp T.b_ap .nil xg (xa (pv 1) (xa (pv 2) (xa (pv 4) (xa (pv 3) (xf)))))))
   (xj (x0 (i:=6) xcb.nd rfl (Zo rfl) (xr (ok_av T) (hr.mono (by decide)) rfl T.g_av T.F_av.kp T.b_av .nil xg (xa (xr (ok_ai T) (hr.mono (by decide)) rfl T.g_ai T.F_ai.kp T.b_ai .nil xg (xa (pv 0) (xa (xo) (xf)))) (xa (pv 4) (xa (pv 2) (xa (pv 3) (xf)))))))
   (xj (x0 (i:=7) xcb.nd rfl (Zo rfl) (xr (xdx T) (hr.mono (by decide)) rfl T.g_drawn T.F_drawn.kp T.b_drawn .nil xg (xa (pv 5) (xa (pv 6) (xf)))))
   (xj (x0 (i:=8) xcb.nd rfl (Zo rfl) (xr (ok_ah T) (hr.mono (by decide)) rfl T.g_ah T.F_ah.kp T.b_ah .nil xg (xa (pv 6) (xf))))
   (xj (xcc (xap (xaa (xek (xbp hr)) (xr (xdx T) (hr.mono (by decide)) rfl T.g_drawn T.F_drawn.kp T.b_drawn .nil xg (xa (xaf (pv 5) T.c_b T.m_d (ok_d T) (hr.mono (by decide)) T.b_d .nil xg) (xa (pv 8) (xf)))) (xr (ok_aa T) (hr.mono (by decide)) rfl T.g_aa T.F_aa.kp T.b_aa .nil xg (xa (pv 7) (xf))) (x9 _)) (xk (xz (xf7))) (x8)))
   (xj (xcc (xap (xaa (xek (xbp hr)) (xr (xdx T) (hr.mono (by decide)) rfl T.g_drawn T.F_drawn.kp T.b_drawn .nil xg (xa (xaf (pv 5) T.c_b T.m_m (ok_m T) (hr.mono (by decide)) T.b_m .nil xg) (xa (xr (ok_an T) (hr.mono (by decide)) rfl T.g_an T.F_an.kp T.b_an .nil xg (xa (pv 6) (xa (pv 2) (xf)))) (xf)))) (xdm rfl rfl T.n_list rfl T.n_reversed (xa (pv 7) (xf))) (x9 _)) (xk (xz (xf7))) (x8)))
   (xj (xcc (xap (xaa (xek (xbp hr)) (xr (xdx T) (hr.mono (by decide)) rfl T.g_drawn T.F_drawn.kp T.b_drawn .nil xg (xa (xaf (xaf (pv 5) T.c_b T.m_d (ok_d T) (hr.mono (by decide)) T.b_d .nil xg) T.c_b T.m_m (ok_m T) (hr.mono (by decide)) T.b_m .nil xg) (xa (xr (ok_an T) (hr.mono (by decide)) rfl T.g_an T.F_an.kp T.b_an .nil xg (xa (pv 8) (xa (pv 2) (xf)))) (xf)))) (xdm rfl rfl T.n_list rfl T.n_reversed (xa (xr (ok_aa T) (hr.mono (by decide)) rfl T.g_aa T.F_aa.kp T.b_aa .nil xg (xa (pv 7) (xf))) (xf))) (x9 _)) (xk (xz (xf7))) (x8)))
   (xj (x0 (i:=9) xcb.nd rfl (Zo rfl) (xr (xia T) (hr.mono (by decide)) rfl T.g_seen T.F_seen.kp T.b_seen .nil xg (xa (pv 7) (xf))))
   (xj (x0 (i:=10) xcb.nd rfl (Zo rfl) (xr (xia T) (hr.mono (by decide)) rfl T.g_seen T.F_seen.kp T.b_seen .nil xg (xa (xr (ok_aa T) (hr.mono (by decide)) rfl T.g_aa T.F_aa.kp T.b_aa .nil xg (xa (pv 7) (xf))) (xf))))
   (xj (x0 (i:=11) xcb.nd rfl (Zo rfl) (xr (xia T) (hr.mono (by decide)) rfl T.g_seen T.F_seen.kp T.b_seen .nil xg (xa (xdm rfl rfl T.n_list rfl T.n_reversed (xa (pv 7) (xf))) (xf))))
   (xj (xcc (xap (PW.pt (xc0 (xbe (xa6 (xr (ok_a2 T) (hr.mono (by decide)) rfl T.g_a2 T.F_a2.kp T.b_a2 .nil xg (xa (xaf (xba xbd (pv 9) (xo) (fun _ _=>rfl)) T.c_b T.m_d (ok_d T) (hr.mono (by decide)) T.b_d .nil xg) (xa (xba xbd (pv 10) (xo) (fun _ _=>rfl)) (xf)))))) (xcp (xbe (xa6 (xr (ok_a2 T) (hr.mono (by decide)) rfl T.g_a2 T.F_a2.kp T.b_a2 .nil xg (xa (xaf (xba xbd (pv 9) (xo) (fun _ _=>rfl)) T.c_b T.m_m (ok_m T) (hr.mono (by decide)) T.b_m .nil xg) (xa (xba xbd (pv 11) (xo) (fun _ _=>rfl)) (xf))))))))) (xk (xz (xf7))) (x8)))
   (xk (xz (xcd (xby (xem (xbp hr)) (xba xbd (pv 10) (xo) (fun _ _=>rfl)) (xr (ok_ah T) (hr.mono (by decide)) rfl T.g_ah T.F_ah.kp T.b_ah .nil xg (xa (xba xbd (pv 9) (xo) (fun _ _=>rfl)) (xf))) (x9 _)) (xcq (xby (xem (xbp hr)) (xba xbd (pv 11) (xo) (fun _ _=>rfl)) (xr (ok_an T) (hr.mono (by decide)) rfl T.g_an T.F_an.kp T.b_an .nil xg (xa (xba xbd (pv 9) (xo) (fun _ _=>rfl)) (xa (pv 2) (xf)))) (x9 _))))))))))))))))))),?_⟩
  obtain⟨hs,nl,q⟩:=h;refine⟨_,rfl,sc,ns,rfl,hs,fun w' h' H1 p1 w1 w2 h1 h2 s1 g1=>⟨p1,_,rfl,SqT.of g1,rfl,_,_,rfl,_,_,rfl,rfl,?_⟩⟩;refine⟨_,rfl,_,rfl,sc,ns,h',rfl,Same.seqL s1 hs,h2,fun ss rs H2 ls l32 slt sb s2 fls e2 sl2=>?_⟩;have s02:=s1.trans s2;have sok:SsOk (h':Int) ss:=⟨xgz slt,l32,sb⟩
  obtain⟨ms,ems,m12⟩:=xp2 ns;refine⟨_,rfl,3,rfl,15,rfl,sc,_,rfl,Same.seqL s02 hs,fun lc hlc=>?_⟩;rw[ems];have s3:Same H2 (upd H2 lc (.lst (ms.map V.int))):=xq (Same.refl _) hlc;have g3:upd H2 lc (.lst (ms.map V.int)) lc=some (.lst (ms.map V.int)):=xb;revert s3 g3;generalize upd H2 lc (.lst (ms.map V.int))=H3;intro s3 g3;refine⟨_,rfl,_,rfl,lc,ms,w',h',rfl,g3,m12,w1,w2,h1,h2,fun H5 lp ps qs pok _ s4 flp e5p pt5=>?_⟩;have s24:=s3.trans s4;have s05:=s02.trans s24;have e5s:=s24 _ _ e2;have sl5:=sl2.keep (Same.tups s24);refine⟨_,rfl,_,rfl,_,rfl,_,rfl,lp,ls,w',h',ps,ss,qs,rs,rfl,w1,w2,h1,h2,e5p,pt5,pok,e5s,sl5,sok,slt,fun H6 a dp do_ s6 dr6=>?_⟩;have s06:=s05.trans s6;refine⟨_,rfl,sc,ns,2,rfl,Same.seqL s06 hs,by decide,by decide,fun c2=>⟨_,rfl,_,rfl,_,rfl,w',c2,lp,ls,h',ps,ss,qs,rs,rfl,h2,s6 _ _ e5p,pt5.keep (Same.tups s6),pok,s6 _ _ e5s,sl5.keep (Same.tups s6),sok,fun H7 l prs ts pal s7 fl e7 pr7=>?_⟩⟩;have o:Pict w' h' ps ss prs:=⟨w1,w2,h1,h2,pok,sok,pal⟩
  have om:=o.mir;have ot:=o.tur;have omt:=om.tur;have dr7:=dr6.same s7;refine⟨_,rfl,_,rfl,a,l,dp,do_,w',h',ps,ss.reverse,ss,prs,ts,rfl,dr7,e7,pr7,pal.ok,pal.len,fun H8 lr s8 flr e8=>?_⟩;rw[o.drw (.refl _)] at e8;refine⟨_,rfl,l,ts,prs,(w':Int),rfl,s8 _ _ e7,pr7.keep (Same.tups s8),pal.len,fun H9 lo uo s9 e9o pr9o=>?_⟩;have s79:=s8.trans s9;have dr9:=dr7.same s79;have e9:=s9 _ _ e8;have e9l:=s79 _ _ e7;have pr9:=pr7.keep (Same.tups s79);clear dr7 e8 e7 pr7 dr6;have pmr:∀ ss':List Seat,ss'.Perm ss.reverse->ss'.Perm ss:=fun _ pm=>pm.trans (Ym _);refine⟨fun σ HX=>Same H9 HX/\σ=[some (.ref sc),some (.int (w':Int)),some (.int (h':Int)),some (.ref ls),some (.ref lp),some (.ref a),some (.ref l),some (.ref lr),some (.ref lo),none,none,none],?_,?_⟩
  .obtain ⟨⟨dx,hpi⟩,_⟩:=id dr9.pic;refine⟨_,rfl,a,dx,_,rfl,hpi,xan (by decide +kernel),a,dp,do_,_,_,ps,ss.reverse,rfl,dr9.pic,dr9.sts,pok,dr9.ok,fun H10 a' dp' do' ss' s10 _ _ _ pm _ pic' sts'=>?_⟩;have pm':=pmr _ pm;have dr':=Dr.new (ps:=ps.map (mirP w')) (ss:=ss'.map mirS) pic' sts' om.pok (xfw (SsOk.perm pm' sok));refine⟨_,rfl,a',lo,dp',do',w',h',ps.map (mirP w'),ss'.map mirS,_,prs.map (xc4 w'),uo,rfl,dr',s10 _ _ e9o,pr9o.keep (Same.tups s10),om.pal.ok,om.pal.len,fun H11 l11 s11 f11 e11=>?_⟩;rw[om.drw ((xfq dr'.ok).trans (pm'.map _)),gmir] at e11;refine⟨_,rfl,lr,w'+2,xw w' h' ps ss prs,rfl,(s10.trans s11) _ _ e9,o.tx,fun H12 l12 s12 e12=>?_⟩;exact⟨1,1,_,_,xf4 (s12 _ _ e11),xf4 e12,by decide,by decide,_,rfl,ifN (by rw[xb6]; decide) ⟨(s10.trans s11).trans s12,rfl⟩⟩
  rintro σ H10 ⟨s10,rfl⟩;refine⟨fun σ HX=>Same H10 HX/\σ=[some (.ref sc),some (.int (w':Int)),some (.int (h':Int)),some (.ref ls),some (.ref lp),some (.ref a),some (.ref l),some (.ref lr),some (.ref lo),none,none,none],?_,?_⟩
  .have dr10:=dr9.same s10;obtain⟨⟨dx,hpi⟩,_⟩:=id dr10.pic;refine⟨_,rfl,a,dx,_,rfl,hpi,xan (by decide +kernel),a,dp,do_,_,_,ps,ss.reverse,rfl,dr10.pic,dr10.sts,pok,dr10.ok,fun H11 a' dp' do' ss' s11 _ _ _ pm _ pic' sts'=>?_⟩;have pm':=pmr _ pm;have s911:=s10.trans s11;refine⟨_,rfl,_,rfl,l,ts,prs,(h':Int),rfl,s911 _ _ e9l,pr9.keep (Same.tups s911),pal.len,fun H12 lq uq s12 e12 pr12=>?_⟩;have dr':=(Dr.new (ps:=ps.map (turP h')) (ss:=ss'.map (turS h')) pic' sts' ot.pok (xfs (SsOk.perm pm' sok))).same s12;refine⟨a',lq,dp',do',w',h',ps.map (turP h'),ss'.map (turS h'),_,prs.map (xcg h'),uq,rfl,dr',e12,pr12,ot.pal.ok,ot.pal.len,fun H13 l13 s13 f13 e13=>?_⟩;rw[ot.drw ((xfq dr'.ok).trans (pm'.map _)),gtur] at e13;have s913:=(s911.trans s12).trans s13;refine⟨_,rfl,lr,_,rfl,SqL.of (s913 _ _ e9),fun l14 hl14=>?_⟩;rw[xki];have s14:Same H13 (upd H13 l14 (.lst (GV (xw w' h' ps ss prs).reverse))):=xq (Same.refl _) hl14;have g14:upd H13 l14 (.lst (GV (xw w' h' ps ss prs).reverse)) l14=some (.lst (GV (xw w' h' ps ss prs).reverse)):=xb;revert s14 g14;generalize upd H13 l14 (.lst (GV (xw w' h' ps ss prs).reverse))=H14;intro s14 g14;exact⟨1,1,_,_,xf4 (s14 _ _ e13),xf4 g14,by decide,by decide,_,rfl,ifN (by rw[xb6]; decide) ⟨((s11.trans s12).trans s13).trans s14,rfl⟩⟩
  rintro σ H11 ⟨s11,rfl⟩;have s911:=s10.trans s11;refine⟨fun σ HX=>Same H11 HX/\σ=[some (.ref sc),some (.int (w':Int)),some (.int (h':Int)),some (.ref ls),some (.ref lp),some (.ref a),some (.ref l),some (.ref lr),some (.ref lo),none,none,none],?_,?_⟩
  .have dr11:=dr9.same s911;obtain⟨⟨dx,hpi⟩,_⟩:=id dr11.pic;refine⟨_,rfl,a,dx,_,rfl,hpi,xan (by decide +kernel),a,dp,do_,_,_,ps,ss.reverse,rfl,dr11.pic,dr11.sts,pok,dr11.ok,fun H12 a' dp' do' ss' s12 _ _ _ pm _ pic' sts'=>?_⟩;have pm':=pmr _ pm;have s912:=s911.trans s12;have so':=xfw (SsOk.perm pm' sok);obtain⟨⟨dx',hpi'⟩,_⟩:=id pic';refine⟨a',dx',_,rfl,hpi',xan (by decide +kernel),a',dp',do',_,_,ps.map (mirP w'),ss'.map mirS,rfl,pic',sts',om.pok,so',fun H13 a2 dp2 do2 ss2 s13 _ _ _ pm2 _ pic2 sts2=>?_⟩;have s913:=s912.trans s13;have pm3:ss2.Perm (ss.map mirS):=pm2.trans (pm'.map _);refine⟨_,rfl,_,rfl,lo,uo,prs.map (xc4 w'),(h':Int),rfl,s913 _ _ e9o,pr9o.keep (Same.tups s913),om.pal.len,fun H14 lq uq s14 e14 pr14=>?_⟩;have dr':=(Dr.new (ps:=(ps.map (mirP w')).map (turP h')) (ss:=ss2.map (turS h')) pic2 sts2 omt.pok (xfs (SsOk.perm pm2 so'))).same s14;refine⟨a2,lq,dp2,do2,w',h',(ps.map (mirP w')).map (turP h'),ss2.map (turS h'),_,(prs.map (xc4 w')).map (xcg h'),uq,rfl,dr',e14,pr14,omt.pal.ok,omt.pal.len,fun H15 l15 s15 f15 e15=>?_⟩;rw[omt.drw ((xfq dr'.ok).trans (pm3.map _)),gtur,gmir] at e15;have s915:=(s913.trans s14).trans s15;refine⟨_,rfl,lr,w'+2,xw w' h' ps ss prs,rfl,s915 _ _ e9,o.tx,fun H16 l16 s16 e16=>?_⟩;refine⟨l16,_,rfl,SqL.of e16,fun l17 hl17=>?_⟩;rw[xki];have s17:Same H16 (upd H16 l17 (.lst (GV ((xw w' h' ps ss prs).map Yr).reverse))):=xq (Same.refl _) hl17;have g17:upd H16 l17 (.lst (GV ((xw w' h' ps ss prs).map Yr).reverse)) l17=some (.lst (GV ((xw w' h' ps ss prs).map Yr).reverse)):=xb;revert s17 g17;generalize upd H16 l17 (.lst (GV ((xw w' h' ps ss prs).map Yr).reverse))=H17;intro s17 g17;exact⟨1,1,_,_,xf4 ((s16.trans s17) _ _ e15),xf4 g17,by decide,by decide,_,rfl,ifN (by rw[xb6]; decide) ⟨(((s12.trans s13).trans (s14.trans s15)).trans s16).trans s17,rfl⟩⟩
  rintro σ H12 ⟨s12,rfl⟩;have s912:=s911.trans s12;have e12:=s912 _ _ e9;refine⟨_,rfl,lr,w',xw w' h' ps ss prs,rfl,e12,o.good,o.sees,fun H13 q1 b1 dp1 do1 lp1 ts1 es1 fs1 s13 _ _ _ _ sn1=>?_⟩;refine⟨_,rfl,lr,w'+2,xw w' h' ps ss prs,rfl,s13 _ _ e12,o.tx,fun H14 l14 s14 e14=>?_⟩;rw[<- gmir] at e14;refine⟨l14,w',_,rfl,e14,om.good,om.sees,fun H15 q2 b2 dp2 do2 lp2 ts2 es2 fs2 s15 _ _ _ _ sn2=>?_⟩;have s1315:=s14.trans s15;refine⟨_,rfl,lr,_,rfl,SqL.of (s1315 _ _ (s13 _ _ e12)),fun l16 hl16=>?_⟩;rw[xki,<- gtur];have s16:Same H15 (upd H15 l16 (.lst (GV (xw w' h' (ps.map (turP h')) (ss.map (turS h')) (prs.map (xcg h')))))):=xq (Same.refl _) hl16;have g16:upd H15 l16 (.lst (GV (xw w' h' (ps.map (turP h')) (ss.map (turS h')) (prs.map (xcg h'))))) l16=some (.lst (GV (xw w' h' (ps.map (turP h')) (ss.map (turS h')) (prs.map (xcg h'))))):=xb;revert s16 g16;generalize upd H15 l16 (.lst (GV (xw w' h' (ps.map (turP h')) (ss.map (turS h')) (prs.map (xcg h')))))=H16;intro s16 g16;refine⟨l16,w',_,rfl,g16,ot.good,ot.sees,fun H17 q3 b3 dp3 do3 lp3 ts3 es3 fs3 s17 _ _ _ _ sn3=>?_⟩;have s1517:=s16.trans s17;have sn1:=sn1.same (s1315.trans s1517);have sn2:=sn2.same s1517;have gl:=xb7 w' h' (xam w' ps ss prs);have glm:=xb7 w' h' (xam w' (ps.map (mirP w')) (ss.map mirS) (prs.map (xc4 w')));have glt:=xb7 w' h' (xam w' (ps.map (turP h')) (ss.map (turS h')) (prs.map (xcg h')));have dr1:=sn1.dr;have dr2:=sn2.dr;have dr3:=sn3.dr;rw[gl] at dr1;rw[glm] at dr2;rw[glt] at dr3;have pok1:=xe8 o.good sn1.pe;rw[gl] at pok1;obtain⟨⟨dx1,hpi1⟩,_⟩:=id dr1.pic;refine⟨fun σ HX=>Same H17 HX/\σ=[some (.ref sc),some (.int (w':Int)),some (.int (h':Int)),some (.ref ls),some (.ref lp),some (.ref a),some (.ref l),some (.ref lr),some (.ref lo),some (.ref q1),some (.ref q2),some (.ref q3)],?_,?_⟩
  .refine ⟨_,rfl,q1,_,0,.ref b1,rfl,rfl,SqT.of sn1.q,rfl,b1,dx1,_,rfl,hpi1,xan (by decide +kernel),b1,dp1,do1,_,_,_,_,rfl,dr1.pic,dr1.sts,pok1,dr1.ok,fun H18 a' dp' do' ss' s18 _ _ _ pm _ pic' sts'=>?_⟩;refine⟨_,rfl,q2,_,0,.ref b2,rfl,rfl,SqT.of (s18 _ _ sn2.q),rfl,a',b2,dp',do',dp2,do2,_,_,_,_,_,_,rfl,pic',Pic.same s18 dr2.pic,xnl o om xo4 sn1.pe sn2.pe,(xec pok1).nn,fun p hp=>((xec pok1).ok p hp).nm,sts',dr2.sts.same s18,xo2 o om xkg (fun _=>rfl) (fun _ z=>z) pm,fun H19 s19=>⟨_,rfl,ifN (by decide) ?_⟩⟩;have s1719:=s18.trans s19;have dr1':=dr1.same s1719;refine⟨_,rfl,q1,_,0,.ref b1,rfl,rfl,SqT.of (s1719 _ _ sn1.q),rfl,b1,dx1,_,rfl,s1719 _ _ hpi1,xan (by decide +kernel),b1,dp1,do1,_,_,_,_,rfl,dr1'.pic,dr1'.sts,pok1,dr1'.ok,fun H20 a4 dp4 do4 ss4 s20 _ _ _ pm4 _ pic4 sts4=>?_⟩;have s1720:=s1719.trans s20;exact⟨_,rfl,q3,_,0,.ref b3,rfl,rfl,SqT.of (s1720 _ _ sn3.q),rfl,a4,b3,dp4,do4,dp3,do3,_,_,_,_,_,_,rfl,pic4,Pic.same s1720 dr3.pic,xnl o ot xn5 sn1.pe sn3.pe,(xeh pok1).nn,fun p hp=>((xeh pok1).ok p hp).nm,sts4,dr3.sts.same s1720,xo2 o ot (xjq h') (fun _=>rfl) (xlf h') pm4,fun H21 s21=>⟨_,rfl,ifN (by decide) ⟨s1720.trans s21,rfl⟩⟩⟩
  rintro σ H18 ⟨s18,rfl⟩;have sn1':=sn1.same s18;have sn2':=sn2.same s18;have sn3':=sn3.same s18;have fl1:(fs1.map (toPr w' (xw w' h' ps ss prs))).length<=12:=(xjc o.good sn1.pe sn1.pf).len;refine⟨_,rfl,q2,_,1,.ref lp2,rfl,rfl,SqT.of sn2'.q,rfl,_,rfl,q1,_,1,.ref lp1,rfl,rfl,SqT.of sn1'.q,rfl,lp1,ts1,_,(w':Int),rfl,sn1'.lp,sn1'.pr,fl1,fun H19 l19 u19 s19 e19 pr19=>?_⟩;have eqm:=xot o om xo4 (fun _=>rfl) (fun _=>rfl) (fun p q e=>by show (!p.2.1,p.2.2)=(!q.2.1,q.2.2); rw[e]) sn1.pf sn2.pf sn1.lf sn2.lf;have d2:=(sn2'.pr.keep (Same.tups s19)).dv (K:=K) (s19 _ _ sn2'.lp);rw[eqm] at d2;refine⟨2,2,_,_,d2,pr19.dv e19,by decide,by decide,true,by rw[xb6],ifP rfl ?_⟩;refine⟨_,rfl,q3,_,1,.ref lp3,rfl,rfl,SqT.of (s19 _ _ sn3'.q),rfl,_,rfl,q1,_,1,.ref lp1,rfl,rfl,SqT.of (s19 _ _ sn1'.q),rfl,_,rfl,lp1,ts1,_,(h':Int),rfl,s19 _ _ sn1'.lp,sn1'.pr.keep (Same.tups s19),fl1,fun H20 l20 u20 s20 e20 pr20=>?_⟩;have eqt:=xot o ot xn5 (fun _=>rfl) (fun _=>rfl) (fun p q e=>by show (p.2.1,(h':Int)+1-p.2.2)=(q.2.1,(h':Int)+1-q.2.2); rw[e]) sn1.pf sn3.pf sn1.lf sn3.lf;have d3:=(sn3'.pr.keep (Same.tups (s19.trans s20))).dv (K:=K) ((s19.trans s20) _ _ sn3'.lp);rw[eqt] at d3;refine⟨2,2,_,_,d3,pr20.dv e20,by decide,by decide,?_⟩;rw[xb6];exact q _
end
end S76
-- the names of the twins of whole trees and heaps are taken here,so that the head makes no such twins (they are what makes its compiled file large); see NOTE.md
namespace PySem.W.Fast
def tw6748063794950055775:=0
def tw3841144422816380578:=0
def tw15142120499967103967:=0
def tw5184294701223162033:=0
def tw18335566327502737258:=0
def tw2731554730695513963:=0
def tw1450929070711323545:=0
def tw13869570938249213117:=0
def tw2998190655809260605:=0
def tw15967859877155628706:=0
def tw15286050951330669445:=0
def tw4739113311778653852:=0
def tw4688311031100034968:=0
def tw10180953150251209057:=0
def tw1372454410159127566:=0
def tw9466011128211454620:=0
def tw6465090719809538260:=0
def tw4613246167940581367:=0
def tw11566817743855154486:=0
def tw3743718962474942205:=0
def tw16853249632277981502:=0
def tw13130320604198894641:=0
def tw3896691447422519893:=0
def tw18061272107778306606:=0
def tw17893296022547893918:=0
def tw9208156280233177003:=0
def tw1343662985751246617:=0
def tw9987521305074037772:=0
def tw11739568701579245892:=0
def tw1932983974182063196:=0
def tw10841994221094793653:=0
def tw13448861097251255650:=0
def tw14159941818378648819:=0
def tw15519602687725430601:=0
def tw17435086381084308898:=0
def tw216265983258883827:=0
def tw11004774853039505605:=0
def tw13134727893677012379:=0
def tw18220548197513739668:=0
def tw5427501552012628761:=0
def tw12345690827034117844:=0
def tw556455740982486109:=0
def tw10567942141140463108:=0
def tw11143657114543914163:=0
def tw1018929267029288802:=0
def tw11393862333949923135:=0
def tw4980214624113153834:=0
def tw11956545166010898278:=0
def tw14733272535949256070:=0
def tw5808074530531047519:=0
def tw18276656375051050041:=0
def tw1881050090375306406:=0
def tw5809009885356350266:=0
def tw13285504614519130555:=0
def tw17488764657611241886:=0
def tw17917121546985770682:=0
def tw2388892676172934607:=0
def tw13243791722068282875:=0
def tw1488125635948617599:=0
def tw28010955681557709:=0
def tw2635798348745856475:=0
def tw3493708059115032077:=0
def tw16686659843047563462:=0
def tw4383365420676431617:=0
def tw14275638882468775240:=0
def tw13809018961530787016:=0
def tw12940043898738465060:=0
def tw7012535988206811110:=0
def tw14145032678486496478:=0
def tw1644753046872702498:=0
def tw11285495659641452792:=0
def tw11419823723305274823:=0
def tw7913535002052711021:=0
def tw11627174949357472434:=0
def tw11478188259110358253:=0
def tw8615764187360496495:=0
def tw9657912378298867462:=0
def tw15721579806919744088:=0
def tw3945893233786538681:=0
def tw13373984975890568897:=0
def tw1872996499036997590:=0
def tw14892357797396580878:=0
def tw10525618754834049936:=0
def tw9336572713549483982:=0
def tw14980562217499823337:=0
def tw3038075333011530140:=0
def tw9847884760136504737:=0
def tw5936819863503733826:=0
def tw7979804689297727516:=0
def tw9553386092255799283:=0
def tw6118072181360022721:=0
def tw17551916004014049418:=0
def tw1412375990488486110:=0
def tw16233119377695540516:=0
def tw4977166947982424199:=0
def tw15072952330733786651:=0
def tw6504686824364528520:=0
def tw18111865083898993424:=0
def tw2497211286041499606:=0
def tw8538817611409637248:=0
def tw12373210527245625733:=0
def tw8062522143923521030:=0
def tw5703606279767342122:=0
def tw8859166618450472141:=0
def tw13861483039309273046:=0
def tw6949039230119732033:=0
def tw11839021984034249192:=0
def tw2381932076526129356:=0
def tw13498324104881197542:=0
def tw2126536845032407460:=0
def tw6343447551552743046:=0
def tw4369668897351266010:=0
def tw8348609109610680333:=0
def tw10644447526314713413:=0
def tw12368119700703842026:=0
def tw7723754008863792365:=0
def tw18398484870296803948:=0
def tw6028953476836520163:=0
def tw10825335778464021356:=0
def tw12379038780318986546:=0
def tw15527305875064805188:=0
def tw13174440222507923362:=0
def tw8986487838377021424:=0
def tw4046825301206558937:=0
def tw6770495951932661747:=0
def tw9275953656598274745:=0
def tw6076256431481675254:=0
def tw4559551576932958677:=0
def tw5510393214938340912:=0
def tw8831362186909461397:=0
def tw12106254537661037186:=0
def tw16460201234079608963:=0
def tw15112384557414797676:=0
def tw11395987845528784913:=0
def tw3350935245150106666:=0
def tw8646007192900679385:=0
def tw1594757004016383878:=0
def tw8146015270458388520:=0
def tw5458831103197727470:=0
def tw16440993844485866869:=0
def tw10172524177309434455:=0
def tw11594880426157825849:=0
def tw12782615073244100909:=0
def tw8618078960337222264:=0
def tw14510837434830850465:=0
def tw856766187115866010:=0
def tw4791945758293783194:=0
def tw5624234968333323709:=0
def tw2317788471628045096:=0
def tw12301788776376740215:=0
def tw12978845604931146327:=0
def tw17929698624061673199:=0
def tw12777220554291599200:=0
def tw5696554852055398973:=0
def tw10434224263537040646:=0
def tw3055262391344706420:=0
def tw13234769549038966181:=0
def tw9079480408047613741:=0
def tw7110768118631667074:=0
def tw9951155999596533901:=0
def tw17492671091374060436:=0
def tw8358587755745830143:=0
def tw4999559648129755640:=0
def tw8444180878272202809:=0
def tw11471762323631541521:=0
def tw18045952695698326839:=0
def tw2706590203216128714:=0
def tw14533121510991991950:=0
def tw2818357341857138496:=0
def tw8381621394443929127:=0
def tw12999033575327991240:=0
def tw12225075051478225422:=0
def tw8535318227417873385:=0
def tw17771882997940399286:=0
def tw8689471170817911127:=0
def tw7280545027519276992:=0
def tw12345763394143376997:=0
def tw13210737116572538076:=0
def tw4187862713143513980:=0
def tw11004150624538344272:=0
def tw13360444445221916137:=0
def tw16230723131602589452:=0
def tw7383950212459951604:=0
def tw16103345341579974098:=0
def tw10502757526920403320:=0
def tw8876346768142138491:=0
def tw4943768435436730804:=0
def tw15157705534966972556:=0
def tw6102366377553929394:=0
def tw14671426212530066264:=0
def tw13353294466669780143:=0
def tw9019418334625456267:=0
def tw16082892264827835054:=0
def tw16855026496823626125:=0
def tw16142456409495256950:=0
def tw12307868100307565490:=0
def tw3295412146055357707:=0
def tw11131870093163380894:=0
def tw17786888944174372825:=0
def tw1196383575245754016:=0
def tw6681059641139838323:=0
def tw8982516200633916732:=0
def tw10667613038776426820:=0
def tw4316936475918639070:=0
def tw1535081587909235253:=0
def tw13801236902848461931:=0
def tw9164722512792702411:=0
def tw3484659236012794219:=0
def tw8093858420372049044:=0
def tw10919969632503345278:=0
def tw6334403381667109526:=0
def tw12182144325468517137:=0
def tw8431853613437187461:=0
def tw14158326537574292882:=0
def tw9034600681786094222:=0
def tw11343959162803311262:=0
def tw14631671917387142601:=0
def tw3689838803601069055:=0
def tw328206071741580915:=0
def tw14057999065494782044:=0
def tw758538506745601878:=0
def tw13611156606581858999:=0
def tw11929859960003952210:=0
def tw7814074479147461725:=0
def tw9350279336294266581:=0
def tw5865826919100515206:=0
def tw1378514647630476840:=0
def tw6279631935850578583:=0
def tw9911249406099910630:=0
def tw15723011373242727089:=0
def tw10087643836073622137:=0
def tw13619629951485153673:=0
def tw4960718023089181490:=0
def tw164597378283969956:=0
def tw10630992961791456128:=0
def tw3466245233600415733:=0
def tw237783113964874122:=0
def tw5050367205173591298:=0
def tw7817986497798119628:=0
def tw13099646079514892546:=0
def tw13521478886478070602:=0
def tw17981833094395677959:=0
def tw7699959575097024930:=0
def tw15202509077912222138:=0
def tw531349004758943849:=0
def tw11219714886430162873:=0
def tw16648737843175858353:=0
def tw8742026775956508959:=0
def tw5323025260503236494:=0
def tw15453849893751756455:=0
def tw17536092505122263648:=0
def tw7205820637544468335:=0
def tw2660549921076596725:=0
def tw16974111328893639968:=0
def tw8438008131342103051:=0
def tw2153114262436070573:=0
def tw9274881046039507736:=0
def tw12474765026698182571:=0
def tw4101138421717083845:=0
def tw1726867683214183579:=0
def tw7164458221884092428:=0
def tw18031705378799496869:=0
def tw3987441154406110106:=0
def tw7109352912942996713:=0
def tw16273914018615219487:=0
def tw13243407978443956813:=0
def tw9474579709575003711:=0
def tw9608120043318842418:=0
def tw12040616705949750002:=0
def tw17111468714069690921:=0
def tw8603524361286281249:=0
def tw6528348806349421650:=0
def tw5975793605766245722:=0
def tw2236270200507684228:=0
def tw13352817819204990294:=0
def tw1919877430817501540:=0
def tw16848235921168970652:=0
def tw13805063148005880229:=0
def tw14757535846194211997:=0
def tw16034317521430414202:=0
def tw1001733070656769236:=0
def tw5789694496110460024:=0
def tw15462086862666805603:=0
def tw2584284324711103800:=0
def tw2974854273408936338:=0
def tw560059681549982913:=0
def tw3729106001703182128:=0
def tw12757120207237649942:=0
def tw8273413233858228725:=0
def tw4640618688993321024:=0
def tw802493851863829822:=0
def tw609175595362266776:=0
def tw14280284219539432277:=0
def tw2124920270524628688:=0
def tw3317323107154815856:=0
def tw8471511110056635754:=0
def tw12956327349883534996:=0
def tw11526835631488629404:=0
def tw13907624755032470510:=0
def tw9743082696222178736:=0
def tw12659208983855943267:=0
def tw8086890588777342189:=0
def tw14037856612216301321:=0
def tw13232056953928120490:=0
def tw7983785049331924115:=0
def tw470423110089095738:=0
def tw7849739193587684916:=0
def tw11960810931954910835:=0
def tw13054204468295900411:=0
def tw12331915480144893146:=0
def tw2586911181090650519:=0
def tw1053704693607142231:=0
def tw16999586277145761884:=0
def tw11756756199150220518:=0
def tw15252804290710085505:=0
def tw5601199494386897401:=0
def tw1468165855867899907:=0
def tw16461826451848696003:=0
def tw2827303312821671843:=0
def tw10594903457815186683:=0
def tw14402668671563417998:=0
def tw8187948032529697391:=0
def tw10901561094697682634:=0
def tw146941789934544715:=0
def tw7134509127768659338:=0
def tw10382024420412990963:=0
def tw4437952016457598532:=0
def tw6643374343571818091:=0
def tw11180804248359983727:=0
def tw4618899138898987784:=0
def tw5489732041555544365:=0
def tw17978531397489940567:=0
def tw6883409901190652597:=0
def tw13471357098319437152:=0
def tw4597909366366603840:=0
def tw1867544413712806871:=0
def tw2077260300076684749:=0
def tw5980747013662162542:=0
def tw11111427808130819446:=0
def tw8259924128861797858:=0
def tw14206111094642905028:=0
def tw17219757647199391990:=0
def tw14786068542600487092:=0
def tw15823584834812335656:=0
def tw12163545711179538275:=0
def tw1398723684369424835:=0
def tw2927665412047196363:=0
def tw8770885292682589215:=0
def tw8430390753268962795:=0
def tw838800194574325692:=0
def tw7969996291915413984:=0
def tw325738680329355555:=0
def tw12594256009276226157:=0
def tw3296096194278598749:=0
def tw509716373587742981:=0
def tw15149730206555038089:=0
def tw260320147197892919:=0
def tw1118358890634620554:=0
def tw15533441783093654460:=0
def tw8077212475136901156:=0
def tw11076476627360176977:=0
def tw6861273751963420403:=0
def tw12819164716209189839:=0
def tw5048418338069100988:=0
def tw2961938740252318994:=0
def tw1165117348109177431:=0
def tw8070905584335548488:=0
def tw11245643352312831290:=0
def tw6978159609242769387:=0
def tw11650633969408625799:=0
def tw14205942544519912617:=0
def tw5037255400618658774:=0
def tw17284560520176040009:=0
def tw10096372682419315168:=0
def tw14426755991072502039:=0
def tw15261407193232590237:=0
def tw10568745338274475938:=0
def tw13752240310972807421:=0
def tw5640594336139096489:=0
def tw15393612343202359215:=0
def tw11612968370772948602:=0
def tw10440895618313677153:=0
def tw6282717500697820127:=0
def tw6467290166121910827:=0
def tw11165280751921806365:=0
def tw6094544627074782917:=0
def tw16310598455833510678:=0
def tw17283271827992421361:=0
def tw5161744517229020394:=0
def tw4749480580580092837:=0
def tw2376571646667422019:=0
def tw16752280349766826479:=0
def tw16734572918195340625:=0
def tw16852053439450196453:=0
def tw17092391899691659998:=0
def tw6462814806693659211:=0
def tw7230666976437712310:=0
def tw12044618464141332634:=0
def tw2854591693651857219:=0
def tw10515822973682369362:=0
def tw4773660064232482746:=0
def tw11664742365944216024:=0
def tw13142682916156304469:=0
def tw13519788258464048354:=0
def tw4920673395075793528:=0
def tw17681507387891640553:=0
def tw2853239318599985897:=0
def tw6604114864645519415:=0
def tw2720524307818626697:=0
def tw3725539124373406473:=0
def tw9139653050238531203:=0
def tw2855777653335223386:=0
def tw2595030334742172531:=0
def tw10228270269582719005:=0
def tw9442008081347689525:=0
def tw568107377778810205:=0
def tw15137622267412862106:=0
def tw12457180626095725438:=0
def tw17307426297085348057:=0
def tw2241436500460698450:=0
def tw8077769437086200095:=0
def tw12045165302223883770:=0
def tw8012840176896895356:=0
def tw2498110000675845908:=0
def tw10899151652993608197:=0
def tw10773429828713412368:=0
def tw12227841093949867064:=0
def tw10720094937981722112:=0
def tw5560462947385058819:=0
def tw2396627716695133854:=0
def tw18405371246032194376:=0
def tw6005666767284903868:=0
def tw195333600748134835:=0
def tw667924102305508564:=0
def tw13549618165329031735:=0
def tw5706887181453884228:=0
def tw10145234973427176070:=0
def tw781219352203041837:=0
def tw4091401382289559766:=0
def tw11883737053167860128:=0
def tw511705709696571426:=0
def tw16179817688775226175:=0
def tw1402956646907301614:=0
def tw955453203061802341:=0
def tw1427151284877359889:=0
def tw9402326197733664405:=0
def tw12144348681660166606:=0
def tw7757545958194400223:=0
def tw9222613526527341251:=0
def tw7159388979390882531:=0
def tw8641250166963687879:=0
def tw16606804276783078872:=0
def tw11736682621543330741:=0
def tw7238776534392898106:=0
def tw6399522701246720234:=0
def tw9382539827547602155:=0
def tw14763995269680908084:=0
def tw18183030180395493577:=0
def tw495332929403156829:=0
def tw6958340980882077858:=0
def tw7439457666995764428:=0
def tw8647948055567703100:=0
def tw9299812884879207419:=0
def tw7533973758265115493:=0
def tw7297034367118194857:=0
def tw16720564785532982443:=0
def tw10403808987950362683:=0
def tw11632002360376400320:=0
def tw17873228891979617093:=0
def tw1862110039159999924:=0
def tw14229612607567355671:=0
def tw10230550060042422795:=0
def tw11909118485848008842:=0
def tw734741718150502703:=0
def tw4033248341322750098:=0
def tw6614799626905665684:=0
def tw16126299667013709997:=0
def tw7342596233620587902:=0
def tw18033325141325574448:=0
def tw9526878025201609232:=0
def tw12710133784589392604:=0
def tw17096048298819571168:=0
def tw4277694248245035424:=0
def tw249852587349601210:=0
def tw17652508989185241474:=0
def tw7703636861191497740:=0
def tw2525993992852900750:=0
def tw12319623121837750552:=0
def tw11849804430406431784:=0
def tw11165688028991324395:=0
def tw14553458100077201290:=0
def tw16345659914406171570:=0
def tw2007710053883402527:=0
def tw5993021787546100130:=0
def tw6721819918538973771:=0
def tw9324726363711758161:=0
def tw15918940754621873856:=0
def tw13105590658203148948:=0
def tw1099602175759793801:=0
def tw12558602521248107343:=0
def tw17262486454141010411:=0
def tw18062845935206548077:=0
def tw376975401324938987:=0
def tw14787404862583784809:=0
def tw1953478527376188277:=0
def tw10807677745552066333:=0
def tw3892377072059684912:=0
def tw9111654477235246230:=0
def tw16285890837093092228:=0
def tw2455852442124493603:=0
def tw3092337453741062959:=0
def tw10958598094538079589:=0
def tw8142049248673321421:=0
def tw481018685227191761:=0
def tw14348615623901950026:=0
def tw7395430841398794548:=0
def tw2158513043452006371:=0
def tw17062480241934989807:=0
def tw2348522348570276070:=0
def tw2196608571767472107:=0
def tw7045679250146860046:=0
def tw1055517848643869825:=0
def tw912574593733108798:=0
def tw14579153685831655243:=0
def tw6336432795502165013:=0
def tw6804564979747019405:=0
def tw751073792632753377:=0
def tw13797671350117486920:=0
def tw12963163777966354651:=0
def tw8878417550845602782:=0
def tw6525894064343453963:=0
def tw12858520157497804760:=0
def tw6263148028740494661:=0
def tw11301924966406910537:=0
def tw14871404953300646412:=0
def tw8627981822102249805:=0
def tw17301398698879786994:=0
def tw6224935338282751258:=0
def tw5675999152479215307:=0
def tw1528465421276383992:=0
def tw17559028658690736038:=0
def tw6561236550402451381:=0
def tw5411403312971002233:=0
def tw3196074768120748020:=0
def tw13551592586092105127:=0
def tw564856556562686315:=0
def tw7324262910595755721:=0
def tw9655559445736970507:=0
def tw17875147077871733237:=0
def tw14576217582639667016:=0
def tw14228929922238546971:=0
def tw16641679342429074462:=0
def tw4976172716627061095:=0
def tw5031209615460449390:=0
def tw14408678739093282323:=0
def tw17664559160642029290:=0
def tw10286669440302644535:=0
def tw10827160683289496786:=0
def tw3158810161725197997:=0
def tw6558896128447517279:=0
def tw15713935247841146967:=0
def tw9321214927520991131:=0
def tw10021386212331562098:=0
def tw1897734839453161652:=0
def tw14251465680887367131:=0
def tw14918829251467879812:=0
def tw13697871173629260661:=0
def tw1293283761411921849:=0
def tw7707834468259296033:=0
def tw9430969955332324120:=0
def tw7204962233641648546:=0
def tw249396554303238459:=0
def tw4868012412619554167:=0
def tw16691340577861395868:=0
def tw3917082977399455365:=0
def tw16731753958378108189:=0
def tw3584660197143552289:=0
def tw11469328228683615932:=0
def tw15920474913088793588:=0
def tw13273786821677624188:=0
def tw14001399061012919899:=0
def tw3719340062186427734:=0
def tw15511761941587113942:=0
def tw8388791177226595230:=0
def tw11128022039153593111:=0
def tw15588890275043802327:=0
def tw10922666709259974900:=0
def tw9143635916493465870:=0
def tw15608816909500054651:=0
def tw13488274998430842605:=0
def tw5349159349452339418:=0
def tw9827085347338695930:=0
def tw10586212564386908652:=0
def tw1939631837826614493:=0
def tw5216615216452952995:=0
def tw17386342738105880391:=0
def tw17793131616266242011:=0
def tw17012700756805309255:=0
def tw2731586019318234596:=0
def tw16345942549180073543:=0
def tw9398439601896754906:=0
def tw15750356072663096876:=0
def tw16222471405537439722:=0
def tw6070701959622057823:=0
def tw9967327352141046165:=0
def tw2985746462869979952:=0
def tw2665493105459060110:=0
def tw2058984054447240439:=0
def tw15940522949283493153:=0
def tw9886188935476215344:=0
def tw15597080209023326709:=0
def tw6205654405190508185:=0
def tw14691214371812889405:=0
def tw4830204221154579244:=0
def tw3522675510450971439:=0
def tw6007039556667188114:=0
def tw5764249546938275689:=0
def tw6916087785909615375:=0
def tw9311551806716886795:=0
def tw14740710387416255197:=0
def tw13100702642008019827:=0
def tw11841261015376955286:=0
def tw7384189304322893471:=0
def tw12762112734055520221:=0
def tw8747379293482085863:=0
def tw1415488524327311627:=0
def tw9444490660865474445:=0
def tw8749888775262520163:=0
def tw13868866188496380577:=0
def tw7732374577966609098:=0
def tw8340867401528782155:=0
def tw3630165191705341163:=0
def tw4215895080625659847:=0
def tw18020500379882204817:=0
def tw8985723931632306972:=0
def tw15610556906089944076:=0
def tw12678869867080551388:=0
def tw5778670271139929043:=0
def tw7011002864316058472:=0
def tw668784072771323242:=0
def tw16780262692514019688:=0
def tw18105673182670167102:=0
def tw7733674483067399492:=0
def tw14489251225447508098:=0
def tw2390321778430188041:=0
def tw4752271531417234310:=0
def tw5148828683800914934:=0
def tw919573961552046407:=0
def tw12317751429536761538:=0
def tw17953418646864791142:=0
def tw16411225439147264299:=0
def tw1751603964909581146:=0
def tw16423574401698832437:=0
def tw18112942536656341789:=0
def tw16905862829622955371:=0
def tw16834930899371958354:=0
def tw8859324287806197609:=0
def tw3114736137617883541:=0
def tw17011219772936126536:=0
def tw7003865937071919243:=0
def tw9753337116827851716:=0
def tw5752249957018502285:=0
def tw293674127774933905:=0
def tw3796720445115455951:=0
def tw3698586714458046574:=0
def tw7646632278428777576:=0
def tw10621728723856539865:=0
def tw12497933777509473885:=0
def tw7488342637919793439:=0
def tw2026978621093637715:=0
def tw5939665046059266909:=0
def tw346156474470358345:=0
def tw2543285408187377035:=0
def tw1190367589214867766:=0
def tw1872149100384942969:=0
def tw8629507504060512264:=0
def tw12823192247948829894:=0
def tw3496972108198471387:=0
def tw12044872293888413286:=0
def tw1515800402752409753:=0
def tw9428477811983430225:=0
def tw12400789818317375420:=0
def tw4945034933146615195:=0
def tw11351743174920763764:=0
def tw6500539970349442248:=0
def tw14208635131917819761:=0
def tw410160990075215273:=0
def tw14846280048583589005:=0
def tw5125440291087704607:=0
def tw12492998713053478756:=0
def tw12202298878906605928:=0
def tw6579674025723909419:=0
def tw1710965781602551194:=0
def tw11638702664669044376:=0
def tw11985586885611673815:=0
def tw15100596175571430109:=0
def tw13325648419940579406:=0
def tw5968512383015184683:=0
def tw12681590140924209540:=0
def tw17106473930679696504:=0
def tw17174687258539091584:=0
def tw10839615621728806339:=0
def tw8553399437985651329:=0
def tw1287850004511566628:=0
def tw4568800921531299698:=0
def tw14583972631415025003:=0
def tw351374374326755112:=0
def tw14488369996314902822:=0
def tw9647888862646131105:=0
def tw15835292345348884828:=0
def tw13988680702182007700:=0
def tw13024385902453096034:=0
def tw3350518810408621409:=0
def tw2886763993457403027:=0
def tw9414249792989290166:=0
def tw17321063137283570840:=0
def tw17027097861546217334:=0
def tw12628829146717306740:=0
def tw13008826093814423640:=0
def tw4885821649750808911:=0
def tw949765456468590933:=0
def tw15258287723820276405:=0
def tw13770424710343960361:=0
def tw7289796506896507885:=0
def tw6948157224597411441:=0
def tw10907947681614544050:=0
def tw4512554060063027527:=0
def tw1673800431839753844:=0
def tw9231326978873193390:=0
def tw14811899773723168064:=0
def tw6116579900045173741:=0
def tw4099572992127541841:=0
def tw1524160420185320467:=0
def tw9892091792695854274:=0
def tw7888837920718583455:=0
def tw11918628064641545779:=0
def tw18174157546961160180:=0
def tw11178170045107059414:=0
def tw15091696561752104044:=0
def tw16239086982902397289:=0
def tw10897759944869716408:=0
def tw5076390600968842771:=0
def tw2398478138738452148:=0
def tw9618292911402349213:=0
def tw15132305439930808694:=0
def tw18276250807634021771:=0
def tw1121714027531809812:=0
def tw10490276504800542474:=0
def tw7664531134150941426:=0
def tw13724939028129645798:=0
def tw6069856401213491880:=0
def tw17822305163171637964:=0
def tw5712067259735081207:=0
def tw18206008635756356067:=0
def tw7153106637226121413:=0
def tw5893976911364316675:=0
def tw3670761338259857128:=0
def tw4646645632679027364:=0
def tw10657838359396974146:=0
def tw1579085004942709135:=0
def tw14612453785591702167:=0
def tw3782684713458207741:=0
def tw5961880283764962283:=0
def tw9395964837817413692:=0
def tw16943565063322278127:=0
def tw7613152414292195052:=0
def tw14115690583601548192:=0
def tw13683016715030943529:=0
def tw1640242110777250516:=0
def tw2811734241640702774:=0
def tw6822303836567804563:=0
def tw17862880864817781472:=0
def tw15636716567240194710:=0
def tw236026407753771254:=0
def tw14049101865363632672:=0
def tw2274943562822876836:=0
def tw5979484437085266307:=0
def tw3840934627336743910:=0
def tw10157692693979630534:=0
def tw17085003201749987562:=0
def tw997342132086213507:=0
def tw5058998286762099674:=0
def tw17016294556341151622:=0
def tw4297903409467314585:=0
def tw17619550978622151956:=0
def tw5085700964253232139:=0
def tw1880203660406008511:=0
def tw473137585532995120:=0
def tw296001020248986934:=0
def tw13709866631784844205:=0
def tw9534366596872257271:=0
def tw412439462065188516:=0
def tw2252493261127265144:=0
def tw7313575820129895782:=0
def tw14383018177724474434:=0
def tw11150339899834502651:=0
def tw7610730170485916609:=0
def tw18067878825986097192:=0
def tw6098753448532883481:=0
def tw11565239942742273412:=0
def tw15267163008052594263:=0
def tw6807050206084156356:=0
def tw13256884935694738815:=0
def tw5485152255720065942:=0
def tw9157281126131457878:=0
def tw6683425765104786850:=0
def tw5196489812859804137:=0
def tw16932166501270947378:=0
def tw8116834159895858379:=0
def tw17605603490558842394:=0
def tw7661113756503320117:=0
def tw686529306228824663:=0
def tw13111969506432272966:=0
def tw16247098449058534846:=0
def tw2409692959759386348:=0
def tw16661662060373422426:=0
def tw13928374788311885569:=0
def tw5783314931859501846:=0
def tw1077989016800816994:=0
def tw11015818576996663543:=0
def tw5604901800351511063:=0
def tw14884890068500027020:=0
def tw347151761332405230:=0
def tw5785629170725019327:=0
def tw17260173926478393712:=0
def tw6091824984107991447:=0
def tw10318625788537551723:=0
def tw1294460468076654842:=0
def tw8111277280849324539:=0
def tw14894622718306346322:=0
def tw15015483613657210778:=0
def tw16914356371480217973:=0
def tw9736236336526687427:=0
def tw16652711922353308261:=0
def tw2974511239158715170:=0
def tw6099877588631215886:=0
def tw7768065593073597331:=0
def tw9097816886247226533:=0
def tw11753235524127938240:=0
end PySem.W.Fast
namespace S76
open PySem L2 XL
theorem walk {l:PySem.W.OpenLaw}{q:Program}{loose:List Str}{XP:(Str->Option Value)->Heap->Prop}{YP:World->Heap->Prop}{d:DefRec}{K:Params->Ze} (hn:l.most=some 63) (hdf:d.params.defaults=[])
    (hY:∀(w:World) (h:Heap),YP w h->(K w.params).In h)
    (F:∀(w:World) (mg:Str->Option Value) (fa:Addr) (h:Heap),(K w.params).In h->h.Ns mainGlobals mg->mg d.name=some (.ref fa) ->
      ∃ fd:FuncData,(∀(s:Shared) (u:Value),BindsTo s fd ⟨[u],[]⟩ [("_law_script",u)])/\∀ base:Heap,(K w.params).In base->base.Ns mainGlobals mg->FnOk true l.prog w (K w.params) mg base (CXo l.prog w) 10 fa fd ["_law_script"] (xi9 (K w.params))) :
    PySem.W.WalkO q loose XP YP l.row.toRowW d [] (fun f vs=>PySem.call f vs) :=
  L2.walk_of (q0:=true) (n:=63) (k:=10) (x:="_law_script") (CX:=fun w=>CXo l.prog w) (sp:=fun w=>xi9 (K w.params)) hn (by decide) hdf ⟨fun _=>rfl,by decide,by decide⟩ hY F (fun _ _ a ns hl _ hS=>⟨a,ns,rfl,hS,hl,fun _=>rfl⟩)
    fun w H s e s' z=>by obtain⟨_,_,_,_,_,_,_,_,_,_,_,_,_,_,q⟩:=z; exact q
theorem all_mk {l:PySem.W.OpenLaw}{w:World}{K:Ze}{h:Heap}{mg:Str->Option Value}{fa:Addr} (hfa:mg "law"=some (.ref fa)) (TT:∃ t,Txt w K mg t) :
    ∃ fd:FuncData,(∀(s:Shared) (v:Value),BindsTo s fd ⟨[v],[]⟩ [("_law_script",v)])/\∀ base:Heap,K.In base->base.Ns mainGlobals mg->FnOk true l.prog w K mg base (CXo l.prog w) 10 fa fd ["_law_script"] (xi9 K):=by
  obtain⟨t,T⟩:=TT;have e:=hfa.symm.trans T.g_law;cases e;refine⟨t.d_law,fun s v=>?_,fun base _ _=>xtf T⟩;obtain⟨oc,od,kV,doc,pm,an,cdv,ct,osl,e,lk,hcd⟩:=T.F_law.ex;rw[e];exact .of_eq rfl
end S76
open PySem PySem.W PyProof.Rows
set_option maxRecDepth 100000 in
set_option maxHeartbeats 0 in
theorem PySem.Challenge.cw_rimnotes_k76_mirrored_drawings_holds : PySem.Challenge.rw_rimnotes_k76_mirrored_drawings.Holds := by
 w_on; o_law; k_head; (case hw=>w_witness2)
 k_fill
 refine S76.walk (l:=PySem.Challenge.rw_rimnotes_k76_mirrored_drawings) rfl rfl (fun w h Y=>PySem.W.kIn_of Y) ?F
 case F =>
  intro w mg fa h KX G hmg
  refine S76.all_mk (h:=h) hmg ?TT
  refine' S76.txt_mk (w:=w) KX G ?g_bj ?g_ae ?g_t ?g_b ?g_w ?a_au ?F_au ?i_au ?a_y ?F_y ?i_y ?a_ac ?F_ac ?i_ac ?a_s ?F_s ?i_s ?a_u ?F_u ?i_u ?a_x ?F_x ?i_x ?a_o ?F_o ?i_o ?a_ao ?F_ao ?a_a1 ?F_a1 ?a_ak ?F_ak ?a_at ?F_at ?a_aj ?F_aj ?i_aj ?a_a ?l_a ?c_a ?k_a ?i_a ?t_a ?a_h ?F_h ?i_h ?a_f ?F_f ?i_f ?a_n ?F_n ?i_n ?a_g ?F_g ?i_g ?a_v ?F_v ?i_v ?a_d ?F_d ?i_d ?a_m ?F_m ?i_m ?a_i ?F_i ?i_i ?a_j ?F_j ?i_j ?a_c ?F_c ?i_c ?a_e ?F_e ?i_e ?a_q ?F_q ?a_drawn ?F_drawn ?a_a3 ?F_a3 ?a_ad ?F_ad ?a_as ?F_as ?a_ax ?F_ax ?a_am ?F_am ?i_am ?a_p ?F_p ?i_p ?a_l ?F_l ?i_l ?a_r ?F_r ?i_r ?a_ag ?F_ag ?i_ag ?a_seen ?F_seen ?a_ar ?F_ar ?a_aw ?F_aw ?a_a4 ?F_a4 ?a_al ?F_al ?a_af ?F_af ?a_ai ?F_ai ?a_k ?F_k ?a_az ?F_az ?a_ay ?F_ay ?a_a0 ?F_a0 ?a_aq ?F_aq ?a_a5 ?F_a5 ?a_ap ?F_ap ?a_ab ?F_ab ?a_av ?F_av ?a_ah ?F_ah ?a_an ?F_an ?a_aa ?F_aa ?a_a2 ?F_a2 ?a_law ?F_law ?kc_ae ?pg_ae ?hd_ae ?po_ae ?sa_ae ?mk_ae ?a_LeftSide_init ?kc_t ?pg_t ?hd_t ?po_t ?sa_t ?mk_t ?a_RightSide_init ?kc_b ?pg_b ?hd_b ?po_b ?sa_b ?mk_b ?kc_w ?pg_w ?hd_w ?po_w ?sa_w ?mk_w ?cg ?ct ?n_bd ?n_a8 ?n_a6 ?n_a7 ?n_bc ?n_ba ?n_a9 ?n_bb ?n_bg ?n_abs ?n_bool ?n_dict ?n_enumerate ?n_int ?n_isinstance ?n_len ?n_list ?n_min ?n_range ?n_reversed ?n_sorted ?n_str ?v_bh ?v_be ?v_bf ?g_z ?l_z ?ns_z
  case g_bj|g_ae|g_t|g_b|g_w|a_ao|a_a1|a_ak|a_at|a_q|a_drawn|a_a3|a_ad|a_as|a_ax|a_seen|a_ar|a_aw|a_a4|a_al|a_af|a_ai|a_k|a_az|a_ay|a_a0|a_aq|a_a5|a_ap|a_ab|a_av|a_ah|a_an|a_aa|a_a2|a_law|g_z=>delta S76.gI; k_is
  case a_au|a_y|a_ac|a_s|a_u|a_x|a_o|a_aj|a_a|a_h|a_f|a_n|a_g|a_v|a_d|a_m|a_i|a_j|a_c|a_e|a_am|a_p|a_l|a_r|a_ag|a_LeftSide_init|a_RightSide_init=>delta S76.fI; k_is
  case F_au|F_y|F_ac|F_s|F_u|F_x|F_o|F_ao|F_a1|F_ak|F_at|F_aj|F_h|F_f|F_n|F_g|F_v|F_d|F_m|F_i|F_j|F_c|F_e|F_q|F_drawn|F_a3|F_ad|F_as|F_ax|F_am|F_p|F_l|F_r|F_ag|F_seen|F_ar|F_aw|F_a4|F_al|F_af|F_ai|F_k|F_az|F_ay|F_a0|F_aq|F_a5|F_ap|F_ab|F_av|F_ah|F_an|F_aa|F_a2|F_law=>exact L2.fun_mk (by k_is) (by k_is) (by k_is)
  case sa_ae|sa_t|sa_b|sa_w=>delta S76.fB; k_is
  case n_bd|n_a8|n_a6|n_a7|n_bc|n_ba|n_a9|n_bb|n_bg=>delta S76.fN; k_is
  case n_abs|n_bool|n_dict|n_enumerate|n_int|n_isinstance|n_len|n_list|n_min|n_range|n_reversed|n_sorted|n_str=>delta S76.gN; k_is
  case i_au|i_y|i_ac|i_s|i_u|i_x|i_o|i_aj|l_a|c_a|k_a|i_a|t_a|i_h|i_f|i_n|i_g|i_v|i_d|i_m|i_i|i_j|i_c|i_e|i_am|i_p|i_l|i_r|i_ag|kc_ae|pg_ae|hd_ae|po_ae|kc_t|pg_t|hd_t|po_t|kc_b|pg_b|hd_b|po_b|kc_w|pg_w|hd_w|po_w|cg|ct|v_bh|v_be|v_bf=>k_is
  case mk_ae|mk_t|mk_b|mk_w|l_z=>first|k_is|kernel_rfl
  case ns_z=>kernel_rfl
