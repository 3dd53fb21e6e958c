import PyProof.Rows.All
import Wide.All
import OpenK.AllK
import Wide.FinOn
import Lean
import PyProof.EqAt
import PyProof.EqKinds
import PyProof.TupleCall
import PyProof.StationsW
import PyProof.ExcClass2
import PyProof.RulesAs
import PyProof.ExcBaseAll.ValueError
import OpenK.KDescr
import OpenK.KWalk
import PyProof.ExcAttrAll.ValueError
import PyProof.Comp
import PyProof.ListRange
import PyProof.DictItems
import KE.KPairComp
import KE.KDictOf
import PyProof.AttrMissHeap
import PyProof.Rows.Range3
import KE.KRevIter
import PyProof.ZipIter
import OpenK.KEqL
import PyProof.AutoListH
import PyProof.EnumMake
import PyProof.WalksEnum
import PyProof.NeKinds
import PyProof.MaxThree
import KE.KSortTup
import PyProof.StrLawsIn
import PyProof.DictValues
import PyProof.DictIter
import PyProof.Draws
import PyProof.DictWalks
import PyProof.ListNew
import PyProof.ListStr
import KE.KIntText
import PyProof.Rows.FStr
import PyProof.MeetsStr
import PyProof.Rows.CallKwBuiltin
import PyProof.Rows.StrNews
import PyProof.Rows.StrNews2
import PyProof.StrLawsChain
import PyProof.StrLawsFirst
import PyProof.StrLawsTight
import PyProof.DictUpdate
import PyProof.Rows.SetFrom
import PyProof.DictStraight
import PyProof.SetRoads
import PySem.SetOps
import KE.KDictList
import PyProof.TupleKey
import PyProof.DictFindH
import PyProof.MeetsDictList
import PyProof.MeetsSeq3
import PyProof.Rows.SortStr
import PyProof.SliceStr2
import PyProof.StrBlockI
import PyProof.StrCalls
import PyProof.StrLaws
import PySem.Challenge.RW_rimnotes_k73_whole_what_is_read_is_drawn
set_option maxRecDepth 100000
set_option maxHeartbeats 4000000
set_option Elab.async false
set_option linter.all false
open List renaming length_map→Za,mem_map→Ze,getElem?_eq_getElem→Zf,getElem?_map→Zh,getElem?_eq_some_iff→Zj,mem_of_getElem?→Zo,length_append→Zp,length_range→Zt,mem_singleton→Zv,lookup_cons→Zw,mem_cons_of_mem→Zy,mem_cons_self→Zz,mem_cons→Z1,map_cons→Z2,range→Z3,size_toArray→Z4,mem_append→Z5,map_map→Z7,map_append→Z8,pairwise_map→ZH,mem_filter→ZJ,length_cons→ZL,mem_range→ZN,mem_append_right→ZP,length_take→ZQ,take_add_one→ZT,nodup_append→ZU,getD_eq_getElem?_getD→ZY,length_singleton→ZZ,getElem?_eq_none→Ja,lookup→Jc,getElem?_range→Jg,nodup_cons→Jh,filter_cons_of_pos→Ji,getElem?_append_left→Jj,take_of_length_le→Jk,filter_cons_of_neg→Jr,getElem?_append_right→Js,filter_append→Jw,not_mem_nil→Jx,pairwise_append→JE,append_nil→JG,take_length→JM,length_drop→JN,cons→JP,range_succ→JS,Nodup→JU,any_cons→JV,map_congr_left→JY,length_reverse→JZ,filter_eq_nil_iff→Yf,find?_cons→Yg,Pairwise→Yj,mem_append_left→Yq,getElem?_set_ne→Yr,nodup_range→Yu,mem_flatMap→Yv,filter_cons→Yw,all_eq_true→Yx,mem_of_find?_eq_some→Yy,filterMap_cons→Y0,pairwise_singleton→YB,length_eq_zero_iff→YC,reverse_perm→YH,ext_getElem?→YI,eraseIdx_eq_take_drop_succ→YL,contains_iff_mem→YR,getElem_mem→YT,map_eq_nil_iff→YZ,flatMap_append→Qa,replicate→Qf,nodup_nil→Qg,pairwise_cons→Qj,getElem_range→Qk,contains_cons→Ql,drop_eq_getElem_cons→Qn,foldl_append→Qr,flatMap_cons→Qs,all_cons→Qv,Perm→Q0,mem_reverse→Q3,length_eraseIdx_le→Q5,getElem?_replicate→Q6,getElem?_set_self→QE,flatMap_singleton→QF,find?_cons_of_pos→QG,find?_cons_of_neg→QH,length_nil→QL,take_append_drop→QR,mem_iff_getElem?→QS,length_replicate→QT,length_filter_le→QU,length→QX,drop_zero→Wd,map_take→Wo,map_drop→Wp,filterMap_map→Ws
open PySem renaming wpAny_bind→Zb,wpAny_pure→Zk,Spec→ZE,wpAny_mono→ZR,wpAny_holding→Jf,wpAny_dictEntries→Jp,boot_len→Jy,wpAny_truthy_bool→J0,mem_of_lookup→J6,wpAny_dictEpoch→JQ,wpAny_loadPart_at→JT,wpAny_call_entry→Ya,wpAny_typeNameOfWhole_keyiter→Yb,wpAny_Call_Name_kw→Ye,wpAny_newObj_type→Yk,wpAny_field→Yp,wpAny_typeOf→Yt,wpAny_specialOf→Y3,tupleKind_room_in1→Y7,wpAny_getItem_str_slice→Y9,wpAny_callSpecial?_slot→YA,Within→YF,wpAny_isOneOf_keyiter→YM,wpAny_passesOwn→YW,wpAny_isSubtype_exc→YX,wpAny_loadPart→Qd,sizeLine_eq→Qp,wpAny_pyIter_enum→Qq,wpAny_standAt→Qt,wpAny_attempt→Qu,wpAny_isInstance→Q1,wpAny_call→Q7,codeAny_mono→Q9,wpAny_pyNext_list_item→QB,wpAny_execs_nil→QI,post_val_or_str→QJ,wpAny_pyNext_list_end→QM,wpAny_notOrdered_dict→QN,builtinLookup_eq_fast→QO,wpAny_setField→QZ,SetTable→Wc,wpAny_pyIter_revIter→Wf,call_meets→Wq
open PySem.Str renaming ofString→Zc,join→YE,length→YS
open PySem.W renaming Frag→Zd,mg_of→Z0,findIn→ZB,isFn→ZK,mg_none_of→ZW,keepIn→Jm,fnOf→Jn,kia_one→Jt,emptyDict→J5,hasDictIn→JF,plainGet→JL,instObj→JR,plainOver→Yl,makesIn→Y4,codeIn→YG,callWith_K→Qi,nsIn→QA,lookIn→Wa,kitOne→Wb,plainGet_of→Wk,mroIn→Wm
open PySem.Heap renaming get?_push_of_some→Zg,lt_size→Zq,get?_push_size→Zx,SameBut→ZI,get?_update_self→ZM,get?_update_other→Jl,size_push→We,get?_none_of_le→Wh
open Nat renaming le_refl→Zi,le_trans→Zs,lt_of_le_of_lt→Z9,ne_of_lt→ZD,lt_of_lt_of_le→ZG,zero_le→Jb,lt_trans→Jo,le_of_lt→JJ,ne_of_gt→Yd,lt_irrefl→Y1,mul_le_mul→Qe,le_succ→QW,not_lt→Wr
open Option renaming map_eq_some_iff→Zl,some→JC,isSome_map→Ym,map_some→Y5,bind_some→Q2
open PySem.Value renaming ref→Zm,none→ZV,bool→Yc,builtin→Yh,str→Qz,type→Q8,int→Wj
open Or renaming inl→Zn,inr→J8
open Bool renaming and_eq_true→Zr,false_ne_true→ZA,false_eq_true→ZX,eq_iff_iff→Je,eq_false_iff→Jq,true_and→JB,false_and→JD,or_true→JK,not_eq_true'→Yo,or_false→Y2,or_eq_true→Y6,and_false→Qh,false_or→Qw
open PySem.SeqAt renaming EqAt→Zu,RcNeAt→Z6,RcAt→ZC
open Ne renaming symm→ZF
open PySem.PassesOwn renaming never→ZO
open PyProof.Rows renaming callWith_type1→ZS,slot_tuple_getitem→YK,strKind→Wg
open PySem.F renaming plainAttrs_list→Jd,slot_dict_keyiterator_next→JI,type_list_append→JW,slot_list_append→JX,type_list_pop→YN,slot_list_pop→YO,slot_list_getattribute→Qx,plainAttrs_dict→Q4,plainAttrs_str→QC,slot_dict_get→QQ
open Array renaming getElem?_toList→Ju,length_toList→J7,getElem?_eq_getElem→Yz,map→Qb,mem_toList_iff→Wi
open True renaming intro→Jv
open False renaming elim→Jz
open Sum renaming inr→J9,inl→YD
open Prod renaming mk→JA,ext→QV
open ForInStep renaming yield→JH
open PySem.Obj renaming mapSeq→JO,data_mapFields→Y8,isFreed_of_fields→YQ,mapFields→YU,data_mapDictKeys→YV,dropNameByArray→YY,dropName_eq→QK,isFreed_of_dict→Wl
open PySem.Paired renaming length→Yi
open Int renaming toNat_natCast→Yn
open PySem.Txt renaming slice→Ys
open PySem.Calls renaming callWith_builtin→YJ,spliced_cons→Qm,call_function_entry→Qo
open PUnit renaming unit→Qc
open LawfulBEq renaming eq_of_beq→Qy
open PyProof renaming noPylong_small→QD
open PySem.StrLaws renaming glued_eq_join→QP
open PySem.Data renaming fields→QY
open PySem.NameKind renaming free→Wn
namespace L2
open PySem PySem.Spec PyProof.Rows
variable {q0:Bool}
abbrev Key:=Sum Int Str
def xe9:Key->Value->Bool
 | .inl k,v=>Value.isInt k v
 | .inr x,v=>Value.isStrOf x v
def keyH (w:World):Key->Int
 | .inl k=>hashInt k
 | .inr x=>hashStr w x
theorem xbc:∀{k:Key}{v:Value},xe9 k v=true->(∃ i t,k=YD i/\v=Wj i t)\/(∃ x t,k=J9 x/\v=Qz x t)
 | .inl i,v,h=>by
  obtain⟨t,e⟩:=Value.isInt_shape (k:=i) (v:=v) h;exact .inl ⟨i,t,rfl,e⟩
 | .inr x,v,h=>by
  obtain⟨t,e⟩:=Value.isStrOf_shape (x:=x) (v:=v) h;exact .inr ⟨x,t,rfl,e⟩
theorem xnp (i:Int) (t:Tok):xe9 (.inl i) (.int i t)=true:=by simp[xe9,Value.isInt]
theorem xol (x:Str) (t:Tok):xe9 (.inr x) (.str x t)=true:=by simp[xe9,Value.isStrOf]
theorem xtn (a b:Int):decide ((YD a:Key)=YD b)=(a == b):=by
 by_cases e:a=b
 .subst e; simp
 .have h:¬ (YD a:Key)=YD b:=fun q=>e (YD.inj q);rw[decide_eq_false h];exact (beq_eq_false_iff_ne.mpr e).symm
theorem xuc (a b:Str):decide ((J9 a:Key)=J9 b)=decide (a=b):=by
 by_cases e:a=b
 .subst e; simp
 .have h:¬ (J9 a:Key)=J9 b:=fun q=>e (J9.inj q);rw[decide_eq_false h,decide_eq_false e]
theorem xua (a:Int) (b:Str):decide ((YD a:Key)=J9 b)=false:=decide_eq_false (fun q=>nomatch q)
theorem xtp (a:Str) (b:Int):decide ((J9 a:Key)=YD b)=false:=decide_eq_false (fun q=>nomatch q)
def xal (prog:Program) (w:World):PySem.KeyKind prog w Key where
 is:=xe9
 hash:=keyH w
 inj:=fun v a b ha hb=>by
  rcases xbc ha with⟨i,t,rfl,rfl⟩|⟨x,t,rfl,rfl⟩
  .rcases xbc hb with⟨j,u,rfl,e⟩|⟨y,u,rfl,e⟩
   .injection e with e1 _; rw[e1]
   .exact nomatch e
  .rcases xbc hb with⟨j,u,rfl,e⟩|⟨y,u,rfl,e⟩
   .exact nomatch e
   .injection e with e1 _; rw[e1]
 byValue:=fun k v h=>by
  rcases xbc h with⟨i,t,rfl,rfl⟩|⟨x,t,rfl,rfl⟩<;>rfl
 pyHash:=fun hv h=>by
  rcases xbc hv with⟨i,t,rfl,rfl⟩|⟨x,t,rfl,rfl⟩
  .exact wpAny_pyHash_int h
  .exact wpAny_pyHash_str h
 eqBool:=fun hu hv h=>by
  rcases xbc hu with⟨i,t,rfl,rfl⟩|⟨x,t,rfl,rfl⟩
  .rcases xbc hv with⟨j,u,rfl,rfl⟩|⟨y,u,rfl,rfl⟩
   .rw [xtn] at h; exact wpAny_eqBool_int h
   .rw [xua] at h; exact Zu.int_str i t y u _ _ _ _ h
  .rcases xbc hv with⟨j,u,rfl,rfl⟩|⟨y,u,rfl,rfl⟩
   .rw [xtp] at h; exact Zu.str_int x t j u _ _ _ _ h
   .rw [xuc] at h; exact wpAny_eqBool_str h
 «strs»:=fun k x t v h=>by
  rcases xbc h with⟨i,u,rfl,e⟩|⟨y,u,rfl,e⟩
  .exact nomatch e
  .injection e with e1 _
   subst e1;cases v<;>rfl
theorem xk5 (prog:Program) (w:World) (i:Int) (t:Tok):(xal prog w).is (.inl i) (.int i t)=true:=xnp i t
theorem xkw (prog:Program) (w:World) (x:Str) (t:Tok):(xal prog w).is (.inr x) (.str x t)=true:=xol x t
inductive V where
 | non|bl (b:Bool)|int (i:Int)|str (x:Str)|byt (b:Array UInt8)|flt (b:UInt64)|ref (a:Addr)|ty (n:String)
 deriving DecidableEq
def RelV:V->Value->Prop
 | .non,u=>u=ZV
 | .bl b,u=>u=Yc b
 | .int i,u=>∃ t,u=Wj i t
 | .str x,u=>∃ t,u=Qz x t
 | .byt b,u=>∃ t,u=Value.bytes b t
 | .flt b,u=>∃ t,u=Value.float b t
 | .ref a,u=>u=Zm a
 | .ty n,u=>u=Q8 n
abbrev Vals:List V->List Value->Prop:=Paired RelV
theorem Vals.length {xs:List V}{us:List Value} (r:Vals xs us):xs.length=us.length:=Yi r
theorem Vals.get:∀{xs:List V}{us:List Value}{i:Nat}{x:V},Vals xs us->xs[i]?=some x->∃ u,us[i]?=some u/\RelV x u
 | _,_,_,_,.nil,e=>by simp at e
 | _,_,0,_,.cons r _,e=>by simp at e; subst e; exact⟨_,rfl,r⟩
 | _,_,i+1,x,.cons _ t,e=>by
  obtain⟨u,h1,h2⟩:=Vals.get (i:=i) (x:=x) t (by simpa using e);exact⟨u,by simpa using h1,h2⟩
theorem Vals.append:∀{xs ys:List V}{us ws:List Value},Vals xs us->Vals ys ws->Vals (xs++ys) (us++ws)
 | _,_,_,_,.nil,s=>s
 | _,_,_,_,.cons r t,s=>.cons r (Vals.append t s)
theorem Vals.take:∀{xs:List V}{us:List Value} (n:Nat),Vals xs us->Vals (xs.take n) (us.take n)
 | _,_,0,_=>.nil
 | _,_,_+1,.nil=>.nil
 | _,_,n+1,.cons r t=>.cons r (Vals.take n t)
theorem Vals.drop:∀{xs:List V}{us:List Value} (n:Nat),Vals xs us->Vals (xs.drop n) (us.drop n)
 | _,_,0,r=>r
 | _,_,_+1,.nil=>.nil
 | _,_,n+1,.cons _ t=>Vals.drop n t
def RelO:Option V->Option Value->Prop
 | some v,some u=>RelV v u
 | none,none=>True
 | _,_=>False
def KV {κ:Type}:List (κ × V)->List (κ × Value)->Prop:=Paired fun (p:κ × V) (q:κ × Value)=>p.1=q.1/\RelV p.2 q.2
def kV:Key->V
 | .inl i=>.int i
 | .inr x=>.str x
inductive HO where
 /-- a list -/
 | lst (xs:List V)
 /-- a tuple (never changes) -/
 | tup (xs:List V)
 /-- a dict whose keys are ints and texts; one whose keys are tuples of ints and texts (the empty one is both) -/
 | dK (kvs:List (Key × V))|dT (kvs:List (List Key × V))
 /-- a set of ints: its members,its size -/
 | set (S:Int->Bool) (n:Nat)
 /-- an instance of the class at C,its dict at dx,its attributes -/
 | ins (C dx:Addr) (fs:List (Str × V))
 /-- the dict of the instance at x -/
 | own (x:Addr)
 /-- the dict of an exception -/
 | xd (fs:List (Str × V))
 /-- a bound method,f of x -/
 | met (f x:Addr)
 /-- a range object lo,lo+1,.. below hi -/
 | rng (lo hi:Int)
 /-- a thing that is known to the object (the script; a dict while a loop walks it): read,never written while it is so -/
 | frz (o:Obj) (u:HO)
 /-- a code object's table -/
 | tbl (ps:Array Value)
 /-- any other thing,by what is true of its one object (a def of one's own: SetO a S n:=HO.ext fun h=>..) -/
 | ext (φ:Heap->Prop)
abbrev Hp:=Addr->Option HO
def upd (H:Hp) (a:Addr) (o:HO):Hp:=fun b=>if b=a then some o else H b
theorem xf {H:Hp}{a:Addr}{o:HO}:upd H a o a=some o:=by unfold upd; rw[if_pos rfl]
theorem xh {H:Hp}{a b:Addr}{o:HO} (h:b≠a):upd H a o b=H b:=by unfold upd; rw[if_neg h]
theorem xez {H:Hp}{a:Addr}{o u:HO}:upd (upd H a o) a u=upd H a u:=by
 funext b; unfold upd; split<;>rfl
theorem xai {H:Hp}{a b:Addr}{o u:HO} (h:H a=some o) (h':H b=some u) (d:o≠u):a≠b:=by
 intro e; subst e; rw[h] at h'; exact d (JC.inj h')
theorem xi {H:Hp}{a b:Addr}{o:HO} (h:H a=some o) (h':H b=none):a≠b:=by
 intro e; subst e; rw[h] at h'; cases h'
section
variable (P:Program) (w:World)
def xao (H:Hp) (h:Heap) (a:Addr):HO->Prop
  | .lst xs=>xs.length<=sizeLine/\∃(its:List Value) (n:Nat),Vals xs its/\h.get? a=some { cls:=.type "list",data:=.seq its.toArray n }
  | .tup xs=>xs.length<=sizeLine/\∃ its:List Value,Vals xs its/\IsTup h a its.toArray
  | .dK kvs=>kvs.length<=sizeLine/\(a == sysModules)=false/\∃ vs,KV kvs vs/\h.DictOf (xal P w) a vs
  | .dT kvs=>kvs.length<=sizeLine/\(a == sysModules)=false/\∃ xs:List (List Key × Addr × Value),
      Paired (fun (p:List Key × V) (q:List Key × Addr × Value)=>p.1=q.1/\H q.2.1=some (.tup (p.1.map kV))/\RelV p.2 q.2.2) kvs xs /\
      ∃ o es ep,h.get? a=some o/\o.ExactDict/\o.data=.dict es ep/\es.toList=xs.map (entryOfKey (tupleKind (xal P w)))/\(xs.map (·.1)).Nodup
  | .set S n=>h.SetOf (intKind P w) a S n
  | .ins C dx fs=>H dx=some (.own a)/\fs.length<=1000/\dx≠a/\h.get? a=some (JR C dx) /\
      ∃ mA,h.Ns1 dx mA/\(∀ f,RelO (fs.lookup f) (mA f))/\YF mA (fs.map (·.1))
  | .own _=>∃ o,h.get? a=some o
  | .xd fs=>∃ mA,h.Ns1 a mA/\∀ f,RelO (fs.lookup f) (mA f)
  | .rng lo hi=>∃ t u v,h.get? a=some { cls:=.type "range",data:=.fields #[.int lo t,.int hi u,.int 1 v] }
  | .frz o u=>h.get? a=some o/\xao H h a u
  | .tbl ps=>h.get? a=some { cls:=.none,data:=.fields ps }
  | .met f x=>h.get? a=some (PySem.W.methodObj (.ref f) (.ref x))
  | .ext φ=>φ h/\(∃ o,h.get? a=some o)/\∀ h1 h2:Heap,φ h1->(∀ o,h1.get? a=some o->h2.get? a=some o)->φ h2
def HOk (H:Hp) (h:Heap):Prop:=∀ a o,H a=some o->xao P w H h a o
end
section
variable {P:Program}{w:World}{H H':Hp}{h h':Heap}{a:Addr}{o:HO}
theorem xao.lt (x:xao P w H h a o):a<h.objs.size:=by
 cases o with
 | lst xs=>obtain⟨_,_,_,_,e⟩:=x; exact Zq e
 | tup xs=>obtain⟨_,_,_,p⟩:=x; exact p.lt
 | dK kvs=>obtain⟨_,_,_,_,o,_,_,e,_⟩:=x; exact Zq e
 | dT kvs=>obtain⟨_,_,_,_,o,_,_,e,_⟩:=x; exact Zq e
 | set S n=>obtain⟨o,_,_,_,e,_⟩:=x; exact Zq e
 | ins C dx fs=>obtain⟨_,_,_,e,_⟩:=x; exact Zq e
 | own y=>obtain⟨_,e⟩:=x; exact Zq e
 | xd fs=>obtain⟨_,⟨_,_,_,e,_⟩,_⟩:=x; exact Zq e
 | rng lo hi=>obtain⟨_,_,_,e⟩:=x; exact Zq e
 | frz ob u=>obtain⟨e,_⟩:=x; exact Zq e
 | tbl ps=>exact Zq (show h.get? a=some _ from x)
 | met f y=>exact Zq (show h.get? a=some _ from x)
 | ext φ=>obtain⟨_,⟨_,e⟩,_⟩:=x; exact Zq e
theorem Paired.mapP {α β:Type}{F G:α->β->Prop}:∀{l₁:List α}{l₂:List β},Paired F l₁ l₂->(∀ a b,F a b->G a b)->Paired G l₁ l₂
 | _,_,.nil,_=>.nil
 | _,_,.cons r t,f=>.cons (f _ _ r) (Paired.mapP t f)
theorem xao.stay (x:xao P w H h a o) (k:∀ b u,(b=a\/H b=some (.own a))->h.get? b=some u->h'.get? b=some u)
    (ho:∀ b,H b=some (.own a)->H' b=some (.own a)) (ht:∀ b xs,H b=some (.tup xs)->H' b=some (.tup xs)):xao P w H' h' a o:=by
  induction o with
  | lst xs=>obtain⟨z,its,n,r,e⟩:=x; exact⟨z,its,n,r,k _ _ (.inl rfl) e⟩
  | tup xs=>obtain⟨z,its,r,ob,e,c⟩:=x; exact⟨z,its,r,ob,k _ _ (.inl rfl) e,c⟩
  | dK kvs=>obtain⟨z,y,vs,r,ob,es,ep,e,c⟩:=x; exact⟨z,y,vs,r,ob,es,ep,k _ _ (.inl rfl) e,c⟩
  | dT kvs =>
    obtain⟨z,y,xs,r,ob,es,ep,e,c⟩:=x;exact⟨z,y,xs,Paired.mapP r fun p q z=>⟨z.1,ht _ _ z.2.1,z.2.2⟩,ob,es,ep,k _ _ (.inl rfl) e,c⟩
  | set S n=>obtain⟨ob,es,ep,t,e,c⟩:=x; exact⟨ob,es,ep,t,k _ _ (.inl rfl) e,c⟩
  | ins C dx fs =>
    obtain⟨d,z,ne,e,mA,⟨od,es,ep,e2,c⟩,r⟩:=x;exact⟨ho _ d,z,ne,k _ _ (.inl rfl) e,mA,⟨od,es,ep,k _ _ (.inr d) e2,c⟩,r⟩
  | own y=>obtain⟨ob,e⟩:=x; exact⟨ob,k _ _ (.inl rfl) e⟩
  | xd fs=>obtain⟨mA,⟨od,es,ep,e,c⟩,r⟩:=x; exact⟨mA,⟨od,es,ep,k _ _ (.inl rfl) e,c⟩,r⟩
  | rng lo hi=>obtain⟨t,u,v,e⟩:=x; exact⟨t,u,v,k _ _ (.inl rfl) e⟩
  | frz ob u ih=>obtain⟨e,q⟩:=x; exact⟨k _ _ (.inl rfl) e,ih q⟩
  | tbl ps =>
    have e:h.get? a=some { cls:=.none,data:=.fields ps }:=x;show h'.get? a=some { cls:=.none,data:=.fields ps };exact k a _ (.inl rfl) e
  | met f y =>
    have e:h.get? a=some (PySem.W.methodObj (.ref f) (.ref y)):=x;show h'.get? a=some (PySem.W.methodObj (.ref f) (.ref y));exact k a _ (.inl rfl) e
  | ext φ=>obtain⟨p,⟨o,e⟩,st⟩:=x; exact⟨st _ _ p fun o q=>k _ _ (.inl rfl) q,⟨o,k _ _ (.inl rfl) e⟩,st⟩
theorem HOk.lt (x:HOk P w H h) (e:H a=some o):a<h.objs.size:=(x a o e).lt
theorem HOk.fresh (x:HOk P w H h) (e:h.objs.size<=a):H a=none:=by
 cases q:H a with
 | none=>rfl
 | some u=>exact absurd (ZG (x.lt q) e) (Y1 _)
theorem HOk.kept (x:HOk P w H h) (k:∀ b u,h.get? b=some u->h'.get? b=some u):HOk P w H h':=fun a o e =>
 (x a o e).stay (fun b u _ q=>k b u q) (fun _ q=>q) fun _ _ q=>q
theorem HOk.laid (x:HOk P w H h) (k:∀ b u,h.get? b=some u->h'.get? b=some u) (hp:h.objs.size<=a) (new:xao P w (upd H a o) h' a o):HOk P w (upd H a o) h':=fun b u e=>by
 have hn:=x.fresh hp;by_cases hb:b=a
 .subst hb; rw[xf] at e; cases e; exact new
 .rw [xh hb] at e;exact (x b u e).stay (fun c v _ q=>k c v q) (fun c q=>by rw[xh (xi q hn)]; exact q) fun c xs q=>by rw[xh (xi q hn)]; exact q
end
def Rd (H:Hp) (a:Addr) (u:HO):Prop:=H a=some u\/∃ o,H a=some (.frz o u)
theorem Rd.ok {P:Program}{w:World}{H:Hp}{h:Heap}{a:Addr}{u:HO} (r:Rd H a u) (x:HOk P w H h):xao P w H h a u:=by
 rcases r with r|⟨o,r⟩
 .exact x a u r
 .obtain ⟨_,q⟩:=x a _ r;exact q
def Mut:Option HO->Prop
 | some (.lst _)=>True
 | some (.dK _)=>True
 | some (.dT _)=>True
 | some (.set _ _)=>True
 | some (.ins _ _ _)=>True
 | some (.ext _)=>True
 | _=>False
section
variable {P:Program}{w:World}{H:Hp}{h h':Heap}{x e:Addr}{o':HO}
theorem HOk.write (ok:HOk P w H h) (mu:Mut (H x)) (he:e=x\/H e=some (.own x)) (k:∀ b u,b≠e->h.get? b=some u->h'.get? b=some u) (heo:∃ u,h'.get? e=some u)
    (new:xao P w (upd H x o') h' x o'):HOk P w (upd H x o') h':=fun b u q=>by
  have nown:∀ c y,H c=some (.own y)->c≠x:=fun c y r z=>by subst z; rw[r] at mu; exact mu
  have ntup:∀ c xs,H c=some (.tup xs)->c≠x:=fun c xs r z=>by subst z; rw[r] at mu; exact mu
  by_cases hb:b=x
  . subst hb; rw[xf] at q; cases q; exact new
  . rw[xh hb] at q
    by_cases hbe:b=e
    . have q':H b=some (.own x):=by
        rcases he with z|z
        . exact absurd (hbe.trans z) hb
        . rw[hbe]; exact z
      rw[q] at q'; cases q';obtain⟨v,hv⟩:=heo;exact⟨v,by rw[hbe]; exact hv⟩
    . refine (ok b u q).stay (fun c v hc r=>k c v ?_ r) (fun c r=>by rw[xh (nown c b r)]; exact r) fun c xs r=>by rw[xh (ntup c xs r)]; exact r
      rcases hc with rfl|hc
      . exact hbe
      . rintro rfl
        rcases he with z|z
        . exact nown c b hc z
        . rw[hc] at z; cases z; exact hb rfl
end
structure Un (fs ex:List Addr) (H H':Hp) (h h':Heap):Prop where
 keep:∀ b o,h.get? b=some o->H b=none->b∉fs->b∉ex->h'.get? b=some o
 slot:∀ b o,h.get? b=some o->H b=none->b∈fs->b∉ex->∃ sl,h'.get? b=some { o with slots:=sl }
 free:∀ b o,h.get? b=some o->H b=none->b∉ex->H' b=none
 there:∀ b o,h.get? b=some o->b∉ex->∃ o',h'.get? b=some o'
 tups:∀ b xs,H b=some (.tup xs)->H' b=some (.tup xs)
 frzs:∀ b o u,H b=some (.frz o u)->H' b=some (.frz o u)
 tbls:∀ b ps,H b=some (.tbl ps)->∃ more,H' b=some (.tbl (ps++more))
section
variable {fs fs' ex ex':List Addr}{H H1 H2:Hp}{h h1 h2 h':Heap}{a x e:Addr}{o:HO}
theorem Un.any (u:Un fs ex H H1 h h1) {b:Addr}{ob:Obj} (q:h.get? b=some ob) (n:H b=none) (hx:b∉ex):∃ sl,h1.get? b=some { ob with slots:=sl }:=by
 by_cases hb:b∈fs
 .exact u.slot b ob q n hb hx
 .exact ⟨ob.slots,u.keep b ob q n hb hx⟩
theorem Un.kept (k:∀ b u,h.get? b=some u->h'.get? b=some u):Un fs ex H H h h' :=
 ⟨fun b ob q _ _ _=>k b ob q,fun b ob q _ _ _=>⟨ob.slots,k b ob q⟩,fun _ _ _ n _=>n,fun b ob q _=>⟨ob,k b ob q⟩,fun _ _ q=>q,fun _ _ _ q=>q,fun _ ps q=>⟨#[],by rw[q]; simp⟩⟩
theorem Un.refl:Un fs ex H H h h:=Un.kept fun _ _ q=>q
theorem Un.laid (k:∀ b u,h.get? b=some u->h'.get? b=some u) (hp:h.objs.size<=a) (hn:H a=none):Un fs ex H (upd H a o) h h' where
 keep:=fun b u q _ _ _=>k b u q
 slot:=fun b u q _ _ _=>⟨u.slots,k b u q⟩
 free:=fun b u q n _=>by rw[xh (ZD (ZG (Zq q) hp))]; exact n
 there:=fun b u q _=>⟨u,k b u q⟩
 tups:=fun b xs q=>by rw[xh (xi q hn)]; exact q
 frzs:=fun b u xs q=>by rw[xh (xi q hn)]; exact q
 tbls:=fun b ps q=>⟨#[],by rw[xh (xi q hn),q]; simp⟩
theorem Un.write (mu:Mut (H x)) (he:e=x\/H e=some (.own x)) (k:∀ b u,b≠e->h.get? b=some u->h'.get? b=some u) (heo:∃ u,h'.get? e=some u):Un fs ex H (upd H x o) h h':=by
 have hx:∀ b,H b=none->b≠x:=fun b n z=>by subst z; rw[n] at mu; exact mu
 have hb:∀ b,H b=none->b≠e:=fun b n z=>by
  subst z;rcases he with r|r
  .exact hx b n r
  .rw [n] at r; cases r
 have hm:∀ b u,H b=some u->¬ Mut (some u)->b≠x:=fun b u q nm z=>by subst z; rw[q] at mu; exact nm mu
 refine⟨fun b u q n _ _=>k b u (hb b n) q,fun b u q n _ _=>⟨u.slots,k b u (hb b n) q⟩,fun b u q n _=>by rw[xh (hx b n)]; exact n,fun b u q _=>?_,
  fun b xs q=>by rw[xh (hm b _ q fun z=>z)]; exact q,fun b u xs q=>by rw[xh (hm b _ q fun z=>z)]; exact q,fun b ps q=>⟨#[],by rw[xh (hm b _ q fun z=>z),q]; simp⟩⟩
 by_cases hbe:b=e
 .subst hbe; exact heo
 .exact ⟨u,k b u hbe q⟩
end
def trk (h:Heap) (H:Hp):List Addr:=(Z3 h.objs.size).filter fun a=>(H a).isSome
def hidT (h:Heap) (H:Hp):Heap:=PySem.W.hideAll h (trk h H)
theorem xn5 (h:Heap) (H:Hp):(hidT h H).objs.size=h.objs.size:=PySem.W.hideAll_size _ _
theorem xpp {h:Heap}{H:Hp}{b:Addr}{o:Obj} (e:h.get? b=some o) (n:H b=none):(hidT h H).get? b=some o :=
 PySem.W.hideAll_get _ e fun hm=>by
  have q:(H b).isSome=true:=(ZJ.mp hm).2;rw[n] at q; simp at q
theorem xsf {h:Heap}{H:Hp}{b:Addr}{o:Obj} (e:(hidT h H).get? b=some o):h.get? b=some o/\H b=none:=by
 have e':h.get? b=some o:=PySem.W.of_hideAll (trk h H) e;refine⟨e',?_⟩;cases q:H b with
 | none=>rfl
 | some x =>
  have hm:b∈trk h H:=ZJ.mpr ⟨ZN.mpr (Zq e'),by simp[q]⟩;have z:(hidT h H).get? b=none:=PySem.W.hideAll_none (trk h H) hm;rw[z] at e; cases e
def xr3 (g h:Heap) (L:Addr):List (Addr × Obj):=(Z3 h.objs.size).filterMap fun a=>if a=L\/(g.get? a).isSome=true then none else (h.get? a).map fun o=>(a,o)
def rest (g h:Heap) (L d:Addr):List (Addr × Obj):=(xr3 g h L).filter fun p=>decide (p.1≠d)
structure Mod (K:Zd) (mg:Str->Option Value) (base:Heap):Prop where
 kin:K.In base
 glob:base.Ns mainGlobals mg
 blt:∃ mb,base.Ns builtinsNs mb/\∀ x:Str,x≠"__name__"->mb x=bootBuiltins x
 nolimit:base.NoLimit
structure Cx where
 prog:Program
 w:World
 K:Zd
 mg:Str->Option Value
 base:Heap
 A:Around
 N:List Str
 s₀:Shared
 H₀:Hp
 env:Env
 outer:List Env
 stack:List Env
 ex:List Addr
 fn:Str->Bool
 calm:Bool
 pn:List (Addr × Obj)
 xe:Value->Shared->Prop
def frs (l:List Env):List Addr:=l.filterMap (·.frame)
abbrev Cx.fs (X:Cx):List Addr:=frs X.outer
def Vis (sc:Scope) (x:Str):Prop:=sc.names.lookup x=some .local\/sc.names.lookup x=some .cell\/sc.names.lookup x=some .free
def Loc (sc:Scope) (x:Str):Prop:=sc.names.lookup x=some .local\/sc.names.lookup x=some .cell
def Look (env:Env) (h:Heap) (m:Str->Option Value) (x:Str) (u:Value):Prop :=
 (env.kindOf x=some .local/\m x=some u)\/((env.kindOf x=some .cell\/env.kindOf x=some .free)/\∃ c,env.cells.lookup x=some c/\h.IsCell c (some u))
structure Cx.Ok (X:Cx):Prop where
 mod:Mod X.K X.mg X.base
 kind:X.env.scope.kind=.function
 glob:X.env.globals=mainGlobals
 blt:X.env.builtins=builtinsNs
 above:X.s₀.heap.objs.size<=X.env.locals
 inj:∀ x y c,X.env.cells.lookup x=some c->X.env.cells.lookup y=some c->x=y
 has:∀ x,(X.env.kindOf x=some .cell\/X.env.kindOf x=some .free)->∃ c,X.env.cells.lookup x=some c
 cab:∀ x c,X.fn x=true->X.env.cells.lookup x=some c->X.s₀.heap.objs.size<=c
 hd:X.calm=true->X.A.handled=none
 frames:X.A.frames=some X.stack
 stk:X.stack=X.outer\/(X.stack=X.env::X.outer/\X.env.frame=some X.env.locals)
 exf:∀ b∈X.ex,b≠X.env.locals/\∀ x c,X.env.cells.lookup x=some c->c≠b
 bs:∀ b o,X.base.get? b=some o->X.s₀.heap.get? b=some o/\X.H₀ b=none
 bsz:X.base.objs.size<=X.s₀.heap.objs.size
 noex:∀ b o,X.base.get? b=some o->b∉X.ex
 exfs:∀ b∈X.ex,b∉X.fs
 funs:X.s₀.heap.FunFrames X.base X.outer
 frf:∀ b∈X.fs,X.H₀ b=none
structure Inv (X:Cx) (pins:List (Addr × Obj)) (σ:List (Option V)) (H:Hp) (s:Shared):Prop where
 ok:X.Ok
 os:s.os=X.s₀.os
 bare:AllBare s.gens
 base:Un X.fs X.ex X.H₀ H X.s₀.heap s.heap
 loc:∃ m,s.heap.Ns X.env.locals m/\∀(i:Nat) (x:Str) (v:V),X.N[i]?=some x->σ[i]?=some (some v)->Vis X.env.scope x->∃ u,RelV v u/\Look X.env s.heap m x u
 cell:∀ x c,X.env.cells.lookup x=some c->∃ v,s.heap.IsCell c v
 free:H X.env.locals=none
 freeC:∀ x c,X.env.cells.lookup x=some c->H c=none
 pin:∀ p∈X.pn++pins,s.heap.get? p.1=some p.2/\H p.1=none/\p.1≠X.env.locals/\p.1∉X.fs/\∀ v,p.2.data≠.cell v
 hok:HOk X.prog X.w H s.heap
 len:σ.length=X.N.length
section
variable {X:Cx}{pins:List (Addr × Obj)}{σ:List (Option V)}{H H':Hp}{s:Shared}{h':Heap}
theorem Cx.Ok.nofr (ok:X.Ok) {b:Addr}{o:Obj} (e:X.base.get? b=some o):b∉X.fs:=fun hb=>by
 have:=(ok.funs.mem hb).1;rw[e] at this; cases this
theorem Inv.bs (I:Inv X pins σ H s):∀ b o,X.base.get? b=some o->s.heap.get? b=some o/\H b=none:=fun b o e =>
 ⟨I.base.keep b o (I.ok.bs b o e).1 (I.ok.bs b o e).2 (I.ok.nofr e) (I.ok.noex b o e),I.base.free b o (I.ok.bs b o e).1 (I.ok.bs b o e).2 (I.ok.noex b o e)⟩
theorem Inv.bk (I:Inv X pins σ H s):∀ b o,X.base.get? b=some o->s.heap.get? b=some o:=fun b o e=>(I.bs b o e).1
theorem Inv.mod (I:Inv X pins σ H s):Mod X.K X.mg X.base:=I.ok.mod
theorem Inv.kIn (I:Inv X pins σ H s):X.K.In s.heap:=I.ok.mod.kin.keeps I.bk
theorem Inv.fr (I:Inv X pins σ H s):∃ m,Fr X.base X.env.locals s.heap m :=
 let ⟨m,hn,_⟩:=I.loc
 ⟨m,hn,I.bk,Zs I.ok.bsz I.ok.above⟩
theorem Inv.lt (I:Inv X pins σ H s):X.env.locals<s.heap.objs.size:=let ⟨_,hn,_⟩:=I.loc; hn.lt
theorem Inv.sz (I:Inv X pins σ H s):X.s₀.heap.objs.size<=s.heap.objs.size:=Zs I.ok.above (JJ I.lt)
theorem Inv.nofs (I:Inv X pins σ H s) {a:Addr} (h:s.heap.objs.size<=a):a∉X.fs:=fun hb=>by
 obtain⟨_,o,ho,_⟩:=I.ok.funs.mem hb;exact absurd (ZG (Zq ho) (Zs I.sz h)) (Y1 _)
theorem Inv.cne (I:Inv X pins σ H s):∀ x c,X.env.cells.lookup x=some c->c≠X.env.locals:=fun x c e z=>by
 obtain⟨v,o,ho,hd⟩:=I.cell x c e;obtain⟨m,⟨o',es,ep,ho',hd',_⟩,_⟩:=I.loc;rw[z,ho'] at ho; cases ho; rw[hd'] at hd; cases hd
theorem Inv.funs (I:Inv X pins σ H s):s.heap.FunFrames X.base X.outer:=by
 have all:∀(l:List Env),(∀ b∈frs l,b∈X.fs)->X.s₀.heap.FunFrames X.base l->s.heap.FunFrames X.base l:=by
  intro l
  induction l with
  | nil=>intro _ _; trivial
  | cons env r ih =>
   intro hs hl;obtain⟨hk,⟨L,o,hf,hn,ho,hd⟩,hr⟩:=hl;have hL:L∈X.fs:=hs L (by unfold frs; rw[Y0,hf]; exact Zz);obtain⟨sl,e⟩:=I.base.slot L o ho (I.ok.frf L hL) hL fun z=>I.ok.exfs L z hL
   exact⟨hk,⟨L,_,hf,hn,e,hd⟩,ih (fun b hb=>hs b (by unfold frs; rw[Y0,hf]; exact Zy _ hb)) hr⟩
 exact all X.outer (fun _ hb=>hb) I.ok.funs
theorem Inv.stack (I:Inv X pins σ H s):s.heap.FunFrames X.base X.stack:=by
 rcases I.ok.stk with e|⟨e,hf⟩
 .rw [e]; exact I.funs
 .rw [e];obtain⟨m,hn,_⟩:=I.loc;refine .cons (by rw[I.ok.kind]; decide) hf hn ?_ I.funs;exact Wh (Zs I.ok.bsz I.ok.above)
theorem Inv.stkSub (I:Inv X pins σ H s):∀ b∈frs X.stack,b∈X.env.locals::X.fs:=fun b hb=>by
 rcases I.ok.stk with e|⟨e,hf⟩
 .rw [e] at hb; exact Zy _ hb
 .rw [e] at hb;unfold frs at hb;rw[Y0,hf] at hb;exact hb
theorem Inv.stkFree (I:Inv X pins σ H s):∀ b∈frs X.stack,H b=none:=fun b hb=>by
 rcases Z1.mp (I.stkSub b hb) with e|hb
 .rw [e]; exact I.free
 .obtain ⟨_,o,ho,_⟩:=I.ok.funs.mem hb;exact I.base.free b o ho (I.ok.frf b hb) fun z=>I.ok.exfs b z hb
theorem Inv.step {g':Array GenState}{t':Nat}{d':Drawn}{ch:List Addr} (I:Inv X pins σ H s)
    (hch:∀ b∈ch,(b∈X.ex\/X.s₀.heap.objs.size<=b)/\b≠X.env.locals/\(∀ x c,X.env.cells.lookup x=some c->c≠b)/\∀ p∈X.pn++pins,p.1≠b)
    (keep:∀ b o,b≠X.env.locals->b∉X.fs->b∉ch->s.heap.get? b=some o->H b=none->h'.get? b=some o)
    (slot:∀ b o,b≠X.env.locals->b∈X.fs->b∉ch->s.heap.get? b=some o->H b=none->∃ sl,h'.get? b=some { o with slots:=sl }) (free:∀ b o,b∉ch->s.heap.get? b=some o->H b=none->H' b=none)
    (there:∀ b o,b∉ch->s.heap.get? b=some o->∃ o',h'.get? b=some o')
    (tups:∀ b xs,H b=some (.tup xs)->H' b=some (.tup xs)) (frzs:∀ b o u,H b=some (.frz o u)->H' b=some (.frz o u)) (tbls:∀ b ps,H b=some (.tbl ps)->∃ more,H' b=some (.tbl (ps++more)))
    (ns:∀ m,s.heap.Ns X.env.locals m->h'.Ns X.env.locals m) (hok:HOk X.prog X.w H' h') (hg:AllBare g') :
    Inv X pins σ H' { s with heap:=h',gens:=g',drawn:=d',toks:=t' }:=by
  have neL:∀ b o,X.s₀.heap.get? b=some o->b≠X.env.locals:=fun b o e=>ZD (ZG (Zq e) I.ok.above);have neC:∀ b o,X.s₀.heap.get? b=some o->b∉X.ex->b∉ch:=fun b o e hx hb=>by
    rcases (hch b hb).1 with z|z
    . exact hx z
    . exact absurd (ZG (Zq e) z) (Y1 _)
  have cellK:∀ x c,X.env.cells.lookup x=some c->∀ v,s.heap.IsCell c v->h'.IsCell c v:=fun x c e v ⟨o,ho,hd⟩=>by
    have nch:c∉ch:=fun z=>(hch c z).2.2.1 x c e rfl;by_cases hc:c∈X.fs
    . obtain⟨sl,q⟩:=slot c o (I.cne x c e) hc nch ho (I.freeC x c e)
      exact⟨_,q,hd⟩
    . exact⟨o,keep c o (I.cne x c e) hc nch ho (I.freeC x c e),hd⟩
  refine⟨I.ok,I.os,hg,⟨fun b o e n hb hx=>?_,fun b o e n hb hx=>?_,fun b o e n hx=>?_,fun b o e hx=>?_,fun b xs e=>tups b xs (I.base.tups b xs e),fun b o xs e=>frzs b o xs (I.base.frzs b o xs e),fun b ps e=>?_⟩,?_,fun x c e=>?_,?_,fun x c e=>?_,fun p hp=>?_,hok,I.len⟩
  . exact keep b o (neL b o e) hb (neC b o e hx) (I.base.keep b o e n hb hx) (I.base.free b o e n hx)
  . obtain⟨sl,e1⟩:=I.base.slot b o e n hb hx
    obtain⟨sl',e2⟩:=slot b _ (neL b o e) hb (neC b o e hx) e1 (I.base.free b o e n hx);exact⟨sl',e2⟩
  . obtain⟨o',e1⟩:=I.base.there b o e hx
    exact free b o' (neC b o e hx) e1 (I.base.free b o e n hx)
  . obtain⟨o',e1⟩:=I.base.there b o e hx
    exact there b o' (neC b o e hx) e1
  . obtain⟨m1,e1⟩:=I.base.tbls b ps e
    obtain⟨m2,e2⟩:=tbls b _ e1;exact⟨m1++m2,by rw[e2,Array.append_assoc]⟩
  . obtain⟨m,hn,hl⟩:=I.loc
    refine⟨m,ns m hn,fun i x v e1 e2 e3=>?_⟩;obtain⟨u,r,l⟩:=hl i x v e1 e2 e3;refine⟨u,r,?_⟩;rcases l with l|⟨k,c,e,z⟩
    . exact .inl l
    . exact .inr ⟨k,c,e,cellK x c e _ z⟩
  . obtain⟨v,z⟩:=I.cell x c e
    exact⟨v,cellK x c e v z⟩
  . obtain⟨m,⟨o,_,_,ho,_⟩,_⟩:=I.loc
    exact free _ o (fun z=>(hch _ z).2.1 rfl) ho I.free
  . obtain⟨v,o,ho,hd⟩:=I.cell x c e
    exact free c o (fun z=>(hch c z).2.2.1 x c e rfl) ho (I.freeC x c e)
  . obtain⟨e,n,ne,nf,d⟩:=I.pin p hp
    have nch:p.1∉ch:=fun z=>(hch p.1 z).2.2.2 p hp rfl;exact⟨keep p.1 p.2 ne nf nch e n,free p.1 p.2 nch e n,ne,nf,d⟩
theorem Inv.un {t':Nat} (I:Inv X pins σ H s) (u:Un X.fs [] H H' s.heap h') (hok:HOk X.prog X.w H' h'):Inv X pins σ H' { s with heap:=h',toks:=t' }:=by
 obtain⟨m,⟨o,es,ep,ho,r⟩,_⟩:=id I.loc;obtain⟨sl,hL⟩:=u.any ho I.free (by simp);exact I.step (g':=s.gens) (d':=s.drawn) (ch:=[]) (fun _ z=>nomatch z) (fun b o _ hb _ e n=>u.keep b o e n hb (by simp)) (fun b o _ hb _ e n=>u.slot b o e n hb (by simp)) (fun b o _ e n=>u.free b o e n (by simp)) (fun b o _ e=>u.there b o e (by simp)) u.tups u.frzs u.tbls (fun m' hm=>by
  obtain⟨o',es',ep',ho',r'⟩:=hm;rw[ho] at ho'; cases ho';exact⟨_,es',ep',hL,r'⟩) hok I.bare
theorem Inv.call {g':Array GenState}{t':Nat}{d':Drawn}{ch:List Addr} (I:Inv X pins σ H s) (u:Un (frs X.stack) ch H H' s.heap h') (hok:HOk X.prog X.w H' h') (hg:AllBare g')
    (hch:∀ b∈ch,(b∈X.ex\/X.s₀.heap.objs.size<=b)/\b≠X.env.locals/\(∀ x c,X.env.cells.lookup x=some c->c≠b)/\∀ p∈X.pn++pins,p.1≠b) :
    Inv X pins σ H' { s with heap:=h',gens:=g',drawn:=d',toks:=t' }:=by
  obtain⟨m,⟨o,es,ep,ho,r⟩,_⟩:=id I.loc;obtain⟨sl,hL⟩:=u.any ho I.free fun z=>(hch _ z).2.1 rfl
  exact I.step (ch:=ch) hch (fun b o hL hb hc e n=>u.keep b o e n (fun z=>(Z1.mp (I.stkSub b z)).elim hL hb) hc) (fun b o _ _ hc e n=>u.any e n hc) (fun b o hc e n=>u.free b o e n hc) (fun b o hc e=>u.there b o e hc) u.tups u.frzs u.tbls (fun m' hm=>by
    obtain⟨o',es',ep',ho',r'⟩:=hm;rw[ho] at ho'; cases ho';exact⟨_,es',ep',hL,r'⟩) hok hg
theorem Inv.turned {t':Nat}{it:Addr} (I:Inv X pins σ H s) (k:∀ b o,b≠it->s.heap.get? b=some o->h'.get? b=some o) (hn:H it=none) (hL:it≠X.env.locals)
    (h1:it∈X.ex\/X.s₀.heap.objs.size<=it) (h2:∀ x c,X.env.cells.lookup x=some c->c≠it) (h3:∀ p∈X.pn++pins,p.1≠it):Inv X pins σ H { s with heap:=h',toks:=t' }:=by
  have nit:∀ b u,H b=some u->b≠it:=fun b u e z=>by rw[z,hn] at e; cases e
  refine I.step (g':=s.gens) (d':=s.drawn) (ch:=[it]) (fun b hb=>?_) (fun b o _ _ hc e _=>k b o (fun z=>hc (by simp[z])) e) (fun b o _ _ hc e _=>⟨o.slots,k b o (fun z=>hc (by simp[z])) e⟩) (fun _ _ _ _ n=>n)
    (fun b o hc e=>⟨o,k b o (fun z=>hc (by simp[z])) e⟩) (fun _ _ e=>e) (fun _ _ _ e=>e) (fun b ps e=>⟨#[],by rw[e]; simp⟩) (fun m hm=>?_) (fun b u e=>?_) I.bare
  . have e:b=it:=by simpa using hb
    subst e;exact⟨h1,hL,h2,h3⟩
  . obtain⟨o,es,ep,ho,r⟩:=hm
    exact⟨o,es,ep,k _ o (ZF hL) ho,r⟩
  . refine (I.hok b u e).stay (fun c v hc q=>k c v ?_ q) (fun _ q=>q) fun _ _ q=>q
    rcases hc with z|z
    . rw[z]; exact nit b u e
    . exact nit c _ z
theorem Inv.tok (I:Inv X pins σ H s) (t:Nat):Inv X pins σ H { s with toks:=t }:=I.un (h':=s.heap) (t':=t) Un.refl I.hok
theorem Inv.kept {t':Nat} (I:Inv X pins σ H s) (k:∀ b u,s.heap.get? b=some u->h'.get? b=some u):Inv X pins σ H { s with heap:=h',toks:=t' }:=I.un (Un.kept k) (I.hok.kept k)
theorem Inv.laid {a:Addr}{o:HO}{t':Nat} (I:Inv X pins σ H s) (k:∀ b u,s.heap.get? b=some u->h'.get? b=some u) (hp:s.heap.objs.size<=a) (new:xao X.prog X.w (upd H a o) h' a o) :
    Inv X pins σ (upd H a o) { s with heap:=h',toks:=t' }:=I.un (Un.laid k hp (I.hok.fresh hp)) (I.hok.laid k hp new)
theorem Inv.write {x e:Addr}{o:HO}{t':Nat} (I:Inv X pins σ H s) (mu:Mut (H x)) (he:e=x\/H e=some (.own x)) (k:∀ b u,b≠e->s.heap.get? b=some u->h'.get? b=some u) (heo:∃ u,h'.get? e=some u)
    (new:xao X.prog X.w (upd H x o) h' x o):Inv X pins σ (upd H x o) { s with heap:=h',toks:=t' }:=I.un (Un.write mu he k heo) (I.hok.write mu he k heo new)
theorem Inv.weak {σ':List (Option V)} (I:Inv X pins σ H s) (hl:σ'.length=σ.length) (w:∀(i:Nat) v,σ'[i]?=some (some v)->σ[i]?=some (some v)):Inv X pins σ' H s :=
 ⟨I.ok,I.os,I.bare,I.base,let ⟨m,hn,hl'⟩:=I.loc; ⟨m,hn,fun i x v e1 e2 e3=>hl' i x v e1 (w i v e2) e3⟩,I.cell,I.free,I.freeC,I.pin,I.hok,hl.trans I.len⟩
theorem Inv.pins_of {pins':List (Addr × Obj)} (I:Inv X pins σ H s) (h:∀ p∈pins',s.heap.get? p.1=some p.2/\H p.1=none/\p.1≠X.env.locals/\p.1∉X.fs/\∀ v,p.2.data≠.cell v):Inv X pins' σ H s :=
 ⟨I.ok,I.os,I.bare,I.base,I.loc,I.cell,I.free,I.freeC,fun p hp=>(Z5.mp hp).elim (fun z=>I.pin p (Yq _ z)) (h p),I.hok,I.len⟩
theorem xgx {N:List Str} (hN:N.Nodup) {i j:Nat}{x:Str} (a:N[i]?=some x) (b:N[j]?=some x):i=j:=by
 obtain⟨h1,e1⟩:=Zj.mp a;obtain⟨h2,e2⟩:=Zj.mp b;exact (List.getElem_inj hN).mp (e1.trans e2.symm)
theorem xi3 {M:Model}{A:Around}{E:Value->Shared->Prop}{i:Nat}{x:Str}{v:V}{u:Value}{Q:Unit->Shared->Prop} (I:Inv X pins σ H s) (hN:X.N.Nodup) (hi:X.N[i]?=some x) (hx:Loc X.env.scope x) (r:RelV v u)
    (h:∀ s',Inv X pins (σ.set i (some v)) H s'->(∃ a,ZI a s.heap s'.heap/\(a=X.env.locals\/X.env.cells.lookup x=some a))->Q () s') (hf:X.fn x=true\/X.env.scope.names.lookup x=some .local:=by first|exact .inl rfl|exact .inr rfl|assumption):wpAny M A (storeName X.env x u) Q E s:=by
  obtain⟨m,hn,hl⟩:=id I.loc;have hcls:(X.env.scope.kind == .class||(X.env.scope.kind == .module&&X.env.locals != X.env.globals))=false:=by rw[I.ok.kind]; rfl
  have hiσ:i<σ.length:=by rw[I.len]; exact (Zj.mp hi).1
  have cne:=I.cne;have tracked:∀{a:Addr}{h':Heap},(∃ o,s.heap.get? a=some o/\H a=none)->ZI a s.heap h'->HOk X.prog X.w H h':=fun {a h'} ha hs b ob e=>by
    obtain⟨_,_,hfree⟩:=ha;refine (I.hok b ob e).stay (fun c w' hc q=>(hs.2 c ?_).trans q) (fun _ q=>q) fun _ _ q=>q;rintro rfl;rcases hc with rfl|hc
    . rw[hfree] at e; cases e
    . rw[hfree] at hc; cases hc
  rcases hx with hk|hk
  . refine wpAny_storeName_local hk hn (fun h' hn' hs=>?_) hcls
    obtain⟨oL,_,_,hoL,_⟩:=id hn;refine h _ ⟨I.ok,I.os,I.bare,⟨fun b o e n hb hx=>?_,fun b o e n hb hx=>?_,I.base.free,fun b o e hx=>?_,I.base.tups,I.base.frzs,I.base.tbls⟩,⟨_,hn',fun j y v' e1 e2 e3=>?_⟩,fun y c e=>?_,I.free,I.freeC,fun p hp=>?_,tracked ⟨oL,hoL,I.free⟩ hs,by simpa using I.len⟩ ⟨_,hs,.inl rfl⟩
    . exact (hs.2 b (ZD (ZG (Zq e) I.ok.above))).trans (I.base.keep b o e n hb hx)
    . obtain⟨sl,e1⟩:=I.base.slot b o e n hb hx
      exact⟨sl,(hs.2 b (ZD (ZG (Zq e) I.ok.above))).trans e1⟩
    . obtain⟨o',e1⟩:=I.base.there b o e hx
      exact⟨o',(hs.2 b (ZD (ZG (Zq e) I.ok.above))).trans e1⟩
    . by_cases hj:j=i
      . subst hj
        rw[hi] at e1; cases e1;rw[QE hiσ] at e2;cases e2;exact⟨u,r,.inl ⟨hk,by simp⟩⟩
      . rw[Yr (ZF hj)] at e2
        obtain⟨u',r',q⟩:=hl j y v' e1 e2 e3;refine⟨u',r',?_⟩;rcases q with⟨k,e⟩|⟨k,c,e,z⟩
        . refine .inl ⟨k,?_⟩
          have:y≠x:=fun e=>hj (xgx hN e1 (e▸hi));simp[this,e]
        . exact .inr ⟨k,c,e,z.sameBut hs (cne y c e)⟩
    . obtain⟨w',z⟩:=I.cell y c e
      exact⟨w',z.sameBut hs (cne y c e)⟩
    . obtain⟨e,n,ne,nf,d⟩:=I.pin p hp
      exact⟨(hs.2 p.1 ne).trans e,n,ne,nf,d⟩
  . have hfn:X.fn x=true:=by
      rcases hf with z|z
      . exact z
      . rw[z] at hk; cases hk
    obtain⟨c,hc⟩:=I.ok.has x (.inl hk);obtain⟨w',z⟩:=I.cell x c hc;refine wpAny_storeName_cell I.ok.kind hk hc z (fun h' hc' hs=>?_);obtain⟨oc,hoc,hocd⟩:=id z;refine h { s with heap:=h' } ⟨I.ok,I.os,I.bare,⟨fun b o e n hb hx=>?_,fun b o e n hb hx=>?_,I.base.free,fun b o e hx=>?_,I.base.tups,I.base.frzs,I.base.tbls⟩,⟨m,hn.sameBut hs (ZF (cne x c hc)),fun j y v' e1 e2 e3=>?_⟩,fun y c' e=>?_,I.free,I.freeC,fun p hp=>?_,tracked ⟨oc,hoc,I.freeC x c hc⟩ hs,by simpa using I.len⟩ ⟨c,hs,.inr hc⟩
    . exact (hs.2 b (ZD (ZG (Zq e) (I.ok.cab x c hfn hc)))).trans (I.base.keep b o e n hb hx)
    . obtain⟨sl,e1⟩:=I.base.slot b o e n hb hx
      exact⟨sl,(hs.2 b (ZD (ZG (Zq e) (I.ok.cab x c hfn hc)))).trans e1⟩
    . obtain⟨o',e1⟩:=I.base.there b o e hx
      exact⟨o',(hs.2 b (ZD (ZG (Zq e) (I.ok.cab x c hfn hc)))).trans e1⟩
    . by_cases hj:j=i
      . subst hj
        rw[hi] at e1; cases e1;rw[QE hiσ] at e2;cases e2;exact⟨u,r,.inr ⟨.inl hk,c,hc,hc'⟩⟩
      . rw[Yr (ZF hj)] at e2
        obtain⟨u',r',q⟩:=hl j y v' e1 e2 e3;refine⟨u',r',?_⟩;rcases q with q|⟨k,c',e,z'⟩
        . exact .inl q
        . refine .inr ⟨k,c',e,z'.sameBut hs ?_⟩
          rintro rfl;exact hj (xgx hN e1 (I.ok.inj _ _ _ e hc▸hi))
    . by_cases hcc:c'=c
      . subst hcc; exact⟨_,hc'⟩
      . obtain⟨w2,z2⟩:=I.cell y c' e
        exact⟨w2,z2.sameBut hs hcc⟩
    . obtain⟨e,n,ne,nf,d⟩:=I.pin p hp
      refine⟨(hs.2 p.1 ?_).trans e,n,ne,nf,d⟩;intro q;rw[q,hoc] at e;have q':oc=p.2:=JC.inj e;exact d w' (by rw[<- q']; exact hocd)
theorem xgl {M:Model}{A:Around}{E:Value->Shared->Prop}{i:Nat}{x:Str}{v:V}{u:Value}{Q:Unit->Shared->Prop} (I:Inv X pins σ H s) (hN:X.N.Nodup) (hi:X.N[i]?=some x) (hx:Loc X.env.scope x) (r:RelV v u)
    (h:∀ s',Inv X pins (σ.set i (some v)) H s'->Q () s') (hf:X.fn x=true\/X.env.scope.names.lookup x=some .local:=by first|exact .inl rfl|exact .inr rfl|assumption):wpAny M A (storeName X.env x u) Q E s :=
  xi3 I hN hi hx r (fun s' I' _=>h s' I') hf
theorem Inv.call' {s':Shared}{ch:List Addr} (I:Inv X pins σ H s) (ho:s'.os=s.os) (u:Un (frs X.stack) ch H H' s.heap s'.heap) (hok:HOk X.prog X.w H' s'.heap) (hg:AllBare s'.gens)
    (hch:∀ b∈ch,(b∈X.ex\/X.s₀.heap.objs.size<=b)/\b≠X.env.locals/\(∀ x c,X.env.cells.lookup x=some c->c≠b)/\∀ p∈X.pn++pins,p.1≠b):Inv X pins σ H' s':=by
  obtain⟨h',g',d',t',o'⟩:=s';have e:o'=s.os:=ho;subst e;exact I.call (g':=g') (t':=t') (d':=d') u hok hg hch
end
abbrev XK:=Addr->Addr->Hp->Prop
abbrev St:=List (Option V)
abbrev VK:=V->Hp->Prop
abbrev TE:=St->Hp->VK->Prop
abbrev TT:=St->Hp->(Bool->Hp->Prop)->Prop
abbrev TA:=St->Hp->(List V->Hp->Prop)->Prop
structure Ends where
 nx:St->Hp->Prop
 rt:VK
 bk:St->Hp->Prop:=fun _ _=>False
 ct:St->Hp->Prop:=fun _ _=>False
abbrev TS:=Ends->St->Hp->Prop
def EP (X:Cx) (pins:List (Addr × Obj)) (σ:St) (Q:VK) (u:Value) (s':Shared):Prop:=∃ v H',Inv X pins σ H' s'/\RelV v u/\Q v H'
def TP (X:Cx) (pins:List (Addr × Obj)) (σ:St) (Q:Bool->Hp->Prop) (b:Bool) (s':Shared):Prop:=∃ H',Inv X pins σ H' s'/\Q b H'
def AP (X:Cx) (pins:List (Addr × Obj)) (σ:St) (Q:List V->Hp->Prop) (us:List Value) (s':Shared):Prop:=∃ vs H',Inv X pins σ H' s'/\Vals vs us/\Q vs H'
def SP (X:Cx) (pins:List (Addr × Obj)) (D:Ends) (f:Flow) (s':Shared):Prop :=
 match f with
 | .next=>∃ σ' H',Inv X pins σ' H' s'/\D.nx σ' H'
 | .brk=>∃ σ' H',Inv X pins σ' H' s'/\D.bk σ' H'
 | .cont=>∃ σ' H',Inv X pins σ' H' s'/\D.ct σ' H'
 | .ret u=>∃ v σ' H',Inv X pins σ' H' s'/\RelV v u/\D.rt v H'
def PE (X:Cx) (e:Expr) (t:TE):Prop :=
 ∀(pins:List (Addr × Obj)) (s:Shared) (σ:St) (H:Hp) (Q:VK),Inv X pins σ H s->t σ H Q->wpAny (model X.prog X.w) X.A (eval e X.env) (EP X pins σ Q) X.xe s
def PT (X:Cx) (e:Expr) (t:TT):Prop :=
 ∀(pins:List (Addr × Obj)) (s:Shared) (σ:St) (H:Hp) (Q:Bool->Hp->Prop),Inv X pins σ H s->t σ H Q->wpAny (model X.prog X.w) X.A (isTrue e X.env (eval e X.env)) (TP X pins σ Q) X.xe s
def PW (X:Cx) (e:Expr) (t:TT):Prop :=
 ∀(whole:Sem Value) (pins:List (Addr × Obj)) (s:Shared) (σ:St) (H:Hp) (Q:Bool->Hp->Prop),Inv X pins σ H s->t σ H Q->wpAny (model X.prog X.w) X.A (isTrue e X.env whole) (TP X pins σ Q) X.xe s
theorem PW.pt {X:Cx}{e:Expr}{t:TT} (h:PW X e t):PT X e t:=h _
def PA (X:Cx) (es:List Expr) (t:TA):Prop :=
 ∀(pos:Pos) (pins:List (Addr × Obj)) (s:Shared) (σ:St) (H:Hp) (Q:List V->Hp->Prop),Inv X pins σ H s->t σ H Q->wpAny (model X.prog X.w) X.A (spliced (backTo pos (starEach es X.env))) (AP X pins σ Q) X.xe s
def PS (X:Cx) (st:Stmt) (t:TS):Prop :=
 ∀(pins:List (Addr × Obj)) (s:Shared) (σ:St) (H:Hp) (D:Ends),Inv X pins σ H s->t D σ H->wpAny (model X.prog X.w) X.A (exec st X.env) (SP X pins D) X.xe s
def PSs (X:Cx) (st:List Stmt) (t:TS):Prop :=
 ∀(pins:List (Addr × Obj)) (s:Shared) (σ:St) (H:Hp) (D:Ends),Inv X pins σ H s->t D σ H->wpAny (model X.prog X.w) X.A (execs st X.env) (SP X pins D) X.xe s
theorem thn {α:Type}{t:Sem α}{Q Q':α->Shared->Prop}{M:Model}{A:Around}{E:Value->Shared->Prop}{s:Shared} (h:wpAny M A t Q E s) (hQ:∀ a s,Q a s->Q' a s):wpAny M A t Q' E s:=ZR h hQ fun _ _ x=>x
section
variable {X:Cx}
def tVar (i:Nat):TE:=fun σ H Q=>∃ v,σ[i]?=some (some v)/\Q v H
def tC (v:V):TE:=fun _ H Q=>Q v H
theorem xt4 {i:Nat}{x:Str}{pos:Pos} (hN:X.N[i]?=some x) (hv:Vis X.env.scope x) (hd:(x == ("__debug__":Str))=false:=by decide) (hcd:(x == ("__classdict__":Str))=false:=by decide):PE X (.Name x pos) (tVar i):=by
 intro pins s σ H Q I h;obtain⟨v,e,h⟩:=h;obtain⟨m,hn,hl⟩:=I.loc;obtain⟨u,r,l⟩:=hl i x v hN e hv;have fin:EP X pins σ Q u s:=⟨v,H,I,r,h⟩
 rcases l with⟨hk,hm⟩|⟨hk,c,hc,hcell⟩
 .exact wpAny_Name (wpAny_loadName_local I.ok.kind hk hn hm fin) hd
 .rcases hk with hk|hk
  .exact wpAny_Name (wpAny_loadName_cell I.ok.kind hk hc hcell fin) hd
  .exact wpAny_Name (wpAny_loadName_free I.ok.kind hk hc hcell fin hcd) hd
theorem xj {i j pos}:PE X (.Constant (.int i) j pos) (tC (.int i)):=fun _ _ _ H _ I h=>wpAny_Constant_int ⟨.int i,H,I.tok _,⟨_,rfl⟩,h⟩
theorem xhp {b j pos}:PE X (.Constant (.bool b) j pos) (tC (.bl b)):=fun _ _ _ H _ I h=>Constant_bool ⟨.bl b,H,I,rfl,h⟩
theorem xhm {j pos}:PE X (.Constant .none j pos) (tC .non):=fun _ _ _ H _ I h=>Constant_none ⟨.non,H,I,rfl,h⟩
theorem xaf {x j pos}:PE X (.Constant (.str x) j pos) (tC (.str x)):=fun _ _ _ H _ I h=>Calls.Constant_str ⟨.str x,H,I.tok _,⟨_,rfl⟩,h⟩
def Gl (X:Cx) (x:Str):Prop:=X.env.kindOf x=some .globalImplicit
theorem xe5 {E:Value->Shared->Prop}{pins:List (Addr × Obj)}{s:Shared}{σ:St}{H:Hp}{x:Str}{u:Value}{pos:Pos}{Q:Value->Shared->Prop} (I:Inv X pins σ H s) (hg:Gl X x) (hm:X.mg x=some u) (h:Q u s)
    (hd:(x == ("__debug__":Str))=false:=by decide):wpAny (model X.prog X.w) X.A (eval (.Name x pos) X.env) Q E s :=
  Calls.Name_function_global I.ok.kind hg (Calls.loadGlobal_global (by rw[I.ok.glob]; exact I.mod.glob.keeps I.bk) hm h) hd
theorem xcl {E:Value->Shared->Prop}{pins:List (Addr × Obj)}{s:Shared}{σ:St}{H:Hp}{x:Str}{u:Value}{pos:Pos}{Q:Value->Shared->Prop} (I:Inv X pins σ H s) (hg:Gl X x) (hm:X.mg x=none) (hv:bootBuiltins x=some u) (h:Q u s)
    (hn:x≠"__name__":=by decide) (hd:(x == ("__debug__":Str))=false:=by decide):wpAny (model X.prog X.w) X.A (eval (.Name x pos) X.env) Q E s:=by
  obtain⟨mb,h1,h2⟩:=I.mod.blt;exact Calls.Name_function_global I.ok.kind hg (Calls.loadGlobal_builtin (by rw[I.ok.glob]; exact I.mod.glob.keeps I.bk) hm (by rw[I.ok.blt]; exact h1.keeps I.bk) ((h2 x hn).trans hv) h) hd
theorem xdl {x:Str}{v:V}{u:Value}{pos:Pos} (hg:Gl X x) (hm:X.mg x=some u) (r:RelV v u) (hd:(x == ("__debug__":Str))=false:=by decide):PE X (.Name x pos) (tC v) :=
 fun _ _ _ H _ I h=>xe5 I hg hm ⟨v,H,I,r,h⟩ hd
theorem xcy {x:Str}{v:V}{u:Value}{pos:Pos} (hg:Gl X x) (hm:X.mg x=none) (hv:bootBuiltins x=some u) (r:RelV v u) (hn:x≠"__name__":=by decide) (hd:(x == ("__debug__":Str))=false:=by decide):PE X (.Name x pos) (tC v) :=
 fun _ _ _ H _ I h=>xcl I hg hm hv ⟨v,H,I,r,h⟩ hn hd
variable {a b:Expr}{ta tb:TE}{pos:Pos}
def PC (X:Cx) (op:CmpOp) (a b:Expr) (t:TE):Prop :=
 ∀(pins:List (Addr × Obj)) (s:Shared) (σ:St) (H:Hp) (Q:VK),Inv X pins σ H s->t σ H Q ->
  wpAny (model X.prog X.w) X.A (eval a X.env) (fun v s₁=>wpAny (model X.prog X.w) X.A (eval b X.env) (fun u s₂=>wpAny (model X.prog X.w) X.A (compareOp op v u) (EP X pins σ Q) X.xe s₂) X.xe s₁) X.xe s
theorem xkp (b:Expr) {op:CmpOp} (h:op≠.In) (h2:op≠.NotIn):behindInMarks op b=false:=by
 have e1:(op == CmpOp.In)=false:=by cases op<;>first|rfl|exact absurd rfl h
 have e2:(op == CmpOp.NotIn)=false:=by cases op<;>first|rfl|exact absurd rfl h2
 cases b<;>simp[behindInMarks,e1,e2]
def tB (t:TE):TT:=fun σ H Q=>t σ H fun x H1=>∃ c,x=.bl c/\Q c H1
theorem xna {op:CmpOp}{t:TE} (h:PC X op a b t) (h1:behindInMarks op b=false:=by first|exact xkp _ (by decide) (by decide)|rfl):PE X (.Compare a [op] [b] pos) t:=fun pins s σ H Q I hw=>wpAny_Compare1 (h pins s σ H Q I hw) h1
theorem xe1 {op:CmpOp}{t:TE} (h:PC X op a b t) (h1:behindInMarks op b=false:=by first|exact xkp _ (by decide) (by decide)|rfl):PT X (.Compare a [op] [b] pos) (tB t):=by
 intro pins s σ H Q I hw;refine wpAny_isTrue_Compare1 (thn (h pins s σ H _ I hw) fun v s1 h1=>thn h1 fun u s2 h2=>thn h2 fun c s3 ⟨x,H1,I1,r1,q1⟩=>?_) h1;obtain⟨d,rfl,q⟩:=q1;cases r1;exact J0 ⟨H1,I1,q⟩
theorem xas {e:Expr}{t:TE} (h:PE X e t) (he:∀ whole,isTrue e X.env whole=(do let v <- whole; standAt e.pos; holding [v] (truthy v)):=by intro _; rfl):PT X e (tB t):=by
 intro pins s σ H Q I hw;refine isTrue_plain (thn (h pins s σ H _ I hw) fun v s1 ⟨x,H1,I1,r1,q1⟩=>?_) (he _);obtain⟨d,rfl,q⟩:=q1;cases r1;exact J0 ⟨H1,I1,q⟩
variable {tA tB':TT}{rest:List Expr}
def tAnd (t u:TT):TT:=fun σ H Q=>t σ H fun c H1=>if c=true then u σ H1 Q else Q false H1
def tOr (t u:TT):TT:=fun σ H Q=>t σ H fun c H1=>if c=true then Q true H1 else u σ H1 Q
def tNot (t:TT):TT:=fun σ H Q=>t σ H fun c H1=>Q (!c) H1
theorem xdd (ha:PT X a tA):PW X (.BoolOp .And [a] pos) tA:=by
 intro wh pins s σ H Q I h;refine isTrue_and (thn (ha pins s σ H Q I h) fun c s1 e=>?_);cases c with
 | true=>exact isTrue_and_nil e
 | false=>exact e
theorem xck (ha:PT X a tA):PW X (.BoolOp .Or [a] pos) tA:=by
 intro wh pins s σ H Q I h;refine isTrue_or (thn (ha pins s σ H Q I h) fun c s1 e=>?_);cases c with
 | false=>exact isTrue_or_nil e
 | true=>exact e
theorem xdq (ha:PT X a tA) (hb:PW X (.BoolOp .And (b::rest) pos) tB'):PW X (.BoolOp .And (a::b::rest) pos) (tAnd tA tB'):=by
 intro wh pins s σ H Q I h;refine isTrue_and (thn (ha pins s σ H _ I h) fun c s1 ⟨H1,I1,q1⟩=>?_);cases c with
 | true=>exact hb wh pins s1 σ H1 Q I1 q1
 | false=>exact⟨H1,I1,q1⟩
theorem xcr (ha:PT X a tA) (hb:PW X (.BoolOp .Or (b::rest) pos) tB'):PW X (.BoolOp .Or (a::b::rest) pos) (tOr tA tB'):=by
 intro wh pins s σ H Q I h;refine isTrue_or (thn (ha pins s σ H _ I h) fun c s1 ⟨H1,I1,q1⟩=>?_);cases c with
 | true=>exact⟨H1,I1,q1⟩
 | false=>exact hb wh pins s1 σ H1 Q I1 q1
theorem xbg (ha:PT X a tA):PT X (.UnaryOp .Not a pos) (tNot tA):=by
 intro pins s σ H Q I h;exact isTrue_not (ha pins s σ H (fun c H1=>Q (!c) H1) I h)
def xut (ta tb:TE):TE:=fun σ H Q=>ta σ H fun x H1=>∃ c,x=.bl c/\if c=true then tb σ H1 Q else Q (.bl false) H1
def tOrV (ta tb:TE):TE:=fun σ H Q=>ta σ H fun x H1=>∃ c,x=.bl c/\if c=true then Q (.bl true) H1 else tb σ H1 Q
def xu0 (ta:TE):TE:=fun σ H Q=>ta σ H fun x H1=>∃ c,x=.bl c/\Q (.bl (!c)) H1
theorem xc7 {op}{t:TE} (h:PE X a t):PE X (.BoolOp op [a] pos) t:=fun pins s σ H Q I hw=>BoolOp_one (h pins s σ H Q I hw)
theorem xce (ha:PE X a ta) (hb:PE X (.BoolOp .And (b::rest) pos) tb):PE X (.BoolOp .And (a::b::rest) pos) (xut ta tb):=by
 intro pins s σ H Q I h;refine BoolOp_and (thn (ha pins s σ H _ I h) fun v s1 ⟨x,H1,I1,r1,q1⟩=>?_);obtain⟨c,rfl,q1⟩:=q1;cases r1;refine J0 ?_;cases c with
 | true=>exact hb pins s1 σ H1 Q I1 q1
 | false=>exact⟨.bl false,H1,I1,rfl,q1⟩
theorem xqz (ha:PE X a ta) (hb:PE X (.BoolOp .Or (b::rest) pos) tb):PE X (.BoolOp .Or (a::b::rest) pos) (tOrV ta tb):=by
 intro pins s σ H Q I h;refine BoolOp_or (thn (ha pins s σ H _ I h) fun v s1 ⟨x,H1,I1,r1,q1⟩=>?_);obtain⟨c,rfl,q1⟩:=q1;cases r1;refine J0 ?_;cases c with
 | false=>exact hb pins s1 σ H1 Q I1 q1
 | true=>exact⟨.bl true,H1,I1,rfl,q1⟩
theorem xnc (ha:PE X a ta):PE X (.UnaryOp .Not a pos) (xu0 ta):=by
 intro pins s σ H Q I h;refine UnaryOp_ (thn (ha pins s σ H _ I h) fun v s1 ⟨x,H1,I1,r1,q1⟩=>?_);obtain⟨c,rfl,q1⟩:=q1;cases r1;exact not_of (J0 ⟨.bl (!c),H1,I1,rfl,q1⟩)
def tIf (t:TT) (ta tb:TE):TE:=fun σ H Q=>t σ H fun c H1=>if c=true then ta σ H1 Q else tb σ H1 Q
theorem xcu {c:Expr} (hc:PT X c tA) (ha:PE X a ta) (hb:PE X b tb):PE X (.IfExp c a b pos) (tIf tA ta tb):=by
 intro pins s σ H Q I h;refine wpAny_IfExp (thn (hc pins s σ H _ I h) fun d s1 ⟨H1,I1,q1⟩=>?_);cases d with
 | true=>exact ha pins s1 σ H1 Q I1 q1
 | false=>exact hb pins s1 σ H1 Q I1 q1
end
def SqL (K:Zd) (H:Hp) (a:Addr) (xs:List V):Prop :=
 Rd H a (.lst xs) \/
  ∃(o:Obj) (its:Array Value) (n:Nat),K.lookup a=some o/\o.cls=.type "list"/\o.dict=none/\o.data=.seq its n/\its.size<=sizeLine/\Vals xs its.toList
def SqT (K:Zd) (H:Hp) (a:Addr) (xs:List V):Prop :=
 Rd H a (.tup xs) \/
  ∃(o:Obj) (its:Array Value) (n:Nat),K.lookup a=some o/\o.cls=.type "tuple"/\o.data=.seq its n/\its.size<=sizeLine/\Vals xs its.toList
def absV:Value->Option V
 | .none=>some .non
 | .bool b=>some (.bl b)
 | .int i _=>some (.int i)
 | .str x _=>some (.str x)
 | .bytes b _=>some (.byt b)
 | .float b _=>some (.flt b)
 | .ref a=>some (.ref a)
 | .type n=>some (.ty n)
 | _=>none
theorem RelV.abs {x:V}{u:Value} (r:RelV x u):absV u=some x:=by
 cases x with
 | non=>cases r; rfl
 | bl _=>cases r; rfl
 | int _=>obtain⟨t,rfl⟩:=r; rfl
 | str _=>obtain⟨t,rfl⟩:=r; rfl
 | byt _=>obtain⟨t,rfl⟩:=r; rfl
 | flt _=>obtain⟨t,rfl⟩:=r; rfl
 | ref _=>cases r; rfl
 | ty _=>cases r; rfl
theorem RelV.inj {x y:V}{u:Value} (r:RelV x u) (q:RelV y u):x=y:=JC.inj (r.abs.symm.trans q.abs)
theorem Vals.inj:∀{xs ys:List V}{us:List Value},Vals xs us->Vals ys us->xs=ys
 | _,_,_,.nil,.nil=>rfl
 | _,_,_,.cons r t,.cons r' t'=>by rw[r.inj r',Vals.inj t t']
section
variable {X:Cx}{pins:List (Addr × Obj)}{σ:St}{H:Hp}{s:Shared}{a:Addr}{xs ys:List V}
theorem SqL.of {K:Zd} (h:H a=some (.lst xs)):SqL K H a xs:=.inl (.inl h)
theorem SqT.of {K:Zd} (h:H a=some (.tup xs)):SqT K H a xs:=.inl (.inl h)
theorem Inv.list (I:Inv X pins σ H s) (h:SqL X.K H a xs):∃ its:List Value,Vals xs its/\PlainL s.heap a its.toArray/\xs.length<=sizeLine:=by
 rcases h with h|⟨o,its,n,hk,hc,hd,hs,hz,r⟩
 .obtain ⟨z,its,n,r,e⟩:=h.ok I.hok;exact⟨its,r,⟨_,n,e,rfl,rfl,rfl⟩,z⟩
 .refine ⟨its.toList,r,⟨o,n,I.kIn a o hk,hc,hd,by simpa using hs⟩,?_⟩;have e:=r.length;simp only[J7] at e;omega
theorem Inv.tuple (I:Inv X pins σ H s) (h:SqT X.K H a xs):∃ its:List Value,Vals xs its/\IsTup s.heap a its.toArray/\xs.length<=sizeLine:=by
 rcases h with h|⟨o,its,n,hk,hc,hs,hz,r⟩
 .obtain ⟨z,its,r,p⟩:=h.ok I.hok;exact⟨its,r,p,z⟩
 .refine ⟨its.toList,r,⟨o,I.kIn a o hk,hc,n,by simpa using hs⟩,?_⟩;have e:=r.length;simp only[J7] at e;omega
theorem Inv.list_inj (I:Inv X pins σ H s) (h:SqL X.K H a xs) (h':SqL X.K H a ys):xs=ys:=by
 obtain⟨its,r,⟨o,n,e,_,_,d⟩,_⟩:=I.list h;obtain⟨its',r',⟨o',n',e',_,_,d'⟩,_⟩:=I.list h';rw[e] at e'; cases e';rw[d] at d';injection d' with d1 _
 have:its=its':=by simpa using congrArg Array.toList d1
 subst this;exact r.inj r'
theorem Inv.tuple_inj (I:Inv X pins σ H s) (h:SqT X.K H a xs) (h':SqT X.K H a ys):xs=ys:=by
 obtain⟨its,r,⟨o,e,_,n,d⟩,_⟩:=I.tuple h;obtain⟨its',r',⟨o',e',_,n',d'⟩,_⟩:=I.tuple h';rw[e] at e'; cases e';rw[d] at d';injection d' with d1 _
 have:its=its':=by simpa using congrArg Array.toList d1
 subst this;exact r.inj r'
end
abbrev Cx.wish (X:Cx) (E:Value->Shared->Prop):Cx:={ X with xe:=E }
abbrev Cx.nox (X:Cx):Cx:=X.wish fun _ _=>False
theorem Cx.Ok.wish {X:Cx} (ok:X.Ok) (E:Value->Shared->Prop):(X.wish E).Ok :=
 ⟨ok.mod,ok.kind,ok.glob,ok.blt,ok.above,ok.inj,ok.has,ok.cab,ok.hd,ok.frames,ok.stk,ok.exf,ok.bs,ok.bsz,ok.noex,ok.exfs,ok.funs,ok.frf⟩
theorem Cx.Ok.unwish {X:Cx}{E:Value->Shared->Prop} (ok:(X.wish E).Ok):X.Ok :=
 ⟨ok.mod,ok.kind,ok.glob,ok.blt,ok.above,ok.inj,ok.has,ok.cab,ok.hd,ok.frames,ok.stk,ok.exf,ok.bs,ok.bsz,ok.noex,ok.exfs,ok.funs,ok.frf⟩
section
variable {X:Cx}{pins:List (Addr × Obj)}{σ:St}{H:Hp}{s:Shared}{E:Value->Shared->Prop}
theorem Inv.wish (I:Inv X pins σ H s) (E:Value->Shared->Prop):Inv (X.wish E) pins σ H s:=⟨I.ok.wish E,I.os,I.bare,I.base,I.loc,I.cell,I.free,I.freeC,I.pin,I.hok,I.len⟩
theorem Inv.unwish (I:Inv (X.wish E) pins σ H s):Inv X pins σ H s:=⟨I.ok.unwish,I.os,I.bare,I.base,I.loc,I.cell,I.free,I.freeC,I.pin,I.hok,I.len⟩
theorem SP.unwish {D:Ends}{f:Flow}{s':Shared} (h:SP (X.wish E) pins D f s'):SP X pins D f s':=by
 cases f with
 | next=>obtain⟨σ',H',I,q⟩:=h; exact⟨σ',H',I.unwish,q⟩
 | brk=>obtain⟨σ',H',I,q⟩:=h; exact⟨σ',H',I.unwish,q⟩
 | cont=>obtain⟨σ',H',I,q⟩:=h; exact⟨σ',H',I.unwish,q⟩
 | ret u=>obtain⟨v,σ',H',I,r,q⟩:=h; exact⟨v,σ',H',I.unwish,r,q⟩
theorem PSs.nox {st:List Stmt}{t:TS} (h:PSs X.nox st t):PSs X st t:=fun pins s σ H D I hw =>
 ZR (h pins s σ H D (I.wish _) hw) (fun _ _ q=>q.unwish) fun _ _ z=>Jz z
end
section
variable {X:Cx}{st:Stmt}{rest:List Stmt}{t u:TS}{e:Expr}{te:TE}{pos:Pos}
def xvq:TS:=fun D σ H=>D.nx σ H
def tSeq (t u:TS):TS:=fun D σ H=>t { D with nx:=u D } σ H
theorem x4:PSs X [] xvq:=fun _ _ σ H _ I h=>QI ⟨σ,H,I,h⟩
theorem xk (h1:PS X st t) (h2:PSs X rest u):PSs X (st::rest) (tSeq t u):=by
 intro pins s σ H D I h;refine wpAny_execs_cons (thn (h1 pins s σ H { D with nx:=u D } I h) fun f s1 q=>?_);cases f with
 | next =>
  obtain⟨σ',H',I',q⟩:=q;exact h2 pins s1 σ' H' D I' q
 | ret v=>exact q
 | brk=>exact q
 | cont=>exact q
theorem xm (h1:PS X st t):PSs X [st] t:=by
 intro pins s σ H D I h;refine wpAny_execs_cons (thn (h1 pins s σ H D I h) fun f s1 q=>?_);cases f with
 | next=>exact QI q
 | ret v=>exact q
 | brk=>exact q
 | cont=>exact q
theorem Inv.quiet {pins:List (Addr × Obj)}{σ:St}{H:Hp}{s:Shared} (I:Inv X pins σ H s):interactive X.env=false:=by simp[interactive,I.ok.kind]
def xvf (te:TE):TS:=fun D σ H=>te σ H fun _ H1=>D.nx σ H1
theorem xax (he:PE X e te) (hs:swapsWith e none pos.line X.env=pure false:=by rfl):PS X (.Expr e pos) (xvf te):=by
 intro pins s σ H D I h;exact wpAny_Expr_any (thn (he pins s σ H _ I h) fun v s1 ⟨x,H1,I1,r1,q1⟩=>⟨σ,H1,I1,q1⟩) I.quiet hs
def tRet (te:TE):TS:=fun D σ H=>te σ H D.rt
theorem x0 (he:PE X e te):PS X (.Return (some e) pos) (tRet te):=by
 intro pins s σ H D I h;exact wpAny_Return_some (thn (he pins s σ H _ I h) fun v s1 ⟨x,H1,I1,r1,q1⟩=>⟨x,σ,H1,I1,r1,q1⟩)
def tIfS (c:TT) (t u:TS):TS:=fun D σ H=>c σ H fun b H1=>if b=true then t D σ H1 else u D σ H1
theorem xae {c:Expr}{a b:List Stmt}{tc:TT} (hc:PT X c tc) (ha:PSs X a t) (hb:PSs X b u):PS X (.If c a b pos) (tIfS tc t u):=by
 intro pins s σ H D I h;refine wpAny_If (thn (hc pins s σ H _ I h) fun d s1 ⟨H1,I1,q1⟩=>?_);cases d with
 | true=>exact ha pins s1 σ H1 D I1 q1
 | false=>exact hb pins s1 σ H1 D I1 q1
def xtu:TS:=fun _ _ _=>False
theorem xa6:PS X st xtu:=fun _ _ _ _ _ _ h=>h.elim
end
abbrev TG:=V->St->Hp->(St->Hp->Prop)->Prop
abbrev TGs:=List V->St->Hp->(St->Hp->Prop)->Prop
def PG (X:Cx) (target:Expr) (t:TG):Prop :=
 ∀(pins:List (Addr × Obj)) (s:Shared) (σ:St) (H:Hp) (v:V) (u:Value) (Q:St->Hp->Prop),Inv X pins σ H s->RelV v u->t v σ H Q ->
  wpAny (model X.prog X.w) X.A (assign target X.env u) (fun _ s'=>∃ σ' H',Inv X pins σ' H' s'/\Q σ' H') X.xe s
def PGs (X:Cx) (ts:List Expr) (t:TGs):Prop :=
 ∀(pins:List (Addr × Obj)) (s:Shared) (σ:St) (H:Hp) (vs:List V) (us:List Value) (Q:St->Hp->Prop),Inv X pins σ H s->Vals vs us->t vs σ H Q ->
  wpAny (model X.prog X.w) X.A (assignInOrder ((assignEach ts X.env).map (·.2)) us) (fun _ s'=>∃ σ' H',Inv X pins σ' H' s'/\Q σ' H') X.xe s
section
variable {X:Cx}{pos:Pos}
def xei (i:Nat):TG:=fun v σ H Q=>Q (σ.set i (some v)) H
theorem xq {i:Nat}{x:Str} (hN:X.N.Nodup) (hi:X.N[i]?=some x) (hx:Loc X.env.scope x) (hf:X.fn x=true\/X.env.scope.names.lookup x=some .local:=by first|exact .inl rfl|exact .inr rfl|assumption):PG X (.Name x pos) (xei i):=by
 intro pins s σ H v u Q I r h;exact wpAny_assign_Name (xgl I hN hi hx r (fun s' I'=>⟨_,H,I',h⟩) hf)
def gNil:TGs:=fun vs σ H Q=>vs=[]/\Q σ H
def xm5 (t:TG) (u:TGs):TGs:=fun vs σ H Q=>∃ v r,vs=v::r/\t v σ H fun σ' H'=>u r σ' H' Q
theorem xag:PGs X [] gNil:=by
 intro pins s σ H vs us Q I r h;obtain⟨e,h⟩:=h;subst e;cases r;exact assignInOrder_nil ⟨σ,H,I,h⟩
theorem xr {e:Expr}{es:List Expr}{t:TG}{u:TGs} (h1:PG X e t) (h2:PGs X es u)
    (hs:(assignEach (e::es) X.env).map (·.2)=assign e X.env::(assignEach es X.env).map (·.2):=by rfl):PGs X (e::es) (xm5 t u):=by
  intro pins s σ H vs us Q I r h;obtain⟨v,vr,e1,h⟩:=h;subst e1;cases r with
  | cons r rr =>
    rw[hs];refine assignInOrder_cons (thn (h1 pins s σ H _ _ _ I r h) fun _ s1 ⟨σ1,H1,I1,q1⟩=>?_);exact h2 pins s1 σ1 H1 _ _ Q I1 rr q1
def gTup (K:Zd) (n:Nat) (t:TGs):TG:=fun v σ H Q=>∃ a xs,v=.ref a/\SqT K H a xs/\xs.length=n/\t xs σ H Q
theorem xap {es:List Expr}{k:Nat}{t:TGs}{n:Nat} (hc:X.calm=true) (h:PGs X es t)
    (hn:(assignEach es X.env).length=n:=by rfl) (hst:(assignEach es X.env).findIdx? (·.1)=none:=by rfl):PG X (.Tuple es k pos) (gTup X.K n t):=by
  intro pins s σ H v u Q I r hw;obtain⟨a,xs,e1,hq,hl,hw⟩:=hw;subst e1;cases r;obtain⟨its,rv,ht,hz⟩:=I.tuple hq;refine assign_Tuple_tuple (I.ok.hd hc) ht (by simp[hn,<- hl,rv.length]) hst fun h' hx=>?_;have I1:Inv X pins σ H { s with heap:=h' }:=I.kept (t':=s.toks) fun b o e=>hx b o (ZD (Zq e)) e;exact h pins _ σ H xs _ Q I1 (by simpa using rv) hw
def tAsg (te:TE) (g:TG):TS:=fun D σ H=>te σ H fun x H1=>g x σ H1 D.nx
theorem xcc {tg e:Expr}{te:TE}{g:TG} (he:PE X e te) (hg:PG X tg g) (hs:swapsWithSole [tg] e pos.line X.env=pure false:=by rfl) (hw:swappedStores [tg] e X.env=pure none:=by rfl)
    (h1:(assignEach [tg] X.env).map (·.2)=[assign tg X.env]:=by rfl):PS X (.Assign [tg] e pos) (tAsg te g):=by
  intro pins s σ H D I h;refine wpAny_Assign_stores (thn (he pins s σ H _ I h) fun v s1 ⟨x,H1,I1,r1,q1⟩=>?_) hs hw;rw[h1];exact thn (hg pins s1 σ H1 x v _ I1 r1 q1) fun _ s2 q=>q
theorem xw {i:Nat}{x:Str}{e:Expr}{te:TE}{pos':Pos} (hN:X.N.Nodup) (hi:X.N[i]?=some x) (hx:Loc X.env.scope x) (he:PE X e te) (hs:swapsWith e (some (.Name x pos')) pos.line X.env=pure false:=by rfl) (hf:X.fn x=true\/X.env.scope.names.lookup x=some .local:=by first|exact .inl rfl|exact .inr rfl|assumption) :
    PS X (.Assign [.Name x pos'] e pos) (tAsg te (xei i)):=by
  intro pins s σ H D I h;refine wpAny_Assign_Name (thn (he pins s σ H _ I h) fun v s1 ⟨y,H1,I1,r1,q1⟩=>?_) hs;exact xgl I1 hN hi hx r1 (fun s2 I2=>⟨_,H1,I2,q1⟩) hf
end
structure It where
 go:Nat->Hp->Prop
 yld:Nat->Hp->V->Hp->Prop
 stop:Nat->Hp->Prop
def FpOk (X:Cx) (pins:List (Addr × Obj)) (H:Hp) (b:Addr):Prop :=
 H b=none/\b≠X.env.locals/\b∉X.fs/\(b∈X.ex\/X.s₀.heap.objs.size<=b)/\(∀ x c,X.env.cells.lookup x=some c->c≠b)/\∀ p∈X.pn++pins,p.1≠b
theorem Inv.fpOk {X:Cx}{pins:List (Addr × Obj)}{σ:St}{H H':Hp}{s:Shared}{b:Addr} (I:Inv X pins σ H s) (hb:s.heap.objs.size<=b) (hn:H' b=none):FpOk X pins H' b:=by
 refine⟨hn,Yd (ZG I.lt hb),I.nofs hb,.inr (Zs I.sz hb),fun x c e z=>?_,fun p hp z=>?_⟩
 .obtain ⟨v,q⟩:=I.cell x c e;exact absurd (ZG q.lt (by rw[z]; exact hb)) (Y1 _)
 .exact absurd (ZG (Zq (I.pin p hp).1) (by rw[z]; exact hb)) (Y1 _)
structure Turn (P:Program) (w:World) (K:Zd) (tg:Expr) (J:It) (fp:List Addr) (it:Addr) (tn:Nat->Heap->Prop):Prop where
 mem:it∈fp
 obj:∀ i h,tn i h->∀ b∈fp,∃ o,h.get? b=some o/\∀ v,o.data≠.cell v
 keep:∀ i h h',tn i h->(∀ b∈fp,∀ o,h.get? b=some o->h'.get? b=some o)->tn i h'
 item:∀(X:Cx),X.prog=P->X.w=w->X.K=K->X.calm=true->∀(i:Nat) (pins:List (Addr × Obj)) (s:Shared) (σ:St) (H:Hp) (E:Value->Shared->Prop),Inv X pins σ H s->(∀ b∈fp,FpOk X pins H b)->tn i s.heap->J.go i H ->
  wpAny (model P w) X.A (pyNext (.ref it)) (fun r s1=>∃ u,r=some u /\
   wpAny (model P w) X.A (letOwnedTupleGo tg (.ref it) u) (fun _ s2=>∃ x H',Inv X pins σ H' s2/\RelV x u/\J.yld i H x H'/\tn (i+1) s2.heap/\∀ b∈fp,H' b=none) E s1) E s
 done:∀(X:Cx),X.prog=P->X.w=w->X.K=K->X.calm=true->∀(i:Nat) (pins:List (Addr × Obj)) (s:Shared) (σ:St) (H:Hp) (E:Value->Shared->Prop),Inv X pins σ H s->(∀ b∈fp,FpOk X pins H b)->tn i s.heap->J.stop i H ->
  wpAny (model P w) X.A (pyNext (.ref it)) (fun r s1=>r=none/\Inv X pins σ H s1) E s
 self:∀(A:Around) (i:Nat) (s:Shared) (Q:Value->Shared->Prop) (E:Value->Shared->Prop),tn i s.heap->Q (.ref it) s->wpAny (model P w) A (pyIter (.ref it)) Q E s
abbrev TI:=St->Hp->(It->Hp->Prop)->Prop
def PIE (X:Cx) (pins:List (Addr × Obj)) (σ:St) (tg:Expr) (R:It->Hp->Prop) (itv:Value) (s2:Shared):Prop :=
 ∃(it:Addr) (fp:List Addr) (tn:Nat->Heap->Prop) (J:It) (H':Hp),itv=.ref it/\Inv X pins σ H' s2/\Turn X.prog X.w X.K tg J fp it tn/\tn 0 s2.heap/\(∀ b∈fp,FpOk X pins H' b)/\R J H'
def PI (X:Cx) (tg iter:Expr) (wi:TI):Prop :=
 ∀(pins:List (Addr × Obj)) (s:Shared) (σ:St) (H:Hp) (R:It->Hp->Prop),Inv X pins σ H s->wi σ H R ->
  wpAny (model X.prog X.w) X.A (eval iter X.env) (fun v s1=>wpAny (model X.prog X.w) X.A (pyIter v) (PIE X pins σ tg R) X.xe s1) X.xe s
theorem xje {M:Model}{A:Around}{E:Value->Shared->Prop}{s:Shared}{tg:Expr}{it:Addr}{u:Value}{o:Obj}{n:String}{vs:Array Value}{Q:Unit->Shared->Prop} (ho:s.heap.get? it=some o) (hc:o.cls=.type n) (hd:o.data=.fields vs)
    (hn:["enumerate", "zip", "dict_itemiterator", "dict_reverseitemiterator", "odict_iterator", "itertools.zip_longest", "itertools.pairwise"].contains n=false) (hQ:Q () s):wpAny M A (letOwnedTupleGo tg (.ref it) u) Q E s:=by
  unfold letOwnedTupleGo;cases tg<;>first
    | exact Zk hQ
    | (cases u<;>first
        | exact Zk hQ
        | (refine Zb (wpAny_load ho ?_)
           rw[hc,hd];show wpAny M A (if (["enumerate", "zip", "dict_itemiterator", "dict_reverseitemiterator", "odict_iterator", "itertools.zip_longest", "itertools.pairwise"].contains n&&vs[0]? == some (rawInt _))=true then _ else _) Q E s;rw[if_neg (by intro h; rw[hn,JD] at h; cases h)];exact Zk hQ))
def Itl (K:Zd) (a:Addr):It :=
 ⟨fun i H=>∃ xs x,SqL K H a xs/\xs[i]?=some x,fun i H x H'=>H'=H/\∀ xs,SqL K H a xs->xs[i]?=some x,fun i H=>∃ xs,SqL K H a xs/\xs.length<=i⟩
def Itr (lo:Int) (n:Nat):It:=⟨fun i _=>i<n,fun i H x H'=>H'=H/\x=.int (lo+i),fun i _=>n<=i⟩
theorem xo9 {P:Program}{w:World}{K:Zd}{tg:Expr} (a it:Addr):Turn P w K tg (Itl K a) [it] it (fun i h=>h.IsListIter it a i) where
 mem:=by simp
 obj:=fun i h st b hb=>by
  have e:b=it:=by simpa using hb
  subst e;obtain⟨o,e,c,d⟩:=st;exact⟨o,e,fun v z=>by rw[d] at z; cases z⟩
 keep:=fun i h h' st k=>st.at fun o e=>k it (by simp) o e
 item:=by
  intro X hP hw hK hc i pins s σ H E I hf st hg;subst hP hw hK;obtain⟨xs,x,hq,hx⟩:=hg;obtain⟨its,rv,p,hz⟩:=I.list hq;obtain⟨u,hu,ru⟩:=rv.get hx;obtain⟨f0,f1,f2,f3,f4,f5⟩:=hf it (by simp);refine QB st p.isList (x:=u) (by simpa using hu) fun h' st' sb=>?_;have I1:Inv X pins σ H { s with heap:=h' }:=I.turned (t':=s.toks) (fun b o hb e=>(sb.2 b hb).trans e) f0 f1 f3 f4 f5;obtain⟨o,e,c,d⟩:=id st';exact⟨u,rfl,xje (s:={ s with heap:=h' }) e c d (by decide) ⟨x,H,I1,ru,⟨rfl,fun ys hy=>by rw[I.list_inj hy hq]; exact hx⟩,st',fun b hb=>(hf b hb).1⟩⟩
 done:=by
  intro X hP hw hK hc i pins s σ H E I hf st hg;subst hP hw hK;obtain⟨xs,hq,hx⟩:=hg;obtain⟨its,rv,p,hz⟩:=I.list hq;obtain⟨f0,f1,f2,f3,f4,f5⟩:=hf it (by simp);have hl:=rv.length;exact QM (I.ok.hd hc) st p.isList (by simp; omega) fun h' eb=>⟨rfl,I.turned (t':=s.toks) (fun b o hb e=>eb b o hb e) f0 f1 f3 f4 f5⟩
 self:=fun _ _ _ _ _ st h=>wpAny_pyIter_listiter st h
theorem xml {P:Program}{w:World}{K:Zd}{tg:Expr} (it:Addr) (lo:Int) (n:Nat):Turn P w K tg (Itr lo n) [it] it (fun i h=>IsRangeIter h it (lo+(i:Nat)*1) ((n:Int)-(i:Nat)) 1) where
 mem:=by simp
 obj:=fun i h st b hb=>by
  have e:b=it:=by simpa using hb
  subst e;exact⟨_,st,fun v z=>by
   have z':QY _=Data.cell v:=z;cases z'⟩
 keep:=fun i h h' st k=>k it (by simp) _ st
 item:=by
  intro X hP hw hK hc i pins s σ H E I hf st hg;subst hP hw hK;obtain⟨f0,f1,f2,f3,f4,f5⟩:=hf it (by simp);have W:=Walks.range (prog:=X.prog) (w:=X.w) (I.ok.hd hc) it lo 1 n;refine W.item i s _ _ hg st fun v h' tk hv st' kk=>?_;obtain⟨t,rfl⟩:=hv;have I1:Inv X pins σ H { s with heap:=h',toks:=tk }:=I.turned (fun b o hb e=>kk b o (by simpa using hb) e) f0 f1 f3 f4 f5;refine⟨_,rfl,xje (s:={ s with heap:=h',toks:=tk }) (n:="range_iterator") st' rfl rfl (by decide) ⟨.int (lo+i),H,I1,⟨t,?_⟩,⟨rfl,rfl⟩,st',fun b hb=>(hf b hb).1⟩⟩;rw[Int.mul_one]
 done:=by
  intro X hP hw hK hc i pins s σ H E I hf st hg;subst hP hw hK;obtain⟨f0,f1,f2,f3,f4,f5⟩:=hf it (by simp);exact wpAny_pyNext_range_end (I.ok.hd hc) st (by have:n<=i:=hg; omega) fun h' eb=>⟨rfl,I.turned (t':=s.toks) (fun b o hb e=>eb b o hb e) f0 f1 f3 f4 f5⟩
 self:=fun _ _ _ _ _ st h=>wpAny_pyIter_rangeiter st h
section
variable {X:Cx}{tg:Expr}
def xu5 (K:Zd) (tl:TE):TI:=fun σ H R=>tl σ H fun x H1=>∃ a,x=.ref a/\(∃ xs,SqL K H1 a xs)/\R (Itl K a) H1
theorem xa0 {l:Expr}{tl:TE} (hl:PE X l tl):PI X tg l (xu5 X.K tl):=by
 intro pins s σ H R I h;refine thn (hl pins s σ H _ I h) fun v s1 ⟨x,H1,I1,r1,q1⟩=>?_;obtain⟨a,e,⟨xs,hq⟩,q⟩:=q1;subst e;cases r1;obtain⟨its,rv,p,hz⟩:=I1.list hq;refine wpAny_pyIter_list p.isList ?_;refine⟨s1.heap.objs.size,[s1.heap.objs.size],_,_,H1,rfl,I1.kept (t':=s1.toks) fun b o e=>Zg _ e,xo9 a _,⟨_,Zx _ rfl,rfl,rfl⟩,fun b hb=>?_,q⟩;have e:b=s1.heap.objs.size:=by simpa using hb
 subst e;exact I1.fpOk (Zi _) (I1.hok.fresh (Zi _))
theorem xkr {pins:List (Addr × Obj)}{σ:St}{H:Hp}{s:Shared}{R:It->Hp->Prop}{E:Value->Shared->Prop}{lo hi:Int}{t u v:Tok}{tk:Nat} (I:Inv X pins σ H s) (h1:-(2 ^ 62)<=lo) (h2:lo<2 ^ 62) (h3:-(2 ^ 62)<=hi) (h4:hi<2 ^ 62)
    (q:R (Itr lo (hi-lo).toNat) H):wpAny (model X.prog X.w) X.A (pyIter (.ref s.heap.objs.size)) (PIE X pins σ tg R) E { s with heap:=s.heap.push { cls:=.type "range",data:=.fields #[.int lo t,.int hi u,.int 1 v] },toks:=tk }:=by
  refine wpAny_pyIter_range (IsRange.new ..) (small_one h1 h2 h3 h4) ?_;have I1:Inv X pins σ H { s with heap:=s.heap.push { cls:=.type "range",data:=.fields #[.int lo t,.int hi u,.int 1 v] },toks:=tk }:=I.kept fun b o e=>Zg _ e;refine⟨(s.heap.push { cls:=.type "range",data:=.fields #[.int lo t,.int hi u,.int 1 v] }).objs.size,[(s.heap.push { cls:=.type "range",data:=.fields #[.int lo t,.int hi u,.int 1 v] }).objs.size],_,_,H,rfl,
    I1.kept (t':=tk) fun b o e=>Zg _ e,xml _ lo (hi-lo).toNat,?_,fun b hb=>?_,q⟩
  . have e1:lo+((0:Nat):Int)*1=lo:=by simp
    have e2:(((hi-lo).toNat:Nat):Int)-((0:Nat):Int)=Builtin.Range.rangeSize lo hi 1:=by rw[rangeSize_one]; split<;>omega
    show IsRangeIter _ _ (lo+((0:Nat):Int)*1) ((((hi-lo).toNat:Nat):Int)-((0:Nat):Int)) 1;rw[e1,e2];exact Zx _ rfl
  . have e:b=(s.heap.push { cls:=.type "range",data:=.fields #[.int lo t,.int hi u,.int 1 v] }).objs.size:=by simpa using hb
    subst e;exact I1.fpOk (Zi _) (I1.hok.fresh (Zi _))
def xvo (ta:TA):TI:=fun σ H R=>ta σ H fun vs H1=>∃ j:Int,vs=[.int j]/\-(2 ^ 62)<=j/\j<2 ^ 62/\R (Itr 0 j.toNat) H1
def xva (ta:TA):TI:=fun σ H R=>ta σ H fun vs H1=>∃ i j:Int,vs=[.int i,.int j]/\(-(2 ^ 62)<=i/\i<2 ^ 62/\-(2 ^ 62)<=j/\j<2 ^ 62)/\R (Itr i (j-i).toNat) H1
theorem xnf {a:Expr}{ta:TA}{p pos:Pos} (hg:Gl X "range") (hm:X.mg "range"=none) (ha:PA X [a] ta) (hs:starEach [a] X.env=[(false,eval a X.env)]:=by rfl):PI X tg (.Call (.Name "range" p) [a] [] pos) (xvo ta):=by
 intro pins s σ H R I h;refine Call_ (xcl I hg hm boot_range (ZS (thn (ha pos pins s σ H _ I h) fun us s1 ⟨vs,H1,I1,r1,q1⟩=>?_) hs rfl));obtain⟨j,e,q1,q2,q⟩:=q1;subst e;cases r1 with
 | cons r rr =>
  cases rr;obtain⟨t,rfl⟩:=r;exact call_range_1 (xkr I1 (by omega) (by omega) q1 q2 (by simpa using q))
theorem xed {a b:Expr}{ta:TA}{p pos:Pos} (hg:Gl X "range") (hm:X.mg "range"=none) (ha:PA X [a,b] ta) (hs:starEach [a,b] X.env=[(false,eval a X.env),(false,eval b X.env)]:=by rfl) (hs2:starEach [b] X.env=[(false,eval b X.env)]:=by rfl) :
    PI X tg (.Call (.Name "range" p) [a,b] [] pos) (xva ta):=by
  intro pins s σ H R I h;refine Call_ (xcl I hg hm boot_range (ZS (thn (ha pos pins s σ H _ I h) fun us s1 ⟨vs,H1,I1,r1,q1⟩=>?_) (by rw[hs,hs2]) (by rw[hs2]; rfl)));obtain⟨i,j,e,⟨q1,q2,q3,q4⟩,q⟩:=q1;subst e;cases r1 with
  | cons r rr =>
    cases rr with
    | cons r' rr =>
      cases rr;obtain⟨t,rfl⟩:=r;obtain⟨t',rfl⟩:=r';exact call_range_2 (xkr I1 q1 q2 q3 q4 q)
def tFor (wi:TI) (g:TG) (tb:TS):TS:=fun D σ H=>wi σ H fun J H1=>∃ W:Nat->Nat->St->Hp->Prop,(∃ m,W 0 m σ H1)/\∀ i m σ H,W i m σ H ->
 (J.stop i H/\D.nx σ H)\/(J.go i H/\∃ N:St->Hp->Prop,(∀ σ' H',N σ' H'->∃ m',m'<m/\W (i+1) m' σ' H')/\∀ x H',J.yld i H x H'->g x σ H' fun σ2 H2=>tb { D with nx:=N,ct:=N,bk:=D.nx } σ2 H2)
def xfw (fp:List Addr) (h:Heap):List (Addr × Obj):=fp.filterMap fun b=>(h.get? b).map fun o=>(b,o)
theorem xc9 {fp:List Addr}{h:Heap}{b:Addr}{o:Obj} (hb:b∈fp) (e:h.get? b=some o):(b,o)∈xfw fp h:=List.mem_filterMap.mpr ⟨b,hb,by rw[e]; rfl⟩
theorem xop {fp:List Addr}{h:Heap}{p:Addr × Obj} (hp:p∈xfw fp h):p.1∈fp/\h.get? p.1=some p.2:=by
 obtain⟨b,hb,e⟩:=List.mem_filterMap.mp hp;cases q:h.get? b with
 | none=>rw[q] at e; cases e
 | some o =>
  rw[q] at e;have e':(b,o)=p:=JC.inj e;subst e';exact⟨hb,q⟩
theorem Inv.pinned {pins:List (Addr × Obj)}{σ:St}{H:Hp}{s:Shared}{fp:List Addr} (I:Inv X pins σ H s) (hf:∀ b∈fp,FpOk X pins H b) (ho:∀ b∈fp,∃ o,s.heap.get? b=some o/\∀ v,o.data≠.cell v):Inv X (pins++xfw fp s.heap) σ H s :=
 I.pins_of fun p hp=>(Z5.mp hp).elim (fun z=>I.pin p (ZP _ z)) fun z=>by
  obtain⟨hb,e⟩:=xop z;obtain⟨f0,f1,f2,_⟩:=hf p.1 hb;obtain⟨o,e',d⟩:=ho p.1 hb;rw[e] at e'; cases e';exact⟨e,f0,f1,f2,d⟩
theorem Inv.unpinned {pins pl:List (Addr × Obj)}{σ:St}{H:Hp}{s:Shared} (I:Inv X (pins++pl) σ H s):Inv X pins σ H s:=I.pins_of fun p hp=>I.pin p (ZP _ (Yq _ hp))
theorem xa4 {iter:Expr}{body:List Stmt}{wi:TI}{g:TG}{tb:TS}{pos:Pos} (hp:PassesOwn (model X.prog X.w) X.A X.env X.xe) (hc:X.calm=true) (hi:PI X tg iter wi) (hg:PG X tg g) (hb:PSs X body tb)
    (hs:∀ x,foldedSetIterable iter X.env x=pure x:=by intro _; rfl):PS X (.For tg iter body [] pos) (tFor wi g tb):=by
  intro pins s σ H D I h;refine wpAny_For (thn (hi pins s σ H _ I h) fun v s1 h1=>thn h1 fun itv s2 h2=>?_) hs;obtain⟨it,fp,tn,J,H2,e,I2,T,st2,f2,W,⟨m0,w0⟩,turn⟩:=h2;subst e
  -- what stays true of the iterator's objects through the loop
  have stat:∀{H':Hp},(∀ b∈fp,H' b=none)->∀ b∈fp,FpOk X pins H' b:=fun hn b hb=>⟨hn b hb,(f2 b hb).2⟩
  refine codeAny_forLoop_any (fun n s'=>∃ i σ' H',Inv X pins σ' H' s'/\tn i s'.heap/\(∀ b∈fp,H' b=none)/\W i n σ' H') ?_ m0 ⟨0,σ,H2,I2,st2,fun b hb=>(f2 b hb).1,w0⟩;rintro n s3 ⟨i,σ3,H3,I3,st3,fr3,w3⟩;rcases turn i n σ3 H3 w3 with⟨stop,qn⟩|⟨go,N,hN,step⟩
  . refine YW hp (thn (T.done X rfl rfl rfl hc i pins s3 σ3 H3 X.xe I3 (stat fr3) st3 stop) fun r s4 ⟨hr,I4⟩=>?_)
    subst hr;exact QI ⟨σ3,H3,I4,qn⟩
  . refine YW hp (thn (T.item X rfl rfl rfl hc i pins s3 σ3 H3 X.xe I3 (stat fr3) st3 go) fun r s4 ⟨u,hr,h4⟩=>?_)
    subst hr;refine YW hp (thn h4 fun _ s5 ⟨x,H5,I5,r5,y5,st5,fr5⟩=>?_);have I5':=I5.pinned (stat fr5) (T.obj _ _ st5);refine YW hp (thn (hg _ s5 σ3 H5 x u _ I5' r5 (step x H5 y5)) fun _ s6 ⟨σ6,H6,I6,q6⟩=>?_);refine YW hp (thn (hb _ s6 σ6 H6 _ I6 q6) fun f s7 q7=>?_);have again:∀{σ7:St}{H7:Hp},Inv X (pins++xfw fp s5.heap) σ7 H7 s7->N σ7 H7->∃ m,m<n/\∃ i σ' H',Inv X pins σ' H' s7/\tn i s7.heap/\(∀ b∈fp,H' b=none)/\W i m σ' H':=fun {σ7 H7} I7 n7=>by
      obtain⟨m',hm,w7⟩:=hN σ7 H7 n7;refine⟨m',hm,i+1,σ7,H7,I7.unpinned,T.keep _ _ _ st5 fun b hb o e=>(I7.pin (b,o) (ZP _ (ZP _ (xc9 hb e)))).1,fun b hb=>?_,w7⟩;obtain⟨o,e,d⟩:=T.obj _ _ st5 b hb;exact (I7.pin (b,o) (ZP _ (ZP _ (xc9 hb e)))).2.1
    cases f with
    | next=>obtain⟨σ7,H7,I7,n7⟩:=q7; exact again I7 n7
    | cont=>obtain⟨σ7,H7,I7,n7⟩:=q7; exact again I7 n7
    | brk=>obtain⟨σ7,H7,I7,q7⟩:=q7; exact⟨σ7,H7,I7.unpinned,q7⟩
    | ret v=>obtain⟨x7,σ7,H7,I7,r7,q7⟩:=q7; exact⟨x7,σ7,H7,I7.unpinned,r7,q7⟩
end
theorem xbd {K:Zd}{a:Addr}{xs:List V}{g:TG}{tb:TS}{D:Ends}{σ:St}{H:Hp} (Pv:Nat->St->Hp->Prop) (h0:Pv 0 σ H) (hl:∀ i σ H,i<=xs.length->Pv i σ H->SqL K H a xs)
    (hs:∀ i x σ H,xs[i]?=some x->Pv i σ H->g x σ H fun σ2 H2=>tb { D with nx:=Pv (i+1),ct:=Pv (i+1),bk:=D.nx } σ2 H2) (hd:∀ σ H,Pv xs.length σ H->D.nx σ H) :
    ∃ W:Nat->Nat->St->Hp->Prop,(∃ m,W 0 m σ H)/\∀ i m σ H,W i m σ H ->
      ((Itl K a).stop i H/\D.nx σ H)\/((Itl K a).go i H/\∃ N:St->Hp->Prop,(∀ σ' H',N σ' H'->∃ m',m'<m/\W (i+1) m' σ' H')/\∀ x H',(Itl K a).yld i H x H'->g x σ H' fun σ2 H2=>tb { D with nx:=N,ct:=N,bk:=D.nx } σ2 H2):=by
  refine⟨fun i m σ H=>m=xs.length-i/\i<=xs.length/\Pv i σ H,⟨xs.length,by simp,Jb _,h0⟩,?_⟩;rintro i m σ H ⟨rfl,hi,p⟩;have q:=hl i σ H hi p;by_cases hlt:i<xs.length
  . refine .inr ⟨⟨xs,xs[i],q,by simp[hlt]⟩,Pv (i+1),fun σ' H' p'=>⟨xs.length-(i+1),by omega,rfl,hlt,p'⟩,fun x H' y=>?_⟩
    obtain⟨e,y⟩:=y;subst e;exact hs i x σ _ (y xs q) p
  . have e:i=xs.length:=by omega
    subst e;exact .inl ⟨⟨xs,q,Zi _⟩,hd σ H p⟩
theorem xog {lo:Int}{n:Nat}{g:TG}{tb:TS}{D:Ends}{σ:St}{H:Hp} (Pv:Nat->St->Hp->Prop) (h0:Pv 0 σ H)
    (hs:∀ i σ H,i<n->Pv i σ H->g (.int (lo+i)) σ H fun σ2 H2=>tb { D with nx:=Pv (i+1),ct:=Pv (i+1),bk:=D.nx } σ2 H2) (hd:∀ σ H,Pv n σ H->D.nx σ H) :
    ∃ W:Nat->Nat->St->Hp->Prop,(∃ m,W 0 m σ H)/\∀ i m σ H,W i m σ H ->
      ((Itr lo n).stop i H/\D.nx σ H)\/((Itr lo n).go i H/\∃ N:St->Hp->Prop,(∀ σ' H',N σ' H'->∃ m',m'<m/\W (i+1) m' σ' H')/\∀ x H',(Itr lo n).yld i H x H'->g x σ H' fun σ2 H2=>tb { D with nx:=N,ct:=N,bk:=D.nx } σ2 H2):=by
  refine⟨fun i m σ H=>m=n-i/\i<=n/\Pv i σ H,⟨n,by simp,Jb _,h0⟩,?_⟩;rintro i m σ H ⟨rfl,hi,p⟩;by_cases hlt:i<n
  . refine .inr ⟨hlt,Pv (i+1),fun σ' H' p'=>⟨n-(i+1),by omega,rfl,hlt,p'⟩,fun x H' y=>?_⟩
    obtain⟨e,y⟩:=y;subst e y;exact hs i σ _ hlt p
  . have e:i=n:=by omega
    subst e;exact .inl ⟨Zi _,hd σ H p⟩
abbrev R2:=V->V->Hp->VK->Prop
def OpR (X:Cx) (f:Value->Value->Sem Value) (r:R2):Prop :=
 ∀(pins:List (Addr × Obj)) (s:Shared) (σ:St) (H:Hp) (x y:V) (v u:Value) (Q:VK),Inv X pins σ H s->RelV x v->RelV y u->r x y H Q ->
  wpAny (model X.prog X.w) X.A (f v u) (EP X pins σ Q) X.xe s
def UnR (X:Cx) (f:Value->Sem Value) (r:V->Hp->VK->Prop):Prop :=
 ∀(pins:List (Addr × Obj)) (s:Shared) (σ:St) (H:Hp) (x:V) (v:Value) (Q:VK),Inv X pins σ H s->RelV x v->r x H Q ->
  wpAny (model X.prog X.w) X.A (f v) (EP X pins σ Q) X.xe s
def xb1 (X:Cx) (f:Value) (r:List V->Hp->VK->Prop):Prop :=
 ∀(pins:List (Addr × Obj)) (s:Shared) (σ:St) (H:Hp) (xs:List V) (us:List Value) (Q:VK),Inv X pins σ H s->Vals xs us->r xs H Q ->
  wpAny (model X.prog X.w) X.A (call f us) (EP X pins σ Q) X.xe s
def tOp (r:R2) (ta tb:TE):TE:=fun σ H Q=>ta σ H fun x H1=>tb σ H1 fun y H2=>r x y H2 Q
def tUn (r:V->Hp->VK->Prop) (ta:TE):TE:=fun σ H Q=>ta σ H fun x H1=>r x H1 Q
def rI (C:Int->Int->Prop) (g:Int->Int->V):R2:=fun x y H Q=>∃ i j,x=.int i/\y=.int j/\C i j/\Q (g i j) H
def rI0 (g:Int->Int->V):R2:=fun x y H Q=>∃ i j,x=.int i/\y=.int j/\Q (g i j) H
def rU (g:Int->V):V->Hp->VK->Prop:=fun x H Q=>∃ i,x=.int i/\Q (g i) H
section
variable {X:Cx}{a b c:Expr}{ta tb tc:TE}{pos:Pos}
theorem binT (ha:PE X a ta) (hb:PE X b tb) {pins:List (Addr × Obj)}{s:Shared}{σ:St}{H:Hp}{R:V->V->Hp->Prop} (I:Inv X pins σ H s)
    (h:ta σ H fun x H1=>tb σ H1 fun y H2=>R x y H2) {Q:Value->Shared->Prop}{f:Value->Value->Sem Value}
    (hf:∀ v u s2 x y H2,Inv X pins σ H2 s2->RelV x v->RelV y u->R x y H2->wpAny (model X.prog X.w) X.A (f v u) Q X.xe s2) :
    wpAny (model X.prog X.w) X.A (eval a X.env) (fun v s₁=>wpAny (model X.prog X.w) X.A (eval b X.env) (fun u s₂=>wpAny (model X.prog X.w) X.A (f v u) Q X.xe s₂) X.xe s₁) X.xe s:=by
  refine thn (ha pins s σ H _ I h) fun v s1 ⟨x,H1,I1,r1,q1⟩=>?_;refine thn (hb pins s1 σ H1 _ I1 q1) fun u s2 ⟨y,H2,I2,r2,q2⟩=>?_;exact hf v u s2 x y H2 I2 r1 r2 q2
theorem xt {op:Operator}{r:R2} (ho:OpR X (binaryOp op) r) (ha:PE X a ta) (hb:PE X b tb):PE X (.BinOp a op b pos) (tOp r ta tb):=by
 intro pins s σ H Q I h;exact wpAny_BinOp (binT ha hb I h fun v u s2 x y H2 I2 rx ry q=>ho pins s2 σ H2 x y v u Q I2 rx ry q)
theorem xqy {op:UnaryOp}{r:V->Hp->VK->Prop} (ho:UnR X (unaryOp op) r) (ha:PE X a ta):PE X (.UnaryOp op a pos) (tUn r ta):=by
 intro pins s σ H Q I h;exact UnaryOp_ (thn (ha pins s σ H _ I h) fun v s1 ⟨x,H1,I1,r1,q1⟩=>ho pins s1 σ H1 x v Q I1 r1 q1)
theorem opI {f:Value->Value->Sem Value}{C:Int->Int->Prop}{g:Int->Int->Int}
    (rule:∀(i j:Int) (t u:Tok) (s:Shared) (Q:Value->Shared->Prop) (E:Value->Shared->Prop),C i j->Q (.int (g i j) s.toks) { s with toks:=s.toks+1 }->wpAny (model X.prog X.w) X.A (f (.int i t) (.int j u)) Q E s) :
    OpR X f (rI C fun i j=>.int (g i j)):=by
  intro pins s σ H x y v u Q I rx ry h;obtain⟨i,j,rfl,rfl,hc,q⟩:=h;obtain⟨t,rfl⟩:=rx;obtain⟨t',rfl⟩:=ry;exact rule i j t t' s _ _ hc ⟨.int (g i j),H,I.tok _,⟨_,rfl⟩,q⟩
theorem opI0 {f:Value->Value->Sem Value}{g:Int->Int->Int}
    (rule:∀(i j:Int) (t u:Tok) (s:Shared) (Q:Value->Shared->Prop) (E:Value->Shared->Prop),Q (.int (g i j) s.toks) { s with toks:=s.toks+1 }->wpAny (model X.prog X.w) X.A (f (.int i t) (.int j u)) Q E s) :
    OpR X f (rI0 fun i j=>.int (g i j)):=by
  intro pins s σ H x y v u Q I rx ry h;obtain⟨i,j,rfl,rfl,q⟩:=h;obtain⟨t,rfl⟩:=rx;obtain⟨t',rfl⟩:=ry;exact rule i j t t' s _ _ ⟨.int (g i j),H,I.tok _,⟨_,rfl⟩,q⟩
theorem opB0 {f:Value->Value->Sem Value}{g:Int->Int->Bool}
    (rule:∀(i j:Int) (t u:Tok) (s:Shared) (Q:Value->Shared->Prop) (E:Value->Shared->Prop),Q (.bool (g i j)) s->wpAny (model X.prog X.w) X.A (f (.int i t) (.int j u)) Q E s) :
    OpR X f (rI0 fun i j=>.bl (g i j)):=by
  intro pins s σ H x y v u Q I rx ry h;obtain⟨i,j,rfl,rfl,q⟩:=h;obtain⟨t,rfl⟩:=rx;obtain⟨t',rfl⟩:=ry;exact rule i j t t' s _ _ ⟨.bl (g i j),H,I,rfl,q⟩
def CDiv (i j:Int):Prop:=0<j/\j<1073741824
def CMul (i j:Int):Prop:=(-(2 ^ 64)<i/\i<2 ^ 64)\/(-(2 ^ 64)<j/\j<2 ^ 64)
theorem CMul.ok {i j:Int} (h:CMul i j):IntMulOk i j:=by
 rcases h with⟨h1,h2⟩|⟨h1,h2⟩
 .exact .of_left (intBits_le_64 h1 h2)
 .exact .of_right (intBits_le_64 h1 h2)
theorem xan:OpR X (binaryOp .Add) (rI0 fun i j=>.int (i+j)):=opI0 fun _ _ _ _ _ _ _ q=>add_int q
theorem xer:OpR X (binaryOp .Sub) (rI0 fun i j=>.int (i-j)):=opI0 fun _ _ _ _ _ _ _ q=>sub_int q
theorem xd4:OpR X (binaryOp .Mult) (rI CMul fun i j=>.int (i*j)):=opI fun _ _ _ _ _ _ _ hc q=>mul_int q hc.ok
theorem xd1:OpR X (binaryOp .FloorDiv) (rI CDiv fun i j=>.int (i / j)):=opI fun i j _ _ _ _ _ hc q=>by
 have h1:(0:Int)<j:=hc.1;have h2:j<1073741824:=hc.2;exact floordiv_int (by omega) (by rw[Int.fdiv_eq_ediv_of_nonneg i (by omega)]; exact q) (.inl (QD (by omega)))
theorem xad:OpR X (binaryOp .Mod) (rI (fun _ j=>0<j) fun i j=>.int (i % j)):=opI fun i j _ _ _ _ _ hc q=>by
 have h1:(0:Int)<j:=hc;exact mod_int' (by omega) (by rw[Int.fmod_eq_emod_of_nonneg i (by omega)]; exact q)
theorem unI {f:Value->Sem Value}{g:Int->Int}
    (rule:∀(i:Int) (t:Tok) (s:Shared) (Q:Value->Shared->Prop) (E:Value->Shared->Prop),Q (.int (g i) s.toks) { s with toks:=s.toks+1 }->wpAny (model X.prog X.w) X.A (f (.int i t)) Q E s) :
    UnR X f (rU fun i=>.int (g i)):=by
  intro pins s σ H x v Q I rx h;obtain⟨i,rfl,q⟩:=h;obtain⟨t,rfl⟩:=rx;exact rule i t s _ _ ⟨.int (g i),H,I.tok _,⟨_,rfl⟩,q⟩
theorem xox:UnR X (unaryOp .USub) (rU fun i=>.int (-i)):=unI fun _ _ _ _ _ q=>neg_int q
end
def scal:V->V->Bool
 | .non,.non=>true|.non,.int _=>true|.int _,.non=>true|.non,.bl _=>true|.bl _,.non=>true|.non,.str _=>true|.str _,.non=>true
 | .int _,.int _=>true|.bl _,.bl _=>true|.str _,.str _=>true|.byt _,.byt _=>true
 | .int _,.str _=>true|.str _,.int _=>true|.bl _,.str _=>true|.str _,.bl _=>true
 | _,_=>false
def rEq:R2:=fun x y H Q=>scal x y=true/\Q (.bl (decide (x=y))) H
def rNe:R2:=fun x y H Q=>scal x y=true/\Q (.bl (!decide (x=y))) H
theorem xlw {i j:Int}:decide (V.int i=V.int j)=(i == j):=by
 rw[Je];simp
theorem xof {i j:Bool}:decide (V.bl i=V.bl j)=(i == j):=by
 rw[Je];simp
theorem xlf {i j:Str}:decide (V.str i=V.str j)=(i == j):=by
 rw[Je];simp
theorem xlt {i j:Array UInt8}:decide (V.byt i=V.byt j)=(i.toList == j.toList):=by
 rw[Je];cases i;cases j;simp
section
variable {X:Cx}{a b c:Expr}{ta tb tc:TE}{pos:Pos}
theorem xam {pins:List (Addr × Obj)}{σ:St}{H:Hp}{s:Shared}{Q:VK}{k k':Bool} (I:Inv X pins σ H s) (q:Q (.bl k) H) (e:k=k'):EP X pins σ Q (.bool k') s:=by
 subst e;exact⟨.bl k,H,I,rfl,q⟩
theorem xa7:OpR X (compareOp .Eq) rEq:=by
 intro pins s σ H x y v u Q I rx ry h;obtain⟨hs,q⟩:=h;cases x with
 | non =>
  cases rx;cases y with
  | non=>cases ry; exact PySem.EqNone.eq_none_none (xam I q (by simp))
  | bl j=>cases ry; exact PySem.EqNone.eq_none_bool (xam I q (by simp))
  | int j=>obtain⟨t',rfl⟩:=ry; exact PySem.EqNone.eq_none_int (xam I q (by simp))
  | str j=>obtain⟨t',rfl⟩:=ry; exact PySem.EqNone.eq_none_str (xam I q (by simp))
  | _=>exact absurd (show false=true from hs) ZA
 | bl i =>
  cases rx;cases y with
  | non=>cases ry; exact PySem.EqNone.eq_bool_none (xam I q (by simp))
  | bl j=>cases ry; exact eq_bool (xam I q xof)
  | str j=>obtain⟨t',rfl⟩:=ry; exact PySem.EqMixed.eq_bool_str (xam I q (by simp))
  | _=>exact absurd (show false=true from hs) ZA
 | int i =>
  obtain⟨t,rfl⟩:=rx;cases y with
  | non=>cases ry; exact PySem.EqNone.eq_int_none (xam I q (by simp))
  | int j=>obtain⟨t',rfl⟩:=ry; exact eq_int (xam I q xlw)
  | str j=>obtain⟨t',rfl⟩:=ry; exact PySem.EqMixed.eq_int_str (xam I q (by simp))
  | _=>exact absurd (show false=true from hs) ZA
 | str i =>
  obtain⟨t,rfl⟩:=rx;cases y with
  | non=>cases ry; exact PySem.EqNone.eq_str_none (xam I q (by simp))
  | bl j=>cases ry; exact PySem.EqMixed.eq_str_bool (xam I q (by simp))
  | int j=>obtain⟨t',rfl⟩:=ry; exact PySem.EqMixed.eq_str_int (xam I q (by simp))
  | str j=>obtain⟨t',rfl⟩:=ry; exact eq_str (xam I q xlf)
  | _=>exact absurd (show false=true from hs) ZA
 | byt i =>
  obtain⟨t,rfl⟩:=rx;cases y with
  | byt j=>obtain⟨t',rfl⟩:=ry; exact PySem.W.eq_bytes (xam I q xlt)
  | _=>exact absurd (show false=true from hs) ZA
 | _=>cases y<;>exact absurd (show false=true from hs) ZA
theorem xjl:OpR X (compareOp .NotEq) rNe:=by
 intro pins s σ H x y v u Q I rx ry h;obtain⟨hs,q⟩:=h;cases x with
 | non =>
  cases rx;cases y with
  | non=>cases ry; exact PySem.EqNone.ne_none_none (xam I q (by simp))
  | bl j=>cases ry; exact PySem.EqNone.ne_none_bool (xam I q (by simp))
  | int j=>obtain⟨t',rfl⟩:=ry; exact PySem.EqNone.ne_none_int (xam I q (by simp))
  | str j=>obtain⟨t',rfl⟩:=ry; exact PySem.EqNone.ne_none_str (xam I q (by simp))
  | _=>exact absurd (show false=true from hs) ZA
 | bl i =>
  cases rx;cases y with
  | non=>cases ry; exact PySem.EqNone.ne_bool_none (xam I q (by simp))
  | bl j=>cases ry; exact ne_bool (xam I q (congrArg not xof))
  | str j=>obtain⟨t',rfl⟩:=ry; exact PySem.EqMixed.ne_bool_str (xam I q (by simp))
  | _=>exact absurd (show false=true from hs) ZA
 | int i =>
  obtain⟨t,rfl⟩:=rx;cases y with
  | non=>cases ry; exact PySem.EqNone.ne_int_none (xam I q (by simp))
  | int j=>obtain⟨t',rfl⟩:=ry; exact ne_int (xam I q (congrArg not xlw))
  | str j=>obtain⟨t',rfl⟩:=ry; exact PySem.EqMixed.ne_int_str (xam I q (by simp))
  | _=>exact absurd (show false=true from hs) ZA
 | str i =>
  obtain⟨t,rfl⟩:=rx;cases y with
  | non=>cases ry; exact PySem.EqNone.ne_str_none (xam I q (by simp))
  | bl j=>cases ry; exact PySem.EqMixed.ne_str_bool (xam I q (by simp))
  | int j=>obtain⟨t',rfl⟩:=ry; exact PySem.EqMixed.ne_str_int (xam I q (by simp))
  | str j=>obtain⟨t',rfl⟩:=ry; exact ne_str (xam I q (congrArg not xlf))
  | _=>exact absurd (show false=true from hs) ZA
 | byt i =>
  obtain⟨t,rfl⟩:=rx;cases y with
  | byt j=>obtain⟨t',rfl⟩:=ry; exact PySem.W.ne_bytes (xam I q (congrArg not xlt))
  | _=>exact absurd (show false=true from hs) ZA
 | _=>cases y<;>exact absurd (show false=true from hs) ZA
theorem xf6:OpR X (compareOp .Lt) (rI0 fun i j=>.bl (decide (i<j))):=opB0 fun _ _ _ _ _ _ _ q=>lt_int q
theorem xec:OpR X (compareOp .LtE) (rI0 fun i j=>.bl (decide (i<=j))):=opB0 fun _ _ _ _ _ _ _ q=>le_int q
theorem xq3:OpR X (compareOp .Gt) (rI0 fun i j=>.bl (decide (j<i))):=opB0 fun _ _ _ _ _ _ _ q=>gt_int q
theorem xuo:OpR X (compareOp .GtE) (rI0 fun i j=>.bl (decide (j<=i))):=opB0 fun _ _ _ _ _ _ _ q=>ge_int q
theorem xkb:OpR X (compareOp .Is) (fun x y H Q=>y=.non/\Q (.bl (decide (x=.non))) H):=by
 intro pins s σ H x y v u Q I rx ry h;obtain⟨rfl,q⟩:=h;cases ry;refine is_none_gen (xam I q ?_);cases x<;>first
  | (cases rx; rfl)
  | (obtain⟨t,rfl⟩:=rx; rfl)
def isObj:HO->Bool
 | .lst _=>true
 | .ins _ _ _=>true
 | _=>false
theorem x6 (b:Expr) {op:CmpOp} (h:op≠.In:=by decide) (h2:op≠.NotIn:=by decide):behindInMarks op b=false:=by
 have e1:(op == CmpOp.In)=false:=by cases op<;>first|rfl|exact absurd rfl h
 have e2:(op == CmpOp.NotIn)=false:=by cases op<;>first|rfl|exact absurd rfl h2
 cases b<;>simp[behindInMarks,e1,e2]
theorem xb8 {op:CmpOp}{r:R2} (ho:OpR X (compareOp op) r) (ha:PE X a ta) (hb:PE X b tb) (hm:behindInMarks op b=false):PE X (.Compare a [op] [b] pos) (tOp r ta tb):=by
 intro pins s σ H Q I h;exact wpAny_Compare1 (binT ha hb I h fun v u s2 x y H2 I2 rx ry q=>ho pins s2 σ H2 x y v u Q I2 rx ry q) hm
def xrb (t:TE):TT:=fun σ H Q=>t σ H fun x H'=>∃ k,x=.bl k/\Q k H'
theorem x5 {op:CmpOp}{r:R2} (ho:OpR X (compareOp op) r) (ha:PE X a ta) (hb:PE X b tb) (hm:behindInMarks op b=false):PT X (.Compare a [op] [b] pos) (xrb (tOp r ta tb)):=by
 intro pins s σ H Q I h;refine wpAny_isTrue_Compare1 (thn (ha pins s σ H _ I h) fun v s1 ⟨x,H1,I1,r1,q1⟩=>thn (hb pins s1 σ H1 _ I1 q1) fun u s2 ⟨y,H2,I2,r2,q2⟩ =>
  thn (ho pins s2 σ H2 x y v u _ I2 r1 r2 q2) fun c s3 ⟨z,H3,I3,r3,k,e,q3⟩=>?_) hm
 subst e;cases r3;exact J0 ⟨H3,I3,q3⟩
def xnq (r r':R2) (ta tb tc:TE):TE:=fun σ H Q=>ta σ H fun x H1=>tb σ H1 fun y H2=>r x y H2 fun z H3=>∃ k,z=.bl k /\
 (if k=true then tc σ H3 fun w' H4=>r' y w' H4 Q else Q (.bl false) H3)
theorem xd2 {op op':CmpOp}{r r':R2} (ho:OpR X (compareOp op) r) (ho':OpR X (compareOp op') r') (ha:PE X a ta) (hb:PE X b tb) (hc:PE X c tc)
    (hm:lastMarks [op,op'] [b,c]=false:=by with_unfolding_all rfl):PE X (.Compare a [op,op'] [b,c] pos) (xnq r r' ta tb tc):=by
  intro pins s σ H Q I h;refine Compare_chain (thn (ha pins s σ H _ I h) fun v s1 ⟨x,H1,I1,r1,q1⟩=>chain_link (thn (hb pins s1 σ H1 _ I1 q1) fun u s2 ⟨y,H2,I2,r2,q2⟩ =>
    thn (ho pins s2 σ H2 x y v u _ I2 r1 r2 q2) fun d s3 ⟨z,H3,I3,r3,k,e,q3⟩=>?_)) hm
  subst e;cases r3;refine J0 ?_;cases k with
  | false=>exact ite_ff ⟨.bl false,H3,I3,rfl,q3⟩
  | true=>exact ite_tt (chain_last (thn (hc pins s3 σ H3 _ I3 q3) fun w' s4 ⟨z',H4,I4,r4,q4⟩=>ho' pins s4 σ H4 y z' u w' Q I4 r2 r4 q4))
theorem xkv {op op':CmpOp}{r r':R2} (ho:OpR X (compareOp op) r) (ho':OpR X (compareOp op') r') (ha:PE X a ta) (hb:PE X b tb) (hc:PE X c tc)
    (hm:lastMarks [op,op'] [b,c]=false:=by with_unfolding_all rfl):PT X (.Compare a [op,op'] [b,c] pos) (xrb (xnq r r' ta tb tc)):=by
  intro pins s σ H Q I h;refine isTrue_chain (thn (ha pins s σ H _ I h) fun v s1 ⟨x,H1,I1,r1,q1⟩=>test_link (thn (hb pins s1 σ H1 _ I1 q1) fun u s2 ⟨y,H2,I2,r2,q2⟩ =>
    thn (ho pins s2 σ H2 x y v u _ I2 r1 r2 q2) fun d s3 ⟨z,H3,I3,r3,k,e,q3⟩=>?_)) hm
  subst e;cases r3;refine J0 ?_;cases k with
  | false =>
    obtain⟨k',e',q'⟩:=q3;cases e';exact ite_ff ⟨H3,I3,q'⟩
  | true =>
    refine ite_tt (test_last (thn (hc pins s3 σ H3 _ I3 q3) fun w' s4 ⟨z',H4,I4,r4,q4⟩=>thn (ho' pins s4 σ H4 y z' u w' _ I4 r2 r4 q4) fun d' s5 ⟨z2,H5,I5,r5,k2,e2,q5⟩=>?_));subst e2;cases r5;exact J0 ⟨H5,I5,q5⟩
theorem xfu:(sizeLine:Nat)<2 ^ 63:=by rw[Qp]; decide
theorem xh0:OpR X (binaryOp .Add) (fun x y H Q=>∃ i j,x=.str i/\y=.str j/\i.length+j.length<=sizeLine/\Q (.str (i++j)) H):=by
 intro pins s σ H x y v u Q I rx ry h;obtain⟨i,j,rfl,rfl,hz,q⟩:=h;obtain⟨t,rfl⟩:=rx;obtain⟨t',rfl⟩:=ry;exact add_str (fun t' tk=>⟨.str (i++j),H,I.tok _,⟨_,rfl⟩,q⟩) hz
theorem xbx {x:V}{us:List Value} (r:Vals [x] us):∃ u,us=[u]/\RelV x u:=by
 cases r with
 | cons r1 r2=>cases r2; exact⟨_,rfl,r1⟩
theorem xjq {x y:V}{us:List Value} (r:Vals [x,y] us):∃ u w',us=[u,w']/\RelV x u/\RelV y w':=by
 cases r with
 | cons r1 r2 =>
  cases r2 with
  | cons r3 r4=>cases r4; exact⟨_,_,rfl,r1,r3⟩
theorem xpn:xb1 X (.builtin "abs") (fun xs H Q=>∃ i,xs=[.int i]/\Q (.int (if i<0 then -i else i)) H):=by
 intro pins s σ H xs us Q I r h;obtain⟨i,rfl,q⟩:=h;obtain⟨u,rfl,t,rfl⟩:=xbx r;exact call_abs_int fun u tk=>⟨.int (if i<0 then -i else i),H,I.tok _,⟨_,rfl⟩,q⟩
theorem xnt (hc:X.calm=true):xb1 X (.builtin "min") (fun xs H Q=>∃ i j,xs=[.int i,.int j]/\Q (.int (if j<i then j else i)) H):=by
 intro pins s σ H xs us Q I r h;obtain⟨i,j,rfl,q⟩:=h;obtain⟨u,w',rfl,⟨t,rfl⟩,⟨t',rfl⟩⟩:=xjq r;refine min_two_ints (I.ok.hd hc) fun h' tk k=>⟨_,H,I.kept k,?_,q⟩
 by_cases hj:j<i
 .rw [if_pos hj,if_pos hj]; exact⟨_,rfl⟩
 .rw [if_neg hj,if_neg hj]; exact⟨_,rfl⟩
theorem xn6:xb1 X (.type "int") (fun xs H Q=>(∃ i,xs=[.int i]/\Q (.int i) H)\/∃ k,xs=[.bl k]/\Q (.int (if k then 1 else 0)) H):=by
 intro pins s σ H xs us Q I r h;rcases h with⟨i,rfl,q⟩|⟨k,rfl,q⟩
 .obtain ⟨u,rfl,t,rfl⟩:=xbx r;exact call_int_int ⟨.int i,H,I,⟨_,rfl⟩,q⟩
 .obtain ⟨u,rfl,r1⟩:=xbx r;cases r1;exact call_int_bool ⟨.int (if k then 1 else 0),H,I.tok _,⟨_,rfl⟩,q⟩
end
structure ObjM (h:Heap) (x dx C:Addr) (mA:Str->Option Value):Prop where
 obj:h.get? x=some (JR C dx)
 ns:h.Ns1 dx mA
 ne:dx≠x
theorem xi1 {h:Heap}{dx:Addr}{mA:Str->Option Value} (n:h.Ns1 dx mA):∃ od,h.get? dx=some od/\∀ name,Wa name od=some (mA name):=by
 obtain⟨o,es,ep,ho,hd,hk,_,hm⟩:=n;refine⟨o,ho,fun name=>?_⟩;have e:=hm name;unfold nsFind findBy at e;rw[<- Array.find?_toList] at e;unfold Wa;rw[hd]
 dsimp only
 split
 .rename_i y q
  rw[q] at e;exact congrArg some e
 .rename_i q
  rw[q] at e;have a:es.toList.any (·.refKey)=false:=by
   rw[List.any_eq_false];intro y hy;obtain⟨z,t,hkey⟩:=hk y (Wi.mp hy);simp[DictEntry.refKey,hkey]
  have a':¬ es.toList.any (·.refKey)=true:=by rw[a]; exact ZA
  rw[if_neg a'];exact congrArg some e
theorem ObjM.look {h:Heap}{x dx C:Addr}{mA:Str->Option Value} (I:ObjM h x dx C mA):∃ od,PySem.W.InstAt h x (JR C dx) C (some od)/\∀ name,Wa name od=some (mA name) :=
 let ⟨od,ho,hl⟩:=xi1 I.ns
 ⟨od,⟨I.obj,rfl,rfl,ho⟩,hl⟩
section
variable {prog:Program}{w:World}{A:Around}{E:Value->Shared->Prop}{s:Shared}{K:Zd}{x dx C f:Addr}{mA:Str->Option Value}{name:Str}{v:Value}
theorem xrj {expr:Bool}{Q:Value->Shared->Prop} (X:K.In s.heap) (I:ObjM s.heap x dx C mA) (hg:JL K C name=true) (hh:JF K C=true)
    (ha:ZB K (.ref C) name=some none) (hv:mA name=some v) (hv':PySem.W.handedIn v=true) (h:Q v { s with toks:=s.toks+1 }) :
    wpAny (model prog w) A (getAttr (.ref x) name expr) Q E s:=by
  obtain⟨od,J,hl⟩:=I.look;exact PySem.W.get_value X J (Wk hg).1 (PySem.W.findObj_own hh ha rfl (by rw[hl,hv])) hv' h
theorem xqq {pl:Sem Bool}{Q:Value × List Value->Shared->Prop} (X:K.In s.heap) (I:ObjM s.heap x dx C mA) (hg:JL K C name=true)
    (hf:ZB K (.ref C) name=some (some (.ref f))) (ht:ZK K (.ref f)=true) (hv:mA name=none) (h:Q (.ref f,[.ref x]) s) :
    wpAny (model prog w) A (getMethod (.ref x) name pl) Q E s:=by
  obtain⟨od,J,hl⟩:=I.look;exact PySem.W.method_fn X J (Wk hg).1 (Wk hg).2 hf (beq_iff_eq.mp ht) (by show (Wa name od).map (·.isSome)=some false; rw[hl,hv]; rfl) h
theorem xre {ns:List Str}{Q:Unit->Shared->Prop} (X:K.In s.heap) (I:ObjM s.heap x dx C mA)
    (hs:ZB K (.ref C) "__setattr__"=some (some (.builtin "object.__setattr__"))) (hp:Yl K C=true) (ht:PySem.W.takerIn K C name=some none) (hh:JF K C=true)
    (hw:YF mA ns) (hsz:ns.length<=sizeLine)
    (h:∀ h',ObjM h' x dx C (fun y=>if y=name then some v else mA y)->ZI dx s.heap h'->Q () { s with heap:=h',toks:=s.toks+2 }) :
    wpAny (model prog w) A (setAttr (.ref x) name v) Q E s:=by
  obtain⟨od,J,hl⟩:=I.look;refine PySem.W.set_plain X J hs (PySem.W.osa_open (s:={ s with toks:=s.toks+1 }) (r:=none) X J hp ht fun b=>?_);obtain⟨cd,hc,hd'⟩:=PySem.W.any_some hh;have hx:s.heap.get? x=some ⟨.ref C,some dx,.plain,#[]⟩:=I.obj;refine Zb (Zk (Zb (Zb (Qd hx (Zb (PySem.W.Looks.here (s:={ s with toks:=s.toks+1 }) (PySem.W.looks_clsIn X hc) ?_))))));rw[hd'];refine Zk (a:=some dx) (Zb (Zk (Zb ?_)));refine wpAny_nsSet1 (s:={ s with toks:=s.toks+1 }) I.ns fun h' hn2 hs2=>?_;obtain⟨oD,esD,epD,hoD,hdD,hcD⟩:=hn2.count (YF.cons name v hw);refine Zb (wpAny_lookBehind hoD (by rw[hdD]; exact pastItsLine_dict (Zs hcD (by rw[ZL]; omega))) ?_);exact Zk (h _ ⟨(hs2.2 _ (ZF I.ne)).trans I.obj,hn2,I.ne⟩ hs2)
theorem xpz {R:Result->Shared->Prop}{vs:List Value}{kw:List (Str × Value)} (X:K.In s.heap) (hm:Y4 K C=true)
    (hi:ZB K (.ref C) "__init__"=some (some (.ref f))) (hf:PySem.W.typeIn K (.ref f)=some (.type "function"))
    (h:codeAny (model prog w) (A.under (.builtin "type.__call__" ⟨.ref C::vs,kw⟩)) (.call (.ref f) ⟨.ref (s.heap.objs.size+1)::vs,kw⟩) (PySem.W.InitBack (s.heap.objs.size+1) R)
      { s with heap:=(s.heap.push J5).push (JR C s.heap.objs.size) }) :
    codeAny (model prog w) A (.call (.ref C) ⟨vs,kw⟩) R s:=by
  obtain⟨hh,g,d,t,os⟩:=s;exact PySem.W.make_core (PySem.W.makes_of X hm) (PySem.W.looks_findIn X hi) (fun self=>PySem.W.bind_fn X self hf) (.inl rfl) h
end
def putF (f:Str) (v:V):List (Str × V)->List (Str × V)
 | []=>[(f,v)]
 | (g,x)::r=>if g=f then (g,v)::r else (g,x)::putF f v r
theorem xen (f g:Str) (v:V):∀ fs:List (Str × V),(putF f v fs).lookup g=if g=f then some v else fs.lookup g
 | []=>by
  show Jc g [(f,v)]=_;by_cases h:g=f
  .have hb:(g == f)=true:=beq_iff_eq.mpr h;simp only[Jc,hb,if_pos h]
  .have hb:(g == f)=false:=beq_eq_false_iff_ne.mpr h;simp only[Jc,hb,if_neg h]
 | (k,x)::r=>by
  have ih:=xen f g v r;rw[show putF f v ((k,x)::r)=(if k=f then (k,v)::r else (k,x)::putF f v r) from rfl];by_cases hk:k=f
  .rw [if_pos hk];by_cases h:g=k
   .have hb:(g == k)=true:=beq_iff_eq.mpr h;simp only[Jc,hb,if_pos (h.trans hk)]
   .have hb:(g == k)=false:=beq_eq_false_iff_ne.mpr h;simp only[Jc,hb,if_neg (fun e:g=f=>h (e.trans hk.symm))]
  .rw [if_neg hk];by_cases h:g=k
   .have hb:(g == k)=true:=beq_iff_eq.mpr h;simp only[Jc,hb,if_neg (fun e:g=f=>hk (h.symm.trans e))]
   .have hb:(g == k)=false:=beq_eq_false_iff_ne.mpr h;simp only[Jc,hb];exact ih
theorem xdt (f:Str) (v:V):∀ fs:List (Str × V),f∈(putF f v fs).map (·.1)/\∀ g,g∈fs.map (·.1)->g∈(putF f v fs).map (·.1)
 | []=>⟨by simp[putF],fun g h=>by simp at h⟩
 | (k,x)::r=>by
  obtain⟨i1,i2⟩:=xdt f v r;rw[show putF f v ((k,x)::r)=(if k=f then (k,v)::r else (k,x)::putF f v r) from rfl];by_cases hk:k=f
  .rw [if_pos hk];subst hk;exact⟨by simp,fun g h=>by simpa using h⟩
  .rw [if_neg hk];refine⟨?_,fun g h=>?_⟩
   .rw [Z2];exact Zy _ i1
   .rw [Z2] at h ⊢;rcases Z1.mp h with e|e
    .exact Z1.mpr (.inl e)
    .exact Zy _ (i2 g e)
theorem xep (f:Str) (v:V):∀ fs:List (Str × V),(putF f v fs).length<=fs.length+1
 | []=>by simp[putF]
 | (k,x)::r=>by
  have ih:=xep f v r;rw[show putF f v ((k,x)::r)=(if k=f then (k,v)::r else (k,x)::putF f v r) from rfl];by_cases hk:k=f
  .rw [if_pos hk,ZL,ZL]; omega
  .rw [if_neg hk,ZL,ZL]; omega
theorem RelO.some_of {v:V}{o:Option Value} (r:RelO (some v) o):∃ u,o=some u/\RelV v u:=by
 cases o with
 | none=>exact (show False from r).elim
 | some u=>exact⟨u,rfl,r⟩
theorem RelO.none_of {o:Option Value} (r:RelO none o):o=none:=by
 cases o with
 | none=>rfl
 | some u=>exact (show False from r).elim
theorem xiq {v:V}{u:Value} (r:RelV v u):PySem.W.handedIn u=true:=by
 cases v with
 | non=>cases (show u=ZV from r); rfl
 | bl b=>cases (show u=Yc b from r); rfl
 | int i=>obtain⟨t,e⟩:=(show ∃ t,u=Wj i t from r); cases e; rfl
 | str x=>obtain⟨t,e⟩:=(show ∃ t,u=Qz x t from r); cases e; rfl
 | byt b=>obtain⟨t,e⟩:=(show ∃ t,u=Value.bytes b t from r); cases e; rfl
 | flt b=>obtain⟨t,e⟩:=(show ∃ t,u=Value.float b t from r); cases e; rfl
 | ref a=>cases (show u=Zm a from r); rfl
 | ty n=>cases (show u=Q8 n from r); rfl
section
variable {P:Program}{w:World}{H H':Hp}{h h':Heap}{a C dx:Addr}{fs fs':List (Str × V)}
theorem xf3 (hok:HOk P w H h) (e:H a=some (.ins C dx fs)):∃ mA,ObjM h a dx C mA/\(∀ f,RelO (fs.lookup f) (mA f))/\YF mA (fs.map (·.1))/\fs.length<=1000/\H dx=some (.own a):=by
 obtain⟨d,z,ne,ob,mA,n,r,q⟩:=(show xao P w H h a (.ins C dx fs) from hok a _ e)
 exact⟨mA,⟨ob,n,ne⟩,r,q,z,d⟩
end
structure Cls (K:Zd) (C:Addr):Prop where
 pg:JL K C Str.empty=true
 hd:JF K C=true
 po:Yl K C=true
 sa:ZB K (.ref C) "__setattr__"=some (some (.builtin "object.__setattr__"))
theorem Cls.get {K:Zd}{C:Addr} (c:Cls K C) (f:Str):JL K C f=true:=c.pg
def xea (K:Zd) (C:Addr) (f:Str):Prop:=ZB K (.ref C) f=some none
theorem xea.taker {K:Zd}{C:Addr}{f:Str} (n:xea K C f):PySem.W.takerIn K C f=some none:=by
 unfold PySem.W.takerIn;rw[show ZB K (.ref C) f=some none from n];rfl
structure Meth (K:Zd) (C:Addr) (m:Str) (f:Addr):Prop where
 at_:ZB K (.ref C) m=some (some (.ref f))
 fn:ZK K (.ref f)=true
 kp:Jm K (.ref f)=true
section
variable {X:Cx}{pins:List (Addr × Obj)}{σ:St}{H:Hp}{s:Shared}{a C dx:Addr}{fs:List (Str × V)}{f:Str}{v:V}{A:Around}{E:Value->Shared->Prop}
theorem xmh {b:Bool}{Q:Value->Shared->Prop} (I:Inv X pins σ H s) (e:H a=some (.ins C dx fs)) (c:Cls X.K C) (n:xea X.K C f) (l:fs.lookup f=some v)
    (h:∀ u s',Inv X pins σ H s'->RelV v u->Q u s'):wpAny (model X.prog X.w) A (getAttr (.ref a) f b) Q E s:=by
  obtain⟨mA,O,r,_,_,_⟩:=xf3 I.hok e;obtain⟨u,hu,ru⟩:=RelO.some_of (v:=v) (o:=mA f) (by rw[<- l]; exact r f);exact xrj I.kIn O (c.get f) c.hd n hu (xiq ru) (h u _ (I.tok _) ru)
theorem xho {m:Str}{g:Addr}{pl:Sem Bool}{Q:Value × List Value->Shared->Prop} (I:Inv X pins σ H s) (e:H a=some (.ins C dx fs)) (c:Cls X.K C) (k:Meth X.K C m g) (l:fs.lookup m=none)
    (h:Q (.ref g,[.ref a]) s):wpAny (model X.prog X.w) A (getMethod (.ref a) m pl) Q E s:=by
  obtain⟨mA,O,r,_,_,_⟩:=xf3 I.hok e;have hn:mA m=none:=RelO.none_of (by rw[<- l]; exact r m);exact xqq I.kIn O (c.get m) k.at_ k.fn hn h
theorem xmy {y:V}{u:Value}{Q:Unit->Shared->Prop} (I:Inv X pins σ H s) (e:H a=some (.ins C dx fs)) (c:Cls X.K C) (n:xea X.K C f) (hl:fs.length<1000) (ry:RelV y u)
    (h:∀ s',Inv X pins σ (upd H a (.ins C dx (putF f y fs))) s'->Q () s'):wpAny (model X.prog X.w) A (setAttr (.ref a) f u) Q E s:=by
  obtain⟨mA,O,r,wi,_,ho⟩:=xf3 I.hok e;have hz:(fs.map (·.1)).length<=sizeLine:=by rw[Za,Qp]; omega
  refine xre I.kIn O c.sa c.po n.taker c.hd wi hz fun h' O' sb=>h _ ?_;have hd:∃ o,h'.get? dx=some o:=let ⟨o,_,_,e',_⟩:=O'.ns; ⟨o,e'⟩;refine I.write (x:=a) (e:=dx) (by rw[e]; exact Jv) (.inr ho) (fun b q hb z=>(sb.2 b hb).trans z) hd ?_;refine⟨by rw[xh O.ne]; exact ho,?_,O.ne,O'.obj,_,O'.ns,fun g=>?_,fun g hg=>?_⟩
  . have:=xep f y fs; omega
  . show RelO ((putF f y fs).lookup g) (if g=f then some u else mA g)
    rw[xen];by_cases q:g=f
    . rw[if_pos q,if_pos q]; exact ry
    . rw[if_neg q,if_neg q]; exact r g
  . by_cases q:g=f
    . rw[q]; exact (xdt f y fs).1
    . refine (xdt f y fs).2 g (wi g fun z=>hg ?_)
      show (if g=f then some u else mA g)=none;rw[if_neg q]; exact z
theorem Inv.made (I:Inv X pins σ H s):Inv X pins σ (upd (upd H s.heap.objs.size (.own (s.heap.objs.size+1))) (s.heap.objs.size+1) (.ins C s.heap.objs.size []))
    { s with heap:=(s.heap.push J5).push (JR C s.heap.objs.size) }:=by
  have e1:(s.heap.push J5).get? s.heap.objs.size=some J5:=Zx s.heap rfl;have e2:((s.heap.push J5).push (JR C s.heap.objs.size)).get? (s.heap.objs.size+1)=some (JR C s.heap.objs.size):=by
    have:=Zx (s.heap.push J5) (o:=JR C s.heap.objs.size) rfl
    rwa [We] at this
  have e3:(s.heap.push J5).Ns s.heap.objs.size (fun _=>none):=⟨J5,#[],_,e1,rfl,(fun e he=>absurd he (by simp)),fun _=>rfl⟩
  have I1:=I.laid (a:=s.heap.objs.size) (o:=.own (s.heap.objs.size+1)) (h':=s.heap.push J5) (t':=s.toks) (fun b u q=>Zg _ q) (Zi _) ⟨_,e1⟩;refine I1.laid (a:=s.heap.objs.size+1) (o:=.ins C s.heap.objs.size []) (t':=s.toks) (fun b u q=>Zg _ q) (Nat.le_of_eq (We _ _)) ?_;have ne:s.heap.objs.size≠s.heap.objs.size+1:=ZD (Nat.lt_succ_self _);refine⟨by rw[xh ne,xf],Jb _,ne,e2,fun _=>none,(Heap.Ns1.of_empty e3).at fun o q=>Zg _ q,fun _=>Jv,fun y hy=>absurd rfl hy⟩
theorem xl0 {prog:Program}{w:World}{env:Env}{e:Expr}{f:Str}{pos:Pos}{s:Shared}{Q:Value->Shared->Prop} (hb:attributeBase e f env (eval e env)=eval e env)
    (h:wpAny (model prog w) A (eval e env) (fun o s₁=>wpAny (model prog w) A (getAttr o f true) Q E s₁) E s):wpAny (model prog w) A (eval (.Attribute e f pos) env) Q E s :=
  Attribute_any_ h (by rw[arm_eval_Attribute,hb])
end
def tFld (K:Zd) (ta:TE) (f:Str):TE:=fun σ H Q=>ta σ H fun x H1=>∃ a C dx fs v,x=.ref a/\H1 a=some (.ins C dx fs)/\Cls K C/\xea K C f/\fs.lookup f=some v/\Q v H1
def sFld (K:Zd) (ta tv:TE) (f:Str):TS:=fun D σ H=>tv σ H fun y H1=>ta σ H1 fun x H2=>∃ a C dx fs,x=.ref a/\H2 a=some (.ins C dx fs)/\Cls K C/\xea K C f/\fs.length<1000 /\
 D.nx σ (upd H2 a (.ins C dx (putF f y fs)))
section
variable {X:Cx}{o e value:Expr}{f:Str}{pos pos' tpos:Pos}{ta tv:TE}
theorem xaa (he:PE X e ta) (hb:attributeBase e f X.env (eval e X.env)=eval e X.env):PE X (.Attribute e f pos) (tFld X.K ta f):=by
 intro pins s σ H Q I h;refine xl0 hb (thn (he pins s σ H _ I h) fun u s1 ⟨x,H1,I1,rx,a,C,dx,fs,v,ex,ea,c,n,l,q⟩=>?_);subst ex;obtain rfl:u=Zm a:=rx;exact xmh I1 ea c n l fun u' s2 I2 ru=>⟨v,H1,I2,ru,q⟩
theorem xdu (ha:PE X o ta) (hv:PE X value tv) (hs:swapsWith value (some (.Attribute o f pos')) pos.line X.env=pure false):PS X (.Assign [.Attribute o f pos'] value pos) (sFld X.K ta tv f):=by
 intro pins s σ H D I h;refine plainObj_wpAny_Assign_Attribute (thn (hv pins s σ H _ I h) fun u s1 ⟨y,H1,I1,ry,q⟩=>thn (ha pins s1 σ H1 _ I1 q) fun ov s2 ⟨x,H2,I2,rx,a,C,dx,fs,ex,ea,c,n,l,q2⟩=>?_) hs;subst ex;obtain rfl:ov=Zm a:=rx;exact xmy I2 ea c n l ry fun s3 I3=>⟨σ,_,I3,q2⟩
end
section
variable {X:Cx}{pins:List (Addr × Obj)}{σ:St}{H:Hp}{s:Shared}{A:Around}{E:Value->Shared->Prop}{Q:Value->Shared->Prop}{c:Value}{b:Bool}
inductive TyOf (K:Zd) (H:Hp):V->Value->Prop where
  | non:TyOf K H .non (.type "NoneType")
  | bl (x:Bool):TyOf K H (.bl x) (.type "bool")
  | int (i:Int):TyOf K H (.int i) (.type "int")
  | str (x:Str):TyOf K H (.str x) (.type "str")
  | flt (x:UInt64):TyOf K H (.flt x) (.type "float")
  | lst {a:Addr}{xs:List V} (e:H a=some (.lst xs)):TyOf K H (.ref a) (.type "list")
  | frz {a:Addr}{o:Obj}{xs:List V} (e:H a=some (.frz o (.lst xs))):TyOf K H (.ref a) (.type "list")
  | tup {a:Addr}{xs:List V} (e:H a=some (.tup xs)):TyOf K H (.ref a) (.type "tuple")
  | dK {a:Addr}{kvs:List (Key × V)} (e:H a=some (.dK kvs)):TyOf K H (.ref a) (.type "dict")
  | dT {a:Addr}{kvs:List (List Key × V)} (e:H a=some (.dT kvs)):TyOf K H (.ref a) (.type "dict")
  | ins {a C dx:Addr}{fs:List (Str × V)} (e:H a=some (.ins C dx fs)) (cl:Cls K C) (ha:ZB K (.ref C) "__class__"=some (some (.builtin "object.__class__")))
      (hn:PySem.W.specialIn K (.builtin "object.__class__") "__get__"=some (some (.builtin "getset_descriptor.__get__"))) (htk:PySem.W.takesIn K (.builtin "object.__class__")=some true)
      (hm:Wm K C (.type "object")=some true):TyOf K H (.ref a) (.ref C)
theorem xoi {x:V}{u t:Value} (I:Inv X pins σ H s) (rx:RelV x u) (ty:TyOf X.K H x t) (e:Wb X.K t c=some b) (h:∀ tk,Q (.bool b) { s with toks:=tk }) :
    wpAny (model X.prog X.w) A (call (.builtin "isinstance") [u,c]) Q E s:=by
  cases ty with
  | non=>cases (show u=ZV from rx); exact Jt PySem.W.kitx_none I.kIn Jv e (fun z=>nomatch z) h
  | bl y=>cases (show u=Yc y from rx); exact Jt PySem.W.kitx_bool I.kIn Jv e (fun z=>nomatch z) h
  | int i=>obtain⟨t,q⟩:=(show ∃ t,u=Wj i t from rx); cases q; exact Jt PySem.W.kitx_int I.kIn Jv e (fun z=>nomatch z) h
  | str y=>obtain⟨t,q⟩:=(show ∃ t,u=Qz y t from rx); cases q; exact Jt PySem.W.kitx_str I.kIn Jv e (fun z=>nomatch z) h
  | flt y=>obtain⟨t,q⟩:=(show ∃ t,u=Value.float y t from rx); cases q; exact Jt PySem.W.kitx_float I.kIn Jv e (fun z=>nomatch z) h
  | @lst a xs ea =>
    cases (show u=Zm a from rx);obtain⟨_,_,n,_,h1⟩:=(show xao X.prog X.w H s.heap a (.lst xs) from I.hok a _ ea)
    exact Jt PySem.W.kitx_list I.kIn ⟨_,h1,rfl⟩ e (fun z=>nomatch z) h
  | @frz a ob xs ea =>
    cases (show u=Zm a from rx);obtain⟨_,_,_,n,_,h1⟩:=(show xao X.prog X.w H s.heap a (.frz ob (.lst xs)) from I.hok a _ ea)
    exact Jt PySem.W.kitx_list I.kIn ⟨_,h1,rfl⟩ e (fun z=>nomatch z) h
  | @tup a xs ea =>
    cases (show u=Zm a from rx);obtain⟨_,_,_,p⟩:=(show xao X.prog X.w H s.heap a (.tup xs) from I.hok a _ ea)
    obtain⟨o,h1,h2,_⟩:=p;exact Jt PySem.W.kitx_tuple I.kIn ⟨o,h1,h2⟩ e (fun z=>nomatch z) h
  | @dK a kvs ea =>
    cases (show u=Zm a from rx);obtain⟨_,_,vs,_,p⟩:=(show xao X.prog X.w H s.heap a (.dK kvs) from I.hok a _ ea)
    obtain⟨o,es,ep,h1,h2,_⟩:=p;exact Jt PySem.W.kitx_dict I.kIn ⟨o,h1,h2.1⟩ e (fun z=>nomatch z) h
  | @dT a kvs ea =>
    cases (show u=Zm a from rx);obtain⟨_,_,xs,_,o,es,ep,h1,h2,_⟩:=(show xao X.prog X.w H s.heap a (.dT kvs) from I.hok a _ ea)
    exact Jt PySem.W.kitx_dict I.kIn ⟨o,h1,h2.1⟩ e (fun z=>nomatch z) h
  | @ins a C dx fs ea cl ha hn htk hm =>
    cases (show u=Zm a from rx);obtain⟨mA,O,_⟩:=xf3 I.hok ea;obtain⟨od,J,_⟩:=O.look;exact Jt (PySem.W.kitx_own (cl.get _) cl.hd ha hn htk hm) I.kIn J e (fun z=>nomatch z) h
end
structure Room (q0:Bool) (k:Nat) (A:Around):Prop where
 hd:q0=true->A.handled=none
 dp:A.depth+3*k+5<recursionLimit
 un:A.units+16*k+200<cLine
theorem Room.mono {j k:Nat}{A:Around} (r:Room q0 k A) (h:j<=k):Room q0 j A:=⟨r.hd,by have:=r.dp; omega,by have:=r.un; omega⟩
theorem Room.deeper {k:Nat}{A:Around} (r:Room q0 (k+1) A) (env:Env):Room q0 k (A.deeper env) :=
 ⟨r.hd,by have:=r.dp; show A.depth+1+3*k+5<_; omega,by have:=r.un; show A.units+3+16*k+200<_; omega⟩
theorem xmx {A:Around}{C:Addr}{us:List Value}{kw:List (Str × Value)}:(A.under (.builtin "type.__call__" ⟨.ref C::us,kw⟩)).depth=A.depth+1:=by
 first|rfl|simp[Around.under,Code.weight,Code.isCreation,Code.isGuard,Code.isCaller,Code.frames,Code.isFrame,guardIds]
theorem xm2 {A:Around}{C:Addr}{us:List Value}{kw:List (Str × Value)}:(A.under (.builtin "type.__call__" ⟨.ref C::us,kw⟩)).units=A.units+1:=by
 first|rfl|simp[Around.under,Code.cUnits,Code.frames,Code.isFrame]
theorem Room.make {k:Nat}{A:Around} (r:Room q0 (k+1) A) (C:Addr) (us:List Value) (kw:List (Str × Value)):Room q0 k (A.under (.builtin "type.__call__" ⟨.ref C::us,kw⟩)) :=
 ⟨r.hd,by have:=r.dp; rw[xmx]; omega,by have:=r.un; rw[xm2]; omega⟩
theorem Room.depth {k:Nat}{A:Around} (r:Room q0 k A):A.depth<recursionLimit:=by have:=r.dp; omega
theorem Room.units {k:Nat}{A:Around} (r:Room q0 k A):A.units+64<cLine:=by have:=r.un; omega
def tNil:TA:=fun _ H Q=>Q [] H
def xf7 (ta:TE) (tr:TA):TA:=fun σ H Q=>ta σ H fun x H1=>tr σ H1 fun xs H2=>Q (x::xs) H2
section
variable {X:Cx}{e:Expr}{es:List Expr}{te:TE}{t:TA}{pos:Pos}
theorem xg:PA X [] tNil:=fun _ _ _ _ H Q I h=>Calls.spliced_nil ⟨[],H,I,.nil,h⟩
theorem xb (ha:PE X e te) (hr:PA X es t) (hs:starEach (e::es) X.env=(false,eval e X.env)::starEach es X.env:=by rfl):PA X (e::es) (xf7 te t):=by
 intro pos pins s σ H Q I h;rw[hs];show wpAny _ _ (spliced ((false,eval e X.env)::backTo pos (starEach es X.env))) _ _ s;refine Qm (thn (ha pins s σ H _ I h) fun u s1 ⟨x,H1,I1,r1,q1⟩=>?_);exact thn (hr pos pins s1 σ H1 _ I1 q1) fun us s2 ⟨xs,H2,I2,r2,q2⟩=>⟨x::xs,H2,I2,.cons r1 r2,q2⟩
def tTup (t:TA):TE:=fun σ H Q=>t σ H fun xs H1=>xs.length<=sizeLine/\∀ p,H1 p=none->Q (.ref p) (upd H1 p (.tup xs))
def tLst (t:TA):TE:=fun σ H Q=>t σ H fun xs H1=>xs.length<=sizeLine/\∀ p,H1 p=none->Q (.ref p) (upd H1 p (.lst xs))
theorem xaj {x1} (h:PA X es t):PE X (.Tuple es x1 pos) (tTup t):=by
 intro pins s σ H Q I hq;refine wpAny_Tuple_spliced (thn (h pos pins s σ H _ I hq) fun us s1 ⟨xs,H1,I1,r,z,q⟩=>⟨by rw[<- r.length]; exact z,?_⟩);have hf:H1 s1.heap.objs.size=none:=I1.hok.fresh (Zi _);refine⟨.ref s1.heap.objs.size,upd H1 s1.heap.objs.size (.tup xs),I1.laid (t':=s1.toks) (fun b u e=>Zg _ e) (Zi _) ?_,rfl,q _ hf⟩;exact⟨z,us,r,⟨_,Zx _ rfl,rfl,_,rfl⟩⟩
theorem xbj (h:PA X es t):PE X (.List es pos) (tLst t):=by
 intro pins s σ H Q I hq;refine wpAny_List_spliced (thn (h pos pins s σ H _ I hq) fun us s1 ⟨xs,H1,I1,r,z,q⟩=>⟨by rw[<- r.length]; exact z,?_⟩);have hf:H1 s1.heap.objs.size=none:=I1.hok.fresh (Zi _);refine⟨.ref s1.heap.objs.size,upd H1 s1.heap.objs.size (.lst xs),I1.laid (t':=s1.toks) (fun b u e=>Zg _ e) (Zi _) ?_,rfl,q _ hf⟩;exact⟨z,us,0,r,Zx _ rfl⟩
end
abbrev Sp:=List V->Hp->VK->XK->Prop
abbrev CXT:=List Env->Hp->Shared->XK->Value->Shared->Prop
structure Env0 (P:Program) (w:World) (K:Zd) (mg:Str->Option Value) (base:Heap) (A:Around) (outer:List Env) (s:Shared) (H:Hp):Prop where
 frames:A.frames=some outer
 mod:Mod K mg base
 bs:∀ b o,base.get? b=some o->s.heap.get? b=some o/\H b=none
 bsz:base.objs.size<=s.heap.objs.size
 funs:s.heap.FunFrames base outer
 frf:∀ b∈frs outer,H b=none
 hok:HOk P w H s.heap
 bare:AllBare s.gens
def CE (outer:List Env) (P:Program) (w:World) (H:Hp) (s:Shared) (Q:VK) (u:Value) (s':Shared):Prop :=
 ∃ v H',s'.os=s.os/\AllBare s'.gens/\Un (frs outer) [] H H' s.heap s'.heap/\HOk P w H' s'.heap/\RelV v u/\Q v H'
def CR (CX:CXT) (outer:List Env) (P:Program) (w:World) (H:Hp) (s:Shared) (Q:VK) (E:XK) (r:Result) (s':Shared):Prop :=
 match r with
 | .ok (.ret u)=>CE outer P w H s Q u s'
 | .ok _=>False
 | .error e=>CX outer H s E e s'
structure FnOk (q0:Bool) (P:Program) (w:World) (K:Zd) (mg:Str->Option Value) (base:Heap) (CX:CXT) (k:Nat) (f:Addr) (fd:FuncData) (ps:List Str) (sp:Sp):Prop where
 len:∀ vs H Q E,sp vs H Q E->vs.length=ps.length
 run:∀(A:Around) (outer:List Env) (s:Shared) (H:Hp) (args:Args) (us:List Value) (vs:List V) (Q:VK) (E:XK),Room q0 k A->Env0 P w K mg base A outer s H->BindsTo s fd args (ps.zip us)->Vals vs us->sp vs H Q E ->
  codeAny (model P w) A (.call (.ref f) args) (CR CX outer P w H s Q E) s
theorem Env0.make {P:Program}{w:World}{K:Zd}{mg:Str->Option Value}{base:Heap}{A:Around}{outer:List Env}{s:Shared}{H:Hp} (e:Env0 P w K mg base A outer s H) (C:Addr) (us:List Value) (kw:List (Str × Value)) :
    Env0 P w K mg base (A.under (.builtin "type.__call__" ⟨.ref C::us,kw⟩)) outer s H:=⟨by first|exact e.frames|(simpa [Around.under,Code.envs,Code.isFrame,pushEnvs] using e.frames),e.mod,e.bs,e.bsz,e.funs,e.frf,e.hok,e.bare⟩
section
variable {X:Cx}{pins:List (Addr × Obj)}{σ:St}{H:Hp}{s s':Shared}
theorem Inv.env0 (I:Inv X pins σ H s):Env0 X.prog X.w X.K X.mg X.base X.A X.stack s H :=
 ⟨I.ok.frames,I.ok.mod,I.bs,Zs I.ok.bsz I.sz,I.stack,I.stkFree,I.hok,I.bare⟩
theorem Inv.after {Q:VK}{u:Value} (I:Inv X pins σ H s) (h:CE X.stack X.prog X.w H s Q u s'):EP X pins σ Q u s':=by
 obtain⟨v,H',os,bare,un,hok,r,q⟩:=h;obtain⟨hh,g,d,t,os'⟩:=s';obtain rfl:os'=s.os:=os;exact⟨v,H',I.call (h':=hh) (g':=g) (d':=d) (t':=t) (ch:=[]) un hok bare (fun b z=>absurd z (by simp)),r,q⟩
end
def xmn (sp:Sp) (dvs:List V) (E:St->XK) (t:TA):TE:=fun σ H Q=>t σ H fun vs H1=>sp (vs++dvs) H1 Q (E σ)
def xjf (C:Addr) (m:Str) (sp:Sp) (dvs:List V) (E:St->XK) (ta:TE) (t:TA):TE:=fun σ H Q=>ta σ H fun x H1=>∃ a dx fs,x=.ref a/\H1 a=some (.ins C dx fs)/\fs.lookup m=none /\
 t σ H1 fun vs H2=>sp (x::(vs++dvs)) H2 Q (E σ)
def xvu (C:Addr) (sp:Sp) (dvs:List V) (E:St->XK) (t:TA):TE:=fun σ H Q=>t σ H fun vs H1=>∀ x dx,H1 x=none->H1 dx=none->dx≠x ->
 sp (.ref x::(vs++dvs)) (upd (upd H1 dx (.own x)) x (.ins C dx [])) (fun v H2=>v=.non/\Q (.ref x) H2) (E σ)
def xx (K:Zd) (fd:FuncData) (ps:List Str) (ds:List Value):Prop :=
 ∀(s:Shared) (us:List Value),K.In s.heap->(us++ds).length=ps.length->BindsTo s fd ⟨us,[]⟩ (ps.zip (us++ds))
theorem xx.all {K:Zd}{fd:FuncData}{ps:List Str} (h:∀ us:List Value,us.length=ps.length->bindArgs fd ⟨us,[]⟩=pure (ps.zip us)):xx K fd ps []:=fun s us _ hl=>by
 rw[JG] at hl ⊢;exact .of_eq (h us hl)
def xdv (CX:CXT) (X:Cx) (E:St->XK):Prop:=∀(pins:List (Addr × Obj)) (σ:St) (H:Hp) (s:Shared) (e:Value) (s':Shared),Inv X pins σ H s->CX X.stack H s (E σ) e s'->X.xe e s'
section
variable {X:Cx}{CX:CXT}{k:Nat}{f C:Addr}{fd:FuncData}{ps:List Str}{sp:Sp}{dvs:List V}{ds:List Value}{E:St->XK}{x m:Str}{p pos apos:Pos}{e o:Expr}{es:List Expr}{ta:TE}{t:TA}
theorem xj9 {pins:List (Addr × Obj)}{σ:St}{H:Hp}{s:Shared}{Q:VK}{us:List Value}{vs:List V} (F:FnOk q0 X.prog X.w X.K X.mg X.base CX k f fd ps sp) (hr:Room q0 k X.A) (hb:xx X.K fd ps ds) (hd:Vals dvs ds) (hx:xdv CX X E)
    (I:Inv X pins σ H s) (r:Vals vs us) (h:sp (vs++dvs) H Q (E σ)):wpAny (model X.prog X.w) X.A (call (.ref f) us) (EP X pins σ Q) X.xe s:=by
  have r2:Vals (vs++dvs) (us++ds):=r.append hd;have hl:(us++ds).length=ps.length:=by rw[<- r2.length]; exact F.len _ _ _ _ h
  refine Q7 (Q9 (F.run X.A X.stack s H ⟨us,[]⟩ (us++ds) (vs++dvs) Q (E σ) hr I.env0 (hb s us I.kIn hl) r2 h) fun r s' hq=>?_);cases r with
  | error e=>exact hx pins σ H s e s' I hq
  | ok fl =>
    cases fl with
    | ret u=>exact I.after hq
    | next=>exact Jz hq
    | brk=>exact Jz hq
    | cont=>exact Jz hq
theorem xu (F:FnOk q0 X.prog X.w X.K X.mg X.base CX k f fd ps sp) (hr:Room q0 k X.A) (hg:Gl X x) (hm:X.mg x=some (.ref f)) (hk:Jm X.K (.ref f)=true) (hb:xx X.K fd ps ds) (hd:Vals dvs ds) (hx:xdv CX X E)
    (ha:PA X (e::es) t) (hdb:(x == ("__debug__":Str))=false:=by decide) (he:starEach (e::es) X.env=(false,eval e X.env)::starEach es X.env:=by rfl) (hpl:(backTo pos (starEach es X.env)).any (·.1)=false:=by rfl) :
    PE X (.Call (.Name x p) (e::es) [] pos) (xmn sp dvs E t):=by
  intro pins s σ H Q I h;refine Ye (xe5 I hg hm ?_ hdb);refine Qi (h₀:=X.base) I.ok.mod.kin hk (thn (ha pos pins s σ H _ I h) fun us s1 ⟨vs,H1,I1,r,q⟩=>⟨I1.kIn,?_⟩) he hpl;exact xj9 F hr hb hd hx I1 r q
theorem xat {pl:Sem Bool} (he:PE X o ta) (c:Cls X.K C) (hm:Meth X.K C m f) (F:FnOk q0 X.prog X.w X.K X.mg X.base CX k f fd ps sp) (hr:Room q0 k X.A) (hb:xx X.K fd ps ds) (hd:Vals dvs ds) (hx:xdv CX X E) (ha:PA X (e::es) t)
    (hst:starEach (e::es) X.env=(false,eval e X.env)::starEach es X.env:=by rfl) (hpl:(backTo pos (starEach es X.env)).any (·.1)=false:=by rfl)
    (ht:eval (.Call (.Attribute o m apos) (e::es) [] pos) X.env=(do
      let ov <- eval o X.env
      standAt apos.atName
      let (f,first) <- holding [ov] (getMethod ov m pl)
      callWith pos f first (backTo pos (starEach (e::es) X.env)) (backToKw pos (keywordEach [] X.env))):=by rfl) :
    PE X (.Call (.Attribute o m apos) (e::es) [] pos) (xjf C m sp dvs E ta t):=by
  intro pins s σ H Q I h;refine PySem.W.methodCall_KW (pl:=pl) (thn (he pins s σ H _ I h) fun u s1 ⟨x,H1,I1,rx,a,dx,fs,ex,ea,l,q⟩=>?_) ht;subst ex;obtain rfl:u=Zm a:=rx;refine xho I1 ea c hm l ?_;refine Qi (first:=[.ref a]) (h₀:=X.base) I.ok.mod.kin hm.kp (thn (ha pos pins s1 σ H1 _ I1 q) fun us s2 ⟨vs,H2,I2,r,q2⟩=>⟨I2.kIn,?_⟩) hst hpl;exact xj9 (us:=.ref a::us) (vs:=.ref a::vs) F hr hb hd hx I2 (.cons rfl r) q2
theorem xbb {pl:Sem Bool} (he:PE X o ta) (c:Cls X.K C) (hm:Meth X.K C m f) (F:FnOk q0 X.prog X.w X.K X.mg X.base CX k f fd ps sp) (hr:Room q0 k X.A) (hb:xx X.K fd ps ds) (hd:Vals dvs ds) (hx:xdv CX X E)
    (ht:eval (.Call (.Attribute o m apos) [] [] pos) X.env=(do
      let ov <- eval o X.env
      standAt apos.atName
      let (f,first) <- holding [ov] (getMethod ov m pl)
      callWith pos f first (backTo pos (starEach [] X.env)) (backToKw pos (keywordEach [] X.env))):=by rfl) :
    PE X (.Call (.Attribute o m apos) [] [] pos) (xjf C m sp dvs E ta tNil):=by
  intro pins s σ H Q I h;refine PySem.W.methodCall_KW (pl:=pl) (thn (he pins s σ H _ I h) fun u s1 ⟨x,H1,I1,rx,a,dx,fs,ex,ea,l,q⟩=>?_) ht;subst ex;obtain rfl:u=Zm a:=rx;refine xho I1 ea c hm l ?_;exact PySem.W.callWith_K0 (first:=[.ref a]) I1.kIn hm.kp (xj9 (us:=[.ref a]) (vs:=[.ref a]) F hr hb hd hx I1 (.cons rfl .nil) q)
structure Mk (K:Zd) (C f:Addr):Prop where
 makes:Y4 K C=true
 init:ZB K (.ref C) "__init__"=some (some (.ref f))
 fn:ZK K (.ref f)=true
 kp:Jm K (.ref C)=true
theorem xpt {pins:List (Addr × Obj)}{σ:St}{H:Hp}{s:Shared}{Q:VK}{us:List Value}{vs:List V} (M:Mk X.K C f) (F:FnOk q0 X.prog X.w X.K X.mg X.base CX k f fd ps sp) (hr:Room q0 (k+1) X.A) (hb:xx X.K fd ps ds) (hd:Vals dvs ds)
    (hx:xdv CX X E) (I:Inv X pins σ H s) (r:Vals vs us)
    (h:∀ x dx,H x=none->H dx=none->dx≠x->sp (.ref x::(vs++dvs)) (upd (upd H dx (.own x)) x (.ins C dx [])) (fun v H2=>v=.non/\Q (.ref x) H2) (E σ)) :
    wpAny (model X.prog X.w) X.A (call (.ref C) us) (EP X pins σ Q) X.xe s:=by
  have hq:=h (s.heap.objs.size+1) s.heap.objs.size (I.hok.fresh (QW _)) (I.hok.fresh (Zi _)) (ZD (Nat.lt_succ_self _));have I2:=Inv.made (C:=C) I;have r2:Vals (V.ref (s.heap.objs.size+1)::(vs++dvs)) (Zm (s.heap.objs.size+1)::(us++ds)):=.cons rfl (r.append hd);have hl:(Zm (s.heap.objs.size+1)::us++ds).length=ps.length:=by
    have e:=r2.length;rw[F.len _ _ _ _ hq] at e;exact e.symm
  refine Q7 (xpz (f:=f) I.kIn M.makes M.init (beq_iff_eq.mp M.fn) (Q9 (F.run _ X.stack _ _ ⟨Zm (s.heap.objs.size+1)::us,[]⟩ (Zm (s.heap.objs.size+1)::(us++ds)) _ _ (E σ) (hr.make C us [])
    (I2.env0.make C us []) (hb _ (Zm (s.heap.objs.size+1)::us) I2.kIn hl) r2 hq) fun r s' hq'=>?_))
  cases r with
  | error e=>exact hx pins σ _ _ e s' I2 hq'
  | ok fl =>
    cases fl with
    | ret u =>
      obtain⟨v,H',I3,rv,ev,q3⟩:=I2.after hq';subst ev;exact⟨rv,⟨V.ref (s.heap.objs.size+1),H',I3,rfl,q3⟩⟩
    | next=>exact Jz hq'
    | brk=>exact Jz hq'
    | cont=>exact Jz hq'
theorem xe3 (M:Mk X.K C f) (F:FnOk q0 X.prog X.w X.K X.mg X.base CX k f fd ps sp) (hr:Room q0 (k+1) X.A) (hg:Gl X x) (hm:X.mg x=some (.ref C)) (hb:xx X.K fd ps ds) (hd:Vals dvs ds) (hx:xdv CX X E)
    (ha:PA X (e::es) t) (hdb:(x == ("__debug__":Str))=false:=by decide) (he:starEach (e::es) X.env=(false,eval e X.env)::starEach es X.env:=by rfl) (hpl:(backTo pos (starEach es X.env)).any (·.1)=false:=by rfl) :
    PE X (.Call (.Name x p) (e::es) [] pos) (xvu C sp dvs E t):=by
  intro pins s σ H Q I h;refine Ye (xe5 I hg hm ?_ hdb);refine Qi (h₀:=X.base) I.ok.mod.kin M.kp (thn (ha pos pins s σ H _ I h) fun us s1 ⟨vs,H1,I1,r,q⟩=>⟨I1.kIn,?_⟩) he hpl;exact xpt M F hr hb hd hx I1 r q
end
structure xv (N P:List Str) (sc:Scope):Prop where
 kind:sc.kind=.function
 co:sc.isCoroutine=false
 gen:sc.isGenerator=false
 nd:N.Nodup
 pre:N.take P.length=P
 par:∀ x∈P,sc.names.lookup x=some .local\/sc.names.lookup x=some .cell
 nofree:∀ y∈sc.names,y.2≠.free
theorem xil {kindOf:Str->Option NameKind}{x:Str}:∀{binds:List (Str × Value)}{m:Str->Option Value},(∀ v,(x,v)∉binds)->bindL kindOf binds m x=m x
 | [],_,_=>rfl
 | (n,v)::r,m,h=>by
  unfold bindL;rw[xil fun w hw=>h w (Zy _ hw)];split
  .have:x≠n:=by rintro rfl; exact h v Zz
   simp[this]
  .rfl
theorem xif {kindOf:Str->Option NameKind}{x:Str}:∀{binds:List (Str × Value)}{m:Str->Option Value},(∀ v,(x,v)∉binds)->bindC kindOf binds m x=m x
 | [],_,_=>rfl
 | (n,v)::r,m,h=>by
  unfold bindC;rw[xif fun w hw=>h w (Zy _ hw)];split
  .rfl
  .have:x≠n:=by rintro rfl; exact h v Zz
   simp[this]
theorem xi6 {kindOf:Str->Option NameKind}{x:Str}{v:Value}:∀{P:List Str}{vs:List Value}{i:Nat}{m:Str->Option Value},P.Nodup->P[i]?=some x->vs[i]?=some v->kindOf x=some .local ->
    bindL kindOf (P.zip vs) m x=some v
  | [],_,_,_,_,h,_,_=>by simp at h
  | _::_,[],_,_,_,_,h,_=>by simp at h
  | p::P,w::vs,0,m,nd,h1,h2,hk=>by
    simp at h1 h2; subst h1; subst h2;show bindL kindOf ((p,w)::P.zip vs) m p=_;unfold bindL;rw[xil fun v hv=>(Jh.mp nd).1 (List.of_mem_zip hv).1,if_pos hk];simp
  | p::P,w::vs,i+1,m,nd,h1,h2,hk=>by
    show bindL kindOf ((p,w)::P.zip vs) m x=_;unfold bindL;exact xi6 (i:=i) (Jh.mp nd).2 (by simpa using h1) (by simpa using h2) hk
theorem xim {kindOf:Str->Option NameKind}{x:Str}{v:Value}:∀{P:List Str}{vs:List Value}{i:Nat}{m:Str->Option Value},P.Nodup->P[i]?=some x->vs[i]?=some v->kindOf x≠some .local ->
    bindC kindOf (P.zip vs) m x=some v
  | [],_,_,_,_,h,_,_=>by simp at h
  | _::_,[],_,_,_,_,h,_=>by simp at h
  | p::P,w::vs,0,m,nd,h1,h2,hk=>by
    simp at h1 h2; subst h1; subst h2;show bindC kindOf ((p,w)::P.zip vs) m p=_;unfold bindC;rw[xif fun v hv=>(Jh.mp nd).1 (List.of_mem_zip hv).1,if_neg hk];simp
  | p::P,w::vs,i+1,m,nd,h1,h2,hk=>by
    show bindC kindOf ((p,w)::P.zip vs) m x=_;unfold bindC;exact xim (i:=i) (Jh.mp nd).2 (by simpa using h1) (by simpa using h2) hk
def xc5 (N:List Str) (vs:List V):St:=vs.map some++Qf (N.length-vs.length) none
def cxOf (q0:Bool) (CX:CXT) (P:Program) (w:World) (K:Zd) (mg:Str->Option Value) (base:Heap) (N:List Str) (qual:Str) (scope:Scope) (f:Addr) (cd:Value) (A:Around) (outer:List Env) (s:Shared) (H:Hp) (E:XK):Cx where
 prog:=P
 w:=w
 K:=K
 mg:=mg
 base:=base
 A:=A.deeper (envOfC qual scope s.heap.objs.size f cd)
 N:=N
 s₀:=s
 H₀:=H
 env:=envOfC qual scope s.heap.objs.size f cd
 outer:=outer
 stack:=envOfC qual scope s.heap.objs.size f cd::outer
 ex:=[]
 calm:=q0
 fn:=fun _=>true
 pn:=[]
 xe:=fun e s'=>wpAny (model P w) (A.deeper (envOfC qual scope s.heap.objs.size f cd)) (leaving (envOfC qual scope s.heap.objs.size f cd) e) (fun _ s''=>CX outer H s E e s'') (fun e' s''=>CX outer H s E e' s'') s'
theorem xko {sc:Scope}{n:Nat}{x:Str} (h:sc.names.lookup x=some .cell):∃ c,(cellsFrom n sc.names []).lookup x=some c:=by
 have q:=PySem.W.cellsFrom_some sc.names n [] (.inl h);exact Option.isSome_iff_exists.mp q
theorem xod {CX:CXT}{P:Program}{w:World}{K:Zd}{mg:Str->Option Value}{base:Heap}{N ps:List Str}{qual:Str}{scope:Scope}{f:Addr}{cd:Value}{A:Around}{outer:List Env}{s s1:Shared}{H:Hp}{E:XK}{us:List Value}{vs:List V}
    (S:xv N ps scope) (hd:q0=true->A.handled=none) (e0:Env0 P w K mg base A outer s H) (hl:vs.length=ps.length) (r:Vals vs us)
    (x:InCallC s s.heap.objs.size (bindL (envOfC qual scope s.heap.objs.size f cd).kindOf (ps.zip us) fun _=>none) (cellsFrom (s.heap.objs.size+1) scope.names []) (bindC (envOfC qual scope s.heap.objs.size f cd).kindOf (ps.zip us) fun _=>none) s1) :
    Inv (cxOf q0 CX P w K mg base N qual scope f cd A outer s H E) [] (xc5 N vs) H s1:=by
  have hpl:ps.length<=N.length:=by have:=congrArg QX S.pre; rw[ZQ] at this; omega
  obtain⟨h1,tk,rfl,hk⟩:=x.done;have noA:∀ b:Addr,b∉(cxOf q0 CX P w K mg base N qual scope f cd A outer s H E).ex:=fun b z=>absurd (show b∈([]:List Addr) from z) (by simp);refine⟨⟨e0.mod,S.kind,rfl,rfl,Zi _,fun y z c h1 h2=>?_,fun y hy=>?_,fun y c _ h=>?_,hd,Around.frames_deeper e0.frames,.inr ⟨rfl,rfl⟩,fun b z=>absurd z (noA b),e0.bs,e0.bsz,fun b _ _=>noA b,fun b z=>absurd z (noA b),e0.funs,e0.frf⟩,
    rfl,e0.bare,Un.kept hk,⟨_,x.toInCall.ns,fun i y v h1 h2 h3=>?_⟩,fun y c h=>⟨_,x.cell y c h⟩,e0.hok.fresh (Zi _),fun y c h=>?_,fun p hp=>absurd (show p∈([]:List (Addr × Obj)) from hp) (by simp),e0.hok.kept hk,?_⟩
  . exact name_of_addr x.apart (J6 h1) (J6 h2)
  . have hy:scope.names.lookup y=some .cell\/scope.names.lookup y=some .free:=hy
    rcases hy with hy|hy
    . exact xko hy
    . exact absurd rfl (S.nofree _ (J6 hy))
  . exact JJ (x.above y c (J6 h))
  . have hi:i<vs.length:=by
      unfold xc5 at h2;by_cases hi:i<vs.length
      . exact hi
      . rw[Js (by simpa using hi)] at h2
        rw[Q6] at h2;split at h2<;>cases h2
    have ha:vs[i]?=some v:=by
      unfold xc5 at h2;rw[Jj (by simpa using hi),Zh] at h2;cases e:vs[i]? with
      | none=>rw[e] at h2; cases h2
      | some a=>rw[e] at h2; cases h2; rfl
    obtain⟨u,hu,rv⟩:=r.get ha;have hp:ps[i]?=some y:=by
      rw[<- S.pre,List.getElem?_take_of_lt (by omega)]; exact h1
    have ndP:ps.Nodup:=by rw[<- S.pre]; exact S.nd.sublist (List.take_sublist _ _)
    refine⟨u,rv,?_⟩;rcases S.par y (Zo hp) with k|k
    . exact .inl ⟨k,xi6 ndP hp hu k⟩
    . obtain⟨c,e⟩:=xko (n:=s.heap.objs.size+1) k
      refine .inr ⟨.inl k,c,e,?_⟩;have q:=x.cell y c e;rw[xim ndP hp hu (by show scope.names.lookup y≠_; rw[k]; decide)] at q;exact q
  . exact e0.hok.fresh (JJ (x.above y c (J6 h)))
  . unfold xc5
    show _=N.length;rw[Zp,Za,QT];omega
theorem xjp {CX:CXT}{P:Program}{w:World}{K:Zd}{mg:Str->Option Value}{base:Heap}{k:Nat}{f:Addr}{name qual:Str}{params:Arguments}{body:List Stmt}{scope:Scope}{dV kV doc pm cdv ct oc:Value}{an od:Option Addr}
    {osl:Array (Option Value)}{N ps:List Str}{sp:Sp} (lk:K.lookup f=some ⟨oc,od,.func (Jn name qual params body scope dV kV doc pm an cdv ct),osl⟩) (hcd:YG K cdv qual=true) (S:xv N ps scope)
    (len:∀ vs H Q E,sp vs H Q E->vs.length=ps.length)
    (hbody:∀(A:Around) (outer:List Env) (s:Shared) (H:Hp) (vs:List V) (Q:VK) (E:XK),Room q0 k (A.deeper (envOfC qual scope s.heap.objs.size f cdv))->sp vs H Q E ->
      ∃ t,PSs (cxOf q0 CX P w K mg base N qual scope f cdv A outer s H E) body t/\t { nx:=fun _ H'=>Q .non H',rt:=Q } (xc5 N vs) H) :
    FnOk q0 P w K mg base CX (k+1) f (Jn name qual params body scope dV kV doc pm an cdv ct) ps sp:=by
  refine⟨len,fun A outer s H args us vs Q E hr e0 hb r hsp=>?_⟩;have hl:=len _ _ _ _ hsp;have KX:K.In s.heap:=e0.mod.kin.keeps fun b o e=>(e0.bs b o e).1;have lim:s.heap.NoLimit:=e0.mod.nolimit.keeps fun b o e=>(e0.bs b o e).1;have hkind:∀ y∈ps.zip us,scope.names.lookup y.1=some .local\/(scope.names.lookup y.1=some .cell/\((cellsFrom (s.heap.objs.size+1) scope.names []).lookup y.1).isSome=true):=fun⟨n,v⟩ hy=>by
    rcases S.par n (List.of_mem_zip hy).1 with q|q
    . exact .inl q
    . exact .inr ⟨q,PySem.W.cellsFrom_some _ _ _ (.inl q)⟩
  refine codeAny_call_function hr.depth (KX _ _ lk) rfl S.co S.gen rfl (PySem.W.codeRec_of KX hcd) (hb _ _ _ _ ?_);refine wpAny_newFunctionEnv_cells S.kind hkind fun env he s1 x=>?_;subst he;refine⟨lim.keeps x.toInCall.keep,codeAny_func ?_⟩;obtain⟨t,ht,hq⟩:=hbody A outer s H vs Q E (hr.deeper _) hsp;have I:Inv (cxOf q0 CX P w K mg base N qual scope f cdv A outer s H E) [] (xc5 N vs) H s1:=xod S hr.hd e0 hl r x;refine ZR (ht [] s1 (xc5 N vs) H _ I hq) (fun fl s' hs=>?_) fun e s' hs=>hs;have fin:∀{σ':St}{H':Hp}{v:V}{u:Value},Inv (cxOf q0 CX P w K mg base N qual scope f cdv A outer s H E) [] σ' H' s'->RelV v u->Q v H'->CE outer P w H s Q u s' :=
    fun {σ' H' v u} J rv q=>⟨v,H',J.os,J.bare,J.base,J.hok,rv,q⟩
  cases fl with
  | ret u =>
    obtain⟨v,σ',H',J,rv,q⟩:=hs;exact fin J rv q
  | next =>
    obtain⟨σ',H',J,q⟩:=hs;exact fin (v:=V.non) (u:=ZV) J rfl q
  | brk =>
    obtain⟨_,_,_,q⟩:=hs;exact Jz q
  | cont =>
    obtain⟨_,_,_,q⟩:=hs;exact Jz q
section
variable {X:Cx}{x:Str}{p pos:Pos}{e:Expr}{es:List Expr}{t:TA}{id T:String}{r:List V->Hp->VK->Prop}
def tCB (r:List V->Hp->VK->Prop) (t:TA):TE:=fun σ H Q=>t σ H fun vs H1=>r vs H1 Q
theorem x8 (hc:xb1 X (.builtin id) r) (hg:Gl X x) (hm:X.mg x=none) (hv:bootBuiltins x=some (.builtin id)) (ha:PA X (e::es) t) (hn:x≠"__name__":=by decide) (hdb:(x == ("__debug__":Str))=false:=by decide)
    (he:starEach (e::es) X.env=(false,eval e X.env)::starEach es X.env:=by rfl) (hpl:(backTo pos (starEach es X.env)).any (·.1)=false:=by rfl):PE X (.Call (.Name x p) (e::es) [] pos) (tCB r t):=by
  intro pins s σ H Q I h;refine Ye (xcl I hg hm hv ?_ hn hdb);exact PyProof.Rows.callWith_builtin1 (thn (ha pos pins s σ H _ I h) fun us s1 ⟨vs,H1,I1,r1,q1⟩=>hc pins s1 σ H1 vs us Q I1 r1 q1) he hpl
theorem xbr (hc:xb1 X (.type T) r) (hg:Gl X x) (hm:X.mg x=none) (hv:bootBuiltins x=some (.type T)) (ha:PA X (e::es) t) (hn:x≠"__name__":=by decide) (hdb:(x == ("__debug__":Str))=false:=by decide)
    (he:starEach (e::es) X.env=(false,eval e X.env)::starEach es X.env:=by rfl) (hpl:(backTo pos (starEach es X.env)).any (·.1)=false:=by rfl):PE X (.Call (.Name x p) (e::es) [] pos) (tCB r t):=by
  intro pins s σ H Q I h;refine Ye (xcl I hg hm hv ?_ hn hdb);exact ZS (thn (ha pos pins s σ H _ I h) fun us s1 ⟨vs,H1,I1,r1,q1⟩=>hc pins s1 σ H1 vs us Q I1 r1 q1) he hpl
end
end L2
namespace HT
open PySem PyProof.Rows
section
variable {prog:Program}{w:World}{A:Around}{E:Value->Shared->Prop}{s:Shared}
theorem cat_tup {t b:Addr}{vs ws:List Value}{Q:Value->Shared->Prop} (ht:IsTup s.heap t vs.toArray) (hb:IsTup s.heap b ws.toArray) (hv:vs≠[])
    (h1:ws=[]->Q (.ref t) s) (h2:ws≠[]->Q (.ref s.heap.objs.size) { s with heap:=s.heap.push { cls:=.type "tuple",data:=.seq (vs++ws).toArray } })
    (hsz:vs.length+ws.length<=sizeLine):wpAny (model prog w) A (binaryOp .Add (.ref t) (.ref b)) Q E s:=by
  obtain⟨⟨cls,dd,data,sl⟩,ho,hc,n,hd⟩:=id ht;obtain⟨⟨cls2,dd2,data2,sl2⟩,ho2,hc2,n2,hd2⟩:=id hb;simp only at hc hd hc2 hd2;subst hc hd hc2 hd2;have e:vs.toArray++ws.toArray=(vs++ws).toArray:=by simp
  by_cases hw:ws=[]
  . exact concat_meets ⟨_,ho,rfl⟩ ⟨_,ho2,rfl⟩ noFill_tuple_add seq_tuple_add PySem.F.slot_tuple_add PySem.F.entry_tuple_add (PySem.F.args_tuple_add_2 _ _)
      (tuple_addW1 t b vs.toArray ws.toArray n n2 dd dd2 sl sl2 (by simpa using hv) (by simp[hw])) ⟨ho,ho2,h1 hw⟩
  . refine concat_meets ⟨_,ho,rfl⟩ ⟨_,ho2,rfl⟩ noFill_tuple_add seq_tuple_add PySem.F.slot_tuple_add PySem.F.entry_tuple_add (PySem.F.args_tuple_add_2 _ _)
      (tuple_addW2 t b vs.toArray ws.toArray n n2 dd dd2 sl sl2 (by simpa using hv) (by simpa using hw) (by rw[Z4,Z4]; exact hsz)) ⟨ho,ho2,?_⟩
    rw[e];exact h2 hw
def sIx (n d:Nat):Option Int->Nat
 | none=>d
 | some v=>if v<0 then (v+(n:Int)).toNat else min v.toNat n
theorem sIx_none (n d:Nat):sIx n d none=d:=rfl
theorem sIx_nat (n d k:Nat):sIx n d (some (k:Int))=min k n:=by
 show (if (k:Int)<0 then ((k:Int)+(n:Int)).toNat else min (k:Int).toNat n)=min k n;rw[if_neg (by omega),Yn]
theorem xt9 (n d:Nat) (hd:d<=n) (o:Option Int):sIx n d o<=n:=by
 cases o with
 | none=>exact hd
 | some v =>
  show (if v<0 then (v+(n:Int)).toNat else min v.toNat n)<=n;by_cases hv:v<0
  .rw [if_pos hv]; omega
  .rw [if_neg hv]; exact Nat.min_le_right _ _
theorem xlk (v:Int) (n d:Nat):(if v<0 then max (v+(n:Int)) 0 else min v (n:Int))=((sIx n d (some v):Nat):Int):=by
 show (if v<0 then max (v+(n:Int)) 0 else min v (n:Int))=(((if v<0 then (v+(n:Int)).toNat else min v.toNat n):Nat):Int)
 by_cases hv:v<0
 .simp only [if_pos hv]; omega
 .simp only [if_neg hv]; omega
theorem xmo (lo hi:Option Int) (n:Nat):Builtin.Slice.sliceAdjust lo hi 1 (n:Int)=(((sIx n 0 lo:Nat):Int),((sIx n n hi:Nat):Int)):=by
 have h1:¬ ((1:Int)<0):=by omega
 unfold Builtin.Slice.sliceAdjust;simp only[h1,if_false];refine QV ?_ ?_
 .cases lo with
  | none=>rfl
  | some v=>exact xlk v n 0
 .cases hi with
  | none=>rfl
  | some v=>exact xlk v n n
theorem xmk (i j:Nat):Builtin.Slice.slicePlaces (i:Int) (j:Int) 1=j-i:=by
 unfold Builtin.Slice.slicePlaces;have h1:(1:Int)>0:=by omega
 simp only[h1,if_true,Int.ediv_one];split<;>omega
theorem xhh {v:Value}{o:Option Int}{Q:Option Int->Shared->Prop} (p:IsPart v o) (h:Q o s):wpAny (model prog w) A (Builtin.Slice.slicePartIndex v) Q E s:=by
 cases p with
 | none=>exact slicePart_none h
 | int i t=>exact slicePart_int h
theorem xgn {sl:Addr}{vl vu:Value}{lo hi:Option Int}{n:Nat}{Q:Int × Int × Nat->Shared->Prop} (hs:s.heap.IsSliceOf sl vl vu .none) (pl:IsPart vl lo) (pu:IsPart vu hi)
    (h:Q (((sIx n 0 lo:Nat):Int),1,sIx n n hi-sIx n 0 lo) s):wpAny (model prog w) A (Builtin.Slice.sliceApplied (.ref sl) (pure (n:Int))) Q E s:=by
  obtain⟨os,hos,hcs,hds⟩:=id hs;unfold Builtin.Slice.sliceApplied Builtin.Slice.sliceFields;refine Zb (Zb (Yp hos hds (x:=vl) rfl (Zb (Yp hos hds (x:=vu) rfl (Zb (Yp hos hds (x:=.none) rfl (Zk ?_)))))));refine Zb (slicePart_none ?_);show wpAny _ _ (if ((1:Int) == 0)=true then _ else _) _ _ s;rw[if_neg (by decide)];refine Zb (xhh pl (Zb (xhh pu (Zb (Zk ?_)))));show wpAny _ _ (match Builtin.Slice.sliceAdjust lo hi 1 (n:Int) with|(lo,hi)=>pure (lo,(1:Int),Builtin.Slice.slicePlaces lo hi 1)) _ _ s;rw[xmo lo hi n];show wpAny _ _ (pure (((sIx n 0 lo:Nat):Int),(1:Int),Builtin.Slice.slicePlaces ((sIx n 0 lo:Nat):Int) ((sIx n n hi:Nat):Int) 1)) _ _ s;rw[xmk];exact Zk h
theorem xp2 (xs:Array Value) (i k:Nat):((Z3 k).filterMap fun (m:Nat)=>xs[((i:Int)+(m:Int)*1).toNat]?).toArray=((xs.toList.drop i).take k).toArray:=by
 have e:(fun (m:Nat)=>xs[((i:Int)+(m:Int)*1).toNat]?)=fun m=>xs[i+m]?:=by
  funext m;have:((i:Int)+(m:Int)*1).toNat=i+m:=by omega
  rw[this]
 rw[e];have:=pick_run xs i k;rw[Ws] at this;have e2:((fun x=>xs[x]?)∘fun x=>i+x)=fun m=>xs[i+m]?:=rfl;rw[e2] at this;rw[this]
theorem getItem_tuple_cut {t sl:Addr}{items:Array Value}{vl vu:Value}{lo hi:Option Int}{Q:Value->Shared->Prop} (ht:IsTup s.heap t items) (hs:s.heap.IsSliceOf sl vl vu .none) (pl:IsPart vl lo) (pu:IsPart vu hi)
    (hw:¬ (sIx items.size 0 lo=0/\sIx items.size items.size hi=items.size))
    (h:Q (.ref s.heap.objs.size) { s with heap:=s.heap.push { cls:=.type "tuple",data:=.seq ((items.toList.drop (sIx items.size 0 lo)).take (sIx items.size items.size hi-sIx items.size 0 lo)).toArray } })
    (hsz:items.size<=sizeLine):wpAny (model prog w) A (getItem (.ref t) (.ref sl)) Q E s:=by
  have htake:sizeOk (.seq ((items.toList.drop (sIx items.size 0 lo)).take (sIx items.size items.size hi-sIx items.size 0 lo)).toArray):=by
    show ((items.toList.drop (sIx items.size 0 lo)).take (sIx items.size items.size hi-sIx items.size 0 lo)).toArray.size<=sizeLine;rw[Z4,ZQ,JN,J7];omega
  have hj:sIx items.size items.size hi<=items.size:=xt9 _ _ (Zi _) hi;obtain⟨os,hos,hcs,hds⟩:=id hs;have hTs:s.TypeIs (.ref sl) "slice":=⟨os,hos,hcs⟩
  unfold getItem
  try with_reducible refine Jf ?_
  first|refine Zb (Zk ?_)|skip
  refine Zb (wpAny_sequenceKey ht.typeIs (by decide) ?_);refine Zb (YA (name:=Zc "__getitem__") ht.typeIs YK
    (Ya YK ht.typeIs entry_tuple_getitem ?_ (args_tuple_getitem _ _)))
  show wpAny _ _ (Builtin.Tuple.tupleItemsOf (.ref t)>>=_) _ _ s;refine Zb (tupleItemsOf_ ht ?_);refine Zb (Yt hTs ?_);rw[if_pos (by decide)];refine Zb (xgn hs pl pu ?_);have hno:¬ ((((sIx items.size 0 lo:Nat):Int) == 0&&(1:Int) == 1&&(sIx items.size items.size hi-sIx items.size 0 lo) == items.size)=true):=by
    intro q;rw[Zr,Zr] at q;have q1:((sIx items.size 0 lo:Nat):Int)=0:=Qy q.1.1;have q2:sIx items.size items.size hi-sIx items.size 0 lo=items.size:=Qy q.2;exact hw ⟨by omega,by omega⟩
  show wpAny _ _ (if (((sIx items.size 0 lo:Nat):Int) == 0&&(1:Int) == 1&&(sIx items.size items.size hi-sIx items.size 0 lo) == items.size)=true then _ else _) _ _ s;rw[if_neg hno,xp2]
  first
    | exact Zb (m:=Builtin.Tuple.tupleExact _) (Yk (Zk ⟨_,rfl,Zk h⟩) htake)
    | exact Zb (m:=Builtin.Tuple.tupleExact _) (Yk (Zb (Zk (Zk ⟨_,rfl,Zk h⟩))) htake)
    | exact Zb (Zb (m:=Builtin.Tuple.tupleExact _) (Yk (Zk (Zk ⟨_,rfl,Zk h⟩)) htake))
    | exact Zb (Zb (m:=Builtin.Tuple.tupleExact _) (Yk (Zk ⟨_,rfl,Zk h⟩) htake))
end
end HT
namespace L2
open PySem PySem.Spec PyProof.Rows
variable {q0:Bool}
abbrev TO:=St->Hp->(Option Int->Hp->Prop)->Prop
def PO (X:Cx) (e:Option Expr) (t:TO):Prop :=
 ∀(pins:List (Addr × Obj)) (s:Shared) (σ:St) (H:Hp) (Q:Option Int->Hp->Prop),Inv X pins σ H s->t σ H Q ->
  wpAny (model X.prog X.w) X.A (evalPart e X.env) (fun u s'=>∃ o H',Inv X pins σ H' s'/\IsPart u o/\Q o H') X.xe s
def xsi:TO:=fun _ H Q=>Q none H
def xvs (t:TE):TO:=fun σ H Q=>t σ H fun x H1=>∃ i,x=.int i/\Q (some i) H1
section
variable {X:Cx}{e:Expr}{te:TE}{lo hi:Option Expr}{tl th:TO}{pos p2:Pos}
theorem xew:PO X none xsi:=by
 intro pins s σ H Q I h;rw[evalPart_none];exact Zk ⟨none,H,I,.none,h⟩
theorem xcp (h:PE X e te):PO X (some e) (xvs te):=by
 intro pins s σ H Q I hw;rw[evalPart_some];refine thn (h pins s σ H _ I hw) fun u s1 ⟨x,H1,I1,r1,q1⟩=>?_;obtain⟨i,rfl,q⟩:=q1;obtain⟨t,rfl⟩:=r1;exact⟨some i,H1,I1,.int i t,q⟩
def SlR (X:Cx) (r:V->Option Int->Option Int->Hp->VK->Prop):Prop :=
 ∀(pins:List (Addr × Obj)) (s:Shared) (σ:St) (H:Hp) (x:V) (v vl vu:Value) (lo hi:Option Int) (sl:Addr) (Q:VK),Inv X pins σ H s->RelV x v->s.heap.IsSliceOf sl vl vu .none->IsPart vl lo->IsPart vu hi->r x lo hi H Q ->
  ∃ T id,typeLookup (.type T) "__getitem__"=pure (some (.builtin id))/\s.TypeIs v T/\wpAny (model X.prog X.w) X.A (getItem v (.ref sl)) (EP X pins σ Q) X.xe s
def tSl (r:V->Option Int->Option Int->Hp->VK->Prop) (te:TE) (tl th:TO):TE:=fun σ H Q=>te σ H fun x H1=>tl σ H1 fun l H2=>th σ H2 fun u H3=>r x l u H3 Q
theorem xct {r:V->Option Int->Option Int->Hp->VK->Prop} (hr:SlR X r) (he:PE X e te) (hl:PO X lo tl) (hu:PO X hi th):PE X (.Subscript e (.Slice lo hi none p2) pos) (tSl r te tl th):=by
 intro pins s σ H Q I h;refine Subscript_ (thn (he pins s σ H _ I h) fun v s1 ⟨x,H1,I1,r1,q1⟩=>?_);refine wpAny_Slice (thn (hl pins s1 σ H1 _ I1 q1) fun vl s2 ⟨l,H2,I2,pl,q2⟩=>thn (hu pins s2 σ H2 _ I2 q2) fun vu s3 ⟨u,H3,I3,pu,q3⟩=>?_);rw[evalPart_none];refine Zk ?_;have I4:Inv X pins σ H3 { s3 with heap:=s3.heap.push { cls:=.type "slice",data:=.fields #[vl,vu,.none] } }:=I3.kept (t':=s3.toks) fun b ob q=>Zg _ q;obtain⟨T,id,hT,ht,hg⟩:=hr pins { s3 with heap:=s3.heap.push { cls:=.type "slice",data:=.fields #[vl,vu,.none] } } σ H3 x v vl vu l u s3.heap.objs.size Q I4 r1 (Heap.IsSliceOf.new ..) pl pu q3;show wpAny (model X.prog X.w) X.A (subscriptTail e (.Slice lo hi none p2) v (.ref s3.heap.objs.size)) (EP X pins σ Q) X.xe { s3 with heap:=s3.heap.push { cls:=.type "slice",data:=.fields #[vl,vu,.none] } };exact tail_any (ops:=[.ref s3.heap.objs.size,v]) ht hT hg (by with_unfolding_all rfl)
def cutV (xs:List V) (lo hi:Option Int):List V:=(xs.drop (HT.sIx xs.length 0 lo)).take (HT.sIx xs.length xs.length hi-HT.sIx xs.length 0 lo)
theorem xgj (xs:List V) (lo hi:Option Int):(cutV xs lo hi).length<=xs.length:=by
 unfold cutV;rw[ZQ,JN];omega
def rSlT (K:Zd):V->Option Int->Option Int->Hp->VK->Prop:=fun x lo hi H Q=>∃ a xs,x=.ref a/\SqT K H a xs /\
 ¬ (HT.sIx xs.length 0 lo=0/\HT.sIx xs.length xs.length hi=xs.length)/\∀ p,H p=none->Q (.ref p) (upd H p (.tup (cutV xs lo hi)))
theorem xs1:SlR X (rSlT X.K):=by
 intro pins s σ H x v vl vu lo hi sl Q I rx hs pl pu h;obtain⟨a,xs,rfl,hx,hw,q⟩:=h;cases rx;obtain⟨its,r,ht,hz⟩:=I.tuple hx;have hlen:its.toArray.size=xs.length:=by rw[Z4]; exact r.length.symm
 refine⟨"tuple",_,YK.lookup,ht.typeIs,?_⟩;refine HT.getItem_tuple_cut ht hs pl pu (by rw[hlen]; exact hw) ?_ (by rw[hlen]; exact hz);rw[hlen];refine⟨.ref s.heap.objs.size,_,I.laid (t':=s.toks) (o:=.tup (cutV xs lo hi)) (fun b ob q=>Zg _ q) (Zi _) ?_,rfl,q _ (I.hok.fresh (Zi _))⟩;exact⟨Zs (xgj xs lo hi) hz,_,(r.drop (HT.sIx xs.length 0 lo)).take (HT.sIx xs.length xs.length hi-HT.sIx xs.length 0 lo),IsTup.new _ _⟩
def xm1 (K:Zd):R2:=fun x y H Q=>∃ a b xs ys,x=.ref a/\y=.ref b/\SqT K H a xs/\SqT K H b ys/\xs≠[]/\xs.length+ys.length<=sizeLine /\
 (ys=[]->Q (.ref a) H)/\(ys≠[]->∀ p,H p=none->Q (.ref p) (upd H p (.tup (xs++ys))))
theorem Vals.nil_iff {xs:List V}{us:List Value} (r:Vals xs us):us=[]↔xs=[]:=by
 cases r with
 | nil=>simp
 | cons _ _=>simp
theorem xlh:OpR X (binaryOp .Add) (xm1 X.K):=by
 intro pins s σ H x y v u Q I rx ry h;obtain⟨a,b,xs,ys,rfl,rfl,ha,hb,hx,hz,q1,q2⟩:=h;cases rx;cases ry;obtain⟨its,r1,p1,_⟩:=I.tuple ha;obtain⟨its2,r2,p2,_⟩:=I.tuple hb;refine HT.cat_tup p1 p2 (fun z=>hx (r1.nil_iff.mp z)) (fun z=>⟨.ref a,H,I,rfl,q1 (r2.nil_iff.mp z)⟩) (fun z=>?_) (by rw[<- r1.length,<- r2.length]; exact hz);refine⟨.ref s.heap.objs.size,_,I.laid (t':=s.toks) (o:=.tup (xs++ys)) (fun b ob q=>Zg _ q) (Zi _) ?_,rfl,q2 (fun w=>z (r2.nil_iff.mpr w)) _ (I.hok.fresh (Zi _))⟩;exact⟨by rw[Zp]; exact hz,_,r1.append r2,IsTup.new _ _⟩
end
def ixN (n:Nat) (i:Int):Option Nat:=if 0<=i then (if i<n then some i.toNat else none) else if -(n:Int)<=i then some (i+n).toNat else none
def atI {α:Type} (xs:List α) (i:Int):Option α:=(ixN xs.length i).bind fun j=>xs[j]?
theorem xsh {n:Nat}{i:Int}{j:Nat} (h:ixN n i=some j):seqIndex? i n=some j/\j<n/\-(n:Int)<=i/\i<n:=by
 unfold ixN at h;by_cases h0:0<=i
 .rw [if_pos h0] at h;by_cases h1:i<n
  .rw [if_pos h1] at h;have e:i.toNat=j:=JC.inj h;exact⟨by rw[seqIndex_of h0 h1,e],by omega,by omega,h1⟩
  .rw [if_neg h1] at h; cases h
 .rw [if_neg h0] at h;by_cases h1:-(n:Int)<=i
  .rw [if_pos h1] at h;have e:(i+n).toNat=j:=JC.inj h;exact⟨by rw[seqIndex_neg (by omega) h1,e],by omega,h1,by omega⟩
  .rw [if_neg h1] at h; cases h
theorem xie {α:Type}{xs:List α}{i:Int}{v:α} (h:atI xs i=some v):∃ j,seqIndex? i xs.length=some j/\xs[j]?=some v/\j<xs.length/\-(xs.length:Int)<=i/\i<xs.length:=by
 unfold atI at h;cases e:ixN xs.length i with
 | none=>rw[e] at h; cases h
 | some j =>
  rw[e] at h;obtain⟨h1,h2,h3,h4⟩:=xsh e;exact⟨j,h1,h,h2,h3,h4⟩
theorem xbt {α:Type}{xs:List α}{j:Nat}{v:α} (h:xs[j]?=some v):atI xs (j:Int)=some v:=by
 have hj:j<xs.length:=(Zj.mp h).1;have e:ixN xs.length (j:Int)=some j:=by
  unfold ixN;rw[if_pos (by omega),if_pos (by omega)]; simp
 unfold atI; rw[e]; exact h
def xsu (b:Expr):Prop:=∀ o i,subscripted b false o i=operate [o,i] (getItem o i)
def IxR (X:Cx) (r:R2):Prop :=
 ∀(value slice:Expr) (pins:List (Addr × Obj)) (s:Shared) (σ:St) (H:Hp) (x y:V) (v u:Value) (Q:VK),Inv X pins σ H s->RelV x v->RelV y u->r x y H Q ->
  subscripted slice false v u=operate [v,u] (getItem v u)->wpAny (model X.prog X.w) X.A (subscriptTail value slice v u) (EP X pins σ Q) X.xe s
def MtR (X:Cx) (id:String) (r:V->List V->Hp->VK->Prop):Prop :=
 ∀(pins:List (Addr × Obj)) (s:Shared) (σ:St) (H:Hp) (x:V) (xs:List V) (v:Value) (us:List Value) (Q:VK),Inv X pins σ H s->RelV x v->Vals xs us->r x xs H Q ->
  wpAny (model X.prog X.w) X.A (call (.builtin id) (v::us)) (EP X pins σ Q) X.xe s
section
variable {X:Cx}{a b:Expr}{ta tb:TE}{pos:Pos}
theorem xab {r:R2} (hr:IxR X r) (ha:PE X a ta) (hb:PE X b tb) (hs:xsu b):PE X (.Subscript a b pos) (tOp r ta tb):=by
 intro pins s σ H Q I h;exact Subscript_ (binT ha hb I h fun v u s2 x y H2 I2 rx ry q=>hr a b pins s2 σ H2 x y v u Q I2 rx ry q (hs _ _))
def rIxL (K:Zd):R2:=fun x y H Q=>∃ p xs i v,x=.ref p/\y=.int i/\SqL K H p xs/\atI xs i=some v/\Q v H
def rIxT (K:Zd):R2:=fun x y H Q=>∃ p xs i v,x=.ref p/\y=.int i/\SqT K H p xs/\atI xs i=some v/\Q v H
def rIxS:R2:=fun x y H Q=>∃ z i c,x=.str z/\y=.int i/\z.length<=sizeLine/\atI z.cps.toList i=some c/\Q (.str ⟨#[c]⟩) H
theorem xak:IxR X (rIxL X.K):=by
 intro value slice pins s σ H x y v u Q I rx ry h hs;obtain⟨p,xs,i,z,rfl,rfl,hq,he,q⟩:=h;cases rx;obtain⟨t,rfl⟩:=ry;obtain⟨its,r,pl,hz⟩:=I.list hq;obtain⟨j,h1,h2,h3,h4,h5⟩:=xie he;obtain⟨w,ew,rw'⟩:=r.get h2;have hl:=r.length;have hn:=xfu;have fin:EP X pins σ Q w s:=⟨z,H,I,rw',q⟩
 by_cases h0:0<=i
 .have hj:i.toNat=j:=by
   rw[seqIndex_of h0 h5] at h1;exact JC.inj h1
  exact item_listR pl.isList h0 (by omega) (by rw[hj]; simpa using ew) fin hs
 .have hj:(i+(its.toArray.size:Int)).toNat=j:=by
   rw[seqIndex_neg (by omega) h4] at h1;rw[Z4,<- hl];exact JC.inj h1
  exact subscriptTail_builtinR (x:=w) pl.isList.typeIs slot_list_getitem.lookup
   (wpAny_getItem_list_neg (Q:=fun r s'=>r=w/\EP X pins σ Q r s') pl.isList (by omega) (by rw[Z4]<;>omega) (by omega) (by rw[hj]; simpa using ew) ⟨rfl,fin⟩) hs
theorem xbq:IxR X (rIxT X.K):=by
 intro value slice pins s σ H x y v u Q I rx ry h hs;obtain⟨p,xs,i,z,rfl,rfl,hq,he,q⟩:=h;cases rx;obtain⟨t,rfl⟩:=ry;obtain⟨its,r,pl,hz⟩:=I.tuple hq;obtain⟨j,h1,h2,h3,h4,h5⟩:=xie he;obtain⟨w,ew,rw'⟩:=r.get h2;have hl:=r.length;have hn:=xfu;have fin:EP X pins σ Q w s:=⟨z,H,I,rw',q⟩
 exact subscriptTail_builtinR (x:=w) pl.typeIs slot_tuple_getitem.lookup
  (getItem_tuple (j:=j) (Q:=fun r s'=>r=w/\EP X pins σ Q r s') pl (by omega) (by omega) (by rw[Z4,<- hl]; exact h1) (by simpa using ew) ⟨rfl,fin⟩) hs
theorem xfx:IxR X rIxS:=by
 intro value slice pins s σ H x y v u Q I rx ry h hs;obtain⟨z,i,c,rfl,rfl,hz,he,q⟩:=h;obtain⟨t,rfl⟩:=rx;obtain⟨t',rfl⟩:=ry;obtain⟨j,h1,h2,h3,h4,h5⟩:=xie he;have hl:z.cps.toList.length=z.length:=by simp[YS]
 rw[hl] at h1 h4 h5;have hn:=xfu;exact tail_any (typeIs_str s z t) slot_str_getitem.lookup (getItem_str (c:=c) (by
  have e1:decide (i < -(2 ^ 63:Int))=false:=decide_eq_false (by omega);have e2:decide (i>=2 ^ 63)=false:=decide_eq_false (by omega);rw[e1,e2,Y2]) (by rw[h1]; simpa using h2) ⟨.str ⟨#[c]⟩,H,I.tok _,⟨_,rfl⟩,q⟩) hs
theorem Inv.lst {pins:List (Addr × Obj)}{σ:St}{H:Hp}{s:Shared}{p:Addr}{xs:List V} (I:Inv X pins σ H s) (h:H p=some (.lst xs)) :
    ∃(its:List Value) (n:Nat),Vals xs its/\s.heap.get? p=some { cls:=.type "list",data:=.seq its.toArray n }/\xs.length<=sizeLine:=by
  obtain⟨z,its,n,r,e⟩:=I.hok p _ h;exact⟨its,n,r,e,z⟩
theorem xj1 (lo hi:Option Int) (n:Nat):(sliceBounds lo hi none n).1=((HT.sIx n 0 lo:Nat):Int)/\(sliceBounds lo hi none n).2.1=((HT.sIx n n hi:Nat):Int)/\(sliceBounds lo hi none n).2.2=1:=by
 refine⟨?_,?_,rfl⟩
 .cases lo with
  | none=>simp[sliceBounds,HT.sIx]
  | some i =>
   simp only[sliceBounds,HT.sIx,Option.getD_none,show (1:Int)>0 by decide,if_true];by_cases h:i<0
   .simp only [h,if_true]<;>omega
   .simp only [h,if_false]<;>omega
 .cases hi with
  | none=>simp[sliceBounds,HT.sIx]
  | some i =>
   simp only[sliceBounds,HT.sIx,Option.getD_none,show (1:Int)>0 by decide,if_true];by_cases h:i<0
   .simp only [h,if_true]<;>omega
   .simp only [h,if_false]<;>omega
theorem xjd (its:List Value) (lo hi:Option Int):slicePick its.toArray lo hi none=((its.drop (HT.sIx its.length 0 lo)).take (HT.sIx its.length its.length hi-HT.sIx its.length 0 lo)).toArray:=by
 obtain⟨h1,h2,h3⟩:=xj1 lo hi its.toArray.size;unfold slicePick;rw[h1,h2,h3];simp only[sliceRange_one,pick_run,Z4]<;>rfl
def rSlL (K:Zd):V->Option Int->Option Int->Hp->VK->Prop:=fun x lo hi H Q=>∃ a xs,x=.ref a/\SqL K H a xs/\∀ p,H p=none->Q (.ref p) (upd H p (.lst (cutV xs lo hi)))
theorem xf9:SlR X (rSlL X.K):=by
 intro pins s σ H x v vl vu lo hi sl Q I rx hs pl pu h;obtain⟨a,xs,rfl,hx,q⟩:=h;cases rx;obtain⟨its,r,ht,hz⟩:=I.list hx;have hlen:=r.length;refine⟨"list",_,slot_list_getitem.lookup,ht.isList.typeIs,?_⟩;refine wpAny_getItem_list_slice ht.isList hs pl pu .none (by simp) ?_ (by rw[Z4]<;>omega);rw[xjd,<- hlen];refine⟨.ref s.heap.objs.size,_,I.laid (t':=s.toks) (o:=.lst (cutV xs lo hi)) (fun b ob q=>Zg _ q) (Zi _) ?_,rfl,q _ (I.hok.fresh (Zi _))⟩;exact⟨Zs (xgj xs lo hi) hz,_,0,(r.drop (HT.sIx xs.length 0 lo)).take (HT.sIx xs.length xs.length hi-HT.sIx xs.length 0 lo),Zx _ rfl⟩
def xej:V->Bool
 | .non=>true
 | .bl _=>true
 | .int _=>true
 | .str _=>true
 | _=>false
def eqV:V->V->Bool
 | .non,.non=>true
 | .bl a,.bl b=>a == b
 | .bl a,.int b=>(if a then 1 else 0) == b
 | .int a,.bl b=>a == (if b then 1 else 0)
 | .int a,.int b=>a == b
 | .str a,.str b=>a == b
 | _,_=>false
theorem xta {A:Around}{s:Shared}{y x:V}{u v:Value} (ry:RelV y u) (rx:RelV x v) (fy:xej y=true) (fx:xej x=true):Zu A s u v (eqV y x):=by
 cases y with
 | non =>
  cases ry;cases x with
  | non=>cases rx; exact Zu.same _
  | bl b=>cases rx; exact Zu.none_bool b
  | int b=>obtain⟨t,rfl⟩:=rx; exact Zu.none_int b t
  | str b=>obtain⟨t,rfl⟩:=rx; exact Zu.none_str b t
  | _=>exact absurd (show false=true from fx) ZA
 | bl a =>
  cases ry;cases x with
  | non=>cases rx; exact Zu.bool_none a
  | bl b=>cases rx; exact Zu.bool_bool a b
  | int b=>obtain⟨t,rfl⟩:=rx; exact Zu.bool_int a b t
  | str b=>obtain⟨t,rfl⟩:=rx; exact Zu.bool_str a b t
  | _=>exact absurd (show false=true from fx) ZA
 | int a =>
  obtain⟨t',rfl⟩:=ry;cases x with
  | non=>cases rx; exact Zu.int_none a t'
  | bl b=>cases rx; exact Zu.int_bool a t' b
  | int b=>obtain⟨t,rfl⟩:=rx; exact Zu.int_int a t' b t
  | str b=>obtain⟨t,rfl⟩:=rx; exact Zu.int_str a t' b t
  | _=>exact absurd (show false=true from fx) ZA
 | str a =>
  obtain⟨t',rfl⟩:=ry;cases x with
  | non=>cases rx; exact Zu.str_none a t'
  | bl b=>cases rx; exact Zu.str_bool a t' b
  | int b=>obtain⟨t,rfl⟩:=rx; exact Zu.str_int a t' b t
  | str b=>obtain⟨t,rfl⟩:=rx; exact Zu.str_str a t' b t
  | _=>exact absurd (show false=true from fx) ZA
 | _=>exact absurd (show false=true from fy) ZA
def eqU (x:V) (u:Value):Bool:=match u with
 | .none=>eqV .non x
 | .bool b=>eqV (.bl b) x
 | .int i _=>eqV (.int i) x
 | .str z _=>eqV (.str z) x
 | _=>false
theorem xok {x y:V}{u:Value} (r:RelV y u) (f:xej y=true):eqU x u=eqV y x:=by
 cases y with
 | non=>cases r; rfl
 | bl b=>cases r; rfl
 | int i=>obtain⟨t,rfl⟩:=r; rfl
 | str z=>obtain⟨t,rfl⟩:=r; rfl
 | _=>exact absurd (show false=true from f) ZA
theorem xh4 {x:V}:∀{xs:List V}{us:List Value},Vals xs us->xs.all xej=true->us.any (eqU x)=xs.any fun y=>eqV y x
 | _,_,.nil,_=>rfl
 | y::xs,u::us,.cons r t,f=>by
  rw[Qv,Zr] at f;rw[JV,JV,xok r f.1,xh4 t f.2]
theorem xg3 {A:Around}{s:Shared}{x:V}{v:Value} (rx:RelV x v) (fx:xej x=true):∀{xs:List V}{us:List Value},Vals xs us->xs.all xej=true->∀ u∈us,Zu A s u v (eqU x u)
 | _,_,.nil,_=>fun u hu=>by cases hu
 | y::xs,u::us,.cons r t,f=>fun u' hu=>by
  rw[Qv,Zr] at f;rcases Z1.mp hu with rfl|hu
  .rw [xok r f.1]; exact xta r rx f.1 fx
  .exact xg3 rx fx t f.2 u' hu
def inV (x:V) (xs:List V):Bool:=xs.any fun y=>eqV y x
def rIn (K:Zd) (neg:Bool):R2:=fun x y H Q=>∃ p xs,y=.ref p/\(SqL K H p xs\/SqT K H p xs)/\xej x=true/\xs.all xej=true/\Q (.bl (if neg then !inV x xs else inV x xs)) H
theorem xfr:OpR X (compareOp .In) (rIn X.K false):=by
 intro pins s σ H x y v u Q I rx ry h;obtain⟨p,xs,rfl,hq,fx,fs,q⟩:=h;cases ry;rcases hq with hq|hq
 .obtain ⟨its,r,pl,hz⟩:=I.list hq;refine SeqAt.in_listAt (eqU x) pl.isList (fun w hw=>xg3 rx fx r fs w (by simpa using hw)) ⟨.bl _,H,I,rfl,?_⟩;rw[show its.toArray.any (eqU x)=its.any (eqU x) by simp,xh4 r fs];exact q
 .obtain ⟨its,r,pl,hz⟩:=I.tuple hq;refine SeqAt.in_tupleAt (eqU x) pl (fun w hw=>xg3 rx fx r fs w (by simpa using hw)) ⟨.bl _,H,I,rfl,?_⟩;rw[show its.toArray.any (eqU x)=its.any (eqU x) by simp,xh4 r fs];exact q
theorem xbf:xb1 X (.builtin "len") (fun xs H Q=>∃ p ys,xs=[.ref p]/\(SqL X.K H p ys\/SqT X.K H p ys)/\Q (.int ys.length) H):=by
 intro pins s σ H xs us Q I r h;obtain⟨p,ys,rfl,hq,q⟩:=h;obtain⟨u,rfl,rx⟩:=xbx r;cases rx;have hn:=xfu;rcases hq with hq|hq
 .obtain ⟨its,r',pl,hz⟩:=I.list hq;have hlen:=r'.length;exact Calls.call_len_list pl.isList (by simp only[Z4]<;>omega) ⟨.int ys.length,H,I.tok _,⟨s.toks+1,by rw[Z4,hlen]⟩,q⟩
 .obtain ⟨its,r',pl,hz⟩:=I.tuple hq;have hlen:=r'.length;exact len_tuple pl (by simp only[Z4]<;>omega) ⟨.int ys.length,H,I.tok _,⟨s.toks+1,by rw[Z4,hlen]⟩,q⟩
theorem xba:xb1 X (.builtin "len") (fun xs H Q=>∃ z,xs=[.str z]/\z.length<=sizeLine/\Q (.int z.length) H):=by
 intro pins s σ H xs us Q I r h;obtain⟨z,rfl,hz,q⟩:=h;obtain⟨u,rfl,t,rfl⟩:=xbx r;have hn:=xfu;exact len_str (by omega) ⟨.int z.length,H,I.tok _,⟨_,rfl⟩,q⟩
theorem xd9:xb1 X (.type "list") (fun xs H Q=>∃ p ys,xs=[.ref p]/\(SqL X.K H p ys\/SqT X.K H p ys)/\∀ l,H l=none->Q (.ref l) (upd H l (.lst ys))):=by
  intro pins s σ H xs us Q I r h;obtain⟨p,ys,rfl,hq,q⟩:=h;obtain⟨u,rfl,rx⟩:=xbx r;cases rx;have fin:∀(its:List Value),Vals ys its->ys.length<=sizeLine->∀(h':Heap) (c':Nat),(∀ b o',s.heap.get? b=some o'->h'.get? b=some o') ->
      h'.get? s.heap.objs.size=some { cls:=.type "list",dict:=none,data:=.seq its.toArray c',slots:=#[] }->EP X pins σ Q (.ref s.heap.objs.size) { s with heap:=h' }:=fun its r' hz h' c' kp e =>
    ⟨.ref s.heap.objs.size,_,I.laid (t':=s.toks) kp (Zi _) (show xao X.prog X.w _ h' _ (.lst ys) from ⟨hz,its,c',r',e⟩),rfl,q _ (I.hok.fresh (Zi _))⟩
  rcases hq with hq|hq
  . obtain⟨its,r',pl,hz⟩:=I.list hq
    have hlen:=r'.length;obtain⟨o,ho,hc,n,hd⟩:=pl.isList;exact call_list_seq p (.inl rfl) ho hc hd (fun h' c' kp e=>fin its r' hz h' c' kp e) (by simp only[Z4]<;>omega)
  . obtain⟨its,r',pl,hz⟩:=I.tuple hq
    have hlen:=r'.length;obtain⟨o,ho,hc,n,hd⟩:=pl;exact call_list_seq p (.inr rfl) ho hc hd (fun h' c' kp e=>fin its r' hz h' c' kp e) (by simp only[Z4]<;>omega)
def tyV (K:Zd) (T:String) (x:V) (H:Hp):Prop:=match x with
  | .str _=>T="str"
  | .int _=>T="int"
  | .ref p=>(T="list"/\∃ xs,SqL K H p xs)\/(T="tuple"/\∃ o,K.lookup p=some o/\o.cls=.type "tuple"/\o.dict=none) \/
      (T="dict"/\((∃ kvs,H p=some (.dK kvs))\/∃ kvs,H p=some (.dT kvs)))\/(T="set"/\∃ S n,H p=some (.set S n))
  | _=>False
theorem xon {pins:List (Addr × Obj)}{σ:St}{H:Hp}{s:Shared}{T:String}{x:V}{v:Value} (I:Inv X pins σ H s) (r:RelV x v) (ty:tyV X.K T x H) :
    s.TypeIs v T/\∀ a,v=.ref a->∃ ob,s.heap.get? a=some ob/\ob.dict=none:=by
  cases x with
  | str z =>
    obtain⟨t,rfl⟩:=r;cases (show T="str" from ty);exact⟨typeIs_str s z t,fun _ e=>nomatch e⟩
  | int i =>
    obtain⟨t,rfl⟩:=r;cases (show T="int" from ty);exact⟨typeIs_int s i t,fun _ e=>nomatch e⟩
  | ref p =>
    cases r;rcases ty with⟨rfl,xs,hq⟩|⟨rfl,o,hk,hc,hd⟩|⟨rfl,hk⟩|⟨rfl,S,n,hk⟩
    . obtain⟨its,_,pl,_⟩:=I.list hq
      refine⟨pl.isList.typeIs,fun a e=>?_⟩;cases e;obtain⟨o,n,e,c,hd,_⟩:=pl;exact⟨o,e,hd⟩
    . refine⟨⟨o,I.kIn p o hk,hc⟩,fun a e=>?_⟩
      cases e;exact⟨o,I.kIn _ o hk,hd⟩
    . have z:∃ o,s.heap.get? p=some o/\o.ExactDict:=by
        rcases hk with⟨kvs,hk⟩|⟨kvs,hk⟩
        . obtain⟨_,_,_,_,o,_,_,e,ex,_⟩:=I.hok p _ hk
          exact⟨o,e,ex⟩
        . obtain⟨_,_,_,_,o,_,_,e,ex,_⟩:=I.hok p _ hk
          exact⟨o,e,ex⟩
      obtain⟨o,e,ex⟩:=z;refine⟨⟨o,e,ex.1⟩,fun a e2=>?_⟩;cases e2;exact⟨o,e,ex.2.1⟩
    . obtain⟨o,_,_,_,e,ex,_⟩:=I.hok p _ hk
      refine⟨⟨o,e,ex.1⟩,fun a e2=>?_⟩;cases e2;exact⟨o,e,ex.2.1⟩
  | _=>exact Jz ty
def tBM0 (K:Zd) (T:String) (r:V->List V->Hp->VK->Prop) (to:TE):TE:=fun σ H Q=>to σ H fun x H1=>tyV K T x H1/\r x [] H1 Q
def tBM (K:Zd) (T:String) (r:V->List V->Hp->VK->Prop) (to:TE) (t:TA):TE:=fun σ H Q=>to σ H fun x H1=>tyV K T x H1/\t σ H1 fun xs H2=>r x xs H2 Q
variable {o e:Expr}{es:List Expr}{to:TE}{t:TA}{name:Str}{apos cpos:Pos}{T id:String}{r:V->List V->Hp->VK->Prop}
theorem xug (pa:PlainAttrs T) (slot:Slot T name id) (hty:typeOf (.builtin id)=pure (.type "method_descriptor")) (hm:MtR X id r) (ho:PE X o to)
    (hbase:attributeBase o name X.env (eval o X.env)=eval o X.env:=by rfl) (hline:(apos.endLine == cpos.line)=true:=by rfl):PE X (.Call (.Attribute o name apos) [] [] cpos) (tBM0 X.K T r to):=by
  intro pins s σ H Q I h;refine wpAny_Call_method0_late hbase hline (thn (ho pins s σ H _ I h) fun v s1 ⟨x,H1,I1,r1,ty,q1⟩=>?_);obtain⟨h1,h2⟩:=xon I1 r1 ty;exact⟨T,id,pa,slot,hty,h1,h2,YJ rfl (PySem.evalArgs_none (hm pins s1 σ H1 x [] v [] Q I1 r1 .nil q1))⟩
theorem xco (pa:PlainAttrs T) (slot:Slot T name id) (hty:typeOf (.builtin id)=pure (.type "method_descriptor")) (hm:MtR X id r) (ho:PE X o to) (ha:PA X (e::es) t)
    (hbase:attributeBase o name X.env (eval o X.env)=eval o X.env:=by rfl)
    (hfew:((backTo cpos (starEach (e::es) X.env)).all (fun x=>!x.1)&&(backToKw cpos (keywordEach [] X.env)).all (fun x=>x.1.isSome)
      && decide ((e::es).length+([]:List Keyword).length+(if ([]:List Keyword).isEmpty then 0 else 1)<30))=true:=by rfl)
    (hline:(apos.endLine == cpos.line)=true:=by rfl) (hs:starEach (e::es) X.env=(false,eval e X.env)::starEach es X.env:=by rfl) (hplain:(backTo cpos (starEach es X.env)).any (·.1)=false:=by rfl) :
    PE X (.Call (.Attribute o name apos) (e::es) [] cpos) (tBM X.K T r to t):=by
  intro pins s σ H Q I h;refine wpAny_Call_method_late hbase hfew hline rfl (thn (ho pins s σ H _ I h) fun v s1 ⟨x,H1,I1,r1,ty,q1⟩=>?_);obtain⟨h1,h2⟩:=xon I1 r1 ty;refine⟨T,id,pa,slot,hty,h1,h2,?_⟩;have hA:=ha cpos pins s1 σ H1 _ I1 q1;rw[hs] at hA ⊢;refine YJ (by show (false||(backTo cpos (starEach es X.env)).any (·.1))=false; rw[hplain]<;>rfl) (Calls.evalArgs_plain ?_);exact thn hA fun us s2 ⟨vs,H2,I2,r2,q2⟩=>hm pins s2 σ H2 x vs v us Q I2 r1 r2 q2
end
def MtM (X:Cx) (id:String) (r:V->List V->Hp->VK->Prop):Prop :=
 ∀(pins:List (Addr × Obj)) (s:Shared) (σ:St) (H:Hp) (x:V) (xs:List V) (v:Value) (us:List Value) (Q:VK),Inv X pins σ H s->RelV x v->Vals xs us->r x xs H Q ->
  wpAny (model X.prog X.w) X.A (call (.builtin id) (v::us)) (EP X pins σ Q) X.xe s
theorem Vals.one:∀{x:V}{us:List Value},Vals [x] us->∃ u,us=[u]/\RelV x u
 | _,_,.cons r .nil=>⟨_,rfl,r⟩
theorem Vals.eraseIdx:∀{xs:List V}{us:List Value} (i:Nat),Vals xs us->Vals (xs.eraseIdx i) (us.eraseIdx i)
 | _,_,_,.nil=>.nil
 | _,_,0,.cons _ t=>t
 | _,_,i+1,.cons r t=>.cons r (Vals.eraseIdx i t)
theorem xin {α:Type}:∀(l:List α) (i:Nat),(l.eraseIdx i).length<=l.length
 | [],_=>Zi _
 | _::_,0=>QW _
 | _::r,i+1=>Nat.succ_le_succ (xin r i)
section
variable {X:Cx}{pins:List (Addr × Obj)}{σ:St}{H:Hp}{s:Shared}{l b:Addr}{xs ys zs:List V}
theorem Inv.lset {its its':List Value}{n:Nat}{f:Array Value->Array Value}{t':Nat} (I:Inv X pins σ H s) (hH:H l=some (.lst xs))
    (e:s.heap.get? l=some { cls:=.type "list",data:=.seq its.toArray n }) (hf:f its.toArray=its'.toArray) (hv:Vals ys its') (hz:ys.length<=sizeLine) :
    Inv X pins σ (upd H l (.lst ys)) { s with heap:=s.heap.update l (JO f),toks:=t' }:=by
  have q:=PySem.IsL.update e f;rw[hf] at q;refine I.write (x:=l) (e:=l) (by rw[hH]; exact trivial) (.inl rfl) (fun b' u hb hu=>(Jl s.heap (JO f) (ZF hb)).trans hu) ⟨_,q⟩ ?_;exact⟨hz,its',_,hv,q⟩
theorem Inv.lnew {its:List Value}{t':Nat} (I:Inv X pins σ H s) (hv:Vals ys its) (hz:ys.length<=sizeLine) :
    Inv X pins σ (upd H s.heap.objs.size (.lst ys)) { s with heap:=s.heap.push { cls:=.type "list",data:=.seq its.toArray },toks:=t' } :=
  I.laid (fun _ _ q=>Zg _ q) (Zi _) ⟨hz,its,0,hv,Zx _ rfl⟩
theorem Inv.fresh (I:Inv X pins σ H s):H s.heap.objs.size=none:=I.hok.fresh (Zi _)
theorem Inv.lstM (I:Inv X pins σ H s) (hH:H l=some (.lst xs)):xs.length<=sizeLine/\∃(its:List Value) (n:Nat),Vals xs its/\xs.length=its.length/\s.heap.get? l=some { cls:=.type "list",data:=.seq its.toArray n }:=by
 obtain⟨z,its,n,r,e⟩:=I.hok l _ hH;exact⟨z,its,n,r,r.length,e⟩
theorem xqr {n:Nat} (h:n<=sizeLine):Builtin.List.listTooLong n=false:=by
 unfold Builtin.List.listTooLong;exact decide_eq_false (by omega)
end
section
variable {X:Cx}
def xrf:V->List V->Hp->VK->Prop:=fun x vs H Q=>∃ l xs y,x=.ref l/\vs=[y]/\H l=some (.lst xs)/\xs.length<sizeLine/\Q .non (upd H l (.lst (xs++[y])))
theorem xc0:MtM X "list.append" xrf:=by
 intro pins s σ H x vs v us Q I rx rv h;obtain⟨l,xs,y,rfl,rfl,hH,hz,q⟩:=h;cases rx;obtain⟨u,rfl,ru⟩:=rv.one;obtain⟨z,its,n,r,hl,e⟩:=I.lstM hH;refine Wq F.slot_list_append ⟨_,e,rfl⟩ F.entry_list_append (F.args_list_append_2 _ _) (PySem.list_append l its.toArray n u (by rw[Z4]; omega)) ⟨e,?_⟩;refine⟨.non,_,I.lset (its':=its++[u]) hH e (by simp) (r.append (.cons ru .nil)) ?_,rfl,q⟩;rw[Zp,ZZ];omega
def xsk:V->List V->Hp->VK->Prop:=fun x vs H Q=>∃ l b xs zs,x=.ref l/\vs=[.ref b]/\H l=some (.lst xs)/\H b=some (.lst zs)/\xs.length+zs.length<=sizeLine/\Q .non (upd H l (.lst (xs++zs)))
theorem xoj:MtM X "list.extend" xsk:=by
 intro pins s σ H x vs v us Q I rx rv h;obtain⟨l,b,xs,zs,rfl,rfl,hH,hB,hz,q⟩:=h;cases rx;obtain⟨u,rfl,ru⟩:=rv.one;cases ru;obtain⟨z,its,n,r,hl,e⟩:=I.lstM hH;obtain⟨z2,its2,n2,r2,hl2,e2⟩:=I.lstM hB;have hsz:its.toArray.size+its2.toArray.size<=sizeLine:=by rw[Z4,Z4]; omega
 have hlong:¬ (!its.toArray.isEmpty&&Builtin.List.listTooLong (its.toArray.size+its2.toArray.size))=true:=by
  rw[xqr hsz,Qh];exact ZA
 refine Wq F.slot_list_extend ⟨_,e,rfl⟩ F.entry_list_extend (F.args_list_extend_2 _ _)
  (AutoSeq1.list_extend_list_list_0 l its.toArray n b its2.toArray n2 hlong (by rw[Z4]; omega) (by omega)) ⟨e,e2,?_⟩
 refine⟨.non,_,I.lset (its':=its++its2) hH e (by simp) (r.append r2) ?_,rfl,q⟩;rw[Zp];omega
def xt6:V->List V->Hp->VK->Prop:=fun x vs H Q=>∃ l xs i k y,x=.ref l/\vs=[.int i]/\H l=some (.lst xs)/\-(2 ^ 63)<=i/\i<2 ^ 63/\seqIndex? i xs.length=some k/\xs[k]?=some y/\Q y (upd H l (.lst (xs.eraseIdx k)))
theorem xfb:MtM X "list.pop" xt6:=by
 intro pins s σ H x vs v us Q I rx rv h;obtain⟨l,xs,i,k,y,rfl,rfl,hH,h1,h2,hk,hy,q⟩:=h;cases rx;obtain⟨u,rfl,ru⟩:=rv.one;obtain⟨t,rfl⟩:=ru;obtain⟨z,its,n,r,hl,e⟩:=I.lstM hH;obtain⟨w,hw,rw'⟩:=r.get hy;refine Wq F.slot_list_pop ⟨_,e,rfl⟩ F.entry_list_pop (F.args_list_pop_2 _ _)
  (MeetsSeq.list_pop_at l its.toArray n i t k w (fitsIndex_both h1 h2) (by rw[Z4,<- hl]; exact hk) (by rw[<- Ju]; exact hw) (by rw[Z4]; omega)) ⟨e,?_⟩
 refine⟨y,_,I.lset (its':=its.eraseIdx k) hH e ?_ (r.eraseIdx k) ?_,rw',q⟩
 .show its.toArray.eraseIdxIfInBounds k=(its.eraseIdx k).toArray;rw[List.eraseIdxIfInBounds_toArray]
 .have:=xin xs k;omega
def rCat:R2:=fun x y H Q=>∃ l b xs zs,x=.ref l/\y=.ref b/\H l=some (.lst xs)/\H b=some (.lst zs)/\xs.length+zs.length<=sizeLine/\∀ p,H p=none->Q (.ref p) (upd H p (.lst (xs++zs)))
theorem xhj:OpR X (binaryOp .Add) rCat:=by
 intro pins s σ H x y v u Q I rx ry h;obtain⟨l,b,xs,zs,rfl,rfl,hH,hB,hz,q⟩:=h;cases rx;cases ry;obtain⟨z,its,n,r,hl,e⟩:=I.lstM hH;obtain⟨z2,its2,n2,r2,hl2,e2⟩:=I.lstM hB;refine PySem.P.add_list e e2 ?_ (by rw[Z4,Z4]; omega);have ea:its.toArray++its2.toArray=(its++its2).toArray:=by simp
 rw[ea];exact⟨.ref _,_,I.lnew (t':=s.toks) (r.append r2) (by rw[Zp]; omega),rfl,q _ I.fresh⟩
end
section
variable {κ:Type} [DecidableEq κ]
def valV (kvs:List (κ × V)) (k:κ):Option V:=(kvs.find? fun kv=>decide (kv.1=k)).map (·.2)
def putK (kvs:List (κ × V)) (k:κ) (v:V):List (κ × V) :=
 if (kvs.any fun kv=>decide (kv.1=k))=true then kvs.map (fun kv=>if kv.1=k then (kv.1,v) else kv) else kvs++[(k,v)]
theorem xa1 {p:κ × V}{r:List (κ × V)}{k:κ} (e:p.1=k):valV (p::r) k=some p.2:=by simp[valV,Yg,e]
theorem xay {p:κ × V}{r:List (κ × V)}{k:κ} (e:¬ p.1=k):valV (p::r) k=valV r k:=by simp[valV,Yg,e]
theorem xdg (k:κ):∀ kvs:List (κ × V),(kvs.any fun kv=>decide (kv.1=k))=(valV kvs k).isSome
 | []=>rfl
 | p::r=>by
  rw[JV];by_cases e:p.1=k
  .simp only [xa1 e,decide_eq_true e,Bool.true_or,Option.isSome_some]
  .rw [xay e,decide_eq_false e,Qw]; exact xdg k r
theorem xkd (k j:κ) (y:V):∀ kvs:List (κ × V),valV (kvs.map fun kv=>if kv.1=k then (kv.1,y) else kv) j=(valV kvs j).map fun x=>if j=k then y else x
 | []=>rfl
 | p::r=>by
  have ih:=xkd k j y r;rw[Z2];by_cases h:p.1=k
  .rw [if_pos h];by_cases e:p.1=j
   .rw [xa1 (p:=(p.1,y)) e,xa1 e,Y5,if_pos (e.symm.trans h)]
   .rw [xay (p:=(p.1,y)) e,xay e,ih]
  .rw [if_neg h];by_cases e:p.1=j
   .rw [xa1 (p:=p) e,xa1 e,Y5,if_neg (fun z=>h (e.trans z))]
   .rw [xay (p:=p) e,xay e,ih]
theorem xij (k j:κ) (y:V):∀ kvs:List (κ × V),valV kvs k=none->valV (kvs++[(k,y)]) j=if j=k then some y else valV kvs j
 | [],_=>by
  by_cases e:k=j
  .rw [if_pos e.symm]; exact xa1 (p:=(k,y)) e
  .rw [if_neg (fun z=>e z.symm)]; exact xay (p:=(k,y)) e
 | p::r,hn=>by
  rw[List.cons_append];have hk:¬ p.1=k:=fun z=>by rw[xa1 z] at hn; cases hn
  rw[xay hk] at hn;have ih:=xij k j y r hn;by_cases e:p.1=j
  .rw [xa1 e,xa1 e,if_neg (fun z=>hk (e.trans z))]
  .rw [xay e,xay e,ih]
theorem xjz (kvs:List (κ × V)) (k j:κ) (y:V):valV (putK kvs k y) j=if j=k then some y else valV kvs j:=by
 unfold putK;by_cases a:(kvs.any fun kv=>decide (kv.1=k))=true
 .rw [if_pos a,xkd];rw[xdg] at a;by_cases e:j=k
  .obtain ⟨x,hx⟩:=Option.isSome_iff_exists.mp a;rw[if_pos e,e,hx,Y5,if_pos rfl]
  .rw [if_neg e];cases valV kvs j with
   | none=>rfl
   | some x=>rw[Y5,if_neg e]
 .rw [if_neg a];refine xij k j y kvs ?_;rw[xdg] at a;cases q:valV kvs k with
  | none=>rfl
  | some x=>rw[q] at a; exact (a rfl).elim
theorem xb7 (kvs:List (κ × V)) (k:κ) (v:V):(putK kvs k v).length<=kvs.length+1:=by
 unfold putK;split
 .rw [Za]; omega
 .rw [Zp,ZL,QL]; omega
theorem xdc {kvs:List (κ × V)}{k:κ} (v:V) (h:valV kvs k=none):putK kvs k v=kvs++[(k,v)]:=by
 unfold putK;rw[xdg,h];exact if_neg (by decide)
theorem RelO.isSome_eq {o:Option V}{u:Option Value} (r:RelO o u):o.isSome=u.isSome:=by
 cases o with
 | none=>cases u with
  | none=>rfl
  | some _=>exact (show False from r).elim
 | some _=>cases u with
  | none=>exact (show False from r).elim
  | some _=>rfl
theorem RelO.getD {o:Option V}{u:Option Value}{d:V}{d':Value} (r:RelO o u) (rd:RelV d d'):RelV (o.getD d) (u.getD d'):=by
 cases o with
 | none=>cases u with
  | none=>exact rd
  | some _=>exact (show False from r).elim
 | some _=>cases u with
  | none=>exact (show False from r).elim
  | some _=>exact r
theorem KV.val {kvs:List (κ × V)}{vs:List (κ × Value)} (r:KV kvs vs) (k:κ):RelO (valV kvs k) (valueAt vs k):=by
 unfold KV at r
 induction r with
 | nil=>exact Jv
 | @cons p q ps qs h t ih =>
  obtain⟨h1,h2⟩:=h;by_cases e:p.1=k
  .have e':q.1=k:=h1.symm.trans e;have b:valueAt (q::qs) k=some q.2:=by simp[valueAt,Yg,e']
   rw[xa1 e,b]; exact h2
  .have e':¬ q.1=k:=fun z=>e (h1.trans z);have b:valueAt (q::qs) k=valueAt qs k:=by simp[valueAt,Yg,e']
   rw[xay e,b]; exact ih
theorem KV.any {kvs:List (κ × V)}{vs:List (κ × Value)} (r:KV kvs vs) (k:κ):(kvs.any fun kv=>decide (kv.1=k))=vs.any fun kv=>decide (kv.1=k):=by
 unfold KV at r
 induction r with
 | nil=>rfl
 | cons h t ih=>rw[JV,JV,ih,h.1]
theorem KV.repl {kvs:List (κ × V)}{vs:List (κ × Value)} (r:KV kvs vs) (k:κ) {y:V}{u:Value} (ry:RelV y u) :
    KV (kvs.map fun kv=>if kv.1=k then (kv.1,y) else kv) (vs.map fun kv=>if kv.1=k then (kv.1,u) else kv):=by
  unfold KV at r ⊢
  induction r with
  | nil=>exact .nil
  | @cons p q ps qs h t ih =>
    rw[Z2,Z2];refine .cons ?_ ih;obtain⟨h1,h2⟩:=h;by_cases e:p.1=k
    . rw[if_pos e,if_pos (h1.symm.trans e)]; exact⟨h1,ry⟩
    . rw[if_neg e,if_neg (fun z=>e (h1.trans z))]; exact⟨h1,h2⟩
theorem KV.put {kvs:List (κ × V)}{vs:List (κ × Value)} (r:KV kvs vs) (k:κ) {y:V}{u:Value} (ry:RelV y u):KV (putK kvs k y) (stored vs k u):=by
 unfold putK stored;rw[r.any k];by_cases e:(vs.any fun kv=>decide (kv.1=k))=true
 .rw [if_pos e,if_pos e]; exact r.repl k ry
 .rw [if_neg e,if_neg e]; exact Paired.snoc r ⟨rfl,ry⟩
theorem KV.keys {kvs:List (κ × V)}{vs:List (κ × Value)} (r:KV kvs vs):kvs.map (·.1)=vs.map (·.1):=by
 unfold KV at r
 induction r with
 | nil=>rfl
 | cons h t ih=>rw[Z2,Z2,ih,h.1]
theorem KV.length {kvs:List (κ × V)}{vs:List (κ × Value)} (r:KV kvs vs):kvs.length=vs.length:=Yi r
end
theorem xdn {P:Program}{w:World}{k:Key}{u:Value} (r:RelV (kV k) u):(xal P w).is k u=true:=by
 cases k with
 | inl i=>obtain⟨t,e⟩:=(show ∃ t,u=Wj i t from r); subst e; exact xk5 P w i t
 | inr x=>obtain⟨t,e⟩:=(show ∃ t,u=Qz x t from r); subst e; exact xkw P w x t
theorem xiy {P:Program}{w:World}:∀{ks:List Key}{us:List Value},Vals (ks.map kV) us->ItemsAre (xal P w) ks us
 | [],_,r=>by rw[List.map_nil] at r; cases r; exact .nil
 | k::ks,_,r=>by
  rw[Z2] at r;cases r with
  | cons h t=>exact .cons (xdn h) (xiy t)
abbrev KT (H:Hp):List (List Key × V)->List (List Key × Addr × Value)->Prop:=Paired fun p q=>p.1=q.1/\H q.2.1=some (.tup (p.1.map kV))/\RelV p.2 q.2.2
theorem KT.val {H:Hp}{kvs:List (List Key × V)}{xs:List (List Key × Addr × Value)} (r:KT H kvs xs) (k:List Key):RelO (valV kvs k) ((atKey xs k).map (·.2)):=by
 induction r with
 | nil=>exact Jv
 | @cons p q ps qs h t ih =>
  obtain⟨h1,_,h2⟩:=h;by_cases e:p.1=k
  .have e':q.1=k:=h1.symm.trans e;have b:atKey (q::qs) k=some q.2:=by simp[atKey,Yg,e']
   rw[xa1 e,b]; exact h2
  .have e':¬ q.1=k:=fun z=>e (h1.trans z);have b:atKey (q::qs) k=atKey qs k:=by simp[atKey,Yg,e']
   rw[xay e,b]; exact ih
theorem KT.repl {H:Hp}{kvs:List (List Key × V)}{xs:List (List Key × Addr × Value)} (r:KT H kvs xs) (k:List Key) {y:V}{u:Value} (ry:RelV y u) :
    KT H (kvs.map fun kv=>if kv.1=k then (kv.1,y) else kv) (xs.map (putAt k u)):=by
  induction r with
  | nil=>exact .nil
  | @cons p q ps qs h t ih =>
    rw[Z2,Z2];refine .cons ?_ ih;obtain⟨h1,h2,h3⟩:=h;unfold putAt;by_cases e:p.1=k
    . rw[if_pos e,if_pos (h1.symm.trans e)]; exact⟨h1,h2,ry⟩
    . rw[if_neg e,if_neg (fun z=>e (h1.trans z))]; exact⟨h1,h2,h3⟩
theorem KT.put {H:Hp}{kvs:List (List Key × V)}{xs:List (List Key × Addr × Value)} (r:KT H kvs xs) (k:List Key) {b:Addr}{y:V}{u:Value} (hb:H b=some (.tup (k.map kV))) (ry:RelV y u) :
    KT H (putK kvs k y) (storedH xs k b u):=by
  have e:(kvs.any fun kv=>decide (kv.1=k))=(atKey xs k).isSome:=by
    rw[xdg,(r.val k).isSome_eq,Ym]
  unfold putK storedH;rw[e];by_cases q:(atKey xs k).isSome=true
  . rw[if_pos q,if_pos q]; exact r.repl k ry
  . rw[if_neg q,if_neg q]; exact Paired.snoc r ⟨rfl,hb,ry⟩
theorem KT.keeps {H H':Hp}{kvs:List (List Key × V)}{xs:List (List Key × Addr × Value)} (r:KT H kvs xs) (ht:∀ b ys,H b=some (.tup ys)->H' b=some (.tup ys)):KT H' kvs xs :=
 Paired.mapP r fun _ _ z=>⟨z.1,ht _ _ z.2.1,z.2.2⟩
section
variable {P:Program}{w:World}{H:Hp}{h:Heap}{a:Addr}
theorem xq1 {u:HO} (ok:HOk P w H h) (e:Rd H a u):xao P w H h a u:=e.ok ok
theorem xee {kvs:List (Key × V)} (ok:HOk P w H h) (e:Rd H a (.dK kvs)):kvs.length<=sizeLine/\(a == sysModules)=false/\∃ vs,KV kvs vs/\h.DictOf (xal P w) a vs :=
 show xao P w H h a (.dK kvs) from xq1 ok e
theorem xjo {kvs:List (Key × V)} (ok:HOk P w H h) (e:H a=some (.dK kvs)):kvs.length<=sizeLine/\(a == sysModules)=false/\∃ vs,KV kvs vs/\h.DictOf (xal P w) a vs:=xee ok (.inl e)
theorem xd5 {ks:List Key} (ok:HOk P w H h) (e:H a=some (.tup (ks.map kV))):(tupleKind (xal P w)).is h ks a:=by
 obtain⟨_,its,r,o,h1,h2,n,h3⟩:=(show xao P w H h a (.tup (ks.map kV)) from ok a _ e)
 exact⟨o,its.toArray,n,h1,h2,h3,by simpa using xiy r⟩
theorem xfh {kvs:List (List Key × V)} (ok:HOk P w H h) (e:Rd H a (.dT kvs)):kvs.length<=sizeLine/\(a == sysModules)=false /\
    ∃ xs,KT H kvs xs/\h.DictOfH (tupleKind (xal P w)) a xs:=by
  obtain⟨z,y,xs,r,o,es,ep,h1,h2,h3,h4,h5⟩:=(show xao P w H h a (.dT kvs) from xq1 ok e)
  refine⟨z,y,xs,r,o,es,ep,h1,h2,h3,h4,fun x hx=>?_,h5⟩;have all:∀{l:List (List Key × V)}{m:List (List Key × Addr × Value)},KT H l m->∀ x∈m,(tupleKind (xal P w)).is h x.1 x.2.1:=by
    intro l m q
    induction q with
    | nil=>intro x hx; exact nomatch hx
    | @cons p q ps qs hq t ih =>
      intro x hx;rcases Z1.mp hx with e|hx
      . subst e
        exact xd5 ok (by rw[<- hq.1]; exact hq.2.1)
      . exact ih x hx
  exact all r x hx
theorem xg5 {kvs:List (List Key × V)} (ok:HOk P w H h) (e:H a=some (.dT kvs)):kvs.length<=sizeLine/\(a == sysModules)=false /\
    ∃ xs,KT H kvs xs/\h.DictOfH (tupleKind (xal P w)) a xs:=xfh ok (.inl e)
end
def DGet (H:Hp) (a:Addr) (y:V) (r:Option V):Prop :=
 (∃ kvs k,Rd H a (.dK kvs)/\y=kV k/\r=valV kvs k)\/∃ kvs k b,Rd H a (.dT kvs)/\y=.ref b/\H b=some (.tup (k.map kV))/\r=valV kvs k
def DPut (H:Hp) (a:Addr) (y v:V) (H':Hp):Prop :=
 (∃ kvs k,H a=some (.dK kvs)/\y=kV k/\kvs.length<sizeLine/\H'=upd H a (.dK (putK kvs k v))) \/
 ∃ kvs k b,H a=some (.dT kvs)/\y=.ref b/\H b=some (.tup (k.map kV))/\kvs.length<sizeLine/\H'=upd H a (.dT (putK kvs k v))
theorem DGet.k {H:Hp}{a:Addr}{kvs:List (Key × V)}{k:Key} (e:H a=some (.dK kvs)):DGet H a (kV k) (valV kvs k):=.inl ⟨kvs,k,.inl e,rfl,rfl⟩
theorem DGet.t {H:Hp}{a b:Addr}{kvs:List (List Key × V)}{k:List Key} (e:H a=some (.dT kvs)) (eb:H b=some (.tup (k.map kV))):DGet H a (.ref b) (valV kvs k):=.inr ⟨kvs,k,b,.inl e,rfl,eb,rfl⟩
theorem DPut.k {H:Hp}{a:Addr}{kvs:List (Key × V)}{k:Key}{v:V} (e:H a=some (.dK kvs)) (hl:kvs.length<sizeLine):DPut H a (kV k) v (upd H a (.dK (putK kvs k v))):=.inl ⟨kvs,k,e,rfl,hl,rfl⟩
theorem DPut.t {H:Hp}{a b:Addr}{kvs:List (List Key × V)}{k:List Key}{v:V} (e:H a=some (.dT kvs)) (eb:H b=some (.tup (k.map kV))) (hl:kvs.length<sizeLine) :
    DPut H a (.ref b) v (upd H a (.dT (putK kvs k v))):=.inr ⟨kvs,k,b,e,rfl,eb,hl,rfl⟩
section
variable {X:Cx}{pins:List (Addr × Obj)}{σ:St}{H:Hp}{s:Shared}{a:Addr}{y v:V}{u r:Value}{o:Option V}{A:Around}{E:Value->Shared->Prop}
theorem Inv.big (I:Inv X pins σ H s):sysModules<s.heap.objs.size:=by
 have h:mainGlobals<s.heap.objs.size:=(I.mod.glob.keeps I.bk).lt;exact Jo (by decide) h
theorem xos {Q:Value->Shared->Prop} (hu:A.units+1<cLine) (I:Inv X pins σ H s) (g:DGet H a y (some v)) (ry:RelV y u) (h:∀ w' s',Inv X pins σ H s'->RelV v w'->Q w' s') :
    wpAny (model X.prog X.w) A (getItem (.ref a) u) Q E s:=by
  rcases g with⟨kvs,k,e,ey,l⟩|⟨kvs,k,b,e,ey,eb,l⟩
  . subst ey
    obtain⟨z,hd,vs,rel,dd⟩:=xee I.hok e;obtain⟨w',hw,rw'⟩:=RelO.some_of (v:=v) (o:=valueAt vs k) (by rw[l]; exact rel.val k);exact wpAny_getItem_of (xdn ry) dd.mapOf hw (h w' _ (I.tok _) rw')
  . subst ey
    cases (show u=Zm b from ry);obtain⟨z,hd,xs,rel,dd⟩:=xfh I.hok e;obtain⟨w',hw,rw'⟩:=RelO.some_of (v:=v) (o:=(atKey xs k).map (·.2)) (by rw[l]; exact rel.val k);obtain⟨p,hp,hp2⟩:=Zl.mp hw;refine wpAny_getItem_heap (Y7 hu) (xd5 I.hok eb) dd hp ?_;rw[hp2];exact h w' _ (I.tok _) rw'
theorem d_in {Q:Value->Shared->Prop} (hu:A.units+1<cLine) (I:Inv X pins σ H s) (g:DGet H a y o) (ry:RelV y u) (h:∀ s',Inv X pins σ H s'->Q (.bool o.isSome) s') :
    wpAny (model X.prog X.w) A (compareOp .In u (.ref a)) Q E s:=by
  rcases g with⟨kvs,k,e,ey,l⟩|⟨kvs,k,b,e,ey,eb,l⟩
  . subst ey
    obtain⟨z,hd,vs,rel,dd⟩:=xee I.hok e;refine wpAny_in_of (xdn ry) hd dd.mapOf ?_;rw[<- (rel.val k).isSome_eq,<- l];exact h _ (I.tok _)
  . subst ey
    cases (show u=Zm b from ry);obtain⟨z,hd,xs,rel,dd⟩:=xfh I.hok e;refine wpAny_in_heap (Y7 hu) (xd5 I.hok eb) hd dd ?_;have q:=(rel.val k).isSome_eq;rw[Ym] at q;rw[<- q,<- l];exact h _ (I.tok _)
theorem xrz {Q:Value->Shared->Prop} (hu:A.units+1<cLine) (I:Inv X pins σ H s) (g:DGet H a y o) (ry:RelV y u) (h:∀ s',Inv X pins σ H s'->Q (.bool (!o.isSome)) s') :
    wpAny (model X.prog X.w) A (compareOp .NotIn u (.ref a)) Q E s:=by
  rcases g with⟨kvs,k,e,ey,l⟩|⟨kvs,k,b,e,ey,eb,l⟩
  . subst ey
    obtain⟨z,hd,vs,rel,dd⟩:=xee I.hok e;refine wpAny_notIn_of (xdn ry) hd dd.mapOf ?_;rw[<- (rel.val k).isSome_eq,<- l];exact h _ (I.tok _)
  . subst ey
    cases (show u=Zm b from ry);obtain⟨z,hd,xs,rel,dd⟩:=xfh I.hok e;refine wpAny_notIn_heap (Y7 hu) (xd5 I.hok eb) hd dd ?_;have q:=(rel.val k).isSome_eq;rw[Ym] at q;rw[<- q,<- l];exact h _ (I.tok _)
theorem xet {h':Heap}{t':Nat}{ob:HO} (I:Inv X pins σ H s) (mu:Mut (H a)) (hs:ZI a s.heap h') (he:∃ q,h'.get? a=some q) (new:xao X.prog X.w (upd H a ob) h' a ob) :
    Inv X pins σ (upd H a ob) { s with heap:=h',toks:=t' } :=
  I.write (x:=a) (e:=a) mu (.inl rfl) (fun b q hb z=>(hs.2 b hb).trans z) he new
theorem xoq {P:Program}{w:World}{H':Hp}{h':Heap}{kvs:List (Key × V)}{vs:List (Key × Value)} (z:kvs.length<=sizeLine) (hd:(a == sysModules)=false) (rel:KV kvs vs) (dd:h'.DictOf (xal P w) a vs) :
    xao P w H' h' a (.dK kvs):=⟨z,hd,vs,rel,dd⟩
theorem xn1 {H':Hp}{Q:Unit->Shared->Prop} (hu:A.units+1<cLine) (I:Inv X pins σ H s) (g:DPut H a y v H') (ry:RelV y u) (rv:RelV v r) (h:∀ s',Inv X pins σ H' s'->Q () s') :
    wpAny (model X.prog X.w) A (setItem (.ref a) u r) Q E s:=by
  rcases g with⟨kvs,k,e,ey,l,eH⟩|⟨kvs,k,b,e,ey,eb,l,eH⟩
  . subst ey eH
    obtain⟨z,hd,vs,rel,dd⟩:=xjo I.hok e;have hz:vs.length<=sizeLine:=by rw[<- rel.length]; exact z
    have hl:(putK kvs k v).length<=sizeLine:=by have:=xb7 kvs k v; omega
    refine wpAny_setItem_pairs (hsz:=hz) (xdn ry) dd fun h' dd' hs=>h _ ?_;have he:∃ q,h'.get? a=some q:=let ⟨q,_,_,hq,_⟩:=dd'; ⟨q,hq⟩;exact xet I (by rw[e]; exact Jv) hs he (xoq hl hd (rel.put k rv) dd')
  . subst ey eH
    cases (show u=Zm b from ry);obtain⟨z,hd,xs,rel,dd⟩:=xg5 I.hok e;have hz:xs.length<=sizeLine:=by rw[<- Yi rel]; exact z
    have hl:(putK kvs k v).length<=sizeLine:=by have:=xb7 kvs k v; omega
    refine wpAny_setItem_heap (hsz:=hz) (Y7 hu) (xd5 I.hok eb) dd fun h' dd' hs=>h _ ?_;obtain⟨q,es,ep,hq,h2,h3,h4,_,h5⟩:=dd';refine xet I (by rw[e]; exact Jv) hs ⟨q,hq⟩ ⟨hl,hd,_,(rel.put k eb rv).keeps fun c ys ec=>?_,q,es,ep,hq,h2,h3,h4,h5⟩;rw[xh (xai ec e (fun z=>nomatch z))];exact ec
end
section
variable {X:Cx}{pins:List (Addr × Obj)}{σ:St}{H:Hp}{s:Shared}{a:Addr}{kvs:List (Key × V)}{k:Key}{u:Value}{A:Around}{E:Value->Shared->Prop}
theorem xvd {Q:Value->Shared->Prop} (I:Inv X pins σ H s) (e:Rd H a (.dK kvs)) (h:∀ t s',Inv X pins σ H s'->Q (.int kvs.length t) s'):wpAny (model X.prog X.w) A (call (.builtin "len") [.ref a]) Q E s:=by
 obtain⟨z,hd,vs,rel,dd⟩:=xee I.hok e;refine call_len_dict hd dd (by rw[<- rel.length]; rw[Qp] at z; omega) ?_;rw[<- rel.length];exact h _ _ (I.tok _)
end
def NoSl (i:Expr):Prop:=∀ ov iv,subscripted i false ov iv=operate [ov,iv] (getItem ov iv)
theorem xsw {prog:Program}{w:World}{A:Around}{E:Value->Shared->Prop}{s:Shared}{env:Env}{value slice:Expr}{pos:Pos}{T id:String}{Q:Value->Shared->Prop}
    (hl:typeLookup (.type T) "__getitem__"=pure (some (.builtin id))) (hs:NoSl slice)
    (h:wpAny (model prog w) A (eval value env) (fun o s₁=>wpAny (model prog w) A (eval slice env) (fun i s₂=>s₂.TypeIs o T/\wpAny (model prog w) A (getItem o i) Q E s₂) E s₁) E s) :
    wpAny (model prog w) A (eval (.Subscript value slice pos) env) Q E s:=by
  refine Subscript_ (ZR h (fun o s₁ h₁=>ZR h₁ (fun i s₂ h₂=>?_) fun _ _ x=>x) fun _ _ x=>x);obtain⟨hT,h₂⟩:=h₂;unfold subscriptTail;refine Zb ?_;rw[getitemInPython_of_ne hT.not_modules];refine Zb (Y3 hT hl ?_);have fin:wpAny (model prog w) A (subscripted slice false o i) (fun r s₃=>wpAny (model prog w) A (letTemporaryGo value o r>>=fun _=>pure r) Q E s₃) E s₂:=by
    rw[hs o i];exact wpAny_operating (ZR h₂ (fun r s₃ h₃=>Zb (wpAny_letTemporaryGo (Zk h₃))) fun _ _ x=>x)
  first
    | exact Zk (Zb fin)
    | exact Zb (Zk (Zb fin))
    | exact Zb fin
theorem xk8 {X:Cx}{pins:List (Addr × Obj)}{σ:St}{H:Hp}{s:Shared}{a:Addr}{y:V}{o:Option V} (I:Inv X pins σ H s) (g:DGet H a y o):s.TypeIs (.ref a) "dict":=by
 rcases g with⟨kvs,k,e,_,_⟩|⟨kvs,k,b,e,_,_,_⟩
 .obtain ⟨_,_,vs,_,dd⟩:=xee I.hok e;exact dd.typeIs
 .obtain ⟨_,_,xs,_,dd⟩:=xfh I.hok e;exact dd.typeIs
def xu7 (td ty:TE):TE:=fun σ H Q=>td σ H fun x H1=>ty σ H1 fun y H2=>∃ a v,x=.ref a/\DGet H2 a y (some v)/\Q v H2
def tDIn (ty td:TE):TE:=fun σ H Q=>ty σ H fun y H1=>td σ H1 fun x H2=>∃ a o,x=.ref a/\DGet H2 a y o/\Q (.bl o.isSome) H2
def xrl (ty td:TE):TE:=fun σ H Q=>ty σ H fun y H1=>td σ H1 fun x H2=>∃ a o,x=.ref a/\DGet H2 a y o/\Q (.bl (!o.isSome)) H2
def xvm (td ty tv:TE):TS:=fun D σ H=>tv σ H fun v H1=>td σ H1 fun x H2=>ty σ H2 fun y H3=>∃ a H4,x=.ref a/\DPut H3 a y v H4/\D.nx σ H4
section
variable {X:Cx}{o i e value:Expr}{pos pos' tpos:Pos}{td ty tv:TE}
theorem xf8 (hu:X.A.units+1<cLine) (ho:PE X o td) (hi:PE X i ty) (hs:NoSl i):PE X (.Subscript o i pos) (xu7 td ty):=by
 intro pins s σ H Q I h;refine xsw PySem.F.slot_dict_getitem.lookup hs (thn (ho pins s σ H _ I h) fun u s1 ⟨x,H1,I1,rx,q1⟩=>thn (hi pins s1 σ H1 _ I1 q1) fun iv s2 ⟨y,H2,I2,ry,a,v,ex,g,q2⟩=>?_);subst ex;obtain rfl:u=Zm a:=rx;exact⟨xk8 I2 g,xos hu I2 g ry fun w' s3 I3 rw'=>⟨v,H2,I3,rw',q2⟩⟩
theorem xj7 (hu:X.A.units+1<cLine) (hi:PE X i ty) (ho:PE X o td):PC X .In i o (tDIn ty td):=by
 intro pins s σ H Q I h;refine thn (hi pins s σ H _ I h) fun iv s1 ⟨y,H1,I1,ry,q1⟩=>thn (ho pins s1 σ H1 _ I1 q1) fun u s2 ⟨x,H2,I2,rx,a,ov,ex,g,q2⟩=>?_;subst ex;obtain rfl:u=Zm a:=rx;exact d_in hu I2 g ry fun s3 I3=>⟨.bl ov.isSome,H2,I3,rfl,q2⟩
theorem xel (hu:X.A.units+1<cLine) (hi:PE X i ty) (ho:PE X o td):PC X .NotIn i o (xrl ty td):=by
 intro pins s σ H Q I h;refine thn (hi pins s σ H _ I h) fun iv s1 ⟨y,H1,I1,ry,q1⟩=>thn (ho pins s1 σ H1 _ I1 q1) fun u s2 ⟨x,H2,I2,rx,a,ov,ex,g,q2⟩=>?_;subst ex;obtain rfl:u=Zm a:=rx;exact xrz hu I2 g ry fun s3 I3=>⟨.bl (!ov.isSome),H2,I3,rfl,q2⟩
theorem xdi (hu:X.A.units+1<cLine) (ho:PE X o td) (hi:PE X i ty) (hv:PE X value tv) (hs:swapsWith value (some (.Subscript o i pos')) pos.line X.env=pure false) :
    PS X (.Assign [.Subscript o i pos'] value pos) (xvm td ty tv):=by
  intro pins s σ H D I h;refine wpAny_Assign_Subscript (thn (hv pins s σ H _ I h) fun r s1 ⟨v,H1,I1,rv,q1⟩=>thn (ho pins s1 σ H1 _ I1 q1) fun u s2 ⟨x,H2,I2,rx,q2⟩=>thn (hi pins s2 σ H2 _ I2 q2) fun iv s3 ⟨y,H3,I3,ry,a,H4,ex,g,q3⟩=>?_) hs;subst ex;obtain rfl:u=Zm a:=rx;exact xn1 hu I3 g ry rv fun s4 I4=>⟨σ,H4,I4,q3⟩
end
theorem xj0 {P:Program}{w:World}{H:Hp} (h:Heap) (hb:sysModules<h.objs.size):xao P w H (h.push { cls:=.type "dict",data:=.dict #[] }) h.objs.size (.dK []) :=
 ⟨Jb _,beq_eq_false_iff_ne.mpr (ZF (ZD hb)),[],.nil,Heap.DictOf.new h⟩
theorem xka {P:Program}{w:World}{H:Hp} (h:Heap) (hb:sysModules<h.objs.size):xao P w H (h.push { cls:=.type "dict",data:=.dict #[] }) h.objs.size (.dT []) :=
 ⟨Jb _,beq_eq_false_iff_ne.mpr (ZF (ZD hb)),[],.nil,_,#[],0,Zx _ rfl,⟨rfl,rfl,rfl⟩,rfl,rfl,Qg⟩
def xto:TE:=fun _ H Q=>∀ p,H p=none->Q (.ref p) (upd H p (.dK []))
def xs2:TE:=fun _ H Q=>∀ p,H p=none->Q (.ref p) (upd H p (.dT []))
section
variable {X:Cx}{pos:Pos}
theorem xgz:PE X (.Dict [] [] pos) xto:=fun pins s σ H Q I h =>
 wpAny_Dict_empty ⟨.ref s.heap.objs.size,_,I.laid (a:=s.heap.objs.size) (o:=.dK []) (t':=s.toks) (fun _ _ q=>Zg _ q) (Zi _) (xj0 s.heap I.big),rfl,h _ (I.hok.fresh (Zi _))⟩
theorem xks:PE X (.Dict [] [] pos) xs2:=fun pins s σ H Q I h =>
 wpAny_Dict_empty ⟨.ref s.heap.objs.size,_,I.laid (a:=s.heap.objs.size) (o:=.dT []) (t':=s.toks) (fun _ _ q=>Zg _ q) (Zi _) (xka s.heap I.big),rfl,h _ (I.hok.fresh (Zi _))⟩
end
structure M2 (X:Cx) (o:Expr) (m:Str) (apos:Pos) (e f:Expr) (cpos:Pos):Prop where
 base:attributeBase o m X.env (eval o X.env)=eval o X.env
 few:((backTo cpos (starEach [e,f] X.env)).all (fun x=>!x.1)&&(backToKw cpos (keywordEach [] X.env)).all (fun x=>x.1.isSome)
  && decide (([e,f]:List Expr).length+([]:List Keyword).length+(if ([]:List Keyword).isEmpty then 0 else 1)<30))=true
 line:(apos.endLine == cpos.line)=true
 trees:backTo cpos (starEach [e,f] X.env)=[(false,eval e X.env),(false,eval f X.env)]
def IsD (H:Hp) (a:Addr):Prop:=(∃ kvs,Rd H a (.dK kvs))\/∃ kvs,Rd H a (.dT kvs)
theorem xs0 {X:Cx}{pins:List (Addr × Obj)}{σ:St}{H:Hp}{s:Shared}{a:Addr} (I:Inv X pins σ H s) (d:IsD H a) :
    s.TypeIs (.ref a) "dict"/\(∀ b,Zm a=.ref b->∃ ob,s.heap.get? b=some ob/\ob.dict=none)/\(a == sysModules)=false:=by
  rcases d with⟨kvs,e⟩|⟨kvs,e⟩
  . obtain⟨_,hd,vs,_,dd⟩:=xee I.hok e
    refine⟨dd.typeIs,fun b q=>?_,hd⟩;cases q;obtain⟨ob,_,_,h1,h2,_⟩:=dd;exact⟨ob,h1,h2.2.1⟩
  . obtain⟨_,hd,xs,_,dd⟩:=xfh I.hok e
    refine⟨dd.typeIs,fun b q=>?_,hd⟩;cases q;obtain⟨ob,_,_,h1,h2,_⟩:=dd;exact⟨ob,h1,h2.2.1⟩
section
variable {X:Cx}{pins:List (Addr × Obj)}{σ:St}{H:Hp}{s:Shared}{a:Addr}{y d:V}{u r:Value}{o:Option V}{A:Around}{E:Value->Shared->Prop}
theorem xuk {Q:Value->Shared->Prop} (hu:A.units+1<cLine) (I:Inv X pins σ H s) (g:DGet H a y o) (ry:RelV y u) (rd:RelV d r) (h:∀ w' s',Inv X pins σ H s'->RelV (o.getD d) w'->Q w' s') :
    wpAny (model X.prog X.w) A (call (.builtin "dict.get") [.ref a,u,r]) Q E s:=by
  rcases g with⟨kvs,k,e,ey,l⟩|⟨kvs,k,b,e,ey,eb,l⟩
  . subst ey
    obtain⟨z,hd,vs,rel,dd⟩:=xee I.hok e;refine call_meetsIn QQ dd.typeIs PySem.F.entry_dict_get (PySem.F.args_dict_get_3 _ _ _) (meets_dict_get_default (xal X.prog X.w) a (xdn ry) hd r) ⟨_,dd.mapOf,h _ _ (I.tok _) ?_⟩;rw[l];exact (rel.val k).getD rd
  . subst ey
    cases (show u=Zm b from ry);obtain⟨z,hd,xs,rel,dd⟩:=xfh I.hok e;refine call_meetsIn QQ dd.typeIs PySem.F.entry_dict_get (PySem.F.args_dict_get_3 _ _ _) (meetsH_dict_get_default (tupleKind (xal X.prog X.w)) a b hd r) ⟨Y7 hu,k,xs,xd5 I.hok eb,dd,h _ _ (I.tok _) ?_⟩;rw[l];exact (rel.val k).getD rd
end
def xt2 (td ty tx:TE):TE:=fun σ H Q=>td σ H fun x H1=>∃ a,x=.ref a/\IsD H1 a/\ty σ H1 fun y H2=>tx σ H2 fun z H3=>∃ o,DGet H3 a y o/\Q (o.getD z) H3
section
variable {X:Cx}{o e f:Expr}{apos cpos:Pos}{td ty tx:TE}
theorem xpk (hu:X.A.units+1<cLine) (ho:PE X o td) (he:PE X e ty) (hf:PE X f tx) (m:M2 X o "get" apos e f cpos):PE X (.Call (.Attribute o "get" apos) [e,f] [] cpos) (xt2 td ty tx):=by
 intro pins s σ H Q I h;refine wpAny_Call_method m.base m.few m.line Q4 QQ PySem.F.type_dict_get (thn (ho pins s σ H _ I h) fun u s1 ⟨x,H1,I1,rx,a,ex,d,q1⟩=>?_);subst ex;obtain rfl:u=Zm a:=rx;obtain⟨t1,t2,_⟩:=xs0 I1 d;refine⟨t1,t2,?_⟩;rw[m.trees];refine YJ rfl (Calls.evalArgs_plain (Qm (thn (he pins s1 σ H1 _ I1 q1) fun iv s2 ⟨y,H2,I2,ry,q2⟩ =>
  Qm (thn (hf pins s2 σ H2 _ I2 q2) fun fv s3 ⟨z,H3,I3,rz,ov,g,q3⟩=>Calls.spliced_nil ?_))))
 exact xuk hu I3 g ry rz fun w' s4 I4 rw'=>⟨_,H3,I4,rw',q3⟩
end
end L2
namespace Att
open PySem PySem.W PySem.Calls PyProof.Rows
theorem xha {P:Params}{h:Heap}:∀(ns:List Int) (vs:List Value),WellAll P h vs (ns.map WData.int)->IntsAre vs ns:=by
 intro ns
 induction ns with
 | nil =>
  intro vs w;rw[List.map_nil] at w;cases w;exact .nil
 | cons n ns ih =>
  intro vs w;rw[Z2] at w;cases w with
  | cons a b =>
   cases a;exact .cons _ _ (ih _ b)
theorem xnh {l:OpenLaw}{n:Nat} (hn:l.most=some n) {P:Params}{h:Heap}{args:List WData}{vals:List Value}
    (hpre:l.row.toRowW.claim.pre args=true) (hwl:WellAll P h vals args) :
    ∃ a vs ns,vals=[Zm a]/\args=[WData.list (ns.map WData.int)]/\h.get? a=some { cls:=.type "list",data:=.seq vs.toArray }/\IntsAre vs ns/\ns.length<=n:=by
  have hsh:WShape.hasAll [] args [.list .int]=true:=(pre_splitW hpre).1;have hc:l.pre.holds [] { args:=args }=true:=(pre_splitW hpre).2;obtain⟨d,r,rfl,h1,h2⟩:=hasAllW_cons hsh;obtain rfl:=hasAllW_nil h2;obtain⟨xs,rfl,h3⟩:=hasW_list h1;obtain⟨ns,rfl⟩:=items_int h3;have hlen:ns.length<=n:=by
    unfold OpenLaw.pre at hc;have h4:(WTm.not (.lt (.lit (.int (n:Int))) (.len (.arg 0)))).holds [] { args:=[.list (ns.map .int)] }=true:=by
      have h4:=(holds_andW hc).1;rw[hn] at h4;exact h4
    have h5:=condW_of h4 (w_not (w_lt w_lit (w_len_list (w_arg rfl))));rw[Za] at h5;refine Nat.le_of_not_lt fun q=>?_;have q':(n:Int)<((ns.length:Nat):Int):=by omega
    first
      | (rw[decide_eq_true q'] at h5; exact absurd h5 (by decide))
      | (simp at h5; omega)
  cases hwl with
  | cons w1 w2 =>
    cases w2;cases w1 with
    | list ho hall=>exact⟨_,_,ns,rfl,rfl,ho,xha ns _ hall,hlen⟩
theorem xnl (l:OpenLaw) (args:List WData):l.row.toRowW.claim.post args (.bool true) args=true :=
 postW_of (r:=l.row.toRowW) (X:=(true == true))
  (show WShape.has [] (.bool true) .bool=true by first|rfl|decide|simp[WShape.has,WShape.arms,WShape.armsAll])
  (show (WTm.eq .res (.lit (.bool true))).value [] { args:=args,res:=some (.bool true),after:=args }=some (.bool (true == true)) from w_eq_bool (w_res rfl) w_lit) rfl
theorem attach_call {l:OpenLaw}{n:Nat}{q:Program}{loose:List Str}{XP:(Str->Option Value)->Heap->Prop}{YP:World->Heap->Prop}{d:DefRec}
    (hn:l.most=some n) (hdf:d.params.defaults=[])
    (call:∀(w:World) (s₀ s₁:Shared) (mg mb:Str->Option Value) (fa:Addr) (o:Obj) (pm cd doc:Value) (a:Addr) (vs:List Value) (ns:List Int),
      Ground q loose [] XP w s₀ mg mb s₁.heap->YP w s₁.heap ->
      s₁.heap.get? fa=some o->o.data=.func (docDef d.name d.params d.body d.scope pm cd doc)->s₁.heap.CodeRec cd d.name->mg d.name=some (.ref fa) ->
      s₁.heap.get? a=some { cls:=.type "list",data:=.seq vs.toArray }->IntsAre vs ns->ns.length<=n->s₁.gens=#[] ->
      codeAny (model l.prog w) callerA (.call (.ref fa) ⟨[.ref a],[]⟩) (fun r s'=>r=.ok (.ret (.bool true))/\OldK s₁.heap s'.heap/\s'.os=s₁.os/\AllBare s'.gens) s₁) :
    WalkO q loose XP YP l.row.toRowW d [] (fun f vs=>PySem.call f vs):=by
  intro w s₀ s₁ mg mb G Y fa o pm cd doc dV kV ho hd hcd hD hmg hg args vals as hpre hlay hrd hwl hlo;obtain rfl:dV=.none:=Dflts.none hD hdf;obtain rfl:kV=.none:=Dflts.noKw hD;obtain⟨a,vs,ns,rfl,rfl,hobj,hints,hlen⟩:=xnh hn hpre hwl;refine enter_call (Q9 (call w s₀ s₁ mg mb fa o pm cd doc a vs ns G Y ho (fd_plain hd) hcd hmg hobj hints hlen hg) fun r s' hq=>?_);obtain⟨rfl,h2,h3,h4⟩:=hq;exact⟨.inl ⟨.bool true,.bool true,[],rfl,fun _=>rfl,.bool true,xnl l _,fun _=>⟨Yj.nil,fun _ hm=>(nomatch hm)⟩⟩,h2,h3,h4⟩
section
variable {prog:Program}{w:World}{A:Around}{E:Value->Shared->Prop}{s:Shared}{K:Frag}
def xvx (h:Heap) (L d:Addr):List (Addr × Obj):=(Z3 h.objs.size).filterMap fun a=>if a=L\/a=d then none else (h.get? a).map fun o=>(a,o)
end
end Att
namespace L2
open PySem PySem.Spec PyProof.Rows
variable {q0:Bool}
theorem xiv:∀{vs:List Value}{ns:List Int},IntsAre vs ns->Vals (ns.map V.int) vs
 | _,_,.nil=>.nil
 | _,_,.cons n t h=>.cons ⟨t,rfl⟩ (xiv h)
def Only (H:Hp):Prop:=∀ b,H b=none\/∃ o xs,H b=some (.frz o (.lst xs))
theorem xpl {P:Program}{w:World}{K:Zd}{mg mb:Str->Option Value}{CX:CXT}{k:Nat}{fa a:Addr}{fd:FuncData}{x:Str}{sp:Sp}{s₁:Shared}{vs:List Value}{ns:List Int}
    (KX:K.In s₁.heap) (hns:s₁.heap.Ns mainGlobals mg) (hb:s₁.heap.Ns builtinsNs mb) (hbb:∀ x:Str,x≠"__name__"->mb x=bootBuiltins x) (hlim:s₁.heap.NoLimit) (hg:s₁.gens=#[])
    (ha:s₁.heap.get? a=some { cls:=.type "list",data:=.seq vs.toArray }) (hi:IntsAre vs ns) (hl:ns.length<=sizeLine) (hr:Room q0 k callerA)
    (F:∀ base:Heap,K.In base->base.Ns mainGlobals mg->FnOk q0 P w K mg base CX k fa fd [x] sp) (hbind:∀(s:Shared) (u:Value),BindsTo s fd ⟨[u],[]⟩ [(x,u)])
    (hsp:∀ H:Hp,Only H->SqL K H a (ns.map V.int)->sp [.ref a] H (fun v _=>v=.bl true) fun _ _ _=>False)
    (hCX:∀ H e s',CX [] H s₁ (fun _ _ _=>False) e s'->False) :
    codeAny (model P w) callerA (.call (.ref fa) ⟨[.ref a],[]⟩) (fun r s'=>r=.ok (.ret (.bool true))/\OldK s₁.heap s'.heap/\s'.os=s₁.os/\AllBare s'.gens) s₁:=by
  have rv:=xiv hi;have lenV:=hi.length
  -- from an abstract heap in which nothing but the script may be tracked
  have core:∀ H:Hp,Only H->SqL K H a (ns.map V.int)->HOk P w H s₁.heap->(∀ b,H b≠none->b=a)->(H a≠none->K.lookup a=none) ->
      codeAny (model P w) callerA (.call (.ref fa) ⟨[.ref a],[]⟩) (fun r s'=>r=.ok (.ret (.bool true))/\OldK s₁.heap s'.heap/\s'.os=s₁.os/\AllBare s'.gens) s₁:=by
    intro H hO hS hok hA hK;have base_of:∀{b:Addr}{o:Obj},s₁.heap.get? b=some o->H b=none->(hidT s₁.heap H).get? b=some o:=fun e n=>xpp e n;have noA:∀{b:Addr}{o:Obj}{es:Array DictEntry}{ep:Nat},s₁.heap.get? b=some o->o.data=.dict es ep->H b=none:=fun {b o es ep} e d=>by
      cases q:H b with
      | none=>rfl
      | some u =>
        have e':b=a:=hA b (by rw[q]; simp);subst e';rw[ha] at e; cases e;have d':Data.seq vs.toArray _=Data.dict es ep:=d;cases d'
    have nsK:∀{b:Addr}{m:Str->Option Value},s₁.heap.Ns b m->(hidT s₁.heap H).Ns b m:=fun {b m} ⟨o,es,ep,e,d,r⟩=>⟨o,es,ep,base_of e (noA e d),d,r⟩
    have hKb:K.In (hidT s₁.heap H):=fun b o e=>base_of (KX b o e) (by
      cases q:H b with
      | none=>rfl
      | some u =>
        have e':b=a:=hA b (by rw[q]; simp);subst e';rw[hK (by rw[q]; simp)] at e; cases e)
    have hM:Mod K mg (hidT s₁.heap H):=⟨hKb,nsK hns,⟨mb,nsK hb,hbb⟩,let ⟨mc,h1,h2⟩:=hlim; ⟨mc,nsK h1,h2⟩⟩
    have e0:Env0 P w K mg (hidT s₁.heap H) callerA [] s₁ H:=⟨rfl,hM,fun b o e=>xsf e,Nat.le_of_eq (xn5 _ _),trivial,fun b hb=>absurd (show b∈([]:List Addr) from hb) (by simp),hok,.of_eq hg⟩
    refine Q9 ((F _ hKb (nsK hns)).run callerA [] s₁ H ⟨[.ref a],[]⟩ [.ref a] [.ref a] _ _ hr e0 (hbind s₁ (.ref a)) (.cons rfl .nil) (hsp H hO hS)) fun r s' h=>?_;cases r with
    | error e=>exact (hCX H e s' h).elim
    | ok fl =>
      cases fl with
      | next=>exact Jz h
      | brk=>exact Jz h
      | cont=>exact Jz h
      | ret u =>
        obtain⟨v,H',os,bare,un,hok',r',q⟩:=h;have q':v=.bl true:=q;subst q';obtain rfl:u=Yc true:=r';refine⟨rfl,OldK.of_keep fun b o e=>?_,os,bare⟩;cases q:H b with
        | none=>exact un.keep b o e q (by intro z; exact absurd (show b∈([]:List Addr) from z) (by simp)) (by simp)
        | some u =>
          rcases hO b with z|⟨ob,xs,z⟩
          . rw[q] at z; cases z
          . have z2:=un.frzs b ob _ z
            obtain⟨e1,_⟩:=hok b _ z;obtain⟨e2,_⟩:=hok' b _ z2;rw[e] at e1; cases e1;exact e2
  cases hk:K.lookup a with
  | some o =>
    -- the script is one of the module's own objects
    have e:=KX a o hk;rw[ha] at e;cases e;refine core (fun _=>none) (fun _=>.inl rfl) (.inr ⟨_,vs.toArray,_,hk,rfl,rfl,rfl,by rw[Z4,lenV]; exact hl,by simpa using rv⟩) (fun b u z=>by have z':(none:Option HO)=some u:=z; cases z') (fun b z=>absurd rfl z) fun z=>absurd rfl z
  | none =>
    refine core (fun b=>if b=a then some (.frz { cls:=.type "list",data:=.seq vs.toArray } (.lst (ns.map V.int))) else none) (fun b=>?_) (.inl (.inr ⟨{ cls:=.type "list",data:=.seq vs.toArray },if_pos rfl⟩)) (fun b u z=>?_) (fun b z=>?_) fun _=>hk
    . by_cases hb:b=a
      . exact .inr ⟨_,_,if_pos hb⟩
      . exact .inl (if_neg hb)
    . by_cases hb:b=a
      . have z':=(if_pos hb).symm.trans z
        cases z';subst hb;exact⟨ha,by rw[Za]; exact hl,vs,_,rv,ha⟩
      . have z':=(if_neg hb).symm.trans z
        cases z'
    . by_cases hb:b=a
      . exact hb
      . exact absurd (if_neg hb) z
abbrev KOf {K:Zd}{h:Heap} (_:K.In h):Zd:=K
theorem walk_of {l:PySem.W.OpenLaw}{n k:Nat}{q:Program}{loose:List Str}{XP:(Str->Option Value)->Heap->Prop}{YP:World->Heap->Prop}{d:DefRec}{K:Params->Zd}{CX:World->CXT}{sp:World->Sp}{x:Str}
    (hn:l.most=some n) (hn2:n<=sizeLine) (hdf:d.params.defaults=[]) (hr:Room q0 k callerA)
    (hY:∀(w:World) (h:Heap),YP w h->(K w.params).In h)
    (F:∀(w:World) (mg:Str->Option Value) (fa:Addr) (h:Heap),(K w.params).In h->h.Ns mainGlobals mg->mg d.name=some (.ref fa) ->
      ∃ fd:FuncData,(∀(s:Shared) (u:Value),BindsTo s fd ⟨[u],[]⟩ [(x,u)]) /\
        ∀ base:Heap,(K w.params).In base->base.Ns mainGlobals mg->FnOk q0 l.prog w (K w.params) mg base (CX w) k fa fd [x] (sp w))
    (hsp:∀(w:World) (H:Hp) (a:Addr) (ns:List Int),ns.length<=n->Only H->SqL (K w.params) H a (ns.map V.int)->sp w [.ref a] H (fun v _=>v=.bl true) fun _ _ _=>False)
    (hCX:∀(w:World) (H:Hp) (s:Shared) (e:Value) (s':Shared),CX w [] H s (fun _ _ _=>False) e s'->False) :
    PySem.W.WalkO q loose XP YP l.row.toRowW d [] (fun f vs=>PySem.call f vs):=by
  refine Att.attach_call hn hdf fun w s₀ s₁ mg mb fa o pm cd doc a vs ns G Y ho hd hcd hmg hobj hints hlen hg=>?_;have KX:=hY w _ Y;obtain⟨fd,hb,hF⟩:=F w mg fa _ KX G.T.g hmg;exact xpl KX G.T.g G.T.b G.T.builtins G.T.nolimit hg hobj hints (Zs hlen hn2) hr hF hb (fun H hO hS=>hsp w H a ns hlen hO hS) fun H e s'=>hCX w H s₁ e s'
def xau (s:Stmt) (j:Nat):Stmt:=match s with
 | .ClassDef _ _ _ body _ _ _ _ _ _ _=>body.getD j (.Pass ⟨0,0,0,0⟩)
 | _=>.Pass ⟨0,0,0,0⟩
def xbm (s:Stmt):Arguments:=match s with
 | .FunctionDef _ a _ _ _ _ _ _ _ _=>a
 | _=>{ posonlyargs:=[],args:=[],vararg:=none,kwonlyargs:=[],kw_defaults:=[],kwarg:=none,defaults:=[] }
def xa9 (s:Stmt):List Stmt:=match s with
 | .FunctionDef _ _ b _ _ _ _ _ _ _=>b
 | _=>[]
def xo (s:Stmt):Scope:=match s with
 | .FunctionDef _ _ _ _ _ _ sc _ _ _=>sc
 | _=>{ kind:=.function,names:=[],isGenerator:=false,isCoroutine:=false }
abbrev CX0:CXT:=fun _ _ _ _ _ _=>False
structure Fun (K:Zd) (x qual:Str) (st:Stmt) (f:Addr) (fd:FuncData):Prop where
 ex:∃(oc:Value) (od:Option Addr) (kV doc pm:Value) (an:Option Addr) (cdv ct:Value) (osl:Array (Option Value)),
  fd=Jn x qual (xbm st) (xa9 st) (xo st) .none kV doc pm an cdv ct/\K.lookup f=some ⟨oc,od,.func fd,osl⟩/\YG K cdv qual=true
 kp:Jm K (.ref f)=true
section
variable {P:Program}{w:World}{K:Zd}{mg:Str->Option Value}{base:Heap}
theorem Fun.ok {x qual:Str}{st:Stmt}{f:Addr}{fd:FuncData}{N ps:List Str}{k:Nat}{sp:Sp} (F:Fun K x qual st f fd) (S:xv N ps (xo st)) (len:∀ vs H Q E,sp vs H Q E->vs.length=ps.length)
    (hbody:∀(cdv:Value) (A:Around) (outer:List Env) (s:Shared) (H:Hp) (vs:List V) (Q:VK) (E:XK),Room q0 k (A.deeper (envOfC qual (xo st) s.heap.objs.size f cdv))->sp vs H Q E ->
      ∃ t,PSs (cxOf q0 CX0 P w K mg base N qual (xo st) f cdv A outer s H E).nox (xa9 st) t/\t { nx:=fun _ H'=>Q .non H',rt:=Q } (xc5 N vs) H):FnOk q0 P w K mg base CX0 (k+1) f fd ps sp:=by
  obtain⟨oc,od,kV,doc,pm,an,cdv,ct,osl,rfl,lk,hcd⟩:=F.ex;refine xjp lk hcd S len fun A outer s H vs Q E hr hsp=>?_;obtain⟨t,h,q⟩:=hbody cdv A outer s H vs Q E hr hsp;exact⟨t,h.nox,q⟩
theorem Fun.binds {x qual:Str}{st:Stmt}{f:Addr}{fd:FuncData}{ps:List Str} (F:Fun K x qual st f fd)
    (h:∀(kV doc pm:Value) (an:Option Addr) (cdv ct:Value) (us:List Value),us.length=ps.length->bindArgs (Jn x qual (xbm st) (xa9 st) (xo st) .none kV doc pm an cdv ct) ⟨us,[]⟩=pure (ps.zip us)):xx K fd ps []:=by
  obtain⟨oc,od,kV,doc,pm,an,cdv,ct,osl,rfl,lk,hcd⟩:=F.ex;exact .all (h kV doc pm an cdv ct)
theorem fun_mk {x qual:Str}{st:Stmt}{f:Addr}{oc:Value}{od an:Option Addr}{osl:Array (Option Value)}{kV doc pm cdv ct:Value} (l:K.lookup f=some ⟨oc,od,.func (Jn x qual (xbm st) (xa9 st) (xo st) .none kV doc pm an cdv ct),osl⟩)
    (c:YG K cdv qual=true) (k:Jm K (.ref f)=true):Fun K x qual st f (Jn x qual (xbm st) (xa9 st) (xo st) .none kV doc pm an cdv ct):=⟨⟨oc,od,kV,doc,pm,an,cdv,ct,osl,rfl,l,c⟩,k⟩
end
theorem xbo {A:Around}{k:Nat} (hr:Room q0 k A):A.units+1<cLine:=Z9 (Nat.add_le_add_left (by decide:1<=64) _) hr.units
section
variable {X:Cx}
theorem pv (i:Nat) {x:Str}{pos:Pos} (hN:X.N[i]?=some x:=by rfl) (hv:Vis X.env.scope x:=by first|exact Zn rfl|exact J8 (Zn rfl)|exact J8 (J8 rfl)) (hd:(x == ("__debug__":Str))=false:=by decide)
    (hcd:(x == ("__classdict__":Str))=false:=by decide):PE X (.Name x pos) (tVar i):=xt4 hN hv hd hcd
end
theorem iteF {A B:Prop} (h:B):if false=true then A else B:=by
 rw[if_neg ZA];exact h
theorem iteT {A B:Prop} (h:A):if true=true then A else B:=by
 rw[if_pos rfl];exact h
theorem ite2 {c A B:Prop} [Decidable c] (h1:c->A) (h2:¬ c->B):if c then A else B:=by
 by_cases h:c
 .rw [if_pos h];exact h1 h
 .rw [if_neg h];exact h2 h
def Same (H H':Hp):Prop:=∀ b o,H b=some o->H' b=some o
theorem Same.refl (H:Hp):Same H H:=fun _ _ h=>h
theorem Same.trans {H H1 H2:Hp} (a:Same H H1) (b:Same H1 H2):Same H H2:=fun c o h=>b c o (a c o h)
theorem Same.free {H H':Hp} (e:Same H H') {l:Addr} (h:H' l=Option.none):H l=Option.none:=by
 cases q:H l with
 | none=>rfl
 | some o =>
  rw[e l o q] at h;cases h
theorem Same.seq {K:Zd}{H H':Hp}{a:Addr}{xs:List V} (e:Same H H') (h:SqL K H a xs):SqL K H' a xs:=by
 rcases h with (h|⟨o,h⟩)|h
 .exact .inl (.inl (e _ _ h))
 .exact .inl (.inr ⟨o,e _ _ h⟩)
 .exact .inr h
end L2
namespace Srt
open PySem PySem.W PyProof.Rows
abbrev CM:=Nat->Nat->(Bool->Shared->Prop)->Shared->Prop
abbrev g (p:Array Nat) (i:Nat):Nat:=p.getD i 0
structure Ord (n:Nat) (lt:Nat->Nat->Bool):Prop where
 irr:∀ i,i<n->lt i i=false
 tr:∀ i j k,i<n->j<n->k<n->lt i j=true->lt j k=true->lt i k=true
 tot:∀ i j,i<n->j<n->i≠j->lt i j=false->lt j i=true
def Cmp (n:Nat) (lt:Nat->Nat->Bool) (cmp:CM) (s:Shared):Prop:=∀ i j,i<n->j<n->∀ Q:Bool->Shared->Prop,Q (lt i j) s->cmp i j Q s
theorem xci {α:Type}{cmp:CM}{a:α}{Q:α->Shared->Prop}{s:Shared} (h:Q a s):KasT.kasWp cmp (.ret a) Q s:=h
theorem xfn {α:Type}{cmp:CM}{i j:Nat}{k:Bool->KasT α}{Q:α->Shared->Prop}{s:Shared} (h:cmp i j (fun c s'=>KasT.kasWp cmp (k c) Q s') s):KasT.kasWp cmp (.ask i j k) Q s:=h
theorem xus {p:Array Nat}{n:Nat}:kas_asc p 0 n=.ret n:=by unfold kas_asc; rfl
theorem xu4 {p:Array Nat}{f n:Nat}:kas_asc p (f+1) n=.ask (p.getD n 0) (p.getD (n-1) 0) fun c=>if c=true then .ret n else kas_asc p f (n+1):=by rw[kas_asc]
theorem xvr {p:Array Nat}{k:Nat}:kas_bin 0 p k=.ret p:=by unfold kas_bin; rfl
theorem xvj {f:Nat}{p:Array Nat}{k:Nat}:kas_bin (f+1) p k=(kas_place p k k 0 k).bind fun l=>kas_bin f (bubble p k (k-l)) (k+1):=by rw[kas_bin]
theorem xsv {p:Array Nat}{k l r:Nat}:kas_place p k 0 l r=.ret l:=by unfold kas_place; rfl
theorem xsb {p:Array Nat}{k f l r:Nat}:kas_place p k (f+1) l r=if l>=r then .ret l else .ask (p.getD k 0) (p.getD ((l+r) / 2) 0) fun c=>if c=true then kas_place p k f l ((l+r) / 2) else kas_place p k f ((l+r) / 2+1) r:=by rw[kas_place]
theorem xtt {p:Array Nat}{k l:Nat}:kas_desc 0 p k l=.ret (p,k,l):=by unfold kas_desc; rfl
theorem xtx {f:Nat}{p:Array Nat}{k l:Nat}:kas_desc (f+1) p k l=.ask (p.getD k 0) (p.getD (k-1) 0) fun c=>if c=true then (if l>0 then kas_desc f (kas_rev p (k-(l+1)) k) (k+1) 0 else kas_desc f p (k+1) 0) else .ask (p.getD (k-1) 0) (p.getD k 0) fun d=>if d=true then .ret (p,k,l) else kas_desc f p (k+1) (l+1):=by rw[kas_desc]
section
variable {n:Nat}{lt:Nat->Nat->Bool}{cmp:CM}{s:Shared}
structure Arr (n:Nat) (p:Array Nat):Prop where
 sz:p.size=n
 lt:∀ i,i<n->g p i<n
 inj:∀ i j,i<n->j<n->g p i=g p j->i=j
 pm:p.Perm (Z3 n).toArray
theorem g_at {p:Array Nat}{i:Nat}{v:Nat} (h:p[i]?=some v):g p i=v:=by
 show p.getD i 0=v;rw[Array.getD_eq_getD_getElem?,h];rfl
theorem Arr.at {p:Array Nat} (a:Arr n p) {i:Nat} (h:i<n):p[i]?=some (g p i):=by
 have z:i<p.size:=by rw[a.sz]; exact h
 have e:p[i]?=some p[i]:=Yz z;rw[e,g_at e]
def Srtd (lt:Nat->Nat->Bool) (p:Array Nat) (m:Nat):Prop:=∀ i j,i<j->j<m->lt (g p i) (g p j)=true
theorem xlb (o:Ord n lt) {p:Array Nat} (a:Arr n p) {m:Nat} (hm:m<=n) (h:∀ i,1<=i->i<m->lt (g p (i-1)) (g p i)=true):Srtd lt p m:=by
 intro i j hij hj;obtain⟨d,rfl⟩:∃ d,j=i+1+d:=⟨j-(i+1),by omega⟩
 induction d with
 | zero=>exact h (i+1) (by omega) hj
 | succ d ih =>
  have h1:=ih (by omega) (by omega);have h2:=h (i+1+(d+1)) (by omega) hj;exact o.tr _ _ _ (a.lt _ (by omega)) (a.lt _ (by omega)) (a.lt _ (by omega)) h1 h2
theorem xj3 (c:Cmp n lt cmp s) {p:Array Nat} (a:Arr n p) {G:Nat->Shared->Prop}:∀(f k:Nat),1<=k->k+f<=n ->
    (∀ m,k<=m->m<=k+f->(∀ i,k<=i->i<m->lt (g p i) (g p (i-1))=false)->(m<k+f->lt (g p m) (g p (m-1))=true)->G m s)->KasT.kasWp cmp (kas_asc p f k) G s
  | 0,k,h1,hf,hG=>by
    rw[xus];exact xci (hG k (Zi _) (by omega) (fun i h h'=>by omega) (fun h=>by omega))
  | f+1,k,h1,hf,hG=>by
    rw[xu4];refine xfn (c _ _ (a.lt k (by omega)) (a.lt (k-1) (by omega)) _ ?_);cases e:lt (g p k) (g p (k-1)) with
    | true =>
      exact xci (hG k (Zi _) (by omega) (fun i h h'=>by omega) (fun _=>e))
    | false =>
      show KasT.kasWp cmp (kas_asc p f (k+1)) G s;refine xj3 c a f (k+1) (by omega) (by omega) fun m hm hm2 h3 h4=>hG m (by omega) (by omega) (fun i hi hi2=>?_) (fun h=>h4 (by omega));by_cases z:i=k
      . rw[z]; exact e
      . exact h3 i (by omega) hi2
theorem xlr (o:Ord n lt) (c:Cmp n lt cmp s) {p:Array Nat} (a:Arr n p) {G:Array Nat × Nat × Nat->Shared->Prop}:∀(f k:Nat),1<=k->k+f<=n ->
    (∀ m,k<=m->m<=k+f->(∀ i,k<=i->i<m->lt (g p i) (g p (i-1))=true)->G (p,m,0) s)->KasT.kasWp cmp (kas_desc f p k 0) G s
  | 0,k,h1,hf,hG=>by
    rw[xtt];exact xci (hG k (Zi _) (by omega) (fun i h h'=>by omega))
  | f+1,k,h1,hf,hG=>by
    rw[xtx];refine xfn (c _ _ (a.lt k (by omega)) (a.lt (k-1) (by omega)) _ ?_);cases e:lt (g p k) (g p (k-1)) with
    | true =>
      show KasT.kasWp cmp (kas_desc f p (k+1) 0) G s;refine xlr o c a f (k+1) (by omega) (by omega) fun m hm hm2 h3=>hG m (by omega) (by omega) fun i hi hi2=>?_;by_cases z:i=k
      . rw[z]; exact e
      . exact h3 i (by omega) hi2
    | false =>
      refine xfn (c _ _ (a.lt (k-1) (by omega)) (a.lt k (by omega)) _ ?_);have ne:g p k≠g p (k-1):=fun z=>by have:=a.inj _ _ (by omega) (by omega) z; omega
      rw[show lt (p.getD (k-1) 0) (p.getD k 0)=true from o.tot _ _ (a.lt k (by omega)) (a.lt (k-1) (by omega)) ne e];exact xci (hG k (Zi _) (by omega) (fun i h h'=>by omega))
theorem Arr.rev {p:Array Nat} (a:Arr n p) {k:Nat} (hk:k<=n):Arr n (kas_rev p 0 k)/\∀ i,i<n->g (kas_rev p 0 k) i=if i<k then g p (k-1-i) else g p i:=by
 have ge:∀ i,i<n->g (kas_rev p 0 k) i=if i<k then g p (k-1-i) else g p i:=fun i hi=>by
  have z:=getElem?_mirror_all (xs:=p) (i:=0) (j:=k) (by rw[a.sz]; exact hk) i;by_cases c:i<k
  .rw [if_pos c];rw[if_pos ⟨Jb _,c⟩,show 0+k-1-i=k-1-i by omega,a.at (show k-1-i<n by omega)] at z;exact g_at z
  .rw [if_neg c];rw[if_neg (fun w=>c w.2),a.at hi] at z;exact g_at z
 refine⟨⟨by rw[kas_rev_size,a.sz],fun i hi=>?_,fun i j hi hj e=>?_,(mirror_perm _ _ _ _).trans a.pm⟩,ge⟩
 .rw [ge i hi];split<;>exact a.lt _ (by omega)
 .rw [ge i hi,ge j hj] at e;split at e<;>split at e<;>have:=a.inj _ _ (by omega) (by omega) e<;>omega
theorem xpf (o:Ord n lt) (c:Cmp n lt cmp s) {p:Array Nat} (a:Arr n p) (h2:2<=n) {G:Nat × Array Nat->Shared->Prop}
    (hG:∀ m p',1<=m->m<=n->Arr n p'->Srtd lt p' m->G (m,p') s):KasT.kasWp cmp (kas_count n p) G s:=by
  unfold kas_count;rw[KasT.kasWp_bind];have up:∀ q,Arr n q->∀ i,1<=i->i<n->lt (g q i) (g q (i-1))=false->lt (g q (i-1)) (g q i)=true:=fun q b i h1 hi e =>
    o.tot _ _ (b.lt i hi) (b.lt (i-1) (by omega)) (fun z=>by have:=b.inj _ _ hi (by omega) z; omega) e
  refine xj3 c a (n-1) 1 (Zi _) (by omega) fun m hm hm2 h3 h4=>?_;have sm:Srtd lt p m:=xlb o a (by omega) fun i hi hi2=>up p a i hi (by omega) (h3 i hi hi2);show KasT.kasWp cmp (if (m == n)=true then _ else _) G s;by_cases e1:m=n
  . rw[if_pos (by simpa using e1)]
    exact xci (hG m p hm (by omega) a sm)
  . rw[if_neg (by simpa using e1)]
    by_cases e2:m>1
    . rw[if_pos e2]
      refine xfn (c _ _ (a.lt 0 (by omega)) (a.lt (m-1) (by omega)) _ ?_);rw[show lt (p.getD 0 0) (p.getD (m-1) 0)=true from sm 0 (m-1) (by omega) (by omega)];exact xci (hG m p hm (by omega) a sm)
    . rw[if_neg e2]
      have m1:m=1:=by omega
      subst m1;have d1:=h4 (by omega);unfold kas_descPart;rw[KasT.kasWp_bind];refine xlr o c a (n-(1+1)) (1+1) (by omega) (by omega) fun k hk hk2 h5=>?_;show KasT.kasWp cmp (if (0:Nat)>0 then _ else kas_tail3 k n p) G s;rw[if_neg (Y1 0)];unfold kas_tail3;rw[KasT.kasWp_bind];obtain⟨b,ge⟩:=a.rev (k:=k) (by omega);refine xj3 c b (n-k) k (by omega) (by omega) fun m' hm' hm2' h6 _=>?_;refine xci (hG m' _ (by omega) (by omega) b (xlb o b (by omega) fun i hi hi2=>?_));by_cases ik:i<k
      . rw[ge i (by omega),ge (i-1) (by omega),if_pos ik,if_pos (by omega)]
        have e3:k-1-(i-1)-1=k-1-i:=by omega
        by_cases z:k-1-(i-1)=1
        . have z':k-1-i=0:=by omega
          rw[z,z'];exact d1
        . have:=h5 (k-1-(i-1)) (by omega) (by omega)
          rw[e3] at this;exact this
      . exact up _ b i hi (by omega) (h6 i (by omega) hi2)
theorem xg0 (o:Ord n lt) (c:Cmp n lt cmp s) {p:Array Nat} (a:Arr n p) {k:Nat} (hk:k<n) (sk:Srtd lt p k) {G:Nat->Shared->Prop}:∀(f l r:Nat),l<=r->r<=k->r-l<=f ->
    (∀ j,j<l->lt (g p k) (g p j)=false)->(∀ j,r<=j->j<k->lt (g p k) (g p j)=true) ->
    (∀ m,m<=k->(∀ j,j<m->lt (g p k) (g p j)=false)->(∀ j,m<=j->j<k->lt (g p k) (g p j)=true)->G m s)->KasT.kasWp cmp (kas_place p k f l r) G s
  | 0,l,r,h1,h2,h3,lo,hi,hG=>by
    rw[xsv];exact xci (hG l (by omega) lo fun j hj hj2=>hi j (by omega) hj2)
  | f+1,l,r,h1,h2,h3,lo,hi,hG=>by
    rw[xsb];by_cases e:l>=r
    . rw[if_pos e]
      exact xci (hG l (by omega) lo fun j hj hj2=>hi j (by omega) hj2)
    . rw[if_neg e]
      have m1:(l+r) / 2<r:=by omega
      have m2:l<=(l+r) / 2:=by omega
      refine xfn (c _ _ (a.lt k hk) (a.lt _ (by omega)) _ ?_);cases e2:lt (g p k) (g p ((l+r) / 2)) with
      | true =>
        show KasT.kasWp cmp (kas_place p k f l ((l+r) / 2)) G s;refine xg0 o c a hk sk f l _ m2 (by omega) (by omega) lo (fun j hj hj2=>?_) hG;by_cases z:j=(l+r) / 2
        . rw[z]; exact e2
        . exact o.tr _ _ _ (a.lt k hk) (a.lt _ (by omega)) (a.lt _ (by omega)) e2 (sk _ _ (by omega) hj2)
      | false =>
        show KasT.kasWp cmp (kas_place p k f ((l+r) / 2+1) r) G s;refine xg0 o c a hk sk f _ r (by omega) h2 (by omega) (fun j hj=>?_) hi hG;by_cases z:j=(l+r) / 2
        . rw[z]; exact e2
        . cases e3:lt (g p k) (g p j) with
          | false=>rfl
          | true =>
            have:=o.tr _ _ _ (a.lt k hk) (a.lt _ (by omega)) (a.lt _ (by omega)) e3 (sk j ((l+r) / 2) (by omega) (by omega));rw[e2] at this;cases this
theorem Arr.bub {p:Array Nat} (a:Arr n p) {k m:Nat} (hk:k<n) (hm:m<=k):Arr n (bubble p k (k-m))/\∀ i,i<n->g (bubble p k (k-m)) i=if i=m then g p k else if m<i/\i<=k then g p (i-1) else g p i:=by
 have ge:∀ i,i<n->g (bubble p k (k-m)) i=if i=m then g p k else if m<i/\i<=k then g p (i-1) else g p i:=fun i hi=>by
  have z:=getElem?_bubble (xs:=p) (src:=k) (by rw[a.sz]; exact hk) (k-m) (by omega) i;rw[show k-(k-m)=m by omega] at z;by_cases c:i=m
  .rw [if_pos c];rw[if_pos c,a.at hk] at z;exact g_at z
  .rw [if_neg c];rw[if_neg c] at z;by_cases d:m<i/\i<=k
   .rw [if_pos d];rw[if_pos d,a.at (show i-1<n by omega)] at z;exact g_at z
   .rw [if_neg d];rw[if_neg d,a.at hi] at z;exact g_at z
 refine⟨⟨by rw[bubble_size,a.sz],fun i hi=>?_,fun i j hi hj e=>?_,(bubble_perm _ _ _).trans a.pm⟩,ge⟩
 .rw [ge i hi];split
  .exact a.lt _ hk
  .split<;>exact a.lt _ (by omega)
 .rw [ge i hi,ge j hj] at e;split at e<;>(try split at e)<;>(try split at e)<;>(try split at e)<;>first|omega|(have:=a.inj _ _ (by omega) (by omega) e; omega)
theorem xnr (o:Ord n lt) (c:Cmp n lt cmp s) {G:Array Nat->Shared->Prop}:∀(f k:Nat) (p:Array Nat),k+f=n->Arr n p->Srtd lt p k->(∀ p',Arr n p'->Srtd lt p' n->G p' s)->KasT.kasWp cmp (kas_bin f p k) G s
 | 0,k,p,h,a,sk,hG=>by
  rw[xvr];have:k=n:=by omega
  subst this;exact xci (hG p a sk)
 | f+1,k,p,h,a,sk,hG=>by
  have hk:k<n:=by omega
  rw[xvj,KasT.kasWp_bind];refine xg0 o c a hk sk k 0 k (Jb _) (Zi _) (by omega) (fun j hj=>by omega) (fun j hj hj2=>by omega) fun m hm lo hi=>?_;obtain⟨b,ge⟩:=a.bub hk hm;refine xnr o c f (k+1) _ (by omega) b (fun i j hij hj=>?_) hG;have inS:∀ i,i<m->lt (g p i) (g p k)=true:=fun i hi'=>o.tot _ _ (a.lt k hk) (a.lt i (by omega)) (fun z=>by have:=a.inj _ _ hk (by omega) z; omega) (lo i hi');have g1:∀ i,i<n->i=m->g (bubble p k (k-m)) i=g p k:=fun i hi z=>by rw[ge i hi,if_pos z]
  have g2:∀ i,i<n->m<i->i<=k->g (bubble p k (k-m)) i=g p (i-1):=fun i hi z z2=>by rw[ge i hi,if_neg (by omega),if_pos ⟨z,z2⟩]
  have g3:∀ i,i<n->i<m->g (bubble p k (k-m)) i=g p i:=fun i hi z=>by rw[ge i hi,if_neg (by omega),if_neg (by omega)]
  by_cases j1:j=m
  .rw [g1 j (by omega) j1,g3 i (by omega) (by omega)];exact inS i (by omega)
  .by_cases i1:i=m
   .rw [g1 i (by omega) i1,g2 j (by omega) (by omega) (by omega)];exact hi (j-1) (by omega) (by omega)
   .by_cases j2:m<j
    .rw [g2 j (by omega) j2 (by omega)];by_cases i2:m<i
     .rw [g2 i (by omega) i2 (by omega)];exact sk _ _ (by omega) (by omega)
     .rw [g3 i (by omega) (by omega)];by_cases z:i=j-1
      .omega
      .exact sk _ _ (by omega) (by omega)
    .rw [g3 j (by omega) (by omega),g3 i (by omega) (by omega)];exact sk _ _ hij (by omega)
theorem xor:Arr n (Z3 n).toArray:=by
 have e:∀ i,i<n->g (Z3 n).toArray i=i:=fun i hi=>g_at (by rw[List.getElem?_toArray,Jg hi]);exact⟨by simp,fun i hi=>by rw[e i hi]; exact hi,fun i j hi hj z=>by rw[e i hi,e j hj] at z; exact z,Array.Perm.refl _⟩
theorem sort_wp (o:Ord n lt) (c:Cmp n lt cmp s) (h2:2<=n) {G:Array Nat->Shared->Prop} (hG:∀ p,Arr n p->Srtd lt p n->G p s):KasT.kasWp cmp (kas_sort n) G s:=by
 unfold kas_sort;rw[KasT.kasWp_bind];refine xpf o c xor h2 fun m p hm hm2 a sm=>?_;show KasT.kasWp cmp (if m<n then _ else _) G s;by_cases e:m<n
 .rw [if_pos e];show KasT.kasWp cmp (kas_bin (n-max m 1) p (max m 1)) G s;rw[Nat.max_eq_left hm];exact xnr o c (n-m) m p (by omega) a sm hG
 .rw [if_neg e];have:m=n:=by omega
  subst this;exact xci (hG p a sm)
end
end Srt
namespace XL
open PySem
def Xat (h:Heap) (e:Addr) (cls:Value) (od tb:Option Addr):Prop :=
 ∃ oe vs,h.get? e=some oe/\oe.cls=cls/\oe.dict=od/\oe.data=.fields vs/\1<vs.size /\
  ((tb=none/\vs[1]?=some ZV)\/∃ T oT ts,tb=some T/\vs[1]?=some (.ref T)/\T≠e/\h.get? T=some oT/\oT.data=.fields ts/\ts[3]?=some ZV)
structure Stp (fs:List Addr) (e:Addr) (tb:Option Addr) (h h':Heap):Prop where
 keep:∀ b o,h.get? b=some o->b≠e->tb≠some b->b∉fs->h'.get? b=some o
 slot:∀ b o,h.get? b=some o->b∈fs->∃ sl,h'.get? b=some { o with slots:=sl }
abbrev xjm (l:List Env):List Addr:=l.filterMap (·.frame)
theorem xo2 (o:Obj) (f:Array Value->Array Value):(o.mapFields f).dict=o.dict:=by
 obtain⟨c,d,dt,sl⟩:=o;cases dt<;>rfl
section
variable {M:Model}{A:Around}{E:Value->Shared->Prop}{s:Shared}
theorem xlu {base:Heap}{env:Env}{outer:List Env}{L e:Addr}{oe:Obj}{vs:Array Value}{hd:Value}{nx:Bool}{cls:Value}{od tb:Option Addr}{g:Heap}{Q:Unit->Shared->Prop}
    (fr:A.frames=some (env::outer)) (ff:s.heap.FunFrames base (env::outer)) (fL:env.frame=some L)
    (ge:s.heap.get? e=some oe) (de:oe.data=.fields vs) (se:1<vs.size) (ce:oe.cls=cls) (oo:oe.dict=od)
    (st:Stp (xjm (env::outer)) e tb g s.heap) (sz:g.objs.size<=s.heap.objs.size)
    (k:∀ h' T,Stp (xjm (env::outer)) e tb g h'->g.objs.size<=T->Xat h' e cls od (some T)->Q () { s with heap:=h' }) :
    wpAny M A (do let a <- frameOf env; let pl <- entryPlaceOf L nx; let b <- EntryCells.newEntry hd a .none (rawInt L) .none pl; setField (.ref e) 1 b) (fun _ s'=>wpAny M A (setFlight (.ref e) none) Q E s') E s:=by
  have nef:e∉xjm (env::outer):=fun hm=>by
    obtain⟨_,o,ho,hnf⟩:=ff.mem hm;have z:=ge.symm.trans ho;cases z;exact hnf vs de
  refine Zb (wpAny_frameOf_fun fr ff fL fun h1 so=>?_);refine Zb (wpAny_entryPlaceOf fun pl ip=>?_);unfold EntryCells.newEntry newFields;refine Zb (Yk ?_ (ip.sizeOk5 _ _ _ _ _));have e1:h1.get? e=some oe:=(so.2.1 e nef).trans ge;generalize eT:({ cls:=.type "traceback",dict:=none,data:=.fields ([hd,.ref L,.none,rawInt L,.none]++(if pl.isEmpty then Qf 6 ZV else pl)).toArray }:Obj)=oT;have dT:oT.data=.fields ([hd,.ref L,.none,rawInt L,.none]++(if pl.isEmpty then Qf 6 ZV else pl)).toArray:=by rw[<- eT]
  have fT:oT.isFreed=false:=by rw[<- eT]; rfl
  have e2:(h1.push oT).get? e=some oe:=Zg oT e1;refine QZ e2 de se ?_;have nTe:h1.objs.size≠e:=Yd (Zq e1);have d3:=Y8 de (·.setIfInBounds 1 (Zm h1.objs.size));have e3:=ZM (YU (·.setIfInBounds 1 (Zm h1.objs.size))) e2 (YQ d3);have T3:((h1.push oT).update e (YU (·.setIfInBounds 1 (Zm h1.objs.size)))).get? h1.objs.size=some oT :=
    (Jl (h1.push oT) _ (ZF nTe)).trans (Zx h1 fT)
  unfold setFlight;refine Zb (Yp e3 d3 (x:=.ref h1.objs.size) (by simp[se]) ?_);rw[if_pos (show (Zm h1.objs.size != ZV)=true from by simp)];refine QZ T3 dT (by simp only[Z4,Zp,ZL,QL]<;>omega) (k _ h1.objs.size ?_ ?_ ?_)
  . have go:∀ b o,b≠e->h1.get? b=some o->(((h1.push oT).update e (YU (·.setIfInBounds 1 (Zm h1.objs.size)))).update h1.objs.size
        (YU (·.setIfInBounds 3 ((none:Option Addr).elim ZV fun f=>rawInt f)))).get? b=some o:=fun b o be hb=>by
      have bT:h1.objs.size≠b:=Yd (Zq hb);rw[Jl _ _ bT,Jl _ _ (ZF be)];exact Zg oT hb
    refine⟨fun b o hb be bt bf=>go b o be ((so.2.1 b bf).trans (st.keep b o hb be bt bf)),fun b o hb bf=>?_⟩;obtain⟨sl,h2⟩:=st.slot b o hb bf;obtain⟨sl2,h3⟩:=so.2.2 b _ h2;exact⟨sl2,go b _ (fun z=>nef (z▸bf)) h3⟩
  . rw[so.1]; exact sz
  . refine⟨_,_,?_,(Obj.cls_mapFields _ _).trans ce,(xo2 _ _).trans oo,d3,by simp[se],.inr ⟨h1.objs.size,_,_,rfl,by simp[se],nTe,ZM _ T3 (YQ (Y8 dT _)),Y8 dT _,?_⟩⟩
    . rw[Jl _ _ nTe]
      exact e3
    . first|(simp; done)|(rcases ip with rfl|⟨_,_,_,_,_,_,_,rfl⟩<;>simp)
theorem xoa {base:Heap}{env:Env}{outer:List Env}{L e:Addr}{cls:Value}{od tb:Option Addr}{Q:Unit->Shared->Prop}
    (fr:A.frames=some (env::outer)) (ff:s.heap.FunFrames base (env::outer)) (fL:env.frame=some L) (x:Xat s.heap e cls od tb)
    (k:∀ h' T,Stp (xjm (env::outer)) e tb s.heap h'->s.heap.objs.size<=T->Xat h' e cls od (some T)->Q () { s with heap:=h' }) :
    wpAny M A (noteFrame (.ref e) env) (fun _ s'=>wpAny M A (setFlight (.ref e) none) Q E s') E s:=by
  obtain⟨oe,vs,ge,ce,oo,de,se,y⟩:=x;unfold noteFrame;simp only[fL];rcases y with⟨rfl,h1⟩|⟨T,oT,ts,rfl,h1,nTe,gT,dT,h3⟩
  . refine Zb (Yp ge de h1 ?_)
    rw[if_neg (by decide)];exact xlu fr ff fL ge de se ce oo ⟨fun b o hb _ _ _=>hb,fun b o hb _=>⟨o.slots,hb⟩⟩ (Zi _) k
  . refine Zb (Yp ge de h1 ?_)
    rw[if_pos (show (Zm T != ZV)=true from by simp)];refine Zb (Yp gT dT h3 ?_);rw[if_neg (show ¬ ((ZV == rawInt L)=true) from by simp[rawInt])];refine Zb (QZ gT dT (Array.getElem?_eq_some_iff.mp h3).1 ?_);have ot:∀ b,b≠T->(s.heap.update T (YU (·.setIfInBounds 3 ZV))).get? b=s.heap.get? b:=fun b hb=>Jl _ _ (ZF hb);have nr:∀ b o,s.heap.get? b=some o->(∀ vs,o.data≠.fields vs)->b≠T:=fun b o hb hn q=>by
      rw[q] at hb;have z:=gT.symm.trans hb;cases z;exact hn ts dT
    refine xlu (g:=s.heap) fr (ff.of_keeps fun b o hb hn=>⟨o,(ot b (nr b o hb hn)).trans hb,rfl⟩) fL ((ot e (ZF nTe)).trans ge) de se ce oo
      ⟨fun b o hb _ bt _=>(ot b fun z=>bt (congrArg some z.symm)).trans hb,fun b o hb bf=>⟨o.slots,?_⟩⟩ (Nat.le_of_eq (Heap.size_after_update ..).symm) k
    . obtain⟨_,o',ho',hn⟩:=ff.mem bf
      have z:=hb.symm.trans ho';cases z;exact (ot b (nr b _ hb hn)).trans hb
end
section
variable {prog:Program}{w:World}{A:Around}{E:Value->Shared->Prop}{h:Heap}{g:Array GenState}{d:Drawn}{t:Nat}{os:OsState}
variable {nm qn:Str}{C N:Addr}{bs bm bmB:List Value}{hz:Bool}{sn:List Str}{sub:List Value}{ab:Bool}{col:Option Bool}{dd:Option Addr}{k0 k1 k2 k3 k5:Option Value}{B ni ii:String}
theorem xk6 (F:ExcBaseFacts B ni ii bmB) (T:OwnTail h bmB bm) {us:List Value}{fI:Addr}{oI:Obj}{Q:Fin->Shared->Prop}
    (gC:h.get? C=some (excClassObj nm qn C N bs bm hz sn sub ab col dd k0 k1 k2 k3 k5 ni))
    (hi:∀(A':Around) (Q':Option Value->Shared->Prop) (E':Value->Shared->Prop) (s':Shared),(∀ b o,h.get? b=some o->s'.heap.get? b=some o)->Q' (some (.ref fI)) s'->wpAny (model prog w) A' (typeLookup (.ref C) "__init__") Q' E' s')
    (gI:h.get? fI=some oI) (cI:oI.cls=.type "function") (lu:us.length<=sizeLine)
    (k:∀ h' e,Heap.MadeExcOf h h' e (.ref C) us->h.objs.size<=e ->
      wpAny (model prog w) A (call (.ref fI) (.ref e::us)) (fun r s'=>r=.none/\Q (.done (.ret (.ref e))) s') E ⟨h',g,d,t,os⟩) :
    wpAny (model prog w) A (Builtin.«type.__call__» ⟨.ref C::us,[]⟩) Q E ⟨h,g,d,t,os⟩:=by
  repeat (first|with_reducible refine JT gC ?_|with_reducible refine wpAny_madeBy_exc gC ?_|wp_step)
  refine codeAny_call_builtin_code (Code.quiet_builtin _ F.quiet) (wpAny_check_new_subT F T gC ?_);refine codeAny_exc_new_subT F T gC ?_ lu;show wpAny _ _ _ _ _ _;generalize e1:({ cls:=.type "tuple",data:=.seq us.toArray }:Obj)=oT;have fT:oT.isFreed=false:=by rw[<- e1]; rfl
  generalize e2:({ cls:=.ref C,data:=.fields #[.ref h.objs.size,.none,.none,.none,.bool false,.none] }:Obj)=oE;have fE:oE.isFreed=false:=by rw[<- e2]; rfl
  have up:∀ b o,h.get? b=some o->((h.push oT).push oE).get? b=some o:=fun b o q=>Zg oE (Zg oT q);have gC':=up _ _ gC;have gI':=up _ _ gI;have gE:((h.push oT).push oE).get? (h.objs.size+1)=some oE:=by
    have z:=Zx (h.push oT) fE
    rwa [We] at z
  have cE:oE.cls=.ref C:=by rw[<- e2]
  have me:(Zm C::bm).contains (.ref C)=true:=by simp
  unfold isInstance
  repeat (first|(with_reducible refine JT gE ?_; rw[cE])|(with_reducible refine YX gC' ?_; rw[me])|wp_step)
  show wpAny _ _ (typeLookup (.ref C) _) _ _ _;refine hi _ _ _ _ up ?_;refine Jf (Zb ?_);unfold bindSpecial;refine Zb (Yt (T:="function") ⟨_,gI',cI⟩ ?_);rw[if_pos (by decide)];refine Zk (Zb (ZR (k _ (h.objs.size+1) ⟨up,Wh (QW _),h.objs.size,?_,Wh (Zi _),?_⟩ (QW _)) (fun r s' z=>?_) fun _ _ x=>x))
  . rw[e2]; exact gE
  . rw[e1]; exact Zg oE (Zx h fT)
  . obtain⟨rfl,z⟩:=z
    wp_walk
    exact z
theorem xmv (F:ExcBaseFacts B ni ii bmB) (T:OwnTail h bmB bm) {us:List Value}{fI:Addr}{oI:Obj}{Q:Value->Shared->Prop}
    (gC:h.get? C=some (excClassObj nm qn C N bs bm hz sn sub ab col dd k0 k1 k2 k3 k5 ni))
    (hi:∀(A':Around) (Q':Option Value->Shared->Prop) (E':Value->Shared->Prop) (s':Shared),(∀ b o,h.get? b=some o->s'.heap.get? b=some o)->Q' (some (.ref fI)) s'->wpAny (model prog w) A' (typeLookup (.ref C) "__init__") Q' E' s')
    (gI:h.get? fI=some oI) (cI:oI.cls=.type "function") (lu:us.length<=sizeLine)
    (k:∀ h' e,Heap.MadeExcOf h h' e (.ref C) us->h.objs.size<=e ->
      wpAny (model prog w) (A.under (.builtin "type.__call__" ⟨.ref C::us,[]⟩)) (call (.ref fI) (.ref e::us)) (fun r s'=>r=.none/\Q (.ref e) s') E ⟨h',g,d,t,os⟩) :
    wpAny (model prog w) A (call (.ref C) us) Q E ⟨h,g,d,t,os⟩:=by
  have a1:=tc_lookup;have a2:=tc_bind (.ref C);have ty:(⟨h,g,d,t,os⟩:Shared).TypeIs (.ref C) "type":=⟨_,gC,rfl⟩
  refine Q7 (codeAny_of_tree ?_);show wpAny _ _ (callAny (.ref C) _) _ _ _
  repeat (any_goals (first|assumption|with_reducible refine JT gC ?_|wp_step))
  refine⟨rfl,?_⟩;refine codeAny_call_builtin_at (Code.quiet_builtin _ (by decide +kernel)) entry_typeCall (wpAny_check_type_call_sub gC (xk6 F T gC hi gI cI lu fun h' e hm hs=>?_));exact k h' e hm hs
theorem xry {M:Model}{s:Shared}{env:Env}{x:Sem Value}{Q:Flow->Shared->Prop} (hh:A.handled=none)
    (k:wpAny M A x (fun v s1=>∃ e od C nm qn N bs bm hz sn sub ab col dd k0 k1 k2 k3 k5 ni,v=.ref e/\bm.contains (.type "BaseException")=true/\s1.heap.get? C=some (excClassObj nm qn C N bs bm hz sn sub ab col dd k0 k1 k2 k3 k5 ni)/\Xat s1.heap e (.ref C) od none/\E (.ref e) s1) E s) :
    wpAny M A (raiseStmt env (some x) none) Q E s:=by
  unfold raiseStmt;refine Zb (ZR k (fun v s1 z=>?_) fun _ _ x=>x);obtain⟨e,od,C,nm,qn,N,bs,bm,hz,sn,sub,ab,col,dd,k0,k1,k2,k3,k5,ni,rfl,bB,gC,⟨oe,vs,ge,ce,oo,de,se,y⟩,zE⟩:=z;have me:(Zm C::bm).contains (.type "BaseException")=true:=by rw[Ql,bB,JK]
  obtain⟨hp,g,d,tk,os⟩:=s1;rcases y with⟨_,y1⟩|⟨T,_,_,z,_⟩
  . repeat (first|(with_reducible refine JT ge ?_; rw[ce])|with_reducible refine JT gC ?_|(with_reducible refine YX gC ?_; rw[me])|wp_step)
    rw[de];refine Zk ?_;rw[y1];refine Zk ?_;rw[if_neg (by decide)];exact Zk (wpAny_raiseNew_none hh zE)
  . cases z
end
end XL
namespace XL
open PySem PySem.W PySem.Calls PyProof.Rows Builtin Builtin.ObjectAttr
def vErr:List Value:=[.type "ValueError",.type "Exception",.type "BaseException",.type "object"]
def xev:List Value->Bool
 | []=>false
 | .ref c::r=>xev r||((.ref c::r:List Value) == vErr)
 | v::r=>(v::r) == vErr
def xla (K:Frag) (C:Addr):Bool:=(clsIn K C).any fun cd=>xev cd.mro
theorem xi4 (self:Value):∀{l:List Value},xev l=true->refuseLoop self "__setattr__" l=pure ()
 | [],e=>by cases e
 | v::r,e=>by
  have last:((v::r:List Value) == vErr)=true->refuseLoop self "__setattr__" (v::r)=pure ():=fun z=>by
   rw[Qy z];exact PySem.F.store_ValueError.passes self
  cases v with
  | ref c =>
   rcases Bool.or_eq_true_iff.mp e with z|z
   .rw [refuseLoop_ref];exact xi4 self z
   .exact last z
  | _=>exact last e
theorem xgq:∀{l:List Value},xev l=true->l.contains (.type "object")=true/\l.contains (.type "BaseException")=true/\l.isEmpty=false
 | [],e=>by cases e
 | v::r,e=>by
  have last:((v::r:List Value) == vErr)=true->(v::r).contains (.type "object")=true/\(v::r).contains (.type "BaseException")=true/\(v::r).isEmpty=false:=fun z=>by
   rw[Qy z];exact⟨by decide +kernel,by decide +kernel,rfl⟩
  cases v with
  | ref c =>
   rcases Bool.or_eq_true_iff.mp e with z|z
   .obtain ⟨a,b,_⟩:=xgq z;exact⟨by rw[Ql,a,JK],by rw[Ql,b,JK],rfl⟩
   .exact last z
  | _=>exact last e
structure XC (K:Frag) (C:Addr):Prop where
 over:xla K C=true
 hd:hasDictIn K C=true
 sa:findIn K (.ref C) "__setattr__"=some (some (.builtin "object.__setattr__"))
 ga:findIn K (.ref C) "__getattribute__"=some (some (.builtin "BaseException.__getattribute__"))
 gh:findIn K (.ref C) "__getattr__"=some none
 ca:findIn K (.ref C) "__class__"=some (some (.builtin "object.__class__"))
 cg:specialIn K (.builtin "object.__class__") "__get__"=some (some (.builtin "getset_descriptor.__get__"))
 ct:takesIn K (.builtin "object.__class__")=some true
section
variable {prog:Program}{w:World}{A:Around}{E:Value->Shared->Prop}{s:Shared}{K:Frag}{x C dx:Addr}{ox:Obj}{od:Option Obj}{name:Str}{v:Value}{R:Result->Shared->Prop}
theorem XC.mro (c:XC K C):∃ cd,clsIn K C=some cd/\xev cd.mro=true/\cd.hasDict=true:=by
 obtain⟨cd,h1,h2⟩:=any_some c.over;obtain⟨cd',h3,h4⟩:=any_some c.hd;rw[h1] at h3;cases h3;exact⟨cd,h1,h2,h4⟩
theorem XC.isObj (c:XC K C):mroIn K C (.type "object")=some true:=by
 obtain⟨cd,h1,h2,_⟩:=c.mro;obtain⟨a,_,b⟩:=xgq h2;unfold mroIn;rw[h1,Q2,if_neg (by rw[b]; decide),a]
theorem XC.isExc (c:XC K C):mroIn K C (.type "BaseException")=some true:=by
 obtain⟨cd,h1,h2,_⟩:=c.mro;obtain⟨_,a,b⟩:=xgq h2;unfold mroIn;rw[h1,Q2,if_neg (by rw[b]; decide),a]
theorem xq6 {tk:Tok} (X:K.In s.heap) (c:XC K C) (I:InstAt s.heap x ox C od) (ha:findIn K (.ref C) name=some none)
    (h:wpAny (model prog w) A.in1 (storeInOwnDict (.ref x) (.ref C) (.str name tk) name v false)
      (fun fin s'=>match fin with|.done f=>R (.ok f) s'|.again c'=>c'.quiet=true/\codeAny (model prog w) A c' R s') (fun e s'=>R (.error e) s') s) :
    codeAny (model prog w) A (.call (.builtin "object.__setattr__") ⟨[.ref x,.str name tk,v],[]⟩) R s:=by
  have SF:=PySem.F.store_object;obtain⟨cd,hc,hl,_⟩:=c.mro;have sub:Looks (model prog w) s.heap (isInstance (.ref x) (.type "object")) true:=I.type.andThen (looks_mroIn X c.isObj);refine codeAny_call_builtin SF.slot.plain SF.entry (@check_slot (model prog w) _ _ s "object.__setattr__" "object" "__setattr__" (.ref x) [.str name tk,v] [] _ SF.kind SF.split sub (SF.args (.ref x) (.str name tk) v) ?_);have hm:Looks (model prog w) s.heap (mroOf (.ref C)) cd.mro:=(looks_clsIn X hc).andThen .now;rw[osa_eq,refuse_eq];refine Zb (Zb (I.type.here (Zb (hm.here ?_))));rw[xi4 _ hl];refine Zk (Zb (I.type.here (Zb ((looks_findIn X ha).here (Zb ((Looks.now (a:=(none:Option Value))).here ?_))))));exact h
theorem xuz (X:K.In s.heap) (c:XC K C) (hx:s.heap.get? x=some ox) (hc:ox.cls=.ref C) (ho:ox.dict=some dx) {Q:Option Addr->Shared->Prop} (h:Q (some dx) s) :
    wpAny (model prog w) A (ownDictForStores (.ref x)) Q E s:=by
  obtain⟨cd,h1,_,h2⟩:=c.mro;unfold ownDictForStores instanceDict;refine Zb (Qd hx ?_);rw[hc];refine Zb ((looks_clsIn X h1).here ?_);rw[h2,ho];exact Zk h
theorem xt3 {ns:List Str}{mA:Str->Option Value}{Q:Unit->Shared->Prop} (X:K.In s.heap) (c:XC K C) (hx:s.heap.get? x=some ox) (hc:ox.cls=.ref C) (hn:notCls ox=true) (ho:ox.dict=some dx) (hm:s.heap.Ns1 dx mA)
    (ha:findIn K (.ref C) name=some none) (hw:YF mA ns) (hz:ns.length<=sizeLine)
    (h:∀ h',h'.Ns1 dx (fun y=>if y=name then some v else mA y)->ZI dx s.heap h'->Q () { s with heap:=h',toks:=s.toks+2 }) :
    wpAny (model prog w) A (setAttr (.ref x) name v) Q E s:=by
  obtain⟨o1,_,_,g1,_⟩:=id hm;have I:InstAt s.heap x ox C (some o1):=⟨hx,hc,hn,by rw[ho]; exact g1⟩
  refine set_plain X I c.sa (xq6 (s:={ s with toks:=s.toks+1 }) X c I ha ?_);refine Zb (Zk (Zb (xuz (s:={ s with toks:=s.toks+1 }) X c hx hc ho ?_)));refine Zb (Zk (Zb ?_));refine wpAny_nsSet1 (s:={ s with toks:=s.toks+1 }) hm fun h' n2 s2=>?_;obtain⟨oD,eD,pD,gD,dD,cD⟩:=n2.count (YF.cons name v hw);refine Zb (wpAny_lookBehind gD (by rw[dD]; exact pastItsLine_dict (Zs cD (by rw[ZL]; omega))) ?_);exact Zk (h _ n2 s2)
theorem xtr {Q:Unit->Shared->Prop} (X:K.In s.heap) (c:XC K C) (hx:s.heap.get? x=some ox) (hc:ox.cls=.ref C) (hn:notCls ox=true) (ho:ox.dict=none) (hf:ox.isFreed=false)
    (ha:findIn K (.ref C) name=some none)
    (h:∀ h',h'.get? x=some { ox with dict:=some s.heap.objs.size }->h'.Ns1 s.heap.objs.size (fun y=>if y=name then some v else none) ->
      (∀ b o,b≠x->s.heap.get? b=some o->h'.get? b=some o)->s.heap.objs.size<=h'.objs.size->Q () { s with heap:=h',toks:=s.toks+2 }) :
    wpAny (model prog w) A (setAttr (.ref x) name v) Q E s:=by
  obtain⟨cd,h1,_,h2⟩:=c.mro;have I:InstAt s.heap x ox C none:=⟨hx,hc,hn,by rw[ho]; trivial⟩
  refine set_plain X I c.sa (xq6 (s:={ s with toks:=s.toks+1 }) X c I ha ?_);refine Zb (Zk (Zb ?_));unfold ownDictForStores instanceDict;refine Zb (Qd (s:={ s with toks:=s.toks+1 }) hx ?_);rw[hc];refine Zb ((looks_clsIn X h1).here (s:={ s with toks:=s.toks+1 }) ?_);rw[h2,ho,if_neg (by simp)];obtain⟨oc,odi,oda,osl⟩:=ox
  dsimp only at hc ho
  subst hc ho;have hx1:(s.heap.push { cls:=.type "dict",data:=.dict #[] }).get? x=some ⟨.ref C,none,oda,osl⟩:=Zg _ hx;have nx:x≠s.heap.objs.size:=ZD (Zq hx);have key:wpAny (model prog w) A.in1 (do let d <- alloc { cls:=.type "dict",data:=.dict #[] }; update x (fun o=>{ o with dict:=some d }); dictMade (.ref C) x d)
      (fun a s'=>wpAny (model prog w) A.in1 (match a with|some d=>storeInDict d (.str name s.toks) name v|none=>noDictFor (.ref x) (.ref C) name false)
        (fun fin s'=>match fin with
          | .done f=>(match (Except.ok f:Result) with|.ok (.ret _)=>Q () s'|.ok _=>False|.error e=>E e s')
          | .again c'=>c'.quiet=true/\codeAny (model prog w) A c' (fun r s'=>match r with|.ok (.ret _)=>Q () s'|.ok _=>False|.error e=>E e s') s')
        (fun e s'=>E e s') s') (fun e s'=>E e s') { s with toks:=s.toks+1 }:=by
    refine Zb (wpAny_alloc' ?_);refine Zb (wpAny_update' hx1 ?_);refine Zk ?_
    dsimp only
    have g2:((s.heap.push { cls:=.type "dict",data:=.dict #[] }).update x fun o=>{ o with dict:=some s.heap.objs.size }).get? s.heap.objs.size=some { cls:=.type "dict",data:=.dict #[] } :=
      (Heap.get?_update_ne _ _ _ _ nx.symm).trans (Heap.get?_push_at rfl rfl)
    have n2:((s.heap.push { cls:=.type "dict",data:=.dict #[] }).update x fun o=>{ o with dict:=some s.heap.objs.size }).Ns s.heap.objs.size (fun _=>none) :=
      ⟨_,#[],_,g2,rfl,fun e he=>absurd he (by simp),fun _=>rfl⟩
    unfold storeInDict newKeyGuard;refine Zb (Zk (Zb (wpAny_nsSet1 (Heap.Ns1.of_empty n2) fun h' n3 s3=>?_)));obtain⟨oD,eD,pD,gD,dD,cD⟩:=n3.count (Within.cons name v Within.nil);refine Zb (wpAny_lookBehind gD (by rw[dD]; exact pastItsLine_dict (Zs cD (by rw[ZL,QL,Qp]; omega))) ?_);refine Zk (h h' ?_ n3 (fun b o bx hb=>?_) ?_)
    . refine (s3.2 x nx).trans (ZM _ hx1 ?_)
      cases oda<;>first|rfl|exact hf
    . exact (s3.2 b (ZD (Zq hb))).trans ((Heap.get?_update_ne _ _ _ _ bx).trans (Zg _ hb))
    . rw[s3.1,Heap.size_after_update,We]
      exact QW _
  cases oda<;>first|exact key|cases hn
theorem xso (v:Value):bindSpecial (.builtin "BaseException.__getattribute__") v=pure (.builtin "BaseException.__getattribute__",[v]):=by
 have f:=PySem.F.attr_ValueError.ga.bind v;exact f
theorem xqh:plainId "BaseException.__getattribute__"=true:=PySem.F.attr_ValueError.ga.plain
theorem xnd {Q:Value->Shared->Prop}{expr fill:Bool}{tk:Tok} (X:K.In s.heap) (c:XC K C) (I:InstAt s.heap x ox C od)
    (h:wpAny (model prog w) A.in1 (Builtin.«object.__getattribute__» ⟨[.ref x,.str name tk],[]⟩)
      (fun fin s'=>match fin with|.done (.ret v)=>wpAny (model prog w) A (handedOut v) Q E s'|_=>False) (fun _ _=>False) s) :
    wpAny (model prog w) A (getAttrBy (.ref x) (.str name tk) fill expr) Q E s:=by
  obtain⟨hh,g,d,t,os⟩:=s;have L0:=I.type (M:=model prog w);have L1:=looks_findIn (M:=model prog w) X c.ga;have L2:=looks_findIn (M:=model prog w) X c.gh;have sub:Looks (model prog w) hh (isInstance (.ref x) (.type "BaseException")) true:=I.type.andThen (looks_mroIn X c.isExc);have f2:(onTheHeap (Zm C)&&Yh "BaseException.__getattribute__" == Yh "object.__getattribute__")=false:=by
    rw[show (Yh "BaseException.__getattribute__" == Yh "object.__getattribute__")=false from by decide +kernel]; rfl
  have f3:(expr&&onTheHeap (Yh "BaseException.__getattribute__"))=false:=by cases expr<;>rfl
  unfold getAttrBy;refine Jf (Zb (L0.at (Zb (L1.at ?_))))
  dsimp only
  rw[f2];simp only[ZX,if_false];unfold getAttrByItsOwn hookBefore;refine Zb (L2.at (Zb (Qu (Jf ?_))));unfold callGetattribute;rw[f3];simp only[ZX,if_false];unfold boundAndCalled;rw[xso];refine Zb (Zk (Q7 (codeAny_call_builtin xqh PySem.F.entry_bexc_ga
    (@check_slot (model prog w) _ _ ⟨hh,g,d,t,os⟩ "BaseException.__getattribute__" "BaseException" "__getattribute__" (.ref x) [.str name tk] [] _ (by decide +kernel) (by decide +kernel) sub (PySem.F.args_bexc_ga _ _) ?_))))
  refine ZR h (fun fin s' z=>?_) fun e s' z=>z.elim;rcases fin with (_|_|_|_)|_<;>first|exact z|exact z.elim
theorem xux {Q:Value->Shared->Prop}{expr:Bool} (X:K.In s.heap) (c:XC K C) (hx:s.heap.get? x=some ox) (hc:ox.cls=.ref C) (hn:notCls ox=true) (ho:ox.dict=some dx) {o1:Obj} (g1:s.heap.get? dx=some o1) (hl:lookIn name o1=some (some v))
    (ha:findIn K (.ref C) name=some none) (hv:handedIn v=true) (h:Q v { s with toks:=s.toks+1 }) :
    wpAny (model prog w) A (getAttr (.ref x) name expr) Q E s:=by
  have I:InstAt s.heap x ox C (some o1):=⟨hx,hc,hn,by rw[ho]; exact g1⟩
  have hf:findObj K C (some o1) name=some (.value v):=findObj_own c.hd ha rfl hl;unfold getAttr;refine Zb (wpAny_mkText ?_);refine xnd (s:={ s with toks:=s.toks+1 }) X c I ?_;have L0:=I.type (M:=model prog w);have L1:=looks_find (M:=model prog w) X I hf;obtain⟨hh,g,d,t,os⟩:=s;refine Zb (Zk (Zb (Zk (Zb (L0.at (Zb (L1.at ?_)))))));refine Zk ?_;show wpAny _ _ (handedOut v) _ _ _;rw[handedOut_of hv];exact Zk h
theorem xpb {Q:Option Value->Shared->Prop} (X:K.In s.heap) (c:XC K C) (I:InstAt s.heap x ox C od) (h:Q (some (.ref C)) { s with toks:=s.toks+1 }) :
    wpAny (model prog w) A (getAttr? (.ref x) "__class__") Q E s:=by
  obtain⟨cd,h1,_,h2⟩:=c.mro;have hf:findObj K C od "__class__"=some (.bind (.builtin "getset_descriptor.__get__") (.builtin "object.__class__")):=by
    unfold findObj;rw[h1,Q2,c.ca,Q2];simp[c.cg,c.ct]
  unfold getAttr? getAttrBy?;refine Zb (wpAny_mkText (Zb (Qu ?_)));refine xnd (s:={ s with toks:=s.toks+1 }) X c I ?_;have L0:=I.type (M:=model prog w);have L1:=looks_find (M:=model prog w) X I hf;refine Zb (Zk (Zb (Zk (Zb (L0.here (s:={ s with toks:=s.toks+1 }) (Zb (L1.here (s:={ s with toks:=s.toks+1 }) ?_)))))));show wpAny _ _ (holding [_] (call _ [_,.ref x,.ref C])>>=ret) _ _ _;refine Zb (Jf (Q7 (class_get (s:={ s with toks:=s.toks+1 }) (ox:=ox) (od:=od) X I c.isObj ?_)));refine Zk ?_;show wpAny _ _ (handedOut (.ref C)) _ _ _;exact Zk (Zk h)
end
end XL
namespace XL
open PySem
theorem xqm {x y:Str}{v:Value} (hx:v.isStr x=true) (n:y≠x):v.isStr y=false:=by
 cases v<;>simp_all[Value.isStr];exact fun z=>n z.symm
theorem xhf {name y:Str} (n:y≠name):∀(l:List DictEntry) (i:Nat),l.findIdx? (·.key.isStr name)=some i->(l.eraseIdx i).find? (·.key.isStr y)=l.find? (·.key.isStr y)
 | [],i,h=>by simp at h
 | e::r,i,h=>by
  rw[List.findIdx?_cons] at h;by_cases q:e.key.isStr name=true
  .rw [if_pos q] at h;cases h;have z:=xqm q n;simp[z]
  .rw [if_neg q] at h;cases hi:r.findIdx? (·.key.isStr name) with
   | none=>rw[hi] at h; cases h
   | some j =>
    rw[hi] at h;cases h;have ih:=xhf n r j hi;simp only[List.eraseIdx_cons_succ,Yg];split
    .rfl
    .exact ih
section
variable {M:Model}{A:Around}{E:Value->Shared->Prop}{s:Shared}{env:Env}
theorem xrr {a:Addr}{m:Str->Option Value}{name:Str}{Q:Bool->Shared->Prop} (hn:s.heap.Ns a m)
    (k:∀ h' m',h'.Ns a m'->(∀ y,y≠name->m' y=m y)->ZI a s.heap h'->Q (m name).isSome { s with heap:=h' }):wpAny M A (nsDel a name) Q E s:=by
  obtain⟨o,es,ep,ho,hd,hk,hm⟩:=id hn;have nor:es.any (·.refKey)=false:=by
    rw[Array.any_eq_false'];intro e he;obtain⟨n,t,h⟩:=hk e he;simp[DictEntry.refKey,h]
  have some_eq:(m name).isSome=es.any (·.key.isStr name):=by
    rw[<- hm name];simp only[nsFind,findBy,Ym];rw[Je];simp only[Array.find?_isSome,Array.any_eq_true];constructor
    . rintro ⟨z,hz,hp⟩
      obtain⟨i,hi,rfl⟩:=Array.mem_iff_getElem.mp hz;exact⟨i,hi,hp⟩
    . rintro ⟨i,hi,hp⟩
      exact⟨_,Array.getElem_mem hi,hp⟩
  have has:nsHas name o=pure (es.any (·.key.isStr name)):=by
    rw[nsHas_eq];unfold nsHasByArray;rw[hd];show (if (es.any fun z=>z.key.isStr name)=true then _ else _)=_;generalize (es.any fun z=>z.key.isStr name)=b;cases b<;>simp[nor]
  unfold nsDel;refine Zb (Qd ho ?_);rw[has];refine Zb (Zk ?_);rw[<- some_eq];cases q:(m name).isSome
  . have z:=k s.heap m hn (fun _ _=>rfl) (.refl ..)
    rw[q] at z;exact Zk z
  . refine Zb (wpAny_updatePart ho (Zk ?_))
    have key:∃ m',(s.heap.update a (Obj.dropName name)).Ns a m'/\∀ y,y≠name->m' y=m y:=by
      obtain⟨cl,d,dt,sl⟩:=o;subst hd;cases hi:es.findIdx? (·.key.isStr name) with
      | none =>
        exact⟨m,⟨_,_,ep,ZM _ ho (by simp only[QK,YY,hi]<;>rfl),(by simp only[QK,YY,hi]<;>rfl),hk,hm⟩,fun _ _=>rfl⟩
      | some i =>
        refine⟨_,⟨_,_,ep+1,ZM _ ho (by simp only[QK,YY,hi]<;>rfl),(by simp only[QK,YY,hi]<;>rfl),hk.erase i,fun _=>rfl⟩,fun y hy=>?_⟩;rw[<- hm y];obtain⟨l⟩:=es;have hi':l.findIdx? (·.key.isStr name)=some i:=by simpa using hi
        have z:=xhf hy l i hi';simp only[nsFind,findBy];have il:i<l.length:=by
          have:=List.findIdx?_eq_some_iff_findIdx_eq.mp hi';exact this.1
        have e1:(Array.mk l).eraseIdxIfInBounds i=Array.mk (l.eraseIdx i):=by
          simp[Array.eraseIdxIfInBounds,il]
        rw[e1];simp only[List.find?_toArray];rw[z]
    obtain⟨m',n',e'⟩:=key;have z:=k _ m' n' e' (ZI.update ..);rw[q] at z;exact z
theorem xoy {n:Str}{pos:Pos}{m:Str->Option Value}{Q:Unit->Shared->Prop} (hl:env.kindOf n=some .local) (hn:s.heap.Ns env.locals m)
    (hp:(env.scope.kind == .class||(env.scope.kind == .module&&env.locals != env.globals))=false)
    (h:∀ h' m',h'.Ns env.locals m'->(∀ y,y≠n->m' y=m y)->ZI env.locals s.heap h'->Q () { s with heap:=h',toks:=s.toks+1 }) :
    wpAny M A (do bindName env n .none; unbindBehindTheSuite env n pos) Q E s:=by
  refine Zb (wpAny_bindName (wpAny_storeName_local hl hn (fun h1 n1 s1=>?_) hp));unfold unbindBehindTheSuite;refine wpAny_onRaise ?_;unfold unbindName;refine Zb (wpAny_point (Zb ?_));unfold deleteName;simp only[hl,hp];rw[if_neg (by decide)];refine Zb (xrr n1 fun h2 m2 n2 e2 s2=>?_);simp only[if_true,Option.isSome_some,Bool.not_true,ZX,if_false];refine Zk (wpAny_point (h h2 m2 n2 (fun y hy=>?_) (s1.trans s2)));rw[e2 y hy,if_neg hy]
end
end XL
namespace L2
open PySem PySem.Spec PyProof.Rows XL
variable {q0:Bool}
def XN (e C:Addr) (od:Option Addr):HO:=.ext fun h=>Xat h e (.ref C) od none
def XO (e C:Addr) (od:Option Addr):HO:=.ext fun h=>∃ ox vs,h.get? e=some ox/\ox.cls=.ref C/\ox.dict=od/\ox.data=.fields vs
def XD (dx:Addr) (fs:List (Str × V)):HO:=.ext fun h=>fs.length<=1000/\∃ mA,h.Ns1 dx mA/\(∀ f,RelO (fs.lookup f) (mA f))/\YF mA (fs.map (·.1))
section
variable {P:Program}{w:World}{H:Hp}{h:Heap}{e C dx:Addr}{od:Option Addr}{fs:List (Str × V)}
theorem xq0 (x:Xat h e (.ref C) od none):xao P w H h e (XN e C od):=by
 refine⟨x,?_,fun h1 h2 z k=>?_⟩
 .obtain ⟨oe,_,g,_⟩:=x;exact⟨oe,g⟩
 .obtain ⟨oe,vs,g,c,o,d,sz,y⟩:=z;rcases y with y|⟨T,_,_,z,_⟩
  .exact ⟨oe,vs,k oe g,c,o,d,sz,.inl y⟩
  .cases z
theorem xqv (x:∃ ox vs,h.get? e=some ox/\ox.cls=.ref C/\ox.dict=od/\ox.data=.fields vs):xao P w H h e (XO e C od):=by
 refine⟨x,?_,fun h1 h2 z k=>?_⟩
 .obtain ⟨oe,_,g,_⟩:=x;exact⟨oe,g⟩
 .obtain ⟨oe,vs,g,c,o,d⟩:=z;exact⟨oe,vs,k oe g,c,o,d⟩
theorem xn7 {tb:Option Addr} (x:Xat h e (.ref C) od tb):∃ ox vs,h.get? e=some ox/\ox.cls=.ref C/\ox.dict=od/\ox.data=.fields vs:=by
 obtain⟨oe,vs,g,c,o,d,_⟩:=x;exact⟨oe,vs,g,c,o,d⟩
theorem xtg {h1 h2:Heap}{m:Str->Option Value} (n:h1.Ns1 dx m) (k:∀ o,h1.get? dx=some o->h2.get? dx=some o):h2.Ns1 dx m:=by
 obtain⟨o,es,ep,g,r⟩:=n;exact⟨o,es,ep,k o g,r⟩
theorem xqu (hl:fs.length<=1000) {mA:Str->Option Value} (n:h.Ns1 dx mA) (r:∀ f,RelO (fs.lookup f) (mA f)) (wi:YF mA (fs.map (·.1))):xao P w H h dx (XD dx fs):=by
 refine⟨⟨hl,mA,n,r,wi⟩,?_,fun h1 h2 z k=>?_⟩
 .obtain ⟨o,es,ep,g,_⟩:=n;exact⟨o,g⟩
 .obtain ⟨hl,mA,n,r,wi⟩:=z;exact⟨hl,mA,xtg n k,r,wi⟩
end
def CXo (P:Program) (w:World):CXT:=fun outer H s E u s'=>∃ e C od H' T,u=.ref e/\s'.os=s.os/\AllBare s'.gens/\Un (frs outer) [] H H' s.heap s'.heap/\HOk P w H' s'.heap /\
 Xat s'.heap e (.ref C) od (some T)/\H' e=some (XO e C od)/\s.heap.objs.size<=T/\H' T=none/\E e C H'
def Tbs (X:Cx) (pins:List (Addr × Obj)) (H:Hp) (tb:Option Addr):Prop:=∀ T,tb=some T->X.s₀.heap.objs.size<=T/\H T=none/\T≠X.env.locals/\(∀ x c,X.env.cells.lookup x=some c->c≠T)/\∀ p∈X.pn++pins,p.1≠T
def xgd (X:Cx) (E:St->XK):Prop:=∀(pins:List (Addr × Obj)) (σ:St) (H:Hp) (s:Shared) (e C:Addr) (od tb:Option Addr),Inv X pins σ H s->Xat s.heap e (.ref C) od tb->H e=some (XO e C od) ->
 Tbs X pins H tb->E σ e C H->X.xe (.ref e) s
section
variable {X:Cx}{pins:List (Addr × Obj)}{σ:St}{H:Hp}{s:Shared}{e C:Addr}{od tb:Option Addr}
theorem Inv.size_lt (I:Inv X pins σ H s) {b:Addr} (h:s.heap.objs.size<=b):H b=none/\b≠X.env.locals/\(∀ x c,X.env.cells.lookup x=some c->c≠b)/\∀ p∈X.pn++pins,p.1≠b:=by
 refine⟨I.hok.fresh h,fun z=>?_,fun x c hc z=>?_,fun p hp z=>?_⟩
 .rw [z] at h;exact absurd I.lt (Wr.mpr h)
 .obtain ⟨v,o,ho,_⟩:=I.cell x c hc;rw[z] at ho;exact absurd (Zq ho) (Wr.mpr h)
 .have g:=(I.pin p hp).1;rw[z] at g;exact absurd (Zq g) (Wr.mpr h)
theorem Inv.noted {h':Heap}{T:Addr} (I:Inv X pins σ H s) (he:H e=some (XO e C od)) (tbs:Tbs X pins H tb) (st:Stp (frs X.stack) e tb s.heap h') (x:Xat h' e (.ref C) od (some T)) :
    Inv X pins σ H { s with heap:=h' }:=by
  have neE:∀ b,H b=none->b≠e:=fun b n z=>by rw[z,he] at n; cases n
  have neT:∀ b u,H b=some u->tb≠some b:=fun b u hb z=>by rw[(tbs b z).2.1] at hb; cases hb
  have nfr:∀ b u,H b=some u->b∉frs X.stack:=fun b u hb z=>by rw[I.stkFree b z] at hb; cases hb
  have kp:∀ b u o,H b=some u->b≠e->s.heap.get? b=some o->h'.get? b=some o:=fun b u o hb ne g=>st.keep b o g ne (neT b u hb) (nfr b u hb);have un:Un (frs X.stack) tb.toList H H s.heap h':=by
    refine⟨fun b o g n hb hx=>st.keep b o g (neE b n) (fun z=>hx (by rw[z]; simp)) hb,fun b o g n hb hx=>st.slot b o g hb,fun b o g n hx=>n,fun b o g hx=>?_,fun b xs z=>z,fun b o u z=>z,fun b ps z=>⟨#[],by rw[z]; simp⟩⟩;by_cases b1:b=e
    . subst b1
      obtain⟨oe,_,ge,_⟩:=x;exact⟨oe,ge⟩
    . by_cases b2:b∈frs X.stack
      . obtain⟨sl,q⟩:=st.slot b o g b2
        exact⟨_,q⟩
      . exact⟨o,st.keep b o g b1 (fun z=>hx (by rw[z]; simp)) b2⟩
  have hok:HOk X.prog X.w H h':=fun b u hb=>by
    by_cases b1:b=e
    . subst b1
      rw[he] at hb;cases hb;exact xqv (xn7 x)
    . refine (I.hok b u hb).stay (fun c v hc q=>?_) (fun c q=>q) fun c xs q=>q
      rcases hc with rfl|hc
      . exact kp c u v hb b1 q
      . exact kp c _ v hc (fun z=>by rw[z,he] at hc; cases hc) q
  refine I.call (g':=s.gens) (d':=s.drawn) (t':=s.toks) (ch:=tb.toList) un hok I.bare fun b hb=>?_;have z:tb=some b:=by
    cases tb with
    | none=>simp at hb
    | some T'=>simp at hb; rw[hb]
  obtain⟨a1,_,a3,a4,a5⟩:=tbs b z;exact⟨.inr a1,a3,a4,a5⟩
theorem xgd.pass {E:St->XK} (t:xgd X E):xdv (CXo X.prog X.w) X E:=fun pins σ H s u s' I h=>by
 obtain⟨e,C,od,H',T,rfl,os,bare,un,hok,x,he,sT,hT,q⟩:=h;have J:Inv X pins σ H' s':=I.call' os un hok bare (ch:=[]) fun b z=>absurd z (by simp);refine t pins σ H' s' e C od (some T) J x he (fun T' z=>?_) q;cases z;obtain⟨_,a,b,c⟩:=I.size_lt sT;exact⟨Zs I.sz sT,hT,a,b,c⟩
theorem xn:xdv (CXo X.prog X.w) X (fun _ _ _ _=>False):=fun pins σ H s u s' I h=>by
 obtain⟨e,C,od,H',T,_,_,_,_,_,_,_,_,_,q⟩:=h;exact q.elim
theorem xa8 {P:Program}{w:World}{K:Zd}{mg:Str->Option Value}{base:Heap}{N:List Str}{qual:Str}{scope:Scope}{f:Addr}{cd:Value}{A:Around}{outer:List Env}{s₀:Shared}{H₀:Hp}{E:XK} :
    xgd (cxOf q0 (CXo P w) P w K mg base N qual scope f cd A outer s₀ H₀ E) (fun _=>E):=fun pins σ H s e C od tb I x he tbs q=>by
  show wpAny (model P w) _ (leaving _ (.ref e)) _ _ s;unfold leaving;refine Zb (xoa (L:=s₀.heap.objs.size) I.ok.frames I.stack rfl x fun h' T st sT x'=>?_);have J:=I.noted he tbs st x';exact⟨e,C,od,H,T,rfl,J.os,J.bare,J.base,J.hok,x',he,Zs I.sz sT,I.hok.fresh sT,q⟩
end
end L2
namespace XL
open PySem PySem.W
def xnu (e:DictEntry):Bool:=match e.key with|.str _ _=>true|_=>false
def xgr (K:Frag) (ns:Addr):Bool:=match K.lookup ns with
 | some ⟨_,_,.dict es _,_⟩=>es.toList.all xnu&&!(es.toList.any (·.key.isStr "__init__"))
 | _=>false
def xg4 (K:Frag):List Value->Bool
  | []=>false
  | .ref a::r=>(match K.lookup a with
      | some ⟨_,_,.cls cd,_⟩=>xgr K cd.ns&&xg4 K r
      | _=>false)
  | v::r=>(v::r) == vErr
theorem xvk {K:Frag}{h:Heap}{ns:Addr} (X:K.In h) (e:xgr K ns=true):∃ mA,h.Ns ns mA/\mA "__init__"=none:=by
 unfold xgr at e;split at e
 .rename_i es n sl ho
  obtain⟨e1,e2⟩:=Bool.and_eq_true_iff.mp e;refine⟨_,⟨_,es,_,X _ _ ho,rfl,fun z hz=>?_,fun _=>rfl⟩,?_⟩
  .have q:=Yx.mp e1 z (Wi.mpr hz);unfold xnu at q;split at q
   .rename_i a b c
    exact⟨a,b,c⟩
   .cases q
  .unfold nsFind findBy;rw[<- Array.find?_toList];have z:es.toList.find? (fun e=>e.key.isStr "__init__")=none:=by
    rw[List.find?_eq_none];intro y hy q;rw[Yo,List.any_eq_false] at e2;exact e2 y hy q
   rw[z];rfl
 .cases e
theorem xl5 {K:Frag}{h:Heap} (X:K.In h):∀{l:List Value},xg4 K l=true->OwnTail h vErr l
 | [],e=>by cases e
 | v::r,e=>by
  have last:((v::r:List Value) == vErr)=true->OwnTail h vErr (v::r):=fun z=>by
   rw[Qy z];exact .base
  cases v with
  | ref a =>
   unfold xg4 at e;split at e
   .rename_i c d cd sl ho
    obtain⟨e1,e2⟩:=Bool.and_eq_true_iff.mp e;obtain⟨mA,n,z⟩:=xvk X e1;exact .own (X _ _ ho) n z (xl5 X e2)
   .cases e
  | _=>exact last e
def xek (K:Frag) (C:Addr):Bool:=match K.lookup C with
 | some ⟨.type "type",_,.cls cd,sl⟩=>(match cd.mro,sl.toList with
  | .ref C'::bm,[_,_,_,_,some (.builtin i),_]=>C' == C&&!cd.hasDel&&i == "ValueError.__new__"&&xg4 K bm
  | _,_=>false)
 | _=>false
theorem xhk {K:Frag}{h:Heap}{C:Addr} (X:K.In h) (q:xek K C=true):∃ nm qn N bs bm hz sn sub ab col dd k0 k1 k2 k3 k5,
    h.get? C=some (excClassObj nm qn C N bs bm hz sn sub ab col dd k0 k1 k2 k3 k5 "ValueError.__new__")/\OwnTail h vErr bm:=by
  unfold xek at q;split at q
  . rename_i dd cd sl ho
    split at q
    . rename_i C' bm k0 k1 k2 k3 n k5 hm hs
      simp only[Zr,beq_iff_eq,Yo] at q;obtain⟨⟨⟨rfl,hdel⟩,rfl⟩,ht⟩:=q;obtain⟨nm,bs,mro,ns,qn,hd,sn,sub,ab,col,del⟩:=cd
      dsimp only at hm hdel
      subst hm hdel;have hsl:sl=#[k0,k1,k2,k3,some (.builtin "ValueError.__new__"),k5]:=by
        obtain⟨l⟩:=sl;simp only at hs;rw[hs]
      subst hsl;exact⟨nm,qn,ns,bs,bm,hd,sn,sub,ab,col,dd,k0,k1,k2,k3,k5,X _ _ ho,xl5 X ht⟩
    . cases q
  . cases q
end XL
namespace L2
open PySem PySem.Spec PyProof.Rows XL
variable {q0:Bool}
section
variable {X:Cx}{pins:List (Addr × Obj)}{σ:St}{H:Hp}{s:Shared}{a C dx:Addr}{od:Option Addr}{fs:List (Str × V)}{f:Str}{v y:V}{u:Value}{A:Around}{E:Value->Shared->Prop}
theorem xjj (I:Inv X pins σ H s) (e:H a=some (XN a C od)):Xat s.heap a (.ref C) od none:=(I.hok a _ e).1
theorem xra (I:Inv X pins σ H s) (e:H a=some (XO a C od)):∃ ox vs,s.heap.get? a=some ox/\ox.cls=.ref C/\ox.dict=od/\ox.data=.fields vs:=(I.hok a _ e).1
theorem xjn (I:Inv X pins σ H s) (e:H dx=some (XD dx fs)):fs.length<=1000/\∃ mA,s.heap.Ns1 dx mA/\(∀ f,RelO (fs.lookup f) (mA f))/\YF mA (fs.map (·.1)):=(I.hok dx _ e).1
theorem xd8 {o:Obj}{vs:Array Value} (d:o.data=.fields vs):PySem.W.notCls o=true:=by
 unfold PySem.W.notCls;rw[d]
theorem xqn {Q:Unit->Shared->Prop} (I:Inv X pins σ H s) (e:H a=some (XN a C none)) (c:XC X.K C) (n:ZB X.K (.ref C) f=some none) (ry:RelV y u)
    (h:∀ dx s',H dx=none->Inv X pins σ (upd (upd H dx (XD dx [(f,y)])) a (XN a C (some dx))) s'->Q () s'):wpAny (model X.prog X.w) A (setAttr (.ref a) f u) Q E s:=by
  obtain⟨oe,vs,g,ce,oo,de,sz,tb⟩:=xjj I e;refine xtr I.kIn c g ce (xd8 de) oo (YQ de) n fun h' g' n' k sz'=>h s.heap.objs.size _ (I.hok.fresh (Zi _)) ?_;have hN:H s.heap.objs.size=none:=I.hok.fresh (Zi _);have nad:a≠s.heap.objs.size:=fun z=>by rw[z,hN] at e; cases e
  have na:∀ b,H b=none->b≠a:=fun b nb z=>by rw[z,e] at nb; cases nb
  have nd:∀ b o,s.heap.get? b=some o->b≠s.heap.objs.size:=fun b o gb=>ZD (Zq gb);have nd':∀ b u,H b=some u->b≠s.heap.objs.size:=fun b u hb z=>by rw[z,hN] at hb; cases hb
  have at1:∀ b,b≠a->b≠s.heap.objs.size->upd (upd H s.heap.objs.size (XD s.heap.objs.size [(f,y)])) a (XN a C (some s.heap.objs.size)) b=H b:=fun b b1 b2=>by rw[xh b1,xh b2]
  have xnew:Xat h' a (.ref C) (some s.heap.objs.size) none:=⟨_,vs,g',ce,rfl,de,sz,by
    rcases tb with t|⟨T,_,_,z,_⟩
    . exact .inl t
    . cases z⟩
  have own1:∀ b c,H c=some (.own b)->c≠a:=fun b c hc z=>by rw[z,e] at hc; cases hc
  have tup1:∀ c xs,H c=some (.tup xs)->c≠a:=fun c xs hc z=>by rw[z,e] at hc; cases hc
  refine I.un ⟨fun b o gb nb _ _=>k b o (na b nb) gb,fun b o gb nb _ _=>⟨o.slots,k b o (na b nb) gb⟩,fun b o gb nb _=>?_,fun b o gb _=>?_,fun b xs z=>?_,fun b o w z=>?_,fun b ps z=>⟨#[],?_⟩⟩ fun b w hb=>?_
  . rw[at1 b (na b nb) (nd b o gb)]; exact nb
  . by_cases b1:b=a
    . exact⟨_,by rw[b1]; exact g'⟩
    . exact⟨o,k b o b1 gb⟩
  . rw[at1 b (tup1 b xs z) (nd' b _ z)]; exact z
  . rw[at1 b (fun q=>by rw[q,e] at z; cases z) (nd' b _ z)]; exact z
  . rw[at1 b (fun q=>by rw[q,e] at z; cases z) (nd' b _ z),z]; simp
  . by_cases b1:b=a
    . subst b1
      rw[xf] at hb;cases hb;exact xq0 xnew
    . rw[xh b1] at hb
      by_cases b2:b=s.heap.objs.size
      . subst b2
        rw[xf] at hb;cases hb;refine xqu (by show 1<=1000; decide) n' (fun g=>?_) fun g hg=>?_
        . show RelO (Jc g [(f,y)]) (if g=f then some u else none)
          by_cases q:g=f
          . rw[if_pos q,q]
            simp only[Zw,beq_self_eq_true];exact ry
          . rw[if_neg q]
            simp only[Zw,beq_eq_false_iff_ne.mpr q];exact trivial
        . by_cases q:g=f
          . simp[q]
          . exact absurd (show (if g=f then some u else none)=none from if_neg q) hg
      . rw[xh b2] at hb
        refine (I.hok b w hb).stay (fun c v hc q=>?_) (fun c q=>?_) fun c xs q=>?_
        . rcases hc with rfl|hc
          . exact k c v b1 q
          . exact k c v (own1 b c hc) q
        . rw[at1 c (own1 b c q) (nd' c _ q)]; exact q
        . rw[at1 c (tup1 c xs q) (nd' c _ q)]; exact q
theorem xpg {Q:Unit->Shared->Prop} (I:Inv X pins σ H s) (e:H a=some (XN a C (some dx))) (ed:H dx=some (XD dx fs)) (hl:fs.length<1000) (c:XC X.K C) (n:ZB X.K (.ref C) f=some none) (ry:RelV y u)
    (h:∀ s',Inv X pins σ (upd H dx (XD dx (putF f y fs))) s'->Q () s'):wpAny (model X.prog X.w) A (setAttr (.ref a) f u) Q E s:=by
  obtain⟨oe,vs,g,ce,oo,de,sz,tb⟩:=xjj I e;obtain⟨_,mA,nm,r,wi⟩:=xjn I ed;have hz:(fs.map (·.1)).length<=sizeLine:=by rw[Za,Qp]; omega
  refine xt3 I.kIn c g ce (xd8 de) oo nm n wi hz fun h' n' sb=>h _ ?_;have hd:∃ o,h'.get? dx=some o:=let ⟨o,_,_,e',_⟩:=n'; ⟨o,e'⟩;refine I.write (x:=dx) (e:=dx) (by rw[ed]; exact Jv) (.inl rfl) (fun b q hb z=>(sb.2 b hb).trans z) hd ?_;refine xqu (Zs (xep f y fs) hl) n' (fun g=>?_) fun g hg=>?_
  . show RelO ((putF f y fs).lookup g) (if g=f then some u else mA g)
    rw[xen];by_cases q:g=f
    . rw[if_pos q,if_pos q]; exact ry
    . rw[if_neg q,if_neg q]; exact r g
  . by_cases q:g=f
    . rw[q]; exact (xdt f y fs).1
    . refine (xdt f y fs).2 g (wi g fun z=>hg ?_)
      show (if g=f then some u else mA g)=none;rw[if_neg q]; exact z
theorem xrv {b:Bool}{Q:Value->Shared->Prop} (I:Inv X pins σ H s) (e:H a=some (XO a C (some dx))) (ed:H dx=some (XD dx fs)) (c:XC X.K C) (n:ZB X.K (.ref C) f=some none) (l:fs.lookup f=some v)
    (h:∀ u s',Inv X pins σ H s'->RelV v u->Q u s'):wpAny (model X.prog X.w) A (getAttr (.ref a) f b) Q E s:=by
  obtain⟨ox,vs,g,ce,oo,de⟩:=xra I e;obtain⟨_,mA,nm,r,wi⟩:=xjn I ed;obtain⟨u,hu,ru⟩:=RelO.some_of (v:=v) (o:=mA f) (by rw[<- l]; exact r f);obtain⟨o1,g1,hl⟩:=xi1 nm;exact xux I.kIn c g ce (xd8 de) oo g1 (by rw[hl,hu]) n (xiq ru) (h u _ (I.tok _) ru)
end
def sXF (K:Zd) (ta tv:TE) (f:Str):TS:=fun D σ H=>tv σ H fun y H1=>ta σ H1 fun x H2=>∃ a C,x=.ref a/\XC K C/\ZB K (.ref C) f=some none /\
  ((H2 a=some (XN a C none)/\∀ dx,H2 dx=none->D.nx σ (upd (upd H2 dx (XD dx [(f,y)])) a (XN a C (some dx)))) \/
   ∃ dx fs,H2 a=some (XN a C (some dx))/\H2 dx=some (XD dx fs)/\fs.length<1000/\D.nx σ (upd H2 dx (XD dx (putF f y fs))))
def tXF (K:Zd) (ta:TE) (f:Str):TE:=fun σ H Q=>ta σ H fun x H1=>∃ a C dx fs v,x=.ref a/\H1 a=some (XO a C (some dx))/\H1 dx=some (XD dx fs)/\XC K C/\ZB K (.ref C) f=some none/\fs.lookup f=some v/\Q v H1
section
variable {X:Cx}{o e value:Expr}{f:Str}{pos pos' tpos:Pos}{ta tv te:TE}
theorem xlp (ha:PE X o ta) (hv:PE X value tv) (hs:swapsWith value (some (.Attribute o f pos')) pos.line X.env=pure false):PS X (.Assign [.Attribute o f pos'] value pos) (sXF X.K ta tv f):=by
 intro pins s σ H D I h;refine plainObj_wpAny_Assign_Attribute (thn (hv pins s σ H _ I h) fun u s1 ⟨y,H1,I1,ry,q⟩=>thn (ha pins s1 σ H1 _ I1 q) fun ov s2 ⟨x,H2,I2,rx,a,C,ex,c,n,q2⟩=>?_) hs;subst ex;obtain rfl:ov=Zm a:=rx;rcases q2 with⟨ea,q2⟩|⟨dx,fs,ea,ed,hl,q2⟩
 .exact xqn I2 ea c n ry fun dx s3 nd I3=>⟨σ,_,I3,q2 dx nd⟩
 .exact xpg I2 ea ed hl c n ry fun s3 I3=>⟨σ,_,I3,q2⟩
theorem xle (he:PE X e te) (hb:attributeBase e f X.env (eval e X.env)=eval e X.env):PE X (.Attribute e f pos) (tXF X.K te f):=by
 intro pins s σ H Q I h;refine xl0 hb (thn (he pins s σ H _ I h) fun u s1 ⟨x,H1,I1,rx,a,C,dx,fs,v,ex,ea,ed,c,n,l,q⟩=>?_);subst ex;obtain rfl:u=Zm a:=rx;exact xrv I1 ea ed c n l fun u' s2 I2 ru=>⟨v,H1,I2,ru,q⟩
end
structure XMk (K:Zd) (C f:Addr):Prop where
 makes:xek K C=true
 init:ZB K (.ref C) "__init__"=some (some (.ref f))
 fn:ZK K (.ref f)=true
 kp:Jm K (.ref C)=true
def xt1 (C:Addr) (sp:Sp) (dvs:List V) (t:TA):TE:=fun σ H Q=>t σ H fun vs H1=>vs.length<=1000/\∀ e,H1 e=none ->
 sp (.ref e::(vs++dvs)) (upd H1 e (XN e C none)) (fun v H2=>v=.non/\Q (.ref e) H2) (fun _ _ _=>False)
def xs6 (K:Zd) (te:TE) (E:St->XK):TS:=fun D σ H=>te σ H fun v H1=>∃ e C od,v=.ref e/\H1 e=some (XN e C od)/\xek K C=true/\E σ e C (upd H1 e (XO e C od))
section
variable {X:Cx}{k:Nat}{f C:Addr}{fd:FuncData}{ps:List Str}{sp:Sp}{dvs:List V}{ds:List Value}{E:St->XK}{x m:Str}{p pos apos:Pos}{e o:Expr}{es:List Expr}{ta te:TE}{t:TA}
theorem xom {pins:List (Addr × Obj)}{σ:St}{H:Hp}{s:Shared}{Q:VK}{us:List Value}{vs:List V} (M:XMk X.K C f) (F:FnOk q0 X.prog X.w X.K X.mg X.base (CXo X.prog X.w) k f fd ps sp) (hr:Room q0 (k+1) X.A) (hb:xx X.K fd ps ds) (hd:Vals dvs ds)
    (I:Inv X pins σ H s) (r:Vals vs us) (hl:vs.length<=1000)
    (h:∀ e,H e=none->sp (.ref e::(vs++dvs)) (upd H e (XN e C none)) (fun v H2=>v=.non/\Q (.ref e) H2) (fun _ _ _=>False)) :
    wpAny (model X.prog X.w) X.A (call (.ref C) us) (EP X pins σ Q) X.xe s:=by
  obtain⟨nm,qn,N,bs,bm,hz,sn,sub,ab,col,dd,k0,k1,k2,k3,k5,gC,T⟩:=xhk I.kIn M.makes;have ty:PySem.W.typeIn X.K (.ref f)=some (.type "function"):=beq_iff_eq.mp M.fn;obtain⟨oI,gI,cI⟩:=Zl.mp (show (X.K.lookup f).map (·.cls)=some (.type "function") from ty);have lu:us.length<=sizeLine:=by
    have:=r.length;rw[<- this,Qp];omega
  obtain⟨hh,gg,d,tk,os⟩:=s;refine xmv PySem.F.excBase_ValueError T gC (fun A' Q' E' s' kk q=>PySem.W.looks_findIn I.kIn M.init A' Q' E' s' kk q) (I.kIn _ _ gI) cI lu fun h' e hm se=>?_;have hn:H e=none:=I.hok.fresh se;obtain⟨t0,ge,_,_⟩:=hm.there;have xa:Xat h' e (.ref C) none none:=⟨_,_,ge,rfl,rfl,rfl,by simp,.inl ⟨rfl,rfl⟩⟩
  have I2:Inv X pins σ (upd H e (XN e C none)) ⟨h',gg,d,tk,os⟩:=I.laid (t':=tk) hm.keeps se (xq0 xa);have hq:=h e hn;have r2:Vals (V.ref e::(vs++dvs)) (Zm e::(us++ds)):=.cons rfl (r.append hd);have hl2:(Zm e::us++ds).length=ps.length:=by
    have z:=r2.length;rw[F.len _ _ _ _ hq] at z;exact z.symm
  refine Q7 (Q9 (F.run _ X.stack _ _ ⟨Zm e::us,[]⟩ (Zm e::(us++ds)) _ _ (fun _ _ _=>False) (hr.make C us [])
    (I2.env0.make C us []) (hb _ (Zm e::us) I2.kIn hl2) r2 hq) fun r s' hq'=>?_)
  cases r with
  | error e'=>exact (xn pins σ _ _ e' s' I2 hq')
  | ok fl =>
    cases fl with
    | ret u =>
      obtain⟨v,H',I3,rv,ev,q3⟩:=I2.after hq';subst ev;exact⟨rv,⟨V.ref e,H',I3,rfl,q3⟩⟩
    | next=>exact Jz hq'
    | brk=>exact Jz hq'
    | cont=>exact Jz hq'
theorem xgs (M:XMk X.K C f) (F:FnOk q0 X.prog X.w X.K X.mg X.base (CXo X.prog X.w) k f fd ps sp) (hr:Room q0 (k+1) X.A) (hg:Gl X x) (hm:X.mg x=some (.ref C)) (hb:xx X.K fd ps ds) (hd:Vals dvs ds)
    (ha:PA X (e::es) t) (hdb:(x == ("__debug__":Str))=false:=by decide) (he:starEach (e::es) X.env=(false,eval e X.env)::starEach es X.env:=by rfl) (hpl:(backTo pos (starEach es X.env)).any (·.1)=false:=by rfl) :
    PE X (.Call (.Name x p) (e::es) [] pos) (xt1 C sp dvs t):=by
  intro pins s σ H Q I h;refine Ye (xe5 I hg hm ?_ hdb);refine Qi (h₀:=X.base) I.ok.mod.kin M.kp (thn (ha pos pins s σ H _ I h) fun us s1 ⟨vs,H1,I1,r,hl,q⟩=>⟨I1.kIn,?_⟩) he hpl;exact xom M F hr hb hd I1 r hl q
theorem Inv.toXO {pins:List (Addr × Obj)}{σ:St}{H:Hp}{s:Shared}{e:Addr}{od:Option Addr} (I:Inv X pins σ H s) (h:H e=some (XN e C od)):Inv X pins σ (upd H e (XO e C od)) s:=by
 have x:=xjj I h;obtain⟨oe,_,ge,_⟩:=id x;exact I.write (x:=e) (e:=e) (t':=s.toks) (by rw[h]; exact Jv) (.inl rfl) (fun b u _ z=>z) ⟨oe,ge⟩ (xqv (xn7 x))
theorem xi0 {h:Heap}{bm:List Value} (T:OwnTail h vErr bm):bm.contains (.type "BaseException")=true:=T.hasType (by decide +kernel)
theorem xgo (hh:X.A.handled=none) (tk:xgd X E) (he:PE X e te):PS X (.Raise (some e) none pos) (xs6 X.K te E):=by
 intro pins s σ H D I h;rw[arm_exec_Raise];refine Zb (Qt ?_);show wpAny _ _ (raiseStmt X.env (some (do let v <- eval e X.env; standAt pos; pure v)) none) _ _ s;refine xry hh (Zb (thn (he pins s σ H _ I h) fun v s1 ⟨x,H1,I1,rx,a,C,od,ex,ea,mk,q⟩=>Zb (Qt (Zk ?_))));subst ex;obtain rfl:v=Zm a:=rx;obtain⟨nm,qn,N,bs,bm,hz,sn,sub,ab,col,dd,k0,k1,k2,k3,k5,gC,T⟩:=xhk I1.kIn mk;have x:=xjj I1 ea;exact⟨a,od,C,nm,qn,N,bs,bm,hz,sn,sub,ab,col,dd,k0,k1,k2,k3,k5,_,rfl,xi0 T,gC,x,tk pins σ _ s1 a C od none (I1.toXO ea) x xf (fun T' z=>by cases z) q⟩
end
end L2
namespace XL
open PySem PySem.W
section
variable {M:Model}{A:Around}{E:Value->Shared->Prop}{s:Shared}
theorem xql {fs:List Addr}{e T:Addr}{cls:Value}{od:Option Addr}{Q:Unit->Shared->Prop} (x:Xat s.heap e cls od (some T)) (nf:∀ b∈fs,b≠T)
    (k:∀ h',Stp fs e (some T) s.heap h'->Xat h' e cls od (some T)->Q () { s with heap:=h' }):wpAny M A (setFlight (.ref e) none) Q E s:=by
  obtain⟨oe,vs,ge,ce,oo,de,se,y⟩:=x;rcases y with⟨z,_⟩|⟨T',oT,ts,z,h1,nTe,gT,dT,h3⟩
  . cases z
  . cases z
    unfold setFlight;refine Zb (Yp ge de h1 ?_);rw[if_pos (show (Zm T != ZV)=true from by simp)];have z3:3<ts.size:=(Array.getElem?_eq_some_iff.mp h3).1;have ot:∀ b,b≠T->(s.heap.update T (YU (·.setIfInBounds 3 ((none:Option Addr).elim ZV fun f=>rawInt f)))).get? b=s.heap.get? b:=fun b hb=>Jl _ _ (ZF hb);refine QZ gT dT z3 (k _ ⟨fun b o hb _ bt _=>(ot b fun q=>bt (congrArg some q.symm)).trans hb,fun b o hb bf=>⟨o.slots,(ot b (nf b bf)).trans hb⟩⟩ ?_);exact⟨oe,vs,(ot e (ZF nTe)).trans ge,ce,oo,de,se,.inr ⟨T,_,_,rfl,h1,nTe,ZM _ gT (YQ (Y8 dT _)),Y8 dT _,by simp[z3]⟩⟩
variable {nm qn nm' qn':Str}{C N C' N':Addr}{bs bm bs' bm':List Value}{hz hz':Bool}{sn sn':List Str}{sub sub':List Value}{ab ab':Bool}{col col':Option Bool}{dd dd':Option Addr}{k0 k1 k2 k3 k5 j0 j1 j2 j3 j5:Option Value}{ni ni':String}
theorem xk7 {h:Heap}{g:Array GenState}{d:Drawn}{t:Nat}{os:OsState}{e:Addr}{oe:Obj}{b:Bool}{Q:Bool->Shared->Prop}
    (gC:h.get? C=some (excClassObj nm qn C N bs bm hz sn sub ab col dd k0 k1 k2 k3 k5 ni)) (gC':h.get? C'=some (excClassObj nm' qn' C' N' bs' bm' hz' sn' sub' ab' col' dd' j0 j1 j2 j3 j5 ni'))
    (ge:h.get? e=some oe) (ce:oe.cls=.ref C) (bB:bm'.contains (.type "BaseException")=true) (hm:(Zm C::bm).contains (.ref C')=b)
    (k:Q b ⟨h,g,d,t,os⟩):wpAny M A (excMatches (.ref e) (.ref C')) Q E ⟨h,g,d,t,os⟩:=by
  have mB:(Zm C'::bm').contains (.type "BaseException")=true:=by rw[Ql,bB,JK]
  have nt:=tc_notTuple;unfold excMatches
  repeat (first|(with_reducible refine JT ge ?_; rw[ce])|with_reducible refine JT gC' ?_|(with_reducible refine YX gC' ?_; rw[mB])|(with_reducible refine YX gC ?_; rw[hm])|wp_step)
  cases b<;>(wp_walk; exact k)
end
end XL
namespace L2
open PySem PySem.Spec PyProof.Rows XL
variable {q0:Bool}
abbrev Cx.tryc (X:Cx) (pins:List (Addr × Obj)) (xe:Value->Shared->Prop):Cx:={ X with xe:=xe,pn:=X.pn++pins }
abbrev Cx.hand (X:Cx) (e:Addr):Cx:={ X with A:=X.A.mark (some (.ref e)),calm:=false,xe:=fun _ _=>False }
section
variable {X:Cx}{pins:List (Addr × Obj)}{σ:St}{H:Hp}{s:Shared}
theorem Cx.Ok.tryc (ok:X.Ok) (pins:List (Addr × Obj)) (xe:Value->Shared->Prop):(X.tryc pins xe).Ok :=
 ⟨ok.mod,ok.kind,ok.glob,ok.blt,ok.above,ok.inj,ok.has,ok.cab,ok.hd,ok.frames,ok.stk,ok.exf,ok.bs,ok.bsz,ok.noex,ok.exfs,ok.funs,ok.frf⟩
theorem Cx.Ok.untryc {xe:Value->Shared->Prop} (ok:(X.tryc pins xe).Ok):X.Ok :=
 ⟨ok.mod,ok.kind,ok.glob,ok.blt,ok.above,ok.inj,ok.has,ok.cab,ok.hd,ok.frames,ok.stk,ok.exf,ok.bs,ok.bsz,ok.noex,ok.exfs,ok.funs,ok.frf⟩
theorem Cx.Ok.hand (ok:X.Ok) (e:Addr):(X.hand e).Ok :=
 ⟨ok.mod,ok.kind,ok.glob,ok.blt,ok.above,ok.inj,ok.has,ok.cab,(fun z=>nomatch z),ok.frames,ok.stk,ok.exf,ok.bs,ok.bsz,ok.noex,ok.exfs,ok.funs,ok.frf⟩
theorem Inv.tryc (I:Inv X pins σ H s) (xe:Value->Shared->Prop):Inv (X.tryc pins xe) [] σ H s :=
 ⟨I.ok.tryc pins xe,I.os,I.bare,I.base,I.loc,I.cell,I.free,I.freeC,fun p hp=>I.pin p (by simpa using hp),I.hok,I.len⟩
theorem Inv.untryc {xe:Value->Shared->Prop}{pl:List (Addr × Obj)} (I:Inv (X.tryc pins xe) pl σ H s):Inv X pins σ H s :=
 ⟨I.ok.untryc,I.os,I.bare,I.base,I.loc,I.cell,I.free,I.freeC,fun p hp=>I.pin p (Yq _ hp),I.hok,I.len⟩
theorem Inv.hand (I:Inv X pins σ H s) (e:Addr):Inv (X.hand e) pins σ H s :=
 ⟨I.ok.hand e,I.os,I.bare,I.base,I.loc,I.cell,I.free,I.freeC,I.pin,I.hok,I.len⟩
theorem Inv.unhand {e:Addr} (ok:X.Ok) (I:Inv (X.hand e) pins σ H s):Inv X pins σ H s :=
 ⟨ok,I.os,I.bare,I.base,I.loc,I.cell,I.free,I.freeC,I.pin,I.hok,I.len⟩
theorem Inv.gone {h':Heap}{m m':Str->Option Value}{n:Str}{j t':Nat} (I:Inv X pins σ H s) (hN:X.N.Nodup) (hj:X.N[j]?=some n) (hl:X.env.scope.names.lookup n=some .local)
    (hm:s.heap.Ns X.env.locals m) (hv:∀(i:Nat) (x:Str) (v:V),X.N[i]?=some x->σ[i]?=some (some v)->Vis X.env.scope x->∃ u,RelV v u/\Look X.env s.heap m x u)
    (n':h'.Ns X.env.locals m') (e':∀ y,y≠n->m' y=m y) (sb:ZI X.env.locals s.heap h'):Inv X pins (σ.set j none) H { s with heap:=h',toks:=t' }:=by
  have kp:∀ b o,b≠X.env.locals->s.heap.get? b=some o->h'.get? b=some o:=fun b o nb g=>(sb.2 b nb).trans g;have neL:∀ b o,X.s₀.heap.get? b=some o->b≠X.env.locals:=fun b o e=>ZD (ZG (Zq e) I.ok.above);have trk:∀ b u,H b=some u->b≠X.env.locals:=fun b u hb z=>by rw[z,I.free] at hb; cases hb
  refine⟨I.ok,I.os,I.bare,⟨fun b o e n hb hx=>kp b o (neL b o e) (I.base.keep b o e n hb hx),fun b o e n hb hx=>?_,fun b o e n hx=>I.base.free b o e n hx,fun b o e hx=>?_,I.base.tups,I.base.frzs,I.base.tbls⟩,
    ⟨m',n',fun i x v e1 e2 e3=>?_⟩,fun x c e=>?_,I.free,I.freeC,fun p hp=>?_,fun b u hb=>?_,by rw[List.length_set]; exact I.len⟩
  . obtain⟨sl,q⟩:=I.base.slot b o e n hb hx
    exact⟨sl,kp b _ (neL b o e) q⟩
  . obtain⟨o',q⟩:=I.base.there b o e hx
    exact⟨o',kp b o' (neL b o e) q⟩
  . have nij:i≠j:=fun z=>by
      subst z;have hl2:i<σ.length:=by rw[I.len]; exact (Zj.mp hj).1
      rw[QE hl2] at e2;cases e2
    rw[Yr (ZF nij)] at e2;have nx:x≠n:=fun z=>nij (xgx hN e1 (by rw[z]; exact hj));obtain⟨u,r,l⟩:=hv i x v e1 e2 e3;refine⟨u,r,?_⟩;rcases l with⟨k,z⟩|⟨k,c,e,o,ho,hd⟩
    . exact .inl ⟨k,by rw[e' x nx]; exact z⟩
    . exact .inr ⟨k,c,e,o,kp c o (I.cne x c e) ho,hd⟩
  . obtain⟨v,o,ho,hd⟩:=I.cell x c e
    exact⟨v,o,kp c o (I.cne x c e) ho,hd⟩
  . obtain⟨e,a,ne,nf,d⟩:=I.pin p hp
    exact⟨kp p.1 p.2 ne e,a,ne,nf,d⟩
  . refine (I.hok b u hb).stay (fun c v hc q=>?_) (fun c q=>q) fun c xs q=>q
    rcases hc with rfl|hc
    . exact kp c v (trk c u hb) q
    . exact kp c v (trk c _ hc) q
end
def endH (D:Ends) (j:Nat):Ends:={ nx:=fun σ H=>D.nx (σ.set j none) H,rt:=D.rt,bk:=fun σ H=>D.bk (σ.set j none) H,ct:=fun σ H=>D.ct (σ.set j none) H }
def tTry (K:Zd) (C0:Addr) (j:Nat) (E:St->XK) (tb th:TS):TS:=fun D σ H=>tb D σ H/\∀ σ' e C H',E σ' e C H'->xek K C=true/\Wm K C (.ref C0)=some true/\th (endH D j) (σ'.set j (some (.ref e))) H'
section
variable {X:Cx}{pos np hpos:Pos}{body hbody:List Stmt}{b0:Stmt}{cx n:Str}{C0:Addr}{j:Nat}{E:St->XK}{tb th:TS}
theorem xuh (hg:Gl X cx) (hm:X.mg cx=some (.ref C0)) (mk0:xek X.K C0=true) (hN:X.N.Nodup) (hj:X.N[j]?=some n) (hl:X.env.scope.names.lookup n=some .local) (hf:X.env.frame=some X.env.locals) (hst:X.stack=X.env::X.outer)
    (hb:∀ pins xe,xgd (X.tryc pins xe) E->PSs (X.tryc pins xe) body tb) (hh:∀ e,PSs (X.hand e) (b0::hbody) th) (hdb:(cx == ("__debug__":Str))=false:=by decide) :
    PS X (.Try body [.ExceptHandler (some (.Name cx np)) (some n) (b0::hbody) hpos] [] [] pos) (tTry X.K C0 j E tb th):=by
  intro pins s σ H D I ⟨h1,h2⟩;refine wpAny_Try_except ?_;have ok:=I.ok;have T:xgd (X.tryc pins (fun e s₁=>wpAny (model X.prog X.w) X.A (noteFrame e X.env) (fun _ s₂=>wpAny (model X.prog X.w) X.A (setFlight e none) (fun _ s₃=>wpAny (model X.prog X.w) X.A (handleBy e X.env [.ExceptHandler (some (.Name cx np)) (some n) (b0::hbody) hpos]) (SP X pins D) X.xe s₃) X.xe s₂) X.xe s₁)) E:=by
    intro pl σ' H' s' e C od tb' I' x he tbs q;have J:=I'.untryc;have tbs':Tbs X pins H' tb':=fun T z=>by
      obtain⟨a1,a2,a3,a4,a5⟩:=tbs T z;exact⟨a1,a2,a3,a4,fun p hp=>a5 p (Yq _ hp)⟩
    obtain⟨mkC,mro,hth⟩:=h2 σ' e C H' q;have fr:X.A.frames=some (X.env::X.outer):=by rw[<- hst]; exact J.ok.frames
    have ff:s'.heap.FunFrames X.base (X.env::X.outer):=by rw[<- hst]; exact J.stack
    refine xoa (L:=X.env.locals) fr ff hf x fun h' T st sT x'=>?_;rw[<- hst] at st;have J2:=J.noted he tbs' st x';have fr2:X.base.objs.size<=s'.heap.objs.size:=Zs J.ok.bsz J.sz;have ff2:h'.FunFrames X.base X.stack:=J2.stack;have nT:∀ b∈frs X.stack,b≠T:=fun b hb z=>by
      obtain⟨_,o,ho,hnf⟩:=J.stack.mem hb;rw[z] at ho;exact absurd (Zq ho) (Wr.mpr sT)
    have fresh:=J.size_lt sT;have tbs2:Tbs X pins H' (some T):=fun T' z=>by
      cases z;exact⟨Zs J.sz sT,fresh.1,fresh.2.1,fresh.2.2.1,fresh.2.2.2⟩
    obtain⟨nm,qn,N,bs,bm,hz,sn,sub,ab,col,dd,k0,k1,k2,k3,k5,gC,TC⟩:=xhk J2.kIn mkC;obtain⟨nm',qn',N',bs',bm',hz',sn',sub',ab',col',dd',j0,j1,j2,j3,j5,gC0,TC0⟩:=xhk J2.kIn mk0;refine wpAny_handleBy_cons (codeAny_handlers_test (xe5 (X:=X.hand e) (J2.hand e) hg hm ?_ hdb)) (by intro z; cases z);obtain⟨oe,_,ge,ce,_⟩:=id x';have hmr:(Zm C::bm).contains (.ref C0)=true:=by
      obtain⟨cd,e1,e2⟩:=Option.bind_eq_some_iff.mp mro;have e3:(Zm C::bm)=cd.mro:=by
        unfold PySem.W.clsIn at e1;split at e1
        . rename_i c1 d1 cd1 sl1 ho
          cases e1;have z:=(J2.kIn _ _ ho).symm.trans gC;injection z with z
          injection z with _ _ z _
          injection z with z
          rw[z]
        . cases e1
      rw[e3];split at e2
      . cases e2
      . exact JC.inj e2
    refine xk7 (M:=model X.prog X.w) gC gC0 ge ce (xi0 TC0) hmr ?_;show codeAny _ _ _ _ _;refine codeAny_handlers_suite_as (xql (fs:=frs X.stack) x' nT fun h3 st3 x3=>?_);have J3:Inv X pins σ' H' { s' with heap:=h3 }:=J2.noted he tbs2 st3 x3;refine xgl (v:=V.ref e) J3 hN hj (.inl hl) rfl (fun s4 J4=>?_) (.inr hl);refine ZR (hh e pins s4 _ H' _ (J4.hand e) hth) (fun f s5 q5=>?_) fun _ _ z=>z.elim;have fin:∀{σ5:St}{H5:Hp}{Q:Unit->Shared->Prop},Inv (X.hand e) pins σ5 H5 s5->(∀ s6,Inv X pins (σ5.set j none) H5 s6->Q () s6) ->
        wpAny (model X.prog X.w) X.A (do bindName X.env n ZV; unbindBehindTheSuite X.env n hpos) Q X.xe s5:=fun {σ5 H5 Q} K5 kq=>by
      have K6:Inv X pins σ5 H5 s5:=Inv.unhand ok K5;obtain⟨m,hm5,hv5⟩:=K6.loc;refine xoy (show X.env.kindOf n=some .local from hl) hm5 (by simp[ok.kind]) fun h6 m6 n6 e6 s6=>kq _ (K6.gone hN hj hl hm5 hv5 n6 e6 s6)
    cases f with
    | next =>
      obtain⟨σ5,H5,K5,z⟩:=q5;exact fin K5 fun s6 K6=>⟨_,H5,K6,z⟩
    | brk =>
      obtain⟨σ5,H5,K5,z⟩:=q5;exact fin K5 fun s6 K6=>⟨_,H5,K6,z⟩
    | cont =>
      obtain⟨σ5,H5,K5,z⟩:=q5;exact fin K5 fun s6 K6=>⟨_,H5,K6,z⟩
    | ret u =>
      obtain⟨v,σ5,H5,K5,r,z⟩:=q5;exact fin K5 fun s6 K6=>⟨v,_,H5,K6,r,z⟩
  refine ZR (hb pins _ T [] s σ H D (I.tryc _) h1) (fun f s1 q=>?_) fun u s1 q=>q;cases f with
  | next =>
    obtain⟨σ',H',J,z⟩:=q;exact QI ⟨σ',H',J.untryc,z⟩
  | brk =>
    obtain⟨σ',H',J,z⟩:=q;exact⟨σ',H',J.untryc,z⟩
  | cont =>
    obtain⟨σ',H',J,z⟩:=q;exact⟨σ',H',J.untryc,z⟩
  | ret u =>
    obtain⟨v,σ',H',J,r,z⟩:=q;exact⟨v,σ',H',J.untryc,r,z⟩
end
end L2
namespace XL
open PySem PySem.W
theorem xnw {K:Frag}{x C:Addr} (c:XC K C):KitX K (.ref x) (.ref C) (fun h=>∃ ox od,InstAt h x ox C od) where
 ty:=fun _ _ _ ⟨_,_,I⟩=>I.type
 it:=fun _ _ X _=>by
  obtain⟨cd,hc,_,_⟩:=c.mro;unfold clsIn at hc;split at hc
  .rename_i c' d' cd' sl' ho
   intro A' Q' E' s' k q;unfold isType loadHead;exact Zb (Qd (k _ _ (X _ _ ho)) (Zk q))
  .cases hc
 ne:=fun h tp dd its n sl X htp=>by
  obtain⟨cd,hc,_,_⟩:=c.mro;refine Jq.mpr fun q=>?_;have e:C=tp:=Zm.inj (beq_iff_eq.mp q);subst e;unfold clsIn at hc;split at hc
  .rename_i c' d' cd' sl' ho
   have z:=(X _ _ ho).symm.trans htp;cases z
  .cases hc
 ca:=fun X ⟨ox,od,I⟩ k=>xpb X c I k
end XL
namespace L2
open PySem PySem.Spec PyProof.Rows XL
variable {q0:Bool}
def clsV:V->Option Value
 | .ty n=>some (.type n)
 | .ref a=>some (.ref a)
 | _=>none
theorem xgk {c:V}{u cv:Value} (e:clsV c=some cv) (r:RelV c u):u=cv:=by
 cases c<;>first|(cases e; exact r)|cases e
def xmp:List V->Option (List Value)
 | []=>some []
 | c::r=>(clsV c).bind fun a=>(xmp r).map (a::·)
theorem xii:∀{cs:List V}{us cv:List Value},xmp cs=some cv->Vals cs us->us=cv
 | [],_,_,e,.nil=>by cases e; rfl
 | c::r,_,_,e,.cons rc rr=>by
  obtain⟨a,e1,e2⟩:=Option.bind_eq_some_iff.mp e;obtain⟨b,e3,rfl⟩:=Zl.mp e2;rw[xgk e1 rc,xii e3 rr]
section
variable {X:Cx}{pins:List (Addr × Obj)}{σ:St}{H:Hp}{s:Shared}{A:Around}{E:Value->Shared->Prop}{Q:Value->Shared->Prop}
theorem xmf {a C:Addr}{od:Option Addr} (I:Inv X pins σ H s) (h:H a=some (XO a C od)) (hd:∀ d,od=some d->∃ o,s.heap.get? d=some o):∃ ox odx,PySem.W.InstAt s.heap a ox C odx:=by
 obtain⟨ox,vs,g,ce,oo,de⟩:=xra I h;cases e:od with
 | none=>exact⟨ox,none,g,ce,xd8 de,by rw[oo,e]; trivial⟩
 | some d =>
  obtain⟨o,go⟩:=hd d e;exact⟨ox,some o,g,ce,xd8 de,by rw[oo,e]; exact go⟩
end
def xun (K:Zd):List V->Hp->VK->Prop:=fun xs H Q=>∃ x c,xs=[x,c]/\((∃ t cv b,TyOf K H x t/\clsV c=some cv/\Wb K t cv=some b/\Q (.bl b) H) \/
 (∃ a C od cv b,x=.ref a/\H a=some (XO a C od)/\(∀ d,od=some d->∃ fs,H d=some (XD d fs))/\XC K C/\clsV c=some cv/\Wb K (.ref C) cv=some b/\Q (.bl b) H) \/
 (∃ a C od p cs cv b,x=.ref a/\H a=some (XO a C od)/\(∀ d,od=some d->∃ fs,H d=some (XD d fs))/\XC K C/\c=.ref p/\SqT K H p cs/\xmp cs=some cv/\PySem.W.kitAny K (.ref C) cv=some b/\Q (.bl b) H))
section
variable {X:Cx}
theorem xb2:xb1 X (.builtin "isinstance") (xun X.K):=by
 intro pins s σ H us xs Q I r h;obtain⟨x,c,rfl,h⟩:=h;obtain⟨u,v,rfl,ru,rv⟩:=xjq r;rcases h with⟨t,cv,b,ty,ec,ek,q⟩|⟨a,C,od,cv,b,rfl,ha,hd,xc,ec,ek,q⟩|⟨a,C,od,p,cs,cv,b,rfl,ha,hd,xc,rfl,hp,ec,ek,q⟩
 .obtain rfl:=xgk ec rv;exact xoi I ru ty ek fun tk=>⟨.bl b,H,I.tok tk,rfl,q⟩
 .obtain rfl:=xgk ec rv;obtain rfl:u=Zm a:=ru;refine Jt (xnw xc) I.kIn (xmf I ha fun d e=>?_) ek (fun z=>nomatch z) fun tk=>⟨.bl b,H,I.tok tk,rfl,q⟩
  obtain⟨fs,hw⟩:=hd d e;obtain⟨_,_,⟨o,_,_,go,_⟩,_⟩:=xjn I hw;exact⟨o,go⟩
 .obtain rfl:u=Zm a:=ru;obtain rfl:v=Zm p:=rv;obtain⟨its,vi,it,_⟩:=I.tuple hp;obtain rfl:=xii ec vi;obtain⟨o,g,oc,n,od'⟩:=it;obtain⟨c1,d1,dt1,sl1⟩:=o
  dsimp only at oc od'
  subst oc od';refine PySem.W.kia_tup (xnw xc) I.kIn (xmf I ha fun d e=>?_) g ek (fun z=>nomatch z) fun tk=>⟨.bl b,H,I.tok tk,rfl,q⟩
  obtain⟨fs,hw⟩:=hd d e;obtain⟨_,_,⟨o,_,_,go,_⟩,_⟩:=xjn I hw;exact⟨o,go⟩
end
def xc6 (scope:Scope):List Str:=(scope.names.filter fun x=>x.2 == .free).map (·.1)
def Cx.clo (X:Cx) (scope:Scope):List (Str × Addr):=(xc6 scope).reverse.map fun n=>(n,(X.env.cells.lookup n).getD 0)
theorem xhs {env:Env}{f:Str->Addr}:∀(l:List (Str × NameKind)) (acc:List (Str × Addr)),(∀ x∈l,x.2=.free->env.cells.lookup x.1=some (f x.1)) ->
    (forIn l acc fun x cs=>(if x.2 == .free then do let c <- cellOf env x.1; pure (JH ((x.1,c)::cs)) else pure (JH cs):Sem (ForInStep (List (Str × Addr))))) =
      pure ((((l.filter fun x=>x.2 == .free).map (·.1)).reverse.map fun n=>(n,f n))++acc)
  | [],acc,_=>rfl
  | x::r,acc,h=>by
    have ih:=fun a=>xhs r a fun y hy=>h y (Zy _ hy);rw[List.forIn_cons];by_cases q:x.2=.free
    . have e:=h x Zz q
      have qb:(x.2 == Wn)=true:=by rw[q]; rfl
      rw[if_pos qb,Yw,if_pos qb];have ec:cellOf env x.1=pure (f x.1):=by unfold cellOf; rw[e]
      rw[ec];simp only[pure_bind];rw[ih];simp
    . have qb:(x.2 == Wn)=false:=by simpa using q
      rw[if_neg (by rw[qb]; decide),Yw,if_neg (by rw[qb]; decide)];simp only[pure_bind];rw[ih]
theorem xnb {X:Cx}{scope:Scope} (h:∀ n∈xc6 scope,∃ c,X.env.cells.lookup n=some c):closureFor scope X.env=pure (X.clo scope):=by
 unfold closureFor;have z:=xhs (env:=X.env) (f:=fun n=>(X.env.cells.lookup n).getD 0) scope.names [] fun x hx hf=>by
  obtain⟨c,e⟩:=h x.1 (Ze.mpr ⟨x,ZJ.mpr ⟨hx,by simp[hf]⟩,rfl⟩);rw[e];rfl
 rw[JG] at z;refine (bind_pure (m:=Sem) _).trans ?_;exact z
theorem xss {X:Cx}{scope:Scope}{n:Str}{c:Addr} (h:(X.clo scope).lookup n=some c):n∈xc6 scope/\c=(X.env.cells.lookup n).getD 0:=by
 have z:=J6 h;unfold Cx.clo at z;obtain⟨y,hy,e⟩:=Ze.mp z;injection e with e1 e2
 subst e1;exact⟨Q3.mp hy,e2.symm⟩
theorem xef {f:Str->Addr}{n:Str}:∀{l:List Str},n∈l->(l.map fun y=>(y,f y)).lookup n=some (f n)
 | [],h=>by simp at h
 | y::r,h=>by
  rw[Z2,Zw];by_cases q:n=y
  .subst q;simp
  .rw [show (n == y)=false from by simpa using q];exact xef ((Z1.mp h).resolve_left q)
theorem xl7 {X:Cx}{scope:Scope}{n:Str}{c:Addr} (hn:n∈xc6 scope) (h:X.env.cells.lookup n=some c):(X.clo scope).lookup n=some c:=by
 have z:=xef (f:=fun n=>(X.env.cells.lookup n).getD 0) (Q3.mpr hn);unfold Cx.clo;rw[z,h];rfl
def xdp:TT:=fun _ H Q=>Q true H
def PIf (X:Cx) (ifs:List Expr) (t:TT):Prop :=
 ∀(pins:List (Addr × Obj)) (s:Shared) (σ:St) (H:Hp) (Q:Bool->Hp->Prop),Inv X pins σ H s->t σ H Q ->
  wpAny (model X.prog X.w) X.A (forIn ifs true fun c r=>if r=true then do let ok <- isTrue c X.env (eval c X.env); pure (JH ok) else pure (JH r)) (TP X pins σ Q) X.xe s
theorem xbu {X:Cx}:PIf X [] xdp:=fun pins s σ H Q I h=>Zk ⟨H,I,h⟩
theorem xic {X:Cx}{c:Expr}{t:TT} (hc:PT X c t):PIf X [c] t:=fun pins s σ H Q I h=>by
 rw[List.forIn_cons];refine Zb ?_;rw[if_pos rfl];refine Zb (ZR (hc pins s σ H Q I h) (fun b s1 q=>Zk ?_) fun _ _ z=>z);exact Zk q
theorem xn4 {env:Env}{scope:Scope} (nc:∀ y∈scope.names,y.2≠.cell) (n:Str) (h:(relabel scope env).names.lookup n=some .cell\/(relabel scope env).names.lookup n=some .free):n∈xc6 scope:=by
 have key:∀ k,(relabel scope env).names.lookup n=some k->(k=.cell\/k=.free)->n∈xc6 scope:=fun k e hk=>by
  obtain⟨y,hy,ey⟩:=Ze.mp (J6 e);obtain⟨m,j⟩:=y
  dsimp only at ey
  split at ey
  .rename_i q
   injection ey with e1 e2
   subst e1;have:j=.free:=by
    simp only[Zr,beq_iff_eq] at q;exact q.1.1
   subst this;exact Ze.mpr ⟨_,ZJ.mpr ⟨hy,by simp⟩,rfl⟩
  .injection ey with e1 e2
   subst e1 e2;rcases hk with z|z
   .exact absurd z (nc _ hy)
   .subst z;exact Ze.mpr ⟨_,ZJ.mpr ⟨hy,by simp⟩,rfl⟩
 rcases h with h|h
 .exact key _ h (.inl rfl)
 .exact key _ h (.inr rfl)
theorem xmu {env:Env}{scope:Scope}{n:Str} (h:scope.names.lookup n=some .free):(relabel scope env).names.lookup n=some .cell\/(relabel scope env).names.lookup n=some .free:=by
  have key:∀(l:List (Str × NameKind)),l.lookup n=some .free->(l.map fun (m,k)=>if (k == Wn&&env.scope.kind == .function&&env.kindOf m == some .cell) then (m,NameKind.cell) else (m,k)).lookup n=some .cell \/
      (l.map fun (m,k)=>if (k == Wn&&env.scope.kind == .function&&env.kindOf m == some .cell) then (m,NameKind.cell) else (m,k)).lookup n=some .free:=fun l=>by
    induction l with
    | nil=>intro e; simp at e
    | cons y r ih =>
      intro e;obtain⟨m,k⟩:=y;rw[Z2];rw[Zw] at e;cases q:n == m with
      | true =>
        rw[q] at e;cases e
        dsimp only
        split
        . left; rw[Zw,q]
        . right; rw[Zw,q]
      | false =>
        rw[q] at e;have z:=ih e
        dsimp only
        split<;>(rw[Zw,q]; exact z)
  exact key _ h
section
variable {P:Program}{w:World}{K:Zd}{mg:Str->Option Value}{base:Heap}
theorem Fun.okx {x qual:Str}{st:Stmt}{f:Addr}{fd:FuncData}{N ps:List Str}{k:Nat}{sp:Sp} (F:Fun K x qual st f fd) (S:xv N ps (xo st)) (len:∀ vs H Q E,sp vs H Q E->vs.length=ps.length)
    (hbody:∀(cdv:Value) (A:Around) (outer:List Env) (s:Shared) (H:Hp) (vs:List V) (Q:VK) (E:XK),Room q0 k (A.deeper (envOfC qual (xo st) s.heap.objs.size f cdv))->sp vs H Q E ->
      ∃ t,PSs (cxOf q0 (CXo P w) P w K mg base N qual (xo st) f cdv A outer s H E) (xa9 st) t/\t { nx:=fun _ H'=>Q .non H',rt:=Q } (xc5 N vs) H):FnOk q0 P w K mg base (CXo P w) (k+1) f fd ps sp:=by
  obtain⟨oc,od,kV,doc,pm,an,cdv,ct,osl,rfl,lk,hcd⟩:=F.ex;exact xjp lk hcd S len fun A outer s H vs Q E hr hsp=>hbody cdv A outer s H vs Q E hr hsp
theorem Fun.okn {x qual:Str}{st:Stmt}{f:Addr}{fd:FuncData}{N ps:List Str}{k:Nat}{sp:Sp} (F:Fun K x qual st f fd) (S:xv N ps (xo st)) (len:∀ vs H Q E,sp vs H Q E->vs.length=ps.length)
    (hbody:∀(cdv:Value) (A:Around) (outer:List Env) (s:Shared) (H:Hp) (vs:List V) (Q:VK) (E:XK),Room q0 k (A.deeper (envOfC qual (xo st) s.heap.objs.size f cdv))->sp vs H Q E ->
      ∃ t,PSs (cxOf q0 (CXo P w) P w K mg base N qual (xo st) f cdv A outer s H E).nox (xa9 st) t/\t { nx:=fun _ H'=>Q .non H',rt:=Q } (xc5 N vs) H):FnOk q0 P w K mg base (CXo P w) (k+1) f fd ps sp:=by
  obtain⟨oc,od,kV,doc,pm,an,cdv,ct,osl,rfl,lk,hcd⟩:=F.ex;refine xjp lk hcd S len fun A outer s H vs Q E hr hsp=>?_;obtain⟨t,h,q⟩:=hbody cdv A outer s H vs Q E hr hsp;exact⟨t,h.nox,q⟩
end
end L2
namespace L2
open PySem PySem.Spec PyProof.Rows XL
theorem ifP {b:Bool}{A B:Prop} (h:b=true) (q:A):if b=true then A else B:=by
 rw[if_pos h];exact q
theorem ifN {b:Bool}{A B:Prop} (h:b=false) (q:B):if b=true then A else B:=by
 rw[if_neg (by rw[h]; decide)];exact q
def sgn (c:Nat):V:=.str ⟨#[c]⟩
theorem xl3 {h h':Heap}{it:Addr}{ty:String}{x:Str}{t:Tok}{i:Nat} (y:h.IsStrIter it ty x t i) (k:∀ o,h.get? it=some o->h'.get? it=some o):h'.IsStrIter it ty x t i:=by
 obtain⟨o,ho,r⟩:=y;exact⟨o,k o ho,r⟩
section
variable {X:Cx}
theorem xeb:OpR X (compareOp .LtE) (fun x y H Q=>∃ i j,x=.str i/\y=.str j/\Q (.bl (!decide (j.cps.toList<i.cps.toList))) H):=by
 intro pins s σ H x y v u Q I rx ry h;obtain⟨i,j,rfl,rfl,q⟩:=h;obtain⟨t,rfl⟩:=rx;obtain⟨t',rfl⟩:=ry;exact PySem.P.le_str (xam I q rfl)
theorem xgi:xb1 X (.type "range") (fun xs H Q=>∃ i j,xs=[.int i,.int j]/\∀ p,H p=none->Q (.ref p) (upd H p (.rng i j))):=by
 intro pins s σ H xs us Q I r h;obtain⟨i,j,rfl,q⟩:=h;obtain⟨u,w',rfl,⟨t,rfl⟩,⟨t',rfl⟩⟩:=xjq r;refine call_range_2 ⟨.ref s.heap.objs.size,_,I.laid (t':=s.toks+1) (fun b o e=>Zg _ e) (Zi _) (show xao X.prog X.w _ _ _ (.rng i j) from ⟨_,_,_,Zx _ rfl⟩),rfl,q _ (I.hok.fresh (Zi _))⟩
end
end L2
namespace L2
open PySem PySem.Spec PyProof.Rows
variable {q0:Bool}
section
variable {X:Cx}
theorem xgc:∀{us:List Value}{ys:List V},us.length=ys.length->(∀(j:Nat) (y:V) (u:Value),ys[j]?=some y->us[j]?=some u->RelV y u)->Vals ys us
 | [],[],_,_=>.nil
 | u::us,y::ys,hl,h=>.cons (h 0 y u rfl rfl) (xgc (Nat.succ.inj hl) fun j y' u' e e'=>h (j+1) y' u' e e')
def rngL (lo hi:Int):List V:=(Z3 (hi-lo).toNat).map fun (i:Nat)=>V.int (lo+(i:Int))
theorem xfi (hc:X.calm=true):xb1 X (.type "list") (fun xs H Q=>∃ p lo hi,xs=[.ref p]/\H p=some (.rng lo hi)/\(-(2 ^ 62)<=lo/\lo<2 ^ 62/\-(2 ^ 62)<=hi/\hi<2 ^ 62)/\(hi-lo).toNat<=1000 /\
    ∀ l,H l=none->Q (.ref l) (upd H l (.lst (rngL lo hi)))):=by
  intro pins s σ H xs us Q I r h;obtain⟨p,lo,hi,rfl,hp,⟨h1,h2,h3,h4⟩,hn,q⟩:=h;obtain⟨u,rfl,rx⟩:=xbx r;cases rx;obtain⟨t1,t2,t3,g⟩:=(show xao X.prog X.w H s.heap p (.rng lo hi) from I.hok p _ hp)
  refine call_list_range (I.ok.hd hc) g (small_one h1 h2 h3 h4) (n:=(hi-lo).toNat) (by rw[rangeSize_one]; split<;>omega) (Zs hn (by decide)) fun h' tk acc' c' kp e it=>?_;have len:acc'.toList.length=(rngL lo hi).length:=by rw[rngL,Za,Zt]; exact it.1
  refine⟨.ref s.heap.objs.size,_,I.laid (t':=tk) kp (Zi _) (show xao X.prog X.w _ h' _ (.lst (rngL lo hi)) from ⟨?_,acc'.toList,c',xgc len fun j y u ey eu=>?_,by simpa using e⟩),rfl,q _ (I.hok.fresh (Zi _))⟩
  . rw[rngL,Za,Zt]
    exact Zs hn (by decide)
  . have eu':acc'[j]?=some u:=by simpa using eu
    obtain⟨t,e2⟩:=it.2 j u eu';have lt:j<(hi-lo).toNat:=by
      have:=(Zj.mp ey).1;simpa [rngL] using this
    rw[rngL,Zh,Jg lt] at ey;cases ey;exact⟨t,by rw[e2,Int.mul_one]⟩
end
structure FunD (K:Zd) (x qual:Str) (st:Stmt) (T f:Addr) (fd:FuncData):Prop where
 ex:∃(oc:Value) (od:Option Addr) (kV doc pm:Value) (an:Option Addr) (cdv ct:Value) (osl:Array (Option Value)),
  fd=Jn x qual (xbm st) (xa9 st) (xo st) (.ref T) kV doc pm an cdv ct/\K.lookup f=some ⟨oc,od,.func fd,osl⟩/\YG K cdv qual=true
 kp:Jm K (.ref f)=true
section
variable {P:Program}{w:World}{K:Zd}{mg:Str->Option Value}{base:Heap}
theorem FunD.okn {x qual:Str}{st:Stmt}{T f:Addr}{fd:FuncData}{N ps:List Str}{k:Nat}{sp:Sp} (F:FunD K x qual st T f fd) (S:xv N ps (xo st)) (len:∀ vs H Q E,sp vs H Q E->vs.length=ps.length)
    (hbody:∀(cdv:Value) (A:Around) (outer:List Env) (s:Shared) (H:Hp) (vs:List V) (Q:VK) (E:XK),Room q0 k (A.deeper (envOfC qual (xo st) s.heap.objs.size f cdv))->sp vs H Q E ->
      ∃ t,PSs (cxOf q0 (CXo P w) P w K mg base N qual (xo st) f cdv A outer s H E).nox (xa9 st) t/\t { nx:=fun _ H'=>Q .non H',rt:=Q } (xc5 N vs) H):FnOk q0 P w K mg base (CXo P w) (k+1) f fd ps sp:=by
  obtain⟨oc,od,kV,doc,pm,an,cdv,ct,osl,rfl,lk,hcd⟩:=F.ex;refine xjp lk hcd S len fun A outer s H vs Q E hr hsp=>?_;obtain⟨t,h,q⟩:=hbody cdv A outer s H vs Q E hr hsp;exact⟨t,h.nox,q⟩
theorem FunD.binds {x qual:Str}{st:Stmt}{T f:Addr}{fd:FuncData}{ps:List Str}{o:Obj}{items:Array Value}{n:Nat}{ds:List Value} (F:FunD K x qual st T f fd) (ho:K.lookup T=some o) (hs:o.data=.seq items n) (m:Nat) (hm:m+ds.length=ps.length)
    (h:∀(kV doc pm:Value) (an:Option Addr) (cdv ct:Value) (us:List Value),us.length=m ->
      ∃ k,bindArgs (Jn x qual (xbm st) (xa9 st) (xo st) (.ref T) kV doc pm an cdv ct) ⟨us,[]⟩=seqItems? (.ref T)>>=k/\k (some items)=pure (ps.zip (us++ds))):xx K fd ps ds:=by
  obtain⟨oc,od,kV,doc,pm,an,cdv,ct,osl,rfl,lk,hcd⟩:=F.ex;intro s us hK hl;rw[Zp] at hl;obtain⟨k,h1,h2⟩:=h kV doc pm an cdv ct us (by omega);exact BindsTo.of_defaults rfl (hK _ _ ho) hs h1 h2
theorem xia {x qual:Str}{st:Stmt}{T f:Addr}{oc:Value}{od an:Option Addr}{osl:Array (Option Value)}{kV doc pm cdv ct:Value} (l:K.lookup f=some ⟨oc,od,.func (Jn x qual (xbm st) (xa9 st) (xo st) (.ref T) kV doc pm an cdv ct),osl⟩)
    (c:YG K cdv qual=true) (k:Jm K (.ref f)=true):FunD K x qual st T f (Jn x qual (xbm st) (xa9 st) (xo st) (.ref T) kV doc pm an cdv ct):=⟨⟨oc,od,kV,doc,pm,an,cdv,ct,osl,rfl,l,c⟩,k⟩
end
end L2
namespace L2
open PySem PySem.Spec PyProof.Rows XL
variable {q0:Bool}
abbrev Cx.blkG (X:Cx) (scope:Scope) (zs:List Str) (ys:List Str) (C:Addr) (ex:List Addr) (s:Shared) (H:Hp) (pn:List (Addr × Obj)):Cx where
 prog:=X.prog
 w:=X.w
 K:=X.K
 mg:=X.mg
 base:=X.base
 A:=X.A
 N:=zs++ys
 s₀:=s
 H₀:=H
 env:=compEnvC scope (X.clo scope) C X.env
 outer:=X.stack
 stack:=X.stack
 ex:=ex
 fn:=fun _=>false
 calm:=X.calm
 pn:=pn
 xe:=fun _ _=>False
theorem xhu {prog:Program}{w:World}{A:Around}{R:Result->Shared->Prop}{s:Shared}{elt target iter:Expr}{ifs:List Expr}{scope:Scope}{pos:Pos}{it acc:Value}{env:Env} (I:Nat->Shared->Prop)
    (turn:∀ n s,I n s->wpAny (model prog w) A (pyNext it) (fun r s₁=>match r with
      | none=>R (.ok .next) s₁
      | some v=>wpAny (model prog w) A (letOwnedTupleGo target it v) (fun _ s₀=>wpAny (model prog w) A (assign target env v) (fun _ s₂ =>
          wpAny (model prog w) A (forIn ifs true fun c r=>if r=true then do let ok <- isTrue c env (eval c env); pure (JH ok) else pure (JH r)) (fun ok s₃ =>
            if ok=true then wpAny (model prog w) A (eval elt env) (fun x s₄ =>
              wpAny (model prog w) A (call (.builtin "list.append") [acc,x]) (fun _ s₅=>∃ m,m<n/\I m s₅) (notedBy (model prog w) A env fun e s'=>R (.error e) s') s₄) (notedBy (model prog w) A env fun e s'=>R (.error e) s') s₃
            else ∃ m,m<n/\I m s₃) (notedBy (model prog w) A env fun e s'=>R (.error e) s') s₂) (notedBy (model prog w) A env fun e s'=>R (.error e) s') s₀) (notedBy (model prog w) A env fun e s'=>R (.error e) s') s₁) (notedBy (model prog w) A env fun e s'=>R (.error e) s') s)
    (n:Nat) (h:I n s):codeAny (model prog w) A (.compLoop (.ListComp elt [⟨target,iter,ifs,0⟩] scope pos) 0 it acc env) R s:=by
  refine codeAny_loop rfl I (fun n s hI=>?_) n h;show wpAny _ A ((compTurn (.ListComp elt [⟨target,iter,ifs,0⟩] scope pos) 0 it acc env).onRaise (fun x=>do noteFrame x env; theTreesLotGoes x)) _ _ s;refine wpAny_noted ?_;rw[compTurn_list];refine Zb (Qt (Zb (ZR (turn n s hI) (fun r s₁ h₁=>?_) fun _ _ h'=>h')));cases r with
  | none=>exact Zk h₁
  | some v =>
    refine Zb (ZR h₁ (fun _ s₀ h₀=>Zb (ZR h₀ (fun _ s₂ h₂=>Zb (ZR h₂ (fun ok s₃ h₃=>?_) fun _ _ h'=>h')) fun _ _ h'=>h')) fun _ _ h'=>h');cases ok with
    | false=>exact Zk ⟨rfl,h₃⟩
    | true =>
      exact Zb (Zb (ZR h₃ (fun x s₄ h₄=>Zb (ZR h₄ (fun _ s₅ h₅=>Zk (Zk ⟨rfl,h₅⟩)) fun _ _ h'=>h')) fun _ _ h'=>h'))
structure BlkG (X:Cx) (scope:Scope) (zs:List Str) (ys:List Str) (fr:List Nat):Prop where
 kind:scope.kind=.function
 own:∀ x∈zs,scope.names.lookup x=some .local
 ncell:∀ y∈scope.names,y.2≠.cell
 names:∀ y∈scope.names,y.2=.local->scope.names.lookup y.1=some .local
 free:∀ n∈xc6 scope,X.env.scope.names.lookup n=some .cell
 has:∀ n,((relabel scope X.env).names.lookup n=some .cell\/(relabel scope X.env).names.lookup n=some .free)->n∈xc6 scope
 slots:fr.map (fun i=>X.N[i]?)=ys.map some
 ysf:∀ y∈ys,y∈xc6 scope
 ysc:∀ y∈ys,(relabel scope X.env).names.lookup y=some .cell\/(relabel scope X.env).names.lookup y=some .free
 nd:X.N.Nodup
 ndb:(zs++ys).Nodup
def blk0 (σ:St) (fr:List Nat) (n:Nat):St:=Qf n none++fr.map fun i=>(σ[i]?).join
section
variable {X:Cx}{pins:List (Addr × Obj)}{σ:St}{H:Hp}{s:Shared}{scope:Scope}{zs:List Str}{ys:List Str}{fr:List Nat}{fp:List Addr}
theorem BlkG.cells (B:BlkG X scope zs ys fr) (I:Inv X pins σ H s):∀ n∈xc6 scope,∃ c,X.env.cells.lookup n=some c:=fun n hn=>I.ok.has n (.inl (B.free n hn))
theorem BlkG.sub (B:BlkG X scope zs ys fr) (I:Inv X pins σ H s) {n:Str}{c:Addr} (h:(X.clo scope).lookup n=some c):X.env.cells.lookup n=some c:=by
 obtain⟨a,b⟩:=xss h;obtain⟨d,e⟩:=B.cells I n a;rw[e] at b;rw[b,e];rfl
theorem Inv.blkG {h1:Heap}{m1:Str->Option Value}{t':Nat} (B:BlkG X scope zs ys fr) (I:Inv X pins σ H s) (hf:∀ b∈fp,FpOk X pins H b) (hz:∀ b∈fp,b<s.heap.objs.size) (n1:h1.Ns s.heap.objs.size m1) (k1:∀ b o,s.heap.get? b=some o->h1.get? b=some o) :
    Inv (X.blkG scope zs ys s.heap.objs.size fp s H (X.pn++pins)) [] (blk0 σ fr zs.length) H { s with heap:=h1,toks:=t' }:=by
  have sub:∀ n c,(X.clo scope).lookup n=some c->X.env.cells.lookup n=some c:=fun n c h=>B.sub I h;have cz:∀ n c,X.env.cells.lookup n=some c->c<s.heap.objs.size:=fun n c e=>by
    obtain⟨v,o,ho,_⟩:=I.cell n c e;exact Zq ho
  have nfs:∀ b∈fp,b∉frs X.stack:=fun b hb z=>(Z1.mp (I.stkSub b z)).elim (hf b hb).2.1 (hf b hb).2.2.1;have fz:∀ b,b∈frs X.stack->b<s.heap.objs.size:=fun b hb=>by
    obtain⟨_,o,ho,_⟩:=I.stack.mem hb;exact Zq ho
  refine⟨⟨I.ok.mod,B.kind,I.ok.glob,I.ok.blt,Zi _,fun y z c h1 h2=>I.ok.inj y z c (sub y c h1) (sub z c h2),fun y hy=>?_,(fun y c hy _=>nomatch hy),I.ok.hd,I.ok.frames,.inl rfl,fun b hb=>⟨?_,fun y c h=>(hf b hb).2.2.2.2.1 y c (sub y c h)⟩,
      I.bs,Zs I.ok.bsz I.sz,fun b o e hb=>?_,fun b hb=>nfs b hb,I.stack,I.stkFree⟩,
    rfl,I.bare,Un.kept k1,⟨m1,n1,fun i y v e1 e2 e3=>?_⟩,fun y c h=>?_,I.hok.fresh (Zi _),fun y c h=>I.freeC y c (sub y c h),fun p hp=>?_,I.hok.kept k1,?_⟩
  . obtain⟨c,e⟩:=B.cells I y (B.has y hy)
    exact⟨c,xl7 (B.has y hy) e⟩
  . exact ZD (hz b hb)
  . rcases (hf b hb).2.2.2.1 with z|z
    . exact I.ok.noex b o e z
    . exact absurd (ZG (Zq (I.ok.bs b o e).1) z) (Y1 _)
  . have ln:(Qf zs.length (none:Option V)).length=zs.length:=QT
    by_cases lt:i<zs.length
    . have e2':(blk0 σ fr zs.length)[i]?=some (some v):=e2
      unfold blk0 at e2';rw[Jj (by rw[ln]; exact lt),Q6] at e2';split at e2'<;>cases e2'
    . obtain⟨k,rfl⟩:∃ k,i=zs.length+k:=⟨i-zs.length,by omega⟩
      have e2':(fr.map fun i=>(σ[i]?).join)[k]?=some (some v):=by
        have z:(blk0 σ fr zs.length)[zs.length+k]?=some (some v):=e2;unfold blk0 at z;rw[Js (by rw[ln]; omega),ln] at z;simpa using z
      have e1':ys[k]?=some y:=by
        have z:(zs++ys)[zs.length+k]?=some y:=e1;rw[Js (by omega)] at z;simpa using z
      rw[Zh] at e2';obtain⟨j,hj,ej⟩:=Zl.mp e2';have ev:σ[j]?=some (some v):=by
        cases q:σ[j]? with
        | none=>rw[q] at ej; cases ej
        | some w=>rw[q] at ej; exact congrArg some ej
      have eN:X.N[j]?=some y:=by
        have z:=congrArg (fun l=>l[k]?) B.slots;simp only[Zh,hj,e1',Y5] at z;exact JC.inj z
      have my:y∈ys:=Zo e1';obtain⟨m,_,lk⟩:=I.loc;obtain⟨u,r,l⟩:=lk j y v eN ev (.inr (.inl (B.free y (B.ysf y my))));refine⟨u,r,.inr ⟨B.ysc y my,?_⟩⟩;rcases l with⟨kk,_⟩|⟨_,c,e,o,ho,hd⟩
      . have z:=B.free y (B.ysf y my)
        rw[show X.env.scope.names.lookup y=some .local from kk] at z;cases z
      . exact⟨c,xl7 (B.ysf y my) e,o,k1 c o ho,hd⟩
  . obtain⟨v,o,ho,hd⟩:=I.cell y c (sub y c h)
    exact⟨v,o,k1 c o ho,hd⟩
  . have hp':p∈X.pn++pins:=by simpa using hp
    obtain⟨a1,a2,a3,a4,a5⟩:=I.pin p hp';exact⟨k1 _ _ a1,a2,ZD (Zq a1),fun z=>(Z1.mp (I.stkSub _ z)).elim a3 a4,a5⟩
  . have z:=congrArg QX B.slots
    simp only[Za] at z;simp[blk0,z]
end
section
variable {X:Cx}{pins:List (Addr × Obj)}{σ:St}{H:Hp}{s:Shared}{scope:Scope}{zs:List Str}{ys:List Str}{fr:List Nat}{fp:List Addr}
theorem Inv.unblkG {C:Addr}{s':Shared}{h2:Heap}{σ':St}{H':Hp}{pl:List (Addr × Obj)} (I:Inv X pins σ H s) (hf:∀ b∈fp,FpOk X pins H b) (hC:s.heap.objs.size<=C) (J:Inv (X.blkG scope zs ys C fp s H (X.pn++pins)) pl σ' H' s') (sb:ZI C s'.heap h2) :
    Inv X pins σ H' { s' with heap:=h2 }:=by
  have kp:∀ b o,b≠C->s'.heap.get? b=some o->h2.get? b=some o:=fun b o nb g=>(sb.2 b nb).trans g;have old:∀ b o,s.heap.get? b=some o->b≠C:=fun b o g=>ZD (ZG (Zq g) hC);have trk:∀ b u,H' b=some u->b≠C:=fun b u hb z=>by
    have f:H' C=none:=J.free;rw[z,f] at hb;cases hb
  refine I.call' (s':={ s' with heap:=h2 }) J.os (ch:=fp) ⟨fun b o e n hb hx=>kp b o (old b o e) (J.base.keep b o e n hb hx),fun b o e n hb hx=>?_,fun b o e n hx=>J.base.free b o e n hx,fun b o e hx=>?_,J.base.tups,J.base.frzs,J.base.tbls⟩ (fun b u hb=>?_) J.bare fun b hb=>?_
  . obtain⟨sl,q⟩:=J.base.slot b o e n hb hx
    exact⟨sl,kp b _ (old b o e) q⟩
  . obtain⟨o',q⟩:=J.base.there b o e hx
    exact⟨o',kp b o' (old b o e) q⟩
  . refine (J.hok b u hb).stay (fun c v hc q=>?_) (fun c q=>q) fun c xs q=>q
    rcases hc with rfl|hc
    . exact kp c v (trk c u hb) q
    . exact kp c v (trk c _ hc) q
  . obtain⟨_,a1,_,a3,a4,a5⟩:=hf b hb
    exact⟨a3,a1,a4,a5⟩
end
def GOk (n:Nat) (g:TG):Prop:=∀ v σ H Q,g v σ H Q->g v σ H (fun σ' H'=>Q σ' H'/\σ'.length=σ.length/\∀ i,n<=i->σ'[i]?=σ[i]?)
theorem xbz {i n:Nat} (h:i<n):GOk n (xei i):=fun v σ H Q q=>⟨q,by simp,fun j hj=>by rw[Yr (by omega)]⟩
def xc4 (J:It) (n:Nat) (g:TG) (σ:St) (fr:List Nat) (tc:TT) (te:TE) (l:Addr) (H1:Hp) (Q:VK):Prop:=∃ W:Nat->Nat->List V->Hp->Prop,(∃ m,W 0 m [] (upd H1 l (.lst [])))/\∀ i m xs H2,W i m xs H2 ->
 (J.stop i H2/\Q (.ref l) H2)\/(J.go i H2/\∀ v H3,J.yld i H2 v H3->g v (blk0 σ fr n) H3 fun σ' H3'=>tc σ' H3' fun b H4=>if b=true then
  (te σ' H4 fun y H5=>H5 l=some (.lst xs)/\xs.length<sizeLine/\∃ m',m'<m/\W (i+1) m' (xs++[y]) (upd H5 l (.lst (xs++[y])))) else ∃ m',m'<m/\W (i+1) m' xs H4)
def xjr (wi:TI) (n:Nat) (g:TG) (fr:List Nat) (tc:TT) (te:TE):TE:=fun σ H Q=>wi σ H fun J H1=>∀ l,H1 l=none->xc4 J n g σ fr tc te l H1 Q
section
variable {X:Cx}{scope:Scope}{zs:List Str}{ys:List Str}{fr:List Nat}{elt iter tg:Expr}{g:TG}{ifs:List Expr}{px pos:Pos}{wi:TI}{tc:TT}{te:TE}
theorem xhr {pins:List (Addr × Obj)}{s:Shared}{σ:St}{H:Hp}{Q:VK}{U:Option (Value->Sem Unit)}{R:Value->Shared->Prop} (hc:X.calm=true) (B:BlkG X scope zs ys fr) (hi:PI X tg iter wi) (hg:∀ C ex s H pn,(∀ x∈zs,(relabel scope X.env).names.lookup x=some .local)->(zs++ys).Nodup->PG (X.blkG scope zs ys C ex s H pn) tg g) (gok:GOk zs.length g)
    (hif:∀ C ex s H pn,PIf (X.blkG scope zs ys C ex s H pn) ifs tc) (he:∀ C ex s H pn,PE (X.blkG scope zs ys C ex s H pn) elt te) (I:Inv X pins σ H s) (h:xjr wi zs.length g fr tc te σ H Q)
    (fin:∀ C l H' s' m,(X.s₀.heap.objs.size<=C/\C≠X.env.locals/\(∀ x c,X.env.cells.lookup x=some c->c≠C)/\∀ p∈X.pn++pins,p.1≠C)->H' C=none->s'.heap.Ns C m->(∀ h2,ZI C s'.heap h2->Inv X pins σ H' { s' with heap:=h2 })->Q (.ref l) H'->compPost (model X.prog X.w) X.A X.xe U R (.ref l) C (.ok .next) s') :
    wpAny (model X.prog X.w) X.A (eval iter X.env) (fun v s1=>wpAny (model X.prog X.w) X.A (pyIter v) (fun it s2=>wpAny (model X.prog X.w) X.A (newList []) (fun acc s3 =>
      wpAny (model X.prog X.w) X.A (newFunctionEnv scope X.env.globals (X.clo scope) [] X.env.qual none .none (some X.env)) (fun cenv s4 =>
        codeAny (model X.prog X.w) X.A (.compStart (.ListComp elt [⟨tg,iter,ifs,0⟩] scope pos) 0 it acc { cenv with scope:=relabel scope X.env }) (compPost (model X.prog X.w) X.A X.xe U R acc cenv.locals) s4) X.xe s3) X.xe s2) X.xe s1) X.xe s:=by
  refine thn (hi pins s σ H _ I h) fun v s1 h1=>thn h1 fun itv s2 h2=>?_;obtain⟨it,fp,tn,J,H2,rfl,I2,T,st2,f2,body⟩:=h2;have hN:H2 s2.heap.objs.size=none:=I2.hok.fresh (Zi _);obtain⟨W,⟨m0,w0⟩,turn⟩:=body s2.heap.objs.size hN;refine Yk ?_;generalize hs3:({ s2 with heap:=s2.heap.push { cls:=.type "list",data:=.seq ([]:List Value).toArray } }:Shared)=s3;have k3:∀ b o,s2.heap.get? b=some o->s3.heap.get? b=some o:=fun b o g=>by rw[<- hs3]; exact Zg _ g
  have I3:Inv X pins σ (upd H2 s2.heap.objs.size (.lst [])) s3:=by
    rw[<- hs3];exact I2.laid (t':=s2.toks) (fun b u e=>Zg _ e) (Zi _) ⟨Jb _,[],0,.nil,Zx _ rfl⟩
  have z2:∀ b∈fp,b<s2.heap.objs.size:=fun b hb=>by
    obtain⟨o,g,_⟩:=T.obj 0 _ st2 b hb;exact Zq g
  have z3:∀ b∈fp,b<s3.heap.objs.size:=fun b hb=>by
    obtain⟨o,g,_⟩:=T.obj 0 _ st2 b hb;exact Zq (k3 b o g)
  have f3:∀ b∈fp,FpOk X pins (upd H2 s2.heap.objs.size (.lst [])) b:=fun b hb=>⟨by rw[xh (ZD (z2 b hb))]; exact (f2 b hb).1,(f2 b hb).2⟩
  have st3:tn 0 s3.heap:=T.keep _ _ _ st2 fun b _ o g=>k3 b o g;refine wpAny_newFunctionEnv B.ncell (by intro y hy; simp at hy) (fun h1 n1 sb1=>?_) B.kind;have k4:∀ b o,s3.heap.get? b=some o->h1.get? b=some o:=fun b o g=>sb1.extBut b o (ZD (Zq g)) (Zg _ g);have I4:=I3.blkG (t':=s3.toks+([]:List (Str × Value)).length) B f3 z3 n1 k4;have st4:tn 0 h1:=T.keep _ _ _ st3 fun b _ o g=>k4 b o g;have own':∀ x∈zs,(relabel scope X.env).names.lookup x=some .local:=fun x hx=>lookup_relabel_local (B.own x hx)
  -- the iterator's objects,through the loop
  have stat:∀{H':Hp},(∀ b∈fp,H' b=none)->∀ b∈fp,FpOk (X.blkG scope zs ys s3.heap.objs.size fp s3 (upd H2 s2.heap.objs.size (.lst [])) (X.pn++pins)) [] H' b:=fun hn b hb=>by
    obtain⟨_,a1,a2,a3,a4,a5⟩:=f3 b hb;exact⟨hn b hb,ZD (z3 b hb),fun z=>(Z1.mp (I3.stkSub b z)).elim a1 a2,.inl hb,fun y c h=>a4 y c (B.sub I3 h),fun p hp=>a5 p (by simpa using hp)⟩
  have loop:∀ s4:Shared,s4={ s3 with heap:=h1,toks:=s3.toks+([]:List (Str × Value)).length } ->
      codeAny (model X.prog X.w) X.A (.compLoop (.ListComp elt [⟨tg,iter,ifs,0⟩] scope pos) 0 (.ref it) (.ref s2.heap.objs.size) (compEnvC scope (X.clo scope) s3.heap.objs.size X.env))
        (compPost (model X.prog X.w) X.A X.xe U R (.ref s2.heap.objs.size) s3.heap.objs.size) s4:=by
    rintro s4 rfl;refine xhu (fun n s'=>∃ i xs H',Inv (X.blkG scope zs ys s3.heap.objs.size fp s3 (upd H2 s2.heap.objs.size (.lst [])) (X.pn++pins)) [] (blk0 σ fr zs.length) H' s'/\tn i s'.heap/\(∀ b∈fp,H' b=none)/\W i n xs H') ?_ m0
      ⟨0,[],_,I4,st4,fun b hb=>(f3 b hb).1,w0⟩
    rintro n s5 ⟨i,xs,H5,I5,st5,fr5,w5⟩;rcases turn i n xs H5 w5 with⟨stop,q⟩|⟨go,step⟩
    . refine ZR (T.done (X.blkG scope zs ys s3.heap.objs.size fp s3 (upd H2 s2.heap.objs.size (.lst [])) (X.pn++pins)) rfl rfl rfl hc i [] s5 _ H5 (fun _ _=>False) I5 (stat fr5) st5 stop) (fun r s6 ⟨hr,I6⟩=>?_) fun _ _ z=>z.elim
      subst hr;obtain⟨m,hm,_⟩:=I6.loc;exact fin _ _ H5 s6 m ⟨I3.sz,(I3.size_lt (Zi _)).2⟩ I6.free hm (fun h2 sb=>I3.unblkG f3 (Zi _) I6 sb) q
    . refine ZR (T.item (X.blkG scope zs ys s3.heap.objs.size fp s3 (upd H2 s2.heap.objs.size (.lst [])) (X.pn++pins)) rfl rfl rfl hc i [] s5 _ H5 (fun _ _=>False) I5 (stat fr5) st5 go) (fun r s6 ⟨u,hr,h6⟩=>?_) fun _ _ z=>z.elim
      subst hr;refine ZR h6 (fun _ s7 ⟨y,H7,I7,r7,y7,st7,fr7⟩=>?_) fun _ _ z=>z.elim;have I7':=I7.pinned (stat fr7) (T.obj _ _ st7);refine ZR (hg _ _ _ _ _ own' B.ndb _ s7 _ H7 y u _ I7' r7 (gok _ _ _ _ (step y H7 y7))) (fun _ s8 ⟨σ8,H8,I8,q8,l8,k8⟩=>?_) fun _ _ z=>z.elim;have back:∀{s9:Shared}{H9:Hp}{xs':List V},Inv (X.blkG scope zs ys s3.heap.objs.size fp s3 (upd H2 s2.heap.objs.size (.lst [])) (X.pn++pins)) ([]++xfw fp s7.heap) σ8 H9 s9->(∃ m',m'<n/\W (i+1) m' xs' H9) ->
          ∃ m,m<n/\∃ i xs H',Inv (X.blkG scope zs ys s3.heap.objs.size fp s3 (upd H2 s2.heap.objs.size (.lst [])) (X.pn++pins)) [] (blk0 σ fr zs.length) H' s9/\tn i s9.heap/\(∀ b∈fp,H' b=none)/\W i m xs H':=fun {s9 H9 xs'} I9 ⟨m',lt,w9⟩=>by
        refine⟨m',lt,i+1,xs',H9,I9.unpinned.weak l8.symm (fun j v e=>?_),T.keep _ _ _ st7 fun b hb o e=>(I9.pin (b,o) (ZP _ (ZP _ (xc9 hb e)))).1,fun b hb=>?_,w9⟩
        . by_cases lj:j<zs.length
          . unfold blk0 at e
            rw[Jj (by rw[QT]; exact lj),Q6] at e;split at e<;>cases e
          . rw[k8 j (by omega)]
            exact e
        obtain⟨o,e,d⟩:=T.obj _ _ st7 b hb;exact (I9.pin (b,o) (ZP _ (ZP _ (xc9 hb e)))).2.1
      refine ZR (hif _ _ _ _ _ _ s8 _ H8 _ I8 q8) (fun ok s9 ⟨H9,I9,q9⟩=>?_) fun _ _ z=>z.elim;cases ok with
      | false =>
        rw[if_neg (by decide)] at q9 ⊢;exact back I9 q9
      | true =>
        rw[if_pos rfl] at q9 ⊢;refine ZR (he _ _ _ _ _ _ s9 _ H9 _ I9 q9) (fun ev s10 ⟨yv,H10,I10,r10,hl,len,w10⟩=>?_) fun _ _ z=>z.elim;refine ZR (xc0 (X:=X.blkG scope zs ys s3.heap.objs.size fp s3 (upd H2 s2.heap.objs.size (.lst [])) (X.pn++pins)) _ s10 _ H10 (.ref s2.heap.objs.size) [yv] (.ref s2.heap.objs.size) [ev] (fun v H'=>H'=upd H10 s2.heap.objs.size (.lst (xs++[yv]))) I10 rfl (.cons r10 .nil) ⟨_,xs,yv,rfl,rfl,hl,len,rfl⟩)
          (fun _ s11 ⟨_,H11,I11,_,e11⟩=>?_) fun _ _ z=>z.elim
        subst e11;exact back I11 w10
  exact codeAny_compStart_list (loop _ rfl) (T.self _ 0 _ _ _ st4 (loop _ rfl))
theorem xcv (hc:X.calm=true) (B:BlkG X scope zs ys fr) (hi:PI X tg iter wi) (hg:∀ C ex s H pn,(∀ x∈zs,(relabel scope X.env).names.lookup x=some .local)->(zs++ys).Nodup->PG (X.blkG scope zs ys C ex s H pn) tg g) (gok:GOk zs.length g) (hif:∀ C ex s H pn,PIf (X.blkG scope zs ys C ex s H pn) ifs tc) (he:∀ C ex s H pn,PE (X.blkG scope zs ys C ex s H pn) elt te)
    (hs:∀ x,foldedSetIterable iter X.env x=pure x:=by intro _; rfl):PE X (.ListComp elt [⟨tg,iter,ifs,0⟩] scope pos) (xjr wi zs.length g fr tc te):=by
  intro pins s σ H Q I h;rw[eval_ListComp];refine wpAny_comprehension_free (use:=none) rfl hs (xnb (B.cells I)) B.kind B.names (xhr hc B hi hg gok hif he I h fun C l H' s' m _ _ hm iv q=>?_);exact⟨m,hm,fun h2 sb=>⟨.ref l,H',iv h2 sb,rfl,q⟩⟩
theorem xch {j:Nat}{y:Str}{py spos:Pos} (hc:X.calm=true) (B:BlkG X scope zs ys fr) (hi:PI X tg iter wi) (hg:∀ C ex s H pn,(∀ x∈zs,(relabel scope X.env).names.lookup x=some .local)->(zs++ys).Nodup->PG (X.blkG scope zs ys C ex s H pn) tg g) (gok:GOk zs.length g) (hif:∀ C ex s H pn,PIf (X.blkG scope zs ys C ex s H pn) ifs tc) (he:∀ C ex s H pn,PE (X.blkG scope zs ys C ex s H pn) elt te)
    (hj:X.N[j]?=some y) (hy:Loc X.env.scope y) (hf:X.fn y=true\/X.env.scope.names.lookup y=some .local:=by first|exact .inl rfl|exact .inr rfl|assumption)
    (hsw:swapsWith (.ListComp elt [⟨tg,iter,ifs,0⟩] scope pos) (some (.Name y py)) spos.line X.env=pure true:=by rfl)
    (hs:∀ x,foldedSetIterable iter X.env x=pure x:=by intro _; rfl):PS X (.Assign [.Name y py] (.ListComp elt [⟨tg,iter,ifs,0⟩] scope pos) spos) (tAsg (xjr wi zs.length g fr tc te) (xei j)):=by
  intro pins s σ H D I h;rw[exec_Assign_Name_used _ _ _ _ hsw];refine Zb (Qt (Zb ?_));show wpAny _ _ (do let _ <- comprehension (.ListComp elt [⟨tg,iter,ifs,0⟩] scope pos) scope X.env _ (newList []) false (eval iter X.env) (some (assign (.Name y py) X.env))) _ _ s;refine Zb (ZR (wpAny_comprehension_free (use:=some (assign (.Name y py) X.env)) (Q:=fun _ s'=>SP X pins D .next s') rfl hs (xnb (B.cells I)) B.kind B.names
    (xhr hc B hi hg gok hif he I h fun C l H' s' m hC hn hm iv q=>?_)) (fun _ s' z=>Zk (Zk z)) fun _ _ e=>e)
  show wpAny _ _ (assign (.Name y py) X.env (.ref l)) _ _ _;have J:Inv X pins σ H' s':=iv s'.heap (.refl ..);refine wpAny_assign_Name (xi3 (v:=V.ref l) J B.nd hj hy rfl (fun s2 J2 ⟨a,sb,ha⟩=>?_) hf);have na:a≠C:=by
    rcases ha with z|z
    . rw[z]; exact ZF hC.2.1
    . exact hC.2.2.1 _ _ z
  refine⟨m,?_,fun h2 s3=>?_⟩
  . obtain⟨o,es,ep,g,r⟩:=hm
    exact⟨o,es,ep,(sb.2 C (ZF na)).trans g,r⟩
  . exact⟨_,H',J2.turned (t':=s2.toks) (fun b o nb g=>(s3.2 b nb).trans g) hn (hC.2.1) (.inr hC.1) hC.2.2.1 hC.2.2.2,q⟩
end
def xke (scope sc0:Scope) (N0:List Str) (zs:List Str) (ys:List Str) (fr:List Nat):Bool :=
 scope.kind == .function&&zs.all (fun x=>scope.names.lookup x == some .local)&&scope.names.all (fun y=>y.2 != .cell)&&scope.names.all (fun y=>y.2 != .local||scope.names.lookup y.1 == some .local) &&
 (xc6 scope).all (fun n=>sc0.names.lookup n == some .cell)&&fr.map (fun i=>N0[i]?) == ys.map some&&ys.all (fun y=>scope.names.lookup y == some .free)&&decide N0.Nodup&&decide (zs++ys).Nodup
theorem xqi {X:Cx}{scope sc0:Scope}{N0:List Str}{zs:List Str}{ys:List Str}{fr:List Nat} (chk:xke scope sc0 N0 zs ys fr=true) (es:X.env.scope=sc0) (eN:X.N=N0):BlkG X scope zs ys fr:=by
 unfold xke at chk;simp only[Zr,beq_iff_eq,Yx,decide_eq_true_eq] at chk;obtain⟨⟨⟨⟨⟨⟨⟨⟨a1,a2⟩,a3⟩,a4⟩,a5⟩,a6⟩,a7⟩,a8⟩,a9⟩:=chk;have nc:∀ y∈scope.names,y.2≠.cell:=fun y hy=>by simpa using a3 y hy
 refine⟨a1,a2,nc,fun y hy hl=>?_,fun n hn=>by rw[es]; exact a5 n hn,fun n h=>xn4 nc n h,by rw[eN]; exact a6,fun y hy=>?_,fun y hy=>xmu (a7 y hy),by rw[eN]; exact a8,a9⟩
 .have z:=a4 y hy;rw[hl] at z;simpa using z
 .exact Ze.mpr ⟨(y,.free),ZJ.mpr ⟨J6 (a7 y hy),by simp⟩,rfl⟩
theorem xbh {X:Cx}{scope sc0:Scope}{N0:List Str}{zs:List Str}{ys:List Str}{fr:List Nat} (chk:xke scope sc0 N0 zs ys fr=true) (es:X.env.scope=sc0) (eN:X.N=N0) (_:X.stack=X.env::X.outer):BlkG X scope zs ys fr:=xqi chk es eN
theorem xes {K:Zd}{m n:Nat}{t:TGs} (h:∀ vs σ H Q,t vs σ H Q->t vs σ H (fun σ' H'=>Q σ' H'/\σ'.length=σ.length/\∀ i,n<=i->σ'[i]?=σ[i]?)):GOk n (gTup K m t):=fun v σ H Q q=>by
 obtain⟨a,xs,e,hs,hl,q⟩:=q;exact⟨a,xs,e,hs,hl,h _ _ _ _ q⟩
theorem xd6 {n:Nat}:∀ vs σ H Q,gNil vs σ H Q->gNil vs σ H (fun σ' H'=>Q σ' H'/\σ'.length=σ.length/\∀ i,n<=i->σ'[i]?=σ[i]?):=fun vs σ H Q q=>⟨q.1,q.2,rfl,fun _ _=>rfl⟩
theorem xbk {i n:Nat} (hi:i<n) {t:TGs} (h:∀ vs σ H Q,t vs σ H Q->t vs σ H (fun σ' H'=>Q σ' H'/\σ'.length=σ.length/\∀ i,n<=i->σ'[i]?=σ[i]?)) :
    ∀ vs σ H Q,xm5 (xei i) t vs σ H Q->xm5 (xei i) t vs σ H (fun σ' H'=>Q σ' H'/\σ'.length=σ.length/\∀ i,n<=i->σ'[i]?=σ[i]?):=fun vs σ H Q q=>by
  obtain⟨v,r,e,q⟩:=q;refine⟨v,r,e,?_⟩;have z:=h _ _ _ _ q;have e2:∀(j:Nat),n<=j->(σ.set i (some v))[j]?=σ[j]?:=fun j hj=>by rw[Yr (by omega)]
  have e1:(σ.set i (some v)).length=σ.length:=by simp
  have key:(fun σ' H'=>Q σ' H'/\σ'.length=(σ.set i (some v)).length/\∀ j,n<=j->σ'[j]?=(σ.set i (some v))[j]?)=(fun σ' (H':Hp)=>Q σ' H'/\σ'.length=σ.length/\∀ j,n<=j->σ'[j]?=σ[j]?):=by
    funext σ' H';rw[e1];refine propext ⟨fun⟨a,b,c⟩=>⟨a,b,fun j hj=>(c j hj).trans (e2 j hj)⟩,fun⟨a,b,c⟩=>⟨a,b,fun j hj=>(c j hj).trans (e2 j hj).symm⟩⟩
  rw[key] at z;exact z
theorem xde {J:It}{n:Nat}{g:TG}{σ:St}{fr:List Nat}{tc:TT}{te:TE}{l:Addr}{H1:Hp}{Q:VK} (len:Nat) (Pv:Nat->List V->Hp->Prop) (h0:Pv 0 [] (upd H1 l (.lst []))) (hgo:∀ i xs H,i<len->Pv i xs H->J.go i H)
    (step:∀ i xs H2 v H3,i<len->Pv i xs H2->J.yld i H2 v H3->∀ N:List V->Hp->Prop,(∀ xs' H',Pv (i+1) xs' H'->N xs' H')->g v (blk0 σ fr n) H3 fun σ' H3'=>tc σ' H3' fun b H4=>if b=true then
      (te σ' H4 fun y H5=>H5 l=some (.lst xs)/\xs.length<sizeLine/\N (xs++[y]) (upd H5 l (.lst (xs++[y])))) else N xs H4)
    (fin:∀ xs H2,Pv len xs H2->J.stop len H2/\Q (.ref l) H2):xc4 J n g σ fr tc te l H1 Q:=by
  refine⟨fun i m xs H=>m=len-i/\i<=len/\Pv i xs H,⟨len,by simp,Jb _,h0⟩,?_⟩;rintro i m xs H2 ⟨rfl,hi,p⟩;by_cases lt:i<len
  . exact .inr ⟨hgo i xs H2 lt p,fun v H3 y=>step i xs H2 v H3 lt p y (fun xs' H'=>∃ m',m'<len-i/\m'=len-(i+1)/\i+1<=len/\Pv (i+1) xs' H') fun xs' H' q=>⟨_,by omega,rfl,lt,q⟩⟩
  . have e:i=len:=by omega
    subst e;exact .inl (fin xs H2 p)
section
variable {X:Cx}{pins:List (Addr × Obj)}{σ:St}{H:Hp}{s:Shared}
theorem Inv.adopt {p:Addr}{o:HO} (I:Inv X pins σ H s) (n:H p=none) (h0:X.s₀.heap.objs.size<=p) (hL:p≠X.env.locals) (hC:∀ x c,X.env.cells.lookup x=some c->c≠p) (hp:∀ q∈X.pn++pins,q.1≠p)
    (new:xao X.prog X.w (upd H p o) s.heap p o):Inv X pins σ (upd H p o) s:=by
  have ne:∀ b u,H b=some u->b≠p:=fun b u e=>xi e n;refine⟨I.ok,I.os,I.bare,⟨I.base.keep,I.base.slot,fun b ob e hn hx=>?_,I.base.there,fun b xs e=>?_,fun b ob u e=>?_,fun b ps e=>?_⟩,I.loc,I.cell,?_,fun x c e=>?_,fun q hq=>?_,fun b u e=>?_,I.len⟩
  . rw[xh (ZD (ZG (Zq e) h0))]
    exact I.base.free b ob e hn hx
  . have z:=I.base.tups b xs e
    rw[xh (ne b _ z)];exact z
  . have z:=I.base.frzs b ob u e
    rw[xh (ne b _ z)];exact z
  . obtain⟨m,z⟩:=I.base.tbls b ps e
    exact⟨m,by rw[xh (ne b _ z)]; exact z⟩
  . rw[xh (ZF hL)]
    exact I.free
  . rw[xh (hC x c e)]
    exact I.freeC x c e
  . obtain⟨a1,a2,a3⟩:=I.pin q hq
    exact⟨a1,by rw[xh (hp q hq)]; exact a2,a3⟩
  . by_cases hb:b=p
    . subst hb
      rw[xf] at e;cases e;exact new
    . rw[xh hb] at e
      exact (I.hok b u e).stay (fun c v _ q=>q) (fun c q=>by rw[xh (ne c _ q)]; exact q) fun c xs q=>by rw[xh (ne c _ q)]; exact q
theorem Inv.thaw {d:Addr}{o:Obj}{u:HO} (I:Inv X pins σ H s) (e:H d=some (.frz o u)) (nf:∀ o' u',X.H₀ d≠some (.frz o' u')):Inv X pins σ (upd H d u) s:=by
 have ne:∀ b v,H b=some v->(∀ o' u',v≠.frz o' u')->b≠d:=fun b v h1 h2 z=>by
  subst z;rw[e] at h1;cases h1;exact h2 _ _ rfl
 have ne0:∀ b,H b=none->b≠d:=fun b h1 z=>by
  subst z;rw[e] at h1;cases h1
 refine⟨I.ok,I.os,I.bare,⟨I.base.keep,I.base.slot,fun b ob q hn hx=>?_,I.base.there,fun b xs q=>?_,fun b ob v q=>?_,fun b ps q=>?_⟩,I.loc,I.cell,?_,fun x c q=>?_,fun p hp=>?_,fun b v q=>?_,I.len⟩
 .have z:=I.base.free b ob q hn hx;rw[xh (ne0 b z)];exact z
 .have z:=I.base.tups b xs q;rw[xh (ne b _ z (fun _ _ h=>nomatch h))];exact z
 .have z:=I.base.frzs b ob v q;have hb:b≠d:=fun w=>by
   subst w;exact nf _ _ q
  rw[xh hb];exact z
 .obtain ⟨m,z⟩:=I.base.tbls b ps q;exact⟨m,by rw[xh (ne b _ z (fun _ _ h=>nomatch h))]; exact z⟩
 .rw [xh (ne0 _ I.free)];exact I.free
 .rw [xh (ne0 _ (I.freeC x c q))];exact I.freeC x c q
 .obtain ⟨a1,a2,a3⟩:=I.pin p hp;exact⟨a1,by rw[xh (ne0 _ a2)]; exact a2,a3⟩
 .have st:∀(a:Addr) (v:HO),xao X.prog X.w H s.heap a v->xao X.prog X.w (upd H d u) s.heap a v:=fun a v k =>
   k.stay (fun c v _ q=>q) (fun c q=>by rw[xh (ne c _ q (fun _ _ h=>nomatch h))]; exact q) fun c xs q=>by rw[xh (ne c _ q (fun _ _ h=>nomatch h))]; exact q
  by_cases hb:b=d
  .subst hb;rw[xf] at q;cases q;obtain⟨g,ok⟩:=I.hok b _ e;exact st _ _ ok
  .rw [xh hb] at q;exact st _ _ (I.hok b v q)
theorem Inv.nofrz {d:Addr}{kvs:List (Key × V)} (I:Inv X pins σ H s) (e:H d=some (.dK kvs)):∀ o' u',X.H₀ d≠some (.frz o' u'):=fun o' u' z=>by
 have q:=I.base.frzs d o' u' z;rw[e] at q;cases q
theorem KV.get:∀{kvs:List (Key × V)}{vs:List (Key × Value)}{i:Nat}{k:Key}{x:V},KV kvs vs->kvs[i]?=some (k,x)->∃ u,vs[i]?=some (k,u)/\RelV x u
 | _,_,_,_,_,.nil,e=>by simp at e
 | _,(_,_)::_,0,_,_,.cons r _,e=>by
  simp at e;subst e;obtain⟨r1,r2⟩:=r
  dsimp only at r1 r2
  subst r1;exact⟨_,rfl,r2⟩
 | _,_,i+1,k,x,.cons _ t,e=>by
  obtain⟨u,h1,h2⟩:=KV.get (i:=i) (k:=k) (x:=x) t (by simpa using e);exact⟨u,by simpa using h1,h2⟩
theorem xtc {P:Program}{w:World}{k:Key}{u:Value} (h:(xal P w).is k u=true):RelV (kV k) u:=by
 rcases xbc (show xe9 k u=true from h) with⟨i,t,rfl,rfl⟩|⟨x,t,rfl,rfl⟩
 .exact ⟨t,rfl⟩
 .exact ⟨t,rfl⟩
theorem xo8 {d:Addr}{o:Obj}{kvs:List (Key × V)}{ep:Nat} (I:Inv X pins σ H s) (e:H d=some (.frz o (.dK kvs))) (hep:∃ es,o.data=.dict es ep):∃ vs,KV kvs vs/\s.heap.DictAt (xal X.prog X.w) d vs ep:=by
 obtain⟨g,_,_,vs,rel,o',es',ep',g',ex,hdat,hk,hp,hn⟩:=I.hok d _ e;rw[g] at g';cases g';obtain⟨es,he⟩:=hep;rw[he] at hdat;cases hdat;exact⟨vs,rel,o,_,g,ex,he,hk,hp,hn⟩
end
def Iti (d:Addr) (o:Obj) (kvs:List (Key × V)):It :=
 ⟨fun i H=>H d=some (.frz o (.dK kvs))/\i<kvs.length,fun i H v H'=>∃ p k x,kvs[i]?=some (k,x)/\v=.ref p/\H p=none/\H'=upd H p (.tup [kV k,x]),fun i H=>H d=some (.frz o (.dK kvs))/\kvs.length<=i⟩
theorem xm3 {P:Program}{w:World}{K:Zd}{elts:List Expr}{x1}{tpos:Pos} (d it:Addr) (o:Obj) (kvs:List (Key × V)) (ep:Nat) (hep:∃ es,o.data=.dict es ep) :
    Turn P w K (.Tuple elts x1 tpos) (Iti d o kvs) [it] it (fun i h=>∃ ok ov,IsItemIter h it d i kvs.length ep ok ov) where
  mem:=by simp
  obj:=fun i h st b hb=>by
    have e:b=it:=by simpa using hb
    subst e;obtain⟨ok,ov,st⟩:=st;exact⟨_,st,fun v z=>by
      have z':QY _=Data.cell v:=z;cases z'⟩
  keep:=fun i h h' ⟨ok,ov,st⟩ k=>⟨ok,ov,k it (by simp) _ st⟩
  item:=by
    intro X hP hw hK hc i pins s σ H E I hf st hg;subst hP hw hK;obtain⟨ok,ov,st⟩:=st;obtain⟨e,lt⟩:=hg;obtain⟨vs,rel,da⟩:=xo8 I e hep;obtain⟨f0,f1,f2,f3,f4,f5⟩:=hf it (by simp);have hl:kvs.length=vs.length:=rel.length;obtain⟨⟨k,x⟩,q⟩:∃ y,kvs[i]=y:=⟨_,rfl⟩
    have hx:kvs[i]?=some (k,x):=by rw[Zf lt,q]
    obtain⟨u,hv,ru⟩:=rel.get hx;rw[hl] at st;refine wpAny_pyNext_items_item st da hv fun key h' hkey hout ht hz hkp=>?_;refine⟨_,rfl,wpAny_letOwnedTupleGo_items hout fun h'' hit' hsb=>?_⟩;have kk:∀ b o,b≠it->s.heap.get? b=some o->h''.get? b=some o:=fun b o hb g=>(hsb.2 b hb).trans (hkp b o hb g);have I1:Inv X pins σ H { s with heap:=h'' }:=I.turned (t':=s.toks) kk f0 f1 f3 f4 f5;obtain⟨n0,nL,nC,nP⟩:=I.size_lt (Zi s.heap.objs.size);have itlt:it<s.heap.objs.size:=Zq st;have pne:s.heap.objs.size≠it:=Yd itlt;have hp:h''.get? s.heap.objs.size=some { cls:=.type "tuple",data:=.seq #[key,u] }:=(hsb.2 _ pne).trans ht;refine⟨.ref s.heap.objs.size,upd H s.heap.objs.size (.tup [kV k,x]),I1.adopt n0 I.sz nL nC nP ⟨by show 2<=sizeLine; decide,[key,u],.cons (xtc hkey) (.cons ru .nil),_,hp,rfl,_,rfl⟩,rfl,⟨_,k,x,hx,rfl,n0,rfl⟩,?_,fun b hb=>?_⟩
    . rw[<- hl] at hit'
      exact⟨_,_,hit'⟩
    . have e:b=it:=by simpa using hb
      subst e;rw[xh (ZF pne)];exact f0
  done:=by
    intro X hP hw hK hc i pins s σ H E I hf st hg;subst hP hw hK;obtain⟨ok,ov,st⟩:=st;obtain⟨e,le⟩:=hg;obtain⟨vs,rel,da⟩:=xo8 I e hep;obtain⟨f0,f1,f2,f3,f4,f5⟩:=hf it (by simp);have hl:kvs.length=vs.length:=rel.length;rw[hl] at st;exact wpAny_pyNext_items_end (I.ok.hd hc) st da (by simpa using (by omega:vs.length<=i)) fun h' eb=>⟨rfl,I.turned (t':=s.toks) (fun b o hb e=>eb b o hb e) f0 f1 f3 f4 f5⟩
  self:=fun _ _ _ _ _ ⟨ok,ov,st⟩ h=>PySem.W.kcp_self st h
def xt7 (X:Cx) (to:TE):TI:=fun σ H R=>to σ H fun x H1=>∃ d kvs,x=.ref d/\H1 d=some (.dK kvs)/\∀ ob,(∀ o' u',X.H₀ d≠some (.frz o' u'))->R (Iti d ob kvs) (upd H1 d (.frz ob (.dK kvs)))
section
variable {X:Cx}{o:Expr}{to:TE}{elts:List Expr}{x1:_}{tpos apos cpos:Pos}
theorem xgw (ho:PE X o to) (hbase:attributeBase o "items" X.env (eval o X.env)=eval o X.env:=by rfl) (hline:(apos.endLine == cpos.line)=true:=by rfl) :
    PI X (.Tuple elts x1 tpos) (.Call (.Attribute o "items" apos) [] [] cpos) (xt7 X to):=by
  intro pins s σ H R I h;refine wpAny_Call_method0_late hbase hline (thn (ho pins s σ H _ I h) fun v s1 ⟨x,H1,I1,r1,q1⟩=>?_);obtain⟨d,kvs,e1,e,q⟩:=q1;subst e1;cases r1;obtain⟨z,hd,vs,rel,dd⟩:=xjo I1.hok e;obtain⟨ob,es,ep,g,ex,hdat,hk,hp,hn⟩:=id dd;refine⟨"dict", "dict.items",Q4,PySem.F.slot_dict_items,PySem.F.type_dict_items,dd.typeIs,fun a e2=>?_,YJ rfl (PySem.evalArgs_none ?_)⟩
  . cases e2
    exact⟨ob,g,ex.2.1⟩
  refine call_meetsIn PySem.F.slot_dict_items dd.typeIs PySem.F.entry_dict_items (PySem.F.args_dict_items_1 _) (meets_dict_items (xal X.prog X.w) d hd) ⟨⟨vs,dd⟩,?_⟩;have da:(s1.heap.push { cls:=.type "dict_items",data:=.fields #[.ref d] }).DictAt (xal X.prog X.w) d vs ep:=⟨ob,es,Zg _ g,ex,hdat,hk,hp,hn⟩
  refine wpAny_pyIter_items (s:={ s1 with heap:=s1.heap.push { cls:=.type "dict_items",data:=.fields #[.ref d] } }) ⟨_,Zx _ rfl,rfl,rfl⟩ da ?_;have I2:Inv X pins σ H1 { s1 with heap:=s1.heap.push { cls:=.type "dict_items",data:=.fields #[.ref d] } }:=I1.kept (t':=s1.toks) fun b o e=>Zg _ e;generalize hs2:({ s1 with heap:=s1.heap.push { cls:=.type "dict_items",data:=.fields #[.ref d] } }:Shared)=s2 at I2;have g2:s2.heap.get? d=some ob:=by rw[<- hs2]; exact Zg _ g
  have I3:Inv X pins σ (upd H1 d (.frz ob (.dK kvs))) s2:=I2.write (t':=s2.toks) (x:=d) (e:=d) (by rw[e]; exact Jv) (.inl rfl) (fun b u _ q=>q) ⟨ob,g2⟩ ⟨g2,I2.hok d _ e⟩;have I4:Inv X pins σ (upd H1 d (.frz ob (.dK kvs))) { s2 with heap:=s2.heap.push { cls:=.type "dict_itemiterator",data:=.fields #[.none,.bool false,.ref d,.int 0 0,.int vs.length 0,.int ep 0,.none,.none] } } :=
    I3.kept (t':=s2.toks) fun b o e=>Zg _ e
  have fin:PIE X pins σ (.Tuple elts x1 tpos) R (.ref s2.heap.objs.size) { s2 with heap:=s2.heap.push { cls:=.type "dict_itemiterator",data:=.fields #[.none,.bool false,.ref d,.int 0 0,.int vs.length 0,.int ep 0,.none,.none] } }:=by
    refine⟨s2.heap.objs.size,[s2.heap.objs.size],_,_,upd H1 d (.frz ob (.dK kvs)),rfl,I4,xm3 d _ ob kvs ep ⟨es,hdat⟩,⟨.none,.none,?_⟩,fun b hb=>?_,q ob (I1.nofrz e)⟩
    . have hl:kvs.length=vs.length:=rel.length
      show IsItemIter _ _ d 0 kvs.length ep .none .none;rw[hl];exact Zx _ rfl
    . have eb:b=s2.heap.objs.size:=by simpa using hb
      subst eb;exact I3.fpOk (Zi _) (I3.hok.fresh (Zi _))
  exact fin
theorem xqf {pins:List (Addr × Obj)}{σ:St}{Q:VK}{u:Value}{s:Shared} (h:EP X pins σ (fun v H2=>∃ d ob u,H2 d=some (.frz ob u)/\(∀ o' u',X.H₀ d≠some (.frz o' u'))/\Q v (upd H2 d u)) u s):EP X pins σ Q u s:=by
 obtain⟨v,H2,I2,r2,d,ob,u',e,nf,q⟩:=h;exact⟨v,_,I2.thaw e nf,r2,q⟩
theorem xsa {e:Expr}{t:TE} (h:PE X e t):PE X e (fun σ H Q=>t σ H fun v H2=>∃ d ob u,H2 d=some (.frz ob u)/\(∀ o' u',X.H₀ d≠some (.frz o' u'))/\Q v (upd H2 d u)):=fun pins s σ H Q I q =>
 thn (h pins s σ H _ I q) fun _ _ z=>xqf z
end
end L2
namespace PySem.F
theorem xl_plain_dict_loop:plainId "dict.update.loop"=true:=by decide +kernel
theorem xl_entry_dict_loop:entryFor table "dict.update.loop"=some Builtin.«dict.update.loop»:=entryFor_of_tree (by kernel_rfl)
theorem xl_list_nokeys:typeLookup (.type "list") "keys"=pure none:=by rw[typeLookup_type,QO]; kernel_rfl
end PySem.F
namespace L2
open PySem PySem.Spec PyProof.Rows XL
variable {q0:Bool}
theorem xnj {prog:Program}{w:World}{A:Around}{E:Value->Shared->Prop}{s:Shared}{a:Addr}{o:Obj}{xs:Array Value}{k:Nat}{Q:Option Value->Shared->Prop}
    (hx:s.heap.get? a=some o) (hc:o.cls=.type "list") (hdat:o.data=.seq xs k) (hd:o.dict=none) (hA:A.handled=none)
    (h:∀ h' tk,(∀ b o,s.heap.get? b=some o->h'.get? b=some o)->Q none { s with heap:=h',toks:=tk }):wpAny (model prog w) A (getAttr? (.ref a) "keys") Q E s:=by
  obtain⟨c,dct,dat,sl⟩:=o;simp only at hc hdat hd;subst hc hdat hd;obtain⟨hp,g,d,tk,os⟩:=s;have hT:∀ tk',(⟨hp,g,d,tk',os⟩:Shared).TypeIs (.ref a) "list":=fun _=>⟨_,hx,rfl⟩
  have f1:=sub_AttributeError;have f3:=Qx.lookup;have f4:=Qx.bind (.ref a);have f5:=am_list_getattr_none;unfold getAttr? getAttrBy? getAttrBy
  repeat (any_goals (first|assumption|exact hT _|((with_reducible show wpAny _ _ (call (Yh "list.__getattribute__") _ _) _ _ _); refine Wq Qx (hT _) am_entry_list_getattribute (F.args_list_getattribute_2 _ _) (meets_getattribute_miss_list a xs k sl "keys" _ F.xl_list_nokeys (by decide +kernel) (by size_fits)) ⟨hx,hA,fun h' tk' e hx'=>?_⟩)|wp_step))
  obtain⟨t',u',he⟩:=hx'.there;have hk:=hx'.of.keeps;show wpAny _ _ (getattributeRaised _ _ _ _ _ _ _) _ _ _;unfold getattributeRaised
  repeat (any_goals (first|assumption|wp_step))
  exact h _ _ hk
section
variable {X:Cx}{pins:List (Addr × Obj)}{σ:St}{H:Hp}{s:Shared}{a:Addr}{y v:V}{u r:Value}{A:Around}{E:Value->Shared->Prop}
theorem xn3 {H':Hp}{Q:Unit->Shared->Prop} (hu:A.units<cLine) (I:Inv X pins σ H s) (g:DPut H a y v H') (ry:RelV y u) (rv:RelV v r) (h:∀ s',Inv X pins σ H' s'->Q () s') :
    wpAny (model X.prog X.w) A (dictSet a u r) Q E s:=by
  rcases g with⟨kvs,k,e,ey,l,eH⟩|⟨kvs,k,b,e,ey,eb,l,eH⟩
  . subst ey eH
    obtain⟨z,hd,vs,rel,dd⟩:=xjo I.hok e;have hz:vs.length<=sizeLine:=by rw[<- rel.length]; exact z
    have hl:(putK kvs k v).length<=sizeLine:=by have:=xb7 kvs k v; omega
    refine wpAny_dictSet_pairs (hsz:=hz) (xdn ry) dd fun h' dd' hs=>h _ ?_;have he:∃ q,h'.get? a=some q:=let ⟨q,_,_,hq,_⟩:=dd'; ⟨q,hq⟩;exact xet I (by rw[e]; exact Jv) hs he (xoq hl hd (rel.put k rv) dd')
  . subst ey eH
    cases (show u=Zm b from ry);obtain⟨z,hd,xs,rel,dd⟩:=xg5 I.hok e;have hz:xs.length<=sizeLine:=by rw[<- Yi rel]; exact z
    have hl:(putK kvs k v).length<=sizeLine:=by have:=xb7 kvs k v; omega
    refine wpAny_dictSet_heap (hsz:=hz) (show (tupleKind (xal X.prog X.w)).room A from hu) (xd5 I.hok eb) dd fun h' dd' hs=>h _ ?_;obtain⟨q,es,ep,hq,h2,h3,h4,_,h5⟩:=dd';refine xet I (by rw[e]; exact Jv) hs ⟨q,hq⟩ ⟨hl,hd,_,(rel.put k eb rv).keeps fun c ys ec=>?_,q,es,ep,hq,h2,h3,h4,h5⟩;rw[xh (xai ec e (fun z=>nomatch z))];exact ec
theorem DPut.stay {d b:Addr}{H':Hp}{o:HO} (g:DPut H d y v H') (e:H b=some o) (n1:∀ kvs,o≠.dK kvs) (n2:∀ kvs,o≠.dT kvs):H' b=some o:=by
 rcases g with⟨kvs,k,e2,_,_,rfl⟩|⟨kvs,k,b2,e2,_,_,_,rfl⟩
 .rw [xh (xai e e2 (n1 _))];exact e
 .rw [xh (xai e e2 (n2 _))];exact e
theorem DPut.free {d b:Addr}{H':Hp} (g:DPut H d y v H') (e:H b=none):H' b=none:=by
 rcases g with⟨kvs,k,e2,_,_,rfl⟩|⟨kvs,k,b2,e2,_,_,_,rfl⟩
 .rw [xh (ZF (xi e2 e))];exact e
 .rw [xh (ZF (xi e2 e))];exact e
end
inductive xfz (d:Addr):Hp->List (V × V)->Hp->Prop
 | nil {H:Hp}:xfz d H [] H
 | cons {H H1 H2:Hp}{y v:V}{r:List (V × V)}:DPut H d y v H1->xfz d H1 r H2->xfz d H ((y,v)::r) H2
theorem xgh {X:Cx}{pins:List (Addr × Obj)}{σ:St}{A:Around}{R:Result->Shared->Prop} (hh:A.in1.handled=none) (hu:A.in1.units<cLine) {l it d:Addr} :
    ∀(ps:List (Addr × V × V)) (pre:List V) (j:Int) (H H2:Hp) (s:Shared),Inv X pins σ H s->H l=some (.lst (pre++ps.map fun p=>.ref p.1))->(∀ p∈ps,H p.1=some (.tup [p.2.1,p.2.2]))->xfz d H (ps.map (·.2)) H2 ->
      s.heap.IsListIter it l pre.length->FpOk X pins H it->(∀ s',Inv X pins σ H2 s'->R (.ok (.ret .none)) s') ->
      codeAny (model X.prog X.w) A (.builtin "dict.update.loop" ⟨[.ref d,.ref it,rawInt j,.none],[]⟩) R s
  | [],pre,j,H,H2,s,I,hl,hp,dp,st,fo,fin=>by
    cases dp;obtain⟨z,its,n,r,hl2,e⟩:=I.lstM hl;obtain⟨f0,f1,f2,f3,f4,f5⟩:=fo;refine codeAny_builtin F.xl_entry_dict_loop ?_;rw[Around.under_plainId F.xl_plain_dict_loop _];show wpAny _ A.in1 (pyNext (.ref it)>>=_) _ _ s;refine Zb (QM hh st ⟨_,e,rfl,_,rfl⟩ (by simp at hl2 ⊢; omega) fun h' eb=>?_);show wpAny _ A.in1 (Builtin.Dict.addKeywords d []>>=_) _ _ _;exact Zb (Zk (Zk (fin _ (I.turned (t':=s.toks) (fun b o hb e=>eb b o hb e) f0 f1 f3 f4 f5))))
  | (a,y,v)::ps,pre,j,H,H2,s,I,hl,hp,dp,st,fo,fin=>by
    have fo':=fo;obtain⟨f0,f1,f2,f3,f4,f5⟩:=fo;cases dp with
    | @cons _ H1 _ _ _ _ g dp =>
    obtain⟨z,its,n,r,hl2,e⟩:=I.lstM hl;obtain⟨u,hu1,ru⟩:=r.get (i:=pre.length) (x:=.ref a) (by simp);obtain rfl:u=Zm a:=ru;refine codeAny_builtin F.xl_entry_dict_loop ?_;rw[Around.under_plainId F.xl_plain_dict_loop _];show wpAny _ A.in1 (pyNext (.ref it)>>=_) _ _ s;refine Zb (QB st ⟨_,e,rfl,_,rfl⟩ (x:=.ref a) (by simpa using hu1) fun h' st' sb=>?_);have I1:Inv X pins σ H { s with heap:=h' }:=I.turned (t':=s.toks) (fun b o hb e=>(sb.2 b hb).trans e) f0 f1 f3 f4 f5;obtain⟨z2,ts,rt,ot,et,ct,nt,dt⟩:=I1.hok a _ (hp _ Zz);obtain⟨uk,uv,rfl,rk,rv⟩:=xjq rt;show wpAny _ A.in1 (holding [.ref a] _>>=_) _ _ _;refine Zb (Jf ?_);refine Zb (wpAny_tryCatch ?_);unfold Builtin.Dict.pairItems;refine Zb (Yt (T:="tuple") ⟨ot,et,ct⟩ ?_);rw[if_pos (by decide)];refine Zb (wpAny_seqItems et dt (Zk ?_));show wpAny _ A.in1 (holding [uk,uv] (dictSet d uk uv)) _ _ _;have ob:∀ b∈[it],∃ o,h'.get? b=some o/\∀ v,o.data≠.cell v:=fun b hb=>by
      have e:b=it:=by simpa using hb
      subst e;obtain⟨o,e,c,d⟩:=id st';exact⟨o,e,fun v z=>by rw[d] at z; cases z⟩
    have I1':=I1.pinned (fp:=[it]) (fun b hb=>by
      have e:b=it:=by simpa using hb
      subst e;exact fo') ob
    refine Jf (xn3 hu I1' g rk rv fun s' I2=>?_);refine Zk ⟨plainId_quiet F.xl_plain_dict_loop _,?_⟩;have fo2:FpOk X pins H1 it:=⟨g.free f0,f1,f2,f3,f4,f5⟩
    have st2:s'.heap.IsListIter it l (pre++[V.ref a]).length:=by
      rw[Zp];exact st'.at fun o e=>(I2.pin (it,o) (ZP _ (ZP _ (xc9 (by simp) e)))).1
    refine xgh hh hu ps (pre++[V.ref a]) (j+1) H1 H2 s' I2.unpinned ?_ (fun p hp'=>?_) dp st2 fo2 fin
    . have z:=g.stay hl (fun _ q=>nomatch q) (fun _ q=>nomatch q)
      rw[z];simp
    . exact g.stay (hp p (Zy _ hp')) (fun _ q=>nomatch q) (fun _ q=>nomatch q)
def xr8:List V->Hp->VK->Prop:=fun xs H Q=>∃(l:Addr) (ps:List (Addr × V × V)),xs=[.ref l]/\H l=some (.lst (ps.map fun p=>.ref p.1))/\(∀ p∈ps,H p.1=some (.tup [p.2.1,p.2.2])) /\
 ∀ d,H d=none->∃ e H2,(e=.dK []\/e=.dT [])/\xfz d (upd H d e) (ps.map (·.2)) H2/\Q (.ref d) H2
theorem xkx {X:Cx} (hc:X.calm=true) (hu:X.A.units+3<cLine):xb1 X (.type "dict") xr8:=by
 intro pins s σ H xs us Q I r h;obtain⟨l,ps,rfl,hl,hp,q⟩:=h;obtain⟨u,rfl,rx⟩:=xbx r;obtain rfl:u=Zm l:=rx;refine callType_codes (Q₁:=fun obj s₁=>obj=.ref s.heap.objs.size/\s₁={ s with heap:=s.heap.push { cls:=.type "dict",data:=.dict #[] } }) F.kt_called_dict (F.kt_typeCall_dict_1 _) F.entry_dict_init (kt_code_dict_new _ ⟨rfl,rfl⟩) ?_;rintro obj s₁ ⟨rfl,rfl⟩;obtain⟨e,H2,he,dps,q2⟩:=q s.heap.objs.size I.fresh;have I1:Inv X pins σ (upd H s.heap.objs.size e) { s with heap:=s.heap.push { cls:=.type "dict",data:=.dict #[] } }:=by
  refine I.laid (t':=s.toks) (fun b u e=>Zg _ e) (Zi _) ?_;rcases he with rfl|rfl
  .exact xj0 s.heap I.big
  .exact xka s.heap I.big
 have hT:(Shared.mk (s.heap.push { cls:=.type "dict",data:=.dict #[] }) s.gens s.drawn s.toks s.os).TypeIs (.ref s.heap.objs.size) "dict":=⟨_,Zx _ rfl,rfl⟩
 have nl:l≠s.heap.objs.size:=fun z=>by
  rw[z,I.fresh] at hl;cases hl
 have hl1:upd H s.heap.objs.size e l=some (.lst (ps.map fun p=>.ref p.1)):=by rw[xh nl]; exact hl
 obtain⟨z,its,n,rr,hll,el⟩:=I1.lstM hl1;refine⟨hT,F.args_dict_init_2 _ _,?_⟩;unfold Builtin.«dict.__init__»;refine Zb ?_;unfold Builtin.Dict.selfAndRest;refine Zb (QN hT ?_);show wpAny _ _ (pure (s.heap.objs.size,[Zm l])) _ _ _;refine Zk ?_;show wpAny _ _ (Builtin.Dict.updateFrom "dict.__init__" s.heap.objs.size (.ref l) [] .none) _ _ _;unfold Builtin.Dict.updateFrom;refine Zb (Yt (T:="list") ⟨_,el,rfl⟩ ?_);rw[if_pos (by decide)];refine Zb (xnj el rfl rfl rfl (I.ok.hd hc) fun h' tk hk=>?_);have I2:=I1.kept (h':=h') (t':=tk) hk;show wpAny _ _ (rule _>>=_) _ _ _;refine Zb (wpAny_rule ?_);refine Zb (wpAny_pyIter_list ⟨_,hk _ _ el,rfl,_,rfl⟩ ?_);refine Zk ⟨plainId_quiet F.xl_plain_dict_loop _,?_⟩;have I3:Inv X pins σ (upd H s.heap.objs.size e) _:=I2.kept (t':=tk) (h':=h'.push { cls:=.type "list_iterator",data:=.fields #[.ref l,.int 0 0] }) fun b o e=>Zg _ e;refine xgh (A:=X.A.in1) (I.ok.hd hc) (by show X.A.units+1+1<cLine; omega) ps [] 0 _ H2 _ I3 (by simpa using hl1) (fun p hp'=>?_) dps ?_ ?_ fun s' I'=>?_
 .rw [xh (xi (hp p hp') I.fresh)];exact hp p hp'
 .exact ⟨_,Zx _ rfl,rfl,rfl⟩
 .exact I2.fpOk (Zi _) (I2.hok.fresh (Zi _))
 .exact ⟨rfl,⟨.ref _,H2,I',rfl,q2⟩⟩
theorem xey {X:Cx}{e:Expr}{t1 t2:TE} (h1:PE X e t1) (h2:PE X e t2):PE X e (fun σ H Q=>t1 σ H Q\/t2 σ H Q):=fun pins s σ H Q I h=>h.elim (h1 pins s σ H Q I) (h2 pins s σ H Q I)
def Itrs (lo d:Int) (n:Nat):It:=⟨fun i _=>i<n,fun i H x H'=>H'=H/\x=.int (lo+(i:Int)*d),fun i _=>n<=i⟩
theorem xk3 {P:Program}{w:World}{K:Zd}{tg:Expr} (it:Addr) (lo d:Int) (n:Nat):Turn P w K tg (Itrs lo d n) [it] it (fun i h=>IsRangeIter h it (lo+(i:Nat)*d) ((n:Int)-(i:Nat)) d) where
 mem:=by simp
 obj:=fun i h st b hb=>by
  have e:b=it:=by simpa using hb
  subst e;exact⟨_,st,fun v z=>by
   have z':QY _=Data.cell v:=z;cases z'⟩
 keep:=fun i h h' st k=>k it (by simp) _ st
 item:=by
  intro X hP hw hK hc i pins s σ H E I hf st hg;subst hP hw hK;obtain⟨f0,f1,f2,f3,f4,f5⟩:=hf it (by simp);have W:=Walks.range (prog:=X.prog) (w:=X.w) (I.ok.hd hc) it lo d n;refine W.item i s _ _ hg st fun v h' tk hv st' kk=>?_;obtain⟨t,rfl⟩:=hv;have I1:Inv X pins σ H { s with heap:=h',toks:=tk }:=I.turned (fun b o hb e=>kk b o (by simpa using hb) e) f0 f1 f3 f4 f5;exact⟨_,rfl,xje (s:={ s with heap:=h',toks:=tk }) (n:="range_iterator") st' rfl rfl (by decide) ⟨.int (lo+(i:Int)*d),H,I1,⟨t,rfl⟩,⟨rfl,rfl⟩,st',fun b hb=>(hf b hb).1⟩⟩
 done:=by
  intro X hP hw hK hc i pins s σ H E I hf st hg;subst hP hw hK;obtain⟨f0,f1,f2,f3,f4,f5⟩:=hf it (by simp);exact wpAny_pyNext_range_end (I.ok.hd hc) st (by have:n<=i:=hg; omega) fun h' eb=>⟨rfl,I.turned (t':=s.toks) (fun b o hb e=>eb b o hb e) f0 f1 f3 f4 f5⟩
 self:=fun _ _ _ _ _ st h=>wpAny_pyIter_rangeiter st h
theorem xe2 (a b:Int):Builtin.Range.rangeSize a b (-1)=if b<a then a-b else 0:=by
 unfold Builtin.Range.rangeSize;rw[if_neg (by decide)];simp only[Int.neg_neg,Int.ediv_one];split<;>omega
theorem xmq {a b:Int} (ha:-(2 ^ 62)<=a) (ha':a<2 ^ 62) (hb:-(2 ^ 62)<=b) (hb':b<2 ^ 62):Builtin.Range.small a b (-1)=true:=by
 unfold Builtin.Range.small;rw[xe2];simp only[Builtin.Range.rangeFitsLong,Zr,Y6,decide_eq_true_eq,beq_iff_eq,show ¬ ((-1:Int)>0) by decide,if_false];split<;>omega
section
variable {X:Cx}{tg:Expr}
theorem xiz {pins:List (Addr × Obj)}{σ:St}{H:Hp}{s:Shared}{R:It->Hp->Prop}{E:Value->Shared->Prop}{lo hi d:Int}{n:Nat}{t u v:Tok}{tk:Nat} (I:Inv X pins σ H s) (sm:Builtin.Range.small lo hi d=true) (sz:Builtin.Range.rangeSize lo hi d=n)
    (q:R (Itrs lo d n) H):wpAny (model X.prog X.w) X.A (pyIter (.ref s.heap.objs.size)) (PIE X pins σ tg R) E { s with heap:=s.heap.push { cls:=.type "range",data:=.fields #[.int lo t,.int hi u,.int d v] },toks:=tk }:=by
  refine wpAny_pyIter_range (IsRange.new ..) sm ?_;have I1:Inv X pins σ H { s with heap:=s.heap.push { cls:=.type "range",data:=.fields #[.int lo t,.int hi u,.int d v] },toks:=tk }:=I.kept fun b o e=>Zg _ e;refine⟨(s.heap.push { cls:=.type "range",data:=.fields #[.int lo t,.int hi u,.int d v] }).objs.size,[(s.heap.push { cls:=.type "range",data:=.fields #[.int lo t,.int hi u,.int d v] }).objs.size],_,_,H,rfl,
    I1.kept (t':=tk) fun b o e=>Zg _ e,xk3 _ lo d n,?_,fun b hb=>?_,q⟩
  . have e1:lo+((0:Nat):Int)*d=lo:=by simp
    have e2:((n:Nat):Int)-((0:Nat):Int)=Builtin.Range.rangeSize lo hi d:=by rw[sz]; simp
    show IsRangeIter _ _ (lo+((0:Nat):Int)*d) (((n:Nat):Int)-((0:Nat):Int)) d;rw[e1,e2];exact Zx _ rfl
  . have e:b=(s.heap.push { cls:=.type "range",data:=.fields #[.int lo t,.int hi u,.int d v] }).objs.size:=by simpa using hb
    subst e;exact I1.fpOk (Zi _) (I1.hok.fresh (Zi _))
def xu6 (ta:TA):TI:=fun σ H R=>ta σ H fun vs H1=>∃ i j d:Int,vs=[.int i,.int j,.int d]/\(-(2 ^ 62)<=i/\i<2 ^ 62/\-(2 ^ 62)<=j/\j<2 ^ 62)/\((d=1/\R (Itrs i 1 (j-i).toNat) H1)\/(d=-1/\R (Itrs i (-1) (i-j).toNat) H1))
theorem xi7 {a b c:Expr}{ta:TA}{p pos:Pos} (hg:Gl X "range") (hm:X.mg "range"=none) (ha:PA X [a,b,c] ta) (hs:starEach [a,b,c] X.env=[(false,eval a X.env),(false,eval b X.env),(false,eval c X.env)]:=by rfl) (hs2:starEach [b,c] X.env=[(false,eval b X.env),(false,eval c X.env)]:=by rfl) :
    PI X tg (.Call (.Name "range" p) [a,b,c] [] pos) (xu6 ta):=by
  intro pins s σ H R I h;refine Call_ (xcl I hg hm boot_range (ZS (thn (ha pos pins s σ H _ I h) fun us s1 ⟨vs,H1,I1,r1,q1⟩=>?_) (by rw[hs,hs2]) (by rw[hs2]; rfl)));obtain⟨i,j,d,e,⟨q1,q2,q3,q4⟩,q⟩:=q1;subst e;cases r1 with
  | cons r rr =>
    cases rr with
    | cons r' rr =>
      cases rr with
      | cons r'' rr =>
        cases rr;obtain⟨t,rfl⟩:=r;obtain⟨t',rfl⟩:=r';obtain⟨t'',rfl⟩:=r'';rcases q with⟨rfl,q⟩|⟨rfl,q⟩
        . exact call_range_3 (by decide) (xiz I1 (small_one q1 q2 q3 q4) (by rw[rangeSize_one]; split<;>omega) q) (Zn (QD (by decide)))
        . exact call_range_3 (by decide) (xiz I1 (xmq q1 q2 q3 q4) (by rw[xe2]; split<;>omega) q) (Zn (QD (by decide)))
end
theorem xf1 {xs:List V}{us:List Value} (r:Vals xs us) {j:Nat} (h:j<us.toArray.size):∃ x,xs[j]?=some x/\RelV x us.toArray[j]:=by
 have hl:=r.length;have hj:j<xs.length:=by simp at h; omega
 obtain⟨u,h1,h2⟩:=r.get (x:=xs[j]) (Zf hj);refine⟨xs[j],Zf hj,?_⟩;have:us.toArray[j]=u:=by
  have z:=Zj.mp h1;obtain⟨z1,z2⟩:=z;simpa using z2
 rw[this];exact h2
theorem xud {A:Around}{k:Nat} (hr:Room q0 k A):A.units+3<cLine:=by have:=hr.un; omega
theorem xcn {A:Around}{k:Nat} (hr:Room q0 k A):A.units+20<cLine:=by have:=hr.un; omega
theorem xio {X:Cx}:xb1 X (.builtin "len") (fun xs H Q=>∃ a kvs,xs=[.ref a]/\H a=some (.dK kvs)/\Q (.int kvs.length) H):=by
 intro pins s σ H xs us Q I r h;obtain⟨a,kvs,rfl,e,q⟩:=h;obtain⟨u,rfl,rx⟩:=xbx r;obtain rfl:u=Zm a:=rx;exact xvd I (.inl e) fun t s' I'=>⟨.int _,H,I',⟨t,rfl⟩,q⟩
inductive Ents (w:World):List DictEntry->List (Key × V)->Prop
 | nil:Ents w [] []
 | cons {k:Key}{x:V}{key val:Value}{h:Int}{es:List DictEntry}{kvs:List (Key × V)} (hh:h=keyH w k) (hk:RelV (kV k) key) (hv:RelV x val) (r:Ents w es kvs):Ents w (⟨h,key,val⟩::es) ((k,x)::kvs)
def xm8 (w:World) (K:Zd) (D:Addr) (kvs:List (Key × V)):Prop:=(D == sysModules)=false/\∃(es:Array DictEntry) (ep:Nat),K.lookup D=some ⟨.type "dict",none,.dict es ep,#[]⟩/\Ents w es.toList kvs/\(kvs.map (·.1)).Nodup
theorem Ents.ok {P:Program}{w:World}{es:List DictEntry}{kvs:List (Key × V)} (h:Ents w es kvs):∃ vs,KV kvs vs/\Pairs (xal P w) es vs/\∀ e∈es,∃ k,(xal P w).is k e.key=true/\e.hash=(xal P w).hash k:=by
 induction h with
 | nil=>exact⟨[],.nil,.nil,fun e z=>nomatch z⟩
 | @cons k x key val h es kvs hh hk hv _ ih =>
  obtain⟨vs,a,b,c⟩:=ih;refine⟨(k,val)::vs,.cons ⟨rfl,hv⟩ a,.cons (xdn hk) rfl b,fun e he=>?_⟩;rcases Z1.mp he with rfl|z
  .exact ⟨k,xdn hk,hh⟩
  .exact c e z
section
variable {X:Cx}{pins:List (Addr × Obj)}{σ:St}{H:Hp}{s:Shared}{D:Addr}{kvs:List (Key × V)}
theorem xpm (I:Inv X pins σ H s) (g:xm8 X.w X.K D kvs):∃ vs,KV kvs vs/\s.heap.DictOf (xal X.prog X.w) D vs:=by
 obtain⟨_,es,ep,l,en,nd⟩:=g;obtain⟨vs,a,b,c⟩:=en.ok (P:=X.prog);refine⟨vs,a,_,es,ep,I.kIn _ _ l,⟨rfl,rfl,rfl⟩,rfl,fun e he=>c e (by simpa using he),b,?_⟩;rw[<- a.keys];exact nd
def tGIn (kvs:List (Key × V)) (neg:Bool) (ty:TE):TE:=fun σ H Q=>ty σ H fun y H1=>∃ k:Key,y=kV k/\Q (.bl (if neg then !(valV kvs k).isSome else (valV kvs k).isSome)) H1
theorem xo4 {i:Expr}{ty:TE}{x:Str}{p:Pos} (hi:PE X i ty) (hg:Gl X x) (hm:X.mg x=some (.ref D)) (g:xm8 X.w X.K D kvs) (hd:(x == ("__debug__":Str))=false:=by decide):PC X .NotIn i (.Name x p) (tGIn kvs true ty):=by
 intro pins s σ H Q I h;refine thn (hi pins s σ H _ I h) fun iv s1 ⟨y,H1,I1,ry,k,ey,q1⟩=>thn (xdl (v:=.ref D) hg hm rfl hd pins s1 σ H1 (fun v H2=>v=.ref D/\H2=H1) I1 ⟨rfl,rfl⟩) fun u s2 ⟨x,H2,I2,rx,e1,e2⟩=>?_;subst ey e1 e2;obtain rfl:u=Zm D:=rx;obtain⟨vs,rel,dd⟩:=xpm I2 g;refine wpAny_notIn_of (xdn ry) g.1 dd.mapOf ?_;rw[<- (rel.val k).isSome_eq];exact⟨.bl _,_,I2.tok _,rfl,q1⟩
end
section
variable {X:Cx}{pins:List (Addr × Obj)}{σ:St}{H:Hp}{s:Shared}{h':Heap}
theorem Inv.turnedL {t':Nat}{ch:List Addr} (I:Inv X pins σ H s) (k:∀ b o,b∉ch->s.heap.get? b=some o->h'.get? b=some o) (hf:∀ b∈ch,FpOk X pins H b):Inv X pins σ H { s with heap:=h',toks:=t' }:=by
 have nit:∀ b u,H b=some u->b∉ch:=fun b u e z=>by
  have:=(hf b z).1;rw[this] at e;cases e
 refine I.step (g':=s.gens) (d':=s.drawn) (ch:=ch) (fun b hb=>?_) (fun b o _ _ hc e _=>k b o hc e) (fun b o _ _ hc e _=>⟨o.slots,k b o hc e⟩) (fun _ _ _ _ n=>n)
  (fun b o hc e=>⟨o,k b o hc e⟩) (fun _ _ e=>e) (fun _ _ _ e=>e) (fun b ps e=>⟨#[],by rw[e]; simp⟩) (fun m hm=>?_) (fun b u e=>?_) I.bare
 .obtain ⟨f0,f1,f2,f3,f4,f5⟩:=hf b hb;exact⟨f3,f1,f4,f5⟩
 .obtain ⟨o,es,ep,ho,r⟩:=hm;exact⟨o,es,ep,k _ o (fun z=>(hf _ z).2.1 rfl) ho,r⟩
 .refine (I.hok b u e).stay (fun c v hc q=>k c v ?_ q) (fun _ q=>q) fun _ _ q=>q;rcases hc with z|z
  .rw [z]; exact nit b u e
  .exact nit c _ z
end
def Itv (K:Zd) (a:Addr) (n:Nat):It :=
 ⟨fun i H=>i<n/\∃ xs,SqL K H a xs/\xs.length=n,fun i H x H'=>H'=H/\∀ xs,SqL K H a xs->xs[n-1-i]?=some x,fun i _=>i=n⟩
theorem xp6 {P:Program}{w:World}{K:Zd}{tg:Expr} (a it:Addr) (n:Nat):Turn P w K tg (Itv K a n) [it] it (fun i h=>h.IsRevIter it a ((n:Int)-1-(i:Int))) where
 mem:=by simp
 obj:=fun i h st b hb=>by
  have e:b=it:=by simpa using hb
  subst e;obtain⟨o,e,c,d⟩:=st;exact⟨o,e,fun v z=>by rw[d] at z; cases z⟩
 keep:=fun i h h' st k=>st.at fun o e=>k it (by simp) o e
 item:=by
  intro X hP hw hK hc i pins s σ H E I hf st hg;subst hP hw hK;obtain⟨lt,xs,hq,hn⟩:=hg;obtain⟨its,rv,p,hz⟩:=I.list hq;have hx:xs[n-1-i]?=some (xs[n-1-i]'(by omega)):=Zf (by omega);generalize (xs[n-1-i]'(by omega))=x at hx;obtain⟨u,hu,ru⟩:=rv.get hx;obtain⟨f0,f1,f2,f3,f4,f5⟩:=hf it (by simp);have e:(n:Int)-1-(i:Int)=((n-1-i:Nat):Int):=by omega
  rw[e] at st;refine wpAny_pyNext_rev_item st p.isList (x:=u) (by simpa using hu) fun h' st' sb=>?_;have e2:((n-1-i:Nat):Int)-1=(n:Int)-1-((i+1:Nat):Int):=by omega
  rw[e2] at st';have I1:Inv X pins σ H { s with heap:=h' }:=I.turned (t':=s.toks) (fun b o hb e=>(sb.2 b hb).trans e) f0 f1 f3 f4 f5;obtain⟨o,e,c,d⟩:=id st';exact⟨u,rfl,xje (s:={ s with heap:=h' }) e c d (by decide) ⟨x,H,I1,ru,⟨rfl,fun ys hy=>by rw[I.list_inj hy hq]; exact hx⟩,st',fun b hb=>(hf b hb).1⟩⟩
 done:=by
  intro X hP hw hK hc i pins s σ H E I hf st hg;subst hP hw hK;obtain rfl:i=n:=hg;obtain⟨f0,f1,f2,f3,f4,f5⟩:=hf it (by simp);have e:(i:Int)-1-(i:Int)=-1:=by omega
  rw[e] at st;exact wpAny_pyNext_rev_end (I.ok.hd hc) st fun h' eb=>⟨rfl,I.turned (t':=s.toks) (fun b o hb e=>eb b o hb e) f0 f1 f3 f4 f5⟩
 self:=fun _ _ _ _ _ st h=>Wf st h
def iRev (K:Zd) (ta:TA):TI:=fun σ H R=>ta σ H fun vs H1=>∃ a xs,vs=[.ref a]/\SqL K H1 a xs/\R (Itv K a xs.length) H1
section
variable {X:Cx}{tg:Expr}
theorem xk4 {a:Expr}{ta:TA}{p pos:Pos} (hg:Gl X "reversed") (hm:X.mg "reversed"=none) (ha:PA X [a] ta) (hs:starEach [a] X.env=[(false,eval a X.env)]:=by rfl):PI X tg (.Call (.Name "reversed" p) [a] [] pos) (iRev X.K ta):=by
 intro pins s σ H R I h;refine Call_ (xcl I hg hm PyProof.Rows.Boot.«reversed» (ZS (thn (ha pos pins s σ H _ I h) fun us s1 ⟨vs,H1,I1,r1,q1⟩=>?_) hs rfl));obtain⟨l,xs,e,hq,q⟩:=q1;subst e;obtain⟨u,rfl,ru⟩:=xbx r1;obtain rfl:u=Zm l:=ru;obtain⟨its,rv,p,hz⟩:=I1.list hq;have hl:=rv.length;refine call_reversed_list p.isList ?_;have hit:Heap.IsRevIter (s1.heap.push (revObj l ((its.toArray.size:Int)-1))) s1.heap.objs.size l ((its.toArray.size:Int)-1):=⟨_,Zx _ rfl,rfl,rfl⟩
 refine Wf (s:={ s1 with heap:=s1.heap.push (revObj l ((its.toArray.size:Int)-1)) }) hit ?_;refine⟨s1.heap.objs.size,[s1.heap.objs.size],_,_,H1,rfl,I1.kept (t':=s1.toks) fun b o e=>Zg _ e,xp6 l _ xs.length,?_,fun b hb=>?_,q⟩
 .have e:(its.toArray.size:Int)-1=(xs.length:Int)-1-((0:Nat):Int):=by rw[Z4]; omega
  rw[e] at hit ⊢;exact hit
 .have e:b=s1.heap.objs.size:=by simpa using hb
  subst e;exact I1.fpOk (Zi _) (I1.hok.fresh (Zi _))
end
theorem xro {K:Zd}{a:Addr}{xs:List V}{g:TG}{tb:TS}{D:Ends}{σ:St}{H:Hp} (Pv:Nat->St->Hp->Prop) (h0:Pv 0 σ H) (hl:∀ i σ H,i<=xs.length->Pv i σ H->SqL K H a xs)
    (hs:∀ i x σ H,i<xs.length->xs[xs.length-1-i]?=some x->Pv i σ H->g x σ H fun σ2 H2=>tb { D with nx:=Pv (i+1),ct:=Pv (i+1),bk:=D.nx } σ2 H2) (hd:∀ σ H,Pv xs.length σ H->D.nx σ H) :
    ∃ W:Nat->Nat->St->Hp->Prop,(∃ m,W 0 m σ H)/\∀ i m σ H,W i m σ H ->
      ((Itv K a xs.length).stop i H/\D.nx σ H)\/((Itv K a xs.length).go i H/\∃ N:St->Hp->Prop,(∀ σ' H',N σ' H'->∃ m',m'<m/\W (i+1) m' σ' H')/\∀ x H',(Itv K a xs.length).yld i H x H'->g x σ H' fun σ2 H2=>tb { D with nx:=N,ct:=N,bk:=D.nx } σ2 H2):=by
  refine⟨fun i m σ H=>m=xs.length-i/\i<=xs.length/\Pv i σ H,⟨xs.length,by simp,Jb _,h0⟩,?_⟩;rintro i m σ H ⟨rfl,hi,p⟩;have q:=hl i σ H hi p;by_cases hlt:i<xs.length
  . refine .inr ⟨⟨hlt,xs,q,rfl⟩,Pv (i+1),fun σ' H' p'=>⟨xs.length-(i+1),by omega,rfl,hlt,p'⟩,fun x H' y=>?_⟩
    obtain⟨e,y⟩:=y;subst e;exact hs i x σ _ hlt (y xs q) p
  . have e:i=xs.length:=by omega
    subst e;exact .inl ⟨rfl,hd σ H p⟩
theorem xoh {a b:Nat} (h:a≠b):(a:Addr)≠(b:Addr):=h
def Ite (K:Zd) (a:Addr):It :=
 ⟨fun i H=>∃ xs x,SqL K H a xs/\xs[i]?=some x,fun i H v H'=>∃ p x,(∀ xs,SqL K H a xs->xs[i]?=some x)/\v=.ref p/\H p=none/\H'=upd H p (.tup [.int i,x]),fun i H=>∃ xs,SqL K H a xs/\xs.length<=i⟩
theorem xoc {P:Program}{w:World}{K:Zd}{elts:List Expr}{x1}{tpos:Pos} (e it l:Addr) (hei:e≠it) :
    Turn P w K (.Tuple elts x1 tpos) (Ite K l) [e,it] e (fun i h=>(∃ old,IsEnum h e it i old)/\h.IsListIter it l i) where
  mem:=by simp
  obj:=fun i h st b hb=>by
    obtain⟨⟨old,he⟩,⟨o1,e1,c1,d1⟩⟩:=st;simp only[Z1,Jx,or_false] at hb;rcases hb with rfl|rfl
    . exact⟨_,he,fun v k=>by have k':QY _=Data.cell v:=k; cases k'⟩
    . exact⟨_,e1,fun v k=>by rw[d1] at k; cases k⟩
  keep:=fun i h h' ⟨⟨old,he⟩,h1⟩ k=>⟨⟨old,k e (by simp) _ he⟩,h1.at fun o z=>k it (by simp) o z⟩
  item:=by
    intro X hP hw hK hc i pins s σ H E I hf st hg;subst hP hw hK;obtain⟨xs,x,hq,hx⟩:=hg;obtain⟨its,rv,p,hz1⟩:=I.list hq;obtain⟨u,hu,ru⟩:=rv.get hx;obtain⟨⟨old,he⟩,h1⟩:=id st;refine wpAny_pyNext_enum_item he h1 p.isList (x:=u) (by simpa using hu) hei fun h' ho hit' hT hsz hk=>?_;refine⟨_,rfl,wpAny_letOwnedTupleGo_enum (s:={ s with heap:=h',toks:=s.toks+1 }) ho fun h'' he' hs'=>?_⟩;have elt:e<s.heap.objs.size:=Zq he;have pne:s.heap.objs.size≠e:=Yd elt;have kk:∀ b o,b∉[e,it]->s.heap.get? b=some o->h''.get? b=some o:=fun b o hb g=>by
      simp only[Z1,Jx,or_false,not_or] at hb;exact (hs'.2 b hb.1).trans (hk b o hb.1 hb.2 g)
    have I1:Inv X pins σ H { s with heap:=h'',toks:=s.toks+1 }:=I.turnedL kk hf;obtain⟨n0,nL,nC,nP⟩:=I.size_lt (Zi s.heap.objs.size);have hp:h''.get? s.heap.objs.size=some { cls:=.type "tuple",data:=.seq #[.int i s.toks,u] }:=(hs'.2 _ pne).trans hT;refine⟨.ref s.heap.objs.size,upd H s.heap.objs.size (.tup [.int i,x]),I1.adopt n0 I.sz nL nC nP ⟨by show 2<=sizeLine; decide,[.int i s.toks,u],.cons ⟨_,rfl⟩ (.cons ru .nil),_,hp,rfl,_,rfl⟩,rfl,
      ⟨_,x,fun zs hz=>by rw[I.list_inj hz hq]; exact hx,rfl,n0,rfl⟩,?_,fun b hb=>?_⟩
    . exact⟨⟨_,by simpa using he'⟩,hit'.at fun o y=>(hs'.2 it (ZF hei)).trans y⟩
    . obtain⟨o,ho⟩:∃ o,s.heap.get? b=some o:=by
        obtain⟨o1,e1,c1,d1⟩:=h1;simp only[Z1,Jx,or_false] at hb;rcases hb with rfl|rfl
        . exact⟨_,he⟩
        . exact⟨_,e1⟩
      rw[xh (ZD (Zq ho))];exact (hf b hb).1
  done:=by
    intro X hP hw hK hc i pins s σ H E I hf st hg;subst hP hw hK;obtain⟨xs,hq,hl⟩:=hg;obtain⟨its,rv,p,hz1⟩:=I.list hq;have e1:=rv.length;obtain⟨⟨old,he⟩,h1⟩:=id st;refine wpAny_pyNext_enum_end (I.ok.hd hc) he h1 p.isList (by simp; omega) fun h' hx=>⟨rfl,I.turnedL (t':=s.toks) (fun b o hb g=>?_) hf⟩
    simp only[Z1,Jx,or_false,not_or] at hb;exact hx b o hb.2 g
  self:=fun _ _ _ _ _ ⟨⟨_,st⟩,_⟩ h=>Qq st h
def xuv (K:Zd) (ta:TA):TI:=fun σ H R=>ta σ H fun vs H1=>∃ a xs,vs=[.ref a]/\SqL K H1 a xs/\R (Ite K a) H1
section
variable {X:Cx}{elts:List Expr}{x1:_}{tpos:Pos}
theorem xcd {a:Expr}{ta:TA}{p pos:Pos} (hg:Gl X "enumerate") (hm:X.mg "enumerate"=none) (ha:PA X [a] ta) (hs:starEach [a] X.env=[(false,eval a X.env)]:=by rfl) :
    PI X (.Tuple elts x1 tpos) (.Call (.Name "enumerate" p) [a] [] pos) (xuv X.K ta):=by
  intro pins s σ H R I h;refine Call_ (xcl I hg hm PyProof.Rows.Boot.«enumerate» (ZS (thn (ha pos pins s σ H _ I h) fun us s1 ⟨vs,H1,I1,r1,q1⟩=>?_) hs rfl));obtain⟨l,xs,e,hq,q⟩:=q1;subst e;obtain⟨u,rfl,ru⟩:=xbx r1;obtain rfl:u=Zm l:=ru;obtain⟨its,rv,p1,hz1⟩:=I1.list hq;refine call_enumerate_list p1.isList fun h' he h1 hsz hk=>?_;refine Qq (s:={ s1 with heap:=h' }) he ?_;have I2:Inv X pins σ H1 { s1 with heap:=h' }:=I1.kept (t':=s1.toks) hk;refine⟨_,[s1.heap.objs.size+1,s1.heap.objs.size],_,_,H1,rfl,I2,xoc _ _ l (xoh (by omega)),⟨⟨_,he⟩,h1⟩,fun b hb=>?_,q⟩;have hb':s1.heap.objs.size<=b:=by
    simp only[Z1,Jx,or_false] at hb;rcases hb with rfl|rfl
    . exact Nat.le_add_right _ 1
    . exact Zi _
  exact I1.fpOk hb' (I1.hok.fresh hb')
end
theorem xd7 {K:Zd}{a:Addr}{xs:List V}{g:TG}{tb:TS}{D:Ends}{σ:St}{H:Hp} (Pv:Nat->St->Hp->Prop) (h0:Pv 0 σ H) (hl:∀ i σ H,i<=xs.length->Pv i σ H->SqL K H a xs)
    (hs:∀ i x p σ H,xs[i]?=some x->H p=none->Pv i σ H->g (.ref p) σ (upd H p (.tup [.int i,x])) fun σ2 H2=>tb { D with nx:=Pv (i+1),ct:=Pv (i+1),bk:=D.nx } σ2 H2) (hd:∀ σ H,Pv xs.length σ H->D.nx σ H) :
    ∃ W:Nat->Nat->St->Hp->Prop,(∃ m,W 0 m σ H)/\∀ i m σ H,W i m σ H ->
      ((Ite K a).stop i H/\D.nx σ H)\/((Ite K a).go i H/\∃ N:St->Hp->Prop,(∀ σ' H',N σ' H'->∃ m',m'<m/\W (i+1) m' σ' H')/\∀ x H',(Ite K a).yld i H x H'->g x σ H' fun σ2 H2=>tb { D with nx:=N,ct:=N,bk:=D.nx } σ2 H2):=by
  refine⟨fun i m σ H=>m=xs.length-i/\i<=xs.length/\Pv i σ H,⟨xs.length,by simp,Jb _,h0⟩,?_⟩;rintro i m σ H ⟨rfl,hi,p⟩;have q:=hl i σ H hi p;by_cases hlt:i<xs.length
  . refine .inr ⟨⟨xs,xs[i],q,by simp[hlt]⟩,Pv (i+1),fun σ' H' p'=>⟨xs.length-(i+1),by omega,rfl,hlt,p'⟩,fun x H' y=>?_⟩
    obtain⟨r,x',e1,rfl,hr,rfl⟩:=y;exact hs i x' r σ H (e1 _ q) hr p
  . have e:i=xs.length:=by omega
    subst e;exact .inl ⟨⟨xs,q,Zi _⟩,hd σ H p⟩
end L2
namespace L2
open PySem PySem.Spec PyProof.Rows XL
def tMid (t:TS):TS:=fun D σ H=>∃ Pv:St->Hp->Prop,t { D with nx:=Pv } σ H/\∀ σ' H',Pv σ' H'->D.nx σ' H'
theorem xbe {X:Cx}{st:Stmt}{t:TS} (h:PS X st t):PS X st (tMid t):=by
 intro pins s σ H D I q;obtain⟨Pv,q1,q2⟩:=q;refine thn (h pins s σ H { D with nx:=Pv } I q1) fun fl s1 z=>?_;cases fl with
 | next =>
  obtain⟨σ',H',I',r⟩:=z;exact⟨σ',H',I',q2 _ _ r⟩
 | _=>exact z
end L2
namespace XL
open PySem PySem.W
end XL
namespace L2
open PySem PySem.Spec PyProof.Rows XL
variable {q0:Bool}
end L2
namespace L2
open PySem PySem.Spec PyProof.Rows XL
end L2
namespace L2
open PySem PySem.Calls PyProof PyProof.Rows
def eU (e:V->Bool) (u:Value):Bool:=match absV u with|some y=>e y|none=>false
theorem xrd {e:V->Bool}{y:V}{u:Value} (r:RelV y u):eU e u=e y:=by unfold eU; rw[r.abs]
theorem xo7 {e:V->Bool}:∀{xs:List V}{us:List Value},Vals xs us->us.any (eU e)=xs.any e
 | _,_,.nil=>rfl
 | y::xs,u::us,.cons r t=>by rw[JV,JV,xrd r,xo7 t]
theorem xld:∀{xs:List V}{us:List Value},Vals xs us->∀ u∈us,∃ y∈xs,RelV y u
 | _,_,.nil=>fun u hu=>nomatch hu
 | y::xs,u::us,.cons r t=>fun u' hu=>by
  rcases Z1.mp hu with rfl|hu
  .exact ⟨y,Zz,r⟩
  .obtain ⟨z,h1,h2⟩:=xld t u' hu;exact⟨z,Zy _ h1,h2⟩
end L2
namespace PySem.F
end PySem.F
namespace L2
open PySem PySem.Spec PyProof.Rows XL
variable {q0:Bool}
theorem FnOk.or {P:Program}{w:World}{K:Zd}{mg:Str->Option Value}{base:Heap}{CX:CXT}{k:Nat}{f:Addr}{fd:FuncData}{ps:List Str}{s1 s2:Sp} (F:FnOk q0 P w K mg base CX k f fd ps s1) (G:FnOk q0 P w K mg base CX k f fd ps s2) :
    FnOk q0 P w K mg base CX k f fd ps (fun vs H Q E=>s1 vs H Q E\/s2 vs H Q E) :=
  ⟨fun vs H Q E h=>h.elim (F.len vs H Q E) (G.len vs H Q E),fun A outer s H args us vs Q E hr e0 b v h=>h.elim (F.run A outer s H args us vs Q E hr e0 b v) (G.run A outer s H args us vs Q E hr e0 b v)⟩
end L2
namespace L2
open PySem PySem.Spec PyProof.Rows XL PySem.W
variable {q0:Bool}
theorem xh7 {prog:Program}{w:World}{A:Around}{E:Value->Shared->Prop}{s:Shared}{a:Addr}{vs:List Value}{n:Nat}{P:PySem.Fin->Shared->Prop}
    (h:s.heap.get? a=some (seqObj "list" vs.toArray n)) (h2:2<=vs.length) (h64:vs.length<64)
    (hk:∀ s':Shared,s'.heap=(((s.heap.update a (JO fun x=>#[])).push (seqObj "tuple" vs.toArray 0)).push (seqObj "list" #[] 0))->s'={ s with heap:=s'.heap } ->
      wpAny (model prog w) A (keyKind' vs.toArray) (fun κ s''=>s''=s'/\KasT.kasWp (kas_ask prog w A κ vs) (kas_sort vs.length) (fun p s3=>s3=s'/\P (.done (.ret .none)) { s with heap:=sortedHeap s.heap a vs (p.map fun i=>vs.getD i .none) }) s'') (fun _ _=>False) s') :
    wpAny (model prog w) A (Builtin.«list.sort» { pos:=[.ref a] }) P E s:=by
  obtain⟨hp,g,d,tk,os⟩:=s;rw[list_sort_plain]
  repeat (any_goals (first|assumption|wp_step))
  have z:¬ vs.toArray.toList.toArray.size>sizeLine:=by
    simp;exact JJ (Jo h64 (by decide))
  rw[if_neg z];generalize keyKind' vs.toArray=kk at hk ⊢
  repeat (any_goals (first|assumption|wp_step))
  have hk':=hk { heap:=((hp.update a (JO fun x=>#[])).push (seqObj "tuple" vs.toArray 0)).push (seqObj "list" #[] 0),gens:=g,drawn:=d,toks:=tk,os:=os } rfl rfl;refine ZR hk' (fun κ s'' z=>?_) (fun _ _ z=>z.elim);obtain⟨e,q⟩:=z;subst e;show wpAny _ _ (StateT.run (if vs.toArray.size<2 then pure () else sortRuns') _>>=_) _ _ _;rw[if_neg (by simp; omega)];refine Zb (ZR (kat_run (E:=E) (Q:=fun st' s'=>∃ p:Array Nat,p.size=vs.length/\arrOf st'=Qb (kas_item (vs.toArray.zip vs.toArray)) p/\failedOf st'=none/\s'=_/\P (.done (.ret .none)) { heap:=sortedHeap hp a vs (p.map fun i=>vs.getD i .none),gens:=g,drawn:=d,toks:=tk,os:=os }) rfl h2 h64 (fun p st' s' hp' e f q'=>⟨p,hp',e,f,q'.1,q'.2⟩) q) (fun r s' z=>?_) fun _ _ z=>z);obtain⟨u,st⟩:=r;obtain⟨p,psz,e,f,rfl,q'⟩:=z;have al:a<hp.objs.size:=Zq h;have g1:(((hp.update a (JO fun x=>#[])).push (seqObj "tuple" vs.toArray 0)).push (seqObj "list" #[] 0)).get? a=some (seqObj "list" #[] (n+1)):=by
    refine Zg _ (Zg _ ?_);rw[ZM _ h rfl];have z:((0:Nat) == vs.length)=false:=by
      cases vs with
      | nil=>simp at h2
      | cons=>rfl
    simp[JO,z]
  have e2:(if (((fun x=>#[]) vs.toArray:Array Value).size == vs.toArray.size)=true then n else n+1)=n+1:=by
    rw[if_neg];simp;omega
  simp only[e2,f];have e3:Qb (fun x=>x.snd) (arrOf st)=p.map fun i=>vs.getD i .none:=by
    rw[e,Array.map_map]
    congr 1
    funext i;show (kas_item (vs.toArray.zip vs.toArray) i).snd=_;unfold kas_item;by_cases c:i<vs.length
    . simp[Zf c,c]
    . simp[Ja (by omega:vs.length<=i),c]
  simp only[e3]
  repeat (any_goals (first|assumption|wp_step))
  have e4:(JO (fun x=>Qb (fun i=>vs.getD i ZV) p) (seqObj "list" #[] (n+1))).data.pastItsLine=none:=by
    show (if (Qb (fun i=>vs.getD i ZV) p).size>sizeLine+1 then _ else none)=none;rw[if_neg];rw[Array.size_map,psz];have:vs.length<sizeLine:=Jo h64 (by decide);omega
  rw[e4];refine Zk ?_;rw[f];show wpAny _ _ (if (n+1 != n+1)=true then _ else _) _ _ _;rw[if_neg (by simp)];exact Zk q'
theorem xjt {prog:Program}{w:World}{A:Around}{E:Value->Shared->Prop}{s:Shared}{it d:Addr}{i ep:Nat}{o:Obj}{es:Array DictEntry}{en:DictEntry}{Q:Option Value->Shared->Prop}
    (st:s.heap.IsKeyIter it d i es.size ep) (hd:s.heap.get? d=some o) (hx:o.ExactDict) (hdat:o.data=.dict es ep) (hi:es[i]?=some en)
    (h:∀ h',h'.IsKeyIter it d (i+1) es.size ep->ZI it s.heap h'->Q (some en.key) { s with heap:=h' }):wpAny (model prog w) A (pyNext (.ref it)) Q E s:=by
  unfold pyNext;refine Zb (Qu (YA st.typeIs JI ?_));refine Ya JI st.typeIs F.entry_dict_keyiterator_next ?_ (F.args_dict_keyiterator_next_1 _);have ti:=st.typeIs;obtain⟨hp,g,dr,tk,os⟩:=s;obtain⟨⟨c,dct,dat,sl⟩,hit,ci,di⟩:=st;simp only at ci di;subst ci di;unfold Builtin.«dict_keyiterator.__next__»
  repeat (any_goals (first|assumption|(with_reducible refine Yb ti ?_)|(with_reducible refine YM ti ?_)|(with_reducible refine Jp hd hdat ?_)|(with_reducible refine JQ hd hdat ?_)|wp_step))
  have e1:(if (i:Int)<0 then none else es[(i:Int).toNat]?)=some en:=by
    rw[if_neg (by omega),Yn];exact hi
  rw[e1]
  repeat (any_goals (first|assumption|(with_reducible refine Yb ti ?_)|(with_reducible refine YM ti ?_)|(with_reducible refine Jp hd hdat ?_)|(with_reducible refine JQ hd hdat ?_)|wp_step))
  refine⟨_,rfl,Zk (h _ ?_ (ZI.update _ _ _))⟩;refine⟨_,ZM _ hit rfl,rfl,?_⟩;rfl
theorem xk0 {prog:Program}{w:World}{A:Around}{E:Value->Shared->Prop}{s:Shared}{it d:Addr}{ep:Nat}{o:Obj}{es:Array DictEntry}{Q:Option Value->Shared->Prop}
    (hA:A.handled=none) (st:s.heap.IsKeyIter it d es.size es.size ep) (hd:s.heap.get? d=some o) (hx:o.ExactDict) (hdat:o.data=.dict es ep)
    (h:∀ h',Heap.ExtBut it s.heap h'->Q none { s with heap:=h' }):wpAny (model prog w) A (pyNext (.ref it)) Q E s:=by
  unfold pyNext;refine Zb (Qu (YA st.typeIs JI ?_));refine Ya JI st.typeIs F.entry_dict_keyiterator_next ?_ (F.args_dict_keyiterator_next_1 _);have ti:=st.typeIs;obtain⟨hp,g,dr,tk,os⟩:=s;obtain⟨⟨c,dct,dat,sl⟩,hit,ci,di⟩:=st;simp only at ci di;subst ci di;unfold Builtin.«dict_keyiterator.__next__»
  repeat (any_goals (first|assumption|(with_reducible refine Yb ti ?_)|(with_reducible refine YM ti ?_)|(with_reducible refine Jp hd hdat ?_)|(with_reducible refine JQ hd hdat ?_)|wp_step))
  have e1:(if (es.size:Int)<0 then none else es[(es.size:Int).toNat]?)=none:=by
    rw[if_neg (by omega),Yn];simp
  rw[e1]
  repeat (any_goals (first|assumption|(with_reducible refine Yb ti ?_)|(with_reducible refine YM ti ?_)|(with_reducible refine Jp hd hdat ?_)|(with_reducible refine JQ hd hdat ?_)|wp_step))
  refine wpAny_raiseNew_none hA ?_;refine Zb (Q1 ⟨_,Zx _ rfl,rfl⟩ isSubtype_stop (Zk (h _ fun b o nb e=>?_)));refine Zg _ (Zg _ ?_);rw[Jl _ _ (ZF nb)];exact e
theorem xqb {prog:Program}{w:World}{A:Around}{E:Value->Shared->Prop}{s:Shared}{d:Addr}{ep:Nat}{o:Obj}{es:Array DictEntry}{Q:Value->Shared->Prop}
    (hs:(d == sysModules)=false) (hd:s.heap.get? d=some o) (hx:o.ExactDict) (hdat:o.data=.dict es ep)
    (h:Q (.ref s.heap.objs.size) { s with heap:=s.heap.push { cls:=.type "dict_keyiterator",data:=.fields #[.ref d,.int 0 0,.int es.size 0,.int ep 0] } }):wpAny (model prog w) A (pyIter (.ref d)) Q E s:=by
  have ti:s.TypeIs (.ref d) "dict":=⟨o,hd,hx.1⟩
  obtain⟨c,dct,dat,sl⟩:=o;obtain⟨x1,x2,x3⟩:=hx;simp only at x1 x2 x3 hdat;subst x1 x2 x3 hdat;refine wpAny_pyIter_slot ti F.slot_dict_iter ?_;refine Ya F.slot_dict_iter ti F.entry_dict_iter ?_ (F.args_dict_iter_1 _);obtain⟨hp,g,dr,tk,os⟩:=s;unfold Builtin.«dict.__iter__»
  repeat (any_goals (first|assumption|(with_reducible refine QN ti ?_)|(with_reducible refine Jp hd rfl ?_)|(with_reducible refine JQ hd rfl ?_)|wp_step))
  exact⟨_,rfl,_,_,⟨_,Zx _ rfl,rfl⟩,JI.lookup,h⟩
theorem xmd {prog:Program}{w:World}{d:Addr}{ep:Nat}{o:Obj}{es:Array DictEntry} (hs:(d == sysModules)=false) (hx:o.ExactDict) (hdat:o.data=.dict es ep) :
    KdlSrc prog w "dict" d d es.size (fun i v=>∃ en,es[i]?=some en/\v=en.key) (fun h=>h.get? d=some o) where
  type:=fun s h=>⟨o,h,hx.1⟩
  there:=fun h e=>⟨Zq e,Zq e⟩
  keep:=fun h h' e k=>k d (.inl rfl) o e
  notList:=by decide
  notTuple:=by decide
  hint:=fun A E s Q h q=>kdl_hint_dict ⟨o,h,hx.1⟩ q
  iter:=fun A s hA h=>by
    have dl:=Zq h;refine⟨{ cls:=.type "dict_keyiterator",data:=.fields #[.ref d,.int 0 0,.int es.size 0,.int ep 0] },fun i h=>h.IsKeyIter s.heap.objs.size d i es.size ep/\h.get? d=some o,fun E Q q=>xqb hs h hx hdat q,?_,⟨_,Zx _ rfl,rfl,rfl⟩,Zg _ h⟩;have dn:d≠s.heap.objs.size:=ZD dl;exact {
      sub:=fun b hb=>by
        have e:b=s.heap.objs.size:=by simpa using hb
        rw[e];simp
      frame:=fun i h h' st k=>⟨st.1.at fun o e=>k _ (by simp) o e,k _ (by simp) _ st.2⟩
      item:=fun i s' Q E hi st q=>by
        refine xjt st.1 st.2 hx hdat (Yz hi) fun h' st' sb=>q _ h' s'.toks ⟨_,Yz hi,rfl⟩ ⟨st',(sb.2 d dn).trans st.2⟩ fun b o hb e=>?_;exact (sb.2 b (by simpa using hb)).trans e
      done:=fun s' Q E st q=>by
        refine xk0 hA st.1 st.2 hx hdat fun h' eb=>q h' s'.toks fun b o hb e=>?_;exact eb b o (by simpa using hb) e
      self:=fun i s' Q E st q=>wpAny_pyIter_keyiter st.1 q }
def xc8:Key->Key->Bool
 | .inl a,.inl b=>decide (a<b)
 | .inr a,.inr b=>decide (a.cps.toList<b.cps.toList)
 | _,_=>false
def lexK:List Key->List Key->Bool
 | [],[]=>false
 | [],_::_=>true
 | _::_,[]=>false
 | x::xs,y::ys=>if x=y then lexK xs ys else xc8 x y
abbrev shp (k:List Key):List Bool:=k.map Sum.isLeft
theorem xsx {a b:Str} (h:a.cps.toList=b.cps.toList):a=b:=by
 cases a;cases b;simp at h;rw[h]
theorem xo5 (x:Key):xc8 x x=false:=by
 cases x with
 | inl a=>simp[xc8]
 | inr a=>exact Wg.irrefl a.cps.toList
theorem xpy {x y z:Key} (h1:xc8 x y=true) (h2:xc8 y z=true):xc8 x z=true:=by
 cases x<;>cases y<;>cases z<;>simp only[xc8,ZX] at h1 h2
 .have a:=of_decide_eq_true h1;have b:=of_decide_eq_true h2;exact decide_eq_true (Int.lt_trans a b)
 .exact Wg.trans _ _ _ h1 h2
theorem xnk {x y:Key} (hs:x.isLeft=y.isLeft) (ne:x≠y) (h:xc8 x y=false):xc8 y x=true:=by
 cases x with
 | inl a =>
  cases y with
  | inl b =>
   have h':¬ a<b:=of_decide_eq_false h;have n':a≠b:=fun e=>ne (by rw[e]);exact decide_eq_true (show b<a by omega)
  | inr b=>cases hs
 | inr a =>
  cases y with
  | inl b=>cases hs
  | inr b =>
   cases e:xc8 (.inr b) (.inr a) with
   | true=>rfl
   | false=>exact absurd (by rw[xsx (Wg.total _ _ h e)]) ne
theorem xkf:∀ x:List Key,lexK x x=false
 | []=>rfl
 | x::xs=>by
  unfold lexK;rw[if_pos rfl];exact xkf xs
theorem xlm:∀{x y z:List Key},shp x=shp y->shp y=shp z->lexK x y=true->lexK y z=true->lexK x z=true
 | [],[],_,_,_,h,_=>by cases h
 | [],_::_,_,h,_,_,_=>by cases h
 | _::_,[],_,h,_,_,_=>by cases h
 | _::_,_::_,[],_,h,_,_=>by cases h
 | x::xs,y::ys,z::zs,h1,h2,h3,h4=>by
  simp only[shp,Z2,JP.injEq] at h1 h2;unfold lexK at h3 h4 ⊢;by_cases xy:x=y
  .subst xy;rw[if_pos rfl] at h3;by_cases yz:x=z
   .rw [if_pos yz] at h4 ⊢;exact xlm h1.2 h2.2 h3 h4
   .rw [if_neg yz] at h4 ⊢;exact h4
  .rw [if_neg xy] at h3;by_cases yz:y=z
   .subst yz;rw[if_neg xy];exact h3
   .rw [if_neg yz] at h4;have h5:=xpy h3 h4;rw[if_neg (fun e=>by rw[e,xo5] at h5; cases h5)];exact h5
theorem xkh:∀{x y:List Key},shp x=shp y->x≠y->lexK x y=false->lexK y x=true
 | [],[],_,h,_=>absurd rfl h
 | [],_::_,h,_,_=>by cases h
 | _::_,[],h,_,_=>by cases h
 | x::xs,y::ys,h1,h2,h3=>by
  simp only[shp,Z2,JP.injEq] at h1;unfold lexK at h3 ⊢;by_cases xy:x=y
  .subst xy;rw[if_pos rfl] at h3 ⊢;exact xkh h1.2 (fun e=>h2 (by rw[e])) h3
  .rw [if_neg xy] at h3;rw[if_neg (fun e=>xy e.symm)];exact xnk h1.1 xy h3
theorem xkl {prog:Program}{w:World}{A:Around}{s:Shared}{b:Bool}{Q:Bool->Shared->Prop}:∀(xs ys:List Key) (us vs:List Value) (i:Nat),shp xs=shp ys->Vals (xs.map kV) us->Vals (ys.map kV) vs->Q (lexK xs ys) s->KatLex prog w A b false Q (us.zip vs) i s
 | [],[],_,_,i,_,.nil,.nil,q=>kat_nil q
 | [],_::_,_,_,_,h,_,_,_=>by cases h
 | _::_,[],_,_,_,h,_,_,_=>by cases h
 | x::xs,y::ys,_,_,i,h,.cons ru r,.cons rv r',q=>by
  simp only[shp,Z2,JP.injEq] at h;unfold lexK at q;cases x with
  | inl a =>
   cases y with
   | inr c=>cases h.1
   | inl c =>
    obtain⟨t,rfl⟩:=ru;obtain⟨t',rfl⟩:=rv;refine kat_cons (wpAny_eqBool_int ?_);unfold KatGo;by_cases e:a=c
    .subst e;rw[if_pos rfl] at q;rw[if_pos (by simp)];exact xkl xs ys _ _ (i+1) h.2 r r' q
    .rw [if_neg (fun z=>e (YD.inj z))] at q;rw[if_neg (by simpa using e)];cases (b&&i == 0) with
     | true=>exact oneLt_int q
     | false=>exact kat_one _ _ (lt_int q)
  | inr a =>
   cases y with
   | inl c=>cases h.1
   | inr c =>
    obtain⟨t,rfl⟩:=ru;obtain⟨t',rfl⟩:=rv;refine kat_cons (wpAny_eqBool_str ?_);unfold KatGo;by_cases e:a=c
    .subst e;rw[if_pos rfl] at q;rw[if_pos (by simp)];exact xkl xs ys _ _ (i+1) h.2 r r' q
    .rw [if_neg (fun z=>e (J9.inj z))] at q;rw[if_neg (by simpa using e)];cases (b&&i == 0) with
     | true=>exact oneLt_str q
     | false=>exact kat_one _ _ (lt_str q)
theorem xja {prog:Program}{w:World}{A:Around}{E:Value->Shared->Prop}{s:Shared}{a:Addr}{vs:List Value}{n:Nat}{P:PySem.Fin->Shared->Prop}
    (h:s.heap.get? a=some (seqObj "list" vs.toArray n)) (h2:vs.length<2) (q':P (.done (.ret .none)) { s with heap:=sortedHeap s.heap a vs vs.toArray }) :
    wpAny (model prog w) A (Builtin.«list.sort» { pos:=[.ref a] }) P E s:=by
  obtain⟨hp,g,d,tk,os⟩:=s;rcases vs with _|⟨v,_|⟨v',r⟩⟩
  . rw[list_sort_plain]
    repeat (any_goals (first|assumption|wp_step))
    show wpAny _ _ (pure (Qc,SortSt.mk' general' ((#[]:Array Value).zip #[]) #[] 7 none)) _ _ _;refine Zk ?_;have e3:Qb (fun x=>x.snd) (arrOf (SortSt.mk' general' ((#[]:Array Value).zip #[]) #[] 7 none))=#[]:=by
      show Qb (fun x=>x.snd) ((#[]:Array Value).zip #[])=#[];simp
    simp only[e3];have g1:(((hp.update a (JO fun x=>#[])).push (seqObj "tuple" #[] 0)).push (seqObj "list" #[] 0)).get? a=some (seqObj "list" #[] (n)):=by
      refine Zg _ (Zg _ ?_);rw[ZM _ h rfl];rfl
    show wpAny _ _ (seqEpoch a>>=_) _ _ _
    repeat (any_goals (first|assumption|wp_step))
  . rw[list_sort_plain]
    repeat (any_goals (first|assumption|wp_step))
    show wpAny _ _ (pure (Qc,SortSt.mk' general' ((#[v]:Array Value).zip #[v]) #[] 7 none)) _ _ _;refine Zk ?_;have e3:Qb (fun x=>x.snd) (arrOf (SortSt.mk' general' ((#[v]:Array Value).zip #[v]) #[] 7 none))=#[v]:=by
      show Qb (fun x=>x.snd) ((#[v]:Array Value).zip #[v])=#[v];simp
    simp only[e3];have g1:(((hp.update a (JO fun x=>#[])).push (seqObj "tuple" #[v] 0)).push (seqObj "list" #[] 0)).get? a=some (seqObj "list" #[] (n+1)):=by
      refine Zg _ (Zg _ ?_);rw[ZM _ h rfl];rfl
    show wpAny _ _ (seqEpoch a>>=_) _ _ _
    repeat (any_goals (first|assumption|wp_step))
  . simp at h2
    omega
theorem xfl {α:Type} (f:α->Addr):∀(es:List α),Vals (es.map fun x=>V.ref (f x)) (es.map fun x=>Zm (f x))
 | []=>.nil
 | x::r=>.cons rfl (xfl f r)
theorem xs4 {H:Hp}{kvs:List (List Key × V)}{es:List (List Key × Addr × Value)} (h:KT H kvs es):(∀ x∈es,H x.2.1=some (.tup (x.1.map kV)))/\es.map (·.1)=kvs.map (·.1):=by
 induction h with
 | nil=>exact⟨(fun _ z=>nomatch z),rfl⟩
 | @cons p x kvs es hp r ih =>
  obtain⟨e1,e2,_⟩:=hp;refine⟨fun y hy=>?_,by rw[Z2,Z2,ih.2,e1]⟩;rcases Z1.mp hy with rfl|z
  .rw [<- e1];exact e2
  .exact ih.1 y z
theorem xo1 {P:Program}{w:World}{H:Hp}{h:Heap} (ok:HOk P w H h) {b:Bool}{sh:List Bool}:∀(es:List (List Key × Addr × Value)),(∀ x∈es,H x.2.1=some (.tup (x.1.map kV)))->(∀ x∈es,shp x.1=b::sh) ->
    ∃ fs,KatTups h (es.map fun x=>Zm x.2.1) fs/\fs.length=es.length/\∀ v∈fs,if b=true then ∃ i t,v=Wj i t else ∃ i t,v=Qz i t
  | [],_,_=>⟨[],KatTups.nil,rfl,fun _ z=>nomatch z⟩
  | x::es,h1,h2=>by
    obtain⟨fs,k,l,m⟩:=xo1 ok es (fun y hy=>h1 y (Zy _ hy)) (fun y hy=>h2 y (Zy _ hy));obtain⟨z2,ts,rt,ot,et,ct,nt,dt⟩:=ok x.2.1 _ (h1 x Zz);have s1:=h2 x Zz;obtain⟨k1,a1,v1⟩:=x;cases k1 with
    | nil=>cases s1
    | cons k0 kr =>
      simp only[shp,Z2,JP.injEq] at s1;simp only[Z2] at rt;cases rt with
      | @cons _ u _ us ru rr =>
        refine⟨u::fs,KatTups.cons et ct dt (by simp) k,by simp[l],fun v hv=>?_⟩;rcases Z1.mp hv with rfl|hv'
        . cases k0 with
          | inl i =>
            obtain⟨t,rfl⟩:=ru;rw[if_pos (show b=true from s1.1.symm)];exact⟨i,t,rfl⟩
          | inr i =>
            obtain⟨t,rfl⟩:=ru;rw[if_neg (show ¬ b=true by rw[<- s1.1]; simp)];exact⟨i,t,rfl⟩
        . exact m v hv'
theorem xo6 {X:Cx}{pins:List (Addr × Obj)}{σ:St}{H:Hp}{s:Shared}{h1:Heap}{tk:Nat}{Q:VK}{sh:List Bool} (es':List (List Key × Addr × Value)) (I1:Inv X pins σ H { s with heap:=h1,toks:=tk })
    (hl:es'.length<64) (km:∀ x∈es',H x.2.1=some (.tup (x.1.map kV))) (shE:∀ x∈es',shp x.1=sh) (hpos:0<sh.length) (hnd:(List.map (fun x=>x.fst) es').Nodup)
    (q:∀(l:Addr) (ts:List (List Key × Addr)),H l=none->ts.Perm (es'.map fun x=>(x.1,x.2.1))->(ts.map (·.1)).Pairwise (fun x y=>lexK x y=true)->Q (.ref l) (upd H l (.lst (ts.map fun t=>.ref t.2)))) :
    wpAny (model X.prog X.w) X.A.in1 (newList (es'.map fun x=>Zm x.2.1)>>=fun l=>holding [l] (call (.builtin "list.sort") [l] [])>>=fun _=>ret l) (fun fin s'=>∃ v,fin=Fin.done (Flow.ret v)/\EP X pins σ Q v s') X.xe { s with heap:=h1,toks:=tk }:=by
  have hz:es'.length<=sizeLine:=JJ (Jo hl (by decide));have vals:Vals (es'.map fun x=>V.ref x.2.1) (es'.map fun x=>Zm x.2.1):=xfl (fun x=>x.2.1) es';have I2:=I1.lnew (t':=tk) vals (by rw[Za]; exact hz);refine Zb (wpAny_newList ?_ (by rw[Za]; exact hz));have fr:H h1.objs.size=none:=I1.fresh;have gl:(h1.push { cls:=.type "list",data:=.seq (es'.map fun x=>Zm x.2.1).toArray }).get? h1.objs.size=some (seqObj "list" (es'.map fun x=>Zm x.2.1).toArray 0):=Zx _ rfl;refine Zb (Jf (Ya slot_list_sort ⟨_,gl,rfl⟩ entry_list_sort ?_ (args_list_sort _)));have J1:=I2.lset (l:=h1.objs.size) (its:=es'.map fun x=>Zm x.2.1) (its':=[]) (ys:=[]) (f:=fun _=>#[]) (t':=tk) xf gl rfl .nil (Jb _);have J2:=J1.kept (t':=tk) (h':=(((h1.push { cls:=.type "list",data:=.seq (es'.map fun x=>Zm x.2.1).toArray }).update h1.objs.size (JO fun _=>#[])).push (seqObj "tuple" (es'.map fun x=>Zm x.2.1).toArray 0)).push (seqObj "list" #[] 0)) fun b u e=>Zg _ (Zg _ e);obtain⟨z9,its9,n9,r9,hl9,e9⟩:=J2.lstM xf;have done:∀(ts:List (List Key × Addr)),ts.Perm (es'.map fun x=>(x.1,x.2.1))->(ts.map (·.1)).Pairwise (fun x y=>lexK x y=true) ->
      EP X pins σ Q (.ref h1.objs.size) { s with heap:=sortedHeap (h1.push { cls:=.type "list",data:=.seq (es'.map fun x=>Zm x.2.1).toArray }) h1.objs.size (es'.map fun x=>Zm x.2.1) (ts.map fun t=>Zm t.2).toArray,toks:=tk }:=by
    intro ts pm pw;have tl:ts.length=es'.length:=by rw[pm.length_eq,Za]
    have J3:=J2.lset (l:=h1.objs.size) (its:=its9) (its':=ts.map fun t=>Zm t.2) (ys:=ts.map fun t=>V.ref t.2) (f:=fun _=>(ts.map fun t=>Zm t.2).toArray) (t':=tk) xf e9 rfl (xfl (fun t=>t.2) ts) (by rw[Za,tl]; exact hz);rw[xez,xez] at J3;exact⟨.ref h1.objs.size,_,J3,rfl,q _ ts fr pm pw⟩
  by_cases few:es'.length<2
  . refine xja gl (by rw[Za]; exact few) ⟨_,rfl,Zk ⟨_,rfl,?_⟩⟩
    have:=done (es'.map fun x=>(x.1,x.2.1)) (Q0.refl _) ?_
    . rw[Z7] at this
      exact this
    . match es',few with
      | [],_=>exact .nil
      | [x],_=>exact YB _ _
      | _::_::_,h=>exact absurd h (by simp)
  . refine xh7 gl (by rw[Za]; omega) (by rw[Za]; exact hl) fun s' es1 es2=>?_
    obtain⟨b,sh0,rfl⟩:∃ b sh0,sh=b::sh0:=by
      cases sh with
      | nil=>simp at hpos
      | cons b r=>exact⟨b,r,rfl⟩
    rw[es1] at es2;subst es2;have km2:∀ x∈es',upd (upd H h1.objs.size (.lst (es'.map fun x=>V.ref x.2.1))) h1.objs.size (.lst []) x.2.1=some (.tup (x.1.map kV)):=fun x hx=>by
      rw[xh (xi (km x hx) fr),xh (xi (km x hx) fr)];exact km x hx
    obtain⟨fs,kt,fl,fm⟩:=xo1 J2.hok es' km2 shE;have few':2<=es'.length:=by omega
    refine kat_kind (T:=if b=true then .type "int" else .type "str") kt (by omega) (fun v hv=>?_) (by cases b<;>rfl) ⟨rfl,?_⟩
    . have z:=fm v hv
      cases b with
      | true =>
        obtain⟨i,t,rfl⟩:=z;exact fun A Q E s _ q=>Yt (T:="int") rfl q
      | false =>
        obtain⟨i,t,rfl⟩:=z;exact fun A Q E s _ q=>Yt (T:="str") rfl q
    rw[Za];have eAt:∀ i,i<es'.length->es'[i]?=some (es'.getD i ([],0,.none)):=fun i hi=>by
      rw[ZY,Zf hi];rfl
    have eM:∀ i,i<es'.length->es'.getD i ([],0,.none)∈es':=fun i hi=>Zo (eAt i hi);have vAt:∀ i,i<es'.length->(es'.map fun x=>Zm x.2.1).getD i .none=.ref (es'.getD i ([],0,.none)).2.1:=fun i hi=>by
      rw[ZY,Zh,eAt i hi];rfl
    have shI:∀ i j,i<es'.length->j<es'.length->shp (es'.getD i ([],0,.none)).1=shp (es'.getD j ([],0,.none)).1:=fun i j hi hj=>by rw[shE _ (eM i hi),shE _ (eM j hj)]
    refine Srt.sort_wp (lt:=fun i j=>lexK (es'.getD i ([],0,.none)).1 (es'.getD j ([],0,.none)).1) ⟨fun i hi=>xkf _,fun i j k hi hj hk=>xlm (shI i j hi hj) (shI j k hj hk),fun i j hi hj ne=>xkh (shI i j hi hj) fun e=>ne ?_⟩ (fun i j hi hj Q' q'=>?_) few' fun p arr srt=>⟨rfl,_,rfl,Zk ⟨_,rfl,?_⟩⟩
    . have e1:(es'.map (·.1))[i]?=(es'.map (·.1))[j]?:=by rw[Zh,Zh,eAt i hi,eAt j hj]; exact congrArg some e
      exact (List.getElem?_inj (by rw[Za]; exact hi) hnd).mp e1
    . show wpAny _ _ (keyLt' _ ((es'.map fun x=>Zm x.2.1).getD i .none) ((es'.map fun x=>Zm x.2.1).getD j .none)) _ _ _
      rw[vAt i hi,vAt j hj];obtain⟨_,ti,ri,oi,ei,_,ni,di⟩:=J2.hok _ _ (km2 _ (eM i hi));obtain⟨_,tj,rj,oj,ej,_,nj,dj⟩:=J2.hok _ _ (km2 _ (eM j hj));have l1:=Vals.length ri;have l2:=Vals.length rj;have l3:=congrArg QX (shI i j hi hj);simp only[Za] at l1 l2 l3;refine kat_lt ei di ej dj ?_;rw[decide_eq_false (by simp; omega)];exact xkl _ _ _ _ 0 (shI i j hi hj) ri rj q'
    have pl:∀ i∈p.toList,i<es'.length:=fun i hi=>by
      have:=(Array.Perm.mem_iff arr.pm).mp (Wi.mp hi);simpa using this
    have:=done (p.toList.map fun i=>((es'.getD i ([],0,.none)).1,(es'.getD i ([],0,.none)).2.1)) ?_ ?_
    . rw[Z7] at this
      have e2:(p.map fun i=>(es'.map fun x=>Zm x.2.1).getD i .none)=(p.toList.map ((fun t:List Key × Addr=>Zm t.2)∘fun i=>((es'.getD i ([],0,.none)).1,(es'.getD i ([],0,.none)).2.1))).toArray:=by
        rw[<- Array.toList_inj,Array.toList_map];exact JY fun i hi=>vAt i (pl i hi)
      rw[e2];exact this
    . have e3:(es'.map fun x=>(x.1,x.2.1))=(Z3 es'.length).map fun i=>((es'.getD i ([],0,.none)).1,(es'.getD i ([],0,.none)).2.1):=by
        refine YI fun i=>?_;by_cases c:i<es'.length
        . rw[Zh,eAt i c,Zh,Jg c]
          rfl
        . rw[Ja (by rw[Za]; omega),Ja (by simp; omega)]
      rw[e3];refine Q0.map _ ?_;have:=Array.Perm.toList arr.pm;simpa using this
    . rw[Z7,ZH,List.pairwise_iff_getElem]
      intro i j hi hj hij;have z:=srt i j hij (by rw[<- arr.sz]; simpa using hj);have gi:Srt.g p i=p.toList[i]:=Srt.g_at (by rw[<- Ju]; exact Zf hi);have gj:Srt.g p j=p.toList[j]:=Srt.g_at (by rw[<- Ju]; exact Zf hj);rw[gi,gj] at z;exact z
def xpv:List V->Hp->VK->Prop:=fun xs H Q=>∃(d:Addr) (kvs:List (List Key × V)) (sh:List Bool),xs=[.ref d]/\H d=some (.dT kvs)/\kvs.length<64/\(∀ p∈kvs,shp p.1=sh)/\0<sh.length /\
 ∀(l:Addr) (ts:List (List Key × Addr)),H l=none->(∀ t∈ts,H t.2=some (.tup (t.1.map kV)))->(ts.map (·.1)).Perm (kvs.map (·.1))->(ts.map (·.1)).Pairwise (fun x y=>lexK x y=true)->Q (.ref l) (upd H l (.lst (ts.map fun t=>.ref t.2)))
theorem xj8 {X:Cx} (hc:X.calm=true):xb1 X (.builtin "sorted") xpv:=by
 intro pins s σ H xs us Q I r h;obtain⟨d,kvs,sh,rfl,hd,hl,hsh,hpos,q⟩:=h;obtain⟨u,rfl,ru⟩:=xbx r;obtain rfl:u=Zm d:=ru;obtain⟨z,hsys,es',rel,dd⟩:=xg5 I.hok hd;obtain⟨o,es,ep,ho,hx,hdat,hes,hkk,hnd⟩:=dd;have ln:=Yi rel;have esz:es.size=es'.length:=by rw[<- J7,hes,Za]
 refine Qo kind_sorted plain_sorted entry_sorted (args_sorted1 _) ?_;unfold Builtin.sorted;refine Zb (Zk ?_);show wpAny _ _ (collect (.ref d)>>=_) _ _ _;refine Zb (kdu_collect (xmd hsys hx hdat) (I.ok.hd hc) ho (by rw[esz,<- ln]; exact z) fun h1 tk acc keep items=>?_);have acl:acc.toList=es'.map fun x=>Zm x.2.1:=by
  refine YI fun j=>?_;obtain⟨i1,i2⟩:=items;by_cases c:j<es'.length
  .have c':j<acc.size:=by rw[i1,esz]; exact c
   have e:acc[j]?=some acc[j]:=Yz c';obtain⟨en,he,hv⟩:=i2 j acc[j] e;rw[Ju,e,hv];have he':es.toList[j]?=some en:=by rw[Ju]; exact he
   rw[hes,Zh,Zf c] at he';rw[Zh,Zf c];have:=JC.inj he';rw[<- this];rfl
  .rw [Ja (by rw[J7,i1,esz]; omega),Ja (by rw[Za]; omega)]
 rw[acl];have I1:Inv X pins σ H { s with heap:=h1,toks:=tk }:=I.kept keep;obtain⟨km,ke⟩:=xs4 rel;have shE:∀ x∈es',shp x.1=sh:=fun x hx=>by
  have m:x.1∈kvs.map (·.1):=by rw[<- ke]; exact Ze.mpr ⟨x,hx,rfl⟩
  obtain⟨p,hp,e⟩:=Ze.mp m;rw[<- e];exact hsh p hp
 refine xo6 es' I1 (by rw[<- ln]; exact hl) km shE hpos hnd fun l ts fr pm pw=>q l ts fr (fun t ht=>?_) ?_ pw
 .obtain ⟨x,hx,rfl⟩:=Ze.mp (pm.mem_iff.mp ht);exact km x hx
 .have:=pm.map (·.1);rw[Z7] at this;rw[<- ke];exact this
theorem xh5 {κ:Type} [DecidableEq κ]:∀{kvs:List (κ × V)}{k:κ}{v:V},valV kvs k=some v->∃ i:Nat,kvs[i]?=some (k,v)
 | [],k,v,h=>by cases h
 | p::r,k,v,h=>by
  by_cases e:p.1=k
  .rw [xa1 e] at h;cases h;exact⟨0,by simp[<- e]⟩
  .rw [xay e] at h;obtain⟨i,hi⟩:=xh5 h;exact⟨i+1,by simpa using hi⟩
end L2
namespace L2
open PySem PySem.Spec PyProof.Rows XL PySem.W
inductive DV where
 | non
 | bl (b:Bool)
 | int (i:Int)
 | str (x:Str)
 | tup (xs:List DV)
 | lst (xs:List DV)
mutual
def dEq:DV->DV->Bool
 | .non,.non=>true
 | .bl a,.bl b=>a == b
 | .bl a,.int b=>(if a then 1 else 0) == b
 | .int a,.bl b=>a == (if b then 1 else 0)
 | .int a,.int b=>a == b
 | .str a,.str b=>a == b
 | .tup xs,.tup ys=>dEqs xs ys
 | .lst xs,.lst ys=>dEqs xs ys
 | _,_=>false
def dEqs:List DV->List DV->Bool
 | [],[]=>true
 | x::xs,y::ys=>dEq x y&&dEqs xs ys
 | _,_=>false
end
mutual
theorem xdj:∀ d,dEq d d=true
 | .non=>rfl
 | .bl _=>by simp[dEq]
 | .int _=>by simp[dEq]
 | .str _=>by simp[dEq]
 | .tup xs=>by simp only[dEq]; exact xdr xs
 | .lst xs=>by simp only[dEq]; exact xdr xs
theorem xdr:∀ xs,dEqs xs xs=true
 | []=>rfl
 | x::xs=>by simp only[dEqs,Zr]; exact⟨xdj x,xdr xs⟩
end
mutual
def DV.pl:DV->Bool
 | .bl _=>false
 | .tup xs=>pls xs
 | .lst xs=>pls xs
 | _=>true
def pls:List DV->Bool
 | []=>true
 | x::xs=>x.pl&&pls xs
end
mutual
theorem xn9:∀{d e:DV},d.pl=true->e.pl=true->dEq d e=true->d=e
 | .non,.non,_,_,_=>rfl
 | .int a,.int b,_,_,h=>by simp only[dEq,beq_iff_eq] at h; rw[h]
 | .str a,.str b,_,_,h=>by simp only[dEq,beq_iff_eq] at h; rw[h]
 | .tup xs,.tup ys,p,q,h=>by
  simp only[dEq] at h;simp only[DV.pl] at p q;rw[xh3 p q h]
 | .lst xs,.lst ys,p,q,h=>by
  simp only[dEq] at h;simp only[DV.pl] at p q;rw[xh3 p q h]
 | .bl _,_,p,_,_=>by simp[DV.pl] at p
 | .non,.bl _,_,q,_=>by simp[DV.pl] at q
 | .int _,.bl _,_,q,_=>by simp[DV.pl] at q
 | .str _,.bl _,_,q,_=>by simp[DV.pl] at q
 | .tup _,.bl _,_,q,_=>by simp[DV.pl] at q
 | .lst _,.bl _,_,q,_=>by simp[DV.pl] at q
 | .non,.int _,_,_,h=>by simp[dEq] at h
 | .non,.str _,_,_,h=>by simp[dEq] at h
 | .non,.tup _,_,_,h=>by simp[dEq] at h
 | .non,.lst _,_,_,h=>by simp[dEq] at h
 | .int _,.non,_,_,h=>by simp[dEq] at h
 | .int _,.str _,_,_,h=>by simp[dEq] at h
 | .int _,.tup _,_,_,h=>by simp[dEq] at h
 | .int _,.lst _,_,_,h=>by simp[dEq] at h
 | .str _,.non,_,_,h=>by simp[dEq] at h
 | .str _,.int _,_,_,h=>by simp[dEq] at h
 | .str _,.tup _,_,_,h=>by simp[dEq] at h
 | .str _,.lst _,_,_,h=>by simp[dEq] at h
 | .tup _,.non,_,_,h=>by simp[dEq] at h
 | .tup _,.int _,_,_,h=>by simp[dEq] at h
 | .tup _,.str _,_,_,h=>by simp[dEq] at h
 | .tup _,.lst _,_,_,h=>by simp[dEq] at h
 | .lst _,.non,_,_,h=>by simp[dEq] at h
 | .lst _,.int _,_,_,h=>by simp[dEq] at h
 | .lst _,.str _,_,_,h=>by simp[dEq] at h
 | .lst _,.tup _,_,_,h=>by simp[dEq] at h
theorem xh3:∀{xs ys:List DV},pls xs=true->pls ys=true->dEqs xs ys=true->xs=ys
 | [],[],_,_,_=>rfl
 | x::xs,y::ys,p,q,h=>by
  simp only[pls,Zr] at p q;simp only[dEqs,Zr] at h;rw[xn9 p.1 q.1 h.1,xh3 p.2 q.2 h.2]
 | [],_::_,_,_,h=>by simp[dEqs] at h
 | _::_,[],_,_,h=>by simp[dEqs] at h
end
theorem xlz {d e:DV}{α:Type}{x y:α} [DecidableEq α] (p:d.pl=true) (q:e.pl=true) (f:d=e↔x=y):dEq d e=decide (x=y):=by
 by_cases c:x=y
 .rw [decide_eq_true c,f.mpr c];exact xdj _
 .rw [decide_eq_false c];cases z:dEq d e with
  | false=>rfl
  | true=>exact absurd (f.mp (xn9 p q z)) c
theorem xg2:∀{xs ys:List DV}{e:Nat->Bool},(∀(j:Nat) (x y:DV),xs[j]?=some x->ys[j]?=some y->e j=dEq x y)->((Z3 (min xs.length ys.length)).all e&&xs.length == ys.length)=dEqs xs ys
 | [],[],_,_=>rfl
 | [],_::_,_,_=>by simp[dEqs]
 | _::_,[],_,_=>by simp[dEqs]
 | x::xs,y::ys,e,h=>by
  have ih:=xg2 (xs:=xs) (ys:=ys) (e:=fun j=>e (j+1)) (fun j a b ha hb=>h (j+1) a b (by simpa using ha) (by simpa using hb));have h0:=h 0 x y rfl rfl;rw[ZL,ZL,show min (xs.length+1) (ys.length+1)=min xs.length ys.length+1 by omega,List.range_succ_eq_map,Qv,List.all_map];show _=(dEq x y&&dEqs xs ys)
  rw[<- ih,h0];have z:((xs.length+1 == ys.length+1):Bool)=(xs.length == ys.length):=by
   rw[Je];simp
  rw[z,Bool.and_assoc];rfl
theorem xkc:∀{xs ys:List DV},xs.length≠ys.length->dEqs xs ys=false
 | [],[],h=>absurd rfl h
 | [],_::_,_=>rfl
 | _::_,[],_=>rfl
 | x::xs,y::ys,h=>by
  show (dEq x y&&dEqs xs ys)=false;rw[xkc (xs:=xs) (ys:=ys) (fun z=>h (by simp[z]))];exact Qh _
inductive Dv (K:Zd) (H:Hp):Nat->V->DV->Prop
 | non {n:Nat}:Dv K H n .non .non
 | bl {n:Nat}{b:Bool}:Dv K H n (.bl b) (.bl b)
 | int {n:Nat}{b:Int}:Dv K H n (.int b) (.int b)
 | str {n:Nat}{b:Str}:Dv K H n (.str b) (.str b)
 | tup {n:Nat}{a:Addr}{xs:List V}{ds:List DV} (ha:SqT K H a xs) (hl:xs.length=ds.length) (h:∀(j:Nat) (x:V) (d:DV),xs[j]?=some x->ds[j]?=some d->Dv K H n x d):Dv K H (n+1) (.ref a) (.tup ds)
 | lst {n:Nat}{a:Addr}{xs:List V}{ds:List DV} (ha:SqL K H a xs) (hl:xs.length=ds.length) (h:∀(j:Nat) (x:V) (d:DV),xs[j]?=some x->ds[j]?=some d->Dv K H n x d):Dv K H (n+1) (.ref a) (.lst ds)
section
variable {X:Cx}{pins:List (Addr × Obj)}{σ:St}{H:Hp}{s:Shared}
theorem xi5 {h:Heap}{a:Addr}{i j:Array Value} (p:h.IsTuple a i) (q:PlainL h a j):False:=by
 obtain⟨o,e,c,_⟩:=p;obtain⟨o',n,e',c',_⟩:=q;rw[e] at e';cases e';rw[c] at c';exact absurd c' (by decide)
theorem xn8 {xs ys:List DV} (h:xs.length=ys.length) (f:∀(j:Nat) (x y:DV),xs[j]?=some x->ys[j]?=some y->x=y):xs=ys:=by
 refine YI fun j=>?_;by_cases c:j<xs.length
 .rw [Zf c,Zf (by omega),f j _ _ (Zf c) (Zf (by omega))]
 .rw [Ja (by omega),Ja (by omega)]
theorem xkm (I:Inv X pins σ H s) {n:Nat}{x:V}{d:DV} (h:Dv X.K H n x d):∀{m:Nat}{e:DV},Dv X.K H m x e->d=e:=by
 induction h with
 | non=>intro m e h; cases h; rfl
 | bl=>intro m e h; cases h; rfl
 | int=>intro m e h; cases h; rfl
 | str=>intro m e h; cases h; rfl
 | @tup n a xs ds ha hl h ih =>
  intro m e h2;cases h2 with
  | @tup m _ ys es hb kl k =>
   obtain rfl:=I.tuple_inj ha hb;refine congrArg DV.tup (xn8 (by omega) fun j d e h1 h2=>?_);have lt:j<xs.length:=by
    have:=(Zj.mp h1).1;omega
   exact ih j xs[j] d (Zf lt) h1 (k j xs[j] e (Zf lt) h2)
  | @lst m _ ys es hb kl k =>
   obtain⟨its,_,t1,_⟩:=I.tuple ha;obtain⟨its2,_,t2,_⟩:=I.list hb;exact (xi5 t1 t2).elim
 | @lst n a xs ds ha hl h ih =>
  intro m e h2;cases h2 with
  | @lst m _ ys es hb kl k =>
   obtain rfl:=I.list_inj ha hb;refine congrArg DV.lst (xn8 (by omega) fun j d e h1 h2=>?_);have lt:j<xs.length:=by
    have:=(Zj.mp h1).1;omega
   exact ih j xs[j] d (Zf lt) h1 (k j xs[j] e (Zf lt) h2)
  | @tup m _ ys es hb kl k =>
   obtain⟨its,_,t1,_⟩:=I.tuple hb;obtain⟨its2,_,t2,_⟩:=I.list ha;exact (xi5 t1 t2).elim
def at2 (f:DV->DV->Bool) (ds es:List DV) (j:Nat):Bool:=match ds[j]?,es[j]? with|some d,some e=>f d e|_,_=>false
theorem xhb {f:DV->DV->Bool}{ds es:List DV}{j:Nat}{d e:DV} (h:ds[j]?=some d) (h2:es[j]?=some e):at2 f ds es j=f d e:=by
 unfold at2;rw[h,h2]
theorem xm0 (I:Inv X pins σ H s) {n:Nat}{x:V}{d:DV} (h:Dv X.K H n x d):∀{m:Nat}{y:V}{e:DV},Dv X.K H m y e->∀{A:Around}{u v:Value},A.units+n+m<cLine->RelV x u->RelV y v ->
    Zu A s u v (dEq d e)/\ZC A s u v (dEq d e)/\Z6 A s u v (!dEq d e):=by
  induction h with
  | @non n =>
    intro m y e h2 A u v hu rx ry;obtain rfl:u=ZV:=rx;cases h2 with
    | @non  =>
      obtain rfl:v=ZV:=ry;exact⟨Zu.same _,ZC.none_none,Z6.none_none⟩
    | @bl _ b2 =>
      obtain rfl:v=Yc _:=ry;exact⟨Zu.none_bool _,ZC.none_bool _,Z6.none_bool _⟩
    | @int _ b2 =>
      obtain⟨_,rfl⟩:=ry;exact⟨Zu.none_int _ _,ZC.none_int _ _,Z6.none_int _ _⟩
    | @str _ b2 =>
      obtain⟨_,rfl⟩:=ry;exact⟨Zu.none_str _ _,ZC.none_str _ _,Z6.none_str _ _⟩
    | @tup m b ys es hb kl k =>
      obtain rfl:v=Zm _:=ry;obtain⟨its2,r2,t2,z2⟩:=I.tuple hb;have l2:=r2.length;exact⟨Zu.none_tuple t2 (by omega),ZC.none_tuple t2 (by omega),Z6.none_tuple t2 (by omega)⟩
    | @lst m b ys es hb kl k =>
      obtain rfl:v=Zm _:=ry;obtain⟨its2,r2,t2,z2⟩:=I.list hb;have l2:=r2.length;exact⟨Zu.none_list t2.isList (by omega),ZC.none_list t2.isList (by omega),Z6.none_list t2.isList (by omega)⟩
  | @bl n b1 =>
    intro m y e h2 A u v hu rx ry;obtain rfl:u=Yc _:=rx;cases h2 with
    | @non  =>
      obtain rfl:v=ZV:=ry;exact⟨Zu.bool_none _,ZC.bool_none _,Z6.bool_none _⟩
    | @bl _ b2 =>
      obtain rfl:v=Yc _:=ry;exact⟨Zu.bool_bool _ _,ZC.bool_bool _ _,Z6.bool_bool _ _⟩
    | @int _ b2 =>
      obtain⟨_,rfl⟩:=ry;exact⟨Zu.bool_int _ _ _,ZC.bool_int _ _ _,Z6.bool_int _ _ _⟩
    | @str _ b2 =>
      obtain⟨_,rfl⟩:=ry;exact⟨Zu.bool_str _ _ _,ZC.bool_str _ _ _,Z6.bool_str _ _ _⟩
    | @tup m b ys es hb kl k =>
      obtain rfl:v=Zm _:=ry;obtain⟨its2,r2,t2,z2⟩:=I.tuple hb;have l2:=r2.length;exact⟨Zu.bool_tuple _ t2 (by omega),ZC.bool_tuple _ t2 (by omega),Z6.bool_tuple _ t2 (by omega)⟩
    | @lst m b ys es hb kl k =>
      obtain rfl:v=Zm _:=ry;obtain⟨its2,r2,t2,z2⟩:=I.list hb;have l2:=r2.length;exact⟨Zu.bool_list _ t2.isList (by omega),ZC.bool_list _ t2.isList (by omega),Z6.bool_list _ t2.isList (by omega)⟩
  | @int n b1 =>
    intro m y e h2 A u v hu rx ry;obtain⟨_,rfl⟩:=rx;cases h2 with
    | @non  =>
      obtain rfl:v=ZV:=ry;exact⟨Zu.int_none _ _,ZC.int_none _ _,Z6.int_none _ _⟩
    | @bl _ b2 =>
      obtain rfl:v=Yc _:=ry;exact⟨Zu.int_bool _ _ _,ZC.int_bool _ _ _,Z6.int_bool _ _ _⟩
    | @int _ b2 =>
      obtain⟨_,rfl⟩:=ry;exact⟨Zu.int_int _ _ _ _,ZC.int_int _ _ _ _,Z6.int_int _ _ _ _⟩
    | @str _ b2 =>
      obtain⟨_,rfl⟩:=ry;exact⟨Zu.int_str _ _ _ _,ZC.int_str _ _ _ _,Z6.int_str _ _ _ _⟩
    | @tup m b ys es hb kl k =>
      obtain rfl:v=Zm _:=ry;obtain⟨its2,r2,t2,z2⟩:=I.tuple hb;have l2:=r2.length;exact⟨Zu.int_tuple _ _ t2 (by omega),ZC.int_tuple _ _ t2 (by omega),Z6.int_tuple _ _ t2 (by omega)⟩
    | @lst m b ys es hb kl k =>
      obtain rfl:v=Zm _:=ry;obtain⟨its2,r2,t2,z2⟩:=I.list hb;have l2:=r2.length;exact⟨Zu.int_list _ _ t2.isList (by omega),ZC.int_list _ _ t2.isList (by omega),Z6.int_list _ _ t2.isList (by omega)⟩
  | @str n b1 =>
    intro m y e h2 A u v hu rx ry;obtain⟨_,rfl⟩:=rx;cases h2 with
    | @non  =>
      obtain rfl:v=ZV:=ry;exact⟨Zu.str_none _ _,ZC.str_none _ _,Z6.str_none _ _⟩
    | @bl _ b2 =>
      obtain rfl:v=Yc _:=ry;exact⟨Zu.str_bool _ _ _,ZC.str_bool _ _ _,Z6.str_bool _ _ _⟩
    | @int _ b2 =>
      obtain⟨_,rfl⟩:=ry;exact⟨Zu.str_int _ _ _ _,ZC.str_int _ _ _ _,Z6.str_int _ _ _ _⟩
    | @str _ b2 =>
      obtain⟨_,rfl⟩:=ry;exact⟨Zu.str_str _ _ _ _,ZC.str_str _ _ _ _,Z6.str_str _ _ _ _⟩
    | @tup m b ys es hb kl k =>
      obtain rfl:v=Zm _:=ry;obtain⟨its2,r2,t2,z2⟩:=I.tuple hb;have l2:=r2.length;exact⟨Zu.str_tuple _ _ t2 (by omega),ZC.str_tuple _ _ t2 (by omega),Z6.str_tuple _ _ t2 (by omega)⟩
    | @lst m b ys es hb kl k =>
      obtain rfl:v=Zm _:=ry;obtain⟨its2,r2,t2,z2⟩:=I.list hb;have l2:=r2.length;exact⟨Zu.str_list _ _ t2.isList (by omega),ZC.str_list _ _ t2.isList (by omega),Z6.str_list _ _ t2.isList (by omega)⟩
  | @tup n a xs ds ha hl h ih =>
    intro m y e h2 A u v hu rx ry;obtain rfl:u=Zm _:=rx;obtain⟨its,r1,t1,z1⟩:=I.tuple ha;have l1:=r1.length;cases h2 with
    | @non  =>
      obtain rfl:v=ZV:=ry;exact⟨Zu.tuple_none t1 (by omega),ZC.tuple_none t1 (by omega),Z6.tuple_none t1 (by omega)⟩
    | @bl _ b2 =>
      obtain rfl:v=Yc _:=ry;exact⟨Zu.tuple_bool _ t1 (by omega),ZC.tuple_bool _ t1 (by omega),Z6.tuple_bool _ t1 (by omega)⟩
    | @int _ b2 =>
      obtain⟨_,rfl⟩:=ry;exact⟨Zu.tuple_int _ _ t1 (by omega),ZC.tuple_int _ _ t1 (by omega),Z6.tuple_int _ _ t1 (by omega)⟩
    | @str _ b2 =>
      obtain⟨_,rfl⟩:=ry;exact⟨Zu.tuple_str _ _ t1 (by omega),ZC.tuple_str _ _ t1 (by omega),Z6.tuple_str _ _ t1 (by omega)⟩
    | @tup m b ys es hb kl k =>
      obtain rfl:v=Zm _:=ry;obtain⟨its2,r2,t2,z2⟩:=I.tuple hb;have l2:=r2.length;have step:∀(j:Nat) (h1:j<its.toArray.size) (h2:j<its2.toArray.size),Zu A.in1 s its.toArray[j] its2.toArray[j] (at2 dEq ds es j):=fun j h1 h2=>by
        obtain⟨x,hx,rx⟩:=xf1 r1 h1;obtain⟨y,hy,ry⟩:=xf1 r2 h2;have j1:j<ds.length:=by simp at h1; omega
        have j2:j<es.length:=by simp at h2; omega
        rw[xhb (Zf j1) (Zf j2)];exact (ih j x _ hx (Zf j1) (k j y _ hy (Zf j2)) (A:=A.in1) (by show A.units+1+n+m<cLine; omega) rx ry).1
      have all:=xg2 (xs:=ds) (ys:=es) (e:=at2 dEq ds es) fun j x y h1 h2=>xhb h1 h2;have both:ZC A s (.ref a) (.ref b) (dEqs ds es)/\Z6 A s (.ref a) (.ref b) (!dEqs ds es):=by
        have z1:=ZC.tuples (A:=A) (e:=at2 dEq ds es) (show s.heap.IsTuple a its.toArray from t1) (show s.heap.IsTuple b its2.toArray from t2) (by omega) step;have z2:=Z6.tuples (A:=A) (e:=at2 dEq ds es) (show s.heap.IsTuple a its.toArray from t1) (show s.heap.IsTuple b its2.toArray from t2) (by omega) step;have e1:its.toArray.size=ds.length:=by simp; omega
        have e2:its2.toArray.size=es.length:=by simp; omega
        rw[e1,e2,all] at z1 z2;exact⟨z1,z2⟩
      simp only[dEq];refine⟨?_,both⟩;by_cases q:a=b
      . subst q
        have ed:DV.tup ds=DV.tup es:=xkm I (Dv.tup ha hl h) (Dv.tup hb kl k);rw[show es=ds by injection ed with z; exact z.symm,xdr];exact Zu.same _
      . exact .of_refs q both.1
    | @lst m b ys es hb kl k =>
      obtain rfl:v=Zm _:=ry;obtain⟨its2,r2,t2,z2⟩:=I.list hb;have l2:=r2.length;exact⟨Zu.tuple_list t1 t2.isList (by omega),ZC.tuple_list t1 t2.isList (by omega),Z6.tuple_list t1 t2.isList (by omega)⟩
  | @lst n a xs ds ha hl h ih =>
    intro m y e h2 A u v hu rx ry;obtain rfl:u=Zm _:=rx;obtain⟨its,r1,t1,z1⟩:=I.list ha;have l1:=r1.length;cases h2 with
    | @non  =>
      obtain rfl:v=ZV:=ry;exact⟨Zu.list_none t1.isList (by omega),ZC.list_none t1.isList (by omega),Z6.list_none t1.isList (by omega)⟩
    | @bl _ b2 =>
      obtain rfl:v=Yc _:=ry;exact⟨Zu.list_bool _ t1.isList (by omega),ZC.list_bool _ t1.isList (by omega),Z6.list_bool _ t1.isList (by omega)⟩
    | @int _ b2 =>
      obtain⟨_,rfl⟩:=ry;exact⟨Zu.list_int _ _ t1.isList (by omega),ZC.list_int _ _ t1.isList (by omega),Z6.list_int _ _ t1.isList (by omega)⟩
    | @str _ b2 =>
      obtain⟨_,rfl⟩:=ry;exact⟨Zu.list_str _ _ t1.isList (by omega),ZC.list_str _ _ t1.isList (by omega),Z6.list_str _ _ t1.isList (by omega)⟩
    | @tup m b ys es hb kl k =>
      obtain rfl:v=Zm _:=ry;obtain⟨its2,r2,t2,z2⟩:=I.tuple hb;have l2:=r2.length;exact⟨Zu.list_tuple t1.isList t2 (by omega),ZC.list_tuple t1.isList t2 (by omega),Z6.list_tuple t1.isList t2 (by omega)⟩
    | @lst m b ys es hb kl k =>
      obtain rfl:v=Zm _:=ry;obtain⟨its2,r2,t2,z2⟩:=I.list hb;have l2:=r2.length;have step:∀(j:Nat) (h1:j<its.toArray.size) (h2:j<its2.toArray.size),Zu A.in1 s its.toArray[j] its2.toArray[j] (at2 dEq ds es j):=fun j h1 h2=>by
        obtain⟨x,hx,rx⟩:=xf1 r1 h1;obtain⟨y,hy,ry⟩:=xf1 r2 h2;have j1:j<ds.length:=by simp at h1; omega
        have j2:j<es.length:=by simp at h2; omega
        rw[xhb (Zf j1) (Zf j2)];exact (ih j x _ hx (Zf j1) (k j y _ hy (Zf j2)) (A:=A.in1) (by show A.units+1+n+m<cLine; omega) rx ry).1
      have all:=xg2 (xs:=ds) (ys:=es) (e:=at2 dEq ds es) fun j x y h1 h2=>xhb h1 h2;have both:ZC A s (.ref a) (.ref b) (dEqs ds es)/\Z6 A s (.ref a) (.ref b) (!dEqs ds es):=by
        have e1:its.toArray.size=ds.length:=by simp; omega
        have e2:its2.toArray.size=es.length:=by simp; omega
        by_cases c:ds.length=es.length
        . have z1:=ZC.lists (A:=A) (e:=at2 dEq ds es) t1.isList t2.isList (by omega) (by omega) step
          have z2:=Z6.lists (A:=A) (e:=at2 dEq ds es) t1.isList t2.isList (by omega) (by omega) step;have all':(Z3 ds.length).all (at2 dEq ds es)=dEqs ds es:=by
            rw[<- all,c,Nat.min_self];simp
          rw[e1,all'] at z1 z2;exact⟨z1,z2⟩
        . rw[xkc c]
          exact⟨ZC.lists_lengths (A:=A) t1.isList t2.isList (by rw[e1,e2]; simpa using c) (by omega),Z6.lists_lengths (A:=A) t1.isList t2.isList (by rw[e1,e2]; simpa using c) (by omega)⟩
      simp only[dEq];refine⟨?_,both⟩;by_cases q:a=b
      . subst q
        have ed:DV.lst ds=DV.lst es:=xkm I (Dv.lst ha hl h) (Dv.lst hb kl k);rw[show es=ds by injection ed with z; exact z.symm,xdr];exact Zu.same _
      . exact .of_refs q both.1
end
theorem Same.seqL {K:Zd}{H H':Hp}{a:Addr}{xs:List V} (s:Same H H') (h:SqL K H a xs):SqL K H' a xs:=by
 rcases h with (h|⟨ob,h⟩)|h
 .exact .inl (.inl (s _ _ h))
 .exact .inl (.inr ⟨ob,s _ _ h⟩)
 .exact .inr h
def rEqV (K:Zd):R2:=fun x y H Q=>∃(n m:Nat) (d e:DV),Dv K H n x d/\Dv K H m y e/\n<=9/\m<=9/\Q (.bl (dEq d e)) H
def rNeV (K:Zd):R2:=fun x y H Q=>∃(n m:Nat) (d e:DV),Dv K H n x d/\Dv K H m y e/\n<=9/\m<=9/\Q (.bl (!dEq d e)) H
def rInV (K:Zd) (neg:Bool):R2:=fun x y H Q=>∃(n m:Nat) (d:DV) (es:List DV),Dv K H n x d/\Dv K H m y (.lst es)/\n<=9/\m<=9/\Q (.bl (if neg then !es.any (fun z=>dEq z d) else es.any fun z=>dEq z d)) H
section
variable {X:Cx}
theorem xjs (hu:X.A.units+20<cLine):OpR X (compareOp .Eq) (rEqV X.K):=by
 intro pins s σ H x y u v Q I rx ry h;obtain⟨n,m,d,e,h1,h2,hn,hm,q⟩:=h;exact (xm0 I h1 h2 (A:=X.A) (by omega) rx ry).2.1 X.prog X.w X.xe _ ⟨.bl _,H,I,rfl,q⟩
theorem xg8 (hu:X.A.units+20<cLine):OpR X (compareOp .NotEq) (rNeV X.K):=by
 intro pins s σ H x y u v Q I rx ry h;obtain⟨n,m,d,e,h1,h2,hn,hm,q⟩:=h;exact PySem.W.cmp_ofNotEq ((xm0 I h1 h2 (A:=X.A) (by omega) rx ry).2.2 X.prog X.w X.xe _ ⟨.bl _,H,I,rfl,q⟩)
theorem xoe {α β:Type}{f:α->Bool}{g:β->Bool}:∀{xs:List α}{ys:List β},xs.length=ys.length->(∀(j:Nat) (x:α) (y:β),xs[j]?=some x->ys[j]?=some y->f x=g y)->xs.any f=ys.any g
 | [],[],_,_=>rfl
 | [],_::_,h,_=>by cases h
 | _::_,[],h,_=>by cases h
 | x::xs,y::ys,h,k=>by
  rw[JV,JV,k 0 x y rfl rfl,xoe (xs:=xs) (ys:=ys) (by simpa using h) fun j a b h1 h2=>k (j+1) a b (by simpa using h1) (by simpa using h2)]
noncomputable def eOf (K:Zd) (H:Hp) (m:Nat) (d:DV) (z:V):Bool:=@dite Bool (∃ e,Dv K H m z e) (Classical.propDecidable _) (fun h=>dEq h.choose d) fun _=>false
theorem xnv {pins:List (Addr × Obj)}{σ:St}{H:Hp}{s:Shared} (I:Inv X pins σ H s) {m:Nat}{d e:DV}{z:V} (h:Dv X.K H m z e):eOf X.K H m d z=dEq e d:=by
 unfold eOf;rw[dif_pos ⟨e,h⟩];have ex:∃ e,Dv X.K H m z e:=⟨e,h⟩
 rw[xkm I ex.choose_spec h]
theorem xiw (hu:X.A.units+20<cLine):OpR X (compareOp .NotIn) (rInV X.K true):=by
 intro pins s σ H x y v u Q I rx ry h;obtain⟨n,m,d,es,h1,h2,hn,hm,q⟩:=h;cases h2 with
 | @lst m a xs _ ha hl k =>
  cases ry;obtain⟨its,r,pl,hz⟩:=I.list ha;have get:∀ z∈xs,∃(j:Nat) (e:DV),xs[j]?=some z/\es[j]?=some e/\Dv X.K H m z e:=fun z hz=>by
   obtain⟨j,hj⟩:=List.getElem?_of_mem hz;have lt:j<es.length:=by rw[<- hl]; exact (Zj.mp hj).1
   exact⟨j,es[j],hj,Zf lt,k j z _ hj (Zf lt)⟩
  refine SeqAt.notIn_listAt (eU (eOf X.K H m d)) pl.isList (fun w hw=>?_) ⟨.bl _,H,I,rfl,?_⟩
  .obtain ⟨z,m1,m2⟩:=xld r w (by simpa using hw);obtain⟨j,e,_,_,he⟩:=get z m1;rw[xrd m2,xnv I he];exact (xm0 I he h1 (A:=X.A.in1) (by show X.A.units+1+m+n<cLine; omega) m2 rx).1
  .rw [show its.toArray.any (eU (eOf X.K H m d))=its.any (eU (eOf X.K H m d)) by simp,xo7 r,xoe (g:=fun z=>dEq z d) hl fun j z e g1 g2=>xnv I (k j z e g1 g2)];exact q
end
end L2
namespace L2
open PySem PySem.Spec PyProof.Rows XL PySem.W
def Tp (H H':Hp):Prop:=∀ b xs,H b=some (.tup xs)->H' b=some (.tup xs)
theorem Same.tp {H H':Hp} (s:Same H H'):Tp H H':=fun b xs e=>s b _ e
theorem Tp.trans {H H' H'':Hp} (s:Tp H H') (r:Tp H' H''):Tp H H'':=fun b xs e=>r b xs (s b xs e)
theorem xhg {H:Hp}{l:Addr}{xs ys:List V} (h:H l=some (.lst xs)):Tp H (upd H l (.lst ys)):=fun b zs e=>by
 rw[xh (fun z=>by rw[z,h] at e; cases e)];exact e
section
variable {J:It}{n:Nat}{g:TG}{σ:St}{fr:List Nat}{tc:TT}{te:TE}{l:Addr}{H1:Hp}{Q:VK}
theorem xl6 (len:Nat) (hlen:len<sizeLine) (hl:H1 l=none) (x:Nat->V) (hgo:∀ i H,i<len->Same H1 H->J.go i H) (hy:∀ i H v H',i<len->Same H1 H->J.yld i H v H'->H'=H/\v=x i) (hst:∀ H,Same H1 H->J.stop len H)
    (p:Nat->Bool) (F:Nat->V->Hp->Prop) (stab:∀ i y H H',Tp H H'->F i y H->F i y H')
    (step:∀ i H2,i<len->Same H1 H2->∀(N:V->Hp->Prop) (M:Hp->Prop),(∀ y H',Same H2 H'->p i=true->F i y H'->N y H')->(∀ H',Same H2 H'->p i=false->M H') ->
      g (x i) (blk0 σ fr n) H2 fun σ' H3=>tc σ' H3 fun b H4=>if b=true then te σ' H4 N else M H4)
    (fin:∀ ys H2,Same H1 H2->H2 l=some (.lst ys)->ys.length=((Z3 len).filter p).length->(∀(j:Nat) (y:V) (i:Nat),ys[j]?=some y->((Z3 len).filter p)[j]?=some i->F i y H2)->Q (.ref l) H2):xc4 J n g σ fr tc te l H1 Q:=by
  refine xde len (fun i ys H2=>Same H1 H2/\H2 l=some (.lst ys)/\ys.length=((Z3 i).filter p).length/\∀(j:Nat) (y:V) (k:Nat),ys[j]?=some y->((Z3 i).filter p)[j]?=some k->F k y H2) ?_ ?_ ?_ ?_
  . refine⟨fun b u e=>?_,xf,rfl,fun j y k e=>by simp at e⟩
    rw[xh (xi e hl)];exact e
  . rintro i ys H2 lt ⟨s,_⟩
    exact hgo i H2 lt s
  . rintro i ys H2 v H3 lt ⟨s,el,ly,f⟩ yl N hN
    obtain⟨rfl,rfl⟩:=hy i H2 v H3 lt s yl;refine step i H3 lt s _ _ (fun y H' s' pt hf=>?_) (fun H' s' pf=>?_)
    . have el':=s' _ _ el
      have ylen:ys.length<sizeLine:=by
        rw[ly];refine Z9 (QU _ _) ?_;rw[Zt];omega
      refine⟨el',ylen,hN _ _ ⟨fun b u e=>?_,xf,?_,fun j z k e1 e2=>?_⟩⟩
      . rw[xh (xi e hl)]
        exact s' _ _ (s _ _ e)
      . rw[JS,Jw,Zp,Zp,ly,Ji pt]
        rfl
      . rw[JS,Jw,Ji pt] at e2
        by_cases c:j<ys.length
        . rw[Jj c] at e1
          rw[Jj (by omega)] at e2;exact stab _ _ _ _ ((Same.tp s').trans (xhg el')) (f j z k e1 e2)
        . rw[Js (by omega)] at e1 e2
          rw[<- ly] at e2;cases hj:j-ys.length with
          | zero =>
            rw[hj] at e1 e2;simp at e1 e2;subst e1 e2;exact stab _ _ _ _ (xhg el') hf
          | succ m =>
            rw[hj] at e1;simp at e1
    . refine hN _ _ ⟨s.trans s',s' _ _ el,?_,fun j z k e1 e2=>?_⟩
      . rw[JS,Jw,Jr (by simp[pf])]
        simpa using ly
      . rw[JS,Jw,Jr (by simp[pf])] at e2
        simp only[List.filter_nil,JG] at e2;exact stab _ _ _ _ (Same.tp s') (f j z k e1 e2)
  . rintro ys H2 ⟨s,el,ly,f⟩
    exact⟨hst _ s,fin ys H2 s el ly f⟩
theorem xhe {K:Zd}{a:Addr}{xs:List V} (hs:SqL K H1 a xs) (hlen:xs.length<sizeLine) (hl:H1 l=none) (p:Nat->Bool) (F:Nat->V->Hp->Prop) (stab:∀ i y H H',Tp H H'->F i y H->F i y H')
    (step:∀(i:Nat) (x:V) (H2:Hp),xs[i]?=some x->Same H1 H2->∀(N:V->Hp->Prop) (M:Hp->Prop),(∀ y H',Same H2 H'->p i=true->F i y H'->N y H')->(∀ H',Same H2 H'->p i=false->M H') ->
      g x (blk0 σ fr n) H2 fun σ' H3=>tc σ' H3 fun b H4=>if b=true then te σ' H4 N else M H4)
    (fin:∀ ys H2,Same H1 H2->H2 l=some (.lst ys)->ys.length=((Z3 xs.length).filter p).length->(∀(j:Nat) (y:V) (i:Nat),ys[j]?=some y->((Z3 xs.length).filter p)[j]?=some i->F i y H2)->Q (.ref l) H2):xc4 (Itl K a) n g σ fr tc te l H1 Q:=by
  refine xl6 xs.length hlen hl (fun i=>xs.getD i .non) (fun i H lt s=>⟨xs,xs[i],Same.seqL s hs,Zf lt⟩) (fun i H v H' lt s y=>?_) (fun H s=>⟨xs,Same.seqL s hs,Zi _⟩) p F stab (fun i H2 lt s N M h1 h2=>?_) fin
  . obtain⟨e,f⟩:=y
    have z:=f xs (Same.seqL s hs);refine⟨e,?_⟩;simp[z]
  . have e:xs[i]?=some (xs.getD i .non):=by simp[Zf lt]
    exact step i _ H2 e s N M h1 h2
theorem xgv {i:Nat}{x:V}{σ0:St}{H2:Hp}{N:V->Hp->Prop}{M:Hp->Prop}{g:TG}{te:TE} (h:g x σ0 H2 fun σ' H3=>te σ' H3 N):g x σ0 H2 fun σ' H3=>xdp σ' H3 fun b H4=>if b=true then te σ' H4 N else M H4:=by
 have e:(fun (σ':St) (H3:Hp)=>xdp σ' H3 fun b H4=>if b=true then te σ' H4 N else M H4)=fun σ' H3=>te σ' H3 N:=by
  funext σ' H3;show (if true=true then te σ' H3 N else M H3)=te σ' H3 N;rw[if_pos rfl]
 rw[e];exact h
theorem xd0 (m:Nat):(Z3 m).filter (fun _=>true)=Z3 m:=by simp
theorem xem {K:Zd}{a:Addr}{xs:List V} (hs:SqL K H1 a xs) (hlen:xs.length<sizeLine) (hl:H1 l=none) (F:Nat->V->Hp->Prop) (stab:∀ i y H H',Tp H H'->F i y H->F i y H')
    (step:∀(i:Nat) (x:V) (H2:Hp),xs[i]?=some x->Same H1 H2->∀(N:V->Hp->Prop),(∀ y H',Same H2 H'->F i y H'->N y H')->g x (blk0 σ fr n) H2 fun σ' H3=>te σ' H3 N)
    (fin:∀ ys H2,Same H1 H2->H2 l=some (.lst ys)->ys.length=xs.length->(∀(i:Nat) (y:V),ys[i]?=some y->F i y H2)->Q (.ref l) H2):xc4 (Itl K a) n g σ fr xdp te l H1 Q:=by
  refine xhe hs hlen hl (fun _=>true) F stab (fun i x H2 hx s N M h1 h2=>xgv (i:=i) (step i x H2 hx s N fun y H' s' f=>h1 y H' s' rfl f)) (fun ys H2 s e ly f=>?_);rw[xd0,Zt] at ly;refine fin ys H2 s e ly fun i y hy=>f i y i hy ?_;rw[xd0,Jg (by have:=(Zj.mp hy).1; omega)]
theorem xk2 {lo:Int}{m:Nat} (hlen:m<sizeLine) (hl:H1 l=none) (p:Nat->Bool) (F:Nat->V->Hp->Prop) (stab:∀ i y H H',Tp H H'->F i y H->F i y H')
    (step:∀(i:Nat) H2,i<m->Same H1 H2->∀(N:V->Hp->Prop) (M:Hp->Prop),(∀ y H',Same H2 H'->p i=true->F i y H'->N y H')->(∀ H',Same H2 H'->p i=false->M H') ->
      g (.int (lo+i)) (blk0 σ fr n) H2 fun σ' H3=>tc σ' H3 fun b H4=>if b=true then te σ' H4 N else M H4)
    (fin:∀ ys H2,Same H1 H2->H2 l=some (.lst ys)->ys.length=((Z3 m).filter p).length->(∀(j:Nat) (y:V) (i:Nat),ys[j]?=some y->((Z3 m).filter p)[j]?=some i->F i y H2)->Q (.ref l) H2):xc4 (Itr lo m) n g σ fr tc te l H1 Q:=by
  exact xl6 m hlen hl (fun i=>.int (lo+i)) (fun i H lt s=>lt) (fun i H v H' lt s y=>y) (fun H s=>Zi _) p F stab (fun i H2 lt s N M h1 h2=>step i H2 lt s N M h1 h2) fin
theorem xfg {lo:Int}{m:Nat} (hlen:m<sizeLine) (hl:H1 l=none) (F:Nat->V->Hp->Prop) (stab:∀ i y H H',Tp H H'->F i y H->F i y H')
    (step:∀(i:Nat) H2,i<m->Same H1 H2->∀(N:V->Hp->Prop),(∀ y H',Same H2 H'->F i y H'->N y H')->g (.int (lo+i)) (blk0 σ fr n) H2 fun σ' H3=>te σ' H3 N)
    (fin:∀ ys H2,Same H1 H2->H2 l=some (.lst ys)->ys.length=m->(∀(i:Nat) (y:V),ys[i]?=some y->F i y H2)->Q (.ref l) H2):xc4 (Itr lo m) n g σ fr xdp te l H1 Q:=by
  refine xk2 hlen hl (fun _=>true) F stab (fun i H2 hi s N M h1 h2=>xgv (i:=i) (step i H2 hi s N fun y H' s' f=>h1 y H' s' rfl f)) (fun ys H2 s e ly f=>?_);rw[xd0,Zt] at ly;refine fin ys H2 s e ly fun i y hy=>f i y i hy ?_;rw[xd0,Jg (by have:=(Zj.mp hy).1; omega)]
end
theorem xrc {α:Type}{f:α->V}:∀{as:List α}{ys:List V},ys.length=as.length->(∀(i:Nat) (y:V) (a:α),ys[i]?=some y->as[i]?=some a->y=f a)->ys=as.map f
 | [],[],_,_=>rfl
 | [],_::_,h,_=>by cases h
 | _::_,[],h,_=>by cases h
 | a::as,y::ys,h,k=>by
  rw[Z2,k 0 y a rfl rfl,xrc (as:=as) (ys:=ys) (by simpa using h) fun i y' a' h1 h2=>k (i+1) y' a' (by simpa using h1) (by simpa using h2)]
theorem xln {α:Type} (q:α->Bool):∀(as:List α) (p:Nat->Bool),(∀(i:Nat) (a:α),as[i]?=some a->p i=q a)->((Z3 as.length).filter p).filterMap (fun i=>as[i]?)=as.filter q
 | [],_,_=>rfl
 | a::as,p,h=>by
  have ih:=xln q as (fun i=>p (i+1)) fun i b hb=>h (i+1) b (by simpa using hb);rw[ZL,List.range_succ_eq_map];have e:((Z3 as.length).map Nat.succ).filter p=((Z3 as.length).filter (fun i=>p (i+1))).map Nat.succ:=by
   rw[List.filter_map];rfl
  have h0:=h 0 a rfl;by_cases c:q a=true
  .rw [Ji (by rw[h0]; exact c),Ji c,e,Y0];simp only[List.getElem?_cons_zero,Ws];rw[<- ih];rfl
  .rw [Jr (by rw[h0]; exact c),Jr c,e,Ws,<- ih];rfl
theorem xsc {α:Type} (q:α->Bool) {as:List α}{p:Nat->Bool} (h:∀(i:Nat) (a:α),as[i]?=some a->p i=q a):((Z3 as.length).filter p).length=(as.filter q).length/\∀ j i:Nat,((Z3 as.length).filter p)[j]?=some i->as[i]?=(as.filter q)[j]?:=by
 rw[<- xln q as p h];have all:∀ i∈(Z3 as.length).filter p,∃ a,as[i]?=some a:=fun i hi=>by
  have:=ZN.mp (ZJ.mp hi).1;exact⟨as[i],Zf this⟩
 generalize (Z3 as.length).filter p=is at all
 induction is with
 | nil=>exact⟨rfl,fun j i e=>by simp at e⟩
 | cons i is ih =>
  obtain⟨a,ha⟩:=all i Zz;obtain⟨h1,h2⟩:=ih fun k hk=>all k (Zy _ hk)
  rw[Y0,ha];refine⟨by simp[h1],fun j k e=>?_⟩;cases j with
  | zero =>
   simp at e;subst e;exact ha
  | succ m=>exact h2 m k (by simpa using e)
end L2
namespace XL
open PySem PySem.MeetsSeq PySem.MeetsSeq2 PySem.MeetsSeq3 PySem.SeqAt
open AutoSeq1 (wpAny_loadPart')
end XL
namespace L2
open PySem PySem.Spec PyProof.Rows XL PySem.W
def xo0:Expr->Bool
 | .Starred _ _=>false
 | _=>true
theorem xmj {e:Expr}{es:List Expr}{env:Env} (h:xo0 e=true):starEach (e::es) env=(false,eval e env)::starEach es env:=by
 cases e<;>first|rfl|cases h
theorem xz {X:Cx}{e:Expr}{es:List Expr}{te:TE}{t:TA} (ha:PE X e te) (hr:PA X es t) (hn:xo0 e=true):PA X (e::es) (xf7 te t):=xb ha hr (xmj hn)
end L2
namespace XL
open PySem L2
open PyProof.Rows (assign_Tuple)
section
variable {prog:Program}{w:World}{A:Around}{E:Value->Shared->Prop}
theorem xkt {it t:Addr}{its:Array Value} (ne:t≠it):∀(n i:Nat) (s:Shared) (Q:List Value->Shared->Prop),s.heap.IsListIter it t i->s.heap.IsList t its->i+n<=its.size ->
    (∀ h',h'.IsListIter it t (i+n)->ZI it s.heap h'->Q ((its.toList.drop i).take n) { s with heap:=h' })->wpAny (model prog w) A (draw (.ref it) n) Q E s
  | 0,i,s,Q,hit,_,_,q=>by
    show wpAny _ _ (pure []) Q E s;exact Zk (by simpa using q s.heap hit (ZI.refl ..))
  | n+1,i,s,Q,hit,ht,le,q=>by
    have lt:i<its.size:=by omega
    show wpAny _ _ (pyNext (.ref it)>>=_) Q E s;refine Zb (QB hit ht (x:=its[i]) (by simp[lt]) fun h1 i1 s1=>?_);refine Zb (Jf (xkt ne n (i+1) _ _ i1 (ht.extBut s1.extBut ne) (by omega) fun h2 i2 s2=>Zk ?_));have e:its.toList.drop i=its[i]::its.toList.drop (i+1):=by simp[Qn,lt]
    have z:=q h2 (by rw[show i+(n+1)=i+1+n by omega]; exact i2) (s1.trans s2);rw[e,List.take_succ_cons] at z;exact z
theorem xgf {env:Env}{es:List Expr}{k}{pos:Pos}{t:Addr}{its:Array Value}{s:Shared}{Q:Unit->Shared->Prop} (hh:A.handled=none) (ht:s.heap.IsList t its)
    (hn:(assignEach es env).length=its.size) (hs:(assignEach es env).findIdx? (·.1)=none)
    (h:∀ h',Heap.ExtBut s.heap.objs.size s.heap h'->wpAny (model prog w) A (assignInOrder ((assignEach es env).map (·.2)) its.toList) Q E { s with heap:=h' }) :
    wpAny (model prog w) A (assign (.Tuple es k pos) env (.ref t)) Q E s:=by
  rw[assign_Tuple];refine Zb (Qt ?_);unfold unpack;rw[hn,hs];refine Zb (Jf ?_);have ne:t≠s.heap.objs.size:=by
    obtain⟨o,e,_⟩:=ht;exact ZD (Zq e)
  unfold unpackItems;refine Zb ?_;unfold notIterableAtAll;refine Zb (Y3 ht.typeIs slot_list_iter.lookup ?_);refine Zk ?_;simp only[ZX,if_false];refine Zb (Jf (wpAny_pyIter_list ht ?_));refine Zb (Jf (xkt ne its.size 0 _ _ ⟨_,Zx _ rfl,rfl,rfl⟩ (ht.push _) (by omega) fun h1 i1 s1=>?_));rw[show List.take its.size (List.drop 0 its.toList)=its.toList by rw[Wd]; exact Jk (by simp)];rw[if_neg (by simp)];have t1:h1.IsList t its:=(ht.push _).extBut s1.extBut ne;refine Zb (Jf (QM hh i1 t1 (by simp) fun h2 e2=>?_));simp only[Option.isSome_none,ZX,if_false];exact Zk (h h2 fun b o hb e=>e2 b o hb (s1.extBut b o hb (Zg _ e)))
end
section
variable {X:Cx}{pos:Pos}
def xvt (K:Zd) (n:Nat) (t:TGs):TG:=fun v σ H Q=>∃ a xs,v=.ref a/\SqL K H a xs/\xs.length=n/\t xs σ H Q
theorem xr5 {es:List Expr}{k:Nat}{t:TGs}{n:Nat} (hc:X.calm=true) (h:PGs X es t)
    (hn:(assignEach es X.env).length=n:=by rfl) (hst:(assignEach es X.env).findIdx? (·.1)=none:=by rfl):PG X (.Tuple es k pos) (xvt X.K n t):=by
  intro pins s σ H v u Q I r hw;obtain⟨a,xs,e1,hq,hl,hw⟩:=hw;subst e1;cases r;obtain⟨its,rv,pl,hz⟩:=I.list hq;refine xgf (I.ok.hd hc) pl.isList (by simp[hn,<- hl,rv.length]) hst fun h' hx=>?_;have I1:Inv X pins σ H { s with heap:=h' }:=I.kept (t':=s.toks) fun b o e=>hx b o (ZD (Zq e)) e;exact h pins _ σ H xs _ Q I1 (by simpa using rv) hw
end
end XL
namespace L2
open PySem PySem.Spec PyProof.Rows XL PySem.W
end L2
namespace L2
open PySem PySem.Spec PyProof.Rows XL PySem.W PySem.Builtin PySem.Builtin.Str
theorem xda {a b:Str} (h:a.cps.toList=b.cps.toList):a=b:=by
 obtain⟨a⟩:=a;obtain⟨b⟩:=b;exact congrArg Str.mk (Array.toList_inj.mp h)
end L2
namespace L2
open PySem PySem.Spec PyProof.Rows XL
open AutoSeq1 (wpAny_loadPart')
end L2
namespace L2
open PySem PySem.Spec PyProof.Rows XL
theorem xmm:typeLookup (.type "list_reverseiterator") "__len__"=pure none:=by rw[typeLookup_type,QO]; kernel_rfl
theorem xqa:typeLookup (.type "list_reverseiterator") "__length_hint__"=pure (some (.builtin "list_reverseiterator.__length_hint__")):=by rw[typeLookup_type,QO]; kernel_rfl
section
variable {prog:Program}{w:World}{A:Around}{E:Value->Shared->Prop}{s:Shared}
theorem xpd {I l:Addr}{i:Int}{Q:Bool->Shared->Prop} (hit:s.heap.IsRevIter I l i) (h:Q false s):wpAny (model prog w) A (Builtin.List.listLengthHint (.ref I)) Q E s:=by
 unfold Builtin.List.listLengthHint;refine Zb (Y3 hit.typeIs xmm ?_);show wpAny _ _ (specialOf (Zm I) (Zc "__length_hint__")>>=_) _ _ _;refine Zb (Y3 hit.typeIs xqa ?_);generalize hid:("list_reverseiterator.__length_hint__":String)=id0
 wp_delta
 rw[show splitId id0=some ("list_reverseiterator", "__length_hint__") from by subst hid; decide +kernel];subst hid;refine Zb (Q1 (T:="list_reverseiterator") (b:=true) hit.typeIs (by rw[isSubtype_type]; kernel_rfl) ?_);refine wpAny_ite_split (fun hab=>absurd hab (by decide)) (fun _=>?_);refine wpAny_ite_split (fun _=>?_) (fun hab=>absurd (by decide +kernel) hab);refine wpAny_ite_split (fun hab=>absurd hab (by decide +kernel)) (fun _=>?_);exact Zk h
theorem xmr {R:Result->Shared->Prop} (hh:A.handled=none) {I l:Addr}{items:Array Value} (hne:l≠I) (S:Addr) (hSI:S≠I) (hSl:S≠l) (res:Value) (c₀:Nat) (hit:s.heap.IsRevIter I l ((items.size:Int)-1)) (hl:s.heap.IsList l items)
    (hS:s.heap.get? S=some { cls:=.type "list",data:=.seq #[] c₀ }) (hn:items.size<=sizeLine)
    (hR:∀ h' tk acc' c',(∀ b o,b≠S->b≠I->s.heap.get? b=some o->h'.get? b=some o)->h'.get? S=some { cls:=.type "list",dict:=none,data:=.seq acc' c',slots:=#[] } ->
      ItemsOf (fun i v=>items[items.size-1-i]?=some v) acc' items.size->R (.ok (.ret res)) { s with heap:=h',toks:=tk }) :
    wpAny (model prog w) A.in1 (Builtin.List.listExtendWith (.ref S) (.ref I) res)
      (fun fin s'=>match fin with|.done f=>R (.ok f) s'|.again c'=>c'.quiet=true/\codeAny (model prog w) A c' R s') (fun e s'=>R (.error e) s') s:=by
  have hSf:S∉[I,l]:=by simp[hSI,hSl]
  have W:=(Walks.listRev (prog:=prog) (w:=w) (A:=A.in1) hh I l hne items).toS;unfold Builtin.List.listExtendWith;refine Zb (Yt hit.typeIs ?_);have h1:Builtin.List.listSameRef (.ref S) (.ref I)=false:=by simp[Builtin.List.listSameRef,hSI]
  have h2:(Q8 "list_reverseiterator" == Q8 "list")=false:=by decide
  have h3:(Q8 "list_reverseiterator" == Q8 "tuple")=false:=by decide
  simp only[h1,h2,h3,Y2,ZX,if_false];refine Zb (Wf hit ?_);refine Zb (Jf (xpd hit ?_));rw[if_neg (by decide)];have hit0:s.heap.IsRevIter I l ((items.size:Int)-1-((0:Nat):Int)):=by simpa using hit
  refine Zk ⟨plainId_quiet F.plain_extend_loop _,codeAny_extend_loopS W hn S hSf res items.size 0 _ #[] c₀ rfl (Jb _) ⟨Jb _,hit0,hl⟩ hS (ItemsOf.nil _) fun s' acc' c' hm hS' hacc=>?_⟩;rw[Moved.eq_with hm];refine hR s'.heap s'.toks acc' c' (fun b o hb hb2 e=>hm.heap b o (fun hmem=>?_) e) hS' hacc;rcases Z1.mp hmem with e'|hmem
  . exact hb e'
  . exact hb2 (Zv.mp hmem)
theorem xjc {Q:Value->Shared->Prop} (hh:A.handled=none) {I l:Addr}{items:Array Value} (hne:l≠I) (hit:s.heap.IsRevIter I l ((items.size:Int)-1)) (hl:s.heap.IsList l items) (hn:items.size<=sizeLine)
    (hQ:∀ h' tk acc' c',(∀ b o,b≠I->s.heap.get? b=some o->h'.get? b=some o) ->
      h'.get? s.heap.objs.size=some { cls:=.type "list",dict:=none,data:=.seq acc' c',slots:=#[] }->ItemsOf (fun i v=>items[items.size-1-i]?=some v) acc' items.size->Q (.ref s.heap.objs.size) { s with heap:=h',toks:=tk }) :
    wpAny (model prog w) A (call (.type "list") [.ref I]) Q E s:=by
  refine callType_codes (Q₁:=fun obj s₁=>obj=.ref s.heap.objs.size/\s₁={ s with heap:=s.heap.push { cls:=.type "list",data:=.seq #[] } }) F.called_list (F.typeCall_list_1 _) F.entry_list_init
    (code_list_new _ ⟨rfl,rfl⟩) fun obj s₁ h₁=>?_
  obtain⟨rfl,rfl⟩:=h₁;have hS:(s.heap.push { cls:=.type "list",data:=.seq #[] }).get? s.heap.objs.size=some { cls:=.type "list",data:=.seq #[] }:=Zx _ rfl;have iI:I<s.heap.objs.size:=by obtain⟨o,e,_⟩:=hit; exact Zq e
  have il:l<s.heap.objs.size:=by obtain⟨o,e,_⟩:=hl; exact Zq e
  refine⟨⟨_,hS,rfl⟩,F.args_list_init_2 _ _,?_⟩;show wpAny _ _ (do let old <- Builtin.List.listItems (.ref s.heap.objs.size); Builtin.List.listUpdate (.ref s.heap.objs.size) (fun _=>#[]); letGo old.toList.reverse; Builtin.List.listExtendWith (.ref s.heap.objs.size) (.ref I) .none) _ _ _;refine Zb ?_;unfold Builtin.List.listItems;refine Zb (wpAny_seqItems hS rfl (Zk ?_));show wpAny _ _ (updateSeq s.heap.objs.size (fun _=>#[])>>=fun _=>letGo (#[]:Array Value).toList.reverse>>=fun _=>Builtin.List.listExtendWith (.ref s.heap.objs.size) (.ref I) .none) _ _ _;refine Zb (wpAny_updateSeq hS rfl ?_);have hS₂:=ZM (JO (fun _=>(#[]:Array Value))) hS rfl;have oth:∀ b o,s.heap.get? b=some o->((s.heap.push { cls:=.type "list",data:=.seq #[] }).update s.heap.objs.size (JO (fun _=>(#[]:Array Value)))).get? b=some o :=
    fun b o e=>(Jl _ _ (Yd (Zq e))).trans (Zg _ e)
  refine Zb (wpAny_letGo ?_);refine xmr (A:=A.in1) hh hne s.heap.objs.size (Yd iI) (Yd il) .none _ (hit.at (oth I)) (hl.at (oth l)) hS₂ hn fun h' tk acc' c' hk hS' hacc=>?_;exact⟨rfl,hQ h' tk acc' c' (fun b o hb e=>hk b o (ZD (Zq e)) hb (oth b o e)) hS' hacc⟩
end
def xu9 (K:Zd) (ta:TA):TE:=fun σ H Q=>ta σ H fun vs H1=>∃ a xs,vs=[.ref a]/\SqL K H1 a xs/\∀ l,H1 l=none->Q (.ref l) (upd H1 l (.lst xs.reverse))
section
variable {X:Cx}
theorem xmi {a:Expr}{ta:TA}{p p2 pos pos2:Pos} (hc:X.calm=true) (hg:Gl X "list") (hm:X.mg "list"=none) (hg2:Gl X "reversed") (hm2:X.mg "reversed"=none) (ha:PA X [a] ta)
    (hs:starEach [a] X.env=[(false,eval a X.env)]:=by rfl) (hs3:starEach [.Call (.Name "reversed" p2) [a] [] pos2] X.env=[(false,eval (.Call (.Name "reversed" p2) [a] [] pos2) X.env)]:=by rfl) :
    PE X (.Call (.Name "list" p) [.Call (.Name "reversed" p2) [a] [] pos2] [] pos) (xu9 X.K ta):=by
  intro pins s σ H Q I h;refine Ye (xcl I hg hm PyProof.Rows.Boot.«list» ?_);refine ZS ?_ (by rw[hs3]; rfl) rfl;rw[hs3];show wpAny _ _ (spliced ((false,eval (.Call (.Name "reversed" p2) [a] [] pos2) X.env)::backTo pos [])) _ _ s;refine Qm ?_;refine Call_ (xcl I hg2 hm2 PyProof.Rows.Boot.«reversed» (ZS (thn (ha pos2 pins s σ H _ I h) fun us s1 ⟨vs,H1,I1,r1,q1⟩=>?_) hs rfl));obtain⟨l,xs,e,hq,q⟩:=q1;subst e;obtain⟨u,rfl,ru⟩:=xbx r1;obtain rfl:u=Zm l:=ru;obtain⟨its,rv,p,hz⟩:=I1.list hq;have hlen:=rv.length;refine call_reversed_list p.isList ?_;refine Calls.spliced_nil ?_;have I2:Inv X pins σ H1 { s1 with heap:=s1.heap.push (revObj l ((its.toArray.size:Int)-1)) }:=I1.kept (t':=s1.toks) fun b o e=>Zg _ e;have hit:Heap.IsRevIter (s1.heap.push (revObj l ((its.toArray.size:Int)-1))) s1.heap.objs.size l ((its.toArray.size:Int)-1):=⟨_,Zx _ rfl,rfl,rfl⟩
  have hll:l<s1.heap.objs.size:=by obtain⟨o,e,_⟩:=p.isList; exact Zq e
  have hl2:(s1.heap.push (revObj l ((its.toArray.size:Int)-1))).IsList l its.toArray:=p.isList.at fun o e=>Zg _ e;have f2:=I1.fpOk (Zi s1.heap.objs.size) (I1.hok.fresh (Zi _));generalize hs2:({ s1 with heap:=s1.heap.push (revObj l ((its.toArray.size:Int)-1)) }:Shared)=s2 at I2;have hit':s2.heap.IsRevIter s1.heap.objs.size l ((its.toArray.size:Int)-1):=by rw[<- hs2]; exact hit
  have hl2':s2.heap.IsList l its.toArray:=by rw[<- hs2]; exact hl2
  refine xjc (I.ok.hd hc) (ZD hll) hit' hl2' (by simp only[Z4]; omega) fun h' tk acc' c' hk hS' hacc=>?_;have I3:Inv X pins σ H1 { s2 with heap:=h',toks:=tk }:=I2.turned (t':=tk) (it:=s1.heap.objs.size) (fun b o hb e=>hk b o hb e) (I1.hok.fresh (Zi _)) f2.2.1 f2.2.2.2.1 f2.2.2.2.2.1 f2.2.2.2.2.2;have z2:s1.heap.objs.size<s2.heap.objs.size:=by obtain⟨o,e,_⟩:=hit'; exact Zq e
  have e1:acc'.toList.length=xs.reverse.length:=by rw[JZ,hlen]; simpa using hacc.1
  obtain⟨n0,nL,nC,nP⟩:=I2.size_lt (Zi s2.heap.objs.size);refine⟨.ref s2.heap.objs.size,_,I3.adopt n0 I2.sz nL nC nP (show xao X.prog X.w _ h' _ (.lst xs.reverse) from ⟨by rw[JZ]; exact hz,acc'.toList,c',xgc e1 fun j y u ey eu=>?_,by simpa using hS'⟩),rfl,q _ n0⟩;have eu':acc'[j]?=some u:=by simpa using eu
  have lt:j<xs.length:=by
    have:=(Zj.mp ey).1;simpa using this
  have h2:=hacc.2 j u eu';rw[List.getElem?_reverse lt] at ey;obtain⟨u',hu',ru'⟩:=rv.get ey;have h2':its[its.length-1-j]?=some u:=by simpa using h2
  rw[<- hlen,hu'] at h2';cases h2';exact ru'
end
end L2
namespace L2
open PySem PySem.Spec PyProof.Rows XL
open AutoSeq1 (wpAny_loadPart')
end L2
namespace L2
open PySem PySem.Spec PyProof.Rows XL
end L2
namespace L2
open PySem PySem.Spec PyProof.Rows XL PySem.W PySem.Builtin PySem.Builtin.Str
theorem xbv (a b:Str):(a++b).cps.toList=a.cps.toList++b.cps.toList:=by
 show (a.cps++b.cps).toList=_;simp
theorem xf2 (a:Str):a.length=a.cps.toList.length:=by simp[YS]
theorem xku (s k:Nat):∀(ws:List Str) (a:Nat),(∀ w∈ws,w.length<=k)->ws.foldl (fun n w=>n+w.length+s) a<=a+ws.length*(k+s)
 | [],a,_=>by simp
 | w::ws,a,h=>by
  have h1:=h w Zz;have ih:=xku s k ws (a+w.length+s) fun v hv=>h v (Zy _ hv);rw[List.foldl_cons,ZL,Nat.succ_mul];omega
theorem xl2:∀{ws:List Str}{its:List Value},Vals (ws.map V.str) its->∃ l:List (Str × Tok),its=strValues l/\l.map (·.1)=ws
 | [],_,.nil=>⟨[],rfl,rfl⟩
 | w::ws,_,.cons r rs=>by
  obtain⟨t,rfl⟩:=r;obtain⟨l,e1,e2⟩:=xl2 rs;exact⟨(w,t)::l,by rw[e1]; rfl,by rw[<- e2]; rfl⟩
theorem xi2 {sep:Str}{k:Nat}:∀{ws:List Str},(∀ p∈ws,p.length<=k)->(YE sep ws).length<=ws.length*(k+sep.length)
 | [],_=>by show (YE sep []).length<=0*(k+sep.length); rw[Nat.zero_mul]; exact Nat.le_of_eq rfl
 | [a],h=>by
  have:=h a Zz;show a.length<=1*(k+sep.length);omega
 | a::b::r,h=>by
  have h1:=h a Zz;have ih:=xi2 (sep:=sep) (k:=k) (ws:=b::r) fun p hp=>h p (Zy _ hp);have e:(YE sep (a::b::r)).length=a.length+sep.length+(YE sep (b::r)).length:=by
   show (a++sep++YE sep (b::r)).length=_;rw[xf2,xbv,xbv,Zp,Zp,<- xf2,<- xf2,<- xf2]
  rw[e,ZL,Nat.succ_mul];omega
def xu1:V->List V->Hp->VK->Prop:=fun x xs H Q=>∃(sep:Str) (l:Addr) (ws:List Str) (k:Nat),x=.str sep/\xs=[.ref l]/\H l=some (.lst (ws.map V.str))/\(∀ w∈ws,w.length<=k)/\ws.length*(k+sep.length)<=sizeLine/\Q (.str (YE sep ws)) H
section
variable {X:Cx}
theorem xl1:MtR X "str.join" xu1:=by
 intro pins s σ H x xs v us Q I rx rs h;obtain⟨sep,l,ws,k,rfl,rfl,hl,hk,hz,q⟩:=h;obtain⟨t,rfl⟩:=rx;obtain⟨u,rfl,ru⟩:=xbx rs;obtain rfl:u=Zm l:=ru;obtain⟨_,its,n,vs,e⟩:=I.hok _ _ hl;obtain⟨ps,rfl,rfl⟩:=xl2 vs;have fl:=xku sep.length k (ps.map (·.1)) 0 hk;have hl2:tooLong ((ps.map (·.1)).toArray.foldl (·+·.length+sep.length) 0)=false:=by
  unfold tooLong;rw[List.foldl_toArray];exact decide_eq_false (by omega)
 refine Wq F.slot_str_join (typeIs_str s sep t) F.entry_str_join (F.args_str_join_2 _ _) (meets_str_join_list sep t l ps hl2) ⟨⟨_,e,rfl,n,rfl⟩,?_⟩;have jz:=xi2 (sep:=sep) hk;have jl:(glued sep (ps.map (·.1))).length<=sizeLine:=by
  rw[QP];exact Zs jz hz
 rw[<- QP] at q
 match ps,jl,q with
 | [],jl,q=>exact⟨jl,.str _,H,I.tok _,⟨_,rfl⟩,q⟩
 | [p],jl,q =>
  rw[QP] at q;exact⟨.str p.1,H,I,⟨_,rfl⟩,q⟩
 | p::p2::r,jl,q=>exact⟨jl,.str _,H,I.tok _,⟨_,rfl⟩,q⟩
end
end L2
namespace L2
open PySem PySem.Spec PyProof.Rows XL PySem.W
section
variable {X:Cx}
def sgnL (x:Str):List V:=x.cps.toList.map fun c=>V.str ⟨#[c]⟩
theorem xi9 (hc:X.calm=true):xb1 X (.type "list") (fun xs H Q=>∃ x:Str,xs=[.str x]/\x.length<=1000/\∀ l,H l=none->Q (.ref l) (upd H l (.lst (sgnL x)))):=by
 intro pins s σ H xs us Q I r h;obtain⟨x,rfl,hn,q⟩:=h;obtain⟨u,rfl,t,rfl⟩:=xbx r;refine PySem.call_list_str (I.ok.hd hc) x t (fun h' tk acc' c' kp e it=>?_) (Zs hn (by decide));have len:acc'.toList.length=(sgnL x).length:=by
  rw[sgnL,Za];have:=it.1;simpa using this
 refine⟨.ref s.heap.objs.size,_,I.laid (t':=tk) kp (Zi _) (show xao X.prog X.w _ h' _ (.lst (sgnL x)) from ⟨?_,acc'.toList,c',xgc len fun j y u ey eu=>?_,by simpa using e⟩),rfl,q _ (I.hok.fresh (Zi _))⟩
 .rw [sgnL,Za];have:x.cps.toList.length=x.length:=by simp[YS]
  exact Zs (by omega:_<=1000) (by decide)
 .have eu':acc'[j]?=some u:=by simpa using eu
  obtain⟨c,t2,e1,e2⟩:=it.2 j u eu';rw[sgnL,Zh,Ju,e1] at ey;cases ey;exact⟨t2,e2⟩
end
end L2
namespace L2
open PySem PySem.Spec PyProof.Rows XL PySem.W PySem.Builtin PySem.Builtin.Str
def ofL (l:List Nat):Str:=⟨l.toArray⟩
theorem xar (l:List Nat):(ofL l).cps.toList=l:=by simp[ofL]
section
variable {prog:Program}{w:World}{K:Type} [DecidableEq K] {A:Around}{E:Value->Shared->Prop}{s:Shared}
def xbn (xs more:List (K × Addr × Value)):List (K × Addr × Value):=more.foldl (fun acc x=>storedH acc x.1 x.2.1 x.2.2) xs
theorem xjw (xs more:List (K × Addr × Value)) (i:Nat) (x:K × Addr × Value) (h:more[i]?=some x):xbn xs (more.take (i+1))=storedH (xbn xs (more.take i)) x.1 x.2.1 x.2.2:=by
 simp[xbn,ZT,h,Qr]
theorem xk9 (xs:List (K × Addr × Value)) (k:K) (a:Addr) (v:Value):(storedH xs k a v).length<=xs.length+1:=by
 unfold storedH;split<;>simp
theorem xeo:∀(more xs:List (K × Addr × Value)),(xbn xs more).length<=xs.length+more.length
 | [],xs=>Zi _
 | x::r,xs=>by
  have a:=xeo r (storedH xs x.1 x.2.1 x.2.2);have b:=xk9 xs x.1 x.2.1 x.2.2;show (xbn (storedH xs x.1 x.2.1 x.2.2) r).length<=xs.length+(r.length+1)
  omega
theorem xfj:∀(more xs:List (K × Addr × Value)),((xs++more).map (·.1)).Nodup->xbn xs more=xs++more
 | [],xs,_=>(JG _).symm
 | x::r,xs,h=>by
  have e:storedH xs x.1 x.2.1 x.2.2=xs++[x]:=by
   refine storedH_new (atKey_none_of_get fun j p hj=>?_) x.2.1 x.2.2;rw[Z8,ZU] at h;exact h.2.2 x.1 (Ze.mpr ⟨_,Zo hj,rfl⟩) x.1 (by simp) rfl
  show xbn (storedH xs x.1 x.2.1 x.2.2) r=_;rw[e,xfj r (xs++[x]) (by rw[List.append_assoc]; exact h),List.append_assoc];rfl
theorem xmw {knd:HeapKind prog w K}{d a:Addr}{xs:List (K × Addr × Value)}{k:K}{v:Value}{Q:Unit->Shared->Prop} (hu:knd.room A) (hkey:knd.is s.heap k a) (hm:s.heap.DictOfH knd d xs)
    (hsz:xs.length<=sizeLine) (hQ:∀ h',h'.DictOfH knd d (storedH xs k a v)->ZI d s.heap h'->Q () { s with heap:=h' }) :
    wpAny (model prog w) A (dictSetHashed d (.ref a) (knd.hash k) v) Q E s:=by
  obtain⟨o,es,ep,ho,hc,hd,he,his,hn⟩:=hm;unfold dictSetHashed
  try with_reducible refine Jf ?_
  refine Zb (wpAny_dictFind_heap hu hkey ho hd he his hn (fun hno=>?_) (fun j p hj=>?_))
  . have hnot:k∉xs.map (·.1):=not_mem_keys_of_get hno
    have e:=storedH_new (atKey_none_of_get hno) a v;refine Zb (wpAny_rule (wpAny_updateDictKeys (hz:=by have e:=size_of_entries he; omega) ho hd (hQ _ ⟨_,_,ep+1,ZM _ ho (Wl (YV hd _)),hc.mapDictKeys _,YV hd _,?_,?_,?_⟩ (ZI.update ..))))
    . rw[e]
      simp[he,entryOfKey]
    . rw[e]
      intro x hx;rcases Z5.mp hx with hx|hx
      . exact knd.keeps (his x hx) ho hd (ZI.update ..)
      . rw[Zv.mp hx]
        exact knd.keeps hkey ho hd (ZI.update ..)
    . rw[e,Z8,ZU]
      refine⟨hn,by simp,fun x hx y hy z=>hnot ?_⟩;have hy:y∈[k]:=hy;rw[Zv.mp hy] at z;exact z▸hx
  . have e:=storedH_old (atKey_of_get hn hj) a v
    refine Zb (wpAny_rule (Zb (wpAny_updateDict ho hd (wpAny_point (hQ _ ⟨_,_,ep,ZM _ ho (Wl (Obj.data_mapDict hd _)),hc.mapDict _,Obj.data_mapDict hd _,?_,?_,?_⟩ (ZI.update ..))))))
    . rw[e]
      have:=modify_map_putAt (entryOfKey knd) (fun e:DictEntry=>{ e with val:=v }) k v (fun _ _=>rfl) hn hj;rw[<- he] at this;obtain⟨l⟩:=es;simpa using this
    . rw[e]
      intro x hx;obtain⟨y,hy,rfl⟩:=Ze.mp hx;unfold putAt;split<;>exact knd.keeps (his y hy) ho hd (ZI.update ..)
    . rw[e,keys_map_putAt]
      exact hn
end
section
variable {prog:Program}{w:World}{K:Type} [DecidableEq K] {kk:KeyKind prog w K}{A:Around}{E:Value->Shared->Prop}{s:Shared}
theorem xng {α β:Type} [BEq β] [LawfulBEq β] {f:α->β}:∀{l:List α}{x:α},(l.map f).Nodup->x∈l->(l.filter fun y=>f y == f x).length<=1
 | y::r,x,h,hx=>by
  rw[Z2,Jh] at h;rw[Yw];split
  .rename_i e
   have e:f y=f x:=Qy e;have z:(r.filter fun y=>f y == f x)=[]:=by
    rw[Yf];intro u hu eu;exact h.1 (Ze.mpr ⟨u,hu,(Qy eu).trans e.symm⟩)
   rw[z];exact Zi _
  .rename_i e
   rcases Z1.mp hx with rfl|hx
   .exact absurd (beq_self_eq_true _) e
   .exact xng h.2 hx
theorem xue {nm:String}{o:Addr}{oo:Obj}{es:Array DictEntry}{ep:Nat}{more:List (List K × Addr × Value)}{Q:Array DictEntry->Shared->Prop} (hoo:s.heap.get? o=some oo) (hd:oo.data=.dict es ep)
    (he:es.toList=more.map (entryOfKey (tupleKind kk))) (his:∀ x∈more,(tupleKind kk).is s.heap x.1 x.2.1) (hh:(more.map fun x=>(tupleKind kk).hash x.1).Nodup) (h:Q es s) :
    wpAny (model prog w) A (Builtin.Dict.entriesForEmpty nm o) Q E s:=by
  unfold Builtin.Dict.entriesForEmpty;refine Zb (Jp hoo hd ?_);refine Zb ?_;rw[<- Array.forIn_toList];refine wpAny_forIn_list _ (fun rest _ s'=>s'=s/\∀ e∈rest,e∈es.toList) _ ?_ ?_ _ _ ⟨rfl,fun e z=>z⟩
  . rintro e rest b s' ⟨rfl,mem⟩
    have me:=mem e (Zz ..);rw[he] at me;obtain⟨x,hx,rfl⟩:=Ze.mp me;obtain⟨ox,its,n,h1,h2,h3,h4⟩:=his x hx;have one:¬ (es.filter (·.hash == (entryOfKey (tupleKind kk) x).hash)).size>1:=by
      rw[<- J7,Array.toList_filter,he];have z:=xng hh hx;rw[List.filter_map,Za];exact Wr.mpr z
    refine Zb ?_;show wpAny _ _ (Builtin.Dict.quietEq (.ref x.2.1)) _ _ _;unfold Builtin.Dict.quietEq;refine Zb (Y3 (T:="tuple") ⟨ox,h1,h2⟩ F.slot_tuple_eq.lookup (Zk ?_));rw[show ((some (Yh "tuple.__eq__"):Option Value) == some (Yh "object.__eq__"))=false from by decide];simp only[Bool.not_false,if_true];rw[if_neg one];exact Zk ⟨rfl,fun e z=>mem e (Zy _ z)⟩
  . rintro b s' ⟨rfl,_⟩
    exact Zk h
theorem xui {nm:String}{d o:Addr}{xs more:List (List K × Addr × Value)}{Q:Unit->Shared->Prop} (hu:(tupleKind kk).room A) (hdo:d≠o) (hoS:(o == sysModules)=false)
    (hd:s.heap.DictOfH (tupleKind kk) d xs) (ho:s.heap.DictOfH (tupleKind kk) o more) (hh:xs=[]->(more.map fun x=>(tupleKind kk).hash x.1).Nodup) (hsz:xs.length+more.length<=sizeLine)
    (hQ:∀ h',h'.DictOfH (tupleKind kk) d (xbn xs more)->ZI d s.heap h'->Q () { s with heap:=h' }) :
    wpAny (model prog w) A (Builtin.Dict.mergeDict nm d o) Q E s:=by
  obtain⟨od,esd,epd,hod,hcd,hdd,hed,hid,hnd⟩:=id hd;obtain⟨oo,eso,epo,hoo,hco,hdo',heo,hio,hno⟩:=id ho;have hlen:more.length=eso.size:=by rw[<- J7,heo,Za]
  unfold Builtin.Dict.mergeDict;rw[if_neg (by simpa using hdo)];unfold Builtin.Dict.showsAll;rw[if_neg (by rw[hoS]; exact ZA)];refine Zb (Zk ?_);refine Zb (Jp hoo hdo' ?_);have loop:∀ Q':PUnit->Shared->Prop,(∀ h',h'.DictOfH (tupleKind kk) d (xbn xs more)->ZI d s.heap h'->Q' Qc { s with heap:=h' })->wpAny (model prog w) A (forIn (List.range' 0 eso.size) Qc fun i (_:PUnit)=>(do
          let l' <- dictEntries o
          match l'[i]? with
            | some e=>do
              holding [e.key,e.val] (dictSetHashed d e.key e.hash e.val)
              let ep' <- dictEpoch o
              if (ep' != epo)=true then do
                  (unsupported (toString nm++toString ":source-changed-during-callback"):Sem PUnit)
                  pure (JH Qc)
                else pure (JH Qc)
            | _=>do
              (unsupported "internal:dict-merge":Sem PUnit)
              pure (JH Qc):Sem (ForInStep PUnit))) Q' E s:=by
    intro Q' hQ';refine wpAny_forIn_list _ (fun rest _ s'=>∃ h' i,s'={ s with heap:=h' }/\rest=List.range' i (eso.size-i)/\i<=eso.size/\h'.DictOfH (tupleKind kk) d (xbn xs (more.take i))/\h'.get? o=some oo/\ZI d s.heap h')
      _ ?_ ?_ _ _ ⟨s.heap,0,rfl,by simp,Jb _,hd,hoo,ZI.refl _ _⟩
    . rintro x rest b s' ⟨h',i,rfl,hr,hi,hd',hoo',hs'⟩
      have hlt:i<eso.size:=by
        rcases Nat.lt_or_ge i eso.size with h|h
        . exact h
        . rw[Nat.sub_eq_zero_of_le h] at hr
          exact nomatch hr
      obtain⟨rfl,hrest⟩:x=i/\rest=List.range' (i+1) (eso.size-(i+1)):=by
        have e:eso.size-i=(eso.size-(i+1))+1:=by omega
        rw[e,List.range'_succ] at hr;injection hr with h1 h2
        exact⟨h1,h2⟩
      have hlm:x<more.length:=by omega
      have hkv:more[x]?=some more[x]:=Zf hlm;refine Zb (Jp hoo' hdo' ?_);rw[entry_at heo x,hkv];have hk0:=hio more[x] (YT hlm);have hk1:(tupleKind kk).is h' more[x].1 more[x].2.1:=(tupleKind kk).keeps hk0 hod hdd hs';have hz:(xbn xs (more.take x)).length<=sizeLine:=by
        have e1:=xeo (more.take x) xs;rw[ZQ] at e1;omega
      show wpAny _ _ (holding [.ref more[x].2.1,more[x].2.2] (dictSetHashed d (.ref more[x].2.1) ((tupleKind kk).hash more[x].1) more[x].2.2)>>=_) _ _ _;refine Zb (Jf (xmw hu hk1 hd' hz fun h2 hd2 hs2=>?_));have hoo2:h2.get? o=some oo:=(hs2.2 o (ZF hdo)).trans hoo';refine Zb (JQ hoo2 hdo' ?_);rw[if_neg (by simp)];exact Zk ⟨h2,x+1,rfl,hrest,hlt,by rw[xjw xs more x more[x] hkv]; exact hd2,hoo2,hs'.trans hs2⟩
    . rintro b s' ⟨h',i,rfl,hr,hi,hd',hoo',hs'⟩
      have hin:i=eso.size:=by
        rcases Nat.lt_or_ge i eso.size with h|h
        . have e:eso.size-i=(eso.size-(i+1))+1:=by omega
          rw[e,List.range'_succ] at hr;exact nomatch hr
        . exact Nat.le_antisymm hi h
      rw[hin,<- hlen,JM] at hd';exact hQ' h' hd' hs'
  dsimp only
  split
  . refine Zb (Jp hod hdd ?_)
    split
    . rename_i hemp
      have h0:esd=#[]:=Array.isEmpty_iff.mp hemp;have hx:xs=[]:=by
        rw[h0] at hed;exact YZ.mp hed.symm
      subst hx;refine Zb (xue hoo hdo' heo hio (hh rfl) ?_);rw[xfj more [] hno] at hQ;split
      . refine Zb (wpAny_updateDictKeysTo hod hdd (Zk (hQ _ ⟨_,_,epd+1,ZM _ hod (Wl (YV hdd _)),hcd.mapDictKeys _,YV hdd _,heo,fun x hx=>(tupleKind kk).keeps (hio x hx) hod hdd (ZI.update ..),hno⟩ (ZI.update ..))) ?_)
        simp only[QL,Nat.zero_add] at hsz;omega
      . rename_i hne
        have h1:eso=#[]:=Array.isEmpty_iff.mp (by simpa using hne);have hm0:more=[]:=YC.mp (by rw[hlen,h1]; rfl);subst hm0;exact Zk (hQ _ hd (ZI.refl _ _))
    . refine Zb (JQ hoo hdo' ?_)
      refine Zb (Jp hoo hdo' ?_);refine Zb ?_;rw[Std.Legacy.Range.forIn_eq_forIn_range'];simp only[Std.Legacy.Range.size,Nat.sub_zero,Nat.add_sub_cancel,Nat.div_one];exact loop _ fun h' a b=>Zk (hQ h' a b)
  . refine Zb (JQ hoo hdo' ?_)
    refine Zb (Jp hoo hdo' ?_);refine Zb ?_;rw[Std.Legacy.Range.forIn_eq_forIn_range'];simp only[Std.Legacy.Range.size,Nat.sub_zero,Nat.add_sub_cancel,Nat.div_one];exact loop _ fun h' a b=>Zk (hQ h' a b)
theorem xjb (d o:Addr) (hdo:d≠o) (hoS:(o == sysModules)=false) :
    MeetsIn prog w (Builtin.«dict.update» ⟨[.ref d,.ref o],[]⟩) (fun A R s=>(tupleKind kk).room A.in1/\∃ xs more,s.heap.DictOfH (tupleKind kk) d xs/\s.heap.DictOfH (tupleKind kk) o more/\(xs=[]->(more.map fun x=>(tupleKind kk).hash x.1).Nodup)/\xs.length+more.length<=sizeLine /\
      ∀ h',h'.DictOfH (tupleKind kk) d (xbn xs more)->ZI d s.heap h'->R (.ok (.ret .none)) { s with heap:=h' }) :=
  .of_wp fun A R s ⟨hu,xs,more,hd,ho,hh,hsz,h⟩=>by
    unfold Builtin.«dict.update»;refine Zb ?_;unfold Builtin.Dict.selfAndRest;refine Zb (QN hd.typeIs ?_);show wpAny _ _ (pure (d,[Zm o])) _ _ s;refine Zk ?_;show wpAny _ _ (Builtin.Dict.updateFrom "dict.update" d (.ref o) [] .none) _ _ s;unfold Builtin.Dict.updateFrom;refine Zb (Yt ho.typeIs ?_);rw[if_neg (by decide)];refine Zb ?_;unfold Builtin.Dict.merge;refine Zb ?_;unfold Builtin.Dict.readDirectly;refine Zb (Q1 ho.typeIs isSubtype_dict_dict ?_);simp only[Bool.not_true,ZX,if_false];refine Zb (Y3 ho.typeIs F.slot_dict_iter.lookup (Zk ?_));simp only[beq_self_eq_true,if_true];refine Zb (Zk ?_);refine xui hu hdo hoS hd ho hh hsz fun h' hd' hs'=>?_;show wpAny _ _ (Builtin.Dict.addKeywords d []>>=_) _ _ _;exact Zb (Zk (Zk ⟨.none,rfl,h h' hd' hs'⟩))
end
def xcg (kvs more:List (List Key × V)):List (List Key × V):=more.foldl (fun acc x=>putK acc x.1 x.2) kvs
theorem KT.merge {H:Hp}:∀{more:List (List Key × V)}{ms:List (List Key × Addr × Value)},KT H more ms->∀{kvs:List (List Key × V)}{xs:List (List Key × Addr × Value)},KT H kvs xs->KT H (xcg kvs more) (xbn xs ms):=by
 intro more ms r
 induction r with
 | nil=>intro kvs xs q; exact q
 | cons h _ ih =>
  intro kvs xs q;obtain⟨h1,h2,h3⟩:=h;have z:=q.put _ h2 h3;rw[h1] at z;have y:=ih z;rw[<- h1] at y;show KT H (xcg (putK kvs _ _) _) (xbn (storedH xs _ _ _) _);rw[<- h1];exact y
def xf4 (X:Cx) (k:List Key):Int:=(tupleKind (xal X.prog X.w)).hash k
def rUpd (X:Cx):V->List V->Hp->VK->Prop:=fun x vs H Q=>∃(a b:Addr) (kvs more:List (List Key × V)),x=.ref a/\vs=[.ref b]/\a≠b/\H a=some (.dT kvs)/\H b=some (.dT more)/\(kvs=[]->(more.map fun x=>xf4 X x.1).Nodup)/\kvs.length+more.length<=1000/\Q .non (upd H a (.dT (xcg kvs more)))
theorem xov {X:Cx} (hu:X.A.units+1<cLine):MtM X "dict.update" (rUpd X):=by
 intro pins s σ H x vs v us Q I rx rv h;obtain⟨a,b,kvs,more,rfl,rfl,ab,ha,hb,hh,hz,q⟩:=h;cases rx;obtain⟨u,rfl,ru⟩:=rv.one;cases (show u=Zm b from ru);obtain⟨za,hda,xs,rela,da⟩:=xg5 I.hok ha;obtain⟨zb,hdb,ms,relb,db⟩:=xg5 I.hok hb;have la:=Yi rela;have lb:=Yi relb;have hl:(xcg kvs more).length<=sizeLine:=by
  have e1:=xeo ms xs;have e2:=Yi (relb.merge rela);exact Zs (by omega:_<=1000) (by decide)
 refine call_meetsIn PySem.F.slot_dict_update da.typeIs PySem.F.entry_dict_update (PySem.F.args_dict_update_2 _ _) (xjb (kk:=xal X.prog X.w) a b ab hdb) ⟨?_,xs,ms,da,db,fun e=>?_,?_,fun h' dd' hs=>?_⟩
 .show X.A.in1.units<cLine;exact hu
 .subst e;have e0:kvs=[]:=YC.mp la;have z:=hh e0;have em:more.map (fun x=>xf4 X x.1)=ms.map fun x=>(tupleKind (xal X.prog X.w)).hash x.1:=by
   have aux:∀{l:List (List Key × V)}{m:List (List Key × Addr × Value)},KT H l m->l.map (fun x=>xf4 X x.1)=m.map fun x=>(tupleKind (xal X.prog X.w)).hash x.1:=by
    intro l m r
    induction r with
    | nil=>rfl
    | cons h _ ih=>rw[Z2,Z2,ih,h.1]; rfl
   exact aux relb
  rw[<- em];exact z
 .exact Zs (by omega:_<=1000) (by decide)
 .obtain ⟨qo,es,ep,hq,h2,h3,h4,_,h5⟩:=dd';refine⟨.non,_,xet (ob:=.dT (xcg kvs more)) I (by rw[ha]; exact Jv) hs ⟨qo,hq⟩ ⟨hl,hda,_,(relb.merge rela).keeps fun c ys ec=>?_,qo,es,ep,hq,h2,h3,h4,h5⟩,rfl,q⟩;rw[xh (xai ec ha (fun z=>nomatch z))];exact ec
end L2
namespace L2
open PySem
def th (a b:Int):Int:=reduceHash (Builtin.Tuple.tupleHashOf [hashInt a,hashInt b])
theorem xju (X:Cx) (a b:Int):xf4 X [.inl a,.inl b]=th a b:=by
 unfold xf4 th;show reduceHash (Builtin.Tuple.tupleHashOf ([.inl a,.inl b].map (keyH X.w)))=_;rw[Z2,Z2,List.map_nil];unfold keyH
 with_reducible rfl
def rimH (w:Nat):List Int:=((Z3 16).map fun (r:Nat)=>th 0 ((r:Int)+1))++((Z3 16).map fun (r:Nat)=>th ((w:Int)+1) ((r:Int)+1))
theorem xrt:∀ w,w<31->1<=w->(rimH w).Nodup:=by decide +kernel
end L2
namespace XL
open PySem PySem.Spec PyProof.Rows
def xrx (acc:List Str) (x:Str):List Str:=if acc.any (· == x)=true then acc else acc++[x]
end XL
namespace L2
open PySem PySem.Spec PyProof.Rows XL
def xvw (xs:List Str):Nat:=(xs.foldl xrx []).length
end L2
namespace XS
open PySem PySem.SetTable
end XS
namespace XS
open PySem PySem.SetTable
variable {t:SetTable}{es:Array (Int × Value)}{L:List Row}
end XS
namespace XS
open PySem PySem.SetTable
end XS
namespace XS
open PySem PySem.Spec PySem.SetTable
end XS
namespace XS
open PySem PySem.Spec PyProof.Rows
end XS
namespace XS
open PySem PySem.Spec PyProof.Rows XL
end XS
namespace L2
open PySem PySem.Spec PyProof.Rows XL XS
end L2
namespace L2
open PySem PySem.Spec PyProof.Rows
end L2
namespace L2
open PySem PySem.Spec PyProof.Rows XL PySem.W
section
variable {J:It}{n:Nat}{g:TG}{σ:St}{fr:List Nat}{tc:TT}{te:TE}{l:Addr}{H1:Hp}{Q:VK}{α:Type}
theorem xpc {α:Type}{bs as:List α}{i:Nat}{x:α} (h:bs.Sublist (as.take i)) (hx:as[i]?=some x):(bs++[x]).Sublist (as.take (i+1)):=by
 rw[ZT,hx];exact h.append (List.Sublist.refl _)
theorem xqc {α:Type}{bs as:List α}{i:Nat} (h:bs.Sublist (as.take i)):bs.Sublist (as.take (i+1)):=by
 rw[ZT];exact h.trans (List.sublist_append_left _ _)
end
section
variable {X:Cx}{o:Expr}{to:TE}{tg:Expr}{elts:List Expr}{x1:_}{tpos apos cpos:Pos}
def xuw (X:Cx) (t:TS):TS:=fun D σ H=>t { D with nx:=fun σ' H'=>∃ d ob u,H' d=some (.frz ob u)/\(∀ o' u',X.H₀ d≠some (.frz o' u'))/\D.nx σ' (upd H' d u) } σ H
theorem xlo {st:Stmt}{t:TS} (h:PS X st t):PS X st (xuw X t):=by
 intro pins s σ H D I q;refine thn (h pins s σ H _ I q) fun fl s1 z=>?_;cases fl with
 | next =>
  obtain⟨σ',H',I',d,ob,u,e,nf,r⟩:=z;exact⟨σ',_,I'.thaw e nf,r⟩
 | _=>exact z
end
section
variable {X:Cx}{pins:List (Addr × Obj)}{σ:St}{H:Hp}{s:Shared}{a b:Addr}{A:Around}
theorem xps {prog:Program}{w:World}{K:Type} [DecidableEq K] {knd:KeyKind prog w K}{es:List DictEntry}{vs:List (K × Value)} (h:Pairs knd es vs):∀{i:Nat}{e:DictEntry},es[i]?=some e->∃ kv,vs[i]?=some kv/\knd.is kv.1 e.key=true/\e.val=kv.2:=by
 induction h with
 | nil=>intro i e h; simp at h
 | cons h1 h2 _ ih =>
  intro i e he;cases i with
  | zero =>
   simp at he;subst he;exact⟨_,rfl,h1,h2⟩
  | succ i=>exact ih (by simpa using he)
end
theorem xdw:∀{us:List Value}{ss:List Str},StrsAre us ss->Vals (ss.map V.str) us
 | _,_,.nil=>.nil
 | _,_,.cons y t h=>.cons ⟨t,rfl⟩ (xdw h)
theorem xhx:∀{ss:List Str}{us:List Value},Vals (ss.map V.str) us->StrsAre us ss
 | [],_,.nil=>.nil
 | x::ss,_,.cons r rs=>by
  obtain⟨t,rfl⟩:=r;exact .cons x t (xhx rs)
theorem xhi {X:Cx}{pins:List (Addr × Obj)}{σ:St}{H:Hp}{s:Shared}{h1:Heap}{tk:Nat}{Q:VK}{us:List Value}{ss:List Str} (I1:Inv X pins σ H { s with heap:=h1,toks:=tk }) (hS:StrsAre us ss) (few:us.length<64)
    (q:∀(l:Addr) (ss':List Str),H l=none->ss'.Perm ss->sortedS ss'=true->Q (.ref l) (upd H l (.lst (ss'.map V.str)))) :
    wpAny (model X.prog X.w) X.A.in1 (newList us>>=fun l=>holding [l] (call (.builtin "list.sort") [l] [])>>=fun _=>ret l) (fun fin s'=>∃ v,fin=Fin.done (Flow.ret v)/\EP X pins σ Q v s') X.xe { s with heap:=h1,toks:=tk }:=by
  have sz:us.length<=sizeLine:=JJ (Jo few (by decide));have ln:=(xdw hS).length;rw[Za] at ln;have I2:=I1.lnew (t':=tk) (xdw hS) (by rw[Za,ln]; exact sz);refine Zb (wpAny_newList ?_ sz);have fr:H h1.objs.size=none:=I1.fresh;have gl:(h1.push { cls:=.type "list",data:=.seq us.toArray }).get? h1.objs.size=some (seqObj "list" us.toArray 0):=Zx _ rfl;refine Zb (Jf (Ya slot_list_sort ⟨_,gl,rfl⟩ entry_list_sort (list_sort_treeK strKind_oneLt gl hS.keysOf (fun v₁ v₂ r e=>keyKind_strs (by rw[<- e]; exact hS)) few fun st a1 a2=>?_) (args_list_sort _)));obtain⟨ss',b1,b2,b3⟩:=sorted_out_str hS a1 a2;refine⟨_,rfl,Zk ⟨_,rfl,?_⟩⟩;have J1:=I2.lset (l:=h1.objs.size) (its:=us) (its':=[]) (ys:=[]) (f:=fun _=>#[]) (t':=tk) xf gl rfl .nil (Jb _);have J2:=J1.kept (t':=tk) (h':=(((h1.push { cls:=.type "list",data:=.seq us.toArray }).update h1.objs.size (JO fun _=>#[])).push (seqObj "tuple" us.toArray 0)).push (seqObj "list" #[] 0)) fun b u e=>Zg _ (Zg _ e);obtain⟨z9,its9,n9,r9,hl9,e9⟩:=J2.lstM xf;have l':ss'.length=ss.length:=b2.length_eq;have J3:=J2.lset (l:=h1.objs.size) (its:=its9) (its':=((arrOf st).map (·.2)).toList) (ys:=ss'.map V.str) (f:=fun _=>(arrOf st).map (·.2)) (t':=tk) xf e9 (show (arrOf st).map (·.2)=_ from (Array.toArray_toList ..).symm) (xdw b1) (by rw[Za,l',ln]; exact sz);rw[xez,xez] at J3;exact⟨.ref h1.objs.size,_,J3,rfl,q _ ss' fr b2 b3⟩
theorem xly:∀{us:List Value}{ss:List Str},us.length=ss.length->(∀(i:Nat) (v:Value) (x:Str),us[i]?=some v->ss[i]?=some x->∃ t,v=Qz x t)->StrsAre us ss
 | [],[],_,_=>.nil
 | [],_::_,h,_=>by cases h
 | _::_,[],h,_=>by cases h
 | u::us,x::ss,h,f=>by
  obtain⟨t,rfl⟩:=f 0 u x rfl rfl;exact .cons x t (xly (by simpa using h) fun i v y h1 h2=>f (i+1) v y (by simpa using h1) (by simpa using h2))
def xp7:List V->Hp->VK->Prop:=fun xs H Q=>∃(d:Addr) (ss:List Str),xs=[.ref d]/\(H d=some (.lst (ss.map V.str))\/∃ kvs:List (Key × V),H d=some (.dK kvs)/\kvs.map (·.1)=ss.map J9)/\ss.length<64 /\
 ∀(l:Addr) (ss':List Str),H l=none->ss'.Perm ss->sortedS ss'=true->Q (.ref l) (upd H l (.lst (ss'.map V.str)))
theorem xfs {X:Cx} (hc:X.calm=true):xb1 X (.builtin "sorted") xp7:=by
 intro pins s σ H xs us Q I r h;obtain⟨d,ss,rfl,alt,hl,q⟩:=h;obtain⟨u,rfl,ru⟩:=xbx r;obtain rfl:u=Zm d:=ru;rcases alt with e|⟨kvs,e,ek⟩
 .obtain ⟨z,its,n,r1,hL,el⟩:=I.lstM e;have ln:=r1.length;rw[Za] at ln;refine Qo kind_sorted plain_sorted entry_sorted (args_sorted1 _) ?_;unfold Builtin.sorted;refine Zb (Zk (show wpAny _ _ (collect (.ref d)>>=_) _ _ _ from Zb (wpAny_collect_seq d (T:="list") (.inl rfl) el rfl rfl (fun h1 keep=>?_) (by rw[Z4,<- ln]; exact JJ (Jo hl (by decide))))));exact xhi (us:=its) (I.kept keep) (xhx r1) (by omega) q
 .obtain ⟨z,hsys,vs,rel,o,es,ep,ho,hx,hdat,hk,hp,hn⟩:=xjo I.hok e;have ln:=rel.length;have le:=hp.length;have esz:es.size=vs.length:=by simpa using le
  refine Qo kind_sorted plain_sorted entry_sorted (args_sorted1 _) ?_;unfold Builtin.sorted;refine Zb (Zk ?_);show wpAny _ _ (collect (.ref d)>>=_) _ _ _;refine Zb (kdu_collect (xmd hsys hx hdat) (I.ok.hd hc) ho (by rw[esz,<- ln]; exact z) fun h1 tk acc keep items=>?_);have hs:StrsAre acc.toList ss:=by
   refine xly (by rw[J7,items.1,esz,<- ln,<- Za (f:=(·.1)) (as:=kvs),ek,Za]) fun i v x hv hx=>?_;have hv':acc[i]?=some v:=by rw[<- Ju]; exact hv
   obtain⟨en,he,ev⟩:=items.2 i v hv';obtain⟨kv,h1,h2,_⟩:=xps hp (i:=i) (e:=en) (by rw[Ju]; exact he);have hk2:(kvs.map (·.1))[i]?=some (J9 x):=by rw[ek,Zh,hx]; rfl
   rw[rel.keys,Zh,h1,Y5] at hk2;have e3:kv.1=J9 x:=JC.inj hk2;rw[e3] at h2;obtain⟨t,et⟩:=Value.isStrOf_shape (x:=x) (v:=en.key) h2;exact⟨t,by rw[ev]; exact et⟩
  exact xhi (I.kept keep) hs (by rw[(xdw hs).length.symm,Za]; exact hl) q
end L2
namespace L2
open PySem PySem.Spec PyProof.Rows XL PySem.W PySem.MeetsSeq3
end L2
namespace L2
open PySem PySem.Spec PyProof.Rows XL PySem.W
def Ites (x:Str):It :=
 ⟨fun i _=>i<x.cps.toList.length,fun i H v H'=>∃ p c,x.cps.toList[i]?=some c/\v=.ref p/\H p=none/\H'=upd H p (.tup [.int i,sgn c]),fun i _=>x.cps.toList.length<=i⟩
theorem xk1 {P:Program}{w:World}{K:Zd}{elts:List Expr}{x1}{tpos:Pos}{x:Str} (t:Tok) (e it:Addr) (hei:e≠it) :
    Turn P w K (.Tuple elts x1 tpos) (Ites x) [e,it] e (fun i h=>(∃ old,IsEnum h e it i old)/\h.IsStrIter it "str_ascii_iterator" x t i) where
  mem:=by simp
  obj:=fun i h st b hb=>by
    obtain⟨⟨old,he⟩,⟨o1,e1,c1,d1⟩⟩:=st;simp only[Z1,Jx,or_false] at hb;rcases hb with rfl|rfl
    . exact⟨_,he,fun v k=>by have k':QY _=Data.cell v:=k; cases k'⟩
    . exact⟨_,e1,fun v k=>by rw[d1] at k; cases k⟩
  keep:=fun i h h' ⟨⟨old,he⟩,h1⟩ k=>⟨⟨old,k e (by simp) _ he⟩,xl3 h1 fun o z=>k it (by simp) o z⟩
  item:=by
    intro X hP hw hK hc i pins s σ H E I hf st hg;subst hP hw hK;have lt:i<x.cps.toList.length:=hg;obtain⟨⟨old,he⟩,h1⟩:=id st;refine wpAny_pyNext_enum_itemD (Draws.strAscii (A:=X.A.in1) (I.ok.hd hc) it x t) he h1 (by simpa using lt) hei (by simp[hei]) fun y h' tk py ho hst' hT hsz hk=>?_;obtain⟨c,u,hv,rfl⟩:=py;have hx:x.cps.toList[i]?=some c:=by simpa using hv
    refine⟨_,rfl,wpAny_letOwnedTupleGo_enum (s:={ s with heap:=h',toks:=tk+1 }) ho fun h'' he' hs'=>?_⟩;have elt:e<s.heap.objs.size:=Zq he;have pne:s.heap.objs.size≠e:=Yd elt;have kk:∀ b o,b∉[e,it]->s.heap.get? b=some o->h''.get? b=some o:=fun b o hb g=>by
      simp only[Z1,Jx,or_false,not_or] at hb;exact (hs'.2 b hb.1).trans (hk b o hb.1 (by simpa using hb.2) g)
    have I1:Inv X pins σ H { s with heap:=h'',toks:=tk+1 }:=I.turnedL kk hf;obtain⟨n0,nL,nC,nP⟩:=I.size_lt (Zi s.heap.objs.size);have hp:h''.get? s.heap.objs.size=some { cls:=.type "tuple",data:=.seq #[.int i tk,.str ⟨#[c]⟩ u] }:=(hs'.2 _ pne).trans hT;refine⟨.ref s.heap.objs.size,upd H s.heap.objs.size (.tup [.int i,sgn c]),I1.adopt n0 I.sz nL nC nP ⟨by show 2<=sizeLine; decide,[.int i tk,.str ⟨#[c]⟩ u],.cons ⟨_,rfl⟩ (.cons ⟨_,rfl⟩ .nil),_,hp,rfl,_,rfl⟩,rfl,
      ⟨_,c,hx,rfl,n0,rfl⟩,?_,fun b hb=>?_⟩
    . exact⟨⟨_,by simpa using he'⟩,xl3 hst' fun o y=>(hs'.2 it (ZF hei)).trans y⟩
    . obtain⟨o,ho⟩:∃ o,s.heap.get? b=some o:=by
        obtain⟨o1,e1,_⟩:=h1;simp only[Z1,Jx,or_false] at hb;rcases hb with rfl|rfl
        . exact⟨_,he⟩
        . exact⟨_,e1⟩
      rw[xh (ZD (Zq ho))];exact (hf b hb).1
  done:=by
    intro X hP hw hK hc i pins s σ H E I hf st hg;subst hP hw hK;have ge:x.cps.toList.length<=i:=hg;obtain⟨⟨old,he⟩,h1⟩:=id st;have fin:∀ h',Heap.ExtBut it s.heap h'->(none:Option Value)=none/\Inv X pins σ H { s with heap:=h' }:=fun h' hx=>⟨rfl,I.turnedL (t':=s.toks) (fun b o hb g=>by
      simp only[Z1,Jx,or_false,not_or] at hb;exact hx b o hb.2 g) hf⟩
    have hT:s.TypeIs (.ref e) "enumerate":=⟨_,he,rfl⟩
    unfold pyNext;refine Zb (Qu (YA (name:=Zc "__next__") hT F.slot_enumerate_next
      (Ya F.slot_enumerate_next hT F.entry_enumerate_next ?_ (F.args_enumerate_next_1 _))))
    show wpAny _ _ (field (.ref e) 2>>=_) _ _ _;refine Zb (Yp he rfl (x:=.ref it) rfl ?_);refine Zb (wpAny_nextOf_ascii_end (I.ok.hd hc) h1 (by simpa using ge) fun h' x he' hx'=>?_);obtain⟨o,ho,hc⟩:=hx';refine Zb (Q1 (T:="StopIteration") (b:=true) ⟨o,ho,hc⟩ isSubtype_stop ?_);exact Zk (fin _ he')
  self:=fun _ _ _ _ _ ⟨⟨_,st⟩,_⟩ h=>Qq st h
def xri (ta:TA):TI:=fun σ H R=>ta σ H fun vs H1=>∃ x:Str,vs=[.str x]/\x.cps.all (·<128)=true/\R (Ites x) H1
section
variable {X:Cx}{elts:List Expr}{x1:_}{tpos:Pos}
theorem xny {a:Expr}{ta:TA}{p pos:Pos} (hg:Gl X "enumerate") (hm:X.mg "enumerate"=none) (ha:PA X [a] ta) (hs:starEach [a] X.env=[(false,eval a X.env)]:=by rfl) :
    PI X (.Tuple elts x1 tpos) (.Call (.Name "enumerate" p) [a] [] pos) (xri ta):=by
  intro pins s σ H R I h;refine Call_ (xcl I hg hm PyProof.Rows.Boot.«enumerate» (ZS (thn (ha pos pins s σ H _ I h) fun us s1 ⟨vs,H1,I1,r1,q1⟩=>?_) hs rfl));obtain⟨x,e,hx,q⟩:=q1;subst e;obtain⟨u,rfl,t,rfl⟩:=xbx r1;refine call_enumerate_str fun h' he h1 hsz hk=>?_;have h1:h'.IsStrIter s1.heap.objs.size "str_ascii_iterator" x t 0:=by simpa [strIterType,hx] using h1
  refine Qq (s:={ s1 with heap:=h' }) he ?_;have I2:Inv X pins σ H1 { s1 with heap:=h' }:=I1.kept (t':=s1.toks) hk;refine⟨_,[s1.heap.objs.size+1,s1.heap.objs.size],_,_,H1,rfl,I2,xk1 t _ _ (xoh (by omega)),⟨⟨_,he⟩,h1⟩,fun b hb=>?_,q⟩;have hb':s1.heap.objs.size<=b:=by
    simp only[Z1,Jx,or_false] at hb;rcases hb with rfl|rfl
    . exact Nat.le_add_right _ 1
    . exact Zi _
  exact I1.fpOk hb' (I1.hok.fresh hb')
end
theorem xip {H:Hp}{p:Addr}{o:HO} (hp:H p=none):Same H (upd H p o):=fun b u e=>by
 rw[xh (xi e hp)];exact e
section
variable {n:Nat}{g:TG}{σ:St}{fr:List Nat}{te:TE}{l:Addr}{H1:Hp}{Q:VK}
theorem xkz {x:Str} (hlen:x.cps.toList.length<sizeLine) (hl:H1 l=none) (F:Nat->V->Hp->Prop) (stab:∀ i y H H',Tp H H'->F i y H->F i y H')
    (step:∀(i:Nat) (c:Nat) (p:Addr) (H2:Hp),x.cps.toList[i]?=some c->Same H1 H2->H2 p=none->∀(N:V->Hp->Prop),(∀ y H',Same (upd H2 p (.tup [.int i,sgn c])) H'->F i y H'->N y H') ->
      g (.ref p) (blk0 σ fr n) (upd H2 p (.tup [.int i,sgn c])) fun σ' H3=>te σ' H3 N)
    (fin:∀ ys H2,Same H1 H2->H2 l=some (.lst ys)->ys.length=x.cps.toList.length->(∀(i:Nat) (y:V),ys[i]?=some y->F i y H2)->Q (.ref l) H2):xc4 (Ites x) n g σ fr xdp te l H1 Q:=by
  refine xde x.cps.toList.length (fun i ys H2=>Same H1 H2/\H2 l=some (.lst ys)/\ys.length=i/\∀(j:Nat) (y:V),ys[j]?=some y->F j y H2) ?_ ?_ ?_ ?_
  . exact⟨fun b u e=>by rw[xh (xi e hl)]; exact e,xf,rfl,fun j y e=>by simp at e⟩
  . rintro i ys H2 lt _
    exact lt
  . rintro i ys H2 v H3 lt ⟨s,el,ly,f⟩ ⟨p,c,hc,rfl,hp,rfl⟩ N hN
    have e1:upd H2 p (.tup [.int i,sgn c]) l=some (.lst ys):=by
      rw[xh (xi el hp)];exact el
    have s1:Same H2 (upd H2 p (.tup [.int i,sgn c])):=xip hp;refine xgv (i:=i) (step i c p H2 hc s hp _ fun y H' s' hf=>?_);have el':=s' _ _ e1;refine⟨el',by omega,hN _ _ ⟨fun b u e=>?_,xf,by rw[Zp,ly]; rfl,fun j z e=>?_⟩⟩
    . rw[xh (xi e hl)]
      exact s' _ _ (s1 _ _ (s _ _ e))
    . by_cases k:j<ys.length
      . rw[Jj k] at e
        exact stab _ _ _ _ (((Same.tp s1).trans (Same.tp s')).trans (xhg el')) (f j z e)
      . rw[Js (by omega)] at e
        cases hj:j-ys.length with
        | zero =>
          rw[hj] at e;simp at e;subst e;have:j=i:=by omega
          subst this;exact stab _ _ _ _ (xhg el') hf
        | succ m =>
          rw[hj] at e;simp at e
  . rintro ys H2 ⟨s,el,ly,f⟩
    exact⟨Zi _,fin ys H2 s el ly f⟩
theorem xky {d:Addr}{ob:Obj}{kvs:List (Key × V)}{tc:TT} (hd:H1 d=some (.frz ob (.dK kvs))) (hlen:kvs.length<sizeLine) (hl:H1 l=none) (q:Key × V->Bool)
    (step:∀(i:Nat) (k:Key) (x:V) (p:Addr) (H2:Hp),kvs[i]?=some (k,x)->Same H1 H2->H2 p=none->∀(N:V->Hp->Prop) (M:Hp->Prop),(∀ H',Same (upd H2 p (.tup [kV k,x])) H'->q (k,x)=true->N x H')->(∀ H',Same (upd H2 p (.tup [kV k,x])) H'->q (k,x)=false->M H') ->
      g (.ref p) (blk0 σ fr n) (upd H2 p (.tup [kV k,x])) fun σ' H3=>tc σ' H3 fun b H4=>if b=true then te σ' H4 N else M H4)
    (fin:∀ H2,Same H1 H2->H2 l=some (.lst ((kvs.filter q).map (·.2)))->Q (.ref l) H2):xc4 (Iti d ob kvs) n g σ fr tc te l H1 Q:=by
  refine xde kvs.length (fun i ys H2=>Same H1 H2/\H2 l=some (.lst ys)/\ys=((kvs.take i).filter q).map (·.2)) ?_ ?_ ?_ ?_
  . exact⟨fun b u e=>by rw[xh (xi e hl)]; exact e,xf,rfl⟩
  . rintro i ys H2 lt ⟨s,_⟩
    exact⟨s _ _ hd,lt⟩
  . rintro i ys H2 v H3 lt ⟨s,el,ey⟩ ⟨p,k,x,ex,rfl,hp,rfl⟩ N hN
    have e1:upd H2 p (.tup [kV k,x]) l=some (.lst ys):=by
      rw[xh (xi el hp)];exact el
    have s1:Same H1 (upd H2 p (.tup [kV k,x])):=fun b u e=>xip hp _ _ (s _ _ e);have ly:ys.length<=i:=by
      rw[ey,Za];refine Zs (QU _ _) ?_;rw[ZQ];omega
    refine step i k x p H2 ex s hp _ _ (fun H' s' qt=>?_) (fun H' s' qf=>?_)
    . have el':=s' _ _ e1
      refine⟨el',by omega,hN _ _ ⟨fun b u e=>?_,xf,?_⟩⟩
      . rw[xh (xi e hl)]
        exact s' _ _ (s1 _ _ e)
      . rw[ey,ZT,ex,Jw,Z8,show (some (k,x)).toList=[(k,x)] from rfl,Ji qt]
        rfl
    . refine hN _ _ ⟨fun b u e=>s' _ _ (s1 _ _ e),s' _ _ e1,?_⟩
      rw[ey,ZT,ex,Jw,show (some (k,x)).toList=[(k,x)] from rfl,Jr (by rw[qf]; decide)];rw[List.filter_nil,JG]
  . rintro ys H2 ⟨s,el,ey⟩
    rw[JM] at ey;exact⟨⟨s _ _ hd,Zi _⟩,fin H2 s (ey▸el)⟩
end
section
variable {d:Addr}{ob:Obj}{kvs:List (Key × V)}{g:TG}{tb:TS}{D:Ends}{σ:St}{H:Hp}
theorem xpa (Pv:Nat->St->Hp->Prop) (h0:Pv 0 σ H) (hl:∀ i σ H,i<=kvs.length->Pv i σ H->H d=some (.frz ob (.dK kvs)))
    (hs:∀ i k x p σ H,kvs[i]?=some (k,x)->H p=none->Pv i σ H->g (.ref p) σ (upd H p (.tup [kV k,x])) fun σ2 H2=>tb { D with nx:=Pv (i+1),ct:=Pv (i+1),bk:=D.nx } σ2 H2) (hd:∀ σ H,Pv kvs.length σ H->D.nx σ H) :
    ∃ W:Nat->Nat->St->Hp->Prop,(∃ m,W 0 m σ H)/\∀ i m σ H,W i m σ H ->
      ((Iti d ob kvs).stop i H/\D.nx σ H)\/((Iti d ob kvs).go i H/\∃ N:St->Hp->Prop,(∀ σ' H',N σ' H'->∃ m',m'<m/\W (i+1) m' σ' H')/\∀ x H',(Iti d ob kvs).yld i H x H'->g x σ H' fun σ2 H2=>tb { D with nx:=N,ct:=N,bk:=D.nx } σ2 H2):=by
  refine⟨fun i m σ H=>m=kvs.length-i/\i<=kvs.length/\Pv i σ H,⟨kvs.length,by simp,Jb _,h0⟩,?_⟩;rintro i m σ H ⟨rfl,hi,p⟩;have q:=hl i σ H hi p;by_cases hlt:i<kvs.length
  . refine .inr ⟨⟨q,hlt⟩,Pv (i+1),fun σ' H' p'=>⟨kvs.length-(i+1),by omega,rfl,hlt,p'⟩,fun x H' y=>?_⟩
    obtain⟨pa,k,x',e1,rfl,hn,rfl⟩:=y;exact hs i k x' pa σ H e1 hn p
  . have e:i=kvs.length:=by omega
    subst e;exact .inl ⟨⟨q,Zi _⟩,hd σ H p⟩
end
section
variable {X:Cx}
def rSlS:V->Option Int->Option Int->Hp->VK->Prop:=fun x lo hi H Q=>∃ z:Str,x=.str z/\z.length<=sizeLine/\Q (.str (Ys z lo hi)) H
theorem xns:SlR X rSlS:=by
 intro pins s σ H x v vl vu lo hi sl Q I rx hs pl pu h;obtain⟨z,rfl,hz,q⟩:=h;obtain⟨t,rfl⟩:=rx;refine⟨"str",_,F.slot_str_getitem.lookup,typeIs_str _ _ _,?_⟩;have fin:∀ t' k,EP X pins σ Q (.str (Ys z lo hi) t') { s with toks:=k }:=fun t' k=>⟨.str _,H,I.tok k,⟨_,rfl⟩,q⟩
 have le:=Zs (Txt.slice_le z lo hi) hz;cases pl with
 | none =>
  cases pu with
  | none=>exact Y9 (l:=none) (u:=none) (st:=none) hs rfl (QJ ⟨le,fin⟩)
  | int j uj=>exact Y9 (l:=none) (u:=some (j,uj)) (st:=none) hs rfl (QJ ⟨le,fin⟩)
 | int i ui =>
  cases pu with
  | none=>exact Y9 (l:=some (i,ui)) (u:=none) (st:=none) hs rfl (QJ ⟨le,fin⟩)
  | int j uj=>exact Y9 (l:=some (i,ui)) (u:=some (j,uj)) (st:=none) hs rfl (QJ ⟨le,fin⟩)
def xp0:V->List V->Hp->VK->Prop:=fun x xs H Q=>∃ a:Str,x=.str a/\xs=[]/\Q (.bl (Txt.isalpha a)) H
theorem xm6:MtR X "str.isalpha" xp0:=by
 intro pins s σ H x xs v us Q I rx rs h;obtain⟨a,rfl,rfl,q⟩:=h;obtain⟨t,rfl⟩:=rx;cases rs;exact SC.isalpha ⟨.bl _,H,I,rfl,q⟩
end
theorem xfc {l:List Nat}{n:Nat} (h:n<=l.length):Ys (ofL l) none (some (n:Int))=ofL (l.take n):=by
 have e0:PySem.Builtin.Str.strSliceIndices none (some (n:Int)) 1 (ofL l).length=PySem.Builtin.Str.strSliceIndices (some ((0:Nat):Int)) (some (n:Int)) 1 (ofL l).length:=by
  simp only[PySem.Builtin.Str.strSliceIndices,show ((1:Int)>0)=True from by simp,if_true]
  congr 1
 have hl:(ofL l).length=l.length:=by simp[ofL,YS]
 unfold Ys;rw[e0];split
 .rename_i c
  rw[StrLaws.strSliceIndices_plain (Jb _) (by rw[hl]; exact h),Za,Zt,hl] at c;have:n=l.length:=by simpa using c
  rw[this,JM]
 .rw [StrLaws.sliced_plain _ (Jb _) (by rw[hl]; exact h),xar,Wd,Nat.sub_zero];rfl
theorem xg9 {l:List Nat}{n:Nat} (h:n<=l.length):Ys (ofL l) (some (n:Int)) none=ofL (l.drop n):=by
 have hl:(ofL l).length=l.length:=by simp[ofL,YS]
 have e0:PySem.Builtin.Str.strSliceIndices (some (n:Int)) none 1 (ofL l).length=PySem.Builtin.Str.strSliceIndices (some (n:Int)) (some ((l.length:Nat):Int)) 1 (ofL l).length:=by
  rw[hl];simp only[PySem.Builtin.Str.strSliceIndices,show ((1:Int)>0)=True from by simp,if_true]
  congr 1
  rw[if_neg (by omega)];omega
 unfold Ys;rw[e0];split
 .rename_i c
  rw[StrLaws.strSliceIndices_plain h (by rw[hl]; exact Zi _),Za,Zt,hl] at c;have:l.length-n=l.length:=by simpa using c
  by_cases z:n=0
  .rw [z,Wd]
  .have:l.length=0:=by omega
   have:l=[]:=YC.mp this;rw[this,List.drop_nil]
 .rw [StrLaws.sliced_plain _ h (by rw[hl]; exact Zi _),xar,Jk (by rw[JN]; exact Zi _)];rfl
end L2
namespace Geo
def dn (y r:Int):Int:=if y<r then 1 else -1
def upN (y r:Int):Nat:=if y<r then (r-y).toNat else (y-r).toNat
def wayI (b:Bool):Int:=if b then -1 else 1
def lvN (w x:Int) (b:Bool):Nat:=if b then (x+1).toNat else (w+2-x).toNat
def upL (x y r:Int):List (Int × Int):=(Z3 (upN y r)).map fun (i:Nat)=>(x,y+(i:Int)*dn y r)
def lvL (w x:Int) (b:Bool) (r:Int):List (Int × Int):=(Z3 (lvN w x b)).map fun (i:Nat)=>(x+(i:Int)*wayI b,r)
def cells (w x y:Int) (b:Bool) (r:Int):List (Int × Int):=upL x y r++lvL w x b r
theorem mem_up {x y r u v:Int}:(u,v)∈upL x y r↔u=x/\((y<=v/\v<r)\/(r<v/\v<=y)):=by
 unfold upL upN dn;rw[Ze];constructor
 .rintro ⟨i,hi,e⟩;rw[ZN] at hi;injection e with e1 e2
  subst e1;refine⟨rfl,?_⟩;split at hi
  .rename_i h
   rw[if_pos h] at e2;left; omega
  .rename_i h
   rw[if_neg h] at e2;right; omega
 .rintro ⟨rfl,h|h⟩
  .refine ⟨(v-y).toNat,?_,?_⟩
   .rw [ZN,if_pos (by omega)]; omega
   .rw [if_pos (by omega)];have:((v-y).toNat:Int)=v-y:=by omega
    rw[this]; congr 1; omega
  .refine ⟨(y-v).toNat,?_,?_⟩
   .rw [ZN,if_neg (by omega)]; omega
   .rw [if_neg (by omega)];have:((y-v).toNat:Int)=y-v:=by omega
    rw[this]; congr 1; omega
theorem xty {w x r u v:Int}{b:Bool} (h1:1<=x) (h2:x<=w):(u,v)∈lvL w x b r↔v=r/\(if b then 0<=u/\u<=x else x<=u/\u<=w+1):=by
 unfold lvL lvN wayI;rw[Ze];cases b with
 | true =>
  simp only[if_true];constructor
  .rintro ⟨i,hi,e⟩;rw[ZN] at hi;injection e with e1 e2
   exact⟨e2.symm,by omega,by omega⟩
  .rintro ⟨rfl,h⟩;refine⟨(x-u).toNat,by rw[ZN]; omega,?_⟩;have:((x-u).toNat:Int)=x-u:=by omega
   rw[this]; congr 1; omega
 | false =>
  simp only[ZX,if_false];constructor
  .rintro ⟨i,hi,e⟩;rw[ZN] at hi;injection e with e1 e2
   exact⟨e2.symm,by omega,by omega⟩
  .rintro ⟨rfl,h⟩;refine⟨(u-x).toNat,by rw[ZN]; omega,?_⟩;have:((u-x).toNat:Int)=u-x:=by omega
   rw[this]; congr 1; omega
theorem mem_cells {w x y r u v:Int}{b:Bool} (h1:1<=x) (h2:x<=w):(u,v)∈cells w x y b r↔(u=x/\((y<=v/\v<r)\/(r<v/\v<=y)))\/(v=r/\(if b then 0<=u/\u<=x else x<=u/\u<=w+1)):=by
 unfold cells;rw[Z5,mem_up,xty h1 h2]
def btw (v a b:Int):Prop:=min a b<=v/\v<=max a b
instance (v a b:Int):Decidable (btw v a b):=inferInstanceAs (Decidable (_/\_))
end Geo
namespace Drw
variable {S:Type}
abbrev Cl:=Int × Int
def set1 (m:Cl->Option S) (c:Cl) (s:S):Cl->Option S:=fun z=>if z=c then some s else m z
def sets (m:Cl->Option S) (L:List (Cl × S)):Cl->Option S:=L.foldl (fun m x=>set1 m x.1 x.2) m
def mark1 (hs:S) (m:Cl->Option S) (c:Cl) (s:S):Cl->Option S:=set1 m c (if (m c).isSome then hs else s)
def marks (hs:S) (m:Cl->Option S) (L:List (Cl × S)):Cl->Option S:=L.foldl (fun m x=>mark1 hs m x.1 x.2) m
theorem sets_no:∀{L:List (Cl × S)}{m:Cl->Option S}{c:Cl},c∉L.map (·.1)->sets m L c=m c
 | [],_,_,_=>rfl
 | x::L,m,c,h=>by
  rw[Z2,Z1,not_or] at h;show sets (set1 m x.1 x.2) L c=m c;rw[sets_no h.2];exact if_neg h.1
theorem xik:∀{L:List (Cl × S)}{m m':Cl->Option S}{c:Cl},m c=m' c->sets m L c=sets m' L c
 | [],_,_,_,h=>h
 | x::L,m,m',c,h=>by
  refine xik (L:=L) ?_;show set1 m x.1 x.2 c=set1 m' x.1 x.2 c;unfold set1;split
  .rfl
  .exact h
theorem xge:∀{L:List (Cl × S)}{c:Cl} (m m':Cl->Option S),c∈L.map (·.1)->sets m L c=sets m' L c
 | x::L,c,m,m',h=>by
  show sets (set1 m x.1 x.2) L c=sets (set1 m' x.1 x.2) L c;rcases Z1.mp h with e|h
  .refine xik ?_;unfold set1;rw[if_pos e,if_pos e]
  .exact xge _ _ h
theorem xft:∀{L:List (Cl × S)}{m:Cl->Option S}{c:Cl},c∈L.map (·.1)->(sets m L c).isSome
 | x::L,m,c,h=>by
  show (sets (set1 m x.1 x.2) L c).isSome;by_cases z:c∈L.map (·.1)
  .exact xft z
  .rw [sets_no z];rcases Z1.mp h with e|h
   .unfold set1;rw[if_pos e];rfl
   .exact absurd h z
theorem sets_one:∀{L:List (Cl × S)}{m:Cl->Option S}{c:Cl}{s:S},(L.map (·.1)).Nodup->(c,s)∈L->sets m L c=some s
 | x::L,m,c,s,nd,h=>by
  rw[Z2,Jh] at nd;show sets (set1 m x.1 x.2) L c=some s;rcases Z1.mp h with e|h
  .subst e;rw[sets_no nd.1];exact if_pos rfl
  .exact sets_one nd.2 h
theorem xne {L L':List (Cl × S)} (p:L.Perm L') (nd:(L.map (·.1)).Nodup) (m:Cl->Option S) (c:Cl):sets m L c=sets m L' c:=by
 by_cases h:c∈L.map (·.1)
 .obtain ⟨⟨c',s⟩,hx,rfl⟩:=Ze.mp h;rw[sets_one nd hx,sets_one ((p.map _).nodup_iff.mp nd) (p.mem_iff.mp hx)]
 .rw [sets_no h,sets_no (fun z=>h ((p.map _).mem_iff.mpr z))]
def mkc (hs:S) (o:Option S) (l:List S):Option S:=l.foldl (fun o s=>some (if o.isSome then hs else s)) o
def at_ (c:Cl) (L:List (Cl × S)):List S:=(L.filter fun x=>decide (x.1=c)).map (·.2)
theorem marks_at (hs:S):∀(L:List (Cl × S)) (m:Cl->Option S) (c:Cl),marks hs m L c=mkc hs (m c) (at_ c L)
 | [],_,_=>rfl
 | x::L,m,c=>by
  show marks hs (mark1 hs m x.1 x.2) L c=_;rw[marks_at hs L];unfold at_ mark1 set1;rw[Yw];by_cases e:x.1=c
  .subst e;simp only[if_true,decide_true];rfl
  .have e':¬ c=x.1:=fun z=>e z.symm;simp only[e,e',if_false,decide_false];rfl
theorem xg1 (hs:S):∀(l:List S) (a:S),mkc hs (some a) l=some (if l=[] then a else hs)
 | [],a=>rfl
 | x::l,a=>by
  show mkc hs (some hs) l=_;rw[xg1 hs l];simp
theorem mkc_perm (hs:S) {l l':List S} (p:l.Perm l'):mkc hs none l=mkc hs none l':=by
 match l,p with
 | [],p=>rw[List.nil_perm.mp p]
 | [a],p=>rw[List.singleton_perm.mp p]
 | a::b::r,p =>
  match l',p with
  | [],p=>exact absurd p.length_eq (by simp)
  | [x],p=>exact absurd p.length_eq (by simp)
  | x::y::r',p =>
   show mkc hs (some a) (b::r)=mkc hs (some x) (y::r');rw[xg1,xg1];simp
theorem xow (c:Cl) (L M:List (Cl × S)):at_ c (L++M)=at_ c L++at_ c M:=by
 unfold at_;rw[Jw,Z8]
theorem at_flat {α:Type} (c:Cl) (f:α->List (Cl × S)):∀ l:List α,at_ c (l.flatMap f)=l.flatMap fun a=>at_ c (f a)
 | []=>rfl
 | a::l=>by
  rw[Qs,Qs,xow,at_flat c f l]
theorem at_no {c:Cl}{L:List (Cl × S)} (h:c∉L.map (·.1)):at_ c L=[]:=by
 unfold at_;rw[YZ,Yf];intro x hx e;exact h (Ze.mpr ⟨x,hx,of_decide_eq_true e⟩)
theorem xjy:∀{L:List (Cl × S)}{c:Cl}{s:S},(L.map (·.1)).Nodup->(c,s)∈L->at_ c L=[s]
 | x::L,c,s,nd,h=>by
  rw[Z2,Jh] at nd;rw[show x::L=[x]++L from rfl,xow];rcases Z1.mp h with e|h
  .subst e;rw[at_no nd.1];simp[at_]
  .have ne:¬ x.1=c:=fun e=>nd.1 (e▸Ze.mpr ⟨_,h,rfl⟩);rw[xjy nd.2 h];simp[at_,ne]
theorem xrm {L M:List (Cl × S)} (c:Cl) (n1:(L.map (·.1)).Nodup) (n2:(M.map (·.1)).Nodup) (h:∀ s,(c,s)∈L↔(c,s)∈M):at_ c L=at_ c M:=by
 by_cases e:c∈L.map (·.1)
 .obtain ⟨⟨c',s⟩,hx,rfl⟩:=Ze.mp e;rw[xjy n1 hx,xjy n2 ((h s).mp hx)]
 .rw [at_no e,at_no];intro z;obtain⟨⟨c',s⟩,hx,rfl⟩:=Ze.mp z;exact e (Ze.mpr ⟨_,(h s).mpr hx,rfl⟩)
def no:Cl->Option S:=fun _=>none
def drawP (hs:S) (PM dots names pts:List (Cl × S)):Cl->Option S:=sets (fun z=>(sets (sets no dots) names z).or (marks hs no PM z)) pts
def drawL (hs:S) (LM dots names pts:List (Cl × S)):Cl->Option S:=sets (sets (sets (marks hs no LM) pts) dots) names
theorem draw_same (hs:S) {w:Int}{PM LM dots names names' pts:List (Cl × S)} (hp:∀ x∈pts,1<=x.1.1/\x.1.1<=w) (hd:∀ x∈dots,x.1.1=0\/x.1.1=w+1) (hn:∀ x∈names,x.1.1=0\/x.1.1=w+1)
    (pn:names.Perm names') (nn:(names.map (·.1)).Nodup) (c:Cl) (hm:c∉pts.map (·.1)->c∉names.map (·.1)->(at_ c PM).Perm (at_ c LM)):drawP hs PM dots names pts c=drawL hs LM dots names' pts c:=by
  unfold drawP drawL;rw[<- xne pn nn];by_cases cp:c∈pts.map (·.1)
  . have c1:1<=c.1/\c.1<=w:=by
      obtain⟨x,hx,rfl⟩:=Ze.mp cp;exact hp x hx
    have nd:c∉dots.map (·.1):=fun z=>by
      obtain⟨x,hx,rfl⟩:=Ze.mp z;have:=hd x hx;omega
    have nn:c∉names.map (·.1):=fun z=>by
      obtain⟨x,hx,rfl⟩:=Ze.mp z;have:=hn x hx;omega
    rw[sets_no nn,sets_no nd];exact xge _ _ cp
  . rw[sets_no cp]
    by_cases cn:c∈names.map (·.1)
    . have z:=xft (m:=sets no dots) cn
      rw[xge (sets (sets (marks hs no LM) pts) dots) (sets no dots) cn];revert z;generalize sets (sets no dots) names c=o;intro z;cases o with
      | none=>cases z
      | some s=>rfl
    . rw[sets_no cn,sets_no cn]
      by_cases cd:c∈dots.map (·.1)
      . have z:=xft (m:=(no:Cl->Option S)) cd
        rw[xge (sets (marks hs no LM) pts) no cd];revert z;generalize sets no dots c=o;intro z;cases o with
        | none=>cases z
        | some s=>rfl
      . rw[sets_no cd,sets_no cd,sets_no cp]
        show (none:Option S).or (marks hs no PM c)=_;rw[Option.none_or,marks_at,marks_at];exact mkc_perm hs (hm cp cn)
def rim (w:Int) (b:Bool):Int:=if b then 0 else w+1
def ls (sp sb sm:S) (x r:Int) (c:Cl):S:=if c=(x,r) then sp else if c.1=x then sb else sm
def ledP (sp sb sm:S) (w x y:Int) (b:Bool) (r:Int):List (Cl × S):=(Geo.cells w x y b r).map fun c=>(c,ls sp sb sm x r c)
def rg (lo hi:Int):List Int:=(Z3 (hi-lo).toNat).map fun (i:Nat)=>lo+(i:Int)
def ledL (sp sb sm:S) (w x y:Int) (b:Bool) (r:Int):List (Cl × S):=((rg (min y r+1) (max y r)).map fun a=>((x,a),sb))++(if r≠y then [((x,r),sp)] else [])++((rg (min x (rim w b)+1) (max x (rim w b))).map fun a=>((a,r),sm))
theorem mem_rg {lo hi a:Int}:a∈rg lo hi↔lo<=a/\a<hi:=by
 unfold rg;rw[Ze];constructor
 .rintro ⟨i,hi',rfl⟩;rw[ZN] at hi';omega
 .rintro ⟨h1,h2⟩;exact⟨(a-lo).toNat,by rw[ZN]; omega,by omega⟩
theorem nd_map {α β:Type}{f:α->β} (inj:∀ a b,f a=f b->a=b) {l:List α} (h:l.Nodup):(l.map f).Nodup:=by
 rw[JU,ZH];exact h.imp fun ne e=>ne (inj _ _ e)
theorem xq5 (lo hi:Int):(rg lo hi).Nodup:=nd_map (fun a b e=>by omega) Yu
theorem xpr {w x y:Int}{b:Bool}{r:Int}:(Geo.cells w x y b r).Nodup:=by
 unfold Geo.cells;rw[ZU];refine⟨?_,?_,?_⟩
 .unfold Geo.upL Geo.dn;refine nd_map (fun a b e=>?_) Yu;rw[JA.injEq] at e;split at e<;>omega
 .unfold Geo.lvL Geo.wayI;refine nd_map (fun a b e=>?_) Yu;rw[JA.injEq] at e;split at e<;>omega
 .rintro ⟨u,v⟩ h1 ⟨u',v'⟩ h2 e;rw[Geo.mem_up] at h1;unfold Geo.lvL at h2;obtain⟨i,_,e2⟩:=Ze.mp h2;rw[JA.injEq] at e e2;omega
theorem ledL_keys (sp sb sm:S) (w x y:Int) (b:Bool) (r:Int):(ledL sp sb sm w x y b r).map (·.1)=((rg (min y r+1) (max y r)).map fun a=>(x,a))++(if r≠y then [(x,r)] else [])++((rg (min x (rim w b)+1) (max x (rim w b))).map fun a=>(a,r)):=by
 unfold ledL;rw[Z8,Z8,Z7,Z7]
 congr 2
 split<;>rfl
theorem led_at (sp sb sm:S) {w x y:Int}{b:Bool}{r:Int} (h1:1<=x) (h2:x<=w) {c:Cl} (n1:c≠(x,y)) (n2:c≠(rim w b,r)):at_ c (ledP sp sb sm w x y b r)=at_ c (ledL sp sb sm w x y b r):=by
 obtain⟨u,v⟩:=c;refine xrm _ ?_ ?_ ?_
 .unfold ledP;rw[Z7];exact nd_map (fun a b e=>e) xpr
 .rw [ledL_keys];rw[ZU,ZU];refine⟨⟨nd_map (fun a b e=>(JA.injEq ..▸e).2) (xq5 _ _),by split<;>simp,?_⟩,nd_map (fun a b e=>(JA.injEq ..▸e).1) (xq5 _ _),?_⟩
  .rintro ⟨a,a'⟩ ha ⟨d,d'⟩ hd e;obtain⟨i,hi,ei⟩:=Ze.mp ha;rw[mem_rg] at hi;split at hd
   .have hd:=Zv.mp hd;rw[JA.injEq] at ei hd e;omega
   .exact nomatch hd
  .rintro ⟨a,a'⟩ ha ⟨d,d'⟩ hd e;obtain⟨j,hj,ej⟩:=Ze.mp hd;rw[mem_rg] at hj;rw[JA.injEq] at ej e;have hax:a=x:=by
    rcases Z5.mp ha with ha|ha
    .obtain ⟨i,hi,ei⟩:=Ze.mp ha;rw[JA.injEq] at ei;exact ei.1.symm
    .split at ha
     .have ha:=Zv.mp ha;rw[JA.injEq] at ha;exact ha.1
     .exact nomatch ha
   omega
 .intro s
  have m1:((u,v),s)∈ledP sp sb sm w x y b r↔(u,v)∈Geo.cells w x y b r/\s=ls sp sb sm x r (u,v):=by
   unfold ledP;rw[Ze];constructor
   .rintro ⟨c,hc,e⟩;rw[JA.injEq] at e;obtain⟨rfl,rfl⟩:=e;exact⟨hc,rfl⟩
   .rintro ⟨hc,rfl⟩;exact⟨_,hc,rfl⟩
  have m2:((u,v),s)∈ledL sp sb sm w x y b r↔(u=x/\(min y r+1<=v/\v<max y r)/\s=sb)\/(r≠y/\u=x/\v=r/\s=sp)\/(v=r/\(min x (rim w b)+1<=u/\u<max x (rim w b))/\s=sm):=by
   unfold ledL;rw[Z5,Z5,Ze,Ze,or_assoc];refine or_congr ⟨?_,?_⟩ (or_congr ⟨?_,?_⟩ ⟨?_,?_⟩)
   .rintro ⟨a,ha,e⟩;rw[mem_rg] at ha;simp only[JA.injEq] at e;obtain⟨⟨rfl,rfl⟩,rfl⟩:=e;exact⟨rfl,ha,rfl⟩
   .rintro ⟨rfl,ha,rfl⟩;exact⟨v,mem_rg.mpr ha,rfl⟩
   .intro h
    split at h
    .rename_i ne
     have h:=Zv.mp h;simp only[JA.injEq] at h;exact⟨ne,h.1.1,h.1.2,h.2⟩
    .exact nomatch h
   .rintro ⟨ne,rfl,rfl,rfl⟩;rw[if_pos ne];exact Zv.mpr rfl
   .rintro ⟨a,ha,e⟩;rw[mem_rg] at ha;simp only[JA.injEq] at e;obtain⟨⟨rfl,rfl⟩,rfl⟩:=e;exact⟨rfl,ha,rfl⟩
   .rintro ⟨rfl,ha,rfl⟩;exact⟨u,mem_rg.mpr ha,rfl⟩
  rw[m1,m2,Geo.mem_cells h1 h2];clear m1 m2;have k1:¬ (u=x/\v=y):=fun z=>n1 (by rw[z.1,z.2]);have k2:¬ (u=rim w b/\v=r):=fun z=>n2 (by rw[z.1,z.2]);unfold ls;by_cases ux:u=x
  .subst ux;by_cases vr:v=r
   .subst vr;rw[if_pos rfl];constructor
    .rintro ⟨_,e⟩;exact .inr (.inl ⟨fun z=>k1 ⟨rfl,z⟩,rfl,rfl,e⟩)
    .rintro (⟨_,z,_⟩|⟨_,_,_,e⟩|⟨_,z,_⟩)
     .omega
     .exact ⟨.inr ⟨rfl,by cases b<;>simp<;>omega⟩,e⟩
     .omega
   .rw [if_neg (fun z=>vr (JA.inj z).2),if_pos rfl];constructor
    .rintro ⟨z|z,e⟩
     .exact .inl ⟨rfl,by omega,e⟩
     .exact absurd z.1 vr
    .rintro (⟨_,z,e⟩|⟨_,_,z,_⟩|⟨z,_⟩)
     .exact ⟨.inl ⟨rfl,by omega⟩,e⟩
     .exact absurd z vr
     .exact absurd z vr
  .rw [if_neg (fun z=>ux (JA.inj z).1),if_neg ux];constructor
   .rintro ⟨z|z,e⟩
    .exact absurd z.1 ux
    .refine .inr (.inr ⟨z.1,?_,e⟩);have z2:=z.2;have k3:¬ u=rim w b:=fun y=>k2 ⟨y,z.1⟩;clear k1 k2 z n1 n2;unfold rim at k3 ⊢;cases b
     .simp at z2 k3 ⊢;omega
     .simp at z2 k3 ⊢;omega
   .rintro (⟨z,_⟩|⟨_,z,_⟩|⟨z,y,e⟩)
    .exact absurd z ux
    .exact absurd z ux
    .refine ⟨.inr ⟨z,?_⟩,e⟩;unfold rim at y;cases b
     .simp at y ⊢;omega
     .simp at y ⊢;omega
end Drw
namespace S73
open PySem L2 XL
def top (i:Nat):Stmt:=PySem.Challenge.pw_rimnotes_k73_whole_what_is_read_is_drawn.main.body.getD i (.Pass ⟨0,0,0,0⟩)
abbrev s_n:Stmt:=xau (top 16) 0
abbrev s_aw:Stmt:=xau (top 18) 0
abbrev s_z:Stmt:=xau (top 19) 1
abbrev s_ac:Stmt:=xau (top 19) 2
abbrev s_p:Stmt:=xau (top 19) 3
abbrev s_r:Stmt:=xau (top 20) 1
abbrev s_v:Stmt:=xau (top 20) 2
abbrev s_m:Stmt:=xau (top 20) 3
abbrev s_ao:Stmt:=top 21
abbrev s_a2:Stmt:=top 23
abbrev s_ai:Stmt:=top 25
abbrev s_ar:Stmt:=top 26
abbrev s_ah:Stmt:=xau (top 32) 0
abbrev s_a:Stmt:=xau (top 32) 1
abbrev s_g:Stmt:=xau (top 32) 4
abbrev s_l:Stmt:=xau (top 32) 6
abbrev s_w:Stmt:=xau (top 32) 7
abbrev s_f:Stmt:=xau (top 32) 8
abbrev s_s:Stmt:=xau (top 32) 10
abbrev s_i:Stmt:=xau (top 32) 15
abbrev s_j:Stmt:=xau (top 32) 16
abbrev s_d:Stmt:=xau (top 32) 17
abbrev s_e:Stmt:=xau (top 32) 18
abbrev s_aa:Stmt:=top 33
abbrev xfy:Stmt:=top 35
abbrev s_a3:Stmt:=top 36
abbrev s_ad:Stmt:=top 37
abbrev s_at:Stmt:=top 38
abbrev s_ay:Stmt:=top 39
abbrev s_al:Stmt:=xau (top 40) 0
abbrev s_k:Stmt:=xau (top 40) 1
abbrev s_h:Stmt:=xau (top 40) 2
abbrev s_o:Stmt:=xau (top 40) 3
abbrev s_u:Stmt:=xau (top 40) 4
abbrev xg6:Stmt:=top 41
abbrev s_as:Stmt:=top 42
abbrev s_ax:Stmt:=top 43
abbrev s_a5:Stmt:=top 44
abbrev s_aj:Stmt:=top 45
abbrev s_af:Stmt:=top 46
abbrev s_x:Stmt:=top 48
abbrev s_am:Stmt:=top 49
abbrev s_az:Stmt:=top 50
abbrev s_au:Stmt:=top 51
abbrev s_y:Stmt:=top 52
abbrev s_a0:Stmt:=top 53
abbrev s_an:Stmt:=top 54
abbrev s_a6:Stmt:=top 55
abbrev s_ap:Stmt:=top 56
abbrev s_ab:Stmt:=top 57
abbrev s_aq:Stmt:=top 58
abbrev s_a1:Stmt:=top 59
abbrev s_av:Stmt:=top 60
abbrev s_a4:Stmt:=top 61
abbrev s_ak:Stmt:=top 62
abbrev xms:Stmt:=top 63
set_option genInjectivity false in
set_option genSizeOf false in
set_option genInjectivity false in
set_option genSizeOf false in
structure Adr where
 f_n:Addr
 d_n:FuncData
 f_aw:Addr
 d_aw:FuncData
 f_z:Addr
 d_z:FuncData
 f_ac:Addr
 d_ac:FuncData
 f_p:Addr
 d_p:FuncData
 f_r:Addr
 d_r:FuncData
 f_v:Addr
 d_v:FuncData
 f_m:Addr
 d_m:FuncData
 f_ao:Addr
 d_ao:FuncData
 f_a2:Addr
 d_a2:FuncData
 f_ai:Addr
 d_ai:FuncData
 f_ar:Addr
 d_ar:FuncData
 f_ah:Addr
 d_ah:FuncData
 f_a:Addr
 d_a:FuncData
 T_a:Addr
 f_g:Addr
 d_g:FuncData
 f_l:Addr
 d_l:FuncData
 f_w:Addr
 d_w:FuncData
 f_f:Addr
 d_f:FuncData
 f_s:Addr
 d_s:FuncData
 f_i:Addr
 d_i:FuncData
 f_j:Addr
 d_j:FuncData
 f_d:Addr
 d_d:FuncData
 f_e:Addr
 d_e:FuncData
 f_aa:Addr
 d_aa:FuncData
 f_drawn:Addr
 d_drawn:FuncData
 f_a3:Addr
 d_a3:FuncData
 f_ad:Addr
 d_ad:FuncData
 f_at:Addr
 d_at:FuncData
 f_ay:Addr
 d_ay:FuncData
 f_al:Addr
 d_al:FuncData
 f_k:Addr
 d_k:FuncData
 f_h:Addr
 d_h:FuncData
 f_o:Addr
 d_o:FuncData
 f_u:Addr
 d_u:FuncData
 f_seen:Addr
 d_seen:FuncData
 f_as:Addr
 d_as:FuncData
 f_ax:Addr
 d_ax:FuncData
 f_a5:Addr
 d_a5:FuncData
 f_aj:Addr
 d_aj:FuncData
 f_af:Addr
 d_af:FuncData
 f_x:Addr
 d_x:FuncData
 f_am:Addr
 d_am:FuncData
 f_az:Addr
 d_az:FuncData
 f_au:Addr
 d_au:FuncData
 f_y:Addr
 d_y:FuncData
 f_a0:Addr
 d_a0:FuncData
 f_an:Addr
 d_an:FuncData
 f_a6:Addr
 d_a6:FuncData
 f_ap:Addr
 d_ap:FuncData
 f_ab:Addr
 d_ab:FuncData
 f_aq:Addr
 d_aq:FuncData
 f_a1:Addr
 d_a1:FuncData
 f_av:Addr
 d_av:FuncData
 f_a4:Addr
 d_a4:FuncData
 f_ak:Addr
 d_ak:FuncData
 f_law:Addr
 d_law:FuncData
 C_bl:Addr
 C_b:Addr
 C_bn:Addr
 C_ae:Addr
 C_q:Addr
 C_c:Addr
 C_t:Addr
 D_ag:Addr
structure Txt (w:World) (K:Zd) (mg:Str->Option Value) (t:Adr):Prop where
 g_b:mg "BadDrawing"=some (.ref t.C_b)
 g_ae:mg "LeftSide"=some (.ref t.C_ae)
 g_q:mg "RightSide"=some (.ref t.C_q)
 g_c:mg "Picture"=some (.ref t.C_c)
 g_t:mg "Letters"=some (.ref t.C_t)
 F_n:Fun K "__init__" "BadDrawing.__init__" s_n t.f_n t.d_n
 b_n:xx K t.d_n ["self", "row", "column"] []
 F_aw:Fun K "__init__" "Side.__init__" s_aw t.f_aw t.d_aw
 b_aw:xx K t.d_aw ["self", "width"] []
 F_z:Fun K "rim" "LeftSide.rim" s_z t.f_z t.d_z
 b_z:xx K t.d_z ["self"] []
 F_ac:Fun K "way" "LeftSide.way" s_ac t.f_ac t.d_ac
 b_ac:xx K t.d_ac ["self"] []
 F_p:Fun K "across" "LeftSide.across" s_p t.f_p t.d_p
 b_p:xx K t.d_p ["self", "x"] []
 F_r:Fun K "rim" "RightSide.rim" s_r t.f_r t.d_r
 b_r:xx K t.d_r ["self"] []
 F_v:Fun K "way" "RightSide.way" s_v t.f_v t.d_v
 b_v:xx K t.d_v ["self"] []
 F_m:Fun K "across" "RightSide.across" s_m t.f_m t.d_m
 b_m:xx K t.d_m ["self", "x"] []
 g_ao:mg "side_of"=some (.ref t.f_ao)
 F_ao:Fun K "side_of" "side_of" s_ao t.f_ao t.d_ao
 b_ao:xx K t.d_ao ["word", "width"] []
 g_a2:mg "cells_of"=some (.ref t.f_a2)
 F_a2:Fun K "cells_of" "cells_of" s_a2 t.f_a2 t.d_a2
 b_a2:xx K t.d_a2 ["picture", "name", "side", "row"] []
 g_ai:mg "is_whole"=some (.ref t.f_ai)
 F_ai:Fun K "is_whole" "is_whole" s_ai t.f_ai t.d_ai
 b_ai:xx K t.d_ai ["thing", "low", "high"] []
 g_ar:mg "is_name"=some (.ref t.f_ar)
 F_ar:Fun K "is_name" "is_name" s_ar t.f_ar t.d_ar
 b_ar:xx K t.d_ar ["thing"] []
 F_ah:Fun K "__init__" "Picture.__init__" s_ah t.f_ah t.d_ah
 b_ah:xx K t.d_ah ["self", "width", "height"] []
 F_a:FunD K "put" "Picture.put" s_a t.T_a t.f_a t.d_a
 b_bm:∃ ds,Vals [.str "both",.int 1,.non] ds/\xx K t.d_a ["self", "name", "x", "y", "sides", "low", "high"] ds
 b_a:xx K t.d_a ["self", "name", "x", "y", "sides", "low", "high"] []
 F_g:Fun K "open_seat" "Picture.open_seat" s_g t.f_g t.d_g
 b_g:xx K t.d_g ["self", "side", "row"] []
 F_l:Fun K "points" "Picture.points" s_l t.f_l t.d_l
 b_l:xx K t.d_l ["self"] []
 F_w:Fun K "seats" "Picture.seats" s_w t.f_w t.d_w
 b_w:xx K t.d_w ["self"] []
 F_f:Fun K "place_of" "Picture.place_of" s_f t.f_f t.d_f
 b_f:xx K t.d_f ["self", "name"] []
 F_s:Fun K "length" "Picture.length" s_s t.f_s t.d_s
 b_s:xx K t.d_s ["self", "name", "side", "row"] []
 F_i:Fun K "check_name" "Picture.check_name" s_i t.f_i t.d_i
 b_i:xx K t.d_i ["self", "name"] []
 F_j:Fun K "check_cell" "Picture.check_cell" s_j t.f_j t.d_j
 b_j:xx K t.d_j ["self", "x", "y"] []
 F_d:Fun K "check_lines" "Picture.check_lines" s_d t.f_d t.d_d
 b_d:xx K t.d_d ["self", "name", "x", "y"] []
 F_e:Fun K "check_seat" "Picture.check_seat" s_e t.f_e t.d_e
 b_e:xx K t.d_e ["self", "side", "row"] []
 g_aa:mg "picture_with"=some (.ref t.f_aa)
 F_aa:Fun K "picture_with" "picture_with" s_aa t.f_aa t.d_aa
 b_aa:xx K t.d_aa ["width", "height", "points", "seats"] []
 g_drawn:mg "drawn"=some (.ref t.f_drawn)
 F_drawn:Fun K "drawn" "drawn" xfy t.f_drawn t.d_drawn
 b_drawn:xx K t.d_drawn ["picture", "pairs"] []
 g_a3:mg "row_text"=some (.ref t.f_a3)
 F_a3:Fun K "row_text" "row_text" s_a3 t.f_a3 t.d_a3
 b_a3:xx K t.d_a3 ["signs", "width", "row"] []
 g_ad:mg "leader_signs"=some (.ref t.f_ad)
 F_ad:Fun K "leader_signs" "leader_signs" s_ad t.f_ad t.d_ad
 b_ad:xx K t.d_ad ["picture", "pairs"] []
 g_at:mg "leader_sign"=some (.ref t.f_at)
 F_at:Fun K "leader_sign" "leader_sign" s_at t.f_at t.d_at
 b_at:xx K t.d_at ["cell", "x", "row"] []
 g_ay:mg "rim_signs"=some (.ref t.f_ay)
 F_ay:Fun K "rim_signs" "rim_signs" s_ay t.f_ay t.d_ay
 b_ay:xx K t.d_ay ["picture", "pairs"] []
 F_al:Fun K "__init__" "Letters.__init__" s_al t.f_al t.d_al
 b_al:xx K t.d_al ["self", "last_column"] []
 F_k:Fun K "is_rim" "Letters.is_rim" s_k t.f_k t.d_k
 b_k:xx K t.d_k ["self", "column"] []
 F_h:Fun K "may_stand" "Letters.may_stand" s_h t.f_h t.d_h
 b_h:xx K t.d_h ["self", "row", "column", "sign"] []
 F_o:Fun K "may_lie" "Letters.may_lie" s_o t.f_o t.d_o
 b_o:xx K t.d_o ["self", "row", "column", "name"] []
 F_u:Fun K "read" "Letters.read" s_u t.f_u t.d_u
 b_u:xx K t.d_u ["self", "row", "column", "sign"] []
 g_seen:mg "seen"=some (.ref t.f_seen)
 F_seen:Fun K "seen" "seen" xg6 t.f_seen t.d_seen
 b_seen:xx K t.d_seen ["rows"] []
 g_as:mg "check_texts"=some (.ref t.f_as)
 F_as:Fun K "check_texts" "check_texts" s_as t.f_as t.d_as
 b_as:xx K t.d_as ["rows"] []
 g_ax:mg "signs_in"=some (.ref t.f_ax)
 F_ax:Fun K "signs_in" "signs_in" s_ax t.f_ax t.d_ax
 b_ax:xx K t.d_ax ["rows"] []
 g_a5:mg "seat_at"=some (.ref t.f_a5)
 F_a5:Fun K "seat_at" "seat_at" s_a5 t.f_a5 t.d_a5
 b_a5:xx K t.d_a5 ["place"] []
 g_aj:mg "picture_seen"=some (.ref t.f_aj)
 F_aj:Fun K "picture_seen" "picture_seen" s_aj t.f_aj t.d_aj
 b_aj:xx K t.d_aj ["rows", "letters"] []
 g_af:mg "check_drawing"=some (.ref t.f_af)
 F_af:Fun K "check_drawing" "check_drawing" s_af t.f_af t.d_af
 b_af:xx K t.d_af ["rows", "drawing"] []
 g_x:mg "_law_cell_at"=some (.ref t.f_x)
 F_x:Fun K "_law_cell_at" "_law_cell_at" s_x t.f_x t.d_x
 b_x:xx K t.d_x ["_law_script", "_law_k"] []
 g_am:mg "_law_mix"=some (.ref t.f_am)
 F_am:Fun K "_law_mix" "_law_mix" s_am t.f_am t.d_am
 b_am:xx K t.d_am ["_law_cell", "_law_k"] []
 g_az:mg "_law_frame"=some (.ref t.f_az)
 F_az:Fun K "_law_frame" "_law_frame" s_az t.f_az t.d_az
 b_az:xx K t.d_az ["_law_script"] []
 g_au:mg "_law_seats"=some (.ref t.f_au)
 F_au:Fun K "_law_seats" "_law_seats" s_au t.f_au t.d_au
 b_au:xx K t.d_au ["_law_script", "_law_height"] []
 g_y:mg "_law_numbers"=some (.ref t.f_y)
 F_y:Fun K "_law_numbers" "_law_numbers" s_y t.f_y t.d_y
 b_y:xx K t.d_y ["_law_cell", "_law_digits", "_law_bases"] []
 g_a0:mg "_law_point"=some (.ref t.f_a0)
 F_a0:Fun K "_law_point" "_law_point" s_a0 t.f_a0 t.d_a0
 b_a0:xx K t.d_a0 ["_law_numbers_here", "_law_name", "_law_x", "_law_y", "_law_height"] []
 g_an:mg "_law_points"=some (.ref t.f_an)
 F_an:Fun K "_law_points" "_law_points" s_an t.f_an t.d_an
 b_an:xx K t.d_an ["_law_cells", "_law_digits", "_law_width", "_law_height"] []
 g_a6:mg "_law_put"=some (.ref t.f_a6)
 F_a6:Fun K "_law_put" "_law_put" s_a6 t.f_a6 t.d_a6
 b_a6:xx K t.d_a6 ["_law_picture_here", "_law_point_here"] []
 g_ap:mg "_law_picture"=some (.ref t.f_ap)
 F_ap:Fun K "_law_picture" "_law_picture" s_ap t.f_ap t.d_ap
 b_ap:xx K t.d_ap ["_law_width", "_law_height", "_law_points_here", "_law_seats_here"] []
 g_ab:mg "_law_every_seat"=some (.ref t.f_ab)
 F_ab:Fun K "_law_every_seat" "_law_every_seat" s_ab t.f_ab t.d_ab
 b_ab:xx K t.d_ab ["_law_height"] []
 g_aq:mg "_law_pairs"=some (.ref t.f_aq)
 F_aq:Fun K "_law_pairs" "_law_pairs" s_aq t.f_aq t.d_aq
 b_aq:xx K t.d_aq ["_law_cell", "_law_digits", "_law_points_here", "_law_height", "_law_seats_here"] []
 g_a1:mg "_law_read"=some (.ref t.f_a1)
 F_a1:Fun K "_law_read" "_law_read" s_a1 t.f_a1 t.d_a1
 b_a1:xx K t.d_a1 ["_law_rows"] []
 g_av:mg "_law_sound"=some (.ref t.f_av)
 F_av:Fun K "_law_sound" "_law_sound" s_av t.f_av t.d_av
 b_av:xx K t.d_av ["_law_rows"] []
 g_a4:mg "_law_sign"=some (.ref t.f_a4)
 F_a4:Fun K "_law_sign" "_law_sign" s_a4 t.f_a4 t.d_a4
 b_a4:xx K t.d_a4 ["_law_kind", "_law_number", "_law_rows"] []
 g_ak:mg "_law_changed"=some (.ref t.f_ak)
 F_ak:Fun K "_law_changed" "_law_changed" s_ak t.f_ak t.d_ak
 b_ak:xx K t.d_ak ["_law_rows", "_law_numbers_here"] []
 g_law:mg "law"=some (.ref t.f_law)
 F_law:Fun K "law" "law" xms t.f_law t.d_law
 x_b:XC K t.C_b
 mk_b:xek K t.C_b=true
 k_b:XMk K t.C_b t.f_n
 c_ae:Cls K t.C_ae
 k_ae:Mk K t.C_ae t.f_aw
 m_z:Meth K t.C_ae "rim" t.f_z
 m_ac:Meth K t.C_ae "way" t.f_ac
 m_p:Meth K t.C_ae "across" t.f_p
 c_q:Cls K t.C_q
 k_q:Mk K t.C_q t.f_aw
 m_r:Meth K t.C_q "rim" t.f_r
 m_v:Meth K t.C_q "way" t.f_v
 m_m:Meth K t.C_q "across" t.f_m
 c_c:Cls K t.C_c
 k_c:Mk K t.C_c t.f_ah
 m_a:Meth K t.C_c "put" t.f_a
 m_g:Meth K t.C_c "open_seat" t.f_g
 m_l:Meth K t.C_c "points" t.f_l
 m_w:Meth K t.C_c "seats" t.f_w
 m_f:Meth K t.C_c "place_of" t.f_f
 m_s:Meth K t.C_c "length" t.f_s
 m_i:Meth K t.C_c "check_name" t.f_i
 m_j:Meth K t.C_c "check_cell" t.f_j
 m_d:Meth K t.C_c "check_lines" t.f_d
 m_e:Meth K t.C_c "check_seat" t.f_e
 c_t:Cls K t.C_t
 k_t:Mk K t.C_t t.f_al
 m_k:Meth K t.C_t "is_rim" t.f_k
 m_h:Meth K t.C_t "may_stand" t.f_h
 m_o:Meth K t.C_t "may_lie" t.f_o
 m_u:Meth K t.C_t "read" t.f_u
 cg:PySem.W.specialIn K (.builtin "object.__class__") "__get__"=some (some (.builtin "getset_descriptor.__get__"))
 ct:PySem.W.takesIn K (.builtin "object.__class__")=some true
 n_be:ZB K (.ref t.C_q) "width"=some none
 n_a7:ZB K (.ref t.C_c) "placed"=some none
 n_a8:ZB K (.ref t.C_c) "height"=some none
 n_a9:ZB K (.ref t.C_c) "width"=some none
 n_bd:ZB K (.ref t.C_c) "opened"=some none
 n_bb:ZB K (.ref t.C_t) "last_column"=some none
 n_ba:ZB K (.ref t.C_t) "inner"=some none
 n_bc:ZB K (.ref t.C_t) "outer"=some none
 n_bf:ZB K (.ref t.C_b) "column"=some none
 n_bi:ZB K (.ref t.C_b) "row"=some none
 n_bj:ZB K (.ref t.C_ae) "width"=some none
 n_abs:mg "abs"=none
 n_bool:mg "bool"=none
 n_dict:mg "dict"=none
 n_enumerate:mg "enumerate"=none
 n_int:mg "int"=none
 n_isinstance:mg "isinstance"=none
 n_len:mg "len"=none
 n_list:mg "list"=none
 n_min:mg "min"=none
 n_range:mg "range"=none
 n_reversed:mg "reversed"=none
 n_sorted:mg "sorted"=none
 n_str:mg "str"=none
 mro_b:Wm K t.C_b (.ref t.C_b)=some true
 v_bk:∃ tk,mg "MOST_ROWS"=some (.int 16 tk)
 v_bg:∃ tk,mg "MOST_COLUMNS"=some (.int 30 tk)
 v_bh:∃ tk,mg "MOST_POINTS"=some (.int 12 tk)
 g_ag:mg "MIRRORED_SIDES"=some (.ref t.D_ag)
 D_ag:xm8 w K t.D_ag [(.inr "left",.str "right"),(.inr "right",.str "left"),(.inr "both",.str "both")]
@[elab_as_elim] theorem xvi {α:Type}{P:List α->Prop}:(us:List α)->us.length=1->(∀ a0,P [a0])->P us
 | [a0],_,h=>h a0
@[elab_as_elim] theorem xu8 {α:Type}{P:List α->Prop}:(us:List α)->us.length=2->(∀ a0 a1,P [a0,a1])->P us
 | [a0,a1],_,h=>h a0 a1
@[elab_as_elim] theorem xvb {α:Type}{P:List α->Prop}:(us:List α)->us.length=3->(∀ a0 a1 a2,P [a0,a1,a2])->P us
 | [a0,a1,a2],_,h=>h a0 a1 a2
@[elab_as_elim] theorem xqt {α:Type}{P:List α->Prop}:(us:List α)->us.length=4->(∀ a0 a1 a2 a3,P [a0,a1,a2,a3])->P us
 | [a0,a1,a2,a3],_,h=>h a0 a1 a2 a3
@[elab_as_elim] theorem xuy {α:Type}{P:List α->Prop}:(us:List α)->us.length=5->(∀ a0 a1 a2 a3 a4,P [a0,a1,a2,a3,a4])->P us
 | [a0,a1,a2,a3,a4],_,h=>h a0 a1 a2 a3 a4
@[elab_as_elim] theorem xu3 {α:Type}{P:List α->Prop}:(us:List α)->us.length=7->(∀ a0 a1 a2 a3 a4 a5 a6,P [a0,a1,a2,a3,a4,a5,a6])->P us
 | [a0,a1,a2,a3,a4,a5,a6],_,h=>h a0 a1 a2 a3 a4 a5 a6
def gI (K:Zd) (n:Str) (a:Addr):Prop:=QA K mainGlobals n=some (some (.ref a))
def gN (K:Zd) (n:Str):Prop:=QA K mainGlobals n=some none
def fN (K:Zd) (C:Addr) (n:Str):Prop:=ZB K (.ref C) n=some none
def fI (K:Zd) (C:Addr) (n:Str) (a:Addr):Prop:=ZB K (.ref C) n=some (some (.ref a))
def fB (K:Zd) (C:Addr) (n:Str) (b:String):Prop:=ZB K (.ref C) n=some (some (.builtin b))
theorem bi_1 {K:Zd}{x q:Str}{st:Stmt}{f:Addr}{fd:FuncData}{p0:Str} (F:Fun K x q st f fd) (h:∀(kV doc pm:Value) (an:Option Addr) (cdv ct:Value) (a0:Value),bindArgs (Jn x q (xbm st) (xa9 st) (xo st) .none kV doc pm an cdv ct) ⟨[a0],[]⟩=pure (List.zip [p0] [a0]):=by intros; rfl):xx K fd [p0] []:=F.binds fun a b c d e f us hl=>xvi us hl (h a b c d e f)
theorem bi_2 {K:Zd}{x q:Str}{st:Stmt}{f:Addr}{fd:FuncData}{p0 p1:Str} (F:Fun K x q st f fd) (h:∀(kV doc pm:Value) (an:Option Addr) (cdv ct:Value) (a0 a1:Value),bindArgs (Jn x q (xbm st) (xa9 st) (xo st) .none kV doc pm an cdv ct) ⟨[a0,a1],[]⟩=pure (List.zip [p0,p1] [a0,a1]):=by intros; rfl):xx K fd [p0,p1] []:=F.binds fun a b c d e f us hl=>xu8 us hl (h a b c d e f)
theorem bi_3 {K:Zd}{x q:Str}{st:Stmt}{f:Addr}{fd:FuncData}{p0 p1 p2:Str} (F:Fun K x q st f fd) (h:∀(kV doc pm:Value) (an:Option Addr) (cdv ct:Value) (a0 a1 a2:Value),bindArgs (Jn x q (xbm st) (xa9 st) (xo st) .none kV doc pm an cdv ct) ⟨[a0,a1,a2],[]⟩=pure (List.zip [p0,p1,p2] [a0,a1,a2]):=by intros; rfl):xx K fd [p0,p1,p2] []:=F.binds fun a b c d e f us hl=>xvb us hl (h a b c d e f)
theorem bi_4 {K:Zd}{x q:Str}{st:Stmt}{f:Addr}{fd:FuncData}{p0 p1 p2 p3:Str} (F:Fun K x q st f fd) (h:∀(kV doc pm:Value) (an:Option Addr) (cdv ct:Value) (a0 a1 a2 a3:Value),bindArgs (Jn x q (xbm st) (xa9 st) (xo st) .none kV doc pm an cdv ct) ⟨[a0,a1,a2,a3],[]⟩=pure (List.zip [p0,p1,p2,p3] [a0,a1,a2,a3]):=by intros; rfl):xx K fd [p0,p1,p2,p3] []:=F.binds fun a b c d e f us hl=>xqt us hl (h a b c d e f)
theorem bi_5 {K:Zd}{x q:Str}{st:Stmt}{f:Addr}{fd:FuncData}{p0 p1 p2 p3 p4:Str} (F:Fun K x q st f fd) (h:∀(kV doc pm:Value) (an:Option Addr) (cdv ct:Value) (a0 a1 a2 a3 a4:Value),bindArgs (Jn x q (xbm st) (xa9 st) (xo st) .none kV doc pm an cdv ct) ⟨[a0,a1,a2,a3,a4],[]⟩=pure (List.zip [p0,p1,p2,p3,p4] [a0,a1,a2,a3,a4]):=by intros; rfl):xx K fd [p0,p1,p2,p3,p4] []:=F.binds fun a b c d e f us hl=>xuy us hl (h a b c d e f)
theorem txt_mk {w:World}{K:Zd}{h:Heap}{mg:Str->Option Value} (X:K.In h) (G:h.Ns mainGlobals mg) {C_bl C_b C_bn C_ae C_q C_c C_t f_n f_aw f_z f_ac f_p f_r f_v f_m f_ao f_a2 f_ai f_ar f_ah f_a T_a f_g f_l f_w f_f f_s f_i f_j f_d f_e f_aa f_drawn f_a3 f_ad f_at f_ay f_al f_k f_h f_o f_u f_seen f_as f_ax f_a5 f_aj f_af f_x f_am f_az f_au f_y f_a0 f_an f_a6 f_ap f_ab f_aq f_a1 f_av f_a4 f_ak f_law:Addr}{d_n d_aw d_z d_ac d_p d_r d_v d_m d_ao d_a2 d_ai d_ar d_ah d_g d_l d_w d_f d_s d_i d_j d_d d_e d_aa d_drawn d_a3 d_ad d_at d_ay d_al d_k d_h d_o d_u d_seen d_as d_ax d_a5 d_aj d_af d_x d_am d_az d_au d_y d_a0 d_an d_a6 d_ap d_ab d_aq d_a1 d_av d_a4 d_ak d_law:FuncData}{oc_a kv_a dc_a pm_a cd_a ct_a:Value}{od_a an_a:Option Addr}{sl_a:Array (Option Value)}{tk0_a:Tok}{tk1_a:Tok}{toc_a:Value}{tod_a:Option Addr}{tn_a:Nat}{tsl_a:Array (Option Value)}{tkc_bk:Tok}{tkc_bg:Tok}{tkc_bh:Tok}{D_ag:Addr}{ta0_ag tb0_ag:Tok}{ta1_ag tb1_ag:Tok}{ta2_ag tb2_ag:Tok}{ep_ag:Nat}
    (g_bl:gI K "RimError" C_bl)
    (g_b:gI K "BadDrawing" C_b)
    (g_bn:gI K "Side" C_bn)
    (g_ae:gI K "LeftSide" C_ae)
    (g_q:gI K "RightSide" C_q)
    (g_c:gI K "Picture" C_c)
    (g_t:gI K "Letters" C_t)
    (a_n:fI K C_b "__init__" f_n)
    (F_n:Fun K "__init__" "BadDrawing.__init__" s_n f_n d_n)
    (i_n:ZK K (.ref f_n)=true)
    (a_aw:fI K C_bn "__init__" f_aw)
    (F_aw:Fun K "__init__" "Side.__init__" s_aw f_aw d_aw)
    (i_aw:ZK K (.ref f_aw)=true)
    (a_z:fI K C_ae "rim" f_z)
    (F_z:Fun K "rim" "LeftSide.rim" s_z f_z d_z)
    (i_z:ZK K (.ref f_z)=true)
    (a_ac:fI K C_ae "way" f_ac)
    (F_ac:Fun K "way" "LeftSide.way" s_ac f_ac d_ac)
    (i_ac:ZK K (.ref f_ac)=true)
    (a_p:fI K C_ae "across" f_p)
    (F_p:Fun K "across" "LeftSide.across" s_p f_p d_p)
    (i_p:ZK K (.ref f_p)=true)
    (a_r:fI K C_q "rim" f_r)
    (F_r:Fun K "rim" "RightSide.rim" s_r f_r d_r)
    (i_r:ZK K (.ref f_r)=true)
    (a_v:fI K C_q "way" f_v)
    (F_v:Fun K "way" "RightSide.way" s_v f_v d_v)
    (i_v:ZK K (.ref f_v)=true)
    (a_m:fI K C_q "across" f_m)
    (F_m:Fun K "across" "RightSide.across" s_m f_m d_m)
    (i_m:ZK K (.ref f_m)=true)
    (a_ao:gI K "side_of" f_ao)
    (F_ao:Fun K "side_of" "side_of" s_ao f_ao d_ao)
    (a_a2:gI K "cells_of" f_a2)
    (F_a2:Fun K "cells_of" "cells_of" s_a2 f_a2 d_a2)
    (a_ai:gI K "is_whole" f_ai)
    (F_ai:Fun K "is_whole" "is_whole" s_ai f_ai d_ai)
    (a_ar:gI K "is_name" f_ar)
    (F_ar:Fun K "is_name" "is_name" s_ar f_ar d_ar)
    (a_ah:fI K C_c "__init__" f_ah)
    (F_ah:Fun K "__init__" "Picture.__init__" s_ah f_ah d_ah)
    (i_ah:ZK K (.ref f_ah)=true)
    (a_a:fI K C_c "put" f_a)
    (l_a:K.lookup f_a=some ⟨oc_a,od_a,.func (Jn "put" "Picture.put" (xbm s_a) (xa9 s_a) (xo s_a) (.ref T_a) kv_a dc_a pm_a an_a cd_a ct_a),sl_a⟩)
    (c_a:YG K cd_a "Picture.put"=true)
    (k_a:Jm K (.ref f_a)=true)
    (i_a:ZK K (.ref f_a)=true)
    (t_a:K.lookup T_a=some ⟨toc_a,tod_a,.seq #[.str "both" tk0_a,.int 1 tk1_a,.none] tn_a,tsl_a⟩)
    (a_g:fI K C_c "open_seat" f_g)
    (F_g:Fun K "open_seat" "Picture.open_seat" s_g f_g d_g)
    (i_g:ZK K (.ref f_g)=true)
    (a_l:fI K C_c "points" f_l)
    (F_l:Fun K "points" "Picture.points" s_l f_l d_l)
    (i_l:ZK K (.ref f_l)=true)
    (a_w:fI K C_c "seats" f_w)
    (F_w:Fun K "seats" "Picture.seats" s_w f_w d_w)
    (i_w:ZK K (.ref f_w)=true)
    (a_f:fI K C_c "place_of" f_f)
    (F_f:Fun K "place_of" "Picture.place_of" s_f f_f d_f)
    (i_f:ZK K (.ref f_f)=true)
    (a_s:fI K C_c "length" f_s)
    (F_s:Fun K "length" "Picture.length" s_s f_s d_s)
    (i_s:ZK K (.ref f_s)=true)
    (a_i:fI K C_c "check_name" f_i)
    (F_i:Fun K "check_name" "Picture.check_name" s_i f_i d_i)
    (i_i:ZK K (.ref f_i)=true)
    (a_j:fI K C_c "check_cell" f_j)
    (F_j:Fun K "check_cell" "Picture.check_cell" s_j f_j d_j)
    (i_j:ZK K (.ref f_j)=true)
    (a_d:fI K C_c "check_lines" f_d)
    (F_d:Fun K "check_lines" "Picture.check_lines" s_d f_d d_d)
    (i_d:ZK K (.ref f_d)=true)
    (a_e:fI K C_c "check_seat" f_e)
    (F_e:Fun K "check_seat" "Picture.check_seat" s_e f_e d_e)
    (i_e:ZK K (.ref f_e)=true)
    (a_aa:gI K "picture_with" f_aa)
    (F_aa:Fun K "picture_with" "picture_with" s_aa f_aa d_aa)
    (a_drawn:gI K "drawn" f_drawn)
    (F_drawn:Fun K "drawn" "drawn" xfy f_drawn d_drawn)
    (a_a3:gI K "row_text" f_a3)
    (F_a3:Fun K "row_text" "row_text" s_a3 f_a3 d_a3)
    (a_ad:gI K "leader_signs" f_ad)
    (F_ad:Fun K "leader_signs" "leader_signs" s_ad f_ad d_ad)
    (a_at:gI K "leader_sign" f_at)
    (F_at:Fun K "leader_sign" "leader_sign" s_at f_at d_at)
    (a_ay:gI K "rim_signs" f_ay)
    (F_ay:Fun K "rim_signs" "rim_signs" s_ay f_ay d_ay)
    (a_al:fI K C_t "__init__" f_al)
    (F_al:Fun K "__init__" "Letters.__init__" s_al f_al d_al)
    (i_al:ZK K (.ref f_al)=true)
    (a_k:fI K C_t "is_rim" f_k)
    (F_k:Fun K "is_rim" "Letters.is_rim" s_k f_k d_k)
    (i_k:ZK K (.ref f_k)=true)
    (a_h:fI K C_t "may_stand" f_h)
    (F_h:Fun K "may_stand" "Letters.may_stand" s_h f_h d_h)
    (i_h:ZK K (.ref f_h)=true)
    (a_o:fI K C_t "may_lie" f_o)
    (F_o:Fun K "may_lie" "Letters.may_lie" s_o f_o d_o)
    (i_o:ZK K (.ref f_o)=true)
    (a_u:fI K C_t "read" f_u)
    (F_u:Fun K "read" "Letters.read" s_u f_u d_u)
    (i_u:ZK K (.ref f_u)=true)
    (a_seen:gI K "seen" f_seen)
    (F_seen:Fun K "seen" "seen" xg6 f_seen d_seen)
    (a_as:gI K "check_texts" f_as)
    (F_as:Fun K "check_texts" "check_texts" s_as f_as d_as)
    (a_ax:gI K "signs_in" f_ax)
    (F_ax:Fun K "signs_in" "signs_in" s_ax f_ax d_ax)
    (a_a5:gI K "seat_at" f_a5)
    (F_a5:Fun K "seat_at" "seat_at" s_a5 f_a5 d_a5)
    (a_aj:gI K "picture_seen" f_aj)
    (F_aj:Fun K "picture_seen" "picture_seen" s_aj f_aj d_aj)
    (a_af:gI K "check_drawing" f_af)
    (F_af:Fun K "check_drawing" "check_drawing" s_af f_af d_af)
    (a_x:gI K "_law_cell_at" f_x)
    (F_x:Fun K "_law_cell_at" "_law_cell_at" s_x f_x d_x)
    (a_am:gI K "_law_mix" f_am)
    (F_am:Fun K "_law_mix" "_law_mix" s_am f_am d_am)
    (a_az:gI K "_law_frame" f_az)
    (F_az:Fun K "_law_frame" "_law_frame" s_az f_az d_az)
    (a_au:gI K "_law_seats" f_au)
    (F_au:Fun K "_law_seats" "_law_seats" s_au f_au d_au)
    (a_y:gI K "_law_numbers" f_y)
    (F_y:Fun K "_law_numbers" "_law_numbers" s_y f_y d_y)
    (a_a0:gI K "_law_point" f_a0)
    (F_a0:Fun K "_law_point" "_law_point" s_a0 f_a0 d_a0)
    (a_an:gI K "_law_points" f_an)
    (F_an:Fun K "_law_points" "_law_points" s_an f_an d_an)
    (a_a6:gI K "_law_put" f_a6)
    (F_a6:Fun K "_law_put" "_law_put" s_a6 f_a6 d_a6)
    (a_ap:gI K "_law_picture" f_ap)
    (F_ap:Fun K "_law_picture" "_law_picture" s_ap f_ap d_ap)
    (a_ab:gI K "_law_every_seat" f_ab)
    (F_ab:Fun K "_law_every_seat" "_law_every_seat" s_ab f_ab d_ab)
    (a_aq:gI K "_law_pairs" f_aq)
    (F_aq:Fun K "_law_pairs" "_law_pairs" s_aq f_aq d_aq)
    (a_a1:gI K "_law_read" f_a1)
    (F_a1:Fun K "_law_read" "_law_read" s_a1 f_a1 d_a1)
    (a_av:gI K "_law_sound" f_av)
    (F_av:Fun K "_law_sound" "_law_sound" s_av f_av d_av)
    (a_a4:gI K "_law_sign" f_a4)
    (F_a4:Fun K "_law_sign" "_law_sign" s_a4 f_a4 d_a4)
    (a_ak:gI K "_law_changed" f_ak)
    (F_ak:Fun K "_law_changed" "_law_changed" s_ak f_ak d_ak)
    (a_law:gI K "law" f_law)
    (F_law:Fun K "law" "law" xms f_law d_law)
    (kc_b:Jm K (.ref C_b)=true)
    (ov_b:xla K C_b=true)
    (hd_b:JF K C_b=true)
    (sa_b:fB K C_b "__setattr__" "object.__setattr__")
    (ga_b:fB K C_b "__getattribute__" "BaseException.__getattribute__")
    (gh_b:fN K C_b "__getattr__")
    (ca_b:fB K C_b "__class__" "object.__class__")
    (mk_b:xek K C_b=true)
    (kc_ae:Jm K (.ref C_ae)=true)
    (pg_ae:JL K C_ae Str.empty=true)
    (hd_ae:JF K C_ae=true)
    (po_ae:Yl K C_ae=true)
    (sa_ae:fB K C_ae "__setattr__" "object.__setattr__")
    (mk_ae:Y4 K C_ae=true)
    (a_LeftSide_init:fI K C_ae "__init__" f_aw)
    (kc_q:Jm K (.ref C_q)=true)
    (pg_q:JL K C_q Str.empty=true)
    (hd_q:JF K C_q=true)
    (po_q:Yl K C_q=true)
    (sa_q:fB K C_q "__setattr__" "object.__setattr__")
    (mk_q:Y4 K C_q=true)
    (a_RightSide_init:fI K C_q "__init__" f_aw)
    (kc_c:Jm K (.ref C_c)=true)
    (pg_c:JL K C_c Str.empty=true)
    (hd_c:JF K C_c=true)
    (po_c:Yl K C_c=true)
    (sa_c:fB K C_c "__setattr__" "object.__setattr__")
    (mk_c:Y4 K C_c=true)
    (kc_t:Jm K (.ref C_t)=true)
    (pg_t:JL K C_t Str.empty=true)
    (hd_t:JF K C_t=true)
    (po_t:Yl K C_t=true)
    (sa_t:fB K C_t "__setattr__" "object.__setattr__")
    (mk_t:Y4 K C_t=true)
    (cg:PySem.W.specialIn K (.builtin "object.__class__") "__get__"=some (some (.builtin "getset_descriptor.__get__")))
    (ct:PySem.W.takesIn K (.builtin "object.__class__")=some true)
    (n_be:fN K C_q "width")
    (n_a7:fN K C_c "placed")
    (n_a8:fN K C_c "height")
    (n_a9:fN K C_c "width")
    (n_bd:fN K C_c "opened")
    (n_bb:fN K C_t "last_column")
    (n_ba:fN K C_t "inner")
    (n_bc:fN K C_t "outer")
    (n_bf:fN K C_b "column")
    (n_bi:fN K C_b "row")
    (n_bj:fN K C_ae "width")
    (n_abs:gN K "abs")
    (n_bool:gN K "bool")
    (n_dict:gN K "dict")
    (n_enumerate:gN K "enumerate")
    (n_int:gN K "int")
    (n_isinstance:gN K "isinstance")
    (n_len:gN K "len")
    (n_list:gN K "list")
    (n_min:gN K "min")
    (n_range:gN K "range")
    (n_reversed:gN K "reversed")
    (n_sorted:gN K "sorted")
    (n_str:gN K "str")
    (mro_b:Wm K C_b (.ref C_b)=some true)
    (v_bk:QA K mainGlobals "MOST_ROWS"=some (some (.int 16 tkc_bk)))
    (v_bg:QA K mainGlobals "MOST_COLUMNS"=some (some (.int 30 tkc_bg)))
    (v_bh:QA K mainGlobals "MOST_POINTS"=some (some (.int 12 tkc_bh)))
    (g_ag:gI K "MIRRORED_SIDES" D_ag)
    (l_ag:K.lookup D_ag=some ⟨.type "dict",none,.dict #[⟨hashStr w "left",.str "left" ta0_ag,.str "right" tb0_ag⟩,⟨hashStr w "right",.str "right" ta1_ag,.str "left" tb1_ag⟩,⟨hashStr w "both",.str "both" ta2_ag,.str "both" tb2_ag⟩] ep_ag,#[]⟩)
    (ns_ag:(D_ag == sysModules)=false):∃ t,Txt w K mg t :=
  ⟨⟨f_n,_,f_aw,_,f_z,_,f_ac,_,f_p,_,f_r,_,f_v,_,f_m,_,f_ao,_,f_a2,_,f_ai,_,f_ar,_,f_ah,_,f_a,_,T_a,f_g,_,f_l,_,f_w,_,f_f,_,f_s,_,f_i,_,f_j,_,f_d,_,f_e,_,f_aa,_,f_drawn,_,f_a3,_,f_ad,_,f_at,_,f_ay,_,f_al,_,f_k,_,f_h,_,f_o,_,f_u,_,f_seen,_,f_as,_,f_ax,_,f_a5,_,f_aj,_,f_af,_,f_x,_,f_am,_,f_az,_,f_au,_,f_y,_,f_a0,_,f_an,_,f_a6,_,f_ap,_,f_ab,_,f_aq,_,f_a1,_,f_av,_,f_a4,_,f_ak,_,f_law,_,C_bl,C_b,C_bn,C_ae,C_q,C_c,C_t,D_ag⟩,⟨Z0 X G g_b,Z0 X G g_ae,Z0 X G g_q,Z0 X G g_c,Z0 X G g_t,F_n,bi_3 F_n,F_aw,bi_2 F_aw,F_z,bi_1 F_z,F_ac,bi_1 F_ac,F_p,bi_2 F_p,F_r,bi_1 F_r,F_v,bi_1 F_v,F_m,bi_2 F_m,Z0 X G a_ao,F_ao,bi_2 F_ao,Z0 X G a_a2,F_a2,bi_4 F_a2,Z0 X G a_ai,F_ai,bi_3 F_ai,Z0 X G a_ar,F_ar,bi_1 F_ar,F_ah,bi_3 F_ah,(xia (st:=s_a) l_a c_a k_a),⟨_,.cons (⟨_,rfl⟩) (.cons (⟨_,rfl⟩) (.cons (rfl) (.nil))),(xia (st:=s_a) l_a c_a k_a).binds t_a rfl 4 rfl fun _ _ _ _ _ _ us hl=>xqt us hl fun _ _ _ _=>⟨_,rfl,rfl⟩⟩,(xia (st:=s_a) l_a c_a k_a).binds t_a rfl 7 rfl fun _ _ _ _ _ _ us hl=>xu3 us hl fun _ _ _ _ _ _ _=>⟨_,rfl,rfl⟩,F_g,bi_3 F_g,F_l,bi_1 F_l,F_w,bi_1 F_w,F_f,bi_2 F_f,F_s,bi_4 F_s,F_i,bi_2 F_i,F_j,bi_3 F_j,F_d,bi_4 F_d,F_e,bi_3 F_e,Z0 X G a_aa,F_aa,bi_4 F_aa,Z0 X G a_drawn,F_drawn,bi_2 F_drawn,Z0 X G a_a3,F_a3,bi_3 F_a3,Z0 X G a_ad,F_ad,bi_2 F_ad,Z0 X G a_at,F_at,bi_3 F_at,Z0 X G a_ay,F_ay,bi_2 F_ay,F_al,bi_2 F_al,F_k,bi_2 F_k,F_h,bi_4 F_h,F_o,bi_4 F_o,F_u,bi_4 F_u,Z0 X G a_seen,F_seen,bi_1 F_seen,Z0 X G a_as,F_as,bi_1 F_as,Z0 X G a_ax,F_ax,bi_1 F_ax,Z0 X G a_a5,F_a5,bi_1 F_a5,Z0 X G a_aj,F_aj,bi_2 F_aj,Z0 X G a_af,F_af,bi_2 F_af,Z0 X G a_x,F_x,bi_2 F_x,Z0 X G a_am,F_am,bi_2 F_am,Z0 X G a_az,F_az,bi_1 F_az,Z0 X G a_au,F_au,bi_2 F_au,Z0 X G a_y,F_y,bi_3 F_y,Z0 X G a_a0,F_a0,bi_5 F_a0,Z0 X G a_an,F_an,bi_4 F_an,Z0 X G a_a6,F_a6,bi_2 F_a6,Z0 X G a_ap,F_ap,bi_4 F_ap,Z0 X G a_ab,F_ab,bi_1 F_ab,Z0 X G a_aq,F_aq,bi_5 F_aq,Z0 X G a_a1,F_a1,bi_1 F_a1,Z0 X G a_av,F_av,bi_1 F_av,Z0 X G a_a4,F_a4,bi_3 F_a4,Z0 X G a_ak,F_ak,bi_2 F_ak,Z0 X G a_law,F_law,⟨ov_b,hd_b,sa_b,ga_b,gh_b,ca_b,cg,ct⟩,mk_b,⟨mk_b,a_n,i_n,kc_b⟩,⟨pg_ae,hd_ae,po_ae,sa_ae⟩,⟨mk_ae,a_LeftSide_init,i_aw,kc_ae⟩,⟨a_z,i_z,F_z.kp⟩,⟨a_ac,i_ac,F_ac.kp⟩,⟨a_p,i_p,F_p.kp⟩,⟨pg_q,hd_q,po_q,sa_q⟩,⟨mk_q,a_RightSide_init,i_aw,kc_q⟩,⟨a_r,i_r,F_r.kp⟩,⟨a_v,i_v,F_v.kp⟩,⟨a_m,i_m,F_m.kp⟩,⟨pg_c,hd_c,po_c,sa_c⟩,⟨mk_c,a_ah,i_ah,kc_c⟩,⟨a_a,i_a,k_a⟩,⟨a_g,i_g,F_g.kp⟩,⟨a_l,i_l,F_l.kp⟩,⟨a_w,i_w,F_w.kp⟩,⟨a_f,i_f,F_f.kp⟩,⟨a_s,i_s,F_s.kp⟩,⟨a_i,i_i,F_i.kp⟩,⟨a_j,i_j,F_j.kp⟩,⟨a_d,i_d,F_d.kp⟩,⟨a_e,i_e,F_e.kp⟩,⟨pg_t,hd_t,po_t,sa_t⟩,⟨mk_t,a_al,i_al,kc_t⟩,⟨a_k,i_k,F_k.kp⟩,⟨a_h,i_h,F_h.kp⟩,⟨a_o,i_o,F_o.kp⟩,⟨a_u,i_u,F_u.kp⟩,cg,ct,n_be,n_a7,n_a8,n_a9,n_bd,n_bb,n_ba,n_bc,n_bf,n_bi,n_bj,ZW X G n_abs,ZW X G n_bool,ZW X G n_dict,ZW X G n_enumerate,ZW X G n_int,ZW X G n_isinstance,ZW X G n_len,ZW X G n_list,ZW X G n_min,ZW X G n_range,ZW X G n_reversed,ZW X G n_sorted,ZW X G n_str,mro_b,⟨_,Z0 X G v_bk⟩,⟨_,Z0 X G v_bg⟩,⟨_,Z0 X G v_bh⟩,Z0 X G g_ag,⟨ns_ag,_,_,l_ag,.cons rfl ⟨_,rfl⟩ ⟨_,rfl⟩ (.cons rfl ⟨_,rfl⟩ ⟨_,rfl⟩ (.cons rfl ⟨_,rfl⟩ ⟨_,rfl⟩ (.nil))),by decide⟩⟩⟩
theorem mkS {N P:List Str}{sc:Scope} (a:sc.kind=.function:=by rfl) (b:sc.isCoroutine=false:=by rfl) (c:sc.isGenerator=false:=by rfl) (d:N.Nodup:=by decide +kernel) (e:N.take P.length=P:=by rfl) (f:∀ x∈P,sc.names.lookup x=some .local\/sc.names.lookup x=some .cell:=by decide +kernel) (g:∀ y∈sc.names,y.2≠.free:=by decide +kernel):xv N P sc:=⟨a,b,c,d,e,f,g⟩
theorem sc_n:xv ["self", "row", "column"] ["self", "row", "column"] (xo s_n):=mkS
theorem sc_aw:xv ["self", "width"] ["self", "width"] (xo s_aw):=mkS
theorem sc_z:xv ["self"] ["self"] (xo s_z):=mkS
theorem sc_ac:xv ["self"] ["self"] (xo s_ac):=mkS
theorem sc_p:xv ["self", "x"] ["self", "x"] (xo s_p):=mkS
theorem sc_r:xv ["self"] ["self"] (xo s_r):=mkS
theorem sc_v:xv ["self"] ["self"] (xo s_v):=mkS
theorem sc_m:xv ["self", "x"] ["self", "x"] (xo s_m):=mkS
theorem sc_ao:xv ["word", "width"] ["word", "width"] (xo s_ao):=mkS
theorem sc_a2:xv ["picture", "name", "side", "row", "x", "y", "toward", "down", "upright", "level"] ["picture", "name", "side", "row"] (xo s_a2):=mkS
theorem sc_ai:xv ["thing", "low", "high"] ["thing", "low", "high"] (xo s_ai):=mkS
theorem sc_ar:xv ["thing"] ["thing"] (xo s_ar):=mkS
theorem sc_ah:xv ["self", "width", "height"] ["self", "width", "height"] (xo s_ah):=mkS
theorem sc_a:xv ["self", "name", "x", "y", "sides", "low", "high", "highest"] ["self", "name", "x", "y", "sides", "low", "high"] (xo s_a):=mkS
theorem sc_g:xv ["self", "side", "row"] ["self", "side", "row"] (xo s_g):=mkS
theorem sc_l:xv ["self"] ["self"] (xo s_l):=mkS
theorem sc_w:xv ["self"] ["self"] (xo s_w):=mkS
theorem sc_f:xv ["self", "name"] ["self", "name"] (xo s_f):=mkS
theorem sc_s:xv ["self", "name", "side", "row", "x", "y"] ["self", "name", "side", "row"] (xo s_s):=mkS
theorem sc_i:xv ["self", "name"] ["self", "name"] (xo s_i):=mkS
theorem sc_j:xv ["self", "x", "y"] ["self", "x", "y"] (xo s_j):=mkS
theorem sc_d:xv ["self", "name", "x", "y", "others", "other"] ["self", "name", "x", "y"] (xo s_d):=mkS
theorem sc_e:xv ["self", "side", "row"] ["self", "side", "row"] (xo s_e):=mkS
theorem sc_aa:xv ["width", "height", "points", "seats", "picture", "name", "x", "y", "sides", "low", "high", "side", "row"] ["width", "height", "points", "seats"] (xo s_aa):=mkS
theorem xcf:xv ["picture", "pairs", "signs", "name", "x", "y", "sides", "low", "high"] ["picture", "pairs"] (xo xfy):=mkS
theorem sc_a3:xv ["signs", "width", "row"] ["signs", "width", "row"] (xo s_a3):=mkS
theorem sc_ad:xv ["picture", "pairs", "signs", "name", "side", "row", "x", "y", "cell"] ["picture", "pairs"] (xo s_ad):=mkS
theorem sc_at:xv ["cell", "x", "row"] ["cell", "x", "row"] (xo s_at):=mkS
theorem sc_ay:xv ["picture", "pairs", "width", "signs", "name", "side", "row"] ["picture", "pairs"] (xo s_ay):=mkS
theorem sc_al:xv ["self", "last_column"] ["self", "last_column"] (xo s_al):=mkS
theorem sc_k:xv ["self", "column"] ["self", "column"] (xo s_k):=mkS
theorem sc_h:xv ["self", "row", "column", "sign"] ["self", "row", "column", "sign"] (xo s_h):=mkS
theorem sc_o:xv ["self", "row", "column", "name", "places"] ["self", "row", "column", "name"] (xo s_o):=mkS
theorem sc_u:xv ["self", "row", "column", "sign", "letters"] ["self", "row", "column", "sign"] (xo s_u):=mkS
theorem xcx:xv ["rows", "letters", "row", "column", "sign", "name", "place", "picture", "pairs"] ["rows"] (xo xg6):=mkS
theorem sc_as:xv ["rows", "row", "text"] ["rows"] (xo s_as):=mkS
theorem sc_ax:xv ["rows", "found", "row", "text"] ["rows"] (xo s_ax):=mkS
theorem sc_a5:xv ["place", "row", "column"] ["place"] (xo s_a5):=mkS
theorem sc_aj:xv ["rows", "letters", "height", "points", "seats"] ["rows", "letters"] (xo s_aj):=mkS
theorem sc_af:xv ["rows", "drawing", "row", "column", "sign"] ["rows", "drawing"] (xo s_af):=mkS
theorem sc_x:xv ["_law_script", "_law_k"] ["_law_script", "_law_k"] (xo s_x):=mkS
theorem sc_am:xv ["_law_cell", "_law_k", "_law_number"] ["_law_cell", "_law_k"] (xo s_am):=mkS
theorem sc_az:xv ["_law_script", "_law_cell", "_law_width", "_law_height"] ["_law_script"] (xo s_az):=mkS
theorem sc_au:xv ["_law_script", "_law_height", "_law_cell", "_law_digits", "_law_thick", "_law_seats_here", "_law_k", "_law_side", "_law_row"] ["_law_script", "_law_height"] (xo s_au):=mkS
theorem sc_y:xv ["_law_cell", "_law_digits", "_law_bases", "_law_numbers_here", "_law_k", "_law_base"] ["_law_cell", "_law_digits", "_law_bases"] (xo s_y):=mkS
theorem sc_a0:xv ["_law_numbers_here", "_law_name", "_law_x", "_law_y", "_law_height", "_law_sides", "_law_low", "_law_high", "_law_way"] ["_law_numbers_here", "_law_name", "_law_x", "_law_y", "_law_height"] (xo s_a0):=mkS
theorem sc_an:xv ["_law_cells", "_law_digits", "_law_width", "_law_height", "_law_columns", "_law_rows", "_law_letters", "_law_points_here", "_law_cell", "_law_numbers_here", "_law_x", "_law_y", "_law_name"] ["_law_cells", "_law_digits", "_law_width", "_law_height"] (xo s_an):=mkS
theorem sc_a6:xv ["_law_picture_here", "_law_point_here", "_law_name", "_law_x", "_law_y", "_law_sides", "_law_low", "_law_high"] ["_law_picture_here", "_law_point_here"] (xo s_a6):=mkS
theorem sc_ap:xv ["_law_width", "_law_height", "_law_points_here", "_law_seats_here", "_law_picture_here", "_law_side", "_law_row", "_law_point_here"] ["_law_width", "_law_height", "_law_points_here", "_law_seats_here"] (xo s_ap):=mkS
theorem sc_ab:xv ["_law_height"] ["_law_height"] (xo s_ab):=mkS
theorem sc_aq:xv ["_law_cell", "_law_digits", "_law_points_here", "_law_height", "_law_seats_here", "_law_begun", "_law_back", "_law_free", "_law_pairs_here", "_law_k", "_law_point_here", "_law_numbers_here", "_law_side", "_law_row"] ["_law_cell", "_law_digits", "_law_points_here", "_law_height", "_law_seats_here"] (xo s_aq):=mkS
theorem sc_a1:xv ["_law_rows", "_law_found", "_law_place", "e"] ["_law_rows"] (xo s_a1):=mkS
theorem sc_av:xv ["_law_rows", "_law_found", "_law_place", "_law_picture_here", "_law_pairs_here", "_law_names", "_law_name", "_law_side", "_law_row"] ["_law_rows"] (xo s_av):=mkS
theorem sc_a4:xv ["_law_kind", "_law_number", "_law_rows", "_law_text"] ["_law_kind", "_law_number", "_law_rows"] (xo s_a4):=mkS
theorem sc_ak:xv ["_law_rows", "_law_numbers_here", "_law_y", "_law_x", "_law_sign_here", "_law_line"] ["_law_rows", "_law_numbers_here"] (xo s_ak):=mkS
theorem xbs:xv ["_law_script", "_law_width", "_law_height", "_law_seats_here", "_law_digits", "_law_points_here", "_law_picture_here", "_law_rows", "_law_found", "_law_place", "_law_first", "_law_cell", "_law_numbers_here"] ["_law_script"] (xo xms):=mkS
end S73
namespace S73
open PySem L2 XL PyProof.Rows
theorem xb5 {K:Zd}{v:Value}:Wb K v v=some true:=if_pos (by simp)
theorem xp {H H':Hp}{p:Addr}{o:HO} (s:Same H H') (hp:H' p=none):Same H (L2.upd H' p o):=fun b u z=>by
 have z':=s b u z;rw[xh (xi z' hp)];exact z'
theorem xq9 {H:Hp}{x dx:Addr}{a b c:HO} (hx:H x=none) (hd:H dx=none):Same H (upd (upd (upd H dx a) x b) x c):=fun y o e=>by
 rw[xh (xi e hx),xh (xi e hx),xh (xi e hd)];exact e
def x9 (b:Bool):Str:=if b then "left" else "right"
def xd3 (t:Adr) (H:Hp) (p:Addr) (b:Bool) (w:Int):Prop:=∃ dx,H p=some (.ins (if b then t.C_ae else t.C_q) dx [("width",.int w)])
def xs5 (K:Zd):Sp:=fun vs H Q _=>∃(p C dx:Addr) (n:Int),vs=[.ref p,.int n]/\H p=some (.ins C dx [])/\Cls K C/\xea K C "width"/\Q .non (upd H p (.ins C dx [("width",.int n)]))
def sp1 (v:V):Sp:=fun vs H Q _=>∃ p:V,vs=[p]/\Q v H
def xvv:Sp:=fun vs H Q _=>∃(p:V) (x:V),vs=[p,x]/\Q x H
def xq8 (t:Adr):Sp:=fun vs H Q _=>∃(p:Addr) (n:Int),vs=[.ref p]/\xd3 t H p false n/\Q (.int (n+1)) H
def xuq (t:Adr):Sp:=fun vs H Q _=>∃(p:Addr) (n x:Int),vs=[.ref p,.int x]/\xd3 t H p false n/\Q (.int (n+1-x)) H
def xgm (t:Adr):Sp:=fun vs H Q _=>∃(b:Bool) (n:Int),vs=[.str (x9 b),.int n]/\∀ p H',H p=none->xd3 t H' p b n->Same H H'->Q (.ref p) H'
section
variable {P:Program}{w:World}{K:Zd}{mg:Str->Option Value}{base:Heap}{t:Adr}
theorem ok_aw (T:Txt w K mg t):FnOk true P w K mg base (CXo P w) 1 t.f_aw t.d_aw ["self", "width"] (xs5 K):=by
 refine T.F_aw.okn (k:=0) sc_aw (fun vs H Q E h=>?_) (fun cdv A outer s H vs Q E hr h=>?_)
 .obtain ⟨p,C,dx,n,rfl,_⟩:=h;rfl
 .obtain ⟨p,C,dx,n,rfl,h⟩:=h;refine⟨_,xm (xdu (pv 0) (pv 1) rfl),?_⟩;obtain⟨hp,c,na,q⟩:=h;exact⟨_,rfl,_,rfl,p,C,dx,[],rfl,hp,c,na,(by show 0<1000; decide),q⟩
theorem ok_z (T:Txt w K mg t):FnOk true P w K mg base (CXo P w) 1 t.f_z t.d_z ["self"] (sp1 (.int 0)):=by
 refine T.F_z.okn (k:=0) sc_z (fun vs H Q E h=>?_) (fun cdv A outer s H vs Q E hr h=>?_)
 .obtain ⟨p,rfl,_⟩:=h;rfl
 .obtain ⟨p,rfl,h⟩:=h;refine⟨_,xm (x0 (xj)),?_⟩;exact h
theorem ok_ac (T:Txt w K mg t):FnOk true P w K mg base (CXo P w) 1 t.f_ac t.d_ac ["self"] (sp1 (.int (-1))):=by
 refine T.F_ac.okn (k:=0) sc_ac (fun vs H Q E h=>?_) (fun cdv A outer s H vs Q E hr h=>?_)
 .obtain ⟨p,rfl,_⟩:=h;rfl
 .obtain ⟨p,rfl,h⟩:=h;refine⟨_,xm (x0 (xqy xox (xj))),?_⟩;exact⟨1,rfl,h⟩
theorem ok_p (T:Txt w K mg t):FnOk true P w K mg base (CXo P w) 1 t.f_p t.d_p ["self", "x"] (xvv):=by
 refine T.F_p.okn (k:=0) sc_p (fun vs H Q E h=>?_) (fun cdv A outer s H vs Q E hr h=>?_)
 .obtain ⟨p,x,rfl,_⟩:=h;rfl
 .obtain ⟨p,x,rfl,h⟩:=h;refine⟨_,xm (x0 (pv 1)),?_⟩;exact⟨_,rfl,h⟩
theorem ok_v (T:Txt w K mg t):FnOk true P w K mg base (CXo P w) 1 t.f_v t.d_v ["self"] (sp1 (.int 1)):=by
 refine T.F_v.okn (k:=0) sc_v (fun vs H Q E h=>?_) (fun cdv A outer s H vs Q E hr h=>?_)
 .obtain ⟨p,rfl,_⟩:=h;rfl
 .obtain ⟨p,rfl,h⟩:=h;refine⟨_,xm (x0 (xj)),?_⟩;exact h
theorem ok_r (T:Txt w K mg t):FnOk true P w K mg base (CXo P w) 1 t.f_r t.d_r ["self"] (xq8 t):=by
 refine T.F_r.okn (k:=0) sc_r (fun vs H Q E h=>?_) (fun cdv A outer s H vs Q E hr h=>?_)
 .obtain ⟨p,n,rfl,_⟩:=h;rfl
 .obtain ⟨p,n,rfl,h⟩:=h;refine⟨_,xm (x0 (xt xan (xaa (pv 0) rfl) (xj))),?_⟩;obtain⟨⟨dx,hp⟩,q⟩:=h;exact⟨_,rfl,p,t.C_q,dx,_,_,rfl,hp,T.c_q,T.n_be,rfl,_,_,rfl,rfl,q⟩
theorem ok_m (T:Txt w K mg t):FnOk true P w K mg base (CXo P w) 1 t.f_m t.d_m ["self", "x"] (xuq t):=by
 refine T.F_m.okn (k:=0) sc_m (fun vs H Q E h=>?_) (fun cdv A outer s H vs Q E hr h=>?_)
 .obtain ⟨p,n,x,rfl,_⟩:=h;rfl
 .obtain ⟨p,n,x,rfl,h⟩:=h;refine⟨_,xm (x0 (xt xer (xt xan (xaa (pv 0) rfl) (xj)) (pv 1))),?_⟩;obtain⟨⟨dx,hp⟩,q⟩:=h;exact⟨_,rfl,p,t.C_q,dx,_,_,rfl,hp,T.c_q,T.n_be,rfl,_,_,rfl,rfl,_,rfl,_,_,rfl,rfl,q⟩
theorem ok_ao (T:Txt w K mg t):FnOk true P w K mg base (CXo P w) 3 t.f_ao t.d_ao ["word", "width"] (xgm t):=by
 refine T.F_ao.okn (k:=2) sc_ao (fun vs H Q E h=>?_) (fun cdv A outer s H vs Q E hr h=>?_)
 .obtain ⟨b,n,rfl,_⟩:=h;rfl
 .obtain ⟨b,n,rfl,h⟩:=h;refine⟨_,xk (xae (xas (x8 xb2 rfl T.n_isinstance boot_isinstance (xb (pv 0) (xb (xcy (v:=.ty "str") rfl T.n_str boot_str rfl) (xg))))) (xk (xae (x5 xa7 (pv 0) (xaf) (x6 _)) (xm (x0 (xe3 T.k_ae (ok_aw T) (hr.mono (by decide)) rfl T.g_ae T.b_aw .nil xn (xb (pv 1) (xg))))) (x4))
   (xm (xae (x5 xa7 (pv 0) (xaf) (x6 _)) (xm (x0 (xe3 T.k_q (ok_aw T) (hr.mono (by decide)) rfl T.g_q T.b_aw .nil xn (xb (pv 1) (xg))))) (x4)))) (x4))
   (xm (xa6)),?_⟩
  cases b with
  | true =>
   refine⟨_,rfl,_,_,rfl,.inl ⟨_,_,true,.str _,rfl,xb5,true,rfl,iteT ?_⟩⟩;refine⟨_,rfl,rfl,_,rfl,?_⟩;refine ifP (by decide +kernel) ?_;exact⟨_,rfl,fun x dx hx hdx ne=>⟨x,t.C_ae,dx,n,rfl,xf,T.c_ae,T.n_bj,rfl,h x _ hx ⟨dx,xf⟩ (xq9 hx hdx)⟩⟩
  | false =>
   refine⟨_,rfl,_,_,rfl,.inl ⟨_,_,true,.str _,rfl,xb5,true,rfl,iteT ?_⟩⟩;refine⟨_,rfl,rfl,_,rfl,?_⟩;refine ifN (by decide +kernel) ?_;refine⟨_,rfl,rfl,_,rfl,?_⟩;refine ifP (by decide +kernel) ?_;exact⟨_,rfl,fun x dx hx hdx ne=>⟨x,t.C_q,dx,n,rfl,xf,T.c_q,T.n_be,rfl,h x _ hx ⟨dx,xf⟩ (xq9 hx hdx)⟩⟩
end
def isNm (x:Str):Bool:=decide (x.length=1)&&(!decide (x.cps.toList<[97])&&!decide ([122]<x.cps.toList))
def xur:Sp:=fun vs H Q _=>∃(i lo hi:Int),vs=[.int i,.int lo,.int hi]/\lo<=i/\i<=hi/\Q (.bl true) H
def xvh:Sp:=fun vs H Q _=>∃(x:Str),vs=[.str x]/\isNm x=true/\Q (.bl true) H
theorem xm7:("a":Str).cps.toList=[97]:=by decide +kernel
theorem xqx:("z":Str).cps.toList=[122]:=by decide +kernel
section
variable {P:Program}{w:World}{K:Zd}{mg:Str->Option Value}{base:Heap}{t:Adr}
theorem ok_ai (T:Txt w K mg t):FnOk true P w K mg base (CXo P w) 1 t.f_ai t.d_ai ["thing", "low", "high"] (xur):=by
 refine T.F_ai.okn (k:=0) sc_ai (fun vs H Q E h=>?_) (fun cdv A outer s H vs Q E hr h=>?_)
 .obtain ⟨i,lo,hi,rfl,_⟩:=h;rfl
 .obtain ⟨i,lo,hi,rfl,h⟩:=h;refine⟨_,xm (x0 (xce (x8 xb2 rfl T.n_isinstance boot_isinstance (xb (pv 0) (xb (xcy (v:=.ty "int") rfl T.n_int boot_int rfl) (xg)))) (xce (xnc (x8 xb2 rfl T.n_isinstance boot_isinstance (xb (pv 0) (xb (xcy (v:=.ty "bool") rfl T.n_bool boot_bool rfl) (xg))))) (xc7 (xd2 xec xec (pv 1) (pv 0) (pv 2)))))),?_⟩;obtain⟨c1,c2,q⟩:=h;refine⟨_,rfl,_,_,rfl,.inl ⟨_,_,true,.int i,rfl,xb5,true,rfl,iteT ?_⟩⟩;refine⟨_,rfl,_,_,rfl,.inl ⟨_,_,false,.int i,rfl,(by rfl),false,rfl,true,rfl,iteT ?_⟩⟩;refine⟨_,rfl,_,rfl,_,_,rfl,rfl,_,rfl,ite2 (fun c=>?_) (fun c=>?_)⟩
  .refine ⟨_,rfl,_,_,rfl,rfl,?_⟩;show Q (.bl (decide (i<=hi))) H;rw[decide_eq_true c2];exact q
  .exact absurd (decide_eq_true c1) c
theorem ok_ar (T:Txt w K mg t):FnOk true P w K mg base (CXo P w) 1 t.f_ar t.d_ar ["thing"] (xvh):=by
 refine T.F_ar.okn (k:=0) sc_ar (fun vs H Q E h=>?_) (fun cdv A outer s H vs Q E hr h=>?_)
 .obtain ⟨x,rfl,_⟩:=h;rfl
 .obtain ⟨x,rfl,h⟩:=h;refine⟨_,xm (x0 (xce (x8 xb2 rfl T.n_isinstance boot_isinstance (xb (pv 0) (xb (xcy (v:=.ty "str") rfl T.n_str boot_str rfl) (xg)))) (xce (xb8 xa7 (x8 xba rfl T.n_len Jy (xb (pv 0) (xg))) (xj) (x6 _)) (xc7 (xd2 xeb xeb (xaf) (pv 0) (xaf)))))),?_⟩;obtain⟨hn,q⟩:=h;unfold isNm at hn;simp only[Zr,decide_eq_true_eq,Yo,decide_eq_false_iff_not] at hn;obtain⟨l1,n1,n2⟩:=hn;refine⟨_,rfl,_,_,rfl,.inl ⟨_,_,true,.str x,rfl,xb5,true,rfl,iteT ?_⟩⟩;refine⟨_,rfl,_,rfl,(by rw[l1]; decide),rfl,_,rfl,ite2 (fun c=>?_) (fun c=>?_)⟩
  .refine ⟨_,rfl,_,_,rfl,rfl,_,rfl,ite2 (fun d=>?_) (fun d=>?_)⟩
   .refine ⟨_,_,rfl,rfl,?_⟩;rw[xqx,decide_eq_false n2];exact q
   .rw [xm7,decide_eq_false n1] at d;exact absurd rfl d
  .exact absurd (decide_eq_true (by rw[l1]; rfl)) c
end
structure Pt where
 nm:Str
 x:Int
 y:Int
 sd:Str
 lo:Int
 hi:Int
def ptV (p:Pt):List V:=[.int p.x,.int p.y,.str p.sd,.int p.lo,.int p.hi]
inductive Pl (H:Hp):List Pt->List (Key × V)->Prop
 | nil:Pl H [] []
 | cons {p:Pt}{q:Addr}{ps:List Pt}{kvs:List (Key × V)} (h:H q=some (.tup (ptV p))) (r:Pl H ps kvs):Pl H (p::ps) ((.inr p.nm,.ref q)::kvs)
inductive PtsL (H:Hp):List Pt->List Addr->Prop
 | nil:PtsL H [] []
 | cons {p:Pt}{q:Addr}{ps:List Pt}{qs:List Addr} (h:H q=some (.tup (.str p.nm::ptV p))) (r:PtsL H ps qs):PtsL H (p::ps) (q::qs)
theorem xuu {σ:L2.St}{H:Hp}{A B:Hp->Prop} (h:A H):xdp σ H (fun b H4=>if b=true then A H4 else B H4):=by
 show if true=true then A H else B H
 rw[if_pos rfl];exact h
theorem xum {i:Nat}{v:V}{σ:L2.St}{H:Hp}{A B:L2.St->Hp->Prop} (h:A (σ.set i (some v)) H):xei i v σ H (fun σ' H'=>xdp σ' H' fun b H4=>if b=true then A σ' H4 else B σ' H4):=by
 show if true=true then A (σ.set i (some v)) H else B (σ.set i (some v)) H
 rw[if_pos rfl];exact h
def Tups (H H':Hp):Prop:=∀ b xs,H b=some (.tup xs)->H' b=some (.tup xs)
theorem Pl.keep {H H':Hp} (s:Tups H H') {ps:List Pt}{kvs:List (Key × V)} (h:Pl H ps kvs):Pl H' ps kvs:=by
 induction h with
 | nil=>exact .nil
 | cons h _ ih=>exact .cons (s _ _ h) ih
theorem PtsL.keep {H H':Hp} (s:Tups H H') {ps:List Pt}{qs:List Addr} (h:PtsL H ps qs):PtsL H' ps qs:=by
 induction h with
 | nil=>exact .nil
 | cons h _ ih=>exact .cons (s _ _ h) ih
theorem Pl.len {H:Hp}{ps:List Pt}{kvs:List (Key × V)} (h:Pl H ps kvs):kvs.length=ps.length:=by
 induction h with
 | nil=>rfl
 | cons _ _ ih=>simp[ih]
theorem PtsL.len {H:Hp}{ps:List Pt}{qs:List Addr} (h:PtsL H ps qs):qs.length=ps.length:=by
 induction h with
 | nil=>rfl
 | cons _ _ ih=>simp[ih]
theorem Pl.find {H:Hp}{ps:List Pt}{kvs:List (Key × V)} (h:Pl H ps kvs) {nm:Str}{pt:Pt} (e:ps.find? (fun p=>decide (p.nm=nm))=some pt):∃ q,valV kvs (.inr nm)=some (.ref q)/\H q=some (.tup (ptV pt)):=by
 induction h with
 | nil=>simp at e
 | @cons p q ps kvs h _ ih =>
  by_cases c:p.nm=nm
  .rw [QG (by simpa using c)] at e;cases e;exact⟨q,xa1 (by rw[c]),h⟩
  .rw [QH (by simpa using c)] at e;obtain⟨q',h1,h2⟩:=ih e;exact⟨q',by rw[xay (fun z=>c (J9.inj z))]; exact h1,h2⟩
theorem Pl.no {H:Hp}{ps:List Pt}{kvs:List (Key × V)} (h:Pl H ps kvs) {nm:Str} (e:∀ p∈ps,p.nm≠nm):valV kvs (.inr nm)=none:=by
 induction h with
 | nil=>rfl
 | @cons p q ps kvs h _ ih =>
  rw[xay (fun z=>e p Zz (J9.inj z))];exact ih fun p' hp=>e p' (Zy _ hp)
theorem Pl.get {H:Hp}{ps:List Pt}{kvs:List (Key × V)} (h:Pl H ps kvs) {i:Nat}{k:Key}{x:V} (e:kvs[i]?=some (k,x)):∃ p q,ps[i]?=some p/\k=.inr p.nm/\x=.ref q/\H q=some (.tup (ptV p)):=by
 induction h generalizing i with
 | nil=>simp at e
 | @cons p q ps kvs h _ ih =>
  cases i with
  | zero =>
   simp at e;exact⟨p,q,rfl,e.1.symm,e.2.symm,h⟩
  | succ j=>exact ih (by simpa using e)
theorem PtsL.get {H:Hp}{ps:List Pt}{qs:List Addr} (h:PtsL H ps qs) {i:Nat}{q:Addr} (e:qs[i]?=some q):∃ p,ps[i]?=some p/\H q=some (.tup (.str p.nm::ptV p)):=by
 induction h generalizing i with
 | nil=>simp at e
 | @cons p q' ps qs h _ ih =>
  cases i with
  | zero =>
   simp at e;subst e;exact⟨p,rfl,h⟩
  | succ j=>exact ih (by simpa using e)
theorem Pl.snoc {H:Hp}{ps:List Pt}{kvs:List (Key × V)} (h:Pl H ps kvs) {p:Pt}{q:Addr} (e:H q=some (.tup (ptV p))):Pl H (ps++[p]) (kvs++[(.inr p.nm,.ref q)]):=by
 induction h with
 | nil=>exact .cons e .nil
 | cons h _ ih=>exact .cons h ih
theorem PtsL.snoc {H:Hp}{ps:List Pt}{qs:List Addr} (h:PtsL H ps qs) {p:Pt}{q:Addr} (e:H q=some (.tup (.str p.nm::ptV p))):PtsL H (ps++[p]) (qs++[q]):=by
 induction h with
 | nil=>exact .cons e .nil
 | cons h _ ih=>exact .cons h ih
abbrev picF (w h:Int) (dp do_:Addr):List (Str × V):=[("width",.int w),("height",.int h),("placed",.ref dp),("opened",.ref do_)]
structure Pic (t:Adr) (H:Hp) (a dp do_:Addr) (w h:Int) (ps:List Pt):Prop where
 ins:∃ dx,H a=some (.ins t.C_c dx (picF w h dp do_))
 pl:∃ kvs,H dp=some (.dK kvs)/\Pl H ps kvs
 w1:1<=w
 w2:w<=30
 h1:1<=h
 h2:h<=16
 len:ps.length<=12
theorem Same.tups {H H':Hp} (s:Same H H'):Tups H H':=fun b xs e=>s b _ e
theorem Pic.same {t:Adr}{H H':Hp}{a dp do_:Addr}{w h:Int}{ps:List Pt} (s:Same H H') (p:Pic t H a dp do_ w h ps):Pic t H' a dp do_ w h ps :=
 ⟨let ⟨dx,e⟩:=p.ins; ⟨dx,s _ _ e⟩,let ⟨kvs,e,q⟩:=p.pl; ⟨kvs,s _ _ e,q.keep (Same.tups s)⟩,p.w1,p.w2,p.h1,p.h2,p.len⟩
theorem xa2 {w h:Int}{dp do_:Addr}{m:Str} (e:((["width", "height", "placed", "opened"]:List Str).all fun k=>!(m == k))=true):(picF w h dp do_).lookup m=none:=by
 simp only[Qv,List.all_nil,Zr,Yo] at e;obtain⟨e1,e2,e3,e4,_⟩:=e;unfold picF;rw[Zw,e1];show Jc m [("height",V.int h),("placed",V.ref dp),("opened",V.ref do_)]=none;rw[Zw,e2];show Jc m [("placed",V.ref dp),("opened",V.ref do_)]=none;rw[Zw,e3];show Jc m [("opened",V.ref do_)]=none;rw[Zw,e4];rfl
theorem lkW {w h:Int}{dp do_:Addr}:(picF w h dp do_).lookup ("width":Str)=some (.int w):=by
 unfold picF;rw[Zw,show (("width":Str) == "width")=true from by decide +kernel]
theorem lkH {w h:Int}{dp do_:Addr}:(picF w h dp do_).lookup ("height":Str)=some (.int h):=by
 unfold picF;rw[Zw,show (("height":Str) == "width")=false from by decide +kernel];show Jc ("height":Str) [("height",V.int h),("placed",V.ref dp),("opened",V.ref do_)]=_;rw[Zw,show (("height":Str) == "height")=true from by decide +kernel]
theorem lkP {w h:Int}{dp do_:Addr}:(picF w h dp do_).lookup ("placed":Str)=some (.ref dp):=by
 unfold picF;rw[Zw,show (("placed":Str) == "width")=false from by decide +kernel];show Jc ("placed":Str) [("height",V.int h),("placed",V.ref dp),("opened",V.ref do_)]=_;rw[Zw,show (("placed":Str) == "height")=false from by decide +kernel];show Jc ("placed":Str) [("placed",V.ref dp),("opened",V.ref do_)]=_;rw[Zw,show (("placed":Str) == "placed")=true from by decide +kernel]
def xr0 (t:Adr):Sp:=fun vs H Q _=>∃(p dx:Addr) (w h:Int),vs=[.ref p,.int w,.int h]/\H p=some (.ins t.C_c dx [])/\1<=w/\w<=30/\1<=h/\h<=16 /\
 ∀ H' dp do_,H dp=none->H do_=none->(∀ b u,b≠p->H b=some u->H' b=some u)->Pic t H' p dp do_ w h []->H' do_=some (.dT [])->Q .non H'
def spCN (t:Adr):Sp:=fun vs H Q _=>∃(a dp do_:Addr) (pw ph:Int) (ps:List Pt) (nm:Str) (pt:Pt),vs=[.ref a,.str nm]/\Pic t H a dp do_ pw ph ps/\isNm nm=true/\ps.find? (fun p=>decide (p.nm=nm))=some pt/\Q .non H
def spCC (t:Adr):Sp:=fun vs H Q _=>∃(a dp do_:Addr) (pw ph:Int) (ps:List Pt) (x y:Int),vs=[.ref a,.int x,.int y]/\Pic t H a dp do_ pw ph ps/\1<=x/\x<=pw/\1<=y/\y<=ph/\Q .non H
def xvp (t:Adr):Sp:=fun vs H Q _=>∃(a dp do_:Addr) (pw ph:Int) (ps:List Pt),vs=[.ref a]/\Pic t H a dp do_ pw ph ps/\∀ H' l qs,Same H H'->H' l=some (.lst (qs.map V.ref))->PtsL H' ps qs->Q (.ref l) H'
def spCL (t:Adr):Sp:=fun vs H Q _=>∃(a dp do_:Addr) (pw ph:Int) (ps:List Pt) (nm:Str) (x y:Int),vs=[.ref a,.str nm,.int x,.int y]/\Pic t H a dp do_ pw ph ps/\(∀ p∈ps,p.nm≠nm->p.x≠x/\p.y≠y)/\∀ H',Same H H'->Q .non H'
def spCS (t:Adr):Sp:=fun vs H Q _=>∃(a dp do_:Addr) (pw ph:Int) (ps:List Pt) (b:Bool) (r:Int),vs=[.ref a,.str (x9 b),.int r]/\Pic t H a dp do_ pw ph ps/\1<=r/\r<=ph/\∀ H',Same H H'->Q .non H'
def xqw (t:Adr):Sp:=fun vs H Q _=>∃(a dp do_:Addr) (pw ph:Int) (ps:List Pt) (nm:Str) (x y:Int) (sd:Str) (lo hi:Int) (hv:V),vs=[.ref a,.str nm,.int x,.int y,.str sd,.int lo,hv]/\Pic t H a dp do_ pw ph ps /\
 ((hv=.non/\hi=ph)\/hv=.int hi)/\isNm nm=true/\1<=x/\x<=pw/\1<=y/\y<=ph/\(sd="left"\/sd="right"\/sd="both")/\1<=lo/\lo<=hi/\hi<=ph/\(∀ p∈ps,p.nm≠nm/\p.x≠x/\p.y≠y)/\ps.length<12 /\
 ∀ H',(∀ b u,b≠dp->H b=some u->H' b=some u)->Pic t H' a dp do_ pw ph (ps++[⟨nm,x,y,sd,lo,hi⟩])->Q .non H'
def xup (t:Adr):Sp:=fun vs H Q _=>∃(a dp do_:Addr) (pw ph:Int) (ps:List Pt) (nm:Str) (pt:Pt),vs=[.ref a,.str nm]/\Pic t H a dp do_ pw ph ps/\isNm nm=true/\ps.find? (fun p=>decide (p.nm=nm))=some pt /\
 ∀ H' q,Same H H'->H' q=some (.tup [.int pt.x,.int pt.y])->Q (.ref q) H'
def lenI (w x y:Int) (b:Bool) (r:Int):Int:=(if b then x else w+1-x)+(if y-r<0 then -(y-r) else y-r)
def xvc (t:Adr):Sp:=fun vs H Q _=>∃(a dp do_:Addr) (pw ph:Int) (ps:List Pt) (nm:Str) (pt:Pt) (b:Bool) (r:Int),vs=[.ref a,.str nm,.str (x9 b),.int r]/\Pic t H a dp do_ pw ph ps/\isNm nm=true/\ps.find? (fun p=>decide (p.nm=nm))=some pt/\1<=r/\r<=ph /\
 ∀ H',Same H H'->Q (.int (lenI pw pt.x pt.y b r)) H'
section
variable {P:Program}{w:World}{K:Zd}{mg:Str->Option Value}{base:Heap}{t:Adr}
theorem ok_ah (T:Txt w K mg t):FnOk true P w K mg base (CXo P w) 2 t.f_ah t.d_ah ["self", "width", "height"] (xr0 t):=by
 refine T.F_ah.okn (k:=1) sc_ah (fun vs H Q E h=>?_) (fun cdv A outer s H vs Q E hr h=>?_)
 .obtain ⟨p,dx,pw,ph,rfl,_⟩:=h;rfl
 .obtain ⟨p,dx,pw,ph,rfl,h⟩:=h;refine⟨_,xk (xae (PW.pt (xcr (xbg (xas (xu (ok_ai T) (hr.mono (by decide)) rfl T.g_ai T.F_ai.kp T.b_ai .nil xn (xb (pv 1) (xb (xj) (xb (xdl (v:=.int 30) rfl T.v_bg.choose_spec ⟨_,rfl⟩) (xg))))))) (xck (xbg (xas (xu (ok_ai T) (hr.mono (by decide)) rfl T.g_ai T.F_ai.kp T.b_ai .nil xn (xb (pv 2) (xb (xj) (xb (xdl (v:=.int 16) rfl T.v_bk.choose_spec ⟨_,rfl⟩) (xg)))))))))) (xm (xa6)) (x4))
   (xk (xdu (pv 0) (pv 1) rfl)
   (xk (xdu (pv 0) (pv 2) rfl)
   (xk (xdu (pv 0) (xgz) rfl)
   (xm (xdu (pv 0) (xks) rfl))))),?_⟩
  obtain⟨hp,w1,w2,h1,h2,q⟩:=h;refine⟨_,rfl,pw,1,30,rfl,w1,w2,true,rfl,iteF ⟨_,rfl,ph,1,16,rfl,h1,h2,true,rfl,iteF ?_⟩⟩;refine⟨_,rfl,_,rfl,p,_,dx,_,rfl,hp,T.c_c,T.n_a9,(by show 0<1000; decide),?_⟩;refine⟨_,rfl,_,rfl,p,_,dx,_,rfl,xf,T.c_c,T.n_a8,(by show 1<1000; decide),?_⟩;rw[xez];refine fun dp hdp=>?_;have n1:p≠dp:=xi xf hdp;refine⟨_,rfl,p,_,dx,_,rfl,(by rw[xh n1]; exact xf),T.c_c,T.n_a7,(by show 2<1000; decide),fun do_ hdo=>?_⟩;have n2:p≠do_:=xi xf hdo;have n3:dp≠do_:=xi (by rw[xh (ZF n1)]; exact xf) hdo;refine⟨_,rfl,p,_,dx,_,rfl,(by rw[xh n2]; exact xf),T.c_c,T.n_bd,(by show 3<1000; decide),?_⟩;rw[xh (ZF n1)] at hdp;have hdo':H do_=none:=by
   have z:=hdo;rw[xh (ZF n2),xh (ZF n3),xh (ZF n2)] at z;exact z
  refine q _ dp do_ hdp hdo' (fun b u nb e=>?_) ⟨⟨dx,xf⟩,⟨[],?_,.nil⟩,w1,w2,h1,h2,Jb _⟩ ?_
  .have c1:b≠dp:=xi e hdp;have c2:b≠do_:=fun z=>by
    subst z;rw[xh nb,xh c1,xh nb] at hdo;rw[e] at hdo;cases hdo
   rw[xh nb,xh c2,xh nb,xh c1,xh nb];exact e
  .rw [xh (ZF n1),xh n3,xh (ZF n1)];exact xf
  .rw [xh (ZF n2)];exact xf
theorem ok_i (T:Txt w K mg t):FnOk true P w K mg base (CXo P w) 2 t.f_i t.d_i ["self", "name"] (spCN t):=by
 refine T.F_i.okn (k:=1) sc_i (fun vs H Q E h=>?_) (fun cdv A outer s H vs Q E hr h=>?_)
 .obtain ⟨a,dp,do_,pw,ph,ps,nm,pt,rfl,_⟩:=h;rfl
 .obtain ⟨a,dp,do_,pw,ph,ps,nm,pt,rfl,h⟩:=h;refine⟨_,xm (xae (PW.pt (xcr (xbg (xas (xu (ok_ar T) (hr.mono (by decide)) rfl T.g_ar T.F_ar.kp T.b_ar .nil xn (xb (pv 1) (xg))))) (xck (xe1 (xel (xbo hr) (pv 1) (xaa (pv 0) rfl)))))) (xm (xa6)) (x4)),?_⟩;obtain⟨pic,hn,hf,q⟩:=h;obtain⟨⟨dx,hp⟩,⟨kvs,hk,pl⟩,_⟩:=id pic;obtain⟨q0,e,_⟩:=pl.find hf;exact⟨_,rfl,nm,rfl,hn,true,rfl,iteF ⟨_,rfl,_,rfl,a,_,dx,_,_,rfl,hp,T.c_c,T.n_a7,lkP,dp,some (.ref q0),rfl,(by rw[<- e]; exact DGet.k (k:=.inr nm) hk),false,rfl,iteF q⟩⟩
theorem ok_j (T:Txt w K mg t):FnOk true P w K mg base (CXo P w) 2 t.f_j t.d_j ["self", "x", "y"] (spCC t):=by
 refine T.F_j.okn (k:=1) sc_j (fun vs H Q E h=>?_) (fun cdv A outer s H vs Q E hr h=>?_)
 .obtain ⟨a,dp,do_,pw,ph,ps,x,y,rfl,_⟩:=h;rfl
 .obtain ⟨a,dp,do_,pw,ph,ps,x,y,rfl,h⟩:=h;refine⟨_,xm (xae (PW.pt (xcr (xbg (xas (xu (ok_ai T) (hr.mono (by decide)) rfl T.g_ai T.F_ai.kp T.b_ai .nil xn (xb (pv 1) (xb (xj) (xb (xaa (pv 0) rfl) (xg))))))) (xck (xbg (xas (xu (ok_ai T) (hr.mono (by decide)) rfl T.g_ai T.F_ai.kp T.b_ai .nil xn (xb (pv 2) (xb (xj) (xb (xaa (pv 0) rfl) (xg)))))))))) (xm (xa6)) (x4)),?_⟩;obtain⟨pic,x1,x2,y1,y2,q⟩:=h;obtain⟨⟨dx,hp⟩,_,_⟩:=id pic;exact⟨_,rfl,_,rfl,a,_,dx,_,_,rfl,hp,T.c_c,T.n_a9,lkW,x,1,pw,rfl,x1,x2,true,rfl,iteF ⟨_,rfl,_,rfl,a,_,dx,_,_,rfl,hp,T.c_c,T.n_a8,lkH,y,1,ph,rfl,y1,y2,true,rfl,iteF q⟩⟩
theorem ok_l (T:Txt w K mg t):FnOk true P w K mg base (CXo P w) 1 t.f_l t.d_l ["self"] (xvp t):=by
 refine T.F_l.okn (k:=0) sc_l (fun vs H Q E h=>?_) (fun cdv A outer s H vs Q E hr h=>?_)
 .obtain ⟨a,dp,do_,pw,ph,ps,rfl,_⟩:=h;rfl
 .obtain ⟨a,dp,do_,pw,ph,ps,rfl,h⟩:=h;refine⟨_,xm (x0 (xsa (xcv rfl (xbh (zs:=["name", "rest"]) (ys:=[]) (fr:=[]) (N0:=["self"]) (sc0:=xo s_l) (by decide +kernel) rfl rfl rfl) (xgw (xaa (pv 0) rfl)) (fun _ _ _ _ _ ow nd=>(xap rfl (xr (xq (i:=0) nd rfl (Zn (ow _ (by simp))) (J8 (ow _ (by simp)))) (xr (xq (i:=1) nd rfl (Zn (ow _ (by simp))) (J8 (ow _ (by simp)))) (xag))):PG _ _ (gTup K 2 _))) (xes (xbk (by decide) (xbk (by decide) (xd6)))) (fun _ _ _ _ _=>xbu) (fun _ _ _ _ _=>xt (r:=xm1 K) xlh (xaj (xb (pv 0) (xg))) (pv 1))))),?_⟩;obtain⟨pic,q⟩:=h;obtain⟨⟨dx,hp⟩,⟨kvs,hk,pl⟩,_⟩:=id pic;refine⟨_,rfl,a,_,dx,_,_,rfl,hp,T.c_c,T.n_a7,lkP,dp,kvs,rfl,hk,fun ob nf l hl=>?_⟩;have nl:l≠dp:=fun z=>by
   rw[z,xf] at hl;cases hl
  have hl0:H l=none:=by rwa [xh nl] at hl
  refine xde kvs.length (fun i xs H2=>∃ qs:List Addr,xs=qs.map V.ref/\qs.length<=i/\H2 dp=some (.frz ob (.dK kvs))/\(∀ b u,b≠dp->H b=some u->H2 b=some u)/\H2 l=some (.lst xs)/\PtsL H2 (ps.take i) qs) ?_ ?_ ?_ ?_
  .refine ⟨[],rfl,Zi _,?_,fun b u nb e=>?_,xf,by simpa using PtsL.nil⟩
   .rw [xh (ZF nl)];exact xf
   .rw [xh (xi e hl0),xh nb];exact e
  .rintro i xs H2 lt ⟨qs,_,_,hd,_⟩;exact⟨hd,lt⟩
  .rintro i xs H2 v H3 lt ⟨qs,rfl,ql,hd,sm,hl2,pts⟩ ⟨p,k,x,hx,rfl,hpn,rfl⟩ N hN;obtain⟨pt,q0,hpt,rfl,rfl,hq0⟩:=pl.get hx;have e0:H2 q0=some (.tup (ptV pt)):=sm _ _ (xai hq0 hk (fun z=>nomatch z)) hq0;refine⟨p,_,rfl,SqT.of xf,rfl,_,_,rfl,_,_,rfl,rfl,?_⟩;refine xuu ?_;have n0:q0≠p:=xi e0 hpn;refine⟨_,rfl,(by show 1<=sizeLine; decide),fun p1 h1=>⟨_,rfl,p1,q0,_,ptV pt,rfl,rfl,SqT.of xf,SqT.of ?_,(by simp),(by show 1+5<=sizeLine; decide),(fun z=>nomatch z),fun _ p2 h2=>?_⟩⟩
   .rw [xh (xi (by rw[xh n0]; exact e0) h1),xh n0];exact e0
   have up:∀ b u,H2 b=some u->(upd (upd (upd H2 p (.tup [.str pt.nm,.ref q0])) p1 (.tup [.str pt.nm])) p2 (.tup ([.str pt.nm]++ptV pt))) b=some u:=fun b u e=>by
    have c1:b≠p:=xi e hpn;have e1:upd H2 p (.tup [.str pt.nm,.ref q0]) b=some u:=by rw[xh c1]; exact e
    have c2:b≠p1:=xi e1 h1;have e2:upd (upd H2 p (.tup [.str pt.nm,.ref q0])) p1 (.tup [.str pt.nm]) b=some u:=by rw[xh c2]; exact e1
    rw[xh (xi e2 h2)];exact e2
   have c3:l≠p2:=xi (show upd (upd H2 p (.tup [.str pt.nm,.ref q0])) p1 (.tup [.str pt.nm]) l=some (.lst (qs.map V.ref)) from by
    have c1:l≠p:=xi hl2 hpn;have e1:upd H2 p (.tup [.str pt.nm,.ref q0]) l=some (.lst (qs.map V.ref)):=by rw[xh c1]; exact hl2
    rw[xh (xi e1 h1)];exact e1) h2
   have tk:ps.take (i+1)=ps.take i++[pt]:=by
    rw[ZT,hpt];rfl
   have ll:qs.length<sizeLine:=Jo (by have:=pl.len; have:=pic.len; omega:qs.length<13) (by decide);refine⟨up _ _ hl2,by rw[Za]; exact ll,hN _ _ ⟨qs++[p2],by simp,by simp; omega,?_,fun b u nb e=>?_,xf,?_⟩⟩
   .rw [xh (ZF nl)];exact up _ _ hd
   .have e2:=up _ _ (sm b u nb e);rw[xh (xi e hl0)];exact e2
   .rw [tk];refine PtsL.snoc (PtsL.keep (fun b xs e=>?_) pts) ?_
    .have e2:=up _ _ e;rw[xh (xai e2 (up _ _ hl2) (fun z=>nomatch z))];exact e2
    .rw [xh (ZF c3)];exact xf
  .rintro xs H2 ⟨qs,rfl,_,hd,sm,hl2,pts⟩;refine⟨⟨hd,Zi _⟩,dp,ob,_,hd,nf,q _ l qs (fun b u e=>?_) ?_ (PtsL.keep (fun b xs e=>?_) (by rw[pl.len,JM] at pts; exact pts))⟩
   .by_cases c:b=dp
    .subst c;rw[hk] at e;cases e;exact xf
    .rw [xh c];exact sm b u c e
   .rw [xh nl];exact hl2
   .rw [xh (xai e hd (fun z=>nomatch z))];exact e
theorem ok_d (T:Txt w K mg t):FnOk true P w K mg base (CXo P w) 2 t.f_d t.d_d ["self", "name", "x", "y"] (spCL t):=by
 refine T.F_d.okn (k:=1) sc_d (fun vs H Q E h=>?_) (fun cdv A outer s H vs Q E hr h=>?_)
 .obtain ⟨a,dp,do_,pw,ph,ps,nm,x,y,rfl,_⟩:=h;rfl
 .obtain ⟨a,dp,do_,pw,ph,ps,nm,x,y,rfl,h⟩:=h;refine⟨_,xk (xch rfl (xbh (zs:=["other"]) (ys:=["name"]) (fr:=[1]) (N0:=["self", "name", "x", "y", "others", "other"]) (sc0:=xo s_d) (by decide +kernel) rfl rfl rfl) (xa0 (xbb (pv 0) T.c_c T.m_l (ok_l T) (hr.mono (by decide)) T.b_l .nil xn)) (fun _ _ _ _ _ ow nd=>xq (i:=0) nd rfl (Zn (ow _ (by simp))) (J8 (ow _ (by simp)))) (xbz (by decide)) (fun _ _ _ _ _=>xic (x5 xjl (xab (r:=rIxT K) xbq (pv 0) (xj) (fun _ _=>rfl)) (pv 1) (x6 _))) (fun _ _ _ _ _=>pv 0) (j:=4) rfl (Zn rfl))
   (xk (xa4 ZO rfl (xa0 (pv 4)) (xq (i:=5) sc_d.nd rfl (Zn rfl)) (xm (xae (x5 xa7 (xab xbq (pv 5) (xj) (fun _ _=>rfl)) (pv 2) (x6 _)) (xm (xa6)) (x4))))
   (xm (xa4 ZO rfl (xa0 (pv 4)) (xq (i:=5) sc_d.nd rfl (Zn rfl)) (xm (xae (x5 xa7 (xab xbq (pv 5) (xj) (fun _ _=>rfl)) (pv 3) (x6 _)) (xm (xa6)) (x4)))))),?_⟩
  obtain⟨pic,no,q⟩:=h;obtain⟨⟨dx,hp⟩,⟨kvs,hk,pl⟩,_⟩:=id pic;refine⟨_,rfl,a,dx,_,rfl,hp,xa2 (by decide +kernel),a,dp,do_,pw,ph,ps,rfl,pic,fun H1 l1 qs s1 hl1 pt1=>⟨l1,rfl,⟨_,SqL.of hl1⟩,fun l hl=>?_⟩⟩;refine xde qs.length (fun i xs H2=>∃ os:List Addr,xs=os.map V.ref/\os.length<=i/\Same H1 H2/\H2 l=some (.lst xs)/\∀ o∈os,∃ p∈ps,p.nm≠nm/\H1 o=some (.tup (.str p.nm::ptV p))) ?_ ?_ ?_ ?_
  .exact ⟨[],rfl,Zi _,xp (Same.refl _) hl,xf,fun o z=>nomatch z⟩
  .rintro i xs H2 lt ⟨os,_,_,s2,_⟩;exact⟨_,.ref qs[i],SqL.of (s2 _ _ hl1),by simp[lt]⟩
  .rintro i xs H2 v H3 lt ⟨os,rfl,ol,s2,hl2,hos⟩ ⟨rfl,hv⟩ N hN;have hv':=hv _ (SqL.of (s2 _ _ hl1));rw[Zh] at hv';obtain⟨o,ho,rfl⟩:=Zl.mp hv';obtain⟨p,hpp,ep⟩:=pt1.get ho;refine⟨_,rfl,o,_,0,_,rfl,rfl,SqT.of (s2 _ _ ep),rfl,_,rfl,rfl,_,rfl,ite2 (fun c=>?_) (fun c=>?_)⟩
   .have cn:p.nm≠nm:=fun z=>by
     rw[z] at c;simp at c
    refine⟨_,rfl,hl2,(by rw[Za]; exact Jo (by have:=pt1.len; have:=pic.len; omega:os.length<13) (by decide)),hN _ _ ⟨os++[o],by simp,by simp; omega,?_,xf,?_⟩⟩
    .intro b u e
     by_cases cb:b=l
     .subst cb;rw[e] at hl;cases hl
     .rw [xh cb];exact s2 b u e
    .intro o' ho'
     rcases Z5.mp ho' with z|z
     .exact hos o' z
     .have:=Zv.mp z;subst this;exact⟨p,Zo hpp,cn,ep⟩
   .exact hN _ _ ⟨os,rfl,by omega,s2,hl2,hos⟩
  .rintro xs H2 ⟨os,rfl,ol,s2,hl2,hos⟩;refine⟨⟨_,SqL.of (s2 _ _ hl1),by simp⟩,?_⟩;have loop:∀(o:Addr),o∈os->∃ p∈ps,p.nm≠nm/\H2 o=some (.tup (.str p.nm::ptV p)):=fun o ho=>by
    obtain⟨p,h1,h2,h3⟩:=hos o ho;exact⟨p,h1,h2,s2 _ _ h3⟩
   refine⟨_,rfl,l,rfl,⟨_,SqL.of hl2⟩,xbd (xs:=os.map V.ref) (Pv:=fun i σ H3=>∃ v5:Option V,σ=[some (.ref a),some (.str nm),some (.int x),some (.int y),some (.ref l),v5]/\H2=H3) ⟨_,rfl,rfl⟩ (fun _ _ _ _ ⟨_,_,z⟩=>by rw[<- z]; exact SqL.of hl2) ?_ ?_⟩
   .rintro i v σ _ hv ⟨v5,rfl,rfl⟩;rw[Zh] at hv;obtain⟨o,ho,rfl⟩:=Zl.mp hv;obtain⟨p,m1,m2,m3⟩:=loop o (Zo ho);refine⟨_,rfl,o,_,1,_,rfl,rfl,SqT.of m3,rfl,_,rfl,rfl,_,rfl,ifN (decide_eq_false fun z=>(no p m1 m2).1 (V.int.inj z)) ⟨_,rfl,rfl⟩⟩
   .rintro σ _ ⟨v5,rfl,rfl⟩;refine⟨_,rfl,l,rfl,⟨_,SqL.of hl2⟩,xbd (xs:=os.map V.ref) (Pv:=fun i σ H3=>∃ v5:Option V,σ=[some (.ref a),some (.str nm),some (.int x),some (.int y),some (.ref l),v5]/\H2=H3) ⟨_,rfl,rfl⟩ (fun _ _ _ _ ⟨_,_,z⟩=>by rw[<- z]; exact SqL.of hl2) ?_ ?_⟩
    .rintro i v σ _ hv ⟨v5,rfl,rfl⟩;rw[Zh] at hv;obtain⟨o,ho,rfl⟩:=Zl.mp hv;obtain⟨p,m1,m2,m3⟩:=loop o (Zo ho);refine⟨_,rfl,o,_,2,_,rfl,rfl,SqT.of m3,rfl,_,rfl,rfl,_,rfl,ifN (decide_eq_false fun z=>(no p m1 m2).2 (V.int.inj z)) ⟨_,rfl,rfl⟩⟩
    .rintro σ _ ⟨v5,rfl,rfl⟩;exact q _ (s1.trans s2)
theorem ok_e (T:Txt w K mg t):FnOk true P w K mg base (CXo P w) 4 t.f_e t.d_e ["self", "side", "row"] (spCS t):=by
 refine T.F_e.okn (k:=3) sc_e (fun vs H Q E h=>?_) (fun cdv A outer s H vs Q E hr h=>?_)
 .obtain ⟨a,dp,do_,pw,ph,ps,b,r,rfl,_⟩:=h;rfl
 .obtain ⟨a,dp,do_,pw,ph,ps,b,r,rfl,h⟩:=h;refine⟨_,xk (xax (xu (ok_ao T) (hr.mono (by decide)) rfl T.g_ao T.F_ao.kp T.b_ao .nil xn (xb (pv 1) (xb (xaa (pv 0) rfl) (xg)))))
   (xm (xae (xbg (xas (xu (ok_ai T) (hr.mono (by decide)) rfl T.g_ai T.F_ai.kp T.b_ai .nil xn (xb (pv 2) (xb (xj) (xb (xaa (pv 0) rfl) (xg))))))) (xm (xa6)) (x4))),?_⟩
  obtain⟨pic,r1,r2,q⟩:=h;obtain⟨⟨dx,hp⟩,_,_⟩:=id pic;refine⟨_,rfl,_,rfl,a,_,dx,_,_,rfl,hp,T.c_c,T.n_a9,lkW,b,pw,rfl,fun p H1 hp1 sd1 s1=>?_⟩;exact⟨_,rfl,_,rfl,a,_,dx,_,_,rfl,(s1 _ _ hp),T.c_c,T.n_a8,lkH,r,1,ph,rfl,r1,r2,true,rfl,iteF (q H1 s1)⟩
theorem ok_a (T:Txt w K mg t):FnOk true P w K mg base (CXo P w) 3 t.f_a t.d_a ["self", "name", "x", "y", "sides", "low", "high"] (xqw t):=by
 refine T.F_a.okn (k:=2) sc_a (fun vs H Q E h=>?_) (fun cdv A outer s H vs Q E hr h=>?_)
 .obtain ⟨a,dp,do_,pw,ph,ps,nm,x,y,sd,lo,hi,hv,rfl,_⟩:=h;rfl
 .obtain ⟨a,dp,do_,pw,ph,ps,nm,x,y,sd,lo,hi,hv,rfl,h⟩:=h;refine⟨_,xk (xw (i:=7) sc_a.nd rfl (Zn rfl) (xcu (x5 xkb (pv 6) (xhm) (x6 _)) (xaa (pv 0) rfl) (pv 6)))
   (xk (xae (xbg (xas (xu (ok_ar T) (hr.mono (by decide)) rfl T.g_ar T.F_ar.kp T.b_ar .nil xn (xb (pv 1) (xg))))) (xm (xa6)) (x4))
   (xk (xax (xat (pv 0) T.c_c T.m_j (ok_j T) (hr.mono (by decide)) T.b_j .nil xn (xb (pv 2) (xb (pv 3) (xg)))))
   (xk (xae (PW.pt (xcr (xbg (xas (x8 xb2 rfl T.n_isinstance boot_isinstance (xb (pv 4) (xb (xcy (v:=.ty "str") rfl T.n_str boot_str rfl) (xg)))))) (xck (xe1 (xo4 (pv 4) rfl T.g_ag T.D_ag))))) (xm (xa6)) (x4))
   (xk (xae (PW.pt (xcr (xbg (xas (xu (ok_ai T) (hr.mono (by decide)) rfl T.g_ai T.F_ai.kp T.b_ai .nil xn (xb (pv 5) (xb (xj) (xb (xaa (pv 0) rfl) (xg))))))) (xck (xbg (xas (xu (ok_ai T) (hr.mono (by decide)) rfl T.g_ai T.F_ai.kp T.b_ai .nil xn (xb (pv 7) (xb (pv 5) (xb (xaa (pv 0) rfl) (xg)))))))))) (xm (xa6)) (x4))
   (xk (xae (xe1 (xj7 (xbo hr) (pv 1) (xaa (pv 0) rfl))) (xm (xa6)) (x4))
   (xk (xae (x5 xuo (x8 xio rfl T.n_len Jy (xb (xaa (pv 0) rfl) (xg))) (xdl (v:=.int 12) rfl T.v_bh.choose_spec ⟨_,rfl⟩) (x6 _)) (xm (xa6)) (x4))
   (xk (xax (xat (pv 0) T.c_c T.m_d (ok_d T) (hr.mono (by decide)) T.b_d .nil xn (xb (pv 1) (xb (pv 2) (xb (pv 3) (xg))))))
   (xm (xdi (xbo hr) (xaa (pv 0) rfl) (pv 1) (xaj (xb (pv 2) (xb (pv 3) (xb (pv 4) (xb (pv 5) (xb (pv 7) (xg))))))) rfl))))))))),?_⟩
  obtain⟨pic,hhv,hn,x1,x2,y1,y2,hsd,l1,l2,l3,no,len,q⟩:=h;obtain⟨⟨dx,hp⟩,⟨kvs,hk,pl⟩,_⟩:=id pic;have hsd':(valV ([(J9 "left",V.str "right"),(J9 "right",V.str "left"),(J9 "both",V.str "both")]:List (Key × V)) (J9 sd)).isSome=true:=by
   rcases hsd with rfl|rfl|rfl<;>decide +kernel
  rcases hhv with⟨rfl,e⟩|rfl
  .obtain rfl:=e.symm;refine⟨_,rfl,rfl,_,rfl,ifP (by rfl) ⟨_,rfl,a,_,dx,_,_,rfl,hp,T.c_c,T.n_a8,lkH,?_⟩⟩;refine⟨_,rfl,nm,rfl,hn,true,rfl,iteF ?_⟩;refine⟨_,rfl,a,dx,_,rfl,hp,xa2 (by decide +kernel),_,rfl,_,rfl,a,dp,do_,pw,ph,ps,x,y,rfl,pic,x1,x2,y1,y2,?_⟩;refine⟨_,rfl,_,_,rfl,.inl ⟨_,_,true,.str _,rfl,xb5,true,rfl,iteF ⟨_,rfl,.inr sd,rfl,false,(by rw[hsd']; rfl),iteF ?_⟩⟩⟩;refine⟨_,rfl,_,rfl,a,_,dx,_,_,rfl,hp,T.c_c,T.n_a8,lkH,lo,1,ph,rfl,l1,(by omega),true,rfl,iteF ⟨_,rfl,_,rfl,_,rfl,a,_,dx,_,_,rfl,hp,T.c_c,T.n_a8,lkH,ph,lo,ph,rfl,(by omega),(by omega),true,rfl,iteF ?_⟩⟩;refine⟨_,rfl,_,rfl,a,_,dx,_,_,rfl,hp,T.c_c,T.n_a7,lkP,dp,none,rfl,(by rw[<- pl.no (nm:=nm) (fun p hp=>(no p hp).1)]; exact DGet.k (k:=.inr nm) hk),false,rfl,iteF ?_⟩;refine⟨_,rfl,a,_,dx,_,_,rfl,hp,T.c_c,T.n_a7,lkP,dp,kvs,rfl,hk,_,_,rfl,rfl,_,rfl,ifN (decide_eq_false (by have:=pl.len; omega)) ?_⟩;refine⟨_,rfl,a,dx,_,rfl,hp,xa2 (by decide +kernel),_,rfl,_,rfl,_,rfl,a,dp,do_,pw,ph,ps,nm,x,y,rfl,pic,fun p hp _=>(no p hp).2,fun H1 s1=>?_⟩;refine⟨_,rfl,_,rfl,_,rfl,_,rfl,_,rfl,(by show 5<=sizeLine; decide),fun q1 hq1=>?_⟩;have hp1:upd H1 q1 (.tup [.int x,.int y,.str sd,.int lo,.int ph]) a=some (.ins t.C_c dx (picF pw ph dp do_)):=by rw[xh (xi (s1 _ _ hp) hq1)]; exact s1 _ _ hp
   have hk1:upd H1 q1 (.tup [.int x,.int y,.str sd,.int lo,.int ph]) dp=some (.dK kvs):=by rw[xh (xi (s1 _ _ hk) hq1)]; exact s1 _ _ hk
   refine⟨_,rfl,a,_,dx,_,_,rfl,hp1,T.c_c,T.n_a7,lkP,_,rfl,dp,_,rfl,DPut.k (k:=.inr nm) hk1 (Jo (by have:=pl.len; omega:kvs.length<12) (by decide)),?_⟩;rw[xdc (.ref q1) (pl.no (nm:=nm) (fun p hp=>(no p hp).1))];have nq:q1≠dp:=fun z=>by
    subst z;rw[s1 _ _ hk] at hq1;cases hq1
   refine q _ (fun b u nb e=>?_) ⟨⟨dx,?_⟩,⟨_,xf,Pl.snoc (p:=⟨nm,x,y,sd,lo,ph⟩) (pl.keep (fun b xs e=>?_)) ?_⟩,pic.w1,pic.w2,pic.h1,pic.h2,(by rw[Zp]; exact len)⟩
   .rw [xh nb,xh (xi (s1 _ _ e) hq1)];exact s1 _ _ e
   .rw [xh (xai hp1 hk1 (fun z=>nomatch z))];exact hp1
   .have e':=s1 _ _ e;rw[xh (xai e' (s1 _ _ hk) (fun z=>nomatch z)),xh (xi e' hq1)];exact e'
   .rw [xh nq];exact xf
  .refine ⟨_,rfl,rfl,_,rfl,ifN (by rfl) ⟨_,rfl,?_⟩⟩;refine⟨_,rfl,nm,rfl,hn,true,rfl,iteF ?_⟩;refine⟨_,rfl,a,dx,_,rfl,hp,xa2 (by decide +kernel),_,rfl,_,rfl,a,dp,do_,pw,ph,ps,x,y,rfl,pic,x1,x2,y1,y2,?_⟩;refine⟨_,rfl,_,_,rfl,.inl ⟨_,_,true,.str _,rfl,xb5,true,rfl,iteF ⟨_,rfl,.inr sd,rfl,false,(by rw[hsd']; rfl),iteF ?_⟩⟩⟩;refine⟨_,rfl,_,rfl,a,_,dx,_,_,rfl,hp,T.c_c,T.n_a8,lkH,lo,1,ph,rfl,l1,(by omega),true,rfl,iteF ⟨_,rfl,_,rfl,_,rfl,a,_,dx,_,_,rfl,hp,T.c_c,T.n_a8,lkH,hi,lo,ph,rfl,(by omega),(by omega),true,rfl,iteF ?_⟩⟩;refine⟨_,rfl,_,rfl,a,_,dx,_,_,rfl,hp,T.c_c,T.n_a7,lkP,dp,none,rfl,(by rw[<- pl.no (nm:=nm) (fun p hp=>(no p hp).1)]; exact DGet.k (k:=.inr nm) hk),false,rfl,iteF ?_⟩;refine⟨_,rfl,a,_,dx,_,_,rfl,hp,T.c_c,T.n_a7,lkP,dp,kvs,rfl,hk,_,_,rfl,rfl,_,rfl,ifN (decide_eq_false (by have:=pl.len; omega)) ?_⟩;refine⟨_,rfl,a,dx,_,rfl,hp,xa2 (by decide +kernel),_,rfl,_,rfl,_,rfl,a,dp,do_,pw,ph,ps,nm,x,y,rfl,pic,fun p hp _=>(no p hp).2,fun H1 s1=>?_⟩;refine⟨_,rfl,_,rfl,_,rfl,_,rfl,_,rfl,(by show 5<=sizeLine; decide),fun q1 hq1=>?_⟩;have hp1:upd H1 q1 (.tup [.int x,.int y,.str sd,.int lo,.int hi]) a=some (.ins t.C_c dx (picF pw ph dp do_)):=by rw[xh (xi (s1 _ _ hp) hq1)]; exact s1 _ _ hp
   have hk1:upd H1 q1 (.tup [.int x,.int y,.str sd,.int lo,.int hi]) dp=some (.dK kvs):=by rw[xh (xi (s1 _ _ hk) hq1)]; exact s1 _ _ hk
   refine⟨_,rfl,a,_,dx,_,_,rfl,hp1,T.c_c,T.n_a7,lkP,_,rfl,dp,_,rfl,DPut.k (k:=.inr nm) hk1 (Jo (by have:=pl.len; omega:kvs.length<12) (by decide)),?_⟩;rw[xdc (.ref q1) (pl.no (nm:=nm) (fun p hp=>(no p hp).1))];have nq:q1≠dp:=fun z=>by
    subst z;rw[s1 _ _ hk] at hq1;cases hq1
   refine q _ (fun b u nb e=>?_) ⟨⟨dx,?_⟩,⟨_,xf,Pl.snoc (p:=⟨nm,x,y,sd,lo,hi⟩) (pl.keep (fun b xs e=>?_)) ?_⟩,pic.w1,pic.w2,pic.h1,pic.h2,(by rw[Zp]; exact len)⟩
   .rw [xh nb,xh (xi (s1 _ _ e) hq1)];exact s1 _ _ e
   .rw [xh (xai hp1 hk1 (fun z=>nomatch z))];exact hp1
   .have e':=s1 _ _ e;rw[xh (xai e' (s1 _ _ hk) (fun z=>nomatch z)),xh (xi e' hq1)];exact e'
   .rw [xh nq];exact xf
theorem ok_f (T:Txt w K mg t):FnOk true P w K mg base (CXo P w) 3 t.f_f t.d_f ["self", "name"] (xup t):=by
 refine T.F_f.okn (k:=2) sc_f (fun vs H Q E h=>?_) (fun cdv A outer s H vs Q E hr h=>?_)
 .obtain ⟨a,dp,do_,pw,ph,ps,nm,pt,rfl,_⟩:=h;rfl
 .obtain ⟨a,dp,do_,pw,ph,ps,nm,pt,rfl,h⟩:=h;refine⟨_,xk (xax (xat (pv 0) T.c_c T.m_i (ok_i T) (hr.mono (by decide)) T.b_i .nil xn (xb (pv 1) (xg))))
   (xm (x0 (xct xs1 (xf8 (xbo hr) (xaa (pv 0) rfl) (pv 1) (fun _ _=>rfl)) xew (xcp (xj))))),?_⟩
  obtain⟨pic,hn,hf,q⟩:=h;obtain⟨⟨dx,hp⟩,⟨kvs,hk,pl⟩,_⟩:=id pic;obtain⟨q0,e,hq0⟩:=pl.find hf;refine⟨_,rfl,a,dx,_,rfl,hp,xa2 (by decide +kernel),_,rfl,a,dp,do_,pw,ph,ps,nm,pt,rfl,pic,hn,hf,?_⟩;exact⟨_,rfl,a,_,dx,_,_,rfl,hp,T.c_c,T.n_a7,lkP,_,rfl,dp,.ref q0,rfl,(by rw[<- e]; exact DGet.k (k:=.inr nm) hk),2,rfl,q0,ptV pt,rfl,SqT.of hq0,(fun z=>absurd z.2 (by show ¬ ((2:Nat)=5); decide)),fun p hp'=>q _ p (xp (Same.refl _) hp') xf⟩
theorem ok_s (T:Txt w K mg t):FnOk true P w K mg base (CXo P w) 5 t.f_s t.d_s ["self", "name", "side", "row"] (xvc t):=by
 refine T.F_s.okn (k:=4) sc_s (fun vs H Q E h=>?_) (fun cdv A outer s H vs Q E hr h=>?_)
 .obtain ⟨a,dp,do_,pw,ph,ps,nm,pt,b,r,rfl,_⟩:=h;rfl
 .obtain ⟨a,dp,do_,pw,ph,ps,nm,pt,b,r,rfl,h⟩:=h;refine⟨_,xk (xcc (xat (pv 0) T.c_c T.m_f (ok_f T) (hr.mono (by decide)) T.b_f .nil xn (xb (pv 1) (xg))) (xap rfl (xr (xq (i:=4) sc_s.nd rfl (Zn rfl)) (xr (xq (i:=5) sc_s.nd rfl (Zn rfl)) (xag)))))
   (xk (xax (xat (pv 0) T.c_c T.m_e (ok_e T) (hr.mono (by decide)) T.b_e .nil xn (xb (pv 2) (xb (pv 3) (xg)))))
   (xm (x0 (xt xan (xey (xat (xu (ok_ao T) (hr.mono (by decide)) rfl T.g_ao T.F_ao.kp T.b_ao .nil xn (xb (pv 2) (xb (xaa (pv 0) rfl) (xg)))) T.c_ae T.m_p (ok_p T) (hr.mono (by decide)) T.b_p .nil xn (xb (pv 4) (xg))) (xat (xu (ok_ao T) (hr.mono (by decide)) rfl T.g_ao T.F_ao.kp T.b_ao .nil xn (xb (pv 2) (xb (xaa (pv 0) rfl) (xg)))) T.c_q T.m_m (ok_m T) (hr.mono (by decide)) T.b_m .nil xn (xb (pv 4) (xg)))) (x8 xpn rfl T.n_abs boot_abs (xb (xt xer (pv 5) (pv 3)) (xg))))))),?_⟩
  obtain⟨pic,hn,hf,r1,r2,q⟩:=h;obtain⟨⟨dx,hp⟩,_,_⟩:=id pic;refine⟨_,rfl,a,dx,_,rfl,hp,xa2 (by decide +kernel),_,rfl,a,dp,do_,pw,ph,ps,nm,pt,rfl,pic,hn,hf,fun H1 q1 s1 hq1=>⟨q1,_,rfl,SqT.of hq1,rfl,_,_,rfl,_,_,rfl,rfl,?_⟩⟩;refine⟨_,rfl,a,dx,_,rfl,s1 _ _ hp,xa2 (by decide +kernel),_,rfl,_,rfl,a,dp,do_,pw,ph,ps,b,r,rfl,Pic.same s1 pic,r1,r2,fun H2 s2=>?_⟩;cases b with
  | true =>
   refine .inl ⟨_,rfl,_,rfl,a,_,dx,_,_,rfl,(s2 _ _ (s1 _ _ hp)),T.c_c,T.n_a9,lkW,true,pw,rfl,fun p H3 hp3 sd3 s3=>?_⟩;obtain⟨ds,hs⟩:=sd3;exact⟨p,ds,_,rfl,hs,(by rw[Zw,show (("across":Str) == "width")=false from by decide +kernel]; rfl),_,rfl,_,_,rfl,_,rfl,_,rfl,_,_,rfl,rfl,_,rfl,_,_,rfl,rfl,q H3 ((s1.trans s2).trans s3)⟩
  | false =>
   refine .inr ⟨_,rfl,_,rfl,a,_,dx,_,_,rfl,(s2 _ _ (s1 _ _ hp)),T.c_c,T.n_a9,lkW,false,pw,rfl,fun p H3 hp3 sd3 s3=>?_⟩;obtain⟨ds,hs⟩:=id sd3;exact⟨p,ds,_,rfl,hs,(by rw[Zw,show (("across":Str) == "width")=false from by decide +kernel]; rfl),_,rfl,p,pw,_,rfl,sd3,_,rfl,_,rfl,_,_,rfl,rfl,_,rfl,_,_,rfl,rfl,q H3 ((s1.trans s2).trans s3)⟩
end
inductive xaq (H:Hp):List (Int × Int)->List Addr->Prop
 | nil:xaq H [] []
 | cons {c:Int × Int}{q:Addr}{cs:List (Int × Int)}{qs:List Addr} (h:H q=some (.tup [.int c.1,.int c.2])) (r:xaq H cs qs):xaq H (c::cs) (q::qs)
theorem xaq.keep {H H':Hp} (s:Tups H H') {cs:List (Int × Int)}{qs:List Addr} (h:xaq H cs qs):xaq H' cs qs:=by
 induction h with
 | nil=>exact .nil
 | cons h _ ih=>exact .cons (s _ _ h) ih
theorem xaq.len {H:Hp}{cs:List (Int × Int)}{qs:List Addr} (h:xaq H cs qs):qs.length=cs.length:=by
 induction h with
 | nil=>rfl
 | cons _ _ ih=>simp[ih]
theorem xaq.get {H:Hp}{cs:List (Int × Int)}{qs:List Addr} (h:xaq H cs qs) {i:Nat}{q:Addr} (e:qs[i]?=some q):∃ c,cs[i]?=some c/\H q=some (.tup [.int c.1,.int c.2]):=by
 induction h generalizing i with
 | nil=>simp at e
 | @cons c q' cs qs h _ ih =>
  cases i with
  | zero =>
   simp at e;subst e;exact⟨c,rfl,h⟩
  | succ j=>exact ih (by simpa using e)
theorem xaq.append {H:Hp}{cs ds:List (Int × Int)}{qs rs:List Addr} (h:xaq H cs qs) (h':xaq H ds rs):xaq H (cs++ds) (qs++rs):=by
 induction h with
 | nil=>exact h'
 | cons h _ ih=>exact .cons h ih
theorem xaq.snoc {H:Hp}{cs:List (Int × Int)}{qs:List Addr} (h:xaq H cs qs) {c:Int × Int}{q:Addr} (e:H q=some (.tup [.int c.1,.int c.2])):xaq H (cs++[c]) (qs++[q]):=h.append (.cons e .nil)
theorem xbw {σ:L2.St}{fr:List Nat}{te:TE}{l:Addr}{H1:Hp}{Q:VK}{lo d:Int}{n:Nat} (f:Nat->Int × Int) (hl:H1 l=none) (hn:n<1000)
    (hte:∀(i:Nat) (H2:Hp) (R:VK),i<n->(∀ p,H2 p=none->R (.ref p) (upd H2 p (.tup [.int (f i).1,.int (f i).2])))->te ((blk0 σ fr 1).set 0 (some (.int (lo+(i:Int)*d)))) H2 R)
    (fin:∀(H2:Hp) (qs:List Addr),Same H1 H2->H2 l=some (.lst (qs.map V.ref))->xaq H2 ((Z3 n).map f) qs->Q (.ref l) H2):xc4 (Itrs lo d n) 1 (xei 0) σ fr xdp te l H1 Q:=by
  refine xde n (fun i xs H2=>∃ qs:List Addr,xs=qs.map V.ref/\qs.length<=i/\Same H1 H2/\H2 l=some (.lst xs)/\xaq H2 ((Z3 i).map f) qs) ?_ ?_ ?_ ?_
  . exact⟨[],rfl,Zi _,xp (Same.refl _) hl,xf,.nil⟩
  . rintro i xs H2 lt _
    exact lt
  . rintro i xs H2 v H3 lt ⟨qs,rfl,ql,s2,hl2,cl⟩ ⟨rfl,rfl⟩ N hN
    refine xum ?_;refine hte i _ _ lt fun p hp=>⟨?_,?_,hN _ _ ⟨qs++[p],by simp,by simp; omega,?_,xf,?_⟩⟩
    . rw[xh (xi hl2 hp)]
      exact hl2
    . rw[Za]
      exact Z9 ql (Jo lt (ZG hn (by decide)))
    . intro b u e
      have nb:b≠l:=xi e hl;rw[xh nb,xh (xi (s2 _ _ e) hp)];exact s2 _ _ e
    . rw[JS,Z8]
      refine xaq.snoc (xaq.keep (fun b xs e=>?_) cl) ?_
      . rw[xh (xai e hl2 (fun z=>nomatch z)),xh (xi e hp)]
        exact e
      . rw[xh (ZF (xi hl2 hp))]
        exact xf
  . rintro xs H2 ⟨qs,rfl,_,s2,hl2,cl⟩
    exact⟨Zi _,fin H2 qs s2 hl2 cl⟩
def xsd (t:Adr):Sp:=fun vs H Q _=>∃(a dp do_:Addr) (pw ph:Int) (ps:List Pt) (nm:Str) (pt:Pt) (b:Bool) (r:Int),vs=[.ref a,.str nm,.str (x9 b),.int r]/\Pic t H a dp do_ pw ph ps/\isNm nm=true/\ps.find? (fun p=>decide (p.nm=nm))=some pt/\1<=r/\r<=ph /\
 (1<=pt.x/\pt.x<=pw/\1<=pt.y/\pt.y<=ph)/\∀ H' l qs,Same H H'->H' l=some (.lst (qs.map V.ref))->xaq H' (Geo.cells pw pt.x pt.y b r) qs->qs.length<100->Q (.ref l) H'
section
variable {P:Program}{w:World}{K:Zd}{mg:Str->Option Value}{base:Heap}{t:Adr}
theorem lno {m:Str}{v:V} (h:(m == ("width":Str))=false):([("width",v)]:List (Str × V)).lookup m=none:=by
 rw[Zw,h];rfl
theorem ok_a2 (T:Txt w K mg t):FnOk true P w K mg base (CXo P w) 6 t.f_a2 t.d_a2 ["picture", "name", "side", "row"] (xsd t):=by
 refine T.F_a2.okn (k:=5) sc_a2 (fun vs H Q E h=>?_) (fun cdv A outer s H vs Q E hr h=>?_)
 .obtain ⟨a,dp,do_,pw,ph,ps,nm,pt,b,r,rfl,_⟩:=h;rfl
 .obtain ⟨a,dp,do_,pw,ph,ps,nm,pt,b,r,rfl,h⟩:=h;refine⟨_,xk (xax (xat (pv 0) T.c_c T.m_s (ok_s T) (hr.mono (by decide)) T.b_s .nil xn (xb (pv 1) (xb (pv 2) (xb (pv 3) (xg))))))
   (xk (xcc (xat (pv 0) T.c_c T.m_f (ok_f T) (hr.mono (by decide)) T.b_f .nil xn (xb (pv 1) (xg))) (xap rfl (xr (xq (i:=4) sc_a2.nd rfl (J8 rfl)) (xr (xq (i:=5) sc_a2.nd rfl (Zn rfl)) (xag)))))
   (xk (xw (i:=6) sc_a2.nd rfl (Zn rfl) (xu (ok_ao T) (hr.mono (by decide)) rfl T.g_ao T.F_ao.kp T.b_ao .nil xn (xb (pv 2) (xb (xaa (pv 0) rfl) (xg)))))
   (xk (xw (i:=7) sc_a2.nd rfl (Zn rfl) (xcu (x5 xf6 (pv 5) (pv 3) (x6 _)) (xj) (xqy xox (xj))))
   (xk (xch rfl (xbh (zs:=["at"]) (ys:=["x"]) (fr:=[4]) (N0:=["picture", "name", "side", "row", "x", "y", "toward", "down", "upright", "level"]) (sc0:=xo s_a2) (by decide +kernel) rfl rfl rfl) (xi7 rfl T.n_range (xb (pv 5) (xb (pv 3) (xb (pv 7) (xg))))) (fun _ _ _ _ _ ow nd=>xq (i:=0) nd rfl (Zn (ow _ (by simp))) (J8 (ow _ (by simp)))) (xbz (by decide)) (fun _ _ _ _ _=>xbu) (fun _ _ _ _ _=>xaj (xb (pv 1) (xb (pv 0) (xg)))) (j:=8) rfl (Zn rfl))
   (xk (xch rfl (xbh (zs:=["at"]) (ys:=["row"]) (fr:=[3]) (N0:=["picture", "name", "side", "row", "x", "y", "toward", "down", "upright", "level"]) (sc0:=xo s_a2) (by decide +kernel) rfl rfl rfl) (xi7 rfl T.n_range (xb (pv 4) (xb (xt xan (xey (xbb (pv 6) T.c_ae T.m_z (ok_z T) (hr.mono (by decide)) T.b_z .nil xn) (xbb (pv 6) T.c_q T.m_r (ok_r T) (hr.mono (by decide)) T.b_r .nil xn)) (xey (xbb (pv 6) T.c_ae T.m_ac (ok_ac T) (hr.mono (by decide)) T.b_ac .nil xn) (xbb (pv 6) T.c_q T.m_v (ok_v T) (hr.mono (by decide)) T.b_v .nil xn))) (xb (xey (xbb (pv 6) T.c_ae T.m_ac (ok_ac T) (hr.mono (by decide)) T.b_ac .nil xn) (xbb (pv 6) T.c_q T.m_v (ok_v T) (hr.mono (by decide)) T.b_v .nil xn)) (xg))))) (fun _ _ _ _ _ ow nd=>xq (i:=0) nd rfl (Zn (ow _ (by simp))) (J8 (ow _ (by simp)))) (xbz (by decide)) (fun _ _ _ _ _=>xbu) (fun _ _ _ _ _=>xaj (xb (pv 0) (xb (pv 1) (xg)))) (j:=9) rfl (Zn rfl))
   (xm (x0 (xt xhj (pv 8) (pv 9))))))))),?_⟩
  obtain⟨pic,hn,hf,r1,r2,⟨x1,x2,y1,y2⟩,q⟩:=h;obtain⟨⟨dx,hp⟩,_,w1,w2,h1,h2,_⟩:=id pic;by_cases hd:pt.y<r<;>cases b
  .-- down right
   refine⟨_,rfl,a,dx,_,rfl,hp,xa2 (by decide +kernel),_,rfl,_,rfl,_,rfl,a,dp,do_,pw,ph,ps,nm,pt,false,r,rfl,pic,hn,hf,r1,r2,fun H1 s1=>?_⟩;refine⟨_,rfl,a,dx,_,rfl,s1 _ _ hp,xa2 (by decide +kernel),_,rfl,a,dp,do_,pw,ph,ps,nm,pt,rfl,Pic.same s1 pic,hn,hf,fun H2 q2 s2 hq2=>⟨q2,_,rfl,SqT.of hq2,rfl,_,_,rfl,_,_,rfl,rfl,?_⟩⟩;refine⟨_,rfl,_,rfl,a,_,dx,_,_,rfl,(s2 _ _ (s1 _ _ hp)),T.c_c,T.n_a9,lkW,false,pw,rfl,fun p H3 hp3 sd3 s3=>?_⟩;refine⟨_,rfl,_,rfl,_,_,rfl,rfl,_,rfl,ifP (decide_eq_true hd) ?_⟩;refine⟨_,rfl,_,rfl,_,rfl,pt.y,r,1,rfl,⟨by omega,by omega,by omega,by omega⟩,.inl ⟨rfl,fun l1 hl1=>?_⟩⟩;refine xbw (fun i=>(pt.x,pt.y+(i:Int)*1)) hl1 (by omega) (fun i H R _ k=>⟨_,rfl,_,rfl,(by show 2<=sizeLine; decide),k⟩) fun H4 qs1 s4 hu4 cu4=>?_;obtain⟨ds,hs⟩:=id sd3;have hs4:H4 p=some (.ins t.C_q ds [("width",.int pw)]):=s4 _ _ hs;have sd4:xd3 t H4 p false pw:=⟨ds,hs4⟩
   refine⟨_,rfl,.inr ⟨_,rfl,p,ds,_,rfl,hs4,lno (by decide +kernel),p,pw,rfl,sd4,.inr ⟨_,rfl,p,ds,_,rfl,hs4,lno (by decide +kernel),_,rfl,_,_,rfl,rfl,.inr ⟨_,rfl,p,ds,_,rfl,hs4,lno (by decide +kernel),_,rfl,pt.x,_,1,rfl,⟨by omega,by omega,by omega,by omega⟩,.inl ⟨rfl,fun l2 hl2=>?_⟩⟩⟩⟩⟩;refine xbw (fun i=>(pt.x+(i:Int)*1,r)) hl2 (by omega) (fun i H R _ k=>⟨_,rfl,_,rfl,(by show 2<=sizeLine; decide),k⟩) fun H5 qs2 s5 hu5 cu5=>?_;have c1:xaq H5 (Geo.upL pt.x pt.y r) qs1:=by
    have e:Geo.upL pt.x pt.y r=(Z3 (r-pt.y).toNat).map fun (i:Nat)=>(pt.x,pt.y+(i:Int)*1):=by unfold Geo.upL Geo.upN Geo.dn; rw[if_pos hd,if_pos hd]
    rw[e];exact cu4.keep (Same.tups s5)
   have c2:xaq H5 (Geo.lvL pw pt.x false r) qs2:=by
    have e:Geo.lvL pw pt.x false r=(Z3 (pw+1+1-pt.x).toNat).map fun (i:Nat)=>(pt.x+(i:Int)*1,r):=by
     unfold Geo.lvL Geo.lvN Geo.wayI;simp only[if_true,ZX,if_false];rw[show (pw+2-pt.x).toNat=(pw+1+1-pt.x).toNat from by omega]
    rw[e];exact cu5
   have l1':=c1.len;have l2':=c2.len;have b1:(Geo.upL pt.x pt.y r).length<17:=by unfold Geo.upL Geo.upN; rw[Za,Zt]; split<;>omega
   have b2:(Geo.lvL pw pt.x false r).length<33:=by unfold Geo.lvL Geo.lvN; rw[Za,Zt]; split<;>omega
   refine⟨_,rfl,_,rfl,l1,l2,_,_,rfl,rfl,s5 _ _ hu4,hu5,(by rw[Za,Za]; exact JJ (Jo (by omega:qs1.length+qs2.length<100) (by decide))),fun p6 hp6=>?_⟩;refine q _ p6 (qs1++qs2) (xp (((s1.trans s2).trans s3).trans (s4.trans s5)) hp6) (by rw[Z8]; exact xf) ((c1.append c2).keep (Same.tups (xp (Same.refl _) hp6))) (by rw[Zp]; omega)
  .-- down left
   refine⟨_,rfl,a,dx,_,rfl,hp,xa2 (by decide +kernel),_,rfl,_,rfl,_,rfl,a,dp,do_,pw,ph,ps,nm,pt,true,r,rfl,pic,hn,hf,r1,r2,fun H1 s1=>?_⟩;refine⟨_,rfl,a,dx,_,rfl,s1 _ _ hp,xa2 (by decide +kernel),_,rfl,a,dp,do_,pw,ph,ps,nm,pt,rfl,Pic.same s1 pic,hn,hf,fun H2 q2 s2 hq2=>⟨q2,_,rfl,SqT.of hq2,rfl,_,_,rfl,_,_,rfl,rfl,?_⟩⟩;refine⟨_,rfl,_,rfl,a,_,dx,_,_,rfl,(s2 _ _ (s1 _ _ hp)),T.c_c,T.n_a9,lkW,true,pw,rfl,fun p H3 hp3 sd3 s3=>?_⟩;refine⟨_,rfl,_,rfl,_,_,rfl,rfl,_,rfl,ifP (decide_eq_true hd) ?_⟩;refine⟨_,rfl,_,rfl,_,rfl,pt.y,r,1,rfl,⟨by omega,by omega,by omega,by omega⟩,.inl ⟨rfl,fun l1 hl1=>?_⟩⟩;refine xbw (fun i=>(pt.x,pt.y+(i:Int)*1)) hl1 (by omega) (fun i H R _ k=>⟨_,rfl,_,rfl,(by show 2<=sizeLine; decide),k⟩) fun H4 qs1 s4 hu4 cu4=>?_;obtain⟨ds,hs⟩:=id sd3;have hs4:H4 p=some (.ins t.C_ae ds [("width",.int pw)]):=s4 _ _ hs;have sd4:xd3 t H4 p true pw:=⟨ds,hs4⟩
   refine⟨_,rfl,.inl ⟨_,rfl,p,ds,_,rfl,hs4,lno (by decide +kernel),_,rfl,.inl ⟨_,rfl,p,ds,_,rfl,hs4,lno (by decide +kernel),_,rfl,_,_,rfl,rfl,.inl ⟨_,rfl,p,ds,_,rfl,hs4,lno (by decide +kernel),_,rfl,pt.x,_,(-1),rfl,⟨by omega,by omega,by omega,by omega⟩,.inr ⟨rfl,fun l2 hl2=>?_⟩⟩⟩⟩⟩;refine xbw (fun i=>(pt.x+(i:Int)*(-1),r)) hl2 (by omega) (fun i H R _ k=>⟨_,rfl,_,rfl,(by show 2<=sizeLine; decide),k⟩) fun H5 qs2 s5 hu5 cu5=>?_;have c1:xaq H5 (Geo.upL pt.x pt.y r) qs1:=by
    have e:Geo.upL pt.x pt.y r=(Z3 (r-pt.y).toNat).map fun (i:Nat)=>(pt.x,pt.y+(i:Int)*1):=by unfold Geo.upL Geo.upN Geo.dn; rw[if_pos hd,if_pos hd]
    rw[e];exact cu4.keep (Same.tups s5)
   have c2:xaq H5 (Geo.lvL pw pt.x true r) qs2:=by
    have e:Geo.lvL pw pt.x true r=(Z3 (pt.x-(0+-1)).toNat).map fun (i:Nat)=>(pt.x+(i:Int)*(-1),r):=by
     unfold Geo.lvL Geo.lvN Geo.wayI;simp only[if_true,ZX,if_false];rw[show (pt.x+1).toNat=(pt.x-(0+-1)).toNat from by omega]
    rw[e];exact cu5
   have l1':=c1.len;have l2':=c2.len;have b1:(Geo.upL pt.x pt.y r).length<17:=by unfold Geo.upL Geo.upN; rw[Za,Zt]; split<;>omega
   have b2:(Geo.lvL pw pt.x true r).length<33:=by unfold Geo.lvL Geo.lvN; rw[Za,Zt]; split<;>omega
   refine⟨_,rfl,_,rfl,l1,l2,_,_,rfl,rfl,s5 _ _ hu4,hu5,(by rw[Za,Za]; exact JJ (Jo (by omega:qs1.length+qs2.length<100) (by decide))),fun p6 hp6=>?_⟩;refine q _ p6 (qs1++qs2) (xp (((s1.trans s2).trans s3).trans (s4.trans s5)) hp6) (by rw[Z8]; exact xf) ((c1.append c2).keep (Same.tups (xp (Same.refl _) hp6))) (by rw[Zp]; omega)
  .-- up right
   refine⟨_,rfl,a,dx,_,rfl,hp,xa2 (by decide +kernel),_,rfl,_,rfl,_,rfl,a,dp,do_,pw,ph,ps,nm,pt,false,r,rfl,pic,hn,hf,r1,r2,fun H1 s1=>?_⟩;refine⟨_,rfl,a,dx,_,rfl,s1 _ _ hp,xa2 (by decide +kernel),_,rfl,a,dp,do_,pw,ph,ps,nm,pt,rfl,Pic.same s1 pic,hn,hf,fun H2 q2 s2 hq2=>⟨q2,_,rfl,SqT.of hq2,rfl,_,_,rfl,_,_,rfl,rfl,?_⟩⟩;refine⟨_,rfl,_,rfl,a,_,dx,_,_,rfl,(s2 _ _ (s1 _ _ hp)),T.c_c,T.n_a9,lkW,false,pw,rfl,fun p H3 hp3 sd3 s3=>?_⟩;refine⟨_,rfl,_,rfl,_,_,rfl,rfl,_,rfl,ifN (decide_eq_false hd) ⟨1,rfl,?_⟩⟩;refine⟨_,rfl,_,rfl,_,rfl,pt.y,r,(-1),rfl,⟨by omega,by omega,by omega,by omega⟩,.inr ⟨rfl,fun l1 hl1=>?_⟩⟩;refine xbw (fun i=>(pt.x,pt.y+(i:Int)*(-1))) hl1 (by omega) (fun i H R _ k=>⟨_,rfl,_,rfl,(by show 2<=sizeLine; decide),k⟩) fun H4 qs1 s4 hu4 cu4=>?_;obtain⟨ds,hs⟩:=id sd3;have hs4:H4 p=some (.ins t.C_q ds [("width",.int pw)]):=s4 _ _ hs;have sd4:xd3 t H4 p false pw:=⟨ds,hs4⟩
   refine⟨_,rfl,.inr ⟨_,rfl,p,ds,_,rfl,hs4,lno (by decide +kernel),p,pw,rfl,sd4,.inr ⟨_,rfl,p,ds,_,rfl,hs4,lno (by decide +kernel),_,rfl,_,_,rfl,rfl,.inr ⟨_,rfl,p,ds,_,rfl,hs4,lno (by decide +kernel),_,rfl,pt.x,_,1,rfl,⟨by omega,by omega,by omega,by omega⟩,.inl ⟨rfl,fun l2 hl2=>?_⟩⟩⟩⟩⟩;refine xbw (fun i=>(pt.x+(i:Int)*1,r)) hl2 (by omega) (fun i H R _ k=>⟨_,rfl,_,rfl,(by show 2<=sizeLine; decide),k⟩) fun H5 qs2 s5 hu5 cu5=>?_;have c1:xaq H5 (Geo.upL pt.x pt.y r) qs1:=by
    have e:Geo.upL pt.x pt.y r=(Z3 (pt.y-r).toNat).map fun (i:Nat)=>(pt.x,pt.y+(i:Int)*(-1)):=by unfold Geo.upL Geo.upN Geo.dn; rw[if_neg hd,if_neg hd]
    rw[e];exact cu4.keep (Same.tups s5)
   have c2:xaq H5 (Geo.lvL pw pt.x false r) qs2:=by
    have e:Geo.lvL pw pt.x false r=(Z3 (pw+1+1-pt.x).toNat).map fun (i:Nat)=>(pt.x+(i:Int)*1,r):=by
     unfold Geo.lvL Geo.lvN Geo.wayI;simp only[if_true,ZX,if_false];rw[show (pw+2-pt.x).toNat=(pw+1+1-pt.x).toNat from by omega]
    rw[e];exact cu5
   have l1':=c1.len;have l2':=c2.len;have b1:(Geo.upL pt.x pt.y r).length<17:=by unfold Geo.upL Geo.upN; rw[Za,Zt]; split<;>omega
   have b2:(Geo.lvL pw pt.x false r).length<33:=by unfold Geo.lvL Geo.lvN; rw[Za,Zt]; split<;>omega
   refine⟨_,rfl,_,rfl,l1,l2,_,_,rfl,rfl,s5 _ _ hu4,hu5,(by rw[Za,Za]; exact JJ (Jo (by omega:qs1.length+qs2.length<100) (by decide))),fun p6 hp6=>?_⟩;refine q _ p6 (qs1++qs2) (xp (((s1.trans s2).trans s3).trans (s4.trans s5)) hp6) (by rw[Z8]; exact xf) ((c1.append c2).keep (Same.tups (xp (Same.refl _) hp6))) (by rw[Zp]; omega)
  .-- up left
   refine⟨_,rfl,a,dx,_,rfl,hp,xa2 (by decide +kernel),_,rfl,_,rfl,_,rfl,a,dp,do_,pw,ph,ps,nm,pt,true,r,rfl,pic,hn,hf,r1,r2,fun H1 s1=>?_⟩;refine⟨_,rfl,a,dx,_,rfl,s1 _ _ hp,xa2 (by decide +kernel),_,rfl,a,dp,do_,pw,ph,ps,nm,pt,rfl,Pic.same s1 pic,hn,hf,fun H2 q2 s2 hq2=>⟨q2,_,rfl,SqT.of hq2,rfl,_,_,rfl,_,_,rfl,rfl,?_⟩⟩;refine⟨_,rfl,_,rfl,a,_,dx,_,_,rfl,(s2 _ _ (s1 _ _ hp)),T.c_c,T.n_a9,lkW,true,pw,rfl,fun p H3 hp3 sd3 s3=>?_⟩;refine⟨_,rfl,_,rfl,_,_,rfl,rfl,_,rfl,ifN (decide_eq_false hd) ⟨1,rfl,?_⟩⟩;refine⟨_,rfl,_,rfl,_,rfl,pt.y,r,(-1),rfl,⟨by omega,by omega,by omega,by omega⟩,.inr ⟨rfl,fun l1 hl1=>?_⟩⟩;refine xbw (fun i=>(pt.x,pt.y+(i:Int)*(-1))) hl1 (by omega) (fun i H R _ k=>⟨_,rfl,_,rfl,(by show 2<=sizeLine; decide),k⟩) fun H4 qs1 s4 hu4 cu4=>?_;obtain⟨ds,hs⟩:=id sd3;have hs4:H4 p=some (.ins t.C_ae ds [("width",.int pw)]):=s4 _ _ hs;have sd4:xd3 t H4 p true pw:=⟨ds,hs4⟩
   refine⟨_,rfl,.inl ⟨_,rfl,p,ds,_,rfl,hs4,lno (by decide +kernel),_,rfl,.inl ⟨_,rfl,p,ds,_,rfl,hs4,lno (by decide +kernel),_,rfl,_,_,rfl,rfl,.inl ⟨_,rfl,p,ds,_,rfl,hs4,lno (by decide +kernel),_,rfl,pt.x,_,(-1),rfl,⟨by omega,by omega,by omega,by omega⟩,.inr ⟨rfl,fun l2 hl2=>?_⟩⟩⟩⟩⟩;refine xbw (fun i=>(pt.x+(i:Int)*(-1),r)) hl2 (by omega) (fun i H R _ k=>⟨_,rfl,_,rfl,(by show 2<=sizeLine; decide),k⟩) fun H5 qs2 s5 hu5 cu5=>?_;have c1:xaq H5 (Geo.upL pt.x pt.y r) qs1:=by
    have e:Geo.upL pt.x pt.y r=(Z3 (pt.y-r).toNat).map fun (i:Nat)=>(pt.x,pt.y+(i:Int)*(-1)):=by unfold Geo.upL Geo.upN Geo.dn; rw[if_neg hd,if_neg hd]
    rw[e];exact cu4.keep (Same.tups s5)
   have c2:xaq H5 (Geo.lvL pw pt.x true r) qs2:=by
    have e:Geo.lvL pw pt.x true r=(Z3 (pt.x-(0+-1)).toNat).map fun (i:Nat)=>(pt.x+(i:Int)*(-1),r):=by
     unfold Geo.lvL Geo.lvN Geo.wayI;simp only[if_true,ZX,if_false];rw[show (pt.x+1).toNat=(pt.x-(0+-1)).toNat from by omega]
    rw[e];exact cu5
   have l1':=c1.len;have l2':=c2.len;have b1:(Geo.upL pt.x pt.y r).length<17:=by unfold Geo.upL Geo.upN; rw[Za,Zt]; split<;>omega
   have b2:(Geo.lvL pw pt.x true r).length<33:=by unfold Geo.lvL Geo.lvN; rw[Za,Zt]; split<;>omega
   refine⟨_,rfl,_,rfl,l1,l2,_,_,rfl,rfl,s5 _ _ hu4,hu5,(by rw[Za,Za]; exact JJ (Jo (by omega:qs1.length+qs2.length<100) (by decide))),fun p6 hp6=>?_⟩;refine q _ p6 (qs1++qs2) (xp (((s1.trans s2).trans s3).trans (s4.trans s5)) hp6) (by rw[Z8]; exact xf) ((c1.append c2).keep (Same.tups (xp (Same.refl _) hp6))) (by rw[Zp]; omega)
end
theorem lkO {w h:Int}{dp do_:Addr}:(picF w h dp do_).lookup ("opened":Str)=some (.ref do_):=by
 unfold picF;rw[Zw,show (("opened":Str) == "width")=false from by decide +kernel];show Jc ("opened":Str) [("height",V.int h),("placed",V.ref dp),("opened",V.ref do_)]=_;rw[Zw,show (("opened":Str) == "height")=false from by decide +kernel];show Jc ("opened":Str) [("placed",V.ref dp),("opened",V.ref do_)]=_;rw[Zw,show (("opened":Str) == "placed")=false from by decide +kernel];show Jc ("opened":Str) [("opened",V.ref do_)]=_;rw[Zw,show (("opened":Str) == "opened")=true from by decide +kernel]
abbrev Seat:=Bool × Int
def xbi (s:Seat):List Key:=[.inr (x9 s.1),.inl s.2]
def xcq (s:Seat):List V:=[.str (x9 s.1),.int s.2]
theorem xfk {a b:Bool} (h:x9 a=x9 b):a=b:=by
 cases a<;>cases b<;>first|rfl|exact absurd h (by decide +kernel)
theorem xot {s t:Seat} (h:xbi s=xbi t):s=t:=by
 simp only[xbi,JP.injEq,J9.injEq,YD.injEq] at h;exact QV (xfk h.1) h.2.1
def Sts (H:Hp) (do_:Addr) (ss:List Seat):Prop:=∃ kvs:List (List Key × V),H do_=some (.dT kvs)/\kvs.map (·.1)=ss.map xbi/\ss.Nodup/\ss.length<=32
theorem Sts.same {H H':Hp}{do_:Addr}{ss:List Seat} (s:Same H H') (h:Sts H do_ ss):Sts H' do_ ss:=let ⟨k,e,r⟩:=h; ⟨k,s _ _ e,r⟩
theorem xul {kvs:List (List Key × V)}{ss:List Seat} (e:kvs.map (·.1)=ss.map xbi) {s:Seat} (h:s∉ss):valV kvs (xbi s)=none:=by
 cases z:valV kvs (xbi s) with
 | none=>rfl
 | some v =>
  obtain⟨i,hi⟩:=xh5 z;have m:xbi s∈kvs.map (·.1):=Ze.mpr ⟨_,Zo hi,rfl⟩;rw[e] at m;obtain⟨t,ht,et⟩:=Ze.mp m;exact absurd ht (by rw[xot et]; exact h)
inductive xac (H:Hp):List Seat->List Addr->Prop
 | nil:xac H [] []
 | cons {s:Seat}{q:Addr}{ss:List Seat}{qs:List Addr} (h:H q=some (.tup (xcq s))) (r:xac H ss qs):xac H (s::ss) (q::qs)
theorem xac.keep {H H':Hp} (k:Tups H H') {ss:List Seat}{qs:List Addr} (h:xac H ss qs):xac H' ss qs:=by
 induction h with
 | nil=>exact .nil
 | cons h _ ih=>exact .cons (k _ _ h) ih
theorem xac.len {H:Hp}{ss:List Seat}{qs:List Addr} (h:xac H ss qs):qs.length=ss.length:=by
 induction h with
 | nil=>rfl
 | cons _ _ ih=>simp[ih]
def xby (s t:Seat):Prop:=(s.1=true/\t.1=false)\/(s.1=t.1/\s.2<t.2)
theorem xqj {s t:Seat} (h:lexK (xbi s) (xbi t)=true):xby s t:=by
 obtain⟨a,i⟩:=s;obtain⟨b,j⟩:=t;unfold xbi at h;unfold lexK at h;by_cases e:x9 a=x9 b
 .rw [if_pos (by rw[e])] at h;unfold lexK at h;by_cases e2:i=j
  .rw [if_pos (by rw[e2])] at h;unfold lexK at h;cases h
  .rw [if_neg (fun z=>e2 (YD.inj z))] at h;exact .inr ⟨xfk e,of_decide_eq_true h⟩
 .rw [if_neg (fun z=>e (J9.inj z))] at h;cases a<;>cases b
  .exact absurd rfl e
  .exact absurd h (by show ¬ xc8 (.inr (x9 false)) (.inr (x9 true))=true; decide +kernel)
  .exact .inl ⟨rfl,rfl⟩
  .exact absurd rfl e
def unK:List Key->Seat
 | [.inr s,.inl r]=>(decide (s="left"),r)
 | _=>(true,0)
theorem xj5 (s:Seat):unK (xbi s)=s:=by
 obtain⟨b,r⟩:=s;cases b
 .show (decide (("right":Str)="left"),r)=_;rw[decide_eq_false (by decide +kernel)]
 .show (decide (("left":Str)="left"),r)=_;rw[decide_eq_true rfl]
def xtl (t:Adr):Sp:=fun vs H Q _=>∃(a dp do_:Addr) (pw ph:Int) (ps:List Pt) (ss:List Seat) (b:Bool) (r:Int),vs=[.ref a,.str (x9 b),.int r]/\Pic t H a dp do_ pw ph ps/\Sts H do_ ss/\1<=r/\r<=ph/\(b,r)∉ss/\ss.length<32 /\
 ∀ H',(∀ c u,c≠do_->H c=some u->H' c=some u)->Pic t H' a dp do_ pw ph ps->Sts H' do_ (ss++[(b,r)])->Q .non H'
def xst (t:Adr):Sp:=fun vs H Q _=>∃(a dp do_:Addr) (pw ph:Int) (ps:List Pt) (ss:List Seat),vs=[.ref a]/\Pic t H a dp do_ pw ph ps/\Sts H do_ ss /\
 ∀(l:Addr) (ss':List Seat) (qs:List Addr),H l=none->xac H ss' qs->ss'.Perm ss->ss'.Pairwise xby->Q (.ref l) (upd H l (.lst (qs.map V.ref)))
theorem Pic.but {t:Adr}{H H':Hp}{a dp do_:Addr}{w h:Int}{ps:List Pt}{kvs:List (List Key × V)} (e:H do_=some (.dT kvs)) (s:∀ c u,c≠do_->H c=some u->H' c=some u) (p:Pic t H a dp do_ w h ps):Pic t H' a dp do_ w h ps :=
 ⟨let ⟨dx,x⟩:=p.ins; ⟨dx,s _ _ (xai x e (fun z=>nomatch z)) x⟩,let ⟨k,x,q⟩:=p.pl; ⟨k,s _ _ (xai x e (fun z=>nomatch z)) x,q.keep fun b xs x=>s _ _ (xai x e (fun z=>nomatch z)) x⟩,p.w1,p.w2,p.h1,p.h2,p.len⟩
section
variable {P:Program}{w:World}{K:Zd}{mg:Str->Option Value}{base:Heap}{t:Adr}
theorem ok_g (T:Txt w K mg t):FnOk true P w K mg base (CXo P w) 5 t.f_g t.d_g ["self", "side", "row"] (xtl t):=by
 refine T.F_g.okn (k:=4) sc_g (fun vs H Q E h=>?_) (fun cdv A outer s H vs Q E hr h=>?_)
 .obtain ⟨a,dp,do_,pw,ph,ps,ss,b,r,rfl,_⟩:=h;rfl
 .obtain ⟨a,dp,do_,pw,ph,ps,ss,b,r,rfl,h⟩:=h;refine⟨_,xk (xax (xat (pv 0) T.c_c T.m_e (ok_e T) (hr.mono (by decide)) T.b_e .nil xn (xb (pv 1) (xb (pv 2) (xg)))))
   (xk (xae (xe1 (xj7 (xbo hr) (xaj (xb (pv 1) (xb (pv 2) (xg)))) (xaa (pv 0) rfl))) (xm (xa6)) (x4))
   (xm (xdi (xbo hr) (xaa (pv 0) rfl) (xaj (xb (pv 1) (xb (pv 2) (xg)))) (xhp) rfl))),?_⟩
  obtain⟨pic,st,r1,r2,no,len,q⟩:=h;obtain⟨⟨dx,hp⟩,_,_⟩:=id pic;obtain⟨kvs,hk,ek,nd,l32⟩:=id st;refine⟨_,rfl,a,dx,_,rfl,hp,xa2 (by decide +kernel),_,rfl,_,rfl,a,dp,do_,pw,ph,ps,b,r,rfl,pic,r1,r2,fun H1 s1=>?_⟩;refine⟨_,rfl,_,rfl,(by show 2<=sizeLine; decide),fun q1 hq1=>?_⟩;have s2:Same H1 (upd H1 q1 (.tup [.str (x9 b),.int r])):=xp (Same.refl _) hq1;have g2:upd H1 q1 (.tup [.str (x9 b),.int r]) q1=some (.tup [.str (x9 b),.int r]):=xf;revert s2 g2;generalize upd H1 q1 (.tup [.str (x9 b),.int r])=H2;intro s2 g2;have hk2:=s2 _ _ (s1 _ _ hk);have hp2:=s2 _ _ (s1 _ _ hp);have n0:valV kvs (xbi (b,r))=none:=xul ek no;refine⟨_,rfl,a,_,dx,_,_,rfl,hp2,T.c_c,T.n_bd,lkO,do_,none,rfl,(by rw[<- n0]; exact DGet.t (k:=xbi (b,r)) hk2 g2),false,rfl,iteF ?_⟩;refine⟨_,rfl,a,_,dx,_,_,rfl,hp2,T.c_c,T.n_bd,lkO,_,rfl,_,rfl,(by show 2<=sizeLine; decide),fun q3 hq3=>?_⟩;have s3:Same H2 (upd H2 q3 (.tup [.str (x9 b),.int r])):=xp (Same.refl _) hq3;have g3:upd H2 q3 (.tup [.str (x9 b),.int r]) q3=some (.tup [.str (x9 b),.int r]):=xf;revert s3 g3;generalize upd H2 q3 (.tup [.str (x9 b),.int r])=H3;intro s3 g3;have kl:kvs.length=ss.length:=by
   have:=congrArg QX ek;simpa using this
  refine⟨do_,_,rfl,DPut.t (k:=xbi (b,r)) (s3 _ _ hk2) g3 (Jo (by omega:kvs.length<33) (by decide)),?_⟩;have bt:∀ c u,c≠do_->H c=some u->upd H3 do_ (.dT (putK kvs (xbi (b,r)) (.bl true))) c=some u:=fun c u nc e=>by
   rw[xh nc];exact s3 _ _ (s2 _ _ (s1 _ _ e))
  refine q _ bt (Pic.but hk bt pic) ⟨_,xf,?_,?_,?_⟩
  .rw [xdc _ n0,Z8,Z8,ek];rfl
  .rw [ZU];exact⟨nd,by simp,fun x hx y hy=>by rw[Zv.mp hy]; exact fun e=>no (e▸hx)⟩
  .rw [Zp];show ss.length+1<=32;omega
theorem ok_w (T:Txt w K mg t):FnOk true P w K mg base (CXo P w) 1 t.f_w t.d_w ["self"] (xst t):=by
 refine T.F_w.okn (k:=0) sc_w (fun vs H Q E h=>?_) (fun cdv A outer s H vs Q E hr h=>?_)
 .obtain ⟨a,dp,do_,pw,ph,ps,ss,rfl,_⟩:=h;rfl
 .obtain ⟨a,dp,do_,pw,ph,ps,ss,rfl,h⟩:=h;refine⟨_,xm (x0 (x8 (xj8 rfl) rfl T.n_sorted PyProof.Rows.Boot.«sorted» (xb (xaa (pv 0) rfl) (xg)))),?_⟩;obtain⟨pic,st,q⟩:=h;obtain⟨⟨dx,hp⟩,_,_⟩:=id pic;obtain⟨kvs,hk,ek,nd,l32⟩:=id st;have kl:kvs.length=ss.length:=by
   have:=congrArg QX ek;simpa using this
  refine⟨_,rfl,a,_,dx,_,_,rfl,hp,T.c_c,T.n_bd,lkO,do_,kvs,[false,true],rfl,hk,by omega,fun p hp'=>?_,by decide,fun l ts fr tm pm pw'=>?_⟩
  .have m:p.1∈kvs.map (·.1):=Ze.mpr ⟨p,hp',rfl⟩;rw[ek] at m;obtain⟨s,_,e⟩:=Ze.mp m;rw[<- e];rfl
  rw[ek] at pm;have back:∀ t∈ts,xbi (unK t.1)=t.1:=fun t ht=>by
   obtain⟨s,_,e⟩:=Ze.mp (pm.mem_iff.mp (Ze.mpr ⟨t,ht,rfl⟩));rw[<- e,xj5]
  have z:=q l ((ts.map (·.1)).map unK) (ts.map (·.2)) fr ?_ ?_ ?_
  .rw [Z7] at z;exact z
  .clear pm pw'
   induction ts with
   | nil=>exact .nil
   | cons t ts ih =>
    refine .cons ?_ (ih (fun x hx=>tm x (Zy _ hx)) fun x hx=>back x (Zy _ hx));have e:=tm t Zz;rw[<- back t Zz] at e;exact e
  .have z2:=pm.map unK;have e2:(ss.map xbi).map unK=ss:=by
    rw[Z7,show (unK∘xbi)=id from funext xj5];exact List.map_id _
   rw[e2] at z2;exact z2
  .rw [ZH] at pw';rw[Z7,ZH];refine pw'.imp_of_mem fun {x y} hx hy hxy=>xqj ?_;show lexK (xbi (unK x.1)) (xbi (unK y.1))=true;rw[back x hx,back y hy];exact hxy
end
def SsOk (h:Int) (ss:List Seat):Prop:=ss.Nodup/\ss.length<=32/\∀ s∈ss,1<=s.2/\s.2<=h
theorem xac.get {H:Hp}{ss:List Seat}{qs:List Addr} (h:xac H ss qs) {i:Nat}{q:Addr} (e:qs[i]?=some q):∃ s,ss[i]?=some s/\H q=some (.tup (xcq s)):=by
 induction h generalizing i with
 | nil=>simp at e
 | @cons s q' ss qs h _ ih =>
  cases i with
  | zero =>
   simp at e;subst e;exact⟨s,rfl,h⟩
  | succ j=>exact ih (by simpa using e)
theorem nd_map {α β:Type}{f:α->β} (inj:∀ a b,f a=f b->a=b) {l:List α} (h:l.Nodup):(l.map f).Nodup:=by
 rw[List.nodup_iff_pairwise_ne,ZH];exact h.imp fun hne e=>hne (inj _ _ e)
theorem xac.snoc {H:Hp}{ss:List Seat}{qs:List Addr} (h:xac H ss qs) {s:Seat}{q:Addr} (e:H q=some (.tup (xcq s))):xac H (ss++[s]) (qs++[q]):=by
 induction h with
 | nil=>exact .cons e .nil
 | cons h _ ih=>exact .cons h ih
theorem xgg {α:Type}{R:α->α->Prop} (as:∀ a b,R a b->¬ R b a):∀{l l':List α},l.Perm l'->l.Pairwise R->l'.Pairwise R->l=l'
 | [],l',p,_,_=>(Q0.nil_eq p)
 | a::t,[],p,_,_=>absurd p.symm (by intro z; exact absurd (Q0.nil_eq z) (by simp))
 | a::t,b::t',p,h,h'=>by
  have h1:=Qj.mp h;have h2:=Qj.mp h';by_cases e:a=b
  .subst e;rw[xgg as ((List.perm_cons a).mp p) h1.2 h2.2]
  .have ma:a∈t':=by
    have:=p.mem_iff.mp (Zz (a:=a) (l:=t));rcases Z1.mp this with z|z
    .exact absurd z e
    .exact z
   have mb:b∈t:=by
    have:=p.mem_iff.mpr (Zz (a:=b) (l:=t'));rcases Z1.mp this with z|z
    .exact absurd z.symm e
    .exact z
   exact absurd (h2.1 a ma) (as _ _ (h1.1 b mb))
theorem xiu (a b:Seat) (h:xby a b):¬ xby b a:=by
 rintro (⟨x,y⟩|⟨x,y⟩)<;>rcases h with⟨z,w⟩|⟨z,w⟩
 .rw [x] at w; cases w
 .rw [x,y] at z; cases z
 .rw [z,w] at x; cases x
 .omega
def xdo (s:Seat):DV:=.tup [.str (x9 s.1),.int s.2]
theorem xnz {s t:Seat}:xdo s=xdo t↔s=t:=by
 constructor
 .intro h
  unfold xdo at h;simp only[DV.tup.injEq,JP.injEq,DV.str.injEq,DV.int.injEq,and_true] at h;exact QV (xfk h.1) h.2
 .intro h
  rw[h]
theorem xqg (s t:Seat):dEq (xdo s) (xdo t)=decide (s=t):=xlz rfl rfl xnz
theorem xqe (ss:List Seat) (s:Seat):(ss.map xdo).any (fun z=>dEq z (xdo s))=decide (s∈ss):=by
 rw[Je,List.any_eq_true,decide_eq_true_iff];constructor
 .rintro ⟨z,hz,e⟩;obtain⟨t,ht,rfl⟩:=Ze.mp hz;rw[xqg,decide_eq_true_iff] at e;exact e▸ht
 .intro h
  exact⟨_,Ze.mpr ⟨s,h,rfl⟩,xdj _⟩
theorem xlv {K:Zd}{H:Hp}{q:Addr}{s:Seat} (h:H q=some (.tup (xcq s))):Dv K H 1 (.ref q) (xdo s):=by
 refine .tup (SqT.of h) rfl fun j x d h1 h2=>?_
 match j,h1,h2 with
 | 0,h1,h2=>cases h1; cases h2; exact .str
 | 1,h1,h2=>cases h1; cases h2; exact .int
 | j+2,h1,h2=>simp[xcq] at h1
theorem xac.dv {K:Zd}{H:Hp}{ss:List Seat}{qs:List Addr} (h:xac H ss qs) {l:Addr} (e:H l=some (.lst (qs.map V.ref))):Dv K H 2 (.ref l) (.lst (ss.map xdo)):=by
 refine .lst (SqL.of e) (by rw[Za,Za,h.len]) fun j x d h1 h2=>?_;rw[Zh] at h1 h2;obtain⟨q,hq,rfl⟩:=Zl.mp h1;obtain⟨p,hp,rfl⟩:=Zl.mp h2;obtain⟨p',hp',e'⟩:=h.get hq;rw[hp] at hp';cases hp';exact xlv e'
theorem xac.pick {H:Hp}:∀{ss:List Seat}{ys:List V},ys.length=ss.length->(∀(j:Nat) (y:V) (s:Seat),ys[j]?=some y->ss[j]?=some s->∃ q,y=.ref q/\H q=some (.tup (xcq s)))->∃ rs:List Addr,ys=rs.map V.ref/\xac H ss rs
 | [],[],_,_=>⟨[],rfl,.nil⟩
 | [],_::_,h,_=>by cases h
 | _::_,[],h,_=>by cases h
 | s::ss,y::ys,h,k=>by
  obtain⟨q,e,hq⟩:=k 0 y s rfl rfl;obtain⟨rs,e2,r⟩:=xac.pick (ss:=ss) (ys:=ys) (by simpa using h) fun j y s h1 h2=>k (j+1) y s (by simpa using h1) (by simpa using h2)
  exact⟨q::rs,by rw[e,e2]; rfl,.cons hq r⟩
theorem xm9 {α:Type} [DecidableEq α]:∀{l m:List α},l.Nodup->(∀ x∈l,x∈m)->l.length<=m.length
 | [],m,_,_=>Jb _
 | a::l,m,nd,sub=>by
  obtain⟨h1,h2⟩:=Jh.mp nd;have ha:=sub a Zz;have z:=xm9 (l:=l) (m:=m.erase a) h2 (fun x hx=>(List.mem_erase_of_ne (fun e:x=a=>h1 (e▸hx))).mpr (sub x (Zy _ hx)));rw[List.length_erase_of_mem ha] at z;have:=List.length_pos_of_mem ha;rw[ZL];omega
theorem xs3 {K:Zd}{H:Hp}{q:Addr}{a b:Int} (h:H q=some (.tup [.int a,.int b])):Dv K H 1 (.ref q) (.tup [.int a,.int b]):=by
 refine .tup (SqT.of h) rfl fun j x d h1 h2=>?_
 match j,h1,h2 with
 | 0,h1,h2=>cases h1; cases h2; exact .int
 | 1,h1,h2=>cases h1; cases h2; exact .int
 | j+2,h1,h2=>simp at h1
structure PtOk (w h:Int) (p:Pt):Prop where
 nm:isNm p.nm=true
 x1:1<=p.x
 x2:p.x<=w
 y1:1<=p.y
 y2:p.y<=h
 sd:p.sd="left"\/p.sd="right"\/p.sd="both"
 l1:1<=p.lo
 l2:p.lo<=p.hi
 l3:p.hi<=h
structure xcs (w h:Int) (ps:List Pt):Prop where
 ok:∀ p∈ps,PtOk w h p
 nn:(ps.map (·.nm)).Nodup
 nx:(ps.map (·.x)).Nodup
 ny:(ps.map (·.y)).Nodup
 le:ps.length<=12
theorem xc2 {α β:Type} (f:α->β) {ps:List α} (nd:(ps.map f).Nodup) {i:Nat} (hi:i<ps.length):∀ p∈ps.take i,f p≠f ps[i]:=fun p hp e=>by
 have z:=nd;rw[<- QR i ps,Qn hi,Z8,Z2,ZU] at z;exact z.2.2 _ (Ze.mpr ⟨p,hp,rfl⟩) _ Zz e
theorem PtsL.pick {H:Hp}:∀{ps:List Pt}{ys:List V},ys.length=ps.length->(∀(j:Nat) (y:V) (p:Pt),ys[j]?=some y->ps[j]?=some p->∃ q,y=.ref q/\H q=some (.tup (.str p.nm::ptV p)))->∃ rs:List Addr,ys=rs.map V.ref/\PtsL H ps rs
 | [],[],_,_=>⟨[],rfl,.nil⟩
 | [],_::_,h,_=>by cases h
 | _::_,[],h,_=>by cases h
 | s::ss,y::ys,h,k=>by
  obtain⟨q,e,hq⟩:=k 0 y s rfl rfl;obtain⟨rs,e2,r⟩:=PtsL.pick (ps:=ss) (ys:=ys) (by simpa using h) fun j y s h1 h2=>k (j+1) y s (by simpa using h1) (by simpa using h2)
  exact⟨q::rs,by rw[e,e2]; rfl,.cons hq r⟩
theorem xh9 {ps:List Pt} (nd:(ps.map (·.nm)).Nodup) {p:Pt} (hp:p∈ps):ps.find? (fun q=>decide (q.nm=p.nm))=some p:=by
 induction ps with
 | nil=>simp at hp
 | cons a ps ih =>
  rw[Z2,Jh] at nd;rcases Z1.mp hp with z|z
  .subst z;rw[QG (by simp)]
  .have ne:¬ a.nm=p.nm:=fun y=>nd.1 (y▸Ze.mpr ⟨p,z,rfl⟩);rw[QH (by simpa using ne)];exact ih nd.2 z
def xt0 (t:Adr):Sp:=fun vs H Q _=>∃(w h:Int) (l m:Addr) (ps:List Pt) (qs:List Addr) (ss:List Seat) (rs:List Addr),vs=[.int w,.int h,.ref l,.ref m]/\(1<=w/\w<=30/\1<=h/\h<=16)/\H l=some (.lst (qs.map V.ref))/\PtsL H ps qs/\xcs w h ps/\H m=some (.lst (rs.map V.ref))/\xac H ss rs/\SsOk h ss /\
 ∀ H' a dp do_,Same H H'->H a=none->H dp=none->H do_=none->Pic t H' a dp do_ w h ps->Sts H' do_ ss->Q (.ref a) H'
section
variable {P:Program}{w:World}{K:Zd}{mg:Str->Option Value}{base:Heap}{t:Adr}
theorem ok_aa (T:Txt w K mg t):FnOk true P w K mg base (CXo P w) 6 t.f_aa t.d_aa ["width", "height", "points", "seats"] (xt0 t):=by
 refine T.F_aa.okn (k:=5) sc_aa (fun vs H Q E h=>?_) (fun cdv A outer s H vs Q E hr h=>?_)
 .obtain ⟨w,ph,l,m,ps,qs,ss,rs,rfl,_⟩:=h;rfl
 .obtain ⟨w,ph,l,m,ps,qs,ss,rs,rfl,h⟩:=h;refine⟨_,xk (xw (i:=4) sc_aa.nd rfl (Zn rfl) (xe3 T.k_c (ok_ah T) (hr.mono (by decide)) rfl T.g_c T.b_ah .nil xn (xb (pv 0) (xb (pv 1) (xg)))))
   (xk (xa4 ZO rfl (xa0 (pv 2)) (xap rfl (xr (xq (i:=5) sc_aa.nd rfl (Zn rfl)) (xr (xq (i:=6) sc_aa.nd rfl (Zn rfl)) (xr (xq (i:=7) sc_aa.nd rfl (Zn rfl)) (xr (xq (i:=8) sc_aa.nd rfl (Zn rfl)) (xr (xq (i:=9) sc_aa.nd rfl (Zn rfl)) (xr (xq (i:=10) sc_aa.nd rfl (Zn rfl)) (xag)))))))) (xm (xax (xat (pv 4) T.c_c T.m_a (ok_a T) (hr.mono (by decide)) T.b_a .nil xn (xz (pv 5) (xz (pv 6) (xz (pv 7) (xz (pv 8) (xz (pv 9) (xz (pv 10) (xg) rfl) rfl) rfl) rfl) rfl) rfl)))))
   (xk (xa4 ZO rfl (xa0 (pv 3)) (xap rfl (xr (xq (i:=11) sc_aa.nd rfl (Zn rfl)) (xr (xq (i:=12) sc_aa.nd rfl (Zn rfl)) (xag)))) (xm (xax (xat (pv 4) T.c_c T.m_g (ok_g T) (hr.mono (by decide)) T.b_g .nil xn (xb (pv 11) (xb (pv 12) (xg)))))))
   (xm (x0 (pv 4))))),?_⟩
  obtain⟨⟨w1,w2,h1,h2⟩,hl,pts,pok,hm,sts,⟨snd,sle,srow⟩,q⟩:=h;refine⟨_,rfl,_,rfl,fun a dx hx hdx ne=>⟨a,dx,w,ph,rfl,xf,w1,w2,h1,h2,fun H5 dp do_ hdp5 hdo5 s6 pic5 hdt=>⟨rfl,?_⟩⟩⟩;have k5:Same H H5:=fun b u e=>s6 b u (xi e hx) (by rw[xh (xi e hx),xh (xi e hdx)]; exact e);have up:∀ b,upd (upd H dx (.own a)) a (.ins t.C_c dx []) b=none->H b=none:=fun b z=>by
   cases e:H b with
   | none=>rfl
   | some u=>rw[xh (xi e hx),xh (xi e hdx),e] at z; cases z
  have fdp:=up _ hdp5;have fdo:=up _ hdo5;have pl:=pts.len;have sl:=sts.len;refine⟨_,rfl,l,rfl,⟨_,SqL.of (k5 _ _ hl)⟩,?_⟩;refine xbd (xs:=qs.map V.ref) (Pv:=fun i σ H2=>∃ v5 v6 v7 v8 v9 v10 v11 v12:Option V,σ=[some (.int w),some (.int ph),some (.ref l),some (.ref m),some (.ref a),v5,v6,v7,v8,v9,v10,v11,v12]/\Same H H2/\Pic t H2 a dp do_ w ph (ps.take i)/\H2 do_=some (.dT [])) ⟨_,_,_,_,_,_,_,_,rfl,k5,by simpa using pic5,hdt⟩ (fun _ _ _ _ ⟨_,_,_,_,_,_,_,_,_,z,_⟩=>SqL.of (z _ _ hl)) ?_ ?_
  .rintro i v σ H2 hv ⟨v5,v6,v7,v8,v9,v10,v11,v12,rfl,s2,pic2,hd2⟩;rw[Zh] at hv;obtain⟨z,hz,rfl⟩:=Zl.mp hv;obtain⟨p,hp,ez⟩:=pts.get hz;obtain⟨hi,ep⟩:=Zj.mp hp;have ok:=pok.ok p (Zo hp);obtain⟨⟨dx2,hp2⟩,⟨kvs,hk2,_⟩,_⟩:=id pic2;have ple:=pok.le;refine⟨z,_,rfl,SqT.of (s2 _ _ ez),rfl,_,_,rfl,_,_,rfl,_,_,rfl,_,_,rfl,_,_,rfl,_,_,rfl,rfl,?_⟩;refine⟨_,rfl,a,dx2,_,rfl,hp2,xa2 (by decide +kernel),_,rfl,_,rfl,_,rfl,_,rfl,_,rfl,_,rfl,?_⟩;refine⟨a,dp,do_,w,ph,ps.take i,p.nm,p.x,p.y,p.sd,p.lo,p.hi,.int p.hi,rfl,pic2,.inr rfl,ok.nm,ok.x1,ok.x2,ok.y1,ok.y2,ok.sd,ok.l1,ok.l2,ok.l3,fun p' hp'=>?_,?_,fun H3 k3 pic3=>?_⟩
   .have e:=ep.symm;subst e;exact⟨xc2 _ pok.nn hi p' hp',xc2 _ pok.nx hi p' hp',xc2 _ pok.ny hi p' hp'⟩
   .rw [ZQ];omega
   .refine ⟨_,_,_,_,_,_,_,_,rfl,fun b u e=>k3 b u (xi e fdp) (s2 b u e),?_,k3 _ _ (xai hd2 hk2 (fun z=>nomatch z)) hd2⟩;rw[ZT,hp];exact pic3
  .rintro σ H2 ⟨v5,v6,v7,v8,v9,v10,v11,v12,rfl,s2,pic2,hd2⟩;rw[Za,pl,JM] at pic2;refine⟨_,rfl,m,rfl,⟨_,SqL.of (s2 _ _ hm)⟩,?_⟩;refine xbd (xs:=rs.map V.ref) (Pv:=fun i σ H3=>∃ v5 v6 v7 v8 v9 v10 v11 v12:Option V,σ=[some (.int w),some (.int ph),some (.ref l),some (.ref m),some (.ref a),v5,v6,v7,v8,v9,v10,v11,v12]/\Same H H3/\Pic t H3 a dp do_ w ph ps/\Sts H3 do_ (ss.take i)) ⟨_,_,_,_,_,_,_,_,rfl,s2,pic2,[],hd2,rfl,Qg,by simp⟩ (fun _ _ _ _ ⟨_,_,_,_,_,_,_,_,_,z,_⟩=>SqL.of (z _ _ hm)) ?_ ?_
   .rintro i v σ H3 hv ⟨v5,v6,v7,v8,v9,v10,v11,v12,rfl,s3,pic3,st3⟩;rw[Zh] at hv;obtain⟨z,hz,rfl⟩:=Zl.mp hv;obtain⟨s0,hs0,ez⟩:=sts.get hz;obtain⟨hi,es⟩:=Zj.mp hs0;obtain⟨b,r⟩:=s0;obtain⟨r1,r2⟩:=srow _ (Zo hs0);obtain⟨⟨dx3,hp3⟩,_,_⟩:=id pic3;have nin:(b,r)∉ss.take i:=fun hmem=>by
     have:=xc2 id (by simpa using snd) hi _ hmem;exact this (by rw[es])
    refine⟨z,_,rfl,SqT.of (s3 _ _ ez),rfl,_,_,rfl,_,_,rfl,rfl,?_⟩;refine⟨_,rfl,a,dx3,_,rfl,hp3,xa2 (by decide +kernel),_,rfl,_,rfl,?_⟩;refine⟨a,dp,do_,w,ph,ps,ss.take i,b,r,rfl,pic3,st3,r1,r2,nin,?_,fun H4 k4 pic4 st4=>?_⟩
    .rw [ZQ];omega
    .refine ⟨_,_,_,_,_,_,_,_,rfl,fun c u e=>k4 c u (xi e fdo) (s3 c u e),pic4,?_⟩;rw[ZT,hs0];exact st4
   .rintro σ H3 ⟨v5,v6,v7,v8,v9,v10,v11,v12,rfl,s3,pic3,st3⟩;rw[Za,sl,JM] at st3;exact⟨_,rfl,q H3 a dp do_ s3 hx fdp fdo pic3 st3⟩
end
def scD:V->DV
 | .int i=>.int i
 | .bl b=>.bl b
 | .str s=>.str s
 | _=>.non
def scV:V->Bool
 | .int _=>true
 | .bl _=>true
 | .str _=>true
 | .non=>true
 | _=>false
theorem xu2 {K:Zd}{H:Hp}{v:V} (h:scV v=true):Dv K H 0 v (scD v):=by
 cases v with
 | int i=>exact .int
 | bl b=>exact .bl
 | str s=>exact .str
 | non=>exact .non
 | _=>cases h
theorem xe6 {K:Zd}{H:Hp}{xs:List V} (f:xs.all scV=true) (j:Nat) (x:V) (d:DV) (h1:xs[j]?=some x) (h2:(xs.map scD)[j]?=some d):Dv K H 0 x d:=by
 rw[Zh,h1] at h2;cases h2;exact xu2 (Yx.mp f x (Zo h1))
inductive Er where
 | badDrawing (v0:V) (v1:V)
def Er.cls (t:Adr):Er->Addr
 | .badDrawing _ _=>t.C_b
def Er.fs:Er->List (Str × V)
 | .badDrawing v0 v1=>[("row",v0),("column",v1)]
def ErAt (t:Adr) (H:Hp) (e:Addr) (er:Er):Prop:=(er.fs=[]/\H e=some (XO e (er.cls t) none))\/(er.fs≠[]/\∃ dx,H e=some (XO e (er.cls t) (some dx))/\H dx=some (XD dx er.fs))
def xbl (t:Adr) (H H':Hp) (e:Addr) (er:Er):Prop:=Same H H'/\ErAt t H' e er
theorem xbl.pre {t:Adr}{H H1 H':Hp}{e:Addr}{er:Er} (s:Same H H1) (h:xbl t H1 H' e er):xbl t H H' e er:=⟨s.trans h.1,h.2⟩
def spX2 (C:Addr) (f g:Str):Sp:=fun vs H Q _=>∃(e:Addr) (v w:V),vs=[.ref e,v,w]/\H e=some (XN e C none)/\∀ dx,H dx=none->Q .non (upd (upd (upd H dx (XD dx [(f,v)])) e (XN e C (some dx))) dx (XD dx (putF g w [(f,v)])))
theorem lk_1 {f:Str}{v:V}{r:List (Str × V)}:((f,v)::r).lookup f=some v:=by simp
theorem lk_2 {f g:Str}{v w:V} (h:(g == f)=false):([(f,v),(g,w)]:List (Str × V)).lookup g=some w:=by
 rw[Zw,h];simp
theorem xh2 {t:Adr}{H:Hp}{e dx C:Addr}{er:Er}{fs fs0:List (Str × V)} (hc:er.cls t=C) (hf:er.fs=fs) (he:H e=none) (hdx:upd H e (XN e C none) dx=none) (hn:fs≠[]:=by (intro z; cases z)):xbl t H (upd (upd (upd (upd (upd H e (XN e C none)) dx (XD dx fs0)) e (XN e C (some dx))) dx (XD dx fs)) e (XO e C (some dx))) e er:=by
 have ne:dx≠e:=fun z=>by rw[z,xf] at hdx; cases hdx
 rw[xh ne] at hdx;subst hc hf;refine⟨fun y o q=>?_,.inr ⟨hn,dx,xf,?_⟩⟩
 .rw [xh (xi q he),xh (xi q hdx),xh (xi q he),xh (xi q hdx),xh (xi q he)];exact q
 .rw [xh ne,xf]
theorem xh8 {H:Hp}{e dx C:Addr}{a b c:HO} (hdx:upd H e a dx=none):upd (upd (upd (upd H e a) dx b) e (XN e C (some dx))) dx c e=some (XN e C (some dx)):=by
 have ne:dx≠e:=fun z=>by rw[z,xf] at hdx; cases hdx
 rw[xh (ZF ne),xf]
section
variable {P:Program}{w:World}{K:Zd}{mg:Str->Option Value}{base:Heap}{t:Adr}
theorem ok_n (T:Txt w K mg t):FnOk true P w K mg base (CXo P w) 1 t.f_n t.d_n ["self", "row", "column"] (spX2 t.C_b "row" "column"):=by
 refine T.F_n.okn (k:=0) sc_n (fun vs H Q E h=>?_) (fun cdv A outer s H vs Q E hr h=>?_)
 .obtain ⟨e,v,w2,rfl,_⟩:=h;rfl
 .obtain ⟨e,v,w2,rfl,h⟩:=h;refine⟨_,xk (xlp (pv 0) (pv 1) rfl)
   (xm (xlp (pv 0) (pv 2) rfl)),?_⟩
  obtain⟨he,q⟩:=h;refine⟨_,rfl,_,rfl,e,t.C_b,rfl,T.x_b,T.n_bi,.inl ⟨he,fun dx hdx=>?_⟩⟩;have ne:dx≠e:=fun z=>by rw[z,he] at hdx; cases hdx
  exact⟨_,rfl,_,rfl,e,t.C_b,rfl,T.x_b,T.n_bf,.inr ⟨dx,_,xf,(by rw[xh ne]; exact xf),(by show 1<1000; decide),q dx hdx⟩⟩
end
abbrev Pr:=Pt × Bool × Int
def prV (p:Pr):List V:=[.str p.1.nm,.str (x9 p.2.1),.int p.2.2]
inductive PrsL (H:Hp):List Pr->List Addr->Prop
 | nil:PrsL H [] []
 | cons {p:Pr}{q:Addr}{ps:List Pr}{qs:List Addr} (h:H q=some (.tup (prV p))) (r:PrsL H ps qs):PrsL H (p::ps) (q::qs)
theorem PrsL.keep {H H':Hp} (s:Tups H H') {ps:List Pr}{qs:List Addr} (h:PrsL H ps qs):PrsL H' ps qs:=by
 induction h with
 | nil=>exact .nil
 | cons h _ ih=>exact .cons (s _ _ h) ih
theorem PrsL.len {H:Hp}{ps:List Pr}{qs:List Addr} (h:PrsL H ps qs):qs.length=ps.length:=by
 induction h with
 | nil=>rfl
 | cons _ _ ih=>simp[ih]
theorem PrsL.snoc {H:Hp}{ps:List Pr}{qs:List Addr} (h:PrsL H ps qs) {p:Pr}{q:Addr} (e:H q=some (.tup (prV p))):PrsL H (ps++[p]) (qs++[q]):=by
 induction h with
 | nil=>exact .cons e .nil
 | cons h _ ih=>exact .cons h ih
theorem PrsL.get {H:Hp}{ps:List Pr}{qs:List Addr} (h:PrsL H ps qs) {i:Nat}{q:Addr} (e:qs[i]?=some q):∃ p,ps[i]?=some p/\H q=some (.tup (prV p)):=by
 induction h generalizing i with
 | nil=>simp at e
 | @cons p q' ps qs h _ ih =>
  cases i with
  | zero =>
   simp at e;subst e;exact⟨p,rfl,h⟩
  | succ j=>exact ih (by simpa using e)
structure PrOk (ps:List Pt) (w h:Int) (p:Pr):Prop where
 nm:isNm p.1.nm=true
 fd:ps.find? (fun z=>decide (z.nm=p.1.nm))=some p.1
 r1:1<=p.2.2
 r2:p.2.2<=h
 xy:1<=p.1.x/\p.1.x<=w/\1<=p.1.y/\p.1.y<=h
abbrev Cl:=Int × Int
def ck (c:Cl):List Key:=[.inl c.1,.inl c.2]
theorem xte {a b:Cl} (h:ck a=ck b):a=b:=by
 obtain⟨x,y⟩:=a;obtain⟨u,v⟩:=b;have h1:=JP.inj h;have h2:=JP.inj h1.2;rw[show x=u from YD.inj h1.1,show y=v from YD.inj h2.1]
def SD (H:Hp) (d:Addr) (n:Nat) (m:Cl->Option Str):Prop:=∃ kvs,H d=some (.dT kvs)/\kvs.length<=n/\(kvs.map (·.1)).Nodup/\(∀ kv∈kvs,∃ c,kv.1=ck c)/\∀ c,valV kvs (ck c)=(m c).map V.str
theorem xih {κ:Type} [DecidableEq κ] (kvs:List (κ × V)) (k:κ) (v:V):(putK kvs k v).map (·.1)=kvs.map (·.1)\/(valV kvs k=none/\(putK kvs k v).map (·.1)=kvs.map (·.1)++[k]):=by
 cases e:valV kvs k with
 | none =>
  rw[xdc v e,Z8];exact .inr ⟨rfl,rfl⟩
 | some y =>
  left;unfold putK;rw[if_pos (by rw[xdg,e]; rfl),Z7]
  congr 1
  funext kv;show (if kv.1=k then (kv.1,v) else kv).1=kv.1;split<;>rfl
theorem xgt {κ:Type} [DecidableEq κ]:∀{kvs:List (κ × V)}{k:κ},valV kvs k=none->k∉kvs.map (·.1)
 | [],_,_,h=>nomatch h
 | x::r,k,e,h=>by
  by_cases z:x.1=k
  .rw [xa1 z] at e;cases e
  .rw [xay z] at e;rcases Z1.mp h with h|h
   .exact z h.symm
   .exact xgt e h
theorem xl9 {κ:Type} [DecidableEq κ] {kvs:List (κ × V)}{k:κ}{v:V} (h:(kvs.map (·.1)).Nodup):((putK kvs k v).map (·.1)).Nodup:=by
 rcases xih kvs k v with e|⟨e0,e⟩
 .rw [e];exact h
 .rw [e,ZU];refine⟨h,by simp,fun a ha b hb z=>xgt e0 ?_⟩;rw[Zv.mp hb] at z;exact z▸ha
theorem xjv {κ:Type} [DecidableEq κ] {kvs:List (κ × V)}{k:κ}{v:V}{P:κ->Prop} (hk:P k) (h:∀ kv∈kvs,P kv.1):∀ kv∈putK kvs k v,P kv.1:=fun kv hkv=>by
 have m:kv.1∈(putK kvs k v).map (·.1):=Ze.mpr ⟨kv,hkv,rfl⟩;rcases xih kvs k v with e|⟨_,e⟩
 .rw [e] at m;obtain⟨z,hz,ez⟩:=Ze.mp m;rw[<- ez];exact h z hz
 .rw [e] at m;rcases Z5.mp m with m|m
  .obtain ⟨z,hz,ez⟩:=Ze.mp m;rw[<- ez];exact h z hz
  .rw [Zv.mp m];exact hk
theorem SD.put {H:Hp}{d:Addr}{n:Nat}{m:Cl->Option Str} (s:SD H d n m) (hn:n<1000) {b:Addr}{c:Cl} (eb:H b=some (.tup [.int c.1,.int c.2])) (x:Str) :
    ∃ H',DPut H d (.ref b) (.str x) H'/\SD H' d (n+1) (Drw.set1 m c x)/\(∀ a u,a≠d->H a=some u->H' a=some u)/\∀ a,H a=none->H' a=none:=by
  obtain⟨kvs,e,l,nd,ks,vs⟩:=s;refine⟨_,DPut.t (k:=ck c) e eb (Z9 (by omega:_<=1000) (by decide)),⟨_,xf,?_,xl9 nd,xjv (P:=fun k=>∃ c,k=ck c) ⟨c,rfl⟩ ks,fun z=>?_⟩,fun a u na ea=>by rw[xh na]; exact ea,fun a ea=>by rw[xh (fun z=>by rw[z,e] at ea; cases ea)]; exact ea⟩
  . have:=xb7 kvs (ck c) (.str x)
    omega
  . rw[xjz]
    unfold Drw.set1;by_cases zc:z=c
    . rw[if_pos (by rw[zc]),if_pos zc]
      rfl
    . rw[if_neg (fun y=>zc (xte y)),if_neg zc]
      exact vs z
theorem SD.get {H:Hp}{d:Addr}{n:Nat}{m:Cl->Option Str} (s:SD H d n m) {b:Addr}{c:Cl} (eb:H b=some (.tup [.int c.1,.int c.2])):DGet H d (.ref b) ((m c).map V.str):=by
 obtain⟨kvs,e,l,nd,ks,vs⟩:=s;rw[<- vs c];exact DGet.t (k:=ck c) e eb
theorem SD.keep {H H':Hp}{d:Addr}{n:Nat}{m:Cl->Option Str} (s:SD H d n m) (h:∀ u,H d=some u->H' d=some u):SD H' d n m:=by
 obtain⟨kvs,e,r⟩:=s;exact⟨kvs,h _ e,r⟩
theorem SD.le {H:Hp}{d:Addr}{n k:Nat}{m:Cl->Option Str} (s:SD H d n m) (h:n<=k):SD H d k m:=by
 obtain⟨kvs,e,l,r⟩:=s;exact⟨kvs,e,by omega,r⟩
theorem SD.new {H:Hp}{d:Addr} (e:H d=some (.dT [])):SD H d 0 Drw.no:=⟨[],e,Zi _,Qg,fun _ z=>(nomatch z),fun _=>rfl⟩
def lsS (x r:Int) (c:Cl):Str:=Drw.ls (Zc "+") (Zc "|") (Zc "-") x r c
def ledS (w:Int) (p:Pr):List (Cl × Str):=Drw.ledP (Zc "+") (Zc "|") (Zc "-") w p.1.x p.1.y p.2.1 p.2.2
def hsS:Str:=Zc "#"
theorem xn0 {w x y:Int}{b:Bool}{r:Int} (h1:1<=x) (h2:x<=w) (h3:w<=30) (h4:1<=y) (h5:y<=16) (h6:1<=r) (h7:r<=16):(Geo.cells w x y b r).length<=50:=by
 unfold Geo.cells Geo.upL Geo.lvL Geo.upN Geo.lvN;rw[Zp,Za,Za,Zt,Zt];split<;>split<;>omega
theorem xse (c d:Cl):DV.tup [.int c.1,.int c.2]=DV.tup [.int d.1,.int d.2]↔c=d:=by
 constructor
 .intro h
  have h1:=JP.inj (DV.tup.inj h);have h2:=JP.inj h1.2;exact QV (DV.int.inj h1.1) (DV.int.inj h2.1)
 .intro h
  rw[h]
def xru:Sp:=fun vs H Q _=>∃(q:Addr) (c:Cl) (x r:Int),vs=[.ref q,.int x,.int r]/\H q=some (.tup [.int c.1,.int c.2])/\∀ H',Same H H'->Q (.str (lsS x r c)) H'
def xpj (t:Adr):Sp:=fun vs H Q _=>∃(a l dp do_:Addr) (pw ph:Int) (ps:List Pt) (prs:List Pr) (qs:List Addr),vs=[.ref a,.ref l]/\Pic t H a dp do_ pw ph ps/\H l=some (.lst (qs.map V.ref))/\PrsL H prs qs/\(∀ p∈prs,PrOk ps pw ph p)/\prs.length<=12 /\
 ∀ H' d,Same H H'->H d=none->SD H' d 600 (Drw.marks hsS Drw.no (prs.flatMap (ledS pw)))->Q (.ref d) H'
section
variable {P:Program}{w:World}{K:Zd}{mg:Str->Option Value}{base:Heap}{t:Adr}
theorem ok_at (T:Txt w K mg t):FnOk true P w K mg base (CXo P w) 1 t.f_at t.d_at ["cell", "x", "row"] (xru):=by
 refine T.F_at.okn (k:=0) sc_at (fun vs H Q E h=>?_) (fun cdv A outer s H vs Q E hr h=>?_)
 .obtain ⟨q,c,x,r,rfl,_⟩:=h;rfl
 .obtain ⟨q,c,x,r,rfl,h⟩:=h;refine⟨_,xk (xae (x5 (xjs (xcn hr)) (pv 0) (xaj (xb (pv 1) (xb (pv 2) (xg)))) (x6 _)) (xm (x0 (xaf))) (x4))
   (xm (x0 (xcu (x5 xa7 (xab xbq (pv 0) (xj) (fun _ _=>rfl)) (pv 1) (x6 _)) (xaf) (xaf)))),?_⟩
  obtain⟨hq,h⟩:=h;refine⟨_,rfl,_,rfl,_,rfl,(by show 2<=sizeLine; decide),fun p1 hp1=>?_⟩;have s1:Same H (upd H p1 (.tup [.int x,.int r])):=xp (Same.refl _) hp1;have g1:upd H p1 (.tup [.int x,.int r]) p1=some (.tup [.int x,.int r]):=xf;revert s1 g1;generalize upd H p1 (.tup [.int x,.int r])=H1;intro s1 g1;have d1:Dv K H1 1 (.ref q) (.tup [.int c.1,.int c.2]):=.tup (SqT.of (s1 _ _ hq)) rfl (xe6 (xs:=[.int c.1,.int c.2]) rfl);have d2:Dv K H1 1 (.ref p1) (.tup [.int x,.int r]):=.tup (SqT.of g1) rfl (xe6 (xs:=[.int x,.int r]) rfl);refine⟨1,1,_,_,d1,d2,by decide,by decide,_,rfl,?_⟩;rw[xlz (x:=c) (y:=(x,r)) rfl rfl (xse c (x,r))];have e0:lsS x r c=if c=(x,r) then Zc "+" else if c.1=x then Zc "|" else Zc "-":=rfl
  refine ite2 (fun z=>?_) (fun z=>?_)
  .have e:=h H1 s1;rw[e0,if_pos (of_decide_eq_true z)] at e;exact e
  .have nz:¬ c=(x,r):=fun y=>z (decide_eq_true y);refine⟨_,rfl,q,_,0,.int c.1,rfl,rfl,SqT.of (s1 _ _ hq),rfl,_,rfl,rfl,_,rfl,?_⟩;have e:=h H1 s1;rw[e0,if_neg nz] at e;refine ite2 (fun y=>?_) (fun y=>?_)
   .have y1:c.1=x:=V.int.inj (of_decide_eq_true y);rw[if_pos y1] at e;exact e
   .have y1:¬ c.1=x:=fun w=>y (decide_eq_true (by rw[w]));rw[if_neg y1] at e;exact e
theorem ok_ad (T:Txt w K mg t):FnOk true P w K mg base (CXo P w) 7 t.f_ad t.d_ad ["picture", "pairs"] (xpj t):=by
 refine T.F_ad.okn (k:=6) sc_ad (fun vs H Q E h=>?_) (fun cdv A outer s H vs Q E hr h=>?_)
 .obtain ⟨a,l,dp,do_,pw,ph,ps,prs,qs,rfl,_⟩:=h;rfl
 .obtain ⟨a,l,dp,do_,pw,ph,ps,prs,qs,rfl,h⟩:=h;refine⟨_,xk (xw (i:=2) sc_ad.nd rfl (Zn rfl) (xks))
   (xk (xa4 ZO rfl (xa0 (pv 1)) (xap rfl (xr (xq (i:=3) sc_ad.nd rfl (Zn rfl)) (xr (xq (i:=4) sc_ad.nd rfl (Zn rfl)) (xr (xq (i:=5) sc_ad.nd rfl (Zn rfl)) (xag))))) (xk (xcc (xat (pv 0) T.c_c T.m_f (ok_f T) (hr.mono (by decide)) T.b_f .nil xn (xb (pv 3) (xg))) (xap rfl (xr (xq (i:=6) sc_ad.nd rfl (Zn rfl)) (xr (xq (i:=7) sc_ad.nd rfl (Zn rfl)) (xag)))))
   (xm (xa4 ZO rfl (xa0 (xu (ok_a2 T) (hr.mono (by decide)) rfl T.g_a2 T.F_a2.kp T.b_a2 .nil xn (xb (pv 0) (xb (pv 3) (xb (pv 4) (xb (pv 5) (xg))))))) (xq (i:=8) sc_ad.nd rfl (Zn rfl)) (xm (xdi (xbo hr) (pv 2) (pv 8) (xcu (xe1 (xj7 (xbo hr) (pv 8) (pv 2))) (xaf) (xu (ok_at T) (hr.mono (by decide)) rfl T.g_at T.F_at.kp T.b_at .nil xn (xb (pv 8) (xb (pv 6) (xb (pv 5) (xg)))))) rfl))))))
   (xm (x0 (pv 2)))),?_⟩
  obtain⟨pic,hl,prl,oks,l12,q⟩:=h;have pll:=prl.len;refine fun d hd=>?_;have s1:Same H (upd H d (.dT [])):=xp (Same.refl _) hd;have g1:upd H d (.dT []) d=some (.dT []):=xf;revert s1 g1;generalize upd H d (.dT [])=H1;intro s1 g1;refine⟨_,rfl,l,rfl,⟨_,SqL.of (s1 _ _ hl)⟩,?_⟩;refine xbd (xs:=qs.map V.ref) (Pv:=fun i σ H5=>∃(v3 v4 v5 v6 v7 v8:Option V),σ=[some (.ref a),some (.ref l),some (.ref d),v3,v4,v5,v6,v7,v8]/\Same H H5/\SD H5 d (50*i) (Drw.marks hsS Drw.no ((prs.take i).flatMap (ledS pw)))) ⟨_,_,_,_,_,_,rfl,s1,SD.new g1⟩ ?_ ?_ ?_
  .rintro i σ H5 _ ⟨_,_,_,_,_,_,rfl,s5,_⟩;exact SqL.of (s5 _ _ hl)
  .rintro i x σ H5 hx ⟨v3,v4,v5,v6,v7,v8,rfl,s5,sd⟩;rw[Zh,Zl] at hx;obtain⟨qa,hqa,rfl⟩:=hx;obtain⟨⟨pt,b,r⟩,hp,hpq⟩:=prl.get hqa;have ok:=oks _ (Zo hp);have i12:i<12:=by have:=(Zj.mp hp).1; omega
   have w2:=pic.w2;have h2:=pic.h2;have xy:1<=pt.x/\pt.x<=pw/\1<=pt.y/\pt.y<=ph:=ok.xy;have r1:1<=r:=ok.r1;have r2:r<=ph:=ok.r2;refine⟨qa,_,rfl,SqT.of (s5 _ _ hpq),rfl,_,_,rfl,_,_,rfl,_,_,rfl,rfl,?_⟩;have pic5:=Pic.same s5 pic;obtain⟨⟨dx,hpi⟩,_⟩:=id pic5;refine⟨_,rfl,a,dx,_,rfl,hpi,xa2 (by decide +kernel),_,rfl,a,dp,do_,pw,ph,ps,pt.nm,pt,rfl,pic5,ok.nm,ok.fd,fun H6 q6 s6 hq6=>⟨q6,_,rfl,SqT.of hq6,rfl,_,_,rfl,_,_,rfl,rfl,?_⟩⟩;refine⟨_,rfl,_,rfl,_,rfl,_,rfl,a,dp,do_,pw,ph,ps,pt.nm,pt,b,r,rfl,Pic.same s6 pic5,ok.nm,ok.fd,ok.r1,ok.r2,ok.xy,fun H7 l7 cq s7 hl7 cl7 c100=>⟨l7,rfl,⟨_,SqL.of hl7⟩,?_⟩⟩;have sd7:=sd.keep (H':=H7) (fun u e=>s7 _ _ (s6 _ _ e));have ne7:l7≠d:=by
    obtain⟨kvs,e,_⟩:=sd7;exact xai hl7 e (fun z=>nomatch z)
   have cll:=cl7.len;have c50:=xn0 (b:=b) xy.1 xy.2.1 w2 xy.2.2.1 (by omega) r1 (by omega);have ll:(ledS pw (pt,b,r)).length=cq.length:=by
    unfold ledS Drw.ledP;rw[Za,cll]
   refine xbd (xs:=cq.map V.ref) (Pv:=fun j σ H8=>∃(v8:Option V),σ=[some (.ref a),some (.ref l),some (.ref d),some (.str pt.nm),some (.str (x9 b)),some (.int r),some (.int pt.x),some (.int pt.y),v8]/\(∀ c u,c≠d->H7 c=some u->H8 c=some u)/\SD H8 d (50*i+j) (Drw.marks hsS (Drw.marks hsS Drw.no ((prs.take i).flatMap (ledS pw))) ((ledS pw (pt,b,r)).take j))) ⟨_,rfl,fun c u _ e=>e,sd7⟩ ?_ ?_ ?_
   .rintro j σ H8 _ ⟨_,rfl,k8,_⟩;exact SqL.of (k8 _ _ ne7 hl7)
   .rintro j x σ H8 hx ⟨v8,rfl,k8,sd8⟩;rw[Zh,Zl] at hx;obtain⟨qc,hqc,rfl⟩:=hx;obtain⟨c,hc,hc7⟩:=cl7.get hqc;have j50:j<50:=by have:=(Zj.mp hqc).1; omega
    have nqc:qc≠d:=by
     obtain⟨kvs,e,_⟩:=sd7;exact xai hc7 e (fun z=>nomatch z)
    have hc8:=k8 _ _ nqc hc7;have stp:∀ m:Cl->Option Str,Drw.marks hsS m ((ledS pw (pt,b,r)).take (j+1))=Drw.mark1 hsS (Drw.marks hsS m ((ledS pw (pt,b,r)).take j)) c (lsS pt.x r c):=fun m=>by
     have e:(ledS pw (pt,b,r))[j]?=some (c,lsS pt.x r c):=by
      unfold ledS Drw.ledP;rw[Zh,hc];rfl
     rw[ZT,e];unfold Drw.marks;rw[Qr];rfl
    refine⟨_,rfl,_,rfl,d,_,rfl,sd8.get hc8,_,rfl,ite2 (fun z=>?_) (fun z=>?_)⟩
    .rw [Ym] at z;obtain⟨H9,dput,sd9,k9,_⟩:=sd8.put (by omega) hc8 hsS;refine⟨_,rfl,_,rfl,d,H9,rfl,dput,_,rfl,fun c u nc e=>k9 _ _ nc (k8 _ _ nc e),?_⟩;rw[stp];unfold Drw.mark1;rw[if_pos z];exact sd9
    .rw [Ym] at z;refine⟨_,rfl,_,rfl,_,rfl,qc,c,pt.x,r,rfl,hc8,fun H9 s9=>?_⟩;obtain⟨H10,dput,sd10,k10,_⟩:=(sd8.keep (H':=H9) (fun u e=>s9 _ _ e)).put (by omega) (s9 _ _ hc8) (lsS pt.x r c);refine⟨_,rfl,_,rfl,d,H10,rfl,dput,_,rfl,fun c u nc e=>k10 _ _ nc (s9 _ _ (k8 _ _ nc e)),?_⟩;rw[stp];unfold Drw.mark1;rw[if_neg z];exact sd10
   .rintro σ H8 ⟨v8',rfl,k8,sd8⟩;rw[Za] at sd8;refine⟨_,_,_,_,_,_,rfl,fun c u e=>k8 _ _ (xi e hd) (s7 _ _ (s6 _ _ (s5 _ _ e))),?_⟩;rw[Jk (l:=ledS pw (pt,b,r)) (by omega)] at sd8;have e:(prs.take (i+1)).flatMap (ledS pw)=(prs.take i).flatMap (ledS pw)++ledS pw (pt,b,r):=by
     rw[ZT,hp,Qa];exact congrArg _ (JG _)
    rw[e];refine SD.le ?_ (show 50*i+cq.length<=50*(i+1) by omega);unfold Drw.marks at sd8 ⊢;rw[Qr];exact sd8
  .rintro σ H5 ⟨v3,v4,v5,v6,v7,v8,rfl,s5,sd⟩;refine⟨_,rfl,q H5 d s5 hd ?_⟩;rw[Za,Jk (by omega)] at sd;exact sd.le (by omega)
end
theorem xj2 {lo:Int}{m n:Nat}{g:TG}{σ:L2.St}{fr:List Nat}{te:TE}{l:Addr}{H1:Hp}{Q:VK} (hlen:m<sizeLine) (hl:H1 l=none) (f:Nat->V)
    (step:∀(i:Nat) H2,i<m->Same H1 H2->∀(N:V->Hp->Prop),(∀ H',Same H2 H'->N (f i) H')->g (.int (lo+i)) (blk0 σ fr n) H2 fun σ' H3=>te σ' H3 N)
    (fin:∀ H2,Same H1 H2->H2 l=some (.lst ((Z3 m).map f))->Q (.ref l) H2):xc4 (Itr lo m) n g σ fr xdp te l H1 Q:=by
  refine xfg hlen hl (fun i y _=>y=f i) (fun _ _ _ _ _ z=>z) (fun i H2 hi s N h=>step i H2 hi s N fun H' s'=>h _ H' s' rfl) (fun ys H2 s e ly fy=>fin H2 s ?_);rw[e]
  congr 2
  refine List.ext_getElem (by rw[ly,Za,Zt]) fun i h1 h2=>?_;rw[fy i _ (Zf h1),List.getElem_map,Qk]
def rimC (w:Int) (s:Seat):Cl:=(Drw.rim w s.1,s.2)
def xb3 (w:Int) (ss:List Seat):List (Cl × Str):=ss.map fun s=>(rimC w s,Zc ".")
def xbp (w:Int) (prs:List Pr):List (Cl × Str):=prs.map fun p=>(rimC w p.2,p.1.nm)
def ptsS (ps:List Pt):List (Cl × Str):=ps.map fun p=>((p.x,p.y),p.nm)
def xmg (w:Int) (ss:List Seat) (prs:List Pr):Cl->Option Str:=Drw.sets (Drw.sets Drw.no (xb3 w ss)) (xbp w prs)
def rowT (w:Nat) (r:Int) (m:Cl->Option Str):Str:=YE (Zc "") ((Z3 (w+2)).map fun (j:Nat)=>(m ((j:Int),r)).getD (Zc " "))
def xfv (w h:Nat) (m:Cl->Option Str):List V:=(Z3 h).map fun (i:Nat)=>V.str (rowT w (1+(i:Int)) m)
def xq2 (m:Cl->Option Str):Prop:=∀ c s,m c=some s->s.length<=5
def xtf (t:Adr):Sp:=fun vs H Q _=>∃(a l dp do_:Addr) (pw ph:Int) (ps:List Pt) (ss srt:List Seat) (prs:List Pr) (qs:List Addr),vs=[.ref a,.ref l]/\Pic t H a dp do_ pw ph ps/\Sts H do_ ss/\ss.length<=32/\srt.Perm ss/\srt.Pairwise xby/\H l=some (.lst (qs.map V.ref))/\PrsL H prs qs/\prs.length<=12 /\
 ∀ H' d,Same H H'->H d=none->SD H' d 50 (xmg pw srt prs)->Q (.ref d) H'
def xvg:Sp:=fun vs H Q _=>∃(d:Addr) (n w:Nat) (r:Int) (m:Cl->Option Str),vs=[.ref d,.int (w:Int),.int r]/\SD H d n m/\xq2 m/\w<=30/\∀ H',Same H H'->Q (.str (rowT w r m)) H'
theorem xq4 {t:Adr}{σ:L2.St}{H:Hp}{Q:VK}{i j:Nat}{b:Bool}{w:Int} (hi:σ[i]?=some (some (.str (x9 b)))) (hj:σ[j]?=some (some (.int w))) (h:∀ H',Same H H'->Q (.int (Drw.rim w b)) H') :
    xjf t.C_ae (Zc "rim") (sp1 (V.int 0)) [] (fun _ _ _ _=>False) (xmn (xgm t) [] (fun _ _ _ _=>False) (xf7 (tVar i) (xf7 (tVar j) tNil))) tNil σ H Q \/
    xjf t.C_q (Zc "rim") (xq8 t) [] (fun _ _ _ _=>False) (xmn (xgm t) [] (fun _ _ _ _=>False) (xf7 (tVar i) (xf7 (tVar j) tNil))) tNil σ H Q:=by
  cases b
  . refine .inr ⟨_,hi,_,hj,false,w,rfl,fun p H3 hp3 sd3 s3=>?_⟩
    obtain⟨ds,hs⟩:=id sd3;exact⟨p,ds,_,rfl,hs,lno (by decide +kernel),p,w,rfl,sd3,h H3 s3⟩
  . refine .inl ⟨_,hi,_,hj,true,w,rfl,fun p H3 hp3 sd3 s3=>?_⟩
    obtain⟨ds,hs⟩:=id sd3;exact⟨p,ds,_,rfl,hs,lno (by decide +kernel),_,rfl,h H3 s3⟩
theorem SD.puts {d:Addr}:∀(L:List (Addr × Cl × Str)) {H:Hp}{n:Nat}{m:Cl->Option Str},SD H d n m->n+L.length<=1000->(∀ x∈L,H x.1=some (.tup [.int x.2.1.1,.int x.2.1.2])) ->
    ∃ H2,xfz d H (L.map fun x=>(V.ref x.1,V.str x.2.2)) H2/\SD H2 d (n+L.length) (Drw.sets m (L.map fun x=>(x.2.1,x.2.2)))/\∀ a u,a≠d->H a=some u->H2 a=some u
  | [],H,n,m,s,_,_=>⟨H,.nil,s,fun _ _ _ e=>e⟩
  | x::L,H,n,m,s,hn,hk=>by
    rw[ZL] at hn;obtain⟨H1,dp,s1,k1,_⟩:=s.put (by omega) (hk x (Zz ..)) x.2.2;obtain⟨H2,dps,s2,k2⟩:=SD.puts L s1 (by omega) (fun y hy=>by
      have e:=hk y (Zy _ hy);obtain⟨kvs,ed,_⟩:=s;exact k1 _ _ (xai e ed (fun z=>nomatch z)) e)
    exact⟨H2,.cons dp dps,s2.le (by rw[ZL]; omega),fun a u na e=>k2 _ _ na (k1 _ _ na e)⟩
theorem xi8 {H:Hp}{w:Int}:∀{ss:List Seat}{ys:List V},ys.length=ss.length->(∀(i:Nat) (y:V),ys[i]?=some y->∃ p kp s,y=.ref p/\ss[i]?=some s/\H p=some (.tup [.ref kp,.str (Zc ".")])/\H kp=some (.tup [.int (Drw.rim w s.1),.int s.2])) ->
    ∃ L:List (Addr × Addr × Seat),ys=L.map (fun x=>V.ref x.1)/\L.map (·.2.2)=ss/\∀ x∈L,H x.1=some (.tup [.ref x.2.1,.str (Zc ".")])/\H x.2.1=some (.tup [.int (Drw.rim w x.2.2.1),.int x.2.2.2])
  | [],[],_,_=>⟨[],rfl,rfl,fun _ z=>nomatch z⟩
  | s::ss,y::ys,hl,h=>by
    obtain⟨p,kp,s',rfl,es,h1,h2⟩:=h 0 y rfl;cases es;obtain⟨L,e1,e2,e3⟩:=xi8 (ss:=ss) (ys:=ys) (by simpa using hl) (fun i z hz=>h (i+1) z hz);refine⟨(p,kp,s)::L,by rw[e1]; rfl,by rw[<- e2]; rfl,fun x hx=>?_⟩;rcases Z1.mp hx with rfl|hx
    . exact⟨h1,h2⟩
    . exact e3 x hx
  | [],_::_,hl,_=>nomatch hl
  | _::_,[],hl,_=>nomatch hl
theorem xix {m:Cl->Option Str}{L:List (Cl × Str)}{i:Nat}{c:Cl}{x:Str} (h:L[i]?=some (c,x)):Drw.sets m (L.take (i+1))=Drw.set1 (Drw.sets m (L.take i)) c x:=by
 rw[ZT,h];unfold Drw.sets;rw[Qr];rfl
section
variable {P:Program}{w:World}{K:Zd}{mg:Str->Option Value}{base:Heap}{t:Adr}
theorem ok_ay (T:Txt w K mg t):FnOk true P w K mg base (CXo P w) 7 t.f_ay t.d_ay ["picture", "pairs"] (xtf t):=by
 refine T.F_ay.okn (k:=6) sc_ay (fun vs H Q E h=>?_) (fun cdv A outer s H vs Q E hr h=>?_)
 .obtain ⟨a,l,dp,do_,pw,ph,ps,ss,srt,prs,qs,rfl,_⟩:=h;rfl
 .obtain ⟨a,l,dp,do_,pw,ph,ps,ss,srt,prs,qs,rfl,h⟩:=h;refine⟨_,xk (xw (i:=2) sc_ay.nd rfl (J8 rfl) (xaa (pv 0) rfl))
   (xk (xw (i:=3) sc_ay.nd rfl (Zn rfl) (xbr (xkx rfl (xud hr)) rfl T.n_dict boot_dict (xb (xcv rfl (xbh (zs:=["side", "row"]) (ys:=["width"]) (fr:=[2]) (N0:=["picture", "pairs", "width", "signs", "name", "side", "row"]) (sc0:=xo s_ay) (by decide +kernel) rfl rfl rfl) (xa0 (xbb (pv 0) T.c_c T.m_w (ok_w T) (hr.mono (by decide)) T.b_w .nil xn)) (fun _ _ _ _ _ ow nd=>(xap rfl (xr (xq (i:=0) nd rfl (Zn (ow _ (by simp))) (J8 (ow _ (by simp)))) (xr (xq (i:=1) nd rfl (Zn (ow _ (by simp))) (J8 (ow _ (by simp)))) (xag))):PG _ _ (gTup K 2 _))) (xes (xbk (by decide) (xbk (by decide) (xd6)))) (fun _ _ _ _ _=>xbu) (fun _ _ _ _ _=>xaj (xb (xaj (xb (xey (xbb (xu (ok_ao T) (hr.mono (by decide)) rfl T.g_ao T.F_ao.kp T.b_ao .nil xn (xb (pv 0) (xb (pv 2) (xg)))) T.c_ae T.m_z (ok_z T) (hr.mono (by decide)) T.b_z .nil xn) (xbb (xu (ok_ao T) (hr.mono (by decide)) rfl T.g_ao T.F_ao.kp T.b_ao .nil xn (xb (pv 0) (xb (pv 2) (xg)))) T.c_q T.m_r (ok_r T) (hr.mono (by decide)) T.b_r .nil xn)) (xb (pv 1) (xg)))) (xb (xaf) (xg))))) (xg))))
   (xk (xa4 ZO rfl (xa0 (pv 1)) (xap rfl (xr (xq (i:=4) sc_ay.nd rfl (Zn rfl)) (xr (xq (i:=5) sc_ay.nd rfl (Zn rfl)) (xr (xq (i:=6) sc_ay.nd rfl (Zn rfl)) (xag))))) (xm (xdi (xbo hr) (pv 3) (xaj (xb (xey (xbb (xu (ok_ao T) (hr.mono (by decide)) rfl T.g_ao T.F_ao.kp T.b_ao .nil xn (xb (pv 5) (xb (pv 2) (xg)))) T.c_ae T.m_z (ok_z T) (hr.mono (by decide)) T.b_z .nil xn) (xbb (xu (ok_ao T) (hr.mono (by decide)) rfl T.g_ao T.F_ao.kp T.b_ao .nil xn (xb (pv 5) (xb (pv 2) (xg)))) T.c_q T.m_r (ok_r T) (hr.mono (by decide)) T.b_r .nil xn)) (xb (pv 6) (xg)))) (pv 4) rfl)))
   (xm (x0 (pv 3))))),?_⟩
  obtain⟨pic,sts,l32,pm,pw',hl,prl,l12,q⟩:=h;obtain⟨⟨dx,hpi⟩,_⟩:=id pic;have pll:=prl.len;have lens:=pm.length_eq;refine⟨_,rfl,a,_,_,_,_,rfl,hpi,T.c_c,T.n_a9,lkW,?_⟩;refine⟨_,rfl,a,dx,_,rfl,hpi,xa2 (by decide +kernel),a,dp,do_,pw,ph,ps,ss,rfl,pic,sts,fun l1 ss' rs hl1 sl pm' pw2=>?_⟩;obtain rfl:ss'=srt:=xgg xiu (pm'.trans pm.symm) pw2 pw';have s1:Same H (upd H l1 (.lst (rs.map V.ref))):=xp (Same.refl _) hl1;have g1:upd H l1 (.lst (rs.map V.ref)) l1=some (.lst (rs.map V.ref)):=xf;revert s1 g1;generalize upd H l1 (.lst (rs.map V.ref))=H1;intro s1 g1;have sl1:=sl.keep (Same.tups s1);have rll:=sl.len;refine⟨l1,rfl,⟨_,SqL.of g1⟩,fun l2 hl2=>?_⟩;refine xem (SqL.of g1) (by rw[Za]; exact Z9 (by omega:_<=1000) (by decide)) hl2 (fun i y H5=>∃ p kp s,y=.ref p/\ss'[i]?=some s/\H5 p=some (.tup [.ref kp,.str (Zc ".")])/\H5 kp=some (.tup [.int (Drw.rim pw s.1),.int s.2])) ?_ ?_ ?_
  .rintro i y H5 H6 tp ⟨p,kp,s,e1,e2,e3,e4⟩;exact⟨p,kp,s,e1,e2,tp _ _ e3,tp _ _ e4⟩
  .intro i x H5 hx s5 N hN
   rw[Zh,Zl] at hx;obtain⟨qa,hqa,rfl⟩:=hx;obtain⟨⟨b,r⟩,hs,hsq⟩:=sl1.get hqa;refine⟨qa,_,rfl,SqT.of (s5 _ _ hsq),rfl,_,_,rfl,_,_,rfl,rfl,?_⟩;refine xq4 (i:=0) (j:=2) (b:=b) (w:=pw) rfl rfl fun H6 s6=>?_;refine⟨_,rfl,(by show 2<=sizeLine; decide),fun kp hkp=>⟨(by show 2<=sizeLine; decide),fun p hp=>?_⟩⟩;exact hN _ _ (s6.trans (xp (xp (Same.refl _) hkp) hp)) ⟨p,kp,(b,r),rfl,hs,xf,by rw[xh (xi xf hp)]; exact xf⟩
  .intro ys H5 s5 e5 ly fy
   obtain⟨L,rfl,e2,e3⟩:=xi8 (ss:=ss') (by rw[ly,Za,rll]) fy;have lL:L.length=ss'.length:=by rw[<- e2,Za]
   refine⟨l2,L.map fun x=>(x.1,V.ref x.2.1,V.str (Zc ".")),rfl,(by rw[Z7]; exact e5),?_,fun d hd=>?_⟩
   .intro p hp
    obtain⟨x,hx,rfl⟩:=Ze.mp hp;exact (e3 x hx).1
   have fd:H d=none:=s1.free (s5.free hd);obtain⟨H6,dps,sd6,k6⟩:=SD.puts (d:=d) (L.map fun x=>(x.2.1,rimC pw x.2.2,Zc ".")) (SD.new (H:=upd H5 d (.dT [])) xf) (by rw[Za]; omega) (fun x hx=>by
    obtain⟨z,hz,rfl⟩:=Ze.mp hx;rw[xh (xi (e3 z hz).2 hd)];exact (e3 z hz).2)
   refine⟨.dT [],H6,.inr rfl,?_,?_⟩
   .rw [Z7] at dps ⊢;exact dps
   have k56:Same H H6:=fun c u e=>k6 _ _ (xi e fd) (by rw[xh (xi e fd)]; exact s5 _ _ (s1 _ _ e));have ed:(L.map fun x=>(x.2.1,rimC pw x.2.2,Zc ".")).map (fun x=>(x.2.1,x.2.2))=xb3 pw ss':=by
    unfold xb3;rw[<- e2,Z7,Z7];rfl
   rw[ed] at sd6;have sd6:=sd6.le (k:=32) (by rw[Za]; omega);refine⟨_,rfl,l,rfl,⟨_,SqL.of (k56 _ _ hl)⟩,?_⟩;refine xbd (xs:=qs.map V.ref) (Pv:=fun i σ H7=>∃(v4 v5 v6:Option V),σ=[some (.ref a),some (.ref l),some (.int pw),some (.ref d),v4,v5,v6]/\Same H H7/\SD H7 d (32+i) (Drw.sets (Drw.sets Drw.no (xb3 pw ss')) ((xbp pw prs).take i))) ⟨_,_,_,rfl,k56,sd6⟩ ?_ ?_ ?_
   .rintro i σ H7 _ ⟨_,_,_,rfl,s7,_⟩;exact SqL.of (s7 _ _ hl)
   .rintro i x σ H7 hx ⟨v4,v5,v6,rfl,s7,sd7⟩;rw[Zh,Zl] at hx;obtain⟨qa,hqa,rfl⟩:=hx;obtain⟨⟨pt,b,r⟩,hp,hpq⟩:=prl.get hqa;have i12:i<12:=by have:=(Zj.mp hp).1; omega
    refine⟨qa,_,rfl,SqT.of (s7 _ _ hpq),rfl,_,_,rfl,_,_,rfl,_,_,rfl,rfl,?_⟩;refine⟨_,rfl,_,rfl,xq4 (i:=5) (j:=2) (b:=b) (w:=pw) rfl rfl fun H8 s8=>?_⟩;refine⟨_,rfl,(by show 2<=sizeLine; decide),fun kp hkp=>?_⟩;have s9:Same H8 (upd H8 kp (.tup [.int (Drw.rim pw b),.int r])):=xp (Same.refl _) hkp;have g9:upd H8 kp (.tup [.int (Drw.rim pw b),.int r]) kp=some (.tup [.int (Drw.rim pw b),.int r]):=xf;revert s9 g9;generalize upd H8 kp (.tup [.int (Drw.rim pw b),.int r])=H9;intro s9 g9;obtain⟨H10,dput,sd10,k10,_⟩:=(sd7.keep (H':=H9) (fun u e=>s9 _ _ (s8 _ _ e))).put (c:=rimC pw (b,r)) (by omega) g9 pt.nm;refine⟨d,H10,rfl,dput,_,_,_,rfl,fun c u e=>k10 _ _ (xi e fd) (s9 _ _ (s8 _ _ (s7 _ _ e))),?_⟩;rw[xix (c:=rimC pw (b,r)) (x:=pt.nm)]
    .exact sd10
    .unfold xbp;rw[Zh,hp];rfl
   .rintro σ H7 ⟨v4,v5,v6,rfl,s7,sd7⟩;refine⟨_,rfl,q H7 d s7 fd ?_⟩;rw[Za,Jk (l:=xbp pw prs) (by unfold xbp; rw[Za]; omega)] at sd7;exact sd7.le (by omega)
theorem ok_a3 (T:Txt w K mg t):FnOk true P w K mg base (CXo P w) 1 t.f_a3 t.d_a3 ["signs", "width", "row"] (xvg):=by
 refine T.F_a3.okn (k:=0) sc_a3 (fun vs H Q E h=>?_) (fun cdv A outer s H vs Q E hr h=>?_)
 .obtain ⟨d,n,w',r,m,rfl,_⟩:=h;rfl
 .obtain ⟨d,n,w',r,m,rfl,h⟩:=h;refine⟨_,xm (x0 (xco QC PySem.F.slot_str_join PySem.F.type_str_join xl1 (xaf) (xb (xcv rfl (xbh (zs:=["column"]) (ys:=["signs", "row"]) (fr:=[0,2]) (N0:=["signs", "width", "row"]) (sc0:=xo s_a3) (by decide +kernel) rfl rfl rfl) (xnf rfl T.n_range (xb (xt xan (pv 1) (xj)) (xg))) (fun _ _ _ _ _ ow nd=>xq (i:=0) nd rfl (Zn (ow _ (by simp))) (J8 (ow _ (by simp)))) (xbz (by decide)) (fun _ _ _ _ _=>xbu) (fun _ _ _ _ _=>xpk (xbo hr) (pv 1) (xaj (xb (pv 0) (xb (pv 2) (xg)))) (xaf) ⟨rfl,rfl,rfl,rfl⟩)) (xg)))),?_⟩;obtain⟨sd,sh,w30,q⟩:=h;refine⟨rfl,_,rfl,_,_,rfl,rfl,((w'+2:Nat):Int),by rw[Int.natCast_add]; rfl,by omega,by omega,fun l1 hl1=>?_⟩;refine xj2 (Z9 (by omega:_<=1000) (by decide)) hl1 (fun (j:Nat)=>V.str ((m ((j:Int),r)).getD (Zc " "))) ?_ ?_
  .intro i H2 hi s2 N hN
   simp only[Int.zero_add];obtain⟨kvs,ed,_⟩:=id sd;refine⟨_,rfl,d,rfl,.inr ⟨kvs,.inl (s2 _ _ ed)⟩,_,rfl,_,rfl,(by show 2<=sizeLine; decide),fun p hp=>?_⟩;have s3:Same H2 (upd H2 p (.tup [.int (i:Int),.int r])):=xp (Same.refl _) hp;have g3:upd H2 p (.tup [.int (i:Int),.int r]) p=some (.tup [.int (i:Int),.int r]):=xf;revert s3 g3;generalize upd H2 p (.tup [.int (i:Int),.int r])=H3;intro s3 g3;refine⟨_,(sd.keep (H':=H3) fun u e=>s3 _ _ (s2 _ _ e)).get (c:=((i:Int),r)) g3,?_⟩;have e:((m ((i:Int),r)).map V.str).getD (V.str (Zc " "))=V.str ((m ((i:Int),r)).getD (Zc " ")):=by cases m ((i:Int),r)<;>rfl
   rw[e];exact hN H3 s3
  .intro H2 s2 e2
   rw[Yn] at e2;refine⟨Zc "",l1,(Z3 (w'+2)).map fun (j:Nat)=>(m ((j:Int),r)).getD (Zc " "),5,rfl,rfl,(by rw[e2,Z7]; rfl),fun s hs=>?_,?_,q H2 s2⟩
   .obtain ⟨j,_,rfl⟩:=Ze.mp hs;cases e:m ((j:Int),r) with
    | none=>exact (by decide +kernel:(Zc " ").length<=5)
    | some x=>exact sh _ _ e
   .rw [Za,Zt,show (Zc "").length=0 from by decide +kernel];exact Zs (by omega:_<=1000) (by decide)
end
theorem xhy {κ:Type} [DecidableEq κ]:∀(more kvs:List (κ × V)) (k:κ),(more.map (·.1)).Nodup->valV (more.foldl (fun acc x=>putK acc x.1 x.2) kvs) k=(valV more k).or (valV kvs k)
 | [],kvs,k,_=>rfl
 | x::r,kvs,k,nd=>by
  rw[Z2,Jh] at nd;show valV (r.foldl (fun acc x=>putK acc x.1 x.2) (putK kvs x.1 x.2)) k=_;rw[xhy r _ k nd.2,xjz];by_cases e:x.1=k
  .subst e;rw[xa1 rfl,if_pos rfl];have:valV r x.1=none:=by
    cases z:valV r x.1 with
    | none=>rfl
    | some y =>
     obtain⟨i,hi⟩:=xh5 z;exact absurd (Ze.mpr ⟨_,Zo hi,rfl⟩) nd.1
   rw[this];rfl
  .rw [xay e,if_neg (fun z=>e z.symm)]
theorem xhq {κ:Type} [DecidableEq κ] {P:κ->Prop}:∀(more kvs:List (κ × V)),(∀ kv∈more,P kv.1)->((kvs.map (·.1)).Nodup/\(∀ kv∈kvs,P kv.1))->((more.foldl (fun acc x=>putK acc x.1 x.2) kvs).map (·.1)).Nodup/\(∀ kv∈more.foldl (fun acc x=>putK acc x.1 x.2) kvs,P kv.1)/\(more.foldl (fun acc x=>putK acc x.1 x.2) kvs).length<=kvs.length+more.length
 | [],kvs,_,h=>⟨h.1,h.2,Zi _⟩
 | x::r,kvs,hm,h=>by
  have z:=xhq r (putK kvs x.1 x.2) (fun kv hkv=>hm kv (Zy _ hkv)) ⟨xl9 h.1,xjv (hm x (Zz ..)) h.2⟩;refine⟨z.1,z.2.1,?_⟩;have:=z.2.2;have:=xb7 kvs x.1 x.2;rw[ZL];show (r.foldl (fun acc x=>putK acc x.1 x.2) (putK kvs x.1 x.2)).length<=_;omega
def xf0 (w:Int) (c:Cl):Prop:=(c.1=0\/c.1=w+1)/\1<=c.2/\c.2<=16
theorem xni {α β:Type}{f:α->β}:∀{l:List α},(l.map f).Nodup->∀ a∈l,∀ b∈l,f a=f b->a=b
 | [],_,_,ha,_,_,_=>nomatch ha
 | x::l,nd,a,ha,b,hb,e=>by
  rw[Z2,Jh] at nd;rcases Z1.mp ha with ea|ha'<;>rcases Z1.mp hb with eb|hb'
  .rw [ea,eb]
  .subst ea;exact absurd (Ze.mpr ⟨b,hb',e.symm⟩) nd.1
  .subst eb;exact absurd (Ze.mpr ⟨a,ha',e⟩) nd.1
  .exact xni nd.2 a ha' b hb' e
def xe7 (w:Nat):List Cl:=((Z3 16).map fun (r:Nat)=>((0:Int),(r:Int)+1))++((Z3 16).map fun (r:Nat)=>((w:Int)+1,(r:Int)+1))
theorem xkg {w:Nat}{c:Cl} (h:xf0 w c):c∈xe7 w:=by
 obtain⟨u,v⟩:=c;obtain⟨h1,h2,h3⟩:=h;have h2:1<=v:=h2;have h3:v<=16:=h3;unfold xe7;rw[Z5,Ze,Ze];have e:((v-1).toNat:Int)+1=v:=by omega
 rcases h1 with h1|h1
 .have h1:u=0:=h1;exact .inl ⟨(v-1).toNat,ZN.mpr (by omega),by rw[e,h1]⟩
 .have h1:u=(w:Int)+1:=h1;exact .inr ⟨(v-1).toNat,ZN.mpr (by omega),by rw[e,h1]⟩
theorem xpo {w:Nat} (w1:1<=w) (w2:w<=30) {a b:Cl} (ha:xf0 w a) (hb:xf0 w b) (e:th a.1 a.2=th b.1 b.2):a=b:=by
 have z:=xrt w (by omega) w1;have y:((xe7 w).map fun c:Cl=>th c.1 c.2).Nodup:=by
  unfold xe7;rw[Z8,Z7,Z7];exact z
 exact xni y a (xkg ha) b (xkg hb) e
theorem SD.hash {X:Cx}{H:Hp}{d:Addr}{n w:Nat}{m:Cl->Option Str}{kvs:List (List Key × V)} (s:SD H d n m) (e:H d=some (.dT kvs)) (w1:1<=w) (w2:w<=30) (hm:∀ c,m c≠none->xf0 w c):(kvs.map fun x=>xf4 X x.1).Nodup:=by
 obtain⟨kvs',e',l,nd,ks,vs⟩:=s;rw[e] at e';cases e';have on:∀ kv∈kvs,∃ c,kv.1=ck c/\xf0 w c:=fun kv hkv=>by
  obtain⟨c,ec⟩:=ks kv hkv;refine⟨c,ec,hm c fun z=>?_⟩;have y:=vs c;rw[z] at y;exact xgt y (Ze.mpr ⟨kv,hkv,ec⟩)
 rw[JU,ZH];rw[JU,ZH] at nd;refine Yj.imp_of_mem ?_ nd;intro a b ha hb ne eh;obtain⟨c,ec,oc⟩:=on a ha;obtain⟨c',ec',oc'⟩:=on b hb;rw[ec,ec'] at eh ne;unfold ck at eh;rw[xju,xju] at eh;exact ne (by rw[xpo w1 w2 oc oc' eh])
theorem SD.merge {H:Hp}{a b:Addr}{n k:Nat}{m m2:Cl->Option Str}{kvs more:List (List Key × V)} (s:SD H a n m) (s2:SD H b k m2) (ea:H a=some (.dT kvs)) (eb:H b=some (.dT more)):SD (upd H a (.dT (xcg kvs more))) a (n+k) (fun z=>(m2 z).or (m z)):=by
 obtain⟨kvs',ea',l,nd,ks,vs⟩:=s;rw[ea] at ea';cases ea';obtain⟨more',eb',l2,nd2,ks2,vs2⟩:=s2;rw[eb] at eb';cases eb';have z:=xhq (P:=fun k=>∃ c,k=ck c) more kvs ks2 ⟨nd,ks⟩;refine⟨xcg kvs more,xf,?_,z.1,z.2.1,fun c=>?_⟩
 .have:=z.2.2;unfold xcg;omega
 .unfold xcg;rw[xhy _ _ _ nd2,vs2,vs];show _=Option.map V.str ((m2 c).or (m c));cases m2 c<;>rfl
theorem xb0 {P:Str->Prop}:∀{L:List (Cl × Str)}{m:Cl->Option Str},(∀ c s,m c=some s->P s)->(∀ x∈L,P x.2)->∀ c s,Drw.sets m L c=some s->P s
 | [],_,hm,_,c,s,e=>hm c s e
 | x::L,m,hm,hL,c,s,e=>by
  refine xb0 (L:=L) (m:=Drw.set1 m x.1 x.2) (fun c s e=>?_) (fun y hy=>hL y (Zy _ hy)) c s e;unfold Drw.set1 at e;split at e
  .cases e;exact hL x (Zz ..)
  .exact hm c s e
theorem xds {P:Str->Prop}{hs:Str} (hh:P hs):∀{L:List (Cl × Str)}{m:Cl->Option Str},(∀ c s,m c=some s->P s)->(∀ x∈L,P x.2)->∀ c s,Drw.marks hs m L c=some s->P s
 | [],_,hm,_,c,s,e=>hm c s e
 | x::L,m,hm,hL,c,s,e=>by
  refine xds hh (L:=L) (m:=Drw.mark1 hs m x.1 x.2) (fun c s e=>?_) (fun y hy=>hL y (Zy _ hy)) c s e;unfold Drw.mark1 Drw.set1 at e;split at e
  .cases e;split
   .exact hh
   .exact hL x (Zz ..)
  .exact hm c s e
theorem xhn {L:List (Cl × Str)}{m:Cl->Option Str}{c:Cl} (h:Drw.sets m L c≠none):m c≠none\/∃ x∈L,x.1=c:=by
 by_cases z:c∈L.map (·.1)
 .obtain ⟨x,hx,e⟩:=Ze.mp z;exact .inr ⟨x,hx,e⟩
 .rw [Drw.sets_no z] at h;exact .inl h
theorem xkk {s:Str} (h:isNm s=true):s.length<=5:=by
 unfold isNm at h;rw[Zr] at h;have:=of_decide_eq_true h.1;omega
theorem xqp (x r:Int) (c:Cl):(lsS x r c).length<=5:=by
 unfold lsS Drw.ls;split
 .decide +kernel
 .split<;>decide +kernel
def xdz (w:Int) (ps:List Pt) (ss:List Seat) (prs:List Pr):Cl->Option Str:=Drw.drawP hsS (prs.flatMap (ledS w)) (xb3 w ss) (xbp w prs) (ptsS ps)
theorem xmt {w:Int}{ps:List Pt}{ss:List Seat}{prs:List Pr} (h1:∀ p∈ps,isNm p.nm=true) (h2:∀ p∈prs,isNm p.1.nm=true):xq2 (xdz w ps ss prs):=by
 have no:∀(c:Cl) (s:Str),(Drw.no:Cl->Option Str) c=some s->s.length<=5:=fun _ _ e=>nomatch e;have n1:=xb0 (P:=fun s=>s.length<=5) (L:=xb3 w ss) no (fun x hx=>by
  obtain⟨z,_,rfl⟩:=Ze.mp hx;show (Zc ".").length<=5;decide +kernel)
 have n2:=xb0 (P:=fun s=>s.length<=5) (L:=xbp w prs) n1 (fun x hx=>by
  obtain⟨z,hz,rfl⟩:=Ze.mp hx;exact xkk (h2 z hz))
 have n3:=xds (P:=fun s=>s.length<=5) (hs:=hsS) (by unfold hsS; decide +kernel) (L:=prs.flatMap (ledS w)) no (fun x hx=>by
  obtain⟨p,_,hx⟩:=Yv.mp hx;obtain⟨c,_,rfl⟩:=Ze.mp hx;exact xqp _ _ _)
 intro c s e;refine xb0 (P:=fun s=>s.length<=5) (L:=ptsS ps) (fun c s e=>?_) (fun x hx=>by
  obtain⟨z,hz,rfl⟩:=Ze.mp hx;exact xkk (h1 z hz)) c s e
 cases e1:Drw.sets (Drw.sets Drw.no (xb3 w ss)) (xbp w prs) c with
 | some y =>
  rw[e1] at e;cases e;exact n2 c _ e1
 | none =>
  rw[e1,Option.none_or] at e;exact n3 c s e
structure Dr (t:Adr) (H:Hp) (a dp do_:Addr) (w h:Nat) (ps:List Pt) (ss srt:List Seat):Prop where
 pic:Pic t H a dp do_ (w:Int) (h:Int) ps
 sts:Sts H do_ ss
 ok:SsOk (h:Int) ss
 pm:srt.Perm ss
 lt:srt.Pairwise xby
 nm:∀ p∈ps,isNm p.nm=true
def xr9 (t:Adr):Sp:=fun vs H Q _=>∃(a l dp do_:Addr) (w h:Nat) (ps:List Pt) (ss srt:List Seat) (prs:List Pr) (qs:List Addr),vs=[.ref a,.ref l]/\Dr t H a dp do_ w h ps ss srt/\H l=some (.lst (qs.map V.ref))/\PrsL H prs qs/\(∀ p∈prs,PrOk ps (w:Int) (h:Int) p)/\prs.length<=12 /\
 ∀ H' l',Same H H'->H l'=none->H' l'=some (.lst (xfv w h (xdz w ps srt prs)))->Q (.ref l') H'
section
variable {P:Program}{w:World}{K:Zd}{mg:Str->Option Value}{base:Heap}{t:Adr}
theorem xfe (T:Txt w K mg t):FnOk true P w K mg base (CXo P w) 8 t.f_drawn t.d_drawn ["picture", "pairs"] (xr9 t):=by
 refine T.F_drawn.okn (k:=7) xcf (fun vs H Q E h=>?_) (fun cdv A outer s H vs Q E hr h=>?_)
 .obtain ⟨a,l,dp,do_,w',h',ps,ss,srt,prs,qs,rfl,_⟩:=h;rfl
 .obtain ⟨a,l,dp,do_,w',h',ps,ss,srt,prs,qs,rfl,h⟩:=h;refine⟨_,xk (xw (i:=2) xcf.nd rfl (J8 rfl) (xu (ok_ad T) (hr.mono (by decide)) rfl T.g_ad T.F_ad.kp T.b_ad .nil xn (xb (pv 0) (xb (pv 1) (xg)))))
   (xk (xax (xco Q4 PySem.F.slot_dict_update PySem.F.type_dict_update (xov (xbo hr)) (pv 2) (xb (xu (ok_ay T) (hr.mono (by decide)) rfl T.g_ay T.F_ay.kp T.b_ay .nil xn (xb (pv 0) (xb (pv 1) (xg)))) (xg))))
   (xk (xa4 ZO rfl (xa0 (xbb (pv 0) T.c_c T.m_l (ok_l T) (hr.mono (by decide)) T.b_l .nil xn)) (xap rfl (xr (xq (i:=3) xcf.nd rfl (Zn rfl)) (xr (xq (i:=4) xcf.nd rfl (Zn rfl)) (xr (xq (i:=5) xcf.nd rfl (Zn rfl)) (xr (xq (i:=6) xcf.nd rfl (Zn rfl)) (xr (xq (i:=7) xcf.nd rfl (Zn rfl)) (xr (xq (i:=8) xcf.nd rfl (Zn rfl)) (xag)))))))) (xm (xdi (xbo hr) (pv 2) (xaj (xb (pv 4) (xb (pv 5) (xg)))) (pv 3) rfl)))
   (xm (x0 (xcv rfl (xbh (zs:=["row"]) (ys:=["signs", "picture"]) (fr:=[2,0]) (N0:=["picture", "pairs", "signs", "name", "x", "y", "sides", "low", "high"]) (sc0:=xo xfy) (by decide +kernel) rfl rfl rfl) (xed rfl T.n_range (xb (xj) (xb (xt xan (xaa (pv 0) rfl) (xj)) (xg)))) (fun _ _ _ _ _ ow nd=>xq (i:=0) nd rfl (Zn (ow _ (by simp))) (J8 (ow _ (by simp)))) (xbz (by decide)) (fun _ _ _ _ _=>xbu) (fun _ _ _ _ _=>xu (ok_a3 T) (hr.mono (by decide)) rfl T.g_a3 T.F_a3.kp T.b_a3 .nil xn (xb (pv 1) (xb ((xaa (pv 2) rfl:PE _ _ (tFld K _ _))) (xb (pv 0) (xg)))))))))),?_⟩
  obtain⟨dr,hl,prl,oks,l12,q⟩:=h;have pic:=dr.pic;have w1:=pic.w1;have w2:=pic.w2;have h2:=pic.h2;have pl12:=pic.len;obtain⟨⟨dx,hpi⟩,_⟩:=id pic;refine⟨_,rfl,_,rfl,a,l,dp,do_,w',h',ps,prs,qs,rfl,pic,hl,prl,oks,l12,fun H1 d1 s1 f1 sd1=>?_⟩;obtain⟨kvs,e1,_⟩:=id sd1;refine⟨_,rfl,.inr (.inr (.inl ⟨rfl,.inr ⟨kvs,e1⟩⟩)),_,rfl,_,rfl,a,l,dp,do_,w',h',ps,ss,srt,prs,qs,rfl,Pic.same s1 pic,dr.sts.same s1,dr.ok.2.1,dr.pm,dr.lt,s1 _ _ hl,prl.keep (Same.tups s1),l12,fun H2 d2 s2 f2 sd2=>?_⟩;obtain⟨more,e2,_⟩:=id sd2;have e12:=s2 _ _ e1;have ne:d1≠d2:=xi e1 f2;have onr:∀ c,xmg w' srt prs c≠none->xf0 w' c:=fun c hc=>by
   rcases xhn hc with hc|⟨x,hx,rfl⟩
   .rcases xhn hc with hc|⟨x,hx,rfl⟩
    .exact absurd rfl hc
    .obtain ⟨z,hz,rfl⟩:=Ze.mp hx;have o:=dr.ok.2.2 z (dr.pm.mem_iff.mp hz);refine⟨?_,o.1,?_⟩
     .show Drw.rim w' z.1=0\/Drw.rim w' z.1=_;unfold Drw.rim;split
      .exact .inl rfl
      .exact .inr rfl
     .show z.2<=16;omega
   .obtain ⟨z,hz,rfl⟩:=Ze.mp hx;have o:=oks z hz;have o1:=o.r1;have o2:=o.r2;refine⟨?_,o1,?_⟩
    .show Drw.rim w' z.2.1=0\/Drw.rim w' z.2.1=_;unfold Drw.rim;split
     .exact .inl rfl
     .exact .inr rfl
    .show z.2.2<=16;omega
  have ln1:kvs.length<=600:=by
   obtain⟨k',e',l',_⟩:=id sd1;rw[e1] at e';cases e';exact l'
  have ln2:more.length<=50:=by
   obtain⟨k',e',l',_⟩:=id sd2;rw[e2] at e';cases e';exact l'
  refine⟨d1,d2,kvs,more,rfl,rfl,ne,e12,e2,fun _=>sd2.hash e2 (by omega) (by omega) onr,by omega,?_⟩;have sd3:=(sd1.keep (H':=H2) (fun u e=>s2 _ _ e)).merge sd2 e12 e2;have s3:Same H (upd H2 d1 (.dT (xcg kvs more))):=fun c u e=>by
   rw[xh (xi e f1)];exact s2 _ _ (s1 _ _ e)
  revert sd3 s3;generalize upd H2 d1 (.dT (xcg kvs more))=H3;intro sd3 s3;refine⟨_,rfl,a,dx,_,rfl,s3 _ _ hpi,xa2 (by decide +kernel),a,dp,do_,w',h',ps,rfl,Pic.same s3 pic,fun H4 l4 ds s4 hl4 pts4=>?_⟩;have dl:=pts4.len;have sd4:=sd3.keep (H':=H4) (fun u e=>s4 _ _ e);have nl4:l4≠d1:=by
   obtain⟨kv,e,_⟩:=sd4;exact xai hl4 e (fun z=>nomatch z)
  refine⟨l4,rfl,⟨_,SqL.of hl4⟩,?_⟩;refine xbd (xs:=ds.map V.ref) (Pv:=fun i σ H5=>∃(v3 v4 v5 v6 v7 v8:Option V),σ=[some (.ref a),some (.ref l),some (.ref d1),v3,v4,v5,v6,v7,v8]/\(∀ c u,c≠d1->H4 c=some u->H5 c=some u)/\SD H5 d1 (650+i) (Drw.sets (fun z=>(xmg w' srt prs z).or (Drw.marks hsS Drw.no (prs.flatMap (ledS w')) z)) ((ptsS ps).take i))) ⟨_,_,_,_,_,_,rfl,fun c u _ e=>e,sd4⟩ ?_ ?_ ?_
  .rintro i σ H5 _ ⟨_,_,_,_,_,_,rfl,k5,_⟩;exact SqL.of (k5 _ _ nl4 hl4)
  .rintro i x σ H5 hx ⟨v3,v4,v5,v6,v7,v8,rfl,k5,sd5⟩;rw[Zh,Zl] at hx;obtain⟨qa,hqa,rfl⟩:=hx;obtain⟨p,hp,hpq⟩:=pts4.get hqa;have i12:i<12:=by have:=(Zj.mp hp).1; omega
   have nqa:qa≠d1:=by
    obtain⟨kv,e,_⟩:=sd4;exact xai hpq e (fun z=>nomatch z)
   refine⟨qa,_,rfl,SqT.of (k5 _ _ nqa hpq),rfl,_,_,rfl,_,_,rfl,_,_,rfl,_,_,rfl,_,_,rfl,_,_,rfl,rfl,?_⟩;refine⟨_,rfl,_,rfl,_,rfl,_,rfl,(by show 2<=sizeLine; decide),fun kp hkp=>?_⟩;have s6:Same H5 (upd H5 kp (.tup [.int p.x,.int p.y])):=xp (Same.refl _) hkp;have g6:upd H5 kp (.tup [.int p.x,.int p.y]) kp=some (.tup [.int p.x,.int p.y]):=xf;revert s6 g6;generalize upd H5 kp (.tup [.int p.x,.int p.y])=H6;intro s6 g6;obtain⟨H7,dput,sd7,k7,_⟩:=(sd5.keep (H':=H6) (fun u e=>s6 _ _ e)).put (c:=(p.x,p.y)) (by omega) g6 p.nm;refine⟨d1,H7,rfl,dput,_,_,_,_,_,_,rfl,fun c u nc e=>k7 _ _ nc (s6 _ _ (k5 _ _ nc e)),?_⟩;rw[xix (c:=(p.x,p.y)) (x:=p.nm)]
   .exact sd7
   .unfold ptsS;rw[Zh,hp];rfl
  .rintro σ H5 ⟨v3,v4,v5,v6,v7,v8,rfl,k5,sd5⟩;rw[Za,Jk (l:=ptsS ps) (by unfold ptsS; rw[Za]; omega)] at sd5;have s5:Same H H5:=fun c u e=>k5 _ _ (xi e f1) (s4 _ _ (s3 _ _ e));have sd5:SD H5 d1 (650+ds.length) (xdz w' ps srt prs):=sd5;have hp5:=s5 _ _ hpi;refine⟨_,rfl,a,_,_,_,_,rfl,hp5,T.c_c,T.n_a8,lkH,_,_,rfl,rfl,1,(h':Int)+1,rfl,⟨by decide,by decide,by omega,by omega⟩,fun l6 hl6=>?_⟩;refine xj2 (Z9 (by omega:_<=1000) (by decide)) hl6 (fun (i:Nat)=>V.str (rowT w' (1+(i:Int)) (xdz w' ps srt prs))) ?_ ?_
   .intro i H6 hi s6 N hN
    have hp6:=s6 _ _ hp5;exact⟨_,rfl,_,rfl,a,_,_,_,_,rfl,hp6,T.c_c,T.n_a9,lkW,_,rfl,d1,_,w',1+(i:Int),_,rfl,sd5.keep (H':=H6) (fun u e=>s6 _ _ e),xmt dr.nm (fun p hp=>(oks p hp).nm),by omega,hN⟩
   .intro H6 s6 e6
    refine q H6 l6 (s5.trans s6) (s5.free hl6) ?_;rw[e6,show ((h':Int)+1-1).toNat=h' by omega];rfl
end
theorem xnm {x d:Int} (h:0<d) (h2:d<=4294967296):-(2 ^ 64)<x % d/\x % d<2 ^ 64:=by
 have a:=Int.emod_nonneg x (show d≠0 by omega);have b:=Int.emod_lt_of_pos x h;exact⟨by omega,by omega⟩
theorem xc3 (x:Int) {d:Int} (h:0<d):0<=x % d/\x % d<d:=⟨Int.emod_nonneg _ (by omega),Int.emod_lt_of_pos _ h⟩
def xtz (K:Zd):Sp:=fun vs H Q _=>∃(a:Addr) (ns:List Int) (k:Int),vs=[.ref a,.int k]/\SqL K H a (ns.map V.int)/\0<=k/\k<2 ^ 62/\∀ c:Int,Q (.int c) H
def xvn:Sp:=fun vs H Q _=>∃ c k:Int,vs=[.int c,.int k]/\∀ m:Int,0<=m->m<2147483587->Q (.int m) H
def xrp (K:Zd):Sp:=fun vs H Q _=>∃(a:Addr) (ns:List Int),vs=[.ref a]/\SqL K H a (ns.map V.int)/\∀(w h:Nat) H' p,1<=w->w<=30->1<=h->h<=16->Same H H'->H' p=some (.tup [.int (w:Int),.int (h:Int)])->Q (.ref p) H'
def xqk (K:Zd):Sp:=fun vs H Q _=>∃(a:Addr) (ns:List Int) (h:Nat),vs=[.ref a,.int (h:Int)]/\SqL K H a (ns.map V.int)/\h<=16/\∀(ss:List Seat) (qs:List Addr) H' l,ss.length<=32->ss.Pairwise xby->(∀ s∈ss,1<=s.2/\s.2<=(h:Int))->Same H H'->H l=none->H' l=some (.lst (qs.map V.ref))->xac H' ss qs->Q (.ref l) H'
theorem xe4 (a m d:Int) (h:0<d) (ha:0<=a):∃ x:Nat,a+m % d=(x:Int)/\a<=x/\(x:Int)<a+d:=by
 have z:=xc3 m h;exact⟨(a+m % d).toNat,by omega,by omega,by omega⟩
section
variable {P:Program}{w:World}{K:Zd}{mg:Str->Option Value}{base:Heap}{t:Adr}
theorem ok_x (T:Txt w K mg t):FnOk true P w K mg base (CXo P w) 1 t.f_x t.d_x ["_law_script", "_law_k"] (xtz K):=by
 refine T.F_x.okn (k:=0) sc_x (fun vs H Q E h=>?_) (fun cdv A outer s H vs Q E hr h=>?_)
 .obtain ⟨a,ns,k,rfl,_⟩:=h;rfl
 .obtain ⟨a,ns,k,rfl,h⟩:=h;refine⟨_,xk (xae (x5 xf6 (pv 1) (x8 xbf rfl T.n_len Jy (xb (pv 0) (xg))) (x6 _)) (xm (x0 (xab xak (pv 0) (pv 1) (fun _ _=>rfl)))) (x4))
   (xm (x0 (xj))),?_⟩
  obtain⟨hs,k0,k1,q⟩:=h;refine⟨_,rfl,_,rfl,a,_,rfl,.inl hs,_,_,rfl,rfl,_,rfl,?_⟩;refine ite2 (fun c=>?_) (fun c=>?_)
  .have c':k<(ns.length:Int):=by simpa using c
   obtain⟨j,rfl⟩:=Int.eq_ofNat_of_zero_le k0;have lt:j<ns.length:=by omega
   exact⟨_,rfl,_,rfl,a,_,_,_,rfl,rfl,hs,xbt (by rw[Zh,Zf lt]; rfl),q _⟩
  .exact q _
theorem ok_am (T:Txt w K mg t):FnOk true P w K mg base (CXo P w) 1 t.f_am t.d_am ["_law_cell", "_law_k"] (xvn):=by
 refine T.F_am.okn (k:=0) sc_am (fun vs H Q E h=>?_) (fun cdv A outer s H vs Q E hr h=>?_)
 .obtain ⟨c,k,rfl,_⟩:=h;rfl
 .obtain ⟨c,k,rfl,h⟩:=h;refine⟨_,xk (xw (i:=2) sc_am.nd rfl (Zn rfl) (xt xad (xt xd4 (xt xan (xt xan (xt xad (pv 0) (xj)) (xt xd4 (xj) (pv 1))) (xj)) (xj)) (xj)))
   (xk (xw (i:=2) sc_am.nd rfl (Zn rfl) (xt xad (xt xd4 (pv 2) (pv 2)) (xj)))
   (xm (x0 (xt xad (xt xd4 (pv 2) (xt xan (pv 2) (xj))) (xj))))),?_⟩
  refine⟨_,rfl,_,_,rfl,rfl,(by show (0:Int)<2147483629; decide),_,rfl,_,_,rfl,rfl,.inl ⟨by decide,by decide⟩,_,_,rfl,rfl,_,_,rfl,rfl,_,_,rfl,rfl,.inr ⟨by decide,by decide⟩,_,_,rfl,rfl,(by show (0:Int)<2147483647; decide),?_⟩;refine⟨_,rfl,_,rfl,_,_,rfl,rfl,.inl (xnm (by decide) (by decide)),_,_,rfl,rfl,(by show (0:Int)<2147483629; decide),?_⟩;refine⟨_,rfl,_,rfl,_,_,rfl,rfl,_,_,rfl,rfl,.inl (xnm (by decide) (by decide)),_,_,rfl,rfl,(by show (0:Int)<2147483587; decide),?_⟩;exact h _ (xc3 _ (by decide)).1 (xc3 _ (by decide)).2
theorem ok_az (T:Txt w K mg t):FnOk true P w K mg base (CXo P w) 2 t.f_az t.d_az ["_law_script"] (xrp K):=by
 refine T.F_az.okn (k:=1) sc_az (fun vs H Q E h=>?_) (fun cdv A outer s H vs Q E hr h=>?_)
 .obtain ⟨sc,ns,rfl,_⟩:=h;rfl
 .obtain ⟨sc,ns,rfl,h⟩:=h;refine⟨_,xk (xw (i:=1) sc_az.nd rfl (Zn rfl) (xu (ok_x T) (hr.mono (by decide)) rfl T.g_x T.F_x.kp T.b_x .nil xn (xb (pv 0) (xb (xj) (xg)))))
   (xk (xbe (xae (x5 xa7 (xt xad (pv 1) (xj)) (xj) (x6 _)) (xm (x0 (xaj (xb (xt xan (xj) (xt xad (xt xd1 (pv 1) (xj)) (xj))) (xb (xt xan (xj) (xt xad (xt xd1 (pv 1) (xj)) (xj))) (xg)))))) (x4)))
   (xk (xw (i:=2) sc_az.nd rfl (Zn rfl) (xt xan (xj) (xt xad (xu (ok_am T) (hr.mono (by decide)) rfl T.g_am T.F_am.kp T.b_am .nil xn (xb (pv 1) (xb (xj) (xg)))) (xj))))
   (xk (xw (i:=3) sc_az.nd rfl (Zn rfl) (xt xan (xj) (xt xad (xu (ok_am T) (hr.mono (by decide)) rfl T.g_am T.F_am.kp T.b_am .nil xn (xb (pv 1) (xb (xj) (xg)))) (xj))))
   (xk (xbe (xae (x5 xa7 (xt xad (xu (ok_am T) (hr.mono (by decide)) rfl T.g_am T.F_am.kp T.b_am .nil xn (xb (pv 1) (xb (xj) (xg)))) (xj)) (xj) (x6 _)) (xk (xw (i:=2) sc_az.nd rfl (Zn rfl) (xt xan (xj) (xt xad (xu (ok_am T) (hr.mono (by decide)) rfl T.g_am T.F_am.kp T.b_am .nil xn (xb (pv 1) (xb (xj) (xg)))) (xj))))
   (xm (xw (i:=3) sc_az.nd rfl (Zn rfl) (xt xan (xj) (xt xad (xu (ok_am T) (hr.mono (by decide)) rfl T.g_am T.F_am.kp T.b_am .nil xn (xb (pv 1) (xb (xj) (xg)))) (xj)))))) (x4)))
   (xm (x0 (xaj (xb (pv 2) (xb (pv 3) (xg)))))))))),?_⟩
  obtain⟨hs,q⟩:=h;refine⟨_,rfl,sc,ns,0,rfl,hs,by decide,by decide,fun c=>?_⟩;refine⟨fun σ H1=>H=H1/\σ=[some (.ref sc),some (.int c),none,none],?_,?_⟩
  .refine ⟨_,rfl,_,_,rfl,rfl,(by show (0:Int)<2; decide),rfl,_,rfl,ite2 (fun y=>?_) (fun y=>⟨rfl,rfl⟩)⟩;refine⟨_,rfl,_,_,rfl,rfl,⟨by decide,by decide⟩,_,_,rfl,rfl,(by show (0:Int)<30; decide),_,_,rfl,rfl,?_⟩;obtain⟨w1,ew,w11,w12⟩:=xe4 1 (c / 2) 30 (by decide) (by decide);simp only[ew];refine⟨_,rfl,_,_,rfl,rfl,⟨by decide,by decide⟩,_,_,rfl,rfl,(by show (0:Int)<16; decide),_,_,rfl,rfl,?_⟩;obtain⟨h1,eh,h11,h12⟩:=xe4 1 (c / 60) 16 (by decide) (by decide);simp only[eh];exact⟨(by show 2<=sizeLine; decide),fun p hp=>q w1 h1 _ p (by omega) (by omega) (by omega) (by omega) (xp (Same.refl _) hp) xf⟩
  rintro σ _ ⟨rfl,rfl⟩;refine⟨_,rfl,c,1,rfl,fun m1 _ _=>⟨_,_,rfl,rfl,(by show (0:Int)<30; decide),_,_,rfl,rfl,?_⟩⟩;obtain⟨w1,ew,w11,w12⟩:=xe4 1 m1 30 (by decide) (by decide);simp only[ew];refine⟨_,rfl,c,2,rfl,fun m2 _ _=>⟨_,_,rfl,rfl,(by show (0:Int)<16; decide),_,_,rfl,rfl,?_⟩⟩;obtain⟨h1,eh,h11,h12⟩:=xe4 1 m2 16 (by decide) (by decide);simp only[eh];refine⟨fun σ H1=>H=H1/\∃ w h:Nat,1<=w/\w<=30/\1<=h/\h<=16/\σ=[some (.ref sc),some (.int c),some (.int (w:Int)),some (.int (h:Int))],?_,?_⟩
  .refine ⟨_,rfl,c,3,rfl,fun m3 _ _=>⟨_,_,rfl,rfl,(by show (0:Int)<2; decide),rfl,_,rfl,ite2 (fun y=>?_) (fun y=>⟨rfl,w1,h1,by omega,by omega,by omega,by omega,rfl⟩)⟩⟩;refine⟨_,rfl,c,1,rfl,fun m4 _ _=>⟨_,_,rfl,rfl,(by show (0:Int)<19; decide),_,_,rfl,rfl,?_⟩⟩;obtain⟨w2,ew2,w21,w22⟩:=xe4 12 m4 19 (by decide) (by decide);simp only[ew2];refine⟨_,rfl,c,2,rfl,fun m5 _ _=>⟨_,_,rfl,rfl,(by show (0:Int)<5; decide),_,_,rfl,rfl,?_⟩⟩;obtain⟨h2,eh2,h21,h22⟩:=xe4 12 m5 5 (by decide) (by decide);simp only[eh2];exact⟨rfl,w2,h2,by omega,by omega,by omega,by omega,rfl⟩
  rintro σ _ ⟨rfl,w,h,a1,a2,a3,a4,rfl⟩;exact⟨_,rfl,_,rfl,(by show 2<=sizeLine; decide),fun p hp=>q w h _ p a1 a2 a3 a4 (xp (Same.refl _) hp) xf⟩
theorem ok_au (T:Txt w K mg t):FnOk true P w K mg base (CXo P w) 2 t.f_au t.d_au ["_law_script", "_law_height"] (xqk K):=by
 refine T.F_au.okn (k:=1) sc_au (fun vs H Q E h=>?_) (fun cdv A outer s H vs Q E hr h=>?_)
 .obtain ⟨sc,ns,ph,rfl,_⟩:=h;rfl
 .obtain ⟨sc,ns,ph,rfl,h⟩:=h;refine⟨_,xk (xw (i:=2) sc_au.nd rfl (Zn rfl) (xu (ok_x T) (hr.mono (by decide)) rfl T.g_x T.F_x.kp T.b_x .nil xn (xb (pv 0) (xb (xj) (xg)))))
   (xk (xw (i:=3) sc_au.nd rfl (Zn rfl) (xb8 xa7 (xt xad (xu (ok_x T) (hr.mono (by decide)) rfl T.g_x T.F_x.kp T.b_x .nil xn (xb (pv 0) (xb (xj) (xg)))) (xj)) (xj) (x6 _)))
   (xk (xw (i:=4) sc_au.nd rfl (Zn rfl) (xt xad (xu (ok_am T) (hr.mono (by decide)) rfl T.g_am T.F_am.kp T.b_am .nil xn (xb (pv 2) (xb (xj) (xg)))) (xj)))
   (xk (xw (i:=5) sc_au.nd rfl (Zn rfl) (xbj (xg)))
   (xk (xa4 ZO rfl (xcd rfl T.n_enumerate (xb (xbj (xb (xaf) (xb (xaf) (xg)))) (xg))) (xap rfl (xr (xq (i:=6) sc_au.nd rfl (Zn rfl)) (xr (xq (i:=7) sc_au.nd rfl (Zn rfl)) (xag)))) (xm (xa4 ZO rfl (xed rfl T.n_range (xb (xj) (xb (xt xan (pv 1) (xj)) (xg)))) (xq (i:=8) sc_au.nd rfl (Zn rfl)) (xk (xbe (xae (PW.pt (xcr (PW.pt (xdq (xas (pv 3)) (xdd (x5 xa7 (xt xad (pv 2) (xj)) (xj) (x6 _))))) (xck (PW.pt (xdq (xbg (xas (pv 3))) (xdd (x5 xf6 (xt xad (xu (ok_am T) (hr.mono (by decide)) rfl T.g_am T.F_am.kp T.b_am .nil xn (xb (pv 2) (xb (xt xan (xt xd4 (xj) (pv 8)) (pv 6)) (xg)))) (xj)) (pv 4) (x6 _)))))))) (xm (xax (xco Jd JX JW xc0 (pv 5) (xb (xaj (xb (pv 7) (xb (pv 8) (xg)))) (xg))))) (x4)))
   (xm (xbe (xae (xas (pv 3)) (xm (xw (i:=2) sc_au.nd rfl (Zn rfl) (xt xd1 (pv 2) (xj)))) (x4))))))))
   (xm (x0 (pv 5))))))),?_⟩
  obtain⟨hs,h16,q⟩:=h;refine⟨_,rfl,sc,ns,1,rfl,hs,by decide,by decide,fun c=>?_⟩;refine⟨_,rfl,sc,ns,0,rfl,hs,by decide,by decide,fun c0=>⟨_,_,rfl,rfl,(by show (0:Int)<2; decide),rfl,?_⟩⟩;generalize (decide (V.int (c0 % 2)=V.int 1))=dg;refine⟨_,rfl,c,1,rfl,fun m1 _ _=>⟨_,_,rfl,rfl,(by show (0:Int)<7; decide),?_⟩⟩;refine⟨(by show 0<=sizeLine; decide),fun l hl=>?_⟩;have s1:Same H (upd H l (.lst [])):=xp (Same.refl _) hl;have g1:upd H l (.lst []) l=some (.lst []):=xf;revert s1 g1;generalize upd H l (.lst [])=H1;intro s1 g1;refine⟨(by show 2<=sizeLine; decide),fun le hle=>?_⟩;have s2:Same H1 (upd H1 le (.lst [.str (Zc "left"),.str (Zc "right")])):=xp (Same.refl _) hle;have g2:upd H1 le (.lst [.str (Zc "left"),.str (Zc "right")]) le=some (.lst [.str (Zc "left"),.str (Zc "right")]):=xf;revert s2 g2;generalize upd H1 le (.lst [.str (Zc "left"),.str (Zc "right")])=H2;intro s2 g2;refine⟨le,_,rfl,SqL.of g2,?_⟩;have nle:le≠l:=ZF (xi g1 hle);have fle:=s1.free hle;refine xd7 (xs:=[.str (Zc "left"),.str (Zc "right")]) (Pv:=fun k σ H5=>∃(c:Int) (ss:List Seat) (qs:List Addr) (v5 v6 v7:Option V),σ=[some (.ref sc),some (.int (ph:Int)),some (.int c),some (.bl dg),some (.int (m1 % 7)),some (.ref l),v5,v6,v7]/\Same H H5/\H5 le=some (.lst [.str (Zc "left"),.str (Zc "right")])/\H5 l=some (.lst (qs.map V.ref))/\xac H5 ss qs/\ss.Pairwise xby/\(∀ s∈ss,1<=s.2/\s.2<=(ph:Int))/\qs.length<=16*k/\(k=0->ss=[])/\(k=1->∀ s∈ss,s.1=true)) ?_ ?_ ?_ ?_
  .exact ⟨c,[],[],_,_,_,rfl,s1.trans s2,g2,s2 _ _ g1,.nil,.nil,fun _ z=>(nomatch z),Zi _,fun _=>rfl,fun z=>(nomatch z)⟩
  .rintro i σ H5 _ ⟨_,_,_,_,_,_,rfl,_,e,_⟩;exact SqL.of e
  .rintro k x p σ H5 hx hp ⟨c,ss,qs,v5,v6,v7,rfl,s5,e5,hl5,sl5,lt5,b5,n5,z0,z1⟩;have k2:k<2:=(Zj.mp hx).1;obtain⟨b,rfl,hb⟩:∃ b,x=.str (x9 b)/\((b=true/\k=0)\/(b=false/\k=1)):=by
    match k,k2,hx with
    | 0,_,hx=>cases hx; exact⟨true,rfl,.inl ⟨rfl,rfl⟩⟩
    | 1,_,hx=>cases hx; exact⟨false,rfl,.inr ⟨rfl,rfl⟩⟩
   have s6:Same H5 (upd H5 p (.tup [.int (k:Int),.str (x9 b)])):=xp (Same.refl _) hp;have g6:upd H5 p (.tup [.int (k:Int),.str (x9 b)]) p=some (.tup [.int (k:Int),.str (x9 b)]):=xf;revert s6 g6;generalize upd H5 p (.tup [.int (k:Int),.str (x9 b)])=H6;intro s6 g6;refine⟨p,_,rfl,SqT.of g6,rfl,_,_,rfl,_,_,rfl,rfl,?_⟩;refine⟨_,rfl,_,_,rfl,rfl,1,(ph:Int)+1,rfl,⟨by decide,by decide,by omega,by omega⟩,?_⟩;refine xog (Pv:=fun j σ H7=>∃(c:Int) (ss:List Seat) (qs:List Addr) (v7:Option V),σ=[some (.ref sc),some (.int (ph:Int)),some (.int c),some (.bl dg),some (.int (m1 % 7)),some (.ref l),some (.int (k:Int)),some (.str (x9 b)),v7]/\Same H H7/\H7 le=some (.lst [.str (Zc "left"),.str (Zc "right")])/\H7 l=some (.lst (qs.map V.ref))/\xac H7 ss qs/\ss.Pairwise xby/\(∀ s∈ss,1<=s.2/\s.2<=(ph:Int))/\qs.length<=16*k+j/\∀ s∈ss,(s.1=true/\(k=0->s.2<=(j:Int)))\/(k=1/\s.1=false/\s.2<=(j:Int))) ?_ ?_ ?_
   .refine ⟨c,ss,qs,_,rfl,s5.trans s6,s6 _ _ e5,s6 _ _ hl5,sl5.keep (Same.tups s6),lt5,b5,by omega,fun s hs=>.inl ?_⟩;rcases hb with⟨_,rfl⟩|⟨_,rfl⟩
    .rw [z0 rfl] at hs;exact nomatch hs
    .exact ⟨z1 rfl s hs,fun z=>(nomatch z)⟩
   .rintro j σ H7 hj ⟨c,ss,qs,v7,rfl,s7,e7,hl7,sl7,lt7,b7,n7,z7⟩;have jh:j<ph:=by omega
    have up:∀ s∈ss,(s.1=true/\(k=0->s.2<=((j+1:Nat):Int)))\/(k=1/\s.1=false/\s.2<=((j+1:Nat):Int)):=fun s hs=>by
     rcases z7 s hs with⟨a,b⟩|⟨a,b,c⟩
     .exact .inl ⟨a,fun z=>by have:=b z; omega⟩
     .exact .inr ⟨a,b,by omega⟩
    refine⟨fun σ H9=>∃(ss:List Seat) (qs:List Addr),σ=[some (.ref sc),some (.int (ph:Int)),some (.int c),some (.bl dg),some (.int (m1 % 7)),some (.ref l),some (.int (k:Int)),some (.str (x9 b)),some (.int (1+(j:Int)))]/\Same H H9/\H9 le=some (.lst [.str (Zc "left"),.str (Zc "right")])/\H9 l=some (.lst (qs.map V.ref))/\xac H9 ss qs/\ss.Pairwise xby/\(∀ s∈ss,1<=s.2/\s.2<=(ph:Int))/\qs.length<=16*k+(j+1)/\∀ s∈ss,(s.1=true/\(k=0->s.2<=((j+1:Nat):Int)))\/(k=1/\s.1=false/\s.2<=((j+1:Nat):Int)),?_,?_⟩
    .have no:∃(ss':List Seat) (qs':List Addr),[some (V.ref sc),some (.int (ph:Int)),some (.int c),some (.bl dg),some (.int (m1 % 7)),some (.ref l),some (.int (k:Int)),some (.str (x9 b)),some (.int (1+(j:Int)))]=[some (.ref sc),some (.int (ph:Int)),some (.int c),some (.bl dg),some (.int (m1 % 7)),some (.ref l),some (.int (k:Int)),some (.str (x9 b)),some (.int (1+(j:Int)))]/\Same H H7/\H7 le=some (.lst [.str (Zc "left"),.str (Zc "right")])/\H7 l=some (.lst (qs'.map V.ref))/\xac H7 ss' qs'/\ss'.Pairwise xby/\(∀ s∈ss',1<=s.2/\s.2<=(ph:Int))/\qs'.length<=16*k+(j+1)/\∀ s∈ss',(s.1=true/\(k=0->s.2<=((j+1:Nat):Int)))\/(k=1/\s.1=false/\s.2<=((j+1:Nat):Int)):=⟨ss,qs,rfl,s7,e7,hl7,sl7,lt7,b7,by omega,up⟩
     refine⟨_,rfl,dg,rfl,?_⟩;cases dg with
     | true =>
      refine ifP rfl ⟨_,rfl,_,_,rfl,rfl,(by show (0:Int)<2; decide),rfl,_,rfl,ite2 (fun y=>?_) (fun y=>⟨_,rfl,true,rfl,ifN (by decide) (ifN (by decide) no)⟩)⟩;refine ifP rfl ?_;refine⟨_,rfl,.inl ⟨rfl,_,SqL.of hl7⟩,_,rfl,_,rfl,(by show 2<=sizeLine; decide),fun qa hqa=>?_⟩;have s8:Same H7 (upd H7 qa (.tup [.str (x9 b),.int (1+(j:Int))])):=xp (Same.refl _) hqa;have g8:upd H7 qa (.tup [.str (x9 b),.int (1+(j:Int))]) qa=some (.tup [.str (x9 b),.int (1+(j:Int))]):=xf;revert s8 g8;generalize upd H7 qa (.tup [.str (x9 b),.int (1+(j:Int))])=H8;intro s8 g8;have hl8:=s8 _ _ hl7;refine⟨l,_,_,rfl,rfl,hl8,?_,?_⟩
      .rw [Za];exact Z9 (by omega:_<=1000) (by decide)
      have kt:Tups H8 (upd H8 l (.lst (qs.map V.ref++[.ref qa]))):=fun c xs e=>by rw[xh (xai e hl8 (fun z=>nomatch z))]; exact e
      refine⟨ss++[(b,1+(j:Int))],qs++[qa],rfl,fun c u e=>by rw[xh (xi e hl)]; exact s8 _ _ (s7 _ _ e),by rw[xh nle]; exact s8 _ _ e7,by rw[xf,Z8]; rfl,((sl7.keep (Same.tups s8)).keep kt).snoc (kt _ _ g8),?_,fun s hs=>?_,by rw[Zp,ZZ]; omega,fun s hs=>?_⟩
      .rw [JE];refine⟨lt7,YB _ _,fun s hs s' hs'=>?_⟩;rw[Zv.mp hs'];rcases hb with⟨rfl,rfl⟩|⟨rfl,rfl⟩
       .rcases z7 s hs with⟨a,b⟩|⟨a,_⟩
        .exact .inr ⟨a,by have:=b rfl; show s.2<1+(j:Int); omega⟩
        .cases a
       .rcases z7 s hs with⟨a,b⟩|⟨_,a,b⟩
        .exact .inl ⟨a,rfl⟩
        .exact .inr ⟨a,by show s.2<1+(j:Int); omega⟩
      .rcases Z5.mp hs with hs|hs
       .exact b7 s hs
       .rw [Zv.mp hs];exact⟨by show (1:Int)<=1+(j:Int); omega,by show 1+(j:Int)<=_; omega⟩
      .rcases Z5.mp hs with hs|hs
       .exact up s hs
       .rw [Zv.mp hs];rcases hb with⟨rfl,rfl⟩|⟨rfl,rfl⟩
        .exact .inl ⟨rfl,fun _=>by show 1+(j:Int)<=_; omega⟩
        .exact .inr ⟨rfl,rfl,by show 1+(j:Int)<=_; omega⟩
     | false =>
      refine ifN (by decide) (ifN (by decide) ⟨_,rfl,false,rfl,ifP (by decide) ⟨_,rfl,_,rfl,_,_,rfl,rfl,.inl ⟨by decide,by decide⟩,_,rfl,_,_,rfl,rfl,c,_,rfl,fun m _ _=>⟨_,_,rfl,rfl,(by show (0:Int)<6; decide),_,rfl,_,_,rfl,rfl,_,rfl,ite2 (fun y=>?_) (fun y=>no)⟩⟩⟩);refine⟨_,rfl,.inl ⟨rfl,_,SqL.of hl7⟩,_,rfl,_,rfl,(by show 2<=sizeLine; decide),fun qa hqa=>?_⟩;have s8:Same H7 (upd H7 qa (.tup [.str (x9 b),.int (1+(j:Int))])):=xp (Same.refl _) hqa;have g8:upd H7 qa (.tup [.str (x9 b),.int (1+(j:Int))]) qa=some (.tup [.str (x9 b),.int (1+(j:Int))]):=xf;revert s8 g8;generalize upd H7 qa (.tup [.str (x9 b),.int (1+(j:Int))])=H8;intro s8 g8;have hl8:=s8 _ _ hl7;refine⟨l,_,_,rfl,rfl,hl8,?_,?_⟩
      .rw [Za];exact Z9 (by omega:_<=1000) (by decide)
      have kt:Tups H8 (upd H8 l (.lst (qs.map V.ref++[.ref qa]))):=fun c xs e=>by rw[xh (xai e hl8 (fun z=>nomatch z))]; exact e
      refine⟨ss++[(b,1+(j:Int))],qs++[qa],rfl,fun c u e=>by rw[xh (xi e hl)]; exact s8 _ _ (s7 _ _ e),by rw[xh nle]; exact s8 _ _ e7,by rw[xf,Z8]; rfl,((sl7.keep (Same.tups s8)).keep kt).snoc (kt _ _ g8),?_,fun s hs=>?_,by rw[Zp,ZZ]; omega,fun s hs=>?_⟩
      .rw [JE];refine⟨lt7,YB _ _,fun s hs s' hs'=>?_⟩;rw[Zv.mp hs'];rcases hb with⟨rfl,rfl⟩|⟨rfl,rfl⟩
       .rcases z7 s hs with⟨a,b⟩|⟨a,_⟩
        .exact .inr ⟨a,by have:=b rfl; show s.2<1+(j:Int); omega⟩
        .cases a
       .rcases z7 s hs with⟨a,b⟩|⟨_,a,b⟩
        .exact .inl ⟨a,rfl⟩
        .exact .inr ⟨a,by show s.2<1+(j:Int); omega⟩
      .rcases Z5.mp hs with hs|hs
       .exact b7 s hs
       .rw [Zv.mp hs];exact⟨by show (1:Int)<=1+(j:Int); omega,by show 1+(j:Int)<=_; omega⟩
      .rcases Z5.mp hs with hs|hs
       .exact up s hs
       .rw [Zv.mp hs];rcases hb with⟨rfl,rfl⟩|⟨rfl,rfl⟩
        .exact .inl ⟨rfl,fun _=>by show 1+(j:Int)<=_; omega⟩
        .exact .inr ⟨rfl,rfl,by show 1+(j:Int)<=_; omega⟩
    rintro σ H9 ⟨ss9,qs9,rfl,s9',e9,hl9,sl9,lt9,b9,n9,z9⟩;refine⟨fun σ H10=>H9=H10/\∃ c:Int,σ=[some (.ref sc),some (.int (ph:Int)),some (.int c),some (.bl dg),some (.int (m1 % 7)),some (.ref l),some (.int (k:Int)),some (.str (x9 b)),some (.int (1+(j:Int)))],?_,?_⟩
    .refine ⟨_,rfl,dg,rfl,ite2 (fun y=>?_) (fun y=>⟨rfl,c,rfl⟩)⟩;exact⟨_,rfl,_,_,rfl,rfl,⟨by decide,by decide⟩,rfl,_,rfl⟩
    rintro σ _ ⟨rfl,c',rfl⟩;exact⟨c',ss9,qs9,_,rfl,s9',e9,hl9,sl9,lt9,b9,by omega,z9⟩
   .rintro σ H7 ⟨c,ss,qs,v7,rfl,s7,e7,hl7,sl7,lt7,b7,n7,z7⟩;refine⟨c,ss,qs,_,_,_,rfl,s7,e7,hl7,sl7,lt7,b7,by omega,fun z=>by omega,fun z s hs=>?_⟩;rcases z7 s hs with⟨a,_⟩|⟨a,_⟩
    .exact a
    .omega
  .rintro σ H5 ⟨_,ss,qs,v5,v6,v7,rfl,s5,e5,hl5,sl5,lt5,b5,n5,_⟩;exact⟨_,rfl,q ss qs H5 l (by have e:=sl5.len; have n6:qs.length<=16*2:=n5; omega) lt5 b5 s5 hl hl5 sl5⟩
end
def xno (K:Zd):Sp:=fun vs H Q _=>∃(c:Int) (dg:Bool) (lb:Addr) (bs:List Int),vs=[.int c,.bl dg,.ref lb]/\H lb=some (.lst (bs.map V.int))/\(∀ b∈bs,0<b/\b<1000)/\bs.length<=20/\∀ H' l (ns:List Int),Same H H'->H l=none->H' l=some (.lst (ns.map V.int))->ns.length=bs.length->Q (.ref l) H'
def xrh:Sp:=fun vs H Q _=>∃(ln:Addr) (ns:List Int) (nm:Str) (x y:Int) (h:Nat),vs=[.ref ln,.str nm,.int x,.int y,.int (h:Int)]/\H ln=some (.lst (ns.map V.int))/\7<=ns.length/\1<=h/\∀ H' q (sd:Str) (lo hi:Int),(sd="left"\/sd="right"\/sd="both")->1<=lo->lo<=hi->hi<=(h:Int)->Same H H'->H' q=some (.tup (.str nm::ptV ⟨nm,x,y,sd,lo,hi⟩))->Q (.ref q) H'
theorem xs7 (c:Int):∃ sd:Str,atI [V.str (Zc "both"),V.str (Zc "left"),V.str (Zc "right")] (c % 3)=some (.str sd)/\(sd="left"\/sd="right"\/sd="both"):=by
 have b:=xc3 c (show (0:Int)<3 by decide);have:c % 3=0\/c % 3=1\/c % 3=2:=by omega
 rcases this with e|e|e
 .exact ⟨"both",by rw[e]; rfl,.inr (.inr rfl)⟩
 .exact ⟨"left",by rw[e]; rfl,.inl rfl⟩
 .exact ⟨"right",by rw[e]; rfl,.inr (.inl rfl)⟩
theorem xeh {α:Type}{ls:List α}{k:Nat}{y:α} (nd:ls.Nodup) (h:ls[k]?=some y):(ls.eraseIdx k).Nodup/\y∉ls.eraseIdx k/\(∀ z∈ls.eraseIdx k,z∈ls)/\y∈ls:=by
 obtain⟨hk,hy⟩:=Zj.mp h;have e:ls.take k++y::ls.drop (k+1)=ls:=by
  rw[<- hy,List.getElem_cons_drop,QR]
 have e2:ls.eraseIdx k=ls.take k++ls.drop (k+1):=YL ls k;have nd2:=nd;rw[<- e,ZU,Jh] at nd2;obtain⟨n1,⟨n2,n3⟩,n4⟩:=nd2;refine⟨?_,?_,fun z hz=>List.mem_of_mem_eraseIdx hz,hy▸YT hk⟩
 .rw [e2,ZU];exact⟨n1,n3,fun a ha b hb=>n4 a ha b (Zy _ hb)⟩
 .rw [e2,Z5];rintro (z|z)
  .exact n4 _ z _ Zz rfl
  .exact n2 z
theorem xg7 {α:Type} (m:Int) {xs:List α} (h:xs≠[]) (h2:xs.length<=1000):∃ j y,xs[j]?=some y/\-(2 ^ 63)<=m % (xs.length:Int)/\m % (xs.length:Int)<2 ^ 63/\seqIndex? (m % (xs.length:Int)) xs.length=some j/\0<(xs.length:Int):=by
 have l0:0<xs.length:=List.length_pos_iff.mpr h;have lp:(0:Int)<(xs.length:Int):=by omega
 obtain⟨k0,k1⟩:=xc3 m lp;obtain⟨j,hj⟩:=Int.eq_ofNat_of_zero_le k0;have jl:j<xs.length:=by
  have z:=k1;rw[hj] at z;omega
 exact⟨j,xs[j],Zf jl,by omega,by omega,by rw[seqIndex_of k0 k1,hj]; rfl,lp⟩
def abcS:Str:="abcdefghijklmnopqrstuvwxyz"
theorem xtb:∀ c∈abcS.cps.toList,isNm ⟨#[c]⟩=true:=by decide +kernel
theorem xtm:abcS.cps.toList.Nodup:=by decide +kernel
theorem xtj:(sgnL abcS).Nodup:=by
 unfold sgnL;exact Drw.nd_map (fun a b e=>by
  have:=congrArg (fun s:Str=>s.cps.toList) (V.str.inj e);exact List.head_eq_of_cons_eq this) xtm
theorem xn2 (n:Nat):(rngL 1 ((n:Int)+1)).Nodup:=by
 unfold rngL;exact Drw.nd_map (fun a b e=>by
  have:=V.int.inj e;omega) Yu
theorem xl8 {n:Nat}{v:V} (h:v∈rngL 1 ((n:Int)+1)):∃ x:Int,v=.int x/\1<=x/\x<=n:=by
 unfold rngL at h;obtain⟨i,hi,rfl⟩:=Ze.mp h;rw[ZN] at hi;exact⟨1+(i:Int),rfl,by omega,by omega⟩
structure PI (w h:Nat) (cols rows lts:List V) (ps:List Pt) (i:Nat):Prop where
 cn:cols.Nodup
 ci:∀ v∈cols,∃ x:Int,v=.int x/\1<=x/\x<=w
 rn:rows.Nodup
 ri:∀ v∈rows,∃ x:Int,v=.int x/\1<=x/\x<=h
 ln:lts.Nodup
 li:∀ v∈lts,v∈sgnL abcS
 ll:lts.length+ps.length=26
 cl:cols.length<=100
 rl:rows.length<=100
 pl:ps.length<=i
 ok:∀ p∈ps,PtOk w h p
 nx:(ps.map (·.x)).Nodup
 ny:(ps.map (·.y)).Nodup
 nn:(ps.map (·.nm)).Nodup
 ox:∀ p∈ps,V.int p.x∉cols
 oy:∀ p∈ps,V.int p.y∉rows
 on:∀ p∈ps,V.str p.nm∉lts
theorem xga {α β:Type}{f:α->β}{l:List α}{x:α} (h:(l.map f).Nodup) (hx:∀ y∈l,f y≠f x):((l++[x]).map f).Nodup:=by
 rw[Z8,ZU];refine⟨h,by simp,fun a ha b hb e=>?_⟩;obtain⟨y,hy,rfl⟩:=Ze.mp ha;have hb:b∈[f x]:=hb;rw[Zv.mp hb] at e;exact hx y hy e
theorem PI.up {w h:Nat}{cols rows lts:List V}{ps:List Pt}{i:Nat} (g:PI w h cols rows lts ps i):PI w h cols rows lts ps (i+1):={ g with pl:=Nat.le_succ_of_le g.pl }
theorem PtsL.snoc1 {H:Hp}{ps:List Pt}{qs:List Addr} (h:PtsL H ps qs) {p:Pt}{q:Addr} (e:H q=some (.tup (.str p.nm::ptV p))):PtsL H (ps++[p]) (qs++[q]):=by
 induction h with
 | nil=>exact .cons e .nil
 | cons h _ ih=>exact .cons h ih
theorem PI.add {w h:Nat}{cols rows lts:List V}{ps:List Pt}{i jx jy jn:Nat}{p:Pt} (g:PI w h cols rows lts ps i) (hx:cols[jx]?=some (.int p.x)) (hy:rows[jy]?=some (.int p.y)) (hn:lts[jn]?=some (.str p.nm)) (ok:PtOk w h p):PI w h (cols.eraseIdx jx) (rows.eraseIdx jy) (lts.eraseIdx jn) (ps++[p]) (i+1):=by
 obtain⟨c1,c2,c3,c4⟩:=xeh g.cn hx;obtain⟨r1,r2,r3,r4⟩:=xeh g.rn hy;obtain⟨l1,l2,l3,l4⟩:=xeh g.ln hn;have lj:=(Zj.mp hn).1;refine⟨c1,fun v hv=>g.ci v (c3 v hv),r1,fun v hv=>g.ri v (r3 v hv),l1,fun v hv=>g.li v (l3 v hv),?_,?_,?_,?_,fun q hq=>?_,xga g.nx fun y hy e=>?_,xga g.ny fun y hy e=>?_,xga g.nn fun y hy e=>?_,fun q hq=>?_,fun q hq=>?_,fun q hq=>?_⟩
 .rw [List.length_eraseIdx_of_lt lj,Zp,ZZ];have:=g.ll;omega
 .exact Zs (Q5 _ _) g.cl
 .exact Zs (Q5 _ _) g.rl
 .rw [Zp,ZZ];have:=g.pl;omega
 .rcases Z5.mp hq with hq|hq
  .exact g.ok q hq
  .rw [Zv.mp hq]; exact ok
 .exact g.ox y hy (e▸c4)
 .exact g.oy y hy (e▸r4)
 .exact g.on y hy (e▸l4)
 .rcases Z5.mp hq with hq|hq
  .exact fun z=>g.ox q hq (c3 _ z)
  .rw [Zv.mp hq]; exact c2
 .rcases Z5.mp hq with hq|hq
  .exact fun z=>g.oy q hq (r3 _ z)
  .rw [Zv.mp hq]; exact r2
 .rcases Z5.mp hq with hq|hq
  .exact fun z=>g.on q hq (l3 _ z)
  .rw [Zv.mp hq]; exact l2
def xp5 (K:Zd):Sp:=fun vs H Q _=>∃(lc:Addr) (ns:List Int) (dg:Bool) (w h:Nat),vs=[.ref lc,.bl dg,.int (w:Int),.int (h:Int)]/\H lc=some (.lst (ns.map V.int))/\ns.length<=12/\1<=w/\w<=30/\1<=h/\h<=16 /\
 ∀ H' l ps qs,xcs (w:Int) (h:Int) ps->ps.length<=ns.length->Same H H'->H l=none->H' l=some (.lst (qs.map V.ref))->PtsL H' ps qs->Q (.ref l) H'
theorem xoo {K:Zd}{H:Hp}{l l2:Addr}{xs:List V} (h:H l=some (.lst xs)) (h2:H l2=some (.lst [])) (f:xs.all scV=true):∃(n m:Nat) (d e:DV),Dv K H n (.ref l) d/\Dv K H m (.ref l2) e/\n<=9/\m<=9/\(!dEq d e)=!decide (xs=[]):=by
 refine⟨1,1,.lst (xs.map scD),.lst [],.lst (SqL.of h) (by rw[Za]) (xe6 f),.lst (SqL.of h2) rfl (xe6 (xs:=[]) rfl),by decide,by decide,?_⟩;cases xs with
 | nil=>rfl
 | cons x r=>rfl
def IPt (H:Hp) (lcell lc lr ll lp:Addr) (dg:Bool) (w h:Nat) (i:Nat) (σ:L2.St) (H5:Hp):Prop:=∃(cols rows lts:List V) (ps:List Pt) (qs:List Addr) (v7 v8 v9 v10 v11:Option V),σ=[some (.ref lcell),some (.bl dg),some (.int (w:Int)),some (.int (h:Int)),some (.ref lc),some (.ref lr),some (.ref ll),some (.ref lp),v7,v8,v9,v10,v11] /\
 Same H H5/\H5 lc=some (.lst cols)/\H5 lr=some (.lst rows)/\H5 ll=some (.lst lts)/\H5 lp=some (.lst (qs.map V.ref))/\PtsL H5 ps qs/\PI w h cols rows lts ps i
theorem xdh {ns:List Int}{i:Nat} (h:i<ns.length):∃ n,atI (ns.map V.int) (i:Int)=some (.int n):=⟨ns[i],xbt (by rw[Zh,Zf h]; rfl)⟩
section
variable {P:Program}{w:World}{K:Zd}{mg:Str->Option Value}{base:Heap}{t:Adr}
theorem ok_y (T:Txt w K mg t):FnOk true P w K mg base (CXo P w) 2 t.f_y t.d_y ["_law_cell", "_law_digits", "_law_bases"] (xno K):=by
 refine T.F_y.okn (k:=1) sc_y (fun vs H Q E h=>?_) (fun cdv A outer s H vs Q E hr h=>?_)
 .obtain ⟨c,dg,lb,bs,rfl,_⟩:=h;rfl
 .obtain ⟨c,dg,lb,bs,rfl,h⟩:=h;refine⟨_,xk (xw (i:=3) sc_y.nd rfl (Zn rfl) (xbj (xg)))
   (xk (xa4 ZO rfl (xcd rfl T.n_enumerate (xb (pv 2) (xg))) (xap rfl (xr (xq (i:=4) sc_y.nd rfl (Zn rfl)) (xr (xq (i:=5) sc_y.nd rfl (Zn rfl)) (xag)))) (xm (xae (xas (pv 1)) (xk (xax (xco Jd JX JW xc0 (pv 3) (xb (xt xad (pv 0) (pv 5)) (xg))))
   (xm (xw (i:=0) sc_y.nd rfl (Zn rfl) (xt xd1 (pv 0) (pv 5))))) (xm (xax (xco Jd JX JW xc0 (pv 3) (xb (xu (ok_am T) (hr.mono (by decide)) rfl T.g_am T.F_am.kp T.b_am .nil xn (xb (pv 0) (xb (xt xan (xj) (pv 4)) (xg)))) (xg))))))))
   (xm (x0 (pv 3)))),?_⟩
  obtain⟨hlb,bp,b20,q⟩:=h;refine⟨(by show 0<=sizeLine; decide),fun l hl=>?_⟩;have s1:Same H (upd H l (.lst [])):=xp (Same.refl _) hl;have g1:upd H l (.lst []) l=some (.lst []):=xf;revert s1 g1;generalize upd H l (.lst [])=H1;intro s1 g1;refine⟨_,rfl,lb,_,rfl,SqL.of (s1 _ _ hlb),?_⟩;refine xd7 (xs:=bs.map V.int) (Pv:=fun k σ H5=>∃(c:Int) (ns:List Int) (v4 v5:Option V),σ=[some (.int c),some (.bl dg),some (.ref lb),some (.ref l),v4,v5]/\Same H H5/\H5 l=some (.lst (ns.map V.int))/\ns.length=k) ⟨c,[],_,_,rfl,s1,g1,rfl⟩ ?_ ?_ ?_
  .rintro i σ H5 _ ⟨_,_,_,_,rfl,s5,_⟩;exact SqL.of (s5 _ _ hlb)
  .rintro k x p σ H5 hx hp ⟨c,ns,v4,v5,rfl,s5,e5,nl⟩;rw[Zh,Zl] at hx;obtain⟨b,hb,rfl⟩:=hx;have bb:=bp b (Zo hb);have kl:=(Zj.mp hb).1;have s6:Same H5 (upd H5 p (.tup [.int (k:Int),.int b])):=xp (Same.refl _) hp;have g6:upd H5 p (.tup [.int (k:Int),.int b]) p=some (.tup [.int (k:Int),.int b]):=xf;revert s6 g6;generalize upd H5 p (.tup [.int (k:Int),.int b])=H6;intro s6 g6;have s06:=s5.trans s6;have e6:=s6 _ _ e5;have fin:∀ n:Int,∃(c':Int) (ns':List Int),Same H (upd H6 l (.lst (ns.map V.int++[.int n])))/\upd H6 l (.lst (ns.map V.int++[.int n])) l=some (.lst (ns'.map V.int))/\ns'.length=k+1:=fun n=>⟨c,ns++[n],fun a u e=>by rw[xh (xi e hl)]; exact s06 _ _ e,by rw[xf,Z8]; rfl,by rw[Zp,nl]; rfl⟩
   refine⟨p,_,rfl,SqT.of g6,rfl,_,_,rfl,_,_,rfl,rfl,?_⟩;refine⟨_,rfl,dg,rfl,ite2 (fun y=>?_) (fun y=>?_)⟩
   .refine ⟨_,rfl,.inl ⟨rfl,_,SqL.of e6⟩,_,rfl,_,rfl,_,_,rfl,rfl,bb.1,l,_,_,rfl,rfl,e6,?_,?_⟩
    .rw [Za];exact Z9 (by omega:_<=1000) (by decide)
    obtain⟨_,ns',f1,f2,f3⟩:=fin (c % b);exact⟨_,rfl,_,rfl,_,_,rfl,rfl,⟨bb.1,by omega⟩,_,ns',_,_,rfl,f1,f2,f3⟩
   .refine ⟨_,rfl,.inl ⟨rfl,_,SqL.of e6⟩,_,rfl,_,rfl,_,_,rfl,rfl,c,_,rfl,fun m _ _=>⟨l,_,_,rfl,rfl,e6,?_,?_⟩⟩
    .rw [Za];exact Z9 (by omega:_<=1000) (by decide)
    obtain⟨_,ns',f1,f2,f3⟩:=fin m;exact⟨c,ns',_,_,rfl,f1,f2,f3⟩
  .rintro σ H5 ⟨c,ns,v4,v5,rfl,s5,e5,nl⟩;rw[Za] at nl;exact⟨_,rfl,q H5 l ns s5 hl e5 nl⟩
theorem ok_a0 (T:Txt w K mg t):FnOk true P w K mg base (CXo P w) 2 t.f_a0 t.d_a0 ["_law_numbers_here", "_law_name", "_law_x", "_law_y", "_law_height"] (xrh):=by
 refine T.F_a0.okn (k:=1) sc_a0 (fun vs H Q E h=>?_) (fun cdv A outer s H vs Q E hr h=>?_)
 .obtain ⟨ln,ns,nm,x,y,ph,rfl,_⟩:=h;rfl
 .obtain ⟨ln,ns,nm,x,y,ph,rfl,h⟩:=h;refine⟨_,xk (xw (i:=5) sc_a0.nd rfl (Zn rfl) (xab xak (xbj (xb (xaf) (xb (xaf) (xb (xaf) (xg))))) (xt xad (xt xad (xab xak (pv 0) (xj) (fun _ _=>rfl)) (xj)) (xj)) (fun _ _=>rfl)))
   (xk (xw (i:=6) sc_a0.nd rfl (Zn rfl) (xt xan (xj) (xt xad (xab xak (pv 0) (xj) (fun _ _=>rfl)) (pv 4))))
   (xk (xw (i:=7) sc_a0.nd rfl (Zn rfl) (xt xan (pv 6) (xt xad (xab xak (pv 0) (xj) (fun _ _=>rfl)) (xt xan (xt xer (pv 4) (pv 6)) (xj)))))
   (xk (xw (i:=8) sc_a0.nd rfl (Zn rfl) (xt xad (xab xak (pv 0) (xj) (fun _ _=>rfl)) (xj)))
   (xk ((by (with_reducible refine' xbe ?m7); (case m7=>((with_reducible refine' xae ?c2 ?a3 ?b4); (case c2=>exact x5 xa7 (pv 8) (xj) (x6 _)); (case a3=>((with_reducible refine' xm ?c5); (case c5=>((with_reducible refine' x0 ?e6); (case e6=>((exact xaj (xz (pv 1) (xz (pv 2) (xz (pv 3) (xz (pv 5) (xz (xj) (xz (pv 4) (xg) rfl) rfl) rfl) rfl) rfl) rfl)))))))); (case b4=>((exact x4)))))))
   (xk (xbe (xae (x5 xa7 (pv 8) (xj) (x6 _)) (xm (xw (i:=7) sc_a0.nd rfl (Zn rfl) (x8 (xnt rfl) rfl T.n_min boot_min (xb (xt xan (pv 6) (xj)) (xb (pv 4) (xg)))))) (x4)))
   (xm ((by (with_reducible refine' x0 ?e1); (case e1=>((exact xaj (xz (pv 1) (xz (pv 2) (xz (pv 3) (xz (pv 5) (xz (pv 6) (xz (pv 7) (xg) rfl) rfl) rfl) rfl) rfl) rfl)))))))))))),?_⟩
  obtain⟨hln,n7,h1,q⟩:=h;obtain⟨m6,em6⟩:=xdh (ns:=ns) (i:=3) (by omega);obtain⟨m7,em7⟩:=xdh (ns:=ns) (i:=4) (by omega);obtain⟨m8,em8⟩:=xdh (ns:=ns) (i:=5) (by omega);obtain⟨m9,em9⟩:=xdh (ns:=ns) (i:=6) (by omega);refine⟨(by show 3<=sizeLine; decide),fun l0 hl0=>?_⟩;have s1:Same H (upd H l0 (.lst [V.str (Zc "both"),V.str (Zc "left"),V.str (Zc "right")])):=xp (Same.refl _) hl0;have g1:upd H l0 (.lst [V.str (Zc "both"),V.str (Zc "left"),V.str (Zc "right")]) l0=some (.lst [V.str (Zc "both"),V.str (Zc "left"),V.str (Zc "right")]):=xf;revert s1 g1;generalize upd H l0 (.lst [V.str (Zc "both"),V.str (Zc "left"),V.str (Zc "right")])=H1;intro s1 g1;have hln1:=s1 _ _ hln;obtain⟨sd,esd,osd⟩:=xs7 (m6 % 4);refine⟨_,rfl,ln,_,3,.int m6,rfl,rfl,SqL.of hln1,em6,_,_,rfl,rfl,(by show (0:Int)<4; decide),_,_,rfl,rfl,(by show (0:Int)<3; decide),l0,_,_,.str sd,rfl,rfl,SqL.of g1,esd,?_⟩;refine⟨_,rfl,ln,_,4,.int m7,rfl,rfl,SqL.of hln1,em7,_,rfl,_,_,rfl,rfl,(by show (0:Int)<(ph:Int); omega),_,_,rfl,rfl,?_⟩;have b7:=xc3 m7 (show (0:Int)<(ph:Int) by omega);have p8:(0:Int)<(ph:Int)-(1+m7 % (ph:Int))+1:=by omega
  refine⟨_,rfl,_,rfl,ln,_,5,.int m8,rfl,rfl,SqL.of hln1,em8,_,rfl,_,rfl,_,_,rfl,rfl,_,_,rfl,rfl,_,_,rfl,rfl,p8,_,_,rfl,rfl,?_⟩;have b8:=xc3 m8 p8;refine⟨_,rfl,ln,_,6,.int m9,rfl,rfl,SqL.of hln1,em9,_,_,rfl,rfl,(by show (0:Int)<3; decide),?_⟩;refine⟨fun σ H5=>H1=H5/\σ=[some (.ref ln),some (.str nm),some (.int x),some (.int y),some (.int (ph:Int)),some (.str sd),some (.int (1+m7 % (ph:Int))),some (.int (1+m7 % (ph:Int)+m8 % ((ph:Int)-(1+m7 % (ph:Int))+1))),some (.int (m9 % 3))],?_,?_⟩
  .refine ⟨_,rfl,rfl,_,rfl,ite2 (fun y=>?_) (fun y=>⟨rfl,rfl⟩)⟩;exact⟨_,rfl,_,rfl,_,rfl,_,rfl,_,rfl,(by show 6<=sizeLine; decide),fun p hp=>q _ p sd 1 (ph:Int) osd (by omega) (by omega) (by omega) (s1.trans (xp (Same.refl _) hp)) xf⟩
  rintro σ _ ⟨rfl,rfl⟩;refine⟨fun σ H5=>H1=H5/\∃ hi:Int,1+m7 % (ph:Int)<=hi/\hi<=(ph:Int)/\σ=[some (.ref ln),some (.str nm),some (.int x),some (.int y),some (.int (ph:Int)),some (.str sd),some (.int (1+m7 % (ph:Int))),some (.int hi),some (.int (m9 % 3))],?_,?_⟩
  .refine ⟨_,rfl,rfl,_,rfl,ite2 (fun y=>?_) (fun y=>⟨rfl,_,by omega,by omega,rfl⟩)⟩;refine⟨_,rfl,_,_,rfl,rfl,_,rfl,_,_,rfl,rfl,_,?_,?_,rfl⟩
   .split<;>omega
   .split<;>omega
  rintro σ _ ⟨rfl,hi,a1,a2,rfl⟩;exact⟨_,rfl,_,rfl,_,rfl,_,rfl,_,rfl,_,rfl,(by show 6<=sizeLine; decide),fun p hp=>q _ p sd _ hi osd (by omega) a1 a2 (s1.trans (xp (Same.refl _) hp)) xf⟩
theorem ok_an (T:Txt w K mg t):FnOk true P w K mg base (CXo P w) 3 t.f_an t.d_an ["_law_cells", "_law_digits", "_law_width", "_law_height"] (xp5 K):=by
 refine T.F_an.okn (k:=2) sc_an (fun vs H Q E h=>?_) (fun cdv A outer s H vs Q E hr h=>?_)
 .obtain ⟨lcell,ns,dg,w',h',rfl,_⟩:=h;rfl
 .obtain ⟨lcell,ns,dg,w',h',rfl,h⟩:=h;refine⟨_,xk (xw (i:=4) sc_an.nd rfl (Zn rfl) (xbr (xfi rfl) rfl T.n_list boot_list (xb (xbr xgi rfl T.n_range boot_range (xb (xj) (xb (xt xan (pv 2) (xj)) (xg)))) (xg))))
   (xk (xw (i:=5) sc_an.nd rfl (Zn rfl) (xbr (xfi rfl) rfl T.n_list boot_list (xb (xbr xgi rfl T.n_range boot_range (xb (xj) (xb (xt xan (pv 3) (xj)) (xg)))) (xg))))
   (xk (xw (i:=6) sc_an.nd rfl (Zn rfl) (xbr (xi9 rfl) rfl T.n_list boot_list (xb (xaf) (xg))))
   (xk (xw (i:=7) sc_an.nd rfl (Zn rfl) (xbj (xg)))
   (xk (xa4 ZO rfl (xa0 (pv 0)) (xq (i:=8) sc_an.nd rfl (Zn rfl)) (xm ((by (with_reducible refine' xbe ?m26); (case m26=>((with_reducible refine' xae ?c8 ?a9 ?b10); (case c8=>exact PW.pt (xdq (x5 (xg8 (xcn hr)) (pv 4) (xbj (xg)) (x6 _)) (xdd (x5 (xg8 (xcn hr)) (pv 5) (xbj (xg)) (x6 _))))); (case a9=>((with_reducible refine' xk ?a11 ?b12); (case a11=>((with_reducible refine' xw (i:=9) ?n13 ?i14 ?x15 ?e16 ?s17 ?f18); (case n13=>exact sc_an.nd); (case i14=>rfl); (case x15=>exact Zn rfl); (case f18=>exact Zn rfl); (case e16=>((exact xu (ok_y T) (hr.mono (by decide)) rfl T.g_y T.F_y.kp T.b_y .nil xn (xb (pv 8) (xb (pv 1) (xb (xbj (xz (xj) (xz (xj) (xz (xj) (xz (xj) (xz (xj) (xz (xj) (xz (xj) (xg) rfl) rfl) rfl) rfl) rfl) rfl) rfl)) (xg))))))); (case s17=>rfl))); (case b12=>((with_reducible refine' xk ?a19 ?b20); (case a19=>((exact xw (i:=10) sc_an.nd rfl (Zn rfl) (xco Jd YO YN xfb (pv 4) (xb (xt xad (xab xak (pv 9) (xj) (fun _ _=>rfl)) (x8 xbf rfl T.n_len Jy (xb (pv 4) (xg)))) (xg)))))); (case b20=>((with_reducible refine' xk ?a21 ?b22); (case a21=>((exact xw (i:=11) sc_an.nd rfl (Zn rfl) (xco Jd YO YN xfb (pv 5) (xb (xt xad (xab xak (pv 9) (xj) (fun _ _=>rfl)) (x8 xbf rfl T.n_len Jy (xb (pv 5) (xg)))) (xg)))))); (case b22=>((with_reducible refine' xk ?a23 ?b24); (case a23=>((exact xw (i:=12) sc_an.nd rfl (Zn rfl) (xco Jd YO YN xfb (pv 6) (xb (xt xad (xab xak (pv 9) (xj) (fun _ _=>rfl)) (x8 xbf rfl T.n_len Jy (xb (pv 6) (xg)))) (xg)))))); (case b24=>((with_reducible refine' xm ?c25); (case c25=>((exact xax (xco Jd JX JW xc0 (pv 7) (xb (xu (ok_a0 T) (hr.mono (by decide)) rfl T.g_a0 T.F_a0.kp T.b_a0 .nil xn (xb (pv 9) (xb (pv 12) (xb (pv 10) (xb (pv 11) (xb (pv 3) (xg))))))) (xg)))))))))))))))); (case b10=>((exact x4)))))))))
   (xm (x0 (pv 7))))))),?_⟩
  obtain⟨hc,n12,w1,w2,h1,h2,q⟩:=h;refine⟨_,rfl,_,_,rfl,rfl,1,(w':Int)+1,rfl,fun pr hpr=>?_⟩;have s1:Same H (upd H pr (.rng 1 ((w':Int)+1))):=xp (Same.refl _) hpr;have g1:upd H pr (.rng 1 ((w':Int)+1)) pr=some (.rng 1 ((w':Int)+1)):=xf;revert s1 g1;generalize upd H pr (.rng 1 ((w':Int)+1))=H1;intro s1 g1;refine⟨pr,_,_,rfl,g1,⟨by decide,by decide,by omega,by omega⟩,by omega,fun lc hlc=>?_⟩;have s2:Same H1 (upd H1 lc (.lst (rngL 1 ((w':Int)+1)))):=xp (Same.refl _) hlc;have g2:upd H1 lc (.lst (rngL 1 ((w':Int)+1))) lc=some (.lst (rngL 1 ((w':Int)+1))):=xf;revert s2 g2;generalize upd H1 lc (.lst (rngL 1 ((w':Int)+1)))=H2;intro s2 g2;refine⟨_,rfl,_,_,rfl,rfl,1,(h':Int)+1,rfl,fun pr2 hpr2=>?_⟩;have s3:Same H2 (upd H2 pr2 (.rng 1 ((h':Int)+1))):=xp (Same.refl _) hpr2;have g3:upd H2 pr2 (.rng 1 ((h':Int)+1)) pr2=some (.rng 1 ((h':Int)+1)):=xf;revert s3 g3;generalize upd H2 pr2 (.rng 1 ((h':Int)+1))=H3;intro s3 g3;refine⟨pr2,_,_,rfl,g3,⟨by decide,by decide,by omega,by omega⟩,by omega,fun lr hlr=>?_⟩;have s4:Same H3 (upd H3 lr (.lst (rngL 1 ((h':Int)+1)))):=xp (Same.refl _) hlr;have g4:upd H3 lr (.lst (rngL 1 ((h':Int)+1))) lr=some (.lst (rngL 1 ((h':Int)+1))):=xf;revert s4 g4;generalize upd H3 lr (.lst (rngL 1 ((h':Int)+1)))=H4;intro s4 g4;refine⟨abcS,rfl,by decide +kernel,fun ll hll=>?_⟩;have s5:Same H4 (upd H4 ll (.lst (sgnL abcS))):=xp (Same.refl _) hll;have g5:upd H4 ll (.lst (sgnL abcS)) ll=some (.lst (sgnL abcS)):=xf;revert s5 g5;generalize upd H4 ll (.lst (sgnL abcS))=H5;intro s5 g5;refine⟨(by show 0<=sizeLine; decide),fun lp hlp=>?_⟩;have s6:Same H5 (upd H5 lp (.lst [])):=xp (Same.refl _) hlp;have g6:upd H5 lp (.lst []) lp=some (.lst []):=xf;revert s6 g6;generalize upd H5 lp (.lst [])=H6;intro s6 g6;have s06:=(((s1.trans s2).trans s3).trans s4).trans (s5.trans s6);have f2:=s1.free hlc;have f4:=((s1.trans s2).trans s3).free hlr;have f5:=(((s1.trans s2).trans s3).trans s4).free hll;have f6:=((((s1.trans s2).trans s3).trans s4).trans s5).free hlp;have e2:=s6 _ _ (s5 _ _ (s4 _ _ (s3 _ _ g2)));have e4:=s6 _ _ (s5 _ _ g4);have e5:=s6 _ _ g5;have n24:lc≠lr:=xi (s3 _ _ g2) hlr;have n25:lc≠ll:=xi (s4 _ _ (s3 _ _ g2)) hll;have n26:lc≠lp:=xi (s5 _ _ (s4 _ _ (s3 _ _ g2))) hlp;have n45:lr≠ll:=xi g4 hll;have n46:lr≠lp:=xi (s5 _ _ g4) hlp;have n56:ll≠lp:=xi g5 hlp;refine⟨_,rfl,lcell,rfl,⟨_,SqL.of (s06 _ _ hc)⟩,?_⟩;refine xbd (xs:=ns.map V.int) (Pv:=IPt H lcell lc lr ll lp dg w' h') ⟨_,_,_,[],[],_,_,_,_,_,rfl,s06,e2,e4,e5,g6,.nil,⟨xn2 _,fun v hv=>xl8 hv,xn2 _,fun v hv=>xl8 hv,xtj,fun v hv=>hv,(by decide +kernel),?_,?_,Zi _,fun _ z=>(nomatch z),.nil,.nil,.nil,fun _ z=>(nomatch z),fun _ z=>(nomatch z),fun _ z=>(nomatch z)⟩⟩ ?_ ?_ ?_
  .unfold rngL;rw[Za,Zt];omega
  .unfold rngL;rw[Za,Zt];omega
  .rintro i σ H7 _ ⟨_,_,_,_,_,_,_,_,_,_,rfl,s7,_⟩;exact SqL.of (s7 _ _ hc)
  .rintro i x σ H7 hx ⟨cols,rows,lts,ps,qs,v7,v8,v9,v10,v11,rfl,s7,e7c,e7r,e7l,e7p,pl7,pi⟩;rw[Zh,Zl] at hx;obtain⟨c,hc',rfl⟩:=hx;have i12:i<12:=by have:=(Zj.mp hc').1; omega
   refine⟨_,?_,fun _ _ z=>z⟩;have sc1:cols.all scV=true:=Yx.mpr fun v hv=>by
    obtain⟨x,rfl,_⟩:=pi.ci v hv;rfl
   have sc2:rows.all scV=true:=Yx.mpr fun v hv=>by
    obtain⟨x,rfl,_⟩:=pi.ri v hv;rfl
   refine⟨_,rfl,(by show 0<=sizeLine; decide),fun z1 hz1=>?_⟩;have s8:Same H7 (upd H7 z1 (.lst [])):=xp (Same.refl _) hz1;have g8:upd H7 z1 (.lst []) z1=some (.lst []):=xf;revert s8 g8;generalize upd H7 z1 (.lst [])=H8;intro s8 g8;obtain⟨n,m,d,e,d1,d2,n9,m9,ev⟩:=xoo (K:=K) (s8 _ _ e7c) g8 sc1;refine⟨n,m,d,e,d1,d2,n9,m9,_,rfl,?_⟩;rw[ev];refine ite2 (fun y1=>?_) (fun y1=>⟨cols,rows,lts,ps,qs,_,_,_,_,_,rfl,s7.trans s8,s8 _ _ e7c,s8 _ _ e7r,s8 _ _ e7l,s8 _ _ e7p,pl7.keep (Same.tups s8),pi.up⟩);refine⟨_,rfl,(by show 0<=sizeLine; decide),fun z2 hz2=>?_⟩;have s9:Same H8 (upd H8 z2 (.lst [])):=xp (Same.refl _) hz2;have g9:upd H8 z2 (.lst []) z2=some (.lst []):=xf;revert s9 g9;generalize upd H8 z2 (.lst [])=H9;intro s9 g9;have s79:=s8.trans s9;obtain⟨n',m',d',e',d1',d2',n9',m9',ev'⟩:=xoo (K:=K) (s79 _ _ e7r) g9 sc2;refine⟨n',m',d',e',d1',d2',n9',m9',_,rfl,?_⟩;rw[ev'];refine ite2 (fun y2=>?_) (fun y2=>⟨cols,rows,lts,ps,qs,_,_,_,_,_,rfl,s7.trans s79,s79 _ _ e7c,s79 _ _ e7r,s79 _ _ e7l,s79 _ _ e7p,pl7.keep (Same.tups s79),pi.up⟩);have cne:cols≠[]:=fun z=>by rw[z] at y1; exact absurd y1 (by decide)
   have rne:rows≠[]:=fun z=>by rw[z] at y2; exact absurd y2 (by decide)
   have lne:lts≠[]:=fun z=>by
    have l0:lts.length=0:=by rw[z]; rfl
    have:=pi.ll;have:=pi.pl;omega
   refine⟨_,rfl,_,rfl,(by show 7<=sizeLine; decide),fun lb hlb=>?_⟩;have s30:Same H9 (upd H9 lb (.lst [.int 30,.int 16,.int 26,.int 4,.int 16,.int 16,.int 3])):=xp (Same.refl _) hlb;have g30:upd H9 lb (.lst [.int 30,.int 16,.int 26,.int 4,.int 16,.int 16,.int 3]) lb=some (.lst [.int 30,.int 16,.int 26,.int 4,.int 16,.int 16,.int 3]):=xf;revert s30 g30;generalize upd H9 lb (.lst [.int 30,.int 16,.int 26,.int 4,.int 16,.int 16,.int 3])=H30;intro s30 g30;refine⟨c,dg,lb,[30,16,26,4,16,16,3],rfl,g30,(by decide),by decide,fun H31 lnn nms s31 flnn e31 nl31=>?_⟩;have s79:=s79.trans (s30.trans s31);have nl7:nms.length=7:=nl31;obtain⟨m3,em3⟩:=xdh (ns:=nms) (i:=0) (by omega);obtain⟨m4,em4⟩:=xdh (ns:=nms) (i:=1) (by omega);obtain⟨m5,em5⟩:=xdh (ns:=nms) (i:=2) (by omega);have e9c:=s79 _ _ e7c;have e9r:=s79 _ _ e7r;have e9l:=s79 _ _ e7l;have e9p:=s79 _ _ e7p;have p9:=pl7.keep (Same.tups s79);have s09:=s7.trans s79;have nnc:lnn≠lc:=fun z=>by rw[z,s30 _ _ (s9 _ _ (s8 _ _ e7c))] at flnn; cases flnn
   have nnr:lnn≠lr:=fun z=>by rw[z,s30 _ _ (s9 _ _ (s8 _ _ e7r))] at flnn; cases flnn
   have nnl:lnn≠ll:=fun z=>by rw[z,s30 _ _ (s9 _ _ (s8 _ _ e7l))] at flnn; cases flnn
   refine⟨_,rfl,.inl ⟨rfl,_,SqL.of e9c⟩,_,rfl,lnn,_,0,.int m3,rfl,rfl,SqL.of e31,em3,?_⟩;obtain⟨jx,vx,gx,a1,a2,a3,a4⟩:=xg7 m3 cne (Zs pi.cl (by decide));obtain⟨x,rfl,x1,x2⟩:=pi.ci vx (Zo gx);refine⟨_,rfl,lc,_,rfl,.inl (SqL.of e9c),_,_,rfl,rfl,a4,lc,_,_,jx,_,rfl,rfl,e9c,a1,a2,a3,gx,?_⟩;have k10:∀ c u,c≠lc->H31 c=some u->upd H31 lc (.lst (cols.eraseIdx jx)) c=some u:=fun c u nc e=>by rw[xh nc]; exact e
   have g10:upd H31 lc (.lst (cols.eraseIdx jx)) lc=some (.lst (cols.eraseIdx jx)):=xf;revert k10 g10;generalize upd H31 lc (.lst (cols.eraseIdx jx))=H10;intro k10 g10;have e10r:=k10 _ _ (ZF n24) e9r;refine⟨_,rfl,.inl ⟨rfl,_,SqL.of e10r⟩,_,rfl,lnn,_,1,.int m4,rfl,rfl,SqL.of (k10 _ _ nnc e31),em4,?_⟩;obtain⟨jy,vy,gy,b1,b2,b3,b4⟩:=xg7 m4 rne (Zs pi.rl (by decide));obtain⟨y,rfl,y3,y4⟩:=pi.ri vy (Zo gy);refine⟨_,rfl,lr,_,rfl,.inl (SqL.of e10r),_,_,rfl,rfl,b4,lr,_,_,jy,_,rfl,rfl,e10r,b1,b2,b3,gy,?_⟩;have k11:∀ c u,c≠lr->H10 c=some u->upd H10 lr (.lst (rows.eraseIdx jy)) c=some u:=fun c u nc e=>by rw[xh nc]; exact e
   have g11:upd H10 lr (.lst (rows.eraseIdx jy)) lr=some (.lst (rows.eraseIdx jy)):=xf;revert k11 g11;generalize upd H10 lr (.lst (rows.eraseIdx jy))=H11;intro k11 g11;have e11l:=k11 _ _ (ZF n45) (k10 _ _ (ZF n25) e9l);have e11c:=k11 _ _ n24 g10;refine⟨_,rfl,.inl ⟨rfl,_,SqL.of e11l⟩,_,rfl,lnn,_,2,.int m5,rfl,rfl,SqL.of (k11 _ _ nnr (k10 _ _ nnc e31)),em5,?_⟩;obtain⟨jn,vn,gn,c1,c2,c3,c4⟩:=xg7 m5 lne (by have:=pi.ll; omega);obtain⟨cc,hcc,rfl⟩:=Ze.mp (pi.li vn (Zo gn));have inm:=xtb cc hcc;refine⟨_,rfl,ll,_,rfl,.inl (SqL.of e11l),_,_,rfl,rfl,c4,ll,_,_,jn,_,rfl,rfl,e11l,c1,c2,c3,gn,?_⟩;have k12:∀ c u,c≠ll->H11 c=some u->upd H11 ll (.lst (lts.eraseIdx jn)) c=some u:=fun c u nc e=>by rw[xh nc]; exact e
   have g12:upd H11 ll (.lst (lts.eraseIdx jn)) ll=some (.lst (lts.eraseIdx jn)):=xf;revert k12 g12;generalize upd H11 ll (.lst (lts.eraseIdx jn))=H12;intro k12 g12;have e12c:=k12 _ _ n25 e11c;have e12r:=k12 _ _ n45 g11;have e12p:=k12 _ _ (ZF n56) (k11 _ _ (ZF n46) (k10 _ _ (ZF n26) e9p));have s012:Same H H12:=fun c u e=>k12 _ _ (xi e f5) (k11 _ _ (xi e f4) (k10 _ _ (xi e f2) (s09 _ _ e)));have t912:Tups H31 H12:=fun c xs e=>k12 _ _ (xai e (s79 _ _ e7l) (fun z=>nomatch z)) (k11 _ _ (xai e e9r (fun z=>nomatch z)) (k10 _ _ (xai e e9c (fun z=>nomatch z)) e));refine⟨_,rfl,.inl ⟨rfl,_,SqL.of e12p⟩,_,rfl,_,rfl,_,rfl,_,rfl,_,rfl,lnn,nms,⟨#[cc]⟩,x,y,h',rfl,k12 _ _ nnl (k11 _ _ nnr (k10 _ _ nnc e31)),by omega,h1,fun H13 qa sd lo hi osd o1 o2 o3 s13 hqa=>?_⟩;have e13p:=s13 _ _ e12p;refine⟨lp,_,_,rfl,rfl,e13p,?_,?_⟩
   .rw [Za,pl7.len];exact Z9 (by have:=pi.pl; omega:_<=1000) (by decide)
   have kt:Tups H13 (upd H13 lp (.lst (qs.map V.ref++[.ref qa]))):=fun c xs e=>by rw[xh (xai e e13p (fun z=>nomatch z))]; exact e
   refine⟨_,_,_,ps++[⟨⟨#[cc]⟩,x,y,sd,lo,hi⟩],qs++[qa],_,_,_,_,_,rfl,fun c u e=>by rw[xh (xi e f6)]; exact s13 _ _ (s012 _ _ e),by rw[xh n26]; exact s13 _ _ e12c,by rw[xh n46]; exact s13 _ _ e12r,by rw[xh n56]; exact s13 _ _ g12,by rw[xf,Z8]; rfl,PtsL.snoc1 (((p9.keep t912).keep (Same.tups s13)).keep kt) (kt _ _ hqa),pi.add (p:=⟨⟨#[cc]⟩,x,y,sd,lo,hi⟩) gx gy gn ⟨inm,x1,x2,y3,y4,osd,o1,o2,o3⟩⟩
  .rintro σ H7 ⟨cols,rows,lts,ps,qs,v7,v8,v9,v10,v11,rfl,s7,e7c,e7r,e7l,e7p,pl7,pi⟩;have:=pi.pl;rw[Za] at this;exact⟨_,rfl,q H7 lp ps qs ⟨pi.ok,pi.nn,pi.nx,pi.ny,by omega⟩ (by omega) s7 f6 e7p pl7⟩
end
def xs9 (t:Adr):Sp:=fun vs H Q _=>∃(a q dp do_:Addr) (pw ph:Int) (ps:List Pt) (p:Pt),vs=[.ref a,.ref q]/\Pic t H a dp do_ pw ph ps/\H q=some (.tup (.str p.nm::ptV p))/\PtOk pw ph p/\(∀ z∈ps,z.nm≠p.nm/\z.x≠p.x/\z.y≠p.y)/\ps.length<12 /\
 ∀ H',(∀ b u,b≠dp->H b=some u->H' b=some u)->Pic t H' a dp do_ pw ph (ps++[p])->Q .non H'
def xtw (t:Adr):Sp:=fun vs H Q _=>∃(lp ls:Addr) (w h:Nat) (ps:List Pt) (ss:List Seat) (qs rs:List Addr),vs=[.int (w:Int),.int (h:Int),.ref lp,.ref ls]/\1<=w/\w<=30/\1<=h/\h<=16/\H lp=some (.lst (qs.map V.ref))/\PtsL H ps qs/\xcs (w:Int) (h:Int) ps/\H ls=some (.lst (rs.map V.ref))/\xac H ss rs/\SsOk (h:Int) ss/\ss.Pairwise xby /\
 ∀ H' a dp do_,Same H H'->Dr t H' a dp do_ w h ps ss.reverse ss->Q (.ref a) H'
theorem xcs.at_ {w h:Int}{ps:List Pt} (o:xcs w h ps) {i:Nat}{p:Pt} (e:ps[i]?=some p):PtOk w h p/\(∀ q∈ps.take i,q.nm≠p.nm/\q.x≠p.x/\q.y≠p.y)/\i<12:=by
 obtain⟨hi,rfl⟩:=Zj.mp e;refine⟨o.ok _ (YT hi),fun q hq=>⟨xc2 (·.nm) o.nn hi q hq,xc2 (·.x) o.nx hi q hq,xc2 (·.y) o.ny hi q hq⟩,by have:=o.le; omega⟩
theorem xkq {ss:List Seat} (h:ss.Pairwise xby):ss.Nodup:=h.imp fun {a b} z e=>by
 subst e;exact xiu _ _ z z
theorem xtq {α:Type}{l:List α}{i:Nat} (h:i<l.length) {x:α} (e:l[l.length-1-i]?=some x):l.reverse[i]?=some x:=by
 rw[List.getElem?_reverse h];exact e
def xaw (b:Bool) (h:Nat):List Seat:=(Z3 h).map fun (i:Nat)=>(b,1+(i:Int))
def xsp:Sp:=fun vs H Q _=>∃ h:Nat,vs=[.int (h:Int)]/\h<=16/\∀ H' l ss rs,ss=xaw true h++xaw false h->SsOk (h:Int) ss->Same H H'->H l=none->H' l=some (.lst (rs.map V.ref))->xac H' ss rs->Q (.ref l) H'
theorem xqd (h:Nat) (h16:h<=16):SsOk (h:Int) (xaw true h++xaw false h):=by
 have nd:∀ b,(xaw b h).Nodup:=fun b=>Drw.nd_map (fun a c e=>by
  have:=(JA.inj e).2;omega) Yu
 refine⟨?_,?_,fun s hs=>?_⟩
 .rw [ZU];refine⟨nd _,nd _,fun a ha b hb e=>?_⟩;obtain⟨i,_,rfl⟩:=Ze.mp ha;obtain⟨j,_,rfl⟩:=Ze.mp hb;exact absurd (JA.inj e).1 (by decide)
 .unfold xaw;rw[Zp,Za,Za,Zt];omega
 .rcases Z5.mp hs with hs|hs
  .obtain ⟨i,hi,rfl⟩:=Ze.mp hs;rw[ZN] at hi;exact⟨by show (1:Int)<=1+(i:Int); omega,by show 1+(i:Int)<=_; omega⟩
  .obtain ⟨i,hi,rfl⟩:=Ze.mp hs;rw[ZN] at hi;exact⟨by show (1:Int)<=1+(i:Int); omega,by show 1+(i:Int)<=_; omega⟩
theorem xac.append {H:Hp}{ss ts:List Seat}{qs rs:List Addr} (h:xac H ss qs) (h':xac H ts rs):xac H (ss++ts) (qs++rs):=by
 induction h with
 | nil=>exact h'
 | cons h _ ih=>exact .cons h ih
theorem xac.erase {H:Hp}{ss:List Seat}{qs:List Addr} (h:xac H ss qs) (k:Nat):xac H (ss.eraseIdx k) (qs.eraseIdx k):=by
 induction h generalizing k with
 | nil=>exact .nil
 | cons h r ih =>
  cases k with
  | zero=>exact r
  | succ k=>exact .cons h (ih k)
section
variable {P:Program}{w:World}{K:Zd}{mg:Str->Option Value}{base:Heap}{t:Adr}
theorem ok_a6 (T:Txt w K mg t):FnOk true P w K mg base (CXo P w) 4 t.f_a6 t.d_a6 ["_law_picture_here", "_law_point_here"] (xs9 t):=by
 refine T.F_a6.okn (k:=3) sc_a6 (fun vs H Q E h=>?_) (fun cdv A outer s H vs Q E hr h=>?_)
 .obtain ⟨a,q,dp,do_,pw,ph,ps,p,rfl,_⟩:=h;rfl
 .obtain ⟨a,q,dp,do_,pw,ph,ps,p,rfl,h⟩:=h;refine⟨_,xk (xcc (pv 1) (xap rfl (xr (xq (i:=2) sc_a6.nd rfl (Zn rfl)) (xr (xq (i:=3) sc_a6.nd rfl (Zn rfl)) (xr (xq (i:=4) sc_a6.nd rfl (Zn rfl)) (xr (xq (i:=5) sc_a6.nd rfl (Zn rfl)) (xr (xq (i:=6) sc_a6.nd rfl (Zn rfl)) (xr (xq (i:=7) sc_a6.nd rfl (Zn rfl)) (xag)))))))))
   (xm (xae (PW.pt (xdq (x5 xa7 (pv 5) (xaf) (x6 _)) (xdq (x5 xa7 (pv 6) (xj) (x6 _)) (xdd (x5 xa7 (pv 7) (xaa (pv 0) rfl) (x6 _)))))) (xm (xax (xat (pv 0) T.c_c T.m_a (ok_a T) (hr.mono (by decide)) T.b_bm.choose_spec.2 T.b_bm.choose_spec.1 xn (xb (pv 2) (xb (pv 3) (xb (pv 4) (xg))))))) (xm (xax (xat (pv 0) T.c_c T.m_a (ok_a T) (hr.mono (by decide)) T.b_a .nil xn (xz (pv 2) (xz (pv 3) (xz (pv 4) (xz (pv 5) (xz (pv 6) (xz (pv 7) (xg) rfl) rfl) rfl) rfl) rfl) rfl)))))),?_⟩
  obtain⟨pic,hq,ok,un,l12,hQ⟩:=h;obtain⟨⟨dx,hpi⟩,_⟩:=id pic;obtain⟨nm,x,y,sd,lo,hi⟩:=p;refine⟨_,rfl,q,_,rfl,SqT.of hq,rfl,_,_,rfl,_,_,rfl,_,_,rfl,_,_,rfl,_,_,rfl,_,_,rfl,rfl,?_⟩;have B:∀(hv:V) (sd':Str) (lo':Int),sd'=sd->lo'=lo->((hv=.non/\hi=ph)\/hv=.int hi)->xqw t [.ref a,.str nm,.int x,.int y,.str sd',.int lo',hv] H (fun _ H'=>Q .non H') (fun _ _ _=>False):=fun hv sd' lo' e1 e2 e3=>by
   subst e1 e2;exact⟨a,dp,do_,pw,ph,ps,nm,x,y,sd',lo',hi,hv,rfl,pic,e3,ok.nm,ok.x1,ok.x2,ok.y1,ok.y2,ok.sd,ok.l1,ok.l2,ok.l3,un,l12,hQ⟩
  have C:∀ Q':V->Hp->Prop,(∀ v H',Q .non H'->Q' v H')->True:=fun _ _=>trivial;refine⟨_,rfl,rfl,_,rfl,ite2 (fun y1=>⟨_,rfl,rfl,_,rfl,ite2 (fun y2=>⟨_,rfl,_,rfl,a,_,_,_,_,rfl,hpi,T.c_c,T.n_a8,lkH,rfl,_,rfl,ite2 (fun y3=>?_) (fun y3=>?_)⟩) (fun y2=>?_)⟩) (fun y1=>?_)⟩
  .have e1:sd=Zc "both":=V.str.inj (of_decide_eq_true y1);have e2:lo=1:=V.int.inj (of_decide_eq_true y2);have e3:hi=ph:=V.int.inj (of_decide_eq_true y3);refine⟨_,rfl,a,dx,_,rfl,hpi,xa2 (by decide +kernel),_,rfl,_,rfl,_,rfl,?_⟩;exact⟨a,dp,do_,pw,ph,ps,nm,x,y, "both",1,hi,.non,rfl,pic,.inl ⟨rfl,e3⟩,ok.nm,ok.x1,ok.x2,ok.y1,ok.y2,.inr (.inr rfl),by decide,e2▸ok.l2,ok.l3,un,l12,fun H' k pc=>hQ H' k (by rw[e1,e2]; exact pc)⟩
  all_goals
   refine⟨_,rfl,a,dx,_,rfl,hpi,xa2 (by decide +kernel),_,rfl,_,rfl,_,rfl,_,rfl,_,rfl,_,rfl,?_⟩;exact⟨a,dp,do_,pw,ph,ps,nm,x,y,sd,lo,hi,.int hi,rfl,pic,.inr rfl,ok.nm,ok.x1,ok.x2,ok.y1,ok.y2,ok.sd,ok.l1,ok.l2,ok.l3,un,l12,hQ⟩
theorem ok_ap (T:Txt w K mg t):FnOk true P w K mg base (CXo P w) 6 t.f_ap t.d_ap ["_law_width", "_law_height", "_law_points_here", "_law_seats_here"] (xtw t):=by
 refine T.F_ap.okn (k:=5) sc_ap (fun vs H Q E h=>?_) (fun cdv A outer s H vs Q E hr h=>?_)
 .obtain ⟨lp,ls,w',h',ps,ss,qs,rs,rfl,_⟩:=h;rfl
 .obtain ⟨lp,ls,w',h',ps,ss,qs,rs,rfl,h⟩:=h;refine⟨_,xk (xw (i:=4) sc_ap.nd rfl (Zn rfl) (xe3 T.k_c (ok_ah T) (hr.mono (by decide)) rfl T.g_c T.b_ah .nil xn (xb (pv 0) (xb (pv 1) (xg)))))
   (xk (xa4 ZO rfl (xk4 rfl T.n_reversed (xb (pv 3) (xg))) (xap rfl (xr (xq (i:=5) sc_ap.nd rfl (Zn rfl)) (xr (xq (i:=6) sc_ap.nd rfl (Zn rfl)) (xag)))) (xm (xax (xat (pv 4) T.c_c T.m_g (ok_g T) (hr.mono (by decide)) T.b_g .nil xn (xb (pv 5) (xb (pv 6) (xg)))))))
   (xk (xa4 ZO rfl (xa0 (pv 2)) (xq (i:=7) sc_ap.nd rfl (Zn rfl)) (xm (xax (xu (ok_a6 T) (hr.mono (by decide)) rfl T.g_a6 T.F_a6.kp T.b_a6 .nil xn (xb (pv 4) (xb (pv 7) (xg)))))))
   (xm (x0 (pv 4))))),?_⟩
  obtain⟨w1,w2,h1,h2,hlp,ptl,pok,hls,stl,sok,slt,q⟩:=h;have sll:=stl.len;have pll:=ptl.len;have nd:=xkq slt;refine⟨_,rfl,_,rfl,fun a dx ha hdx ne=>?_⟩;refine⟨a,dx,w',h',rfl,xf,by omega,by omega,by omega,by omega,fun H5 dp do_ hdp hdo k5 pic5 hdt=>⟨rfl,?_⟩⟩;have up:∀ b,upd (upd H dx (.own a)) a (.ins t.C_c dx []) b=none->H b=none:=fun b z=>by
   cases e:H b with
   | none=>rfl
   | some u=>rw[xh (xi e ha),xh (xi e hdx),e] at z; cases z
  have s5:Same H H5:=fun b u e=>k5 b u (xi e ha) (by rw[xh (xi e ha),xh (xi e hdx)]; exact e);have fdp:=up _ hdp;have fdo:=up _ hdo;have st5:Sts H5 do_ []:=⟨[],hdt,rfl,Qg,by decide⟩
  have rnd:(ss.reverse.map id).Nodup:=by
   rw[List.map_id];exact (YH ss).nodup_iff.mpr nd
  refine⟨_,rfl,ls,_,rfl,SqL.of (s5 _ _ hls),?_⟩;refine xro (xs:=rs.map V.ref) (Pv:=fun i σ H6=>∃(v5 v6 v7:Option V),σ=[some (.int (w':Int)),some (.int (h':Int)),some (.ref lp),some (.ref ls),some (.ref a),v5,v6,v7]/\Same H H6/\Pic t H6 a dp do_ w' h' []/\Sts H6 do_ (ss.reverse.take i)) ⟨_,_,_,rfl,s5,pic5,st5⟩ ?_ ?_ ?_
  .rintro i σ H6 _ ⟨_,_,_,rfl,s6,_⟩;exact SqL.of (s6 _ _ hls)
  .rintro i x σ H6 hi hx ⟨v5,v6,v7,rfl,s6,pic6,st6⟩;rw[Za] at hi hx;rw[Zh,Zl] at hx;obtain⟨qa,hqa,rfl⟩:=hx;obtain⟨⟨b,r⟩,hs,hsq⟩:=stl.get hqa;rw[sll] at hs hi;have hr:=xtq hi hs;have mem:=Zo hs;obtain⟨⟨dx6,hp6⟩,_⟩:=id pic6;obtain⟨ko,hko,_⟩:=id st6;have hil:i<ss.reverse.length:=by rw[JZ]; exact hi
   have nin:(b,r)∉ss.reverse.take i:=fun z=>by
    have:=xc2 id rnd hil (b,r) z;rw[(Zj.mp hr).2] at this;exact this rfl
   have l32:=sok.2.1;refine⟨qa,_,rfl,SqT.of (s6 _ _ hsq),rfl,_,_,rfl,_,_,rfl,rfl,?_⟩;refine⟨_,rfl,a,dx6,_,rfl,hp6,xa2 (by decide +kernel),_,rfl,_,rfl,a,dp,do_,w',h',[],ss.reverse.take i,b,r,rfl,pic6,st6,(sok.2.2 _ mem).1,(sok.2.2 _ mem).2,nin,by rw[ZQ]; omega,fun H7 k7 pc7 st7=>⟨_,_,_,rfl,fun c u e=>k7 _ _ (xi e fdo) (s6 _ _ e),pc7,?_⟩⟩;rw[ZT,hr];exact st7
  .rintro σ H6 ⟨v5,v6,v7,rfl,s6,pic6,st6⟩;rw[Za,sll,Jk (by rw[JZ]; exact Zi _)] at st6;refine⟨_,rfl,lp,rfl,⟨_,SqL.of (s6 _ _ hlp)⟩,?_⟩;refine xbd (xs:=qs.map V.ref) (Pv:=fun i σ H7=>∃(v5 v6 v7:Option V),σ=[some (.int (w':Int)),some (.int (h':Int)),some (.ref lp),some (.ref ls),some (.ref a),v5,v6,v7]/\Same H H7/\Pic t H7 a dp do_ w' h' (ps.take i)/\Sts H7 do_ ss.reverse) ⟨_,_,_,rfl,s6,pic6,st6⟩ ?_ ?_ ?_
   .rintro i σ H7 _ ⟨_,_,_,rfl,s7,_⟩;exact SqL.of (s7 _ _ hlp)
   .rintro i x σ H7 hx ⟨v5,v6,v7,rfl,s7,pic7,st7⟩;rw[Zh,Zl] at hx;obtain⟨qa,hqa,rfl⟩:=hx;obtain⟨p,hp,hpq⟩:=ptl.get hqa;obtain⟨o1,o2,o3⟩:=pok.at_ hp;obtain⟨ko,hko,kr⟩:=id st7;obtain⟨_,⟨kp,hkp,_⟩,_⟩:=id pic7;refine⟨_,rfl,_,rfl,a,qa,dp,do_,w',h',ps.take i,p,rfl,pic7,s7 _ _ hpq,o1,o2,by rw[ZQ]; omega,fun H8 k8 pc8=>⟨_,_,_,rfl,fun c u e=>k8 _ _ (xi e fdp) (s7 _ _ e),?_,ko,k8 _ _ (xai hko hkp (fun z=>nomatch z)) hko,kr⟩⟩;rw[ZT,hp];exact pc8
   .rintro σ H7 ⟨v5,v6,v7,rfl,s7,pic7,st7⟩;rw[Za,pll,Jk (Zi _)] at pic7;exact⟨_,rfl,q H7 a dp do_ s7 ⟨pic7,st7,⟨(YH ss).nodup_iff.mpr nd,by rw[JZ]; exact sok.2.1,fun s hs=>sok.2.2 s (Q3.mp hs)⟩,(YH ss).symm,slt,fun p hp=>(pok.ok p hp).nm⟩⟩
theorem ok_ab (T:Txt w K mg t):FnOk true P w K mg base (CXo P w) 1 t.f_ab t.d_ab ["_law_height"] (xsp):=by
 refine T.F_ab.okn (k:=0) sc_ab (fun vs H Q E h=>?_) (fun cdv A outer s H vs Q E hr h=>?_)
 .obtain ⟨h',rfl,_⟩:=h;rfl
 .obtain ⟨h',rfl,h⟩:=h;refine⟨_,xm (x0 (xt xhj (xcv rfl (xbh (zs:=["_law_row"]) (ys:=[]) (fr:=[]) (N0:=["_law_height"]) (sc0:=xo s_ab) (by decide +kernel) rfl rfl rfl) (xed rfl T.n_range (xb (xj) (xb (xt xan (pv 0) (xj)) (xg)))) (fun _ _ _ _ _ ow nd=>xq (i:=0) nd rfl (Zn (ow _ (by simp))) (J8 (ow _ (by simp)))) (xbz (by decide)) (fun _ _ _ _ _=>xbu) (fun _ _ _ _ _=>xaj (xb (xaf) (xb (pv 0) (xg))))) (xcv rfl (xbh (zs:=["_law_row"]) (ys:=[]) (fr:=[]) (N0:=["_law_height"]) (sc0:=xo s_ab) (by decide +kernel) rfl rfl rfl) (xed rfl T.n_range (xb (xj) (xb (xt xan (pv 0) (xj)) (xg)))) (fun _ _ _ _ _ ow nd=>xq (i:=0) nd rfl (Zn (ow _ (by simp))) (J8 (ow _ (by simp)))) (xbz (by decide)) (fun _ _ _ _ _=>xbu) (fun _ _ _ _ _=>xaj (xb (xaf) (xb (pv 0) (xg))))))),?_⟩;obtain⟨h16,q⟩:=h;refine⟨_,rfl,_,_,rfl,rfl,1,(h':Int)+1,rfl,⟨by decide,by decide,by omega,by omega⟩,fun l1 hl1=>?_⟩;have hh:((h':Int)+1-1).toNat=h':=by omega
  refine xfg (Z9 (by omega:_<=1000) (by decide)) hl1 (fun i y H5=>∃ q,y=.ref q/\H5 q=some (.tup (xcq (true,1+(i:Int))))) (fun i y H5 H6 tp z=>let ⟨q,e,f⟩:=z; ⟨q,e,tp _ _ f⟩) (fun i H5 hi s5 N hN=>?_) (fun ys H5 s5 e5 ly fy=>?_)
  .exact ⟨_,rfl,(by show 2<=sizeLine; decide),fun p hp=>hN _ _ (xp (Same.refl _) hp) ⟨p,rfl,xf⟩⟩
  rw[hh] at ly;obtain⟨rs1,rfl,sl1⟩:=xac.pick (ss:=xaw true h') (by rw[ly]; unfold xaw; rw[Za,Zt]) (fun j y s hy hs=>by
   obtain⟨q,e,f⟩:=fy j y hy;unfold xaw at hs;rw[Zh,Zl] at hs;obtain⟨i,hi,rfl⟩:=hs;have:i=j:=by
    have z:=(Zj.mp hi).2;rw[Qk] at z;exact z.symm
   subst this;exact⟨q,e,f⟩)
  refine⟨_,rfl,_,_,rfl,rfl,1,(h':Int)+1,rfl,⟨by decide,by decide,by omega,by omega⟩,fun l2 hl2=>?_⟩;refine xfg (Z9 (by omega:_<=1000) (by decide)) hl2 (fun i y H6=>∃ q,y=.ref q/\H6 q=some (.tup (xcq (false,1+(i:Int))))) (fun i y H5 H6 tp z=>let ⟨q,e,f⟩:=z; ⟨q,e,tp _ _ f⟩) (fun i H6 hi s6 N hN=>?_) (fun ys2 H6 s6 e6 ly2 fy2=>?_)
  .exact ⟨_,rfl,(by show 2<=sizeLine; decide),fun p hp=>hN _ _ (xp (Same.refl _) hp) ⟨p,rfl,xf⟩⟩
  rw[hh] at ly2;obtain⟨rs2,rfl,sl2⟩:=xac.pick (ss:=xaw false h') (by rw[ly2]; unfold xaw; rw[Za,Zt]) (fun j y s hy hs=>by
   obtain⟨q,e,f⟩:=fy2 j y hy;unfold xaw at hs;rw[Zh,Zl] at hs;obtain⟨i,hi,rfl⟩:=hs;have:i=j:=by
    have z:=(Zj.mp hi).2;rw[Qk] at z;exact z.symm
   subst this;exact⟨q,e,f⟩)
  refine⟨l1,l2,_,_,rfl,rfl,s6 _ _ e5,e6,?_,fun l3 hl3=>?_⟩
  .rw [ly,ly2];exact Zs (by omega:_<=1000) (by decide)
  rw[<- Z8];have s7:Same H6 (upd H6 l3 (.lst ((rs1++rs2).map V.ref))):=xp (Same.refl _) hl3;have g7:upd H6 l3 (.lst ((rs1++rs2).map V.ref)) l3=some (.lst ((rs1++rs2).map V.ref)):=xf;revert s7 g7;generalize upd H6 l3 (.lst ((rs1++rs2).map V.ref))=H7;intro s7 g7;exact q H7 l3 _ _ rfl (xqd h' h16) ((s5.trans s6).trans s7) ((s5.trans s6).free hl3) g7 (((sl1.keep (Same.tups s6)).append sl2).keep (Same.tups s7))
end
structure xhc (w h:Int) (ps:List Pt) (prs:List Pr):Prop where
 ok:∀ p∈prs,PrOk ps w h p
 nd:(prs.map (·.2)).Nodup
 len:prs.length<=12
 nn:(prs.map fun p=>p.1.nm).Nodup
theorem xr1 {ps:List Pt} (nd:(ps.map (·.nm)).Nodup) {p:Pt} (h:p∈ps):ps.find? (fun z=>decide (z.nm=p.nm))=some p:=by
 induction ps with
 | nil=>exact nomatch h
 | cons x r ih =>
  rw[Z2,Jh] at nd;rcases Z1.mp h with rfl|h
  .rw [QG (by simp)]
  .rw [QH,ih nd.2 h];intro e;exact nd.1 (Ze.mpr ⟨p,h,(of_decide_eq_true e).symm⟩)
theorem xph {h:Int}{ss:List Seat} (o:SsOk h ss) {k:Nat}{s:Seat} (e:ss[k]?=some s):SsOk h (ss.eraseIdx k)/\s∉ss.eraseIdx k/\(∀ z∈ss.eraseIdx k,z∈ss)/\s∈ss:=by
 obtain⟨a,b,c,d⟩:=xeh o.1 e;exact⟨⟨a,Zs (Q5 _ _) o.2.1,fun z hz=>o.2.2 z (c z hz)⟩,b,c,d⟩
theorem xpx {K:Zd}{H:Hp}{l l2:Addr}{ss:List Seat}{rs:List Addr} (sl:xac H ss rs) (h:H l=some (.lst (rs.map V.ref))) (h2:H l2=some (.lst [])):∃(n m:Nat) (d e:DV),Dv K H n (.ref l) d/\Dv K H m (.ref l2) e/\n<=9/\m<=9/\(!dEq d e)=!decide (ss=[]):=by
 refine⟨2,1,_,.lst [],sl.dv h,.lst (SqL.of h2) rfl (xe6 (xs:=[]) rfl),by decide,by decide,?_⟩;cases ss with
 | nil=>rfl
 | cons x r=>rfl
theorem xub {ps:List Pt} (nd:(ps.map (·.nm)).Nodup) {prs:List Pr}{k:Nat} (h:List.Sublist (prs.map (·.1)) (ps.take k)):(prs.map fun p=>p.1.nm).Nodup:=by
 have z:=(h.trans (List.take_sublist _ _)).map (·.nm);rw[Z7] at z;exact z.nodup nd
theorem PrsL.rev {H:Hp}{ps:List Pr}{qs:List Addr} (h:PrsL H ps qs):PrsL H ps.reverse qs.reverse:=by
 induction h with
 | nil=>exact .nil
 | cons h _ ih =>
  rw[List.reverse_cons,List.reverse_cons];exact ih.snoc h
def xb6 (w:Int) (p:Pr):List (Cl × Str):=Drw.ledL (Zc "+") (Zc "|") (Zc "-") w p.1.x p.1.y p.2.1 p.2.2
def xa3 (w:Int) (ps:List Pt) (ss:List Seat) (prs:List Pr):Cl->Option Str:=Drw.drawL hsS (prs.flatMap (xb6 w)) (xb3 w ss) (xbp w prs) (ptsS ps)
theorem xb9 {w:Nat} (w1:1<=w) {a b:Seat} (e:rimC w a=rimC w b):a=b:=by
 obtain⟨a1,a2⟩:=a;obtain⟨b1,b2⟩:=b;have e1:Drw.rim w a1=Drw.rim w b1:=(JA.inj e).1;have e2:a2=b2:=(JA.inj e).2;subst e2;unfold Drw.rim at e1;cases a1<;>cases b1
 .rfl
 .simp at e1; omega
 .simp at e1; omega
 .rfl
theorem xdy (w:Int) (s:Seat):(rimC w s).1=0\/(rimC w s).1=w+1:=by
 show Drw.rim w s.1=0\/Drw.rim w s.1=w+1;unfold Drw.rim;split
 .exact .inl rfl
 .exact .inr rfl
theorem xhl {α β:Type}{f g:α->List β}:∀{l:List α},(∀ a∈l,f a=g a)->l.flatMap f=l.flatMap g
 | [],_=>rfl
 | a::l,h=>by
  rw[Qs,Qs,h a (Zz ..),xhl fun b hb=>h b (Zy _ hb)]
theorem xmc {w h:Nat}{ps:List Pt}{ss:List Seat}{prs prs':List Pr} (w1:1<=w) (pok:xcs w h ps) (pal:xhc w h ps prs) (pm:prs'.Perm prs):xdz w ps ss prs'=xa3 w ps ss prs:=by
 funext c;unfold xdz xa3;refine Drw.draw_same (w:=w) hsS (fun x hx=>?_) (fun x hx=>?_) (fun x hx=>?_) (pm.map _) ?_ c fun n1 n2=>?_
 .obtain ⟨p,hp,rfl⟩:=Ze.mp hx;exact⟨(pok.ok p hp).x1,(pok.ok p hp).x2⟩
 .obtain ⟨s,_,rfl⟩:=Ze.mp hx;exact xdy w s
 .obtain ⟨s,_,rfl⟩:=Ze.mp hx;exact xdy w s.2
 .rw [Z7];have nd:=(pm.map (·.2)).nodup_iff.mpr pal.nd;rw[JU,ZH] at nd ⊢;exact nd.imp fun ne e=>ne (xb9 w1 e)
 .rw [Drw.at_flat,Drw.at_flat];rw[xhl (g:=fun a=>Drw.at_ c (xb6 w a))]
  .exact pm.flatMap_right _
  intro a ha;have ok:=pal.ok a (pm.mem_iff.mp ha);refine Drw.led_at _ _ _ ok.xy.1 ok.xy.2.1 (fun e=>n1 ?_) (fun e=>n2 ?_)
  .rw [e];unfold ptsS;rw[Z7];exact Ze.mpr ⟨a.1,Yy ok.fd,rfl⟩
  .rw [e];rw[Z7];exact Ze.mpr ⟨a,ha,rfl⟩
theorem Dr.same {t:Adr}{H H':Hp}{a dp do_:Addr}{w h:Nat}{ps:List Pt}{ss srt:List Seat} (d:Dr t H a dp do_ w h ps ss srt) (s:Same H H'):Dr t H' a dp do_ w h ps ss srt:=⟨Pic.same s d.pic,d.sts.same s,d.ok,d.pm,d.lt,d.nm⟩
theorem xsg {h:Nat}{s:Seat} (o:1<=s.2/\s.2<=(h:Int)):s∈xaw true h++xaw false h:=by
 obtain⟨b,r⟩:=s;have o1:1<=r:=o.1;have o2:r<=h:=o.2;have z:∀ b,(b,r)∈xaw b h:=fun b=>Ze.mpr ⟨(r-1).toNat,ZN.mpr (by omega),by rw[show 1+((r-1).toNat:Int)=r by omega]⟩;cases b
 .exact ZP _ (z false)
 .exact Yq _ (z true)
theorem xpu (ns:List Int):∃ ms:List Int,cutV (ns.map V.int) (some 3) (some 15)=ms.map V.int/\ms.length<=12:=by
 refine⟨(ns.drop (min 3 ns.length)).take (min 15 ns.length-min 3 ns.length),?_,?_⟩
 .unfold cutV;simp only[HT.sIx,Za];rw[if_neg (by decide),if_neg (by decide),Wo,Wp];rfl
 .rw [ZQ];omega
def xjk (K:Zd):Sp:=fun vs H Q _=>∃(a:Addr) (ns:List Int),vs=[.ref a]/\SqL K H a (ns.map V.int)/\ns.length<=63/\∀ H',Q (.bl true) H'
abbrev Sg:=Nat × Nat × Nat
def sgV (s:Sg):List V:=[.int (s.1:Int),.int (s.2.1:Int),sgn s.2.2]
def GV (G:List (List Nat)):List V:=G.map fun r=>V.str (ofL r)
def sgR (i:Nat) (r:List Nat):List Sg:=(Z3 r.length).map fun j=>(i,j,r.getD j 0)
def sgsN (G:List (List Nat)) (n:Nat):List Sg:=(Z3 n).flatMap fun i=>sgR i (G.getD i [])
def sgs (G:List (List Nat)):List Sg:=sgsN G G.length
structure Txs (W:Nat) (G:List (List Nat)):Prop where
 h1:1<=G.length
 h2:G.length<=16
 wd:∀ r∈G,r.length=W
 asc:∀ r∈G,∀ c∈r,c<128
 w1:3<=W
 w2:W<=32
def TL {α:Type} (f:α->List V) (H:Hp) (as:List α) (qs:List Addr):Prop:=qs.length=as.length/\∀(i:Nat) (q:Addr),qs[i]?=some q->∃ a,as[i]?=some a/\H q=some (.tup (f a))
theorem TL.keep {α:Type}{f:α->List V}{H H':Hp}{as:List α}{qs:List Addr} (s:Tups H H') (h:TL f H as qs):TL f H' as qs:=⟨h.1,fun i q e=>let ⟨a,e1,e2⟩:=h.2 i q e; ⟨a,e1,s _ _ e2⟩⟩
theorem TL.nil {α:Type}{f:α->List V}{H:Hp}:TL f H [] []:=⟨rfl,fun i q e=>by simp at e⟩
theorem TL.append {α:Type}{f:α->List V}{H:Hp}{as bs:List α}{qs rs:List Addr} (h:TL f H as qs) (k:TL f H bs rs):TL f H (as++bs) (qs++rs):=by
 refine⟨by rw[Zp,Zp,h.1,k.1],fun i q e=>?_⟩;by_cases c:i<qs.length
 .rw [Jj c] at e;rw[Jj (by rw[<- h.1]; exact c)];exact h.2 i q e
 .rw [Js (by omega)] at e;rw[Js (by rw[<- h.1]; omega),<- h.1];exact k.2 _ q e
theorem TL.pick {α:Type}{f:α->List V}{H:Hp}:∀{as:List α}{ys:List V},ys.length=as.length->(∀(j:Nat) (y:V) (a:α),ys[j]?=some y->as[j]?=some a->∃ q,y=.ref q/\H q=some (.tup (f a)))->∃ rs:List Addr,ys=rs.map V.ref/\TL f H as rs
 | [],[],_,_=>⟨[],rfl,TL.nil⟩
 | [],_::_,h,_=>by cases h
 | _::_,[],h,_=>by cases h
 | s::ss,y::ys,h,k=>by
  obtain⟨q,e,hq⟩:=k 0 y s rfl rfl;obtain⟨rs,e2,r⟩:=TL.pick (as:=ss) (ys:=ys) (by simpa using h) fun j y s h1 h2=>k (j+1) y s (by simpa using h1) (by simpa using h2)
  refine⟨q::rs,by rw[e,e2]; rfl,TL.append (as:=[s]) (qs:=[q]) ⟨rfl,fun i q' e'=>?_⟩ r⟩;cases i with
  | zero =>
   simp at e';subst e';exact⟨s,rfl,hq⟩
  | succ i=>simp at e'
theorem xaz (l:List Nat):(ofL l).length=l.length:=by simp[ofL,YS]
theorem xrn {l:List Nat} (h:∀ c∈l,c<128):(ofL l).cps.all (·<128)=true:=by
 rw[Array.all_eq_true];intro i hi;have:(ofL l).cps[i]∈(ofL l).cps.toList:=by simp
 rw[xar] at this;exact decide_eq_true (h _ this)
def xrg:Sp:=fun vs H Q _=>∃(l:Addr) (W:Nat) (G:List (List Nat)),vs=[.ref l]/\H l=some (.lst (GV G))/\Txs W G/\∀ H',Same H H'->Q .non H'
def xsn:Sp:=fun vs H Q _=>∃(l:Addr) (W:Nat) (G:List (List Nat)),vs=[.ref l]/\H l=some (.lst (GV G))/\Txs W G/\∀ H' l' qs,Same H H'->H l'=none->H' l'=some (.lst (qs.map V.ref))->TL sgV H' (sgs G) qs->Q (.ref l') H'
def xfq (j:Nat):Bool:=decide (j=0)
def xp8:Sp:=fun vs H Q _=>∃(q:Addr) (i j:Nat),vs=[.ref q]/\H q=some (.tup [.int (i:Int),.int (j:Int)])/\∀ H' q',Same H H'->H q'=none->H' q'=some (.tup (xcq (xfq j,(i:Int)+1)))->Q (.ref q') H'
theorem xcj (G:List (List Nat)):(GV G).length=G.length:=by unfold GV; rw[Za]
theorem xfd {G:List (List Nat)}{i:Nat}{r:List Nat} (h:G[i]?=some r):(GV G)[i]?=some (V.str (ofL r)):=by unfold GV; rw[Zh,h]; rfl
theorem xir {G:List (List Nat)}{i:Nat}{r:List Nat} (h:G[i]?=some r):sgsN G (i+1)=sgsN G i++sgR i r:=by
 unfold sgsN;rw[JS,Qa,QF,ZY,h];rfl
theorem xe8 {W:Nat}{G:List (List Nat)} (o:Txs W G):∀ n,n<=G.length->(sgsN G n).length=n*W
 | 0,_=>by simp[sgsN]
 | n+1,h=>by
  obtain⟨r,hr⟩:∃ r,G[n]?=some r:=⟨_,Zf h⟩
  rw[xir hr,Zp,xe8 o n (by omega),Nat.add_mul,Nat.one_mul];unfold sgR;rw[Za,Zt,o.wd r (Zo hr)]
section
variable {P:Program}{w:World}{K:Zd}{mg:Str->Option Value}{base:Heap}{t:Adr}
theorem ok_as (T:Txt w K mg t):FnOk true P w K mg base (CXo P w) 1 t.f_as t.d_as ["rows"] (xrg):=by
 refine T.F_as.okn (k:=0) sc_as (fun vs H Q E h=>?_) (fun cdv A outer s H vs Q E hr h=>?_)
 .obtain ⟨l,W,G,rfl,_⟩:=h;rfl
 .obtain ⟨l,W,G,rfl,h⟩:=h;refine⟨_,xk (xae (PW.pt (xcr (xbg (xas (x8 xb2 rfl T.n_isinstance boot_isinstance (xb (pv 0) (xb (xcy (v:=.ty "list") rfl T.n_list boot_list rfl) (xg)))))) (xck (xbg (xkv xec xec (xj) (x8 xbf rfl T.n_len Jy (xb (pv 0) (xg))) (xdl (v:=.int 16) rfl T.v_bk.choose_spec ⟨_,rfl⟩)))))) (xm (xa6)) (x4))
   (xm (xa4 ZO rfl (xcd rfl T.n_enumerate (xb (pv 0) (xg))) (xap rfl (xr (xq (i:=1) sc_as.nd rfl (Zn rfl)) (xr (xq (i:=2) sc_as.nd rfl (Zn rfl)) (xag)))) (xm (xae (PW.pt (xcr (xbg (xas (x8 xb2 rfl T.n_isinstance boot_isinstance (xb (pv 2) (xb (xcy (v:=.ty "str") rfl T.n_str boot_str rfl) (xg)))))) (xcr (xbg (xkv xec xec (xj) (x8 xba rfl T.n_len Jy (xb (pv 2) (xg))) (xt xan (xdl (v:=.int 30) rfl T.v_bg.choose_spec ⟨_,rfl⟩) (xj)))) (xck (x5 xjl (x8 xba rfl T.n_len Jy (xb (pv 2) (xg))) (x8 xba rfl T.n_len Jy (xb (xab xak (pv 0) (xj) (fun _ _=>rfl)) (xg))) (x6 _)))))) (xm (xa6)) (x4))))),?_⟩
  obtain⟨hl,o,q⟩:=h;have h1:=o.h1;have h2:=o.h2;have w1:=o.w1;have w2:=o.w2;have gl:=xcj G;obtain⟨r0,hr0⟩:∃ r,G[0]?=some r:=⟨_,Zf h1⟩
  have l0:=o.wd r0 (Zo hr0);refine⟨_,rfl,_,_,rfl,.inl ⟨_,_,true,.lst hl,rfl,xb5,true,rfl,iteF ?_⟩⟩;refine⟨_,rfl,l,_,rfl,.inl (SqL.of hl),?_⟩;refine⟨_,_,rfl,rfl,_,rfl,ifP (decide_eq_true (by rw[gl]; omega)) ⟨_,_,rfl,rfl,_,rfl,ifN (by rw[decide_eq_true (by rw[gl]; omega)]; rfl) ?_⟩⟩;refine⟨_,rfl,l,_,rfl,SqL.of hl,?_⟩;refine xd7 (xs:=GV G) (Pv:=fun i σ H5=>∃(v1 v2:Option V),σ=[some (.ref l),v1,v2]/\Same H H5) ⟨_,_,rfl,Same.refl _⟩ ?_ ?_ ?_
  .rintro i σ H5 _ ⟨_,_,rfl,s5⟩;exact SqL.of (s5 _ _ hl)
  .rintro i x p σ H5 hx hp ⟨v1,v2,rfl,s5⟩;have ig:i<G.length:=by
    have:=(Zj.mp hx).1;omega
   obtain⟨r,hr'⟩:∃ r,G[i]?=some r:=⟨_,Zf ig⟩
   rw[xfd hr'] at hx;cases hx;have rl:=o.wd r (Zo hr');have le:∀ z:List Nat,z.length=W->(ofL z).length<=sizeLine:=fun z hz=>by rw[xaz,hz]; exact Zs (by omega:_<=1000) (by decide)
   have s6:Same H5 (upd H5 p (.tup [.int (i:Int),.str (ofL r)])):=xp (Same.refl _) hp;have g6:upd H5 p (.tup [.int (i:Int),.str (ofL r)]) p=some (.tup [.int (i:Int),.str (ofL r)]):=xf;revert s6 g6;generalize upd H5 p (.tup [.int (i:Int),.str (ofL r)])=H6;intro s6 g6;have hl6:=s6 _ _ (s5 _ _ hl);refine⟨p,_,rfl,SqT.of g6,rfl,_,_,rfl,_,_,rfl,rfl,?_⟩;refine⟨_,rfl,_,_,rfl,.inl ⟨_,_,true,.str _,rfl,xb5,true,rfl,iteF ?_⟩⟩;refine⟨_,rfl,_,rfl,le r rl,_,_,rfl,rfl,_,rfl,ifP (decide_eq_true (by rw[xaz,rl]; omega)) ?_⟩;refine⟨_,_,rfl,rfl,_,_,rfl,rfl,_,rfl,ifN (by rw[decide_eq_true (by rw[xaz,rl]; omega)]; rfl) ?_⟩;refine⟨_,rfl,_,rfl,le r rl,_,rfl,l,_,0,.str (ofL r0),rfl,rfl,SqL.of hl6,?_,_,rfl,le r0 l0,rfl,_,rfl,ifN ?_ ⟨_,_,rfl,s5.trans s6⟩⟩
   .show atI (GV G) ((0:Nat):Int)=_;exact xbt (xfd hr0)
   .rw [xaz,xaz,rl,l0];simp
  .rintro σ H5 ⟨v1,v2,rfl,s5⟩;exact q H5 s5
theorem ok_ax (T:Txt w K mg t):FnOk true P w K mg base (CXo P w) 1 t.f_ax t.d_ax ["rows"] (xsn):=by
 refine T.F_ax.okn (k:=0) sc_ax (fun vs H Q E h=>?_) (fun cdv A outer s H vs Q E hr h=>?_)
 .obtain ⟨l,W,G,rfl,_⟩:=h;rfl
 .obtain ⟨l,W,G,rfl,h⟩:=h;refine⟨_,xk (xw (i:=1) sc_ax.nd rfl (Zn rfl) (xbj (xg)))
   (xk (xa4 ZO rfl (xcd rfl T.n_enumerate (xb (pv 0) (xg))) (xap rfl (xr (xq (i:=2) sc_ax.nd rfl (J8 rfl)) (xr (xq (i:=3) sc_ax.nd rfl (Zn rfl)) (xag)))) (xm (xax (xco Jd PySem.F.slot_list_extend PySem.F.type_list_extend xoj (pv 1) (xb (xcv rfl (xbh (zs:=["column", "sign"]) (ys:=["row"]) (fr:=[2]) (N0:=["rows", "found", "row", "text"]) (sc0:=xo s_ax) (by decide +kernel) rfl rfl rfl) (xny rfl T.n_enumerate (xb (pv 3) (xg))) (fun _ _ _ _ _ ow nd=>(xap rfl (xr (xq (i:=0) nd rfl (Zn (ow _ (by simp))) (J8 (ow _ (by simp)))) (xr (xq (i:=1) nd rfl (Zn (ow _ (by simp))) (J8 (ow _ (by simp)))) (xag))):PG _ _ (gTup K 2 _))) (xes (xbk (by decide) (xbk (by decide) (xd6)))) (fun _ _ _ _ _=>xbu) (fun _ _ _ _ _=>xaj (xb (pv 2) (xb (pv 0) (xb (pv 1) (xg)))))) (xg))))))
   (xm (x0 (pv 1)))),?_⟩
  obtain⟨hl,o,q⟩:=h;have h2:=o.h2;have w2:=o.w2;have gl:=xcj G;refine⟨(by show 0<=sizeLine; decide),fun f hf=>?_⟩;have s1:Same H (upd H f (.lst [])):=xp (Same.refl _) hf;have g1:upd H f (.lst []) f=some (.lst []):=xf;revert s1 g1;generalize upd H f (.lst [])=H1;intro s1 g1;refine⟨_,rfl,l,_,rfl,SqL.of (s1 _ _ hl),?_⟩;refine xd7 (xs:=GV G) (Pv:=fun i σ H5=>∃(v2 v3:Option V) (qs:List Addr),σ=[some (.ref l),some (.ref f),v2,v3]/\Same H H5/\H5 f=some (.lst (qs.map V.ref))/\TL sgV H5 (sgsN G i) qs) ⟨_,_,[],rfl,s1,g1,TL.nil⟩ ?_ ?_ ?_
  .rintro i σ H5 _ ⟨_,_,_,rfl,s5,_⟩;exact SqL.of (s5 _ _ hl)
  .rintro i x p σ H5 hx hp ⟨v2,v3,qs,rfl,s5,e5,tl5⟩;have ig:i<G.length:=by
    have:=(Zj.mp hx).1;omega
   obtain⟨r,hr⟩:∃ r,G[i]?=some r:=⟨_,Zf ig⟩
   rw[xfd hr] at hx;cases hx;have rl:=o.wd r (Zo hr);have ra:=o.asc r (Zo hr);have s6:Same H5 (upd H5 p (.tup [.int (i:Int),.str (ofL r)])):=xp (Same.refl _) hp;have g6:upd H5 p (.tup [.int (i:Int),.str (ofL r)]) p=some (.tup [.int (i:Int),.str (ofL r)]):=xf;revert s6 g6;generalize upd H5 p (.tup [.int (i:Int),.str (ofL r)])=H6;intro s6 g6;have e6:=s6 _ _ e5;refine⟨p,_,rfl,SqT.of g6,rfl,_,_,rfl,_,_,rfl,rfl,?_⟩;refine⟨_,rfl,.inl ⟨rfl,_,SqL.of e6⟩,_,rfl,ofL r,rfl,xrn ra,fun l1 hl1=>?_⟩;refine xkz (by rw[xar,rl]; exact Z9 (by omega:_<=1000) (by decide)) hl1 (fun j y H7=>∃ q,y=.ref q/\H7 q=some (.tup (sgV (i,j,r.getD j 0)))) (fun j y H7 H8 tp ⟨q,e1,e2⟩=>⟨q,e1,tp _ _ e2⟩) (fun j c pp H7 hc s7 hpp N hN=>?_) (fun ys H7 s7 e7 ly fy=>?_)
   .rw [xar] at hc;refine⟨pp,_,rfl,SqT.of xf,rfl,_,_,rfl,_,_,rfl,rfl,_,rfl,_,rfl,_,rfl,(by show 3<=sizeLine; decide),fun u hu=>hN _ _ (xp (Same.refl _) hu) ⟨u,rfl,?_⟩⟩;rw[xf,ZY,hc];rfl
   .rw [xar] at ly;obtain⟨rs,rfl,tr⟩:=TL.pick (f:=sgV) (H:=H7) (as:=sgR i r) (ys:=ys) (by rw[ly]; unfold sgR; rw[Za,Zt]) (fun j y a h1 h2=>by
     unfold sgR at h2;rw[Zh] at h2;obtain⟨j',hj,rfl⟩:=Zl.mp h2;obtain⟨_,ej⟩:=Zj.mp hj;rw[Qk] at ej;subst ej;exact fy _ y h1)
    have e67:=s7 _ _ e6;have ne:f≠l1:=fun z=>by rw[z] at e6; rw[e6] at hl1; cases hl1
    have ln:=xe8 o i (by omega);have tq:=tl5.1;refine⟨f,l1,_,_,rfl,rfl,e67,e7,?_,?_⟩
    .rw [ly,Za,tq,ln];have:i*W<=16*32:=Qe (by omega) w2;exact Zs (by omega:_<=1000) (by decide)
    have kt:Tups H7 (upd H7 f (.lst (qs.map V.ref++rs.map V.ref))):=fun c xs e=>by rw[xh (xai e e67 (fun z=>nomatch z))]; exact e
    refine⟨_,_,qs++rs,rfl,fun c u e=>by rw[xh (xi e hf)]; exact s7 _ _ (s6 _ _ (s5 _ _ e)),by rw[xf,Z8],?_⟩;rw[xir hr];exact ((((tl5.keep (Same.tups s6)).keep (Same.tups s7)).append tr).keep kt)
  .rintro σ H5 ⟨v2,v3,qs,rfl,s5,e5,tl5⟩;rw[gl] at tl5;exact⟨_,rfl,q H5 f qs s5 hf e5 tl5⟩
theorem ok_a5 (T:Txt w K mg t):FnOk true P w K mg base (CXo P w) 1 t.f_a5 t.d_a5 ["place"] (xp8):=by
 refine T.F_a5.okn (k:=0) sc_a5 (fun vs H Q E h=>?_) (fun cdv A outer s H vs Q E hr h=>?_)
 .obtain ⟨q,i,j,rfl,_⟩:=h;rfl
 .obtain ⟨q,i,j,rfl,h⟩:=h;refine⟨_,xk (xcc (pv 0) (xap rfl (xr (xq (i:=1) sc_a5.nd rfl (Zn rfl)) (xr (xq (i:=2) sc_a5.nd rfl (Zn rfl)) (xag)))))
   (xm (x0 (xaj (xb (xcu (x5 xa7 (pv 2) (xj) (x6 _)) (xaf) (xaf)) (xb (xt xan (pv 1) (xj)) (xg)))))),?_⟩
  obtain⟨hq,hQ⟩:=h;refine⟨_,rfl,q,_,rfl,SqT.of hq,rfl,_,_,rfl,_,_,rfl,rfl,?_⟩;refine⟨_,rfl,rfl,_,rfl,ite2 (fun c=>?_) (fun c=>?_)⟩
  .have j0:j=0:=by
    have:=of_decide_eq_true c;injection this with z
    omega
   refine⟨_,rfl,_,_,rfl,rfl,(by show 2<=sizeLine; decide),fun u hu=>hQ _ u (xp (Same.refl _) hu) hu ?_⟩;rw[xf,j0];rfl
  .have j0:¬ j=0:=fun z=>c (by rw[z]; rfl);refine⟨_,rfl,_,_,rfl,rfl,(by show 2<=sizeLine; decide),fun u hu=>hQ _ u (xp (Same.refl _) hu) hu ?_⟩;rw[xf];unfold xfq;rw[decide_eq_false j0];rfl
end
abbrev letF (lc:Int) (o i:Addr):List (Str × V):=[("last_column",.int lc),("outer",.ref o),("inner",.ref i)]
theorem xfa {lc:Int}{o i:Addr}{m:Str} (e:((["last_column", "outer", "inner"]:List Str).all fun k=>!(m == k))=true):(letF lc o i).lookup m=none:=by
 simp only[Qv,List.all_nil,Zr,Yo] at e;obtain⟨e1,e2,e3,_⟩:=e;unfold letF;rw[Zw,e1];show Jc m [("outer",V.ref o),("inner",V.ref i)]=none;rw[Zw,e2];show Jc m [("inner",V.ref i)]=none;rw[Zw,e3];rfl
theorem ltL {lc:Int}{o i:Addr}:(letF lc o i).lookup ("last_column":Str)=some (.int lc):=by
 unfold letF;rw[Zw,show (("last_column":Str) == "last_column")=true from by decide +kernel]
theorem ltO {lc:Int}{o i:Addr}:(letF lc o i).lookup ("outer":Str)=some (.ref o):=by
 unfold letF;rw[Zw,show (("outer":Str) == "last_column")=false from by decide +kernel];show Jc ("outer":Str) [("outer",V.ref o),("inner",V.ref i)]=_;rw[Zw,show (("outer":Str) == "outer")=true from by decide +kernel]
theorem ltI {lc:Int}{o i:Addr}:(letF lc o i).lookup ("inner":Str)=some (.ref i):=by
 unfold letF;rw[Zw,show (("inner":Str) == "last_column")=false from by decide +kernel];show Jc ("inner":Str) [("outer",V.ref o),("inner",V.ref i)]=_;rw[Zw,show (("inner":Str) == "outer")=false from by decide +kernel];show Jc ("inner":Str) [("inner",V.ref i)]=_;rw[Zw,show (("inner":Str) == "inner")=true from by decide +kernel]
inductive LD (H:Hp):List Sg->List (Key × V)->Prop
 | nil:LD H [] []
 | cons {s:Sg}{q:Addr}{es:List Sg}{kvs:List (Key × V)} (h:H q=some (.tup [.int (s.1:Int),.int (s.2.1:Int)])) (r:LD H es kvs):LD H (s::es) ((.inr (ofL [s.2.2]),.ref q)::kvs)
theorem LD.keep {H H':Hp} (s:Tups H H') {es:List Sg}{kvs:List (Key × V)} (h:LD H es kvs):LD H' es kvs:=by
 induction h with
 | nil=>exact .nil
 | cons h _ ih=>exact .cons (s _ _ h) ih
theorem LD.len {H:Hp}{es:List Sg}{kvs:List (Key × V)} (h:LD H es kvs):kvs.length=es.length:=by
 induction h with
 | nil=>rfl
 | cons _ _ ih=>simp[ih]
theorem LD.snoc {H:Hp}{es:List Sg}{kvs:List (Key × V)} (h:LD H es kvs) {s:Sg}{q:Addr} (e:H q=some (.tup [.int (s.1:Int),.int (s.2.1:Int)])):LD H (es++[s]) (kvs++[(.inr (ofL [s.2.2]),.ref q)]):=by
 induction h with
 | nil=>exact .cons e .nil
 | cons h _ ih=>exact .cons h ih
theorem xdk {c d:Nat} (h:ofL [c]=ofL [d]):c=d:=by
 have:=congrArg (fun s:Str=>s.cps.toList) h;simp only[xar] at this;exact (JP.inj this).1
theorem xli {c d:Nat} (h:(J9 (ofL [c]):Key)=J9 (ofL [d])):c=d:=xdk (J9.inj h)
theorem LD.get {H:Hp}{es:List Sg}{kvs:List (Key × V)} (h:LD H es kvs) {i:Nat}{k:Key}{x:V} (e:kvs[i]?=some (k,x)):∃ s q,es[i]?=some s/\k=.inr (ofL [s.2.2])/\x=.ref q/\H q=some (.tup [.int (s.1:Int),.int (s.2.1:Int)]):=by
 induction h generalizing i with
 | nil=>simp at e
 | @cons s q es kvs h _ ih =>
  cases i with
  | zero =>
   simp at e;exact⟨s,q,rfl,e.1.symm,e.2.symm,h⟩
  | succ j=>exact ih (by simpa using e)
theorem LD.is {H:Hp}{es:List Sg}{kvs:List (Key × V)} (h:LD H es kvs) (c:Nat):(valV kvs (.inr (ofL [c]))).isSome=decide (c∈es.map fun s=>s.2.2):=by
 induction h with
 | nil=>rfl
 | @cons s q es kvs h r ih =>
  by_cases z:s.2.2=c
  .subst z;rw[xa1 rfl];simp
  .rw [xay (fun e=>z (xli e)),ih];have z':¬ c=s.2.2:=fun e=>z e.symm;simp[z']
theorem LD.at_ {H:Hp}{es:List Sg}{kvs:List (Key × V)} (h:LD H es kvs) {s:Sg} (hs:s∈es) (nd:(es.map fun s=>s.2.2).Nodup):∃ q,valV kvs (.inr (ofL [s.2.2]))=some (.ref q)/\H q=some (.tup [.int (s.1:Int),.int (s.2.1:Int)]):=by
 induction h with
 | nil=>exact nomatch hs
 | @cons s' q es kvs h r ih =>
  rw[Z2,Jh] at nd;rcases Z1.mp hs with z|z
  .subst z;exact⟨q,xa1 rfl,h⟩
  .have ne:s'.2.2≠s.2.2:=fun e=>nd.1 (e▸Ze.mpr ⟨s,z,rfl⟩);rw[xay (fun e=>ne (xli e))];exact ih z nd.2
theorem LD.keys {H:Hp}{es:List Sg}{kvs:List (Key × V)} (h:LD H es kvs):kvs.map (·.1)=(es.map fun s=>ofL [s.2.2]).map J9:=by
 induction h with
 | nil=>rfl
 | cons _ _ ih=>simp only[Z2,ih]
structure Let (t:Adr) (H:Hp) (a o i:Addr) (lc:Nat) (os is:List Sg):Prop where
 ins:∃ dx,H a=some (.ins t.C_t dx (letF (lc:Int) o i))
 ou:∃ kvs,H o=some (.dK kvs)/\LD H os kvs
 inn:∃ kvs,H i=some (.dK kvs)/\LD H is kvs
 ne:o≠i
theorem Let.same {t:Adr}{H H':Hp}{a o i:Addr}{lc:Nat}{os is:List Sg} (h:Let t H a o i lc os is) (s:Same H H'):Let t H' a o i lc os is :=
 ⟨let ⟨dx,e⟩:=h.ins; ⟨dx,s _ _ e⟩,let ⟨k,e,r⟩:=h.ou; ⟨k,s _ _ e,r.keep (Same.tups s)⟩,let ⟨k,e,r⟩:=h.inn; ⟨k,s _ _ e,r.keep (Same.tups s)⟩,h.ne⟩
def nmC (c:Nat):Bool:=decide (97<=c)&&decide (c<=122)
theorem lt1 (a b:Nat):([a]<[b])↔a<b:=by
 constructor
 .intro h
  cases h with
  | rel h=>exact h
  | cons h=>exact absurd h (by intro z; cases z)
 .exact fun h=>.rel h
theorem xhw (c:Nat):isNm (ofL [c])=nmC c:=by
 unfold isNm nmC;rw[xaz,xar];simp only[lt1];rw[Je];simp
def rimB (lc j:Nat):Bool:=decide (j=0)||decide (j=lc)
def lieB (is:List Sg) (i j c:Nat):Bool:=decide (c∉is.map fun s=>s.2.2)&&(decide ((is.filter fun s=>decide (s.1=i)||decide (s.2.1=j))=[])&&decide (is.length<12))
def mayB (lc:Nat) (os is:List Sg) (s:Sg):Bool:=if rimB lc s.2.1 then (decide (s.2.2=32)||decide (s.2.2=46))||(nmC s.2.2&&decide (s.2.2∉os.map fun s=>s.2.2)) else (([32,124,45,43,35]:List Nat).contains s.2.2)||(nmC s.2.2&&lieB is s.1 s.2.1 s.2.2)
def xsj (t:Adr):Sp:=fun vs H Q _=>∃(p dx:Addr) (lc:Nat),vs=[.ref p,.int (lc:Int)]/\H p=some (.ins t.C_t dx [])/\∀ H' o i,H o=none->H i=none->(∀ b u,b≠p->H b=some u->H' b=some u)->Let t H' p o i lc [] []->Q .non H'
def xr6 (t:Adr):Sp:=fun vs H Q _=>∃(a o i:Addr) (lc:Nat) (os is:List Sg) (j:Nat),vs=[.ref a,.int (j:Int)]/\Let t H a o i lc os is/\∀ H',Same H H'->Q (.bl (rimB lc j)) H'
def xve (t:Adr):Sp:=fun vs H Q _=>∃(a o i:Addr) (lc:Nat) (os is:List Sg) (s:Sg),vs=[.ref a,.int (s.1:Int),.int (s.2.1:Int),sgn s.2.2]/\Let t H a o i lc os is/\is.length<=600/\∀ H',Same H H'->Q (.bl (lieB is s.1 s.2.1 s.2.2)) H'
def xrs (t:Adr):Sp:=fun vs H Q _=>∃(a o i:Addr) (lc:Nat) (os is:List Sg) (s:Sg),vs=[.ref a,.int (s.1:Int),.int (s.2.1:Int),sgn s.2.2]/\Let t H a o i lc os is/\is.length<=600/\∀ H',Same H H'->Q (.bl (mayB lc os is s)) H'
def outP (lc:Nat) (s:Sg):Bool:=rimB lc s.2.1&&nmC s.2.2
def innP (lc:Nat) (s:Sg):Bool:=!rimB lc s.2.1&&nmC s.2.2
def xti (t:Adr):Sp:=fun vs H Q _=>∃(a o i:Addr) (lc:Nat) (os is:List Sg) (s:Sg),vs=[.ref a,.int (s.1:Int),.int (s.2.1:Int),sgn s.2.2]/\Let t H a o i lc os is/\is.length<=600/\os.length<=600/\mayB lc os is s=true /\
 ∀ H',(∀ b u,b≠o->b≠i->H b=some u->H' b=some u)->Let t H' a o i lc (if outP lc s then os++[s] else os) (if innP lc s then is++[s] else is)->Q .non H'
theorem xob (a b:Nat):eqV (sgn a) (sgn b)=decide (a=b):=by
 show ((⟨#[a]⟩:Str) == ⟨#[b]⟩)=decide (a=b);rw[Je,beq_iff_eq,decide_eq_true_iff];exact⟨fun h=>xdk h,fun h=>by rw[h]⟩
theorem xme (c:Nat) (cs:List Nat):inV (sgn c) (cs.map sgn)=decide (c∈cs):=by
 unfold inV;rw[List.any_map,Je,List.any_eq_true,decide_eq_true_iff];constructor
 .rintro ⟨x,hx,e⟩;have e:eqV (sgn x) (sgn c)=true:=e;rw[xob] at e;exact of_decide_eq_true e▸hx
 .exact fun h=>⟨c,h,by show eqV (sgn c) (sgn c)=true; rw[xob]; exact decide_eq_true rfl⟩
def hitB (H:Hp) (i j:Nat) (kx:Key × V):Bool:=match kx.2 with
 | .ref a=>(match H a with
  | some (.tup [.int r,.int c])=>decide (r=(i:Int))||decide (c=(j:Int))
  | _=>false)
 | _=>false
theorem xo3 {H:Hp}{i j:Nat}{k:Key}{q:Addr}{s:Sg} (h:H q=some (.tup [.int (s.1:Int),.int (s.2.1:Int)])):hitB H i j (k,.ref q)=(decide (s.1=i)||decide (s.2.1=j)):=by
 unfold hitB;simp only[h];rw[Je];simp only[Y6,decide_eq_true_iff];omega
theorem LD.filt {H:Hp}{es:List Sg}{kvs:List (Key × V)} (h:LD H es kvs) (i j:Nat):LD H (es.filter fun s=>decide (s.1=i)||decide (s.2.1=j)) (kvs.filter (hitB H i j)):=by
 induction h with
 | nil=>exact .nil
 | @cons s q es kvs h r ih =>
  rw[Yw,Yw,xo3 h];cases decide (s.1=i)||decide (s.2.1=j) with
  | true=>exact .cons h ih
  | false=>exact ih
theorem LD.dv {K:Zd}{H:Hp}{es:List Sg}{kvs:List (Key × V)} (h:LD H es kvs) {l:Addr} (e:H l=some (.lst (kvs.map (·.2)))):Dv K H 2 (.ref l) (.lst (es.map fun s=>DV.tup [.int (s.1:Int),.int (s.2.1:Int)])):=by
 refine .lst (SqL.of e) (by rw[Za,Za,h.len]) fun j x d h1 h2=>?_;rw[Zh] at h1 h2;obtain⟨⟨k,x'⟩,hx,rfl⟩:=Zl.mp h1;obtain⟨s,hs,rfl⟩:=Zl.mp h2;obtain⟨s',q,hs',_,ex,hq⟩:=h.get hx;rw[hs] at hs';cases hs';show Dv K H 1 x' _;rw[ex];exact xs3 hq
theorem xsq {α:Type} (f:α->DV) (es:List α) [Decidable (es=[])]:dEq (.lst (es.map f)) (.lst [])=decide (es=[]):=by
 cases es with
 | nil=>simp[dEq,dEqs]
 | cons x xs=>simp[dEq,dEqs]
def xtk:Sp:=fun vs H Q _=>∃(x:Str),vs=[.str x]/\x.length<=1000/\Q (.bl (isNm x)) H
section
variable {P:Program}{w:World}{K:Zd}{mg:Str->Option Value}{base:Heap}{t:Adr}
theorem okD_ar (T:Txt w K mg t):FnOk true P w K mg base (CXo P w) 1 t.f_ar t.d_ar ["thing"] (xtk):=by
 refine T.F_ar.okn (k:=0) sc_ar (fun vs H Q E h=>?_) (fun cdv A outer s H vs Q E hr h=>?_)
 .obtain ⟨x,rfl,_⟩:=h;rfl
 .obtain ⟨x,rfl,h⟩:=h;refine⟨_,xm (x0 (xce (x8 xb2 rfl T.n_isinstance boot_isinstance (xb (pv 0) (xb (xcy (v:=.ty "str") rfl T.n_str boot_str rfl) (xg)))) (xce (xb8 xa7 (x8 xba rfl T.n_len Jy (xb (pv 0) (xg))) (xj) (x6 _)) (xc7 (xd2 xeb xeb (xaf) (pv 0) (xaf)))))),?_⟩;obtain⟨xl,q⟩:=h;refine⟨_,rfl,_,_,rfl,.inl ⟨_,_,true,.str x,rfl,xb5,true,rfl,iteT ?_⟩⟩;refine⟨_,rfl,_,rfl,(by first|exact Z9 xl (by decide)|exact Zs xl (by decide)|omega),rfl,_,rfl,ite2 (fun c=>?_) (fun c=>?_)⟩
  .have l1:x.length=1:=by
    have z:(x.length:Int)=1:=by simpa using c
    omega
   unfold isNm at q;rw[decide_eq_true l1,JB] at q;refine⟨_,rfl,_,_,rfl,rfl,_,rfl,ite2 (fun d=>?_) (fun d=>?_)⟩
   .refine ⟨_,_,rfl,rfl,?_⟩;rw[xm7] at d;rw[xqx];rw[d,JB] at q;exact q
   .rw [xm7] at d;rw[Jq.mpr d,JD] at q;exact q
  .have l1:¬ x.length=1:=fun z=>c (by rw[z]; rfl);unfold isNm at q;rw[decide_eq_false l1,JD] at q;exact q
theorem ok_al (T:Txt w K mg t):FnOk true P w K mg base (CXo P w) 1 t.f_al t.d_al ["self", "last_column"] (xsj t):=by
 refine T.F_al.okn (k:=0) sc_al (fun vs H Q E h=>?_) (fun cdv A outer s H vs Q E hr h=>?_)
 .obtain ⟨p,dx,lc,rfl,_⟩:=h;rfl
 .obtain ⟨p,dx,lc,rfl,h⟩:=h;refine⟨_,xk (xdu (pv 0) (pv 1) rfl)
   (xk (xdu (pv 0) (xgz) rfl)
   (xm (xdu (pv 0) (xgz) rfl))),?_⟩
  obtain⟨hp,q⟩:=h;refine⟨_,rfl,_,rfl,p,_,dx,_,rfl,hp,T.c_t,T.n_bb,(by show 0<1000; decide),?_⟩;refine fun o ho=>?_;have n1:p≠o:=xi xf ho;refine⟨_,rfl,p,_,dx,_,rfl,(by rw[xh n1]; exact xf),T.c_t,T.n_bc,(by show 1<1000; decide),fun i hi=>?_⟩;have n2:p≠i:=xi xf hi;have n3:o≠i:=xi (by rw[xh (ZF n1)]; exact xf) hi;refine⟨_,rfl,p,_,dx,_,rfl,(by rw[xh n2]; exact xf),T.c_t,T.n_ba,(by show 2<1000; decide),?_⟩;rw[xh (ZF n1)] at ho;have hi0:H i=none:=by rw[xh (ZF n2),xh (ZF n3),xh (ZF n2)] at hi; exact hi
  refine q _ o i ho hi0 (fun b u nb e=>?_) ⟨⟨dx,xf⟩,⟨[],?_,.nil⟩,⟨[],?_,.nil⟩,n3⟩
  .have c1:b≠o:=xi e ho;have c2:b≠i:=xi e hi0;rw[xh nb,xh c2,xh nb,xh c1,xh nb];exact e
  .rw [xh (ZF n1),xh n3,xh (ZF n1)];exact xf
  .rw [xh (ZF n2)];exact xf
theorem ok_k (T:Txt w K mg t):FnOk true P w K mg base (CXo P w) 1 t.f_k t.d_k ["self", "column"] (xr6 t):=by
 refine T.F_k.okn (k:=0) sc_k (fun vs H Q E h=>?_) (fun cdv A outer s H vs Q E hr h=>?_)
 .obtain ⟨a,o,i,lc,os,is,j,rfl,_⟩:=h;rfl
 .obtain ⟨a,o,i,lc,os,is,j,rfl,h⟩:=h;refine⟨_,xm (x0 (xb8 xfr (pv 1) (xaj (xb (xj) (xb (xaa (pv 0) rfl) (xg)))) (by rfl))),?_⟩;obtain⟨lt,q⟩:=h;obtain⟨⟨dx,ins⟩,_⟩:=id lt;refine⟨_,rfl,_,rfl,a,_,dx,_,_,rfl,ins,T.c_t,T.n_bb,ltL,(by show 2<=sizeLine; decide),fun p1 hp1=>?_⟩;have s1:Same H (upd H p1 (.tup [.int 0,.int (lc:Int)])):=xp (Same.refl _) hp1;have g1:upd H p1 (.tup [.int 0,.int (lc:Int)]) p1=some (.tup [.int 0,.int (lc:Int)]):=xf;revert s1 g1;generalize upd H p1 (.tup [.int 0,.int (lc:Int)])=H1;intro s1 g1;refine⟨p1,_,rfl,.inr (SqT.of g1),rfl,rfl,?_⟩;have e:inV (.int (j:Int)) [.int 0,.int (lc:Int)]=rimB lc j:=by
   show ((0:Int) == (j:Int)||(((lc:Int) == (j:Int))||false))=rimB lc j;unfold rimB;rw[Je];simp only[Y6,Y2,beq_iff_eq,decide_eq_true_iff];omega
  rw[if_neg (by decide),e];exact q H1 s1
theorem ok_o (T:Txt w K mg t):FnOk true P w K mg base (CXo P w) 1 t.f_o t.d_o ["self", "row", "column", "name"] (xve t):=by
 refine T.F_o.okn (k:=0) sc_o (fun vs H Q E h=>?_) (fun cdv A outer s H vs Q E hr h=>?_)
 .obtain ⟨a,o,i,lc,os,is,s,rfl,_⟩:=h;rfl
 .obtain ⟨a,o,i,lc,os,is,s,rfl,h⟩:=h;refine⟨_,xk (xlo (xch rfl (xbh (zs:=["other", "place"]) (ys:=["row", "column"]) (fr:=[1,2]) (N0:=["self", "row", "column", "name", "places"]) (sc0:=xo s_o) (by decide +kernel) rfl rfl rfl) (xgw (xaa (pv 0) rfl)) (fun _ _ _ _ _ ow nd=>(xap rfl (xr (xq (i:=0) nd rfl (Zn (ow _ (by simp))) (J8 (ow _ (by simp)))) (xr (xq (i:=1) nd rfl (Zn (ow _ (by simp))) (J8 (ow _ (by simp)))) (xag))):PG _ _ (gTup K 2 _))) (xes (xbk (by decide) (xbk (by decide) (xd6)))) (fun _ _ _ _ _=>xic (PW.pt (xcr (x5 xa7 (xab (r:=rIxT K) xbq (pv 1) (xj) (fun _ _=>rfl)) (pv 2) (x6 _)) (xck (x5 xa7 (xab (r:=rIxT K) xbq (pv 1) (xj) (fun _ _=>rfl)) (pv 3) (x6 _)))))) (fun _ _ _ _ _=>pv 1) (j:=4) rfl (Zn rfl)))
   (xm (x0 (xce (xna (xel (xbo hr) (pv 3) (xaa (pv 0) rfl))) (xce (xb8 (xjs (xcn hr)) (pv 4) (xbj (xg)) (x6 _)) (xc7 (xb8 xf6 (x8 xio rfl T.n_len Jy (xb (xaa (pv 0) rfl) (xg))) (xdl (v:=.int 12) rfl T.v_bh.choose_spec ⟨_,rfl⟩) (x6 _))))))),?_⟩
  obtain⟨lt,i6,q⟩:=h;obtain⟨⟨dx,ins⟩,_,⟨kvs,hk,ld⟩,_⟩:=id lt;have kl:=ld.len;refine⟨_,rfl,a,_,dx,_,_,rfl,ins,T.c_t,T.n_ba,ltI,i,kvs,rfl,hk,fun ob nf l hl=>?_⟩;have nl:l≠i:=fun z=>by
   rw[z,xf] at hl;cases hl
  have hl0:H l=none:=by rwa [xh nl] at hl
  refine xky xf (by rw[kl]; exact Z9 (by omega:_<=1000) (by decide)) hl (hitB H s.1 s.2.1) (fun n k x p H2 hx s2 hp N M hN hM=>?_) (fun H2 s2 e2=>?_)
  .obtain ⟨z,qa,hz,rfl,rfl,hqa⟩:=ld.get hx;have hq2:H2 qa=some (.tup [.int (z.1:Int),.int (z.2.1:Int)]):=s2 _ _ (by rw[xh (xai hqa hk (fun z=>nomatch z))]; exact hqa);have hq3:upd H2 p (.tup [kV (.inr (ofL [z.2.2])),.ref qa]) qa=some (.tup [.int (z.1:Int),.int (z.2.1:Int)]):=by
    rw[xh (xi hq2 hp)];exact hq2
   have hb:=xo3 (i:=s.1) (j:=s.2.1) (k:=.inr (ofL [z.2.2])) hqa;refine⟨p,_,rfl,SqT.of xf,rfl,_,_,rfl,_,_,rfl,rfl,?_⟩;refine⟨_,rfl,qa,_,0,.int (z.1:Int),rfl,rfl,SqT.of hq3,rfl,_,rfl,rfl,_,rfl,ite2 (fun c=>?_) (fun c=>?_)⟩
   .have c1:z.1=s.1:=by
     have:=V.int.inj (of_decide_eq_true c);omega
    refine iteT ⟨_,rfl,hN _ (Same.refl _) ?_⟩;rw[hb,decide_eq_true c1];rfl
   .have c1:¬ z.1=s.1:=fun e=>c (decide_eq_true (by rw[e]));refine⟨_,rfl,qa,_,1,.int (z.2.1:Int),rfl,rfl,SqT.of hq3,rfl,_,rfl,rfl,_,rfl,ite2 (fun c'=>?_) (fun c'=>?_)⟩
    .have c2:z.2.1=s.2.1:=by
      have:=V.int.inj (of_decide_eq_true c');omega
     refine⟨_,rfl,hN _ (Same.refl _) ?_⟩;rw[hb,decide_eq_true c2,JK]
    .have c2:¬ z.2.1=s.2.1:=fun e=>c' (decide_eq_true (by rw[e]));refine hM _ (Same.refl _) ?_;rw[hb,decide_eq_false c1,decide_eq_false c2];rfl
  have hi2:=s2 _ _ (show upd H i (.frz ob (.dK kvs)) i=_ from xf);refine⟨i,ob,.dK kvs,hi2,nf,?_⟩;have s3:Same H (upd H2 i (.dK kvs)):=fun b u e=>by
   by_cases z:b=i
   .subst z;rw[xf,<- e,hk]
   .rw [xh z];exact s2 _ _ (by rw[xh z]; exact e)
  have e3:upd H2 i (.dK kvs) l=some (.lst ((kvs.filter (hitB H s.1 s.2.1)).map (·.2))):=by
   rw[xh nl];exact e2
  revert s3 e3;generalize upd H2 i (.dK kvs)=H3;intro s3 e3;clear hi2 e2 s2;have ins3:=s3 _ _ ins;have hk3:=s3 _ _ hk;have ld3:=((ld.filt s.1 s.2.1).keep (Same.tups s3))
  refine⟨_,rfl,_,rfl,a,_,dx,_,_,rfl,ins3,T.c_t,T.n_ba,ltI,i,_,rfl,DGet.k (k:=.inr (ofL [s.2.2])) hk3,_,rfl,?_⟩;rw[ld.is];have e0:lieB is s.1 s.2.1 s.2.2=(decide (s.2.2∉is.map fun s=>s.2.2)&&(decide ((is.filter fun z=>decide (z.1=s.1)||decide (z.2.1=s.2.1))=[])&&decide (is.length<12))):=rfl;refine ite2 (fun c=>?_) (fun c=>?_)
  .have c1:s.2.2∉is.map fun s=>s.2.2:=by simpa using c
   rw[decide_eq_true c1,JB] at e0;refine⟨_,rfl,(by show 0<=sizeLine; decide),fun l0 hl0'=>?_⟩;have s4:Same H3 (upd H3 l0 (.lst [])):=xp (Same.refl _) hl0';have g4:upd H3 l0 (.lst []) l0=some (.lst []):=xf;revert s4 g4;generalize upd H3 l0 (.lst [])=H4;intro s4 g4;refine⟨2,1,_,.lst [],(ld3.keep (Same.tups s4)).dv (s4 _ _ e3),.lst (SqL.of g4) rfl (fun j x d h1=>by simp at h1),by decide,by decide,_,rfl,?_⟩;rw[xsq];refine ite2 (fun c2=>?_) (fun c2=>?_)
   .rw [c2,JB] at e0;refine⟨_,rfl,a,_,dx,_,_,rfl,s4 _ _ ins3,T.c_t,T.n_ba,ltI,i,kvs,rfl,s4 _ _ hk3,_,_,rfl,rfl,?_⟩;rw[e0] at q;have e5:decide ((kvs.length:Int)<12)=decide (is.length<12):=by
     rw[kl,Je,decide_eq_true_iff,decide_eq_true_iff];omega
    show Q (.bl (decide ((kvs.length:Int)<12))) H4;rw[e5];exact q _ (s3.trans s4)
   .rw [Jq.mpr c2,JD] at e0;rw[e0] at q;exact q _ (s3.trans s4)
  .have c1:¬ s.2.2∉is.map fun s=>s.2.2:=fun z=>c (by simpa using z);rw[decide_eq_false c1,JD] at e0;rw[e0] at q;exact q _ s3
theorem ok_h (T:Txt w K mg t):FnOk true P w K mg base (CXo P w) 2 t.f_h t.d_h ["self", "row", "column", "sign"] (xrs t):=by
 refine T.F_h.okn (k:=1) sc_h (fun vs H Q E h=>?_) (fun cdv A outer s H vs Q E hr h=>?_)
 .obtain ⟨a,o,i,lc,os,is,s,rfl,_⟩:=h;rfl
 .obtain ⟨a,o,i,lc,os,is,s,rfl,h⟩:=h;refine⟨_,xk (xae (xas (xat (pv 0) T.c_t T.m_k (ok_k T) (hr.mono (by decide)) T.b_k .nil xn (xb (pv 2) (xg)))) (xm (x0 (xqz (xb8 xfr (pv 3) (xaj (xb (xaf) (xb (xaf) (xg)))) (by rfl)) (xc7 (xce (xu (okD_ar T) (hr.mono (by decide)) rfl T.g_ar T.F_ar.kp T.b_ar .nil xn (xb (pv 3) (xg))) (xc7 (xna (xel (xbo hr) (pv 3) (xaa (pv 0) rfl))))))))) (x4))
   (xm (x0 (xqz (xb8 xfr (pv 3) (xaj (xb (xaf) (xb (xaf) (xb (xaf) (xb (xaf) (xb (xaf) (xg))))))) (by rfl)) (xc7 (xce (xu (okD_ar T) (hr.mono (by decide)) rfl T.g_ar T.F_ar.kp T.b_ar .nil xn (xb (pv 3) (xg))) (xc7 (xat (pv 0) T.c_t T.m_o (ok_o T) (hr.mono (by decide)) T.b_o .nil xn (xb (pv 1) (xb (pv 2) (xb (pv 3) (xg))))))))))),?_⟩
  obtain⟨lt,i6,q⟩:=h;obtain⟨⟨dx,ins⟩,_⟩:=id lt;refine⟨_,rfl,a,dx,_,rfl,ins,xfa (by decide +kernel),_,rfl,a,o,i,lc,os,is,s.2.1,rfl,lt,fun H1 s1=>⟨_,rfl,ite2 (fun c=>?_) (fun c=>?_)⟩⟩
  .have e0:mayB lc os is s=((decide (s.2.2=32)||decide (s.2.2=46))||(nmC s.2.2&&decide (s.2.2∉os.map fun s=>s.2.2))):=by
    unfold mayB;rw[if_pos c]
   refine⟨_,rfl,(by show 2<=sizeLine; decide),fun p1 hp1=>?_⟩;have s2:Same H1 (upd H1 p1 (.tup [.str (Zc " "),.str (Zc ".")])):=xp (Same.refl _) hp1;have g2:upd H1 p1 (.tup [.str (Zc " "),.str (Zc ".")]) p1=some (.tup [.str (Zc " "),.str (Zc ".")]):=xf;revert s2 g2;generalize upd H1 p1 (.tup [.str (Zc " "),.str (Zc ".")])=H2;intro s2 g2;refine⟨p1,_,rfl,.inr (SqT.of g2),rfl,rfl,_,rfl,?_⟩;have s02:=s1.trans s2;have lt2:=lt.same s02;have e1:(if false=true then !inV (sgn s.2.2) [.str (Zc " "),.str (Zc ".")] else inV (sgn s.2.2) [.str (Zc " "),.str (Zc ".")])=(decide (s.2.2=32)||decide (s.2.2=46)):=by
    have:=xme s.2.2 [32,46];rw[show (([32,46]:List Nat).map sgn)=[.str (Zc " "),.str (Zc ".")] from by decide +kernel] at this;rw[if_neg ZA,this,Je];simp
   rw[e1];refine ite2 (fun c1=>?_) (fun c1=>?_)
   .rw [c1,Bool.true_or] at e0;rw[e0] at q;exact q _ s02
   .rw [Jq.mpr c1,Qw] at e0;refine⟨_,rfl,_,rfl,(by decide:(1:Nat)<=1000),_,rfl,?_⟩;rw[show isNm (⟨#[s.2.2]⟩:Str)=nmC s.2.2 from xhw _];obtain⟨⟨dx2,ins2⟩,⟨kvs,hk,ld⟩,_⟩:=id lt2;refine ite2 (fun c2=>?_) (fun c2=>?_)
    .rw [c2,JB] at e0;refine⟨_,rfl,_,rfl,a,_,dx2,_,_,rfl,ins2,T.c_t,T.n_bc,ltO,o,_,rfl,DGet.k (k:=.inr (ofL [s.2.2])) hk,?_⟩;rw[ld.is];rw[e0] at q;have:=q _ s02;rw[decide_not] at this;exact this
    .rw [Jq.mpr c2,JD] at e0;rw[e0] at q;exact q _ s02
  .have e0:mayB lc os is s=((([32,124,45,43,35]:List Nat).contains s.2.2)||(nmC s.2.2&&lieB is s.1 s.2.1 s.2.2)):=by
    unfold mayB;rw[if_neg c]
   refine⟨_,rfl,(by show 5<=sizeLine; decide),fun p1 hp1=>?_⟩;have s2:Same H1 (upd H1 p1 (.tup [.str (Zc " "),.str (Zc "|"),.str (Zc "-"),.str (Zc "+"),.str (Zc "#")])):=xp (Same.refl _) hp1;have g2:upd H1 p1 (.tup [.str (Zc " "),.str (Zc "|"),.str (Zc "-"),.str (Zc "+"),.str (Zc "#")]) p1=some (.tup [.str (Zc " "),.str (Zc "|"),.str (Zc "-"),.str (Zc "+"),.str (Zc "#")]):=xf;revert s2 g2;generalize upd H1 p1 (.tup [.str (Zc " "),.str (Zc "|"),.str (Zc "-"),.str (Zc "+"),.str (Zc "#")])=H2;intro s2 g2;refine⟨p1,_,rfl,.inr (SqT.of g2),rfl,rfl,_,rfl,?_⟩;have s02:=s1.trans s2;have lt2:=lt.same s02;have e1:(if false=true then !inV (sgn s.2.2) [.str (Zc " "),.str (Zc "|"),.str (Zc "-"),.str (Zc "+"),.str (Zc "#")] else inV (sgn s.2.2) [.str (Zc " "),.str (Zc "|"),.str (Zc "-"),.str (Zc "+"),.str (Zc "#")])=([32,124,45,43,35]:List Nat).contains s.2.2:=by
    have:=xme s.2.2 [32,124,45,43,35];rw[show (([32,124,45,43,35]:List Nat).map sgn)=[.str (Zc " "),.str (Zc "|"),.str (Zc "-"),.str (Zc "+"),.str (Zc "#")] from by decide +kernel] at this;rw[if_neg ZA,this,Je];simp
   rw[e1];refine ite2 (fun c1=>?_) (fun c1=>?_)
   .rw [c1,Bool.true_or] at e0;rw[e0] at q;exact q _ s02
   .rw [Jq.mpr c1,Qw] at e0;refine⟨_,rfl,_,rfl,(by decide:(1:Nat)<=1000),_,rfl,?_⟩;rw[show isNm (⟨#[s.2.2]⟩:Str)=nmC s.2.2 from xhw _];obtain⟨⟨dx2,ins2⟩,_⟩:=id lt2;refine ite2 (fun c2=>?_) (fun c2=>?_)
    .rw [c2,JB] at e0;refine⟨_,rfl,a,dx2,_,rfl,ins2,xfa (by decide +kernel),_,rfl,_,rfl,_,rfl,a,o,i,lc,os,is,s,rfl,lt2,i6,fun H3 s3=>?_⟩;rw[e0] at q;exact q _ (s02.trans s3)
    .rw [Jq.mpr c2,JD] at e0;rw[e0] at q;exact q _ s02
theorem ok_u (T:Txt w K mg t):FnOk true P w K mg base (CXo P w) 3 t.f_u t.d_u ["self", "row", "column", "sign"] (xti t):=by
 refine T.F_u.okn (k:=2) sc_u (fun vs H Q E h=>?_) (fun cdv A outer s H vs Q E hr h=>?_)
 .obtain ⟨a,o,i,lc,os,is,s,rfl,_⟩:=h;rfl
 .obtain ⟨a,o,i,lc,os,is,s,rfl,h⟩:=h;refine⟨_,xk (xae (xbg (xas (xat (pv 0) T.c_t T.m_h (ok_h T) (hr.mono (by decide)) T.b_h .nil xn (xb (pv 1) (xb (pv 2) (xb (pv 3) (xg))))))) (xm (xa6)) (x4))
   (xm (xae (xas (xu (okD_ar T) (hr.mono (by decide)) rfl T.g_ar T.F_ar.kp T.b_ar .nil xn (xb (pv 3) (xg)))) (xk (xw (i:=4) sc_u.nd rfl (Zn rfl) (xcu (xas (xat (pv 0) T.c_t T.m_k (ok_k T) (hr.mono (by decide)) T.b_k .nil xn (xb (pv 2) (xg)))) (xaa (pv 0) rfl) (xaa (pv 0) rfl)))
   (xm (xdi (xbo hr) (pv 4) (pv 3) (xaj (xb (pv 1) (xb (pv 2) (xg)))) rfl))) (x4))),?_⟩
  obtain⟨lt,i6,o6,my,q⟩:=h;obtain⟨⟨dx,ins⟩,_⟩:=id lt;refine⟨_,rfl,a,dx,_,rfl,ins,xfa (by decide +kernel),_,rfl,_,rfl,_,rfl,a,o,i,lc,os,is,s,rfl,lt,i6,fun H1 s1=>⟨_,rfl,ifN (by rw[my]; rfl) ?_⟩⟩;refine⟨_,rfl,_,rfl,(by decide:(1:Nat)<=1000),_,rfl,?_⟩;rw[show isNm (⟨#[s.2.2]⟩:Str)=nmC s.2.2 from xhw _];have lt1:=lt.same s1;refine ite2 (fun c=>?_) (fun c=>?_)
  .obtain ⟨⟨dx1,ins1⟩,_⟩:=id lt1;refine⟨_,rfl,a,dx1,_,rfl,ins1,xfa (by decide +kernel),_,rfl,a,o,i,lc,os,is,s.2.1,rfl,lt1,fun H2 s2=>⟨_,rfl,?_⟩⟩;have s02:=s1.trans s2;have lt2:=lt.same s02;obtain⟨⟨dx2,ins2⟩,⟨ko,hko,ldo⟩,⟨ki,hki,ldi⟩,ne⟩:=id lt2;have klo:=ldo.len;have kli:=ldi.len;refine ite2 (fun r=>?_) (fun r=>?_)
   .have nin:s.2.2∉os.map fun s=>s.2.2:=by
     unfold mayB at my;rw[if_pos r] at my;have n1:¬ s.2.2=32:=fun z=>by rw[z] at c; exact absurd c (by decide)
     have n2:¬ s.2.2=46:=fun z=>by rw[z] at c; exact absurd c (by decide)
     rw[decide_eq_false n1,decide_eq_false n2,c,Y2,Qw,JB] at my;exact of_decide_eq_true my
    refine⟨_,rfl,a,_,dx2,_,_,rfl,ins2,T.c_t,T.n_bc,ltO,_,rfl,_,rfl,(by show 2<=sizeLine; decide),fun qa hqa=>?_⟩;have s3:Same H2 (upd H2 qa (.tup [.int (s.1:Int),.int (s.2.1:Int)])):=xp (Same.refl _) hqa;have g3:upd H2 qa (.tup [.int (s.1:Int),.int (s.2.1:Int)]) qa=some (.tup [.int (s.1:Int),.int (s.2.1:Int)]):=xf;revert s3 g3;generalize upd H2 qa (.tup [.int (s.1:Int),.int (s.2.1:Int)])=H3;intro s3 g3;refine⟨_,rfl,_,rfl,o,_,rfl,DPut.k (k:=.inr (ofL [s.2.2])) (s3 _ _ hko) (by rw[klo]; exact Z9 (by omega:_<=1000) (by decide)),?_⟩;have hv:valV ko (.inr (ofL [s.2.2]))=none:=by
     have:=ldo.is s.2.2;rw[decide_eq_false nin] at this;exact Option.isNone_iff_eq_none.mp (by rw[<- Option.not_isSome,this]; rfl)
    rw[xdc _ hv];have kp:∀ b u,b≠o->H3 b=some u->upd H3 o (.dK (ko++[(.inr (ofL [s.2.2]),.ref qa)])) b=some u:=fun b u nb e=>by rw[xh nb]; exact e
    have kt:Tups H3 (upd H3 o (.dK (ko++[(.inr (ofL [s.2.2]),.ref qa)]))):=fun b xs e=>kp _ _ (xai e (s3 _ _ hko) (fun z=>nomatch z)) e;refine q _ (fun b u nb _ e=>kp _ _ nb (s3 _ _ (s02 _ _ e))) ?_;rw[if_pos (by unfold outP; rw[r,c]; rfl),if_neg (by unfold innP; rw[r]; simp)];exact⟨⟨dx2,kp _ _ (xai ins2 hko (fun z=>nomatch z)) (s3 _ _ ins2)⟩,⟨_,xf,(((ldo.keep (Same.tups s3)).snoc g3).keep kt)⟩,⟨ki,kp _ _ (ZF ne) (s3 _ _ hki),(ldi.keep (Same.tups s3)).keep kt⟩,ne⟩
   .have r':=Jq.mpr r;have lie:lieB is s.1 s.2.1 s.2.2=true:=by
     unfold mayB at my;rw[if_neg r,c,JB] at my;rcases Y6 _ _▸my with z|z
     .exfalso;have z:=YR.mp z;have c':97<=s.2.2:=by
       unfold nmC at c;exact of_decide_eq_true (Zr _ _▸c).1
      have z:s.2.2=32\/s.2.2=124\/s.2.2=45\/s.2.2=43\/s.2.2=35:=by simpa using z
      have c2:s.2.2<=122:=by
       unfold nmC at c;exact of_decide_eq_true (Zr _ _▸c).2
      omega
     .exact z
    have nin:s.2.2∉is.map fun s=>s.2.2:=by
     unfold lieB at lie;exact of_decide_eq_true (Zr _ _▸lie).1
    refine⟨_,rfl,a,_,dx2,_,_,rfl,ins2,T.c_t,T.n_ba,ltI,_,rfl,_,rfl,(by show 2<=sizeLine; decide),fun qa hqa=>?_⟩;have s3:Same H2 (upd H2 qa (.tup [.int (s.1:Int),.int (s.2.1:Int)])):=xp (Same.refl _) hqa;have g3:upd H2 qa (.tup [.int (s.1:Int),.int (s.2.1:Int)]) qa=some (.tup [.int (s.1:Int),.int (s.2.1:Int)]):=xf;revert s3 g3;generalize upd H2 qa (.tup [.int (s.1:Int),.int (s.2.1:Int)])=H3;intro s3 g3;refine⟨_,rfl,_,rfl,i,_,rfl,DPut.k (k:=.inr (ofL [s.2.2])) (s3 _ _ hki) (by rw[kli]; exact Z9 (by omega:_<=1000) (by decide)),?_⟩;have hv:valV ki (.inr (ofL [s.2.2]))=none:=by
     have:=ldi.is s.2.2;rw[decide_eq_false nin] at this;exact Option.isNone_iff_eq_none.mp (by rw[<- Option.not_isSome,this]; rfl)
    rw[xdc _ hv];have kp:∀ b u,b≠i->H3 b=some u->upd H3 i (.dK (ki++[(.inr (ofL [s.2.2]),.ref qa)])) b=some u:=fun b u nb e=>by rw[xh nb]; exact e
    have kt:Tups H3 (upd H3 i (.dK (ki++[(.inr (ofL [s.2.2]),.ref qa)]))):=fun b xs e=>kp _ _ (xai e (s3 _ _ hki) (fun z=>nomatch z)) e;refine q _ (fun b u _ nb e=>kp _ _ nb (s3 _ _ (s02 _ _ e))) ?_;rw[if_neg (by unfold outP; rw[r']; simp),if_pos (by unfold innP; rw[r',c]; rfl)];exact⟨⟨dx2,kp _ _ (xai ins2 hki (fun z=>nomatch z)) (s3 _ _ ins2)⟩,⟨ko,kp _ _ ne (s3 _ _ hko),(ldo.keep (Same.tups s3)).keep kt⟩,⟨_,xf,(((ldi.keep (Same.tups s3)).snoc g3).keep kt)⟩,ne⟩
  .have c':=Jq.mpr c;refine q _ (fun b u _ _ e=>s1 _ _ e) ?_;rw[if_neg (by unfold outP; rw[c',Qh]; decide),if_neg (by unfold innP; rw[c',Qh]; decide)];exact lt1
end
theorem xit {α β:Type}{f:α->β}{l' m:List β} (p:l'.Perm m):∀{l:List α},m=l.map f->∃ l2:List α,l2.Perm l/\l'=l2.map f:=by
 induction p with
 | nil =>
  intro l e;have:l=[]:=YZ.mp e.symm;subst this;exact⟨[],.refl _,rfl⟩
 | cons x _ ih =>
  intro l e;cases l with
  | nil=>cases e
  | cons a l =>
   rw[Z2] at e;obtain⟨rfl,e2⟩:=JP.inj e;obtain⟨l2,p2,rfl⟩:=ih e2;exact⟨a::l2,p2.cons a,rfl⟩
 | swap x y r =>
  intro l e;cases l with
  | nil=>cases e
  | cons a l =>
   cases l with
   | nil=>cases e
   | cons b l =>
    rw[Z2,Z2] at e;obtain⟨rfl,e2⟩:=JP.inj e;obtain⟨rfl,rfl⟩:=JP.inj e2;exact⟨b::a::l,.swap a b l,rfl⟩
 | trans _ _ ih1 ih2 =>
  intro l e;obtain⟨k2,p2,rfl⟩:=ih2 e;obtain⟨k1,p1,rfl⟩:=ih1 rfl;exact⟨k1,p1.trans p2,rfl⟩
theorem xhd {i:Nat}{r:List Nat}{s:Sg}:s∈sgR i r↔s.1=i/\s.2.1<r.length/\s.2.2=r.getD s.2.1 0:=by
 unfold sgR;rw[Ze];constructor
 .rintro ⟨j,hj,rfl⟩;exact⟨rfl,ZN.mp hj,rfl⟩
 .rintro ⟨h1,h2,h3⟩;obtain⟨a,b,c⟩:=s
  dsimp only at h1 h2 h3
  exact⟨b,ZN.mpr h2,by rw[h1,h3]⟩
theorem xgb {G:List (List Nat)}{n:Nat}{s:Sg}:s∈sgsN G n↔s.1<n/\s.2.1<(G.getD s.1 []).length/\s.2.2=(G.getD s.1 []).getD s.2.1 0:=by
 unfold sgsN;rw[Yv];constructor
 .rintro ⟨i,hi,hs⟩;obtain⟨h1,h2,h3⟩:=xhd.mp hs;subst h1;exact⟨ZN.mp hi,h2,h3⟩
 .rintro ⟨h1,h2,h3⟩;exact⟨s.1,ZN.mpr h1,xhd.mpr ⟨rfl,h2,h3⟩⟩
theorem xdx {W:Nat}{G:List (List Nat)} (o:Txs W G) {s:Sg}:s∈sgs G↔s.1<G.length/\s.2.1<W/\s.2.2=(G.getD s.1 []).getD s.2.1 0:=by
 unfold sgs;rw[xgb];have l:s.1<G.length->(G.getD s.1 []).length=W:=fun h=>by
  rw[ZY,Zf h];exact o.wd _ (YT h)
 constructor
 .rintro ⟨h1,h2,h3⟩;exact⟨h1,by rw[<- l h1]; exact h2,h3⟩
 .rintro ⟨h1,h2,h3⟩;exact⟨h1,by rw[l h1]; exact h2,h3⟩
abbrev xq7 (a b:Sg):Prop:=¬ (a.1=b.1/\a.2.1=b.2.1)
theorem xf5 (G:List (List Nat)):∀ n,(sgsN G n).Pairwise xq7
 | 0=>by
  unfold sgsN;exact Yj.nil
 | n+1=>by
  have e:sgsN G (n+1)=sgsN G n++sgR n (G.getD n []):=by
   unfold sgsN;rw[JS,Qa,QF]
  rw[e,JE];refine⟨xf5 G n,?_,fun a ha b hb=>?_⟩
  .unfold sgR;rw[ZH];exact Yu.imp fun ne z=>ne z.2
  .have h1:=(xgb.mp ha).1;have h2:=(xhd.mp hb).1;intro z;omega
def inns (w:Nat) (G:List (List Nat)):List Sg:=(sgs G).filter (innP (w+1))
def outs (w:Nat) (G:List (List Nat)):List Sg:=(sgs G).filter (outP (w+1))
def rims (w:Nat) (G:List (List Nat)):List Sg:=(sgs G).filter fun s=>rimB (w+1) s.2.1&&decide (s.2.2≠32)
abbrev InNe (a b:Sg):Prop:=a.2.2≠b.2.2/\a.1≠b.1/\a.2.1≠b.2.1
structure xca (w:Nat) (G:List (List Nat)):Prop where
 tx:Txs (w+2) G
 sg:∀ s∈sgs G,nmC s.2.2=false->if rimB (w+1) s.2.1=true then s.2.2=32\/s.2.2=46 else s.2.2∈([32,124,45,43,35]:List Nat)
 in1:(inns w G).Pairwise InNe
 in2:(inns w G).length<=12
 ou1:((outs w G).map fun s=>s.2.2).Nodup
 ou2:∀ s∈outs w G,s.2.2∈(inns w G).map fun s=>s.2.2
theorem xtv {α:Type}{l:List α}{k:Nat}{x:α} (h:l[k]?=some x):l=l.take k++x::l.drop (k+1):=by
 obtain⟨hk,rfl⟩:=Zj.mp h;rw[<- Qn hk,QR]
theorem xh1 {α:Type}{l:List α}{k:Nat}{x:α} (h:l[k]?=some x) {p:α->Bool} (hp:p x=true):l.filter p=(l.take k).filter p++x::(l.drop (k+1)).filter p:=by
 have e:=congrArg (List.filter p) (xtv h);rw[Jw,Ji hp] at e;exact e
theorem xsr {w:Nat}{G:List (List Nat)} (g:xca w G) {k:Nat}{s:Sg} (h:(sgs G)[k]?=some s):mayB (w+1) (((sgs G).take k).filter (outP (w+1))) (((sgs G).take k).filter (innP (w+1))) s=true:=by
 have ms:=Zo h;have sg:=g.sg s ms;unfold mayB;by_cases r:rimB (w+1) s.2.1=true
 .rw [if_pos r];rw[if_pos r] at sg;cases n:nmC s.2.2 with
  | false =>
   rcases sg n with z|z
   .rw [decide_eq_true z];rfl
   .rw [decide_eq_true z,JK];rfl
  | true =>
   have e:=g.ou1;unfold outs at e;rw[xh1 h (by unfold outP; rw[r,n]; rfl),Z8,Z2,ZU] at e;have ni:s.2.2∉((sgs G).take k |>.filter (outP (w+1))).map fun s=>s.2.2:=fun z=>e.2.2 _ z _ Zz rfl;rw[decide_eq_true ni,Bool.and_true,JK]
 .rw [if_neg r];rw[if_neg r] at sg;have r':=Jq.mpr r;cases n:nmC s.2.2 with
  | false =>
   rw[YR.mpr (sg n)];rfl
  | true =>
   have pos:innP (w+1) s=true:=by unfold innP; rw[r',n]; rfl
   have e:=g.in1;have e2:=g.in2;unfold inns at e e2;rw[xh1 h pos,JE] at e;rw[xh1 h pos,Zp,ZL] at e2;have all:∀ a∈((sgs G).take k).filter (innP (w+1)),InNe a s:=fun a ha=>e.2.2 a ha s Zz;have ni:s.2.2∉((sgs G).take k |>.filter (innP (w+1))).map fun s=>s.2.2:=fun z=>by
    obtain⟨a,ha,ea⟩:=Ze.mp z;exact (all a ha).1 ea
   have nf:(((sgs G).take k).filter (innP (w+1))).filter (fun z=>decide (z.1=s.1)||decide (z.2.1=s.2.1))=[]:=by
    rw[Yf];intro a ha z;rcases Y6 _ _▸z with z|z
    .exact (all a ha).2.1 (of_decide_eq_true z)
    .exact (all a ha).2.2 (of_decide_eq_true z)
   have lie:lieB (((sgs G).take k).filter (innP (w+1))) s.1 s.2.1 s.2.2=true:=by
    unfold lieB;rw[decide_eq_true ni,decide_eq_true nf,decide_eq_true (by omega)];rfl
   rw[lie,Bool.and_true,JK]
theorem xfp {α:Type}{l:List α}{k:Nat}{x:α} (h:l[k]?=some x) (p:α->Bool):(l.take (k+1)).filter p=if p x then (l.take k).filter p++[x] else (l.take k).filter p:=by
 rw[ZT,h,Jw];cases e:p x with
 | true =>
  rw[if_pos rfl,show (some x).toList=[x] from rfl,Ji e];rfl
 | false =>
  rw[if_neg (by decide),show (some x).toList=[x] from rfl,Jr (by rw[e]; decide),List.filter_nil,JG]
def nmLt (a b:Sg):Prop:=a.2.2<b.2.2
theorem xfo:∀(p:Sg) (es:List Sg),risingS (ofL [p.2.2]) (es.map fun s=>ofL [s.2.2])=true->(∀ s∈es,p.2.2<=s.2.2)/\es.Pairwise fun a b=>a.2.2<=b.2.2
 | p,[],_=>⟨fun _ z=>(nomatch z),.nil⟩
 | p,x::r,h=>by
  rw[Z2] at h;unfold risingS at h;rw[Zr,xar,xar] at h;obtain⟨h1,h2⟩:=h;obtain⟨i1,i2⟩:=xfo x r h2;have le:p.2.2<=x.2.2:=by
   simp[ZE.ltCps] at h1;omega
  refine⟨fun s hs=>?_,Qj.mpr ⟨i1,i2⟩⟩;rcases Z1.mp hs with z|z
  .rw [z];exact le
  .exact Zs le (i1 s z)
theorem xht {es:List Sg} (h:sortedS (es.map fun s=>ofL [s.2.2])=true) (nd:(es.map fun s=>s.2.2).Nodup):es.Pairwise nmLt:=by
 have le:es.Pairwise fun a b=>a.2.2<=b.2.2:=by
  cases es with
  | nil=>exact .nil
  | cons x r =>
   obtain⟨i1,i2⟩:=xfo x r h;exact Qj.mpr ⟨i1,i2⟩
 rw[JU,ZH] at nd;exact (le.and nd).imp fun z=>Nat.lt_of_le_of_ne z.1 z.2
theorem xlc:∀ cs:List Nat,YE (Zc "") (cs.map fun n=>ofL [n])=ofL cs
 | []=>rfl
 | [c]=>rfl
 | c::d::r=>by
  apply xda;have ih:=xlc (d::r);show (ofL [c]++Zc ""++YE (Zc "") ((d::r).map fun n=>ofL [n])).cps.toList=_;rw[ih,xbv,xbv,xar,xar,xar];rfl
def One (m:Cl->Option Str):Prop:=∀ c s,m c=some s->s.length=1
def cd (m:Cl->Option Str) (c:Cl):Nat:=match m c with
 | some s=>s.cps.toList.headD 32
 | none=>32
theorem xvl {m:Cl->Option Str} (o:One m) (c:Cl):(m c).getD (Zc " ")=ofL [cd m c]:=by
 unfold cd;cases e:m c with
 | none=>rfl
 | some s =>
  have l:=o c s e;show s=ofL [s.cps.toList.headD 32];apply xda;rw[xar];have l2:s.cps.toList.length=1:=by simpa [YS] using l
  cases h:s.cps.toList with
  | nil=>rw[h] at l2; cases l2
  | cons x r =>
   rw[h] at l2;have:r=[]:=by simpa using l2
   rw[this];rfl
def rowC (w:Nat) (r:Int) (m:Cl->Option Str):List Nat:=(Z3 (w+2)).map fun (j:Nat)=>cd m ((j:Int),r)
theorem xl4 {m:Cl->Option Str} (o:One m) (w:Nat) (r:Int):rowT w r m=ofL (rowC w r m):=by
 unfold rowT rowC;rw[<- xlc,Z7]
 congr 1
 exact JY fun j _=>xvl o _
def xdm (w h:Nat) (m:Cl->Option Str):List (List Nat):=(Z3 h).map fun (i:Nat)=>rowC w (1+(i:Int)) m
theorem xgp {m:Cl->Option Str} (o:One m) (w h:Nat):xfv w h m=GV (xdm w h m):=by
 unfold xfv GV xdm;rw[Z7];exact JY fun i _=>by
  show V.str (rowT w (1+(i:Int)) m)=V.str (ofL (rowC w (1+(i:Int)) m));rw[xl4 o]
theorem TL.get {α:Type}{f:α->List V}{H:Hp}{as:List α}{qs:List Addr} (h:TL f H as qs) {i:Nat}{q:Addr} (e:qs[i]?=some q):∃ a,as[i]?=some a/\H q=some (.tup (f a)):=h.2 i q e
def toPt (h:Nat) (s:Sg):Pt:=⟨ofL [s.2.2],(s.2.1:Int),(s.1:Int)+1, "both",1,(h:Int)⟩
def xah (s:Sg):Seat:=(xfq s.2.1,(s.1:Int)+1)
theorem xrk {w:Nat}{G:List (List Nat)} (o:Txs (w+2) G) {s:Sg} (h:s∈inns w G):s∈sgs G/\nmC s.2.2=true/\1<=s.2.1/\s.2.1<=w/\s.1<G.length:=by
 obtain⟨h1,h2⟩:=ZJ.mp h;unfold innP rimB at h2;obtain⟨r1,r2,_⟩:=(xdx o).mp h1;simp only[Zr,Yo,Bool.or_eq_false_iff,decide_eq_false_iff_not] at h2;exact⟨h1,h2.2,by omega,by omega,r1⟩
theorem xeu {lc j:Nat} (h:rimB lc j=true):j=0\/j=lc:=by
 unfold rimB at h;simpa using h
theorem xhz {α β:Type}{R:α->α->Prop}{f:α->β}{l:List α} (h:l.Pairwise R) (k:∀ a b,R a b->f a≠f b):(l.map f).Nodup:=by
 rw[JU,ZH];exact h.imp fun {a b} z=>k a b z
theorem xex {w:Nat}{G:List (List Nat)} (g:xca w G) {es:List Sg} (pe:es.Perm (inns w G)):xcs (w:Int) (G.length:Int) (es.map (toPt G.length)):=by
 have nd:∀{β:Type} (f:Pt->β),(∀ a b:Sg,InNe a b->f (toPt G.length a)≠f (toPt G.length b))->((es.map (toPt G.length)).map f).Nodup:=fun f hf=>by
  rw[Z7];exact (pe.map _).nodup_iff.mpr (xhz (f:=f∘toPt G.length) g.in1 hf)
 refine⟨fun p hp=>?_,nd _ fun a b z e=>z.1 (xdk e),nd _ fun a b z e=>z.2.2 ?_,nd _ fun a b z e=>z.2.1 ?_,?_⟩
 .obtain ⟨s,hs,rfl⟩:=Ze.mp hp;obtain⟨_,i2,i3,i4,i5⟩:=xrk g.tx (pe.mem_iff.mp hs);have h1:=g.tx.h1;exact⟨by rw[show (toPt G.length s).nm=ofL [s.2.2] from rfl,xhw,i2],by show (1:Int)<=(s.2.1:Int); omega,by show (s.2.1:Int)<=_; omega,by show (1:Int)<=(s.1:Int)+1; omega,by show (s.1:Int)+1<=_; omega,.inr (.inr rfl),by show (1:Int)<=1; omega,by show (1:Int)<=(G.length:Int); omega,by show (G.length:Int)<=_; omega⟩
 .have e:(a.2.1:Int)=(b.2.1:Int):=e;omega
 .have e:(a.1:Int)+1=(b.1:Int)+1:=e;omega
 .rw [Za,pe.length_eq];exact g.in2
theorem xlx {w:Nat}{a b:Sg} (ra:rimB (w+1) a.2.1=true) (rb:rimB (w+1) b.2.1=true) (ne:xq7 a b):xah a≠xah b:=fun e=>by
 have e1:decide (a.2.1=0)=decide (b.2.1=0):=(JA.inj e).1;have e2:(a.1:Int)+1=(b.1:Int)+1:=(JA.inj e).2;rw[decide_eq_decide] at e1;refine ne ⟨by omega,?_⟩;rcases xeu ra with x|x<;>rcases xeu rb with y|y<;>omega
theorem xe0 {α:Type}{R S:α->α->Prop}{p:α->Bool}{l:List α} (h:l.Pairwise R) (k:∀ a b,p a=true->p b=true->R a b->S a b):(l.filter p).Pairwise S:=by
 have z:=(h.filter p)
 refine Yj.imp_of_mem ?_ z;intro a b ha hb r;exact k a b (ZJ.mp ha).2 (ZJ.mp hb).2 r
theorem xm4 {w:Nat}{G:List (List Nat)} (g:xca w G):SsOk (G.length:Int) ((rims w G).map xah):=by
 have nd:((rims w G).map xah).Nodup:=by
  refine xhz (R:=fun a b=>xah a≠xah b) ?_ fun _ _ z=>z;refine xe0 (xf5 G _) fun a b ha hb z=>?_;exact xlx (Zr _ _▸ha).1 (Zr _ _▸hb).1 z
 have bd:∀ s∈(rims w G).map xah,1<=s.2/\s.2<=(G.length:Int):=fun s hs=>by
  obtain⟨z,hz,rfl⟩:=Ze.mp hs;have:=((xdx g.tx).mp (ZJ.mp hz).1).1;exact⟨by show (1:Int)<=(z.1:Int)+1; omega,by show (z.1:Int)+1<=_; omega⟩
 refine⟨nd,?_,bd⟩;have h2:=g.tx.h2;have:=nd.length_le_of_subset (l₂:=xaw true G.length++xaw false G.length) fun s hs=>xsg (bd s hs);have e:(xaw true G.length++xaw false G.length).length=G.length+G.length:=by
  unfold xaw;rw[Zp,Za,Za,Zt]
 omega
theorem xlj {w:Nat}{G:List (List Nat)} (g:xca w G):((inns w G).map fun s=>s.2.2).Nodup:=xhz g.in1 fun _ _ z=>z.1
def xou (t:Adr):Sp:=fun vs H Q _=>∃(l a o i:Addr) (w:Nat) (G:List (List Nat)),vs=[.ref l,.ref a]/\H l=some (.lst (GV G))/\Let t H a o i (w+1) (outs w G) (inns w G)/\xca w G/\∀(H':Hp) (b dp do_:Addr) (es:List Sg),Same H H'->H b=none->H dp=none->es.Perm (inns w G)->es.Pairwise nmLt->Pic t H' b dp do_ (w:Int) (G.length:Int) (es.map (toPt G.length))->Sts H' do_ ((rims w G).map xah)->Q (.ref b) H'
section
variable {P:Program}{w:World}{K:Zd}{mg:Str->Option Value}{base:Heap}{t:Adr}
theorem ok_aj (T:Txt w K mg t):FnOk true P w K mg base (CXo P w) 7 t.f_aj t.d_aj ["rows", "letters"] (xou t):=by
 refine T.F_aj.okn (k:=6) sc_aj (fun vs H Q E h=>?_) (fun cdv A outer s H vs Q E hr h=>?_)
 .obtain ⟨l,a,o,i,w',G,rfl,_⟩:=h;rfl
 .obtain ⟨l,a,o,i,w',G,rfl,h⟩:=h;refine⟨_,xk (xw (i:=2) sc_aj.nd rfl (J8 rfl) (x8 xbf rfl T.n_len Jy (xb (pv 0) (xg))))
   (xk (xch rfl (xbh (zs:=["name"]) (ys:=["height", "letters"]) (fr:=[2,1]) (N0:=["rows", "letters", "height", "points", "seats"]) (sc0:=xo s_aj) (by decide +kernel) rfl rfl rfl) (xa0 (x8 (xfs rfl) rfl T.n_sorted PyProof.Rows.Boot.«sorted» (xb (xaa (pv 1) rfl) (xg)))) (fun _ _ _ _ _ ow nd=>xq (i:=0) nd rfl (Zn (ow _ (by simp))) (J8 (ow _ (by simp)))) (xbz (by decide)) (fun _ _ _ _ _=>xbu) (fun _ _ _ _ _=>xaj (xz (pv 0) (xz (xab (r:=rIxT K) xbq (xf8 (xbo hr) ((xaa (pv 2) rfl:PE _ _ (tFld K _ _))) (pv 0) (fun _ _=>rfl)) (xj) (fun _ _=>rfl)) (xz (xt xan (xab (r:=rIxT K) xbq (xf8 (xbo hr) ((xaa (pv 2) rfl:PE _ _ (tFld K _ _))) (pv 0) (fun _ _=>rfl)) (xj) (fun _ _=>rfl)) (xj)) (xz (xaf) (xz (xj) (xz (pv 1) (xg) rfl) rfl) rfl) rfl) rfl) rfl)) (j:=3) rfl (Zn rfl))
   (xk (xch rfl (xbh (zs:=["row", "column", "sign"]) (ys:=["letters"]) (fr:=[1]) (N0:=["rows", "letters", "height", "points", "seats"]) (sc0:=xo s_aj) (by decide +kernel) rfl rfl rfl) (xa0 (xu (ok_ax T) (hr.mono (by decide)) rfl T.g_ax T.F_ax.kp T.b_ax .nil xn (xb (pv 0) (xg)))) (fun _ _ _ _ _ ow nd=>(xap rfl (xr (xq (i:=0) nd rfl (Zn (ow _ (by simp))) (J8 (ow _ (by simp)))) (xr (xq (i:=1) nd rfl (Zn (ow _ (by simp))) (J8 (ow _ (by simp)))) (xr (xq (i:=2) nd rfl (Zn (ow _ (by simp))) (J8 (ow _ (by simp)))) (xag)))):PG _ _ (gTup K 3 _))) (xes (xbk (by decide) (xbk (by decide) (xbk (by decide) (xd6))))) (fun _ _ _ _ _=>xic (PW.pt (xdq (xas (xat (pv 3) T.c_t T.m_k (ok_k T) (hr.mono (by decide)) T.b_k .nil xn (xb (pv 1) (xg)))) (xdd (x5 xjl (pv 2) (xaf) (x6 _)))))) (fun _ _ _ _ _=>xu (ok_a5 T) (hr.mono (by decide)) rfl T.g_a5 T.F_a5.kp T.b_a5 .nil xn (xb (xaj (xb (pv 0) (xb (pv 1) (xg)))) (xg))) (j:=4) rfl (Zn rfl))
   (xm (x0 (xu (ok_aa T) (hr.mono (by decide)) rfl T.g_aa T.F_aa.kp T.b_aa .nil xn (xb (xt xer (xaa (pv 1) rfl) (xj)) (xb (pv 2) (xb (pv 3) (xb (pv 4) (xg)))))))))),?_⟩
  obtain⟨hl,lt,g,q⟩:=h;have tx:=g.tx;have h1:=tx.h1;have h2:=tx.h2;have w1:=tx.w1;have w2:=tx.w2;have in2:=g.in2;obtain⟨⟨dx,ins⟩,_,⟨kvs,hk,ld⟩,_⟩:=id lt;refine⟨_,rfl,l,_,rfl,.inl (SqL.of hl),?_⟩;rw[xcj];refine⟨_,rfl,a,_,dx,_,_,rfl,ins,T.c_t,T.n_ba,ltI,i,(inns w' G).map (fun s=>ofL [s.2.2]),rfl,.inr ⟨kvs,hk,ld.keys⟩,(by rw[Za]; omega),fun ls ns hls pm srt=>?_⟩;obtain⟨es,pe,rfl⟩:=xit pm rfl;have nde:=(pe.map fun s=>s.2.2).nodup_iff.mpr (xlj g);have lt':=xht srt nde;have el:=pe.length_eq;have s1:Same H (upd H ls (.lst ((es.map fun s=>ofL [s.2.2]).map V.str))):=xp (Same.refl _) hls;have g1:upd H ls (.lst ((es.map fun s=>ofL [s.2.2]).map V.str)) ls=some (.lst ((es.map fun s=>ofL [s.2.2]).map V.str)):=xf;revert s1 g1;generalize upd H ls (.lst ((es.map fun s=>ofL [s.2.2]).map V.str))=H1;intro s1 g1;refine⟨ls,rfl,⟨_,SqL.of g1⟩,fun l1 hl1=>?_⟩;refine xem (SqL.of g1) (by rw[Za,Za]; exact Z9 (by omega:_<=1000) (by decide)) hl1 (fun j y H5=>∃ q s,y=.ref q/\es[j]?=some s/\H5 q=some (.tup (.str (toPt G.length s).nm::ptV (toPt G.length s)))) (fun j y H5 H6 tp ⟨q,s,e1,e2,e3⟩=>⟨q,s,e1,e2,tp _ _ e3⟩) (fun j x H5 hx s5 N hN=>?_) (fun ys H5 s5 e5 ly fy=>?_)
  .rw [Zh,Zh] at hx;obtain⟨x2,hx2,rfl⟩:=Zl.mp hx;obtain⟨s,hs,rfl⟩:=Zl.mp hx2;have s05:=s1.trans s5;have ins5:=s05 _ _ ins;have hk5:=s05 _ _ hk;obtain⟨qa,hv,hq⟩:=(ld.keep (Same.tups s05)).at_ (pe.mem_iff.mp (Zo hs)) (xlj g);have dg:=DGet.k (k:=.inr (ofL [s.2.2])) hk5;rw[hv] at dg;refine⟨_,rfl,_,rfl,a,_,dx,_,_,rfl,ins5,T.c_t,T.n_ba,ltI,_,rfl,i,_,rfl,dg,qa,_,1,.int (s.2.1:Int),rfl,rfl,SqT.of hq,rfl,?_⟩;refine⟨_,rfl,a,_,dx,_,_,rfl,ins5,T.c_t,T.n_ba,ltI,_,rfl,i,_,rfl,dg,qa,_,0,.int (s.1:Int),rfl,rfl,SqT.of hq,rfl,_,_,rfl,rfl,_,rfl,(by show 6<=sizeLine; decide),fun u hu=>hN _ _ (xp (Same.refl _) hu) ⟨u,s,rfl,hs,?_⟩⟩;rw[xf];rfl
  rw[Za,Za] at ly;obtain⟨rs,rfl,ptl⟩:=PtsL.pick (H:=H5) (ps:=es.map (toPt G.length)) (ys:=ys) (by rw[ly,Za]) (fun j y p hy hp=>by
   obtain⟨q,s,e1,e2,e3⟩:=fy j y hy;rw[Zh,e2] at hp;cases hp;exact⟨q,e1,e3⟩)
  have s05:=s1.trans s5;have lt5:=lt.same s05;refine⟨_,rfl,l,w'+2,G,rfl,s05 _ _ hl,tx,fun H6 l6 qs s6 f6 e6 tl6=>⟨l6,rfl,⟨_,SqL.of e6⟩,fun l7 hl7=>?_⟩⟩;have qll:=tl6.1;have gll:=xe8 tx G.length (Zi _);have b512:G.length*(w'+2)<=16*32:=Qe h2 w2;have gl2:(sgs G).length<=512:=by unfold sgs; omega
  have lt6:=lt5.same s6;refine xhe (SqL.of e6) (by rw[Za]; exact Z9 (by omega:_<=1000) (by decide)) hl7 (fun k=>(((sgs G)[k]?).map fun s=>rimB (w'+1) s.2.1&&decide (s.2.2≠32)).getD false) (fun k y H8=>∃ q s,y=.ref q/\(sgs G)[k]?=some s/\H8 q=some (.tup (xcq (xah s)))) (fun j y H5 H6 tp ⟨q,s,e1,e2,e3⟩=>⟨q,s,e1,e2,tp _ _ e3⟩) (fun k x H8 hx s8 N M hN hM=>?_) (fun ys H8 s8 e8 ly8 fy8=>?_)
  .rw [Zh,Zl] at hx;obtain⟨qa,hqa,rfl⟩:=hx;obtain⟨s,hs,hq⟩:=tl6.get hqa;have lt8:=lt6.same s8;obtain⟨⟨dx8,ins8⟩,_⟩:=id lt8;refine⟨qa,_,rfl,SqT.of (s8 _ _ hq),rfl,_,_,rfl,_,_,rfl,_,_,rfl,rfl,?_⟩;refine⟨_,rfl,a,dx8,_,rfl,ins8,xfa (by decide +kernel),_,rfl,a,o,i,w'+1,_,_,s.2.1,rfl,lt8,fun H9 s9=>⟨_,rfl,ite2 (fun c=>?_) (fun c=>?_)⟩⟩
   .refine ⟨_,rfl,rfl,_,rfl,ite2 (fun c2=>?_) (fun c2=>?_)⟩
    .have n32:s.2.2≠32:=fun z=>by
      rw[z] at c2;exact absurd c2 (by decide)
     refine⟨_,rfl,_,rfl,(by show 2<=sizeLine; decide),fun p hp=>⟨p,s.1,s.2.1,rfl,xf,fun H10 q10 s10 f10 e10=>hN _ _ (s9.trans (fun b u e=>s10 _ _ (xp (Same.refl _) hp _ _ e))) ?_ ⟨q10,s,rfl,hs,e10⟩⟩⟩;rw[hs];show (rimB (w'+1) s.2.1&&decide (s.2.2≠32))=true;rw[c,decide_eq_true n32];rfl
    .have n32:s.2.2=32:=by
      by_cases z:s.2.2=32
      .exact z
      .have y:¬ sgn s.2.2=V.str (Zc " "):=fun y=>z (xdk (d:=32) (V.str.inj y));exact absurd (by rw[decide_eq_false y]; rfl) c2
     refine hM _ s9 ?_;rw[hs];show (rimB (w'+1) s.2.1&&decide (s.2.2≠32))=false;rw[decide_eq_false (fun z=>z n32),Qh]
   .refine iteF (hM _ s9 ?_);rw[hs];show (rimB (w'+1) s.2.1&&decide (s.2.2≠32))=false;rw[Jq.mpr c,JD]
  have ix:=xsc (fun s:Sg=>rimB (w'+1) s.2.1&&decide (s.2.2≠32)) (as:=sgs G) (p:=fun k=>(((sgs G)[k]?).map fun s=>rimB (w'+1) s.2.1&&decide (s.2.2≠32)).getD false) (fun k s hs=>by rw[hs]; rfl);rw[Za,qll] at ly8 fy8;obtain⟨rs8,rfl,stl⟩:=xac.pick (H:=H8) (ss:=(rims w' G).map xah) (ys:=ys) (by rw[ly8,ix.1,Za]; rfl) (fun j y z hy hz=>by
   obtain⟨k,hk⟩:∃ k,((Z3 (sgs G).length).filter fun k=>(((sgs G)[k]?).map fun s=>rimB (w'+1) s.2.1&&decide (s.2.2≠32)).getD false)[j]?=some k:=⟨_,Zf (by rw[<- ly8]; exact (Zj.mp hy).1)⟩
   obtain⟨q,s,e1,e2,e3⟩:=fy8 j y k hy hk;rw[ix.2 j k hk] at e2;rw[Zh,show (rims w' G)[j]?=some s from e2] at hz;cases hz;exact⟨q,e1,e3⟩)
  have s58:=s6.trans s8;have s08:=s05.trans s58;obtain⟨⟨dx8,ins8⟩,_⟩:=id (lt6.same s8);have pok:=xex g pe;have ew:((w'+1:Nat):Int)-1=(w':Int):=by omega
  refine⟨_,rfl,a,_,dx8,_,_,rfl,ins8,T.c_t,T.n_bb,ltL,_,_,rfl,rfl,_,rfl,_,rfl,_,rfl,?_⟩;refine⟨(w':Int),(G.length:Int),l1,l7,es.map (toPt G.length),rs,(rims w' G).map xah,rs8,by show [V.int (((w'+1:Nat):Int)-1),V.int (G.length:Int),V.ref l1,V.ref l7]++[]=_; rw[ew]; rfl,⟨by omega,by omega,by omega,by omega⟩,s58 _ _ e5,ptl.keep (Same.tups s58),pok,e8,stl,xm4 g,fun H' b dp do_ s' fb fdp _ pic st=>?_⟩;exact q H' b dp do_ es (s08.trans s') (s08.free fb) (s08.free fdp) pe lt' pic st
end
theorem xlq (G:List (List Nat)):∀ n,(sgsN G n).Pairwise fun a b=>a.1<b.1\/(a.1=b.1/\a.2.1<b.2.1)
 | 0=>by
  unfold sgsN;exact Yj.nil
 | n+1=>by
  have e:sgsN G (n+1)=sgsN G n++sgR n (G.getD n []):=by
   unfold sgsN;rw[JS,Qa,QF]
  rw[e,JE];refine⟨xlq G n,?_,fun a ha b hb=>?_⟩
  .unfold sgR;rw[ZH];exact List.pairwise_lt_range.imp fun z=>.inr ⟨rfl,z⟩
  .have h1:=(xgb.mp ha).1;have h2:=(xhd.mp hb).1;exact .inl (by omega)
theorem xki {α:Type} (p:α->Bool):∀ l:List α,(l.filter p++l.filter fun x=>!p x).Perm l
 | []=>.refl _
 | x::l=>by
  have ih:=xki p l;cases e:p x with
  | true =>
   rw[Ji e,Jr (by rw[e]; decide)];exact ih.cons x
  | false =>
   rw[Jr (by rw[e]; decide),Ji (by rw[e]; rfl)];exact List.perm_middle.trans (ih.cons x)
def rimS (w:Nat) (G:List (List Nat)):List Seat:=(rims w G).map xah
def srtS (w:Nat) (G:List (List Nat)):List Seat:=(rimS w G).filter (fun s=>s.1)++(rimS w G).filter fun s=>!s.1
theorem xjx (w:Nat) (G:List (List Nat)):(srtS w G).Perm (rimS w G):=xki _ _
theorem xuf (w:Nat) (G:List (List Nat)):(srtS w G).Pairwise xby:=by
 have base:(rimS w G).Pairwise fun a b=>a.1=b.1->a.2<b.2:=by
  unfold rimS rims;rw[ZH];refine xe0 (xlq G _) fun a b ha hb z e=>?_;have e:decide (a.2.1=0)=decide (b.2.1=0):=e;rw[decide_eq_decide] at e;have ra:=xeu (Zr _ _▸ha).1;have rb:=xeu (Zr _ _▸hb).1;show (a.1:Int)+1<(b.1:Int)+1;omega
 unfold srtS;rw[JE];refine⟨xe0 base fun a b ha hb z=>.inr ⟨by rw[ha,hb],z (by rw[ha,hb])⟩,xe0 base fun a b ha hb z=>?_,fun a ha b hb=>.inl ⟨(ZJ.mp ha).2,by simpa using (ZJ.mp hb).2⟩⟩;have e:a.1=b.1:=by
  have ha:a.1=false:=by simpa using ha
  have hb:b.1=false:=by simpa using hb
  rw[ha,hb]
 exact .inr ⟨e,z e⟩
def toPr (w:Nat) (G:List (List Nat)) (s:Sg):Pr:=(toPt G.length (((inns w G).find? fun z=>decide (z.2.2=s.2.2)).getD s),xah s)
theorem xeq {w:Nat}{G:List (List Nat)} (g:xca w G) {s:Sg} (h:s∈outs w G):s∈sgs G/\nmC s.2.2=true/\rimB (w+1) s.2.1=true/\∃ z∈inns w G,z.2.2=s.2.2/\toPr w G s=(toPt G.length z,xah s):=by
 obtain⟨h1,h2⟩:=ZJ.mp h;unfold outP at h2;obtain⟨h3,h4⟩:=Zr _ _▸h2;refine⟨h1,h4,h3,?_⟩;obtain⟨y,hy,ey⟩:=Ze.mp (g.ou2 s h);cases e:(inns w G).find? fun z=>decide (z.2.2=s.2.2) with
 | none=>exact absurd (decide_eq_true ey) (by have:=List.find?_eq_none.mp e y hy; exact this)
 | some z =>
  have ez:z.2.2=s.2.2:=by
   have y:=List.find?_some e;simpa using y
  exact⟨z,Yy e,ez,by unfold toPr; rw[e]; rfl⟩
theorem xhv {w:Nat}{G:List (List Nat)} (g:xca w G) {es fs:List Sg} (pe:es.Perm (inns w G)) (pf:fs.Perm (outs w G)):xhc (w:Int) (G.length:Int) (es.map (toPt G.length)) (fs.map (toPr w G)):=by
 have pok:=xex g pe;have ou:=g.ou1;have in2:=g.in2;refine⟨fun p hp=>?_,?_,?_,?_⟩
 .obtain ⟨s,hs,rfl⟩:=Ze.mp hp;obtain⟨o1,o2,o3,z,hz,ez,et⟩:=xeq g (pf.mem_iff.mp hs);rw[et];have mem:toPt G.length z∈es.map (toPt G.length):=Ze.mpr ⟨z,pe.mem_iff.mpr hz,rfl⟩;have po:=pok.ok _ mem;have r:=((xdx g.tx).mp o1).1;exact⟨po.nm,xh9 pok.nn mem,by show (1:Int)<=(s.1:Int)+1; omega,by show (s.1:Int)+1<=_; omega,po.x1,po.x2,po.y1,po.y2⟩
 .rw [Z7];have e:(outs w G).Pairwise fun a b=>xah a≠xah b:=by
   refine xe0 (xf5 G _) fun a b ha hb z=>?_;unfold outP at ha hb;exact xlx (Zr _ _▸ha).1 (Zr _ _▸hb).1 z
  exact (pf.map _).nodup_iff.mpr (xhz (f:=fun s=>(toPr w G s).2) e fun _ _ z=>z)
 .rw [Za,pf.length_eq];have z:=xm9 ou fun x hx=>by
   obtain⟨s,hs,rfl⟩:=Ze.mp hx;exact g.ou2 s hs
  rw[Za,Za] at z;omega
 .rw [Z7];have e:((outs w G).map fun s=>(toPr w G s).1.nm)=((outs w G).map fun s=>s.2.2).map fun c=>ofL [c]:=by
   rw[Z7];refine JY fun s hs=>?_;obtain⟨_,_,_,z,_,ez,et⟩:=xeq g hs;rw[et];show ofL [z.2.2]=ofL [s.2.2];rw[ez]
  refine (pf.map _).nodup_iff.mpr ?_;show ((outs w G).map fun s=>(toPr w G s).1.nm).Nodup;rw[e];exact Drw.nd_map (fun a b e=>xdk e) ou
theorem xgy {w:Int}{ps:List Pt}{ss:List Seat}{prs:List Pr} (h1:∀ p∈ps,isNm p.nm=true) (h2:∀ p∈prs,isNm p.1.nm=true):One (xdz w ps ss prs):=by
 have no:∀(c:Cl) (s:Str),(Drw.no:Cl->Option Str) c=some s->s.length=1:=fun _ _ e=>nomatch e;have nl:∀ s:Str,isNm s=true->s.length=1:=fun s h=>by
  unfold isNm at h;exact of_decide_eq_true (Zr _ _▸h).1
 have n1:=xb0 (P:=fun s=>s.length=1) (L:=xb3 w ss) no (fun x hx=>by
  obtain⟨z,_,rfl⟩:=Ze.mp hx;show (Zc ".").length=1;decide +kernel)
 have n2:=xb0 (P:=fun s=>s.length=1) (L:=xbp w prs) n1 (fun x hx=>by
  obtain⟨z,hz,rfl⟩:=Ze.mp hx;exact nl _ (h2 z hz))
 have n3:=xds (P:=fun s=>s.length=1) (hs:=hsS) (by unfold hsS; decide +kernel) (L:=prs.flatMap (ledS w)) no (fun x hx=>by
  obtain⟨p,_,hx⟩:=Yv.mp hx;obtain⟨c,_,rfl⟩:=Ze.mp hx;show (lsS p.1.x p.2.2 c).length=1;unfold lsS Drw.ls;split
  .decide +kernel
  .split<;>decide +kernel)
 intro c s e;refine xb0 (P:=fun s=>s.length=1) (L:=ptsS ps) (fun c s e=>?_) (fun x hx=>by
  obtain⟨z,hz,rfl⟩:=Ze.mp hx;exact nl _ (h1 z hz)) c s e
 cases e1:Drw.sets (Drw.sets Drw.no (xb3 w ss)) (xbp w prs) c with
 | some y =>
  rw[e1] at e;cases e;exact n2 c _ e1
 | none =>
  rw[e1,Option.none_or] at e;exact n3 c s e
def xjh (w:Nat) (G:List (List Nat)):Prop:=∀ es fs:List Sg,es.Perm (inns w G)->fs.Perm (outs w G)->∀ s∈sgs G,cd (xdz w (es.map (toPt G.length)) (srtS w G) (fs.map (toPr w G))) ((s.2.1:Int),1+(s.1:Int))=s.2.2
structure xji (t:Adr) (H:Hp) (q b dp do_ lp:Addr) (ts:List Addr) (w:Nat) (G:List (List Nat)) (es fs:List Sg):Prop where
 pe:es.Perm (inns w G)
 le:es.Pairwise nmLt
 pf:fs.Perm (outs w G)
 lf:fs.Pairwise nmLt
 q:H q=some (.tup [.ref b,.ref lp])
 dr:Dr t H b dp do_ w G.length (es.map (toPt G.length)) (rimS w G) (srtS w G)
 lp:H lp=some (.lst (ts.map V.ref))
 pr:PrsL H (fs.map (toPr w G)) ts
theorem PrsL.pick {H:Hp}:∀{ps:List Pr}{ys:List V},ys.length=ps.length->(∀(j:Nat) (y:V) (p:Pr),ys[j]?=some y->ps[j]?=some p->∃ q,y=.ref q/\H q=some (.tup (prV p)))->∃ rs:List Addr,ys=rs.map V.ref/\PrsL H ps rs
 | [],[],_,_=>⟨[],rfl,.nil⟩
 | [],_::_,h,_=>by cases h
 | _::_,[],h,_=>by cases h
 | s::ss,y::ys,h,k=>by
  obtain⟨q,e,hq⟩:=k 0 y s rfl rfl;obtain⟨rs,e2,r⟩:=PrsL.pick (ps:=ss) (ys:=ys) (by simpa using h) fun j y s h1 h2=>k (j+1) y s (by simpa using h1) (by simpa using h2)
  exact⟨q::rs,by rw[e,e2]; rfl,.cons hq r⟩
def xa5 (s:Str):Nat:=s.cps.toList.headD 32
theorem xpi {s:Str} (h:s.length=1):s=ofL [xa5 s]:=by
 apply xda;unfold xa5;rw[xar];have l2:s.cps.toList.length=1:=by simpa [YS] using h
 cases e:s.cps.toList with
 | nil=>rw[e] at l2; cases l2
 | cons x r =>
  rw[e] at l2;have:r=[]:=by simpa using l2
  rw[this];rfl
theorem xcm {s:Str} (h:isNm s=true):s=ofL [xa5 s]/\nmC (xa5 s)=true:=by
 have l:s.length=1:=by
  have h2:=h;unfold isNm at h2;exact of_decide_eq_true (Zr _ _▸h2).1
 have e:=xpi l;refine⟨e,?_⟩;rw[<- xhw,<- e];exact h
theorem xff {s t:Str} (hs:isNm s=true) (ht:isNm t=true) (e:xa5 s=xa5 t):s=t:=by
 rw[(xcm hs).1,(xcm ht).1,e]
theorem xis {P:Str->Prop}{w:Int}{ps:List Pt}{ss:List Seat}{prs:List Pr} (k:P (Zc "#")/\P (Zc ".")/\P (Zc "|")/\P (Zc "+")/\P (Zc "-")) (kn:∀ s,isNm s=true->P s) (h1:∀ p∈ps,isNm p.nm=true) (h2:∀ p∈prs,isNm p.1.nm=true):∀ c s,xa3 w ps ss prs c=some s->P s:=by
 have no:∀(c:Cl) (s:Str),(Drw.no:Cl->Option Str) c=some s->P s:=fun _ _ e=>nomatch e;have n3:=xds (P:=P) (hs:=hsS) k.1 (L:=prs.flatMap (xb6 w)) no (fun x hx=>by
  obtain⟨p,_,hx⟩:=Yv.mp hx;unfold xb6 Drw.ledL at hx;rcases Z5.mp hx with hx|hx
  .rcases Z5.mp hx with hx|hx
   .obtain ⟨c,_,rfl⟩:=Ze.mp hx;exact k.2.2.1
   .split at hx
    .rw [Zv.mp hx];exact k.2.2.2.1
    .exact nomatch hx
  .obtain ⟨c,_,rfl⟩:=Ze.mp hx;exact k.2.2.2.2)
 have n4:=xb0 (P:=P) (L:=ptsS ps) n3 (fun x hx=>by
  obtain⟨z,hz,rfl⟩:=Ze.mp hx;exact kn _ (h1 z hz))
 have n5:=xb0 (P:=P) (L:=xb3 w ss) n4 (fun x hx=>by
  obtain⟨z,_,rfl⟩:=Ze.mp hx;exact k.2.1)
 exact xb0 (P:=P) (L:=xbp w prs) n5 (fun x hx=>by
  obtain⟨z,hz,rfl⟩:=Ze.mp hx;exact kn _ (h2 z hz))
structure Pict (w h:Nat) (ps:List Pt) (ss:List Seat) (prs:List Pr):Prop where
 w1:1<=w
 w2:w<=30
 h1:1<=h
 h2:h<=16
 pok:xcs (w:Int) (h:Int) ps
 sok:SsOk (h:Int) ss
 pal:xhc (w:Int) (h:Int) ps prs
section
variable {w h:Nat}{ps:List Pt}{ss:List Seat}{prs:List Pr}
theorem Pict.nms (o:Pict w h ps ss prs):∀ p∈ps,isNm p.nm=true:=fun p hp=>(o.pok.ok p hp).nm
theorem Pict.nmr (o:Pict w h ps ss prs):∀ p∈prs,isNm p.1.nm=true:=fun p hp=>(o.pal.ok p hp).nm
theorem Pict.one (o:Pict w h ps ss prs):One (xa3 w ps ss prs):=xis (P:=fun s=>s.length=1) (by decide +kernel) (fun s hs=>by
    unfold isNm at hs;exact of_decide_eq_true (Zr _ _▸hs).1) o.nms o.nmr
theorem xfm {c:Nat} (h:nmC c=true):97<=c/\c<=122:=by
 unfold nmC at h;simpa using h
theorem Pict.asc (o:Pict w h ps ss prs) (c:Cl):cd (xa3 w ps ss prs) c<128:=by
 have kn:∀ s,isNm s=true->xa5 s<128:=fun s hs=>by
  have:=xfm (xcm hs).2;omega
 have all:=xis (P:=fun s=>xa5 s<128) (w:=w) (ss:=ss) (by decide +kernel) kn o.nms o.nmr;unfold cd;cases e:xa3 w ps ss prs c with
 | none =>
  show 32<128;decide
 | some s=>exact all c s e
theorem xpe (w1:1<=w) (nd:(prs.map (·.2)).Nodup):((xbp w prs).map (·.1)).Nodup:=by
 unfold xbp;rw[Z7];rw[JU,ZH] at nd ⊢;exact nd.imp fun ne e=>ne (xb9 w1 e)
theorem xsy (w1:1<=w) (nd:ss.Nodup):((xb3 w ss).map (·.1)).Nodup:=by
 unfold xb3;rw[Z7];exact Drw.nd_map (fun a b e=>xb9 w1 e) nd
theorem xt8 (nx:(ps.map (·.x)).Nodup):((ptsS ps).map (·.1)).Nodup:=by
 unfold ptsS;rw[Z7];rw[JU,ZH] at nx ⊢;exact nx.imp fun ne e=>ne (JA.inj e).1
theorem xgu {c:Cl} (n:∀ p∈prs,rimC w p.2≠c):c∉(xbp w prs).map (·.1):=fun z=>by
 unfold xbp at z;rw[Z7] at z;obtain⟨p,hp,e⟩:=Ze.mp z;exact n p hp e
theorem xma {c:Cl} (n:∀ s∈ss,rimC w s≠c):c∉(xb3 w ss).map (·.1):=fun z=>by
 unfold xb3 at z;rw[Z7] at z;obtain⟨p,hp,e⟩:=Ze.mp z;exact n p hp e
theorem xt5 {c:Cl} (n:∀ p∈ps,(p.x,p.y)≠c):c∉(ptsS ps).map (·.1):=fun z=>by
 unfold ptsS at z;rw[Z7] at z;obtain⟨p,hp,e⟩:=Ze.mp z;exact n p hp e
theorem Pict.name (o:Pict w h ps ss prs) {p:Pr} (hp:p∈prs):xa3 w ps ss prs (rimC w p.2)=some p.1.nm:=Drw.sets_one (xpe o.w1 o.pal.nd) (Ze.mpr ⟨p,hp,rfl⟩)
theorem Pict.dot (o:Pict w h ps ss prs) {s:Seat} (hs:s∈ss) (no:∀ p∈prs,p.2≠s):xa3 w ps ss prs (rimC w s)=some (Zc "."):=by
 unfold xa3 Drw.drawL;rw[Drw.sets_no (xgu fun p hp e=>no p hp (xb9 o.w1 e))];exact Drw.sets_one (xsy o.w1 o.sok.1) (Ze.mpr ⟨s,hs,rfl⟩)
theorem xc1 (w:Nat) (s:Seat) {x:Int} (h1:1<=x) (h2:x<=w) (y:Int):rimC w s≠(x,y):=fun e=>by
 have:=xdy w s;rw[e] at this
 dsimp only at this
 omega
theorem Pict.pt (o:Pict w h ps ss prs) {p:Pt} (hp:p∈ps):xa3 w ps ss prs (p.x,p.y)=some p.nm:=by
 have k:=o.pok.ok p hp;unfold xa3 Drw.drawL;rw[Drw.sets_no (xgu fun q _=>xc1 w q.2 k.x1 k.x2 _),Drw.sets_no (xma fun s _=>xc1 w s k.x1 k.x2 _)];exact Drw.sets_one (xt8 o.pok.nx) (Ze.mpr ⟨p,hp,rfl⟩)
theorem xeg {c:Cl} (n1:∀ p∈prs,rimC w p.2≠c) (n2:∀ s∈ss,rimC w s≠c) (n3:∀ p∈ps,(p.x,p.y)≠c):xa3 w ps ss prs c=Drw.marks hsS Drw.no (prs.flatMap (xb6 w)) c:=by
 unfold xa3 Drw.drawL;rw[Drw.sets_no (xgu n1),Drw.sets_no (xma n2),Drw.sets_no (xt5 n3)]
theorem xp4 {p:Pr} (x1:1<=p.1.x) (x2:p.1.x<=w) {c:Cl} (h:c∈(xb6 w p).map (·.1)):1<=c.1/\c.1<=w:=by
 unfold xb6 at h;rw[Drw.ledL_keys] at h;have rb:Drw.rim w p.2.1=0\/Drw.rim w p.2.1=(w:Int)+1:=by
  unfold Drw.rim;split
  .exact .inl rfl
  .exact .inr rfl
 rcases Z5.mp h with h|h
 .rcases Z5.mp h with h|h
  .obtain ⟨a,_,rfl⟩:=Ze.mp h;exact⟨x1,x2⟩
  .split at h
   .rw [Zv.mp h];exact⟨x1,x2⟩
   .exact nomatch h
 .obtain ⟨a,ha,rfl⟩:=Ze.mp h;rw[Drw.mem_rg] at ha;exact⟨by dsimp only; omega,by dsimp only; omega⟩
theorem Pict.off (o:Pict w h ps ss prs) {c:Cl} (hc:c.1=0\/c.1=(w:Int)+1) (n1:∀ p∈prs,rimC w p.2≠c) (n2:∀ s∈ss,rimC w s≠c):xa3 w ps ss prs c=none:=by
 rw[xeg n1 n2 (fun p hp e=>by
  have k:=o.pok.ok p hp;have e1:p.x=c.1:=by rw[<- e]
  have k1:=k.x1;have k2:=k.x2;omega),Drw.marks_at,Drw.at_no]
 .rfl
 .intro z
  obtain⟨x,hx,rfl⟩:=Ze.mp z;obtain⟨p,hp,hx⟩:=Yv.mp hx;have k:=(o.pal.ok p hp).xy;have:=xp4 k.1 k.2.1 (Ze.mpr ⟨x,hx,rfl⟩);omega
theorem xmz (c:Cl):Drw.marks hsS Drw.no (prs.flatMap (xb6 w)) c=none\/∃ s,Drw.marks hsS Drw.no (prs.flatMap (xb6 w)) c=some s/\xa5 s∈([32,124,45,43,35]:List Nat):=by
 have no:∀(c:Cl) (s:Str),(Drw.no:Cl->Option Str) c=some s->xa5 s∈([32,124,45,43,35]:List Nat):=fun _ _ e=>nomatch e;cases e:Drw.marks hsS Drw.no (prs.flatMap (xb6 w)) c with
 | none=>exact .inl rfl
 | some s =>
  refine .inr ⟨s,rfl,xds (P:=fun s=>xa5 s∈([32,124,45,43,35]:List Nat)) (hs:=hsS) (by unfold hsS; decide +kernel) (L:=prs.flatMap (xb6 w)) no (fun x hx=>?_) c s e⟩;obtain⟨p,_,hx⟩:=Yv.mp hx;unfold xb6 Drw.ledL at hx;rcases Z5.mp hx with hx|hx
  .rcases Z5.mp hx with hx|hx
   .obtain ⟨c,_,rfl⟩:=Ze.mp hx;show xa5 (Zc "|")∈_;decide +kernel
   .split at hx
    .rw [Zv.mp hx];show xa5 (Zc "+")∈_;decide +kernel
    .exact nomatch hx
  .obtain ⟨c,_,rfl⟩:=Ze.mp hx;show xa5 (Zc "-")∈_;decide +kernel
theorem xcz {m:Cl->Option Str}{c:Cl}{s:Str} (h:m c=some s):cd m c=xa5 s:=by
 unfold cd xa5;rw[h]
theorem xls {m:Cl->Option Str}{c:Cl} (h:m c=none):cd m c=32:=by
 unfold cd;rw[h]
theorem Pict.inner (o:Pict w h ps ss prs) {c:Cl} (c1:1<=c.1) (c2:c.1<=w) (n3:∀ p∈ps,(p.x,p.y)≠c):cd (xa3 w ps ss prs) c∈([32,124,45,43,35]:List Nat):=by
 have e:=xeg (w:=w) (ss:=ss) (prs:=prs) (fun p _=>xc1 w p.2 c1 c2 c.2) (fun s _=>xc1 w s c1 c2 c.2) n3;rcases xmz (w:=w) (prs:=prs) c with z|⟨s,z,k⟩
 .rw [z] at e;rw[xls e];decide
 .rw [z] at e;rw[xcz e];exact k
abbrev xav (w h:Nat) (ps:List Pt) (ss:List Seat) (prs:List Pr):List (List Nat):=xdm w h (xa3 w ps ss prs)
theorem xcw (w h:Nat) (m:Cl->Option Str):(xdm w h m).length=h:=by
 unfold xdm;rw[Za,Zt]
theorem Pict.tx (o:Pict w h ps ss prs):Txs (w+2) (xav w h ps ss prs):=by
 have h1:=o.h1;have h2:=o.h2;have w1:=o.w1;have w2:=o.w2;refine⟨by rw[xcw]; exact h1,by rw[xcw]; exact h2,fun r hr=>?_,fun r hr c hc=>?_,by omega,by omega⟩
 .obtain ⟨i,_,rfl⟩:=Ze.mp hr;unfold rowC;rw[Za,Zt]
 .obtain ⟨i,_,rfl⟩:=Ze.mp hr;obtain⟨j,_,rfl⟩:=Ze.mp hc;exact o.asc _
theorem xdf {m:Cl->Option Str}{s:Sg}:s∈sgs (xdm w h m)↔s.1<h/\s.2.1<w+2/\s.2.2=cd m ((s.2.1:Int),1+(s.1:Int)):=by
 unfold sgs;rw[xgb,xcw];have e:s.1<h->(xdm w h m).getD s.1 []=rowC w (1+(s.1:Int)) m:=fun hs=>by
  unfold xdm;rw[ZY,Zh,Jg hs];rfl
 have l:∀ r,(rowC w r m).length=w+2:=fun r=>by
  unfold rowC;rw[Za,Zt]
 have v:∀ r (j:Nat),j<w+2->(rowC w r m).getD j 0=cd m ((j:Int),r):=fun r j hj=>by
  unfold rowC;rw[ZY,Zh,Jg hj];rfl
 constructor
 .rintro ⟨a,b,c⟩;rw[e a,l] at b;rw[e a,v _ _ b] at c;exact⟨a,b,c⟩
 .rintro ⟨a,b,c⟩;rw[e a,l];exact⟨a,b,by rw[v _ _ b]; exact c⟩
def xcb (p:Pt):Sg:=((p.y-1).toNat,p.x.toNat,xa5 p.nm)
def xb4 (w:Nat) (p:Pr):Sg:=((p.2.2-1).toNat,(Drw.rim w p.2.1).toNat,xa5 p.1.nm)
theorem xoz (G:List (List Nat)) (p:Sg->Bool):((sgs G).filter p).Nodup:=by
 have z:=(xf5 G G.length).filter p;exact z.imp fun ne e=>ne (by rw[e]; exact⟨rfl,rfl⟩)
theorem xkj {lc j:Nat} (h:¬ rimB lc j=true):j≠0/\j≠lc:=by
 unfold rimB at h;simpa using h
theorem xpq {c:Nat} (h:c∈([32,124,45,43,35]:List Nat)):nmC c=false:=by
 have h:c=32\/c=124\/c=45\/c=43\/c=35:=by simpa using h
 rcases h with rfl|rfl|rfl|rfl|rfl<;>rfl
theorem Pict.at_in (o:Pict w h ps ss prs) {s:Sg} (hs:s∈sgs (xav w h ps ss prs)) (nr:¬ rimB (w+1) s.2.1=true):(∃ p∈ps,xcb p=s)\/s.2.2∈([32,124,45,43,35]:List Nat):=by
 obtain⟨g1,g2,g3⟩:=xdf.mp hs;have nr:=xkj nr;by_cases e:∃ p∈ps,(p.x,p.y)=((s.2.1:Int),1+(s.1:Int))
 .obtain ⟨p,hp,ep⟩:=e;refine .inl ⟨p,hp,?_⟩;have v:=xcz (o.pt hp);rw[ep,<- g3] at v;have e1:=(JA.inj ep).1;have e2:=(JA.inj ep).2;obtain⟨a,b,c⟩:=s
  dsimp only at v e1 e2
  unfold xcb;rw[e1,e2,v,show (1+(a:Int)-1).toNat=a by omega,Yn]
 .refine .inr ?_;rw[g3];exact o.inner (by dsimp only; omega) (by dsimp only; omega) fun p hp z=>e ⟨p,hp,z⟩
theorem Pict.of_in (o:Pict w h ps ss prs) {p:Pt} (hp:p∈ps):xcb p∈inns w (xav w h ps ss prs):=by
 have k:=o.pok.ok p hp;have k1:=k.x1;have k2:=k.x2;have k3:=k.y1;have k4:=k.y2;have v:=xcz (o.pt hp);unfold inns;rw[ZJ];have ex:((xcb p).2.1:Int)=p.x:=by show (p.x.toNat:Int)=p.x; omega
 have ey:1+((xcb p).1:Int)=p.y:=by show 1+((p.y-1).toNat:Int)=p.y; omega
 refine⟨xdf.mpr ⟨by omega,by omega,by rw[ex,ey]; exact v.symm⟩,?_⟩;have n:=(xcm k.nm).2;have nr:rimB (w+1) (xcb p).2.1=false:=by
  unfold rimB;rw[decide_eq_false (by omega),decide_eq_false (by omega)];rfl
 unfold innP;rw[nr,show (xcb p).2.2=xa5 p.nm from rfl,n];rfl
theorem xnn (pok:xcs (w:Int) (h:Int) ps):(ps.map xcb).Pairwise InNe:=by
 rw[ZH];have n1:=pok.nn;have n2:=pok.nx;have n3:=pok.ny;rw[JU,ZH] at n1 n2 n3;refine Yj.imp_of_mem ?_ ((n1.and n2).and n3);intro a b ha hb ⟨⟨z1,z2⟩,z3⟩;have ka:=pok.ok a ha;have kb:=pok.ok b hb;have a1:=ka.x1;have a2:=ka.y1;have b1:=kb.x1;have b2:=kb.y1;refine⟨fun e=>z1 (xff ka.nm kb.nm e),fun e=>z3 ?_,fun e=>z2 ?_⟩
 .have e:(a.y-1).toNat=(b.y-1).toNat:=e;omega
 .have e:a.x.toNat=b.x.toNat:=e;omega
theorem Pict.inn_pm (o:Pict w h ps ss prs):(inns w (xav w h ps ss prs)).Perm (ps.map xcb):=by
 refine (List.perm_ext_iff_of_nodup (xoz _ _) ?_).mpr fun s=>⟨fun hs=>?_,fun hs=>?_⟩
 .exact (xnn o.pok).imp fun z e=>z.1 (by rw[e])
 .obtain ⟨h1,h2⟩:=ZJ.mp hs;unfold innP at h2;obtain⟨h3,h4⟩:=Zr _ _▸h2;rcases o.at_in h1 (by simpa using h3) with⟨p,hp,e⟩|z
  .exact Ze.mpr ⟨p,hp,e⟩
  .rw [xpq z] at h4;cases h4
 .obtain ⟨p,hp,rfl⟩:=Ze.mp hs;exact o.of_in hp
theorem Pict.at_rim (o:Pict w h ps ss prs) {s:Sg} (hs:s∈sgs (xav w h ps ss prs)) (r:rimB (w+1) s.2.1=true):rimC w (xah s)=((s.2.1:Int),1+(s.1:Int))/\((∃ p∈prs,xb4 w p=s/\p.2=xah s)\/((∀ p∈prs,p.2≠xah s)/\xah s∈ss/\s.2.2=46)\/((∀ p∈prs,p.2≠xah s)/\xah s∉ss/\s.2.2=32)):=by
 obtain⟨g1,g2,g3⟩:=xdf.mp hs;have w1:=o.w1;have rc:rimC w (xah s)=((s.2.1:Int),1+(s.1:Int)):=by
  unfold rimC xah xfq Drw.rim;rcases xeu r with z|z
  .rw [z,decide_eq_true rfl,if_pos rfl];exact QV rfl (by dsimp only; omega)
  .rw [z,decide_eq_false (by omega),if_neg (by simp)];exact QV (by dsimp only; omega) (by dsimp only; omega)
 refine⟨rc,?_⟩;by_cases e:∃ p∈prs,p.2=xah s
 .obtain ⟨p,hp,ep⟩:=e;refine .inl ⟨p,hp,?_,ep⟩;have v:=xcz (o.name hp);rw[ep,rc,<- g3] at v;have e1:Drw.rim w p.2.1=(s.2.1:Int):=by
   rw[ep];exact congrArg Prod.fst rc
  have e2:p.2.2=(s.1:Int)+1:=by rw[ep]; rfl
  obtain⟨a,b,c⟩:=s
  dsimp only at v e1 e2
  unfold xb4;rw[e1,e2,<- v,show ((a:Int)+1-1).toNat=a by omega,Yn]
 .have n1:∀ p∈prs,p.2≠xah s:=fun p hp z=>e ⟨p,hp,z⟩;by_cases d:xah s∈ss
  .refine .inr (.inl ⟨n1,d,?_⟩);have v:=xcz (o.dot d n1);rw[rc,<- g3] at v;rw[v];decide +kernel
  .refine .inr (.inr ⟨n1,d,?_⟩);have v:=xls (o.off (c:=rimC w (xah s)) (xdy w _) (fun p hp z=>n1 p hp (xb9 w1 z)) (fun z hz y=>d (xb9 w1 y▸hz)));rw[rc,<- g3] at v;exact v
theorem xkn (w1:1<=w) {p:Pr} (r1:1<=p.2.2):xah (xb4 w p)=p.2:=by
 obtain⟨pt,b,r⟩:=p;unfold xah xb4 xfq Drw.rim
 dsimp only at r1 ⊢
 refine QV ?_ (by dsimp only; omega);cases b
 .dsimp only
  rw[if_neg (by decide)];exact decide_eq_false (by omega)
 .rfl
theorem Pict.of_out (o:Pict w h ps ss prs) {p:Pr} (hp:p∈prs):xb4 w p∈outs w (xav w h ps ss prs):=by
 have k:=o.pal.ok p hp;have k1:=k.r1;have k2:=k.r2;have w1:=o.w1;have v:=xcz (o.name hp);have rb:Drw.rim w p.2.1=0\/Drw.rim w p.2.1=(w:Int)+1:=xdy w p.2;unfold outs;rw[ZJ];have ex:((xb4 w p).2.1:Int)=Drw.rim w p.2.1:=by show ((Drw.rim w p.2.1).toNat:Int)=_; omega
 have ey:1+((xb4 w p).1:Int)=p.2.2:=by show 1+((p.2.2-1).toNat:Int)=p.2.2; omega
 refine⟨xdf.mpr ⟨by omega,by omega,by rw[ex,ey]; exact v.symm⟩,?_⟩;have n:=(xcm k.nm).2;have nr:rimB (w+1) (xb4 w p).2.1=true:=by
  unfold rimB;rcases rb with z|z
  .rw [decide_eq_true (show (xb4 w p).2.1=0 by omega)];rfl
  .rw [decide_eq_true (show (xb4 w p).2.1=w+1 by omega),JK]
 unfold outP;rw[nr,show (xb4 w p).2.2=xa5 p.1.nm from rfl,n];rfl
theorem Pict.out_pm (o:Pict w h ps ss prs):(outs w (xav w h ps ss prs)).Perm (prs.map (xb4 w)):=by
 refine (List.perm_ext_iff_of_nodup (xoz _ _) ?_).mpr fun s=>⟨fun hs=>?_,fun hs=>?_⟩
 .have nd:=o.pal.nn;rw[JU,ZH] at nd;rw[JU,ZH];refine Yj.imp_of_mem ?_ nd;intro a b ha hb z e;exact z (xff (o.nmr a ha) (o.nmr b hb) (congrArg (fun s:Sg=>s.2.2) e))
 .obtain ⟨h1,h2⟩:=ZJ.mp hs;unfold outP at h2;obtain⟨h3,h4⟩:=Zr _ _▸h2;rcases (o.at_rim h1 h3).2 with⟨p,hp,e,_⟩|⟨_,_,z⟩|⟨_,_,z⟩
  .exact Ze.mpr ⟨p,hp,e⟩
  .rw [z] at h4;cases h4
  .rw [z] at h4;cases h4
 .obtain ⟨p,hp,rfl⟩:=Ze.mp hs;exact o.of_out hp
theorem PrOk.mem {w h:Int}{p:Pr} (k:PrOk ps w h p):p.1∈ps:=Yy k.fd
theorem Pict.good (o:Pict w h ps ss prs):xca w (xav w h ps ss prs):=by
 refine⟨o.tx,fun s hs n=>?_,?_,?_,?_,fun s hs=>?_⟩
 .by_cases r:rimB (w+1) s.2.1=true
  .rw [if_pos r];rcases (o.at_rim hs r).2 with⟨p,hp,e,_⟩|⟨_,_,z⟩|⟨_,_,z⟩
   .rw [<- e] at n;have:=(xcm (o.nmr p hp)).2;rw[show (xb4 w p).2.2=xa5 p.1.nm from rfl,this] at n;cases n
   .exact .inr z
   .exact .inl z
  .rw [if_neg r];rcases o.at_in hs r with⟨p,hp,e⟩|z
   .rw [<- e] at n;have:=(xcm (o.nms p hp)).2;rw[show (xcb p).2.2=xa5 p.nm from rfl,this] at n;cases n
   .exact z
 .exact (Q0.pairwise_iff (fun {x y} z=>⟨ZF z.1,ZF z.2.1,ZF z.2.2⟩) o.inn_pm).mpr (xnn o.pok)
 .rw [o.inn_pm.length_eq,Za];exact o.pok.le
 .refine (o.out_pm.map _).nodup_iff.mpr ?_;rw[Z7];have nd:=o.pal.nn;rw[JU,ZH] at nd ⊢;refine Yj.imp_of_mem ?_ nd;intro a b ha hb z e;exact z (xff (o.nmr a ha) (o.nmr b hb) e)
 .obtain ⟨p,hp,rfl⟩:=Ze.mp (o.out_pm.mem_iff.mp hs);exact Ze.mpr ⟨xcb p.1,o.of_in (o.pal.ok p hp).mem,rfl⟩
end
def fr (h:Nat) (p:Pt):Pt:=⟨p.nm,p.x,p.y, "both",1,(h:Int)⟩
section
variable {w h:Nat}{ps:List Pt}{ss:List Seat}{prs:List Pr}
theorem xj4 (pok:xcs (w:Int) (h:Int) ps) {p:Pt} (hp:p∈ps):toPt h (xcb p)=fr h p:=by
 have k:=pok.ok p hp;have k1:=k.x1;have k3:=k.y1;unfold toPt xcb fr
 dsimp only
 rw[<- (xcm k.nm).1,show (p.x.toNat:Int)=p.x by omega,show ((p.y-1).toNat:Int)+1=p.y by omega]
theorem Pict.ens (o:Pict w h ps ss prs) {es:List Sg} (pe:es.Perm (inns w (xav w h ps ss prs))):(es.map (toPt h)).Perm (ps.map (fr h)):=by
 have z:=(pe.trans o.inn_pm).map (toPt h);rw[Z7] at z;rw[show ps.map (fr h)=ps.map (toPt h∘xcb) from (JY fun p hp=>(xj4 o.pok hp).symm)];exact z
theorem xs8 (pok:xcs (w:Int) (h:Int) ps) {p q:Pt} (hp:p∈ps) (hq:q∈ps) (e:p.nm=q.nm):p=q:=by
 have a:=xh9 pok.nn hp;rw[e,xh9 pok.nn hq] at a;exact (JC.inj a).symm
theorem Pict.toPr_out (o:Pict w h ps ss prs) {p:Pr} (hp:p∈prs):toPr w (xav w h ps ss prs) (xb4 w p)=(fr h p.1,p.2):=by
 obtain⟨_,_,_,z,hz,ez,et⟩:=xeq o.good (o.of_out hp);have k:=o.pal.ok p hp;rw[et,xkn o.w1 k.r1,xcw];obtain⟨p',hp',rfl⟩:=Ze.mp (o.inn_pm.mem_iff.mp hz);have e:p'=p.1:=xs8 o.pok hp' k.mem (xff (o.nms p' hp') k.nm ez);subst e;rw[xj4 o.pok hp']
theorem Pict.fns (o:Pict w h ps ss prs) {fs:List Sg} (pf:fs.Perm (outs w (xav w h ps ss prs))):(fs.map (toPr w (xav w h ps ss prs))).Perm (prs.map fun p=>(fr h p.1,p.2)):=by
 have z:=(pf.trans o.out_pm).map (toPr w (xav w h ps ss prs));rw[Z7] at z;rw[show (prs.map fun p=>(fr h p.1,p.2))=prs.map (toPr w (xav w h ps ss prs)∘xb4 w) from (JY fun p hp=>(o.toPr_out hp).symm)];exact z
theorem Pict.again (o:Pict w h ps ss prs) {es fs:List Sg} (pe:es.Perm (inns w (xav w h ps ss prs))) (pf:fs.Perm (outs w (xav w h ps ss prs))):Pict w h (es.map (toPt h)) (srtS w (xav w h ps ss prs)) (fs.map (toPr w (xav w h ps ss prs))):=by
 have a:=xex o.good pe;have b:=xhv o.good pe pf;have c:=xm4 o.good;rw[xcw] at a b c;have pm:=xjx w (xav w h ps ss prs);exact⟨o.w1,o.w2,o.h1,o.h2,a,⟨pm.nodup_iff.mpr c.1,by rw[pm.length_eq]; exact c.2.1,fun s hs=>c.2.2 s (pm.mem_iff.mp hs)⟩,b⟩
theorem Pict.rim_in (o:Pict w h ps ss prs) (s:Seat):s∈srtS w (xav w h ps ss prs)↔(1<=s.2/\s.2<=(h:Int))/\(s∈ss\/∃ p∈prs,p.2=s):=by
 rw[(xjx w _).mem_iff];constructor
 .intro hs
  obtain⟨z,hz,rfl⟩:=Ze.mp hs;obtain⟨h1,h2⟩:=ZJ.mp hz;obtain⟨h3,h4⟩:=Zr _ _▸h2;have g1:=(xdf.mp h1).1;refine⟨⟨by show (1:Int)<=(z.1:Int)+1; omega,by show (z.1:Int)+1<=_; omega⟩,?_⟩;rcases (o.at_rim h1 h3).2 with⟨p,hp,_,e⟩|⟨_,z,_⟩|⟨_,_,y⟩
  .exact .inr ⟨p,hp,e⟩
  .exact .inl z
  .exact absurd y (of_decide_eq_true h4)
 .rintro ⟨⟨r1,r2⟩,hs⟩;obtain⟨b,r⟩:=s
  dsimp only at r1 r2
  have w1:=o.w1;have rb:Drw.rim w b=0\/Drw.rim w b=(w:Int)+1:=xdy w (b,r);have ex:((Drw.rim w b).toNat:Int)=Drw.rim w b:=by omega
  have ey:1+((r-1).toNat:Int)=r:=by omega
  have mem:((r-1).toNat,(Drw.rim w b).toNat,cd (xa3 w ps ss prs) (rimC w (b,r)))∈sgs (xav w h ps ss prs):=xdf.mpr ⟨by dsimp only; omega,by dsimp only; omega,by dsimp only; rw[ex,ey]; rfl⟩;have rm:rimB (w+1) (Drw.rim w b).toNat=true:=by
   unfold rimB;rcases rb with z|z
   .rw [decide_eq_true (show (Drw.rim w b).toNat=0 by omega)];rfl
   .rw [decide_eq_true (show (Drw.rim w b).toNat=w+1 by omega),JK]
  have ts:xah ((r-1).toNat,(Drw.rim w b).toNat,cd (xa3 w ps ss prs) (rimC w (b,r)))=(b,r):=xkn (w:=w) w1 (p:=(⟨Zc "",0,0,Zc "",0,0⟩,b,r)) r1;have ts:xah ((r-1).toNat,(Drw.rim w b).toNat,cd (xa3 w ps ss prs) (rimC w (b,r)))=(b,r):=ts;unfold rimS;refine Ze.mpr ⟨_,ZJ.mpr ⟨mem,?_⟩,ts⟩
  dsimp only
  rw[rm,JB];refine decide_eq_true fun z=>?_;have hs:(b,r)∈ss\/∃ p∈prs,p.2=(b,r):=hs;by_cases e:∃ p∈prs,p.2=(b,r)
  .obtain ⟨p,hp,ep⟩:=e;have v:=xcz (o.name hp);rw[ep,z] at v;have:=xfm (xcm (o.nmr p hp)).2;omega
  .have v:=xcz (o.dot (hs.resolve_right e) fun p hp y=>e ⟨p,hp,y⟩);rw[z] at v;exact absurd v (by decide +kernel)
theorem Pict.sees (o:Pict w h ps ss prs):xjh w (xav w h ps ss prs):=by
 intro es fs pe pf s hs;have o':=o.again pe pf;have qe:=o.ens pe;have qf:=o.fns pf;rw[xcw,xmc o.w1 o'.pok o'.pal (.refl _)];obtain⟨g1,g2,g3⟩:=xdf.mp hs;rw[g3]
 suffices e:xa3 w (es.map (toPt h)) (srtS w (xav w h ps ss prs)) (fs.map (toPr w (xav w h ps ss prs))) ((s.2.1:Int),1+(s.1:Int))=xa3 w ps ss prs ((s.2.1:Int),1+(s.1:Int)) by
  unfold cd;rw[e]
 have pin:∀ p∈prs,(fr h p.1,p.2)∈fs.map (toPr w (xav w h ps ss prs)):=fun p hp=>qf.mem_iff.mpr (Ze.mpr ⟨p,hp,rfl⟩);have pout:∀ p'∈fs.map (toPr w (xav w h ps ss prs)),∃ p∈prs,(fr h p.1,p.2)=p':=fun p' hp'=>Ze.mp (qf.mem_iff.mp hp');by_cases r:rimB (w+1) s.2.1=true
 .obtain ⟨rc,z⟩:=o.at_rim hs r;rw[<- rc];have rin:=o.rim_in (xah s);rcases z with⟨p,hp,_,ep⟩|⟨n1,d,_⟩|⟨n1,d,_⟩
  .rw [<- ep,o.name hp];exact o'.name (p:=(fr h p.1,p.2)) (pin p hp)
  .rw [o.dot d n1];refine o'.dot (rin.mpr ⟨⟨by show (1:Int)<=(s.1:Int)+1; omega,by show (s.1:Int)+1<=_; omega⟩,.inl d⟩) fun p' hp' e=>?_;obtain⟨p,hp,rfl⟩:=pout p' hp';exact n1 p hp e
  .rw [o.off (xdy w _) (fun p hp z=>n1 p hp (xb9 o.w1 z)) (fun z hz y=>d (xb9 o.w1 y▸hz))];refine o'.off (xdy w _) (fun p' hp' z=>?_) (fun z hz y=>?_)
   .obtain ⟨p,hp,rfl⟩:=pout p' hp';exact n1 p hp (xb9 o.w1 z)
   .rw [xb9 o.w1 y] at hz;rcases (rin.mp hz).2 with x|⟨p,hp,x⟩
    .exact d x
    .exact n1 p hp x
 .have nr:=xkj r;by_cases e:∃ p∈ps,(p.x,p.y)=((s.2.1:Int),1+(s.1:Int))
  .obtain ⟨p,hp,ep⟩:=e;rw[<- ep,o.pt hp];exact o'.pt (p:=fr h p) (qe.mem_iff.mpr (Ze.mpr ⟨p,hp,rfl⟩))
  .have c1:(1:Int)<=(s.2.1:Int):=by omega
   have c2:(s.2.1:Int)<=w:=by omega
   rw[xeg (fun p _=>xc1 w p.2 c1 c2 _) (fun s _=>xc1 w s c1 c2 _) (fun p hp z=>e ⟨p,hp,z⟩),xeg (fun p _=>xc1 w p.2 c1 c2 _) (fun s _=>xc1 w s c1 c2 _) (fun p' hp' z=>?_),Drw.marks_at,Drw.marks_at]
   .refine Drw.mkc_perm hsS ?_;unfold Drw.at_;refine (Q0.filter _ ?_).map _;have z:=qf.flatMap_right (xb6 w);have e:(prs.map fun p=>(fr h p.1,p.2)).flatMap (xb6 w)=prs.flatMap (xb6 w):=by
     rw[List.flatMap_map];rfl
    rw[e] at z;exact z
   .obtain ⟨p,hp,rfl⟩:=Ze.mp (qe.mem_iff.mp hp');exact e ⟨p,hp,z⟩
end
def xr4 (t:Adr):Sp:=fun vs H Q E=>∃(a o i:Addr) (lc:Nat) (os is:List Sg) (s:Sg),vs=[.ref a,.int (s.1:Int),.int (s.2.1:Int),sgn s.2.2]/\Let t H a o i lc os is/\is.length<=600/\mayB lc os is s=false/\∀ er,er=Er.badDrawing (.int (s.1:Int)) (.int (s.2.1:Int))->∀ e H',xbl t H H' e er->E e t.C_b H'
def xp9 (t:Adr):Sp:=fun vs H Q E=>∃(l d:Addr) (w:Nat) (G:List (List Nat)) (m:Cl->Option Str),vs=[.ref l,.ref d]/\H l=some (.lst (GV G))/\Txs (w+2) G/\H d=some (.lst (xfv w G.length m))/\One m /\
 (∀ s∈sgs G,cd m ((s.2.1:Int),1+(s.1:Int))≠s.2.2->∀ er,er=Er.badDrawing (.int (s.1:Int)) (.int (s.2.1:Int))->∀ e H',xbl t H H' e er->E e t.C_b H')/\((∀ s∈sgs G,cd m ((s.2.1:Int),1+(s.1:Int))=s.2.2)->∀ H',Same H H'->Q .non H')
section
variable {P:Program}{w:World}{K:Zd}{mg:Str->Option Value}{base:Heap}{t:Adr}
theorem okT_u (T:Txt w K mg t):FnOk true P w K mg base (CXo P w) 3 t.f_u t.d_u ["self", "row", "column", "sign"] (xr4 t):=by
 refine T.F_u.okx (k:=2) sc_u (fun vs H Q E h=>?_) (fun cdv A outer s H vs Q E hr h=>?_)
 .obtain ⟨a,o,i,lc,os,is,s,rfl,_⟩:=h;rfl
 .obtain ⟨a,o,i,lc,os,is,s,rfl,h⟩:=h;refine⟨_,xk (xae (xbg (xas (xat (pv 0) T.c_t T.m_h (ok_h T) (hr.mono (by decide)) T.b_h .nil xa8.pass (xb (pv 1) (xb (pv 2) (xb (pv 3) (xg))))))) (xm (xgo (hr.hd rfl) xa8 (xgs T.k_b (ok_n T) (hr.mono (by decide)) rfl T.g_b T.b_n .nil (xb (pv 1) (xb (pv 2) (xg)))))) (x4))
   (xm (xae (xas (xu (okD_ar T) (hr.mono (by decide)) rfl T.g_ar T.F_ar.kp T.b_ar .nil xa8.pass (xb (pv 3) (xg)))) (xk (xw (i:=4) sc_u.nd rfl (Zn rfl) (xcu (xas (xat (pv 0) T.c_t T.m_k (ok_k T) (hr.mono (by decide)) T.b_k .nil xa8.pass (xb (pv 2) (xg)))) (xaa (pv 0) rfl) (xaa (pv 0) rfl)))
   (xm (xdi (xbo hr) (pv 4) (pv 3) (xaj (xb (pv 1) (xb (pv 2) (xg)))) rfl))) (x4))),?_⟩
  obtain⟨lt,i6,my,hE⟩:=h;obtain⟨⟨dx,ins⟩,_⟩:=id lt;refine⟨_,rfl,a,dx,_,rfl,ins,xfa (by decide +kernel),_,rfl,_,rfl,_,rfl,a,o,i,lc,os,is,s,rfl,lt,i6,fun H1 s1=>⟨_,rfl,ifP (by rw[my]; rfl) ?_⟩⟩;exact⟨_,rfl,_,rfl,(by show 2<=1000; decide),fun e he=>⟨e,_,_,rfl,xf,fun dx hdx=>⟨rfl,e,t.C_b,some dx,rfl,xh8 hdx,T.mk_b,hE (.badDrawing _ _) (rfl) e _ (xbl.pre s1 (xh2 rfl rfl he hdx))⟩⟩⟩
theorem okT_af (T:Txt w K mg t):FnOk true P w K mg base (CXo P w) 3 t.f_af t.d_af ["rows", "drawing"] (xp9 t):=by
 refine T.F_af.okx (k:=2) sc_af (fun vs H Q E h=>?_) (fun cdv A outer s H vs Q E hr h=>?_)
 .obtain ⟨l,d,w',G,m,rfl,_⟩:=h;rfl
 .obtain ⟨l,d,w',G,m,rfl,h⟩:=h;refine⟨_,xm (xa4 PassesOwn.leaving rfl (xa0 (xu (ok_ax T) (hr.mono (by decide)) rfl T.g_ax T.F_ax.kp T.b_ax .nil xa8.pass (xb (pv 0) (xg)))) (xap rfl (xr (xq (i:=2) sc_af.nd rfl (Zn rfl)) (xr (xq (i:=3) sc_af.nd rfl (Zn rfl)) (xr (xq (i:=4) sc_af.nd rfl (Zn rfl)) (xag))))) (xm (xae (x5 xjl (pv 4) (xab xfx (xab xak (pv 1) (pv 2) (fun _ _=>rfl)) (pv 3) (fun _ _=>rfl)) (x6 _)) (xm (xgo (hr.hd rfl) xa8 (xgs T.k_b (ok_n T) (hr.mono (by decide)) rfl T.g_b T.b_n .nil (xb (pv 2) (xb (pv 3) (xg)))))) (x4)))),?_⟩;obtain⟨hl,o,hd,o1,hE,q⟩:=h;have h2:=o.h2;have w2:=o.w2;refine⟨_,rfl,l,w'+2,G,rfl,hl,o,fun H1 l1 qs s1 f1 e1 tl1=>⟨l1,rfl,⟨_,SqL.of e1⟩,?_⟩⟩;have qll:=tl1.1;refine xbd (xs:=qs.map V.ref) (Pv:=fun i σ H5=>∃(v2 v3 v4:Option V),σ=[some (.ref l),some (.ref d),v2,v3,v4]/\H5=H1/\∀ k s,k<i->(sgs G)[k]?=some s->cd m ((s.2.1:Int),1+(s.1:Int))=s.2.2) ⟨_,_,_,rfl,rfl,fun k s z=>absurd z (by omega)⟩ ?_ ?_ ?_
  .rintro i σ H5 _ ⟨_,_,_,rfl,rfl,_⟩;exact SqL.of e1
  .rintro i x σ H5 hx ⟨v2,v3,v4,rfl,rfl,all⟩;rw[Zh,Zl] at hx;obtain⟨qa,hqa,rfl⟩:=hx;obtain⟨s,hs,hq⟩:=tl1.get hqa;have ms:=Zo hs;obtain⟨r1,r2,r3⟩:=(xdx o).mp ms;refine⟨qa,_,rfl,SqT.of hq,rfl,_,_,rfl,_,_,rfl,_,_,rfl,rfl,?_⟩;have rt:=xl4 o1 w' (1+(s.1:Int));refine⟨_,rfl,_,rfl,_,rfl,d,_,_,.str (rowT w' (1+(s.1:Int)) m),rfl,rfl,SqL.of (s1 _ _ hd),?_,_,rfl,_,_,cd m ((s.2.1:Int),1+(s.1:Int)),rfl,rfl,?_,?_,rfl,_,rfl,ite2 (fun c=>?_) (fun c=>?_)⟩
   .refine xbt ?_;unfold xfv;rw[Zh,Jg r1];rfl
   .rw [rt,xaz];unfold rowC;rw[Za,Zt];exact Zs (by omega:_<=1000) (by decide)
   .rw [rt,xar];refine xbt ?_;unfold rowC;rw[Zh,Jg r2];rfl
   .have ne:cd m ((s.2.1:Int),1+(s.1:Int))≠s.2.2:=fun z=>by
     rw[z] at c;simp[sgn] at c
    have hE:=hE s ms ne;exact⟨_,rfl,_,rfl,(by show 2<=1000; decide),fun e he=>⟨e,_,_,rfl,xf,fun dx hdx=>⟨rfl,e,t.C_b,some dx,rfl,xh8 hdx,T.mk_b,hE (.badDrawing _ _) (rfl) e _ (xbl.pre s1 (xh2 rfl rfl he hdx))⟩⟩⟩
   .have eq:cd m ((s.2.1:Int),1+(s.1:Int))=s.2.2:=by
     by_cases z:cd m ((s.2.1:Int),1+(s.1:Int))=s.2.2
     .exact z
     .have y:¬ sgn s.2.2=V.str ⟨#[cd m ((s.2.1:Int),1+(s.1:Int))]⟩:=fun y=>z (xdk (V.str.inj y)).symm;exact absurd (by rw[decide_eq_false y]; rfl) c
    refine⟨_,_,_,rfl,rfl,fun k s' hk hs'=>?_⟩;by_cases z:k=i
    .subst z;rw[hs] at hs';cases hs';exact eq
    .exact all k s' (by omega) hs'
  .rintro σ H5 ⟨v2,v3,v4,rfl,rfl,all⟩;refine q (fun s hs=>?_) _ s1;obtain⟨k,hk⟩:=QS.mp hs;exact all k s (by rw[Za,qll]; exact (Zj.mp hk).1) hk
end
theorem xdb {α:Type}{l:List α}{k:Nat}{x:α} (h:l[k]?=some x) {p:α->Bool}:((l.take (k+1)).filter p=(l.take k).filter p++[x]/\p x=true)\/((l.take (k+1)).filter p=(l.take k).filter p/\p x=false):=by
 rw[xfp h];cases e:p x with
 | true=>exact .inl ⟨rfl,rfl⟩
 | false=>exact .inr ⟨rfl,rfl⟩
theorem xr2 {lc:Nat}{os is:List Sg}{s:Sg} (h:mayB lc os is s=true) (p:outP lc s=true):s.2.2∉os.map fun s=>s.2.2:=by
 unfold outP at p;obtain⟨r,n⟩:=Zr _ _▸p;unfold mayB at h;have b:=xfm n;rw[if_pos r,decide_eq_false (by omega),decide_eq_false (by omega),n,Y2,Qw,JB] at h;exact of_decide_eq_true h
theorem xll {lc:Nat}{os is:List Sg}{s:Sg} (h:mayB lc os is s=true) (p:innP lc s=true):(∀ a∈is,InNe a s)/\is.length<12:=by
 unfold innP at p;obtain⟨r,n⟩:=Zr _ _▸p;have r:rimB lc s.2.1=false:=by simpa using r
 have b:=xfm n;unfold mayB at h;rw[if_neg (by rw[r]; decide),n,JB] at h;have lie:lieB is s.1 s.2.1 s.2.2=true:=by
  rcases Y6 _ _▸h with z|z
  .have z:s.2.2=32\/s.2.2=124\/s.2.2=45\/s.2.2=43\/s.2.2=35:=by simpa using YR.mp z
   omega
  .exact z
 unfold lieB at lie;obtain⟨l1,l23⟩:=Zr _ _▸lie;obtain⟨l2,l3⟩:=Zr _ _▸l23;refine⟨fun a ha=>⟨fun z=>of_decide_eq_true l1 (z▸Ze.mpr ⟨a,ha,rfl⟩),?_,?_⟩,of_decide_eq_true l3⟩
 .intro z
  have:=Yf.mp (of_decide_eq_true l2) a ha;exact this (by rw[decide_eq_true z]; rfl)
 .intro z
  have:=Yf.mp (of_decide_eq_true l2) a ha;exact this (by rw[decide_eq_true z,JK])
abbrev xj6 (w:Nat) (G:List (List Nat)) (n:Nat):Prop:=∀ k s,k<n->(sgs G)[k]?=some s->mayB (w+1) (((sgs G).take k).filter (outP (w+1))) (((sgs G).take k).filter (innP (w+1))) s=true
theorem xmb {w:Nat}{G:List (List Nat)}:∀ n,n<=(sgs G).length->xj6 w G n->(((sgs G).take n).filter (innP (w+1))).Pairwise InNe/\(((sgs G).take n).filter (innP (w+1))).length<=12/\((((sgs G).take n).filter (outP (w+1))).map fun s=>s.2.2).Nodup
 | 0,_,_=>⟨.nil,Jb _,Qg⟩
 | n+1,h,am=>by
  obtain⟨s,hs⟩:∃ s,(sgs G)[n]?=some s:=⟨_,Zf h⟩
  obtain⟨i1,i2,i3⟩:=xmb n (by omega) fun k s hk=>am k s (by omega)
  have my:=am n s (by omega) hs;refine⟨?_,?_,?_⟩
  .rcases xdb hs (p:=innP (w+1)) with⟨e,p⟩|⟨e,p⟩
   .rw [e,JE];refine⟨i1,YB _ _,fun a ha b hb=>?_⟩;rw[Zv.mp hb];exact (xll my p).1 a ha
   .rw [e];exact i1
  .rcases xdb hs (p:=innP (w+1)) with⟨e,p⟩|⟨e,p⟩
   .rw [e,Zp,ZZ];have:=(xll my p).2;omega
   .rw [e];exact i2
  .rcases xdb hs (p:=outP (w+1)) with⟨e,p⟩|⟨e,p⟩
   .rw [e,Z8];refine ZU.mpr ⟨i3,by simp,fun a ha b hb z=>xr2 my p ?_⟩;have hb:b=s.2.2:=by simpa using hb
    rw[<- hb,<- z];exact ha
   .rw [e];exact i3
theorem xrw {w:Nat}{G:List (List Nat)} (tx:Txs (w+2) G) (am:xj6 w G (sgs G).length) (ou:∀ s∈outs w G,s.2.2∈(inns w G).map fun s=>s.2.2):xca w G:=by
 obtain⟨a,b,c⟩:=xmb _ (Zi _) am;rw[JM] at a b c;refine⟨tx,fun s hs n=>?_,a,b,c,ou⟩;obtain⟨k,hk⟩:=QS.mp hs;have my:=am k s (Zj.mp hk).1 hk;unfold mayB at my;by_cases r:rimB (w+1) s.2.1=true
 .rw [if_pos r,n,JD,Y2] at my;rw[if_pos r];simpa using my
 .rw [if_neg r,n,JD,Y2] at my;rw[if_neg r];exact YR.mp my
structure xqs (t:Adr) (H:Hp) (q b dp do_ lp:Addr) (ts:List Addr) (w:Nat) (G:List (List Nat)) (es fs:List Sg):Prop where
 sn:xji t H q b dp do_ lp ts w G es fs
 g:xca w G
 al:∀ s∈sgs G,cd (xdz w (es.map (toPt G.length)) (srtS w G) (fs.map (toPr w G))) ((s.2.1:Int),1+(s.1:Int))=s.2.2
def xsm (t:Adr):Sp:=fun vs H Q E=>∃(l:Addr) (w:Nat) (G:List (List Nat)),vs=[.ref l]/\H l=some (.lst (GV G))/\Txs (w+2) G /\
 (∀(i j:Nat),i<G.length->j<w+2->¬ (xca w G/\xjh w G)->∀ er,er=Er.badDrawing (.int (i:Int)) (.int (j:Int))->∀ e H',xbl t H H' e er->E e t.C_b H') /\
 ∀(H':Hp) (q b dp do_ lp:Addr) (ts:List Addr) (es fs:List Sg),Same H H'->xqs t H' q b dp do_ lp ts w G es fs->Q (.ref q) H'
section
variable {P:Program}{w:World}{K:Zd}{mg:Str->Option Value}{base:Heap}{t:Adr}
theorem xpw (T:Txt w K mg t):FnOk true P w K mg base (CXo P w) 9 t.f_seen t.d_seen ["rows"] (xsm t):=by
 refine T.F_seen.okx (k:=8) xcx (fun vs H Q E h=>?_) (fun cdv A outer s H vs Q E hr h=>?_)
 .obtain ⟨l,w',G,rfl,_⟩:=h;rfl
 .obtain ⟨l,w',G,rfl,h⟩:=h;refine⟨_,xk (xax (xu (ok_as T) (hr.mono (by decide)) rfl T.g_as T.F_as.kp T.b_as .nil xa8.pass (xb (pv 0) (xg))))
   (xk (xw (i:=1) xcx.nd rfl (J8 rfl) (xe3 T.k_t (ok_al T) (hr.mono (by decide)) rfl T.g_t T.b_al .nil xa8.pass (xb (xt xer (x8 xba rfl T.n_len Jy (xb (xab xak (pv 0) (xj) (fun _ _=>rfl)) (xg))) (xj)) (xg))))
   (xk (xa4 PassesOwn.leaving rfl (xa0 (xu (ok_ax T) (hr.mono (by decide)) rfl T.g_ax T.F_ax.kp T.b_ax .nil xa8.pass (xb (pv 0) (xg)))) (xap rfl (xr (xq (i:=2) xcx.nd rfl (Zn rfl)) (xr (xq (i:=3) xcx.nd rfl (Zn rfl)) (xr (xq (i:=4) xcx.nd rfl (Zn rfl)) (xag))))) (xm (xax (xat (pv 1) T.c_t T.m_u ((ok_u T).or (okT_u T)) (hr.mono (by decide)) T.b_u .nil xa8.pass (xb (pv 2) (xb (pv 3) (xb (pv 4) (xg))))))))
   (xk (xlo (xa4 PassesOwn.leaving rfl (xgw (xaa (pv 1) rfl)) (xap rfl (xr (xq (i:=5) xcx.nd rfl (Zn rfl)) (xr (xq (i:=6) xcx.nd rfl (Zn rfl)) (xag)))) (xm (xae (xe1 (xel (xbo hr) (pv 5) (xaa (pv 1) rfl))) (xm (xgo (hr.hd rfl) xa8 (xgs T.k_b (ok_n T) (hr.mono (by decide)) rfl T.g_b T.b_n .nil (xb (xab xbq (pv 6) (xj) (fun _ _=>rfl)) (xb (xab xbq (pv 6) (xj) (fun _ _=>rfl)) (xg)))))) (x4)))))
   (xk (xw (i:=7) xcx.nd rfl (Zn rfl) (xu (ok_aj T) (hr.mono (by decide)) rfl T.g_aj T.F_aj.kp T.b_aj .nil xa8.pass (xb (pv 0) (xb (pv 1) (xg)))))
   (xk (xch rfl (xbh (zs:=["name"]) (ys:=["letters"]) (fr:=[1]) (N0:=["rows", "letters", "row", "column", "sign", "name", "place", "picture", "pairs"]) (sc0:=xo xg6) (by decide +kernel) rfl rfl rfl) (xa0 (x8 (xfs rfl) rfl T.n_sorted PyProof.Rows.Boot.«sorted» (xb (xaa (pv 1) rfl) (xg)))) (fun _ _ _ _ _ ow nd=>xq (i:=0) nd rfl (Zn (ow _ (by simp))) (J8 (ow _ (by simp)))) (xbz (by decide)) (fun _ _ _ _ _=>xbu) (fun _ _ _ _ _=>xt (r:=xm1 K) xlh (xaj (xb (pv 0) (xg))) (xu (ok_a5 T) (hr.mono (by decide)) rfl T.g_a5 T.F_a5.kp T.b_a5 .nil xn (xb (xf8 (xbo hr) ((xaa (pv 1) rfl:PE _ _ (tFld K _ _))) (pv 0) (fun _ _=>rfl)) (xg)))) (j:=8) rfl (Zn rfl))
   (xk (xax (xu (okT_af T) (hr.mono (by decide)) rfl T.g_af T.F_af.kp T.b_af .nil xa8.pass (xb (pv 0) (xb (xu (xfe T) (hr.mono (by decide)) rfl T.g_drawn T.F_drawn.kp T.b_drawn .nil xa8.pass (xb (pv 7) (xb (pv 8) (xg)))) (xg)))))
   (xm (x0 (xaj (xb (pv 7) (xb (pv 8) (xg)))))))))))),?_⟩
  obtain⟨hl,tx,hB,q⟩:=h;have h1:=tx.h1;have h2:=tx.h2;have w1:=tx.w1;have w2:=tx.w2;have gl:=xcj G;obtain⟨r0,hr0⟩:∃ r,G[0]?=some r:=⟨_,Zf h1⟩
  have l0:=tx.wd r0 (Zo hr0);refine⟨_,rfl,l,w'+2,G,rfl,hl,tx,fun H1 s1=>?_⟩;have hl1:=s1 _ _ hl;refine⟨_,rfl,l,_,0,.str (ofL r0),rfl,rfl,SqL.of hl1,?_,_,rfl,?_,_,_,rfl,rfl,fun a dx ha hdx ne=>?_⟩
  .show atI (GV G) ((0:Nat):Int)=_;exact xbt (xfd hr0)
  .rw [xaz,l0];exact Zs (by omega:_<=1000) (by decide)
  refine⟨a,dx,w'+1,?_,xf,fun H2 o i ho hi k2 lt2=>⟨rfl,?_⟩⟩
  .show [V.ref a,V.int (((ofL r0).length:Int)-1)]=[V.ref a,V.int ((w'+1:Nat):Int)]
   rw[xaz,l0,show ((w'+2:Nat):Int)-1=((w'+1:Nat):Int) by omega]
  have up:∀ b,upd (upd H1 dx (.own a)) a (.ins t.C_t dx []) b=none->H b=none:=fun b z=>by
   cases e:H b with
   | none=>rfl
   | some u =>
    have e1:=s1 _ _ e;rw[xh (xi e1 ha),xh (xi e1 hdx),e1] at z;cases z
  have fo:=up _ ho;have fi:=up _ hi;have s2:Same H H2:=fun b u e=>by
   have e1:=s1 _ _ e;exact k2 b u (xi e1 ha) (by rw[xh (xi e1 ha),xh (xi e1 hdx)]; exact e1)
  refine⟨_,rfl,l,w'+2,G,rfl,s2 _ _ hl,tx,fun H3 l3 qs s3 f3 e3 tl3=>⟨l3,rfl,⟨_,SqL.of e3⟩,?_⟩⟩;have qll:=tl3.1;have gll:(sgs G).length<=512:=by
   have e:=xe8 tx G.length (Zi _);have b512:G.length*(w'+2)<=16*32:=Qe h2 w2;unfold sgs;omega
  have f3H:=s2.free f3;refine xbd (xs:=qs.map V.ref) (Pv:=fun k σ H5=>∃(v2 v3 v4:Option V),σ=[some (.ref l),some (.ref a),v2,v3,v4,none,none,none,none]/\Same H H5/\Let t H5 a o i (w'+1) (((sgs G).take k).filter (outP (w'+1))) (((sgs G).take k).filter (innP (w'+1)))/\H5 l3=some (.lst (qs.map V.ref))/\TL sgV H5 (sgs G) qs/\xj6 w' G k) ⟨_,_,_,rfl,s2.trans s3,lt2.same s3,e3,tl3,fun k s z=>absurd z (by omega)⟩ ?_ ?_ ?_
  .rintro k σ H5 _ ⟨_,_,_,rfl,_,_,e5,_⟩;exact SqL.of e5
  .rintro k x σ H5 hx ⟨v2,v3,v4,rfl,s5,lt5,e5,tl5,am5⟩;rw[Zh,Zl] at hx;obtain⟨qa,hqa,rfl⟩:=hx;obtain⟨s,hs,hq⟩:=tl5.get hqa;obtain⟨⟨dx5,ins5⟩,⟨ko,hko,_⟩,⟨ki,hki,_⟩,_⟩:=id lt5;refine⟨qa,_,rfl,SqT.of hq,rfl,_,_,rfl,_,_,rfl,_,_,rfl,rfl,?_⟩;have lf:∀ p:Sg->Bool,(((sgs G).take k).filter p).length<=600:=fun p=>by
    refine Zs (QU _ _) ?_;rw[ZQ];omega
   obtain⟨r1,r2,_⟩:=(xdx tx).mp (Zo hs);refine⟨_,rfl,a,dx5,_,rfl,ins5,xfa (by decide +kernel),_,rfl,_,rfl,_,rfl,?_⟩;cases my:mayB (w'+1) (((sgs G).take k).filter (outP (w'+1))) (((sgs G).take k).filter (innP (w'+1))) s with
   | false=>exact .inr ⟨a,o,i,w'+1,_,_,s,rfl,lt5,lf _,my,fun er her e H' ra=>hB s.1 s.2.1 r1 r2 (fun z=>by rw[xsr z.1 hs] at my; cases my) er her e H' (xbl.pre s5 ra)⟩
   | true =>
   refine .inl ⟨a,o,i,w'+1,_,_,s,rfl,lt5,lf _,lf _,my,fun H6 k6 lt6=>?_⟩;have tp:Tups H5 H6:=fun c xs e=>k6 _ _ (xai e hko (fun z=>nomatch z)) (xai e hki (fun z=>nomatch z)) e;refine⟨_,_,_,rfl,fun b u e=>k6 _ _ (xi e fo) (xi e fi) (s5 _ _ e),?_,k6 _ _ (xai e5 hko (fun z=>nomatch z)) (xai e5 hki (fun z=>nomatch z)) e5,tl5.keep tp,fun k' s' hk' hs'=>?_⟩
   .rw [xfp hs,xfp hs];exact lt6
   .by_cases z:k'=k
    .subst z;rw[hs] at hs';cases hs';exact my
    .exact am5 k' s' (by omega) hs'
  rintro σ H5 ⟨v2,v3,v4,rfl,s5,lt5,_,_,am⟩;rw[Za,qll] at am;rw[Za,qll,JM] at lt5;have lt5:Let t H5 a o i (w'+1) (outs w' G) (inns w' G):=lt5;obtain⟨⟨dx5,ins5⟩,⟨ko,hko,ldo⟩,⟨ki,hki,ldi⟩,noi⟩:=id lt5;refine⟨_,rfl,a,_,dx5,_,_,rfl,ins5,T.c_t,T.n_bc,ltO,o,ko,rfl,hko,fun ob nf=>?_⟩;refine xpa (Pv:=fun k σ H6=>∃(v5 v6:Option V),σ=[some (.ref l),some (.ref a),v2,v3,v4,v5,v6,none,none]/\H6 o=some (.frz ob (.dK ko))/\(∀ b u,b≠o->H5 b=some u->H6 b=some u)/\∀ n s,n<k->(outs w' G)[n]?=some s->s.2.2∈(inns w' G).map fun s=>s.2.2) ⟨_,_,rfl,xf,fun b u nb e=>by rw[xh nb]; exact e,fun n s z=>absurd z (by omega)⟩ ?_ ?_ ?_
  .rintro k σ H6 _ ⟨_,_,rfl,e6,_,_⟩;exact e6
  .rintro n k x p σ H6 hx hp ⟨v5,v6,rfl,e6,k6,ou6⟩;obtain⟨s,qa,hs,rfl,rfl,hqa⟩:=ldo.get hx;have k7:∀ b u,b≠o->H5 b=some u->upd H6 p (.tup [kV (.inr (ofL [s.2.2])),.ref qa]) b=some u:=fun b u nb e=>by
    have e':=k6 _ _ nb e;rw[xh (xi e' hp)];exact e'
   have e7:upd H6 p (.tup [kV (.inr (ofL [s.2.2])),.ref qa]) o=some (.frz ob (.dK ko)):=by
    rw[xh (xi e6 hp)];exact e6
   refine⟨p,_,rfl,SqT.of xf,rfl,_,_,rfl,_,_,rfl,rfl,?_⟩;refine⟨_,rfl,_,rfl,a,_,dx5,_,_,rfl,k7 _ _ (xai ins5 hko (fun z=>nomatch z)) ins5,T.c_t,T.n_ba,ltI,i,_,rfl,DGet.k (k:=.inr (ofL [s.2.2])) (k7 _ _ (ZF noi) hki),_,rfl,?_⟩;rw[ldi.is];have ms:=Zo hs;obtain⟨r1,r2,_⟩:=(xdx tx).mp (ZJ.mp ms).1;have hqa7:=k7 _ _ (xai hqa hko (fun z=>nomatch z)) hqa;have s07:Same H (upd H6 p (.tup [kV (.inr (ofL [s.2.2])),.ref qa])):=fun b u e=>k7 _ _ (xi e fo) (s5 _ _ e);refine ite2 (fun c=>?_) (fun c=>?_)
   .have ni:¬ s.2.2∈(inns w' G).map fun s=>s.2.2:=fun z=>by
     rw[decide_eq_true z] at c;cases c
    have hE:=hB s.1 s.2.1 r1 r2 (fun z=>ni (z.1.ou2 s ms));exact⟨_,rfl,qa,_,0,.int (s.1:Int),rfl,rfl,SqT.of hqa7,rfl,_,rfl,qa,_,1,.int (s.2.1:Int),rfl,rfl,SqT.of hqa7,rfl,(by show 2<=1000; decide),fun e he=>⟨e,_,_,rfl,xf,fun dx hdx=>⟨rfl,e,t.C_b,some dx,rfl,xh8 hdx,T.mk_b,hE (.badDrawing _ _) (rfl) e _ (xbl.pre s07 (xh2 rfl rfl he hdx))⟩⟩⟩
   .have yi:s.2.2∈(inns w' G).map fun s=>s.2.2:=by
     by_cases z:s.2.2∈(inns w' G).map fun s=>s.2.2
     .exact z
     .exact absurd (by rw[decide_eq_false z]; rfl) c
    refine⟨_,_,rfl,e7,k7,fun n' s' hn' hs'=>?_⟩;by_cases z:n'=n
    .subst z;rw[hs] at hs';cases hs';exact yi
    .exact ou6 n' s' (by omega) hs'
  rintro σ H6 ⟨v5,v6,rfl,e6,k6,ou6⟩;have kol:=ldo.len;have g:xca w' G:=xrw tx am fun s hs=>by
   obtain⟨n,hn⟩:=QS.mp hs;exact ou6 n s (by rw[kol]; exact (Zj.mp hn).1) hn
  refine⟨o,ob,.dK ko,e6,nf,?_⟩;have s7:Same H5 (upd H6 o (.dK ko)):=fun b u e=>by
   by_cases z:b=o
   .subst z;rw[xf,<- e,hko]
   .rw [xh z];exact k6 _ _ z e
  revert s7;generalize upd H6 o (.dK ko)=H7;intro s7;clear e6 k6;have s07:=s5.trans s7;have lt7:=lt5.same s7;refine⟨_,rfl,_,rfl,l,a,o,i,w',G,rfl,s07 _ _ hl,lt7,g,fun H8 b dp do_ es s8 fb fdp pe le pic8 st8=>?_⟩;have s08:=s07.trans s8;have lt8:=lt7.same s8;obtain⟨⟨dx8,ins8⟩,⟨ko8,hko8,ldo8⟩,_⟩:=id lt8;have pok:=xex g pe;have dr8:Dr t H8 b dp do_ w' G.length (es.map (toPt G.length)) (rimS w' G) (srtS w' G):=⟨pic8,st8,xm4 g,xjx w' G,xuf w' G,fun p hp=>(pok.ok p hp).nm⟩
  have ol:(outs w' G).length<=12:=by
   have z:=(xhv g pe (.refl _)).len;rw[Za] at z;exact z
  refine⟨_,rfl,a,_,dx8,_,_,rfl,ins8,T.c_t,T.n_bc,ltO,o,(outs w' G).map (fun s=>ofL [s.2.2]),rfl,.inr ⟨ko8,hko8,ldo8.keys⟩,(by rw[Za]; omega),fun ls ns hls pm srt=>?_⟩;obtain⟨fs,pf,rfl⟩:=xit pm rfl;have ndf:=(pf.map fun s=>s.2.2).nodup_iff.mpr g.ou1;have lf:=xht srt ndf;have fl:=pf.length_eq;have s9:Same H8 (upd H8 ls (.lst ((fs.map fun s=>ofL [s.2.2]).map V.str))):=xp (Same.refl _) hls;have g9:upd H8 ls (.lst ((fs.map fun s=>ofL [s.2.2]).map V.str)) ls=some (.lst ((fs.map fun s=>ofL [s.2.2]).map V.str)):=xf;revert s9 g9;generalize upd H8 ls (.lst ((fs.map fun s=>ofL [s.2.2]).map V.str))=H9;intro s9 g9;refine⟨ls,rfl,⟨_,SqL.of g9⟩,fun l10 hl10=>?_⟩;refine xem (SqL.of g9) (by rw[Za,Za]; exact Z9 (by omega:_<=1000) (by decide)) hl10 (fun j y H5=>∃ q s,y=.ref q/\fs[j]?=some s/\H5 q=some (.tup (prV (toPr w' G s)))) (fun j y H5 H6 tp ⟨q,s,e1,e2,e3⟩=>⟨q,s,e1,e2,tp _ _ e3⟩) (fun j x H10 hx s10 N hN=>?_) (fun ys H10 s10 e10 ly fy=>?_)
  .rw [Zh,Zh] at hx;obtain⟨x2,hx2,rfl⟩:=Zl.mp hx;obtain⟨s,hs,rfl⟩:=Zl.mp hx2;have ms:=pf.mem_iff.mp (Zo hs);obtain⟨qa,hv,hq⟩:=(ldo8.keep (Same.tups (s9.trans s10))).at_ ms g.ou1;have ins10:=(s9.trans s10) _ _ ins8;have hko10:=(s9.trans s10) _ _ hko8;refine⟨_,rfl,(by show 1<=sizeLine; decide),fun p1 hp1=>?_⟩;have s11:Same H10 (upd H10 p1 (.tup [.str (ofL [s.2.2])])):=xp (Same.refl _) hp1;have g11:upd H10 p1 (.tup [.str (ofL [s.2.2])]) p1=some (.tup [.str (ofL [s.2.2])]):=xf;revert s11 g11;generalize upd H10 p1 (.tup [.str (ofL [s.2.2])])=H11;intro s11 g11;have dg:=DGet.k (k:=.inr (ofL [s.2.2])) (s11 _ _ hko10);rw[hv] at dg;refine⟨_,rfl,a,_,dx8,_,_,rfl,s11 _ _ ins10,T.c_t,T.n_bc,ltO,_,rfl,o,_,rfl,dg,qa,s.1,s.2.1,rfl,s11 _ _ hq,fun H12 q12 s12 f12 e12=>?_⟩;refine⟨p1,q12,_,_,rfl,rfl,SqT.of (s12 _ _ g11),SqT.of e12,(by simp),(by show 1+2<=sizeLine; decide),(fun z=>nomatch z),fun _ p2 hp2=>hN _ _ (fun b u e=>xp (Same.refl _) hp2 _ _ (s12 _ _ (s11 _ _ e))) ⟨p2,s,rfl,hs,?_⟩⟩;obtain⟨_,_,_,z,_,ez,et⟩:=xeq g ms;rw[xf,et];show some (HO.tup ([V.str (ofL [s.2.2])]++xcq (xah s)))=some (HO.tup (.str (ofL [z.2.2])::xcq (xah s)));rw[ez];rfl
  rw[Za,Za] at ly;obtain⟨ts,rfl,prl⟩:=PrsL.pick (H:=H10) (ps:=fs.map (toPr w' G)) (ys:=ys) (by rw[ly,Za]) (fun j y p hy hp=>by
   obtain⟨q,s,e1,e2,e3⟩:=fy j y hy;rw[Zh,e2] at hp;cases hp;exact⟨q,e1,e3⟩)
  have s810:=s9.trans s10;have dr10:=dr8.same s810;have pal:=xhv g pe pf;refine⟨_,rfl,_,rfl,_,rfl,b,l10,dp,do_,w',G.length,es.map (toPt G.length),rimS w' G,srtS w' G,fs.map (toPr w' G),ts,rfl,dr10,e10,prl,pal.ok,pal.len,fun H11 ld s11 fld e11=>?_⟩;refine⟨l,ld,w',G,_,rfl,s11 _ _ (s810 _ _ (s08 _ _ hl)),tx,e11,xgy (fun p hp=>(pok.ok p hp).nm) (fun p hp=>(pal.ok p hp).nm),fun s ms ne er her e H' ra=>?_,fun al H12 s12=>?_⟩
  .obtain ⟨r1,r2,_⟩:=(xdx tx).mp ms;exact hB s.1 s.2.1 r1 r2 (fun z=>ne (z.2 es fs pe pf s ms)) er her e H' (xbl.pre (s08.trans (s810.trans s11)) ra)
  refine⟨_,rfl,_,rfl,(by show 2<=sizeLine; decide),fun qt hqt=>?_⟩;have s812:=(s810.trans s11).trans s12;have s012:=s08.trans s812;have s13:Same H12 (upd H12 qt (.tup [.ref b,.ref l10])):=xp (Same.refl _) hqt;have g13:upd H12 qt (.tup [.ref b,.ref l10]) qt=some (.tup [.ref b,.ref l10]):=xf;revert s13 g13;generalize upd H12 qt (.tup [.ref b,.ref l10])=H13;intro s13 g13;have s1013:=(s11.trans s12).trans s13;exact q H13 qt b dp do_ l10 ts es fs (s012.trans s13) ⟨⟨pe,le,pf,lf,g13,dr10.same s1013,s1013 _ _ e10,prl.keep (Same.tups s1013)⟩,g,al⟩
end
def xqo:Sp:=fun vs H Q _=>∃(w:Nat) (c:Int) (dg:Bool) (lp ls:Addr) (h:Nat) (ps:List Pt) (ss:List Seat) (qs rs:List Addr),vs=[.int c,.bl dg,.ref lp,.int (h:Int),.ref ls]/\h<=16/\H lp=some (.lst (qs.map V.ref))/\PtsL H ps qs/\xcs (w:Int) (h:Int) ps/\H ls=some (.lst (rs.map V.ref))/\xac H ss rs/\SsOk (h:Int) ss /\
 ∀ H' l prs ts,xhc (w:Int) (h:Int) ps prs->Same H H'->H l=none->H' l=some (.lst (ts.map V.ref))->PrsL H' prs ts->Q (.ref l) H'
def IPr3 (H:Hp) (lp ls lf l2:Addr) (dg:Bool) (a b:Int) (w h:Nat) (ps:List Pt) (k:Nat) (σ:L2.St) (H5:Hp):Prop:=∃(c:Int) (ss:List Seat) (rs:List Addr) (prs:List Pr) (ts:List Addr) (v6 v7 v8 v9 v10:Option V),σ=[some (.int c),some (.bl dg),some (.ref lp),some (.int (h:Int)),some (.ref ls),some (.int a),some (.int b),some (.ref lf),some (.ref l2),v6,v7,v8,v9,v10] /\
 Same H H5/\H5 lf=some (.lst (rs.map V.ref))/\xac H5 ss rs/\SsOk (h:Int) ss/\H5 l2=some (.lst (ts.map V.ref))/\PrsL H5 prs ts/\(∀ p∈prs,PrOk ps (w:Int) (h:Int) p)/\prs.length<=k/\(prs.map (·.2)).Nodup/\(∀ p∈prs,p.2∉ss)/\List.Sublist (prs.map (·.1)) (ps.take k)
section
variable {P:Program}{w:World}{K:Zd}{mg:Str->Option Value}{base:Heap}{t:Adr}
theorem ok_aq (T:Txt w K mg t):FnOk true P w K mg base (CXo P w) 3 t.f_aq t.d_aq ["_law_cell", "_law_digits", "_law_points_here", "_law_height", "_law_seats_here"] (xqo):=by
 refine T.F_aq.okn (k:=2) sc_aq (fun vs H Q E h=>?_) (fun cdv A outer s H vs Q E hr h=>?_)
 .obtain ⟨w',c,dg,lp,ls,h',ps,ss,qs,rs,rfl,_⟩:=h;rfl
 .obtain ⟨w',c,dg,lp,ls,h',ps,ss,qs,rs,rfl,h⟩:=h;refine⟨_,xk (xcc (xu (ok_y T) (hr.mono (by decide)) rfl T.g_y T.F_y.kp T.b_y .nil xn (xb (pv 0) (xb (pv 1) (xb (xbj (xb (xj) (xb (xj) (xg)))) (xg))))) (xr5 rfl (xr (xq (i:=5) sc_aq.nd rfl (Zn rfl)) (xr (xq (i:=6) sc_aq.nd rfl (Zn rfl)) (xag)))))
   (xk (xbe (xae (xas (pv 1)) (xm (xw (i:=0) sc_aq.nd rfl (Zn rfl) (xt xd1 (pv 0) (xj)))) (x4)))
   (xk (xw (i:=7) sc_aq.nd rfl (Zn rfl) (xbr xd9 rfl T.n_list boot_list (xb (pv 4) (xg))))
   (xk (xbe (xae (x5 xa7 (xt xad (pv 5) (xj)) (xj) (x6 _)) (xm (xw (i:=7) sc_aq.nd rfl (Zn rfl) (xu (ok_ab T) (hr.mono (by decide)) rfl T.g_ab T.F_ab.kp T.b_ab .nil xn (xb (pv 3) (xg))))) (x4)))
   (xk (xw (i:=8) sc_aq.nd rfl (Zn rfl) (xbj (xg)))
   (xk (xa4 ZO rfl (xcd rfl T.n_enumerate (xb (pv 2) (xg))) (xap rfl (xr (xq (i:=9) sc_aq.nd rfl (Zn rfl)) (xr (xq (i:=10) sc_aq.nd rfl (Zn rfl)) (xag)))) (xk (xw (i:=11) sc_aq.nd rfl (Zn rfl) (xu (ok_y T) (hr.mono (by decide)) rfl T.g_y T.F_y.kp T.b_y .nil xn (xb (xt xan (pv 0) (xt xd4 (xt xd4 (xj) (pv 9)) (xbr xn6 rfl T.n_int boot_int (xb (xnc (pv 1)) (xg))))) (xb (pv 1) (xb (xbj (xb (xj) (xb (xj) (xg)))) (xg))))))
   (xk (xbe (xae (xas (pv 1)) (xm (xw (i:=0) sc_aq.nd rfl (Zn rfl) (xt xd1 (pv 0) (xj)))) (x4)))
   (xm (xbe (xae (PW.pt (xdq (x5 (xg8 (xcn hr)) (pv 7) (xbj (xg)) (x6 _)) (xdd (x5 xq3 (xt xad (xab xak (pv 11) (xj) (fun _ _=>rfl)) (xj)) (xj) (x6 _))))) (xk (xcc (xco Jd YO YN xfb (pv 7) (xb (xt xad (xab xak (pv 11) (xj) (fun _ _=>rfl)) (x8 xbf rfl T.n_len Jy (xb (pv 7) (xg)))) (xg))) (xap rfl (xr (xq (i:=12) sc_aq.nd rfl (Zn rfl)) (xr (xq (i:=13) sc_aq.nd rfl (Zn rfl)) (xag)))))
   (xm (xax (xco Jd JX JW xc0 (pv 8) (xb (xaj (xb (xab xbq (pv 10) (xj) (fun _ _=>rfl)) (xb (pv 12) (xb (pv 13) (xg))))) (xg)))))) (x4)))))))
   (xk (xbe (xae (x5 xa7 (xt xad (pv 6) (xj)) (xj) (x6 _)) (xm (x0 (xmi rfl rfl T.n_list rfl T.n_reversed (xb (pv 8) (xg))))) (x4)))
   (xm (x0 (pv 8))))))))),?_⟩
  obtain⟨h16,hlp,ptl,pok,hls,stl,sok,q⟩:=h;have pll:=ptl.len;have ple:=pok.le;refine⟨_,rfl,_,rfl,(by show 2<=sizeLine; decide),fun lb hlb=>?_⟩;have s1:Same H (upd H lb (.lst [.int 2,.int 2])):=xp (Same.refl _) hlb;have g1:upd H lb (.lst [.int 2,.int 2]) lb=some (.lst [.int 2,.int 2]):=xf;revert s1 g1;generalize upd H lb (.lst [.int 2,.int 2])=H1;intro s1 g1;refine⟨c,dg,lb,[2,2],rfl,g1,by decide,by decide,fun H2 l0 ns2 s2 f2 e2 n2=>?_⟩;obtain⟨a,b,rfl⟩:∃ a b,ns2=[a,b]:=by
   match ns2,n2 with
   | [a,b],_=>exact⟨a,b,rfl⟩
  have s02:=s1.trans s2;refine⟨l0,_,rfl,SqL.of e2,rfl,_,_,rfl,_,_,rfl,rfl,?_⟩;refine⟨fun σ H3=>∃ c:Int,σ=[some (.int c),some (.bl dg),some (.ref lp),some (.int (h':Int)),some (.ref ls),some (.int a),some (.int b),none,none,none,none,none,none,none]/\H2=H3,?_,?_⟩
  .exact ⟨_,rfl,_,rfl,ite2 (fun y=>⟨_,rfl,_,_,rfl,rfl,⟨by decide,by decide⟩,_,rfl,rfl⟩) (fun y=>⟨_,rfl,rfl⟩)⟩
  rintro σ _ ⟨c,rfl,rfl⟩;refine⟨_,rfl,ls,_,rfl,.inl (SqL.of (s02 _ _ hls)),fun lf0 hlf0=>?_⟩;have s3:Same H2 (upd H2 lf0 (.lst (rs.map V.ref))):=xp (Same.refl _) hlf0;have g3:upd H2 lf0 (.lst (rs.map V.ref)) lf0=some (.lst (rs.map V.ref)):=xf;revert s3 g3;generalize upd H2 lf0 (.lst (rs.map V.ref))=H3;intro s3 g3;have s03:=s02.trans s3;refine⟨fun σ H5=>∃(lf:Addr) (ss':List Seat) (rs':List Addr),σ=[some (.int c),some (.bl dg),some (.ref lp),some (.int (h':Int)),some (.ref ls),some (.int a),some (.int b),some (.ref lf),none,none,none,none,none,none]/\Same H H5/\H lf=none/\H5 lf=some (.lst (rs'.map V.ref))/\xac H5 ss' rs'/\SsOk (h':Int) ss',?_,?_⟩
  .refine ⟨_,rfl,_,_,rfl,rfl,(by show (0:Int)<2; decide),rfl,_,rfl,ite2 (fun y=>?_) (fun y=>⟨lf0,ss,rs,rfl,s03,s02.free hlf0,g3,stl.keep (Same.tups s03),sok⟩)⟩;exact⟨_,rfl,h',rfl,h16,fun H5 lf ss' rs' _ o5 s5 f5 e5 sl5=>⟨lf,ss',rs',rfl,s03.trans s5,s03.free f5,e5,sl5,o5⟩⟩
  rintro σ H5 ⟨lf,ss5,rs5,rfl,s5,flf,e5,sl5,o5⟩;refine⟨(by show 0<=sizeLine; decide),fun l2 hl2=>?_⟩;have s6:Same H5 (upd H5 l2 (.lst [])):=xp (Same.refl _) hl2;have g6:upd H5 l2 (.lst []) l2=some (.lst []):=xf;revert s6 g6;generalize upd H5 l2 (.lst [])=H6;intro s6 g6;have nfl:lf≠l2:=xi e5 hl2;have fl2:=s5.free hl2;refine⟨_,rfl,lp,_,rfl,SqL.of (s6 _ _ (s5 _ _ hlp)),?_⟩;refine xd7 (xs:=qs.map V.ref) (Pv:=IPr3 H lp ls lf l2 dg a b w' h' ps) ⟨c,ss5,rs5,[],[],_,_,_,_,_,rfl,s5.trans s6,s6 _ _ e5,sl5.keep (Same.tups s6),o5,g6,.nil,fun _ z=>(nomatch z),Zi _,.nil,fun _ z=>(nomatch z),List.nil_sublist _⟩ ?_ ?_ ?_
  .rintro i σ H7 _ ⟨_,_,_,_,_,_,_,_,_,_,rfl,s7,_⟩;exact SqL.of (s7 _ _ hlp)
  .rintro k x p σ H7 hx hp ⟨c7,ss7,rs7,prs,ts,v6,v7,v8,v9,v10,rfl,s7,e7,sl7,o7,t7,pr7,ok7,k7,nd7,no7,sb7⟩;rw[Zh,Zl] at hx;obtain⟨qa,hqa,rfl⟩:=hx;obtain⟨pt,hpt,hpq⟩:=ptl.get hqa;have k12:k<12:=by have:=(Zj.mp hpt).1; omega
   have s8:Same H7 (upd H7 p (.tup [.int (k:Int),.ref qa])):=xp (Same.refl _) hp;have g8:upd H7 p (.tup [.int (k:Int),.ref qa]) p=some (.tup [.int (k:Int),.ref qa]):=xf;revert s8 g8;generalize upd H7 p (.tup [.int (k:Int),.ref qa])=H8;intro s8 g8;refine⟨p,_,rfl,SqT.of g8,rfl,_,_,rfl,_,_,rfl,rfl,?_⟩;refine⟨_,rfl,_,rfl,_,_,rfl,rfl,.inl ⟨by decide,by decide⟩,_,rfl,_,rfl,.inr ⟨_,rfl,_,_,rfl,rfl,.inr (by cases dg<;>decide),_,_,rfl,rfl,_,rfl,(by show 2<=sizeLine; decide),fun lb8 hlb8=>?_⟩⟩;have s9:Same H8 (upd H8 lb8 (.lst [.int 5,.int 32])):=xp (Same.refl _) hlb8;have g9:upd H8 lb8 (.lst [.int 5,.int 32]) lb8=some (.lst [.int 5,.int 32]):=xf;revert s9 g9;generalize upd H8 lb8 (.lst [.int 5,.int 32])=H9;intro s9 g9;refine⟨_,dg,lb8,[5,32],rfl,g9,by decide,by decide,fun H10 ln nsn s10 fln en nn=>?_⟩;obtain⟨na,nb,rfl⟩:∃ a b,nsn=[a,b]:=by
    match nsn,nn with
    | [a,b],_=>exact⟨a,b,rfl⟩
   have s710:=(s8.trans s9).trans s10;refine⟨fun σ H11=>∃ c:Int,σ=[some (.int c),some (.bl dg),some (.ref lp),some (.int (h':Int)),some (.ref ls),some (.int a),some (.int b),some (.ref lf),some (.ref l2),some (.int (k:Int)),some (.ref qa),some (.ref ln),v9,v10]/\H10=H11,?_,?_⟩
   .exact ⟨_,rfl,_,rfl,ite2 (fun y=>⟨_,rfl,_,_,rfl,rfl,⟨by decide,by decide⟩,_,rfl,rfl⟩) (fun y=>⟨_,rfl,rfl⟩)⟩
   rintro σ _ ⟨c10,rfl,rfl⟩;refine⟨_,?_,fun _ _ z=>z⟩;refine⟨_,rfl,(by show 0<=sizeLine; decide),fun z1 hz1=>?_⟩;have s11:Same H10 (upd H10 z1 (.lst [])):=xp (Same.refl _) hz1;have g11:upd H10 z1 (.lst []) z1=some (.lst []):=xf;revert s11 g11;generalize upd H10 z1 (.lst [])=H11;intro s11 g11;have s711:=s710.trans s11;have e9:=s711 _ _ e7;have sl9:=sl7.keep (Same.tups s711);have en11:=s11 _ _ en;obtain⟨n,m,d,e,d1,d2,n9,m9,ev⟩:=xpx (K:=K) sl9 e9 g11;refine⟨n,m,d,e,d1,d2,n9,m9,_,rfl,?_⟩;rw[ev];have skip:IPr3 H lp ls lf l2 dg a b w' h' ps (k+1) [some (.int c10),some (.bl dg),some (.ref lp),some (.int (h':Int)),some (.ref ls),some (.int a),some (.int b),some (.ref lf),some (.ref l2),some (.int (k:Int)),some (.ref qa),some (.ref ln),v9,v10] H11:=⟨c10,ss7,rs7,prs,ts,_,_,_,_,_,rfl,s7.trans s711,e9,sl9,o7,s711 _ _ t7,pr7.keep (Same.tups s711),ok7,by omega,nd7,no7,xqc sb7⟩
   refine ite2 (fun y1=>?_) (fun y1=>skip);refine⟨_,rfl,ln,_,0,.int na,rfl,rfl,SqL.of en11,rfl,_,_,rfl,rfl,(by show (0:Int)<5; decide),_,_,rfl,rfl,_,rfl,ite2 (fun y2=>?_) (fun y2=>skip)⟩;have sne:rs7≠[]:=fun z=>by
    have l:=sl7.len;rw[z] at l;have:ss7=[]:=YC.mp l.symm;rw[this] at y1;exact absurd y1 (by decide)
   have r32:rs7.length<=32:=by rw[sl7.len]; exact o7.2.1
   refine⟨_,rfl,.inl ⟨rfl,_,SqL.of e9⟩,_,rfl,ln,_,1,.int nb,rfl,rfl,SqL.of en11,rfl,?_⟩;obtain⟨j,vq,gj,a1,a2,a3,a4⟩:=xg7 nb (xs:=rs7.map V.ref) (fun z=>sne (YZ.mp z)) (by rw[Za]; omega);rw[Zh,Zl] at gj;obtain⟨qs9,hj,rfl⟩:=gj;obtain⟨⟨sd,r⟩,hs,hsq⟩:=sl9.get hj;obtain⟨o10,n10,i10,m10⟩:=xph o7 hs;refine⟨_,rfl,lf,_,rfl,.inl (SqL.of e9),_,_,rfl,rfl,a4,lf,_,_,j,.ref qs9,rfl,rfl,e9,a1,a2,a3,(by rw[Zh,hj]; rfl),?_⟩;have ee:(rs7.map V.ref).eraseIdx j=(rs7.eraseIdx j).map V.ref:=by
    rw[YL,YL,Z8,Wo,Wp]
   rw[ee];have k12':∀ c u,c≠lf->H11 c=some u->upd H11 lf (.lst ((rs7.eraseIdx j).map V.ref)) c=some u:=fun c u nc e=>by rw[xh nc]; exact e
   have g12:upd H11 lf (.lst ((rs7.eraseIdx j).map V.ref)) lf=some (.lst ((rs7.eraseIdx j).map V.ref)):=xf;revert k12' g12;generalize upd H11 lf (.lst ((rs7.eraseIdx j).map V.ref))=H12;intro k12' g12;have t12:Tups H11 H12:=fun c xs e=>k12' _ _ (xai e e9 (fun z=>nomatch z)) e;have s012:Same H H12:=fun c u e=>k12' _ _ (xi e flf) (s711 _ _ (s7 _ _ e));refine⟨qs9,_,rfl,SqT.of (t12 _ _ hsq),rfl,_,_,rfl,_,_,rfl,rfl,?_⟩;have e12t:=k12' _ _ (ZF nfl) (s711 _ _ t7);refine⟨_,rfl,.inl ⟨rfl,_,SqL.of e12t⟩,_,rfl,qa,_,0,.str pt.nm,rfl,rfl,SqT.of (s012 _ _ hpq),rfl,_,rfl,_,rfl,(by show 3<=sizeLine; decide),fun ta hta=>?_⟩;have s13:Same H12 (upd H12 ta (.tup [.str pt.nm,.str (x9 sd),.int r])):=xp (Same.refl _) hta;have g13:upd H12 ta (.tup [.str pt.nm,.str (x9 sd),.int r]) ta=some (.tup [.str pt.nm,.str (x9 sd),.int r]):=xf;revert s13 g13;generalize upd H12 ta (.tup [.str pt.nm,.str (x9 sd),.int r])=H13;intro s13 g13;have g13:H13 ta=some (.tup (prV (pt,sd,r))):=g13;refine⟨l2,_,_,rfl,rfl,s13 _ _ e12t,?_,?_⟩
   .rw [Za,pr7.len];exact Z9 (by omega:_<=1000) (by decide)
   have e13t:=s13 _ _ e12t;have kt:Tups H13 (upd H13 l2 (.lst (ts.map V.ref++[.ref ta]))):=fun c xs e=>by rw[xh (xai e e13t (fun z=>nomatch z))]; exact e
   have pmem:=Zo hpt;have po:=pok.ok pt pmem;refine⟨c10,ss7.eraseIdx j,rs7.eraseIdx j,prs++[(pt,sd,r)],ts++[ta],_,_,_,_,_,rfl,fun c u e=>by rw[xh (xi e fl2)]; exact s13 _ _ (s012 _ _ e),by rw[xh nfl]; exact s13 _ _ g12,(((sl9.erase j).keep t12).keep (Same.tups s13)).keep kt,o10,by rw[xf,Z8]; rfl,PrsL.snoc ((((pr7.keep (Same.tups s711)).keep t12).keep (Same.tups s13)).keep kt) (kt _ _ g13),fun z hz=>?_,by rw[Zp,ZZ]; omega,xga nd7 fun z hz e=>?_,fun z hz=>?_,by rw[Z8]; exact xpc sb7 hpt⟩
   .rcases Z5.mp hz with hz|hz
    .exact ok7 z hz
    .rw [Zv.mp hz];exact⟨po.nm,xr1 pok.nn pmem,(o7.2.2 _ m10).1,(o7.2.2 _ m10).2,po.x1,po.x2,po.y1,po.y2⟩
   .exact no7 z hz (e▸m10)
   .rcases Z5.mp hz with hz|hz
    .exact fun y=>no7 z hz (i10 _ y)
    .rw [Zv.mp hz];exact n10
  .rintro σ H7 ⟨c7,ss7,rs7,prs,ts,v6,v7,v8,v9,v10,rfl,s7,e7,sl7,o7,t7,pr7,ok7,k7,nd7,no7,sb7⟩;have nn7:=xub pok.nn sb7;rw[Za,pll] at k7;refine⟨fun σ H8=>H7=H8/\σ=[some (.int c7),some (.bl dg),some (.ref lp),some (.int (h':Int)),some (.ref ls),some (.int a),some (.int b),some (.ref lf),some (.ref l2),v6,v7,v8,v9,v10],?_,?_⟩
   .refine ⟨_,rfl,_,_,rfl,rfl,(by show (0:Int)<2; decide),rfl,_,rfl,ite2 (fun y=>?_) (fun y=>⟨rfl,rfl⟩)⟩;refine⟨_,rfl,l2,_,rfl,SqL.of t7,fun l3 hl3=>?_⟩;rw[<- List.map_reverse];have s9:Same H7 (upd H7 l3 (.lst (ts.reverse.map V.ref))):=xp (Same.refl _) hl3;have g9:upd H7 l3 (.lst (ts.reverse.map V.ref)) l3=some (.lst (ts.reverse.map V.ref)):=xf;revert s9 g9;generalize upd H7 l3 (.lst (ts.reverse.map V.ref))=H9;intro s9 g9;exact q H9 l3 prs.reverse ts.reverse ⟨fun p hp=>ok7 p (Q3.mp hp),by rw[List.map_reverse]; exact (YH _).nodup_iff.mpr nd7,by rw[JZ]; omega,by rw[List.map_reverse]; exact (YH _).nodup_iff.mpr nn7⟩ (s7.trans s9) (s7.free hl3) g9 (pr7.rev.keep (Same.tups s9))
   rintro σ _ ⟨rfl,rfl⟩;exact⟨_,rfl,q H7 l2 prs ts ⟨ok7,nd7,by omega,nn7⟩ s7 fl2 t7 pr7⟩
end
theorem xig:∀ G:List (List Nat),YE (Zc "") (G.map ofL)=ofL G.flatten
 | []=>rfl
 | [r]=>by
  show ofL r=ofL (r++[]);rw[JG]
 | r::r2::G=>by
  apply xda;have ih:=xig (r2::G);show (ofL r++Zc ""++YE (Zc "") ((r2::G).map ofL)).cps.toList=_;rw[ih,xbv,xbv,xar,xar,xar];show r++[]++(r2::G).flatten=r++(r2::G).flatten;rw[JG]
theorem xid (a:Int) {n:Nat} (h:0<n):∃ k:Nat,a % (n:Int)=(k:Int)/\k<n:=by
 have z:=xc3 a (show (0:Int)<(n:Int) by omega);exact⟨(a % (n:Int)).toNat,by omega,by omega⟩
theorem xp3 {W:Nat}{G:List (List Nat)} (o:Txs W G):0<G.flatten.length/\G.flatten.length<=512:=by
 have h1:=o.h1;have h2:=o.h2;have w1:=o.w1;have w2:=o.w2;have e:∀ L:List (List Nat),(∀ r∈L,r.length=W)->L.flatten.length=L.length*W:=fun L=>by
  induction L with
  | nil=>intro _; simp
  | cons r L ih =>
   intro hL;rw[List.flatten_cons,Zp,ih fun x hx=>hL x (Zy _ hx),hL r Zz,ZL,Nat.add_mul,Nat.one_mul,Nat.add_comm]
 rw[e G o.wd];have a:1*3<=G.length*W:=Qe h1 w1;have b:G.length*W<=16*32:=Qe h2 w2;omega
theorem xib (z:Str) (n:Nat) (k:Int) (hn:0<n) (hl:z.cps.toList.length=n) (all:∀ c∈z.cps.toList,c<128):∃ c,atI z.cps.toList (k % (n:Int))=some c/\c<128:=by
 obtain⟨j,ej,jl⟩:=xid k hn;have h:z.cps.toList[j]?=some (z.cps.toList[j]'(by omega)):=Zf (by omega);exact⟨_,by rw[ej]; exact xbt h,all _ (Zo h)⟩
def xsz:Sp:=fun vs H Q _=>∃(kd nb:Int) (l:Addr) (W:Nat) (G:List (List Nat)),vs=[.int kd,.int nb,.ref l]/\H l=some (.lst (GV G))/\Txs W G/\∀ c,c<128->Q (sgn c) H
theorem xuj (G:List (List Nat)):GV G=(G.map ofL).map V.str:=by
 unfold GV;rw[Z7];rfl
theorem xth {G:List (List Nat)}{y:Nat} (h:y<=G.length):cutV (GV G) none (some (y:Int))=GV (G.take y):=by
 unfold cutV;rw[HT.sIx_none,HT.sIx_nat,xcj,Nat.min_eq_left h,Wd,Nat.sub_zero];unfold GV;rw[Wo]
theorem xp1 {G:List (List Nat)}{y:Nat} (h:y<=G.length):cutV (GV G) (some (y:Int)) none=GV (G.drop y):=by
 unfold cutV;rw[HT.sIx_none,HT.sIx_nat,xcj,Nat.min_eq_left h];unfold GV;rw[Wp,Jk (by rw[JN,Za]; omega)]
def putC (G:List (List Nat)) (y:Nat) (r:List Nat):List (List Nat):=G.take y++[r]++G.drop (y+1)
theorem xh6 {G:List (List Nat)}{y:Nat}{r:List Nat} (h:y<G.length):(putC G y r).length=G.length:=by
 unfold putC;rw[Zp,Zp,ZQ,JN,ZZ];omega
theorem xts {W:Nat}{G:List (List Nat)} (o:Txs W G) {y:Nat}{r:List Nat} (h:y<G.length) (hw:r.length=W) (ha:∀ c∈r,c<128):Txs W (putC G y r):=by
 have mem:∀ z∈putC G y r,z∈G\/z=r:=fun z hz=>by
  unfold putC at hz;rcases Z5.mp hz with hz|hz
  .rcases Z5.mp hz with hz|hz
   .exact .inl (List.mem_of_mem_take hz)
   .exact .inr (Zv.mp hz)
  .exact .inl (List.mem_of_mem_drop hz)
 refine⟨by rw[xh6 h]; exact o.h1,by rw[xh6 h]; exact o.h2,fun z hz=>?_,fun z hz=>?_,o.w1,o.w2⟩
 .rcases mem z hz with y|y
  .exact o.wd z y
  .rw [y];exact hw
 .rcases mem z hz with y|y
  .exact o.asc z y
  .rw [y];exact ha
def xnx:Sp:=fun vs H Q _=>∃(l ln:Addr) (W:Nat) (G:List (List Nat)) (ns:List Int),vs=[.ref l,.ref ln]/\H l=some (.lst (GV G))/\Txs W G/\H ln=some (.lst (ns.map V.int))/\ns.length=8 /\
 ∀ H' l' G',Same H H'->H l'=none->H' l'=some (.lst (GV G'))->Txs W G'->G'.length=G.length->Q (.ref l') H'
theorem xrq (r:List Nat) (x c:Nat) (h:x<r.length):Ys (ofL r) none (some (x:Int))++(⟨#[c]⟩:Str)++Ys (ofL r) (some ((x:Int)+1)) none=ofL (r.take x++[c]++r.drop (x+1)):=by
 rw[xfc (by omega),show (x:Int)+1=((x+1:Nat):Int) by omega,xg9 (by omega)];apply xda;rw[xbv,xbv,xar,xar,xar]
section
variable {P:Program}{w:World}{K:Zd}{mg:Str->Option Value}{base:Heap}{t:Adr}
theorem ok_a4 (T:Txt w K mg t):FnOk true P w K mg base (CXo P w) 1 t.f_a4 t.d_a4 ["_law_kind", "_law_number", "_law_rows"] (xsz):=by
 refine T.F_a4.okn (k:=0) sc_a4 (fun vs H Q E h=>?_) (fun cdv A outer s H vs Q E hr h=>?_)
 .obtain ⟨kd,nb,l,W,G,rfl,_⟩:=h;rfl
 .obtain ⟨kd,nb,l,W,G,rfl,h⟩:=h;refine⟨_,xk (xw (i:=3) sc_a4.nd rfl (Zn rfl) (xco QC PySem.F.slot_str_join PySem.F.type_str_join xl1 (xaf) (xb (pv 2) (xg))))
   (xk (xbe (xae (x5 xa7 (xt xad (pv 0) (xj)) (xj) (x6 _)) (xm (x0 (xab xfx (pv 3) (xt xad (pv 1) (x8 xba rfl T.n_len Jy (xb (pv 3) (xg)))) (fun _ _=>rfl)))) (x4)))
   (xk (xbe (xae (x5 xa7 (xt xad (pv 0) (xj)) (xj) (x6 _)) (xm (x0 (xab xfx (xaf) (xt xad (pv 1) (xj)) (fun _ _=>rfl)))) (x4)))
   (xm (x0 (xab xfx (xaf) (xt xad (pv 1) (xj)) (fun _ _=>rfl)))))),?_⟩
  obtain⟨hl,o,q⟩:=h;have h2:=o.h2;have w2:=o.w2;obtain⟨p1,p2⟩:=xp3 o;refine⟨rfl,_,rfl,Zc "",l,G.map ofL,32,rfl,rfl,by rw[hl,xuj],fun s hs=>?_,?_,?_⟩
  .obtain ⟨r,hr,rfl⟩:=Ze.mp hs;rw[xaz,o.wd r hr];exact w2
  .rw [Za,show (Zc "").length=0 from by decide +kernel];exact Zs (by omega:_<=1000) (by decide)
  rw[xig];have tl:(ofL G.flatten).length<=sizeLine:=by rw[xaz]; exact Zs (by omega:_<=1000) (by decide)
  refine⟨fun σ H1=>H=H1/\σ=[some (.int kd),some (.int nb),some (.ref l),some (.str (ofL G.flatten))],?_,?_⟩
  .refine ⟨_,rfl,_,_,rfl,rfl,(by show (0:Int)<4; decide),rfl,_,rfl,ite2 (fun y=>?_) (fun y=>⟨rfl,rfl⟩)⟩;obtain⟨c,hc,c8⟩:=xib (ofL G.flatten) G.flatten.length nb p1 (by rw[xar]) (fun c hc=>by
    rw[xar] at hc;obtain⟨r,hr,hc⟩:=List.mem_flatten.mp hc;exact o.asc r hr c hc)
   rw[<- xaz] at hc;exact⟨_,rfl,_,rfl,_,rfl,_,rfl,tl,_,_,rfl,rfl,(by rw[xaz]; omega),_,_,c,rfl,rfl,tl,hc,q c c8⟩
  rintro σ _ ⟨rfl,rfl⟩;refine⟨fun σ H1=>H=H1/\σ=[some (.int kd),some (.int nb),some (.ref l),some (.str (ofL G.flatten))],?_,?_⟩
  .refine ⟨_,rfl,_,_,rfl,rfl,(by show (0:Int)<4; decide),rfl,_,rfl,ite2 (fun y=>?_) (fun y=>⟨rfl,rfl⟩)⟩;obtain⟨c,hc,c8⟩:=xib (Zc "abcdefghijklmnopqrstuvwxyz") 26 nb (by decide) (by decide +kernel) (by decide +kernel);exact⟨_,rfl,_,_,rfl,rfl,(by show (0:Int)<26; decide),_,_,c,rfl,rfl,(by decide +kernel),hc,q c c8⟩
  rintro σ _ ⟨rfl,rfl⟩;obtain⟨c,hc,c8⟩:=xib (Zc " |-+#.|-+#.*A~\n\t") 16 nb (by decide) (by decide +kernel) (by decide +kernel);exact⟨_,rfl,_,_,rfl,rfl,(by show (0:Int)<16; decide),_,_,c,rfl,rfl,(by decide +kernel),hc,q c c8⟩
theorem ok_ak (T:Txt w K mg t):FnOk true P w K mg base (CXo P w) 2 t.f_ak t.d_ak ["_law_rows", "_law_numbers_here"] (xnx):=by
 refine T.F_ak.okn (k:=1) sc_ak (fun vs H Q E h=>?_) (fun cdv A outer s H vs Q E hr h=>?_)
 .obtain ⟨l,ln,W,G,ns,rfl,_⟩:=h;rfl
 .obtain ⟨l,ln,W,G,ns,rfl,h⟩:=h;refine⟨_,xk (xw (i:=2) sc_ak.nd rfl (Zn rfl) (xt xad (xab xak (pv 1) (xj) (fun _ _=>rfl)) (x8 xbf rfl T.n_len Jy (xb (pv 0) (xg)))))
   (xk (xw (i:=3) sc_ak.nd rfl (Zn rfl) (xt xad (xab xak (pv 1) (xj) (fun _ _=>rfl)) (x8 xba rfl T.n_len Jy (xb (xab xak (pv 0) (xj) (fun _ _=>rfl)) (xg)))))
   (xk (xbe (xae (x5 xa7 (xt xad (xab xak (pv 1) (xj) (fun _ _=>rfl)) (xj)) (xj) (x6 _)) (xm (xw (i:=3) sc_ak.nd rfl (Zn rfl) (xab xak (xbj (xb (xj) (xb (xt xer (x8 xba rfl T.n_len Jy (xb (xab xak (pv 0) (xj) (fun _ _=>rfl)) (xg))) (xj)) (xg)))) (xt xad (xab xak (pv 1) (xj) (fun _ _=>rfl)) (xj)) (fun _ _=>rfl)))) (x4)))
   (xk (xw (i:=4) sc_ak.nd rfl (Zn rfl) (xu (ok_a4 T) (hr.mono (by decide)) rfl T.g_a4 T.F_a4.kp T.b_a4 .nil xn (xb (xab xak (pv 1) (xj) (fun _ _=>rfl)) (xb (xab xak (pv 1) (xj) (fun _ _=>rfl)) (xb (pv 0) (xg))))))
   (xk (xbe (xae (PW.pt (xdq (xas (xug QC PySem.F.slot_str_isalpha PySem.F.type_str_isalpha xm6 (xab xfx (xab xak (pv 0) (pv 2) (fun _ _=>rfl)) (pv 3) (fun _ _=>rfl)))) (xdd (x5 xa7 (xt xad (xab xak (pv 1) (xj) (fun _ _=>rfl)) (xj)) (xj) (x6 _))))) (xm (xw (i:=4) sc_ak.nd rfl (Zn rfl) (xaf))) (x4)))
   (xk (xw (i:=5) sc_ak.nd rfl (Zn rfl) (xt xh0 (xt xh0 (xct xns (xab xak (pv 0) (pv 2) (fun _ _=>rfl)) xew (xcp (pv 3))) (pv 4)) (xct xns (xab xak (pv 0) (pv 2) (fun _ _=>rfl)) (xcp (xt xan (pv 3) (xj))) xew)))
   (xm (x0 (xt xhj (xt xhj (xct xf9 (pv 0) xew (xcp (pv 2))) (xbj (xb (pv 5) (xg)))) (xct xf9 (pv 0) (xcp (xt xan (pv 2) (xj))) xew))))))))),?_⟩
  obtain⟨hl,o,hln,n8,q⟩:=h;have h1:=o.h1;have h2:=o.h2;have w1:=o.w1;have w2:=o.w2;have gl:=xcj G;obtain⟨n0,n1,n2,n3,n4,n5,n6,n7,rfl⟩:∃ a b c d e f g h,ns=[a,b,c,d,e,f,g,h]:=by
   match ns,n8 with
   | [a,b,c,d,e,f,g,h],_=>exact⟨a,b,c,d,e,f,g,h,rfl⟩
  obtain⟨r0,hr0⟩:∃ r,G[0]?=some r:=⟨_,Zf h1⟩
  have l0:=o.wd r0 (Zo hr0);have le:∀ z:List Nat,z.length=W->(ofL z).length<=sizeLine:=fun z hz=>by rw[xaz,hz]; exact Zs (by omega:_<=1000) (by decide)
  have at0:atI (GV G) 0=some (.str (ofL r0)):=by
   show atI (GV G) ((0:Nat):Int)=_;exact xbt (xfd hr0)
  have le0:(ofL r0).length=W:=by rw[xaz,l0]
  obtain⟨y,ey,yl⟩:=xid n1 (n:=(GV G).length) (by omega);obtain⟨x,ex,xl⟩:=xid n2 (n:=(ofL r0).length) (by omega);refine⟨_,rfl,ln,_,1,.int n1,rfl,rfl,SqL.of hln,rfl,_,rfl,l,_,rfl,.inl (SqL.of hl),_,_,rfl,rfl,(by omega),?_⟩;simp only[ey];refine⟨_,rfl,ln,_,2,.int n2,rfl,rfl,SqL.of hln,rfl,_,rfl,l,_,0,_,rfl,rfl,SqL.of hl,at0,_,rfl,le r0 l0,_,_,rfl,rfl,(by omega),?_⟩;simp only[ex];refine⟨fun σ H1=>∃ x:Nat,x<W/\Same H H1/\σ=[some (.ref l),some (.ref ln),some (.int (y:Int)),some (.int (x:Int)),none,none],?_,?_⟩
  .refine ⟨_,rfl,ln,_,3,.int n3,rfl,rfl,SqL.of hln,rfl,_,_,rfl,rfl,(by show (0:Int)<3; decide),rfl,_,rfl,ite2 (fun z=>?_) (fun z=>⟨x,by omega,Same.refl _,rfl⟩)⟩;refine⟨_,rfl,l,_,0,_,rfl,rfl,SqL.of hl,at0,_,rfl,le r0 l0,_,_,rfl,rfl,(by show 2<=sizeLine; decide),fun lx hlx=>?_⟩;have sx:Same H (upd H lx (.lst [.int 0,.int (((ofL r0).length:Int)-1)])):=xp (Same.refl _) hlx;have m2:=xc3 n4 (show (0:Int)<2 by decide);have e2:n4 % 2=0\/n4 % 2=1:=by omega
   have at2:∃ x2:Nat,x2<W/\atI [V.int 0,.int (((ofL r0).length:Int)-1)] (n4 % 2)=some (.int (x2:Int)):=by
    rcases e2 with e|e
    .exact ⟨0,by omega,by rw[e]; rfl⟩
    .exact ⟨W-1,by omega,by rw[e,le0,show ((W-1:Nat):Int)=(W:Int)-1 by omega]; rfl⟩
   obtain⟨x2,x2l,at2⟩:=at2;exact⟨_,rfl,ln,_,4,.int n4,rfl,rfl,SqL.of (sx _ _ hln),rfl,_,_,rfl,rfl,(by show (0:Int)<2; decide),lx,_,_,_,rfl,rfl,SqL.of xf,at2,x2,x2l,sx,rfl⟩
  rintro σ H1 ⟨x,xl,s1,rfl⟩;have hl1:=s1 _ _ hl;have hln1:=s1 _ _ hln;have yg:y<G.length:=by omega
  obtain⟨r,hr'⟩:∃ r,G[y]?=some r:=⟨_,Zf yg⟩
  have rl:=o.wd r (Zo hr');have ra:=o.asc r (Zo hr');have aty:atI (GV G) (y:Int)=some (.str (ofL r)):=xbt (xfd hr');refine⟨_,rfl,ln,_,5,.int n5,rfl,rfl,SqL.of hln1,rfl,_,rfl,ln,_,6,.int n6,rfl,rfl,SqL.of hln1,rfl,_,rfl,n5,n6,l,W,G,rfl,hl1,o,fun c c8=>?_⟩;refine⟨fun σ H2=>∃ c:Nat,c<128/\H1=H2/\σ=[some (.ref l),some (.ref ln),some (.int (y:Int)),some (.int (x:Int)),some (sgn c),none],?_,?_⟩
  .obtain ⟨c0,hc0⟩:∃ c,r[x]?=some c:=⟨_,Zf (by omega)⟩
   refine⟨_,rfl,_,rfl,l,_,_,_,rfl,rfl,SqL.of hl1,aty,_,rfl,_,_,c0,rfl,rfl,le r rl,(by rw[xar]; exact xbt hc0),rfl,_,rfl,rfl,_,rfl,ite2 (fun z=>?_) (fun z=>iteF ⟨c,c8,rfl,rfl⟩)⟩;exact⟨_,rfl,ln,_,7,.int n7,rfl,rfl,SqL.of hln1,rfl,_,_,rfl,rfl,(by show (0:Int)<2; decide),rfl,_,rfl,ite2 (fun z=>⟨32,by decide,rfl,rfl⟩) (fun z=>⟨c,c8,rfl,rfl⟩)⟩
  rintro σ _ ⟨c,c8,rfl,rfl⟩;have la:(Ys (ofL r) none (some (x:Int))).length<=32:=by rw[xfc (by omega),xaz,ZQ]; omega
  have lb:(Ys (ofL r) (some ((x:Int)+1)) none).length<=32:=by rw[show (x:Int)+1=((x+1:Nat):Int) by omega,xg9 (by omega),xaz,JN]; omega
  have lc:((⟨#[c]⟩:Str)).length=1:=rfl;have lab:(Ys (ofL r) none (some (x:Int))++(⟨#[c]⟩:Str)).length<=33:=by
   rw[xfc (by omega)];show (((ofL (r.take x)).cps++#[c]).size)<=33;rw[Array.size_append];have:(ofL (r.take x)).cps.size=(r.take x).length:=xaz _;rw[this,ZQ];show min x r.length+1<=33;omega
  refine⟨_,rfl,_,rfl,l,_,_,_,rfl,rfl,SqL.of hl1,aty,_,rfl,_,rfl,_,rfl,le r rl,_,rfl,_,_,rfl,rfl,(by rw[lc]; exact Zs (by omega:_<=1000) (by decide)),?_⟩;refine⟨_,rfl,_,rfl,l,_,_,_,rfl,rfl,SqL.of hl1,aty,_,rfl,_,_,rfl,rfl,_,rfl,_,rfl,le r rl,_,_,rfl,rfl,Zs (Nat.add_le_add lab lb) (Zs (by decide:33+32<=1000) (by decide)),?_⟩;rw[xrq r x c (by omega)];refine⟨_,rfl,_,rfl,_,rfl,l,_,rfl,SqL.of hl1,fun la' hla=>?_⟩;rw[xth (by omega)];have s2:Same H1 (upd H1 la' (.lst (GV (G.take y)))):=xp (Same.refl _) hla;have g2:upd H1 la' (.lst (GV (G.take y))) la'=some (.lst (GV (G.take y))):=xf;revert s2 g2;generalize upd H1 la' (.lst (GV (G.take y)))=H2;intro s2 g2;refine⟨_,rfl,(by show 1<=sizeLine; decide),fun lb' hlb=>?_⟩;have s3:Same H2 (upd H2 lb' (.lst [.str (ofL (r.take x++[c]++r.drop (x+1)))])):=xp (Same.refl _) hlb;have g3:upd H2 lb' (.lst [.str (ofL (r.take x++[c]++r.drop (x+1)))]) lb'=some (.lst [.str (ofL (r.take x++[c]++r.drop (x+1)))]):=xf;revert s3 g3;generalize upd H2 lb' (.lst [.str (ofL (r.take x++[c]++r.drop (x+1)))])=H3;intro s3 g3;have e3:=s3 _ _ g2;refine⟨la',lb',_,_,rfl,rfl,e3,g3,?_,fun lc' hlc=>?_⟩
  .rw [xcj,ZQ,ZZ];exact Zs (by omega:_<=1000) (by decide)
  have s4:Same H3 (upd H3 lc' (.lst (GV (G.take y)++[.str (ofL (r.take x++[c]++r.drop (x+1)))]))):=xp (Same.refl _) hlc;have g4:upd H3 lc' (.lst (GV (G.take y)++[.str (ofL (r.take x++[c]++r.drop (x+1)))])) lc'=some (.lst (GV (G.take y)++[.str (ofL (r.take x++[c]++r.drop (x+1)))])):=xf;revert s4 g4;generalize upd H3 lc' (.lst (GV (G.take y)++[.str (ofL (r.take x++[c]++r.drop (x+1)))]))=H4;intro s4 g4;have s14:=(s2.trans s3).trans s4;refine⟨_,rfl,_,rfl,_,_,rfl,rfl,_,rfl,l,_,rfl,SqL.of (s14 _ _ hl1),fun ld hld=>?_⟩;show rCat _ _ _ _;rw[show (y:Int)+1=((y+1:Nat):Int) by omega,xp1 (by omega)];have s5:Same H4 (upd H4 ld (.lst (GV (G.drop (y+1))))):=xp (Same.refl _) hld;have g5:upd H4 ld (.lst (GV (G.drop (y+1)))) ld=some (.lst (GV (G.drop (y+1)))):=xf;revert s5 g5;generalize upd H4 ld (.lst (GV (G.drop (y+1))))=H5;intro s5 g5;refine⟨lc',ld,_,_,rfl,rfl,s5 _ _ g4,g5,?_,fun lr hlr=>?_⟩
  .rw [Zp,xcj,xcj,ZQ,JN,ZZ];exact Zs (by omega:_<=1000) (by decide)
  have ep:GV (G.take y)++[V.str (ofL (r.take x++[c]++r.drop (x+1)))]++GV (G.drop (y+1))=GV (putC G y (r.take x++[c]++r.drop (x+1))):=by
   unfold putC GV;rw[Z8,Z8];rfl
  rw[ep];have s6:Same H5 (upd H5 lr (.lst (GV (putC G y (r.take x++[c]++r.drop (x+1)))))):=xp (Same.refl _) hlr;have g6:upd H5 lr (.lst (GV (putC G y (r.take x++[c]++r.drop (x+1))))) lr=some (.lst (GV (putC G y (r.take x++[c]++r.drop (x+1))))):=xf;revert s6 g6;generalize upd H5 lr (.lst (GV (putC G y (r.take x++[c]++r.drop (x+1)))))=H6;intro s6 g6;have s15:=s14.trans s5;refine q H6 lr _ (s1.trans (s15.trans s6)) (s1.free (s15.free hlr)) g6 (xts o yg ?_ fun z hz=>?_) (xh6 yg)
  .rw [Zp,Zp,ZQ,JN,ZZ];omega
  .rcases Z5.mp hz with hz|hz
   .rcases Z5.mp hz with hz|hz
    .exact ra z (List.mem_of_mem_take hz)
    .rw [Zv.mp hz];exact c8
   .exact ra z (List.mem_of_mem_drop hz)
end
def Rd3 (t:Adr) (H:Hp) (p:Addr) (w:Nat) (G:List (List Nat)):Prop:=(∃(q b dp do_ lp pl:Addr) (ts:List Addr) (es fs:List Sg),H p=some (.tup [.ref q,.ref pl])/\xqs t H q b dp do_ lp ts w G es fs)\/(∃(pl:Addr) (i j:Nat),H p=some (.tup [.non,.ref pl])/\H pl=some (.tup [.int (i:Int),.int (j:Int)])/\i<G.length/\j<w+2/\¬ (xca w G/\xjh w G))
def xsl (t:Adr):Sp:=fun vs H Q _=>∃(l:Addr) (w:Nat) (G:List (List Nat)),vs=[.ref l]/\H l=some (.lst (GV G))/\Txs (w+2) G/\∀ H' p,Same H H'->Rd3 t H' p w G->Q (.ref p) H'
theorem xji.mv {t:Adr}{H H':Hp}{q b dp do_ lp:Addr}{ts:List Addr}{w:Nat}{G:List (List Nat)}{es fs:List Sg} (sn:xji t H q b dp do_ lp ts w G es fs) (s:Same H H'):xji t H' q b dp do_ lp ts w G es fs:=by
 have d:=sn.dr;exact⟨sn.pe,sn.le,sn.pf,sn.lf,s _ _ sn.q,d.same s,s _ _ sn.lp,sn.pr.keep (Same.tups s)⟩
def xr7 (t:Adr):Sp:=fun vs H Q _=>∃(l:Addr) (w:Nat) (G:List (List Nat)),vs=[.ref l]/\H l=some (.lst (GV G))/\Txs (w+2) G/\∀ H',Same H H'->Q (.bl true) H'
theorem xlg {w:Nat}{G:List (List Nat)}{m:Cl->Option Str} (o:Txs (w+2) G) (al:∀ s∈sgs G,cd m ((s.2.1:Int),1+(s.1:Int))=s.2.2):xdm w G.length m=G:=by
 refine YI fun i=>?_;unfold xdm;by_cases hi:i<G.length
 .rw [Zh,Jg hi,Zf hi];show some (rowC w (1+(i:Int)) m)=some G[i]
  congr 1
  have rl:=o.wd G[i] (YT hi);refine YI fun j=>?_;unfold rowC;by_cases hj:j<w+2
  .rw [Zh,Jg hj,Zf (by omega)];show some (cd m ((j:Int),1+(i:Int)))=_;have:=al (i,j,(G.getD i []).getD j 0) ((xdx o).mpr ⟨hi,hj,rfl⟩)
   dsimp only at this
   rw[this,ZY,ZY,Zf hi];show some (G[i][j]?.getD 0)=_;rw[Zf (by omega)];rfl
  .rw [Zh,Ja (by rw[Zt]; omega),Ja (by omega)];rfl
 .rw [Zh,Ja (by rw[Zt]; omega),Ja (by omega)];rfl
theorem xjg {K:Zd}{H:Hp}{a:Addr}{G:List (List Nat)} (e:H a=some (.lst (GV G))):Dv K H 1 (.ref a) (.lst ((GV G).map scD)):=.lst (SqL.of e) (by rw[Za]) (xe6 (Yx.mpr fun v hv=>by
 obtain⟨r,_,rfl⟩:=Ze.mp hv;rfl))
section
variable {P:Program}{w:World}{K:Zd}{mg:Str->Option Value}{base:Heap}{t:Adr}
theorem ok_a1 (T:Txt w K mg t):FnOk true P w K mg base (CXo P w) 10 t.f_a1 t.d_a1 ["_law_rows"] (xsl t):=by
 refine T.F_a1.okn (k:=9) sc_a1 (fun vs H Q E h=>?_) (fun cdv A outer s H vs Q E hr h=>?_)
 .obtain ⟨l,w',G,rfl,_⟩:=h;rfl
 .obtain ⟨l,w',G,rfl,h⟩:=h;refine⟨_,xk (xw (i:=1) sc_a1.nd rfl (Zn rfl) (xhm))
   (xk (xw (i:=2) sc_a1.nd rfl (Zn rfl) (xaj (xb (xj) (xb (xj) (xg)))))
   (xk (xuh (E:=(fun σ' e C' H'=>∃(i j:Nat) (q0:Addr),σ'=[some (.ref l),some .non,some (.ref q0),none]/\C'=t.C_b/\i<G.length/\j<w'+2/\¬ (xca w' G/\xjh w' G)/\xbl t H H' e (.badDrawing (.int (i:Int)) (.int (j:Int))))) rfl T.g_b T.mk_b sc_a1.nd (j:=3) rfl rfl rfl rfl (fun _ _ tk=>xm (xw (i:=1) sc_a1.nd rfl (Zn rfl) (xu (xpw T) (hr.mono (by decide)) rfl T.g_seen T.F_seen.kp T.b_seen .nil tk.pass (xb (pv 0) (xg))))) (fun _=>xm (xw (i:=2) sc_a1.nd rfl (Zn rfl) (xaj (xb ((xle (pv 3) rfl:PE _ _ (tXF K _ _))) (xb ((xle (pv 3) rfl:PE _ _ (tXF K _ _))) (xg)))))))
   (xm (x0 (xaj (xb (pv 1) (xb (pv 2) (xg)))))))),?_⟩
  obtain⟨hl,tx,q⟩:=h;refine⟨(by show 2<=sizeLine; decide),fun q0 hq0=>?_⟩;have s1:Same H (upd H q0 (.tup [.int 0,.int 0])):=xp (Same.refl _) hq0;have g1:upd H q0 (.tup [.int 0,.int 0]) q0=some (.tup [.int 0,.int 0]):=xf;revert s1 g1;generalize upd H q0 (.tup [.int 0,.int 0])=H1;intro s1 g1;refine⟨?_,?_⟩
  .refine ⟨_,rfl,l,w',G,rfl,s1 _ _ hl,tx,fun i j hi hj ng er her e H' ra=>⟨i,j,q0,rfl,rfl,hi,hj,ng,by rw[her] at ra; exact xbl.pre s1 ra⟩,fun H2 qt b dp do_ lp ts es fs s2 fd=>?_⟩;refine⟨_,rfl,_,rfl,(by show 2<=sizeLine; decide),fun p hp=>?_⟩;have s3:Same H2 (upd H2 p (.tup [.ref qt,.ref q0])):=xp (Same.refl _) hp;have g3:upd H2 p (.tup [.ref qt,.ref q0]) p=some (.tup [.ref qt,.ref q0]):=xf;revert s3 g3;generalize upd H2 p (.tup [.ref qt,.ref q0])=H3;intro s3 g3;exact q H3 p ((s1.trans s2).trans s3) (.inl ⟨qt,b,dp,do_,lp,q0,ts,es,fs,g3,⟨fd.sn.mv s3,fd.g,fd.al⟩⟩)
  .rintro σ' e C' H' ⟨i,j,q1,rfl,rfl,hi,hj,ng,s',ea⟩;rcases ea with⟨z,_⟩|⟨_,dx,he,hdx⟩
   .cases z
   refine⟨T.mk_b,T.mro_b,?_⟩;refine⟨_,rfl,e,_,dx,_,.int (i:Int),rfl,he,hdx,T.x_b,T.n_bi,lk_1,_,rfl,e,_,dx,_,.int (j:Int),rfl,he,hdx,T.x_b,T.n_bf,lk_2 (by decide +kernel),(by show 2<=sizeLine; decide),fun u hu=>?_⟩;have s2:Same H' (upd H' u (.tup [.int (i:Int),.int (j:Int)])):=xp (Same.refl _) hu;have g2:upd H' u (.tup [.int (i:Int),.int (j:Int)]) u=some (.tup [.int (i:Int),.int (j:Int)]):=xf;revert s2 g2;generalize upd H' u (.tup [.int (i:Int),.int (j:Int)])=H2;intro s2 g2;refine⟨_,rfl,_,rfl,(by show 2<=sizeLine; decide),fun p hp=>?_⟩;have s3:Same H2 (upd H2 p (.tup [.non,.ref u])):=xp (Same.refl _) hp;have g3:upd H2 p (.tup [.non,.ref u]) p=some (.tup [.non,.ref u]):=xf;revert s3 g3;generalize upd H2 p (.tup [.non,.ref u])=H3;intro s3 g3;exact q H3 p ((s'.trans s2).trans s3) (.inr ⟨u,i,j,g3,s3 _ _ g2,hi,hj,ng⟩)
theorem ok_av (T:Txt w K mg t):FnOk true P w K mg base (CXo P w) 11 t.f_av t.d_av ["_law_rows"] (xr7 t):=by
 refine T.F_av.okn (k:=10) sc_av (fun vs H Q E h=>?_) (fun cdv A outer s H vs Q E hr h=>?_)
 .obtain ⟨l,w',G,rfl,_⟩:=h;rfl
 .obtain ⟨l,w',G,rfl,h⟩:=h;refine⟨_,xk (xcc (xu (ok_a1 T) (hr.mono (by decide)) rfl T.g_a1 T.F_a1.kp T.b_a1 .nil xn (xb (xbr xd9 rfl T.n_list boot_list (xb (pv 0) (xg))) (xg))) (xap rfl (xr (xq (i:=1) sc_av.nd rfl (Zn rfl)) (xr (xq (i:=2) sc_av.nd rfl (Zn rfl)) (xag)))))
   (xk (xae (x5 xkb (pv 1) (xhm) (x6 _)) (xm (x0 (xce (xd2 xec xf6 (xj) (xab xbq (pv 2) (xj) (fun _ _=>rfl)) (x8 xbf rfl T.n_len Jy (xb (pv 0) (xg)))) (xc7 (xd2 xec xf6 (xj) (xab xbq (pv 2) (xj) (fun _ _=>rfl)) (x8 xba rfl T.n_len Jy (xb (xab xak (pv 0) (xj) (fun _ _=>rfl)) (xg)))))))) (x4))
   (xk (xcc (pv 1) (xap rfl (xr (xq (i:=3) sc_av.nd rfl (Zn rfl)) (xr (xq (i:=4) sc_av.nd rfl (Zn rfl)) (xag)))))
   (xk (xch rfl (xbh (zs:=["_law_point_here"]) (ys:=[]) (fr:=[]) (N0:=["_law_rows", "_law_found", "_law_place", "_law_picture_here", "_law_pairs_here", "_law_names", "_law_name", "_law_side", "_law_row"]) (sc0:=xo s_av) (by decide +kernel) rfl rfl rfl) (xa0 (xbb (pv 3) T.c_c T.m_l (ok_l T) (hr.mono (by decide)) T.b_l .nil xn)) (fun _ _ _ _ _ ow nd=>xq (i:=0) nd rfl (Zn (ow _ (by simp))) (J8 (ow _ (by simp)))) (xbz (by decide)) (fun _ _ _ _ _=>xbu) (fun _ _ _ _ _=>xab (r:=rIxT K) xbq (pv 0) (xj) (fun _ _=>rfl)) (j:=5) rfl (Zn rfl))
   (xk (xa4 ZO rfl (xa0 (pv 4)) (xap rfl (xr (xq (i:=6) sc_av.nd rfl (Zn rfl)) (xr (xq (i:=7) sc_av.nd rfl (Zn rfl)) (xr (xq (i:=8) sc_av.nd rfl (Zn rfl)) (xag))))) (xm (xae (PW.pt (xcr (x5 (xiw (xcn hr)) (pv 6) (pv 5) (by rfl)) (xck (x5 (xiw (xcn hr)) (xaj (xb (pv 7) (xb (pv 8) (xg)))) (xbb (pv 3) T.c_c T.m_w (ok_w T) (hr.mono (by decide)) T.b_w .nil xn) (by rfl))))) (xm (x0 (xhp))) (x4))))
   (xm (x0 (xb8 (xjs (xcn hr)) (xu (xfe T) (hr.mono (by decide)) rfl T.g_drawn T.F_drawn.kp T.b_drawn .nil xn (xb (pv 3) (xb (pv 4) (xg)))) (pv 0) (x6 _)))))))),?_⟩
  obtain⟨hl,tx,q⟩:=h;have h1:=tx.h1;have h2:=tx.h2;have w2:=tx.w2;have gl:=xcj G;obtain⟨r0,hr0⟩:∃ r,G[0]?=some r:=⟨_,Zf h1⟩
  have l0:=tx.wd r0 (Zo hr0);have at0:atI (GV G) 0=some (.str (ofL r0)):=by
   show atI (GV G) ((0:Nat):Int)=_;exact xbt (xfd hr0)
  have le0:(ofL r0).length<=sizeLine:=by rw[xaz,l0]; exact Zs (by omega:_<=1000) (by decide)
  refine⟨_,rfl,l,_,rfl,.inl (SqL.of hl),fun lh hlh=>?_⟩;have s1:Same H (upd H lh (.lst (GV G))):=xp (Same.refl _) hlh;have g1:upd H lh (.lst (GV G)) lh=some (.lst (GV G)):=xf;revert s1 g1;generalize upd H lh (.lst (GV G))=H1;intro s1 g1;refine⟨lh,w',G,rfl,g1,tx,fun H2 p s2 rd=>?_⟩;have s02:=s1.trans s2;have hl2:=s02 _ _ hl;rcases rd with⟨qt,b,dp,do_,lp,pl,ts,es,fs,hp,fd⟩|⟨pl,i,j,hp,hpl,hi,hj,_⟩
  .refine ⟨p,_,rfl,SqT.of hp,rfl,_,_,rfl,_,_,rfl,rfl,?_⟩;have sn:=fd.sn;have dr:=sn.dr;have pic:=dr.pic;obtain⟨⟨dx,hpi⟩,_⟩:=id pic;have pal:=xhv fd.g sn.pe sn.pf;have pok:=xex fd.g sn.pe;have r12:=pal.len;have p12:=pok.le;refine⟨_,rfl,rfl,_,rfl,ifN (decide_eq_false fun z=>nomatch z) ?_⟩;refine⟨_,rfl,qt,_,rfl,SqT.of sn.q,rfl,_,_,rfl,_,_,rfl,rfl,?_⟩;refine⟨_,rfl,b,dx,_,rfl,hpi,xa2 (by decide +kernel),b,dp,do_,_,_,_,rfl,pic,fun H3 l3 ds s3 e3 pt3=>⟨l3,rfl,⟨_,SqL.of e3⟩,fun l4 hl4=>?_⟩⟩;have dsl:=pt3.len;refine xem (SqL.of e3) (by rw[Za]; exact Z9 (by omega:_<=1000) (by decide)) hl4 (fun k y _=>∃ z,(es.map (toPt G.length))[k]?=some z/\y=.str z.nm) (fun _ _ _ _ _ z=>z) (fun k x H5 hx s5 N hN=>?_) (fun ys H4 s4 e4 ly fy=>?_)
   .rw [Zh,Zl] at hx;obtain⟨qa,hqa,rfl⟩:=hx;obtain⟨z,hz,hq⟩:=pt3.get hqa;exact⟨_,rfl,qa,_,0,.str z.nm,rfl,rfl,SqT.of (s5 _ _ hq),rfl,hN _ _ (Same.refl _) ⟨z,hz,rfl⟩⟩
   rw[Za] at ly;have eys:ys=((es.map (toPt G.length)).map (·.nm)).map V.str:=by
    rw[Z7];refine xrc (f:=V.str∘fun z:Pt=>z.nm) (by omega) fun k y z hy hz=>?_;obtain⟨z',hz',e⟩:=fy k y hy;rw[hz] at hz';cases hz';exact e
   subst eys;have s24:=s3.trans s4;have sn4:=sn.mv s24;have pr4:=sn4.pr;have tsl:=pr4.len;refine⟨_,rfl,lp,rfl,⟨_,SqL.of sn4.lp⟩,?_⟩;refine xbd (xs:=ts.map V.ref) (Pv:=fun k σ H5=>∃(v6 v7 v8:Option V),σ=[some (.ref l),some (.ref qt),some (.ref pl),some (.ref b),some (.ref lp),some (.ref l4),v6,v7,v8]/\Same H4 H5) ⟨_,_,_,rfl,Same.refl _⟩ ?_ ?_ ?_
   .rintro k σ H5 _ ⟨_,_,_,rfl,s5⟩;exact SqL.of (s5 _ _ sn4.lp)
   .rintro k x σ H5 hx ⟨v6,v7,v8,rfl,s5⟩;rw[Zh,Zl] at hx;obtain⟨qa,hqa,rfl⟩:=hx;obtain⟨pr,hpr,hq⟩:=pr4.get hqa;have mpr:=Zo hpr;have ok:=pal.ok pr mpr;refine⟨qa,_,rfl,SqT.of (s5 _ _ hq),rfl,_,_,rfl,_,_,rfl,_,_,rfl,rfl,?_⟩;have dnm:Dv K H5 1 (.ref l4) (.lst (((es.map (toPt G.length)).map (·.nm)).map DV.str)):=.lst (SqL.of (s5 _ _ e4)) (by simp) (fun j x d h1 h2=>by
     rw[Zh] at h1 h2;obtain⟨z,hz,rfl⟩:=Zl.mp h1;rw[hz] at h2;cases h2;exact .str)
    refine⟨_,rfl,_,rfl,0,1,.str pr.1.nm,_,.str,dnm,by decide,by decide,_,rfl,ifN ?_ ?_⟩
    .rw [if_pos rfl,Bool.not_eq_false',List.any_eq_true];exact⟨.str pr.1.nm,Ze.mpr ⟨_,Ze.mpr ⟨pr.1,Yy ok.fd,rfl⟩,rfl⟩,xdj _⟩
    refine⟨_,rfl,_,rfl,(by show 2<=sizeLine; decide),fun qs hqs=>?_⟩;have s6:Same H5 (upd H5 qs (.tup [.str (x9 pr.2.1),.int pr.2.2])):=xp (Same.refl _) hqs;have g6:upd H5 qs (.tup [.str (x9 pr.2.1),.int pr.2.2]) qs=some (.tup [.str (x9 pr.2.1),.int pr.2.2]):=xf;revert s6 g6;generalize upd H5 qs (.tup [.str (x9 pr.2.1),.int pr.2.2])=H6;intro s6 g6;have dr6:=(sn4.dr.same s5).same s6;obtain⟨⟨dx6,hpi6⟩,_⟩:=id dr6.pic;refine⟨_,rfl,b,dx6,_,rfl,hpi6,xa2 (by decide +kernel),b,dp,do_,_,_,_,_,rfl,dr6.pic,dr6.sts,fun l7 ss7 us7 hl7 sl7 pm7 lt7=>?_⟩;have s7:Same H6 (upd H6 l7 (.lst (us7.map V.ref))):=xp (Same.refl _) hl7;have g7:upd H6 l7 (.lst (us7.map V.ref)) l7=some (.lst (us7.map V.ref)):=xf;revert s7 g7;generalize upd H6 l7 (.lst (us7.map V.ref))=H7;intro s7 g7;refine⟨1,2,xdo pr.2,_,xlv (s7 _ _ g6),(sl7.keep (Same.tups s7)).dv g7,by decide,by decide,_,rfl,ifN ?_ ⟨_,_,_,rfl,(s5.trans s6).trans s7⟩⟩;rw[if_pos rfl,xqe];obtain⟨s,hs,rfl⟩:=Ze.mp mpr;have ms:=sn.pf.mem_iff.mp hs;obtain⟨o1,o2,o3,_⟩:=xeq fd.g ms;have b2:=xfm o2;have mem:xah s∈rimS w' G:=Ze.mpr ⟨s,ZJ.mpr ⟨o1,by rw[o3,decide_eq_true (by omega)]; rfl⟩,rfl⟩;rw[decide_eq_true (show (toPr w' G s).2∈ss7 from pm7.mem_iff.mpr mem)];rfl
   .rintro σ H5 ⟨v6,v7,v8,rfl,s5⟩;have sn5:=sn4.mv s5;refine⟨_,rfl,_,rfl,b,lp,dp,do_,w',G.length,_,_,_,_,ts,rfl,sn5.dr,sn5.lp,sn5.pr,pal.ok,pal.len,fun H6 ld s6 f6 e6=>?_⟩;rw[xgp (xgy (fun p hp=>(pok.ok p hp).nm) (fun p hp=>(pal.ok p hp).nm)),xlg tx fd.al] at e6;have s06:=((s02.trans s24).trans s5).trans s6;refine⟨_,rfl,1,1,_,_,xjg e6,xjg (s06 _ _ hl),by decide,by decide,?_⟩;rw[xdj];exact q H6 s06
  .refine ⟨p,_,rfl,SqT.of hp,rfl,_,_,rfl,_,_,rfl,rfl,?_⟩;refine⟨_,rfl,rfl,_,rfl,ifP (by decide) ?_⟩;refine⟨_,rfl,pl,_,0,.int (i:Int),rfl,rfl,SqT.of hpl,rfl,_,_,rfl,rfl,_,rfl,ifP (decide_eq_true (by omega)) ?_⟩;refine⟨_,rfl,l,_,rfl,.inl (SqL.of hl2),_,_,rfl,rfl,_,rfl,ifP (decide_eq_true (by rw[gl]; omega)) ?_⟩;refine⟨_,rfl,pl,_,1,.int (j:Int),rfl,rfl,SqT.of hpl,rfl,_,_,rfl,rfl,_,rfl,ifP (decide_eq_true (by omega)) ?_⟩;refine⟨_,rfl,l,_,0,_,rfl,rfl,SqL.of hl2,at0,_,rfl,le0,_,_,rfl,rfl,?_⟩;show Q (.bl (decide ((j:Int)<((ofL r0).length:Int)))) H2;rw[decide_eq_true (by rw[xaz,l0]; omega)];exact q H2 s02
theorem xtd (T:Txt w K mg t):FnOk true P w K mg base (CXo P w) 12 t.f_law t.d_law ["_law_script"] (xjk K):=by
 refine T.F_law.okn (k:=11) xbs (fun vs H Q E h=>?_) (fun cdv A outer s H vs Q E hr h=>?_)
 .obtain ⟨sc,ns,rfl,_⟩:=h;rfl
 .obtain ⟨sc,ns,rfl,h⟩:=h;refine⟨_,xk (xcc (xu (ok_az T) (hr.mono (by decide)) rfl T.g_az T.F_az.kp T.b_az .nil xn (xb (pv 0) (xg))) (xap rfl (xr (xq (i:=1) xbs.nd rfl (Zn rfl)) (xr (xq (i:=2) xbs.nd rfl (Zn rfl)) (xag)))))
   (xk (xw (i:=3) xbs.nd rfl (Zn rfl) (xu (ok_au T) (hr.mono (by decide)) rfl T.g_au T.F_au.kp T.b_au .nil xn (xb (pv 0) (xb (pv 2) (xg)))))
   (xk (xw (i:=4) xbs.nd rfl (Zn rfl) (xb8 xa7 (xt xad (xu (ok_x T) (hr.mono (by decide)) rfl T.g_x T.F_x.kp T.b_x .nil xn (xb (pv 0) (xb (xj) (xg)))) (xj)) (xj) (x6 _)))
   (xk (xw (i:=5) xbs.nd rfl (Zn rfl) (xu (ok_an T) (hr.mono (by decide)) rfl T.g_an T.F_an.kp T.b_an .nil xn (xb (xct xf9 (pv 0) (xcp (xj)) (xcp (xj))) (xb (pv 4) (xb (pv 1) (xb (pv 2) (xg)))))))
   (xk (xw (i:=6) xbs.nd rfl (Zn rfl) (xu (ok_ap T) (hr.mono (by decide)) rfl T.g_ap T.F_ap.kp T.b_ap .nil xn (xb (pv 1) (xb (pv 2) (xb (pv 5) (xb (pv 3) (xg)))))))
   (xk (xw (i:=7) xbs.nd rfl (Zn rfl) (xu (xfe T) (hr.mono (by decide)) rfl T.g_drawn T.F_drawn.kp T.b_drawn .nil xn (xb (pv 6) (xb (xu (ok_aq T) (hr.mono (by decide)) rfl T.g_aq T.F_aq.kp T.b_aq .nil xn (xb (xu (ok_x T) (hr.mono (by decide)) rfl T.g_x T.F_x.kp T.b_x .nil xn (xb (pv 0) (xb (xj) (xg)))) (xb (pv 4) (xb (pv 5) (xb (pv 2) (xb (pv 3) (xg))))))) (xg)))))
   (xk (xcc (xu (ok_a1 T) (hr.mono (by decide)) rfl T.g_a1 T.F_a1.kp T.b_a1 .nil xn (xb (xbr xd9 rfl T.n_list boot_list (xb (pv 7) (xg))) (xg))) (xap rfl (xr (xq (i:=8) xbs.nd rfl (Zn rfl)) (xr (xq (i:=9) xbs.nd rfl (Zn rfl)) (xag)))))
   (xk (xbe (xae (PW.pt (xcr (x5 xkb (pv 8) (xhm) (x6 _)) (xck (x5 (xg8 (xcn hr)) (xu (xfe T) (hr.mono (by decide)) rfl T.g_drawn T.F_drawn.kp T.b_drawn .nil xn (xb (xab xbq (pv 8) (xj) (fun _ _=>rfl)) (xb (xab xbq (pv 8) (xj) (fun _ _=>rfl)) (xg)))) (pv 7) (x6 _))))) (xm (x0 (xhp))) (x4)))
   (xk (xw (i:=10) xbs.nd rfl (Zn rfl) (pv 7))
   (xk (xa4 ZO rfl (xa0 (xct xf9 (pv 0) (xcp (xj)) (xcp (xj)))) (xq (i:=11) xbs.nd rfl (Zn rfl)) (xk ((by (with_reducible refine' xw (i:=12) ?n27 ?i28 ?x29 ?e30 ?s31 ?f32); (case n27=>exact xbs.nd); (case i28=>rfl); (case x29=>exact Zn rfl); (case f32=>exact Zn rfl); (case e30=>((exact xu (ok_y T) (hr.mono (by decide)) rfl T.g_y T.F_y.kp T.b_y .nil xn (xb (pv 11) (xb (pv 4) (xb (xbj (xz (xj) (xz (xj) (xz (xj) (xz (xj) (xz (xj) (xz (xj) (xz (xj) (xz (xj) (xg) rfl) rfl) rfl) rfl) rfl) rfl) rfl) rfl)) (xg))))))); (case s31=>rfl)))
   (xk (xbe (xae (x5 xq3 (xt xad (xab xak (pv 12) (xj) (fun _ _=>rfl)) (xj)) (xj) (x6 _)) (xm (xw (i:=7) xbs.nd rfl (Zn rfl) (pv 10))) (x4)))
   (xk (xw (i:=7) xbs.nd rfl (Zn rfl) (xu (ok_ak T) (hr.mono (by decide)) rfl T.g_ak T.F_ak.kp T.b_ak .nil xn (xb (pv 7) (xb (pv 12) (xg)))))
   (xm (xbe (xae (xbg (xas (xu (ok_av T) (hr.mono (by decide)) rfl T.g_av T.F_av.kp T.b_av .nil xn (xb (pv 7) (xg))))) (xm (x0 (xhp))) (x4))))))))
   (xm (x0 (xhp)))))))))))),?_⟩
  obtain⟨hs,nl,q⟩:=h;refine⟨_,rfl,sc,ns,rfl,hs,fun w' h' H1 p1 w1 w2 h1 h2 s1 g1=>⟨p1,_,rfl,SqT.of g1,rfl,_,_,rfl,_,_,rfl,rfl,?_⟩⟩;refine⟨_,rfl,_,rfl,sc,ns,h',rfl,Same.seqL s1 hs,h2,fun ss rs H2 ls l32 slt sb s2 fls e2 sl2=>?_⟩;have s02:=s1.trans s2;have sok:SsOk (h':Int) ss:=⟨xkq slt,l32,sb⟩
  refine⟨_,rfl,sc,ns,0,rfl,Same.seqL s02 hs,by decide,by decide,fun c0=>⟨_,_,rfl,rfl,(by show (0:Int)<2; decide),rfl,?_⟩⟩;generalize (decide (V.int (c0 % 2)=V.int 1))=dg;obtain⟨ms,ems,m12⟩:=xpu ns;refine⟨_,rfl,3,rfl,15,rfl,sc,_,rfl,Same.seqL s02 hs,fun lc hlc=>?_⟩;rw[ems];have s3:Same H2 (upd H2 lc (.lst (ms.map V.int))):=xp (Same.refl _) hlc;have g3:upd H2 lc (.lst (ms.map V.int)) lc=some (.lst (ms.map V.int)):=xf;revert s3 g3;generalize upd H2 lc (.lst (ms.map V.int))=H3;intro s3 g3;refine⟨_,rfl,_,rfl,_,rfl,lc,ms,dg,w',h',rfl,g3,m12,w1,w2,h1,h2,fun H5 lp ps qs pok _ s4 flp e5p pt5=>?_⟩;have s24:=s3.trans s4;have s05:=s02.trans s24;have e5s:=s24 _ _ e2;have sl5:=sl2.keep (Same.tups s24);refine⟨_,rfl,_,rfl,_,rfl,_,rfl,lp,ls,w',h',ps,ss,qs,rs,rfl,w1,w2,h1,h2,e5p,pt5,pok,e5s,sl5,sok,slt,fun H6 a dp do_ s6 dr6=>?_⟩;have s06:=s05.trans s6;refine⟨_,rfl,_,rfl,sc,ns,2,rfl,Same.seqL s06 hs,by decide,by decide,fun c2=>⟨_,rfl,_,rfl,_,rfl,_,rfl,w',c2,dg,lp,ls,h',ps,ss,qs,rs,rfl,h2,s6 _ _ e5p,pt5.keep (Same.tups s6),pok,s6 _ _ e5s,sl5.keep (Same.tups s6),sok,fun H7 l prs ts pal s7 fl e7 pr7=>?_⟩⟩;have o:Pict w' h' ps ss prs:=⟨w1,w2,h1,h2,pok,sok,pal⟩
  refine⟨a,l,dp,do_,w',h',ps,_,ss,prs,ts,rfl,dr6.same s7,e7,pr7,pal.ok,pal.len,fun H8 lr s8 f8 e8=>?_⟩;rw[xmc w1 pok pal (Q0.refl _),xgp o.one] at e8;have e8:H8 lr=some (.lst (GV (xav w' h' ps ss prs))):=e8;have tx:=o.tx;have gd:=o.good;have se:=o.sees;have gl:=xcw w' h' (xa3 w' ps ss prs);have s08:=(s06.trans s7).trans s8;revert e8 tx gd se gl;generalize xav w' h' ps ss prs=G;intro e8 tx gd se gl;refine⟨_,rfl,lr,_,rfl,.inl (SqL.of e8),fun lh hlh=>?_⟩;have s9:Same H8 (upd H8 lh (.lst (GV G))):=xp (Same.refl _) hlh;have g9:upd H8 lh (.lst (GV G)) lh=some (.lst (GV G)):=xf;revert s9 g9;generalize upd H8 lh (.lst (GV G))=H9;intro s9 g9;refine⟨lh,w',G,rfl,g9,tx,fun H10 p s10 rd=>?_⟩;have s810:=s9.trans s10;rcases rd with⟨qt,b,dp2,do2,lp2,pl,ts2,es,fs,hp,fd⟩|⟨pl,i,j,hp,hpl,hi,hj,ng⟩
  .refine ⟨p,_,rfl,SqT.of hp,rfl,_,_,rfl,_,_,rfl,rfl,?_⟩;have sn:=fd.sn;have pal2:=xhv fd.g sn.pe sn.pf;have pok2:=xex fd.g sn.pe;refine⟨fun σ H11=>Same H10 H11/\σ=[some (.ref sc),some (.int (w':Int)),some (.int (h':Int)),some (.ref ls),some (.bl dg),some (.ref lp),some (.ref a),some (.ref lr),some (.ref qt),some (.ref pl),none,none,none],?_,?_⟩
   .refine ⟨_,rfl,rfl,_,rfl,ifN (decide_eq_false fun z=>nomatch z) ?_⟩;refine⟨_,rfl,qt,_,0,.ref b,rfl,rfl,SqT.of sn.q,rfl,_,rfl,qt,_,1,.ref lp2,rfl,rfl,SqT.of sn.q,rfl,b,lp2,dp2,do2,w',G.length,_,_,_,_,ts2,rfl,sn.dr,sn.lp,sn.pr,pal2.ok,pal2.len,fun H11 ld s11 f11 e11=>?_⟩;rw[xgp (xgy (fun p hp=>(pok2.ok p hp).nm) (fun p hp=>(pal2.ok p hp).nm)),xlg tx fd.al] at e11;exact⟨_,rfl,1,1,_,_,xjg e11,xjg (s11 _ _ (s810 _ _ e8)),by decide,by decide,_,rfl,ifN (by rw[xdj]; decide) ⟨s11,rfl⟩⟩
   rintro σ H11 ⟨s11,rfl⟩;have s011:=(s08.trans s810).trans s11;have e11:=s11 _ _ (s810 _ _ e8);refine⟨_,rfl,?_⟩;obtain⟨m2,em2⟩:∃ m2:List Int,cutV (ns.map V.int) (some 15) (some 45)=m2.map V.int:=⟨_,by unfold cutV; rw[<- Wp,<- Wo]⟩
   refine⟨_,rfl,15,rfl,45,rfl,sc,_,rfl,Same.seqL s011 hs,fun lc2 hlc2=>?_⟩;rw[em2];have s12:Same H11 (upd H11 lc2 (.lst (m2.map V.int))):=xp (Same.refl _) hlc2;have g12:upd H11 lc2 (.lst (m2.map V.int)) lc2=some (.lst (m2.map V.int)):=xf;revert s12 g12;generalize upd H11 lc2 (.lst (m2.map V.int))=H12;intro s12 g12;have e12:=s12 _ _ e11;refine⟨lc2,rfl,⟨_,SqL.of g12⟩,?_⟩;refine xbd (xs:=m2.map V.int) (Pv:=fun k σ H13=>∃(v11 v12:Option V) (lx:Addr) (G':List (List Nat)),σ=[some (.ref sc),some (.int (w':Int)),some (.int (h':Int)),some (.ref ls),some (.bl dg),some (.ref lp),some (.ref a),some (.ref lx),some (.ref qt),some (.ref pl),some (.ref lr),v11,v12]/\Same H12 H13/\H13 lx=some (.lst (GV G'))/\Txs (w'+2) G') ⟨_,_,lr,G,rfl,Same.refl _,e12,tx⟩ ?_ ?_ ?_
   .rintro k σ H13 _ ⟨_,_,_,_,rfl,s13,_⟩;exact SqL.of (s13 _ _ g12)
   .rintro k x σ H13 hx ⟨v11,v12,lx,G',rfl,s13,e13,tx'⟩;rw[Zh,Zl] at hx;obtain⟨cl,hcl,rfl⟩:=hx;refine⟨_,rfl,_,rfl,(by show 8<=sizeLine; decide),fun lb hlb=>?_⟩;have s14:Same H13 (upd H13 lb (.lst [.int 3,.int 16,.int 32,.int 3,.int 2,.int 4,.int 512,.int 2])):=xp (Same.refl _) hlb;have g14:upd H13 lb (.lst [.int 3,.int 16,.int 32,.int 3,.int 2,.int 4,.int 512,.int 2]) lb=some (.lst [.int 3,.int 16,.int 32,.int 3,.int 2,.int 4,.int 512,.int 2]):=xf;revert s14 g14;generalize upd H13 lb (.lst [.int 3,.int 16,.int 32,.int 3,.int 2,.int 4,.int 512,.int 2])=H14;intro s14 g14;refine⟨cl,dg,lb,[3,16,32,3,2,4,512,2],rfl,g14,by decide,by decide,fun H15 ln nn s15 f15 e15 n15=>?_⟩;have s1315:=s14.trans s15;obtain⟨n0,nr,rfl⟩:∃ a r,nn=a::r:=by
     match nn,n15 with
     | a::r,_=>exact⟨a,r,rfl⟩
    refine⟨fun σ H16=>∃(lx:Addr) (G':List (List Nat)),H15=H16/\H15 lx=some (.lst (GV G'))/\Txs (w'+2) G'/\σ=[some (.ref sc),some (.int (w':Int)),some (.int (h':Int)),some (.ref ls),some (.bl dg),some (.ref lp),some (.ref a),some (.ref lx),some (.ref qt),some (.ref pl),some (.ref lr),some (.int cl),some (.ref ln)],?_,?_⟩
    .exact ⟨_,rfl,ln,_,0,.int n0,rfl,rfl,SqL.of e15,(by exact xbt (j:=0) (xs:=(n0::nr).map V.int) rfl),_,_,rfl,rfl,(by show (0:Int)<3; decide),_,_,rfl,rfl,_,rfl,ite2 (fun z=>⟨_,rfl,lr,G,rfl,s1315 _ _ (s13 _ _ e12),tx,rfl⟩) (fun z=>⟨lx,G',rfl,s1315 _ _ e13,tx',rfl⟩)⟩
    rintro σ _ ⟨ly,Gy,rfl,ey,txy,rfl⟩;refine⟨_,rfl,_,rfl,ly,ln,w'+2,Gy,_,rfl,ey,txy,e15,n15,fun H17 l17 G17 s17 f17 e17 tx17 _=>?_⟩;refine⟨fun σ H18=>Same H17 H18/\σ=[some (.ref sc),some (.int (w':Int)),some (.int (h':Int)),some (.ref ls),some (.bl dg),some (.ref lp),some (.ref a),some (.ref l17),some (.ref qt),some (.ref pl),some (.ref lr),some (.int cl),some (.ref ln)],?_,?_⟩
    .exact ⟨_,rfl,l17,w',G17,rfl,e17,tx17,fun H18 s18=>⟨_,rfl,ifN (by decide) ⟨s18,rfl⟩⟩⟩
    rintro σ H18 ⟨s18,rfl⟩;exact⟨_,_,l17,G17,rfl,(s13.trans s1315).trans (s17.trans s18),s18 _ _ e17,tx17⟩
   .rintro σ H13 ⟨_,_,_,_,rfl,_⟩;exact q _
  .exact absurd ⟨gd,se⟩ ng
end
end S73
-- the names of the twins of whole trees and heaps are taken here,so that the head makes no such twins (they are what makes its compiled file large); see NOTE.md
namespace PySem.W.Fast
def tw4413772448818509344:=0
def tw2535377449647356479:=0
def tw11516372979762977173:=0
def tw8870133385521074710:=0
def tw7241408987472610477:=0
def tw11427871841131437485:=0
def tw7375406154464028050:=0
def tw7767496228391746358:=0
def tw11891709509138453334:=0
def tw5271687901867428829:=0
def tw10003670574502888513:=0
def tw5867371507738979208:=0
def tw9654408862543297305:=0
def tw6716211360292923051:=0
def tw5145395469689484287:=0
def tw5017076791082556907:=0
def tw2369488710023964217:=0
def tw6868172389392416828:=0
def tw11593510775360535468:=0
def tw1830804606821923716:=0
def tw14441545175143615708:=0
def tw17545003699982449599:=0
def tw17053715015768687665:=0
def tw8272679967011916099:=0
def tw17588061215007695949:=0
def tw6250698088562197437:=0
def tw3367922125676109815:=0
def tw17714782070670497934:=0
def tw15572314609257374936:=0
def tw5975751528790175724:=0
def tw13899579480475202958:=0
def tw16222223204418760423:=0
def tw11338030868526472257:=0
def tw12233064961589508495:=0
def tw9265098027551537292:=0
def tw4627444041091727117:=0
def tw9539093665399077504:=0
def tw1119130079097604777:=0
def tw10022818921321263793:=0
def tw4089316586065641892:=0
def tw17788997708364388468:=0
def tw4725904996289015244:=0
def tw4783081884018043294:=0
def tw9989757288214649114:=0
def tw2895125702426955096:=0
def tw13363982035111899699:=0
def tw6031600234198678000:=0
def tw6265145971134455778:=0
def tw5798636901269679124:=0
def tw6618187679160097412:=0
def tw15149352641627122512:=0
def tw8138755319432639338:=0
def tw13099076990434432210:=0
def tw6357430063913437160:=0
def tw2870322330284047878:=0
def tw9064663260374352981:=0
def tw15272735982108607310:=0
def tw18068418883330763266:=0
def tw18006310586653713841:=0
def tw10672769055960201405:=0
def tw1423753853895198297:=0
def tw13126222890518893216:=0
def tw11313219238743406663:=0
def tw14470325536973379286:=0
def tw2151345745061556571:=0
def tw13147621532775802462:=0
def tw10314936003346461249:=0
def tw2741497157029237814:=0
def tw9365477358710632822:=0
def tw8125865612650278407:=0
def tw2449127930381168074:=0
def tw16875202884412252800:=0
def tw1889865072653760255:=0
def tw15209651142379113999:=0
def tw3760694429806465345:=0
def tw4781355652406190242:=0
def tw17559279130926532491:=0
def tw8333333407273081799:=0
def tw692428643904729128:=0
def tw4321610207666318997:=0
def tw1471908044404015961:=0
def tw13221909693681475436:=0
def tw13689434022732606438:=0
def tw794002707629997171:=0
def tw75689678454787182:=0
def tw6207200855545393487:=0
def tw4818674973698032104:=0
def tw379785918794090096:=0
def tw11593317563524412186:=0
def tw4324251262792467848:=0
def tw17159608805514004374:=0
def tw4238405160188975840:=0
def tw17574226246874488106:=0
def tw11502155968064384792:=0
def tw1481109984872389443:=0
def tw5789263820038170749:=0
def tw11238080671312770053:=0
def tw9622450553858503506:=0
def tw4204774758545344432:=0
def tw13217232021465058059:=0
def tw13348891463251351698:=0
def tw13859897570804707366:=0
def tw12199309372251156081:=0
def tw8100576133402054616:=0
def tw4499060014373389596:=0
def tw2356545815431167430:=0
def tw14039456393487038889:=0
def tw16866559635486151008:=0
def tw1600605482228702604:=0
def tw10039984809091365934:=0
def tw17003237464808317903:=0
def tw8878468760749590564:=0
def tw10846296443581247519:=0
def tw14206413657764369395:=0
def tw6494969603531244619:=0
def tw10694668007532122956:=0
def tw9385819388413962570:=0
def tw6610147709042377712:=0
def tw10574566025640064828:=0
def tw18185705060768994447:=0
def tw6370272166452948403:=0
def tw17553761818124394708:=0
def tw5808352110711304703:=0
def tw6987662910506145684:=0
def tw4103998661432489680:=0
def tw5005305667504390902:=0
def tw12616580190845473914:=0
def tw5720660631495374261:=0
def tw2178031351196424672:=0
def tw15024878252726384844:=0
def tw8755083389059540882:=0
def tw2240089862468568003:=0
def tw7586882396461252344:=0
def tw5160956253232374246:=0
def tw13951947972744958484:=0
def tw3508535256138539387:=0
def tw13284108636340822360:=0
def tw15567347724007321798:=0
def tw6914929591651177791:=0
def tw3850564309317004807:=0
def tw5333764536527706441:=0
def tw1824345235974023321:=0
def tw10914108729248212118:=0
def tw11251641665239054707:=0
def tw5485508053391232353:=0
def tw9989096408631081466:=0
def tw17173834481981455525:=0
def tw17208982085404163056:=0
def tw4222087120974194974:=0
def tw12857578816611797604:=0
def tw15053278229841943103:=0
def tw6427243626541148961:=0
def tw7368103735744761496:=0
def tw7149371014583415600:=0
def tw7408433961033338980:=0
def tw8389537599240123876:=0
def tw10264675001573520095:=0
def tw323808303350991584:=0
def tw13756183157233753077:=0
def tw15192306920961142783:=0
def tw2197116476441001208:=0
def tw14366426416422307635:=0
def tw11578871346196718480:=0
def tw11477855120570445997:=0
def tw17977112144357671238:=0
def tw16879368201342040377:=0
def tw5574058449948961273:=0
def tw5143424656454520600:=0
def tw7935470216226803970:=0
def tw16270874557477694013:=0
def tw1176359798032852679:=0
def tw17028210925185140033:=0
def tw14145842826873131972:=0
def tw18344034698757890339:=0
def tw15615745949092480042:=0
def tw614123186180032574:=0
def tw16107329533888403007:=0
def tw11244315749560474316:=0
def tw3119402363289835054:=0
def tw15769027860661847466:=0
def tw12998379956050021598:=0
def tw17933342394911019981:=0
def tw6006705491507065345:=0
def tw519167077801659402:=0
def tw9217028976755434466:=0
def tw7651562414377762991:=0
def tw14338655006754286946:=0
def tw16290804938860374694:=0
def tw9637520284477197235:=0
def tw6203881732127716148:=0
def tw1614620439695434164:=0
def tw14618988831804656113:=0
def tw13196859676174911724:=0
def tw3384844202587099941:=0
def tw16409006350765960536:=0
def tw2638245232305188942:=0
def tw14607797317564366002:=0
def tw7967125280533687324:=0
def tw1260632129937766541:=0
def tw8675101011228162320:=0
def tw4377836611611091226:=0
def tw17858196980694512972:=0
def tw14564756825720157203:=0
def tw17238817073666503517:=0
def tw8210900695196279128:=0
def tw12312819629176155370:=0
def tw11682788058788829828:=0
def tw10648399686739688964:=0
def tw10407454585235760374:=0
def tw10720568307147536844:=0
def tw7809051512097860399:=0
def tw13303176488725394585:=0
def tw8541053380481324467:=0
def tw1511569619910086873:=0
def tw16798704983874302048:=0
def tw15361439644655096606:=0
def tw11878498604580164790:=0
def tw7271526894978676125:=0
def tw3784438059865336747:=0
def tw7865978906804631504:=0
def tw14241583258207246069:=0
def tw9613163735056384775:=0
def tw1674867329044587771:=0
def tw870809093588595564:=0
def tw11394809476407271799:=0
def tw16814110032196152069:=0
def tw3529059061635080066:=0
def tw3594017497729407715:=0
def tw4282885956125639550:=0
def tw15301823554784705772:=0
def tw1108669711177311744:=0
def tw2825562764111165755:=0
def tw12761512389341730091:=0
def tw3676810819320363330:=0
def tw9604313013594737494:=0
def tw13253616464256800551:=0
def tw13758011620043491640:=0
def tw9957374472723976672:=0
def tw17820302492761284038:=0
def tw3558667282875564407:=0
def tw9502502843972176508:=0
def tw10575073599431484664:=0
def tw489730616710473887:=0
def tw13765198242451826011:=0
def tw953381499223457574:=0
def tw3869090464086324410:=0
def tw11853233209959831300:=0
def tw10030697842307499382:=0
def tw6790886152518049883:=0
def tw12366576611248647220:=0
def tw7306313724476619175:=0
def tw585635089642602957:=0
def tw6970102450954197576:=0
def tw5738077004513565989:=0
def tw6428936390502697196:=0
def tw6738063961994094038:=0
def tw5469377010286293210:=0
def tw13045165444888115402:=0
def tw9037003440670584351:=0
def tw1348874058558939323:=0
def tw14575406712146336807:=0
def tw12959222095044436599:=0
def tw602703947019952082:=0
def tw2399727813435182421:=0
def tw17340069897573680443:=0
def tw9075138343891559992:=0
def tw16620082508064720000:=0
def tw11476504869375190799:=0
def tw7737766868332360921:=0
def tw18434556531178179514:=0
def tw6597079650449162666:=0
def tw5233010780678626242:=0
def tw13310295490092754990:=0
def tw18387095327715130136:=0
def tw868355335819088066:=0
def tw3546755809782286264:=0
def tw10278365114884817363:=0
def tw7530408588283314670:=0
def tw199873062037195228:=0
def tw4951258280100284285:=0
def tw16769317696846334832:=0
def tw10844130399402670282:=0
def tw9299279651941304495:=0
def tw8830064307568158856:=0
def tw8157068063656650569:=0
def tw272979203514723705:=0
def tw3271134316283396998:=0
def tw1448941615899231015:=0
def tw11841515378849712991:=0
def tw923507815769531451:=0
def tw8416788392630106210:=0
def tw4045060359085160729:=0
def tw16947939307406820596:=0
def tw10753559853881897648:=0
def tw13784021590111862992:=0
def tw8178823600226807599:=0
def tw16171554928122120265:=0
def tw11778676521148565288:=0
def tw17197329876361714172:=0
def tw4580640372388386399:=0
def tw16333998513051289050:=0
def tw3461841510146122229:=0
def tw10944791775496358186:=0
def tw15882257359116099198:=0
def tw2920889857687031921:=0
def tw14982953280532328862:=0
def tw16617106778586352365:=0
def tw4807839133182211727:=0
def tw17608960019039965537:=0
def tw18286661640368005227:=0
def tw13405000896243959636:=0
def tw4299811807301190953:=0
def tw14689562430821156721:=0
def tw365280236334057618:=0
def tw8122084772911769406:=0
def tw17522070832319395206:=0
def tw11062823922586362213:=0
def tw14452817080924449517:=0
def tw17015121353658734918:=0
def tw16033034728098529224:=0
def tw16665150730111099744:=0
def tw9683758338523359411:=0
def tw13835751089800198325:=0
def tw1074744852016190420:=0
def tw4519285838286866509:=0
def tw16954611003383121785:=0
def tw10497999206807166602:=0
def tw14341397047363857693:=0
def tw9840638535944471045:=0
def tw17533117065539959037:=0
def tw2209709365130361451:=0
def tw9122291238468069404:=0
def tw1417401132680855662:=0
def tw12193292850585207497:=0
def tw1860621873228234119:=0
def tw15142750521938433264:=0
def tw2901249054688581078:=0
def tw8659319872037429405:=0
def tw16617125465305620716:=0
def tw5276693777911275689:=0
def tw14051319900121017441:=0
def tw6068546030265164640:=0
def tw18270302490831355803:=0
def tw5024878071731204449:=0
def tw4186186239501749158:=0
def tw6979277018501071159:=0
def tw4624633444635150178:=0
def tw8106151671501518622:=0
def tw15047355518766925138:=0
def tw4427341545022713170:=0
def tw2950860023817237496:=0
def tw11106337160464803416:=0
def tw9750262097354046688:=0
def tw6059196085127236671:=0
def tw719212406104819256:=0
def tw14003573726964572666:=0
def tw12225777220833198381:=0
def tw13982641086342290461:=0
def tw5612295552408454792:=0
def tw6140385346378591064:=0
def tw17677433543876566743:=0
def tw1090232035755251414:=0
def tw7981297097467413009:=0
def tw16892546084132729509:=0
def tw10050635592631590982:=0
def tw737664598429867295:=0
def tw10740635091115979702:=0
def tw5781247496086376049:=0
def tw2024614961435908735:=0
def tw16254580699961929921:=0
def tw1976880246247839865:=0
def tw14784529162757331280:=0
def tw2235222786990599295:=0
def tw16297246467991226663:=0
def tw15194712836709763337:=0
def tw888632894966348560:=0
def tw12559520923000470136:=0
def tw5328480959256529797:=0
def tw10759827249876584941:=0
def tw2723708161648959576:=0
def tw16512575488752550569:=0
def tw12846105734732888579:=0
def tw17210679959629438251:=0
def tw17878995493465069169:=0
def tw12160723580730614265:=0
def tw721397338533205261:=0
def tw4446256007493549418:=0
def tw6125183416268563478:=0
def tw9811527572267023789:=0
def tw4442339331039695352:=0
def tw8255147432805708470:=0
def tw6636789287095107647:=0
def tw945210484587157337:=0
def tw18275424699795854414:=0
def tw889133833248719880:=0
def tw14903896318137656223:=0
def tw12017753666721082606:=0
def tw7101949607219828253:=0
def tw14269256329557132561:=0
def tw7683719435795269608:=0
def tw8824916732706907752:=0
def tw11090988874042331745:=0
def tw5678379394105267170:=0
def tw10260612234413613702:=0
def tw12615152950833799132:=0
def tw2396866920210674357:=0
def tw8849554076778106231:=0
def tw7388392626150486098:=0
def tw1426266045732718189:=0
def tw8053386822539914176:=0
def tw70830328492587407:=0
def tw13046935719611342428:=0
def tw7398326039027581473:=0
def tw13483465025696287833:=0
def tw797522096906583814:=0
def tw13462717115111889291:=0
def tw6058646581044468301:=0
def tw10694305962346429086:=0
def tw5077521920425958622:=0
def tw9301123148306712994:=0
def tw2769594907133121514:=0
def tw14333056010817932300:=0
def tw16688077573887457267:=0
def tw3453737794336927999:=0
def tw3534144724746394765:=0
def tw17410407640600966437:=0
def tw2910004606940511495:=0
def tw2659968107319600053:=0
def tw11069264311446074769:=0
def tw9375721214560717382:=0
def tw16497177105613026627:=0
def tw4282897156507882507:=0
def tw8480219788444730187:=0
def tw12983922800156626888:=0
def tw11610124103889513326:=0
def tw14180182347962520472:=0
def tw9324456401416075701:=0
def tw8445562841256522678:=0
def tw17395713588275961313:=0
def tw10402464664377949576:=0
def tw985615039659675714:=0
def tw13132734907533639127:=0
def tw6421810091519898027:=0
def tw5209248963507383875:=0
def tw7321284559085975800:=0
def tw5000920285811496865:=0
def tw13873638446710816962:=0
def tw16843494883039452536:=0
def tw16831167766766295009:=0
def tw16370244778746055310:=0
def tw9972441281167825270:=0
def tw10807457597460633834:=0
def tw693998988211279760:=0
def tw17879975219740010321:=0
def tw13577514526197369427:=0
def tw7255593402229335978:=0
def tw17252876109155051899:=0
def tw6606813006961926901:=0
def tw12532479643653802673:=0
def tw1763194694932837919:=0
def tw17504052253994939106:=0
def tw6491343330515109770:=0
def tw13898653875713077432:=0
def tw6419332262737848397:=0
def tw17290898759980032249:=0
def tw14288084446053076980:=0
def tw8365060142950620025:=0
def tw10791295007610802470:=0
def tw13411358048781344017:=0
def tw7701771188441631967:=0
def tw6714154889884907482:=0
def tw14615428607611727278:=0
def tw10933965760335964879:=0
def tw5768288765557706065:=0
def tw6723566175967851112:=0
def tw4433055207019048234:=0
def tw7400668479957239789:=0
def tw9845913072825014974:=0
def tw9672558959425950461:=0
def tw3416907325297562824:=0
def tw14243091615404334287:=0
def tw6210445921906621399:=0
def tw17780748636519760069:=0
def tw1219200751343014025:=0
def tw2419593983821552734:=0
def tw7629355377798469983:=0
def tw17439364171712221323:=0
def tw10351333240372525199:=0
def tw4330904317698898694:=0
def tw14898290674071921833:=0
def tw13639638748488089012:=0
def tw4939418763024256592:=0
def tw5019285197031828524:=0
def tw11781923117358332013:=0
def tw9735699030549245622:=0
def tw15667517487578879978:=0
def tw8062230339409103990:=0
def tw4419630383782358345:=0
def tw17804462449259168274:=0
def tw2780751084360173737:=0
def tw5197126280756684627:=0
def tw12543119449911193230:=0
def tw9202586769405889199:=0
def tw5093795389024423141:=0
def tw11464514605839158465:=0
def tw11596694453360088177:=0
def tw12129980548406327042:=0
def tw14591244344022797651:=0
def tw7577904930824147153:=0
def tw9998809695138216628:=0
def tw15233294057968108332:=0
def tw1243998301254411880:=0
def tw12424736484380332856:=0
def tw17052372526992418900:=0
def tw5157052912687036104:=0
def tw5686942092284624047:=0
def tw7557807331353129509:=0
def tw10949624410894751603:=0
def tw1851977604478172408:=0
def tw238928417568999077:=0
def tw14375989543921822869:=0
def tw10051045611515783891:=0
def tw5380202549850758645:=0
def tw4810555952434474141:=0
def tw1762124009876862183:=0
def tw10558712261686671387:=0
def tw9899084553110104190:=0
def tw12367767960627252958:=0
def tw5943472343719809562:=0
def tw4269611630040865699:=0
def tw14426226120637279808:=0
def tw17777141198847262611:=0
def tw2706192181787415905:=0
def tw6378878709422226868:=0
def tw3373973033731726353:=0
def tw14618015385034762807:=0
def tw1715231237577968248:=0
def tw15694196431992979745:=0
def tw4653665292608390899:=0
def tw17790429132869327812:=0
def tw8566966741017443965:=0
def tw16685323256771939913:=0
def tw11646017320775864543:=0
def tw18445938356566276442:=0
def tw12622927224584085467:=0
def tw2996459515642643543:=0
def tw8944714019073328265:=0
def tw12006482174857238444:=0
def tw6598774072815378517:=0
def tw4676808558913951909:=0
def tw17912254455322204652:=0
def tw5343815797316361805:=0
def tw15173910973159875311:=0
def tw18325820978013191638:=0
def tw16803208903074769285:=0
def tw9569921898376181489:=0
def tw1053193761511038298:=0
def tw2675005303493321912:=0
def tw1024287635892006130:=0
def tw15161655545345281603:=0
def tw1763684259006260846:=0
def tw16307162431808878535:=0
def tw11897394112589439452:=0
def tw4984178493821382141:=0
def tw11605114763086040676:=0
def tw8089944115717024522:=0
def tw805427771191744094:=0
def tw7187352652757279512:=0
def tw8263520724306940576:=0
def tw6277544628813242600:=0
def tw16740629135617533502:=0
def tw11690299451704076874:=0
def tw2047232094629563334:=0
def tw12492572627123591277:=0
def tw10652664326851067009:=0
def tw11939763211440666018:=0
def tw934662053498778630:=0
def tw787960115430241370:=0
def tw13735181122808348459:=0
def tw5378019253873259936:=0
def tw10187281608845571081:=0
def tw6560709695113455353:=0
def tw10300510659079252882:=0
def tw15038103472133386472:=0
def tw14795982894015348781:=0
def tw7358776772315098076:=0
def tw12879115560489377224:=0
def tw17763851283179415338:=0
def tw15523859014120054550:=0
def tw16718162190805774187:=0
def tw1557611668469503455:=0
def tw5644728752686993894:=0
def tw15596539234057389444:=0
def tw1780645746361891269:=0
def tw13306536300448868166:=0
def tw9345149747267080359:=0
def tw11717937834373241774:=0
def tw15398580537900139383:=0
def tw18019889206885189006:=0
def tw2199682001467936571:=0
def tw10759042946380442508:=0
def tw15031910969442005149:=0
def tw16269714230757464631:=0
def tw14811846266912859010:=0
def tw12343634462788786337:=0
def tw9703325654556902686:=0
def tw14155661134847232765:=0
def tw5567040406822263730:=0
def tw14806731500412500833:=0
def tw11694202219087881847:=0
def tw15054092059089432301:=0
def tw1940186872616979417:=0
def tw17370333530655843704:=0
def tw7183133428165224130:=0
def tw13990623233082160565:=0
def tw9802842413523854072:=0
def tw15714965126688214247:=0
def tw7786749353156687019:=0
def tw6612886157182825467:=0
def tw13916712949906396817:=0
def tw11726445160368075322:=0
def tw9648928000056684271:=0
def tw8961331621036218915:=0
def tw7813356022997610365:=0
def tw11371142518369612494:=0
def tw10208157446998190501:=0
def tw12188155527329017952:=0
def tw2382325329083901232:=0
def tw14790630109560005915:=0
def tw12800878140860715436:=0
def tw9666766025048393867:=0
def tw2749585594685194595:=0
def tw8167908625602945889:=0
def tw15862930595628450974:=0
def tw17173242090953292042:=0
def tw12038369609949877346:=0
def tw17509031240277241947:=0
def tw8159222530322643119:=0
def tw3882094004808597361:=0
def tw11978628506114503665:=0
def tw17845965092335372293:=0
def tw11919623758826847152:=0
def tw10787805807213048525:=0
def tw5705769196951048408:=0
def tw1109964968896429498:=0
def tw8067862218570419855:=0
def tw16659058847713885281:=0
def tw5929699528140474333:=0
def tw3584232183538277959:=0
def tw9067541405307167116:=0
def tw1022239123656534535:=0
def tw14489264873613711703:=0
def tw10056254973857278570:=0
def tw3222712511913630343:=0
def tw11628112782954233255:=0
def tw4949774762364406678:=0
def tw4593187836537587341:=0
def tw670222321291572650:=0
def tw12937149511554531862:=0
def tw6471476577073916920:=0
def tw14831053963932596091:=0
def tw5489569742513708559:=0
def tw11167493568103642548:=0
def tw15034429874598126454:=0
def tw14636743502828529903:=0
def tw2717608598938893259:=0
def tw8974571986873507252:=0
def tw17389041828704362644:=0
def tw4318850363173446575:=0
def tw1852221401539743836:=0
def tw17864038267109689438:=0
def tw8015360119392024415:=0
def tw1805973373965746525:=0
def tw5871349196037522750:=0
def tw6990480615513464663:=0
def tw2613479170061961970:=0
def tw15883323093872451696:=0
def tw18211853812952675042:=0
def tw9217815749957881194:=0
def tw7132621453972406678:=0
def tw11330892621433709115:=0
def tw15670671363479167001:=0
def tw1999175388819046971:=0
def tw3277549948975857405:=0
def tw15151245122192747245:=0
def tw4172959868748084224:=0
def tw13757418802890111972:=0
def tw2753262954259368743:=0
def tw8760257142784597401:=0
def tw5620224047280314652:=0
def tw14247469968532490124:=0
def tw17534035269067218728:=0
def tw10847289032797466362:=0
def tw9184746664566800531:=0
def tw5959890346270451621:=0
def tw11911884315804226901:=0
def tw18067179376785584244:=0
def tw8635557445307268605:=0
def tw6189252549837376813:=0
def tw15413115882136187971:=0
def tw15710859747139185590:=0
def tw7825022065350716291:=0
def tw7093608397422767576:=0
def tw4367557804777920118:=0
def tw11212855265201167790:=0
def tw18392733033123252637:=0
def tw10202457383591886913:=0
def tw10682371100068284395:=0
def tw13595730688618973239:=0
def tw1074610329035354628:=0
def tw17452669850452500152:=0
def tw13411240322033833611:=0
def tw16189871890702359640:=0
def tw17131438351844509465:=0
def tw6161156706562980628:=0
def tw9562585643408227087:=0
def tw7209508958965313199:=0
def tw1559024034684223505:=0
def tw2024784357380662457:=0
def tw5551673172073674282:=0
def tw16163222756965218649:=0
def tw8884190067151937263:=0
def tw10056816372298734172:=0
def tw3162744176881964891:=0
def tw3353882405398371839:=0
def tw7845900237809965480:=0
def tw160968986568186436:=0
def tw12481707483690859708:=0
def tw3626689459274364494:=0
def tw10681627310077757458:=0
def tw14532893388473025436:=0
def tw13765181505949848217:=0
def tw2986340514129037300:=0
def tw743156634398389991:=0
def tw683509809197834252:=0
def tw15038414901620722128:=0
def tw4843459347404701683:=0
def tw5962868981903861208:=0
def tw1729288378453000452:=0
def tw8608192922748602484:=0
def tw1805053194163922077:=0
def tw14138022080342737151:=0
def tw18117727736349072714:=0
def tw17089139345211608637:=0
def tw1078545259030764502:=0
def tw10351583200470542909:=0
def tw17498664753129946868:=0
def tw13274055413368949874:=0
def tw15584677510624690942:=0
def tw16675224625955549989:=0
def tw7751855950014643283:=0
def tw7192005779053665028:=0
def tw1920052521827787277:=0
def tw9517669365261418555:=0
def tw14275825439587490613:=0
def tw4732768806952365216:=0
def tw3378478091108211025:=0
def tw3870673781248764652:=0
def tw199401463210355418:=0
def tw4415658577429027288:=0
def tw15151002475084703074:=0
def tw4659486064351101215:=0
def tw18305157396089768684:=0
def tw6263611007270536528:=0
def tw15567378291516386021:=0
def tw632178254299090211:=0
def tw12065712082419499535:=0
def tw5953455381095171881:=0
def tw13483289927999963956:=0
def tw16288937986512146737:=0
def tw12270431763703368281:=0
def tw5557758057938287753:=0
def tw11393284860093071576:=0
def tw1596940258935207565:=0
def tw8173330452932984550:=0
def tw1200495033344689373:=0
def tw5231203944865775274:=0
def tw13163939515305432043:=0
def tw9942992288947963642:=0
def tw474665836725440554:=0
def tw8122908135512646878:=0
def tw12126018682317630958:=0
def tw10338438253609204874:=0
def tw6360872752942211384:=0
def tw6809316730101749387:=0
def tw8616077857223005673:=0
def tw868898661302216414:=0
def tw9220885201476667518:=0
def tw4555320555087867655:=0
def tw15648234023354145277:=0
def tw5037091309241858855:=0
def tw3648824294725459185:=0
def tw8836007497083009260:=0
def tw11423174834617201303:=0
def tw14842062750740435297:=0
def tw489207828507513008:=0
def tw214561807340592769:=0
def tw5863627884866315531:=0
def tw3903066979138085784:=0
def tw16505011473641889010:=0
def tw4764031951508991813:=0
def tw226252200353840511:=0
def tw4499634735092495001:=0
def tw6779404380647293147:=0
def tw9923515807864811579:=0
def tw4624452403687024762:=0
def tw4166695634810176441:=0
def tw8636587694600124941:=0
def tw8199874727930224074:=0
def tw14730139470309840198:=0
def tw8048844390336715606:=0
def tw10855428876215070281:=0
def tw14596816933559123669:=0
def tw5657775718433300692:=0
def tw15665029842266625472:=0
def tw13616014650693198892:=0
def tw10659765682107213996:=0
def tw16664088654866963074:=0
def tw8822781851520197608:=0
def tw7687667011961159566:=0
def tw11742964116778524857:=0
def tw8106027983311282599:=0
def tw12916813480126307089:=0
def tw4712678448966524760:=0
def tw5965904039927124062:=0
def tw2474659689280289541:=0
def tw6841530564076979539:=0
def tw2703976246748785492:=0
def tw822377242012289527:=0
def tw16107397785604295856:=0
def tw8358905954765420833:=0
def tw107707241145811571:=0
def tw4901807742515704531:=0
def tw2565151272732274510:=0
def tw4565362049475315749:=0
def tw14806471534056879694:=0
def tw3063865171171592076:=0
def tw7274161199703735065:=0
def tw6383979484751376429:=0
end PySem.W.Fast
namespace S73
open PySem L2 XL
theorem walk {l:PySem.W.OpenLaw}{q:Program}{loose:List Str}{XP:(Str->Option Value)->Heap->Prop}{YP:World->Heap->Prop}{d:DefRec}{K:Params->Zd} (hn:l.most=some 63) (hdf:d.params.defaults=[])
    (hY:∀(w:World) (h:Heap),YP w h->(K w.params).In h)
    (F:∀(w:World) (mg:Str->Option Value) (fa:Addr) (h:Heap),(K w.params).In h->h.Ns mainGlobals mg->mg d.name=some (.ref fa) ->
      ∃ fd:FuncData,(∀(s:Shared) (u:Value),BindsTo s fd ⟨[u],[]⟩ [("_law_script",u)])/\∀ base:Heap,(K w.params).In base->base.Ns mainGlobals mg->FnOk true l.prog w (K w.params) mg base (CXo l.prog w) 12 fa fd ["_law_script"] (xjk (K w.params))) :
    PySem.W.WalkO q loose XP YP l.row.toRowW d [] (fun f vs=>PySem.call f vs) :=
  L2.walk_of (q0:=true) (n:=63) (k:=12) (x:="_law_script") (CX:=fun w=>CXo l.prog w) (sp:=fun w=>xjk (K w.params)) hn (by decide) hdf ⟨fun _=>rfl,by decide,by decide⟩ hY F (fun _ _ a ns hl _ hS=>⟨a,ns,rfl,hS,hl,fun _=>rfl⟩)
    fun w H s e s' z=>by obtain⟨_,_,_,_,_,_,_,_,_,_,_,_,_,_,q⟩:=z; exact q
theorem all_mk {l:PySem.W.OpenLaw}{w:World}{K:Zd}{h:Heap}{mg:Str->Option Value}{fa:Addr} (hfa:mg "law"=some (.ref fa)) (TT:∃ t,Txt w K mg t) :
    ∃ fd:FuncData,(∀(s:Shared) (v:Value),BindsTo s fd ⟨[v],[]⟩ [("_law_script",v)])/\∀ base:Heap,K.In base->base.Ns mainGlobals mg->FnOk true l.prog w K mg base (CXo l.prog w) 12 fa fd ["_law_script"] (xjk K):=by
  obtain⟨t,T⟩:=TT;have e:=hfa.symm.trans T.g_law;cases e;refine⟨t.d_law,fun s v=>?_,fun base _ _=>xtd T⟩;obtain⟨oc,od,kV,doc,pm,an,cdv,ct,osl,e,lk,hcd⟩:=T.F_law.ex;rw[e];exact .of_eq rfl
end S73
open PySem PySem.W PyProof.Rows
set_option maxRecDepth 100000 in
set_option maxHeartbeats 0 in
theorem PySem.Challenge.cw_rimnotes_k73_whole_what_is_read_is_drawn_holds : PySem.Challenge.rw_rimnotes_k73_whole_what_is_read_is_drawn.Holds := by
 w_on; o_law; k_head; (case hw=>w_witness2)
 k_fill
 refine S73.walk (l:=PySem.Challenge.rw_rimnotes_k73_whole_what_is_read_is_drawn) rfl rfl (fun w h Y=>PySem.W.kIn_of Y) ?F
 case F =>
  intro w mg fa h KX G hmg
  refine S73.all_mk (h:=h) hmg ?TT
  refine' S73.txt_mk (w:=w) KX G ?g_bl ?g_b ?g_bn ?g_ae ?g_q ?g_c ?g_t ?a_n ?F_n ?i_n ?a_aw ?F_aw ?i_aw ?a_z ?F_z ?i_z ?a_ac ?F_ac ?i_ac ?a_p ?F_p ?i_p ?a_r ?F_r ?i_r ?a_v ?F_v ?i_v ?a_m ?F_m ?i_m ?a_ao ?F_ao ?a_a2 ?F_a2 ?a_ai ?F_ai ?a_ar ?F_ar ?a_ah ?F_ah ?i_ah ?a_a ?l_a ?c_a ?k_a ?i_a ?t_a ?a_g ?F_g ?i_g ?a_l ?F_l ?i_l ?a_w ?F_w ?i_w ?a_f ?F_f ?i_f ?a_s ?F_s ?i_s ?a_i ?F_i ?i_i ?a_j ?F_j ?i_j ?a_d ?F_d ?i_d ?a_e ?F_e ?i_e ?a_aa ?F_aa ?a_drawn ?F_drawn ?a_a3 ?F_a3 ?a_ad ?F_ad ?a_at ?F_at ?a_ay ?F_ay ?a_al ?F_al ?i_al ?a_k ?F_k ?i_k ?a_h ?F_h ?i_h ?a_o ?F_o ?i_o ?a_u ?F_u ?i_u ?a_seen ?F_seen ?a_as ?F_as ?a_ax ?F_ax ?a_a5 ?F_a5 ?a_aj ?F_aj ?a_af ?F_af ?a_x ?F_x ?a_am ?F_am ?a_az ?F_az ?a_au ?F_au ?a_y ?F_y ?a_a0 ?F_a0 ?a_an ?F_an ?a_a6 ?F_a6 ?a_ap ?F_ap ?a_ab ?F_ab ?a_aq ?F_aq ?a_a1 ?F_a1 ?a_av ?F_av ?a_a4 ?F_a4 ?a_ak ?F_ak ?a_law ?F_law ?kc_b ?ov_b ?hd_b ?sa_b ?ga_b ?gh_b ?ca_b ?mk_b ?kc_ae ?pg_ae ?hd_ae ?po_ae ?sa_ae ?mk_ae ?a_LeftSide_init ?kc_q ?pg_q ?hd_q ?po_q ?sa_q ?mk_q ?a_RightSide_init ?kc_c ?pg_c ?hd_c ?po_c ?sa_c ?mk_c ?kc_t ?pg_t ?hd_t ?po_t ?sa_t ?mk_t ?cg ?ct ?n_be ?n_a7 ?n_a8 ?n_a9 ?n_bd ?n_bb ?n_ba ?n_bc ?n_bf ?n_bi ?n_bj ?n_abs ?n_bool ?n_dict ?n_enumerate ?n_int ?n_isinstance ?n_len ?n_list ?n_min ?n_range ?n_reversed ?n_sorted ?n_str ?mro_b ?v_bk ?v_bg ?v_bh ?g_ag ?l_ag ?ns_ag
  case g_bl|g_b|g_bn|g_ae|g_q|g_c|g_t|a_ao|a_a2|a_ai|a_ar|a_aa|a_drawn|a_a3|a_ad|a_at|a_ay|a_seen|a_as|a_ax|a_a5|a_aj|a_af|a_x|a_am|a_az|a_au|a_y|a_a0|a_an|a_a6|a_ap|a_ab|a_aq|a_a1|a_av|a_a4|a_ak|a_law|g_ag=>delta S73.gI; k_is
  case a_n|a_aw|a_z|a_ac|a_p|a_r|a_v|a_m|a_ah|a_a|a_g|a_l|a_w|a_f|a_s|a_i|a_j|a_d|a_e|a_al|a_k|a_h|a_o|a_u|a_LeftSide_init|a_RightSide_init=>delta S73.fI; k_is
  case F_n|F_aw|F_z|F_ac|F_p|F_r|F_v|F_m|F_ao|F_a2|F_ai|F_ar|F_ah|F_g|F_l|F_w|F_f|F_s|F_i|F_j|F_d|F_e|F_aa|F_drawn|F_a3|F_ad|F_at|F_ay|F_al|F_k|F_h|F_o|F_u|F_seen|F_as|F_ax|F_a5|F_aj|F_af|F_x|F_am|F_az|F_au|F_y|F_a0|F_an|F_a6|F_ap|F_ab|F_aq|F_a1|F_av|F_a4|F_ak|F_law=>exact L2.fun_mk (by k_is) (by k_is) (by k_is)
  case sa_b|ga_b|ca_b|sa_ae|sa_q|sa_c|sa_t=>delta S73.fB; k_is
  case gh_b|n_be|n_a7|n_a8|n_a9|n_bd|n_bb|n_ba|n_bc|n_bf|n_bi|n_bj=>delta S73.fN; k_is
  case n_abs|n_bool|n_dict|n_enumerate|n_int|n_isinstance|n_len|n_list|n_min|n_range|n_reversed|n_sorted|n_str=>delta S73.gN; k_is
  case i_n|i_aw|i_z|i_ac|i_p|i_r|i_v|i_m|i_ah|l_a|c_a|k_a|i_a|t_a|i_g|i_l|i_w|i_f|i_s|i_i|i_j|i_d|i_e|i_al|i_k|i_h|i_o|i_u|kc_b|hd_b|kc_ae|pg_ae|hd_ae|po_ae|kc_q|pg_q|hd_q|po_q|kc_c|pg_c|hd_c|po_c|kc_t|pg_t|hd_t|po_t|cg|ct|mro_b|v_bk|v_bg|v_bh=>k_is
  case mk_b|mk_ae|mk_q|mk_c|mk_t|l_ag=>first|k_is|kernel_rfl
  case ov_b|ns_ag=>kernel_rfl
