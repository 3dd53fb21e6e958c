import PyProof.Rows.All
import Wide.All
import OpenK.AllK
import PySem.Challenge.RW_rimnotes_k75_no_rows_of_signs
set_option maxRecDepth 100000
set_option maxHeartbeats 4000000
set_option Elab.async false
set_option linter.all false
open List renaming length_map→Za,mem_map→Ze,getElem?_eq_getElem→Zf,getElem?_map→Zg,getElem?_eq_some_iff→Zi,mem_of_getElem?→Zn,length_append→Zo,mem_cons_self→Zr,length_range→Zs,mem_cons_of_mem→Zt,map_map→Zv,size_toArray→Zw,map_cons→Zx,mem_singleton→Z0,mem_cons→Z1,lookup_cons→Z2,range→Z3,mem_append→Z9,pairwise_map→ZA,map_append→ZB,replicate→ZC,length_cons→ZF,mem_filter→ZO,mem_range→ZQ,take_of_length_le→ZR,mem_append_right→ZS,take_add_one→ZV,lookup→ZX,nodup_append→ZZ,nodup_cons→Jd,not_mem_nil→Jg,length_take→Jh,filter_cons_of_pos→Ji,getElem?_append_left→Jj,getElem?_range→Jn,filter_cons_of_neg→Jr,getElem?_append_right→Jt,getD_eq_getElem?_getD→Ju,append_nil→Jy,filter_append→Jz,getElem?_set_ne→J5,getElem?_eq_none→JE,Nodup→JJ,range_succ→JK,Pairwise→JN,length_drop→JP,length_singleton→JQ,length_replicate→JR,cons→JS,length_set→JV,map_congr_left→Yc,take_length→Yf,mem_flatMap→Yg,getElem?_set_self→Yl,find?_cons→Ym,mem_iff_getElem?→Yp,foldl_append→Ys,flatten_cons→Yt,pairwise_append→Yx,mem_append_left→Yy,nodup_range→Y0,filter_cons→Y1,all_eq_true→Y2,mem_of_find?_eq_some→Y3,replicate_succ→Y6,flatMap_append→Y7,filterMap_cons→Y8,length_eq_zero_iff→YH,eraseIdx_eq_take_drop_succ→YN,length_nil→YZ,map_eq_nil_iff→Qd,pairwise_cons→Qo,getElem_range→Qp,contains_cons→Qq,flatMap_cons→Qt,append_assoc→Qu,any_cons→Qy,all_cons→Qz,length_eraseIdx_le→Q6,getElem?_replicate→Q7,flatMap_singleton→QE,find?_cons_of_pos→QF,find?_cons_of_neg→QG,filter_eq_nil_iff→QH,take_append_drop→QT,length_filter_le→QU,length→QW,Perm→Wh,length_reverse→Wk,filterMap_map→Wr
open PySem.Str renaming ofString→Zb,join→YJ,length→YT
open PySem renaming wpAny_bind→Zc,wpAny_pure→Zl,Spec→ZH,wpAny_mono→ZT,wpAny_holding→Jm,wpAny_dictEntries→Jp,boot_len→J0,wpAny_truthy_bool→J9,mem_of_lookup→JB,wpAny_dictEpoch→JT,wpAny_loadPart_at→JX,wpAny_call_entry→Ye,wpAny_typeNameOfWhole_keyiter→Yh,wpAny_Call_Name_kw→Yk,wpAny_newObj_type→Yq,wpAny_field→Yv,wpAny_typeOf→Yz,tupleKind_room_in1→YC,wpAny_getItem_str_slice→YF,wpAny_callSpecial?_slot→YG,Within→YK,wpAny_isOneOf_keyiter→YO,sizeLine_eq→YV,wpAny_specialOf→YX,wpAny_passesOwn→YY,wpAny_isSubtype_exc→Qb,call_meets→Qh,wpAny_loadPart→Qj,wpAny_pyIter_enum→Qs,wpAny_standAt→Qv,wpAny_attempt→Qw,wpAny_isInstance→Q3,wpAny_call→Q8,codeAny_mono→QA,wpAny_execs_nil→QJ,post_val_or_str→QK,wpAny_notOrdered_dict→QM,builtinLookup_eq_fast→QN,wpAny_setField→QY,SetTable→Wa
open PySem.W renaming Frag→Zd,mg_of→Zu,findIn→ZD,isFn→ZL,mg_none_of→ZP,keepIn→Jl,fnOf→Jo,kia_one→Jv,emptyDict→JA,hasDictIn→JG,plainGet→JO,instObj→JU,plainOver→Yr,kitOne→Yw,makesIn→Y9,codeIn→YL,callWith_K→Qn,nsIn→QB,lookIn→QZ,plainGet_of→Wi,mroIn→Wl
open PySem.Heap renaming get?_push_of_some→Zh,lt_size→Zq,get?_push_size→Z5,get?_update_self→ZM,SameBut→ZN,get?_update_other→Ja,size_push→Wb,get?_none_of_le→We
open Nat renaming le_refl→Zj,le_trans→Zy,lt_of_le_of_lt→Z6,lt_of_lt_of_le→ZJ,ne_of_lt→ZK,zero_le→ZW,lt_trans→Jc,le_of_lt→JF,lt_irrefl→JY,ne_of_gt→Yj,mul_le_mul→Ql,le_succ→QV,not_lt→Wp
open Option renaming map_eq_some_iff→Zk,some→Jw,isSome_map→JH,map_some→YB,bind_some→Q4
open PySem.Value renaming ref→Zm,none→ZU,bool→Yi,builtin→Yn,str→Q2,type→Q9,int→Wg
open Or renaming inl→Zp,inr→Jf
open PySem.SeqAt renaming EqAt→Zz,RcNeAt→Z8,RcAt→ZE
open Bool renaming and_eq_true→Z4,false_ne_true→Z7,eq_iff_iff→Je,false_eq_true→Jk,eq_false_iff→Jq,or_true→JW,true_and→JZ,false_and→Yd,not_eq_true'→Yu,or_eq_true→Qa,and_false→Qm,or_false→Wn,false_or→Wo
open PySem.PassesOwn renaming never→ZG
open Ne renaming symm→ZI
open PySem.F renaming plainAttrs_list→ZY,slot_dict_keyiterator_next→JM,type_list_append→Ya,slot_list_append→Yb,type_list_pop→YQ,slot_list_pop→YR,slot_list_getattribute→Q0,plainAttrs_dict→Q5,plainAttrs_str→QC,type_str_join→QP,slot_str_join→QQ,slot_dict_get→QR
open PyProof.Rows renaming callWith_type1→Jb,slot_tuple_getitem→YM,strKind→Wd
open True renaming intro→Js
open Array renaming getElem?_toList→Jx,length_toList→JC,getElem?_eq_getElem→Y5,map→Qg,mem_toList_iff→Wf
open Sum renaming inr→J6,inl→YI
open PySem.Obj renaming mapSeq→J7,data_mapFields→YE,isFreed_of_fields→YS,mapFields→YU,data_mapDictKeys→YW,dropNameByArray→Qc,dropName_eq→QL,isFreed_of_dict→Wj
open False renaming elim→J8
open Prod renaming mk→JD
open Int renaming toNat_natCast→JI
open ForInStep renaming yield→JL
open PySem.Paired renaming length→Yo
open PySem.Calls renaming call_function_entry→Y4,spliced_cons→Qr,callWith_builtin→QI
open PySem.PyData renaming showable→YA,leavesShort→YD,depth→Qe,hasDict→Qk,weight→Qx,leavesShortAll→QS,showableAll→Wq
open PySem.Txt renaming slice→Qf
open PUnit renaming unit→Qi
open LawfulBEq renaming eq_of_beq→Q1
open PyProof renaming noPylong_small→QD
open PySem.StrLaws renaming glued_eq_join→QO
open PySem.Data renaming fields→QX
open PySem.Builtin renaming sorted→Wc
open PySem.NameKind renaming free→Wm
namespace L2
open PySem PySem.Spec PyProof.Rows
variable {q0:Bool}
abbrev Key:=Sum Int Str
def xfb:Key->Value->Bool
 | .inl k,v=>Value.isInt k v
 | .inr x,v=>Value.isStrOf x v
def keyH (w:World):Key->Int
 | .inl k=>hashInt k
 | .inr x=>hashStr w x
theorem xbi:∀{k:Key}{v:Value},xfb k v=true->(∃ i t,k=YI i/\v=Wg i t)\/(∃ x t,k=J6 x/\v=Q2 x t)
 | .inl i,v,h=>by
  obtain⟨t,e⟩:=Value.isInt_shape (k:=i) (v:=v) h;exact .inl ⟨i,t,rfl,e⟩
 | .inr x,v,h=>by
  obtain⟨t,e⟩:=Value.isStrOf_shape (x:=x) (v:=v) h;exact .inr ⟨x,t,rfl,e⟩
theorem xpa (i:Int) (t:Tok):xfb (.inl i) (.int i t)=true:=by simp[xfb,Value.isInt]
theorem xoq (x:Str) (t:Tok):xfb (.inr x) (.str x t)=true:=by simp[xfb,Value.isStrOf]
theorem xu7 (a b:Int):decide ((YI a:Key)=YI b)=(a == b):=by
 by_cases e:a=b
 .subst e; simp
 .have h:¬ (YI a:Key)=YI b:=fun q=>e (YI.inj q);rw[decide_eq_false h];exact (beq_eq_false_iff_ne.mpr e).symm
theorem xtr (a b:Str):decide ((J6 a:Key)=J6 b)=decide (a=b):=by
 by_cases e:a=b
 .subst e; simp
 .have h:¬ (J6 a:Key)=J6 b:=fun q=>e (J6.inj q);rw[decide_eq_false h,decide_eq_false e]
theorem xu2 (a:Int) (b:Str):decide ((YI a:Key)=J6 b)=false:=decide_eq_false (fun q=>nomatch q)
theorem xuq (a:Str) (b:Int):decide ((J6 a:Key)=YI b)=false:=decide_eq_false (fun q=>nomatch q)
def xaj (prog:Program) (w:World):PySem.KeyKind prog w Key where
 is:=xfb
 hash:=keyH w
 inj:=fun v a b ha hb=>by
  rcases xbi ha with⟨i,t,rfl,rfl⟩|⟨x,t,rfl,rfl⟩
  .rcases xbi hb with⟨j,u,rfl,e⟩|⟨y,u,rfl,e⟩
   .injection e with e1 _; rw[e1]
   .exact nomatch e
  .rcases xbi hb with⟨j,u,rfl,e⟩|⟨y,u,rfl,e⟩
   .exact nomatch e
   .injection e with e1 _; rw[e1]
 byValue:=fun k v h=>by
  rcases xbi h with⟨i,t,rfl,rfl⟩|⟨x,t,rfl,rfl⟩<;>rfl
 pyHash:=fun hv h=>by
  rcases xbi hv with⟨i,t,rfl,rfl⟩|⟨x,t,rfl,rfl⟩
  .exact wpAny_pyHash_int h
  .exact wpAny_pyHash_str h
 eqBool:=fun hu hv h=>by
  rcases xbi hu with⟨i,t,rfl,rfl⟩|⟨x,t,rfl,rfl⟩
  .rcases xbi hv with⟨j,u,rfl,rfl⟩|⟨y,u,rfl,rfl⟩
   .rw [xu7] at h; exact wpAny_eqBool_int h
   .rw [xu2] at h; exact Zz.int_str i t y u _ _ _ _ h
  .rcases xbi hv with⟨j,u,rfl,rfl⟩|⟨y,u,rfl,rfl⟩
   .rw [xuq] at h; exact Zz.str_int x t j u _ _ _ _ h
   .rw [xtr] at h; exact wpAny_eqBool_str h
 «strs»:=fun k x t v h=>by
  rcases xbi h with⟨i,u,rfl,e⟩|⟨y,u,rfl,e⟩
  .exact nomatch e
  .injection e with e1 _
   subst e1;cases v<;>rfl
theorem xlo (prog:Program) (w:World) (i:Int) (t:Tok):(xaj prog w).is (.inl i) (.int i t)=true:=xpa i t
theorem xlk (prog:Program) (w:World) (x:Str) (t:Tok):(xaj prog w).is (.inr x) (.str x t)=true:=xoq x t
inductive V where
 | non|bl (b:Bool)|int (i:Int)|str (x:Str)|byt (b:Array UInt8)|flt (b:UInt64)|ref (a:Addr)|ty (n:String)
 deriving DecidableEq
def RelV:V->Value->Prop
 | .non,u=>u=ZU
 | .bl b,u=>u=Yi b
 | .int i,u=>∃ t,u=Wg i t
 | .str x,u=>∃ t,u=Q2 x t
 | .byt b,u=>∃ t,u=Value.bytes b t
 | .flt b,u=>∃ t,u=Value.float b t
 | .ref a,u=>u=Zm a
 | .ty n,u=>u=Q9 n
abbrev Vals:List V->List Value->Prop:=Paired RelV
theorem Vals.length {xs:List V}{us:List Value} (r:Vals xs us):xs.length=us.length:=Yo r
theorem Vals.get:∀{xs:List V}{us:List Value}{i:Nat}{x:V},Vals xs us->xs[i]?=some x->∃ u,us[i]?=some u/\RelV x u
 | _,_,_,_,.nil,e=>by simp at e
 | _,_,0,_,.cons r _,e=>by simp at e; subst e; exact⟨_,rfl,r⟩
 | _,_,i+1,x,.cons _ t,e=>by
  obtain⟨u,h1,h2⟩:=Vals.get (i:=i) (x:=x) t (by simpa using e);exact⟨u,by simpa using h1,h2⟩
theorem Vals.set {x:V}{u:Value} (r:RelV x u):∀{xs:List V}{us:List Value} (i:Nat),Vals xs us->Vals (xs.set i x) (us.set i u)
 | _,_,_,.nil=>.nil
 | _,_,0,.cons _ t=>.cons r t
 | _,_,i+1,.cons q t=>.cons q (Vals.set r i t)
theorem Vals.append:∀{xs ys:List V}{us ws:List Value},Vals xs us->Vals ys ws->Vals (xs++ys) (us++ws)
 | _,_,_,_,.nil,s=>s
 | _,_,_,_,.cons r t,s=>.cons r (Vals.append t s)
theorem Vals.take:∀{xs:List V}{us:List Value} (n:Nat),Vals xs us->Vals (xs.take n) (us.take n)
 | _,_,0,_=>.nil
 | _,_,_+1,.nil=>.nil
 | _,_,n+1,.cons r t=>.cons r (Vals.take n t)
theorem Vals.drop:∀{xs:List V}{us:List Value} (n:Nat),Vals xs us->Vals (xs.drop n) (us.drop n)
 | _,_,0,r=>r
 | _,_,_+1,.nil=>.nil
 | _,_,n+1,.cons _ t=>Vals.drop n t
def RelO:Option V->Option Value->Prop
 | some v,some u=>RelV v u
 | none,none=>True
 | _,_=>False
def KV {κ:Type}:List (κ × V)->List (κ × Value)->Prop:=Paired fun (p:κ × V) (q:κ × Value)=>p.1=q.1/\RelV p.2 q.2
def kV:Key->V
 | .inl i=>.int i
 | .inr x=>.str x
inductive HO where
 /-- a list -/
 | lst (xs:List V)
 /-- a tuple (never changes) -/
 | tup (xs:List V)
 /-- a dict whose keys are ints and texts; one whose keys are tuples of ints and texts (the empty one is both) -/
 | dK (kvs:List (Key × V))|dT (kvs:List (List Key × V))
 /-- a set of ints: its members,its size -/
 | set (S:Int->Bool) (n:Nat)
 /-- an instance of the class at C,its dict at dx,its attributes -/
 | ins (C dx:Addr) (fs:List (Str × V))
 /-- the dict of the instance at x -/
 | own (x:Addr)
 /-- the dict of an exception -/
 | xd (fs:List (Str × V))
 /-- a bound method,f of x -/
 | met (f x:Addr)
 /-- a range object lo,lo+1,.. below hi -/
 | rng (lo hi:Int)
 /-- a thing that is known to the object (the script; a dict while a loop walks it): read,never written while it is so -/
 | frz (o:Obj) (u:HO)
 /-- a code object's table -/
 | tbl (ps:Array Value)
 /-- any other thing,by what is true of its one object (a def of one's own: SetO a S n:=HO.ext fun h=>..) -/
 | ext (φ:Heap->Prop)
abbrev Hp:=Addr->Option HO
def upd (H:Hp) (a:Addr) (o:HO):Hp:=fun b=>if b=a then some o else H b
theorem xf {H:Hp}{a:Addr}{o:HO}:upd H a o a=some o:=by unfold upd; rw[if_pos rfl]
theorem xh {H:Hp}{a b:Addr}{o:HO} (h:b≠a):upd H a o b=H b:=by unfold upd; rw[if_neg h]
theorem xe2 {H:Hp}{a:Addr}{o u:HO}:upd (upd H a o) a u=upd H a u:=by
 funext b; unfold upd; split<;>rfl
theorem xae {H:Hp}{a b:Addr}{o u:HO} (h:H a=some o) (h':H b=some u) (d:o≠u):a≠b:=by
 intro e; subst e; rw[h] at h'; exact d (Jw.inj h')
theorem xi {H:Hp}{a b:Addr}{o:HO} (h:H a=some o) (h':H b=none):a≠b:=by
 intro e; subst e; rw[h] at h'; cases h'
section
variable (P:Program) (w:World)
def xam (H:Hp) (h:Heap) (a:Addr):HO->Prop
  | .lst xs=>xs.length<=sizeLine/\∃(its:List Value) (n:Nat),Vals xs its/\h.get? a=some { cls:=.type "list",data:=.seq its.toArray n }
  | .tup xs=>xs.length<=sizeLine/\∃ its:List Value,Vals xs its/\IsTup h a its.toArray
  | .dK kvs=>kvs.length<=sizeLine/\(a == sysModules)=false/\∃ vs,KV kvs vs/\h.DictOf (xaj P w) a vs
  | .dT kvs=>kvs.length<=sizeLine/\(a == sysModules)=false/\∃ xs:List (List Key × Addr × Value),
      Paired (fun (p:List Key × V) (q:List Key × Addr × Value)=>p.1=q.1/\H q.2.1=some (.tup (p.1.map kV))/\RelV p.2 q.2.2) kvs xs /\
      ∃ o es ep,h.get? a=some o/\o.ExactDict/\o.data=.dict es ep/\es.toList=xs.map (entryOfKey (tupleKind (xaj P w)))/\(xs.map (·.1)).Nodup
  | .set S n=>h.SetOf (intKind P w) a S n
  | .ins C dx fs=>H dx=some (.own a)/\fs.length<=1000/\dx≠a/\h.get? a=some (JU C dx) /\
      ∃ mA,h.Ns1 dx mA/\(∀ f,RelO (fs.lookup f) (mA f))/\YK mA (fs.map (·.1))
  | .own _=>∃ o,h.get? a=some o
  | .xd fs=>∃ mA,h.Ns1 a mA/\∀ f,RelO (fs.lookup f) (mA f)
  | .rng lo hi=>∃ t u v,h.get? a=some { cls:=.type "range",data:=.fields #[.int lo t,.int hi u,.int 1 v] }
  | .frz o u=>h.get? a=some o/\xam H h a u
  | .tbl ps=>h.get? a=some { cls:=.none,data:=.fields ps }
  | .met f x=>h.get? a=some (PySem.W.methodObj (.ref f) (.ref x))
  | .ext φ=>φ h/\(∃ o,h.get? a=some o)/\∀ h1 h2:Heap,φ h1->(∀ o,h1.get? a=some o->h2.get? a=some o)->φ h2
def HOk (H:Hp) (h:Heap):Prop:=∀ a o,H a=some o->xam P w H h a o
end
section
variable {P:Program}{w:World}{H H':Hp}{h h':Heap}{a:Addr}{o:HO}
theorem xam.lt (x:xam P w H h a o):a<h.objs.size:=by
 cases o with
 | lst xs=>obtain⟨_,_,_,_,e⟩:=x; exact Zq e
 | tup xs=>obtain⟨_,_,_,p⟩:=x; exact p.lt
 | dK kvs=>obtain⟨_,_,_,_,o,_,_,e,_⟩:=x; exact Zq e
 | dT kvs=>obtain⟨_,_,_,_,o,_,_,e,_⟩:=x; exact Zq e
 | set S n=>obtain⟨o,_,_,_,e,_⟩:=x; exact Zq e
 | ins C dx fs=>obtain⟨_,_,_,e,_⟩:=x; exact Zq e
 | own y=>obtain⟨_,e⟩:=x; exact Zq e
 | xd fs=>obtain⟨_,⟨_,_,_,e,_⟩,_⟩:=x; exact Zq e
 | rng lo hi=>obtain⟨_,_,_,e⟩:=x; exact Zq e
 | frz ob u=>obtain⟨e,_⟩:=x; exact Zq e
 | tbl ps=>exact Zq (show h.get? a=some _ from x)
 | met f y=>exact Zq (show h.get? a=some _ from x)
 | ext φ=>obtain⟨_,⟨_,e⟩,_⟩:=x; exact Zq e
theorem Paired.mapP {α β:Type}{F G:α->β->Prop}:∀{l₁:List α}{l₂:List β},Paired F l₁ l₂->(∀ a b,F a b->G a b)->Paired G l₁ l₂
 | _,_,.nil,_=>.nil
 | _,_,.cons r t,f=>.cons (f _ _ r) (Paired.mapP t f)
theorem xam.stay (x:xam P w H h a o) (k:∀ b u,(b=a\/H b=some (.own a))->h.get? b=some u->h'.get? b=some u)
    (ho:∀ b,H b=some (.own a)->H' b=some (.own a)) (ht:∀ b xs,H b=some (.tup xs)->H' b=some (.tup xs)):xam P w H' h' a o:=by
  induction o with
  | lst xs=>obtain⟨z,its,n,r,e⟩:=x; exact⟨z,its,n,r,k _ _ (.inl rfl) e⟩
  | tup xs=>obtain⟨z,its,r,ob,e,c⟩:=x; exact⟨z,its,r,ob,k _ _ (.inl rfl) e,c⟩
  | dK kvs=>obtain⟨z,y,vs,r,ob,es,ep,e,c⟩:=x; exact⟨z,y,vs,r,ob,es,ep,k _ _ (.inl rfl) e,c⟩
  | dT kvs =>
    obtain⟨z,y,xs,r,ob,es,ep,e,c⟩:=x;exact⟨z,y,xs,Paired.mapP r fun p q z=>⟨z.1,ht _ _ z.2.1,z.2.2⟩,ob,es,ep,k _ _ (.inl rfl) e,c⟩
  | set S n=>obtain⟨ob,es,ep,t,e,c⟩:=x; exact⟨ob,es,ep,t,k _ _ (.inl rfl) e,c⟩
  | ins C dx fs =>
    obtain⟨d,z,ne,e,mA,⟨od,es,ep,e2,c⟩,r⟩:=x;exact⟨ho _ d,z,ne,k _ _ (.inl rfl) e,mA,⟨od,es,ep,k _ _ (.inr d) e2,c⟩,r⟩
  | own y=>obtain⟨ob,e⟩:=x; exact⟨ob,k _ _ (.inl rfl) e⟩
  | xd fs=>obtain⟨mA,⟨od,es,ep,e,c⟩,r⟩:=x; exact⟨mA,⟨od,es,ep,k _ _ (.inl rfl) e,c⟩,r⟩
  | rng lo hi=>obtain⟨t,u,v,e⟩:=x; exact⟨t,u,v,k _ _ (.inl rfl) e⟩
  | frz ob u ih=>obtain⟨e,q⟩:=x; exact⟨k _ _ (.inl rfl) e,ih q⟩
  | tbl ps =>
    have e:h.get? a=some { cls:=.none,data:=.fields ps }:=x;show h'.get? a=some { cls:=.none,data:=.fields ps };exact k a _ (.inl rfl) e
  | met f y =>
    have e:h.get? a=some (PySem.W.methodObj (.ref f) (.ref y)):=x;show h'.get? a=some (PySem.W.methodObj (.ref f) (.ref y));exact k a _ (.inl rfl) e
  | ext φ=>obtain⟨p,⟨o,e⟩,st⟩:=x; exact⟨st _ _ p fun o q=>k _ _ (.inl rfl) q,⟨o,k _ _ (.inl rfl) e⟩,st⟩
theorem HOk.lt (x:HOk P w H h) (e:H a=some o):a<h.objs.size:=(x a o e).lt
theorem HOk.fresh (x:HOk P w H h) (e:h.objs.size<=a):H a=none:=by
 cases q:H a with
 | none=>rfl
 | some u=>exact absurd (ZJ (x.lt q) e) (JY _)
theorem HOk.kept (x:HOk P w H h) (k:∀ b u,h.get? b=some u->h'.get? b=some u):HOk P w H h':=fun a o e =>
 (x a o e).stay (fun b u _ q=>k b u q) (fun _ q=>q) fun _ _ q=>q
theorem HOk.laid (x:HOk P w H h) (k:∀ b u,h.get? b=some u->h'.get? b=some u) (hp:h.objs.size<=a) (new:xam P w (upd H a o) h' a o):HOk P w (upd H a o) h':=fun b u e=>by
 have hn:=x.fresh hp;by_cases hb:b=a
 .subst hb; rw[xf] at e; cases e; exact new
 .rw [xh hb] at e;exact (x b u e).stay (fun c v _ q=>k c v q) (fun c q=>by rw[xh (xi q hn)]; exact q) fun c xs q=>by rw[xh (xi q hn)]; exact q
end
def Rd (H:Hp) (a:Addr) (u:HO):Prop:=H a=some u\/∃ o,H a=some (.frz o u)
theorem Rd.ok {P:Program}{w:World}{H:Hp}{h:Heap}{a:Addr}{u:HO} (r:Rd H a u) (x:HOk P w H h):xam P w H h a u:=by
 rcases r with r|⟨o,r⟩
 .exact x a u r
 .obtain ⟨_,q⟩:=x a _ r;exact q
def Mut:Option HO->Prop
 | some (.lst _)=>True
 | some (.dK _)=>True
 | some (.dT _)=>True
 | some (.set _ _)=>True
 | some (.ins _ _ _)=>True
 | some (.ext _)=>True
 | _=>False
section
variable {P:Program}{w:World}{H:Hp}{h h':Heap}{x e:Addr}{o':HO}
theorem HOk.write (ok:HOk P w H h) (mu:Mut (H x)) (he:e=x\/H e=some (.own x)) (k:∀ b u,b≠e->h.get? b=some u->h'.get? b=some u) (heo:∃ u,h'.get? e=some u)
    (new:xam P w (upd H x o') h' x o'):HOk P w (upd H x o') h':=fun b u q=>by
  have nown:∀ c y,H c=some (.own y)->c≠x:=fun c y r z=>by subst z; rw[r] at mu; exact mu
  have ntup:∀ c xs,H c=some (.tup xs)->c≠x:=fun c xs r z=>by subst z; rw[r] at mu; exact mu
  by_cases hb:b=x
  . subst hb; rw[xf] at q; cases q; exact new
  . rw[xh hb] at q
    by_cases hbe:b=e
    . have q':H b=some (.own x):=by
        rcases he with z|z
        . exact absurd (hbe.trans z) hb
        . rw[hbe]; exact z
      rw[q] at q'; cases q';obtain⟨v,hv⟩:=heo;exact⟨v,by rw[hbe]; exact hv⟩
    . refine (ok b u q).stay (fun c v hc r=>k c v ?_ r) (fun c r=>by rw[xh (nown c b r)]; exact r) fun c xs r=>by rw[xh (ntup c xs r)]; exact r
      rcases hc with rfl|hc
      . exact hbe
      . rintro rfl
        rcases he with z|z
        . exact nown c b hc z
        . rw[hc] at z; cases z; exact hb rfl
end
structure Un (fs ex:List Addr) (H H':Hp) (h h':Heap):Prop where
 keep:∀ b o,h.get? b=some o->H b=none->b∉fs->b∉ex->h'.get? b=some o
 slot:∀ b o,h.get? b=some o->H b=none->b∈fs->b∉ex->∃ sl,h'.get? b=some { o with slots:=sl }
 free:∀ b o,h.get? b=some o->H b=none->b∉ex->H' b=none
 there:∀ b o,h.get? b=some o->b∉ex->∃ o',h'.get? b=some o'
 tups:∀ b xs,H b=some (.tup xs)->H' b=some (.tup xs)
 frzs:∀ b o u,H b=some (.frz o u)->H' b=some (.frz o u)
 tbls:∀ b ps,H b=some (.tbl ps)->∃ more,H' b=some (.tbl (ps++more))
section
variable {fs fs' ex ex':List Addr}{H H1 H2:Hp}{h h1 h2 h':Heap}{a x e:Addr}{o:HO}
theorem Un.any (u:Un fs ex H H1 h h1) {b:Addr}{ob:Obj} (q:h.get? b=some ob) (n:H b=none) (hx:b∉ex):∃ sl,h1.get? b=some { ob with slots:=sl }:=by
 by_cases hb:b∈fs
 .exact u.slot b ob q n hb hx
 .exact ⟨ob.slots,u.keep b ob q n hb hx⟩
theorem Un.kept (k:∀ b u,h.get? b=some u->h'.get? b=some u):Un fs ex H H h h' :=
 ⟨fun b ob q _ _ _=>k b ob q,fun b ob q _ _ _=>⟨ob.slots,k b ob q⟩,fun _ _ _ n _=>n,fun b ob q _=>⟨ob,k b ob q⟩,fun _ _ q=>q,fun _ _ _ q=>q,fun _ ps q=>⟨#[],by rw[q]; simp⟩⟩
theorem Un.refl:Un fs ex H H h h:=Un.kept fun _ _ q=>q
theorem Un.laid (k:∀ b u,h.get? b=some u->h'.get? b=some u) (hp:h.objs.size<=a) (hn:H a=none):Un fs ex H (upd H a o) h h' where
 keep:=fun b u q _ _ _=>k b u q
 slot:=fun b u q _ _ _=>⟨u.slots,k b u q⟩
 free:=fun b u q n _=>by rw[xh (ZK (ZJ (Zq q) hp))]; exact n
 there:=fun b u q _=>⟨u,k b u q⟩
 tups:=fun b xs q=>by rw[xh (xi q hn)]; exact q
 frzs:=fun b u xs q=>by rw[xh (xi q hn)]; exact q
 tbls:=fun b ps q=>⟨#[],by rw[xh (xi q hn),q]; simp⟩
theorem Un.write (mu:Mut (H x)) (he:e=x\/H e=some (.own x)) (k:∀ b u,b≠e->h.get? b=some u->h'.get? b=some u) (heo:∃ u,h'.get? e=some u):Un fs ex H (upd H x o) h h':=by
 have hx:∀ b,H b=none->b≠x:=fun b n z=>by subst z; rw[n] at mu; exact mu
 have hb:∀ b,H b=none->b≠e:=fun b n z=>by
  subst z;rcases he with r|r
  .exact hx b n r
  .rw [n] at r; cases r
 have hm:∀ b u,H b=some u->¬ Mut (some u)->b≠x:=fun b u q nm z=>by subst z; rw[q] at mu; exact nm mu
 refine⟨fun b u q n _ _=>k b u (hb b n) q,fun b u q n _ _=>⟨u.slots,k b u (hb b n) q⟩,fun b u q n _=>by rw[xh (hx b n)]; exact n,fun b u q _=>?_,
  fun b xs q=>by rw[xh (hm b _ q fun z=>z)]; exact q,fun b u xs q=>by rw[xh (hm b _ q fun z=>z)]; exact q,fun b ps q=>⟨#[],by rw[xh (hm b _ q fun z=>z),q]; simp⟩⟩
 by_cases hbe:b=e
 .subst hbe; exact heo
 .exact ⟨u,k b u hbe q⟩
end
def trk (h:Heap) (H:Hp):List Addr:=(Z3 h.objs.size).filter fun a=>(H a).isSome
def hidT (h:Heap) (H:Hp):Heap:=PySem.W.hideAll h (trk h H)
theorem xnu (h:Heap) (H:Hp):(hidT h H).objs.size=h.objs.size:=PySem.W.hideAll_size _ _
theorem xqh {h:Heap}{H:Hp}{b:Addr}{o:Obj} (e:h.get? b=some o) (n:H b=none):(hidT h H).get? b=some o :=
 PySem.W.hideAll_get _ e fun hm=>by
  have q:(H b).isSome=true:=(ZO.mp hm).2;rw[n] at q; simp at q
theorem xtc {h:Heap}{H:Hp}{b:Addr}{o:Obj} (e:(hidT h H).get? b=some o):h.get? b=some o/\H b=none:=by
 have e':h.get? b=some o:=PySem.W.of_hideAll (trk h H) e;refine⟨e',?_⟩;cases q:H b with
 | none=>rfl
 | some x =>
  have hm:b∈trk h H:=ZO.mpr ⟨ZQ.mpr (Zq e'),by simp[q]⟩;have z:(hidT h H).get? b=none:=PySem.W.hideAll_none (trk h H) hm;rw[z] at e; cases e
def xtg (g h:Heap) (L:Addr):List (Addr × Obj):=(Z3 h.objs.size).filterMap fun a=>if a=L\/(g.get? a).isSome=true then none else (h.get? a).map fun o=>(a,o)
def rest (g h:Heap) (L d:Addr):List (Addr × Obj):=(xtg g h L).filter fun p=>decide (p.1≠d)
structure Mod (K:Zd) (mg:Str->Option Value) (base:Heap):Prop where
 kin:K.In base
 glob:base.Ns mainGlobals mg
 blt:∃ mb,base.Ns builtinsNs mb/\∀ x:Str,x≠"__name__"->mb x=bootBuiltins x
 nolimit:base.NoLimit
structure Cx where
 prog:Program
 w:World
 K:Zd
 mg:Str->Option Value
 base:Heap
 A:Around
 N:List Str
 s₀:Shared
 H₀:Hp
 env:Env
 outer:List Env
 stack:List Env
 ex:List Addr
 fn:Str->Bool
 calm:Bool
 pn:List (Addr × Obj)
 xe:Value->Shared->Prop
def frs (l:List Env):List Addr:=l.filterMap (·.frame)
abbrev Cx.fs (X:Cx):List Addr:=frs X.outer
def Vis (sc:Scope) (x:Str):Prop:=sc.names.lookup x=some .local\/sc.names.lookup x=some .cell\/sc.names.lookup x=some .free
def Loc (sc:Scope) (x:Str):Prop:=sc.names.lookup x=some .local\/sc.names.lookup x=some .cell
def Look (env:Env) (h:Heap) (m:Str->Option Value) (x:Str) (u:Value):Prop :=
 (env.kindOf x=some .local/\m x=some u)\/((env.kindOf x=some .cell\/env.kindOf x=some .free)/\∃ c,env.cells.lookup x=some c/\h.IsCell c (some u))
structure Cx.Ok (X:Cx):Prop where
 mod:Mod X.K X.mg X.base
 kind:X.env.scope.kind=.function
 glob:X.env.globals=mainGlobals
 blt:X.env.builtins=builtinsNs
 above:X.s₀.heap.objs.size<=X.env.locals
 inj:∀ x y c,X.env.cells.lookup x=some c->X.env.cells.lookup y=some c->x=y
 has:∀ x,(X.env.kindOf x=some .cell\/X.env.kindOf x=some .free)->∃ c,X.env.cells.lookup x=some c
 cab:∀ x c,X.fn x=true->X.env.cells.lookup x=some c->X.s₀.heap.objs.size<=c
 hd:X.calm=true->X.A.handled=none
 frames:X.A.frames=some X.stack
 stk:X.stack=X.outer\/(X.stack=X.env::X.outer/\X.env.frame=some X.env.locals)
 exf:∀ b∈X.ex,b≠X.env.locals/\∀ x c,X.env.cells.lookup x=some c->c≠b
 bs:∀ b o,X.base.get? b=some o->X.s₀.heap.get? b=some o/\X.H₀ b=none
 bsz:X.base.objs.size<=X.s₀.heap.objs.size
 noex:∀ b o,X.base.get? b=some o->b∉X.ex
 exfs:∀ b∈X.ex,b∉X.fs
 funs:X.s₀.heap.FunFrames X.base X.outer
 frf:∀ b∈X.fs,X.H₀ b=none
structure Inv (X:Cx) (pins:List (Addr × Obj)) (Z:List (Option V)) (H:Hp) (s:Shared):Prop where
 ok:X.Ok
 os:s.os=X.s₀.os
 bare:AllBare s.gens
 base:Un X.fs X.ex X.H₀ H X.s₀.heap s.heap
 loc:∃ m,s.heap.Ns X.env.locals m/\∀(i:Nat) (x:Str) (v:V),X.N[i]?=some x->Z[i]?=some (some v)->Vis X.env.scope x->∃ u,RelV v u/\Look X.env s.heap m x u
 cell:∀ x c,X.env.cells.lookup x=some c->∃ v,s.heap.IsCell c v
 free:H X.env.locals=none
 freeC:∀ x c,X.env.cells.lookup x=some c->H c=none
 pin:∀ p∈X.pn++pins,s.heap.get? p.1=some p.2/\H p.1=none/\p.1≠X.env.locals/\p.1∉X.fs/\∀ v,p.2.data≠.cell v
 hok:HOk X.prog X.w H s.heap
 len:Z.length=X.N.length
section
variable {X:Cx}{pins:List (Addr × Obj)}{Z:List (Option V)}{H H':Hp}{s:Shared}{h':Heap}
theorem Cx.Ok.nofr (ok:X.Ok) {b:Addr}{o:Obj} (e:X.base.get? b=some o):b∉X.fs:=fun hb=>by
 have:=(ok.funs.mem hb).1;rw[e] at this; cases this
theorem Inv.bs (I:Inv X pins Z H s):∀ b o,X.base.get? b=some o->s.heap.get? b=some o/\H b=none:=fun b o e =>
 ⟨I.base.keep b o (I.ok.bs b o e).1 (I.ok.bs b o e).2 (I.ok.nofr e) (I.ok.noex b o e),I.base.free b o (I.ok.bs b o e).1 (I.ok.bs b o e).2 (I.ok.noex b o e)⟩
theorem Inv.bk (I:Inv X pins Z H s):∀ b o,X.base.get? b=some o->s.heap.get? b=some o:=fun b o e=>(I.bs b o e).1
theorem Inv.mod (I:Inv X pins Z H s):Mod X.K X.mg X.base:=I.ok.mod
theorem Inv.kIn (I:Inv X pins Z H s):X.K.In s.heap:=I.ok.mod.kin.keeps I.bk
theorem Inv.fr (I:Inv X pins Z H s):∃ m,Fr X.base X.env.locals s.heap m :=
 let ⟨m,hn,_⟩:=I.loc
 ⟨m,hn,I.bk,Zy I.ok.bsz I.ok.above⟩
theorem Inv.lt (I:Inv X pins Z H s):X.env.locals<s.heap.objs.size:=let ⟨_,hn,_⟩:=I.loc; hn.lt
theorem Inv.sz (I:Inv X pins Z H s):X.s₀.heap.objs.size<=s.heap.objs.size:=Zy I.ok.above (JF I.lt)
theorem Inv.nofs (I:Inv X pins Z H s) {a:Addr} (h:s.heap.objs.size<=a):a∉X.fs:=fun hb=>by
 obtain⟨_,o,ho,_⟩:=I.ok.funs.mem hb;exact absurd (ZJ (Zq ho) (Zy I.sz h)) (JY _)
theorem Inv.cne (I:Inv X pins Z H s):∀ x c,X.env.cells.lookup x=some c->c≠X.env.locals:=fun x c e z=>by
 obtain⟨v,o,ho,hd⟩:=I.cell x c e;obtain⟨m,⟨o',es,ep,ho',hd',_⟩,_⟩:=I.loc;rw[z,ho'] at ho; cases ho; rw[hd'] at hd; cases hd
theorem Inv.funs (I:Inv X pins Z H s):s.heap.FunFrames X.base X.outer:=by
 have all:∀(l:List Env),(∀ b∈frs l,b∈X.fs)->X.s₀.heap.FunFrames X.base l->s.heap.FunFrames X.base l:=by
  intro l
  induction l with
  | nil=>intro _ _; trivial
  | cons env r ih =>
   intro hs hl;obtain⟨hk,⟨L,o,hf,hn,ho,hd⟩,hr⟩:=hl;have hL:L∈X.fs:=hs L (by unfold frs; rw[Y8,hf]; exact Zr);obtain⟨sl,e⟩:=I.base.slot L o ho (I.ok.frf L hL) hL fun z=>I.ok.exfs L z hL
   exact⟨hk,⟨L,_,hf,hn,e,hd⟩,ih (fun b hb=>hs b (by unfold frs; rw[Y8,hf]; exact Zt _ hb)) hr⟩
 exact all X.outer (fun _ hb=>hb) I.ok.funs
theorem Inv.stack (I:Inv X pins Z H s):s.heap.FunFrames X.base X.stack:=by
 rcases I.ok.stk with e|⟨e,hf⟩
 .rw [e]; exact I.funs
 .rw [e];obtain⟨m,hn,_⟩:=I.loc;refine .cons (by rw[I.ok.kind]; decide) hf hn ?_ I.funs;exact We (Zy I.ok.bsz I.ok.above)
theorem Inv.stkSub (I:Inv X pins Z H s):∀ b∈frs X.stack,b∈X.env.locals::X.fs:=fun b hb=>by
 rcases I.ok.stk with e|⟨e,hf⟩
 .rw [e] at hb; exact Zt _ hb
 .rw [e] at hb;unfold frs at hb;rw[Y8,hf] at hb;exact hb
theorem Inv.stkFree (I:Inv X pins Z H s):∀ b∈frs X.stack,H b=none:=fun b hb=>by
 rcases Z1.mp (I.stkSub b hb) with e|hb
 .rw [e]; exact I.free
 .obtain ⟨_,o,ho,_⟩:=I.ok.funs.mem hb;exact I.base.free b o ho (I.ok.frf b hb) fun z=>I.ok.exfs b z hb
theorem Inv.step {g':Array GenState}{t':Nat}{d':Drawn}{ch:List Addr} (I:Inv X pins Z H s)
    (hch:∀ b∈ch,(b∈X.ex\/X.s₀.heap.objs.size<=b)/\b≠X.env.locals/\(∀ x c,X.env.cells.lookup x=some c->c≠b)/\∀ p∈X.pn++pins,p.1≠b)
    (keep:∀ b o,b≠X.env.locals->b∉X.fs->b∉ch->s.heap.get? b=some o->H b=none->h'.get? b=some o)
    (slot:∀ b o,b≠X.env.locals->b∈X.fs->b∉ch->s.heap.get? b=some o->H b=none->∃ sl,h'.get? b=some { o with slots:=sl }) (free:∀ b o,b∉ch->s.heap.get? b=some o->H b=none->H' b=none)
    (there:∀ b o,b∉ch->s.heap.get? b=some o->∃ o',h'.get? b=some o')
    (tups:∀ b xs,H b=some (.tup xs)->H' b=some (.tup xs)) (frzs:∀ b o u,H b=some (.frz o u)->H' b=some (.frz o u)) (tbls:∀ b ps,H b=some (.tbl ps)->∃ more,H' b=some (.tbl (ps++more)))
    (ns:∀ m,s.heap.Ns X.env.locals m->h'.Ns X.env.locals m) (hok:HOk X.prog X.w H' h') (hg:AllBare g') :
    Inv X pins Z H' { s with heap:=h',gens:=g',drawn:=d',toks:=t' }:=by
  have neL:∀ b o,X.s₀.heap.get? b=some o->b≠X.env.locals:=fun b o e=>ZK (ZJ (Zq e) I.ok.above);have neC:∀ b o,X.s₀.heap.get? b=some o->b∉X.ex->b∉ch:=fun b o e hx hb=>by
    rcases (hch b hb).1 with z|z
    . exact hx z
    . exact absurd (ZJ (Zq e) z) (JY _)
  have cellK:∀ x c,X.env.cells.lookup x=some c->∀ v,s.heap.IsCell c v->h'.IsCell c v:=fun x c e v ⟨o,ho,hd⟩=>by
    have nch:c∉ch:=fun z=>(hch c z).2.2.1 x c e rfl;by_cases hc:c∈X.fs
    . obtain⟨sl,q⟩:=slot c o (I.cne x c e) hc nch ho (I.freeC x c e)
      exact⟨_,q,hd⟩
    . exact⟨o,keep c o (I.cne x c e) hc nch ho (I.freeC x c e),hd⟩
  refine⟨I.ok,I.os,hg,⟨fun b o e n hb hx=>?_,fun b o e n hb hx=>?_,fun b o e n hx=>?_,fun b o e hx=>?_,fun b xs e=>tups b xs (I.base.tups b xs e),fun b o xs e=>frzs b o xs (I.base.frzs b o xs e),fun b ps e=>?_⟩,?_,fun x c e=>?_,?_,fun x c e=>?_,fun p hp=>?_,hok,I.len⟩
  . exact keep b o (neL b o e) hb (neC b o e hx) (I.base.keep b o e n hb hx) (I.base.free b o e n hx)
  . obtain⟨sl,e1⟩:=I.base.slot b o e n hb hx
    obtain⟨sl',e2⟩:=slot b _ (neL b o e) hb (neC b o e hx) e1 (I.base.free b o e n hx);exact⟨sl',e2⟩
  . obtain⟨o',e1⟩:=I.base.there b o e hx
    exact free b o' (neC b o e hx) e1 (I.base.free b o e n hx)
  . obtain⟨o',e1⟩:=I.base.there b o e hx
    exact there b o' (neC b o e hx) e1
  . obtain⟨m1,e1⟩:=I.base.tbls b ps e
    obtain⟨m2,e2⟩:=tbls b _ e1;exact⟨m1++m2,by rw[e2,Array.append_assoc]⟩
  . obtain⟨m,hn,hl⟩:=I.loc
    refine⟨m,ns m hn,fun i x v e1 e2 e3=>?_⟩;obtain⟨u,r,l⟩:=hl i x v e1 e2 e3;refine⟨u,r,?_⟩;rcases l with l|⟨k,c,e,z⟩
    . exact .inl l
    . exact .inr ⟨k,c,e,cellK x c e _ z⟩
  . obtain⟨v,z⟩:=I.cell x c e
    exact⟨v,cellK x c e v z⟩
  . obtain⟨m,⟨o,_,_,ho,_⟩,_⟩:=I.loc
    exact free _ o (fun z=>(hch _ z).2.1 rfl) ho I.free
  . obtain⟨v,o,ho,hd⟩:=I.cell x c e
    exact free c o (fun z=>(hch c z).2.2.1 x c e rfl) ho (I.freeC x c e)
  . obtain⟨e,n,ne,nf,d⟩:=I.pin p hp
    have nch:p.1∉ch:=fun z=>(hch p.1 z).2.2.2 p hp rfl;exact⟨keep p.1 p.2 ne nf nch e n,free p.1 p.2 nch e n,ne,nf,d⟩
theorem Inv.un {t':Nat} (I:Inv X pins Z H s) (u:Un X.fs [] H H' s.heap h') (hok:HOk X.prog X.w H' h'):Inv X pins Z H' { s with heap:=h',toks:=t' }:=by
 obtain⟨m,⟨o,es,ep,ho,r⟩,_⟩:=id I.loc;obtain⟨sl,hL⟩:=u.any ho I.free (by simp);exact I.step (g':=s.gens) (d':=s.drawn) (ch:=[]) (fun _ z=>nomatch z) (fun b o _ hb _ e n=>u.keep b o e n hb (by simp)) (fun b o _ hb _ e n=>u.slot b o e n hb (by simp)) (fun b o _ e n=>u.free b o e n (by simp)) (fun b o _ e=>u.there b o e (by simp)) u.tups u.frzs u.tbls (fun m' hm=>by
  obtain⟨o',es',ep',ho',r'⟩:=hm;rw[ho] at ho'; cases ho';exact⟨_,es',ep',hL,r'⟩) hok I.bare
theorem Inv.call {g':Array GenState}{t':Nat}{d':Drawn}{ch:List Addr} (I:Inv X pins Z H s) (u:Un (frs X.stack) ch H H' s.heap h') (hok:HOk X.prog X.w H' h') (hg:AllBare g')
    (hch:∀ b∈ch,(b∈X.ex\/X.s₀.heap.objs.size<=b)/\b≠X.env.locals/\(∀ x c,X.env.cells.lookup x=some c->c≠b)/\∀ p∈X.pn++pins,p.1≠b) :
    Inv X pins Z H' { s with heap:=h',gens:=g',drawn:=d',toks:=t' }:=by
  obtain⟨m,⟨o,es,ep,ho,r⟩,_⟩:=id I.loc;obtain⟨sl,hL⟩:=u.any ho I.free fun z=>(hch _ z).2.1 rfl
  exact I.step (ch:=ch) hch (fun b o hL hb hc e n=>u.keep b o e n (fun z=>(Z1.mp (I.stkSub b z)).elim hL hb) hc) (fun b o _ _ hc e n=>u.any e n hc) (fun b o hc e n=>u.free b o e n hc) (fun b o hc e=>u.there b o e hc) u.tups u.frzs u.tbls (fun m' hm=>by
    obtain⟨o',es',ep',ho',r'⟩:=hm;rw[ho] at ho'; cases ho';exact⟨_,es',ep',hL,r'⟩) hok hg
theorem Inv.turned {t':Nat}{it:Addr} (I:Inv X pins Z H s) (k:∀ b o,b≠it->s.heap.get? b=some o->h'.get? b=some o) (hn:H it=none) (hL:it≠X.env.locals)
    (h1:it∈X.ex\/X.s₀.heap.objs.size<=it) (h2:∀ x c,X.env.cells.lookup x=some c->c≠it) (h3:∀ p∈X.pn++pins,p.1≠it):Inv X pins Z H { s with heap:=h',toks:=t' }:=by
  have nit:∀ b u,H b=some u->b≠it:=fun b u e z=>by rw[z,hn] at e; cases e
  refine I.step (g':=s.gens) (d':=s.drawn) (ch:=[it]) (fun b hb=>?_) (fun b o _ _ hc e _=>k b o (fun z=>hc (by simp[z])) e) (fun b o _ _ hc e _=>⟨o.slots,k b o (fun z=>hc (by simp[z])) e⟩) (fun _ _ _ _ n=>n)
    (fun b o hc e=>⟨o,k b o (fun z=>hc (by simp[z])) e⟩) (fun _ _ e=>e) (fun _ _ _ e=>e) (fun b ps e=>⟨#[],by rw[e]; simp⟩) (fun m hm=>?_) (fun b u e=>?_) I.bare
  . have e:b=it:=by simpa using hb
    subst e;exact⟨h1,hL,h2,h3⟩
  . obtain⟨o,es,ep,ho,r⟩:=hm
    exact⟨o,es,ep,k _ o (ZI hL) ho,r⟩
  . refine (I.hok b u e).stay (fun c v hc q=>k c v ?_ q) (fun _ q=>q) fun _ _ q=>q
    rcases hc with z|z
    . rw[z]; exact nit b u e
    . exact nit c _ z
theorem Inv.tok (I:Inv X pins Z H s) (t:Nat):Inv X pins Z H { s with toks:=t }:=I.un (h':=s.heap) (t':=t) Un.refl I.hok
theorem Inv.kept {t':Nat} (I:Inv X pins Z H s) (k:∀ b u,s.heap.get? b=some u->h'.get? b=some u):Inv X pins Z H { s with heap:=h',toks:=t' }:=I.un (Un.kept k) (I.hok.kept k)
theorem Inv.laid {a:Addr}{o:HO}{t':Nat} (I:Inv X pins Z H s) (k:∀ b u,s.heap.get? b=some u->h'.get? b=some u) (hp:s.heap.objs.size<=a) (new:xam X.prog X.w (upd H a o) h' a o) :
    Inv X pins Z (upd H a o) { s with heap:=h',toks:=t' }:=I.un (Un.laid k hp (I.hok.fresh hp)) (I.hok.laid k hp new)
theorem Inv.write {x e:Addr}{o:HO}{t':Nat} (I:Inv X pins Z H s) (mu:Mut (H x)) (he:e=x\/H e=some (.own x)) (k:∀ b u,b≠e->s.heap.get? b=some u->h'.get? b=some u) (heo:∃ u,h'.get? e=some u)
    (new:xam X.prog X.w (upd H x o) h' x o):Inv X pins Z (upd H x o) { s with heap:=h',toks:=t' }:=I.un (Un.write mu he k heo) (I.hok.write mu he k heo new)
theorem Inv.weak {σ':List (Option V)} (I:Inv X pins Z H s) (hl:σ'.length=Z.length) (w:∀(i:Nat) v,σ'[i]?=some (some v)->Z[i]?=some (some v)):Inv X pins σ' H s :=
 ⟨I.ok,I.os,I.bare,I.base,let ⟨m,hn,hl'⟩:=I.loc; ⟨m,hn,fun i x v e1 e2 e3=>hl' i x v e1 (w i v e2) e3⟩,I.cell,I.free,I.freeC,I.pin,I.hok,hl.trans I.len⟩
theorem Inv.pins_of {pins':List (Addr × Obj)} (I:Inv X pins Z H s) (h:∀ p∈pins',s.heap.get? p.1=some p.2/\H p.1=none/\p.1≠X.env.locals/\p.1∉X.fs/\∀ v,p.2.data≠.cell v):Inv X pins' Z H s :=
 ⟨I.ok,I.os,I.bare,I.base,I.loc,I.cell,I.free,I.freeC,fun p hp=>(Z9.mp hp).elim (fun z=>I.pin p (Yy _ z)) (h p),I.hok,I.len⟩
theorem xhg {N:List Str} (hN:N.Nodup) {i j:Nat}{x:Str} (a:N[i]?=some x) (b:N[j]?=some x):i=j:=by
 obtain⟨h1,e1⟩:=Zi.mp a;obtain⟨h2,e2⟩:=Zi.mp b;exact (List.getElem_inj hN).mp (e1.trans e2.symm)
theorem xi4 {M:Model}{A:Around}{E:Value->Shared->Prop}{i:Nat}{x:Str}{v:V}{u:Value}{Q:Unit->Shared->Prop} (I:Inv X pins Z H s) (hN:X.N.Nodup) (hi:X.N[i]?=some x) (hx:Loc X.env.scope x) (r:RelV v u)
    (h:∀ s',Inv X pins (Z.set i (some v)) H s'->(∃ a,ZN a s.heap s'.heap/\(a=X.env.locals\/X.env.cells.lookup x=some a))->Q () s') (hf:X.fn x=true\/X.env.scope.names.lookup x=some .local:=by first|exact .inl rfl|exact .inr rfl|assumption):wpAny M A (storeName X.env x u) Q E s:=by
  obtain⟨m,hn,hl⟩:=id I.loc;have hcls:(X.env.scope.kind == .class||(X.env.scope.kind == .module&&X.env.locals != X.env.globals))=false:=by rw[I.ok.kind]; rfl
  have hiσ:i<Z.length:=by rw[I.len]; exact (Zi.mp hi).1
  have cne:=I.cne;have tracked:∀{a:Addr}{h':Heap},(∃ o,s.heap.get? a=some o/\H a=none)->ZN a s.heap h'->HOk X.prog X.w H h':=fun {a h'} ha hs b ob e=>by
    obtain⟨_,_,hfree⟩:=ha;refine (I.hok b ob e).stay (fun c w' hc q=>(hs.2 c ?_).trans q) (fun _ q=>q) fun _ _ q=>q;rintro rfl;rcases hc with rfl|hc
    . rw[hfree] at e; cases e
    . rw[hfree] at hc; cases hc
  rcases hx with hk|hk
  . refine wpAny_storeName_local hk hn (fun h' hn' hs=>?_) hcls
    obtain⟨oL,_,_,hoL,_⟩:=id hn;refine h _ ⟨I.ok,I.os,I.bare,⟨fun b o e n hb hx=>?_,fun b o e n hb hx=>?_,I.base.free,fun b o e hx=>?_,I.base.tups,I.base.frzs,I.base.tbls⟩,⟨_,hn',fun j y v' e1 e2 e3=>?_⟩,fun y c e=>?_,I.free,I.freeC,fun p hp=>?_,tracked ⟨oL,hoL,I.free⟩ hs,by simpa using I.len⟩ ⟨_,hs,.inl rfl⟩
    . exact (hs.2 b (ZK (ZJ (Zq e) I.ok.above))).trans (I.base.keep b o e n hb hx)
    . obtain⟨sl,e1⟩:=I.base.slot b o e n hb hx
      exact⟨sl,(hs.2 b (ZK (ZJ (Zq e) I.ok.above))).trans e1⟩
    . obtain⟨o',e1⟩:=I.base.there b o e hx
      exact⟨o',(hs.2 b (ZK (ZJ (Zq e) I.ok.above))).trans e1⟩
    . by_cases hj:j=i
      . subst hj
        rw[hi] at e1; cases e1;rw[Yl hiσ] at e2;cases e2;exact⟨u,r,.inl ⟨hk,by simp⟩⟩
      . rw[J5 (ZI hj)] at e2
        obtain⟨u',r',q⟩:=hl j y v' e1 e2 e3;refine⟨u',r',?_⟩;rcases q with⟨k,e⟩|⟨k,c,e,z⟩
        . refine .inl ⟨k,?_⟩
          have:y≠x:=fun e=>hj (xhg hN e1 (e▸hi));simp[this,e]
        . exact .inr ⟨k,c,e,z.sameBut hs (cne y c e)⟩
    . obtain⟨w',z⟩:=I.cell y c e
      exact⟨w',z.sameBut hs (cne y c e)⟩
    . obtain⟨e,n,ne,nf,d⟩:=I.pin p hp
      exact⟨(hs.2 p.1 ne).trans e,n,ne,nf,d⟩
  . have hfn:X.fn x=true:=by
      rcases hf with z|z
      . exact z
      . rw[z] at hk; cases hk
    obtain⟨c,hc⟩:=I.ok.has x (.inl hk);obtain⟨w',z⟩:=I.cell x c hc;refine wpAny_storeName_cell I.ok.kind hk hc z (fun h' hc' hs=>?_);obtain⟨oc,hoc,hocd⟩:=id z;refine h { s with heap:=h' } ⟨I.ok,I.os,I.bare,⟨fun b o e n hb hx=>?_,fun b o e n hb hx=>?_,I.base.free,fun b o e hx=>?_,I.base.tups,I.base.frzs,I.base.tbls⟩,⟨m,hn.sameBut hs (ZI (cne x c hc)),fun j y v' e1 e2 e3=>?_⟩,fun y c' e=>?_,I.free,I.freeC,fun p hp=>?_,tracked ⟨oc,hoc,I.freeC x c hc⟩ hs,by simpa using I.len⟩ ⟨c,hs,.inr hc⟩
    . exact (hs.2 b (ZK (ZJ (Zq e) (I.ok.cab x c hfn hc)))).trans (I.base.keep b o e n hb hx)
    . obtain⟨sl,e1⟩:=I.base.slot b o e n hb hx
      exact⟨sl,(hs.2 b (ZK (ZJ (Zq e) (I.ok.cab x c hfn hc)))).trans e1⟩
    . obtain⟨o',e1⟩:=I.base.there b o e hx
      exact⟨o',(hs.2 b (ZK (ZJ (Zq e) (I.ok.cab x c hfn hc)))).trans e1⟩
    . by_cases hj:j=i
      . subst hj
        rw[hi] at e1; cases e1;rw[Yl hiσ] at e2;cases e2;exact⟨u,r,.inr ⟨.inl hk,c,hc,hc'⟩⟩
      . rw[J5 (ZI hj)] at e2
        obtain⟨u',r',q⟩:=hl j y v' e1 e2 e3;refine⟨u',r',?_⟩;rcases q with q|⟨k,c',e,z'⟩
        . exact .inl q
        . refine .inr ⟨k,c',e,z'.sameBut hs ?_⟩
          rintro rfl;exact hj (xhg hN e1 (I.ok.inj _ _ _ e hc▸hi))
    . by_cases hcc:c'=c
      . subst hcc; exact⟨_,hc'⟩
      . obtain⟨w2,z2⟩:=I.cell y c' e
        exact⟨w2,z2.sameBut hs hcc⟩
    . obtain⟨e,n,ne,nf,d⟩:=I.pin p hp
      refine⟨(hs.2 p.1 ?_).trans e,n,ne,nf,d⟩;intro q;rw[q,hoc] at e;have q':oc=p.2:=Jw.inj e;exact d w' (by rw[<- q']; exact hocd)
theorem xgy {M:Model}{A:Around}{E:Value->Shared->Prop}{i:Nat}{x:Str}{v:V}{u:Value}{Q:Unit->Shared->Prop} (I:Inv X pins Z H s) (hN:X.N.Nodup) (hi:X.N[i]?=some x) (hx:Loc X.env.scope x) (r:RelV v u)
    (h:∀ s',Inv X pins (Z.set i (some v)) H s'->Q () s') (hf:X.fn x=true\/X.env.scope.names.lookup x=some .local:=by first|exact .inl rfl|exact .inr rfl|assumption):wpAny M A (storeName X.env x u) Q E s :=
  xi4 I hN hi hx r (fun s' I' _=>h s' I') hf
theorem Inv.call' {s':Shared}{ch:List Addr} (I:Inv X pins Z H s) (ho:s'.os=s.os) (u:Un (frs X.stack) ch H H' s.heap s'.heap) (hok:HOk X.prog X.w H' s'.heap) (hg:AllBare s'.gens)
    (hch:∀ b∈ch,(b∈X.ex\/X.s₀.heap.objs.size<=b)/\b≠X.env.locals/\(∀ x c,X.env.cells.lookup x=some c->c≠b)/\∀ p∈X.pn++pins,p.1≠b):Inv X pins Z H' s':=by
  obtain⟨h',g',d',t',o'⟩:=s';have e:o'=s.os:=ho;subst e;exact I.call (g':=g') (t':=t') (d':=d') u hok hg hch
end
abbrev XK:=Addr->Addr->Hp->Prop
abbrev St:=List (Option V)
abbrev VK:=V->Hp->Prop
abbrev TE:=St->Hp->VK->Prop
abbrev TT:=St->Hp->(Bool->Hp->Prop)->Prop
abbrev TA:=St->Hp->(List V->Hp->Prop)->Prop
structure Ends where
 nx:St->Hp->Prop
 rt:VK
 bk:St->Hp->Prop:=fun _ _=>False
 ct:St->Hp->Prop:=fun _ _=>False
abbrev TS:=Ends->St->Hp->Prop
def EP (X:Cx) (pins:List (Addr × Obj)) (Z:St) (Q:VK) (u:Value) (s':Shared):Prop:=∃ v H',Inv X pins Z H' s'/\RelV v u/\Q v H'
def TP (X:Cx) (pins:List (Addr × Obj)) (Z:St) (Q:Bool->Hp->Prop) (b:Bool) (s':Shared):Prop:=∃ H',Inv X pins Z H' s'/\Q b H'
def AP (X:Cx) (pins:List (Addr × Obj)) (Z:St) (Q:List V->Hp->Prop) (us:List Value) (s':Shared):Prop:=∃ vs H',Inv X pins Z H' s'/\Vals vs us/\Q vs H'
def SP (X:Cx) (pins:List (Addr × Obj)) (D:Ends) (f:Flow) (s':Shared):Prop :=
 match f with
 | .next=>∃ σ' H',Inv X pins σ' H' s'/\D.nx σ' H'
 | .brk=>∃ σ' H',Inv X pins σ' H' s'/\D.bk σ' H'
 | .cont=>∃ σ' H',Inv X pins σ' H' s'/\D.ct σ' H'
 | .ret u=>∃ v σ' H',Inv X pins σ' H' s'/\RelV v u/\D.rt v H'
def PE (X:Cx) (e:Expr) (t:TE):Prop :=
 ∀(pins:List (Addr × Obj)) (s:Shared) (Z:St) (H:Hp) (Q:VK),Inv X pins Z H s->t Z H Q->wpAny (model X.prog X.w) X.A (eval e X.env) (EP X pins Z Q) X.xe s
def PT (X:Cx) (e:Expr) (t:TT):Prop :=
 ∀(pins:List (Addr × Obj)) (s:Shared) (Z:St) (H:Hp) (Q:Bool->Hp->Prop),Inv X pins Z H s->t Z H Q->wpAny (model X.prog X.w) X.A (isTrue e X.env (eval e X.env)) (TP X pins Z Q) X.xe s
def PW (X:Cx) (e:Expr) (t:TT):Prop :=
 ∀(whole:Sem Value) (pins:List (Addr × Obj)) (s:Shared) (Z:St) (H:Hp) (Q:Bool->Hp->Prop),Inv X pins Z H s->t Z H Q->wpAny (model X.prog X.w) X.A (isTrue e X.env whole) (TP X pins Z Q) X.xe s
theorem PW.pt {X:Cx}{e:Expr}{t:TT} (h:PW X e t):PT X e t:=h _
def PA (X:Cx) (es:List Expr) (t:TA):Prop :=
 ∀(pos:Pos) (pins:List (Addr × Obj)) (s:Shared) (Z:St) (H:Hp) (Q:List V->Hp->Prop),Inv X pins Z H s->t Z H Q->wpAny (model X.prog X.w) X.A (spliced (backTo pos (starEach es X.env))) (AP X pins Z Q) X.xe s
def PS (X:Cx) (st:Stmt) (t:TS):Prop :=
 ∀(pins:List (Addr × Obj)) (s:Shared) (Z:St) (H:Hp) (D:Ends),Inv X pins Z H s->t D Z H->wpAny (model X.prog X.w) X.A (exec st X.env) (SP X pins D) X.xe s
def PSs (X:Cx) (st:List Stmt) (t:TS):Prop :=
 ∀(pins:List (Addr × Obj)) (s:Shared) (Z:St) (H:Hp) (D:Ends),Inv X pins Z H s->t D Z H->wpAny (model X.prog X.w) X.A (execs st X.env) (SP X pins D) X.xe s
theorem thn {α:Type}{t:Sem α}{Q Q':α->Shared->Prop}{M:Model}{A:Around}{E:Value->Shared->Prop}{s:Shared} (h:wpAny M A t Q E s) (hQ:∀ a s,Q a s->Q' a s):wpAny M A t Q' E s:=ZT h hQ fun _ _ x=>x
section
variable {X:Cx}
inductive tVar (i:Nat) (Z:St) (H:Hp) (Q:VK):Prop
 | mk (v) (e_:Z[i]?=some (some v)) (r_:Q v H)
def tC (v:V):TE:=fun _ H Q=>Q v H
theorem xuy {i:Nat}{x:Str}{pos:Pos} (hN:X.N[i]?=some x) (hv:Vis X.env.scope x) (hd:(x == ("__debug__":Str))=false:=by decide) (hcd:(x == ("__classdict__":Str))=false:=by decide):PE X (.Name x pos) (tVar i):=by
 intro pins s Z H Q I h;obtain⟨v,e,h⟩:=h;obtain⟨m,hn,hl⟩:=I.loc;obtain⟨u,r,l⟩:=hl i x v hN e hv;have fin:EP X pins Z Q u s:=⟨v,H,I,r,h⟩
 rcases l with⟨hk,hm⟩|⟨hk,c,hc,hcell⟩
 .exact wpAny_Name (wpAny_loadName_local I.ok.kind hk hn hm fin) hd
 .rcases hk with hk|hk
  .exact wpAny_Name (wpAny_loadName_cell I.ok.kind hk hc hcell fin) hd
  .exact wpAny_Name (wpAny_loadName_free I.ok.kind hk hc hcell fin hcd) hd
theorem xk {i j pos}:PE X (.Constant (.int i) j pos) (tC (.int i)):=fun _ _ _ H _ I h=>wpAny_Constant_int ⟨.int i,H,I.tok _,⟨_,rfl⟩,h⟩
theorem xdz {b j pos}:PE X (.Constant (.bool b) j pos) (tC (.bl b)):=fun _ _ _ H _ I h=>Constant_bool ⟨.bl b,H,I,rfl,h⟩
theorem xez {j pos}:PE X (.Constant .none j pos) (tC .non):=fun _ _ _ H _ I h=>Constant_none ⟨.non,H,I,rfl,h⟩
theorem x6 {x j pos}:PE X (.Constant (.str x) j pos) (tC (.str x)):=fun _ _ _ H _ I h=>Calls.Constant_str ⟨.str x,H,I.tok _,⟨_,rfl⟩,h⟩
def Gl (X:Cx) (x:Str):Prop:=X.env.kindOf x=some .globalImplicit
theorem xev {E:Value->Shared->Prop}{pins:List (Addr × Obj)}{s:Shared}{Z:St}{H:Hp}{x:Str}{u:Value}{pos:Pos}{Q:Value->Shared->Prop} (I:Inv X pins Z H s) (hg:Gl X x) (hm:X.mg x=some u) (h:Q u s)
    (hd:(x == ("__debug__":Str))=false:=by decide):wpAny (model X.prog X.w) X.A (eval (.Name x pos) X.env) Q E s :=
  Calls.Name_function_global I.ok.kind hg (Calls.loadGlobal_global (by rw[I.ok.glob]; exact I.mod.glob.keeps I.bk) hm h) hd
theorem xcw {E:Value->Shared->Prop}{pins:List (Addr × Obj)}{s:Shared}{Z:St}{H:Hp}{x:Str}{u:Value}{pos:Pos}{Q:Value->Shared->Prop} (I:Inv X pins Z H s) (hg:Gl X x) (hm:X.mg x=none) (hv:bootBuiltins x=some u) (h:Q u s)
    (hn:x≠"__name__":=by decide) (hd:(x == ("__debug__":Str))=false:=by decide):wpAny (model X.prog X.w) X.A (eval (.Name x pos) X.env) Q E s:=by
  obtain⟨mb,h1,h2⟩:=I.mod.blt;exact Calls.Name_function_global I.ok.kind hg (Calls.loadGlobal_builtin (by rw[I.ok.glob]; exact I.mod.glob.keeps I.bk) hm (by rw[I.ok.blt]; exact h1.keeps I.bk) ((h2 x hn).trans hv) h) hd
theorem xbn {x:Str}{v:V}{u:Value}{pos:Pos} (hg:Gl X x) (hm:X.mg x=some u) (r:RelV v u) (hd:(x == ("__debug__":Str))=false:=by decide):PE X (.Name x pos) (tC v) :=
 fun _ _ _ H _ I h=>xev I hg hm ⟨v,H,I,r,h⟩ hd
theorem xca {x:Str}{v:V}{u:Value}{pos:Pos} (hg:Gl X x) (hm:X.mg x=none) (hv:bootBuiltins x=some u) (r:RelV v u) (hn:x≠"__name__":=by decide) (hd:(x == ("__debug__":Str))=false:=by decide):PE X (.Name x pos) (tC v) :=
 fun _ _ _ H _ I h=>xcw I hg hm hv ⟨v,H,I,r,h⟩ hn hd
variable {a b:Expr}{ta tb:TE}{pos:Pos}
def PC (X:Cx) (op:CmpOp) (a b:Expr) (t:TE):Prop :=
 ∀(pins:List (Addr × Obj)) (s:Shared) (Z:St) (H:Hp) (Q:VK),Inv X pins Z H s->t Z H Q ->
  wpAny (model X.prog X.w) X.A (eval a X.env) (fun v s₁=>wpAny (model X.prog X.w) X.A (eval b X.env) (fun u s₂=>wpAny (model X.prog X.w) X.A (compareOp op v u) (EP X pins Z Q) X.xe s₂) X.xe s₁) X.xe s
theorem xle (b:Expr) {op:CmpOp} (h:op≠.In) (h2:op≠.NotIn):behindInMarks op b=false:=by
 have e1:(op == CmpOp.In)=false:=by cases op<;>first|rfl|exact absurd rfl h
 have e2:(op == CmpOp.NotIn)=false:=by cases op<;>first|rfl|exact absurd rfl h2
 cases b<;>simp[behindInMarks,e1,e2]
inductive tB_i (x:V) (H1:Hp) (Q:Bool->Hp->Prop):Prop
 | mk (c) (e_:x=.bl c) (r_:Q c H1)
def tB (t:TE):TT:=fun Z H Q=>t Z H fun x H1=>tB_i x H1 Q
theorem xny {op:CmpOp}{t:TE} (h:PC X op a b t) (h1:behindInMarks op b=false:=by first|exact xle _ (by decide) (by decide)|rfl):PE X (.Compare a [op] [b] pos) t:=fun pins s Z H Q I hw=>wpAny_Compare1 (h pins s Z H Q I hw) h1
theorem xds {op:CmpOp}{t:TE} (h:PC X op a b t) (h1:behindInMarks op b=false:=by first|exact xle _ (by decide) (by decide)|rfl):PT X (.Compare a [op] [b] pos) (tB t):=by
 intro pins s Z H Q I hw;refine wpAny_isTrue_Compare1 (thn (h pins s Z H _ I hw) fun v s1 h1=>thn h1 fun u s2 h2=>thn h2 fun c s3 ⟨x,H1,I1,r1,q1⟩=>?_) h1;obtain⟨d,rfl,q⟩:=q1;cases r1;exact J9 ⟨H1,I1,q⟩
theorem xa9 {e:Expr}{t:TE} (h:PE X e t) (he:∀ whole,isTrue e X.env whole=(do let v <- whole; standAt e.pos; holding [v] (truthy v)):=by intro _; rfl):PT X e (tB t):=by
 intro pins s Z H Q I hw;refine isTrue_plain (thn (h pins s Z H _ I hw) fun v s1 ⟨x,H1,I1,r1,q1⟩=>?_) (he _);obtain⟨d,rfl,q⟩:=q1;cases r1;exact J9 ⟨H1,I1,q⟩
variable {tA tB':TT}{rest:List Expr}
def tAnd (t u:TT):TT:=fun Z H Q=>t Z H fun c H1=>if c=true then u Z H1 Q else Q false H1
def tOr (t u:TT):TT:=fun Z H Q=>t Z H fun c H1=>if c=true then Q true H1 else u Z H1 Q
def tNot (t:TT):TT:=fun Z H Q=>t Z H fun c H1=>Q (!c) H1
theorem xio (ha:PT X a tA):PW X (.BoolOp .And [a] pos) tA:=by
 intro wh pins s Z H Q I h;refine isTrue_and (thn (ha pins s Z H Q I h) fun c s1 e=>?_);cases c with
 | true=>exact isTrue_and_nil e
 | false=>exact e
theorem xcd (ha:PT X a tA):PW X (.BoolOp .Or [a] pos) tA:=by
 intro wh pins s Z H Q I h;refine isTrue_or (thn (ha pins s Z H Q I h) fun c s1 e=>?_);cases c with
 | false=>exact isTrue_or_nil e
 | true=>exact e
theorem xkg (ha:PT X a tA) (hb:PW X (.BoolOp .And (b::rest) pos) tB'):PW X (.BoolOp .And (a::b::rest) pos) (tAnd tA tB'):=by
 intro wh pins s Z H Q I h;refine isTrue_and (thn (ha pins s Z H _ I h) fun c s1 ⟨H1,I1,q1⟩=>?_);cases c with
 | true=>exact hb wh pins s1 Z H1 Q I1 q1
 | false=>exact⟨H1,I1,q1⟩
theorem xcj (ha:PT X a tA) (hb:PW X (.BoolOp .Or (b::rest) pos) tB'):PW X (.BoolOp .Or (a::b::rest) pos) (tOr tA tB'):=by
 intro wh pins s Z H Q I h;refine isTrue_or (thn (ha pins s Z H _ I h) fun c s1 ⟨H1,I1,q1⟩=>?_);cases c with
 | true=>exact⟨H1,I1,q1⟩
 | false=>exact hb wh pins s1 Z H1 Q I1 q1
theorem xbh (ha:PT X a tA):PT X (.UnaryOp .Not a pos) (tNot tA):=by
 intro pins s Z H Q I h;exact isTrue_not (ha pins s Z H (fun c H1=>Q (!c) H1) I h)
inductive xtd (tb:TE) (Z:St) (x:V) (H1:Hp) (Q:VK):Prop
 | mk (c) (e_:x=.bl c) (r_:if c=true then tb Z H1 Q else Q (.bl false) H1)
def xvw (ta tb:TE):TE:=fun Z H Q=>ta Z H fun x H1=>xtd tb Z x H1 Q
inductive xu9 (tb:TE) (Z:St) (x:V) (H1:Hp) (Q:VK):Prop
 | mk (c) (e_:x=.bl c) (r_:if c=true then Q (.bl true) H1 else tb Z H1 Q)
def tOrV (ta tb:TE):TE:=fun Z H Q=>ta Z H fun x H1=>xu9 tb Z x H1 Q
inductive xsx (x:V) (H1:Hp) (Q:VK):Prop
 | mk (c) (e_:x=.bl c) (r_:Q (.bl (!c)) H1)
def xvu (ta:TE):TE:=fun Z H Q=>ta Z H fun x H1=>xsx x H1 Q
theorem xc4 {op}{t:TE} (h:PE X a t):PE X (.BoolOp op [a] pos) t:=fun pins s Z H Q I hw=>BoolOp_one (h pins s Z H Q I hw)
theorem xcr (ha:PE X a ta) (hb:PE X (.BoolOp .And (b::rest) pos) tb):PE X (.BoolOp .And (a::b::rest) pos) (xvw ta tb):=by
 intro pins s Z H Q I h;refine BoolOp_and (thn (ha pins s Z H _ I h) fun v s1 ⟨x,H1,I1,r1,q1⟩=>?_);obtain⟨c,rfl,q1⟩:=q1;cases r1;refine J9 ?_;cases c with
 | true=>exact hb pins s1 Z H1 Q I1 q1
 | false=>exact⟨.bl false,H1,I1,rfl,q1⟩
theorem xrh (ha:PE X a ta) (hb:PE X (.BoolOp .Or (b::rest) pos) tb):PE X (.BoolOp .Or (a::b::rest) pos) (tOrV ta tb):=by
 intro pins s Z H Q I h;refine BoolOp_or (thn (ha pins s Z H _ I h) fun v s1 ⟨x,H1,I1,r1,q1⟩=>?_);obtain⟨c,rfl,q1⟩:=q1;cases r1;refine J9 ?_;cases c with
 | false=>exact hb pins s1 Z H1 Q I1 q1
 | true=>exact⟨.bl true,H1,I1,rfl,q1⟩
theorem xtu (ha:PE X a ta):PE X (.UnaryOp .Not a pos) (xvu ta):=by
 intro pins s Z H Q I h;refine UnaryOp_ (thn (ha pins s Z H _ I h) fun v s1 ⟨x,H1,I1,r1,q1⟩=>?_);obtain⟨c,rfl,q1⟩:=q1;cases r1;exact not_of (J9 ⟨.bl (!c),H1,I1,rfl,q1⟩)
def tIf (t:TT) (ta tb:TE):TE:=fun Z H Q=>t Z H fun c H1=>if c=true then ta Z H1 Q else tb Z H1 Q
theorem xde {c:Expr} (hc:PT X c tA) (ha:PE X a ta) (hb:PE X b tb):PE X (.IfExp c a b pos) (tIf tA ta tb):=by
 intro pins s Z H Q I h;refine wpAny_IfExp (thn (hc pins s Z H _ I h) fun d s1 ⟨H1,I1,q1⟩=>?_);cases d with
 | true=>exact ha pins s1 Z H1 Q I1 q1
 | false=>exact hb pins s1 Z H1 Q I1 q1
end
def SqL (K:Zd) (H:Hp) (a:Addr) (xs:List V):Prop :=
 Rd H a (.lst xs) \/
  ∃(o:Obj) (its:Array Value) (n:Nat),K.lookup a=some o/\o.cls=.type "list"/\o.dict=none/\o.data=.seq its n/\its.size<=sizeLine/\Vals xs its.toList
def SqT (K:Zd) (H:Hp) (a:Addr) (xs:List V):Prop :=
 Rd H a (.tup xs) \/
  ∃(o:Obj) (its:Array Value) (n:Nat),K.lookup a=some o/\o.cls=.type "tuple"/\o.data=.seq its n/\its.size<=sizeLine/\Vals xs its.toList
def absV:Value->Option V
 | .none=>some .non
 | .bool b=>some (.bl b)
 | .int i _=>some (.int i)
 | .str x _=>some (.str x)
 | .bytes b _=>some (.byt b)
 | .float b _=>some (.flt b)
 | .ref a=>some (.ref a)
 | .type n=>some (.ty n)
 | _=>none
theorem RelV.abs {x:V}{u:Value} (r:RelV x u):absV u=some x:=by
 cases x with
 | non=>cases r; rfl
 | bl _=>cases r; rfl
 | int _=>obtain⟨t,rfl⟩:=r; rfl
 | str _=>obtain⟨t,rfl⟩:=r; rfl
 | byt _=>obtain⟨t,rfl⟩:=r; rfl
 | flt _=>obtain⟨t,rfl⟩:=r; rfl
 | ref _=>cases r; rfl
 | ty _=>cases r; rfl
theorem RelV.inj {x y:V}{u:Value} (r:RelV x u) (q:RelV y u):x=y:=Jw.inj (r.abs.symm.trans q.abs)
theorem Vals.inj:∀{xs ys:List V}{us:List Value},Vals xs us->Vals ys us->xs=ys
 | _,_,_,.nil,.nil=>rfl
 | _,_,_,.cons r t,.cons r' t'=>by rw[r.inj r',Vals.inj t t']
section
variable {X:Cx}{pins:List (Addr × Obj)}{Z:St}{H:Hp}{s:Shared}{a:Addr}{xs ys:List V}
theorem SqL.of {K:Zd} (h:H a=some (.lst xs)):SqL K H a xs:=.inl (.inl h)
theorem SqT.of {K:Zd} (h:H a=some (.tup xs)):SqT K H a xs:=.inl (.inl h)
theorem Inv.list (I:Inv X pins Z H s) (h:SqL X.K H a xs):∃ its:List Value,Vals xs its/\PlainL s.heap a its.toArray/\xs.length<=sizeLine:=by
 rcases h with h|⟨o,its,n,hk,hc,hd,hs,hz,r⟩
 .obtain ⟨z,its,n,r,e⟩:=h.ok I.hok;exact⟨its,r,⟨_,n,e,rfl,rfl,rfl⟩,z⟩
 .refine ⟨its.toList,r,⟨o,n,I.kIn a o hk,hc,hd,by simpa using hs⟩,?_⟩;have e:=r.length;simp only[JC] at e;omega
theorem Inv.tuple (I:Inv X pins Z H s) (h:SqT X.K H a xs):∃ its:List Value,Vals xs its/\IsTup s.heap a its.toArray/\xs.length<=sizeLine:=by
 rcases h with h|⟨o,its,n,hk,hc,hs,hz,r⟩
 .obtain ⟨z,its,r,p⟩:=h.ok I.hok;exact⟨its,r,p,z⟩
 .refine ⟨its.toList,r,⟨o,I.kIn a o hk,hc,n,by simpa using hs⟩,?_⟩;have e:=r.length;simp only[JC] at e;omega
theorem Inv.list_inj (I:Inv X pins Z H s) (h:SqL X.K H a xs) (h':SqL X.K H a ys):xs=ys:=by
 obtain⟨its,r,⟨o,n,e,_,_,d⟩,_⟩:=I.list h;obtain⟨its',r',⟨o',n',e',_,_,d'⟩,_⟩:=I.list h';rw[e] at e'; cases e';rw[d] at d';injection d' with d1 _
 have:its=its':=by simpa using congrArg Array.toList d1
 subst this;exact r.inj r'
theorem Inv.tuple_inj (I:Inv X pins Z H s) (h:SqT X.K H a xs) (h':SqT X.K H a ys):xs=ys:=by
 obtain⟨its,r,⟨o,e,_,n,d⟩,_⟩:=I.tuple h;obtain⟨its',r',⟨o',e',_,n',d'⟩,_⟩:=I.tuple h';rw[e] at e'; cases e';rw[d] at d';injection d' with d1 _
 have:its=its':=by simpa using congrArg Array.toList d1
 subst this;exact r.inj r'
end
abbrev Cx.wish (X:Cx) (E:Value->Shared->Prop):Cx:={ X with xe:=E }
abbrev Cx.nox (X:Cx):Cx:=X.wish fun _ _=>False
theorem Cx.Ok.wish {X:Cx} (ok:X.Ok) (E:Value->Shared->Prop):(X.wish E).Ok :=
 ⟨ok.mod,ok.kind,ok.glob,ok.blt,ok.above,ok.inj,ok.has,ok.cab,ok.hd,ok.frames,ok.stk,ok.exf,ok.bs,ok.bsz,ok.noex,ok.exfs,ok.funs,ok.frf⟩
theorem Cx.Ok.unwish {X:Cx}{E:Value->Shared->Prop} (ok:(X.wish E).Ok):X.Ok :=
 ⟨ok.mod,ok.kind,ok.glob,ok.blt,ok.above,ok.inj,ok.has,ok.cab,ok.hd,ok.frames,ok.stk,ok.exf,ok.bs,ok.bsz,ok.noex,ok.exfs,ok.funs,ok.frf⟩
section
variable {X:Cx}{pins:List (Addr × Obj)}{Z:St}{H:Hp}{s:Shared}{E:Value->Shared->Prop}
theorem Inv.wish (I:Inv X pins Z H s) (E:Value->Shared->Prop):Inv (X.wish E) pins Z H s:=⟨I.ok.wish E,I.os,I.bare,I.base,I.loc,I.cell,I.free,I.freeC,I.pin,I.hok,I.len⟩
theorem Inv.unwish (I:Inv (X.wish E) pins Z H s):Inv X pins Z H s:=⟨I.ok.unwish,I.os,I.bare,I.base,I.loc,I.cell,I.free,I.freeC,I.pin,I.hok,I.len⟩
theorem SP.unwish {D:Ends}{f:Flow}{s':Shared} (h:SP (X.wish E) pins D f s'):SP X pins D f s':=by
 cases f with
 | next=>obtain⟨σ',H',I,q⟩:=h; exact⟨σ',H',I.unwish,q⟩
 | brk=>obtain⟨σ',H',I,q⟩:=h; exact⟨σ',H',I.unwish,q⟩
 | cont=>obtain⟨σ',H',I,q⟩:=h; exact⟨σ',H',I.unwish,q⟩
 | ret u=>obtain⟨v,σ',H',I,r,q⟩:=h; exact⟨v,σ',H',I.unwish,r,q⟩
theorem PSs.nox {st:List Stmt}{t:TS} (h:PSs X.nox st t):PSs X st t:=fun pins s Z H D I hw =>
 ZT (h pins s Z H D (I.wish _) hw) (fun _ _ q=>q.unwish) fun _ _ z=>J8 z
end
section
variable {X:Cx}{st:Stmt}{rest:List Stmt}{t u:TS}{e:Expr}{te:TE}{pos:Pos}
def xvn:TS:=fun D Z H=>D.nx Z H
def tSeq (t u:TS):TS:=fun D Z H=>t { D with nx:=u D } Z H
theorem x5:PSs X [] xvn:=fun _ _ Z H _ I h=>QJ ⟨Z,H,I,h⟩
theorem xj (h1:PS X st t) (h2:PSs X rest u):PSs X (st::rest) (tSeq t u):=by
 intro pins s Z H D I h;refine wpAny_execs_cons (thn (h1 pins s Z H { D with nx:=u D } I h) fun f s1 q=>?_);cases f with
 | next =>
  obtain⟨σ',H',I',q⟩:=q;exact h2 pins s1 σ' H' D I' q
 | ret v=>exact q
 | brk=>exact q
 | cont=>exact q
theorem xn (h1:PS X st t):PSs X [st] t:=by
 intro pins s Z H D I h;refine wpAny_execs_cons (thn (h1 pins s Z H D I h) fun f s1 q=>?_);cases f with
 | next=>exact QJ q
 | ret v=>exact q
 | brk=>exact q
 | cont=>exact q
theorem Inv.quiet {pins:List (Addr × Obj)}{Z:St}{H:Hp}{s:Shared} (I:Inv X pins Z H s):interactive X.env=false:=by simp[interactive,I.ok.kind]
def xwb (te:TE):TS:=fun D Z H=>te Z H fun _ H1=>D.nx Z H1
theorem xay (he:PE X e te) (hs:swapsWith e none pos.line X.env=pure false:=by rfl):PS X (.Expr e pos) (xwb te):=by
 intro pins s Z H D I h;exact wpAny_Expr_any (thn (he pins s Z H _ I h) fun v s1 ⟨x,H1,I1,r1,q1⟩=>⟨Z,H1,I1,q1⟩) I.quiet hs
def tRet (te:TE):TS:=fun D Z H=>te Z H D.rt
theorem x0 (he:PE X e te):PS X (.Return (some e) pos) (tRet te):=by
 intro pins s Z H D I h;exact wpAny_Return_some (thn (he pins s Z H _ I h) fun v s1 ⟨x,H1,I1,r1,q1⟩=>⟨x,Z,H1,I1,r1,q1⟩)
def tIfS (c:TT) (t u:TS):TS:=fun D Z H=>c Z H fun b H1=>if b=true then t D Z H1 else u D Z H1
theorem xag {c:Expr}{a b:List Stmt}{tc:TT} (hc:PT X c tc) (ha:PSs X a t) (hb:PSs X b u):PS X (.If c a b pos) (tIfS tc t u):=by
 intro pins s Z H D I h;refine wpAny_If (thn (hc pins s Z H _ I h) fun d s1 ⟨H1,I1,q1⟩=>?_);cases d with
 | true=>exact ha pins s1 Z H1 D I1 q1
 | false=>exact hb pins s1 Z H1 D I1 q1
def xuz:TS:=fun _ _ _=>False
theorem xa1:PS X st xuz:=fun _ _ _ _ _ _ h=>h.elim
end
abbrev TG:=V->St->Hp->(St->Hp->Prop)->Prop
abbrev TGs:=List V->St->Hp->(St->Hp->Prop)->Prop
def PG (X:Cx) (target:Expr) (t:TG):Prop :=
 ∀(pins:List (Addr × Obj)) (s:Shared) (Z:St) (H:Hp) (v:V) (u:Value) (Q:St->Hp->Prop),Inv X pins Z H s->RelV v u->t v Z H Q ->
  wpAny (model X.prog X.w) X.A (assign target X.env u) (fun _ s'=>∃ σ' H',Inv X pins σ' H' s'/\Q σ' H') X.xe s
def PGs (X:Cx) (ts:List Expr) (t:TGs):Prop :=
 ∀(pins:List (Addr × Obj)) (s:Shared) (Z:St) (H:Hp) (vs:List V) (us:List Value) (Q:St->Hp->Prop),Inv X pins Z H s->Vals vs us->t vs Z H Q ->
  wpAny (model X.prog X.w) X.A (assignInOrder ((assignEach ts X.env).map (·.2)) us) (fun _ s'=>∃ σ' H',Inv X pins σ' H' s'/\Q σ' H') X.xe s
abbrev TSet:=V->V->V->Hp->(Hp->Prop)->Prop
def PSet (X:Cx) (t:TSet):Prop :=
 ∀(pins:List (Addr × Obj)) (s:Shared) (Z:St) (H:Hp) (o i v:V) (ov iv u:Value) (Q:Hp->Prop),Inv X pins Z H s->RelV o ov->RelV i iv->RelV v u->t o i v H Q ->
  wpAny (model X.prog X.w) X.A (setItem ov iv u) (fun _ s'=>∃ H',Inv X pins Z H' s'/\Q H') X.xe s
section
variable {X:Cx}{pos:Pos}
def xem (i:Nat):TG:=fun v Z H Q=>Q (Z.set i (some v)) H
theorem xq {i:Nat}{x:Str} (hN:X.N.Nodup) (hi:X.N[i]?=some x) (hx:Loc X.env.scope x) (hf:X.fn x=true\/X.env.scope.names.lookup x=some .local:=by first|exact .inl rfl|exact .inr rfl|assumption):PG X (.Name x pos) (xem i):=by
 intro pins s Z H v u Q I r h;exact wpAny_assign_Name (xgy I hN hi hx r (fun s' I'=>⟨_,H,I',h⟩) hf)
def gNil:TGs:=fun vs Z H Q=>vs=[]/\Q Z H
inductive xni (t:TG) (u:TGs) (vs:List V) (Z:St) (H:Hp) (Q:St->Hp->Prop):Prop
 | mk (v r) (e_:vs=v::r) (r_:t v Z H fun σ' H'=>u r σ' H' Q)
theorem xad:PGs X [] gNil:=by
 intro pins s Z H vs us Q I r h;obtain⟨e,h⟩:=h;subst e;cases r;exact assignInOrder_nil ⟨Z,H,I,h⟩
theorem xr {e:Expr}{es:List Expr}{t:TG}{u:TGs} (h1:PG X e t) (h2:PGs X es u)
    (hs:(assignEach (e::es) X.env).map (·.2)=assign e X.env::(assignEach es X.env).map (·.2):=by rfl):PGs X (e::es) (xni t u):=by
  intro pins s Z H vs us Q I r h;obtain⟨v,vr,e1,h⟩:=h;subst e1;cases r with
  | cons r rr =>
    rw[hs];refine assignInOrder_cons (thn (h1 pins s Z H _ _ _ I r h) fun _ s1 ⟨σ1,H1,I1,q1⟩=>?_);exact h2 pins s1 σ1 H1 _ _ Q I1 rr q1
inductive gTup (K:Zd) (n:Nat) (t:TGs) (v:V) (Z:St) (H:Hp) (Q:St->Hp->Prop):Prop
 | mk (a xs) (e_:v=.ref a) (r_:SqT K H a xs/\xs.length=n/\t xs Z H Q)
theorem xan {es:List Expr}{k:Nat}{t:TGs}{n:Nat} (hc:X.calm=true) (h:PGs X es t)
    (hn:(assignEach es X.env).length=n:=by rfl) (hst:(assignEach es X.env).findIdx? (·.1)=none:=by rfl):PG X (.Tuple es k pos) (gTup X.K n t):=by
  intro pins s Z H v u Q I r hw;obtain⟨a,xs,e1,hq,hl,hw⟩:=hw;subst e1;cases r;obtain⟨its,rv,ht,hz⟩:=I.tuple hq;refine assign_Tuple_tuple (I.ok.hd hc) ht (by simp[hn,<- hl,rv.length]) hst fun h' hx=>?_;have I1:Inv X pins Z H { s with heap:=h' }:=I.kept (t':=s.toks) fun b o e=>hx b o (ZK (Zq e)) e;exact h pins _ Z H xs _ Q I1 (by simpa using rv) hw
def gSub (to ti:TE) (t:TSet):TG:=fun v Z H Q=>to Z H fun o H1=>ti Z H1 fun i H2=>t o i v H2 fun H3=>Q Z H3
theorem xpp {o i:Expr}{to ti:TE}{t:TSet} (ho:PE X o to) (hi:PE X i ti) (hs:PSet X t)
    (ha:∀ v,assign (.Subscript o i pos) X.env v=(do
      let ov <- holding [v] (eval o X.env)
      let iv <- holding [v,ov] (eval i X.env)
      standAt pos
      holding [v,ov,iv] (setItem ov iv v)
      release [v,ov,iv] []):=by intro _; rfl):PG X (.Subscript o i pos) (gSub to ti t):=by
  intro pins s Z H v u Q I r h;rw[ha];refine Zc (Jm (thn (ho pins s Z H _ I h) fun ov s1 ⟨x,H1,I1,r1,q1⟩=>?_));refine Zc (Jm (thn (hi pins s1 Z H1 _ I1 q1) fun iv s2 ⟨y,H2,I2,r2,q2⟩=>?_));refine Zc (Qv (Zc (Jm (thn (hs pins s2 Z H2 x y v ov iv u _ I2 r1 r2 r q2) fun _ s3 ⟨H3,I3,q3⟩=>?_))));exact wpAny_release ⟨Z,H3,I3,q3⟩
def tAsg (te:TE) (g:TG):TS:=fun D Z H=>te Z H fun x H1=>g x Z H1 D.nx
theorem xcx {tg e:Expr}{te:TE}{g:TG} (he:PE X e te) (hg:PG X tg g) (hs:swapsWithSole [tg] e pos.line X.env=pure false:=by rfl) (hw:swappedStores [tg] e X.env=pure none:=by rfl)
    (h1:(assignEach [tg] X.env).map (·.2)=[assign tg X.env]:=by rfl):PS X (.Assign [tg] e pos) (tAsg te g):=by
  intro pins s Z H D I h;refine wpAny_Assign_stores (thn (he pins s Z H _ I h) fun v s1 ⟨x,H1,I1,r1,q1⟩=>?_) hs hw;rw[h1];exact thn (hg pins s1 Z H1 x v _ I1 r1 q1) fun _ s2 q=>q
theorem xx {i:Nat}{x:Str}{e:Expr}{te:TE}{pos':Pos} (hN:X.N.Nodup) (hi:X.N[i]?=some x) (hx:Loc X.env.scope x) (he:PE X e te) (hs:swapsWith e (some (.Name x pos')) pos.line X.env=pure false:=by rfl) (hf:X.fn x=true\/X.env.scope.names.lookup x=some .local:=by first|exact .inl rfl|exact .inr rfl|assumption) :
    PS X (.Assign [.Name x pos'] e pos) (tAsg te (xem i)):=by
  intro pins s Z H D I h;refine wpAny_Assign_Name (thn (he pins s Z H _ I h) fun v s1 ⟨y,H1,I1,r1,q1⟩=>?_) hs;exact xgy I1 hN hi hx r1 (fun s2 I2=>⟨_,H1,I2,q1⟩) hf
end
structure It where
 go:Nat->Hp->Prop
 yld:Nat->Hp->V->Hp->Prop
 stop:Nat->Hp->Prop
def FpOk (X:Cx) (pins:List (Addr × Obj)) (H:Hp) (b:Addr):Prop :=
 H b=none/\b≠X.env.locals/\b∉X.fs/\(b∈X.ex\/X.s₀.heap.objs.size<=b)/\(∀ x c,X.env.cells.lookup x=some c->c≠b)/\∀ p∈X.pn++pins,p.1≠b
theorem Inv.fpOk {X:Cx}{pins:List (Addr × Obj)}{Z:St}{H H':Hp}{s:Shared}{b:Addr} (I:Inv X pins Z H s) (hb:s.heap.objs.size<=b) (hn:H' b=none):FpOk X pins H' b:=by
 refine⟨hn,Yj (ZJ I.lt hb),I.nofs hb,.inr (Zy I.sz hb),fun x c e z=>?_,fun p hp z=>?_⟩
 .obtain ⟨v,q⟩:=I.cell x c e;exact absurd (ZJ q.lt (by rw[z]; exact hb)) (JY _)
 .exact absurd (ZJ (Zq (I.pin p hp).1) (by rw[z]; exact hb)) (JY _)
structure Turn (P:Program) (w:World) (K:Zd) (tg:Expr) (J:It) (fp:List Addr) (it:Addr) (tn:Nat->Heap->Prop):Prop where
 mem:it∈fp
 obj:∀ i h,tn i h->∀ b∈fp,∃ o,h.get? b=some o/\∀ v,o.data≠.cell v
 keep:∀ i h h',tn i h->(∀ b∈fp,∀ o,h.get? b=some o->h'.get? b=some o)->tn i h'
 item:∀(X:Cx),X.prog=P->X.w=w->X.K=K->X.calm=true->∀(i:Nat) (pins:List (Addr × Obj)) (s:Shared) (Z:St) (H:Hp) (E:Value->Shared->Prop),Inv X pins Z H s->(∀ b∈fp,FpOk X pins H b)->tn i s.heap->J.go i H ->
  wpAny (model P w) X.A (pyNext (.ref it)) (fun r s1=>∃ u,r=some u /\
   wpAny (model P w) X.A (letOwnedTupleGo tg (.ref it) u) (fun _ s2=>∃ x H',Inv X pins Z H' s2/\RelV x u/\J.yld i H x H'/\tn (i+1) s2.heap/\∀ b∈fp,H' b=none) E s1) E s
 done:∀(X:Cx),X.prog=P->X.w=w->X.K=K->X.calm=true->∀(i:Nat) (pins:List (Addr × Obj)) (s:Shared) (Z:St) (H:Hp) (E:Value->Shared->Prop),Inv X pins Z H s->(∀ b∈fp,FpOk X pins H b)->tn i s.heap->J.stop i H ->
  wpAny (model P w) X.A (pyNext (.ref it)) (fun r s1=>r=none/\Inv X pins Z H s1) E s
 self:∀(A:Around) (i:Nat) (s:Shared) (Q:Value->Shared->Prop) (E:Value->Shared->Prop),tn i s.heap->Q (.ref it) s->wpAny (model P w) A (pyIter (.ref it)) Q E s
abbrev TI:=St->Hp->(It->Hp->Prop)->Prop
def PIE (X:Cx) (pins:List (Addr × Obj)) (Z:St) (tg:Expr) (R:It->Hp->Prop) (itv:Value) (s2:Shared):Prop :=
 ∃(it:Addr) (fp:List Addr) (tn:Nat->Heap->Prop) (J:It) (H':Hp),itv=.ref it/\Inv X pins Z H' s2/\Turn X.prog X.w X.K tg J fp it tn/\tn 0 s2.heap/\(∀ b∈fp,FpOk X pins H' b)/\R J H'
def PI (X:Cx) (tg iter:Expr) (wi:TI):Prop :=
 ∀(pins:List (Addr × Obj)) (s:Shared) (Z:St) (H:Hp) (R:It->Hp->Prop),Inv X pins Z H s->wi Z H R ->
  wpAny (model X.prog X.w) X.A (eval iter X.env) (fun v s1=>wpAny (model X.prog X.w) X.A (pyIter v) (PIE X pins Z tg R) X.xe s1) X.xe s
theorem xnf {M:Model}{A:Around}{E:Value->Shared->Prop}{s:Shared}{tg:Expr}{it:Addr}{u:Value}{o:Obj}{n:String}{vs:Array Value}{Q:Unit->Shared->Prop} (ho:s.heap.get? it=some o) (hc:o.cls=.type n) (hd:o.data=.fields vs)
    (hn:["enumerate", "zip", "dict_itemiterator", "dict_reverseitemiterator", "odict_iterator", "itertools.zip_longest", "itertools.pairwise"].contains n=false) (hQ:Q () s):wpAny M A (letOwnedTupleGo tg (.ref it) u) Q E s:=by
  unfold letOwnedTupleGo;cases tg<;>first
    | exact Zl hQ
    | (cases u<;>first
        | exact Zl hQ
        | (refine Zc (wpAny_load ho ?_)
           rw[hc,hd];show wpAny M A (if (["enumerate", "zip", "dict_itemiterator", "dict_reverseitemiterator", "odict_iterator", "itertools.zip_longest", "itertools.pairwise"].contains n&&vs[0]? == some (rawInt _))=true then _ else _) Q E s;rw[if_neg (by intro h; rw[hn,Yd] at h; cases h)];exact Zl hQ))
def Itl (K:Zd) (a:Addr):It :=
 ⟨fun i H=>∃ xs x,SqL K H a xs/\xs[i]?=some x,fun i H x H'=>H'=H/\∀ xs,SqL K H a xs->xs[i]?=some x,fun i H=>∃ xs,SqL K H a xs/\xs.length<=i⟩
def Itr (lo:Int) (n:Nat):It:=⟨fun i _=>i<n,fun i H x H'=>H'=H/\x=.int (lo+i),fun i _=>n<=i⟩
theorem xn6 {P:Program}{w:World}{K:Zd}{tg:Expr} (a it:Addr):Turn P w K tg (Itl K a) [it] it (fun i h=>h.IsListIter it a i) where
 mem:=by simp
 obj:=fun i h st b hb=>by
  have e:b=it:=by simpa using hb
  subst e;obtain⟨o,e,c,d⟩:=st;exact⟨o,e,fun v z=>by rw[d] at z; cases z⟩
 keep:=fun i h h' st k=>st.at fun o e=>k it (by simp) o e
 item:=by
  intro X hP hw hK hc i pins s Z H E I hf st hg;subst hP hw hK;obtain⟨xs,x,hq,hx⟩:=hg;obtain⟨its,rv,p,hz⟩:=I.list hq;obtain⟨u,hu,ru⟩:=rv.get hx;obtain⟨f0,f1,f2,f3,f4,f5⟩:=hf it (by simp);refine wpAny_pyNext_list_item st p.isList (x:=u) (by simpa using hu) fun h' st' sb=>?_;have I1:Inv X pins Z H { s with heap:=h' }:=I.turned (t':=s.toks) (fun b o hb e=>(sb.2 b hb).trans e) f0 f1 f3 f4 f5;obtain⟨o,e,c,d⟩:=id st';exact⟨u,rfl,xnf (s:={ s with heap:=h' }) e c d (by decide) ⟨x,H,I1,ru,⟨rfl,fun ys hy=>by rw[I.list_inj hy hq]; exact hx⟩,st',fun b hb=>(hf b hb).1⟩⟩
 done:=by
  intro X hP hw hK hc i pins s Z H E I hf st hg;subst hP hw hK;obtain⟨xs,hq,hx⟩:=hg;obtain⟨its,rv,p,hz⟩:=I.list hq;obtain⟨f0,f1,f2,f3,f4,f5⟩:=hf it (by simp);have hl:=rv.length;exact wpAny_pyNext_list_end (I.ok.hd hc) st p.isList (by simp; omega) fun h' eb=>⟨rfl,I.turned (t':=s.toks) (fun b o hb e=>eb b o hb e) f0 f1 f3 f4 f5⟩
 self:=fun _ _ _ _ _ st h=>wpAny_pyIter_listiter st h
theorem xnc {P:Program}{w:World}{K:Zd}{tg:Expr} (it:Addr) (lo:Int) (n:Nat):Turn P w K tg (Itr lo n) [it] it (fun i h=>IsRangeIter h it (lo+(i:Nat)*1) ((n:Int)-(i:Nat)) 1) where
 mem:=by simp
 obj:=fun i h st b hb=>by
  have e:b=it:=by simpa using hb
  subst e;exact⟨_,st,fun v z=>by
   have z':QX _=Data.cell v:=z;cases z'⟩
 keep:=fun i h h' st k=>k it (by simp) _ st
 item:=by
  intro X hP hw hK hc i pins s Z H E I hf st hg;subst hP hw hK;obtain⟨f0,f1,f2,f3,f4,f5⟩:=hf it (by simp);have W:=Walks.range (prog:=X.prog) (w:=X.w) (I.ok.hd hc) it lo 1 n;refine W.item i s _ _ hg st fun v h' tk hv st' kk=>?_;obtain⟨t,rfl⟩:=hv;have I1:Inv X pins Z H { s with heap:=h',toks:=tk }:=I.turned (fun b o hb e=>kk b o (by simpa using hb) e) f0 f1 f3 f4 f5;refine⟨_,rfl,xnf (s:={ s with heap:=h',toks:=tk }) (n:="range_iterator") st' rfl rfl (by decide) ⟨.int (lo+i),H,I1,⟨t,?_⟩,⟨rfl,rfl⟩,st',fun b hb=>(hf b hb).1⟩⟩;rw[Int.mul_one]
 done:=by
  intro X hP hw hK hc i pins s Z H E I hf st hg;subst hP hw hK;obtain⟨f0,f1,f2,f3,f4,f5⟩:=hf it (by simp);exact wpAny_pyNext_range_end (I.ok.hd hc) st (by have:n<=i:=hg; omega) fun h' eb=>⟨rfl,I.turned (t':=s.toks) (fun b o hb e=>eb b o hb e) f0 f1 f3 f4 f5⟩
 self:=fun _ _ _ _ _ st h=>wpAny_pyIter_rangeiter st h
section
variable {X:Cx}{tg:Expr}
def xvs (K:Zd) (tl:TE):TI:=fun Z H R=>tl Z H fun x H1=>∃ a,x=.ref a/\(∃ xs,SqL K H1 a xs)/\R (Itl K a) H1
theorem xat {l:Expr}{tl:TE} (hl:PE X l tl):PI X tg l (xvs X.K tl):=by
 intro pins s Z H R I h;refine thn (hl pins s Z H _ I h) fun v s1 ⟨x,H1,I1,r1,q1⟩=>?_;obtain⟨a,e,⟨xs,hq⟩,q⟩:=q1;subst e;cases r1;obtain⟨its,rv,p,hz⟩:=I1.list hq;refine wpAny_pyIter_list p.isList ?_;refine⟨s1.heap.objs.size,[s1.heap.objs.size],_,_,H1,rfl,I1.kept (t':=s1.toks) fun b o e=>Zh _ e,xn6 a _,⟨_,Z5 _ rfl,rfl,rfl⟩,fun b hb=>?_,q⟩;have e:b=s1.heap.objs.size:=by simpa using hb
 subst e;exact I1.fpOk (Zj _) (I1.hok.fresh (Zj _))
theorem xj8 {pins:List (Addr × Obj)}{Z:St}{H:Hp}{s:Shared}{R:It->Hp->Prop}{E:Value->Shared->Prop}{lo hi:Int}{t u v:Tok}{tk:Nat} (I:Inv X pins Z H s) (h1:-(2 ^ 62)<=lo) (h2:lo<2 ^ 62) (h3:-(2 ^ 62)<=hi) (h4:hi<2 ^ 62)
    (q:R (Itr lo (hi-lo).toNat) H):wpAny (model X.prog X.w) X.A (pyIter (.ref s.heap.objs.size)) (PIE X pins Z tg R) E { s with heap:=s.heap.push { cls:=.type "range",data:=.fields #[.int lo t,.int hi u,.int 1 v] },toks:=tk }:=by
  refine wpAny_pyIter_range (IsRange.new ..) (small_one h1 h2 h3 h4) ?_;have I1:Inv X pins Z H { s with heap:=s.heap.push { cls:=.type "range",data:=.fields #[.int lo t,.int hi u,.int 1 v] },toks:=tk }:=I.kept fun b o e=>Zh _ e;refine⟨(s.heap.push { cls:=.type "range",data:=.fields #[.int lo t,.int hi u,.int 1 v] }).objs.size,[(s.heap.push { cls:=.type "range",data:=.fields #[.int lo t,.int hi u,.int 1 v] }).objs.size],_,_,H,rfl,
    I1.kept (t':=tk) fun b o e=>Zh _ e,xnc _ lo (hi-lo).toNat,?_,fun b hb=>?_,q⟩
  . have e1:lo+((0:Nat):Int)*1=lo:=by simp
    have e2:(((hi-lo).toNat:Nat):Int)-((0:Nat):Int)=Builtin.Range.rangeSize lo hi 1:=by rw[rangeSize_one]; split<;>omega
    show IsRangeIter _ _ (lo+((0:Nat):Int)*1) ((((hi-lo).toNat:Nat):Int)-((0:Nat):Int)) 1;rw[e1,e2];exact Z5 _ rfl
  . have e:b=(s.heap.push { cls:=.type "range",data:=.fields #[.int lo t,.int hi u,.int 1 v] }).objs.size:=by simpa using hb
    subst e;exact I1.fpOk (Zj _) (I1.hok.fresh (Zj _))
def xwo (ta:TA):TI:=fun Z H R=>ta Z H fun vs H1=>∃ j:Int,vs=[.int j]/\-(2 ^ 62)<=j/\j<2 ^ 62/\R (Itr 0 j.toNat) H1
def xwk (ta:TA):TI:=fun Z H R=>ta Z H fun vs H1=>∃ i j:Int,vs=[.int i,.int j]/\(-(2 ^ 62)<=i/\i<2 ^ 62/\-(2 ^ 62)<=j/\j<2 ^ 62)/\R (Itr i (j-i).toNat) H1
theorem xjg {a:Expr}{ta:TA}{p pos:Pos} (hg:Gl X "range") (hm:X.mg "range"=none) (ha:PA X [a] ta) (hs:starEach [a] X.env=[(false,eval a X.env)]:=by rfl):PI X tg (.Call (.Name "range" p) [a] [] pos) (xwo ta):=by
 intro pins s Z H R I h;refine Call_ (xcw I hg hm boot_range (Jb (thn (ha pos pins s Z H _ I h) fun us s1 ⟨vs,H1,I1,r1,q1⟩=>?_) hs rfl));obtain⟨j,e,q1,q2,q⟩:=q1;subst e;cases r1 with
 | cons r rr =>
  cases rr;obtain⟨t,rfl⟩:=r;exact call_range_1 (xj8 I1 (by omega) (by omega) q1 q2 (by simpa using q))
theorem xcm {a b:Expr}{ta:TA}{p pos:Pos} (hg:Gl X "range") (hm:X.mg "range"=none) (ha:PA X [a,b] ta) (hs:starEach [a,b] X.env=[(false,eval a X.env),(false,eval b X.env)]:=by rfl) (hs2:starEach [b] X.env=[(false,eval b X.env)]:=by rfl) :
    PI X tg (.Call (.Name "range" p) [a,b] [] pos) (xwk ta):=by
  intro pins s Z H R I h;refine Call_ (xcw I hg hm boot_range (Jb (thn (ha pos pins s Z H _ I h) fun us s1 ⟨vs,H1,I1,r1,q1⟩=>?_) (by rw[hs,hs2]) (by rw[hs2]; rfl)));obtain⟨i,j,e,⟨q1,q2,q3,q4⟩,q⟩:=q1;subst e;cases r1 with
  | cons r rr =>
    cases rr with
    | cons r' rr =>
      cases rr;obtain⟨t,rfl⟩:=r;obtain⟨t',rfl⟩:=r';exact call_range_2 (xj8 I1 q1 q2 q3 q4 q)
def tFor (wi:TI) (g:TG) (tb:TS):TS:=fun D Z H=>wi Z H fun J H1=>∃ W:Nat->Nat->St->Hp->Prop,(∃ m,W 0 m Z H1)/\∀ i m Z H,W i m Z H ->
 (J.stop i H/\D.nx Z H)\/(J.go i H/\∃ N:St->Hp->Prop,(∀ σ' H',N σ' H'->∃ m',m'<m/\W (i+1) m' σ' H')/\∀ x H',J.yld i H x H'->g x Z H' fun σ2 H2=>tb { D with nx:=N,ct:=N,bk:=D.nx } σ2 H2)
def xfp (fp:List Addr) (h:Heap):List (Addr × Obj):=fp.filterMap fun b=>(h.get? b).map fun o=>(b,o)
theorem xc6 {fp:List Addr}{h:Heap}{b:Addr}{o:Obj} (hb:b∈fp) (e:h.get? b=some o):(b,o)∈xfp fp h:=List.mem_filterMap.mpr ⟨b,hb,by rw[e]; rfl⟩
theorem xo7 {fp:List Addr}{h:Heap}{p:Addr × Obj} (hp:p∈xfp fp h):p.1∈fp/\h.get? p.1=some p.2:=by
 obtain⟨b,hb,e⟩:=List.mem_filterMap.mp hp;cases q:h.get? b with
 | none=>rw[q] at e; cases e
 | some o =>
  rw[q] at e;have e':(b,o)=p:=Jw.inj e;subst e';exact⟨hb,q⟩
theorem Inv.pinned {pins:List (Addr × Obj)}{Z:St}{H:Hp}{s:Shared}{fp:List Addr} (I:Inv X pins Z H s) (hf:∀ b∈fp,FpOk X pins H b) (ho:∀ b∈fp,∃ o,s.heap.get? b=some o/\∀ v,o.data≠.cell v):Inv X (pins++xfp fp s.heap) Z H s :=
 I.pins_of fun p hp=>(Z9.mp hp).elim (fun z=>I.pin p (ZS _ z)) fun z=>by
  obtain⟨hb,e⟩:=xo7 z;obtain⟨f0,f1,f2,_⟩:=hf p.1 hb;obtain⟨o,e',d⟩:=ho p.1 hb;rw[e] at e'; cases e';exact⟨e,f0,f1,f2,d⟩
theorem Inv.unpinned {pins pl:List (Addr × Obj)}{Z:St}{H:Hp}{s:Shared} (I:Inv X (pins++pl) Z H s):Inv X pins Z H s:=I.pins_of fun p hp=>I.pin p (ZS _ (Yy _ hp))
theorem xa0 {iter:Expr}{body:List Stmt}{wi:TI}{g:TG}{tb:TS}{pos:Pos} (hp:PassesOwn (model X.prog X.w) X.A X.env X.xe) (hc:X.calm=true) (hi:PI X tg iter wi) (hg:PG X tg g) (hb:PSs X body tb)
    (hs:∀ x,foldedSetIterable iter X.env x=pure x:=by intro _; rfl):PS X (.For tg iter body [] pos) (tFor wi g tb):=by
  intro pins s Z H D I h;refine wpAny_For (thn (hi pins s Z H _ I h) fun v s1 h1=>thn h1 fun itv s2 h2=>?_) hs;obtain⟨it,fp,tn,J,H2,e,I2,T,st2,f2,W,⟨m0,w0⟩,turn⟩:=h2;subst e
  -- what stays true of the iterator's objects through the loop
  have stat:∀{H':Hp},(∀ b∈fp,H' b=none)->∀ b∈fp,FpOk X pins H' b:=fun hn b hb=>⟨hn b hb,(f2 b hb).2⟩
  refine codeAny_forLoop_any (fun n s'=>∃ i σ' H',Inv X pins σ' H' s'/\tn i s'.heap/\(∀ b∈fp,H' b=none)/\W i n σ' H') ?_ m0 ⟨0,Z,H2,I2,st2,fun b hb=>(f2 b hb).1,w0⟩;rintro n s3 ⟨i,σ3,H3,I3,st3,fr3,w3⟩;rcases turn i n σ3 H3 w3 with⟨stop,qn⟩|⟨go,N,hN,step⟩
  . refine YY hp (thn (T.done X rfl rfl rfl hc i pins s3 σ3 H3 X.xe I3 (stat fr3) st3 stop) fun r s4 ⟨hr,I4⟩=>?_)
    subst hr;exact QJ ⟨σ3,H3,I4,qn⟩
  . refine YY hp (thn (T.item X rfl rfl rfl hc i pins s3 σ3 H3 X.xe I3 (stat fr3) st3 go) fun r s4 ⟨u,hr,h4⟩=>?_)
    subst hr;refine YY hp (thn h4 fun _ s5 ⟨x,H5,I5,r5,y5,st5,fr5⟩=>?_);have I5':=I5.pinned (stat fr5) (T.obj _ _ st5);refine YY hp (thn (hg _ s5 σ3 H5 x u _ I5' r5 (step x H5 y5)) fun _ s6 ⟨σ6,H6,I6,q6⟩=>?_);refine YY hp (thn (hb _ s6 σ6 H6 _ I6 q6) fun f s7 q7=>?_);have again:∀{σ7:St}{H7:Hp},Inv X (pins++xfp fp s5.heap) σ7 H7 s7->N σ7 H7->∃ m,m<n/\∃ i σ' H',Inv X pins σ' H' s7/\tn i s7.heap/\(∀ b∈fp,H' b=none)/\W i m σ' H':=fun {σ7 H7} I7 n7=>by
      obtain⟨m',hm,w7⟩:=hN σ7 H7 n7;refine⟨m',hm,i+1,σ7,H7,I7.unpinned,T.keep _ _ _ st5 fun b hb o e=>(I7.pin (b,o) (ZS _ (ZS _ (xc6 hb e)))).1,fun b hb=>?_,w7⟩;obtain⟨o,e,d⟩:=T.obj _ _ st5 b hb;exact (I7.pin (b,o) (ZS _ (ZS _ (xc6 hb e)))).2.1
    cases f with
    | next=>obtain⟨σ7,H7,I7,n7⟩:=q7; exact again I7 n7
    | cont=>obtain⟨σ7,H7,I7,n7⟩:=q7; exact again I7 n7
    | brk=>obtain⟨σ7,H7,I7,q7⟩:=q7; exact⟨σ7,H7,I7.unpinned,q7⟩
    | ret v=>obtain⟨x7,σ7,H7,I7,r7,q7⟩:=q7; exact⟨x7,σ7,H7,I7.unpinned,r7,q7⟩
end
theorem xa6 {K:Zd}{a:Addr}{xs:List V}{g:TG}{tb:TS}{D:Ends}{Z:St}{H:Hp} (Pv:Nat->St->Hp->Prop) (h0:Pv 0 Z H) (hl:∀ i Z H,i<=xs.length->Pv i Z H->SqL K H a xs)
    (hs:∀ i x Z H,xs[i]?=some x->Pv i Z H->g x Z H fun σ2 H2=>tb { D with nx:=Pv (i+1),ct:=Pv (i+1),bk:=D.nx } σ2 H2) (hd:∀ Z H,Pv xs.length Z H->D.nx Z H) :
    ∃ W:Nat->Nat->St->Hp->Prop,(∃ m,W 0 m Z H)/\∀ i m Z H,W i m Z H ->
      ((Itl K a).stop i H/\D.nx Z H)\/((Itl K a).go i H/\∃ N:St->Hp->Prop,(∀ σ' H',N σ' H'->∃ m',m'<m/\W (i+1) m' σ' H')/\∀ x H',(Itl K a).yld i H x H'->g x Z H' fun σ2 H2=>tb { D with nx:=N,ct:=N,bk:=D.nx } σ2 H2):=by
  refine⟨fun i m Z H=>m=xs.length-i/\i<=xs.length/\Pv i Z H,⟨xs.length,by simp,ZW _,h0⟩,?_⟩;rintro i m Z H ⟨rfl,hi,p⟩;have q:=hl i Z H hi p;by_cases hlt:i<xs.length
  . refine .inr ⟨⟨xs,xs[i],q,by simp[hlt]⟩,Pv (i+1),fun σ' H' p'=>⟨xs.length-(i+1),by omega,rfl,hlt,p'⟩,fun x H' y=>?_⟩
    obtain⟨e,y⟩:=y;subst e;exact hs i x Z _ (y xs q) p
  . have e:i=xs.length:=by omega
    subst e;exact .inl ⟨⟨xs,q,Zj _⟩,hd Z H p⟩
theorem xjm {lo:Int}{n:Nat}{g:TG}{tb:TS}{D:Ends}{Z:St}{H:Hp} (Pv:Nat->St->Hp->Prop) (h0:Pv 0 Z H)
    (hs:∀ i Z H,i<n->Pv i Z H->g (.int (lo+i)) Z H fun σ2 H2=>tb { D with nx:=Pv (i+1),ct:=Pv (i+1),bk:=D.nx } σ2 H2) (hd:∀ Z H,Pv n Z H->D.nx Z H) :
    ∃ W:Nat->Nat->St->Hp->Prop,(∃ m,W 0 m Z H)/\∀ i m Z H,W i m Z H ->
      ((Itr lo n).stop i H/\D.nx Z H)\/((Itr lo n).go i H/\∃ N:St->Hp->Prop,(∀ σ' H',N σ' H'->∃ m',m'<m/\W (i+1) m' σ' H')/\∀ x H',(Itr lo n).yld i H x H'->g x Z H' fun σ2 H2=>tb { D with nx:=N,ct:=N,bk:=D.nx } σ2 H2):=by
  refine⟨fun i m Z H=>m=n-i/\i<=n/\Pv i Z H,⟨n,by simp,ZW _,h0⟩,?_⟩;rintro i m Z H ⟨rfl,hi,p⟩;by_cases hlt:i<n
  . refine .inr ⟨hlt,Pv (i+1),fun σ' H' p'=>⟨n-(i+1),by omega,rfl,hlt,p'⟩,fun x H' y=>?_⟩
    obtain⟨e,y⟩:=y;subst e y;exact hs i Z _ hlt p
  . have e:i=n:=by omega
    subst e;exact .inl ⟨Zj _,hd Z H p⟩
abbrev R2:=V->V->Hp->VK->Prop
def OpR (X:Cx) (f:Value->Value->Sem Value) (r:R2):Prop :=
 ∀(pins:List (Addr × Obj)) (s:Shared) (Z:St) (H:Hp) (x y:V) (v u:Value) (Q:VK),Inv X pins Z H s->RelV x v->RelV y u->r x y H Q ->
  wpAny (model X.prog X.w) X.A (f v u) (EP X pins Z Q) X.xe s
def UnR (X:Cx) (f:Value->Sem Value) (r:V->Hp->VK->Prop):Prop :=
 ∀(pins:List (Addr × Obj)) (s:Shared) (Z:St) (H:Hp) (x:V) (v:Value) (Q:VK),Inv X pins Z H s->RelV x v->r x H Q ->
  wpAny (model X.prog X.w) X.A (f v) (EP X pins Z Q) X.xe s
def xby (X:Cx) (f:Value) (r:List V->Hp->VK->Prop):Prop :=
 ∀(pins:List (Addr × Obj)) (s:Shared) (Z:St) (H:Hp) (xs:List V) (us:List Value) (Q:VK),Inv X pins Z H s->Vals xs us->r xs H Q ->
  wpAny (model X.prog X.w) X.A (call f us) (EP X pins Z Q) X.xe s
def tOp (r:R2) (ta tb:TE):TE:=fun Z H Q=>ta Z H fun x H1=>tb Z H1 fun y H2=>r x y H2 Q
def tUn (r:V->Hp->VK->Prop) (ta:TE):TE:=fun Z H Q=>ta Z H fun x H1=>r x H1 Q
inductive rI (C:Int->Int->Prop) (g:Int->Int->V) (x:V) (y:V) (H:Hp) (Q:VK):Prop
 | mk (i j) (e_:x=.int i) (r_:y=.int j/\C i j/\Q (g i j) H)
inductive rI0 (g:Int->Int->V) (x:V) (y:V) (H:Hp) (Q:VK):Prop
 | mk (i j) (e_:x=.int i) (r_:y=.int j/\Q (g i j) H)
def rU (g:Int->V):V->Hp->VK->Prop:=fun x H Q=>∃ i,x=.int i/\Q (g i) H
section
variable {X:Cx}{a b c:Expr}{ta tb tc:TE}{pos:Pos}
theorem binT (ha:PE X a ta) (hb:PE X b tb) {pins:List (Addr × Obj)}{s:Shared}{Z:St}{H:Hp}{R:V->V->Hp->Prop} (I:Inv X pins Z H s)
    (h:ta Z H fun x H1=>tb Z H1 fun y H2=>R x y H2) {Q:Value->Shared->Prop}{f:Value->Value->Sem Value}
    (hf:∀ v u s2 x y H2,Inv X pins Z H2 s2->RelV x v->RelV y u->R x y H2->wpAny (model X.prog X.w) X.A (f v u) Q X.xe s2) :
    wpAny (model X.prog X.w) X.A (eval a X.env) (fun v s₁=>wpAny (model X.prog X.w) X.A (eval b X.env) (fun u s₂=>wpAny (model X.prog X.w) X.A (f v u) Q X.xe s₂) X.xe s₁) X.xe s:=by
  refine thn (ha pins s Z H _ I h) fun v s1 ⟨x,H1,I1,r1,q1⟩=>?_;refine thn (hb pins s1 Z H1 _ I1 q1) fun u s2 ⟨y,H2,I2,r2,q2⟩=>?_;exact hf v u s2 x y H2 I2 r1 r2 q2
theorem xu {op:Operator}{r:R2} (ho:OpR X (binaryOp op) r) (ha:PE X a ta) (hb:PE X b tb):PE X (.BinOp a op b pos) (tOp r ta tb):=by
 intro pins s Z H Q I h;exact wpAny_BinOp (binT ha hb I h fun v u s2 x y H2 I2 rx ry q=>ho pins s2 Z H2 x y v u Q I2 rx ry q)
theorem xrb {op:UnaryOp}{r:V->Hp->VK->Prop} (ho:UnR X (unaryOp op) r) (ha:PE X a ta):PE X (.UnaryOp op a pos) (tUn r ta):=by
 intro pins s Z H Q I h;exact UnaryOp_ (thn (ha pins s Z H _ I h) fun v s1 ⟨x,H1,I1,r1,q1⟩=>ho pins s1 Z H1 x v Q I1 r1 q1)
theorem opI {f:Value->Value->Sem Value}{C:Int->Int->Prop}{g:Int->Int->Int}
    (rule:∀(i j:Int) (t u:Tok) (s:Shared) (Q:Value->Shared->Prop) (E:Value->Shared->Prop),C i j->Q (.int (g i j) s.toks) { s with toks:=s.toks+1 }->wpAny (model X.prog X.w) X.A (f (.int i t) (.int j u)) Q E s) :
    OpR X f (rI C fun i j=>.int (g i j)):=by
  intro pins s Z H x y v u Q I rx ry h;obtain⟨i,j,rfl,rfl,hc,q⟩:=h;obtain⟨t,rfl⟩:=rx;obtain⟨t',rfl⟩:=ry;exact rule i j t t' s _ _ hc ⟨.int (g i j),H,I.tok _,⟨_,rfl⟩,q⟩
theorem opI0 {f:Value->Value->Sem Value}{g:Int->Int->Int}
    (rule:∀(i j:Int) (t u:Tok) (s:Shared) (Q:Value->Shared->Prop) (E:Value->Shared->Prop),Q (.int (g i j) s.toks) { s with toks:=s.toks+1 }->wpAny (model X.prog X.w) X.A (f (.int i t) (.int j u)) Q E s) :
    OpR X f (rI0 fun i j=>.int (g i j)):=by
  intro pins s Z H x y v u Q I rx ry h;obtain⟨i,j,rfl,rfl,q⟩:=h;obtain⟨t,rfl⟩:=rx;obtain⟨t',rfl⟩:=ry;exact rule i j t t' s _ _ ⟨.int (g i j),H,I.tok _,⟨_,rfl⟩,q⟩
theorem opB0 {f:Value->Value->Sem Value}{g:Int->Int->Bool}
    (rule:∀(i j:Int) (t u:Tok) (s:Shared) (Q:Value->Shared->Prop) (E:Value->Shared->Prop),Q (.bool (g i j)) s->wpAny (model X.prog X.w) X.A (f (.int i t) (.int j u)) Q E s) :
    OpR X f (rI0 fun i j=>.bl (g i j)):=by
  intro pins s Z H x y v u Q I rx ry h;obtain⟨i,j,rfl,rfl,q⟩:=h;obtain⟨t,rfl⟩:=rx;obtain⟨t',rfl⟩:=ry;exact rule i j t t' s _ _ ⟨.bl (g i j),H,I,rfl,q⟩
def CDiv (i j:Int):Prop:=0<j/\j<1073741824
def CMul (i j:Int):Prop:=(-(2 ^ 64)<i/\i<2 ^ 64)\/(-(2 ^ 64)<j/\j<2 ^ 64)
theorem CMul.ok {i j:Int} (h:CMul i j):IntMulOk i j:=by
 rcases h with⟨h1,h2⟩|⟨h1,h2⟩
 .exact .of_left (intBits_le_64 h1 h2)
 .exact .of_right (intBits_le_64 h1 h2)
theorem xai:OpR X (binaryOp .Add) (rI0 fun i j=>.int (i+j)):=opI0 fun _ _ _ _ _ _ _ q=>add_int q
theorem xe0:OpR X (binaryOp .Sub) (rI0 fun i j=>.int (i-j)):=opI0 fun _ _ _ _ _ _ _ q=>sub_int q
theorem xf0:OpR X (binaryOp .Mult) (rI CMul fun i j=>.int (i*j)):=opI fun _ _ _ _ _ _ _ hc q=>mul_int q hc.ok
theorem xgd:OpR X (binaryOp .FloorDiv) (rI CDiv fun i j=>.int (i / j)):=opI fun i j _ _ _ _ _ hc q=>by
 have h1:(0:Int)<j:=hc.1;have h2:j<1073741824:=hc.2;exact floordiv_int (by omega) (by rw[Int.fdiv_eq_ediv_of_nonneg i (by omega)]; exact q) (.inl (QD (by omega)))
theorem xar:OpR X (binaryOp .Mod) (rI (fun _ j=>0<j) fun i j=>.int (i % j)):=opI fun i j _ _ _ _ _ hc q=>by
 have h1:(0:Int)<j:=hc;exact mod_int' (by omega) (by rw[Int.fmod_eq_emod_of_nonneg i (by omega)]; exact q)
theorem unI {f:Value->Sem Value}{g:Int->Int}
    (rule:∀(i:Int) (t:Tok) (s:Shared) (Q:Value->Shared->Prop) (E:Value->Shared->Prop),Q (.int (g i) s.toks) { s with toks:=s.toks+1 }->wpAny (model X.prog X.w) X.A (f (.int i t)) Q E s) :
    UnR X f (rU fun i=>.int (g i)):=by
  intro pins s Z H x v Q I rx h;obtain⟨i,rfl,q⟩:=h;obtain⟨t,rfl⟩:=rx;exact rule i t s _ _ ⟨.int (g i),H,I.tok _,⟨_,rfl⟩,q⟩
theorem xoj:UnR X (unaryOp .USub) (rU fun i=>.int (-i)):=unI fun _ _ _ _ _ q=>neg_int q
end
def scal:V->V->Bool
 | .non,.non=>true|.non,.int _=>true|.int _,.non=>true|.non,.bl _=>true|.bl _,.non=>true|.non,.str _=>true|.str _,.non=>true
 | .int _,.int _=>true|.bl _,.bl _=>true|.str _,.str _=>true|.byt _,.byt _=>true
 | .int _,.str _=>true|.str _,.int _=>true|.bl _,.str _=>true|.str _,.bl _=>true
 | _,_=>false
def rEq:R2:=fun x y H Q=>scal x y=true/\Q (.bl (decide (x=y))) H
def rNe:R2:=fun x y H Q=>scal x y=true/\Q (.bl (!decide (x=y))) H
theorem xmm {i j:Int}:decide (V.int i=V.int j)=(i == j):=by
 rw[Je];simp
theorem xn4 {i j:Bool}:decide (V.bl i=V.bl j)=(i == j):=by
 rw[Je];simp
theorem xlx {i j:Str}:decide (V.str i=V.str j)=(i == j):=by
 rw[Je];simp
theorem xmf {i j:Array UInt8}:decide (V.byt i=V.byt j)=(i.toList == j.toList):=by
 rw[Je];cases i;cases j;simp
section
variable {X:Cx}{a b c:Expr}{ta tb tc:TE}{pos:Pos}
theorem xao {pins:List (Addr × Obj)}{Z:St}{H:Hp}{s:Shared}{Q:VK}{k k':Bool} (I:Inv X pins Z H s) (q:Q (.bl k) H) (e:k=k'):EP X pins Z Q (.bool k') s:=by
 subst e;exact⟨.bl k,H,I,rfl,q⟩
theorem xbr:OpR X (compareOp .Eq) rEq:=by
 intro pins s Z H x y v u Q I rx ry h;obtain⟨hs,q⟩:=h;cases x with
 | non =>
  cases rx;cases y with
  | non=>cases ry; exact PySem.EqNone.eq_none_none (xao I q (by simp))
  | bl j=>cases ry; exact PySem.EqNone.eq_none_bool (xao I q (by simp))
  | int j=>obtain⟨t',rfl⟩:=ry; exact PySem.EqNone.eq_none_int (xao I q (by simp))
  | str j=>obtain⟨t',rfl⟩:=ry; exact PySem.EqNone.eq_none_str (xao I q (by simp))
  | _=>exact absurd (show false=true from hs) Z7
 | bl i =>
  cases rx;cases y with
  | non=>cases ry; exact PySem.EqNone.eq_bool_none (xao I q (by simp))
  | bl j=>cases ry; exact eq_bool (xao I q xn4)
  | str j=>obtain⟨t',rfl⟩:=ry; exact PySem.EqMixed.eq_bool_str (xao I q (by simp))
  | _=>exact absurd (show false=true from hs) Z7
 | int i =>
  obtain⟨t,rfl⟩:=rx;cases y with
  | non=>cases ry; exact PySem.EqNone.eq_int_none (xao I q (by simp))
  | int j=>obtain⟨t',rfl⟩:=ry; exact eq_int (xao I q xmm)
  | str j=>obtain⟨t',rfl⟩:=ry; exact PySem.EqMixed.eq_int_str (xao I q (by simp))
  | _=>exact absurd (show false=true from hs) Z7
 | str i =>
  obtain⟨t,rfl⟩:=rx;cases y with
  | non=>cases ry; exact PySem.EqNone.eq_str_none (xao I q (by simp))
  | bl j=>cases ry; exact PySem.EqMixed.eq_str_bool (xao I q (by simp))
  | int j=>obtain⟨t',rfl⟩:=ry; exact PySem.EqMixed.eq_str_int (xao I q (by simp))
  | str j=>obtain⟨t',rfl⟩:=ry; exact eq_str (xao I q xlx)
  | _=>exact absurd (show false=true from hs) Z7
 | byt i =>
  obtain⟨t,rfl⟩:=rx;cases y with
  | byt j=>obtain⟨t',rfl⟩:=ry; exact PySem.W.eq_bytes (xao I q xmf)
  | _=>exact absurd (show false=true from hs) Z7
 | _=>cases y<;>exact absurd (show false=true from hs) Z7
theorem xge:OpR X (compareOp .NotEq) rNe:=by
 intro pins s Z H x y v u Q I rx ry h;obtain⟨hs,q⟩:=h;cases x with
 | non =>
  cases rx;cases y with
  | non=>cases ry; exact PySem.EqNone.ne_none_none (xao I q (by simp))
  | bl j=>cases ry; exact PySem.EqNone.ne_none_bool (xao I q (by simp))
  | int j=>obtain⟨t',rfl⟩:=ry; exact PySem.EqNone.ne_none_int (xao I q (by simp))
  | str j=>obtain⟨t',rfl⟩:=ry; exact PySem.EqNone.ne_none_str (xao I q (by simp))
  | _=>exact absurd (show false=true from hs) Z7
 | bl i =>
  cases rx;cases y with
  | non=>cases ry; exact PySem.EqNone.ne_bool_none (xao I q (by simp))
  | bl j=>cases ry; exact ne_bool (xao I q (congrArg not xn4))
  | str j=>obtain⟨t',rfl⟩:=ry; exact PySem.EqMixed.ne_bool_str (xao I q (by simp))
  | _=>exact absurd (show false=true from hs) Z7
 | int i =>
  obtain⟨t,rfl⟩:=rx;cases y with
  | non=>cases ry; exact PySem.EqNone.ne_int_none (xao I q (by simp))
  | int j=>obtain⟨t',rfl⟩:=ry; exact ne_int (xao I q (congrArg not xmm))
  | str j=>obtain⟨t',rfl⟩:=ry; exact PySem.EqMixed.ne_int_str (xao I q (by simp))
  | _=>exact absurd (show false=true from hs) Z7
 | str i =>
  obtain⟨t,rfl⟩:=rx;cases y with
  | non=>cases ry; exact PySem.EqNone.ne_str_none (xao I q (by simp))
  | bl j=>cases ry; exact PySem.EqMixed.ne_str_bool (xao I q (by simp))
  | int j=>obtain⟨t',rfl⟩:=ry; exact PySem.EqMixed.ne_str_int (xao I q (by simp))
  | str j=>obtain⟨t',rfl⟩:=ry; exact ne_str (xao I q (congrArg not xlx))
  | _=>exact absurd (show false=true from hs) Z7
 | byt i =>
  obtain⟨t,rfl⟩:=rx;cases y with
  | byt j=>obtain⟨t',rfl⟩:=ry; exact PySem.W.ne_bytes (xao I q (congrArg not xmf))
  | _=>exact absurd (show false=true from hs) Z7
 | _=>cases y<;>exact absurd (show false=true from hs) Z7
theorem xj4:OpR X (compareOp .Lt) (rI0 fun i j=>.bl (decide (i<j))):=opB0 fun _ _ _ _ _ _ _ q=>lt_int q
theorem xdm:OpR X (compareOp .LtE) (rI0 fun i j=>.bl (decide (i<=j))):=opB0 fun _ _ _ _ _ _ _ q=>le_int q
theorem xwn:OpR X (compareOp .Gt) (rI0 fun i j=>.bl (decide (j<i))):=opB0 fun _ _ _ _ _ _ _ q=>gt_int q
theorem xvb:OpR X (compareOp .GtE) (rI0 fun i j=>.bl (decide (j<=i))):=opB0 fun _ _ _ _ _ _ _ q=>ge_int q
theorem xue:OpR X (compareOp .Is) (fun x y H Q=>y=.non/\Q (.bl (decide (x=.non))) H):=by
 intro pins s Z H x y v u Q I rx ry h;obtain⟨rfl,q⟩:=h;cases ry;refine is_none_gen (xao I q ?_);cases x<;>first
  | (cases rx; rfl)
  | (obtain⟨t,rfl⟩:=rx; rfl)
def isObj:HO->Bool
 | .lst _=>true
 | .ins _ _ _=>true
 | _=>false
theorem x8 (b:Expr) {op:CmpOp} (h:op≠.In:=by decide) (h2:op≠.NotIn:=by decide):behindInMarks op b=false:=by
 have e1:(op == CmpOp.In)=false:=by cases op<;>first|rfl|exact absurd rfl h
 have e2:(op == CmpOp.NotIn)=false:=by cases op<;>first|rfl|exact absurd rfl h2
 cases b<;>simp[behindInMarks,e1,e2]
theorem xce {op:CmpOp}{r:R2} (ho:OpR X (compareOp op) r) (ha:PE X a ta) (hb:PE X b tb) (hm:behindInMarks op b=false):PE X (.Compare a [op] [b] pos) (tOp r ta tb):=by
 intro pins s Z H Q I h;exact wpAny_Compare1 (binT ha hb I h fun v u s2 x y H2 I2 rx ry q=>ho pins s2 Z H2 x y v u Q I2 rx ry q) hm
inductive xsn (x:V) (H':Hp) (Q:Bool->Hp->Prop):Prop
 | mk (k) (e_:x=.bl k) (r_:Q k H')
def xrm (t:TE):TT:=fun Z H Q=>t Z H fun x H'=>xsn x H' Q
theorem x9 {op:CmpOp}{r:R2} (ho:OpR X (compareOp op) r) (ha:PE X a ta) (hb:PE X b tb) (hm:behindInMarks op b=false):PT X (.Compare a [op] [b] pos) (xrm (tOp r ta tb)):=by
 intro pins s Z H Q I h;refine wpAny_isTrue_Compare1 (thn (ha pins s Z H _ I h) fun v s1 ⟨x,H1,I1,r1,q1⟩=>thn (hb pins s1 Z H1 _ I1 q1) fun u s2 ⟨y,H2,I2,r2,q2⟩ =>
  thn (ho pins s2 Z H2 x y v u _ I2 r1 r2 q2) fun c s3 ⟨z,H3,I3,r3,k,e,q3⟩=>?_) hm
 subst e;cases r3;exact J9 ⟨H3,I3,q3⟩
def xnw (r r':R2) (ta tb tc:TE):TE:=fun Z H Q=>ta Z H fun x H1=>tb Z H1 fun y H2=>r x y H2 fun z H3=>∃ k,z=.bl k /\
 (if k=true then tc Z H3 fun w' H4=>r' y w' H4 Q else Q (.bl false) H3)
theorem xg5 {op op':CmpOp}{r r':R2} (ho:OpR X (compareOp op) r) (ho':OpR X (compareOp op') r') (ha:PE X a ta) (hb:PE X b tb) (hc:PE X c tc)
    (hm:lastMarks [op,op'] [b,c]=false:=by with_unfolding_all rfl):PE X (.Compare a [op,op'] [b,c] pos) (xnw r r' ta tb tc):=by
  intro pins s Z H Q I h;refine Compare_chain (thn (ha pins s Z H _ I h) fun v s1 ⟨x,H1,I1,r1,q1⟩=>chain_link (thn (hb pins s1 Z H1 _ I1 q1) fun u s2 ⟨y,H2,I2,r2,q2⟩ =>
    thn (ho pins s2 Z H2 x y v u _ I2 r1 r2 q2) fun d s3 ⟨z,H3,I3,r3,k,e,q3⟩=>?_)) hm
  subst e;cases r3;refine J9 ?_;cases k with
  | false=>exact ite_ff ⟨.bl false,H3,I3,rfl,q3⟩
  | true=>exact ite_tt (chain_last (thn (hc pins s3 Z H3 _ I3 q3) fun w' s4 ⟨z',H4,I4,r4,q4⟩=>ho' pins s4 Z H4 y z' u w' Q I4 r2 r4 q4))
theorem xfi {op op':CmpOp}{r r':R2} (ho:OpR X (compareOp op) r) (ho':OpR X (compareOp op') r') (ha:PE X a ta) (hb:PE X b tb) (hc:PE X c tc)
    (hm:lastMarks [op,op'] [b,c]=false:=by with_unfolding_all rfl):PT X (.Compare a [op,op'] [b,c] pos) (xrm (xnw r r' ta tb tc)):=by
  intro pins s Z H Q I h;refine isTrue_chain (thn (ha pins s Z H _ I h) fun v s1 ⟨x,H1,I1,r1,q1⟩=>test_link (thn (hb pins s1 Z H1 _ I1 q1) fun u s2 ⟨y,H2,I2,r2,q2⟩ =>
    thn (ho pins s2 Z H2 x y v u _ I2 r1 r2 q2) fun d s3 ⟨z,H3,I3,r3,k,e,q3⟩=>?_)) hm
  subst e;cases r3;refine J9 ?_;cases k with
  | false =>
    obtain⟨k',e',q'⟩:=q3;cases e';exact ite_ff ⟨H3,I3,q'⟩
  | true =>
    refine ite_tt (test_last (thn (hc pins s3 Z H3 _ I3 q3) fun w' s4 ⟨z',H4,I4,r4,q4⟩=>thn (ho' pins s4 Z H4 y z' u w' _ I4 r2 r4 q4) fun d' s5 ⟨z2,H5,I5,r5,k2,e2,q5⟩=>?_));subst e2;cases r5;exact J9 ⟨H5,I5,q5⟩
theorem xe1:(sizeLine:Nat)<2 ^ 63:=by rw[YV]; decide
theorem xfj:OpR X (binaryOp .Add) (fun x y H Q=>∃ i j,x=.str i/\y=.str j/\i.length+j.length<=sizeLine/\Q (.str (i++j)) H):=by
 intro pins s Z H x y v u Q I rx ry h;obtain⟨i,j,rfl,rfl,hz,q⟩:=h;obtain⟨t,rfl⟩:=rx;obtain⟨t',rfl⟩:=ry;exact add_str (fun t' tk=>⟨.str (i++j),H,I.tok _,⟨_,rfl⟩,q⟩) hz
theorem xb6 {x:V}{us:List Value} (r:Vals [x] us):∃ u,us=[u]/\RelV x u:=by
 cases r with
 | cons r1 r2=>cases r2; exact⟨_,rfl,r1⟩
theorem xh7 {x y:V}{us:List Value} (r:Vals [x,y] us):∃ u w',us=[u,w']/\RelV x u/\RelV y w':=by
 cases r with
 | cons r1 r2 =>
  cases r2 with
  | cons r3 r4=>cases r4; exact⟨_,_,rfl,r1,r3⟩
theorem xp6:xby X (.builtin "abs") (fun xs H Q=>∃ i,xs=[.int i]/\Q (.int (if i<0 then -i else i)) H):=by
 intro pins s Z H xs us Q I r h;obtain⟨i,rfl,q⟩:=h;obtain⟨u,rfl,t,rfl⟩:=xb6 r;exact call_abs_int fun u tk=>⟨.int (if i<0 then -i else i),H,I.tok _,⟨_,rfl⟩,q⟩
theorem xja (hc:X.calm=true):xby X (.builtin "max") (fun xs H Q=>∃ i j,xs=[.int i,.int j]/\Q (.int (if j>i then j else i)) H):=by
 intro pins s Z H xs us Q I r h;obtain⟨i,j,rfl,q⟩:=h;obtain⟨u,w',rfl,⟨t,rfl⟩,⟨t',rfl⟩⟩:=xh7 r;refine max_two_ints (I.ok.hd hc) fun h' tk k=>⟨_,H,I.kept k,?_,q⟩
 by_cases hj:j>i
 .rw [if_pos hj,if_pos hj]; exact⟨_,rfl⟩
 .rw [if_neg hj,if_neg hj]; exact⟨_,rfl⟩
theorem xek (hc:X.calm=true):xby X (.builtin "min") (fun xs H Q=>∃ i j,xs=[.int i,.int j]/\Q (.int (if j<i then j else i)) H):=by
 intro pins s Z H xs us Q I r h;obtain⟨i,j,rfl,q⟩:=h;obtain⟨u,w',rfl,⟨t,rfl⟩,⟨t',rfl⟩⟩:=xh7 r;refine min_two_ints (I.ok.hd hc) fun h' tk k=>⟨_,H,I.kept k,?_,q⟩
 by_cases hj:j<i
 .rw [if_pos hj,if_pos hj]; exact⟨_,rfl⟩
 .rw [if_neg hj,if_neg hj]; exact⟨_,rfl⟩
end
structure ObjM (h:Heap) (x dx C:Addr) (mA:Str->Option Value):Prop where
 obj:h.get? x=some (JU C dx)
 ns:h.Ns1 dx mA
 ne:dx≠x
theorem xi5 {h:Heap}{dx:Addr}{mA:Str->Option Value} (n:h.Ns1 dx mA):∃ od,h.get? dx=some od/\∀ name,QZ name od=some (mA name):=by
 obtain⟨o,es,ep,ho,hd,hk,_,hm⟩:=n;refine⟨o,ho,fun name=>?_⟩;have e:=hm name;unfold nsFind findBy at e;rw[<- Array.find?_toList] at e;unfold QZ;rw[hd]
 dsimp only
 split
 .rename_i y q
  rw[q] at e;exact congrArg some e
 .rename_i q
  rw[q] at e;have a:es.toList.any (·.refKey)=false:=by
   rw[List.any_eq_false];intro y hy;obtain⟨z,t,hkey⟩:=hk y (Wf.mp hy);simp[DictEntry.refKey,hkey]
  have a':¬ es.toList.any (·.refKey)=true:=by rw[a]; exact Z7
  rw[if_neg a'];exact congrArg some e
theorem ObjM.look {h:Heap}{x dx C:Addr}{mA:Str->Option Value} (I:ObjM h x dx C mA):∃ od,PySem.W.InstAt h x (JU C dx) C (some od)/\∀ name,QZ name od=some (mA name) :=
 let ⟨od,ho,hl⟩:=xi5 I.ns
 ⟨od,⟨I.obj,rfl,rfl,ho⟩,hl⟩
section
variable {prog:Program}{w:World}{A:Around}{E:Value->Shared->Prop}{s:Shared}{K:Zd}{x dx C f:Addr}{mA:Str->Option Value}{name:Str}{v:Value}
theorem xs8 {expr:Bool}{Q:Value->Shared->Prop} (X:K.In s.heap) (I:ObjM s.heap x dx C mA) (hg:JO K C name=true) (hh:JG K C=true)
    (ha:ZD K (.ref C) name=some none) (hv:mA name=some v) (hv':PySem.W.handedIn v=true) (h:Q v { s with toks:=s.toks+1 }) :
    wpAny (model prog w) A (getAttr (.ref x) name expr) Q E s:=by
  obtain⟨od,J,hl⟩:=I.look;exact PySem.W.get_value X J (Wi hg).1 (PySem.W.findObj_own hh ha rfl (by rw[hl,hv])) hv' h
theorem xqp {pl:Sem Bool}{Q:Value × List Value->Shared->Prop} (X:K.In s.heap) (I:ObjM s.heap x dx C mA) (hg:JO K C name=true)
    (hf:ZD K (.ref C) name=some (some (.ref f))) (ht:ZL K (.ref f)=true) (hv:mA name=none) (h:Q (.ref f,[.ref x]) s) :
    wpAny (model prog w) A (getMethod (.ref x) name pl) Q E s:=by
  obtain⟨od,J,hl⟩:=I.look;exact PySem.W.method_fn X J (Wi hg).1 (Wi hg).2 hf (beq_iff_eq.mp ht) (by show (QZ name od).map (·.isSome)=some false; rw[hl,hv]; rfl) h
theorem xs0 {ns:List Str}{Q:Unit->Shared->Prop} (X:K.In s.heap) (I:ObjM s.heap x dx C mA)
    (hs:ZD K (.ref C) "__setattr__"=some (some (.builtin "object.__setattr__"))) (hp:Yr K C=true) (ht:PySem.W.takerIn K C name=some none) (hh:JG K C=true)
    (hw:YK mA ns) (hsz:ns.length<=sizeLine)
    (h:∀ h',ObjM h' x dx C (fun y=>if y=name then some v else mA y)->ZN dx s.heap h'->Q () { s with heap:=h',toks:=s.toks+2 }) :
    wpAny (model prog w) A (setAttr (.ref x) name v) Q E s:=by
  obtain⟨od,J,hl⟩:=I.look;refine PySem.W.set_plain X J hs (PySem.W.osa_open (s:={ s with toks:=s.toks+1 }) (r:=none) X J hp ht fun b=>?_);obtain⟨cd,hc,hd'⟩:=PySem.W.any_some hh;have hx:s.heap.get? x=some ⟨.ref C,some dx,.plain,#[]⟩:=I.obj;refine Zc (Zl (Zc (Zc (Qj hx (Zc (PySem.W.Looks.here (s:={ s with toks:=s.toks+1 }) (PySem.W.looks_clsIn X hc) ?_))))));rw[hd'];refine Zl (a:=some dx) (Zc (Zl (Zc ?_)));refine wpAny_nsSet1 (s:={ s with toks:=s.toks+1 }) I.ns fun h' hn2 hs2=>?_;obtain⟨oD,esD,epD,hoD,hdD,hcD⟩:=hn2.count (YK.cons name v hw);refine Zc (wpAny_lookBehind hoD (by rw[hdD]; exact pastItsLine_dict (Zy hcD (by rw[ZF]; omega))) ?_);exact Zl (h _ ⟨(hs2.2 _ (ZI I.ne)).trans I.obj,hn2,I.ne⟩ hs2)
theorem xqr {R:Result->Shared->Prop}{vs:List Value}{kw:List (Str × Value)} (X:K.In s.heap) (hm:Y9 K C=true)
    (hi:ZD K (.ref C) "__init__"=some (some (.ref f))) (hf:PySem.W.typeIn K (.ref f)=some (.type "function"))
    (h:codeAny (model prog w) (A.under (.builtin "type.__call__" ⟨.ref C::vs,kw⟩)) (.call (.ref f) ⟨.ref (s.heap.objs.size+1)::vs,kw⟩) (PySem.W.InitBack (s.heap.objs.size+1) R)
      { s with heap:=(s.heap.push JA).push (JU C s.heap.objs.size) }) :
    codeAny (model prog w) A (.call (.ref C) ⟨vs,kw⟩) R s:=by
  obtain⟨hh,g,d,t,os⟩:=s;exact PySem.W.make_core (PySem.W.makes_of X hm) (PySem.W.looks_findIn X hi) (fun self=>PySem.W.bind_fn X self hf) (.inl rfl) h
end
def putF (f:Str) (v:V):List (Str × V)->List (Str × V)
 | []=>[(f,v)]
 | (g,x)::r=>if g=f then (g,v)::r else (g,x)::putF f v r
theorem xes (f g:Str) (v:V):∀ fs:List (Str × V),(putF f v fs).lookup g=if g=f then some v else fs.lookup g
 | []=>by
  show ZX g [(f,v)]=_;by_cases h:g=f
  .have hb:(g == f)=true:=beq_iff_eq.mpr h;simp only[ZX,hb,if_pos h]
  .have hb:(g == f)=false:=beq_eq_false_iff_ne.mpr h;simp only[ZX,hb,if_neg h]
 | (k,x)::r=>by
  have ih:=xes f g v r;rw[show putF f v ((k,x)::r)=(if k=f then (k,v)::r else (k,x)::putF f v r) from rfl];by_cases hk:k=f
  .rw [if_pos hk];by_cases h:g=k
   .have hb:(g == k)=true:=beq_iff_eq.mpr h;simp only[ZX,hb,if_pos (h.trans hk)]
   .have hb:(g == k)=false:=beq_eq_false_iff_ne.mpr h;simp only[ZX,hb,if_neg (fun e:g=f=>h (e.trans hk.symm))]
  .rw [if_neg hk];by_cases h:g=k
   .have hb:(g == k)=true:=beq_iff_eq.mpr h;simp only[ZX,hb,if_neg (fun e:g=f=>hk (h.symm.trans e))]
   .have hb:(g == k)=false:=beq_eq_false_iff_ne.mpr h;simp only[ZX,hb];exact ih
theorem xdv (f:Str) (v:V):∀ fs:List (Str × V),f∈(putF f v fs).map (·.1)/\∀ g,g∈fs.map (·.1)->g∈(putF f v fs).map (·.1)
 | []=>⟨by simp[putF],fun g h=>by simp at h⟩
 | (k,x)::r=>by
  obtain⟨i1,i2⟩:=xdv f v r;rw[show putF f v ((k,x)::r)=(if k=f then (k,v)::r else (k,x)::putF f v r) from rfl];by_cases hk:k=f
  .rw [if_pos hk];subst hk;exact⟨by simp,fun g h=>by simpa using h⟩
  .rw [if_neg hk];refine⟨?_,fun g h=>?_⟩
   .rw [Zx];exact Zt _ i1
   .rw [Zx] at h ⊢;rcases Z1.mp h with e|e
    .exact Z1.mpr (.inl e)
    .exact Zt _ (i2 g e)
theorem xer (f:Str) (v:V):∀ fs:List (Str × V),(putF f v fs).length<=fs.length+1
 | []=>by simp[putF]
 | (k,x)::r=>by
  have ih:=xer f v r;rw[show putF f v ((k,x)::r)=(if k=f then (k,v)::r else (k,x)::putF f v r) from rfl];by_cases hk:k=f
  .rw [if_pos hk,ZF,ZF]; omega
  .rw [if_neg hk,ZF,ZF]; omega
theorem RelO.some_of {v:V}{o:Option Value} (r:RelO (some v) o):∃ u,o=some u/\RelV v u:=by
 cases o with
 | none=>exact (show False from r).elim
 | some u=>exact⟨u,rfl,r⟩
theorem RelO.none_of {o:Option Value} (r:RelO none o):o=none:=by
 cases o with
 | none=>rfl
 | some u=>exact (show False from r).elim
theorem xje {v:V}{u:Value} (r:RelV v u):PySem.W.handedIn u=true:=by
 cases v with
 | non=>cases (show u=ZU from r); rfl
 | bl b=>cases (show u=Yi b from r); rfl
 | int i=>obtain⟨t,e⟩:=(show ∃ t,u=Wg i t from r); cases e; rfl
 | str x=>obtain⟨t,e⟩:=(show ∃ t,u=Q2 x t from r); cases e; rfl
 | byt b=>obtain⟨t,e⟩:=(show ∃ t,u=Value.bytes b t from r); cases e; rfl
 | flt b=>obtain⟨t,e⟩:=(show ∃ t,u=Value.float b t from r); cases e; rfl
 | ref a=>cases (show u=Zm a from r); rfl
 | ty n=>cases (show u=Q9 n from r); rfl
section
variable {P:Program}{w:World}{H H':Hp}{h h':Heap}{a C dx:Addr}{fs fs':List (Str × V)}
theorem xgl (hok:HOk P w H h) (e:H a=some (.ins C dx fs)):∃ mA,ObjM h a dx C mA/\(∀ f,RelO (fs.lookup f) (mA f))/\YK mA (fs.map (·.1))/\fs.length<=1000/\H dx=some (.own a):=by
 obtain⟨d,z,ne,ob,mA,n,r,q⟩:=(show xam P w H h a (.ins C dx fs) from hok a _ e)
 exact⟨mA,⟨ob,n,ne⟩,r,q,z,d⟩
end
structure Cls (K:Zd) (C:Addr):Prop where
 pg:JO K C Str.empty=true
 hd:JG K C=true
 po:Yr K C=true
 sa:ZD K (.ref C) "__setattr__"=some (some (.builtin "object.__setattr__"))
theorem Cls.get {K:Zd}{C:Addr} (c:Cls K C) (f:Str):JO K C f=true:=c.pg
def xea (K:Zd) (C:Addr) (f:Str):Prop:=ZD K (.ref C) f=some none
theorem xea.taker {K:Zd}{C:Addr}{f:Str} (n:xea K C f):PySem.W.takerIn K C f=some none:=by
 unfold PySem.W.takerIn;rw[show ZD K (.ref C) f=some none from n];rfl
structure Meth (K:Zd) (C:Addr) (m:Str) (f:Addr):Prop where
 at_:ZD K (.ref C) m=some (some (.ref f))
 fn:ZL K (.ref f)=true
 kp:Jl K (.ref f)=true
section
variable {X:Cx}{pins:List (Addr × Obj)}{Z:St}{H:Hp}{s:Shared}{a C dx:Addr}{fs:List (Str × V)}{f:Str}{v:V}{A:Around}{E:Value->Shared->Prop}
theorem xnr {b:Bool}{Q:Value->Shared->Prop} (I:Inv X pins Z H s) (e:H a=some (.ins C dx fs)) (c:Cls X.K C) (n:xea X.K C f) (l:fs.lookup f=some v)
    (h:∀ u s',Inv X pins Z H s'->RelV v u->Q u s'):wpAny (model X.prog X.w) A (getAttr (.ref a) f b) Q E s:=by
  obtain⟨mA,O,r,_,_,_⟩:=xgl I.hok e;obtain⟨u,hu,ru⟩:=RelO.some_of (v:=v) (o:=mA f) (by rw[<- l]; exact r f);exact xs8 I.kIn O (c.get f) c.hd n hu (xje ru) (h u _ (I.tok _) ru)
theorem xhm {m:Str}{g:Addr}{pl:Sem Bool}{Q:Value × List Value->Shared->Prop} (I:Inv X pins Z H s) (e:H a=some (.ins C dx fs)) (c:Cls X.K C) (k:Meth X.K C m g) (l:fs.lookup m=none)
    (h:Q (.ref g,[.ref a]) s):wpAny (model X.prog X.w) A (getMethod (.ref a) m pl) Q E s:=by
  obtain⟨mA,O,r,_,_,_⟩:=xgl I.hok e;have hn:mA m=none:=RelO.none_of (by rw[<- l]; exact r m);exact xqp I.kIn O (c.get m) k.at_ k.fn hn h
theorem xna {y:V}{u:Value}{Q:Unit->Shared->Prop} (I:Inv X pins Z H s) (e:H a=some (.ins C dx fs)) (c:Cls X.K C) (n:xea X.K C f) (hl:fs.length<1000) (ry:RelV y u)
    (h:∀ s',Inv X pins Z (upd H a (.ins C dx (putF f y fs))) s'->Q () s'):wpAny (model X.prog X.w) A (setAttr (.ref a) f u) Q E s:=by
  obtain⟨mA,O,r,wi,_,ho⟩:=xgl I.hok e;have hz:(fs.map (·.1)).length<=sizeLine:=by rw[Za,YV]; omega
  refine xs0 I.kIn O c.sa c.po n.taker c.hd wi hz fun h' O' sb=>h _ ?_;have hd:∃ o,h'.get? dx=some o:=let ⟨o,_,_,e',_⟩:=O'.ns; ⟨o,e'⟩;refine I.write (x:=a) (e:=dx) (by rw[e]; exact Js) (.inr ho) (fun b q hb z=>(sb.2 b hb).trans z) hd ?_;refine⟨by rw[xh O.ne]; exact ho,?_,O.ne,O'.obj,_,O'.ns,fun g=>?_,fun g hg=>?_⟩
  . have:=xer f y fs; omega
  . show RelO ((putF f y fs).lookup g) (if g=f then some u else mA g)
    rw[xes];by_cases q:g=f
    . rw[if_pos q,if_pos q]; exact ry
    . rw[if_neg q,if_neg q]; exact r g
  . by_cases q:g=f
    . rw[q]; exact (xdv f y fs).1
    . refine (xdv f y fs).2 g (wi g fun z=>hg ?_)
      show (if g=f then some u else mA g)=none;rw[if_neg q]; exact z
theorem Inv.made (I:Inv X pins Z H s):Inv X pins Z (upd (upd H s.heap.objs.size (.own (s.heap.objs.size+1))) (s.heap.objs.size+1) (.ins C s.heap.objs.size []))
    { s with heap:=(s.heap.push JA).push (JU C s.heap.objs.size) }:=by
  have e1:(s.heap.push JA).get? s.heap.objs.size=some JA:=Z5 s.heap rfl;have e2:((s.heap.push JA).push (JU C s.heap.objs.size)).get? (s.heap.objs.size+1)=some (JU C s.heap.objs.size):=by
    have:=Z5 (s.heap.push JA) (o:=JU C s.heap.objs.size) rfl
    rwa [Wb] at this
  have e3:(s.heap.push JA).Ns s.heap.objs.size (fun _=>none):=⟨JA,#[],_,e1,rfl,(fun e he=>absurd he (by simp)),fun _=>rfl⟩
  have I1:=I.laid (a:=s.heap.objs.size) (o:=.own (s.heap.objs.size+1)) (h':=s.heap.push JA) (t':=s.toks) (fun b u q=>Zh _ q) (Zj _) ⟨_,e1⟩;refine I1.laid (a:=s.heap.objs.size+1) (o:=.ins C s.heap.objs.size []) (t':=s.toks) (fun b u q=>Zh _ q) (Nat.le_of_eq (Wb _ _)) ?_;have ne:s.heap.objs.size≠s.heap.objs.size+1:=ZK (Nat.lt_succ_self _);refine⟨by rw[xh ne,xf],ZW _,ne,e2,fun _=>none,(Heap.Ns1.of_empty e3).at fun o q=>Zh _ q,fun _=>Js,fun y hy=>absurd rfl hy⟩
theorem xmp {prog:Program}{w:World}{env:Env}{e:Expr}{f:Str}{pos:Pos}{s:Shared}{Q:Value->Shared->Prop} (hb:attributeBase e f env (eval e env)=eval e env)
    (h:wpAny (model prog w) A (eval e env) (fun o s₁=>wpAny (model prog w) A (getAttr o f true) Q E s₁) E s):wpAny (model prog w) A (eval (.Attribute e f pos) env) Q E s :=
  Attribute_any_ h (by rw[arm_eval_Attribute,hb])
end
inductive xt8 (K:Zd) (f:Str) (x:V) (H1:Hp) (Q:VK):Prop
 | mk (a C dx fs v) (e_:x=.ref a) (r_:H1 a=some (.ins C dx fs)/\Cls K C/\xea K C f/\fs.lookup f=some v/\Q v H1)
def tFld (K:Zd) (ta:TE) (f:Str):TE:=fun Z H Q=>ta Z H fun x H1=>xt8 K f x H1 Q
def sFld (K:Zd) (ta tv:TE) (f:Str):TS:=fun D Z H=>tv Z H fun y H1=>ta Z H1 fun x H2=>∃ a C dx fs,x=.ref a/\H2 a=some (.ins C dx fs)/\Cls K C/\xea K C f/\fs.length<1000 /\
 D.nx Z (upd H2 a (.ins C dx (putF f y fs)))
section
variable {X:Cx}{o e value:Expr}{f:Str}{pos pos' tpos:Pos}{ta tv:TE}
theorem xaa (he:PE X e ta) (hb:attributeBase e f X.env (eval e X.env)=eval e X.env):PE X (.Attribute e f pos) (tFld X.K ta f):=by
 intro pins s Z H Q I h;refine xmp hb (thn (he pins s Z H _ I h) fun u s1 ⟨x,H1,I1,rx,a,C,dx,fs,v,ex,ea,c,n,l,q⟩=>?_);subst ex;obtain rfl:u=Zm a:=rx;exact xnr I1 ea c n l fun u' s2 I2 ru=>⟨v,H1,I2,ru,q⟩
theorem xdr (ha:PE X o ta) (hv:PE X value tv) (hs:swapsWith value (some (.Attribute o f pos')) pos.line X.env=pure false):PS X (.Assign [.Attribute o f pos'] value pos) (sFld X.K ta tv f):=by
 intro pins s Z H D I h;refine plainObj_wpAny_Assign_Attribute (thn (hv pins s Z H _ I h) fun u s1 ⟨y,H1,I1,ry,q⟩=>thn (ha pins s1 Z H1 _ I1 q) fun ov s2 ⟨x,H2,I2,rx,a,C,dx,fs,ex,ea,c,n,l,q2⟩=>?_) hs;subst ex;obtain rfl:ov=Zm a:=rx;exact xna I2 ea c n l ry fun s3 I3=>⟨Z,_,I3,q2⟩
end
section
variable {X:Cx}{pins:List (Addr × Obj)}{Z:St}{H:Hp}{s:Shared}{A:Around}{E:Value->Shared->Prop}{Q:Value->Shared->Prop}{c:Value}{b:Bool}
inductive TyOf (K:Zd) (H:Hp):V->Value->Prop where
  | non:TyOf K H .non (.type "NoneType")
  | bl (x:Bool):TyOf K H (.bl x) (.type "bool")
  | int (i:Int):TyOf K H (.int i) (.type "int")
  | str (x:Str):TyOf K H (.str x) (.type "str")
  | flt (x:UInt64):TyOf K H (.flt x) (.type "float")
  | lst {a:Addr}{xs:List V} (e:H a=some (.lst xs)):TyOf K H (.ref a) (.type "list")
  | frz {a:Addr}{o:Obj}{xs:List V} (e:H a=some (.frz o (.lst xs))):TyOf K H (.ref a) (.type "list")
  | tup {a:Addr}{xs:List V} (e:H a=some (.tup xs)):TyOf K H (.ref a) (.type "tuple")
  | dK {a:Addr}{kvs:List (Key × V)} (e:H a=some (.dK kvs)):TyOf K H (.ref a) (.type "dict")
  | dT {a:Addr}{kvs:List (List Key × V)} (e:H a=some (.dT kvs)):TyOf K H (.ref a) (.type "dict")
  | ins {a C dx:Addr}{fs:List (Str × V)} (e:H a=some (.ins C dx fs)) (cl:Cls K C) (ha:ZD K (.ref C) "__class__"=some (some (.builtin "object.__class__")))
      (hn:PySem.W.specialIn K (.builtin "object.__class__") "__get__"=some (some (.builtin "getset_descriptor.__get__"))) (htk:PySem.W.takesIn K (.builtin "object.__class__")=some true)
      (hm:Wl K C (.type "object")=some true):TyOf K H (.ref a) (.ref C)
theorem xoz {x:V}{u t:Value} (I:Inv X pins Z H s) (rx:RelV x u) (ty:TyOf X.K H x t) (e:Yw X.K t c=some b) (h:∀ tk,Q (.bool b) { s with toks:=tk }) :
    wpAny (model X.prog X.w) A (call (.builtin "isinstance") [u,c]) Q E s:=by
  cases ty with
  | non=>cases (show u=ZU from rx); exact Jv PySem.W.kitx_none I.kIn Js e (fun z=>nomatch z) h
  | bl y=>cases (show u=Yi y from rx); exact Jv PySem.W.kitx_bool I.kIn Js e (fun z=>nomatch z) h
  | int i=>obtain⟨t,q⟩:=(show ∃ t,u=Wg i t from rx); cases q; exact Jv PySem.W.kitx_int I.kIn Js e (fun z=>nomatch z) h
  | str y=>obtain⟨t,q⟩:=(show ∃ t,u=Q2 y t from rx); cases q; exact Jv PySem.W.kitx_str I.kIn Js e (fun z=>nomatch z) h
  | flt y=>obtain⟨t,q⟩:=(show ∃ t,u=Value.float y t from rx); cases q; exact Jv PySem.W.kitx_float I.kIn Js e (fun z=>nomatch z) h
  | @lst a xs ea =>
    cases (show u=Zm a from rx);obtain⟨_,_,n,_,h1⟩:=(show xam X.prog X.w H s.heap a (.lst xs) from I.hok a _ ea)
    exact Jv PySem.W.kitx_list I.kIn ⟨_,h1,rfl⟩ e (fun z=>nomatch z) h
  | @frz a ob xs ea =>
    cases (show u=Zm a from rx);obtain⟨_,_,_,n,_,h1⟩:=(show xam X.prog X.w H s.heap a (.frz ob (.lst xs)) from I.hok a _ ea)
    exact Jv PySem.W.kitx_list I.kIn ⟨_,h1,rfl⟩ e (fun z=>nomatch z) h
  | @tup a xs ea =>
    cases (show u=Zm a from rx);obtain⟨_,_,_,p⟩:=(show xam X.prog X.w H s.heap a (.tup xs) from I.hok a _ ea)
    obtain⟨o,h1,h2,_⟩:=p;exact Jv PySem.W.kitx_tuple I.kIn ⟨o,h1,h2⟩ e (fun z=>nomatch z) h
  | @dK a kvs ea =>
    cases (show u=Zm a from rx);obtain⟨_,_,vs,_,p⟩:=(show xam X.prog X.w H s.heap a (.dK kvs) from I.hok a _ ea)
    obtain⟨o,es,ep,h1,h2,_⟩:=p;exact Jv PySem.W.kitx_dict I.kIn ⟨o,h1,h2.1⟩ e (fun z=>nomatch z) h
  | @dT a kvs ea =>
    cases (show u=Zm a from rx);obtain⟨_,_,xs,_,o,es,ep,h1,h2,_⟩:=(show xam X.prog X.w H s.heap a (.dT kvs) from I.hok a _ ea)
    exact Jv PySem.W.kitx_dict I.kIn ⟨o,h1,h2.1⟩ e (fun z=>nomatch z) h
  | @ins a C dx fs ea cl ha hn htk hm =>
    cases (show u=Zm a from rx);obtain⟨mA,O,_⟩:=xgl I.hok ea;obtain⟨od,J,_⟩:=O.look;exact Jv (PySem.W.kitx_own (cl.get _) cl.hd ha hn htk hm) I.kIn J e (fun z=>nomatch z) h
end
structure Room (q0:Bool) (k:Nat) (A:Around):Prop where
 hd:q0=true->A.handled=none
 dp:A.depth+3*k+5<recursionLimit
 un:A.units+16*k+200<cLine
 gd:A.guards=some []
theorem Room.mono {j k:Nat}{A:Around} (r:Room q0 k A) (h:j<=k):Room q0 j A:=⟨r.hd,by have:=r.dp; omega,by have:=r.un; omega,r.gd⟩
theorem Room.deeper {k:Nat}{A:Around} (r:Room q0 (k+1) A) (env:Env):Room q0 k (A.deeper env) :=
 ⟨r.hd,by have:=r.dp; show A.depth+1+3*k+5<_; omega,by have:=r.un; show A.units+3+16*k+200<_; omega,r.gd⟩
theorem xmx {A:Around}{C:Addr}{us:List Value}{kw:List (Str × Value)}:(A.under (.builtin "type.__call__" ⟨.ref C::us,kw⟩)).depth=A.depth+1:=by
 first|rfl|simp[Around.under,Code.weight,Code.isCreation,Code.isGuard,Code.isCaller,Code.frames,Code.isFrame,guardIds]
theorem xnp {A:Around}{C:Addr}{us:List Value}{kw:List (Str × Value)}:(A.under (.builtin "type.__call__" ⟨.ref C::us,kw⟩)).units=A.units+1:=by
 first|rfl|simp[Around.under,Code.cUnits,Code.frames,Code.isFrame]
theorem Room.make {k:Nat}{A:Around} (r:Room q0 (k+1) A) (C:Addr) (us:List Value) (kw:List (Str × Value)):Room q0 k (A.under (.builtin "type.__call__" ⟨.ref C::us,kw⟩)) :=
 ⟨r.hd,by have:=r.dp; rw[xmx]; omega,by have:=r.un; rw[xnp]; omega,by first|exact r.gd|(simpa [Around.under,Code.guards,Code.isGuard,guardIds,pushGuards] using r.gd)⟩
theorem Room.depth {k:Nat}{A:Around} (r:Room q0 k A):A.depth<recursionLimit:=by have:=r.dp; omega
theorem Room.units {k:Nat}{A:Around} (r:Room q0 k A):A.units+64<cLine:=by have:=r.un; omega
def tNil:TA:=fun _ H Q=>Q [] H
def xf9 (ta:TE) (tr:TA):TA:=fun Z H Q=>ta Z H fun x H1=>tr Z H1 fun xs H2=>Q (x::xs) H2
section
variable {X:Cx}{e:Expr}{es:List Expr}{te:TE}{t:TA}{pos:Pos}
theorem xg:PA X [] tNil:=fun _ _ _ _ H Q I h=>Calls.spliced_nil ⟨[],H,I,.nil,h⟩
theorem xb (ha:PE X e te) (hr:PA X es t) (hs:starEach (e::es) X.env=(false,eval e X.env)::starEach es X.env:=by rfl):PA X (e::es) (xf9 te t):=by
 intro pos pins s Z H Q I h;rw[hs];show wpAny _ _ (spliced ((false,eval e X.env)::backTo pos (starEach es X.env))) _ _ s;refine Qr (thn (ha pins s Z H _ I h) fun u s1 ⟨x,H1,I1,r1,q1⟩=>?_);exact thn (hr pos pins s1 Z H1 _ I1 q1) fun us s2 ⟨xs,H2,I2,r2,q2⟩=>⟨x::xs,H2,I2,.cons r1 r2,q2⟩
def tTup (t:TA):TE:=fun Z H Q=>t Z H fun xs H1=>xs.length<=sizeLine/\∀ p,H1 p=none->Q (.ref p) (upd H1 p (.tup xs))
def tLst (t:TA):TE:=fun Z H Q=>t Z H fun xs H1=>xs.length<=sizeLine/\∀ p,H1 p=none->Q (.ref p) (upd H1 p (.lst xs))
theorem x4 {x1} (h:PA X es t):PE X (.Tuple es x1 pos) (tTup t):=by
 intro pins s Z H Q I hq;refine wpAny_Tuple_spliced (thn (h pos pins s Z H _ I hq) fun us s1 ⟨xs,H1,I1,r,z,q⟩=>⟨by rw[<- r.length]; exact z,?_⟩);have hf:H1 s1.heap.objs.size=none:=I1.hok.fresh (Zj _);refine⟨.ref s1.heap.objs.size,upd H1 s1.heap.objs.size (.tup xs),I1.laid (t':=s1.toks) (fun b u e=>Zh _ e) (Zj _) ?_,rfl,q _ hf⟩;exact⟨z,us,r,⟨_,Z5 _ rfl,rfl,_,rfl⟩⟩
theorem xa8 (h:PA X es t):PE X (.List es pos) (tLst t):=by
 intro pins s Z H Q I hq;refine wpAny_List_spliced (thn (h pos pins s Z H _ I hq) fun us s1 ⟨xs,H1,I1,r,z,q⟩=>⟨by rw[<- r.length]; exact z,?_⟩);have hf:H1 s1.heap.objs.size=none:=I1.hok.fresh (Zj _);refine⟨.ref s1.heap.objs.size,upd H1 s1.heap.objs.size (.lst xs),I1.laid (t':=s1.toks) (fun b u e=>Zh _ e) (Zj _) ?_,rfl,q _ hf⟩;exact⟨z,us,0,r,Z5 _ rfl⟩
end
abbrev Sp:=List V->Hp->VK->XK->Prop
abbrev CXT:=List Env->Hp->Shared->XK->Value->Shared->Prop
structure Env0 (P:Program) (w:World) (K:Zd) (mg:Str->Option Value) (base:Heap) (A:Around) (outer:List Env) (s:Shared) (H:Hp):Prop where
 frames:A.frames=some outer
 mod:Mod K mg base
 bs:∀ b o,base.get? b=some o->s.heap.get? b=some o/\H b=none
 bsz:base.objs.size<=s.heap.objs.size
 funs:s.heap.FunFrames base outer
 frf:∀ b∈frs outer,H b=none
 hok:HOk P w H s.heap
 bare:AllBare s.gens
def CE (outer:List Env) (P:Program) (w:World) (H:Hp) (s:Shared) (Q:VK) (u:Value) (s':Shared):Prop :=
 ∃ v H',s'.os=s.os/\AllBare s'.gens/\Un (frs outer) [] H H' s.heap s'.heap/\HOk P w H' s'.heap/\RelV v u/\Q v H'
def CR (CX:CXT) (outer:List Env) (P:Program) (w:World) (H:Hp) (s:Shared) (Q:VK) (E:XK) (r:Result) (s':Shared):Prop :=
 match r with
 | .ok (.ret u)=>CE outer P w H s Q u s'
 | .ok _=>False
 | .error e=>CX outer H s E e s'
structure FnOk (q0:Bool) (P:Program) (w:World) (K:Zd) (mg:Str->Option Value) (base:Heap) (CX:CXT) (k:Nat) (f:Addr) (fd:FuncData) (ps:List Str) (sp:Sp):Prop where
 len:∀ vs H Q E,sp vs H Q E->vs.length=ps.length
 run:∀(A:Around) (outer:List Env) (s:Shared) (H:Hp) (args:Args) (us:List Value) (vs:List V) (Q:VK) (E:XK),Room q0 k A->Env0 P w K mg base A outer s H->BindsTo s fd args (ps.zip us)->Vals vs us->sp vs H Q E ->
  codeAny (model P w) A (.call (.ref f) args) (CR CX outer P w H s Q E) s
theorem Env0.make {P:Program}{w:World}{K:Zd}{mg:Str->Option Value}{base:Heap}{A:Around}{outer:List Env}{s:Shared}{H:Hp} (e:Env0 P w K mg base A outer s H) (C:Addr) (us:List Value) (kw:List (Str × Value)) :
    Env0 P w K mg base (A.under (.builtin "type.__call__" ⟨.ref C::us,kw⟩)) outer s H:=⟨by first|exact e.frames|(simpa [Around.under,Code.envs,Code.isFrame,pushEnvs] using e.frames),e.mod,e.bs,e.bsz,e.funs,e.frf,e.hok,e.bare⟩
section
variable {X:Cx}{pins:List (Addr × Obj)}{Z:St}{H:Hp}{s s':Shared}
theorem Inv.env0 (I:Inv X pins Z H s):Env0 X.prog X.w X.K X.mg X.base X.A X.stack s H :=
 ⟨I.ok.frames,I.ok.mod,I.bs,Zy I.ok.bsz I.sz,I.stack,I.stkFree,I.hok,I.bare⟩
theorem Inv.after {Q:VK}{u:Value} (I:Inv X pins Z H s) (h:CE X.stack X.prog X.w H s Q u s'):EP X pins Z Q u s':=by
 obtain⟨v,H',os,bare,un,hok,r,q⟩:=h;obtain⟨hh,g,d,t,os'⟩:=s';obtain rfl:os'=s.os:=os;exact⟨v,H',I.call (h':=hh) (g':=g) (d':=d) (t':=t) (ch:=[]) un hok bare (fun b z=>absurd z (by simp)),r,q⟩
end
def xm2 (sp:Sp) (dvs:List V) (E:St->XK) (t:TA):TE:=fun Z H Q=>t Z H fun vs H1=>sp (vs++dvs) H1 Q (E Z)
inductive xsy (C:Addr) (m:Str) (sp:Sp) (dvs:List V) (E:St->XK) (t:TA) (Z:St) (x:V) (H1:Hp) (Q:VK):Prop
 | mk (a dx fs) (e_:x=.ref a) (r_:H1 a=some (.ins C dx fs)/\fs.lookup m=none/\t Z H1 fun vs H2=>sp (x::(vs++dvs)) H2 Q (E Z))
def xj7 (C:Addr) (m:Str) (sp:Sp) (dvs:List V) (E:St->XK) (ta:TE) (t:TA):TE:=fun Z H Q=>ta Z H fun x H1=>xsy C m sp dvs E t Z x H1 Q
def xvc (C:Addr) (sp:Sp) (dvs:List V) (E:St->XK) (t:TA):TE:=fun Z H Q=>t Z H fun vs H1=>∀ x dx,H1 x=none->H1 dx=none->dx≠x ->
 sp (.ref x::(vs++dvs)) (upd (upd H1 dx (.own x)) x (.ins C dx [])) (fun v H2=>v=.non/\Q (.ref x) H2) (E Z)
def xz (K:Zd) (fd:FuncData) (ps:List Str) (ds:List Value):Prop :=
 ∀(s:Shared) (us:List Value),K.In s.heap->(us++ds).length=ps.length->BindsTo s fd ⟨us,[]⟩ (ps.zip (us++ds))
theorem xz.all {K:Zd}{fd:FuncData}{ps:List Str} (h:∀ us:List Value,us.length=ps.length->bindArgs fd ⟨us,[]⟩=pure (ps.zip us)):xz K fd ps []:=fun s us _ hl=>by
 rw[Jy] at hl ⊢;exact .of_eq (h us hl)
def xdu (CX:CXT) (X:Cx) (E:St->XK):Prop:=∀(pins:List (Addr × Obj)) (Z:St) (H:Hp) (s:Shared) (e:Value) (s':Shared),Inv X pins Z H s->CX X.stack H s (E Z) e s'->X.xe e s'
section
variable {X:Cx}{CX:CXT}{k:Nat}{f C:Addr}{fd:FuncData}{ps:List Str}{sp:Sp}{dvs:List V}{ds:List Value}{E:St->XK}{x m:Str}{p pos apos:Pos}{e o:Expr}{es:List Expr}{ta:TE}{t:TA}
theorem xkz {pins:List (Addr × Obj)}{Z:St}{H:Hp}{s:Shared}{Q:VK}{us:List Value}{vs:List V} (F:FnOk q0 X.prog X.w X.K X.mg X.base CX k f fd ps sp) (hr:Room q0 k X.A) (hb:xz X.K fd ps ds) (hd:Vals dvs ds) (hx:xdu CX X E)
    (I:Inv X pins Z H s) (r:Vals vs us) (h:sp (vs++dvs) H Q (E Z)):wpAny (model X.prog X.w) X.A (call (.ref f) us) (EP X pins Z Q) X.xe s:=by
  have r2:Vals (vs++dvs) (us++ds):=r.append hd;have hl:(us++ds).length=ps.length:=by rw[<- r2.length]; exact F.len _ _ _ _ h
  refine Q8 (QA (F.run X.A X.stack s H ⟨us,[]⟩ (us++ds) (vs++dvs) Q (E Z) hr I.env0 (hb s us I.kIn hl) r2 h) fun r s' hq=>?_);cases r with
  | error e=>exact hx pins Z H s e s' I hq
  | ok fl =>
    cases fl with
    | ret u=>exact I.after hq
    | next=>exact J8 hq
    | brk=>exact J8 hq
    | cont=>exact J8 hq
theorem xt (F:FnOk q0 X.prog X.w X.K X.mg X.base CX k f fd ps sp) (hr:Room q0 k X.A) (hg:Gl X x) (hm:X.mg x=some (.ref f)) (hk:Jl X.K (.ref f)=true) (hb:xz X.K fd ps ds) (hd:Vals dvs ds) (hx:xdu CX X E)
    (ha:PA X (e::es) t) (hdb:(x == ("__debug__":Str))=false:=by decide) (he:starEach (e::es) X.env=(false,eval e X.env)::starEach es X.env:=by rfl) (hpl:(backTo pos (starEach es X.env)).any (·.1)=false:=by rfl) :
    PE X (.Call (.Name x p) (e::es) [] pos) (xm2 sp dvs E t):=by
  intro pins s Z H Q I h;refine Yk (xev I hg hm ?_ hdb);refine Qn (h₀:=X.base) I.ok.mod.kin hk (thn (ha pos pins s Z H _ I h) fun us s1 ⟨vs,H1,I1,r,q⟩=>⟨I1.kIn,?_⟩) he hpl;exact xkz F hr hb hd hx I1 r q
theorem xa3 {pl:Sem Bool} (he:PE X o ta) (c:Cls X.K C) (hm:Meth X.K C m f) (F:FnOk q0 X.prog X.w X.K X.mg X.base CX k f fd ps sp) (hr:Room q0 k X.A) (hb:xz X.K fd ps ds) (hd:Vals dvs ds) (hx:xdu CX X E) (ha:PA X (e::es) t)
    (hst:starEach (e::es) X.env=(false,eval e X.env)::starEach es X.env:=by rfl) (hpl:(backTo pos (starEach es X.env)).any (·.1)=false:=by rfl)
    (ht:eval (.Call (.Attribute o m apos) (e::es) [] pos) X.env=(do
      let ov <- eval o X.env
      standAt apos.atName
      let (f,first) <- holding [ov] (getMethod ov m pl)
      callWith pos f first (backTo pos (starEach (e::es) X.env)) (backToKw pos (keywordEach [] X.env))):=by rfl) :
    PE X (.Call (.Attribute o m apos) (e::es) [] pos) (xj7 C m sp dvs E ta t):=by
  intro pins s Z H Q I h;refine PySem.W.methodCall_KW (pl:=pl) (thn (he pins s Z H _ I h) fun u s1 ⟨x,H1,I1,rx,a,dx,fs,ex,ea,l,q⟩=>?_) ht;subst ex;obtain rfl:u=Zm a:=rx;refine xhm I1 ea c hm l ?_;refine Qn (first:=[.ref a]) (h₀:=X.base) I.ok.mod.kin hm.kp (thn (ha pos pins s1 Z H1 _ I1 q) fun us s2 ⟨vs,H2,I2,r,q2⟩=>⟨I2.kIn,?_⟩) hst hpl;exact xkz (us:=.ref a::us) (vs:=.ref a::vs) F hr hb hd hx I2 (.cons rfl r) q2
theorem xbo {pl:Sem Bool} (he:PE X o ta) (c:Cls X.K C) (hm:Meth X.K C m f) (F:FnOk q0 X.prog X.w X.K X.mg X.base CX k f fd ps sp) (hr:Room q0 k X.A) (hb:xz X.K fd ps ds) (hd:Vals dvs ds) (hx:xdu CX X E)
    (ht:eval (.Call (.Attribute o m apos) [] [] pos) X.env=(do
      let ov <- eval o X.env
      standAt apos.atName
      let (f,first) <- holding [ov] (getMethod ov m pl)
      callWith pos f first (backTo pos (starEach [] X.env)) (backToKw pos (keywordEach [] X.env))):=by rfl) :
    PE X (.Call (.Attribute o m apos) [] [] pos) (xj7 C m sp dvs E ta tNil):=by
  intro pins s Z H Q I h;refine PySem.W.methodCall_KW (pl:=pl) (thn (he pins s Z H _ I h) fun u s1 ⟨x,H1,I1,rx,a,dx,fs,ex,ea,l,q⟩=>?_) ht;subst ex;obtain rfl:u=Zm a:=rx;refine xhm I1 ea c hm l ?_;exact PySem.W.callWith_K0 (first:=[.ref a]) I1.kIn hm.kp (xkz (us:=[.ref a]) (vs:=[.ref a]) F hr hb hd hx I1 (.cons rfl .nil) q)
structure Mk (K:Zd) (C f:Addr):Prop where
 makes:Y9 K C=true
 init:ZD K (.ref C) "__init__"=some (some (.ref f))
 fn:ZL K (.ref f)=true
 kp:Jl K (.ref C)=true
theorem xqz {pins:List (Addr × Obj)}{Z:St}{H:Hp}{s:Shared}{Q:VK}{us:List Value}{vs:List V} (M:Mk X.K C f) (F:FnOk q0 X.prog X.w X.K X.mg X.base CX k f fd ps sp) (hr:Room q0 (k+1) X.A) (hb:xz X.K fd ps ds) (hd:Vals dvs ds)
    (hx:xdu CX X E) (I:Inv X pins Z H s) (r:Vals vs us)
    (h:∀ x dx,H x=none->H dx=none->dx≠x->sp (.ref x::(vs++dvs)) (upd (upd H dx (.own x)) x (.ins C dx [])) (fun v H2=>v=.non/\Q (.ref x) H2) (E Z)) :
    wpAny (model X.prog X.w) X.A (call (.ref C) us) (EP X pins Z Q) X.xe s:=by
  have hq:=h (s.heap.objs.size+1) s.heap.objs.size (I.hok.fresh (QV _)) (I.hok.fresh (Zj _)) (ZK (Nat.lt_succ_self _));have I2:=Inv.made (C:=C) I;have r2:Vals (V.ref (s.heap.objs.size+1)::(vs++dvs)) (Zm (s.heap.objs.size+1)::(us++ds)):=.cons rfl (r.append hd);have hl:(Zm (s.heap.objs.size+1)::us++ds).length=ps.length:=by
    have e:=r2.length;rw[F.len _ _ _ _ hq] at e;exact e.symm
  refine Q8 (xqr (f:=f) I.kIn M.makes M.init (beq_iff_eq.mp M.fn) (QA (F.run _ X.stack _ _ ⟨Zm (s.heap.objs.size+1)::us,[]⟩ (Zm (s.heap.objs.size+1)::(us++ds)) _ _ (E Z) (hr.make C us [])
    (I2.env0.make C us []) (hb _ (Zm (s.heap.objs.size+1)::us) I2.kIn hl) r2 hq) fun r s' hq'=>?_))
  cases r with
  | error e=>exact hx pins Z _ _ e s' I2 hq'
  | ok fl =>
    cases fl with
    | ret u =>
      obtain⟨v,H',I3,rv,ev,q3⟩:=I2.after hq';subst ev;exact⟨rv,⟨V.ref (s.heap.objs.size+1),H',I3,rfl,q3⟩⟩
    | next=>exact J8 hq'
    | brk=>exact J8 hq'
    | cont=>exact J8 hq'
theorem xe7 (M:Mk X.K C f) (F:FnOk q0 X.prog X.w X.K X.mg X.base CX k f fd ps sp) (hr:Room q0 (k+1) X.A) (hg:Gl X x) (hm:X.mg x=some (.ref C)) (hb:xz X.K fd ps ds) (hd:Vals dvs ds) (hx:xdu CX X E)
    (ha:PA X (e::es) t) (hdb:(x == ("__debug__":Str))=false:=by decide) (he:starEach (e::es) X.env=(false,eval e X.env)::starEach es X.env:=by rfl) (hpl:(backTo pos (starEach es X.env)).any (·.1)=false:=by rfl) :
    PE X (.Call (.Name x p) (e::es) [] pos) (xvc C sp dvs E t):=by
  intro pins s Z H Q I h;refine Yk (xev I hg hm ?_ hdb);refine Qn (h₀:=X.base) I.ok.mod.kin M.kp (thn (ha pos pins s Z H _ I h) fun us s1 ⟨vs,H1,I1,r,q⟩=>⟨I1.kIn,?_⟩) he hpl;exact xqz M F hr hb hd hx I1 r q
end
structure xv (N P:List Str) (sc:Scope):Prop where
 kind:sc.kind=.function
 co:sc.isCoroutine=false
 gen:sc.isGenerator=false
 nd:N.Nodup
 pre:N.take P.length=P
 par:∀ x∈P,sc.names.lookup x=some .local\/sc.names.lookup x=some .cell
 nofree:∀ y∈sc.names,y.2≠.free
theorem xjr {kindOf:Str->Option NameKind}{x:Str}:∀{binds:List (Str × Value)}{m:Str->Option Value},(∀ v,(x,v)∉binds)->bindL kindOf binds m x=m x
 | [],_,_=>rfl
 | (n,v)::r,m,h=>by
  unfold bindL;rw[xjr fun w hw=>h w (Zt _ hw)];split
  .have:x≠n:=by rintro rfl; exact h v Zr
   simp[this]
  .rfl
theorem xi9 {kindOf:Str->Option NameKind}{x:Str}:∀{binds:List (Str × Value)}{m:Str->Option Value},(∀ v,(x,v)∉binds)->bindC kindOf binds m x=m x
 | [],_,_=>rfl
 | (n,v)::r,m,h=>by
  unfold bindC;rw[xi9 fun w hw=>h w (Zt _ hw)];split
  .rfl
  .have:x≠n:=by rintro rfl; exact h v Zr
   simp[this]
theorem xjj {kindOf:Str->Option NameKind}{x:Str}{v:Value}:∀{P:List Str}{vs:List Value}{i:Nat}{m:Str->Option Value},P.Nodup->P[i]?=some x->vs[i]?=some v->kindOf x=some .local ->
    bindL kindOf (P.zip vs) m x=some v
  | [],_,_,_,_,h,_,_=>by simp at h
  | _::_,[],_,_,_,_,h,_=>by simp at h
  | p::P,w::vs,0,m,nd,h1,h2,hk=>by
    simp at h1 h2; subst h1; subst h2;show bindL kindOf ((p,w)::P.zip vs) m p=_;unfold bindL;rw[xjr fun v hv=>(Jd.mp nd).1 (List.of_mem_zip hv).1,if_pos hk];simp
  | p::P,w::vs,i+1,m,nd,h1,h2,hk=>by
    show bindL kindOf ((p,w)::P.zip vs) m x=_;unfold bindL;exact xjj (i:=i) (Jd.mp nd).2 (by simpa using h1) (by simpa using h2) hk
theorem xiu {kindOf:Str->Option NameKind}{x:Str}{v:Value}:∀{P:List Str}{vs:List Value}{i:Nat}{m:Str->Option Value},P.Nodup->P[i]?=some x->vs[i]?=some v->kindOf x≠some .local ->
    bindC kindOf (P.zip vs) m x=some v
  | [],_,_,_,_,h,_,_=>by simp at h
  | _::_,[],_,_,_,_,h,_=>by simp at h
  | p::P,w::vs,0,m,nd,h1,h2,hk=>by
    simp at h1 h2; subst h1; subst h2;show bindC kindOf ((p,w)::P.zip vs) m p=_;unfold bindC;rw[xi9 fun v hv=>(Jd.mp nd).1 (List.of_mem_zip hv).1,if_neg hk];simp
  | p::P,w::vs,i+1,m,nd,h1,h2,hk=>by
    show bindC kindOf ((p,w)::P.zip vs) m x=_;unfold bindC;exact xiu (i:=i) (Jd.mp nd).2 (by simpa using h1) (by simpa using h2) hk
def xc7 (N:List Str) (vs:List V):St:=vs.map some++ZC (N.length-vs.length) none
def cxOf (q0:Bool) (CX:CXT) (P:Program) (w:World) (K:Zd) (mg:Str->Option Value) (base:Heap) (N:List Str) (qual:Str) (scope:Scope) (f:Addr) (cd:Value) (A:Around) (outer:List Env) (s:Shared) (H:Hp) (E:XK):Cx where
 prog:=P
 w:=w
 K:=K
 mg:=mg
 base:=base
 A:=A.deeper (envOfC qual scope s.heap.objs.size f cd)
 N:=N
 s₀:=s
 H₀:=H
 env:=envOfC qual scope s.heap.objs.size f cd
 outer:=outer
 stack:=envOfC qual scope s.heap.objs.size f cd::outer
 ex:=[]
 calm:=q0
 fn:=fun _=>true
 pn:=[]
 xe:=fun e s'=>wpAny (model P w) (A.deeper (envOfC qual scope s.heap.objs.size f cd)) (leaving (envOfC qual scope s.heap.objs.size f cd) e) (fun _ s''=>CX outer H s E e s'') (fun e' s''=>CX outer H s E e' s'') s'
theorem xk0 {sc:Scope}{n:Nat}{x:Str} (h:sc.names.lookup x=some .cell):∃ c,(cellsFrom n sc.names []).lookup x=some c:=by
 have q:=PySem.W.cellsFrom_some sc.names n [] (.inl h);exact Option.isSome_iff_exists.mp q
theorem xpj {CX:CXT}{P:Program}{w:World}{K:Zd}{mg:Str->Option Value}{base:Heap}{N ps:List Str}{qual:Str}{scope:Scope}{f:Addr}{cd:Value}{A:Around}{outer:List Env}{s s1:Shared}{H:Hp}{E:XK}{us:List Value}{vs:List V}
    (S:xv N ps scope) (hd:q0=true->A.handled=none) (e0:Env0 P w K mg base A outer s H) (hl:vs.length=ps.length) (r:Vals vs us)
    (x:InCallC s s.heap.objs.size (bindL (envOfC qual scope s.heap.objs.size f cd).kindOf (ps.zip us) fun _=>none) (cellsFrom (s.heap.objs.size+1) scope.names []) (bindC (envOfC qual scope s.heap.objs.size f cd).kindOf (ps.zip us) fun _=>none) s1) :
    Inv (cxOf q0 CX P w K mg base N qual scope f cd A outer s H E) [] (xc7 N vs) H s1:=by
  have hpl:ps.length<=N.length:=by have:=congrArg QW S.pre; rw[Jh] at this; omega
  obtain⟨h1,tk,rfl,hk⟩:=x.done;have noA:∀ b:Addr,b∉(cxOf q0 CX P w K mg base N qual scope f cd A outer s H E).ex:=fun b z=>absurd (show b∈([]:List Addr) from z) (by simp);refine⟨⟨e0.mod,S.kind,rfl,rfl,Zj _,fun y z c h1 h2=>?_,fun y hy=>?_,fun y c _ h=>?_,hd,Around.frames_deeper e0.frames,.inr ⟨rfl,rfl⟩,fun b z=>absurd z (noA b),e0.bs,e0.bsz,fun b _ _=>noA b,fun b z=>absurd z (noA b),e0.funs,e0.frf⟩,
    rfl,e0.bare,Un.kept hk,⟨_,x.toInCall.ns,fun i y v h1 h2 h3=>?_⟩,fun y c h=>⟨_,x.cell y c h⟩,e0.hok.fresh (Zj _),fun y c h=>?_,fun p hp=>absurd (show p∈([]:List (Addr × Obj)) from hp) (by simp),e0.hok.kept hk,?_⟩
  . exact name_of_addr x.apart (JB h1) (JB h2)
  . have hy:scope.names.lookup y=some .cell\/scope.names.lookup y=some .free:=hy
    rcases hy with hy|hy
    . exact xk0 hy
    . exact absurd rfl (S.nofree _ (JB hy))
  . exact JF (x.above y c (JB h))
  . have hi:i<vs.length:=by
      unfold xc7 at h2;by_cases hi:i<vs.length
      . exact hi
      . rw[Jt (by simpa using hi)] at h2
        rw[Q7] at h2;split at h2<;>cases h2
    have ha:vs[i]?=some v:=by
      unfold xc7 at h2;rw[Jj (by simpa using hi),Zg] at h2;cases e:vs[i]? with
      | none=>rw[e] at h2; cases h2
      | some a=>rw[e] at h2; cases h2; rfl
    obtain⟨u,hu,rv⟩:=r.get ha;have hp:ps[i]?=some y:=by
      rw[<- S.pre,List.getElem?_take_of_lt (by omega)]; exact h1
    have ndP:ps.Nodup:=by rw[<- S.pre]; exact S.nd.sublist (List.take_sublist _ _)
    refine⟨u,rv,?_⟩;rcases S.par y (Zn hp) with k|k
    . exact .inl ⟨k,xjj ndP hp hu k⟩
    . obtain⟨c,e⟩:=xk0 (n:=s.heap.objs.size+1) k
      refine .inr ⟨.inl k,c,e,?_⟩;have q:=x.cell y c e;rw[xiu ndP hp hu (by show scope.names.lookup y≠_; rw[k]; decide)] at q;exact q
  . exact e0.hok.fresh (JF (x.above y c (JB h)))
  . unfold xc7
    show _=N.length;rw[Zo,Za,JR];omega
theorem xj1 {CX:CXT}{P:Program}{w:World}{K:Zd}{mg:Str->Option Value}{base:Heap}{k:Nat}{f:Addr}{name qual:Str}{params:Arguments}{body:List Stmt}{scope:Scope}{dV kV doc pm cdv ct oc:Value}{an od:Option Addr}
    {osl:Array (Option Value)}{N ps:List Str}{sp:Sp} (lk:K.lookup f=some ⟨oc,od,.func (Jo name qual params body scope dV kV doc pm an cdv ct),osl⟩) (hcd:YL K cdv qual=true) (S:xv N ps scope)
    (len:∀ vs H Q E,sp vs H Q E->vs.length=ps.length)
    (hbody:∀(A:Around) (outer:List Env) (s:Shared) (H:Hp) (vs:List V) (Q:VK) (E:XK),Room q0 k (A.deeper (envOfC qual scope s.heap.objs.size f cdv))->sp vs H Q E ->
      ∃ t,PSs (cxOf q0 CX P w K mg base N qual scope f cdv A outer s H E) body t/\t { nx:=fun _ H'=>Q .non H',rt:=Q } (xc7 N vs) H) :
    FnOk q0 P w K mg base CX (k+1) f (Jo name qual params body scope dV kV doc pm an cdv ct) ps sp:=by
  refine⟨len,fun A outer s H args us vs Q E hr e0 hb r hsp=>?_⟩;have hl:=len _ _ _ _ hsp;have KX:K.In s.heap:=e0.mod.kin.keeps fun b o e=>(e0.bs b o e).1;have lim:s.heap.NoLimit:=e0.mod.nolimit.keeps fun b o e=>(e0.bs b o e).1;have hkind:∀ y∈ps.zip us,scope.names.lookup y.1=some .local\/(scope.names.lookup y.1=some .cell/\((cellsFrom (s.heap.objs.size+1) scope.names []).lookup y.1).isSome=true):=fun⟨n,v⟩ hy=>by
    rcases S.par n (List.of_mem_zip hy).1 with q|q
    . exact .inl q
    . exact .inr ⟨q,PySem.W.cellsFrom_some _ _ _ (.inl q)⟩
  refine codeAny_call_function hr.depth (KX _ _ lk) rfl S.co S.gen rfl (PySem.W.codeRec_of KX hcd) (hb _ _ _ _ ?_);refine wpAny_newFunctionEnv_cells S.kind hkind fun env he s1 x=>?_;subst he;refine⟨lim.keeps x.toInCall.keep,codeAny_func ?_⟩;obtain⟨t,ht,hq⟩:=hbody A outer s H vs Q E (hr.deeper _) hsp;have I:Inv (cxOf q0 CX P w K mg base N qual scope f cdv A outer s H E) [] (xc7 N vs) H s1:=xpj S hr.hd e0 hl r x;refine ZT (ht [] s1 (xc7 N vs) H _ I hq) (fun fl s' hs=>?_) fun e s' hs=>hs;have fin:∀{σ':St}{H':Hp}{v:V}{u:Value},Inv (cxOf q0 CX P w K mg base N qual scope f cdv A outer s H E) [] σ' H' s'->RelV v u->Q v H'->CE outer P w H s Q u s' :=
    fun {σ' H' v u} J rv q=>⟨v,H',J.os,J.bare,J.base,J.hok,rv,q⟩
  cases fl with
  | ret u =>
    obtain⟨v,σ',H',J,rv,q⟩:=hs;exact fin J rv q
  | next =>
    obtain⟨σ',H',J,q⟩:=hs;exact fin (v:=V.non) (u:=ZU) J rfl q
  | brk =>
    obtain⟨_,_,_,q⟩:=hs;exact J8 q
  | cont =>
    obtain⟨_,_,_,q⟩:=hs;exact J8 q
section
variable {X:Cx}{x:Str}{p pos:Pos}{e:Expr}{es:List Expr}{t:TA}{id T:String}{r:List V->Hp->VK->Prop}
def tCB (r:List V->Hp->VK->Prop) (t:TA):TE:=fun Z H Q=>t Z H fun vs H1=>r vs H1 Q
theorem xw (hc:xby X (.builtin id) r) (hg:Gl X x) (hm:X.mg x=none) (hv:bootBuiltins x=some (.builtin id)) (ha:PA X (e::es) t) (hn:x≠"__name__":=by decide) (hdb:(x == ("__debug__":Str))=false:=by decide)
    (he:starEach (e::es) X.env=(false,eval e X.env)::starEach es X.env:=by rfl) (hpl:(backTo pos (starEach es X.env)).any (·.1)=false:=by rfl):PE X (.Call (.Name x p) (e::es) [] pos) (tCB r t):=by
  intro pins s Z H Q I h;refine Yk (xcw I hg hm hv ?_ hn hdb);exact PyProof.Rows.callWith_builtin1 (thn (ha pos pins s Z H _ I h) fun us s1 ⟨vs,H1,I1,r1,q1⟩=>hc pins s1 Z H1 vs us Q I1 r1 q1) he hpl
theorem xb5 (hc:xby X (.type T) r) (hg:Gl X x) (hm:X.mg x=none) (hv:bootBuiltins x=some (.type T)) (ha:PA X (e::es) t) (hn:x≠"__name__":=by decide) (hdb:(x == ("__debug__":Str))=false:=by decide)
    (he:starEach (e::es) X.env=(false,eval e X.env)::starEach es X.env:=by rfl) (hpl:(backTo pos (starEach es X.env)).any (·.1)=false:=by rfl):PE X (.Call (.Name x p) (e::es) [] pos) (tCB r t):=by
  intro pins s Z H Q I h;refine Yk (xcw I hg hm hv ?_ hn hdb);exact Jb (thn (ha pos pins s Z H _ I h) fun us s1 ⟨vs,H1,I1,r1,q1⟩=>hc pins s1 Z H1 vs us Q I1 r1 q1) he hpl
end
end L2
namespace HT
open PySem PyProof.Rows
section
variable {prog:Program}{w:World}{A:Around}{E:Value->Shared->Prop}{s:Shared}
theorem cat_tup {t b:Addr}{vs ws:List Value}{Q:Value->Shared->Prop} (ht:IsTup s.heap t vs.toArray) (hb:IsTup s.heap b ws.toArray) (hv:vs≠[])
    (h1:ws=[]->Q (.ref t) s) (h2:ws≠[]->Q (.ref s.heap.objs.size) { s with heap:=s.heap.push { cls:=.type "tuple",data:=.seq (vs++ws).toArray } })
    (hsz:vs.length+ws.length<=sizeLine):wpAny (model prog w) A (binaryOp .Add (.ref t) (.ref b)) Q E s:=by
  obtain⟨⟨cls,dd,data,sl⟩,ho,hc,n,hd⟩:=id ht;obtain⟨⟨cls2,dd2,data2,sl2⟩,ho2,hc2,n2,hd2⟩:=id hb;simp only at hc hd hc2 hd2;subst hc hd hc2 hd2;have e:vs.toArray++ws.toArray=(vs++ws).toArray:=by simp
  by_cases hw:ws=[]
  . exact concat_meets ⟨_,ho,rfl⟩ ⟨_,ho2,rfl⟩ noFill_tuple_add seq_tuple_add PySem.F.slot_tuple_add PySem.F.entry_tuple_add (PySem.F.args_tuple_add_2 _ _)
      (tuple_addW1 t b vs.toArray ws.toArray n n2 dd dd2 sl sl2 (by simpa using hv) (by simp[hw])) ⟨ho,ho2,h1 hw⟩
  . refine concat_meets ⟨_,ho,rfl⟩ ⟨_,ho2,rfl⟩ noFill_tuple_add seq_tuple_add PySem.F.slot_tuple_add PySem.F.entry_tuple_add (PySem.F.args_tuple_add_2 _ _)
      (tuple_addW2 t b vs.toArray ws.toArray n n2 dd dd2 sl sl2 (by simpa using hv) (by simpa using hw) (by rw[Zw,Zw]; exact hsz)) ⟨ho,ho2,?_⟩
    rw[e];exact h2 hw
def sIx (n d:Nat):Option Int->Nat
 | none=>d
 | some v=>if v<0 then (v+(n:Int)).toNat else min v.toNat n
theorem sIx_none (n d:Nat):sIx n d none=d:=rfl
theorem sIx_nat (n d k:Nat):sIx n d (some (k:Int))=min k n:=by
 show (if (k:Int)<0 then ((k:Int)+(n:Int)).toNat else min (k:Int).toNat n)=min k n;rw[if_neg (by omega),JI]
theorem xt5 (n d:Nat) (hd:d<=n) (o:Option Int):sIx n d o<=n:=by
 cases o with
 | none=>exact hd
 | some v =>
  show (if v<0 then (v+(n:Int)).toNat else min v.toNat n)<=n;by_cases hv:v<0
  .rw [if_pos hv]; omega
  .rw [if_neg hv]; exact Nat.min_le_right _ _
theorem xml (v:Int) (n d:Nat):(if v<0 then max (v+(n:Int)) 0 else min v (n:Int))=((sIx n d (some v):Nat):Int):=by
 show (if v<0 then max (v+(n:Int)) 0 else min v (n:Int))=(((if v<0 then (v+(n:Int)).toNat else min v.toNat n):Nat):Int)
 by_cases hv:v<0
 .simp only [if_pos hv]; omega
 .simp only [if_neg hv]; omega
theorem xnj (lo hi:Option Int) (n:Nat):Builtin.Slice.sliceAdjust lo hi 1 (n:Int)=(((sIx n 0 lo:Nat):Int),((sIx n n hi:Nat):Int)):=by
 have h1:¬ ((1:Int)<0):=by omega
 unfold Builtin.Slice.sliceAdjust;simp only[h1,if_false];refine Prod.ext ?_ ?_
 .cases lo with
  | none=>rfl
  | some v=>exact xml v n 0
 .cases hi with
  | none=>rfl
  | some v=>exact xml v n n
theorem xnq (i j:Nat):Builtin.Slice.slicePlaces (i:Int) (j:Int) 1=j-i:=by
 unfold Builtin.Slice.slicePlaces;have h1:(1:Int)>0:=by omega
 simp only[h1,if_true,Int.ediv_one];split<;>omega
theorem xhz {v:Value}{o:Option Int}{Q:Option Int->Shared->Prop} (p:IsPart v o) (h:Q o s):wpAny (model prog w) A (Builtin.Slice.slicePartIndex v) Q E s:=by
 cases p with
 | none=>exact slicePart_none h
 | int i t=>exact slicePart_int h
theorem xhb {sl:Addr}{vl vu:Value}{lo hi:Option Int}{n:Nat}{Q:Int × Int × Nat->Shared->Prop} (hs:s.heap.IsSliceOf sl vl vu .none) (pl:IsPart vl lo) (pu:IsPart vu hi)
    (h:Q (((sIx n 0 lo:Nat):Int),1,sIx n n hi-sIx n 0 lo) s):wpAny (model prog w) A (Builtin.Slice.sliceApplied (.ref sl) (pure (n:Int))) Q E s:=by
  obtain⟨os,hos,hcs,hds⟩:=id hs;unfold Builtin.Slice.sliceApplied Builtin.Slice.sliceFields;refine Zc (Zc (Yv hos hds (x:=vl) rfl (Zc (Yv hos hds (x:=vu) rfl (Zc (Yv hos hds (x:=.none) rfl (Zl ?_)))))));refine Zc (slicePart_none ?_);show wpAny _ _ (if ((1:Int) == 0)=true then _ else _) _ _ s;rw[if_neg (by decide)];refine Zc (xhz pl (Zc (xhz pu (Zc (Zl ?_)))));show wpAny _ _ (match Builtin.Slice.sliceAdjust lo hi 1 (n:Int) with|(lo,hi)=>pure (lo,(1:Int),Builtin.Slice.slicePlaces lo hi 1)) _ _ s;rw[xnj lo hi n];show wpAny _ _ (pure (((sIx n 0 lo:Nat):Int),(1:Int),Builtin.Slice.slicePlaces ((sIx n 0 lo:Nat):Int) ((sIx n n hi:Nat):Int) 1)) _ _ s;rw[xnq];exact Zl h
theorem xp7 (xs:Array Value) (i k:Nat):((Z3 k).filterMap fun (m:Nat)=>xs[((i:Int)+(m:Int)*1).toNat]?).toArray=((xs.toList.drop i).take k).toArray:=by
 have e:(fun (m:Nat)=>xs[((i:Int)+(m:Int)*1).toNat]?)=fun m=>xs[i+m]?:=by
  funext m;have:((i:Int)+(m:Int)*1).toNat=i+m:=by omega
  rw[this]
 rw[e];have:=pick_run xs i k;rw[Wr] at this;have e2:((fun x=>xs[x]?)∘fun x=>i+x)=fun m=>xs[i+m]?:=rfl;rw[e2] at this;rw[this]
theorem getItem_tuple_cut {t sl:Addr}{items:Array Value}{vl vu:Value}{lo hi:Option Int}{Q:Value->Shared->Prop} (ht:IsTup s.heap t items) (hs:s.heap.IsSliceOf sl vl vu .none) (pl:IsPart vl lo) (pu:IsPart vu hi)
    (hw:¬ (sIx items.size 0 lo=0/\sIx items.size items.size hi=items.size))
    (h:Q (.ref s.heap.objs.size) { s with heap:=s.heap.push { cls:=.type "tuple",data:=.seq ((items.toList.drop (sIx items.size 0 lo)).take (sIx items.size items.size hi-sIx items.size 0 lo)).toArray } })
    (hsz:items.size<=sizeLine):wpAny (model prog w) A (getItem (.ref t) (.ref sl)) Q E s:=by
  have htake:sizeOk (.seq ((items.toList.drop (sIx items.size 0 lo)).take (sIx items.size items.size hi-sIx items.size 0 lo)).toArray):=by
    show ((items.toList.drop (sIx items.size 0 lo)).take (sIx items.size items.size hi-sIx items.size 0 lo)).toArray.size<=sizeLine;rw[Zw,Jh,JP,JC];omega
  have hj:sIx items.size items.size hi<=items.size:=xt5 _ _ (Zj _) hi;obtain⟨os,hos,hcs,hds⟩:=id hs;have hTs:s.TypeIs (.ref sl) "slice":=⟨os,hos,hcs⟩
  unfold getItem
  try with_reducible refine Jm ?_
  first|refine Zc (Zl ?_)|skip
  refine Zc (wpAny_sequenceKey ht.typeIs (by decide) ?_);refine Zc (YG (name:=Zb "__getitem__") ht.typeIs YM
    (Ye YM ht.typeIs entry_tuple_getitem ?_ (args_tuple_getitem _ _)))
  show wpAny _ _ (Builtin.Tuple.tupleItemsOf (.ref t)>>=_) _ _ s;refine Zc (tupleItemsOf_ ht ?_);refine Zc (Yz hTs ?_);rw[if_pos (by decide)];refine Zc (xhb hs pl pu ?_);have hno:¬ ((((sIx items.size 0 lo:Nat):Int) == 0&&(1:Int) == 1&&(sIx items.size items.size hi-sIx items.size 0 lo) == items.size)=true):=by
    intro q;rw[Z4,Z4] at q;have q1:((sIx items.size 0 lo:Nat):Int)=0:=Q1 q.1.1;have q2:sIx items.size items.size hi-sIx items.size 0 lo=items.size:=Q1 q.2;exact hw ⟨by omega,by omega⟩
  show wpAny _ _ (if (((sIx items.size 0 lo:Nat):Int) == 0&&(1:Int) == 1&&(sIx items.size items.size hi-sIx items.size 0 lo) == items.size)=true then _ else _) _ _ s;rw[if_neg hno,xp7]
  first
    | exact Zc (m:=Builtin.Tuple.tupleExact _) (Yq (Zl ⟨_,rfl,Zl h⟩) htake)
    | exact Zc (m:=Builtin.Tuple.tupleExact _) (Yq (Zc (Zl (Zl ⟨_,rfl,Zl h⟩))) htake)
    | exact Zc (Zc (m:=Builtin.Tuple.tupleExact _) (Yq (Zl (Zl ⟨_,rfl,Zl h⟩)) htake))
    | exact Zc (Zc (m:=Builtin.Tuple.tupleExact _) (Yq (Zl ⟨_,rfl,Zl h⟩) htake))
end
end HT
namespace L2
open PySem PySem.Spec PyProof.Rows
variable {q0:Bool}
abbrev TO:=St->Hp->(Option Int->Hp->Prop)->Prop
def PO (X:Cx) (e:Option Expr) (t:TO):Prop :=
 ∀(pins:List (Addr × Obj)) (s:Shared) (Z:St) (H:Hp) (Q:Option Int->Hp->Prop),Inv X pins Z H s->t Z H Q ->
  wpAny (model X.prog X.w) X.A (evalPart e X.env) (fun u s'=>∃ o H',Inv X pins Z H' s'/\IsPart u o/\Q o H') X.xe s
def xsr:TO:=fun _ H Q=>Q none H
def xwj (t:TE):TO:=fun Z H Q=>t Z H fun x H1=>∃ i,x=.int i/\Q (some i) H1
section
variable {X:Cx}{e:Expr}{te:TE}{lo hi:Option Expr}{tl th:TO}{pos p2:Pos}
theorem xd4:PO X none xsr:=by
 intro pins s Z H Q I h;rw[evalPart_none];exact Zl ⟨none,H,I,.none,h⟩
theorem xci (h:PE X e te):PO X (some e) (xwj te):=by
 intro pins s Z H Q I hw;rw[evalPart_some];refine thn (h pins s Z H _ I hw) fun u s1 ⟨x,H1,I1,r1,q1⟩=>?_;obtain⟨i,rfl,q⟩:=q1;obtain⟨t,rfl⟩:=r1;exact⟨some i,H1,I1,.int i t,q⟩
def SlR (X:Cx) (r:V->Option Int->Option Int->Hp->VK->Prop):Prop :=
 ∀(pins:List (Addr × Obj)) (s:Shared) (Z:St) (H:Hp) (x:V) (v vl vu:Value) (lo hi:Option Int) (sl:Addr) (Q:VK),Inv X pins Z H s->RelV x v->s.heap.IsSliceOf sl vl vu .none->IsPart vl lo->IsPart vu hi->r x lo hi H Q ->
  ∃ T id,typeLookup (.type T) "__getitem__"=pure (some (.builtin id))/\s.TypeIs v T/\wpAny (model X.prog X.w) X.A (getItem v (.ref sl)) (EP X pins Z Q) X.xe s
def tSl (r:V->Option Int->Option Int->Hp->VK->Prop) (te:TE) (tl th:TO):TE:=fun Z H Q=>te Z H fun x H1=>tl Z H1 fun l H2=>th Z H2 fun u H3=>r x l u H3 Q
theorem xct {r:V->Option Int->Option Int->Hp->VK->Prop} (hr:SlR X r) (he:PE X e te) (hl:PO X lo tl) (hu:PO X hi th):PE X (.Subscript e (.Slice lo hi none p2) pos) (tSl r te tl th):=by
 intro pins s Z H Q I h;refine Subscript_ (thn (he pins s Z H _ I h) fun v s1 ⟨x,H1,I1,r1,q1⟩=>?_);refine wpAny_Slice (thn (hl pins s1 Z H1 _ I1 q1) fun vl s2 ⟨l,H2,I2,pl,q2⟩=>thn (hu pins s2 Z H2 _ I2 q2) fun vu s3 ⟨u,H3,I3,pu,q3⟩=>?_);rw[evalPart_none];refine Zl ?_;have I4:Inv X pins Z H3 { s3 with heap:=s3.heap.push { cls:=.type "slice",data:=.fields #[vl,vu,.none] } }:=I3.kept (t':=s3.toks) fun b ob q=>Zh _ q;obtain⟨T,id,hT,ht,hg⟩:=hr pins { s3 with heap:=s3.heap.push { cls:=.type "slice",data:=.fields #[vl,vu,.none] } } Z H3 x v vl vu l u s3.heap.objs.size Q I4 r1 (Heap.IsSliceOf.new ..) pl pu q3;show wpAny (model X.prog X.w) X.A (subscriptTail e (.Slice lo hi none p2) v (.ref s3.heap.objs.size)) (EP X pins Z Q) X.xe { s3 with heap:=s3.heap.push { cls:=.type "slice",data:=.fields #[vl,vu,.none] } };exact tail_any (ops:=[.ref s3.heap.objs.size,v]) ht hT hg (by with_unfolding_all rfl)
def cutV (xs:List V) (lo hi:Option Int):List V:=(xs.drop (HT.sIx xs.length 0 lo)).take (HT.sIx xs.length xs.length hi-HT.sIx xs.length 0 lo)
theorem xgu (xs:List V) (lo hi:Option Int):(cutV xs lo hi).length<=xs.length:=by
 unfold cutV;rw[Jh,JP];omega
def rSlT (K:Zd):V->Option Int->Option Int->Hp->VK->Prop:=fun x lo hi H Q=>∃ a xs,x=.ref a/\SqT K H a xs /\
 ¬ (HT.sIx xs.length 0 lo=0/\HT.sIx xs.length xs.length hi=xs.length)/\∀ p,H p=none->Q (.ref p) (upd H p (.tup (cutV xs lo hi)))
theorem xt3:SlR X (rSlT X.K):=by
 intro pins s Z H x v vl vu lo hi sl Q I rx hs pl pu h;obtain⟨a,xs,rfl,hx,hw,q⟩:=h;cases rx;obtain⟨its,r,ht,hz⟩:=I.tuple hx;have hlen:its.toArray.size=xs.length:=by rw[Zw]; exact r.length.symm
 refine⟨"tuple",_,YM.lookup,ht.typeIs,?_⟩;refine HT.getItem_tuple_cut ht hs pl pu (by rw[hlen]; exact hw) ?_ (by rw[hlen]; exact hz);rw[hlen];refine⟨.ref s.heap.objs.size,_,I.laid (t':=s.toks) (o:=.tup (cutV xs lo hi)) (fun b ob q=>Zh _ q) (Zj _) ?_,rfl,q _ (I.hok.fresh (Zj _))⟩;exact⟨Zy (xgu xs lo hi) hz,_,(r.drop (HT.sIx xs.length 0 lo)).take (HT.sIx xs.length xs.length hi-HT.sIx xs.length 0 lo),IsTup.new _ _⟩
inductive xj3 (K:Zd) (x:V) (y:V) (H:Hp) (Q:VK):Prop
 | mk (a b xs ys) (e_:x=.ref a) (r_:y=.ref b/\SqT K H a xs/\SqT K H b ys/\xs≠[]/\xs.length+ys.length<=sizeLine/\(ys=[]->Q (.ref a) H)/\(ys≠[]->∀ p,H p=none->Q (.ref p) (upd H p (.tup (xs++ys)))))
theorem Vals.nil_iff {xs:List V}{us:List Value} (r:Vals xs us):us=[]↔xs=[]:=by
 cases r with
 | nil=>simp
 | cons _ _=>simp
theorem xil:OpR X (binaryOp .Add) (xj3 X.K):=by
 intro pins s Z H x y v u Q I rx ry h;obtain⟨a,b,xs,ys,rfl,rfl,ha,hb,hx,hz,q1,q2⟩:=h;cases rx;cases ry;obtain⟨its,r1,p1,_⟩:=I.tuple ha;obtain⟨its2,r2,p2,_⟩:=I.tuple hb;refine HT.cat_tup p1 p2 (fun z=>hx (r1.nil_iff.mp z)) (fun z=>⟨.ref a,H,I,rfl,q1 (r2.nil_iff.mp z)⟩) (fun z=>?_) (by rw[<- r1.length,<- r2.length]; exact hz);refine⟨.ref s.heap.objs.size,_,I.laid (t':=s.toks) (o:=.tup (xs++ys)) (fun b ob q=>Zh _ q) (Zj _) ?_,rfl,q2 (fun w=>z (r2.nil_iff.mpr w)) _ (I.hok.fresh (Zj _))⟩;exact⟨by rw[Zo]; exact hz,_,r1.append r2,IsTup.new _ _⟩
end
def ixN (n:Nat) (i:Int):Option Nat:=if 0<=i then (if i<n then some i.toNat else none) else if -(n:Int)<=i then some (i+n).toNat else none
def atI {α:Type} (xs:List α) (i:Int):Option α:=(ixN xs.length i).bind fun j=>xs[j]?
theorem xmt {n:Nat}{i:Int}{j:Nat} (h:ixN n i=some j):seqIndex? i n=some j/\j<n/\-(n:Int)<=i/\i<n:=by
 unfold ixN at h;by_cases h0:0<=i
 .rw [if_pos h0] at h;by_cases h1:i<n
  .rw [if_pos h1] at h;have e:i.toNat=j:=Jw.inj h;exact⟨by rw[seqIndex_of h0 h1,e],by omega,by omega,h1⟩
  .rw [if_neg h1] at h; cases h
 .rw [if_neg h0] at h;by_cases h1:-(n:Int)<=i
  .rw [if_pos h1] at h;have e:(i+n).toNat=j:=Jw.inj h;exact⟨by rw[seqIndex_neg (by omega) h1,e],by omega,h1,by omega⟩
  .rw [if_neg h1] at h; cases h
theorem xip {α:Type}{xs:List α}{i:Int}{v:α} (h:atI xs i=some v):∃ j,seqIndex? i xs.length=some j/\xs[j]?=some v/\j<xs.length/\-(xs.length:Int)<=i/\i<xs.length:=by
 unfold atI at h;cases e:ixN xs.length i with
 | none=>rw[e] at h; cases h
 | some j =>
  rw[e] at h;obtain⟨h1,h2,h3,h4⟩:=xmt e;exact⟨j,h1,h,h2,h3,h4⟩
theorem xb9 {α:Type}{xs:List α}{j:Nat}{v:α} (h:xs[j]?=some v):atI xs (j:Int)=some v:=by
 have hj:j<xs.length:=(Zi.mp h).1;have e:ixN xs.length (j:Int)=some j:=by
  unfold ixN;rw[if_pos (by omega),if_pos (by omega)]; simp
 unfold atI; rw[e]; exact h
def xss (b:Expr):Prop:=∀ o i,subscripted b false o i=operate [o,i] (getItem o i)
def IxR (X:Cx) (r:R2):Prop :=
 ∀(value slice:Expr) (pins:List (Addr × Obj)) (s:Shared) (Z:St) (H:Hp) (x y:V) (v u:Value) (Q:VK),Inv X pins Z H s->RelV x v->RelV y u->r x y H Q ->
  subscripted slice false v u=operate [v,u] (getItem v u)->wpAny (model X.prog X.w) X.A (subscriptTail value slice v u) (EP X pins Z Q) X.xe s
def MtR (X:Cx) (id:String) (r:V->List V->Hp->VK->Prop):Prop :=
 ∀(pins:List (Addr × Obj)) (s:Shared) (Z:St) (H:Hp) (x:V) (xs:List V) (v:Value) (us:List Value) (Q:VK),Inv X pins Z H s->RelV x v->Vals xs us->r x xs H Q ->
  wpAny (model X.prog X.w) X.A (call (.builtin id) (v::us)) (EP X pins Z Q) X.xe s
section
variable {X:Cx}{a b:Expr}{ta tb:TE}{pos:Pos}
theorem xax {r:R2} (hr:IxR X r) (ha:PE X a ta) (hb:PE X b tb) (hs:xss b):PE X (.Subscript a b pos) (tOp r ta tb):=by
 intro pins s Z H Q I h;exact Subscript_ (binT ha hb I h fun v u s2 x y H2 I2 rx ry q=>hr a b pins s2 Z H2 x y v u Q I2 rx ry q (hs _ _))
inductive rIxL (K:Zd) (x:V) (y:V) (H:Hp) (Q:VK):Prop
 | mk (p xs i v) (e_:x=.ref p) (r_:y=.int i/\SqL K H p xs/\atI xs i=some v/\Q v H)
inductive rIxT (K:Zd) (x:V) (y:V) (H:Hp) (Q:VK):Prop
 | mk (p xs i v) (e_:x=.ref p) (r_:y=.int i/\SqT K H p xs/\atI xs i=some v/\Q v H)
inductive rIxS (x:V) (y:V) (H:Hp) (Q:VK):Prop
 | mk (z i c) (e_:x=.str z) (r_:y=.int i/\z.length<=sizeLine/\atI z.cps.toList i=some c/\Q (.str ⟨#[c]⟩) H)
theorem xbu:IxR X (rIxL X.K):=by
 intro value slice pins s Z H x y v u Q I rx ry h hs;obtain⟨p,xs,i,z,rfl,rfl,hq,he,q⟩:=h;cases rx;obtain⟨t,rfl⟩:=ry;obtain⟨its,r,pl,hz⟩:=I.list hq;obtain⟨j,h1,h2,h3,h4,h5⟩:=xip he;obtain⟨w,ew,rw'⟩:=r.get h2;have hl:=r.length;have hn:=xe1;have fin:EP X pins Z Q w s:=⟨z,H,I,rw',q⟩
 by_cases h0:0<=i
 .have hj:i.toNat=j:=by
   rw[seqIndex_of h0 h5] at h1;exact Jw.inj h1
  exact item_listR pl.isList h0 (by omega) (by rw[hj]; simpa using ew) fin hs
 .have hj:(i+(its.toArray.size:Int)).toNat=j:=by
   rw[seqIndex_neg (by omega) h4] at h1;rw[Zw,<- hl];exact Jw.inj h1
  exact subscriptTail_builtinR (x:=w) pl.isList.typeIs slot_list_getitem.lookup
   (wpAny_getItem_list_neg (Q:=fun r s'=>r=w/\EP X pins Z Q r s') pl.isList (by omega) (by rw[Zw]<;>omega) (by omega) (by rw[hj]; simpa using ew) ⟨rfl,fin⟩) hs
theorem xbj:IxR X (rIxT X.K):=by
 intro value slice pins s Z H x y v u Q I rx ry h hs;obtain⟨p,xs,i,z,rfl,rfl,hq,he,q⟩:=h;cases rx;obtain⟨t,rfl⟩:=ry;obtain⟨its,r,pl,hz⟩:=I.tuple hq;obtain⟨j,h1,h2,h3,h4,h5⟩:=xip he;obtain⟨w,ew,rw'⟩:=r.get h2;have hl:=r.length;have hn:=xe1;have fin:EP X pins Z Q w s:=⟨z,H,I,rw',q⟩
 exact subscriptTail_builtinR (x:=w) pl.typeIs slot_tuple_getitem.lookup
  (getItem_tuple (j:=j) (Q:=fun r s'=>r=w/\EP X pins Z Q r s') pl (by omega) (by omega) (by rw[Zw,<- hl]; exact h1) (by simpa using ew) ⟨rfl,fin⟩) hs
theorem xum:IxR X rIxS:=by
 intro value slice pins s Z H x y v u Q I rx ry h hs;obtain⟨z,i,c,rfl,rfl,hz,he,q⟩:=h;obtain⟨t,rfl⟩:=rx;obtain⟨t',rfl⟩:=ry;obtain⟨j,h1,h2,h3,h4,h5⟩:=xip he;have hl:z.cps.toList.length=z.length:=by simp[YT]
 rw[hl] at h1 h4 h5;have hn:=xe1;exact tail_any (typeIs_str s z t) slot_str_getitem.lookup (getItem_str (c:=c) (by
  have e1:decide (i < -(2 ^ 63:Int))=false:=decide_eq_false (by omega);have e2:decide (i>=2 ^ 63)=false:=decide_eq_false (by omega);rw[e1,e2,Wn]) (by rw[h1]; simpa using h2) ⟨.str ⟨#[c]⟩,H,I.tok _,⟨_,rfl⟩,q⟩) hs
theorem xng (its:List Value) (n j:Nat) (u:Value):J7 (·.setIfInBounds j u) { cls:=.type "list",data:=.seq its.toArray n }={ cls:=.type "list",data:=.seq (its.set j u).toArray n }:=by
 simp[J7]
theorem Inv.lst {pins:List (Addr × Obj)}{Z:St}{H:Hp}{s:Shared}{p:Addr}{xs:List V} (I:Inv X pins Z H s) (h:H p=some (.lst xs)) :
    ∃(its:List Value) (n:Nat),Vals xs its/\s.heap.get? p=some { cls:=.type "list",data:=.seq its.toArray n }/\xs.length<=sizeLine:=by
  obtain⟨z,its,n,r,e⟩:=I.hok p _ h;exact⟨its,n,r,e,z⟩
theorem Inv.lstUpd {pins:List (Addr × Obj)}{Z:St}{H:Hp}{s:Shared}{p:Addr}{xs ys:List V}{its its':List Value}{n n':Nat}{f:Obj->Obj} (I:Inv X pins Z H s) (h:H p=some (.lst xs))
    (ho:s.heap.get? p=some { cls:=.type "list",data:=.seq its.toArray n }) (hf:f { cls:=.type "list",data:=.seq its.toArray n }={ cls:=.type "list",data:=.seq its'.toArray n' }) (r:Vals ys its') (hz:ys.length<=sizeLine) (t:Nat) :
    Inv X pins Z (upd H p (.lst ys)) { s with heap:=s.heap.update p f,toks:=t }:=by
  have e:(s.heap.update p f).get? p=some { cls:=.type "list",data:=.seq its'.toArray n' }:=by
    rw[ZM f ho (by rw[hf]<;>rfl),hf]
  refine I.write (x:=p) (e:=p) (by rw[h]; trivial) (.inl rfl) (fun b u hb q=>(Ja _ _ (ZI hb)).trans q) ⟨_,e⟩ ?_;exact⟨hz,its',n',r,e⟩
def xv9:V->V->V->Hp->(Hp->Prop)->Prop:=fun o i v H Q=>∃ p xs k j,o=.ref p/\i=.int k/\H p=some (.lst xs)/\ixN xs.length k=some j/\Q (upd H p (.lst (xs.set j v)))
theorem xkb:PSet X xv9:=by
 intro pins s Z H o i v ov iv u Q I ro ri rv h;obtain⟨p,xs,k,j,rfl,rfl,hp,hj,q⟩:=h;cases ro;obtain⟨t,rfl⟩:=ri;obtain⟨its,n,r,ho,hz⟩:=I.lst hp;obtain⟨h1,h2,h3,h4⟩:=xmt hj;have hl:=r.length;have hn:=xe1;have I':Inv X pins Z (upd H p (.lst (xs.set j v))) { s with heap:=s.heap.update p (J7 (·.setIfInBounds j u)) } :=
  I.lstUpd hp ho (xng its n j u) (r.set rv j) (by rw[JV]; exact hz) s.toks
 by_cases h0:0<=k
 .have hk:k.toNat=j:=by
   rw[seqIndex_of h0 h4] at h1;exact Jw.inj h1
  exact PySem.W.ki_setAt ho h0 (by omega) (by rw[Zw,<- hl]; exact h4) (by rw[hk]; exact⟨_,I',q⟩)
 .have hk:(k+(its.toArray.size:Int)).toNat=j:=by
   rw[seqIndex_neg (by omega) h3] at h1;rw[Zw,<- hl];exact Jw.inj h1
  exact PySem.W.ki_setBack ho (by omega) (by rw[Zw,<- hl]; exact h3) (by omega) (by rw[hk]; exact⟨_,I',q⟩)
theorem xkm (lo hi:Option Int) (n:Nat):(sliceBounds lo hi none n).1=((HT.sIx n 0 lo:Nat):Int)/\(sliceBounds lo hi none n).2.1=((HT.sIx n n hi:Nat):Int)/\(sliceBounds lo hi none n).2.2=1:=by
 refine⟨?_,?_,rfl⟩
 .cases lo with
  | none=>simp[sliceBounds,HT.sIx]
  | some i =>
   simp only[sliceBounds,HT.sIx,Option.getD_none,show (1:Int)>0 by decide,if_true];by_cases h:i<0
   .simp only [h,if_true]<;>omega
   .simp only [h,if_false]<;>omega
 .cases hi with
  | none=>simp[sliceBounds,HT.sIx]
  | some i =>
   simp only[sliceBounds,HT.sIx,Option.getD_none,show (1:Int)>0 by decide,if_true];by_cases h:i<0
   .simp only [h,if_true]<;>omega
   .simp only [h,if_false]<;>omega
theorem xjv (its:List Value) (lo hi:Option Int):slicePick its.toArray lo hi none=((its.drop (HT.sIx its.length 0 lo)).take (HT.sIx its.length its.length hi-HT.sIx its.length 0 lo)).toArray:=by
 obtain⟨h1,h2,h3⟩:=xkm lo hi its.toArray.size;unfold slicePick;rw[h1,h2,h3];simp only[sliceRange_one,pick_run,Zw]<;>rfl
def rSlL (K:Zd):V->Option Int->Option Int->Hp->VK->Prop:=fun x lo hi H Q=>∃ a xs,x=.ref a/\SqL K H a xs/\∀ p,H p=none->Q (.ref p) (upd H p (.lst (cutV xs lo hi)))
theorem xf8:SlR X (rSlL X.K):=by
 intro pins s Z H x v vl vu lo hi sl Q I rx hs pl pu h;obtain⟨a,xs,rfl,hx,q⟩:=h;cases rx;obtain⟨its,r,ht,hz⟩:=I.list hx;have hlen:=r.length;refine⟨"list",_,slot_list_getitem.lookup,ht.isList.typeIs,?_⟩;refine wpAny_getItem_list_slice ht.isList hs pl pu .none (by simp) ?_ (by rw[Zw]<;>omega);rw[xjv,<- hlen];refine⟨.ref s.heap.objs.size,_,I.laid (t':=s.toks) (o:=.lst (cutV xs lo hi)) (fun b ob q=>Zh _ q) (Zj _) ?_,rfl,q _ (I.hok.fresh (Zj _))⟩;exact⟨Zy (xgu xs lo hi) hz,_,0,(r.drop (HT.sIx xs.length 0 lo)).take (HT.sIx xs.length xs.length hi-HT.sIx xs.length 0 lo),Z5 _ rfl⟩
def xeo:V->Bool
 | .non=>true
 | .bl _=>true
 | .int _=>true
 | .str _=>true
 | _=>false
def eqV:V->V->Bool
 | .non,.non=>true
 | .bl a,.bl b=>a == b
 | .bl a,.int b=>(if a then 1 else 0) == b
 | .int a,.bl b=>a == (if b then 1 else 0)
 | .int a,.int b=>a == b
 | .str a,.str b=>a == b
 | _,_=>false
theorem xun {A:Around}{s:Shared}{y x:V}{u v:Value} (ry:RelV y u) (rx:RelV x v) (fy:xeo y=true) (fx:xeo x=true):Zz A s u v (eqV y x):=by
 cases y with
 | non =>
  cases ry;cases x with
  | non=>cases rx; exact Zz.same _
  | bl b=>cases rx; exact Zz.none_bool b
  | int b=>obtain⟨t,rfl⟩:=rx; exact Zz.none_int b t
  | str b=>obtain⟨t,rfl⟩:=rx; exact Zz.none_str b t
  | _=>exact absurd (show false=true from fx) Z7
 | bl a =>
  cases ry;cases x with
  | non=>cases rx; exact Zz.bool_none a
  | bl b=>cases rx; exact Zz.bool_bool a b
  | int b=>obtain⟨t,rfl⟩:=rx; exact Zz.bool_int a b t
  | str b=>obtain⟨t,rfl⟩:=rx; exact Zz.bool_str a b t
  | _=>exact absurd (show false=true from fx) Z7
 | int a =>
  obtain⟨t',rfl⟩:=ry;cases x with
  | non=>cases rx; exact Zz.int_none a t'
  | bl b=>cases rx; exact Zz.int_bool a t' b
  | int b=>obtain⟨t,rfl⟩:=rx; exact Zz.int_int a t' b t
  | str b=>obtain⟨t,rfl⟩:=rx; exact Zz.int_str a t' b t
  | _=>exact absurd (show false=true from fx) Z7
 | str a =>
  obtain⟨t',rfl⟩:=ry;cases x with
  | non=>cases rx; exact Zz.str_none a t'
  | bl b=>cases rx; exact Zz.str_bool a t' b
  | int b=>obtain⟨t,rfl⟩:=rx; exact Zz.str_int a t' b t
  | str b=>obtain⟨t,rfl⟩:=rx; exact Zz.str_str a t' b t
  | _=>exact absurd (show false=true from fx) Z7
 | _=>exact absurd (show false=true from fy) Z7
def eqU (x:V) (u:Value):Bool:=match u with
 | .none=>eqV .non x
 | .bool b=>eqV (.bl b) x
 | .int i _=>eqV (.int i) x
 | .str z _=>eqV (.str z) x
 | _=>false
theorem xoo {x y:V}{u:Value} (r:RelV y u) (f:xeo y=true):eqU x u=eqV y x:=by
 cases y with
 | non=>cases r; rfl
 | bl b=>cases r; rfl
 | int i=>obtain⟨t,rfl⟩:=r; rfl
 | str z=>obtain⟨t,rfl⟩:=r; rfl
 | _=>exact absurd (show false=true from f) Z7
theorem xii {x:V}:∀{xs:List V}{us:List Value},Vals xs us->xs.all xeo=true->us.any (eqU x)=xs.any fun y=>eqV y x
 | _,_,.nil,_=>rfl
 | y::xs,u::us,.cons r t,f=>by
  rw[Qz,Z4] at f;rw[Qy,Qy,xoo r f.1,xii t f.2]
theorem xg4 {A:Around}{s:Shared}{x:V}{v:Value} (rx:RelV x v) (fx:xeo x=true):∀{xs:List V}{us:List Value},Vals xs us->xs.all xeo=true->∀ u∈us,Zz A s u v (eqU x u)
 | _,_,.nil,_=>fun u hu=>by cases hu
 | y::xs,u::us,.cons r t,f=>fun u' hu=>by
  rw[Qz,Z4] at f;rcases Z1.mp hu with rfl|hu
  .rw [xoo r f.1]; exact xun r rx f.1 fx
  .exact xg4 rx fx t f.2 u' hu
def inV (x:V) (xs:List V):Bool:=xs.any fun y=>eqV y x
inductive rIn (K:Zd) (neg:Bool) (x:V) (y:V) (H:Hp) (Q:VK):Prop
 | mk (p xs) (e_:y=.ref p) (r_:(SqL K H p xs\/SqT K H p xs)/\xeo x=true/\xs.all xeo=true/\Q (.bl (if neg then !inV x xs else inV x xs)) H)
theorem xfv:OpR X (compareOp .In) (rIn X.K false):=by
 intro pins s Z H x y v u Q I rx ry h;obtain⟨p,xs,rfl,hq,fx,fs,q⟩:=h;cases ry;rcases hq with hq|hq
 .obtain ⟨its,r,pl,hz⟩:=I.list hq;refine SeqAt.in_listAt (eqU x) pl.isList (fun w hw=>xg4 rx fx r fs w (by simpa using hw)) ⟨.bl _,H,I,rfl,?_⟩;rw[show its.toArray.any (eqU x)=its.any (eqU x) by simp,xii r fs];exact q
 .obtain ⟨its,r,pl,hz⟩:=I.tuple hq;refine SeqAt.in_tupleAt (eqU x) pl (fun w hw=>xg4 rx fx r fs w (by simpa using hw)) ⟨.bl _,H,I,rfl,?_⟩;rw[show its.toArray.any (eqU x)=its.any (eqU x) by simp,xii r fs];exact q
theorem xbd:xby X (.builtin "len") (fun xs H Q=>∃ p ys,xs=[.ref p]/\(SqL X.K H p ys\/SqT X.K H p ys)/\Q (.int ys.length) H):=by
 intro pins s Z H xs us Q I r h;obtain⟨p,ys,rfl,hq,q⟩:=h;obtain⟨u,rfl,rx⟩:=xb6 r;cases rx;have hn:=xe1;rcases hq with hq|hq
 .obtain ⟨its,r',pl,hz⟩:=I.list hq;have hlen:=r'.length;exact Calls.call_len_list pl.isList (by simp only[Zw]<;>omega) ⟨.int ys.length,H,I.tok _,⟨s.toks+1,by rw[Zw,hlen]⟩,q⟩
 .obtain ⟨its,r',pl,hz⟩:=I.tuple hq;have hlen:=r'.length;exact len_tuple pl (by simp only[Zw]<;>omega) ⟨.int ys.length,H,I.tok _,⟨s.toks+1,by rw[Zw,hlen]⟩,q⟩
theorem xbc:xby X (.builtin "len") (fun xs H Q=>∃ z,xs=[.str z]/\z.length<=sizeLine/\Q (.int z.length) H):=by
 intro pins s Z H xs us Q I r h;obtain⟨z,rfl,hz,q⟩:=h;obtain⟨u,rfl,t,rfl⟩:=xb6 r;have hn:=xe1;exact len_str (by omega) ⟨.int z.length,H,I.tok _,⟨_,rfl⟩,q⟩
theorem xfq:xby X (.type "list") (fun xs H Q=>∃ p ys,xs=[.ref p]/\(SqL X.K H p ys\/SqT X.K H p ys)/\∀ l,H l=none->Q (.ref l) (upd H l (.lst ys))):=by
  intro pins s Z H xs us Q I r h;obtain⟨p,ys,rfl,hq,q⟩:=h;obtain⟨u,rfl,rx⟩:=xb6 r;cases rx;have fin:∀(its:List Value),Vals ys its->ys.length<=sizeLine->∀(h':Heap) (c':Nat),(∀ b o',s.heap.get? b=some o'->h'.get? b=some o') ->
      h'.get? s.heap.objs.size=some { cls:=.type "list",dict:=none,data:=.seq its.toArray c',slots:=#[] }->EP X pins Z Q (.ref s.heap.objs.size) { s with heap:=h' }:=fun its r' hz h' c' kp e =>
    ⟨.ref s.heap.objs.size,_,I.laid (t':=s.toks) kp (Zj _) (show xam X.prog X.w _ h' _ (.lst ys) from ⟨hz,its,c',r',e⟩),rfl,q _ (I.hok.fresh (Zj _))⟩
  rcases hq with hq|hq
  . obtain⟨its,r',pl,hz⟩:=I.list hq
    have hlen:=r'.length;obtain⟨o,ho,hc,n,hd⟩:=pl.isList;exact call_list_seq p (.inl rfl) ho hc hd (fun h' c' kp e=>fin its r' hz h' c' kp e) (by simp only[Zw]<;>omega)
  . obtain⟨its,r',pl,hz⟩:=I.tuple hq
    have hlen:=r'.length;obtain⟨o,ho,hc,n,hd⟩:=pl;exact call_list_seq p (.inr rfl) ho hc hd (fun h' c' kp e=>fin its r' hz h' c' kp e) (by simp only[Zw]<;>omega)
theorem xjy:xby X (.type "tuple") (fun xs H Q=>∃ p ys,xs=[.ref p]/\((SqL X.K H p ys/\∀ l,H l=none->Q (.ref l) (upd H l (.tup ys)))\/(SqT X.K H p ys/\Q (.ref p) H))):=by
 intro pins s Z H xs us Q I r h;obtain⟨p,ys,rfl,h⟩:=h;obtain⟨u,rfl,rx⟩:=xb6 r;cases rx;rcases h with⟨hq,q⟩|⟨hq,q⟩
 .obtain ⟨its,r',pl,hz⟩:=I.list hq;have hlen:=r'.length;refine call_tuple_list pl.isList (fun h' kp=>?_) (by simp only[Zw]<;>omega);have I1:Inv X pins Z H { s with heap:=h' }:=I.kept (t':=s.toks) kp;have I2:Inv X pins Z (upd H h'.objs.size (.tup ys)) { s with heap:=h'.push { cls:=.type "tuple",data:=.seq its.toArray } } :=
   I1.laid (t':=s.toks) (fun b o e=>Zh _ e) (Zj _) (show xam X.prog X.w _ _ _ (.tup ys) from ⟨hz,its,r',IsTup.new _ _⟩)
  exact⟨.ref h'.objs.size,_,I2,rfl,q _ (I1.hok.fresh (Zj _))⟩
 .obtain ⟨its,r',pl,hz⟩:=I.tuple hq;exact call_tuple_same pl ⟨.ref p,H,I,rfl,q⟩
def tyV (K:Zd) (T:String) (x:V) (H:Hp):Prop:=match x with
  | .str _=>T="str"
  | .int _=>T="int"
  | .ref p=>(T="list"/\∃ xs,SqL K H p xs)\/(T="tuple"/\∃ o,K.lookup p=some o/\o.cls=.type "tuple"/\o.dict=none) \/
      (T="dict"/\((∃ kvs,H p=some (.dK kvs))\/∃ kvs,H p=some (.dT kvs)))\/(T="set"/\∃ S n,H p=some (.set S n))
  | _=>False
theorem xuf {pins:List (Addr × Obj)}{Z:St}{H:Hp}{s:Shared}{T:String}{x:V}{v:Value} (I:Inv X pins Z H s) (r:RelV x v) (ty:tyV X.K T x H) :
    s.TypeIs v T/\∀ a,v=.ref a->∃ ob,s.heap.get? a=some ob/\ob.dict=none:=by
  cases x with
  | str z =>
    obtain⟨t,rfl⟩:=r;cases (show T="str" from ty);exact⟨typeIs_str s z t,fun _ e=>nomatch e⟩
  | int i =>
    obtain⟨t,rfl⟩:=r;cases (show T="int" from ty);exact⟨typeIs_int s i t,fun _ e=>nomatch e⟩
  | ref p =>
    cases r;rcases ty with⟨rfl,xs,hq⟩|⟨rfl,o,hk,hc,hd⟩|⟨rfl,hk⟩|⟨rfl,S,n,hk⟩
    . obtain⟨its,_,pl,_⟩:=I.list hq
      refine⟨pl.isList.typeIs,fun a e=>?_⟩;cases e;obtain⟨o,n,e,c,hd,_⟩:=pl;exact⟨o,e,hd⟩
    . refine⟨⟨o,I.kIn p o hk,hc⟩,fun a e=>?_⟩
      cases e;exact⟨o,I.kIn _ o hk,hd⟩
    . have z:∃ o,s.heap.get? p=some o/\o.ExactDict:=by
        rcases hk with⟨kvs,hk⟩|⟨kvs,hk⟩
        . obtain⟨_,_,_,_,o,_,_,e,ex,_⟩:=I.hok p _ hk
          exact⟨o,e,ex⟩
        . obtain⟨_,_,_,_,o,_,_,e,ex,_⟩:=I.hok p _ hk
          exact⟨o,e,ex⟩
      obtain⟨o,e,ex⟩:=z;refine⟨⟨o,e,ex.1⟩,fun a e2=>?_⟩;cases e2;exact⟨o,e,ex.2.1⟩
    . obtain⟨o,_,_,_,e,ex,_⟩:=I.hok p _ hk
      refine⟨⟨o,e,ex.1⟩,fun a e2=>?_⟩;cases e2;exact⟨o,e,ex.2.1⟩
  | _=>exact J8 ty
def tBM (K:Zd) (T:String) (r:V->List V->Hp->VK->Prop) (to:TE) (t:TA):TE:=fun Z H Q=>to Z H fun x H1=>tyV K T x H1/\t Z H1 fun xs H2=>r x xs H2 Q
variable {o e:Expr}{es:List Expr}{to:TE}{t:TA}{name:Str}{apos cpos:Pos}{T id:String}{r:V->List V->Hp->VK->Prop}
theorem xcl (pa:PlainAttrs T) (slot:Slot T name id) (hty:typeOf (.builtin id)=pure (.type "method_descriptor")) (hm:MtR X id r) (ho:PE X o to) (ha:PA X (e::es) t)
    (hbase:attributeBase o name X.env (eval o X.env)=eval o X.env:=by rfl)
    (hfew:((backTo cpos (starEach (e::es) X.env)).all (fun x=>!x.1)&&(backToKw cpos (keywordEach [] X.env)).all (fun x=>x.1.isSome)
      && decide ((e::es).length+([]:List Keyword).length+(if ([]:List Keyword).isEmpty then 0 else 1)<30))=true:=by rfl)
    (hline:(apos.endLine == cpos.line)=true:=by rfl) (hs:starEach (e::es) X.env=(false,eval e X.env)::starEach es X.env:=by rfl) (hplain:(backTo cpos (starEach es X.env)).any (·.1)=false:=by rfl) :
    PE X (.Call (.Attribute o name apos) (e::es) [] cpos) (tBM X.K T r to t):=by
  intro pins s Z H Q I h;refine wpAny_Call_method_late hbase hfew hline rfl (thn (ho pins s Z H _ I h) fun v s1 ⟨x,H1,I1,r1,ty,q1⟩=>?_);obtain⟨h1,h2⟩:=xuf I1 r1 ty;refine⟨T,id,pa,slot,hty,h1,h2,?_⟩;have hA:=ha cpos pins s1 Z H1 _ I1 q1;rw[hs] at hA ⊢;refine QI (by show (false||(backTo cpos (starEach es X.env)).any (·.1))=false; rw[hplain]<;>rfl) (Calls.evalArgs_plain ?_);exact thn hA fun us s2 ⟨vs,H2,I2,r2,q2⟩=>hm pins s2 Z H2 x vs v us Q I2 r1 r2 q2
end
def MtM (X:Cx) (id:String) (r:V->List V->Hp->VK->Prop):Prop :=
 ∀(pins:List (Addr × Obj)) (s:Shared) (Z:St) (H:Hp) (x:V) (xs:List V) (v:Value) (us:List Value) (Q:VK),Inv X pins Z H s->RelV x v->Vals xs us->r x xs H Q ->
  wpAny (model X.prog X.w) X.A (call (.builtin id) (v::us)) (EP X pins Z Q) X.xe s
theorem Vals.one:∀{x:V}{us:List Value},Vals [x] us->∃ u,us=[u]/\RelV x u
 | _,_,.cons r .nil=>⟨_,rfl,r⟩
theorem Vals.eraseIdx:∀{xs:List V}{us:List Value} (i:Nat),Vals xs us->Vals (xs.eraseIdx i) (us.eraseIdx i)
 | _,_,_,.nil=>.nil
 | _,_,0,.cons _ t=>t
 | _,_,i+1,.cons r t=>.cons r (Vals.eraseIdx i t)
theorem Vals.rep {xs:List V}{us:List Value} (h:Vals xs us):∀ k:Nat,Vals (ZC k xs).flatten (ZC k us).flatten
 | 0=>.nil
 | k+1=>by
  rw[Y6,Y6,Yt,Yt];exact Vals.append h (Vals.rep h k)
theorem xi8 {α:Type}:∀(l:List α) (i:Nat),(l.eraseIdx i).length<=l.length
 | [],_=>Zj _
 | _::_,0=>QV _
 | _::r,i+1=>Nat.succ_le_succ (xi8 r i)
theorem xiy (its:List Value):∀(k:Nat) (acc:List Value),
    List.foldl (fun x1 x2=>x1++x2) acc.toArray (ZC k its.toArray)=(acc++(ZC k its).flatten).toArray
  | 0,acc=>by simp
  | k+1,acc=>by
    have e:acc.toArray++its.toArray=(acc++its).toArray:=by simp
    have e2:(acc++its)++(ZC k its).flatten=acc++(ZC (k+1) its).flatten:=by
      rw[Y6,Yt,Qu]
    rw[<- e2,<- xiy its k (acc++its),<- e,Y6,List.foldl_cons]
section
variable {X:Cx}{pins:List (Addr × Obj)}{Z:St}{H:Hp}{s:Shared}{l b:Addr}{xs ys zs:List V}
theorem Inv.lset {its its':List Value}{n:Nat}{f:Array Value->Array Value}{t':Nat} (I:Inv X pins Z H s) (hH:H l=some (.lst xs))
    (e:s.heap.get? l=some { cls:=.type "list",data:=.seq its.toArray n }) (hf:f its.toArray=its'.toArray) (hv:Vals ys its') (hz:ys.length<=sizeLine) :
    Inv X pins Z (upd H l (.lst ys)) { s with heap:=s.heap.update l (J7 f),toks:=t' }:=by
  have q:=PySem.IsL.update e f;rw[hf] at q;refine I.write (x:=l) (e:=l) (by rw[hH]; exact trivial) (.inl rfl) (fun b' u hb hu=>(Ja s.heap (J7 f) (ZI hb)).trans hu) ⟨_,q⟩ ?_;exact⟨hz,its',_,hv,q⟩
theorem Inv.lnew {its:List Value}{t':Nat} (I:Inv X pins Z H s) (hv:Vals ys its) (hz:ys.length<=sizeLine) :
    Inv X pins Z (upd H s.heap.objs.size (.lst ys)) { s with heap:=s.heap.push { cls:=.type "list",data:=.seq its.toArray },toks:=t' } :=
  I.laid (fun _ _ q=>Zh _ q) (Zj _) ⟨hz,its,0,hv,Z5 _ rfl⟩
theorem Inv.fresh (I:Inv X pins Z H s):H s.heap.objs.size=none:=I.hok.fresh (Zj _)
theorem Inv.lstM (I:Inv X pins Z H s) (hH:H l=some (.lst xs)):xs.length<=sizeLine/\∃(its:List Value) (n:Nat),Vals xs its/\xs.length=its.length/\s.heap.get? l=some { cls:=.type "list",data:=.seq its.toArray n }:=by
 obtain⟨z,its,n,r,e⟩:=I.hok l _ hH;exact⟨z,its,n,r,r.length,e⟩
theorem xko {n:Nat} (h:n<=sizeLine):Builtin.List.listTooLong n=false:=by
 unfold Builtin.List.listTooLong;exact decide_eq_false (by omega)
end
section
variable {X:Cx}
inductive xrv (x:V) (vs:List V) (H:Hp) (Q:VK):Prop
 | mk (l xs y) (e_:x=.ref l) (r_:vs=[y]/\H l=some (.lst xs)/\xs.length<sizeLine/\Q .non (upd H l (.lst (xs++[y]))))
theorem xc1:MtM X "list.append" xrv:=by
 intro pins s Z H x vs v us Q I rx rv h;obtain⟨l,xs,y,rfl,rfl,hH,hz,q⟩:=h;cases rx;obtain⟨u,rfl,ru⟩:=rv.one;obtain⟨z,its,n,r,hl,e⟩:=I.lstM hH;refine Qh F.slot_list_append ⟨_,e,rfl⟩ F.entry_list_append (F.args_list_append_2 _ _) (PySem.list_append l its.toArray n u (by rw[Zw]; omega)) ⟨e,?_⟩;refine⟨.non,_,I.lset (its':=its++[u]) hH e (by simp) (r.append (.cons ru .nil)) ?_,rfl,q⟩;rw[Zo,JQ];omega
inductive xsh (x:V) (vs:List V) (H:Hp) (Q:VK):Prop
 | mk (l b xs zs) (e_:x=.ref l) (r_:vs=[.ref b]/\H l=some (.lst xs)/\H b=some (.lst zs)/\xs.length+zs.length<=sizeLine/\Q .non (upd H l (.lst (xs++zs))))
theorem xo8:MtM X "list.extend" xsh:=by
 intro pins s Z H x vs v us Q I rx rv h;obtain⟨l,b,xs,zs,rfl,rfl,hH,hB,hz,q⟩:=h;cases rx;obtain⟨u,rfl,ru⟩:=rv.one;cases ru;obtain⟨z,its,n,r,hl,e⟩:=I.lstM hH;obtain⟨z2,its2,n2,r2,hl2,e2⟩:=I.lstM hB;have hsz:its.toArray.size+its2.toArray.size<=sizeLine:=by rw[Zw,Zw]; omega
 have hlong:¬ (!its.toArray.isEmpty&&Builtin.List.listTooLong (its.toArray.size+its2.toArray.size))=true:=by
  rw[xko hsz,Qm];exact Z7
 refine Qh F.slot_list_extend ⟨_,e,rfl⟩ F.entry_list_extend (F.args_list_extend_2 _ _)
  (AutoSeq1.list_extend_list_list_0 l its.toArray n b its2.toArray n2 hlong (by rw[Zw]; omega) (by omega)) ⟨e,e2,?_⟩
 refine⟨.non,_,I.lset (its':=its++its2) hH e (by simp) (r.append r2) ?_,rfl,q⟩;rw[Zo];omega
def xus:V->List V->Hp->VK->Prop:=fun x vs H Q=>∃ l xs i k y,x=.ref l/\vs=[.int i]/\H l=some (.lst xs)/\-(2 ^ 63)<=i/\i<2 ^ 63/\seqIndex? i xs.length=some k/\xs[k]?=some y/\Q y (upd H l (.lst (xs.eraseIdx k)))
theorem xff:MtM X "list.pop" xus:=by
 intro pins s Z H x vs v us Q I rx rv h;obtain⟨l,xs,i,k,y,rfl,rfl,hH,h1,h2,hk,hy,q⟩:=h;cases rx;obtain⟨u,rfl,ru⟩:=rv.one;obtain⟨t,rfl⟩:=ru;obtain⟨z,its,n,r,hl,e⟩:=I.lstM hH;obtain⟨w,hw,rw'⟩:=r.get hy;refine Qh F.slot_list_pop ⟨_,e,rfl⟩ F.entry_list_pop (F.args_list_pop_2 _ _)
  (MeetsSeq.list_pop_at l its.toArray n i t k w (fitsIndex_both h1 h2) (by rw[Zw,<- hl]; exact hk) (by rw[<- Jx]; exact hw) (by rw[Zw]; omega)) ⟨e,?_⟩
 refine⟨y,_,I.lset (its':=its.eraseIdx k) hH e ?_ (r.eraseIdx k) ?_,rw',q⟩
 .show its.toArray.eraseIdxIfInBounds k=(its.eraseIdx k).toArray;rw[List.eraseIdxIfInBounds_toArray]
 .have:=xi8 xs k;omega
inductive rCat (x:V) (y:V) (H:Hp) (Q:VK):Prop
 | mk (l b xs zs) (e_:x=.ref l) (r_:y=.ref b/\H l=some (.lst xs)/\H b=some (.lst zs)/\xs.length+zs.length<=sizeLine/\∀ p,H p=none->Q (.ref p) (upd H p (.lst (xs++zs))))
theorem xf3:OpR X (binaryOp .Add) rCat:=by
 intro pins s Z H x y v u Q I rx ry h;obtain⟨l,b,xs,zs,rfl,rfl,hH,hB,hz,q⟩:=h;cases rx;cases ry;obtain⟨z,its,n,r,hl,e⟩:=I.lstM hH;obtain⟨z2,its2,n2,r2,hl2,e2⟩:=I.lstM hB;refine PySem.P.add_list e e2 ?_ (by rw[Zw,Zw]; omega);have ea:its.toArray++its2.toArray=(its++its2).toArray:=by simp
 rw[ea];exact⟨.ref _,_,I.lnew (t':=s.toks) (r.append r2) (by rw[Zo]; omega),rfl,q _ I.fresh⟩
inductive rRep (x:V) (y:V) (H:Hp) (Q:VK):Prop
 | mk (l k xs) (e_:x=.ref l) (r_:y=.int k/\H l=some (.lst xs)/\-(2 ^ 63)<=k/\k<2 ^ 63/\xs.length*k.toNat<=sizeLine/\∀ p,H p=none->Q (.ref p) (upd H p (.lst (ZC k.toNat xs).flatten)))
theorem xl9 {α:Type} (xs:List α) (k:Nat):(ZC k xs).flatten.length=k*xs.length:=by
 induction k with
 | zero=>simp
 | succ k ih=>rw[Y6,Yt,Zo,ih,Nat.succ_mul,Nat.add_comm]
theorem xtj:OpR X (binaryOp .Mult) rRep:=by
 intro pins s Z H x y v u Q I rx ry h;obtain⟨l,k,xs,rfl,rfl,hH,h1,h2,hz,q⟩:=h;cases rx;obtain⟨t,rfl⟩:=ry;obtain⟨z,its,n,r,hl,e⟩:=I.lstM hH;have hlen:its.toArray.size*k.toNat<=sizeLine:=by rw[Zw,<- hl]; exact hz
 have hcap:¬ its.toArray.size*k.toNat>(2 ^ 63-1) / 8:=by
  have:(sizeLine:Nat)<=(2 ^ 63-1) / 8:=by decide
  omega
 have hfit:¬ (!Builtin.List.listFitsIndex k)=true:=by
  rw[fitsIndex_both h1 h2];exact Z7
 have hlong:¬ Builtin.List.listTooLong (its.toArray.size*k.toNat)=true:=by
  rw[xko hlen];exact Z7
 have hnew:List.foldl (fun x1 x2=>x1++x2) #[] (ZC (if its.toArray.isEmpty=true then 0 else k.toNat) its.toArray)=(ZC k.toNat its).flatten.toArray:=by
  have f0:∀ m:Nat,List.foldl (fun x1 x2=>x1++x2) #[] (ZC m its.toArray)=(ZC m its).flatten.toArray:=fun m=>by
   have:=xiy its m [];rw[List.nil_append] at this;exact this
  rw[f0];cases its with
  | nil=>simp
  | cons a r'=>rw[if_neg (by simp)]
 refine wpAny_binaryOp_repeat_ref (T:="list") (U:="int") (by decide) ⟨_,e,rfl⟩ (fun s'=>typeIs_int s' k t) noFill_list_mul F.fills_int_mul F.slot_int_rmul repeat_list F.slot_int_index.lookup
  (Qh F.slot_int_rmul (typeIs_int s k t) F.entry_int_rmul (F.args_int_rmul_2 _ _) (int___rmul___int_list k t l its.toArray n)
   ⟨e,rfl,⟨_,e,rfl⟩,Qh F.slot_list_mul ⟨_,e,rfl⟩ F.entry_list_mul (F.args_list_mul_2 _ _) (AutoListH.list___mul___list_int_3 l its.toArray n k t hfit hcap hlong) ⟨e,?_⟩⟩)
 rw[hnew];exact⟨.ref _,_,I.lnew (t':=s.toks) (r.rep k.toNat) (by rw[xl9,Nat.mul_comm]; exact hz),rfl,q _ I.fresh⟩
end
section
variable {κ:Type} [DecidableEq κ]
def valV (kvs:List (κ × V)) (k:κ):Option V:=(kvs.find? fun kv=>decide (kv.1=k)).map (·.2)
def putK (kvs:List (κ × V)) (k:κ) (v:V):List (κ × V) :=
 if (kvs.any fun kv=>decide (kv.1=k))=true then kvs.map (fun kv=>if kv.1=k then (kv.1,v) else kv) else kvs++[(k,v)]
theorem xa7 {p:κ × V}{r:List (κ × V)}{k:κ} (e:p.1=k):valV (p::r) k=some p.2:=by simp[valV,Ym,e]
theorem xa2 {p:κ × V}{r:List (κ × V)}{k:κ} (e:¬ p.1=k):valV (p::r) k=valV r k:=by simp[valV,Ym,e]
theorem xdj (k:κ):∀ kvs:List (κ × V),(kvs.any fun kv=>decide (kv.1=k))=(valV kvs k).isSome
 | []=>rfl
 | p::r=>by
  rw[Qy];by_cases e:p.1=k
  .simp only [xa7 e,decide_eq_true e,Bool.true_or,Option.isSome_some]
  .rw [xa2 e,decide_eq_false e,Wo]; exact xdj k r
theorem xk1 (k j:κ) (y:V):∀ kvs:List (κ × V),valV (kvs.map fun kv=>if kv.1=k then (kv.1,y) else kv) j=(valV kvs j).map fun x=>if j=k then y else x
 | []=>rfl
 | p::r=>by
  have ih:=xk1 k j y r;rw[Zx];by_cases h:p.1=k
  .rw [if_pos h];by_cases e:p.1=j
   .rw [xa7 (p:=(p.1,y)) e,xa7 e,YB,if_pos (e.symm.trans h)]
   .rw [xa2 (p:=(p.1,y)) e,xa2 e,ih]
  .rw [if_neg h];by_cases e:p.1=j
   .rw [xa7 (p:=p) e,xa7 e,YB,if_neg (fun z=>h (e.trans z))]
   .rw [xa2 (p:=p) e,xa2 e,ih]
theorem xiz (k j:κ) (y:V):∀ kvs:List (κ × V),valV kvs k=none->valV (kvs++[(k,y)]) j=if j=k then some y else valV kvs j
 | [],_=>by
  by_cases e:k=j
  .rw [if_pos e.symm]; exact xa7 (p:=(k,y)) e
  .rw [if_neg (fun z=>e z.symm)]; exact xa2 (p:=(k,y)) e
 | p::r,hn=>by
  rw[List.cons_append];have hk:¬ p.1=k:=fun z=>by rw[xa7 z] at hn; cases hn
  rw[xa2 hk] at hn;have ih:=xiz k j y r hn;by_cases e:p.1=j
  .rw [xa7 e,xa7 e,if_neg (fun z=>hk (e.trans z))]
  .rw [xa2 e,xa2 e,ih]
theorem xkk (kvs:List (κ × V)) (k j:κ) (y:V):valV (putK kvs k y) j=if j=k then some y else valV kvs j:=by
 unfold putK;by_cases a:(kvs.any fun kv=>decide (kv.1=k))=true
 .rw [if_pos a,xk1];rw[xdj] at a;by_cases e:j=k
  .obtain ⟨x,hx⟩:=Option.isSome_iff_exists.mp a;rw[if_pos e,e,hx,YB,if_pos rfl]
  .rw [if_neg e];cases valV kvs j with
   | none=>rfl
   | some x=>rw[YB,if_neg e]
 .rw [if_neg a];refine xiz k j y kvs ?_;rw[xdj] at a;cases q:valV kvs k with
  | none=>rfl
  | some x=>rw[q] at a; exact (a rfl).elim
theorem xb7 (kvs:List (κ × V)) (k:κ) (v:V):(putK kvs k v).length<=kvs.length+1:=by
 unfold putK;split
 .rw [Za]; omega
 .rw [Zo,ZF,YZ]; omega
theorem xdg {kvs:List (κ × V)}{k:κ} (v:V) (h:valV kvs k=none):putK kvs k v=kvs++[(k,v)]:=by
 unfold putK;rw[xdj,h];exact if_neg (by decide)
theorem RelO.isSome_eq {o:Option V}{u:Option Value} (r:RelO o u):o.isSome=u.isSome:=by
 cases o with
 | none=>cases u with
  | none=>rfl
  | some _=>exact (show False from r).elim
 | some _=>cases u with
  | none=>exact (show False from r).elim
  | some _=>rfl
theorem RelO.getD {o:Option V}{u:Option Value}{d:V}{d':Value} (r:RelO o u) (rd:RelV d d'):RelV (o.getD d) (u.getD d'):=by
 cases o with
 | none=>cases u with
  | none=>exact rd
  | some _=>exact (show False from r).elim
 | some _=>cases u with
  | none=>exact (show False from r).elim
  | some _=>exact r
theorem KV.val {kvs:List (κ × V)}{vs:List (κ × Value)} (r:KV kvs vs) (k:κ):RelO (valV kvs k) (valueAt vs k):=by
 unfold KV at r
 induction r with
 | nil=>exact Js
 | @cons p q ps qs h t ih =>
  obtain⟨h1,h2⟩:=h;by_cases e:p.1=k
  .have e':q.1=k:=h1.symm.trans e;have b:valueAt (q::qs) k=some q.2:=by simp[valueAt,Ym,e']
   rw[xa7 e,b]; exact h2
  .have e':¬ q.1=k:=fun z=>e (h1.trans z);have b:valueAt (q::qs) k=valueAt qs k:=by simp[valueAt,Ym,e']
   rw[xa2 e,b]; exact ih
theorem KV.any {kvs:List (κ × V)}{vs:List (κ × Value)} (r:KV kvs vs) (k:κ):(kvs.any fun kv=>decide (kv.1=k))=vs.any fun kv=>decide (kv.1=k):=by
 unfold KV at r
 induction r with
 | nil=>rfl
 | cons h t ih=>rw[Qy,Qy,ih,h.1]
theorem KV.repl {kvs:List (κ × V)}{vs:List (κ × Value)} (r:KV kvs vs) (k:κ) {y:V}{u:Value} (ry:RelV y u) :
    KV (kvs.map fun kv=>if kv.1=k then (kv.1,y) else kv) (vs.map fun kv=>if kv.1=k then (kv.1,u) else kv):=by
  unfold KV at r ⊢
  induction r with
  | nil=>exact .nil
  | @cons p q ps qs h t ih =>
    rw[Zx,Zx];refine .cons ?_ ih;obtain⟨h1,h2⟩:=h;by_cases e:p.1=k
    . rw[if_pos e,if_pos (h1.symm.trans e)]; exact⟨h1,ry⟩
    . rw[if_neg e,if_neg (fun z=>e (h1.trans z))]; exact⟨h1,h2⟩
theorem KV.put {kvs:List (κ × V)}{vs:List (κ × Value)} (r:KV kvs vs) (k:κ) {y:V}{u:Value} (ry:RelV y u):KV (putK kvs k y) (stored vs k u):=by
 unfold putK stored;rw[r.any k];by_cases e:(vs.any fun kv=>decide (kv.1=k))=true
 .rw [if_pos e,if_pos e]; exact r.repl k ry
 .rw [if_neg e,if_neg e]; exact Paired.snoc r ⟨rfl,ry⟩
theorem KV.keys {kvs:List (κ × V)}{vs:List (κ × Value)} (r:KV kvs vs):kvs.map (·.1)=vs.map (·.1):=by
 unfold KV at r
 induction r with
 | nil=>rfl
 | cons h t ih=>rw[Zx,Zx,ih,h.1]
theorem KV.length {kvs:List (κ × V)}{vs:List (κ × Value)} (r:KV kvs vs):kvs.length=vs.length:=Yo r
end
theorem xdb {P:Program}{w:World}{k:Key}{u:Value} (r:RelV (kV k) u):(xaj P w).is k u=true:=by
 cases k with
 | inl i=>obtain⟨t,e⟩:=(show ∃ t,u=Wg i t from r); subst e; exact xlo P w i t
 | inr x=>obtain⟨t,e⟩:=(show ∃ t,u=Q2 x t from r); subst e; exact xlk P w x t
theorem xjd {P:Program}{w:World}:∀{ks:List Key}{us:List Value},Vals (ks.map kV) us->ItemsAre (xaj P w) ks us
 | [],_,r=>by rw[List.map_nil] at r; cases r; exact .nil
 | k::ks,_,r=>by
  rw[Zx] at r;cases r with
  | cons h t=>exact .cons (xdb h) (xjd t)
abbrev KT (H:Hp):List (List Key × V)->List (List Key × Addr × Value)->Prop:=Paired fun p q=>p.1=q.1/\H q.2.1=some (.tup (p.1.map kV))/\RelV p.2 q.2.2
theorem KT.val {H:Hp}{kvs:List (List Key × V)}{xs:List (List Key × Addr × Value)} (r:KT H kvs xs) (k:List Key):RelO (valV kvs k) ((atKey xs k).map (·.2)):=by
 induction r with
 | nil=>exact Js
 | @cons p q ps qs h t ih =>
  obtain⟨h1,_,h2⟩:=h;by_cases e:p.1=k
  .have e':q.1=k:=h1.symm.trans e;have b:atKey (q::qs) k=some q.2:=by simp[atKey,Ym,e']
   rw[xa7 e,b]; exact h2
  .have e':¬ q.1=k:=fun z=>e (h1.trans z);have b:atKey (q::qs) k=atKey qs k:=by simp[atKey,Ym,e']
   rw[xa2 e,b]; exact ih
theorem KT.repl {H:Hp}{kvs:List (List Key × V)}{xs:List (List Key × Addr × Value)} (r:KT H kvs xs) (k:List Key) {y:V}{u:Value} (ry:RelV y u) :
    KT H (kvs.map fun kv=>if kv.1=k then (kv.1,y) else kv) (xs.map (putAt k u)):=by
  induction r with
  | nil=>exact .nil
  | @cons p q ps qs h t ih =>
    rw[Zx,Zx];refine .cons ?_ ih;obtain⟨h1,h2,h3⟩:=h;unfold putAt;by_cases e:p.1=k
    . rw[if_pos e,if_pos (h1.symm.trans e)]; exact⟨h1,h2,ry⟩
    . rw[if_neg e,if_neg (fun z=>e (h1.trans z))]; exact⟨h1,h2,h3⟩
theorem KT.put {H:Hp}{kvs:List (List Key × V)}{xs:List (List Key × Addr × Value)} (r:KT H kvs xs) (k:List Key) {b:Addr}{y:V}{u:Value} (hb:H b=some (.tup (k.map kV))) (ry:RelV y u) :
    KT H (putK kvs k y) (storedH xs k b u):=by
  have e:(kvs.any fun kv=>decide (kv.1=k))=(atKey xs k).isSome:=by
    rw[xdj,(r.val k).isSome_eq,JH]
  unfold putK storedH;rw[e];by_cases q:(atKey xs k).isSome=true
  . rw[if_pos q,if_pos q]; exact r.repl k ry
  . rw[if_neg q,if_neg q]; exact Paired.snoc r ⟨rfl,hb,ry⟩
theorem KT.keeps {H H':Hp}{kvs:List (List Key × V)}{xs:List (List Key × Addr × Value)} (r:KT H kvs xs) (ht:∀ b ys,H b=some (.tup ys)->H' b=some (.tup ys)):KT H' kvs xs :=
 Paired.mapP r fun _ _ z=>⟨z.1,ht _ _ z.2.1,z.2.2⟩
section
variable {P:Program}{w:World}{H:Hp}{h:Heap}{a:Addr}
theorem xrd {u:HO} (ok:HOk P w H h) (e:Rd H a u):xam P w H h a u:=e.ok ok
theorem xei {kvs:List (Key × V)} (ok:HOk P w H h) (e:Rd H a (.dK kvs)):kvs.length<=sizeLine/\(a == sysModules)=false/\∃ vs,KV kvs vs/\h.DictOf (xaj P w) a vs :=
 show xam P w H h a (.dK kvs) from xrd ok e
theorem xgn {kvs:List (Key × V)} (ok:HOk P w H h) (e:H a=some (.dK kvs)):kvs.length<=sizeLine/\(a == sysModules)=false/\∃ vs,KV kvs vs/\h.DictOf (xaj P w) a vs:=xei ok (.inl e)
theorem xd8 {ks:List Key} (ok:HOk P w H h) (e:H a=some (.tup (ks.map kV))):(tupleKind (xaj P w)).is h ks a:=by
 obtain⟨_,its,r,o,h1,h2,n,h3⟩:=(show xam P w H h a (.tup (ks.map kV)) from ok a _ e)
 exact⟨o,its.toArray,n,h1,h2,h3,by simpa using xjd r⟩
theorem xfa {kvs:List (List Key × V)} (ok:HOk P w H h) (e:Rd H a (.dT kvs)):kvs.length<=sizeLine/\(a == sysModules)=false /\
    ∃ xs,KT H kvs xs/\h.DictOfH (tupleKind (xaj P w)) a xs:=by
  obtain⟨z,y,xs,r,o,es,ep,h1,h2,h3,h4,h5⟩:=(show xam P w H h a (.dT kvs) from xrd ok e)
  refine⟨z,y,xs,r,o,es,ep,h1,h2,h3,h4,fun x hx=>?_,h5⟩;have all:∀{l:List (List Key × V)}{m:List (List Key × Addr × Value)},KT H l m->∀ x∈m,(tupleKind (xaj P w)).is h x.1 x.2.1:=by
    intro l m q
    induction q with
    | nil=>intro x hx; exact nomatch hx
    | @cons p q ps qs hq t ih =>
      intro x hx;rcases Z1.mp hx with e|hx
      . subst e
        exact xd8 ok (by rw[<- hq.1]; exact hq.2.1)
      . exact ih x hx
  exact all r x hx
theorem xhs {kvs:List (List Key × V)} (ok:HOk P w H h) (e:H a=some (.dT kvs)):kvs.length<=sizeLine/\(a == sysModules)=false /\
    ∃ xs,KT H kvs xs/\h.DictOfH (tupleKind (xaj P w)) a xs:=xfa ok (.inl e)
end
def DGet (H:Hp) (a:Addr) (y:V) (r:Option V):Prop :=
 (∃ kvs k,Rd H a (.dK kvs)/\y=kV k/\r=valV kvs k)\/∃ kvs k b,Rd H a (.dT kvs)/\y=.ref b/\H b=some (.tup (k.map kV))/\r=valV kvs k
def DPut (H:Hp) (a:Addr) (y v:V) (H':Hp):Prop :=
 (∃ kvs k,H a=some (.dK kvs)/\y=kV k/\kvs.length<sizeLine/\H'=upd H a (.dK (putK kvs k v))) \/
 ∃ kvs k b,H a=some (.dT kvs)/\y=.ref b/\H b=some (.tup (k.map kV))/\kvs.length<sizeLine/\H'=upd H a (.dT (putK kvs k v))
theorem DGet.k {H:Hp}{a:Addr}{kvs:List (Key × V)}{k:Key} (e:H a=some (.dK kvs)):DGet H a (kV k) (valV kvs k):=.inl ⟨kvs,k,.inl e,rfl,rfl⟩
theorem DGet.t {H:Hp}{a b:Addr}{kvs:List (List Key × V)}{k:List Key} (e:H a=some (.dT kvs)) (eb:H b=some (.tup (k.map kV))):DGet H a (.ref b) (valV kvs k):=.inr ⟨kvs,k,b,.inl e,rfl,eb,rfl⟩
theorem DPut.k {H:Hp}{a:Addr}{kvs:List (Key × V)}{k:Key}{v:V} (e:H a=some (.dK kvs)) (hl:kvs.length<sizeLine):DPut H a (kV k) v (upd H a (.dK (putK kvs k v))):=.inl ⟨kvs,k,e,rfl,hl,rfl⟩
theorem DPut.t {H:Hp}{a b:Addr}{kvs:List (List Key × V)}{k:List Key}{v:V} (e:H a=some (.dT kvs)) (eb:H b=some (.tup (k.map kV))) (hl:kvs.length<sizeLine) :
    DPut H a (.ref b) v (upd H a (.dT (putK kvs k v))):=.inr ⟨kvs,k,b,e,rfl,eb,hl,rfl⟩
section
variable {X:Cx}{pins:List (Addr × Obj)}{Z:St}{H:Hp}{s:Shared}{a:Addr}{y v:V}{u r:Value}{o:Option V}{A:Around}{E:Value->Shared->Prop}
theorem Inv.big (I:Inv X pins Z H s):sysModules<s.heap.objs.size:=by
 have h:mainGlobals<s.heap.objs.size:=(I.mod.glob.keeps I.bk).lt;exact Jc (by decide) h
theorem xpn {Q:Value->Shared->Prop} (hu:A.units+1<cLine) (I:Inv X pins Z H s) (g:DGet H a y (some v)) (ry:RelV y u) (h:∀ w' s',Inv X pins Z H s'->RelV v w'->Q w' s') :
    wpAny (model X.prog X.w) A (getItem (.ref a) u) Q E s:=by
  rcases g with⟨kvs,k,e,ey,l⟩|⟨kvs,k,b,e,ey,eb,l⟩
  . subst ey
    obtain⟨z,hd,vs,rel,dd⟩:=xei I.hok e;obtain⟨w',hw,rw'⟩:=RelO.some_of (v:=v) (o:=valueAt vs k) (by rw[l]; exact rel.val k);exact wpAny_getItem_of (xdb ry) dd.mapOf hw (h w' _ (I.tok _) rw')
  . subst ey
    cases (show u=Zm b from ry);obtain⟨z,hd,xs,rel,dd⟩:=xfa I.hok e;obtain⟨w',hw,rw'⟩:=RelO.some_of (v:=v) (o:=(atKey xs k).map (·.2)) (by rw[l]; exact rel.val k);obtain⟨p,hp,hp2⟩:=Zk.mp hw;refine wpAny_getItem_heap (YC hu) (xd8 I.hok eb) dd hp ?_;rw[hp2];exact h w' _ (I.tok _) rw'
theorem d_in {Q:Value->Shared->Prop} (hu:A.units+1<cLine) (I:Inv X pins Z H s) (g:DGet H a y o) (ry:RelV y u) (h:∀ s',Inv X pins Z H s'->Q (.bool o.isSome) s') :
    wpAny (model X.prog X.w) A (compareOp .In u (.ref a)) Q E s:=by
  rcases g with⟨kvs,k,e,ey,l⟩|⟨kvs,k,b,e,ey,eb,l⟩
  . subst ey
    obtain⟨z,hd,vs,rel,dd⟩:=xei I.hok e;refine wpAny_in_of (xdb ry) hd dd.mapOf ?_;rw[<- (rel.val k).isSome_eq,<- l];exact h _ (I.tok _)
  . subst ey
    cases (show u=Zm b from ry);obtain⟨z,hd,xs,rel,dd⟩:=xfa I.hok e;refine wpAny_in_heap (YC hu) (xd8 I.hok eb) hd dd ?_;have q:=(rel.val k).isSome_eq;rw[JH] at q;rw[<- q,<- l];exact h _ (I.tok _)
theorem xrs {Q:Value->Shared->Prop} (hu:A.units+1<cLine) (I:Inv X pins Z H s) (g:DGet H a y o) (ry:RelV y u) (h:∀ s',Inv X pins Z H s'->Q (.bool (!o.isSome)) s') :
    wpAny (model X.prog X.w) A (compareOp .NotIn u (.ref a)) Q E s:=by
  rcases g with⟨kvs,k,e,ey,l⟩|⟨kvs,k,b,e,ey,eb,l⟩
  . subst ey
    obtain⟨z,hd,vs,rel,dd⟩:=xei I.hok e;refine wpAny_notIn_of (xdb ry) hd dd.mapOf ?_;rw[<- (rel.val k).isSome_eq,<- l];exact h _ (I.tok _)
  . subst ey
    cases (show u=Zm b from ry);obtain⟨z,hd,xs,rel,dd⟩:=xfa I.hok e;refine wpAny_notIn_heap (YC hu) (xd8 I.hok eb) hd dd ?_;have q:=(rel.val k).isSome_eq;rw[JH] at q;rw[<- q,<- l];exact h _ (I.tok _)
theorem xd3 {h':Heap}{t':Nat}{ob:HO} (I:Inv X pins Z H s) (mu:Mut (H a)) (hs:ZN a s.heap h') (he:∃ q,h'.get? a=some q) (new:xam X.prog X.w (upd H a ob) h' a ob) :
    Inv X pins Z (upd H a ob) { s with heap:=h',toks:=t' } :=
  I.write (x:=a) (e:=a) mu (.inl rfl) (fun b q hb z=>(hs.2 b hb).trans z) he new
theorem xkn {P:Program}{w:World}{H':Hp}{h':Heap}{kvs:List (Key × V)}{vs:List (Key × Value)} (z:kvs.length<=sizeLine) (hd:(a == sysModules)=false) (rel:KV kvs vs) (dd:h'.DictOf (xaj P w) a vs) :
    xam P w H' h' a (.dK kvs):=⟨z,hd,vs,rel,dd⟩
theorem xn7 {H':Hp}{Q:Unit->Shared->Prop} (hu:A.units+1<cLine) (I:Inv X pins Z H s) (g:DPut H a y v H') (ry:RelV y u) (rv:RelV v r) (h:∀ s',Inv X pins Z H' s'->Q () s') :
    wpAny (model X.prog X.w) A (setItem (.ref a) u r) Q E s:=by
  rcases g with⟨kvs,k,e,ey,l,eH⟩|⟨kvs,k,b,e,ey,eb,l,eH⟩
  . subst ey eH
    obtain⟨z,hd,vs,rel,dd⟩:=xgn I.hok e;have hz:vs.length<=sizeLine:=by rw[<- rel.length]; exact z
    have hl:(putK kvs k v).length<=sizeLine:=by have:=xb7 kvs k v; omega
    refine wpAny_setItem_pairs (hsz:=hz) (xdb ry) dd fun h' dd' hs=>h _ ?_;have he:∃ q,h'.get? a=some q:=let ⟨q,_,_,hq,_⟩:=dd'; ⟨q,hq⟩;exact xd3 I (by rw[e]; exact Js) hs he (xkn hl hd (rel.put k rv) dd')
  . subst ey eH
    cases (show u=Zm b from ry);obtain⟨z,hd,xs,rel,dd⟩:=xhs I.hok e;have hz:xs.length<=sizeLine:=by rw[<- Yo rel]; exact z
    have hl:(putK kvs k v).length<=sizeLine:=by have:=xb7 kvs k v; omega
    refine wpAny_setItem_heap (hsz:=hz) (YC hu) (xd8 I.hok eb) dd fun h' dd' hs=>h _ ?_;obtain⟨q,es,ep,hq,h2,h3,h4,_,h5⟩:=dd';refine xd3 I (by rw[e]; exact Js) hs ⟨q,hq⟩ ⟨hl,hd,_,(rel.put k eb rv).keeps fun c ys ec=>?_,q,es,ep,hq,h2,h3,h4,h5⟩;rw[xh (xae ec e (fun z=>nomatch z))];exact ec
end
section
variable {X:Cx}{pins:List (Addr × Obj)}{Z:St}{H:Hp}{s:Shared}{a:Addr}{kvs:List (Key × V)}{k:Key}{u:Value}{A:Around}{E:Value->Shared->Prop}
theorem xv4 {Q:Value->Shared->Prop} (I:Inv X pins Z H s) (e:Rd H a (.dK kvs)) (h:∀ t s',Inv X pins Z H s'->Q (.int kvs.length t) s'):wpAny (model X.prog X.w) A (call (.builtin "len") [.ref a]) Q E s:=by
 obtain⟨z,hd,vs,rel,dd⟩:=xei I.hok e;refine call_len_dict hd dd (by rw[<- rel.length]; rw[YV] at z; omega) ?_;rw[<- rel.length];exact h _ _ (I.tok _)
end
def NoSl (i:Expr):Prop:=∀ ov iv,subscripted i false ov iv=operate [ov,iv] (getItem ov iv)
theorem xr3 {prog:Program}{w:World}{A:Around}{E:Value->Shared->Prop}{s:Shared}{env:Env}{value slice:Expr}{pos:Pos}{T id:String}{Q:Value->Shared->Prop}
    (hl:typeLookup (.type T) "__getitem__"=pure (some (.builtin id))) (hs:NoSl slice)
    (h:wpAny (model prog w) A (eval value env) (fun o s₁=>wpAny (model prog w) A (eval slice env) (fun i s₂=>s₂.TypeIs o T/\wpAny (model prog w) A (getItem o i) Q E s₂) E s₁) E s) :
    wpAny (model prog w) A (eval (.Subscript value slice pos) env) Q E s:=by
  refine Subscript_ (ZT h (fun o s₁ h₁=>ZT h₁ (fun i s₂ h₂=>?_) fun _ _ x=>x) fun _ _ x=>x);obtain⟨hT,h₂⟩:=h₂;unfold subscriptTail;refine Zc ?_;rw[getitemInPython_of_ne hT.not_modules];refine Zc (YX hT hl ?_);have fin:wpAny (model prog w) A (subscripted slice false o i) (fun r s₃=>wpAny (model prog w) A (letTemporaryGo value o r>>=fun _=>pure r) Q E s₃) E s₂:=by
    rw[hs o i];exact wpAny_operating (ZT h₂ (fun r s₃ h₃=>Zc (wpAny_letTemporaryGo (Zl h₃))) fun _ _ x=>x)
  first
    | exact Zl (Zc fin)
    | exact Zc (Zl (Zc fin))
    | exact Zc fin
theorem xlh {X:Cx}{pins:List (Addr × Obj)}{Z:St}{H:Hp}{s:Shared}{a:Addr}{y:V}{o:Option V} (I:Inv X pins Z H s) (g:DGet H a y o):s.TypeIs (.ref a) "dict":=by
 rcases g with⟨kvs,k,e,_,_⟩|⟨kvs,k,b,e,_,_,_⟩
 .obtain ⟨_,_,vs,_,dd⟩:=xei I.hok e;exact dd.typeIs
 .obtain ⟨_,_,xs,_,dd⟩:=xfa I.hok e;exact dd.typeIs
inductive xr7 (x y:V) (H2:Hp) (Q:VK):Prop
 | mk (a v) (e_:x=.ref a) (r_:DGet H2 a y (some v)/\Q v H2)
def xvo (td ty:TE):TE:=fun Z H Q=>td Z H fun x H1=>ty Z H1 fun y H2=>xr7 x y H2 Q
inductive xuo (x y:V) (H2:Hp) (Q:VK):Prop
 | mk (a o) (e_:x=.ref a) (r_:DGet H2 a y o/\Q (.bl o.isSome) H2)
def tDIn (ty td:TE):TE:=fun Z H Q=>ty Z H fun y H1=>td Z H1 fun x H2=>xuo x y H2 Q
inductive xoc (x y:V) (H2:Hp) (Q:VK):Prop
 | mk (a o) (e_:x=.ref a) (r_:DGet H2 a y o/\Q (.bl (!o.isSome)) H2)
def xsz (ty td:TE):TE:=fun Z H Q=>ty Z H fun y H1=>td Z H1 fun x H2=>xoc x y H2 Q
def xvv (td ty tv:TE):TS:=fun D Z H=>tv Z H fun v H1=>td Z H1 fun x H2=>ty Z H2 fun y H3=>∃ a H4,x=.ref a/\DPut H3 a y v H4/\D.nx Z H4
section
variable {X:Cx}{o i e value:Expr}{pos pos' tpos:Pos}{td ty tv:TE}
theorem xd1 (hu:X.A.units+1<cLine) (ho:PE X o td) (hi:PE X i ty) (hs:NoSl i):PE X (.Subscript o i pos) (xvo td ty):=by
 intro pins s Z H Q I h;refine xr3 PySem.F.slot_dict_getitem.lookup hs (thn (ho pins s Z H _ I h) fun u s1 ⟨x,H1,I1,rx,q1⟩=>thn (hi pins s1 Z H1 _ I1 q1) fun iv s2 ⟨y,H2,I2,ry,a,v,ex,g,q2⟩=>?_);subst ex;obtain rfl:u=Zm a:=rx;exact⟨xlh I2 g,xpn hu I2 g ry fun w' s3 I3 rw'=>⟨v,H2,I3,rw',q2⟩⟩
theorem xhr (hu:X.A.units+1<cLine) (hi:PE X i ty) (ho:PE X o td):PC X .In i o (tDIn ty td):=by
 intro pins s Z H Q I h;refine thn (hi pins s Z H _ I h) fun iv s1 ⟨y,H1,I1,ry,q1⟩=>thn (ho pins s1 Z H1 _ I1 q1) fun u s2 ⟨x,H2,I2,rx,a,ov,ex,g,q2⟩=>?_;subst ex;obtain rfl:u=Zm a:=rx;exact d_in hu I2 g ry fun s3 I3=>⟨.bl ov.isSome,H2,I3,rfl,q2⟩
theorem xdt (hu:X.A.units+1<cLine) (hi:PE X i ty) (ho:PE X o td):PC X .NotIn i o (xsz ty td):=by
 intro pins s Z H Q I h;refine thn (hi pins s Z H _ I h) fun iv s1 ⟨y,H1,I1,ry,q1⟩=>thn (ho pins s1 Z H1 _ I1 q1) fun u s2 ⟨x,H2,I2,rx,a,ov,ex,g,q2⟩=>?_;subst ex;obtain rfl:u=Zm a:=rx;exact xrs hu I2 g ry fun s3 I3=>⟨.bl (!ov.isSome),H2,I3,rfl,q2⟩
theorem xcf (hu:X.A.units+1<cLine) (ho:PE X o td) (hi:PE X i ty) (hv:PE X value tv) (hs:swapsWith value (some (.Subscript o i pos')) pos.line X.env=pure false) :
    PS X (.Assign [.Subscript o i pos'] value pos) (xvv td ty tv):=by
  intro pins s Z H D I h;refine wpAny_Assign_Subscript (thn (hv pins s Z H _ I h) fun r s1 ⟨v,H1,I1,rv,q1⟩=>thn (ho pins s1 Z H1 _ I1 q1) fun u s2 ⟨x,H2,I2,rx,q2⟩=>thn (hi pins s2 Z H2 _ I2 q2) fun iv s3 ⟨y,H3,I3,ry,a,H4,ex,g,q3⟩=>?_) hs;subst ex;obtain rfl:u=Zm a:=rx;exact xn7 hu I3 g ry rv fun s4 I4=>⟨Z,H4,I4,q3⟩
end
theorem xg7 {P:Program}{w:World}{H:Hp} (h:Heap) (hb:sysModules<h.objs.size):xam P w H (h.push { cls:=.type "dict",data:=.dict #[] }) h.objs.size (.dK []) :=
 ⟨ZW _,beq_eq_false_iff_ne.mpr (ZI (ZK hb)),[],.nil,Heap.DictOf.new h⟩
theorem xk4 {P:Program}{w:World}{H:Hp} (h:Heap) (hb:sysModules<h.objs.size):xam P w H (h.push { cls:=.type "dict",data:=.dict #[] }) h.objs.size (.dT []) :=
 ⟨ZW _,beq_eq_false_iff_ne.mpr (ZI (ZK hb)),[],.nil,_,#[],0,Z5 _ rfl,⟨rfl,rfl,rfl⟩,rfl,rfl,List.nodup_nil⟩
def xur:TE:=fun _ H Q=>∀ p,H p=none->Q (.ref p) (upd H p (.dK []))
def xuv:TE:=fun _ H Q=>∀ p,H p=none->Q (.ref p) (upd H p (.dT []))
section
variable {X:Cx}{pos:Pos}
theorem xfd:PE X (.Dict [] [] pos) xur:=fun pins s Z H Q I h =>
 wpAny_Dict_empty ⟨.ref s.heap.objs.size,_,I.laid (a:=s.heap.objs.size) (o:=.dK []) (t':=s.toks) (fun _ _ q=>Zh _ q) (Zj _) (xg7 s.heap I.big),rfl,h _ (I.hok.fresh (Zj _))⟩
theorem xg6:PE X (.Dict [] [] pos) xuv:=fun pins s Z H Q I h =>
 wpAny_Dict_empty ⟨.ref s.heap.objs.size,_,I.laid (a:=s.heap.objs.size) (o:=.dT []) (t':=s.toks) (fun _ _ q=>Zh _ q) (Zj _) (xk4 s.heap I.big),rfl,h _ (I.hok.fresh (Zj _))⟩
end
def xky:List (TE × TE)->St->Hp->(List (V × V)->Hp->Prop)->Prop
 | [],_,H,Q=>Q [] H
 | (tk,tv)::r,Z,H,Q=>tk Z H fun x H1=>tv Z H1 fun y H2=>xky r Z H2 fun ps H3=>Q ((x,y)::ps) H3
abbrev VV:List (V × V)->List (Value × Value)->Prop:=Paired fun p q=>RelV p.1 q.1/\RelV p.2 q.2
def PPs (X:Cx) (pos:Pos) (keys:List (Option Expr)) (values:List Expr) (trs:List (TE × TE)):Prop :=
 ∀(pins:List (Addr × Obj)) (s:Shared) (Z:St) (H:Hp) (Q:List (V × V)->Hp->Prop),Inv X pins Z H s->xky trs Z H Q ->
  wpAny (model X.prog X.w) X.A (evalPairs (pairTrees keys values X.env pos)) (fun vs s'=>∃ ps H',Inv X pins Z H' s'/\VV ps vs/\Q ps H') X.xe s
theorem xso {X:Cx}{pos:Pos}:PPs X pos [] [] []:=fun pins s Z H Q I h=>pairTrees_nil_walk ⟨[],H,I,.nil,h⟩
theorem xkp {X:Cx}{pos:Pos}{k v:Expr}{ks:List (Option Expr)}{vs:List Expr}{tk tv:TE}{trs:List (TE × TE)} (hk:PE X k tk) (hv:PE X v tv) (hr:PPs X pos ks vs trs) :
    PPs X pos (some k::ks) (v::vs) ((tk,tv)::trs):=fun pins s Z H Q I h =>
  pairTrees_cons_walk (thn (hk pins s Z H _ I h) fun u s1 ⟨x,H1,I1,rx,q1⟩=>thn (hv pins s1 Z H1 _ I1 q1) fun w2 s2 ⟨y,H2,I2,ry,q2⟩ =>
    thn (hr pins s2 Z H2 _ I2 q2) fun ws s3 ⟨ps,H3,I3,rel,q3⟩=>⟨(x,y)::ps,H3,I3,.cons ⟨rx,ry⟩ rel,q3⟩)
def xd6 (kvs more:List (Key × V)):List (Key × V):=more.foldl (fun acc kv=>putK acc kv.1 kv.2) kvs
theorem KV.merge:∀{more:List (Key × V)}{rs:List (Key × Value)}{kvs:List (Key × V)}{vs:List (Key × Value)},KV more rs->KV kvs vs->KV (xd6 kvs more) (merged vs rs):=by
 intro more rs kvs vs r;unfold KV at r
 induction r generalizing kvs vs with
 | nil=>intro q; exact q
 | @cons p q ps qs h t ih =>
  intro r0;have e:KV (putK kvs p.1 p.2) (stored vs q.1 q.2):=by
   have:=r0.put p.1 h.2;rw[<- h.1]; exact this
  exact ih e
theorem xfm:∀(more kvs:List (Key × V)),(xd6 kvs more).length<=kvs.length+more.length
 | [],kvs=>by show kvs.length<=kvs.length+0; omega
 | p::r,kvs=>by
  have h1:=xfm r (putK kvs p.1 p.2);have h2:=xb7 kvs p.1 p.2;show (xd6 (putK kvs p.1 p.2) r).length<=_;rw[ZF]; omega
theorem xh9 {P:Program}{w:World}:∀{kvs:List (Key × V)}{ws:List (Value × Value)},VV (kvs.map fun kv=>(kV kv.1,kv.2)) ws->∃ rs,Carries (xaj P w) ws rs/\KV kvs rs
 | [],_,r=>by rw[List.map_nil] at r; cases r; exact⟨[],Js,.nil⟩
 | p::kvs,_,r=>by
  rw[Zx] at r;cases r with
  | @cons a b as bs h t =>
   obtain⟨rs,c,q⟩:=xh9 (P:=P) (w:=w) t;obtain⟨b1,b2⟩:=b;exact⟨(p.1,b2)::rs,⟨xdb h.1,rfl,c⟩,.cons ⟨rfl,h.2⟩ q⟩
def xwp (trs:List (TE × TE)):TE:=fun Z H Q=>∀ p,H p=none->xky trs Z (upd H p (.dK [])) fun ps H2=>H2 p=some (.dK [])/\∃ kvs:List (Key × V),ps=kvs.map (fun kv=>(kV kv.1,kv.2))/\kvs.length<=15/\Q (.ref p) (upd H2 p (.dK (xd6 [] kvs)))
theorem xsc {X:Cx}{pos:Pos}{keys:List (Option Expr)}{values:List Expr}{trs:List (TE × TE)} (h:PPs X pos keys values trs) (hall:keys.all (·.isSome)=true) (hl:keys.length=values.length) (h0:keys≠[])
    (h15:keys.length<=15):PE X (.Dict keys values pos) (xwp trs):=by
  intro pins s Z H Q I q;have hn:=I.hok.fresh (Zj s.heap.objs.size);have I1:=I.laid (a:=s.heap.objs.size) (o:=.dK []) (h':=s.heap.push { cls:=.type "dict",data:=.dict #[] }) (t':=s.toks) (fun _ _ q=>Zh _ q) (Zj _) (xg7 s.heap I.big);refine wpAny_Dict_walk (knd:=xaj X.prog X.w) hall hl h0 h15 (thn (h pins _ Z _ _ I1 (q _ hn)) fun ws s2 ⟨ps,H2,I2,rel,e,kvs,ep,lk,q2⟩=>?_);subst ep;obtain⟨rs,c,rk⟩:=xh9 (P:=X.prog) (w:=X.w) rel;obtain⟨z,hd,vs0,r0,dd⟩:=xgn I2.hok e;cases r0;refine⟨rs,c,dd,fun h' dd' hs=>⟨.ref s.heap.objs.size,_,?_,rfl,q2⟩⟩;have hz:(xd6 [] kvs).length<=sizeLine:=by
    have h1:=xfm kvs [];rw[YZ] at h1;rw[YV]; omega
  have he:∃ q,h'.get? s.heap.objs.size=some q:=let ⟨q,_,_,hq,_⟩:=dd'; ⟨q,hq⟩;exact xd3 I2 (by rw[e]; exact Js) hs he (xkn hz hd (rk.merge .nil) dd')
structure M2 (X:Cx) (o:Expr) (m:Str) (apos:Pos) (e f:Expr) (cpos:Pos):Prop where
 base:attributeBase o m X.env (eval o X.env)=eval o X.env
 few:((backTo cpos (starEach [e,f] X.env)).all (fun x=>!x.1)&&(backToKw cpos (keywordEach [] X.env)).all (fun x=>x.1.isSome)
  && decide (([e,f]:List Expr).length+([]:List Keyword).length+(if ([]:List Keyword).isEmpty then 0 else 1)<30))=true
 line:(apos.endLine == cpos.line)=true
 trees:backTo cpos (starEach [e,f] X.env)=[(false,eval e X.env),(false,eval f X.env)]
def IsD (H:Hp) (a:Addr):Prop:=(∃ kvs,Rd H a (.dK kvs))\/∃ kvs,Rd H a (.dT kvs)
theorem xtn {X:Cx}{pins:List (Addr × Obj)}{Z:St}{H:Hp}{s:Shared}{a:Addr} (I:Inv X pins Z H s) (d:IsD H a) :
    s.TypeIs (.ref a) "dict"/\(∀ b,Zm a=.ref b->∃ ob,s.heap.get? b=some ob/\ob.dict=none)/\(a == sysModules)=false:=by
  rcases d with⟨kvs,e⟩|⟨kvs,e⟩
  . obtain⟨_,hd,vs,_,dd⟩:=xei I.hok e
    refine⟨dd.typeIs,fun b q=>?_,hd⟩;cases q;obtain⟨ob,_,_,h1,h2,_⟩:=dd;exact⟨ob,h1,h2.2.1⟩
  . obtain⟨_,hd,xs,_,dd⟩:=xfa I.hok e
    refine⟨dd.typeIs,fun b q=>?_,hd⟩;cases q;obtain⟨ob,_,_,h1,h2,_⟩:=dd;exact⟨ob,h1,h2.2.1⟩
section
variable {X:Cx}{pins:List (Addr × Obj)}{Z:St}{H:Hp}{s:Shared}{a:Addr}{y d:V}{u r:Value}{o:Option V}{A:Around}{E:Value->Shared->Prop}
theorem xt6 {Q:Value->Shared->Prop} (hu:A.units+1<cLine) (I:Inv X pins Z H s) (g:DGet H a y o) (ry:RelV y u) (rd:RelV d r) (h:∀ w' s',Inv X pins Z H s'->RelV (o.getD d) w'->Q w' s') :
    wpAny (model X.prog X.w) A (call (.builtin "dict.get") [.ref a,u,r]) Q E s:=by
  rcases g with⟨kvs,k,e,ey,l⟩|⟨kvs,k,b,e,ey,eb,l⟩
  . subst ey
    obtain⟨z,hd,vs,rel,dd⟩:=xei I.hok e;refine call_meetsIn QR dd.typeIs PySem.F.entry_dict_get (PySem.F.args_dict_get_3 _ _ _) (meets_dict_get_default (xaj X.prog X.w) a (xdb ry) hd r) ⟨_,dd.mapOf,h _ _ (I.tok _) ?_⟩;rw[l];exact (rel.val k).getD rd
  . subst ey
    cases (show u=Zm b from ry);obtain⟨z,hd,xs,rel,dd⟩:=xfa I.hok e;refine call_meetsIn QR dd.typeIs PySem.F.entry_dict_get (PySem.F.args_dict_get_3 _ _ _) (meetsH_dict_get_default (tupleKind (xaj X.prog X.w)) a b hd r) ⟨YC hu,k,xs,xd8 I.hok eb,dd,h _ _ (I.tok _) ?_⟩;rw[l];exact (rel.val k).getD rd
end
def xul (td ty tx:TE):TE:=fun Z H Q=>td Z H fun x H1=>∃ a,x=.ref a/\IsD H1 a/\ty Z H1 fun y H2=>tx Z H2 fun z H3=>∃ o,DGet H3 a y o/\Q (o.getD z) H3
section
variable {X:Cx}{o e f:Expr}{apos cpos:Pos}{td ty tx:TE}
theorem xj9 (hu:X.A.units+1<cLine) (ho:PE X o td) (he:PE X e ty) (hf:PE X f tx) (m:M2 X o "get" apos e f cpos):PE X (.Call (.Attribute o "get" apos) [e,f] [] cpos) (xul td ty tx):=by
 intro pins s Z H Q I h;refine wpAny_Call_method m.base m.few m.line Q5 QR PySem.F.type_dict_get (thn (ho pins s Z H _ I h) fun u s1 ⟨x,H1,I1,rx,a,ex,d,q1⟩=>?_);subst ex;obtain rfl:u=Zm a:=rx;obtain⟨t1,t2,_⟩:=xtn I1 d;refine⟨t1,t2,?_⟩;rw[m.trees];refine QI rfl (Calls.evalArgs_plain (Qr (thn (he pins s1 Z H1 _ I1 q1) fun iv s2 ⟨y,H2,I2,ry,q2⟩ =>
  Qr (thn (hf pins s2 Z H2 _ I2 q2) fun fv s3 ⟨z,H3,I3,rz,ov,g,q3⟩=>Calls.spliced_nil ?_))))
 exact xt6 hu I3 g ry rz fun w' s4 I4 rw'=>⟨_,H3,I4,rw',q3⟩
end
end L2
namespace Att
open PySem PySem.W PySem.Calls PyProof.Rows
theorem xhh {P:Params}{h:Heap}:∀(ns:List Int) (vs:List Value),WellAll P h vs (ns.map WData.int)->IntsAre vs ns:=by
 intro ns
 induction ns with
 | nil =>
  intro vs w;rw[List.map_nil] at w;cases w;exact .nil
 | cons n ns ih =>
  intro vs w;rw[Zx] at w;cases w with
  | cons a b =>
   cases a;exact .cons _ _ (ih _ b)
theorem xo1 {l:OpenLaw}{n:Nat} (hn:l.most=some n) {P:Params}{h:Heap}{args:List WData}{vals:List Value}
    (hpre:l.row.toRowW.claim.pre args=true) (hwl:WellAll P h vals args) :
    ∃ a vs ns,vals=[Zm a]/\args=[WData.list (ns.map WData.int)]/\h.get? a=some { cls:=.type "list",data:=.seq vs.toArray }/\IntsAre vs ns/\ns.length<=n:=by
  have hsh:WShape.hasAll [] args [.list .int]=true:=(pre_splitW hpre).1;have hc:l.pre.holds [] { args:=args }=true:=(pre_splitW hpre).2;obtain⟨d,r,rfl,h1,h2⟩:=hasAllW_cons hsh;obtain rfl:=hasAllW_nil h2;obtain⟨xs,rfl,h3⟩:=hasW_list h1;obtain⟨ns,rfl⟩:=items_int h3;have hlen:ns.length<=n:=by
    unfold OpenLaw.pre at hc;have h4:(WTm.not (.lt (.lit (.int (n:Int))) (.len (.arg 0)))).holds [] { args:=[.list (ns.map .int)] }=true:=by
      have h4:=(holds_andW hc).1;rw[hn] at h4;exact h4
    have h5:=condW_of h4 (w_not (w_lt w_lit (w_len_list (w_arg rfl))));rw[Za] at h5;refine Nat.le_of_not_lt fun q=>?_;have q':(n:Int)<((ns.length:Nat):Int):=by omega
    first
      | (rw[decide_eq_true q'] at h5; exact absurd h5 (by decide))
      | (simp at h5; omega)
  cases hwl with
  | cons w1 w2 =>
    cases w2;cases w1 with
    | list ho hall=>exact⟨_,_,ns,rfl,rfl,ho,xhh ns _ hall,hlen⟩
theorem xof (l:OpenLaw) (args:List WData):l.row.toRowW.claim.post args (.bool true) args=true :=
 postW_of (r:=l.row.toRowW) (X:=(true == true))
  (show WShape.has [] (.bool true) .bool=true by first|rfl|decide|simp[WShape.has,WShape.arms,WShape.armsAll])
  (show (WTm.eq .res (.lit (.bool true))).value [] { args:=args,res:=some (.bool true),after:=args }=some (.bool (true == true)) from w_eq_bool (w_res rfl) w_lit) rfl
theorem attach_call {l:OpenLaw}{n:Nat}{q:Program}{loose:List Str}{XP:(Str->Option Value)->Heap->Prop}{YP:World->Heap->Prop}{d:DefRec}
    (hn:l.most=some n) (hdf:d.params.defaults=[])
    (call:∀(w:World) (s₀ s₁:Shared) (mg mb:Str->Option Value) (fa:Addr) (o:Obj) (pm cd doc:Value) (a:Addr) (vs:List Value) (ns:List Int),
      Ground q loose [] XP w s₀ mg mb s₁.heap->YP w s₁.heap ->
      s₁.heap.get? fa=some o->o.data=.func (docDef d.name d.params d.body d.scope pm cd doc)->s₁.heap.CodeRec cd d.name->mg d.name=some (.ref fa) ->
      s₁.heap.get? a=some { cls:=.type "list",data:=.seq vs.toArray }->IntsAre vs ns->ns.length<=n->s₁.gens=#[] ->
      codeAny (model l.prog w) callerA (.call (.ref fa) ⟨[.ref a],[]⟩) (fun r s'=>r=.ok (.ret (.bool true))/\OldK s₁.heap s'.heap/\s'.os=s₁.os/\AllBare s'.gens) s₁) :
    WalkO q loose XP YP l.row.toRowW d [] (fun f vs=>PySem.call f vs):=by
  intro w s₀ s₁ mg mb G Y fa o pm cd doc dV kV ho hd hcd hD hmg hg args vals as hpre hlay hrd hwl hlo;obtain rfl:dV=.none:=Dflts.none hD hdf;obtain rfl:kV=.none:=Dflts.noKw hD;obtain⟨a,vs,ns,rfl,rfl,hobj,hints,hlen⟩:=xo1 hn hpre hwl;refine enter_call (QA (call w s₀ s₁ mg mb fa o pm cd doc a vs ns G Y ho (fd_plain hd) hcd hmg hobj hints hlen hg) fun r s' hq=>?_);obtain⟨rfl,h2,h3,h4⟩:=hq;exact⟨.inl ⟨.bool true,.bool true,[],rfl,fun _=>rfl,.bool true,xof l _,fun _=>⟨JN.nil,fun _ hm=>(nomatch hm)⟩⟩,h2,h3,h4⟩
section
variable {prog:Program}{w:World}{A:Around}{E:Value->Shared->Prop}{s:Shared}{K:Frag}
def xwu (h:Heap) (L d:Addr):List (Addr × Obj):=(Z3 h.objs.size).filterMap fun a=>if a=L\/a=d then none else (h.get? a).map fun o=>(a,o)
end
end Att
namespace L2
open PySem PySem.Spec PyProof.Rows
variable {q0:Bool}
theorem xis:∀{vs:List Value}{ns:List Int},IntsAre vs ns->Vals (ns.map V.int) vs
 | _,_,.nil=>.nil
 | _,_,.cons n t h=>.cons ⟨t,rfl⟩ (xis h)
def Only (H:Hp):Prop:=∀ b,H b=none\/∃ o xs,H b=some (.frz o (.lst xs))
theorem xqm {P:Program}{w:World}{K:Zd}{mg mb:Str->Option Value}{CX:CXT}{k:Nat}{fa a:Addr}{fd:FuncData}{x:Str}{sp:Sp}{s₁:Shared}{vs:List Value}{ns:List Int}
    (KX:K.In s₁.heap) (hns:s₁.heap.Ns mainGlobals mg) (hb:s₁.heap.Ns builtinsNs mb) (hbb:∀ x:Str,x≠"__name__"->mb x=bootBuiltins x) (hlim:s₁.heap.NoLimit) (hg:s₁.gens=#[])
    (ha:s₁.heap.get? a=some { cls:=.type "list",data:=.seq vs.toArray }) (hi:IntsAre vs ns) (hl:ns.length<=sizeLine) (hr:Room q0 k callerA)
    (F:∀ base:Heap,K.In base->base.Ns mainGlobals mg->FnOk q0 P w K mg base CX k fa fd [x] sp) (hbind:∀(s:Shared) (u:Value),BindsTo s fd ⟨[u],[]⟩ [(x,u)])
    (hsp:∀ H:Hp,Only H->SqL K H a (ns.map V.int)->sp [.ref a] H (fun v _=>v=.bl true) fun _ _ _=>False)
    (hCX:∀ H e s',CX [] H s₁ (fun _ _ _=>False) e s'->False) :
    codeAny (model P w) callerA (.call (.ref fa) ⟨[.ref a],[]⟩) (fun r s'=>r=.ok (.ret (.bool true))/\OldK s₁.heap s'.heap/\s'.os=s₁.os/\AllBare s'.gens) s₁:=by
  have rv:=xis hi;have lenV:=hi.length
  -- from an abstract heap in which nothing but the script may be tracked
  have core:∀ H:Hp,Only H->SqL K H a (ns.map V.int)->HOk P w H s₁.heap->(∀ b,H b≠none->b=a)->(H a≠none->K.lookup a=none) ->
      codeAny (model P w) callerA (.call (.ref fa) ⟨[.ref a],[]⟩) (fun r s'=>r=.ok (.ret (.bool true))/\OldK s₁.heap s'.heap/\s'.os=s₁.os/\AllBare s'.gens) s₁:=by
    intro H hO hS hok hA hK;have base_of:∀{b:Addr}{o:Obj},s₁.heap.get? b=some o->H b=none->(hidT s₁.heap H).get? b=some o:=fun e n=>xqh e n;have noA:∀{b:Addr}{o:Obj}{es:Array DictEntry}{ep:Nat},s₁.heap.get? b=some o->o.data=.dict es ep->H b=none:=fun {b o es ep} e d=>by
      cases q:H b with
      | none=>rfl
      | some u =>
        have e':b=a:=hA b (by rw[q]; simp);subst e';rw[ha] at e; cases e;have d':Data.seq vs.toArray _=Data.dict es ep:=d;cases d'
    have nsK:∀{b:Addr}{m:Str->Option Value},s₁.heap.Ns b m->(hidT s₁.heap H).Ns b m:=fun {b m} ⟨o,es,ep,e,d,r⟩=>⟨o,es,ep,base_of e (noA e d),d,r⟩
    have hKb:K.In (hidT s₁.heap H):=fun b o e=>base_of (KX b o e) (by
      cases q:H b with
      | none=>rfl
      | some u =>
        have e':b=a:=hA b (by rw[q]; simp);subst e';rw[hK (by rw[q]; simp)] at e; cases e)
    have hM:Mod K mg (hidT s₁.heap H):=⟨hKb,nsK hns,⟨mb,nsK hb,hbb⟩,let ⟨mc,h1,h2⟩:=hlim; ⟨mc,nsK h1,h2⟩⟩
    have e0:Env0 P w K mg (hidT s₁.heap H) callerA [] s₁ H:=⟨rfl,hM,fun b o e=>xtc e,Nat.le_of_eq (xnu _ _),trivial,fun b hb=>absurd (show b∈([]:List Addr) from hb) (by simp),hok,.of_eq hg⟩
    refine QA ((F _ hKb (nsK hns)).run callerA [] s₁ H ⟨[.ref a],[]⟩ [.ref a] [.ref a] _ _ hr e0 (hbind s₁ (.ref a)) (.cons rfl .nil) (hsp H hO hS)) fun r s' h=>?_;cases r with
    | error e=>exact (hCX H e s' h).elim
    | ok fl =>
      cases fl with
      | next=>exact J8 h
      | brk=>exact J8 h
      | cont=>exact J8 h
      | ret u =>
        obtain⟨v,H',os,bare,un,hok',r',q⟩:=h;have q':v=.bl true:=q;subst q';obtain rfl:u=Yi true:=r';refine⟨rfl,OldK.of_keep fun b o e=>?_,os,bare⟩;cases q:H b with
        | none=>exact un.keep b o e q (by intro z; exact absurd (show b∈([]:List Addr) from z) (by simp)) (by simp)
        | some u =>
          rcases hO b with z|⟨ob,xs,z⟩
          . rw[q] at z; cases z
          . have z2:=un.frzs b ob _ z
            obtain⟨e1,_⟩:=hok b _ z;obtain⟨e2,_⟩:=hok' b _ z2;rw[e] at e1; cases e1;exact e2
  cases hk:K.lookup a with
  | some o =>
    -- the script is one of the module's own objects
    have e:=KX a o hk;rw[ha] at e;cases e;refine core (fun _=>none) (fun _=>.inl rfl) (.inr ⟨_,vs.toArray,_,hk,rfl,rfl,rfl,by rw[Zw,lenV]; exact hl,by simpa using rv⟩) (fun b u z=>by have z':(none:Option HO)=some u:=z; cases z') (fun b z=>absurd rfl z) fun z=>absurd rfl z
  | none =>
    refine core (fun b=>if b=a then some (.frz { cls:=.type "list",data:=.seq vs.toArray } (.lst (ns.map V.int))) else none) (fun b=>?_) (.inl (.inr ⟨{ cls:=.type "list",data:=.seq vs.toArray },if_pos rfl⟩)) (fun b u z=>?_) (fun b z=>?_) fun _=>hk
    . by_cases hb:b=a
      . exact .inr ⟨_,_,if_pos hb⟩
      . exact .inl (if_neg hb)
    . by_cases hb:b=a
      . have z':=(if_pos hb).symm.trans z
        cases z';subst hb;exact⟨ha,by rw[Za]; exact hl,vs,_,rv,ha⟩
      . have z':=(if_neg hb).symm.trans z
        cases z'
    . by_cases hb:b=a
      . exact hb
      . exact absurd (if_neg hb) z
abbrev KOf {K:Zd}{h:Heap} (_:K.In h):Zd:=K
theorem walk_of {l:PySem.W.OpenLaw}{n k:Nat}{q:Program}{loose:List Str}{XP:(Str->Option Value)->Heap->Prop}{YP:World->Heap->Prop}{d:DefRec}{K:Params->Zd}{CX:World->CXT}{sp:World->Sp}{x:Str}
    (hn:l.most=some n) (hn2:n<=sizeLine) (hdf:d.params.defaults=[]) (hr:Room q0 k callerA)
    (hY:∀(w:World) (h:Heap),YP w h->(K w.params).In h)
    (F:∀(w:World) (mg:Str->Option Value) (fa:Addr) (h:Heap),(K w.params).In h->h.Ns mainGlobals mg->mg d.name=some (.ref fa) ->
      ∃ fd:FuncData,(∀(s:Shared) (u:Value),BindsTo s fd ⟨[u],[]⟩ [(x,u)]) /\
        ∀ base:Heap,(K w.params).In base->base.Ns mainGlobals mg->FnOk q0 l.prog w (K w.params) mg base (CX w) k fa fd [x] (sp w))
    (hsp:∀(w:World) (H:Hp) (a:Addr) (ns:List Int),ns.length<=n->Only H->SqL (K w.params) H a (ns.map V.int)->sp w [.ref a] H (fun v _=>v=.bl true) fun _ _ _=>False)
    (hCX:∀(w:World) (H:Hp) (s:Shared) (e:Value) (s':Shared),CX w [] H s (fun _ _ _=>False) e s'->False) :
    PySem.W.WalkO q loose XP YP l.row.toRowW d [] (fun f vs=>PySem.call f vs):=by
  refine Att.attach_call hn hdf fun w s₀ s₁ mg mb fa o pm cd doc a vs ns G Y ho hd hcd hmg hobj hints hlen hg=>?_;have KX:=hY w _ Y;obtain⟨fd,hb,hF⟩:=F w mg fa _ KX G.T.g hmg;exact xqm KX G.T.g G.T.b G.T.builtins G.T.nolimit hg hobj hints (Zy hlen hn2) hr hF hb (fun H hO hS=>hsp w H a ns hlen hO hS) fun H e s'=>hCX w H s₁ e s'
def xaw (s:Stmt) (j:Nat):Stmt:=match s with
 | .ClassDef _ _ _ body _ _ _ _ _ _ _=>body.getD j (.Pass ⟨0,0,0,0⟩)
 | _=>.Pass ⟨0,0,0,0⟩
def xbw (s:Stmt):Arguments:=match s with
 | .FunctionDef _ a _ _ _ _ _ _ _ _=>a
 | _=>{ posonlyargs:=[],args:=[],vararg:=none,kwonlyargs:=[],kw_defaults:=[],kwarg:=none,defaults:=[] }
def xbb (s:Stmt):List Stmt:=match s with
 | .FunctionDef _ _ b _ _ _ _ _ _ _=>b
 | _=>[]
def xp (s:Stmt):Scope:=match s with
 | .FunctionDef _ _ _ _ _ _ sc _ _ _=>sc
 | _=>{ kind:=.function,names:=[],isGenerator:=false,isCoroutine:=false }
abbrev CX0:CXT:=fun _ _ _ _ _ _=>False
structure Fun (K:Zd) (x qual:Str) (st:Stmt) (f:Addr) (fd:FuncData):Prop where
 ex:∃(oc:Value) (od:Option Addr) (kV doc pm:Value) (an:Option Addr) (cdv ct:Value) (osl:Array (Option Value)),
  fd=Jo x qual (xbw st) (xbb st) (xp st) .none kV doc pm an cdv ct/\K.lookup f=some ⟨oc,od,.func fd,osl⟩/\YL K cdv qual=true
 kp:Jl K (.ref f)=true
section
variable {P:Program}{w:World}{K:Zd}{mg:Str->Option Value}{base:Heap}
theorem Fun.ok {x qual:Str}{st:Stmt}{f:Addr}{fd:FuncData}{N ps:List Str}{k:Nat}{sp:Sp} (F:Fun K x qual st f fd) (S:xv N ps (xp st)) (len:∀ vs H Q E,sp vs H Q E->vs.length=ps.length)
    (hbody:∀(cdv:Value) (A:Around) (outer:List Env) (s:Shared) (H:Hp) (vs:List V) (Q:VK) (E:XK),Room q0 k (A.deeper (envOfC qual (xp st) s.heap.objs.size f cdv))->sp vs H Q E ->
      ∃ t,PSs (cxOf q0 CX0 P w K mg base N qual (xp st) f cdv A outer s H E).nox (xbb st) t/\t { nx:=fun _ H'=>Q .non H',rt:=Q } (xc7 N vs) H):FnOk q0 P w K mg base CX0 (k+1) f fd ps sp:=by
  obtain⟨oc,od,kV,doc,pm,an,cdv,ct,osl,rfl,lk,hcd⟩:=F.ex;refine xj1 lk hcd S len fun A outer s H vs Q E hr hsp=>?_;obtain⟨t,h,q⟩:=hbody cdv A outer s H vs Q E hr hsp;exact⟨t,h.nox,q⟩
theorem Fun.binds {x qual:Str}{st:Stmt}{f:Addr}{fd:FuncData}{ps:List Str} (F:Fun K x qual st f fd)
    (h:∀(kV doc pm:Value) (an:Option Addr) (cdv ct:Value) (us:List Value),us.length=ps.length->bindArgs (Jo x qual (xbw st) (xbb st) (xp st) .none kV doc pm an cdv ct) ⟨us,[]⟩=pure (ps.zip us)):xz K fd ps []:=by
  obtain⟨oc,od,kV,doc,pm,an,cdv,ct,osl,rfl,lk,hcd⟩:=F.ex;exact .all (h kV doc pm an cdv ct)
theorem fun_mk {x qual:Str}{st:Stmt}{f:Addr}{oc:Value}{od an:Option Addr}{osl:Array (Option Value)}{kV doc pm cdv ct:Value} (l:K.lookup f=some ⟨oc,od,.func (Jo x qual (xbw st) (xbb st) (xp st) .none kV doc pm an cdv ct),osl⟩)
    (c:YL K cdv qual=true) (k:Jl K (.ref f)=true):Fun K x qual st f (Jo x qual (xbw st) (xbb st) (xp st) .none kV doc pm an cdv ct):=⟨⟨oc,od,kV,doc,pm,an,cdv,ct,osl,rfl,l,c⟩,k⟩
end
theorem xa5 {A:Around}{k:Nat} (hr:Room q0 k A):A.units+1<cLine:=Z6 (Nat.add_le_add_left (by decide:1<=64) _) hr.units
section
variable {X:Cx}
theorem pv (i:Nat) {x:Str}{pos:Pos} (hN:X.N[i]?=some x:=by rfl) (hv:Vis X.env.scope x:=by first|exact Zp rfl|exact Jf (Zp rfl)|exact Jf (Jf rfl)) (hd:(x == ("__debug__":Str))=false:=by decide)
    (hcd:(x == ("__classdict__":Str))=false:=by decide):PE X (.Name x pos) (tVar i):=xuy hN hv hd hcd
end
theorem iteF {A B:Prop} (h:B):if false=true then A else B:=by
 rw[if_neg Z7];exact h
theorem iteT {A B:Prop} (h:A):if true=true then A else B:=by
 rw[if_pos rfl];exact h
theorem ite2 {c A B:Prop} [Decidable c] (h1:c->A) (h2:¬ c->B):if c then A else B:=by
 by_cases h:c
 .rw [if_pos h];exact h1 h
 .rw [if_neg h];exact h2 h
def Same (H H':Hp):Prop:=∀ b o,H b=some o->H' b=some o
theorem Same.refl (H:Hp):Same H H:=fun _ _ h=>h
theorem Same.trans {H H1 H2:Hp} (a:Same H H1) (b:Same H1 H2):Same H H2:=fun c o h=>b c o (a c o h)
theorem Same.free {H H':Hp} (e:Same H H') {l:Addr} (h:H' l=Option.none):H l=Option.none:=by
 cases q:H l with
 | none=>rfl
 | some o =>
  rw[e l o q] at h;cases h
theorem Same.seq {K:Zd}{H H':Hp}{a:Addr}{xs:List V} (e:Same H H') (h:SqL K H a xs):SqL K H' a xs:=by
 rcases h with (h|⟨o,h⟩)|h
 .exact .inl (.inl (e _ _ h))
 .exact .inl (.inr ⟨o,e _ _ h⟩)
 .exact .inr h
end L2
namespace Srt
open PySem PySem.W PyProof.Rows
abbrev CM:=Nat->Nat->(Bool->Shared->Prop)->Shared->Prop
abbrev g (p:Array Nat) (i:Nat):Nat:=p.getD i 0
structure Ord (n:Nat) (lt:Nat->Nat->Bool):Prop where
 irr:∀ i,i<n->lt i i=false
 tr:∀ i j k,i<n->j<n->k<n->lt i j=true->lt j k=true->lt i k=true
 tot:∀ i j,i<n->j<n->i≠j->lt i j=false->lt j i=true
def Cmp (n:Nat) (lt:Nat->Nat->Bool) (cmp:CM) (s:Shared):Prop:=∀ i j,i<n->j<n->∀ Q:Bool->Shared->Prop,Q (lt i j) s->cmp i j Q s
theorem xco {α:Type}{cmp:CM}{a:α}{Q:α->Shared->Prop}{s:Shared} (h:Q a s):KasT.kasWp cmp (.ret a) Q s:=h
theorem xfr {α:Type}{cmp:CM}{i j:Nat}{k:Bool->KasT α}{Q:α->Shared->Prop}{s:Shared} (h:cmp i j (fun c s'=>KasT.kasWp cmp (k c) Q s') s):KasT.kasWp cmp (.ask i j k) Q s:=h
theorem xwe {p:Array Nat}{n:Nat}:kas_asc p 0 n=.ret n:=by unfold kas_asc; rfl
theorem xwr {p:Array Nat}{f n:Nat}:kas_asc p (f+1) n=.ask (p.getD n 0) (p.getD (n-1) 0) fun c=>if c=true then .ret n else kas_asc p f (n+1):=by rw[kas_asc]
theorem xvd {p:Array Nat}{k:Nat}:kas_bin 0 p k=.ret p:=by unfold kas_bin; rfl
theorem xwh {f:Nat}{p:Array Nat}{k:Nat}:kas_bin (f+1) p k=(kas_place p k k 0 k).bind fun l=>kas_bin f (bubble p k (k-l)) (k+1):=by rw[kas_bin]
theorem xsq {p:Array Nat}{k l r:Nat}:kas_place p k 0 l r=.ret l:=by unfold kas_place; rfl
theorem xr8 {p:Array Nat}{k f l r:Nat}:kas_place p k (f+1) l r=if l>=r then .ret l else .ask (p.getD k 0) (p.getD ((l+r) / 2) 0) fun c=>if c=true then kas_place p k f l ((l+r) / 2) else kas_place p k f ((l+r) / 2+1) r:=by rw[kas_place]
theorem xt9 {p:Array Nat}{k l:Nat}:kas_desc 0 p k l=.ret (p,k,l):=by unfold kas_desc; rfl
theorem xub {f:Nat}{p:Array Nat}{k l:Nat}:kas_desc (f+1) p k l=.ask (p.getD k 0) (p.getD (k-1) 0) fun c=>if c=true then (if l>0 then kas_desc f (kas_rev p (k-(l+1)) k) (k+1) 0 else kas_desc f p (k+1) 0) else .ask (p.getD (k-1) 0) (p.getD k 0) fun d=>if d=true then .ret (p,k,l) else kas_desc f p (k+1) (l+1):=by rw[kas_desc]
section
variable {n:Nat}{lt:Nat->Nat->Bool}{cmp:CM}{s:Shared}
structure Arr (n:Nat) (p:Array Nat):Prop where
 sz:p.size=n
 lt:∀ i,i<n->g p i<n
 inj:∀ i j,i<n->j<n->g p i=g p j->i=j
 pm:p.Perm (Z3 n).toArray
theorem g_at {p:Array Nat}{i:Nat}{v:Nat} (h:p[i]?=some v):g p i=v:=by
 show p.getD i 0=v;rw[Array.getD_eq_getD_getElem?,h];rfl
theorem Arr.at {p:Array Nat} (a:Arr n p) {i:Nat} (h:i<n):p[i]?=some (g p i):=by
 have z:i<p.size:=by rw[a.sz]; exact h
 have e:p[i]?=some p[i]:=Y5 z;rw[e,g_at e]
def Srtd (lt:Nat->Nat->Bool) (p:Array Nat) (m:Nat):Prop:=∀ i j,i<j->j<m->lt (g p i) (g p j)=true
theorem xmu (o:Ord n lt) {p:Array Nat} (a:Arr n p) {m:Nat} (hm:m<=n) (h:∀ i,1<=i->i<m->lt (g p (i-1)) (g p i)=true):Srtd lt p m:=by
 intro i j hij hj;obtain⟨d,rfl⟩:∃ d,j=i+1+d:=⟨j-(i+1),by omega⟩
 induction d with
 | zero=>exact h (i+1) (by omega) hj
 | succ d ih =>
  have h1:=ih (by omega) (by omega);have h2:=h (i+1+(d+1)) (by omega) hj;exact o.tr _ _ _ (a.lt _ (by omega)) (a.lt _ (by omega)) (a.lt _ (by omega)) h1 h2
theorem xkt (c:Cmp n lt cmp s) {p:Array Nat} (a:Arr n p) {G:Nat->Shared->Prop}:∀(f k:Nat),1<=k->k+f<=n ->
    (∀ m,k<=m->m<=k+f->(∀ i,k<=i->i<m->lt (g p i) (g p (i-1))=false)->(m<k+f->lt (g p m) (g p (m-1))=true)->G m s)->KasT.kasWp cmp (kas_asc p f k) G s
  | 0,k,h1,hf,hG=>by
    rw[xwe];exact xco (hG k (Zj _) (by omega) (fun i h h'=>by omega) (fun h=>by omega))
  | f+1,k,h1,hf,hG=>by
    rw[xwr];refine xfr (c _ _ (a.lt k (by omega)) (a.lt (k-1) (by omega)) _ ?_);cases e:lt (g p k) (g p (k-1)) with
    | true =>
      exact xco (hG k (Zj _) (by omega) (fun i h h'=>by omega) (fun _=>e))
    | false =>
      show KasT.kasWp cmp (kas_asc p f (k+1)) G s;refine xkt c a f (k+1) (by omega) (by omega) fun m hm hm2 h3 h4=>hG m (by omega) (by omega) (fun i hi hi2=>?_) (fun h=>h4 (by omega));by_cases z:i=k
      . rw[z]; exact e
      . exact h3 i (by omega) hi2
theorem xmc (o:Ord n lt) (c:Cmp n lt cmp s) {p:Array Nat} (a:Arr n p) {G:Array Nat × Nat × Nat->Shared->Prop}:∀(f k:Nat),1<=k->k+f<=n ->
    (∀ m,k<=m->m<=k+f->(∀ i,k<=i->i<m->lt (g p i) (g p (i-1))=true)->G (p,m,0) s)->KasT.kasWp cmp (kas_desc f p k 0) G s
  | 0,k,h1,hf,hG=>by
    rw[xt9];exact xco (hG k (Zj _) (by omega) (fun i h h'=>by omega))
  | f+1,k,h1,hf,hG=>by
    rw[xub];refine xfr (c _ _ (a.lt k (by omega)) (a.lt (k-1) (by omega)) _ ?_);cases e:lt (g p k) (g p (k-1)) with
    | true =>
      show KasT.kasWp cmp (kas_desc f p (k+1) 0) G s;refine xmc o c a f (k+1) (by omega) (by omega) fun m hm hm2 h3=>hG m (by omega) (by omega) fun i hi hi2=>?_;by_cases z:i=k
      . rw[z]; exact e
      . exact h3 i (by omega) hi2
    | false =>
      refine xfr (c _ _ (a.lt (k-1) (by omega)) (a.lt k (by omega)) _ ?_);have ne:g p k≠g p (k-1):=fun z=>by have:=a.inj _ _ (by omega) (by omega) z; omega
      rw[show lt (p.getD (k-1) 0) (p.getD k 0)=true from o.tot _ _ (a.lt k (by omega)) (a.lt (k-1) (by omega)) ne e];exact xco (hG k (Zj _) (by omega) (fun i h h'=>by omega))
theorem Arr.rev {p:Array Nat} (a:Arr n p) {k:Nat} (hk:k<=n):Arr n (kas_rev p 0 k)/\∀ i,i<n->g (kas_rev p 0 k) i=if i<k then g p (k-1-i) else g p i:=by
 have ge:∀ i,i<n->g (kas_rev p 0 k) i=if i<k then g p (k-1-i) else g p i:=fun i hi=>by
  have z:=getElem?_mirror_all (xs:=p) (i:=0) (j:=k) (by rw[a.sz]; exact hk) i;by_cases c:i<k
  .rw [if_pos c];rw[if_pos ⟨ZW _,c⟩,show 0+k-1-i=k-1-i by omega,a.at (show k-1-i<n by omega)] at z;exact g_at z
  .rw [if_neg c];rw[if_neg (fun w=>c w.2),a.at hi] at z;exact g_at z
 refine⟨⟨by rw[kas_rev_size,a.sz],fun i hi=>?_,fun i j hi hj e=>?_,(mirror_perm _ _ _ _).trans a.pm⟩,ge⟩
 .rw [ge i hi];split<;>exact a.lt _ (by omega)
 .rw [ge i hi,ge j hj] at e;split at e<;>split at e<;>have:=a.inj _ _ (by omega) (by omega) e<;>omega
theorem xqg (o:Ord n lt) (c:Cmp n lt cmp s) {p:Array Nat} (a:Arr n p) (h2:2<=n) {G:Nat × Array Nat->Shared->Prop}
    (hG:∀ m p',1<=m->m<=n->Arr n p'->Srtd lt p' m->G (m,p') s):KasT.kasWp cmp (kas_count n p) G s:=by
  unfold kas_count;rw[KasT.kasWp_bind];have up:∀ q,Arr n q->∀ i,1<=i->i<n->lt (g q i) (g q (i-1))=false->lt (g q (i-1)) (g q i)=true:=fun q b i h1 hi e =>
    o.tot _ _ (b.lt i hi) (b.lt (i-1) (by omega)) (fun z=>by have:=b.inj _ _ hi (by omega) z; omega) e
  refine xkt c a (n-1) 1 (Zj _) (by omega) fun m hm hm2 h3 h4=>?_;have sm:Srtd lt p m:=xmu o a (by omega) fun i hi hi2=>up p a i hi (by omega) (h3 i hi hi2);show KasT.kasWp cmp (if (m == n)=true then _ else _) G s;by_cases e1:m=n
  . rw[if_pos (by simpa using e1)]
    exact xco (hG m p hm (by omega) a sm)
  . rw[if_neg (by simpa using e1)]
    by_cases e2:m>1
    . rw[if_pos e2]
      refine xfr (c _ _ (a.lt 0 (by omega)) (a.lt (m-1) (by omega)) _ ?_);rw[show lt (p.getD 0 0) (p.getD (m-1) 0)=true from sm 0 (m-1) (by omega) (by omega)];exact xco (hG m p hm (by omega) a sm)
    . rw[if_neg e2]
      have m1:m=1:=by omega
      subst m1;have d1:=h4 (by omega);unfold kas_descPart;rw[KasT.kasWp_bind];refine xmc o c a (n-(1+1)) (1+1) (by omega) (by omega) fun k hk hk2 h5=>?_;show KasT.kasWp cmp (if (0:Nat)>0 then _ else kas_tail3 k n p) G s;rw[if_neg (JY 0)];unfold kas_tail3;rw[KasT.kasWp_bind];obtain⟨b,ge⟩:=a.rev (k:=k) (by omega);refine xkt c b (n-k) k (by omega) (by omega) fun m' hm' hm2' h6 _=>?_;refine xco (hG m' _ (by omega) (by omega) b (xmu o b (by omega) fun i hi hi2=>?_));by_cases ik:i<k
      . rw[ge i (by omega),ge (i-1) (by omega),if_pos ik,if_pos (by omega)]
        have e3:k-1-(i-1)-1=k-1-i:=by omega
        by_cases z:k-1-(i-1)=1
        . have z':k-1-i=0:=by omega
          rw[z,z'];exact d1
        . have:=h5 (k-1-(i-1)) (by omega) (by omega)
          rw[e3] at this;exact this
      . exact up _ b i hi (by omega) (h6 i (by omega) hi2)
theorem xgz (o:Ord n lt) (c:Cmp n lt cmp s) {p:Array Nat} (a:Arr n p) {k:Nat} (hk:k<n) (sk:Srtd lt p k) {G:Nat->Shared->Prop}:∀(f l r:Nat),l<=r->r<=k->r-l<=f ->
    (∀ j,j<l->lt (g p k) (g p j)=false)->(∀ j,r<=j->j<k->lt (g p k) (g p j)=true) ->
    (∀ m,m<=k->(∀ j,j<m->lt (g p k) (g p j)=false)->(∀ j,m<=j->j<k->lt (g p k) (g p j)=true)->G m s)->KasT.kasWp cmp (kas_place p k f l r) G s
  | 0,l,r,h1,h2,h3,lo,hi,hG=>by
    rw[xsq];exact xco (hG l (by omega) lo fun j hj hj2=>hi j (by omega) hj2)
  | f+1,l,r,h1,h2,h3,lo,hi,hG=>by
    rw[xr8];by_cases e:l>=r
    . rw[if_pos e]
      exact xco (hG l (by omega) lo fun j hj hj2=>hi j (by omega) hj2)
    . rw[if_neg e]
      have m1:(l+r) / 2<r:=by omega
      have m2:l<=(l+r) / 2:=by omega
      refine xfr (c _ _ (a.lt k hk) (a.lt _ (by omega)) _ ?_);cases e2:lt (g p k) (g p ((l+r) / 2)) with
      | true =>
        show KasT.kasWp cmp (kas_place p k f l ((l+r) / 2)) G s;refine xgz o c a hk sk f l _ m2 (by omega) (by omega) lo (fun j hj hj2=>?_) hG;by_cases z:j=(l+r) / 2
        . rw[z]; exact e2
        . exact o.tr _ _ _ (a.lt k hk) (a.lt _ (by omega)) (a.lt _ (by omega)) e2 (sk _ _ (by omega) hj2)
      | false =>
        show KasT.kasWp cmp (kas_place p k f ((l+r) / 2+1) r) G s;refine xgz o c a hk sk f _ r (by omega) h2 (by omega) (fun j hj=>?_) hi hG;by_cases z:j=(l+r) / 2
        . rw[z]; exact e2
        . cases e3:lt (g p k) (g p j) with
          | false=>rfl
          | true =>
            have:=o.tr _ _ _ (a.lt k hk) (a.lt _ (by omega)) (a.lt _ (by omega)) e3 (sk j ((l+r) / 2) (by omega) (by omega));rw[e2] at this;cases this
theorem Arr.bub {p:Array Nat} (a:Arr n p) {k m:Nat} (hk:k<n) (hm:m<=k):Arr n (bubble p k (k-m))/\∀ i,i<n->g (bubble p k (k-m)) i=if i=m then g p k else if m<i/\i<=k then g p (i-1) else g p i:=by
 have ge:∀ i,i<n->g (bubble p k (k-m)) i=if i=m then g p k else if m<i/\i<=k then g p (i-1) else g p i:=fun i hi=>by
  have z:=getElem?_bubble (xs:=p) (src:=k) (by rw[a.sz]; exact hk) (k-m) (by omega) i;rw[show k-(k-m)=m by omega] at z;by_cases c:i=m
  .rw [if_pos c];rw[if_pos c,a.at hk] at z;exact g_at z
  .rw [if_neg c];rw[if_neg c] at z;by_cases d:m<i/\i<=k
   .rw [if_pos d];rw[if_pos d,a.at (show i-1<n by omega)] at z;exact g_at z
   .rw [if_neg d];rw[if_neg d,a.at hi] at z;exact g_at z
 refine⟨⟨by rw[bubble_size,a.sz],fun i hi=>?_,fun i j hi hj e=>?_,(bubble_perm _ _ _).trans a.pm⟩,ge⟩
 .rw [ge i hi];split
  .exact a.lt _ hk
  .split<;>exact a.lt _ (by omega)
 .rw [ge i hi,ge j hj] at e;split at e<;>(try split at e)<;>(try split at e)<;>(try split at e)<;>first|omega|(have:=a.inj _ _ (by omega) (by omega) e; omega)
theorem xob (o:Ord n lt) (c:Cmp n lt cmp s) {G:Array Nat->Shared->Prop}:∀(f k:Nat) (p:Array Nat),k+f=n->Arr n p->Srtd lt p k->(∀ p',Arr n p'->Srtd lt p' n->G p' s)->KasT.kasWp cmp (kas_bin f p k) G s
 | 0,k,p,h,a,sk,hG=>by
  rw[xvd];have:k=n:=by omega
  subst this;exact xco (hG p a sk)
 | f+1,k,p,h,a,sk,hG=>by
  have hk:k<n:=by omega
  rw[xwh,KasT.kasWp_bind];refine xgz o c a hk sk k 0 k (ZW _) (Zj _) (by omega) (fun j hj=>by omega) (fun j hj hj2=>by omega) fun m hm lo hi=>?_;obtain⟨b,ge⟩:=a.bub hk hm;refine xob o c f (k+1) _ (by omega) b (fun i j hij hj=>?_) hG;have inS:∀ i,i<m->lt (g p i) (g p k)=true:=fun i hi'=>o.tot _ _ (a.lt k hk) (a.lt i (by omega)) (fun z=>by have:=a.inj _ _ hk (by omega) z; omega) (lo i hi');have g1:∀ i,i<n->i=m->g (bubble p k (k-m)) i=g p k:=fun i hi z=>by rw[ge i hi,if_pos z]
  have g2:∀ i,i<n->m<i->i<=k->g (bubble p k (k-m)) i=g p (i-1):=fun i hi z z2=>by rw[ge i hi,if_neg (by omega),if_pos ⟨z,z2⟩]
  have g3:∀ i,i<n->i<m->g (bubble p k (k-m)) i=g p i:=fun i hi z=>by rw[ge i hi,if_neg (by omega),if_neg (by omega)]
  by_cases j1:j=m
  .rw [g1 j (by omega) j1,g3 i (by omega) (by omega)];exact inS i (by omega)
  .by_cases i1:i=m
   .rw [g1 i (by omega) i1,g2 j (by omega) (by omega) (by omega)];exact hi (j-1) (by omega) (by omega)
   .by_cases j2:m<j
    .rw [g2 j (by omega) j2 (by omega)];by_cases i2:m<i
     .rw [g2 i (by omega) i2 (by omega)];exact sk _ _ (by omega) (by omega)
     .rw [g3 i (by omega) (by omega)];by_cases z:i=j-1
      .omega
      .exact sk _ _ (by omega) (by omega)
    .rw [g3 j (by omega) (by omega),g3 i (by omega) (by omega)];exact sk _ _ hij (by omega)
theorem xow:Arr n (Z3 n).toArray:=by
 have e:∀ i,i<n->g (Z3 n).toArray i=i:=fun i hi=>g_at (by rw[List.getElem?_toArray,Jn hi]);exact⟨by simp,fun i hi=>by rw[e i hi]; exact hi,fun i j hi hj z=>by rw[e i hi,e j hj] at z; exact z,Array.Perm.refl _⟩
theorem sort_wp (o:Ord n lt) (c:Cmp n lt cmp s) (h2:2<=n) {G:Array Nat->Shared->Prop} (hG:∀ p,Arr n p->Srtd lt p n->G p s):KasT.kasWp cmp (kas_sort n) G s:=by
 unfold kas_sort;rw[KasT.kasWp_bind];refine xqg o c xow h2 fun m p hm hm2 a sm=>?_;show KasT.kasWp cmp (if m<n then _ else _) G s;by_cases e:m<n
 .rw [if_pos e];show KasT.kasWp cmp (kas_bin (n-max m 1) p (max m 1)) G s;rw[Nat.max_eq_left hm];exact xob o c (n-m) m p (by omega) a sm hG
 .rw [if_neg e];have:m=n:=by omega
  subst this;exact xco (hG p a sm)
end
end Srt
namespace XL
open PySem
def Xat (h:Heap) (e:Addr) (cls:Value) (od tb:Option Addr):Prop :=
 ∃ oe vs,h.get? e=some oe/\oe.cls=cls/\oe.dict=od/\oe.data=.fields vs/\1<vs.size /\
  ((tb=none/\vs[1]?=some ZU)\/∃ T oT ts,tb=some T/\vs[1]?=some (.ref T)/\T≠e/\h.get? T=some oT/\oT.data=.fields ts/\ts[3]?=some ZU)
structure Stp (fs:List Addr) (e:Addr) (tb:Option Addr) (h h':Heap):Prop where
 keep:∀ b o,h.get? b=some o->b≠e->tb≠some b->b∉fs->h'.get? b=some o
 slot:∀ b o,h.get? b=some o->b∈fs->∃ sl,h'.get? b=some { o with slots:=sl }
abbrev xj6 (l:List Env):List Addr:=l.filterMap (·.frame)
theorem xo0 (o:Obj) (f:Array Value->Array Value):(o.mapFields f).dict=o.dict:=by
 obtain⟨c,d,dt,sl⟩:=o;cases dt<;>rfl
section
variable {M:Model}{A:Around}{E:Value->Shared->Prop}{s:Shared}
theorem xmg {base:Heap}{env:Env}{outer:List Env}{L e:Addr}{oe:Obj}{vs:Array Value}{hd:Value}{nx:Bool}{cls:Value}{od tb:Option Addr}{g:Heap}{Q:Unit->Shared->Prop}
    (fr:A.frames=some (env::outer)) (ff:s.heap.FunFrames base (env::outer)) (fL:env.frame=some L)
    (ge:s.heap.get? e=some oe) (de:oe.data=.fields vs) (se:1<vs.size) (ce:oe.cls=cls) (oo:oe.dict=od)
    (st:Stp (xj6 (env::outer)) e tb g s.heap) (sz:g.objs.size<=s.heap.objs.size)
    (k:∀ h' T,Stp (xj6 (env::outer)) e tb g h'->g.objs.size<=T->Xat h' e cls od (some T)->Q () { s with heap:=h' }) :
    wpAny M A (do let a <- frameOf env; let pl <- entryPlaceOf L nx; let b <- EntryCells.newEntry hd a .none (rawInt L) .none pl; setField (.ref e) 1 b) (fun _ s'=>wpAny M A (setFlight (.ref e) none) Q E s') E s:=by
  have nef:e∉xj6 (env::outer):=fun hm=>by
    obtain⟨_,o,ho,hnf⟩:=ff.mem hm;have z:=ge.symm.trans ho;cases z;exact hnf vs de
  refine Zc (wpAny_frameOf_fun fr ff fL fun h1 so=>?_);refine Zc (wpAny_entryPlaceOf fun pl ip=>?_);unfold EntryCells.newEntry newFields;refine Zc (Yq ?_ (ip.sizeOk5 _ _ _ _ _));have e1:h1.get? e=some oe:=(so.2.1 e nef).trans ge;generalize eT:({ cls:=.type "traceback",dict:=none,data:=.fields ([hd,.ref L,.none,rawInt L,.none]++(if pl.isEmpty then ZC 6 ZU else pl)).toArray }:Obj)=oT;have dT:oT.data=.fields ([hd,.ref L,.none,rawInt L,.none]++(if pl.isEmpty then ZC 6 ZU else pl)).toArray:=by rw[<- eT]
  have fT:oT.isFreed=false:=by rw[<- eT]; rfl
  have e2:(h1.push oT).get? e=some oe:=Zh oT e1;refine QY e2 de se ?_;have nTe:h1.objs.size≠e:=Yj (Zq e1);have d3:=YE de (·.setIfInBounds 1 (Zm h1.objs.size));have e3:=ZM (YU (·.setIfInBounds 1 (Zm h1.objs.size))) e2 (YS d3);have T3:((h1.push oT).update e (YU (·.setIfInBounds 1 (Zm h1.objs.size)))).get? h1.objs.size=some oT :=
    (Ja (h1.push oT) _ (ZI nTe)).trans (Z5 h1 fT)
  unfold setFlight;refine Zc (Yv e3 d3 (x:=.ref h1.objs.size) (by simp[se]) ?_);rw[if_pos (show (Zm h1.objs.size != ZU)=true from by simp)];refine QY T3 dT (by simp only[Zw,Zo,ZF,YZ]<;>omega) (k _ h1.objs.size ?_ ?_ ?_)
  . have go:∀ b o,b≠e->h1.get? b=some o->(((h1.push oT).update e (YU (·.setIfInBounds 1 (Zm h1.objs.size)))).update h1.objs.size
        (YU (·.setIfInBounds 3 ((none:Option Addr).elim ZU fun f=>rawInt f)))).get? b=some o:=fun b o be hb=>by
      have bT:h1.objs.size≠b:=Yj (Zq hb);rw[Ja _ _ bT,Ja _ _ (ZI be)];exact Zh oT hb
    refine⟨fun b o hb be bt bf=>go b o be ((so.2.1 b bf).trans (st.keep b o hb be bt bf)),fun b o hb bf=>?_⟩;obtain⟨sl,h2⟩:=st.slot b o hb bf;obtain⟨sl2,h3⟩:=so.2.2 b _ h2;exact⟨sl2,go b _ (fun z=>nef (z▸bf)) h3⟩
  . rw[so.1]; exact sz
  . refine⟨_,_,?_,(Obj.cls_mapFields _ _).trans ce,(xo0 _ _).trans oo,d3,by simp[se],.inr ⟨h1.objs.size,_,_,rfl,by simp[se],nTe,ZM _ T3 (YS (YE dT _)),YE dT _,?_⟩⟩
    . rw[Ja _ _ nTe]
      exact e3
    . first|(simp; done)|(rcases ip with rfl|⟨_,_,_,_,_,_,_,rfl⟩<;>simp)
theorem xou {base:Heap}{env:Env}{outer:List Env}{L e:Addr}{cls:Value}{od tb:Option Addr}{Q:Unit->Shared->Prop}
    (fr:A.frames=some (env::outer)) (ff:s.heap.FunFrames base (env::outer)) (fL:env.frame=some L) (x:Xat s.heap e cls od tb)
    (k:∀ h' T,Stp (xj6 (env::outer)) e tb s.heap h'->s.heap.objs.size<=T->Xat h' e cls od (some T)->Q () { s with heap:=h' }) :
    wpAny M A (noteFrame (.ref e) env) (fun _ s'=>wpAny M A (setFlight (.ref e) none) Q E s') E s:=by
  obtain⟨oe,vs,ge,ce,oo,de,se,y⟩:=x;unfold noteFrame;simp only[fL];rcases y with⟨rfl,h1⟩|⟨T,oT,ts,rfl,h1,nTe,gT,dT,h3⟩
  . refine Zc (Yv ge de h1 ?_)
    rw[if_neg (by decide)];exact xmg fr ff fL ge de se ce oo ⟨fun b o hb _ _ _=>hb,fun b o hb _=>⟨o.slots,hb⟩⟩ (Zj _) k
  . refine Zc (Yv ge de h1 ?_)
    rw[if_pos (show (Zm T != ZU)=true from by simp)];refine Zc (Yv gT dT h3 ?_);rw[if_neg (show ¬ ((ZU == rawInt L)=true) from by simp[rawInt])];refine Zc (QY gT dT (Array.getElem?_eq_some_iff.mp h3).1 ?_);have ot:∀ b,b≠T->(s.heap.update T (YU (·.setIfInBounds 3 ZU))).get? b=s.heap.get? b:=fun b hb=>Ja _ _ (ZI hb);have nr:∀ b o,s.heap.get? b=some o->(∀ vs,o.data≠.fields vs)->b≠T:=fun b o hb hn q=>by
      rw[q] at hb;have z:=gT.symm.trans hb;cases z;exact hn ts dT
    refine xmg (g:=s.heap) fr (ff.of_keeps fun b o hb hn=>⟨o,(ot b (nr b o hb hn)).trans hb,rfl⟩) fL ((ot e (ZI nTe)).trans ge) de se ce oo
      ⟨fun b o hb _ bt _=>(ot b fun z=>bt (congrArg some z.symm)).trans hb,fun b o hb bf=>⟨o.slots,?_⟩⟩ (Nat.le_of_eq (Heap.size_after_update ..).symm) k
    . obtain⟨_,o',ho',hn⟩:=ff.mem bf
      have z:=hb.symm.trans ho';cases z;exact (ot b (nr b _ hb hn)).trans hb
end
section
variable {prog:Program}{w:World}{A:Around}{E:Value->Shared->Prop}{h:Heap}{g:Array GenState}{d:Drawn}{t:Nat}{os:OsState}
variable {nm qn:Str}{C N:Addr}{bs bm bmB:List Value}{hz:Bool}{sn:List Str}{sub:List Value}{ab:Bool}{col:Option Bool}{dd:Option Addr}{k0 k1 k2 k3 k5:Option Value}{B ni ii:String}
theorem xlm (F:ExcBaseFacts B ni ii bmB) (T:OwnTail h bmB bm) {us:List Value}{fI:Addr}{oI:Obj}{Q:Fin->Shared->Prop}
    (gC:h.get? C=some (excClassObj nm qn C N bs bm hz sn sub ab col dd k0 k1 k2 k3 k5 ni))
    (hi:∀(A':Around) (Q':Option Value->Shared->Prop) (E':Value->Shared->Prop) (s':Shared),(∀ b o,h.get? b=some o->s'.heap.get? b=some o)->Q' (some (.ref fI)) s'->wpAny (model prog w) A' (typeLookup (.ref C) "__init__") Q' E' s')
    (gI:h.get? fI=some oI) (cI:oI.cls=.type "function") (lu:us.length<=sizeLine)
    (k:∀ h' e,Heap.MadeExcOf h h' e (.ref C) us->h.objs.size<=e ->
      wpAny (model prog w) A (call (.ref fI) (.ref e::us)) (fun r s'=>r=.none/\Q (.done (.ret (.ref e))) s') E ⟨h',g,d,t,os⟩) :
    wpAny (model prog w) A (Builtin.«type.__call__» ⟨.ref C::us,[]⟩) Q E ⟨h,g,d,t,os⟩:=by
  repeat (first|with_reducible refine JX gC ?_|with_reducible refine wpAny_madeBy_exc gC ?_|wp_step)
  refine codeAny_call_builtin_code (Code.quiet_builtin _ F.quiet) (wpAny_check_new_subT F T gC ?_);refine codeAny_exc_new_subT F T gC ?_ lu;show wpAny _ _ _ _ _ _;generalize e1:({ cls:=.type "tuple",data:=.seq us.toArray }:Obj)=oT;have fT:oT.isFreed=false:=by rw[<- e1]; rfl
  generalize e2:({ cls:=.ref C,data:=.fields #[.ref h.objs.size,.none,.none,.none,.bool false,.none] }:Obj)=oE;have fE:oE.isFreed=false:=by rw[<- e2]; rfl
  have up:∀ b o,h.get? b=some o->((h.push oT).push oE).get? b=some o:=fun b o q=>Zh oE (Zh oT q);have gC':=up _ _ gC;have gI':=up _ _ gI;have gE:((h.push oT).push oE).get? (h.objs.size+1)=some oE:=by
    have z:=Z5 (h.push oT) fE
    rwa [Wb] at z
  have cE:oE.cls=.ref C:=by rw[<- e2]
  have me:(Zm C::bm).contains (.ref C)=true:=by simp
  unfold isInstance
  repeat (first|(with_reducible refine JX gE ?_; rw[cE])|(with_reducible refine Qb gC' ?_; rw[me])|wp_step)
  show wpAny _ _ (typeLookup (.ref C) _) _ _ _;refine hi _ _ _ _ up ?_;refine Jm (Zc ?_);unfold bindSpecial;refine Zc (Yz (T:="function") ⟨_,gI',cI⟩ ?_);rw[if_pos (by decide)];refine Zl (Zc (ZT (k _ (h.objs.size+1) ⟨up,We (QV _),h.objs.size,?_,We (Zj _),?_⟩ (QV _)) (fun r s' z=>?_) fun _ _ x=>x))
  . rw[e2]; exact gE
  . rw[e1]; exact Zh oE (Z5 h fT)
  . obtain⟨rfl,z⟩:=z
    wp_walk
    exact z
theorem xnh (F:ExcBaseFacts B ni ii bmB) (T:OwnTail h bmB bm) {us:List Value}{fI:Addr}{oI:Obj}{Q:Value->Shared->Prop}
    (gC:h.get? C=some (excClassObj nm qn C N bs bm hz sn sub ab col dd k0 k1 k2 k3 k5 ni))
    (hi:∀(A':Around) (Q':Option Value->Shared->Prop) (E':Value->Shared->Prop) (s':Shared),(∀ b o,h.get? b=some o->s'.heap.get? b=some o)->Q' (some (.ref fI)) s'->wpAny (model prog w) A' (typeLookup (.ref C) "__init__") Q' E' s')
    (gI:h.get? fI=some oI) (cI:oI.cls=.type "function") (lu:us.length<=sizeLine)
    (k:∀ h' e,Heap.MadeExcOf h h' e (.ref C) us->h.objs.size<=e ->
      wpAny (model prog w) (A.under (.builtin "type.__call__" ⟨.ref C::us,[]⟩)) (call (.ref fI) (.ref e::us)) (fun r s'=>r=.none/\Q (.ref e) s') E ⟨h',g,d,t,os⟩) :
    wpAny (model prog w) A (call (.ref C) us) Q E ⟨h,g,d,t,os⟩:=by
  have a1:=tc_lookup;have a2:=tc_bind (.ref C);have ty:(⟨h,g,d,t,os⟩:Shared).TypeIs (.ref C) "type":=⟨_,gC,rfl⟩
  refine Q8 (codeAny_of_tree ?_);show wpAny _ _ (callAny (.ref C) _) _ _ _
  repeat (any_goals (first|assumption|with_reducible refine JX gC ?_|wp_step))
  refine⟨rfl,?_⟩;refine codeAny_call_builtin_at (Code.quiet_builtin _ (by decide +kernel)) entry_typeCall (wpAny_check_type_call_sub gC (xlm F T gC hi gI cI lu fun h' e hm hs=>?_));exact k h' e hm hs
theorem xs9 {M:Model}{s:Shared}{env:Env}{x:Sem Value}{Q:Flow->Shared->Prop} (hh:A.handled=none)
    (k:wpAny M A x (fun v s1=>∃ e od C nm qn N bs bm hz sn sub ab col dd k0 k1 k2 k3 k5 ni,v=.ref e/\bm.contains (.type "BaseException")=true/\s1.heap.get? C=some (excClassObj nm qn C N bs bm hz sn sub ab col dd k0 k1 k2 k3 k5 ni)/\Xat s1.heap e (.ref C) od none/\E (.ref e) s1) E s) :
    wpAny M A (raiseStmt env (some x) none) Q E s:=by
  unfold raiseStmt;refine Zc (ZT k (fun v s1 z=>?_) fun _ _ x=>x);obtain⟨e,od,C,nm,qn,N,bs,bm,hz,sn,sub,ab,col,dd,k0,k1,k2,k3,k5,ni,rfl,bB,gC,⟨oe,vs,ge,ce,oo,de,se,y⟩,zE⟩:=z;have me:(Zm C::bm).contains (.type "BaseException")=true:=by rw[Qq,bB,JW]
  obtain⟨hp,g,d,tk,os⟩:=s1;rcases y with⟨_,y1⟩|⟨T,_,_,z,_⟩
  . repeat (first|(with_reducible refine JX ge ?_; rw[ce])|with_reducible refine JX gC ?_|(with_reducible refine Qb gC ?_; rw[me])|wp_step)
    rw[de];refine Zl ?_;rw[y1];refine Zl ?_;rw[if_neg (by decide)];exact Zl (wpAny_raiseNew_none hh zE)
  . cases z
end
end XL
namespace XL
open PySem PySem.W PySem.Calls PyProof.Rows Builtin Builtin.ObjectAttr
def vErr:List Value:=[.type "ValueError",.type "Exception",.type "BaseException",.type "object"]
def xey:List Value->Bool
 | []=>false
 | .ref c::r=>xey r||((.ref c::r:List Value) == vErr)
 | v::r=>(v::r) == vErr
def xlt (K:Frag) (C:Addr):Bool:=(clsIn K C).any fun cd=>xey cd.mro
theorem xit (self:Value):∀{l:List Value},xey l=true->refuseLoop self "__setattr__" l=pure ()
 | [],e=>by cases e
 | v::r,e=>by
  have last:((v::r:List Value) == vErr)=true->refuseLoop self "__setattr__" (v::r)=pure ():=fun z=>by
   rw[Q1 z];exact PySem.F.store_ValueError.passes self
  cases v with
  | ref c =>
   rcases Bool.or_eq_true_iff.mp e with z|z
   .rw [refuseLoop_ref];exact xit self z
   .exact last z
  | _=>exact last e
theorem xhe:∀{l:List Value},xey l=true->l.contains (.type "object")=true/\l.contains (.type "BaseException")=true/\l.isEmpty=false
 | [],e=>by cases e
 | v::r,e=>by
  have last:((v::r:List Value) == vErr)=true->(v::r).contains (.type "object")=true/\(v::r).contains (.type "BaseException")=true/\(v::r).isEmpty=false:=fun z=>by
   rw[Q1 z];exact⟨by decide +kernel,by decide +kernel,rfl⟩
  cases v with
  | ref c =>
   rcases Bool.or_eq_true_iff.mp e with z|z
   .obtain ⟨a,b,_⟩:=xhe z;exact⟨by rw[Qq,a,JW],by rw[Qq,b,JW],rfl⟩
   .exact last z
  | _=>exact last e
structure XC (K:Frag) (C:Addr):Prop where
 over:xlt K C=true
 hd:hasDictIn K C=true
 sa:findIn K (.ref C) "__setattr__"=some (some (.builtin "object.__setattr__"))
 ga:findIn K (.ref C) "__getattribute__"=some (some (.builtin "BaseException.__getattribute__"))
 gh:findIn K (.ref C) "__getattr__"=some none
 ca:findIn K (.ref C) "__class__"=some (some (.builtin "object.__class__"))
 cg:specialIn K (.builtin "object.__class__") "__get__"=some (some (.builtin "getset_descriptor.__get__"))
 ct:takesIn K (.builtin "object.__class__")=some true
section
variable {prog:Program}{w:World}{A:Around}{E:Value->Shared->Prop}{s:Shared}{K:Frag}{x C dx:Addr}{ox:Obj}{od:Option Obj}{name:Str}{v:Value}{R:Result->Shared->Prop}
theorem XC.mro (c:XC K C):∃ cd,clsIn K C=some cd/\xey cd.mro=true/\cd.hasDict=true:=by
 obtain⟨cd,h1,h2⟩:=any_some c.over;obtain⟨cd',h3,h4⟩:=any_some c.hd;rw[h1] at h3;cases h3;exact⟨cd,h1,h2,h4⟩
theorem XC.isObj (c:XC K C):mroIn K C (.type "object")=some true:=by
 obtain⟨cd,h1,h2,_⟩:=c.mro;obtain⟨a,_,b⟩:=xhe h2;unfold mroIn;rw[h1,Q4,if_neg (by rw[b]; decide),a]
theorem XC.isExc (c:XC K C):mroIn K C (.type "BaseException")=some true:=by
 obtain⟨cd,h1,h2,_⟩:=c.mro;obtain⟨_,a,b⟩:=xhe h2;unfold mroIn;rw[h1,Q4,if_neg (by rw[b]; decide),a]
theorem xra {tk:Tok} (X:K.In s.heap) (c:XC K C) (I:InstAt s.heap x ox C od) (ha:findIn K (.ref C) name=some none)
    (h:wpAny (model prog w) A.in1 (storeInOwnDict (.ref x) (.ref C) (.str name tk) name v false)
      (fun fin s'=>match fin with|.done f=>R (.ok f) s'|.again c'=>c'.quiet=true/\codeAny (model prog w) A c' R s') (fun e s'=>R (.error e) s') s) :
    codeAny (model prog w) A (.call (.builtin "object.__setattr__") ⟨[.ref x,.str name tk,v],[]⟩) R s:=by
  have SF:=PySem.F.store_object;obtain⟨cd,hc,hl,_⟩:=c.mro;have sub:Looks (model prog w) s.heap (isInstance (.ref x) (.type "object")) true:=I.type.andThen (looks_mroIn X c.isObj);refine codeAny_call_builtin SF.slot.plain SF.entry (@check_slot (model prog w) _ _ s "object.__setattr__" "object" "__setattr__" (.ref x) [.str name tk,v] [] _ SF.kind SF.split sub (SF.args (.ref x) (.str name tk) v) ?_);have hm:Looks (model prog w) s.heap (mroOf (.ref C)) cd.mro:=(looks_clsIn X hc).andThen .now;rw[osa_eq,refuse_eq];refine Zc (Zc (I.type.here (Zc (hm.here ?_))));rw[xit _ hl];refine Zl (Zc (I.type.here (Zc ((looks_findIn X ha).here (Zc ((Looks.now (a:=(none:Option Value))).here ?_))))));exact h
theorem xvm (X:K.In s.heap) (c:XC K C) (hx:s.heap.get? x=some ox) (hc:ox.cls=.ref C) (ho:ox.dict=some dx) {Q:Option Addr->Shared->Prop} (h:Q (some dx) s) :
    wpAny (model prog w) A (ownDictForStores (.ref x)) Q E s:=by
  obtain⟨cd,h1,_,h2⟩:=c.mro;unfold ownDictForStores instanceDict;refine Zc (Qj hx ?_);rw[hc];refine Zc ((looks_clsIn X h1).here ?_);rw[h2,ho];exact Zl h
theorem xux {ns:List Str}{mA:Str->Option Value}{Q:Unit->Shared->Prop} (X:K.In s.heap) (c:XC K C) (hx:s.heap.get? x=some ox) (hc:ox.cls=.ref C) (hn:notCls ox=true) (ho:ox.dict=some dx) (hm:s.heap.Ns1 dx mA)
    (ha:findIn K (.ref C) name=some none) (hw:YK mA ns) (hz:ns.length<=sizeLine)
    (h:∀ h',h'.Ns1 dx (fun y=>if y=name then some v else mA y)->ZN dx s.heap h'->Q () { s with heap:=h',toks:=s.toks+2 }) :
    wpAny (model prog w) A (setAttr (.ref x) name v) Q E s:=by
  obtain⟨o1,_,_,g1,_⟩:=id hm;have I:InstAt s.heap x ox C (some o1):=⟨hx,hc,hn,by rw[ho]; exact g1⟩
  refine set_plain X I c.sa (xra (s:={ s with toks:=s.toks+1 }) X c I ha ?_);refine Zc (Zl (Zc (xvm (s:={ s with toks:=s.toks+1 }) X c hx hc ho ?_)));refine Zc (Zl (Zc ?_));refine wpAny_nsSet1 (s:={ s with toks:=s.toks+1 }) hm fun h' n2 s2=>?_;obtain⟨oD,eD,pD,gD,dD,cD⟩:=n2.count (YK.cons name v hw);refine Zc (wpAny_lookBehind gD (by rw[dD]; exact pastItsLine_dict (Zy cD (by rw[ZF]; omega))) ?_);exact Zl (h _ n2 s2)
theorem xtl {Q:Unit->Shared->Prop} (X:K.In s.heap) (c:XC K C) (hx:s.heap.get? x=some ox) (hc:ox.cls=.ref C) (hn:notCls ox=true) (ho:ox.dict=none) (hf:ox.isFreed=false)
    (ha:findIn K (.ref C) name=some none)
    (h:∀ h',h'.get? x=some { ox with dict:=some s.heap.objs.size }->h'.Ns1 s.heap.objs.size (fun y=>if y=name then some v else none) ->
      (∀ b o,b≠x->s.heap.get? b=some o->h'.get? b=some o)->s.heap.objs.size<=h'.objs.size->Q () { s with heap:=h',toks:=s.toks+2 }) :
    wpAny (model prog w) A (setAttr (.ref x) name v) Q E s:=by
  obtain⟨cd,h1,_,h2⟩:=c.mro;have I:InstAt s.heap x ox C none:=⟨hx,hc,hn,by rw[ho]; trivial⟩
  refine set_plain X I c.sa (xra (s:={ s with toks:=s.toks+1 }) X c I ha ?_);refine Zc (Zl (Zc ?_));unfold ownDictForStores instanceDict;refine Zc (Qj (s:={ s with toks:=s.toks+1 }) hx ?_);rw[hc];refine Zc ((looks_clsIn X h1).here (s:={ s with toks:=s.toks+1 }) ?_);rw[h2,ho,if_neg (by simp)];obtain⟨oc,odi,oda,osl⟩:=ox
  dsimp only at hc ho
  subst hc ho;have hx1:(s.heap.push { cls:=.type "dict",data:=.dict #[] }).get? x=some ⟨.ref C,none,oda,osl⟩:=Zh _ hx;have nx:x≠s.heap.objs.size:=ZK (Zq hx);have key:wpAny (model prog w) A.in1 (do let d <- alloc { cls:=.type "dict",data:=.dict #[] }; update x (fun o=>{ o with dict:=some d }); dictMade (.ref C) x d)
      (fun a s'=>wpAny (model prog w) A.in1 (match a with|some d=>storeInDict d (.str name s.toks) name v|none=>noDictFor (.ref x) (.ref C) name false)
        (fun fin s'=>match fin with
          | .done f=>(match (Except.ok f:Result) with|.ok (.ret _)=>Q () s'|.ok _=>False|.error e=>E e s')
          | .again c'=>c'.quiet=true/\codeAny (model prog w) A c' (fun r s'=>match r with|.ok (.ret _)=>Q () s'|.ok _=>False|.error e=>E e s') s')
        (fun e s'=>E e s') s') (fun e s'=>E e s') { s with toks:=s.toks+1 }:=by
    refine Zc (wpAny_alloc' ?_);refine Zc (wpAny_update' hx1 ?_);refine Zl ?_
    dsimp only
    have g2:((s.heap.push { cls:=.type "dict",data:=.dict #[] }).update x fun o=>{ o with dict:=some s.heap.objs.size }).get? s.heap.objs.size=some { cls:=.type "dict",data:=.dict #[] } :=
      (Heap.get?_update_ne _ _ _ _ nx.symm).trans (Heap.get?_push_at rfl rfl)
    have n2:((s.heap.push { cls:=.type "dict",data:=.dict #[] }).update x fun o=>{ o with dict:=some s.heap.objs.size }).Ns s.heap.objs.size (fun _=>none) :=
      ⟨_,#[],_,g2,rfl,fun e he=>absurd he (by simp),fun _=>rfl⟩
    unfold storeInDict newKeyGuard;refine Zc (Zl (Zc (wpAny_nsSet1 (Heap.Ns1.of_empty n2) fun h' n3 s3=>?_)));obtain⟨oD,eD,pD,gD,dD,cD⟩:=n3.count (Within.cons name v Within.nil);refine Zc (wpAny_lookBehind gD (by rw[dD]; exact pastItsLine_dict (Zy cD (by rw[ZF,YZ,YV]; omega))) ?_);refine Zl (h h' ?_ n3 (fun b o bx hb=>?_) ?_)
    . refine (s3.2 x nx).trans (ZM _ hx1 ?_)
      cases oda<;>first|rfl|exact hf
    . exact (s3.2 b (ZK (Zq hb))).trans ((Heap.get?_update_ne _ _ _ _ bx).trans (Zh _ hb))
    . rw[s3.1,Heap.size_after_update,Wb]
      exact QV _
  cases oda<;>first|exact key|cases hn
theorem xsw (v:Value):bindSpecial (.builtin "BaseException.__getattribute__") v=pure (.builtin "BaseException.__getattribute__",[v]):=by
 have f:=PySem.F.attr_ValueError.ga.bind v;exact f
theorem xps:plainId "BaseException.__getattribute__"=true:=PySem.F.attr_ValueError.ga.plain
theorem xn8 {Q:Value->Shared->Prop}{expr fill:Bool}{tk:Tok} (X:K.In s.heap) (c:XC K C) (I:InstAt s.heap x ox C od)
    (h:wpAny (model prog w) A.in1 (Builtin.«object.__getattribute__» ⟨[.ref x,.str name tk],[]⟩)
      (fun fin s'=>match fin with|.done (.ret v)=>wpAny (model prog w) A (handedOut v) Q E s'|_=>False) (fun _ _=>False) s) :
    wpAny (model prog w) A (getAttrBy (.ref x) (.str name tk) fill expr) Q E s:=by
  obtain⟨hh,g,d,t,os⟩:=s;have L0:=I.type (M:=model prog w);have L1:=looks_findIn (M:=model prog w) X c.ga;have L2:=looks_findIn (M:=model prog w) X c.gh;have sub:Looks (model prog w) hh (isInstance (.ref x) (.type "BaseException")) true:=I.type.andThen (looks_mroIn X c.isExc);have f2:(onTheHeap (Zm C)&&Yn "BaseException.__getattribute__" == Yn "object.__getattribute__")=false:=by
    rw[show (Yn "BaseException.__getattribute__" == Yn "object.__getattribute__")=false from by decide +kernel]; rfl
  have f3:(expr&&onTheHeap (Yn "BaseException.__getattribute__"))=false:=by cases expr<;>rfl
  unfold getAttrBy;refine Jm (Zc (L0.at (Zc (L1.at ?_))))
  dsimp only
  rw[f2];simp only[Jk,if_false];unfold getAttrByItsOwn hookBefore;refine Zc (L2.at (Zc (Qw (Jm ?_))));unfold callGetattribute;rw[f3];simp only[Jk,if_false];unfold boundAndCalled;rw[xsw];refine Zc (Zl (Q8 (codeAny_call_builtin xps PySem.F.entry_bexc_ga
    (@check_slot (model prog w) _ _ ⟨hh,g,d,t,os⟩ "BaseException.__getattribute__" "BaseException" "__getattribute__" (.ref x) [.str name tk] [] _ (by decide +kernel) (by decide +kernel) sub (PySem.F.args_bexc_ga _ _) ?_))))
  refine ZT h (fun fin s' z=>?_) fun e s' z=>z.elim;rcases fin with (_|_|_|_)|_<;>first|exact z|exact z.elim
theorem xv2 {Q:Value->Shared->Prop}{expr:Bool} (X:K.In s.heap) (c:XC K C) (hx:s.heap.get? x=some ox) (hc:ox.cls=.ref C) (hn:notCls ox=true) (ho:ox.dict=some dx) {o1:Obj} (g1:s.heap.get? dx=some o1) (hl:lookIn name o1=some (some v))
    (ha:findIn K (.ref C) name=some none) (hv:handedIn v=true) (h:Q v { s with toks:=s.toks+1 }) :
    wpAny (model prog w) A (getAttr (.ref x) name expr) Q E s:=by
  have I:InstAt s.heap x ox C (some o1):=⟨hx,hc,hn,by rw[ho]; exact g1⟩
  have hf:findObj K C (some o1) name=some (.value v):=findObj_own c.hd ha rfl hl;unfold getAttr;refine Zc (wpAny_mkText ?_);refine xn8 (s:={ s with toks:=s.toks+1 }) X c I ?_;have L0:=I.type (M:=model prog w);have L1:=looks_find (M:=model prog w) X I hf;obtain⟨hh,g,d,t,os⟩:=s;refine Zc (Zl (Zc (Zl (Zc (L0.at (Zc (L1.at ?_)))))));refine Zl ?_;show wpAny _ _ (handedOut v) _ _ _;rw[handedOut_of hv];exact Zl h
theorem xqc {Q:Option Value->Shared->Prop} (X:K.In s.heap) (c:XC K C) (I:InstAt s.heap x ox C od) (h:Q (some (.ref C)) { s with toks:=s.toks+1 }) :
    wpAny (model prog w) A (getAttr? (.ref x) "__class__") Q E s:=by
  obtain⟨cd,h1,_,h2⟩:=c.mro;have hf:findObj K C od "__class__"=some (.bind (.builtin "getset_descriptor.__get__") (.builtin "object.__class__")):=by
    unfold findObj;rw[h1,Q4,c.ca,Q4];simp[c.cg,c.ct]
  unfold getAttr? getAttrBy?;refine Zc (wpAny_mkText (Zc (Qw ?_)));refine xn8 (s:={ s with toks:=s.toks+1 }) X c I ?_;have L0:=I.type (M:=model prog w);have L1:=looks_find (M:=model prog w) X I hf;refine Zc (Zl (Zc (Zl (Zc (L0.here (s:={ s with toks:=s.toks+1 }) (Zc (L1.here (s:={ s with toks:=s.toks+1 }) ?_)))))));show wpAny _ _ (holding [_] (call _ [_,.ref x,.ref C])>>=ret) _ _ _;refine Zc (Jm (Q8 (class_get (s:={ s with toks:=s.toks+1 }) (ox:=ox) (od:=od) X I c.isObj ?_)));refine Zl ?_;show wpAny _ _ (handedOut (.ref C)) _ _ _;exact Zl (Zl h)
end
end XL
namespace XL
open PySem
theorem xp4 {x y:Str}{v:Value} (hx:v.isStr x=true) (n:y≠x):v.isStr y=false:=by
 cases v<;>simp_all[Value.isStr];exact fun z=>n z.symm
theorem xhu {name y:Str} (n:y≠name):∀(l:List DictEntry) (i:Nat),l.findIdx? (·.key.isStr name)=some i->(l.eraseIdx i).find? (·.key.isStr y)=l.find? (·.key.isStr y)
 | [],i,h=>by simp at h
 | e::r,i,h=>by
  rw[List.findIdx?_cons] at h;by_cases q:e.key.isStr name=true
  .rw [if_pos q] at h;cases h;have z:=xp4 q n;simp[z]
  .rw [if_neg q] at h;cases hi:r.findIdx? (·.key.isStr name) with
   | none=>rw[hi] at h; cases h
   | some j =>
    rw[hi] at h;cases h;have ih:=xhu n r j hi;simp only[List.eraseIdx_cons_succ,Ym];split
    .rfl
    .exact ih
section
variable {M:Model}{A:Around}{E:Value->Shared->Prop}{s:Shared}{env:Env}
theorem xr5 {a:Addr}{m:Str->Option Value}{name:Str}{Q:Bool->Shared->Prop} (hn:s.heap.Ns a m)
    (k:∀ h' m',h'.Ns a m'->(∀ y,y≠name->m' y=m y)->ZN a s.heap h'->Q (m name).isSome { s with heap:=h' }):wpAny M A (nsDel a name) Q E s:=by
  obtain⟨o,es,ep,ho,hd,hk,hm⟩:=id hn;have nor:es.any (·.refKey)=false:=by
    rw[Array.any_eq_false'];intro e he;obtain⟨n,t,h⟩:=hk e he;simp[DictEntry.refKey,h]
  have some_eq:(m name).isSome=es.any (·.key.isStr name):=by
    rw[<- hm name];simp only[nsFind,findBy,JH];rw[Je];simp only[Array.find?_isSome,Array.any_eq_true];constructor
    . rintro ⟨z,hz,hp⟩
      obtain⟨i,hi,rfl⟩:=Array.mem_iff_getElem.mp hz;exact⟨i,hi,hp⟩
    . rintro ⟨i,hi,hp⟩
      exact⟨_,Array.getElem_mem hi,hp⟩
  have has:nsHas name o=pure (es.any (·.key.isStr name)):=by
    rw[nsHas_eq];unfold nsHasByArray;rw[hd];show (if (es.any fun z=>z.key.isStr name)=true then _ else _)=_;generalize (es.any fun z=>z.key.isStr name)=b;cases b<;>simp[nor]
  unfold nsDel;refine Zc (Qj ho ?_);rw[has];refine Zc (Zl ?_);rw[<- some_eq];cases q:(m name).isSome
  . have z:=k s.heap m hn (fun _ _=>rfl) (.refl ..)
    rw[q] at z;exact Zl z
  . refine Zc (wpAny_updatePart ho (Zl ?_))
    have key:∃ m',(s.heap.update a (Obj.dropName name)).Ns a m'/\∀ y,y≠name->m' y=m y:=by
      obtain⟨cl,d,dt,sl⟩:=o;subst hd;cases hi:es.findIdx? (·.key.isStr name) with
      | none =>
        exact⟨m,⟨_,_,ep,ZM _ ho (by simp only[QL,Qc,hi]<;>rfl),(by simp only[QL,Qc,hi]<;>rfl),hk,hm⟩,fun _ _=>rfl⟩
      | some i =>
        refine⟨_,⟨_,_,ep+1,ZM _ ho (by simp only[QL,Qc,hi]<;>rfl),(by simp only[QL,Qc,hi]<;>rfl),hk.erase i,fun _=>rfl⟩,fun y hy=>?_⟩;rw[<- hm y];obtain⟨l⟩:=es;have hi':l.findIdx? (·.key.isStr name)=some i:=by simpa using hi
        have z:=xhu hy l i hi';simp only[nsFind,findBy];have il:i<l.length:=by
          have:=List.findIdx?_eq_some_iff_findIdx_eq.mp hi';exact this.1
        have e1:(Array.mk l).eraseIdxIfInBounds i=Array.mk (l.eraseIdx i):=by
          simp[Array.eraseIdxIfInBounds,il]
        rw[e1];simp only[List.find?_toArray];rw[z]
    obtain⟨m',n',e'⟩:=key;have z:=k _ m' n' e' (ZN.update ..);rw[q] at z;exact z
theorem xop {n:Str}{pos:Pos}{m:Str->Option Value}{Q:Unit->Shared->Prop} (hl:env.kindOf n=some .local) (hn:s.heap.Ns env.locals m)
    (hp:(env.scope.kind == .class||(env.scope.kind == .module&&env.locals != env.globals))=false)
    (h:∀ h' m',h'.Ns env.locals m'->(∀ y,y≠n->m' y=m y)->ZN env.locals s.heap h'->Q () { s with heap:=h',toks:=s.toks+1 }) :
    wpAny M A (do bindName env n .none; unbindBehindTheSuite env n pos) Q E s:=by
  refine Zc (wpAny_bindName (wpAny_storeName_local hl hn (fun h1 n1 s1=>?_) hp));unfold unbindBehindTheSuite;refine wpAny_onRaise ?_;unfold unbindName;refine Zc (wpAny_point (Zc ?_));unfold deleteName;simp only[hl,hp];rw[if_neg (by decide)];refine Zc (xr5 n1 fun h2 m2 n2 e2 s2=>?_);simp only[if_true,Option.isSome_some,Bool.not_true,Jk,if_false];refine Zl (wpAny_point (h h2 m2 n2 (fun y hy=>?_) (s1.trans s2)));rw[e2 y hy,if_neg hy]
end
end XL
namespace L2
open PySem PySem.Spec PyProof.Rows XL
variable {q0:Bool}
def XN (e C:Addr) (od:Option Addr):HO:=.ext fun h=>Xat h e (.ref C) od none
def XO (e C:Addr) (od:Option Addr):HO:=.ext fun h=>∃ ox vs,h.get? e=some ox/\ox.cls=.ref C/\ox.dict=od/\ox.data=.fields vs
def XD (dx:Addr) (fs:List (Str × V)):HO:=.ext fun h=>fs.length<=1000/\∃ mA,h.Ns1 dx mA/\(∀ f,RelO (fs.lookup f) (mA f))/\YK mA (fs.map (·.1))
section
variable {P:Program}{w:World}{H:Hp}{h:Heap}{e C dx:Addr}{od:Option Addr}{fs:List (Str × V)}
theorem xq9 (x:Xat h e (.ref C) od none):xam P w H h e (XN e C od):=by
 refine⟨x,?_,fun h1 h2 z k=>?_⟩
 .obtain ⟨oe,_,g,_⟩:=x;exact⟨oe,g⟩
 .obtain ⟨oe,vs,g,c,o,d,sz,y⟩:=z;rcases y with y|⟨T,_,_,z,_⟩
  .exact ⟨oe,vs,k oe g,c,o,d,sz,.inl y⟩
  .cases z
theorem xrj (x:∃ ox vs,h.get? e=some ox/\ox.cls=.ref C/\ox.dict=od/\ox.data=.fields vs):xam P w H h e (XO e C od):=by
 refine⟨x,?_,fun h1 h2 z k=>?_⟩
 .obtain ⟨oe,_,g,_⟩:=x;exact⟨oe,g⟩
 .obtain ⟨oe,vs,g,c,o,d⟩:=z;exact⟨oe,vs,k oe g,c,o,d⟩
theorem xpg {tb:Option Addr} (x:Xat h e (.ref C) od tb):∃ ox vs,h.get? e=some ox/\ox.cls=.ref C/\ox.dict=od/\ox.data=.fields vs:=by
 obtain⟨oe,vs,g,c,o,d,_⟩:=x;exact⟨oe,vs,g,c,o,d⟩
theorem xup {h1 h2:Heap}{m:Str->Option Value} (n:h1.Ns1 dx m) (k:∀ o,h1.get? dx=some o->h2.get? dx=some o):h2.Ns1 dx m:=by
 obtain⟨o,es,ep,g,r⟩:=n;exact⟨o,es,ep,k o g,r⟩
theorem xq5 (hl:fs.length<=1000) {mA:Str->Option Value} (n:h.Ns1 dx mA) (r:∀ f,RelO (fs.lookup f) (mA f)) (wi:YK mA (fs.map (·.1))):xam P w H h dx (XD dx fs):=by
 refine⟨⟨hl,mA,n,r,wi⟩,?_,fun h1 h2 z k=>?_⟩
 .obtain ⟨o,es,ep,g,_⟩:=n;exact⟨o,g⟩
 .obtain ⟨hl,mA,n,r,wi⟩:=z;exact⟨hl,mA,xup n k,r,wi⟩
end
def CXo (P:Program) (w:World):CXT:=fun outer H s E u s'=>∃ e C od H' T,u=.ref e/\s'.os=s.os/\AllBare s'.gens/\Un (frs outer) [] H H' s.heap s'.heap/\HOk P w H' s'.heap /\
 Xat s'.heap e (.ref C) od (some T)/\H' e=some (XO e C od)/\s.heap.objs.size<=T/\H' T=none/\E e C H'
def Tbs (X:Cx) (pins:List (Addr × Obj)) (H:Hp) (tb:Option Addr):Prop:=∀ T,tb=some T->X.s₀.heap.objs.size<=T/\H T=none/\T≠X.env.locals/\(∀ x c,X.env.cells.lookup x=some c->c≠T)/\∀ p∈X.pn++pins,p.1≠T
def xgm (X:Cx) (E:St->XK):Prop:=∀(pins:List (Addr × Obj)) (Z:St) (H:Hp) (s:Shared) (e C:Addr) (od tb:Option Addr),Inv X pins Z H s->Xat s.heap e (.ref C) od tb->H e=some (XO e C od) ->
 Tbs X pins H tb->E Z e C H->X.xe (.ref e) s
section
variable {X:Cx}{pins:List (Addr × Obj)}{Z:St}{H:Hp}{s:Shared}{e C:Addr}{od tb:Option Addr}
theorem Inv.size_lt (I:Inv X pins Z H s) {b:Addr} (h:s.heap.objs.size<=b):H b=none/\b≠X.env.locals/\(∀ x c,X.env.cells.lookup x=some c->c≠b)/\∀ p∈X.pn++pins,p.1≠b:=by
 refine⟨I.hok.fresh h,fun z=>?_,fun x c hc z=>?_,fun p hp z=>?_⟩
 .rw [z] at h;exact absurd I.lt (Wp.mpr h)
 .obtain ⟨v,o,ho,_⟩:=I.cell x c hc;rw[z] at ho;exact absurd (Zq ho) (Wp.mpr h)
 .have g:=(I.pin p hp).1;rw[z] at g;exact absurd (Zq g) (Wp.mpr h)
theorem Inv.noted {h':Heap}{T:Addr} (I:Inv X pins Z H s) (he:H e=some (XO e C od)) (tbs:Tbs X pins H tb) (st:Stp (frs X.stack) e tb s.heap h') (x:Xat h' e (.ref C) od (some T)) :
    Inv X pins Z H { s with heap:=h' }:=by
  have neE:∀ b,H b=none->b≠e:=fun b n z=>by rw[z,he] at n; cases n
  have neT:∀ b u,H b=some u->tb≠some b:=fun b u hb z=>by rw[(tbs b z).2.1] at hb; cases hb
  have nfr:∀ b u,H b=some u->b∉frs X.stack:=fun b u hb z=>by rw[I.stkFree b z] at hb; cases hb
  have kp:∀ b u o,H b=some u->b≠e->s.heap.get? b=some o->h'.get? b=some o:=fun b u o hb ne g=>st.keep b o g ne (neT b u hb) (nfr b u hb);have un:Un (frs X.stack) tb.toList H H s.heap h':=by
    refine⟨fun b o g n hb hx=>st.keep b o g (neE b n) (fun z=>hx (by rw[z]; simp)) hb,fun b o g n hb hx=>st.slot b o g hb,fun b o g n hx=>n,fun b o g hx=>?_,fun b xs z=>z,fun b o u z=>z,fun b ps z=>⟨#[],by rw[z]; simp⟩⟩;by_cases b1:b=e
    . subst b1
      obtain⟨oe,_,ge,_⟩:=x;exact⟨oe,ge⟩
    . by_cases b2:b∈frs X.stack
      . obtain⟨sl,q⟩:=st.slot b o g b2
        exact⟨_,q⟩
      . exact⟨o,st.keep b o g b1 (fun z=>hx (by rw[z]; simp)) b2⟩
  have hok:HOk X.prog X.w H h':=fun b u hb=>by
    by_cases b1:b=e
    . subst b1
      rw[he] at hb;cases hb;exact xrj (xpg x)
    . refine (I.hok b u hb).stay (fun c v hc q=>?_) (fun c q=>q) fun c xs q=>q
      rcases hc with rfl|hc
      . exact kp c u v hb b1 q
      . exact kp c _ v hc (fun z=>by rw[z,he] at hc; cases hc) q
  refine I.call (g':=s.gens) (d':=s.drawn) (t':=s.toks) (ch:=tb.toList) un hok I.bare fun b hb=>?_;have z:tb=some b:=by
    cases tb with
    | none=>simp at hb
    | some T'=>simp at hb; rw[hb]
  obtain⟨a1,_,a3,a4,a5⟩:=tbs b z;exact⟨.inr a1,a3,a4,a5⟩
theorem xgm.pass {E:St->XK} (t:xgm X E):xdu (CXo X.prog X.w) X E:=fun pins Z H s u s' I h=>by
 obtain⟨e,C,od,H',T,rfl,os,bare,un,hok,x,he,sT,hT,q⟩:=h;have J:Inv X pins Z H' s':=I.call' os un hok bare (ch:=[]) fun b z=>absurd z (by simp);refine t pins Z H' s' e C od (some T) J x he (fun T' z=>?_) q;cases z;obtain⟨_,a,b,c⟩:=I.size_lt sT;exact⟨Zy I.sz sT,hT,a,b,c⟩
theorem xm:xdu (CXo X.prog X.w) X (fun _ _ _ _=>False):=fun pins Z H s u s' I h=>by
 obtain⟨e,C,od,H',T,_,_,_,_,_,_,_,_,_,q⟩:=h;exact q.elim
theorem xbz {P:Program}{w:World}{K:Zd}{mg:Str->Option Value}{base:Heap}{N:List Str}{qual:Str}{scope:Scope}{f:Addr}{cd:Value}{A:Around}{outer:List Env}{s₀:Shared}{H₀:Hp}{E:XK} :
    xgm (cxOf q0 (CXo P w) P w K mg base N qual scope f cd A outer s₀ H₀ E) (fun _=>E):=fun pins Z H s e C od tb I x he tbs q=>by
  show wpAny (model P w) _ (leaving _ (.ref e)) _ _ s;unfold leaving;refine Zc (xou (L:=s₀.heap.objs.size) I.ok.frames I.stack rfl x fun h' T st sT x'=>?_);have J:=I.noted he tbs st x';exact⟨e,C,od,H,T,rfl,J.os,J.bare,J.base,J.hok,x',he,Zy I.sz sT,I.hok.fresh sT,q⟩
end
end L2
namespace XL
open PySem PySem.W
def xo5 (e:DictEntry):Bool:=match e.key with|.str _ _=>true|_=>false
def xgv (K:Frag) (ns:Addr):Bool:=match K.lookup ns with
 | some ⟨_,_,.dict es _,_⟩=>es.toList.all xo5&&!(es.toList.any (·.key.isStr "__init__"))
 | _=>false
def xh3 (K:Frag):List Value->Bool
  | []=>false
  | .ref a::r=>(match K.lookup a with
      | some ⟨_,_,.cls cd,_⟩=>xgv K cd.ns&&xh3 K r
      | _=>false)
  | v::r=>(v::r) == vErr
theorem xv3 {K:Frag}{h:Heap}{ns:Addr} (X:K.In h) (e:xgv K ns=true):∃ mA,h.Ns ns mA/\mA "__init__"=none:=by
 unfold xgv at e;split at e
 .rename_i es n sl ho
  obtain⟨e1,e2⟩:=Bool.and_eq_true_iff.mp e;refine⟨_,⟨_,es,_,X _ _ ho,rfl,fun z hz=>?_,fun _=>rfl⟩,?_⟩
  .have q:=Y2.mp e1 z (Wf.mpr hz);unfold xo5 at q;split at q
   .rename_i a b c
    exact⟨a,b,c⟩
   .cases q
  .unfold nsFind findBy;rw[<- Array.find?_toList];have z:es.toList.find? (fun e=>e.key.isStr "__init__")=none:=by
    rw[List.find?_eq_none];intro y hy q;rw[Yu,List.any_eq_false] at e2;exact e2 y hy q
   rw[z];rfl
 .cases e
theorem xlu {K:Frag}{h:Heap} (X:K.In h):∀{l:List Value},xh3 K l=true->OwnTail h vErr l
 | [],e=>by cases e
 | v::r,e=>by
  have last:((v::r:List Value) == vErr)=true->OwnTail h vErr (v::r):=fun z=>by
   rw[Q1 z];exact .base
  cases v with
  | ref a =>
   unfold xh3 at e;split at e
   .rename_i c d cd sl ho
    obtain⟨e1,e2⟩:=Bool.and_eq_true_iff.mp e;obtain⟨mA,n,z⟩:=xv3 X e1;exact .own (X _ _ ho) n z (xlu X e2)
   .cases e
  | _=>exact last e
def xdl (K:Frag) (C:Addr):Bool:=match K.lookup C with
 | some ⟨.type "type",_,.cls cd,sl⟩=>(match cd.mro,sl.toList with
  | .ref C'::bm,[_,_,_,_,some (.builtin i),_]=>C' == C&&!cd.hasDel&&i == "ValueError.__new__"&&xh3 K bm
  | _,_=>false)
 | _=>false
theorem xh8 {K:Frag}{h:Heap}{C:Addr} (X:K.In h) (q:xdl K C=true):∃ nm qn N bs bm hz sn sub ab col dd k0 k1 k2 k3 k5,
    h.get? C=some (excClassObj nm qn C N bs bm hz sn sub ab col dd k0 k1 k2 k3 k5 "ValueError.__new__")/\OwnTail h vErr bm:=by
  unfold xdl at q;split at q
  . rename_i dd cd sl ho
    split at q
    . rename_i C' bm k0 k1 k2 k3 n k5 hm hs
      simp only[Z4,beq_iff_eq,Yu] at q;obtain⟨⟨⟨rfl,hdel⟩,rfl⟩,ht⟩:=q;obtain⟨nm,bs,mro,ns,qn,hd,sn,sub,ab,col,del⟩:=cd
      dsimp only at hm hdel
      subst hm hdel;have hsl:sl=#[k0,k1,k2,k3,some (.builtin "ValueError.__new__"),k5]:=by
        obtain⟨l⟩:=sl;simp only at hs;rw[hs]
      subst hsl;exact⟨nm,qn,ns,bs,bm,hd,sn,sub,ab,col,dd,k0,k1,k2,k3,k5,X _ _ ho,xlu X ht⟩
    . cases q
  . cases q
end XL
namespace L2
open PySem PySem.Spec PyProof.Rows XL
variable {q0:Bool}
section
variable {X:Cx}{pins:List (Addr × Obj)}{Z:St}{H:Hp}{s:Shared}{a C dx:Addr}{od:Option Addr}{fs:List (Str × V)}{f:Str}{v y:V}{u:Value}{A:Around}{E:Value->Shared->Prop}
theorem xj0 (I:Inv X pins Z H s) (e:H a=some (XN a C od)):Xat s.heap a (.ref C) od none:=(I.hok a _ e).1
theorem xrf (I:Inv X pins Z H s) (e:H a=some (XO a C od)):∃ ox vs,s.heap.get? a=some ox/\ox.cls=.ref C/\ox.dict=od/\ox.data=.fields vs:=(I.hok a _ e).1
theorem xj2 (I:Inv X pins Z H s) (e:H dx=some (XD dx fs)):fs.length<=1000/\∃ mA,s.heap.Ns1 dx mA/\(∀ f,RelO (fs.lookup f) (mA f))/\YK mA (fs.map (·.1)):=(I.hok dx _ e).1
theorem xee {o:Obj}{vs:Array Value} (d:o.data=.fields vs):PySem.W.notCls o=true:=by
 unfold PySem.W.notCls;rw[d]
theorem xqs {Q:Unit->Shared->Prop} (I:Inv X pins Z H s) (e:H a=some (XN a C none)) (c:XC X.K C) (n:ZD X.K (.ref C) f=some none) (ry:RelV y u)
    (h:∀ dx s',H dx=none->Inv X pins Z (upd (upd H dx (XD dx [(f,y)])) a (XN a C (some dx))) s'->Q () s'):wpAny (model X.prog X.w) A (setAttr (.ref a) f u) Q E s:=by
  obtain⟨oe,vs,g,ce,oo,de,sz,tb⟩:=xj0 I e;refine xtl I.kIn c g ce (xee de) oo (YS de) n fun h' g' n' k sz'=>h s.heap.objs.size _ (I.hok.fresh (Zj _)) ?_;have hN:H s.heap.objs.size=none:=I.hok.fresh (Zj _);have nad:a≠s.heap.objs.size:=fun z=>by rw[z,hN] at e; cases e
  have na:∀ b,H b=none->b≠a:=fun b nb z=>by rw[z,e] at nb; cases nb
  have nd:∀ b o,s.heap.get? b=some o->b≠s.heap.objs.size:=fun b o gb=>ZK (Zq gb);have nd':∀ b u,H b=some u->b≠s.heap.objs.size:=fun b u hb z=>by rw[z,hN] at hb; cases hb
  have at1:∀ b,b≠a->b≠s.heap.objs.size->upd (upd H s.heap.objs.size (XD s.heap.objs.size [(f,y)])) a (XN a C (some s.heap.objs.size)) b=H b:=fun b b1 b2=>by rw[xh b1,xh b2]
  have xnew:Xat h' a (.ref C) (some s.heap.objs.size) none:=⟨_,vs,g',ce,rfl,de,sz,by
    rcases tb with t|⟨T,_,_,z,_⟩
    . exact .inl t
    . cases z⟩
  have own1:∀ b c,H c=some (.own b)->c≠a:=fun b c hc z=>by rw[z,e] at hc; cases hc
  have tup1:∀ c xs,H c=some (.tup xs)->c≠a:=fun c xs hc z=>by rw[z,e] at hc; cases hc
  refine I.un ⟨fun b o gb nb _ _=>k b o (na b nb) gb,fun b o gb nb _ _=>⟨o.slots,k b o (na b nb) gb⟩,fun b o gb nb _=>?_,fun b o gb _=>?_,fun b xs z=>?_,fun b o w z=>?_,fun b ps z=>⟨#[],?_⟩⟩ fun b w hb=>?_
  . rw[at1 b (na b nb) (nd b o gb)]; exact nb
  . by_cases b1:b=a
    . exact⟨_,by rw[b1]; exact g'⟩
    . exact⟨o,k b o b1 gb⟩
  . rw[at1 b (tup1 b xs z) (nd' b _ z)]; exact z
  . rw[at1 b (fun q=>by rw[q,e] at z; cases z) (nd' b _ z)]; exact z
  . rw[at1 b (fun q=>by rw[q,e] at z; cases z) (nd' b _ z),z]; simp
  . by_cases b1:b=a
    . subst b1
      rw[xf] at hb;cases hb;exact xq9 xnew
    . rw[xh b1] at hb
      by_cases b2:b=s.heap.objs.size
      . subst b2
        rw[xf] at hb;cases hb;refine xq5 (by show 1<=1000; decide) n' (fun g=>?_) fun g hg=>?_
        . show RelO (ZX g [(f,y)]) (if g=f then some u else none)
          by_cases q:g=f
          . rw[if_pos q,q]
            simp only[Z2,beq_self_eq_true];exact ry
          . rw[if_neg q]
            simp only[Z2,beq_eq_false_iff_ne.mpr q];exact trivial
        . by_cases q:g=f
          . simp[q]
          . exact absurd (show (if g=f then some u else none)=none from if_neg q) hg
      . rw[xh b2] at hb
        refine (I.hok b w hb).stay (fun c v hc q=>?_) (fun c q=>?_) fun c xs q=>?_
        . rcases hc with rfl|hc
          . exact k c v b1 q
          . exact k c v (own1 b c hc) q
        . rw[at1 c (own1 b c q) (nd' c _ q)]; exact q
        . rw[at1 c (tup1 c xs q) (nd' c _ q)]; exact q
theorem xpv {Q:Unit->Shared->Prop} (I:Inv X pins Z H s) (e:H a=some (XN a C (some dx))) (ed:H dx=some (XD dx fs)) (hl:fs.length<1000) (c:XC X.K C) (n:ZD X.K (.ref C) f=some none) (ry:RelV y u)
    (h:∀ s',Inv X pins Z (upd H dx (XD dx (putF f y fs))) s'->Q () s'):wpAny (model X.prog X.w) A (setAttr (.ref a) f u) Q E s:=by
  obtain⟨oe,vs,g,ce,oo,de,sz,tb⟩:=xj0 I e;obtain⟨_,mA,nm,r,wi⟩:=xj2 I ed;have hz:(fs.map (·.1)).length<=sizeLine:=by rw[Za,YV]; omega
  refine xux I.kIn c g ce (xee de) oo nm n wi hz fun h' n' sb=>h _ ?_;have hd:∃ o,h'.get? dx=some o:=let ⟨o,_,_,e',_⟩:=n'; ⟨o,e'⟩;refine I.write (x:=dx) (e:=dx) (by rw[ed]; exact Js) (.inl rfl) (fun b q hb z=>(sb.2 b hb).trans z) hd ?_;refine xq5 (Zy (xer f y fs) hl) n' (fun g=>?_) fun g hg=>?_
  . show RelO ((putF f y fs).lookup g) (if g=f then some u else mA g)
    rw[xes];by_cases q:g=f
    . rw[if_pos q,if_pos q]; exact ry
    . rw[if_neg q,if_neg q]; exact r g
  . by_cases q:g=f
    . rw[q]; exact (xdv f y fs).1
    . refine (xdv f y fs).2 g (wi g fun z=>hg ?_)
      show (if g=f then some u else mA g)=none;rw[if_neg q]; exact z
theorem xsp {b:Bool}{Q:Value->Shared->Prop} (I:Inv X pins Z H s) (e:H a=some (XO a C (some dx))) (ed:H dx=some (XD dx fs)) (c:XC X.K C) (n:ZD X.K (.ref C) f=some none) (l:fs.lookup f=some v)
    (h:∀ u s',Inv X pins Z H s'->RelV v u->Q u s'):wpAny (model X.prog X.w) A (getAttr (.ref a) f b) Q E s:=by
  obtain⟨ox,vs,g,ce,oo,de⟩:=xrf I e;obtain⟨_,mA,nm,r,wi⟩:=xj2 I ed;obtain⟨u,hu,ru⟩:=RelO.some_of (v:=v) (o:=mA f) (by rw[<- l]; exact r f);obtain⟨o1,g1,hl⟩:=xi5 nm;exact xv2 I.kIn c g ce (xee de) oo g1 (by rw[hl,hu]) n (xje ru) (h u _ (I.tok _) ru)
end
def sXF (K:Zd) (ta tv:TE) (f:Str):TS:=fun D Z H=>tv Z H fun y H1=>ta Z H1 fun x H2=>∃ a C,x=.ref a/\XC K C/\ZD K (.ref C) f=some none /\
  ((H2 a=some (XN a C none)/\∀ dx,H2 dx=none->D.nx Z (upd (upd H2 dx (XD dx [(f,y)])) a (XN a C (some dx)))) \/
   ∃ dx fs,H2 a=some (XN a C (some dx))/\H2 dx=some (XD dx fs)/\fs.length<1000/\D.nx Z (upd H2 dx (XD dx (putF f y fs))))
inductive xwg (K:Zd) (f:Str) (x:V) (H1:Hp) (Q:VK):Prop
 | mk (a C dx fs v) (e_:x=.ref a) (r_:H1 a=some (XO a C (some dx))/\H1 dx=some (XD dx fs)/\XC K C/\ZD K (.ref C) f=some none/\fs.lookup f=some v/\Q v H1)
def tXF (K:Zd) (ta:TE) (f:Str):TE:=fun Z H Q=>ta Z H fun x H1=>xwg K f x H1 Q
section
variable {X:Cx}{o e value:Expr}{f:Str}{pos pos' tpos:Pos}{ta tv te:TE}
theorem xmo (ha:PE X o ta) (hv:PE X value tv) (hs:swapsWith value (some (.Attribute o f pos')) pos.line X.env=pure false):PS X (.Assign [.Attribute o f pos'] value pos) (sXF X.K ta tv f):=by
 intro pins s Z H D I h;refine plainObj_wpAny_Assign_Attribute (thn (hv pins s Z H _ I h) fun u s1 ⟨y,H1,I1,ry,q⟩=>thn (ha pins s1 Z H1 _ I1 q) fun ov s2 ⟨x,H2,I2,rx,a,C,ex,c,n,q2⟩=>?_) hs;subst ex;obtain rfl:ov=Zm a:=rx;rcases q2 with⟨ea,q2⟩|⟨dx,fs,ea,ed,hl,q2⟩
 .exact xqs I2 ea c n ry fun dx s3 nd I3=>⟨Z,_,I3,q2 dx nd⟩
 .exact xpv I2 ea ed hl c n ry fun s3 I3=>⟨Z,_,I3,q2⟩
theorem xms (he:PE X e te) (hb:attributeBase e f X.env (eval e X.env)=eval e X.env):PE X (.Attribute e f pos) (tXF X.K te f):=by
 intro pins s Z H Q I h;refine xmp hb (thn (he pins s Z H _ I h) fun u s1 ⟨x,H1,I1,rx,a,C,dx,fs,v,ex,ea,ed,c,n,l,q⟩=>?_);subst ex;obtain rfl:u=Zm a:=rx;exact xsp I1 ea ed c n l fun u' s2 I2 ru=>⟨v,H1,I2,ru,q⟩
end
structure XMk (K:Zd) (C f:Addr):Prop where
 makes:xdl K C=true
 init:ZD K (.ref C) "__init__"=some (some (.ref f))
 fn:ZL K (.ref f)=true
 kp:Jl K (.ref C)=true
def xtq (C:Addr) (sp:Sp) (dvs:List V) (t:TA):TE:=fun Z H Q=>t Z H fun vs H1=>vs.length<=1000/\∀ e,H1 e=none ->
 sp (.ref e::(vs++dvs)) (upd H1 e (XN e C none)) (fun v H2=>v=.non/\Q (.ref e) H2) (fun _ _ _=>False)
def xtt (K:Zd) (te:TE) (E:St->XK):TS:=fun D Z H=>te Z H fun v H1=>∃ e C od,v=.ref e/\H1 e=some (XN e C od)/\xdl K C=true/\E Z e C (upd H1 e (XO e C od))
section
variable {X:Cx}{k:Nat}{f C:Addr}{fd:FuncData}{ps:List Str}{sp:Sp}{dvs:List V}{ds:List Value}{E:St->XK}{x m:Str}{p pos apos:Pos}{e o:Expr}{es:List Expr}{ta te:TE}{t:TA}
theorem xoy {pins:List (Addr × Obj)}{Z:St}{H:Hp}{s:Shared}{Q:VK}{us:List Value}{vs:List V} (M:XMk X.K C f) (F:FnOk q0 X.prog X.w X.K X.mg X.base (CXo X.prog X.w) k f fd ps sp) (hr:Room q0 (k+1) X.A) (hb:xz X.K fd ps ds) (hd:Vals dvs ds)
    (I:Inv X pins Z H s) (r:Vals vs us) (hl:vs.length<=1000)
    (h:∀ e,H e=none->sp (.ref e::(vs++dvs)) (upd H e (XN e C none)) (fun v H2=>v=.non/\Q (.ref e) H2) (fun _ _ _=>False)) :
    wpAny (model X.prog X.w) X.A (call (.ref C) us) (EP X pins Z Q) X.xe s:=by
  obtain⟨nm,qn,N,bs,bm,hz,sn,sub,ab,col,dd,k0,k1,k2,k3,k5,gC,T⟩:=xh8 I.kIn M.makes;have ty:PySem.W.typeIn X.K (.ref f)=some (.type "function"):=beq_iff_eq.mp M.fn;obtain⟨oI,gI,cI⟩:=Zk.mp (show (X.K.lookup f).map (·.cls)=some (.type "function") from ty);have lu:us.length<=sizeLine:=by
    have:=r.length;rw[<- this,YV];omega
  obtain⟨hh,gg,d,tk,os⟩:=s;refine xnh PySem.F.excBase_ValueError T gC (fun A' Q' E' s' kk q=>PySem.W.looks_findIn I.kIn M.init A' Q' E' s' kk q) (I.kIn _ _ gI) cI lu fun h' e hm se=>?_;have hn:H e=none:=I.hok.fresh se;obtain⟨t0,ge,_,_⟩:=hm.there;have xa:Xat h' e (.ref C) none none:=⟨_,_,ge,rfl,rfl,rfl,by simp,.inl ⟨rfl,rfl⟩⟩
  have I2:Inv X pins Z (upd H e (XN e C none)) ⟨h',gg,d,tk,os⟩:=I.laid (t':=tk) hm.keeps se (xq9 xa);have hq:=h e hn;have r2:Vals (V.ref e::(vs++dvs)) (Zm e::(us++ds)):=.cons rfl (r.append hd);have hl2:(Zm e::us++ds).length=ps.length:=by
    have z:=r2.length;rw[F.len _ _ _ _ hq] at z;exact z.symm
  refine Q8 (QA (F.run _ X.stack _ _ ⟨Zm e::us,[]⟩ (Zm e::(us++ds)) _ _ (fun _ _ _=>False) (hr.make C us [])
    (I2.env0.make C us []) (hb _ (Zm e::us) I2.kIn hl2) r2 hq) fun r s' hq'=>?_)
  cases r with
  | error e'=>exact (xm pins Z _ _ e' s' I2 hq')
  | ok fl =>
    cases fl with
    | ret u =>
      obtain⟨v,H',I3,rv,ev,q3⟩:=I2.after hq';subst ev;exact⟨rv,⟨V.ref e,H',I3,rfl,q3⟩⟩
    | next=>exact J8 hq'
    | brk=>exact J8 hq'
    | cont=>exact J8 hq'
theorem xha (M:XMk X.K C f) (F:FnOk q0 X.prog X.w X.K X.mg X.base (CXo X.prog X.w) k f fd ps sp) (hr:Room q0 (k+1) X.A) (hg:Gl X x) (hm:X.mg x=some (.ref C)) (hb:xz X.K fd ps ds) (hd:Vals dvs ds)
    (ha:PA X (e::es) t) (hdb:(x == ("__debug__":Str))=false:=by decide) (he:starEach (e::es) X.env=(false,eval e X.env)::starEach es X.env:=by rfl) (hpl:(backTo pos (starEach es X.env)).any (·.1)=false:=by rfl) :
    PE X (.Call (.Name x p) (e::es) [] pos) (xtq C sp dvs t):=by
  intro pins s Z H Q I h;refine Yk (xev I hg hm ?_ hdb);refine Qn (h₀:=X.base) I.ok.mod.kin M.kp (thn (ha pos pins s Z H _ I h) fun us s1 ⟨vs,H1,I1,r,hl,q⟩=>⟨I1.kIn,?_⟩) he hpl;exact xoy M F hr hb hd I1 r hl q
theorem Inv.toXO {pins:List (Addr × Obj)}{Z:St}{H:Hp}{s:Shared}{e:Addr}{od:Option Addr} (I:Inv X pins Z H s) (h:H e=some (XN e C od)):Inv X pins Z (upd H e (XO e C od)) s:=by
 have x:=xj0 I h;obtain⟨oe,_,ge,_⟩:=id x;exact I.write (x:=e) (e:=e) (t':=s.toks) (by rw[h]; exact Js) (.inl rfl) (fun b u _ z=>z) ⟨oe,ge⟩ (xrj (xpg x))
theorem xjk {h:Heap}{bm:List Value} (T:OwnTail h vErr bm):bm.contains (.type "BaseException")=true:=T.hasType (by decide +kernel)
theorem xhf (hh:X.A.handled=none) (tk:xgm X E) (he:PE X e te):PS X (.Raise (some e) none pos) (xtt X.K te E):=by
 intro pins s Z H D I h;rw[arm_exec_Raise];refine Zc (Qv ?_);show wpAny _ _ (raiseStmt X.env (some (do let v <- eval e X.env; standAt pos; pure v)) none) _ _ s;refine xs9 hh (Zc (thn (he pins s Z H _ I h) fun v s1 ⟨x,H1,I1,rx,a,C,od,ex,ea,mk,q⟩=>Zc (Qv (Zl ?_))));subst ex;obtain rfl:v=Zm a:=rx;obtain⟨nm,qn,N,bs,bm,hz,sn,sub,ab,col,dd,k0,k1,k2,k3,k5,gC,T⟩:=xh8 I1.kIn mk;have x:=xj0 I1 ea;exact⟨a,od,C,nm,qn,N,bs,bm,hz,sn,sub,ab,col,dd,k0,k1,k2,k3,k5,_,rfl,xjk T,gC,x,tk pins Z _ s1 a C od none (I1.toXO ea) x xf (fun T' z=>by cases z) q⟩
end
end L2
namespace XL
open PySem PySem.W
section
variable {M:Model}{A:Around}{E:Value->Shared->Prop}{s:Shared}
theorem xqb {fs:List Addr}{e T:Addr}{cls:Value}{od:Option Addr}{Q:Unit->Shared->Prop} (x:Xat s.heap e cls od (some T)) (nf:∀ b∈fs,b≠T)
    (k:∀ h',Stp fs e (some T) s.heap h'->Xat h' e cls od (some T)->Q () { s with heap:=h' }):wpAny M A (setFlight (.ref e) none) Q E s:=by
  obtain⟨oe,vs,ge,ce,oo,de,se,y⟩:=x;rcases y with⟨z,_⟩|⟨T',oT,ts,z,h1,nTe,gT,dT,h3⟩
  . cases z
  . cases z
    unfold setFlight;refine Zc (Yv ge de h1 ?_);rw[if_pos (show (Zm T != ZU)=true from by simp)];have z3:3<ts.size:=(Array.getElem?_eq_some_iff.mp h3).1;have ot:∀ b,b≠T->(s.heap.update T (YU (·.setIfInBounds 3 ((none:Option Addr).elim ZU fun f=>rawInt f)))).get? b=s.heap.get? b:=fun b hb=>Ja _ _ (ZI hb);refine QY gT dT z3 (k _ ⟨fun b o hb _ bt _=>(ot b fun q=>bt (congrArg some q.symm)).trans hb,fun b o hb bf=>⟨o.slots,(ot b (nf b bf)).trans hb⟩⟩ ?_);exact⟨oe,vs,(ot e (ZI nTe)).trans ge,ce,oo,de,se,.inr ⟨T,_,_,rfl,h1,nTe,ZM _ gT (YS (YE dT _)),YE dT _,by simp[z3]⟩⟩
variable {nm qn nm' qn':Str}{C N C' N':Addr}{bs bm bs' bm':List Value}{hz hz':Bool}{sn sn':List Str}{sub sub':List Value}{ab ab':Bool}{col col':Option Bool}{dd dd':Option Addr}{k0 k1 k2 k3 k5 j0 j1 j2 j3 j5:Option Value}{ni ni':String}
theorem xll {h:Heap}{g:Array GenState}{d:Drawn}{t:Nat}{os:OsState}{e:Addr}{oe:Obj}{b:Bool}{Q:Bool->Shared->Prop}
    (gC:h.get? C=some (excClassObj nm qn C N bs bm hz sn sub ab col dd k0 k1 k2 k3 k5 ni)) (gC':h.get? C'=some (excClassObj nm' qn' C' N' bs' bm' hz' sn' sub' ab' col' dd' j0 j1 j2 j3 j5 ni'))
    (ge:h.get? e=some oe) (ce:oe.cls=.ref C) (bB:bm'.contains (.type "BaseException")=true) (hm:(Zm C::bm).contains (.ref C')=b)
    (k:Q b ⟨h,g,d,t,os⟩):wpAny M A (excMatches (.ref e) (.ref C')) Q E ⟨h,g,d,t,os⟩:=by
  have mB:(Zm C'::bm').contains (.type "BaseException")=true:=by rw[Qq,bB,JW]
  have nt:=tc_notTuple;unfold excMatches
  repeat (first|(with_reducible refine JX ge ?_; rw[ce])|with_reducible refine JX gC' ?_|(with_reducible refine Qb gC' ?_; rw[mB])|(with_reducible refine Qb gC ?_; rw[hm])|wp_step)
  cases b<;>(wp_walk; exact k)
end
end XL
namespace L2
open PySem PySem.Spec PyProof.Rows XL
variable {q0:Bool}
abbrev Cx.tryc (X:Cx) (pins:List (Addr × Obj)) (xe:Value->Shared->Prop):Cx:={ X with xe:=xe,pn:=X.pn++pins }
abbrev Cx.hand (X:Cx) (e:Addr):Cx:={ X with A:=X.A.mark (some (.ref e)),calm:=false,xe:=fun _ _=>False }
section
variable {X:Cx}{pins:List (Addr × Obj)}{Z:St}{H:Hp}{s:Shared}
theorem Cx.Ok.tryc (ok:X.Ok) (pins:List (Addr × Obj)) (xe:Value->Shared->Prop):(X.tryc pins xe).Ok :=
 ⟨ok.mod,ok.kind,ok.glob,ok.blt,ok.above,ok.inj,ok.has,ok.cab,ok.hd,ok.frames,ok.stk,ok.exf,ok.bs,ok.bsz,ok.noex,ok.exfs,ok.funs,ok.frf⟩
theorem Cx.Ok.untryc {xe:Value->Shared->Prop} (ok:(X.tryc pins xe).Ok):X.Ok :=
 ⟨ok.mod,ok.kind,ok.glob,ok.blt,ok.above,ok.inj,ok.has,ok.cab,ok.hd,ok.frames,ok.stk,ok.exf,ok.bs,ok.bsz,ok.noex,ok.exfs,ok.funs,ok.frf⟩
theorem Cx.Ok.hand (ok:X.Ok) (e:Addr):(X.hand e).Ok :=
 ⟨ok.mod,ok.kind,ok.glob,ok.blt,ok.above,ok.inj,ok.has,ok.cab,(fun z=>nomatch z),ok.frames,ok.stk,ok.exf,ok.bs,ok.bsz,ok.noex,ok.exfs,ok.funs,ok.frf⟩
theorem Inv.tryc (I:Inv X pins Z H s) (xe:Value->Shared->Prop):Inv (X.tryc pins xe) [] Z H s :=
 ⟨I.ok.tryc pins xe,I.os,I.bare,I.base,I.loc,I.cell,I.free,I.freeC,fun p hp=>I.pin p (by simpa using hp),I.hok,I.len⟩
theorem Inv.untryc {xe:Value->Shared->Prop}{pl:List (Addr × Obj)} (I:Inv (X.tryc pins xe) pl Z H s):Inv X pins Z H s :=
 ⟨I.ok.untryc,I.os,I.bare,I.base,I.loc,I.cell,I.free,I.freeC,fun p hp=>I.pin p (Yy _ hp),I.hok,I.len⟩
theorem Inv.hand (I:Inv X pins Z H s) (e:Addr):Inv (X.hand e) pins Z H s :=
 ⟨I.ok.hand e,I.os,I.bare,I.base,I.loc,I.cell,I.free,I.freeC,I.pin,I.hok,I.len⟩
theorem Inv.unhand {e:Addr} (ok:X.Ok) (I:Inv (X.hand e) pins Z H s):Inv X pins Z H s :=
 ⟨ok,I.os,I.bare,I.base,I.loc,I.cell,I.free,I.freeC,I.pin,I.hok,I.len⟩
theorem Inv.gone {h':Heap}{m m':Str->Option Value}{n:Str}{j t':Nat} (I:Inv X pins Z H s) (hN:X.N.Nodup) (hj:X.N[j]?=some n) (hl:X.env.scope.names.lookup n=some .local)
    (hm:s.heap.Ns X.env.locals m) (hv:∀(i:Nat) (x:Str) (v:V),X.N[i]?=some x->Z[i]?=some (some v)->Vis X.env.scope x->∃ u,RelV v u/\Look X.env s.heap m x u)
    (n':h'.Ns X.env.locals m') (e':∀ y,y≠n->m' y=m y) (sb:ZN X.env.locals s.heap h'):Inv X pins (Z.set j none) H { s with heap:=h',toks:=t' }:=by
  have kp:∀ b o,b≠X.env.locals->s.heap.get? b=some o->h'.get? b=some o:=fun b o nb g=>(sb.2 b nb).trans g;have neL:∀ b o,X.s₀.heap.get? b=some o->b≠X.env.locals:=fun b o e=>ZK (ZJ (Zq e) I.ok.above);have trk:∀ b u,H b=some u->b≠X.env.locals:=fun b u hb z=>by rw[z,I.free] at hb; cases hb
  refine⟨I.ok,I.os,I.bare,⟨fun b o e n hb hx=>kp b o (neL b o e) (I.base.keep b o e n hb hx),fun b o e n hb hx=>?_,fun b o e n hx=>I.base.free b o e n hx,fun b o e hx=>?_,I.base.tups,I.base.frzs,I.base.tbls⟩,
    ⟨m',n',fun i x v e1 e2 e3=>?_⟩,fun x c e=>?_,I.free,I.freeC,fun p hp=>?_,fun b u hb=>?_,by rw[JV]; exact I.len⟩
  . obtain⟨sl,q⟩:=I.base.slot b o e n hb hx
    exact⟨sl,kp b _ (neL b o e) q⟩
  . obtain⟨o',q⟩:=I.base.there b o e hx
    exact⟨o',kp b o' (neL b o e) q⟩
  . have nij:i≠j:=fun z=>by
      subst z;have hl2:i<Z.length:=by rw[I.len]; exact (Zi.mp hj).1
      rw[Yl hl2] at e2;cases e2
    rw[J5 (ZI nij)] at e2;have nx:x≠n:=fun z=>nij (xhg hN e1 (by rw[z]; exact hj));obtain⟨u,r,l⟩:=hv i x v e1 e2 e3;refine⟨u,r,?_⟩;rcases l with⟨k,z⟩|⟨k,c,e,o,ho,hd⟩
    . exact .inl ⟨k,by rw[e' x nx]; exact z⟩
    . exact .inr ⟨k,c,e,o,kp c o (I.cne x c e) ho,hd⟩
  . obtain⟨v,o,ho,hd⟩:=I.cell x c e
    exact⟨v,o,kp c o (I.cne x c e) ho,hd⟩
  . obtain⟨e,a,ne,nf,d⟩:=I.pin p hp
    exact⟨kp p.1 p.2 ne e,a,ne,nf,d⟩
  . refine (I.hok b u hb).stay (fun c v hc q=>?_) (fun c q=>q) fun c xs q=>q
    rcases hc with rfl|hc
    . exact kp c v (trk c u hb) q
    . exact kp c v (trk c _ hc) q
end
def endH (D:Ends) (j:Nat):Ends:={ nx:=fun Z H=>D.nx (Z.set j none) H,rt:=D.rt,bk:=fun Z H=>D.bk (Z.set j none) H,ct:=fun Z H=>D.ct (Z.set j none) H }
def tTry (K:Zd) (C0:Addr) (j:Nat) (E:St->XK) (tb th:TS):TS:=fun D Z H=>tb D Z H/\∀ σ' e C H',E σ' e C H'->xdl K C=true/\Wl K C (.ref C0)=some true/\th (endH D j) (σ'.set j (some (.ref e))) H'
section
variable {X:Cx}{pos np hpos:Pos}{body hbody:List Stmt}{b0:Stmt}{cx n:Str}{C0:Addr}{j:Nat}{E:St->XK}{tb th:TS}
theorem xts (hg:Gl X cx) (hm:X.mg cx=some (.ref C0)) (mk0:xdl X.K C0=true) (hN:X.N.Nodup) (hj:X.N[j]?=some n) (hl:X.env.scope.names.lookup n=some .local) (hf:X.env.frame=some X.env.locals) (hst:X.stack=X.env::X.outer)
    (hb:∀ pins xe,xgm (X.tryc pins xe) E->PSs (X.tryc pins xe) body tb) (hh:∀ e,PSs (X.hand e) (b0::hbody) th) (hdb:(cx == ("__debug__":Str))=false:=by decide) :
    PS X (.Try body [.ExceptHandler (some (.Name cx np)) (some n) (b0::hbody) hpos] [] [] pos) (tTry X.K C0 j E tb th):=by
  intro pins s Z H D I ⟨h1,h2⟩;refine wpAny_Try_except ?_;have ok:=I.ok;have T:xgm (X.tryc pins (fun e s₁=>wpAny (model X.prog X.w) X.A (noteFrame e X.env) (fun _ s₂=>wpAny (model X.prog X.w) X.A (setFlight e none) (fun _ s₃=>wpAny (model X.prog X.w) X.A (handleBy e X.env [.ExceptHandler (some (.Name cx np)) (some n) (b0::hbody) hpos]) (SP X pins D) X.xe s₃) X.xe s₂) X.xe s₁)) E:=by
    intro pl σ' H' s' e C od tb' I' x he tbs q;have J:=I'.untryc;have tbs':Tbs X pins H' tb':=fun T z=>by
      obtain⟨a1,a2,a3,a4,a5⟩:=tbs T z;exact⟨a1,a2,a3,a4,fun p hp=>a5 p (Yy _ hp)⟩
    obtain⟨mkC,mro,hth⟩:=h2 σ' e C H' q;have fr:X.A.frames=some (X.env::X.outer):=by rw[<- hst]; exact J.ok.frames
    have ff:s'.heap.FunFrames X.base (X.env::X.outer):=by rw[<- hst]; exact J.stack
    refine xou (L:=X.env.locals) fr ff hf x fun h' T st sT x'=>?_;rw[<- hst] at st;have J2:=J.noted he tbs' st x';have fr2:X.base.objs.size<=s'.heap.objs.size:=Zy J.ok.bsz J.sz;have ff2:h'.FunFrames X.base X.stack:=J2.stack;have nT:∀ b∈frs X.stack,b≠T:=fun b hb z=>by
      obtain⟨_,o,ho,hnf⟩:=J.stack.mem hb;rw[z] at ho;exact absurd (Zq ho) (Wp.mpr sT)
    have fresh:=J.size_lt sT;have tbs2:Tbs X pins H' (some T):=fun T' z=>by
      cases z;exact⟨Zy J.sz sT,fresh.1,fresh.2.1,fresh.2.2.1,fresh.2.2.2⟩
    obtain⟨nm,qn,N,bs,bm,hz,sn,sub,ab,col,dd,k0,k1,k2,k3,k5,gC,TC⟩:=xh8 J2.kIn mkC;obtain⟨nm',qn',N',bs',bm',hz',sn',sub',ab',col',dd',j0,j1,j2,j3,j5,gC0,TC0⟩:=xh8 J2.kIn mk0;refine wpAny_handleBy_cons (codeAny_handlers_test (xev (X:=X.hand e) (J2.hand e) hg hm ?_ hdb)) (by intro z; cases z);obtain⟨oe,_,ge,ce,_⟩:=id x';have hmr:(Zm C::bm).contains (.ref C0)=true:=by
      obtain⟨cd,e1,e2⟩:=Option.bind_eq_some_iff.mp mro;have e3:(Zm C::bm)=cd.mro:=by
        unfold PySem.W.clsIn at e1;split at e1
        . rename_i c1 d1 cd1 sl1 ho
          cases e1;have z:=(J2.kIn _ _ ho).symm.trans gC;injection z with z
          injection z with _ _ z _
          injection z with z
          rw[z]
        . cases e1
      rw[e3];split at e2
      . cases e2
      . exact Jw.inj e2
    refine xll (M:=model X.prog X.w) gC gC0 ge ce (xjk TC0) hmr ?_;show codeAny _ _ _ _ _;refine codeAny_handlers_suite_as (xqb (fs:=frs X.stack) x' nT fun h3 st3 x3=>?_);have J3:Inv X pins σ' H' { s' with heap:=h3 }:=J2.noted he tbs2 st3 x3;refine xgy (v:=V.ref e) J3 hN hj (.inl hl) rfl (fun s4 J4=>?_) (.inr hl);refine ZT (hh e pins s4 _ H' _ (J4.hand e) hth) (fun f s5 q5=>?_) fun _ _ z=>z.elim;have fin:∀{σ5:St}{H5:Hp}{Q:Unit->Shared->Prop},Inv (X.hand e) pins σ5 H5 s5->(∀ s6,Inv X pins (σ5.set j none) H5 s6->Q () s6) ->
        wpAny (model X.prog X.w) X.A (do bindName X.env n ZU; unbindBehindTheSuite X.env n hpos) Q X.xe s5:=fun {σ5 H5 Q} K5 kq=>by
      have K6:Inv X pins σ5 H5 s5:=Inv.unhand ok K5;obtain⟨m,hm5,hv5⟩:=K6.loc;refine xop (show X.env.kindOf n=some .local from hl) hm5 (by simp[ok.kind]) fun h6 m6 n6 e6 s6=>kq _ (K6.gone hN hj hl hm5 hv5 n6 e6 s6)
    cases f with
    | next =>
      obtain⟨σ5,H5,K5,z⟩:=q5;exact fin K5 fun s6 K6=>⟨_,H5,K6,z⟩
    | brk =>
      obtain⟨σ5,H5,K5,z⟩:=q5;exact fin K5 fun s6 K6=>⟨_,H5,K6,z⟩
    | cont =>
      obtain⟨σ5,H5,K5,z⟩:=q5;exact fin K5 fun s6 K6=>⟨_,H5,K6,z⟩
    | ret u =>
      obtain⟨v,σ5,H5,K5,r,z⟩:=q5;exact fin K5 fun s6 K6=>⟨v,_,H5,K6,r,z⟩
  refine ZT (hb pins _ T [] s Z H D (I.tryc _) h1) (fun f s1 q=>?_) fun u s1 q=>q;cases f with
  | next =>
    obtain⟨σ',H',J,z⟩:=q;exact QJ ⟨σ',H',J.untryc,z⟩
  | brk =>
    obtain⟨σ',H',J,z⟩:=q;exact⟨σ',H',J.untryc,z⟩
  | cont =>
    obtain⟨σ',H',J,z⟩:=q;exact⟨σ',H',J.untryc,z⟩
  | ret u =>
    obtain⟨v,σ',H',J,r,z⟩:=q;exact⟨v,σ',H',J.untryc,r,z⟩
end
end L2
namespace XL
open PySem PySem.W
theorem xos {K:Frag}{x C:Addr} (c:XC K C):KitX K (.ref x) (.ref C) (fun h=>∃ ox od,InstAt h x ox C od) where
 ty:=fun _ _ _ ⟨_,_,I⟩=>I.type
 it:=fun _ _ X _=>by
  obtain⟨cd,hc,_,_⟩:=c.mro;unfold clsIn at hc;split at hc
  .rename_i c' d' cd' sl' ho
   intro A' Q' E' s' k q;unfold isType loadHead;exact Zc (Qj (k _ _ (X _ _ ho)) (Zl q))
  .cases hc
 ne:=fun h tp dd its n sl X htp=>by
  obtain⟨cd,hc,_,_⟩:=c.mro;refine Jq.mpr fun q=>?_;have e:C=tp:=Zm.inj (beq_iff_eq.mp q);subst e;unfold clsIn at hc;split at hc
  .rename_i c' d' cd' sl' ho
   have z:=(X _ _ ho).symm.trans htp;cases z
  .cases hc
 ca:=fun X ⟨ox,od,I⟩ k=>xqc X c I k
end XL
namespace L2
open PySem PySem.Spec PyProof.Rows XL
variable {q0:Bool}
def clsV:V->Option Value
 | .ty n=>some (.type n)
 | .ref a=>some (.ref a)
 | _=>none
theorem xg1 {c:V}{u cv:Value} (e:clsV c=some cv) (r:RelV c u):u=cv:=by
 cases c<;>first|(cases e; exact r)|cases e
def xns:List V->Option (List Value)
 | []=>some []
 | c::r=>(clsV c).bind fun a=>(xns r).map (a::·)
theorem xjn:∀{cs:List V}{us cv:List Value},xns cs=some cv->Vals cs us->us=cv
 | [],_,_,e,.nil=>by cases e; rfl
 | c::r,_,_,e,.cons rc rr=>by
  obtain⟨a,e1,e2⟩:=Option.bind_eq_some_iff.mp e;obtain⟨b,e3,rfl⟩:=Zk.mp e2;rw[xg1 e1 rc,xjn e3 rr]
section
variable {X:Cx}{pins:List (Addr × Obj)}{Z:St}{H:Hp}{s:Shared}{A:Around}{E:Value->Shared->Prop}{Q:Value->Shared->Prop}
theorem xma {a C:Addr}{od:Option Addr} (I:Inv X pins Z H s) (h:H a=some (XO a C od)) (hd:∀ d,od=some d->∃ o,s.heap.get? d=some o):∃ ox odx,PySem.W.InstAt s.heap a ox C odx:=by
 obtain⟨ox,vs,g,ce,oo,de⟩:=xrf I h;cases e:od with
 | none=>exact⟨ox,none,g,ce,xee de,by rw[oo,e]; trivial⟩
 | some d =>
  obtain⟨o,go⟩:=hd d e;exact⟨ox,some o,g,ce,xee de,by rw[oo,e]; exact go⟩
end
inductive xib (K:Zd) (xs:List V) (H:Hp) (Q:VK):Prop
 | mk (x c) (e_:xs=[x,c]) (r_:((∃ t cv b,TyOf K H x t/\clsV c=some cv/\Yw K t cv=some b/\Q (.bl b) H)\/(∃ a C od cv b,x=.ref a/\H a=some (XO a C od)/\(∀ d,od=some d->∃ fs,H d=some (XD d fs))/\XC K C/\clsV c=some cv/\Yw K (.ref C) cv=some b/\Q (.bl b) H)\/(∃ a C od p cs cv b,x=.ref a/\H a=some (XO a C od)/\(∀ d,od=some d->∃ fs,H d=some (XD d fs))/\XC K C/\c=.ref p/\SqT K H p cs/\xns cs=some cv/\PySem.W.kitAny K (.ref C) cv=some b/\Q (.bl b) H)))
section
variable {X:Cx}
theorem xba:xby X (.builtin "isinstance") (xib X.K):=by
 intro pins s Z H us xs Q I r h;obtain⟨x,c,rfl,h⟩:=h;obtain⟨u,v,rfl,ru,rv⟩:=xh7 r;rcases h with⟨t,cv,b,ty,ec,ek,q⟩|⟨a,C,od,cv,b,rfl,ha,hd,xc,ec,ek,q⟩|⟨a,C,od,p,cs,cv,b,rfl,ha,hd,xc,rfl,hp,ec,ek,q⟩
 .obtain rfl:=xg1 ec rv;exact xoz I ru ty ek fun tk=>⟨.bl b,H,I.tok tk,rfl,q⟩
 .obtain rfl:=xg1 ec rv;obtain rfl:u=Zm a:=ru;refine Jv (xos xc) I.kIn (xma I ha fun d e=>?_) ek (fun z=>nomatch z) fun tk=>⟨.bl b,H,I.tok tk,rfl,q⟩
  obtain⟨fs,hw⟩:=hd d e;obtain⟨_,_,⟨o,_,_,go,_⟩,_⟩:=xj2 I hw;exact⟨o,go⟩
 .obtain rfl:u=Zm a:=ru;obtain rfl:v=Zm p:=rv;obtain⟨its,vi,it,_⟩:=I.tuple hp;obtain rfl:=xjn ec vi;obtain⟨o,g,oc,n,od'⟩:=it;obtain⟨c1,d1,dt1,sl1⟩:=o
  dsimp only at oc od'
  subst oc od';refine PySem.W.kia_tup (xos xc) I.kIn (xma I ha fun d e=>?_) g ek (fun z=>nomatch z) fun tk=>⟨.bl b,H,I.tok tk,rfl,q⟩
  obtain⟨fs,hw⟩:=hd d e;obtain⟨_,_,⟨o,_,_,go,_⟩,_⟩:=xj2 I hw;exact⟨o,go⟩
end
def xda (scope:Scope):List Str:=(scope.names.filter fun x=>x.2 == .free).map (·.1)
def Cx.clo (X:Cx) (scope:Scope):List (Str × Addr):=(xda scope).reverse.map fun n=>(n,(X.env.cells.lookup n).getD 0)
theorem xh5 {env:Env}{f:Str->Addr}:∀(l:List (Str × NameKind)) (acc:List (Str × Addr)),(∀ x∈l,x.2=.free->env.cells.lookup x.1=some (f x.1)) ->
    (forIn l acc fun x cs=>(if x.2 == .free then do let c <- cellOf env x.1; pure (JL ((x.1,c)::cs)) else pure (JL cs):Sem (ForInStep (List (Str × Addr))))) =
      pure ((((l.filter fun x=>x.2 == .free).map (·.1)).reverse.map fun n=>(n,f n))++acc)
  | [],acc,_=>rfl
  | x::r,acc,h=>by
    have ih:=fun a=>xh5 r a fun y hy=>h y (Zt _ hy);rw[List.forIn_cons];by_cases q:x.2=.free
    . have e:=h x Zr q
      have qb:(x.2 == Wm)=true:=by rw[q]; rfl
      rw[if_pos qb,Y1,if_pos qb];have ec:cellOf env x.1=pure (f x.1):=by unfold cellOf; rw[e]
      rw[ec];simp only[pure_bind];rw[ih];simp
    . have qb:(x.2 == Wm)=false:=by simpa using q
      rw[if_neg (by rw[qb]; decide),Y1,if_neg (by rw[qb]; decide)];simp only[pure_bind];rw[ih]
theorem xpc {X:Cx}{scope:Scope} (h:∀ n∈xda scope,∃ c,X.env.cells.lookup n=some c):closureFor scope X.env=pure (X.clo scope):=by
 unfold closureFor;have z:=xh5 (env:=X.env) (f:=fun n=>(X.env.cells.lookup n).getD 0) scope.names [] fun x hx hf=>by
  obtain⟨c,e⟩:=h x.1 (Ze.mpr ⟨x,ZO.mpr ⟨hx,by simp[hf]⟩,rfl⟩);rw[e];rfl
 rw[Jy] at z;refine (bind_pure (m:=Sem) _).trans ?_;exact z
theorem xr6 {X:Cx}{scope:Scope}{n:Str}{c:Addr} (h:(X.clo scope).lookup n=some c):n∈xda scope/\c=(X.env.cells.lookup n).getD 0:=by
 have z:=JB h;unfold Cx.clo at z;obtain⟨y,hy,e⟩:=Ze.mp z;injection e with e1 e2
 subst e1;exact⟨List.mem_reverse.mp hy,e2.symm⟩
theorem xen {f:Str->Addr}{n:Str}:∀{l:List Str},n∈l->(l.map fun y=>(y,f y)).lookup n=some (f n)
 | [],h=>by simp at h
 | y::r,h=>by
  rw[Zx,Z2];by_cases q:n=y
  .subst q;simp
  .rw [show (n == y)=false from by simpa using q];exact xen ((Z1.mp h).resolve_left q)
theorem xmw {X:Cx}{scope:Scope}{n:Str}{c:Addr} (hn:n∈xda scope) (h:X.env.cells.lookup n=some c):(X.clo scope).lookup n=some c:=by
 have z:=xen (f:=fun n=>(X.env.cells.lookup n).getD 0) (List.mem_reverse.mpr hn);unfold Cx.clo;rw[z,h];rfl
def xdk:TT:=fun _ H Q=>Q true H
def PIf (X:Cx) (ifs:List Expr) (t:TT):Prop :=
 ∀(pins:List (Addr × Obj)) (s:Shared) (Z:St) (H:Hp) (Q:Bool->Hp->Prop),Inv X pins Z H s->t Z H Q ->
  wpAny (model X.prog X.w) X.A (forIn ifs true fun c r=>if r=true then do let ok <- isTrue c X.env (eval c X.env); pure (JL ok) else pure (JL r)) (TP X pins Z Q) X.xe s
theorem xbk {X:Cx}:PIf X [] xdk:=fun pins s Z H Q I h=>Zl ⟨H,I,h⟩
theorem xgb {X:Cx}{c:Expr}{t:TT} (hc:PT X c t):PIf X [c] t:=fun pins s Z H Q I h=>by
 rw[List.forIn_cons];refine Zc ?_;rw[if_pos rfl];refine Zc (ZT (hc pins s Z H Q I h) (fun b s1 q=>Zl ?_) fun _ _ z=>z);exact Zl q
theorem xon {env:Env}{scope:Scope} (nc:∀ y∈scope.names,y.2≠.cell) (n:Str) (h:(relabel scope env).names.lookup n=some .cell\/(relabel scope env).names.lookup n=some .free):n∈xda scope:=by
 have key:∀ k,(relabel scope env).names.lookup n=some k->(k=.cell\/k=.free)->n∈xda scope:=fun k e hk=>by
  obtain⟨y,hy,ey⟩:=Ze.mp (JB e);obtain⟨m,j⟩:=y
  dsimp only at ey
  split at ey
  .rename_i q
   injection ey with e1 e2
   subst e1;have:j=.free:=by
    simp only[Z4,beq_iff_eq] at q;exact q.1.1
   subst this;exact Ze.mpr ⟨_,ZO.mpr ⟨hy,by simp⟩,rfl⟩
  .injection ey with e1 e2
   subst e1 e2;rcases hk with z|z
   .exact absurd z (nc _ hy)
   .subst z;exact Ze.mpr ⟨_,ZO.mpr ⟨hy,by simp⟩,rfl⟩
 rcases h with h|h
 .exact key _ h (.inl rfl)
 .exact key _ h (.inr rfl)
theorem xm5 {env:Env}{scope:Scope}{n:Str} (h:scope.names.lookup n=some .free):(relabel scope env).names.lookup n=some .cell\/(relabel scope env).names.lookup n=some .free:=by
  have key:∀(l:List (Str × NameKind)),l.lookup n=some .free->(l.map fun (m,k)=>if (k == Wm&&env.scope.kind == .function&&env.kindOf m == some .cell) then (m,NameKind.cell) else (m,k)).lookup n=some .cell \/
      (l.map fun (m,k)=>if (k == Wm&&env.scope.kind == .function&&env.kindOf m == some .cell) then (m,NameKind.cell) else (m,k)).lookup n=some .free:=fun l=>by
    induction l with
    | nil=>intro e; simp at e
    | cons y r ih =>
      intro e;obtain⟨m,k⟩:=y;rw[Zx];rw[Z2] at e;cases q:n == m with
      | true =>
        rw[q] at e;cases e
        dsimp only
        split
        . left; rw[Z2,q]
        . right; rw[Z2,q]
      | false =>
        rw[q] at e;have z:=ih e
        dsimp only
        split<;>(rw[Z2,q]; exact z)
  exact key _ h
section
variable {P:Program}{w:World}{K:Zd}{mg:Str->Option Value}{base:Heap}
theorem Fun.okx {x qual:Str}{st:Stmt}{f:Addr}{fd:FuncData}{N ps:List Str}{k:Nat}{sp:Sp} (F:Fun K x qual st f fd) (S:xv N ps (xp st)) (len:∀ vs H Q E,sp vs H Q E->vs.length=ps.length)
    (hbody:∀(cdv:Value) (A:Around) (outer:List Env) (s:Shared) (H:Hp) (vs:List V) (Q:VK) (E:XK),Room q0 k (A.deeper (envOfC qual (xp st) s.heap.objs.size f cdv))->sp vs H Q E ->
      ∃ t,PSs (cxOf q0 (CXo P w) P w K mg base N qual (xp st) f cdv A outer s H E) (xbb st) t/\t { nx:=fun _ H'=>Q .non H',rt:=Q } (xc7 N vs) H):FnOk q0 P w K mg base (CXo P w) (k+1) f fd ps sp:=by
  obtain⟨oc,od,kV,doc,pm,an,cdv,ct,osl,rfl,lk,hcd⟩:=F.ex;exact xj1 lk hcd S len fun A outer s H vs Q E hr hsp=>hbody cdv A outer s H vs Q E hr hsp
theorem Fun.okn {x qual:Str}{st:Stmt}{f:Addr}{fd:FuncData}{N ps:List Str}{k:Nat}{sp:Sp} (F:Fun K x qual st f fd) (S:xv N ps (xp st)) (len:∀ vs H Q E,sp vs H Q E->vs.length=ps.length)
    (hbody:∀(cdv:Value) (A:Around) (outer:List Env) (s:Shared) (H:Hp) (vs:List V) (Q:VK) (E:XK),Room q0 k (A.deeper (envOfC qual (xp st) s.heap.objs.size f cdv))->sp vs H Q E ->
      ∃ t,PSs (cxOf q0 (CXo P w) P w K mg base N qual (xp st) f cdv A outer s H E).nox (xbb st) t/\t { nx:=fun _ H'=>Q .non H',rt:=Q } (xc7 N vs) H):FnOk q0 P w K mg base (CXo P w) (k+1) f fd ps sp:=by
  obtain⟨oc,od,kV,doc,pm,an,cdv,ct,osl,rfl,lk,hcd⟩:=F.ex;refine xj1 lk hcd S len fun A outer s H vs Q E hr hsp=>?_;obtain⟨t,h,q⟩:=hbody cdv A outer s H vs Q E hr hsp;exact⟨t,h.nox,q⟩
end
end L2
namespace L2
open PySem PySem.Spec PyProof.Rows XL
theorem ifP {b:Bool}{A B:Prop} (h:b=true) (q:A):if b=true then A else B:=by
 rw[if_pos h];exact q
theorem ifN {b:Bool}{A B:Prop} (h:b=false) (q:B):if b=true then A else B:=by
 rw[if_neg (by rw[h]; decide)];exact q
def sgn (c:Nat):V:=.str ⟨#[c]⟩
theorem xmj {h h':Heap}{it:Addr}{ty:String}{x:Str}{t:Tok}{i:Nat} (y:h.IsStrIter it ty x t i) (k:∀ o,h.get? it=some o->h'.get? it=some o):h'.IsStrIter it ty x t i:=by
 obtain⟨o,ho,r⟩:=y;exact⟨o,k o ho,r⟩
section
variable {X:Cx}
theorem xef:OpR X (compareOp .LtE) (fun x y H Q=>∃ i j,x=.str i/\y=.str j/\Q (.bl (!decide (j.cps.toList<i.cps.toList))) H):=by
 intro pins s Z H x y v u Q I rx ry h;obtain⟨i,j,rfl,rfl,q⟩:=h;obtain⟨t,rfl⟩:=rx;obtain⟨t',rfl⟩:=ry;exact PySem.P.le_str (xao I q rfl)
theorem xgs:xby X (.type "range") (fun xs H Q=>∃ i j,xs=[.int i,.int j]/\∀ p,H p=none->Q (.ref p) (upd H p (.rng i j))):=by
 intro pins s Z H xs us Q I r h;obtain⟨i,j,rfl,q⟩:=h;obtain⟨u,w',rfl,⟨t,rfl⟩,⟨t',rfl⟩⟩:=xh7 r;refine call_range_2 ⟨.ref s.heap.objs.size,_,I.laid (t':=s.toks+1) (fun b o e=>Zh _ e) (Zj _) (show xam X.prog X.w _ _ _ (.rng i j) from ⟨_,_,_,Z5 _ rfl⟩),rfl,q _ (I.hok.fresh (Zj _))⟩
end
end L2
namespace L2
open PySem PySem.Spec PyProof.Rows
variable {q0:Bool}
section
variable {X:Cx}
theorem xgj:∀{us:List Value}{ys:List V},us.length=ys.length->(∀(j:Nat) (y:V) (u:Value),ys[j]?=some y->us[j]?=some u->RelV y u)->Vals ys us
 | [],[],_,_=>.nil
 | u::us,y::ys,hl,h=>.cons (h 0 y u rfl rfl) (xgj (Nat.succ.inj hl) fun j y' u' e e'=>h (j+1) y' u' e e')
def rngL (lo hi:Int):List V:=(Z3 (hi-lo).toNat).map fun (i:Nat)=>V.int (lo+(i:Int))
theorem xfl (hc:X.calm=true):xby X (.type "list") (fun xs H Q=>∃ p lo hi,xs=[.ref p]/\H p=some (.rng lo hi)/\(-(2 ^ 62)<=lo/\lo<2 ^ 62/\-(2 ^ 62)<=hi/\hi<2 ^ 62)/\(hi-lo).toNat<=1000 /\
    ∀ l,H l=none->Q (.ref l) (upd H l (.lst (rngL lo hi)))):=by
  intro pins s Z H xs us Q I r h;obtain⟨p,lo,hi,rfl,hp,⟨h1,h2,h3,h4⟩,hn,q⟩:=h;obtain⟨u,rfl,rx⟩:=xb6 r;cases rx;obtain⟨t1,t2,t3,g⟩:=(show xam X.prog X.w H s.heap p (.rng lo hi) from I.hok p _ hp)
  refine call_list_range (I.ok.hd hc) g (small_one h1 h2 h3 h4) (n:=(hi-lo).toNat) (by rw[rangeSize_one]; split<;>omega) (Zy hn (by decide)) fun h' tk acc' c' kp e it=>?_;have len:acc'.toList.length=(rngL lo hi).length:=by rw[rngL,Za,Zs]; exact it.1
  refine⟨.ref s.heap.objs.size,_,I.laid (t':=tk) kp (Zj _) (show xam X.prog X.w _ h' _ (.lst (rngL lo hi)) from ⟨?_,acc'.toList,c',xgj len fun j y u ey eu=>?_,by simpa using e⟩),rfl,q _ (I.hok.fresh (Zj _))⟩
  . rw[rngL,Za,Zs]
    exact Zy hn (by decide)
  . have eu':acc'[j]?=some u:=by simpa using eu
    obtain⟨t,e2⟩:=it.2 j u eu';have lt:j<(hi-lo).toNat:=by
      have:=(Zi.mp ey).1;simpa [rngL] using this
    rw[rngL,Zg,Jn lt] at ey;cases ey;exact⟨t,by rw[e2,Int.mul_one]⟩
end
structure FunD (K:Zd) (x qual:Str) (st:Stmt) (T f:Addr) (fd:FuncData):Prop where
 ex:∃(oc:Value) (od:Option Addr) (kV doc pm:Value) (an:Option Addr) (cdv ct:Value) (osl:Array (Option Value)),
  fd=Jo x qual (xbw st) (xbb st) (xp st) (.ref T) kV doc pm an cdv ct/\K.lookup f=some ⟨oc,od,.func fd,osl⟩/\YL K cdv qual=true
 kp:Jl K (.ref f)=true
section
variable {P:Program}{w:World}{K:Zd}{mg:Str->Option Value}{base:Heap}
theorem FunD.okn {x qual:Str}{st:Stmt}{T f:Addr}{fd:FuncData}{N ps:List Str}{k:Nat}{sp:Sp} (F:FunD K x qual st T f fd) (S:xv N ps (xp st)) (len:∀ vs H Q E,sp vs H Q E->vs.length=ps.length)
    (hbody:∀(cdv:Value) (A:Around) (outer:List Env) (s:Shared) (H:Hp) (vs:List V) (Q:VK) (E:XK),Room q0 k (A.deeper (envOfC qual (xp st) s.heap.objs.size f cdv))->sp vs H Q E ->
      ∃ t,PSs (cxOf q0 (CXo P w) P w K mg base N qual (xp st) f cdv A outer s H E).nox (xbb st) t/\t { nx:=fun _ H'=>Q .non H',rt:=Q } (xc7 N vs) H):FnOk q0 P w K mg base (CXo P w) (k+1) f fd ps sp:=by
  obtain⟨oc,od,kV,doc,pm,an,cdv,ct,osl,rfl,lk,hcd⟩:=F.ex;refine xj1 lk hcd S len fun A outer s H vs Q E hr hsp=>?_;obtain⟨t,h,q⟩:=hbody cdv A outer s H vs Q E hr hsp;exact⟨t,h.nox,q⟩
theorem FunD.binds {x qual:Str}{st:Stmt}{T f:Addr}{fd:FuncData}{ps:List Str}{o:Obj}{items:Array Value}{n:Nat}{ds:List Value} (F:FunD K x qual st T f fd) (ho:K.lookup T=some o) (hs:o.data=.seq items n) (m:Nat) (hm:m+ds.length=ps.length)
    (h:∀(kV doc pm:Value) (an:Option Addr) (cdv ct:Value) (us:List Value),us.length=m ->
      ∃ k,bindArgs (Jo x qual (xbw st) (xbb st) (xp st) (.ref T) kV doc pm an cdv ct) ⟨us,[]⟩=seqItems? (.ref T)>>=k/\k (some items)=pure (ps.zip (us++ds))):xz K fd ps ds:=by
  obtain⟨oc,od,kV,doc,pm,an,cdv,ct,osl,rfl,lk,hcd⟩:=F.ex;intro s us hK hl;rw[Zo] at hl;obtain⟨k,h1,h2⟩:=h kV doc pm an cdv ct us (by omega);exact BindsTo.of_defaults rfl (hK _ _ ho) hs h1 h2
theorem xmd {x qual:Str}{st:Stmt}{T f:Addr}{oc:Value}{od an:Option Addr}{osl:Array (Option Value)}{kV doc pm cdv ct:Value} (l:K.lookup f=some ⟨oc,od,.func (Jo x qual (xbw st) (xbb st) (xp st) (.ref T) kV doc pm an cdv ct),osl⟩)
    (c:YL K cdv qual=true) (k:Jl K (.ref f)=true):FunD K x qual st T f (Jo x qual (xbw st) (xbb st) (xp st) (.ref T) kV doc pm an cdv ct):=⟨⟨oc,od,kV,doc,pm,an,cdv,ct,osl,rfl,l,c⟩,k⟩
end
end L2
namespace L2
open PySem PySem.Spec PyProof.Rows XL
variable {q0:Bool}
abbrev Cx.blkG (X:Cx) (scope:Scope) (zs:List Str) (ys:List Str) (C:Addr) (ex:List Addr) (s:Shared) (H:Hp) (pn:List (Addr × Obj)):Cx where
 prog:=X.prog
 w:=X.w
 K:=X.K
 mg:=X.mg
 base:=X.base
 A:=X.A
 N:=zs++ys
 s₀:=s
 H₀:=H
 env:=compEnvC scope (X.clo scope) C X.env
 outer:=X.stack
 stack:=X.stack
 ex:=ex
 fn:=fun _=>false
 calm:=X.calm
 pn:=pn
 xe:=fun _ _=>False
theorem xhi {prog:Program}{w:World}{A:Around}{R:Result->Shared->Prop}{s:Shared}{elt target iter:Expr}{ifs:List Expr}{scope:Scope}{pos:Pos}{it acc:Value}{env:Env} (I:Nat->Shared->Prop)
    (turn:∀ n s,I n s->wpAny (model prog w) A (pyNext it) (fun r s₁=>match r with
      | none=>R (.ok .next) s₁
      | some v=>wpAny (model prog w) A (letOwnedTupleGo target it v) (fun _ s₀=>wpAny (model prog w) A (assign target env v) (fun _ s₂ =>
          wpAny (model prog w) A (forIn ifs true fun c r=>if r=true then do let ok <- isTrue c env (eval c env); pure (JL ok) else pure (JL r)) (fun ok s₃ =>
            if ok=true then wpAny (model prog w) A (eval elt env) (fun x s₄ =>
              wpAny (model prog w) A (call (.builtin "list.append") [acc,x]) (fun _ s₅=>∃ m,m<n/\I m s₅) (notedBy (model prog w) A env fun e s'=>R (.error e) s') s₄) (notedBy (model prog w) A env fun e s'=>R (.error e) s') s₃
            else ∃ m,m<n/\I m s₃) (notedBy (model prog w) A env fun e s'=>R (.error e) s') s₂) (notedBy (model prog w) A env fun e s'=>R (.error e) s') s₀) (notedBy (model prog w) A env fun e s'=>R (.error e) s') s₁) (notedBy (model prog w) A env fun e s'=>R (.error e) s') s)
    (n:Nat) (h:I n s):codeAny (model prog w) A (.compLoop (.ListComp elt [⟨target,iter,ifs,0⟩] scope pos) 0 it acc env) R s:=by
  refine codeAny_loop rfl I (fun n s hI=>?_) n h;show wpAny _ A ((compTurn (.ListComp elt [⟨target,iter,ifs,0⟩] scope pos) 0 it acc env).onRaise (fun x=>do noteFrame x env; theTreesLotGoes x)) _ _ s;refine wpAny_noted ?_;rw[compTurn_list];refine Zc (Qv (Zc (ZT (turn n s hI) (fun r s₁ h₁=>?_) fun _ _ h'=>h')));cases r with
  | none=>exact Zl h₁
  | some v =>
    refine Zc (ZT h₁ (fun _ s₀ h₀=>Zc (ZT h₀ (fun _ s₂ h₂=>Zc (ZT h₂ (fun ok s₃ h₃=>?_) fun _ _ h'=>h')) fun _ _ h'=>h')) fun _ _ h'=>h');cases ok with
    | false=>exact Zl ⟨rfl,h₃⟩
    | true =>
      exact Zc (Zc (ZT h₃ (fun x s₄ h₄=>Zc (ZT h₄ (fun _ s₅ h₅=>Zl (Zl ⟨rfl,h₅⟩)) fun _ _ h'=>h')) fun _ _ h'=>h'))
structure BlkG (X:Cx) (scope:Scope) (zs:List Str) (ys:List Str) (fr:List Nat):Prop where
 kind:scope.kind=.function
 own:∀ x∈zs,scope.names.lookup x=some .local
 ncell:∀ y∈scope.names,y.2≠.cell
 names:∀ y∈scope.names,y.2=.local->scope.names.lookup y.1=some .local
 free:∀ n∈xda scope,X.env.scope.names.lookup n=some .cell
 has:∀ n,((relabel scope X.env).names.lookup n=some .cell\/(relabel scope X.env).names.lookup n=some .free)->n∈xda scope
 slots:fr.map (fun i=>X.N[i]?)=ys.map some
 ysf:∀ y∈ys,y∈xda scope
 ysc:∀ y∈ys,(relabel scope X.env).names.lookup y=some .cell\/(relabel scope X.env).names.lookup y=some .free
 nd:X.N.Nodup
 ndb:(zs++ys).Nodup
def blk0 (Z:St) (fr:List Nat) (n:Nat):St:=ZC n none++fr.map fun i=>(Z[i]?).join
section
variable {X:Cx}{pins:List (Addr × Obj)}{Z:St}{H:Hp}{s:Shared}{scope:Scope}{zs:List Str}{ys:List Str}{fr:List Nat}{fp:List Addr}
theorem BlkG.cells (B:BlkG X scope zs ys fr) (I:Inv X pins Z H s):∀ n∈xda scope,∃ c,X.env.cells.lookup n=some c:=fun n hn=>I.ok.has n (.inl (B.free n hn))
theorem BlkG.sub (B:BlkG X scope zs ys fr) (I:Inv X pins Z H s) {n:Str}{c:Addr} (h:(X.clo scope).lookup n=some c):X.env.cells.lookup n=some c:=by
 obtain⟨a,b⟩:=xr6 h;obtain⟨d,e⟩:=B.cells I n a;rw[e] at b;rw[b,e];rfl
theorem Inv.blkG {h1:Heap}{m1:Str->Option Value}{t':Nat} (B:BlkG X scope zs ys fr) (I:Inv X pins Z H s) (hf:∀ b∈fp,FpOk X pins H b) (hz:∀ b∈fp,b<s.heap.objs.size) (n1:h1.Ns s.heap.objs.size m1) (k1:∀ b o,s.heap.get? b=some o->h1.get? b=some o) :
    Inv (X.blkG scope zs ys s.heap.objs.size fp s H (X.pn++pins)) [] (blk0 Z fr zs.length) H { s with heap:=h1,toks:=t' }:=by
  have sub:∀ n c,(X.clo scope).lookup n=some c->X.env.cells.lookup n=some c:=fun n c h=>B.sub I h;have cz:∀ n c,X.env.cells.lookup n=some c->c<s.heap.objs.size:=fun n c e=>by
    obtain⟨v,o,ho,_⟩:=I.cell n c e;exact Zq ho
  have nfs:∀ b∈fp,b∉frs X.stack:=fun b hb z=>(Z1.mp (I.stkSub b z)).elim (hf b hb).2.1 (hf b hb).2.2.1;have fz:∀ b,b∈frs X.stack->b<s.heap.objs.size:=fun b hb=>by
    obtain⟨_,o,ho,_⟩:=I.stack.mem hb;exact Zq ho
  refine⟨⟨I.ok.mod,B.kind,I.ok.glob,I.ok.blt,Zj _,fun y z c h1 h2=>I.ok.inj y z c (sub y c h1) (sub z c h2),fun y hy=>?_,(fun y c hy _=>nomatch hy),I.ok.hd,I.ok.frames,.inl rfl,fun b hb=>⟨?_,fun y c h=>(hf b hb).2.2.2.2.1 y c (sub y c h)⟩,
      I.bs,Zy I.ok.bsz I.sz,fun b o e hb=>?_,fun b hb=>nfs b hb,I.stack,I.stkFree⟩,
    rfl,I.bare,Un.kept k1,⟨m1,n1,fun i y v e1 e2 e3=>?_⟩,fun y c h=>?_,I.hok.fresh (Zj _),fun y c h=>I.freeC y c (sub y c h),fun p hp=>?_,I.hok.kept k1,?_⟩
  . obtain⟨c,e⟩:=B.cells I y (B.has y hy)
    exact⟨c,xmw (B.has y hy) e⟩
  . exact ZK (hz b hb)
  . rcases (hf b hb).2.2.2.1 with z|z
    . exact I.ok.noex b o e z
    . exact absurd (ZJ (Zq (I.ok.bs b o e).1) z) (JY _)
  . have ln:(ZC zs.length (none:Option V)).length=zs.length:=JR
    by_cases lt:i<zs.length
    . have e2':(blk0 Z fr zs.length)[i]?=some (some v):=e2
      unfold blk0 at e2';rw[Jj (by rw[ln]; exact lt),Q7] at e2';split at e2'<;>cases e2'
    . obtain⟨k,rfl⟩:∃ k,i=zs.length+k:=⟨i-zs.length,by omega⟩
      have e2':(fr.map fun i=>(Z[i]?).join)[k]?=some (some v):=by
        have z:(blk0 Z fr zs.length)[zs.length+k]?=some (some v):=e2;unfold blk0 at z;rw[Jt (by rw[ln]; omega),ln] at z;simpa using z
      have e1':ys[k]?=some y:=by
        have z:(zs++ys)[zs.length+k]?=some y:=e1;rw[Jt (by omega)] at z;simpa using z
      rw[Zg] at e2';obtain⟨j,hj,ej⟩:=Zk.mp e2';have ev:Z[j]?=some (some v):=by
        cases q:Z[j]? with
        | none=>rw[q] at ej; cases ej
        | some w=>rw[q] at ej; exact congrArg some ej
      have eN:X.N[j]?=some y:=by
        have z:=congrArg (fun l=>l[k]?) B.slots;simp only[Zg,hj,e1',YB] at z;exact Jw.inj z
      have my:y∈ys:=Zn e1';obtain⟨m,_,lk⟩:=I.loc;obtain⟨u,r,l⟩:=lk j y v eN ev (.inr (.inl (B.free y (B.ysf y my))));refine⟨u,r,.inr ⟨B.ysc y my,?_⟩⟩;rcases l with⟨kk,_⟩|⟨_,c,e,o,ho,hd⟩
      . have z:=B.free y (B.ysf y my)
        rw[show X.env.scope.names.lookup y=some .local from kk] at z;cases z
      . exact⟨c,xmw (B.ysf y my) e,o,k1 c o ho,hd⟩
  . obtain⟨v,o,ho,hd⟩:=I.cell y c (sub y c h)
    exact⟨v,o,k1 c o ho,hd⟩
  . have hp':p∈X.pn++pins:=by simpa using hp
    obtain⟨a1,a2,a3,a4,a5⟩:=I.pin p hp';exact⟨k1 _ _ a1,a2,ZK (Zq a1),fun z=>(Z1.mp (I.stkSub _ z)).elim a3 a4,a5⟩
  . have z:=congrArg QW B.slots
    simp only[Za] at z;simp[blk0,z]
end
section
variable {X:Cx}{pins:List (Addr × Obj)}{Z:St}{H:Hp}{s:Shared}{scope:Scope}{zs:List Str}{ys:List Str}{fr:List Nat}{fp:List Addr}
theorem Inv.unblkG {C:Addr}{s':Shared}{h2:Heap}{σ':St}{H':Hp}{pl:List (Addr × Obj)} (I:Inv X pins Z H s) (hf:∀ b∈fp,FpOk X pins H b) (hC:s.heap.objs.size<=C) (J:Inv (X.blkG scope zs ys C fp s H (X.pn++pins)) pl σ' H' s') (sb:ZN C s'.heap h2) :
    Inv X pins Z H' { s' with heap:=h2 }:=by
  have kp:∀ b o,b≠C->s'.heap.get? b=some o->h2.get? b=some o:=fun b o nb g=>(sb.2 b nb).trans g;have old:∀ b o,s.heap.get? b=some o->b≠C:=fun b o g=>ZK (ZJ (Zq g) hC);have trk:∀ b u,H' b=some u->b≠C:=fun b u hb z=>by
    have f:H' C=none:=J.free;rw[z,f] at hb;cases hb
  refine I.call' (s':={ s' with heap:=h2 }) J.os (ch:=fp) ⟨fun b o e n hb hx=>kp b o (old b o e) (J.base.keep b o e n hb hx),fun b o e n hb hx=>?_,fun b o e n hx=>J.base.free b o e n hx,fun b o e hx=>?_,J.base.tups,J.base.frzs,J.base.tbls⟩ (fun b u hb=>?_) J.bare fun b hb=>?_
  . obtain⟨sl,q⟩:=J.base.slot b o e n hb hx
    exact⟨sl,kp b _ (old b o e) q⟩
  . obtain⟨o',q⟩:=J.base.there b o e hx
    exact⟨o',kp b o' (old b o e) q⟩
  . refine (J.hok b u hb).stay (fun c v hc q=>?_) (fun c q=>q) fun c xs q=>q
    rcases hc with rfl|hc
    . exact kp c v (trk c u hb) q
    . exact kp c v (trk c _ hc) q
  . obtain⟨_,a1,_,a3,a4,a5⟩:=hf b hb
    exact⟨a3,a1,a4,a5⟩
end
def GOk (n:Nat) (g:TG):Prop:=∀ v Z H Q,g v Z H Q->g v Z H (fun σ' H'=>Q σ' H'/\σ'.length=Z.length/\∀ i,n<=i->σ'[i]?=Z[i]?)
theorem xbg {i n:Nat} (h:i<n):GOk n (xem i):=fun v Z H Q q=>⟨q,by simp,fun j hj=>by rw[J5 (by omega)]⟩
def xc5 (J:It) (n:Nat) (g:TG) (Z:St) (fr:List Nat) (tc:TT) (te:TE) (l:Addr) (H1:Hp) (Q:VK):Prop:=∃ W:Nat->Nat->List V->Hp->Prop,(∃ m,W 0 m [] (upd H1 l (.lst [])))/\∀ i m xs H2,W i m xs H2 ->
 (J.stop i H2/\Q (.ref l) H2)\/(J.go i H2/\∀ v H3,J.yld i H2 v H3->g v (blk0 Z fr n) H3 fun σ' H3'=>tc σ' H3' fun b H4=>if b=true then
  (te σ' H4 fun y H5=>H5 l=some (.lst xs)/\xs.length<sizeLine/\∃ m',m'<m/\W (i+1) m' (xs++[y]) (upd H5 l (.lst (xs++[y])))) else ∃ m',m'<m/\W (i+1) m' xs H4)
def xki (wi:TI) (n:Nat) (g:TG) (fr:List Nat) (tc:TT) (te:TE):TE:=fun Z H Q=>wi Z H fun J H1=>∀ l,H1 l=none->xc5 J n g Z fr tc te l H1 Q
section
variable {X:Cx}{scope:Scope}{zs:List Str}{ys:List Str}{fr:List Nat}{elt iter tg:Expr}{g:TG}{ifs:List Expr}{px pos:Pos}{wi:TI}{tc:TT}{te:TE}
theorem xia {pins:List (Addr × Obj)}{s:Shared}{Z:St}{H:Hp}{Q:VK}{U:Option (Value->Sem Unit)}{R:Value->Shared->Prop} (hc:X.calm=true) (B:BlkG X scope zs ys fr) (hi:PI X tg iter wi) (hg:∀ C ex s H pn,(∀ x∈zs,(relabel scope X.env).names.lookup x=some .local)->(zs++ys).Nodup->PG (X.blkG scope zs ys C ex s H pn) tg g) (gok:GOk zs.length g)
    (hif:∀ C ex s H pn,PIf (X.blkG scope zs ys C ex s H pn) ifs tc) (he:∀ C ex s H pn,PE (X.blkG scope zs ys C ex s H pn) elt te) (I:Inv X pins Z H s) (h:xki wi zs.length g fr tc te Z H Q)
    (fin:∀ C l H' s' m,(X.s₀.heap.objs.size<=C/\C≠X.env.locals/\(∀ x c,X.env.cells.lookup x=some c->c≠C)/\∀ p∈X.pn++pins,p.1≠C)->H' C=none->s'.heap.Ns C m->(∀ h2,ZN C s'.heap h2->Inv X pins Z H' { s' with heap:=h2 })->Q (.ref l) H'->compPost (model X.prog X.w) X.A X.xe U R (.ref l) C (.ok .next) s') :
    wpAny (model X.prog X.w) X.A (eval iter X.env) (fun v s1=>wpAny (model X.prog X.w) X.A (pyIter v) (fun it s2=>wpAny (model X.prog X.w) X.A (newList []) (fun acc s3 =>
      wpAny (model X.prog X.w) X.A (newFunctionEnv scope X.env.globals (X.clo scope) [] X.env.qual none .none (some X.env)) (fun cenv s4 =>
        codeAny (model X.prog X.w) X.A (.compStart (.ListComp elt [⟨tg,iter,ifs,0⟩] scope pos) 0 it acc { cenv with scope:=relabel scope X.env }) (compPost (model X.prog X.w) X.A X.xe U R acc cenv.locals) s4) X.xe s3) X.xe s2) X.xe s1) X.xe s:=by
  refine thn (hi pins s Z H _ I h) fun v s1 h1=>thn h1 fun itv s2 h2=>?_;obtain⟨it,fp,tn,J,H2,rfl,I2,T,st2,f2,body⟩:=h2;have hN:H2 s2.heap.objs.size=none:=I2.hok.fresh (Zj _);obtain⟨W,⟨m0,w0⟩,turn⟩:=body s2.heap.objs.size hN;refine Yq ?_;generalize hs3:({ s2 with heap:=s2.heap.push { cls:=.type "list",data:=.seq ([]:List Value).toArray } }:Shared)=s3;have k3:∀ b o,s2.heap.get? b=some o->s3.heap.get? b=some o:=fun b o g=>by rw[<- hs3]; exact Zh _ g
  have I3:Inv X pins Z (upd H2 s2.heap.objs.size (.lst [])) s3:=by
    rw[<- hs3];exact I2.laid (t':=s2.toks) (fun b u e=>Zh _ e) (Zj _) ⟨ZW _,[],0,.nil,Z5 _ rfl⟩
  have z2:∀ b∈fp,b<s2.heap.objs.size:=fun b hb=>by
    obtain⟨o,g,_⟩:=T.obj 0 _ st2 b hb;exact Zq g
  have z3:∀ b∈fp,b<s3.heap.objs.size:=fun b hb=>by
    obtain⟨o,g,_⟩:=T.obj 0 _ st2 b hb;exact Zq (k3 b o g)
  have f3:∀ b∈fp,FpOk X pins (upd H2 s2.heap.objs.size (.lst [])) b:=fun b hb=>⟨by rw[xh (ZK (z2 b hb))]; exact (f2 b hb).1,(f2 b hb).2⟩
  have st3:tn 0 s3.heap:=T.keep _ _ _ st2 fun b _ o g=>k3 b o g;refine wpAny_newFunctionEnv B.ncell (by intro y hy; simp at hy) (fun h1 n1 sb1=>?_) B.kind;have k4:∀ b o,s3.heap.get? b=some o->h1.get? b=some o:=fun b o g=>sb1.extBut b o (ZK (Zq g)) (Zh _ g);have I4:=I3.blkG (t':=s3.toks+([]:List (Str × Value)).length) B f3 z3 n1 k4;have st4:tn 0 h1:=T.keep _ _ _ st3 fun b _ o g=>k4 b o g;have own':∀ x∈zs,(relabel scope X.env).names.lookup x=some .local:=fun x hx=>lookup_relabel_local (B.own x hx)
  -- the iterator's objects,through the loop
  have stat:∀{H':Hp},(∀ b∈fp,H' b=none)->∀ b∈fp,FpOk (X.blkG scope zs ys s3.heap.objs.size fp s3 (upd H2 s2.heap.objs.size (.lst [])) (X.pn++pins)) [] H' b:=fun hn b hb=>by
    obtain⟨_,a1,a2,a3,a4,a5⟩:=f3 b hb;exact⟨hn b hb,ZK (z3 b hb),fun z=>(Z1.mp (I3.stkSub b z)).elim a1 a2,.inl hb,fun y c h=>a4 y c (B.sub I3 h),fun p hp=>a5 p (by simpa using hp)⟩
  have loop:∀ s4:Shared,s4={ s3 with heap:=h1,toks:=s3.toks+([]:List (Str × Value)).length } ->
      codeAny (model X.prog X.w) X.A (.compLoop (.ListComp elt [⟨tg,iter,ifs,0⟩] scope pos) 0 (.ref it) (.ref s2.heap.objs.size) (compEnvC scope (X.clo scope) s3.heap.objs.size X.env))
        (compPost (model X.prog X.w) X.A X.xe U R (.ref s2.heap.objs.size) s3.heap.objs.size) s4:=by
    rintro s4 rfl;refine xhi (fun n s'=>∃ i xs H',Inv (X.blkG scope zs ys s3.heap.objs.size fp s3 (upd H2 s2.heap.objs.size (.lst [])) (X.pn++pins)) [] (blk0 Z fr zs.length) H' s'/\tn i s'.heap/\(∀ b∈fp,H' b=none)/\W i n xs H') ?_ m0
      ⟨0,[],_,I4,st4,fun b hb=>(f3 b hb).1,w0⟩
    rintro n s5 ⟨i,xs,H5,I5,st5,fr5,w5⟩;rcases turn i n xs H5 w5 with⟨stop,q⟩|⟨go,step⟩
    . refine ZT (T.done (X.blkG scope zs ys s3.heap.objs.size fp s3 (upd H2 s2.heap.objs.size (.lst [])) (X.pn++pins)) rfl rfl rfl hc i [] s5 _ H5 (fun _ _=>False) I5 (stat fr5) st5 stop) (fun r s6 ⟨hr,I6⟩=>?_) fun _ _ z=>z.elim
      subst hr;obtain⟨m,hm,_⟩:=I6.loc;exact fin _ _ H5 s6 m ⟨I3.sz,(I3.size_lt (Zj _)).2⟩ I6.free hm (fun h2 sb=>I3.unblkG f3 (Zj _) I6 sb) q
    . refine ZT (T.item (X.blkG scope zs ys s3.heap.objs.size fp s3 (upd H2 s2.heap.objs.size (.lst [])) (X.pn++pins)) rfl rfl rfl hc i [] s5 _ H5 (fun _ _=>False) I5 (stat fr5) st5 go) (fun r s6 ⟨u,hr,h6⟩=>?_) fun _ _ z=>z.elim
      subst hr;refine ZT h6 (fun _ s7 ⟨y,H7,I7,r7,y7,st7,fr7⟩=>?_) fun _ _ z=>z.elim;have I7':=I7.pinned (stat fr7) (T.obj _ _ st7);refine ZT (hg _ _ _ _ _ own' B.ndb _ s7 _ H7 y u _ I7' r7 (gok _ _ _ _ (step y H7 y7))) (fun _ s8 ⟨σ8,H8,I8,q8,l8,k8⟩=>?_) fun _ _ z=>z.elim;have back:∀{s9:Shared}{H9:Hp}{xs':List V},Inv (X.blkG scope zs ys s3.heap.objs.size fp s3 (upd H2 s2.heap.objs.size (.lst [])) (X.pn++pins)) ([]++xfp fp s7.heap) σ8 H9 s9->(∃ m',m'<n/\W (i+1) m' xs' H9) ->
          ∃ m,m<n/\∃ i xs H',Inv (X.blkG scope zs ys s3.heap.objs.size fp s3 (upd H2 s2.heap.objs.size (.lst [])) (X.pn++pins)) [] (blk0 Z fr zs.length) H' s9/\tn i s9.heap/\(∀ b∈fp,H' b=none)/\W i m xs H':=fun {s9 H9 xs'} I9 ⟨m',lt,w9⟩=>by
        refine⟨m',lt,i+1,xs',H9,I9.unpinned.weak l8.symm (fun j v e=>?_),T.keep _ _ _ st7 fun b hb o e=>(I9.pin (b,o) (ZS _ (ZS _ (xc6 hb e)))).1,fun b hb=>?_,w9⟩
        . by_cases lj:j<zs.length
          . unfold blk0 at e
            rw[Jj (by rw[JR]; exact lj),Q7] at e;split at e<;>cases e
          . rw[k8 j (by omega)]
            exact e
        obtain⟨o,e,d⟩:=T.obj _ _ st7 b hb;exact (I9.pin (b,o) (ZS _ (ZS _ (xc6 hb e)))).2.1
      refine ZT (hif _ _ _ _ _ _ s8 _ H8 _ I8 q8) (fun ok s9 ⟨H9,I9,q9⟩=>?_) fun _ _ z=>z.elim;cases ok with
      | false =>
        rw[if_neg (by decide)] at q9 ⊢;exact back I9 q9
      | true =>
        rw[if_pos rfl] at q9 ⊢;refine ZT (he _ _ _ _ _ _ s9 _ H9 _ I9 q9) (fun ev s10 ⟨yv,H10,I10,r10,hl,len,w10⟩=>?_) fun _ _ z=>z.elim;refine ZT (xc1 (X:=X.blkG scope zs ys s3.heap.objs.size fp s3 (upd H2 s2.heap.objs.size (.lst [])) (X.pn++pins)) _ s10 _ H10 (.ref s2.heap.objs.size) [yv] (.ref s2.heap.objs.size) [ev] (fun v H'=>H'=upd H10 s2.heap.objs.size (.lst (xs++[yv]))) I10 rfl (.cons r10 .nil) ⟨_,xs,yv,rfl,rfl,hl,len,rfl⟩)
          (fun _ s11 ⟨_,H11,I11,_,e11⟩=>?_) fun _ _ z=>z.elim
        subst e11;exact back I11 w10
  exact codeAny_compStart_list (loop _ rfl) (T.self _ 0 _ _ _ st4 (loop _ rfl))
theorem xb0 (hc:X.calm=true) (B:BlkG X scope zs ys fr) (hi:PI X tg iter wi) (hg:∀ C ex s H pn,(∀ x∈zs,(relabel scope X.env).names.lookup x=some .local)->(zs++ys).Nodup->PG (X.blkG scope zs ys C ex s H pn) tg g) (gok:GOk zs.length g) (hif:∀ C ex s H pn,PIf (X.blkG scope zs ys C ex s H pn) ifs tc) (he:∀ C ex s H pn,PE (X.blkG scope zs ys C ex s H pn) elt te)
    (hs:∀ x,foldedSetIterable iter X.env x=pure x:=by intro _; rfl):PE X (.ListComp elt [⟨tg,iter,ifs,0⟩] scope pos) (xki wi zs.length g fr tc te):=by
  intro pins s Z H Q I h;rw[eval_ListComp];refine wpAny_comprehension_free (use:=none) rfl hs (xpc (B.cells I)) B.kind B.names (xia hc B hi hg gok hif he I h fun C l H' s' m _ _ hm iv q=>?_);exact⟨m,hm,fun h2 sb=>⟨.ref l,H',iv h2 sb,rfl,q⟩⟩
theorem xcc {j:Nat}{y:Str}{py spos:Pos} (hc:X.calm=true) (B:BlkG X scope zs ys fr) (hi:PI X tg iter wi) (hg:∀ C ex s H pn,(∀ x∈zs,(relabel scope X.env).names.lookup x=some .local)->(zs++ys).Nodup->PG (X.blkG scope zs ys C ex s H pn) tg g) (gok:GOk zs.length g) (hif:∀ C ex s H pn,PIf (X.blkG scope zs ys C ex s H pn) ifs tc) (he:∀ C ex s H pn,PE (X.blkG scope zs ys C ex s H pn) elt te)
    (hj:X.N[j]?=some y) (hy:Loc X.env.scope y) (hf:X.fn y=true\/X.env.scope.names.lookup y=some .local:=by first|exact .inl rfl|exact .inr rfl|assumption)
    (hsw:swapsWith (.ListComp elt [⟨tg,iter,ifs,0⟩] scope pos) (some (.Name y py)) spos.line X.env=pure true:=by rfl)
    (hs:∀ x,foldedSetIterable iter X.env x=pure x:=by intro _; rfl):PS X (.Assign [.Name y py] (.ListComp elt [⟨tg,iter,ifs,0⟩] scope pos) spos) (tAsg (xki wi zs.length g fr tc te) (xem j)):=by
  intro pins s Z H D I h;rw[exec_Assign_Name_used _ _ _ _ hsw];refine Zc (Qv (Zc ?_));show wpAny _ _ (do let _ <- comprehension (.ListComp elt [⟨tg,iter,ifs,0⟩] scope pos) scope X.env _ (newList []) false (eval iter X.env) (some (assign (.Name y py) X.env))) _ _ s;refine Zc (ZT (wpAny_comprehension_free (use:=some (assign (.Name y py) X.env)) (Q:=fun _ s'=>SP X pins D .next s') rfl hs (xpc (B.cells I)) B.kind B.names
    (xia hc B hi hg gok hif he I h fun C l H' s' m hC hn hm iv q=>?_)) (fun _ s' z=>Zl (Zl z)) fun _ _ e=>e)
  show wpAny _ _ (assign (.Name y py) X.env (.ref l)) _ _ _;have J:Inv X pins Z H' s':=iv s'.heap (.refl ..);refine wpAny_assign_Name (xi4 (v:=V.ref l) J B.nd hj hy rfl (fun s2 J2 ⟨a,sb,ha⟩=>?_) hf);have na:a≠C:=by
    rcases ha with z|z
    . rw[z]; exact ZI hC.2.1
    . exact hC.2.2.1 _ _ z
  refine⟨m,?_,fun h2 s3=>?_⟩
  . obtain⟨o,es,ep,g,r⟩:=hm
    exact⟨o,es,ep,(sb.2 C (ZI na)).trans g,r⟩
  . exact⟨_,H',J2.turned (t':=s2.toks) (fun b o nb g=>(s3.2 b nb).trans g) hn (hC.2.1) (.inr hC.1) hC.2.2.1 hC.2.2.2,q⟩
end
def xk8 (scope sc0:Scope) (N0:List Str) (zs:List Str) (ys:List Str) (fr:List Nat):Bool :=
 scope.kind == .function&&zs.all (fun x=>scope.names.lookup x == some .local)&&scope.names.all (fun y=>y.2 != .cell)&&scope.names.all (fun y=>y.2 != .local||scope.names.lookup y.1 == some .local) &&
 (xda scope).all (fun n=>sc0.names.lookup n == some .cell)&&fr.map (fun i=>N0[i]?) == ys.map some&&ys.all (fun y=>scope.names.lookup y == some .free)&&decide N0.Nodup&&decide (zs++ys).Nodup
theorem xpx {X:Cx}{scope sc0:Scope}{N0:List Str}{zs:List Str}{ys:List Str}{fr:List Nat} (chk:xk8 scope sc0 N0 zs ys fr=true) (es:X.env.scope=sc0) (eN:X.N=N0):BlkG X scope zs ys fr:=by
 unfold xk8 at chk;simp only[Z4,beq_iff_eq,Y2,decide_eq_true_eq] at chk;obtain⟨⟨⟨⟨⟨⟨⟨⟨a1,a2⟩,a3⟩,a4⟩,a5⟩,a6⟩,a7⟩,a8⟩,a9⟩:=chk;have nc:∀ y∈scope.names,y.2≠.cell:=fun y hy=>by simpa using a3 y hy
 refine⟨a1,a2,nc,fun y hy hl=>?_,fun n hn=>by rw[es]; exact a5 n hn,fun n h=>xon nc n h,by rw[eN]; exact a6,fun y hy=>?_,fun y hy=>xm5 (a7 y hy),by rw[eN]; exact a8,a9⟩
 .have z:=a4 y hy;rw[hl] at z;simpa using z
 .exact Ze.mpr ⟨(y,.free),ZO.mpr ⟨JB (a7 y hy),by simp⟩,rfl⟩
theorem xa4 {X:Cx}{scope sc0:Scope}{N0:List Str}{zs:List Str}{ys:List Str}{fr:List Nat} (chk:xk8 scope sc0 N0 zs ys fr=true) (es:X.env.scope=sc0) (eN:X.N=N0) (_:X.stack=X.env::X.outer):BlkG X scope zs ys fr:=xpx chk es eN
theorem xe4 {K:Zd}{m n:Nat}{t:TGs} (h:∀ vs Z H Q,t vs Z H Q->t vs Z H (fun σ' H'=>Q σ' H'/\σ'.length=Z.length/\∀ i,n<=i->σ'[i]?=Z[i]?)):GOk n (gTup K m t):=fun v Z H Q q=>by
 obtain⟨a,xs,e,hs,hl,q⟩:=q;exact⟨a,xs,e,hs,hl,h _ _ _ _ q⟩
theorem xec {n:Nat}:∀ vs Z H Q,gNil vs Z H Q->gNil vs Z H (fun σ' H'=>Q σ' H'/\σ'.length=Z.length/\∀ i,n<=i->σ'[i]?=Z[i]?):=fun vs Z H Q q=>⟨q.1,q.2,rfl,fun _ _=>rfl⟩
theorem xbt {i n:Nat} (hi:i<n) {t:TGs} (h:∀ vs Z H Q,t vs Z H Q->t vs Z H (fun σ' H'=>Q σ' H'/\σ'.length=Z.length/\∀ i,n<=i->σ'[i]?=Z[i]?)) :
    ∀ vs Z H Q,xni (xem i) t vs Z H Q->xni (xem i) t vs Z H (fun σ' H'=>Q σ' H'/\σ'.length=Z.length/\∀ i,n<=i->σ'[i]?=Z[i]?):=fun vs Z H Q q=>by
  obtain⟨v,r,e,q⟩:=q;refine⟨v,r,e,?_⟩;have z:=h _ _ _ _ q;have e2:∀(j:Nat),n<=j->(Z.set i (some v))[j]?=Z[j]?:=fun j hj=>by rw[J5 (by omega)]
  have e1:(Z.set i (some v)).length=Z.length:=by simp
  have key:(fun σ' H'=>Q σ' H'/\σ'.length=(Z.set i (some v)).length/\∀ j,n<=j->σ'[j]?=(Z.set i (some v))[j]?)=(fun σ' (H':Hp)=>Q σ' H'/\σ'.length=Z.length/\∀ j,n<=j->σ'[j]?=Z[j]?):=by
    funext σ' H';rw[e1];refine propext ⟨fun⟨a,b,c⟩=>⟨a,b,fun j hj=>(c j hj).trans (e2 j hj)⟩,fun⟨a,b,c⟩=>⟨a,b,fun j hj=>(c j hj).trans (e2 j hj).symm⟩⟩
  rw[key] at z;exact z
theorem xdi {J:It}{n:Nat}{g:TG}{Z:St}{fr:List Nat}{tc:TT}{te:TE}{l:Addr}{H1:Hp}{Q:VK} (len:Nat) (Pv:Nat->List V->Hp->Prop) (h0:Pv 0 [] (upd H1 l (.lst []))) (hgo:∀ i xs H,i<len->Pv i xs H->J.go i H)
    (step:∀ i xs H2 v H3,i<len->Pv i xs H2->J.yld i H2 v H3->∀ N:List V->Hp->Prop,(∀ xs' H',Pv (i+1) xs' H'->N xs' H')->g v (blk0 Z fr n) H3 fun σ' H3'=>tc σ' H3' fun b H4=>if b=true then
      (te σ' H4 fun y H5=>H5 l=some (.lst xs)/\xs.length<sizeLine/\N (xs++[y]) (upd H5 l (.lst (xs++[y])))) else N xs H4)
    (fin:∀ xs H2,Pv len xs H2->J.stop len H2/\Q (.ref l) H2):xc5 J n g Z fr tc te l H1 Q:=by
  refine⟨fun i m xs H=>m=len-i/\i<=len/\Pv i xs H,⟨len,by simp,ZW _,h0⟩,?_⟩;rintro i m xs H2 ⟨rfl,hi,p⟩;by_cases lt:i<len
  . exact .inr ⟨hgo i xs H2 lt p,fun v H3 y=>step i xs H2 v H3 lt p y (fun xs' H'=>∃ m',m'<len-i/\m'=len-(i+1)/\i+1<=len/\Pv (i+1) xs' H') fun xs' H' q=>⟨_,by omega,rfl,lt,q⟩⟩
  . have e:i=len:=by omega
    subst e;exact .inl (fin xs H2 p)
section
variable {X:Cx}{pins:List (Addr × Obj)}{Z:St}{H:Hp}{s:Shared}
theorem Inv.adopt {p:Addr}{o:HO} (I:Inv X pins Z H s) (n:H p=none) (h0:X.s₀.heap.objs.size<=p) (hL:p≠X.env.locals) (hC:∀ x c,X.env.cells.lookup x=some c->c≠p) (hp:∀ q∈X.pn++pins,q.1≠p)
    (new:xam X.prog X.w (upd H p o) s.heap p o):Inv X pins Z (upd H p o) s:=by
  have ne:∀ b u,H b=some u->b≠p:=fun b u e=>xi e n;refine⟨I.ok,I.os,I.bare,⟨I.base.keep,I.base.slot,fun b ob e hn hx=>?_,I.base.there,fun b xs e=>?_,fun b ob u e=>?_,fun b ps e=>?_⟩,I.loc,I.cell,?_,fun x c e=>?_,fun q hq=>?_,fun b u e=>?_,I.len⟩
  . rw[xh (ZK (ZJ (Zq e) h0))]
    exact I.base.free b ob e hn hx
  . have z:=I.base.tups b xs e
    rw[xh (ne b _ z)];exact z
  . have z:=I.base.frzs b ob u e
    rw[xh (ne b _ z)];exact z
  . obtain⟨m,z⟩:=I.base.tbls b ps e
    exact⟨m,by rw[xh (ne b _ z)]; exact z⟩
  . rw[xh (ZI hL)]
    exact I.free
  . rw[xh (hC x c e)]
    exact I.freeC x c e
  . obtain⟨a1,a2,a3⟩:=I.pin q hq
    exact⟨a1,by rw[xh (hp q hq)]; exact a2,a3⟩
  . by_cases hb:b=p
    . subst hb
      rw[xf] at e;cases e;exact new
    . rw[xh hb] at e
      exact (I.hok b u e).stay (fun c v _ q=>q) (fun c q=>by rw[xh (ne c _ q)]; exact q) fun c xs q=>by rw[xh (ne c _ q)]; exact q
theorem Inv.thaw {d:Addr}{o:Obj}{u:HO} (I:Inv X pins Z H s) (e:H d=some (.frz o u)) (nf:∀ o' u',X.H₀ d≠some (.frz o' u')):Inv X pins Z (upd H d u) s:=by
 have ne:∀ b v,H b=some v->(∀ o' u',v≠.frz o' u')->b≠d:=fun b v h1 h2 z=>by
  subst z;rw[e] at h1;cases h1;exact h2 _ _ rfl
 have ne0:∀ b,H b=none->b≠d:=fun b h1 z=>by
  subst z;rw[e] at h1;cases h1
 refine⟨I.ok,I.os,I.bare,⟨I.base.keep,I.base.slot,fun b ob q hn hx=>?_,I.base.there,fun b xs q=>?_,fun b ob v q=>?_,fun b ps q=>?_⟩,I.loc,I.cell,?_,fun x c q=>?_,fun p hp=>?_,fun b v q=>?_,I.len⟩
 .have z:=I.base.free b ob q hn hx;rw[xh (ne0 b z)];exact z
 .have z:=I.base.tups b xs q;rw[xh (ne b _ z (fun _ _ h=>nomatch h))];exact z
 .have z:=I.base.frzs b ob v q;have hb:b≠d:=fun w=>by
   subst w;exact nf _ _ q
  rw[xh hb];exact z
 .obtain ⟨m,z⟩:=I.base.tbls b ps q;exact⟨m,by rw[xh (ne b _ z (fun _ _ h=>nomatch h))]; exact z⟩
 .rw [xh (ne0 _ I.free)];exact I.free
 .rw [xh (ne0 _ (I.freeC x c q))];exact I.freeC x c q
 .obtain ⟨a1,a2,a3⟩:=I.pin p hp;exact⟨a1,by rw[xh (ne0 _ a2)]; exact a2,a3⟩
 .have st:∀(a:Addr) (v:HO),xam X.prog X.w H s.heap a v->xam X.prog X.w (upd H d u) s.heap a v:=fun a v k =>
   k.stay (fun c v _ q=>q) (fun c q=>by rw[xh (ne c _ q (fun _ _ h=>nomatch h))]; exact q) fun c xs q=>by rw[xh (ne c _ q (fun _ _ h=>nomatch h))]; exact q
  by_cases hb:b=d
  .subst hb;rw[xf] at q;cases q;obtain⟨g,ok⟩:=I.hok b _ e;exact st _ _ ok
  .rw [xh hb] at q;exact st _ _ (I.hok b v q)
theorem Inv.nofrz {d:Addr}{kvs:List (Key × V)} (I:Inv X pins Z H s) (e:H d=some (.dK kvs)):∀ o' u',X.H₀ d≠some (.frz o' u'):=fun o' u' z=>by
 have q:=I.base.frzs d o' u' z;rw[e] at q;cases q
theorem KV.get:∀{kvs:List (Key × V)}{vs:List (Key × Value)}{i:Nat}{k:Key}{x:V},KV kvs vs->kvs[i]?=some (k,x)->∃ u,vs[i]?=some (k,u)/\RelV x u
 | _,_,_,_,_,.nil,e=>by simp at e
 | _,(_,_)::_,0,_,_,.cons r _,e=>by
  simp at e;subst e;obtain⟨r1,r2⟩:=r
  dsimp only at r1 r2
  subst r1;exact⟨_,rfl,r2⟩
 | _,_,i+1,k,x,.cons _ t,e=>by
  obtain⟨u,h1,h2⟩:=KV.get (i:=i) (k:=k) (x:=x) t (by simpa using e);exact⟨u,by simpa using h1,h2⟩
theorem xuh {P:Program}{w:World}{k:Key}{u:Value} (h:(xaj P w).is k u=true):RelV (kV k) u:=by
 rcases xbi (show xfb k u=true from h) with⟨i,t,rfl,rfl⟩|⟨x,t,rfl,rfl⟩
 .exact ⟨t,rfl⟩
 .exact ⟨t,rfl⟩
theorem xol {d:Addr}{o:Obj}{kvs:List (Key × V)}{ep:Nat} (I:Inv X pins Z H s) (e:H d=some (.frz o (.dK kvs))) (hep:∃ es,o.data=.dict es ep):∃ vs,KV kvs vs/\s.heap.DictAt (xaj X.prog X.w) d vs ep:=by
 obtain⟨g,_,_,vs,rel,o',es',ep',g',ex,hdat,hk,hp,hn⟩:=I.hok d _ e;rw[g] at g';cases g';obtain⟨es,he⟩:=hep;rw[he] at hdat;cases hdat;exact⟨vs,rel,o,_,g,ex,he,hk,hp,hn⟩
end
def Iti (d:Addr) (o:Obj) (kvs:List (Key × V)):It :=
 ⟨fun i H=>H d=some (.frz o (.dK kvs))/\i<kvs.length,fun i H v H'=>∃ p k x,kvs[i]?=some (k,x)/\v=.ref p/\H p=none/\H'=upd H p (.tup [kV k,x]),fun i H=>H d=some (.frz o (.dK kvs))/\kvs.length<=i⟩
theorem xnk {P:Program}{w:World}{K:Zd}{elts:List Expr}{x1}{tpos:Pos} (d it:Addr) (o:Obj) (kvs:List (Key × V)) (ep:Nat) (hep:∃ es,o.data=.dict es ep) :
    Turn P w K (.Tuple elts x1 tpos) (Iti d o kvs) [it] it (fun i h=>∃ ok ov,IsItemIter h it d i kvs.length ep ok ov) where
  mem:=by simp
  obj:=fun i h st b hb=>by
    have e:b=it:=by simpa using hb
    subst e;obtain⟨ok,ov,st⟩:=st;exact⟨_,st,fun v z=>by
      have z':QX _=Data.cell v:=z;cases z'⟩
  keep:=fun i h h' ⟨ok,ov,st⟩ k=>⟨ok,ov,k it (by simp) _ st⟩
  item:=by
    intro X hP hw hK hc i pins s Z H E I hf st hg;subst hP hw hK;obtain⟨ok,ov,st⟩:=st;obtain⟨e,lt⟩:=hg;obtain⟨vs,rel,da⟩:=xol I e hep;obtain⟨f0,f1,f2,f3,f4,f5⟩:=hf it (by simp);have hl:kvs.length=vs.length:=rel.length;obtain⟨⟨k,x⟩,q⟩:∃ y,kvs[i]=y:=⟨_,rfl⟩
    have hx:kvs[i]?=some (k,x):=by rw[Zf lt,q]
    obtain⟨u,hv,ru⟩:=rel.get hx;rw[hl] at st;refine wpAny_pyNext_items_item st da hv fun key h' hkey hout ht hz hkp=>?_;refine⟨_,rfl,wpAny_letOwnedTupleGo_items hout fun h'' hit' hsb=>?_⟩;have kk:∀ b o,b≠it->s.heap.get? b=some o->h''.get? b=some o:=fun b o hb g=>(hsb.2 b hb).trans (hkp b o hb g);have I1:Inv X pins Z H { s with heap:=h'' }:=I.turned (t':=s.toks) kk f0 f1 f3 f4 f5;obtain⟨n0,nL,nC,nP⟩:=I.size_lt (Zj s.heap.objs.size);have itlt:it<s.heap.objs.size:=Zq st;have pne:s.heap.objs.size≠it:=Yj itlt;have hp:h''.get? s.heap.objs.size=some { cls:=.type "tuple",data:=.seq #[key,u] }:=(hsb.2 _ pne).trans ht;refine⟨.ref s.heap.objs.size,upd H s.heap.objs.size (.tup [kV k,x]),I1.adopt n0 I.sz nL nC nP ⟨by show 2<=sizeLine; decide,[key,u],.cons (xuh hkey) (.cons ru .nil),_,hp,rfl,_,rfl⟩,rfl,⟨_,k,x,hx,rfl,n0,rfl⟩,?_,fun b hb=>?_⟩
    . rw[<- hl] at hit'
      exact⟨_,_,hit'⟩
    . have e:b=it:=by simpa using hb
      subst e;rw[xh (ZI pne)];exact f0
  done:=by
    intro X hP hw hK hc i pins s Z H E I hf st hg;subst hP hw hK;obtain⟨ok,ov,st⟩:=st;obtain⟨e,le⟩:=hg;obtain⟨vs,rel,da⟩:=xol I e hep;obtain⟨f0,f1,f2,f3,f4,f5⟩:=hf it (by simp);have hl:kvs.length=vs.length:=rel.length;rw[hl] at st;exact wpAny_pyNext_items_end (I.ok.hd hc) st da (by simpa using (by omega:vs.length<=i)) fun h' eb=>⟨rfl,I.turned (t':=s.toks) (fun b o hb e=>eb b o hb e) f0 f1 f3 f4 f5⟩
  self:=fun _ _ _ _ _ ⟨ok,ov,st⟩ h=>PySem.W.kcp_self st h
def xu4 (X:Cx) (to:TE):TI:=fun Z H R=>to Z H fun x H1=>∃ d kvs,x=.ref d/\H1 d=some (.dK kvs)/\∀ ob,(∀ o' u',X.H₀ d≠some (.frz o' u'))->R (Iti d ob kvs) (upd H1 d (.frz ob (.dK kvs)))
section
variable {X:Cx}{o:Expr}{to:TE}{elts:List Expr}{x1:_}{tpos apos cpos:Pos}
theorem xfg (ho:PE X o to) (hbase:attributeBase o "items" X.env (eval o X.env)=eval o X.env:=by rfl) (hline:(apos.endLine == cpos.line)=true:=by rfl) :
    PI X (.Tuple elts x1 tpos) (.Call (.Attribute o "items" apos) [] [] cpos) (xu4 X to):=by
  intro pins s Z H R I h;refine wpAny_Call_method0_late hbase hline (thn (ho pins s Z H _ I h) fun v s1 ⟨x,H1,I1,r1,q1⟩=>?_);obtain⟨d,kvs,e1,e,q⟩:=q1;subst e1;cases r1;obtain⟨z,hd,vs,rel,dd⟩:=xgn I1.hok e;obtain⟨ob,es,ep,g,ex,hdat,hk,hp,hn⟩:=id dd;refine⟨"dict", "dict.items",Q5,PySem.F.slot_dict_items,PySem.F.type_dict_items,dd.typeIs,fun a e2=>?_,QI rfl (PySem.evalArgs_none ?_)⟩
  . cases e2
    exact⟨ob,g,ex.2.1⟩
  refine call_meetsIn PySem.F.slot_dict_items dd.typeIs PySem.F.entry_dict_items (PySem.F.args_dict_items_1 _) (meets_dict_items (xaj X.prog X.w) d hd) ⟨⟨vs,dd⟩,?_⟩;have da:(s1.heap.push { cls:=.type "dict_items",data:=.fields #[.ref d] }).DictAt (xaj X.prog X.w) d vs ep:=⟨ob,es,Zh _ g,ex,hdat,hk,hp,hn⟩
  refine wpAny_pyIter_items (s:={ s1 with heap:=s1.heap.push { cls:=.type "dict_items",data:=.fields #[.ref d] } }) ⟨_,Z5 _ rfl,rfl,rfl⟩ da ?_;have I2:Inv X pins Z H1 { s1 with heap:=s1.heap.push { cls:=.type "dict_items",data:=.fields #[.ref d] } }:=I1.kept (t':=s1.toks) fun b o e=>Zh _ e;generalize hs2:({ s1 with heap:=s1.heap.push { cls:=.type "dict_items",data:=.fields #[.ref d] } }:Shared)=s2 at I2;have g2:s2.heap.get? d=some ob:=by rw[<- hs2]; exact Zh _ g
  have I3:Inv X pins Z (upd H1 d (.frz ob (.dK kvs))) s2:=I2.write (t':=s2.toks) (x:=d) (e:=d) (by rw[e]; exact Js) (.inl rfl) (fun b u _ q=>q) ⟨ob,g2⟩ ⟨g2,I2.hok d _ e⟩;have I4:Inv X pins Z (upd H1 d (.frz ob (.dK kvs))) { s2 with heap:=s2.heap.push { cls:=.type "dict_itemiterator",data:=.fields #[.none,.bool false,.ref d,.int 0 0,.int vs.length 0,.int ep 0,.none,.none] } } :=
    I3.kept (t':=s2.toks) fun b o e=>Zh _ e
  have fin:PIE X pins Z (.Tuple elts x1 tpos) R (.ref s2.heap.objs.size) { s2 with heap:=s2.heap.push { cls:=.type "dict_itemiterator",data:=.fields #[.none,.bool false,.ref d,.int 0 0,.int vs.length 0,.int ep 0,.none,.none] } }:=by
    refine⟨s2.heap.objs.size,[s2.heap.objs.size],_,_,upd H1 d (.frz ob (.dK kvs)),rfl,I4,xnk d _ ob kvs ep ⟨es,hdat⟩,⟨.none,.none,?_⟩,fun b hb=>?_,q ob (I1.nofrz e)⟩
    . have hl:kvs.length=vs.length:=rel.length
      show IsItemIter _ _ d 0 kvs.length ep .none .none;rw[hl];exact Z5 _ rfl
    . have eb:b=s2.heap.objs.size:=by simpa using hb
      subst eb;exact I3.fpOk (Zj _) (I3.hok.fresh (Zj _))
  exact fin
theorem xqk {pins:List (Addr × Obj)}{Z:St}{Q:VK}{u:Value}{s:Shared} (h:EP X pins Z (fun v H2=>∃ d ob u,H2 d=some (.frz ob u)/\(∀ o' u',X.H₀ d≠some (.frz o' u'))/\Q v (upd H2 d u)) u s):EP X pins Z Q u s:=by
 obtain⟨v,H2,I2,r2,d,ob,u',e,nf,q⟩:=h;exact⟨v,_,I2.thaw e nf,r2,q⟩
theorem xsl {e:Expr}{t:TE} (h:PE X e t):PE X e (fun Z H Q=>t Z H fun v H2=>∃ d ob u,H2 d=some (.frz ob u)/\(∀ o' u',X.H₀ d≠some (.frz o' u'))/\Q v (upd H2 d u)):=fun pins s Z H Q I q =>
 thn (h pins s Z H _ I q) fun _ _ z=>xqk z
end
end L2
namespace PySem.F
theorem xl_plain_dict_loop:plainId "dict.update.loop"=true:=by decide +kernel
theorem xl_entry_dict_loop:entryFor table "dict.update.loop"=some Builtin.«dict.update.loop»:=entryFor_of_tree (by kernel_rfl)
theorem xl_list_nokeys:typeLookup (.type "list") "keys"=pure none:=by rw[typeLookup_type,QN]; kernel_rfl
end PySem.F
namespace L2
open PySem PySem.Spec PyProof.Rows XL
variable {q0:Bool}
theorem xpd {prog:Program}{w:World}{A:Around}{E:Value->Shared->Prop}{s:Shared}{a:Addr}{o:Obj}{xs:Array Value}{k:Nat}{Q:Option Value->Shared->Prop}
    (hx:s.heap.get? a=some o) (hc:o.cls=.type "list") (hdat:o.data=.seq xs k) (hd:o.dict=none) (hA:A.handled=none)
    (h:∀ h' tk,(∀ b o,s.heap.get? b=some o->h'.get? b=some o)->Q none { s with heap:=h',toks:=tk }):wpAny (model prog w) A (getAttr? (.ref a) "keys") Q E s:=by
  obtain⟨c,dct,dat,sl⟩:=o;simp only at hc hdat hd;subst hc hdat hd;obtain⟨hp,g,d,tk,os⟩:=s;have hT:∀ tk',(⟨hp,g,d,tk',os⟩:Shared).TypeIs (.ref a) "list":=fun _=>⟨_,hx,rfl⟩
  have f1:=sub_AttributeError;have f3:=Q0.lookup;have f4:=Q0.bind (.ref a);have f5:=am_list_getattr_none;unfold getAttr? getAttrBy? getAttrBy
  repeat (any_goals (first|assumption|exact hT _|((with_reducible show wpAny _ _ (call (Yn "list.__getattribute__") _ _) _ _ _); refine Qh Q0 (hT _) am_entry_list_getattribute (F.args_list_getattribute_2 _ _) (meets_getattribute_miss_list a xs k sl "keys" _ F.xl_list_nokeys (by decide +kernel) (by size_fits)) ⟨hx,hA,fun h' tk' e hx'=>?_⟩)|wp_step))
  obtain⟨t',u',he⟩:=hx'.there;have hk:=hx'.of.keeps;show wpAny _ _ (getattributeRaised _ _ _ _ _ _ _) _ _ _;unfold getattributeRaised
  repeat (any_goals (first|assumption|wp_step))
  exact h _ _ hk
section
variable {X:Cx}{pins:List (Addr × Obj)}{Z:St}{H:Hp}{s:Shared}{a:Addr}{y v:V}{u r:Value}{A:Around}{E:Value->Shared->Prop}
theorem xok {H':Hp}{Q:Unit->Shared->Prop} (hu:A.units<cLine) (I:Inv X pins Z H s) (g:DPut H a y v H') (ry:RelV y u) (rv:RelV v r) (h:∀ s',Inv X pins Z H' s'->Q () s') :
    wpAny (model X.prog X.w) A (dictSet a u r) Q E s:=by
  rcases g with⟨kvs,k,e,ey,l,eH⟩|⟨kvs,k,b,e,ey,eb,l,eH⟩
  . subst ey eH
    obtain⟨z,hd,vs,rel,dd⟩:=xgn I.hok e;have hz:vs.length<=sizeLine:=by rw[<- rel.length]; exact z
    have hl:(putK kvs k v).length<=sizeLine:=by have:=xb7 kvs k v; omega
    refine wpAny_dictSet_pairs (hsz:=hz) (xdb ry) dd fun h' dd' hs=>h _ ?_;have he:∃ q,h'.get? a=some q:=let ⟨q,_,_,hq,_⟩:=dd'; ⟨q,hq⟩;exact xd3 I (by rw[e]; exact Js) hs he (xkn hl hd (rel.put k rv) dd')
  . subst ey eH
    cases (show u=Zm b from ry);obtain⟨z,hd,xs,rel,dd⟩:=xhs I.hok e;have hz:xs.length<=sizeLine:=by rw[<- Yo rel]; exact z
    have hl:(putK kvs k v).length<=sizeLine:=by have:=xb7 kvs k v; omega
    refine wpAny_dictSet_heap (hsz:=hz) (show (tupleKind (xaj X.prog X.w)).room A from hu) (xd8 I.hok eb) dd fun h' dd' hs=>h _ ?_;obtain⟨q,es,ep,hq,h2,h3,h4,_,h5⟩:=dd';refine xd3 I (by rw[e]; exact Js) hs ⟨q,hq⟩ ⟨hl,hd,_,(rel.put k eb rv).keeps fun c ys ec=>?_,q,es,ep,hq,h2,h3,h4,h5⟩;rw[xh (xae ec e (fun z=>nomatch z))];exact ec
theorem DPut.stay {d b:Addr}{H':Hp}{o:HO} (g:DPut H d y v H') (e:H b=some o) (n1:∀ kvs,o≠.dK kvs) (n2:∀ kvs,o≠.dT kvs):H' b=some o:=by
 rcases g with⟨kvs,k,e2,_,_,rfl⟩|⟨kvs,k,b2,e2,_,_,_,rfl⟩
 .rw [xh (xae e e2 (n1 _))];exact e
 .rw [xh (xae e e2 (n2 _))];exact e
theorem DPut.free {d b:Addr}{H':Hp} (g:DPut H d y v H') (e:H b=none):H' b=none:=by
 rcases g with⟨kvs,k,e2,_,_,rfl⟩|⟨kvs,k,b2,e2,_,_,_,rfl⟩
 .rw [xh (ZI (xi e2 e))];exact e
 .rw [xh (ZI (xi e2 e))];exact e
end
inductive xgq (d:Addr):Hp->List (V × V)->Hp->Prop
 | nil {H:Hp}:xgq d H [] H
 | cons {H H1 H2:Hp}{y v:V}{r:List (V × V)}:DPut H d y v H1->xgq d H1 r H2->xgq d H ((y,v)::r) H2
theorem xgr {X:Cx}{pins:List (Addr × Obj)}{Z:St}{A:Around}{R:Result->Shared->Prop} (hh:A.in1.handled=none) (hu:A.in1.units<cLine) {l it d:Addr} :
    ∀(ps:List (Addr × V × V)) (pre:List V) (j:Int) (H H2:Hp) (s:Shared),Inv X pins Z H s->H l=some (.lst (pre++ps.map fun p=>.ref p.1))->(∀ p∈ps,H p.1=some (.tup [p.2.1,p.2.2]))->xgq d H (ps.map (·.2)) H2 ->
      s.heap.IsListIter it l pre.length->FpOk X pins H it->(∀ s',Inv X pins Z H2 s'->R (.ok (.ret .none)) s') ->
      codeAny (model X.prog X.w) A (.builtin "dict.update.loop" ⟨[.ref d,.ref it,rawInt j,.none],[]⟩) R s
  | [],pre,j,H,H2,s,I,hl,hp,dp,st,fo,fin=>by
    cases dp;obtain⟨z,its,n,r,hl2,e⟩:=I.lstM hl;obtain⟨f0,f1,f2,f3,f4,f5⟩:=fo;refine codeAny_builtin F.xl_entry_dict_loop ?_;rw[Around.under_plainId F.xl_plain_dict_loop _];show wpAny _ A.in1 (pyNext (.ref it)>>=_) _ _ s;refine Zc (wpAny_pyNext_list_end hh st ⟨_,e,rfl,_,rfl⟩ (by simp at hl2 ⊢; omega) fun h' eb=>?_);show wpAny _ A.in1 (Builtin.Dict.addKeywords d []>>=_) _ _ _;exact Zc (Zl (Zl (fin _ (I.turned (t':=s.toks) (fun b o hb e=>eb b o hb e) f0 f1 f3 f4 f5))))
  | (a,y,v)::ps,pre,j,H,H2,s,I,hl,hp,dp,st,fo,fin=>by
    have fo':=fo;obtain⟨f0,f1,f2,f3,f4,f5⟩:=fo;cases dp with
    | @cons _ H1 _ _ _ _ g dp =>
    obtain⟨z,its,n,r,hl2,e⟩:=I.lstM hl;obtain⟨u,hu1,ru⟩:=r.get (i:=pre.length) (x:=.ref a) (by simp);obtain rfl:u=Zm a:=ru;refine codeAny_builtin F.xl_entry_dict_loop ?_;rw[Around.under_plainId F.xl_plain_dict_loop _];show wpAny _ A.in1 (pyNext (.ref it)>>=_) _ _ s;refine Zc (wpAny_pyNext_list_item st ⟨_,e,rfl,_,rfl⟩ (x:=.ref a) (by simpa using hu1) fun h' st' sb=>?_);have I1:Inv X pins Z H { s with heap:=h' }:=I.turned (t':=s.toks) (fun b o hb e=>(sb.2 b hb).trans e) f0 f1 f3 f4 f5;obtain⟨z2,ts,rt,ot,et,ct,nt,dt⟩:=I1.hok a _ (hp _ Zr);obtain⟨uk,uv,rfl,rk,rv⟩:=xh7 rt;show wpAny _ A.in1 (holding [.ref a] _>>=_) _ _ _;refine Zc (Jm ?_);refine Zc (wpAny_tryCatch ?_);unfold Builtin.Dict.pairItems;refine Zc (Yz (T:="tuple") ⟨ot,et,ct⟩ ?_);rw[if_pos (by decide)];refine Zc (wpAny_seqItems et dt (Zl ?_));show wpAny _ A.in1 (holding [uk,uv] (dictSet d uk uv)) _ _ _;have ob:∀ b∈[it],∃ o,h'.get? b=some o/\∀ v,o.data≠.cell v:=fun b hb=>by
      have e:b=it:=by simpa using hb
      subst e;obtain⟨o,e,c,d⟩:=id st';exact⟨o,e,fun v z=>by rw[d] at z; cases z⟩
    have I1':=I1.pinned (fp:=[it]) (fun b hb=>by
      have e:b=it:=by simpa using hb
      subst e;exact fo') ob
    refine Jm (xok hu I1' g rk rv fun s' I2=>?_);refine Zl ⟨plainId_quiet F.xl_plain_dict_loop _,?_⟩;have fo2:FpOk X pins H1 it:=⟨g.free f0,f1,f2,f3,f4,f5⟩
    have st2:s'.heap.IsListIter it l (pre++[V.ref a]).length:=by
      rw[Zo];exact st'.at fun o e=>(I2.pin (it,o) (ZS _ (ZS _ (xc6 (by simp) e)))).1
    refine xgr hh hu ps (pre++[V.ref a]) (j+1) H1 H2 s' I2.unpinned ?_ (fun p hp'=>?_) dp st2 fo2 fin
    . have z:=g.stay hl (fun _ q=>nomatch q) (fun _ q=>nomatch q)
      rw[z];simp
    . exact g.stay (hp p (Zt _ hp')) (fun _ q=>nomatch q) (fun _ q=>nomatch q)
inductive xsd (xs:List V) (H:Hp) (Q:VK):Prop
 | mk (l:Addr) (ps:List (Addr × V × V)) (e_:xs=[.ref l]) (r_:H l=some (.lst (ps.map fun p=>.ref p.1))/\(∀ p∈ps,H p.1=some (.tup [p.2.1,p.2.2]))/\∀ d,H d=none->∃ e H2,(e=.dK []\/e=.dT [])/\xgq d (upd H d e) (ps.map (·.2)) H2/\Q (.ref d) H2)
theorem xli {X:Cx} (hc:X.calm=true) (hu:X.A.units+3<cLine):xby X (.type "dict") xsd:=by
 intro pins s Z H xs us Q I r h;obtain⟨l,ps,rfl,hl,hp,q⟩:=h;obtain⟨u,rfl,rx⟩:=xb6 r;obtain rfl:u=Zm l:=rx;refine callType_codes (Q₁:=fun obj s₁=>obj=.ref s.heap.objs.size/\s₁={ s with heap:=s.heap.push { cls:=.type "dict",data:=.dict #[] } }) F.kt_called_dict (F.kt_typeCall_dict_1 _) F.entry_dict_init (kt_code_dict_new _ ⟨rfl,rfl⟩) ?_;rintro obj s₁ ⟨rfl,rfl⟩;obtain⟨e,H2,he,dps,q2⟩:=q s.heap.objs.size I.fresh;have I1:Inv X pins Z (upd H s.heap.objs.size e) { s with heap:=s.heap.push { cls:=.type "dict",data:=.dict #[] } }:=by
  refine I.laid (t':=s.toks) (fun b u e=>Zh _ e) (Zj _) ?_;rcases he with rfl|rfl
  .exact xg7 s.heap I.big
  .exact xk4 s.heap I.big
 have hT:(Shared.mk (s.heap.push { cls:=.type "dict",data:=.dict #[] }) s.gens s.drawn s.toks s.os).TypeIs (.ref s.heap.objs.size) "dict":=⟨_,Z5 _ rfl,rfl⟩
 have nl:l≠s.heap.objs.size:=fun z=>by
  rw[z,I.fresh] at hl;cases hl
 have hl1:upd H s.heap.objs.size e l=some (.lst (ps.map fun p=>.ref p.1)):=by rw[xh nl]; exact hl
 obtain⟨z,its,n,rr,hll,el⟩:=I1.lstM hl1;refine⟨hT,F.args_dict_init_2 _ _,?_⟩;unfold Builtin.«dict.__init__»;refine Zc ?_;unfold Builtin.Dict.selfAndRest;refine Zc (QM hT ?_);show wpAny _ _ (pure (s.heap.objs.size,[Zm l])) _ _ _;refine Zl ?_;show wpAny _ _ (Builtin.Dict.updateFrom "dict.__init__" s.heap.objs.size (.ref l) [] .none) _ _ _;unfold Builtin.Dict.updateFrom;refine Zc (Yz (T:="list") ⟨_,el,rfl⟩ ?_);rw[if_pos (by decide)];refine Zc (xpd el rfl rfl rfl (I.ok.hd hc) fun h' tk hk=>?_);have I2:=I1.kept (h':=h') (t':=tk) hk;show wpAny _ _ (rule _>>=_) _ _ _;refine Zc (wpAny_rule ?_);refine Zc (wpAny_pyIter_list ⟨_,hk _ _ el,rfl,_,rfl⟩ ?_);refine Zl ⟨plainId_quiet F.xl_plain_dict_loop _,?_⟩;have I3:Inv X pins Z (upd H s.heap.objs.size e) _:=I2.kept (t':=tk) (h':=h'.push { cls:=.type "list_iterator",data:=.fields #[.ref l,.int 0 0] }) fun b o e=>Zh _ e;refine xgr (A:=X.A.in1) (I.ok.hd hc) (by show X.A.units+1+1<cLine; omega) ps [] 0 _ H2 _ I3 (by simpa using hl1) (fun p hp'=>?_) dps ?_ ?_ fun s' I'=>?_
 .rw [xh (xi (hp p hp') I.fresh)];exact hp p hp'
 .exact ⟨_,Z5 _ rfl,rfl,rfl⟩
 .exact I2.fpOk (Zj _) (I2.hok.fresh (Zj _))
 .exact ⟨rfl,⟨.ref _,H2,I',rfl,q2⟩⟩
theorem xe6 {X:Cx}{e:Expr}{t1 t2:TE} (h1:PE X e t1) (h2:PE X e t2):PE X e (fun Z H Q=>t1 Z H Q\/t2 Z H Q):=fun pins s Z H Q I h=>h.elim (h1 pins s Z H Q I) (h2 pins s Z H Q I)
def Itrs (lo d:Int) (n:Nat):It:=⟨fun i _=>i<n,fun i H x H'=>H'=H/\x=.int (lo+(i:Int)*d),fun i _=>n<=i⟩
theorem xlj {P:Program}{w:World}{K:Zd}{tg:Expr} (it:Addr) (lo d:Int) (n:Nat):Turn P w K tg (Itrs lo d n) [it] it (fun i h=>IsRangeIter h it (lo+(i:Nat)*d) ((n:Int)-(i:Nat)) d) where
 mem:=by simp
 obj:=fun i h st b hb=>by
  have e:b=it:=by simpa using hb
  subst e;exact⟨_,st,fun v z=>by
   have z':QX _=Data.cell v:=z;cases z'⟩
 keep:=fun i h h' st k=>k it (by simp) _ st
 item:=by
  intro X hP hw hK hc i pins s Z H E I hf st hg;subst hP hw hK;obtain⟨f0,f1,f2,f3,f4,f5⟩:=hf it (by simp);have W:=Walks.range (prog:=X.prog) (w:=X.w) (I.ok.hd hc) it lo d n;refine W.item i s _ _ hg st fun v h' tk hv st' kk=>?_;obtain⟨t,rfl⟩:=hv;have I1:Inv X pins Z H { s with heap:=h',toks:=tk }:=I.turned (fun b o hb e=>kk b o (by simpa using hb) e) f0 f1 f3 f4 f5;exact⟨_,rfl,xnf (s:={ s with heap:=h',toks:=tk }) (n:="range_iterator") st' rfl rfl (by decide) ⟨.int (lo+(i:Int)*d),H,I1,⟨t,rfl⟩,⟨rfl,rfl⟩,st',fun b hb=>(hf b hb).1⟩⟩
 done:=by
  intro X hP hw hK hc i pins s Z H E I hf st hg;subst hP hw hK;obtain⟨f0,f1,f2,f3,f4,f5⟩:=hf it (by simp);exact wpAny_pyNext_range_end (I.ok.hd hc) st (by have:n<=i:=hg; omega) fun h' eb=>⟨rfl,I.turned (t':=s.toks) (fun b o hb e=>eb b o hb e) f0 f1 f3 f4 f5⟩
 self:=fun _ _ _ _ _ st h=>wpAny_pyIter_rangeiter st h
theorem xex (a b:Int):Builtin.Range.rangeSize a b (-1)=if b<a then a-b else 0:=by
 unfold Builtin.Range.rangeSize;rw[if_neg (by decide)];simp only[Int.neg_neg,Int.ediv_one];split<;>omega
theorem xm1 {a b:Int} (ha:-(2 ^ 62)<=a) (ha':a<2 ^ 62) (hb:-(2 ^ 62)<=b) (hb':b<2 ^ 62):Builtin.Range.small a b (-1)=true:=by
 unfold Builtin.Range.small;rw[xex];simp only[Builtin.Range.rangeFitsLong,Z4,Qa,decide_eq_true_eq,beq_iff_eq,show ¬ ((-1:Int)>0) by decide,if_false];split<;>omega
section
variable {X:Cx}{tg:Expr}
theorem xiw {pins:List (Addr × Obj)}{Z:St}{H:Hp}{s:Shared}{R:It->Hp->Prop}{E:Value->Shared->Prop}{lo hi d:Int}{n:Nat}{t u v:Tok}{tk:Nat} (I:Inv X pins Z H s) (sm:Builtin.Range.small lo hi d=true) (sz:Builtin.Range.rangeSize lo hi d=n)
    (q:R (Itrs lo d n) H):wpAny (model X.prog X.w) X.A (pyIter (.ref s.heap.objs.size)) (PIE X pins Z tg R) E { s with heap:=s.heap.push { cls:=.type "range",data:=.fields #[.int lo t,.int hi u,.int d v] },toks:=tk }:=by
  refine wpAny_pyIter_range (IsRange.new ..) sm ?_;have I1:Inv X pins Z H { s with heap:=s.heap.push { cls:=.type "range",data:=.fields #[.int lo t,.int hi u,.int d v] },toks:=tk }:=I.kept fun b o e=>Zh _ e;refine⟨(s.heap.push { cls:=.type "range",data:=.fields #[.int lo t,.int hi u,.int d v] }).objs.size,[(s.heap.push { cls:=.type "range",data:=.fields #[.int lo t,.int hi u,.int d v] }).objs.size],_,_,H,rfl,
    I1.kept (t':=tk) fun b o e=>Zh _ e,xlj _ lo d n,?_,fun b hb=>?_,q⟩
  . have e1:lo+((0:Nat):Int)*d=lo:=by simp
    have e2:((n:Nat):Int)-((0:Nat):Int)=Builtin.Range.rangeSize lo hi d:=by rw[sz]; simp
    show IsRangeIter _ _ (lo+((0:Nat):Int)*d) (((n:Nat):Int)-((0:Nat):Int)) d;rw[e1,e2];exact Z5 _ rfl
  . have e:b=(s.heap.push { cls:=.type "range",data:=.fields #[.int lo t,.int hi u,.int d v] }).objs.size:=by simpa using hb
    subst e;exact I1.fpOk (Zj _) (I1.hok.fresh (Zj _))
def xv5 (ta:TA):TI:=fun Z H R=>ta Z H fun vs H1=>∃ i j d:Int,vs=[.int i,.int j,.int d]/\(-(2 ^ 62)<=i/\i<2 ^ 62/\-(2 ^ 62)<=j/\j<2 ^ 62)/\((d=1/\R (Itrs i 1 (j-i).toNat) H1)\/(d=-1/\R (Itrs i (-1) (i-j).toNat) H1))
theorem xji {a b c:Expr}{ta:TA}{p pos:Pos} (hg:Gl X "range") (hm:X.mg "range"=none) (ha:PA X [a,b,c] ta) (hs:starEach [a,b,c] X.env=[(false,eval a X.env),(false,eval b X.env),(false,eval c X.env)]:=by rfl) (hs2:starEach [b,c] X.env=[(false,eval b X.env),(false,eval c X.env)]:=by rfl) :
    PI X tg (.Call (.Name "range" p) [a,b,c] [] pos) (xv5 ta):=by
  intro pins s Z H R I h;refine Call_ (xcw I hg hm boot_range (Jb (thn (ha pos pins s Z H _ I h) fun us s1 ⟨vs,H1,I1,r1,q1⟩=>?_) (by rw[hs,hs2]) (by rw[hs2]; rfl)));obtain⟨i,j,d,e,⟨q1,q2,q3,q4⟩,q⟩:=q1;subst e;cases r1 with
  | cons r rr =>
    cases rr with
    | cons r' rr =>
      cases rr with
      | cons r'' rr =>
        cases rr;obtain⟨t,rfl⟩:=r;obtain⟨t',rfl⟩:=r';obtain⟨t'',rfl⟩:=r'';rcases q with⟨rfl,q⟩|⟨rfl,q⟩
        . exact call_range_3 (by decide) (xiw I1 (small_one q1 q2 q3 q4) (by rw[rangeSize_one]; split<;>omega) q) (Zp (QD (by decide)))
        . exact call_range_3 (by decide) (xiw I1 (xm1 q1 q2 q3 q4) (by rw[xex]; split<;>omega) q) (Zp (QD (by decide)))
end
theorem xgp {xs:List V}{us:List Value} (r:Vals xs us) {j:Nat} (h:j<us.toArray.size):∃ x,xs[j]?=some x/\RelV x us.toArray[j]:=by
 have hl:=r.length;have hj:j<xs.length:=by simp at h; omega
 obtain⟨u,h1,h2⟩:=r.get (x:=xs[j]) (Zf hj);refine⟨xs[j],Zf hj,?_⟩;have:us.toArray[j]=u:=by
  have z:=Zi.mp h1;obtain⟨z1,z2⟩:=z;simpa using z2
 rw[this];exact h2
theorem xto {A:Around}{k:Nat} (hr:Room q0 k A):A.units+3<cLine:=by have:=hr.un; omega
theorem xb1 {A:Around}{k:Nat} (hr:Room q0 k A):A.units+20<cLine:=by have:=hr.un; omega
theorem xi3 {X:Cx}:xby X (.builtin "len") (fun xs H Q=>∃ a kvs,xs=[.ref a]/\H a=some (.dK kvs)/\Q (.int kvs.length) H):=by
 intro pins s Z H xs us Q I r h;obtain⟨a,kvs,rfl,e,q⟩:=h;obtain⟨u,rfl,rx⟩:=xb6 r;obtain rfl:u=Zm a:=rx;exact xv4 I (.inl e) fun t s' I'=>⟨.int _,H,I',⟨t,rfl⟩,q⟩
inductive Ents (w:World):List DictEntry->List (Key × V)->Prop
 | nil:Ents w [] []
 | cons {k:Key}{x:V}{key val:Value}{h:Int}{es:List DictEntry}{kvs:List (Key × V)} (hh:h=keyH w k) (hk:RelV (kV k) key) (hv:RelV x val) (r:Ents w es kvs):Ents w (⟨h,key,val⟩::es) ((k,x)::kvs)
def xno (w:World) (K:Zd) (D:Addr) (kvs:List (Key × V)):Prop:=(D == sysModules)=false/\∃(es:Array DictEntry) (ep:Nat),K.lookup D=some ⟨.type "dict",none,.dict es ep,#[]⟩/\Ents w es.toList kvs/\(kvs.map (·.1)).Nodup
theorem Ents.ok {P:Program}{w:World}{es:List DictEntry}{kvs:List (Key × V)} (h:Ents w es kvs):∃ vs,KV kvs vs/\Pairs (xaj P w) es vs/\∀ e∈es,∃ k,(xaj P w).is k e.key=true/\e.hash=(xaj P w).hash k:=by
 induction h with
 | nil=>exact⟨[],.nil,.nil,fun e z=>nomatch z⟩
 | @cons k x key val h es kvs hh hk hv _ ih =>
  obtain⟨vs,a,b,c⟩:=ih;refine⟨(k,val)::vs,.cons ⟨rfl,hv⟩ a,.cons (xdb hk) rfl b,fun e he=>?_⟩;rcases Z1.mp he with rfl|z
  .exact ⟨k,xdb hk,hh⟩
  .exact c e z
section
variable {X:Cx}{pins:List (Addr × Obj)}{Z:St}{H:Hp}{s:Shared}{D:Addr}{kvs:List (Key × V)}
theorem xqa (I:Inv X pins Z H s) (g:xno X.w X.K D kvs):∃ vs,KV kvs vs/\s.heap.DictOf (xaj X.prog X.w) D vs:=by
 obtain⟨_,es,ep,l,en,nd⟩:=g;obtain⟨vs,a,b,c⟩:=en.ok (P:=X.prog);refine⟨vs,a,_,es,ep,I.kIn _ _ l,⟨rfl,rfl,rfl⟩,rfl,fun e he=>c e (by simpa using he),b,?_⟩;rw[<- a.keys];exact nd
def tGIn (kvs:List (Key × V)) (neg:Bool) (ty:TE):TE:=fun Z H Q=>ty Z H fun y H1=>∃ k:Key,y=kV k/\Q (.bl (if neg then !(valV kvs k).isSome else (valV kvs k).isSome)) H1
theorem xn9 {i:Expr}{ty:TE}{x:Str}{p:Pos} (hi:PE X i ty) (hg:Gl X x) (hm:X.mg x=some (.ref D)) (g:xno X.w X.K D kvs) (hd:(x == ("__debug__":Str))=false:=by decide):PC X .NotIn i (.Name x p) (tGIn kvs true ty):=by
 intro pins s Z H Q I h;refine thn (hi pins s Z H _ I h) fun iv s1 ⟨y,H1,I1,ry,k,ey,q1⟩=>thn (xbn (v:=.ref D) hg hm rfl hd pins s1 Z H1 (fun v H2=>v=.ref D/\H2=H1) I1 ⟨rfl,rfl⟩) fun u s2 ⟨x,H2,I2,rx,e1,e2⟩=>?_;subst ey e1 e2;obtain rfl:u=Zm D:=rx;obtain⟨vs,rel,dd⟩:=xqa I2 g;refine wpAny_notIn_of (xdb ry) g.1 dd.mapOf ?_;rw[<- (rel.val k).isSome_eq];exact⟨.bl _,_,I2.tok _,rfl,q1⟩
end
section
variable {X:Cx}{pins:List (Addr × Obj)}{Z:St}{H:Hp}{s:Shared}{h':Heap}
theorem Inv.turnedL {t':Nat}{ch:List Addr} (I:Inv X pins Z H s) (k:∀ b o,b∉ch->s.heap.get? b=some o->h'.get? b=some o) (hf:∀ b∈ch,FpOk X pins H b):Inv X pins Z H { s with heap:=h',toks:=t' }:=by
 have nit:∀ b u,H b=some u->b∉ch:=fun b u e z=>by
  have:=(hf b z).1;rw[this] at e;cases e
 refine I.step (g':=s.gens) (d':=s.drawn) (ch:=ch) (fun b hb=>?_) (fun b o _ _ hc e _=>k b o hc e) (fun b o _ _ hc e _=>⟨o.slots,k b o hc e⟩) (fun _ _ _ _ n=>n)
  (fun b o hc e=>⟨o,k b o hc e⟩) (fun _ _ e=>e) (fun _ _ _ e=>e) (fun b ps e=>⟨#[],by rw[e]; simp⟩) (fun m hm=>?_) (fun b u e=>?_) I.bare
 .obtain ⟨f0,f1,f2,f3,f4,f5⟩:=hf b hb;exact⟨f3,f1,f4,f5⟩
 .obtain ⟨o,es,ep,ho,r⟩:=hm;exact⟨o,es,ep,k _ o (fun z=>(hf _ z).2.1 rfl) ho,r⟩
 .refine (I.hok b u e).stay (fun c v hc q=>k c v ?_ q) (fun _ q=>q) fun _ _ q=>q;rcases hc with z|z
  .rw [z]; exact nit b u e
  .exact nit c _ z
end
theorem xpe {a b:Nat} (h:a≠b):(a:Addr)≠(b:Addr):=h
def Ite (K:Zd) (a:Addr):It :=
 ⟨fun i H=>∃ xs x,SqL K H a xs/\xs[i]?=some x,fun i H v H'=>∃ p x,(∀ xs,SqL K H a xs->xs[i]?=some x)/\v=.ref p/\H p=none/\H'=upd H p (.tup [.int i,x]),fun i H=>∃ xs,SqL K H a xs/\xs.length<=i⟩
theorem xpk {P:Program}{w:World}{K:Zd}{elts:List Expr}{x1}{tpos:Pos} (e it l:Addr) (hei:e≠it) :
    Turn P w K (.Tuple elts x1 tpos) (Ite K l) [e,it] e (fun i h=>(∃ old,IsEnum h e it i old)/\h.IsListIter it l i) where
  mem:=by simp
  obj:=fun i h st b hb=>by
    obtain⟨⟨old,he⟩,⟨o1,e1,c1,d1⟩⟩:=st;simp only[Z1,Jg,or_false] at hb;rcases hb with rfl|rfl
    . exact⟨_,he,fun v k=>by have k':QX _=Data.cell v:=k; cases k'⟩
    . exact⟨_,e1,fun v k=>by rw[d1] at k; cases k⟩
  keep:=fun i h h' ⟨⟨old,he⟩,h1⟩ k=>⟨⟨old,k e (by simp) _ he⟩,h1.at fun o z=>k it (by simp) o z⟩
  item:=by
    intro X hP hw hK hc i pins s Z H E I hf st hg;subst hP hw hK;obtain⟨xs,x,hq,hx⟩:=hg;obtain⟨its,rv,p,hz1⟩:=I.list hq;obtain⟨u,hu,ru⟩:=rv.get hx;obtain⟨⟨old,he⟩,h1⟩:=id st;refine wpAny_pyNext_enum_item he h1 p.isList (x:=u) (by simpa using hu) hei fun h' ho hit' hT hsz hk=>?_;refine⟨_,rfl,wpAny_letOwnedTupleGo_enum (s:={ s with heap:=h',toks:=s.toks+1 }) ho fun h'' he' hs'=>?_⟩;have elt:e<s.heap.objs.size:=Zq he;have pne:s.heap.objs.size≠e:=Yj elt;have kk:∀ b o,b∉[e,it]->s.heap.get? b=some o->h''.get? b=some o:=fun b o hb g=>by
      simp only[Z1,Jg,or_false,not_or] at hb;exact (hs'.2 b hb.1).trans (hk b o hb.1 hb.2 g)
    have I1:Inv X pins Z H { s with heap:=h'',toks:=s.toks+1 }:=I.turnedL kk hf;obtain⟨n0,nL,nC,nP⟩:=I.size_lt (Zj s.heap.objs.size);have hp:h''.get? s.heap.objs.size=some { cls:=.type "tuple",data:=.seq #[.int i s.toks,u] }:=(hs'.2 _ pne).trans hT;refine⟨.ref s.heap.objs.size,upd H s.heap.objs.size (.tup [.int i,x]),I1.adopt n0 I.sz nL nC nP ⟨by show 2<=sizeLine; decide,[.int i s.toks,u],.cons ⟨_,rfl⟩ (.cons ru .nil),_,hp,rfl,_,rfl⟩,rfl,
      ⟨_,x,fun zs hz=>by rw[I.list_inj hz hq]; exact hx,rfl,n0,rfl⟩,?_,fun b hb=>?_⟩
    . exact⟨⟨_,by simpa using he'⟩,hit'.at fun o y=>(hs'.2 it (ZI hei)).trans y⟩
    . obtain⟨o,ho⟩:∃ o,s.heap.get? b=some o:=by
        obtain⟨o1,e1,c1,d1⟩:=h1;simp only[Z1,Jg,or_false] at hb;rcases hb with rfl|rfl
        . exact⟨_,he⟩
        . exact⟨_,e1⟩
      rw[xh (ZK (Zq ho))];exact (hf b hb).1
  done:=by
    intro X hP hw hK hc i pins s Z H E I hf st hg;subst hP hw hK;obtain⟨xs,hq,hl⟩:=hg;obtain⟨its,rv,p,hz1⟩:=I.list hq;have e1:=rv.length;obtain⟨⟨old,he⟩,h1⟩:=id st;refine wpAny_pyNext_enum_end (I.ok.hd hc) he h1 p.isList (by simp; omega) fun h' hx=>⟨rfl,I.turnedL (t':=s.toks) (fun b o hb g=>?_) hf⟩
    simp only[Z1,Jg,or_false,not_or] at hb;exact hx b o hb.2 g
  self:=fun _ _ _ _ _ ⟨⟨_,st⟩,_⟩ h=>Qs st h
def xvj (K:Zd) (ta:TA):TI:=fun Z H R=>ta Z H fun vs H1=>∃ a xs,vs=[.ref a]/\SqL K H1 a xs/\R (Ite K a) H1
section
variable {X:Cx}{elts:List Expr}{x1:_}{tpos:Pos}
theorem xcp {a:Expr}{ta:TA}{p pos:Pos} (hg:Gl X "enumerate") (hm:X.mg "enumerate"=none) (ha:PA X [a] ta) (hs:starEach [a] X.env=[(false,eval a X.env)]:=by rfl) :
    PI X (.Tuple elts x1 tpos) (.Call (.Name "enumerate" p) [a] [] pos) (xvj X.K ta):=by
  intro pins s Z H R I h;refine Call_ (xcw I hg hm PyProof.Rows.Boot.«enumerate» (Jb (thn (ha pos pins s Z H _ I h) fun us s1 ⟨vs,H1,I1,r1,q1⟩=>?_) hs rfl));obtain⟨l,xs,e,hq,q⟩:=q1;subst e;obtain⟨u,rfl,ru⟩:=xb6 r1;obtain rfl:u=Zm l:=ru;obtain⟨its,rv,p1,hz1⟩:=I1.list hq;refine call_enumerate_list p1.isList fun h' he h1 hsz hk=>?_;refine Qs (s:={ s1 with heap:=h' }) he ?_;have I2:Inv X pins Z H1 { s1 with heap:=h' }:=I1.kept (t':=s1.toks) hk;refine⟨_,[s1.heap.objs.size+1,s1.heap.objs.size],_,_,H1,rfl,I2,xpk _ _ l (xpe (by omega)),⟨⟨_,he⟩,h1⟩,fun b hb=>?_,q⟩;have hb':s1.heap.objs.size<=b:=by
    simp only[Z1,Jg,or_false] at hb;rcases hb with rfl|rfl
    . exact Nat.le_add_right _ 1
    . exact Zj _
  exact I1.fpOk hb' (I1.hok.fresh hb')
end
theorem xd9 {K:Zd}{a:Addr}{xs:List V}{g:TG}{tb:TS}{D:Ends}{Z:St}{H:Hp} (Pv:Nat->St->Hp->Prop) (h0:Pv 0 Z H) (hl:∀ i Z H,i<=xs.length->Pv i Z H->SqL K H a xs)
    (hs:∀ i x p Z H,xs[i]?=some x->H p=none->Pv i Z H->g (.ref p) Z (upd H p (.tup [.int i,x])) fun σ2 H2=>tb { D with nx:=Pv (i+1),ct:=Pv (i+1),bk:=D.nx } σ2 H2) (hd:∀ Z H,Pv xs.length Z H->D.nx Z H) :
    ∃ W:Nat->Nat->St->Hp->Prop,(∃ m,W 0 m Z H)/\∀ i m Z H,W i m Z H ->
      ((Ite K a).stop i H/\D.nx Z H)\/((Ite K a).go i H/\∃ N:St->Hp->Prop,(∀ σ' H',N σ' H'->∃ m',m'<m/\W (i+1) m' σ' H')/\∀ x H',(Ite K a).yld i H x H'->g x Z H' fun σ2 H2=>tb { D with nx:=N,ct:=N,bk:=D.nx } σ2 H2):=by
  refine⟨fun i m Z H=>m=xs.length-i/\i<=xs.length/\Pv i Z H,⟨xs.length,by simp,ZW _,h0⟩,?_⟩;rintro i m Z H ⟨rfl,hi,p⟩;have q:=hl i Z H hi p;by_cases hlt:i<xs.length
  . refine .inr ⟨⟨xs,xs[i],q,by simp[hlt]⟩,Pv (i+1),fun σ' H' p'=>⟨xs.length-(i+1),by omega,rfl,hlt,p'⟩,fun x H' y=>?_⟩
    obtain⟨r,x',e1,rfl,hr,rfl⟩:=y;exact hs i x' r Z H (e1 _ q) hr p
  . have e:i=xs.length:=by omega
    subst e;exact .inl ⟨⟨xs,q,Zj _⟩,hd Z H p⟩
end L2
namespace L2
open PySem PySem.Spec PyProof.Rows XL
def tMid (t:TS):TS:=fun D Z H=>∃ Pv:St->Hp->Prop,t { D with nx:=Pv } Z H/\∀ σ' H',Pv σ' H'->D.nx σ' H'
theorem xbx {X:Cx}{st:Stmt}{t:TS} (h:PS X st t):PS X st (tMid t):=by
 intro pins s Z H D I q;obtain⟨Pv,q1,q2⟩:=q;refine thn (h pins s Z H { D with nx:=Pv } I q1) fun fl s1 z=>?_;cases fl with
 | next =>
  obtain⟨σ',H',I',r⟩:=z;exact⟨σ',H',I',q2 _ _ r⟩
 | _=>exact z
end L2
namespace XL
open PySem PySem.W
end XL
namespace L2
open PySem PySem.Spec PyProof.Rows XL
variable {q0:Bool}
end L2
namespace L2
open PySem PySem.Spec PyProof.Rows XL
end L2
namespace L2
open PySem PySem.Calls PyProof PyProof.Rows
end L2
namespace PySem.F
end PySem.F
namespace L2
open PySem PySem.Spec PyProof.Rows XL
variable {q0:Bool}
end L2
namespace L2
open PySem PySem.Spec PyProof.Rows XL PySem.W
variable {q0:Bool}
theorem xij {prog:Program}{w:World}{A:Around}{E:Value->Shared->Prop}{s:Shared}{a:Addr}{vs:List Value}{n:Nat}{P:PySem.Fin->Shared->Prop}
    (h:s.heap.get? a=some (seqObj "list" vs.toArray n)) (h2:2<=vs.length) (h64:vs.length<64)
    (hk:∀ s':Shared,s'.heap=(((s.heap.update a (J7 fun x=>#[])).push (seqObj "tuple" vs.toArray 0)).push (seqObj "list" #[] 0))->s'={ s with heap:=s'.heap } ->
      wpAny (model prog w) A (keyKind' vs.toArray) (fun κ s''=>s''=s'/\KasT.kasWp (kas_ask prog w A κ vs) (kas_sort vs.length) (fun p s3=>s3=s'/\P (.done (.ret .none)) { s with heap:=sortedHeap s.heap a vs (p.map fun i=>vs.getD i .none) }) s'') (fun _ _=>False) s') :
    wpAny (model prog w) A (Builtin.«list.sort» { pos:=[.ref a] }) P E s:=by
  obtain⟨hp,g,d,tk,os⟩:=s;rw[list_sort_plain]
  repeat (any_goals (first|assumption|wp_step))
  have z:¬ vs.toArray.toList.toArray.size>sizeLine:=by
    simp;exact JF (Jc h64 (by decide))
  rw[if_neg z];generalize keyKind' vs.toArray=kk at hk ⊢
  repeat (any_goals (first|assumption|wp_step))
  have hk':=hk { heap:=((hp.update a (J7 fun x=>#[])).push (seqObj "tuple" vs.toArray 0)).push (seqObj "list" #[] 0),gens:=g,drawn:=d,toks:=tk,os:=os } rfl rfl;refine ZT hk' (fun κ s'' z=>?_) (fun _ _ z=>z.elim);obtain⟨e,q⟩:=z;subst e;show wpAny _ _ (StateT.run (if vs.toArray.size<2 then pure () else sortRuns') _>>=_) _ _ _;rw[if_neg (by simp; omega)];refine Zc (ZT (kat_run (E:=E) (Q:=fun st' s'=>∃ p:Array Nat,p.size=vs.length/\arrOf st'=Qg (kas_item (vs.toArray.zip vs.toArray)) p/\failedOf st'=none/\s'=_/\P (.done (.ret .none)) { heap:=sortedHeap hp a vs (p.map fun i=>vs.getD i .none),gens:=g,drawn:=d,toks:=tk,os:=os }) rfl h2 h64 (fun p st' s' hp' e f q'=>⟨p,hp',e,f,q'.1,q'.2⟩) q) (fun r s' z=>?_) fun _ _ z=>z);obtain⟨u,st⟩:=r;obtain⟨p,psz,e,f,rfl,q'⟩:=z;have al:a<hp.objs.size:=Zq h;have g1:(((hp.update a (J7 fun x=>#[])).push (seqObj "tuple" vs.toArray 0)).push (seqObj "list" #[] 0)).get? a=some (seqObj "list" #[] (n+1)):=by
    refine Zh _ (Zh _ ?_);rw[ZM _ h rfl];have z:((0:Nat) == vs.length)=false:=by
      cases vs with
      | nil=>simp at h2
      | cons=>rfl
    simp[J7,z]
  have e2:(if (((fun x=>#[]) vs.toArray:Array Value).size == vs.toArray.size)=true then n else n+1)=n+1:=by
    rw[if_neg];simp;omega
  simp only[e2,f];have e3:Qg (fun x=>x.snd) (arrOf st)=p.map fun i=>vs.getD i .none:=by
    rw[e,Array.map_map]
    congr 1
    funext i;show (kas_item (vs.toArray.zip vs.toArray) i).snd=_;unfold kas_item;by_cases c:i<vs.length
    . simp[Zf c,c]
    . simp[JE (by omega:vs.length<=i),c]
  simp only[e3]
  repeat (any_goals (first|assumption|wp_step))
  have e4:(J7 (fun x=>Qg (fun i=>vs.getD i ZU) p) (seqObj "list" #[] (n+1))).data.pastItsLine=none:=by
    show (if (Qg (fun i=>vs.getD i ZU) p).size>sizeLine+1 then _ else none)=none;rw[if_neg];rw[Array.size_map,psz];have:vs.length<sizeLine:=Jc h64 (by decide);omega
  rw[e4];refine Zl ?_;rw[f];show wpAny _ _ (if (n+1 != n+1)=true then _ else _) _ _ _;rw[if_neg (by simp)];exact Zl q'
theorem xke {prog:Program}{w:World}{A:Around}{E:Value->Shared->Prop}{s:Shared}{it d:Addr}{i ep:Nat}{o:Obj}{es:Array DictEntry}{en:DictEntry}{Q:Option Value->Shared->Prop}
    (st:s.heap.IsKeyIter it d i es.size ep) (hd:s.heap.get? d=some o) (hx:o.ExactDict) (hdat:o.data=.dict es ep) (hi:es[i]?=some en)
    (h:∀ h',h'.IsKeyIter it d (i+1) es.size ep->ZN it s.heap h'->Q (some en.key) { s with heap:=h' }):wpAny (model prog w) A (pyNext (.ref it)) Q E s:=by
  unfold pyNext;refine Zc (Qw (YG st.typeIs JM ?_));refine Ye JM st.typeIs F.entry_dict_keyiterator_next ?_ (F.args_dict_keyiterator_next_1 _);have ti:=st.typeIs;obtain⟨hp,g,dr,tk,os⟩:=s;obtain⟨⟨c,dct,dat,sl⟩,hit,ci,di⟩:=st;simp only at ci di;subst ci di;unfold Builtin.«dict_keyiterator.__next__»
  repeat (any_goals (first|assumption|(with_reducible refine Yh ti ?_)|(with_reducible refine YO ti ?_)|(with_reducible refine Jp hd hdat ?_)|(with_reducible refine JT hd hdat ?_)|wp_step))
  have e1:(if (i:Int)<0 then none else es[(i:Int).toNat]?)=some en:=by
    rw[if_neg (by omega),JI];exact hi
  rw[e1]
  repeat (any_goals (first|assumption|(with_reducible refine Yh ti ?_)|(with_reducible refine YO ti ?_)|(with_reducible refine Jp hd hdat ?_)|(with_reducible refine JT hd hdat ?_)|wp_step))
  refine⟨_,rfl,Zl (h _ ?_ (ZN.update _ _ _))⟩;refine⟨_,ZM _ hit rfl,rfl,?_⟩;rfl
theorem xls {prog:Program}{w:World}{A:Around}{E:Value->Shared->Prop}{s:Shared}{it d:Addr}{ep:Nat}{o:Obj}{es:Array DictEntry}{Q:Option Value->Shared->Prop}
    (hA:A.handled=none) (st:s.heap.IsKeyIter it d es.size es.size ep) (hd:s.heap.get? d=some o) (hx:o.ExactDict) (hdat:o.data=.dict es ep)
    (h:∀ h',Heap.ExtBut it s.heap h'->Q none { s with heap:=h' }):wpAny (model prog w) A (pyNext (.ref it)) Q E s:=by
  unfold pyNext;refine Zc (Qw (YG st.typeIs JM ?_));refine Ye JM st.typeIs F.entry_dict_keyiterator_next ?_ (F.args_dict_keyiterator_next_1 _);have ti:=st.typeIs;obtain⟨hp,g,dr,tk,os⟩:=s;obtain⟨⟨c,dct,dat,sl⟩,hit,ci,di⟩:=st;simp only at ci di;subst ci di;unfold Builtin.«dict_keyiterator.__next__»
  repeat (any_goals (first|assumption|(with_reducible refine Yh ti ?_)|(with_reducible refine YO ti ?_)|(with_reducible refine Jp hd hdat ?_)|(with_reducible refine JT hd hdat ?_)|wp_step))
  have e1:(if (es.size:Int)<0 then none else es[(es.size:Int).toNat]?)=none:=by
    rw[if_neg (by omega),JI];simp
  rw[e1]
  repeat (any_goals (first|assumption|(with_reducible refine Yh ti ?_)|(with_reducible refine YO ti ?_)|(with_reducible refine Jp hd hdat ?_)|(with_reducible refine JT hd hdat ?_)|wp_step))
  refine wpAny_raiseNew_none hA ?_;refine Zc (Q3 ⟨_,Z5 _ rfl,rfl⟩ isSubtype_stop (Zl (h _ fun b o nb e=>?_)));refine Zh _ (Zh _ ?_);rw[Ja _ _ (ZI nb)];exact e
theorem xpw {prog:Program}{w:World}{A:Around}{E:Value->Shared->Prop}{s:Shared}{d:Addr}{ep:Nat}{o:Obj}{es:Array DictEntry}{Q:Value->Shared->Prop}
    (hs:(d == sysModules)=false) (hd:s.heap.get? d=some o) (hx:o.ExactDict) (hdat:o.data=.dict es ep)
    (h:Q (.ref s.heap.objs.size) { s with heap:=s.heap.push { cls:=.type "dict_keyiterator",data:=.fields #[.ref d,.int 0 0,.int es.size 0,.int ep 0] } }):wpAny (model prog w) A (pyIter (.ref d)) Q E s:=by
  have ti:s.TypeIs (.ref d) "dict":=⟨o,hd,hx.1⟩
  obtain⟨c,dct,dat,sl⟩:=o;obtain⟨x1,x2,x3⟩:=hx;simp only at x1 x2 x3 hdat;subst x1 x2 x3 hdat;refine wpAny_pyIter_slot ti F.slot_dict_iter ?_;refine Ye F.slot_dict_iter ti F.entry_dict_iter ?_ (F.args_dict_iter_1 _);obtain⟨hp,g,dr,tk,os⟩:=s;unfold Builtin.«dict.__iter__»
  repeat (any_goals (first|assumption|(with_reducible refine QM ti ?_)|(with_reducible refine Jp hd rfl ?_)|(with_reducible refine JT hd rfl ?_)|wp_step))
  exact⟨_,rfl,_,_,⟨_,Z5 _ rfl,rfl⟩,JM.lookup,h⟩
theorem xl7 {prog:Program}{w:World}{d:Addr}{ep:Nat}{o:Obj}{es:Array DictEntry} (hs:(d == sysModules)=false) (hx:o.ExactDict) (hdat:o.data=.dict es ep) :
    KdlSrc prog w "dict" d d es.size (fun i v=>∃ en,es[i]?=some en/\v=en.key) (fun h=>h.get? d=some o) where
  type:=fun s h=>⟨o,h,hx.1⟩
  there:=fun h e=>⟨Zq e,Zq e⟩
  keep:=fun h h' e k=>k d (.inl rfl) o e
  notList:=by decide
  notTuple:=by decide
  hint:=fun A E s Q h q=>kdl_hint_dict ⟨o,h,hx.1⟩ q
  iter:=fun A s hA h=>by
    have dl:=Zq h;refine⟨{ cls:=.type "dict_keyiterator",data:=.fields #[.ref d,.int 0 0,.int es.size 0,.int ep 0] },fun i h=>h.IsKeyIter s.heap.objs.size d i es.size ep/\h.get? d=some o,fun E Q q=>xpw hs h hx hdat q,?_,⟨_,Z5 _ rfl,rfl,rfl⟩,Zh _ h⟩;have dn:d≠s.heap.objs.size:=ZK dl;exact {
      sub:=fun b hb=>by
        have e:b=s.heap.objs.size:=by simpa using hb
        rw[e];simp
      frame:=fun i h h' st k=>⟨st.1.at fun o e=>k _ (by simp) o e,k _ (by simp) _ st.2⟩
      item:=fun i s' Q E hi st q=>by
        refine xke st.1 st.2 hx hdat (Y5 hi) fun h' st' sb=>q _ h' s'.toks ⟨_,Y5 hi,rfl⟩ ⟨st',(sb.2 d dn).trans st.2⟩ fun b o hb e=>?_;exact (sb.2 b (by simpa using hb)).trans e
      done:=fun s' Q E st q=>by
        refine xls hA st.1 st.2 hx hdat fun h' eb=>q h' s'.toks fun b o hb e=>?_;exact eb b o (by simpa using hb) e
      self:=fun i s' Q E st q=>wpAny_pyIter_keyiter st.1 q }
def xc8:Key->Key->Bool
 | .inl a,.inl b=>decide (a<b)
 | .inr a,.inr b=>decide (a.cps.toList<b.cps.toList)
 | _,_=>false
def lexK:List Key->List Key->Bool
 | [],[]=>false
 | [],_::_=>true
 | _::_,[]=>false
 | x::xs,y::ys=>if x=y then lexK xs ys else xc8 x y
abbrev shp (k:List Key):List Bool:=k.map Sum.isLeft
theorem xs7 {a b:Str} (h:a.cps.toList=b.cps.toList):a=b:=by
 cases a;cases b;simp at h;rw[h]
theorem xpb (x:Key):xc8 x x=false:=by
 cases x with
 | inl a=>simp[xc8]
 | inr a=>exact Wd.irrefl a.cps.toList
theorem xql {x y z:Key} (h1:xc8 x y=true) (h2:xc8 y z=true):xc8 x z=true:=by
 cases x<;>cases y<;>cases z<;>simp only[xc8,Jk] at h1 h2
 .have a:=of_decide_eq_true h1;have b:=of_decide_eq_true h2;exact decide_eq_true (Int.lt_trans a b)
 .exact Wd.trans _ _ _ h1 h2
theorem xo4 {x y:Key} (hs:x.isLeft=y.isLeft) (ne:x≠y) (h:xc8 x y=false):xc8 y x=true:=by
 cases x with
 | inl a =>
  cases y with
  | inl b =>
   have h':¬ a<b:=of_decide_eq_false h;have n':a≠b:=fun e=>ne (by rw[e]);exact decide_eq_true (show b<a by omega)
  | inr b=>cases hs
 | inr a =>
  cases y with
  | inl b=>cases hs
  | inr b =>
   cases e:xc8 (.inr b) (.inr a) with
   | true=>rfl
   | false=>exact absurd (by rw[xs7 (Wd.total _ _ h e)]) ne
theorem xla:∀ x:List Key,lexK x x=false
 | []=>rfl
 | x::xs=>by
  unfold lexK;rw[if_pos rfl];exact xla xs
theorem xmh:∀{x y z:List Key},shp x=shp y->shp y=shp z->lexK x y=true->lexK y z=true->lexK x z=true
 | [],[],_,_,_,h,_=>by cases h
 | [],_::_,_,h,_,_,_=>by cases h
 | _::_,[],_,h,_,_,_=>by cases h
 | _::_,_::_,[],_,h,_,_=>by cases h
 | x::xs,y::ys,z::zs,h1,h2,h3,h4=>by
  simp only[shp,Zx,JS.injEq] at h1 h2;unfold lexK at h3 h4 ⊢;by_cases xy:x=y
  .subst xy;rw[if_pos rfl] at h3;by_cases yz:x=z
   .rw [if_pos yz] at h4 ⊢;exact xmh h1.2 h2.2 h3 h4
   .rw [if_neg yz] at h4 ⊢;exact h4
  .rw [if_neg xy] at h3;by_cases yz:y=z
   .subst yz;rw[if_neg xy];exact h3
   .rw [if_neg yz] at h4;have h5:=xql h3 h4;rw[if_neg (fun e=>by rw[e,xpb] at h5; cases h5)];exact h5
theorem xlc:∀{x y:List Key},shp x=shp y->x≠y->lexK x y=false->lexK y x=true
 | [],[],_,h,_=>absurd rfl h
 | [],_::_,h,_,_=>by cases h
 | _::_,[],h,_,_=>by cases h
 | x::xs,y::ys,h1,h2,h3=>by
  simp only[shp,Zx,JS.injEq] at h1;unfold lexK at h3 ⊢;by_cases xy:x=y
  .subst xy;rw[if_pos rfl] at h3 ⊢;exact xlc h1.2 (fun e=>h2 (by rw[e])) h3
  .rw [if_neg xy] at h3;rw[if_neg (fun e=>xy e.symm)];exact xo4 h1.1 xy h3
theorem xkc {prog:Program}{w:World}{A:Around}{s:Shared}{b:Bool}{Q:Bool->Shared->Prop}:∀(xs ys:List Key) (us vs:List Value) (i:Nat),shp xs=shp ys->Vals (xs.map kV) us->Vals (ys.map kV) vs->Q (lexK xs ys) s->KatLex prog w A b false Q (us.zip vs) i s
 | [],[],_,_,i,_,.nil,.nil,q=>kat_nil q
 | [],_::_,_,_,_,h,_,_,_=>by cases h
 | _::_,[],_,_,_,h,_,_,_=>by cases h
 | x::xs,y::ys,_,_,i,h,.cons ru r,.cons rv r',q=>by
  simp only[shp,Zx,JS.injEq] at h;unfold lexK at q;cases x with
  | inl a =>
   cases y with
   | inr c=>cases h.1
   | inl c =>
    obtain⟨t,rfl⟩:=ru;obtain⟨t',rfl⟩:=rv;refine kat_cons (wpAny_eqBool_int ?_);unfold KatGo;by_cases e:a=c
    .subst e;rw[if_pos rfl] at q;rw[if_pos (by simp)];exact xkc xs ys _ _ (i+1) h.2 r r' q
    .rw [if_neg (fun z=>e (YI.inj z))] at q;rw[if_neg (by simpa using e)];cases (b&&i == 0) with
     | true=>exact oneLt_int q
     | false=>exact kat_one _ _ (lt_int q)
  | inr a =>
   cases y with
   | inl c=>cases h.1
   | inr c =>
    obtain⟨t,rfl⟩:=ru;obtain⟨t',rfl⟩:=rv;refine kat_cons (wpAny_eqBool_str ?_);unfold KatGo;by_cases e:a=c
    .subst e;rw[if_pos rfl] at q;rw[if_pos (by simp)];exact xkc xs ys _ _ (i+1) h.2 r r' q
    .rw [if_neg (fun z=>e (J6.inj z))] at q;rw[if_neg (by simpa using e)];cases (b&&i == 0) with
     | true=>exact oneLt_str q
     | false=>exact kat_one _ _ (lt_str q)
theorem xjx {prog:Program}{w:World}{A:Around}{E:Value->Shared->Prop}{s:Shared}{a:Addr}{vs:List Value}{n:Nat}{P:PySem.Fin->Shared->Prop}
    (h:s.heap.get? a=some (seqObj "list" vs.toArray n)) (h2:vs.length<2) (q':P (.done (.ret .none)) { s with heap:=sortedHeap s.heap a vs vs.toArray }) :
    wpAny (model prog w) A (Builtin.«list.sort» { pos:=[.ref a] }) P E s:=by
  obtain⟨hp,g,d,tk,os⟩:=s;rcases vs with _|⟨v,_|⟨v',r⟩⟩
  . rw[list_sort_plain]
    repeat (any_goals (first|assumption|wp_step))
    show wpAny _ _ (pure (Qi,SortSt.mk' general' ((#[]:Array Value).zip #[]) #[] 7 none)) _ _ _;refine Zl ?_;have e3:Qg (fun x=>x.snd) (arrOf (SortSt.mk' general' ((#[]:Array Value).zip #[]) #[] 7 none))=#[]:=by
      show Qg (fun x=>x.snd) ((#[]:Array Value).zip #[])=#[];simp
    simp only[e3];have g1:(((hp.update a (J7 fun x=>#[])).push (seqObj "tuple" #[] 0)).push (seqObj "list" #[] 0)).get? a=some (seqObj "list" #[] (n)):=by
      refine Zh _ (Zh _ ?_);rw[ZM _ h rfl];rfl
    show wpAny _ _ (seqEpoch a>>=_) _ _ _
    repeat (any_goals (first|assumption|wp_step))
  . rw[list_sort_plain]
    repeat (any_goals (first|assumption|wp_step))
    show wpAny _ _ (pure (Qi,SortSt.mk' general' ((#[v]:Array Value).zip #[v]) #[] 7 none)) _ _ _;refine Zl ?_;have e3:Qg (fun x=>x.snd) (arrOf (SortSt.mk' general' ((#[v]:Array Value).zip #[v]) #[] 7 none))=#[v]:=by
      show Qg (fun x=>x.snd) ((#[v]:Array Value).zip #[v])=#[v];simp
    simp only[e3];have g1:(((hp.update a (J7 fun x=>#[])).push (seqObj "tuple" #[v] 0)).push (seqObj "list" #[] 0)).get? a=some (seqObj "list" #[] (n+1)):=by
      refine Zh _ (Zh _ ?_);rw[ZM _ h rfl];rfl
    show wpAny _ _ (seqEpoch a>>=_) _ _ _
    repeat (any_goals (first|assumption|wp_step))
  . simp at h2
    omega
theorem xfo {α:Type} (f:α->Addr):∀(es:List α),Vals (es.map fun x=>V.ref (f x)) (es.map fun x=>Zm (f x))
 | []=>.nil
 | x::r=>.cons rfl (xfo f r)
theorem xu1 {H:Hp}{kvs:List (List Key × V)}{es:List (List Key × Addr × Value)} (h:KT H kvs es):(∀ x∈es,H x.2.1=some (.tup (x.1.map kV)))/\es.map (·.1)=kvs.map (·.1):=by
 induction h with
 | nil=>exact⟨(fun _ z=>nomatch z),rfl⟩
 | @cons p x kvs es hp r ih =>
  obtain⟨e1,e2,_⟩:=hp;refine⟨fun y hy=>?_,by rw[Zx,Zx,ih.2,e1]⟩;rcases Z1.mp hy with rfl|z
  .rw [<- e1];exact e2
  .exact ih.1 y z
theorem xnt {P:Program}{w:World}{H:Hp}{h:Heap} (ok:HOk P w H h) {b:Bool}{sh:List Bool}:∀(es:List (List Key × Addr × Value)),(∀ x∈es,H x.2.1=some (.tup (x.1.map kV)))->(∀ x∈es,shp x.1=b::sh) ->
    ∃ fs,KatTups h (es.map fun x=>Zm x.2.1) fs/\fs.length=es.length/\∀ v∈fs,if b=true then ∃ i t,v=Wg i t else ∃ i t,v=Q2 i t
  | [],_,_=>⟨[],KatTups.nil,rfl,fun _ z=>nomatch z⟩
  | x::es,h1,h2=>by
    obtain⟨fs,k,l,m⟩:=xnt ok es (fun y hy=>h1 y (Zt _ hy)) (fun y hy=>h2 y (Zt _ hy));obtain⟨z2,ts,rt,ot,et,ct,nt,dt⟩:=ok x.2.1 _ (h1 x Zr);have s1:=h2 x Zr;obtain⟨k1,a1,v1⟩:=x;cases k1 with
    | nil=>cases s1
    | cons k0 kr =>
      simp only[shp,Zx,JS.injEq] at s1;simp only[Zx] at rt;cases rt with
      | @cons _ u _ us ru rr =>
        refine⟨u::fs,KatTups.cons et ct dt (by simp) k,by simp[l],fun v hv=>?_⟩;rcases Z1.mp hv with rfl|hv'
        . cases k0 with
          | inl i =>
            obtain⟨t,rfl⟩:=ru;rw[if_pos (show b=true from s1.1.symm)];exact⟨i,t,rfl⟩
          | inr i =>
            obtain⟨t,rfl⟩:=ru;rw[if_neg (show ¬ b=true by rw[<- s1.1]; simp)];exact⟨i,t,rfl⟩
        . exact m v hv'
theorem xix {X:Cx}{pins:List (Addr × Obj)}{Z:St}{H:Hp}{s:Shared}{h1:Heap}{tk:Nat}{Q:VK}{sh:List Bool} (es':List (List Key × Addr × Value)) (I1:Inv X pins Z H { s with heap:=h1,toks:=tk })
    (hl:es'.length<64) (km:∀ x∈es',H x.2.1=some (.tup (x.1.map kV))) (shE:∀ x∈es',shp x.1=sh) (hpos:0<sh.length) (hnd:(List.map (fun x=>x.fst) es').Nodup)
    (q:∀(l:Addr) (ts:List (List Key × Addr)),H l=none->ts.Perm (es'.map fun x=>(x.1,x.2.1))->(ts.map (·.1)).Pairwise (fun x y=>lexK x y=true)->Q (.ref l) (upd H l (.lst (ts.map fun t=>.ref t.2)))) :
    wpAny (model X.prog X.w) X.A.in1 (newList (es'.map fun x=>Zm x.2.1)>>=fun l=>holding [l] (call (.builtin "list.sort") [l] [])>>=fun _=>ret l) (fun fin s'=>∃ v,fin=Fin.done (Flow.ret v)/\EP X pins Z Q v s') X.xe { s with heap:=h1,toks:=tk }:=by
  have hz:es'.length<=sizeLine:=JF (Jc hl (by decide));have vals:Vals (es'.map fun x=>V.ref x.2.1) (es'.map fun x=>Zm x.2.1):=xfo (fun x=>x.2.1) es';have I2:=I1.lnew (t':=tk) vals (by rw[Za]; exact hz);refine Zc (wpAny_newList ?_ (by rw[Za]; exact hz));have fr:H h1.objs.size=none:=I1.fresh;have gl:(h1.push { cls:=.type "list",data:=.seq (es'.map fun x=>Zm x.2.1).toArray }).get? h1.objs.size=some (seqObj "list" (es'.map fun x=>Zm x.2.1).toArray 0):=Z5 _ rfl;refine Zc (Jm (Ye slot_list_sort ⟨_,gl,rfl⟩ entry_list_sort ?_ (args_list_sort _)));have J1:=I2.lset (l:=h1.objs.size) (its:=es'.map fun x=>Zm x.2.1) (its':=[]) (ys:=[]) (f:=fun _=>#[]) (t':=tk) xf gl rfl .nil (ZW _);have J2:=J1.kept (t':=tk) (h':=(((h1.push { cls:=.type "list",data:=.seq (es'.map fun x=>Zm x.2.1).toArray }).update h1.objs.size (J7 fun _=>#[])).push (seqObj "tuple" (es'.map fun x=>Zm x.2.1).toArray 0)).push (seqObj "list" #[] 0)) fun b u e=>Zh _ (Zh _ e);obtain⟨z9,its9,n9,r9,hl9,e9⟩:=J2.lstM xf;have done:∀(ts:List (List Key × Addr)),ts.Perm (es'.map fun x=>(x.1,x.2.1))->(ts.map (·.1)).Pairwise (fun x y=>lexK x y=true) ->
      EP X pins Z Q (.ref h1.objs.size) { s with heap:=sortedHeap (h1.push { cls:=.type "list",data:=.seq (es'.map fun x=>Zm x.2.1).toArray }) h1.objs.size (es'.map fun x=>Zm x.2.1) (ts.map fun t=>Zm t.2).toArray,toks:=tk }:=by
    intro ts pm pw;have tl:ts.length=es'.length:=by rw[pm.length_eq,Za]
    have J3:=J2.lset (l:=h1.objs.size) (its:=its9) (its':=ts.map fun t=>Zm t.2) (ys:=ts.map fun t=>V.ref t.2) (f:=fun _=>(ts.map fun t=>Zm t.2).toArray) (t':=tk) xf e9 rfl (xfo (fun t=>t.2) ts) (by rw[Za,tl]; exact hz);rw[xe2,xe2] at J3;exact⟨.ref h1.objs.size,_,J3,rfl,q _ ts fr pm pw⟩
  by_cases few:es'.length<2
  . refine xjx gl (by rw[Za]; exact few) ⟨_,rfl,Zl ⟨_,rfl,?_⟩⟩
    have:=done (es'.map fun x=>(x.1,x.2.1)) (Wh.refl _) ?_
    . rw[Zv] at this
      exact this
    . match es',few with
      | [],_=>exact .nil
      | [x],_=>exact List.pairwise_singleton _ _
      | _::_::_,h=>exact absurd h (by simp)
  . refine xij gl (by rw[Za]; omega) (by rw[Za]; exact hl) fun s' es1 es2=>?_
    obtain⟨b,sh0,rfl⟩:∃ b sh0,sh=b::sh0:=by
      cases sh with
      | nil=>simp at hpos
      | cons b r=>exact⟨b,r,rfl⟩
    rw[es1] at es2;subst es2;have km2:∀ x∈es',upd (upd H h1.objs.size (.lst (es'.map fun x=>V.ref x.2.1))) h1.objs.size (.lst []) x.2.1=some (.tup (x.1.map kV)):=fun x hx=>by
      rw[xh (xi (km x hx) fr),xh (xi (km x hx) fr)];exact km x hx
    obtain⟨fs,kt,fl,fm⟩:=xnt J2.hok es' km2 shE;have few':2<=es'.length:=by omega
    refine kat_kind (T:=if b=true then .type "int" else .type "str") kt (by omega) (fun v hv=>?_) (by cases b<;>rfl) ⟨rfl,?_⟩
    . have z:=fm v hv
      cases b with
      | true =>
        obtain⟨i,t,rfl⟩:=z;exact fun A Q E s _ q=>Yz (T:="int") rfl q
      | false =>
        obtain⟨i,t,rfl⟩:=z;exact fun A Q E s _ q=>Yz (T:="str") rfl q
    rw[Za];have eAt:∀ i,i<es'.length->es'[i]?=some (es'.getD i ([],0,.none)):=fun i hi=>by
      rw[Ju,Zf hi];rfl
    have eM:∀ i,i<es'.length->es'.getD i ([],0,.none)∈es':=fun i hi=>Zn (eAt i hi);have vAt:∀ i,i<es'.length->(es'.map fun x=>Zm x.2.1).getD i .none=.ref (es'.getD i ([],0,.none)).2.1:=fun i hi=>by
      rw[Ju,Zg,eAt i hi];rfl
    have shI:∀ i j,i<es'.length->j<es'.length->shp (es'.getD i ([],0,.none)).1=shp (es'.getD j ([],0,.none)).1:=fun i j hi hj=>by rw[shE _ (eM i hi),shE _ (eM j hj)]
    refine Srt.sort_wp (lt:=fun i j=>lexK (es'.getD i ([],0,.none)).1 (es'.getD j ([],0,.none)).1) ⟨fun i hi=>xla _,fun i j k hi hj hk=>xmh (shI i j hi hj) (shI j k hj hk),fun i j hi hj ne=>xlc (shI i j hi hj) fun e=>ne ?_⟩ (fun i j hi hj Q' q'=>?_) few' fun p arr srt=>⟨rfl,_,rfl,Zl ⟨_,rfl,?_⟩⟩
    . have e1:(es'.map (·.1))[i]?=(es'.map (·.1))[j]?:=by rw[Zg,Zg,eAt i hi,eAt j hj]; exact congrArg some e
      exact (List.getElem?_inj (by rw[Za]; exact hi) hnd).mp e1
    . show wpAny _ _ (keyLt' _ ((es'.map fun x=>Zm x.2.1).getD i .none) ((es'.map fun x=>Zm x.2.1).getD j .none)) _ _ _
      rw[vAt i hi,vAt j hj];obtain⟨_,ti,ri,oi,ei,_,ni,di⟩:=J2.hok _ _ (km2 _ (eM i hi));obtain⟨_,tj,rj,oj,ej,_,nj,dj⟩:=J2.hok _ _ (km2 _ (eM j hj));have l1:=Vals.length ri;have l2:=Vals.length rj;have l3:=congrArg QW (shI i j hi hj);simp only[Za] at l1 l2 l3;refine kat_lt ei di ej dj ?_;rw[decide_eq_false (by simp; omega)];exact xkc _ _ _ _ 0 (shI i j hi hj) ri rj q'
    have pl:∀ i∈p.toList,i<es'.length:=fun i hi=>by
      have:=(Array.Perm.mem_iff arr.pm).mp (Wf.mp hi);simpa using this
    have:=done (p.toList.map fun i=>((es'.getD i ([],0,.none)).1,(es'.getD i ([],0,.none)).2.1)) ?_ ?_
    . rw[Zv] at this
      have e2:(p.map fun i=>(es'.map fun x=>Zm x.2.1).getD i .none)=(p.toList.map ((fun t:List Key × Addr=>Zm t.2)∘fun i=>((es'.getD i ([],0,.none)).1,(es'.getD i ([],0,.none)).2.1))).toArray:=by
        rw[<- Array.toList_inj,Array.toList_map];exact Yc fun i hi=>vAt i (pl i hi)
      rw[e2];exact this
    . have e3:(es'.map fun x=>(x.1,x.2.1))=(Z3 es'.length).map fun i=>((es'.getD i ([],0,.none)).1,(es'.getD i ([],0,.none)).2.1):=by
        refine List.ext_getElem? fun i=>?_;by_cases c:i<es'.length
        . rw[Zg,eAt i c,Zg,Jn c]
          rfl
        . rw[JE (by rw[Za]; omega),JE (by simp; omega)]
      rw[e3];refine Wh.map _ ?_;have:=Array.Perm.toList arr.pm;simpa using this
    . rw[Zv,ZA,List.pairwise_iff_getElem]
      intro i j hi hj hij;have z:=srt i j hij (by rw[<- arr.sz]; simpa using hj);have gi:Srt.g p i=p.toList[i]:=Srt.g_at (by rw[<- Jx]; exact Zf hi);have gj:Srt.g p j=p.toList[j]:=Srt.g_at (by rw[<- Jx]; exact Zf hj);rw[gi,gj] at z;exact z
inductive xq2 (xs:List V) (H:Hp) (Q:VK):Prop
 | mk (d:Addr) (kvs:List (List Key × V)) (sh:List Bool) (e_:xs=[.ref d]) (r_:H d=some (.dT kvs)/\kvs.length<64/\(∀ p∈kvs,shp p.1=sh)/\0<sh.length/\∀(l:Addr) (ts:List (List Key × Addr)),H l=none->(∀ t∈ts,H t.2=some (.tup (t.1.map kV)))->(ts.map (·.1)).Perm (kvs.map (·.1))->(ts.map (·.1)).Pairwise (fun x y=>lexK x y=true)->Q (.ref l) (upd H l (.lst (ts.map fun t=>.ref t.2))))
theorem xks {X:Cx} (hc:X.calm=true):xby X (.builtin "sorted") xq2:=by
 intro pins s Z H xs us Q I r h;obtain⟨d,kvs,sh,rfl,hd,hl,hsh,hpos,q⟩:=h;obtain⟨u,rfl,ru⟩:=xb6 r;obtain rfl:u=Zm d:=ru;obtain⟨z,hsys,es',rel,dd⟩:=xhs I.hok hd;obtain⟨o,es,ep,ho,hx,hdat,hes,hkk,hnd⟩:=dd;have ln:=Yo rel;have esz:es.size=es'.length:=by rw[<- JC,hes,Za]
 refine Y4 kind_sorted plain_sorted entry_sorted (args_sorted1 _) ?_;unfold Wc;refine Zc (Zl ?_);show wpAny _ _ (collect (.ref d)>>=_) _ _ _;refine Zc (kdu_collect (xl7 hsys hx hdat) (I.ok.hd hc) ho (by rw[esz,<- ln]; exact z) fun h1 tk acc keep items=>?_);have acl:acc.toList=es'.map fun x=>Zm x.2.1:=by
  refine List.ext_getElem? fun j=>?_;obtain⟨i1,i2⟩:=items;by_cases c:j<es'.length
  .have c':j<acc.size:=by rw[i1,esz]; exact c
   have e:acc[j]?=some acc[j]:=Y5 c';obtain⟨en,he,hv⟩:=i2 j acc[j] e;rw[Jx,e,hv];have he':es.toList[j]?=some en:=by rw[Jx]; exact he
   rw[hes,Zg,Zf c] at he';rw[Zg,Zf c];have:=Jw.inj he';rw[<- this];rfl
  .rw [JE (by rw[JC,i1,esz]; omega),JE (by rw[Za]; omega)]
 rw[acl];have I1:Inv X pins Z H { s with heap:=h1,toks:=tk }:=I.kept keep;obtain⟨km,ke⟩:=xu1 rel;have shE:∀ x∈es',shp x.1=sh:=fun x hx=>by
  have m:x.1∈kvs.map (·.1):=by rw[<- ke]; exact Ze.mpr ⟨x,hx,rfl⟩
  obtain⟨p,hp,e⟩:=Ze.mp m;rw[<- e];exact hsh p hp
 refine xix es' I1 (by rw[<- ln]; exact hl) km shE hpos hnd fun l ts fr pm pw=>q l ts fr (fun t ht=>?_) ?_ pw
 .obtain ⟨x,hx,rfl⟩:=Ze.mp (pm.mem_iff.mp ht);exact km x hx
 .have:=pm.map (·.1);rw[Zv] at this;rw[<- ke];exact this
inductive xkf (xs:List V) (H:Hp) (Q:VK):Prop
 | mk (d:Addr) (ts0:List (List Key × Addr)) (sh:List Bool) (e_:xs=[.ref d]) (r_:H d=some (.lst (ts0.map fun t=>.ref t.2))/\ts0.length<64/\(∀ t∈ts0,H t.2=some (.tup (t.1.map kV)))/\(∀ t∈ts0,shp t.1=sh)/\0<sh.length/\(ts0.map (·.1)).Nodup/\∀(l:Addr) (ts:List (List Key × Addr)),H l=none->ts.Perm ts0->(ts.map (·.1)).Pairwise (fun x y=>lexK x y=true)->Q (.ref l) (upd H l (.lst (ts.map fun t=>.ref t.2))))
theorem xjl {α:Type} (f:α->Addr):∀{es:List α}{us:List Value},Vals (es.map fun x=>V.ref (f x)) us->us=es.map fun x=>Zm (f x)
 | [],_,.nil=>rfl
 | x::es,_,.cons r rs=>by
  cases r;rw[xjl f rs];rfl
theorem xfn {X:Cx} (hc:X.calm=true):xby X (.builtin "sorted") xkf:=by
 intro pins s Z H xs us Q I r h;obtain⟨d,ts0,sh,rfl,hd,hl,km,hsh,hpos,hnd,q⟩:=h;obtain⟨u,rfl,ru⟩:=xb6 r;obtain rfl:u=Zm d:=ru;obtain⟨z,its,n,rv,hlen,el⟩:=I.lstM hd;have eits:=xjl (fun t:List Key × Addr=>t.2) rv;refine Y4 kind_sorted plain_sorted entry_sorted (args_sorted1 _) ?_;unfold Wc;refine Zc (Zl ?_);show wpAny _ _ (collect (.ref d)>>=_) _ _ _;refine Zc (wpAny_collect_seq d (T:="list") (.inl rfl) el rfl rfl (fun h1 keep=>?_) (by rw[Zw,eits,Za]; exact JF (Jc hl (by decide))));have I1:Inv X pins Z H { s with heap:=h1,toks:=s.toks }:=I.kept keep;have e0:its.toArray.toList=(ts0.map fun t=>(t.1,t.2,ZU)).map fun x=>Zm x.2.1:=by
  rw[Zv,eits];rfl
 rw[e0];refine xix (ts0.map fun t=>(t.1,t.2,ZU)) I1 (by rw[Za]; exact hl) (fun x hx=>?_) (fun x hx=>?_) hpos (by rw[Zv]; exact hnd) fun l ts fr pm pw=>q l ts fr ?_ pw
 .obtain ⟨t,ht,rfl⟩:=Ze.mp hx;exact km t ht
 .obtain ⟨t,ht,rfl⟩:=Ze.mp hx;exact hsh t ht
 .rw [Zv] at pm;have e1:ts0.map ((fun x:List Key × Addr × Value=>(x.1,x.2.1))∘fun t=>(t.1,t.2,ZU))=ts0:=List.map_id _;rw[e1] at pm;exact pm
theorem xiq {κ:Type} [DecidableEq κ]:∀{kvs:List (κ × V)}{k:κ}{v:V},valV kvs k=some v->∃ i:Nat,kvs[i]?=some (k,v)
 | [],k,v,h=>by cases h
 | p::r,k,v,h=>by
  by_cases e:p.1=k
  .rw [xa7 e] at h;cases h;exact⟨0,by simp[<- e]⟩
  .rw [xa2 e] at h;obtain⟨i,hi⟩:=xiq h;exact⟨i+1,by simpa using hi⟩
end L2
namespace L2
open PySem PySem.Spec PyProof.Rows XL PySem.W
inductive DV where
 | non
 | bl (b:Bool)
 | int (i:Int)
 | str (x:Str)
 | tup (xs:List DV)
 | lst (xs:List DV)
mutual
def dEq:DV->DV->Bool
 | .non,.non=>true
 | .bl a,.bl b=>a == b
 | .bl a,.int b=>(if a then 1 else 0) == b
 | .int a,.bl b=>a == (if b then 1 else 0)
 | .int a,.int b=>a == b
 | .str a,.str b=>a == b
 | .tup xs,.tup ys=>dEqs xs ys
 | .lst xs,.lst ys=>dEqs xs ys
 | _,_=>false
def dEqs:List DV->List DV->Bool
 | [],[]=>true
 | x::xs,y::ys=>dEq x y&&dEqs xs ys
 | _,_=>false
end
mutual
theorem xcz:∀ d,dEq d d=true
 | .non=>rfl
 | .bl _=>by simp[dEq]
 | .int _=>by simp[dEq]
 | .str _=>by simp[dEq]
 | .tup xs=>by simp only[dEq]; exact xdq xs
 | .lst xs=>by simp only[dEq]; exact xdq xs
theorem xdq:∀ xs,dEqs xs xs=true
 | []=>rfl
 | x::xs=>by simp only[dEqs,Z4]; exact⟨xcz x,xdq xs⟩
end
mutual
def DV.pl:DV->Bool
 | .bl _=>false
 | .tup xs=>pls xs
 | .lst xs=>pls xs
 | _=>true
def pls:List DV->Bool
 | []=>true
 | x::xs=>x.pl&&pls xs
end
mutual
theorem xn0:∀{d e:DV},d.pl=true->e.pl=true->dEq d e=true->d=e
 | .non,.non,_,_,_=>rfl
 | .int a,.int b,_,_,h=>by simp only[dEq,beq_iff_eq] at h; rw[h]
 | .str a,.str b,_,_,h=>by simp only[dEq,beq_iff_eq] at h; rw[h]
 | .tup xs,.tup ys,p,q,h=>by
  simp only[dEq] at h;simp only[DV.pl] at p q;rw[xim p q h]
 | .lst xs,.lst ys,p,q,h=>by
  simp only[dEq] at h;simp only[DV.pl] at p q;rw[xim p q h]
 | .bl _,_,p,_,_=>by simp[DV.pl] at p
 | .non,.bl _,_,q,_=>by simp[DV.pl] at q
 | .int _,.bl _,_,q,_=>by simp[DV.pl] at q
 | .str _,.bl _,_,q,_=>by simp[DV.pl] at q
 | .tup _,.bl _,_,q,_=>by simp[DV.pl] at q
 | .lst _,.bl _,_,q,_=>by simp[DV.pl] at q
 | .non,.int _,_,_,h=>by simp[dEq] at h
 | .non,.str _,_,_,h=>by simp[dEq] at h
 | .non,.tup _,_,_,h=>by simp[dEq] at h
 | .non,.lst _,_,_,h=>by simp[dEq] at h
 | .int _,.non,_,_,h=>by simp[dEq] at h
 | .int _,.str _,_,_,h=>by simp[dEq] at h
 | .int _,.tup _,_,_,h=>by simp[dEq] at h
 | .int _,.lst _,_,_,h=>by simp[dEq] at h
 | .str _,.non,_,_,h=>by simp[dEq] at h
 | .str _,.int _,_,_,h=>by simp[dEq] at h
 | .str _,.tup _,_,_,h=>by simp[dEq] at h
 | .str _,.lst _,_,_,h=>by simp[dEq] at h
 | .tup _,.non,_,_,h=>by simp[dEq] at h
 | .tup _,.int _,_,_,h=>by simp[dEq] at h
 | .tup _,.str _,_,_,h=>by simp[dEq] at h
 | .tup _,.lst _,_,_,h=>by simp[dEq] at h
 | .lst _,.non,_,_,h=>by simp[dEq] at h
 | .lst _,.int _,_,_,h=>by simp[dEq] at h
 | .lst _,.str _,_,_,h=>by simp[dEq] at h
 | .lst _,.tup _,_,_,h=>by simp[dEq] at h
theorem xim:∀{xs ys:List DV},pls xs=true->pls ys=true->dEqs xs ys=true->xs=ys
 | [],[],_,_,_=>rfl
 | x::xs,y::ys,p,q,h=>by
  simp only[pls,Z4] at p q;simp only[dEqs,Z4] at h;rw[xn0 p.1 q.1 h.1,xim p.2 q.2 h.2]
 | [],_::_,_,_,h=>by simp[dEqs] at h
 | _::_,[],_,_,h=>by simp[dEqs] at h
end
theorem xrp {d e:DV}{α:Type}{x y:α} [DecidableEq α] (p:d.pl=true) (q:e.pl=true) (f:d=e↔x=y):dEq d e=decide (x=y):=by
 by_cases c:x=y
 .rw [decide_eq_true c,f.mpr c];exact xcz _
 .rw [decide_eq_false c];cases z:dEq d e with
  | false=>rfl
  | true=>exact absurd (f.mp (xn0 p q z)) c
theorem xg0:∀{xs ys:List DV}{e:Nat->Bool},(∀(j:Nat) (x y:DV),xs[j]?=some x->ys[j]?=some y->e j=dEq x y)->((Z3 (min xs.length ys.length)).all e&&xs.length == ys.length)=dEqs xs ys
 | [],[],_,_=>rfl
 | [],_::_,_,_=>by simp[dEqs]
 | _::_,[],_,_=>by simp[dEqs]
 | x::xs,y::ys,e,h=>by
  have ih:=xg0 (xs:=xs) (ys:=ys) (e:=fun j=>e (j+1)) (fun j a b ha hb=>h (j+1) a b (by simpa using ha) (by simpa using hb));have h0:=h 0 x y rfl rfl;rw[ZF,ZF,show min (xs.length+1) (ys.length+1)=min xs.length ys.length+1 by omega,List.range_succ_eq_map,Qz,List.all_map];show _=(dEq x y&&dEqs xs ys)
  rw[<- ih,h0];have z:((xs.length+1 == ys.length+1):Bool)=(xs.length == ys.length):=by
   rw[Je];simp
  rw[z,Bool.and_assoc];rfl
theorem xld:∀{xs ys:List DV},xs.length≠ys.length->dEqs xs ys=false
 | [],[],h=>absurd rfl h
 | [],_::_,_=>rfl
 | _::_,[],_=>rfl
 | x::xs,y::ys,h=>by
  show (dEq x y&&dEqs xs ys)=false;rw[xld (xs:=xs) (ys:=ys) (fun z=>h (by simp[z]))];exact Qm _
inductive Dv (K:Zd) (H:Hp):Nat->V->DV->Prop
 | non {n:Nat}:Dv K H n .non .non
 | bl {n:Nat}{b:Bool}:Dv K H n (.bl b) (.bl b)
 | int {n:Nat}{b:Int}:Dv K H n (.int b) (.int b)
 | str {n:Nat}{b:Str}:Dv K H n (.str b) (.str b)
 | tup {n:Nat}{a:Addr}{xs:List V}{ds:List DV} (ha:SqT K H a xs) (hl:xs.length=ds.length) (h:∀(j:Nat) (x:V) (d:DV),xs[j]?=some x->ds[j]?=some d->Dv K H n x d):Dv K H (n+1) (.ref a) (.tup ds)
 | lst {n:Nat}{a:Addr}{xs:List V}{ds:List DV} (ha:SqL K H a xs) (hl:xs.length=ds.length) (h:∀(j:Nat) (x:V) (d:DV),xs[j]?=some x->ds[j]?=some d->Dv K H n x d):Dv K H (n+1) (.ref a) (.lst ds)
section
variable {X:Cx}{pins:List (Addr × Obj)}{Z:St}{H:Hp}{s:Shared}
theorem xi1 {h:Heap}{a:Addr}{i j:Array Value} (p:h.IsTuple a i) (q:PlainL h a j):False:=by
 obtain⟨o,e,c,_⟩:=p;obtain⟨o',n,e',c',_⟩:=q;rw[e] at e';cases e';rw[c] at c';exact absurd c' (by decide)
theorem xnv {xs ys:List DV} (h:xs.length=ys.length) (f:∀(j:Nat) (x y:DV),xs[j]?=some x->ys[j]?=some y->x=y):xs=ys:=by
 refine List.ext_getElem? fun j=>?_;by_cases c:j<xs.length
 .rw [Zf c,Zf (by omega),f j _ _ (Zf c) (Zf (by omega))]
 .rw [JE (by omega),JE (by omega)]
theorem xov (I:Inv X pins Z H s) {n:Nat}{x:V}{d:DV} (h:Dv X.K H n x d):∀{m:Nat}{e:DV},Dv X.K H m x e->d=e:=by
 induction h with
 | non=>intro m e h; cases h; rfl
 | bl=>intro m e h; cases h; rfl
 | int=>intro m e h; cases h; rfl
 | str=>intro m e h; cases h; rfl
 | @tup n a xs ds ha hl h ih =>
  intro m e h2;cases h2 with
  | @tup m _ ys es hb kl k =>
   obtain rfl:=I.tuple_inj ha hb;refine congrArg DV.tup (xnv (by omega) fun j d e h1 h2=>?_);have lt:j<xs.length:=by
    have:=(Zi.mp h1).1;omega
   exact ih j xs[j] d (Zf lt) h1 (k j xs[j] e (Zf lt) h2)
  | @lst m _ ys es hb kl k =>
   obtain⟨its,_,t1,_⟩:=I.tuple ha;obtain⟨its2,_,t2,_⟩:=I.list hb;exact (xi1 t1 t2).elim
 | @lst n a xs ds ha hl h ih =>
  intro m e h2;cases h2 with
  | @lst m _ ys es hb kl k =>
   obtain rfl:=I.list_inj ha hb;refine congrArg DV.lst (xnv (by omega) fun j d e h1 h2=>?_);have lt:j<xs.length:=by
    have:=(Zi.mp h1).1;omega
   exact ih j xs[j] d (Zf lt) h1 (k j xs[j] e (Zf lt) h2)
  | @tup m _ ys es hb kl k =>
   obtain⟨its,_,t1,_⟩:=I.tuple hb;obtain⟨its2,_,t2,_⟩:=I.list ha;exact (xi1 t1 t2).elim
def at2 (f:DV->DV->Bool) (ds es:List DV) (j:Nat):Bool:=match ds[j]?,es[j]? with|some d,some e=>f d e|_,_=>false
theorem xh6 {f:DV->DV->Bool}{ds es:List DV}{j:Nat}{d e:DV} (h:ds[j]?=some d) (h2:es[j]?=some e):at2 f ds es j=f d e:=by
 unfold at2;rw[h,h2]
theorem xq8 (I:Inv X pins Z H s) {n:Nat}{x:V}{d:DV} (h:Dv X.K H n x d):∀{m:Nat}{y:V}{e:DV},Dv X.K H m y e->∀{A:Around}{u v:Value},A.units+n+m<cLine->RelV x u->RelV y v ->
    Zz A s u v (dEq d e)/\ZE A s u v (dEq d e)/\Z8 A s u v (!dEq d e):=by
  induction h with
  | @non n =>
    intro m y e h2 A u v hu rx ry;obtain rfl:u=ZU:=rx;cases h2 with
    | @non  =>
      obtain rfl:v=ZU:=ry;exact⟨Zz.same _,ZE.none_none,Z8.none_none⟩
    | @bl _ b2 =>
      obtain rfl:v=Yi _:=ry;exact⟨Zz.none_bool _,ZE.none_bool _,Z8.none_bool _⟩
    | @int _ b2 =>
      obtain⟨_,rfl⟩:=ry;exact⟨Zz.none_int _ _,ZE.none_int _ _,Z8.none_int _ _⟩
    | @str _ b2 =>
      obtain⟨_,rfl⟩:=ry;exact⟨Zz.none_str _ _,ZE.none_str _ _,Z8.none_str _ _⟩
    | @tup m b ys es hb kl k =>
      obtain rfl:v=Zm _:=ry;obtain⟨its2,r2,t2,z2⟩:=I.tuple hb;have l2:=r2.length;exact⟨Zz.none_tuple t2 (by omega),ZE.none_tuple t2 (by omega),Z8.none_tuple t2 (by omega)⟩
    | @lst m b ys es hb kl k =>
      obtain rfl:v=Zm _:=ry;obtain⟨its2,r2,t2,z2⟩:=I.list hb;have l2:=r2.length;exact⟨Zz.none_list t2.isList (by omega),ZE.none_list t2.isList (by omega),Z8.none_list t2.isList (by omega)⟩
  | @bl n b1 =>
    intro m y e h2 A u v hu rx ry;obtain rfl:u=Yi _:=rx;cases h2 with
    | @non  =>
      obtain rfl:v=ZU:=ry;exact⟨Zz.bool_none _,ZE.bool_none _,Z8.bool_none _⟩
    | @bl _ b2 =>
      obtain rfl:v=Yi _:=ry;exact⟨Zz.bool_bool _ _,ZE.bool_bool _ _,Z8.bool_bool _ _⟩
    | @int _ b2 =>
      obtain⟨_,rfl⟩:=ry;exact⟨Zz.bool_int _ _ _,ZE.bool_int _ _ _,Z8.bool_int _ _ _⟩
    | @str _ b2 =>
      obtain⟨_,rfl⟩:=ry;exact⟨Zz.bool_str _ _ _,ZE.bool_str _ _ _,Z8.bool_str _ _ _⟩
    | @tup m b ys es hb kl k =>
      obtain rfl:v=Zm _:=ry;obtain⟨its2,r2,t2,z2⟩:=I.tuple hb;have l2:=r2.length;exact⟨Zz.bool_tuple _ t2 (by omega),ZE.bool_tuple _ t2 (by omega),Z8.bool_tuple _ t2 (by omega)⟩
    | @lst m b ys es hb kl k =>
      obtain rfl:v=Zm _:=ry;obtain⟨its2,r2,t2,z2⟩:=I.list hb;have l2:=r2.length;exact⟨Zz.bool_list _ t2.isList (by omega),ZE.bool_list _ t2.isList (by omega),Z8.bool_list _ t2.isList (by omega)⟩
  | @int n b1 =>
    intro m y e h2 A u v hu rx ry;obtain⟨_,rfl⟩:=rx;cases h2 with
    | @non  =>
      obtain rfl:v=ZU:=ry;exact⟨Zz.int_none _ _,ZE.int_none _ _,Z8.int_none _ _⟩
    | @bl _ b2 =>
      obtain rfl:v=Yi _:=ry;exact⟨Zz.int_bool _ _ _,ZE.int_bool _ _ _,Z8.int_bool _ _ _⟩
    | @int _ b2 =>
      obtain⟨_,rfl⟩:=ry;exact⟨Zz.int_int _ _ _ _,ZE.int_int _ _ _ _,Z8.int_int _ _ _ _⟩
    | @str _ b2 =>
      obtain⟨_,rfl⟩:=ry;exact⟨Zz.int_str _ _ _ _,ZE.int_str _ _ _ _,Z8.int_str _ _ _ _⟩
    | @tup m b ys es hb kl k =>
      obtain rfl:v=Zm _:=ry;obtain⟨its2,r2,t2,z2⟩:=I.tuple hb;have l2:=r2.length;exact⟨Zz.int_tuple _ _ t2 (by omega),ZE.int_tuple _ _ t2 (by omega),Z8.int_tuple _ _ t2 (by omega)⟩
    | @lst m b ys es hb kl k =>
      obtain rfl:v=Zm _:=ry;obtain⟨its2,r2,t2,z2⟩:=I.list hb;have l2:=r2.length;exact⟨Zz.int_list _ _ t2.isList (by omega),ZE.int_list _ _ t2.isList (by omega),Z8.int_list _ _ t2.isList (by omega)⟩
  | @str n b1 =>
    intro m y e h2 A u v hu rx ry;obtain⟨_,rfl⟩:=rx;cases h2 with
    | @non  =>
      obtain rfl:v=ZU:=ry;exact⟨Zz.str_none _ _,ZE.str_none _ _,Z8.str_none _ _⟩
    | @bl _ b2 =>
      obtain rfl:v=Yi _:=ry;exact⟨Zz.str_bool _ _ _,ZE.str_bool _ _ _,Z8.str_bool _ _ _⟩
    | @int _ b2 =>
      obtain⟨_,rfl⟩:=ry;exact⟨Zz.str_int _ _ _ _,ZE.str_int _ _ _ _,Z8.str_int _ _ _ _⟩
    | @str _ b2 =>
      obtain⟨_,rfl⟩:=ry;exact⟨Zz.str_str _ _ _ _,ZE.str_str _ _ _ _,Z8.str_str _ _ _ _⟩
    | @tup m b ys es hb kl k =>
      obtain rfl:v=Zm _:=ry;obtain⟨its2,r2,t2,z2⟩:=I.tuple hb;have l2:=r2.length;exact⟨Zz.str_tuple _ _ t2 (by omega),ZE.str_tuple _ _ t2 (by omega),Z8.str_tuple _ _ t2 (by omega)⟩
    | @lst m b ys es hb kl k =>
      obtain rfl:v=Zm _:=ry;obtain⟨its2,r2,t2,z2⟩:=I.list hb;have l2:=r2.length;exact⟨Zz.str_list _ _ t2.isList (by omega),ZE.str_list _ _ t2.isList (by omega),Z8.str_list _ _ t2.isList (by omega)⟩
  | @tup n a xs ds ha hl h ih =>
    intro m y e h2 A u v hu rx ry;obtain rfl:u=Zm _:=rx;obtain⟨its,r1,t1,z1⟩:=I.tuple ha;have l1:=r1.length;cases h2 with
    | @non  =>
      obtain rfl:v=ZU:=ry;exact⟨Zz.tuple_none t1 (by omega),ZE.tuple_none t1 (by omega),Z8.tuple_none t1 (by omega)⟩
    | @bl _ b2 =>
      obtain rfl:v=Yi _:=ry;exact⟨Zz.tuple_bool _ t1 (by omega),ZE.tuple_bool _ t1 (by omega),Z8.tuple_bool _ t1 (by omega)⟩
    | @int _ b2 =>
      obtain⟨_,rfl⟩:=ry;exact⟨Zz.tuple_int _ _ t1 (by omega),ZE.tuple_int _ _ t1 (by omega),Z8.tuple_int _ _ t1 (by omega)⟩
    | @str _ b2 =>
      obtain⟨_,rfl⟩:=ry;exact⟨Zz.tuple_str _ _ t1 (by omega),ZE.tuple_str _ _ t1 (by omega),Z8.tuple_str _ _ t1 (by omega)⟩
    | @tup m b ys es hb kl k =>
      obtain rfl:v=Zm _:=ry;obtain⟨its2,r2,t2,z2⟩:=I.tuple hb;have l2:=r2.length;have step:∀(j:Nat) (h1:j<its.toArray.size) (h2:j<its2.toArray.size),Zz A.in1 s its.toArray[j] its2.toArray[j] (at2 dEq ds es j):=fun j h1 h2=>by
        obtain⟨x,hx,rx⟩:=xgp r1 h1;obtain⟨y,hy,ry⟩:=xgp r2 h2;have j1:j<ds.length:=by simp at h1; omega
        have j2:j<es.length:=by simp at h2; omega
        rw[xh6 (Zf j1) (Zf j2)];exact (ih j x _ hx (Zf j1) (k j y _ hy (Zf j2)) (A:=A.in1) (by show A.units+1+n+m<cLine; omega) rx ry).1
      have all:=xg0 (xs:=ds) (ys:=es) (e:=at2 dEq ds es) fun j x y h1 h2=>xh6 h1 h2;have both:ZE A s (.ref a) (.ref b) (dEqs ds es)/\Z8 A s (.ref a) (.ref b) (!dEqs ds es):=by
        have z1:=ZE.tuples (A:=A) (e:=at2 dEq ds es) (show s.heap.IsTuple a its.toArray from t1) (show s.heap.IsTuple b its2.toArray from t2) (by omega) step;have z2:=Z8.tuples (A:=A) (e:=at2 dEq ds es) (show s.heap.IsTuple a its.toArray from t1) (show s.heap.IsTuple b its2.toArray from t2) (by omega) step;have e1:its.toArray.size=ds.length:=by simp; omega
        have e2:its2.toArray.size=es.length:=by simp; omega
        rw[e1,e2,all] at z1 z2;exact⟨z1,z2⟩
      simp only[dEq];refine⟨?_,both⟩;by_cases q:a=b
      . subst q
        have ed:DV.tup ds=DV.tup es:=xov I (Dv.tup ha hl h) (Dv.tup hb kl k);rw[show es=ds by injection ed with z; exact z.symm,xdq];exact Zz.same _
      . exact .of_refs q both.1
    | @lst m b ys es hb kl k =>
      obtain rfl:v=Zm _:=ry;obtain⟨its2,r2,t2,z2⟩:=I.list hb;have l2:=r2.length;exact⟨Zz.tuple_list t1 t2.isList (by omega),ZE.tuple_list t1 t2.isList (by omega),Z8.tuple_list t1 t2.isList (by omega)⟩
  | @lst n a xs ds ha hl h ih =>
    intro m y e h2 A u v hu rx ry;obtain rfl:u=Zm _:=rx;obtain⟨its,r1,t1,z1⟩:=I.list ha;have l1:=r1.length;cases h2 with
    | @non  =>
      obtain rfl:v=ZU:=ry;exact⟨Zz.list_none t1.isList (by omega),ZE.list_none t1.isList (by omega),Z8.list_none t1.isList (by omega)⟩
    | @bl _ b2 =>
      obtain rfl:v=Yi _:=ry;exact⟨Zz.list_bool _ t1.isList (by omega),ZE.list_bool _ t1.isList (by omega),Z8.list_bool _ t1.isList (by omega)⟩
    | @int _ b2 =>
      obtain⟨_,rfl⟩:=ry;exact⟨Zz.list_int _ _ t1.isList (by omega),ZE.list_int _ _ t1.isList (by omega),Z8.list_int _ _ t1.isList (by omega)⟩
    | @str _ b2 =>
      obtain⟨_,rfl⟩:=ry;exact⟨Zz.list_str _ _ t1.isList (by omega),ZE.list_str _ _ t1.isList (by omega),Z8.list_str _ _ t1.isList (by omega)⟩
    | @tup m b ys es hb kl k =>
      obtain rfl:v=Zm _:=ry;obtain⟨its2,r2,t2,z2⟩:=I.tuple hb;have l2:=r2.length;exact⟨Zz.list_tuple t1.isList t2 (by omega),ZE.list_tuple t1.isList t2 (by omega),Z8.list_tuple t1.isList t2 (by omega)⟩
    | @lst m b ys es hb kl k =>
      obtain rfl:v=Zm _:=ry;obtain⟨its2,r2,t2,z2⟩:=I.list hb;have l2:=r2.length;have step:∀(j:Nat) (h1:j<its.toArray.size) (h2:j<its2.toArray.size),Zz A.in1 s its.toArray[j] its2.toArray[j] (at2 dEq ds es j):=fun j h1 h2=>by
        obtain⟨x,hx,rx⟩:=xgp r1 h1;obtain⟨y,hy,ry⟩:=xgp r2 h2;have j1:j<ds.length:=by simp at h1; omega
        have j2:j<es.length:=by simp at h2; omega
        rw[xh6 (Zf j1) (Zf j2)];exact (ih j x _ hx (Zf j1) (k j y _ hy (Zf j2)) (A:=A.in1) (by show A.units+1+n+m<cLine; omega) rx ry).1
      have all:=xg0 (xs:=ds) (ys:=es) (e:=at2 dEq ds es) fun j x y h1 h2=>xh6 h1 h2;have both:ZE A s (.ref a) (.ref b) (dEqs ds es)/\Z8 A s (.ref a) (.ref b) (!dEqs ds es):=by
        have e1:its.toArray.size=ds.length:=by simp; omega
        have e2:its2.toArray.size=es.length:=by simp; omega
        by_cases c:ds.length=es.length
        . have z1:=ZE.lists (A:=A) (e:=at2 dEq ds es) t1.isList t2.isList (by omega) (by omega) step
          have z2:=Z8.lists (A:=A) (e:=at2 dEq ds es) t1.isList t2.isList (by omega) (by omega) step;have all':(Z3 ds.length).all (at2 dEq ds es)=dEqs ds es:=by
            rw[<- all,c,Nat.min_self];simp
          rw[e1,all'] at z1 z2;exact⟨z1,z2⟩
        . rw[xld c]
          exact⟨ZE.lists_lengths (A:=A) t1.isList t2.isList (by rw[e1,e2]; simpa using c) (by omega),Z8.lists_lengths (A:=A) t1.isList t2.isList (by rw[e1,e2]; simpa using c) (by omega)⟩
      simp only[dEq];refine⟨?_,both⟩;by_cases q:a=b
      . subst q
        have ed:DV.lst ds=DV.lst es:=xov I (Dv.lst ha hl h) (Dv.lst hb kl k);rw[show es=ds by injection ed with z; exact z.symm,xdq];exact Zz.same _
      . exact .of_refs q both.1
end
theorem Same.seqL {K:Zd}{H H':Hp}{a:Addr}{xs:List V} (s:Same H H') (h:SqL K H a xs):SqL K H' a xs:=by
 rcases h with (h|⟨ob,h⟩)|h
 .exact .inl (.inl (s _ _ h))
 .exact .inl (.inr ⟨ob,s _ _ h⟩)
 .exact .inr h
theorem Same.seqT {K:Zd}{H H':Hp}{a:Addr}{xs:List V} (s:Same H H') (h:SqT K H a xs):SqT K H' a xs:=by
 rcases h with (h|⟨ob,h⟩)|h
 .exact .inl (.inl (s _ _ h))
 .exact .inl (.inr ⟨ob,s _ _ h⟩)
 .exact .inr h
theorem Dv.same {K:Zd}{H H':Hp} (s:Same H H') {n:Nat}{x:V}{d:DV} (h:Dv K H n x d):Dv K H' n x d:=by
 induction h with
 | non=>exact .non
 | bl=>exact .bl
 | int=>exact .int
 | str=>exact .str
 | tup ha hl h ih=>exact .tup (Same.seqT s ha) hl ih
 | lst ha hl h ih=>exact .lst (Same.seqL s ha) hl ih
inductive rEqV (K:Zd) (x:V) (y:V) (H:Hp) (Q:VK):Prop
 | mk (n m:Nat) (d e:DV) (e_:Dv K H n x d) (r_:Dv K H m y e/\n<=9/\m<=9/\Q (.bl (dEq d e)) H)
inductive rNeV (K:Zd) (x:V) (y:V) (H:Hp) (Q:VK):Prop
 | mk (n m:Nat) (d e:DV) (e_:Dv K H n x d) (r_:Dv K H m y e/\n<=9/\m<=9/\Q (.bl (!dEq d e)) H)
section
variable {X:Cx}
theorem xfz (hu:X.A.units+20<cLine):OpR X (compareOp .Eq) (rEqV X.K):=by
 intro pins s Z H x y u v Q I rx ry h;obtain⟨n,m,d,e,h1,h2,hn,hm,q⟩:=h;exact (xq8 I h1 h2 (A:=X.A) (by omega) rx ry).2.1 X.prog X.w X.xe _ ⟨.bl _,H,I,rfl,q⟩
theorem xfw (hu:X.A.units+20<cLine):OpR X (compareOp .NotEq) (rNeV X.K):=by
 intro pins s Z H x y u v Q I rx ry h;obtain⟨n,m,d,e,h1,h2,hn,hm,q⟩:=h;exact PySem.W.cmp_ofNotEq ((xq8 I h1 h2 (A:=X.A) (by omega) rx ry).2.2 X.prog X.w X.xe _ ⟨.bl _,H,I,rfl,q⟩)
end
end L2
namespace L2
open PySem PySem.Spec PyProof.Rows XL PySem.W
def Tp (H H':Hp):Prop:=∀ b xs,H b=some (.tup xs)->H' b=some (.tup xs)
theorem Same.tp {H H':Hp} (s:Same H H'):Tp H H':=fun b xs e=>s b _ e
theorem Tp.trans {H H' H'':Hp} (s:Tp H H') (r:Tp H' H''):Tp H H'':=fun b xs e=>r b xs (s b xs e)
theorem xht {H:Hp}{l:Addr}{xs ys:List V} (h:H l=some (.lst xs)):Tp H (upd H l (.lst ys)):=fun b zs e=>by
 rw[xh (fun z=>by rw[z,h] at e; cases e)];exact e
section
variable {J:It}{n:Nat}{g:TG}{Z:St}{fr:List Nat}{tc:TT}{te:TE}{l:Addr}{H1:Hp}{Q:VK}
theorem xl5 (len:Nat) (hlen:len<sizeLine) (hl:H1 l=none) (x:Nat->V) (hgo:∀ i H,i<len->Same H1 H->J.go i H) (hy:∀ i H v H',i<len->Same H1 H->J.yld i H v H'->H'=H/\v=x i) (hst:∀ H,Same H1 H->J.stop len H)
    (p:Nat->Bool) (F:Nat->V->Hp->Prop) (stab:∀ i y H H',Tp H H'->F i y H->F i y H')
    (step:∀ i H2,i<len->Same H1 H2->∀(N:V->Hp->Prop) (M:Hp->Prop),(∀ y H',Same H2 H'->p i=true->F i y H'->N y H')->(∀ H',Same H2 H'->p i=false->M H') ->
      g (x i) (blk0 Z fr n) H2 fun σ' H3=>tc σ' H3 fun b H4=>if b=true then te σ' H4 N else M H4)
    (fin:∀ ys H2,Same H1 H2->H2 l=some (.lst ys)->ys.length=((Z3 len).filter p).length->(∀(j:Nat) (y:V) (i:Nat),ys[j]?=some y->((Z3 len).filter p)[j]?=some i->F i y H2)->Q (.ref l) H2):xc5 J n g Z fr tc te l H1 Q:=by
  refine xdi len (fun i ys H2=>Same H1 H2/\H2 l=some (.lst ys)/\ys.length=((Z3 i).filter p).length/\∀(j:Nat) (y:V) (k:Nat),ys[j]?=some y->((Z3 i).filter p)[j]?=some k->F k y H2) ?_ ?_ ?_ ?_
  . refine⟨fun b u e=>?_,xf,rfl,fun j y k e=>by simp at e⟩
    rw[xh (xi e hl)];exact e
  . rintro i ys H2 lt ⟨s,_⟩
    exact hgo i H2 lt s
  . rintro i ys H2 v H3 lt ⟨s,el,ly,f⟩ yl N hN
    obtain⟨rfl,rfl⟩:=hy i H2 v H3 lt s yl;refine step i H3 lt s _ _ (fun y H' s' pt hf=>?_) (fun H' s' pf=>?_)
    . have el':=s' _ _ el
      have ylen:ys.length<sizeLine:=by
        rw[ly];refine Z6 (QU _ _) ?_;rw[Zs];omega
      refine⟨el',ylen,hN _ _ ⟨fun b u e=>?_,xf,?_,fun j z k e1 e2=>?_⟩⟩
      . rw[xh (xi e hl)]
        exact s' _ _ (s _ _ e)
      . rw[JK,Jz,Zo,Zo,ly,Ji pt]
        rfl
      . rw[JK,Jz,Ji pt] at e2
        by_cases c:j<ys.length
        . rw[Jj c] at e1
          rw[Jj (by omega)] at e2;exact stab _ _ _ _ ((Same.tp s').trans (xht el')) (f j z k e1 e2)
        . rw[Jt (by omega)] at e1 e2
          rw[<- ly] at e2;cases hj:j-ys.length with
          | zero =>
            rw[hj] at e1 e2;simp at e1 e2;subst e1 e2;exact stab _ _ _ _ (xht el') hf
          | succ m =>
            rw[hj] at e1;simp at e1
    . refine hN _ _ ⟨s.trans s',s' _ _ el,?_,fun j z k e1 e2=>?_⟩
      . rw[JK,Jz,Jr (by simp[pf])]
        simpa using ly
      . rw[JK,Jz,Jr (by simp[pf])] at e2
        simp only[List.filter_nil,Jy] at e2;exact stab _ _ _ _ (Same.tp s') (f j z k e1 e2)
  . rintro ys H2 ⟨s,el,ly,f⟩
    exact⟨hst _ s,fin ys H2 s el ly f⟩
theorem xfe {K:Zd}{a:Addr}{xs:List V} (hs:SqL K H1 a xs) (hlen:xs.length<sizeLine) (hl:H1 l=none) (p:Nat->Bool) (F:Nat->V->Hp->Prop) (stab:∀ i y H H',Tp H H'->F i y H->F i y H')
    (step:∀(i:Nat) (x:V) (H2:Hp),xs[i]?=some x->Same H1 H2->∀(N:V->Hp->Prop) (M:Hp->Prop),(∀ y H',Same H2 H'->p i=true->F i y H'->N y H')->(∀ H',Same H2 H'->p i=false->M H') ->
      g x (blk0 Z fr n) H2 fun σ' H3=>tc σ' H3 fun b H4=>if b=true then te σ' H4 N else M H4)
    (fin:∀ ys H2,Same H1 H2->H2 l=some (.lst ys)->ys.length=((Z3 xs.length).filter p).length->(∀(j:Nat) (y:V) (i:Nat),ys[j]?=some y->((Z3 xs.length).filter p)[j]?=some i->F i y H2)->Q (.ref l) H2):xc5 (Itl K a) n g Z fr tc te l H1 Q:=by
  refine xl5 xs.length hlen hl (fun i=>xs.getD i .non) (fun i H lt s=>⟨xs,xs[i],Same.seqL s hs,Zf lt⟩) (fun i H v H' lt s y=>?_) (fun H s=>⟨xs,Same.seqL s hs,Zj _⟩) p F stab (fun i H2 lt s N M h1 h2=>?_) fin
  . obtain⟨e,f⟩:=y
    have z:=f xs (Same.seqL s hs);refine⟨e,?_⟩;simp[z]
  . have e:xs[i]?=some (xs.getD i .non):=by simp[Zf lt]
    exact step i _ H2 e s N M h1 h2
theorem xg2 {i:Nat}{x:V}{σ0:St}{H2:Hp}{N:V->Hp->Prop}{M:Hp->Prop}{g:TG}{te:TE} (h:g x σ0 H2 fun σ' H3=>te σ' H3 N):g x σ0 H2 fun σ' H3=>xdk σ' H3 fun b H4=>if b=true then te σ' H4 N else M H4:=by
 have e:(fun (σ':St) (H3:Hp)=>xdk σ' H3 fun b H4=>if b=true then te σ' H4 N else M H4)=fun σ' H3=>te σ' H3 N:=by
  funext σ' H3;show (if true=true then te σ' H3 N else M H3)=te σ' H3 N;rw[if_pos rfl]
 rw[e];exact h
theorem xdy (m:Nat):(Z3 m).filter (fun _=>true)=Z3 m:=by simp
theorem xeq {K:Zd}{a:Addr}{xs:List V} (hs:SqL K H1 a xs) (hlen:xs.length<sizeLine) (hl:H1 l=none) (F:Nat->V->Hp->Prop) (stab:∀ i y H H',Tp H H'->F i y H->F i y H')
    (step:∀(i:Nat) (x:V) (H2:Hp),xs[i]?=some x->Same H1 H2->∀(N:V->Hp->Prop),(∀ y H',Same H2 H'->F i y H'->N y H')->g x (blk0 Z fr n) H2 fun σ' H3=>te σ' H3 N)
    (fin:∀ ys H2,Same H1 H2->H2 l=some (.lst ys)->ys.length=xs.length->(∀(i:Nat) (y:V),ys[i]?=some y->F i y H2)->Q (.ref l) H2):xc5 (Itl K a) n g Z fr xdk te l H1 Q:=by
  refine xfe hs hlen hl (fun _=>true) F stab (fun i x H2 hx s N M h1 h2=>xg2 (i:=i) (step i x H2 hx s N fun y H' s' f=>h1 y H' s' rfl f)) (fun ys H2 s e ly f=>?_);rw[xdy,Zs] at ly;refine fin ys H2 s e ly fun i y hy=>f i y i hy ?_;rw[xdy,Jn (by have:=(Zi.mp hy).1; omega)]
theorem xln {lo:Int}{m:Nat} (hlen:m<sizeLine) (hl:H1 l=none) (p:Nat->Bool) (F:Nat->V->Hp->Prop) (stab:∀ i y H H',Tp H H'->F i y H->F i y H')
    (step:∀(i:Nat) H2,i<m->Same H1 H2->∀(N:V->Hp->Prop) (M:Hp->Prop),(∀ y H',Same H2 H'->p i=true->F i y H'->N y H')->(∀ H',Same H2 H'->p i=false->M H') ->
      g (.int (lo+i)) (blk0 Z fr n) H2 fun σ' H3=>tc σ' H3 fun b H4=>if b=true then te σ' H4 N else M H4)
    (fin:∀ ys H2,Same H1 H2->H2 l=some (.lst ys)->ys.length=((Z3 m).filter p).length->(∀(j:Nat) (y:V) (i:Nat),ys[j]?=some y->((Z3 m).filter p)[j]?=some i->F i y H2)->Q (.ref l) H2):xc5 (Itr lo m) n g Z fr tc te l H1 Q:=by
  exact xl5 m hlen hl (fun i=>.int (lo+i)) (fun i H lt s=>lt) (fun i H v H' lt s y=>y) (fun H s=>Zj _) p F stab (fun i H2 lt s N M h1 h2=>step i H2 lt s N M h1 h2) fin
theorem xc9 {lo:Int}{m:Nat} (hlen:m<sizeLine) (hl:H1 l=none) (F:Nat->V->Hp->Prop) (stab:∀ i y H H',Tp H H'->F i y H->F i y H')
    (step:∀(i:Nat) H2,i<m->Same H1 H2->∀(N:V->Hp->Prop),(∀ y H',Same H2 H'->F i y H'->N y H')->g (.int (lo+i)) (blk0 Z fr n) H2 fun σ' H3=>te σ' H3 N)
    (fin:∀ ys H2,Same H1 H2->H2 l=some (.lst ys)->ys.length=m->(∀(i:Nat) (y:V),ys[i]?=some y->F i y H2)->Q (.ref l) H2):xc5 (Itr lo m) n g Z fr xdk te l H1 Q:=by
  refine xln hlen hl (fun _=>true) F stab (fun i H2 hi s N M h1 h2=>xg2 (i:=i) (step i H2 hi s N fun y H' s' f=>h1 y H' s' rfl f)) (fun ys H2 s e ly f=>?_);rw[xdy,Zs] at ly;refine fin ys H2 s e ly fun i y hy=>f i y i hy ?_;rw[xdy,Jn (by have:=(Zi.mp hy).1; omega)]
end
theorem xl6 {α:Type} (q:α->Bool):∀(as:List α) (p:Nat->Bool),(∀(i:Nat) (a:α),as[i]?=some a->p i=q a)->((Z3 as.length).filter p).filterMap (fun i=>as[i]?)=as.filter q
 | [],_,_=>rfl
 | a::as,p,h=>by
  have ih:=xl6 q as (fun i=>p (i+1)) fun i b hb=>h (i+1) b (by simpa using hb);rw[ZF,List.range_succ_eq_map];have e:((Z3 as.length).map Nat.succ).filter p=((Z3 as.length).filter (fun i=>p (i+1))).map Nat.succ:=by
   rw[List.filter_map];rfl
  have h0:=h 0 a rfl;by_cases c:q a=true
  .rw [Ji (by rw[h0]; exact c),Ji c,e,Y8];simp only[List.getElem?_cons_zero,Wr];rw[<- ih];rfl
  .rw [Jr (by rw[h0]; exact c),Jr c,e,Wr,<- ih];rfl
theorem xr1 {α:Type} (q:α->Bool) {as:List α}{p:Nat->Bool} (h:∀(i:Nat) (a:α),as[i]?=some a->p i=q a):((Z3 as.length).filter p).length=(as.filter q).length/\∀ j i:Nat,((Z3 as.length).filter p)[j]?=some i->as[i]?=(as.filter q)[j]?:=by
 rw[<- xl6 q as p h];have all:∀ i∈(Z3 as.length).filter p,∃ a,as[i]?=some a:=fun i hi=>by
  have:=ZQ.mp (ZO.mp hi).1;exact⟨as[i],Zf this⟩
 generalize (Z3 as.length).filter p=is at all
 induction is with
 | nil=>exact⟨rfl,fun j i e=>by simp at e⟩
 | cons i is ih =>
  obtain⟨a,ha⟩:=all i Zr;obtain⟨h1,h2⟩:=ih fun k hk=>all k (Zt _ hk)
  rw[Y8,ha];refine⟨by simp[h1],fun j k e=>?_⟩;cases j with
  | zero =>
   simp at e;subst e;exact ha
  | succ m=>exact h2 m k (by simpa using e)
end L2
namespace XL
open PySem PySem.MeetsSeq PySem.MeetsSeq2 PySem.MeetsSeq3 PySem.SeqAt
open AutoSeq1 (wpAny_loadPart')
end XL
namespace L2
open PySem PySem.Spec PyProof.Rows XL PySem.W
def xoe:Expr->Bool
 | .Starred _ _=>false
 | _=>true
theorem xnm {e:Expr}{es:List Expr}{env:Env} (h:xoe e=true):starEach (e::es) env=(false,eval e env)::starEach es env:=by
 cases e<;>first|rfl|cases h
theorem xah {X:Cx}{e:Expr}{es:List Expr}{te:TE}{t:TA} (ha:PE X e te) (hr:PA X es t) (hn:xoe e=true):PA X (e::es) (xf9 te t):=xb ha hr (xnm hn)
end L2
namespace XL
open PySem L2
open PyProof.Rows (assign_Tuple)
end XL
namespace L2
open PySem PySem.Spec PyProof.Rows XL PySem.W
end L2
namespace L2
open PySem PySem.Spec PyProof.Rows XL PySem.W PySem.Builtin PySem.Builtin.Str
theorem xdd {a b:Str} (h:a.cps.toList=b.cps.toList):a=b:=by
 obtain⟨a⟩:=a;obtain⟨b⟩:=b;exact congrArg Str.mk (Array.toList_inj.mp h)
end L2
namespace L2
open PySem PySem.Spec PyProof.Rows XL
open AutoSeq1 (wpAny_loadPart')
end L2
namespace L2
open PySem PySem.Spec PyProof.Rows XL
theorem xm6:typeLookup (.type "list_reverseiterator") "__len__"=pure none:=by rw[typeLookup_type,QN]; kernel_rfl
theorem xqd:typeLookup (.type "list_reverseiterator") "__length_hint__"=pure (some (.builtin "list_reverseiterator.__length_hint__")):=by rw[typeLookup_type,QN]; kernel_rfl
section
variable {prog:Program}{w:World}{A:Around}{E:Value->Shared->Prop}{s:Shared}
theorem xp5 {I l:Addr}{i:Int}{Q:Bool->Shared->Prop} (hit:s.heap.IsRevIter I l i) (h:Q false s):wpAny (model prog w) A (Builtin.List.listLengthHint (.ref I)) Q E s:=by
 unfold Builtin.List.listLengthHint;refine Zc (YX hit.typeIs xm6 ?_);show wpAny _ _ (specialOf (Zm I) (Zb "__length_hint__")>>=_) _ _ _;refine Zc (YX hit.typeIs xqd ?_);generalize hid:("list_reverseiterator.__length_hint__":String)=id0
 wp_delta
 rw[show splitId id0=some ("list_reverseiterator", "__length_hint__") from by subst hid; decide +kernel];subst hid;refine Zc (Q3 (T:="list_reverseiterator") (b:=true) hit.typeIs (by rw[isSubtype_type]; kernel_rfl) ?_);refine wpAny_ite_split (fun hab=>absurd hab (by decide)) (fun _=>?_);refine wpAny_ite_split (fun _=>?_) (fun hab=>absurd (by decide +kernel) hab);refine wpAny_ite_split (fun hab=>absurd hab (by decide +kernel)) (fun _=>?_);exact Zl h
theorem xm4 {R:Result->Shared->Prop} (hh:A.handled=none) {I l:Addr}{items:Array Value} (hne:l≠I) (S:Addr) (hSI:S≠I) (hSl:S≠l) (res:Value) (c₀:Nat) (hit:s.heap.IsRevIter I l ((items.size:Int)-1)) (hl:s.heap.IsList l items)
    (hS:s.heap.get? S=some { cls:=.type "list",data:=.seq #[] c₀ }) (hn:items.size<=sizeLine)
    (hR:∀ h' tk acc' c',(∀ b o,b≠S->b≠I->s.heap.get? b=some o->h'.get? b=some o)->h'.get? S=some { cls:=.type "list",dict:=none,data:=.seq acc' c',slots:=#[] } ->
      ItemsOf (fun i v=>items[items.size-1-i]?=some v) acc' items.size->R (.ok (.ret res)) { s with heap:=h',toks:=tk }) :
    wpAny (model prog w) A.in1 (Builtin.List.listExtendWith (.ref S) (.ref I) res)
      (fun fin s'=>match fin with|.done f=>R (.ok f) s'|.again c'=>c'.quiet=true/\codeAny (model prog w) A c' R s') (fun e s'=>R (.error e) s') s:=by
  have hSf:S∉[I,l]:=by simp[hSI,hSl]
  have W:=(Walks.listRev (prog:=prog) (w:=w) (A:=A.in1) hh I l hne items).toS;unfold Builtin.List.listExtendWith;refine Zc (Yz hit.typeIs ?_);have h1:Builtin.List.listSameRef (.ref S) (.ref I)=false:=by simp[Builtin.List.listSameRef,hSI]
  have h2:(Q9 "list_reverseiterator" == Q9 "list")=false:=by decide
  have h3:(Q9 "list_reverseiterator" == Q9 "tuple")=false:=by decide
  simp only[h1,h2,h3,Wn,Jk,if_false];refine Zc (wpAny_pyIter_revIter hit ?_);refine Zc (Jm (xp5 hit ?_));rw[if_neg (by decide)];have hit0:s.heap.IsRevIter I l ((items.size:Int)-1-((0:Nat):Int)):=by simpa using hit
  refine Zl ⟨plainId_quiet F.plain_extend_loop _,codeAny_extend_loopS W hn S hSf res items.size 0 _ #[] c₀ rfl (ZW _) ⟨ZW _,hit0,hl⟩ hS (ItemsOf.nil _) fun s' acc' c' hm hS' hacc=>?_⟩;rw[Moved.eq_with hm];refine hR s'.heap s'.toks acc' c' (fun b o hb hb2 e=>hm.heap b o (fun hmem=>?_) e) hS' hacc;rcases Z1.mp hmem with e'|hmem
  . exact hb e'
  . exact hb2 (Z0.mp hmem)
theorem xjt {Q:Value->Shared->Prop} (hh:A.handled=none) {I l:Addr}{items:Array Value} (hne:l≠I) (hit:s.heap.IsRevIter I l ((items.size:Int)-1)) (hl:s.heap.IsList l items) (hn:items.size<=sizeLine)
    (hQ:∀ h' tk acc' c',(∀ b o,b≠I->s.heap.get? b=some o->h'.get? b=some o) ->
      h'.get? s.heap.objs.size=some { cls:=.type "list",dict:=none,data:=.seq acc' c',slots:=#[] }->ItemsOf (fun i v=>items[items.size-1-i]?=some v) acc' items.size->Q (.ref s.heap.objs.size) { s with heap:=h',toks:=tk }) :
    wpAny (model prog w) A (call (.type "list") [.ref I]) Q E s:=by
  refine callType_codes (Q₁:=fun obj s₁=>obj=.ref s.heap.objs.size/\s₁={ s with heap:=s.heap.push { cls:=.type "list",data:=.seq #[] } }) F.called_list (F.typeCall_list_1 _) F.entry_list_init
    (code_list_new _ ⟨rfl,rfl⟩) fun obj s₁ h₁=>?_
  obtain⟨rfl,rfl⟩:=h₁;have hS:(s.heap.push { cls:=.type "list",data:=.seq #[] }).get? s.heap.objs.size=some { cls:=.type "list",data:=.seq #[] }:=Z5 _ rfl;have iI:I<s.heap.objs.size:=by obtain⟨o,e,_⟩:=hit; exact Zq e
  have il:l<s.heap.objs.size:=by obtain⟨o,e,_⟩:=hl; exact Zq e
  refine⟨⟨_,hS,rfl⟩,F.args_list_init_2 _ _,?_⟩;show wpAny _ _ (do let old <- Builtin.List.listItems (.ref s.heap.objs.size); Builtin.List.listUpdate (.ref s.heap.objs.size) (fun _=>#[]); letGo old.toList.reverse; Builtin.List.listExtendWith (.ref s.heap.objs.size) (.ref I) .none) _ _ _;refine Zc ?_;unfold Builtin.List.listItems;refine Zc (wpAny_seqItems hS rfl (Zl ?_));show wpAny _ _ (updateSeq s.heap.objs.size (fun _=>#[])>>=fun _=>letGo (#[]:Array Value).toList.reverse>>=fun _=>Builtin.List.listExtendWith (.ref s.heap.objs.size) (.ref I) .none) _ _ _;refine Zc (wpAny_updateSeq hS rfl ?_);have hS₂:=ZM (J7 (fun _=>(#[]:Array Value))) hS rfl;have oth:∀ b o,s.heap.get? b=some o->((s.heap.push { cls:=.type "list",data:=.seq #[] }).update s.heap.objs.size (J7 (fun _=>(#[]:Array Value)))).get? b=some o :=
    fun b o e=>(Ja _ _ (Yj (Zq e))).trans (Zh _ e)
  refine Zc (wpAny_letGo ?_);refine xm4 (A:=A.in1) hh hne s.heap.objs.size (Yj iI) (Yj il) .none _ (hit.at (oth I)) (hl.at (oth l)) hS₂ hn fun h' tk acc' c' hk hS' hacc=>?_;exact⟨rfl,hQ h' tk acc' c' (fun b o hb e=>hk b o (ZK (Zq e)) hb (oth b o e)) hS' hacc⟩
end
def xwl (K:Zd) (ta:TA):TE:=fun Z H Q=>ta Z H fun vs H1=>∃ a xs,vs=[.ref a]/\SqL K H1 a xs/\∀ l,H1 l=none->Q (.ref l) (upd H1 l (.lst xs.reverse))
section
variable {X:Cx}
theorem xnd {a:Expr}{ta:TA}{p p2 pos pos2:Pos} (hc:X.calm=true) (hg:Gl X "list") (hm:X.mg "list"=none) (hg2:Gl X "reversed") (hm2:X.mg "reversed"=none) (ha:PA X [a] ta)
    (hs:starEach [a] X.env=[(false,eval a X.env)]:=by rfl) (hs3:starEach [.Call (.Name "reversed" p2) [a] [] pos2] X.env=[(false,eval (.Call (.Name "reversed" p2) [a] [] pos2) X.env)]:=by rfl) :
    PE X (.Call (.Name "list" p) [.Call (.Name "reversed" p2) [a] [] pos2] [] pos) (xwl X.K ta):=by
  intro pins s Z H Q I h;refine Yk (xcw I hg hm PyProof.Rows.Boot.«list» ?_);refine Jb ?_ (by rw[hs3]; rfl) rfl;rw[hs3];show wpAny _ _ (spliced ((false,eval (.Call (.Name "reversed" p2) [a] [] pos2) X.env)::backTo pos [])) _ _ s;refine Qr ?_;refine Call_ (xcw I hg2 hm2 PyProof.Rows.Boot.«reversed» (Jb (thn (ha pos2 pins s Z H _ I h) fun us s1 ⟨vs,H1,I1,r1,q1⟩=>?_) hs rfl));obtain⟨l,xs,e,hq,q⟩:=q1;subst e;obtain⟨u,rfl,ru⟩:=xb6 r1;obtain rfl:u=Zm l:=ru;obtain⟨its,rv,p,hz⟩:=I1.list hq;have hlen:=rv.length;refine call_reversed_list p.isList ?_;refine Calls.spliced_nil ?_;have I2:Inv X pins Z H1 { s1 with heap:=s1.heap.push (revObj l ((its.toArray.size:Int)-1)) }:=I1.kept (t':=s1.toks) fun b o e=>Zh _ e;have hit:Heap.IsRevIter (s1.heap.push (revObj l ((its.toArray.size:Int)-1))) s1.heap.objs.size l ((its.toArray.size:Int)-1):=⟨_,Z5 _ rfl,rfl,rfl⟩
  have hll:l<s1.heap.objs.size:=by obtain⟨o,e,_⟩:=p.isList; exact Zq e
  have hl2:(s1.heap.push (revObj l ((its.toArray.size:Int)-1))).IsList l its.toArray:=p.isList.at fun o e=>Zh _ e;have f2:=I1.fpOk (Zj s1.heap.objs.size) (I1.hok.fresh (Zj _));generalize hs2:({ s1 with heap:=s1.heap.push (revObj l ((its.toArray.size:Int)-1)) }:Shared)=s2 at I2;have hit':s2.heap.IsRevIter s1.heap.objs.size l ((its.toArray.size:Int)-1):=by rw[<- hs2]; exact hit
  have hl2':s2.heap.IsList l its.toArray:=by rw[<- hs2]; exact hl2
  refine xjt (I.ok.hd hc) (ZK hll) hit' hl2' (by simp only[Zw]; omega) fun h' tk acc' c' hk hS' hacc=>?_;have I3:Inv X pins Z H1 { s2 with heap:=h',toks:=tk }:=I2.turned (t':=tk) (it:=s1.heap.objs.size) (fun b o hb e=>hk b o hb e) (I1.hok.fresh (Zj _)) f2.2.1 f2.2.2.2.1 f2.2.2.2.2.1 f2.2.2.2.2.2;have z2:s1.heap.objs.size<s2.heap.objs.size:=by obtain⟨o,e,_⟩:=hit'; exact Zq e
  have e1:acc'.toList.length=xs.reverse.length:=by rw[Wk,hlen]; simpa using hacc.1
  obtain⟨n0,nL,nC,nP⟩:=I2.size_lt (Zj s2.heap.objs.size);refine⟨.ref s2.heap.objs.size,_,I3.adopt n0 I2.sz nL nC nP (show xam X.prog X.w _ h' _ (.lst xs.reverse) from ⟨by rw[Wk]; exact hz,acc'.toList,c',xgj e1 fun j y u ey eu=>?_,by simpa using hS'⟩),rfl,q _ n0⟩;have eu':acc'[j]?=some u:=by simpa using eu
  have lt:j<xs.length:=by
    have:=(Zi.mp ey).1;simpa using this
  have h2:=hacc.2 j u eu';rw[List.getElem?_reverse lt] at ey;obtain⟨u',hu',ru'⟩:=rv.get ey;have h2':its[its.length-1-j]?=some u:=by simpa using h2
  rw[<- hlen,hu'] at h2';cases h2';exact ru'
end
end L2
namespace L2
open PySem PySem.Spec PyProof.Rows XL
open AutoSeq1 (wpAny_loadPart')
end L2
namespace L2
open PySem PySem.Spec PyProof.Rows XL
end L2
namespace L2
open PySem PySem.Spec PyProof.Rows XL PySem.W PySem.Builtin PySem.Builtin.Str
theorem xcv (a b:Str):(a++b).cps.toList=a.cps.toList++b.cps.toList:=by
 show (a.cps++b.cps).toList=_;simp
theorem xgf (a:Str):a.length=a.cps.toList.length:=by simp[YT]
theorem xkd (s k:Nat):∀(ws:List Str) (a:Nat),(∀ w∈ws,w.length<=k)->ws.foldl (fun n w=>n+w.length+s) a<=a+ws.length*(k+s)
 | [],a,_=>by simp
 | w::ws,a,h=>by
  have h1:=h w Zr;have ih:=xkd s k ws (a+w.length+s) fun v hv=>h v (Zt _ hv);rw[List.foldl_cons,ZF,Nat.succ_mul];omega
theorem xmi:∀{ws:List Str}{its:List Value},Vals (ws.map V.str) its->∃ l:List (Str × Tok),its=strValues l/\l.map (·.1)=ws
 | [],_,.nil=>⟨[],rfl,rfl⟩
 | w::ws,_,.cons r rs=>by
  obtain⟨t,rfl⟩:=r;obtain⟨l,e1,e2⟩:=xmi rs;exact⟨(w,t)::l,by rw[e1]; rfl,by rw[<- e2]; rfl⟩
theorem xjs {sep:Str}{k:Nat}:∀{ws:List Str},(∀ p∈ws,p.length<=k)->(YJ sep ws).length<=ws.length*(k+sep.length)
 | [],_=>by show (YJ sep []).length<=0*(k+sep.length); rw[Nat.zero_mul]; exact Nat.le_of_eq rfl
 | [a],h=>by
  have:=h a Zr;show a.length<=1*(k+sep.length);omega
 | a::b::r,h=>by
  have h1:=h a Zr;have ih:=xjs (sep:=sep) (k:=k) (ws:=b::r) fun p hp=>h p (Zt _ hp);have e:(YJ sep (a::b::r)).length=a.length+sep.length+(YJ sep (b::r)).length:=by
   show (a++sep++YJ sep (b::r)).length=_;rw[xgf,xcv,xcv,Zo,Zo,<- xgf,<- xgf,<- xgf]
  rw[e,ZF,Nat.succ_mul];omega
inductive xvp (x:V) (xs:List V) (H:Hp) (Q:VK):Prop
 | mk (sep:Str) (l:Addr) (ws:List Str) (k:Nat) (e_:x=.str sep) (r_:xs=[.ref l]/\H l=some (.lst (ws.map V.str))/\(∀ w∈ws,w.length<=k)/\ws.length*(k+sep.length)<=sizeLine/\Q (.str (YJ sep ws)) H)
section
variable {X:Cx}
theorem xih:MtR X "str.join" xvp:=by
 intro pins s Z H x xs v us Q I rx rs h;obtain⟨sep,l,ws,k,rfl,rfl,hl,hk,hz,q⟩:=h;obtain⟨t,rfl⟩:=rx;obtain⟨u,rfl,ru⟩:=xb6 rs;obtain rfl:u=Zm l:=ru;obtain⟨_,its,n,vs,e⟩:=I.hok _ _ hl;obtain⟨ps,rfl,rfl⟩:=xmi vs;have fl:=xkd sep.length k (ps.map (·.1)) 0 hk;have hl2:tooLong ((ps.map (·.1)).toArray.foldl (·+·.length+sep.length) 0)=false:=by
  unfold tooLong;rw[List.foldl_toArray];exact decide_eq_false (by omega)
 refine Qh F.slot_str_join (typeIs_str s sep t) F.entry_str_join (F.args_str_join_2 _ _) (meets_str_join_list sep t l ps hl2) ⟨⟨_,e,rfl,n,rfl⟩,?_⟩;have jz:=xjs (sep:=sep) hk;have jl:(glued sep (ps.map (·.1))).length<=sizeLine:=by
  rw[QO];exact Zy jz hz
 rw[<- QO] at q
 match ps,jl,q with
 | [],jl,q=>exact⟨jl,.str _,H,I.tok _,⟨_,rfl⟩,q⟩
 | [p],jl,q =>
  rw[QO] at q;exact⟨.str p.1,H,I,⟨_,rfl⟩,q⟩
 | p::p2::r,jl,q=>exact⟨jl,.str _,H,I.tok _,⟨_,rfl⟩,q⟩
end
end L2
namespace L2
open PySem PySem.Spec PyProof.Rows XL PySem.W
section
variable {X:Cx}
def sgnL (x:Str):List V:=x.cps.toList.map fun c=>V.str ⟨#[c]⟩
theorem xju (hc:X.calm=true):xby X (.type "list") (fun xs H Q=>∃ x:Str,xs=[.str x]/\x.length<=1000/\∀ l,H l=none->Q (.ref l) (upd H l (.lst (sgnL x)))):=by
 intro pins s Z H xs us Q I r h;obtain⟨x,rfl,hn,q⟩:=h;obtain⟨u,rfl,t,rfl⟩:=xb6 r;refine PySem.call_list_str (I.ok.hd hc) x t (fun h' tk acc' c' kp e it=>?_) (Zy hn (by decide));have len:acc'.toList.length=(sgnL x).length:=by
  rw[sgnL,Za];have:=it.1;simpa using this
 refine⟨.ref s.heap.objs.size,_,I.laid (t':=tk) kp (Zj _) (show xam X.prog X.w _ h' _ (.lst (sgnL x)) from ⟨?_,acc'.toList,c',xgj len fun j y u ey eu=>?_,by simpa using e⟩),rfl,q _ (I.hok.fresh (Zj _))⟩
 .rw [sgnL,Za];have:x.cps.toList.length=x.length:=by simp[YT]
  exact Zy (by omega:_<=1000) (by decide)
 .have eu':acc'[j]?=some u:=by simpa using eu
  obtain⟨c,t2,e1,e2⟩:=it.2 j u eu';rw[sgnL,Zg,Jx,e1] at ey;cases ey;exact⟨t2,e2⟩
end
end L2
namespace L2
open PySem PySem.Spec PyProof.Rows XL PySem.W PySem.Builtin PySem.Builtin.Str
def ofL (l:List Nat):Str:=⟨l.toArray⟩
theorem xac (l:List Nat):(ofL l).cps.toList=l:=by simp[ofL]
section
variable {prog:Program}{w:World}{K:Type} [DecidableEq K] {A:Around}{E:Value->Shared->Prop}{s:Shared}
def xbv (xs more:List (K × Addr × Value)):List (K × Addr × Value):=more.foldl (fun acc x=>storedH acc x.1 x.2.1 x.2.2) xs
theorem xkl (xs more:List (K × Addr × Value)) (i:Nat) (x:K × Addr × Value) (h:more[i]?=some x):xbv xs (more.take (i+1))=storedH (xbv xs (more.take i)) x.1 x.2.1 x.2.2:=by
 simp[xbv,ZV,h,Ys]
theorem xlp (xs:List (K × Addr × Value)) (k:K) (a:Addr) (v:Value):(storedH xs k a v).length<=xs.length+1:=by
 unfold storedH;split<;>simp
theorem xet:∀(more xs:List (K × Addr × Value)),(xbv xs more).length<=xs.length+more.length
 | [],xs=>Zj _
 | x::r,xs=>by
  have a:=xet r (storedH xs x.1 x.2.1 x.2.2);have b:=xlp xs x.1 x.2.1 x.2.2;show (xbv (storedH xs x.1 x.2.1 x.2.2) r).length<=xs.length+(r.length+1)
  omega
theorem xfk:∀(more xs:List (K × Addr × Value)),((xs++more).map (·.1)).Nodup->xbv xs more=xs++more
 | [],xs,_=>(Jy _).symm
 | x::r,xs,h=>by
  have e:storedH xs x.1 x.2.1 x.2.2=xs++[x]:=by
   refine storedH_new (atKey_none_of_get fun j p hj=>?_) x.2.1 x.2.2;rw[ZB,ZZ] at h;exact h.2.2 x.1 (Ze.mpr ⟨_,Zn hj,rfl⟩) x.1 (by simp) rfl
  show xbv (storedH xs x.1 x.2.1 x.2.2) r=_;rw[e,xfk r (xs++[x]) (by rw[Qu]; exact h),Qu];rfl
theorem xne {knd:HeapKind prog w K}{d a:Addr}{xs:List (K × Addr × Value)}{k:K}{v:Value}{Q:Unit->Shared->Prop} (hu:knd.room A) (hkey:knd.is s.heap k a) (hm:s.heap.DictOfH knd d xs)
    (hsz:xs.length<=sizeLine) (hQ:∀ h',h'.DictOfH knd d (storedH xs k a v)->ZN d s.heap h'->Q () { s with heap:=h' }) :
    wpAny (model prog w) A (dictSetHashed d (.ref a) (knd.hash k) v) Q E s:=by
  obtain⟨o,es,ep,ho,hc,hd,he,his,hn⟩:=hm;unfold dictSetHashed
  try with_reducible refine Jm ?_
  refine Zc (wpAny_dictFind_heap hu hkey ho hd he his hn (fun hno=>?_) (fun j p hj=>?_))
  . have hnot:k∉xs.map (·.1):=not_mem_keys_of_get hno
    have e:=storedH_new (atKey_none_of_get hno) a v;refine Zc (wpAny_rule (wpAny_updateDictKeys (hz:=by have e:=size_of_entries he; omega) ho hd (hQ _ ⟨_,_,ep+1,ZM _ ho (Wj (YW hd _)),hc.mapDictKeys _,YW hd _,?_,?_,?_⟩ (ZN.update ..))))
    . rw[e]
      simp[he,entryOfKey]
    . rw[e]
      intro x hx;rcases Z9.mp hx with hx|hx
      . exact knd.keeps (his x hx) ho hd (ZN.update ..)
      . rw[Z0.mp hx]
        exact knd.keeps hkey ho hd (ZN.update ..)
    . rw[e,ZB,ZZ]
      refine⟨hn,by simp,fun x hx y hy z=>hnot ?_⟩;have hy:y∈[k]:=hy;rw[Z0.mp hy] at z;exact z▸hx
  . have e:=storedH_old (atKey_of_get hn hj) a v
    refine Zc (wpAny_rule (Zc (wpAny_updateDict ho hd (wpAny_point (hQ _ ⟨_,_,ep,ZM _ ho (Wj (Obj.data_mapDict hd _)),hc.mapDict _,Obj.data_mapDict hd _,?_,?_,?_⟩ (ZN.update ..))))))
    . rw[e]
      have:=modify_map_putAt (entryOfKey knd) (fun e:DictEntry=>{ e with val:=v }) k v (fun _ _=>rfl) hn hj;rw[<- he] at this;obtain⟨l⟩:=es;simpa using this
    . rw[e]
      intro x hx;obtain⟨y,hy,rfl⟩:=Ze.mp hx;unfold putAt;split<;>exact knd.keeps (his y hy) ho hd (ZN.update ..)
    . rw[e,keys_map_putAt]
      exact hn
end
section
variable {prog:Program}{w:World}{K:Type} [DecidableEq K] {kk:KeyKind prog w K}{A:Around}{E:Value->Shared->Prop}{s:Shared}
theorem xnz {α β:Type} [BEq β] [LawfulBEq β] {f:α->β}:∀{l:List α}{x:α},(l.map f).Nodup->x∈l->(l.filter fun y=>f y == f x).length<=1
 | y::r,x,h,hx=>by
  rw[Zx,Jd] at h;rw[Y1];split
  .rename_i e
   have e:f y=f x:=Q1 e;have z:(r.filter fun y=>f y == f x)=[]:=by
    rw[QH];intro u hu eu;exact h.1 (Ze.mpr ⟨u,hu,(Q1 eu).trans e.symm⟩)
   rw[z];exact Zj _
  .rename_i e
   rcases Z1.mp hx with rfl|hx
   .exact absurd (beq_self_eq_true _) e
   .exact xnz h.2 hx
theorem xt4 {nm:String}{o:Addr}{oo:Obj}{es:Array DictEntry}{ep:Nat}{more:List (List K × Addr × Value)}{Q:Array DictEntry->Shared->Prop} (hoo:s.heap.get? o=some oo) (hd:oo.data=.dict es ep)
    (he:es.toList=more.map (entryOfKey (tupleKind kk))) (his:∀ x∈more,(tupleKind kk).is s.heap x.1 x.2.1) (hh:(more.map fun x=>(tupleKind kk).hash x.1).Nodup) (h:Q es s) :
    wpAny (model prog w) A (Builtin.Dict.entriesForEmpty nm o) Q E s:=by
  unfold Builtin.Dict.entriesForEmpty;refine Zc (Jp hoo hd ?_);refine Zc ?_;rw[<- Array.forIn_toList];refine wpAny_forIn_list _ (fun rest _ s'=>s'=s/\∀ e∈rest,e∈es.toList) _ ?_ ?_ _ _ ⟨rfl,fun e z=>z⟩
  . rintro e rest b s' ⟨rfl,mem⟩
    have me:=mem e (Zr ..);rw[he] at me;obtain⟨x,hx,rfl⟩:=Ze.mp me;obtain⟨ox,its,n,h1,h2,h3,h4⟩:=his x hx;have one:¬ (es.filter (·.hash == (entryOfKey (tupleKind kk) x).hash)).size>1:=by
      rw[<- JC,Array.toList_filter,he];have z:=xnz hh hx;rw[List.filter_map,Za];exact Wp.mpr z
    refine Zc ?_;show wpAny _ _ (Builtin.Dict.quietEq (.ref x.2.1)) _ _ _;unfold Builtin.Dict.quietEq;refine Zc (YX (T:="tuple") ⟨ox,h1,h2⟩ F.slot_tuple_eq.lookup (Zl ?_));rw[show ((some (Yn "tuple.__eq__"):Option Value) == some (Yn "object.__eq__"))=false from by decide];simp only[Bool.not_false,if_true];rw[if_neg one];exact Zl ⟨rfl,fun e z=>mem e (Zt _ z)⟩
  . rintro b s' ⟨rfl,_⟩
    exact Zl h
theorem xut {nm:String}{d o:Addr}{xs more:List (List K × Addr × Value)}{Q:Unit->Shared->Prop} (hu:(tupleKind kk).room A) (hdo:d≠o) (hoS:(o == sysModules)=false)
    (hd:s.heap.DictOfH (tupleKind kk) d xs) (ho:s.heap.DictOfH (tupleKind kk) o more) (hh:xs=[]->(more.map fun x=>(tupleKind kk).hash x.1).Nodup) (hsz:xs.length+more.length<=sizeLine)
    (hQ:∀ h',h'.DictOfH (tupleKind kk) d (xbv xs more)->ZN d s.heap h'->Q () { s with heap:=h' }) :
    wpAny (model prog w) A (Builtin.Dict.mergeDict nm d o) Q E s:=by
  obtain⟨od,esd,epd,hod,hcd,hdd,hed,hid,hnd⟩:=id hd;obtain⟨oo,eso,epo,hoo,hco,hdo',heo,hio,hno⟩:=id ho;have hlen:more.length=eso.size:=by rw[<- JC,heo,Za]
  unfold Builtin.Dict.mergeDict;rw[if_neg (by simpa using hdo)];unfold Builtin.Dict.showsAll;rw[if_neg (by rw[hoS]; exact Z7)];refine Zc (Zl ?_);refine Zc (Jp hoo hdo' ?_);have loop:∀ Q':PUnit->Shared->Prop,(∀ h',h'.DictOfH (tupleKind kk) d (xbv xs more)->ZN d s.heap h'->Q' Qi { s with heap:=h' })->wpAny (model prog w) A (forIn (List.range' 0 eso.size) Qi fun i (_:PUnit)=>(do
          let l' <- dictEntries o
          match l'[i]? with
            | some e=>do
              holding [e.key,e.val] (dictSetHashed d e.key e.hash e.val)
              let ep' <- dictEpoch o
              if (ep' != epo)=true then do
                  (unsupported (toString nm++toString ":source-changed-during-callback"):Sem PUnit)
                  pure (JL Qi)
                else pure (JL Qi)
            | _=>do
              (unsupported "internal:dict-merge":Sem PUnit)
              pure (JL Qi):Sem (ForInStep PUnit))) Q' E s:=by
    intro Q' hQ';refine wpAny_forIn_list _ (fun rest _ s'=>∃ h' i,s'={ s with heap:=h' }/\rest=List.range' i (eso.size-i)/\i<=eso.size/\h'.DictOfH (tupleKind kk) d (xbv xs (more.take i))/\h'.get? o=some oo/\ZN d s.heap h')
      _ ?_ ?_ _ _ ⟨s.heap,0,rfl,by simp,ZW _,hd,hoo,ZN.refl _ _⟩
    . rintro x rest b s' ⟨h',i,rfl,hr,hi,hd',hoo',hs'⟩
      have hlt:i<eso.size:=by
        rcases Nat.lt_or_ge i eso.size with h|h
        . exact h
        . rw[Nat.sub_eq_zero_of_le h] at hr
          exact nomatch hr
      obtain⟨rfl,hrest⟩:x=i/\rest=List.range' (i+1) (eso.size-(i+1)):=by
        have e:eso.size-i=(eso.size-(i+1))+1:=by omega
        rw[e,List.range'_succ] at hr;injection hr with h1 h2
        exact⟨h1,h2⟩
      have hlm:x<more.length:=by omega
      have hkv:more[x]?=some more[x]:=Zf hlm;refine Zc (Jp hoo' hdo' ?_);rw[entry_at heo x,hkv];have hk0:=hio more[x] (List.getElem_mem hlm);have hk1:(tupleKind kk).is h' more[x].1 more[x].2.1:=(tupleKind kk).keeps hk0 hod hdd hs';have hz:(xbv xs (more.take x)).length<=sizeLine:=by
        have e1:=xet (more.take x) xs;rw[Jh] at e1;omega
      show wpAny _ _ (holding [.ref more[x].2.1,more[x].2.2] (dictSetHashed d (.ref more[x].2.1) ((tupleKind kk).hash more[x].1) more[x].2.2)>>=_) _ _ _;refine Zc (Jm (xne hu hk1 hd' hz fun h2 hd2 hs2=>?_));have hoo2:h2.get? o=some oo:=(hs2.2 o (ZI hdo)).trans hoo';refine Zc (JT hoo2 hdo' ?_);rw[if_neg (by simp)];exact Zl ⟨h2,x+1,rfl,hrest,hlt,by rw[xkl xs more x more[x] hkv]; exact hd2,hoo2,hs'.trans hs2⟩
    . rintro b s' ⟨h',i,rfl,hr,hi,hd',hoo',hs'⟩
      have hin:i=eso.size:=by
        rcases Nat.lt_or_ge i eso.size with h|h
        . have e:eso.size-i=(eso.size-(i+1))+1:=by omega
          rw[e,List.range'_succ] at hr;exact nomatch hr
        . exact Nat.le_antisymm hi h
      rw[hin,<- hlen,Yf] at hd';exact hQ' h' hd' hs'
  dsimp only
  split
  . refine Zc (Jp hod hdd ?_)
    split
    . rename_i hemp
      have h0:esd=#[]:=Array.isEmpty_iff.mp hemp;have hx:xs=[]:=by
        rw[h0] at hed;exact Qd.mp hed.symm
      subst hx;refine Zc (xt4 hoo hdo' heo hio (hh rfl) ?_);rw[xfk more [] hno] at hQ;split
      . refine Zc (wpAny_updateDictKeysTo hod hdd (Zl (hQ _ ⟨_,_,epd+1,ZM _ hod (Wj (YW hdd _)),hcd.mapDictKeys _,YW hdd _,heo,fun x hx=>(tupleKind kk).keeps (hio x hx) hod hdd (ZN.update ..),hno⟩ (ZN.update ..))) ?_)
        simp only[YZ,Nat.zero_add] at hsz;omega
      . rename_i hne
        have h1:eso=#[]:=Array.isEmpty_iff.mp (by simpa using hne);have hm0:more=[]:=YH.mp (by rw[hlen,h1]; rfl);subst hm0;exact Zl (hQ _ hd (ZN.refl _ _))
    . refine Zc (JT hoo hdo' ?_)
      refine Zc (Jp hoo hdo' ?_);refine Zc ?_;rw[Std.Legacy.Range.forIn_eq_forIn_range'];simp only[Std.Legacy.Range.size,Nat.sub_zero,Nat.add_sub_cancel,Nat.div_one];exact loop _ fun h' a b=>Zl (hQ h' a b)
  . refine Zc (JT hoo hdo' ?_)
    refine Zc (Jp hoo hdo' ?_);refine Zc ?_;rw[Std.Legacy.Range.forIn_eq_forIn_range'];simp only[Std.Legacy.Range.size,Nat.sub_zero,Nat.add_sub_cancel,Nat.div_one];exact loop _ fun h' a b=>Zl (hQ h' a b)
theorem xjw (d o:Addr) (hdo:d≠o) (hoS:(o == sysModules)=false) :
    MeetsIn prog w (Builtin.«dict.update» ⟨[.ref d,.ref o],[]⟩) (fun A R s=>(tupleKind kk).room A.in1/\∃ xs more,s.heap.DictOfH (tupleKind kk) d xs/\s.heap.DictOfH (tupleKind kk) o more/\(xs=[]->(more.map fun x=>(tupleKind kk).hash x.1).Nodup)/\xs.length+more.length<=sizeLine /\
      ∀ h',h'.DictOfH (tupleKind kk) d (xbv xs more)->ZN d s.heap h'->R (.ok (.ret .none)) { s with heap:=h' }) :=
  .of_wp fun A R s ⟨hu,xs,more,hd,ho,hh,hsz,h⟩=>by
    unfold Builtin.«dict.update»;refine Zc ?_;unfold Builtin.Dict.selfAndRest;refine Zc (QM hd.typeIs ?_);show wpAny _ _ (pure (d,[Zm o])) _ _ s;refine Zl ?_;show wpAny _ _ (Builtin.Dict.updateFrom "dict.update" d (.ref o) [] .none) _ _ s;unfold Builtin.Dict.updateFrom;refine Zc (Yz ho.typeIs ?_);rw[if_neg (by decide)];refine Zc ?_;unfold Builtin.Dict.merge;refine Zc ?_;unfold Builtin.Dict.readDirectly;refine Zc (Q3 ho.typeIs isSubtype_dict_dict ?_);simp only[Bool.not_true,Jk,if_false];refine Zc (YX ho.typeIs F.slot_dict_iter.lookup (Zl ?_));simp only[beq_self_eq_true,if_true];refine Zc (Zl ?_);refine xut hu hdo hoS hd ho hh hsz fun h' hd' hs'=>?_;show wpAny _ _ (Builtin.Dict.addKeywords d []>>=_) _ _ _;exact Zc (Zl (Zl ⟨.none,rfl,h h' hd' hs'⟩))
end
def xcq (kvs more:List (List Key × V)):List (List Key × V):=more.foldl (fun acc x=>putK acc x.1 x.2) kvs
theorem KT.merge {H:Hp}:∀{more:List (List Key × V)}{ms:List (List Key × Addr × Value)},KT H more ms->∀{kvs:List (List Key × V)}{xs:List (List Key × Addr × Value)},KT H kvs xs->KT H (xcq kvs more) (xbv xs ms):=by
 intro more ms r
 induction r with
 | nil=>intro kvs xs q; exact q
 | cons h _ ih =>
  intro kvs xs q;obtain⟨h1,h2,h3⟩:=h;have z:=q.put _ h2 h3;rw[h1] at z;have y:=ih z;rw[<- h1] at y;show KT H (xcq (putK kvs _ _) _) (xbv (storedH xs _ _ _) _);rw[<- h1];exact y
def xf6 (X:Cx) (k:List Key):Int:=(tupleKind (xaj X.prog X.w)).hash k
inductive rUpd (X:Cx) (x:V) (vs:List V) (H:Hp) (Q:VK):Prop
 | mk (a b:Addr) (kvs more:List (List Key × V)) (e_:x=.ref a) (r_:vs=[.ref b]/\a≠b/\H a=some (.dT kvs)/\H b=some (.dT more)/\(kvs=[]->(more.map fun x=>xf6 X x.1).Nodup)/\kvs.length+more.length<=1000/\Q .non (upd H a (.dT (xcq kvs more))))
theorem xom {X:Cx} (hu:X.A.units+1<cLine):MtM X "dict.update" (rUpd X):=by
 intro pins s Z H x vs v us Q I rx rv h;obtain⟨a,b,kvs,more,rfl,rfl,ab,ha,hb,hh,hz,q⟩:=h;cases rx;obtain⟨u,rfl,ru⟩:=rv.one;cases (show u=Zm b from ru);obtain⟨za,hda,xs,rela,da⟩:=xhs I.hok ha;obtain⟨zb,hdb,ms,relb,db⟩:=xhs I.hok hb;have la:=Yo rela;have lb:=Yo relb;have hl:(xcq kvs more).length<=sizeLine:=by
  have e1:=xet ms xs;have e2:=Yo (relb.merge rela);exact Zy (by omega:_<=1000) (by decide)
 refine call_meetsIn PySem.F.slot_dict_update da.typeIs PySem.F.entry_dict_update (PySem.F.args_dict_update_2 _ _) (xjw (kk:=xaj X.prog X.w) a b ab hdb) ⟨?_,xs,ms,da,db,fun e=>?_,?_,fun h' dd' hs=>?_⟩
 .show X.A.in1.units<cLine;exact hu
 .subst e;have e0:kvs=[]:=YH.mp la;have z:=hh e0;have em:more.map (fun x=>xf6 X x.1)=ms.map fun x=>(tupleKind (xaj X.prog X.w)).hash x.1:=by
   have aux:∀{l:List (List Key × V)}{m:List (List Key × Addr × Value)},KT H l m->l.map (fun x=>xf6 X x.1)=m.map fun x=>(tupleKind (xaj X.prog X.w)).hash x.1:=by
    intro l m r
    induction r with
    | nil=>rfl
    | cons h _ ih=>rw[Zx,Zx,ih,h.1]; rfl
   exact aux relb
  rw[<- em];exact z
 .exact Zy (by omega:_<=1000) (by decide)
 .obtain ⟨qo,es,ep,hq,h2,h3,h4,_,h5⟩:=dd';refine⟨.non,_,xd3 (ob:=.dT (xcq kvs more)) I (by rw[ha]; exact Js) hs ⟨qo,hq⟩ ⟨hl,hda,_,(relb.merge rela).keeps fun c ys ec=>?_,qo,es,ep,hq,h2,h3,h4,h5⟩,rfl,q⟩;rw[xh (xae ec ha (fun z=>nomatch z))];exact ec
end L2
namespace L2
open PySem
def th (a b:Int):Int:=reduceHash (Builtin.Tuple.tupleHashOf [hashInt a,hashInt b])
theorem xku (X:Cx) (a b:Int):xf6 X [.inl a,.inl b]=th a b:=by
 unfold xf6 th;show reduceHash (Builtin.Tuple.tupleHashOf ([.inl a,.inl b].map (keyH X.w)))=_;rw[Zx,Zx,List.map_nil];unfold keyH
 with_reducible rfl
def rimH (w:Nat):List Int:=((Z3 16).map fun (r:Nat)=>th 0 ((r:Int)+1))++((Z3 16).map fun (r:Nat)=>th ((w:Int)+1) ((r:Int)+1))
theorem xs6:∀ w,w<31->1<=w->(rimH w).Nodup:=by decide +kernel
end L2
namespace XL
open PySem PySem.Spec PyProof.Rows
def xsf (acc:List Str) (x:Str):List Str:=if acc.any (· == x)=true then acc else acc++[x]
end XL
namespace L2
open PySem PySem.Spec PyProof.Rows XL
def xwt (xs:List Str):Nat:=(xs.foldl xsf []).length
end L2
namespace XS
open PySem PySem.SetTable
end XS
namespace XS
open PySem PySem.SetTable
variable {t:SetTable}{es:Array (Int × Value)}{L:List Row}
end XS
namespace XS
open PySem PySem.SetTable
end XS
namespace XS
open PySem PySem.Spec PySem.SetTable
end XS
namespace XS
open PySem PySem.Spec PyProof.Rows
end XS
namespace XS
open PySem PySem.Spec PyProof.Rows XL
end XS
namespace L2
open PySem PySem.Spec PyProof.Rows XL XS
end L2
namespace L2
open PySem PySem.Spec PyProof.Rows
end L2
namespace L2
open PySem PySem.Spec PyProof.Rows XL PySem.W
section
variable {J:It}{n:Nat}{g:TG}{Z:St}{fr:List Nat}{tc:TT}{te:TE}{l:Addr}{H1:Hp}{Q:VK}{α:Type}
theorem xpr {α:Type}{bs as:List α}{i:Nat}{x:α} (h:bs.Sublist (as.take i)) (hx:as[i]?=some x):(bs++[x]).Sublist (as.take (i+1)):=by
 rw[ZV,hx];exact h.append (List.Sublist.refl _)
theorem xqe {α:Type}{bs as:List α}{i:Nat} (h:bs.Sublist (as.take i)):bs.Sublist (as.take (i+1)):=by
 rw[ZV];exact h.trans (List.sublist_append_left _ _)
end
section
variable {X:Cx}{o:Expr}{to:TE}{tg:Expr}{elts:List Expr}{x1:_}{tpos apos cpos:Pos}
def xvr (X:Cx) (t:TS):TS:=fun D Z H=>t { D with nx:=fun σ' H'=>∃ d ob u,H' d=some (.frz ob u)/\(∀ o' u',X.H₀ d≠some (.frz o' u'))/\D.nx σ' (upd H' d u) } Z H
theorem xig {st:Stmt}{t:TS} (h:PS X st t):PS X st (xvr X t):=by
 intro pins s Z H D I q;refine thn (h pins s Z H _ I q) fun fl s1 z=>?_;cases fl with
 | next =>
  obtain⟨σ',H',I',d,ob,u,e,nf,r⟩:=z;exact⟨σ',_,I'.thaw e nf,r⟩
 | _=>exact z
end
section
variable {X:Cx}{pins:List (Addr × Obj)}{Z:St}{H:Hp}{s:Shared}{a b:Addr}{A:Around}
theorem xpz {prog:Program}{w:World}{K:Type} [DecidableEq K] {knd:KeyKind prog w K}{es:List DictEntry}{vs:List (K × Value)} (h:Pairs knd es vs):∀{i:Nat}{e:DictEntry},es[i]?=some e->∃ kv,vs[i]?=some kv/\knd.is kv.1 e.key=true/\e.val=kv.2:=by
 induction h with
 | nil=>intro i e h; simp at h
 | cons h1 h2 _ ih =>
  intro i e he;cases i with
  | zero =>
   simp at he;subst he;exact⟨_,rfl,h1,h2⟩
  | succ i=>exact ih (by simpa using he)
end
theorem xdo:∀{us:List Value}{ss:List Str},StrsAre us ss->Vals (ss.map V.str) us
 | _,_,.nil=>.nil
 | _,_,.cons y t h=>.cons ⟨t,rfl⟩ (xdo h)
theorem xhl:∀{ss:List Str}{us:List Value},Vals (ss.map V.str) us->StrsAre us ss
 | [],_,.nil=>.nil
 | x::ss,_,.cons r rs=>by
  obtain⟨t,rfl⟩:=r;exact .cons x t (xhl rs)
theorem xhj {X:Cx}{pins:List (Addr × Obj)}{Z:St}{H:Hp}{s:Shared}{h1:Heap}{tk:Nat}{Q:VK}{us:List Value}{ss:List Str} (I1:Inv X pins Z H { s with heap:=h1,toks:=tk }) (hS:StrsAre us ss) (few:us.length<64)
    (q:∀(l:Addr) (ss':List Str),H l=none->ss'.Perm ss->sortedS ss'=true->Q (.ref l) (upd H l (.lst (ss'.map V.str)))) :
    wpAny (model X.prog X.w) X.A.in1 (newList us>>=fun l=>holding [l] (call (.builtin "list.sort") [l] [])>>=fun _=>ret l) (fun fin s'=>∃ v,fin=Fin.done (Flow.ret v)/\EP X pins Z Q v s') X.xe { s with heap:=h1,toks:=tk }:=by
  have sz:us.length<=sizeLine:=JF (Jc few (by decide));have ln:=(xdo hS).length;rw[Za] at ln;have I2:=I1.lnew (t':=tk) (xdo hS) (by rw[Za,ln]; exact sz);refine Zc (wpAny_newList ?_ sz);have fr:H h1.objs.size=none:=I1.fresh;have gl:(h1.push { cls:=.type "list",data:=.seq us.toArray }).get? h1.objs.size=some (seqObj "list" us.toArray 0):=Z5 _ rfl;refine Zc (Jm (Ye slot_list_sort ⟨_,gl,rfl⟩ entry_list_sort (list_sort_treeK strKind_oneLt gl hS.keysOf (fun v₁ v₂ r e=>keyKind_strs (by rw[<- e]; exact hS)) few fun st a1 a2=>?_) (args_list_sort _)));obtain⟨ss',b1,b2,b3⟩:=sorted_out_str hS a1 a2;refine⟨_,rfl,Zl ⟨_,rfl,?_⟩⟩;have J1:=I2.lset (l:=h1.objs.size) (its:=us) (its':=[]) (ys:=[]) (f:=fun _=>#[]) (t':=tk) xf gl rfl .nil (ZW _);have J2:=J1.kept (t':=tk) (h':=(((h1.push { cls:=.type "list",data:=.seq us.toArray }).update h1.objs.size (J7 fun _=>#[])).push (seqObj "tuple" us.toArray 0)).push (seqObj "list" #[] 0)) fun b u e=>Zh _ (Zh _ e);obtain⟨z9,its9,n9,r9,hl9,e9⟩:=J2.lstM xf;have l':ss'.length=ss.length:=b2.length_eq;have J3:=J2.lset (l:=h1.objs.size) (its:=its9) (its':=((arrOf st).map (·.2)).toList) (ys:=ss'.map V.str) (f:=fun _=>(arrOf st).map (·.2)) (t':=tk) xf e9 (show (arrOf st).map (·.2)=_ from (Array.toArray_toList ..).symm) (xdo b1) (by rw[Za,l',ln]; exact sz);rw[xe2,xe2] at J3;exact⟨.ref h1.objs.size,_,J3,rfl,q _ ss' fr b2 b3⟩
theorem xmq:∀{us:List Value}{ss:List Str},us.length=ss.length->(∀(i:Nat) (v:Value) (x:Str),us[i]?=some v->ss[i]?=some x->∃ t,v=Q2 x t)->StrsAre us ss
 | [],[],_,_=>.nil
 | [],_::_,h,_=>by cases h
 | _::_,[],h,_=>by cases h
 | u::us,x::ss,h,f=>by
  obtain⟨t,rfl⟩:=f 0 u x rfl rfl;exact .cons x t (xmq (by simpa using h) fun i v y h1 h2=>f (i+1) v y (by simpa using h1) (by simpa using h2))
inductive xq3 (xs:List V) (H:Hp) (Q:VK):Prop
 | mk (d:Addr) (ss:List Str) (e_:xs=[.ref d]) (r_:(H d=some (.lst (ss.map V.str))\/∃ kvs:List (Key × V),H d=some (.dK kvs)/\kvs.map (·.1)=ss.map J6)/\ss.length<64/\∀(l:Addr) (ss':List Str),H l=none->ss'.Perm ss->sortedS ss'=true->Q (.ref l) (upd H l (.lst (ss'.map V.str))))
theorem xed {X:Cx} (hc:X.calm=true):xby X (.builtin "sorted") xq3:=by
 intro pins s Z H xs us Q I r h;obtain⟨d,ss,rfl,alt,hl,q⟩:=h;obtain⟨u,rfl,ru⟩:=xb6 r;obtain rfl:u=Zm d:=ru;rcases alt with e|⟨kvs,e,ek⟩
 .obtain ⟨z,its,n,r1,hL,el⟩:=I.lstM e;have ln:=r1.length;rw[Za] at ln;refine Y4 kind_sorted plain_sorted entry_sorted (args_sorted1 _) ?_;unfold Wc;refine Zc (Zl (show wpAny _ _ (collect (.ref d)>>=_) _ _ _ from Zc (wpAny_collect_seq d (T:="list") (.inl rfl) el rfl rfl (fun h1 keep=>?_) (by rw[Zw,<- ln]; exact JF (Jc hl (by decide))))));exact xhj (us:=its) (I.kept keep) (xhl r1) (by omega) q
 .obtain ⟨z,hsys,vs,rel,o,es,ep,ho,hx,hdat,hk,hp,hn⟩:=xgn I.hok e;have ln:=rel.length;have le:=hp.length;have esz:es.size=vs.length:=by simpa using le
  refine Y4 kind_sorted plain_sorted entry_sorted (args_sorted1 _) ?_;unfold Wc;refine Zc (Zl ?_);show wpAny _ _ (collect (.ref d)>>=_) _ _ _;refine Zc (kdu_collect (xl7 hsys hx hdat) (I.ok.hd hc) ho (by rw[esz,<- ln]; exact z) fun h1 tk acc keep items=>?_);have hs:StrsAre acc.toList ss:=by
   refine xmq (by rw[JC,items.1,esz,<- ln,<- Za (f:=(·.1)) (as:=kvs),ek,Za]) fun i v x hv hx=>?_;have hv':acc[i]?=some v:=by rw[<- Jx]; exact hv
   obtain⟨en,he,ev⟩:=items.2 i v hv';obtain⟨kv,h1,h2,_⟩:=xpz hp (i:=i) (e:=en) (by rw[Jx]; exact he);have hk2:(kvs.map (·.1))[i]?=some (J6 x):=by rw[ek,Zg,hx]; rfl
   rw[rel.keys,Zg,h1,YB] at hk2;have e3:kv.1=J6 x:=Jw.inj hk2;rw[e3] at h2;obtain⟨t,et⟩:=Value.isStrOf_shape (x:=x) (v:=en.key) h2;exact⟨t,by rw[ev]; exact et⟩
  exact xhj (I.kept keep) hs (by rw[(xdo hs).length.symm,Za]; exact hl) q
end L2
namespace L2
open PySem PySem.Spec PyProof.Rows XL PySem.W PySem.MeetsSeq3
end L2
namespace L2
open PySem PySem.Spec PyProof.Rows XL PySem.W
def Ites (x:Str):It :=
 ⟨fun i _=>i<x.cps.toList.length,fun i H v H'=>∃ p c,x.cps.toList[i]?=some c/\v=.ref p/\H p=none/\H'=upd H p (.tup [.int i,sgn c]),fun i _=>x.cps.toList.length<=i⟩
theorem xlq {P:Program}{w:World}{K:Zd}{elts:List Expr}{x1}{tpos:Pos}{x:Str} (t:Tok) (e it:Addr) (hei:e≠it) :
    Turn P w K (.Tuple elts x1 tpos) (Ites x) [e,it] e (fun i h=>(∃ old,IsEnum h e it i old)/\h.IsStrIter it "str_ascii_iterator" x t i) where
  mem:=by simp
  obj:=fun i h st b hb=>by
    obtain⟨⟨old,he⟩,⟨o1,e1,c1,d1⟩⟩:=st;simp only[Z1,Jg,or_false] at hb;rcases hb with rfl|rfl
    . exact⟨_,he,fun v k=>by have k':QX _=Data.cell v:=k; cases k'⟩
    . exact⟨_,e1,fun v k=>by rw[d1] at k; cases k⟩
  keep:=fun i h h' ⟨⟨old,he⟩,h1⟩ k=>⟨⟨old,k e (by simp) _ he⟩,xmj h1 fun o z=>k it (by simp) o z⟩
  item:=by
    intro X hP hw hK hc i pins s Z H E I hf st hg;subst hP hw hK;have lt:i<x.cps.toList.length:=hg;obtain⟨⟨old,he⟩,h1⟩:=id st;refine wpAny_pyNext_enum_itemD (Draws.strAscii (A:=X.A.in1) (I.ok.hd hc) it x t) he h1 (by simpa using lt) hei (by simp[hei]) fun y h' tk py ho hst' hT hsz hk=>?_;obtain⟨c,u,hv,rfl⟩:=py;have hx:x.cps.toList[i]?=some c:=by simpa using hv
    refine⟨_,rfl,wpAny_letOwnedTupleGo_enum (s:={ s with heap:=h',toks:=tk+1 }) ho fun h'' he' hs'=>?_⟩;have elt:e<s.heap.objs.size:=Zq he;have pne:s.heap.objs.size≠e:=Yj elt;have kk:∀ b o,b∉[e,it]->s.heap.get? b=some o->h''.get? b=some o:=fun b o hb g=>by
      simp only[Z1,Jg,or_false,not_or] at hb;exact (hs'.2 b hb.1).trans (hk b o hb.1 (by simpa using hb.2) g)
    have I1:Inv X pins Z H { s with heap:=h'',toks:=tk+1 }:=I.turnedL kk hf;obtain⟨n0,nL,nC,nP⟩:=I.size_lt (Zj s.heap.objs.size);have hp:h''.get? s.heap.objs.size=some { cls:=.type "tuple",data:=.seq #[.int i tk,.str ⟨#[c]⟩ u] }:=(hs'.2 _ pne).trans hT;refine⟨.ref s.heap.objs.size,upd H s.heap.objs.size (.tup [.int i,sgn c]),I1.adopt n0 I.sz nL nC nP ⟨by show 2<=sizeLine; decide,[.int i tk,.str ⟨#[c]⟩ u],.cons ⟨_,rfl⟩ (.cons ⟨_,rfl⟩ .nil),_,hp,rfl,_,rfl⟩,rfl,
      ⟨_,c,hx,rfl,n0,rfl⟩,?_,fun b hb=>?_⟩
    . exact⟨⟨_,by simpa using he'⟩,xmj hst' fun o y=>(hs'.2 it (ZI hei)).trans y⟩
    . obtain⟨o,ho⟩:∃ o,s.heap.get? b=some o:=by
        obtain⟨o1,e1,_⟩:=h1;simp only[Z1,Jg,or_false] at hb;rcases hb with rfl|rfl
        . exact⟨_,he⟩
        . exact⟨_,e1⟩
      rw[xh (ZK (Zq ho))];exact (hf b hb).1
  done:=by
    intro X hP hw hK hc i pins s Z H E I hf st hg;subst hP hw hK;have ge:x.cps.toList.length<=i:=hg;obtain⟨⟨old,he⟩,h1⟩:=id st;have fin:∀ h',Heap.ExtBut it s.heap h'->(none:Option Value)=none/\Inv X pins Z H { s with heap:=h' }:=fun h' hx=>⟨rfl,I.turnedL (t':=s.toks) (fun b o hb g=>by
      simp only[Z1,Jg,or_false,not_or] at hb;exact hx b o hb.2 g) hf⟩
    have hT:s.TypeIs (.ref e) "enumerate":=⟨_,he,rfl⟩
    unfold pyNext;refine Zc (Qw (YG (name:=Zb "__next__") hT F.slot_enumerate_next
      (Ye F.slot_enumerate_next hT F.entry_enumerate_next ?_ (F.args_enumerate_next_1 _))))
    show wpAny _ _ (field (.ref e) 2>>=_) _ _ _;refine Zc (Yv he rfl (x:=.ref it) rfl ?_);refine Zc (wpAny_nextOf_ascii_end (I.ok.hd hc) h1 (by simpa using ge) fun h' x he' hx'=>?_);obtain⟨o,ho,hc⟩:=hx';refine Zc (Q3 (T:="StopIteration") (b:=true) ⟨o,ho,hc⟩ isSubtype_stop ?_);exact Zl (fin _ he')
  self:=fun _ _ _ _ _ ⟨⟨_,st⟩,_⟩ h=>Qs st h
def xta (ta:TA):TI:=fun Z H R=>ta Z H fun vs H1=>∃ x:Str,vs=[.str x]/\x.cps.all (·<128)=true/\R (Ites x) H1
section
variable {X:Cx}{elts:List Expr}{x1:_}{tpos:Pos}
theorem xoa {a:Expr}{ta:TA}{p pos:Pos} (hg:Gl X "enumerate") (hm:X.mg "enumerate"=none) (ha:PA X [a] ta) (hs:starEach [a] X.env=[(false,eval a X.env)]:=by rfl) :
    PI X (.Tuple elts x1 tpos) (.Call (.Name "enumerate" p) [a] [] pos) (xta ta):=by
  intro pins s Z H R I h;refine Call_ (xcw I hg hm PyProof.Rows.Boot.«enumerate» (Jb (thn (ha pos pins s Z H _ I h) fun us s1 ⟨vs,H1,I1,r1,q1⟩=>?_) hs rfl));obtain⟨x,e,hx,q⟩:=q1;subst e;obtain⟨u,rfl,t,rfl⟩:=xb6 r1;refine call_enumerate_str fun h' he h1 hsz hk=>?_;have h1:h'.IsStrIter s1.heap.objs.size "str_ascii_iterator" x t 0:=by simpa [strIterType,hx] using h1
  refine Qs (s:={ s1 with heap:=h' }) he ?_;have I2:Inv X pins Z H1 { s1 with heap:=h' }:=I1.kept (t':=s1.toks) hk;refine⟨_,[s1.heap.objs.size+1,s1.heap.objs.size],_,_,H1,rfl,I2,xlq t _ _ (xpe (by omega)),⟨⟨_,he⟩,h1⟩,fun b hb=>?_,q⟩;have hb':s1.heap.objs.size<=b:=by
    simp only[Z1,Jg,or_false] at hb;rcases hb with rfl|rfl
    . exact Nat.le_add_right _ 1
    . exact Zj _
  exact I1.fpOk hb' (I1.hok.fresh hb')
end
theorem xjh {H:Hp}{p:Addr}{o:HO} (hp:H p=none):Same H (upd H p o):=fun b u e=>by
 rw[xh (xi e hp)];exact e
section
variable {n:Nat}{g:TG}{Z:St}{fr:List Nat}{te:TE}{l:Addr}{H1:Hp}{Q:VK}
theorem xlg {x:Str} (hlen:x.cps.toList.length<sizeLine) (hl:H1 l=none) (F:Nat->V->Hp->Prop) (stab:∀ i y H H',Tp H H'->F i y H->F i y H')
    (step:∀(i:Nat) (c:Nat) (p:Addr) (H2:Hp),x.cps.toList[i]?=some c->Same H1 H2->H2 p=none->∀(N:V->Hp->Prop),(∀ y H',Same (upd H2 p (.tup [.int i,sgn c])) H'->F i y H'->N y H') ->
      g (.ref p) (blk0 Z fr n) (upd H2 p (.tup [.int i,sgn c])) fun σ' H3=>te σ' H3 N)
    (fin:∀ ys H2,Same H1 H2->H2 l=some (.lst ys)->ys.length=x.cps.toList.length->(∀(i:Nat) (y:V),ys[i]?=some y->F i y H2)->Q (.ref l) H2):xc5 (Ites x) n g Z fr xdk te l H1 Q:=by
  refine xdi x.cps.toList.length (fun i ys H2=>Same H1 H2/\H2 l=some (.lst ys)/\ys.length=i/\∀(j:Nat) (y:V),ys[j]?=some y->F j y H2) ?_ ?_ ?_ ?_
  . exact⟨fun b u e=>by rw[xh (xi e hl)]; exact e,xf,rfl,fun j y e=>by simp at e⟩
  . rintro i ys H2 lt _
    exact lt
  . rintro i ys H2 v H3 lt ⟨s,el,ly,f⟩ ⟨p,c,hc,rfl,hp,rfl⟩ N hN
    have e1:upd H2 p (.tup [.int i,sgn c]) l=some (.lst ys):=by
      rw[xh (xi el hp)];exact el
    have s1:Same H2 (upd H2 p (.tup [.int i,sgn c])):=xjh hp;refine xg2 (i:=i) (step i c p H2 hc s hp _ fun y H' s' hf=>?_);have el':=s' _ _ e1;refine⟨el',by omega,hN _ _ ⟨fun b u e=>?_,xf,by rw[Zo,ly]; rfl,fun j z e=>?_⟩⟩
    . rw[xh (xi e hl)]
      exact s' _ _ (s1 _ _ (s _ _ e))
    . by_cases k:j<ys.length
      . rw[Jj k] at e
        exact stab _ _ _ _ (((Same.tp s1).trans (Same.tp s')).trans (xht el')) (f j z e)
      . rw[Jt (by omega)] at e
        cases hj:j-ys.length with
        | zero =>
          rw[hj] at e;simp at e;subst e;have:j=i:=by omega
          subst this;exact stab _ _ _ _ (xht el') hf
        | succ m =>
          rw[hj] at e;simp at e
  . rintro ys H2 ⟨s,el,ly,f⟩
    exact⟨Zj _,fin ys H2 s el ly f⟩
theorem xlr {d:Addr}{ob:Obj}{kvs:List (Key × V)}{tc:TT} (hd:H1 d=some (.frz ob (.dK kvs))) (hlen:kvs.length<sizeLine) (hl:H1 l=none) (q:Key × V->Bool)
    (step:∀(i:Nat) (k:Key) (x:V) (p:Addr) (H2:Hp),kvs[i]?=some (k,x)->Same H1 H2->H2 p=none->∀(N:V->Hp->Prop) (M:Hp->Prop),(∀ H',Same (upd H2 p (.tup [kV k,x])) H'->q (k,x)=true->N x H')->(∀ H',Same (upd H2 p (.tup [kV k,x])) H'->q (k,x)=false->M H') ->
      g (.ref p) (blk0 Z fr n) (upd H2 p (.tup [kV k,x])) fun σ' H3=>tc σ' H3 fun b H4=>if b=true then te σ' H4 N else M H4)
    (fin:∀ H2,Same H1 H2->H2 l=some (.lst ((kvs.filter q).map (·.2)))->Q (.ref l) H2):xc5 (Iti d ob kvs) n g Z fr tc te l H1 Q:=by
  refine xdi kvs.length (fun i ys H2=>Same H1 H2/\H2 l=some (.lst ys)/\ys=((kvs.take i).filter q).map (·.2)) ?_ ?_ ?_ ?_
  . exact⟨fun b u e=>by rw[xh (xi e hl)]; exact e,xf,rfl⟩
  . rintro i ys H2 lt ⟨s,_⟩
    exact⟨s _ _ hd,lt⟩
  . rintro i ys H2 v H3 lt ⟨s,el,ey⟩ ⟨p,k,x,ex,rfl,hp,rfl⟩ N hN
    have e1:upd H2 p (.tup [kV k,x]) l=some (.lst ys):=by
      rw[xh (xi el hp)];exact el
    have s1:Same H1 (upd H2 p (.tup [kV k,x])):=fun b u e=>xjh hp _ _ (s _ _ e);have ly:ys.length<=i:=by
      rw[ey,Za];refine Zy (QU _ _) ?_;rw[Jh];omega
    refine step i k x p H2 ex s hp _ _ (fun H' s' qt=>?_) (fun H' s' qf=>?_)
    . have el':=s' _ _ e1
      refine⟨el',by omega,hN _ _ ⟨fun b u e=>?_,xf,?_⟩⟩
      . rw[xh (xi e hl)]
        exact s' _ _ (s1 _ _ e)
      . rw[ey,ZV,ex,Jz,ZB,show (some (k,x)).toList=[(k,x)] from rfl,Ji qt]
        rfl
    . refine hN _ _ ⟨fun b u e=>s' _ _ (s1 _ _ e),s' _ _ e1,?_⟩
      rw[ey,ZV,ex,Jz,show (some (k,x)).toList=[(k,x)] from rfl,Jr (by rw[qf]; decide)];rw[List.filter_nil,Jy]
  . rintro ys H2 ⟨s,el,ey⟩
    rw[Yf] at ey;exact⟨⟨s _ _ hd,Zj _⟩,fin H2 s (ey▸el)⟩
end
section
variable {d:Addr}{ob:Obj}{kvs:List (Key × V)}{g:TG}{tb:TS}{D:Ends}{Z:St}{H:Hp}
theorem xo6 (Pv:Nat->St->Hp->Prop) (h0:Pv 0 Z H) (hl:∀ i Z H,i<=kvs.length->Pv i Z H->H d=some (.frz ob (.dK kvs)))
    (hs:∀ i k x p Z H,kvs[i]?=some (k,x)->H p=none->Pv i Z H->g (.ref p) Z (upd H p (.tup [kV k,x])) fun σ2 H2=>tb { D with nx:=Pv (i+1),ct:=Pv (i+1),bk:=D.nx } σ2 H2) (hd:∀ Z H,Pv kvs.length Z H->D.nx Z H) :
    ∃ W:Nat->Nat->St->Hp->Prop,(∃ m,W 0 m Z H)/\∀ i m Z H,W i m Z H ->
      ((Iti d ob kvs).stop i H/\D.nx Z H)\/((Iti d ob kvs).go i H/\∃ N:St->Hp->Prop,(∀ σ' H',N σ' H'->∃ m',m'<m/\W (i+1) m' σ' H')/\∀ x H',(Iti d ob kvs).yld i H x H'->g x Z H' fun σ2 H2=>tb { D with nx:=N,ct:=N,bk:=D.nx } σ2 H2):=by
  refine⟨fun i m Z H=>m=kvs.length-i/\i<=kvs.length/\Pv i Z H,⟨kvs.length,by simp,ZW _,h0⟩,?_⟩;rintro i m Z H ⟨rfl,hi,p⟩;have q:=hl i Z H hi p;by_cases hlt:i<kvs.length
  . refine .inr ⟨⟨q,hlt⟩,Pv (i+1),fun σ' H' p'=>⟨kvs.length-(i+1),by omega,rfl,hlt,p'⟩,fun x H' y=>?_⟩
    obtain⟨pa,k,x',e1,rfl,hn,rfl⟩:=y;exact hs i k x' pa Z H e1 hn p
  . have e:i=kvs.length:=by omega
    subst e;exact .inl ⟨⟨q,Zj _⟩,hd Z H p⟩
end
section
variable {X:Cx}
def rSlS:V->Option Int->Option Int->Hp->VK->Prop:=fun x lo hi H Q=>∃ z:Str,x=.str z/\z.length<=sizeLine/\Q (.str (Qf z lo hi)) H
theorem xk3:SlR X rSlS:=by
 intro pins s Z H x v vl vu lo hi sl Q I rx hs pl pu h;obtain⟨z,rfl,hz,q⟩:=h;obtain⟨t,rfl⟩:=rx;refine⟨"str",_,F.slot_str_getitem.lookup,typeIs_str _ _ _,?_⟩;have fin:∀ t' k,EP X pins Z Q (.str (Qf z lo hi) t') { s with toks:=k }:=fun t' k=>⟨.str _,H,I.tok k,⟨_,rfl⟩,q⟩
 have le:=Zy (Txt.slice_le z lo hi) hz;cases pl with
 | none =>
  cases pu with
  | none=>exact YF (l:=none) (u:=none) (st:=none) hs rfl (QK ⟨le,fin⟩)
  | int j uj=>exact YF (l:=none) (u:=some (j,uj)) (st:=none) hs rfl (QK ⟨le,fin⟩)
 | int i ui =>
  cases pu with
  | none=>exact YF (l:=some (i,ui)) (u:=none) (st:=none) hs rfl (QK ⟨le,fin⟩)
  | int j uj=>exact YF (l:=some (i,ui)) (u:=some (j,uj)) (st:=none) hs rfl (QK ⟨le,fin⟩)
end
theorem xhq {l:List Nat}{n:Nat} (h:n<=l.length):Qf (ofL l) none (some (n:Int))=ofL (l.take n):=by
 have e0:PySem.Builtin.Str.strSliceIndices none (some (n:Int)) 1 (ofL l).length=PySem.Builtin.Str.strSliceIndices (some ((0:Nat):Int)) (some (n:Int)) 1 (ofL l).length:=by
  simp only[PySem.Builtin.Str.strSliceIndices,show ((1:Int)>0)=True from by simp,if_true]
  congr 1
 have hl:(ofL l).length=l.length:=by simp[ofL,YT]
 unfold Qf;rw[e0];split
 .rename_i c
  rw[StrLaws.strSliceIndices_plain (ZW _) (by rw[hl]; exact h),Za,Zs,hl] at c;have:n=l.length:=by simpa using c
  rw[this,Yf]
 .rw [StrLaws.sliced_plain _ (ZW _) (by rw[hl]; exact h),xac,List.drop_zero,Nat.sub_zero];rfl
theorem xm7 {l:List Nat}{n:Nat} (h:n<=l.length):Qf (ofL l) (some (n:Int)) none=ofL (l.drop n):=by
 have hl:(ofL l).length=l.length:=by simp[ofL,YT]
 have e0:PySem.Builtin.Str.strSliceIndices (some (n:Int)) none 1 (ofL l).length=PySem.Builtin.Str.strSliceIndices (some (n:Int)) (some ((l.length:Nat):Int)) 1 (ofL l).length:=by
  rw[hl];simp only[PySem.Builtin.Str.strSliceIndices,show ((1:Int)>0)=True from by simp,if_true]
  congr 1
  rw[if_neg (by omega)];omega
 unfold Qf;rw[e0];split
 .rename_i c
  rw[StrLaws.strSliceIndices_plain h (by rw[hl]; exact Zj _),Za,Zs,hl] at c;have:l.length-n=l.length:=by simpa using c
  by_cases z:n=0
  .rw [z,List.drop_zero]
  .have:l.length=0:=by omega
   have:l=[]:=YH.mp this;rw[this,List.drop_nil]
 .rw [StrLaws.sliced_plain _ h (by rw[hl]; exact Zj _),xac,ZR (by rw[JP]; exact Zj _)];rfl
mutual
def pyD:DV->PyData
 | .non=>.none
 | .bl b=>.bool b
 | .int i=>.int i
 | .str x=>.str x
 | .tup xs=>.tuple (pyDs xs)
 | .lst xs=>.list (pyDs xs)
def pyDs:List DV->List PyData
 | []=>[]
 | x::r=>pyD x::pyDs r
end
theorem xhc:∀ xs:List DV,pyDs xs=xs.map pyD
 | []=>by simp[pyDs]
 | x::r=>by simp[pyDs,xhc r]
section
variable {X:Cx}{pins:List (Addr × Obj)}{Z:St}{H:Hp}{s:Shared}
theorem xft {h:Heap}:∀{us:List Value}{ds:List DV},us.length=ds.length->(∀(j:Nat) (u:Value) (d:DV),us[j]?=some u->ds[j]?=some d->∃ as,Reads h u (pyD d) as)->∃ as,ReadsAll h us (pyDs ds) as
 | [],[],_,_=>⟨_,by rw[pyDs]; exact .nil⟩
 | [],_::_,e,_=>by cases e
 | _::_,[],e,_=>by cases e
 | u::us,d::ds,e,f=>by
  obtain⟨a,ha⟩:=f 0 u d rfl rfl;obtain⟨b,hb⟩:=xft (us:=us) (ds:=ds) (by simpa using e) fun j u d h1 h2=>f (j+1) u d (by simpa using h1) (by simpa using h2)
  exact⟨_,by rw[pyDs]; exact .cons ha hb⟩
theorem xg8:∀{xs:List V}{us:List Value},Vals xs us->∀{j:Nat}{u:Value},us[j]?=some u->∃ x,xs[j]?=some x/\RelV x u
 | _,_,.nil,j,u,h=>by simp at h
 | _,_,.cons r rs,0,u,h=>by
  simp at h;subst h;exact⟨_,rfl,r⟩
 | _,_,.cons r rs,j+1,u,h=>by
  obtain⟨x,h1,h2⟩:=xg8 rs (j:=j) (u:=u) (by simpa using h);exact⟨x,by simpa using h1,h2⟩
theorem xqu (I:Inv X pins Z H s) {n:Nat}{x:V}{d:DV} (h:Dv X.K H n x d):∀{u:Value},RelV x u->∃ as,Reads s.heap u (pyD d) as:=by
 induction h with
 | non=>intro u r; cases r; exact⟨_,by rw[pyD]; exact .none⟩
 | bl=>intro u r; cases r; exact⟨_,by rw[pyD]; exact .bool _⟩
 | int=>intro u r; obtain⟨t,rfl⟩:=r; exact⟨_,by rw[pyD]; exact .int _ _⟩
 | str=>intro u r; obtain⟨t,rfl⟩:=r; exact⟨_,by rw[pyD]; exact .str _ _⟩
 | @tup n a xs ds ha hl h ih =>
  intro u r;obtain rfl:u=Zm a:=r;obtain⟨its,rv,⟨o,e,hc,k,hd⟩,_⟩:=I.tuple ha;have l1:=rv.length;obtain⟨as,ra⟩:=xft (h:=s.heap) (us:=its) (ds:=ds) (by omega) fun j u d h1 h2=>by
   obtain⟨x,hx,rx⟩:=xg8 rv h1;exact ih j x d hx h2 rx
  exact⟨as,by rw[pyD]; exact .tuple e hc hd (by simpa using ra)⟩
 | @lst n a xs ds ha hl h ih =>
  intro u r;obtain rfl:u=Zm a:=r;obtain⟨its,rv,⟨o,k,e,hc,_,hd⟩,_⟩:=I.list ha;have l1:=rv.length;obtain⟨as,ra⟩:=xft (h:=s.heap) (us:=its) (ds:=ds) (by omega) fun j u d h1 h2=>by
   obtain⟨x,hx,rx⟩:=xg8 rv h1;exact ih j x d hx h2 rx
  exact⟨_,by rw[pyD]; exact .list e hc hd (by simpa using ra)⟩
end
section
variable {X:Cx}
theorem xog {K:Zd}{H:Hp}{n:Nat}{x:V}{d:DV} (h:Dv K H n x d):(pyD d).depth<=n:=by
 have all:∀(n:Nat) (ds:List DV),(∀ d∈ds,(pyD d).depth<=n)->PyData.depthAll (pyDs ds)<=n:=fun n ds=>by
  induction ds with
  | nil=>intro _; rw[pyDs]; simp[PyData.depthAll]
  | cons d r ih =>
   intro h;rw[pyDs];have h1:=h d (Zr ..);have h2:=ih fun z hz=>h z (Zt _ hz);simp only[PyData.depthAll];omega
 induction h with
 | non=>rw[pyD]; simp[Qe]
 | bl=>rw[pyD]; simp[Qe]
 | int=>rw[pyD]; simp[Qe]
 | str=>rw[pyD]; simp[Qe]
 | @tup n a xs ds ha hl h ih =>
  rw[pyD];have z:=all n ds fun d hd=>by
   obtain⟨j,hj⟩:=Yp.mp hd;have lt:=(Zi.mp hj).1;exact ih j _ d (Zf (by omega)) hj
  simp only[Qe];omega
 | @lst n a xs ds ha hl h ih =>
  rw[pyD];have z:=all n ds fun d hd=>by
   obtain⟨j,hj⟩:=Yp.mp hd;have lt:=(Zi.mp hj).1;exact ih j _ d (Zf (by omega)) hj
  simp only[Qe];omega
def xj5 (K:Zd):List V->Hp->VK->Prop:=fun xs H Q=>∃ x,xs=[x]/\((∃ n d,Dv K H n x d/\n<=8/\(pyD d).showable=true/\(pyD d).hasDict=false/\(pyD d).shown.length<=sizeLine/\Q (.str (pyD d).shown) H)\/∃ a,x=.ref a/\H a=some (.dK [])/\Q (.str (PyData.dict []).shown) H)
theorem xi0 (hg:X.A.guards=some []) (hu:X.A.units+20<cLine):xby X (.builtin "repr") (xj5 X.K):=by
 intro pins s Z H xs us Q I r h;obtain⟨x,rfl,h⟩:=h;obtain⟨u,rfl,ru⟩:=xb6 r;have go:∀(a:Addr) (d:PyData) (as:List Addr),Reads s.heap (.ref a) d as->d.showable=true->(d.hasDict=true->sysModules∉as)->d.depth<=8->d.shown.length<=sizeLine->Q (.str d.shown) H->wpAny (model X.prog X.w) X.A (call (.builtin "repr") [.ref a]) (EP X pins Z Q) X.xe s:=fun a d as rd sh sm dp sz q =>
  repr_of_reads' rd sh sm hg (by omega) (fun _ _ e=>e) (fun h' u tk hk=>⟨.str d.shown,H,I.kept hk,⟨u,rfl⟩,q⟩) sz
 rcases h with⟨n,d,dv,hn,sh,nd,sz,q⟩|⟨a,rfl,ha,q⟩
 .obtain ⟨as,rd⟩:=xqu I dv ru;have dp:=xog dv;cases dv with
  | non=>cases ru; rw[pyD,PyData.shown_none] at q; exact PySem.P.repr_of_none ⟨.str _,H,I.tok _,⟨_,rfl⟩,q⟩
  | bl=>cases ru; rw[pyD,PyData.shown_bool] at q; exact PySem.P.repr_of_bool ⟨.str _,H,I.tok _,⟨_,rfl⟩,q⟩
  | int=>obtain⟨t,rfl⟩:=ru; rw[pyD] at sh q; rw[PyData.shown_int] at q; exact PySem.P.repr_of_int (by simpa [YA] using sh) ⟨.str _,H,I.tok _,⟨_,rfl⟩,q⟩
  | str=>obtain⟨t,rfl⟩:=ru; rw[pyD,PyData.shown_str] at q sz; exact PySem.P.repr_of_str ⟨.str _,H,I.tok _,⟨_,rfl⟩,q⟩ sz
  | tup ha hl h=>obtain rfl:u=Zm _:=ru; exact go _ _ as rd sh (fun z=>by rw[nd] at z; cases z) (by omega) sz q
  | lst ha hl h=>obtain rfl:u=Zm _:=ru; exact go _ _ as rd sh (fun z=>by rw[nd] at z; cases z) (by omega) sz q
 .obtain rfl:u=Zm a:=ru;obtain⟨_,na,va,ra,da⟩:=xgn I.hok ha;have ev:va=[]:=by cases ra; rfl
  subst ev;obtain⟨oa,es,ep,ga,xa,hd,ka,pa,nda⟩:=id da;have e0:es=#[]:=by
   have:=pa.length;simpa using this
  subst e0;refine go a (.dict []) [a] (Reads.dict (kvs:=[]) (as:=[]) (bs:=[]) ga xa.1 hd .nil .nil) rfl (fun _ z=>?_) (by decide) (by decide +kernel) q;rw[Z0.mp z] at na;simp at na
def xv7:R2:=fun x y H Q=>∃ i n,x=.str i/\y=.int n/\0<=n/\n<=1000/\i.length<=1000/\Q (.str (Txt.mul i n)) H
theorem xsu:OpR X (binaryOp .Mult) xv7:=by
 intro pins s Z H x y v u Q I rx ry h;obtain⟨i,n,rfl,rfl,n0,n1,hl,q⟩:=h;obtain⟨t,rfl⟩:=rx;obtain⟨t',rfl⟩:=ry;refine PySem.SB.mul ?_ fun t' k=>⟨.str (Txt.mul i n),H,I.tok _,⟨_,rfl⟩,q⟩
 refine⟨?_,fun h1 _=>?_,fun h1 _=>?_⟩
 .rw [Bool.or_eq_false_iff];exact⟨decide_eq_false (by omega),decide_eq_false (by omega)⟩
 .have:(9223372036854775:Int)<=(2 ^ 63-1) / n:=by
   rw[Int.le_ediv_iff_mul_le (by omega)];have:(9223372036854775:Int)*n<=9223372036854775*1000:=Int.mul_le_mul_of_nonneg_left n1 (by decide);omega
  omega
 .unfold Builtin.Str.tooLong;refine decide_eq_false ?_;have h2:n.toNat<=1000:=by omega
  have h3:i.length*n.toNat<=1000*1000:=Ql hl h2;have h4:1000*1000<=sizeLine:=by decide
  omega
end
end L2
namespace Geo
def dn (y r:Int):Int:=if y<r then 1 else -1
def upN (y r:Int):Nat:=if y<r then (r-y).toNat else (y-r).toNat
def wayI (b:Bool):Int:=if b then -1 else 1
def lvN (w x:Int) (b:Bool):Nat:=if b then (x+1).toNat else (w+2-x).toNat
def upL (x y r:Int):List (Int × Int):=(Z3 (upN y r)).map fun (i:Nat)=>(x,y+(i:Int)*dn y r)
def lvL (w x:Int) (b:Bool) (r:Int):List (Int × Int):=(Z3 (lvN w x b)).map fun (i:Nat)=>(x+(i:Int)*wayI b,r)
def cells (w x y:Int) (b:Bool) (r:Int):List (Int × Int):=upL x y r++lvL w x b r
theorem mem_up {x y r u v:Int}:(u,v)∈upL x y r↔u=x/\((y<=v/\v<r)\/(r<v/\v<=y)):=by
 unfold upL upN dn;rw[Ze];constructor
 .rintro ⟨i,hi,e⟩;rw[ZQ] at hi;injection e with e1 e2
  subst e1;refine⟨rfl,?_⟩;split at hi
  .rename_i h
   rw[if_pos h] at e2;left; omega
  .rename_i h
   rw[if_neg h] at e2;right; omega
 .rintro ⟨rfl,h|h⟩
  .refine ⟨(v-y).toNat,?_,?_⟩
   .rw [ZQ,if_pos (by omega)]; omega
   .rw [if_pos (by omega)];have:((v-y).toNat:Int)=v-y:=by omega
    rw[this]; congr 1; omega
  .refine ⟨(y-v).toNat,?_,?_⟩
   .rw [ZQ,if_neg (by omega)]; omega
   .rw [if_neg (by omega)];have:((y-v).toNat:Int)=y-v:=by omega
    rw[this]; congr 1; omega
theorem xuj {w x r u v:Int}{b:Bool} (h1:1<=x) (h2:x<=w):(u,v)∈lvL w x b r↔v=r/\(if b then 0<=u/\u<=x else x<=u/\u<=w+1):=by
 unfold lvL lvN wayI;rw[Ze];cases b with
 | true =>
  simp only[if_true];constructor
  .rintro ⟨i,hi,e⟩;rw[ZQ] at hi;injection e with e1 e2
   exact⟨e2.symm,by omega,by omega⟩
  .rintro ⟨rfl,h⟩;refine⟨(x-u).toNat,by rw[ZQ]; omega,?_⟩;have:((x-u).toNat:Int)=x-u:=by omega
   rw[this]; congr 1; omega
 | false =>
  simp only[Jk,if_false];constructor
  .rintro ⟨i,hi,e⟩;rw[ZQ] at hi;injection e with e1 e2
   exact⟨e2.symm,by omega,by omega⟩
  .rintro ⟨rfl,h⟩;refine⟨(u-x).toNat,by rw[ZQ]; omega,?_⟩;have:((u-x).toNat:Int)=u-x:=by omega
   rw[this]; congr 1; omega
theorem mem_cells {w x y r u v:Int}{b:Bool} (h1:1<=x) (h2:x<=w):(u,v)∈cells w x y b r↔(u=x/\((y<=v/\v<r)\/(r<v/\v<=y)))\/(v=r/\(if b then 0<=u/\u<=x else x<=u/\u<=w+1)):=by
 unfold cells;rw[Z9,mem_up,xuj h1 h2]
def btw (v a b:Int):Prop:=min a b<=v/\v<=max a b
instance (v a b:Int):Decidable (btw v a b):=inferInstanceAs (Decidable (_/\_))
end Geo
namespace Drw
variable {S:Type}
abbrev Cl:=Int × Int
def set1 (m:Cl->Option S) (c:Cl) (s:S):Cl->Option S:=fun z=>if z=c then some s else m z
def sets (m:Cl->Option S) (L:List (Cl × S)):Cl->Option S:=L.foldl (fun m x=>set1 m x.1 x.2) m
def mark1 (hs:S) (m:Cl->Option S) (c:Cl) (s:S):Cl->Option S:=set1 m c (if (m c).isSome then hs else s)
def marks (hs:S) (m:Cl->Option S) (L:List (Cl × S)):Cl->Option S:=L.foldl (fun m x=>mark1 hs m x.1 x.2) m
theorem sets_no:∀{L:List (Cl × S)}{m:Cl->Option S}{c:Cl},c∉L.map (·.1)->sets m L c=m c
 | [],_,_,_=>rfl
 | x::L,m,c,h=>by
  rw[Zx,Z1,not_or] at h;show sets (set1 m x.1 x.2) L c=m c;rw[sets_no h.2];exact if_neg h.1
theorem xjc:∀{L:List (Cl × S)}{m m':Cl->Option S}{c:Cl},m c=m' c->sets m L c=sets m' L c
 | [],_,_,_,h=>h
 | x::L,m,m',c,h=>by
  refine xjc (L:=L) ?_;show set1 m x.1 x.2 c=set1 m' x.1 x.2 c;unfold set1;split
  .rfl
  .exact h
theorem xgg:∀{L:List (Cl × S)}{c:Cl} (m m':Cl->Option S),c∈L.map (·.1)->sets m L c=sets m' L c
 | x::L,c,m,m',h=>by
  show sets (set1 m x.1 x.2) L c=sets (set1 m' x.1 x.2) L c;rcases Z1.mp h with e|h
  .refine xjc ?_;unfold set1;rw[if_pos e,if_pos e]
  .exact xgg _ _ h
theorem xfu:∀{L:List (Cl × S)}{m:Cl->Option S}{c:Cl},c∈L.map (·.1)->(sets m L c).isSome
 | x::L,m,c,h=>by
  show (sets (set1 m x.1 x.2) L c).isSome;by_cases z:c∈L.map (·.1)
  .exact xfu z
  .rw [sets_no z];rcases Z1.mp h with e|h
   .unfold set1;rw[if_pos e];rfl
   .exact absurd h z
theorem sets_one:∀{L:List (Cl × S)}{m:Cl->Option S}{c:Cl}{s:S},(L.map (·.1)).Nodup->(c,s)∈L->sets m L c=some s
 | x::L,m,c,s,nd,h=>by
  rw[Zx,Jd] at nd;show sets (set1 m x.1 x.2) L c=some s;rcases Z1.mp h with e|h
  .subst e;rw[sets_no nd.1];exact if_pos rfl
  .exact sets_one nd.2 h
theorem xot {L L':List (Cl × S)} (p:L.Perm L') (nd:(L.map (·.1)).Nodup) (m:Cl->Option S) (c:Cl):sets m L c=sets m L' c:=by
 by_cases h:c∈L.map (·.1)
 .obtain ⟨⟨c',s⟩,hx,rfl⟩:=Ze.mp h;rw[sets_one nd hx,sets_one ((p.map _).nodup_iff.mp nd) (p.mem_iff.mp hx)]
 .rw [sets_no h,sets_no (fun z=>h ((p.map _).mem_iff.mpr z))]
def mkc (hs:S) (o:Option S) (l:List S):Option S:=l.foldl (fun o s=>some (if o.isSome then hs else s)) o
def at_ (c:Cl) (L:List (Cl × S)):List S:=(L.filter fun x=>decide (x.1=c)).map (·.2)
theorem marks_at (hs:S):∀(L:List (Cl × S)) (m:Cl->Option S) (c:Cl),marks hs m L c=mkc hs (m c) (at_ c L)
 | [],_,_=>rfl
 | x::L,m,c=>by
  show marks hs (mark1 hs m x.1 x.2) L c=_;rw[marks_at hs L];unfold at_ mark1 set1;rw[Y1];by_cases e:x.1=c
  .subst e;simp only[if_true,decide_true];rfl
  .have e':¬ c=x.1:=fun z=>e z.symm;simp only[e,e',if_false,decide_false];rfl
theorem xgw (hs:S):∀(l:List S) (a:S),mkc hs (some a) l=some (if l=[] then a else hs)
 | [],a=>rfl
 | x::l,a=>by
  show mkc hs (some hs) l=_;rw[xgw hs l];simp
theorem mkc_perm (hs:S) {l l':List S} (p:l.Perm l'):mkc hs none l=mkc hs none l':=by
 match l,p with
 | [],p=>rw[List.nil_perm.mp p]
 | [a],p=>rw[List.singleton_perm.mp p]
 | a::b::r,p =>
  match l',p with
  | [],p=>exact absurd p.length_eq (by simp)
  | [x],p=>exact absurd p.length_eq (by simp)
  | x::y::r',p =>
   show mkc hs (some a) (b::r)=mkc hs (some x) (y::r');rw[xgw,xgw];simp
theorem xpi (c:Cl) (L M:List (Cl × S)):at_ c (L++M)=at_ c L++at_ c M:=by
 unfold at_;rw[Jz,ZB]
theorem at_flat {α:Type} (c:Cl) (f:α->List (Cl × S)):∀ l:List α,at_ c (l.flatMap f)=l.flatMap fun a=>at_ c (f a)
 | []=>rfl
 | a::l=>by
  rw[Qt,Qt,xpi,at_flat c f l]
theorem at_no {c:Cl}{L:List (Cl × S)} (h:c∉L.map (·.1)):at_ c L=[]:=by
 unfold at_;rw[Qd,QH];intro x hx e;exact h (Ze.mpr ⟨x,hx,of_decide_eq_true e⟩)
theorem xkx:∀{L:List (Cl × S)}{c:Cl}{s:S},(L.map (·.1)).Nodup->(c,s)∈L->at_ c L=[s]
 | x::L,c,s,nd,h=>by
  rw[Zx,Jd] at nd;rw[show x::L=[x]++L from rfl,xpi];rcases Z1.mp h with e|h
  .subst e;rw[at_no nd.1];simp[at_]
  .have ne:¬ x.1=c:=fun e=>nd.1 (e▸Ze.mpr ⟨_,h,rfl⟩);rw[xkx nd.2 h];simp[at_,ne]
theorem xs1 {L M:List (Cl × S)} (c:Cl) (n1:(L.map (·.1)).Nodup) (n2:(M.map (·.1)).Nodup) (h:∀ s,(c,s)∈L↔(c,s)∈M):at_ c L=at_ c M:=by
 by_cases e:c∈L.map (·.1)
 .obtain ⟨⟨c',s⟩,hx,rfl⟩:=Ze.mp e;rw[xkx n1 hx,xkx n2 ((h s).mp hx)]
 .rw [at_no e,at_no];intro z;obtain⟨⟨c',s⟩,hx,rfl⟩:=Ze.mp z;exact e (Ze.mpr ⟨_,(h s).mpr hx,rfl⟩)
def no:Cl->Option S:=fun _=>none
def drawP (hs:S) (PM dots names pts:List (Cl × S)):Cl->Option S:=sets (fun z=>(sets (sets no dots) names z).or (marks hs no PM z)) pts
def drawL (hs:S) (LM dots names pts:List (Cl × S)):Cl->Option S:=sets (sets (sets (marks hs no LM) pts) dots) names
theorem draw_same (hs:S) {w:Int}{PM LM dots names names' pts:List (Cl × S)} (hp:∀ x∈pts,1<=x.1.1/\x.1.1<=w) (hd:∀ x∈dots,x.1.1=0\/x.1.1=w+1) (hn:∀ x∈names,x.1.1=0\/x.1.1=w+1)
    (pn:names.Perm names') (nn:(names.map (·.1)).Nodup) (c:Cl) (hm:c∉pts.map (·.1)->c∉names.map (·.1)->(at_ c PM).Perm (at_ c LM)):drawP hs PM dots names pts c=drawL hs LM dots names' pts c:=by
  unfold drawP drawL;rw[<- xot pn nn];by_cases cp:c∈pts.map (·.1)
  . have c1:1<=c.1/\c.1<=w:=by
      obtain⟨x,hx,rfl⟩:=Ze.mp cp;exact hp x hx
    have nd:c∉dots.map (·.1):=fun z=>by
      obtain⟨x,hx,rfl⟩:=Ze.mp z;have:=hd x hx;omega
    have nn:c∉names.map (·.1):=fun z=>by
      obtain⟨x,hx,rfl⟩:=Ze.mp z;have:=hn x hx;omega
    rw[sets_no nn,sets_no nd];exact xgg _ _ cp
  . rw[sets_no cp]
    by_cases cn:c∈names.map (·.1)
    . have z:=xfu (m:=sets no dots) cn
      rw[xgg (sets (sets (marks hs no LM) pts) dots) (sets no dots) cn];revert z;generalize sets (sets no dots) names c=o;intro z;cases o with
      | none=>cases z
      | some s=>rfl
    . rw[sets_no cn,sets_no cn]
      by_cases cd:c∈dots.map (·.1)
      . have z:=xfu (m:=(no:Cl->Option S)) cd
        rw[xgg (sets (marks hs no LM) pts) no cd];revert z;generalize sets no dots c=o;intro z;cases o with
        | none=>cases z
        | some s=>rfl
      . rw[sets_no cd,sets_no cd,sets_no cp]
        show (none:Option S).or (marks hs no PM c)=_;rw[Option.none_or,marks_at,marks_at];exact mkc_perm hs (hm cp cn)
def rim (w:Int) (b:Bool):Int:=if b then 0 else w+1
def ls (sp sb sm:S) (x r:Int) (c:Cl):S:=if c=(x,r) then sp else if c.1=x then sb else sm
def ledP (sp sb sm:S) (w x y:Int) (b:Bool) (r:Int):List (Cl × S):=(Geo.cells w x y b r).map fun c=>(c,ls sp sb sm x r c)
def rg (lo hi:Int):List Int:=(Z3 (hi-lo).toNat).map fun (i:Nat)=>lo+(i:Int)
def ledL (sp sb sm:S) (w x y:Int) (b:Bool) (r:Int):List (Cl × S):=((rg (min y r+1) (max y r)).map fun a=>((x,a),sb))++(if r≠y then [((x,r),sp)] else [])++((rg (min x (rim w b)+1) (max x (rim w b))).map fun a=>((a,r),sm))
theorem mem_rg {lo hi a:Int}:a∈rg lo hi↔lo<=a/\a<hi:=by
 unfold rg;rw[Ze];constructor
 .rintro ⟨i,hi',rfl⟩;rw[ZQ] at hi';omega
 .rintro ⟨h1,h2⟩;exact⟨(a-lo).toNat,by rw[ZQ]; omega,by omega⟩
theorem nd_map {α β:Type}{f:α->β} (inj:∀ a b,f a=f b->a=b) {l:List α} (h:l.Nodup):(l.map f).Nodup:=by
 rw[JJ,ZA];exact h.imp fun ne e=>ne (inj _ _ e)
theorem xrl (lo hi:Int):(rg lo hi).Nodup:=nd_map (fun a b e=>by omega) Y0
theorem xq1 {w x y:Int}{b:Bool}{r:Int}:(Geo.cells w x y b r).Nodup:=by
 unfold Geo.cells;rw[ZZ];refine⟨?_,?_,?_⟩
 .unfold Geo.upL Geo.dn;refine nd_map (fun a b e=>?_) Y0;rw[JD.injEq] at e;split at e<;>omega
 .unfold Geo.lvL Geo.wayI;refine nd_map (fun a b e=>?_) Y0;rw[JD.injEq] at e;split at e<;>omega
 .rintro ⟨u,v⟩ h1 ⟨u',v'⟩ h2 e;rw[Geo.mem_up] at h1;unfold Geo.lvL at h2;obtain⟨i,_,e2⟩:=Ze.mp h2;rw[JD.injEq] at e e2;omega
theorem ledL_keys (sp sb sm:S) (w x y:Int) (b:Bool) (r:Int):(ledL sp sb sm w x y b r).map (·.1)=((rg (min y r+1) (max y r)).map fun a=>(x,a))++(if r≠y then [(x,r)] else [])++((rg (min x (rim w b)+1) (max x (rim w b))).map fun a=>(a,r)):=by
 unfold ledL;rw[ZB,ZB,Zv,Zv]
 congr 2
 split<;>rfl
theorem led_at (sp sb sm:S) {w x y:Int}{b:Bool}{r:Int} (h1:1<=x) (h2:x<=w) {c:Cl} (n1:c≠(x,y)) (n2:c≠(rim w b,r)):at_ c (ledP sp sb sm w x y b r)=at_ c (ledL sp sb sm w x y b r):=by
 obtain⟨u,v⟩:=c;refine xs1 _ ?_ ?_ ?_
 .unfold ledP;rw[Zv];exact nd_map (fun a b e=>e) xq1
 .rw [ledL_keys];rw[ZZ,ZZ];refine⟨⟨nd_map (fun a b e=>(JD.injEq ..▸e).2) (xrl _ _),by split<;>simp,?_⟩,nd_map (fun a b e=>(JD.injEq ..▸e).1) (xrl _ _),?_⟩
  .rintro ⟨a,a'⟩ ha ⟨d,d'⟩ hd e;obtain⟨i,hi,ei⟩:=Ze.mp ha;rw[mem_rg] at hi;split at hd
   .have hd:=Z0.mp hd;rw[JD.injEq] at ei hd e;omega
   .exact nomatch hd
  .rintro ⟨a,a'⟩ ha ⟨d,d'⟩ hd e;obtain⟨j,hj,ej⟩:=Ze.mp hd;rw[mem_rg] at hj;rw[JD.injEq] at ej e;have hax:a=x:=by
    rcases Z9.mp ha with ha|ha
    .obtain ⟨i,hi,ei⟩:=Ze.mp ha;rw[JD.injEq] at ei;exact ei.1.symm
    .split at ha
     .have ha:=Z0.mp ha;rw[JD.injEq] at ha;exact ha.1
     .exact nomatch ha
   omega
 .intro s
  have m1:((u,v),s)∈ledP sp sb sm w x y b r↔(u,v)∈Geo.cells w x y b r/\s=ls sp sb sm x r (u,v):=by
   unfold ledP;rw[Ze];constructor
   .rintro ⟨c,hc,e⟩;rw[JD.injEq] at e;obtain⟨rfl,rfl⟩:=e;exact⟨hc,rfl⟩
   .rintro ⟨hc,rfl⟩;exact⟨_,hc,rfl⟩
  have m2:((u,v),s)∈ledL sp sb sm w x y b r↔(u=x/\(min y r+1<=v/\v<max y r)/\s=sb)\/(r≠y/\u=x/\v=r/\s=sp)\/(v=r/\(min x (rim w b)+1<=u/\u<max x (rim w b))/\s=sm):=by
   unfold ledL;rw[Z9,Z9,Ze,Ze,or_assoc];refine or_congr ⟨?_,?_⟩ (or_congr ⟨?_,?_⟩ ⟨?_,?_⟩)
   .rintro ⟨a,ha,e⟩;rw[mem_rg] at ha;simp only[JD.injEq] at e;obtain⟨⟨rfl,rfl⟩,rfl⟩:=e;exact⟨rfl,ha,rfl⟩
   .rintro ⟨rfl,ha,rfl⟩;exact⟨v,mem_rg.mpr ha,rfl⟩
   .intro h
    split at h
    .rename_i ne
     have h:=Z0.mp h;simp only[JD.injEq] at h;exact⟨ne,h.1.1,h.1.2,h.2⟩
    .exact nomatch h
   .rintro ⟨ne,rfl,rfl,rfl⟩;rw[if_pos ne];exact Z0.mpr rfl
   .rintro ⟨a,ha,e⟩;rw[mem_rg] at ha;simp only[JD.injEq] at e;obtain⟨⟨rfl,rfl⟩,rfl⟩:=e;exact⟨rfl,ha,rfl⟩
   .rintro ⟨rfl,ha,rfl⟩;exact⟨u,mem_rg.mpr ha,rfl⟩
  rw[m1,m2,Geo.mem_cells h1 h2];clear m1 m2;have k1:¬ (u=x/\v=y):=fun z=>n1 (by rw[z.1,z.2]);have k2:¬ (u=rim w b/\v=r):=fun z=>n2 (by rw[z.1,z.2]);unfold ls;by_cases ux:u=x
  .subst ux;by_cases vr:v=r
   .subst vr;rw[if_pos rfl];constructor
    .rintro ⟨_,e⟩;exact .inr (.inl ⟨fun z=>k1 ⟨rfl,z⟩,rfl,rfl,e⟩)
    .rintro (⟨_,z,_⟩|⟨_,_,_,e⟩|⟨_,z,_⟩)
     .omega
     .exact ⟨.inr ⟨rfl,by cases b<;>simp<;>omega⟩,e⟩
     .omega
   .rw [if_neg (fun z=>vr (JD.inj z).2),if_pos rfl];constructor
    .rintro ⟨z|z,e⟩
     .exact .inl ⟨rfl,by omega,e⟩
     .exact absurd z.1 vr
    .rintro (⟨_,z,e⟩|⟨_,_,z,_⟩|⟨z,_⟩)
     .exact ⟨.inl ⟨rfl,by omega⟩,e⟩
     .exact absurd z vr
     .exact absurd z vr
  .rw [if_neg (fun z=>ux (JD.inj z).1),if_neg ux];constructor
   .rintro ⟨z|z,e⟩
    .exact absurd z.1 ux
    .refine .inr (.inr ⟨z.1,?_,e⟩);have z2:=z.2;have k3:¬ u=rim w b:=fun y=>k2 ⟨y,z.1⟩;clear k1 k2 z n1 n2;unfold rim at k3 ⊢;cases b
     .simp at z2 k3 ⊢;omega
     .simp at z2 k3 ⊢;omega
   .rintro (⟨z,_⟩|⟨_,z,_⟩|⟨z,y,e⟩)
    .exact absurd z ux
    .exact absurd z ux
    .refine ⟨.inr ⟨z,?_⟩,e⟩;unfold rim at y;cases b
     .simp at y ⊢;omega
     .simp at y ⊢;omega
end Drw
namespace S75
open PySem L2 XL
theorem hmm {j k A}(r:L2.Room true k A)(h:j<=k:=by decide):L2.Room true j A:=r.mono h
def top (i:Nat):Stmt:=PySem.Challenge.pw_rimnotes_k75_no_rows_of_signs.main.body.getD i (.Pass ⟨0,0,0,0⟩)
abbrev s_n:Stmt:=xaw (top 17) 0
abbrev s_av:Stmt:=xaw (top 20) 0
abbrev s_w:Stmt:=xaw (top 21) 1
abbrev s_ae:Stmt:=xaw (top 21) 2
abbrev s_q:Stmt:=xaw (top 21) 3
abbrev s_s:Stmt:=xaw (top 22) 1
abbrev s_v:Stmt:=xaw (top 22) 2
abbrev s_l:Stmt:=xaw (top 22) 3
abbrev s_ap:Stmt:=top 23
abbrev s_a2:Stmt:=top 25
abbrev s_am:Stmt:=top 27
abbrev s_au:Stmt:=top 28
abbrev s_an:Stmt:=xaw (top 34) 0
abbrev s_b:Stmt:=xaw (top 34) 1
abbrev s_j:Stmt:=xaw (top 34) 4
abbrev s_p:Stmt:=xaw (top 34) 6
abbrev s_ac:Stmt:=xaw (top 34) 7
abbrev s_g:Stmt:=xaw (top 34) 8
abbrev s_u:Stmt:=xaw (top 34) 10
abbrev s_h:Stmt:=xaw (top 34) 15
abbrev s_i:Stmt:=xaw (top 34) 16
abbrev s_d:Stmt:=xaw (top 34) 17
abbrev s_f:Stmt:=xaw (top 34) 18
abbrev s_y:Stmt:=top 35
abbrev xf7:Stmt:=top 37
abbrev s_a5:Stmt:=top 38
abbrev s_af:Stmt:=top 39
abbrev s_at:Stmt:=top 40
abbrev s_ay:Stmt:=top 41
abbrev s_al:Stmt:=xaw (top 42) 0
abbrev s_m:Stmt:=xaw (top 42) 1
abbrev s_k:Stmt:=xaw (top 42) 2
abbrev s_o:Stmt:=xaw (top 42) 3
abbrev s_z:Stmt:=xaw (top 42) 4
abbrev xf2:Stmt:=top 43
abbrev s_aa:Stmt:=top 44
abbrev s_as:Stmt:=top 45
abbrev s_a3:Stmt:=top 46
abbrev s_ag:Stmt:=top 47
abbrev s_x:Stmt:=top 48
abbrev s_ak:Stmt:=top 50
abbrev s_e:Stmt:=top 51
abbrev s_a0:Stmt:=top 52
abbrev s_az:Stmt:=top 53
abbrev s_a1:Stmt:=top 54
abbrev s_aq:Stmt:=top 55
abbrev s_ab:Stmt:=top 56
abbrev s_aw:Stmt:=top 57
abbrev s_a4:Stmt:=top 58
abbrev s_ax:Stmt:=top 59
abbrev s_aj:Stmt:=top 60
abbrev s_ao:Stmt:=top 61
abbrev s_ad:Stmt:=top 62
abbrev s_ar:Stmt:=top 63
abbrev xm0:Stmt:=top 64
set_option genInjectivity false in
set_option genSizeOf false in
set_option genInjectivity false in
set_option genSizeOf false in
structure Adr where
 f_n:Addr
 d_n:FuncData
 f_av:Addr
 d_av:FuncData
 f_w:Addr
 d_w:FuncData
 f_ae:Addr
 d_ae:FuncData
 f_q:Addr
 d_q:FuncData
 f_s:Addr
 d_s:FuncData
 f_v:Addr
 d_v:FuncData
 f_l:Addr
 d_l:FuncData
 f_ap:Addr
 d_ap:FuncData
 f_a2:Addr
 d_a2:FuncData
 f_am:Addr
 d_am:FuncData
 f_au:Addr
 d_au:FuncData
 f_an:Addr
 d_an:FuncData
 f_b:Addr
 d_b:FuncData
 T_b:Addr
 f_j:Addr
 d_j:FuncData
 f_p:Addr
 d_p:FuncData
 f_ac:Addr
 d_ac:FuncData
 f_g:Addr
 d_g:FuncData
 f_u:Addr
 d_u:FuncData
 f_h:Addr
 d_h:FuncData
 f_i:Addr
 d_i:FuncData
 f_d:Addr
 d_d:FuncData
 f_f:Addr
 d_f:FuncData
 f_y:Addr
 d_y:FuncData
 f_drawn:Addr
 d_drawn:FuncData
 f_a5:Addr
 d_a5:FuncData
 f_af:Addr
 d_af:FuncData
 f_at:Addr
 d_at:FuncData
 f_ay:Addr
 d_ay:FuncData
 f_al:Addr
 d_al:FuncData
 f_m:Addr
 d_m:FuncData
 f_k:Addr
 d_k:FuncData
 f_o:Addr
 d_o:FuncData
 f_z:Addr
 d_z:FuncData
 f_seen:Addr
 d_seen:FuncData
 f_aa:Addr
 d_aa:FuncData
 f_as:Addr
 d_as:FuncData
 f_a3:Addr
 d_a3:FuncData
 f_ag:Addr
 d_ag:FuncData
 f_x:Addr
 d_x:FuncData
 f_ak:Addr
 d_ak:FuncData
 f_e:Addr
 d_e:FuncData
 f_a0:Addr
 d_a0:FuncData
 f_az:Addr
 d_az:FuncData
 f_a1:Addr
 d_a1:FuncData
 f_aq:Addr
 d_aq:FuncData
 f_ab:Addr
 d_ab:FuncData
 f_aw:Addr
 d_aw:FuncData
 f_a4:Addr
 d_a4:FuncData
 f_ax:Addr
 d_ax:FuncData
 f_aj:Addr
 d_aj:FuncData
 f_ao:Addr
 d_ao:FuncData
 f_ad:Addr
 d_ad:FuncData
 f_ar:Addr
 d_ar:FuncData
 f_law:Addr
 d_law:FuncData
 C_ba:Addr
 C_bi:Addr
 C_bj:Addr
 C_bg:Addr
 C_a:Addr
 C_bk:Addr
 C_bq:Addr
 C_ah:Addr
 C_r:Addr
 C_c:Addr
 C_t:Addr
 D_ai:Addr
structure Txt (w:World) (K:Zd) (mg:Str->Option Value) (t:Adr):Prop where
 g_ba:mg "RimError"=some (.ref t.C_ba)
 g_bi:mg "NoSize"=some (.ref t.C_bi)
 g_bj:mg "NoCell"=some (.ref t.C_bj)
 g_bg:mg "BadLine"=some (.ref t.C_bg)
 g_a:mg "BadDrawing"=some (.ref t.C_a)
 g_bk:mg "NoLine"=some (.ref t.C_bk)
 g_ah:mg "LeftSide"=some (.ref t.C_ah)
 g_r:mg "RightSide"=some (.ref t.C_r)
 g_c:mg "Picture"=some (.ref t.C_c)
 g_t:mg "Letters"=some (.ref t.C_t)
 F_n:Fun K "__init__" "BadDrawing.__init__" s_n t.f_n t.d_n
 b_n:xz K t.d_n ["self", "row", "column"] []
 F_av:Fun K "__init__" "Side.__init__" s_av t.f_av t.d_av
 b_av:xz K t.d_av ["self", "width"] []
 F_w:Fun K "rim" "LeftSide.rim" s_w t.f_w t.d_w
 b_w:xz K t.d_w ["self"] []
 F_ae:Fun K "way" "LeftSide.way" s_ae t.f_ae t.d_ae
 b_ae:xz K t.d_ae ["self"] []
 F_q:Fun K "across" "LeftSide.across" s_q t.f_q t.d_q
 b_q:xz K t.d_q ["self", "x"] []
 F_s:Fun K "rim" "RightSide.rim" s_s t.f_s t.d_s
 b_s:xz K t.d_s ["self"] []
 F_v:Fun K "way" "RightSide.way" s_v t.f_v t.d_v
 b_v:xz K t.d_v ["self"] []
 F_l:Fun K "across" "RightSide.across" s_l t.f_l t.d_l
 b_l:xz K t.d_l ["self", "x"] []
 g_ap:mg "side_of"=some (.ref t.f_ap)
 F_ap:Fun K "side_of" "side_of" s_ap t.f_ap t.d_ap
 b_ap:xz K t.d_ap ["word", "width"] []
 g_a2:mg "cells_of"=some (.ref t.f_a2)
 F_a2:Fun K "cells_of" "cells_of" s_a2 t.f_a2 t.d_a2
 b_a2:xz K t.d_a2 ["picture", "name", "side", "row"] []
 g_am:mg "is_whole"=some (.ref t.f_am)
 F_am:Fun K "is_whole" "is_whole" s_am t.f_am t.d_am
 b_am:xz K t.d_am ["thing", "low", "high"] []
 g_au:mg "is_name"=some (.ref t.f_au)
 F_au:Fun K "is_name" "is_name" s_au t.f_au t.d_au
 b_au:xz K t.d_au ["thing"] []
 F_an:Fun K "__init__" "Picture.__init__" s_an t.f_an t.d_an
 b_an:xz K t.d_an ["self", "width", "height"] []
 F_b:FunD K "put" "Picture.put" s_b t.T_b t.f_b t.d_b
 b_b:xz K t.d_b ["self", "name", "x", "y", "sides", "low", "high"] []
 F_j:Fun K "open_seat" "Picture.open_seat" s_j t.f_j t.d_j
 b_j:xz K t.d_j ["self", "side", "row"] []
 F_p:Fun K "points" "Picture.points" s_p t.f_p t.d_p
 b_p:xz K t.d_p ["self"] []
 F_ac:Fun K "seats" "Picture.seats" s_ac t.f_ac t.d_ac
 b_ac:xz K t.d_ac ["self"] []
 F_g:Fun K "place_of" "Picture.place_of" s_g t.f_g t.d_g
 b_g:xz K t.d_g ["self", "name"] []
 F_u:Fun K "length" "Picture.length" s_u t.f_u t.d_u
 b_u:xz K t.d_u ["self", "name", "side", "row"] []
 F_h:Fun K "check_name" "Picture.check_name" s_h t.f_h t.d_h
 b_h:xz K t.d_h ["self", "name"] []
 F_i:Fun K "check_cell" "Picture.check_cell" s_i t.f_i t.d_i
 b_i:xz K t.d_i ["self", "x", "y"] []
 F_d:Fun K "check_lines" "Picture.check_lines" s_d t.f_d t.d_d
 b_d:xz K t.d_d ["self", "name", "x", "y"] []
 F_f:Fun K "check_seat" "Picture.check_seat" s_f t.f_f t.d_f
 b_f:xz K t.d_f ["self", "side", "row"] []
 g_y:mg "picture_with"=some (.ref t.f_y)
 F_y:Fun K "picture_with" "picture_with" s_y t.f_y t.d_y
 b_y:xz K t.d_y ["width", "height", "points", "seats"] []
 g_drawn:mg "drawn"=some (.ref t.f_drawn)
 F_drawn:Fun K "drawn" "drawn" xf7 t.f_drawn t.d_drawn
 b_drawn:xz K t.d_drawn ["picture", "pairs"] []
 g_a5:mg "row_text"=some (.ref t.f_a5)
 F_a5:Fun K "row_text" "row_text" s_a5 t.f_a5 t.d_a5
 b_a5:xz K t.d_a5 ["signs", "width", "row"] []
 g_af:mg "leader_signs"=some (.ref t.f_af)
 F_af:Fun K "leader_signs" "leader_signs" s_af t.f_af t.d_af
 b_af:xz K t.d_af ["picture", "pairs"] []
 g_at:mg "leader_sign"=some (.ref t.f_at)
 F_at:Fun K "leader_sign" "leader_sign" s_at t.f_at t.d_at
 b_at:xz K t.d_at ["cell", "x", "row"] []
 g_ay:mg "rim_signs"=some (.ref t.f_ay)
 F_ay:Fun K "rim_signs" "rim_signs" s_ay t.f_ay t.d_ay
 b_ay:xz K t.d_ay ["picture", "pairs"] []
 F_al:Fun K "__init__" "Letters.__init__" s_al t.f_al t.d_al
 b_al:xz K t.d_al ["self", "last_column"] []
 F_m:Fun K "is_rim" "Letters.is_rim" s_m t.f_m t.d_m
 b_m:xz K t.d_m ["self", "column"] []
 F_k:Fun K "may_stand" "Letters.may_stand" s_k t.f_k t.d_k
 b_k:xz K t.d_k ["self", "row", "column", "sign"] []
 F_o:Fun K "may_lie" "Letters.may_lie" s_o t.f_o t.d_o
 b_o:xz K t.d_o ["self", "row", "column", "name"] []
 F_z:Fun K "read" "Letters.read" s_z t.f_z t.d_z
 b_z:xz K t.d_z ["self", "row", "column", "sign"] []
 g_seen:mg "seen"=some (.ref t.f_seen)
 F_seen:Fun K "seen" "seen" xf2 t.f_seen t.d_seen
 b_seen:xz K t.d_seen ["rows"] []
 g_aa:mg "check_texts"=some (.ref t.f_aa)
 F_aa:Fun K "check_texts" "check_texts" s_aa t.f_aa t.d_aa
 b_aa:xz K t.d_aa ["rows"] []
 g_as:mg "signs_in"=some (.ref t.f_as)
 F_as:Fun K "signs_in" "signs_in" s_as t.f_as t.d_as
 b_as:xz K t.d_as ["rows"] []
 g_a3:mg "seat_at"=some (.ref t.f_a3)
 F_a3:Fun K "seat_at" "seat_at" s_a3 t.f_a3 t.d_a3
 b_a3:xz K t.d_a3 ["place"] []
 g_ag:mg "picture_seen"=some (.ref t.f_ag)
 F_ag:Fun K "picture_seen" "picture_seen" s_ag t.f_ag t.d_ag
 b_ag:xz K t.d_ag ["rows", "letters"] []
 g_x:mg "check_drawing"=some (.ref t.f_x)
 F_x:Fun K "check_drawing" "check_drawing" s_x t.f_x t.d_x
 b_x:xz K t.d_x ["rows", "drawing"] []
 g_ak:mg "_law_cell_at"=some (.ref t.f_ak)
 F_ak:Fun K "_law_cell_at" "_law_cell_at" s_ak t.f_ak t.d_ak
 b_ak:xz K t.d_ak ["_law_script", "_law_k"] []
 g_e:mg "_law_mix"=some (.ref t.f_e)
 F_e:Fun K "_law_mix" "_law_mix" s_e t.f_e t.d_e
 b_e:xz K t.d_e ["_law_cell", "_law_k"] []
 g_a0:mg "_law_frame"=some (.ref t.f_a0)
 F_a0:Fun K "_law_frame" "_law_frame" s_a0 t.f_a0 t.d_a0
 b_a0:xz K t.d_a0 ["_law_script"] []
 g_az:mg "_law_seats"=some (.ref t.f_az)
 F_az:Fun K "_law_seats" "_law_seats" s_az t.f_az t.d_az
 b_az:xz K t.d_az ["_law_script", "_law_height"] []
 g_a1:mg "_law_point"=some (.ref t.f_a1)
 F_a1:Fun K "_law_point" "_law_point" s_a1 t.f_a1 t.d_a1
 b_a1:xz K t.d_a1 ["_law_cell", "_law_name", "_law_x", "_law_y", "_law_height"] []
 g_aq:mg "_law_points"=some (.ref t.f_aq)
 F_aq:Fun K "_law_points" "_law_points" s_aq t.f_aq t.d_aq
 b_aq:xz K t.d_aq ["_law_cells", "_law_width", "_law_height"] []
 g_ab:mg "_law_every_seat"=some (.ref t.f_ab)
 F_ab:Fun K "_law_every_seat" "_law_every_seat" s_ab t.f_ab t.d_ab
 b_ab:xz K t.d_ab ["_law_height"] []
 g_aw:mg "_law_pairs"=some (.ref t.f_aw)
 F_aw:Fun K "_law_pairs" "_law_pairs" s_aw t.f_aw t.d_aw
 b_aw:xz K t.d_aw ["_law_cell", "_law_points_here", "_law_height", "_law_seats_here"] []
 g_a4:mg "_law_rim"=some (.ref t.f_a4)
 F_a4:Fun K "_law_rim" "_law_rim" s_a4 t.f_a4 t.d_a4
 b_a4:xz K t.d_a4 ["_law_width", "_law_side"] []
 g_ax:mg "_law_leader"=some (.ref t.f_ax)
 F_ax:Fun K "_law_leader" "_law_leader" s_ax t.f_ax t.d_ax
 b_ax:xz K t.d_ax ["_law_rim_here", "_law_x", "_law_y", "_law_row"] []
 g_aj:mg "_law_sheet"=some (.ref t.f_aj)
 F_aj:Fun K "_law_sheet" "_law_sheet" s_aj t.f_aj t.d_aj
 b_aj:xz K t.d_aj ["_law_width", "_law_height", "_law_points_here", "_law_seats_here", "_law_pairs_here"] []
 g_ao:mg "_law_refused"=some (.ref t.f_ao)
 F_ao:Fun K "_law_refused" "_law_refused" s_ao t.f_ao t.d_ao
 b_ao:xz K t.d_ao ["_law_thing", "_law_row"] []
 g_ad:mg "_law_other_row"=some (.ref t.f_ad)
 F_ad:Fun K "_law_other_row" "_law_other_row" s_ad t.f_ad t.d_ad
 b_ad:xz K t.d_ad ["_law_row", "_law_cell"] []
 g_ar:mg "_law_spoilt"=some (.ref t.f_ar)
 F_ar:Fun K "_law_spoilt" "_law_spoilt" s_ar t.f_ar t.d_ar
 b_ar:xz K t.d_ar ["_law_rows", "_law_cell"] []
 g_law:mg "law"=some (.ref t.f_law)
 F_law:Fun K "law" "law" xm0 t.f_law t.d_law
 mk_ba:xdl K t.C_ba=true
 x_a:XC K t.C_a
 mk_a:xdl K t.C_a=true
 k_a:XMk K t.C_a t.f_n
 c_ah:Cls K t.C_ah
 k_ah:Mk K t.C_ah t.f_av
 m_w:Meth K t.C_ah "rim" t.f_w
 m_ae:Meth K t.C_ah "way" t.f_ae
 m_q:Meth K t.C_ah "across" t.f_q
 c_r:Cls K t.C_r
 k_r:Mk K t.C_r t.f_av
 m_s:Meth K t.C_r "rim" t.f_s
 m_v:Meth K t.C_r "way" t.f_v
 m_l:Meth K t.C_r "across" t.f_l
 c_c:Cls K t.C_c
 k_c:Mk K t.C_c t.f_an
 m_b:Meth K t.C_c "put" t.f_b
 m_j:Meth K t.C_c "open_seat" t.f_j
 m_p:Meth K t.C_c "points" t.f_p
 m_ac:Meth K t.C_c "seats" t.f_ac
 m_g:Meth K t.C_c "place_of" t.f_g
 m_u:Meth K t.C_c "length" t.f_u
 m_h:Meth K t.C_c "check_name" t.f_h
 m_i:Meth K t.C_c "check_cell" t.f_i
 m_d:Meth K t.C_c "check_lines" t.f_d
 m_f:Meth K t.C_c "check_seat" t.f_f
 c_t:Cls K t.C_t
 k_t:Mk K t.C_t t.f_al
 m_m:Meth K t.C_t "is_rim" t.f_m
 m_k:Meth K t.C_t "may_stand" t.f_k
 m_o:Meth K t.C_t "may_lie" t.f_o
 m_z:Meth K t.C_t "read" t.f_z
 cg:PySem.W.specialIn K (.builtin "object.__class__") "__get__"=some (some (.builtin "getset_descriptor.__get__"))
 ct:PySem.W.takesIn K (.builtin "object.__class__")=some true
 n_be:ZD K (.ref t.C_r) "width"=some none
 n_a6:ZD K (.ref t.C_c) "placed"=some none
 n_a8:ZD K (.ref t.C_c) "height"=some none
 n_a7:ZD K (.ref t.C_c) "width"=some none
 n_bd:ZD K (.ref t.C_c) "opened"=some none
 n_bb:ZD K (.ref t.C_t) "last_column"=some none
 n_a9:ZD K (.ref t.C_t) "inner"=some none
 n_bc:ZD K (.ref t.C_t) "outer"=some none
 n_bh:ZD K (.ref t.C_a) "column"=some none
 n_bm:ZD K (.ref t.C_a) "row"=some none
 n_bo:ZD K (.ref t.C_ah) "width"=some none
 n_bp:mg "ValueError"=none
 n_abs:mg "abs"=none
 n_bool:mg "bool"=none
 n_dict:mg "dict"=none
 n_enumerate:mg "enumerate"=none
 n_int:mg "int"=none
 n_isinstance:mg "isinstance"=none
 n_len:mg "len"=none
 n_list:mg "list"=none
 n_max:mg "max"=none
 n_min:mg "min"=none
 n_range:mg "range"=none
 n_repr:mg "repr"=none
 n_reversed:mg "reversed"=none
 n_sorted:mg "sorted"=none
 n_str:mg "str"=none
 n_tuple:mg "tuple"=none
 mro_a:Wl K t.C_a (.ref t.C_ba)=some true
 kitv_a:Yw K (.ref t.C_a) (.type "ValueError")=some true
 kany_a:PySem.W.kitAny K (.ref t.C_a) [.ref t.C_bg,.ref t.C_bj,.ref t.C_bk,.ref t.C_bi]=some false
 v_bn:∃ tk,mg "MOST_ROWS"=some (.int 16 tk)
 v_bf:∃ tk,mg "MOST_COLUMNS"=some (.int 30 tk)
 v_bl:∃ tk,mg "MOST_POINTS"=some (.int 12 tk)
 g_ai:mg "MIRRORED_SIDES"=some (.ref t.D_ai)
 D_ai:xno w K t.D_ai [(.inr "left",.str "right"),(.inr "right",.str "left"),(.inr "both",.str "both")]
@[elab_as_elim] theorem xwc {α:Type}{P:List α->Prop}:(us:List α)->us.length=1->(∀ a0,P [a0])->P us
 | [a0],_,h=>h a0
@[elab_as_elim] theorem xwa {α:Type}{P:List α->Prop}:(us:List α)->us.length=2->(∀ a0 a1,P [a0,a1])->P us
 | [a0,a1],_,h=>h a0 a1
@[elab_as_elim] theorem xvq {α:Type}{P:List α->Prop}:(us:List α)->us.length=3->(∀ a0 a1 a2,P [a0,a1,a2])->P us
 | [a0,a1,a2],_,h=>h a0 a1 a2
@[elab_as_elim] theorem xwf {α:Type}{P:List α->Prop}:(us:List α)->us.length=4->(∀ a0 a1 a2 a3,P [a0,a1,a2,a3])->P us
 | [a0,a1,a2,a3],_,h=>h a0 a1 a2 a3
@[elab_as_elim] theorem xvl {α:Type}{P:List α->Prop}:(us:List α)->us.length=5->(∀ a0 a1 a2 a3 a4,P [a0,a1,a2,a3,a4])->P us
 | [a0,a1,a2,a3,a4],_,h=>h a0 a1 a2 a3 a4
@[elab_as_elim] theorem xve {α:Type}{P:List α->Prop}:(us:List α)->us.length=7->(∀ a0 a1 a2 a3 a4 a5 a6,P [a0,a1,a2,a3,a4,a5,a6])->P us
 | [a0,a1,a2,a3,a4,a5,a6],_,h=>h a0 a1 a2 a3 a4 a5 a6
def gI (K:Zd) (n:Str) (a:Addr):Prop:=QB K mainGlobals n=some (some (.ref a))
def gN (K:Zd) (n:Str):Prop:=QB K mainGlobals n=some none
def fN (K:Zd) (C:Addr) (n:Str):Prop:=ZD K (.ref C) n=some none
def fI (K:Zd) (C:Addr) (n:Str) (a:Addr):Prop:=ZD K (.ref C) n=some (some (.ref a))
def fB (K:Zd) (C:Addr) (n:Str) (b:String):Prop:=ZD K (.ref C) n=some (some (.builtin b))
theorem bi_1 {K:Zd}{x q:Str}{st:Stmt}{f:Addr}{fd:FuncData}{p0:Str} (F:Fun K x q st f fd) (h:∀(kV doc pm:Value) (an:Option Addr) (cdv ct:Value) (a0:Value),bindArgs (Jo x q (xbw st) (xbb st) (xp st) .none kV doc pm an cdv ct) ⟨[a0],[]⟩=pure (List.zip [p0] [a0]):=by intros; rfl):xz K fd [p0] []:=F.binds fun a b c d e f us hl=>xwc us hl (h a b c d e f)
theorem bi_2 {K:Zd}{x q:Str}{st:Stmt}{f:Addr}{fd:FuncData}{p0 p1:Str} (F:Fun K x q st f fd) (h:∀(kV doc pm:Value) (an:Option Addr) (cdv ct:Value) (a0 a1:Value),bindArgs (Jo x q (xbw st) (xbb st) (xp st) .none kV doc pm an cdv ct) ⟨[a0,a1],[]⟩=pure (List.zip [p0,p1] [a0,a1]):=by intros; rfl):xz K fd [p0,p1] []:=F.binds fun a b c d e f us hl=>xwa us hl (h a b c d e f)
theorem bi_3 {K:Zd}{x q:Str}{st:Stmt}{f:Addr}{fd:FuncData}{p0 p1 p2:Str} (F:Fun K x q st f fd) (h:∀(kV doc pm:Value) (an:Option Addr) (cdv ct:Value) (a0 a1 a2:Value),bindArgs (Jo x q (xbw st) (xbb st) (xp st) .none kV doc pm an cdv ct) ⟨[a0,a1,a2],[]⟩=pure (List.zip [p0,p1,p2] [a0,a1,a2]):=by intros; rfl):xz K fd [p0,p1,p2] []:=F.binds fun a b c d e f us hl=>xvq us hl (h a b c d e f)
theorem bi_4 {K:Zd}{x q:Str}{st:Stmt}{f:Addr}{fd:FuncData}{p0 p1 p2 p3:Str} (F:Fun K x q st f fd) (h:∀(kV doc pm:Value) (an:Option Addr) (cdv ct:Value) (a0 a1 a2 a3:Value),bindArgs (Jo x q (xbw st) (xbb st) (xp st) .none kV doc pm an cdv ct) ⟨[a0,a1,a2,a3],[]⟩=pure (List.zip [p0,p1,p2,p3] [a0,a1,a2,a3]):=by intros; rfl):xz K fd [p0,p1,p2,p3] []:=F.binds fun a b c d e f us hl=>xwf us hl (h a b c d e f)
theorem bi_5 {K:Zd}{x q:Str}{st:Stmt}{f:Addr}{fd:FuncData}{p0 p1 p2 p3 p4:Str} (F:Fun K x q st f fd) (h:∀(kV doc pm:Value) (an:Option Addr) (cdv ct:Value) (a0 a1 a2 a3 a4:Value),bindArgs (Jo x q (xbw st) (xbb st) (xp st) .none kV doc pm an cdv ct) ⟨[a0,a1,a2,a3,a4],[]⟩=pure (List.zip [p0,p1,p2,p3,p4] [a0,a1,a2,a3,a4]):=by intros; rfl):xz K fd [p0,p1,p2,p3,p4] []:=F.binds fun a b c d e f us hl=>xvl us hl (h a b c d e f)
theorem txt_mk {w:World}{K:Zd}{h:Heap}{mg:Str->Option Value} (X:K.In h) (G:h.Ns mainGlobals mg) {C_ba C_bi C_bj C_bg C_a C_bk C_bq C_ah C_r C_c C_t f_n f_av f_w f_ae f_q f_s f_v f_l f_ap f_a2 f_am f_au f_an f_b T_b f_j f_p f_ac f_g f_u f_h f_i f_d f_f f_y f_drawn f_a5 f_af f_at f_ay f_al f_m f_k f_o f_z f_seen f_aa f_as f_a3 f_ag f_x f_ak f_e f_a0 f_az f_a1 f_aq f_ab f_aw f_a4 f_ax f_aj f_ao f_ad f_ar f_law:Addr}{d_n d_av d_w d_ae d_q d_s d_v d_l d_ap d_a2 d_am d_au d_an d_j d_p d_ac d_g d_u d_h d_i d_d d_f d_y d_drawn d_a5 d_af d_at d_ay d_al d_m d_k d_o d_z d_seen d_aa d_as d_a3 d_ag d_x d_ak d_e d_a0 d_az d_a1 d_aq d_ab d_aw d_a4 d_ax d_aj d_ao d_ad d_ar d_law:FuncData}{oc_b kv_b dc_b pm_b cd_b ct_b:Value}{od_b an_b:Option Addr}{sl_b:Array (Option Value)}{tk0_b:Tok}{tk1_b:Tok}{toc_b:Value}{tod_b:Option Addr}{tn_b:Nat}{tsl_b:Array (Option Value)}{tkc_bn:Tok}{tkc_bf:Tok}{tkc_bl:Tok}{D_ai:Addr}{ta0_ai tb0_ai:Tok}{ta1_ai tb1_ai:Tok}{ta2_ai tb2_ai:Tok}{ep_ai:Nat}
    (g_ba:gI K "RimError" C_ba)
    (g_bi:gI K "NoSize" C_bi)
    (g_bj:gI K "NoCell" C_bj)
    (g_bg:gI K "BadLine" C_bg)
    (g_a:gI K "BadDrawing" C_a)
    (g_bk:gI K "NoLine" C_bk)
    (g_bq:gI K "Side" C_bq)
    (g_ah:gI K "LeftSide" C_ah)
    (g_r:gI K "RightSide" C_r)
    (g_c:gI K "Picture" C_c)
    (g_t:gI K "Letters" C_t)
    (a_n:fI K C_a "__init__" f_n)
    (F_n:Fun K "__init__" "BadDrawing.__init__" s_n f_n d_n)
    (i_n:ZL K (.ref f_n)=true)
    (a_av:fI K C_bq "__init__" f_av)
    (F_av:Fun K "__init__" "Side.__init__" s_av f_av d_av)
    (i_av:ZL K (.ref f_av)=true)
    (a_w:fI K C_ah "rim" f_w)
    (F_w:Fun K "rim" "LeftSide.rim" s_w f_w d_w)
    (i_w:ZL K (.ref f_w)=true)
    (a_ae:fI K C_ah "way" f_ae)
    (F_ae:Fun K "way" "LeftSide.way" s_ae f_ae d_ae)
    (i_ae:ZL K (.ref f_ae)=true)
    (a_q:fI K C_ah "across" f_q)
    (F_q:Fun K "across" "LeftSide.across" s_q f_q d_q)
    (i_q:ZL K (.ref f_q)=true)
    (a_s:fI K C_r "rim" f_s)
    (F_s:Fun K "rim" "RightSide.rim" s_s f_s d_s)
    (i_s:ZL K (.ref f_s)=true)
    (a_v:fI K C_r "way" f_v)
    (F_v:Fun K "way" "RightSide.way" s_v f_v d_v)
    (i_v:ZL K (.ref f_v)=true)
    (a_l:fI K C_r "across" f_l)
    (F_l:Fun K "across" "RightSide.across" s_l f_l d_l)
    (i_l:ZL K (.ref f_l)=true)
    (a_ap:gI K "side_of" f_ap)
    (F_ap:Fun K "side_of" "side_of" s_ap f_ap d_ap)
    (a_a2:gI K "cells_of" f_a2)
    (F_a2:Fun K "cells_of" "cells_of" s_a2 f_a2 d_a2)
    (a_am:gI K "is_whole" f_am)
    (F_am:Fun K "is_whole" "is_whole" s_am f_am d_am)
    (a_au:gI K "is_name" f_au)
    (F_au:Fun K "is_name" "is_name" s_au f_au d_au)
    (a_an:fI K C_c "__init__" f_an)
    (F_an:Fun K "__init__" "Picture.__init__" s_an f_an d_an)
    (i_an:ZL K (.ref f_an)=true)
    (a_b:fI K C_c "put" f_b)
    (l_b:K.lookup f_b=some ⟨oc_b,od_b,.func (Jo "put" "Picture.put" (xbw s_b) (xbb s_b) (xp s_b) (.ref T_b) kv_b dc_b pm_b an_b cd_b ct_b),sl_b⟩)
    (c_b:YL K cd_b "Picture.put"=true)
    (k_b:Jl K (.ref f_b)=true)
    (i_b:ZL K (.ref f_b)=true)
    (t_b:K.lookup T_b=some ⟨toc_b,tod_b,.seq #[.str "both" tk0_b,.int 1 tk1_b,.none] tn_b,tsl_b⟩)
    (a_j:fI K C_c "open_seat" f_j)
    (F_j:Fun K "open_seat" "Picture.open_seat" s_j f_j d_j)
    (i_j:ZL K (.ref f_j)=true)
    (a_p:fI K C_c "points" f_p)
    (F_p:Fun K "points" "Picture.points" s_p f_p d_p)
    (i_p:ZL K (.ref f_p)=true)
    (a_ac:fI K C_c "seats" f_ac)
    (F_ac:Fun K "seats" "Picture.seats" s_ac f_ac d_ac)
    (i_ac:ZL K (.ref f_ac)=true)
    (a_g:fI K C_c "place_of" f_g)
    (F_g:Fun K "place_of" "Picture.place_of" s_g f_g d_g)
    (i_g:ZL K (.ref f_g)=true)
    (a_u:fI K C_c "length" f_u)
    (F_u:Fun K "length" "Picture.length" s_u f_u d_u)
    (i_u:ZL K (.ref f_u)=true)
    (a_h:fI K C_c "check_name" f_h)
    (F_h:Fun K "check_name" "Picture.check_name" s_h f_h d_h)
    (i_h:ZL K (.ref f_h)=true)
    (a_i:fI K C_c "check_cell" f_i)
    (F_i:Fun K "check_cell" "Picture.check_cell" s_i f_i d_i)
    (i_i:ZL K (.ref f_i)=true)
    (a_d:fI K C_c "check_lines" f_d)
    (F_d:Fun K "check_lines" "Picture.check_lines" s_d f_d d_d)
    (i_d:ZL K (.ref f_d)=true)
    (a_f:fI K C_c "check_seat" f_f)
    (F_f:Fun K "check_seat" "Picture.check_seat" s_f f_f d_f)
    (i_f:ZL K (.ref f_f)=true)
    (a_y:gI K "picture_with" f_y)
    (F_y:Fun K "picture_with" "picture_with" s_y f_y d_y)
    (a_drawn:gI K "drawn" f_drawn)
    (F_drawn:Fun K "drawn" "drawn" xf7 f_drawn d_drawn)
    (a_a5:gI K "row_text" f_a5)
    (F_a5:Fun K "row_text" "row_text" s_a5 f_a5 d_a5)
    (a_af:gI K "leader_signs" f_af)
    (F_af:Fun K "leader_signs" "leader_signs" s_af f_af d_af)
    (a_at:gI K "leader_sign" f_at)
    (F_at:Fun K "leader_sign" "leader_sign" s_at f_at d_at)
    (a_ay:gI K "rim_signs" f_ay)
    (F_ay:Fun K "rim_signs" "rim_signs" s_ay f_ay d_ay)
    (a_al:fI K C_t "__init__" f_al)
    (F_al:Fun K "__init__" "Letters.__init__" s_al f_al d_al)
    (i_al:ZL K (.ref f_al)=true)
    (a_m:fI K C_t "is_rim" f_m)
    (F_m:Fun K "is_rim" "Letters.is_rim" s_m f_m d_m)
    (i_m:ZL K (.ref f_m)=true)
    (a_k:fI K C_t "may_stand" f_k)
    (F_k:Fun K "may_stand" "Letters.may_stand" s_k f_k d_k)
    (i_k:ZL K (.ref f_k)=true)
    (a_o:fI K C_t "may_lie" f_o)
    (F_o:Fun K "may_lie" "Letters.may_lie" s_o f_o d_o)
    (i_o:ZL K (.ref f_o)=true)
    (a_z:fI K C_t "read" f_z)
    (F_z:Fun K "read" "Letters.read" s_z f_z d_z)
    (i_z:ZL K (.ref f_z)=true)
    (a_seen:gI K "seen" f_seen)
    (F_seen:Fun K "seen" "seen" xf2 f_seen d_seen)
    (a_aa:gI K "check_texts" f_aa)
    (F_aa:Fun K "check_texts" "check_texts" s_aa f_aa d_aa)
    (a_as:gI K "signs_in" f_as)
    (F_as:Fun K "signs_in" "signs_in" s_as f_as d_as)
    (a_a3:gI K "seat_at" f_a3)
    (F_a3:Fun K "seat_at" "seat_at" s_a3 f_a3 d_a3)
    (a_ag:gI K "picture_seen" f_ag)
    (F_ag:Fun K "picture_seen" "picture_seen" s_ag f_ag d_ag)
    (a_x:gI K "check_drawing" f_x)
    (F_x:Fun K "check_drawing" "check_drawing" s_x f_x d_x)
    (a_ak:gI K "_law_cell_at" f_ak)
    (F_ak:Fun K "_law_cell_at" "_law_cell_at" s_ak f_ak d_ak)
    (a_e:gI K "_law_mix" f_e)
    (F_e:Fun K "_law_mix" "_law_mix" s_e f_e d_e)
    (a_a0:gI K "_law_frame" f_a0)
    (F_a0:Fun K "_law_frame" "_law_frame" s_a0 f_a0 d_a0)
    (a_az:gI K "_law_seats" f_az)
    (F_az:Fun K "_law_seats" "_law_seats" s_az f_az d_az)
    (a_a1:gI K "_law_point" f_a1)
    (F_a1:Fun K "_law_point" "_law_point" s_a1 f_a1 d_a1)
    (a_aq:gI K "_law_points" f_aq)
    (F_aq:Fun K "_law_points" "_law_points" s_aq f_aq d_aq)
    (a_ab:gI K "_law_every_seat" f_ab)
    (F_ab:Fun K "_law_every_seat" "_law_every_seat" s_ab f_ab d_ab)
    (a_aw:gI K "_law_pairs" f_aw)
    (F_aw:Fun K "_law_pairs" "_law_pairs" s_aw f_aw d_aw)
    (a_a4:gI K "_law_rim" f_a4)
    (F_a4:Fun K "_law_rim" "_law_rim" s_a4 f_a4 d_a4)
    (a_ax:gI K "_law_leader" f_ax)
    (F_ax:Fun K "_law_leader" "_law_leader" s_ax f_ax d_ax)
    (a_aj:gI K "_law_sheet" f_aj)
    (F_aj:Fun K "_law_sheet" "_law_sheet" s_aj f_aj d_aj)
    (a_ao:gI K "_law_refused" f_ao)
    (F_ao:Fun K "_law_refused" "_law_refused" s_ao f_ao d_ao)
    (a_ad:gI K "_law_other_row" f_ad)
    (F_ad:Fun K "_law_other_row" "_law_other_row" s_ad f_ad d_ad)
    (a_ar:gI K "_law_spoilt" f_ar)
    (F_ar:Fun K "_law_spoilt" "_law_spoilt" s_ar f_ar d_ar)
    (a_law:gI K "law" f_law)
    (F_law:Fun K "law" "law" xm0 f_law d_law)
    (mk_ba:xdl K C_ba=true)
    (kc_a:Jl K (.ref C_a)=true)
    (ov_a:xlt K C_a=true)
    (hd_a:JG K C_a=true)
    (sa_a:fB K C_a "__setattr__" "object.__setattr__")
    (ga_a:fB K C_a "__getattribute__" "BaseException.__getattribute__")
    (gh_a:fN K C_a "__getattr__")
    (ca_a:fB K C_a "__class__" "object.__class__")
    (mk_a:xdl K C_a=true)
    (kc_ah:Jl K (.ref C_ah)=true)
    (pg_ah:JO K C_ah Str.empty=true)
    (hd_ah:JG K C_ah=true)
    (po_ah:Yr K C_ah=true)
    (sa_ah:fB K C_ah "__setattr__" "object.__setattr__")
    (mk_ah:Y9 K C_ah=true)
    (a_LeftSide_init:fI K C_ah "__init__" f_av)
    (kc_r:Jl K (.ref C_r)=true)
    (pg_r:JO K C_r Str.empty=true)
    (hd_r:JG K C_r=true)
    (po_r:Yr K C_r=true)
    (sa_r:fB K C_r "__setattr__" "object.__setattr__")
    (mk_r:Y9 K C_r=true)
    (a_RightSide_init:fI K C_r "__init__" f_av)
    (kc_c:Jl K (.ref C_c)=true)
    (pg_c:JO K C_c Str.empty=true)
    (hd_c:JG K C_c=true)
    (po_c:Yr K C_c=true)
    (sa_c:fB K C_c "__setattr__" "object.__setattr__")
    (mk_c:Y9 K C_c=true)
    (kc_t:Jl K (.ref C_t)=true)
    (pg_t:JO K C_t Str.empty=true)
    (hd_t:JG K C_t=true)
    (po_t:Yr K C_t=true)
    (sa_t:fB K C_t "__setattr__" "object.__setattr__")
    (mk_t:Y9 K C_t=true)
    (cg:PySem.W.specialIn K (.builtin "object.__class__") "__get__"=some (some (.builtin "getset_descriptor.__get__")))
    (ct:PySem.W.takesIn K (.builtin "object.__class__")=some true)
    (n_be:fN K C_r "width")
    (n_a6:fN K C_c "placed")
    (n_a8:fN K C_c "height")
    (n_a7:fN K C_c "width")
    (n_bd:fN K C_c "opened")
    (n_bb:fN K C_t "last_column")
    (n_a9:fN K C_t "inner")
    (n_bc:fN K C_t "outer")
    (n_bh:fN K C_a "column")
    (n_bm:fN K C_a "row")
    (n_bo:fN K C_ah "width")
    (n_bp:gN K "ValueError")
    (n_abs:gN K "abs")
    (n_bool:gN K "bool")
    (n_dict:gN K "dict")
    (n_enumerate:gN K "enumerate")
    (n_int:gN K "int")
    (n_isinstance:gN K "isinstance")
    (n_len:gN K "len")
    (n_list:gN K "list")
    (n_max:gN K "max")
    (n_min:gN K "min")
    (n_range:gN K "range")
    (n_repr:gN K "repr")
    (n_reversed:gN K "reversed")
    (n_sorted:gN K "sorted")
    (n_str:gN K "str")
    (n_tuple:gN K "tuple")
    (mro_a:Wl K C_a (.ref C_ba)=some true)
    (kitv_a:Yw K (.ref C_a) (.type "ValueError")=some true)
    (kany_a:PySem.W.kitAny K (.ref C_a) [.ref C_bg,.ref C_bj,.ref C_bk,.ref C_bi]=some false)
    (v_bn:QB K mainGlobals "MOST_ROWS"=some (some (.int 16 tkc_bn)))
    (v_bf:QB K mainGlobals "MOST_COLUMNS"=some (some (.int 30 tkc_bf)))
    (v_bl:QB K mainGlobals "MOST_POINTS"=some (some (.int 12 tkc_bl)))
    (g_ai:gI K "MIRRORED_SIDES" D_ai)
    (l_ai:K.lookup D_ai=some ⟨.type "dict",none,.dict #[⟨hashStr w "left",.str "left" ta0_ai,.str "right" tb0_ai⟩,⟨hashStr w "right",.str "right" ta1_ai,.str "left" tb1_ai⟩,⟨hashStr w "both",.str "both" ta2_ai,.str "both" tb2_ai⟩] ep_ai,#[]⟩)
    (ns_ai:(D_ai == sysModules)=false):∃ t,Txt w K mg t :=
  ⟨⟨f_n,_,f_av,_,f_w,_,f_ae,_,f_q,_,f_s,_,f_v,_,f_l,_,f_ap,_,f_a2,_,f_am,_,f_au,_,f_an,_,f_b,_,T_b,f_j,_,f_p,_,f_ac,_,f_g,_,f_u,_,f_h,_,f_i,_,f_d,_,f_f,_,f_y,_,f_drawn,_,f_a5,_,f_af,_,f_at,_,f_ay,_,f_al,_,f_m,_,f_k,_,f_o,_,f_z,_,f_seen,_,f_aa,_,f_as,_,f_a3,_,f_ag,_,f_x,_,f_ak,_,f_e,_,f_a0,_,f_az,_,f_a1,_,f_aq,_,f_ab,_,f_aw,_,f_a4,_,f_ax,_,f_aj,_,f_ao,_,f_ad,_,f_ar,_,f_law,_,C_ba,C_bi,C_bj,C_bg,C_a,C_bk,C_bq,C_ah,C_r,C_c,C_t,D_ai⟩,⟨Zu X G g_ba,Zu X G g_bi,Zu X G g_bj,Zu X G g_bg,Zu X G g_a,Zu X G g_bk,Zu X G g_ah,Zu X G g_r,Zu X G g_c,Zu X G g_t,F_n,bi_3 F_n,F_av,bi_2 F_av,F_w,bi_1 F_w,F_ae,bi_1 F_ae,F_q,bi_2 F_q,F_s,bi_1 F_s,F_v,bi_1 F_v,F_l,bi_2 F_l,Zu X G a_ap,F_ap,bi_2 F_ap,Zu X G a_a2,F_a2,bi_4 F_a2,Zu X G a_am,F_am,bi_3 F_am,Zu X G a_au,F_au,bi_1 F_au,F_an,bi_3 F_an,(xmd (st:=s_b) l_b c_b k_b),(xmd (st:=s_b) l_b c_b k_b).binds t_b rfl 7 rfl fun _ _ _ _ _ _ us hl=>xve us hl fun _ _ _ _ _ _ _=>⟨_,rfl,rfl⟩,F_j,bi_3 F_j,F_p,bi_1 F_p,F_ac,bi_1 F_ac,F_g,bi_2 F_g,F_u,bi_4 F_u,F_h,bi_2 F_h,F_i,bi_3 F_i,F_d,bi_4 F_d,F_f,bi_3 F_f,Zu X G a_y,F_y,bi_4 F_y,Zu X G a_drawn,F_drawn,bi_2 F_drawn,Zu X G a_a5,F_a5,bi_3 F_a5,Zu X G a_af,F_af,bi_2 F_af,Zu X G a_at,F_at,bi_3 F_at,Zu X G a_ay,F_ay,bi_2 F_ay,F_al,bi_2 F_al,F_m,bi_2 F_m,F_k,bi_4 F_k,F_o,bi_4 F_o,F_z,bi_4 F_z,Zu X G a_seen,F_seen,bi_1 F_seen,Zu X G a_aa,F_aa,bi_1 F_aa,Zu X G a_as,F_as,bi_1 F_as,Zu X G a_a3,F_a3,bi_1 F_a3,Zu X G a_ag,F_ag,bi_2 F_ag,Zu X G a_x,F_x,bi_2 F_x,Zu X G a_ak,F_ak,bi_2 F_ak,Zu X G a_e,F_e,bi_2 F_e,Zu X G a_a0,F_a0,bi_1 F_a0,Zu X G a_az,F_az,bi_2 F_az,Zu X G a_a1,F_a1,bi_5 F_a1,Zu X G a_aq,F_aq,bi_3 F_aq,Zu X G a_ab,F_ab,bi_1 F_ab,Zu X G a_aw,F_aw,bi_4 F_aw,Zu X G a_a4,F_a4,bi_2 F_a4,Zu X G a_ax,F_ax,bi_4 F_ax,Zu X G a_aj,F_aj,bi_5 F_aj,Zu X G a_ao,F_ao,bi_2 F_ao,Zu X G a_ad,F_ad,bi_2 F_ad,Zu X G a_ar,F_ar,bi_2 F_ar,Zu X G a_law,F_law,mk_ba,⟨ov_a,hd_a,sa_a,ga_a,gh_a,ca_a,cg,ct⟩,mk_a,⟨mk_a,a_n,i_n,kc_a⟩,⟨pg_ah,hd_ah,po_ah,sa_ah⟩,⟨mk_ah,a_LeftSide_init,i_av,kc_ah⟩,⟨a_w,i_w,F_w.kp⟩,⟨a_ae,i_ae,F_ae.kp⟩,⟨a_q,i_q,F_q.kp⟩,⟨pg_r,hd_r,po_r,sa_r⟩,⟨mk_r,a_RightSide_init,i_av,kc_r⟩,⟨a_s,i_s,F_s.kp⟩,⟨a_v,i_v,F_v.kp⟩,⟨a_l,i_l,F_l.kp⟩,⟨pg_c,hd_c,po_c,sa_c⟩,⟨mk_c,a_an,i_an,kc_c⟩,⟨a_b,i_b,k_b⟩,⟨a_j,i_j,F_j.kp⟩,⟨a_p,i_p,F_p.kp⟩,⟨a_ac,i_ac,F_ac.kp⟩,⟨a_g,i_g,F_g.kp⟩,⟨a_u,i_u,F_u.kp⟩,⟨a_h,i_h,F_h.kp⟩,⟨a_i,i_i,F_i.kp⟩,⟨a_d,i_d,F_d.kp⟩,⟨a_f,i_f,F_f.kp⟩,⟨pg_t,hd_t,po_t,sa_t⟩,⟨mk_t,a_al,i_al,kc_t⟩,⟨a_m,i_m,F_m.kp⟩,⟨a_k,i_k,F_k.kp⟩,⟨a_o,i_o,F_o.kp⟩,⟨a_z,i_z,F_z.kp⟩,cg,ct,n_be,n_a6,n_a8,n_a7,n_bd,n_bb,n_a9,n_bc,n_bh,n_bm,n_bo,ZP X G n_bp,ZP X G n_abs,ZP X G n_bool,ZP X G n_dict,ZP X G n_enumerate,ZP X G n_int,ZP X G n_isinstance,ZP X G n_len,ZP X G n_list,ZP X G n_max,ZP X G n_min,ZP X G n_range,ZP X G n_repr,ZP X G n_reversed,ZP X G n_sorted,ZP X G n_str,ZP X G n_tuple,mro_a,kitv_a,kany_a,⟨_,Zu X G v_bn⟩,⟨_,Zu X G v_bf⟩,⟨_,Zu X G v_bl⟩,Zu X G g_ai,⟨ns_ai,_,_,l_ai,.cons rfl ⟨_,rfl⟩ ⟨_,rfl⟩ (.cons rfl ⟨_,rfl⟩ ⟨_,rfl⟩ (.cons rfl ⟨_,rfl⟩ ⟨_,rfl⟩ (.nil))),by decide⟩⟩⟩
theorem mkS {N P:List Str}{sc:Scope} (a:sc.kind=.function:=by rfl) (b:sc.isCoroutine=false:=by rfl) (c:sc.isGenerator=false:=by rfl) (d:N.Nodup:=by decide +kernel) (e:N.take P.length=P:=by rfl) (f:∀ x∈P,sc.names.lookup x=some .local\/sc.names.lookup x=some .cell:=by decide +kernel) (g:∀ y∈sc.names,y.2≠.free:=by decide +kernel):xv N P sc:=⟨a,b,c,d,e,f,g⟩
theorem sc_n:xv ["self", "row", "column"] ["self", "row", "column"] (xp s_n):=mkS
theorem sc_av:xv ["self", "width"] ["self", "width"] (xp s_av):=mkS
theorem sc_w:xv ["self"] ["self"] (xp s_w):=mkS
theorem sc_ae:xv ["self"] ["self"] (xp s_ae):=mkS
theorem sc_q:xv ["self", "x"] ["self", "x"] (xp s_q):=mkS
theorem sc_s:xv ["self"] ["self"] (xp s_s):=mkS
theorem sc_v:xv ["self"] ["self"] (xp s_v):=mkS
theorem sc_l:xv ["self", "x"] ["self", "x"] (xp s_l):=mkS
theorem sc_ap:xv ["word", "width"] ["word", "width"] (xp s_ap):=mkS
theorem sc_a2:xv ["picture", "name", "side", "row", "x", "y", "toward", "down", "upright", "level"] ["picture", "name", "side", "row"] (xp s_a2):=mkS
theorem sc_am:xv ["thing", "low", "high"] ["thing", "low", "high"] (xp s_am):=mkS
theorem sc_au:xv ["thing"] ["thing"] (xp s_au):=mkS
theorem sc_an:xv ["self", "width", "height"] ["self", "width", "height"] (xp s_an):=mkS
theorem sc_b:xv ["self", "name", "x", "y", "sides", "low", "high", "highest"] ["self", "name", "x", "y", "sides", "low", "high"] (xp s_b):=mkS
theorem sc_j:xv ["self", "side", "row"] ["self", "side", "row"] (xp s_j):=mkS
theorem sc_p:xv ["self"] ["self"] (xp s_p):=mkS
theorem sc_ac:xv ["self"] ["self"] (xp s_ac):=mkS
theorem sc_g:xv ["self", "name"] ["self", "name"] (xp s_g):=mkS
theorem sc_u:xv ["self", "name", "side", "row", "x", "y"] ["self", "name", "side", "row"] (xp s_u):=mkS
theorem sc_h:xv ["self", "name"] ["self", "name"] (xp s_h):=mkS
theorem sc_i:xv ["self", "x", "y"] ["self", "x", "y"] (xp s_i):=mkS
theorem sc_d:xv ["self", "name", "x", "y", "others", "other"] ["self", "name", "x", "y"] (xp s_d):=mkS
theorem sc_f:xv ["self", "side", "row"] ["self", "side", "row"] (xp s_f):=mkS
theorem sc_y:xv ["width", "height", "points", "seats", "picture", "name", "x", "y", "sides", "low", "high", "side", "row"] ["width", "height", "points", "seats"] (xp s_y):=mkS
theorem xcn:xv ["picture", "pairs", "signs", "name", "x", "y", "sides", "low", "high"] ["picture", "pairs"] (xp xf7):=mkS
theorem sc_a5:xv ["signs", "width", "row"] ["signs", "width", "row"] (xp s_a5):=mkS
theorem sc_af:xv ["picture", "pairs", "signs", "name", "side", "row", "x", "y", "cell"] ["picture", "pairs"] (xp s_af):=mkS
theorem sc_at:xv ["cell", "x", "row"] ["cell", "x", "row"] (xp s_at):=mkS
theorem sc_ay:xv ["picture", "pairs", "width", "signs", "name", "side", "row"] ["picture", "pairs"] (xp s_ay):=mkS
theorem sc_al:xv ["self", "last_column"] ["self", "last_column"] (xp s_al):=mkS
theorem sc_m:xv ["self", "column"] ["self", "column"] (xp s_m):=mkS
theorem sc_k:xv ["self", "row", "column", "sign"] ["self", "row", "column", "sign"] (xp s_k):=mkS
theorem sc_o:xv ["self", "row", "column", "name", "places"] ["self", "row", "column", "name"] (xp s_o):=mkS
theorem sc_z:xv ["self", "row", "column", "sign", "letters"] ["self", "row", "column", "sign"] (xp s_z):=mkS
theorem xbl:xv ["rows", "letters", "row", "column", "sign", "name", "place", "picture", "pairs"] ["rows"] (xp xf2):=mkS
theorem sc_aa:xv ["rows", "row", "text"] ["rows"] (xp s_aa):=mkS
theorem sc_as:xv ["rows", "found", "row", "text"] ["rows"] (xp s_as):=mkS
theorem sc_a3:xv ["place", "row", "column"] ["place"] (xp s_a3):=mkS
theorem sc_ag:xv ["rows", "letters", "height", "points", "seats"] ["rows", "letters"] (xp s_ag):=mkS
theorem sc_x:xv ["rows", "drawing", "row", "column", "sign"] ["rows", "drawing"] (xp s_x):=mkS
theorem sc_ak:xv ["_law_script", "_law_k"] ["_law_script", "_law_k"] (xp s_ak):=mkS
theorem sc_e:xv ["_law_cell", "_law_k", "_law_number"] ["_law_cell", "_law_k"] (xp s_e):=mkS
theorem sc_a0:xv ["_law_script", "_law_cell", "_law_width", "_law_height"] ["_law_script"] (xp s_a0):=mkS
theorem sc_az:xv ["_law_script", "_law_height", "_law_cell", "_law_thick", "_law_seats_here", "_law_k", "_law_side", "_law_row"] ["_law_script", "_law_height"] (xp s_az):=mkS
theorem sc_a1:xv ["_law_cell", "_law_name", "_law_x", "_law_y", "_law_height", "_law_sides", "_law_low", "_law_high", "_law_way"] ["_law_cell", "_law_name", "_law_x", "_law_y", "_law_height"] (xp s_a1):=mkS
theorem sc_aq:xv ["_law_cells", "_law_width", "_law_height", "_law_columns", "_law_rows", "_law_letters", "_law_points_here", "_law_cell", "_law_x", "_law_y", "_law_name"] ["_law_cells", "_law_width", "_law_height"] (xp s_aq):=mkS
theorem sc_ab:xv ["_law_height"] ["_law_height"] (xp s_ab):=mkS
theorem sc_aw:xv ["_law_cell", "_law_points_here", "_law_height", "_law_seats_here", "_law_free", "_law_pairs_here", "_law_k", "_law_point_here", "_law_side", "_law_row"] ["_law_cell", "_law_points_here", "_law_height", "_law_seats_here"] (xp s_aw):=mkS
theorem sc_a4:xv ["_law_width", "_law_side"] ["_law_width", "_law_side"] (xp s_a4):=mkS
theorem sc_ax:xv ["_law_rim_here", "_law_x", "_law_y", "_law_row", "_law_found"] ["_law_rim_here", "_law_x", "_law_y", "_law_row"] (xp s_ax):=mkS
theorem sc_aj:xv ["_law_width", "_law_height", "_law_points_here", "_law_seats_here", "_law_pairs_here", "_law_signs", "_law_name", "_law_side", "_law_row", "_law_x", "_law_y", "_law_cell", "_law_sign", "_law_point_here", "_law_rows"] ["_law_width", "_law_height", "_law_points_here", "_law_seats_here", "_law_pairs_here"] (xp s_aj):=mkS
theorem sc_ao:xv ["_law_thing", "_law_row", "_law_kinds", "_law_place", "e"] ["_law_thing", "_law_row"] (xp s_ao):=mkS
theorem sc_ad:xv ["_law_row", "_law_cell", "_law_some"] ["_law_row", "_law_cell"] (xp s_ad):=mkS
theorem sc_ar:xv ["_law_rows", "_law_cell", "_law_way", "_law_number", "_law_short", "_law_first", "_law_second", "_law_made"] ["_law_rows", "_law_cell"] (xp s_ar):=mkS
theorem xcs:xv ["_law_script", "_law_width", "_law_height", "_law_seats_here", "_law_points_here", "_law_pairs_here", "_law_rows", "_law_cell", "_law_thing", "_law_row", "_law_shown"] ["_law_script"] (xp xm0):=mkS
end S75
namespace S75
open PySem L2 XL PyProof.Rows
theorem xbf {K:Zd}{v:Value}:Yw K v v=some true:=if_pos (by simp)
theorem xo {H H':Hp}{p:Addr}{o:HO} (s:Same H H') (hp:H' p=none):Same H (L2.upd H' p o):=fun b u z=>by
 have z':=s b u z;rw[xh (xi z' hp)];exact z'
theorem xrg {H:Hp}{x dx:Addr}{a b c:HO} (hx:H x=none) (hd:H dx=none):Same H (upd (upd (upd H dx a) x b) x c):=fun y o e=>by
 rw[xh (xi e hx),xh (xi e hx),xh (xi e hd)];exact e
def xaf (b:Bool):Str:=if b then "left" else "right"
def xeb (t:Adr) (H:Hp) (p:Addr) (b:Bool) (w:Int):Prop:=∃ dx,H p=some (.ins (if b then t.C_ah else t.C_r) dx [("width",.int w)])
inductive xug (K:Zd) (vs:List V) (H:Hp) (Q:VK) (_:XK):Prop
 | mk (p C dx:Addr) (n:Int) (e_:vs=[.ref p,.int n]) (r_:H p=some (.ins C dx [])/\Cls K C/\xea K C "width"/\Q .non (upd H p (.ins C dx [("width",.int n)])))
inductive sp1 (v:V) (vs:List V) (H:Hp) (Q:VK) (_:XK):Prop
 | mk (p:V) (e_:vs=[p]) (r_:Q v H)
inductive xwm (vs:List V) (H:Hp) (Q:VK) (_:XK):Prop
 | mk (p:V) (x:V) (e_:vs=[p,x]) (r_:Q x H)
inductive xrk (t:Adr) (vs:List V) (H:Hp) (Q:VK) (_:XK):Prop
 | mk (p:Addr) (n:Int) (e_:vs=[.ref p]) (r_:xeb t H p false n/\Q (.int (n+1)) H)
inductive xwi (t:Adr) (vs:List V) (H:Hp) (Q:VK) (_:XK):Prop
 | mk (p:Addr) (n x:Int) (e_:vs=[.ref p,.int x]) (r_:xeb t H p false n/\Q (.int (n+1-x)) H)
inductive xhd (t:Adr) (vs:List V) (H:Hp) (Q:VK) (_:XK):Prop
 | mk (b:Bool) (n:Int) (e_:vs=[.str (xaf b),.int n]) (r_:∀ p H',H p=none->xeb t H' p b n->Same H H'->Q (.ref p) H')
section
variable {P:Program}{w:World}{K:Zd}{mg:Str->Option Value}{base:Heap}{t:Adr}
theorem ok_av (T:Txt w K mg t):FnOk true P w K mg base (CXo P w) 1 t.f_av t.d_av ["self", "width"] (xug K):=by
 refine T.F_av.okn (k:=0) sc_av (fun vs H Q E h=>?_) (fun cdv A outer s H vs Q E hr h=>?_)
 .obtain ⟨p,C,dx,n,rfl,_⟩:=h;rfl
 .obtain ⟨p,C,dx,n,rfl,h⟩:=h;refine⟨_,xn (xdr (pv 0) (pv 1) rfl),?_⟩;obtain⟨hp,c,na,q⟩:=h;exact⟨_,rfl,_,rfl,p,C,dx,[],rfl,hp,c,na,(by show 0<1000; decide),q⟩
theorem ok_w (T:Txt w K mg t):FnOk true P w K mg base (CXo P w) 1 t.f_w t.d_w ["self"] (sp1 (.int 0)):=by
 refine T.F_w.okn (k:=0) sc_w (fun vs H Q E h=>?_) (fun cdv A outer s H vs Q E hr h=>?_)
 .obtain ⟨p,rfl,_⟩:=h;rfl
 .obtain ⟨p,rfl,h⟩:=h;refine⟨_,xn (x0 (xk)),?_⟩;exact h
theorem ok_ae (T:Txt w K mg t):FnOk true P w K mg base (CXo P w) 1 t.f_ae t.d_ae ["self"] (sp1 (.int (-1))):=by
 refine T.F_ae.okn (k:=0) sc_ae (fun vs H Q E h=>?_) (fun cdv A outer s H vs Q E hr h=>?_)
 .obtain ⟨p,rfl,_⟩:=h;rfl
 .obtain ⟨p,rfl,h⟩:=h;refine⟨_,xn (x0 (xrb xoj (xk))),?_⟩;exact⟨1,rfl,h⟩
theorem ok_q (T:Txt w K mg t):FnOk true P w K mg base (CXo P w) 1 t.f_q t.d_q ["self", "x"] (xwm):=by
 refine T.F_q.okn (k:=0) sc_q (fun vs H Q E h=>?_) (fun cdv A outer s H vs Q E hr h=>?_)
 .obtain ⟨p,x,rfl,_⟩:=h;rfl
 .obtain ⟨p,x,rfl,h⟩:=h;refine⟨_,xn (x0 (pv 1)),?_⟩;exact⟨_,rfl,h⟩
theorem ok_v (T:Txt w K mg t):FnOk true P w K mg base (CXo P w) 1 t.f_v t.d_v ["self"] (sp1 (.int 1)):=by
 refine T.F_v.okn (k:=0) sc_v (fun vs H Q E h=>?_) (fun cdv A outer s H vs Q E hr h=>?_)
 .obtain ⟨p,rfl,_⟩:=h;rfl
 .obtain ⟨p,rfl,h⟩:=h;refine⟨_,xn (x0 (xk)),?_⟩;exact h
theorem ok_s (T:Txt w K mg t):FnOk true P w K mg base (CXo P w) 1 t.f_s t.d_s ["self"] (xrk t):=by
 refine T.F_s.okn (k:=0) sc_s (fun vs H Q E h=>?_) (fun cdv A outer s H vs Q E hr h=>?_)
 .obtain ⟨p,n,rfl,_⟩:=h;rfl
 .obtain ⟨p,n,rfl,h⟩:=h;refine⟨_,xn (x0 (xu xai (xaa (pv 0) rfl) (xk))),?_⟩;obtain⟨⟨dx,hp⟩,q⟩:=h;exact⟨_,rfl,p,t.C_r,dx,_,_,rfl,hp,T.c_r,T.n_be,rfl,_,_,rfl,rfl,q⟩
theorem ok_l (T:Txt w K mg t):FnOk true P w K mg base (CXo P w) 1 t.f_l t.d_l ["self", "x"] (xwi t):=by
 refine T.F_l.okn (k:=0) sc_l (fun vs H Q E h=>?_) (fun cdv A outer s H vs Q E hr h=>?_)
 .obtain ⟨p,n,x,rfl,_⟩:=h;rfl
 .obtain ⟨p,n,x,rfl,h⟩:=h;refine⟨_,xn (x0 (xu xe0 (xu xai (xaa (pv 0) rfl) (xk)) (pv 1))),?_⟩;obtain⟨⟨dx,hp⟩,q⟩:=h;exact⟨_,rfl,p,t.C_r,dx,_,_,rfl,hp,T.c_r,T.n_be,rfl,_,_,rfl,rfl,_,rfl,_,_,rfl,rfl,q⟩
theorem ok_ap (T:Txt w K mg t):FnOk true P w K mg base (CXo P w) 3 t.f_ap t.d_ap ["word", "width"] (xhd t):=by
 refine T.F_ap.okn (k:=2) sc_ap (fun vs H Q E h=>?_) (fun cdv A outer s H vs Q E hr h=>?_)
 .obtain ⟨b,n,rfl,_⟩:=h;rfl
 .obtain ⟨b,n,rfl,h⟩:=h;refine⟨_,xj (xag (xa9 (xw xba rfl T.n_isinstance boot_isinstance (xb (pv 0) (xb (xca (v:=.ty "str") rfl T.n_str boot_str rfl) (xg))))) (xj (xag (x9 xbr (pv 0) (x6) (x8 _)) (xn (x0 (xe7 T.k_ah (ok_av T) (hmm hr) rfl T.g_ah T.b_av .nil xm (xb (pv 1) (xg))))) (x5))
   (xn (xag (x9 xbr (pv 0) (x6) (x8 _)) (xn (x0 (xe7 T.k_r (ok_av T) (hmm hr) rfl T.g_r T.b_av .nil xm (xb (pv 1) (xg))))) (x5)))) (x5))
   (xn (xa1)),?_⟩
  cases b with
  | true =>
   refine⟨_,rfl,_,_,rfl,.inl ⟨_,_,true,.str _,rfl,xbf,true,rfl,iteT ?_⟩⟩;refine⟨_,rfl,rfl,_,rfl,?_⟩;refine ifP (by decide +kernel) ?_;exact⟨_,rfl,fun x dx hx hdx ne=>⟨x,t.C_ah,dx,n,rfl,xf,T.c_ah,T.n_bo,rfl,h x _ hx ⟨dx,xf⟩ (xrg hx hdx)⟩⟩
  | false =>
   refine⟨_,rfl,_,_,rfl,.inl ⟨_,_,true,.str _,rfl,xbf,true,rfl,iteT ?_⟩⟩;refine⟨_,rfl,rfl,_,rfl,?_⟩;refine ifN (by decide +kernel) ?_;refine⟨_,rfl,rfl,_,rfl,?_⟩;refine ifP (by decide +kernel) ?_;exact⟨_,rfl,fun x dx hx hdx ne=>⟨x,t.C_r,dx,n,rfl,xf,T.c_r,T.n_be,rfl,h x _ hx ⟨dx,xf⟩ (xrg hx hdx)⟩⟩
def isNm (x:Str):Bool:=decide (x.length=1)&&(!decide (x.cps.toList<[97])&&!decide ([122]<x.cps.toList))
inductive xv8 (vs:List V) (H:Hp) (Q:VK) (_:XK):Prop
 | mk (i lo hi:Int) (e_:vs=[.int i,.int lo,.int hi]) (r_:lo<=i/\i<=hi/\Q (.bl true) H)
inductive xvf (vs:List V) (H:Hp) (Q:VK) (_:XK):Prop
 | mk (x:Str) (e_:vs=[.str x]) (r_:isNm x=true/\Q (.bl true) H)
theorem xm8:("a":Str).cps.toList=[97]:=by decide +kernel
theorem xrc:("z":Str).cps.toList=[122]:=by decide +kernel
theorem ok_am (T:Txt w K mg t):FnOk true P w K mg base (CXo P w) 1 t.f_am t.d_am ["thing", "low", "high"] (xv8):=by
 refine T.F_am.okn (k:=0) sc_am (fun vs H Q E h=>?_) (fun cdv A outer s H vs Q E hr h=>?_)
 .obtain ⟨i,lo,hi,rfl,_⟩:=h;rfl
 .obtain ⟨i,lo,hi,rfl,h⟩:=h;refine⟨_,xn (x0 (xcr (xw xba rfl T.n_isinstance boot_isinstance (xb (pv 0) (xb (xca (v:=.ty "int") rfl T.n_int boot_int rfl) (xg)))) (xcr (xtu (xw xba rfl T.n_isinstance boot_isinstance (xb (pv 0) (xb (xca (v:=.ty "bool") rfl T.n_bool boot_bool rfl) (xg))))) (xc4 (xg5 xdm xdm (pv 1) (pv 0) (pv 2)))))),?_⟩;obtain⟨c1,c2,q⟩:=h;refine⟨_,rfl,_,_,rfl,.inl ⟨_,_,true,.int i,rfl,xbf,true,rfl,iteT ?_⟩⟩;refine⟨_,rfl,_,_,rfl,.inl ⟨_,_,false,.int i,rfl,(by rfl),false,rfl,true,rfl,iteT ?_⟩⟩;refine⟨_,rfl,_,rfl,_,_,rfl,rfl,_,rfl,ite2 (fun c=>?_) (fun c=>?_)⟩
  .refine ⟨_,rfl,_,_,rfl,rfl,?_⟩;show Q (.bl (decide (i<=hi))) H;rw[decide_eq_true c2];exact q
  .exact absurd (decide_eq_true c1) c
theorem ok_au (T:Txt w K mg t):FnOk true P w K mg base (CXo P w) 1 t.f_au t.d_au ["thing"] (xvf):=by
 refine T.F_au.okn (k:=0) sc_au (fun vs H Q E h=>?_) (fun cdv A outer s H vs Q E hr h=>?_)
 .obtain ⟨x,rfl,_⟩:=h;rfl
 .obtain ⟨x,rfl,h⟩:=h;refine⟨_,xn (x0 (xcr (xw xba rfl T.n_isinstance boot_isinstance (xb (pv 0) (xb (xca (v:=.ty "str") rfl T.n_str boot_str rfl) (xg)))) (xcr (xce xbr (xw xbc rfl T.n_len J0 (xb (pv 0) (xg))) (xk) (x8 _)) (xc4 (xg5 xef xef (x6) (pv 0) (x6)))))),?_⟩;obtain⟨hn,q⟩:=h;unfold isNm at hn;simp only[Z4,decide_eq_true_eq,Yu,decide_eq_false_iff_not] at hn;obtain⟨l1,n1,n2⟩:=hn;refine⟨_,rfl,_,_,rfl,.inl ⟨_,_,true,.str x,rfl,xbf,true,rfl,iteT ?_⟩⟩;refine⟨_,rfl,_,rfl,(by rw[l1]; decide),rfl,_,rfl,ite2 (fun c=>?_) (fun c=>?_)⟩
  .refine ⟨_,rfl,_,_,rfl,rfl,_,rfl,ite2 (fun d=>?_) (fun d=>?_)⟩
   .refine ⟨_,_,rfl,rfl,?_⟩;rw[xrc,decide_eq_false n2];exact q
   .rw [xm8,decide_eq_false n1] at d;exact absurd rfl d
  .exact absurd (decide_eq_true (by rw[l1]; rfl)) c
structure Pt where
 nm:Str
 x:Int
 y:Int
 sd:Str
 lo:Int
 hi:Int
def ptV (p:Pt):List V:=[.int p.x,.int p.y,.str p.sd,.int p.lo,.int p.hi]
inductive Pl (H:Hp):List Pt->List (Key × V)->Prop
 | nil:Pl H [] []
 | cons {p:Pt}{q:Addr}{ps:List Pt}{kvs:List (Key × V)} (h:H q=some (.tup (ptV p))) (r:Pl H ps kvs):Pl H (p::ps) ((.inr p.nm,.ref q)::kvs)
inductive PtsL (H:Hp):List Pt->List Addr->Prop
 | nil:PtsL H [] []
 | cons {p:Pt}{q:Addr}{ps:List Pt}{qs:List Addr} (h:H q=some (.tup (.str p.nm::ptV p))) (r:PtsL H ps qs):PtsL H (p::ps) (q::qs)
theorem xvt {Z:L2.St}{H:Hp}{A B:Hp->Prop} (h:A H):xdk Z H (fun b H4=>if b=true then A H4 else B H4):=by
 show if true=true then A H else B H
 rw[if_pos rfl];exact h
theorem xv1 {i:Nat}{v:V}{Z:L2.St}{H:Hp}{A B:L2.St->Hp->Prop} (h:A (Z.set i (some v)) H):xem i v Z H (fun σ' H'=>xdk σ' H' fun b H4=>if b=true then A σ' H4 else B σ' H4):=by
 show if true=true then A (Z.set i (some v)) H else B (Z.set i (some v)) H
 rw[if_pos rfl];exact h
def Tups (H H':Hp):Prop:=∀ b xs,H b=some (.tup xs)->H' b=some (.tup xs)
theorem Pl.keep {H H':Hp} (s:Tups H H') {ps:List Pt}{kvs:List (Key × V)} (h:Pl H ps kvs):Pl H' ps kvs:=by
 induction h with
 | nil=>exact .nil
 | cons h _ ih=>exact .cons (s _ _ h) ih
theorem PtsL.keep {H H':Hp} (s:Tups H H') {ps:List Pt}{qs:List Addr} (h:PtsL H ps qs):PtsL H' ps qs:=by
 induction h with
 | nil=>exact .nil
 | cons h _ ih=>exact .cons (s _ _ h) ih
theorem Pl.len {H:Hp}{ps:List Pt}{kvs:List (Key × V)} (h:Pl H ps kvs):kvs.length=ps.length:=by
 induction h with
 | nil=>rfl
 | cons _ _ ih=>simp[ih]
theorem PtsL.len {H:Hp}{ps:List Pt}{qs:List Addr} (h:PtsL H ps qs):qs.length=ps.length:=by
 induction h with
 | nil=>rfl
 | cons _ _ ih=>simp[ih]
theorem Pl.find {H:Hp}{ps:List Pt}{kvs:List (Key × V)} (h:Pl H ps kvs) {nm:Str}{pt:Pt} (e:ps.find? (fun p=>decide (p.nm=nm))=some pt):∃ q,valV kvs (.inr nm)=some (.ref q)/\H q=some (.tup (ptV pt)):=by
 induction h with
 | nil=>simp at e
 | @cons p q ps kvs h _ ih =>
  by_cases c:p.nm=nm
  .rw [QF (by simpa using c)] at e;cases e;exact⟨q,xa7 (by rw[c]),h⟩
  .rw [QG (by simpa using c)] at e;obtain⟨q',h1,h2⟩:=ih e;exact⟨q',by rw[xa2 (fun z=>c (J6.inj z))]; exact h1,h2⟩
theorem Pl.no {H:Hp}{ps:List Pt}{kvs:List (Key × V)} (h:Pl H ps kvs) {nm:Str} (e:∀ p∈ps,p.nm≠nm):valV kvs (.inr nm)=none:=by
 induction h with
 | nil=>rfl
 | @cons p q ps kvs h _ ih =>
  rw[xa2 (fun z=>e p Zr (J6.inj z))];exact ih fun p' hp=>e p' (Zt _ hp)
theorem Pl.get {H:Hp}{ps:List Pt}{kvs:List (Key × V)} (h:Pl H ps kvs) {i:Nat}{k:Key}{x:V} (e:kvs[i]?=some (k,x)):∃ p q,ps[i]?=some p/\k=.inr p.nm/\x=.ref q/\H q=some (.tup (ptV p)):=by
 induction h generalizing i with
 | nil=>simp at e
 | @cons p q ps kvs h _ ih =>
  cases i with
  | zero =>
   simp at e;exact⟨p,q,rfl,e.1.symm,e.2.symm,h⟩
  | succ j=>exact ih (by simpa using e)
theorem PtsL.get {H:Hp}{ps:List Pt}{qs:List Addr} (h:PtsL H ps qs) {i:Nat}{q:Addr} (e:qs[i]?=some q):∃ p,ps[i]?=some p/\H q=some (.tup (.str p.nm::ptV p)):=by
 induction h generalizing i with
 | nil=>simp at e
 | @cons p q' ps qs h _ ih =>
  cases i with
  | zero =>
   simp at e;subst e;exact⟨p,rfl,h⟩
  | succ j=>exact ih (by simpa using e)
theorem Pl.snoc {H:Hp}{ps:List Pt}{kvs:List (Key × V)} (h:Pl H ps kvs) {p:Pt}{q:Addr} (e:H q=some (.tup (ptV p))):Pl H (ps++[p]) (kvs++[(.inr p.nm,.ref q)]):=by
 induction h with
 | nil=>exact .cons e .nil
 | cons h _ ih=>exact .cons h ih
theorem PtsL.snoc {H:Hp}{ps:List Pt}{qs:List Addr} (h:PtsL H ps qs) {p:Pt}{q:Addr} (e:H q=some (.tup (.str p.nm::ptV p))):PtsL H (ps++[p]) (qs++[q]):=by
 induction h with
 | nil=>exact .cons e .nil
 | cons h _ ih=>exact .cons h ih
abbrev picF (w h:Int) (dp do_:Addr):List (Str × V):=[("width",.int w),("height",.int h),("placed",.ref dp),("opened",.ref do_)]
structure Pic (t:Adr) (H:Hp) (a dp do_:Addr) (w h:Int) (ps:List Pt):Prop where
 ins:∃ dx,H a=some (.ins t.C_c dx (picF w h dp do_))
 pl:∃ kvs,H dp=some (.dK kvs)/\Pl H ps kvs
 w1:1<=w
 w2:w<=30
 h1:1<=h
 h2:h<=16
 len:ps.length<=12
theorem Same.tups {H H':Hp} (s:Same H H'):Tups H H':=fun b xs e=>s b _ e
theorem Pic.same {t:Adr}{H H':Hp}{a dp do_:Addr}{w h:Int}{ps:List Pt} (s:Same H H') (p:Pic t H a dp do_ w h ps):Pic t H' a dp do_ w h ps :=
 ⟨let ⟨dx,e⟩:=p.ins; ⟨dx,s _ _ e⟩,let ⟨kvs,e,q⟩:=p.pl; ⟨kvs,s _ _ e,q.keep (Same.tups s)⟩,p.w1,p.w2,p.h1,p.h2,p.len⟩
theorem xbm {w h:Int}{dp do_:Addr}{m:Str} (e:((["width", "height", "placed", "opened"]:List Str).all fun k=>!(m == k))=true):(picF w h dp do_).lookup m=none:=by
 simp only[Qz,List.all_nil,Z4,Yu] at e;obtain⟨e1,e2,e3,e4,_⟩:=e;unfold picF;rw[Z2,e1];show ZX m [("height",V.int h),("placed",V.ref dp),("opened",V.ref do_)]=none;rw[Z2,e2];show ZX m [("placed",V.ref dp),("opened",V.ref do_)]=none;rw[Z2,e3];show ZX m [("opened",V.ref do_)]=none;rw[Z2,e4];rfl
theorem lkW {w h:Int}{dp do_:Addr}:(picF w h dp do_).lookup ("width":Str)=some (.int w):=by
 unfold picF;rw[Z2,show (("width":Str) == "width")=true from by decide +kernel]
theorem lkH {w h:Int}{dp do_:Addr}:(picF w h dp do_).lookup ("height":Str)=some (.int h):=by
 unfold picF;rw[Z2,show (("height":Str) == "width")=false from by decide +kernel];show ZX ("height":Str) [("height",V.int h),("placed",V.ref dp),("opened",V.ref do_)]=_;rw[Z2,show (("height":Str) == "height")=true from by decide +kernel]
theorem lkP {w h:Int}{dp do_:Addr}:(picF w h dp do_).lookup ("placed":Str)=some (.ref dp):=by
 unfold picF;rw[Z2,show (("placed":Str) == "width")=false from by decide +kernel];show ZX ("placed":Str) [("height",V.int h),("placed",V.ref dp),("opened",V.ref do_)]=_;rw[Z2,show (("placed":Str) == "height")=false from by decide +kernel];show ZX ("placed":Str) [("placed",V.ref dp),("opened",V.ref do_)]=_;rw[Z2,show (("placed":Str) == "placed")=true from by decide +kernel]
inductive xte (t:Adr) (vs:List V) (H:Hp) (Q:VK) (_:XK):Prop
 | mk (p dx:Addr) (w h:Int) (e_:vs=[.ref p,.int w,.int h]) (r_:H p=some (.ins t.C_c dx [])/\1<=w/\w<=30/\1<=h/\h<=16/\∀ H' dp do_,H dp=none->H do_=none->(∀ b u,b≠p->H b=some u->H' b=some u)->Pic t H' p dp do_ w h []->H' do_=some (.dT [])->Q .non H')
inductive spCN (t:Adr) (vs:List V) (H:Hp) (Q:VK) (_:XK):Prop
 | mk (a dp do_:Addr) (pw ph:Int) (ps:List Pt) (nm:Str) (pt:Pt) (e_:vs=[.ref a,.str nm]) (r_:Pic t H a dp do_ pw ph ps/\isNm nm=true/\ps.find? (fun p=>decide (p.nm=nm))=some pt/\Q .non H)
inductive spCC (t:Adr) (vs:List V) (H:Hp) (Q:VK) (_:XK):Prop
 | mk (a dp do_:Addr) (pw ph:Int) (ps:List Pt) (x y:Int) (e_:vs=[.ref a,.int x,.int y]) (r_:Pic t H a dp do_ pw ph ps/\1<=x/\x<=pw/\1<=y/\y<=ph/\Q .non H)
inductive xvx (t:Adr) (vs:List V) (H:Hp) (Q:VK) (_:XK):Prop
 | mk (a dp do_:Addr) (pw ph:Int) (ps:List Pt) (e_:vs=[.ref a]) (r_:Pic t H a dp do_ pw ph ps/\∀ H' l qs,Same H H'->H' l=some (.lst (qs.map V.ref))->PtsL H' ps qs->Q (.ref l) H')
inductive spCL (t:Adr) (vs:List V) (H:Hp) (Q:VK) (_:XK):Prop
 | mk (a dp do_:Addr) (pw ph:Int) (ps:List Pt) (nm:Str) (x y:Int) (e_:vs=[.ref a,.str nm,.int x,.int y]) (r_:Pic t H a dp do_ pw ph ps/\(∀ p∈ps,p.nm≠nm->p.x≠x/\p.y≠y)/\∀ H',Same H H'->Q .non H')
inductive spCS (t:Adr) (vs:List V) (H:Hp) (Q:VK) (_:XK):Prop
 | mk (a dp do_:Addr) (pw ph:Int) (ps:List Pt) (b:Bool) (r:Int) (e_:vs=[.ref a,.str (xaf b),.int r]) (r_:Pic t H a dp do_ pw ph ps/\1<=r/\r<=ph/\∀ H',Same H H'->Q .non H')
inductive xvh (t:Adr) (vs:List V) (H:Hp) (Q:VK) (_:XK):Prop
 | mk (a dp do_:Addr) (pw ph:Int) (ps:List Pt) (nm:Str) (x y:Int) (sd:Str) (lo hi:Int) (hv:V) (e_:vs=[.ref a,.str nm,.int x,.int y,.str sd,.int lo,hv]) (r_:Pic t H a dp do_ pw ph ps/\((hv=.non/\hi=ph)\/hv=.int hi)/\isNm nm=true/\1<=x/\x<=pw/\1<=y/\y<=ph/\(sd="left"\/sd="right"\/sd="both")/\1<=lo/\lo<=hi/\hi<=ph/\(∀ p∈ps,p.nm≠nm/\p.x≠x/\p.y≠y)/\ps.length<12/\∀ H',(∀ b u,b≠dp->H b=some u->H' b=some u)->Pic t H' a dp do_ pw ph (ps++[⟨nm,x,y,sd,lo,hi⟩])->Q .non H')
inductive xws (t:Adr) (vs:List V) (H:Hp) (Q:VK) (_:XK):Prop
 | mk (a dp do_:Addr) (pw ph:Int) (ps:List Pt) (nm:Str) (pt:Pt) (e_:vs=[.ref a,.str nm]) (r_:Pic t H a dp do_ pw ph ps/\isNm nm=true/\ps.find? (fun p=>decide (p.nm=nm))=some pt/\∀ H' q,Same H H'->H' q=some (.tup [.int pt.x,.int pt.y])->Q (.ref q) H')
def lenI (w x y:Int) (b:Bool) (r:Int):Int:=(if b then x else w+1-x)+(if y-r<0 then -(y-r) else y-r)
inductive xvg (t:Adr) (vs:List V) (H:Hp) (Q:VK) (_:XK):Prop
 | mk (a dp do_:Addr) (pw ph:Int) (ps:List Pt) (nm:Str) (pt:Pt) (b:Bool) (r:Int) (e_:vs=[.ref a,.str nm,.str (xaf b),.int r]) (r_:Pic t H a dp do_ pw ph ps/\isNm nm=true/\ps.find? (fun p=>decide (p.nm=nm))=some pt/\1<=r/\r<=ph/\∀ H',Same H H'->Q (.int (lenI pw pt.x pt.y b r)) H')
theorem ok_an (T:Txt w K mg t):FnOk true P w K mg base (CXo P w) 2 t.f_an t.d_an ["self", "width", "height"] (xte t):=by
 refine T.F_an.okn (k:=1) sc_an (fun vs H Q E h=>?_) (fun cdv A outer s H vs Q E hr h=>?_)
 .obtain ⟨p,dx,pw,ph,rfl,_⟩:=h;rfl
 .obtain ⟨p,dx,pw,ph,rfl,h⟩:=h;refine⟨_,xj (xag (PW.pt (xcj (xbh (xa9 (xt (ok_am T) (hmm hr) rfl T.g_am T.F_am.kp T.b_am .nil xm (xb (pv 1) (xb (xk) (xb (xbn (v:=.int 30) rfl T.v_bf.choose_spec ⟨_,rfl⟩) (xg))))))) (xcd (xbh (xa9 (xt (ok_am T) (hmm hr) rfl T.g_am T.F_am.kp T.b_am .nil xm (xb (pv 2) (xb (xk) (xb (xbn (v:=.int 16) rfl T.v_bn.choose_spec ⟨_,rfl⟩) (xg)))))))))) (xn (xa1)) (x5))
   (xj (xdr (pv 0) (pv 1) rfl)
   (xj (xdr (pv 0) (pv 2) rfl)
   (xj (xdr (pv 0) (xfd) rfl)
   (xn (xdr (pv 0) (xg6) rfl))))),?_⟩
  obtain⟨hp,w1,w2,h1,h2,q⟩:=h;refine⟨_,rfl,pw,1,30,rfl,w1,w2,true,rfl,iteF ⟨_,rfl,ph,1,16,rfl,h1,h2,true,rfl,iteF ?_⟩⟩;refine⟨_,rfl,_,rfl,p,_,dx,_,rfl,hp,T.c_c,T.n_a7,(by show 0<1000; decide),?_⟩;refine⟨_,rfl,_,rfl,p,_,dx,_,rfl,xf,T.c_c,T.n_a8,(by show 1<1000; decide),?_⟩;rw[xe2];refine fun dp hdp=>?_;have n1:p≠dp:=xi xf hdp;refine⟨_,rfl,p,_,dx,_,rfl,(by rw[xh n1]; exact xf),T.c_c,T.n_a6,(by show 2<1000; decide),fun do_ hdo=>?_⟩;have n2:p≠do_:=xi xf hdo;have n3:dp≠do_:=xi (by rw[xh (ZI n1)]; exact xf) hdo;refine⟨_,rfl,p,_,dx,_,rfl,(by rw[xh n2]; exact xf),T.c_c,T.n_bd,(by show 3<1000; decide),?_⟩;rw[xh (ZI n1)] at hdp;have hdo':H do_=none:=by
   have z:=hdo;rw[xh (ZI n2),xh (ZI n3),xh (ZI n2)] at z;exact z
  refine q _ dp do_ hdp hdo' (fun b u nb e=>?_) ⟨⟨dx,xf⟩,⟨[],?_,.nil⟩,w1,w2,h1,h2,ZW _⟩ ?_
  .have c1:b≠dp:=xi e hdp;have c2:b≠do_:=fun z=>by
    subst z;rw[xh nb,xh c1,xh nb] at hdo;rw[e] at hdo;cases hdo
   rw[xh nb,xh c2,xh nb,xh c1,xh nb];exact e
  .rw [xh (ZI n1),xh n3,xh (ZI n1)];exact xf
  .rw [xh (ZI n2)];exact xf
theorem ok_h (T:Txt w K mg t):FnOk true P w K mg base (CXo P w) 2 t.f_h t.d_h ["self", "name"] (spCN t):=by
 refine T.F_h.okn (k:=1) sc_h (fun vs H Q E h=>?_) (fun cdv A outer s H vs Q E hr h=>?_)
 .obtain ⟨a,dp,do_,pw,ph,ps,nm,pt,rfl,_⟩:=h;rfl
 .obtain ⟨a,dp,do_,pw,ph,ps,nm,pt,rfl,h⟩:=h;refine⟨_,xn (xag (PW.pt (xcj (xbh (xa9 (xt (ok_au T) (hmm hr) rfl T.g_au T.F_au.kp T.b_au .nil xm (xb (pv 1) (xg))))) (xcd (xds (xdt (xa5 hr) (pv 1) (xaa (pv 0) rfl)))))) (xn (xa1)) (x5)),?_⟩;obtain⟨pic,hn,hf,q⟩:=h;obtain⟨⟨dx,hp⟩,⟨kvs,hk,pl⟩,_⟩:=id pic;obtain⟨q0,e,_⟩:=pl.find hf;exact⟨_,rfl,nm,rfl,hn,true,rfl,iteF ⟨_,rfl,_,rfl,a,_,dx,_,_,rfl,hp,T.c_c,T.n_a6,lkP,dp,some (.ref q0),rfl,(by rw[<- e]; exact DGet.k (k:=.inr nm) hk),false,rfl,iteF q⟩⟩
theorem ok_i (T:Txt w K mg t):FnOk true P w K mg base (CXo P w) 2 t.f_i t.d_i ["self", "x", "y"] (spCC t):=by
 refine T.F_i.okn (k:=1) sc_i (fun vs H Q E h=>?_) (fun cdv A outer s H vs Q E hr h=>?_)
 .obtain ⟨a,dp,do_,pw,ph,ps,x,y,rfl,_⟩:=h;rfl
 .obtain ⟨a,dp,do_,pw,ph,ps,x,y,rfl,h⟩:=h;refine⟨_,xn (xag (PW.pt (xcj (xbh (xa9 (xt (ok_am T) (hmm hr) rfl T.g_am T.F_am.kp T.b_am .nil xm (xb (pv 1) (xb (xk) (xb (xaa (pv 0) rfl) (xg))))))) (xcd (xbh (xa9 (xt (ok_am T) (hmm hr) rfl T.g_am T.F_am.kp T.b_am .nil xm (xb (pv 2) (xb (xk) (xb (xaa (pv 0) rfl) (xg)))))))))) (xn (xa1)) (x5)),?_⟩;obtain⟨pic,x1,x2,y1,y2,q⟩:=h;obtain⟨⟨dx,hp⟩,_,_⟩:=id pic;exact⟨_,rfl,_,rfl,a,_,dx,_,_,rfl,hp,T.c_c,T.n_a7,lkW,x,1,pw,rfl,x1,x2,true,rfl,iteF ⟨_,rfl,_,rfl,a,_,dx,_,_,rfl,hp,T.c_c,T.n_a8,lkH,y,1,ph,rfl,y1,y2,true,rfl,iteF q⟩⟩
theorem ok_p (T:Txt w K mg t):FnOk true P w K mg base (CXo P w) 1 t.f_p t.d_p ["self"] (xvx t):=by
 refine T.F_p.okn (k:=0) sc_p (fun vs H Q E h=>?_) (fun cdv A outer s H vs Q E hr h=>?_)
 .obtain ⟨a,dp,do_,pw,ph,ps,rfl,_⟩:=h;rfl
 .obtain ⟨a,dp,do_,pw,ph,ps,rfl,h⟩:=h;refine⟨_,xn (x0 (xsl (xb0 rfl (xa4 (zs:=["name", "rest"]) (ys:=[]) (fr:=[]) (N0:=["self"]) (sc0:=xp s_p) (by decide +kernel) rfl rfl rfl) (xfg (xaa (pv 0) rfl)) (fun _ _ _ _ _ ow nd=>(xan rfl (xr (xq (i:=0) nd rfl (Zp (ow _ (by simp))) (Jf (ow _ (by simp)))) (xr (xq (i:=1) nd rfl (Zp (ow _ (by simp))) (Jf (ow _ (by simp)))) (xad))):PG _ _ (gTup K 2 _))) (xe4 (xbt (by decide) (xbt (by decide) (xec)))) (fun _ _ _ _ _=>xbk) (fun _ _ _ _ _=>xu (r:=xj3 K) xil (x4 (xb (pv 0) (xg))) (pv 1))))),?_⟩;obtain⟨pic,q⟩:=h;obtain⟨⟨dx,hp⟩,⟨kvs,hk,pl⟩,_⟩:=id pic;refine⟨_,rfl,a,_,dx,_,_,rfl,hp,T.c_c,T.n_a6,lkP,dp,kvs,rfl,hk,fun ob nf l hl=>?_⟩;have nl:l≠dp:=fun z=>by
   rw[z,xf] at hl;cases hl
  have hl0:H l=none:=by rwa [xh nl] at hl
  refine xdi kvs.length (fun i xs H2=>∃ qs:List Addr,xs=qs.map V.ref/\qs.length<=i/\H2 dp=some (.frz ob (.dK kvs))/\(∀ b u,b≠dp->H b=some u->H2 b=some u)/\H2 l=some (.lst xs)/\PtsL H2 (ps.take i) qs) ?_ ?_ ?_ ?_
  .refine ⟨[],rfl,Zj _,?_,fun b u nb e=>?_,xf,by simpa using PtsL.nil⟩
   .rw [xh (ZI nl)];exact xf
   .rw [xh (xi e hl0),xh nb];exact e
  .rintro i xs H2 lt ⟨qs,_,_,hd,_⟩;exact⟨hd,lt⟩
  .rintro i xs H2 v H3 lt ⟨qs,rfl,ql,hd,sm,hl2,pts⟩ ⟨p,k,x,hx,rfl,hpn,rfl⟩ N hN;obtain⟨pt,q0,hpt,rfl,rfl,hq0⟩:=pl.get hx;have e0:H2 q0=some (.tup (ptV pt)):=sm _ _ (xae hq0 hk (fun z=>nomatch z)) hq0;refine⟨p,_,rfl,SqT.of xf,rfl,_,_,rfl,_,_,rfl,rfl,?_⟩;refine xvt ?_;have n0:q0≠p:=xi e0 hpn;refine⟨_,rfl,(by show 1<=sizeLine; decide),fun p1 h1=>⟨_,rfl,p1,q0,_,ptV pt,rfl,rfl,SqT.of xf,SqT.of ?_,(by simp),(by show 1+5<=sizeLine; decide),(fun z=>nomatch z),fun _ p2 h2=>?_⟩⟩
   .rw [xh (xi (by rw[xh n0]; exact e0) h1),xh n0];exact e0
   have up:∀ b u,H2 b=some u->(upd (upd (upd H2 p (.tup [.str pt.nm,.ref q0])) p1 (.tup [.str pt.nm])) p2 (.tup ([.str pt.nm]++ptV pt))) b=some u:=fun b u e=>by
    have c1:b≠p:=xi e hpn;have e1:upd H2 p (.tup [.str pt.nm,.ref q0]) b=some u:=by rw[xh c1]; exact e
    have c2:b≠p1:=xi e1 h1;have e2:upd (upd H2 p (.tup [.str pt.nm,.ref q0])) p1 (.tup [.str pt.nm]) b=some u:=by rw[xh c2]; exact e1
    rw[xh (xi e2 h2)];exact e2
   have c3:l≠p2:=xi (show upd (upd H2 p (.tup [.str pt.nm,.ref q0])) p1 (.tup [.str pt.nm]) l=some (.lst (qs.map V.ref)) from by
    have c1:l≠p:=xi hl2 hpn;have e1:upd H2 p (.tup [.str pt.nm,.ref q0]) l=some (.lst (qs.map V.ref)):=by rw[xh c1]; exact hl2
    rw[xh (xi e1 h1)];exact e1) h2
   have tk:ps.take (i+1)=ps.take i++[pt]:=by
    rw[ZV,hpt];rfl
   have ll:qs.length<sizeLine:=Jc (by have:=pl.len; have:=pic.len; omega:qs.length<13) (by decide);refine⟨up _ _ hl2,by rw[Za]; exact ll,hN _ _ ⟨qs++[p2],by simp,by simp; omega,?_,fun b u nb e=>?_,xf,?_⟩⟩
   .rw [xh (ZI nl)];exact up _ _ hd
   .have e2:=up _ _ (sm b u nb e);rw[xh (xi e hl0)];exact e2
   .rw [tk];refine PtsL.snoc (PtsL.keep (fun b xs e=>?_) pts) ?_
    .have e2:=up _ _ e;rw[xh (xae e2 (up _ _ hl2) (fun z=>nomatch z))];exact e2
    .rw [xh (ZI c3)];exact xf
  .rintro xs H2 ⟨qs,rfl,_,hd,sm,hl2,pts⟩;refine⟨⟨hd,Zj _⟩,dp,ob,_,hd,nf,q _ l qs (fun b u e=>?_) ?_ (PtsL.keep (fun b xs e=>?_) (by rw[pl.len,Yf] at pts; exact pts))⟩
   .by_cases c:b=dp
    .subst c;rw[hk] at e;cases e;exact xf
    .rw [xh c];exact sm b u c e
   .rw [xh nl];exact hl2
   .rw [xh (xae e hd (fun z=>nomatch z))];exact e
theorem ok_d (T:Txt w K mg t):FnOk true P w K mg base (CXo P w) 2 t.f_d t.d_d ["self", "name", "x", "y"] (spCL t):=by
 refine T.F_d.okn (k:=1) sc_d (fun vs H Q E h=>?_) (fun cdv A outer s H vs Q E hr h=>?_)
 .obtain ⟨a,dp,do_,pw,ph,ps,nm,x,y,rfl,_⟩:=h;rfl
 .obtain ⟨a,dp,do_,pw,ph,ps,nm,x,y,rfl,h⟩:=h;refine⟨_,xj (xcc rfl (xa4 (zs:=["other"]) (ys:=["name"]) (fr:=[1]) (N0:=["self", "name", "x", "y", "others", "other"]) (sc0:=xp s_d) (by decide +kernel) rfl rfl rfl) (xat (xbo (pv 0) T.c_c T.m_p (ok_p T) (hmm hr) T.b_p .nil xm)) (fun _ _ _ _ _ ow nd=>xq (i:=0) nd rfl (Zp (ow _ (by simp))) (Jf (ow _ (by simp)))) (xbg (by decide)) (fun _ _ _ _ _=>xgb (x9 xge (xax (r:=rIxT K) xbj (pv 0) (xk) (fun _ _=>rfl)) (pv 1) (x8 _))) (fun _ _ _ _ _=>pv 0) (j:=4) rfl (Zp rfl))
   (xj (xa0 ZG rfl (xat (pv 4)) (xq (i:=5) sc_d.nd rfl (Zp rfl)) (xn (xag (x9 xbr (xax xbj (pv 5) (xk) (fun _ _=>rfl)) (pv 2) (x8 _)) (xn (xa1)) (x5))))
   (xn (xa0 ZG rfl (xat (pv 4)) (xq (i:=5) sc_d.nd rfl (Zp rfl)) (xn (xag (x9 xbr (xax xbj (pv 5) (xk) (fun _ _=>rfl)) (pv 3) (x8 _)) (xn (xa1)) (x5)))))),?_⟩
  obtain⟨pic,no,q⟩:=h;obtain⟨⟨dx,hp⟩,⟨kvs,hk,pl⟩,_⟩:=id pic;refine⟨_,rfl,a,dx,_,rfl,hp,xbm (by decide +kernel),a,dp,do_,pw,ph,ps,rfl,pic,fun H1 l1 qs s1 hl1 pt1=>⟨l1,rfl,⟨_,SqL.of hl1⟩,fun l hl=>?_⟩⟩;refine xdi qs.length (fun i xs H2=>∃ os:List Addr,xs=os.map V.ref/\os.length<=i/\Same H1 H2/\H2 l=some (.lst xs)/\∀ o∈os,∃ p∈ps,p.nm≠nm/\H1 o=some (.tup (.str p.nm::ptV p))) ?_ ?_ ?_ ?_
  .exact ⟨[],rfl,Zj _,xo (Same.refl _) hl,xf,fun o z=>nomatch z⟩
  .rintro i xs H2 lt ⟨os,_,_,s2,_⟩;exact⟨_,.ref qs[i],SqL.of (s2 _ _ hl1),by simp[lt]⟩
  .rintro i xs H2 v H3 lt ⟨os,rfl,ol,s2,hl2,hos⟩ ⟨rfl,hv⟩ N hN;have hv':=hv _ (SqL.of (s2 _ _ hl1));rw[Zg] at hv';obtain⟨o,ho,rfl⟩:=Zk.mp hv';obtain⟨p,hpp,ep⟩:=pt1.get ho;refine⟨_,rfl,o,_,0,_,rfl,rfl,SqT.of (s2 _ _ ep),rfl,_,rfl,rfl,_,rfl,ite2 (fun c=>?_) (fun c=>?_)⟩
   .have cn:p.nm≠nm:=fun z=>by
     rw[z] at c;simp at c
    refine⟨_,rfl,hl2,(by rw[Za]; exact Jc (by have:=pt1.len; have:=pic.len; omega:os.length<13) (by decide)),hN _ _ ⟨os++[o],by simp,by simp; omega,?_,xf,?_⟩⟩
    .intro b u e
     by_cases cb:b=l
     .subst cb;rw[e] at hl;cases hl
     .rw [xh cb];exact s2 b u e
    .intro o' ho'
     rcases Z9.mp ho' with z|z
     .exact hos o' z
     .have:=Z0.mp z;subst this;exact⟨p,Zn hpp,cn,ep⟩
   .exact hN _ _ ⟨os,rfl,by omega,s2,hl2,hos⟩
  .rintro xs H2 ⟨os,rfl,ol,s2,hl2,hos⟩;refine⟨⟨_,SqL.of (s2 _ _ hl1),by simp⟩,?_⟩;have loop:∀(o:Addr),o∈os->∃ p∈ps,p.nm≠nm/\H2 o=some (.tup (.str p.nm::ptV p)):=fun o ho=>by
    obtain⟨p,h1,h2,h3⟩:=hos o ho;exact⟨p,h1,h2,s2 _ _ h3⟩
   refine⟨_,rfl,l,rfl,⟨_,SqL.of hl2⟩,xa6 (xs:=os.map V.ref) (Pv:=fun i Z H3=>∃ v5:Option V,Z=[some (.ref a),some (.str nm),some (.int x),some (.int y),some (.ref l),v5]/\H2=H3) ⟨_,rfl,rfl⟩ (fun _ _ _ _ ⟨_,_,z⟩=>by rw[<- z]; exact SqL.of hl2) ?_ ?_⟩
   .rintro i v Z _ hv ⟨v5,rfl,rfl⟩;rw[Zg] at hv;obtain⟨o,ho,rfl⟩:=Zk.mp hv;obtain⟨p,m1,m2,m3⟩:=loop o (Zn ho);refine⟨_,rfl,o,_,1,_,rfl,rfl,SqT.of m3,rfl,_,rfl,rfl,_,rfl,ifN (decide_eq_false fun z=>(no p m1 m2).1 (V.int.inj z)) ⟨_,rfl,rfl⟩⟩
   .rintro Z _ ⟨v5,rfl,rfl⟩;refine⟨_,rfl,l,rfl,⟨_,SqL.of hl2⟩,xa6 (xs:=os.map V.ref) (Pv:=fun i Z H3=>∃ v5:Option V,Z=[some (.ref a),some (.str nm),some (.int x),some (.int y),some (.ref l),v5]/\H2=H3) ⟨_,rfl,rfl⟩ (fun _ _ _ _ ⟨_,_,z⟩=>by rw[<- z]; exact SqL.of hl2) ?_ ?_⟩
    .rintro i v Z _ hv ⟨v5,rfl,rfl⟩;rw[Zg] at hv;obtain⟨o,ho,rfl⟩:=Zk.mp hv;obtain⟨p,m1,m2,m3⟩:=loop o (Zn ho);refine⟨_,rfl,o,_,2,_,rfl,rfl,SqT.of m3,rfl,_,rfl,rfl,_,rfl,ifN (decide_eq_false fun z=>(no p m1 m2).2 (V.int.inj z)) ⟨_,rfl,rfl⟩⟩
    .rintro Z _ ⟨v5,rfl,rfl⟩;exact q _ (s1.trans s2)
theorem ok_f (T:Txt w K mg t):FnOk true P w K mg base (CXo P w) 4 t.f_f t.d_f ["self", "side", "row"] (spCS t):=by
 refine T.F_f.okn (k:=3) sc_f (fun vs H Q E h=>?_) (fun cdv A outer s H vs Q E hr h=>?_)
 .obtain ⟨a,dp,do_,pw,ph,ps,b,r,rfl,_⟩:=h;rfl
 .obtain ⟨a,dp,do_,pw,ph,ps,b,r,rfl,h⟩:=h;refine⟨_,xj (xay (xt (ok_ap T) (hmm hr) rfl T.g_ap T.F_ap.kp T.b_ap .nil xm (xb (pv 1) (xb (xaa (pv 0) rfl) (xg)))))
   (xn (xag (xbh (xa9 (xt (ok_am T) (hmm hr) rfl T.g_am T.F_am.kp T.b_am .nil xm (xb (pv 2) (xb (xk) (xb (xaa (pv 0) rfl) (xg))))))) (xn (xa1)) (x5))),?_⟩
  obtain⟨pic,r1,r2,q⟩:=h;obtain⟨⟨dx,hp⟩,_,_⟩:=id pic;refine⟨_,rfl,_,rfl,a,_,dx,_,_,rfl,hp,T.c_c,T.n_a7,lkW,b,pw,rfl,fun p H1 hp1 sd1 s1=>?_⟩;exact⟨_,rfl,_,rfl,a,_,dx,_,_,rfl,(s1 _ _ hp),T.c_c,T.n_a8,lkH,r,1,ph,rfl,r1,r2,true,rfl,iteF (q H1 s1)⟩
theorem ok_b (T:Txt w K mg t):FnOk true P w K mg base (CXo P w) 3 t.f_b t.d_b ["self", "name", "x", "y", "sides", "low", "high"] (xvh t):=by
 refine T.F_b.okn (k:=2) sc_b (fun vs H Q E h=>?_) (fun cdv A outer s H vs Q E hr h=>?_)
 .obtain ⟨a,dp,do_,pw,ph,ps,nm,x,y,sd,lo,hi,hv,rfl,_⟩:=h;rfl
 .obtain ⟨a,dp,do_,pw,ph,ps,nm,x,y,sd,lo,hi,hv,rfl,h⟩:=h;refine⟨_,xj (xx (i:=7) sc_b.nd rfl (Zp rfl) (xde (x9 xue (pv 6) (xez) (x8 _)) (xaa (pv 0) rfl) (pv 6)))
   (xj (xag (xbh (xa9 (xt (ok_au T) (hmm hr) rfl T.g_au T.F_au.kp T.b_au .nil xm (xb (pv 1) (xg))))) (xn (xa1)) (x5))
   (xj (xay (xa3 (pv 0) T.c_c T.m_i (ok_i T) (hmm hr) T.b_i .nil xm (xb (pv 2) (xb (pv 3) (xg)))))
   (xj (xag (PW.pt (xcj (xbh (xa9 (xw xba rfl T.n_isinstance boot_isinstance (xb (pv 4) (xb (xca (v:=.ty "str") rfl T.n_str boot_str rfl) (xg)))))) (xcd (xds (xn9 (pv 4) rfl T.g_ai T.D_ai))))) (xn (xa1)) (x5))
   (xj (xag (PW.pt (xcj (xbh (xa9 (xt (ok_am T) (hmm hr) rfl T.g_am T.F_am.kp T.b_am .nil xm (xb (pv 5) (xb (xk) (xb (xaa (pv 0) rfl) (xg))))))) (xcd (xbh (xa9 (xt (ok_am T) (hmm hr) rfl T.g_am T.F_am.kp T.b_am .nil xm (xb (pv 7) (xb (pv 5) (xb (xaa (pv 0) rfl) (xg)))))))))) (xn (xa1)) (x5))
   (xj (xag (xds (xhr (xa5 hr) (pv 1) (xaa (pv 0) rfl))) (xn (xa1)) (x5))
   (xj (xag (x9 xvb (xw xi3 rfl T.n_len J0 (xb (xaa (pv 0) rfl) (xg))) (xbn (v:=.int 12) rfl T.v_bl.choose_spec ⟨_,rfl⟩) (x8 _)) (xn (xa1)) (x5))
   (xj (xay (xa3 (pv 0) T.c_c T.m_d (ok_d T) (hmm hr) T.b_d .nil xm (xb (pv 1) (xb (pv 2) (xb (pv 3) (xg))))))
   (xn (xcf (xa5 hr) (xaa (pv 0) rfl) (pv 1) (x4 (xb (pv 2) (xb (pv 3) (xb (pv 4) (xb (pv 5) (xb (pv 7) (xg))))))) rfl))))))))),?_⟩
  obtain⟨pic,hhv,hn,x1,x2,y1,y2,hsd,l1,l2,l3,no,len,q⟩:=h;obtain⟨⟨dx,hp⟩,⟨kvs,hk,pl⟩,_⟩:=id pic;have hsd':(valV ([(J6 "left",V.str "right"),(J6 "right",V.str "left"),(J6 "both",V.str "both")]:List (Key × V)) (J6 sd)).isSome=true:=by
   rcases hsd with rfl|rfl|rfl<;>decide +kernel
  rcases hhv with⟨rfl,e⟩|rfl
  .obtain rfl:=e.symm;refine⟨_,rfl,rfl,_,rfl,ifP (by rfl) ⟨_,rfl,a,_,dx,_,_,rfl,hp,T.c_c,T.n_a8,lkH,?_⟩⟩;refine⟨_,rfl,nm,rfl,hn,true,rfl,iteF ?_⟩;refine⟨_,rfl,a,dx,_,rfl,hp,xbm (by decide +kernel),_,rfl,_,rfl,a,dp,do_,pw,ph,ps,x,y,rfl,pic,x1,x2,y1,y2,?_⟩;refine⟨_,rfl,_,_,rfl,.inl ⟨_,_,true,.str _,rfl,xbf,true,rfl,iteF ⟨_,rfl,.inr sd,rfl,false,(by rw[hsd']; rfl),iteF ?_⟩⟩⟩;refine⟨_,rfl,_,rfl,a,_,dx,_,_,rfl,hp,T.c_c,T.n_a8,lkH,lo,1,ph,rfl,l1,(by omega),true,rfl,iteF ⟨_,rfl,_,rfl,_,rfl,a,_,dx,_,_,rfl,hp,T.c_c,T.n_a8,lkH,ph,lo,ph,rfl,(by omega),(by omega),true,rfl,iteF ?_⟩⟩;refine⟨_,rfl,_,rfl,a,_,dx,_,_,rfl,hp,T.c_c,T.n_a6,lkP,dp,none,rfl,(by rw[<- pl.no (nm:=nm) (fun p hp=>(no p hp).1)]; exact DGet.k (k:=.inr nm) hk),false,rfl,iteF ?_⟩;refine⟨_,rfl,a,_,dx,_,_,rfl,hp,T.c_c,T.n_a6,lkP,dp,kvs,rfl,hk,_,_,rfl,rfl,_,rfl,ifN (decide_eq_false (by have:=pl.len; omega)) ?_⟩;refine⟨_,rfl,a,dx,_,rfl,hp,xbm (by decide +kernel),_,rfl,_,rfl,_,rfl,a,dp,do_,pw,ph,ps,nm,x,y,rfl,pic,fun p hp _=>(no p hp).2,fun H1 s1=>?_⟩;refine⟨_,rfl,_,rfl,_,rfl,_,rfl,_,rfl,(by show 5<=sizeLine; decide),fun q1 hq1=>?_⟩;have hp1:upd H1 q1 (.tup [.int x,.int y,.str sd,.int lo,.int ph]) a=some (.ins t.C_c dx (picF pw ph dp do_)):=by rw[xh (xi (s1 _ _ hp) hq1)]; exact s1 _ _ hp
   have hk1:upd H1 q1 (.tup [.int x,.int y,.str sd,.int lo,.int ph]) dp=some (.dK kvs):=by rw[xh (xi (s1 _ _ hk) hq1)]; exact s1 _ _ hk
   refine⟨_,rfl,a,_,dx,_,_,rfl,hp1,T.c_c,T.n_a6,lkP,_,rfl,dp,_,rfl,DPut.k (k:=.inr nm) hk1 (Jc (by have:=pl.len; omega:kvs.length<12) (by decide)),?_⟩;rw[xdg (.ref q1) (pl.no (nm:=nm) (fun p hp=>(no p hp).1))];have nq:q1≠dp:=fun z=>by
    subst z;rw[s1 _ _ hk] at hq1;cases hq1
   refine q _ (fun b u nb e=>?_) ⟨⟨dx,?_⟩,⟨_,xf,Pl.snoc (p:=⟨nm,x,y,sd,lo,ph⟩) (pl.keep (fun b xs e=>?_)) ?_⟩,pic.w1,pic.w2,pic.h1,pic.h2,(by rw[Zo]; exact len)⟩
   .rw [xh nb,xh (xi (s1 _ _ e) hq1)];exact s1 _ _ e
   .rw [xh (xae hp1 hk1 (fun z=>nomatch z))];exact hp1
   .have e':=s1 _ _ e;rw[xh (xae e' (s1 _ _ hk) (fun z=>nomatch z)),xh (xi e' hq1)];exact e'
   .rw [xh nq];exact xf
  .refine ⟨_,rfl,rfl,_,rfl,ifN (by rfl) ⟨_,rfl,?_⟩⟩;refine⟨_,rfl,nm,rfl,hn,true,rfl,iteF ?_⟩;refine⟨_,rfl,a,dx,_,rfl,hp,xbm (by decide +kernel),_,rfl,_,rfl,a,dp,do_,pw,ph,ps,x,y,rfl,pic,x1,x2,y1,y2,?_⟩;refine⟨_,rfl,_,_,rfl,.inl ⟨_,_,true,.str _,rfl,xbf,true,rfl,iteF ⟨_,rfl,.inr sd,rfl,false,(by rw[hsd']; rfl),iteF ?_⟩⟩⟩;refine⟨_,rfl,_,rfl,a,_,dx,_,_,rfl,hp,T.c_c,T.n_a8,lkH,lo,1,ph,rfl,l1,(by omega),true,rfl,iteF ⟨_,rfl,_,rfl,_,rfl,a,_,dx,_,_,rfl,hp,T.c_c,T.n_a8,lkH,hi,lo,ph,rfl,(by omega),(by omega),true,rfl,iteF ?_⟩⟩;refine⟨_,rfl,_,rfl,a,_,dx,_,_,rfl,hp,T.c_c,T.n_a6,lkP,dp,none,rfl,(by rw[<- pl.no (nm:=nm) (fun p hp=>(no p hp).1)]; exact DGet.k (k:=.inr nm) hk),false,rfl,iteF ?_⟩;refine⟨_,rfl,a,_,dx,_,_,rfl,hp,T.c_c,T.n_a6,lkP,dp,kvs,rfl,hk,_,_,rfl,rfl,_,rfl,ifN (decide_eq_false (by have:=pl.len; omega)) ?_⟩;refine⟨_,rfl,a,dx,_,rfl,hp,xbm (by decide +kernel),_,rfl,_,rfl,_,rfl,a,dp,do_,pw,ph,ps,nm,x,y,rfl,pic,fun p hp _=>(no p hp).2,fun H1 s1=>?_⟩;refine⟨_,rfl,_,rfl,_,rfl,_,rfl,_,rfl,(by show 5<=sizeLine; decide),fun q1 hq1=>?_⟩;have hp1:upd H1 q1 (.tup [.int x,.int y,.str sd,.int lo,.int hi]) a=some (.ins t.C_c dx (picF pw ph dp do_)):=by rw[xh (xi (s1 _ _ hp) hq1)]; exact s1 _ _ hp
   have hk1:upd H1 q1 (.tup [.int x,.int y,.str sd,.int lo,.int hi]) dp=some (.dK kvs):=by rw[xh (xi (s1 _ _ hk) hq1)]; exact s1 _ _ hk
   refine⟨_,rfl,a,_,dx,_,_,rfl,hp1,T.c_c,T.n_a6,lkP,_,rfl,dp,_,rfl,DPut.k (k:=.inr nm) hk1 (Jc (by have:=pl.len; omega:kvs.length<12) (by decide)),?_⟩;rw[xdg (.ref q1) (pl.no (nm:=nm) (fun p hp=>(no p hp).1))];have nq:q1≠dp:=fun z=>by
    subst z;rw[s1 _ _ hk] at hq1;cases hq1
   refine q _ (fun b u nb e=>?_) ⟨⟨dx,?_⟩,⟨_,xf,Pl.snoc (p:=⟨nm,x,y,sd,lo,hi⟩) (pl.keep (fun b xs e=>?_)) ?_⟩,pic.w1,pic.w2,pic.h1,pic.h2,(by rw[Zo]; exact len)⟩
   .rw [xh nb,xh (xi (s1 _ _ e) hq1)];exact s1 _ _ e
   .rw [xh (xae hp1 hk1 (fun z=>nomatch z))];exact hp1
   .have e':=s1 _ _ e;rw[xh (xae e' (s1 _ _ hk) (fun z=>nomatch z)),xh (xi e' hq1)];exact e'
   .rw [xh nq];exact xf
theorem ok_g (T:Txt w K mg t):FnOk true P w K mg base (CXo P w) 3 t.f_g t.d_g ["self", "name"] (xws t):=by
 refine T.F_g.okn (k:=2) sc_g (fun vs H Q E h=>?_) (fun cdv A outer s H vs Q E hr h=>?_)
 .obtain ⟨a,dp,do_,pw,ph,ps,nm,pt,rfl,_⟩:=h;rfl
 .obtain ⟨a,dp,do_,pw,ph,ps,nm,pt,rfl,h⟩:=h;refine⟨_,xj (xay (xa3 (pv 0) T.c_c T.m_h (ok_h T) (hmm hr) T.b_h .nil xm (xb (pv 1) (xg))))
   (xn (x0 (xct xt3 (xd1 (xa5 hr) (xaa (pv 0) rfl) (pv 1) (fun _ _=>rfl)) xd4 (xci (xk))))),?_⟩
  obtain⟨pic,hn,hf,q⟩:=h;obtain⟨⟨dx,hp⟩,⟨kvs,hk,pl⟩,_⟩:=id pic;obtain⟨q0,e,hq0⟩:=pl.find hf;refine⟨_,rfl,a,dx,_,rfl,hp,xbm (by decide +kernel),_,rfl,a,dp,do_,pw,ph,ps,nm,pt,rfl,pic,hn,hf,?_⟩;exact⟨_,rfl,a,_,dx,_,_,rfl,hp,T.c_c,T.n_a6,lkP,_,rfl,dp,.ref q0,rfl,(by rw[<- e]; exact DGet.k (k:=.inr nm) hk),2,rfl,q0,ptV pt,rfl,SqT.of hq0,(fun z=>absurd z.2 (by show ¬ ((2:Nat)=5); decide)),fun p hp'=>q _ p (xo (Same.refl _) hp') xf⟩
theorem ok_u (T:Txt w K mg t):FnOk true P w K mg base (CXo P w) 5 t.f_u t.d_u ["self", "name", "side", "row"] (xvg t):=by
 refine T.F_u.okn (k:=4) sc_u (fun vs H Q E h=>?_) (fun cdv A outer s H vs Q E hr h=>?_)
 .obtain ⟨a,dp,do_,pw,ph,ps,nm,pt,b,r,rfl,_⟩:=h;rfl
 .obtain ⟨a,dp,do_,pw,ph,ps,nm,pt,b,r,rfl,h⟩:=h;refine⟨_,xj (xcx (xa3 (pv 0) T.c_c T.m_g (ok_g T) (hmm hr) T.b_g .nil xm (xb (pv 1) (xg))) (xan rfl (xr (xq (i:=4) sc_u.nd rfl (Zp rfl)) (xr (xq (i:=5) sc_u.nd rfl (Zp rfl)) (xad)))))
   (xj (xay (xa3 (pv 0) T.c_c T.m_f (ok_f T) (hmm hr) T.b_f .nil xm (xb (pv 2) (xb (pv 3) (xg)))))
   (xn (x0 (xu xai (xe6 (xa3 (xt (ok_ap T) (hmm hr) rfl T.g_ap T.F_ap.kp T.b_ap .nil xm (xb (pv 2) (xb (xaa (pv 0) rfl) (xg)))) T.c_ah T.m_q (ok_q T) (hmm hr) T.b_q .nil xm (xb (pv 4) (xg))) (xa3 (xt (ok_ap T) (hmm hr) rfl T.g_ap T.F_ap.kp T.b_ap .nil xm (xb (pv 2) (xb (xaa (pv 0) rfl) (xg)))) T.c_r T.m_l (ok_l T) (hmm hr) T.b_l .nil xm (xb (pv 4) (xg)))) (xw xp6 rfl T.n_abs boot_abs (xb (xu xe0 (pv 5) (pv 3)) (xg))))))),?_⟩
  obtain⟨pic,hn,hf,r1,r2,q⟩:=h;obtain⟨⟨dx,hp⟩,_,_⟩:=id pic;refine⟨_,rfl,a,dx,_,rfl,hp,xbm (by decide +kernel),_,rfl,a,dp,do_,pw,ph,ps,nm,pt,rfl,pic,hn,hf,fun H1 q1 s1 hq1=>⟨q1,_,rfl,SqT.of hq1,rfl,_,_,rfl,_,_,rfl,rfl,?_⟩⟩;refine⟨_,rfl,a,dx,_,rfl,s1 _ _ hp,xbm (by decide +kernel),_,rfl,_,rfl,a,dp,do_,pw,ph,ps,b,r,rfl,Pic.same s1 pic,r1,r2,fun H2 s2=>?_⟩;cases b with
  | true =>
   refine .inl ⟨_,rfl,_,rfl,a,_,dx,_,_,rfl,(s2 _ _ (s1 _ _ hp)),T.c_c,T.n_a7,lkW,true,pw,rfl,fun p H3 hp3 sd3 s3=>?_⟩;obtain⟨ds,hs⟩:=sd3;exact⟨p,ds,_,rfl,hs,(by rw[Z2,show (("across":Str) == "width")=false from by decide +kernel]; rfl),_,rfl,_,_,rfl,_,rfl,_,rfl,_,_,rfl,rfl,_,rfl,_,_,rfl,rfl,q H3 ((s1.trans s2).trans s3)⟩
  | false =>
   refine .inr ⟨_,rfl,_,rfl,a,_,dx,_,_,rfl,(s2 _ _ (s1 _ _ hp)),T.c_c,T.n_a7,lkW,false,pw,rfl,fun p H3 hp3 sd3 s3=>?_⟩;obtain⟨ds,hs⟩:=id sd3;exact⟨p,ds,_,rfl,hs,(by rw[Z2,show (("across":Str) == "width")=false from by decide +kernel]; rfl),_,rfl,p,pw,_,rfl,sd3,_,rfl,_,rfl,_,_,rfl,rfl,_,rfl,_,_,rfl,rfl,q H3 ((s1.trans s2).trans s3)⟩
inductive xau (H:Hp):List (Int × Int)->List Addr->Prop
 | nil:xau H [] []
 | cons {c:Int × Int}{q:Addr}{cs:List (Int × Int)}{qs:List Addr} (h:H q=some (.tup [.int c.1,.int c.2])) (r:xau H cs qs):xau H (c::cs) (q::qs)
theorem xau.keep {H H':Hp} (s:Tups H H') {cs:List (Int × Int)}{qs:List Addr} (h:xau H cs qs):xau H' cs qs:=by
 induction h with
 | nil=>exact .nil
 | cons h _ ih=>exact .cons (s _ _ h) ih
theorem xau.len {H:Hp}{cs:List (Int × Int)}{qs:List Addr} (h:xau H cs qs):qs.length=cs.length:=by
 induction h with
 | nil=>rfl
 | cons _ _ ih=>simp[ih]
theorem xau.get {H:Hp}{cs:List (Int × Int)}{qs:List Addr} (h:xau H cs qs) {i:Nat}{q:Addr} (e:qs[i]?=some q):∃ c,cs[i]?=some c/\H q=some (.tup [.int c.1,.int c.2]):=by
 induction h generalizing i with
 | nil=>simp at e
 | @cons c q' cs qs h _ ih =>
  cases i with
  | zero =>
   simp at e;subst e;exact⟨c,rfl,h⟩
  | succ j=>exact ih (by simpa using e)
theorem xau.append {H:Hp}{cs ds:List (Int × Int)}{qs rs:List Addr} (h:xau H cs qs) (h':xau H ds rs):xau H (cs++ds) (qs++rs):=by
 induction h with
 | nil=>exact h'
 | cons h _ ih=>exact .cons h ih
theorem xau.snoc {H:Hp}{cs:List (Int × Int)}{qs:List Addr} (h:xau H cs qs) {c:Int × Int}{q:Addr} (e:H q=some (.tup [.int c.1,.int c.2])):xau H (cs++[c]) (qs++[q]):=h.append (.cons e .nil)
theorem xb4 {Z:L2.St}{fr:List Nat}{te:TE}{l:Addr}{H1:Hp}{Q:VK}{lo d:Int}{n:Nat} (f:Nat->Int × Int) (hl:H1 l=none) (hn:n<1000)
    (hte:∀(i:Nat) (H2:Hp) (R:VK),i<n->(∀ p,H2 p=none->R (.ref p) (upd H2 p (.tup [.int (f i).1,.int (f i).2])))->te ((blk0 Z fr 1).set 0 (some (.int (lo+(i:Int)*d)))) H2 R)
    (fin:∀(H2:Hp) (qs:List Addr),Same H1 H2->H2 l=some (.lst (qs.map V.ref))->xau H2 ((Z3 n).map f) qs->Q (.ref l) H2):xc5 (Itrs lo d n) 1 (xem 0) Z fr xdk te l H1 Q:=by
  refine xdi n (fun i xs H2=>∃ qs:List Addr,xs=qs.map V.ref/\qs.length<=i/\Same H1 H2/\H2 l=some (.lst xs)/\xau H2 ((Z3 i).map f) qs) ?_ ?_ ?_ ?_
  . exact⟨[],rfl,Zj _,xo (Same.refl _) hl,xf,.nil⟩
  . rintro i xs H2 lt _
    exact lt
  . rintro i xs H2 v H3 lt ⟨qs,rfl,ql,s2,hl2,cl⟩ ⟨rfl,rfl⟩ N hN
    refine xv1 ?_;refine hte i _ _ lt fun p hp=>⟨?_,?_,hN _ _ ⟨qs++[p],by simp,by simp; omega,?_,xf,?_⟩⟩
    . rw[xh (xi hl2 hp)]
      exact hl2
    . rw[Za]
      exact Z6 ql (Jc lt (ZJ hn (by decide)))
    . intro b u e
      have nb:b≠l:=xi e hl;rw[xh nb,xh (xi (s2 _ _ e) hp)];exact s2 _ _ e
    . rw[JK,ZB]
      refine xau.snoc (xau.keep (fun b xs e=>?_) cl) ?_
      . rw[xh (xae e hl2 (fun z=>nomatch z)),xh (xi e hp)]
        exact e
      . rw[xh (ZI (xi hl2 hp))]
        exact xf
  . rintro xs H2 ⟨qs,rfl,_,s2,hl2,cl⟩
    exact⟨Zj _,fin H2 qs s2 hl2 cl⟩
inductive xsa (t:Adr) (vs:List V) (H:Hp) (Q:VK) (_:XK):Prop
 | mk (a dp do_:Addr) (pw ph:Int) (ps:List Pt) (nm:Str) (pt:Pt) (b:Bool) (r:Int) (e_:vs=[.ref a,.str nm,.str (xaf b),.int r]) (r_:Pic t H a dp do_ pw ph ps/\isNm nm=true/\ps.find? (fun p=>decide (p.nm=nm))=some pt/\1<=r/\r<=ph/\(1<=pt.x/\pt.x<=pw/\1<=pt.y/\pt.y<=ph)/\∀ H' l qs,Same H H'->H' l=some (.lst (qs.map V.ref))->xau H' (Geo.cells pw pt.x pt.y b r) qs->qs.length<100->Q (.ref l) H')
theorem lno {m:Str}{v:V} (h:(m == ("width":Str))=false):([("width",v)]:List (Str × V)).lookup m=none:=by
 rw[Z2,h];rfl
theorem ok_a2 (T:Txt w K mg t):FnOk true P w K mg base (CXo P w) 6 t.f_a2 t.d_a2 ["picture", "name", "side", "row"] (xsa t):=by
 refine T.F_a2.okn (k:=5) sc_a2 (fun vs H Q E h=>?_) (fun cdv A outer s H vs Q E hr h=>?_)
 .obtain ⟨a,dp,do_,pw,ph,ps,nm,pt,b,r,rfl,_⟩:=h;rfl
 .obtain ⟨a,dp,do_,pw,ph,ps,nm,pt,b,r,rfl,h⟩:=h;refine⟨_,xj (xay (xa3 (pv 0) T.c_c T.m_u (ok_u T) (hmm hr) T.b_u .nil xm (xb (pv 1) (xb (pv 2) (xb (pv 3) (xg))))))
   (xj (xcx (xa3 (pv 0) T.c_c T.m_g (ok_g T) (hmm hr) T.b_g .nil xm (xb (pv 1) (xg))) (xan rfl (xr (xq (i:=4) sc_a2.nd rfl (Jf rfl)) (xr (xq (i:=5) sc_a2.nd rfl (Zp rfl)) (xad)))))
   (xj (xx (i:=6) sc_a2.nd rfl (Zp rfl) (xt (ok_ap T) (hmm hr) rfl T.g_ap T.F_ap.kp T.b_ap .nil xm (xb (pv 2) (xb (xaa (pv 0) rfl) (xg)))))
   (xj (xx (i:=7) sc_a2.nd rfl (Zp rfl) (xde (x9 xj4 (pv 5) (pv 3) (x8 _)) (xk) (xrb xoj (xk))))
   (xj (xcc rfl (xa4 (zs:=["at"]) (ys:=["x"]) (fr:=[4]) (N0:=["picture", "name", "side", "row", "x", "y", "toward", "down", "upright", "level"]) (sc0:=xp s_a2) (by decide +kernel) rfl rfl rfl) (xji rfl T.n_range (xb (pv 5) (xb (pv 3) (xb (pv 7) (xg))))) (fun _ _ _ _ _ ow nd=>xq (i:=0) nd rfl (Zp (ow _ (by simp))) (Jf (ow _ (by simp)))) (xbg (by decide)) (fun _ _ _ _ _=>xbk) (fun _ _ _ _ _=>x4 (xb (pv 1) (xb (pv 0) (xg)))) (j:=8) rfl (Zp rfl))
   (xj (xcc rfl (xa4 (zs:=["at"]) (ys:=["row"]) (fr:=[3]) (N0:=["picture", "name", "side", "row", "x", "y", "toward", "down", "upright", "level"]) (sc0:=xp s_a2) (by decide +kernel) rfl rfl rfl) (xji rfl T.n_range (xb (pv 4) (xb (xu xai (xe6 (xbo (pv 6) T.c_ah T.m_w (ok_w T) (hmm hr) T.b_w .nil xm) (xbo (pv 6) T.c_r T.m_s (ok_s T) (hmm hr) T.b_s .nil xm)) (xe6 (xbo (pv 6) T.c_ah T.m_ae (ok_ae T) (hmm hr) T.b_ae .nil xm) (xbo (pv 6) T.c_r T.m_v (ok_v T) (hmm hr) T.b_v .nil xm))) (xb (xe6 (xbo (pv 6) T.c_ah T.m_ae (ok_ae T) (hmm hr) T.b_ae .nil xm) (xbo (pv 6) T.c_r T.m_v (ok_v T) (hmm hr) T.b_v .nil xm)) (xg))))) (fun _ _ _ _ _ ow nd=>xq (i:=0) nd rfl (Zp (ow _ (by simp))) (Jf (ow _ (by simp)))) (xbg (by decide)) (fun _ _ _ _ _=>xbk) (fun _ _ _ _ _=>x4 (xb (pv 0) (xb (pv 1) (xg)))) (j:=9) rfl (Zp rfl))
   (xn (x0 (xu xf3 (pv 8) (pv 9))))))))),?_⟩
  obtain⟨pic,hn,hf,r1,r2,⟨x1,x2,y1,y2⟩,q⟩:=h;obtain⟨⟨dx,hp⟩,_,w1,w2,h1,h2,_⟩:=id pic;by_cases hd:pt.y<r<;>cases b
  .-- down right
   refine⟨_,rfl,a,dx,_,rfl,hp,xbm (by decide +kernel),_,rfl,_,rfl,_,rfl,a,dp,do_,pw,ph,ps,nm,pt,false,r,rfl,pic,hn,hf,r1,r2,fun H1 s1=>?_⟩;refine⟨_,rfl,a,dx,_,rfl,s1 _ _ hp,xbm (by decide +kernel),_,rfl,a,dp,do_,pw,ph,ps,nm,pt,rfl,Pic.same s1 pic,hn,hf,fun H2 q2 s2 hq2=>⟨q2,_,rfl,SqT.of hq2,rfl,_,_,rfl,_,_,rfl,rfl,?_⟩⟩;refine⟨_,rfl,_,rfl,a,_,dx,_,_,rfl,(s2 _ _ (s1 _ _ hp)),T.c_c,T.n_a7,lkW,false,pw,rfl,fun p H3 hp3 sd3 s3=>?_⟩;refine⟨_,rfl,_,rfl,_,_,rfl,rfl,_,rfl,ifP (decide_eq_true hd) ?_⟩;refine⟨_,rfl,_,rfl,_,rfl,pt.y,r,1,rfl,⟨by omega,by omega,by omega,by omega⟩,.inl ⟨rfl,fun l1 hl1=>?_⟩⟩;refine xb4 (fun i=>(pt.x,pt.y+(i:Int)*1)) hl1 (by omega) (fun i H R _ k=>⟨_,rfl,_,rfl,(by show 2<=sizeLine; decide),k⟩) fun H4 qs1 s4 hu4 cu4=>?_;obtain⟨ds,hs⟩:=id sd3;have hs4:H4 p=some (.ins t.C_r ds [("width",.int pw)]):=s4 _ _ hs;have sd4:xeb t H4 p false pw:=⟨ds,hs4⟩
   refine⟨_,rfl,.inr ⟨_,rfl,p,ds,_,rfl,hs4,lno (by decide +kernel),p,pw,rfl,sd4,.inr ⟨_,rfl,p,ds,_,rfl,hs4,lno (by decide +kernel),_,rfl,_,_,rfl,rfl,.inr ⟨_,rfl,p,ds,_,rfl,hs4,lno (by decide +kernel),_,rfl,pt.x,_,1,rfl,⟨by omega,by omega,by omega,by omega⟩,.inl ⟨rfl,fun l2 hl2=>?_⟩⟩⟩⟩⟩;refine xb4 (fun i=>(pt.x+(i:Int)*1,r)) hl2 (by omega) (fun i H R _ k=>⟨_,rfl,_,rfl,(by show 2<=sizeLine; decide),k⟩) fun H5 qs2 s5 hu5 cu5=>?_;have c1:xau H5 (Geo.upL pt.x pt.y r) qs1:=by
    have e:Geo.upL pt.x pt.y r=(Z3 (r-pt.y).toNat).map fun (i:Nat)=>(pt.x,pt.y+(i:Int)*1):=by unfold Geo.upL Geo.upN Geo.dn; rw[if_pos hd,if_pos hd]
    rw[e];exact cu4.keep (Same.tups s5)
   have c2:xau H5 (Geo.lvL pw pt.x false r) qs2:=by
    have e:Geo.lvL pw pt.x false r=(Z3 (pw+1+1-pt.x).toNat).map fun (i:Nat)=>(pt.x+(i:Int)*1,r):=by
     unfold Geo.lvL Geo.lvN Geo.wayI;simp only[if_true,Jk,if_false];rw[show (pw+2-pt.x).toNat=(pw+1+1-pt.x).toNat from by omega]
    rw[e];exact cu5
   have l1':=c1.len;have l2':=c2.len;have b1:(Geo.upL pt.x pt.y r).length<17:=by unfold Geo.upL Geo.upN; rw[Za,Zs]; split<;>omega
   have b2:(Geo.lvL pw pt.x false r).length<33:=by unfold Geo.lvL Geo.lvN; rw[Za,Zs]; split<;>omega
   refine⟨_,rfl,_,rfl,l1,l2,_,_,rfl,rfl,s5 _ _ hu4,hu5,(by rw[Za,Za]; exact JF (Jc (by omega:qs1.length+qs2.length<100) (by decide))),fun p6 hp6=>?_⟩;refine q _ p6 (qs1++qs2) (xo (((s1.trans s2).trans s3).trans (s4.trans s5)) hp6) (by rw[ZB]; exact xf) ((c1.append c2).keep (Same.tups (xo (Same.refl _) hp6))) (by rw[Zo]; omega)
  .-- down left
   refine⟨_,rfl,a,dx,_,rfl,hp,xbm (by decide +kernel),_,rfl,_,rfl,_,rfl,a,dp,do_,pw,ph,ps,nm,pt,true,r,rfl,pic,hn,hf,r1,r2,fun H1 s1=>?_⟩;refine⟨_,rfl,a,dx,_,rfl,s1 _ _ hp,xbm (by decide +kernel),_,rfl,a,dp,do_,pw,ph,ps,nm,pt,rfl,Pic.same s1 pic,hn,hf,fun H2 q2 s2 hq2=>⟨q2,_,rfl,SqT.of hq2,rfl,_,_,rfl,_,_,rfl,rfl,?_⟩⟩;refine⟨_,rfl,_,rfl,a,_,dx,_,_,rfl,(s2 _ _ (s1 _ _ hp)),T.c_c,T.n_a7,lkW,true,pw,rfl,fun p H3 hp3 sd3 s3=>?_⟩;refine⟨_,rfl,_,rfl,_,_,rfl,rfl,_,rfl,ifP (decide_eq_true hd) ?_⟩;refine⟨_,rfl,_,rfl,_,rfl,pt.y,r,1,rfl,⟨by omega,by omega,by omega,by omega⟩,.inl ⟨rfl,fun l1 hl1=>?_⟩⟩;refine xb4 (fun i=>(pt.x,pt.y+(i:Int)*1)) hl1 (by omega) (fun i H R _ k=>⟨_,rfl,_,rfl,(by show 2<=sizeLine; decide),k⟩) fun H4 qs1 s4 hu4 cu4=>?_;obtain⟨ds,hs⟩:=id sd3;have hs4:H4 p=some (.ins t.C_ah ds [("width",.int pw)]):=s4 _ _ hs;have sd4:xeb t H4 p true pw:=⟨ds,hs4⟩
   refine⟨_,rfl,.inl ⟨_,rfl,p,ds,_,rfl,hs4,lno (by decide +kernel),_,rfl,.inl ⟨_,rfl,p,ds,_,rfl,hs4,lno (by decide +kernel),_,rfl,_,_,rfl,rfl,.inl ⟨_,rfl,p,ds,_,rfl,hs4,lno (by decide +kernel),_,rfl,pt.x,_,(-1),rfl,⟨by omega,by omega,by omega,by omega⟩,.inr ⟨rfl,fun l2 hl2=>?_⟩⟩⟩⟩⟩;refine xb4 (fun i=>(pt.x+(i:Int)*(-1),r)) hl2 (by omega) (fun i H R _ k=>⟨_,rfl,_,rfl,(by show 2<=sizeLine; decide),k⟩) fun H5 qs2 s5 hu5 cu5=>?_;have c1:xau H5 (Geo.upL pt.x pt.y r) qs1:=by
    have e:Geo.upL pt.x pt.y r=(Z3 (r-pt.y).toNat).map fun (i:Nat)=>(pt.x,pt.y+(i:Int)*1):=by unfold Geo.upL Geo.upN Geo.dn; rw[if_pos hd,if_pos hd]
    rw[e];exact cu4.keep (Same.tups s5)
   have c2:xau H5 (Geo.lvL pw pt.x true r) qs2:=by
    have e:Geo.lvL pw pt.x true r=(Z3 (pt.x-(0+-1)).toNat).map fun (i:Nat)=>(pt.x+(i:Int)*(-1),r):=by
     unfold Geo.lvL Geo.lvN Geo.wayI;simp only[if_true,Jk,if_false];rw[show (pt.x+1).toNat=(pt.x-(0+-1)).toNat from by omega]
    rw[e];exact cu5
   have l1':=c1.len;have l2':=c2.len;have b1:(Geo.upL pt.x pt.y r).length<17:=by unfold Geo.upL Geo.upN; rw[Za,Zs]; split<;>omega
   have b2:(Geo.lvL pw pt.x true r).length<33:=by unfold Geo.lvL Geo.lvN; rw[Za,Zs]; split<;>omega
   refine⟨_,rfl,_,rfl,l1,l2,_,_,rfl,rfl,s5 _ _ hu4,hu5,(by rw[Za,Za]; exact JF (Jc (by omega:qs1.length+qs2.length<100) (by decide))),fun p6 hp6=>?_⟩;refine q _ p6 (qs1++qs2) (xo (((s1.trans s2).trans s3).trans (s4.trans s5)) hp6) (by rw[ZB]; exact xf) ((c1.append c2).keep (Same.tups (xo (Same.refl _) hp6))) (by rw[Zo]; omega)
  .-- up right
   refine⟨_,rfl,a,dx,_,rfl,hp,xbm (by decide +kernel),_,rfl,_,rfl,_,rfl,a,dp,do_,pw,ph,ps,nm,pt,false,r,rfl,pic,hn,hf,r1,r2,fun H1 s1=>?_⟩;refine⟨_,rfl,a,dx,_,rfl,s1 _ _ hp,xbm (by decide +kernel),_,rfl,a,dp,do_,pw,ph,ps,nm,pt,rfl,Pic.same s1 pic,hn,hf,fun H2 q2 s2 hq2=>⟨q2,_,rfl,SqT.of hq2,rfl,_,_,rfl,_,_,rfl,rfl,?_⟩⟩;refine⟨_,rfl,_,rfl,a,_,dx,_,_,rfl,(s2 _ _ (s1 _ _ hp)),T.c_c,T.n_a7,lkW,false,pw,rfl,fun p H3 hp3 sd3 s3=>?_⟩;refine⟨_,rfl,_,rfl,_,_,rfl,rfl,_,rfl,ifN (decide_eq_false hd) ⟨1,rfl,?_⟩⟩;refine⟨_,rfl,_,rfl,_,rfl,pt.y,r,(-1),rfl,⟨by omega,by omega,by omega,by omega⟩,.inr ⟨rfl,fun l1 hl1=>?_⟩⟩;refine xb4 (fun i=>(pt.x,pt.y+(i:Int)*(-1))) hl1 (by omega) (fun i H R _ k=>⟨_,rfl,_,rfl,(by show 2<=sizeLine; decide),k⟩) fun H4 qs1 s4 hu4 cu4=>?_;obtain⟨ds,hs⟩:=id sd3;have hs4:H4 p=some (.ins t.C_r ds [("width",.int pw)]):=s4 _ _ hs;have sd4:xeb t H4 p false pw:=⟨ds,hs4⟩
   refine⟨_,rfl,.inr ⟨_,rfl,p,ds,_,rfl,hs4,lno (by decide +kernel),p,pw,rfl,sd4,.inr ⟨_,rfl,p,ds,_,rfl,hs4,lno (by decide +kernel),_,rfl,_,_,rfl,rfl,.inr ⟨_,rfl,p,ds,_,rfl,hs4,lno (by decide +kernel),_,rfl,pt.x,_,1,rfl,⟨by omega,by omega,by omega,by omega⟩,.inl ⟨rfl,fun l2 hl2=>?_⟩⟩⟩⟩⟩;refine xb4 (fun i=>(pt.x+(i:Int)*1,r)) hl2 (by omega) (fun i H R _ k=>⟨_,rfl,_,rfl,(by show 2<=sizeLine; decide),k⟩) fun H5 qs2 s5 hu5 cu5=>?_;have c1:xau H5 (Geo.upL pt.x pt.y r) qs1:=by
    have e:Geo.upL pt.x pt.y r=(Z3 (pt.y-r).toNat).map fun (i:Nat)=>(pt.x,pt.y+(i:Int)*(-1)):=by unfold Geo.upL Geo.upN Geo.dn; rw[if_neg hd,if_neg hd]
    rw[e];exact cu4.keep (Same.tups s5)
   have c2:xau H5 (Geo.lvL pw pt.x false r) qs2:=by
    have e:Geo.lvL pw pt.x false r=(Z3 (pw+1+1-pt.x).toNat).map fun (i:Nat)=>(pt.x+(i:Int)*1,r):=by
     unfold Geo.lvL Geo.lvN Geo.wayI;simp only[if_true,Jk,if_false];rw[show (pw+2-pt.x).toNat=(pw+1+1-pt.x).toNat from by omega]
    rw[e];exact cu5
   have l1':=c1.len;have l2':=c2.len;have b1:(Geo.upL pt.x pt.y r).length<17:=by unfold Geo.upL Geo.upN; rw[Za,Zs]; split<;>omega
   have b2:(Geo.lvL pw pt.x false r).length<33:=by unfold Geo.lvL Geo.lvN; rw[Za,Zs]; split<;>omega
   refine⟨_,rfl,_,rfl,l1,l2,_,_,rfl,rfl,s5 _ _ hu4,hu5,(by rw[Za,Za]; exact JF (Jc (by omega:qs1.length+qs2.length<100) (by decide))),fun p6 hp6=>?_⟩;refine q _ p6 (qs1++qs2) (xo (((s1.trans s2).trans s3).trans (s4.trans s5)) hp6) (by rw[ZB]; exact xf) ((c1.append c2).keep (Same.tups (xo (Same.refl _) hp6))) (by rw[Zo]; omega)
  .-- up left
   refine⟨_,rfl,a,dx,_,rfl,hp,xbm (by decide +kernel),_,rfl,_,rfl,_,rfl,a,dp,do_,pw,ph,ps,nm,pt,true,r,rfl,pic,hn,hf,r1,r2,fun H1 s1=>?_⟩;refine⟨_,rfl,a,dx,_,rfl,s1 _ _ hp,xbm (by decide +kernel),_,rfl,a,dp,do_,pw,ph,ps,nm,pt,rfl,Pic.same s1 pic,hn,hf,fun H2 q2 s2 hq2=>⟨q2,_,rfl,SqT.of hq2,rfl,_,_,rfl,_,_,rfl,rfl,?_⟩⟩;refine⟨_,rfl,_,rfl,a,_,dx,_,_,rfl,(s2 _ _ (s1 _ _ hp)),T.c_c,T.n_a7,lkW,true,pw,rfl,fun p H3 hp3 sd3 s3=>?_⟩;refine⟨_,rfl,_,rfl,_,_,rfl,rfl,_,rfl,ifN (decide_eq_false hd) ⟨1,rfl,?_⟩⟩;refine⟨_,rfl,_,rfl,_,rfl,pt.y,r,(-1),rfl,⟨by omega,by omega,by omega,by omega⟩,.inr ⟨rfl,fun l1 hl1=>?_⟩⟩;refine xb4 (fun i=>(pt.x,pt.y+(i:Int)*(-1))) hl1 (by omega) (fun i H R _ k=>⟨_,rfl,_,rfl,(by show 2<=sizeLine; decide),k⟩) fun H4 qs1 s4 hu4 cu4=>?_;obtain⟨ds,hs⟩:=id sd3;have hs4:H4 p=some (.ins t.C_ah ds [("width",.int pw)]):=s4 _ _ hs;have sd4:xeb t H4 p true pw:=⟨ds,hs4⟩
   refine⟨_,rfl,.inl ⟨_,rfl,p,ds,_,rfl,hs4,lno (by decide +kernel),_,rfl,.inl ⟨_,rfl,p,ds,_,rfl,hs4,lno (by decide +kernel),_,rfl,_,_,rfl,rfl,.inl ⟨_,rfl,p,ds,_,rfl,hs4,lno (by decide +kernel),_,rfl,pt.x,_,(-1),rfl,⟨by omega,by omega,by omega,by omega⟩,.inr ⟨rfl,fun l2 hl2=>?_⟩⟩⟩⟩⟩;refine xb4 (fun i=>(pt.x+(i:Int)*(-1),r)) hl2 (by omega) (fun i H R _ k=>⟨_,rfl,_,rfl,(by show 2<=sizeLine; decide),k⟩) fun H5 qs2 s5 hu5 cu5=>?_;have c1:xau H5 (Geo.upL pt.x pt.y r) qs1:=by
    have e:Geo.upL pt.x pt.y r=(Z3 (pt.y-r).toNat).map fun (i:Nat)=>(pt.x,pt.y+(i:Int)*(-1)):=by unfold Geo.upL Geo.upN Geo.dn; rw[if_neg hd,if_neg hd]
    rw[e];exact cu4.keep (Same.tups s5)
   have c2:xau H5 (Geo.lvL pw pt.x true r) qs2:=by
    have e:Geo.lvL pw pt.x true r=(Z3 (pt.x-(0+-1)).toNat).map fun (i:Nat)=>(pt.x+(i:Int)*(-1),r):=by
     unfold Geo.lvL Geo.lvN Geo.wayI;simp only[if_true,Jk,if_false];rw[show (pt.x+1).toNat=(pt.x-(0+-1)).toNat from by omega]
    rw[e];exact cu5
   have l1':=c1.len;have l2':=c2.len;have b1:(Geo.upL pt.x pt.y r).length<17:=by unfold Geo.upL Geo.upN; rw[Za,Zs]; split<;>omega
   have b2:(Geo.lvL pw pt.x true r).length<33:=by unfold Geo.lvL Geo.lvN; rw[Za,Zs]; split<;>omega
   refine⟨_,rfl,_,rfl,l1,l2,_,_,rfl,rfl,s5 _ _ hu4,hu5,(by rw[Za,Za]; exact JF (Jc (by omega:qs1.length+qs2.length<100) (by decide))),fun p6 hp6=>?_⟩;refine q _ p6 (qs1++qs2) (xo (((s1.trans s2).trans s3).trans (s4.trans s5)) hp6) (by rw[ZB]; exact xf) ((c1.append c2).keep (Same.tups (xo (Same.refl _) hp6))) (by rw[Zo]; omega)
theorem lkO {w h:Int}{dp do_:Addr}:(picF w h dp do_).lookup ("opened":Str)=some (.ref do_):=by
 unfold picF;rw[Z2,show (("opened":Str) == "width")=false from by decide +kernel];show ZX ("opened":Str) [("height",V.int h),("placed",V.ref dp),("opened",V.ref do_)]=_;rw[Z2,show (("opened":Str) == "height")=false from by decide +kernel];show ZX ("opened":Str) [("placed",V.ref dp),("opened",V.ref do_)]=_;rw[Z2,show (("opened":Str) == "placed")=false from by decide +kernel];show ZX ("opened":Str) [("opened",V.ref do_)]=_;rw[Z2,show (("opened":Str) == "opened")=true from by decide +kernel]
abbrev Seat:=Bool × Int
def xbq (s:Seat):List Key:=[.inr (xaf s.1),.inl s.2]
def xcy (s:Seat):List V:=[.str (xaf s.1),.int s.2]
theorem xiv {a b:Bool} (h:xaf a=xaf b):a=b:=by
 cases a<;>cases b<;>first|rfl|exact absurd h (by decide +kernel)
theorem xod {s t:Seat} (h:xbq s=xbq t):s=t:=by
 simp only[xbq,JS.injEq,J6.injEq,YI.injEq] at h;exact Prod.ext (xiv h.1) h.2.1
def Sts (H:Hp) (do_:Addr) (ss:List Seat):Prop:=∃ kvs:List (List Key × V),H do_=some (.dT kvs)/\kvs.map (·.1)=ss.map xbq/\ss.Nodup/\ss.length<=32
theorem Sts.same {H H':Hp}{do_:Addr}{ss:List Seat} (s:Same H H') (h:Sts H do_ ss):Sts H' do_ ss:=let ⟨k,e,r⟩:=h; ⟨k,s _ _ e,r⟩
theorem xtk {kvs:List (List Key × V)}{ss:List Seat} (e:kvs.map (·.1)=ss.map xbq) {s:Seat} (h:s∉ss):valV kvs (xbq s)=none:=by
 cases z:valV kvs (xbq s) with
 | none=>rfl
 | some v =>
  obtain⟨i,hi⟩:=xiq z;have m:xbq s∈kvs.map (·.1):=Ze.mpr ⟨_,Zn hi,rfl⟩;rw[e] at m;obtain⟨t,ht,et⟩:=Ze.mp m;exact absurd ht (by rw[xod et]; exact h)
inductive xab (H:Hp):List Seat->List Addr->Prop
 | nil:xab H [] []
 | cons {s:Seat}{q:Addr}{ss:List Seat}{qs:List Addr} (h:H q=some (.tup (xcy s))) (r:xab H ss qs):xab H (s::ss) (q::qs)
theorem xab.keep {H H':Hp} (k:Tups H H') {ss:List Seat}{qs:List Addr} (h:xab H ss qs):xab H' ss qs:=by
 induction h with
 | nil=>exact .nil
 | cons h _ ih=>exact .cons (k _ _ h) ih
theorem xab.len {H:Hp}{ss:List Seat}{qs:List Addr} (h:xab H ss qs):qs.length=ss.length:=by
 induction h with
 | nil=>rfl
 | cons _ _ ih=>simp[ih]
def xcu (s t:Seat):Prop:=(s.1=true/\t.1=false)\/(s.1=t.1/\s.2<t.2)
theorem xqn {s t:Seat} (h:lexK (xbq s) (xbq t)=true):xcu s t:=by
 obtain⟨a,i⟩:=s;obtain⟨b,j⟩:=t;unfold xbq at h;unfold lexK at h;by_cases e:xaf a=xaf b
 .rw [if_pos (by rw[e])] at h;unfold lexK at h;by_cases e2:i=j
  .rw [if_pos (by rw[e2])] at h;unfold lexK at h;cases h
  .rw [if_neg (fun z=>e2 (YI.inj z))] at h;exact .inr ⟨xiv e,of_decide_eq_true h⟩
 .rw [if_neg (fun z=>e (J6.inj z))] at h;cases a<;>cases b
  .exact absurd rfl e
  .exact absurd h (by show ¬ xc8 (.inr (xaf false)) (.inr (xaf true))=true; decide +kernel)
  .exact .inl ⟨rfl,rfl⟩
  .exact absurd rfl e
def unK:List Key->Seat
 | [.inr s,.inl r]=>(decide (s="left"),r)
 | _=>(true,0)
theorem xk5 (s:Seat):unK (xbq s)=s:=by
 obtain⟨b,r⟩:=s;cases b
 .show (decide (("right":Str)="left"),r)=_;rw[decide_eq_false (by decide +kernel)]
 .show (decide (("left":Str)="left"),r)=_;rw[decide_eq_true rfl]
inductive xt2 (t:Adr) (vs:List V) (H:Hp) (Q:VK) (_:XK):Prop
 | mk (a dp do_:Addr) (pw ph:Int) (ps:List Pt) (ss:List Seat) (b:Bool) (r:Int) (e_:vs=[.ref a,.str (xaf b),.int r]) (r_:Pic t H a dp do_ pw ph ps/\Sts H do_ ss/\1<=r/\r<=ph/\(b,r)∉ss/\ss.length<32/\∀ H',(∀ c u,c≠do_->H c=some u->H' c=some u)->Pic t H' a dp do_ pw ph ps->Sts H' do_ (ss++[(b,r)])->Q .non H')
inductive xsj (t:Adr) (vs:List V) (H:Hp) (Q:VK) (_:XK):Prop
 | mk (a dp do_:Addr) (pw ph:Int) (ps:List Pt) (ss:List Seat) (e_:vs=[.ref a]) (r_:Pic t H a dp do_ pw ph ps/\Sts H do_ ss/\∀(l:Addr) (ss':List Seat) (qs:List Addr),H l=none->xab H ss' qs->ss'.Perm ss->ss'.Pairwise xcu->Q (.ref l) (upd H l (.lst (qs.map V.ref))))
theorem Pic.but {t:Adr}{H H':Hp}{a dp do_:Addr}{w h:Int}{ps:List Pt}{kvs:List (List Key × V)} (e:H do_=some (.dT kvs)) (s:∀ c u,c≠do_->H c=some u->H' c=some u) (p:Pic t H a dp do_ w h ps):Pic t H' a dp do_ w h ps :=
 ⟨let ⟨dx,x⟩:=p.ins; ⟨dx,s _ _ (xae x e (fun z=>nomatch z)) x⟩,let ⟨k,x,q⟩:=p.pl; ⟨k,s _ _ (xae x e (fun z=>nomatch z)) x,q.keep fun b xs x=>s _ _ (xae x e (fun z=>nomatch z)) x⟩,p.w1,p.w2,p.h1,p.h2,p.len⟩
theorem ok_j (T:Txt w K mg t):FnOk true P w K mg base (CXo P w) 5 t.f_j t.d_j ["self", "side", "row"] (xt2 t):=by
 refine T.F_j.okn (k:=4) sc_j (fun vs H Q E h=>?_) (fun cdv A outer s H vs Q E hr h=>?_)
 .obtain ⟨a,dp,do_,pw,ph,ps,ss,b,r,rfl,_⟩:=h;rfl
 .obtain ⟨a,dp,do_,pw,ph,ps,ss,b,r,rfl,h⟩:=h;refine⟨_,xj (xay (xa3 (pv 0) T.c_c T.m_f (ok_f T) (hmm hr) T.b_f .nil xm (xb (pv 1) (xb (pv 2) (xg)))))
   (xj (xag (xds (xhr (xa5 hr) (x4 (xb (pv 1) (xb (pv 2) (xg)))) (xaa (pv 0) rfl))) (xn (xa1)) (x5))
   (xn (xcf (xa5 hr) (xaa (pv 0) rfl) (x4 (xb (pv 1) (xb (pv 2) (xg)))) (xdz) rfl))),?_⟩
  obtain⟨pic,st,r1,r2,no,len,q⟩:=h;obtain⟨⟨dx,hp⟩,_,_⟩:=id pic;obtain⟨kvs,hk,ek,nd,l32⟩:=id st;refine⟨_,rfl,a,dx,_,rfl,hp,xbm (by decide +kernel),_,rfl,_,rfl,a,dp,do_,pw,ph,ps,b,r,rfl,pic,r1,r2,fun H1 s1=>?_⟩;refine⟨_,rfl,_,rfl,(by show 2<=sizeLine; decide),fun q1 hq1=>?_⟩;have s2:Same H1 (upd H1 q1 (.tup [.str (xaf b),.int r])):=xo (Same.refl _) hq1;have g2:upd H1 q1 (.tup [.str (xaf b),.int r]) q1=some (.tup [.str (xaf b),.int r]):=xf;revert s2 g2;generalize upd H1 q1 (.tup [.str (xaf b),.int r])=H2;intro s2 g2;have hk2:=s2 _ _ (s1 _ _ hk);have hp2:=s2 _ _ (s1 _ _ hp);have n0:valV kvs (xbq (b,r))=none:=xtk ek no;refine⟨_,rfl,a,_,dx,_,_,rfl,hp2,T.c_c,T.n_bd,lkO,do_,none,rfl,(by rw[<- n0]; exact DGet.t (k:=xbq (b,r)) hk2 g2),false,rfl,iteF ?_⟩;refine⟨_,rfl,a,_,dx,_,_,rfl,hp2,T.c_c,T.n_bd,lkO,_,rfl,_,rfl,(by show 2<=sizeLine; decide),fun q3 hq3=>?_⟩;have s3:Same H2 (upd H2 q3 (.tup [.str (xaf b),.int r])):=xo (Same.refl _) hq3;have g3:upd H2 q3 (.tup [.str (xaf b),.int r]) q3=some (.tup [.str (xaf b),.int r]):=xf;revert s3 g3;generalize upd H2 q3 (.tup [.str (xaf b),.int r])=H3;intro s3 g3;have kl:kvs.length=ss.length:=by
   have:=congrArg QW ek;simpa using this
  refine⟨do_,_,rfl,DPut.t (k:=xbq (b,r)) (s3 _ _ hk2) g3 (Jc (by omega:kvs.length<33) (by decide)),?_⟩;have bt:∀ c u,c≠do_->H c=some u->upd H3 do_ (.dT (putK kvs (xbq (b,r)) (.bl true))) c=some u:=fun c u nc e=>by
   rw[xh nc];exact s3 _ _ (s2 _ _ (s1 _ _ e))
  refine q _ bt (Pic.but hk bt pic) ⟨_,xf,?_,?_,?_⟩
  .rw [xdg _ n0,ZB,ZB,ek];rfl
  .rw [ZZ];exact⟨nd,by simp,fun x hx y hy=>by rw[Z0.mp hy]; exact fun e=>no (e▸hx)⟩
  .rw [Zo];show ss.length+1<=32;omega
theorem ok_ac (T:Txt w K mg t):FnOk true P w K mg base (CXo P w) 1 t.f_ac t.d_ac ["self"] (xsj t):=by
 refine T.F_ac.okn (k:=0) sc_ac (fun vs H Q E h=>?_) (fun cdv A outer s H vs Q E hr h=>?_)
 .obtain ⟨a,dp,do_,pw,ph,ps,ss,rfl,_⟩:=h;rfl
 .obtain ⟨a,dp,do_,pw,ph,ps,ss,rfl,h⟩:=h;refine⟨_,xn (x0 (xw (xks rfl) rfl T.n_sorted PyProof.Rows.Boot.«sorted» (xb (xaa (pv 0) rfl) (xg)))),?_⟩;obtain⟨pic,st,q⟩:=h;obtain⟨⟨dx,hp⟩,_,_⟩:=id pic;obtain⟨kvs,hk,ek,nd,l32⟩:=id st;have kl:kvs.length=ss.length:=by
   have:=congrArg QW ek;simpa using this
  refine⟨_,rfl,a,_,dx,_,_,rfl,hp,T.c_c,T.n_bd,lkO,do_,kvs,[false,true],rfl,hk,by omega,fun p hp'=>?_,by decide,fun l ts fr tm pm pw'=>?_⟩
  .have m:p.1∈kvs.map (·.1):=Ze.mpr ⟨p,hp',rfl⟩;rw[ek] at m;obtain⟨s,_,e⟩:=Ze.mp m;rw[<- e];rfl
  rw[ek] at pm;have back:∀ t∈ts,xbq (unK t.1)=t.1:=fun t ht=>by
   obtain⟨s,_,e⟩:=Ze.mp (pm.mem_iff.mp (Ze.mpr ⟨t,ht,rfl⟩));rw[<- e,xk5]
  have z:=q l ((ts.map (·.1)).map unK) (ts.map (·.2)) fr ?_ ?_ ?_
  .rw [Zv] at z;exact z
  .clear pm pw'
   induction ts with
   | nil=>exact .nil
   | cons t ts ih =>
    refine .cons ?_ (ih (fun x hx=>tm x (Zt _ hx)) fun x hx=>back x (Zt _ hx));have e:=tm t Zr;rw[<- back t Zr] at e;exact e
  .have z2:=pm.map unK;have e2:(ss.map xbq).map unK=ss:=by
    rw[Zv,show (unK∘xbq)=id from funext xk5];exact List.map_id _
   rw[e2] at z2;exact z2
  .rw [ZA] at pw';rw[Zv,ZA];refine pw'.imp_of_mem fun {x y} hx hy hxy=>xqn ?_;show lexK (xbq (unK x.1)) (xbq (unK y.1))=true;rw[back x hx,back y hy];exact hxy
def SsOk (h:Int) (ss:List Seat):Prop:=ss.Nodup/\ss.length<=32/\∀ s∈ss,1<=s.2/\s.2<=h
theorem xab.get {H:Hp}{ss:List Seat}{qs:List Addr} (h:xab H ss qs) {i:Nat}{q:Addr} (e:qs[i]?=some q):∃ s,ss[i]?=some s/\H q=some (.tup (xcy s)):=by
 induction h generalizing i with
 | nil=>simp at e
 | @cons s q' ss qs h _ ih =>
  cases i with
  | zero =>
   simp at e;subst e;exact⟨s,rfl,h⟩
  | succ j=>exact ih (by simpa using e)
theorem nd_map {α β:Type}{f:α->β} (inj:∀ a b,f a=f b->a=b) {l:List α} (h:l.Nodup):(l.map f).Nodup:=by
 rw[List.nodup_iff_pairwise_ne,ZA];exact h.imp fun hne e=>hne (inj _ _ e)
theorem xab.snoc {H:Hp}{ss:List Seat}{qs:List Addr} (h:xab H ss qs) {s:Seat}{q:Addr} (e:H q=some (.tup (xcy s))):xab H (ss++[s]) (qs++[q]):=by
 induction h with
 | nil=>exact .cons e .nil
 | cons h _ ih=>exact .cons h ih
theorem xeu {α:Type}{R:α->α->Prop} (as:∀ a b,R a b->¬ R b a):∀{l l':List α},l.Perm l'->l.Pairwise R->l'.Pairwise R->l=l'
 | [],l',p,_,_=>(Wh.nil_eq p)
 | a::t,[],p,_,_=>absurd p.symm (by intro z; exact absurd (Wh.nil_eq z) (by simp))
 | a::t,b::t',p,h,h'=>by
  have h1:=Qo.mp h;have h2:=Qo.mp h';by_cases e:a=b
  .subst e;rw[xeu as ((List.perm_cons a).mp p) h1.2 h2.2]
  .have ma:a∈t':=by
    have:=p.mem_iff.mp (Zr (a:=a) (l:=t));rcases Z1.mp this with z|z
    .exact absurd z e
    .exact z
   have mb:b∈t:=by
    have:=p.mem_iff.mpr (Zr (a:=b) (l:=t'));rcases Z1.mp this with z|z
    .exact absurd z.symm e
    .exact z
   exact absurd (h2.1 a ma) (as _ _ (h1.1 b mb))
theorem xjo (a b:Seat) (h:xcu a b):¬ xcu b a:=by
 rintro (⟨x,y⟩|⟨x,y⟩)<;>rcases h with⟨z,w⟩|⟨z,w⟩
 .rw [x] at w; cases w
 .rw [x,y] at z; cases z
 .rw [z,w] at x; cases x
 .omega
def xrn (s:Seat):DV:=.tup [.str (xaf s.1),.int s.2]
theorem xsk {K:Zd}{H:Hp}{q:Addr}{s:Seat} (h:H q=some (.tup (xcy s))):Dv K H 1 (.ref q) (xrn s):=by
 refine .tup (SqT.of h) rfl fun j x d h1 h2=>?_
 match j,h1,h2 with
 | 0,h1,h2=>cases h1; cases h2; exact .str
 | 1,h1,h2=>cases h1; cases h2; exact .int
 | j+2,h1,h2=>simp[xcy] at h1
theorem xab.dv {K:Zd}{H:Hp}{ss:List Seat}{qs:List Addr} (h:xab H ss qs) {l:Addr} (e:H l=some (.lst (qs.map V.ref))):Dv K H 2 (.ref l) (.lst (ss.map xrn)):=by
 refine .lst (SqL.of e) (by rw[Za,Za,h.len]) fun j x d h1 h2=>?_;rw[Zg] at h1 h2;obtain⟨q,hq,rfl⟩:=Zk.mp h1;obtain⟨p,hp,rfl⟩:=Zk.mp h2;obtain⟨p',hp',e'⟩:=h.get hq;rw[hp] at hp';cases hp';exact xsk e'
theorem xab.pick {H:Hp}:∀{ss:List Seat}{ys:List V},ys.length=ss.length->(∀(j:Nat) (y:V) (s:Seat),ys[j]?=some y->ss[j]?=some s->∃ q,y=.ref q/\H q=some (.tup (xcy s)))->∃ rs:List Addr,ys=rs.map V.ref/\xab H ss rs
 | [],[],_,_=>⟨[],rfl,.nil⟩
 | [],_::_,h,_=>by cases h
 | _::_,[],h,_=>by cases h
 | s::ss,y::ys,h,k=>by
  obtain⟨q,e,hq⟩:=k 0 y s rfl rfl;obtain⟨rs,e2,r⟩:=xab.pick (ss:=ss) (ys:=ys) (by simpa using h) fun j y s h1 h2=>k (j+1) y s (by simpa using h1) (by simpa using h2)
  exact⟨q::rs,by rw[e,e2]; rfl,.cons hq r⟩
theorem xor {α:Type} [DecidableEq α]:∀{l m:List α},l.Nodup->(∀ x∈l,x∈m)->l.length<=m.length
 | [],m,_,_=>ZW _
 | a::l,m,nd,sub=>by
  obtain⟨h1,h2⟩:=Jd.mp nd;have ha:=sub a Zr;have z:=xor (l:=l) (m:=m.erase a) h2 (fun x hx=>(List.mem_erase_of_ne (fun e:x=a=>h1 (e▸hx))).mpr (sub x (Zt _ hx)));rw[List.length_erase_of_mem ha] at z;have:=List.length_pos_of_mem ha;rw[ZF];omega
theorem xtv {K:Zd}{H:Hp}{q:Addr}{a b:Int} (h:H q=some (.tup [.int a,.int b])):Dv K H 1 (.ref q) (.tup [.int a,.int b]):=by
 refine .tup (SqT.of h) rfl fun j x d h1 h2=>?_
 match j,h1,h2 with
 | 0,h1,h2=>cases h1; cases h2; exact .int
 | 1,h1,h2=>cases h1; cases h2; exact .int
 | j+2,h1,h2=>simp at h1
structure PtOk (w h:Int) (p:Pt):Prop where
 nm:isNm p.nm=true
 x1:1<=p.x
 x2:p.x<=w
 y1:1<=p.y
 y2:p.y<=h
 sd:p.sd="left"\/p.sd="right"\/p.sd="both"
 l1:1<=p.lo
 l2:p.lo<=p.hi
 l3:p.hi<=h
structure xdn (w h:Int) (ps:List Pt):Prop where
 ok:∀ p∈ps,PtOk w h p
 nn:(ps.map (·.nm)).Nodup
 nx:(ps.map (·.x)).Nodup
 ny:(ps.map (·.y)).Nodup
 le:ps.length<=12
theorem xf5 {α β:Type} (f:α->β) {ps:List α} (nd:(ps.map f).Nodup) {i:Nat} (hi:i<ps.length):∀ p∈ps.take i,f p≠f ps[i]:=fun p hp e=>by
 have z:=nd;rw[<- QT i ps,List.drop_eq_getElem_cons hi,ZB,Zx,ZZ] at z;exact z.2.2 _ (Ze.mpr ⟨p,hp,rfl⟩) _ Zr e
theorem PtsL.pick {H:Hp}:∀{ps:List Pt}{ys:List V},ys.length=ps.length->(∀(j:Nat) (y:V) (p:Pt),ys[j]?=some y->ps[j]?=some p->∃ q,y=.ref q/\H q=some (.tup (.str p.nm::ptV p)))->∃ rs:List Addr,ys=rs.map V.ref/\PtsL H ps rs
 | [],[],_,_=>⟨[],rfl,.nil⟩
 | [],_::_,h,_=>by cases h
 | _::_,[],h,_=>by cases h
 | s::ss,y::ys,h,k=>by
  obtain⟨q,e,hq⟩:=k 0 y s rfl rfl;obtain⟨rs,e2,r⟩:=PtsL.pick (ps:=ss) (ys:=ys) (by simpa using h) fun j y s h1 h2=>k (j+1) y s (by simpa using h1) (by simpa using h2)
  exact⟨q::rs,by rw[e,e2]; rfl,.cons hq r⟩
theorem xie {ps:List Pt} (nd:(ps.map (·.nm)).Nodup) {p:Pt} (hp:p∈ps):ps.find? (fun q=>decide (q.nm=p.nm))=some p:=by
 induction ps with
 | nil=>simp at hp
 | cons a ps ih =>
  rw[Zx,Jd] at nd;rcases Z1.mp hp with z|z
  .subst z;rw[QF (by simp)]
  .have ne:¬ a.nm=p.nm:=fun y=>nd.1 (y▸Ze.mpr ⟨p,z,rfl⟩);rw[QG (by simpa using ne)];exact ih nd.2 z
inductive xti (t:Adr) (vs:List V) (H:Hp) (Q:VK) (_:XK):Prop
 | mk (w h:Int) (l m:Addr) (ps:List Pt) (qs:List Addr) (ss:List Seat) (rs:List Addr) (e_:vs=[.int w,.int h,.ref l,.ref m]) (r_:(1<=w/\w<=30/\1<=h/\h<=16)/\H l=some (.lst (qs.map V.ref))/\PtsL H ps qs/\xdn w h ps/\H m=some (.lst (rs.map V.ref))/\xab H ss rs/\SsOk h ss/\∀ H' a dp do_,Same H H'->H a=none->H dp=none->H do_=none->Pic t H' a dp do_ w h ps->Sts H' do_ ss->Q (.ref a) H')
theorem ok_y (T:Txt w K mg t):FnOk true P w K mg base (CXo P w) 6 t.f_y t.d_y ["width", "height", "points", "seats"] (xti t):=by
 refine T.F_y.okn (k:=5) sc_y (fun vs H Q E h=>?_) (fun cdv A outer s H vs Q E hr h=>?_)
 .obtain ⟨w,ph,l,m,ps,qs,ss,rs,rfl,_⟩:=h;rfl
 .obtain ⟨w,ph,l,m,ps,qs,ss,rs,rfl,h⟩:=h;refine⟨_,xj (xx (i:=4) sc_y.nd rfl (Zp rfl) (xe7 T.k_c (ok_an T) (hmm hr) rfl T.g_c T.b_an .nil xm (xb (pv 0) (xb (pv 1) (xg)))))
   (xj (xa0 ZG rfl (xat (pv 2)) (xan rfl (xr (xq (i:=5) sc_y.nd rfl (Zp rfl)) (xr (xq (i:=6) sc_y.nd rfl (Zp rfl)) (xr (xq (i:=7) sc_y.nd rfl (Zp rfl)) (xr (xq (i:=8) sc_y.nd rfl (Zp rfl)) (xr (xq (i:=9) sc_y.nd rfl (Zp rfl)) (xr (xq (i:=10) sc_y.nd rfl (Zp rfl)) (xad)))))))) (xn (xay (xa3 (pv 4) T.c_c T.m_b (ok_b T) (hmm hr) T.b_b .nil xm (xah (pv 5) (xah (pv 6) (xah (pv 7) (xah (pv 8) (xah (pv 9) (xah (pv 10) (xg) rfl) rfl) rfl) rfl) rfl) rfl)))))
   (xj (xa0 ZG rfl (xat (pv 3)) (xan rfl (xr (xq (i:=11) sc_y.nd rfl (Zp rfl)) (xr (xq (i:=12) sc_y.nd rfl (Zp rfl)) (xad)))) (xn (xay (xa3 (pv 4) T.c_c T.m_j (ok_j T) (hmm hr) T.b_j .nil xm (xb (pv 11) (xb (pv 12) (xg)))))))
   (xn (x0 (pv 4))))),?_⟩
  obtain⟨⟨w1,w2,h1,h2⟩,hl,pts,pok,hm,sts,⟨snd,sle,srow⟩,q⟩:=h;refine⟨_,rfl,_,rfl,fun a dx hx hdx ne=>⟨a,dx,w,ph,rfl,xf,w1,w2,h1,h2,fun H5 dp do_ hdp5 hdo5 s6 pic5 hdt=>⟨rfl,?_⟩⟩⟩;have k5:Same H H5:=fun b u e=>s6 b u (xi e hx) (by rw[xh (xi e hx),xh (xi e hdx)]; exact e);have up:∀ b,upd (upd H dx (.own a)) a (.ins t.C_c dx []) b=none->H b=none:=fun b z=>by
   cases e:H b with
   | none=>rfl
   | some u=>rw[xh (xi e hx),xh (xi e hdx),e] at z; cases z
  have fdp:=up _ hdp5;have fdo:=up _ hdo5;have pl:=pts.len;have sl:=sts.len;refine⟨_,rfl,l,rfl,⟨_,SqL.of (k5 _ _ hl)⟩,?_⟩;refine xa6 (xs:=qs.map V.ref) (Pv:=fun i Z H2=>∃ v5 v6 v7 v8 v9 v10 v11 v12:Option V,Z=[some (.int w),some (.int ph),some (.ref l),some (.ref m),some (.ref a),v5,v6,v7,v8,v9,v10,v11,v12]/\Same H H2/\Pic t H2 a dp do_ w ph (ps.take i)/\H2 do_=some (.dT [])) ⟨_,_,_,_,_,_,_,_,rfl,k5,by simpa using pic5,hdt⟩ (fun _ _ _ _ ⟨_,_,_,_,_,_,_,_,_,z,_⟩=>SqL.of (z _ _ hl)) ?_ ?_
  .rintro i v Z H2 hv ⟨v5,v6,v7,v8,v9,v10,v11,v12,rfl,s2,pic2,hd2⟩;rw[Zg] at hv;obtain⟨z,hz,rfl⟩:=Zk.mp hv;obtain⟨p,hp,ez⟩:=pts.get hz;obtain⟨hi,ep⟩:=Zi.mp hp;have ok:=pok.ok p (Zn hp);obtain⟨⟨dx2,hp2⟩,⟨kvs,hk2,_⟩,_⟩:=id pic2;have ple:=pok.le;refine⟨z,_,rfl,SqT.of (s2 _ _ ez),rfl,_,_,rfl,_,_,rfl,_,_,rfl,_,_,rfl,_,_,rfl,_,_,rfl,rfl,?_⟩;refine⟨_,rfl,a,dx2,_,rfl,hp2,xbm (by decide +kernel),_,rfl,_,rfl,_,rfl,_,rfl,_,rfl,_,rfl,?_⟩;refine⟨a,dp,do_,w,ph,ps.take i,p.nm,p.x,p.y,p.sd,p.lo,p.hi,.int p.hi,rfl,pic2,.inr rfl,ok.nm,ok.x1,ok.x2,ok.y1,ok.y2,ok.sd,ok.l1,ok.l2,ok.l3,fun p' hp'=>?_,?_,fun H3 k3 pic3=>?_⟩
   .have e:=ep.symm;subst e;exact⟨xf5 _ pok.nn hi p' hp',xf5 _ pok.nx hi p' hp',xf5 _ pok.ny hi p' hp'⟩
   .rw [Jh];omega
   .refine ⟨_,_,_,_,_,_,_,_,rfl,fun b u e=>k3 b u (xi e fdp) (s2 b u e),?_,k3 _ _ (xae hd2 hk2 (fun z=>nomatch z)) hd2⟩;rw[ZV,hp];exact pic3
  .rintro Z H2 ⟨v5,v6,v7,v8,v9,v10,v11,v12,rfl,s2,pic2,hd2⟩;rw[Za,pl,Yf] at pic2;refine⟨_,rfl,m,rfl,⟨_,SqL.of (s2 _ _ hm)⟩,?_⟩;refine xa6 (xs:=rs.map V.ref) (Pv:=fun i Z H3=>∃ v5 v6 v7 v8 v9 v10 v11 v12:Option V,Z=[some (.int w),some (.int ph),some (.ref l),some (.ref m),some (.ref a),v5,v6,v7,v8,v9,v10,v11,v12]/\Same H H3/\Pic t H3 a dp do_ w ph ps/\Sts H3 do_ (ss.take i)) ⟨_,_,_,_,_,_,_,_,rfl,s2,pic2,[],hd2,rfl,List.nodup_nil,by simp⟩ (fun _ _ _ _ ⟨_,_,_,_,_,_,_,_,_,z,_⟩=>SqL.of (z _ _ hm)) ?_ ?_
   .rintro i v Z H3 hv ⟨v5,v6,v7,v8,v9,v10,v11,v12,rfl,s3,pic3,st3⟩;rw[Zg] at hv;obtain⟨z,hz,rfl⟩:=Zk.mp hv;obtain⟨s0,hs0,ez⟩:=sts.get hz;obtain⟨hi,es⟩:=Zi.mp hs0;obtain⟨b,r⟩:=s0;obtain⟨r1,r2⟩:=srow _ (Zn hs0);obtain⟨⟨dx3,hp3⟩,_,_⟩:=id pic3;have nin:(b,r)∉ss.take i:=fun hmem=>by
     have:=xf5 id (by simpa using snd) hi _ hmem;exact this (by rw[es])
    refine⟨z,_,rfl,SqT.of (s3 _ _ ez),rfl,_,_,rfl,_,_,rfl,rfl,?_⟩;refine⟨_,rfl,a,dx3,_,rfl,hp3,xbm (by decide +kernel),_,rfl,_,rfl,?_⟩;refine⟨a,dp,do_,w,ph,ps,ss.take i,b,r,rfl,pic3,st3,r1,r2,nin,?_,fun H4 k4 pic4 st4=>?_⟩
    .rw [Jh];omega
    .refine ⟨_,_,_,_,_,_,_,_,rfl,fun c u e=>k4 c u (xi e fdo) (s3 c u e),pic4,?_⟩;rw[ZV,hs0];exact st4
   .rintro Z H3 ⟨v5,v6,v7,v8,v9,v10,v11,v12,rfl,s3,pic3,st3⟩;rw[Za,sl,Yf] at st3;exact⟨_,rfl,q H3 a dp do_ s3 hx fdp fdo pic3 st3⟩
def scD:V->DV
 | .int i=>.int i
 | .bl b=>.bl b
 | .str s=>.str s
 | _=>.non
def scV:V->Bool
 | .int _=>true
 | .bl _=>true
 | .str _=>true
 | .non=>true
 | _=>false
theorem xvi {K:Zd}{H:Hp}{v:V} (h:scV v=true):Dv K H 0 v (scD v):=by
 cases v with
 | int i=>exact .int
 | bl b=>exact .bl
 | str s=>exact .str
 | non=>exact .non
 | _=>cases h
theorem xew {K:Zd}{H:Hp}{xs:List V} (f:xs.all scV=true) (j:Nat) (x:V) (d:DV) (h1:xs[j]?=some x) (h2:(xs.map scD)[j]?=some d):Dv K H 0 x d:=by
 rw[Zg,h1] at h2;cases h2;exact xvi (Y2.mp f x (Zn h1))
inductive Er where
 | badDrawing (v0:V) (v1:V)
def Er.cls (t:Adr):Er->Addr
 | .badDrawing _ _=>t.C_a
def Er.fs:Er->List (Str × V)
 | .badDrawing v0 v1=>[("row",v0),("column",v1)]
def ErAt (t:Adr) (H:Hp) (e:Addr) (er:Er):Prop:=(er.fs=[]/\H e=some (XO e (er.cls t) none))\/(er.fs≠[]/\∃ dx,H e=some (XO e (er.cls t) (some dx))/\H dx=some (XD dx er.fs))
def xch (t:Adr) (H H':Hp) (e:Addr) (er:Er):Prop:=Same H H'/\ErAt t H' e er
theorem xch.pre {t:Adr}{H H1 H':Hp}{e:Addr}{er:Er} (s:Same H H1) (h:xch t H1 H' e er):xch t H H' e er:=⟨s.trans h.1,h.2⟩
inductive spX2 (C:Addr) (f g:Str) (vs:List V) (H:Hp) (Q:VK) (_:XK):Prop
 | mk (e:Addr) (v w:V) (e_:vs=[.ref e,v,w]) (r_:H e=some (XN e C none)/\∀ dx,H dx=none->Q .non (upd (upd (upd H dx (XD dx [(f,v)])) e (XN e C (some dx))) dx (XD dx (putF g w [(f,v)]))))
theorem lk_1 {f:Str}{v:V}{r:List (Str × V)}:((f,v)::r).lookup f=some v:=by simp
theorem lk_2 {f g:Str}{v w:V} (h:(g == f)=false):([(f,v),(g,w)]:List (Str × V)).lookup g=some w:=by
 rw[Z2,h];simp
theorem xb2 {t:Adr}{H:Hp}{e dx C:Addr}{er:Er}{fs fs0:List (Str × V)} (hc:er.cls t=C) (hf:er.fs=fs) (he:H e=none) (hdx:upd H e (XN e C none) dx=none) (hn:fs≠[]:=by (intro z; cases z)):xch t H (upd (upd (upd (upd (upd H e (XN e C none)) dx (XD dx fs0)) e (XN e C (some dx))) dx (XD dx fs)) e (XO e C (some dx))) e er:=by
 have ne:dx≠e:=fun z=>by rw[z,xf] at hdx; cases hdx
 rw[xh ne] at hdx;subst hc hf;refine⟨fun y o q=>?_,.inr ⟨hn,dx,xf,?_⟩⟩
 .rw [xh (xi q he),xh (xi q hdx),xh (xi q he),xh (xi q hdx),xh (xi q he)];exact q
 .rw [xh ne,xf]
theorem xb3 {H:Hp}{e dx C:Addr}{a b c:HO} (hdx:upd H e a dx=none):upd (upd (upd (upd H e a) dx b) e (XN e C (some dx))) dx c e=some (XN e C (some dx)):=by
 have ne:dx≠e:=fun z=>by rw[z,xf] at hdx; cases hdx
 rw[xh (ZI ne),xf]
theorem ok_n (T:Txt w K mg t):FnOk true P w K mg base (CXo P w) 1 t.f_n t.d_n ["self", "row", "column"] (spX2 t.C_a "row" "column"):=by
 refine T.F_n.okn (k:=0) sc_n (fun vs H Q E h=>?_) (fun cdv A outer s H vs Q E hr h=>?_)
 .obtain ⟨e,v,w2,rfl,_⟩:=h;rfl
 .obtain ⟨e,v,w2,rfl,h⟩:=h;refine⟨_,xj (xmo (pv 0) (pv 1) rfl)
   (xn (xmo (pv 0) (pv 2) rfl)),?_⟩
  obtain⟨he,q⟩:=h;refine⟨_,rfl,_,rfl,e,t.C_a,rfl,T.x_a,T.n_bm,.inl ⟨he,fun dx hdx=>?_⟩⟩;have ne:dx≠e:=fun z=>by rw[z,he] at hdx; cases hdx
  exact⟨_,rfl,_,rfl,e,t.C_a,rfl,T.x_a,T.n_bh,.inr ⟨dx,_,xf,(by rw[xh ne]; exact xf),(by show 1<1000; decide),q dx hdx⟩⟩
abbrev Pr:=Pt × Bool × Int
def prV (p:Pr):List V:=[.str p.1.nm,.str (xaf p.2.1),.int p.2.2]
inductive PrsL (H:Hp):List Pr->List Addr->Prop
 | nil:PrsL H [] []
 | cons {p:Pr}{q:Addr}{ps:List Pr}{qs:List Addr} (h:H q=some (.tup (prV p))) (r:PrsL H ps qs):PrsL H (p::ps) (q::qs)
theorem PrsL.keep {H H':Hp} (s:Tups H H') {ps:List Pr}{qs:List Addr} (h:PrsL H ps qs):PrsL H' ps qs:=by
 induction h with
 | nil=>exact .nil
 | cons h _ ih=>exact .cons (s _ _ h) ih
theorem PrsL.len {H:Hp}{ps:List Pr}{qs:List Addr} (h:PrsL H ps qs):qs.length=ps.length:=by
 induction h with
 | nil=>rfl
 | cons _ _ ih=>simp[ih]
theorem PrsL.snoc {H:Hp}{ps:List Pr}{qs:List Addr} (h:PrsL H ps qs) {p:Pr}{q:Addr} (e:H q=some (.tup (prV p))):PrsL H (ps++[p]) (qs++[q]):=by
 induction h with
 | nil=>exact .cons e .nil
 | cons h _ ih=>exact .cons h ih
theorem PrsL.get {H:Hp}{ps:List Pr}{qs:List Addr} (h:PrsL H ps qs) {i:Nat}{q:Addr} (e:qs[i]?=some q):∃ p,ps[i]?=some p/\H q=some (.tup (prV p)):=by
 induction h generalizing i with
 | nil=>simp at e
 | @cons p q' ps qs h _ ih =>
  cases i with
  | zero =>
   simp at e;subst e;exact⟨p,rfl,h⟩
  | succ j=>exact ih (by simpa using e)
structure PrOk (ps:List Pt) (w h:Int) (p:Pr):Prop where
 nm:isNm p.1.nm=true
 fd:ps.find? (fun z=>decide (z.nm=p.1.nm))=some p.1
 r1:1<=p.2.2
 r2:p.2.2<=h
 xy:1<=p.1.x/\p.1.x<=w/\1<=p.1.y/\p.1.y<=h
abbrev Cl:=Int × Int
def ck (c:Cl):List Key:=[.inl c.1,.inl c.2]
theorem xth {a b:Cl} (h:ck a=ck b):a=b:=by
 obtain⟨x,y⟩:=a;obtain⟨u,v⟩:=b;have h1:=JS.inj h;have h2:=JS.inj h1.2;rw[show x=u from YI.inj h1.1,show y=v from YI.inj h2.1]
def SD (H:Hp) (d:Addr) (n:Nat) (m:Cl->Option Str):Prop:=∃ kvs,H d=some (.dT kvs)/\kvs.length<=n/\(kvs.map (·.1)).Nodup/\(∀ kv∈kvs,∃ c,kv.1=ck c)/\∀ c,valV kvs (ck c)=(m c).map V.str
theorem xjf {κ:Type} [DecidableEq κ] (kvs:List (κ × V)) (k:κ) (v:V):(putK kvs k v).map (·.1)=kvs.map (·.1)\/(valV kvs k=none/\(putK kvs k v).map (·.1)=kvs.map (·.1)++[k]):=by
 cases e:valV kvs k with
 | none =>
  rw[xdg v e,ZB];exact .inr ⟨rfl,rfl⟩
 | some y =>
  left;unfold putK;rw[if_pos (by rw[xdj,e]; rfl),Zv]
  congr 1
  funext kv;show (if kv.1=k then (kv.1,v) else kv).1=kv.1;split<;>rfl
theorem xg9 {κ:Type} [DecidableEq κ]:∀{kvs:List (κ × V)}{k:κ},valV kvs k=none->k∉kvs.map (·.1)
 | [],_,_,h=>nomatch h
 | x::r,k,e,h=>by
  by_cases z:x.1=k
  .rw [xa7 z] at e;cases e
  .rw [xa2 z] at e;rcases Z1.mp h with h|h
   .exact z h.symm
   .exact xg9 e h
theorem xlv {κ:Type} [DecidableEq κ] {kvs:List (κ × V)}{k:κ}{v:V} (h:(kvs.map (·.1)).Nodup):((putK kvs k v).map (·.1)).Nodup:=by
 rcases xjf kvs k v with e|⟨e0,e⟩
 .rw [e];exact h
 .rw [e,ZZ];refine⟨h,by simp,fun a ha b hb z=>xg9 e0 ?_⟩;rw[Z0.mp hb] at z;exact z▸ha
theorem xk6 {κ:Type} [DecidableEq κ] {kvs:List (κ × V)}{k:κ}{v:V}{P:κ->Prop} (hk:P k) (h:∀ kv∈kvs,P kv.1):∀ kv∈putK kvs k v,P kv.1:=fun kv hkv=>by
 have m:kv.1∈(putK kvs k v).map (·.1):=Ze.mpr ⟨kv,hkv,rfl⟩;rcases xjf kvs k v with e|⟨_,e⟩
 .rw [e] at m;obtain⟨z,hz,ez⟩:=Ze.mp m;rw[<- ez];exact h z hz
 .rw [e] at m;rcases Z9.mp m with m|m
  .obtain ⟨z,hz,ez⟩:=Ze.mp m;rw[<- ez];exact h z hz
  .rw [Z0.mp m];exact hk
theorem SD.put {H:Hp}{d:Addr}{n:Nat}{m:Cl->Option Str} (s:SD H d n m) (hn:n<1000) {b:Addr}{c:Cl} (eb:H b=some (.tup [.int c.1,.int c.2])) (x:Str) :
    ∃ H',DPut H d (.ref b) (.str x) H'/\SD H' d (n+1) (Drw.set1 m c x)/\(∀ a u,a≠d->H a=some u->H' a=some u)/\∀ a,H a=none->H' a=none:=by
  obtain⟨kvs,e,l,nd,ks,vs⟩:=s;refine⟨_,DPut.t (k:=ck c) e eb (Z6 (by omega:_<=1000) (by decide)),⟨_,xf,?_,xlv nd,xk6 (P:=fun k=>∃ c,k=ck c) ⟨c,rfl⟩ ks,fun z=>?_⟩,fun a u na ea=>by rw[xh na]; exact ea,fun a ea=>by rw[xh (fun z=>by rw[z,e] at ea; cases ea)]; exact ea⟩
  . have:=xb7 kvs (ck c) (.str x)
    omega
  . rw[xkk]
    unfold Drw.set1;by_cases zc:z=c
    . rw[if_pos (by rw[zc]),if_pos zc]
      rfl
    . rw[if_neg (fun y=>zc (xth y)),if_neg zc]
      exact vs z
theorem SD.get {H:Hp}{d:Addr}{n:Nat}{m:Cl->Option Str} (s:SD H d n m) {b:Addr}{c:Cl} (eb:H b=some (.tup [.int c.1,.int c.2])):DGet H d (.ref b) ((m c).map V.str):=by
 obtain⟨kvs,e,l,nd,ks,vs⟩:=s;rw[<- vs c];exact DGet.t (k:=ck c) e eb
theorem SD.keep {H H':Hp}{d:Addr}{n:Nat}{m:Cl->Option Str} (s:SD H d n m) (h:∀ u,H d=some u->H' d=some u):SD H' d n m:=by
 obtain⟨kvs,e,r⟩:=s;exact⟨kvs,h _ e,r⟩
theorem SD.le {H:Hp}{d:Addr}{n k:Nat}{m:Cl->Option Str} (s:SD H d n m) (h:n<=k):SD H d k m:=by
 obtain⟨kvs,e,l,r⟩:=s;exact⟨kvs,e,by omega,r⟩
theorem SD.new {H:Hp}{d:Addr} (e:H d=some (.dT [])):SD H d 0 Drw.no:=⟨[],e,Zj _,List.nodup_nil,fun _ z=>(nomatch z),fun _=>rfl⟩
def lsS (x r:Int) (c:Cl):Str:=Drw.ls (Zb "+") (Zb "|") (Zb "-") x r c
def ledS (w:Int) (p:Pr):List (Cl × Str):=Drw.ledP (Zb "+") (Zb "|") (Zb "-") w p.1.x p.1.y p.2.1 p.2.2
def hsS:Str:=Zb "#"
theorem xo3 {w x y:Int}{b:Bool}{r:Int} (h1:1<=x) (h2:x<=w) (h3:w<=30) (h4:1<=y) (h5:y<=16) (h6:1<=r) (h7:r<=16):(Geo.cells w x y b r).length<=50:=by
 unfold Geo.cells Geo.upL Geo.lvL Geo.upN Geo.lvN;rw[Zo,Za,Za,Zs,Zs];split<;>split<;>omega
theorem xtb (c d:Cl):DV.tup [.int c.1,.int c.2]=DV.tup [.int d.1,.int d.2]↔c=d:=by
 constructor
 .intro h
  have h1:=JS.inj (DV.tup.inj h);have h2:=JS.inj h1.2;exact Prod.ext (DV.int.inj h1.1) (DV.int.inj h2.1)
 .intro h
  rw[h]
inductive xse (vs:List V) (H:Hp) (Q:VK) (_:XK):Prop
 | mk (q:Addr) (c:Cl) (x r:Int) (e_:vs=[.ref q,.int x,.int r]) (r_:H q=some (.tup [.int c.1,.int c.2])/\∀ H',Same H H'->Q (.str (lsS x r c)) H')
inductive xp9 (t:Adr) (vs:List V) (H:Hp) (Q:VK) (_:XK):Prop
 | mk (a l dp do_:Addr) (pw ph:Int) (ps:List Pt) (prs:List Pr) (qs:List Addr) (e_:vs=[.ref a,.ref l]) (r_:Pic t H a dp do_ pw ph ps/\H l=some (.lst (qs.map V.ref))/\PrsL H prs qs/\(∀ p∈prs,PrOk ps pw ph p)/\prs.length<=12/\∀ H' d,Same H H'->H d=none->SD H' d 600 (Drw.marks hsS Drw.no (prs.flatMap (ledS pw)))->Q (.ref d) H')
theorem ok_at (T:Txt w K mg t):FnOk true P w K mg base (CXo P w) 1 t.f_at t.d_at ["cell", "x", "row"] (xse):=by
 refine T.F_at.okn (k:=0) sc_at (fun vs H Q E h=>?_) (fun cdv A outer s H vs Q E hr h=>?_)
 .obtain ⟨q,c,x,r,rfl,_⟩:=h;rfl
 .obtain ⟨q,c,x,r,rfl,h⟩:=h;refine⟨_,xj (xag (x9 (xfz (xb1 hr)) (pv 0) (x4 (xb (pv 1) (xb (pv 2) (xg)))) (x8 _)) (xn (x0 (x6))) (x5))
   (xn (x0 (xde (x9 xbr (xax xbj (pv 0) (xk) (fun _ _=>rfl)) (pv 1) (x8 _)) (x6) (x6)))),?_⟩
  obtain⟨hq,h⟩:=h;refine⟨_,rfl,_,rfl,_,rfl,(by show 2<=sizeLine; decide),fun p1 hp1=>?_⟩;have s1:Same H (upd H p1 (.tup [.int x,.int r])):=xo (Same.refl _) hp1;have g1:upd H p1 (.tup [.int x,.int r]) p1=some (.tup [.int x,.int r]):=xf;revert s1 g1;generalize upd H p1 (.tup [.int x,.int r])=H1;intro s1 g1;have d1:Dv K H1 1 (.ref q) (.tup [.int c.1,.int c.2]):=.tup (SqT.of (s1 _ _ hq)) rfl (xew (xs:=[.int c.1,.int c.2]) rfl);have d2:Dv K H1 1 (.ref p1) (.tup [.int x,.int r]):=.tup (SqT.of g1) rfl (xew (xs:=[.int x,.int r]) rfl);refine⟨1,1,_,_,d1,d2,by decide,by decide,_,rfl,?_⟩;rw[xrp (x:=c) (y:=(x,r)) rfl rfl (xtb c (x,r))];have e0:lsS x r c=if c=(x,r) then Zb "+" else if c.1=x then Zb "|" else Zb "-":=rfl
  refine ite2 (fun z=>?_) (fun z=>?_)
  .have e:=h H1 s1;rw[e0,if_pos (of_decide_eq_true z)] at e;exact e
  .have nz:¬ c=(x,r):=fun y=>z (decide_eq_true y);refine⟨_,rfl,q,_,0,.int c.1,rfl,rfl,SqT.of (s1 _ _ hq),rfl,_,rfl,rfl,_,rfl,?_⟩;have e:=h H1 s1;rw[e0,if_neg nz] at e;refine ite2 (fun y=>?_) (fun y=>?_)
   .have y1:c.1=x:=V.int.inj (of_decide_eq_true y);rw[if_pos y1] at e;exact e
   .have y1:¬ c.1=x:=fun w=>y (decide_eq_true (by rw[w]));rw[if_neg y1] at e;exact e
theorem ok_af (T:Txt w K mg t):FnOk true P w K mg base (CXo P w) 7 t.f_af t.d_af ["picture", "pairs"] (xp9 t):=by
 refine T.F_af.okn (k:=6) sc_af (fun vs H Q E h=>?_) (fun cdv A outer s H vs Q E hr h=>?_)
 .obtain ⟨a,l,dp,do_,pw,ph,ps,prs,qs,rfl,_⟩:=h;rfl
 .obtain ⟨a,l,dp,do_,pw,ph,ps,prs,qs,rfl,h⟩:=h;refine⟨_,xj (xx (i:=2) sc_af.nd rfl (Zp rfl) (xg6))
   (xj (xa0 ZG rfl (xat (pv 1)) (xan rfl (xr (xq (i:=3) sc_af.nd rfl (Zp rfl)) (xr (xq (i:=4) sc_af.nd rfl (Zp rfl)) (xr (xq (i:=5) sc_af.nd rfl (Zp rfl)) (xad))))) (xj (xcx (xa3 (pv 0) T.c_c T.m_g (ok_g T) (hmm hr) T.b_g .nil xm (xb (pv 3) (xg))) (xan rfl (xr (xq (i:=6) sc_af.nd rfl (Zp rfl)) (xr (xq (i:=7) sc_af.nd rfl (Zp rfl)) (xad)))))
   (xn (xa0 ZG rfl (xat (xt (ok_a2 T) (hmm hr) rfl T.g_a2 T.F_a2.kp T.b_a2 .nil xm (xb (pv 0) (xb (pv 3) (xb (pv 4) (xb (pv 5) (xg))))))) (xq (i:=8) sc_af.nd rfl (Zp rfl)) (xn (xcf (xa5 hr) (pv 2) (pv 8) (xde (xds (xhr (xa5 hr) (pv 8) (pv 2))) (x6) (xt (ok_at T) (hmm hr) rfl T.g_at T.F_at.kp T.b_at .nil xm (xb (pv 8) (xb (pv 6) (xb (pv 5) (xg)))))) rfl))))))
   (xn (x0 (pv 2)))),?_⟩
  obtain⟨pic,hl,prl,oks,l12,q⟩:=h;have pll:=prl.len;refine fun d hd=>?_;have s1:Same H (upd H d (.dT [])):=xo (Same.refl _) hd;have g1:upd H d (.dT []) d=some (.dT []):=xf;revert s1 g1;generalize upd H d (.dT [])=H1;intro s1 g1;refine⟨_,rfl,l,rfl,⟨_,SqL.of (s1 _ _ hl)⟩,?_⟩;refine xa6 (xs:=qs.map V.ref) (Pv:=fun i Z H5=>∃(v3 v4 v5 v6 v7 v8:Option V),Z=[some (.ref a),some (.ref l),some (.ref d),v3,v4,v5,v6,v7,v8]/\Same H H5/\SD H5 d (50*i) (Drw.marks hsS Drw.no ((prs.take i).flatMap (ledS pw)))) ⟨_,_,_,_,_,_,rfl,s1,SD.new g1⟩ ?_ ?_ ?_
  .rintro i Z H5 _ ⟨_,_,_,_,_,_,rfl,s5,_⟩;exact SqL.of (s5 _ _ hl)
  .rintro i x Z H5 hx ⟨v3,v4,v5,v6,v7,v8,rfl,s5,sd⟩;rw[Zg,Zk] at hx;obtain⟨qa,hqa,rfl⟩:=hx;obtain⟨⟨pt,b,r⟩,hp,hpq⟩:=prl.get hqa;have ok:=oks _ (Zn hp);have i12:i<12:=by have:=(Zi.mp hp).1; omega
   have w2:=pic.w2;have h2:=pic.h2;have xy:1<=pt.x/\pt.x<=pw/\1<=pt.y/\pt.y<=ph:=ok.xy;have r1:1<=r:=ok.r1;have r2:r<=ph:=ok.r2;refine⟨qa,_,rfl,SqT.of (s5 _ _ hpq),rfl,_,_,rfl,_,_,rfl,_,_,rfl,rfl,?_⟩;have pic5:=Pic.same s5 pic;obtain⟨⟨dx,hpi⟩,_⟩:=id pic5;refine⟨_,rfl,a,dx,_,rfl,hpi,xbm (by decide +kernel),_,rfl,a,dp,do_,pw,ph,ps,pt.nm,pt,rfl,pic5,ok.nm,ok.fd,fun H6 q6 s6 hq6=>⟨q6,_,rfl,SqT.of hq6,rfl,_,_,rfl,_,_,rfl,rfl,?_⟩⟩;refine⟨_,rfl,_,rfl,_,rfl,_,rfl,a,dp,do_,pw,ph,ps,pt.nm,pt,b,r,rfl,Pic.same s6 pic5,ok.nm,ok.fd,ok.r1,ok.r2,ok.xy,fun H7 l7 cq s7 hl7 cl7 c100=>⟨l7,rfl,⟨_,SqL.of hl7⟩,?_⟩⟩;have sd7:=sd.keep (H':=H7) (fun u e=>s7 _ _ (s6 _ _ e));have ne7:l7≠d:=by
    obtain⟨kvs,e,_⟩:=sd7;exact xae hl7 e (fun z=>nomatch z)
   have cll:=cl7.len;have c50:=xo3 (b:=b) xy.1 xy.2.1 w2 xy.2.2.1 (by omega) r1 (by omega);have ll:(ledS pw (pt,b,r)).length=cq.length:=by
    unfold ledS Drw.ledP;rw[Za,cll]
   refine xa6 (xs:=cq.map V.ref) (Pv:=fun j Z H8=>∃(v8:Option V),Z=[some (.ref a),some (.ref l),some (.ref d),some (.str pt.nm),some (.str (xaf b)),some (.int r),some (.int pt.x),some (.int pt.y),v8]/\(∀ c u,c≠d->H7 c=some u->H8 c=some u)/\SD H8 d (50*i+j) (Drw.marks hsS (Drw.marks hsS Drw.no ((prs.take i).flatMap (ledS pw))) ((ledS pw (pt,b,r)).take j))) ⟨_,rfl,fun c u _ e=>e,sd7⟩ ?_ ?_ ?_
   .rintro j Z H8 _ ⟨_,rfl,k8,_⟩;exact SqL.of (k8 _ _ ne7 hl7)
   .rintro j x Z H8 hx ⟨v8,rfl,k8,sd8⟩;rw[Zg,Zk] at hx;obtain⟨qc,hqc,rfl⟩:=hx;obtain⟨c,hc,hc7⟩:=cl7.get hqc;have j50:j<50:=by have:=(Zi.mp hqc).1; omega
    have nqc:qc≠d:=by
     obtain⟨kvs,e,_⟩:=sd7;exact xae hc7 e (fun z=>nomatch z)
    have hc8:=k8 _ _ nqc hc7;have stp:∀ m:Cl->Option Str,Drw.marks hsS m ((ledS pw (pt,b,r)).take (j+1))=Drw.mark1 hsS (Drw.marks hsS m ((ledS pw (pt,b,r)).take j)) c (lsS pt.x r c):=fun m=>by
     have e:(ledS pw (pt,b,r))[j]?=some (c,lsS pt.x r c):=by
      unfold ledS Drw.ledP;rw[Zg,hc];rfl
     rw[ZV,e];unfold Drw.marks;rw[Ys];rfl
    refine⟨_,rfl,_,rfl,d,_,rfl,sd8.get hc8,_,rfl,ite2 (fun z=>?_) (fun z=>?_)⟩
    .rw [JH] at z;obtain⟨H9,dput,sd9,k9,_⟩:=sd8.put (by omega) hc8 hsS;refine⟨_,rfl,_,rfl,d,H9,rfl,dput,_,rfl,fun c u nc e=>k9 _ _ nc (k8 _ _ nc e),?_⟩;rw[stp];unfold Drw.mark1;rw[if_pos z];exact sd9
    .rw [JH] at z;refine⟨_,rfl,_,rfl,_,rfl,qc,c,pt.x,r,rfl,hc8,fun H9 s9=>?_⟩;obtain⟨H10,dput,sd10,k10,_⟩:=(sd8.keep (H':=H9) (fun u e=>s9 _ _ e)).put (by omega) (s9 _ _ hc8) (lsS pt.x r c);refine⟨_,rfl,_,rfl,d,H10,rfl,dput,_,rfl,fun c u nc e=>k10 _ _ nc (s9 _ _ (k8 _ _ nc e)),?_⟩;rw[stp];unfold Drw.mark1;rw[if_neg z];exact sd10
   .rintro Z H8 ⟨v8',rfl,k8,sd8⟩;rw[Za] at sd8;refine⟨_,_,_,_,_,_,rfl,fun c u e=>k8 _ _ (xi e hd) (s7 _ _ (s6 _ _ (s5 _ _ e))),?_⟩;rw[ZR (l:=ledS pw (pt,b,r)) (by omega)] at sd8;have e:(prs.take (i+1)).flatMap (ledS pw)=(prs.take i).flatMap (ledS pw)++ledS pw (pt,b,r):=by
     rw[ZV,hp,Y7];exact congrArg _ (Jy _)
    rw[e];refine SD.le ?_ (show 50*i+cq.length<=50*(i+1) by omega);unfold Drw.marks at sd8 ⊢;rw[Ys];exact sd8
  .rintro Z H5 ⟨v3,v4,v5,v6,v7,v8,rfl,s5,sd⟩;refine⟨_,rfl,q H5 d s5 hd ?_⟩;rw[Za,ZR (by omega)] at sd;exact sd.le (by omega)
theorem xg3 {lo:Int}{m n:Nat}{g:TG}{Z:L2.St}{fr:List Nat}{te:TE}{l:Addr}{H1:Hp}{Q:VK} (hlen:m<sizeLine) (hl:H1 l=none) (f:Nat->V)
    (step:∀(i:Nat) H2,i<m->Same H1 H2->∀(N:V->Hp->Prop),(∀ H',Same H2 H'->N (f i) H')->g (.int (lo+i)) (blk0 Z fr n) H2 fun σ' H3=>te σ' H3 N)
    (fin:∀ H2,Same H1 H2->H2 l=some (.lst ((Z3 m).map f))->Q (.ref l) H2):xc5 (Itr lo m) n g Z fr xdk te l H1 Q:=by
  refine xc9 hlen hl (fun i y _=>y=f i) (fun _ _ _ _ _ z=>z) (fun i H2 hi s N h=>step i H2 hi s N fun H' s'=>h _ H' s' rfl) (fun ys H2 s e ly fy=>fin H2 s ?_);rw[e]
  congr 2
  refine List.ext_getElem (by rw[ly,Za,Zs]) fun i h1 h2=>?_;rw[fy i _ (Zf h1),List.getElem_map,Qp]
def rimC (w:Int) (s:Seat):Cl:=(Drw.rim w s.1,s.2)
def xbs (w:Int) (ss:List Seat):List (Cl × Str):=ss.map fun s=>(rimC w s,Zb ".")
def xbe (w:Int) (prs:List Pr):List (Cl × Str):=prs.map fun p=>(rimC w p.2,p.1.nm)
def ptsS (ps:List Pt):List (Cl × Str):=ps.map fun p=>((p.x,p.y),p.nm)
def xnn (w:Int) (ss:List Seat) (prs:List Pr):Cl->Option Str:=Drw.sets (Drw.sets Drw.no (xbs w ss)) (xbe w prs)
def rowT (w:Nat) (r:Int) (m:Cl->Option Str):Str:=YJ (Zb "") ((Z3 (w+2)).map fun (j:Nat)=>(m ((j:Int),r)).getD (Zb " "))
def xdc (w h:Nat) (m:Cl->Option Str):List V:=(Z3 h).map fun (i:Nat)=>V.str (rowT w (1+(i:Int)) m)
def xm3 (m:Cl->Option Str):Prop:=∀ c s,m c=some s->s.length<=5
inductive xt1 (t:Adr) (vs:List V) (H:Hp) (Q:VK) (_:XK):Prop
 | mk (a l dp do_:Addr) (pw ph:Int) (ps:List Pt) (ss srt:List Seat) (prs:List Pr) (qs:List Addr) (e_:vs=[.ref a,.ref l]) (r_:Pic t H a dp do_ pw ph ps/\Sts H do_ ss/\ss.length<=32/\srt.Perm ss/\srt.Pairwise xcu/\H l=some (.lst (qs.map V.ref))/\PrsL H prs qs/\prs.length<=12/\∀ H' d,Same H H'->H d=none->SD H' d 50 (xnn pw srt prs)->Q (.ref d) H')
inductive xv6 (vs:List V) (H:Hp) (Q:VK) (_:XK):Prop
 | mk (d:Addr) (n w:Nat) (r:Int) (m:Cl->Option Str) (e_:vs=[.ref d,.int (w:Int),.int r]) (r_:SD H d n m/\xm3 m/\w<=30/\∀ H',Same H H'->Q (.str (rowT w r m)) H')
theorem xq4 {t:Adr}{Z:L2.St}{H:Hp}{Q:VK}{i j:Nat}{b:Bool}{w:Int} (hi:Z[i]?=some (some (.str (xaf b)))) (hj:Z[j]?=some (some (.int w))) (h:∀ H',Same H H'->Q (.int (Drw.rim w b)) H') :
    xj7 t.C_ah (Zb "rim") (sp1 (V.int 0)) [] (fun _ _ _ _=>False) (xm2 (xhd t) [] (fun _ _ _ _=>False) (xf9 (tVar i) (xf9 (tVar j) tNil))) tNil Z H Q \/
    xj7 t.C_r (Zb "rim") (xrk t) [] (fun _ _ _ _=>False) (xm2 (xhd t) [] (fun _ _ _ _=>False) (xf9 (tVar i) (xf9 (tVar j) tNil))) tNil Z H Q:=by
  cases b
  . refine .inr ⟨_,hi,_,hj,false,w,rfl,fun p H3 hp3 sd3 s3=>?_⟩
    obtain⟨ds,hs⟩:=id sd3;exact⟨p,ds,_,rfl,hs,lno (by decide +kernel),p,w,rfl,sd3,h H3 s3⟩
  . refine .inl ⟨_,hi,_,hj,true,w,rfl,fun p H3 hp3 sd3 s3=>?_⟩
    obtain⟨ds,hs⟩:=id sd3;exact⟨p,ds,_,rfl,hs,lno (by decide +kernel),_,rfl,h H3 s3⟩
theorem SD.puts {d:Addr}:∀(L:List (Addr × Cl × Str)) {H:Hp}{n:Nat}{m:Cl->Option Str},SD H d n m->n+L.length<=1000->(∀ x∈L,H x.1=some (.tup [.int x.2.1.1,.int x.2.1.2])) ->
    ∃ H2,xgq d H (L.map fun x=>(V.ref x.1,V.str x.2.2)) H2/\SD H2 d (n+L.length) (Drw.sets m (L.map fun x=>(x.2.1,x.2.2)))/\∀ a u,a≠d->H a=some u->H2 a=some u
  | [],H,n,m,s,_,_=>⟨H,.nil,s,fun _ _ _ e=>e⟩
  | x::L,H,n,m,s,hn,hk=>by
    rw[ZF] at hn;obtain⟨H1,dp,s1,k1,_⟩:=s.put (by omega) (hk x (Zr ..)) x.2.2;obtain⟨H2,dps,s2,k2⟩:=SD.puts L s1 (by omega) (fun y hy=>by
      have e:=hk y (Zt _ hy);obtain⟨kvs,ed,_⟩:=s;exact k1 _ _ (xae e ed (fun z=>nomatch z)) e)
    exact⟨H2,.cons dp dps,s2.le (by rw[ZF]; omega),fun a u na e=>k2 _ _ na (k1 _ _ na e)⟩
theorem xi7 {H:Hp}{w:Int}:∀{ss:List Seat}{ys:List V},ys.length=ss.length->(∀(i:Nat) (y:V),ys[i]?=some y->∃ p kp s,y=.ref p/\ss[i]?=some s/\H p=some (.tup [.ref kp,.str (Zb ".")])/\H kp=some (.tup [.int (Drw.rim w s.1),.int s.2])) ->
    ∃ L:List (Addr × Addr × Seat),ys=L.map (fun x=>V.ref x.1)/\L.map (·.2.2)=ss/\∀ x∈L,H x.1=some (.tup [.ref x.2.1,.str (Zb ".")])/\H x.2.1=some (.tup [.int (Drw.rim w x.2.2.1),.int x.2.2.2])
  | [],[],_,_=>⟨[],rfl,rfl,fun _ z=>nomatch z⟩
  | s::ss,y::ys,hl,h=>by
    obtain⟨p,kp,s',rfl,es,h1,h2⟩:=h 0 y rfl;cases es;obtain⟨L,e1,e2,e3⟩:=xi7 (ss:=ss) (ys:=ys) (by simpa using hl) (fun i z hz=>h (i+1) z hz);refine⟨(p,kp,s)::L,by rw[e1]; rfl,by rw[<- e2]; rfl,fun x hx=>?_⟩;rcases Z1.mp hx with rfl|hx
    . exact⟨h1,h2⟩
    . exact e3 x hx
  | [],_::_,hl,_=>nomatch hl
  | _::_,[],hl,_=>nomatch hl
theorem xdx {m:Cl->Option Str}{L:List (Cl × Str)}{i:Nat}{c:Cl}{x:Str} (h:L[i]?=some (c,x)):Drw.sets m (L.take (i+1))=Drw.set1 (Drw.sets m (L.take i)) c x:=by
 rw[ZV,h];unfold Drw.sets;rw[Ys];rfl
theorem ok_ay (T:Txt w K mg t):FnOk true P w K mg base (CXo P w) 7 t.f_ay t.d_ay ["picture", "pairs"] (xt1 t):=by
 refine T.F_ay.okn (k:=6) sc_ay (fun vs H Q E h=>?_) (fun cdv A outer s H vs Q E hr h=>?_)
 .obtain ⟨a,l,dp,do_,pw,ph,ps,ss,srt,prs,qs,rfl,_⟩:=h;rfl
 .obtain ⟨a,l,dp,do_,pw,ph,ps,ss,srt,prs,qs,rfl,h⟩:=h;refine⟨_,xj (xx (i:=2) sc_ay.nd rfl (Jf rfl) (xaa (pv 0) rfl))
   (xj (xx (i:=3) sc_ay.nd rfl (Zp rfl) (xb5 (xli rfl (xto hr)) rfl T.n_dict boot_dict (xb (xb0 rfl (xa4 (zs:=["side", "row"]) (ys:=["width"]) (fr:=[2]) (N0:=["picture", "pairs", "width", "signs", "name", "side", "row"]) (sc0:=xp s_ay) (by decide +kernel) rfl rfl rfl) (xat (xbo (pv 0) T.c_c T.m_ac (ok_ac T) (hmm hr) T.b_ac .nil xm)) (fun _ _ _ _ _ ow nd=>(xan rfl (xr (xq (i:=0) nd rfl (Zp (ow _ (by simp))) (Jf (ow _ (by simp)))) (xr (xq (i:=1) nd rfl (Zp (ow _ (by simp))) (Jf (ow _ (by simp)))) (xad))):PG _ _ (gTup K 2 _))) (xe4 (xbt (by decide) (xbt (by decide) (xec)))) (fun _ _ _ _ _=>xbk) (fun _ _ _ _ _=>x4 (xb (x4 (xb (xe6 (xbo (xt (ok_ap T) (hmm hr) rfl T.g_ap T.F_ap.kp T.b_ap .nil xm (xb (pv 0) (xb (pv 2) (xg)))) T.c_ah T.m_w (ok_w T) (hmm hr) T.b_w .nil xm) (xbo (xt (ok_ap T) (hmm hr) rfl T.g_ap T.F_ap.kp T.b_ap .nil xm (xb (pv 0) (xb (pv 2) (xg)))) T.c_r T.m_s (ok_s T) (hmm hr) T.b_s .nil xm)) (xb (pv 1) (xg)))) (xb (x6) (xg))))) (xg))))
   (xj (xa0 ZG rfl (xat (pv 1)) (xan rfl (xr (xq (i:=4) sc_ay.nd rfl (Zp rfl)) (xr (xq (i:=5) sc_ay.nd rfl (Zp rfl)) (xr (xq (i:=6) sc_ay.nd rfl (Zp rfl)) (xad))))) (xn (xcf (xa5 hr) (pv 3) (x4 (xb (xe6 (xbo (xt (ok_ap T) (hmm hr) rfl T.g_ap T.F_ap.kp T.b_ap .nil xm (xb (pv 5) (xb (pv 2) (xg)))) T.c_ah T.m_w (ok_w T) (hmm hr) T.b_w .nil xm) (xbo (xt (ok_ap T) (hmm hr) rfl T.g_ap T.F_ap.kp T.b_ap .nil xm (xb (pv 5) (xb (pv 2) (xg)))) T.c_r T.m_s (ok_s T) (hmm hr) T.b_s .nil xm)) (xb (pv 6) (xg)))) (pv 4) rfl)))
   (xn (x0 (pv 3))))),?_⟩
  obtain⟨pic,sts,l32,pm,pw',hl,prl,l12,q⟩:=h;obtain⟨⟨dx,hpi⟩,_⟩:=id pic;have pll:=prl.len;have lens:=pm.length_eq;refine⟨_,rfl,a,_,_,_,_,rfl,hpi,T.c_c,T.n_a7,lkW,?_⟩;refine⟨_,rfl,a,dx,_,rfl,hpi,xbm (by decide +kernel),a,dp,do_,pw,ph,ps,ss,rfl,pic,sts,fun l1 ss' rs hl1 sl pm' pw2=>?_⟩;obtain rfl:ss'=srt:=xeu xjo (pm'.trans pm.symm) pw2 pw';have s1:Same H (upd H l1 (.lst (rs.map V.ref))):=xo (Same.refl _) hl1;have g1:upd H l1 (.lst (rs.map V.ref)) l1=some (.lst (rs.map V.ref)):=xf;revert s1 g1;generalize upd H l1 (.lst (rs.map V.ref))=H1;intro s1 g1;have sl1:=sl.keep (Same.tups s1);have rll:=sl.len;refine⟨l1,rfl,⟨_,SqL.of g1⟩,fun l2 hl2=>?_⟩;refine xeq (SqL.of g1) (by rw[Za]; exact Z6 (by omega:_<=1000) (by decide)) hl2 (fun i y H5=>∃ p kp s,y=.ref p/\ss'[i]?=some s/\H5 p=some (.tup [.ref kp,.str (Zb ".")])/\H5 kp=some (.tup [.int (Drw.rim pw s.1),.int s.2])) ?_ ?_ ?_
  .rintro i y H5 H6 tp ⟨p,kp,s,e1,e2,e3,e4⟩;exact⟨p,kp,s,e1,e2,tp _ _ e3,tp _ _ e4⟩
  .intro i x H5 hx s5 N hN
   rw[Zg,Zk] at hx;obtain⟨qa,hqa,rfl⟩:=hx;obtain⟨⟨b,r⟩,hs,hsq⟩:=sl1.get hqa;refine⟨qa,_,rfl,SqT.of (s5 _ _ hsq),rfl,_,_,rfl,_,_,rfl,rfl,?_⟩;refine xq4 (i:=0) (j:=2) (b:=b) (w:=pw) rfl rfl fun H6 s6=>?_;refine⟨_,rfl,(by show 2<=sizeLine; decide),fun kp hkp=>⟨(by show 2<=sizeLine; decide),fun p hp=>?_⟩⟩;exact hN _ _ (s6.trans (xo (xo (Same.refl _) hkp) hp)) ⟨p,kp,(b,r),rfl,hs,xf,by rw[xh (xi xf hp)]; exact xf⟩
  .intro ys H5 s5 e5 ly fy
   obtain⟨L,rfl,e2,e3⟩:=xi7 (ss:=ss') (by rw[ly,Za,rll]) fy;have lL:L.length=ss'.length:=by rw[<- e2,Za]
   refine⟨l2,L.map fun x=>(x.1,V.ref x.2.1,V.str (Zb ".")),rfl,(by rw[Zv]; exact e5),?_,fun d hd=>?_⟩
   .intro p hp
    obtain⟨x,hx,rfl⟩:=Ze.mp hp;exact (e3 x hx).1
   have fd:H d=none:=s1.free (s5.free hd);obtain⟨H6,dps,sd6,k6⟩:=SD.puts (d:=d) (L.map fun x=>(x.2.1,rimC pw x.2.2,Zb ".")) (SD.new (H:=upd H5 d (.dT [])) xf) (by rw[Za]; omega) (fun x hx=>by
    obtain⟨z,hz,rfl⟩:=Ze.mp hx;rw[xh (xi (e3 z hz).2 hd)];exact (e3 z hz).2)
   refine⟨.dT [],H6,.inr rfl,?_,?_⟩
   .rw [Zv] at dps ⊢;exact dps
   have k56:Same H H6:=fun c u e=>k6 _ _ (xi e fd) (by rw[xh (xi e fd)]; exact s5 _ _ (s1 _ _ e));have ed:(L.map fun x=>(x.2.1,rimC pw x.2.2,Zb ".")).map (fun x=>(x.2.1,x.2.2))=xbs pw ss':=by
    unfold xbs;rw[<- e2,Zv,Zv];rfl
   rw[ed] at sd6;have sd6:=sd6.le (k:=32) (by rw[Za]; omega);refine⟨_,rfl,l,rfl,⟨_,SqL.of (k56 _ _ hl)⟩,?_⟩;refine xa6 (xs:=qs.map V.ref) (Pv:=fun i Z H7=>∃(v4 v5 v6:Option V),Z=[some (.ref a),some (.ref l),some (.int pw),some (.ref d),v4,v5,v6]/\Same H H7/\SD H7 d (32+i) (Drw.sets (Drw.sets Drw.no (xbs pw ss')) ((xbe pw prs).take i))) ⟨_,_,_,rfl,k56,sd6⟩ ?_ ?_ ?_
   .rintro i Z H7 _ ⟨_,_,_,rfl,s7,_⟩;exact SqL.of (s7 _ _ hl)
   .rintro i x Z H7 hx ⟨v4,v5,v6,rfl,s7,sd7⟩;rw[Zg,Zk] at hx;obtain⟨qa,hqa,rfl⟩:=hx;obtain⟨⟨pt,b,r⟩,hp,hpq⟩:=prl.get hqa;have i12:i<12:=by have:=(Zi.mp hp).1; omega
    refine⟨qa,_,rfl,SqT.of (s7 _ _ hpq),rfl,_,_,rfl,_,_,rfl,_,_,rfl,rfl,?_⟩;refine⟨_,rfl,_,rfl,xq4 (i:=5) (j:=2) (b:=b) (w:=pw) rfl rfl fun H8 s8=>?_⟩;refine⟨_,rfl,(by show 2<=sizeLine; decide),fun kp hkp=>?_⟩;have s9:Same H8 (upd H8 kp (.tup [.int (Drw.rim pw b),.int r])):=xo (Same.refl _) hkp;have g9:upd H8 kp (.tup [.int (Drw.rim pw b),.int r]) kp=some (.tup [.int (Drw.rim pw b),.int r]):=xf;revert s9 g9;generalize upd H8 kp (.tup [.int (Drw.rim pw b),.int r])=H9;intro s9 g9;obtain⟨H10,dput,sd10,k10,_⟩:=(sd7.keep (H':=H9) (fun u e=>s9 _ _ (s8 _ _ e))).put (c:=rimC pw (b,r)) (by omega) g9 pt.nm;refine⟨d,H10,rfl,dput,_,_,_,rfl,fun c u e=>k10 _ _ (xi e fd) (s9 _ _ (s8 _ _ (s7 _ _ e))),?_⟩;rw[xdx (c:=rimC pw (b,r)) (x:=pt.nm)]
    .exact sd10
    .unfold xbe;rw[Zg,hp];rfl
   .rintro Z H7 ⟨v4,v5,v6,rfl,s7,sd7⟩;refine⟨_,rfl,q H7 d s7 fd ?_⟩;rw[Za,ZR (l:=xbe pw prs) (by unfold xbe; rw[Za]; omega)] at sd7;exact sd7.le (by omega)
theorem ok_a5 (T:Txt w K mg t):FnOk true P w K mg base (CXo P w) 1 t.f_a5 t.d_a5 ["signs", "width", "row"] (xv6):=by
 refine T.F_a5.okn (k:=0) sc_a5 (fun vs H Q E h=>?_) (fun cdv A outer s H vs Q E hr h=>?_)
 .obtain ⟨d,n,w',r,m,rfl,_⟩:=h;rfl
 .obtain ⟨d,n,w',r,m,rfl,h⟩:=h;refine⟨_,xn (x0 (xcl QC QQ QP xih (x6) (xb (xb0 rfl (xa4 (zs:=["column"]) (ys:=["signs", "row"]) (fr:=[0,2]) (N0:=["signs", "width", "row"]) (sc0:=xp s_a5) (by decide +kernel) rfl rfl rfl) (xjg rfl T.n_range (xb (xu xai (pv 1) (xk)) (xg))) (fun _ _ _ _ _ ow nd=>xq (i:=0) nd rfl (Zp (ow _ (by simp))) (Jf (ow _ (by simp)))) (xbg (by decide)) (fun _ _ _ _ _=>xbk) (fun _ _ _ _ _=>xj9 (xa5 hr) (pv 1) (x4 (xb (pv 0) (xb (pv 2) (xg)))) (x6) ⟨rfl,rfl,rfl,rfl⟩)) (xg)))),?_⟩;obtain⟨sd,sh,w30,q⟩:=h;refine⟨rfl,_,rfl,_,_,rfl,rfl,((w'+2:Nat):Int),by rw[Int.natCast_add]; rfl,by omega,by omega,fun l1 hl1=>?_⟩;refine xg3 (Z6 (by omega:_<=1000) (by decide)) hl1 (fun (j:Nat)=>V.str ((m ((j:Int),r)).getD (Zb " "))) ?_ ?_
  .intro i H2 hi s2 N hN
   simp only[Int.zero_add];obtain⟨kvs,ed,_⟩:=id sd;refine⟨_,rfl,d,rfl,.inr ⟨kvs,.inl (s2 _ _ ed)⟩,_,rfl,_,rfl,(by show 2<=sizeLine; decide),fun p hp=>?_⟩;have s3:Same H2 (upd H2 p (.tup [.int (i:Int),.int r])):=xo (Same.refl _) hp;have g3:upd H2 p (.tup [.int (i:Int),.int r]) p=some (.tup [.int (i:Int),.int r]):=xf;revert s3 g3;generalize upd H2 p (.tup [.int (i:Int),.int r])=H3;intro s3 g3;refine⟨_,(sd.keep (H':=H3) fun u e=>s3 _ _ (s2 _ _ e)).get (c:=((i:Int),r)) g3,?_⟩;have e:((m ((i:Int),r)).map V.str).getD (V.str (Zb " "))=V.str ((m ((i:Int),r)).getD (Zb " ")):=by cases m ((i:Int),r)<;>rfl
   rw[e];exact hN H3 s3
  .intro H2 s2 e2
   rw[JI] at e2;refine⟨Zb "",l1,(Z3 (w'+2)).map fun (j:Nat)=>(m ((j:Int),r)).getD (Zb " "),5,rfl,rfl,(by rw[e2,Zv]; rfl),fun s hs=>?_,?_,q H2 s2⟩
   .obtain ⟨j,_,rfl⟩:=Ze.mp hs;cases e:m ((j:Int),r) with
    | none=>exact (by decide +kernel:(Zb " ").length<=5)
    | some x=>exact sh _ _ e
   .rw [Za,Zs,show (Zb "").length=0 from by decide +kernel];exact Zy (by omega:_<=1000) (by decide)
theorem xhp {κ:Type} [DecidableEq κ]:∀(more kvs:List (κ × V)) (k:κ),(more.map (·.1)).Nodup->valV (more.foldl (fun acc x=>putK acc x.1 x.2) kvs) k=(valV more k).or (valV kvs k)
 | [],kvs,k,_=>rfl
 | x::r,kvs,k,nd=>by
  rw[Zx,Jd] at nd;show valV (r.foldl (fun acc x=>putK acc x.1 x.2) (putK kvs x.1 x.2)) k=_;rw[xhp r _ k nd.2,xkk];by_cases e:x.1=k
  .subst e;rw[xa7 rfl,if_pos rfl];have:valV r x.1=none:=by
    cases z:valV r x.1 with
    | none=>rfl
    | some y =>
     obtain⟨i,hi⟩:=xiq z;exact absurd (Ze.mpr ⟨_,Zn hi,rfl⟩) nd.1
   rw[this];rfl
  .rw [xa2 e,if_neg (fun z=>e z.symm)]
theorem xhw {κ:Type} [DecidableEq κ] {P:κ->Prop}:∀(more kvs:List (κ × V)),(∀ kv∈more,P kv.1)->((kvs.map (·.1)).Nodup/\(∀ kv∈kvs,P kv.1))->((more.foldl (fun acc x=>putK acc x.1 x.2) kvs).map (·.1)).Nodup/\(∀ kv∈more.foldl (fun acc x=>putK acc x.1 x.2) kvs,P kv.1)/\(more.foldl (fun acc x=>putK acc x.1 x.2) kvs).length<=kvs.length+more.length
 | [],kvs,_,h=>⟨h.1,h.2,Zj _⟩
 | x::r,kvs,hm,h=>by
  have z:=xhw r (putK kvs x.1 x.2) (fun kv hkv=>hm kv (Zt _ hkv)) ⟨xlv h.1,xk6 (hm x (Zr ..)) h.2⟩;refine⟨z.1,z.2.1,?_⟩;have:=z.2.2;have:=xb7 kvs x.1 x.2;rw[ZF];show (r.foldl (fun acc x=>putK acc x.1 x.2) (putK kvs x.1 x.2)).length<=_;omega
def xgo (w:Int) (c:Cl):Prop:=(c.1=0\/c.1=w+1)/\1<=c.2/\c.2<=16
theorem xpl {α β:Type}{f:α->β}:∀{l:List α},(l.map f).Nodup->∀ a∈l,∀ b∈l,f a=f b->a=b
 | [],_,_,ha,_,_,_=>nomatch ha
 | x::l,nd,a,ha,b,hb,e=>by
  rw[Zx,Jd] at nd;rcases Z1.mp ha with ea|ha'<;>rcases Z1.mp hb with eb|hb'
  .rw [ea,eb]
  .subst ea;exact absurd (Ze.mpr ⟨b,hb',e.symm⟩) nd.1
  .subst eb;exact absurd (Ze.mpr ⟨a,ha',e⟩) nd.1
  .exact xpl nd.2 a ha' b hb' e
def xfc (w:Nat):List Cl:=((Z3 16).map fun (r:Nat)=>((0:Int),(r:Int)+1))++((Z3 16).map fun (r:Nat)=>((w:Int)+1,(r:Int)+1))
theorem xk7 {w:Nat}{c:Cl} (h:xgo w c):c∈xfc w:=by
 obtain⟨u,v⟩:=c;obtain⟨h1,h2,h3⟩:=h;have h2:1<=v:=h2;have h3:v<=16:=h3;unfold xfc;rw[Z9,Ze,Ze];have e:((v-1).toNat:Int)+1=v:=by omega
 rcases h1 with h1|h1
 .have h1:u=0:=h1;exact .inl ⟨(v-1).toNat,ZQ.mpr (by omega),by rw[e,h1]⟩
 .have h1:u=(w:Int)+1:=h1;exact .inr ⟨(v-1).toNat,ZQ.mpr (by omega),by rw[e,h1]⟩
theorem xp3 {w:Nat} (w1:1<=w) (w2:w<=30) {a b:Cl} (ha:xgo w a) (hb:xgo w b) (e:th a.1 a.2=th b.1 b.2):a=b:=by
 have z:=xs6 w (by omega) w1;have y:((xfc w).map fun c:Cl=>th c.1 c.2).Nodup:=by
  unfold xfc;rw[ZB,Zv,Zv];exact z
 exact xpl y a (xk7 ha) b (xk7 hb) e
theorem SD.hash {X:Cx}{H:Hp}{d:Addr}{n w:Nat}{m:Cl->Option Str}{kvs:List (List Key × V)} (s:SD H d n m) (e:H d=some (.dT kvs)) (w1:1<=w) (w2:w<=30) (hm:∀ c,m c≠none->xgo w c):(kvs.map fun x=>xf6 X x.1).Nodup:=by
 obtain⟨kvs',e',l,nd,ks,vs⟩:=s;rw[e] at e';cases e';have on:∀ kv∈kvs,∃ c,kv.1=ck c/\xgo w c:=fun kv hkv=>by
  obtain⟨c,ec⟩:=ks kv hkv;refine⟨c,ec,hm c fun z=>?_⟩;have y:=vs c;rw[z] at y;exact xg9 y (Ze.mpr ⟨kv,hkv,ec⟩)
 rw[JJ,ZA];rw[JJ,ZA] at nd;refine JN.imp_of_mem ?_ nd;intro a b ha hb ne eh;obtain⟨c,ec,oc⟩:=on a ha;obtain⟨c',ec',oc'⟩:=on b hb;rw[ec,ec'] at eh ne;unfold ck at eh;rw[xku,xku] at eh;exact ne (by rw[xp3 w1 w2 oc oc' eh])
theorem SD.merge {H:Hp}{a b:Addr}{n k:Nat}{m m2:Cl->Option Str}{kvs more:List (List Key × V)} (s:SD H a n m) (s2:SD H b k m2) (ea:H a=some (.dT kvs)) (eb:H b=some (.dT more)):SD (upd H a (.dT (xcq kvs more))) a (n+k) (fun z=>(m2 z).or (m z)):=by
 obtain⟨kvs',ea',l,nd,ks,vs⟩:=s;rw[ea] at ea';cases ea';obtain⟨more',eb',l2,nd2,ks2,vs2⟩:=s2;rw[eb] at eb';cases eb';have z:=xhw (P:=fun k=>∃ c,k=ck c) more kvs ks2 ⟨nd,ks⟩;refine⟨xcq kvs more,xf,?_,z.1,z.2.1,fun c=>?_⟩
 .have:=z.2.2;unfold xcq;omega
 .unfold xcq;rw[xhp _ _ _ nd2,vs2,vs];show _=Option.map V.str ((m2 c).or (m c));cases m2 c<;>rfl
theorem xbp {P:Str->Prop}:∀{L:List (Cl × Str)}{m:Cl->Option Str},(∀ c s,m c=some s->P s)->(∀ x∈L,P x.2)->∀ c s,Drw.sets m L c=some s->P s
 | [],_,hm,_,c,s,e=>hm c s e
 | x::L,m,hm,hL,c,s,e=>by
  refine xbp (L:=L) (m:=Drw.set1 m x.1 x.2) (fun c s e=>?_) (fun y hy=>hL y (Zt _ hy)) c s e;unfold Drw.set1 at e;split at e
  .cases e;exact hL x (Zr ..)
  .exact hm c s e
theorem xc2 {P:Str->Prop}{hs:Str} (hh:P hs):∀{L:List (Cl × Str)}{m:Cl->Option Str},(∀ c s,m c=some s->P s)->(∀ x∈L,P x.2)->∀ c s,Drw.marks hs m L c=some s->P s
 | [],_,hm,_,c,s,e=>hm c s e
 | x::L,m,hm,hL,c,s,e=>by
  refine xc2 hh (L:=L) (m:=Drw.mark1 hs m x.1 x.2) (fun c s e=>?_) (fun y hy=>hL y (Zt _ hy)) c s e;unfold Drw.mark1 Drw.set1 at e;split at e
  .cases e;split
   .exact hh
   .exact hL x (Zr ..)
  .exact hm c s e
theorem xho {L:List (Cl × Str)}{m:Cl->Option Str}{c:Cl} (h:Drw.sets m L c≠none):m c≠none\/∃ x∈L,x.1=c:=by
 by_cases z:c∈L.map (·.1)
 .obtain ⟨x,hx,e⟩:=Ze.mp z;exact .inr ⟨x,hx,e⟩
 .rw [Drw.sets_no z] at h;exact .inl h
theorem xfh {s:Str} (h:isNm s=true):s.length<=5:=by
 unfold isNm at h;rw[Z4] at h;have:=of_decide_eq_true h.1;omega
theorem xpt (x r:Int) (c:Cl):(lsS x r c).length<=5:=by
 unfold lsS Drw.ls;split
 .decide +kernel
 .split<;>decide +kernel
def xep (w:Int) (ps:List Pt) (ss:List Seat) (prs:List Pr):Cl->Option Str:=Drw.drawP hsS (prs.flatMap (ledS w)) (xbs w ss) (xbe w prs) (ptsS ps)
theorem xm9 {w:Int}{ps:List Pt}{ss:List Seat}{prs:List Pr} (h1:∀ p∈ps,isNm p.nm=true) (h2:∀ p∈prs,isNm p.1.nm=true):xm3 (xep w ps ss prs):=by
 have no:∀(c:Cl) (s:Str),(Drw.no:Cl->Option Str) c=some s->s.length<=5:=fun _ _ e=>nomatch e;have n1:=xbp (P:=fun s=>s.length<=5) (L:=xbs w ss) no (fun x hx=>by
  obtain⟨z,_,rfl⟩:=Ze.mp hx;show (Zb ".").length<=5;decide +kernel)
 have n2:=xbp (P:=fun s=>s.length<=5) (L:=xbe w prs) n1 (fun x hx=>by
  obtain⟨z,hz,rfl⟩:=Ze.mp hx;exact xfh (h2 z hz))
 have n3:=xc2 (P:=fun s=>s.length<=5) (hs:=hsS) (by unfold hsS; decide +kernel) (L:=prs.flatMap (ledS w)) no (fun x hx=>by
  obtain⟨p,_,hx⟩:=Yg.mp hx;obtain⟨c,_,rfl⟩:=Ze.mp hx;exact xpt _ _ _)
 intro c s e;refine xbp (P:=fun s=>s.length<=5) (L:=ptsS ps) (fun c s e=>?_) (fun x hx=>by
  obtain⟨z,hz,rfl⟩:=Ze.mp hx;exact xfh (h1 z hz)) c s e
 cases e1:Drw.sets (Drw.sets Drw.no (xbs w ss)) (xbe w prs) c with
 | some y =>
  rw[e1] at e;cases e;exact n2 c _ e1
 | none =>
  rw[e1,Option.none_or] at e;exact n3 c s e
structure Dr (t:Adr) (H:Hp) (a dp do_:Addr) (w h:Nat) (ps:List Pt) (ss srt:List Seat):Prop where
 pic:Pic t H a dp do_ (w:Int) (h:Int) ps
 sts:Sts H do_ ss
 ok:SsOk (h:Int) ss
 pm:srt.Perm ss
 lt:srt.Pairwise xcu
 nm:∀ p∈ps,isNm p.nm=true
inductive xr9 (t:Adr) (vs:List V) (H:Hp) (Q:VK) (_:XK):Prop
 | mk (a l dp do_:Addr) (w h:Nat) (ps:List Pt) (ss srt:List Seat) (prs:List Pr) (qs:List Addr) (e_:vs=[.ref a,.ref l]) (r_:Dr t H a dp do_ w h ps ss srt/\H l=some (.lst (qs.map V.ref))/\PrsL H prs qs/\(∀ p∈prs,PrOk ps (w:Int) (h:Int) p)/\prs.length<=12/\∀ H' l',Same H H'->H l'=none->H' l'=some (.lst (xdc w h (xep w ps srt prs)))->Q (.ref l') H')
theorem xlb (T:Txt w K mg t):FnOk true P w K mg base (CXo P w) 8 t.f_drawn t.d_drawn ["picture", "pairs"] (xr9 t):=by
 refine T.F_drawn.okn (k:=7) xcn (fun vs H Q E h=>?_) (fun cdv A outer s H vs Q E hr h=>?_)
 .obtain ⟨a,l,dp,do_,w',h',ps,ss,srt,prs,qs,rfl,_⟩:=h;rfl
 .obtain ⟨a,l,dp,do_,w',h',ps,ss,srt,prs,qs,rfl,h⟩:=h;refine⟨_,xj (xx (i:=2) xcn.nd rfl (Jf rfl) (xt (ok_af T) (hmm hr) rfl T.g_af T.F_af.kp T.b_af .nil xm (xb (pv 0) (xb (pv 1) (xg)))))
   (xj (xay (xcl Q5 PySem.F.slot_dict_update PySem.F.type_dict_update (xom (xa5 hr)) (pv 2) (xb (xt (ok_ay T) (hmm hr) rfl T.g_ay T.F_ay.kp T.b_ay .nil xm (xb (pv 0) (xb (pv 1) (xg)))) (xg))))
   (xj (xa0 ZG rfl (xat (xbo (pv 0) T.c_c T.m_p (ok_p T) (hmm hr) T.b_p .nil xm)) (xan rfl (xr (xq (i:=3) xcn.nd rfl (Zp rfl)) (xr (xq (i:=4) xcn.nd rfl (Zp rfl)) (xr (xq (i:=5) xcn.nd rfl (Zp rfl)) (xr (xq (i:=6) xcn.nd rfl (Zp rfl)) (xr (xq (i:=7) xcn.nd rfl (Zp rfl)) (xr (xq (i:=8) xcn.nd rfl (Zp rfl)) (xad)))))))) (xn (xcf (xa5 hr) (pv 2) (x4 (xb (pv 4) (xb (pv 5) (xg)))) (pv 3) rfl)))
   (xn (x0 (xb0 rfl (xa4 (zs:=["row"]) (ys:=["signs", "picture"]) (fr:=[2,0]) (N0:=["picture", "pairs", "signs", "name", "x", "y", "sides", "low", "high"]) (sc0:=xp xf7) (by decide +kernel) rfl rfl rfl) (xcm rfl T.n_range (xb (xk) (xb (xu xai (xaa (pv 0) rfl) (xk)) (xg)))) (fun _ _ _ _ _ ow nd=>xq (i:=0) nd rfl (Zp (ow _ (by simp))) (Jf (ow _ (by simp)))) (xbg (by decide)) (fun _ _ _ _ _=>xbk) (fun _ _ _ _ _=>xt (ok_a5 T) (hmm hr) rfl T.g_a5 T.F_a5.kp T.b_a5 .nil xm (xb (pv 1) (xb ((xaa (pv 2) rfl:PE _ _ (tFld K _ _))) (xb (pv 0) (xg)))))))))),?_⟩
  obtain⟨dr,hl,prl,oks,l12,q⟩:=h;have pic:=dr.pic;have w1:=pic.w1;have w2:=pic.w2;have h2:=pic.h2;have pl12:=pic.len;obtain⟨⟨dx,hpi⟩,_⟩:=id pic;refine⟨_,rfl,_,rfl,a,l,dp,do_,w',h',ps,prs,qs,rfl,pic,hl,prl,oks,l12,fun H1 d1 s1 f1 sd1=>?_⟩;obtain⟨kvs,e1,_⟩:=id sd1;refine⟨_,rfl,.inr (.inr (.inl ⟨rfl,.inr ⟨kvs,e1⟩⟩)),_,rfl,_,rfl,a,l,dp,do_,w',h',ps,ss,srt,prs,qs,rfl,Pic.same s1 pic,dr.sts.same s1,dr.ok.2.1,dr.pm,dr.lt,s1 _ _ hl,prl.keep (Same.tups s1),l12,fun H2 d2 s2 f2 sd2=>?_⟩;obtain⟨more,e2,_⟩:=id sd2;have e12:=s2 _ _ e1;have ne:d1≠d2:=xi e1 f2;have onr:∀ c,xnn w' srt prs c≠none->xgo w' c:=fun c hc=>by
   rcases xho hc with hc|⟨x,hx,rfl⟩
   .rcases xho hc with hc|⟨x,hx,rfl⟩
    .exact absurd rfl hc
    .obtain ⟨z,hz,rfl⟩:=Ze.mp hx;have o:=dr.ok.2.2 z (dr.pm.mem_iff.mp hz);refine⟨?_,o.1,?_⟩
     .show Drw.rim w' z.1=0\/Drw.rim w' z.1=_;unfold Drw.rim;split
      .exact .inl rfl
      .exact .inr rfl
     .show z.2<=16;omega
   .obtain ⟨z,hz,rfl⟩:=Ze.mp hx;have o:=oks z hz;have o1:=o.r1;have o2:=o.r2;refine⟨?_,o1,?_⟩
    .show Drw.rim w' z.2.1=0\/Drw.rim w' z.2.1=_;unfold Drw.rim;split
     .exact .inl rfl
     .exact .inr rfl
    .show z.2.2<=16;omega
  have ln1:kvs.length<=600:=by
   obtain⟨k',e',l',_⟩:=id sd1;rw[e1] at e';cases e';exact l'
  have ln2:more.length<=50:=by
   obtain⟨k',e',l',_⟩:=id sd2;rw[e2] at e';cases e';exact l'
  refine⟨d1,d2,kvs,more,rfl,rfl,ne,e12,e2,fun _=>sd2.hash e2 (by omega) (by omega) onr,by omega,?_⟩;have sd3:=(sd1.keep (H':=H2) (fun u e=>s2 _ _ e)).merge sd2 e12 e2;have s3:Same H (upd H2 d1 (.dT (xcq kvs more))):=fun c u e=>by
   rw[xh (xi e f1)];exact s2 _ _ (s1 _ _ e)
  revert sd3 s3;generalize upd H2 d1 (.dT (xcq kvs more))=H3;intro sd3 s3;refine⟨_,rfl,a,dx,_,rfl,s3 _ _ hpi,xbm (by decide +kernel),a,dp,do_,w',h',ps,rfl,Pic.same s3 pic,fun H4 l4 ds s4 hl4 pts4=>?_⟩;have dl:=pts4.len;have sd4:=sd3.keep (H':=H4) (fun u e=>s4 _ _ e);have nl4:l4≠d1:=by
   obtain⟨kv,e,_⟩:=sd4;exact xae hl4 e (fun z=>nomatch z)
  refine⟨l4,rfl,⟨_,SqL.of hl4⟩,?_⟩;refine xa6 (xs:=ds.map V.ref) (Pv:=fun i Z H5=>∃(v3 v4 v5 v6 v7 v8:Option V),Z=[some (.ref a),some (.ref l),some (.ref d1),v3,v4,v5,v6,v7,v8]/\(∀ c u,c≠d1->H4 c=some u->H5 c=some u)/\SD H5 d1 (650+i) (Drw.sets (fun z=>(xnn w' srt prs z).or (Drw.marks hsS Drw.no (prs.flatMap (ledS w')) z)) ((ptsS ps).take i))) ⟨_,_,_,_,_,_,rfl,fun c u _ e=>e,sd4⟩ ?_ ?_ ?_
  .rintro i Z H5 _ ⟨_,_,_,_,_,_,rfl,k5,_⟩;exact SqL.of (k5 _ _ nl4 hl4)
  .rintro i x Z H5 hx ⟨v3,v4,v5,v6,v7,v8,rfl,k5,sd5⟩;rw[Zg,Zk] at hx;obtain⟨qa,hqa,rfl⟩:=hx;obtain⟨p,hp,hpq⟩:=pts4.get hqa;have i12:i<12:=by have:=(Zi.mp hp).1; omega
   have nqa:qa≠d1:=by
    obtain⟨kv,e,_⟩:=sd4;exact xae hpq e (fun z=>nomatch z)
   refine⟨qa,_,rfl,SqT.of (k5 _ _ nqa hpq),rfl,_,_,rfl,_,_,rfl,_,_,rfl,_,_,rfl,_,_,rfl,_,_,rfl,rfl,?_⟩;refine⟨_,rfl,_,rfl,_,rfl,_,rfl,(by show 2<=sizeLine; decide),fun kp hkp=>?_⟩;have s6:Same H5 (upd H5 kp (.tup [.int p.x,.int p.y])):=xo (Same.refl _) hkp;have g6:upd H5 kp (.tup [.int p.x,.int p.y]) kp=some (.tup [.int p.x,.int p.y]):=xf;revert s6 g6;generalize upd H5 kp (.tup [.int p.x,.int p.y])=H6;intro s6 g6;obtain⟨H7,dput,sd7,k7,_⟩:=(sd5.keep (H':=H6) (fun u e=>s6 _ _ e)).put (c:=(p.x,p.y)) (by omega) g6 p.nm;refine⟨d1,H7,rfl,dput,_,_,_,_,_,_,rfl,fun c u nc e=>k7 _ _ nc (s6 _ _ (k5 _ _ nc e)),?_⟩;rw[xdx (c:=(p.x,p.y)) (x:=p.nm)]
   .exact sd7
   .unfold ptsS;rw[Zg,hp];rfl
  .rintro Z H5 ⟨v3,v4,v5,v6,v7,v8,rfl,k5,sd5⟩;rw[Za,ZR (l:=ptsS ps) (by unfold ptsS; rw[Za]; omega)] at sd5;have s5:Same H H5:=fun c u e=>k5 _ _ (xi e f1) (s4 _ _ (s3 _ _ e));have sd5:SD H5 d1 (650+ds.length) (xep w' ps srt prs):=sd5;have hp5:=s5 _ _ hpi;refine⟨_,rfl,a,_,_,_,_,rfl,hp5,T.c_c,T.n_a8,lkH,_,_,rfl,rfl,1,(h':Int)+1,rfl,⟨by decide,by decide,by omega,by omega⟩,fun l6 hl6=>?_⟩;refine xg3 (Z6 (by omega:_<=1000) (by decide)) hl6 (fun (i:Nat)=>V.str (rowT w' (1+(i:Int)) (xep w' ps srt prs))) ?_ ?_
   .intro i H6 hi s6 N hN
    have hp6:=s6 _ _ hp5;exact⟨_,rfl,_,rfl,a,_,_,_,_,rfl,hp6,T.c_c,T.n_a7,lkW,_,rfl,d1,_,w',1+(i:Int),_,rfl,sd5.keep (H':=H6) (fun u e=>s6 _ _ e),xm9 dr.nm (fun p hp=>(oks p hp).nm),by omega,hN⟩
   .intro H6 s6 e6
    refine q H6 l6 (s5.trans s6) (s5.free hl6) ?_;rw[e6,show ((h':Int)+1-1).toNat=h' by omega];rfl
theorem xpf {x d:Int} (h:0<d) (h2:d<=4294967296):-(2 ^ 64)<x % d/\x % d<2 ^ 64:=by
 have a:=Int.emod_nonneg x (show d≠0 by omega);have b:=Int.emod_lt_of_pos x h;exact⟨by omega,by omega⟩
theorem xdw (x:Int) {d:Int} (h:0<d):0<=x % d/\x % d<d:=⟨Int.emod_nonneg _ (by omega),Int.emod_lt_of_pos _ h⟩
inductive xu6 (K:Zd) (vs:List V) (H:Hp) (Q:VK) (_:XK):Prop
 | mk (a:Addr) (ns:List Int) (k:Int) (e_:vs=[.ref a,.int k]) (r_:SqL K H a (ns.map V.int)/\0<=k/\k<2 ^ 62/\∀ c:Int,Q (.int c) H)
inductive xwq (vs:List V) (H:Hp) (Q:VK) (_:XK):Prop
 | mk (c k:Int) (e_:vs=[.int c,.int k]) (r_:∀ m:Int,0<=m->m<2147483587->Q (.int m) H)
inductive xrw (K:Zd) (vs:List V) (H:Hp) (Q:VK) (_:XK):Prop
 | mk (a:Addr) (ns:List Int) (e_:vs=[.ref a]) (r_:SqL K H a (ns.map V.int)/\∀(w h:Nat) H' p,1<=w->w<=30->1<=h->h<=16->Same H H'->H' p=some (.tup [.int (w:Int),.int (h:Int)])->Q (.ref p) H')
inductive xpu (K:Zd) (vs:List V) (H:Hp) (Q:VK) (_:XK):Prop
 | mk (a:Addr) (ns:List Int) (h:Nat) (e_:vs=[.ref a,.int (h:Int)]) (r_:SqL K H a (ns.map V.int)/\h<=16/\∀(ss:List Seat) (qs:List Addr) H' l,ss.length<=32->ss.Pairwise xcu->(∀ s∈ss,1<=s.2/\s.2<=(h:Int))->Same H H'->H l=none->H' l=some (.lst (qs.map V.ref))->xab H' ss qs->Q (.ref l) H')
theorem xh4 (a m d:Int) (h:0<d) (ha:0<=a):∃ x:Nat,a+m % d=(x:Int)/\a<=x/\(x:Int)<a+d:=by
 have z:=xdw m h;exact⟨(a+m % d).toNat,by omega,by omega,by omega⟩
theorem ok_ak (T:Txt w K mg t):FnOk true P w K mg base (CXo P w) 1 t.f_ak t.d_ak ["_law_script", "_law_k"] (xu6 K):=by
 refine T.F_ak.okn (k:=0) sc_ak (fun vs H Q E h=>?_) (fun cdv A outer s H vs Q E hr h=>?_)
 .obtain ⟨a,ns,k,rfl,_⟩:=h;rfl
 .obtain ⟨a,ns,k,rfl,h⟩:=h;refine⟨_,xj (xag (x9 xj4 (pv 1) (xw xbd rfl T.n_len J0 (xb (pv 0) (xg))) (x8 _)) (xn (x0 (xax xbu (pv 0) (pv 1) (fun _ _=>rfl)))) (x5))
   (xn (x0 (xk))),?_⟩
  obtain⟨hs,k0,k1,q⟩:=h;refine⟨_,rfl,_,rfl,a,_,rfl,.inl hs,_,_,rfl,rfl,_,rfl,?_⟩;refine ite2 (fun c=>?_) (fun c=>?_)
  .have c':k<(ns.length:Int):=by simpa using c
   obtain⟨j,rfl⟩:=Int.eq_ofNat_of_zero_le k0;have lt:j<ns.length:=by omega
   exact⟨_,rfl,_,rfl,a,_,_,_,rfl,rfl,hs,xb9 (by rw[Zg,Zf lt]; rfl),q _⟩
  .exact q _
theorem ok_e (T:Txt w K mg t):FnOk true P w K mg base (CXo P w) 1 t.f_e t.d_e ["_law_cell", "_law_k"] (xwq):=by
 refine T.F_e.okn (k:=0) sc_e (fun vs H Q E h=>?_) (fun cdv A outer s H vs Q E hr h=>?_)
 .obtain ⟨c,k,rfl,_⟩:=h;rfl
 .obtain ⟨c,k,rfl,h⟩:=h;refine⟨_,xj (xx (i:=2) sc_e.nd rfl (Zp rfl) (xu xar (xu xf0 (xu xai (xu xai (xu xar (pv 0) (xk)) (xu xf0 (xk) (pv 1))) (xk)) (xk)) (xk)))
   (xj (xx (i:=2) sc_e.nd rfl (Zp rfl) (xu xar (xu xf0 (pv 2) (pv 2)) (xk)))
   (xn (x0 (xu xar (xu xf0 (pv 2) (xu xai (pv 2) (xk))) (xk))))),?_⟩
  refine⟨_,rfl,_,_,rfl,rfl,(by show (0:Int)<2147483629; decide),_,rfl,_,_,rfl,rfl,.inl ⟨by decide,by decide⟩,_,_,rfl,rfl,_,_,rfl,rfl,_,_,rfl,rfl,.inr ⟨by decide,by decide⟩,_,_,rfl,rfl,(by show (0:Int)<2147483647; decide),?_⟩;refine⟨_,rfl,_,rfl,_,_,rfl,rfl,.inl (xpf (by decide) (by decide)),_,_,rfl,rfl,(by show (0:Int)<2147483629; decide),?_⟩;refine⟨_,rfl,_,rfl,_,_,rfl,rfl,_,_,rfl,rfl,.inl (xpf (by decide) (by decide)),_,_,rfl,rfl,(by show (0:Int)<2147483587; decide),?_⟩;exact h _ (xdw _ (by decide)).1 (xdw _ (by decide)).2
theorem ok_a0 (T:Txt w K mg t):FnOk true P w K mg base (CXo P w) 2 t.f_a0 t.d_a0 ["_law_script"] (xrw K):=by
 refine T.F_a0.okn (k:=1) sc_a0 (fun vs H Q E h=>?_) (fun cdv A outer s H vs Q E hr h=>?_)
 .obtain ⟨sc,ns,rfl,_⟩:=h;rfl
 .obtain ⟨sc,ns,rfl,h⟩:=h;refine⟨_,xj (xx (i:=1) sc_a0.nd rfl (Zp rfl) (xt (ok_ak T) (hmm hr) rfl T.g_ak T.F_ak.kp T.b_ak .nil xm (xb (pv 0) (xb (xk) (xg)))))
   (xj (xx (i:=2) sc_a0.nd rfl (Zp rfl) (xu xai (xk) (xu xar (xt (ok_e T) (hmm hr) rfl T.g_e T.F_e.kp T.b_e .nil xm (xb (pv 1) (xb (xk) (xg)))) (xk))))
   (xj (xx (i:=3) sc_a0.nd rfl (Zp rfl) (xu xai (xk) (xu xar (xt (ok_e T) (hmm hr) rfl T.g_e T.F_e.kp T.b_e .nil xm (xb (pv 1) (xb (xk) (xg)))) (xk))))
   (xj (xbx (xag (x9 xbr (xu xar (xt (ok_e T) (hmm hr) rfl T.g_e T.F_e.kp T.b_e .nil xm (xb (pv 1) (xb (xk) (xg)))) (xk)) (xk) (x8 _)) (xj (xx (i:=2) sc_a0.nd rfl (Zp rfl) (xu xai (xk) (xu xar (xt (ok_e T) (hmm hr) rfl T.g_e T.F_e.kp T.b_e .nil xm (xb (pv 1) (xb (xk) (xg)))) (xk))))
   (xn (xx (i:=3) sc_a0.nd rfl (Zp rfl) (xu xai (xk) (xu xar (xt (ok_e T) (hmm hr) rfl T.g_e T.F_e.kp T.b_e .nil xm (xb (pv 1) (xb (xk) (xg)))) (xk)))))) (x5)))
   (xn (x0 (x4 (xb (pv 2) (xb (pv 3) (xg))))))))),?_⟩
  obtain⟨hs,q⟩:=h;refine⟨_,rfl,sc,ns,0,rfl,hs,by decide,by decide,fun c=>?_⟩;refine⟨_,rfl,c,1,rfl,fun m1 _ _=>⟨_,_,rfl,rfl,(by show (0:Int)<30; decide),_,_,rfl,rfl,?_⟩⟩;obtain⟨w1,ew,w11,w12⟩:=xh4 1 m1 30 (by decide) (by decide);simp only[ew];refine⟨_,rfl,c,2,rfl,fun m2 _ _=>⟨_,_,rfl,rfl,(by show (0:Int)<16; decide),_,_,rfl,rfl,?_⟩⟩;obtain⟨h1,eh,h11,h12⟩:=xh4 1 m2 16 (by decide) (by decide);simp only[eh];refine⟨fun Z H1=>H=H1/\∃ w h:Nat,1<=w/\w<=30/\1<=h/\h<=16/\Z=[some (.ref sc),some (.int c),some (.int (w:Int)),some (.int (h:Int))],?_,?_⟩
  .refine ⟨_,rfl,c,3,rfl,fun m3 _ _=>⟨_,_,rfl,rfl,(by show (0:Int)<2; decide),rfl,_,rfl,ite2 (fun y=>?_) (fun y=>⟨rfl,w1,h1,by omega,by omega,by omega,by omega,rfl⟩)⟩⟩;refine⟨_,rfl,c,1,rfl,fun m4 _ _=>⟨_,_,rfl,rfl,(by show (0:Int)<19; decide),_,_,rfl,rfl,?_⟩⟩;obtain⟨w2,ew2,w21,w22⟩:=xh4 12 m4 19 (by decide) (by decide);simp only[ew2];refine⟨_,rfl,c,2,rfl,fun m5 _ _=>⟨_,_,rfl,rfl,(by show (0:Int)<5; decide),_,_,rfl,rfl,?_⟩⟩;obtain⟨h2,eh2,h21,h22⟩:=xh4 12 m5 5 (by decide) (by decide);simp only[eh2];exact⟨rfl,w2,h2,by omega,by omega,by omega,by omega,rfl⟩
  rintro Z _ ⟨rfl,w,h,a1,a2,a3,a4,rfl⟩;exact⟨_,rfl,_,rfl,(by show 2<=sizeLine; decide),fun p hp=>q w h _ p a1 a2 a3 a4 (xo (Same.refl _) hp) xf⟩
theorem ok_az (T:Txt w K mg t):FnOk true P w K mg base (CXo P w) 2 t.f_az t.d_az ["_law_script", "_law_height"] (xpu K):=by
 refine T.F_az.okn (k:=1) sc_az (fun vs H Q E h=>?_) (fun cdv A outer s H vs Q E hr h=>?_)
 .obtain ⟨sc,ns,ph,rfl,_⟩:=h;rfl
 .obtain ⟨sc,ns,ph,rfl,h⟩:=h;refine⟨_,xj (xx (i:=2) sc_az.nd rfl (Zp rfl) (xt (ok_ak T) (hmm hr) rfl T.g_ak T.F_ak.kp T.b_ak .nil xm (xb (pv 0) (xb (xk) (xg)))))
   (xj (xx (i:=3) sc_az.nd rfl (Zp rfl) (xu xar (xt (ok_e T) (hmm hr) rfl T.g_e T.F_e.kp T.b_e .nil xm (xb (pv 2) (xb (xk) (xg)))) (xk)))
   (xj (xx (i:=4) sc_az.nd rfl (Zp rfl) (xa8 (xg)))
   (xj (xa0 ZG rfl (xcp rfl T.n_enumerate (xb (xa8 (xb (x6) (xb (x6) (xg)))) (xg))) (xan rfl (xr (xq (i:=5) sc_az.nd rfl (Zp rfl)) (xr (xq (i:=6) sc_az.nd rfl (Zp rfl)) (xad)))) (xn (xa0 ZG rfl (xcm rfl T.n_range (xb (xk) (xb (xu xai (pv 1) (xk)) (xg)))) (xq (i:=7) sc_az.nd rfl (Zp rfl)) (xn (xbx (xag (x9 xj4 (xu xar (xt (ok_e T) (hmm hr) rfl T.g_e T.F_e.kp T.b_e .nil xm (xb (pv 2) (xb (xu xai (xu xf0 (xk) (pv 7)) (pv 5)) (xg)))) (xk)) (pv 3) (x8 _)) (xn (xay (xcl ZY Yb Ya xc1 (pv 4) (xb (x4 (xb (pv 6) (xb (pv 7) (xg)))) (xg))))) (x5)))))))
   (xn (x0 (pv 4)))))),?_⟩
  obtain⟨hs,h16,q⟩:=h;refine⟨_,rfl,sc,ns,1,rfl,hs,by decide,by decide,fun c=>?_⟩;refine⟨_,rfl,c,1,rfl,fun m1 _ _=>⟨_,_,rfl,rfl,(by show (0:Int)<7; decide),?_⟩⟩;refine⟨(by show 0<=sizeLine; decide),fun l hl=>?_⟩;have s1:Same H (upd H l (.lst [])):=xo (Same.refl _) hl;have g1:upd H l (.lst []) l=some (.lst []):=xf;revert s1 g1;generalize upd H l (.lst [])=H1;intro s1 g1;refine⟨(by show 2<=sizeLine; decide),fun le hle=>?_⟩;have s2:Same H1 (upd H1 le (.lst [.str (Zb "left"),.str (Zb "right")])):=xo (Same.refl _) hle;have g2:upd H1 le (.lst [.str (Zb "left"),.str (Zb "right")]) le=some (.lst [.str (Zb "left"),.str (Zb "right")]):=xf;revert s2 g2;generalize upd H1 le (.lst [.str (Zb "left"),.str (Zb "right")])=H2;intro s2 g2;refine⟨le,_,rfl,SqL.of g2,?_⟩;have nle:le≠l:=ZI (xi g1 hle);have fle:=s1.free hle;refine xd9 (xs:=[.str (Zb "left"),.str (Zb "right")]) (Pv:=fun k Z H5=>∃(ss:List Seat) (qs:List Addr) (v5 v6 v7:Option V),Z=[some (.ref sc),some (.int (ph:Int)),some (.int c),some (.int (m1 % 7)),some (.ref l),v5,v6,v7]/\Same H H5/\H5 le=some (.lst [.str (Zb "left"),.str (Zb "right")])/\H5 l=some (.lst (qs.map V.ref))/\xab H5 ss qs/\ss.Pairwise xcu/\(∀ s∈ss,1<=s.2/\s.2<=(ph:Int))/\qs.length<=16*k/\(k=0->ss=[])/\(k=1->∀ s∈ss,s.1=true)) ?_ ?_ ?_ ?_
  .exact ⟨[],[],_,_,_,rfl,s1.trans s2,g2,s2 _ _ g1,.nil,.nil,fun _ z=>(nomatch z),Zj _,fun _=>rfl,fun z=>(nomatch z)⟩
  .rintro i Z H5 _ ⟨_,_,_,_,_,rfl,_,e,_⟩;exact SqL.of e
  .rintro k x p Z H5 hx hp ⟨ss,qs,v5,v6,v7,rfl,s5,e5,hl5,sl5,lt5,b5,n5,z0,z1⟩;have k2:k<2:=(Zi.mp hx).1;obtain⟨b,rfl,hb⟩:∃ b,x=.str (xaf b)/\((b=true/\k=0)\/(b=false/\k=1)):=by
    match k,k2,hx with
    | 0,_,hx=>cases hx; exact⟨true,rfl,.inl ⟨rfl,rfl⟩⟩
    | 1,_,hx=>cases hx; exact⟨false,rfl,.inr ⟨rfl,rfl⟩⟩
   have s6:Same H5 (upd H5 p (.tup [.int (k:Int),.str (xaf b)])):=xo (Same.refl _) hp;have g6:upd H5 p (.tup [.int (k:Int),.str (xaf b)]) p=some (.tup [.int (k:Int),.str (xaf b)]):=xf;revert s6 g6;generalize upd H5 p (.tup [.int (k:Int),.str (xaf b)])=H6;intro s6 g6;refine⟨p,_,rfl,SqT.of g6,rfl,_,_,rfl,_,_,rfl,rfl,?_⟩;refine⟨_,rfl,_,_,rfl,rfl,1,(ph:Int)+1,rfl,⟨by decide,by decide,by omega,by omega⟩,?_⟩;refine xjm (Pv:=fun j Z H7=>∃(ss:List Seat) (qs:List Addr) (v7:Option V),Z=[some (.ref sc),some (.int (ph:Int)),some (.int c),some (.int (m1 % 7)),some (.ref l),some (.int (k:Int)),some (.str (xaf b)),v7]/\Same H H7/\H7 le=some (.lst [.str (Zb "left"),.str (Zb "right")])/\H7 l=some (.lst (qs.map V.ref))/\xab H7 ss qs/\ss.Pairwise xcu/\(∀ s∈ss,1<=s.2/\s.2<=(ph:Int))/\qs.length<=16*k+j/\∀ s∈ss,(s.1=true/\(k=0->s.2<=(j:Int)))\/(k=1/\s.1=false/\s.2<=(j:Int))) ?_ ?_ ?_
   .refine ⟨ss,qs,_,rfl,s5.trans s6,s6 _ _ e5,s6 _ _ hl5,sl5.keep (Same.tups s6),lt5,b5,by omega,fun s hs=>.inl ?_⟩;rcases hb with⟨_,rfl⟩|⟨_,rfl⟩
    .rw [z0 rfl] at hs;exact nomatch hs
    .exact ⟨z1 rfl s hs,fun z=>(nomatch z)⟩
   .rintro j Z H7 hj ⟨ss,qs,v7,rfl,s7,e7,hl7,sl7,lt7,b7,n7,z7⟩;have jh:j<ph:=by omega
    have up:∀ s∈ss,(s.1=true/\(k=0->s.2<=((j+1:Nat):Int)))\/(k=1/\s.1=false/\s.2<=((j+1:Nat):Int)):=fun s hs=>by
     rcases z7 s hs with⟨a,b⟩|⟨a,b,c⟩
     .exact .inl ⟨a,fun z=>by have:=b z; omega⟩
     .exact .inr ⟨a,b,by omega⟩
    refine⟨_,?_,fun _ _ z=>z⟩;refine⟨_,rfl,_,rfl,_,_,rfl,rfl,.inl ⟨by decide,by decide⟩,_,rfl,_,_,rfl,rfl,c,_,rfl,fun m _ _=>⟨_,_,rfl,rfl,(by show (0:Int)<6; decide),_,rfl,_,_,rfl,rfl,_,rfl,ite2 (fun y=>?_) (fun y=>⟨ss,qs,_,rfl,s7,e7,hl7,sl7,lt7,b7,by omega,up⟩)⟩⟩;refine⟨_,rfl,.inl ⟨rfl,_,SqL.of hl7⟩,_,rfl,_,rfl,(by show 2<=sizeLine; decide),fun qa hqa=>?_⟩;have s8:Same H7 (upd H7 qa (.tup [.str (xaf b),.int (1+(j:Int))])):=xo (Same.refl _) hqa;have g8:upd H7 qa (.tup [.str (xaf b),.int (1+(j:Int))]) qa=some (.tup [.str (xaf b),.int (1+(j:Int))]):=xf;revert s8 g8;generalize upd H7 qa (.tup [.str (xaf b),.int (1+(j:Int))])=H8;intro s8 g8;have hl8:=s8 _ _ hl7;refine⟨l,_,_,rfl,rfl,hl8,?_,?_⟩
    .rw [Za];exact Z6 (by omega:_<=1000) (by decide)
    have kt:Tups H8 (upd H8 l (.lst (qs.map V.ref++[.ref qa]))):=fun c xs e=>by rw[xh (xae e hl8 (fun z=>nomatch z))]; exact e
    refine⟨ss++[(b,1+(j:Int))],qs++[qa],_,rfl,fun c u e=>by rw[xh (xi e hl)]; exact s8 _ _ (s7 _ _ e),by rw[xh nle]; exact s8 _ _ e7,by rw[xf,ZB]; rfl,((sl7.keep (Same.tups s8)).keep kt).snoc (kt _ _ g8),?_,fun s hs=>?_,by rw[Zo,JQ]; omega,fun s hs=>?_⟩
    .rw [Yx];refine⟨lt7,List.pairwise_singleton _ _,fun s hs s' hs'=>?_⟩;rw[Z0.mp hs'];rcases hb with⟨rfl,rfl⟩|⟨rfl,rfl⟩
     .rcases z7 s hs with⟨a,b⟩|⟨a,_⟩
      .exact .inr ⟨a,by have:=b rfl; show s.2<1+(j:Int); omega⟩
      .cases a
     .rcases z7 s hs with⟨a,b⟩|⟨_,a,b⟩
      .exact .inl ⟨a,rfl⟩
      .exact .inr ⟨a,by show s.2<1+(j:Int); omega⟩
    .rcases Z9.mp hs with hs|hs
     .exact b7 s hs
     .rw [Z0.mp hs];exact⟨by show (1:Int)<=1+(j:Int); omega,by show 1+(j:Int)<=_; omega⟩
    .rcases Z9.mp hs with hs|hs
     .exact up s hs
     .rw [Z0.mp hs];rcases hb with⟨rfl,rfl⟩|⟨rfl,rfl⟩
      .exact .inl ⟨rfl,fun _=>by show 1+(j:Int)<=_; omega⟩
      .exact .inr ⟨rfl,rfl,by show 1+(j:Int)<=_; omega⟩
   .rintro Z H7 ⟨ss,qs,v7,rfl,s7,e7,hl7,sl7,lt7,b7,n7,z7⟩;refine⟨ss,qs,_,_,_,rfl,s7,e7,hl7,sl7,lt7,b7,by omega,fun z=>by omega,fun z s hs=>?_⟩;rcases z7 s hs with⟨a,_⟩|⟨a,_⟩
    .exact a
    .omega
  .rintro Z H5 ⟨ss,qs,v5,v6,v7,rfl,s5,e5,hl5,sl5,lt5,b5,n5,_⟩;exact⟨_,rfl,q ss qs H5 l (by have e:=sl5.len; have n6:qs.length<=16*2:=n5; omega) lt5 b5 s5 hl hl5 sl5⟩
inductive xry (vs:List V) (H:Hp) (Q:VK) (_:XK):Prop
 | mk (c:Int) (nm:Str) (x y:Int) (h:Nat) (e_:vs=[.int c,.str nm,.int x,.int y,.int (h:Int)]) (r_:1<=h/\∀ H' q (sd:Str) (lo hi:Int),(sd="left"\/sd="right"\/sd="both")->1<=lo->lo<=hi->hi<=(h:Int)->Same H H'->H' q=some (.tup (.str nm::ptV ⟨nm,x,y,sd,lo,hi⟩))->Q (.ref q) H')
theorem xt0 (c:Int):∃ sd:Str,atI [V.str (Zb "both"),V.str (Zb "left"),V.str (Zb "right")] (c % 3)=some (.str sd)/\(sd="left"\/sd="right"\/sd="both"):=by
 have b:=xdw c (show (0:Int)<3 by decide);have:c % 3=0\/c % 3=1\/c % 3=2:=by omega
 rcases this with e|e|e
 .exact ⟨"both",by rw[e]; rfl,.inr (.inr rfl)⟩
 .exact ⟨"left",by rw[e]; rfl,.inl rfl⟩
 .exact ⟨"right",by rw[e]; rfl,.inr (.inl rfl)⟩
theorem xel {α:Type}{ls:List α}{k:Nat}{y:α} (nd:ls.Nodup) (h:ls[k]?=some y):(ls.eraseIdx k).Nodup/\y∉ls.eraseIdx k/\(∀ z∈ls.eraseIdx k,z∈ls)/\y∈ls:=by
 obtain⟨hk,hy⟩:=Zi.mp h;have e:ls.take k++y::ls.drop (k+1)=ls:=by
  rw[<- hy,List.getElem_cons_drop,QT]
 have e2:ls.eraseIdx k=ls.take k++ls.drop (k+1):=YN ls k;have nd2:=nd;rw[<- e,ZZ,Jd] at nd2;obtain⟨n1,⟨n2,n3⟩,n4⟩:=nd2;refine⟨?_,?_,fun z hz=>List.mem_of_mem_eraseIdx hz,hy▸List.getElem_mem hk⟩
 .rw [e2,ZZ];exact⟨n1,n3,fun a ha b hb=>n4 a ha b (Zt _ hb)⟩
 .rw [e2,Z9];rintro (z|z)
  .exact n4 _ z _ Zr rfl
  .exact n2 z
theorem xhn {α:Type} (m:Int) {xs:List α} (h:xs≠[]) (h2:xs.length<=1000):∃ j y,xs[j]?=some y/\-(2 ^ 63)<=m % (xs.length:Int)/\m % (xs.length:Int)<2 ^ 63/\seqIndex? (m % (xs.length:Int)) xs.length=some j/\0<(xs.length:Int):=by
 have l0:0<xs.length:=List.length_pos_iff.mpr h;have lp:(0:Int)<(xs.length:Int):=by omega
 obtain⟨k0,k1⟩:=xdw m lp;obtain⟨j,hj⟩:=Int.eq_ofNat_of_zero_le k0;have jl:j<xs.length:=by
  have z:=k1;rw[hj] at z;omega
 exact⟨j,xs[j],Zf jl,by omega,by omega,by rw[seqIndex_of k0 k1,hj]; rfl,lp⟩
def abcS:Str:="abcdefghijklmnopqrstuvwxyz"
theorem xtm:∀ c∈abcS.cps.toList,isNm ⟨#[c]⟩=true:=by decide +kernel
theorem xud:abcS.cps.toList.Nodup:=by decide +kernel
theorem xuw:(sgnL abcS).Nodup:=by
 unfold sgnL;exact Drw.nd_map (fun a b e=>by
  have:=congrArg (fun s:Str=>s.cps.toList) (V.str.inj e);exact List.head_eq_of_cons_eq this) xud
theorem xpo (n:Nat):(rngL 1 ((n:Int)+1)).Nodup:=by
 unfold rngL;exact Drw.nd_map (fun a b e=>by
  have:=V.int.inj e;omega) Y0
theorem xl0 {n:Nat}{v:V} (h:v∈rngL 1 ((n:Int)+1)):∃ x:Int,v=.int x/\1<=x/\x<=n:=by
 unfold rngL at h;obtain⟨i,hi,rfl⟩:=Ze.mp h;rw[ZQ] at hi;exact⟨1+(i:Int),rfl,by omega,by omega⟩
structure PI (w h:Nat) (cols rows lts:List V) (ps:List Pt) (i:Nat):Prop where
 cn:cols.Nodup
 ci:∀ v∈cols,∃ x:Int,v=.int x/\1<=x/\x<=w
 rn:rows.Nodup
 ri:∀ v∈rows,∃ x:Int,v=.int x/\1<=x/\x<=h
 ln:lts.Nodup
 li:∀ v∈lts,v∈sgnL abcS
 ll:lts.length+ps.length=26
 cl:cols.length<=100
 rl:rows.length<=100
 pl:ps.length<=i
 ok:∀ p∈ps,PtOk w h p
 nx:(ps.map (·.x)).Nodup
 ny:(ps.map (·.y)).Nodup
 nn:(ps.map (·.nm)).Nodup
 ox:∀ p∈ps,V.int p.x∉cols
 oy:∀ p∈ps,V.int p.y∉rows
 on:∀ p∈ps,V.str p.nm∉lts
theorem xgk {α β:Type}{f:α->β}{l:List α}{x:α} (h:(l.map f).Nodup) (hx:∀ y∈l,f y≠f x):((l++[x]).map f).Nodup:=by
 rw[ZB,ZZ];refine⟨h,by simp,fun a ha b hb e=>?_⟩;obtain⟨y,hy,rfl⟩:=Ze.mp ha;have hb:b∈[f x]:=hb;rw[Z0.mp hb] at e;exact hx y hy e
theorem PI.up {w h:Nat}{cols rows lts:List V}{ps:List Pt}{i:Nat} (g:PI w h cols rows lts ps i):PI w h cols rows lts ps (i+1):={ g with pl:=Nat.le_succ_of_le g.pl }
theorem PtsL.snoc1 {H:Hp}{ps:List Pt}{qs:List Addr} (h:PtsL H ps qs) {p:Pt}{q:Addr} (e:H q=some (.tup (.str p.nm::ptV p))):PtsL H (ps++[p]) (qs++[q]):=by
 induction h with
 | nil=>exact .cons e .nil
 | cons h _ ih=>exact .cons h ih
theorem PI.add {w h:Nat}{cols rows lts:List V}{ps:List Pt}{i jx jy jn:Nat}{p:Pt} (g:PI w h cols rows lts ps i) (hx:cols[jx]?=some (.int p.x)) (hy:rows[jy]?=some (.int p.y)) (hn:lts[jn]?=some (.str p.nm)) (ok:PtOk w h p):PI w h (cols.eraseIdx jx) (rows.eraseIdx jy) (lts.eraseIdx jn) (ps++[p]) (i+1):=by
 obtain⟨c1,c2,c3,c4⟩:=xel g.cn hx;obtain⟨r1,r2,r3,r4⟩:=xel g.rn hy;obtain⟨l1,l2,l3,l4⟩:=xel g.ln hn;have lj:=(Zi.mp hn).1;refine⟨c1,fun v hv=>g.ci v (c3 v hv),r1,fun v hv=>g.ri v (r3 v hv),l1,fun v hv=>g.li v (l3 v hv),?_,?_,?_,?_,fun q hq=>?_,xgk g.nx fun y hy e=>?_,xgk g.ny fun y hy e=>?_,xgk g.nn fun y hy e=>?_,fun q hq=>?_,fun q hq=>?_,fun q hq=>?_⟩
 .rw [List.length_eraseIdx_of_lt lj,Zo,JQ];have:=g.ll;omega
 .exact Zy (Q6 _ _) g.cl
 .exact Zy (Q6 _ _) g.rl
 .rw [Zo,JQ];have:=g.pl;omega
 .rcases Z9.mp hq with hq|hq
  .exact g.ok q hq
  .rw [Z0.mp hq]; exact ok
 .exact g.ox y hy (e▸c4)
 .exact g.oy y hy (e▸r4)
 .exact g.on y hy (e▸l4)
 .rcases Z9.mp hq with hq|hq
  .exact fun z=>g.ox q hq (c3 _ z)
  .rw [Z0.mp hq]; exact c2
 .rcases Z9.mp hq with hq|hq
  .exact fun z=>g.oy q hq (r3 _ z)
  .rw [Z0.mp hq]; exact r2
 .rcases Z9.mp hq with hq|hq
  .exact fun z=>g.on q hq (l3 _ z)
  .rw [Z0.mp hq]; exact l2
inductive xqo (K:Zd) (vs:List V) (H:Hp) (Q:VK) (_:XK):Prop
 | mk (lc:Addr) (ns:List Int) (w h:Nat) (e_:vs=[.ref lc,.int (w:Int),.int (h:Int)]) (r_:H lc=some (.lst (ns.map V.int))/\ns.length<=12/\1<=w/\w<=30/\1<=h/\h<=16/\∀ H' l ps qs,xdn (w:Int) (h:Int) ps->ps.length<=ns.length->Same H H'->H l=none->H' l=some (.lst (qs.map V.ref))->PtsL H' ps qs->Q (.ref l) H')
theorem xox {K:Zd}{H:Hp}{l l2:Addr}{xs:List V} (h:H l=some (.lst xs)) (h2:H l2=some (.lst [])) (f:xs.all scV=true):∃(n m:Nat) (d e:DV),Dv K H n (.ref l) d/\Dv K H m (.ref l2) e/\n<=9/\m<=9/\(!dEq d e)=!decide (xs=[]):=by
 refine⟨1,1,.lst (xs.map scD),.lst [],.lst (SqL.of h) (by rw[Za]) (xew f),.lst (SqL.of h2) rfl (xew (xs:=[]) rfl),by decide,by decide,?_⟩;cases xs with
 | nil=>rfl
 | cons x r=>rfl
def IPt (H:Hp) (lcell lc lr ll lp:Addr) (w h:Nat) (i:Nat) (Z:L2.St) (H5:Hp):Prop:=∃(cols rows lts:List V) (ps:List Pt) (qs:List Addr) (v7 v8 v9 v10:Option V),Z=[some (.ref lcell),some (.int (w:Int)),some (.int (h:Int)),some (.ref lc),some (.ref lr),some (.ref ll),some (.ref lp),v7,v8,v9,v10] /\
 Same H H5/\H5 lc=some (.lst cols)/\H5 lr=some (.lst rows)/\H5 ll=some (.lst lts)/\H5 lp=some (.lst (qs.map V.ref))/\PtsL H5 ps qs/\PI w h cols rows lts ps i
theorem ok_a1 (T:Txt w K mg t):FnOk true P w K mg base (CXo P w) 2 t.f_a1 t.d_a1 ["_law_cell", "_law_name", "_law_x", "_law_y", "_law_height"] (xry):=by
 refine T.F_a1.okn (k:=1) sc_a1 (fun vs H Q E h=>?_) (fun cdv A outer s H vs Q E hr h=>?_)
 .obtain ⟨c,nm,x,y,ph,rfl,_⟩:=h;rfl
 .obtain ⟨c,nm,x,y,ph,rfl,h⟩:=h;refine⟨_,xj (xx (i:=5) sc_a1.nd rfl (Zp rfl) (xax xbu (xa8 (xb (x6) (xb (x6) (xb (x6) (xg))))) (xu xar (xu xar (xt (ok_e T) (hmm hr) rfl T.g_e T.F_e.kp T.b_e .nil xm (xb (pv 0) (xb (xk) (xg)))) (xk)) (xk)) (fun _ _=>rfl)))
   (xj (xx (i:=6) sc_a1.nd rfl (Zp rfl) (xu xai (xk) (xu xar (xt (ok_e T) (hmm hr) rfl T.g_e T.F_e.kp T.b_e .nil xm (xb (pv 0) (xb (xk) (xg)))) (pv 4))))
   (xj (xx (i:=7) sc_a1.nd rfl (Zp rfl) (xu xai (pv 6) (xu xar (xt (ok_e T) (hmm hr) rfl T.g_e T.F_e.kp T.b_e .nil xm (xb (pv 0) (xb (xk) (xg)))) (xu xai (xu xe0 (pv 4) (pv 6)) (xk)))))
   (xj (xx (i:=8) sc_a1.nd rfl (Zp rfl) (xu xar (xt (ok_e T) (hmm hr) rfl T.g_e T.F_e.kp T.b_e .nil xm (xb (pv 0) (xb (xk) (xg)))) (xk)))
   (xj ((by (with_reducible refine' xbx ?m50); (case m50=>((with_reducible refine' xag ?c32 ?a33 ?b34); (case c32=>exact x9 xbr (pv 8) (xk) (x8 _)); (case a33=>((with_reducible refine' xn ?c35); (case c35=>((with_reducible refine' x0 ?e36); (case e36=>((with_reducible refine' x4 ?p37); (case p37=>((with_reducible refine' xb ?e38 ?q39 rfl); (case e38=>((exact pv 1))); (case q39=>((with_reducible refine' xb ?e40 ?q41 rfl); (case e40=>((exact pv 2))); (case q41=>((with_reducible refine' xb ?e42 ?q43 rfl); (case e42=>((exact pv 3))); (case q43=>((with_reducible refine' xb ?e44 ?q45 rfl); (case e44=>((exact pv 5))); (case q45=>((with_reducible refine' xb ?e46 ?q47 rfl); (case e46=>((exact xk))); (case q47=>((with_reducible refine' xb ?e48 ?q49 rfl); (case e48=>((exact pv 4))); (case q49=>((exact xg))))))))))))))))))))); (case b34=>((exact x5)))))))
   (xj (xbx (xag (x9 xbr (pv 8) (xk) (x8 _)) (xn (xx (i:=7) sc_a1.nd rfl (Zp rfl) (xw (xek rfl) rfl T.n_min boot_min (xb (xu xai (pv 6) (xk)) (xb (pv 4) (xg)))))) (x5)))
   (xn ((by (with_reducible refine' x0 ?e18); (case e18=>((with_reducible refine' x4 ?p19); (case p19=>((with_reducible refine' xb ?e20 ?q21 rfl); (case e20=>((exact pv 1))); (case q21=>((with_reducible refine' xb ?e22 ?q23 rfl); (case e22=>((exact pv 2))); (case q23=>((with_reducible refine' xb ?e24 ?q25 rfl); (case e24=>((exact pv 3))); (case q25=>((with_reducible refine' xb ?e26 ?q27 rfl); (case e26=>((exact pv 5))); (case q27=>((with_reducible refine' xb ?e28 ?q29 rfl); (case e28=>((exact pv 6))); (case q29=>((with_reducible refine' xb ?e30 ?q31 rfl); (case e30=>((exact pv 7))); (case q31=>((exact xg))))))))))))))))))))))))),?_⟩
  obtain⟨h1,q⟩:=h;refine⟨(by show 3<=sizeLine; decide),fun l0 hl0=>?_⟩;have s1:Same H (upd H l0 (.lst [V.str (Zb "both"),V.str (Zb "left"),V.str (Zb "right")])):=xo (Same.refl _) hl0;have g1:upd H l0 (.lst [V.str (Zb "both"),V.str (Zb "left"),V.str (Zb "right")]) l0=some (.lst [V.str (Zb "both"),V.str (Zb "left"),V.str (Zb "right")]):=xf;revert s1 g1;generalize upd H l0 (.lst [V.str (Zb "both"),V.str (Zb "left"),V.str (Zb "right")])=H1;intro s1 g1;refine⟨_,rfl,c,6,rfl,fun m6 _ _=>?_⟩;obtain⟨sd,esd,osd⟩:=xt0 (m6 % 4);refine⟨_,_,rfl,rfl,(by show (0:Int)<4; decide),_,_,rfl,rfl,(by show (0:Int)<3; decide),l0,_,_,.str sd,rfl,rfl,SqL.of g1,esd,?_⟩;refine⟨_,rfl,c,7,rfl,fun m7 _ _=>⟨_,rfl,_,_,rfl,rfl,(by show (0:Int)<(ph:Int); omega),_,_,rfl,rfl,?_⟩⟩;have b7:=xdw m7 (show (0:Int)<(ph:Int) by omega);have p8:(0:Int)<(ph:Int)-(1+m7 % (ph:Int))+1:=by omega
  refine⟨_,rfl,_,rfl,c,8,rfl,fun m8 _ _=>⟨_,rfl,_,rfl,_,_,rfl,rfl,_,_,rfl,rfl,_,_,rfl,rfl,p8,_,_,rfl,rfl,?_⟩⟩;have b8:=xdw m8 p8;refine⟨_,rfl,c,9,rfl,fun m9 _ _=>⟨_,_,rfl,rfl,(by show (0:Int)<3; decide),?_⟩⟩;refine⟨fun Z H5=>H1=H5/\Z=[some (.int c),some (.str nm),some (.int x),some (.int y),some (.int (ph:Int)),some (.str sd),some (.int (1+m7 % (ph:Int))),some (.int (1+m7 % (ph:Int)+m8 % ((ph:Int)-(1+m7 % (ph:Int))+1))),some (.int (m9 % 3))],?_,?_⟩
  .refine ⟨_,rfl,rfl,_,rfl,ite2 (fun y=>?_) (fun y=>⟨rfl,rfl⟩)⟩;exact⟨_,rfl,_,rfl,_,rfl,_,rfl,_,rfl,(by show 6<=sizeLine; decide),fun p hp=>q _ p sd 1 (ph:Int) osd (by omega) (by omega) (by omega) (s1.trans (xo (Same.refl _) hp)) xf⟩
  rintro Z _ ⟨rfl,rfl⟩;refine⟨fun Z H5=>H1=H5/\∃ hi:Int,1+m7 % (ph:Int)<=hi/\hi<=(ph:Int)/\Z=[some (.int c),some (.str nm),some (.int x),some (.int y),some (.int (ph:Int)),some (.str sd),some (.int (1+m7 % (ph:Int))),some (.int hi),some (.int (m9 % 3))],?_,?_⟩
  .refine ⟨_,rfl,rfl,_,rfl,ite2 (fun y=>?_) (fun y=>⟨rfl,_,by omega,by omega,rfl⟩)⟩;refine⟨_,rfl,_,_,rfl,rfl,_,rfl,_,_,rfl,rfl,_,?_,?_,rfl⟩
   .split<;>omega
   .split<;>omega
  rintro Z _ ⟨rfl,hi,a1,a2,rfl⟩;exact⟨_,rfl,_,rfl,_,rfl,_,rfl,_,rfl,_,rfl,(by show 6<=sizeLine; decide),fun p hp=>q _ p sd _ hi osd (by omega) a1 a2 (s1.trans (xo (Same.refl _) hp)) xf⟩
theorem ok_aq (T:Txt w K mg t):FnOk true P w K mg base (CXo P w) 3 t.f_aq t.d_aq ["_law_cells", "_law_width", "_law_height"] (xqo K):=by
 refine T.F_aq.okn (k:=2) sc_aq (fun vs H Q E h=>?_) (fun cdv A outer s H vs Q E hr h=>?_)
 .obtain ⟨lcell,ns,w',h',rfl,_⟩:=h;rfl
 .obtain ⟨lcell,ns,w',h',rfl,h⟩:=h;refine⟨_,xj (xx (i:=3) sc_aq.nd rfl (Zp rfl) (xb5 (xfl rfl) rfl T.n_list boot_list (xb (xb5 xgs rfl T.n_range boot_range (xb (xk) (xb (xu xai (pv 1) (xk)) (xg)))) (xg))))
   (xj (xx (i:=4) sc_aq.nd rfl (Zp rfl) (xb5 (xfl rfl) rfl T.n_list boot_list (xb (xb5 xgs rfl T.n_range boot_range (xb (xk) (xb (xu xai (pv 2) (xk)) (xg)))) (xg))))
   (xj (xx (i:=5) sc_aq.nd rfl (Zp rfl) (xb5 (xju rfl) rfl T.n_list boot_list (xb (x6) (xg))))
   (xj (xx (i:=6) sc_aq.nd rfl (Zp rfl) (xa8 (xg)))
   (xj (xa0 ZG rfl (xat (pv 0)) (xq (i:=7) sc_aq.nd rfl (Zp rfl)) (xn (xbx (xag (PW.pt (xkg (x9 (xfw (xb1 hr)) (pv 3) (xa8 (xg)) (x8 _)) (xio (x9 (xfw (xb1 hr)) (pv 4) (xa8 (xg)) (x8 _))))) (xj (xx (i:=8) sc_aq.nd rfl (Zp rfl) (xcl ZY YR YQ xff (pv 3) (xb (xu xar (xt (ok_e T) (hmm hr) rfl T.g_e T.F_e.kp T.b_e .nil xm (xb (pv 7) (xb (xk) (xg)))) (xw xbd rfl T.n_len J0 (xb (pv 3) (xg)))) (xg))))
   (xj (xx (i:=9) sc_aq.nd rfl (Zp rfl) (xcl ZY YR YQ xff (pv 4) (xb (xu xar (xt (ok_e T) (hmm hr) rfl T.g_e T.F_e.kp T.b_e .nil xm (xb (pv 7) (xb (xk) (xg)))) (xw xbd rfl T.n_len J0 (xb (pv 4) (xg)))) (xg))))
   (xj (xx (i:=10) sc_aq.nd rfl (Zp rfl) (xcl ZY YR YQ xff (pv 5) (xb (xu xar (xt (ok_e T) (hmm hr) rfl T.g_e T.F_e.kp T.b_e .nil xm (xb (pv 7) (xb (xk) (xg)))) (xw xbd rfl T.n_len J0 (xb (pv 5) (xg)))) (xg))))
   (xn (xay (xcl ZY Yb Ya xc1 (pv 6) (xb (xt (ok_a1 T) (hmm hr) rfl T.g_a1 T.F_a1.kp T.b_a1 .nil xm (xah (pv 7) (xah (pv 10) (xah (pv 8) (xah (pv 9) (xah (pv 2) (xg) rfl) rfl) rfl) rfl) rfl)) (xg)))))))) (x5)))))
   (xn (x0 (pv 6))))))),?_⟩
  obtain⟨hc,n12,w1,w2,h1,h2,q⟩:=h;refine⟨_,rfl,_,_,rfl,rfl,1,(w':Int)+1,rfl,fun pr hpr=>?_⟩;have s1:Same H (upd H pr (.rng 1 ((w':Int)+1))):=xo (Same.refl _) hpr;have g1:upd H pr (.rng 1 ((w':Int)+1)) pr=some (.rng 1 ((w':Int)+1)):=xf;revert s1 g1;generalize upd H pr (.rng 1 ((w':Int)+1))=H1;intro s1 g1;refine⟨pr,_,_,rfl,g1,⟨by decide,by decide,by omega,by omega⟩,by omega,fun lc hlc=>?_⟩;have s2:Same H1 (upd H1 lc (.lst (rngL 1 ((w':Int)+1)))):=xo (Same.refl _) hlc;have g2:upd H1 lc (.lst (rngL 1 ((w':Int)+1))) lc=some (.lst (rngL 1 ((w':Int)+1))):=xf;revert s2 g2;generalize upd H1 lc (.lst (rngL 1 ((w':Int)+1)))=H2;intro s2 g2;refine⟨_,rfl,_,_,rfl,rfl,1,(h':Int)+1,rfl,fun pr2 hpr2=>?_⟩;have s3:Same H2 (upd H2 pr2 (.rng 1 ((h':Int)+1))):=xo (Same.refl _) hpr2;have g3:upd H2 pr2 (.rng 1 ((h':Int)+1)) pr2=some (.rng 1 ((h':Int)+1)):=xf;revert s3 g3;generalize upd H2 pr2 (.rng 1 ((h':Int)+1))=H3;intro s3 g3;refine⟨pr2,_,_,rfl,g3,⟨by decide,by decide,by omega,by omega⟩,by omega,fun lr hlr=>?_⟩;have s4:Same H3 (upd H3 lr (.lst (rngL 1 ((h':Int)+1)))):=xo (Same.refl _) hlr;have g4:upd H3 lr (.lst (rngL 1 ((h':Int)+1))) lr=some (.lst (rngL 1 ((h':Int)+1))):=xf;revert s4 g4;generalize upd H3 lr (.lst (rngL 1 ((h':Int)+1)))=H4;intro s4 g4;refine⟨abcS,rfl,by decide +kernel,fun ll hll=>?_⟩;have s5:Same H4 (upd H4 ll (.lst (sgnL abcS))):=xo (Same.refl _) hll;have g5:upd H4 ll (.lst (sgnL abcS)) ll=some (.lst (sgnL abcS)):=xf;revert s5 g5;generalize upd H4 ll (.lst (sgnL abcS))=H5;intro s5 g5;refine⟨(by show 0<=sizeLine; decide),fun lp hlp=>?_⟩;have s6:Same H5 (upd H5 lp (.lst [])):=xo (Same.refl _) hlp;have g6:upd H5 lp (.lst []) lp=some (.lst []):=xf;revert s6 g6;generalize upd H5 lp (.lst [])=H6;intro s6 g6;have s06:=(((s1.trans s2).trans s3).trans s4).trans (s5.trans s6);have f2:=s1.free hlc;have f4:=((s1.trans s2).trans s3).free hlr;have f5:=(((s1.trans s2).trans s3).trans s4).free hll;have f6:=((((s1.trans s2).trans s3).trans s4).trans s5).free hlp;have e2:=s6 _ _ (s5 _ _ (s4 _ _ (s3 _ _ g2)));have e4:=s6 _ _ (s5 _ _ g4);have e5:=s6 _ _ g5;have n24:lc≠lr:=xi (s3 _ _ g2) hlr;have n25:lc≠ll:=xi (s4 _ _ (s3 _ _ g2)) hll;have n26:lc≠lp:=xi (s5 _ _ (s4 _ _ (s3 _ _ g2))) hlp;have n45:lr≠ll:=xi g4 hll;have n46:lr≠lp:=xi (s5 _ _ g4) hlp;have n56:ll≠lp:=xi g5 hlp;refine⟨_,rfl,lcell,rfl,⟨_,SqL.of (s06 _ _ hc)⟩,?_⟩;refine xa6 (xs:=ns.map V.int) (Pv:=IPt H lcell lc lr ll lp w' h') ⟨_,_,_,[],[],_,_,_,_,rfl,s06,e2,e4,e5,g6,.nil,⟨xpo _,fun v hv=>xl0 hv,xpo _,fun v hv=>xl0 hv,xuw,fun v hv=>hv,(by decide +kernel),?_,?_,Zj _,fun _ z=>(nomatch z),.nil,.nil,.nil,fun _ z=>(nomatch z),fun _ z=>(nomatch z),fun _ z=>(nomatch z)⟩⟩ ?_ ?_ ?_
  .unfold rngL;rw[Za,Zs];omega
  .unfold rngL;rw[Za,Zs];omega
  .rintro i Z H7 _ ⟨_,_,_,_,_,_,_,_,_,rfl,s7,_⟩;exact SqL.of (s7 _ _ hc)
  .rintro i x Z H7 hx ⟨cols,rows,lts,ps,qs,v7,v8,v9,v10,rfl,s7,e7c,e7r,e7l,e7p,pl7,pi⟩;rw[Zg,Zk] at hx;obtain⟨c,hc',rfl⟩:=hx;have i12:i<12:=by have:=(Zi.mp hc').1; omega
   refine⟨_,?_,fun _ _ z=>z⟩;have sc1:cols.all scV=true:=Y2.mpr fun v hv=>by
    obtain⟨x,rfl,_⟩:=pi.ci v hv;rfl
   have sc2:rows.all scV=true:=Y2.mpr fun v hv=>by
    obtain⟨x,rfl,_⟩:=pi.ri v hv;rfl
   refine⟨_,rfl,(by show 0<=sizeLine; decide),fun z1 hz1=>?_⟩;have s8:Same H7 (upd H7 z1 (.lst [])):=xo (Same.refl _) hz1;have g8:upd H7 z1 (.lst []) z1=some (.lst []):=xf;revert s8 g8;generalize upd H7 z1 (.lst [])=H8;intro s8 g8;obtain⟨n,m,d,e,d1,d2,n9,m9,ev⟩:=xox (K:=K) (s8 _ _ e7c) g8 sc1;refine⟨n,m,d,e,d1,d2,n9,m9,_,rfl,?_⟩;rw[ev];refine ite2 (fun y1=>?_) (fun y1=>⟨cols,rows,lts,ps,qs,_,_,_,_,rfl,s7.trans s8,s8 _ _ e7c,s8 _ _ e7r,s8 _ _ e7l,s8 _ _ e7p,pl7.keep (Same.tups s8),pi.up⟩);refine⟨_,rfl,(by show 0<=sizeLine; decide),fun z2 hz2=>?_⟩;have s9:Same H8 (upd H8 z2 (.lst [])):=xo (Same.refl _) hz2;have g9:upd H8 z2 (.lst []) z2=some (.lst []):=xf;revert s9 g9;generalize upd H8 z2 (.lst [])=H9;intro s9 g9;have s79:=s8.trans s9;obtain⟨n',m',d',e',d1',d2',n9',m9',ev'⟩:=xox (K:=K) (s79 _ _ e7r) g9 sc2;refine⟨n',m',d',e',d1',d2',n9',m9',_,rfl,?_⟩;rw[ev'];refine ite2 (fun y2=>?_) (fun y2=>⟨cols,rows,lts,ps,qs,_,_,_,_,rfl,s7.trans s79,s79 _ _ e7c,s79 _ _ e7r,s79 _ _ e7l,s79 _ _ e7p,pl7.keep (Same.tups s79),pi.up⟩);have cne:cols≠[]:=fun z=>by rw[z] at y1; exact absurd y1 (by decide)
   have rne:rows≠[]:=fun z=>by rw[z] at y2; exact absurd y2 (by decide)
   have lne:lts≠[]:=fun z=>by
    have l0:lts.length=0:=by rw[z]; rfl
    have:=pi.ll;have:=pi.pl;omega
   have e9c:=s79 _ _ e7c;have e9r:=s79 _ _ e7r;have e9l:=s79 _ _ e7l;have e9p:=s79 _ _ e7p;have p9:=pl7.keep (Same.tups s79);have s09:=s7.trans s79;refine⟨_,rfl,.inl ⟨rfl,_,SqL.of e9c⟩,_,rfl,c,3,rfl,fun m3 _ _=>?_⟩;obtain⟨jx,vx,gx,a1,a2,a3,a4⟩:=xhn m3 cne (Zy pi.cl (by decide));obtain⟨x,rfl,x1,x2⟩:=pi.ci vx (Zn gx);refine⟨_,rfl,lc,_,rfl,.inl (SqL.of e9c),_,_,rfl,rfl,a4,lc,_,_,jx,_,rfl,rfl,e9c,a1,a2,a3,gx,?_⟩;have k10:∀ c u,c≠lc->H9 c=some u->upd H9 lc (.lst (cols.eraseIdx jx)) c=some u:=fun c u nc e=>by rw[xh nc]; exact e
   have g10:upd H9 lc (.lst (cols.eraseIdx jx)) lc=some (.lst (cols.eraseIdx jx)):=xf;revert k10 g10;generalize upd H9 lc (.lst (cols.eraseIdx jx))=H10;intro k10 g10;have e10r:=k10 _ _ (ZI n24) e9r;refine⟨_,rfl,.inl ⟨rfl,_,SqL.of e10r⟩,_,rfl,c,4,rfl,fun m4 _ _=>?_⟩;obtain⟨jy,vy,gy,b1,b2,b3,b4⟩:=xhn m4 rne (Zy pi.rl (by decide));obtain⟨y,rfl,y3,y4⟩:=pi.ri vy (Zn gy);refine⟨_,rfl,lr,_,rfl,.inl (SqL.of e10r),_,_,rfl,rfl,b4,lr,_,_,jy,_,rfl,rfl,e10r,b1,b2,b3,gy,?_⟩;have k11:∀ c u,c≠lr->H10 c=some u->upd H10 lr (.lst (rows.eraseIdx jy)) c=some u:=fun c u nc e=>by rw[xh nc]; exact e
   have g11:upd H10 lr (.lst (rows.eraseIdx jy)) lr=some (.lst (rows.eraseIdx jy)):=xf;revert k11 g11;generalize upd H10 lr (.lst (rows.eraseIdx jy))=H11;intro k11 g11;have e11l:=k11 _ _ (ZI n45) (k10 _ _ (ZI n25) e9l);have e11c:=k11 _ _ n24 g10;refine⟨_,rfl,.inl ⟨rfl,_,SqL.of e11l⟩,_,rfl,c,5,rfl,fun m5 _ _=>?_⟩;obtain⟨jn,vn,gn,c1,c2,c3,c4⟩:=xhn m5 lne (by have:=pi.ll; omega);obtain⟨cc,hcc,rfl⟩:=Ze.mp (pi.li vn (Zn gn));have inm:=xtm cc hcc;refine⟨_,rfl,ll,_,rfl,.inl (SqL.of e11l),_,_,rfl,rfl,c4,ll,_,_,jn,_,rfl,rfl,e11l,c1,c2,c3,gn,?_⟩;have k12:∀ c u,c≠ll->H11 c=some u->upd H11 ll (.lst (lts.eraseIdx jn)) c=some u:=fun c u nc e=>by rw[xh nc]; exact e
   have g12:upd H11 ll (.lst (lts.eraseIdx jn)) ll=some (.lst (lts.eraseIdx jn)):=xf;revert k12 g12;generalize upd H11 ll (.lst (lts.eraseIdx jn))=H12;intro k12 g12;have e12c:=k12 _ _ n25 e11c;have e12r:=k12 _ _ n45 g11;have e12p:=k12 _ _ (ZI n56) (k11 _ _ (ZI n46) (k10 _ _ (ZI n26) e9p));have s012:Same H H12:=fun c u e=>k12 _ _ (xi e f5) (k11 _ _ (xi e f4) (k10 _ _ (xi e f2) (s09 _ _ e)));have t912:Tups H9 H12:=fun c xs e=>k12 _ _ (xae e (s79 _ _ e7l) (fun z=>nomatch z)) (k11 _ _ (xae e e9r (fun z=>nomatch z)) (k10 _ _ (xae e e9c (fun z=>nomatch z)) e));refine⟨_,rfl,.inl ⟨rfl,_,SqL.of e12p⟩,_,rfl,_,rfl,_,rfl,_,rfl,_,rfl,c,⟨#[cc]⟩,x,y,h',rfl,h1,fun H13 qa sd lo hi osd o1 o2 o3 s13 hqa=>?_⟩;have e13p:=s13 _ _ e12p;refine⟨lp,_,_,rfl,rfl,e13p,?_,?_⟩
   .rw [Za,pl7.len];exact Z6 (by have:=pi.pl; omega:_<=1000) (by decide)
   have kt:Tups H13 (upd H13 lp (.lst (qs.map V.ref++[.ref qa]))):=fun c xs e=>by rw[xh (xae e e13p (fun z=>nomatch z))]; exact e
   refine⟨_,_,_,ps++[⟨⟨#[cc]⟩,x,y,sd,lo,hi⟩],qs++[qa],_,_,_,_,rfl,fun c u e=>by rw[xh (xi e f6)]; exact s13 _ _ (s012 _ _ e),by rw[xh n26]; exact s13 _ _ e12c,by rw[xh n46]; exact s13 _ _ e12r,by rw[xh n56]; exact s13 _ _ g12,by rw[xf,ZB]; rfl,PtsL.snoc1 (((p9.keep t912).keep (Same.tups s13)).keep kt) (kt _ _ hqa),pi.add (p:=⟨⟨#[cc]⟩,x,y,sd,lo,hi⟩) gx gy gn ⟨inm,x1,x2,y3,y4,osd,o1,o2,o3⟩⟩
  .rintro Z H7 ⟨cols,rows,lts,ps,qs,v7,v8,v9,v10,rfl,s7,e7c,e7r,e7l,e7p,pl7,pi⟩;have:=pi.pl;rw[Za] at this;exact⟨_,rfl,q H7 lp ps qs ⟨pi.ok,pi.nn,pi.nx,pi.ny,by omega⟩ (by omega) s7 f6 e7p pl7⟩
theorem xp0 {ss:List Seat} (h:ss.Pairwise xcu):ss.Nodup:=h.imp fun {a b} z e=>by
 subst e;exact xjo _ _ z z
def xaz (b:Bool) (h:Nat):List Seat:=(Z3 h).map fun (i:Nat)=>(b,1+(i:Int))
inductive xr4 (vs:List V) (H:Hp) (Q:VK) (_:XK):Prop
 | mk (h:Nat) (e_:vs=[.int (h:Int)]) (r_:h<=16/\∀ H' l ss rs,ss=xaz true h++xaz false h->SsOk (h:Int) ss->Same H H'->H l=none->H' l=some (.lst (rs.map V.ref))->xab H' ss rs->Q (.ref l) H')
theorem xp2 (h:Nat) (h16:h<=16):SsOk (h:Int) (xaz true h++xaz false h):=by
 have nd:∀ b,(xaz b h).Nodup:=fun b=>Drw.nd_map (fun a c e=>by
  have:=(JD.inj e).2;omega) Y0
 refine⟨?_,?_,fun s hs=>?_⟩
 .rw [ZZ];refine⟨nd _,nd _,fun a ha b hb e=>?_⟩;obtain⟨i,_,rfl⟩:=Ze.mp ha;obtain⟨j,_,rfl⟩:=Ze.mp hb;exact absurd (JD.inj e).1 (by decide)
 .unfold xaz;rw[Zo,Za,Za,Zs];omega
 .rcases Z9.mp hs with hs|hs
  .obtain ⟨i,hi,rfl⟩:=Ze.mp hs;rw[ZQ] at hi;exact⟨by show (1:Int)<=1+(i:Int); omega,by show 1+(i:Int)<=_; omega⟩
  .obtain ⟨i,hi,rfl⟩:=Ze.mp hs;rw[ZQ] at hi;exact⟨by show (1:Int)<=1+(i:Int); omega,by show 1+(i:Int)<=_; omega⟩
theorem xab.append {H:Hp}{ss ts:List Seat}{qs rs:List Addr} (h:xab H ss qs) (h':xab H ts rs):xab H (ss++ts) (qs++rs):=by
 induction h with
 | nil=>exact h'
 | cons h _ ih=>exact .cons h ih
theorem xab.erase {H:Hp}{ss:List Seat}{qs:List Addr} (h:xab H ss qs) (k:Nat):xab H (ss.eraseIdx k) (qs.eraseIdx k):=by
 induction h generalizing k with
 | nil=>exact .nil
 | cons h r ih =>
  cases k with
  | zero=>exact r
  | succ k=>exact .cons h (ih k)
theorem ok_ab (T:Txt w K mg t):FnOk true P w K mg base (CXo P w) 1 t.f_ab t.d_ab ["_law_height"] (xr4):=by
 refine T.F_ab.okn (k:=0) sc_ab (fun vs H Q E h=>?_) (fun cdv A outer s H vs Q E hr h=>?_)
 .obtain ⟨h',rfl,_⟩:=h;rfl
 .obtain ⟨h',rfl,h⟩:=h;refine⟨_,xn (x0 (xu xf3 (xb0 rfl (xa4 (zs:=["_law_row"]) (ys:=[]) (fr:=[]) (N0:=["_law_height"]) (sc0:=xp s_ab) (by decide +kernel) rfl rfl rfl) (xcm rfl T.n_range (xb (xk) (xb (xu xai (pv 0) (xk)) (xg)))) (fun _ _ _ _ _ ow nd=>xq (i:=0) nd rfl (Zp (ow _ (by simp))) (Jf (ow _ (by simp)))) (xbg (by decide)) (fun _ _ _ _ _=>xbk) (fun _ _ _ _ _=>x4 (xb (x6) (xb (pv 0) (xg))))) (xb0 rfl (xa4 (zs:=["_law_row"]) (ys:=[]) (fr:=[]) (N0:=["_law_height"]) (sc0:=xp s_ab) (by decide +kernel) rfl rfl rfl) (xcm rfl T.n_range (xb (xk) (xb (xu xai (pv 0) (xk)) (xg)))) (fun _ _ _ _ _ ow nd=>xq (i:=0) nd rfl (Zp (ow _ (by simp))) (Jf (ow _ (by simp)))) (xbg (by decide)) (fun _ _ _ _ _=>xbk) (fun _ _ _ _ _=>x4 (xb (x6) (xb (pv 0) (xg))))))),?_⟩;obtain⟨h16,q⟩:=h;refine⟨_,rfl,_,_,rfl,rfl,1,(h':Int)+1,rfl,⟨by decide,by decide,by omega,by omega⟩,fun l1 hl1=>?_⟩;have hh:((h':Int)+1-1).toNat=h':=by omega
  refine xc9 (Z6 (by omega:_<=1000) (by decide)) hl1 (fun i y H5=>∃ q,y=.ref q/\H5 q=some (.tup (xcy (true,1+(i:Int))))) (fun i y H5 H6 tp z=>let ⟨q,e,f⟩:=z; ⟨q,e,tp _ _ f⟩) (fun i H5 hi s5 N hN=>?_) (fun ys H5 s5 e5 ly fy=>?_)
  .exact ⟨_,rfl,(by show 2<=sizeLine; decide),fun p hp=>hN _ _ (xo (Same.refl _) hp) ⟨p,rfl,xf⟩⟩
  rw[hh] at ly;obtain⟨rs1,rfl,sl1⟩:=xab.pick (ss:=xaz true h') (by rw[ly]; unfold xaz; rw[Za,Zs]) (fun j y s hy hs=>by
   obtain⟨q,e,f⟩:=fy j y hy;unfold xaz at hs;rw[Zg,Zk] at hs;obtain⟨i,hi,rfl⟩:=hs;have:i=j:=by
    have z:=(Zi.mp hi).2;rw[Qp] at z;exact z.symm
   subst this;exact⟨q,e,f⟩)
  refine⟨_,rfl,_,_,rfl,rfl,1,(h':Int)+1,rfl,⟨by decide,by decide,by omega,by omega⟩,fun l2 hl2=>?_⟩;refine xc9 (Z6 (by omega:_<=1000) (by decide)) hl2 (fun i y H6=>∃ q,y=.ref q/\H6 q=some (.tup (xcy (false,1+(i:Int))))) (fun i y H5 H6 tp z=>let ⟨q,e,f⟩:=z; ⟨q,e,tp _ _ f⟩) (fun i H6 hi s6 N hN=>?_) (fun ys2 H6 s6 e6 ly2 fy2=>?_)
  .exact ⟨_,rfl,(by show 2<=sizeLine; decide),fun p hp=>hN _ _ (xo (Same.refl _) hp) ⟨p,rfl,xf⟩⟩
  rw[hh] at ly2;obtain⟨rs2,rfl,sl2⟩:=xab.pick (ss:=xaz false h') (by rw[ly2]; unfold xaz; rw[Za,Zs]) (fun j y s hy hs=>by
   obtain⟨q,e,f⟩:=fy2 j y hy;unfold xaz at hs;rw[Zg,Zk] at hs;obtain⟨i,hi,rfl⟩:=hs;have:i=j:=by
    have z:=(Zi.mp hi).2;rw[Qp] at z;exact z.symm
   subst this;exact⟨q,e,f⟩)
  refine⟨l1,l2,_,_,rfl,rfl,s6 _ _ e5,e6,?_,fun l3 hl3=>?_⟩
  .rw [ly,ly2];exact Zy (by omega:_<=1000) (by decide)
  rw[<- ZB];have s7:Same H6 (upd H6 l3 (.lst ((rs1++rs2).map V.ref))):=xo (Same.refl _) hl3;have g7:upd H6 l3 (.lst ((rs1++rs2).map V.ref)) l3=some (.lst ((rs1++rs2).map V.ref)):=xf;revert s7 g7;generalize upd H6 l3 (.lst ((rs1++rs2).map V.ref))=H7;intro s7 g7;exact q H7 l3 _ _ rfl (xp2 h' h16) ((s5.trans s6).trans s7) ((s5.trans s6).free hl3) g7 (((sl1.keep (Same.tups s6)).append sl2).keep (Same.tups s7))
structure xfs (w h:Int) (ps:List Pt) (prs:List Pr):Prop where
 ok:∀ p∈prs,PrOk ps w h p
 nd:(prs.map (·.2)).Nodup
 len:prs.length<=12
 nn:(prs.map fun p=>p.1.nm).Nodup
inductive xrx (w:Nat) (vs:List V) (H:Hp) (Q:VK) (_:XK):Prop
 | mk (c:Int) (lp ls:Addr) (h:Nat) (ps:List Pt) (ss:List Seat) (qs rs:List Addr) (e_:vs=[.int c,.ref lp,.int (h:Int),.ref ls]) (r_:h<=16/\H lp=some (.lst (qs.map V.ref))/\PtsL H ps qs/\xdn (w:Int) (h:Int) ps/\H ls=some (.lst (rs.map V.ref))/\xab H ss rs/\SsOk (h:Int) ss/\∀ H' l prs ts,xfs (w:Int) (h:Int) ps prs->Same H H'->H l=none->H' l=some (.lst (ts.map V.ref))->PrsL H' prs ts->Q (.ref l) H')
def xqx:Sp:=fun vs H Q E=>∃ w:Nat,xrx w vs H Q E
theorem xme {ps:List Pt} (nd:(ps.map (·.nm)).Nodup) {p:Pt} (h:p∈ps):ps.find? (fun z=>decide (z.nm=p.nm))=some p:=by
 induction ps with
 | nil=>exact nomatch h
 | cons x r ih =>
  rw[Zx,Jd] at nd;rcases Z1.mp h with rfl|h
  .rw [QF (by simp)]
  .rw [QG,ih nd.2 h];intro e;exact nd.1 (Ze.mpr ⟨p,h,(of_decide_eq_true e).symm⟩)
theorem xqf {h:Int}{ss:List Seat} (o:SsOk h ss) {k:Nat}{s:Seat} (e:ss[k]?=some s):SsOk h (ss.eraseIdx k)/\s∉ss.eraseIdx k/\(∀ z∈ss.eraseIdx k,z∈ss)/\s∈ss:=by
 obtain⟨a,b,c,d⟩:=xel o.1 e;exact⟨⟨a,Zy (Q6 _ _) o.2.1,fun z hz=>o.2.2 z (c z hz)⟩,b,c,d⟩
theorem xqv {K:Zd}{H:Hp}{l l2:Addr}{ss:List Seat}{rs:List Addr} (sl:xab H ss rs) (h:H l=some (.lst (rs.map V.ref))) (h2:H l2=some (.lst [])):∃(n m:Nat) (d e:DV),Dv K H n (.ref l) d/\Dv K H m (.ref l2) e/\n<=9/\m<=9/\(!dEq d e)=!decide (ss=[]):=by
 refine⟨2,1,_,.lst [],sl.dv h,.lst (SqL.of h2) rfl (xew (xs:=[]) rfl),by decide,by decide,?_⟩;cases ss with
 | nil=>rfl
 | cons x r=>rfl
def IPr (H:Hp) (lp ls lf l2:Addr) (c:Int) (w h:Nat) (ps:List Pt) (k:Nat) (Z:L2.St) (H5:Hp):Prop:=∃(ss:List Seat) (rs:List Addr) (prs:List Pr) (ts:List Addr) (v6 v7 v8 v9:Option V),Z=[some (.int c),some (.ref lp),some (.int (h:Int)),some (.ref ls),some (.ref lf),some (.ref l2),v6,v7,v8,v9] /\
 Same H H5/\H5 lf=some (.lst (rs.map V.ref))/\xab H5 ss rs/\SsOk (h:Int) ss/\H5 l2=some (.lst (ts.map V.ref))/\PrsL H5 prs ts/\(∀ p∈prs,PrOk ps (w:Int) (h:Int) p)/\prs.length<=k/\(prs.map (·.2)).Nodup/\(∀ p∈prs,p.2∉ss)/\List.Sublist (prs.map (·.1)) (ps.take k)
theorem xtp {ps:List Pt} (nd:(ps.map (·.nm)).Nodup) {prs:List Pr}{k:Nat} (h:List.Sublist (prs.map (·.1)) (ps.take k)):(prs.map fun p=>p.1.nm).Nodup:=by
 have z:=(h.trans (List.take_sublist _ _)).map (·.nm);rw[Zv] at z;exact z.nodup nd
theorem PrsL.rev {H:Hp}{ps:List Pr}{qs:List Addr} (h:PrsL H ps qs):PrsL H ps.reverse qs.reverse:=by
 induction h with
 | nil=>exact .nil
 | cons h _ ih =>
  rw[List.reverse_cons,List.reverse_cons];exact ih.snoc h
theorem ok_aw (T:Txt w K mg t):FnOk true P w K mg base (CXo P w) 2 t.f_aw t.d_aw ["_law_cell", "_law_points_here", "_law_height", "_law_seats_here"] (xqx):=by
 refine T.F_aw.okn (k:=1) sc_aw (fun vs H Q E h=>?_) (fun cdv A outer s H vs Q E hr h=>?_)
 .obtain ⟨w',c,lp,ls,h',ps,ss,qs,rs,rfl,_⟩:=h;rfl
 .obtain ⟨w',c,lp,ls,h',ps,ss,qs,rs,rfl,h⟩:=h;refine⟨_,xj (xx (i:=4) sc_aw.nd rfl (Zp rfl) (xb5 xfq rfl T.n_list boot_list (xb (pv 3) (xg))))
   (xj (xbx (xag (x9 xbr (xu xar (xt (ok_e T) (hmm hr) rfl T.g_e T.F_e.kp T.b_e .nil xm (xb (pv 0) (xb (xk) (xg)))) (xk)) (xk) (x8 _)) (xn (xx (i:=4) sc_aw.nd rfl (Zp rfl) (xt (ok_ab T) (hmm hr) rfl T.g_ab T.F_ab.kp T.b_ab .nil xm (xb (pv 2) (xg))))) (x5)))
   (xj (xx (i:=5) sc_aw.nd rfl (Zp rfl) (xa8 (xg)))
   (xj (xa0 ZG rfl (xcp rfl T.n_enumerate (xb (pv 1) (xg))) (xan rfl (xr (xq (i:=6) sc_aw.nd rfl (Zp rfl)) (xr (xq (i:=7) sc_aw.nd rfl (Zp rfl)) (xad)))) (xn (xbx (xag (PW.pt (xkg (x9 (xfw (xb1 hr)) (pv 4) (xa8 (xg)) (x8 _)) (xio (x9 xwn (xu xar (xt (ok_e T) (hmm hr) rfl T.g_e T.F_e.kp T.b_e .nil xm (xb (pv 0) (xb (xu xai (xk) (pv 6)) (xg)))) (xk)) (xk) (x8 _))))) (xj (xcx (xcl ZY YR YQ xff (pv 4) (xb (xu xar (xt (ok_e T) (hmm hr) rfl T.g_e T.F_e.kp T.b_e .nil xm (xb (pv 0) (xb (xu xai (xk) (pv 6)) (xg)))) (xw xbd rfl T.n_len J0 (xb (pv 4) (xg)))) (xg))) (xan rfl (xr (xq (i:=8) sc_aw.nd rfl (Zp rfl)) (xr (xq (i:=9) sc_aw.nd rfl (Zp rfl)) (xad)))))
   (xn (xay (xcl ZY Yb Ya xc1 (pv 5) (xb (x4 (xb (xax xbj (pv 7) (xk) (fun _ _=>rfl)) (xb (pv 8) (xb (pv 9) (xg))))) (xg)))))) (x5)))))
   (xj (xbx (xag (x9 xbr (xu xar (xt (ok_e T) (hmm hr) rfl T.g_e T.F_e.kp T.b_e .nil xm (xb (pv 0) (xb (xk) (xg)))) (xk)) (xk) (x8 _)) (xn (x0 (xnd rfl rfl T.n_list rfl T.n_reversed (xb (pv 5) (xg))))) (x5)))
   (xn (x0 (pv 5))))))),?_⟩
  obtain⟨h16,hlp,ptl,pok,hls,stl,sok,q⟩:=h;have pll:=ptl.len;have ple:=pok.le;refine⟨_,rfl,ls,_,rfl,.inl (SqL.of hls),fun lf0 hlf0=>?_⟩;have s1:Same H (upd H lf0 (.lst (rs.map V.ref))):=xo (Same.refl _) hlf0;have g1:upd H lf0 (.lst (rs.map V.ref)) lf0=some (.lst (rs.map V.ref)):=xf;revert s1 g1;generalize upd H lf0 (.lst (rs.map V.ref))=H1;intro s1 g1;refine⟨fun Z H5=>∃(lf:Addr) (ss':List Seat) (rs':List Addr),Z=[some (.int c),some (.ref lp),some (.int (h':Int)),some (.ref ls),some (.ref lf),none,none,none,none,none]/\Same H H5/\H lf=none/\H5 lf=some (.lst (rs'.map V.ref))/\xab H5 ss' rs'/\SsOk (h':Int) ss',?_,?_⟩
  .refine ⟨_,rfl,c,40,rfl,fun m _ _=>⟨_,_,rfl,rfl,(by show (0:Int)<2; decide),rfl,_,rfl,ite2 (fun y=>?_) (fun y=>⟨lf0,ss,rs,rfl,s1,hlf0,g1,stl.keep (Same.tups s1),sok⟩)⟩⟩;exact⟨_,rfl,h',rfl,h16,fun H5 lf ss' rs' _ o5 s5 f5 e5 sl5=>⟨lf,ss',rs',rfl,s1.trans s5,s1.free f5,e5,sl5,o5⟩⟩
  rintro Z H5 ⟨lf,ss5,rs5,rfl,s5,flf,e5,sl5,o5⟩;refine⟨(by show 0<=sizeLine; decide),fun l2 hl2=>?_⟩;have s6:Same H5 (upd H5 l2 (.lst [])):=xo (Same.refl _) hl2;have g6:upd H5 l2 (.lst []) l2=some (.lst []):=xf;revert s6 g6;generalize upd H5 l2 (.lst [])=H6;intro s6 g6;have nfl:lf≠l2:=xi e5 hl2;have fl2:=s5.free hl2;refine⟨_,rfl,lp,_,rfl,SqL.of (s6 _ _ (s5 _ _ hlp)),?_⟩;refine xd9 (xs:=qs.map V.ref) (Pv:=IPr H lp ls lf l2 c w' h' ps) ⟨ss5,rs5,[],[],_,_,_,_,rfl,s5.trans s6,s6 _ _ e5,sl5.keep (Same.tups s6),o5,g6,.nil,fun _ z=>(nomatch z),Zj _,.nil,fun _ z=>(nomatch z),List.nil_sublist _⟩ ?_ ?_ ?_
  .rintro i Z H7 _ ⟨_,_,_,_,_,_,_,_,rfl,s7,_⟩;exact SqL.of (s7 _ _ hlp)
  .rintro k x p Z H7 hx hp ⟨ss7,rs7,prs,ts,v6,v7,v8,v9,rfl,s7,e7,sl7,o7,t7,pr7,ok7,k7,nd7,no7,sb7⟩;rw[Zg,Zk] at hx;obtain⟨qa,hqa,rfl⟩:=hx;obtain⟨pt,hpt,hpq⟩:=ptl.get hqa;have k12:k<12:=by have:=(Zi.mp hpt).1; omega
   have s8:Same H7 (upd H7 p (.tup [.int (k:Int),.ref qa])):=xo (Same.refl _) hp;have g8:upd H7 p (.tup [.int (k:Int),.ref qa]) p=some (.tup [.int (k:Int),.ref qa]):=xf;revert s8 g8;generalize upd H7 p (.tup [.int (k:Int),.ref qa])=H8;intro s8 g8;refine⟨p,_,rfl,SqT.of g8,rfl,_,_,rfl,_,_,rfl,rfl,?_⟩;refine⟨_,?_,fun _ _ z=>z⟩;refine⟨_,rfl,(by show 0<=sizeLine; decide),fun z1 hz1=>?_⟩;have s9:Same H8 (upd H8 z1 (.lst [])):=xo (Same.refl _) hz1;have g9:upd H8 z1 (.lst []) z1=some (.lst []):=xf;revert s9 g9;generalize upd H8 z1 (.lst [])=H9;intro s9 g9;have s79:=s8.trans s9;have e9:=s79 _ _ e7;have sl9:=sl7.keep (Same.tups s79);obtain⟨n,m,d,e,d1,d2,n9,m9,ev⟩:=xqv (K:=K) sl9 e9 g9;refine⟨n,m,d,e,d1,d2,n9,m9,_,rfl,?_⟩;rw[ev];have skip:IPr H lp ls lf l2 c w' h' ps (k+1) [some (.int c),some (.ref lp),some (.int (h':Int)),some (.ref ls),some (.ref lf),some (.ref l2),some (.int (k:Int)),some (.ref qa),v8,v9] H9:=⟨ss7,rs7,prs,ts,_,_,_,_,rfl,s7.trans s79,e9,sl9,o7,s79 _ _ t7,pr7.keep (Same.tups s79),ok7,by omega,nd7,no7,xqe sb7⟩
   refine ite2 (fun y1=>?_) (fun y1=>skip);refine⟨_,rfl,_,rfl,_,_,rfl,rfl,c,_,rfl,fun m1 _ _=>⟨_,_,rfl,rfl,(by show (0:Int)<5; decide),_,_,rfl,rfl,_,rfl,ite2 (fun y2=>?_) (fun y2=>skip)⟩⟩;have sne:rs7≠[]:=fun z=>by
    have l:=sl7.len;rw[z] at l;have:ss7=[]:=YH.mp l.symm;rw[this] at y1;exact absurd y1 (by decide)
   have r32:rs7.length<=32:=by rw[sl7.len]; exact o7.2.1
   refine⟨_,rfl,.inl ⟨rfl,_,SqL.of e9⟩,_,rfl,_,rfl,_,_,rfl,rfl,c,_,rfl,fun m2 _ _=>?_⟩;obtain⟨j,vq,gj,a1,a2,a3,a4⟩:=xhn m2 (xs:=rs7.map V.ref) (fun z=>sne (Qd.mp z)) (by rw[Za]; omega);rw[Zg,Zk] at gj;obtain⟨qs9,hj,rfl⟩:=gj;obtain⟨⟨b,r⟩,hs,hsq⟩:=sl9.get hj;obtain⟨o10,n10,i10,m10⟩:=xqf o7 hs;refine⟨_,rfl,lf,_,rfl,.inl (SqL.of e9),_,_,rfl,rfl,a4,lf,_,_,j,.ref qs9,rfl,rfl,e9,a1,a2,a3,(by rw[Zg,hj]; rfl),?_⟩;have ee:(rs7.map V.ref).eraseIdx j=(rs7.eraseIdx j).map V.ref:=by
    rw[YN,YN,ZB,List.map_take,List.map_drop]
   rw[ee];have k10:∀ c u,c≠lf->H9 c=some u->upd H9 lf (.lst ((rs7.eraseIdx j).map V.ref)) c=some u:=fun c u nc e=>by rw[xh nc]; exact e
   have g10:upd H9 lf (.lst ((rs7.eraseIdx j).map V.ref)) lf=some (.lst ((rs7.eraseIdx j).map V.ref)):=xf;revert k10 g10;generalize upd H9 lf (.lst ((rs7.eraseIdx j).map V.ref))=H10;intro k10 g10;have t10:Tups H9 H10:=fun c xs e=>k10 _ _ (xae e e9 (fun z=>nomatch z)) e;have s010:Same H H10:=fun c u e=>k10 _ _ (xi e flf) (s79 _ _ (s7 _ _ e));refine⟨qs9,_,rfl,SqT.of (t10 _ _ hsq),rfl,_,_,rfl,_,_,rfl,rfl,?_⟩;have e10t:=k10 _ _ (ZI nfl) (s79 _ _ t7);refine⟨_,rfl,.inl ⟨rfl,_,SqL.of e10t⟩,_,rfl,qa,_,0,.str pt.nm,rfl,rfl,SqT.of (s010 _ _ hpq),rfl,_,rfl,_,rfl,(by show 3<=sizeLine; decide),fun ta hta=>?_⟩;have s11:Same H10 (upd H10 ta (.tup [.str pt.nm,.str (xaf b),.int r])):=xo (Same.refl _) hta;have g11:upd H10 ta (.tup [.str pt.nm,.str (xaf b),.int r]) ta=some (.tup [.str pt.nm,.str (xaf b),.int r]):=xf;revert s11 g11;generalize upd H10 ta (.tup [.str pt.nm,.str (xaf b),.int r])=H11;intro s11 g11;have g11:H11 ta=some (.tup (prV (pt,b,r))):=g11;refine⟨l2,_,_,rfl,rfl,s11 _ _ e10t,?_,?_⟩
   .rw [Za,pr7.len];exact Z6 (by omega:_<=1000) (by decide)
   have e11t:=s11 _ _ e10t;have kt:Tups H11 (upd H11 l2 (.lst (ts.map V.ref++[.ref ta]))):=fun c xs e=>by rw[xh (xae e e11t (fun z=>nomatch z))]; exact e
   have pmem:=Zn hpt;have po:=pok.ok pt pmem;refine⟨ss7.eraseIdx j,rs7.eraseIdx j,prs++[(pt,b,r)],ts++[ta],_,_,_,_,rfl,fun c u e=>by rw[xh (xi e fl2)]; exact s11 _ _ (s010 _ _ e),by rw[xh nfl]; exact s11 _ _ g10,(((sl9.erase j).keep t10).keep (Same.tups s11)).keep kt,o10,by rw[xf,ZB]; rfl,PrsL.snoc ((((pr7.keep (Same.tups s79)).keep t10).keep (Same.tups s11)).keep kt) (kt _ _ g11),fun z hz=>?_,by rw[Zo,JQ]; omega,xgk nd7 fun z hz e=>?_,fun z hz=>?_,by rw[ZB]; exact xpr sb7 hpt⟩
   .rcases Z9.mp hz with hz|hz
    .exact ok7 z hz
    .rw [Z0.mp hz];exact⟨po.nm,xme pok.nn pmem,(o7.2.2 _ m10).1,(o7.2.2 _ m10).2,po.x1,po.x2,po.y1,po.y2⟩
   .exact no7 z hz (e▸m10)
   .rcases Z9.mp hz with hz|hz
    .exact fun y=>no7 z hz (i10 _ y)
    .rw [Z0.mp hz];exact n10
  .rintro Z H7 ⟨ss7,rs7,prs,ts,v6,v7,v8,v9,rfl,s7,e7,sl7,o7,t7,pr7,ok7,k7,nd7,no7,sb7⟩;have nn7:=xtp pok.nn sb7;rw[Za,pll] at k7;refine⟨fun Z H8=>H7=H8/\Z=[some (.int c),some (.ref lp),some (.int (h':Int)),some (.ref ls),some (.ref lf),some (.ref l2),v6,v7,v8,v9],?_,?_⟩
   .refine ⟨_,rfl,c,39,rfl,fun m _ _=>⟨_,_,rfl,rfl,(by show (0:Int)<2; decide),rfl,_,rfl,ite2 (fun y=>?_) (fun y=>⟨rfl,rfl⟩)⟩⟩;refine⟨_,rfl,l2,_,rfl,SqL.of t7,fun l3 hl3=>?_⟩;rw[<- List.map_reverse];have s9:Same H7 (upd H7 l3 (.lst (ts.reverse.map V.ref))):=xo (Same.refl _) hl3;have g9:upd H7 l3 (.lst (ts.reverse.map V.ref)) l3=some (.lst (ts.reverse.map V.ref)):=xf;revert s9 g9;generalize upd H7 l3 (.lst (ts.reverse.map V.ref))=H9;intro s9 g9;exact q H9 l3 prs.reverse ts.reverse ⟨fun p hp=>ok7 p (List.mem_reverse.mp hp),by rw[List.map_reverse]; exact (List.reverse_perm _).nodup_iff.mpr nd7,by rw[Wk]; omega,by rw[List.map_reverse]; exact (List.reverse_perm _).nodup_iff.mpr nn7⟩ (s7.trans s9) (s7.free hl3) g9 (pr7.rev.keep (Same.tups s9))
   rintro Z _ ⟨rfl,rfl⟩;exact⟨_,rfl,q H7 l2 prs ts ⟨ok7,nd7,by omega,nn7⟩ s7 fl2 t7 pr7⟩
inductive xu8 (vs:List V) (H:Hp) (Q:VK) (_:XK):Prop
 | mk (w:Int) (b:Bool) (e_:vs=[.int w,.str (xaf b)]) (r_:∀ H',Same H H'->Q (.int (Drw.rim w b)) H')
inductive CsL (H:Hp):List (Cl × Str)->List Addr->Prop
 | nil:CsL H [] []
 | cons {c:Cl × Str}{q k:Addr}{cs:List (Cl × Str)}{qs:List Addr} (h:H q=some (.tup [.ref k,.str c.2])) (hk:H k=some (.tup [.int c.1.1,.int c.1.2])) (r:CsL H cs qs):CsL H (c::cs) (q::qs)
theorem CsL.keep {H H':Hp} (s:Tups H H') {cs:List (Cl × Str)}{qs:List Addr} (h:CsL H cs qs):CsL H' cs qs:=by
 induction h with
 | nil=>exact .nil
 | cons h hk _ ih=>exact .cons (s _ _ h) (s _ _ hk) ih
theorem CsL.len {H:Hp}{cs:List (Cl × Str)}{qs:List Addr} (h:CsL H cs qs):qs.length=cs.length:=by
 induction h with
 | nil=>rfl
 | cons _ _ _ ih=>simp[ih]
theorem CsL.append {H:Hp}{cs ds:List (Cl × Str)}{qs rs:List Addr} (h:CsL H cs qs) (h':CsL H ds rs):CsL H (cs++ds) (qs++rs):=by
 induction h with
 | nil=>exact h'
 | cons h hk _ ih=>exact .cons h hk ih
theorem CsL.get {H:Hp}{cs:List (Cl × Str)}{qs:List Addr} (h:CsL H cs qs) {i:Nat}{q:Addr} (e:qs[i]?=some q):∃ c k,cs[i]?=some c/\H q=some (.tup [.ref k,.str c.2])/\H k=some (.tup [.int c.1.1,.int c.1.2]):=by
 induction h generalizing i with
 | nil=>simp at e
 | @cons c q' k cs qs h hk _ ih =>
  cases i with
  | zero =>
   simp at e;subst e;exact⟨c,k,rfl,h,hk⟩
  | succ j=>exact ih (by simpa using e)
theorem CsL.pick {H:Hp}:∀{cs:List (Cl × Str)}{ys:List V},ys.length=cs.length->(∀(j:Nat) (y:V),ys[j]?=some y->∃ q k c,y=.ref q/\cs[j]?=some c/\H q=some (.tup [.ref k,.str c.2])/\H k=some (.tup [.int c.1.1,.int c.1.2]))->∃ rs:List Addr,ys=rs.map V.ref/\CsL H cs rs
 | [],[],_,_=>⟨[],rfl,.nil⟩
 | [],_::_,h,_=>by cases h
 | _::_,[],h,_=>by cases h
 | c::cs,y::ys,h,f=>by
  obtain⟨q,k,c',rfl,e,h1,h2⟩:=f 0 y rfl;cases e;obtain⟨rs,e1,e2⟩:=CsL.pick (cs:=cs) (ys:=ys) (by simpa using h) (fun j z hz=>f (j+1) z hz);exact⟨q::rs,by rw[e1]; rfl,.cons h1 h2 e2⟩
def xav (w:Int) (p:Pr):List (Cl × Str):=Drw.ledL (Zb "+") (Zb "|") (Zb "-") w p.1.x p.1.y p.2.1 p.2.2
inductive xt7 (vs:List V) (H:Hp) (Q:VK) (_:XK):Prop
 | mk (w h:Nat) (p:Pr) (e_:vs=[.int (Drw.rim w p.2.1),.int p.1.x,.int p.1.y,.int p.2.2]) (r_:(1<=p.1.x/\p.1.x<=w/\1<=p.1.y/\p.1.y<=h/\1<=p.2.2/\p.2.2<=h/\w<=30/\h<=16)/\∀ H' l qs,Same H H'->H l=none->H' l=some (.lst (qs.map V.ref))->CsL H' (xav w p) qs->Q (.ref l) H')
theorem xq6 (i j:Int):(if j<i then j else i)=min i j:=by
 rw[Int.min_def];split<;>split<;>omega
theorem xro (i j:Int):(if j>i then j else i)=max i j:=by
 rw[Int.max_def];split<;>split<;>omega
theorem xq7 {lo hi:Int}{i:Nat} (h:i<(hi-lo).toNat):(Drw.rg lo hi)[i]?=some (lo+(i:Int)):=by
 unfold Drw.rg;rw[Zg,Jn h];rfl
theorem xh1 (lo hi:Int):(Drw.rg lo hi).length=(hi-lo).toNat:=by
 unfold Drw.rg;rw[Za,Zs]
theorem ok_a4 (T:Txt w K mg t):FnOk true P w K mg base (CXo P w) 1 t.f_a4 t.d_a4 ["_law_width", "_law_side"] (xu8):=by
 refine T.F_a4.okn (k:=0) sc_a4 (fun vs H Q E h=>?_) (fun cdv A outer s H vs Q E hr h=>?_)
 .obtain ⟨w',b,rfl,_⟩:=h;rfl
 .obtain ⟨w',b,rfl,h⟩:=h;refine⟨_,xn (x0 (xd1 (xa5 hr) (xsc (xkp (x6) (xk) (xkp (x6) (xu xai (pv 0) (xk)) (xso))) rfl rfl (by simp) (by decide)) (pv 1) (fun _ _=>rfl))),?_⟩;refine fun p hp=>?_;refine⟨_,rfl,_,_,rfl,rfl,xf,[(.inr (Zb "left"),.int 0),(.inr (Zb "right"),.int (w'+1))],rfl,(by show 2<=15; decide),?_⟩;have e:upd (upd H p (.dK [])) p (.dK (xd6 [] [(.inr (Zb "left"),.int 0),(.inr (Zb "right"),.int (w'+1))])) p=some (.dK [((.inr (Zb "left"):Key),V.int 0),(.inr (Zb "right"),.int (w'+1))]):=xf;have s1:Same H (upd (upd H p (.dK [])) p (.dK (xd6 [] [(.inr (Zb "left"),.int 0),(.inr (Zb "right"),.int (w'+1))]))):=fun c u z=>by rw[xh (xi z hp),xh (xi z hp)]; exact z
  refine⟨_,rfl,p,.int (Drw.rim w' b),rfl,?_,h _ s1⟩;have g:=DGet.k (k:=.inr (xaf b)) e;cases b
  .exact g
  .exact g
theorem ok_ax (T:Txt w K mg t):FnOk true P w K mg base (CXo P w) 1 t.f_ax t.d_ax ["_law_rim_here", "_law_x", "_law_y", "_law_row"] (xt7):=by
 refine T.F_ax.okn (k:=0) sc_ax (fun vs H Q E h=>?_) (fun cdv A outer s H vs Q E hr h=>?_)
 .obtain ⟨w',h',p,rfl,_⟩:=h;rfl
 .obtain ⟨w',h',p,rfl,h⟩:=h;refine⟨_,xj (xcc rfl (xa4 (zs:=["_law_at"]) (ys:=["_law_x"]) (fr:=[1]) (N0:=["_law_rim_here", "_law_x", "_law_y", "_law_row", "_law_found"]) (sc0:=xp s_ax) (by decide +kernel) rfl rfl rfl) (xcm rfl T.n_range (xb (xu xai (xw (xek rfl) rfl T.n_min boot_min (xb (pv 2) (xb (pv 3) (xg)))) (xk)) (xb (xw (xja rfl) rfl T.n_max boot_max (xb (pv 2) (xb (pv 3) (xg)))) (xg)))) (fun _ _ _ _ _ ow nd=>xq (i:=0) nd rfl (Zp (ow _ (by simp))) (Jf (ow _ (by simp)))) (xbg (by decide)) (fun _ _ _ _ _=>xbk) (fun _ _ _ _ _=>x4 (xb (x4 (xb (pv 1) (xb (pv 0) (xg)))) (xb (x6) (xg)))) (j:=4) rfl (Zp rfl))
   (xj (xbx (xag (x9 xge (pv 3) (pv 2) (x8 _)) (xn (xay (xcl ZY Yb Ya xc1 (pv 4) (xb (x4 (xb (x4 (xb (pv 1) (xb (pv 3) (xg)))) (xb (x6) (xg)))) (xg))))) (x5)))
   (xn (x0 (xu xf3 (pv 4) (xb0 rfl (xa4 (zs:=["_law_at"]) (ys:=["_law_row"]) (fr:=[3]) (N0:=["_law_rim_here", "_law_x", "_law_y", "_law_row", "_law_found"]) (sc0:=xp s_ax) (by decide +kernel) rfl rfl rfl) (xcm rfl T.n_range (xb (xu xai (xw (xek rfl) rfl T.n_min boot_min (xb (pv 1) (xb (pv 0) (xg)))) (xk)) (xb (xw (xja rfl) rfl T.n_max boot_max (xb (pv 1) (xb (pv 0) (xg)))) (xg)))) (fun _ _ _ _ _ ow nd=>xq (i:=0) nd rfl (Zp (ow _ (by simp))) (Jf (ow _ (by simp)))) (xbg (by decide)) (fun _ _ _ _ _=>xbk) (fun _ _ _ _ _=>x4 (xb (x4 (xb (pv 0) (xb (pv 1) (xg)))) (xb (x6) (xg))))))))),?_⟩
  obtain⟨⟨x1,x2,y1,y2,r1,r2,w2,h2⟩,q⟩:=h;obtain⟨pt,b,r⟩:=p;have x1:1<=pt.x:=x1;have x2:pt.x<=w':=x2;have y1:1<=pt.y:=y1;have y2:pt.y<=h':=y2;have r1:1<=r:=r1;have r2:r<=h':=r2;have rb:Drw.rim w' b=0\/Drw.rim w' b=(w':Int)+1:=by cases b; exact .inr rfl; exact .inl rfl
  refine⟨_,rfl,_,rfl,_,_,rfl,_,_,rfl,rfl,_,rfl,_,rfl,_,_,rfl,min pt.y r+1,max pt.y r,(by show [V.int ((if r<pt.y then r else pt.y)+1),V.int (if r>pt.y then r else pt.y)]=_; rw[xq6,xro]),⟨by omega,by omega,by omega,by omega⟩,fun l1 hl1=>?_⟩;refine xc9 (Z6 (by omega:_<=1000) (by decide)) hl1 (fun i y H5=>∃ q k c,y=.ref q/\((Drw.rg (min pt.y r+1) (max pt.y r)).map fun a=>((pt.x,a),Zb "|"))[i]?=some c/\H5 q=some (.tup [.ref k,.str c.2])/\H5 k=some (.tup [.int c.1.1,.int c.1.2])) (fun i y H5 H6 tp z=>let ⟨q,k,c,e1,e2,e3,e4⟩:=z; ⟨q,k,c,e1,e2,tp _ _ e3,tp _ _ e4⟩) (fun i H5 hi s5 N hN=>?_) (fun ys H5 s5 e5 ly fy=>?_)
  .refine ⟨_,rfl,_,rfl,(by show 2<=sizeLine; decide),fun k hk=>⟨(by show 2<=sizeLine; decide),fun u hu=>hN _ _ (xo (xo (Same.refl _) hk) hu) ⟨u,k,((pt.x,min pt.y r+1+(i:Int)),Zb "|"),rfl,by rw[Zg,xq7 hi]; rfl,xf,?_⟩⟩⟩;rw[xh (xi xf hu)];exact xf
  obtain⟨rs1,rfl,cl1⟩:=CsL.pick (by rw[ly,Za,xh1]) fy;have ul:rs1.length<=20:=by
   rw[Za] at ly;omega
  refine⟨fun Z H6=>∃ ds:List Addr,Z=[some (.int (Drw.rim w' b)),some (.int pt.x),some (.int pt.y),some (.int r),some (.ref l1)]/\Same H H6/\H6 l1=some (.lst (ds.map V.ref))/\ds.length<=21/\CsL H6 (((Drw.rg (min pt.y r+1) (max pt.y r)).map fun a=>((pt.x,a),Zb "|"))++(if r≠pt.y then [((pt.x,r),Zb "+")] else [])) ds,?_,?_⟩
  .refine ⟨_,rfl,_,rfl,rfl,_,rfl,ite2 (fun y=>?_) (fun y=>?_)⟩
   .have ne:r≠pt.y:=fun z=>by rw[z] at y; simp at y
    refine⟨_,rfl,.inl ⟨rfl,_,SqL.of e5⟩,_,rfl,_,rfl,(by show 2<=sizeLine; decide),fun k hk=>?_⟩;have s6:Same H5 (upd H5 k (.tup [.int pt.x,.int r])):=xo (Same.refl _) hk;have g6:upd H5 k (.tup [.int pt.x,.int r]) k=some (.tup [.int pt.x,.int r]):=xf;revert s6 g6;generalize upd H5 k (.tup [.int pt.x,.int r])=H6;intro s6 g6;refine⟨(by show 2<=sizeLine; decide),fun u hu=>?_⟩;have s7:Same H6 (upd H6 u (.tup [.ref k,.str (Zb "+")])):=xo (Same.refl _) hu;have g7:upd H6 u (.tup [.ref k,.str (Zb "+")]) u=some (.tup [.ref k,.str (Zb "+")]):=xf;revert s7 g7;generalize upd H6 u (.tup [.ref k,.str (Zb "+")])=H7;intro s7 g7;have e7:=s7 _ _ (s6 _ _ e5);refine⟨l1,_,_,rfl,rfl,e7,?_,?_⟩
    .rw [Za];exact Z6 (by omega:_<=1000) (by decide)
    have kt:Tups H7 (upd H7 l1 (.lst (rs1.map V.ref++[.ref u]))):=fun c xs e=>by rw[xh (xae e e7 (fun z=>nomatch z))]; exact e
    refine⟨rs1++[u],rfl,fun c u e=>by rw[xh (xi e hl1)]; exact s7 _ _ (s6 _ _ (s5 _ _ e)),by rw[xf,ZB]; rfl,by rw[Zo,JQ]; omega,?_⟩;rw[if_pos ne];exact (((cl1.keep (Same.tups s6)).keep (Same.tups s7)).keep kt).append (.cons (kt _ _ g7) (kt _ _ (s7 _ _ g6)) .nil)
   .have ne:¬ r≠pt.y:=fun z=>y (by simp[z]);refine⟨rs1,rfl,s5,e5,by omega,?_⟩;rw[if_neg ne,Jy];exact cl1
  rintro Z H6 ⟨ds,rfl,s6,e6,d21,cl6⟩;refine⟨_,rfl,_,rfl,_,rfl,_,_,rfl,_,_,rfl,rfl,_,rfl,_,rfl,_,_,rfl,min pt.x (Drw.rim w' b)+1,max pt.x (Drw.rim w' b),(by show [V.int ((if Drw.rim w' b<pt.x then Drw.rim w' b else pt.x)+1),V.int (if Drw.rim w' b>pt.x then Drw.rim w' b else pt.x)]=_; rw[xq6,xro]),⟨by omega,by omega,by omega,by omega⟩,fun l2 hl2=>?_⟩;refine xc9 (Z6 (by omega:_<=1000) (by decide)) hl2 (fun i y H5=>∃ q k c,y=.ref q/\((Drw.rg (min pt.x (Drw.rim w' b)+1) (max pt.x (Drw.rim w' b))).map fun a=>((a,r),Zb "-"))[i]?=some c/\H5 q=some (.tup [.ref k,.str c.2])/\H5 k=some (.tup [.int c.1.1,.int c.1.2])) (fun i y H5 H6 tp z=>let ⟨q,k,c,e1,e2,e3,e4⟩:=z; ⟨q,k,c,e1,e2,tp _ _ e3,tp _ _ e4⟩) (fun i H7 hi s7 N hN=>?_) (fun ys H7 s7 e7 ly7 fy7=>?_)
  .refine ⟨_,rfl,_,rfl,(by show 2<=sizeLine; decide),fun k hk=>⟨(by show 2<=sizeLine; decide),fun u hu=>hN _ _ (xo (xo (Same.refl _) hk) hu) ⟨u,k,((min pt.x (Drw.rim w' b)+1+(i:Int),r),Zb "-"),rfl,by rw[Zg,xq7 hi]; rfl,xf,?_⟩⟩⟩;rw[xh (xi xf hu)];exact xf
  obtain⟨rs2,rfl,cl2⟩:=CsL.pick (by rw[ly7,Za,xh1]) fy7;refine⟨l1,l2,_,_,rfl,rfl,s7 _ _ e6,e7,?_,fun l3 hl3=>?_⟩
  .rw [Za,ly7];exact Zy (by omega:_<=1000) (by decide)
  rw[<- ZB];have s8:Same H7 (upd H7 l3 (.lst ((ds++rs2).map V.ref))):=xo (Same.refl _) hl3;have g8:upd H7 l3 (.lst ((ds++rs2).map V.ref)) l3=some (.lst ((ds++rs2).map V.ref)):=xf;revert s8 g8;generalize upd H7 l3 (.lst ((ds++rs2).map V.ref))=H8;intro s8 g8;exact q H8 l3 (ds++rs2) ((s6.trans s7).trans s8) ((s6.trans s7).free hl3) g8 (((cl6.keep (Same.tups s7)).append cl2).keep (Same.tups s8))
def xap (w:Int) (ps:List Pt) (ss:List Seat) (prs:List Pr):Cl->Option Str:=Drw.drawL hsS (prs.flatMap (xav w)) (xbs w ss) (xbe w prs) (ptsS ps)
inductive xs2 (vs:List V) (H:Hp) (Q:VK) (_:XK):Prop
 | mk (w h:Nat) (lp ls l:Addr) (ps:List Pt) (ss:List Seat) (prs:List Pr) (qs rs ts:List Addr) (e_:vs=[.int (w:Int),.int (h:Int),.ref lp,.ref ls,.ref l]) (r_:1<=w/\w<=30/\h<=16/\H lp=some (.lst (qs.map V.ref))/\PtsL H ps qs/\xdn (w:Int) (h:Int) ps/\H ls=some (.lst (rs.map V.ref))/\xab H ss rs/\ss.length<=32/\H l=some (.lst (ts.map V.ref))/\PrsL H prs ts/\xfs (w:Int) (h:Int) ps prs/\∀ H' l',Same H H'->H l'=none->H' l'=some (.lst (xdc w h (xap w ps ss prs)))->Q (.ref l') H')
theorem xp8 {w h:Nat}{p:Pr} (x1:1<=p.1.x) (x2:p.1.x<=w) (y1:1<=p.1.y) (y2:p.1.y<=h) (r1:1<=p.2.2) (r2:p.2.2<=h) (w2:w<=30) (h2:h<=16):(xav w p).length<=50:=by
 unfold xav Drw.ledL;rw[Zo,Zo,Za,Za,xh1,xh1];have rb:Drw.rim w p.2.1=0\/Drw.rim w p.2.1=(w:Int)+1:=by
  unfold Drw.rim;split
  .exact .inl rfl
  .exact .inr rfl
 have c:(if p.2.2≠p.1.y then [((p.1.x,p.2.2),Zb "+")] else ([]:List (Cl × Str))).length<=1:=by
  split
  .exact Zj _
  .exact ZW _
 omega
theorem xlf {w:Int}{ps:List Pt}{ss:List Seat}{prs:List Pr} (h1:∀ p∈ps,isNm p.nm=true) (h2:∀ p∈prs,isNm p.1.nm=true):xm3 (xap w ps ss prs):=by
 have no:∀(c:Cl) (s:Str),(Drw.no:Cl->Option Str) c=some s->s.length<=5:=fun _ _ e=>nomatch e;have n3:=xc2 (P:=fun s=>s.length<=5) (hs:=hsS) (by unfold hsS; decide +kernel) (L:=prs.flatMap (xav w)) no (fun x hx=>by
  obtain⟨p,_,hx⟩:=Yg.mp hx;unfold xav Drw.ledL at hx;rcases Z9.mp hx with hx|hx
  .rcases Z9.mp hx with hx|hx
   .obtain ⟨c,_,rfl⟩:=Ze.mp hx;show (Zb "|").length<=5;decide +kernel
   .split at hx
    .rw [Z0.mp hx];show (Zb "+").length<=5;decide +kernel
    .exact nomatch hx
  .obtain ⟨c,_,rfl⟩:=Ze.mp hx;show (Zb "-").length<=5;decide +kernel)
 have n4:=xbp (P:=fun s=>s.length<=5) (L:=ptsS ps) n3 (fun x hx=>by
  obtain⟨z,hz,rfl⟩:=Ze.mp hx;exact xfh (h1 z hz))
 have n5:=xbp (P:=fun s=>s.length<=5) (L:=xbs w ss) n4 (fun x hx=>by
  obtain⟨z,_,rfl⟩:=Ze.mp hx;show (Zb ".").length<=5;decide +kernel)
 exact xbp (P:=fun s=>s.length<=5) (L:=xbe w prs) n5 (fun x hx=>by
  obtain⟨z,hz,rfl⟩:=Ze.mp hx;exact xfh (h2 z hz))
theorem ok_aj (T:Txt w K mg t):FnOk true P w K mg base (CXo P w) 2 t.f_aj t.d_aj ["_law_width", "_law_height", "_law_points_here", "_law_seats_here", "_law_pairs_here"] (xs2):=by
 refine T.F_aj.okn (k:=1) sc_aj (fun vs H Q E h=>?_) (fun cdv A outer s H vs Q E hr h=>?_)
 .obtain ⟨w',h',lp,ls,l,ps,ss,prs,qs,rs,ts,rfl,_⟩:=h;rfl
 .obtain ⟨w',h',lp,ls,l,ps,ss,prs,qs,rs,ts,rfl,h⟩:=h;refine⟨_,xj (xx (i:=5) sc_aj.nd rfl (Jf rfl) (xg6))
   (xj (xa0 ZG rfl (xat (pv 4)) (xan rfl (xr (xq (i:=6) sc_aj.nd rfl (Jf rfl)) (xr (xq (i:=7) sc_aj.nd rfl (Zp rfl)) (xr (xq (i:=8) sc_aj.nd rfl (Zp rfl)) (xad))))) (xj (xcx (xax xbu (xb0 rfl (xa4 (zs:=["_law_point_here"]) (ys:=["_law_name"]) (fr:=[6]) (N0:=["_law_width", "_law_height", "_law_points_here", "_law_seats_here", "_law_pairs_here", "_law_signs", "_law_name", "_law_side", "_law_row", "_law_x", "_law_y", "_law_cell", "_law_sign", "_law_point_here", "_law_rows"]) (sc0:=xp s_aj) (by decide +kernel) rfl rfl rfl) (xat (pv 2)) (fun _ _ _ _ _ ow nd=>xq (i:=0) nd rfl (Zp (ow _ (by simp))) (Jf (ow _ (by simp)))) (xbg (by decide)) (fun _ _ _ _ _=>xgb (x9 xbr (xax (r:=rIxT K) xbj (pv 0) (xk) (fun _ _=>rfl)) (pv 1) (x8 _))) (fun _ _ _ _ _=>x4 (xb (xax (r:=rIxT K) xbj (pv 0) (xk) (fun _ _=>rfl)) (xb (xax (r:=rIxT K) xbj (pv 0) (xk) (fun _ _=>rfl)) (xg))))) (xk) (fun _ _=>rfl)) (xan rfl (xr (xq (i:=9) sc_aj.nd rfl (Zp rfl)) (xr (xq (i:=10) sc_aj.nd rfl (Jf rfl)) (xad)))))
   (xn (xa0 ZG rfl (xat (xt (ok_ax T) (hmm hr) rfl T.g_ax T.F_ax.kp T.b_ax .nil xm (xb (xt (ok_a4 T) (hmm hr) rfl T.g_a4 T.F_a4.kp T.b_a4 .nil xm (xb (pv 0) (xb (pv 7) (xg)))) (xb (pv 9) (xb (pv 10) (xb (pv 8) (xg))))))) (xan rfl (xr (xq (i:=11) sc_aj.nd rfl (Zp rfl)) (xr (xq (i:=12) sc_aj.nd rfl (Zp rfl)) (xad)))) (xj (xbx (xag (xds (xhr (xa5 hr) (pv 11) (pv 5))) (xn (xx (i:=12) sc_aj.nd rfl (Zp rfl) (x6))) (x5)))
   (xn (xcf (xa5 hr) (pv 5) (pv 11) (pv 12) rfl)))))))
   (xj (xa0 ZG rfl (xat (pv 2)) (xq (i:=13) sc_aj.nd rfl (Zp rfl)) (xn (xcf (xa5 hr) (pv 5) (x4 (xb (xax xbj (pv 13) (xk) (fun _ _=>rfl)) (xb (xax xbj (pv 13) (xk) (fun _ _=>rfl)) (xg)))) (xax xbj (pv 13) (xk) (fun _ _=>rfl)) rfl)))
   (xj (xa0 ZG rfl (xat (pv 3)) (xan rfl (xr (xq (i:=7) sc_aj.nd rfl (Zp rfl)) (xr (xq (i:=8) sc_aj.nd rfl (Zp rfl)) (xad)))) (xn (xcf (xa5 hr) (pv 5) (x4 (xb (xt (ok_a4 T) (hmm hr) rfl T.g_a4 T.F_a4.kp T.b_a4 .nil xm (xb (pv 0) (xb (pv 7) (xg)))) (xb (pv 8) (xg)))) (x6) rfl)))
   (xj (xa0 ZG rfl (xat (pv 4)) (xan rfl (xr (xq (i:=6) sc_aj.nd rfl (Jf rfl)) (xr (xq (i:=7) sc_aj.nd rfl (Zp rfl)) (xr (xq (i:=8) sc_aj.nd rfl (Zp rfl)) (xad))))) (xn (xcf (xa5 hr) (pv 5) (x4 (xb (xt (ok_a4 T) (hmm hr) rfl T.g_a4 T.F_a4.kp T.b_a4 .nil xm (xb (pv 0) (xb (pv 7) (xg)))) (xb (pv 8) (xg)))) (pv 6) rfl)))
   (xj (xx (i:=14) sc_aj.nd rfl (Zp rfl) (xa8 (xg)))
   (xj (xa0 ZG rfl (xcm rfl T.n_range (xb (xk) (xb (xu xai (pv 1) (xk)) (xg)))) (xq (i:=10) sc_aj.nd rfl (Jf rfl)) (xn (xay (xcl ZY Yb Ya xc1 (pv 14) (xb (xcl QC QQ QP xih (x6) (xb (xb0 rfl (xa4 (zs:=["_law_x"]) (ys:=["_law_signs", "_law_y"]) (fr:=[5,10]) (N0:=["_law_width", "_law_height", "_law_points_here", "_law_seats_here", "_law_pairs_here", "_law_signs", "_law_name", "_law_side", "_law_row", "_law_x", "_law_y", "_law_cell", "_law_sign", "_law_point_here", "_law_rows"]) (sc0:=xp s_aj) (by decide +kernel) rfl rfl rfl) (xjg rfl T.n_range (xb (xu xai (pv 0) (xk)) (xg))) (fun _ _ _ _ _ ow nd=>xq (i:=0) nd rfl (Zp (ow _ (by simp))) (Jf (ow _ (by simp)))) (xbg (by decide)) (fun _ _ _ _ _=>xbk) (fun _ _ _ _ _=>xj9 (xa5 hr) (pv 1) (x4 (xb (pv 0) (xb (pv 2) (xg)))) (x6) ⟨rfl,rfl,rfl,rfl⟩)) (xg))) (xg))))))
   (xn (x0 (pv 14))))))))),?_⟩
  obtain⟨w1,w2,h2,hlp,ptl,pok,hls,stl,l32,hl,prl,pal,q⟩:=h;have tll:=prl.len;have qll:=ptl.len;have rll:=stl.len;have t12:=pal.len;have p12:=pok.le;refine fun d hd=>?_;have s1:Same H (upd H d (.dT [])):=xo (Same.refl _) hd;have g1:upd H d (.dT []) d=some (.dT []):=xf;revert s1 g1;generalize upd H d (.dT [])=H1;intro s1 g1;refine⟨_,rfl,l,rfl,⟨_,SqL.of (s1 _ _ hl)⟩,?_⟩;refine xa6 (xs:=ts.map V.ref) (Pv:=fun i Z H5=>∃(v6 v7 v8 v9 v10 v11 v12:Option V),Z=[some (.int (w':Int)),some (.int (h':Int)),some (.ref lp),some (.ref ls),some (.ref l),some (.ref d),v6,v7,v8,v9,v10,v11,v12,none,none]/\Same H H5/\SD H5 d (50*i) (Drw.marks hsS Drw.no ((prs.take i).flatMap (xav w')))) ⟨_,_,_,_,_,_,_,rfl,s1,SD.new g1⟩ ?_ ?_ ?_
  .rintro i Z H5 _ ⟨_,_,_,_,_,_,_,rfl,s5,_⟩;exact SqL.of (s5 _ _ hl)
  .rintro i x Z H5 hx ⟨v6,v7,v8,v9,v10,v11,v12,rfl,s5,sd⟩;rw[Zg,Zk] at hx;obtain⟨qa,hqa,rfl⟩:=hx;obtain⟨⟨pt,b,r⟩,hp,hpq⟩:=prl.get hqa;have ok:=pal.ok _ (Zn hp);have i12:i<12:=by have:=(Zi.mp hp).1; omega
   have xy:1<=pt.x/\pt.x<=w'/\1<=pt.y/\pt.y<=h':=ok.xy;have r1:1<=r:=ok.r1;have r2:r<=h':=ok.r2;have fd:ps.find? (fun z=>decide (z.nm=pt.nm))=some pt:=ok.fd;refine⟨qa,_,rfl,SqT.of (s5 _ _ hpq),rfl,_,_,rfl,_,_,rfl,_,_,rfl,rfl,?_⟩;refine⟨_,rfl,lp,rfl,⟨_,SqL.of (s5 _ _ hlp)⟩,fun l1 hl1=>?_⟩;refine xfe (SqL.of (s5 _ _ hlp)) (by rw[Za]; exact Z6 (by omega:_<=1000) (by decide)) hl1 (fun i=>((ps[i]?).map fun p=>decide (p.nm=pt.nm)).getD false) (fun i y H=>∃ p q,ps[i]?=some p/\p.nm=pt.nm/\y=.ref q/\H q=some (.tup [.int p.x,.int p.y])) (fun i y H H' tp ⟨p,q,e0,e1,e2,e3⟩=>⟨p,q,e0,e1,e2,tp _ _ e3⟩) (fun i z H6 hz s6 N M hN hM=>?_) (fun ys H6 s6 e6 ly fy=>?_)
   .rw [Zg,Zk] at hz;obtain⟨o,ho,rfl⟩:=hz;obtain⟨p,hpp,ep⟩:=ptl.get ho;have ep6:=s6 _ _ (s5 _ _ ep);refine⟨_,rfl,o,_,0,.str p.nm,rfl,rfl,SqT.of ep6,rfl,_,rfl,rfl,_,rfl,ite2 (fun c=>?_) (fun c=>?_)⟩
    .have cn:p.nm=pt.nm:=V.str.inj (of_decide_eq_true c);refine⟨_,rfl,o,_,1,.int p.x,rfl,rfl,SqT.of ep6,rfl,_,rfl,o,_,2,.int p.y,rfl,rfl,SqT.of ep6,rfl,(by show 2<=sizeLine; decide),fun u hu=>?_⟩;exact hN _ _ (xo (Same.refl _) hu) (by rw[hpp]; simpa using cn) ⟨p,u,hpp,cn,rfl,xf⟩
    .have cn:p.nm≠pt.nm:=fun z=>c (decide_eq_true (by rw[z]));exact hM _ (Same.refl _) (by rw[hpp]; simpa using cn)
   have pin:pt∈ps:=Y3 fd;obtain⟨k,hk,ek⟩:=List.getElem_of_mem pin;rw[Za,qll] at ly fy;have kin:k∈(Z3 ps.length).filter fun i=>((ps[i]?).map fun p=>decide (p.nm=pt.nm)).getD false:=by
    rw[ZO,ZQ];refine⟨hk,?_⟩;rw[Zf hk,ek];simp
   have fl:0<((Z3 ps.length).filter fun i=>((ps[i]?).map fun p=>decide (p.nm=pt.nm)).getD false).length:=List.length_pos_iff_exists_mem.mpr ⟨k,kin⟩;have y0:0<ys.length:=by omega
   obtain⟨p',qn,hp',en,ey,eq⟩:=fy 0 _ _ (Zf y0) (Zf fl);have ept:p'=pt:=by
    have z:=xme pok.nn (Zn hp');rw[en,fd] at z;exact (Jw.inj z).symm
   subst ept;refine⟨l1,_,0,.ref qn,rfl,rfl,SqL.of e6,xb9 (j:=0) (by rw[Zf y0,ey]),qn,_,rfl,SqT.of eq,rfl,_,_,rfl,_,_,rfl,rfl,?_⟩;refine⟨_,rfl,_,rfl,(w':Int),b,rfl,fun H7 s7=>?_⟩;refine⟨_,rfl,_,rfl,_,rfl,w',h',(p',b,r),rfl,⟨xy.1,xy.2.1,xy.2.2.1,xy.2.2.2,r1,r2,w2,h2⟩,fun H8 l8 cq s8 f8 e8 cl8=>⟨l8,rfl,⟨_,SqL.of e8⟩,?_⟩⟩;have s58:=(s6.trans s7).trans s8;have sd8:=sd.keep (H':=H8) (fun u e=>s58 _ _ e);have ne8:l8≠d:=by
    obtain⟨kvs,e,_⟩:=sd8;exact xae e8 e (fun z=>nomatch z)
   have cll:=cl8.len;have c50:=xp8 (w:=w') (h:=h') (p:=(p',b,r)) xy.1 xy.2.1 xy.2.2.1 xy.2.2.2 r1 r2 w2 h2;refine xa6 (xs:=cq.map V.ref) (Pv:=fun j Z H9=>∃(v11 v12:Option V),Z=[some (.int (w':Int)),some (.int (h':Int)),some (.ref lp),some (.ref ls),some (.ref l),some (.ref d),some (.str p'.nm),some (.str (xaf b)),some (.int r),some (.int p'.x),some (.int p'.y),v11,v12,none,none]/\(∀ c u,c≠d->H8 c=some u->H9 c=some u)/\SD H9 d (50*i+j) (Drw.marks hsS (Drw.marks hsS Drw.no ((prs.take i).flatMap (xav w'))) ((xav w' (p',b,r)).take j))) ⟨_,_,rfl,fun c u _ e=>e,sd8⟩ ?_ ?_ ?_
   .rintro j Z H9 _ ⟨_,_,rfl,k9,_⟩;exact SqL.of (k9 _ _ ne8 e8)
   .rintro j x Z H9 hx ⟨v11,v12,rfl,k9,sd9⟩;rw[Zg,Zk] at hx;obtain⟨qc,hqc,rfl⟩:=hx;obtain⟨⟨c,sg⟩,kc,hc,hc8,hk8⟩:=cl8.get hqc;have j50:j<50:=by have:=(Zi.mp hqc).1; omega
    have nqc:qc≠d:=by
     obtain⟨kvs,e,_⟩:=sd8;exact xae hc8 e (fun z=>nomatch z)
    have nkc:kc≠d:=by
     obtain⟨kvs,e,_⟩:=sd8;exact xae hk8 e (fun z=>nomatch z)
    have hk9:=k9 _ _ nkc hk8;have stp:∀ m:Cl->Option Str,Drw.marks hsS m ((xav w' (p',b,r)).take (j+1))=Drw.mark1 hsS (Drw.marks hsS m ((xav w' (p',b,r)).take j)) c sg:=fun m=>by
     rw[ZV,hc];unfold Drw.marks;rw[Ys];rfl
    refine⟨qc,_,rfl,SqT.of (k9 _ _ nqc hc8),rfl,_,_,rfl,_,_,rfl,rfl,?_⟩;refine⟨fun Z H10=>H9=H10/\Z=[some (.int (w':Int)),some (.int (h':Int)),some (.ref lp),some (.ref ls),some (.ref l),some (.ref d),some (.str p'.nm),some (.str (xaf b)),some (.int r),some (.int p'.x),some (.int p'.y),some (.ref kc),some (.str (if (Drw.marks hsS (Drw.marks hsS Drw.no ((prs.take i).flatMap (xav w'))) ((xav w' (p',b,r)).take j) c).isSome then hsS else sg)),none,none],?_,?_⟩
    .refine ⟨_,rfl,_,rfl,d,_,rfl,sd9.get hk9,_,rfl,ite2 (fun z=>?_) (fun z=>?_)⟩
     .rw [JH] at z;rw[if_pos z];exact⟨rfl,rfl⟩
     .rw [JH] at z;rw[if_neg z];exact⟨rfl,rfl⟩
    rintro Z _ ⟨rfl,rfl⟩;obtain⟨H10,dput,sd10,k10,_⟩:=sd9.put (by omega) hk9 (if (Drw.marks hsS (Drw.marks hsS Drw.no ((prs.take i).flatMap (xav w'))) ((xav w' (p',b,r)).take j) c).isSome then hsS else sg);refine⟨_,rfl,_,rfl,_,rfl,d,H10,rfl,dput,_,_,rfl,fun c u nc e=>k10 _ _ nc (k9 _ _ nc e),?_⟩;rw[stp];exact sd10
   .rintro Z H9 ⟨v11',v12',rfl,k9,sd9⟩;rw[Za] at sd9;refine⟨_,_,_,_,_,_,_,rfl,fun c u e=>k9 _ _ (xi e hd) (s58 _ _ (s5 _ _ e)),?_⟩;rw[ZR (l:=xav w' (p',b,r)) (by omega)] at sd9;have e:(prs.take (i+1)).flatMap (xav w')=(prs.take i).flatMap (xav w')++xav w' (p',b,r):=by
     rw[ZV,hp,Y7];exact congrArg _ (Jy _)
    rw[e];refine SD.le ?_ (show 50*i+cq.length<=50*(i+1) by omega);unfold Drw.marks at sd9 ⊢;rw[Ys];exact sd9
  .rintro Z H5 ⟨v6,v7,v8,v9,v10,v11,v12,rfl,s5,sd⟩;rw[Za,ZR (by omega)] at sd;have sd:=sd.le (k:=600) (by omega);refine⟨_,rfl,lp,rfl,⟨_,SqL.of (s5 _ _ hlp)⟩,?_⟩;refine xa6 (xs:=qs.map V.ref) (Pv:=fun i Z H6=>∃(v13:Option V),Z=[some (.int (w':Int)),some (.int (h':Int)),some (.ref lp),some (.ref ls),some (.ref l),some (.ref d),v6,v7,v8,v9,v10,v11,v12,v13,none]/\Same H H6/\SD H6 d (600+i) (Drw.sets (Drw.marks hsS Drw.no (prs.flatMap (xav w'))) ((ptsS ps).take i))) ⟨_,rfl,s5,sd⟩ ?_ ?_ ?_
   .rintro i Z H6 _ ⟨_,rfl,s6,_⟩;exact SqL.of (s6 _ _ hlp)
   .rintro i x Z H6 hx ⟨v13,rfl,s6,sd6⟩;rw[Zg,Zk] at hx;obtain⟨qa,hqa,rfl⟩:=hx;obtain⟨p,hp,hpq⟩:=ptl.get hqa;have i12:i<12:=by have:=(Zi.mp hp).1; omega
    have hq6:=s6 _ _ hpq;refine⟨_,rfl,qa,_,0,.str p.nm,rfl,rfl,SqT.of hq6,rfl,_,rfl,_,rfl,qa,_,1,.int p.x,rfl,rfl,SqT.of hq6,rfl,_,rfl,qa,_,2,.int p.y,rfl,rfl,SqT.of hq6,rfl,(by show 2<=sizeLine; decide),fun kp hkp=>?_⟩;have s7:Same H6 (upd H6 kp (.tup [.int p.x,.int p.y])):=xo (Same.refl _) hkp;have g7:upd H6 kp (.tup [.int p.x,.int p.y]) kp=some (.tup [.int p.x,.int p.y]):=xf;revert s7 g7;generalize upd H6 kp (.tup [.int p.x,.int p.y])=H7;intro s7 g7;obtain⟨H8,dput,sd8,k8,_⟩:=(sd6.keep (H':=H7) (fun u e=>s7 _ _ e)).put (c:=(p.x,p.y)) (by omega) g7 p.nm;refine⟨d,H8,rfl,dput,_,rfl,fun c u e=>k8 _ _ (xi e hd) (s7 _ _ (s6 _ _ e)),?_⟩;rw[xdx (c:=(p.x,p.y)) (x:=p.nm)]
    .exact sd8
    .unfold ptsS;rw[Zg,hp];rfl
   .rintro Z H6 ⟨v13,rfl,s6,sd6⟩;rw[Za,ZR (l:=ptsS ps) (by unfold ptsS; rw[Za]; omega)] at sd6;have sd6:=sd6.le (k:=620) (by omega);refine⟨_,rfl,ls,rfl,⟨_,SqL.of (s6 _ _ hls)⟩,?_⟩;refine xa6 (xs:=rs.map V.ref) (Pv:=fun i Z H7=>∃(v7 v8:Option V),Z=[some (.int (w':Int)),some (.int (h':Int)),some (.ref lp),some (.ref ls),some (.ref l),some (.ref d),v6,v7,v8,v9,v10,v11,v12,v13,none]/\Same H H7/\SD H7 d (620+i) (Drw.sets (Drw.sets (Drw.marks hsS Drw.no (prs.flatMap (xav w'))) (ptsS ps)) ((xbs w' ss).take i))) ⟨_,_,rfl,s6,sd6⟩ ?_ ?_ ?_
    .rintro i Z H7 _ ⟨_,_,rfl,s7,_⟩;exact SqL.of (s7 _ _ hls)
    .rintro i x Z H7 hx ⟨v7',v8',rfl,s7,sd7⟩;rw[Zg,Zk] at hx;obtain⟨qa,hqa,rfl⟩:=hx;obtain⟨⟨b,r⟩,hs,hsq⟩:=stl.get hqa;have i32:i<32:=by have:=(Zi.mp hs).1; omega
     refine⟨qa,_,rfl,SqT.of (s7 _ _ hsq),rfl,_,_,rfl,_,_,rfl,rfl,?_⟩;refine⟨_,rfl,_,rfl,_,rfl,(w':Int),b,rfl,fun H8 s8=>⟨_,rfl,(by show 2<=sizeLine; decide),fun kp hkp=>?_⟩⟩;have s9:Same H8 (upd H8 kp (.tup [.int (Drw.rim w' b),.int r])):=xo (Same.refl _) hkp;have g9:upd H8 kp (.tup [.int (Drw.rim w' b),.int r]) kp=some (.tup [.int (Drw.rim w' b),.int r]):=xf;revert s9 g9;generalize upd H8 kp (.tup [.int (Drw.rim w' b),.int r])=H9;intro s9 g9;obtain⟨H10,dput,sd10,k10,_⟩:=(sd7.keep (H':=H9) (fun u e=>s9 _ _ (s8 _ _ e))).put (c:=rimC w' (b,r)) (by omega) g9 (Zb ".");refine⟨d,H10,rfl,dput,_,_,rfl,fun c u e=>k10 _ _ (xi e hd) (s9 _ _ (s8 _ _ (s7 _ _ e))),?_⟩;rw[xdx (c:=rimC w' (b,r)) (x:=Zb ".")]
     .exact sd10
     .unfold xbs;rw[Zg,hs];rfl
    .rintro Z H7 ⟨v7',v8',rfl,s7,sd7⟩;rw[Za,ZR (l:=xbs w' ss) (by unfold xbs; rw[Za]; omega)] at sd7;have sd7:=sd7.le (k:=660) (by omega);refine⟨_,rfl,l,rfl,⟨_,SqL.of (s7 _ _ hl)⟩,?_⟩;refine xa6 (xs:=ts.map V.ref) (Pv:=fun i Z H8=>∃(v6 v7 v8:Option V),Z=[some (.int (w':Int)),some (.int (h':Int)),some (.ref lp),some (.ref ls),some (.ref l),some (.ref d),v6,v7,v8,v9,v10,v11,v12,v13,none]/\Same H H8/\SD H8 d (660+i) (Drw.sets (Drw.sets (Drw.sets (Drw.marks hsS Drw.no (prs.flatMap (xav w'))) (ptsS ps)) (xbs w' ss)) ((xbe w' prs).take i))) ⟨_,_,_,rfl,s7,sd7⟩ ?_ ?_ ?_
     .rintro i Z H8 _ ⟨_,_,_,rfl,s8,_⟩;exact SqL.of (s8 _ _ hl)
     .rintro i x Z H8 hx ⟨v6'',v7'',v8'',rfl,s8,sd8⟩;rw[Zg,Zk] at hx;obtain⟨qa,hqa,rfl⟩:=hx;obtain⟨⟨pt,b,r⟩,hp,hpq⟩:=prl.get hqa;have i12:i<12:=by have:=(Zi.mp hp).1; omega
      refine⟨qa,_,rfl,SqT.of (s8 _ _ hpq),rfl,_,_,rfl,_,_,rfl,_,_,rfl,rfl,?_⟩;refine⟨_,rfl,_,rfl,_,rfl,_,rfl,(w':Int),b,rfl,fun H9 s9=>⟨_,rfl,(by show 2<=sizeLine; decide),fun kp hkp=>?_⟩⟩;have s10:Same H9 (upd H9 kp (.tup [.int (Drw.rim w' b),.int r])):=xo (Same.refl _) hkp;have g10:upd H9 kp (.tup [.int (Drw.rim w' b),.int r]) kp=some (.tup [.int (Drw.rim w' b),.int r]):=xf;revert s10 g10;generalize upd H9 kp (.tup [.int (Drw.rim w' b),.int r])=H10;intro s10 g10;obtain⟨H11,dput,sd11,k11,_⟩:=(sd8.keep (H':=H10) (fun u e=>s10 _ _ (s9 _ _ e))).put (c:=rimC w' (b,r)) (by omega) g10 pt.nm;refine⟨d,H11,rfl,dput,_,_,_,rfl,fun c u e=>k11 _ _ (xi e hd) (s10 _ _ (s9 _ _ (s8 _ _ e))),?_⟩;rw[xdx (c:=rimC w' (b,r)) (x:=pt.nm)]
      .exact sd11
      .unfold xbe;rw[Zg,hp];rfl
     .rintro Z H8 ⟨v6'',v7'',v8'',rfl,s8,sd8⟩;rw[Za,ZR (l:=xbe w' prs) (by unfold xbe; rw[Za]; omega)] at sd8;have sd8:SD H8 d (660+ts.length) (xap w' ps ss prs):=sd8;have sh:=xlf (w:=w') (ss:=ss) (fun p hp=>(pok.ok p hp).nm) (fun p hp=>(pal.ok p hp).nm);refine⟨(by show 0<=sizeLine; decide),fun lw hlw=>?_⟩;have s9:Same H8 (upd H8 lw (.lst [])):=xo (Same.refl _) hlw;have g9:upd H8 lw (.lst []) lw=some (.lst []):=xf;revert s9 g9;generalize upd H8 lw (.lst [])=H9;intro s9 g9;have flw:=s8.free hlw;have nwd:d≠lw:=by
       obtain⟨kvs,e,_⟩:=sd8;exact xi e hlw
      have sd9:=sd8.keep (H':=H9) (fun u e=>s9 _ _ e);refine⟨_,rfl,_,_,rfl,rfl,1,(h':Int)+1,rfl,⟨by decide,by decide,by omega,by omega⟩,?_⟩;refine xjm (Pv:=fun i Z H10=>∃(v10:Option V),Z=[some (.int (w':Int)),some (.int (h':Int)),some (.ref lp),some (.ref ls),some (.ref l),some (.ref d),v6'',v7'',v8'',v9,v10,v11,v12,v13,some (.ref lw)]/\Same H H10/\SD H10 d (660+ts.length) (xap w' ps ss prs)/\H10 lw=some (.lst (xdc w' i (xap w' ps ss prs)))) ⟨_,rfl,s8.trans s9,sd9,g9⟩ ?_ ?_
      .rintro i Z H10 hi ⟨v10',rfl,s10,sd10,e10⟩;refine⟨_,rfl,.inl ⟨rfl,_,SqL.of e10⟩,?_⟩;refine⟨rfl,_,rfl,_,_,rfl,rfl,((w'+2:Nat):Int),by rw[Int.natCast_add]; rfl,by omega,by omega,fun l1 hl1=>?_⟩;refine xg3 (Z6 (by omega:_<=1000) (by decide)) hl1 (fun (j:Nat)=>V.str ((xap w' ps ss prs ((j:Int),1+(i:Int))).getD (Zb " "))) ?_ ?_
       .intro j H11 hj s11 N hN
        simp only[Int.zero_add];obtain⟨kvs,ed,_⟩:=id sd10;refine⟨_,rfl,d,rfl,.inr ⟨kvs,.inl (s11 _ _ ed)⟩,_,rfl,_,rfl,(by show 2<=sizeLine; decide),fun p hp=>?_⟩;have s12:Same H11 (upd H11 p (.tup [.int (j:Int),.int (1+(i:Int))])):=xo (Same.refl _) hp;have g12:upd H11 p (.tup [.int (j:Int),.int (1+(i:Int))]) p=some (.tup [.int (j:Int),.int (1+(i:Int))]):=xf;revert s12 g12;generalize upd H11 p (.tup [.int (j:Int),.int (1+(i:Int))])=H12;intro s12 g12;refine⟨_,(sd10.keep (H':=H12) fun u e=>s12 _ _ (s11 _ _ e)).get (c:=((j:Int),1+(i:Int))) g12,?_⟩;have e:((xap w' ps ss prs ((j:Int),1+(i:Int))).map V.str).getD (V.str (Zb " "))=V.str ((xap w' ps ss prs ((j:Int),1+(i:Int))).getD (Zb " ")):=by cases xap w' ps ss prs ((j:Int),1+(i:Int))<;>rfl
        rw[e];exact hN H12 s12
       .intro H11 s11 e11
        rw[JI] at e11;refine⟨Zb "",l1,(Z3 (w'+2)).map fun (j:Nat)=>(xap w' ps ss prs ((j:Int),1+(i:Int))).getD (Zb " "),5,rfl,rfl,(by rw[e11,Zv]; rfl),fun s hs=>?_,?_,?_⟩
        .obtain ⟨j,_,rfl⟩:=Ze.mp hs;cases e:xap w' ps ss prs ((j:Int),1+(i:Int)) with
         | none=>exact (by decide +kernel:(Zb " ").length<=5)
         | some x=>exact sh _ _ e
        .rw [Za,Zs,show (Zb "").length=0 from by decide +kernel];exact Zy (by omega:_<=1000) (by decide)
        have e11w:=s11 _ _ e10;have ih:i<h':=by omega
        refine⟨lw,_,_,rfl,rfl,e11w,?_,?_⟩
        .unfold xdc;rw[Za,Zs];exact Z6 (by omega:_<=1000) (by decide)
        refine⟨_,rfl,fun c u e=>by rw[xh (xi e flw)]; exact s11 _ _ (s10 _ _ e),(sd10.keep (H':=H11) fun u e=>s11 _ _ e).keep (fun u e=>by rw[xh nwd]; exact e),?_⟩;rw[xf];unfold xdc;rw[JK (n:=i),ZB];rfl
      .rintro Z H10 ⟨v10',rfl,s10,sd10,e10⟩;rw[show ((h':Int)+1-1).toNat=h' by omega] at e10;exact⟨_,rfl,q H10 lw s10 flw e10⟩
theorem xcg {w:Nat} (w1:1<=w) {a b:Seat} (e:rimC w a=rimC w b):a=b:=by
 obtain⟨a1,a2⟩:=a;obtain⟨b1,b2⟩:=b;have e1:Drw.rim w a1=Drw.rim w b1:=(JD.inj e).1;have e2:a2=b2:=(JD.inj e).2;subst e2;unfold Drw.rim at e1;cases a1<;>cases b1
 .rfl
 .simp at e1; omega
 .simp at e1; omega
 .rfl
theorem xdp (w:Int) (s:Seat):(rimC w s).1=0\/(rimC w s).1=w+1:=by
 show Drw.rim w s.1=0\/Drw.rim w s.1=w+1;unfold Drw.rim;split
 .exact .inl rfl
 .exact .inr rfl
theorem xic {α β:Type}{f g:α->List β}:∀{l:List α},(∀ a∈l,f a=g a)->l.flatMap f=l.flatMap g
 | [],_=>rfl
 | a::l,h=>by
  rw[Qt,Qt,h a (Zr ..),xic fun b hb=>h b (Zt _ hb)]
theorem xs5 {w h:Nat}{ps:List Pt}{ss:List Seat}{prs prs':List Pr} (w1:1<=w) (pok:xdn w h ps) (pal:xfs w h ps prs) (pm:prs'.Perm prs):xep w ps ss prs'=xap w ps ss prs:=by
 funext c;unfold xep xap;refine Drw.draw_same (w:=w) hsS (fun x hx=>?_) (fun x hx=>?_) (fun x hx=>?_) (pm.map _) ?_ c fun n1 n2=>?_
 .obtain ⟨p,hp,rfl⟩:=Ze.mp hx;exact⟨(pok.ok p hp).x1,(pok.ok p hp).x2⟩
 .obtain ⟨s,_,rfl⟩:=Ze.mp hx;exact xdp w s
 .obtain ⟨s,_,rfl⟩:=Ze.mp hx;exact xdp w s.2
 .rw [Zv];have nd:=(pm.map (·.2)).nodup_iff.mpr pal.nd;rw[JJ,ZA] at nd ⊢;exact nd.imp fun ne e=>ne (xcg w1 e)
 .rw [Drw.at_flat,Drw.at_flat];rw[xic (g:=fun a=>Drw.at_ c (xav w a))]
  .exact pm.flatMap_right _
  intro a ha;have ok:=pal.ok a (pm.mem_iff.mp ha);refine Drw.led_at _ _ _ ok.xy.1 ok.xy.2.1 (fun e=>n1 ?_) (fun e=>n2 ?_)
  .rw [e];unfold ptsS;rw[Zv];exact Ze.mpr ⟨a.1,Y3 ok.fd,rfl⟩
  .rw [e];rw[Zv];exact Ze.mpr ⟨a,ha,rfl⟩
theorem Dr.same {t:Adr}{H H':Hp}{a dp do_:Addr}{w h:Nat}{ps:List Pt}{ss srt:List Seat} (d:Dr t H a dp do_ w h ps ss srt) (s:Same H H'):Dr t H' a dp do_ w h ps ss srt:=⟨Pic.same s d.pic,d.sts.same s,d.ok,d.pm,d.lt,d.nm⟩
theorem xr0 {h:Nat}{s:Seat} (o:1<=s.2/\s.2<=(h:Int)):s∈xaz true h++xaz false h:=by
 obtain⟨b,r⟩:=s;have o1:1<=r:=o.1;have o2:r<=h:=o.2;have z:∀ b,(b,r)∈xaz b h:=fun b=>Ze.mpr ⟨(r-1).toNat,ZQ.mpr (by omega),by rw[show 1+((r-1).toNat:Int)=r by omega]⟩;cases b
 .exact ZS _ (z false)
 .exact Yy _ (z true)
def prD (p:Pr):DV:=.tup [.str p.1.nm,.str (xaf p.2.1),.int p.2.2]
theorem xvk {K:Zd}{H:Hp}{q:Addr}{p:Pr} (h:H q=some (.tup (prV p))):Dv K H 1 (.ref q) (prD p):=.tup (SqT.of h) rfl (xew (xs:=prV p) rfl)
theorem PrsL.dv {K:Zd}{H:Hp}{ps:List Pr}{qs:List Addr} (h:PrsL H ps qs) {l:Addr} (e:H l=some (.lst (qs.map V.ref))):Dv K H 2 (.ref l) (.lst (ps.map prD)):=by
 refine .lst (SqL.of e) (by rw[Za,Za,h.len]) fun j x d h1 h2=>?_;rw[Zg] at h1 h2;obtain⟨q,hq,rfl⟩:=Zk.mp h1;obtain⟨p,hp,rfl⟩:=Zk.mp h2;obtain⟨p',hp',e'⟩:=h.get hq;rw[hp] at hp';cases hp';exact xvk e'
inductive xjz (K:Zd) (vs:List V) (H:Hp) (Q:VK) (_:XK):Prop
 | mk (a:Addr) (ns:List Int) (e_:vs=[.ref a]) (r_:SqL K H a (ns.map V.int)/\ns.length<=63/\∀ H',Q (.bl true) H')
abbrev Sg:=Nat × Nat × Nat
def sgV (s:Sg):List V:=[.int (s.1:Int),.int (s.2.1:Int),sgn s.2.2]
def GV (G:List (List Nat)):List V:=G.map fun r=>V.str (ofL r)
def sgR (i:Nat) (r:List Nat):List Sg:=(Z3 r.length).map fun j=>(i,j,r.getD j 0)
def sgsN (G:List (List Nat)) (n:Nat):List Sg:=(Z3 n).flatMap fun i=>sgR i (G.getD i [])
def sgs (G:List (List Nat)):List Sg:=sgsN G G.length
structure Txs (W:Nat) (G:List (List Nat)):Prop where
 h1:1<=G.length
 h2:G.length<=16
 wd:∀ r∈G,r.length=W
 asc:∀ r∈G,∀ c∈r,c<128
 w1:3<=W
 w2:W<=32
def TL {α:Type} (f:α->List V) (H:Hp) (as:List α) (qs:List Addr):Prop:=qs.length=as.length/\∀(i:Nat) (q:Addr),qs[i]?=some q->∃ a,as[i]?=some a/\H q=some (.tup (f a))
theorem TL.keep {α:Type}{f:α->List V}{H H':Hp}{as:List α}{qs:List Addr} (s:Tups H H') (h:TL f H as qs):TL f H' as qs:=⟨h.1,fun i q e=>let ⟨a,e1,e2⟩:=h.2 i q e; ⟨a,e1,s _ _ e2⟩⟩
theorem TL.nil {α:Type}{f:α->List V}{H:Hp}:TL f H [] []:=⟨rfl,fun i q e=>by simp at e⟩
theorem TL.append {α:Type}{f:α->List V}{H:Hp}{as bs:List α}{qs rs:List Addr} (h:TL f H as qs) (k:TL f H bs rs):TL f H (as++bs) (qs++rs):=by
 refine⟨by rw[Zo,Zo,h.1,k.1],fun i q e=>?_⟩;by_cases c:i<qs.length
 .rw [Jj c] at e;rw[Jj (by rw[<- h.1]; exact c)];exact h.2 i q e
 .rw [Jt (by omega)] at e;rw[Jt (by rw[<- h.1]; omega),<- h.1];exact k.2 _ q e
theorem TL.pick {α:Type}{f:α->List V}{H:Hp}:∀{as:List α}{ys:List V},ys.length=as.length->(∀(j:Nat) (y:V) (a:α),ys[j]?=some y->as[j]?=some a->∃ q,y=.ref q/\H q=some (.tup (f a)))->∃ rs:List Addr,ys=rs.map V.ref/\TL f H as rs
 | [],[],_,_=>⟨[],rfl,TL.nil⟩
 | [],_::_,h,_=>by cases h
 | _::_,[],h,_=>by cases h
 | s::ss,y::ys,h,k=>by
  obtain⟨q,e,hq⟩:=k 0 y s rfl rfl;obtain⟨rs,e2,r⟩:=TL.pick (as:=ss) (ys:=ys) (by simpa using h) fun j y s h1 h2=>k (j+1) y s (by simpa using h1) (by simpa using h2)
  refine⟨q::rs,by rw[e,e2]; rfl,TL.append (as:=[s]) (qs:=[q]) ⟨rfl,fun i q' e'=>?_⟩ r⟩;cases i with
  | zero =>
   simp at e';subst e';exact⟨s,rfl,hq⟩
  | succ i=>simp at e'
theorem xas (l:List Nat):(ofL l).length=l.length:=by simp[ofL,YT]
theorem xrq {l:List Nat} (h:∀ c∈l,c<128):(ofL l).cps.all (·<128)=true:=by
 rw[Array.all_eq_true];intro i hi;have:(ofL l).cps[i]∈(ofL l).cps.toList:=by simp
 rw[xac] at this;exact decide_eq_true (h _ this)
inductive xst (vs:List V) (H:Hp) (Q:VK) (_:XK):Prop
 | mk (l:Addr) (W:Nat) (G:List (List Nat)) (e_:vs=[.ref l]) (r_:H l=some (.lst (GV G))/\Txs W G/\∀ H',Same H H'->Q .non H')
inductive xsb (vs:List V) (H:Hp) (Q:VK) (_:XK):Prop
 | mk (l:Addr) (W:Nat) (G:List (List Nat)) (e_:vs=[.ref l]) (r_:H l=some (.lst (GV G))/\Txs W G/\∀ H' l' qs,Same H H'->H l'=none->H' l'=some (.lst (qs.map V.ref))->TL sgV H' (sgs G) qs->Q (.ref l') H')
def xfy (j:Nat):Bool:=decide (j=0)
inductive xqt (vs:List V) (H:Hp) (Q:VK) (_:XK):Prop
 | mk (q:Addr) (i j:Nat) (e_:vs=[.ref q]) (r_:H q=some (.tup [.int (i:Int),.int (j:Int)])/\∀ H' q',Same H H'->H q'=none->H' q'=some (.tup (xcy (xfy j,(i:Int)+1)))->Q (.ref q') H')
theorem xf4 (G:List (List Nat)):(GV G).length=G.length:=by unfold GV; rw[Za]
theorem xej {G:List (List Nat)}{i:Nat}{r:List Nat} (h:G[i]?=some r):(GV G)[i]?=some (V.str (ofL r)):=by unfold GV; rw[Zg,h]; rfl
theorem xjb {G:List (List Nat)}{i:Nat}{r:List Nat} (h:G[i]?=some r):sgsN G (i+1)=sgsN G i++sgR i r:=by
 unfold sgsN;rw[JK,Y7,QE,Ju,h];rfl
theorem xe8 {W:Nat}{G:List (List Nat)} (o:Txs W G):∀ n,n<=G.length->(sgsN G n).length=n*W
 | 0,_=>by simp[sgsN]
 | n+1,h=>by
  obtain⟨r,hr⟩:∃ r,G[n]?=some r:=⟨_,Zf h⟩
  rw[xjb hr,Zo,xe8 o n (by omega),Nat.add_mul,Nat.one_mul];unfold sgR;rw[Za,Zs,o.wd r (Zn hr)]
theorem ok_aa (T:Txt w K mg t):FnOk true P w K mg base (CXo P w) 1 t.f_aa t.d_aa ["rows"] (xst):=by
 refine T.F_aa.okn (k:=0) sc_aa (fun vs H Q E h=>?_) (fun cdv A outer s H vs Q E hr h=>?_)
 .obtain ⟨l,W,G,rfl,_⟩:=h;rfl
 .obtain ⟨l,W,G,rfl,h⟩:=h;refine⟨_,xj (xag (PW.pt (xcj (xbh (xa9 (xw xba rfl T.n_isinstance boot_isinstance (xb (pv 0) (xb (xca (v:=.ty "list") rfl T.n_list boot_list rfl) (xg)))))) (xcd (xbh (xfi xdm xdm (xk) (xw xbd rfl T.n_len J0 (xb (pv 0) (xg))) (xbn (v:=.int 16) rfl T.v_bn.choose_spec ⟨_,rfl⟩)))))) (xn (xa1)) (x5))
   (xn (xa0 ZG rfl (xcp rfl T.n_enumerate (xb (pv 0) (xg))) (xan rfl (xr (xq (i:=1) sc_aa.nd rfl (Zp rfl)) (xr (xq (i:=2) sc_aa.nd rfl (Zp rfl)) (xad)))) (xn (xag (PW.pt (xcj (xbh (xa9 (xw xba rfl T.n_isinstance boot_isinstance (xb (pv 2) (xb (xca (v:=.ty "str") rfl T.n_str boot_str rfl) (xg)))))) (xcj (xbh (xfi xdm xdm (xk) (xw xbc rfl T.n_len J0 (xb (pv 2) (xg))) (xu xai (xbn (v:=.int 30) rfl T.v_bf.choose_spec ⟨_,rfl⟩) (xk)))) (xcd (x9 xge (xw xbc rfl T.n_len J0 (xb (pv 2) (xg))) (xw xbc rfl T.n_len J0 (xb (xax xbu (pv 0) (xk) (fun _ _=>rfl)) (xg))) (x8 _)))))) (xn (xa1)) (x5))))),?_⟩
  obtain⟨hl,o,q⟩:=h;have h1:=o.h1;have h2:=o.h2;have w1:=o.w1;have w2:=o.w2;have gl:=xf4 G;obtain⟨r0,hr0⟩:∃ r,G[0]?=some r:=⟨_,Zf h1⟩
  have l0:=o.wd r0 (Zn hr0);refine⟨_,rfl,_,_,rfl,.inl ⟨_,_,true,.lst hl,rfl,xbf,true,rfl,iteF ?_⟩⟩;refine⟨_,rfl,l,_,rfl,.inl (SqL.of hl),?_⟩;refine⟨_,_,rfl,rfl,_,rfl,ifP (decide_eq_true (by rw[gl]; omega)) ⟨_,_,rfl,rfl,_,rfl,ifN (by rw[decide_eq_true (by rw[gl]; omega)]; rfl) ?_⟩⟩;refine⟨_,rfl,l,_,rfl,SqL.of hl,?_⟩;refine xd9 (xs:=GV G) (Pv:=fun i Z H5=>∃(v1 v2:Option V),Z=[some (.ref l),v1,v2]/\Same H H5) ⟨_,_,rfl,Same.refl _⟩ ?_ ?_ ?_
  .rintro i Z H5 _ ⟨_,_,rfl,s5⟩;exact SqL.of (s5 _ _ hl)
  .rintro i x p Z H5 hx hp ⟨v1,v2,rfl,s5⟩;have ig:i<G.length:=by
    have:=(Zi.mp hx).1;omega
   obtain⟨r,hr'⟩:∃ r,G[i]?=some r:=⟨_,Zf ig⟩
   rw[xej hr'] at hx;cases hx;have rl:=o.wd r (Zn hr');have le:∀ z:List Nat,z.length=W->(ofL z).length<=sizeLine:=fun z hz=>by rw[xas,hz]; exact Zy (by omega:_<=1000) (by decide)
   have s6:Same H5 (upd H5 p (.tup [.int (i:Int),.str (ofL r)])):=xo (Same.refl _) hp;have g6:upd H5 p (.tup [.int (i:Int),.str (ofL r)]) p=some (.tup [.int (i:Int),.str (ofL r)]):=xf;revert s6 g6;generalize upd H5 p (.tup [.int (i:Int),.str (ofL r)])=H6;intro s6 g6;have hl6:=s6 _ _ (s5 _ _ hl);refine⟨p,_,rfl,SqT.of g6,rfl,_,_,rfl,_,_,rfl,rfl,?_⟩;refine⟨_,rfl,_,_,rfl,.inl ⟨_,_,true,.str _,rfl,xbf,true,rfl,iteF ?_⟩⟩;refine⟨_,rfl,_,rfl,le r rl,_,_,rfl,rfl,_,rfl,ifP (decide_eq_true (by rw[xas,rl]; omega)) ?_⟩;refine⟨_,_,rfl,rfl,_,_,rfl,rfl,_,rfl,ifN (by rw[decide_eq_true (by rw[xas,rl]; omega)]; rfl) ?_⟩;refine⟨_,rfl,_,rfl,le r rl,_,rfl,l,_,0,.str (ofL r0),rfl,rfl,SqL.of hl6,?_,_,rfl,le r0 l0,rfl,_,rfl,ifN ?_ ⟨_,_,rfl,s5.trans s6⟩⟩
   .show atI (GV G) ((0:Nat):Int)=_;exact xb9 (xej hr0)
   .rw [xas,xas,rl,l0];simp
  .rintro Z H5 ⟨v1,v2,rfl,s5⟩;exact q H5 s5
theorem ok_as (T:Txt w K mg t):FnOk true P w K mg base (CXo P w) 1 t.f_as t.d_as ["rows"] (xsb):=by
 refine T.F_as.okn (k:=0) sc_as (fun vs H Q E h=>?_) (fun cdv A outer s H vs Q E hr h=>?_)
 .obtain ⟨l,W,G,rfl,_⟩:=h;rfl
 .obtain ⟨l,W,G,rfl,h⟩:=h;refine⟨_,xj (xx (i:=1) sc_as.nd rfl (Zp rfl) (xa8 (xg)))
   (xj (xa0 ZG rfl (xcp rfl T.n_enumerate (xb (pv 0) (xg))) (xan rfl (xr (xq (i:=2) sc_as.nd rfl (Jf rfl)) (xr (xq (i:=3) sc_as.nd rfl (Zp rfl)) (xad)))) (xn (xay (xcl ZY PySem.F.slot_list_extend PySem.F.type_list_extend xo8 (pv 1) (xb (xb0 rfl (xa4 (zs:=["column", "sign"]) (ys:=["row"]) (fr:=[2]) (N0:=["rows", "found", "row", "text"]) (sc0:=xp s_as) (by decide +kernel) rfl rfl rfl) (xoa rfl T.n_enumerate (xb (pv 3) (xg))) (fun _ _ _ _ _ ow nd=>(xan rfl (xr (xq (i:=0) nd rfl (Zp (ow _ (by simp))) (Jf (ow _ (by simp)))) (xr (xq (i:=1) nd rfl (Zp (ow _ (by simp))) (Jf (ow _ (by simp)))) (xad))):PG _ _ (gTup K 2 _))) (xe4 (xbt (by decide) (xbt (by decide) (xec)))) (fun _ _ _ _ _=>xbk) (fun _ _ _ _ _=>x4 (xb (pv 2) (xb (pv 0) (xb (pv 1) (xg)))))) (xg))))))
   (xn (x0 (pv 1)))),?_⟩
  obtain⟨hl,o,q⟩:=h;have h2:=o.h2;have w2:=o.w2;have gl:=xf4 G;refine⟨(by show 0<=sizeLine; decide),fun f hf=>?_⟩;have s1:Same H (upd H f (.lst [])):=xo (Same.refl _) hf;have g1:upd H f (.lst []) f=some (.lst []):=xf;revert s1 g1;generalize upd H f (.lst [])=H1;intro s1 g1;refine⟨_,rfl,l,_,rfl,SqL.of (s1 _ _ hl),?_⟩;refine xd9 (xs:=GV G) (Pv:=fun i Z H5=>∃(v2 v3:Option V) (qs:List Addr),Z=[some (.ref l),some (.ref f),v2,v3]/\Same H H5/\H5 f=some (.lst (qs.map V.ref))/\TL sgV H5 (sgsN G i) qs) ⟨_,_,[],rfl,s1,g1,TL.nil⟩ ?_ ?_ ?_
  .rintro i Z H5 _ ⟨_,_,_,rfl,s5,_⟩;exact SqL.of (s5 _ _ hl)
  .rintro i x p Z H5 hx hp ⟨v2,v3,qs,rfl,s5,e5,tl5⟩;have ig:i<G.length:=by
    have:=(Zi.mp hx).1;omega
   obtain⟨r,hr⟩:∃ r,G[i]?=some r:=⟨_,Zf ig⟩
   rw[xej hr] at hx;cases hx;have rl:=o.wd r (Zn hr);have ra:=o.asc r (Zn hr);have s6:Same H5 (upd H5 p (.tup [.int (i:Int),.str (ofL r)])):=xo (Same.refl _) hp;have g6:upd H5 p (.tup [.int (i:Int),.str (ofL r)]) p=some (.tup [.int (i:Int),.str (ofL r)]):=xf;revert s6 g6;generalize upd H5 p (.tup [.int (i:Int),.str (ofL r)])=H6;intro s6 g6;have e6:=s6 _ _ e5;refine⟨p,_,rfl,SqT.of g6,rfl,_,_,rfl,_,_,rfl,rfl,?_⟩;refine⟨_,rfl,.inl ⟨rfl,_,SqL.of e6⟩,_,rfl,ofL r,rfl,xrq ra,fun l1 hl1=>?_⟩;refine xlg (by rw[xac,rl]; exact Z6 (by omega:_<=1000) (by decide)) hl1 (fun j y H7=>∃ q,y=.ref q/\H7 q=some (.tup (sgV (i,j,r.getD j 0)))) (fun j y H7 H8 tp ⟨q,e1,e2⟩=>⟨q,e1,tp _ _ e2⟩) (fun j c pp H7 hc s7 hpp N hN=>?_) (fun ys H7 s7 e7 ly fy=>?_)
   .rw [xac] at hc;refine⟨pp,_,rfl,SqT.of xf,rfl,_,_,rfl,_,_,rfl,rfl,_,rfl,_,rfl,_,rfl,(by show 3<=sizeLine; decide),fun u hu=>hN _ _ (xo (Same.refl _) hu) ⟨u,rfl,?_⟩⟩;rw[xf,Ju,hc];rfl
   .rw [xac] at ly;obtain⟨rs,rfl,tr⟩:=TL.pick (f:=sgV) (H:=H7) (as:=sgR i r) (ys:=ys) (by rw[ly]; unfold sgR; rw[Za,Zs]) (fun j y a h1 h2=>by
     unfold sgR at h2;rw[Zg] at h2;obtain⟨j',hj,rfl⟩:=Zk.mp h2;obtain⟨_,ej⟩:=Zi.mp hj;rw[Qp] at ej;subst ej;exact fy _ y h1)
    have e67:=s7 _ _ e6;have ne:f≠l1:=fun z=>by rw[z] at e6; rw[e6] at hl1; cases hl1
    have ln:=xe8 o i (by omega);have tq:=tl5.1;refine⟨f,l1,_,_,rfl,rfl,e67,e7,?_,?_⟩
    .rw [ly,Za,tq,ln];have:i*W<=16*32:=Ql (by omega) w2;exact Zy (by omega:_<=1000) (by decide)
    have kt:Tups H7 (upd H7 f (.lst (qs.map V.ref++rs.map V.ref))):=fun c xs e=>by rw[xh (xae e e67 (fun z=>nomatch z))]; exact e
    refine⟨_,_,qs++rs,rfl,fun c u e=>by rw[xh (xi e hf)]; exact s7 _ _ (s6 _ _ (s5 _ _ e)),by rw[xf,ZB],?_⟩;rw[xjb hr];exact ((((tl5.keep (Same.tups s6)).keep (Same.tups s7)).append tr).keep kt)
  .rintro Z H5 ⟨v2,v3,qs,rfl,s5,e5,tl5⟩;rw[gl] at tl5;exact⟨_,rfl,q H5 f qs s5 hf e5 tl5⟩
theorem ok_a3 (T:Txt w K mg t):FnOk true P w K mg base (CXo P w) 1 t.f_a3 t.d_a3 ["place"] (xqt):=by
 refine T.F_a3.okn (k:=0) sc_a3 (fun vs H Q E h=>?_) (fun cdv A outer s H vs Q E hr h=>?_)
 .obtain ⟨q,i,j,rfl,_⟩:=h;rfl
 .obtain ⟨q,i,j,rfl,h⟩:=h;refine⟨_,xj (xcx (pv 0) (xan rfl (xr (xq (i:=1) sc_a3.nd rfl (Zp rfl)) (xr (xq (i:=2) sc_a3.nd rfl (Zp rfl)) (xad)))))
   (xn (x0 (x4 (xb (xde (x9 xbr (pv 2) (xk) (x8 _)) (x6) (x6)) (xb (xu xai (pv 1) (xk)) (xg)))))),?_⟩
  obtain⟨hq,hQ⟩:=h;refine⟨_,rfl,q,_,rfl,SqT.of hq,rfl,_,_,rfl,_,_,rfl,rfl,?_⟩;refine⟨_,rfl,rfl,_,rfl,ite2 (fun c=>?_) (fun c=>?_)⟩
  .have j0:j=0:=by
    have:=of_decide_eq_true c;injection this with z
    omega
   refine⟨_,rfl,_,_,rfl,rfl,(by show 2<=sizeLine; decide),fun u hu=>hQ _ u (xo (Same.refl _) hu) hu ?_⟩;rw[xf,j0];rfl
  .have j0:¬ j=0:=fun z=>c (by rw[z]; rfl);refine⟨_,rfl,_,_,rfl,rfl,(by show 2<=sizeLine; decide),fun u hu=>hQ _ u (xo (Same.refl _) hu) hu ?_⟩;rw[xf];unfold xfy;rw[decide_eq_false j0];rfl
abbrev letF (lc:Int) (o i:Addr):List (Str × V):=[("last_column",.int lc),("outer",.ref o),("inner",.ref i)]
theorem xga {lc:Int}{o i:Addr}{m:Str} (e:((["last_column", "outer", "inner"]:List Str).all fun k=>!(m == k))=true):(letF lc o i).lookup m=none:=by
 simp only[Qz,List.all_nil,Z4,Yu] at e;obtain⟨e1,e2,e3,_⟩:=e;unfold letF;rw[Z2,e1];show ZX m [("outer",V.ref o),("inner",V.ref i)]=none;rw[Z2,e2];show ZX m [("inner",V.ref i)]=none;rw[Z2,e3];rfl
theorem ltL {lc:Int}{o i:Addr}:(letF lc o i).lookup ("last_column":Str)=some (.int lc):=by
 unfold letF;rw[Z2,show (("last_column":Str) == "last_column")=true from by decide +kernel]
theorem ltO {lc:Int}{o i:Addr}:(letF lc o i).lookup ("outer":Str)=some (.ref o):=by
 unfold letF;rw[Z2,show (("outer":Str) == "last_column")=false from by decide +kernel];show ZX ("outer":Str) [("outer",V.ref o),("inner",V.ref i)]=_;rw[Z2,show (("outer":Str) == "outer")=true from by decide +kernel]
theorem ltI {lc:Int}{o i:Addr}:(letF lc o i).lookup ("inner":Str)=some (.ref i):=by
 unfold letF;rw[Z2,show (("inner":Str) == "last_column")=false from by decide +kernel];show ZX ("inner":Str) [("outer",V.ref o),("inner",V.ref i)]=_;rw[Z2,show (("inner":Str) == "outer")=false from by decide +kernel];show ZX ("inner":Str) [("inner",V.ref i)]=_;rw[Z2,show (("inner":Str) == "inner")=true from by decide +kernel]
inductive LD (H:Hp):List Sg->List (Key × V)->Prop
 | nil:LD H [] []
 | cons {s:Sg}{q:Addr}{es:List Sg}{kvs:List (Key × V)} (h:H q=some (.tup [.int (s.1:Int),.int (s.2.1:Int)])) (r:LD H es kvs):LD H (s::es) ((.inr (ofL [s.2.2]),.ref q)::kvs)
theorem LD.keep {H H':Hp} (s:Tups H H') {es:List Sg}{kvs:List (Key × V)} (h:LD H es kvs):LD H' es kvs:=by
 induction h with
 | nil=>exact .nil
 | cons h _ ih=>exact .cons (s _ _ h) ih
theorem LD.len {H:Hp}{es:List Sg}{kvs:List (Key × V)} (h:LD H es kvs):kvs.length=es.length:=by
 induction h with
 | nil=>rfl
 | cons _ _ ih=>simp[ih]
theorem LD.snoc {H:Hp}{es:List Sg}{kvs:List (Key × V)} (h:LD H es kvs) {s:Sg}{q:Addr} (e:H q=some (.tup [.int (s.1:Int),.int (s.2.1:Int)])):LD H (es++[s]) (kvs++[(.inr (ofL [s.2.2]),.ref q)]):=by
 induction h with
 | nil=>exact .cons e .nil
 | cons h _ ih=>exact .cons h ih
theorem xd7 {c d:Nat} (h:ofL [c]=ofL [d]):c=d:=by
 have:=congrArg (fun s:Str=>s.cps.toList) h;simp only[xac] at this;exact (JS.inj this).1
theorem xmr {c d:Nat} (h:(J6 (ofL [c]):Key)=J6 (ofL [d])):c=d:=xd7 (J6.inj h)
theorem LD.get {H:Hp}{es:List Sg}{kvs:List (Key × V)} (h:LD H es kvs) {i:Nat}{k:Key}{x:V} (e:kvs[i]?=some (k,x)):∃ s q,es[i]?=some s/\k=.inr (ofL [s.2.2])/\x=.ref q/\H q=some (.tup [.int (s.1:Int),.int (s.2.1:Int)]):=by
 induction h generalizing i with
 | nil=>simp at e
 | @cons s q es kvs h _ ih =>
  cases i with
  | zero =>
   simp at e;exact⟨s,q,rfl,e.1.symm,e.2.symm,h⟩
  | succ j=>exact ih (by simpa using e)
theorem LD.is {H:Hp}{es:List Sg}{kvs:List (Key × V)} (h:LD H es kvs) (c:Nat):(valV kvs (.inr (ofL [c]))).isSome=decide (c∈es.map fun s=>s.2.2):=by
 induction h with
 | nil=>rfl
 | @cons s q es kvs h r ih =>
  by_cases z:s.2.2=c
  .subst z;rw[xa7 rfl];simp
  .rw [xa2 (fun e=>z (xmr e)),ih];have z':¬ c=s.2.2:=fun e=>z e.symm;simp[z']
theorem LD.at_ {H:Hp}{es:List Sg}{kvs:List (Key × V)} (h:LD H es kvs) {s:Sg} (hs:s∈es) (nd:(es.map fun s=>s.2.2).Nodup):∃ q,valV kvs (.inr (ofL [s.2.2]))=some (.ref q)/\H q=some (.tup [.int (s.1:Int),.int (s.2.1:Int)]):=by
 induction h with
 | nil=>exact nomatch hs
 | @cons s' q es kvs h r ih =>
  rw[Zx,Jd] at nd;rcases Z1.mp hs with z|z
  .subst z;exact⟨q,xa7 rfl,h⟩
  .have ne:s'.2.2≠s.2.2:=fun e=>nd.1 (e▸Ze.mpr ⟨s,z,rfl⟩);rw[xa2 (fun e=>ne (xmr e))];exact ih z nd.2
theorem LD.keys {H:Hp}{es:List Sg}{kvs:List (Key × V)} (h:LD H es kvs):kvs.map (·.1)=(es.map fun s=>ofL [s.2.2]).map J6:=by
 induction h with
 | nil=>rfl
 | cons _ _ ih=>simp only[Zx,ih]
structure Let (t:Adr) (H:Hp) (a o i:Addr) (lc:Nat) (os is:List Sg):Prop where
 ins:∃ dx,H a=some (.ins t.C_t dx (letF (lc:Int) o i))
 ou:∃ kvs,H o=some (.dK kvs)/\LD H os kvs
 inn:∃ kvs,H i=some (.dK kvs)/\LD H is kvs
 ne:o≠i
theorem Let.same {t:Adr}{H H':Hp}{a o i:Addr}{lc:Nat}{os is:List Sg} (h:Let t H a o i lc os is) (s:Same H H'):Let t H' a o i lc os is :=
 ⟨let ⟨dx,e⟩:=h.ins; ⟨dx,s _ _ e⟩,let ⟨k,e,r⟩:=h.ou; ⟨k,s _ _ e,r.keep (Same.tups s)⟩,let ⟨k,e,r⟩:=h.inn; ⟨k,s _ _ e,r.keep (Same.tups s)⟩,h.ne⟩
def nmC (c:Nat):Bool:=decide (97<=c)&&decide (c<=122)
theorem lt1 (a b:Nat):([a]<[b])↔a<b:=by
 constructor
 .intro h
  cases h with
  | rel h=>exact h
  | cons h=>exact absurd h (by intro z; cases z)
 .exact fun h=>.rel h
theorem xh0 (c:Nat):isNm (ofL [c])=nmC c:=by
 unfold isNm nmC;rw[xas,xac];simp only[lt1];rw[Je];simp
def rimB (lc j:Nat):Bool:=decide (j=0)||decide (j=lc)
def lieB (is:List Sg) (i j c:Nat):Bool:=decide (c∉is.map fun s=>s.2.2)&&(decide ((is.filter fun s=>decide (s.1=i)||decide (s.2.1=j))=[])&&decide (is.length<12))
def mayB (lc:Nat) (os is:List Sg) (s:Sg):Bool:=if rimB lc s.2.1 then (decide (s.2.2=32)||decide (s.2.2=46))||(nmC s.2.2&&decide (s.2.2∉os.map fun s=>s.2.2)) else (([32,124,45,43,35]:List Nat).contains s.2.2)||(nmC s.2.2&&lieB is s.1 s.2.1 s.2.2)
inductive xs3 (t:Adr) (vs:List V) (H:Hp) (Q:VK) (_:XK):Prop
 | mk (p dx:Addr) (lc:Nat) (e_:vs=[.ref p,.int (lc:Int)]) (r_:H p=some (.ins t.C_t dx [])/\∀ H' o i,H o=none->H i=none->(∀ b u,b≠p->H b=some u->H' b=some u)->Let t H' p o i lc [] []->Q .non H')
inductive xsg (t:Adr) (vs:List V) (H:Hp) (Q:VK) (_:XK):Prop
 | mk (a o i:Addr) (lc:Nat) (os is:List Sg) (j:Nat) (e_:vs=[.ref a,.int (j:Int)]) (r_:Let t H a o i lc os is/\∀ H',Same H H'->Q (.bl (rimB lc j)) H')
inductive xv0 (t:Adr) (vs:List V) (H:Hp) (Q:VK) (_:XK):Prop
 | mk (a o i:Addr) (lc:Nat) (os is:List Sg) (s:Sg) (e_:vs=[.ref a,.int (s.1:Int),.int (s.2.1:Int),sgn s.2.2]) (r_:Let t H a o i lc os is/\is.length<=600/\∀ H',Same H H'->Q (.bl (lieB is s.1 s.2.1 s.2.2)) H')
inductive xrt (t:Adr) (vs:List V) (H:Hp) (Q:VK) (_:XK):Prop
 | mk (a o i:Addr) (lc:Nat) (os is:List Sg) (s:Sg) (e_:vs=[.ref a,.int (s.1:Int),.int (s.2.1:Int),sgn s.2.2]) (r_:Let t H a o i lc os is/\is.length<=600/\∀ H',Same H H'->Q (.bl (mayB lc os is s)) H')
def outP (lc:Nat) (s:Sg):Bool:=rimB lc s.2.1&&nmC s.2.2
def innP (lc:Nat) (s:Sg):Bool:=!rimB lc s.2.1&&nmC s.2.2
inductive xtx (t:Adr) (vs:List V) (H:Hp) (Q:VK) (_:XK):Prop
 | mk (a o i:Addr) (lc:Nat) (os is:List Sg) (s:Sg) (e_:vs=[.ref a,.int (s.1:Int),.int (s.2.1:Int),sgn s.2.2]) (r_:Let t H a o i lc os is/\is.length<=600/\os.length<=600/\mayB lc os is s=true/\∀ H',(∀ b u,b≠o->b≠i->H b=some u->H' b=some u)->Let t H' a o i lc (if outP lc s then os++[s] else os) (if innP lc s then is++[s] else is)->Q .non H')
theorem xoh (a b:Nat):eqV (sgn a) (sgn b)=decide (a=b):=by
 show ((⟨#[a]⟩:Str) == ⟨#[b]⟩)=decide (a=b);rw[Je,beq_iff_eq,decide_eq_true_iff];exact⟨fun h=>xd7 h,fun h=>by rw[h]⟩
theorem xmb (c:Nat) (cs:List Nat):inV (sgn c) (cs.map sgn)=decide (c∈cs):=by
 unfold inV;rw[List.any_map,Je,List.any_eq_true,decide_eq_true_iff];constructor
 .rintro ⟨x,hx,e⟩;have e:eqV (sgn x) (sgn c)=true:=e;rw[xoh] at e;exact of_decide_eq_true e▸hx
 .exact fun h=>⟨c,h,by show eqV (sgn c) (sgn c)=true; rw[xoh]; exact decide_eq_true rfl⟩
def hitB (H:Hp) (i j:Nat) (kx:Key × V):Bool:=match kx.2 with
 | .ref a=>(match H a with
  | some (.tup [.int r,.int c])=>decide (r=(i:Int))||decide (c=(j:Int))
  | _=>false)
 | _=>false
theorem xo2 {H:Hp}{i j:Nat}{k:Key}{q:Addr}{s:Sg} (h:H q=some (.tup [.int (s.1:Int),.int (s.2.1:Int)])):hitB H i j (k,.ref q)=(decide (s.1=i)||decide (s.2.1=j)):=by
 unfold hitB;simp only[h];rw[Je];simp only[Qa,decide_eq_true_iff];omega
theorem LD.filt {H:Hp}{es:List Sg}{kvs:List (Key × V)} (h:LD H es kvs) (i j:Nat):LD H (es.filter fun s=>decide (s.1=i)||decide (s.2.1=j)) (kvs.filter (hitB H i j)):=by
 induction h with
 | nil=>exact .nil
 | @cons s q es kvs h r ih =>
  rw[Y1,Y1,xo2 h];cases decide (s.1=i)||decide (s.2.1=j) with
  | true=>exact .cons h ih
  | false=>exact ih
theorem LD.dv {K:Zd}{H:Hp}{es:List Sg}{kvs:List (Key × V)} (h:LD H es kvs) {l:Addr} (e:H l=some (.lst (kvs.map (·.2)))):Dv K H 2 (.ref l) (.lst (es.map fun s=>DV.tup [.int (s.1:Int),.int (s.2.1:Int)])):=by
 refine .lst (SqL.of e) (by rw[Za,Za,h.len]) fun j x d h1 h2=>?_;rw[Zg] at h1 h2;obtain⟨⟨k,x'⟩,hx,rfl⟩:=Zk.mp h1;obtain⟨s,hs,rfl⟩:=Zk.mp h2;obtain⟨s',q,hs',_,ex,hq⟩:=h.get hx;rw[hs] at hs';cases hs';show Dv K H 1 x' _;rw[ex];exact xtv hq
theorem xsi {α:Type} (f:α->DV) (es:List α) [Decidable (es=[])]:dEq (.lst (es.map f)) (.lst [])=decide (es=[]):=by
 cases es with
 | nil=>simp[dEq,dEqs]
 | cons x xs=>simp[dEq,dEqs]
inductive xuk (vs:List V) (H:Hp) (Q:VK) (_:XK):Prop
 | mk (x:Str) (e_:vs=[.str x]) (r_:x.length<=1000/\Q (.bl (isNm x)) H)
theorem okD_au (T:Txt w K mg t):FnOk true P w K mg base (CXo P w) 1 t.f_au t.d_au ["thing"] (xuk):=by
 refine T.F_au.okn (k:=0) sc_au (fun vs H Q E h=>?_) (fun cdv A outer s H vs Q E hr h=>?_)
 .obtain ⟨x,rfl,_⟩:=h;rfl
 .obtain ⟨x,rfl,h⟩:=h;refine⟨_,xn (x0 (xcr (xw xba rfl T.n_isinstance boot_isinstance (xb (pv 0) (xb (xca (v:=.ty "str") rfl T.n_str boot_str rfl) (xg)))) (xcr (xce xbr (xw xbc rfl T.n_len J0 (xb (pv 0) (xg))) (xk) (x8 _)) (xc4 (xg5 xef xef (x6) (pv 0) (x6)))))),?_⟩;obtain⟨xl,q⟩:=h;refine⟨_,rfl,_,_,rfl,.inl ⟨_,_,true,.str x,rfl,xbf,true,rfl,iteT ?_⟩⟩;refine⟨_,rfl,_,rfl,(by first|exact Z6 xl (by decide)|exact Zy xl (by decide)|omega),rfl,_,rfl,ite2 (fun c=>?_) (fun c=>?_)⟩
  .have l1:x.length=1:=by
    have z:(x.length:Int)=1:=by simpa using c
    omega
   unfold isNm at q;rw[decide_eq_true l1,JZ] at q;refine⟨_,rfl,_,_,rfl,rfl,_,rfl,ite2 (fun d=>?_) (fun d=>?_)⟩
   .refine ⟨_,_,rfl,rfl,?_⟩;rw[xm8] at d;rw[xrc];rw[d,JZ] at q;exact q
   .rw [xm8] at d;rw[Jq.mpr d,Yd] at q;exact q
  .have l1:¬ x.length=1:=fun z=>c (by rw[z]; rfl);unfold isNm at q;rw[decide_eq_false l1,Yd] at q;exact q
theorem ok_al (T:Txt w K mg t):FnOk true P w K mg base (CXo P w) 1 t.f_al t.d_al ["self", "last_column"] (xs3 t):=by
 refine T.F_al.okn (k:=0) sc_al (fun vs H Q E h=>?_) (fun cdv A outer s H vs Q E hr h=>?_)
 .obtain ⟨p,dx,lc,rfl,_⟩:=h;rfl
 .obtain ⟨p,dx,lc,rfl,h⟩:=h;refine⟨_,xj (xdr (pv 0) (pv 1) rfl)
   (xj (xdr (pv 0) (xfd) rfl)
   (xn (xdr (pv 0) (xfd) rfl))),?_⟩
  obtain⟨hp,q⟩:=h;refine⟨_,rfl,_,rfl,p,_,dx,_,rfl,hp,T.c_t,T.n_bb,(by show 0<1000; decide),?_⟩;refine fun o ho=>?_;have n1:p≠o:=xi xf ho;refine⟨_,rfl,p,_,dx,_,rfl,(by rw[xh n1]; exact xf),T.c_t,T.n_bc,(by show 1<1000; decide),fun i hi=>?_⟩;have n2:p≠i:=xi xf hi;have n3:o≠i:=xi (by rw[xh (ZI n1)]; exact xf) hi;refine⟨_,rfl,p,_,dx,_,rfl,(by rw[xh n2]; exact xf),T.c_t,T.n_a9,(by show 2<1000; decide),?_⟩;rw[xh (ZI n1)] at ho;have hi0:H i=none:=by rw[xh (ZI n2),xh (ZI n3),xh (ZI n2)] at hi; exact hi
  refine q _ o i ho hi0 (fun b u nb e=>?_) ⟨⟨dx,xf⟩,⟨[],?_,.nil⟩,⟨[],?_,.nil⟩,n3⟩
  .have c1:b≠o:=xi e ho;have c2:b≠i:=xi e hi0;rw[xh nb,xh c2,xh nb,xh c1,xh nb];exact e
  .rw [xh (ZI n1),xh n3,xh (ZI n1)];exact xf
  .rw [xh (ZI n2)];exact xf
theorem ok_m (T:Txt w K mg t):FnOk true P w K mg base (CXo P w) 1 t.f_m t.d_m ["self", "column"] (xsg t):=by
 refine T.F_m.okn (k:=0) sc_m (fun vs H Q E h=>?_) (fun cdv A outer s H vs Q E hr h=>?_)
 .obtain ⟨a,o,i,lc,os,is,j,rfl,_⟩:=h;rfl
 .obtain ⟨a,o,i,lc,os,is,j,rfl,h⟩:=h;refine⟨_,xn (x0 (xce xfv (pv 1) (x4 (xb (xk) (xb (xaa (pv 0) rfl) (xg)))) (by rfl))),?_⟩;obtain⟨lt,q⟩:=h;obtain⟨⟨dx,ins⟩,_⟩:=id lt;refine⟨_,rfl,_,rfl,a,_,dx,_,_,rfl,ins,T.c_t,T.n_bb,ltL,(by show 2<=sizeLine; decide),fun p1 hp1=>?_⟩;have s1:Same H (upd H p1 (.tup [.int 0,.int (lc:Int)])):=xo (Same.refl _) hp1;have g1:upd H p1 (.tup [.int 0,.int (lc:Int)]) p1=some (.tup [.int 0,.int (lc:Int)]):=xf;revert s1 g1;generalize upd H p1 (.tup [.int 0,.int (lc:Int)])=H1;intro s1 g1;refine⟨p1,_,rfl,.inr (SqT.of g1),rfl,rfl,?_⟩;have e:inV (.int (j:Int)) [.int 0,.int (lc:Int)]=rimB lc j:=by
   show ((0:Int) == (j:Int)||(((lc:Int) == (j:Int))||false))=rimB lc j;unfold rimB;rw[Je];simp only[Qa,Wn,beq_iff_eq,decide_eq_true_iff];omega
  rw[if_neg (by decide),e];exact q H1 s1
theorem ok_o (T:Txt w K mg t):FnOk true P w K mg base (CXo P w) 1 t.f_o t.d_o ["self", "row", "column", "name"] (xv0 t):=by
 refine T.F_o.okn (k:=0) sc_o (fun vs H Q E h=>?_) (fun cdv A outer s H vs Q E hr h=>?_)
 .obtain ⟨a,o,i,lc,os,is,s,rfl,_⟩:=h;rfl
 .obtain ⟨a,o,i,lc,os,is,s,rfl,h⟩:=h;refine⟨_,xj (xig (xcc rfl (xa4 (zs:=["other", "place"]) (ys:=["row", "column"]) (fr:=[1,2]) (N0:=["self", "row", "column", "name", "places"]) (sc0:=xp s_o) (by decide +kernel) rfl rfl rfl) (xfg (xaa (pv 0) rfl)) (fun _ _ _ _ _ ow nd=>(xan rfl (xr (xq (i:=0) nd rfl (Zp (ow _ (by simp))) (Jf (ow _ (by simp)))) (xr (xq (i:=1) nd rfl (Zp (ow _ (by simp))) (Jf (ow _ (by simp)))) (xad))):PG _ _ (gTup K 2 _))) (xe4 (xbt (by decide) (xbt (by decide) (xec)))) (fun _ _ _ _ _=>xgb (PW.pt (xcj (x9 xbr (xax (r:=rIxT K) xbj (pv 1) (xk) (fun _ _=>rfl)) (pv 2) (x8 _)) (xcd (x9 xbr (xax (r:=rIxT K) xbj (pv 1) (xk) (fun _ _=>rfl)) (pv 3) (x8 _)))))) (fun _ _ _ _ _=>pv 1) (j:=4) rfl (Zp rfl)))
   (xn (x0 (xcr (xny (xdt (xa5 hr) (pv 3) (xaa (pv 0) rfl))) (xcr (xce (xfz (xb1 hr)) (pv 4) (xa8 (xg)) (x8 _)) (xc4 (xce xj4 (xw xi3 rfl T.n_len J0 (xb (xaa (pv 0) rfl) (xg))) (xbn (v:=.int 12) rfl T.v_bl.choose_spec ⟨_,rfl⟩) (x8 _))))))),?_⟩
  obtain⟨lt,i6,q⟩:=h;obtain⟨⟨dx,ins⟩,_,⟨kvs,hk,ld⟩,_⟩:=id lt;have kl:=ld.len;refine⟨_,rfl,a,_,dx,_,_,rfl,ins,T.c_t,T.n_a9,ltI,i,kvs,rfl,hk,fun ob nf l hl=>?_⟩;have nl:l≠i:=fun z=>by
   rw[z,xf] at hl;cases hl
  have hl0:H l=none:=by rwa [xh nl] at hl
  refine xlr xf (by rw[kl]; exact Z6 (by omega:_<=1000) (by decide)) hl (hitB H s.1 s.2.1) (fun n k x p H2 hx s2 hp N M hN hM=>?_) (fun H2 s2 e2=>?_)
  .obtain ⟨z,qa,hz,rfl,rfl,hqa⟩:=ld.get hx;have hq2:H2 qa=some (.tup [.int (z.1:Int),.int (z.2.1:Int)]):=s2 _ _ (by rw[xh (xae hqa hk (fun z=>nomatch z))]; exact hqa);have hq3:upd H2 p (.tup [kV (.inr (ofL [z.2.2])),.ref qa]) qa=some (.tup [.int (z.1:Int),.int (z.2.1:Int)]):=by
    rw[xh (xi hq2 hp)];exact hq2
   have hb:=xo2 (i:=s.1) (j:=s.2.1) (k:=.inr (ofL [z.2.2])) hqa;refine⟨p,_,rfl,SqT.of xf,rfl,_,_,rfl,_,_,rfl,rfl,?_⟩;refine⟨_,rfl,qa,_,0,.int (z.1:Int),rfl,rfl,SqT.of hq3,rfl,_,rfl,rfl,_,rfl,ite2 (fun c=>?_) (fun c=>?_)⟩
   .have c1:z.1=s.1:=by
     have:=V.int.inj (of_decide_eq_true c);omega
    refine iteT ⟨_,rfl,hN _ (Same.refl _) ?_⟩;rw[hb,decide_eq_true c1];rfl
   .have c1:¬ z.1=s.1:=fun e=>c (decide_eq_true (by rw[e]));refine⟨_,rfl,qa,_,1,.int (z.2.1:Int),rfl,rfl,SqT.of hq3,rfl,_,rfl,rfl,_,rfl,ite2 (fun c'=>?_) (fun c'=>?_)⟩
    .have c2:z.2.1=s.2.1:=by
      have:=V.int.inj (of_decide_eq_true c');omega
     refine⟨_,rfl,hN _ (Same.refl _) ?_⟩;rw[hb,decide_eq_true c2,JW]
    .have c2:¬ z.2.1=s.2.1:=fun e=>c' (decide_eq_true (by rw[e]));refine hM _ (Same.refl _) ?_;rw[hb,decide_eq_false c1,decide_eq_false c2];rfl
  have hi2:=s2 _ _ (show upd H i (.frz ob (.dK kvs)) i=_ from xf);refine⟨i,ob,.dK kvs,hi2,nf,?_⟩;have s3:Same H (upd H2 i (.dK kvs)):=fun b u e=>by
   by_cases z:b=i
   .subst z;rw[xf,<- e,hk]
   .rw [xh z];exact s2 _ _ (by rw[xh z]; exact e)
  have e3:upd H2 i (.dK kvs) l=some (.lst ((kvs.filter (hitB H s.1 s.2.1)).map (·.2))):=by
   rw[xh nl];exact e2
  revert s3 e3;generalize upd H2 i (.dK kvs)=H3;intro s3 e3;clear hi2 e2 s2;have ins3:=s3 _ _ ins;have hk3:=s3 _ _ hk;have ld3:=((ld.filt s.1 s.2.1).keep (Same.tups s3))
  refine⟨_,rfl,_,rfl,a,_,dx,_,_,rfl,ins3,T.c_t,T.n_a9,ltI,i,_,rfl,DGet.k (k:=.inr (ofL [s.2.2])) hk3,_,rfl,?_⟩;rw[ld.is];have e0:lieB is s.1 s.2.1 s.2.2=(decide (s.2.2∉is.map fun s=>s.2.2)&&(decide ((is.filter fun z=>decide (z.1=s.1)||decide (z.2.1=s.2.1))=[])&&decide (is.length<12))):=rfl;refine ite2 (fun c=>?_) (fun c=>?_)
  .have c1:s.2.2∉is.map fun s=>s.2.2:=by simpa using c
   rw[decide_eq_true c1,JZ] at e0;refine⟨_,rfl,(by show 0<=sizeLine; decide),fun l0 hl0'=>?_⟩;have s4:Same H3 (upd H3 l0 (.lst [])):=xo (Same.refl _) hl0';have g4:upd H3 l0 (.lst []) l0=some (.lst []):=xf;revert s4 g4;generalize upd H3 l0 (.lst [])=H4;intro s4 g4;refine⟨2,1,_,.lst [],(ld3.keep (Same.tups s4)).dv (s4 _ _ e3),.lst (SqL.of g4) rfl (fun j x d h1=>by simp at h1),by decide,by decide,_,rfl,?_⟩;rw[xsi];refine ite2 (fun c2=>?_) (fun c2=>?_)
   .rw [c2,JZ] at e0;refine⟨_,rfl,a,_,dx,_,_,rfl,s4 _ _ ins3,T.c_t,T.n_a9,ltI,i,kvs,rfl,s4 _ _ hk3,_,_,rfl,rfl,?_⟩;rw[e0] at q;have e5:decide ((kvs.length:Int)<12)=decide (is.length<12):=by
     rw[kl,Je,decide_eq_true_iff,decide_eq_true_iff];omega
    show Q (.bl (decide ((kvs.length:Int)<12))) H4;rw[e5];exact q _ (s3.trans s4)
   .rw [Jq.mpr c2,Yd] at e0;rw[e0] at q;exact q _ (s3.trans s4)
  .have c1:¬ s.2.2∉is.map fun s=>s.2.2:=fun z=>c (by simpa using z);rw[decide_eq_false c1,Yd] at e0;rw[e0] at q;exact q _ s3
theorem ok_k (T:Txt w K mg t):FnOk true P w K mg base (CXo P w) 2 t.f_k t.d_k ["self", "row", "column", "sign"] (xrt t):=by
 refine T.F_k.okn (k:=1) sc_k (fun vs H Q E h=>?_) (fun cdv A outer s H vs Q E hr h=>?_)
 .obtain ⟨a,o,i,lc,os,is,s,rfl,_⟩:=h;rfl
 .obtain ⟨a,o,i,lc,os,is,s,rfl,h⟩:=h;refine⟨_,xj (xag (xa9 (xa3 (pv 0) T.c_t T.m_m (ok_m T) (hmm hr) T.b_m .nil xm (xb (pv 2) (xg)))) (xn (x0 (xrh (xce xfv (pv 3) (x4 (xb (x6) (xb (x6) (xg)))) (by rfl)) (xc4 (xcr (xt (okD_au T) (hmm hr) rfl T.g_au T.F_au.kp T.b_au .nil xm (xb (pv 3) (xg))) (xc4 (xny (xdt (xa5 hr) (pv 3) (xaa (pv 0) rfl))))))))) (x5))
   (xn ((by (with_reducible refine' x0 ?e17); (case e17=>((exact xrh (xce xfv (pv 3) (x4 (xah (x6) (xah (x6) (xah (x6) (xah (x6) (xah (x6) (xg) rfl) rfl) rfl) rfl) rfl)) (by rfl)) (xc4 (xcr (xt (okD_au T) (hmm hr) rfl T.g_au T.F_au.kp T.b_au .nil xm (xb (pv 3) (xg))) (xc4 (xa3 (pv 0) T.c_t T.m_o (ok_o T) (hmm hr) T.b_o .nil xm (xb (pv 1) (xb (pv 2) (xb (pv 3) (xg)))))))))))))),?_⟩
  obtain⟨lt,i6,q⟩:=h;obtain⟨⟨dx,ins⟩,_⟩:=id lt;refine⟨_,rfl,a,dx,_,rfl,ins,xga (by decide +kernel),_,rfl,a,o,i,lc,os,is,s.2.1,rfl,lt,fun H1 s1=>⟨_,rfl,ite2 (fun c=>?_) (fun c=>?_)⟩⟩
  .have e0:mayB lc os is s=((decide (s.2.2=32)||decide (s.2.2=46))||(nmC s.2.2&&decide (s.2.2∉os.map fun s=>s.2.2))):=by
    unfold mayB;rw[if_pos c]
   refine⟨_,rfl,(by show 2<=sizeLine; decide),fun p1 hp1=>?_⟩;have s2:Same H1 (upd H1 p1 (.tup [.str (Zb " "),.str (Zb ".")])):=xo (Same.refl _) hp1;have g2:upd H1 p1 (.tup [.str (Zb " "),.str (Zb ".")]) p1=some (.tup [.str (Zb " "),.str (Zb ".")]):=xf;revert s2 g2;generalize upd H1 p1 (.tup [.str (Zb " "),.str (Zb ".")])=H2;intro s2 g2;refine⟨p1,_,rfl,.inr (SqT.of g2),rfl,rfl,_,rfl,?_⟩;have s02:=s1.trans s2;have lt2:=lt.same s02;have e1:(if false=true then !inV (sgn s.2.2) [.str (Zb " "),.str (Zb ".")] else inV (sgn s.2.2) [.str (Zb " "),.str (Zb ".")])=(decide (s.2.2=32)||decide (s.2.2=46)):=by
    have:=xmb s.2.2 [32,46];rw[show (([32,46]:List Nat).map sgn)=[.str (Zb " "),.str (Zb ".")] from by decide +kernel] at this;rw[if_neg Z7,this,Je];simp
   rw[e1];refine ite2 (fun c1=>?_) (fun c1=>?_)
   .rw [c1,Bool.true_or] at e0;rw[e0] at q;exact q _ s02
   .rw [Jq.mpr c1,Wo] at e0;refine⟨_,rfl,_,rfl,(by decide:(1:Nat)<=1000),_,rfl,?_⟩;rw[show isNm (⟨#[s.2.2]⟩:Str)=nmC s.2.2 from xh0 _];obtain⟨⟨dx2,ins2⟩,⟨kvs,hk,ld⟩,_⟩:=id lt2;refine ite2 (fun c2=>?_) (fun c2=>?_)
    .rw [c2,JZ] at e0;refine⟨_,rfl,_,rfl,a,_,dx2,_,_,rfl,ins2,T.c_t,T.n_bc,ltO,o,_,rfl,DGet.k (k:=.inr (ofL [s.2.2])) hk,?_⟩;rw[ld.is];rw[e0] at q;have:=q _ s02;rw[decide_not] at this;exact this
    .rw [Jq.mpr c2,Yd] at e0;rw[e0] at q;exact q _ s02
  .have e0:mayB lc os is s=((([32,124,45,43,35]:List Nat).contains s.2.2)||(nmC s.2.2&&lieB is s.1 s.2.1 s.2.2)):=by
    unfold mayB;rw[if_neg c]
   refine⟨_,rfl,(by show 5<=sizeLine; decide),fun p1 hp1=>?_⟩;have s2:Same H1 (upd H1 p1 (.tup [.str (Zb " "),.str (Zb "|"),.str (Zb "-"),.str (Zb "+"),.str (Zb "#")])):=xo (Same.refl _) hp1;have g2:upd H1 p1 (.tup [.str (Zb " "),.str (Zb "|"),.str (Zb "-"),.str (Zb "+"),.str (Zb "#")]) p1=some (.tup [.str (Zb " "),.str (Zb "|"),.str (Zb "-"),.str (Zb "+"),.str (Zb "#")]):=xf;revert s2 g2;generalize upd H1 p1 (.tup [.str (Zb " "),.str (Zb "|"),.str (Zb "-"),.str (Zb "+"),.str (Zb "#")])=H2;intro s2 g2;refine⟨p1,_,rfl,.inr (SqT.of g2),rfl,rfl,_,rfl,?_⟩;have s02:=s1.trans s2;have lt2:=lt.same s02;have e1:(if false=true then !inV (sgn s.2.2) [.str (Zb " "),.str (Zb "|"),.str (Zb "-"),.str (Zb "+"),.str (Zb "#")] else inV (sgn s.2.2) [.str (Zb " "),.str (Zb "|"),.str (Zb "-"),.str (Zb "+"),.str (Zb "#")])=([32,124,45,43,35]:List Nat).contains s.2.2:=by
    have:=xmb s.2.2 [32,124,45,43,35];rw[show (([32,124,45,43,35]:List Nat).map sgn)=[.str (Zb " "),.str (Zb "|"),.str (Zb "-"),.str (Zb "+"),.str (Zb "#")] from by decide +kernel] at this;rw[if_neg Z7,this,Je];simp
   rw[e1];refine ite2 (fun c1=>?_) (fun c1=>?_)
   .rw [c1,Bool.true_or] at e0;rw[e0] at q;exact q _ s02
   .rw [Jq.mpr c1,Wo] at e0;refine⟨_,rfl,_,rfl,(by decide:(1:Nat)<=1000),_,rfl,?_⟩;rw[show isNm (⟨#[s.2.2]⟩:Str)=nmC s.2.2 from xh0 _];obtain⟨⟨dx2,ins2⟩,_⟩:=id lt2;refine ite2 (fun c2=>?_) (fun c2=>?_)
    .rw [c2,JZ] at e0;refine⟨_,rfl,a,dx2,_,rfl,ins2,xga (by decide +kernel),_,rfl,_,rfl,_,rfl,a,o,i,lc,os,is,s,rfl,lt2,i6,fun H3 s3=>?_⟩;rw[e0] at q;exact q _ (s02.trans s3)
    .rw [Jq.mpr c2,Yd] at e0;rw[e0] at q;exact q _ s02
theorem ok_z (T:Txt w K mg t):FnOk true P w K mg base (CXo P w) 3 t.f_z t.d_z ["self", "row", "column", "sign"] (xtx t):=by
 refine T.F_z.okn (k:=2) sc_z (fun vs H Q E h=>?_) (fun cdv A outer s H vs Q E hr h=>?_)
 .obtain ⟨a,o,i,lc,os,is,s,rfl,_⟩:=h;rfl
 .obtain ⟨a,o,i,lc,os,is,s,rfl,h⟩:=h;refine⟨_,xj (xag (xbh (xa9 (xa3 (pv 0) T.c_t T.m_k (ok_k T) (hmm hr) T.b_k .nil xm (xb (pv 1) (xb (pv 2) (xb (pv 3) (xg))))))) (xn (xa1)) (x5))
   (xn (xag (xa9 (xt (okD_au T) (hmm hr) rfl T.g_au T.F_au.kp T.b_au .nil xm (xb (pv 3) (xg)))) (xj (xx (i:=4) sc_z.nd rfl (Zp rfl) (xde (xa9 (xa3 (pv 0) T.c_t T.m_m (ok_m T) (hmm hr) T.b_m .nil xm (xb (pv 2) (xg)))) (xaa (pv 0) rfl) (xaa (pv 0) rfl)))
   (xn (xcf (xa5 hr) (pv 4) (pv 3) (x4 (xb (pv 1) (xb (pv 2) (xg)))) rfl))) (x5))),?_⟩
  obtain⟨lt,i6,o6,my,q⟩:=h;obtain⟨⟨dx,ins⟩,_⟩:=id lt;refine⟨_,rfl,a,dx,_,rfl,ins,xga (by decide +kernel),_,rfl,_,rfl,_,rfl,a,o,i,lc,os,is,s,rfl,lt,i6,fun H1 s1=>⟨_,rfl,ifN (by rw[my]; rfl) ?_⟩⟩;refine⟨_,rfl,_,rfl,(by decide:(1:Nat)<=1000),_,rfl,?_⟩;rw[show isNm (⟨#[s.2.2]⟩:Str)=nmC s.2.2 from xh0 _];have lt1:=lt.same s1;refine ite2 (fun c=>?_) (fun c=>?_)
  .obtain ⟨⟨dx1,ins1⟩,_⟩:=id lt1;refine⟨_,rfl,a,dx1,_,rfl,ins1,xga (by decide +kernel),_,rfl,a,o,i,lc,os,is,s.2.1,rfl,lt1,fun H2 s2=>⟨_,rfl,?_⟩⟩;have s02:=s1.trans s2;have lt2:=lt.same s02;obtain⟨⟨dx2,ins2⟩,⟨ko,hko,ldo⟩,⟨ki,hki,ldi⟩,ne⟩:=id lt2;have klo:=ldo.len;have kli:=ldi.len;refine ite2 (fun r=>?_) (fun r=>?_)
   .have nin:s.2.2∉os.map fun s=>s.2.2:=by
     unfold mayB at my;rw[if_pos r] at my;have n1:¬ s.2.2=32:=fun z=>by rw[z] at c; exact absurd c (by decide)
     have n2:¬ s.2.2=46:=fun z=>by rw[z] at c; exact absurd c (by decide)
     rw[decide_eq_false n1,decide_eq_false n2,c,Wn,Wo,JZ] at my;exact of_decide_eq_true my
    refine⟨_,rfl,a,_,dx2,_,_,rfl,ins2,T.c_t,T.n_bc,ltO,_,rfl,_,rfl,(by show 2<=sizeLine; decide),fun qa hqa=>?_⟩;have s3:Same H2 (upd H2 qa (.tup [.int (s.1:Int),.int (s.2.1:Int)])):=xo (Same.refl _) hqa;have g3:upd H2 qa (.tup [.int (s.1:Int),.int (s.2.1:Int)]) qa=some (.tup [.int (s.1:Int),.int (s.2.1:Int)]):=xf;revert s3 g3;generalize upd H2 qa (.tup [.int (s.1:Int),.int (s.2.1:Int)])=H3;intro s3 g3;refine⟨_,rfl,_,rfl,o,_,rfl,DPut.k (k:=.inr (ofL [s.2.2])) (s3 _ _ hko) (by rw[klo]; exact Z6 (by omega:_<=1000) (by decide)),?_⟩;have hv:valV ko (.inr (ofL [s.2.2]))=none:=by
     have:=ldo.is s.2.2;rw[decide_eq_false nin] at this;exact Option.isNone_iff_eq_none.mp (by rw[<- Option.not_isSome,this]; rfl)
    rw[xdg _ hv];have kp:∀ b u,b≠o->H3 b=some u->upd H3 o (.dK (ko++[(.inr (ofL [s.2.2]),.ref qa)])) b=some u:=fun b u nb e=>by rw[xh nb]; exact e
    have kt:Tups H3 (upd H3 o (.dK (ko++[(.inr (ofL [s.2.2]),.ref qa)]))):=fun b xs e=>kp _ _ (xae e (s3 _ _ hko) (fun z=>nomatch z)) e;refine q _ (fun b u nb _ e=>kp _ _ nb (s3 _ _ (s02 _ _ e))) ?_;rw[if_pos (by unfold outP; rw[r,c]; rfl),if_neg (by unfold innP; rw[r]; simp)];exact⟨⟨dx2,kp _ _ (xae ins2 hko (fun z=>nomatch z)) (s3 _ _ ins2)⟩,⟨_,xf,(((ldo.keep (Same.tups s3)).snoc g3).keep kt)⟩,⟨ki,kp _ _ (ZI ne) (s3 _ _ hki),(ldi.keep (Same.tups s3)).keep kt⟩,ne⟩
   .have r':=Jq.mpr r;have lie:lieB is s.1 s.2.1 s.2.2=true:=by
     unfold mayB at my;rw[if_neg r,c,JZ] at my;rcases Qa _ _▸my with z|z
     .exfalso;have z:=List.contains_iff_mem.mp z;have c':97<=s.2.2:=by
       unfold nmC at c;exact of_decide_eq_true (Z4 _ _▸c).1
      have z:s.2.2=32\/s.2.2=124\/s.2.2=45\/s.2.2=43\/s.2.2=35:=by simpa using z
      have c2:s.2.2<=122:=by
       unfold nmC at c;exact of_decide_eq_true (Z4 _ _▸c).2
      omega
     .exact z
    have nin:s.2.2∉is.map fun s=>s.2.2:=by
     unfold lieB at lie;exact of_decide_eq_true (Z4 _ _▸lie).1
    refine⟨_,rfl,a,_,dx2,_,_,rfl,ins2,T.c_t,T.n_a9,ltI,_,rfl,_,rfl,(by show 2<=sizeLine; decide),fun qa hqa=>?_⟩;have s3:Same H2 (upd H2 qa (.tup [.int (s.1:Int),.int (s.2.1:Int)])):=xo (Same.refl _) hqa;have g3:upd H2 qa (.tup [.int (s.1:Int),.int (s.2.1:Int)]) qa=some (.tup [.int (s.1:Int),.int (s.2.1:Int)]):=xf;revert s3 g3;generalize upd H2 qa (.tup [.int (s.1:Int),.int (s.2.1:Int)])=H3;intro s3 g3;refine⟨_,rfl,_,rfl,i,_,rfl,DPut.k (k:=.inr (ofL [s.2.2])) (s3 _ _ hki) (by rw[kli]; exact Z6 (by omega:_<=1000) (by decide)),?_⟩;have hv:valV ki (.inr (ofL [s.2.2]))=none:=by
     have:=ldi.is s.2.2;rw[decide_eq_false nin] at this;exact Option.isNone_iff_eq_none.mp (by rw[<- Option.not_isSome,this]; rfl)
    rw[xdg _ hv];have kp:∀ b u,b≠i->H3 b=some u->upd H3 i (.dK (ki++[(.inr (ofL [s.2.2]),.ref qa)])) b=some u:=fun b u nb e=>by rw[xh nb]; exact e
    have kt:Tups H3 (upd H3 i (.dK (ki++[(.inr (ofL [s.2.2]),.ref qa)]))):=fun b xs e=>kp _ _ (xae e (s3 _ _ hki) (fun z=>nomatch z)) e;refine q _ (fun b u _ nb e=>kp _ _ nb (s3 _ _ (s02 _ _ e))) ?_;rw[if_neg (by unfold outP; rw[r']; simp),if_pos (by unfold innP; rw[r',c]; rfl)];exact⟨⟨dx2,kp _ _ (xae ins2 hki (fun z=>nomatch z)) (s3 _ _ ins2)⟩,⟨ko,kp _ _ ne (s3 _ _ hko),(ldo.keep (Same.tups s3)).keep kt⟩,⟨_,xf,(((ldi.keep (Same.tups s3)).snoc g3).keep kt)⟩,ne⟩
  .have c':=Jq.mpr c;refine q _ (fun b u _ _ e=>s1 _ _ e) ?_;rw[if_neg (by unfold outP; rw[c',Qm]; decide),if_neg (by unfold innP; rw[c',Qm]; decide)];exact lt1
theorem xf1 {α β:Type}{f:α->β}{l' m:List β} (p:l'.Perm m):∀{l:List α},m=l.map f->∃ l2:List α,l2.Perm l/\l'=l2.map f:=by
 induction p with
 | nil =>
  intro l e;have:l=[]:=Qd.mp e.symm;subst this;exact⟨[],.refl _,rfl⟩
 | cons x _ ih =>
  intro l e;cases l with
  | nil=>cases e
  | cons a l =>
   rw[Zx] at e;obtain⟨rfl,e2⟩:=JS.inj e;obtain⟨l2,p2,rfl⟩:=ih e2;exact⟨a::l2,p2.cons a,rfl⟩
 | swap x y r =>
  intro l e;cases l with
  | nil=>cases e
  | cons a l =>
   cases l with
   | nil=>cases e
   | cons b l =>
    rw[Zx,Zx] at e;obtain⟨rfl,e2⟩:=JS.inj e;obtain⟨rfl,rfl⟩:=JS.inj e2;exact⟨b::a::l,.swap a b l,rfl⟩
 | trans _ _ ih1 ih2 =>
  intro l e;obtain⟨k2,p2,rfl⟩:=ih2 e;obtain⟨k1,p1,rfl⟩:=ih1 rfl;exact⟨k1,p1.trans p2,rfl⟩
theorem xhx {i:Nat}{r:List Nat}{s:Sg}:s∈sgR i r↔s.1=i/\s.2.1<r.length/\s.2.2=r.getD s.2.1 0:=by
 unfold sgR;rw[Ze];constructor
 .rintro ⟨j,hj,rfl⟩;exact⟨rfl,ZQ.mp hj,rfl⟩
 .rintro ⟨h1,h2,h3⟩;obtain⟨a,b,c⟩:=s
  dsimp only at h1 h2 h3
  exact⟨b,ZQ.mpr h2,by rw[h1,h3]⟩
theorem xgc {G:List (List Nat)}{n:Nat}{s:Sg}:s∈sgsN G n↔s.1<n/\s.2.1<(G.getD s.1 []).length/\s.2.2=(G.getD s.1 []).getD s.2.1 0:=by
 unfold sgsN;rw[Yg];constructor
 .rintro ⟨i,hi,hs⟩;obtain⟨h1,h2,h3⟩:=xhx.mp hs;subst h1;exact⟨ZQ.mp hi,h2,h3⟩
 .rintro ⟨h1,h2,h3⟩;exact⟨s.1,ZQ.mpr h1,xhx.mpr ⟨rfl,h2,h3⟩⟩
theorem xhy {W:Nat}{G:List (List Nat)} (o:Txs W G) {s:Sg}:s∈sgs G↔s.1<G.length/\s.2.1<W/\s.2.2=(G.getD s.1 []).getD s.2.1 0:=by
 unfold sgs;rw[xgc];have l:s.1<G.length->(G.getD s.1 []).length=W:=fun h=>by
  rw[Ju,Zf h];exact o.wd _ (List.getElem_mem h)
 constructor
 .rintro ⟨h1,h2,h3⟩;exact⟨h1,by rw[<- l h1]; exact h2,h3⟩
 .rintro ⟨h1,h2,h3⟩;exact⟨h1,by rw[l h1]; exact h2,h3⟩
abbrev xre (a b:Sg):Prop:=¬ (a.1=b.1/\a.2.1=b.2.1)
theorem xgh (G:List (List Nat)):∀ n,(sgsN G n).Pairwise xre
 | 0=>by
  unfold sgsN;exact JN.nil
 | n+1=>by
  have e:sgsN G (n+1)=sgsN G n++sgR n (G.getD n []):=by
   unfold sgsN;rw[JK,Y7,QE]
  rw[e,Yx];refine⟨xgh G n,?_,fun a ha b hb=>?_⟩
  .unfold sgR;rw[ZA];exact Y0.imp fun ne z=>ne z.2
  .have h1:=(xgc.mp ha).1;have h2:=(xhx.mp hb).1;intro z;omega
def inns (w:Nat) (G:List (List Nat)):List Sg:=(sgs G).filter (innP (w+1))
def outs (w:Nat) (G:List (List Nat)):List Sg:=(sgs G).filter (outP (w+1))
def rims (w:Nat) (G:List (List Nat)):List Sg:=(sgs G).filter fun s=>rimB (w+1) s.2.1&&decide (s.2.2≠32)
abbrev InNe (a b:Sg):Prop:=a.2.2≠b.2.2/\a.1≠b.1/\a.2.1≠b.2.1
structure xd0 (w:Nat) (G:List (List Nat)):Prop where
 tx:Txs (w+2) G
 sg:∀ s∈sgs G,nmC s.2.2=false->if rimB (w+1) s.2.1=true then s.2.2=32\/s.2.2=46 else s.2.2∈([32,124,45,43,35]:List Nat)
 in1:(inns w G).Pairwise InNe
 in2:(inns w G).length<=12
 ou1:((outs w G).map fun s=>s.2.2).Nodup
 ou2:∀ s∈outs w G,s.2.2∈(inns w G).map fun s=>s.2.2
theorem xu5 {α:Type}{l:List α}{k:Nat}{x:α} (h:l[k]?=some x):l=l.take k++x::l.drop (k+1):=by
 obtain⟨hk,rfl⟩:=Zi.mp h;rw[<- List.drop_eq_getElem_cons hk,QT]
theorem xid {α:Type}{l:List α}{k:Nat}{x:α} (h:l[k]?=some x) {p:α->Bool} (hp:p x=true):l.filter p=(l.take k).filter p++x::(l.drop (k+1)).filter p:=by
 have e:=congrArg (List.filter p) (xu5 h);rw[Jz,Ji hp] at e;exact e
theorem xrr {w:Nat}{G:List (List Nat)} (g:xd0 w G) {k:Nat}{s:Sg} (h:(sgs G)[k]?=some s):mayB (w+1) (((sgs G).take k).filter (outP (w+1))) (((sgs G).take k).filter (innP (w+1))) s=true:=by
 have ms:=Zn h;have sg:=g.sg s ms;unfold mayB;by_cases r:rimB (w+1) s.2.1=true
 .rw [if_pos r];rw[if_pos r] at sg;cases n:nmC s.2.2 with
  | false =>
   rcases sg n with z|z
   .rw [decide_eq_true z];rfl
   .rw [decide_eq_true z,JW];rfl
  | true =>
   have e:=g.ou1;unfold outs at e;rw[xid h (by unfold outP; rw[r,n]; rfl),ZB,Zx,ZZ] at e;have ni:s.2.2∉((sgs G).take k |>.filter (outP (w+1))).map fun s=>s.2.2:=fun z=>e.2.2 _ z _ Zr rfl;rw[decide_eq_true ni,Bool.and_true,JW]
 .rw [if_neg r];rw[if_neg r] at sg;have r':=Jq.mpr r;cases n:nmC s.2.2 with
  | false =>
   rw[List.contains_iff_mem.mpr (sg n)];rfl
  | true =>
   have pos:innP (w+1) s=true:=by unfold innP; rw[r',n]; rfl
   have e:=g.in1;have e2:=g.in2;unfold inns at e e2;rw[xid h pos,Yx] at e;rw[xid h pos,Zo,ZF] at e2;have all:∀ a∈((sgs G).take k).filter (innP (w+1)),InNe a s:=fun a ha=>e.2.2 a ha s Zr;have ni:s.2.2∉((sgs G).take k |>.filter (innP (w+1))).map fun s=>s.2.2:=fun z=>by
    obtain⟨a,ha,ea⟩:=Ze.mp z;exact (all a ha).1 ea
   have nf:(((sgs G).take k).filter (innP (w+1))).filter (fun z=>decide (z.1=s.1)||decide (z.2.1=s.2.1))=[]:=by
    rw[QH];intro a ha z;rcases Qa _ _▸z with z|z
    .exact (all a ha).2.1 (of_decide_eq_true z)
    .exact (all a ha).2.2 (of_decide_eq_true z)
   have lie:lieB (((sgs G).take k).filter (innP (w+1))) s.1 s.2.1 s.2.2=true:=by
    unfold lieB;rw[decide_eq_true ni,decide_eq_true nf,decide_eq_true (by omega)];rfl
   rw[lie,Bool.and_true,JW]
theorem xi6 {α:Type}{l:List α}{k:Nat}{x:α} (h:l[k]?=some x) (p:α->Bool):(l.take (k+1)).filter p=if p x then (l.take k).filter p++[x] else (l.take k).filter p:=by
 rw[ZV,h,Jz];cases e:p x with
 | true =>
  rw[if_pos rfl,show (some x).toList=[x] from rfl,Ji e];rfl
 | false =>
  rw[if_neg (by decide),show (some x).toList=[x] from rfl,Jr (by rw[e]; decide),List.filter_nil,Jy]
def nmLt (a b:Sg):Prop:=a.2.2<b.2.2
theorem xfx:∀(p:Sg) (es:List Sg),risingS (ofL [p.2.2]) (es.map fun s=>ofL [s.2.2])=true->(∀ s∈es,p.2.2<=s.2.2)/\es.Pairwise fun a b=>a.2.2<=b.2.2
 | p,[],_=>⟨fun _ z=>(nomatch z),.nil⟩
 | p,x::r,h=>by
  rw[Zx] at h;unfold risingS at h;rw[Z4,xac,xac] at h;obtain⟨h1,h2⟩:=h;obtain⟨i1,i2⟩:=xfx x r h2;have le:p.2.2<=x.2.2:=by
   simp[ZH.ltCps] at h1;omega
  refine⟨fun s hs=>?_,Qo.mpr ⟨i1,i2⟩⟩;rcases Z1.mp hs with z|z
  .rw [z];exact le
  .exact Zy le (i1 s z)
theorem xhv {es:List Sg} (h:sortedS (es.map fun s=>ofL [s.2.2])=true) (nd:(es.map fun s=>s.2.2).Nodup):es.Pairwise nmLt:=by
 have le:es.Pairwise fun a b=>a.2.2<=b.2.2:=by
  cases es with
  | nil=>exact .nil
  | cons x r =>
   obtain⟨i1,i2⟩:=xfx x r h;exact Qo.mpr ⟨i1,i2⟩
 rw[JJ,ZA] at nd;exact (le.and nd).imp fun z=>Nat.lt_of_le_of_ne z.1 z.2
theorem xmv:∀ cs:List Nat,YJ (Zb "") (cs.map fun n=>ofL [n])=ofL cs
 | []=>rfl
 | [c]=>rfl
 | c::d::r=>by
  apply xdd;have ih:=xmv (d::r);show (ofL [c]++Zb ""++YJ (Zb "") ((d::r).map fun n=>ofL [n])).cps.toList=_;rw[ih,xcv,xcv,xac,xac,xac];rfl
def One (m:Cl->Option Str):Prop:=∀ c s,m c=some s->s.length=1
def cd (m:Cl->Option Str) (c:Cl):Nat:=match m c with
 | some s=>s.cps.toList.headD 32
 | none=>32
theorem xvy {m:Cl->Option Str} (o:One m) (c:Cl):(m c).getD (Zb " ")=ofL [cd m c]:=by
 unfold cd;cases e:m c with
 | none=>rfl
 | some s =>
  have l:=o c s e;show s=ofL [s.cps.toList.headD 32];apply xdd;rw[xac];have l2:s.cps.toList.length=1:=by simpa [YT] using l
  cases h:s.cps.toList with
  | nil=>rw[h] at l2; cases l2
  | cons x r =>
   rw[h] at l2;have:r=[]:=by simpa using l2
   rw[this];rfl
def rowC (w:Nat) (r:Int) (m:Cl->Option Str):List Nat:=(Z3 (w+2)).map fun (j:Nat)=>cd m ((j:Int),r)
theorem xlw {m:Cl->Option Str} (o:One m) (w:Nat) (r:Int):rowT w r m=ofL (rowC w r m):=by
 unfold rowT rowC;rw[<- xmv,Zv]
 congr 1
 exact Yc fun j _=>xvy o _
def xeh (w h:Nat) (m:Cl->Option Str):List (List Nat):=(Z3 h).map fun (i:Nat)=>rowC w (1+(i:Int)) m
theorem xqi {m:Cl->Option Str} (o:One m) (w h:Nat):xdc w h m=GV (xeh w h m):=by
 unfold xdc GV xeh;rw[Zv];exact Yc fun i _=>by
  show V.str (rowT w (1+(i:Int)) m)=V.str (ofL (rowC w (1+(i:Int)) m));rw[xlw o]
inductive xtf (vs:List V) (H:Hp) (Q:VK) (_:XK):Prop
 | mk (l d:Addr) (w:Nat) (G:List (List Nat)) (m:Cl->Option Str) (e_:vs=[.ref l,.ref d]) (r_:H l=some (.lst (GV G))/\Txs (w+2) G/\H d=some (.lst (xdc w G.length m))/\One m/\(∀ s∈sgs G,cd m ((s.2.1:Int),1+(s.1:Int))=s.2.2)/\∀ H',Same H H'->Q .non H')
theorem TL.get {α:Type}{f:α->List V}{H:Hp}{as:List α}{qs:List Addr} (h:TL f H as qs) {i:Nat}{q:Addr} (e:qs[i]?=some q):∃ a,as[i]?=some a/\H q=some (.tup (f a)):=h.2 i q e
theorem ok_x (T:Txt w K mg t):FnOk true P w K mg base (CXo P w) 2 t.f_x t.d_x ["rows", "drawing"] (xtf):=by
 refine T.F_x.okn (k:=1) sc_x (fun vs H Q E h=>?_) (fun cdv A outer s H vs Q E hr h=>?_)
 .obtain ⟨l,d,w',G,m,rfl,_⟩:=h;rfl
 .obtain ⟨l,d,w',G,m,rfl,h⟩:=h;refine⟨_,xn (xa0 ZG rfl (xat (xt (ok_as T) (hmm hr) rfl T.g_as T.F_as.kp T.b_as .nil xm (xb (pv 0) (xg)))) (xan rfl (xr (xq (i:=2) sc_x.nd rfl (Zp rfl)) (xr (xq (i:=3) sc_x.nd rfl (Zp rfl)) (xr (xq (i:=4) sc_x.nd rfl (Zp rfl)) (xad))))) (xn (xag (x9 xge (pv 4) (xax xum (xax xbu (pv 1) (pv 2) (fun _ _=>rfl)) (pv 3) (fun _ _=>rfl)) (x8 _)) (xn (xa1)) (x5)))),?_⟩;obtain⟨hl,o,hd,o1,all,q⟩:=h;have h2:=o.h2;have w2:=o.w2;refine⟨_,rfl,l,w'+2,G,rfl,hl,o,fun H1 l1 qs s1 f1 e1 tl1=>⟨l1,rfl,⟨_,SqL.of e1⟩,?_⟩⟩;refine xa6 (xs:=qs.map V.ref) (Pv:=fun i Z H5=>∃(v2 v3 v4:Option V),Z=[some (.ref l),some (.ref d),v2,v3,v4]/\H5=H1) ⟨_,_,_,rfl,rfl⟩ ?_ ?_ ?_
  .rintro i Z H5 _ ⟨_,_,_,rfl,rfl⟩;exact SqL.of e1
  .rintro i x Z H5 hx ⟨v2,v3,v4,rfl,rfl⟩;rw[Zg,Zk] at hx;obtain⟨qa,hqa,rfl⟩:=hx;obtain⟨s,hs,hq⟩:=tl1.get hqa;have ms:=Zn hs;obtain⟨r1,r2,r3⟩:=(xhy o).mp ms;refine⟨qa,_,rfl,SqT.of hq,rfl,_,_,rfl,_,_,rfl,_,_,rfl,rfl,?_⟩;have rt:=xlw o1 w' (1+(s.1:Int));refine⟨_,rfl,_,rfl,_,rfl,d,_,_,.str (rowT w' (1+(s.1:Int)) m),rfl,rfl,SqL.of (s1 _ _ hd),?_,_,rfl,_,_,s.2.2,rfl,rfl,?_,?_,rfl,_,rfl,ifN ?_ ⟨_,_,_,rfl,rfl⟩⟩
   .refine xb9 ?_;unfold xdc;rw[Zg,Jn r1];rfl
   .rw [rt,xas];unfold rowC;rw[Za,Zs];exact Zy (by omega:_<=1000) (by decide)
   .rw [rt,xac];refine xb9 ?_;unfold rowC;rw[Zg,Jn r2];show some (cd m ((s.2.1:Int),1+(s.1:Int)))=_;rw[all s ms]
   .simp [sgn]
  .rintro Z H5 ⟨v2,v3,v4,rfl,rfl⟩;exact q _ s1
def toPt (h:Nat) (s:Sg):Pt:=⟨ofL [s.2.2],(s.2.1:Int),(s.1:Int)+1, "both",1,(h:Int)⟩
def xak (s:Sg):Seat:=(xfy s.2.1,(s.1:Int)+1)
theorem xr2 {w:Nat}{G:List (List Nat)} (o:Txs (w+2) G) {s:Sg} (h:s∈inns w G):s∈sgs G/\nmC s.2.2=true/\1<=s.2.1/\s.2.1<=w/\s.1<G.length:=by
 obtain⟨h1,h2⟩:=ZO.mp h;unfold innP rimB at h2;obtain⟨r1,r2,_⟩:=(xhy o).mp h1;simp only[Z4,Yu,Bool.or_eq_false_iff,decide_eq_false_iff_not] at h2;exact⟨h1,h2.2,by omega,by omega,r1⟩
theorem xe5 {lc j:Nat} (h:rimB lc j=true):j=0\/j=lc:=by
 unfold rimB at h;simpa using h
theorem xhk {α β:Type}{R:α->α->Prop}{f:α->β}{l:List α} (h:l.Pairwise R) (k:∀ a b,R a b->f a≠f b):(l.map f).Nodup:=by
 rw[JJ,ZA];exact h.imp fun {a b} z=>k a b z
theorem xh2 {w:Nat}{G:List (List Nat)} (g:xd0 w G) {es:List Sg} (pe:es.Perm (inns w G)):xdn (w:Int) (G.length:Int) (es.map (toPt G.length)):=by
 have nd:∀{β:Type} (f:Pt->β),(∀ a b:Sg,InNe a b->f (toPt G.length a)≠f (toPt G.length b))->((es.map (toPt G.length)).map f).Nodup:=fun f hf=>by
  rw[Zv];exact (pe.map _).nodup_iff.mpr (xhk (f:=f∘toPt G.length) g.in1 hf)
 refine⟨fun p hp=>?_,nd _ fun a b z e=>z.1 (xd7 e),nd _ fun a b z e=>z.2.2 ?_,nd _ fun a b z e=>z.2.1 ?_,?_⟩
 .obtain ⟨s,hs,rfl⟩:=Ze.mp hp;obtain⟨_,i2,i3,i4,i5⟩:=xr2 g.tx (pe.mem_iff.mp hs);have h1:=g.tx.h1;exact⟨by rw[show (toPt G.length s).nm=ofL [s.2.2] from rfl,xh0,i2],by show (1:Int)<=(s.2.1:Int); omega,by show (s.2.1:Int)<=_; omega,by show (1:Int)<=(s.1:Int)+1; omega,by show (s.1:Int)+1<=_; omega,.inr (.inr rfl),by show (1:Int)<=1; omega,by show (1:Int)<=(G.length:Int); omega,by show (G.length:Int)<=_; omega⟩
 .have e:(a.2.1:Int)=(b.2.1:Int):=e;omega
 .have e:(a.1:Int)+1=(b.1:Int)+1:=e;omega
 .rw [Za,pe.length_eq];exact g.in2
theorem xlz {w:Nat}{a b:Sg} (ra:rimB (w+1) a.2.1=true) (rb:rimB (w+1) b.2.1=true) (ne:xre a b):xak a≠xak b:=fun e=>by
 have e1:decide (a.2.1=0)=decide (b.2.1=0):=(JD.inj e).1;have e2:(a.1:Int)+1=(b.1:Int)+1:=(JD.inj e).2;rw[decide_eq_decide] at e1;refine ne ⟨by omega,?_⟩;rcases xe5 ra with x|x<;>rcases xe5 rb with y|y<;>omega
theorem xe3 {α:Type}{R S:α->α->Prop}{p:α->Bool}{l:List α} (h:l.Pairwise R) (k:∀ a b,p a=true->p b=true->R a b->S a b):(l.filter p).Pairwise S:=by
 have z:=(h.filter p)
 refine JN.imp_of_mem ?_ z;intro a b ha hb r;exact k a b (ZO.mp ha).2 (ZO.mp hb).2 r
theorem xnb {w:Nat}{G:List (List Nat)} (g:xd0 w G):SsOk (G.length:Int) ((rims w G).map xak):=by
 have nd:((rims w G).map xak).Nodup:=by
  refine xhk (R:=fun a b=>xak a≠xak b) ?_ fun _ _ z=>z;refine xe3 (xgh G _) fun a b ha hb z=>?_;exact xlz (Z4 _ _▸ha).1 (Z4 _ _▸hb).1 z
 have bd:∀ s∈(rims w G).map xak,1<=s.2/\s.2<=(G.length:Int):=fun s hs=>by
  obtain⟨z,hz,rfl⟩:=Ze.mp hs;have:=((xhy g.tx).mp (ZO.mp hz).1).1;exact⟨by show (1:Int)<=(z.1:Int)+1; omega,by show (z.1:Int)+1<=_; omega⟩
 refine⟨nd,?_,bd⟩;have h2:=g.tx.h2;have:=nd.length_le_of_subset (l₂:=xaz true G.length++xaz false G.length) fun s hs=>xr0 (bd s hs);have e:(xaz true G.length++xaz false G.length).length=G.length+G.length:=by
  unfold xaz;rw[Zo,Za,Za,Zs]
 omega
theorem xl4 {w:Nat}{G:List (List Nat)} (g:xd0 w G):((inns w G).map fun s=>s.2.2).Nodup:=xhk g.in1 fun _ _ z=>z.1
inductive xph (t:Adr) (vs:List V) (H:Hp) (Q:VK) (_:XK):Prop
 | mk (l a o i:Addr) (w:Nat) (G:List (List Nat)) (e_:vs=[.ref l,.ref a]) (r_:H l=some (.lst (GV G))/\Let t H a o i (w+1) (outs w G) (inns w G)/\xd0 w G/\∀(H':Hp) (b dp do_:Addr) (es:List Sg),Same H H'->H b=none->H dp=none->es.Perm (inns w G)->es.Pairwise nmLt->Pic t H' b dp do_ (w:Int) (G.length:Int) (es.map (toPt G.length))->Sts H' do_ ((rims w G).map xak)->Q (.ref b) H')
theorem ok_ag (T:Txt w K mg t):FnOk true P w K mg base (CXo P w) 7 t.f_ag t.d_ag ["rows", "letters"] (xph t):=by
 refine T.F_ag.okn (k:=6) sc_ag (fun vs H Q E h=>?_) (fun cdv A outer s H vs Q E hr h=>?_)
 .obtain ⟨l,a,o,i,w',G,rfl,_⟩:=h;rfl
 .obtain ⟨l,a,o,i,w',G,rfl,h⟩:=h;refine⟨_,xj (xx (i:=2) sc_ag.nd rfl (Jf rfl) (xw xbd rfl T.n_len J0 (xb (pv 0) (xg))))
   (xj (xcc rfl (xa4 (zs:=["name"]) (ys:=["height", "letters"]) (fr:=[2,1]) (N0:=["rows", "letters", "height", "points", "seats"]) (sc0:=xp s_ag) (by decide +kernel) rfl rfl rfl) (xat (xw (xed rfl) rfl T.n_sorted PyProof.Rows.Boot.«sorted» (xb (xaa (pv 1) rfl) (xg)))) (fun _ _ _ _ _ ow nd=>xq (i:=0) nd rfl (Zp (ow _ (by simp))) (Jf (ow _ (by simp)))) (xbg (by decide)) (fun _ _ _ _ _=>xbk) (fun _ _ _ _ _=>x4 (xah (pv 0) (xah (xax (r:=rIxT K) xbj (xd1 (xa5 hr) ((xaa (pv 2) rfl:PE _ _ (tFld K _ _))) (pv 0) (fun _ _=>rfl)) (xk) (fun _ _=>rfl)) (xah (xu xai (xax (r:=rIxT K) xbj (xd1 (xa5 hr) ((xaa (pv 2) rfl:PE _ _ (tFld K _ _))) (pv 0) (fun _ _=>rfl)) (xk) (fun _ _=>rfl)) (xk)) (xah (x6) (xah (xk) (xah (pv 1) (xg) rfl) rfl) rfl) rfl) rfl) rfl)) (j:=3) rfl (Zp rfl))
   (xj (xcc rfl (xa4 (zs:=["row", "column", "sign"]) (ys:=["letters"]) (fr:=[1]) (N0:=["rows", "letters", "height", "points", "seats"]) (sc0:=xp s_ag) (by decide +kernel) rfl rfl rfl) (xat (xt (ok_as T) (hmm hr) rfl T.g_as T.F_as.kp T.b_as .nil xm (xb (pv 0) (xg)))) (fun _ _ _ _ _ ow nd=>(xan rfl (xr (xq (i:=0) nd rfl (Zp (ow _ (by simp))) (Jf (ow _ (by simp)))) (xr (xq (i:=1) nd rfl (Zp (ow _ (by simp))) (Jf (ow _ (by simp)))) (xr (xq (i:=2) nd rfl (Zp (ow _ (by simp))) (Jf (ow _ (by simp)))) (xad)))):PG _ _ (gTup K 3 _))) (xe4 (xbt (by decide) (xbt (by decide) (xbt (by decide) (xec))))) (fun _ _ _ _ _=>xgb (PW.pt (xkg (xa9 (xa3 (pv 3) T.c_t T.m_m (ok_m T) (hmm hr) T.b_m .nil xm (xb (pv 1) (xg)))) (xio (x9 xge (pv 2) (x6) (x8 _)))))) (fun _ _ _ _ _=>xt (ok_a3 T) (hmm hr) rfl T.g_a3 T.F_a3.kp T.b_a3 .nil xm (xb (x4 (xb (pv 0) (xb (pv 1) (xg)))) (xg))) (j:=4) rfl (Zp rfl))
   (xn (x0 (xt (ok_y T) (hmm hr) rfl T.g_y T.F_y.kp T.b_y .nil xm (xb (xu xe0 (xaa (pv 1) rfl) (xk)) (xb (pv 2) (xb (pv 3) (xb (pv 4) (xg)))))))))),?_⟩
  obtain⟨hl,lt,g,q⟩:=h;have tx:=g.tx;have h1:=tx.h1;have h2:=tx.h2;have w1:=tx.w1;have w2:=tx.w2;have in2:=g.in2;obtain⟨⟨dx,ins⟩,_,⟨kvs,hk,ld⟩,_⟩:=id lt;refine⟨_,rfl,l,_,rfl,.inl (SqL.of hl),?_⟩;rw[xf4];refine⟨_,rfl,a,_,dx,_,_,rfl,ins,T.c_t,T.n_a9,ltI,i,(inns w' G).map (fun s=>ofL [s.2.2]),rfl,.inr ⟨kvs,hk,ld.keys⟩,(by rw[Za]; omega),fun ls ns hls pm srt=>?_⟩;obtain⟨es,pe,rfl⟩:=xf1 pm rfl;have nde:=(pe.map fun s=>s.2.2).nodup_iff.mpr (xl4 g);have lt':=xhv srt nde;have el:=pe.length_eq;have s1:Same H (upd H ls (.lst ((es.map fun s=>ofL [s.2.2]).map V.str))):=xo (Same.refl _) hls;have g1:upd H ls (.lst ((es.map fun s=>ofL [s.2.2]).map V.str)) ls=some (.lst ((es.map fun s=>ofL [s.2.2]).map V.str)):=xf;revert s1 g1;generalize upd H ls (.lst ((es.map fun s=>ofL [s.2.2]).map V.str))=H1;intro s1 g1;refine⟨ls,rfl,⟨_,SqL.of g1⟩,fun l1 hl1=>?_⟩;refine xeq (SqL.of g1) (by rw[Za,Za]; exact Z6 (by omega:_<=1000) (by decide)) hl1 (fun j y H5=>∃ q s,y=.ref q/\es[j]?=some s/\H5 q=some (.tup (.str (toPt G.length s).nm::ptV (toPt G.length s)))) (fun j y H5 H6 tp ⟨q,s,e1,e2,e3⟩=>⟨q,s,e1,e2,tp _ _ e3⟩) (fun j x H5 hx s5 N hN=>?_) (fun ys H5 s5 e5 ly fy=>?_)
  .rw [Zg,Zg] at hx;obtain⟨x2,hx2,rfl⟩:=Zk.mp hx;obtain⟨s,hs,rfl⟩:=Zk.mp hx2;have s05:=s1.trans s5;have ins5:=s05 _ _ ins;have hk5:=s05 _ _ hk;obtain⟨qa,hv,hq⟩:=(ld.keep (Same.tups s05)).at_ (pe.mem_iff.mp (Zn hs)) (xl4 g);have dg:=DGet.k (k:=.inr (ofL [s.2.2])) hk5;rw[hv] at dg;refine⟨_,rfl,_,rfl,a,_,dx,_,_,rfl,ins5,T.c_t,T.n_a9,ltI,_,rfl,i,_,rfl,dg,qa,_,1,.int (s.2.1:Int),rfl,rfl,SqT.of hq,rfl,?_⟩;refine⟨_,rfl,a,_,dx,_,_,rfl,ins5,T.c_t,T.n_a9,ltI,_,rfl,i,_,rfl,dg,qa,_,0,.int (s.1:Int),rfl,rfl,SqT.of hq,rfl,_,_,rfl,rfl,_,rfl,(by show 6<=sizeLine; decide),fun u hu=>hN _ _ (xo (Same.refl _) hu) ⟨u,s,rfl,hs,?_⟩⟩;rw[xf];rfl
  rw[Za,Za] at ly;obtain⟨rs,rfl,ptl⟩:=PtsL.pick (H:=H5) (ps:=es.map (toPt G.length)) (ys:=ys) (by rw[ly,Za]) (fun j y p hy hp=>by
   obtain⟨q,s,e1,e2,e3⟩:=fy j y hy;rw[Zg,e2] at hp;cases hp;exact⟨q,e1,e3⟩)
  have s05:=s1.trans s5;have lt5:=lt.same s05;refine⟨_,rfl,l,w'+2,G,rfl,s05 _ _ hl,tx,fun H6 l6 qs s6 f6 e6 tl6=>⟨l6,rfl,⟨_,SqL.of e6⟩,fun l7 hl7=>?_⟩⟩;have qll:=tl6.1;have gll:=xe8 tx G.length (Zj _);have b512:G.length*(w'+2)<=16*32:=Ql h2 w2;have gl2:(sgs G).length<=512:=by unfold sgs; omega
  have lt6:=lt5.same s6;refine xfe (SqL.of e6) (by rw[Za]; exact Z6 (by omega:_<=1000) (by decide)) hl7 (fun k=>(((sgs G)[k]?).map fun s=>rimB (w'+1) s.2.1&&decide (s.2.2≠32)).getD false) (fun k y H8=>∃ q s,y=.ref q/\(sgs G)[k]?=some s/\H8 q=some (.tup (xcy (xak s)))) (fun j y H5 H6 tp ⟨q,s,e1,e2,e3⟩=>⟨q,s,e1,e2,tp _ _ e3⟩) (fun k x H8 hx s8 N M hN hM=>?_) (fun ys H8 s8 e8 ly8 fy8=>?_)
  .rw [Zg,Zk] at hx;obtain⟨qa,hqa,rfl⟩:=hx;obtain⟨s,hs,hq⟩:=tl6.get hqa;have lt8:=lt6.same s8;obtain⟨⟨dx8,ins8⟩,_⟩:=id lt8;refine⟨qa,_,rfl,SqT.of (s8 _ _ hq),rfl,_,_,rfl,_,_,rfl,_,_,rfl,rfl,?_⟩;refine⟨_,rfl,a,dx8,_,rfl,ins8,xga (by decide +kernel),_,rfl,a,o,i,w'+1,_,_,s.2.1,rfl,lt8,fun H9 s9=>⟨_,rfl,ite2 (fun c=>?_) (fun c=>?_)⟩⟩
   .refine ⟨_,rfl,rfl,_,rfl,ite2 (fun c2=>?_) (fun c2=>?_)⟩
    .have n32:s.2.2≠32:=fun z=>by
      rw[z] at c2;exact absurd c2 (by decide)
     refine⟨_,rfl,_,rfl,(by show 2<=sizeLine; decide),fun p hp=>⟨p,s.1,s.2.1,rfl,xf,fun H10 q10 s10 f10 e10=>hN _ _ (s9.trans (fun b u e=>s10 _ _ (xo (Same.refl _) hp _ _ e))) ?_ ⟨q10,s,rfl,hs,e10⟩⟩⟩;rw[hs];show (rimB (w'+1) s.2.1&&decide (s.2.2≠32))=true;rw[c,decide_eq_true n32];rfl
    .have n32:s.2.2=32:=by
      by_cases z:s.2.2=32
      .exact z
      .have y:¬ sgn s.2.2=V.str (Zb " "):=fun y=>z (xd7 (d:=32) (V.str.inj y));exact absurd (by rw[decide_eq_false y]; rfl) c2
     refine hM _ s9 ?_;rw[hs];show (rimB (w'+1) s.2.1&&decide (s.2.2≠32))=false;rw[decide_eq_false (fun z=>z n32),Qm]
   .refine iteF (hM _ s9 ?_);rw[hs];show (rimB (w'+1) s.2.1&&decide (s.2.2≠32))=false;rw[Jq.mpr c,Yd]
  have ix:=xr1 (fun s:Sg=>rimB (w'+1) s.2.1&&decide (s.2.2≠32)) (as:=sgs G) (p:=fun k=>(((sgs G)[k]?).map fun s=>rimB (w'+1) s.2.1&&decide (s.2.2≠32)).getD false) (fun k s hs=>by rw[hs]; rfl);rw[Za,qll] at ly8 fy8;obtain⟨rs8,rfl,stl⟩:=xab.pick (H:=H8) (ss:=(rims w' G).map xak) (ys:=ys) (by rw[ly8,ix.1,Za]; rfl) (fun j y z hy hz=>by
   obtain⟨k,hk⟩:∃ k,((Z3 (sgs G).length).filter fun k=>(((sgs G)[k]?).map fun s=>rimB (w'+1) s.2.1&&decide (s.2.2≠32)).getD false)[j]?=some k:=⟨_,Zf (by rw[<- ly8]; exact (Zi.mp hy).1)⟩
   obtain⟨q,s,e1,e2,e3⟩:=fy8 j y k hy hk;rw[ix.2 j k hk] at e2;rw[Zg,show (rims w' G)[j]?=some s from e2] at hz;cases hz;exact⟨q,e1,e3⟩)
  have s58:=s6.trans s8;have s08:=s05.trans s58;obtain⟨⟨dx8,ins8⟩,_⟩:=id (lt6.same s8);have pok:=xh2 g pe;have ew:((w'+1:Nat):Int)-1=(w':Int):=by omega
  refine⟨_,rfl,a,_,dx8,_,_,rfl,ins8,T.c_t,T.n_bb,ltL,_,_,rfl,rfl,_,rfl,_,rfl,_,rfl,?_⟩;refine⟨(w':Int),(G.length:Int),l1,l7,es.map (toPt G.length),rs,(rims w' G).map xak,rs8,by show [V.int (((w'+1:Nat):Int)-1),V.int (G.length:Int),V.ref l1,V.ref l7]++[]=_; rw[ew]; rfl,⟨by omega,by omega,by omega,by omega⟩,s58 _ _ e5,ptl.keep (Same.tups s58),pok,e8,stl,xnb g,fun H' b dp do_ s' fb fdp _ pic st=>?_⟩;exact q H' b dp do_ es (s08.trans s') (s08.free fb) (s08.free fdp) pe lt' pic st
theorem xl2 (G:List (List Nat)):∀ n,(sgsN G n).Pairwise fun a b=>a.1<b.1\/(a.1=b.1/\a.2.1<b.2.1)
 | 0=>by
  unfold sgsN;exact JN.nil
 | n+1=>by
  have e:sgsN G (n+1)=sgsN G n++sgR n (G.getD n []):=by
   unfold sgsN;rw[JK,Y7,QE]
  rw[e,Yx];refine⟨xl2 G n,?_,fun a ha b hb=>?_⟩
  .unfold sgR;rw[ZA];exact List.pairwise_lt_range.imp fun z=>.inr ⟨rfl,z⟩
  .have h1:=(xgc.mp ha).1;have h2:=(xhx.mp hb).1;exact .inl (by omega)
theorem xkq {α:Type} (p:α->Bool):∀ l:List α,(l.filter p++l.filter fun x=>!p x).Perm l
 | []=>.refl _
 | x::l=>by
  have ih:=xkq p l;cases e:p x with
  | true =>
   rw[Ji e,Jr (by rw[e]; decide)];exact ih.cons x
  | false =>
   rw[Jr (by rw[e]; decide),Ji (by rw[e]; rfl)];exact List.perm_middle.trans (ih.cons x)
def rimS (w:Nat) (G:List (List Nat)):List Seat:=(rims w G).map xak
def srtS (w:Nat) (G:List (List Nat)):List Seat:=(rimS w G).filter (fun s=>s.1)++(rimS w G).filter fun s=>!s.1
theorem xkv (w:Nat) (G:List (List Nat)):(srtS w G).Perm (rimS w G):=xkq _ _
theorem xty (w:Nat) (G:List (List Nat)):(srtS w G).Pairwise xcu:=by
 have base:(rimS w G).Pairwise fun a b=>a.1=b.1->a.2<b.2:=by
  unfold rimS rims;rw[ZA];refine xe3 (xl2 G _) fun a b ha hb z e=>?_;have e:decide (a.2.1=0)=decide (b.2.1=0):=e;rw[decide_eq_decide] at e;have ra:=xe5 (Z4 _ _▸ha).1;have rb:=xe5 (Z4 _ _▸hb).1;show (a.1:Int)+1<(b.1:Int)+1;omega
 unfold srtS;rw[Yx];refine⟨xe3 base fun a b ha hb z=>.inr ⟨by rw[ha,hb],z (by rw[ha,hb])⟩,xe3 base fun a b ha hb z=>?_,fun a ha b hb=>.inl ⟨(ZO.mp ha).2,by simpa using (ZO.mp hb).2⟩⟩;have e:a.1=b.1:=by
  have ha:a.1=false:=by simpa using ha
  have hb:b.1=false:=by simpa using hb
  rw[ha,hb]
 exact .inr ⟨e,z e⟩
def toPr (w:Nat) (G:List (List Nat)) (s:Sg):Pr:=(toPt G.length (((inns w G).find? fun z=>decide (z.2.2=s.2.2)).getD s),xak s)
theorem xd2 {w:Nat}{G:List (List Nat)} (g:xd0 w G) {s:Sg} (h:s∈outs w G):s∈sgs G/\nmC s.2.2=true/\rimB (w+1) s.2.1=true/\∃ z∈inns w G,z.2.2=s.2.2/\toPr w G s=(toPt G.length z,xak s):=by
 obtain⟨h1,h2⟩:=ZO.mp h;unfold outP at h2;obtain⟨h3,h4⟩:=Z4 _ _▸h2;refine⟨h1,h4,h3,?_⟩;obtain⟨y,hy,ey⟩:=Ze.mp (g.ou2 s h);cases e:(inns w G).find? fun z=>decide (z.2.2=s.2.2) with
 | none=>exact absurd (decide_eq_true ey) (by have:=List.find?_eq_none.mp e y hy; exact this)
 | some z =>
  have ez:z.2.2=s.2.2:=by
   have y:=List.find?_some e;simpa using y
  exact⟨z,Y3 e,ez,by unfold toPr; rw[e]; rfl⟩
theorem xmy {w:Nat}{G:List (List Nat)} (g:xd0 w G) {es fs:List Sg} (pe:es.Perm (inns w G)) (pf:fs.Perm (outs w G)):xfs (w:Int) (G.length:Int) (es.map (toPt G.length)) (fs.map (toPr w G)):=by
 have pok:=xh2 g pe;have ou:=g.ou1;have in2:=g.in2;refine⟨fun p hp=>?_,?_,?_,?_⟩
 .obtain ⟨s,hs,rfl⟩:=Ze.mp hp;obtain⟨o1,o2,o3,z,hz,ez,et⟩:=xd2 g (pf.mem_iff.mp hs);rw[et];have mem:toPt G.length z∈es.map (toPt G.length):=Ze.mpr ⟨z,pe.mem_iff.mpr hz,rfl⟩;have po:=pok.ok _ mem;have r:=((xhy g.tx).mp o1).1;exact⟨po.nm,xie pok.nn mem,by show (1:Int)<=(s.1:Int)+1; omega,by show (s.1:Int)+1<=_; omega,po.x1,po.x2,po.y1,po.y2⟩
 .rw [Zv];have e:(outs w G).Pairwise fun a b=>xak a≠xak b:=by
   refine xe3 (xgh G _) fun a b ha hb z=>?_;unfold outP at ha hb;exact xlz (Z4 _ _▸ha).1 (Z4 _ _▸hb).1 z
  exact (pf.map _).nodup_iff.mpr (xhk (f:=fun s=>(toPr w G s).2) e fun _ _ z=>z)
 .rw [Za,pf.length_eq];have z:=xor ou fun x hx=>by
   obtain⟨s,hs,rfl⟩:=Ze.mp hx;exact g.ou2 s hs
  rw[Za,Za] at z;omega
 .rw [Zv];have e:((outs w G).map fun s=>(toPr w G s).1.nm)=((outs w G).map fun s=>s.2.2).map fun c=>ofL [c]:=by
   rw[Zv];refine Yc fun s hs=>?_;obtain⟨_,_,_,z,_,ez,et⟩:=xd2 g hs;rw[et];show ofL [z.2.2]=ofL [s.2.2];rw[ez]
  refine (pf.map _).nodup_iff.mpr ?_;show ((outs w G).map fun s=>(toPr w G s).1.nm).Nodup;rw[e];exact Drw.nd_map (fun a b e=>xd7 e) ou
theorem xqj {w:Int}{ps:List Pt}{ss:List Seat}{prs:List Pr} (h1:∀ p∈ps,isNm p.nm=true) (h2:∀ p∈prs,isNm p.1.nm=true):One (xep w ps ss prs):=by
 have no:∀(c:Cl) (s:Str),(Drw.no:Cl->Option Str) c=some s->s.length=1:=fun _ _ e=>nomatch e;have nl:∀ s:Str,isNm s=true->s.length=1:=fun s h=>by
  unfold isNm at h;exact of_decide_eq_true (Z4 _ _▸h).1
 have n1:=xbp (P:=fun s=>s.length=1) (L:=xbs w ss) no (fun x hx=>by
  obtain⟨z,_,rfl⟩:=Ze.mp hx;show (Zb ".").length=1;decide +kernel)
 have n2:=xbp (P:=fun s=>s.length=1) (L:=xbe w prs) n1 (fun x hx=>by
  obtain⟨z,hz,rfl⟩:=Ze.mp hx;exact nl _ (h2 z hz))
 have n3:=xc2 (P:=fun s=>s.length=1) (hs:=hsS) (by unfold hsS; decide +kernel) (L:=prs.flatMap (ledS w)) no (fun x hx=>by
  obtain⟨p,_,hx⟩:=Yg.mp hx;obtain⟨c,_,rfl⟩:=Ze.mp hx;show (lsS p.1.x p.2.2 c).length=1;unfold lsS Drw.ls;split
  .decide +kernel
  .split<;>decide +kernel)
 intro c s e;refine xbp (P:=fun s=>s.length=1) (L:=ptsS ps) (fun c s e=>?_) (fun x hx=>by
  obtain⟨z,hz,rfl⟩:=Ze.mp hx;exact nl _ (h1 z hz)) c s e
 cases e1:Drw.sets (Drw.sets Drw.no (xbs w ss)) (xbe w prs) c with
 | some y =>
  rw[e1] at e;cases e;exact n2 c _ e1
 | none =>
  rw[e1,Option.none_or] at e;exact n3 c s e
def xri (w:Nat) (G:List (List Nat)):Prop:=∀ es fs:List Sg,es.Perm (inns w G)->fs.Perm (outs w G)->∀ s∈sgs G,cd (xep w (es.map (toPt G.length)) (srtS w G) (fs.map (toPr w G))) ((s.2.1:Int),1+(s.1:Int))=s.2.2
structure xwd (t:Adr) (H:Hp) (q b dp do_ lp:Addr) (ts:List Addr) (w:Nat) (G:List (List Nat)) (es fs:List Sg):Prop where
 pe:es.Perm (inns w G)
 le:es.Pairwise nmLt
 pf:fs.Perm (outs w G)
 lf:fs.Pairwise nmLt
 q:H q=some (.tup [.ref b,.ref lp])
 dr:Dr t H b dp do_ w G.length (es.map (toPt G.length)) (rimS w G) (srtS w G)
 lp:H lp=some (.lst (ts.map V.ref))
 pr:PrsL H (fs.map (toPr w G)) ts
inductive xuc (t:Adr) (vs:List V) (H:Hp) (Q:VK) (_:XK):Prop
 | mk (l:Addr) (w:Nat) (G:List (List Nat)) (e_:vs=[.ref l]) (r_:H l=some (.lst (GV G))/\xd0 w G/\xri w G/\∀(H':Hp) (q b dp do_ lp:Addr) (ts:List Addr) (es fs:List Sg),Same H H'->H q=none->H b=none->H lp=none->H dp=none->xwd t H' q b dp do_ lp ts w G es fs->Q (.ref q) H')
theorem PrsL.pick {H:Hp}:∀{ps:List Pr}{ys:List V},ys.length=ps.length->(∀(j:Nat) (y:V) (p:Pr),ys[j]?=some y->ps[j]?=some p->∃ q,y=.ref q/\H q=some (.tup (prV p)))->∃ rs:List Addr,ys=rs.map V.ref/\PrsL H ps rs
 | [],[],_,_=>⟨[],rfl,.nil⟩
 | [],_::_,h,_=>by cases h
 | _::_,[],h,_=>by cases h
 | s::ss,y::ys,h,k=>by
  obtain⟨q,e,hq⟩:=k 0 y s rfl rfl;obtain⟨rs,e2,r⟩:=PrsL.pick (ps:=ss) (ys:=ys) (by simpa using h) fun j y s h1 h2=>k (j+1) y s (by simpa using h1) (by simpa using h2)
  exact⟨q::rs,by rw[e,e2]; rfl,.cons hq r⟩
theorem xly (T:Txt w K mg t):FnOk true P w K mg base (CXo P w) 9 t.f_seen t.d_seen ["rows"] (xuc t):=by
 refine T.F_seen.okn (k:=8) xbl (fun vs H Q E h=>?_) (fun cdv A outer s H vs Q E hr h=>?_)
 .obtain ⟨l,w',G,rfl,_⟩:=h;rfl
 .obtain ⟨l,w',G,rfl,h⟩:=h;refine⟨_,xj (xay (xt (ok_aa T) (hmm hr) rfl T.g_aa T.F_aa.kp T.b_aa .nil xm (xb (pv 0) (xg))))
   (xj (xx (i:=1) xbl.nd rfl (Jf rfl) (xe7 T.k_t (ok_al T) (hmm hr) rfl T.g_t T.b_al .nil xm (xb (xu xe0 (xw xbc rfl T.n_len J0 (xb (xax xbu (pv 0) (xk) (fun _ _=>rfl)) (xg))) (xk)) (xg))))
   (xj (xa0 ZG rfl (xat (xt (ok_as T) (hmm hr) rfl T.g_as T.F_as.kp T.b_as .nil xm (xb (pv 0) (xg)))) (xan rfl (xr (xq (i:=2) xbl.nd rfl (Zp rfl)) (xr (xq (i:=3) xbl.nd rfl (Zp rfl)) (xr (xq (i:=4) xbl.nd rfl (Zp rfl)) (xad))))) (xn (xay (xa3 (pv 1) T.c_t T.m_z (ok_z T) (hmm hr) T.b_z .nil xm (xb (pv 2) (xb (pv 3) (xb (pv 4) (xg))))))))
   (xj (xig (xa0 ZG rfl (xfg (xaa (pv 1) rfl)) (xan rfl (xr (xq (i:=5) xbl.nd rfl (Zp rfl)) (xr (xq (i:=6) xbl.nd rfl (Zp rfl)) (xad)))) (xn (xag (xds (xdt (xa5 hr) (pv 5) (xaa (pv 1) rfl))) (xn (xa1)) (x5)))))
   (xj (xx (i:=7) xbl.nd rfl (Zp rfl) (xt (ok_ag T) (hmm hr) rfl T.g_ag T.F_ag.kp T.b_ag .nil xm (xb (pv 0) (xb (pv 1) (xg)))))
   (xj (xcc rfl (xa4 (zs:=["name"]) (ys:=["letters"]) (fr:=[1]) (N0:=["rows", "letters", "row", "column", "sign", "name", "place", "picture", "pairs"]) (sc0:=xp xf2) (by decide +kernel) rfl rfl rfl) (xat (xw (xed rfl) rfl T.n_sorted PyProof.Rows.Boot.«sorted» (xb (xaa (pv 1) rfl) (xg)))) (fun _ _ _ _ _ ow nd=>xq (i:=0) nd rfl (Zp (ow _ (by simp))) (Jf (ow _ (by simp)))) (xbg (by decide)) (fun _ _ _ _ _=>xbk) (fun _ _ _ _ _=>xu (r:=xj3 K) xil (x4 (xb (pv 0) (xg))) (xt (ok_a3 T) (hmm hr) rfl T.g_a3 T.F_a3.kp T.b_a3 .nil xm (xb (xd1 (xa5 hr) ((xaa (pv 1) rfl:PE _ _ (tFld K _ _))) (pv 0) (fun _ _=>rfl)) (xg)))) (j:=8) rfl (Zp rfl))
   (xj (xay (xt (ok_x T) (hmm hr) rfl T.g_x T.F_x.kp T.b_x .nil xm (xb (pv 0) (xb (xt (xlb T) (hmm hr) rfl T.g_drawn T.F_drawn.kp T.b_drawn .nil xm (xb (pv 7) (xb (pv 8) (xg)))) (xg)))))
   (xn (x0 (x4 (xb (pv 7) (xb (pv 8) (xg)))))))))))),?_⟩
  obtain⟨hl,g,sees,q⟩:=h;have tx:=g.tx;have h1:=tx.h1;have h2:=tx.h2;have w1:=tx.w1;have w2:=tx.w2;have gl:=xf4 G;obtain⟨r0,hr0⟩:∃ r,G[0]?=some r:=⟨_,Zf h1⟩
  have l0:=tx.wd r0 (Zn hr0);refine⟨_,rfl,l,w'+2,G,rfl,hl,tx,fun H1 s1=>?_⟩;have hl1:=s1 _ _ hl;refine⟨_,rfl,l,_,0,.str (ofL r0),rfl,rfl,SqL.of hl1,?_,_,rfl,?_,_,_,rfl,rfl,fun a dx ha hdx ne=>?_⟩
  .show atI (GV G) ((0:Nat):Int)=_;exact xb9 (xej hr0)
  .rw [xas,l0];exact Zy (by omega:_<=1000) (by decide)
  refine⟨a,dx,w'+1,?_,xf,fun H2 o i ho hi k2 lt2=>⟨rfl,?_⟩⟩
  .show [V.ref a,V.int (((ofL r0).length:Int)-1)]=[V.ref a,V.int ((w'+1:Nat):Int)]
   rw[xas,l0,show ((w'+2:Nat):Int)-1=((w'+1:Nat):Int) by omega]
  have up:∀ b,upd (upd H1 dx (.own a)) a (.ins t.C_t dx []) b=none->H b=none:=fun b z=>by
   cases e:H b with
   | none=>rfl
   | some u =>
    have e1:=s1 _ _ e;rw[xh (xi e1 ha),xh (xi e1 hdx),e1] at z;cases z
  have fo:=up _ ho;have fi:=up _ hi;have s2:Same H H2:=fun b u e=>by
   have e1:=s1 _ _ e;exact k2 b u (xi e1 ha) (by rw[xh (xi e1 ha),xh (xi e1 hdx)]; exact e1)
  refine⟨_,rfl,l,w'+2,G,rfl,s2 _ _ hl,tx,fun H3 l3 qs s3 f3 e3 tl3=>⟨l3,rfl,⟨_,SqL.of e3⟩,?_⟩⟩;have qll:=tl3.1;have gll:(sgs G).length<=512:=by
   have e:=xe8 tx G.length (Zj _);have b512:G.length*(w'+2)<=16*32:=Ql h2 w2;unfold sgs;omega
  have f3H:=s2.free f3;refine xa6 (xs:=qs.map V.ref) (Pv:=fun k Z H5=>∃(v2 v3 v4:Option V),Z=[some (.ref l),some (.ref a),v2,v3,v4,none,none,none,none]/\Same H H5/\Let t H5 a o i (w'+1) (((sgs G).take k).filter (outP (w'+1))) (((sgs G).take k).filter (innP (w'+1)))/\H5 l3=some (.lst (qs.map V.ref))/\TL sgV H5 (sgs G) qs) ⟨_,_,_,rfl,s2.trans s3,lt2.same s3,e3,tl3⟩ ?_ ?_ ?_
  .rintro k Z H5 _ ⟨_,_,_,rfl,_,_,e5,_⟩;exact SqL.of e5
  .rintro k x Z H5 hx ⟨v2,v3,v4,rfl,s5,lt5,e5,tl5⟩;rw[Zg,Zk] at hx;obtain⟨qa,hqa,rfl⟩:=hx;obtain⟨s,hs,hq⟩:=tl5.get hqa;obtain⟨⟨dx5,ins5⟩,⟨ko,hko,_⟩,⟨ki,hki,_⟩,_⟩:=id lt5;refine⟨qa,_,rfl,SqT.of hq,rfl,_,_,rfl,_,_,rfl,_,_,rfl,rfl,?_⟩;have lf:∀ p:Sg->Bool,(((sgs G).take k).filter p).length<=600:=fun p=>by
    refine Zy (QU _ _) ?_;rw[Jh];omega
   refine⟨_,rfl,a,dx5,_,rfl,ins5,xga (by decide +kernel),_,rfl,_,rfl,_,rfl,a,o,i,w'+1,_,_,s,rfl,lt5,lf _,lf _,xrr g hs,fun H6 k6 lt6=>?_⟩;have tp:Tups H5 H6:=fun c xs e=>k6 _ _ (xae e hko (fun z=>nomatch z)) (xae e hki (fun z=>nomatch z)) e;refine⟨_,_,_,rfl,fun b u e=>k6 _ _ (xi e fo) (xi e fi) (s5 _ _ e),?_,k6 _ _ (xae e5 hko (fun z=>nomatch z)) (xae e5 hki (fun z=>nomatch z)) e5,tl5.keep tp⟩;rw[xi6 hs,xi6 hs];exact lt6
  rintro Z H5 ⟨v2,v3,v4,rfl,s5,lt5,_,_⟩;rw[Za,qll,Yf] at lt5;have lt5:Let t H5 a o i (w'+1) (outs w' G) (inns w' G):=lt5;obtain⟨⟨dx5,ins5⟩,⟨ko,hko,ldo⟩,⟨ki,hki,ldi⟩,noi⟩:=id lt5;refine⟨_,rfl,a,_,dx5,_,_,rfl,ins5,T.c_t,T.n_bc,ltO,o,ko,rfl,hko,fun ob nf=>?_⟩;refine xo6 (Pv:=fun k Z H6=>∃(v5 v6:Option V),Z=[some (.ref l),some (.ref a),v2,v3,v4,v5,v6,none,none]/\H6 o=some (.frz ob (.dK ko))/\∀ b u,b≠o->H5 b=some u->H6 b=some u) ⟨_,_,rfl,xf,fun b u nb e=>by rw[xh nb]; exact e⟩ ?_ ?_ ?_
  .rintro k Z H6 _ ⟨_,_,rfl,e6,_⟩;exact e6
  .rintro n k x p Z H6 hx hp ⟨v5,v6,rfl,e6,k6⟩;obtain⟨s,qa,hs,rfl,rfl,hqa⟩:=ldo.get hx;have k7:∀ b u,b≠o->H5 b=some u->upd H6 p (.tup [kV (.inr (ofL [s.2.2])),.ref qa]) b=some u:=fun b u nb e=>by
    have e':=k6 _ _ nb e;rw[xh (xi e' hp)];exact e'
   have e7:upd H6 p (.tup [kV (.inr (ofL [s.2.2])),.ref qa]) o=some (.frz ob (.dK ko)):=by
    rw[xh (xi e6 hp)];exact e6
   refine⟨p,_,rfl,SqT.of xf,rfl,_,_,rfl,_,_,rfl,rfl,?_⟩;refine⟨_,rfl,_,rfl,a,_,dx5,_,_,rfl,k7 _ _ (xae ins5 hko (fun z=>nomatch z)) ins5,T.c_t,T.n_a9,ltI,i,_,rfl,DGet.k (k:=.inr (ofL [s.2.2])) (k7 _ _ (ZI noi) hki),_,rfl,ifN ?_ ⟨_,_,rfl,e7,k7⟩⟩;rw[ldi.is,decide_eq_true (g.ou2 s (Zn hs))];rfl
  rintro Z H6 ⟨v5,v6,rfl,e6,k6⟩;refine⟨o,ob,.dK ko,e6,nf,?_⟩;have s7:Same H5 (upd H6 o (.dK ko)):=fun b u e=>by
   by_cases z:b=o
   .subst z;rw[xf,<- e,hko]
   .rw [xh z];exact k6 _ _ z e
  revert s7;generalize upd H6 o (.dK ko)=H7;intro s7;clear e6 k6;have s07:=s5.trans s7;have lt7:=lt5.same s7;refine⟨_,rfl,_,rfl,l,a,o,i,w',G,rfl,s07 _ _ hl,lt7,g,fun H8 b dp do_ es s8 fb fdp pe le pic8 st8=>?_⟩;have s08:=s07.trans s8;have lt8:=lt7.same s8;obtain⟨⟨dx8,ins8⟩,⟨ko8,hko8,ldo8⟩,_⟩:=id lt8;have pok:=xh2 g pe;have dr8:Dr t H8 b dp do_ w' G.length (es.map (toPt G.length)) (rimS w' G) (srtS w' G):=⟨pic8,st8,xnb g,xkv w' G,xty w' G,fun p hp=>(pok.ok p hp).nm⟩
  have ol:(outs w' G).length<=12:=by
   have z:=(xmy g pe (.refl _)).len;rw[Za] at z;exact z
  refine⟨_,rfl,a,_,dx8,_,_,rfl,ins8,T.c_t,T.n_bc,ltO,o,(outs w' G).map (fun s=>ofL [s.2.2]),rfl,.inr ⟨ko8,hko8,ldo8.keys⟩,(by rw[Za]; omega),fun ls ns hls pm srt=>?_⟩;obtain⟨fs,pf,rfl⟩:=xf1 pm rfl;have ndf:=(pf.map fun s=>s.2.2).nodup_iff.mpr g.ou1;have lf:=xhv srt ndf;have fl:=pf.length_eq;have s9:Same H8 (upd H8 ls (.lst ((fs.map fun s=>ofL [s.2.2]).map V.str))):=xo (Same.refl _) hls;have g9:upd H8 ls (.lst ((fs.map fun s=>ofL [s.2.2]).map V.str)) ls=some (.lst ((fs.map fun s=>ofL [s.2.2]).map V.str)):=xf;revert s9 g9;generalize upd H8 ls (.lst ((fs.map fun s=>ofL [s.2.2]).map V.str))=H9;intro s9 g9;refine⟨ls,rfl,⟨_,SqL.of g9⟩,fun l10 hl10=>?_⟩;refine xeq (SqL.of g9) (by rw[Za,Za]; exact Z6 (by omega:_<=1000) (by decide)) hl10 (fun j y H5=>∃ q s,y=.ref q/\fs[j]?=some s/\H5 q=some (.tup (prV (toPr w' G s)))) (fun j y H5 H6 tp ⟨q,s,e1,e2,e3⟩=>⟨q,s,e1,e2,tp _ _ e3⟩) (fun j x H10 hx s10 N hN=>?_) (fun ys H10 s10 e10 ly fy=>?_)
  .rw [Zg,Zg] at hx;obtain⟨x2,hx2,rfl⟩:=Zk.mp hx;obtain⟨s,hs,rfl⟩:=Zk.mp hx2;have ms:=pf.mem_iff.mp (Zn hs);obtain⟨qa,hv,hq⟩:=(ldo8.keep (Same.tups (s9.trans s10))).at_ ms g.ou1;have ins10:=(s9.trans s10) _ _ ins8;have hko10:=(s9.trans s10) _ _ hko8;refine⟨_,rfl,(by show 1<=sizeLine; decide),fun p1 hp1=>?_⟩;have s11:Same H10 (upd H10 p1 (.tup [.str (ofL [s.2.2])])):=xo (Same.refl _) hp1;have g11:upd H10 p1 (.tup [.str (ofL [s.2.2])]) p1=some (.tup [.str (ofL [s.2.2])]):=xf;revert s11 g11;generalize upd H10 p1 (.tup [.str (ofL [s.2.2])])=H11;intro s11 g11;have dg:=DGet.k (k:=.inr (ofL [s.2.2])) (s11 _ _ hko10);rw[hv] at dg;refine⟨_,rfl,a,_,dx8,_,_,rfl,s11 _ _ ins10,T.c_t,T.n_bc,ltO,_,rfl,o,_,rfl,dg,qa,s.1,s.2.1,rfl,s11 _ _ hq,fun H12 q12 s12 f12 e12=>?_⟩;refine⟨p1,q12,_,_,rfl,rfl,SqT.of (s12 _ _ g11),SqT.of e12,(by simp),(by show 1+2<=sizeLine; decide),(fun z=>nomatch z),fun _ p2 hp2=>hN _ _ (fun b u e=>xo (Same.refl _) hp2 _ _ (s12 _ _ (s11 _ _ e))) ⟨p2,s,rfl,hs,?_⟩⟩;obtain⟨_,_,_,z,_,ez,et⟩:=xd2 g ms;rw[xf,et];show some (HO.tup ([V.str (ofL [s.2.2])]++xcy (xak s)))=some (HO.tup (.str (ofL [z.2.2])::xcy (xak s)));rw[ez];rfl
  rw[Za,Za] at ly;obtain⟨ts,rfl,prl⟩:=PrsL.pick (H:=H10) (ps:=fs.map (toPr w' G)) (ys:=ys) (by rw[ly,Za]) (fun j y p hy hp=>by
   obtain⟨q,s,e1,e2,e3⟩:=fy j y hy;rw[Zg,e2] at hp;cases hp;exact⟨q,e1,e3⟩)
  have s810:=s9.trans s10;have dr10:=dr8.same s810;have pal:=xmy g pe pf;refine⟨_,rfl,_,rfl,_,rfl,b,l10,dp,do_,w',G.length,es.map (toPt G.length),rimS w' G,srtS w' G,fs.map (toPr w' G),ts,rfl,dr10,e10,prl,pal.ok,pal.len,fun H11 ld s11 fld e11=>?_⟩;refine⟨l,ld,w',G,_,rfl,s11 _ _ (s810 _ _ (s08 _ _ hl)),tx,e11,xqj (fun p hp=>(pok.ok p hp).nm) (fun p hp=>(pal.ok p hp).nm),sees es fs pe pf,fun H12 s12=>?_⟩;refine⟨_,rfl,_,rfl,(by show 2<=sizeLine; decide),fun qt hqt=>?_⟩;have s812:=(s810.trans s11).trans s12;have s012:=s08.trans s812;have s13:Same H12 (upd H12 qt (.tup [.ref b,.ref l10])):=xo (Same.refl _) hqt;have g13:upd H12 qt (.tup [.ref b,.ref l10]) qt=some (.tup [.ref b,.ref l10]):=xf;revert s13 g13;generalize upd H12 qt (.tup [.ref b,.ref l10])=H13;intro s13 g13;have s1013:=(s11.trans s12).trans s13;exact q H13 qt b dp do_ l10 ts es fs (s012.trans s13) (s012.free hqt) (s07.free fb) (s08.free (s9.free hl10)) (s07.free fdp) ⟨pe,le,pf,lf,g13,dr10.same s1013,s1013 _ _ e10,prl.keep (Same.tups s1013)⟩
def xaq (s:Str):Nat:=s.cps.toList.headD 32
theorem xqq {s:Str} (h:s.length=1):s=ofL [xaq s]:=by
 apply xdd;unfold xaq;rw[xac];have l2:s.cps.toList.length=1:=by simpa [YT] using h
 cases e:s.cps.toList with
 | nil=>rw[e] at l2; cases l2
 | cons x r =>
  rw[e] at l2;have:r=[]:=by simpa using l2
  rw[this];rfl
theorem xb8 {s:Str} (h:isNm s=true):s=ofL [xaq s]/\nmC (xaq s)=true:=by
 have l:s.length=1:=by
  have h2:=h;unfold isNm at h2;exact of_decide_eq_true (Z4 _ _▸h2).1
 have e:=xqq l;refine⟨e,?_⟩;rw[<- xh0,<- e];exact h
theorem xkr (c:Nat):xaq (ofL [c])=c:=by
 unfold xaq;rw[xac];rfl
theorem xe9 {s t:Str} (hs:isNm s=true) (ht:isNm t=true) (e:xaq s=xaq t):s=t:=by
 rw[(xb8 hs).1,(xb8 ht).1,e]
theorem xi2 {P:Str->Prop}{w:Int}{ps:List Pt}{ss:List Seat}{prs:List Pr} (k:P (Zb "#")/\P (Zb ".")/\P (Zb "|")/\P (Zb "+")/\P (Zb "-")) (kn:∀ s,isNm s=true->P s) (h1:∀ p∈ps,isNm p.nm=true) (h2:∀ p∈prs,isNm p.1.nm=true):∀ c s,xap w ps ss prs c=some s->P s:=by
 have no:∀(c:Cl) (s:Str),(Drw.no:Cl->Option Str) c=some s->P s:=fun _ _ e=>nomatch e;have n3:=xc2 (P:=P) (hs:=hsS) k.1 (L:=prs.flatMap (xav w)) no (fun x hx=>by
  obtain⟨p,_,hx⟩:=Yg.mp hx;unfold xav Drw.ledL at hx;rcases Z9.mp hx with hx|hx
  .rcases Z9.mp hx with hx|hx
   .obtain ⟨c,_,rfl⟩:=Ze.mp hx;exact k.2.2.1
   .split at hx
    .rw [Z0.mp hx];exact k.2.2.2.1
    .exact nomatch hx
  .obtain ⟨c,_,rfl⟩:=Ze.mp hx;exact k.2.2.2.2)
 have n4:=xbp (P:=P) (L:=ptsS ps) n3 (fun x hx=>by
  obtain⟨z,hz,rfl⟩:=Ze.mp hx;exact kn _ (h1 z hz))
 have n5:=xbp (P:=P) (L:=xbs w ss) n4 (fun x hx=>by
  obtain⟨z,_,rfl⟩:=Ze.mp hx;exact k.2.1)
 exact xbp (P:=P) (L:=xbe w prs) n5 (fun x hx=>by
  obtain⟨z,hz,rfl⟩:=Ze.mp hx;exact kn _ (h2 z hz))
structure Pict (w h:Nat) (ps:List Pt) (ss:List Seat) (prs:List Pr):Prop where
 w1:1<=w
 w2:w<=30
 h1:1<=h
 h2:h<=16
 pok:xdn (w:Int) (h:Int) ps
 sok:SsOk (h:Int) ss
 pal:xfs (w:Int) (h:Int) ps prs
section
variable {w h:Nat}{ps:List Pt}{ss:List Seat}{prs:List Pr}
theorem Pict.nms (o:Pict w h ps ss prs):∀ p∈ps,isNm p.nm=true:=fun p hp=>(o.pok.ok p hp).nm
theorem Pict.nmr (o:Pict w h ps ss prs):∀ p∈prs,isNm p.1.nm=true:=fun p hp=>(o.pal.ok p hp).nm
theorem Pict.one (o:Pict w h ps ss prs):One (xap w ps ss prs):=xi2 (P:=fun s=>s.length=1) (by decide +kernel) (fun s hs=>by
    unfold isNm at hs;exact of_decide_eq_true (Z4 _ _▸hs).1) o.nms o.nmr
theorem xn1 {c:Nat} (h:nmC c=true):97<=c/\c<=122:=by
 unfold nmC at h;simpa using h
theorem Pict.asc (o:Pict w h ps ss prs) (c:Cl):cd (xap w ps ss prs) c<128:=by
 have kn:∀ s,isNm s=true->xaq s<128:=fun s hs=>by
  have:=xn1 (xb8 hs).2;omega
 have all:=xi2 (P:=fun s=>xaq s<128) (w:=w) (ss:=ss) (by decide +kernel) kn o.nms o.nmr;unfold cd;cases e:xap w ps ss prs c with
 | none =>
  show 32<128;decide
 | some s=>exact all c s e
theorem xqw (w1:1<=w) (nd:(prs.map (·.2)).Nodup):((xbe w prs).map (·.1)).Nodup:=by
 unfold xbe;rw[Zv];rw[JJ,ZA] at nd ⊢;exact nd.imp fun ne e=>ne (xcg w1 e)
theorem xru (w1:1<=w) (nd:ss.Nodup):((xbs w ss).map (·.1)).Nodup:=by
 unfold xbs;rw[Zv];exact Drw.nd_map (fun a b e=>xcg w1 e) nd
theorem xtz (nx:(ps.map (·.x)).Nodup):((ptsS ps).map (·.1)).Nodup:=by
 unfold ptsS;rw[Zv];rw[JJ,ZA] at nx ⊢;exact nx.imp fun ne e=>ne (JD.inj e).1
theorem xgx {c:Cl} (n:∀ p∈prs,rimC w p.2≠c):c∉(xbe w prs).map (·.1):=fun z=>by
 unfold xbe at z;rw[Zv] at z;obtain⟨p,hp,e⟩:=Ze.mp z;exact n p hp e
theorem xmn {c:Cl} (n:∀ s∈ss,rimC w s≠c):c∉(xbs w ss).map (·.1):=fun z=>by
 unfold xbs at z;rw[Zv] at z;obtain⟨p,hp,e⟩:=Ze.mp z;exact n p hp e
theorem xua {c:Cl} (n:∀ p∈ps,(p.x,p.y)≠c):c∉(ptsS ps).map (·.1):=fun z=>by
 unfold ptsS at z;rw[Zv] at z;obtain⟨p,hp,e⟩:=Ze.mp z;exact n p hp e
theorem Pict.name (o:Pict w h ps ss prs) {p:Pr} (hp:p∈prs):xap w ps ss prs (rimC w p.2)=some p.1.nm:=Drw.sets_one (xqw o.w1 o.pal.nd) (Ze.mpr ⟨p,hp,rfl⟩)
theorem Pict.dot (o:Pict w h ps ss prs) {s:Seat} (hs:s∈ss) (no:∀ p∈prs,p.2≠s):xap w ps ss prs (rimC w s)=some (Zb "."):=by
 unfold xap Drw.drawL;rw[Drw.sets_no (xgx fun p hp e=>no p hp (xcg o.w1 e))];exact Drw.sets_one (xru o.w1 o.sok.1) (Ze.mpr ⟨s,hs,rfl⟩)
theorem xc0 (w:Nat) (s:Seat) {x:Int} (h1:1<=x) (h2:x<=w) (y:Int):rimC w s≠(x,y):=fun e=>by
 have:=xdp w s;rw[e] at this
 dsimp only at this
 omega
theorem Pict.pt (o:Pict w h ps ss prs) {p:Pt} (hp:p∈ps):xap w ps ss prs (p.x,p.y)=some p.nm:=by
 have k:=o.pok.ok p hp;unfold xap Drw.drawL;rw[Drw.sets_no (xgx fun q _=>xc0 w q.2 k.x1 k.x2 _),Drw.sets_no (xmn fun s _=>xc0 w s k.x1 k.x2 _)];exact Drw.sets_one (xtz o.pok.nx) (Ze.mpr ⟨p,hp,rfl⟩)
theorem xeg {c:Cl} (n1:∀ p∈prs,rimC w p.2≠c) (n2:∀ s∈ss,rimC w s≠c) (n3:∀ p∈ps,(p.x,p.y)≠c):xap w ps ss prs c=Drw.marks hsS Drw.no (prs.flatMap (xav w)) c:=by
 unfold xap Drw.drawL;rw[Drw.sets_no (xgx n1),Drw.sets_no (xmn n2),Drw.sets_no (xua n3)]
theorem xp1 {p:Pr} (x1:1<=p.1.x) (x2:p.1.x<=w) {c:Cl} (h:c∈(xav w p).map (·.1)):1<=c.1/\c.1<=w:=by
 unfold xav at h;rw[Drw.ledL_keys] at h;have rb:Drw.rim w p.2.1=0\/Drw.rim w p.2.1=(w:Int)+1:=by
  unfold Drw.rim;split
  .exact .inl rfl
  .exact .inr rfl
 rcases Z9.mp h with h|h
 .rcases Z9.mp h with h|h
  .obtain ⟨a,_,rfl⟩:=Ze.mp h;exact⟨x1,x2⟩
  .split at h
   .rw [Z0.mp h];exact⟨x1,x2⟩
   .exact nomatch h
 .obtain ⟨a,ha,rfl⟩:=Ze.mp h;rw[Drw.mem_rg] at ha;exact⟨by dsimp only; omega,by dsimp only; omega⟩
theorem Pict.off (o:Pict w h ps ss prs) {c:Cl} (hc:c.1=0\/c.1=(w:Int)+1) (n1:∀ p∈prs,rimC w p.2≠c) (n2:∀ s∈ss,rimC w s≠c):xap w ps ss prs c=none:=by
 rw[xeg n1 n2 (fun p hp e=>by
  have k:=o.pok.ok p hp;have e1:p.x=c.1:=by rw[<- e]
  have k1:=k.x1;have k2:=k.x2;omega),Drw.marks_at,Drw.at_no]
 .rfl
 .intro z
  obtain⟨x,hx,rfl⟩:=Ze.mp z;obtain⟨p,hp,hx⟩:=Yg.mp hx;have k:=(o.pal.ok p hp).xy;have:=xp1 k.1 k.2.1 (Ze.mpr ⟨x,hx,rfl⟩);omega
theorem xnl (c:Cl):Drw.marks hsS Drw.no (prs.flatMap (xav w)) c=none\/∃ s,Drw.marks hsS Drw.no (prs.flatMap (xav w)) c=some s/\xaq s∈([32,124,45,43,35]:List Nat):=by
 have no:∀(c:Cl) (s:Str),(Drw.no:Cl->Option Str) c=some s->xaq s∈([32,124,45,43,35]:List Nat):=fun _ _ e=>nomatch e;cases e:Drw.marks hsS Drw.no (prs.flatMap (xav w)) c with
 | none=>exact .inl rfl
 | some s =>
  refine .inr ⟨s,rfl,xc2 (P:=fun s=>xaq s∈([32,124,45,43,35]:List Nat)) (hs:=hsS) (by unfold hsS; decide +kernel) (L:=prs.flatMap (xav w)) no (fun x hx=>?_) c s e⟩;obtain⟨p,_,hx⟩:=Yg.mp hx;unfold xav Drw.ledL at hx;rcases Z9.mp hx with hx|hx
  .rcases Z9.mp hx with hx|hx
   .obtain ⟨c,_,rfl⟩:=Ze.mp hx;show xaq (Zb "|")∈_;decide +kernel
   .split at hx
    .rw [Z0.mp hx];show xaq (Zb "+")∈_;decide +kernel
    .exact nomatch hx
  .obtain ⟨c,_,rfl⟩:=Ze.mp hx;show xaq (Zb "-")∈_;decide +kernel
theorem xc3 {m:Cl->Option Str}{c:Cl}{s:Str} (h:m c=some s):cd m c=xaq s:=by
 unfold cd xaq;rw[h]
theorem xmk {m:Cl->Option Str}{c:Cl} (h:m c=none):cd m c=32:=by
 unfold cd;rw[h]
theorem Pict.inner (o:Pict w h ps ss prs) {c:Cl} (c1:1<=c.1) (c2:c.1<=w) (n3:∀ p∈ps,(p.x,p.y)≠c):cd (xap w ps ss prs) c∈([32,124,45,43,35]:List Nat):=by
 have e:=xeg (w:=w) (ss:=ss) (prs:=prs) (fun p _=>xc0 w p.2 c1 c2 c.2) (fun s _=>xc0 w s c1 c2 c.2) n3;rcases xnl (w:=w) (prs:=prs) c with z|⟨s,z,k⟩
 .rw [z] at e;rw[xmk e];decide
 .rw [z] at e;rw[xc3 e];exact k
abbrev xal (w h:Nat) (ps:List Pt) (ss:List Seat) (prs:List Pr):List (List Nat):=xeh w h (xap w ps ss prs)
theorem xdh (w h:Nat) (m:Cl->Option Str):(xeh w h m).length=h:=by
 unfold xeh;rw[Za,Zs]
theorem Pict.tx (o:Pict w h ps ss prs):Txs (w+2) (xal w h ps ss prs):=by
 have h1:=o.h1;have h2:=o.h2;have w1:=o.w1;have w2:=o.w2;refine⟨by rw[xdh]; exact h1,by rw[xdh]; exact h2,fun r hr=>?_,fun r hr c hc=>?_,by omega,by omega⟩
 .obtain ⟨i,_,rfl⟩:=Ze.mp hr;unfold rowC;rw[Za,Zs]
 .obtain ⟨i,_,rfl⟩:=Ze.mp hr;obtain⟨j,_,rfl⟩:=Ze.mp hc;exact o.asc _
theorem xdf {m:Cl->Option Str}{s:Sg}:s∈sgs (xeh w h m)↔s.1<h/\s.2.1<w+2/\s.2.2=cd m ((s.2.1:Int),1+(s.1:Int)):=by
 unfold sgs;rw[xgc,xdh];have e:s.1<h->(xeh w h m).getD s.1 []=rowC w (1+(s.1:Int)) m:=fun hs=>by
  unfold xeh;rw[Ju,Zg,Jn hs];rfl
 have l:∀ r,(rowC w r m).length=w+2:=fun r=>by
  unfold rowC;rw[Za,Zs]
 have v:∀ r (j:Nat),j<w+2->(rowC w r m).getD j 0=cd m ((j:Int),r):=fun r j hj=>by
  unfold rowC;rw[Ju,Zg,Jn hj];rfl
 constructor
 .rintro ⟨a,b,c⟩;rw[e a,l] at b;rw[e a,v _ _ b] at c;exact⟨a,b,c⟩
 .rintro ⟨a,b,c⟩;rw[e a,l];exact⟨a,b,by rw[v _ _ b]; exact c⟩
def xck (p:Pt):Sg:=((p.y-1).toNat,p.x.toNat,xaq p.nm)
def xcb (w:Nat) (p:Pr):Sg:=((p.2.2-1).toNat,(Drw.rim w p.2.1).toNat,xaq p.1.nm)
theorem xoi (G:List (List Nat)) (p:Sg->Bool):((sgs G).filter p).Nodup:=by
 have z:=(xgh G G.length).filter p;exact z.imp fun ne e=>ne (by rw[e]; exact⟨rfl,rfl⟩)
theorem xka {lc j:Nat} (h:¬ rimB lc j=true):j≠0/\j≠lc:=by
 unfold rimB at h;simpa using h
theorem xqy {c:Nat} (h:c∈([32,124,45,43,35]:List Nat)):nmC c=false:=by
 have h:c=32\/c=124\/c=45\/c=43\/c=35:=by simpa using h
 rcases h with rfl|rfl|rfl|rfl|rfl<;>rfl
theorem Pict.at_in (o:Pict w h ps ss prs) {s:Sg} (hs:s∈sgs (xal w h ps ss prs)) (nr:¬ rimB (w+1) s.2.1=true):(∃ p∈ps,xck p=s)\/s.2.2∈([32,124,45,43,35]:List Nat):=by
 obtain⟨g1,g2,g3⟩:=xdf.mp hs;have nr:=xka nr;by_cases e:∃ p∈ps,(p.x,p.y)=((s.2.1:Int),1+(s.1:Int))
 .obtain ⟨p,hp,ep⟩:=e;refine .inl ⟨p,hp,?_⟩;have v:=xc3 (o.pt hp);rw[ep,<- g3] at v;have e1:=(JD.inj ep).1;have e2:=(JD.inj ep).2;obtain⟨a,b,c⟩:=s
  dsimp only at v e1 e2
  unfold xck;rw[e1,e2,v,show (1+(a:Int)-1).toNat=a by omega,JI]
 .refine .inr ?_;rw[g3];exact o.inner (by dsimp only; omega) (by dsimp only; omega) fun p hp z=>e ⟨p,hp,z⟩
theorem Pict.of_in (o:Pict w h ps ss prs) {p:Pt} (hp:p∈ps):xck p∈inns w (xal w h ps ss prs):=by
 have k:=o.pok.ok p hp;have k1:=k.x1;have k2:=k.x2;have k3:=k.y1;have k4:=k.y2;have v:=xc3 (o.pt hp);unfold inns;rw[ZO];have ex:((xck p).2.1:Int)=p.x:=by show (p.x.toNat:Int)=p.x; omega
 have ey:1+((xck p).1:Int)=p.y:=by show 1+((p.y-1).toNat:Int)=p.y; omega
 refine⟨xdf.mpr ⟨by omega,by omega,by rw[ex,ey]; exact v.symm⟩,?_⟩;have n:=(xb8 k.nm).2;have nr:rimB (w+1) (xck p).2.1=false:=by
  unfold rimB;rw[decide_eq_false (by omega),decide_eq_false (by omega)];rfl
 unfold innP;rw[nr,show (xck p).2.2=xaq p.nm from rfl,n];rfl
theorem xnx (pok:xdn (w:Int) (h:Int) ps):(ps.map xck).Pairwise InNe:=by
 rw[ZA];have n1:=pok.nn;have n2:=pok.nx;have n3:=pok.ny;rw[JJ,ZA] at n1 n2 n3;refine JN.imp_of_mem ?_ ((n1.and n2).and n3);intro a b ha hb ⟨⟨z1,z2⟩,z3⟩;have ka:=pok.ok a ha;have kb:=pok.ok b hb;have a1:=ka.x1;have a2:=ka.y1;have b1:=kb.x1;have b2:=kb.y1;refine⟨fun e=>z1 (xe9 ka.nm kb.nm e),fun e=>z3 ?_,fun e=>z2 ?_⟩
 .have e:(a.y-1).toNat=(b.y-1).toNat:=e;omega
 .have e:a.x.toNat=b.x.toNat:=e;omega
theorem Pict.inn_pm (o:Pict w h ps ss prs):(inns w (xal w h ps ss prs)).Perm (ps.map xck):=by
 refine (List.perm_ext_iff_of_nodup (xoi _ _) ?_).mpr fun s=>⟨fun hs=>?_,fun hs=>?_⟩
 .exact (xnx o.pok).imp fun z e=>z.1 (by rw[e])
 .obtain ⟨h1,h2⟩:=ZO.mp hs;unfold innP at h2;obtain⟨h3,h4⟩:=Z4 _ _▸h2;rcases o.at_in h1 (by simpa using h3) with⟨p,hp,e⟩|z
  .exact Ze.mpr ⟨p,hp,e⟩
  .rw [xqy z] at h4;cases h4
 .obtain ⟨p,hp,rfl⟩:=Ze.mp hs;exact o.of_in hp
theorem Pict.at_rim (o:Pict w h ps ss prs) {s:Sg} (hs:s∈sgs (xal w h ps ss prs)) (r:rimB (w+1) s.2.1=true):rimC w (xak s)=((s.2.1:Int),1+(s.1:Int))/\((∃ p∈prs,xcb w p=s/\p.2=xak s)\/((∀ p∈prs,p.2≠xak s)/\xak s∈ss/\s.2.2=46)\/((∀ p∈prs,p.2≠xak s)/\xak s∉ss/\s.2.2=32)):=by
 obtain⟨g1,g2,g3⟩:=xdf.mp hs;have w1:=o.w1;have rc:rimC w (xak s)=((s.2.1:Int),1+(s.1:Int)):=by
  unfold rimC xak xfy Drw.rim;rcases xe5 r with z|z
  .rw [z,decide_eq_true rfl,if_pos rfl];exact Prod.ext rfl (by dsimp only; omega)
  .rw [z,decide_eq_false (by omega),if_neg (by simp)];exact Prod.ext (by dsimp only; omega) (by dsimp only; omega)
 refine⟨rc,?_⟩;by_cases e:∃ p∈prs,p.2=xak s
 .obtain ⟨p,hp,ep⟩:=e;refine .inl ⟨p,hp,?_,ep⟩;have v:=xc3 (o.name hp);rw[ep,rc,<- g3] at v;have e1:Drw.rim w p.2.1=(s.2.1:Int):=by
   rw[ep];exact congrArg Prod.fst rc
  have e2:p.2.2=(s.1:Int)+1:=by rw[ep]; rfl
  obtain⟨a,b,c⟩:=s
  dsimp only at v e1 e2
  unfold xcb;rw[e1,e2,<- v,show ((a:Int)+1-1).toNat=a by omega,JI]
 .have n1:∀ p∈prs,p.2≠xak s:=fun p hp z=>e ⟨p,hp,z⟩;by_cases d:xak s∈ss
  .refine .inr (.inl ⟨n1,d,?_⟩);have v:=xc3 (o.dot d n1);rw[rc,<- g3] at v;rw[v];decide +kernel
  .refine .inr (.inr ⟨n1,d,?_⟩);have v:=xmk (o.off (c:=rimC w (xak s)) (xdp w _) (fun p hp z=>n1 p hp (xcg w1 z)) (fun z hz y=>d (xcg w1 y▸hz)));rw[rc,<- g3] at v;exact v
theorem xk9 (w1:1<=w) {p:Pr} (r1:1<=p.2.2):xak (xcb w p)=p.2:=by
 obtain⟨pt,b,r⟩:=p;unfold xak xcb xfy Drw.rim
 dsimp only at r1 ⊢
 refine Prod.ext ?_ (by dsimp only; omega);cases b
 .dsimp only
  rw[if_neg (by decide)];exact decide_eq_false (by omega)
 .rfl
theorem Pict.of_out (o:Pict w h ps ss prs) {p:Pr} (hp:p∈prs):xcb w p∈outs w (xal w h ps ss prs):=by
 have k:=o.pal.ok p hp;have k1:=k.r1;have k2:=k.r2;have w1:=o.w1;have v:=xc3 (o.name hp);have rb:Drw.rim w p.2.1=0\/Drw.rim w p.2.1=(w:Int)+1:=xdp w p.2;unfold outs;rw[ZO];have ex:((xcb w p).2.1:Int)=Drw.rim w p.2.1:=by show ((Drw.rim w p.2.1).toNat:Int)=_; omega
 have ey:1+((xcb w p).1:Int)=p.2.2:=by show 1+((p.2.2-1).toNat:Int)=p.2.2; omega
 refine⟨xdf.mpr ⟨by omega,by omega,by rw[ex,ey]; exact v.symm⟩,?_⟩;have n:=(xb8 k.nm).2;have nr:rimB (w+1) (xcb w p).2.1=true:=by
  unfold rimB;rcases rb with z|z
  .rw [decide_eq_true (show (xcb w p).2.1=0 by omega)];rfl
  .rw [decide_eq_true (show (xcb w p).2.1=w+1 by omega),JW]
 unfold outP;rw[nr,show (xcb w p).2.2=xaq p.1.nm from rfl,n];rfl
theorem Pict.out_pm (o:Pict w h ps ss prs):(outs w (xal w h ps ss prs)).Perm (prs.map (xcb w)):=by
 refine (List.perm_ext_iff_of_nodup (xoi _ _) ?_).mpr fun s=>⟨fun hs=>?_,fun hs=>?_⟩
 .have nd:=o.pal.nn;rw[JJ,ZA] at nd;rw[JJ,ZA];refine JN.imp_of_mem ?_ nd;intro a b ha hb z e;exact z (xe9 (o.nmr a ha) (o.nmr b hb) (congrArg (fun s:Sg=>s.2.2) e))
 .obtain ⟨h1,h2⟩:=ZO.mp hs;unfold outP at h2;obtain⟨h3,h4⟩:=Z4 _ _▸h2;rcases (o.at_rim h1 h3).2 with⟨p,hp,e,_⟩|⟨_,_,z⟩|⟨_,_,z⟩
  .exact Ze.mpr ⟨p,hp,e⟩
  .rw [z] at h4;cases h4
  .rw [z] at h4;cases h4
 .obtain ⟨p,hp,rfl⟩:=Ze.mp hs;exact o.of_out hp
theorem PrOk.mem {w h:Int}{p:Pr} (k:PrOk ps w h p):p.1∈ps:=Y3 k.fd
theorem Pict.good (o:Pict w h ps ss prs):xd0 w (xal w h ps ss prs):=by
 refine⟨o.tx,fun s hs n=>?_,?_,?_,?_,fun s hs=>?_⟩
 .by_cases r:rimB (w+1) s.2.1=true
  .rw [if_pos r];rcases (o.at_rim hs r).2 with⟨p,hp,e,_⟩|⟨_,_,z⟩|⟨_,_,z⟩
   .rw [<- e] at n;have:=(xb8 (o.nmr p hp)).2;rw[show (xcb w p).2.2=xaq p.1.nm from rfl,this] at n;cases n
   .exact .inr z
   .exact .inl z
  .rw [if_neg r];rcases o.at_in hs r with⟨p,hp,e⟩|z
   .rw [<- e] at n;have:=(xb8 (o.nms p hp)).2;rw[show (xck p).2.2=xaq p.nm from rfl,this] at n;cases n
   .exact z
 .exact (Wh.pairwise_iff (fun {x y} z=>⟨ZI z.1,ZI z.2.1,ZI z.2.2⟩) o.inn_pm).mpr (xnx o.pok)
 .rw [o.inn_pm.length_eq,Za];exact o.pok.le
 .refine (o.out_pm.map _).nodup_iff.mpr ?_;rw[Zv];have nd:=o.pal.nn;rw[JJ,ZA] at nd ⊢;refine JN.imp_of_mem ?_ nd;intro a b ha hb z e;exact z (xe9 (o.nmr a ha) (o.nmr b hb) e)
 .obtain ⟨p,hp,rfl⟩:=Ze.mp (o.out_pm.mem_iff.mp hs);exact Ze.mpr ⟨xck p.1,o.of_in (o.pal.ok p hp).mem,rfl⟩
end
def fr (h:Nat) (p:Pt):Pt:=⟨p.nm,p.x,p.y, "both",1,(h:Int)⟩
section
variable {w h:Nat}{ps:List Pt}{ss:List Seat}{prs:List Pr}
theorem xkj (pok:xdn (w:Int) (h:Int) ps) {p:Pt} (hp:p∈ps):toPt h (xck p)=fr h p:=by
 have k:=pok.ok p hp;have k1:=k.x1;have k3:=k.y1;unfold toPt xck fr
 dsimp only
 rw[<- (xb8 k.nm).1,show (p.x.toNat:Int)=p.x by omega,show ((p.y-1).toNat:Int)+1=p.y by omega]
theorem Pict.ens (o:Pict w h ps ss prs) {es:List Sg} (pe:es.Perm (inns w (xal w h ps ss prs))):(es.map (toPt h)).Perm (ps.map (fr h)):=by
 have z:=(pe.trans o.inn_pm).map (toPt h);rw[Zv] at z;rw[show ps.map (fr h)=ps.map (toPt h∘xck) from (Yc fun p hp=>(xkj o.pok hp).symm)];exact z
theorem xuu (pok:xdn (w:Int) (h:Int) ps) {p q:Pt} (hp:p∈ps) (hq:q∈ps) (e:p.nm=q.nm):p=q:=by
 have a:=xie pok.nn hp;rw[e,xie pok.nn hq] at a;exact (Jw.inj a).symm
theorem Pict.toPr_out (o:Pict w h ps ss prs) {p:Pr} (hp:p∈prs):toPr w (xal w h ps ss prs) (xcb w p)=(fr h p.1,p.2):=by
 obtain⟨_,_,_,z,hz,ez,et⟩:=xd2 o.good (o.of_out hp);have k:=o.pal.ok p hp;rw[et,xk9 o.w1 k.r1,xdh];obtain⟨p',hp',rfl⟩:=Ze.mp (o.inn_pm.mem_iff.mp hz);have e:p'=p.1:=xuu o.pok hp' k.mem (xe9 (o.nms p' hp') k.nm ez);subst e;rw[xkj o.pok hp']
theorem Pict.fns (o:Pict w h ps ss prs) {fs:List Sg} (pf:fs.Perm (outs w (xal w h ps ss prs))):(fs.map (toPr w (xal w h ps ss prs))).Perm (prs.map fun p=>(fr h p.1,p.2)):=by
 have z:=(pf.trans o.out_pm).map (toPr w (xal w h ps ss prs));rw[Zv] at z;rw[show (prs.map fun p=>(fr h p.1,p.2))=prs.map (toPr w (xal w h ps ss prs)∘xcb w) from (Yc fun p hp=>(o.toPr_out hp).symm)];exact z
theorem Pict.again (o:Pict w h ps ss prs) {es fs:List Sg} (pe:es.Perm (inns w (xal w h ps ss prs))) (pf:fs.Perm (outs w (xal w h ps ss prs))):Pict w h (es.map (toPt h)) (srtS w (xal w h ps ss prs)) (fs.map (toPr w (xal w h ps ss prs))):=by
 have a:=xh2 o.good pe;have b:=xmy o.good pe pf;have c:=xnb o.good;rw[xdh] at a b c;have pm:=xkv w (xal w h ps ss prs);exact⟨o.w1,o.w2,o.h1,o.h2,a,⟨pm.nodup_iff.mpr c.1,by rw[pm.length_eq]; exact c.2.1,fun s hs=>c.2.2 s (pm.mem_iff.mp hs)⟩,b⟩
theorem Pict.rim_in (o:Pict w h ps ss prs) (s:Seat):s∈srtS w (xal w h ps ss prs)↔(1<=s.2/\s.2<=(h:Int))/\(s∈ss\/∃ p∈prs,p.2=s):=by
 rw[(xkv w _).mem_iff];constructor
 .intro hs
  obtain⟨z,hz,rfl⟩:=Ze.mp hs;obtain⟨h1,h2⟩:=ZO.mp hz;obtain⟨h3,h4⟩:=Z4 _ _▸h2;have g1:=(xdf.mp h1).1;refine⟨⟨by show (1:Int)<=(z.1:Int)+1; omega,by show (z.1:Int)+1<=_; omega⟩,?_⟩;rcases (o.at_rim h1 h3).2 with⟨p,hp,_,e⟩|⟨_,z,_⟩|⟨_,_,y⟩
  .exact .inr ⟨p,hp,e⟩
  .exact .inl z
  .exact absurd y (of_decide_eq_true h4)
 .rintro ⟨⟨r1,r2⟩,hs⟩;obtain⟨b,r⟩:=s
  dsimp only at r1 r2
  have w1:=o.w1;have rb:Drw.rim w b=0\/Drw.rim w b=(w:Int)+1:=xdp w (b,r);have ex:((Drw.rim w b).toNat:Int)=Drw.rim w b:=by omega
  have ey:1+((r-1).toNat:Int)=r:=by omega
  have mem:((r-1).toNat,(Drw.rim w b).toNat,cd (xap w ps ss prs) (rimC w (b,r)))∈sgs (xal w h ps ss prs):=xdf.mpr ⟨by dsimp only; omega,by dsimp only; omega,by dsimp only; rw[ex,ey]; rfl⟩;have rm:rimB (w+1) (Drw.rim w b).toNat=true:=by
   unfold rimB;rcases rb with z|z
   .rw [decide_eq_true (show (Drw.rim w b).toNat=0 by omega)];rfl
   .rw [decide_eq_true (show (Drw.rim w b).toNat=w+1 by omega),JW]
  have ts:xak ((r-1).toNat,(Drw.rim w b).toNat,cd (xap w ps ss prs) (rimC w (b,r)))=(b,r):=xk9 (w:=w) w1 (p:=(⟨Zb "",0,0,Zb "",0,0⟩,b,r)) r1;have ts:xak ((r-1).toNat,(Drw.rim w b).toNat,cd (xap w ps ss prs) (rimC w (b,r)))=(b,r):=ts;unfold rimS;refine Ze.mpr ⟨_,ZO.mpr ⟨mem,?_⟩,ts⟩
  dsimp only
  rw[rm,JZ];refine decide_eq_true fun z=>?_;have hs:(b,r)∈ss\/∃ p∈prs,p.2=(b,r):=hs;by_cases e:∃ p∈prs,p.2=(b,r)
  .obtain ⟨p,hp,ep⟩:=e;have v:=xc3 (o.name hp);rw[ep,z] at v;have:=xn1 (xb8 (o.nmr p hp)).2;omega
  .have v:=xc3 (o.dot (hs.resolve_right e) fun p hp y=>e ⟨p,hp,y⟩);rw[z] at v;exact absurd v (by decide +kernel)
theorem Pict.sees (o:Pict w h ps ss prs):xri w (xal w h ps ss prs):=by
 intro es fs pe pf s hs;have o':=o.again pe pf;have qe:=o.ens pe;have qf:=o.fns pf;rw[xdh,xs5 o.w1 o'.pok o'.pal (.refl _)];obtain⟨g1,g2,g3⟩:=xdf.mp hs;rw[g3]
 suffices e:xap w (es.map (toPt h)) (srtS w (xal w h ps ss prs)) (fs.map (toPr w (xal w h ps ss prs))) ((s.2.1:Int),1+(s.1:Int))=xap w ps ss prs ((s.2.1:Int),1+(s.1:Int)) by
  unfold cd;rw[e]
 have pin:∀ p∈prs,(fr h p.1,p.2)∈fs.map (toPr w (xal w h ps ss prs)):=fun p hp=>qf.mem_iff.mpr (Ze.mpr ⟨p,hp,rfl⟩);have pout:∀ p'∈fs.map (toPr w (xal w h ps ss prs)),∃ p∈prs,(fr h p.1,p.2)=p':=fun p' hp'=>Ze.mp (qf.mem_iff.mp hp');by_cases r:rimB (w+1) s.2.1=true
 .obtain ⟨rc,z⟩:=o.at_rim hs r;rw[<- rc];have rin:=o.rim_in (xak s);rcases z with⟨p,hp,_,ep⟩|⟨n1,d,_⟩|⟨n1,d,_⟩
  .rw [<- ep,o.name hp];exact o'.name (p:=(fr h p.1,p.2)) (pin p hp)
  .rw [o.dot d n1];refine o'.dot (rin.mpr ⟨⟨by show (1:Int)<=(s.1:Int)+1; omega,by show (s.1:Int)+1<=_; omega⟩,.inl d⟩) fun p' hp' e=>?_;obtain⟨p,hp,rfl⟩:=pout p' hp';exact n1 p hp e
  .rw [o.off (xdp w _) (fun p hp z=>n1 p hp (xcg o.w1 z)) (fun z hz y=>d (xcg o.w1 y▸hz))];refine o'.off (xdp w _) (fun p' hp' z=>?_) (fun z hz y=>?_)
   .obtain ⟨p,hp,rfl⟩:=pout p' hp';exact n1 p hp (xcg o.w1 z)
   .rw [xcg o.w1 y] at hz;rcases (rin.mp hz).2 with x|⟨p,hp,x⟩
    .exact d x
    .exact n1 p hp x
 .have nr:=xka r;by_cases e:∃ p∈ps,(p.x,p.y)=((s.2.1:Int),1+(s.1:Int))
  .obtain ⟨p,hp,ep⟩:=e;rw[<- ep,o.pt hp];exact o'.pt (p:=fr h p) (qe.mem_iff.mpr (Ze.mpr ⟨p,hp,rfl⟩))
  .have c1:(1:Int)<=(s.2.1:Int):=by omega
   have c2:(s.2.1:Int)<=w:=by omega
   rw[xeg (fun p _=>xc0 w p.2 c1 c2 _) (fun s _=>xc0 w s c1 c2 _) (fun p hp z=>e ⟨p,hp,z⟩),xeg (fun p _=>xc0 w p.2 c1 c2 _) (fun s _=>xc0 w s c1 c2 _) (fun p' hp' z=>?_),Drw.marks_at,Drw.marks_at]
   .refine Drw.mkc_perm hsS ?_;unfold Drw.at_;refine (Wh.filter _ ?_).map _;have z:=qf.flatMap_right (xav w);have e:(prs.map fun p=>(fr h p.1,p.2)).flatMap (xav w)=prs.flatMap (xav w):=by
     rw[List.flatMap_map];rfl
    rw[e] at z;exact z
   .obtain ⟨p,hp,rfl⟩:=Ze.mp (qe.mem_iff.mp hp');exact e ⟨p,hp,z⟩
end
theorem xl1 {α β:Type}:∀{as:List α}{bs:List β}{i:Nat}{a:α}{b:β},as[i]?=some a->bs[i]?=some b->(as.zip bs)[i]?=some (a,b)
 | [],_,_,_,_,h,_=>by simp at h
 | _::_,[],_,_,_,_,h=>by simp at h
 | x::as,y::bs,0,a,b,h1,h2=>by
  simp at h1 h2;subst h1 h2;rfl
 | x::as,y::bs,i+1,a,b,h1,h2=>xl1 (as:=as) (bs:=bs) (i:=i) (by simpa using h1) (by simpa using h2)
theorem xl3 {α β:Type}:∀{as:List α}{bs:List β},bs.length=as.length->(as.zip bs).map (·.2)=bs
 | [],[],_=>rfl
 | [],_::_,h=>by cases h
 | _::_,[],h=>by cases h
 | x::as,y::bs,h=>by
  rw[List.zip_cons_cons,Zx,xl3 (by simpa using h)]
theorem xir {α β:Type}:∀{as:List α}{bs:List β},bs.length=as.length->(as.zip bs).map (·.1)=as
 | [],[],_=>rfl
 | [],_::_,h=>by cases h
 | _::_,[],h=>by cases h
 | x::as,y::bs,h=>by
  rw[List.zip_cons_cons,Zx,xir (by simpa using h)]
def okD (B:Nat) (d:PyData):Prop:=d.showable=true/\d.hasDict=false/\d.leavesShort 13=true/\d.weight<=B
theorem okD.le {B C:Nat}{d:PyData} (h:okD B d) (l:B<=C):okD C d:=⟨h.1,h.2.1,h.2.2.1,Zy h.2.2.2 l⟩
theorem xin {s:Str}{B:Nat} (l:s.length<=B) (a:∀ c∈s.cps.toList,c<128):okD B (.str s):=by
 refine⟨by simp[YA],by simp[Qk],?_,?_⟩
 .rw [YD];exact Y2.mpr fun c hc=>decide_eq_true (Jc (a c hc) (by decide))
 .rw [Qx];exact l
theorem xik {B:Nat}:∀{xs:List PyData},(∀ x∈xs,okD B x)->Wq xs=true/\PyData.hasDictAll xs=false/\QS 13 xs=true/\PyData.weightAll xs<=xs.length*(B+1)
 | [],_=>by simp[Wq,PyData.hasDictAll,QS,PyData.weightAll]
 | x::xs,h=>by
  obtain⟨a1,a2,a3,a4⟩:=h x (Zr ..);obtain⟨b1,b2,b3,b4⟩:=xik (xs:=xs) fun z hz=>h z (Zt _ hz)
  refine⟨by rw[Wq,a1,b1]; rfl,by rw[PyData.hasDictAll,a2,b2]; rfl,by rw[QS,a3,b3]; rfl,?_⟩;rw[PyData.weightAll,ZF,Nat.succ_mul];omega
theorem xkw {B:Nat}{xs:List PyData} (h:∀ x∈xs,okD B x):okD (xs.length*(B+1)) (.list xs):=by
 obtain⟨a,b,c,d⟩:=xik h;exact⟨by rw[YA]; exact a,by rw[Qk]; exact b,by rw[YD]; exact c,by rw[Qx]; exact d⟩
theorem xl8 {B:Nat}{xs:List PyData} (h:∀ x∈xs,okD B x):okD (xs.length*(B+1)) (.tuple xs):=by
 obtain⟨a,b,c,d⟩:=xik h;exact⟨by rw[YA]; exact a,by rw[Qk]; exact b,by rw[YD]; exact c,by rw[Qx]; exact d⟩
inductive Odd (H:Hp):V->DV->Prop
 | non:Odd H .non .non
 | int (i:Int) (h:0<=i/\i<10):Odd H (.int i) (.int i)
 | bl (b:Bool):Odd H (.bl b) (.bl b)
 | lst {a:Addr}{s:Str} (h:H a=some (.lst [.str s])) (l:s.length<=100) (c:∀ c∈s.cps.toList,c<128):Odd H (.ref a) (.lst [.str s])
 | tup {a:Addr}{s:Str} (h:H a=some (.tup [.str s])) (l:s.length<=100) (c:∀ c∈s.cps.toList,c<128):Odd H (.ref a) (.tup [.str s])
theorem Odd.same {H H':Hp} (s:Same H H') {v:V}{d:DV} (o:Odd H v d):Odd H' v d:=by
 cases o with
 | non=>exact .non
 | int i h=>exact .int i h
 | bl b=>exact .bl b
 | lst h l c=>exact .lst (s _ _ h) l c
 | tup h l c=>exact .tup (s _ _ h) l c
theorem xn5 {K:Zd}{H:Hp}{s:Str} (j:Nat) (x:V) (d:DV) (h1:[V.str s][j]?=some x) (h2:[DV.str s][j]?=some d):Dv K H 0 x d:=by
 match j,h1,h2 with
 | 0,h1,h2=>cases h1; cases h2; exact .str
 | j+1,h1,h2=>simp at h1
theorem Odd.dv {K:Zd}{H:Hp}{v:V}{d:DV} (o:Odd H v d):Dv K H 1 v d:=by
 cases o with
 | non=>exact .non
 | int i h=>exact .int
 | bl b=>exact .bl
 | lst h l c=>exact .lst (SqL.of h) rfl xn5
 | tup h l c=>exact .tup (SqT.of h) rfl xn5
theorem Odd.ok {H:Hp}{v:V}{d:DV} (o:Odd H v d):okD 700 (pyD d):=by
 cases o with
 | non=>rw[pyD]; exact⟨by simp[YA],by simp[Qk],by simp[YD],by simp[Qx]⟩
 | int i h =>
  rw[pyD];obtain⟨h1,h2⟩:=h;have:i=0\/i=1\/i=2\/i=3\/i=4\/i=5\/i=6\/i=7\/i=8\/i=9:=by omega
  rcases this with rfl|rfl|rfl|rfl|rfl|rfl|rfl|rfl|rfl|rfl<;>exact⟨by decide +kernel,by decide +kernel,by decide +kernel,by decide +kernel⟩
 | bl b=>rw[pyD]; exact⟨by simp[YA],by simp[Qk],by simp[YD],by simp[Qx]⟩
 | lst h l c =>
  rw[pyD,pyDs,pyDs,pyD];exact (xkw (B:=100) fun x hx=>by rw[Z0.mp hx]; exact xin l c).le (by show 1*(100+1)<=700; decide)
 | tup h l c =>
  rw[pyD,pyDs,pyDs,pyD];exact (xl8 (B:=100) fun x hx=>by rw[Z0.mp hx]; exact xin l c).le (by show 1*(100+1)<=700; decide)
theorem Odd.nostr {K:Zd}{H:Hp}{v:V}{d:DV} (o:Odd H v d):∃ ty,TyOf K H v ty/\Yw K ty (.type "str")=some false:=by
 cases o with
 | non=>exact⟨_,.non,rfl⟩
 | int i h=>exact⟨_,.int i,rfl⟩
 | bl b=>exact⟨_,.bl b,rfl⟩
 | lst h l c=>exact⟨_,.lst h,rfl⟩
 | tup h l c=>exact⟨_,.tup h,rfl⟩
inductive Itm (H:Hp):V->DV->Prop
 | txt (s:Str) (l:s.length<=600) (c:∀ c∈s.cps.toList,c<128):Itm H (.str s) (.str s)
 | odd {v:V}{d:DV} (o:Odd H v d):Itm H v d
theorem Itm.same {H H':Hp} (s:Same H H') {v:V}{d:DV} (o:Itm H v d):Itm H' v d:=by
 cases o with
 | txt s l c=>exact .txt s l c
 | odd o=>exact .odd (o.same s)
theorem Itm.dv {K:Zd}{H:Hp}{v:V}{d:DV} (o:Itm H v d):Dv K H 1 v d:=by
 cases o with
 | txt s l c=>exact .str
 | odd o=>exact o.dv
theorem Itm.ok {H:Hp}{v:V}{d:DV} (o:Itm H v d):okD 700 (pyD d):=by
 cases o with
 | txt s l c=>rw[pyD]; exact xin (by omega) c
 | odd o=>exact o.ok
theorem itms {H:Hp}:∀{xs:List V},(∀ v∈xs,∃ d,Itm H v d)->∃ ds:List DV,ds.length=xs.length/\∀(j:Nat) (x:V) (d:DV),xs[j]?=some x->ds[j]?=some d->Itm H x d
 | [],_=>⟨[],rfl,fun j x d h=>by simp at h⟩
 | v::xs,h=>by
  obtain⟨d,hd⟩:=h v (Zr ..);obtain⟨ds,l,f⟩:=itms (xs:=xs) fun z hz=>h z (Zt _ hz)
  refine⟨d::ds,by rw[ZF,l]; rfl,fun j x e h1 h2=>?_⟩
  match j,h1,h2 with
  | 0,h1,h2=>cases h1; cases h2; exact hd
  | j+1,h1,h2=>exact f j x e (by simpa using h1) (by simpa using h2)
inductive TS (H:Hp):V->Nat->Prop
 | non:TS H .non 0
 | int (i:Int) (h:0<=i/\i<10):TS H (.int i) 0
 | bl (b:Bool):TS H (.bl b) 0
 | txt (s:Str) (l:s.length<=600) (c:∀ c∈s.cps.toList,c<128):TS H (.str s) 0
 | tpl {a:Addr}{xs:List V} (h:H a=some (.tup xs)) (it:∀ v∈xs,∃ d,Itm H v d) (l:xs.length<=60):TS H (.ref a) 0
 | dct {a:Addr} (h:H a=some (.dK [])):TS H (.ref a) 0
 | few {a:Addr}{xs:List V} (h:H a=some (.lst xs)) (it:∀ v∈xs,∃ d,Itm H v d) (l:xs.length=0\/16<xs.length) (l60:xs.length<=60):TS H (.ref a) 0
 | row {a:Addr}{xs:List V}{r W:Nat}{v:V} (h:H a=some (.lst xs)) (it:∀ v∈xs,∃ d,Itm H v d) (l16:xs.length<=16) (hv:xs[r]?=some v) (ok:∀ j,j<r->∃ s:Str,xs[j]?=some (.str s)/\s.length=W) (w3:0<r->3<=W/\W<=32) (bad:(∃ d,Odd H v d)\/∃ s:Str,v=.str s/\s.length<=600/\(s.length<3\/32<s.length\/(0<r/\s.length≠W))):TS H (.ref a) r
theorem TS.same {H H':Hp} (s:Same H H') {x:V}{r:Nat} (z:TS H x r):TS H' x r:=by
 have up:∀{xs:List V},(∀ v∈xs,∃ d,Itm H v d)->∀ v∈xs,∃ d,Itm H' v d:=fun it v hv=>let ⟨d,o⟩:=it v hv; ⟨d,o.same s⟩;cases z with
 | non=>exact .non
 | int i h=>exact .int i h
 | bl b=>exact .bl b
 | txt x l c=>exact .txt x l c
 | tpl h it l=>exact .tpl (s _ _ h) (up it) l
 | dct h=>exact .dct (s _ _ h)
 | few h it l l60=>exact .few (s _ _ h) (up it) l l60
 | row h it l16 hv ok w3 bad=>exact .row (s _ _ h) (up it) l16 hv ok w3 (bad.imp (fun⟨d,o⟩=>⟨d,o.same s⟩) id)
theorem TS.show {K:Zd}{H:Hp}{x:V}{r:Nat} (z:TS H x r):∃ s:Str,∀(H':Hp) (Q:VK),Same H H'->Q (.str s) H'->xj5 K [x] H' Q:=by
 have mk:∀{d:DV}{n B:Nat},Dv K H n x d->n<=8->okD B (pyD d)->B<=1000000->∃ s:Str,∀(H':Hp) (Q:VK),Same H H'->Q (.str s) H'->xj5 K [x] H' Q:=fun {d n B} dv hn o b =>
  ⟨(pyD d).shown,fun H' Q s q=>⟨x,rfl,.inl ⟨n,d,Dv.same s dv,hn,o.1,o.2.1,PyData.shown_fits (B:=13) (by decide) (by decide) o.2.2.1 (by have:=o.2.2.2; omega),q⟩⟩⟩
 have ls:∀{xs:List V},(∀ v∈xs,∃ d,Itm H v d)->xs.length<=60->∃ ds:List DV,xs.length=ds.length/\(∀(j:Nat) (x:V) (d:DV),xs[j]?=some x->ds[j]?=some d->Dv K H 1 x d)/\(∀ y∈pyDs ds,okD 700 y)/\(pyDs ds).length*701<=1000000:=fun {xs} it l=>by
  obtain⟨ds,e,f⟩:=itms it;refine⟨ds,e.symm,fun j x d h1 h2=>(f j x d h1 h2).dv,fun y hy=>?_,by rw[xhc,Za]; omega⟩;rw[xhc] at hy;obtain⟨d,hd,rfl⟩:=Ze.mp hy;obtain⟨j,hj⟩:=Yp.mp hd;have lt:=(Zi.mp hj).1;exact (f j _ d (Zf (by omega)) hj).ok
 have li:∀{a:Addr}{xs:List V},x=.ref a->H a=some (.lst xs)->(∀ v∈xs,∃ d,Itm H v d)->xs.length<=60->∃ s:Str,∀(H':Hp) (Q:VK),Same H H'->Q (.str s) H'->xj5 K [x] H' Q:=fun {a xs} ex h it l=>by
  obtain⟨ds,e,f,o,b⟩:=ls it l;subst ex;exact mk (d:=.lst ds) (.lst (SqL.of h) e f) (by decide) (by rw[pyD]; exact xkw o) b
 cases z with
 | non=>exact mk (d:=.non) (n:=0) .non (by decide) (Odd.non (H:=H)).ok (by decide)
 | int i h=>exact mk (d:=.int i) (n:=0) .int (by decide) (Odd.int (H:=H) i h).ok (by decide)
 | bl b=>exact mk (d:=.bl b) (n:=0) .bl (by decide) (Odd.bl (H:=H) b).ok (by decide)
 | txt s l c=>exact mk (d:=.str s) (n:=0) .str (by decide) (Itm.txt (H:=H) s l c).ok (by decide)
 | tpl h it l =>
  obtain⟨ds,e,f,o,b⟩:=ls it l;exact mk (d:=.tup ds) (.tup (SqT.of h) e f) (by decide) (by rw[pyD]; exact xl8 o) b
 | dct h=>exact⟨_,fun H' Q s q=>⟨_,rfl,.inr ⟨_,rfl,s _ _ h,q⟩⟩⟩
 | few h it l l60=>exact li rfl h it l60
 | row h it l16 hv ok w3 bad=>exact li rfl h it (by omega)
inductive xkh (t:Adr) (vs:List V) (H:Hp) (Q:VK) (E:XK):Prop
 | mk (x:V) (r:Nat) (e_:vs=[x]) (r_:TS H x r/\∀ er,er=Er.badDrawing (.int (r:Int)) (.int 0)->∀ e H',xch t H H' e er->E e t.C_a H')
theorem okT_aa (T:Txt w K mg t):FnOk true P w K mg base (CXo P w) 3 t.f_aa t.d_aa ["rows"] (xkh t):=by
 refine T.F_aa.okx (k:=2) sc_aa (fun vs H Q E h=>?_) (fun cdv A outer s H vs Q E hr h=>?_)
 .obtain ⟨x,r,rfl,_⟩:=h;rfl
 .obtain ⟨x,r,rfl,h⟩:=h;refine⟨_,xj (xag (PW.pt (xcj (xbh (xa9 (xw xba rfl T.n_isinstance boot_isinstance (xb (pv 0) (xb (xca (v:=.ty "list") rfl T.n_list boot_list rfl) (xg)))))) (xcd (xbh (xfi xdm xdm (xk) (xw xbd rfl T.n_len J0 (xb (pv 0) (xg))) (xbn (v:=.int 16) rfl T.v_bn.choose_spec ⟨_,rfl⟩)))))) (xn (xhf (hr.hd rfl) xbz (xha T.k_a (ok_n T) (hmm hr) rfl T.g_a T.b_n .nil (xb (xk) (xb (xk) (xg)))))) (x5))
   (xn (xa0 PassesOwn.leaving rfl (xcp rfl T.n_enumerate (xb (pv 0) (xg))) (xan rfl (xr (xq (i:=1) sc_aa.nd rfl (Zp rfl)) (xr (xq (i:=2) sc_aa.nd rfl (Zp rfl)) (xad)))) (xn (xag (PW.pt (xcj (xbh (xa9 (xw xba rfl T.n_isinstance boot_isinstance (xb (pv 2) (xb (xca (v:=.ty "str") rfl T.n_str boot_str rfl) (xg)))))) (xcj (xbh (xfi xdm xdm (xk) (xw xbc rfl T.n_len J0 (xb (pv 2) (xg))) (xu xai (xbn (v:=.int 30) rfl T.v_bf.choose_spec ⟨_,rfl⟩) (xk)))) (xcd (x9 xge (xw xbc rfl T.n_len J0 (xb (pv 2) (xg))) (xw xbc rfl T.n_len J0 (xb (xax xbu (pv 0) (xk) (fun _ _=>rfl)) (xg))) (x8 _)))))) (xn (xhf (hr.hd rfl) xbz (xha T.k_a (ok_n T) (hmm hr) rfl T.g_a T.b_n .nil (xb (pv 1) (xb (xk) (xg)))))) (x5))))),?_⟩
  obtain⟨sp,hE⟩:=h;cases sp with
  | non=>exact⟨_,rfl,_,_,rfl,.inl ⟨_,_,false,.non,rfl,(by rfl),false,rfl,iteT (iteT ⟨(by show 2<=1000; decide),fun e he=>⟨e,_,_,rfl,xf,fun dx hdx=>⟨rfl,e,t.C_a,some dx,rfl,xb3 hdx,T.mk_a,hE (.badDrawing _ _) (rfl) e _ (xb2 rfl rfl he hdx)⟩⟩⟩)⟩⟩
  | int i h=>exact⟨_,rfl,_,_,rfl,.inl ⟨_,_,false,.int i,rfl,(by rfl),false,rfl,iteT (iteT ⟨(by show 2<=1000; decide),fun e he=>⟨e,_,_,rfl,xf,fun dx hdx=>⟨rfl,e,t.C_a,some dx,rfl,xb3 hdx,T.mk_a,hE (.badDrawing _ _) (rfl) e _ (xb2 rfl rfl he hdx)⟩⟩⟩)⟩⟩
  | bl b=>exact⟨_,rfl,_,_,rfl,.inl ⟨_,_,false,.bl b,rfl,(by rfl),false,rfl,iteT (iteT ⟨(by show 2<=1000; decide),fun e he=>⟨e,_,_,rfl,xf,fun dx hdx=>⟨rfl,e,t.C_a,some dx,rfl,xb3 hdx,T.mk_a,hE (.badDrawing _ _) (rfl) e _ (xb2 rfl rfl he hdx)⟩⟩⟩)⟩⟩
  | txt s l c=>exact⟨_,rfl,_,_,rfl,.inl ⟨_,_,false,.str s,rfl,(by rfl),false,rfl,iteT (iteT ⟨(by show 2<=1000; decide),fun e he=>⟨e,_,_,rfl,xf,fun dx hdx=>⟨rfl,e,t.C_a,some dx,rfl,xb3 hdx,T.mk_a,hE (.badDrawing _ _) (rfl) e _ (xb2 rfl rfl he hdx)⟩⟩⟩)⟩⟩
  | tpl h it l=>exact⟨_,rfl,_,_,rfl,.inl ⟨_,_,false,.tup h,rfl,(by rfl),false,rfl,iteT (iteT ⟨(by show 2<=1000; decide),fun e he=>⟨e,_,_,rfl,xf,fun dx hdx=>⟨rfl,e,t.C_a,some dx,rfl,xb3 hdx,T.mk_a,hE (.badDrawing _ _) (rfl) e _ (xb2 rfl rfl he hdx)⟩⟩⟩)⟩⟩
  | dct h=>exact⟨_,rfl,_,_,rfl,.inl ⟨_,_,false,.dK h,rfl,(by rfl),false,rfl,iteT (iteT ⟨(by show 2<=1000; decide),fun e he=>⟨e,_,_,rfl,xf,fun dx hdx=>⟨rfl,e,t.C_a,some dx,rfl,xb3 hdx,T.mk_a,hE (.badDrawing _ _) (rfl) e _ (xb2 rfl rfl he hdx)⟩⟩⟩)⟩⟩
  | @few a xs h it l l60 =>
   refine⟨_,rfl,_,_,rfl,.inl ⟨_,_,true,.lst h,rfl,xbf,true,rfl,iteF ?_⟩⟩;refine⟨_,rfl,a,_,rfl,.inl (SqL.of h),?_⟩;refine⟨_,_,rfl,rfl,_,rfl,ite2 (fun c=>?_) (fun c=>?_)⟩
   .have c:=of_decide_eq_true c;exact⟨_,_,rfl,rfl,_,rfl,ifP (by rw[decide_eq_false (by omega)]; rfl) ⟨(by show 2<=1000; decide),fun e he=>⟨e,_,_,rfl,xf,fun dx hdx=>⟨rfl,e,t.C_a,some dx,rfl,xb3 hdx,T.mk_a,hE (.badDrawing _ _) (rfl) e _ (xb2 rfl rfl he hdx)⟩⟩⟩⟩
   .exact ⟨_,rfl,iteT ⟨(by show 2<=1000; decide),fun e he=>⟨e,_,_,rfl,xf,fun dx hdx=>⟨rfl,e,t.C_a,some dx,rfl,xb3 hdx,T.mk_a,hE (.badDrawing _ _) (rfl) e _ (xb2 rfl rfl he hdx)⟩⟩⟩⟩
  | @row a xs _ W v h it l16 hv ok w3 bad =>
   have hr:=(Zi.mp hv).1;refine⟨_,rfl,_,_,rfl,.inl ⟨_,_,true,.lst h,rfl,xbf,true,rfl,iteF ?_⟩⟩;refine⟨_,rfl,a,_,rfl,.inl (SqL.of h),?_⟩;refine⟨_,_,rfl,rfl,_,rfl,ifP (decide_eq_true (by omega)) ⟨_,_,rfl,rfl,_,rfl,ifN (by rw[decide_eq_true (by omega)]; rfl) ?_⟩⟩;refine⟨_,rfl,a,_,rfl,SqL.of h,?_⟩;refine xd9 (xs:=xs) (Pv:=fun i Z H5=>∃(v1 v2:Option V),Z=[some (.ref a),v1,v2]/\Same H H5/\i<=r) ⟨_,_,rfl,Same.refl _,ZW _⟩ ?_ ?_ ?_
   .rintro i Z H5 _ ⟨_,_,rfl,s5,_⟩;exact SqL.of (s5 _ _ h)
   .rintro i x p Z H5 hx hp ⟨v1,v2,rfl,s5,ir⟩;have BIG:∀{n:Nat},n<=1000->n<=sizeLine:=fun h=>Zy h (by decide);have s6:Same H5 (upd H5 p (.tup [.int (i:Int),x])):=xo (Same.refl _) hp;have g6:upd H5 p (.tup [.int (i:Int),x]) p=some (.tup [.int (i:Int),x]):=xf;revert s6 g6;generalize upd H5 p (.tup [.int (i:Int),x])=H6;intro s6 g6;have s06:=s5.trans s6;refine⟨p,_,rfl,SqT.of g6,rfl,_,_,rfl,_,_,rfl,rfl,?_⟩;rcases Nat.lt_or_ge i r with lt|ge
    .obtain ⟨s,hs,hl⟩:=ok i lt;rw[hx] at hs;cases hs;obtain⟨w1,w2⟩:=w3 (by omega);obtain⟨s0,hs0,hl0⟩:=ok 0 (by omega);refine⟨_,rfl,_,_,rfl,.inl ⟨_,_,true,.str _,rfl,xbf,true,rfl,iteF ?_⟩⟩;refine⟨_,rfl,_,rfl,BIG (by omega),_,_,rfl,rfl,_,rfl,ifP (decide_eq_true (by rw[hl]; omega)) ?_⟩;refine⟨_,_,rfl,rfl,_,_,rfl,rfl,_,rfl,ifN (by rw[decide_eq_true (by rw[hl]; omega)]; rfl) ?_⟩;refine⟨_,rfl,_,rfl,BIG (by omega),_,rfl,a,_,0,.str s0,rfl,rfl,SqL.of (s06 _ _ h),xb9 (j:=0) hs0,_,rfl,BIG (by omega),rfl,_,rfl,ifN (by rw[hl,hl0]; simp) ⟨_,_,rfl,s06,lt⟩⟩
    .have er:i=r:=by omega
     subst er;rw[hv] at hx;cases hx;rcases bad with⟨d,od⟩|⟨s,rfl,s6l,bad⟩
     .obtain ⟨ty,hty,kit⟩:=(od.same s06).nostr (K:=K);exact⟨_,rfl,_,_,rfl,.inl ⟨ty,_,false,hty,rfl,kit,false,rfl,iteT (iteT ⟨_,rfl,(by show 2<=1000; decide),fun e he=>⟨e,_,_,rfl,xf,fun dx hdx=>⟨rfl,e,t.C_a,some dx,rfl,xb3 hdx,T.mk_a,hE (.badDrawing _ _) (rfl) e _ (xch.pre s06 (xb2 rfl rfl he hdx))⟩⟩⟩)⟩⟩
     .refine ⟨_,rfl,_,_,rfl,.inl ⟨_,_,true,.str _,rfl,xbf,true,rfl,iteF ?_⟩⟩;refine⟨_,rfl,_,rfl,BIG (by omega),_,_,rfl,rfl,_,rfl,ite2 (fun c=>?_) (fun c=>?_)⟩
      .have c:=of_decide_eq_true c;refine⟨_,_,rfl,rfl,_,_,rfl,rfl,_,rfl,ite2 (fun c2=>?_) (fun c2=>?_)⟩
       .exact iteT ⟨_,rfl,(by show 2<=1000; decide),fun e he=>⟨e,_,_,rfl,xf,fun dx hdx=>⟨rfl,e,t.C_a,some dx,rfl,xb3 hdx,T.mk_a,hE (.badDrawing _ _) (rfl) e _ (xch.pre s06 (xb2 rfl rfl he hdx))⟩⟩⟩
       .have c2:(s.length:Int)<=30+2:=by simpa using c2
        have r0:0<i/\s.length≠W:=by
         rcases bad with z|z|z
         .omega
         .omega
         .exact z
        obtain⟨s0,hs0,hl0⟩:=ok 0 r0.1;obtain⟨w1,w2⟩:=w3 r0.1;refine⟨_,rfl,_,rfl,BIG (by omega),_,rfl,a,_,0,.str s0,rfl,rfl,SqL.of (s06 _ _ h),xb9 (j:=0) hs0,_,rfl,BIG (by omega),rfl,_,rfl,ifP ?_ ⟨_,rfl,(by show 2<=1000; decide),fun e he=>⟨e,_,_,rfl,xf,fun dx hdx=>⟨rfl,e,t.C_a,some dx,rfl,xb3 hdx,T.mk_a,hE (.badDrawing _ _) (rfl) e _ (xch.pre s06 (xb2 rfl rfl he hdx))⟩⟩⟩⟩;have ne:=r0.2;simp;omega
      .exact ⟨_,rfl,iteT (iteT ⟨_,rfl,(by show 2<=1000; decide),fun e he=>⟨e,_,_,rfl,xf,fun dx hdx=>⟨rfl,e,t.C_a,some dx,rfl,xb3 hdx,T.mk_a,hE (.badDrawing _ _) (rfl) e _ (xch.pre s06 (xb2 rfl rfl he hdx))⟩⟩⟩)⟩
   .rintro Z H5 ⟨v1,v2,rfl,s5,ir⟩;omega
theorem xq0 (T:Txt w K mg t):FnOk true P w K mg base (CXo P w) 9 t.f_seen t.d_seen ["rows"] (xkh t):=by
 refine T.F_seen.okx (k:=8) xbl (fun vs H Q E h=>?_) (fun cdv A outer s H vs Q E hr h=>?_)
 .obtain ⟨x,r,rfl,_⟩:=h;rfl
 .obtain ⟨x,r,rfl,h⟩:=h;refine⟨_,xj (xay (xt (okT_aa T) (hmm hr) rfl T.g_aa T.F_aa.kp T.b_aa .nil xbz.pass (xb (pv 0) (xg))))
   (xj (xx (i:=1) xbl.nd rfl (Jf rfl) (xe7 T.k_t (ok_al T) (hmm hr) rfl T.g_t T.b_al .nil xbz.pass (xb (xu xe0 (xw xbc rfl T.n_len J0 (xb (xax xbu (pv 0) (xk) (fun _ _=>rfl)) (xg))) (xk)) (xg))))
   (xj (xa0 PassesOwn.leaving rfl (xat (xt (ok_as T) (hmm hr) rfl T.g_as T.F_as.kp T.b_as .nil xbz.pass (xb (pv 0) (xg)))) (xan rfl (xr (xq (i:=2) xbl.nd rfl (Zp rfl)) (xr (xq (i:=3) xbl.nd rfl (Zp rfl)) (xr (xq (i:=4) xbl.nd rfl (Zp rfl)) (xad))))) (xn (xay (xa3 (pv 1) T.c_t T.m_z (ok_z T) (hmm hr) T.b_z .nil xbz.pass (xb (pv 2) (xb (pv 3) (xb (pv 4) (xg))))))))
   (xj (xig (xa0 PassesOwn.leaving rfl (xfg (xaa (pv 1) rfl)) (xan rfl (xr (xq (i:=5) xbl.nd rfl (Zp rfl)) (xr (xq (i:=6) xbl.nd rfl (Zp rfl)) (xad)))) (xn (xag (xds (xdt (xa5 hr) (pv 5) (xaa (pv 1) rfl))) (xn (xhf (hr.hd rfl) xbz (xha T.k_a (ok_n T) (hmm hr) rfl T.g_a T.b_n .nil (xb (xax xbj (pv 6) (xk) (fun _ _=>rfl)) (xb (xax xbj (pv 6) (xk) (fun _ _=>rfl)) (xg)))))) (x5)))))
   (xj (xx (i:=7) xbl.nd rfl (Zp rfl) (xt (ok_ag T) (hmm hr) rfl T.g_ag T.F_ag.kp T.b_ag .nil xbz.pass (xb (pv 0) (xb (pv 1) (xg)))))
   (xj (xcc rfl (xa4 (zs:=["name"]) (ys:=["letters"]) (fr:=[1]) (N0:=["rows", "letters", "row", "column", "sign", "name", "place", "picture", "pairs"]) (sc0:=xp xf2) (by decide +kernel) rfl rfl rfl) (xat (xw (xed rfl) rfl T.n_sorted PyProof.Rows.Boot.«sorted» (xb (xaa (pv 1) rfl) (xg)))) (fun _ _ _ _ _ ow nd=>xq (i:=0) nd rfl (Zp (ow _ (by simp))) (Jf (ow _ (by simp)))) (xbg (by decide)) (fun _ _ _ _ _=>xbk) (fun _ _ _ _ _=>xu (r:=xj3 K) xil (x4 (xb (pv 0) (xg))) (xt (ok_a3 T) (hmm hr) rfl T.g_a3 T.F_a3.kp T.b_a3 .nil xm (xb (xd1 (xa5 hr) ((xaa (pv 1) rfl:PE _ _ (tFld K _ _))) (pv 0) (fun _ _=>rfl)) (xg)))) (j:=8) rfl (Zp rfl))
   (xj (xay (xt (ok_x T) (hmm hr) rfl T.g_x T.F_x.kp T.b_x .nil xbz.pass (xb (pv 0) (xb (xt (xlb T) (hmm hr) rfl T.g_drawn T.F_drawn.kp T.b_drawn .nil xbz.pass (xb (pv 7) (xb (pv 8) (xg)))) (xg)))))
   (xn (x0 (x4 (xb (pv 7) (xb (pv 8) (xg)))))))))))),?_⟩
  obtain⟨sp,hE⟩:=h;exact⟨_,rfl,x,r,rfl,sp,hE⟩
theorem xd5 (a:Int) {n:Nat} (h:0<n):∃ k:Nat,a % (n:Int)=(k:Int)/\k<n:=by
 have z:=xdw a (show (0:Int)<(n:Int) by omega);exact⟨(a % (n:Int)).toNat,by omega,by omega⟩
theorem xk2 {P:V->Prop}{L:List V} (c:Int) {n:Nat} (hn:L.length=n) (h0:0<n) (all:∀ v∈L,P v):∃ v,atI L (c % (n:Int))=some v/\P v:=by
 obtain⟨k,ek,hk⟩:=xd5 c h0;have e:L[k]?=some (L[k]'(by omega)):=Zf (by omega);exact⟨_,by rw[ek]; exact xb9 e,all _ (Zn e)⟩
theorem xif (a b:List Nat):ofL a++ofL b=ofL (a++b):=by
 have h:(ofL a++ofL b).cps.toList=(ofL (a++b)).cps.toList:=by
  show ((ofL a).cps++(ofL b).cps).toList=_;rw[Array.toList_append,xac,xac,xac]
 generalize ofL a++ofL b=x at h;generalize ofL (a++b)=y at h;obtain⟨⟨cx⟩⟩:=x;obtain⟨⟨cy⟩⟩:=y;exact congrArg (fun z=>Str.mk (Array.mk z)) h
def BadR (H:Hp) (W:Nat) (v:V):Prop:=(∃ d,Itm H v d)/\((∃ d,Odd H v d)\/∃ s:Str,v=.str s/\s.length<=600/\s.length≠W)
theorem BadR.same {H H':Hp} (s:Same H H') {W:Nat}{v:V} (b:BadR H W v):BadR H' W v:=⟨let ⟨d,o⟩:=b.1; ⟨d,o.same s⟩,b.2.imp (fun⟨d,o⟩=>⟨d,o.same s⟩) id⟩
theorem BadR.txt {H:Hp}{W:Nat}{r:List Nat} (l:r.length<=600) (a:∀ c∈r,c<128) (ne:r.length≠W):BadR H W (.str (ofL r)):=⟨⟨_,.txt _ (by rw[xas]; exact l) (by rw[xac]; exact a)⟩,.inr ⟨_,rfl,by rw[xas]; exact l,by rw[xas]; exact ne⟩⟩
theorem BadR.odd {H:Hp}{W:Nat}{v:V}{d:DV} (o:Odd H v d):BadR H W v:=⟨⟨_,.odd o⟩,.inl ⟨_,o⟩⟩
inductive xsv (vs:List V) (H:Hp) (Q:VK) (_:XK):Prop
 | mk (r:List Nat) (c:Int) (e_:vs=[.str (ofL r),.int c]) (r_:3<=r.length/\r.length<=32/\(∀ c∈r,c<128)/\∀ H' v,Same H H'->BadR H' r.length v->Q v H')
inductive xmz (t:Adr) (vs:List V) (H:Hp) (Q:VK) (_:XK):Prop
 | mk (x:V) (r:Nat) (e_:vs=[x,.int (r:Int)]) (r_:TS H x r/\∀ H',Same H H'->Q (.bl true) H')
theorem xpm {K:Zd}{H:Hp}{a:Addr}{x y z:Bool} (e:H a=some (.lst [.bl x,.bl y,.bl z])):Dv K H 1 (.ref a) (.lst [.bl x,.bl y,.bl z]):=.lst (SqL.of e) rfl fun j u v h1 h2=>by
 match j,h1,h2 with
 | 0,h1,h2=>cases h1; cases h2; exact .bl
 | 1,h1,h2=>cases h1; cases h2; exact .bl
 | 2,h1,h2=>cases h1; cases h2; exact .bl
 | j+3,h1,h2=>simp at h1
theorem xn3 {K:Zd}{H:Hp}{a:Addr}{x y:Int} (e:H a=some (.tup [.int x,.int y])):Dv K H 1 (.ref a) (.tup [.int x,.int y]):=.tup (SqT.of e) rfl fun j u v h1 h2=>by
 match j,h1,h2 with
 | 0,h1,h2=>cases h1; cases h2; exact .int
 | 1,h1,h2=>cases h1; cases h2; exact .int
 | j+2,h1,h2=>simp at h1
theorem ok_ad (T:Txt w K mg t):FnOk true P w K mg base (CXo P w) 1 t.f_ad t.d_ad ["_law_row", "_law_cell"] (xsv):=by
 refine T.F_ad.okn (k:=0) sc_ad (fun vs H Q E h=>?_) (fun cdv A outer s H vs Q E hr h=>?_)
 .obtain ⟨r,c,rfl,_⟩:=h;rfl
 .obtain ⟨r,c,rfl,h⟩:=h;refine⟨_,xj ((by (with_reducible refine' xx (i:=2) ?n51 ?i52 ?x53 ?e54 ?s55 ?f56); (case n51=>exact sc_ad.nd); (case i52=>rfl); (case x53=>exact Zp rfl); (case f56=>exact Zp rfl); (case e54=>((with_reducible refine' xa8 ?p57); (case p57=>((with_reducible refine' xb ?e58 ?q59 rfl); (case e58=>((exact xez))); (case q59=>((with_reducible refine' xb ?e60 ?q61 rfl); (case e60=>((exact xk))); (case q61=>((with_reducible refine' xb ?e62 ?q63 rfl); (case e62=>((exact xa8 (xb (pv 0) (xg))))); (case q63=>((with_reducible refine' xb ?e64 ?q65 rfl); (case e64=>((exact x4 (xb (pv 0) (xg))))); (case q65=>((with_reducible refine' xb ?e66 ?q67 rfl); (case e66=>((exact xdz))); (case q67=>((with_reducible refine' xb ?e68 ?q69 rfl); (case e68=>((exact xu xfj (pv 0) (x6)))); (case q69=>((with_reducible refine' xb ?e70 ?q71 rfl); (case e70=>((exact xct xk3 (pv 0) (xci (xk)) xd4))); (case q71=>((with_reducible refine' xb ?e72 ?q73 rfl); (case e72=>((exact x6))); (case q73=>((with_reducible refine' xb ?e74 ?q75 rfl); (case e74=>((exact xu xfj (pv 0) (pv 0)))); (case q75=>((exact xg))))))))))))))))))))))); (case s55=>rfl)))
   (xn (x0 (xax xbu (pv 2) (xu xar (pv 1) (xk)) (fun _ _=>rfl)))),?_⟩
  obtain⟨r3,r32,ra,q⟩:=h;have BIG:∀{n:Nat},n<=1000->n<=sizeLine:=fun h=>Zy h (by decide);have rl:=xas r;refine⟨_,rfl,(by show 1<=sizeLine; decide),fun l1 hl1=>?_⟩;have s1:Same H (upd H l1 (.lst [.str (ofL r)])):=xo (Same.refl _) hl1;have g1:upd H l1 (.lst [.str (ofL r)]) l1=some (.lst [.str (ofL r)]):=xf;revert s1 g1;generalize upd H l1 (.lst [.str (ofL r)])=H1;intro s1 g1;refine⟨_,rfl,(by show 1<=sizeLine; decide),fun t1 ht1=>?_⟩;have s2:Same H1 (upd H1 t1 (.tup [.str (ofL r)])):=xo (Same.refl _) ht1;have g2:upd H1 t1 (.tup [.str (ofL r)]) t1=some (.tup [.str (ofL r)]):=xf;revert s2 g2;generalize upd H1 t1 (.tup [.str (ofL r)])=H2;intro s2 g2;refine⟨_,rfl,_,_,rfl,rfl,(by rw[rl]; exact BIG (show _+(Zb " ").length<=1000 by rw[show (Zb " ").length=1 from by decide +kernel]; omega)),?_⟩;refine⟨_,rfl,1,rfl,ofL r,rfl,BIG (by omega),?_⟩;refine⟨_,rfl,_,rfl,_,_,rfl,rfl,(by rw[rl]; exact BIG (by omega)),?_⟩;refine⟨(by show 9<=sizeLine; decide),fun l9 hl9=>?_⟩;rw[show ofL r++Zb " "=ofL (r++[32]) from xif r [32],xif,show Qf (ofL r) (some 1) none=ofL (r.drop 1) from xm7 (n:=1) (by omega)];have s9:Same H2 (upd H2 l9 (.lst [.non,.int 5,.ref l1,.ref t1,.bl true,.str (ofL (r++[32])),.str (ofL (r.drop 1)),.str (Zb ""),.str (ofL (r++r))])):=xo (Same.refl _) hl9;have g9:upd H2 l9 (.lst [.non,.int 5,.ref l1,.ref t1,.bl true,.str (ofL (r++[32])),.str (ofL (r.drop 1)),.str (Zb ""),.str (ofL (r++r))]) l9=some (.lst [.non,.int 5,.ref l1,.ref t1,.bl true,.str (ofL (r++[32])),.str (ofL (r.drop 1)),.str (Zb ""),.str (ofL (r++r))]):=xf;revert s9 g9;generalize upd H2 l9 (.lst [.non,.int 5,.ref l1,.ref t1,.bl true,.str (ofL (r++[32])),.str (ofL (r.drop 1)),.str (Zb ""),.str (ofL (r++r))])=H9;intro s9 g9;have s29:=s2.trans s9;have asc2:∀{a b:List Nat},(∀ c∈a,c<128)->(∀ c∈b,c<128)->∀ c∈a++b,c<128:=fun h1 h2 c hc=>(Z9.mp hc).elim (h1 c) (h2 c);obtain⟨v,hv,bv⟩:=xk2 (P:=BadR H9 r.length) (n:=9) (L:=[.non,.int 5,.ref l1,.ref t1,.bl true,.str (ofL (r++[32])),.str (ofL (r.drop 1)),.str (Zb ""),.str (ofL (r++r))]) c rfl (by decide) (fun v hv=>by
   simp only[Z1,Jg,or_false] at hv;rcases hv with rfl|rfl|rfl|rfl|rfl|rfl|rfl|rfl|rfl
   .exact .odd .non
   .exact .odd (.int 5 (by decide))
   .exact .odd (.lst (s29 _ _ g1) (by omega) (by rw[xac]; exact ra))
   .exact .odd (.tup (s9 _ _ g2) (by omega) (by rw[xac]; exact ra))
   .exact .odd (.bl true)
   .exact .txt (by rw[Zo]; show _+1<=600; omega) (asc2 ra (fun c hc=>by rw[Z0.mp hc]; decide)) (by rw[Zo]; show _+1≠_; omega)
   .exact .txt (by rw[JP]; omega) (fun c hc=>ra c (List.mem_of_mem_drop hc)) (by rw[JP]; omega)
   .exact .txt (r:=[]) (by decide) (fun c hc=>(nomatch hc)) (by show 0≠_; omega)
   .exact .txt (by rw[Zo]; omega) (asc2 ra ra) (by rw[Zo]; omega))
  exact⟨_,rfl,_,rfl,_,_,rfl,rfl,(by show (0:Int)<9; decide),l9,_,_,v,rfl,rfl,SqL.of g9,hv,q _ v (s1.trans s29) bv⟩
theorem ok_ao (T:Txt w K mg t):FnOk true P w K mg base (CXo P w) 10 t.f_ao t.d_ao ["_law_thing", "_law_row"] (xmz t):=by
 refine T.F_ao.okn (k:=9) sc_ao (fun vs H Q E h=>?_) (fun cdv A outer s H vs Q E hr h=>?_)
 .obtain ⟨x,r,rfl,_⟩:=h;rfl
 .obtain ⟨x,r,rfl,h⟩:=h;refine⟨_,xj (xx (i:=2) sc_ao.nd rfl (Zp rfl) (xez))
   (xj (xx (i:=3) sc_ao.nd rfl (Zp rfl) (xez))
   (xj (xts (E:=(fun σ' e C' H'=>σ'=[some x,some (.int (r:Int)),some .non,some .non,none]/\C'=t.C_a/\xch t H H' e (.badDrawing (.int (r:Int)) (.int 0)))) rfl T.g_ba T.mk_ba sc_ao.nd (j:=4) rfl rfl rfl rfl (fun _ _ tk=>xn (xay (xt (xq0 T) (hmm hr) rfl T.g_seen T.F_seen.kp T.b_seen .nil tk.pass (xb (pv 0) (xg))))) (fun _=>xj (xx (i:=2) sc_ao.nd rfl (Zp rfl) (xa8 (xb (xw (r:=xib K) xba rfl T.n_isinstance boot_isinstance (xb (pv 4) (xb (xca (v:=.ty "ValueError") rfl T.n_bp PyProof.Rows.Boot.«ValueError» rfl) (xg)))) (xb (xw (r:=xib K) xba rfl T.n_isinstance boot_isinstance (xb (pv 4) (xb (xbn (v:=.ref _) rfl T.g_a rfl) (xg)))) (xb (xw (r:=xib K) xba rfl T.n_isinstance boot_isinstance (xb (pv 4) (xb (x4 (xb (xbn (v:=.ref _) rfl T.g_bg rfl) (xb (xbn (v:=.ref _) rfl T.g_bj rfl) (xb (xbn (v:=.ref _) rfl T.g_bk rfl) (xb (xbn (v:=.ref _) rfl T.g_bi rfl) (xg)))))) (xg)))) (xg))))))
   (xn (xag (xa9 (xw (r:=xib K) xba rfl T.n_isinstance boot_isinstance (xb (pv 4) (xb (xbn (v:=.ref _) rfl T.g_a rfl) (xg))))) (xn (xx (i:=3) sc_ao.nd rfl (Zp rfl) (x4 (xb ((xms (pv 4) rfl:PE _ _ (tXF K _ _))) (xb ((xms (pv 4) rfl:PE _ _ (tXF K _ _))) (xg)))))) (x5)))))
   (xn (x0 (xcr (xce (xfz (xb1 hr)) (pv 2) (xa8 (xb (xdz) (xb (xdz) (xb (xdz) (xg))))) (x8 _)) (xc4 (xce (xfz (xb1 hr)) (pv 3) (x4 (xb (pv 1) (xb (xk) (xg)))) (x8 _)))))))),?_⟩
  obtain⟨ts,q⟩:=h;refine⟨?_,?_⟩
  .exact ⟨_,rfl,x,r,rfl,ts,fun er her e H' ra=>⟨rfl,rfl,by rw[her] at ra; exact ra⟩⟩
  .rintro σ' e C' H' ⟨rfl,rfl,s',ea⟩;rcases ea with⟨z,_⟩|⟨_,dx,he,hdx⟩
   .cases z
   refine⟨T.mk_a,T.mro_a,?_⟩;refine⟨_,rfl,_,_,rfl,.inr (.inl ⟨e,_,_,_,true,rfl,he,(fun d z=>by cases z; exact⟨_,hdx⟩),T.x_a,rfl,T.kitv_a,?_⟩)⟩;refine⟨_,rfl,_,_,rfl,.inr (.inl ⟨e,_,_,_,true,rfl,he,(fun d z=>by cases z; exact⟨_,hdx⟩),T.x_a,rfl,xbf,?_⟩)⟩;refine⟨_,rfl,(by show 4<=sizeLine; decide),fun tq htq=>?_⟩;have s1:Same H' (upd H' tq (.tup [.ref t.C_bg,.ref t.C_bj,.ref t.C_bk,.ref t.C_bi])):=xo (Same.refl _) htq;have g1:upd H' tq (.tup [.ref t.C_bg,.ref t.C_bj,.ref t.C_bk,.ref t.C_bi]) tq=some (.tup [.ref t.C_bg,.ref t.C_bj,.ref t.C_bk,.ref t.C_bi]):=xf;revert s1 g1;generalize upd H' tq (.tup [.ref t.C_bg,.ref t.C_bj,.ref t.C_bk,.ref t.C_bi])=H1;intro s1 g1;refine⟨_,_,rfl,.inr (.inr ⟨e,_,_,tq,_,_,false,rfl,s1 _ _ he,(fun d z=>by cases z; exact⟨_,s1 _ _ hdx⟩),T.x_a,rfl,SqT.of g1,rfl,T.kany_a,?_⟩)⟩;refine⟨(by show 3<=sizeLine; decide),fun lk hlk=>?_⟩;have s2:Same H1 (upd H1 lk (.lst [.bl true,.bl true,.bl false])):=xo (Same.refl _) hlk;have g2:upd H1 lk (.lst [.bl true,.bl true,.bl false]) lk=some (.lst [.bl true,.bl true,.bl false]):=xf;revert s2 g2;generalize upd H1 lk (.lst [.bl true,.bl true,.bl false])=H2;intro s2 g2;have he2:=s2 _ _ (s1 _ _ he);have hdx2:=s2 _ _ (s1 _ _ hdx);refine⟨_,rfl,_,_,rfl,.inr (.inl ⟨e,_,_,_,true,rfl,he2,(fun d z=>by cases z; exact⟨_,hdx2⟩),T.x_a,rfl,xbf,true,rfl,iteT ?_⟩)⟩;refine⟨_,rfl,e,_,dx,_,.int (r:Int),rfl,he2,hdx2,T.x_a,T.n_bm,lk_1,_,rfl,e,_,dx,_,.int 0,rfl,he2,hdx2,T.x_a,T.n_bh,lk_2 (by decide +kernel),(by show 2<=sizeLine; decide),fun u hu=>?_⟩;have s3:Same H2 (upd H2 u (.tup [.int (r:Int),.int 0])):=xo (Same.refl _) hu;have g3:upd H2 u (.tup [.int (r:Int),.int 0]) u=some (.tup [.int (r:Int),.int 0]):=xf;revert s3 g3;generalize upd H2 u (.tup [.int (r:Int),.int 0])=H3;intro s3 g3;refine⟨_,rfl,(by show 3<=sizeLine; decide),fun l4 hl4=>?_⟩;have s4:Same H3 (upd H3 l4 (.lst [.bl true,.bl true,.bl false])):=xo (Same.refl _) hl4;have g4:upd H3 l4 (.lst [.bl true,.bl true,.bl false]) l4=some (.lst [.bl true,.bl true,.bl false]):=xf;revert s4 g4;generalize upd H3 l4 (.lst [.bl true,.bl true,.bl false])=H4;intro s4 g4;refine⟨1,1,_,_,xpm (s4 _ _ (s3 _ _ g2)),xpm g4,by decide,by decide,true,by rw[xcz],ifP rfl ?_⟩;refine⟨_,rfl,_,rfl,(by show 2<=sizeLine; decide),fun u5 hu5=>?_⟩;have s5:Same H4 (upd H4 u5 (.tup [.int (r:Int),.int 0])):=xo (Same.refl _) hu5;have g5:upd H4 u5 (.tup [.int (r:Int),.int 0]) u5=some (.tup [.int (r:Int),.int 0]):=xf;revert s5 g5;generalize upd H4 u5 (.tup [.int (r:Int),.int 0])=H5;intro s5 g5;refine⟨1,1,_,_,xn3 (s5 _ _ (s4 _ _ g3)),xn3 g5,by decide,by decide,?_⟩;rw[xcz];exact q _ ((((s'.trans s1).trans s2).trans s3).trans (s4.trans s5))
theorem xjp:∀ G:List (List Nat),YJ (Zb "") (G.map ofL)=ofL G.flatten
 | []=>rfl
 | [r]=>by
  show ofL r=ofL (r++[]);rw[Jy]
 | r::r2::G=>by
  apply xdd;have ih:=xjp (r2::G);show (ofL r++Zb ""++YJ (Zb "") ((r2::G).map ofL)).cps.toList=_;rw[ih,xcv,xcv,xac,xac,xac];show r++[]++(r2::G).flatten=r++(r2::G).flatten;rw[Jy]
theorem xui (G:List (List Nat)):GV G=(G.map ofL).map V.str:=by
 unfold GV;rw[Zv];rfl
theorem xsm {W:Nat}{G:List (List Nat)} (o:Txs W G):G.flatten.length<=512:=by
 have h2:=o.h2;have w2:=o.w2;have e:∀ L:List (List Nat),(∀ r∈L,r.length=W)->L.flatten.length=L.length*W:=fun L=>by
  induction L with
  | nil=>intro _; simp
  | cons r L ih =>
   intro hL;rw[Yt,Zo,ih fun x hx=>hL x (Zt _ hx),hL r Zr,ZF,Nat.add_mul,Nat.one_mul,Nat.add_comm]
 rw[e G o.wd];have b:G.length*W<=16*32:=Ql h2 w2;omega
theorem xgt:∀(l:List (Array Nat)) (acc:Array Nat),(l.foldl (·++·) acc).toList=acc.toList++(l.map (·.toList)).flatten
 | [],acc=>by simp
 | a::l,acc=>by
  rw[List.foldl_cons,xgt l (acc++a),Array.toList_append,Zx,Yt,Qu]
theorem xvz (a:Nat):Txt.mul (ofL [a]) 40=ofL (ZC 40 a):=by
 apply xdd;unfold Txt.mul;rw[if_neg (by decide),if_neg (by rw[xas]; simp)];show ((ZC 40 (ofL [a]).cps).foldl (·++·) #[]).toList=_;rw[xgt,List.map_replicate,xac,xac];rfl
theorem xgi {W:Nat}{G:List (List Nat)} (o:Txs W G) {H:Hp}:∀ v∈GV G,∃ d,Itm H v d:=fun v hv=>by
 obtain⟨r,hr,rfl⟩:=Ze.mp hv;have:=o.w2;exact⟨_,.txt _ (by rw[xas,o.wd r hr]; omega) (by rw[xac]; exact o.asc r hr)⟩
theorem xtw {xs:List V} (k:Nat):cutV xs none (some (k:Int))=xs.take k:=by
 unfold cutV;rw[HT.sIx_none,HT.sIx_nat,List.drop_zero,Nat.sub_zero];rcases Nat.le_total k xs.length with h|h
 .rw [Nat.min_eq_left h]
 .rw [Nat.min_eq_right h,ZR (Zj _),ZR h]
theorem xva {xs:List V} (k:Nat):cutV xs (some (k:Int)) none=xs.drop k:=by
 unfold cutV;rw[HT.sIx_none,HT.sIx_nat];rcases Nat.le_total k xs.length with h|h
 .rw [Nat.min_eq_left h,ZR (by rw[JP]; omega)]
 .rw [Nat.min_eq_right h,List.drop_of_length_le (Zj _),List.drop_of_length_le h];simp
theorem Odd.keep {H H':Hp}{l1:Addr}{xs:List V} (e:H l1=some (.lst xs)) (hx:2<=xs.length) (k:∀ c u,c≠l1->H c=some u->H' c=some u) {v:V}{d:DV} (o:Odd H v d):Odd H' v d:=by
 cases o with
 | non=>exact .non
 | int i h=>exact .int i h
 | bl b=>exact .bl b
 | lst h l c =>
  refine .lst (k _ _ (fun z=>?_) h) l c;subst z;rw[e] at h;cases h;simp at hx
 | tup h l c=>exact .tup (k _ _ (xae h e (fun z=>nomatch z)) h) l c
theorem Itm.keep {H H':Hp}{l1:Addr}{xs:List V} (e:H l1=some (.lst xs)) (hx:2<=xs.length) (k:∀ c u,c≠l1->H c=some u->H' c=some u) {v:V}{d:DV} (o:Itm H v d):Itm H' v d:=by
 cases o with
 | txt s l c=>exact .txt s l c
 | odd o=>exact .odd (o.keep e hx k)
theorem BadR.keep {H H':Hp}{l1:Addr}{xs:List V} (e:H l1=some (.lst xs)) (hx:2<=xs.length) (k:∀ c u,c≠l1->H c=some u->H' c=some u) {W:Nat}{v:V} (b:BadR H W v):BadR H' W v:=⟨let ⟨d,o⟩:=b.1; ⟨d,o.keep e hx k⟩,b.2.imp (fun⟨d,o⟩=>⟨d,o.keep e hx k⟩) id⟩
inductive xpq (vs:List V) (H:Hp) (Q:VK) (_:XK):Prop
 | mk (l:Addr) (c:Int) (W:Nat) (G:List (List Nat)) (e_:vs=[.ref l,.int c]) (r_:H l=some (.lst (GV G))/\Txs W G/\W<=32/\∀ H' p x (r:Nat),Same H H'->H' p=some (.tup [x,.int (r:Int)])->TS H' x r->Q (.ref p) H')
theorem ok_ar (T:Txt w K mg t):FnOk true P w K mg base (CXo P w) 2 t.f_ar t.d_ar ["_law_rows", "_law_cell"] (xpq):=by
 refine T.F_ar.okn (k:=1) sc_ar (fun vs H Q E h=>?_) (fun cdv A outer s H vs Q E hr h=>?_)
 .obtain ⟨l,c,W,G,rfl,_⟩:=h;rfl
 .obtain ⟨l,c,W,G,rfl,h⟩:=h;refine⟨_,xj (xx (i:=2) sc_ar.nd rfl (Zp rfl) (xu xar (xt (ok_e T) (hmm hr) rfl T.g_e T.F_e.kp T.b_e .nil xm (xb (pv 1) (xb (xk) (xg)))) (xk)))
   (xj (xx (i:=3) sc_ar.nd rfl (Jf rfl) (xt (ok_e T) (hmm hr) rfl T.g_e T.F_e.kp T.b_e .nil xm (xb (pv 1) (xb (xk) (xg)))))
   (xj ((by (with_reducible refine' xbx ?m137); (case m137=>((with_reducible refine' xag ?c108 ?a109 ?b110); (case c108=>exact x9 xbr (pv 2) (xk) (x8 _)); (case a109=>((with_reducible refine' xn ?c111); (case c111=>((with_reducible refine' x0 ?e112); (case e112=>((with_reducible refine' x4 ?p113); (case p113=>((with_reducible refine' xb ?e114 ?q115 rfl); (case e114=>((with_reducible refine' xax (r:=rIxL K) ?r116 ?l117 ?j118 ?p119); (case r116=>exact xbu); (case p119=>exact fun _ _=>rfl); (case j118=>exact xu xar (pv 3) (xk)); (case l117=>((with_reducible refine' xa8 ?p120); (case p120=>((with_reducible refine' xb ?e121 ?q122 rfl); (case e121=>((exact xez))); (case q122=>((with_reducible refine' xb ?e123 ?q124 rfl); (case e123=>((exact xk))); (case q124=>((with_reducible refine' xb ?e125 ?q126 rfl); (case e125=>((exact xcl QC QQ QP xih (x6) (xb (pv 0) (xg))))); (case q126=>((with_reducible refine' xb ?e127 ?q128 rfl); (case e127=>((exact xb5 xjy rfl T.n_tuple boot_tuple (xb (pv 0) (xg))))); (case q128=>((with_reducible refine' xb ?e129 ?q130 rfl); (case e129=>((exact xfd))); (case q130=>((with_reducible refine' xb ?e131 ?q132 rfl); (case e131=>((exact xdz))); (case q132=>((with_reducible refine' xb ?e133 ?q134 rfl); (case e133=>((exact xa8 (xg)))); (case q134=>((exact xg))))))))))))))))))))); (case q115=>((with_reducible refine' xb ?e135 ?q136 rfl); (case e135=>((exact xk))); (case q136=>((exact xg))))))))))))); (case b110=>((exact x5)))))))
   (xj (xbx (xag (x9 xbr (pv 2) (xk) (x8 _)) (xn (x0 (x4 (xb (xct xf8 (xu xtj (pv 0) (xk)) xd4 (xci (xu xai (xk) (xu xar (pv 3) (xk))))) (xb (xk) (xg)))))) (x5)))
   (xj (xbx (xag (x9 xbr (pv 2) (xk) (x8 _)) (xj (xx (i:=4) sc_ar.nd rfl (Jf rfl) (xu xar (xu xgd (pv 3) (xk)) (xk)))
   (xn (x0 (x4 (xb (xb0 rfl (xa4 (zs:=["_law_row"]) (ys:=["_law_short", "_law_number"]) (fr:=[4,3]) (N0:=["_law_rows", "_law_cell", "_law_way", "_law_number", "_law_short", "_law_first", "_law_second", "_law_made"]) (sc0:=xp s_ar) (by decide +kernel) rfl rfl rfl) (xat (pv 0)) (fun _ _ _ _ _ ow nd=>xq (i:=0) nd rfl (Zp (ow _ (by simp))) (Jf (ow _ (by simp)))) (xbg (by decide)) (fun _ _ _ _ _=>xbk) (fun _ _ _ _ _=>xct xk3 (xu xfj (pv 0) (xu xsu (xct xk3 (pv 0) xd4 (xci (xk))) (xk))) xd4 (xci (xax (r:=rIxL K) xbu (xa8 (xb (pv 1) (xb (xu xai (xk) (pv 1)) (xg)))) (xu xar (pv 2) (xk)) (fun _ _=>rfl))))) (xb (xk) (xg))))))) (x5)))
   (xj (xx (i:=5) sc_ar.nd rfl (Zp rfl) (xu xar (pv 3) (xw xbd rfl T.n_len J0 (xb (pv 0) (xg)))))
   (xj (xx (i:=6) sc_ar.nd rfl (Zp rfl) (xu xar (xt (ok_e T) (hmm hr) rfl T.g_e T.F_e.kp T.b_e .nil xm (xb (pv 1) (xb (xk) (xg)))) (xw xbd rfl T.n_len J0 (xb (pv 0) (xg)))))
   (xj ((by (with_reducible refine' xbx ?m107); (case m107=>((with_reducible refine' xag ?c76 ?a77 ?b78); (case c76=>exact PW.pt (xcj (x9 xbr (pv 5) (xk) (x8 _)) (xcd (x9 xbr (pv 6) (xk) (x8 _))))); (case a77=>((with_reducible refine' xn ?c79); (case c79=>((with_reducible refine' x0 ?e80); (case e80=>((with_reducible refine' x4 ?p81); (case p81=>((with_reducible refine' xb ?e82 ?q83 rfl); (case e82=>((with_reducible refine' xu ?o84 ?l85 ?r86); (case o84=>exact xf3); (case l85=>((with_reducible refine' xa8 ?p87); (case p87=>((with_reducible refine' xb ?e88 ?q89 rfl); (case e88=>((with_reducible refine' xax (r:=rIxL K) ?r90 ?l91 ?j92 ?p93); (case r90=>exact xbu); (case p93=>exact fun _ _=>rfl); (case j92=>exact xu xar (xu xgd (pv 3) (xk)) (xk)); (case l91=>((with_reducible refine' xa8 ?p94); (case p94=>((with_reducible refine' xb ?e95 ?q96 rfl); (case e95=>((exact xez))); (case q96=>((with_reducible refine' xb ?e97 ?q98 rfl); (case e97=>((exact xk))); (case q98=>((with_reducible refine' xb ?e99 ?q100 rfl); (case e99=>((exact xa8 (xb (x6) (xg))))); (case q100=>((with_reducible refine' xb ?e101 ?q102 rfl); (case e101=>((exact x4 (xb (x6) (xg))))); (case q102=>((with_reducible refine' xb ?e103 ?q104 rfl); (case e103=>((exact xdz))); (case q104=>((exact xg))))))))))))))))); (case q89=>((exact xg))))))); (case r86=>((exact xct xf8 (pv 0) (xci (xk)) xd4))))); (case q83=>((with_reducible refine' xb ?e105 ?q106 rfl); (case e105=>((exact xk))); (case q106=>((exact xg))))))))))))); (case b78=>((exact x5)))))))
   (xj (xx (i:=7) sc_ar.nd rfl (Zp rfl) (xb5 xfq rfl T.n_list boot_list (xb (pv 0) (xg))))
   (xj (xcx (xt (ok_ad T) (hmm hr) rfl T.g_ad T.F_ad.kp T.b_ad .nil xm (xb (xax xbu (pv 0) (pv 5) (fun _ _=>rfl)) (xb (xu xgd (pv 3) (xk)) (xg)))) (xpp (pv 7) (pv 5) xkb))
   (xj (xcx (xt (ok_ad T) (hmm hr) rfl T.g_ad T.F_ad.kp T.b_ad .nil xm (xb (xax xbu (pv 0) (pv 6) (fun _ _=>rfl)) (xb (xu xgd (pv 3) (xk)) (xg)))) (xpp (pv 7) (pv 6) xkb))
   (xn (x0 (x4 (xb (pv 7) (xb (xw (xek rfl) rfl T.n_min boot_min (xb (pv 5) (xb (pv 6) (xg)))) (xg)))))))))))))))),?_⟩
  obtain⟨hl,o,W32,q⟩:=h;have h1:=o.h1;have h2:=o.h2;have w1:=o.w1;have gl:=xf4 G;have BIG:∀{n:Nat},n<=1000->n<=sizeLine:=fun h=>Zy h (by decide);refine⟨_,rfl,c,_,rfl,fun m0 _ _=>⟨_,_,rfl,rfl,(by show (0:Int)<5; decide),?_⟩⟩;refine⟨_,rfl,c,_,rfl,fun m m1 m2=>?_⟩;refine⟨fun Z H1=>H=H1/\Z=[some (.ref l),some (.int c),some (.int (m0 % 5)),some (.int m),none,none,none,none],?_,?_⟩
  .refine ⟨_,rfl,rfl,_,rfl,ite2 (fun y=>?_) (fun y=>⟨rfl,rfl⟩)⟩;refine⟨rfl,_,rfl,Zb "",l,G.map ofL,32,rfl,rfl,by rw[hl,xui],fun s hs=>?_,?_,?_⟩
   .obtain ⟨r,hr,rfl⟩:=Ze.mp hs;rw[xas,o.wd r hr];exact W32
   .rw [Za,show (Zb "").length=0 from by decide +kernel];exact BIG (by omega)
   rw[xjp];refine⟨_,rfl,l,_,rfl,.inl ⟨SqL.of hl,fun t1 ht1=>?_⟩⟩;have s1:Same H (upd H t1 (.tup (GV G))):=xo (Same.refl _) ht1;have g1:upd H t1 (.tup (GV G)) t1=some (.tup (GV G)):=xf;revert s1 g1;generalize upd H t1 (.tup (GV G))=H1;intro s1 g1;refine fun d hd=>?_;have s2:Same H1 (upd H1 d (.dK [])):=xo (Same.refl _) hd;have g2:upd H1 d (.dK []) d=some (.dK []):=xf;revert s2 g2;generalize upd H1 d (.dK [])=H2;intro s2 g2;refine⟨(by show 0<=sizeLine; decide),fun l0 hl0=>?_⟩;have s3:Same H2 (upd H2 l0 (.lst [])):=xo (Same.refl _) hl0;have g3:upd H2 l0 (.lst []) l0=some (.lst []):=xf;revert s3 g3;generalize upd H2 l0 (.lst [])=H3;intro s3 g3;refine⟨(by show 7<=sizeLine; decide),fun l7 hl7=>?_⟩;have s7:Same H3 (upd H3 l7 (.lst [.non,.int 7,.str (ofL G.flatten),.ref t1,.ref d,.bl true,.ref l0])):=xo (Same.refl _) hl7;have g7:upd H3 l7 (.lst [.non,.int 7,.str (ofL G.flatten),.ref t1,.ref d,.bl true,.ref l0]) l7=some (.lst [.non,.int 7,.str (ofL G.flatten),.ref t1,.ref d,.bl true,.ref l0]):=xf;revert s7 g7;generalize upd H3 l7 (.lst [.non,.int 7,.str (ofL G.flatten),.ref t1,.ref d,.bl true,.ref l0])=H7;intro s7 g7;have s17:=(s2.trans s3).trans s7;obtain⟨v,hv,tv⟩:=xk2 (P:=fun v=>TS H7 v 0) (n:=7) (L:=[.non,.int 7,.str (ofL G.flatten),.ref t1,.ref d,.bl true,.ref l0]) m rfl (by decide) (fun v hv=>by
    simp only[Z1,Jg,or_false] at hv;rcases hv with rfl|rfl|rfl|rfl|rfl|rfl|rfl
    .exact .non
    .exact .int 7 (by decide)
    .exact .txt _ (by rw[xas]; have:=xsm o; omega) (fun c hc=>by
      rw[xac] at hc;obtain⟨r,hr,hc⟩:=List.mem_flatten.mp hc;exact o.asc r hr c hc)
    .exact .tpl (s17 _ _ g1) (xgi o) (by omega)
    .exact .dct ((s3.trans s7) _ _ g2)
    .exact .bl true
    .exact .few (s7 _ _ g3) (fun v hv=>(nomatch hv)) (.inl rfl) (by decide))
   refine⟨_,rfl,_,_,rfl,rfl,(by show (0:Int)<7; decide),l7,_,_,v,rfl,rfl,SqL.of g7,hv,(by show 2<=sizeLine; decide),fun p hp=>?_⟩;have s8:Same H7 (upd H7 p (.tup [v,.int 0])):=xo (Same.refl _) hp;have g8:upd H7 p (.tup [v,.int 0]) p=some (.tup [v,.int 0]):=xf;revert s8 g8;generalize upd H7 p (.tup [v,.int 0])=H8;intro s8 g8;exact q H8 p v 0 ((s1.trans s17).trans s8) g8 (tv.same s8)
  rintro Z _ ⟨rfl,rfl⟩;refine⟨fun Z H1=>H=H1/\Z=[some (.ref l),some (.int c),some (.int (m0 % 5)),some (.int m),none,none,none,none],?_,?_⟩
  .refine ⟨_,rfl,rfl,_,rfl,ite2 (fun y=>?_) (fun y=>⟨rfl,rfl⟩)⟩;refine⟨_,rfl,l,17,_,rfl,rfl,hl,by decide,by decide,(by rw[gl]; exact BIG (show G.length*17<=1000 by omega)),fun p1 hp1=>?_⟩;obtain⟨k,ek,kl⟩:=xd5 m (n:=40) (by decide);have ek:m % 40=(k:Int):=ek;have s1:Same H (upd H p1 (.lst (ZC (17:Int).toNat (GV G)).flatten)):=xo (Same.refl _) hp1;have g1:upd H p1 (.lst (ZC (17:Int).toNat (GV G)).flatten) p1=some (.lst (ZC (17:Int).toNat (GV G)).flatten):=xf;revert s1 g1;generalize upd H p1 (.lst (ZC (17:Int).toNat (GV G)).flatten)=H1;intro s1 g1;refine⟨_,rfl,_,_,rfl,rfl,(by show (0:Int)<40; decide),_,_,rfl,rfl,_,rfl,p1,_,rfl,SqL.of g1,fun l2 hl2=>?_⟩;have ec:cutV (ZC (17:Int).toNat (GV G)).flatten none (some (17+m % 40))=(ZC 17 (GV G)).flatten.take (17+k):=by
    rw[ek,show (17:Int)+(k:Int)=((17+k:Nat):Int) by omega,xtw];rfl
   rw[ec];have s2:Same H1 (upd H1 l2 (.lst ((ZC 17 (GV G)).flatten.take (17+k)))):=xo (Same.refl _) hl2;have g2:upd H1 l2 (.lst ((ZC 17 (GV G)).flatten.take (17+k))) l2=some (.lst ((ZC 17 (GV G)).flatten.take (17+k))):=xf;revert s2 g2;generalize upd H1 l2 (.lst ((ZC 17 (GV G)).flatten.take (17+k)))=H2;intro s2 g2;refine⟨(by show 2<=sizeLine; decide),fun p hp=>?_⟩;have s3:Same H2 (upd H2 p (.tup [.ref l2,.int 0])):=xo (Same.refl _) hp;have g3:upd H2 p (.tup [.ref l2,.int 0]) p=some (.tup [.ref l2,.int 0]):=xf;revert s3 g3;generalize upd H2 p (.tup [.ref l2,.int 0])=H3;intro s3 g3;have fl:(ZC 17 (GV G)).flatten.length=17*G.length:=by rw[xl9,gl]
   refine q H3 p (.ref l2) 0 ((s1.trans s2).trans s3) g3 (.few (s3 _ _ g2) (fun v hv=>?_) (.inr ?_) ?_)
   .obtain ⟨x,hx,hv⟩:=List.mem_flatten.mp (List.mem_of_mem_take hv);rw[List.eq_of_mem_replicate hx] at hv;exact xgi o v hv
   .rw [Jh,fl];omega
   .rw [Jh];omega
  rintro Z _ ⟨rfl,rfl⟩;refine⟨fun Z H1=>H=H1/\Z=[some (.ref l),some (.int c),some (.int (m0 % 5)),some (.int m),none,none,none,none],?_,?_⟩
  .refine ⟨_,rfl,rfl,_,rfl,ite2 (fun y=>?_) (fun y=>⟨rfl,rfl⟩)⟩;refine⟨_,rfl,_,_,rfl,rfl,⟨by decide,by decide⟩,_,_,rfl,rfl,(by show (0:Int)<3; decide),?_⟩;obtain⟨sh,esh,shl⟩:=xd5 (m / 7) (n:=3) (by decide);have esh:m / 7 % 3=(sh:Int):=esh;obtain⟨kk,hkk,kb⟩:∃ kk:Nat,atI [V.int (m / 7 % 3),V.int (33+m / 7 % 3)] (m % 2)=some (.int (kk:Int))/\(kk<3\/(33<=kk/\kk<=35)):=by
    obtain⟨j,ej,jl⟩:=xd5 m (n:=2) (by decide);have ej:m % 2=(j:Int):=ej;rw[ej,esh];have:j=0\/j=1:=by omega
    rcases this with rfl|rfl
    .exact ⟨sh,rfl,.inl shl⟩
    .exact ⟨33+sh,by rw[show ((33+sh:Nat):Int)=33+(sh:Int) by omega]; rfl,.inr (by omega)⟩
   refine⟨_,rfl,l,rfl,⟨_,SqL.of hl⟩,fun l1 hl1=>?_⟩;refine xeq (SqL.of hl) (by rw[gl]; exact Z6 (by omega:_<=1000) (by decide)) hl1 (fun i y _=>∃ z:List Nat,y=.str (ofL z)/\z.length=kk/\∀ c∈z,c<128) (fun _ _ _ _ _ z=>z) (fun i x H2 hx s2 N hN=>?_) (fun ys H2 s2 e2 ly fy=>?_)
   .have ig:i<G.length:=by
     have:=(Zi.mp hx).1;omega
    obtain⟨r,hr'⟩:∃ r,G[i]?=some r:=⟨_,Zf ig⟩
    rw[xej hr'] at hx;cases hx;have rl:=o.wd r (Zn hr');have ra:=o.asc r (Zn hr');obtain⟨a,rt,rfl⟩:∃ a rt,r=a::rt:=by
     cases r with
     | nil=>simp at rl; omega
     | cons a rt=>exact⟨a,rt,rfl⟩
    refine⟨_,rfl,_,rfl,1,rfl,ofL (a::rt),rfl,(by rw[xas]; exact BIG (by omega)),?_⟩;rw[show Qf (ofL (a::rt)) none (some 1)=ofL [a] from xhq (n:=1) (by simp)];refine⟨_,_,rfl,rfl,(by decide),(by decide),(by rw[xas]; show 1<=1000; decide),?_⟩;rw[xvz];refine⟨_,_,rfl,rfl,(by rw[xas,xas,JR]; exact BIG (by omega)),?_⟩;rw[xif];refine⟨_,rfl,_,rfl,_,_,rfl,rfl,(by show 2<=sizeLine; decide),fun q2 hq2=>?_⟩;have s3:Same H2 (upd H2 q2 (.lst [.int (m / 7 % 3),.int (33+m / 7 % 3)])):=xo (Same.refl _) hq2;refine⟨_,rfl,_,_,rfl,rfl,(by show (0:Int)<2; decide),q2,_,_,.int (kk:Int),rfl,rfl,SqL.of xf,hkk,_,rfl,_,rfl,(by rw[xas,Zo,JR]; exact BIG (by omega)),?_⟩;have kl:kk<=((a::rt)++ZC 40 a).length:=by
     rw[Zo,JR];omega
    rw[xhq kl];refine hN _ _ s3 ⟨_,rfl,by rw[Jh]; omega,fun c hc=>?_⟩;rcases Z9.mp (List.mem_of_mem_take hc) with z|z
    .exact ra c z
    .rw [List.eq_of_mem_replicate z];exact ra a (Zr ..)
   rw[gl] at ly;refine⟨(by show 2<=sizeLine; decide),fun p hp=>?_⟩;have s3:Same H2 (upd H2 p (.tup [.ref l1,.int 0])):=xo (Same.refl _) hp;have g3:upd H2 p (.tup [.ref l1,.int 0]) p=some (.tup [.ref l1,.int 0]):=xf;revert s3 g3;generalize upd H2 p (.tup [.ref l1,.int 0])=H3;intro s3 g3;obtain⟨y0,hy0⟩:∃ y,ys[0]?=some y:=⟨_,Zf (by omega)⟩
   obtain⟨z0,ez,zl,za⟩:=fy 0 y0 hy0;refine q H3 p (.ref l1) 0 (s2.trans s3) g3 (.row (W:=0) (s3 _ _ e2) (fun v hv=>?_) (by omega) hy0 (fun j hj=>absurd hj (Nat.not_lt_zero _)) (fun z=>absurd z (JY _)) (.inr ⟨ofL z0,ez,by rw[xas]; omega,?_⟩))
   .obtain ⟨j,hj⟩:=Yp.mp hv;obtain⟨z,e,zl,za⟩:=fy j v hj;rw[e];exact⟨_,.txt _ (by rw[xas]; omega) (by rw[xac]; exact za)⟩
   .rw [xas,zl];omega
  rintro Z _ ⟨rfl,rfl⟩;obtain⟨f,ef,fl⟩:=xd5 m (n:=G.length) h1;refine⟨_,rfl,_,rfl,l,_,rfl,.inl (SqL.of hl),_,_,rfl,rfl,(by show (0:Int)<((GV G).length:Int); rw[gl]; omega),?_⟩;refine⟨_,rfl,c,_,rfl,fun m3 _ _=>⟨_,rfl,l,_,rfl,.inl (SqL.of hl),_,_,rfl,rfl,(by show (0:Int)<((GV G).length:Int); rw[gl]; omega),?_⟩⟩;obtain⟨g,eg,gll⟩:=xd5 m3 (n:=G.length) h1;have ef:m % ((GV G).length:Int)=(f:Int):=by rw[gl]; exact ef
  have eg:m3 % ((GV G).length:Int)=(g:Int):=by rw[gl]; exact eg
  refine⟨fun Z H1=>H=H1/\(f≠0/\g≠0)/\Z=[some (.ref l),some (.int c),some (.int (m0 % 5)),some (.int m),none,some (.int (m % ((GV G).length:Int))),some (.int (m3 % ((GV G).length:Int))),none],?_,?_⟩
  .refine ⟨_,rfl,rfl,_,rfl,ite2 (fun y=>?_) (fun y=>⟨_,rfl,rfl,_,rfl,ite2 (fun y2=>?_) (fun y2=>⟨rfl,⟨fun z=>y (by show decide (V.int (m % ((GV G).length:Int))=V.int 0)=true; rw[ef,z]; rfl),fun z=>y2 (by show decide (V.int (m3 % ((GV G).length:Int))=V.int 0)=true; rw[eg,z]; rfl)⟩,rfl⟩)⟩)⟩
   all_goals
    refine⟨(by show 1<=sizeLine; decide),fun l1 hl1=>?_⟩;have s1:Same H (upd H l1 (.lst [.str (Zb "a")])):=xo (Same.refl _) hl1;have g1:upd H l1 (.lst [.str (Zb "a")]) l1=some (.lst [.str (Zb "a")]):=xf;revert s1 g1;generalize upd H l1 (.lst [.str (Zb "a")])=H1;intro s1 g1;refine⟨(by show 1<=sizeLine; decide),fun t1 ht1=>?_⟩;have s2:Same H1 (upd H1 t1 (.tup [.str (Zb "ab")])):=xo (Same.refl _) ht1;have g2:upd H1 t1 (.tup [.str (Zb "ab")]) t1=some (.tup [.str (Zb "ab")]):=xf;revert s2 g2;generalize upd H1 t1 (.tup [.str (Zb "ab")])=H2;intro s2 g2;refine⟨(by show 5<=sizeLine; decide),fun l5 hl5=>?_⟩;have s5:Same H2 (upd H2 l5 (.lst [.non,.int 5,.ref l1,.ref t1,.bl false])):=xo (Same.refl _) hl5;have g5:upd H2 l5 (.lst [.non,.int 5,.ref l1,.ref t1,.bl false]) l5=some (.lst [.non,.int 5,.ref l1,.ref t1,.bl false]):=xf;revert s5 g5;generalize upd H2 l5 (.lst [.non,.int 5,.ref l1,.ref t1,.bl false])=H5;intro s5 g5;have s25:=s2.trans s5;obtain⟨v,hv,d,od⟩:=xk2 (P:=fun v=>∃ d,Odd H5 v d) (n:=5) (L:=[.non,.int 5,.ref l1,.ref t1,.bl false]) (m / 16) rfl (by decide) (fun v hv=>by
     simp only[Z1,Jg,or_false] at hv;rcases hv with rfl|rfl|rfl|rfl|rfl
     .exact ⟨_,.non⟩
     .exact ⟨_,.int 5 (by decide)⟩
     .exact ⟨_,.lst (s25 _ _ g1) (by decide +kernel) (by decide +kernel)⟩
     .exact ⟨_,.tup (s5 _ _ g2) (by decide +kernel) (by decide +kernel)⟩
     .exact ⟨_,.bl false⟩)
    refine⟨_,rfl,_,_,rfl,rfl,⟨by decide,by decide⟩,_,_,rfl,rfl,(by show (0:Int)<5; decide),l5,_,_,v,rfl,rfl,SqL.of g5,hv,(by show 1<=sizeLine; decide),fun l6 hl6=>?_⟩;have s6:Same H5 (upd H5 l6 (.lst [v])):=xo (Same.refl _) hl6;have g6:upd H5 l6 (.lst [v]) l6=some (.lst [v]):=xf;revert s6 g6;generalize upd H5 l6 (.lst [v])=H6;intro s6 g6;have s06:=(s1.trans s25).trans s6;refine⟨_,rfl,1,rfl,l,_,rfl,SqL.of (s06 _ _ hl),fun l7 hl7=>?_⟩;rw[show cutV (GV G) (some 1) none=(GV G).drop 1 from xva 1];have s7:Same H6 (upd H6 l7 (.lst ((GV G).drop 1))):=xo (Same.refl _) hl7;have g7:upd H6 l7 (.lst ((GV G).drop 1)) l7=some (.lst ((GV G).drop 1)):=xf;revert s7 g7;generalize upd H6 l7 (.lst ((GV G).drop 1))=H7;intro s7 g7;refine⟨l6,l7,_,_,rfl,rfl,s7 _ _ g6,g7,(by rw[JP]; exact BIG (show 1+_<=1000 by omega)),fun l8 hl8=>?_⟩;have s8:Same H7 (upd H7 l8 (.lst ([v]++(GV G).drop 1))):=xo (Same.refl _) hl8;have g8:upd H7 l8 (.lst ([v]++(GV G).drop 1)) l8=some (.lst ([v]++(GV G).drop 1)):=xf;revert s8 g8;generalize upd H7 l8 (.lst ([v]++(GV G).drop 1))=H8;intro s8 g8;refine⟨(by show 2<=sizeLine; decide),fun p hp=>?_⟩;have s9:Same H8 (upd H8 p (.tup [.ref l8,.int 0])):=xo (Same.refl _) hp;have g9:upd H8 p (.tup [.ref l8,.int 0]) p=some (.tup [.ref l8,.int 0]):=xf;revert s9 g9;generalize upd H8 p (.tup [.ref l8,.int 0])=H9;intro s9 g9;have s59:=(s6.trans s7).trans (s8.trans s9);refine q H9 p (.ref l8) 0 ((s1.trans s25).trans s59) g9 (.row (W:=0) (s9 _ _ g8) (fun z hz=>?_) (by rw[Zo,JP]; show 1+_<=16; omega) rfl (fun j hj=>absurd hj (Nat.not_lt_zero _)) (fun z=>absurd z (JY _)) (.inl ⟨d,od.same s59⟩));rcases Z9.mp hz with z|z
    .rw [Z0.mp z];exact⟨d,.odd (od.same s59)⟩
    .exact xgi o _ (List.mem_of_mem_drop z)
  rintro Z _ ⟨rfl,⟨f0,g0⟩,rfl⟩;refine⟨_,rfl,l,_,rfl,.inl (SqL.of hl),fun l1 hl1=>?_⟩;have s1:Same H (upd H l1 (.lst (GV G))):=xo (Same.refl _) hl1;have g1:upd H l1 (.lst (GV G)) l1=some (.lst (GV G)):=xf;revert s1 g1;generalize upd H l1 (.lst (GV G))=H1;intro s1 g1;obtain⟨rf,hrf⟩:∃ r,G[f]?=some r:=⟨_,Zf fl⟩
  obtain⟨rg,hrg⟩:∃ r,G[g]?=some r:=⟨_,Zf gll⟩
  have wf:=o.wd rf (Zn hrf);have wg:=o.wd rg (Zn hrg);refine⟨_,rfl,_,rfl,l,_,_,_,rfl,rfl,SqL.of (s1 _ _ hl),(by rw[ef]; exact xb9 (xej hrf)),_,rfl,_,_,rfl,rfl,⟨by decide,by decide⟩,rf,_,rfl,by omega,by omega,o.asc rf (Zn hrf),fun H2 v2 s2 b2=>?_⟩;have ixn:∀{n k:Nat},k<n->ixN n (k:Int)=some k:=fun {n k} h=>by
   unfold ixN;rw[if_pos (by omega),if_pos (by omega),JI]
  have g12:=s2 _ _ g1;refine⟨_,rfl,_,rfl,l1,_,_,f,rfl,rfl,g12,(by rw[ef]; exact ixn (by rw[gl]; exact fl)),?_⟩;have k3:∀ c u,c≠l1->H2 c=some u->upd H2 l1 (.lst ((GV G).set f v2)) c=some u:=fun c u nc e=>by rw[xh nc]; exact e
  have e3:upd H2 l1 (.lst ((GV G).set f v2)) l1=some (.lst ((GV G).set f v2)):=xf;revert k3 e3;generalize upd H2 l1 (.lst ((GV G).set f v2))=H3;intro k3 e3;have s3:Same H H3:=fun c u e=>k3 _ _ (xi e hl1) (s2 _ _ (s1 _ _ e));refine⟨_,rfl,_,rfl,l,_,_,_,rfl,rfl,SqL.of (s3 _ _ hl),(by rw[eg]; exact xb9 (xej hrg)),_,rfl,_,_,rfl,rfl,⟨by decide,by decide⟩,rg,_,rfl,by omega,by omega,o.asc rg (Zn hrg),fun H4 v4 s4 b4=>?_⟩;have e4:=s4 _ _ e3;refine⟨_,rfl,_,rfl,l1,_,_,g,rfl,rfl,e4,(by rw[eg]; exact ixn (by rw[JV,gl]; exact gll)),?_⟩;have k5:∀ c u,c≠l1->H4 c=some u->upd H4 l1 (.lst (((GV G).set f v2).set g v4)) c=some u:=fun c u nc e=>by rw[xh nc]; exact e
  have e5:upd H4 l1 (.lst (((GV G).set f v2).set g v4)) l1=some (.lst (((GV G).set f v2).set g v4)):=xf;revert k5 e5;generalize upd H4 l1 (.lst (((GV G).set f v2).set g v4))=H5;intro k5 e5;rw[wf] at b2;rw[wg] at b4;have c3:=b2.keep g12 (by rw[gl]; omega) k3;have c5:=(c3.same s4).keep e4 (by rw[JV,gl]; omega) k5;have d5:=b4.keep e4 (by rw[JV,gl]; omega) k5;have s5:Same H H5:=fun c u e=>k5 _ _ (xi e hl1) (s4 _ _ (s3 _ _ e));refine⟨_,rfl,_,rfl,_,rfl,_,_,rfl,(by show 2<=sizeLine; decide),fun p hp=>?_⟩;have em:(if m3 % ((GV G).length:Int)<m % ((GV G).length:Int) then m3 % ((GV G).length:Int) else m % ((GV G).length:Int))=((min f g:Nat):Int):=by
   rw[ef,eg];split<;>omega
  rw[em];have s6:Same H5 (upd H5 p (.tup [.ref l1,.int ((min f g:Nat):Int)])):=xo (Same.refl _) hp;have g6:upd H5 p (.tup [.ref l1,.int ((min f g:Nat):Int)]) p=some (.tup [.ref l1,.int ((min f g:Nat):Int)]):=xf;revert s6 g6;generalize upd H5 p (.tup [.ref l1,.int ((min f g:Nat):Int)])=H6;intro s6 g6;refine q H6 p (.ref l1) (min f g) (s5.trans s6) g6 ?_;have at_:∀ j,j<min f g->∃ s:Str,(((GV G).set f v2).set g v4)[j]?=some (.str s)/\s.length=W:=fun j hj=>by
   obtain⟨r,hr'⟩:∃ r,G[j]?=some r:=⟨_,Zf (by omega)⟩
   refine⟨ofL r,?_,by rw[xas]; exact o.wd r (Zn hr')⟩;rw[J5 (by omega),J5 (by omega)];exact xej hr'
  have its:∀ v∈((GV G).set f v2).set g v4,∃ d,Itm H6 v d:=fun v hv=>by
   rcases List.mem_or_eq_of_mem_set hv with hv|rfl
   .rcases List.mem_or_eq_of_mem_set hv with hv|rfl
    .exact xgi o v hv
    .exact (c5.same s6).1
   .exact (d5.same s6).1
  have fin:∀ v,(((GV G).set f v2).set g v4)[min f g]?=some v->BadR H6 W v->TS H6 (.ref l1) (min f g):=fun v hv b=>.row (W:=W) (s6 _ _ e5) its (by rw[JV,JV]; omega) hv at_ (fun _=>⟨by omega,by omega⟩) (b.2.imp id fun⟨s,a1,a2,a3⟩=>⟨s,a1,a2,.inr (.inr ⟨by omega,a3⟩)⟩);rcases Nat.lt_or_ge f g with lt|ge
  .refine fin v2 ?_ (c5.same s6);rw[Nat.min_eq_left (by omega),J5 (by omega),Yl (by omega)]
  .refine fin v4 ?_ (d5.same s6);rw[Nat.min_eq_right (by omega),Yl (by rw[JV]; omega)]
def prK (p:Pr):List Key:=[.inr p.1.nm,.inr (xaf p.2.1),.inl p.2.2]
theorem xjq {α:Type}{H:Hp}{d:Addr}{as:List α}{qs:List Addr}{f:α->List V}{kf:α->List Key}{nm:α->Str}{sh:List Bool} (ln:qs.length=as.length) (l64:as.length<64) (hd:H d=some (.lst (qs.map V.ref))) (tp:∀(i:Nat) (q:Addr),qs[i]?=some q->∃ a,as[i]?=some a/\H q=some (.tup (f a)))
    (hf:∀ a,f a=(kf a).map kV) (hn:∀ a,∃ r,kf a=.inr (nm a)::r) (hs:∀ a∈as,shp (kf a)=sh) (h0:0<sh.length) (nd:(as.map nm).Nodup) {Q:VK}
    (fin:∀(l:Addr) (bs:List α) (us:List Addr),H l=none->bs.Perm as->us.length=bs.length->(∀(i:Nat) (q:Addr),us[i]?=some q->∃ a,bs[i]?=some a/\H q=some (.tup (f a)))->bs.Pairwise (fun a b=>(nm a).cps.toList<(nm b).cps.toList)->Q (.ref l) (upd H l (.lst (us.map V.ref)))):xkf [.ref d] H Q:=by
  have inj:(as.map kf).Nodup:=by
    rw[JJ,ZA] at nd ⊢;refine nd.imp fun {a b} ne e=>ne ?_;obtain⟨r,er⟩:=hn a;obtain⟨r',er'⟩:=hn b;rw[er,er'] at e;exact J6.inj (JS.inj e).1
  have zl:(as.zip qs).length=as.length:=by rw[List.length_zip,ln,Nat.min_self]
  have mem:∀ x∈as.zip qs,x.1∈as/\H x.2=some (.tup (f x.1)):=fun x hx=>by
    obtain⟨i,hi⟩:=Yp.mp hx;have l:i<as.length:=by
      have:=(Zi.mp hi).1;omega
    have hq:qs[i]?=some qs[i]:=Zf (by omega);obtain⟨a,ha,e⟩:=tp i _ hq;rw[xl1 ha hq] at hi;cases hi;exact⟨Zn ha,e⟩
  refine⟨d,(as.zip qs).map fun x=>(kf x.1,x.2),sh,rfl,?_,by rw[Za,zl]; exact l64,fun z hz=>?_,fun z hz=>?_,h0,?_,fun l ts hl pm lx=>?_⟩
  . rw[hd,Zv]
    have e:=xl3 (as:=as) (bs:=qs) ln
    congr 2
    conv=>lhs; rw[<- e]
    rw[Zv];rfl
  . obtain⟨x,hx,rfl⟩:=Ze.mp hz
    rw[(mem x hx).2,hf]
  . obtain⟨x,hx,rfl⟩:=Ze.mp hz
    exact hs _ (mem x hx).1
  . rw[Zv]
    have e:=congrArg (List.map kf) (xir (as:=as) (bs:=qs) ln);rw[Zv] at e;show ((as.zip qs).map (kf∘fun x=>x.1)).Nodup;rw[e];exact inj
  . obtain⟨zs,pz,rfl⟩:=xf1 pm rfl
    have pb:=pz.map (·.1);rw[xir ln] at pb;have z:=fin l (zs.map (·.1)) (zs.map (·.2)) hl pb (by rw[Za,Za]) (fun i q e=>by
      rw[Zg,Zk] at e;obtain⟨x,hx,rfl⟩:=e;exact⟨x.1,by rw[Zg,hx]; rfl,(mem x (pz.mem_iff.mp (Zn hx))).2⟩) (by
      have nb:((zs.map (·.1)).map nm).Nodup:=(pb.map nm).nodup_iff.mpr nd;rw[Zv] at lx;rw[ZA] at lx;rw[JJ,ZA,ZA] at nb;rw[ZA];refine (lx.and nb).imp fun {a b} y=>?_;obtain⟨y1,y2⟩:=y;obtain⟨r,er⟩:=hn a.1;obtain⟨r',er'⟩:=hn b.1;have y1:lexK (kf a.1) (kf b.1)=true:=y1;rw[er,er'] at y1;unfold lexK at y1;rw[if_neg (fun e=>y2 (J6.inj e))] at y1;exact of_decide_eq_true y1)
    rw[Zv] at z ⊢;exact z
theorem xrz {s t:Str} (hs:isNm s=true) (ht:isNm t=true) (h:s.cps.toList<t.cps.toList):xaq s<xaq t:=by
 rw[(xb8 hs).1,(xb8 ht).1,xac,xac,lt1] at h;exact h
theorem xs4 (ns:List Int):∃ ms:List Int,cutV (ns.map V.int) (some 3) (some 9)=ms.map V.int/\ms.length<=12:=by
 refine⟨(ns.drop (min 3 ns.length)).take (min 9 ns.length-min 3 ns.length),?_,?_⟩
 .unfold cutV;simp only[HT.sIx,Za];rw[if_neg (by decide),if_neg (by decide),List.map_take,List.map_drop];rfl
 .rw [Jh];omega
theorem xpy (ns:List Int):∃ ms:List Int,cutV (ns.map V.int) (some 9) (some 17)=ms.map V.int/\ms.length<=12:=by
 refine⟨(ns.drop (min 9 ns.length)).take (min 17 ns.length-min 9 ns.length),?_,?_⟩
 .unfold cutV;simp only[HT.sIx,Za];rw[if_neg (by decide),if_neg (by decide),List.map_take,List.map_drop];rfl
 .rw [Jh];omega
theorem xu0 {w h:Nat}{ps:List Pt}{ss:List Seat}{prs:List Pr} (o:Pict w h ps ss prs) {fs:List Sg} (pf:fs.Perm (outs w (xal w h ps ss prs))) (lf:fs.Pairwise nmLt):(fs.map (toPr w (xal w h ps ss prs))).Pairwise fun a b=>xaq a.1.nm<xaq b.1.nm:=by
 rw[ZA];refine JN.imp_of_mem ?_ lf;intro a b ha hb z;obtain⟨_,_,_,y,_,ey,et⟩:=xd2 o.good (pf.mem_iff.mp ha);obtain⟨_,_,_,x,_,ex,es⟩:=xd2 o.good (pf.mem_iff.mp hb);rw[et,es];show xaq (ofL [y.2.2])<xaq (ofL [x.2.2]);rw[xkr,xkr,ey,ex];exact z
theorem xo9 {w h:Nat}{ps:List Pt}{ss:List Seat}{prs bs:List Pr} (o:Pict w h ps ss prs) {fs:List Sg} (pf:fs.Perm (outs w (xal w h ps ss prs))) (lf:fs.Pairwise nmLt) (pb:bs.Perm prs) (lt:bs.Pairwise fun a b=>a.1.nm.cps.toList<b.1.nm.cps.toList):(fs.map (toPr w (xal w h ps ss prs))).map prD=bs.map prD:=by
 have e:fs.map (toPr w (xal w h ps ss prs))=bs.map fun p=>(fr h p.1,p.2):=by
  refine xeu (R:=fun a b:Pr=>xaq a.1.nm<xaq b.1.nm) (fun a b h1 h2=>by omega) ((o.fns pf).trans (pb.map _).symm) (xu0 o pf lf) ?_;rw[ZA];refine JN.imp_of_mem ?_ lt;intro a b ha hb z;exact xrz (o.nmr a (pb.mem_iff.mp ha)) (o.nmr b (pb.mem_iff.mp hb)) z
 rw[e,Zv];rfl
theorem xn2 {K:Zd}{H:Hp}{s:Str}:Dv K H 0 (.str s) (.str s):=.str
theorem xu3 (T:Txt w K mg t):FnOk true P w K mg base (CXo P w) 11 t.f_law t.d_law ["_law_script"] (xjz K):=by
 refine T.F_law.okn (k:=10) xcs (fun vs H Q E h=>?_) (fun cdv A outer s H vs Q E hr h=>?_)
 .obtain ⟨sc,ns,rfl,_⟩:=h;rfl
 .obtain ⟨sc,ns,rfl,h⟩:=h;refine⟨_,xj (xcx (xt (ok_a0 T) (hmm hr) rfl T.g_a0 T.F_a0.kp T.b_a0 .nil xm (xb (pv 0) (xg))) (xan rfl (xr (xq (i:=1) xcs.nd rfl (Zp rfl)) (xr (xq (i:=2) xcs.nd rfl (Zp rfl)) (xad)))))
   (xj (xx (i:=3) xcs.nd rfl (Zp rfl) (xt (ok_az T) (hmm hr) rfl T.g_az T.F_az.kp T.b_az .nil xm (xb (pv 0) (xb (pv 2) (xg)))))
   (xj (xx (i:=4) xcs.nd rfl (Zp rfl) (xt (ok_aq T) (hmm hr) rfl T.g_aq T.F_aq.kp T.b_aq .nil xm (xb (xct xf8 (pv 0) (xci (xk)) (xci (xk))) (xb (pv 1) (xb (pv 2) (xg))))))
   (xj (xx (i:=5) xcs.nd rfl (Zp rfl) (xt (ok_aw T) (hmm hr) rfl T.g_aw T.F_aw.kp T.b_aw .nil xm (xb (xt (ok_ak T) (hmm hr) rfl T.g_ak T.F_ak.kp T.b_ak .nil xm (xb (pv 0) (xb (xk) (xg)))) (xb (pv 4) (xb (pv 2) (xb (pv 3) (xg)))))))
   (xj (xx (i:=6) xcs.nd rfl (Zp rfl) (xt (ok_aj T) (hmm hr) rfl T.g_aj T.F_aj.kp T.b_aj .nil xm (xah (pv 1) (xah (pv 2) (xah (pv 4) (xah (pv 3) (xah (pv 5) (xg) rfl) rfl) rfl) rfl) rfl)))
   (xj (xbx (xag (x9 (xfw (xb1 hr)) (xax xbj (xt (xly T) (hmm hr) rfl T.g_seen T.F_seen.kp T.b_seen .nil xm (xb (pv 6) (xg))) (xk) (fun _ _=>rfl)) (xw (xfn rfl) rfl T.n_sorted PyProof.Rows.Boot.«sorted» (xb (pv 5) (xg))) (x8 _)) (xn (x0 (xdz))) (x5)))
   (xj (xa0 ZG rfl (xat (xu xf3 (xct xf8 (pv 0) (xci (xk)) (xci (xk))) (xa8 (xb (xk) (xg))))) (xq (i:=7) xcs.nd rfl (Zp rfl)) (xj (xcx (xt (ok_ar T) (hmm hr) rfl T.g_ar T.F_ar.kp T.b_ar .nil xm (xb (pv 6) (xb (pv 7) (xg)))) (xan rfl (xr (xq (i:=8) xcs.nd rfl (Zp rfl)) (xr (xq (i:=9) xcs.nd rfl (Zp rfl)) (xad)))))
   (xj (xx (i:=10) xcs.nd rfl (Zp rfl) (xw (xi0 hr.gd (xb1 hr)) rfl T.n_repr PyProof.Rows.Boot.«repr» (xb (pv 8) (xg))))
   (xn (xbx (xag (PW.pt (xcj (xbh (xa9 (xt (ok_ao T) (hmm hr) rfl T.g_ao T.F_ao.kp T.b_ao .nil xm (xb (pv 8) (xb (pv 9) (xg)))))) (xcd (x9 (xfw (xb1 hr)) (xw (xi0 hr.gd (xb1 hr)) rfl T.n_repr PyProof.Rows.Boot.«repr» (xb (pv 8) (xg))) (pv 10) (x8 _))))) (xn (x0 (xdz))) (x5)))))))
   (xn (x0 (xce (xfz (xb1 hr)) (xax xbj (xt (xly T) (hmm hr) rfl T.g_seen T.F_seen.kp T.b_seen .nil xm (xb (pv 6) (xg))) (xk) (fun _ _=>rfl)) (xw (xfn rfl) rfl T.n_sorted PyProof.Rows.Boot.«sorted» (xb (pv 5) (xg))) (x8 _)))))))))),?_⟩
  obtain⟨hs,nl,q⟩:=h;have BIG:∀{n:Nat},n<=1000->n<=sizeLine:=fun h=>Zy h (by decide);refine⟨_,rfl,sc,ns,rfl,hs,fun w' h' H1 p1 w1 w2 h1 h2 s1 g1=>⟨p1,_,rfl,SqT.of g1,rfl,_,_,rfl,_,_,rfl,rfl,?_⟩⟩;refine⟨_,rfl,_,rfl,sc,ns,h',rfl,Same.seqL s1 hs,h2,fun ss rs H2 ls l32 slt sb s2 fls e2 sl2=>?_⟩;have s02:=s1.trans s2;have sok:SsOk (h':Int) ss:=⟨xp0 slt,l32,sb⟩
  obtain⟨ms,ems,m12⟩:=xs4 ns;refine⟨_,rfl,3,rfl,9,rfl,sc,_,rfl,Same.seqL s02 hs,fun lc hlc=>?_⟩;rw[ems];have s3:Same H2 (upd H2 lc (.lst (ms.map V.int))):=xo (Same.refl _) hlc;have g3:upd H2 lc (.lst (ms.map V.int)) lc=some (.lst (ms.map V.int)):=xf;revert s3 g3;generalize upd H2 lc (.lst (ms.map V.int))=H3;intro s3 g3;refine⟨_,rfl,_,rfl,lc,ms,w',h',rfl,g3,m12,w1,w2,h1,h2,fun H5 lp ps qs pok _ s4 flp e5p pt5=>?_⟩;have s24:=s3.trans s4;have s05:=s02.trans s24;have e5s:=s24 _ _ e2;have sl5:=sl2.keep (Same.tups s24);refine⟨_,rfl,sc,ns,2,rfl,Same.seqL s05 hs,by decide,by decide,fun c2=>⟨_,rfl,_,rfl,_,rfl,w',c2,lp,ls,h',ps,ss,qs,rs,rfl,h2,e5p,pt5,pok,e5s,sl5,sok,fun H6 l prs ts pal s6 fl e6 pr6=>?_⟩⟩;have e6p:=s6 _ _ e5p;have pt6:=pt5.keep (Same.tups s6);have e6s:=s6 _ _ e5s;have sl6:=sl5.keep (Same.tups s6);have o:Pict w' h' ps ss prs:=⟨w1,w2,h1,h2,pok,sok,pal⟩
  refine⟨_,rfl,_,rfl,_,rfl,_,rfl,_,rfl,w',h',lp,ls,l,ps,ss,prs,qs,rs,ts,rfl,w1,w2,h2,e6p,pt6,pok,e6s,sl6,l32,e6,pr6,pal,fun H7 du s7 fdu e7=>?_⟩;rw[xqi o.one] at e7;have s07:=(s05.trans s6).trans s7;have e7l:=s7 _ _ e6;have pr7:=pr6.keep (Same.tups s7);have pll:=pr6.len;have p12:=pal.len;refine⟨fun Z H8=>Same H7 H8/\Z=[some (.ref sc),some (.int (w':Int)),some (.int (h':Int)),some (.ref ls),some (.ref lp),some (.ref l),some (.ref du),none,none,none,none],?_,?_⟩
  .refine ⟨_,rfl,du,w',xal w' h' ps ss prs,rfl,e7,o.good,o.sees,fun H8 q8 b8 dp8 do8 lp8 ts8 es8 fs8 s8 _ _ _ _ sn8=>?_⟩;refine⟨q8,_,1,.ref lp8,rfl,rfl,SqT.of sn8.q,rfl,_,rfl,?_⟩;unfold tNil;refine xjq (f:=prV) (kf:=prK) (nm:=fun p=>p.1.nm) (sh:=shp (prK (⟨Zb "",0,0,Zb "",0,0⟩,true,0))) pr6.len (by omega) (s8 _ _ e7l) (fun i q e=>let ⟨p,h1,h2⟩:=pr7.get e; ⟨p,h1,s8 _ _ h2⟩) (fun _=>rfl) (fun _=>⟨_,rfl⟩) (fun _ _=>rfl) (by decide) pal.nn (fun l9 bs9 ub9 hl9 pb9 lb9 tb9 lt9=>?_);have s9:Same H8 (upd H8 l9 (.lst (ub9.map V.ref))):=xo (Same.refl _) hl9;have g9:upd H8 l9 (.lst (ub9.map V.ref)) l9=some (.lst (ub9.map V.ref)):=xf;revert s9 g9;generalize upd H8 l9 (.lst (ub9.map V.ref))=H9;intro s9 g9;obtain⟨vs9,ev9,pr9⟩:=PrsL.pick (H:=H9) (ps:=bs9) (ys:=ub9.map V.ref) (by rw[Za,lb9]) (fun j y p hy hp=>by
    rw[Zg,Zk] at hy;obtain⟨qa,hqa,rfl⟩:=hy;obtain⟨p',hp',hq⟩:=tb9 j qa hqa;rw[hp] at hp';cases hp';exact⟨qa,rfl,s9 _ _ hq⟩)
   rw[ev9] at g9;refine⟨2,2,_,_,(sn8.pr.keep (Same.tups s9)).dv (s9 _ _ sn8.lp),pr9.dv g9,by decide,by decide,_,rfl,ifN (by rw[xo9 o sn8.pf sn8.lf pb9 lt9,xcz]; decide) ⟨s8.trans s9,rfl⟩⟩
  rintro Z H8 ⟨s8,rfl⟩;have s08:=s07.trans s8;have e8:=s8 _ _ e7;obtain⟨cs,ecs,c12⟩:=xpy ns;refine⟨_,rfl,9,rfl,17,rfl,sc,_,rfl,Same.seqL s08 hs,fun l9 hl9=>?_⟩;rw[ecs];have s9:Same H8 (upd H8 l9 (.lst (cs.map V.int))):=xo (Same.refl _) hl9;have g9:upd H8 l9 (.lst (cs.map V.int)) l9=some (.lst (cs.map V.int)):=xf;revert s9 g9;generalize upd H8 l9 (.lst (cs.map V.int))=H9;intro s9 g9;refine⟨(by show 1<=sizeLine; decide),fun l10 hl10=>?_⟩;have s10:Same H9 (upd H9 l10 (.lst [.int 7])):=xo (Same.refl _) hl10;have g10:upd H9 l10 (.lst [.int 7]) l10=some (.lst [.int 7]):=xf;revert s10 g10;generalize upd H9 l10 (.lst [.int 7])=H10;intro s10 g10;refine⟨l9,l10,_,_,rfl,rfl,s10 _ _ g9,g10,by rw[Za]; exact BIG (show _+1<=1000 by omega),fun l11 hl11=>?_⟩;rw[show cs.map V.int++[V.int 7]=(cs++[7]).map V.int by rw[ZB]; rfl];have s11:Same H10 (upd H10 l11 (.lst ((cs++[7]).map V.int))):=xo (Same.refl _) hl11;have g11:upd H10 l11 (.lst ((cs++[7]).map V.int)) l11=some (.lst ((cs++[7]).map V.int)):=xf;revert s11 g11;generalize upd H10 l11 (.lst ((cs++[7]).map V.int))=H11;intro s11 g11;have s811:=(s9.trans s10).trans s11;refine⟨l11,rfl,⟨_,SqL.of g11⟩,?_⟩;refine xa6 (xs:=(cs++[7]).map V.int) (Pv:=fun i Z H12=>∃(v7 v8 v9 v10:Option V),Z=[some (.ref sc),some (.int (w':Int)),some (.int (h':Int)),some (.ref ls),some (.ref lp),some (.ref l),some (.ref du),v7,v8,v9,v10]/\Same H11 H12) ⟨_,_,_,_,rfl,Same.refl _⟩ ?_ ?_ ?_
  .rintro i Z H12 _ ⟨_,_,_,_,rfl,s12⟩;exact SqL.of (s12 _ _ g11)
  .rintro i x Z H12 hx ⟨v7,v8,v9,v10,rfl,s12⟩;rw[Zg,Zk] at hx;obtain⟨cc,_,rfl⟩:=hx;have e12:=s12 _ _ (s811 _ _ e8);refine⟨_,rfl,_,rfl,du,cc,w'+2,xal w' h' ps ss prs,rfl,e12,o.tx,by omega,fun H13 p13 x r s13 hp13 ts13=>?_⟩;refine⟨p13,_,rfl,SqT.of hp13,rfl,_,_,rfl,_,_,rfl,rfl,?_⟩;obtain⟨sx,shw⟩:=ts13.show (K:=K);refine⟨_,rfl,?_⟩;unfold tNil;refine shw H13 _ (Same.refl _) ?_;refine⟨fun Z H14=>Z=[some (.ref sc),some (.int (w':Int)),some (.int (h':Int)),some (.ref ls),some (.ref lp),some (.ref l),some (.ref du),some (.int cc),some x,some (.int (r:Int)),some (.str sx)]/\Same H13 H14,?_,?_⟩
   .refine ⟨_,rfl,_,rfl,x,r,rfl,ts13,fun H14 s14=>⟨_,rfl,ifN (by decide) ?_⟩⟩;refine⟨_,rfl,?_⟩;refine shw H14 _ s14 ?_;exact⟨_,rfl,0,0,_,_,xn2,xn2,by decide,by decide,_,rfl,ifN (by rw[xcz]; decide) ⟨rfl,s14⟩⟩
   rintro Z H14 ⟨rfl,s14⟩;exact⟨_,_,_,_,rfl,(s12.trans s13).trans s14⟩
  rintro Z H12 ⟨v7,v8,v9,v10,rfl,s12⟩;have s712:=(s8.trans s811).trans s12;refine⟨_,rfl,du,w',xal w' h' ps ss prs,rfl,s712 _ _ e7,o.good,o.sees,fun H13 q8 b8 dp8 do8 lp8 ts8 es8 fs8 s13 _ _ _ _ sn8=>?_⟩;have s713:=s712.trans s13;refine⟨q8,_,1,.ref lp8,rfl,rfl,SqT.of sn8.q,rfl,_,rfl,?_⟩;unfold tNil;refine xjq (f:=prV) (kf:=prK) (nm:=fun p=>p.1.nm) (sh:=shp (prK (⟨Zb "",0,0,Zb "",0,0⟩,true,0))) pr6.len (by omega) (s713 _ _ e7l) (fun i q e=>let ⟨p,h1,h2⟩:=pr7.get e; ⟨p,h1,s713 _ _ h2⟩) (fun _=>rfl) (fun _=>⟨_,rfl⟩) (fun _ _=>rfl) (by decide) pal.nn (fun l9 bs9 ub9 hl9 pb9 lb9 tb9 lt9=>?_);have s14:Same H13 (upd H13 l9 (.lst (ub9.map V.ref))):=xo (Same.refl _) hl9;have g14:upd H13 l9 (.lst (ub9.map V.ref)) l9=some (.lst (ub9.map V.ref)):=xf;revert s14 g14;generalize upd H13 l9 (.lst (ub9.map V.ref))=H14;intro s14 g14;obtain⟨vs9,ev9,pr9⟩:=PrsL.pick (H:=H14) (ps:=bs9) (ys:=ub9.map V.ref) (by rw[Za,lb9]) (fun j y p hy hp=>by
   rw[Zg,Zk] at hy;obtain⟨qa,hqa,rfl⟩:=hy;obtain⟨p',hp',hq⟩:=tb9 j qa hqa;rw[hp] at hp';cases hp';exact⟨qa,rfl,s14 _ _ hq⟩)
  rw[ev9] at g14;refine⟨2,2,_,_,(sn8.pr.keep (Same.tups s14)).dv (s14 _ _ sn8.lp),pr9.dv g14,by decide,by decide,?_⟩;rw[xo9 o sn8.pf sn8.lf pb9 lt9,xcz];exact q _
end
end S75
-- the names of the twins of whole trees and heaps are taken here,so that the head makes no such twins (they are what makes its compiled file large); see NOTE.md
namespace PySem.W.Fast
def tw3486625298522654437:=0
def tw16194088492991691034:=0
def tw10113634678305158486:=0
def tw12016229591307450478:=0
def tw7750683912810461690:=0
def tw11113986432787692782:=0
def tw2105373839364076670:=0
def tw4755744747976111344:=0
def tw13745952172898128492:=0
def tw189782055783793531:=0
def tw10023843363858967262:=0
def tw11841871142678523494:=0
def tw10893296356185606677:=0
def tw9168772888821590650:=0
def tw14588205703196180972:=0
def tw3255739566999855730:=0
def tw9727078808476173094:=0
def tw2841639069442822998:=0
def tw13433237608277262944:=0
def tw14412862771361166047:=0
def tw17850994948313843477:=0
def tw14842918416194800573:=0
def tw11834641411134258920:=0
def tw16998432853363199643:=0
def tw12754356956960257157:=0
def tw1264245281575669824:=0
def tw13778688723261090050:=0
def tw16508426135324795588:=0
def tw17889908636018815369:=0
def tw11679370319419705790:=0
def tw18322547226552371126:=0
def tw7102116095460704116:=0
def tw17544798511438410786:=0
def tw18256002692698337074:=0
def tw6524196425024931407:=0
def tw8069018166029138040:=0
def tw13443058016166858015:=0
def tw1991459754980399095:=0
def tw2270679103498788176:=0
def tw16754601761206379719:=0
def tw5171315584251996951:=0
def tw17462823602767573478:=0
def tw14565461261227952471:=0
def tw3723677779068599401:=0
def tw4416033505283274036:=0
def tw12286002562600604133:=0
def tw8339923394274390840:=0
def tw15137939788997424117:=0
def tw13199015573547287760:=0
def tw6754652167553527023:=0
def tw2355176586917141383:=0
def tw6049026358082312056:=0
def tw6906056460213080457:=0
def tw3297823235160155278:=0
def tw1214891030055795811:=0
def tw17927928768372660129:=0
def tw5860329805593728457:=0
def tw1910752972763948934:=0
def tw1888033622947116514:=0
def tw10158128491979153857:=0
def tw12374760688456787076:=0
def tw16125076063184333537:=0
def tw2785386544558481089:=0
def tw14503443977828972996:=0
def tw4800506534116901932:=0
def tw7415247062785607336:=0
def tw7688617281777404355:=0
def tw582631322078648222:=0
def tw11162977550068607374:=0
def tw10480434338455913312:=0
def tw12978925182554796135:=0
def tw9762706454737099429:=0
def tw11411389240154410221:=0
def tw6464760891511496759:=0
def tw4065338645943690895:=0
def tw2997184778577461404:=0
def tw6013838624917744673:=0
def tw11075936919117714344:=0
def tw411467041554151579:=0
def tw4602514824711615543:=0
def tw2381650676517468616:=0
def tw382980034276625501:=0
def tw8356073972901173506:=0
def tw15264534554318880880:=0
def tw10778468519981890408:=0
def tw12814549368605734173:=0
def tw12464103534414862159:=0
def tw6835386694232864604:=0
def tw9058641801055533130:=0
def tw18430221832368650203:=0
def tw627529220666999716:=0
def tw10930689142067402603:=0
def tw6736932235477932439:=0
def tw13107111229939776046:=0
def tw4841996539878244818:=0
def tw4346779897120833890:=0
def tw17824856405901612448:=0
def tw8367266845322946432:=0
def tw2182814606825418149:=0
def tw1964126657085921787:=0
def tw12604006877612040560:=0
def tw16895502724560120762:=0
def tw16392676974335706023:=0
def tw8498399638505653964:=0
def tw8856112561240881441:=0
def tw8078380906432719601:=0
def tw17434690690730340078:=0
def tw1129920142746743832:=0
def tw15327779764903770022:=0
def tw3118156152901515610:=0
def tw4037496504016634606:=0
def tw9407255537389926525:=0
def tw2457164318601571839:=0
def tw14585347567219575427:=0
def tw14878305152293516931:=0
def tw3596734195630120845:=0
def tw2930813415501430416:=0
def tw7870762446004628578:=0
def tw11909266191423084769:=0
def tw12168947638181986146:=0
def tw2599106473316915004:=0
def tw12312030152990045804:=0
def tw8826772425207621108:=0
def tw113471899905864904:=0
def tw14835975410334056502:=0
def tw2914670538285262230:=0
def tw11103943053866757144:=0
def tw17439374809400892651:=0
def tw14365623817935913888:=0
def tw5785670897277206548:=0
def tw4032014299819323293:=0
def tw14216724183682594070:=0
def tw5884360677954788993:=0
def tw3803289876644866094:=0
def tw1650961467425327985:=0
def tw10251317330220624722:=0
def tw10453022136723271194:=0
def tw6773506969803167795:=0
def tw16259808292678604090:=0
def tw11814257730385749655:=0
def tw1082961760386827659:=0
def tw6016163858040828780:=0
def tw2466871478460309206:=0
def tw3614496501591369512:=0
def tw14759176474768595322:=0
def tw7933214918448772028:=0
def tw11339265092775930625:=0
def tw3167029078635021690:=0
def tw13917775989036891669:=0
def tw7439097513409918129:=0
def tw17754630725793125535:=0
def tw5912414911605043156:=0
def tw3638169528580338200:=0
def tw15358903584619469154:=0
def tw12477090687610344829:=0
def tw4092393753021280168:=0
def tw5817294712737527954:=0
def tw11900622649953622122:=0
def tw10121890833475808011:=0
def tw1256294579697822431:=0
def tw17073705948543545369:=0
def tw3061927939444607358:=0
def tw10583442754390447254:=0
def tw14613097642913340806:=0
def tw6249866595670078143:=0
def tw13198895769197912382:=0
def tw9933357876742742775:=0
def tw16329660963928291443:=0
def tw6754740054693690665:=0
def tw8233392818376099088:=0
def tw16315770477441051727:=0
def tw10457133579949367295:=0
def tw15388618278188078609:=0
def tw15429743782742109905:=0
def tw3608959507452342610:=0
def tw15257504724530514002:=0
def tw5362935824680925696:=0
def tw13601042968154781782:=0
def tw14539226310668500813:=0
def tw6712441956706390727:=0
def tw250356378431266122:=0
def tw11948407920371837149:=0
def tw10737549243122753340:=0
def tw14049572212183903802:=0
def tw9927547882199997730:=0
def tw12426950889696331457:=0
def tw16161981200791180890:=0
def tw14895341947517489126:=0
def tw6633175709849021215:=0
def tw975170565637702247:=0
def tw5297159967141096922:=0
def tw5426598135512378947:=0
def tw7548723086928760904:=0
def tw10624970146833726838:=0
def tw17613757928300641902:=0
def tw18239838322189358140:=0
def tw5984436513389121248:=0
def tw17022597111479781487:=0
def tw9246231582230061616:=0
def tw7060194964827786136:=0
def tw17758255611339189725:=0
def tw11030950629636235658:=0
def tw14440208985233049762:=0
def tw16855020711402896641:=0
def tw16036862486684691037:=0
def tw14729958922229043423:=0
def tw12584567000818089029:=0
def tw438068599831741144:=0
def tw6121259080352747936:=0
def tw1588553006788269329:=0
def tw11601490574492917423:=0
def tw15636120237266181956:=0
def tw3289744092157184434:=0
def tw2267452462867626120:=0
def tw18244061916443104741:=0
def tw6213732012904038368:=0
def tw13477393703021070676:=0
def tw2177774164826853939:=0
def tw6358189095109915391:=0
def tw1676299068094627812:=0
def tw4558873095513335695:=0
def tw13050124996464658528:=0
def tw9280714759903603160:=0
def tw6441653158919780126:=0
def tw351674445002836842:=0
def tw9612506255468123601:=0
def tw3224355138643972455:=0
def tw17661751539885314544:=0
def tw8729001537443120009:=0
def tw15494806824899223882:=0
def tw2128079379141203437:=0
def tw10602814521140995329:=0
def tw7862753128850850587:=0
def tw1837511161650273908:=0
def tw164141407309836747:=0
def tw17071991056355757276:=0
def tw1565983367241305461:=0
def tw6495810733062632368:=0
def tw3973402698242263794:=0
def tw1371333325050542703:=0
def tw14199971365756283097:=0
def tw8446085817970206568:=0
def tw13861417074093393105:=0
def tw4150078593236458237:=0
def tw15204516489890384092:=0
def tw8278407760560638060:=0
def tw5634501494749902623:=0
def tw14658722562486511608:=0
def tw5520710341208322611:=0
def tw18260266593107857257:=0
def tw16681445463645397714:=0
def tw16426885224526563829:=0
def tw8778252367550668379:=0
def tw9241434665441110876:=0
def tw1954725243495094283:=0
def tw1777776399093927850:=0
def tw13993802507966756669:=0
def tw2042326307875598905:=0
def tw1406092459289133622:=0
def tw16300712580021053383:=0
def tw12821375491406269958:=0
def tw10296454251165951803:=0
def tw14889633340807089387:=0
def tw15242502736104859640:=0
def tw1935602755316687279:=0
def tw16208169990818024096:=0
def tw5547686918244228803:=0
def tw2048356444638449610:=0
def tw7842349659996041160:=0
def tw13971574959990670598:=0
def tw2093438181401327666:=0
def tw7463729651367170043:=0
def tw5613434419731433308:=0
def tw10612669647197065596:=0
def tw13594602204807694465:=0
def tw12892550958636121311:=0
def tw423553549447010778:=0
def tw13041286546821892825:=0
def tw15537973114166754647:=0
def tw15879330678043355373:=0
def tw16598020522041538338:=0
def tw10811142124951829411:=0
def tw14084770461703579004:=0
def tw6950882244916997438:=0
def tw14169489457901768066:=0
def tw4325759863399006314:=0
def tw1273453222955357885:=0
def tw11071721732210196840:=0
def tw13203508578128582082:=0
def tw436142717558919457:=0
def tw16280212058764051267:=0
def tw11333838176071534964:=0
def tw778562651571523993:=0
def tw1182861006389097276:=0
def tw16670470502685860195:=0
def tw7908674829091389846:=0
def tw2384014712605259358:=0
def tw12370940106586708518:=0
def tw1527396704491620072:=0
def tw16385152040001929334:=0
def tw17476685391468252284:=0
def tw172772966519256771:=0
def tw15097692622297683433:=0
def tw7257181920877524629:=0
def tw13889366855623975419:=0
def tw4735782069581378969:=0
def tw16776578417661884516:=0
def tw9310332383134496528:=0
def tw3025146402803022549:=0
def tw15482495257525531243:=0
def tw1062940364138149192:=0
def tw5395974499207606534:=0
def tw12858084606176083383:=0
def tw17653359010075009759:=0
def tw13788408809409265802:=0
def tw8785684948579421367:=0
def tw1887571236856994377:=0
def tw17079485435618223404:=0
def tw6403223953428773585:=0
def tw5179786243200316656:=0
def tw660174498180420370:=0
def tw15611031800683843075:=0
def tw16559221077516338975:=0
def tw8837551346028741588:=0
def tw2703045700722564823:=0
def tw17670318700027584846:=0
def tw3991524159401577932:=0
def tw8261872728892821210:=0
def tw1318656342540846361:=0
def tw18164525893825549120:=0
def tw16140510416021636763:=0
def tw16842680965370056284:=0
def tw494197665076786287:=0
def tw3193044601171718078:=0
def tw211534605986186693:=0
def tw12289324055211463383:=0
def tw5765364118466323599:=0
def tw16708790684526354412:=0
def tw9234019384218234008:=0
def tw9120853917951908196:=0
def tw9359719299389009161:=0
def tw11694782383310666950:=0
def tw11200568963647678237:=0
def tw12861113347937132397:=0
def tw12576294690790739145:=0
def tw1052005305638738897:=0
def tw13324026637091157665:=0
def tw6115801424261771173:=0
def tw8404301651610440367:=0
def tw3551574579668380989:=0
def tw164044168024095484:=0
def tw11724098378990771407:=0
def tw1037090147460988603:=0
def tw4390555765034570306:=0
def tw12386358254993227755:=0
def tw18052105080351180103:=0
def tw13242581002530813606:=0
def tw2140132036878321238:=0
def tw1437305583371611843:=0
def tw18220466155843317987:=0
def tw9246176257336027915:=0
def tw8632887159541986820:=0
def tw13665432023097298702:=0
def tw9576184909803890135:=0
def tw390411539652715565:=0
def tw11230234666028690303:=0
def tw8161768056352859788:=0
def tw16404315041360382825:=0
def tw1164957689477948348:=0
def tw16712756739008095281:=0
def tw9714468206919990374:=0
def tw7856654238140867701:=0
def tw6264732109864144062:=0
def tw9347278329830451333:=0
def tw5254822446669561647:=0
def tw4062118402624995034:=0
def tw6852555456926271546:=0
def tw9612306877134727515:=0
def tw7919942856887025185:=0
def tw577053358121293774:=0
def tw9208282916100843375:=0
def tw287199538774706089:=0
def tw18326658490625932156:=0
def tw6162974026054660787:=0
def tw16742531966004196797:=0
def tw9738087734393884919:=0
def tw12057840270758980822:=0
def tw13545150933235020220:=0
def tw7419997173113406664:=0
def tw7477014884706388619:=0
def tw10747852043465434703:=0
def tw7322368774663946706:=0
def tw13717701884617344253:=0
def tw13097319700650885663:=0
def tw15020139420258278200:=0
def tw6516802248898193222:=0
def tw2922504275827665354:=0
def tw3130799652348247876:=0
def tw16422815807487254554:=0
def tw16942484352763979565:=0
def tw784999637712566351:=0
def tw15863723788899430814:=0
def tw14541008910669590045:=0
def tw5204396997217124168:=0
def tw9546926906995823149:=0
def tw10892583436434398123:=0
def tw1985266386862415599:=0
def tw18261271465821501992:=0
def tw5424452495178957741:=0
def tw5728681275258602904:=0
def tw9256438263236616662:=0
def tw12675030033126587221:=0
def tw7886312698228677082:=0
def tw3657546442233158109:=0
def tw15797926782093989778:=0
def tw14903956845078808017:=0
def tw14941969844970546862:=0
def tw7188876425797496333:=0
def tw15541095744432757067:=0
def tw13520718407371269742:=0
def tw18276086943374454392:=0
def tw8617493828038927153:=0
def tw950139276851413583:=0
def tw9381724342525290385:=0
def tw556665292202737999:=0
def tw9536324889265272631:=0
def tw2541713656138503246:=0
def tw11763513507182348126:=0
def tw4441807184668845961:=0
def tw16953929817997575713:=0
def tw8658200277351508767:=0
def tw3235146411751527035:=0
def tw10199128592441903949:=0
def tw5895175888353565568:=0
def tw7602105796839828760:=0
def tw3177219677025778126:=0
def tw2589371622003249286:=0
def tw7060133859756820014:=0
def tw5002709271021593822:=0
def tw9676944851498913703:=0
def tw51724051044720350:=0
def tw3540104101855029960:=0
def tw9781153761056525133:=0
def tw1878859937852190481:=0
def tw4089070558780240215:=0
def tw12349331573207437616:=0
def tw7338566052161068669:=0
def tw4730321107869914988:=0
def tw4519488650585395510:=0
def tw13092400615418956793:=0
def tw15626521431028736404:=0
def tw10800199529311534871:=0
def tw5456863492949691752:=0
def tw10915680895913563482:=0
def tw16825253187471442362:=0
def tw15181822994221283022:=0
def tw4150922952961555700:=0
def tw10340796380484903053:=0
def tw12744431318249761608:=0
def tw3107536531578609772:=0
def tw4555713165808371423:=0
def tw873096126378225167:=0
def tw6285346559686556652:=0
def tw5302033733219330589:=0
def tw2779603848179479431:=0
def tw13061053342455678895:=0
def tw1709573115929276365:=0
def tw11741077703835068048:=0
def tw17593175384582171522:=0
def tw15843287476812702714:=0
def tw12007690140770758554:=0
def tw7406381449974760470:=0
def tw17286297459609937179:=0
def tw11462350410321678255:=0
def tw5793179842819592931:=0
def tw4519077001853925044:=0
def tw8482585762326120049:=0
def tw7755673856957841436:=0
def tw7567200409220795495:=0
def tw14854396512367824968:=0
def tw7729964915248421562:=0
def tw18086364857958069104:=0
def tw14674031057874038056:=0
def tw2762991627511674951:=0
def tw7373637524916966269:=0
def tw8198444194306071087:=0
def tw4446381709468333299:=0
def tw17929812993064041306:=0
def tw4418458270722641124:=0
def tw2666747879425452339:=0
def tw9301201941256815478:=0
def tw11231147484753528609:=0
def tw3551417154391978730:=0
def tw14678765102894707163:=0
def tw10905393057580481672:=0
def tw8216285147410325818:=0
def tw17055728281082447808:=0
def tw7660174549652016754:=0
def tw2840913947117549738:=0
def tw11533656227987477685:=0
def tw12869830705983194104:=0
def tw7934719831462900479:=0
def tw12258552543926920390:=0
def tw12909271922290255495:=0
def tw14755183829880409997:=0
def tw5195874215357684374:=0
def tw10533730209560495992:=0
def tw9536747952515601704:=0
def tw13685427472309629618:=0
def tw12664442849664425201:=0
def tw9912114447108149358:=0
def tw13156390182141570682:=0
def tw7735131350010889385:=0
def tw13531411592498611012:=0
def tw4082263908839982877:=0
def tw14177562698524650952:=0
def tw16714058792133631836:=0
def tw461974004113946460:=0
def tw5602250760095811971:=0
def tw14194640678229008635:=0
def tw13695132914876788564:=0
def tw3115029685981080082:=0
def tw5854049569407985195:=0
def tw8875616094421273393:=0
def tw8672411993716922357:=0
def tw6874703233528872008:=0
def tw16128561868919911286:=0
def tw13042682161494054657:=0
def tw3369276668204766406:=0
def tw14145314118369564148:=0
def tw12107188215369367250:=0
def tw16540551456717825643:=0
def tw17008395645622057530:=0
def tw16794292314936510724:=0
def tw14530333356381713328:=0
def tw8764265896326341371:=0
def tw2734402857017974497:=0
def tw14401834413885640421:=0
def tw6914884304467187527:=0
def tw10989321490066591739:=0
def tw7580104739317256534:=0
def tw13080462660795090303:=0
def tw5160550514473196066:=0
def tw12314209979089363455:=0
def tw14804475265296602384:=0
def tw15481319408475452548:=0
def tw2584340387135820648:=0
def tw8986940536041970760:=0
def tw12717639490619640156:=0
def tw6305332652835195722:=0
def tw944179970062742283:=0
def tw17712240257647889646:=0
def tw9155297605178031033:=0
def tw15178137736119509445:=0
def tw3856895776215204038:=0
def tw9681543001055004095:=0
def tw136289242447444075:=0
def tw5086551684147040617:=0
def tw10781079948443015731:=0
def tw7405700280681198402:=0
def tw583618143178914990:=0
def tw15676510166050512700:=0
def tw6372940434888329328:=0
def tw14593603747406229523:=0
def tw1528033049192757028:=0
def tw662406546377246561:=0
def tw4423998708103566566:=0
def tw13061355669105324933:=0
def tw7330426976649284872:=0
def tw8981788623297445172:=0
def tw16633108993358045385:=0
def tw3384159846766695113:=0
def tw13919926182714329489:=0
def tw11055771435024995303:=0
def tw14232083260189559701:=0
def tw4349923612272105655:=0
def tw12457708187142078425:=0
def tw1943315278878304955:=0
def tw9986175229467777160:=0
def tw14074502083216806208:=0
def tw2642883671379585917:=0
def tw16877178255148817063:=0
def tw2255867228864255805:=0
def tw5205550751243038894:=0
def tw11001504089758657207:=0
def tw5142435684291542802:=0
def tw11712991085252630845:=0
def tw11777052731457061897:=0
def tw8039111087866769053:=0
def tw9766664730331849697:=0
def tw3643324743387545302:=0
def tw14580543279903411332:=0
def tw12631083084932078465:=0
def tw631916889463079753:=0
def tw12408686176809650463:=0
def tw1719841855893092829:=0
def tw6894619330703719053:=0
def tw3572634788069998211:=0
def tw16890107214469880996:=0
def tw3578703283384180441:=0
def tw13090632523795012427:=0
def tw5360350647104244190:=0
def tw1222509368540984589:=0
def tw16875160119844179186:=0
def tw14877088346022748404:=0
def tw2885657709593026501:=0
def tw3905836084787687183:=0
def tw5372477760443481636:=0
def tw12610186025478679133:=0
def tw2520084432802019508:=0
def tw13212699691665126521:=0
def tw6998416761277408302:=0
def tw9798724308988514982:=0
def tw2744607709164308292:=0
def tw4378947501449071208:=0
def tw4485167035684710176:=0
def tw8686203646674061002:=0
def tw2857569187329136806:=0
def tw3200885588581927310:=0
def tw8071197468662334440:=0
def tw6761629225073294411:=0
def tw5214805433759789289:=0
def tw10689116482820167313:=0
def tw3042245313421079749:=0
def tw15298011473483849614:=0
def tw7940680213505604123:=0
def tw10594810863474635208:=0
def tw544964326406949574:=0
def tw678937542797436045:=0
def tw6685196790918227080:=0
def tw11880379492140223072:=0
def tw12508042249730029727:=0
def tw11712231790851068346:=0
def tw11155495632019612220:=0
def tw14112013209124159765:=0
def tw12086598301271130239:=0
def tw9336858492766691122:=0
def tw14488162597160671319:=0
def tw8480194764838177220:=0
def tw4885156808776862621:=0
def tw8598600321360249478:=0
def tw9110245876887439643:=0
def tw5230352604574601711:=0
def tw10379814632078470697:=0
def tw198215289995239385:=0
def tw14734821413070405425:=0
def tw3935878479723160778:=0
def tw6493331384145054158:=0
def tw4206672933679694211:=0
def tw1225937192525967576:=0
def tw13938364801000764093:=0
def tw14829137242553001643:=0
def tw320678131811366658:=0
def tw9673124799233828161:=0
def tw9558042778724158846:=0
def tw14643564049039731780:=0
def tw17461159049952648329:=0
def tw30208237433743334:=0
def tw4626607702569613371:=0
def tw5111836739016037037:=0
def tw3637196941471370582:=0
def tw4645972182976614404:=0
def tw671389803604344881:=0
def tw11525539893446658548:=0
def tw12823697397974661775:=0
def tw14463611899168399665:=0
def tw9558614885089896157:=0
def tw4625328059270051058:=0
def tw9214098427309740861:=0
def tw18402008123225013263:=0
def tw4127221384373137243:=0
def tw4143288543553579041:=0
def tw5554423449328181701:=0
def tw3786610039977406259:=0
def tw17957750834710751465:=0
def tw703584154828693068:=0
def tw15543825852867250464:=0
def tw3840949293665909695:=0
def tw14421248275025316223:=0
def tw17095272668604358987:=0
def tw16612150878569883692:=0
def tw4773527336974796082:=0
def tw5892374461756308227:=0
def tw7517363800340056409:=0
def tw1095738145921218493:=0
def tw3106997571998821933:=0
def tw246139412563499785:=0
def tw396748541941574797:=0
def tw9596493317156180341:=0
def tw8478708178486004091:=0
def tw7094769124870287984:=0
def tw17900554110475230171:=0
def tw3543173501945603861:=0
def tw9031761239860027274:=0
def tw15297425749280972691:=0
def tw12650246612908971213:=0
def tw14875180362199108683:=0
def tw3373287251032371344:=0
def tw14002837540159743644:=0
def tw6488236028879240991:=0
def tw12987094299090851409:=0
def tw11503974161686460218:=0
def tw12296559765623799446:=0
def tw7895040037853086846:=0
def tw8397491083003934126:=0
def tw5581483808035413049:=0
def tw16182278834924259050:=0
def tw6901523048610635121:=0
def tw3708936744204243672:=0
def tw331329949956535146:=0
def tw8991940537705605682:=0
def tw8833970623442009508:=0
def tw1987642576503565331:=0
def tw4058960343714840939:=0
def tw6897639570835983759:=0
def tw7236799241668829161:=0
def tw11507736940956104924:=0
def tw10935594796031274910:=0
def tw232927062802881419:=0
def tw17627352549085150335:=0
def tw9028781426675891395:=0
def tw16305610245009473670:=0
def tw2635624234493880866:=0
def tw9128207783401470044:=0
def tw1780364617977474435:=0
def tw16038889794479371621:=0
def tw5490693340636573102:=0
def tw1232794573619149594:=0
def tw8471121925248694752:=0
def tw8097031858575497768:=0
def tw14433718456053283449:=0
def tw223508573545198320:=0
def tw2921114342442671954:=0
def tw7753619768013704633:=0
def tw14634018334042187517:=0
def tw18163589963858108361:=0
def tw9457233552235679705:=0
def tw9582318458784050600:=0
def tw4936378088158305366:=0
def tw14012826933722680038:=0
def tw11558201953403382645:=0
def tw1043314168775930810:=0
def tw7098989038873835390:=0
def tw1287689823399568227:=0
def tw317187942225622972:=0
def tw1578679943001610717:=0
def tw1202899897164808597:=0
def tw16059017599237340747:=0
def tw3002325952841926157:=0
def tw11597753488473575109:=0
def tw18037838834140429882:=0
def tw12480386166982131479:=0
def tw5121243136891826083:=0
def tw2606254213208638905:=0
def tw3693762321981830227:=0
def tw2448806910452129205:=0
def tw7503791878070803416:=0
def tw5902184620790001821:=0
def tw12024172945409011614:=0
def tw14366062298824301624:=0
def tw18385514800076626523:=0
def tw15691318013069514863:=0
def tw1014092923621058560:=0
def tw13463556442576414150:=0
def tw13604437719552862090:=0
def tw11820091581639176914:=0
def tw16165087612744427325:=0
def tw18370324072101289071:=0
def tw15805736764142156114:=0
def tw15320022269486528759:=0
def tw2601489096454761914:=0
def tw5967044893601393771:=0
def tw6084142069233235878:=0
def tw13196028365991157640:=0
def tw6072648884467084764:=0
def tw10566380001031662957:=0
def tw10412518490521730240:=0
def tw2517717133410430045:=0
def tw15443563825778214678:=0
def tw3114677728633613236:=0
def tw15892234304906800646:=0
def tw9762469157535540281:=0
def tw15281599272594494869:=0
def tw10878847967070519853:=0
def tw7479206360647570455:=0
def tw10360018312232969388:=0
def tw13647895497366551735:=0
def tw5648839223843760555:=0
def tw15291710102879945320:=0
def tw15423913082730442827:=0
def tw5095953068768386290:=0
def tw13665528660452116629:=0
def tw7444066761898312961:=0
def tw11143523367822846300:=0
def tw1105086110636476240:=0
def tw3869285576409337960:=0
def tw4080892604175154910:=0
def tw9864487707238671310:=0
def tw3108614459865933967:=0
def tw5469345702936369736:=0
def tw3499825090681427061:=0
def tw1734392429214691578:=0
def tw5854948359341440409:=0
def tw17896937520373205561:=0
def tw6841007584898776279:=0
def tw14165983569393381190:=0
def tw8282448240439403464:=0
def tw11218688337662126557:=0
def tw6347039713952907060:=0
def tw3337113959474193988:=0
def tw3892052272067260593:=0
def tw17882598799039526247:=0
def tw14211625446116370450:=0
def tw12894414946636410354:=0
def tw12911712221574600823:=0
def tw11172420170562422460:=0
def tw2560484585404898817:=0
def tw11733520398525367865:=0
def tw14735036539145348311:=0
def tw12875320816694912672:=0
def tw12607034481453867528:=0
def tw18051967434575437140:=0
def tw13819750436638831902:=0
def tw9315219644993183348:=0
def tw12677770911347446128:=0
def tw2104863972625962895:=0
def tw6700543443643644194:=0
def tw17849688588901828867:=0
def tw5683354280313522138:=0
def tw16737431325730327780:=0
def tw5307691962788481507:=0
def tw3209701788152245870:=0
def tw9988836800341061240:=0
def tw17292808950094027985:=0
def tw6476424644084251496:=0
def tw14071512160418922910:=0
def tw210318137897713245:=0
def tw12240837536433073131:=0
def tw16943608553417546637:=0
def tw1180757120775202787:=0
def tw9667805849240747108:=0
def tw8712691153765710716:=0
def tw9947624038858115424:=0
def tw15182903243154234863:=0
def tw13795630105320963656:=0
def tw1128738996671544807:=0
def tw964212674874133408:=0
def tw17650713588711679726:=0
def tw3561612227766705893:=0
def tw9086917671577796361:=0
def tw1960156076788440425:=0
def tw13775781068377156629:=0
def tw12024776624399564445:=0
def tw2029045572545751947:=0
def tw814436071985070677:=0
def tw3886137096036392209:=0
def tw9623524331260028705:=0
def tw14448273141448231465:=0
def tw2802099654719220344:=0
def tw12296893359902927325:=0
def tw5243310644816195345:=0
def tw8314260171416258588:=0
def tw5334718428410344547:=0
def tw16660155741429551455:=0
def tw15846638660946685028:=0
end PySem.W.Fast
namespace S75
open PySem L2 XL
theorem walk {l:PySem.W.OpenLaw}{q:Program}{loose:List Str}{XP:(Str->Option Value)->Heap->Prop}{YP:World->Heap->Prop}{d:DefRec}{K:Params->Zd} (hn:l.most=some 63) (hdf:d.params.defaults=[])
    (hY:∀(w:World) (h:Heap),YP w h->(K w.params).In h)
    (F:∀(w:World) (mg:Str->Option Value) (fa:Addr) (h:Heap),(K w.params).In h->h.Ns mainGlobals mg->mg d.name=some (.ref fa) ->
      ∃ fd:FuncData,(∀(s:Shared) (u:Value),BindsTo s fd ⟨[u],[]⟩ [("_law_script",u)])/\∀ base:Heap,(K w.params).In base->base.Ns mainGlobals mg->FnOk true l.prog w (K w.params) mg base (CXo l.prog w) 11 fa fd ["_law_script"] (xjz (K w.params))) :
    PySem.W.WalkO q loose XP YP l.row.toRowW d [] (fun f vs=>PySem.call f vs) :=
  L2.walk_of (q0:=true) (n:=63) (k:=11) (x:="_law_script") (CX:=fun w=>CXo l.prog w) (sp:=fun w=>xjz (K w.params)) hn (by decide) hdf ⟨fun _=>rfl,by decide,by decide,rfl⟩ hY F (fun _ _ a ns hl _ hS=>⟨a,ns,rfl,hS,hl,fun _=>rfl⟩)
    fun w H s e s' z=>by obtain⟨_,_,_,_,_,_,_,_,_,_,_,_,_,_,q⟩:=z; exact q
theorem all_mk {l:PySem.W.OpenLaw}{w:World}{K:Zd}{h:Heap}{mg:Str->Option Value}{fa:Addr} (hfa:mg "law"=some (.ref fa)) (TT:∃ t,Txt w K mg t) :
    ∃ fd:FuncData,(∀(s:Shared) (v:Value),BindsTo s fd ⟨[v],[]⟩ [("_law_script",v)])/\∀ base:Heap,K.In base->base.Ns mainGlobals mg->FnOk true l.prog w K mg base (CXo l.prog w) 11 fa fd ["_law_script"] (xjz K):=by
  obtain⟨t,T⟩:=TT;have e:=hfa.symm.trans T.g_law;cases e;refine⟨t.d_law,fun s v=>?_,fun base _ _=>xu3 T⟩;obtain⟨oc,od,kV,doc,pm,an,cdv,ct,osl,e,lk,hcd⟩:=T.F_law.ex;rw[e];exact .of_eq rfl
end S75
open PySem PySem.W PyProof.Rows
set_option maxRecDepth 100000 in
set_option maxHeartbeats 0 in
theorem PySem.Challenge.cw_rimnotes_k75_no_rows_of_signs_holds : PySem.Challenge.rw_rimnotes_k75_no_rows_of_signs.Holds := by
 w_on; o_law; k_head; (case hw=>w_witness2)
 k_fill
 refine S75.walk (l:=PySem.Challenge.rw_rimnotes_k75_no_rows_of_signs) rfl rfl (fun w h Y=>PySem.W.kIn_of Y) ?F
 case F =>
  intro w mg fa h KX G hmg
  refine S75.all_mk (h:=h) hmg ?TT
  refine' S75.txt_mk (w:=w) KX G ?g_ba ?g_bi ?g_bj ?g_bg ?g_a ?g_bk ?g_bq ?g_ah ?g_r ?g_c ?g_t ?a_n ?F_n ?i_n ?a_av ?F_av ?i_av ?a_w ?F_w ?i_w ?a_ae ?F_ae ?i_ae ?a_q ?F_q ?i_q ?a_s ?F_s ?i_s ?a_v ?F_v ?i_v ?a_l ?F_l ?i_l ?a_ap ?F_ap ?a_a2 ?F_a2 ?a_am ?F_am ?a_au ?F_au ?a_an ?F_an ?i_an ?a_b ?l_b ?c_b ?k_b ?i_b ?t_b ?a_j ?F_j ?i_j ?a_p ?F_p ?i_p ?a_ac ?F_ac ?i_ac ?a_g ?F_g ?i_g ?a_u ?F_u ?i_u ?a_h ?F_h ?i_h ?a_i ?F_i ?i_i ?a_d ?F_d ?i_d ?a_f ?F_f ?i_f ?a_y ?F_y ?a_drawn ?F_drawn ?a_a5 ?F_a5 ?a_af ?F_af ?a_at ?F_at ?a_ay ?F_ay ?a_al ?F_al ?i_al ?a_m ?F_m ?i_m ?a_k ?F_k ?i_k ?a_o ?F_o ?i_o ?a_z ?F_z ?i_z ?a_seen ?F_seen ?a_aa ?F_aa ?a_as ?F_as ?a_a3 ?F_a3 ?a_ag ?F_ag ?a_x ?F_x ?a_ak ?F_ak ?a_e ?F_e ?a_a0 ?F_a0 ?a_az ?F_az ?a_a1 ?F_a1 ?a_aq ?F_aq ?a_ab ?F_ab ?a_aw ?F_aw ?a_a4 ?F_a4 ?a_ax ?F_ax ?a_aj ?F_aj ?a_ao ?F_ao ?a_ad ?F_ad ?a_ar ?F_ar ?a_law ?F_law ?mk_ba ?kc_a ?ov_a ?hd_a ?sa_a ?ga_a ?gh_a ?ca_a ?mk_a ?kc_ah ?pg_ah ?hd_ah ?po_ah ?sa_ah ?mk_ah ?a_LeftSide_init ?kc_r ?pg_r ?hd_r ?po_r ?sa_r ?mk_r ?a_RightSide_init ?kc_c ?pg_c ?hd_c ?po_c ?sa_c ?mk_c ?kc_t ?pg_t ?hd_t ?po_t ?sa_t ?mk_t ?cg ?ct ?n_be ?n_a6 ?n_a8 ?n_a7 ?n_bd ?n_bb ?n_a9 ?n_bc ?n_bh ?n_bm ?n_bo ?n_bp ?n_abs ?n_bool ?n_dict ?n_enumerate ?n_int ?n_isinstance ?n_len ?n_list ?n_max ?n_min ?n_range ?n_repr ?n_reversed ?n_sorted ?n_str ?n_tuple ?mro_a ?kitv_a ?kany_a ?v_bn ?v_bf ?v_bl ?g_ai ?l_ai ?ns_ai
  case g_ba|g_bi|g_bj|g_bg|g_a|g_bk|g_bq|g_ah|g_r|g_c|g_t|a_ap|a_a2|a_am|a_au|a_y|a_drawn|a_a5|a_af|a_at|a_ay|a_seen|a_aa|a_as|a_a3|a_ag|a_x|a_ak|a_e|a_a0|a_az|a_a1|a_aq|a_ab|a_aw|a_a4|a_ax|a_aj|a_ao|a_ad|a_ar|a_law|g_ai=>delta S75.gI; k_is
  case a_n|a_av|a_w|a_ae|a_q|a_s|a_v|a_l|a_an|a_b|a_j|a_p|a_ac|a_g|a_u|a_h|a_i|a_d|a_f|a_al|a_m|a_k|a_o|a_z|a_LeftSide_init|a_RightSide_init=>delta S75.fI; k_is
  case F_n|F_av|F_w|F_ae|F_q|F_s|F_v|F_l|F_ap|F_a2|F_am|F_au|F_an|F_j|F_p|F_ac|F_g|F_u|F_h|F_i|F_d|F_f|F_y|F_drawn|F_a5|F_af|F_at|F_ay|F_al|F_m|F_k|F_o|F_z|F_seen|F_aa|F_as|F_a3|F_ag|F_x|F_ak|F_e|F_a0|F_az|F_a1|F_aq|F_ab|F_aw|F_a4|F_ax|F_aj|F_ao|F_ad|F_ar|F_law=>exact L2.fun_mk (by k_is) (by k_is) (by k_is)
  case sa_a|ga_a|ca_a|sa_ah|sa_r|sa_c|sa_t=>delta S75.fB; k_is
  case gh_a|n_be|n_a6|n_a8|n_a7|n_bd|n_bb|n_a9|n_bc|n_bh|n_bm|n_bo=>delta S75.fN; k_is
  case n_bp|n_abs|n_bool|n_dict|n_enumerate|n_int|n_isinstance|n_len|n_list|n_max|n_min|n_range|n_repr|n_reversed|n_sorted|n_str|n_tuple=>delta S75.gN; k_is
  case i_n|i_av|i_w|i_ae|i_q|i_s|i_v|i_l|i_an|l_b|c_b|k_b|i_b|t_b|i_j|i_p|i_ac|i_g|i_u|i_h|i_i|i_d|i_f|i_al|i_m|i_k|i_o|i_z|kc_a|hd_a|kc_ah|pg_ah|hd_ah|po_ah|kc_r|pg_r|hd_r|po_r|kc_c|pg_c|hd_c|po_c|kc_t|pg_t|hd_t|po_t|cg|ct|mro_a|v_bn|v_bf|v_bl=>k_is
  case mk_ba|mk_a|mk_ah|mk_r|mk_c|mk_t|l_ai=>first|k_is|kernel_rfl
  case ov_a|kitv_a|kany_a|ns_ai=>kernel_rfl
