import PyProof.Rows.All
import Wide.All
import OpenK.AllK
import PySem.Challenge.RW_rimnotes_k74_the_first_wrong_sign
set_option maxRecDepth 100000
set_option maxHeartbeats 4000000
set_option Elab.async false
set_option linter.all false
open List renaming length_map→Za,getElem?_map→Ze,getElem?_eq_some_iff→Zf,getElem?_eq_getElem→Zg,mem_map→Zh,mem_of_getElem?→Zk,length_append→Zp,length_range→Zr,mem_cons_of_mem→Zt,map_cons→Zu,mem_cons_self→Zv,mem_cons→Zy,lookup_cons→Zz,range→Z0,map_map→Z3,map_append→Z4,size_toArray→Z5,mem_singleton→Z6,mem_append→Z9,pairwise_map→ZB,length_cons→ZI,mem_range→ZL,mem_append_right→ZN,take_add_one→ZO,length_take→ZP,mem_filter→ZT,getElem?_append_left→ZW,take_of_length_le→ZY,nodup_append→Ja,getElem?_append_right→Jb,length_singleton→Jc,lookup→Jd,filter_cons_of_pos→Je,nodup_cons→Jf,getElem?_range→Jj,filter_cons_of_neg→Jk,filter_append→Jn,append_nil→Jx,take_length→Jz,not_mem_nil→J0,getD_eq_getElem?_getD→JA,getElem?_eq_none→JE,getElem?_set_ne→JI,range_succ→JM,any_cons→JP,length_drop→JR,filter_cons→JS,mem_iff_getElem?→JU,cons→JV,pairwise_append→Yb,filter_eq_nil_iff→Yk,find?_cons→Yl,length_filter_le→Yp,contains_iff_mem→Yq,foldl_append→Yt,Nodup→Yu,mem_append_left→Yw,nodup_range→Yz,flatMap_append→Y3,filterMap_cons→Y4,Pairwise→Y6,contains_cons→YB,length_eq_zero_iff→YE,eraseIdx_eq_take_drop_succ→YO,mem_flatMap→YV,all_eq_true→YW,length_nil→Qc,map_eq_nil_iff→Qf,map_congr_left→Qg,replicate→Qk,pairwise_cons→Qm,getElem_range→Qn,mem_of_find?_eq_some→Qp,length→Qq,flatMap_cons→Qt,all_cons→Qv,pairwise_singleton→Q2,length_eraseIdx_le→Q3,getElem?_replicate→Q4,getElem?_set_self→QB,flatMap_singleton→QC,find?_cons_of_pos→QD,find?_cons_of_neg→QE,filter_nil→QI,take_append_drop→QP,length_replicate→QQ,nodup_nil→QZ,Perm→Wg,length_reverse→Wj,map_take→Wn,map_drop→Wo,filterMap_map→Wr
open PySem.Str renaming ofString→Zb,join→YG,length→YU
open PySem renaming wpAny_bind→Zc,wpAny_pure→Zm,Spec→ZF,wpAny_mono→ZQ,wpAny_dictEntries→Jt,boot_len→Ju,wpAny_holding→J5,wpAny_truthy_bool→J8,mem_of_lookup→JB,wpAny_dictEpoch→JW,wpAny_loadPart_at→JZ,wpAny_call_entry→Yd,wpAny_typeNameOfWhole_keyiter→Ye,wpAny_Call_Name_kw→Yh,wpAny_newObj_type→Yr,wpAny_field→Yv,wpAny_typeOf→Yy,tupleKind_room_in1→Y9,wpAny_getItem_str_slice→YC,wpAny_callSpecial?_slot→YD,Within→YH,wpAny_isOneOf_keyiter→YQ,sizeLine_eq→YY,wpAny_specialOf→Qa,wpAny_passesOwn→Qb,wpAny_isSubtype_exc→Qd,wpAny_loadPart→Qj,wpAny_pyIter_enum→Qr,wpAny_attempt→Qu,wpAny_isInstance→Qz,wpAny_call→Q5,codeAny_mono→Q7,wpAny_execs_nil→QF,post_val_or_str→QG,wpAny_notOrdered_dict→QJ,builtinLookup_eq_fast→QK,wpAny_setField→QV,SetTable→QY,wpAny_standAt→Wk,call_meets→Wp
open PySem.W renaming Frag→Zd,mg_of→Zw,findIn→ZA,isFn→ZJ,mg_none_of→ZV,keepIn→Jp,fnOf→Js,kia_one→Jw,emptyDict→J9,hasDictIn→JK,plainGet→JQ,instObj→JX,plainOver→Ys,makesIn→Y7,codeIn→YI,callWith_K→Ql,nsIn→Q8,lookIn→QW,kitOne→QX,plainGet_of→Wh,mroIn→Wl
open PySem.Heap renaming get?_push_of_some→Zi,lt_size→Zq,get?_push_size→Z2,SameBut→ZK,get?_update_self→ZM,get?_update_other→Jo,size_push→Wa,get?_none_of_le→Wd
open Option renaming map_eq_some_iff→Zj,some→JD,isSome_map→JL,isNone_iff_eq_none→Y0,map_some→Y8,not_isSome→Qs,bind_some→Q0
open Nat renaming le_refl→Zl,le_trans→Z8,lt_of_lt_of_le→ZG,ne_of_lt→ZH,zero_le→ZZ,lt_trans→Jm,le_of_lt→J7,ne_of_gt→Yg,lt_of_le_of_lt→Yi,lt_irrefl→Y5,mul_le_mul→YJ,one_mul→QR,le_succ→QS,add_mul→QT,not_lt→Wq
open Or renaming inl→Zn,inr→ZX
open PySem.Value renaming ref→Zo,none→ZR,bool→Yf,builtin→Ym,str→Qy,type→Q6,int→Wf
open Bool renaming and_eq_true→Zs,false_ne_true→Z1,eq_iff_iff→ZU,eq_false_iff→Jg,false_eq_true→Jh,true_and→Jq,false_and→Jv,or_true→JF,or_eq_true→JY,not_eq_true'→Ya,or_false→Yc,false_or→Yo,and_false→YK,true_or→Q9
open PySem.SeqAt renaming EqAt→Zx,RcNeAt→Z7,RcAt→ZD
open PySem.PassesOwn renaming never→ZC
open Ne renaming symm→ZE
open PySem.F renaming plainAttrs_list→ZS,type_list_append→JG,slot_list_append→JH,slot_dict_keyiterator_next→JO,plainAttrs_str→Yj,type_list_pop→YR,slot_list_pop→YS,slot_list_getattribute→Qw,plainAttrs_dict→Q1,type_str_join→QM,slot_str_join→QN,slot_dict_get→QO
open PyProof.Rows renaming callWith_type1→Ji,slot_tuple_getitem→YN,strKind→Wc
open Sum renaming inr→Jl,inl→YF
open True renaming intro→Jr
open Array renaming getElem?_toList→Jy,length_toList→JC,getElem?_eq_getElem→Y2,map→Qh,mem_toList_iff→We
open False renaming elim→J6
open Prod renaming mk→JJ
open ForInStep renaming yield→JN
open PySem.Obj renaming mapSeq→JT,data_mapFields→YA,isFreed_of_fields→YT,mapFields→YX,data_mapDictKeys→YZ,dropNameByArray→Qe,dropName_eq→QH,isFreed_of_dict→Wi
open PySem.Paired renaming length→Yn
open PySem.Txt renaming slice→Yx
open PySem.Calls renaming call_function_entry→Y1,callWith_builtin→YM,spliced_cons→Qo
open Int renaming toNat_natCast→YL
open PUnit renaming unit→Qi
open LawfulBEq renaming eq_of_beq→Qx
open PyProof renaming noPylong_small→QA
open PySem.StrLaws renaming glued_eq_join→QL
open PySem.Data renaming fields→QU
open PySem.Builtin renaming sorted→Wb
open PySem.NameKind renaming free→Wm
namespace L2
open PySem PySem.Spec PyProof.Rows
variable {q0:Bool}
abbrev Key:=Sum Int Str
def xfh:Key->Value->Bool
 | .inl k,v=>Value.isInt k v
 | .inr x,v=>Value.isStrOf x v
def keyH (w:World):Key->Int
 | .inl k=>hashInt k
 | .inr x=>hashStr w x
theorem xbm:∀{k:Key}{v:Value},xfh k v=true->(∃ i t,k=YF i/\v=Wf i t)\/(∃ x t,k=Jl x/\v=Qy x t)
 | .inl i,v,h=>by
  obtain⟨t,e⟩:=Value.isInt_shape (k:=i) (v:=v) h;exact .inl ⟨i,t,rfl,e⟩
 | .inr x,v,h=>by
  obtain⟨t,e⟩:=Value.isStrOf_shape (x:=x) (v:=v) h;exact .inr ⟨x,t,rfl,e⟩
theorem xol (i:Int) (t:Tok):xfh (.inl i) (.int i t)=true:=by simp[xfh,Value.isInt]
theorem xpt (x:Str) (t:Tok):xfh (.inr x) (.str x t)=true:=by simp[xfh,Value.isStrOf]
theorem xum (a b:Int):decide ((YF a:Key)=YF b)=(a == b):=by
 by_cases e:a=b
 .subst e; simp
 .have h:¬ (YF a:Key)=YF b:=fun q=>e (YF.inj q);rw[decide_eq_false h];exact (beq_eq_false_iff_ne.mpr e).symm
theorem xu9 (a b:Str):decide ((Jl a:Key)=Jl b)=decide (a=b):=by
 by_cases e:a=b
 .subst e; simp
 .have h:¬ (Jl a:Key)=Jl b:=fun q=>e (Jl.inj q);rw[decide_eq_false h,decide_eq_false e]
theorem xu2 (a:Int) (b:Str):decide ((YF a:Key)=Jl b)=false:=decide_eq_false (fun q=>nomatch q)
theorem xuq (a:Str) (b:Int):decide ((Jl a:Key)=YF b)=false:=decide_eq_false (fun q=>nomatch q)
def xak (prog:Program) (w:World):PySem.KeyKind prog w Key where
 is:=xfh
 hash:=keyH w
 inj:=fun v a b ha hb=>by
  rcases xbm ha with⟨i,t,rfl,rfl⟩|⟨x,t,rfl,rfl⟩
  .rcases xbm hb with⟨j,u,rfl,e⟩|⟨y,u,rfl,e⟩
   .injection e with e1 _; rw[e1]
   .exact nomatch e
  .rcases xbm hb with⟨j,u,rfl,e⟩|⟨y,u,rfl,e⟩
   .exact nomatch e
   .injection e with e1 _; rw[e1]
 byValue:=fun k v h=>by
  rcases xbm h with⟨i,t,rfl,rfl⟩|⟨x,t,rfl,rfl⟩<;>rfl
 pyHash:=fun hv h=>by
  rcases xbm hv with⟨i,t,rfl,rfl⟩|⟨x,t,rfl,rfl⟩
  .exact wpAny_pyHash_int h
  .exact wpAny_pyHash_str h
 eqBool:=fun hu hv h=>by
  rcases xbm hu with⟨i,t,rfl,rfl⟩|⟨x,t,rfl,rfl⟩
  .rcases xbm hv with⟨j,u,rfl,rfl⟩|⟨y,u,rfl,rfl⟩
   .rw [xum] at h; exact wpAny_eqBool_int h
   .rw [xu2] at h; exact Zx.int_str i t y u _ _ _ _ h
  .rcases xbm hv with⟨j,u,rfl,rfl⟩|⟨y,u,rfl,rfl⟩
   .rw [xuq] at h; exact Zx.str_int x t j u _ _ _ _ h
   .rw [xu9] at h; exact wpAny_eqBool_str h
 «strs»:=fun k x t v h=>by
  rcases xbm h with⟨i,u,rfl,e⟩|⟨y,u,rfl,e⟩
  .exact nomatch e
  .injection e with e1 _
   subst e1;cases v<;>rfl
theorem xls (prog:Program) (w:World) (i:Int) (t:Tok):(xak prog w).is (.inl i) (.int i t)=true:=xol i t
theorem xlw (prog:Program) (w:World) (x:Str) (t:Tok):(xak prog w).is (.inr x) (.str x t)=true:=xpt x t
inductive V where
 | non|bl (b:Bool)|int (i:Int)|str (x:Str)|byt (b:Array UInt8)|flt (b:UInt64)|ref (a:Addr)|ty (n:String)
 deriving DecidableEq
def RelV:V->Value->Prop
 | .non,u=>u=ZR
 | .bl b,u=>u=Yf b
 | .int i,u=>∃ t,u=Wf i t
 | .str x,u=>∃ t,u=Qy x t
 | .byt b,u=>∃ t,u=Value.bytes b t
 | .flt b,u=>∃ t,u=Value.float b t
 | .ref a,u=>u=Zo a
 | .ty n,u=>u=Q6 n
abbrev Vals:List V->List Value->Prop:=Paired RelV
theorem Vals.length {xs:List V}{us:List Value} (r:Vals xs us):xs.length=us.length:=Yn r
theorem Vals.get:∀{xs:List V}{us:List Value}{i:Nat}{x:V},Vals xs us->xs[i]?=some x->∃ u,us[i]?=some u/\RelV x u
 | _,_,_,_,.nil,e=>by simp at e
 | _,_,0,_,.cons r _,e=>by simp at e; subst e; exact⟨_,rfl,r⟩
 | _,_,i+1,x,.cons _ t,e=>by
  obtain⟨u,h1,h2⟩:=Vals.get (i:=i) (x:=x) t (by simpa using e);exact⟨u,by simpa using h1,h2⟩
theorem Vals.append:∀{xs ys:List V}{us ws:List Value},Vals xs us->Vals ys ws->Vals (xs++ys) (us++ws)
 | _,_,_,_,.nil,s=>s
 | _,_,_,_,.cons r t,s=>.cons r (Vals.append t s)
theorem Vals.take:∀{xs:List V}{us:List Value} (n:Nat),Vals xs us->Vals (xs.take n) (us.take n)
 | _,_,0,_=>.nil
 | _,_,_+1,.nil=>.nil
 | _,_,n+1,.cons r t=>.cons r (Vals.take n t)
theorem Vals.drop:∀{xs:List V}{us:List Value} (n:Nat),Vals xs us->Vals (xs.drop n) (us.drop n)
 | _,_,0,r=>r
 | _,_,_+1,.nil=>.nil
 | _,_,n+1,.cons _ t=>Vals.drop n t
def RelO:Option V->Option Value->Prop
 | some v,some u=>RelV v u
 | none,none=>True
 | _,_=>False
def KV {κ:Type}:List (κ × V)->List (κ × Value)->Prop:=Paired fun (p:κ × V) (q:κ × Value)=>p.1=q.1/\RelV p.2 q.2
def kV:Key->V
 | .inl i=>.int i
 | .inr x=>.str x
inductive HO where
 /-- a list -/
 | lst (xs:List V)
 /-- a tuple (never changes) -/
 | tup (xs:List V)
 /-- a dict whose keys are ints and texts; one whose keys are tuples of ints and texts (the empty one is both) -/
 | dK (kvs:List (Key × V))|dT (kvs:List (List Key × V))
 /-- a set of ints: its members,its size -/
 | set (S:Int->Bool) (n:Nat)
 /-- an instance of the class at C,its dict at dx,its attributes -/
 | ins (C dx:Addr) (fs:List (Str × V))
 /-- the dict of the instance at x -/
 | own (x:Addr)
 /-- the dict of an exception -/
 | xd (fs:List (Str × V))
 /-- a bound method,f of x -/
 | met (f x:Addr)
 /-- a range object lo,lo+1,.. below hi -/
 | rng (lo hi:Int)
 /-- a thing that is known to the object (the script; a dict while a loop walks it): read,never written while it is so -/
 | frz (o:Obj) (u:HO)
 /-- a code object's table -/
 | tbl (ps:Array Value)
 /-- any other thing,by what is true of its one object (a def of one's own: SetO a S n:=HO.ext fun h=>..) -/
 | ext (φ:Heap->Prop)
abbrev Hp:=Addr->Option HO
def upd (H:Hp) (a:Addr) (o:HO):Hp:=fun b=>if b=a then some o else H b
theorem xh {H:Hp}{a:Addr}{o:HO}:upd H a o a=some o:=by unfold upd; rw[if_pos rfl]
theorem xg {H:Hp}{a b:Addr}{o:HO} (h:b≠a):upd H a o b=H b:=by unfold upd; rw[if_neg h]
theorem xe3 {H:Hp}{a:Addr}{o u:HO}:upd (upd H a o) a u=upd H a u:=by
 funext b; unfold upd; split<;>rfl
theorem xgj {H:Hp}{a b:Addr}{o u:HO} (h:H a=some o) (h':H b=some u) (d:o≠u):a≠b:=by
 intro e; subst e; rw[h] at h'; exact d (JD.inj h')
theorem xi {H:Hp}{a b:Addr}{o:HO} (h:H a=some o) (h':H b=none):a≠b:=by
 intro e; subst e; rw[h] at h'; cases h'
section
variable (P:Program) (w:World)
def xan (H:Hp) (h:Heap) (a:Addr):HO->Prop
  | .lst xs=>xs.length<=sizeLine/\∃(its:List Value) (n:Nat),Vals xs its/\h.get? a=some { cls:=.type "list",data:=.seq its.toArray n }
  | .tup xs=>xs.length<=sizeLine/\∃ its:List Value,Vals xs its/\IsTup h a its.toArray
  | .dK kvs=>kvs.length<=sizeLine/\(a == sysModules)=false/\∃ vs,KV kvs vs/\h.DictOf (xak P w) a vs
  | .dT kvs=>kvs.length<=sizeLine/\(a == sysModules)=false/\∃ xs:List (List Key × Addr × Value),
      Paired (fun (p:List Key × V) (q:List Key × Addr × Value)=>p.1=q.1/\H q.2.1=some (.tup (p.1.map kV))/\RelV p.2 q.2.2) kvs xs /\
      ∃ o es ep,h.get? a=some o/\o.ExactDict/\o.data=.dict es ep/\es.toList=xs.map (entryOfKey (tupleKind (xak P w)))/\(xs.map (·.1)).Nodup
  | .set S n=>h.SetOf (intKind P w) a S n
  | .ins C dx fs=>H dx=some (.own a)/\fs.length<=1000/\dx≠a/\h.get? a=some (JX C dx) /\
      ∃ mA,h.Ns1 dx mA/\(∀ f,RelO (fs.lookup f) (mA f))/\YH mA (fs.map (·.1))
  | .own _=>∃ o,h.get? a=some o
  | .xd fs=>∃ mA,h.Ns1 a mA/\∀ f,RelO (fs.lookup f) (mA f)
  | .rng lo hi=>∃ t u v,h.get? a=some { cls:=.type "range",data:=.fields #[.int lo t,.int hi u,.int 1 v] }
  | .frz o u=>h.get? a=some o/\xan H h a u
  | .tbl ps=>h.get? a=some { cls:=.none,data:=.fields ps }
  | .met f x=>h.get? a=some (PySem.W.methodObj (.ref f) (.ref x))
  | .ext φ=>φ h/\(∃ o,h.get? a=some o)/\∀ h1 h2:Heap,φ h1->(∀ o,h1.get? a=some o->h2.get? a=some o)->φ h2
def HOk (H:Hp) (h:Heap):Prop:=∀ a o,H a=some o->xan P w H h a o
end
section
variable {P:Program}{w:World}{H H':Hp}{h h':Heap}{a:Addr}{o:HO}
theorem xan.lt (x:xan P w H h a o):a<h.objs.size:=by
 cases o with
 | lst xs=>obtain⟨_,_,_,_,e⟩:=x; exact Zq e
 | tup xs=>obtain⟨_,_,_,p⟩:=x; exact p.lt
 | dK kvs=>obtain⟨_,_,_,_,o,_,_,e,_⟩:=x; exact Zq e
 | dT kvs=>obtain⟨_,_,_,_,o,_,_,e,_⟩:=x; exact Zq e
 | set S n=>obtain⟨o,_,_,_,e,_⟩:=x; exact Zq e
 | ins C dx fs=>obtain⟨_,_,_,e,_⟩:=x; exact Zq e
 | own y=>obtain⟨_,e⟩:=x; exact Zq e
 | xd fs=>obtain⟨_,⟨_,_,_,e,_⟩,_⟩:=x; exact Zq e
 | rng lo hi=>obtain⟨_,_,_,e⟩:=x; exact Zq e
 | frz ob u=>obtain⟨e,_⟩:=x; exact Zq e
 | tbl ps=>exact Zq (show h.get? a=some _ from x)
 | met f y=>exact Zq (show h.get? a=some _ from x)
 | ext φ=>obtain⟨_,⟨_,e⟩,_⟩:=x; exact Zq e
theorem Paired.mapP {α β:Type}{F G:α->β->Prop}:∀{l₁:List α}{l₂:List β},Paired F l₁ l₂->(∀ a b,F a b->G a b)->Paired G l₁ l₂
 | _,_,.nil,_=>.nil
 | _,_,.cons r t,f=>.cons (f _ _ r) (Paired.mapP t f)
theorem xan.stay (x:xan P w H h a o) (k:∀ b u,(b=a\/H b=some (.own a))->h.get? b=some u->h'.get? b=some u)
    (ho:∀ b,H b=some (.own a)->H' b=some (.own a)) (ht:∀ b xs,H b=some (.tup xs)->H' b=some (.tup xs)):xan P w H' h' a o:=by
  induction o with
  | lst xs=>obtain⟨z,its,n,r,e⟩:=x; exact⟨z,its,n,r,k _ _ (.inl rfl) e⟩
  | tup xs=>obtain⟨z,its,r,ob,e,c⟩:=x; exact⟨z,its,r,ob,k _ _ (.inl rfl) e,c⟩
  | dK kvs=>obtain⟨z,y,vs,r,ob,es,ep,e,c⟩:=x; exact⟨z,y,vs,r,ob,es,ep,k _ _ (.inl rfl) e,c⟩
  | dT kvs =>
    obtain⟨z,y,xs,r,ob,es,ep,e,c⟩:=x;exact⟨z,y,xs,Paired.mapP r fun p q z=>⟨z.1,ht _ _ z.2.1,z.2.2⟩,ob,es,ep,k _ _ (.inl rfl) e,c⟩
  | set S n=>obtain⟨ob,es,ep,t,e,c⟩:=x; exact⟨ob,es,ep,t,k _ _ (.inl rfl) e,c⟩
  | ins C dx fs =>
    obtain⟨d,z,ne,e,mA,⟨od,es,ep,e2,c⟩,r⟩:=x;exact⟨ho _ d,z,ne,k _ _ (.inl rfl) e,mA,⟨od,es,ep,k _ _ (.inr d) e2,c⟩,r⟩
  | own y=>obtain⟨ob,e⟩:=x; exact⟨ob,k _ _ (.inl rfl) e⟩
  | xd fs=>obtain⟨mA,⟨od,es,ep,e,c⟩,r⟩:=x; exact⟨mA,⟨od,es,ep,k _ _ (.inl rfl) e,c⟩,r⟩
  | rng lo hi=>obtain⟨t,u,v,e⟩:=x; exact⟨t,u,v,k _ _ (.inl rfl) e⟩
  | frz ob u ih=>obtain⟨e,q⟩:=x; exact⟨k _ _ (.inl rfl) e,ih q⟩
  | tbl ps =>
    have e:h.get? a=some { cls:=.none,data:=.fields ps }:=x;show h'.get? a=some { cls:=.none,data:=.fields ps };exact k a _ (.inl rfl) e
  | met f y =>
    have e:h.get? a=some (PySem.W.methodObj (.ref f) (.ref y)):=x;show h'.get? a=some (PySem.W.methodObj (.ref f) (.ref y));exact k a _ (.inl rfl) e
  | ext φ=>obtain⟨p,⟨o,e⟩,st⟩:=x; exact⟨st _ _ p fun o q=>k _ _ (.inl rfl) q,⟨o,k _ _ (.inl rfl) e⟩,st⟩
theorem HOk.lt (x:HOk P w H h) (e:H a=some o):a<h.objs.size:=(x a o e).lt
theorem HOk.fresh (x:HOk P w H h) (e:h.objs.size<=a):H a=none:=by
 cases q:H a with
 | none=>rfl
 | some u=>exact absurd (ZG (x.lt q) e) (Y5 _)
theorem HOk.kept (x:HOk P w H h) (k:∀ b u,h.get? b=some u->h'.get? b=some u):HOk P w H h':=fun a o e =>
 (x a o e).stay (fun b u _ q=>k b u q) (fun _ q=>q) fun _ _ q=>q
theorem HOk.laid (x:HOk P w H h) (k:∀ b u,h.get? b=some u->h'.get? b=some u) (hp:h.objs.size<=a) (new:xan P w (upd H a o) h' a o):HOk P w (upd H a o) h':=fun b u e=>by
 have hn:=x.fresh hp;by_cases hb:b=a
 .subst hb; rw[xh] at e; cases e; exact new
 .rw [xg hb] at e;exact (x b u e).stay (fun c v _ q=>k c v q) (fun c q=>by rw[xg (xi q hn)]; exact q) fun c xs q=>by rw[xg (xi q hn)]; exact q
end
def Rd (H:Hp) (a:Addr) (u:HO):Prop:=H a=some u\/∃ o,H a=some (.frz o u)
theorem Rd.ok {P:Program}{w:World}{H:Hp}{h:Heap}{a:Addr}{u:HO} (r:Rd H a u) (x:HOk P w H h):xan P w H h a u:=by
 rcases r with r|⟨o,r⟩
 .exact x a u r
 .obtain ⟨_,q⟩:=x a _ r;exact q
def Mut:Option HO->Prop
 | some (.lst _)=>True
 | some (.dK _)=>True
 | some (.dT _)=>True
 | some (.set _ _)=>True
 | some (.ins _ _ _)=>True
 | some (.ext _)=>True
 | _=>False
section
variable {P:Program}{w:World}{H:Hp}{h h':Heap}{x e:Addr}{o':HO}
theorem HOk.write (ok:HOk P w H h) (mu:Mut (H x)) (he:e=x\/H e=some (.own x)) (k:∀ b u,b≠e->h.get? b=some u->h'.get? b=some u) (heo:∃ u,h'.get? e=some u)
    (new:xan P w (upd H x o') h' x o'):HOk P w (upd H x o') h':=fun b u q=>by
  have nown:∀ c y,H c=some (.own y)->c≠x:=fun c y r z=>by subst z; rw[r] at mu; exact mu
  have ntup:∀ c xs,H c=some (.tup xs)->c≠x:=fun c xs r z=>by subst z; rw[r] at mu; exact mu
  by_cases hb:b=x
  . subst hb; rw[xh] at q; cases q; exact new
  . rw[xg hb] at q
    by_cases hbe:b=e
    . have q':H b=some (.own x):=by
        rcases he with z|z
        . exact absurd (hbe.trans z) hb
        . rw[hbe]; exact z
      rw[q] at q'; cases q';obtain⟨v,hv⟩:=heo;exact⟨v,by rw[hbe]; exact hv⟩
    . refine (ok b u q).stay (fun c v hc r=>k c v ?_ r) (fun c r=>by rw[xg (nown c b r)]; exact r) fun c xs r=>by rw[xg (ntup c xs r)]; exact r
      rcases hc with rfl|hc
      . exact hbe
      . rintro rfl
        rcases he with z|z
        . exact nown c b hc z
        . rw[hc] at z; cases z; exact hb rfl
end
structure Un (fs ex:List Addr) (H H':Hp) (h h':Heap):Prop where
 keep:∀ b o,h.get? b=some o->H b=none->b∉fs->b∉ex->h'.get? b=some o
 slot:∀ b o,h.get? b=some o->H b=none->b∈fs->b∉ex->∃ sl,h'.get? b=some { o with slots:=sl }
 free:∀ b o,h.get? b=some o->H b=none->b∉ex->H' b=none
 there:∀ b o,h.get? b=some o->b∉ex->∃ o',h'.get? b=some o'
 tups:∀ b xs,H b=some (.tup xs)->H' b=some (.tup xs)
 frzs:∀ b o u,H b=some (.frz o u)->H' b=some (.frz o u)
 tbls:∀ b ps,H b=some (.tbl ps)->∃ more,H' b=some (.tbl (ps++more))
section
variable {fs fs' ex ex':List Addr}{H H1 H2:Hp}{h h1 h2 h':Heap}{a x e:Addr}{o:HO}
theorem Un.any (u:Un fs ex H H1 h h1) {b:Addr}{ob:Obj} (q:h.get? b=some ob) (n:H b=none) (hx:b∉ex):∃ sl,h1.get? b=some { ob with slots:=sl }:=by
 by_cases hb:b∈fs
 .exact u.slot b ob q n hb hx
 .exact ⟨ob.slots,u.keep b ob q n hb hx⟩
theorem Un.kept (k:∀ b u,h.get? b=some u->h'.get? b=some u):Un fs ex H H h h' :=
 ⟨fun b ob q _ _ _=>k b ob q,fun b ob q _ _ _=>⟨ob.slots,k b ob q⟩,fun _ _ _ n _=>n,fun b ob q _=>⟨ob,k b ob q⟩,fun _ _ q=>q,fun _ _ _ q=>q,fun _ ps q=>⟨#[],by rw[q]; simp⟩⟩
theorem Un.refl:Un fs ex H H h h:=Un.kept fun _ _ q=>q
theorem Un.laid (k:∀ b u,h.get? b=some u->h'.get? b=some u) (hp:h.objs.size<=a) (hn:H a=none):Un fs ex H (upd H a o) h h' where
 keep:=fun b u q _ _ _=>k b u q
 slot:=fun b u q _ _ _=>⟨u.slots,k b u q⟩
 free:=fun b u q n _=>by rw[xg (ZH (ZG (Zq q) hp))]; exact n
 there:=fun b u q _=>⟨u,k b u q⟩
 tups:=fun b xs q=>by rw[xg (xi q hn)]; exact q
 frzs:=fun b u xs q=>by rw[xg (xi q hn)]; exact q
 tbls:=fun b ps q=>⟨#[],by rw[xg (xi q hn),q]; simp⟩
theorem Un.write (mu:Mut (H x)) (he:e=x\/H e=some (.own x)) (k:∀ b u,b≠e->h.get? b=some u->h'.get? b=some u) (heo:∃ u,h'.get? e=some u):Un fs ex H (upd H x o) h h':=by
 have hx:∀ b,H b=none->b≠x:=fun b n z=>by subst z; rw[n] at mu; exact mu
 have hb:∀ b,H b=none->b≠e:=fun b n z=>by
  subst z;rcases he with r|r
  .exact hx b n r
  .rw [n] at r; cases r
 have hm:∀ b u,H b=some u->¬ Mut (some u)->b≠x:=fun b u q nm z=>by subst z; rw[q] at mu; exact nm mu
 refine⟨fun b u q n _ _=>k b u (hb b n) q,fun b u q n _ _=>⟨u.slots,k b u (hb b n) q⟩,fun b u q n _=>by rw[xg (hx b n)]; exact n,fun b u q _=>?_,
  fun b xs q=>by rw[xg (hm b _ q fun z=>z)]; exact q,fun b u xs q=>by rw[xg (hm b _ q fun z=>z)]; exact q,fun b ps q=>⟨#[],by rw[xg (hm b _ q fun z=>z),q]; simp⟩⟩
 by_cases hbe:b=e
 .subst hbe; exact heo
 .exact ⟨u,k b u hbe q⟩
end
def trk (h:Heap) (H:Hp):List Addr:=(Z0 h.objs.size).filter fun a=>(H a).isSome
def hidT (h:Heap) (H:Hp):Heap:=PySem.W.hideAll h (trk h H)
theorem xox (h:Heap) (H:Hp):(hidT h H).objs.size=h.objs.size:=PySem.W.hideAll_size _ _
theorem xq9 {h:Heap}{H:Hp}{b:Addr}{o:Obj} (e:h.get? b=some o) (n:H b=none):(hidT h H).get? b=some o :=
 PySem.W.hideAll_get _ e fun hm=>by
  have q:(H b).isSome=true:=(ZT.mp hm).2;rw[n] at q; simp at q
theorem xr2 {h:Heap}{H:Hp}{b:Addr}{o:Obj} (e:(hidT h H).get? b=some o):h.get? b=some o/\H b=none:=by
 have e':h.get? b=some o:=PySem.W.of_hideAll (trk h H) e;refine⟨e',?_⟩;cases q:H b with
 | none=>rfl
 | some x =>
  have hm:b∈trk h H:=ZT.mpr ⟨ZL.mpr (Zq e'),by simp[q]⟩;have z:(hidT h H).get? b=none:=PySem.W.hideAll_none (trk h H) hm;rw[z] at e; cases e
def xtl (g h:Heap) (L:Addr):List (Addr × Obj):=(Z0 h.objs.size).filterMap fun a=>if a=L\/(g.get? a).isSome=true then none else (h.get? a).map fun o=>(a,o)
def rest (g h:Heap) (L d:Addr):List (Addr × Obj):=(xtl g h L).filter fun p=>decide (p.1≠d)
structure Mod (K:Zd) (mg:Str->Option Value) (base:Heap):Prop where
 kin:K.In base
 glob:base.Ns mainGlobals mg
 blt:∃ mb,base.Ns builtinsNs mb/\∀ x:Str,x≠"__name__"->mb x=bootBuiltins x
 nolimit:base.NoLimit
structure Cx where
 prog:Program
 w:World
 K:Zd
 mg:Str->Option Value
 base:Heap
 A:Around
 N:List Str
 s₀:Shared
 H₀:Hp
 env:Env
 outer:List Env
 stack:List Env
 ex:List Addr
 fn:Str->Bool
 calm:Bool
 pn:List (Addr × Obj)
 xe:Value->Shared->Prop
def frs (l:List Env):List Addr:=l.filterMap (·.frame)
abbrev Cx.fs (X:Cx):List Addr:=frs X.outer
def Vis (sc:Scope) (x:Str):Prop:=sc.names.lookup x=some .local\/sc.names.lookup x=some .cell\/sc.names.lookup x=some .free
def Loc (sc:Scope) (x:Str):Prop:=sc.names.lookup x=some .local\/sc.names.lookup x=some .cell
def Look (env:Env) (h:Heap) (m:Str->Option Value) (x:Str) (u:Value):Prop :=
 (env.kindOf x=some .local/\m x=some u)\/((env.kindOf x=some .cell\/env.kindOf x=some .free)/\∃ c,env.cells.lookup x=some c/\h.IsCell c (some u))
structure Cx.Ok (X:Cx):Prop where
 mod:Mod X.K X.mg X.base
 kind:X.env.scope.kind=.function
 glob:X.env.globals=mainGlobals
 blt:X.env.builtins=builtinsNs
 above:X.s₀.heap.objs.size<=X.env.locals
 inj:∀ x y c,X.env.cells.lookup x=some c->X.env.cells.lookup y=some c->x=y
 has:∀ x,(X.env.kindOf x=some .cell\/X.env.kindOf x=some .free)->∃ c,X.env.cells.lookup x=some c
 cab:∀ x c,X.fn x=true->X.env.cells.lookup x=some c->X.s₀.heap.objs.size<=c
 hd:X.calm=true->X.A.handled=none
 frames:X.A.frames=some X.stack
 stk:X.stack=X.outer\/(X.stack=X.env::X.outer/\X.env.frame=some X.env.locals)
 exf:∀ b∈X.ex,b≠X.env.locals/\∀ x c,X.env.cells.lookup x=some c->c≠b
 bs:∀ b o,X.base.get? b=some o->X.s₀.heap.get? b=some o/\X.H₀ b=none
 bsz:X.base.objs.size<=X.s₀.heap.objs.size
 noex:∀ b o,X.base.get? b=some o->b∉X.ex
 exfs:∀ b∈X.ex,b∉X.fs
 funs:X.s₀.heap.FunFrames X.base X.outer
 frf:∀ b∈X.fs,X.H₀ b=none
structure Inv (X:Cx) (pins:List (Addr × Obj)) (Z:List (Option V)) (H:Hp) (s:Shared):Prop where
 ok:X.Ok
 os:s.os=X.s₀.os
 bare:AllBare s.gens
 base:Un X.fs X.ex X.H₀ H X.s₀.heap s.heap
 loc:∃ m,s.heap.Ns X.env.locals m/\∀(i:Nat) (x:Str) (v:V),X.N[i]?=some x->Z[i]?=some (some v)->Vis X.env.scope x->∃ u,RelV v u/\Look X.env s.heap m x u
 cell:∀ x c,X.env.cells.lookup x=some c->∃ v,s.heap.IsCell c v
 free:H X.env.locals=none
 freeC:∀ x c,X.env.cells.lookup x=some c->H c=none
 pin:∀ p∈X.pn++pins,s.heap.get? p.1=some p.2/\H p.1=none/\p.1≠X.env.locals/\p.1∉X.fs/\∀ v,p.2.data≠.cell v
 hok:HOk X.prog X.w H s.heap
 len:Z.length=X.N.length
section
variable {X:Cx}{pins:List (Addr × Obj)}{Z:List (Option V)}{H H':Hp}{s:Shared}{h':Heap}
theorem Cx.Ok.nofr (ok:X.Ok) {b:Addr}{o:Obj} (e:X.base.get? b=some o):b∉X.fs:=fun hb=>by
 have:=(ok.funs.mem hb).1;rw[e] at this; cases this
theorem Inv.bs (I:Inv X pins Z H s):∀ b o,X.base.get? b=some o->s.heap.get? b=some o/\H b=none:=fun b o e =>
 ⟨I.base.keep b o (I.ok.bs b o e).1 (I.ok.bs b o e).2 (I.ok.nofr e) (I.ok.noex b o e),I.base.free b o (I.ok.bs b o e).1 (I.ok.bs b o e).2 (I.ok.noex b o e)⟩
theorem Inv.bk (I:Inv X pins Z H s):∀ b o,X.base.get? b=some o->s.heap.get? b=some o:=fun b o e=>(I.bs b o e).1
theorem Inv.mod (I:Inv X pins Z H s):Mod X.K X.mg X.base:=I.ok.mod
theorem Inv.kIn (I:Inv X pins Z H s):X.K.In s.heap:=I.ok.mod.kin.keeps I.bk
theorem Inv.fr (I:Inv X pins Z H s):∃ m,Fr X.base X.env.locals s.heap m :=
 let ⟨m,hn,_⟩:=I.loc
 ⟨m,hn,I.bk,Z8 I.ok.bsz I.ok.above⟩
theorem Inv.lt (I:Inv X pins Z H s):X.env.locals<s.heap.objs.size:=let ⟨_,hn,_⟩:=I.loc; hn.lt
theorem Inv.sz (I:Inv X pins Z H s):X.s₀.heap.objs.size<=s.heap.objs.size:=Z8 I.ok.above (J7 I.lt)
theorem Inv.nofs (I:Inv X pins Z H s) {a:Addr} (h:s.heap.objs.size<=a):a∉X.fs:=fun hb=>by
 obtain⟨_,o,ho,_⟩:=I.ok.funs.mem hb;exact absurd (ZG (Zq ho) (Z8 I.sz h)) (Y5 _)
theorem Inv.cne (I:Inv X pins Z H s):∀ x c,X.env.cells.lookup x=some c->c≠X.env.locals:=fun x c e z=>by
 obtain⟨v,o,ho,hd⟩:=I.cell x c e;obtain⟨m,⟨o',es,ep,ho',hd',_⟩,_⟩:=I.loc;rw[z,ho'] at ho; cases ho; rw[hd'] at hd; cases hd
theorem Inv.funs (I:Inv X pins Z H s):s.heap.FunFrames X.base X.outer:=by
 have all:∀(l:List Env),(∀ b∈frs l,b∈X.fs)->X.s₀.heap.FunFrames X.base l->s.heap.FunFrames X.base l:=by
  intro l
  induction l with
  | nil=>intro _ _; trivial
  | cons env r ih =>
   intro hs hl;obtain⟨hk,⟨L,o,hf,hn,ho,hd⟩,hr⟩:=hl;have hL:L∈X.fs:=hs L (by unfold frs; rw[Y4,hf]; exact Zv);obtain⟨sl,e⟩:=I.base.slot L o ho (I.ok.frf L hL) hL fun z=>I.ok.exfs L z hL
   exact⟨hk,⟨L,_,hf,hn,e,hd⟩,ih (fun b hb=>hs b (by unfold frs; rw[Y4,hf]; exact Zt _ hb)) hr⟩
 exact all X.outer (fun _ hb=>hb) I.ok.funs
theorem Inv.stack (I:Inv X pins Z H s):s.heap.FunFrames X.base X.stack:=by
 rcases I.ok.stk with e|⟨e,hf⟩
 .rw [e]; exact I.funs
 .rw [e];obtain⟨m,hn,_⟩:=I.loc;refine .cons (by rw[I.ok.kind]; decide) hf hn ?_ I.funs;exact Wd (Z8 I.ok.bsz I.ok.above)
theorem Inv.stkSub (I:Inv X pins Z H s):∀ b∈frs X.stack,b∈X.env.locals::X.fs:=fun b hb=>by
 rcases I.ok.stk with e|⟨e,hf⟩
 .rw [e] at hb; exact Zt _ hb
 .rw [e] at hb;unfold frs at hb;rw[Y4,hf] at hb;exact hb
theorem Inv.stkFree (I:Inv X pins Z H s):∀ b∈frs X.stack,H b=none:=fun b hb=>by
 rcases Zy.mp (I.stkSub b hb) with e|hb
 .rw [e]; exact I.free
 .obtain ⟨_,o,ho,_⟩:=I.ok.funs.mem hb;exact I.base.free b o ho (I.ok.frf b hb) fun z=>I.ok.exfs b z hb
theorem Inv.step {g':Array GenState}{t':Nat}{d':Drawn}{ch:List Addr} (I:Inv X pins Z H s)
    (hch:∀ b∈ch,(b∈X.ex\/X.s₀.heap.objs.size<=b)/\b≠X.env.locals/\(∀ x c,X.env.cells.lookup x=some c->c≠b)/\∀ p∈X.pn++pins,p.1≠b)
    (keep:∀ b o,b≠X.env.locals->b∉X.fs->b∉ch->s.heap.get? b=some o->H b=none->h'.get? b=some o)
    (slot:∀ b o,b≠X.env.locals->b∈X.fs->b∉ch->s.heap.get? b=some o->H b=none->∃ sl,h'.get? b=some { o with slots:=sl }) (free:∀ b o,b∉ch->s.heap.get? b=some o->H b=none->H' b=none)
    (there:∀ b o,b∉ch->s.heap.get? b=some o->∃ o',h'.get? b=some o')
    (tups:∀ b xs,H b=some (.tup xs)->H' b=some (.tup xs)) (frzs:∀ b o u,H b=some (.frz o u)->H' b=some (.frz o u)) (tbls:∀ b ps,H b=some (.tbl ps)->∃ more,H' b=some (.tbl (ps++more)))
    (ns:∀ m,s.heap.Ns X.env.locals m->h'.Ns X.env.locals m) (hok:HOk X.prog X.w H' h') (hg:AllBare g') :
    Inv X pins Z H' { s with heap:=h',gens:=g',drawn:=d',toks:=t' }:=by
  have neL:∀ b o,X.s₀.heap.get? b=some o->b≠X.env.locals:=fun b o e=>ZH (ZG (Zq e) I.ok.above);have neC:∀ b o,X.s₀.heap.get? b=some o->b∉X.ex->b∉ch:=fun b o e hx hb=>by
    rcases (hch b hb).1 with z|z
    . exact hx z
    . exact absurd (ZG (Zq e) z) (Y5 _)
  have cellK:∀ x c,X.env.cells.lookup x=some c->∀ v,s.heap.IsCell c v->h'.IsCell c v:=fun x c e v ⟨o,ho,hd⟩=>by
    have nch:c∉ch:=fun z=>(hch c z).2.2.1 x c e rfl;by_cases hc:c∈X.fs
    . obtain⟨sl,q⟩:=slot c o (I.cne x c e) hc nch ho (I.freeC x c e)
      exact⟨_,q,hd⟩
    . exact⟨o,keep c o (I.cne x c e) hc nch ho (I.freeC x c e),hd⟩
  refine⟨I.ok,I.os,hg,⟨fun b o e n hb hx=>?_,fun b o e n hb hx=>?_,fun b o e n hx=>?_,fun b o e hx=>?_,fun b xs e=>tups b xs (I.base.tups b xs e),fun b o xs e=>frzs b o xs (I.base.frzs b o xs e),fun b ps e=>?_⟩,?_,fun x c e=>?_,?_,fun x c e=>?_,fun p hp=>?_,hok,I.len⟩
  . exact keep b o (neL b o e) hb (neC b o e hx) (I.base.keep b o e n hb hx) (I.base.free b o e n hx)
  . obtain⟨sl,e1⟩:=I.base.slot b o e n hb hx
    obtain⟨sl',e2⟩:=slot b _ (neL b o e) hb (neC b o e hx) e1 (I.base.free b o e n hx);exact⟨sl',e2⟩
  . obtain⟨o',e1⟩:=I.base.there b o e hx
    exact free b o' (neC b o e hx) e1 (I.base.free b o e n hx)
  . obtain⟨o',e1⟩:=I.base.there b o e hx
    exact there b o' (neC b o e hx) e1
  . obtain⟨m1,e1⟩:=I.base.tbls b ps e
    obtain⟨m2,e2⟩:=tbls b _ e1;exact⟨m1++m2,by rw[e2,Array.append_assoc]⟩
  . obtain⟨m,hn,hl⟩:=I.loc
    refine⟨m,ns m hn,fun i x v e1 e2 e3=>?_⟩;obtain⟨u,r,l⟩:=hl i x v e1 e2 e3;refine⟨u,r,?_⟩;rcases l with l|⟨k,c,e,z⟩
    . exact .inl l
    . exact .inr ⟨k,c,e,cellK x c e _ z⟩
  . obtain⟨v,z⟩:=I.cell x c e
    exact⟨v,cellK x c e v z⟩
  . obtain⟨m,⟨o,_,_,ho,_⟩,_⟩:=I.loc
    exact free _ o (fun z=>(hch _ z).2.1 rfl) ho I.free
  . obtain⟨v,o,ho,hd⟩:=I.cell x c e
    exact free c o (fun z=>(hch c z).2.2.1 x c e rfl) ho (I.freeC x c e)
  . obtain⟨e,n,ne,nf,d⟩:=I.pin p hp
    have nch:p.1∉ch:=fun z=>(hch p.1 z).2.2.2 p hp rfl;exact⟨keep p.1 p.2 ne nf nch e n,free p.1 p.2 nch e n,ne,nf,d⟩
theorem Inv.un {t':Nat} (I:Inv X pins Z H s) (u:Un X.fs [] H H' s.heap h') (hok:HOk X.prog X.w H' h'):Inv X pins Z H' { s with heap:=h',toks:=t' }:=by
 obtain⟨m,⟨o,es,ep,ho,r⟩,_⟩:=id I.loc;obtain⟨sl,hL⟩:=u.any ho I.free (by simp);exact I.step (g':=s.gens) (d':=s.drawn) (ch:=[]) (fun _ z=>nomatch z) (fun b o _ hb _ e n=>u.keep b o e n hb (by simp)) (fun b o _ hb _ e n=>u.slot b o e n hb (by simp)) (fun b o _ e n=>u.free b o e n (by simp)) (fun b o _ e=>u.there b o e (by simp)) u.tups u.frzs u.tbls (fun m' hm=>by
  obtain⟨o',es',ep',ho',r'⟩:=hm;rw[ho] at ho'; cases ho';exact⟨_,es',ep',hL,r'⟩) hok I.bare
theorem Inv.call {g':Array GenState}{t':Nat}{d':Drawn}{ch:List Addr} (I:Inv X pins Z H s) (u:Un (frs X.stack) ch H H' s.heap h') (hok:HOk X.prog X.w H' h') (hg:AllBare g')
    (hch:∀ b∈ch,(b∈X.ex\/X.s₀.heap.objs.size<=b)/\b≠X.env.locals/\(∀ x c,X.env.cells.lookup x=some c->c≠b)/\∀ p∈X.pn++pins,p.1≠b) :
    Inv X pins Z H' { s with heap:=h',gens:=g',drawn:=d',toks:=t' }:=by
  obtain⟨m,⟨o,es,ep,ho,r⟩,_⟩:=id I.loc;obtain⟨sl,hL⟩:=u.any ho I.free fun z=>(hch _ z).2.1 rfl
  exact I.step (ch:=ch) hch (fun b o hL hb hc e n=>u.keep b o e n (fun z=>(Zy.mp (I.stkSub b z)).elim hL hb) hc) (fun b o _ _ hc e n=>u.any e n hc) (fun b o hc e n=>u.free b o e n hc) (fun b o hc e=>u.there b o e hc) u.tups u.frzs u.tbls (fun m' hm=>by
    obtain⟨o',es',ep',ho',r'⟩:=hm;rw[ho] at ho'; cases ho';exact⟨_,es',ep',hL,r'⟩) hok hg
theorem Inv.turned {t':Nat}{it:Addr} (I:Inv X pins Z H s) (k:∀ b o,b≠it->s.heap.get? b=some o->h'.get? b=some o) (hn:H it=none) (hL:it≠X.env.locals)
    (h1:it∈X.ex\/X.s₀.heap.objs.size<=it) (h2:∀ x c,X.env.cells.lookup x=some c->c≠it) (h3:∀ p∈X.pn++pins,p.1≠it):Inv X pins Z H { s with heap:=h',toks:=t' }:=by
  have nit:∀ b u,H b=some u->b≠it:=fun b u e z=>by rw[z,hn] at e; cases e
  refine I.step (g':=s.gens) (d':=s.drawn) (ch:=[it]) (fun b hb=>?_) (fun b o _ _ hc e _=>k b o (fun z=>hc (by simp[z])) e) (fun b o _ _ hc e _=>⟨o.slots,k b o (fun z=>hc (by simp[z])) e⟩) (fun _ _ _ _ n=>n)
    (fun b o hc e=>⟨o,k b o (fun z=>hc (by simp[z])) e⟩) (fun _ _ e=>e) (fun _ _ _ e=>e) (fun b ps e=>⟨#[],by rw[e]; simp⟩) (fun m hm=>?_) (fun b u e=>?_) I.bare
  . have e:b=it:=by simpa using hb
    subst e;exact⟨h1,hL,h2,h3⟩
  . obtain⟨o,es,ep,ho,r⟩:=hm
    exact⟨o,es,ep,k _ o (ZE hL) ho,r⟩
  . refine (I.hok b u e).stay (fun c v hc q=>k c v ?_ q) (fun _ q=>q) fun _ _ q=>q
    rcases hc with z|z
    . rw[z]; exact nit b u e
    . exact nit c _ z
theorem Inv.tok (I:Inv X pins Z H s) (t:Nat):Inv X pins Z H { s with toks:=t }:=I.un (h':=s.heap) (t':=t) Un.refl I.hok
theorem Inv.kept {t':Nat} (I:Inv X pins Z H s) (k:∀ b u,s.heap.get? b=some u->h'.get? b=some u):Inv X pins Z H { s with heap:=h',toks:=t' }:=I.un (Un.kept k) (I.hok.kept k)
theorem Inv.laid {a:Addr}{o:HO}{t':Nat} (I:Inv X pins Z H s) (k:∀ b u,s.heap.get? b=some u->h'.get? b=some u) (hp:s.heap.objs.size<=a) (new:xan X.prog X.w (upd H a o) h' a o) :
    Inv X pins Z (upd H a o) { s with heap:=h',toks:=t' }:=I.un (Un.laid k hp (I.hok.fresh hp)) (I.hok.laid k hp new)
theorem Inv.write {x e:Addr}{o:HO}{t':Nat} (I:Inv X pins Z H s) (mu:Mut (H x)) (he:e=x\/H e=some (.own x)) (k:∀ b u,b≠e->s.heap.get? b=some u->h'.get? b=some u) (heo:∃ u,h'.get? e=some u)
    (new:xan X.prog X.w (upd H x o) h' x o):Inv X pins Z (upd H x o) { s with heap:=h',toks:=t' }:=I.un (Un.write mu he k heo) (I.hok.write mu he k heo new)
theorem Inv.weak {σ':List (Option V)} (I:Inv X pins Z H s) (hl:σ'.length=Z.length) (w:∀(i:Nat) v,σ'[i]?=some (some v)->Z[i]?=some (some v)):Inv X pins σ' H s :=
 ⟨I.ok,I.os,I.bare,I.base,let ⟨m,hn,hl'⟩:=I.loc; ⟨m,hn,fun i x v e1 e2 e3=>hl' i x v e1 (w i v e2) e3⟩,I.cell,I.free,I.freeC,I.pin,I.hok,hl.trans I.len⟩
theorem Inv.pins_of {pins':List (Addr × Obj)} (I:Inv X pins Z H s) (h:∀ p∈pins',s.heap.get? p.1=some p.2/\H p.1=none/\p.1≠X.env.locals/\p.1∉X.fs/\∀ v,p.2.data≠.cell v):Inv X pins' Z H s :=
 ⟨I.ok,I.os,I.bare,I.base,I.loc,I.cell,I.free,I.freeC,fun p hp=>(Z9.mp hp).elim (fun z=>I.pin p (Yw _ z)) (h p),I.hok,I.len⟩
theorem xg6 {N:List Str} (hN:N.Nodup) {i j:Nat}{x:Str} (a:N[i]?=some x) (b:N[j]?=some x):i=j:=by
 obtain⟨h1,e1⟩:=Zf.mp a;obtain⟨h2,e2⟩:=Zf.mp b;exact (List.getElem_inj hN).mp (e1.trans e2.symm)
theorem xjc {M:Model}{A:Around}{E:Value->Shared->Prop}{i:Nat}{x:Str}{v:V}{u:Value}{Q:Unit->Shared->Prop} (I:Inv X pins Z H s) (hN:X.N.Nodup) (hi:X.N[i]?=some x) (hx:Loc X.env.scope x) (r:RelV v u)
    (h:∀ s',Inv X pins (Z.set i (some v)) H s'->(∃ a,ZK a s.heap s'.heap/\(a=X.env.locals\/X.env.cells.lookup x=some a))->Q () s') (hf:X.fn x=true\/X.env.scope.names.lookup x=some .local:=by first|exact .inl rfl|exact .inr rfl|assumption):wpAny M A (storeName X.env x u) Q E s:=by
  obtain⟨m,hn,hl⟩:=id I.loc;have hcls:(X.env.scope.kind == .class||(X.env.scope.kind == .module&&X.env.locals != X.env.globals))=false:=by rw[I.ok.kind]; rfl
  have hiσ:i<Z.length:=by rw[I.len]; exact (Zf.mp hi).1
  have cne:=I.cne;have tracked:∀{a:Addr}{h':Heap},(∃ o,s.heap.get? a=some o/\H a=none)->ZK a s.heap h'->HOk X.prog X.w H h':=fun {a h'} ha hs b ob e=>by
    obtain⟨_,_,hfree⟩:=ha;refine (I.hok b ob e).stay (fun c w' hc q=>(hs.2 c ?_).trans q) (fun _ q=>q) fun _ _ q=>q;rintro rfl;rcases hc with rfl|hc
    . rw[hfree] at e; cases e
    . rw[hfree] at hc; cases hc
  rcases hx with hk|hk
  . refine wpAny_storeName_local hk hn (fun h' hn' hs=>?_) hcls
    obtain⟨oL,_,_,hoL,_⟩:=id hn;refine h _ ⟨I.ok,I.os,I.bare,⟨fun b o e n hb hx=>?_,fun b o e n hb hx=>?_,I.base.free,fun b o e hx=>?_,I.base.tups,I.base.frzs,I.base.tbls⟩,⟨_,hn',fun j y v' e1 e2 e3=>?_⟩,fun y c e=>?_,I.free,I.freeC,fun p hp=>?_,tracked ⟨oL,hoL,I.free⟩ hs,by simpa using I.len⟩ ⟨_,hs,.inl rfl⟩
    . exact (hs.2 b (ZH (ZG (Zq e) I.ok.above))).trans (I.base.keep b o e n hb hx)
    . obtain⟨sl,e1⟩:=I.base.slot b o e n hb hx
      exact⟨sl,(hs.2 b (ZH (ZG (Zq e) I.ok.above))).trans e1⟩
    . obtain⟨o',e1⟩:=I.base.there b o e hx
      exact⟨o',(hs.2 b (ZH (ZG (Zq e) I.ok.above))).trans e1⟩
    . by_cases hj:j=i
      . subst hj
        rw[hi] at e1; cases e1;rw[QB hiσ] at e2;cases e2;exact⟨u,r,.inl ⟨hk,by simp⟩⟩
      . rw[JI (ZE hj)] at e2
        obtain⟨u',r',q⟩:=hl j y v' e1 e2 e3;refine⟨u',r',?_⟩;rcases q with⟨k,e⟩|⟨k,c,e,z⟩
        . refine .inl ⟨k,?_⟩
          have:y≠x:=fun e=>hj (xg6 hN e1 (e▸hi));simp[this,e]
        . exact .inr ⟨k,c,e,z.sameBut hs (cne y c e)⟩
    . obtain⟨w',z⟩:=I.cell y c e
      exact⟨w',z.sameBut hs (cne y c e)⟩
    . obtain⟨e,n,ne,nf,d⟩:=I.pin p hp
      exact⟨(hs.2 p.1 ne).trans e,n,ne,nf,d⟩
  . have hfn:X.fn x=true:=by
      rcases hf with z|z
      . exact z
      . rw[z] at hk; cases hk
    obtain⟨c,hc⟩:=I.ok.has x (.inl hk);obtain⟨w',z⟩:=I.cell x c hc;refine wpAny_storeName_cell I.ok.kind hk hc z (fun h' hc' hs=>?_);obtain⟨oc,hoc,hocd⟩:=id z;refine h { s with heap:=h' } ⟨I.ok,I.os,I.bare,⟨fun b o e n hb hx=>?_,fun b o e n hb hx=>?_,I.base.free,fun b o e hx=>?_,I.base.tups,I.base.frzs,I.base.tbls⟩,⟨m,hn.sameBut hs (ZE (cne x c hc)),fun j y v' e1 e2 e3=>?_⟩,fun y c' e=>?_,I.free,I.freeC,fun p hp=>?_,tracked ⟨oc,hoc,I.freeC x c hc⟩ hs,by simpa using I.len⟩ ⟨c,hs,.inr hc⟩
    . exact (hs.2 b (ZH (ZG (Zq e) (I.ok.cab x c hfn hc)))).trans (I.base.keep b o e n hb hx)
    . obtain⟨sl,e1⟩:=I.base.slot b o e n hb hx
      exact⟨sl,(hs.2 b (ZH (ZG (Zq e) (I.ok.cab x c hfn hc)))).trans e1⟩
    . obtain⟨o',e1⟩:=I.base.there b o e hx
      exact⟨o',(hs.2 b (ZH (ZG (Zq e) (I.ok.cab x c hfn hc)))).trans e1⟩
    . by_cases hj:j=i
      . subst hj
        rw[hi] at e1; cases e1;rw[QB hiσ] at e2;cases e2;exact⟨u,r,.inr ⟨.inl hk,c,hc,hc'⟩⟩
      . rw[JI (ZE hj)] at e2
        obtain⟨u',r',q⟩:=hl j y v' e1 e2 e3;refine⟨u',r',?_⟩;rcases q with q|⟨k,c',e,z'⟩
        . exact .inl q
        . refine .inr ⟨k,c',e,z'.sameBut hs ?_⟩
          rintro rfl;exact hj (xg6 hN e1 (I.ok.inj _ _ _ e hc▸hi))
    . by_cases hcc:c'=c
      . subst hcc; exact⟨_,hc'⟩
      . obtain⟨w2,z2⟩:=I.cell y c' e
        exact⟨w2,z2.sameBut hs hcc⟩
    . obtain⟨e,n,ne,nf,d⟩:=I.pin p hp
      refine⟨(hs.2 p.1 ?_).trans e,n,ne,nf,d⟩;intro q;rw[q,hoc] at e;have q':oc=p.2:=JD.inj e;exact d w' (by rw[<- q']; exact hocd)
theorem xg3 {M:Model}{A:Around}{E:Value->Shared->Prop}{i:Nat}{x:Str}{v:V}{u:Value}{Q:Unit->Shared->Prop} (I:Inv X pins Z H s) (hN:X.N.Nodup) (hi:X.N[i]?=some x) (hx:Loc X.env.scope x) (r:RelV v u)
    (h:∀ s',Inv X pins (Z.set i (some v)) H s'->Q () s') (hf:X.fn x=true\/X.env.scope.names.lookup x=some .local:=by first|exact .inl rfl|exact .inr rfl|assumption):wpAny M A (storeName X.env x u) Q E s :=
  xjc I hN hi hx r (fun s' I' _=>h s' I') hf
theorem Inv.call' {s':Shared}{ch:List Addr} (I:Inv X pins Z H s) (ho:s'.os=s.os) (u:Un (frs X.stack) ch H H' s.heap s'.heap) (hok:HOk X.prog X.w H' s'.heap) (hg:AllBare s'.gens)
    (hch:∀ b∈ch,(b∈X.ex\/X.s₀.heap.objs.size<=b)/\b≠X.env.locals/\(∀ x c,X.env.cells.lookup x=some c->c≠b)/\∀ p∈X.pn++pins,p.1≠b):Inv X pins Z H' s':=by
  obtain⟨h',g',d',t',o'⟩:=s';have e:o'=s.os:=ho;subst e;exact I.call (g':=g') (t':=t') (d':=d') u hok hg hch
end
abbrev XK:=Addr->Addr->Hp->Prop
abbrev St:=List (Option V)
abbrev VK:=V->Hp->Prop
abbrev TE:=St->Hp->VK->Prop
abbrev TT:=St->Hp->(Bool->Hp->Prop)->Prop
abbrev TA:=St->Hp->(List V->Hp->Prop)->Prop
structure Ends where
 nx:St->Hp->Prop
 rt:VK
 bk:St->Hp->Prop:=fun _ _=>False
 ct:St->Hp->Prop:=fun _ _=>False
abbrev TS:=Ends->St->Hp->Prop
def EP (X:Cx) (pins:List (Addr × Obj)) (Z:St) (Q:VK) (u:Value) (s':Shared):Prop:=∃ v H',Inv X pins Z H' s'/\RelV v u/\Q v H'
def TP (X:Cx) (pins:List (Addr × Obj)) (Z:St) (Q:Bool->Hp->Prop) (b:Bool) (s':Shared):Prop:=∃ H',Inv X pins Z H' s'/\Q b H'
def AP (X:Cx) (pins:List (Addr × Obj)) (Z:St) (Q:List V->Hp->Prop) (us:List Value) (s':Shared):Prop:=∃ vs H',Inv X pins Z H' s'/\Vals vs us/\Q vs H'
def SP (X:Cx) (pins:List (Addr × Obj)) (D:Ends) (f:Flow) (s':Shared):Prop :=
 match f with
 | .next=>∃ σ' H',Inv X pins σ' H' s'/\D.nx σ' H'
 | .brk=>∃ σ' H',Inv X pins σ' H' s'/\D.bk σ' H'
 | .cont=>∃ σ' H',Inv X pins σ' H' s'/\D.ct σ' H'
 | .ret u=>∃ v σ' H',Inv X pins σ' H' s'/\RelV v u/\D.rt v H'
def PE (X:Cx) (e:Expr) (t:TE):Prop :=
 ∀(pins:List (Addr × Obj)) (s:Shared) (Z:St) (H:Hp) (Q:VK),Inv X pins Z H s->t Z H Q->wpAny (model X.prog X.w) X.A (eval e X.env) (EP X pins Z Q) X.xe s
def PT (X:Cx) (e:Expr) (t:TT):Prop :=
 ∀(pins:List (Addr × Obj)) (s:Shared) (Z:St) (H:Hp) (Q:Bool->Hp->Prop),Inv X pins Z H s->t Z H Q->wpAny (model X.prog X.w) X.A (isTrue e X.env (eval e X.env)) (TP X pins Z Q) X.xe s
def PW (X:Cx) (e:Expr) (t:TT):Prop :=
 ∀(whole:Sem Value) (pins:List (Addr × Obj)) (s:Shared) (Z:St) (H:Hp) (Q:Bool->Hp->Prop),Inv X pins Z H s->t Z H Q->wpAny (model X.prog X.w) X.A (isTrue e X.env whole) (TP X pins Z Q) X.xe s
theorem PW.pt {X:Cx}{e:Expr}{t:TT} (h:PW X e t):PT X e t:=h _
def PA (X:Cx) (es:List Expr) (t:TA):Prop :=
 ∀(pos:Pos) (pins:List (Addr × Obj)) (s:Shared) (Z:St) (H:Hp) (Q:List V->Hp->Prop),Inv X pins Z H s->t Z H Q->wpAny (model X.prog X.w) X.A (spliced (backTo pos (starEach es X.env))) (AP X pins Z Q) X.xe s
def PS (X:Cx) (st:Stmt) (t:TS):Prop :=
 ∀(pins:List (Addr × Obj)) (s:Shared) (Z:St) (H:Hp) (D:Ends),Inv X pins Z H s->t D Z H->wpAny (model X.prog X.w) X.A (exec st X.env) (SP X pins D) X.xe s
def PSs (X:Cx) (st:List Stmt) (t:TS):Prop :=
 ∀(pins:List (Addr × Obj)) (s:Shared) (Z:St) (H:Hp) (D:Ends),Inv X pins Z H s->t D Z H->wpAny (model X.prog X.w) X.A (execs st X.env) (SP X pins D) X.xe s
theorem thn {α:Type}{t:Sem α}{Q Q':α->Shared->Prop}{M:Model}{A:Around}{E:Value->Shared->Prop}{s:Shared} (h:wpAny M A t Q E s) (hQ:∀ a s,Q a s->Q' a s):wpAny M A t Q' E s:=ZQ h hQ fun _ _ x=>x
section
variable {X:Cx}
inductive tVar (i:Nat) (Z:St) (H:Hp) (Q:VK):Prop
 | mk (v) (e_:Z[i]?=some (some v)) (r_:Q v H)
def tC (v:V):TE:=fun _ H Q=>Q v H
theorem xuk {i:Nat}{x:Str}{pos:Pos} (hN:X.N[i]?=some x) (hv:Vis X.env.scope x) (hd:(x == ("__debug__":Str))=false:=by decide) (hcd:(x == ("__classdict__":Str))=false:=by decide):PE X (.Name x pos) (tVar i):=by
 intro pins s Z H Q I h;obtain⟨v,e,h⟩:=h;obtain⟨m,hn,hl⟩:=I.loc;obtain⟨u,r,l⟩:=hl i x v hN e hv;have fin:EP X pins Z Q u s:=⟨v,H,I,r,h⟩
 rcases l with⟨hk,hm⟩|⟨hk,c,hc,hcell⟩
 .exact wpAny_Name (wpAny_loadName_local I.ok.kind hk hn hm fin) hd
 .rcases hk with hk|hk
  .exact wpAny_Name (wpAny_loadName_cell I.ok.kind hk hc hcell fin) hd
  .exact wpAny_Name (wpAny_loadName_free I.ok.kind hk hc hcell fin hcd) hd
theorem xm {i j pos}:PE X (.Constant (.int i) j pos) (tC (.int i)):=fun _ _ _ H _ I h=>wpAny_Constant_int ⟨.int i,H,I.tok _,⟨_,rfl⟩,h⟩
theorem xes {b j pos}:PE X (.Constant (.bool b) j pos) (tC (.bl b)):=fun _ _ _ H _ I h=>Constant_bool ⟨.bl b,H,I,rfl,h⟩
theorem xdr {j pos}:PE X (.Constant .none j pos) (tC .non):=fun _ _ _ H _ I h=>Constant_none ⟨.non,H,I,rfl,h⟩
theorem xw {x j pos}:PE X (.Constant (.str x) j pos) (tC (.str x)):=fun _ _ _ H _ I h=>Calls.Constant_str ⟨.str x,H,I.tok _,⟨_,rfl⟩,h⟩
def Gl (X:Cx) (x:Str):Prop:=X.env.kindOf x=some .globalImplicit
theorem xe6 {E:Value->Shared->Prop}{pins:List (Addr × Obj)}{s:Shared}{Z:St}{H:Hp}{x:Str}{u:Value}{pos:Pos}{Q:Value->Shared->Prop} (I:Inv X pins Z H s) (hg:Gl X x) (hm:X.mg x=some u) (h:Q u s)
    (hd:(x == ("__debug__":Str))=false:=by decide):wpAny (model X.prog X.w) X.A (eval (.Name x pos) X.env) Q E s :=
  Calls.Name_function_global I.ok.kind hg (Calls.loadGlobal_global (by rw[I.ok.glob]; exact I.mod.glob.keeps I.bk) hm h) hd
theorem xc1 {E:Value->Shared->Prop}{pins:List (Addr × Obj)}{s:Shared}{Z:St}{H:Hp}{x:Str}{u:Value}{pos:Pos}{Q:Value->Shared->Prop} (I:Inv X pins Z H s) (hg:Gl X x) (hm:X.mg x=none) (hv:bootBuiltins x=some u) (h:Q u s)
    (hn:x≠"__name__":=by decide) (hd:(x == ("__debug__":Str))=false:=by decide):wpAny (model X.prog X.w) X.A (eval (.Name x pos) X.env) Q E s:=by
  obtain⟨mb,h1,h2⟩:=I.mod.blt;exact Calls.Name_function_global I.ok.kind hg (Calls.loadGlobal_builtin (by rw[I.ok.glob]; exact I.mod.glob.keeps I.bk) hm (by rw[I.ok.blt]; exact h1.keeps I.bk) ((h2 x hn).trans hv) h) hd
theorem xdx {x:Str}{v:V}{u:Value}{pos:Pos} (hg:Gl X x) (hm:X.mg x=some u) (r:RelV v u) (hd:(x == ("__debug__":Str))=false:=by decide):PE X (.Name x pos) (tC v) :=
 fun _ _ _ H _ I h=>xe6 I hg hm ⟨v,H,I,r,h⟩ hd
theorem xdb {x:Str}{v:V}{u:Value}{pos:Pos} (hg:Gl X x) (hm:X.mg x=none) (hv:bootBuiltins x=some u) (r:RelV v u) (hn:x≠"__name__":=by decide) (hd:(x == ("__debug__":Str))=false:=by decide):PE X (.Name x pos) (tC v) :=
 fun _ _ _ H _ I h=>xc1 I hg hm hv ⟨v,H,I,r,h⟩ hn hd
variable {a b:Expr}{ta tb:TE}{pos:Pos}
def PC (X:Cx) (op:CmpOp) (a b:Expr) (t:TE):Prop :=
 ∀(pins:List (Addr × Obj)) (s:Shared) (Z:St) (H:Hp) (Q:VK),Inv X pins Z H s->t Z H Q ->
  wpAny (model X.prog X.w) X.A (eval a X.env) (fun v s₁=>wpAny (model X.prog X.w) X.A (eval b X.env) (fun u s₂=>wpAny (model X.prog X.w) X.A (compareOp op v u) (EP X pins Z Q) X.xe s₂) X.xe s₁) X.xe s
theorem xk2 (b:Expr) {op:CmpOp} (h:op≠.In) (h2:op≠.NotIn):behindInMarks op b=false:=by
 have e1:(op == CmpOp.In)=false:=by cases op<;>first|rfl|exact absurd rfl h
 have e2:(op == CmpOp.NotIn)=false:=by cases op<;>first|rfl|exact absurd rfl h2
 cases b<;>simp[behindInMarks,e1,e2]
inductive tB_i (x:V) (H1:Hp) (Q:Bool->Hp->Prop):Prop
 | mk (c) (e_:x=.bl c) (r_:Q c H1)
def tB (t:TE):TT:=fun Z H Q=>t Z H fun x H1=>tB_i x H1 Q
theorem xld {op:CmpOp}{t:TE} (h:PC X op a b t) (h1:behindInMarks op b=false:=by first|exact xk2 _ (by decide) (by decide)|rfl):PE X (.Compare a [op] [b] pos) t:=fun pins s Z H Q I hw=>wpAny_Compare1 (h pins s Z H Q I hw) h1
theorem xdg {op:CmpOp}{t:TE} (h:PC X op a b t) (h1:behindInMarks op b=false:=by first|exact xk2 _ (by decide) (by decide)|rfl):PT X (.Compare a [op] [b] pos) (tB t):=by
 intro pins s Z H Q I hw;refine wpAny_isTrue_Compare1 (thn (h pins s Z H _ I hw) fun v s1 h1=>thn h1 fun u s2 h2=>thn h2 fun c s3 ⟨x,H1,I1,r1,q1⟩=>?_) h1;obtain⟨d,rfl,q⟩:=q1;cases r1;exact J8 ⟨H1,I1,q⟩
theorem xay {e:Expr}{t:TE} (h:PE X e t) (he:∀ whole,isTrue e X.env whole=(do let v <- whole; standAt e.pos; holding [v] (truthy v)):=by intro _; rfl):PT X e (tB t):=by
 intro pins s Z H Q I hw;refine isTrue_plain (thn (h pins s Z H _ I hw) fun v s1 ⟨x,H1,I1,r1,q1⟩=>?_) (he _);obtain⟨d,rfl,q⟩:=q1;cases r1;exact J8 ⟨H1,I1,q⟩
variable {tA tB':TT}{rest:List Expr}
def tAnd (t u:TT):TT:=fun Z H Q=>t Z H fun c H1=>if c=true then u Z H1 Q else Q false H1
def tOr (t u:TT):TT:=fun Z H Q=>t Z H fun c H1=>if c=true then Q true H1 else u Z H1 Q
def tNot (t:TT):TT:=fun Z H Q=>t Z H fun c H1=>Q (!c) H1
theorem xgg (ha:PT X a tA):PW X (.BoolOp .And [a] pos) tA:=by
 intro wh pins s Z H Q I h;refine isTrue_and (thn (ha pins s Z H Q I h) fun c s1 e=>?_);cases c with
 | true=>exact isTrue_and_nil e
 | false=>exact e
theorem xca (ha:PT X a tA):PW X (.BoolOp .Or [a] pos) tA:=by
 intro wh pins s Z H Q I h;refine isTrue_or (thn (ha pins s Z H Q I h) fun c s1 e=>?_);cases c with
 | false=>exact isTrue_or_nil e
 | true=>exact e
theorem xh6 (ha:PT X a tA) (hb:PW X (.BoolOp .And (b::rest) pos) tB'):PW X (.BoolOp .And (a::b::rest) pos) (tAnd tA tB'):=by
 intro wh pins s Z H Q I h;refine isTrue_and (thn (ha pins s Z H _ I h) fun c s1 ⟨H1,I1,q1⟩=>?_);cases c with
 | true=>exact hb wh pins s1 Z H1 Q I1 q1
 | false=>exact⟨H1,I1,q1⟩
theorem xb9 (ha:PT X a tA) (hb:PW X (.BoolOp .Or (b::rest) pos) tB'):PW X (.BoolOp .Or (a::b::rest) pos) (tOr tA tB'):=by
 intro wh pins s Z H Q I h;refine isTrue_or (thn (ha pins s Z H _ I h) fun c s1 ⟨H1,I1,q1⟩=>?_);cases c with
 | true=>exact⟨H1,I1,q1⟩
 | false=>exact hb wh pins s1 Z H1 Q I1 q1
theorem xbn (ha:PT X a tA):PT X (.UnaryOp .Not a pos) (tNot tA):=by
 intro pins s Z H Q I h;exact isTrue_not (ha pins s Z H (fun c H1=>Q (!c) H1) I h)
inductive xtj (tb:TE) (Z:St) (x:V) (H1:Hp) (Q:VK):Prop
 | mk (c) (e_:x=.bl c) (r_:if c=true then tb Z H1 Q else Q (.bl false) H1)
def xwz (ta tb:TE):TE:=fun Z H Q=>ta Z H fun x H1=>xtj tb Z x H1 Q
inductive xu3 (tb:TE) (Z:St) (x:V) (H1:Hp) (Q:VK):Prop
 | mk (c) (e_:x=.bl c) (r_:if c=true then Q (.bl true) H1 else tb Z H1 Q)
def tOrV (ta tb:TE):TE:=fun Z H Q=>ta Z H fun x H1=>xu3 tb Z x H1 Q
inductive xsh (x:V) (H1:Hp) (Q:VK):Prop
 | mk (c) (e_:x=.bl c) (r_:Q (.bl (!c)) H1)
def xvl (ta:TE):TE:=fun Z H Q=>ta Z H fun x H1=>xsh x H1 Q
theorem xc5 {op}{t:TE} (h:PE X a t):PE X (.BoolOp op [a] pos) t:=fun pins s Z H Q I hw=>BoolOp_one (h pins s Z H Q I hw)
theorem xcm (ha:PE X a ta) (hb:PE X (.BoolOp .And (b::rest) pos) tb):PE X (.BoolOp .And (a::b::rest) pos) (xwz ta tb):=by
 intro pins s Z H Q I h;refine BoolOp_and (thn (ha pins s Z H _ I h) fun v s1 ⟨x,H1,I1,r1,q1⟩=>?_);obtain⟨c,rfl,q1⟩:=q1;cases r1;refine J8 ?_;cases c with
 | true=>exact hb pins s1 Z H1 Q I1 q1
 | false=>exact⟨.bl false,H1,I1,rfl,q1⟩
theorem xrk (ha:PE X a ta) (hb:PE X (.BoolOp .Or (b::rest) pos) tb):PE X (.BoolOp .Or (a::b::rest) pos) (tOrV ta tb):=by
 intro pins s Z H Q I h;refine BoolOp_or (thn (ha pins s Z H _ I h) fun v s1 ⟨x,H1,I1,r1,q1⟩=>?_);obtain⟨c,rfl,q1⟩:=q1;cases r1;refine J8 ?_;cases c with
 | false=>exact hb pins s1 Z H1 Q I1 q1
 | true=>exact⟨.bl true,H1,I1,rfl,q1⟩
theorem xu7 (ha:PE X a ta):PE X (.UnaryOp .Not a pos) (xvl ta):=by
 intro pins s Z H Q I h;refine UnaryOp_ (thn (ha pins s Z H _ I h) fun v s1 ⟨x,H1,I1,r1,q1⟩=>?_);obtain⟨c,rfl,q1⟩:=q1;cases r1;exact not_of (J8 ⟨.bl (!c),H1,I1,rfl,q1⟩)
def tIf (t:TT) (ta tb:TE):TE:=fun Z H Q=>t Z H fun c H1=>if c=true then ta Z H1 Q else tb Z H1 Q
theorem xc9 {c:Expr} (hc:PT X c tA) (ha:PE X a ta) (hb:PE X b tb):PE X (.IfExp c a b pos) (tIf tA ta tb):=by
 intro pins s Z H Q I h;refine wpAny_IfExp (thn (hc pins s Z H _ I h) fun d s1 ⟨H1,I1,q1⟩=>?_);cases d with
 | true=>exact ha pins s1 Z H1 Q I1 q1
 | false=>exact hb pins s1 Z H1 Q I1 q1
end
def SqL (K:Zd) (H:Hp) (a:Addr) (xs:List V):Prop :=
 Rd H a (.lst xs) \/
  ∃(o:Obj) (its:Array Value) (n:Nat),K.lookup a=some o/\o.cls=.type "list"/\o.dict=none/\o.data=.seq its n/\its.size<=sizeLine/\Vals xs its.toList
def SqT (K:Zd) (H:Hp) (a:Addr) (xs:List V):Prop :=
 Rd H a (.tup xs) \/
  ∃(o:Obj) (its:Array Value) (n:Nat),K.lookup a=some o/\o.cls=.type "tuple"/\o.data=.seq its n/\its.size<=sizeLine/\Vals xs its.toList
def absV:Value->Option V
 | .none=>some .non
 | .bool b=>some (.bl b)
 | .int i _=>some (.int i)
 | .str x _=>some (.str x)
 | .bytes b _=>some (.byt b)
 | .float b _=>some (.flt b)
 | .ref a=>some (.ref a)
 | .type n=>some (.ty n)
 | _=>none
theorem RelV.abs {x:V}{u:Value} (r:RelV x u):absV u=some x:=by
 cases x with
 | non=>cases r; rfl
 | bl _=>cases r; rfl
 | int _=>obtain⟨t,rfl⟩:=r; rfl
 | str _=>obtain⟨t,rfl⟩:=r; rfl
 | byt _=>obtain⟨t,rfl⟩:=r; rfl
 | flt _=>obtain⟨t,rfl⟩:=r; rfl
 | ref _=>cases r; rfl
 | ty _=>cases r; rfl
theorem RelV.inj {x y:V}{u:Value} (r:RelV x u) (q:RelV y u):x=y:=JD.inj (r.abs.symm.trans q.abs)
theorem Vals.inj:∀{xs ys:List V}{us:List Value},Vals xs us->Vals ys us->xs=ys
 | _,_,_,.nil,.nil=>rfl
 | _,_,_,.cons r t,.cons r' t'=>by rw[r.inj r',Vals.inj t t']
section
variable {X:Cx}{pins:List (Addr × Obj)}{Z:St}{H:Hp}{s:Shared}{a:Addr}{xs ys:List V}
theorem SqL.of {K:Zd} (h:H a=some (.lst xs)):SqL K H a xs:=.inl (.inl h)
theorem SqT.of {K:Zd} (h:H a=some (.tup xs)):SqT K H a xs:=.inl (.inl h)
theorem Inv.list (I:Inv X pins Z H s) (h:SqL X.K H a xs):∃ its:List Value,Vals xs its/\PlainL s.heap a its.toArray/\xs.length<=sizeLine:=by
 rcases h with h|⟨o,its,n,hk,hc,hd,hs,hz,r⟩
 .obtain ⟨z,its,n,r,e⟩:=h.ok I.hok;exact⟨its,r,⟨_,n,e,rfl,rfl,rfl⟩,z⟩
 .refine ⟨its.toList,r,⟨o,n,I.kIn a o hk,hc,hd,by simpa using hs⟩,?_⟩;have e:=r.length;simp only[JC] at e;omega
theorem Inv.tuple (I:Inv X pins Z H s) (h:SqT X.K H a xs):∃ its:List Value,Vals xs its/\IsTup s.heap a its.toArray/\xs.length<=sizeLine:=by
 rcases h with h|⟨o,its,n,hk,hc,hs,hz,r⟩
 .obtain ⟨z,its,r,p⟩:=h.ok I.hok;exact⟨its,r,p,z⟩
 .refine ⟨its.toList,r,⟨o,I.kIn a o hk,hc,n,by simpa using hs⟩,?_⟩;have e:=r.length;simp only[JC] at e;omega
theorem Inv.list_inj (I:Inv X pins Z H s) (h:SqL X.K H a xs) (h':SqL X.K H a ys):xs=ys:=by
 obtain⟨its,r,⟨o,n,e,_,_,d⟩,_⟩:=I.list h;obtain⟨its',r',⟨o',n',e',_,_,d'⟩,_⟩:=I.list h';rw[e] at e'; cases e';rw[d] at d';injection d' with d1 _
 have:its=its':=by simpa using congrArg Array.toList d1
 subst this;exact r.inj r'
theorem Inv.tuple_inj (I:Inv X pins Z H s) (h:SqT X.K H a xs) (h':SqT X.K H a ys):xs=ys:=by
 obtain⟨its,r,⟨o,e,_,n,d⟩,_⟩:=I.tuple h;obtain⟨its',r',⟨o',e',_,n',d'⟩,_⟩:=I.tuple h';rw[e] at e'; cases e';rw[d] at d';injection d' with d1 _
 have:its=its':=by simpa using congrArg Array.toList d1
 subst this;exact r.inj r'
end
abbrev Cx.wish (X:Cx) (E:Value->Shared->Prop):Cx:={ X with xe:=E }
abbrev Cx.nox (X:Cx):Cx:=X.wish fun _ _=>False
theorem Cx.Ok.wish {X:Cx} (ok:X.Ok) (E:Value->Shared->Prop):(X.wish E).Ok :=
 ⟨ok.mod,ok.kind,ok.glob,ok.blt,ok.above,ok.inj,ok.has,ok.cab,ok.hd,ok.frames,ok.stk,ok.exf,ok.bs,ok.bsz,ok.noex,ok.exfs,ok.funs,ok.frf⟩
theorem Cx.Ok.unwish {X:Cx}{E:Value->Shared->Prop} (ok:(X.wish E).Ok):X.Ok :=
 ⟨ok.mod,ok.kind,ok.glob,ok.blt,ok.above,ok.inj,ok.has,ok.cab,ok.hd,ok.frames,ok.stk,ok.exf,ok.bs,ok.bsz,ok.noex,ok.exfs,ok.funs,ok.frf⟩
section
variable {X:Cx}{pins:List (Addr × Obj)}{Z:St}{H:Hp}{s:Shared}{E:Value->Shared->Prop}
theorem Inv.wish (I:Inv X pins Z H s) (E:Value->Shared->Prop):Inv (X.wish E) pins Z H s:=⟨I.ok.wish E,I.os,I.bare,I.base,I.loc,I.cell,I.free,I.freeC,I.pin,I.hok,I.len⟩
theorem Inv.unwish (I:Inv (X.wish E) pins Z H s):Inv X pins Z H s:=⟨I.ok.unwish,I.os,I.bare,I.base,I.loc,I.cell,I.free,I.freeC,I.pin,I.hok,I.len⟩
theorem SP.unwish {D:Ends}{f:Flow}{s':Shared} (h:SP (X.wish E) pins D f s'):SP X pins D f s':=by
 cases f with
 | next=>obtain⟨σ',H',I,q⟩:=h; exact⟨σ',H',I.unwish,q⟩
 | brk=>obtain⟨σ',H',I,q⟩:=h; exact⟨σ',H',I.unwish,q⟩
 | cont=>obtain⟨σ',H',I,q⟩:=h; exact⟨σ',H',I.unwish,q⟩
 | ret u=>obtain⟨v,σ',H',I,r,q⟩:=h; exact⟨v,σ',H',I.unwish,r,q⟩
theorem PSs.nox {st:List Stmt}{t:TS} (h:PSs X.nox st t):PSs X st t:=fun pins s Z H D I hw =>
 ZQ (h pins s Z H D (I.wish _) hw) (fun _ _ q=>q.unwish) fun _ _ z=>J6 z
end
section
variable {X:Cx}{st:Stmt}{rest:List Stmt}{t u:TS}{e:Expr}{te:TE}{pos:Pos}
def xvs:TS:=fun D Z H=>D.nx Z H
def tSeq (t u:TS):TS:=fun D Z H=>t { D with nx:=u D } Z H
theorem x4:PSs X [] xvs:=fun _ _ Z H _ I h=>QF ⟨Z,H,I,h⟩
theorem xj (h1:PS X st t) (h2:PSs X rest u):PSs X (st::rest) (tSeq t u):=by
 intro pins s Z H D I h;refine wpAny_execs_cons (thn (h1 pins s Z H { D with nx:=u D } I h) fun f s1 q=>?_);cases f with
 | next =>
  obtain⟨σ',H',I',q⟩:=q;exact h2 pins s1 σ' H' D I' q
 | ret v=>exact q
 | brk=>exact q
 | cont=>exact q
theorem xk (h1:PS X st t):PSs X [st] t:=by
 intro pins s Z H D I h;refine wpAny_execs_cons (thn (h1 pins s Z H D I h) fun f s1 q=>?_);cases f with
 | next=>exact QF q
 | ret v=>exact q
 | brk=>exact q
 | cont=>exact q
theorem Inv.quiet {pins:List (Addr × Obj)}{Z:St}{H:Hp}{s:Shared} (I:Inv X pins Z H s):interactive X.env=false:=by simp[interactive,I.ok.kind]
def xvq (te:TE):TS:=fun D Z H=>te Z H fun _ H1=>D.nx Z H1
theorem xa6 (he:PE X e te) (hs:swapsWith e none pos.line X.env=pure false:=by rfl):PS X (.Expr e pos) (xvq te):=by
 intro pins s Z H D I h;exact wpAny_Expr_any (thn (he pins s Z H _ I h) fun v s1 ⟨x,H1,I1,r1,q1⟩=>⟨Z,H1,I1,q1⟩) I.quiet hs
def tRet (te:TE):TS:=fun D Z H=>te Z H D.rt
theorem xz (he:PE X e te):PS X (.Return (some e) pos) (tRet te):=by
 intro pins s Z H D I h;exact wpAny_Return_some (thn (he pins s Z H _ I h) fun v s1 ⟨x,H1,I1,r1,q1⟩=>⟨x,Z,H1,I1,r1,q1⟩)
def tIfS (c:TT) (t u:TS):TS:=fun D Z H=>c Z H fun b H1=>if b=true then t D Z H1 else u D Z H1
theorem xad {c:Expr}{a b:List Stmt}{tc:TT} (hc:PT X c tc) (ha:PSs X a t) (hb:PSs X b u):PS X (.If c a b pos) (tIfS tc t u):=by
 intro pins s Z H D I h;refine wpAny_If (thn (hc pins s Z H _ I h) fun d s1 ⟨H1,I1,q1⟩=>?_);cases d with
 | true=>exact ha pins s1 Z H1 D I1 q1
 | false=>exact hb pins s1 Z H1 D I1 q1
def xt4:TS:=fun _ _ _=>False
theorem xbb:PS X st xt4:=fun _ _ _ _ _ _ h=>h.elim
end
abbrev TG:=V->St->Hp->(St->Hp->Prop)->Prop
abbrev TGs:=List V->St->Hp->(St->Hp->Prop)->Prop
def PG (X:Cx) (target:Expr) (t:TG):Prop :=
 ∀(pins:List (Addr × Obj)) (s:Shared) (Z:St) (H:Hp) (v:V) (u:Value) (Q:St->Hp->Prop),Inv X pins Z H s->RelV v u->t v Z H Q ->
  wpAny (model X.prog X.w) X.A (assign target X.env u) (fun _ s'=>∃ σ' H',Inv X pins σ' H' s'/\Q σ' H') X.xe s
def PGs (X:Cx) (ts:List Expr) (t:TGs):Prop :=
 ∀(pins:List (Addr × Obj)) (s:Shared) (Z:St) (H:Hp) (vs:List V) (us:List Value) (Q:St->Hp->Prop),Inv X pins Z H s->Vals vs us->t vs Z H Q ->
  wpAny (model X.prog X.w) X.A (assignInOrder ((assignEach ts X.env).map (·.2)) us) (fun _ s'=>∃ σ' H',Inv X pins σ' H' s'/\Q σ' H') X.xe s
section
variable {X:Cx}{pos:Pos}
def xc7 (i:Nat):TG:=fun v Z H Q=>Q (Z.set i (some v)) H
theorem xp {i:Nat}{x:Str} (hN:X.N.Nodup) (hi:X.N[i]?=some x) (hx:Loc X.env.scope x) (hf:X.fn x=true\/X.env.scope.names.lookup x=some .local:=by first|exact .inl rfl|exact .inr rfl|assumption):PG X (.Name x pos) (xc7 i):=by
 intro pins s Z H v u Q I r h;exact wpAny_assign_Name (xg3 I hN hi hx r (fun s' I'=>⟨_,H,I',h⟩) hf)
def gNil:TGs:=fun vs Z H Q=>vs=[]/\Q Z H
inductive xd6 (t:TG) (u:TGs) (vs:List V) (Z:St) (H:Hp) (Q:St->Hp->Prop):Prop
 | mk (v r) (e_:vs=v::r) (r_:t v Z H fun σ' H'=>u r σ' H' Q)
theorem xab:PGs X [] gNil:=by
 intro pins s Z H vs us Q I r h;obtain⟨e,h⟩:=h;subst e;cases r;exact assignInOrder_nil ⟨Z,H,I,h⟩
theorem xq {e:Expr}{es:List Expr}{t:TG}{u:TGs} (h1:PG X e t) (h2:PGs X es u)
    (hs:(assignEach (e::es) X.env).map (·.2)=assign e X.env::(assignEach es X.env).map (·.2):=by rfl):PGs X (e::es) (xd6 t u):=by
  intro pins s Z H vs us Q I r h;obtain⟨v,vr,e1,h⟩:=h;subst e1;cases r with
  | cons r rr =>
    rw[hs];refine assignInOrder_cons (thn (h1 pins s Z H _ _ _ I r h) fun _ s1 ⟨σ1,H1,I1,q1⟩=>?_);exact h2 pins s1 σ1 H1 _ _ Q I1 rr q1
inductive gTup (K:Zd) (n:Nat) (t:TGs) (v:V) (Z:St) (H:Hp) (Q:St->Hp->Prop):Prop
 | mk (a xs) (e_:v=.ref a) (r_:SqT K H a xs/\xs.length=n/\t xs Z H Q)
theorem xaf {es:List Expr}{k:Nat}{t:TGs}{n:Nat} (hc:X.calm=true) (h:PGs X es t)
    (hn:(assignEach es X.env).length=n:=by rfl) (hst:(assignEach es X.env).findIdx? (·.1)=none:=by rfl):PG X (.Tuple es k pos) (gTup X.K n t):=by
  intro pins s Z H v u Q I r hw;obtain⟨a,xs,e1,hq,hl,hw⟩:=hw;subst e1;cases r;obtain⟨its,rv,ht,hz⟩:=I.tuple hq;refine assign_Tuple_tuple (I.ok.hd hc) ht (by simp[hn,<- hl,rv.length]) hst fun h' hx=>?_;have I1:Inv X pins Z H { s with heap:=h' }:=I.kept (t':=s.toks) fun b o e=>hx b o (ZH (Zq e)) e;exact h pins _ Z H xs _ Q I1 (by simpa using rv) hw
def tAsg (te:TE) (g:TG):TS:=fun D Z H=>te Z H fun x H1=>g x Z H1 D.nx
theorem xd2 {tg e:Expr}{te:TE}{g:TG} (he:PE X e te) (hg:PG X tg g) (hs:swapsWithSole [tg] e pos.line X.env=pure false:=by rfl) (hw:swappedStores [tg] e X.env=pure none:=by rfl)
    (h1:(assignEach [tg] X.env).map (·.2)=[assign tg X.env]:=by rfl):PS X (.Assign [tg] e pos) (tAsg te g):=by
  intro pins s Z H D I h;refine wpAny_Assign_stores (thn (he pins s Z H _ I h) fun v s1 ⟨x,H1,I1,r1,q1⟩=>?_) hs hw;rw[h1];exact thn (hg pins s1 Z H1 x v _ I1 r1 q1) fun _ s2 q=>q
theorem xv {i:Nat}{x:Str}{e:Expr}{te:TE}{pos':Pos} (hN:X.N.Nodup) (hi:X.N[i]?=some x) (hx:Loc X.env.scope x) (he:PE X e te) (hs:swapsWith e (some (.Name x pos')) pos.line X.env=pure false:=by rfl) (hf:X.fn x=true\/X.env.scope.names.lookup x=some .local:=by first|exact .inl rfl|exact .inr rfl|assumption) :
    PS X (.Assign [.Name x pos'] e pos) (tAsg te (xc7 i)):=by
  intro pins s Z H D I h;refine wpAny_Assign_Name (thn (he pins s Z H _ I h) fun v s1 ⟨y,H1,I1,r1,q1⟩=>?_) hs;exact xg3 I1 hN hi hx r1 (fun s2 I2=>⟨_,H1,I2,q1⟩) hf
end
structure It where
 go:Nat->Hp->Prop
 yld:Nat->Hp->V->Hp->Prop
 stop:Nat->Hp->Prop
def FpOk (X:Cx) (pins:List (Addr × Obj)) (H:Hp) (b:Addr):Prop :=
 H b=none/\b≠X.env.locals/\b∉X.fs/\(b∈X.ex\/X.s₀.heap.objs.size<=b)/\(∀ x c,X.env.cells.lookup x=some c->c≠b)/\∀ p∈X.pn++pins,p.1≠b
theorem Inv.fpOk {X:Cx}{pins:List (Addr × Obj)}{Z:St}{H H':Hp}{s:Shared}{b:Addr} (I:Inv X pins Z H s) (hb:s.heap.objs.size<=b) (hn:H' b=none):FpOk X pins H' b:=by
 refine⟨hn,Yg (ZG I.lt hb),I.nofs hb,.inr (Z8 I.sz hb),fun x c e z=>?_,fun p hp z=>?_⟩
 .obtain ⟨v,q⟩:=I.cell x c e;exact absurd (ZG q.lt (by rw[z]; exact hb)) (Y5 _)
 .exact absurd (ZG (Zq (I.pin p hp).1) (by rw[z]; exact hb)) (Y5 _)
structure Turn (P:Program) (w:World) (K:Zd) (tg:Expr) (J:It) (fp:List Addr) (it:Addr) (tn:Nat->Heap->Prop):Prop where
 mem:it∈fp
 obj:∀ i h,tn i h->∀ b∈fp,∃ o,h.get? b=some o/\∀ v,o.data≠.cell v
 keep:∀ i h h',tn i h->(∀ b∈fp,∀ o,h.get? b=some o->h'.get? b=some o)->tn i h'
 item:∀(X:Cx),X.prog=P->X.w=w->X.K=K->X.calm=true->∀(i:Nat) (pins:List (Addr × Obj)) (s:Shared) (Z:St) (H:Hp) (E:Value->Shared->Prop),Inv X pins Z H s->(∀ b∈fp,FpOk X pins H b)->tn i s.heap->J.go i H ->
  wpAny (model P w) X.A (pyNext (.ref it)) (fun r s1=>∃ u,r=some u /\
   wpAny (model P w) X.A (letOwnedTupleGo tg (.ref it) u) (fun _ s2=>∃ x H',Inv X pins Z H' s2/\RelV x u/\J.yld i H x H'/\tn (i+1) s2.heap/\∀ b∈fp,H' b=none) E s1) E s
 done:∀(X:Cx),X.prog=P->X.w=w->X.K=K->X.calm=true->∀(i:Nat) (pins:List (Addr × Obj)) (s:Shared) (Z:St) (H:Hp) (E:Value->Shared->Prop),Inv X pins Z H s->(∀ b∈fp,FpOk X pins H b)->tn i s.heap->J.stop i H ->
  wpAny (model P w) X.A (pyNext (.ref it)) (fun r s1=>r=none/\Inv X pins Z H s1) E s
 self:∀(A:Around) (i:Nat) (s:Shared) (Q:Value->Shared->Prop) (E:Value->Shared->Prop),tn i s.heap->Q (.ref it) s->wpAny (model P w) A (pyIter (.ref it)) Q E s
abbrev TI:=St->Hp->(It->Hp->Prop)->Prop
def PIE (X:Cx) (pins:List (Addr × Obj)) (Z:St) (tg:Expr) (R:It->Hp->Prop) (itv:Value) (s2:Shared):Prop :=
 ∃(it:Addr) (fp:List Addr) (tn:Nat->Heap->Prop) (J:It) (H':Hp),itv=.ref it/\Inv X pins Z H' s2/\Turn X.prog X.w X.K tg J fp it tn/\tn 0 s2.heap/\(∀ b∈fp,FpOk X pins H' b)/\R J H'
def PI (X:Cx) (tg iter:Expr) (wi:TI):Prop :=
 ∀(pins:List (Addr × Obj)) (s:Shared) (Z:St) (H:Hp) (R:It->Hp->Prop),Inv X pins Z H s->wi Z H R ->
  wpAny (model X.prog X.w) X.A (eval iter X.env) (fun v s1=>wpAny (model X.prog X.w) X.A (pyIter v) (PIE X pins Z tg R) X.xe s1) X.xe s
theorem xkc {M:Model}{A:Around}{E:Value->Shared->Prop}{s:Shared}{tg:Expr}{it:Addr}{u:Value}{o:Obj}{n:String}{vs:Array Value}{Q:Unit->Shared->Prop} (ho:s.heap.get? it=some o) (hc:o.cls=.type n) (hd:o.data=.fields vs)
    (hn:["enumerate", "zip", "dict_itemiterator", "dict_reverseitemiterator", "odict_iterator", "itertools.zip_longest", "itertools.pairwise"].contains n=false) (hQ:Q () s):wpAny M A (letOwnedTupleGo tg (.ref it) u) Q E s:=by
  unfold letOwnedTupleGo;cases tg<;>first
    | exact Zm hQ
    | (cases u<;>first
        | exact Zm hQ
        | (refine Zc (wpAny_load ho ?_)
           rw[hc,hd];show wpAny M A (if (["enumerate", "zip", "dict_itemiterator", "dict_reverseitemiterator", "odict_iterator", "itertools.zip_longest", "itertools.pairwise"].contains n&&vs[0]? == some (rawInt _))=true then _ else _) Q E s;rw[if_neg (by intro h; rw[hn,Jv] at h; cases h)];exact Zm hQ))
def Itl (K:Zd) (a:Addr):It :=
 ⟨fun i H=>∃ xs x,SqL K H a xs/\xs[i]?=some x,fun i H x H'=>H'=H/\∀ xs,SqL K H a xs->xs[i]?=some x,fun i H=>∃ xs,SqL K H a xs/\xs.length<=i⟩
def Itr (lo:Int) (n:Nat):It:=⟨fun i _=>i<n,fun i H x H'=>H'=H/\x=.int (lo+i),fun i _=>n<=i⟩
theorem xpj {P:Program}{w:World}{K:Zd}{tg:Expr} (a it:Addr):Turn P w K tg (Itl K a) [it] it (fun i h=>h.IsListIter it a i) where
 mem:=by simp
 obj:=fun i h st b hb=>by
  have e:b=it:=by simpa using hb
  subst e;obtain⟨o,e,c,d⟩:=st;exact⟨o,e,fun v z=>by rw[d] at z; cases z⟩
 keep:=fun i h h' st k=>st.at fun o e=>k it (by simp) o e
 item:=by
  intro X hP hw hK hc i pins s Z H E I hf st hg;subst hP hw hK;obtain⟨xs,x,hq,hx⟩:=hg;obtain⟨its,rv,p,hz⟩:=I.list hq;obtain⟨u,hu,ru⟩:=rv.get hx;obtain⟨f0,f1,f2,f3,f4,f5⟩:=hf it (by simp);refine wpAny_pyNext_list_item st p.isList (x:=u) (by simpa using hu) fun h' st' sb=>?_;have I1:Inv X pins Z H { s with heap:=h' }:=I.turned (t':=s.toks) (fun b o hb e=>(sb.2 b hb).trans e) f0 f1 f3 f4 f5;obtain⟨o,e,c,d⟩:=id st';exact⟨u,rfl,xkc (s:={ s with heap:=h' }) e c d (by decide) ⟨x,H,I1,ru,⟨rfl,fun ys hy=>by rw[I.list_inj hy hq]; exact hx⟩,st',fun b hb=>(hf b hb).1⟩⟩
 done:=by
  intro X hP hw hK hc i pins s Z H E I hf st hg;subst hP hw hK;obtain⟨xs,hq,hx⟩:=hg;obtain⟨its,rv,p,hz⟩:=I.list hq;obtain⟨f0,f1,f2,f3,f4,f5⟩:=hf it (by simp);have hl:=rv.length;exact wpAny_pyNext_list_end (I.ok.hd hc) st p.isList (by simp; omega) fun h' eb=>⟨rfl,I.turned (t':=s.toks) (fun b o hb e=>eb b o hb e) f0 f1 f3 f4 f5⟩
 self:=fun _ _ _ _ _ st h=>wpAny_pyIter_listiter st h
theorem xn0 {P:Program}{w:World}{K:Zd}{tg:Expr} (it:Addr) (lo:Int) (n:Nat):Turn P w K tg (Itr lo n) [it] it (fun i h=>IsRangeIter h it (lo+(i:Nat)*1) ((n:Int)-(i:Nat)) 1) where
 mem:=by simp
 obj:=fun i h st b hb=>by
  have e:b=it:=by simpa using hb
  subst e;exact⟨_,st,fun v z=>by
   have z':QU _=Data.cell v:=z;cases z'⟩
 keep:=fun i h h' st k=>k it (by simp) _ st
 item:=by
  intro X hP hw hK hc i pins s Z H E I hf st hg;subst hP hw hK;obtain⟨f0,f1,f2,f3,f4,f5⟩:=hf it (by simp);have W:=Walks.range (prog:=X.prog) (w:=X.w) (I.ok.hd hc) it lo 1 n;refine W.item i s _ _ hg st fun v h' tk hv st' kk=>?_;obtain⟨t,rfl⟩:=hv;have I1:Inv X pins Z H { s with heap:=h',toks:=tk }:=I.turned (fun b o hb e=>kk b o (by simpa using hb) e) f0 f1 f3 f4 f5;refine⟨_,rfl,xkc (s:={ s with heap:=h',toks:=tk }) (n:="range_iterator") st' rfl rfl (by decide) ⟨.int (lo+i),H,I1,⟨t,?_⟩,⟨rfl,rfl⟩,st',fun b hb=>(hf b hb).1⟩⟩;rw[Int.mul_one]
 done:=by
  intro X hP hw hK hc i pins s Z H E I hf st hg;subst hP hw hK;obtain⟨f0,f1,f2,f3,f4,f5⟩:=hf it (by simp);exact wpAny_pyNext_range_end (I.ok.hd hc) st (by have:n<=i:=hg; omega) fun h' eb=>⟨rfl,I.turned (t':=s.toks) (fun b o hb e=>eb b o hb e) f0 f1 f3 f4 f5⟩
 self:=fun _ _ _ _ _ st h=>wpAny_pyIter_rangeiter st h
section
variable {X:Cx}{tg:Expr}
def xwg (K:Zd) (tl:TE):TI:=fun Z H R=>tl Z H fun x H1=>∃ a,x=.ref a/\(∃ xs,SqL K H1 a xs)/\R (Itl K a) H1
theorem xas {l:Expr}{tl:TE} (hl:PE X l tl):PI X tg l (xwg X.K tl):=by
 intro pins s Z H R I h;refine thn (hl pins s Z H _ I h) fun v s1 ⟨x,H1,I1,r1,q1⟩=>?_;obtain⟨a,e,⟨xs,hq⟩,q⟩:=q1;subst e;cases r1;obtain⟨its,rv,p,hz⟩:=I1.list hq;refine wpAny_pyIter_list p.isList ?_;refine⟨s1.heap.objs.size,[s1.heap.objs.size],_,_,H1,rfl,I1.kept (t':=s1.toks) fun b o e=>Zi _ e,xpj a _,⟨_,Z2 _ rfl,rfl,rfl⟩,fun b hb=>?_,q⟩;have e:b=s1.heap.objs.size:=by simpa using hb
 subst e;exact I1.fpOk (Zl _) (I1.hok.fresh (Zl _))
theorem xkw {pins:List (Addr × Obj)}{Z:St}{H:Hp}{s:Shared}{R:It->Hp->Prop}{E:Value->Shared->Prop}{lo hi:Int}{t u v:Tok}{tk:Nat} (I:Inv X pins Z H s) (h1:-(2 ^ 62)<=lo) (h2:lo<2 ^ 62) (h3:-(2 ^ 62)<=hi) (h4:hi<2 ^ 62)
    (q:R (Itr lo (hi-lo).toNat) H):wpAny (model X.prog X.w) X.A (pyIter (.ref s.heap.objs.size)) (PIE X pins Z tg R) E { s with heap:=s.heap.push { cls:=.type "range",data:=.fields #[.int lo t,.int hi u,.int 1 v] },toks:=tk }:=by
  refine wpAny_pyIter_range (IsRange.new ..) (small_one h1 h2 h3 h4) ?_;have I1:Inv X pins Z H { s with heap:=s.heap.push { cls:=.type "range",data:=.fields #[.int lo t,.int hi u,.int 1 v] },toks:=tk }:=I.kept fun b o e=>Zi _ e;refine⟨(s.heap.push { cls:=.type "range",data:=.fields #[.int lo t,.int hi u,.int 1 v] }).objs.size,[(s.heap.push { cls:=.type "range",data:=.fields #[.int lo t,.int hi u,.int 1 v] }).objs.size],_,_,H,rfl,
    I1.kept (t':=tk) fun b o e=>Zi _ e,xn0 _ lo (hi-lo).toNat,?_,fun b hb=>?_,q⟩
  . have e1:lo+((0:Nat):Int)*1=lo:=by simp
    have e2:(((hi-lo).toNat:Nat):Int)-((0:Nat):Int)=Builtin.Range.rangeSize lo hi 1:=by rw[rangeSize_one]; split<;>omega
    show IsRangeIter _ _ (lo+((0:Nat):Int)*1) ((((hi-lo).toNat:Nat):Int)-((0:Nat):Int)) 1;rw[e1,e2];exact Z2 _ rfl
  . have e:b=(s.heap.push { cls:=.type "range",data:=.fields #[.int lo t,.int hi u,.int 1 v] }).objs.size:=by simpa using hb
    subst e;exact I1.fpOk (Zl _) (I1.hok.fresh (Zl _))
def xwi (ta:TA):TI:=fun Z H R=>ta Z H fun vs H1=>∃ j:Int,vs=[.int j]/\-(2 ^ 62)<=j/\j<2 ^ 62/\R (Itr 0 j.toNat) H1
def xv9 (ta:TA):TI:=fun Z H R=>ta Z H fun vs H1=>∃ i j:Int,vs=[.int i,.int j]/\(-(2 ^ 62)<=i/\i<2 ^ 62/\-(2 ^ 62)<=j/\j<2 ^ 62)/\R (Itr i (j-i).toNat) H1
theorem xjt {a:Expr}{ta:TA}{p pos:Pos} (hg:Gl X "range") (hm:X.mg "range"=none) (ha:PA X [a] ta) (hs:starEach [a] X.env=[(false,eval a X.env)]:=by rfl):PI X tg (.Call (.Name "range" p) [a] [] pos) (xwi ta):=by
 intro pins s Z H R I h;refine Call_ (xc1 I hg hm boot_range (Ji (thn (ha pos pins s Z H _ I h) fun us s1 ⟨vs,H1,I1,r1,q1⟩=>?_) hs rfl));obtain⟨j,e,q1,q2,q⟩:=q1;subst e;cases r1 with
 | cons r rr =>
  cases rr;obtain⟨t,rfl⟩:=r;exact call_range_1 (xkw I1 (by omega) (by omega) q1 q2 (by simpa using q))
theorem xcu {a b:Expr}{ta:TA}{p pos:Pos} (hg:Gl X "range") (hm:X.mg "range"=none) (ha:PA X [a,b] ta) (hs:starEach [a,b] X.env=[(false,eval a X.env),(false,eval b X.env)]:=by rfl) (hs2:starEach [b] X.env=[(false,eval b X.env)]:=by rfl) :
    PI X tg (.Call (.Name "range" p) [a,b] [] pos) (xv9 ta):=by
  intro pins s Z H R I h;refine Call_ (xc1 I hg hm boot_range (Ji (thn (ha pos pins s Z H _ I h) fun us s1 ⟨vs,H1,I1,r1,q1⟩=>?_) (by rw[hs,hs2]) (by rw[hs2]; rfl)));obtain⟨i,j,e,⟨q1,q2,q3,q4⟩,q⟩:=q1;subst e;cases r1 with
  | cons r rr =>
    cases rr with
    | cons r' rr =>
      cases rr;obtain⟨t,rfl⟩:=r;obtain⟨t',rfl⟩:=r';exact call_range_2 (xkw I1 q1 q2 q3 q4 q)
def tFor (wi:TI) (g:TG) (tb:TS):TS:=fun D Z H=>wi Z H fun J H1=>∃ W:Nat->Nat->St->Hp->Prop,(∃ m,W 0 m Z H1)/\∀ i m Z H,W i m Z H ->
 (J.stop i H/\D.nx Z H)\/(J.go i H/\∃ N:St->Hp->Prop,(∀ σ' H',N σ' H'->∃ m',m'<m/\W (i+1) m' σ' H')/\∀ x H',J.yld i H x H'->g x Z H' fun σ2 H2=>tb { D with nx:=N,ct:=N,bk:=D.nx } σ2 H2)
def xfy (fp:List Addr) (h:Heap):List (Addr × Obj):=fp.filterMap fun b=>(h.get? b).map fun o=>(b,o)
theorem xdk {fp:List Addr}{h:Heap}{b:Addr}{o:Obj} (hb:b∈fp) (e:h.get? b=some o):(b,o)∈xfy fp h:=List.mem_filterMap.mpr ⟨b,hb,by rw[e]; rfl⟩
theorem xpd {fp:List Addr}{h:Heap}{p:Addr × Obj} (hp:p∈xfy fp h):p.1∈fp/\h.get? p.1=some p.2:=by
 obtain⟨b,hb,e⟩:=List.mem_filterMap.mp hp;cases q:h.get? b with
 | none=>rw[q] at e; cases e
 | some o =>
  rw[q] at e;have e':(b,o)=p:=JD.inj e;subst e';exact⟨hb,q⟩
theorem Inv.pinned {pins:List (Addr × Obj)}{Z:St}{H:Hp}{s:Shared}{fp:List Addr} (I:Inv X pins Z H s) (hf:∀ b∈fp,FpOk X pins H b) (ho:∀ b∈fp,∃ o,s.heap.get? b=some o/\∀ v,o.data≠.cell v):Inv X (pins++xfy fp s.heap) Z H s :=
 I.pins_of fun p hp=>(Z9.mp hp).elim (fun z=>I.pin p (ZN _ z)) fun z=>by
  obtain⟨hb,e⟩:=xpd z;obtain⟨f0,f1,f2,_⟩:=hf p.1 hb;obtain⟨o,e',d⟩:=ho p.1 hb;rw[e] at e'; cases e';exact⟨e,f0,f1,f2,d⟩
theorem Inv.unpinned {pins pl:List (Addr × Obj)}{Z:St}{H:Hp}{s:Shared} (I:Inv X (pins++pl) Z H s):Inv X pins Z H s:=I.pins_of fun p hp=>I.pin p (ZN _ (Yw _ hp))
theorem xar {iter:Expr}{body:List Stmt}{wi:TI}{g:TG}{tb:TS}{pos:Pos} (hp:PassesOwn (model X.prog X.w) X.A X.env X.xe) (hc:X.calm=true) (hi:PI X tg iter wi) (hg:PG X tg g) (hb:PSs X body tb)
    (hs:∀ x,foldedSetIterable iter X.env x=pure x:=by intro _; rfl):PS X (.For tg iter body [] pos) (tFor wi g tb):=by
  intro pins s Z H D I h;refine wpAny_For (thn (hi pins s Z H _ I h) fun v s1 h1=>thn h1 fun itv s2 h2=>?_) hs;obtain⟨it,fp,tn,J,H2,e,I2,T,st2,f2,W,⟨m0,w0⟩,turn⟩:=h2;subst e
  -- what stays true of the iterator's objects through the loop
  have stat:∀{H':Hp},(∀ b∈fp,H' b=none)->∀ b∈fp,FpOk X pins H' b:=fun hn b hb=>⟨hn b hb,(f2 b hb).2⟩
  refine codeAny_forLoop_any (fun n s'=>∃ i σ' H',Inv X pins σ' H' s'/\tn i s'.heap/\(∀ b∈fp,H' b=none)/\W i n σ' H') ?_ m0 ⟨0,Z,H2,I2,st2,fun b hb=>(f2 b hb).1,w0⟩;rintro n s3 ⟨i,σ3,H3,I3,st3,fr3,w3⟩;rcases turn i n σ3 H3 w3 with⟨stop,qn⟩|⟨go,N,hN,step⟩
  . refine Qb hp (thn (T.done X rfl rfl rfl hc i pins s3 σ3 H3 X.xe I3 (stat fr3) st3 stop) fun r s4 ⟨hr,I4⟩=>?_)
    subst hr;exact QF ⟨σ3,H3,I4,qn⟩
  . refine Qb hp (thn (T.item X rfl rfl rfl hc i pins s3 σ3 H3 X.xe I3 (stat fr3) st3 go) fun r s4 ⟨u,hr,h4⟩=>?_)
    subst hr;refine Qb hp (thn h4 fun _ s5 ⟨x,H5,I5,r5,y5,st5,fr5⟩=>?_);have I5':=I5.pinned (stat fr5) (T.obj _ _ st5);refine Qb hp (thn (hg _ s5 σ3 H5 x u _ I5' r5 (step x H5 y5)) fun _ s6 ⟨σ6,H6,I6,q6⟩=>?_);refine Qb hp (thn (hb _ s6 σ6 H6 _ I6 q6) fun f s7 q7=>?_);have again:∀{σ7:St}{H7:Hp},Inv X (pins++xfy fp s5.heap) σ7 H7 s7->N σ7 H7->∃ m,m<n/\∃ i σ' H',Inv X pins σ' H' s7/\tn i s7.heap/\(∀ b∈fp,H' b=none)/\W i m σ' H':=fun {σ7 H7} I7 n7=>by
      obtain⟨m',hm,w7⟩:=hN σ7 H7 n7;refine⟨m',hm,i+1,σ7,H7,I7.unpinned,T.keep _ _ _ st5 fun b hb o e=>(I7.pin (b,o) (ZN _ (ZN _ (xdk hb e)))).1,fun b hb=>?_,w7⟩;obtain⟨o,e,d⟩:=T.obj _ _ st5 b hb;exact (I7.pin (b,o) (ZN _ (ZN _ (xdk hb e)))).2.1
    cases f with
    | next=>obtain⟨σ7,H7,I7,n7⟩:=q7; exact again I7 n7
    | cont=>obtain⟨σ7,H7,I7,n7⟩:=q7; exact again I7 n7
    | brk=>obtain⟨σ7,H7,I7,q7⟩:=q7; exact⟨σ7,H7,I7.unpinned,q7⟩
    | ret v=>obtain⟨x7,σ7,H7,I7,r7,q7⟩:=q7; exact⟨x7,σ7,H7,I7.unpinned,r7,q7⟩
end
theorem xa9 {K:Zd}{a:Addr}{xs:List V}{g:TG}{tb:TS}{D:Ends}{Z:St}{H:Hp} (Pv:Nat->St->Hp->Prop) (h0:Pv 0 Z H) (hl:∀ i Z H,i<=xs.length->Pv i Z H->SqL K H a xs)
    (hs:∀ i x Z H,xs[i]?=some x->Pv i Z H->g x Z H fun σ2 H2=>tb { D with nx:=Pv (i+1),ct:=Pv (i+1),bk:=D.nx } σ2 H2) (hd:∀ Z H,Pv xs.length Z H->D.nx Z H) :
    ∃ W:Nat->Nat->St->Hp->Prop,(∃ m,W 0 m Z H)/\∀ i m Z H,W i m Z H ->
      ((Itl K a).stop i H/\D.nx Z H)\/((Itl K a).go i H/\∃ N:St->Hp->Prop,(∀ σ' H',N σ' H'->∃ m',m'<m/\W (i+1) m' σ' H')/\∀ x H',(Itl K a).yld i H x H'->g x Z H' fun σ2 H2=>tb { D with nx:=N,ct:=N,bk:=D.nx } σ2 H2):=by
  refine⟨fun i m Z H=>m=xs.length-i/\i<=xs.length/\Pv i Z H,⟨xs.length,by simp,ZZ _,h0⟩,?_⟩;rintro i m Z H ⟨rfl,hi,p⟩;have q:=hl i Z H hi p;by_cases hlt:i<xs.length
  . refine .inr ⟨⟨xs,xs[i],q,by simp[hlt]⟩,Pv (i+1),fun σ' H' p'=>⟨xs.length-(i+1),by omega,rfl,hlt,p'⟩,fun x H' y=>?_⟩
    obtain⟨e,y⟩:=y;subst e;exact hs i x Z _ (y xs q) p
  . have e:i=xs.length:=by omega
    subst e;exact .inl ⟨⟨xs,q,Zl _⟩,hd Z H p⟩
theorem xjr {lo:Int}{n:Nat}{g:TG}{tb:TS}{D:Ends}{Z:St}{H:Hp} (Pv:Nat->St->Hp->Prop) (h0:Pv 0 Z H)
    (hs:∀ i Z H,i<n->Pv i Z H->g (.int (lo+i)) Z H fun σ2 H2=>tb { D with nx:=Pv (i+1),ct:=Pv (i+1),bk:=D.nx } σ2 H2) (hd:∀ Z H,Pv n Z H->D.nx Z H) :
    ∃ W:Nat->Nat->St->Hp->Prop,(∃ m,W 0 m Z H)/\∀ i m Z H,W i m Z H ->
      ((Itr lo n).stop i H/\D.nx Z H)\/((Itr lo n).go i H/\∃ N:St->Hp->Prop,(∀ σ' H',N σ' H'->∃ m',m'<m/\W (i+1) m' σ' H')/\∀ x H',(Itr lo n).yld i H x H'->g x Z H' fun σ2 H2=>tb { D with nx:=N,ct:=N,bk:=D.nx } σ2 H2):=by
  refine⟨fun i m Z H=>m=n-i/\i<=n/\Pv i Z H,⟨n,by simp,ZZ _,h0⟩,?_⟩;rintro i m Z H ⟨rfl,hi,p⟩;by_cases hlt:i<n
  . refine .inr ⟨hlt,Pv (i+1),fun σ' H' p'=>⟨n-(i+1),by omega,rfl,hlt,p'⟩,fun x H' y=>?_⟩
    obtain⟨e,y⟩:=y;subst e y;exact hs i Z _ hlt p
  . have e:i=n:=by omega
    subst e;exact .inl ⟨Zl _,hd Z H p⟩
abbrev R2:=V->V->Hp->VK->Prop
def OpR (X:Cx) (f:Value->Value->Sem Value) (r:R2):Prop :=
 ∀(pins:List (Addr × Obj)) (s:Shared) (Z:St) (H:Hp) (x y:V) (v u:Value) (Q:VK),Inv X pins Z H s->RelV x v->RelV y u->r x y H Q ->
  wpAny (model X.prog X.w) X.A (f v u) (EP X pins Z Q) X.xe s
def UnR (X:Cx) (f:Value->Sem Value) (r:V->Hp->VK->Prop):Prop :=
 ∀(pins:List (Addr × Obj)) (s:Shared) (Z:St) (H:Hp) (x:V) (v:Value) (Q:VK),Inv X pins Z H s->RelV x v->r x H Q ->
  wpAny (model X.prog X.w) X.A (f v) (EP X pins Z Q) X.xe s
def xbz (X:Cx) (f:Value) (r:List V->Hp->VK->Prop):Prop :=
 ∀(pins:List (Addr × Obj)) (s:Shared) (Z:St) (H:Hp) (xs:List V) (us:List Value) (Q:VK),Inv X pins Z H s->Vals xs us->r xs H Q ->
  wpAny (model X.prog X.w) X.A (call f us) (EP X pins Z Q) X.xe s
def tOp (r:R2) (ta tb:TE):TE:=fun Z H Q=>ta Z H fun x H1=>tb Z H1 fun y H2=>r x y H2 Q
def tUn (r:V->Hp->VK->Prop) (ta:TE):TE:=fun Z H Q=>ta Z H fun x H1=>r x H1 Q
inductive rI (C:Int->Int->Prop) (g:Int->Int->V) (x:V) (y:V) (H:Hp) (Q:VK):Prop
 | mk (i j) (e_:x=.int i) (r_:y=.int j/\C i j/\Q (g i j) H)
inductive rI0 (g:Int->Int->V) (x:V) (y:V) (H:Hp) (Q:VK):Prop
 | mk (i j) (e_:x=.int i) (r_:y=.int j/\Q (g i j) H)
def rU (g:Int->V):V->Hp->VK->Prop:=fun x H Q=>∃ i,x=.int i/\Q (g i) H
section
variable {X:Cx}{a b c:Expr}{ta tb tc:TE}{pos:Pos}
theorem binT (ha:PE X a ta) (hb:PE X b tb) {pins:List (Addr × Obj)}{s:Shared}{Z:St}{H:Hp}{R:V->V->Hp->Prop} (I:Inv X pins Z H s)
    (h:ta Z H fun x H1=>tb Z H1 fun y H2=>R x y H2) {Q:Value->Shared->Prop}{f:Value->Value->Sem Value}
    (hf:∀ v u s2 x y H2,Inv X pins Z H2 s2->RelV x v->RelV y u->R x y H2->wpAny (model X.prog X.w) X.A (f v u) Q X.xe s2) :
    wpAny (model X.prog X.w) X.A (eval a X.env) (fun v s₁=>wpAny (model X.prog X.w) X.A (eval b X.env) (fun u s₂=>wpAny (model X.prog X.w) X.A (f v u) Q X.xe s₂) X.xe s₁) X.xe s:=by
  refine thn (ha pins s Z H _ I h) fun v s1 ⟨x,H1,I1,r1,q1⟩=>?_;refine thn (hb pins s1 Z H1 _ I1 q1) fun u s2 ⟨y,H2,I2,r2,q2⟩=>?_;exact hf v u s2 x y H2 I2 r1 r2 q2
theorem xt {op:Operator}{r:R2} (ho:OpR X (binaryOp op) r) (ha:PE X a ta) (hb:PE X b tb):PE X (.BinOp a op b pos) (tOp r ta tb):=by
 intro pins s Z H Q I h;exact wpAny_BinOp (binT ha hb I h fun v u s2 x y H2 I2 rx ry q=>ho pins s2 Z H2 x y v u Q I2 rx ry q)
theorem xrn {op:UnaryOp}{r:V->Hp->VK->Prop} (ho:UnR X (unaryOp op) r) (ha:PE X a ta):PE X (.UnaryOp op a pos) (tUn r ta):=by
 intro pins s Z H Q I h;exact UnaryOp_ (thn (ha pins s Z H _ I h) fun v s1 ⟨x,H1,I1,r1,q1⟩=>ho pins s1 Z H1 x v Q I1 r1 q1)
theorem opI {f:Value->Value->Sem Value}{C:Int->Int->Prop}{g:Int->Int->Int}
    (rule:∀(i j:Int) (t u:Tok) (s:Shared) (Q:Value->Shared->Prop) (E:Value->Shared->Prop),C i j->Q (.int (g i j) s.toks) { s with toks:=s.toks+1 }->wpAny (model X.prog X.w) X.A (f (.int i t) (.int j u)) Q E s) :
    OpR X f (rI C fun i j=>.int (g i j)):=by
  intro pins s Z H x y v u Q I rx ry h;obtain⟨i,j,rfl,rfl,hc,q⟩:=h;obtain⟨t,rfl⟩:=rx;obtain⟨t',rfl⟩:=ry;exact rule i j t t' s _ _ hc ⟨.int (g i j),H,I.tok _,⟨_,rfl⟩,q⟩
theorem opI0 {f:Value->Value->Sem Value}{g:Int->Int->Int}
    (rule:∀(i j:Int) (t u:Tok) (s:Shared) (Q:Value->Shared->Prop) (E:Value->Shared->Prop),Q (.int (g i j) s.toks) { s with toks:=s.toks+1 }->wpAny (model X.prog X.w) X.A (f (.int i t) (.int j u)) Q E s) :
    OpR X f (rI0 fun i j=>.int (g i j)):=by
  intro pins s Z H x y v u Q I rx ry h;obtain⟨i,j,rfl,rfl,q⟩:=h;obtain⟨t,rfl⟩:=rx;obtain⟨t',rfl⟩:=ry;exact rule i j t t' s _ _ ⟨.int (g i j),H,I.tok _,⟨_,rfl⟩,q⟩
theorem opB0 {f:Value->Value->Sem Value}{g:Int->Int->Bool}
    (rule:∀(i j:Int) (t u:Tok) (s:Shared) (Q:Value->Shared->Prop) (E:Value->Shared->Prop),Q (.bool (g i j)) s->wpAny (model X.prog X.w) X.A (f (.int i t) (.int j u)) Q E s) :
    OpR X f (rI0 fun i j=>.bl (g i j)):=by
  intro pins s Z H x y v u Q I rx ry h;obtain⟨i,j,rfl,rfl,q⟩:=h;obtain⟨t,rfl⟩:=rx;obtain⟨t',rfl⟩:=ry;exact rule i j t t' s _ _ ⟨.bl (g i j),H,I,rfl,q⟩
def CDiv (i j:Int):Prop:=0<j/\j<1073741824
def CMul (i j:Int):Prop:=(-(2 ^ 64)<i/\i<2 ^ 64)\/(-(2 ^ 64)<j/\j<2 ^ 64)
theorem CMul.ok {i j:Int} (h:CMul i j):IntMulOk i j:=by
 rcases h with⟨h1,h2⟩|⟨h1,h2⟩
 .exact .of_left (intBits_le_64 h1 h2)
 .exact .of_right (intBits_le_64 h1 h2)
theorem xai:OpR X (binaryOp .Add) (rI0 fun i j=>.int (i+j)):=opI0 fun _ _ _ _ _ _ _ q=>add_int q
theorem xdq:OpR X (binaryOp .Sub) (rI0 fun i j=>.int (i-j)):=opI0 fun _ _ _ _ _ _ _ q=>sub_int q
theorem xgb:OpR X (binaryOp .Mult) (rI CMul fun i j=>.int (i*j)):=opI fun _ _ _ _ _ _ _ hc q=>mul_int q hc.ok
theorem xiu:OpR X (binaryOp .FloorDiv) (rI CDiv fun i j=>.int (i / j)):=opI fun i j _ _ _ _ _ hc q=>by
 have h1:(0:Int)<j:=hc.1;have h2:j<1073741824:=hc.2;exact floordiv_int (by omega) (by rw[Int.fdiv_eq_ediv_of_nonneg i (by omega)]; exact q) (.inl (QA (by omega)))
theorem xam:OpR X (binaryOp .Mod) (rI (fun _ j=>0<j) fun i j=>.int (i % j)):=opI fun i j _ _ _ _ _ hc q=>by
 have h1:(0:Int)<j:=hc;exact mod_int' (by omega) (by rw[Int.fmod_eq_emod_of_nonneg i (by omega)]; exact q)
theorem unI {f:Value->Sem Value}{g:Int->Int}
    (rule:∀(i:Int) (t:Tok) (s:Shared) (Q:Value->Shared->Prop) (E:Value->Shared->Prop),Q (.int (g i) s.toks) { s with toks:=s.toks+1 }->wpAny (model X.prog X.w) X.A (f (.int i t)) Q E s) :
    UnR X f (rU fun i=>.int (g i)):=by
  intro pins s Z H x v Q I rx h;obtain⟨i,rfl,q⟩:=h;obtain⟨t,rfl⟩:=rx;exact rule i t s _ _ ⟨.int (g i),H,I.tok _,⟨_,rfl⟩,q⟩
theorem xpf:UnR X (unaryOp .USub) (rU fun i=>.int (-i)):=unI fun _ _ _ _ _ q=>neg_int q
end
def scal:V->V->Bool
 | .non,.non=>true|.non,.int _=>true|.int _,.non=>true|.non,.bl _=>true|.bl _,.non=>true|.non,.str _=>true|.str _,.non=>true
 | .int _,.int _=>true|.bl _,.bl _=>true|.str _,.str _=>true|.byt _,.byt _=>true
 | .int _,.str _=>true|.str _,.int _=>true|.bl _,.str _=>true|.str _,.bl _=>true
 | _,_=>false
def rEq:R2:=fun x y H Q=>scal x y=true/\Q (.bl (decide (x=y))) H
def rNe:R2:=fun x y H Q=>scal x y=true/\Q (.bl (!decide (x=y))) H
theorem xmh {i j:Int}:decide (V.int i=V.int j)=(i == j):=by
 rw[ZU];simp
theorem xn4 {i j:Bool}:decide (V.bl i=V.bl j)=(i == j):=by
 rw[ZU];simp
theorem xl4 {i j:Str}:decide (V.str i=V.str j)=(i == j):=by
 rw[ZU];simp
theorem xmn {i j:Array UInt8}:decide (V.byt i=V.byt j)=(i.toList == j.toList):=by
 rw[ZU];cases i;cases j;simp
section
variable {X:Cx}{a b c:Expr}{ta tb tc:TE}{pos:Pos}
theorem xal {pins:List (Addr × Obj)}{Z:St}{H:Hp}{s:Shared}{Q:VK}{k k':Bool} (I:Inv X pins Z H s) (q:Q (.bl k) H) (e:k=k'):EP X pins Z Q (.bool k') s:=by
 subst e;exact⟨.bl k,H,I,rfl,q⟩
theorem xbh:OpR X (compareOp .Eq) rEq:=by
 intro pins s Z H x y v u Q I rx ry h;obtain⟨hs,q⟩:=h;cases x with
 | non =>
  cases rx;cases y with
  | non=>cases ry; exact PySem.EqNone.eq_none_none (xal I q (by simp))
  | bl j=>cases ry; exact PySem.EqNone.eq_none_bool (xal I q (by simp))
  | int j=>obtain⟨t',rfl⟩:=ry; exact PySem.EqNone.eq_none_int (xal I q (by simp))
  | str j=>obtain⟨t',rfl⟩:=ry; exact PySem.EqNone.eq_none_str (xal I q (by simp))
  | _=>exact absurd (show false=true from hs) Z1
 | bl i =>
  cases rx;cases y with
  | non=>cases ry; exact PySem.EqNone.eq_bool_none (xal I q (by simp))
  | bl j=>cases ry; exact eq_bool (xal I q xn4)
  | str j=>obtain⟨t',rfl⟩:=ry; exact PySem.EqMixed.eq_bool_str (xal I q (by simp))
  | _=>exact absurd (show false=true from hs) Z1
 | int i =>
  obtain⟨t,rfl⟩:=rx;cases y with
  | non=>cases ry; exact PySem.EqNone.eq_int_none (xal I q (by simp))
  | int j=>obtain⟨t',rfl⟩:=ry; exact eq_int (xal I q xmh)
  | str j=>obtain⟨t',rfl⟩:=ry; exact PySem.EqMixed.eq_int_str (xal I q (by simp))
  | _=>exact absurd (show false=true from hs) Z1
 | str i =>
  obtain⟨t,rfl⟩:=rx;cases y with
  | non=>cases ry; exact PySem.EqNone.eq_str_none (xal I q (by simp))
  | bl j=>cases ry; exact PySem.EqMixed.eq_str_bool (xal I q (by simp))
  | int j=>obtain⟨t',rfl⟩:=ry; exact PySem.EqMixed.eq_str_int (xal I q (by simp))
  | str j=>obtain⟨t',rfl⟩:=ry; exact eq_str (xal I q xl4)
  | _=>exact absurd (show false=true from hs) Z1
 | byt i =>
  obtain⟨t,rfl⟩:=rx;cases y with
  | byt j=>obtain⟨t',rfl⟩:=ry; exact PySem.W.eq_bytes (xal I q xmn)
  | _=>exact absurd (show false=true from hs) Z1
 | _=>cases y<;>exact absurd (show false=true from hs) Z1
theorem xd7:OpR X (compareOp .NotEq) rNe:=by
 intro pins s Z H x y v u Q I rx ry h;obtain⟨hs,q⟩:=h;cases x with
 | non =>
  cases rx;cases y with
  | non=>cases ry; exact PySem.EqNone.ne_none_none (xal I q (by simp))
  | bl j=>cases ry; exact PySem.EqNone.ne_none_bool (xal I q (by simp))
  | int j=>obtain⟨t',rfl⟩:=ry; exact PySem.EqNone.ne_none_int (xal I q (by simp))
  | str j=>obtain⟨t',rfl⟩:=ry; exact PySem.EqNone.ne_none_str (xal I q (by simp))
  | _=>exact absurd (show false=true from hs) Z1
 | bl i =>
  cases rx;cases y with
  | non=>cases ry; exact PySem.EqNone.ne_bool_none (xal I q (by simp))
  | bl j=>cases ry; exact ne_bool (xal I q (congrArg not xn4))
  | str j=>obtain⟨t',rfl⟩:=ry; exact PySem.EqMixed.ne_bool_str (xal I q (by simp))
  | _=>exact absurd (show false=true from hs) Z1
 | int i =>
  obtain⟨t,rfl⟩:=rx;cases y with
  | non=>cases ry; exact PySem.EqNone.ne_int_none (xal I q (by simp))
  | int j=>obtain⟨t',rfl⟩:=ry; exact ne_int (xal I q (congrArg not xmh))
  | str j=>obtain⟨t',rfl⟩:=ry; exact PySem.EqMixed.ne_int_str (xal I q (by simp))
  | _=>exact absurd (show false=true from hs) Z1
 | str i =>
  obtain⟨t,rfl⟩:=rx;cases y with
  | non=>cases ry; exact PySem.EqNone.ne_str_none (xal I q (by simp))
  | bl j=>cases ry; exact PySem.EqMixed.ne_str_bool (xal I q (by simp))
  | int j=>obtain⟨t',rfl⟩:=ry; exact PySem.EqMixed.ne_str_int (xal I q (by simp))
  | str j=>obtain⟨t',rfl⟩:=ry; exact ne_str (xal I q (congrArg not xl4))
  | _=>exact absurd (show false=true from hs) Z1
 | byt i =>
  obtain⟨t,rfl⟩:=rx;cases y with
  | byt j=>obtain⟨t',rfl⟩:=ry; exact PySem.W.ne_bytes (xal I q (congrArg not xmn))
  | _=>exact absurd (show false=true from hs) Z1
 | _=>cases y<;>exact absurd (show false=true from hs) Z1
theorem xkk:OpR X (compareOp .Lt) (rI0 fun i j=>.bl (decide (i<j))):=opB0 fun _ _ _ _ _ _ _ q=>lt_int q
theorem xgm:OpR X (compareOp .LtE) (rI0 fun i j=>.bl (decide (i<=j))):=opB0 fun _ _ _ _ _ _ _ q=>le_int q
theorem xka:OpR X (compareOp .Gt) (rI0 fun i j=>.bl (decide (j<i))):=opB0 fun _ _ _ _ _ _ _ q=>gt_int q
theorem xv7:OpR X (compareOp .GtE) (rI0 fun i j=>.bl (decide (j<=i))):=opB0 fun _ _ _ _ _ _ _ q=>ge_int q
theorem xob:OpR X (compareOp .Is) (fun x y H Q=>y=.non/\Q (.bl (decide (x=.non))) H):=by
 intro pins s Z H x y v u Q I rx ry h;obtain⟨rfl,q⟩:=h;cases ry;refine is_none_gen (xal I q ?_);cases x<;>first
  | (cases rx; rfl)
  | (obtain⟨t,rfl⟩:=rx; rfl)
theorem xi4:OpR X (compareOp .IsNot) (fun x y H Q=>y=.non/\Q (.bl (!decide (x=.non))) H):=by
 intro pins s Z H x y v u Q I rx ry h;obtain⟨rfl,q⟩:=h;cases ry;refine isnot_none_gen (xal I q ?_);cases x<;>first
  | (cases rx; rfl)
  | (obtain⟨t,rfl⟩:=rx; rfl)
def isObj:HO->Bool
 | .lst _=>true
 | .ins _ _ _=>true
 | _=>false
theorem x8 (b:Expr) {op:CmpOp} (h:op≠.In:=by decide) (h2:op≠.NotIn:=by decide):behindInMarks op b=false:=by
 have e1:(op == CmpOp.In)=false:=by cases op<;>first|rfl|exact absurd rfl h
 have e2:(op == CmpOp.NotIn)=false:=by cases op<;>first|rfl|exact absurd rfl h2
 cases b<;>simp[behindInMarks,e1,e2]
theorem xcf {op:CmpOp}{r:R2} (ho:OpR X (compareOp op) r) (ha:PE X a ta) (hb:PE X b tb) (hm:behindInMarks op b=false):PE X (.Compare a [op] [b] pos) (tOp r ta tb):=by
 intro pins s Z H Q I h;exact wpAny_Compare1 (binT ha hb I h fun v u s2 x y H2 I2 rx ry q=>ho pins s2 Z H2 x y v u Q I2 rx ry q) hm
inductive xtm (x:V) (H':Hp) (Q:Bool->Hp->Prop):Prop
 | mk (k) (e_:x=.bl k) (r_:Q k H')
def xrz (t:TE):TT:=fun Z H Q=>t Z H fun x H'=>xtm x H' Q
theorem x6 {op:CmpOp}{r:R2} (ho:OpR X (compareOp op) r) (ha:PE X a ta) (hb:PE X b tb) (hm:behindInMarks op b=false):PT X (.Compare a [op] [b] pos) (xrz (tOp r ta tb)):=by
 intro pins s Z H Q I h;refine wpAny_isTrue_Compare1 (thn (ha pins s Z H _ I h) fun v s1 ⟨x,H1,I1,r1,q1⟩=>thn (hb pins s1 Z H1 _ I1 q1) fun u s2 ⟨y,H2,I2,r2,q2⟩ =>
  thn (ho pins s2 Z H2 x y v u _ I2 r1 r2 q2) fun c s3 ⟨z,H3,I3,r3,k,e,q3⟩=>?_) hm
 subst e;cases r3;exact J8 ⟨H3,I3,q3⟩
def xo2 (r r':R2) (ta tb tc:TE):TE:=fun Z H Q=>ta Z H fun x H1=>tb Z H1 fun y H2=>r x y H2 fun z H3=>∃ k,z=.bl k /\
 (if k=true then tc Z H3 fun w' H4=>r' y w' H4 Q else Q (.bl false) H3)
theorem xha {op op':CmpOp}{r r':R2} (ho:OpR X (compareOp op) r) (ho':OpR X (compareOp op') r') (ha:PE X a ta) (hb:PE X b tb) (hc:PE X c tc)
    (hm:lastMarks [op,op'] [b,c]=false:=by with_unfolding_all rfl):PE X (.Compare a [op,op'] [b,c] pos) (xo2 r r' ta tb tc):=by
  intro pins s Z H Q I h;refine Compare_chain (thn (ha pins s Z H _ I h) fun v s1 ⟨x,H1,I1,r1,q1⟩=>chain_link (thn (hb pins s1 Z H1 _ I1 q1) fun u s2 ⟨y,H2,I2,r2,q2⟩ =>
    thn (ho pins s2 Z H2 x y v u _ I2 r1 r2 q2) fun d s3 ⟨z,H3,I3,r3,k,e,q3⟩=>?_)) hm
  subst e;cases r3;refine J8 ?_;cases k with
  | false=>exact ite_ff ⟨.bl false,H3,I3,rfl,q3⟩
  | true=>exact ite_tt (chain_last (thn (hc pins s3 Z H3 _ I3 q3) fun w' s4 ⟨z',H4,I4,r4,q4⟩=>ho' pins s4 Z H4 y z' u w' Q I4 r2 r4 q4))
theorem xkx {op op':CmpOp}{r r':R2} (ho:OpR X (compareOp op) r) (ho':OpR X (compareOp op') r') (ha:PE X a ta) (hb:PE X b tb) (hc:PE X c tc)
    (hm:lastMarks [op,op'] [b,c]=false:=by with_unfolding_all rfl):PT X (.Compare a [op,op'] [b,c] pos) (xrz (xo2 r r' ta tb tc)):=by
  intro pins s Z H Q I h;refine isTrue_chain (thn (ha pins s Z H _ I h) fun v s1 ⟨x,H1,I1,r1,q1⟩=>test_link (thn (hb pins s1 Z H1 _ I1 q1) fun u s2 ⟨y,H2,I2,r2,q2⟩ =>
    thn (ho pins s2 Z H2 x y v u _ I2 r1 r2 q2) fun d s3 ⟨z,H3,I3,r3,k,e,q3⟩=>?_)) hm
  subst e;cases r3;refine J8 ?_;cases k with
  | false =>
    obtain⟨k',e',q'⟩:=q3;cases e';exact ite_ff ⟨H3,I3,q'⟩
  | true =>
    refine ite_tt (test_last (thn (hc pins s3 Z H3 _ I3 q3) fun w' s4 ⟨z',H4,I4,r4,q4⟩=>thn (ho' pins s4 Z H4 y z' u w' _ I4 r2 r4 q4) fun d' s5 ⟨z2,H5,I5,r5,k2,e2,q5⟩=>?_));subst e2;cases r5;exact J8 ⟨H5,I5,q5⟩
theorem xf6:(sizeLine:Nat)<2 ^ 63:=by rw[YY]; decide
theorem xia:OpR X (binaryOp .Add) (fun x y H Q=>∃ i j,x=.str i/\y=.str j/\i.length+j.length<=sizeLine/\Q (.str (i++j)) H):=by
 intro pins s Z H x y v u Q I rx ry h;obtain⟨i,j,rfl,rfl,hz,q⟩:=h;obtain⟨t,rfl⟩:=rx;obtain⟨t',rfl⟩:=ry;exact add_str (fun t' tk=>⟨.str (i++j),H,I.tok _,⟨_,rfl⟩,q⟩) hz
theorem xb4 {x:V}{us:List Value} (r:Vals [x] us):∃ u,us=[u]/\RelV x u:=by
 cases r with
 | cons r1 r2=>cases r2; exact⟨_,rfl,r1⟩
theorem xh3 {x y:V}{us:List Value} (r:Vals [x,y] us):∃ u w',us=[u,w']/\RelV x u/\RelV y w':=by
 cases r with
 | cons r1 r2 =>
  cases r2 with
  | cons r3 r4=>cases r4; exact⟨_,_,rfl,r1,r3⟩
theorem xq4:xbz X (.builtin "abs") (fun xs H Q=>∃ i,xs=[.int i]/\Q (.int (if i<0 then -i else i)) H):=by
 intro pins s Z H xs us Q I r h;obtain⟨i,rfl,q⟩:=h;obtain⟨u,rfl,t,rfl⟩:=xb4 r;exact call_abs_int fun u tk=>⟨.int (if i<0 then -i else i),H,I.tok _,⟨_,rfl⟩,q⟩
theorem xjx (hc:X.calm=true):xbz X (.builtin "max") (fun xs H Q=>∃ i j,xs=[.int i,.int j]/\Q (.int (if j>i then j else i)) H):=by
 intro pins s Z H xs us Q I r h;obtain⟨i,j,rfl,q⟩:=h;obtain⟨u,w',rfl,⟨t,rfl⟩,⟨t',rfl⟩⟩:=xh3 r;refine max_two_ints (I.ok.hd hc) fun h' tk k=>⟨_,H,I.kept k,?_,q⟩
 by_cases hj:j>i
 .rw [if_pos hj,if_pos hj]; exact⟨_,rfl⟩
 .rw [if_neg hj,if_neg hj]; exact⟨_,rfl⟩
theorem xf2 (hc:X.calm=true):xbz X (.builtin "min") (fun xs H Q=>∃ i j,xs=[.int i,.int j]/\Q (.int (if j<i then j else i)) H):=by
 intro pins s Z H xs us Q I r h;obtain⟨i,j,rfl,q⟩:=h;obtain⟨u,w',rfl,⟨t,rfl⟩,⟨t',rfl⟩⟩:=xh3 r;refine min_two_ints (I.ok.hd hc) fun h' tk k=>⟨_,H,I.kept k,?_,q⟩
 by_cases hj:j<i
 .rw [if_pos hj,if_pos hj]; exact⟨_,rfl⟩
 .rw [if_neg hj,if_neg hj]; exact⟨_,rfl⟩
theorem xpe:xbz X (.type "int") (fun xs H Q=>(∃ i,xs=[.int i]/\Q (.int i) H)\/∃ k,xs=[.bl k]/\Q (.int (if k then 1 else 0)) H):=by
 intro pins s Z H xs us Q I r h;rcases h with⟨i,rfl,q⟩|⟨k,rfl,q⟩
 .obtain ⟨u,rfl,t,rfl⟩:=xb4 r;exact call_int_int ⟨.int i,H,I,⟨_,rfl⟩,q⟩
 .obtain ⟨u,rfl,r1⟩:=xb4 r;cases r1;exact call_int_bool ⟨.int (if k then 1 else 0),H,I.tok _,⟨_,rfl⟩,q⟩
end
structure ObjM (h:Heap) (x dx C:Addr) (mA:Str->Option Value):Prop where
 obj:h.get? x=some (JX C dx)
 ns:h.Ns1 dx mA
 ne:dx≠x
theorem xjj {h:Heap}{dx:Addr}{mA:Str->Option Value} (n:h.Ns1 dx mA):∃ od,h.get? dx=some od/\∀ name,QW name od=some (mA name):=by
 obtain⟨o,es,ep,ho,hd,hk,_,hm⟩:=n;refine⟨o,ho,fun name=>?_⟩;have e:=hm name;unfold nsFind findBy at e;rw[<- Array.find?_toList] at e;unfold QW;rw[hd]
 dsimp only
 split
 .rename_i y q
  rw[q] at e;exact congrArg some e
 .rename_i q
  rw[q] at e;have a:es.toList.any (·.refKey)=false:=by
   rw[List.any_eq_false];intro y hy;obtain⟨z,t,hkey⟩:=hk y (We.mp hy);simp[DictEntry.refKey,hkey]
  have a':¬ es.toList.any (·.refKey)=true:=by rw[a]; exact Z1
  rw[if_neg a'];exact congrArg some e
theorem ObjM.look {h:Heap}{x dx C:Addr}{mA:Str->Option Value} (I:ObjM h x dx C mA):∃ od,PySem.W.InstAt h x (JX C dx) C (some od)/\∀ name,QW name od=some (mA name) :=
 let ⟨od,ho,hl⟩:=xjj I.ns
 ⟨od,⟨I.obj,rfl,rfl,ho⟩,hl⟩
section
variable {prog:Program}{w:World}{A:Around}{E:Value->Shared->Prop}{s:Shared}{K:Zd}{x dx C f:Addr}{mA:Str->Option Value}{name:Str}{v:Value}
theorem xta {expr:Bool}{Q:Value->Shared->Prop} (X:K.In s.heap) (I:ObjM s.heap x dx C mA) (hg:JQ K C name=true) (hh:JK K C=true)
    (ha:ZA K (.ref C) name=some none) (hv:mA name=some v) (hv':PySem.W.handedIn v=true) (h:Q v { s with toks:=s.toks+1 }) :
    wpAny (model prog w) A (getAttr (.ref x) name expr) Q E s:=by
  obtain⟨od,J,hl⟩:=I.look;exact PySem.W.get_value X J (Wh hg).1 (PySem.W.findObj_own hh ha rfl (by rw[hl,hv])) hv' h
theorem xqi {pl:Sem Bool}{Q:Value × List Value->Shared->Prop} (X:K.In s.heap) (I:ObjM s.heap x dx C mA) (hg:JQ K C name=true)
    (hf:ZA K (.ref C) name=some (some (.ref f))) (ht:ZJ K (.ref f)=true) (hv:mA name=none) (h:Q (.ref f,[.ref x]) s) :
    wpAny (model prog w) A (getMethod (.ref x) name pl) Q E s:=by
  obtain⟨od,J,hl⟩:=I.look;exact PySem.W.method_fn X J (Wh hg).1 (Wh hg).2 hf (beq_iff_eq.mp ht) (by show (QW name od).map (·.isSome)=some false; rw[hl,hv]; rfl) h
theorem xsk {ns:List Str}{Q:Unit->Shared->Prop} (X:K.In s.heap) (I:ObjM s.heap x dx C mA)
    (hs:ZA K (.ref C) "__setattr__"=some (some (.builtin "object.__setattr__"))) (hp:Ys K C=true) (ht:PySem.W.takerIn K C name=some none) (hh:JK K C=true)
    (hw:YH mA ns) (hsz:ns.length<=sizeLine)
    (h:∀ h',ObjM h' x dx C (fun y=>if y=name then some v else mA y)->ZK dx s.heap h'->Q () { s with heap:=h',toks:=s.toks+2 }) :
    wpAny (model prog w) A (setAttr (.ref x) name v) Q E s:=by
  obtain⟨od,J,hl⟩:=I.look;refine PySem.W.set_plain X J hs (PySem.W.osa_open (s:={ s with toks:=s.toks+1 }) (r:=none) X J hp ht fun b=>?_);obtain⟨cd,hc,hd'⟩:=PySem.W.any_some hh;have hx:s.heap.get? x=some ⟨.ref C,some dx,.plain,#[]⟩:=I.obj;refine Zc (Zm (Zc (Zc (Qj hx (Zc (PySem.W.Looks.here (s:={ s with toks:=s.toks+1 }) (PySem.W.looks_clsIn X hc) ?_))))));rw[hd'];refine Zm (a:=some dx) (Zc (Zm (Zc ?_)));refine wpAny_nsSet1 (s:={ s with toks:=s.toks+1 }) I.ns fun h' hn2 hs2=>?_;obtain⟨oD,esD,epD,hoD,hdD,hcD⟩:=hn2.count (YH.cons name v hw);refine Zc (wpAny_lookBehind hoD (by rw[hdD]; exact pastItsLine_dict (Z8 hcD (by rw[ZI]; omega))) ?_);exact Zm (h _ ⟨(hs2.2 _ (ZE I.ne)).trans I.obj,hn2,I.ne⟩ hs2)
theorem xrb {R:Result->Shared->Prop}{vs:List Value}{kw:List (Str × Value)} (X:K.In s.heap) (hm:Y7 K C=true)
    (hi:ZA K (.ref C) "__init__"=some (some (.ref f))) (hf:PySem.W.typeIn K (.ref f)=some (.type "function"))
    (h:codeAny (model prog w) (A.under (.builtin "type.__call__" ⟨.ref C::vs,kw⟩)) (.call (.ref f) ⟨.ref (s.heap.objs.size+1)::vs,kw⟩) (PySem.W.InitBack (s.heap.objs.size+1) R)
      { s with heap:=(s.heap.push J9).push (JX C s.heap.objs.size) }) :
    codeAny (model prog w) A (.call (.ref C) ⟨vs,kw⟩) R s:=by
  obtain⟨hh,g,d,t,os⟩:=s;exact PySem.W.make_core (PySem.W.makes_of X hm) (PySem.W.looks_findIn X hi) (fun self=>PySem.W.bind_fn X self hf) (.inl rfl) h
end
def putF (f:Str) (v:V):List (Str × V)->List (Str × V)
 | []=>[(f,v)]
 | (g,x)::r=>if g=f then (g,v)::r else (g,x)::putF f v r
theorem xeu (f g:Str) (v:V):∀ fs:List (Str × V),(putF f v fs).lookup g=if g=f then some v else fs.lookup g
 | []=>by
  show Jd g [(f,v)]=_;by_cases h:g=f
  .have hb:(g == f)=true:=beq_iff_eq.mpr h;simp only[Jd,hb,if_pos h]
  .have hb:(g == f)=false:=beq_eq_false_iff_ne.mpr h;simp only[Jd,hb,if_neg h]
 | (k,x)::r=>by
  have ih:=xeu f g v r;rw[show putF f v ((k,x)::r)=(if k=f then (k,v)::r else (k,x)::putF f v r) from rfl];by_cases hk:k=f
  .rw [if_pos hk];by_cases h:g=k
   .have hb:(g == k)=true:=beq_iff_eq.mpr h;simp only[Jd,hb,if_pos (h.trans hk)]
   .have hb:(g == k)=false:=beq_eq_false_iff_ne.mpr h;simp only[Jd,hb,if_neg (fun e:g=f=>h (e.trans hk.symm))]
  .rw [if_neg hk];by_cases h:g=k
   .have hb:(g == k)=true:=beq_iff_eq.mpr h;simp only[Jd,hb,if_neg (fun e:g=f=>hk (h.symm.trans e))]
   .have hb:(g == k)=false:=beq_eq_false_iff_ne.mpr h;simp only[Jd,hb];exact ih
theorem xd1 (f:Str) (v:V):∀ fs:List (Str × V),f∈(putF f v fs).map (·.1)/\∀ g,g∈fs.map (·.1)->g∈(putF f v fs).map (·.1)
 | []=>⟨by simp[putF],fun g h=>by simp at h⟩
 | (k,x)::r=>by
  obtain⟨i1,i2⟩:=xd1 f v r;rw[show putF f v ((k,x)::r)=(if k=f then (k,v)::r else (k,x)::putF f v r) from rfl];by_cases hk:k=f
  .rw [if_pos hk];subst hk;exact⟨by simp,fun g h=>by simpa using h⟩
  .rw [if_neg hk];refine⟨?_,fun g h=>?_⟩
   .rw [Zu];exact Zt _ i1
   .rw [Zu] at h ⊢;rcases Zy.mp h with e|e
    .exact Zy.mpr (.inl e)
    .exact Zt _ (i2 g e)
theorem xev (f:Str) (v:V):∀ fs:List (Str × V),(putF f v fs).length<=fs.length+1
 | []=>by simp[putF]
 | (k,x)::r=>by
  have ih:=xev f v r;rw[show putF f v ((k,x)::r)=(if k=f then (k,v)::r else (k,x)::putF f v r) from rfl];by_cases hk:k=f
  .rw [if_pos hk,ZI,ZI]; omega
  .rw [if_neg hk,ZI,ZI]; omega
theorem RelO.some_of {v:V}{o:Option Value} (r:RelO (some v) o):∃ u,o=some u/\RelV v u:=by
 cases o with
 | none=>exact (show False from r).elim
 | some u=>exact⟨u,rfl,r⟩
theorem RelO.none_of {o:Option Value} (r:RelO none o):o=none:=by
 cases o with
 | none=>rfl
 | some u=>exact (show False from r).elim
theorem xj3 {v:V}{u:Value} (r:RelV v u):PySem.W.handedIn u=true:=by
 cases v with
 | non=>cases (show u=ZR from r); rfl
 | bl b=>cases (show u=Yf b from r); rfl
 | int i=>obtain⟨t,e⟩:=(show ∃ t,u=Wf i t from r); cases e; rfl
 | str x=>obtain⟨t,e⟩:=(show ∃ t,u=Qy x t from r); cases e; rfl
 | byt b=>obtain⟨t,e⟩:=(show ∃ t,u=Value.bytes b t from r); cases e; rfl
 | flt b=>obtain⟨t,e⟩:=(show ∃ t,u=Value.float b t from r); cases e; rfl
 | ref a=>cases (show u=Zo a from r); rfl
 | ty n=>cases (show u=Q6 n from r); rfl
section
variable {P:Program}{w:World}{H H':Hp}{h h':Heap}{a C dx:Addr}{fs fs':List (Str × V)}
theorem xgz (hok:HOk P w H h) (e:H a=some (.ins C dx fs)):∃ mA,ObjM h a dx C mA/\(∀ f,RelO (fs.lookup f) (mA f))/\YH mA (fs.map (·.1))/\fs.length<=1000/\H dx=some (.own a):=by
 obtain⟨d,z,ne,ob,mA,n,r,q⟩:=(show xan P w H h a (.ins C dx fs) from hok a _ e)
 exact⟨mA,⟨ob,n,ne⟩,r,q,z,d⟩
end
structure Cls (K:Zd) (C:Addr):Prop where
 pg:JQ K C Str.empty=true
 hd:JK K C=true
 po:Ys K C=true
 sa:ZA K (.ref C) "__setattr__"=some (some (.builtin "object.__setattr__"))
theorem Cls.get {K:Zd}{C:Addr} (c:Cls K C) (f:Str):JQ K C f=true:=c.pg
def xed (K:Zd) (C:Addr) (f:Str):Prop:=ZA K (.ref C) f=some none
theorem xed.taker {K:Zd}{C:Addr}{f:Str} (n:xed K C f):PySem.W.takerIn K C f=some none:=by
 unfold PySem.W.takerIn;rw[show ZA K (.ref C) f=some none from n];rfl
structure Meth (K:Zd) (C:Addr) (m:Str) (f:Addr):Prop where
 at_:ZA K (.ref C) m=some (some (.ref f))
 fn:ZJ K (.ref f)=true
 kp:Jp K (.ref f)=true
section
variable {X:Cx}{pins:List (Addr × Obj)}{Z:St}{H:Hp}{s:Shared}{a C dx:Addr}{fs:List (Str × V)}{f:Str}{v:V}{A:Around}{E:Value->Shared->Prop}
theorem xnw {b:Bool}{Q:Value->Shared->Prop} (I:Inv X pins Z H s) (e:H a=some (.ins C dx fs)) (c:Cls X.K C) (n:xed X.K C f) (l:fs.lookup f=some v)
    (h:∀ u s',Inv X pins Z H s'->RelV v u->Q u s'):wpAny (model X.prog X.w) A (getAttr (.ref a) f b) Q E s:=by
  obtain⟨mA,O,r,_,_,_⟩:=xgz I.hok e;obtain⟨u,hu,ru⟩:=RelO.some_of (v:=v) (o:=mA f) (by rw[<- l]; exact r f);exact xta I.kIn O (c.get f) c.hd n hu (xj3 ru) (h u _ (I.tok _) ru)
theorem xhy {m:Str}{g:Addr}{pl:Sem Bool}{Q:Value × List Value->Shared->Prop} (I:Inv X pins Z H s) (e:H a=some (.ins C dx fs)) (c:Cls X.K C) (k:Meth X.K C m g) (l:fs.lookup m=none)
    (h:Q (.ref g,[.ref a]) s):wpAny (model X.prog X.w) A (getMethod (.ref a) m pl) Q E s:=by
  obtain⟨mA,O,r,_,_,_⟩:=xgz I.hok e;have hn:mA m=none:=RelO.none_of (by rw[<- l]; exact r m);exact xqi I.kIn O (c.get m) k.at_ k.fn hn h
theorem xni {y:V}{u:Value}{Q:Unit->Shared->Prop} (I:Inv X pins Z H s) (e:H a=some (.ins C dx fs)) (c:Cls X.K C) (n:xed X.K C f) (hl:fs.length<1000) (ry:RelV y u)
    (h:∀ s',Inv X pins Z (upd H a (.ins C dx (putF f y fs))) s'->Q () s'):wpAny (model X.prog X.w) A (setAttr (.ref a) f u) Q E s:=by
  obtain⟨mA,O,r,wi,_,ho⟩:=xgz I.hok e;have hz:(fs.map (·.1)).length<=sizeLine:=by rw[Za,YY]; omega
  refine xsk I.kIn O c.sa c.po n.taker c.hd wi hz fun h' O' sb=>h _ ?_;have hd:∃ o,h'.get? dx=some o:=let ⟨o,_,_,e',_⟩:=O'.ns; ⟨o,e'⟩;refine I.write (x:=a) (e:=dx) (by rw[e]; exact Jr) (.inr ho) (fun b q hb z=>(sb.2 b hb).trans z) hd ?_;refine⟨by rw[xg O.ne]; exact ho,?_,O.ne,O'.obj,_,O'.ns,fun g=>?_,fun g hg=>?_⟩
  . have:=xev f y fs; omega
  . show RelO ((putF f y fs).lookup g) (if g=f then some u else mA g)
    rw[xeu];by_cases q:g=f
    . rw[if_pos q,if_pos q]; exact ry
    . rw[if_neg q,if_neg q]; exact r g
  . by_cases q:g=f
    . rw[q]; exact (xd1 f y fs).1
    . refine (xd1 f y fs).2 g (wi g fun z=>hg ?_)
      show (if g=f then some u else mA g)=none;rw[if_neg q]; exact z
theorem Inv.made (I:Inv X pins Z H s):Inv X pins Z (upd (upd H s.heap.objs.size (.own (s.heap.objs.size+1))) (s.heap.objs.size+1) (.ins C s.heap.objs.size []))
    { s with heap:=(s.heap.push J9).push (JX C s.heap.objs.size) }:=by
  have e1:(s.heap.push J9).get? s.heap.objs.size=some J9:=Z2 s.heap rfl;have e2:((s.heap.push J9).push (JX C s.heap.objs.size)).get? (s.heap.objs.size+1)=some (JX C s.heap.objs.size):=by
    have:=Z2 (s.heap.push J9) (o:=JX C s.heap.objs.size) rfl
    rwa [Wa] at this
  have e3:(s.heap.push J9).Ns s.heap.objs.size (fun _=>none):=⟨J9,#[],_,e1,rfl,(fun e he=>absurd he (by simp)),fun _=>rfl⟩
  have I1:=I.laid (a:=s.heap.objs.size) (o:=.own (s.heap.objs.size+1)) (h':=s.heap.push J9) (t':=s.toks) (fun b u q=>Zi _ q) (Zl _) ⟨_,e1⟩;refine I1.laid (a:=s.heap.objs.size+1) (o:=.ins C s.heap.objs.size []) (t':=s.toks) (fun b u q=>Zi _ q) (Nat.le_of_eq (Wa _ _)) ?_;have ne:s.heap.objs.size≠s.heap.objs.size+1:=ZH (Nat.lt_succ_self _);refine⟨by rw[xg ne,xh],ZZ _,ne,e2,fun _=>none,(Heap.Ns1.of_empty e3).at fun o q=>Zi _ q,fun _=>Jr,fun y hy=>absurd rfl hy⟩
theorem xm0 {prog:Program}{w:World}{env:Env}{e:Expr}{f:Str}{pos:Pos}{s:Shared}{Q:Value->Shared->Prop} (hb:attributeBase e f env (eval e env)=eval e env)
    (h:wpAny (model prog w) A (eval e env) (fun o s₁=>wpAny (model prog w) A (getAttr o f true) Q E s₁) E s):wpAny (model prog w) A (eval (.Attribute e f pos) env) Q E s :=
  Attribute_any_ h (by rw[arm_eval_Attribute,hb])
end
inductive xuo (K:Zd) (f:Str) (x:V) (H1:Hp) (Q:VK):Prop
 | mk (a C dx fs v) (e_:x=.ref a) (r_:H1 a=some (.ins C dx fs)/\Cls K C/\xed K C f/\fs.lookup f=some v/\Q v H1)
def tFld (K:Zd) (ta:TE) (f:Str):TE:=fun Z H Q=>ta Z H fun x H1=>xuo K f x H1 Q
def sFld (K:Zd) (ta tv:TE) (f:Str):TS:=fun D Z H=>tv Z H fun y H1=>ta Z H1 fun x H2=>∃ a C dx fs,x=.ref a/\H2 a=some (.ins C dx fs)/\Cls K C/\xed K C f/\fs.length<1000 /\
 D.nx Z (upd H2 a (.ins C dx (putF f y fs)))
section
variable {X:Cx}{o e value:Expr}{f:Str}{pos pos' tpos:Pos}{ta tv:TE}
theorem xae (he:PE X e ta) (hb:attributeBase e f X.env (eval e X.env)=eval e X.env):PE X (.Attribute e f pos) (tFld X.K ta f):=by
 intro pins s Z H Q I h;refine xm0 hb (thn (he pins s Z H _ I h) fun u s1 ⟨x,H1,I1,rx,a,C,dx,fs,v,ex,ea,c,n,l,q⟩=>?_);subst ex;obtain rfl:u=Zo a:=rx;exact xnw I1 ea c n l fun u' s2 I2 ru=>⟨v,H1,I2,ru,q⟩
theorem xdz (ha:PE X o ta) (hv:PE X value tv) (hs:swapsWith value (some (.Attribute o f pos')) pos.line X.env=pure false):PS X (.Assign [.Attribute o f pos'] value pos) (sFld X.K ta tv f):=by
 intro pins s Z H D I h;refine plainObj_wpAny_Assign_Attribute (thn (hv pins s Z H _ I h) fun u s1 ⟨y,H1,I1,ry,q⟩=>thn (ha pins s1 Z H1 _ I1 q) fun ov s2 ⟨x,H2,I2,rx,a,C,dx,fs,ex,ea,c,n,l,q2⟩=>?_) hs;subst ex;obtain rfl:ov=Zo a:=rx;exact xni I2 ea c n l ry fun s3 I3=>⟨Z,_,I3,q2⟩
end
section
variable {X:Cx}{pins:List (Addr × Obj)}{Z:St}{H:Hp}{s:Shared}{A:Around}{E:Value->Shared->Prop}{Q:Value->Shared->Prop}{c:Value}{b:Bool}
inductive TyOf (K:Zd) (H:Hp):V->Value->Prop where
  | non:TyOf K H .non (.type "NoneType")
  | bl (x:Bool):TyOf K H (.bl x) (.type "bool")
  | int (i:Int):TyOf K H (.int i) (.type "int")
  | str (x:Str):TyOf K H (.str x) (.type "str")
  | flt (x:UInt64):TyOf K H (.flt x) (.type "float")
  | lst {a:Addr}{xs:List V} (e:H a=some (.lst xs)):TyOf K H (.ref a) (.type "list")
  | frz {a:Addr}{o:Obj}{xs:List V} (e:H a=some (.frz o (.lst xs))):TyOf K H (.ref a) (.type "list")
  | tup {a:Addr}{xs:List V} (e:H a=some (.tup xs)):TyOf K H (.ref a) (.type "tuple")
  | dK {a:Addr}{kvs:List (Key × V)} (e:H a=some (.dK kvs)):TyOf K H (.ref a) (.type "dict")
  | dT {a:Addr}{kvs:List (List Key × V)} (e:H a=some (.dT kvs)):TyOf K H (.ref a) (.type "dict")
  | ins {a C dx:Addr}{fs:List (Str × V)} (e:H a=some (.ins C dx fs)) (cl:Cls K C) (ha:ZA K (.ref C) "__class__"=some (some (.builtin "object.__class__")))
      (hn:PySem.W.specialIn K (.builtin "object.__class__") "__get__"=some (some (.builtin "getset_descriptor.__get__"))) (htk:PySem.W.takesIn K (.builtin "object.__class__")=some true)
      (hm:Wl K C (.type "object")=some true):TyOf K H (.ref a) (.ref C)
theorem xpb {x:V}{u t:Value} (I:Inv X pins Z H s) (rx:RelV x u) (ty:TyOf X.K H x t) (e:QX X.K t c=some b) (h:∀ tk,Q (.bool b) { s with toks:=tk }) :
    wpAny (model X.prog X.w) A (call (.builtin "isinstance") [u,c]) Q E s:=by
  cases ty with
  | non=>cases (show u=ZR from rx); exact Jw PySem.W.kitx_none I.kIn Jr e (fun z=>nomatch z) h
  | bl y=>cases (show u=Yf y from rx); exact Jw PySem.W.kitx_bool I.kIn Jr e (fun z=>nomatch z) h
  | int i=>obtain⟨t,q⟩:=(show ∃ t,u=Wf i t from rx); cases q; exact Jw PySem.W.kitx_int I.kIn Jr e (fun z=>nomatch z) h
  | str y=>obtain⟨t,q⟩:=(show ∃ t,u=Qy y t from rx); cases q; exact Jw PySem.W.kitx_str I.kIn Jr e (fun z=>nomatch z) h
  | flt y=>obtain⟨t,q⟩:=(show ∃ t,u=Value.float y t from rx); cases q; exact Jw PySem.W.kitx_float I.kIn Jr e (fun z=>nomatch z) h
  | @lst a xs ea =>
    cases (show u=Zo a from rx);obtain⟨_,_,n,_,h1⟩:=(show xan X.prog X.w H s.heap a (.lst xs) from I.hok a _ ea)
    exact Jw PySem.W.kitx_list I.kIn ⟨_,h1,rfl⟩ e (fun z=>nomatch z) h
  | @frz a ob xs ea =>
    cases (show u=Zo a from rx);obtain⟨_,_,_,n,_,h1⟩:=(show xan X.prog X.w H s.heap a (.frz ob (.lst xs)) from I.hok a _ ea)
    exact Jw PySem.W.kitx_list I.kIn ⟨_,h1,rfl⟩ e (fun z=>nomatch z) h
  | @tup a xs ea =>
    cases (show u=Zo a from rx);obtain⟨_,_,_,p⟩:=(show xan X.prog X.w H s.heap a (.tup xs) from I.hok a _ ea)
    obtain⟨o,h1,h2,_⟩:=p;exact Jw PySem.W.kitx_tuple I.kIn ⟨o,h1,h2⟩ e (fun z=>nomatch z) h
  | @dK a kvs ea =>
    cases (show u=Zo a from rx);obtain⟨_,_,vs,_,p⟩:=(show xan X.prog X.w H s.heap a (.dK kvs) from I.hok a _ ea)
    obtain⟨o,es,ep,h1,h2,_⟩:=p;exact Jw PySem.W.kitx_dict I.kIn ⟨o,h1,h2.1⟩ e (fun z=>nomatch z) h
  | @dT a kvs ea =>
    cases (show u=Zo a from rx);obtain⟨_,_,xs,_,o,es,ep,h1,h2,_⟩:=(show xan X.prog X.w H s.heap a (.dT kvs) from I.hok a _ ea)
    exact Jw PySem.W.kitx_dict I.kIn ⟨o,h1,h2.1⟩ e (fun z=>nomatch z) h
  | @ins a C dx fs ea cl ha hn htk hm =>
    cases (show u=Zo a from rx);obtain⟨mA,O,_⟩:=xgz I.hok ea;obtain⟨od,J,_⟩:=O.look;exact Jw (PySem.W.kitx_own (cl.get _) cl.hd ha hn htk hm) I.kIn J e (fun z=>nomatch z) h
end
structure Room (q0:Bool) (k:Nat) (A:Around):Prop where
 hd:q0=true->A.handled=none
 dp:A.depth+3*k+5<recursionLimit
 un:A.units+16*k+200<cLine
 gd:A.guards=some []
theorem Room.mono {j k:Nat}{A:Around} (r:Room q0 k A) (h:j<=k):Room q0 j A:=⟨r.hd,by have:=r.dp; omega,by have:=r.un; omega,r.gd⟩
theorem Room.deeper {k:Nat}{A:Around} (r:Room q0 (k+1) A) (env:Env):Room q0 k (A.deeper env) :=
 ⟨r.hd,by have:=r.dp; show A.depth+1+3*k+5<_; omega,by have:=r.un; show A.units+3+16*k+200<_; omega,r.gd⟩
theorem xnp {A:Around}{C:Addr}{us:List Value}{kw:List (Str × Value)}:(A.under (.builtin "type.__call__" ⟨.ref C::us,kw⟩)).depth=A.depth+1:=by
 first|rfl|simp[Around.under,Code.weight,Code.isCreation,Code.isGuard,Code.isCaller,Code.frames,Code.isFrame,guardIds]
theorem xnu {A:Around}{C:Addr}{us:List Value}{kw:List (Str × Value)}:(A.under (.builtin "type.__call__" ⟨.ref C::us,kw⟩)).units=A.units+1:=by
 first|rfl|simp[Around.under,Code.cUnits,Code.frames,Code.isFrame]
theorem Room.make {k:Nat}{A:Around} (r:Room q0 (k+1) A) (C:Addr) (us:List Value) (kw:List (Str × Value)):Room q0 k (A.under (.builtin "type.__call__" ⟨.ref C::us,kw⟩)) :=
 ⟨r.hd,by have:=r.dp; rw[xnp]; omega,by have:=r.un; rw[xnu]; omega,by first|exact r.gd|(simpa [Around.under,Code.guards,Code.isGuard,guardIds,pushGuards] using r.gd)⟩
theorem Room.depth {k:Nat}{A:Around} (r:Room q0 k A):A.depth<recursionLimit:=by have:=r.dp; omega
theorem Room.units {k:Nat}{A:Around} (r:Room q0 k A):A.units+64<cLine:=by have:=r.un; omega
def tNil:TA:=fun _ H Q=>Q [] H
def xgs (ta:TE) (tr:TA):TA:=fun Z H Q=>ta Z H fun x H1=>tr Z H1 fun xs H2=>Q (x::xs) H2
section
variable {X:Cx}{e:Expr}{es:List Expr}{te:TE}{t:TA}{pos:Pos}
theorem xf:PA X [] tNil:=fun _ _ _ _ H Q I h=>Calls.spliced_nil ⟨[],H,I,.nil,h⟩
theorem xb (ha:PE X e te) (hr:PA X es t) (hs:starEach (e::es) X.env=(false,eval e X.env)::starEach es X.env:=by rfl):PA X (e::es) (xgs te t):=by
 intro pos pins s Z H Q I h;rw[hs];show wpAny _ _ (spliced ((false,eval e X.env)::backTo pos (starEach es X.env))) _ _ s;refine Qo (thn (ha pins s Z H _ I h) fun u s1 ⟨x,H1,I1,r1,q1⟩=>?_);exact thn (hr pos pins s1 Z H1 _ I1 q1) fun us s2 ⟨xs,H2,I2,r2,q2⟩=>⟨x::xs,H2,I2,.cons r1 r2,q2⟩
def tTup (t:TA):TE:=fun Z H Q=>t Z H fun xs H1=>xs.length<=sizeLine/\∀ p,H1 p=none->Q (.ref p) (upd H1 p (.tup xs))
def tLst (t:TA):TE:=fun Z H Q=>t Z H fun xs H1=>xs.length<=sizeLine/\∀ p,H1 p=none->Q (.ref p) (upd H1 p (.lst xs))
theorem x9 {x1} (h:PA X es t):PE X (.Tuple es x1 pos) (tTup t):=by
 intro pins s Z H Q I hq;refine wpAny_Tuple_spliced (thn (h pos pins s Z H _ I hq) fun us s1 ⟨xs,H1,I1,r,z,q⟩=>⟨by rw[<- r.length]; exact z,?_⟩);have hf:H1 s1.heap.objs.size=none:=I1.hok.fresh (Zl _);refine⟨.ref s1.heap.objs.size,upd H1 s1.heap.objs.size (.tup xs),I1.laid (t':=s1.toks) (fun b u e=>Zi _ e) (Zl _) ?_,rfl,q _ hf⟩;exact⟨z,us,r,⟨_,Z2 _ rfl,rfl,_,rfl⟩⟩
theorem xbr (h:PA X es t):PE X (.List es pos) (tLst t):=by
 intro pins s Z H Q I hq;refine wpAny_List_spliced (thn (h pos pins s Z H _ I hq) fun us s1 ⟨xs,H1,I1,r,z,q⟩=>⟨by rw[<- r.length]; exact z,?_⟩);have hf:H1 s1.heap.objs.size=none:=I1.hok.fresh (Zl _);refine⟨.ref s1.heap.objs.size,upd H1 s1.heap.objs.size (.lst xs),I1.laid (t':=s1.toks) (fun b u e=>Zi _ e) (Zl _) ?_,rfl,q _ hf⟩;exact⟨z,us,0,r,Z2 _ rfl⟩
end
abbrev Sp:=List V->Hp->VK->XK->Prop
abbrev CXT:=List Env->Hp->Shared->XK->Value->Shared->Prop
structure Env0 (P:Program) (w:World) (K:Zd) (mg:Str->Option Value) (base:Heap) (A:Around) (outer:List Env) (s:Shared) (H:Hp):Prop where
 frames:A.frames=some outer
 mod:Mod K mg base
 bs:∀ b o,base.get? b=some o->s.heap.get? b=some o/\H b=none
 bsz:base.objs.size<=s.heap.objs.size
 funs:s.heap.FunFrames base outer
 frf:∀ b∈frs outer,H b=none
 hok:HOk P w H s.heap
 bare:AllBare s.gens
def CE (outer:List Env) (P:Program) (w:World) (H:Hp) (s:Shared) (Q:VK) (u:Value) (s':Shared):Prop :=
 ∃ v H',s'.os=s.os/\AllBare s'.gens/\Un (frs outer) [] H H' s.heap s'.heap/\HOk P w H' s'.heap/\RelV v u/\Q v H'
def CR (CX:CXT) (outer:List Env) (P:Program) (w:World) (H:Hp) (s:Shared) (Q:VK) (E:XK) (r:Result) (s':Shared):Prop :=
 match r with
 | .ok (.ret u)=>CE outer P w H s Q u s'
 | .ok _=>False
 | .error e=>CX outer H s E e s'
structure FnOk (q0:Bool) (P:Program) (w:World) (K:Zd) (mg:Str->Option Value) (base:Heap) (CX:CXT) (k:Nat) (f:Addr) (fd:FuncData) (ps:List Str) (sp:Sp):Prop where
 len:∀ vs H Q E,sp vs H Q E->vs.length=ps.length
 run:∀(A:Around) (outer:List Env) (s:Shared) (H:Hp) (args:Args) (us:List Value) (vs:List V) (Q:VK) (E:XK),Room q0 k A->Env0 P w K mg base A outer s H->BindsTo s fd args (ps.zip us)->Vals vs us->sp vs H Q E ->
  codeAny (model P w) A (.call (.ref f) args) (CR CX outer P w H s Q E) s
theorem Env0.make {P:Program}{w:World}{K:Zd}{mg:Str->Option Value}{base:Heap}{A:Around}{outer:List Env}{s:Shared}{H:Hp} (e:Env0 P w K mg base A outer s H) (C:Addr) (us:List Value) (kw:List (Str × Value)) :
    Env0 P w K mg base (A.under (.builtin "type.__call__" ⟨.ref C::us,kw⟩)) outer s H:=⟨by first|exact e.frames|(simpa [Around.under,Code.envs,Code.isFrame,pushEnvs] using e.frames),e.mod,e.bs,e.bsz,e.funs,e.frf,e.hok,e.bare⟩
section
variable {X:Cx}{pins:List (Addr × Obj)}{Z:St}{H:Hp}{s s':Shared}
theorem Inv.env0 (I:Inv X pins Z H s):Env0 X.prog X.w X.K X.mg X.base X.A X.stack s H :=
 ⟨I.ok.frames,I.ok.mod,I.bs,Z8 I.ok.bsz I.sz,I.stack,I.stkFree,I.hok,I.bare⟩
theorem Inv.after {Q:VK}{u:Value} (I:Inv X pins Z H s) (h:CE X.stack X.prog X.w H s Q u s'):EP X pins Z Q u s':=by
 obtain⟨v,H',os,bare,un,hok,r,q⟩:=h;obtain⟨hh,g,d,t,os'⟩:=s';obtain rfl:os'=s.os:=os;exact⟨v,H',I.call (h':=hh) (g':=g) (d':=d) (t':=t) (ch:=[]) un hok bare (fun b z=>absurd z (by simp)),r,q⟩
end
def xns (sp:Sp) (dvs:List V) (E:St->XK) (t:TA):TE:=fun Z H Q=>t Z H fun vs H1=>sp (vs++dvs) H1 Q (E Z)
inductive xsw (C:Addr) (m:Str) (sp:Sp) (dvs:List V) (E:St->XK) (t:TA) (Z:St) (x:V) (H1:Hp) (Q:VK):Prop
 | mk (a dx fs) (e_:x=.ref a) (r_:H1 a=some (.ins C dx fs)/\fs.lookup m=none/\t Z H1 fun vs H2=>sp (x::(vs++dvs)) H2 Q (E Z))
def xkm (C:Addr) (m:Str) (sp:Sp) (dvs:List V) (E:St->XK) (ta:TE) (t:TA):TE:=fun Z H Q=>ta Z H fun x H1=>xsw C m sp dvs E t Z x H1 Q
def xwq (C:Addr) (sp:Sp) (dvs:List V) (E:St->XK) (t:TA):TE:=fun Z H Q=>t Z H fun vs H1=>∀ x dx,H1 x=none->H1 dx=none->dx≠x ->
 sp (.ref x::(vs++dvs)) (upd (upd H1 dx (.own x)) x (.ins C dx [])) (fun v H2=>v=.non/\Q (.ref x) H2) (E Z)
def x0 (K:Zd) (fd:FuncData) (ps:List Str) (ds:List Value):Prop :=
 ∀(s:Shared) (us:List Value),K.In s.heap->(us++ds).length=ps.length->BindsTo s fd ⟨us,[]⟩ (ps.zip (us++ds))
theorem x0.all {K:Zd}{fd:FuncData}{ps:List Str} (h:∀ us:List Value,us.length=ps.length->bindArgs fd ⟨us,[]⟩=pure (ps.zip us)):x0 K fd ps []:=fun s us _ hl=>by
 rw[Jx] at hl ⊢;exact .of_eq (h us hl)
def xd5 (CX:CXT) (X:Cx) (E:St->XK):Prop:=∀(pins:List (Addr × Obj)) (Z:St) (H:Hp) (s:Shared) (e:Value) (s':Shared),Inv X pins Z H s->CX X.stack H s (E Z) e s'->X.xe e s'
section
variable {X:Cx}{CX:CXT}{k:Nat}{f C:Addr}{fd:FuncData}{ps:List Str}{sp:Sp}{dvs:List V}{ds:List Value}{E:St->XK}{x m:Str}{p pos apos:Pos}{e o:Expr}{es:List Expr}{ta:TE}{t:TA}
theorem xky {pins:List (Addr × Obj)}{Z:St}{H:Hp}{s:Shared}{Q:VK}{us:List Value}{vs:List V} (F:FnOk q0 X.prog X.w X.K X.mg X.base CX k f fd ps sp) (hr:Room q0 k X.A) (hb:x0 X.K fd ps ds) (hd:Vals dvs ds) (hx:xd5 CX X E)
    (I:Inv X pins Z H s) (r:Vals vs us) (h:sp (vs++dvs) H Q (E Z)):wpAny (model X.prog X.w) X.A (call (.ref f) us) (EP X pins Z Q) X.xe s:=by
  have r2:Vals (vs++dvs) (us++ds):=r.append hd;have hl:(us++ds).length=ps.length:=by rw[<- r2.length]; exact F.len _ _ _ _ h
  refine Q5 (Q7 (F.run X.A X.stack s H ⟨us,[]⟩ (us++ds) (vs++dvs) Q (E Z) hr I.env0 (hb s us I.kIn hl) r2 h) fun r s' hq=>?_);cases r with
  | error e=>exact hx pins Z H s e s' I hq
  | ok fl =>
    cases fl with
    | ret u=>exact I.after hq
    | next=>exact J6 hq
    | brk=>exact J6 hq
    | cont=>exact J6 hq
theorem xr (F:FnOk q0 X.prog X.w X.K X.mg X.base CX k f fd ps sp) (hr:Room q0 k X.A) (hg:Gl X x) (hm:X.mg x=some (.ref f)) (hk:Jp X.K (.ref f)=true) (hb:x0 X.K fd ps ds) (hd:Vals dvs ds) (hx:xd5 CX X E)
    (ha:PA X (e::es) t) (hdb:(x == ("__debug__":Str))=false:=by decide) (he:starEach (e::es) X.env=(false,eval e X.env)::starEach es X.env:=by rfl) (hpl:(backTo pos (starEach es X.env)).any (·.1)=false:=by rfl) :
    PE X (.Call (.Name x p) (e::es) [] pos) (xns sp dvs E t):=by
  intro pins s Z H Q I h;refine Yh (xe6 I hg hm ?_ hdb);refine Ql (h₀:=X.base) I.ok.mod.kin hk (thn (ha pos pins s Z H _ I h) fun us s1 ⟨vs,H1,I1,r,q⟩=>⟨I1.kIn,?_⟩) he hpl;exact xky F hr hb hd hx I1 r q
theorem xa0 {pl:Sem Bool} (he:PE X o ta) (c:Cls X.K C) (hm:Meth X.K C m f) (F:FnOk q0 X.prog X.w X.K X.mg X.base CX k f fd ps sp) (hr:Room q0 k X.A) (hb:x0 X.K fd ps ds) (hd:Vals dvs ds) (hx:xd5 CX X E) (ha:PA X (e::es) t)
    (hst:starEach (e::es) X.env=(false,eval e X.env)::starEach es X.env:=by rfl) (hpl:(backTo pos (starEach es X.env)).any (·.1)=false:=by rfl)
    (ht:eval (.Call (.Attribute o m apos) (e::es) [] pos) X.env=(do
      let ov <- eval o X.env
      standAt apos.atName
      let (f,first) <- holding [ov] (getMethod ov m pl)
      callWith pos f first (backTo pos (starEach (e::es) X.env)) (backToKw pos (keywordEach [] X.env))):=by rfl) :
    PE X (.Call (.Attribute o m apos) (e::es) [] pos) (xkm C m sp dvs E ta t):=by
  intro pins s Z H Q I h;refine PySem.W.methodCall_KW (pl:=pl) (thn (he pins s Z H _ I h) fun u s1 ⟨x,H1,I1,rx,a,dx,fs,ex,ea,l,q⟩=>?_) ht;subst ex;obtain rfl:u=Zo a:=rx;refine xhy I1 ea c hm l ?_;refine Ql (first:=[.ref a]) (h₀:=X.base) I.ok.mod.kin hm.kp (thn (ha pos pins s1 Z H1 _ I1 q) fun us s2 ⟨vs,H2,I2,r,q2⟩=>⟨I2.kIn,?_⟩) hst hpl;exact xky (us:=.ref a::us) (vs:=.ref a::vs) F hr hb hd hx I2 (.cons rfl r) q2
theorem xbi {pl:Sem Bool} (he:PE X o ta) (c:Cls X.K C) (hm:Meth X.K C m f) (F:FnOk q0 X.prog X.w X.K X.mg X.base CX k f fd ps sp) (hr:Room q0 k X.A) (hb:x0 X.K fd ps ds) (hd:Vals dvs ds) (hx:xd5 CX X E)
    (ht:eval (.Call (.Attribute o m apos) [] [] pos) X.env=(do
      let ov <- eval o X.env
      standAt apos.atName
      let (f,first) <- holding [ov] (getMethod ov m pl)
      callWith pos f first (backTo pos (starEach [] X.env)) (backToKw pos (keywordEach [] X.env))):=by rfl) :
    PE X (.Call (.Attribute o m apos) [] [] pos) (xkm C m sp dvs E ta tNil):=by
  intro pins s Z H Q I h;refine PySem.W.methodCall_KW (pl:=pl) (thn (he pins s Z H _ I h) fun u s1 ⟨x,H1,I1,rx,a,dx,fs,ex,ea,l,q⟩=>?_) ht;subst ex;obtain rfl:u=Zo a:=rx;refine xhy I1 ea c hm l ?_;exact PySem.W.callWith_K0 (first:=[.ref a]) I1.kIn hm.kp (xky (us:=[.ref a]) (vs:=[.ref a]) F hr hb hd hx I1 (.cons rfl .nil) q)
structure Mk (K:Zd) (C f:Addr):Prop where
 makes:Y7 K C=true
 init:ZA K (.ref C) "__init__"=some (some (.ref f))
 fn:ZJ K (.ref f)=true
 kp:Jp K (.ref C)=true
theorem xp4 {pins:List (Addr × Obj)}{Z:St}{H:Hp}{s:Shared}{Q:VK}{us:List Value}{vs:List V} (M:Mk X.K C f) (F:FnOk q0 X.prog X.w X.K X.mg X.base CX k f fd ps sp) (hr:Room q0 (k+1) X.A) (hb:x0 X.K fd ps ds) (hd:Vals dvs ds)
    (hx:xd5 CX X E) (I:Inv X pins Z H s) (r:Vals vs us)
    (h:∀ x dx,H x=none->H dx=none->dx≠x->sp (.ref x::(vs++dvs)) (upd (upd H dx (.own x)) x (.ins C dx [])) (fun v H2=>v=.non/\Q (.ref x) H2) (E Z)) :
    wpAny (model X.prog X.w) X.A (call (.ref C) us) (EP X pins Z Q) X.xe s:=by
  have hq:=h (s.heap.objs.size+1) s.heap.objs.size (I.hok.fresh (QS _)) (I.hok.fresh (Zl _)) (ZH (Nat.lt_succ_self _));have I2:=Inv.made (C:=C) I;have r2:Vals (V.ref (s.heap.objs.size+1)::(vs++dvs)) (Zo (s.heap.objs.size+1)::(us++ds)):=.cons rfl (r.append hd);have hl:(Zo (s.heap.objs.size+1)::us++ds).length=ps.length:=by
    have e:=r2.length;rw[F.len _ _ _ _ hq] at e;exact e.symm
  refine Q5 (xrb (f:=f) I.kIn M.makes M.init (beq_iff_eq.mp M.fn) (Q7 (F.run _ X.stack _ _ ⟨Zo (s.heap.objs.size+1)::us,[]⟩ (Zo (s.heap.objs.size+1)::(us++ds)) _ _ (E Z) (hr.make C us [])
    (I2.env0.make C us []) (hb _ (Zo (s.heap.objs.size+1)::us) I2.kIn hl) r2 hq) fun r s' hq'=>?_))
  cases r with
  | error e=>exact hx pins Z _ _ e s' I2 hq'
  | ok fl =>
    cases fl with
    | ret u =>
      obtain⟨v,H',I3,rv,ev,q3⟩:=I2.after hq';subst ev;exact⟨rv,⟨V.ref (s.heap.objs.size+1),H',I3,rfl,q3⟩⟩
    | next=>exact J6 hq'
    | brk=>exact J6 hq'
    | cont=>exact J6 hq'
theorem xgp (M:Mk X.K C f) (F:FnOk q0 X.prog X.w X.K X.mg X.base CX k f fd ps sp) (hr:Room q0 (k+1) X.A) (hg:Gl X x) (hm:X.mg x=some (.ref C)) (hb:x0 X.K fd ps ds) (hd:Vals dvs ds) (hx:xd5 CX X E)
    (ha:PA X (e::es) t) (hdb:(x == ("__debug__":Str))=false:=by decide) (he:starEach (e::es) X.env=(false,eval e X.env)::starEach es X.env:=by rfl) (hpl:(backTo pos (starEach es X.env)).any (·.1)=false:=by rfl) :
    PE X (.Call (.Name x p) (e::es) [] pos) (xwq C sp dvs E t):=by
  intro pins s Z H Q I h;refine Yh (xe6 I hg hm ?_ hdb);refine Ql (h₀:=X.base) I.ok.mod.kin M.kp (thn (ha pos pins s Z H _ I h) fun us s1 ⟨vs,H1,I1,r,q⟩=>⟨I1.kIn,?_⟩) he hpl;exact xp4 M F hr hb hd hx I1 r q
end
structure xu (N P:List Str) (sc:Scope):Prop where
 kind:sc.kind=.function
 co:sc.isCoroutine=false
 gen:sc.isGenerator=false
 nd:N.Nodup
 pre:N.take P.length=P
 par:∀ x∈P,sc.names.lookup x=some .local\/sc.names.lookup x=some .cell
 nofree:∀ y∈sc.names,y.2≠.free
theorem xjy {kindOf:Str->Option NameKind}{x:Str}:∀{binds:List (Str × Value)}{m:Str->Option Value},(∀ v,(x,v)∉binds)->bindL kindOf binds m x=m x
 | [],_,_=>rfl
 | (n,v)::r,m,h=>by
  unfold bindL;rw[xjy fun w hw=>h w (Zt _ hw)];split
  .have:x≠n:=by rintro rfl; exact h v Zv
   simp[this]
  .rfl
theorem xjs {kindOf:Str->Option NameKind}{x:Str}:∀{binds:List (Str × Value)}{m:Str->Option Value},(∀ v,(x,v)∉binds)->bindC kindOf binds m x=m x
 | [],_,_=>rfl
 | (n,v)::r,m,h=>by
  unfold bindC;rw[xjs fun w hw=>h w (Zt _ hw)];split
  .rfl
  .have:x≠n:=by rintro rfl; exact h v Zv
   simp[this]
theorem xjq {kindOf:Str->Option NameKind}{x:Str}{v:Value}:∀{P:List Str}{vs:List Value}{i:Nat}{m:Str->Option Value},P.Nodup->P[i]?=some x->vs[i]?=some v->kindOf x=some .local ->
    bindL kindOf (P.zip vs) m x=some v
  | [],_,_,_,_,h,_,_=>by simp at h
  | _::_,[],_,_,_,_,h,_=>by simp at h
  | p::P,w::vs,0,m,nd,h1,h2,hk=>by
    simp at h1 h2; subst h1; subst h2;show bindL kindOf ((p,w)::P.zip vs) m p=_;unfold bindL;rw[xjy fun v hv=>(Jf.mp nd).1 (List.of_mem_zip hv).1,if_pos hk];simp
  | p::P,w::vs,i+1,m,nd,h1,h2,hk=>by
    show bindL kindOf ((p,w)::P.zip vs) m x=_;unfold bindL;exact xjq (i:=i) (Jf.mp nd).2 (by simpa using h1) (by simpa using h2) hk
theorem xji {kindOf:Str->Option NameKind}{x:Str}{v:Value}:∀{P:List Str}{vs:List Value}{i:Nat}{m:Str->Option Value},P.Nodup->P[i]?=some x->vs[i]?=some v->kindOf x≠some .local ->
    bindC kindOf (P.zip vs) m x=some v
  | [],_,_,_,_,h,_,_=>by simp at h
  | _::_,[],_,_,_,_,h,_=>by simp at h
  | p::P,w::vs,0,m,nd,h1,h2,hk=>by
    simp at h1 h2; subst h1; subst h2;show bindC kindOf ((p,w)::P.zip vs) m p=_;unfold bindC;rw[xjs fun v hv=>(Jf.mp nd).1 (List.of_mem_zip hv).1,if_neg hk];simp
  | p::P,w::vs,i+1,m,nd,h1,h2,hk=>by
    show bindC kindOf ((p,w)::P.zip vs) m x=_;unfold bindC;exact xji (i:=i) (Jf.mp nd).2 (by simpa using h1) (by simpa using h2) hk
def xdn (N:List Str) (vs:List V):St:=vs.map some++Qk (N.length-vs.length) none
def cxOf (q0:Bool) (CX:CXT) (P:Program) (w:World) (K:Zd) (mg:Str->Option Value) (base:Heap) (N:List Str) (qual:Str) (scope:Scope) (f:Addr) (cd:Value) (A:Around) (outer:List Env) (s:Shared) (H:Hp) (E:XK):Cx where
 prog:=P
 w:=w
 K:=K
 mg:=mg
 base:=base
 A:=A.deeper (envOfC qual scope s.heap.objs.size f cd)
 N:=N
 s₀:=s
 H₀:=H
 env:=envOfC qual scope s.heap.objs.size f cd
 outer:=outer
 stack:=envOfC qual scope s.heap.objs.size f cd::outer
 ex:=[]
 calm:=q0
 fn:=fun _=>true
 pn:=[]
 xe:=fun e s'=>wpAny (model P w) (A.deeper (envOfC qual scope s.heap.objs.size f cd)) (leaving (envOfC qual scope s.heap.objs.size f cd) e) (fun _ s''=>CX outer H s E e s'') (fun e' s''=>CX outer H s E e' s'') s'
theorem xll {sc:Scope}{n:Nat}{x:Str} (h:sc.names.lookup x=some .cell):∃ c,(cellsFrom n sc.names []).lookup x=some c:=by
 have q:=PySem.W.cellsFrom_some sc.names n [] (.inl h);exact Option.isSome_iff_exists.mp q
theorem xo5 {CX:CXT}{P:Program}{w:World}{K:Zd}{mg:Str->Option Value}{base:Heap}{N ps:List Str}{qual:Str}{scope:Scope}{f:Addr}{cd:Value}{A:Around}{outer:List Env}{s s1:Shared}{H:Hp}{E:XK}{us:List Value}{vs:List V}
    (S:xu N ps scope) (hd:q0=true->A.handled=none) (e0:Env0 P w K mg base A outer s H) (hl:vs.length=ps.length) (r:Vals vs us)
    (x:InCallC s s.heap.objs.size (bindL (envOfC qual scope s.heap.objs.size f cd).kindOf (ps.zip us) fun _=>none) (cellsFrom (s.heap.objs.size+1) scope.names []) (bindC (envOfC qual scope s.heap.objs.size f cd).kindOf (ps.zip us) fun _=>none) s1) :
    Inv (cxOf q0 CX P w K mg base N qual scope f cd A outer s H E) [] (xdn N vs) H s1:=by
  have hpl:ps.length<=N.length:=by have:=congrArg Qq S.pre; rw[ZP] at this; omega
  obtain⟨h1,tk,rfl,hk⟩:=x.done;have noA:∀ b:Addr,b∉(cxOf q0 CX P w K mg base N qual scope f cd A outer s H E).ex:=fun b z=>absurd (show b∈([]:List Addr) from z) (by simp);refine⟨⟨e0.mod,S.kind,rfl,rfl,Zl _,fun y z c h1 h2=>?_,fun y hy=>?_,fun y c _ h=>?_,hd,Around.frames_deeper e0.frames,.inr ⟨rfl,rfl⟩,fun b z=>absurd z (noA b),e0.bs,e0.bsz,fun b _ _=>noA b,fun b z=>absurd z (noA b),e0.funs,e0.frf⟩,
    rfl,e0.bare,Un.kept hk,⟨_,x.toInCall.ns,fun i y v h1 h2 h3=>?_⟩,fun y c h=>⟨_,x.cell y c h⟩,e0.hok.fresh (Zl _),fun y c h=>?_,fun p hp=>absurd (show p∈([]:List (Addr × Obj)) from hp) (by simp),e0.hok.kept hk,?_⟩
  . exact name_of_addr x.apart (JB h1) (JB h2)
  . have hy:scope.names.lookup y=some .cell\/scope.names.lookup y=some .free:=hy
    rcases hy with hy|hy
    . exact xll hy
    . exact absurd rfl (S.nofree _ (JB hy))
  . exact J7 (x.above y c (JB h))
  . have hi:i<vs.length:=by
      unfold xdn at h2;by_cases hi:i<vs.length
      . exact hi
      . rw[Jb (by simpa using hi)] at h2
        rw[Q4] at h2;split at h2<;>cases h2
    have ha:vs[i]?=some v:=by
      unfold xdn at h2;rw[ZW (by simpa using hi),Ze] at h2;cases e:vs[i]? with
      | none=>rw[e] at h2; cases h2
      | some a=>rw[e] at h2; cases h2; rfl
    obtain⟨u,hu,rv⟩:=r.get ha;have hp:ps[i]?=some y:=by
      rw[<- S.pre,List.getElem?_take_of_lt (by omega)]; exact h1
    have ndP:ps.Nodup:=by rw[<- S.pre]; exact S.nd.sublist (List.take_sublist _ _)
    refine⟨u,rv,?_⟩;rcases S.par y (Zk hp) with k|k
    . exact .inl ⟨k,xjq ndP hp hu k⟩
    . obtain⟨c,e⟩:=xll (n:=s.heap.objs.size+1) k
      refine .inr ⟨.inl k,c,e,?_⟩;have q:=x.cell y c e;rw[xji ndP hp hu (by show scope.names.lookup y≠_; rw[k]; decide)] at q;exact q
  . exact e0.hok.fresh (J7 (x.above y c (JB h)))
  . unfold xdn
    show _=N.length;rw[Zp,Za,QQ];omega
theorem xkd {CX:CXT}{P:Program}{w:World}{K:Zd}{mg:Str->Option Value}{base:Heap}{k:Nat}{f:Addr}{name qual:Str}{params:Arguments}{body:List Stmt}{scope:Scope}{dV kV doc pm cdv ct oc:Value}{an od:Option Addr}
    {osl:Array (Option Value)}{N ps:List Str}{sp:Sp} (lk:K.lookup f=some ⟨oc,od,.func (Js name qual params body scope dV kV doc pm an cdv ct),osl⟩) (hcd:YI K cdv qual=true) (S:xu N ps scope)
    (len:∀ vs H Q E,sp vs H Q E->vs.length=ps.length)
    (hbody:∀(A:Around) (outer:List Env) (s:Shared) (H:Hp) (vs:List V) (Q:VK) (E:XK),Room q0 k (A.deeper (envOfC qual scope s.heap.objs.size f cdv))->sp vs H Q E ->
      ∃ t,PSs (cxOf q0 CX P w K mg base N qual scope f cdv A outer s H E) body t/\t { nx:=fun _ H'=>Q .non H',rt:=Q } (xdn N vs) H) :
    FnOk q0 P w K mg base CX (k+1) f (Js name qual params body scope dV kV doc pm an cdv ct) ps sp:=by
  refine⟨len,fun A outer s H args us vs Q E hr e0 hb r hsp=>?_⟩;have hl:=len _ _ _ _ hsp;have KX:K.In s.heap:=e0.mod.kin.keeps fun b o e=>(e0.bs b o e).1;have lim:s.heap.NoLimit:=e0.mod.nolimit.keeps fun b o e=>(e0.bs b o e).1;have hkind:∀ y∈ps.zip us,scope.names.lookup y.1=some .local\/(scope.names.lookup y.1=some .cell/\((cellsFrom (s.heap.objs.size+1) scope.names []).lookup y.1).isSome=true):=fun⟨n,v⟩ hy=>by
    rcases S.par n (List.of_mem_zip hy).1 with q|q
    . exact .inl q
    . exact .inr ⟨q,PySem.W.cellsFrom_some _ _ _ (.inl q)⟩
  refine codeAny_call_function hr.depth (KX _ _ lk) rfl S.co S.gen rfl (PySem.W.codeRec_of KX hcd) (hb _ _ _ _ ?_);refine wpAny_newFunctionEnv_cells S.kind hkind fun env he s1 x=>?_;subst he;refine⟨lim.keeps x.toInCall.keep,codeAny_func ?_⟩;obtain⟨t,ht,hq⟩:=hbody A outer s H vs Q E (hr.deeper _) hsp;have I:Inv (cxOf q0 CX P w K mg base N qual scope f cdv A outer s H E) [] (xdn N vs) H s1:=xo5 S hr.hd e0 hl r x;refine ZQ (ht [] s1 (xdn N vs) H _ I hq) (fun fl s' hs=>?_) fun e s' hs=>hs;have fin:∀{σ':St}{H':Hp}{v:V}{u:Value},Inv (cxOf q0 CX P w K mg base N qual scope f cdv A outer s H E) [] σ' H' s'->RelV v u->Q v H'->CE outer P w H s Q u s' :=
    fun {σ' H' v u} J rv q=>⟨v,H',J.os,J.bare,J.base,J.hok,rv,q⟩
  cases fl with
  | ret u =>
    obtain⟨v,σ',H',J,rv,q⟩:=hs;exact fin J rv q
  | next =>
    obtain⟨σ',H',J,q⟩:=hs;exact fin (v:=V.non) (u:=ZR) J rfl q
  | brk =>
    obtain⟨_,_,_,q⟩:=hs;exact J6 q
  | cont =>
    obtain⟨_,_,_,q⟩:=hs;exact J6 q
section
variable {X:Cx}{x:Str}{p pos:Pos}{e:Expr}{es:List Expr}{t:TA}{id T:String}{r:List V->Hp->VK->Prop}
def tCB (r:List V->Hp->VK->Prop) (t:TA):TE:=fun Z H Q=>t Z H fun vs H1=>r vs H1 Q
theorem x5 (hc:xbz X (.builtin id) r) (hg:Gl X x) (hm:X.mg x=none) (hv:bootBuiltins x=some (.builtin id)) (ha:PA X (e::es) t) (hn:x≠"__name__":=by decide) (hdb:(x == ("__debug__":Str))=false:=by decide)
    (he:starEach (e::es) X.env=(false,eval e X.env)::starEach es X.env:=by rfl) (hpl:(backTo pos (starEach es X.env)).any (·.1)=false:=by rfl):PE X (.Call (.Name x p) (e::es) [] pos) (tCB r t):=by
  intro pins s Z H Q I h;refine Yh (xc1 I hg hm hv ?_ hn hdb);exact PyProof.Rows.callWith_builtin1 (thn (ha pos pins s Z H _ I h) fun us s1 ⟨vs,H1,I1,r1,q1⟩=>hc pins s1 Z H1 vs us Q I1 r1 q1) he hpl
theorem xcb (hc:xbz X (.type T) r) (hg:Gl X x) (hm:X.mg x=none) (hv:bootBuiltins x=some (.type T)) (ha:PA X (e::es) t) (hn:x≠"__name__":=by decide) (hdb:(x == ("__debug__":Str))=false:=by decide)
    (he:starEach (e::es) X.env=(false,eval e X.env)::starEach es X.env:=by rfl) (hpl:(backTo pos (starEach es X.env)).any (·.1)=false:=by rfl):PE X (.Call (.Name x p) (e::es) [] pos) (tCB r t):=by
  intro pins s Z H Q I h;refine Yh (xc1 I hg hm hv ?_ hn hdb);exact Ji (thn (ha pos pins s Z H _ I h) fun us s1 ⟨vs,H1,I1,r1,q1⟩=>hc pins s1 Z H1 vs us Q I1 r1 q1) he hpl
end
end L2
namespace HT
open PySem PyProof.Rows
section
variable {prog:Program}{w:World}{A:Around}{E:Value->Shared->Prop}{s:Shared}
theorem cat_tup {t b:Addr}{vs ws:List Value}{Q:Value->Shared->Prop} (ht:IsTup s.heap t vs.toArray) (hb:IsTup s.heap b ws.toArray) (hv:vs≠[])
    (h1:ws=[]->Q (.ref t) s) (h2:ws≠[]->Q (.ref s.heap.objs.size) { s with heap:=s.heap.push { cls:=.type "tuple",data:=.seq (vs++ws).toArray } })
    (hsz:vs.length+ws.length<=sizeLine):wpAny (model prog w) A (binaryOp .Add (.ref t) (.ref b)) Q E s:=by
  obtain⟨⟨cls,dd,data,sl⟩,ho,hc,n,hd⟩:=id ht;obtain⟨⟨cls2,dd2,data2,sl2⟩,ho2,hc2,n2,hd2⟩:=id hb;simp only at hc hd hc2 hd2;subst hc hd hc2 hd2;have e:vs.toArray++ws.toArray=(vs++ws).toArray:=by simp
  by_cases hw:ws=[]
  . exact concat_meets ⟨_,ho,rfl⟩ ⟨_,ho2,rfl⟩ noFill_tuple_add seq_tuple_add PySem.F.slot_tuple_add PySem.F.entry_tuple_add (PySem.F.args_tuple_add_2 _ _)
      (tuple_addW1 t b vs.toArray ws.toArray n n2 dd dd2 sl sl2 (by simpa using hv) (by simp[hw])) ⟨ho,ho2,h1 hw⟩
  . refine concat_meets ⟨_,ho,rfl⟩ ⟨_,ho2,rfl⟩ noFill_tuple_add seq_tuple_add PySem.F.slot_tuple_add PySem.F.entry_tuple_add (PySem.F.args_tuple_add_2 _ _)
      (tuple_addW2 t b vs.toArray ws.toArray n n2 dd dd2 sl sl2 (by simpa using hv) (by simpa using hw) (by rw[Z5,Z5]; exact hsz)) ⟨ho,ho2,?_⟩
    rw[e];exact h2 hw
def sIx (n d:Nat):Option Int->Nat
 | none=>d
 | some v=>if v<0 then (v+(n:Int)).toNat else min v.toNat n
theorem sIx_none (n d:Nat):sIx n d none=d:=rfl
theorem sIx_nat (n d k:Nat):sIx n d (some (k:Int))=min k n:=by
 show (if (k:Int)<0 then ((k:Int)+(n:Int)).toNat else min (k:Int).toNat n)=min k n;rw[if_neg (by omega),YL]
theorem xuw (n d:Nat) (hd:d<=n) (o:Option Int):sIx n d o<=n:=by
 cases o with
 | none=>exact hd
 | some v =>
  show (if v<0 then (v+(n:Int)).toNat else min v.toNat n)<=n;by_cases hv:v<0
  .rw [if_pos hv]; omega
  .rw [if_neg hv]; exact Nat.min_le_right _ _
theorem xma (v:Int) (n d:Nat):(if v<0 then max (v+(n:Int)) 0 else min v (n:Int))=((sIx n d (some v):Nat):Int):=by
 show (if v<0 then max (v+(n:Int)) 0 else min v (n:Int))=(((if v<0 then (v+(n:Int)).toNat else min v.toNat n):Nat):Int)
 by_cases hv:v<0
 .simp only [if_pos hv]; omega
 .simp only [if_neg hv]; omega
theorem xn1 (lo hi:Option Int) (n:Nat):Builtin.Slice.sliceAdjust lo hi 1 (n:Int)=(((sIx n 0 lo:Nat):Int),((sIx n n hi:Nat):Int)):=by
 have h1:¬ ((1:Int)<0):=by omega
 unfold Builtin.Slice.sliceAdjust;simp only[h1,if_false];refine Prod.ext ?_ ?_
 .cases lo with
  | none=>rfl
  | some v=>exact xma v n 0
 .cases hi with
  | none=>rfl
  | some v=>exact xma v n n
theorem xnv (i j:Nat):Builtin.Slice.slicePlaces (i:Int) (j:Int) 1=j-i:=by
 unfold Builtin.Slice.slicePlaces;have h1:(1:Int)>0:=by omega
 simp only[h1,if_true,Int.ediv_one];split<;>omega
theorem xh5 {v:Value}{o:Option Int}{Q:Option Int->Shared->Prop} (p:IsPart v o) (h:Q o s):wpAny (model prog w) A (Builtin.Slice.slicePartIndex v) Q E s:=by
 cases p with
 | none=>exact slicePart_none h
 | int i t=>exact slicePart_int h
theorem xg4 {sl:Addr}{vl vu:Value}{lo hi:Option Int}{n:Nat}{Q:Int × Int × Nat->Shared->Prop} (hs:s.heap.IsSliceOf sl vl vu .none) (pl:IsPart vl lo) (pu:IsPart vu hi)
    (h:Q (((sIx n 0 lo:Nat):Int),1,sIx n n hi-sIx n 0 lo) s):wpAny (model prog w) A (Builtin.Slice.sliceApplied (.ref sl) (pure (n:Int))) Q E s:=by
  obtain⟨os,hos,hcs,hds⟩:=id hs;unfold Builtin.Slice.sliceApplied Builtin.Slice.sliceFields;refine Zc (Zc (Yv hos hds (x:=vl) rfl (Zc (Yv hos hds (x:=vu) rfl (Zc (Yv hos hds (x:=.none) rfl (Zm ?_)))))));refine Zc (slicePart_none ?_);show wpAny _ _ (if ((1:Int) == 0)=true then _ else _) _ _ s;rw[if_neg (by decide)];refine Zc (xh5 pl (Zc (xh5 pu (Zc (Zm ?_)))));show wpAny _ _ (match Builtin.Slice.sliceAdjust lo hi 1 (n:Int) with|(lo,hi)=>pure (lo,(1:Int),Builtin.Slice.slicePlaces lo hi 1)) _ _ s;rw[xn1 lo hi n];show wpAny _ _ (pure (((sIx n 0 lo:Nat):Int),(1:Int),Builtin.Slice.slicePlaces ((sIx n 0 lo:Nat):Int) ((sIx n n hi:Nat):Int) 1)) _ _ s;rw[xnv];exact Zm h
theorem xqh (xs:Array Value) (i k:Nat):((Z0 k).filterMap fun (m:Nat)=>xs[((i:Int)+(m:Int)*1).toNat]?).toArray=((xs.toList.drop i).take k).toArray:=by
 have e:(fun (m:Nat)=>xs[((i:Int)+(m:Int)*1).toNat]?)=fun m=>xs[i+m]?:=by
  funext m;have:((i:Int)+(m:Int)*1).toNat=i+m:=by omega
  rw[this]
 rw[e];have:=pick_run xs i k;rw[Wr] at this;have e2:((fun x=>xs[x]?)∘fun x=>i+x)=fun m=>xs[i+m]?:=rfl;rw[e2] at this;rw[this]
theorem getItem_tuple_cut {t sl:Addr}{items:Array Value}{vl vu:Value}{lo hi:Option Int}{Q:Value->Shared->Prop} (ht:IsTup s.heap t items) (hs:s.heap.IsSliceOf sl vl vu .none) (pl:IsPart vl lo) (pu:IsPart vu hi)
    (hw:¬ (sIx items.size 0 lo=0/\sIx items.size items.size hi=items.size))
    (h:Q (.ref s.heap.objs.size) { s with heap:=s.heap.push { cls:=.type "tuple",data:=.seq ((items.toList.drop (sIx items.size 0 lo)).take (sIx items.size items.size hi-sIx items.size 0 lo)).toArray } })
    (hsz:items.size<=sizeLine):wpAny (model prog w) A (getItem (.ref t) (.ref sl)) Q E s:=by
  have htake:sizeOk (.seq ((items.toList.drop (sIx items.size 0 lo)).take (sIx items.size items.size hi-sIx items.size 0 lo)).toArray):=by
    show ((items.toList.drop (sIx items.size 0 lo)).take (sIx items.size items.size hi-sIx items.size 0 lo)).toArray.size<=sizeLine;rw[Z5,ZP,JR,JC];omega
  have hj:sIx items.size items.size hi<=items.size:=xuw _ _ (Zl _) hi;obtain⟨os,hos,hcs,hds⟩:=id hs;have hTs:s.TypeIs (.ref sl) "slice":=⟨os,hos,hcs⟩
  unfold getItem
  try with_reducible refine J5 ?_
  first|refine Zc (Zm ?_)|skip
  refine Zc (wpAny_sequenceKey ht.typeIs (by decide) ?_);refine Zc (YD (name:=Zb "__getitem__") ht.typeIs YN
    (Yd YN ht.typeIs entry_tuple_getitem ?_ (args_tuple_getitem _ _)))
  show wpAny _ _ (Builtin.Tuple.tupleItemsOf (.ref t)>>=_) _ _ s;refine Zc (tupleItemsOf_ ht ?_);refine Zc (Yy hTs ?_);rw[if_pos (by decide)];refine Zc (xg4 hs pl pu ?_);have hno:¬ ((((sIx items.size 0 lo:Nat):Int) == 0&&(1:Int) == 1&&(sIx items.size items.size hi-sIx items.size 0 lo) == items.size)=true):=by
    intro q;rw[Zs,Zs] at q;have q1:((sIx items.size 0 lo:Nat):Int)=0:=Qx q.1.1;have q2:sIx items.size items.size hi-sIx items.size 0 lo=items.size:=Qx q.2;exact hw ⟨by omega,by omega⟩
  show wpAny _ _ (if (((sIx items.size 0 lo:Nat):Int) == 0&&(1:Int) == 1&&(sIx items.size items.size hi-sIx items.size 0 lo) == items.size)=true then _ else _) _ _ s;rw[if_neg hno,xqh]
  first
    | exact Zc (m:=Builtin.Tuple.tupleExact _) (Yr (Zm ⟨_,rfl,Zm h⟩) htake)
    | exact Zc (m:=Builtin.Tuple.tupleExact _) (Yr (Zc (Zm (Zm ⟨_,rfl,Zm h⟩))) htake)
    | exact Zc (Zc (m:=Builtin.Tuple.tupleExact _) (Yr (Zm (Zm ⟨_,rfl,Zm h⟩)) htake))
    | exact Zc (Zc (m:=Builtin.Tuple.tupleExact _) (Yr (Zm ⟨_,rfl,Zm h⟩) htake))
end
end HT
namespace L2
open PySem PySem.Spec PyProof.Rows
variable {q0:Bool}
abbrev TO:=St->Hp->(Option Int->Hp->Prop)->Prop
def PO (X:Cx) (e:Option Expr) (t:TO):Prop :=
 ∀(pins:List (Addr × Obj)) (s:Shared) (Z:St) (H:Hp) (Q:Option Int->Hp->Prop),Inv X pins Z H s->t Z H Q ->
  wpAny (model X.prog X.w) X.A (evalPart e X.env) (fun u s'=>∃ o H',Inv X pins Z H' s'/\IsPart u o/\Q o H') X.xe s
def xr4:TO:=fun _ H Q=>Q none H
def xw0 (t:TE):TO:=fun Z H Q=>t Z H fun x H1=>∃ i,x=.int i/\Q (some i) H1
section
variable {X:Cx}{e:Expr}{te:TE}{lo hi:Option Expr}{tl th:TO}{pos p2:Pos}
theorem xe1:PO X none xr4:=by
 intro pins s Z H Q I h;rw[evalPart_none];exact Zm ⟨none,H,I,.none,h⟩
theorem xcy (h:PE X e te):PO X (some e) (xw0 te):=by
 intro pins s Z H Q I hw;rw[evalPart_some];refine thn (h pins s Z H _ I hw) fun u s1 ⟨x,H1,I1,r1,q1⟩=>?_;obtain⟨i,rfl,q⟩:=q1;obtain⟨t,rfl⟩:=r1;exact⟨some i,H1,I1,.int i t,q⟩
def SlR (X:Cx) (r:V->Option Int->Option Int->Hp->VK->Prop):Prop :=
 ∀(pins:List (Addr × Obj)) (s:Shared) (Z:St) (H:Hp) (x:V) (v vl vu:Value) (lo hi:Option Int) (sl:Addr) (Q:VK),Inv X pins Z H s->RelV x v->s.heap.IsSliceOf sl vl vu .none->IsPart vl lo->IsPart vu hi->r x lo hi H Q ->
  ∃ T id,typeLookup (.type T) "__getitem__"=pure (some (.builtin id))/\s.TypeIs v T/\wpAny (model X.prog X.w) X.A (getItem v (.ref sl)) (EP X pins Z Q) X.xe s
def tSl (r:V->Option Int->Option Int->Hp->VK->Prop) (te:TE) (tl th:TO):TE:=fun Z H Q=>te Z H fun x H1=>tl Z H1 fun l H2=>th Z H2 fun u H3=>r x l u H3 Q
theorem xda {r:V->Option Int->Option Int->Hp->VK->Prop} (hr:SlR X r) (he:PE X e te) (hl:PO X lo tl) (hu:PO X hi th):PE X (.Subscript e (.Slice lo hi none p2) pos) (tSl r te tl th):=by
 intro pins s Z H Q I h;refine Subscript_ (thn (he pins s Z H _ I h) fun v s1 ⟨x,H1,I1,r1,q1⟩=>?_);refine wpAny_Slice (thn (hl pins s1 Z H1 _ I1 q1) fun vl s2 ⟨l,H2,I2,pl,q2⟩=>thn (hu pins s2 Z H2 _ I2 q2) fun vu s3 ⟨u,H3,I3,pu,q3⟩=>?_);rw[evalPart_none];refine Zm ?_;have I4:Inv X pins Z H3 { s3 with heap:=s3.heap.push { cls:=.type "slice",data:=.fields #[vl,vu,.none] } }:=I3.kept (t':=s3.toks) fun b ob q=>Zi _ q;obtain⟨T,id,hT,ht,hg⟩:=hr pins { s3 with heap:=s3.heap.push { cls:=.type "slice",data:=.fields #[vl,vu,.none] } } Z H3 x v vl vu l u s3.heap.objs.size Q I4 r1 (Heap.IsSliceOf.new ..) pl pu q3;show wpAny (model X.prog X.w) X.A (subscriptTail e (.Slice lo hi none p2) v (.ref s3.heap.objs.size)) (EP X pins Z Q) X.xe { s3 with heap:=s3.heap.push { cls:=.type "slice",data:=.fields #[vl,vu,.none] } };exact tail_any (ops:=[.ref s3.heap.objs.size,v]) ht hT hg (by with_unfolding_all rfl)
def cutV (xs:List V) (lo hi:Option Int):List V:=(xs.drop (HT.sIx xs.length 0 lo)).take (HT.sIx xs.length xs.length hi-HT.sIx xs.length 0 lo)
theorem xg1 (xs:List V) (lo hi:Option Int):(cutV xs lo hi).length<=xs.length:=by
 unfold cutV;rw[ZP,JR];omega
def rSlT (K:Zd):V->Option Int->Option Int->Hp->VK->Prop:=fun x lo hi H Q=>∃ a xs,x=.ref a/\SqT K H a xs /\
 ¬ (HT.sIx xs.length 0 lo=0/\HT.sIx xs.length xs.length hi=xs.length)/\∀ p,H p=none->Q (.ref p) (upd H p (.tup (cutV xs lo hi)))
theorem xun:SlR X (rSlT X.K):=by
 intro pins s Z H x v vl vu lo hi sl Q I rx hs pl pu h;obtain⟨a,xs,rfl,hx,hw,q⟩:=h;cases rx;obtain⟨its,r,ht,hz⟩:=I.tuple hx;have hlen:its.toArray.size=xs.length:=by rw[Z5]; exact r.length.symm
 refine⟨"tuple",_,YN.lookup,ht.typeIs,?_⟩;refine HT.getItem_tuple_cut ht hs pl pu (by rw[hlen]; exact hw) ?_ (by rw[hlen]; exact hz);rw[hlen];refine⟨.ref s.heap.objs.size,_,I.laid (t':=s.toks) (o:=.tup (cutV xs lo hi)) (fun b ob q=>Zi _ q) (Zl _) ?_,rfl,q _ (I.hok.fresh (Zl _))⟩;exact⟨Z8 (xg1 xs lo hi) hz,_,(r.drop (HT.sIx xs.length 0 lo)).take (HT.sIx xs.length xs.length hi-HT.sIx xs.length 0 lo),IsTup.new _ _⟩
inductive xna (K:Zd) (x:V) (y:V) (H:Hp) (Q:VK):Prop
 | mk (a b xs ys) (e_:x=.ref a) (r_:y=.ref b/\SqT K H a xs/\SqT K H b ys/\xs≠[]/\xs.length+ys.length<=sizeLine/\(ys=[]->Q (.ref a) H)/\(ys≠[]->∀ p,H p=none->Q (.ref p) (upd H p (.tup (xs++ys)))))
theorem Vals.nil_iff {xs:List V}{us:List Value} (r:Vals xs us):us=[]↔xs=[]:=by
 cases r with
 | nil=>simp
 | cons _ _=>simp
theorem xl3:OpR X (binaryOp .Add) (xna X.K):=by
 intro pins s Z H x y v u Q I rx ry h;obtain⟨a,b,xs,ys,rfl,rfl,ha,hb,hx,hz,q1,q2⟩:=h;cases rx;cases ry;obtain⟨its,r1,p1,_⟩:=I.tuple ha;obtain⟨its2,r2,p2,_⟩:=I.tuple hb;refine HT.cat_tup p1 p2 (fun z=>hx (r1.nil_iff.mp z)) (fun z=>⟨.ref a,H,I,rfl,q1 (r2.nil_iff.mp z)⟩) (fun z=>?_) (by rw[<- r1.length,<- r2.length]; exact hz);refine⟨.ref s.heap.objs.size,_,I.laid (t':=s.toks) (o:=.tup (xs++ys)) (fun b ob q=>Zi _ q) (Zl _) ?_,rfl,q2 (fun w=>z (r2.nil_iff.mpr w)) _ (I.hok.fresh (Zl _))⟩;exact⟨by rw[Zp]; exact hz,_,r1.append r2,IsTup.new _ _⟩
end
def ixN (n:Nat) (i:Int):Option Nat:=if 0<=i then (if i<n then some i.toNat else none) else if -(n:Int)<=i then some (i+n).toNat else none
def atI {α:Type} (xs:List α) (i:Int):Option α:=(ixN xs.length i).bind fun j=>xs[j]?
theorem xsz {n:Nat}{i:Int}{j:Nat} (h:ixN n i=some j):seqIndex? i n=some j/\j<n/\-(n:Int)<=i/\i<n:=by
 unfold ixN at h;by_cases h0:0<=i
 .rw [if_pos h0] at h;by_cases h1:i<n
  .rw [if_pos h1] at h;have e:i.toNat=j:=JD.inj h;exact⟨by rw[seqIndex_of h0 h1,e],by omega,by omega,h1⟩
  .rw [if_neg h1] at h; cases h
 .rw [if_neg h0] at h;by_cases h1:-(n:Int)<=i
  .rw [if_pos h1] at h;have e:(i+n).toNat=j:=JD.inj h;exact⟨by rw[seqIndex_neg (by omega) h1,e],by omega,h1,by omega⟩
  .rw [if_neg h1] at h; cases h
theorem xis {α:Type}{xs:List α}{i:Int}{v:α} (h:atI xs i=some v):∃ j,seqIndex? i xs.length=some j/\xs[j]?=some v/\j<xs.length/\-(xs.length:Int)<=i/\i<xs.length:=by
 unfold atI at h;cases e:ixN xs.length i with
 | none=>rw[e] at h; cases h
 | some j =>
  rw[e] at h;obtain⟨h1,h2,h3,h4⟩:=xsz e;exact⟨j,h1,h,h2,h3,h4⟩
theorem xba {α:Type}{xs:List α}{j:Nat}{v:α} (h:xs[j]?=some v):atI xs (j:Int)=some v:=by
 have hj:j<xs.length:=(Zf.mp h).1;have e:ixN xs.length (j:Int)=some j:=by
  unfold ixN;rw[if_pos (by omega),if_pos (by omega)]; simp
 unfold atI; rw[e]; exact h
def xsq (b:Expr):Prop:=∀ o i,subscripted b false o i=operate [o,i] (getItem o i)
def IxR (X:Cx) (r:R2):Prop :=
 ∀(value slice:Expr) (pins:List (Addr × Obj)) (s:Shared) (Z:St) (H:Hp) (x y:V) (v u:Value) (Q:VK),Inv X pins Z H s->RelV x v->RelV y u->r x y H Q ->
  subscripted slice false v u=operate [v,u] (getItem v u)->wpAny (model X.prog X.w) X.A (subscriptTail value slice v u) (EP X pins Z Q) X.xe s
def MtR (X:Cx) (id:String) (r:V->List V->Hp->VK->Prop):Prop :=
 ∀(pins:List (Addr × Obj)) (s:Shared) (Z:St) (H:Hp) (x:V) (xs:List V) (v:Value) (us:List Value) (Q:VK),Inv X pins Z H s->RelV x v->Vals xs us->r x xs H Q ->
  wpAny (model X.prog X.w) X.A (call (.builtin id) (v::us)) (EP X pins Z Q) X.xe s
section
variable {X:Cx}{a b:Expr}{ta tb:TE}{pos:Pos}
theorem xaj {r:R2} (hr:IxR X r) (ha:PE X a ta) (hb:PE X b tb) (hs:xsq b):PE X (.Subscript a b pos) (tOp r ta tb):=by
 intro pins s Z H Q I h;exact Subscript_ (binT ha hb I h fun v u s2 x y H2 I2 rx ry q=>hr a b pins s2 Z H2 x y v u Q I2 rx ry q (hs _ _))
inductive rIxL (K:Zd) (x:V) (y:V) (H:Hp) (Q:VK):Prop
 | mk (p xs i v) (e_:x=.ref p) (r_:y=.int i/\SqL K H p xs/\atI xs i=some v/\Q v H)
inductive rIxT (K:Zd) (x:V) (y:V) (H:Hp) (Q:VK):Prop
 | mk (p xs i v) (e_:x=.ref p) (r_:y=.int i/\SqT K H p xs/\atI xs i=some v/\Q v H)
inductive rIxS (x:V) (y:V) (H:Hp) (Q:VK):Prop
 | mk (z i c) (e_:x=.str z) (r_:y=.int i/\z.length<=sizeLine/\atI z.cps.toList i=some c/\Q (.str ⟨#[c]⟩) H)
theorem xbp:IxR X (rIxL X.K):=by
 intro value slice pins s Z H x y v u Q I rx ry h hs;obtain⟨p,xs,i,z,rfl,rfl,hq,he,q⟩:=h;cases rx;obtain⟨t,rfl⟩:=ry;obtain⟨its,r,pl,hz⟩:=I.list hq;obtain⟨j,h1,h2,h3,h4,h5⟩:=xis he;obtain⟨w,ew,rw'⟩:=r.get h2;have hl:=r.length;have hn:=xf6;have fin:EP X pins Z Q w s:=⟨z,H,I,rw',q⟩
 by_cases h0:0<=i
 .have hj:i.toNat=j:=by
   rw[seqIndex_of h0 h5] at h1;exact JD.inj h1
  exact item_listR pl.isList h0 (by omega) (by rw[hj]; simpa using ew) fin hs
 .have hj:(i+(its.toArray.size:Int)).toNat=j:=by
   rw[seqIndex_neg (by omega) h4] at h1;rw[Z5,<- hl];exact JD.inj h1
  exact subscriptTail_builtinR (x:=w) pl.isList.typeIs slot_list_getitem.lookup
   (wpAny_getItem_list_neg (Q:=fun r s'=>r=w/\EP X pins Z Q r s') pl.isList (by omega) (by rw[Z5]<;>omega) (by omega) (by rw[hj]; simpa using ew) ⟨rfl,fin⟩) hs
theorem xa4:IxR X (rIxT X.K):=by
 intro value slice pins s Z H x y v u Q I rx ry h hs;obtain⟨p,xs,i,z,rfl,rfl,hq,he,q⟩:=h;cases rx;obtain⟨t,rfl⟩:=ry;obtain⟨its,r,pl,hz⟩:=I.tuple hq;obtain⟨j,h1,h2,h3,h4,h5⟩:=xis he;obtain⟨w,ew,rw'⟩:=r.get h2;have hl:=r.length;have hn:=xf6;have fin:EP X pins Z Q w s:=⟨z,H,I,rw',q⟩
 exact subscriptTail_builtinR (x:=w) pl.typeIs slot_tuple_getitem.lookup
  (getItem_tuple (j:=j) (Q:=fun r s'=>r=w/\EP X pins Z Q r s') pl (by omega) (by omega) (by rw[Z5,<- hl]; exact h1) (by simpa using ew) ⟨rfl,fin⟩) hs
theorem xfv:IxR X rIxS:=by
 intro value slice pins s Z H x y v u Q I rx ry h hs;obtain⟨z,i,c,rfl,rfl,hz,he,q⟩:=h;obtain⟨t,rfl⟩:=rx;obtain⟨t',rfl⟩:=ry;obtain⟨j,h1,h2,h3,h4,h5⟩:=xis he;have hl:z.cps.toList.length=z.length:=by simp[YU]
 rw[hl] at h1 h4 h5;have hn:=xf6;exact tail_any (typeIs_str s z t) slot_str_getitem.lookup (getItem_str (c:=c) (by
  have e1:decide (i < -(2 ^ 63:Int))=false:=decide_eq_false (by omega);have e2:decide (i>=2 ^ 63)=false:=decide_eq_false (by omega);rw[e1,e2,Yc]) (by rw[h1]; simpa using h2) ⟨.str ⟨#[c]⟩,H,I.tok _,⟨_,rfl⟩,q⟩) hs
theorem Inv.lst {pins:List (Addr × Obj)}{Z:St}{H:Hp}{s:Shared}{p:Addr}{xs:List V} (I:Inv X pins Z H s) (h:H p=some (.lst xs)) :
    ∃(its:List Value) (n:Nat),Vals xs its/\s.heap.get? p=some { cls:=.type "list",data:=.seq its.toArray n }/\xs.length<=sizeLine:=by
  obtain⟨z,its,n,r,e⟩:=I.hok p _ h;exact⟨its,n,r,e,z⟩
theorem xk3 (lo hi:Option Int) (n:Nat):(sliceBounds lo hi none n).1=((HT.sIx n 0 lo:Nat):Int)/\(sliceBounds lo hi none n).2.1=((HT.sIx n n hi:Nat):Int)/\(sliceBounds lo hi none n).2.2=1:=by
 refine⟨?_,?_,rfl⟩
 .cases lo with
  | none=>simp[sliceBounds,HT.sIx]
  | some i =>
   simp only[sliceBounds,HT.sIx,Option.getD_none,show (1:Int)>0 by decide,if_true];by_cases h:i<0
   .simp only [h,if_true]<;>omega
   .simp only [h,if_false]<;>omega
 .cases hi with
  | none=>simp[sliceBounds,HT.sIx]
  | some i =>
   simp only[sliceBounds,HT.sIx,Option.getD_none,show (1:Int)>0 by decide,if_true];by_cases h:i<0
   .simp only [h,if_true]<;>omega
   .simp only [h,if_false]<;>omega
theorem xj7 (its:List Value) (lo hi:Option Int):slicePick its.toArray lo hi none=((its.drop (HT.sIx its.length 0 lo)).take (HT.sIx its.length its.length hi-HT.sIx its.length 0 lo)).toArray:=by
 obtain⟨h1,h2,h3⟩:=xk3 lo hi its.toArray.size;unfold slicePick;rw[h1,h2,h3];simp only[sliceRange_one,pick_run,Z5]<;>rfl
def rSlL (K:Zd):V->Option Int->Option Int->Hp->VK->Prop:=fun x lo hi H Q=>∃ a xs,x=.ref a/\SqL K H a xs/\∀ p,H p=none->Q (.ref p) (upd H p (.lst (cutV xs lo hi)))
theorem xgv:SlR X (rSlL X.K):=by
 intro pins s Z H x v vl vu lo hi sl Q I rx hs pl pu h;obtain⟨a,xs,rfl,hx,q⟩:=h;cases rx;obtain⟨its,r,ht,hz⟩:=I.list hx;have hlen:=r.length;refine⟨"list",_,slot_list_getitem.lookup,ht.isList.typeIs,?_⟩;refine wpAny_getItem_list_slice ht.isList hs pl pu .none (by simp) ?_ (by rw[Z5]<;>omega);rw[xj7,<- hlen];refine⟨.ref s.heap.objs.size,_,I.laid (t':=s.toks) (o:=.lst (cutV xs lo hi)) (fun b ob q=>Zi _ q) (Zl _) ?_,rfl,q _ (I.hok.fresh (Zl _))⟩;exact⟨Z8 (xg1 xs lo hi) hz,_,0,(r.drop (HT.sIx xs.length 0 lo)).take (HT.sIx xs.length xs.length hi-HT.sIx xs.length 0 lo),Z2 _ rfl⟩
def xep:V->Bool
 | .non=>true
 | .bl _=>true
 | .int _=>true
 | .str _=>true
 | _=>false
def eqV:V->V->Bool
 | .non,.non=>true
 | .bl a,.bl b=>a == b
 | .bl a,.int b=>(if a then 1 else 0) == b
 | .int a,.bl b=>a == (if b then 1 else 0)
 | .int a,.int b=>a == b
 | .str a,.str b=>a == b
 | _,_=>false
theorem xtt {A:Around}{s:Shared}{y x:V}{u v:Value} (ry:RelV y u) (rx:RelV x v) (fy:xep y=true) (fx:xep x=true):Zx A s u v (eqV y x):=by
 cases y with
 | non =>
  cases ry;cases x with
  | non=>cases rx; exact Zx.same _
  | bl b=>cases rx; exact Zx.none_bool b
  | int b=>obtain⟨t,rfl⟩:=rx; exact Zx.none_int b t
  | str b=>obtain⟨t,rfl⟩:=rx; exact Zx.none_str b t
  | _=>exact absurd (show false=true from fx) Z1
 | bl a =>
  cases ry;cases x with
  | non=>cases rx; exact Zx.bool_none a
  | bl b=>cases rx; exact Zx.bool_bool a b
  | int b=>obtain⟨t,rfl⟩:=rx; exact Zx.bool_int a b t
  | str b=>obtain⟨t,rfl⟩:=rx; exact Zx.bool_str a b t
  | _=>exact absurd (show false=true from fx) Z1
 | int a =>
  obtain⟨t',rfl⟩:=ry;cases x with
  | non=>cases rx; exact Zx.int_none a t'
  | bl b=>cases rx; exact Zx.int_bool a t' b
  | int b=>obtain⟨t,rfl⟩:=rx; exact Zx.int_int a t' b t
  | str b=>obtain⟨t,rfl⟩:=rx; exact Zx.int_str a t' b t
  | _=>exact absurd (show false=true from fx) Z1
 | str a =>
  obtain⟨t',rfl⟩:=ry;cases x with
  | non=>cases rx; exact Zx.str_none a t'
  | bl b=>cases rx; exact Zx.str_bool a t' b
  | int b=>obtain⟨t,rfl⟩:=rx; exact Zx.str_int a t' b t
  | str b=>obtain⟨t,rfl⟩:=rx; exact Zx.str_str a t' b t
  | _=>exact absurd (show false=true from fx) Z1
 | _=>exact absurd (show false=true from fy) Z1
def eqU (x:V) (u:Value):Bool:=match u with
 | .none=>eqV .non x
 | .bool b=>eqV (.bl b) x
 | .int i _=>eqV (.int i) x
 | .str z _=>eqV (.str z) x
 | _=>false
theorem xpv {x y:V}{u:Value} (r:RelV y u) (f:xep y=true):eqU x u=eqV y x:=by
 cases y with
 | non=>cases r; rfl
 | bl b=>cases r; rfl
 | int i=>obtain⟨t,rfl⟩:=r; rfl
 | str z=>obtain⟨t,rfl⟩:=r; rfl
 | _=>exact absurd (show false=true from f) Z1
theorem xi9 {x:V}:∀{xs:List V}{us:List Value},Vals xs us->xs.all xep=true->us.any (eqU x)=xs.any fun y=>eqV y x
 | _,_,.nil,_=>rfl
 | y::xs,u::us,.cons r t,f=>by
  rw[Qv,Zs] at f;rw[JP,JP,xpv r f.1,xi9 t f.2]
theorem xhm {A:Around}{s:Shared}{x:V}{v:Value} (rx:RelV x v) (fx:xep x=true):∀{xs:List V}{us:List Value},Vals xs us->xs.all xep=true->∀ u∈us,Zx A s u v (eqU x u)
 | _,_,.nil,_=>fun u hu=>by cases hu
 | y::xs,u::us,.cons r t,f=>fun u' hu=>by
  rw[Qv,Zs] at f;rcases Zy.mp hu with rfl|hu
  .rw [xpv r f.1]; exact xtt r rx f.1 fx
  .exact xhm rx fx t f.2 u' hu
def inV (x:V) (xs:List V):Bool:=xs.any fun y=>eqV y x
inductive rIn (K:Zd) (neg:Bool) (x:V) (y:V) (H:Hp) (Q:VK):Prop
 | mk (p xs) (e_:y=.ref p) (r_:(SqL K H p xs\/SqT K H p xs)/\xep x=true/\xs.all xep=true/\Q (.bl (if neg then !inV x xs else inV x xs)) H)
theorem xgc:OpR X (compareOp .In) (rIn X.K false):=by
 intro pins s Z H x y v u Q I rx ry h;obtain⟨p,xs,rfl,hq,fx,fs,q⟩:=h;cases ry;rcases hq with hq|hq
 .obtain ⟨its,r,pl,hz⟩:=I.list hq;refine SeqAt.in_listAt (eqU x) pl.isList (fun w hw=>xhm rx fx r fs w (by simpa using hw)) ⟨.bl _,H,I,rfl,?_⟩;rw[show its.toArray.any (eqU x)=its.any (eqU x) by simp,xi9 r fs];exact q
 .obtain ⟨its,r,pl,hz⟩:=I.tuple hq;refine SeqAt.in_tupleAt (eqU x) pl (fun w hw=>xhm rx fx r fs w (by simpa using hw)) ⟨.bl _,H,I,rfl,?_⟩;rw[show its.toArray.any (eqU x)=its.any (eqU x) by simp,xi9 r fs];exact q
theorem xa8:xbz X (.builtin "len") (fun xs H Q=>∃ p ys,xs=[.ref p]/\(SqL X.K H p ys\/SqT X.K H p ys)/\Q (.int ys.length) H):=by
 intro pins s Z H xs us Q I r h;obtain⟨p,ys,rfl,hq,q⟩:=h;obtain⟨u,rfl,rx⟩:=xb4 r;cases rx;have hn:=xf6;rcases hq with hq|hq
 .obtain ⟨its,r',pl,hz⟩:=I.list hq;have hlen:=r'.length;exact Calls.call_len_list pl.isList (by simp only[Z5]<;>omega) ⟨.int ys.length,H,I.tok _,⟨s.toks+1,by rw[Z5,hlen]⟩,q⟩
 .obtain ⟨its,r',pl,hz⟩:=I.tuple hq;have hlen:=r'.length;exact len_tuple pl (by simp only[Z5]<;>omega) ⟨.int ys.length,H,I.tok _,⟨s.toks+1,by rw[Z5,hlen]⟩,q⟩
theorem xa7:xbz X (.builtin "len") (fun xs H Q=>∃ z,xs=[.str z]/\z.length<=sizeLine/\Q (.int z.length) H):=by
 intro pins s Z H xs us Q I r h;obtain⟨z,rfl,hz,q⟩:=h;obtain⟨u,rfl,t,rfl⟩:=xb4 r;have hn:=xf6;exact len_str (by omega) ⟨.int z.length,H,I.tok _,⟨_,rfl⟩,q⟩
theorem xf4:xbz X (.type "list") (fun xs H Q=>∃ p ys,xs=[.ref p]/\(SqL X.K H p ys\/SqT X.K H p ys)/\∀ l,H l=none->Q (.ref l) (upd H l (.lst ys))):=by
  intro pins s Z H xs us Q I r h;obtain⟨p,ys,rfl,hq,q⟩:=h;obtain⟨u,rfl,rx⟩:=xb4 r;cases rx;have fin:∀(its:List Value),Vals ys its->ys.length<=sizeLine->∀(h':Heap) (c':Nat),(∀ b o',s.heap.get? b=some o'->h'.get? b=some o') ->
      h'.get? s.heap.objs.size=some { cls:=.type "list",dict:=none,data:=.seq its.toArray c',slots:=#[] }->EP X pins Z Q (.ref s.heap.objs.size) { s with heap:=h' }:=fun its r' hz h' c' kp e =>
    ⟨.ref s.heap.objs.size,_,I.laid (t':=s.toks) kp (Zl _) (show xan X.prog X.w _ h' _ (.lst ys) from ⟨hz,its,c',r',e⟩),rfl,q _ (I.hok.fresh (Zl _))⟩
  rcases hq with hq|hq
  . obtain⟨its,r',pl,hz⟩:=I.list hq
    have hlen:=r'.length;obtain⟨o,ho,hc,n,hd⟩:=pl.isList;exact call_list_seq p (.inl rfl) ho hc hd (fun h' c' kp e=>fin its r' hz h' c' kp e) (by simp only[Z5]<;>omega)
  . obtain⟨its,r',pl,hz⟩:=I.tuple hq
    have hlen:=r'.length;obtain⟨o,ho,hc,n,hd⟩:=pl;exact call_list_seq p (.inr rfl) ho hc hd (fun h' c' kp e=>fin its r' hz h' c' kp e) (by simp only[Z5]<;>omega)
def tyV (K:Zd) (T:String) (x:V) (H:Hp):Prop:=match x with
  | .str _=>T="str"
  | .int _=>T="int"
  | .ref p=>(T="list"/\∃ xs,SqL K H p xs)\/(T="tuple"/\∃ o,K.lookup p=some o/\o.cls=.type "tuple"/\o.dict=none) \/
      (T="dict"/\((∃ kvs,H p=some (.dK kvs))\/∃ kvs,H p=some (.dT kvs)))\/(T="set"/\∃ S n,H p=some (.set S n))
  | _=>False
theorem xpx {pins:List (Addr × Obj)}{Z:St}{H:Hp}{s:Shared}{T:String}{x:V}{v:Value} (I:Inv X pins Z H s) (r:RelV x v) (ty:tyV X.K T x H) :
    s.TypeIs v T/\∀ a,v=.ref a->∃ ob,s.heap.get? a=some ob/\ob.dict=none:=by
  cases x with
  | str z =>
    obtain⟨t,rfl⟩:=r;cases (show T="str" from ty);exact⟨typeIs_str s z t,fun _ e=>nomatch e⟩
  | int i =>
    obtain⟨t,rfl⟩:=r;cases (show T="int" from ty);exact⟨typeIs_int s i t,fun _ e=>nomatch e⟩
  | ref p =>
    cases r;rcases ty with⟨rfl,xs,hq⟩|⟨rfl,o,hk,hc,hd⟩|⟨rfl,hk⟩|⟨rfl,S,n,hk⟩
    . obtain⟨its,_,pl,_⟩:=I.list hq
      refine⟨pl.isList.typeIs,fun a e=>?_⟩;cases e;obtain⟨o,n,e,c,hd,_⟩:=pl;exact⟨o,e,hd⟩
    . refine⟨⟨o,I.kIn p o hk,hc⟩,fun a e=>?_⟩
      cases e;exact⟨o,I.kIn _ o hk,hd⟩
    . have z:∃ o,s.heap.get? p=some o/\o.ExactDict:=by
        rcases hk with⟨kvs,hk⟩|⟨kvs,hk⟩
        . obtain⟨_,_,_,_,o,_,_,e,ex,_⟩:=I.hok p _ hk
          exact⟨o,e,ex⟩
        . obtain⟨_,_,_,_,o,_,_,e,ex,_⟩:=I.hok p _ hk
          exact⟨o,e,ex⟩
      obtain⟨o,e,ex⟩:=z;refine⟨⟨o,e,ex.1⟩,fun a e2=>?_⟩;cases e2;exact⟨o,e,ex.2.1⟩
    . obtain⟨o,_,_,_,e,ex,_⟩:=I.hok p _ hk
      refine⟨⟨o,e,ex.1⟩,fun a e2=>?_⟩;cases e2;exact⟨o,e,ex.2.1⟩
  | _=>exact J6 ty
def tBM0 (K:Zd) (T:String) (r:V->List V->Hp->VK->Prop) (to:TE):TE:=fun Z H Q=>to Z H fun x H1=>tyV K T x H1/\r x [] H1 Q
def tBM (K:Zd) (T:String) (r:V->List V->Hp->VK->Prop) (to:TE) (t:TA):TE:=fun Z H Q=>to Z H fun x H1=>tyV K T x H1/\t Z H1 fun xs H2=>r x xs H2 Q
variable {o e:Expr}{es:List Expr}{to:TE}{t:TA}{name:Str}{apos cpos:Pos}{T id:String}{r:V->List V->Hp->VK->Prop}
theorem xpy (pa:PlainAttrs T) (slot:Slot T name id) (hty:typeOf (.builtin id)=pure (.type "method_descriptor")) (hm:MtR X id r) (ho:PE X o to)
    (hbase:attributeBase o name X.env (eval o X.env)=eval o X.env:=by rfl) (hline:(apos.endLine == cpos.line)=true:=by rfl):PE X (.Call (.Attribute o name apos) [] [] cpos) (tBM0 X.K T r to):=by
  intro pins s Z H Q I h;refine wpAny_Call_method0_late hbase hline (thn (ho pins s Z H _ I h) fun v s1 ⟨x,H1,I1,r1,ty,q1⟩=>?_);obtain⟨h1,h2⟩:=xpx I1 r1 ty;exact⟨T,id,pa,slot,hty,h1,h2,YM rfl (PySem.evalArgs_none (hm pins s1 Z H1 x [] v [] Q I1 r1 .nil q1))⟩
theorem xcl (pa:PlainAttrs T) (slot:Slot T name id) (hty:typeOf (.builtin id)=pure (.type "method_descriptor")) (hm:MtR X id r) (ho:PE X o to) (ha:PA X (e::es) t)
    (hbase:attributeBase o name X.env (eval o X.env)=eval o X.env:=by rfl)
    (hfew:((backTo cpos (starEach (e::es) X.env)).all (fun x=>!x.1)&&(backToKw cpos (keywordEach [] X.env)).all (fun x=>x.1.isSome)
      && decide ((e::es).length+([]:List Keyword).length+(if ([]:List Keyword).isEmpty then 0 else 1)<30))=true:=by rfl)
    (hline:(apos.endLine == cpos.line)=true:=by rfl) (hs:starEach (e::es) X.env=(false,eval e X.env)::starEach es X.env:=by rfl) (hplain:(backTo cpos (starEach es X.env)).any (·.1)=false:=by rfl) :
    PE X (.Call (.Attribute o name apos) (e::es) [] cpos) (tBM X.K T r to t):=by
  intro pins s Z H Q I h;refine wpAny_Call_method_late hbase hfew hline rfl (thn (ho pins s Z H _ I h) fun v s1 ⟨x,H1,I1,r1,ty,q1⟩=>?_);obtain⟨h1,h2⟩:=xpx I1 r1 ty;refine⟨T,id,pa,slot,hty,h1,h2,?_⟩;have hA:=ha cpos pins s1 Z H1 _ I1 q1;rw[hs] at hA ⊢;refine YM (by show (false||(backTo cpos (starEach es X.env)).any (·.1))=false; rw[hplain]<;>rfl) (Calls.evalArgs_plain ?_);exact thn hA fun us s2 ⟨vs,H2,I2,r2,q2⟩=>hm pins s2 Z H2 x vs v us Q I2 r1 r2 q2
end
def MtM (X:Cx) (id:String) (r:V->List V->Hp->VK->Prop):Prop :=
 ∀(pins:List (Addr × Obj)) (s:Shared) (Z:St) (H:Hp) (x:V) (xs:List V) (v:Value) (us:List Value) (Q:VK),Inv X pins Z H s->RelV x v->Vals xs us->r x xs H Q ->
  wpAny (model X.prog X.w) X.A (call (.builtin id) (v::us)) (EP X pins Z Q) X.xe s
theorem Vals.one:∀{x:V}{us:List Value},Vals [x] us->∃ u,us=[u]/\RelV x u
 | _,_,.cons r .nil=>⟨_,rfl,r⟩
theorem Vals.eraseIdx:∀{xs:List V}{us:List Value} (i:Nat),Vals xs us->Vals (xs.eraseIdx i) (us.eraseIdx i)
 | _,_,_,.nil=>.nil
 | _,_,0,.cons _ t=>t
 | _,_,i+1,.cons r t=>.cons r (Vals.eraseIdx i t)
theorem xj1 {α:Type}:∀(l:List α) (i:Nat),(l.eraseIdx i).length<=l.length
 | [],_=>Zl _
 | _::_,0=>QS _
 | _::r,i+1=>Nat.succ_le_succ (xj1 r i)
section
variable {X:Cx}{pins:List (Addr × Obj)}{Z:St}{H:Hp}{s:Shared}{l b:Addr}{xs ys zs:List V}
theorem Inv.lset {its its':List Value}{n:Nat}{f:Array Value->Array Value}{t':Nat} (I:Inv X pins Z H s) (hH:H l=some (.lst xs))
    (e:s.heap.get? l=some { cls:=.type "list",data:=.seq its.toArray n }) (hf:f its.toArray=its'.toArray) (hv:Vals ys its') (hz:ys.length<=sizeLine) :
    Inv X pins Z (upd H l (.lst ys)) { s with heap:=s.heap.update l (JT f),toks:=t' }:=by
  have q:=PySem.IsL.update e f;rw[hf] at q;refine I.write (x:=l) (e:=l) (by rw[hH]; exact trivial) (.inl rfl) (fun b' u hb hu=>(Jo s.heap (JT f) (ZE hb)).trans hu) ⟨_,q⟩ ?_;exact⟨hz,its',_,hv,q⟩
theorem Inv.lnew {its:List Value}{t':Nat} (I:Inv X pins Z H s) (hv:Vals ys its) (hz:ys.length<=sizeLine) :
    Inv X pins Z (upd H s.heap.objs.size (.lst ys)) { s with heap:=s.heap.push { cls:=.type "list",data:=.seq its.toArray },toks:=t' } :=
  I.laid (fun _ _ q=>Zi _ q) (Zl _) ⟨hz,its,0,hv,Z2 _ rfl⟩
theorem Inv.fresh (I:Inv X pins Z H s):H s.heap.objs.size=none:=I.hok.fresh (Zl _)
theorem Inv.lstM (I:Inv X pins Z H s) (hH:H l=some (.lst xs)):xs.length<=sizeLine/\∃(its:List Value) (n:Nat),Vals xs its/\xs.length=its.length/\s.heap.get? l=some { cls:=.type "list",data:=.seq its.toArray n }:=by
 obtain⟨z,its,n,r,e⟩:=I.hok l _ hH;exact⟨z,its,n,r,r.length,e⟩
theorem xqx {n:Nat} (h:n<=sizeLine):Builtin.List.listTooLong n=false:=by
 unfold Builtin.List.listTooLong;exact decide_eq_false (by omega)
end
section
variable {X:Cx}
inductive xtc (x:V) (vs:List V) (H:Hp) (Q:VK):Prop
 | mk (l xs y) (e_:x=.ref l) (r_:vs=[y]/\H l=some (.lst xs)/\xs.length<sizeLine/\Q .non (upd H l (.lst (xs++[y]))))
theorem xcn:MtM X "list.append" xtc:=by
 intro pins s Z H x vs v us Q I rx rv h;obtain⟨l,xs,y,rfl,rfl,hH,hz,q⟩:=h;cases rx;obtain⟨u,rfl,ru⟩:=rv.one;obtain⟨z,its,n,r,hl,e⟩:=I.lstM hH;refine Wp F.slot_list_append ⟨_,e,rfl⟩ F.entry_list_append (F.args_list_append_2 _ _) (PySem.list_append l its.toArray n u (by rw[Z5]; omega)) ⟨e,?_⟩;refine⟨.non,_,I.lset (its':=its++[u]) hH e (by simp) (r.append (.cons ru .nil)) ?_,rfl,q⟩;rw[Zp,Jc];omega
inductive xsv (x:V) (vs:List V) (H:Hp) (Q:VK):Prop
 | mk (l b xs zs) (e_:x=.ref l) (r_:vs=[.ref b]/\H l=some (.lst xs)/\H b=some (.lst zs)/\xs.length+zs.length<=sizeLine/\Q .non (upd H l (.lst (xs++zs))))
theorem xoy:MtM X "list.extend" xsv:=by
 intro pins s Z H x vs v us Q I rx rv h;obtain⟨l,b,xs,zs,rfl,rfl,hH,hB,hz,q⟩:=h;cases rx;obtain⟨u,rfl,ru⟩:=rv.one;cases ru;obtain⟨z,its,n,r,hl,e⟩:=I.lstM hH;obtain⟨z2,its2,n2,r2,hl2,e2⟩:=I.lstM hB;have hsz:its.toArray.size+its2.toArray.size<=sizeLine:=by rw[Z5,Z5]; omega
 have hlong:¬ (!its.toArray.isEmpty&&Builtin.List.listTooLong (its.toArray.size+its2.toArray.size))=true:=by
  rw[xqx hsz,YK];exact Z1
 refine Wp F.slot_list_extend ⟨_,e,rfl⟩ F.entry_list_extend (F.args_list_extend_2 _ _)
  (AutoSeq1.list_extend_list_list_0 l its.toArray n b its2.toArray n2 hlong (by rw[Z5]; omega) (by omega)) ⟨e,e2,?_⟩
 refine⟨.non,_,I.lset (its':=its++its2) hH e (by simp) (r.append r2) ?_,rfl,q⟩;rw[Zp];omega
def xuc:V->List V->Hp->VK->Prop:=fun x vs H Q=>∃ l xs i k y,x=.ref l/\vs=[.int i]/\H l=some (.lst xs)/\-(2 ^ 63)<=i/\i<2 ^ 63/\seqIndex? i xs.length=some k/\xs[k]?=some y/\Q y (upd H l (.lst (xs.eraseIdx k)))
theorem xfp:MtM X "list.pop" xuc:=by
 intro pins s Z H x vs v us Q I rx rv h;obtain⟨l,xs,i,k,y,rfl,rfl,hH,h1,h2,hk,hy,q⟩:=h;cases rx;obtain⟨u,rfl,ru⟩:=rv.one;obtain⟨t,rfl⟩:=ru;obtain⟨z,its,n,r,hl,e⟩:=I.lstM hH;obtain⟨w,hw,rw'⟩:=r.get hy;refine Wp F.slot_list_pop ⟨_,e,rfl⟩ F.entry_list_pop (F.args_list_pop_2 _ _)
  (MeetsSeq.list_pop_at l its.toArray n i t k w (fitsIndex_both h1 h2) (by rw[Z5,<- hl]; exact hk) (by rw[<- Jy]; exact hw) (by rw[Z5]; omega)) ⟨e,?_⟩
 refine⟨y,_,I.lset (its':=its.eraseIdx k) hH e ?_ (r.eraseIdx k) ?_,rw',q⟩
 .show its.toArray.eraseIdxIfInBounds k=(its.eraseIdx k).toArray;rw[List.eraseIdxIfInBounds_toArray]
 .have:=xj1 xs k;omega
inductive rCat (x:V) (y:V) (H:Hp) (Q:VK):Prop
 | mk (l b xs zs) (e_:x=.ref l) (r_:y=.ref b/\H l=some (.lst xs)/\H b=some (.lst zs)/\xs.length+zs.length<=sizeLine/\∀ p,H p=none->Q (.ref p) (upd H p (.lst (xs++zs))))
theorem xf8:OpR X (binaryOp .Add) rCat:=by
 intro pins s Z H x y v u Q I rx ry h;obtain⟨l,b,xs,zs,rfl,rfl,hH,hB,hz,q⟩:=h;cases rx;cases ry;obtain⟨z,its,n,r,hl,e⟩:=I.lstM hH;obtain⟨z2,its2,n2,r2,hl2,e2⟩:=I.lstM hB;refine PySem.P.add_list e e2 ?_ (by rw[Z5,Z5]; omega);have ea:its.toArray++its2.toArray=(its++its2).toArray:=by simp
 rw[ea];exact⟨.ref _,_,I.lnew (t':=s.toks) (r.append r2) (by rw[Zp]; omega),rfl,q _ I.fresh⟩
end
section
variable {κ:Type} [DecidableEq κ]
def valV (kvs:List (κ × V)) (k:κ):Option V:=(kvs.find? fun kv=>decide (kv.1=k)).map (·.2)
def putK (kvs:List (κ × V)) (k:κ) (v:V):List (κ × V) :=
 if (kvs.any fun kv=>decide (kv.1=k))=true then kvs.map (fun kv=>if kv.1=k then (kv.1,v) else kv) else kvs++[(k,v)]
theorem xaq {p:κ × V}{r:List (κ × V)}{k:κ} (e:p.1=k):valV (p::r) k=some p.2:=by simp[valV,Yl,e]
theorem xao {p:κ × V}{r:List (κ × V)}{k:κ} (e:¬ p.1=k):valV (p::r) k=valV r k:=by simp[valV,Yl,e]
theorem xdw (k:κ):∀ kvs:List (κ × V),(kvs.any fun kv=>decide (kv.1=k))=(valV kvs k).isSome
 | []=>rfl
 | p::r=>by
  rw[JP];by_cases e:p.1=k
  .simp only [xaq e,decide_eq_true e,Q9,Option.isSome_some]
  .rw [xao e,decide_eq_false e,Yo]; exact xdw k r
theorem xkp (k j:κ) (y:V):∀ kvs:List (κ × V),valV (kvs.map fun kv=>if kv.1=k then (kv.1,y) else kv) j=(valV kvs j).map fun x=>if j=k then y else x
 | []=>rfl
 | p::r=>by
  have ih:=xkp k j y r;rw[Zu];by_cases h:p.1=k
  .rw [if_pos h];by_cases e:p.1=j
   .rw [xaq (p:=(p.1,y)) e,xaq e,Y8,if_pos (e.symm.trans h)]
   .rw [xao (p:=(p.1,y)) e,xao e,ih]
  .rw [if_neg h];by_cases e:p.1=j
   .rw [xaq (p:=p) e,xaq e,Y8,if_neg (fun z=>h (e.trans z))]
   .rw [xao (p:=p) e,xao e,ih]
theorem xjo (k j:κ) (y:V):∀ kvs:List (κ × V),valV kvs k=none->valV (kvs++[(k,y)]) j=if j=k then some y else valV kvs j
 | [],_=>by
  by_cases e:k=j
  .rw [if_pos e.symm]; exact xaq (p:=(k,y)) e
  .rw [if_neg (fun z=>e z.symm)]; exact xao (p:=(k,y)) e
 | p::r,hn=>by
  rw[List.cons_append];have hk:¬ p.1=k:=fun z=>by rw[xaq z] at hn; cases hn
  rw[xao hk] at hn;have ih:=xjo k j y r hn;by_cases e:p.1=j
  .rw [xaq e,xaq e,if_neg (fun z=>hk (e.trans z))]
  .rw [xao e,xao e,ih]
theorem xk4 (kvs:List (κ × V)) (k j:κ) (y:V):valV (putK kvs k y) j=if j=k then some y else valV kvs j:=by
 unfold putK;by_cases a:(kvs.any fun kv=>decide (kv.1=k))=true
 .rw [if_pos a,xkp];rw[xdw] at a;by_cases e:j=k
  .obtain ⟨x,hx⟩:=Option.isSome_iff_exists.mp a;rw[if_pos e,e,hx,Y8,if_pos rfl]
  .rw [if_neg e];cases valV kvs j with
   | none=>rfl
   | some x=>rw[Y8,if_neg e]
 .rw [if_neg a];refine xjo k j y kvs ?_;rw[xdw] at a;cases q:valV kvs k with
  | none=>rfl
  | some x=>rw[q] at a; exact (a rfl).elim
theorem xcc (kvs:List (κ × V)) (k:κ) (v:V):(putK kvs k v).length<=kvs.length+1:=by
 unfold putK;split
 .rw [Za]; omega
 .rw [Zp,ZI,Qc]; omega
theorem xcr {kvs:List (κ × V)}{k:κ} (v:V) (h:valV kvs k=none):putK kvs k v=kvs++[(k,v)]:=by
 unfold putK;rw[xdw,h];exact if_neg (by decide)
theorem RelO.isSome_eq {o:Option V}{u:Option Value} (r:RelO o u):o.isSome=u.isSome:=by
 cases o with
 | none=>cases u with
  | none=>rfl
  | some _=>exact (show False from r).elim
 | some _=>cases u with
  | none=>exact (show False from r).elim
  | some _=>rfl
theorem RelO.getD {o:Option V}{u:Option Value}{d:V}{d':Value} (r:RelO o u) (rd:RelV d d'):RelV (o.getD d) (u.getD d'):=by
 cases o with
 | none=>cases u with
  | none=>exact rd
  | some _=>exact (show False from r).elim
 | some _=>cases u with
  | none=>exact (show False from r).elim
  | some _=>exact r
theorem KV.val {kvs:List (κ × V)}{vs:List (κ × Value)} (r:KV kvs vs) (k:κ):RelO (valV kvs k) (valueAt vs k):=by
 unfold KV at r
 induction r with
 | nil=>exact Jr
 | @cons p q ps qs h t ih =>
  obtain⟨h1,h2⟩:=h;by_cases e:p.1=k
  .have e':q.1=k:=h1.symm.trans e;have b:valueAt (q::qs) k=some q.2:=by simp[valueAt,Yl,e']
   rw[xaq e,b]; exact h2
  .have e':¬ q.1=k:=fun z=>e (h1.trans z);have b:valueAt (q::qs) k=valueAt qs k:=by simp[valueAt,Yl,e']
   rw[xao e,b]; exact ih
theorem KV.any {kvs:List (κ × V)}{vs:List (κ × Value)} (r:KV kvs vs) (k:κ):(kvs.any fun kv=>decide (kv.1=k))=vs.any fun kv=>decide (kv.1=k):=by
 unfold KV at r
 induction r with
 | nil=>rfl
 | cons h t ih=>rw[JP,JP,ih,h.1]
theorem KV.repl {kvs:List (κ × V)}{vs:List (κ × Value)} (r:KV kvs vs) (k:κ) {y:V}{u:Value} (ry:RelV y u) :
    KV (kvs.map fun kv=>if kv.1=k then (kv.1,y) else kv) (vs.map fun kv=>if kv.1=k then (kv.1,u) else kv):=by
  unfold KV at r ⊢
  induction r with
  | nil=>exact .nil
  | @cons p q ps qs h t ih =>
    rw[Zu,Zu];refine .cons ?_ ih;obtain⟨h1,h2⟩:=h;by_cases e:p.1=k
    . rw[if_pos e,if_pos (h1.symm.trans e)]; exact⟨h1,ry⟩
    . rw[if_neg e,if_neg (fun z=>e (h1.trans z))]; exact⟨h1,h2⟩
theorem KV.put {kvs:List (κ × V)}{vs:List (κ × Value)} (r:KV kvs vs) (k:κ) {y:V}{u:Value} (ry:RelV y u):KV (putK kvs k y) (stored vs k u):=by
 unfold putK stored;rw[r.any k];by_cases e:(vs.any fun kv=>decide (kv.1=k))=true
 .rw [if_pos e,if_pos e]; exact r.repl k ry
 .rw [if_neg e,if_neg e]; exact Paired.snoc r ⟨rfl,ry⟩
theorem KV.keys {kvs:List (κ × V)}{vs:List (κ × Value)} (r:KV kvs vs):kvs.map (·.1)=vs.map (·.1):=by
 unfold KV at r
 induction r with
 | nil=>rfl
 | cons h t ih=>rw[Zu,Zu,ih,h.1]
theorem KV.length {kvs:List (κ × V)}{vs:List (κ × Value)} (r:KV kvs vs):kvs.length=vs.length:=Yn r
end
theorem xdm {P:Program}{w:World}{k:Key}{u:Value} (r:RelV (kV k) u):(xak P w).is k u=true:=by
 cases k with
 | inl i=>obtain⟨t,e⟩:=(show ∃ t,u=Wf i t from r); subst e; exact xls P w i t
 | inr x=>obtain⟨t,e⟩:=(show ∃ t,u=Qy x t from r); subst e; exact xlw P w x t
theorem xjn {P:Program}{w:World}:∀{ks:List Key}{us:List Value},Vals (ks.map kV) us->ItemsAre (xak P w) ks us
 | [],_,r=>by rw[List.map_nil] at r; cases r; exact .nil
 | k::ks,_,r=>by
  rw[Zu] at r;cases r with
  | cons h t=>exact .cons (xdm h) (xjn t)
abbrev KT (H:Hp):List (List Key × V)->List (List Key × Addr × Value)->Prop:=Paired fun p q=>p.1=q.1/\H q.2.1=some (.tup (p.1.map kV))/\RelV p.2 q.2.2
theorem KT.val {H:Hp}{kvs:List (List Key × V)}{xs:List (List Key × Addr × Value)} (r:KT H kvs xs) (k:List Key):RelO (valV kvs k) ((atKey xs k).map (·.2)):=by
 induction r with
 | nil=>exact Jr
 | @cons p q ps qs h t ih =>
  obtain⟨h1,_,h2⟩:=h;by_cases e:p.1=k
  .have e':q.1=k:=h1.symm.trans e;have b:atKey (q::qs) k=some q.2:=by simp[atKey,Yl,e']
   rw[xaq e,b]; exact h2
  .have e':¬ q.1=k:=fun z=>e (h1.trans z);have b:atKey (q::qs) k=atKey qs k:=by simp[atKey,Yl,e']
   rw[xao e,b]; exact ih
theorem KT.repl {H:Hp}{kvs:List (List Key × V)}{xs:List (List Key × Addr × Value)} (r:KT H kvs xs) (k:List Key) {y:V}{u:Value} (ry:RelV y u) :
    KT H (kvs.map fun kv=>if kv.1=k then (kv.1,y) else kv) (xs.map (putAt k u)):=by
  induction r with
  | nil=>exact .nil
  | @cons p q ps qs h t ih =>
    rw[Zu,Zu];refine .cons ?_ ih;obtain⟨h1,h2,h3⟩:=h;unfold putAt;by_cases e:p.1=k
    . rw[if_pos e,if_pos (h1.symm.trans e)]; exact⟨h1,h2,ry⟩
    . rw[if_neg e,if_neg (fun z=>e (h1.trans z))]; exact⟨h1,h2,h3⟩
theorem KT.put {H:Hp}{kvs:List (List Key × V)}{xs:List (List Key × Addr × Value)} (r:KT H kvs xs) (k:List Key) {b:Addr}{y:V}{u:Value} (hb:H b=some (.tup (k.map kV))) (ry:RelV y u) :
    KT H (putK kvs k y) (storedH xs k b u):=by
  have e:(kvs.any fun kv=>decide (kv.1=k))=(atKey xs k).isSome:=by
    rw[xdw,(r.val k).isSome_eq,JL]
  unfold putK storedH;rw[e];by_cases q:(atKey xs k).isSome=true
  . rw[if_pos q,if_pos q]; exact r.repl k ry
  . rw[if_neg q,if_neg q]; exact Paired.snoc r ⟨rfl,hb,ry⟩
theorem KT.keeps {H H':Hp}{kvs:List (List Key × V)}{xs:List (List Key × Addr × Value)} (r:KT H kvs xs) (ht:∀ b ys,H b=some (.tup ys)->H' b=some (.tup ys)):KT H' kvs xs :=
 Paired.mapP r fun _ _ z=>⟨z.1,ht _ _ z.2.1,z.2.2⟩
section
variable {P:Program}{w:World}{H:Hp}{h:Heap}{a:Addr}
theorem xrj {u:HO} (ok:HOk P w H h) (e:Rd H a u):xan P w H h a u:=e.ok ok
theorem xek {kvs:List (Key × V)} (ok:HOk P w H h) (e:Rd H a (.dK kvs)):kvs.length<=sizeLine/\(a == sysModules)=false/\∃ vs,KV kvs vs/\h.DictOf (xak P w) a vs :=
 show xan P w H h a (.dK kvs) from xrj ok e
theorem xgh {kvs:List (Key × V)} (ok:HOk P w H h) (e:H a=some (.dK kvs)):kvs.length<=sizeLine/\(a == sysModules)=false/\∃ vs,KV kvs vs/\h.DictOf (xak P w) a vs:=xek ok (.inl e)
theorem xef {ks:List Key} (ok:HOk P w H h) (e:H a=some (.tup (ks.map kV))):(tupleKind (xak P w)).is h ks a:=by
 obtain⟨_,its,r,o,h1,h2,n,h3⟩:=(show xan P w H h a (.tup (ks.map kV)) from ok a _ e)
 exact⟨o,its.toArray,n,h1,h2,h3,by simpa using xjn r⟩
theorem xfd {kvs:List (List Key × V)} (ok:HOk P w H h) (e:Rd H a (.dT kvs)):kvs.length<=sizeLine/\(a == sysModules)=false /\
    ∃ xs,KT H kvs xs/\h.DictOfH (tupleKind (xak P w)) a xs:=by
  obtain⟨z,y,xs,r,o,es,ep,h1,h2,h3,h4,h5⟩:=(show xan P w H h a (.dT kvs) from xrj ok e)
  refine⟨z,y,xs,r,o,es,ep,h1,h2,h3,h4,fun x hx=>?_,h5⟩;have all:∀{l:List (List Key × V)}{m:List (List Key × Addr × Value)},KT H l m->∀ x∈m,(tupleKind (xak P w)).is h x.1 x.2.1:=by
    intro l m q
    induction q with
    | nil=>intro x hx; exact nomatch hx
    | @cons p q ps qs hq t ih =>
      intro x hx;rcases Zy.mp hx with e|hx
      . subst e
        exact xef ok (by rw[<- hq.1]; exact hq.2.1)
      . exact ih x hx
  exact all r x hx
theorem xh4 {kvs:List (List Key × V)} (ok:HOk P w H h) (e:H a=some (.dT kvs)):kvs.length<=sizeLine/\(a == sysModules)=false /\
    ∃ xs,KT H kvs xs/\h.DictOfH (tupleKind (xak P w)) a xs:=xfd ok (.inl e)
end
def DGet (H:Hp) (a:Addr) (y:V) (r:Option V):Prop :=
 (∃ kvs k,Rd H a (.dK kvs)/\y=kV k/\r=valV kvs k)\/∃ kvs k b,Rd H a (.dT kvs)/\y=.ref b/\H b=some (.tup (k.map kV))/\r=valV kvs k
def DPut (H:Hp) (a:Addr) (y v:V) (H':Hp):Prop :=
 (∃ kvs k,H a=some (.dK kvs)/\y=kV k/\kvs.length<sizeLine/\H'=upd H a (.dK (putK kvs k v))) \/
 ∃ kvs k b,H a=some (.dT kvs)/\y=.ref b/\H b=some (.tup (k.map kV))/\kvs.length<sizeLine/\H'=upd H a (.dT (putK kvs k v))
theorem DGet.k {H:Hp}{a:Addr}{kvs:List (Key × V)}{k:Key} (e:H a=some (.dK kvs)):DGet H a (kV k) (valV kvs k):=.inl ⟨kvs,k,.inl e,rfl,rfl⟩
theorem DGet.t {H:Hp}{a b:Addr}{kvs:List (List Key × V)}{k:List Key} (e:H a=some (.dT kvs)) (eb:H b=some (.tup (k.map kV))):DGet H a (.ref b) (valV kvs k):=.inr ⟨kvs,k,b,.inl e,rfl,eb,rfl⟩
theorem DPut.k {H:Hp}{a:Addr}{kvs:List (Key × V)}{k:Key}{v:V} (e:H a=some (.dK kvs)) (hl:kvs.length<sizeLine):DPut H a (kV k) v (upd H a (.dK (putK kvs k v))):=.inl ⟨kvs,k,e,rfl,hl,rfl⟩
theorem DPut.t {H:Hp}{a b:Addr}{kvs:List (List Key × V)}{k:List Key}{v:V} (e:H a=some (.dT kvs)) (eb:H b=some (.tup (k.map kV))) (hl:kvs.length<sizeLine) :
    DPut H a (.ref b) v (upd H a (.dT (putK kvs k v))):=.inr ⟨kvs,k,b,e,rfl,eb,hl,rfl⟩
section
variable {X:Cx}{pins:List (Addr × Obj)}{Z:St}{H:Hp}{s:Shared}{a:Addr}{y v:V}{u r:Value}{o:Option V}{A:Around}{E:Value->Shared->Prop}
theorem Inv.big (I:Inv X pins Z H s):sysModules<s.heap.objs.size:=by
 have h:mainGlobals<s.heap.objs.size:=(I.mod.glob.keeps I.bk).lt;exact Jm (by decide) h
theorem xov {Q:Value->Shared->Prop} (hu:A.units+1<cLine) (I:Inv X pins Z H s) (g:DGet H a y (some v)) (ry:RelV y u) (h:∀ w' s',Inv X pins Z H s'->RelV v w'->Q w' s') :
    wpAny (model X.prog X.w) A (getItem (.ref a) u) Q E s:=by
  rcases g with⟨kvs,k,e,ey,l⟩|⟨kvs,k,b,e,ey,eb,l⟩
  . subst ey
    obtain⟨z,hd,vs,rel,dd⟩:=xek I.hok e;obtain⟨w',hw,rw'⟩:=RelO.some_of (v:=v) (o:=valueAt vs k) (by rw[l]; exact rel.val k);exact wpAny_getItem_of (xdm ry) dd.mapOf hw (h w' _ (I.tok _) rw')
  . subst ey
    cases (show u=Zo b from ry);obtain⟨z,hd,xs,rel,dd⟩:=xfd I.hok e;obtain⟨w',hw,rw'⟩:=RelO.some_of (v:=v) (o:=(atKey xs k).map (·.2)) (by rw[l]; exact rel.val k);obtain⟨p,hp,hp2⟩:=Zj.mp hw;refine wpAny_getItem_heap (Y9 hu) (xef I.hok eb) dd hp ?_;rw[hp2];exact h w' _ (I.tok _) rw'
theorem d_in {Q:Value->Shared->Prop} (hu:A.units+1<cLine) (I:Inv X pins Z H s) (g:DGet H a y o) (ry:RelV y u) (h:∀ s',Inv X pins Z H s'->Q (.bool o.isSome) s') :
    wpAny (model X.prog X.w) A (compareOp .In u (.ref a)) Q E s:=by
  rcases g with⟨kvs,k,e,ey,l⟩|⟨kvs,k,b,e,ey,eb,l⟩
  . subst ey
    obtain⟨z,hd,vs,rel,dd⟩:=xek I.hok e;refine wpAny_in_of (xdm ry) hd dd.mapOf ?_;rw[<- (rel.val k).isSome_eq,<- l];exact h _ (I.tok _)
  . subst ey
    cases (show u=Zo b from ry);obtain⟨z,hd,xs,rel,dd⟩:=xfd I.hok e;refine wpAny_in_heap (Y9 hu) (xef I.hok eb) hd dd ?_;have q:=(rel.val k).isSome_eq;rw[JL] at q;rw[<- q,<- l];exact h _ (I.tok _)
theorem xsa {Q:Value->Shared->Prop} (hu:A.units+1<cLine) (I:Inv X pins Z H s) (g:DGet H a y o) (ry:RelV y u) (h:∀ s',Inv X pins Z H s'->Q (.bool (!o.isSome)) s') :
    wpAny (model X.prog X.w) A (compareOp .NotIn u (.ref a)) Q E s:=by
  rcases g with⟨kvs,k,e,ey,l⟩|⟨kvs,k,b,e,ey,eb,l⟩
  . subst ey
    obtain⟨z,hd,vs,rel,dd⟩:=xek I.hok e;refine wpAny_notIn_of (xdm ry) hd dd.mapOf ?_;rw[<- (rel.val k).isSome_eq,<- l];exact h _ (I.tok _)
  . subst ey
    cases (show u=Zo b from ry);obtain⟨z,hd,xs,rel,dd⟩:=xfd I.hok e;refine wpAny_notIn_heap (Y9 hu) (xef I.hok eb) hd dd ?_;have q:=(rel.val k).isSome_eq;rw[JL] at q;rw[<- q,<- l];exact h _ (I.tok _)
theorem xea {h':Heap}{t':Nat}{ob:HO} (I:Inv X pins Z H s) (mu:Mut (H a)) (hs:ZK a s.heap h') (he:∃ q,h'.get? a=some q) (new:xan X.prog X.w (upd H a ob) h' a ob) :
    Inv X pins Z (upd H a ob) { s with heap:=h',toks:=t' } :=
  I.write (x:=a) (e:=a) mu (.inl rfl) (fun b q hb z=>(hs.2 b hb).trans z) he new
theorem xla {P:Program}{w:World}{H':Hp}{h':Heap}{kvs:List (Key × V)}{vs:List (Key × Value)} (z:kvs.length<=sizeLine) (hd:(a == sysModules)=false) (rel:KV kvs vs) (dd:h'.DictOf (xak P w) a vs) :
    xan P w H' h' a (.dK kvs):=⟨z,hd,vs,rel,dd⟩
theorem xoe {H':Hp}{Q:Unit->Shared->Prop} (hu:A.units+1<cLine) (I:Inv X pins Z H s) (g:DPut H a y v H') (ry:RelV y u) (rv:RelV v r) (h:∀ s',Inv X pins Z H' s'->Q () s') :
    wpAny (model X.prog X.w) A (setItem (.ref a) u r) Q E s:=by
  rcases g with⟨kvs,k,e,ey,l,eH⟩|⟨kvs,k,b,e,ey,eb,l,eH⟩
  . subst ey eH
    obtain⟨z,hd,vs,rel,dd⟩:=xgh I.hok e;have hz:vs.length<=sizeLine:=by rw[<- rel.length]; exact z
    have hl:(putK kvs k v).length<=sizeLine:=by have:=xcc kvs k v; omega
    refine wpAny_setItem_pairs (hsz:=hz) (xdm ry) dd fun h' dd' hs=>h _ ?_;have he:∃ q,h'.get? a=some q:=let ⟨q,_,_,hq,_⟩:=dd'; ⟨q,hq⟩;exact xea I (by rw[e]; exact Jr) hs he (xla hl hd (rel.put k rv) dd')
  . subst ey eH
    cases (show u=Zo b from ry);obtain⟨z,hd,xs,rel,dd⟩:=xh4 I.hok e;have hz:xs.length<=sizeLine:=by rw[<- Yn rel]; exact z
    have hl:(putK kvs k v).length<=sizeLine:=by have:=xcc kvs k v; omega
    refine wpAny_setItem_heap (hsz:=hz) (Y9 hu) (xef I.hok eb) dd fun h' dd' hs=>h _ ?_;obtain⟨q,es,ep,hq,h2,h3,h4,_,h5⟩:=dd';refine xea I (by rw[e]; exact Jr) hs ⟨q,hq⟩ ⟨hl,hd,_,(rel.put k eb rv).keeps fun c ys ec=>?_,q,es,ep,hq,h2,h3,h4,h5⟩;rw[xg (xgj ec e (fun z=>nomatch z))];exact ec
end
section
variable {X:Cx}{pins:List (Addr × Obj)}{Z:St}{H:Hp}{s:Shared}{a:Addr}{kvs:List (Key × V)}{k:Key}{u:Value}{A:Around}{E:Value->Shared->Prop}
theorem xvw {Q:Value->Shared->Prop} (I:Inv X pins Z H s) (e:Rd H a (.dK kvs)) (h:∀ t s',Inv X pins Z H s'->Q (.int kvs.length t) s'):wpAny (model X.prog X.w) A (call (.builtin "len") [.ref a]) Q E s:=by
 obtain⟨z,hd,vs,rel,dd⟩:=xek I.hok e;refine call_len_dict hd dd (by rw[<- rel.length]; rw[YY] at z; omega) ?_;rw[<- rel.length];exact h _ _ (I.tok _)
end
def NoSl (i:Expr):Prop:=∀ ov iv,subscripted i false ov iv=operate [ov,iv] (getItem ov iv)
theorem xsp {prog:Program}{w:World}{A:Around}{E:Value->Shared->Prop}{s:Shared}{env:Env}{value slice:Expr}{pos:Pos}{T id:String}{Q:Value->Shared->Prop}
    (hl:typeLookup (.type T) "__getitem__"=pure (some (.builtin id))) (hs:NoSl slice)
    (h:wpAny (model prog w) A (eval value env) (fun o s₁=>wpAny (model prog w) A (eval slice env) (fun i s₂=>s₂.TypeIs o T/\wpAny (model prog w) A (getItem o i) Q E s₂) E s₁) E s) :
    wpAny (model prog w) A (eval (.Subscript value slice pos) env) Q E s:=by
  refine Subscript_ (ZQ h (fun o s₁ h₁=>ZQ h₁ (fun i s₂ h₂=>?_) fun _ _ x=>x) fun _ _ x=>x);obtain⟨hT,h₂⟩:=h₂;unfold subscriptTail;refine Zc ?_;rw[getitemInPython_of_ne hT.not_modules];refine Zc (Qa hT hl ?_);have fin:wpAny (model prog w) A (subscripted slice false o i) (fun r s₃=>wpAny (model prog w) A (letTemporaryGo value o r>>=fun _=>pure r) Q E s₃) E s₂:=by
    rw[hs o i];exact wpAny_operating (ZQ h₂ (fun r s₃ h₃=>Zc (wpAny_letTemporaryGo (Zm h₃))) fun _ _ x=>x)
  first
    | exact Zm (Zc fin)
    | exact Zc (Zm (Zc fin))
    | exact Zc fin
theorem xlp {X:Cx}{pins:List (Addr × Obj)}{Z:St}{H:Hp}{s:Shared}{a:Addr}{y:V}{o:Option V} (I:Inv X pins Z H s) (g:DGet H a y o):s.TypeIs (.ref a) "dict":=by
 rcases g with⟨kvs,k,e,_,_⟩|⟨kvs,k,b,e,_,_,_⟩
 .obtain ⟨_,_,vs,_,dd⟩:=xek I.hok e;exact dd.typeIs
 .obtain ⟨_,_,xs,_,dd⟩:=xfd I.hok e;exact dd.typeIs
inductive xsd (x y:V) (H2:Hp) (Q:VK):Prop
 | mk (a v) (e_:x=.ref a) (r_:DGet H2 a y (some v)/\Q v H2)
def xv8 (td ty:TE):TE:=fun Z H Q=>td Z H fun x H1=>ty Z H1 fun y H2=>xsd x y H2 Q
inductive xud (x y:V) (H2:Hp) (Q:VK):Prop
 | mk (a o) (e_:x=.ref a) (r_:DGet H2 a y o/\Q (.bl o.isSome) H2)
def tDIn (ty td:TE):TE:=fun Z H Q=>ty Z H fun y H1=>td Z H1 fun x H2=>xud x y H2 Q
inductive xpk (x y:V) (H2:Hp) (Q:VK):Prop
 | mk (a o) (e_:x=.ref a) (r_:DGet H2 a y o/\Q (.bl (!o.isSome)) H2)
def xsb (ty td:TE):TE:=fun Z H Q=>ty Z H fun y H1=>td Z H1 fun x H2=>xpk x y H2 Q
def xvu (td ty tv:TE):TS:=fun D Z H=>tv Z H fun v H1=>td Z H1 fun x H2=>ty Z H2 fun y H3=>∃ a H4,x=.ref a/\DPut H3 a y v H4/\D.nx Z H4
section
variable {X:Cx}{o i e value:Expr}{pos pos' tpos:Pos}{td ty tv:TE}
theorem xa1 (hu:X.A.units+1<cLine) (ho:PE X o td) (hi:PE X i ty) (hs:NoSl i):PE X (.Subscript o i pos) (xv8 td ty):=by
 intro pins s Z H Q I h;refine xsp PySem.F.slot_dict_getitem.lookup hs (thn (ho pins s Z H _ I h) fun u s1 ⟨x,H1,I1,rx,q1⟩=>thn (hi pins s1 Z H1 _ I1 q1) fun iv s2 ⟨y,H2,I2,ry,a,v,ex,g,q2⟩=>?_);subst ex;obtain rfl:u=Zo a:=rx;exact⟨xlp I2 g,xov hu I2 g ry fun w' s3 I3 rw'=>⟨v,H2,I3,rw',q2⟩⟩
theorem xf3 (hu:X.A.units+1<cLine) (hi:PE X i ty) (ho:PE X o td):PC X .In i o (tDIn ty td):=by
 intro pins s Z H Q I h;refine thn (hi pins s Z H _ I h) fun iv s1 ⟨y,H1,I1,ry,q1⟩=>thn (ho pins s1 Z H1 _ I1 q1) fun u s2 ⟨x,H2,I2,rx,a,ov,ex,g,q2⟩=>?_;subst ex;obtain rfl:u=Zo a:=rx;exact d_in hu I2 g ry fun s3 I3=>⟨.bl ov.isSome,H2,I3,rfl,q2⟩
theorem xde (hu:X.A.units+1<cLine) (hi:PE X i ty) (ho:PE X o td):PC X .NotIn i o (xsb ty td):=by
 intro pins s Z H Q I h;refine thn (hi pins s Z H _ I h) fun iv s1 ⟨y,H1,I1,ry,q1⟩=>thn (ho pins s1 Z H1 _ I1 q1) fun u s2 ⟨x,H2,I2,rx,a,ov,ex,g,q2⟩=>?_;subst ex;obtain rfl:u=Zo a:=rx;exact xsa hu I2 g ry fun s3 I3=>⟨.bl (!ov.isSome),H2,I3,rfl,q2⟩
theorem xbv (hu:X.A.units+1<cLine) (ho:PE X o td) (hi:PE X i ty) (hv:PE X value tv) (hs:swapsWith value (some (.Subscript o i pos')) pos.line X.env=pure false) :
    PS X (.Assign [.Subscript o i pos'] value pos) (xvu td ty tv):=by
  intro pins s Z H D I h;refine wpAny_Assign_Subscript (thn (hv pins s Z H _ I h) fun r s1 ⟨v,H1,I1,rv,q1⟩=>thn (ho pins s1 Z H1 _ I1 q1) fun u s2 ⟨x,H2,I2,rx,q2⟩=>thn (hi pins s2 Z H2 _ I2 q2) fun iv s3 ⟨y,H3,I3,ry,a,H4,ex,g,q3⟩=>?_) hs;subst ex;obtain rfl:u=Zo a:=rx;exact xoe hu I3 g ry rv fun s4 I4=>⟨Z,H4,I4,q3⟩
end
theorem xg5 {P:Program}{w:World}{H:Hp} (h:Heap) (hb:sysModules<h.objs.size):xan P w H (h.push { cls:=.type "dict",data:=.dict #[] }) h.objs.size (.dK []) :=
 ⟨ZZ _,beq_eq_false_iff_ne.mpr (ZE (ZH hb)),[],.nil,Heap.DictOf.new h⟩
theorem xk0 {P:Program}{w:World}{H:Hp} (h:Heap) (hb:sysModules<h.objs.size):xan P w H (h.push { cls:=.type "dict",data:=.dict #[] }) h.objs.size (.dT []) :=
 ⟨ZZ _,beq_eq_false_iff_ne.mpr (ZE (ZH hb)),[],.nil,_,#[],0,Z2 _ rfl,⟨rfl,rfl,rfl⟩,rfl,rfl,QZ⟩
def xvg:TE:=fun _ H Q=>∀ p,H p=none->Q (.ref p) (upd H p (.dK []))
def xui:TE:=fun _ H Q=>∀ p,H p=none->Q (.ref p) (upd H p (.dT []))
section
variable {X:Cx}{pos:Pos}
theorem xec:PE X (.Dict [] [] pos) xvg:=fun pins s Z H Q I h =>
 wpAny_Dict_empty ⟨.ref s.heap.objs.size,_,I.laid (a:=s.heap.objs.size) (o:=.dK []) (t':=s.toks) (fun _ _ q=>Zi _ q) (Zl _) (xg5 s.heap I.big),rfl,h _ (I.hok.fresh (Zl _))⟩
theorem xg9:PE X (.Dict [] [] pos) xui:=fun pins s Z H Q I h =>
 wpAny_Dict_empty ⟨.ref s.heap.objs.size,_,I.laid (a:=s.heap.objs.size) (o:=.dT []) (t':=s.toks) (fun _ _ q=>Zi _ q) (Zl _) (xk0 s.heap I.big),rfl,h _ (I.hok.fresh (Zl _))⟩
end
def xks:List (TE × TE)->St->Hp->(List (V × V)->Hp->Prop)->Prop
 | [],_,H,Q=>Q [] H
 | (tk,tv)::r,Z,H,Q=>tk Z H fun x H1=>tv Z H1 fun y H2=>xks r Z H2 fun ps H3=>Q ((x,y)::ps) H3
abbrev VV:List (V × V)->List (Value × Value)->Prop:=Paired fun p q=>RelV p.1 q.1/\RelV p.2 q.2
def PPs (X:Cx) (pos:Pos) (keys:List (Option Expr)) (values:List Expr) (trs:List (TE × TE)):Prop :=
 ∀(pins:List (Addr × Obj)) (s:Shared) (Z:St) (H:Hp) (Q:List (V × V)->Hp->Prop),Inv X pins Z H s->xks trs Z H Q ->
  wpAny (model X.prog X.w) X.A (evalPairs (pairTrees keys values X.env pos)) (fun vs s'=>∃ ps H',Inv X pins Z H' s'/\VV ps vs/\Q ps H') X.xe s
theorem xm2 {X:Cx}{pos:Pos}:PPs X pos [] [] []:=fun pins s Z H Q I h=>pairTrees_nil_walk ⟨[],H,I,.nil,h⟩
theorem xej {X:Cx}{pos:Pos}{k v:Expr}{ks:List (Option Expr)}{vs:List Expr}{tk tv:TE}{trs:List (TE × TE)} (hk:PE X k tk) (hv:PE X v tv) (hr:PPs X pos ks vs trs) :
    PPs X pos (some k::ks) (v::vs) ((tk,tv)::trs):=fun pins s Z H Q I h =>
  pairTrees_cons_walk (thn (hk pins s Z H _ I h) fun u s1 ⟨x,H1,I1,rx,q1⟩=>thn (hv pins s1 Z H1 _ I1 q1) fun w2 s2 ⟨y,H2,I2,ry,q2⟩ =>
    thn (hr pins s2 Z H2 _ I2 q2) fun ws s3 ⟨ps,H3,I3,rel,q3⟩=>⟨(x,y)::ps,H3,I3,.cons ⟨rx,ry⟩ rel,q3⟩)
def xc6 (kvs more:List (Key × V)):List (Key × V):=more.foldl (fun acc kv=>putK acc kv.1 kv.2) kvs
theorem KV.merge:∀{more:List (Key × V)}{rs:List (Key × Value)}{kvs:List (Key × V)}{vs:List (Key × Value)},KV more rs->KV kvs vs->KV (xc6 kvs more) (merged vs rs):=by
 intro more rs kvs vs r;unfold KV at r
 induction r generalizing kvs vs with
 | nil=>intro q; exact q
 | @cons p q ps qs h t ih =>
  intro r0;have e:KV (putK kvs p.1 p.2) (stored vs q.1 q.2):=by
   have:=r0.put p.1 h.2;rw[<- h.1]; exact this
  exact ih e
theorem xfr:∀(more kvs:List (Key × V)),(xc6 kvs more).length<=kvs.length+more.length
 | [],kvs=>by show kvs.length<=kvs.length+0; omega
 | p::r,kvs=>by
  have h1:=xfr r (putK kvs p.1 p.2);have h2:=xcc kvs p.1 p.2;show (xc6 (putK kvs p.1 p.2) r).length<=_;rw[ZI]; omega
theorem xhv {P:Program}{w:World}:∀{kvs:List (Key × V)}{ws:List (Value × Value)},VV (kvs.map fun kv=>(kV kv.1,kv.2)) ws->∃ rs,Carries (xak P w) ws rs/\KV kvs rs
 | [],_,r=>by rw[List.map_nil] at r; cases r; exact⟨[],Jr,.nil⟩
 | p::kvs,_,r=>by
  rw[Zu] at r;cases r with
  | @cons a b as bs h t =>
   obtain⟨rs,c,q⟩:=xhv (P:=P) (w:=w) t;obtain⟨b1,b2⟩:=b;exact⟨(p.1,b2)::rs,⟨xdm h.1,rfl,c⟩,.cons ⟨rfl,h.2⟩ q⟩
def xwv (trs:List (TE × TE)):TE:=fun Z H Q=>∀ p,H p=none->xks trs Z (upd H p (.dK [])) fun ps H2=>H2 p=some (.dK [])/\∃ kvs:List (Key × V),ps=kvs.map (fun kv=>(kV kv.1,kv.2))/\kvs.length<=15/\Q (.ref p) (upd H2 p (.dK (xc6 [] kvs)))
theorem xm8 {X:Cx}{pos:Pos}{keys:List (Option Expr)}{values:List Expr}{trs:List (TE × TE)} (h:PPs X pos keys values trs) (hall:keys.all (·.isSome)=true) (hl:keys.length=values.length) (h0:keys≠[])
    (h15:keys.length<=15):PE X (.Dict keys values pos) (xwv trs):=by
  intro pins s Z H Q I q;have hn:=I.hok.fresh (Zl s.heap.objs.size);have I1:=I.laid (a:=s.heap.objs.size) (o:=.dK []) (h':=s.heap.push { cls:=.type "dict",data:=.dict #[] }) (t':=s.toks) (fun _ _ q=>Zi _ q) (Zl _) (xg5 s.heap I.big);refine wpAny_Dict_walk (knd:=xak X.prog X.w) hall hl h0 h15 (thn (h pins _ Z _ _ I1 (q _ hn)) fun ws s2 ⟨ps,H2,I2,rel,e,kvs,ep,lk,q2⟩=>?_);subst ep;obtain⟨rs,c,rk⟩:=xhv (P:=X.prog) (w:=X.w) rel;obtain⟨z,hd,vs0,r0,dd⟩:=xgh I2.hok e;cases r0;refine⟨rs,c,dd,fun h' dd' hs=>⟨.ref s.heap.objs.size,_,?_,rfl,q2⟩⟩;have hz:(xc6 [] kvs).length<=sizeLine:=by
    have h1:=xfr kvs [];rw[Qc] at h1;rw[YY]; omega
  have he:∃ q,h'.get? s.heap.objs.size=some q:=let ⟨q,_,_,hq,_⟩:=dd'; ⟨q,hq⟩;exact xea I2 (by rw[e]; exact Jr) hs he (xla hz hd (rk.merge .nil) dd')
structure M2 (X:Cx) (o:Expr) (m:Str) (apos:Pos) (e f:Expr) (cpos:Pos):Prop where
 base:attributeBase o m X.env (eval o X.env)=eval o X.env
 few:((backTo cpos (starEach [e,f] X.env)).all (fun x=>!x.1)&&(backToKw cpos (keywordEach [] X.env)).all (fun x=>x.1.isSome)
  && decide (([e,f]:List Expr).length+([]:List Keyword).length+(if ([]:List Keyword).isEmpty then 0 else 1)<30))=true
 line:(apos.endLine == cpos.line)=true
 trees:backTo cpos (starEach [e,f] X.env)=[(false,eval e X.env),(false,eval f X.env)]
def IsD (H:Hp) (a:Addr):Prop:=(∃ kvs,Rd H a (.dK kvs))\/∃ kvs,Rd H a (.dT kvs)
theorem xuv {X:Cx}{pins:List (Addr × Obj)}{Z:St}{H:Hp}{s:Shared}{a:Addr} (I:Inv X pins Z H s) (d:IsD H a) :
    s.TypeIs (.ref a) "dict"/\(∀ b,Zo a=.ref b->∃ ob,s.heap.get? b=some ob/\ob.dict=none)/\(a == sysModules)=false:=by
  rcases d with⟨kvs,e⟩|⟨kvs,e⟩
  . obtain⟨_,hd,vs,_,dd⟩:=xek I.hok e
    refine⟨dd.typeIs,fun b q=>?_,hd⟩;cases q;obtain⟨ob,_,_,h1,h2,_⟩:=dd;exact⟨ob,h1,h2.2.1⟩
  . obtain⟨_,hd,xs,_,dd⟩:=xfd I.hok e
    refine⟨dd.typeIs,fun b q=>?_,hd⟩;cases q;obtain⟨ob,_,_,h1,h2,_⟩:=dd;exact⟨ob,h1,h2.2.1⟩
section
variable {X:Cx}{pins:List (Addr × Obj)}{Z:St}{H:Hp}{s:Shared}{a:Addr}{y d:V}{u r:Value}{o:Option V}{A:Around}{E:Value->Shared->Prop}
theorem xtx {Q:Value->Shared->Prop} (hu:A.units+1<cLine) (I:Inv X pins Z H s) (g:DGet H a y o) (ry:RelV y u) (rd:RelV d r) (h:∀ w' s',Inv X pins Z H s'->RelV (o.getD d) w'->Q w' s') :
    wpAny (model X.prog X.w) A (call (.builtin "dict.get") [.ref a,u,r]) Q E s:=by
  rcases g with⟨kvs,k,e,ey,l⟩|⟨kvs,k,b,e,ey,eb,l⟩
  . subst ey
    obtain⟨z,hd,vs,rel,dd⟩:=xek I.hok e;refine call_meetsIn QO dd.typeIs PySem.F.entry_dict_get (PySem.F.args_dict_get_3 _ _ _) (meets_dict_get_default (xak X.prog X.w) a (xdm ry) hd r) ⟨_,dd.mapOf,h _ _ (I.tok _) ?_⟩;rw[l];exact (rel.val k).getD rd
  . subst ey
    cases (show u=Zo b from ry);obtain⟨z,hd,xs,rel,dd⟩:=xfd I.hok e;refine call_meetsIn QO dd.typeIs PySem.F.entry_dict_get (PySem.F.args_dict_get_3 _ _ _) (meetsH_dict_get_default (tupleKind (xak X.prog X.w)) a b hd r) ⟨Y9 hu,k,xs,xef I.hok eb,dd,h _ _ (I.tok _) ?_⟩;rw[l];exact (rel.val k).getD rd
end
def xty (td ty tx:TE):TE:=fun Z H Q=>td Z H fun x H1=>∃ a,x=.ref a/\IsD H1 a/\ty Z H1 fun y H2=>tx Z H2 fun z H3=>∃ o,DGet H3 a y o/\Q (o.getD z) H3
section
variable {X:Cx}{o e f:Expr}{apos cpos:Pos}{td ty tx:TE}
theorem xko (hu:X.A.units+1<cLine) (ho:PE X o td) (he:PE X e ty) (hf:PE X f tx) (m:M2 X o "get" apos e f cpos):PE X (.Call (.Attribute o "get" apos) [e,f] [] cpos) (xty td ty tx):=by
 intro pins s Z H Q I h;refine wpAny_Call_method m.base m.few m.line Q1 QO PySem.F.type_dict_get (thn (ho pins s Z H _ I h) fun u s1 ⟨x,H1,I1,rx,a,ex,d,q1⟩=>?_);subst ex;obtain rfl:u=Zo a:=rx;obtain⟨t1,t2,_⟩:=xuv I1 d;refine⟨t1,t2,?_⟩;rw[m.trees];refine YM rfl (Calls.evalArgs_plain (Qo (thn (he pins s1 Z H1 _ I1 q1) fun iv s2 ⟨y,H2,I2,ry,q2⟩ =>
  Qo (thn (hf pins s2 Z H2 _ I2 q2) fun fv s3 ⟨z,H3,I3,rz,ov,g,q3⟩=>Calls.spliced_nil ?_))))
 exact xtx hu I3 g ry rz fun w' s4 I4 rw'=>⟨_,H3,I4,rw',q3⟩
end
end L2
namespace Att
open PySem PySem.W PySem.Calls PyProof.Rows
theorem xh7 {P:Params}{h:Heap}:∀(ns:List Int) (vs:List Value),WellAll P h vs (ns.map WData.int)->IntsAre vs ns:=by
 intro ns
 induction ns with
 | nil =>
  intro vs w;rw[List.map_nil] at w;cases w;exact .nil
 | cons n ns ih =>
  intro vs w;rw[Zu] at w;cases w with
  | cons a b =>
   cases a;exact .cons _ _ (ih _ b)
theorem xo0 {l:OpenLaw}{n:Nat} (hn:l.most=some n) {P:Params}{h:Heap}{args:List WData}{vals:List Value}
    (hpre:l.row.toRowW.claim.pre args=true) (hwl:WellAll P h vals args) :
    ∃ a vs ns,vals=[Zo a]/\args=[WData.list (ns.map WData.int)]/\h.get? a=some { cls:=.type "list",data:=.seq vs.toArray }/\IntsAre vs ns/\ns.length<=n:=by
  have hsh:WShape.hasAll [] args [.list .int]=true:=(pre_splitW hpre).1;have hc:l.pre.holds [] { args:=args }=true:=(pre_splitW hpre).2;obtain⟨d,r,rfl,h1,h2⟩:=hasAllW_cons hsh;obtain rfl:=hasAllW_nil h2;obtain⟨xs,rfl,h3⟩:=hasW_list h1;obtain⟨ns,rfl⟩:=items_int h3;have hlen:ns.length<=n:=by
    unfold OpenLaw.pre at hc;have h4:(WTm.not (.lt (.lit (.int (n:Int))) (.len (.arg 0)))).holds [] { args:=[.list (ns.map .int)] }=true:=by
      have h4:=(holds_andW hc).1;rw[hn] at h4;exact h4
    have h5:=condW_of h4 (w_not (w_lt w_lit (w_len_list (w_arg rfl))));rw[Za] at h5;refine Nat.le_of_not_lt fun q=>?_;have q':(n:Int)<((ns.length:Nat):Int):=by omega
    first
      | (rw[decide_eq_true q'] at h5; exact absurd h5 (by decide))
      | (simp at h5; omega)
  cases hwl with
  | cons w1 w2 =>
    cases w2;cases w1 with
    | list ho hall=>exact⟨_,_,ns,rfl,rfl,ho,xh7 ns _ hall,hlen⟩
theorem xpc (l:OpenLaw) (args:List WData):l.row.toRowW.claim.post args (.bool true) args=true :=
 postW_of (r:=l.row.toRowW) (X:=(true == true))
  (show WShape.has [] (.bool true) .bool=true by first|rfl|decide|simp[WShape.has,WShape.arms,WShape.armsAll])
  (show (WTm.eq .res (.lit (.bool true))).value [] { args:=args,res:=some (.bool true),after:=args }=some (.bool (true == true)) from w_eq_bool (w_res rfl) w_lit) rfl
theorem attach_call {l:OpenLaw}{n:Nat}{q:Program}{loose:List Str}{XP:(Str->Option Value)->Heap->Prop}{YP:World->Heap->Prop}{d:DefRec}
    (hn:l.most=some n) (hdf:d.params.defaults=[])
    (call:∀(w:World) (s₀ s₁:Shared) (mg mb:Str->Option Value) (fa:Addr) (o:Obj) (pm cd doc:Value) (a:Addr) (vs:List Value) (ns:List Int),
      Ground q loose [] XP w s₀ mg mb s₁.heap->YP w s₁.heap ->
      s₁.heap.get? fa=some o->o.data=.func (docDef d.name d.params d.body d.scope pm cd doc)->s₁.heap.CodeRec cd d.name->mg d.name=some (.ref fa) ->
      s₁.heap.get? a=some { cls:=.type "list",data:=.seq vs.toArray }->IntsAre vs ns->ns.length<=n->s₁.gens=#[] ->
      codeAny (model l.prog w) callerA (.call (.ref fa) ⟨[.ref a],[]⟩) (fun r s'=>r=.ok (.ret (.bool true))/\OldK s₁.heap s'.heap/\s'.os=s₁.os/\AllBare s'.gens) s₁) :
    WalkO q loose XP YP l.row.toRowW d [] (fun f vs=>PySem.call f vs):=by
  intro w s₀ s₁ mg mb G Y fa o pm cd doc dV kV ho hd hcd hD hmg hg args vals as hpre hlay hrd hwl hlo;obtain rfl:dV=.none:=Dflts.none hD hdf;obtain rfl:kV=.none:=Dflts.noKw hD;obtain⟨a,vs,ns,rfl,rfl,hobj,hints,hlen⟩:=xo0 hn hpre hwl;refine enter_call (Q7 (call w s₀ s₁ mg mb fa o pm cd doc a vs ns G Y ho (fd_plain hd) hcd hmg hobj hints hlen hg) fun r s' hq=>?_);obtain⟨rfl,h2,h3,h4⟩:=hq;exact⟨.inl ⟨.bool true,.bool true,[],rfl,fun _=>rfl,.bool true,xpc l _,fun _=>⟨Y6.nil,fun _ hm=>(nomatch hm)⟩⟩,h2,h3,h4⟩
section
variable {prog:Program}{w:World}{A:Around}{E:Value->Shared->Prop}{s:Shared}{K:Frag}
def xw2 (h:Heap) (L d:Addr):List (Addr × Obj):=(Z0 h.objs.size).filterMap fun a=>if a=L\/a=d then none else (h.get? a).map fun o=>(a,o)
end
end Att
namespace L2
open PySem PySem.Spec PyProof.Rows
variable {q0:Bool}
theorem xjg:∀{vs:List Value}{ns:List Int},IntsAre vs ns->Vals (ns.map V.int) vs
 | _,_,.nil=>.nil
 | _,_,.cons n t h=>.cons ⟨t,rfl⟩ (xjg h)
def Only (H:Hp):Prop:=∀ b,H b=none\/∃ o xs,H b=some (.frz o (.lst xs))
theorem xqz {P:Program}{w:World}{K:Zd}{mg mb:Str->Option Value}{CX:CXT}{k:Nat}{fa a:Addr}{fd:FuncData}{x:Str}{sp:Sp}{s₁:Shared}{vs:List Value}{ns:List Int}
    (KX:K.In s₁.heap) (hns:s₁.heap.Ns mainGlobals mg) (hb:s₁.heap.Ns builtinsNs mb) (hbb:∀ x:Str,x≠"__name__"->mb x=bootBuiltins x) (hlim:s₁.heap.NoLimit) (hg:s₁.gens=#[])
    (ha:s₁.heap.get? a=some { cls:=.type "list",data:=.seq vs.toArray }) (hi:IntsAre vs ns) (hl:ns.length<=sizeLine) (hr:Room q0 k callerA)
    (F:∀ base:Heap,K.In base->base.Ns mainGlobals mg->FnOk q0 P w K mg base CX k fa fd [x] sp) (hbind:∀(s:Shared) (u:Value),BindsTo s fd ⟨[u],[]⟩ [(x,u)])
    (hsp:∀ H:Hp,Only H->SqL K H a (ns.map V.int)->sp [.ref a] H (fun v _=>v=.bl true) fun _ _ _=>False)
    (hCX:∀ H e s',CX [] H s₁ (fun _ _ _=>False) e s'->False) :
    codeAny (model P w) callerA (.call (.ref fa) ⟨[.ref a],[]⟩) (fun r s'=>r=.ok (.ret (.bool true))/\OldK s₁.heap s'.heap/\s'.os=s₁.os/\AllBare s'.gens) s₁:=by
  have rv:=xjg hi;have lenV:=hi.length
  -- from an abstract heap in which nothing but the script may be tracked
  have core:∀ H:Hp,Only H->SqL K H a (ns.map V.int)->HOk P w H s₁.heap->(∀ b,H b≠none->b=a)->(H a≠none->K.lookup a=none) ->
      codeAny (model P w) callerA (.call (.ref fa) ⟨[.ref a],[]⟩) (fun r s'=>r=.ok (.ret (.bool true))/\OldK s₁.heap s'.heap/\s'.os=s₁.os/\AllBare s'.gens) s₁:=by
    intro H hO hS hok hA hK;have base_of:∀{b:Addr}{o:Obj},s₁.heap.get? b=some o->H b=none->(hidT s₁.heap H).get? b=some o:=fun e n=>xq9 e n;have noA:∀{b:Addr}{o:Obj}{es:Array DictEntry}{ep:Nat},s₁.heap.get? b=some o->o.data=.dict es ep->H b=none:=fun {b o es ep} e d=>by
      cases q:H b with
      | none=>rfl
      | some u =>
        have e':b=a:=hA b (by rw[q]; simp);subst e';rw[ha] at e; cases e;have d':Data.seq vs.toArray _=Data.dict es ep:=d;cases d'
    have nsK:∀{b:Addr}{m:Str->Option Value},s₁.heap.Ns b m->(hidT s₁.heap H).Ns b m:=fun {b m} ⟨o,es,ep,e,d,r⟩=>⟨o,es,ep,base_of e (noA e d),d,r⟩
    have hKb:K.In (hidT s₁.heap H):=fun b o e=>base_of (KX b o e) (by
      cases q:H b with
      | none=>rfl
      | some u =>
        have e':b=a:=hA b (by rw[q]; simp);subst e';rw[hK (by rw[q]; simp)] at e; cases e)
    have hM:Mod K mg (hidT s₁.heap H):=⟨hKb,nsK hns,⟨mb,nsK hb,hbb⟩,let ⟨mc,h1,h2⟩:=hlim; ⟨mc,nsK h1,h2⟩⟩
    have e0:Env0 P w K mg (hidT s₁.heap H) callerA [] s₁ H:=⟨rfl,hM,fun b o e=>xr2 e,Nat.le_of_eq (xox _ _),trivial,fun b hb=>absurd (show b∈([]:List Addr) from hb) (by simp),hok,.of_eq hg⟩
    refine Q7 ((F _ hKb (nsK hns)).run callerA [] s₁ H ⟨[.ref a],[]⟩ [.ref a] [.ref a] _ _ hr e0 (hbind s₁ (.ref a)) (.cons rfl .nil) (hsp H hO hS)) fun r s' h=>?_;cases r with
    | error e=>exact (hCX H e s' h).elim
    | ok fl =>
      cases fl with
      | next=>exact J6 h
      | brk=>exact J6 h
      | cont=>exact J6 h
      | ret u =>
        obtain⟨v,H',os,bare,un,hok',r',q⟩:=h;have q':v=.bl true:=q;subst q';obtain rfl:u=Yf true:=r';refine⟨rfl,OldK.of_keep fun b o e=>?_,os,bare⟩;cases q:H b with
        | none=>exact un.keep b o e q (by intro z; exact absurd (show b∈([]:List Addr) from z) (by simp)) (by simp)
        | some u =>
          rcases hO b with z|⟨ob,xs,z⟩
          . rw[q] at z; cases z
          . have z2:=un.frzs b ob _ z
            obtain⟨e1,_⟩:=hok b _ z;obtain⟨e2,_⟩:=hok' b _ z2;rw[e] at e1; cases e1;exact e2
  cases hk:K.lookup a with
  | some o =>
    -- the script is one of the module's own objects
    have e:=KX a o hk;rw[ha] at e;cases e;refine core (fun _=>none) (fun _=>.inl rfl) (.inr ⟨_,vs.toArray,_,hk,rfl,rfl,rfl,by rw[Z5,lenV]; exact hl,by simpa using rv⟩) (fun b u z=>by have z':(none:Option HO)=some u:=z; cases z') (fun b z=>absurd rfl z) fun z=>absurd rfl z
  | none =>
    refine core (fun b=>if b=a then some (.frz { cls:=.type "list",data:=.seq vs.toArray } (.lst (ns.map V.int))) else none) (fun b=>?_) (.inl (.inr ⟨{ cls:=.type "list",data:=.seq vs.toArray },if_pos rfl⟩)) (fun b u z=>?_) (fun b z=>?_) fun _=>hk
    . by_cases hb:b=a
      . exact .inr ⟨_,_,if_pos hb⟩
      . exact .inl (if_neg hb)
    . by_cases hb:b=a
      . have z':=(if_pos hb).symm.trans z
        cases z';subst hb;exact⟨ha,by rw[Za]; exact hl,vs,_,rv,ha⟩
      . have z':=(if_neg hb).symm.trans z
        cases z'
    . by_cases hb:b=a
      . exact hb
      . exact absurd (if_neg hb) z
abbrev KOf {K:Zd}{h:Heap} (_:K.In h):Zd:=K
theorem walk_of {l:PySem.W.OpenLaw}{n k:Nat}{q:Program}{loose:List Str}{XP:(Str->Option Value)->Heap->Prop}{YP:World->Heap->Prop}{d:DefRec}{K:Params->Zd}{CX:World->CXT}{sp:World->Sp}{x:Str}
    (hn:l.most=some n) (hn2:n<=sizeLine) (hdf:d.params.defaults=[]) (hr:Room q0 k callerA)
    (hY:∀(w:World) (h:Heap),YP w h->(K w.params).In h)
    (F:∀(w:World) (mg:Str->Option Value) (fa:Addr) (h:Heap),(K w.params).In h->h.Ns mainGlobals mg->mg d.name=some (.ref fa) ->
      ∃ fd:FuncData,(∀(s:Shared) (u:Value),BindsTo s fd ⟨[u],[]⟩ [(x,u)]) /\
        ∀ base:Heap,(K w.params).In base->base.Ns mainGlobals mg->FnOk q0 l.prog w (K w.params) mg base (CX w) k fa fd [x] (sp w))
    (hsp:∀(w:World) (H:Hp) (a:Addr) (ns:List Int),ns.length<=n->Only H->SqL (K w.params) H a (ns.map V.int)->sp w [.ref a] H (fun v _=>v=.bl true) fun _ _ _=>False)
    (hCX:∀(w:World) (H:Hp) (s:Shared) (e:Value) (s':Shared),CX w [] H s (fun _ _ _=>False) e s'->False) :
    PySem.W.WalkO q loose XP YP l.row.toRowW d [] (fun f vs=>PySem.call f vs):=by
  refine Att.attach_call hn hdf fun w s₀ s₁ mg mb fa o pm cd doc a vs ns G Y ho hd hcd hmg hobj hints hlen hg=>?_;have KX:=hY w _ Y;obtain⟨fd,hb,hF⟩:=F w mg fa _ KX G.T.g hmg;exact xqz KX G.T.g G.T.b G.T.builtins G.T.nolimit hg hobj hints (Z8 hlen hn2) hr hF hb (fun H hO hS=>hsp w H a ns hlen hO hS) fun H e s'=>hCX w H s₁ e s'
def xat (s:Stmt) (j:Nat):Stmt:=match s with
 | .ClassDef _ _ _ body _ _ _ _ _ _ _=>body.getD j (.Pass ⟨0,0,0,0⟩)
 | _=>.Pass ⟨0,0,0,0⟩
def xbt (s:Stmt):Arguments:=match s with
 | .FunctionDef _ a _ _ _ _ _ _ _ _=>a
 | _=>{ posonlyargs:=[],args:=[],vararg:=none,kwonlyargs:=[],kw_defaults:=[],kwarg:=none,defaults:=[] }
def xbe (s:Stmt):List Stmt:=match s with
 | .FunctionDef _ _ b _ _ _ _ _ _ _=>b
 | _=>[]
def xo (s:Stmt):Scope:=match s with
 | .FunctionDef _ _ _ _ _ _ sc _ _ _=>sc
 | _=>{ kind:=.function,names:=[],isGenerator:=false,isCoroutine:=false }
abbrev CX0:CXT:=fun _ _ _ _ _ _=>False
structure Fun (K:Zd) (x qual:Str) (st:Stmt) (f:Addr) (fd:FuncData):Prop where
 ex:∃(oc:Value) (od:Option Addr) (kV doc pm:Value) (an:Option Addr) (cdv ct:Value) (osl:Array (Option Value)),
  fd=Js x qual (xbt st) (xbe st) (xo st) .none kV doc pm an cdv ct/\K.lookup f=some ⟨oc,od,.func fd,osl⟩/\YI K cdv qual=true
 kp:Jp K (.ref f)=true
section
variable {P:Program}{w:World}{K:Zd}{mg:Str->Option Value}{base:Heap}
theorem Fun.ok {x qual:Str}{st:Stmt}{f:Addr}{fd:FuncData}{N ps:List Str}{k:Nat}{sp:Sp} (F:Fun K x qual st f fd) (S:xu N ps (xo st)) (len:∀ vs H Q E,sp vs H Q E->vs.length=ps.length)
    (hbody:∀(cdv:Value) (A:Around) (outer:List Env) (s:Shared) (H:Hp) (vs:List V) (Q:VK) (E:XK),Room q0 k (A.deeper (envOfC qual (xo st) s.heap.objs.size f cdv))->sp vs H Q E ->
      ∃ t,PSs (cxOf q0 CX0 P w K mg base N qual (xo st) f cdv A outer s H E).nox (xbe st) t/\t { nx:=fun _ H'=>Q .non H',rt:=Q } (xdn N vs) H):FnOk q0 P w K mg base CX0 (k+1) f fd ps sp:=by
  obtain⟨oc,od,kV,doc,pm,an,cdv,ct,osl,rfl,lk,hcd⟩:=F.ex;refine xkd lk hcd S len fun A outer s H vs Q E hr hsp=>?_;obtain⟨t,h,q⟩:=hbody cdv A outer s H vs Q E hr hsp;exact⟨t,h.nox,q⟩
theorem Fun.binds {x qual:Str}{st:Stmt}{f:Addr}{fd:FuncData}{ps:List Str} (F:Fun K x qual st f fd)
    (h:∀(kV doc pm:Value) (an:Option Addr) (cdv ct:Value) (us:List Value),us.length=ps.length->bindArgs (Js x qual (xbt st) (xbe st) (xo st) .none kV doc pm an cdv ct) ⟨us,[]⟩=pure (ps.zip us)):x0 K fd ps []:=by
  obtain⟨oc,od,kV,doc,pm,an,cdv,ct,osl,rfl,lk,hcd⟩:=F.ex;exact .all (h kV doc pm an cdv ct)
theorem fun_mk {x qual:Str}{st:Stmt}{f:Addr}{oc:Value}{od an:Option Addr}{osl:Array (Option Value)}{kV doc pm cdv ct:Value} (l:K.lookup f=some ⟨oc,od,.func (Js x qual (xbt st) (xbe st) (xo st) .none kV doc pm an cdv ct),osl⟩)
    (c:YI K cdv qual=true) (k:Jp K (.ref f)=true):Fun K x qual st f (Js x qual (xbt st) (xbe st) (xo st) .none kV doc pm an cdv ct):=⟨⟨oc,od,kV,doc,pm,an,cdv,ct,osl,rfl,l,c⟩,k⟩
end
theorem xag {A:Around}{k:Nat} (hr:Room q0 k A):A.units+1<cLine:=Yi (Nat.add_le_add_left (by decide:1<=64) _) hr.units
section
variable {X:Cx}
theorem pv (i:Nat) {x:Str}{pos:Pos} (hN:X.N[i]?=some x:=by rfl) (hv:Vis X.env.scope x:=by first|exact Zn rfl|exact ZX (Zn rfl)|exact ZX (ZX rfl)) (hd:(x == ("__debug__":Str))=false:=by decide)
    (hcd:(x == ("__classdict__":Str))=false:=by decide):PE X (.Name x pos) (tVar i):=xuk hN hv hd hcd
end
theorem iteF {A B:Prop} (h:B):if false=true then A else B:=by
 rw[if_neg Z1];exact h
theorem iteT {A B:Prop} (h:A):if true=true then A else B:=by
 rw[if_pos rfl];exact h
theorem ite2 {c A B:Prop} [Decidable c] (h1:c->A) (h2:¬ c->B):if c then A else B:=by
 by_cases h:c
 .rw [if_pos h];exact h1 h
 .rw [if_neg h];exact h2 h
def Same (H H':Hp):Prop:=∀ b o,H b=some o->H' b=some o
theorem Same.refl (H:Hp):Same H H:=fun _ _ h=>h
theorem Same.trans {H H1 H2:Hp} (a:Same H H1) (b:Same H1 H2):Same H H2:=fun c o h=>b c o (a c o h)
theorem Same.free {H H':Hp} (e:Same H H') {l:Addr} (h:H' l=Option.none):H l=Option.none:=by
 cases q:H l with
 | none=>rfl
 | some o =>
  rw[e l o q] at h;cases h
theorem Same.seq {K:Zd}{H H':Hp}{a:Addr}{xs:List V} (e:Same H H') (h:SqL K H a xs):SqL K H' a xs:=by
 rcases h with (h|⟨o,h⟩)|h
 .exact .inl (.inl (e _ _ h))
 .exact .inl (.inr ⟨o,e _ _ h⟩)
 .exact .inr h
end L2
namespace Srt
open PySem PySem.W PyProof.Rows
abbrev CM:=Nat->Nat->(Bool->Shared->Prop)->Shared->Prop
abbrev g (p:Array Nat) (i:Nat):Nat:=p.getD i 0
structure Ord (n:Nat) (lt:Nat->Nat->Bool):Prop where
 irr:∀ i,i<n->lt i i=false
 tr:∀ i j k,i<n->j<n->k<n->lt i j=true->lt j k=true->lt i k=true
 tot:∀ i j,i<n->j<n->i≠j->lt i j=false->lt j i=true
def Cmp (n:Nat) (lt:Nat->Nat->Bool) (cmp:CM) (s:Shared):Prop:=∀ i j,i<n->j<n->∀ Q:Bool->Shared->Prop,Q (lt i j) s->cmp i j Q s
theorem xcs {α:Type}{cmp:CM}{a:α}{Q:α->Shared->Prop}{s:Shared} (h:Q a s):KasT.kasWp cmp (.ret a) Q s:=h
theorem xfu {α:Type}{cmp:CM}{i j:Nat}{k:Bool->KasT α}{Q:α->Shared->Prop}{s:Shared} (h:cmp i j (fun c s'=>KasT.kasWp cmp (k c) Q s') s):KasT.kasWp cmp (.ask i j k) Q s:=h
theorem xv0 {p:Array Nat}{n:Nat}:kas_asc p 0 n=.ret n:=by unfold kas_asc; rfl
theorem xv6 {p:Array Nat}{f n:Nat}:kas_asc p (f+1) n=.ask (p.getD n 0) (p.getD (n-1) 0) fun c=>if c=true then .ret n else kas_asc p f (n+1):=by rw[kas_asc]
theorem xwb {p:Array Nat}{k:Nat}:kas_bin 0 p k=.ret p:=by unfold kas_bin; rfl
theorem xvy {f:Nat}{p:Array Nat}{k:Nat}:kas_bin (f+1) p k=(kas_place p k k 0 k).bind fun l=>kas_bin f (bubble p k (k-l)) (k+1):=by rw[kas_bin]
theorem xsl {p:Array Nat}{k l r:Nat}:kas_place p k 0 l r=.ret l:=by unfold kas_place; rfl
theorem xtq {p:Array Nat}{k f l r:Nat}:kas_place p k (f+1) l r=if l>=r then .ret l else .ask (p.getD k 0) (p.getD ((l+r) / 2) 0) fun c=>if c=true then kas_place p k f l ((l+r) / 2) else kas_place p k f ((l+r) / 2+1) r:=by rw[kas_place]
theorem xtw {p:Array Nat}{k l:Nat}:kas_desc 0 p k l=.ret (p,k,l):=by unfold kas_desc; rfl
theorem xu8 {f:Nat}{p:Array Nat}{k l:Nat}:kas_desc (f+1) p k l=.ask (p.getD k 0) (p.getD (k-1) 0) fun c=>if c=true then (if l>0 then kas_desc f (kas_rev p (k-(l+1)) k) (k+1) 0 else kas_desc f p (k+1) 0) else .ask (p.getD (k-1) 0) (p.getD k 0) fun d=>if d=true then .ret (p,k,l) else kas_desc f p (k+1) (l+1):=by rw[kas_desc]
section
variable {n:Nat}{lt:Nat->Nat->Bool}{cmp:CM}{s:Shared}
structure Arr (n:Nat) (p:Array Nat):Prop where
 sz:p.size=n
 lt:∀ i,i<n->g p i<n
 inj:∀ i j,i<n->j<n->g p i=g p j->i=j
 pm:p.Perm (Z0 n).toArray
theorem g_at {p:Array Nat}{i:Nat}{v:Nat} (h:p[i]?=some v):g p i=v:=by
 show p.getD i 0=v;rw[Array.getD_eq_getD_getElem?,h];rfl
theorem Arr.at {p:Array Nat} (a:Arr n p) {i:Nat} (h:i<n):p[i]?=some (g p i):=by
 have z:i<p.size:=by rw[a.sz]; exact h
 have e:p[i]?=some p[i]:=Y2 z;rw[e,g_at e]
def Srtd (lt:Nat->Nat->Bool) (p:Array Nat) (m:Nat):Prop:=∀ i j,i<j->j<m->lt (g p i) (g p j)=true
theorem xl9 (o:Ord n lt) {p:Array Nat} (a:Arr n p) {m:Nat} (hm:m<=n) (h:∀ i,1<=i->i<m->lt (g p (i-1)) (g p i)=true):Srtd lt p m:=by
 intro i j hij hj;obtain⟨d,rfl⟩:∃ d,j=i+1+d:=⟨j-(i+1),by omega⟩
 induction d with
 | zero=>exact h (i+1) (by omega) hj
 | succ d ih =>
  have h1:=ih (by omega) (by omega);have h2:=h (i+1+(d+1)) (by omega) hj;exact o.tr _ _ _ (a.lt _ (by omega)) (a.lt _ (by omega)) (a.lt _ (by omega)) h1 h2
theorem xlh (c:Cmp n lt cmp s) {p:Array Nat} (a:Arr n p) {G:Nat->Shared->Prop}:∀(f k:Nat),1<=k->k+f<=n ->
    (∀ m,k<=m->m<=k+f->(∀ i,k<=i->i<m->lt (g p i) (g p (i-1))=false)->(m<k+f->lt (g p m) (g p (m-1))=true)->G m s)->KasT.kasWp cmp (kas_asc p f k) G s
  | 0,k,h1,hf,hG=>by
    rw[xv0];exact xcs (hG k (Zl _) (by omega) (fun i h h'=>by omega) (fun h=>by omega))
  | f+1,k,h1,hf,hG=>by
    rw[xv6];refine xfu (c _ _ (a.lt k (by omega)) (a.lt (k-1) (by omega)) _ ?_);cases e:lt (g p k) (g p (k-1)) with
    | true =>
      exact xcs (hG k (Zl _) (by omega) (fun i h h'=>by omega) (fun _=>e))
    | false =>
      show KasT.kasWp cmp (kas_asc p f (k+1)) G s;refine xlh c a f (k+1) (by omega) (by omega) fun m hm hm2 h3 h4=>hG m (by omega) (by omega) (fun i hi hi2=>?_) (fun h=>h4 (by omega));by_cases z:i=k
      . rw[z]; exact e
      . exact h3 i (by omega) hi2
theorem xl7 (o:Ord n lt) (c:Cmp n lt cmp s) {p:Array Nat} (a:Arr n p) {G:Array Nat × Nat × Nat->Shared->Prop}:∀(f k:Nat),1<=k->k+f<=n ->
    (∀ m,k<=m->m<=k+f->(∀ i,k<=i->i<m->lt (g p i) (g p (i-1))=true)->G (p,m,0) s)->KasT.kasWp cmp (kas_desc f p k 0) G s
  | 0,k,h1,hf,hG=>by
    rw[xtw];exact xcs (hG k (Zl _) (by omega) (fun i h h'=>by omega))
  | f+1,k,h1,hf,hG=>by
    rw[xu8];refine xfu (c _ _ (a.lt k (by omega)) (a.lt (k-1) (by omega)) _ ?_);cases e:lt (g p k) (g p (k-1)) with
    | true =>
      show KasT.kasWp cmp (kas_desc f p (k+1) 0) G s;refine xl7 o c a f (k+1) (by omega) (by omega) fun m hm hm2 h3=>hG m (by omega) (by omega) fun i hi hi2=>?_;by_cases z:i=k
      . rw[z]; exact e
      . exact h3 i (by omega) hi2
    | false =>
      refine xfu (c _ _ (a.lt (k-1) (by omega)) (a.lt k (by omega)) _ ?_);have ne:g p k≠g p (k-1):=fun z=>by have:=a.inj _ _ (by omega) (by omega) z; omega
      rw[show lt (p.getD (k-1) 0) (p.getD k 0)=true from o.tot _ _ (a.lt k (by omega)) (a.lt (k-1) (by omega)) ne e];exact xcs (hG k (Zl _) (by omega) (fun i h h'=>by omega))
theorem Arr.rev {p:Array Nat} (a:Arr n p) {k:Nat} (hk:k<=n):Arr n (kas_rev p 0 k)/\∀ i,i<n->g (kas_rev p 0 k) i=if i<k then g p (k-1-i) else g p i:=by
 have ge:∀ i,i<n->g (kas_rev p 0 k) i=if i<k then g p (k-1-i) else g p i:=fun i hi=>by
  have z:=getElem?_mirror_all (xs:=p) (i:=0) (j:=k) (by rw[a.sz]; exact hk) i;by_cases c:i<k
  .rw [if_pos c];rw[if_pos ⟨ZZ _,c⟩,show 0+k-1-i=k-1-i by omega,a.at (show k-1-i<n by omega)] at z;exact g_at z
  .rw [if_neg c];rw[if_neg (fun w=>c w.2),a.at hi] at z;exact g_at z
 refine⟨⟨by rw[kas_rev_size,a.sz],fun i hi=>?_,fun i j hi hj e=>?_,(mirror_perm _ _ _ _).trans a.pm⟩,ge⟩
 .rw [ge i hi];split<;>exact a.lt _ (by omega)
 .rw [ge i hi,ge j hj] at e;split at e<;>split at e<;>have:=a.inj _ _ (by omega) (by omega) e<;>omega
theorem xp9 (o:Ord n lt) (c:Cmp n lt cmp s) {p:Array Nat} (a:Arr n p) (h2:2<=n) {G:Nat × Array Nat->Shared->Prop}
    (hG:∀ m p',1<=m->m<=n->Arr n p'->Srtd lt p' m->G (m,p') s):KasT.kasWp cmp (kas_count n p) G s:=by
  unfold kas_count;rw[KasT.kasWp_bind];have up:∀ q,Arr n q->∀ i,1<=i->i<n->lt (g q i) (g q (i-1))=false->lt (g q (i-1)) (g q i)=true:=fun q b i h1 hi e =>
    o.tot _ _ (b.lt i hi) (b.lt (i-1) (by omega)) (fun z=>by have:=b.inj _ _ hi (by omega) z; omega) e
  refine xlh c a (n-1) 1 (Zl _) (by omega) fun m hm hm2 h3 h4=>?_;have sm:Srtd lt p m:=xl9 o a (by omega) fun i hi hi2=>up p a i hi (by omega) (h3 i hi hi2);show KasT.kasWp cmp (if (m == n)=true then _ else _) G s;by_cases e1:m=n
  . rw[if_pos (by simpa using e1)]
    exact xcs (hG m p hm (by omega) a sm)
  . rw[if_neg (by simpa using e1)]
    by_cases e2:m>1
    . rw[if_pos e2]
      refine xfu (c _ _ (a.lt 0 (by omega)) (a.lt (m-1) (by omega)) _ ?_);rw[show lt (p.getD 0 0) (p.getD (m-1) 0)=true from sm 0 (m-1) (by omega) (by omega)];exact xcs (hG m p hm (by omega) a sm)
    . rw[if_neg e2]
      have m1:m=1:=by omega
      subst m1;have d1:=h4 (by omega);unfold kas_descPart;rw[KasT.kasWp_bind];refine xl7 o c a (n-(1+1)) (1+1) (by omega) (by omega) fun k hk hk2 h5=>?_;show KasT.kasWp cmp (if (0:Nat)>0 then _ else kas_tail3 k n p) G s;rw[if_neg (Y5 0)];unfold kas_tail3;rw[KasT.kasWp_bind];obtain⟨b,ge⟩:=a.rev (k:=k) (by omega);refine xlh c b (n-k) k (by omega) (by omega) fun m' hm' hm2' h6 _=>?_;refine xcs (hG m' _ (by omega) (by omega) b (xl9 o b (by omega) fun i hi hi2=>?_));by_cases ik:i<k
      . rw[ge i (by omega),ge (i-1) (by omega),if_pos ik,if_pos (by omega)]
        have e3:k-1-(i-1)-1=k-1-i:=by omega
        by_cases z:k-1-(i-1)=1
        . have z':k-1-i=0:=by omega
          rw[z,z'];exact d1
        . have:=h5 (k-1-(i-1)) (by omega) (by omega)
          rw[e3] at this;exact this
      . exact up _ b i hi (by omega) (h6 i (by omega) hi2)
theorem xhh (o:Ord n lt) (c:Cmp n lt cmp s) {p:Array Nat} (a:Arr n p) {k:Nat} (hk:k<n) (sk:Srtd lt p k) {G:Nat->Shared->Prop}:∀(f l r:Nat),l<=r->r<=k->r-l<=f ->
    (∀ j,j<l->lt (g p k) (g p j)=false)->(∀ j,r<=j->j<k->lt (g p k) (g p j)=true) ->
    (∀ m,m<=k->(∀ j,j<m->lt (g p k) (g p j)=false)->(∀ j,m<=j->j<k->lt (g p k) (g p j)=true)->G m s)->KasT.kasWp cmp (kas_place p k f l r) G s
  | 0,l,r,h1,h2,h3,lo,hi,hG=>by
    rw[xsl];exact xcs (hG l (by omega) lo fun j hj hj2=>hi j (by omega) hj2)
  | f+1,l,r,h1,h2,h3,lo,hi,hG=>by
    rw[xtq];by_cases e:l>=r
    . rw[if_pos e]
      exact xcs (hG l (by omega) lo fun j hj hj2=>hi j (by omega) hj2)
    . rw[if_neg e]
      have m1:(l+r) / 2<r:=by omega
      have m2:l<=(l+r) / 2:=by omega
      refine xfu (c _ _ (a.lt k hk) (a.lt _ (by omega)) _ ?_);cases e2:lt (g p k) (g p ((l+r) / 2)) with
      | true =>
        show KasT.kasWp cmp (kas_place p k f l ((l+r) / 2)) G s;refine xhh o c a hk sk f l _ m2 (by omega) (by omega) lo (fun j hj hj2=>?_) hG;by_cases z:j=(l+r) / 2
        . rw[z]; exact e2
        . exact o.tr _ _ _ (a.lt k hk) (a.lt _ (by omega)) (a.lt _ (by omega)) e2 (sk _ _ (by omega) hj2)
      | false =>
        show KasT.kasWp cmp (kas_place p k f ((l+r) / 2+1) r) G s;refine xhh o c a hk sk f _ r (by omega) h2 (by omega) (fun j hj=>?_) hi hG;by_cases z:j=(l+r) / 2
        . rw[z]; exact e2
        . cases e3:lt (g p k) (g p j) with
          | false=>rfl
          | true =>
            have:=o.tr _ _ _ (a.lt k hk) (a.lt _ (by omega)) (a.lt _ (by omega)) e3 (sk j ((l+r) / 2) (by omega) (by omega));rw[e2] at this;cases this
theorem Arr.bub {p:Array Nat} (a:Arr n p) {k m:Nat} (hk:k<n) (hm:m<=k):Arr n (bubble p k (k-m))/\∀ i,i<n->g (bubble p k (k-m)) i=if i=m then g p k else if m<i/\i<=k then g p (i-1) else g p i:=by
 have ge:∀ i,i<n->g (bubble p k (k-m)) i=if i=m then g p k else if m<i/\i<=k then g p (i-1) else g p i:=fun i hi=>by
  have z:=getElem?_bubble (xs:=p) (src:=k) (by rw[a.sz]; exact hk) (k-m) (by omega) i;rw[show k-(k-m)=m by omega] at z;by_cases c:i=m
  .rw [if_pos c];rw[if_pos c,a.at hk] at z;exact g_at z
  .rw [if_neg c];rw[if_neg c] at z;by_cases d:m<i/\i<=k
   .rw [if_pos d];rw[if_pos d,a.at (show i-1<n by omega)] at z;exact g_at z
   .rw [if_neg d];rw[if_neg d,a.at hi] at z;exact g_at z
 refine⟨⟨by rw[bubble_size,a.sz],fun i hi=>?_,fun i j hi hj e=>?_,(bubble_perm _ _ _).trans a.pm⟩,ge⟩
 .rw [ge i hi];split
  .exact a.lt _ hk
  .split<;>exact a.lt _ (by omega)
 .rw [ge i hi,ge j hj] at e;split at e<;>(try split at e)<;>(try split at e)<;>(try split at e)<;>first|omega|(have:=a.inj _ _ (by omega) (by omega) e; omega)
theorem xn8 (o:Ord n lt) (c:Cmp n lt cmp s) {G:Array Nat->Shared->Prop}:∀(f k:Nat) (p:Array Nat),k+f=n->Arr n p->Srtd lt p k->(∀ p',Arr n p'->Srtd lt p' n->G p' s)->KasT.kasWp cmp (kas_bin f p k) G s
 | 0,k,p,h,a,sk,hG=>by
  rw[xwb];have:k=n:=by omega
  subst this;exact xcs (hG p a sk)
 | f+1,k,p,h,a,sk,hG=>by
  have hk:k<n:=by omega
  rw[xvy,KasT.kasWp_bind];refine xhh o c a hk sk k 0 k (ZZ _) (Zl _) (by omega) (fun j hj=>by omega) (fun j hj hj2=>by omega) fun m hm lo hi=>?_;obtain⟨b,ge⟩:=a.bub hk hm;refine xn8 o c f (k+1) _ (by omega) b (fun i j hij hj=>?_) hG;have inS:∀ i,i<m->lt (g p i) (g p k)=true:=fun i hi'=>o.tot _ _ (a.lt k hk) (a.lt i (by omega)) (fun z=>by have:=a.inj _ _ hk (by omega) z; omega) (lo i hi');have g1:∀ i,i<n->i=m->g (bubble p k (k-m)) i=g p k:=fun i hi z=>by rw[ge i hi,if_pos z]
  have g2:∀ i,i<n->m<i->i<=k->g (bubble p k (k-m)) i=g p (i-1):=fun i hi z z2=>by rw[ge i hi,if_neg (by omega),if_pos ⟨z,z2⟩]
  have g3:∀ i,i<n->i<m->g (bubble p k (k-m)) i=g p i:=fun i hi z=>by rw[ge i hi,if_neg (by omega),if_neg (by omega)]
  by_cases j1:j=m
  .rw [g1 j (by omega) j1,g3 i (by omega) (by omega)];exact inS i (by omega)
  .by_cases i1:i=m
   .rw [g1 i (by omega) i1,g2 j (by omega) (by omega) (by omega)];exact hi (j-1) (by omega) (by omega)
   .by_cases j2:m<j
    .rw [g2 j (by omega) j2 (by omega)];by_cases i2:m<i
     .rw [g2 i (by omega) i2 (by omega)];exact sk _ _ (by omega) (by omega)
     .rw [g3 i (by omega) (by omega)];by_cases z:i=j-1
      .omega
      .exact sk _ _ (by omega) (by omega)
    .rw [g3 j (by omega) (by omega),g3 i (by omega) (by omega)];exact sk _ _ hij (by omega)
theorem xn2:Arr n (Z0 n).toArray:=by
 have e:∀ i,i<n->g (Z0 n).toArray i=i:=fun i hi=>g_at (by rw[List.getElem?_toArray,Jj hi]);exact⟨by simp,fun i hi=>by rw[e i hi]; exact hi,fun i j hi hj z=>by rw[e i hi,e j hj] at z; exact z,Array.Perm.refl _⟩
theorem sort_wp (o:Ord n lt) (c:Cmp n lt cmp s) (h2:2<=n) {G:Array Nat->Shared->Prop} (hG:∀ p,Arr n p->Srtd lt p n->G p s):KasT.kasWp cmp (kas_sort n) G s:=by
 unfold kas_sort;rw[KasT.kasWp_bind];refine xp9 o c xn2 h2 fun m p hm hm2 a sm=>?_;show KasT.kasWp cmp (if m<n then _ else _) G s;by_cases e:m<n
 .rw [if_pos e];show KasT.kasWp cmp (kas_bin (n-max m 1) p (max m 1)) G s;rw[Nat.max_eq_left hm];exact xn8 o c (n-m) m p (by omega) a sm hG
 .rw [if_neg e];have:m=n:=by omega
  subst this;exact xcs (hG p a sm)
end
end Srt
namespace XL
open PySem
def Xat (h:Heap) (e:Addr) (cls:Value) (od tb:Option Addr):Prop :=
 ∃ oe vs,h.get? e=some oe/\oe.cls=cls/\oe.dict=od/\oe.data=.fields vs/\1<vs.size /\
  ((tb=none/\vs[1]?=some ZR)\/∃ T oT ts,tb=some T/\vs[1]?=some (.ref T)/\T≠e/\h.get? T=some oT/\oT.data=.fields ts/\ts[3]?=some ZR)
structure Stp (fs:List Addr) (e:Addr) (tb:Option Addr) (h h':Heap):Prop where
 keep:∀ b o,h.get? b=some o->b≠e->tb≠some b->b∉fs->h'.get? b=some o
 slot:∀ b o,h.get? b=some o->b∈fs->∃ sl,h'.get? b=some { o with slots:=sl }
abbrev xke (l:List Env):List Addr:=l.filterMap (·.frame)
theorem xph (o:Obj) (f:Array Value->Array Value):(o.mapFields f).dict=o.dict:=by
 obtain⟨c,d,dt,sl⟩:=o;cases dt<;>rfl
section
variable {M:Model}{A:Around}{E:Value->Shared->Prop}{s:Shared}
theorem xm6 {base:Heap}{env:Env}{outer:List Env}{L e:Addr}{oe:Obj}{vs:Array Value}{hd:Value}{nx:Bool}{cls:Value}{od tb:Option Addr}{g:Heap}{Q:Unit->Shared->Prop}
    (fr:A.frames=some (env::outer)) (ff:s.heap.FunFrames base (env::outer)) (fL:env.frame=some L)
    (ge:s.heap.get? e=some oe) (de:oe.data=.fields vs) (se:1<vs.size) (ce:oe.cls=cls) (oo:oe.dict=od)
    (st:Stp (xke (env::outer)) e tb g s.heap) (sz:g.objs.size<=s.heap.objs.size)
    (k:∀ h' T,Stp (xke (env::outer)) e tb g h'->g.objs.size<=T->Xat h' e cls od (some T)->Q () { s with heap:=h' }) :
    wpAny M A (do let a <- frameOf env; let pl <- entryPlaceOf L nx; let b <- EntryCells.newEntry hd a .none (rawInt L) .none pl; setField (.ref e) 1 b) (fun _ s'=>wpAny M A (setFlight (.ref e) none) Q E s') E s:=by
  have nef:e∉xke (env::outer):=fun hm=>by
    obtain⟨_,o,ho,hnf⟩:=ff.mem hm;have z:=ge.symm.trans ho;cases z;exact hnf vs de
  refine Zc (wpAny_frameOf_fun fr ff fL fun h1 so=>?_);refine Zc (wpAny_entryPlaceOf fun pl ip=>?_);unfold EntryCells.newEntry newFields;refine Zc (Yr ?_ (ip.sizeOk5 _ _ _ _ _));have e1:h1.get? e=some oe:=(so.2.1 e nef).trans ge;generalize eT:({ cls:=.type "traceback",dict:=none,data:=.fields ([hd,.ref L,.none,rawInt L,.none]++(if pl.isEmpty then Qk 6 ZR else pl)).toArray }:Obj)=oT;have dT:oT.data=.fields ([hd,.ref L,.none,rawInt L,.none]++(if pl.isEmpty then Qk 6 ZR else pl)).toArray:=by rw[<- eT]
  have fT:oT.isFreed=false:=by rw[<- eT]; rfl
  have e2:(h1.push oT).get? e=some oe:=Zi oT e1;refine QV e2 de se ?_;have nTe:h1.objs.size≠e:=Yg (Zq e1);have d3:=YA de (·.setIfInBounds 1 (Zo h1.objs.size));have e3:=ZM (YX (·.setIfInBounds 1 (Zo h1.objs.size))) e2 (YT d3);have T3:((h1.push oT).update e (YX (·.setIfInBounds 1 (Zo h1.objs.size)))).get? h1.objs.size=some oT :=
    (Jo (h1.push oT) _ (ZE nTe)).trans (Z2 h1 fT)
  unfold setFlight;refine Zc (Yv e3 d3 (x:=.ref h1.objs.size) (by simp[se]) ?_);rw[if_pos (show (Zo h1.objs.size != ZR)=true from by simp)];refine QV T3 dT (by simp only[Z5,Zp,ZI,Qc]<;>omega) (k _ h1.objs.size ?_ ?_ ?_)
  . have go:∀ b o,b≠e->h1.get? b=some o->(((h1.push oT).update e (YX (·.setIfInBounds 1 (Zo h1.objs.size)))).update h1.objs.size
        (YX (·.setIfInBounds 3 ((none:Option Addr).elim ZR fun f=>rawInt f)))).get? b=some o:=fun b o be hb=>by
      have bT:h1.objs.size≠b:=Yg (Zq hb);rw[Jo _ _ bT,Jo _ _ (ZE be)];exact Zi oT hb
    refine⟨fun b o hb be bt bf=>go b o be ((so.2.1 b bf).trans (st.keep b o hb be bt bf)),fun b o hb bf=>?_⟩;obtain⟨sl,h2⟩:=st.slot b o hb bf;obtain⟨sl2,h3⟩:=so.2.2 b _ h2;exact⟨sl2,go b _ (fun z=>nef (z▸bf)) h3⟩
  . rw[so.1]; exact sz
  . refine⟨_,_,?_,(Obj.cls_mapFields _ _).trans ce,(xph _ _).trans oo,d3,by simp[se],.inr ⟨h1.objs.size,_,_,rfl,by simp[se],nTe,ZM _ T3 (YT (YA dT _)),YA dT _,?_⟩⟩
    . rw[Jo _ _ nTe]
      exact e3
    . first|(simp; done)|(rcases ip with rfl|⟨_,_,_,_,_,_,_,rfl⟩<;>simp)
theorem xor {base:Heap}{env:Env}{outer:List Env}{L e:Addr}{cls:Value}{od tb:Option Addr}{Q:Unit->Shared->Prop}
    (fr:A.frames=some (env::outer)) (ff:s.heap.FunFrames base (env::outer)) (fL:env.frame=some L) (x:Xat s.heap e cls od tb)
    (k:∀ h' T,Stp (xke (env::outer)) e tb s.heap h'->s.heap.objs.size<=T->Xat h' e cls od (some T)->Q () { s with heap:=h' }) :
    wpAny M A (noteFrame (.ref e) env) (fun _ s'=>wpAny M A (setFlight (.ref e) none) Q E s') E s:=by
  obtain⟨oe,vs,ge,ce,oo,de,se,y⟩:=x;unfold noteFrame;simp only[fL];rcases y with⟨rfl,h1⟩|⟨T,oT,ts,rfl,h1,nTe,gT,dT,h3⟩
  . refine Zc (Yv ge de h1 ?_)
    rw[if_neg (by decide)];exact xm6 fr ff fL ge de se ce oo ⟨fun b o hb _ _ _=>hb,fun b o hb _=>⟨o.slots,hb⟩⟩ (Zl _) k
  . refine Zc (Yv ge de h1 ?_)
    rw[if_pos (show (Zo T != ZR)=true from by simp)];refine Zc (Yv gT dT h3 ?_);rw[if_neg (show ¬ ((ZR == rawInt L)=true) from by simp[rawInt])];refine Zc (QV gT dT (Array.getElem?_eq_some_iff.mp h3).1 ?_);have ot:∀ b,b≠T->(s.heap.update T (YX (·.setIfInBounds 3 ZR))).get? b=s.heap.get? b:=fun b hb=>Jo _ _ (ZE hb);have nr:∀ b o,s.heap.get? b=some o->(∀ vs,o.data≠.fields vs)->b≠T:=fun b o hb hn q=>by
      rw[q] at hb;have z:=gT.symm.trans hb;cases z;exact hn ts dT
    refine xm6 (g:=s.heap) fr (ff.of_keeps fun b o hb hn=>⟨o,(ot b (nr b o hb hn)).trans hb,rfl⟩) fL ((ot e (ZE nTe)).trans ge) de se ce oo
      ⟨fun b o hb _ bt _=>(ot b fun z=>bt (congrArg some z.symm)).trans hb,fun b o hb bf=>⟨o.slots,?_⟩⟩ (Nat.le_of_eq (Heap.size_after_update ..).symm) k
    . obtain⟨_,o',ho',hn⟩:=ff.mem bf
      have z:=hb.symm.trans ho';cases z;exact (ot b (nr b _ hb hn)).trans hb
end
section
variable {prog:Program}{w:World}{A:Around}{E:Value->Shared->Prop}{h:Heap}{g:Array GenState}{d:Drawn}{t:Nat}{os:OsState}
variable {nm qn:Str}{C N:Addr}{bs bm bmB:List Value}{hz:Bool}{sn:List Str}{sub:List Value}{ab:Bool}{col:Option Bool}{dd:Option Addr}{k0 k1 k2 k3 k5:Option Value}{B ni ii:String}
theorem xlz (F:ExcBaseFacts B ni ii bmB) (T:OwnTail h bmB bm) {us:List Value}{fI:Addr}{oI:Obj}{Q:Fin->Shared->Prop}
    (gC:h.get? C=some (excClassObj nm qn C N bs bm hz sn sub ab col dd k0 k1 k2 k3 k5 ni))
    (hi:∀(A':Around) (Q':Option Value->Shared->Prop) (E':Value->Shared->Prop) (s':Shared),(∀ b o,h.get? b=some o->s'.heap.get? b=some o)->Q' (some (.ref fI)) s'->wpAny (model prog w) A' (typeLookup (.ref C) "__init__") Q' E' s')
    (gI:h.get? fI=some oI) (cI:oI.cls=.type "function") (lu:us.length<=sizeLine)
    (k:∀ h' e,Heap.MadeExcOf h h' e (.ref C) us->h.objs.size<=e ->
      wpAny (model prog w) A (call (.ref fI) (.ref e::us)) (fun r s'=>r=.none/\Q (.done (.ret (.ref e))) s') E ⟨h',g,d,t,os⟩) :
    wpAny (model prog w) A (Builtin.«type.__call__» ⟨.ref C::us,[]⟩) Q E ⟨h,g,d,t,os⟩:=by
  repeat (first|with_reducible refine JZ gC ?_|with_reducible refine wpAny_madeBy_exc gC ?_|wp_step)
  refine codeAny_call_builtin_code (Code.quiet_builtin _ F.quiet) (wpAny_check_new_subT F T gC ?_);refine codeAny_exc_new_subT F T gC ?_ lu;show wpAny _ _ _ _ _ _;generalize e1:({ cls:=.type "tuple",data:=.seq us.toArray }:Obj)=oT;have fT:oT.isFreed=false:=by rw[<- e1]; rfl
  generalize e2:({ cls:=.ref C,data:=.fields #[.ref h.objs.size,.none,.none,.none,.bool false,.none] }:Obj)=oE;have fE:oE.isFreed=false:=by rw[<- e2]; rfl
  have up:∀ b o,h.get? b=some o->((h.push oT).push oE).get? b=some o:=fun b o q=>Zi oE (Zi oT q);have gC':=up _ _ gC;have gI':=up _ _ gI;have gE:((h.push oT).push oE).get? (h.objs.size+1)=some oE:=by
    have z:=Z2 (h.push oT) fE
    rwa [Wa] at z
  have cE:oE.cls=.ref C:=by rw[<- e2]
  have me:(Zo C::bm).contains (.ref C)=true:=by simp
  unfold isInstance
  repeat (first|(with_reducible refine JZ gE ?_; rw[cE])|(with_reducible refine Qd gC' ?_; rw[me])|wp_step)
  show wpAny _ _ (typeLookup (.ref C) _) _ _ _;refine hi _ _ _ _ up ?_;refine J5 (Zc ?_);unfold bindSpecial;refine Zc (Yy (T:="function") ⟨_,gI',cI⟩ ?_);rw[if_pos (by decide)];refine Zm (Zc (ZQ (k _ (h.objs.size+1) ⟨up,Wd (QS _),h.objs.size,?_,Wd (Zl _),?_⟩ (QS _)) (fun r s' z=>?_) fun _ _ x=>x))
  . rw[e2]; exact gE
  . rw[e1]; exact Zi oE (Z2 h fT)
  . obtain⟨rfl,z⟩:=z
    wp_walk
    exact z
theorem xnd (F:ExcBaseFacts B ni ii bmB) (T:OwnTail h bmB bm) {us:List Value}{fI:Addr}{oI:Obj}{Q:Value->Shared->Prop}
    (gC:h.get? C=some (excClassObj nm qn C N bs bm hz sn sub ab col dd k0 k1 k2 k3 k5 ni))
    (hi:∀(A':Around) (Q':Option Value->Shared->Prop) (E':Value->Shared->Prop) (s':Shared),(∀ b o,h.get? b=some o->s'.heap.get? b=some o)->Q' (some (.ref fI)) s'->wpAny (model prog w) A' (typeLookup (.ref C) "__init__") Q' E' s')
    (gI:h.get? fI=some oI) (cI:oI.cls=.type "function") (lu:us.length<=sizeLine)
    (k:∀ h' e,Heap.MadeExcOf h h' e (.ref C) us->h.objs.size<=e ->
      wpAny (model prog w) (A.under (.builtin "type.__call__" ⟨.ref C::us,[]⟩)) (call (.ref fI) (.ref e::us)) (fun r s'=>r=.none/\Q (.ref e) s') E ⟨h',g,d,t,os⟩) :
    wpAny (model prog w) A (call (.ref C) us) Q E ⟨h,g,d,t,os⟩:=by
  have a1:=tc_lookup;have a2:=tc_bind (.ref C);have ty:(⟨h,g,d,t,os⟩:Shared).TypeIs (.ref C) "type":=⟨_,gC,rfl⟩
  refine Q5 (codeAny_of_tree ?_);show wpAny _ _ (callAny (.ref C) _) _ _ _
  repeat (any_goals (first|assumption|with_reducible refine JZ gC ?_|wp_step))
  refine⟨rfl,?_⟩;refine codeAny_call_builtin_at (Code.quiet_builtin _ (by decide +kernel)) entry_typeCall (wpAny_check_type_call_sub gC (xlz F T gC hi gI cI lu fun h' e hm hs=>?_));exact k h' e hm hs
theorem xr1 {M:Model}{s:Shared}{env:Env}{x:Sem Value}{Q:Flow->Shared->Prop} (hh:A.handled=none)
    (k:wpAny M A x (fun v s1=>∃ e od C nm qn N bs bm hz sn sub ab col dd k0 k1 k2 k3 k5 ni,v=.ref e/\bm.contains (.type "BaseException")=true/\s1.heap.get? C=some (excClassObj nm qn C N bs bm hz sn sub ab col dd k0 k1 k2 k3 k5 ni)/\Xat s1.heap e (.ref C) od none/\E (.ref e) s1) E s) :
    wpAny M A (raiseStmt env (some x) none) Q E s:=by
  unfold raiseStmt;refine Zc (ZQ k (fun v s1 z=>?_) fun _ _ x=>x);obtain⟨e,od,C,nm,qn,N,bs,bm,hz,sn,sub,ab,col,dd,k0,k1,k2,k3,k5,ni,rfl,bB,gC,⟨oe,vs,ge,ce,oo,de,se,y⟩,zE⟩:=z;have me:(Zo C::bm).contains (.type "BaseException")=true:=by rw[YB,bB,JF]
  obtain⟨hp,g,d,tk,os⟩:=s1;rcases y with⟨_,y1⟩|⟨T,_,_,z,_⟩
  . repeat (first|(with_reducible refine JZ ge ?_; rw[ce])|with_reducible refine JZ gC ?_|(with_reducible refine Qd gC ?_; rw[me])|wp_step)
    rw[de];refine Zm ?_;rw[y1];refine Zm ?_;rw[if_neg (by decide)];exact Zm (wpAny_raiseNew_none hh zE)
  . cases z
end
end XL
namespace XL
open PySem PySem.W PySem.Calls PyProof.Rows Builtin Builtin.ObjectAttr
def vErr:List Value:=[.type "ValueError",.type "Exception",.type "BaseException",.type "object"]
def xfa:List Value->Bool
 | []=>false
 | .ref c::r=>xfa r||((.ref c::r:List Value) == vErr)
 | v::r=>(v::r) == vErr
def xmq (K:Frag) (C:Addr):Bool:=(clsIn K C).any fun cd=>xfa cd.mro
theorem xjp (self:Value):∀{l:List Value},xfa l=true->refuseLoop self "__setattr__" l=pure ()
 | [],e=>by cases e
 | v::r,e=>by
  have last:((v::r:List Value) == vErr)=true->refuseLoop self "__setattr__" (v::r)=pure ():=fun z=>by
   rw[Qx z];exact PySem.F.store_ValueError.passes self
  cases v with
  | ref c =>
   rcases Bool.or_eq_true_iff.mp e with z|z
   .rw [refuseLoop_ref];exact xjp self z
   .exact last z
  | _=>exact last e
theorem xhd:∀{l:List Value},xfa l=true->l.contains (.type "object")=true/\l.contains (.type "BaseException")=true/\l.isEmpty=false
 | [],e=>by cases e
 | v::r,e=>by
  have last:((v::r:List Value) == vErr)=true->(v::r).contains (.type "object")=true/\(v::r).contains (.type "BaseException")=true/\(v::r).isEmpty=false:=fun z=>by
   rw[Qx z];exact⟨by decide +kernel,by decide +kernel,rfl⟩
  cases v with
  | ref c =>
   rcases Bool.or_eq_true_iff.mp e with z|z
   .obtain ⟨a,b,_⟩:=xhd z;exact⟨by rw[YB,a,JF],by rw[YB,b,JF],rfl⟩
   .exact last z
  | _=>exact last e
structure XC (K:Frag) (C:Addr):Prop where
 over:xmq K C=true
 hd:hasDictIn K C=true
 sa:findIn K (.ref C) "__setattr__"=some (some (.builtin "object.__setattr__"))
 ga:findIn K (.ref C) "__getattribute__"=some (some (.builtin "BaseException.__getattribute__"))
 gh:findIn K (.ref C) "__getattr__"=some none
 ca:findIn K (.ref C) "__class__"=some (some (.builtin "object.__class__"))
 cg:specialIn K (.builtin "object.__class__") "__get__"=some (some (.builtin "getset_descriptor.__get__"))
 ct:takesIn K (.builtin "object.__class__")=some true
section
variable {prog:Program}{w:World}{A:Around}{E:Value->Shared->Prop}{s:Shared}{K:Frag}{x C dx:Addr}{ox:Obj}{od:Option Obj}{name:Str}{v:Value}{R:Result->Shared->Prop}
theorem XC.mro (c:XC K C):∃ cd,clsIn K C=some cd/\xfa cd.mro=true/\cd.hasDict=true:=by
 obtain⟨cd,h1,h2⟩:=any_some c.over;obtain⟨cd',h3,h4⟩:=any_some c.hd;rw[h1] at h3;cases h3;exact⟨cd,h1,h2,h4⟩
theorem XC.isObj (c:XC K C):mroIn K C (.type "object")=some true:=by
 obtain⟨cd,h1,h2,_⟩:=c.mro;obtain⟨a,_,b⟩:=xhd h2;unfold mroIn;rw[h1,Q0,if_neg (by rw[b]; decide),a]
theorem XC.isExc (c:XC K C):mroIn K C (.type "BaseException")=some true:=by
 obtain⟨cd,h1,h2,_⟩:=c.mro;obtain⟨_,a,b⟩:=xhd h2;unfold mroIn;rw[h1,Q0,if_neg (by rw[b]; decide),a]
theorem xrs {tk:Tok} (X:K.In s.heap) (c:XC K C) (I:InstAt s.heap x ox C od) (ha:findIn K (.ref C) name=some none)
    (h:wpAny (model prog w) A.in1 (storeInOwnDict (.ref x) (.ref C) (.str name tk) name v false)
      (fun fin s'=>match fin with|.done f=>R (.ok f) s'|.again c'=>c'.quiet=true/\codeAny (model prog w) A c' R s') (fun e s'=>R (.error e) s') s) :
    codeAny (model prog w) A (.call (.builtin "object.__setattr__") ⟨[.ref x,.str name tk,v],[]⟩) R s:=by
  have SF:=PySem.F.store_object;obtain⟨cd,hc,hl,_⟩:=c.mro;have sub:Looks (model prog w) s.heap (isInstance (.ref x) (.type "object")) true:=I.type.andThen (looks_mroIn X c.isObj);refine codeAny_call_builtin SF.slot.plain SF.entry (@check_slot (model prog w) _ _ s "object.__setattr__" "object" "__setattr__" (.ref x) [.str name tk,v] [] _ SF.kind SF.split sub (SF.args (.ref x) (.str name tk) v) ?_);have hm:Looks (model prog w) s.heap (mroOf (.ref C)) cd.mro:=(looks_clsIn X hc).andThen .now;rw[osa_eq,refuse_eq];refine Zc (Zc (I.type.here (Zc (hm.here ?_))));rw[xjp _ hl];refine Zm (Zc (I.type.here (Zc ((looks_findIn X ha).here (Zc ((Looks.now (a:=(none:Option Value))).here ?_))))));exact h
theorem xww (X:K.In s.heap) (c:XC K C) (hx:s.heap.get? x=some ox) (hc:ox.cls=.ref C) (ho:ox.dict=some dx) {Q:Option Addr->Shared->Prop} (h:Q (some dx) s) :
    wpAny (model prog w) A (ownDictForStores (.ref x)) Q E s:=by
  obtain⟨cd,h1,_,h2⟩:=c.mro;unfold ownDictForStores instanceDict;refine Zc (Qj hx ?_);rw[hc];refine Zc ((looks_clsIn X h1).here ?_);rw[h2,ho];exact Zm h
theorem xue {ns:List Str}{mA:Str->Option Value}{Q:Unit->Shared->Prop} (X:K.In s.heap) (c:XC K C) (hx:s.heap.get? x=some ox) (hc:ox.cls=.ref C) (hn:notCls ox=true) (ho:ox.dict=some dx) (hm:s.heap.Ns1 dx mA)
    (ha:findIn K (.ref C) name=some none) (hw:YH mA ns) (hz:ns.length<=sizeLine)
    (h:∀ h',h'.Ns1 dx (fun y=>if y=name then some v else mA y)->ZK dx s.heap h'->Q () { s with heap:=h',toks:=s.toks+2 }) :
    wpAny (model prog w) A (setAttr (.ref x) name v) Q E s:=by
  obtain⟨o1,_,_,g1,_⟩:=id hm;have I:InstAt s.heap x ox C (some o1):=⟨hx,hc,hn,by rw[ho]; exact g1⟩
  refine set_plain X I c.sa (xrs (s:={ s with toks:=s.toks+1 }) X c I ha ?_);refine Zc (Zm (Zc (xww (s:={ s with toks:=s.toks+1 }) X c hx hc ho ?_)));refine Zc (Zm (Zc ?_));refine wpAny_nsSet1 (s:={ s with toks:=s.toks+1 }) hm fun h' n2 s2=>?_;obtain⟨oD,eD,pD,gD,dD,cD⟩:=n2.count (YH.cons name v hw);refine Zc (wpAny_lookBehind gD (by rw[dD]; exact pastItsLine_dict (Z8 cD (by rw[ZI]; omega))) ?_);exact Zm (h _ n2 s2)
theorem xux {Q:Unit->Shared->Prop} (X:K.In s.heap) (c:XC K C) (hx:s.heap.get? x=some ox) (hc:ox.cls=.ref C) (hn:notCls ox=true) (ho:ox.dict=none) (hf:ox.isFreed=false)
    (ha:findIn K (.ref C) name=some none)
    (h:∀ h',h'.get? x=some { ox with dict:=some s.heap.objs.size }->h'.Ns1 s.heap.objs.size (fun y=>if y=name then some v else none) ->
      (∀ b o,b≠x->s.heap.get? b=some o->h'.get? b=some o)->s.heap.objs.size<=h'.objs.size->Q () { s with heap:=h',toks:=s.toks+2 }) :
    wpAny (model prog w) A (setAttr (.ref x) name v) Q E s:=by
  obtain⟨cd,h1,_,h2⟩:=c.mro;have I:InstAt s.heap x ox C none:=⟨hx,hc,hn,by rw[ho]; trivial⟩
  refine set_plain X I c.sa (xrs (s:={ s with toks:=s.toks+1 }) X c I ha ?_);refine Zc (Zm (Zc ?_));unfold ownDictForStores instanceDict;refine Zc (Qj (s:={ s with toks:=s.toks+1 }) hx ?_);rw[hc];refine Zc ((looks_clsIn X h1).here (s:={ s with toks:=s.toks+1 }) ?_);rw[h2,ho,if_neg (by simp)];obtain⟨oc,odi,oda,osl⟩:=ox
  dsimp only at hc ho
  subst hc ho;have hx1:(s.heap.push { cls:=.type "dict",data:=.dict #[] }).get? x=some ⟨.ref C,none,oda,osl⟩:=Zi _ hx;have nx:x≠s.heap.objs.size:=ZH (Zq hx);have key:wpAny (model prog w) A.in1 (do let d <- alloc { cls:=.type "dict",data:=.dict #[] }; update x (fun o=>{ o with dict:=some d }); dictMade (.ref C) x d)
      (fun a s'=>wpAny (model prog w) A.in1 (match a with|some d=>storeInDict d (.str name s.toks) name v|none=>noDictFor (.ref x) (.ref C) name false)
        (fun fin s'=>match fin with
          | .done f=>(match (Except.ok f:Result) with|.ok (.ret _)=>Q () s'|.ok _=>False|.error e=>E e s')
          | .again c'=>c'.quiet=true/\codeAny (model prog w) A c' (fun r s'=>match r with|.ok (.ret _)=>Q () s'|.ok _=>False|.error e=>E e s') s')
        (fun e s'=>E e s') s') (fun e s'=>E e s') { s with toks:=s.toks+1 }:=by
    refine Zc (wpAny_alloc' ?_);refine Zc (wpAny_update' hx1 ?_);refine Zm ?_
    dsimp only
    have g2:((s.heap.push { cls:=.type "dict",data:=.dict #[] }).update x fun o=>{ o with dict:=some s.heap.objs.size }).get? s.heap.objs.size=some { cls:=.type "dict",data:=.dict #[] } :=
      (Heap.get?_update_ne _ _ _ _ nx.symm).trans (Heap.get?_push_at rfl rfl)
    have n2:((s.heap.push { cls:=.type "dict",data:=.dict #[] }).update x fun o=>{ o with dict:=some s.heap.objs.size }).Ns s.heap.objs.size (fun _=>none) :=
      ⟨_,#[],_,g2,rfl,fun e he=>absurd he (by simp),fun _=>rfl⟩
    unfold storeInDict newKeyGuard;refine Zc (Zm (Zc (wpAny_nsSet1 (Heap.Ns1.of_empty n2) fun h' n3 s3=>?_)));obtain⟨oD,eD,pD,gD,dD,cD⟩:=n3.count (Within.cons name v Within.nil);refine Zc (wpAny_lookBehind gD (by rw[dD]; exact pastItsLine_dict (Z8 cD (by rw[ZI,Qc,YY]; omega))) ?_);refine Zm (h h' ?_ n3 (fun b o bx hb=>?_) ?_)
    . refine (s3.2 x nx).trans (ZM _ hx1 ?_)
      cases oda<;>first|rfl|exact hf
    . exact (s3.2 b (ZH (Zq hb))).trans ((Heap.get?_update_ne _ _ _ _ bx).trans (Zi _ hb))
    . rw[s3.1,Heap.size_after_update,Wa]
      exact QS _
  cases oda<;>first|exact key|cases hn
theorem xtr (v:Value):bindSpecial (.builtin "BaseException.__getattribute__") v=pure (.builtin "BaseException.__getattribute__",[v]):=by
 have f:=PySem.F.attr_ValueError.ga.bind v;exact f
theorem xqs:plainId "BaseException.__getattribute__"=true:=PySem.F.attr_ValueError.ga.plain
theorem xn7 {Q:Value->Shared->Prop}{expr fill:Bool}{tk:Tok} (X:K.In s.heap) (c:XC K C) (I:InstAt s.heap x ox C od)
    (h:wpAny (model prog w) A.in1 (Builtin.«object.__getattribute__» ⟨[.ref x,.str name tk],[]⟩)
      (fun fin s'=>match fin with|.done (.ret v)=>wpAny (model prog w) A (handedOut v) Q E s'|_=>False) (fun _ _=>False) s) :
    wpAny (model prog w) A (getAttrBy (.ref x) (.str name tk) fill expr) Q E s:=by
  obtain⟨hh,g,d,t,os⟩:=s;have L0:=I.type (M:=model prog w);have L1:=looks_findIn (M:=model prog w) X c.ga;have L2:=looks_findIn (M:=model prog w) X c.gh;have sub:Looks (model prog w) hh (isInstance (.ref x) (.type "BaseException")) true:=I.type.andThen (looks_mroIn X c.isExc);have f2:(onTheHeap (Zo C)&&Ym "BaseException.__getattribute__" == Ym "object.__getattribute__")=false:=by
    rw[show (Ym "BaseException.__getattribute__" == Ym "object.__getattribute__")=false from by decide +kernel]; rfl
  have f3:(expr&&onTheHeap (Ym "BaseException.__getattribute__"))=false:=by cases expr<;>rfl
  unfold getAttrBy;refine J5 (Zc (L0.at (Zc (L1.at ?_))))
  dsimp only
  rw[f2];simp only[Jh,if_false];unfold getAttrByItsOwn hookBefore;refine Zc (L2.at (Zc (Qu (J5 ?_))));unfold callGetattribute;rw[f3];simp only[Jh,if_false];unfold boundAndCalled;rw[xtr];refine Zc (Zm (Q5 (codeAny_call_builtin xqs PySem.F.entry_bexc_ga
    (@check_slot (model prog w) _ _ ⟨hh,g,d,t,os⟩ "BaseException.__getattribute__" "BaseException" "__getattribute__" (.ref x) [.str name tk] [] _ (by decide +kernel) (by decide +kernel) sub (PySem.F.args_bexc_ga _ _) ?_))))
  refine ZQ h (fun fin s' z=>?_) fun e s' z=>z.elim;rcases fin with (_|_|_|_)|_<;>first|exact z|exact z.elim
theorem xv1 {Q:Value->Shared->Prop}{expr:Bool} (X:K.In s.heap) (c:XC K C) (hx:s.heap.get? x=some ox) (hc:ox.cls=.ref C) (hn:notCls ox=true) (ho:ox.dict=some dx) {o1:Obj} (g1:s.heap.get? dx=some o1) (hl:lookIn name o1=some (some v))
    (ha:findIn K (.ref C) name=some none) (hv:handedIn v=true) (h:Q v { s with toks:=s.toks+1 }) :
    wpAny (model prog w) A (getAttr (.ref x) name expr) Q E s:=by
  have I:InstAt s.heap x ox C (some o1):=⟨hx,hc,hn,by rw[ho]; exact g1⟩
  have hf:findObj K C (some o1) name=some (.value v):=findObj_own c.hd ha rfl hl;unfold getAttr;refine Zc (wpAny_mkText ?_);refine xn7 (s:={ s with toks:=s.toks+1 }) X c I ?_;have L0:=I.type (M:=model prog w);have L1:=looks_find (M:=model prog w) X I hf;obtain⟨hh,g,d,t,os⟩:=s;refine Zc (Zm (Zc (Zm (Zc (L0.at (Zc (L1.at ?_)))))));refine Zm ?_;show wpAny _ _ (handedOut v) _ _ _;rw[handedOut_of hv];exact Zm h
theorem xqa {Q:Option Value->Shared->Prop} (X:K.In s.heap) (c:XC K C) (I:InstAt s.heap x ox C od) (h:Q (some (.ref C)) { s with toks:=s.toks+1 }) :
    wpAny (model prog w) A (getAttr? (.ref x) "__class__") Q E s:=by
  obtain⟨cd,h1,_,h2⟩:=c.mro;have hf:findObj K C od "__class__"=some (.bind (.builtin "getset_descriptor.__get__") (.builtin "object.__class__")):=by
    unfold findObj;rw[h1,Q0,c.ca,Q0];simp[c.cg,c.ct]
  unfold getAttr? getAttrBy?;refine Zc (wpAny_mkText (Zc (Qu ?_)));refine xn7 (s:={ s with toks:=s.toks+1 }) X c I ?_;have L0:=I.type (M:=model prog w);have L1:=looks_find (M:=model prog w) X I hf;refine Zc (Zm (Zc (Zm (Zc (L0.here (s:={ s with toks:=s.toks+1 }) (Zc (L1.here (s:={ s with toks:=s.toks+1 }) ?_)))))));show wpAny _ _ (holding [_] (call _ [_,.ref x,.ref C])>>=ret) _ _ _;refine Zc (J5 (Q5 (class_get (s:={ s with toks:=s.toks+1 }) (ox:=ox) (od:=od) X I c.isObj ?_)));refine Zm ?_;show wpAny _ _ (handedOut (.ref C)) _ _ _;exact Zm (Zm h)
end
end XL
namespace XL
open PySem
theorem xqc {x y:Str}{v:Value} (hx:v.isStr x=true) (n:y≠x):v.isStr y=false:=by
 cases v<;>simp_all[Value.isStr];exact fun z=>n z.symm
theorem xho {name y:Str} (n:y≠name):∀(l:List DictEntry) (i:Nat),l.findIdx? (·.key.isStr name)=some i->(l.eraseIdx i).find? (·.key.isStr y)=l.find? (·.key.isStr y)
 | [],i,h=>by simp at h
 | e::r,i,h=>by
  rw[List.findIdx?_cons] at h;by_cases q:e.key.isStr name=true
  .rw [if_pos q] at h;cases h;have z:=xqc q n;simp[z]
  .rw [if_neg q] at h;cases hi:r.findIdx? (·.key.isStr name) with
   | none=>rw[hi] at h; cases h
   | some j =>
    rw[hi] at h;cases h;have ih:=xho n r j hi;simp only[List.eraseIdx_cons_succ,Yl];split
    .rfl
    .exact ih
section
variable {M:Model}{A:Around}{E:Value->Shared->Prop}{s:Shared}{env:Env}
theorem xti {a:Addr}{m:Str->Option Value}{name:Str}{Q:Bool->Shared->Prop} (hn:s.heap.Ns a m)
    (k:∀ h' m',h'.Ns a m'->(∀ y,y≠name->m' y=m y)->ZK a s.heap h'->Q (m name).isSome { s with heap:=h' }):wpAny M A (nsDel a name) Q E s:=by
  obtain⟨o,es,ep,ho,hd,hk,hm⟩:=id hn;have nor:es.any (·.refKey)=false:=by
    rw[Array.any_eq_false'];intro e he;obtain⟨n,t,h⟩:=hk e he;simp[DictEntry.refKey,h]
  have some_eq:(m name).isSome=es.any (·.key.isStr name):=by
    rw[<- hm name];simp only[nsFind,findBy,JL];rw[ZU];simp only[Array.find?_isSome,Array.any_eq_true];constructor
    . rintro ⟨z,hz,hp⟩
      obtain⟨i,hi,rfl⟩:=Array.mem_iff_getElem.mp hz;exact⟨i,hi,hp⟩
    . rintro ⟨i,hi,hp⟩
      exact⟨_,Array.getElem_mem hi,hp⟩
  have has:nsHas name o=pure (es.any (·.key.isStr name)):=by
    rw[nsHas_eq];unfold nsHasByArray;rw[hd];show (if (es.any fun z=>z.key.isStr name)=true then _ else _)=_;generalize (es.any fun z=>z.key.isStr name)=b;cases b<;>simp[nor]
  unfold nsDel;refine Zc (Qj ho ?_);rw[has];refine Zc (Zm ?_);rw[<- some_eq];cases q:(m name).isSome
  . have z:=k s.heap m hn (fun _ _=>rfl) (.refl ..)
    rw[q] at z;exact Zm z
  . refine Zc (wpAny_updatePart ho (Zm ?_))
    have key:∃ m',(s.heap.update a (Obj.dropName name)).Ns a m'/\∀ y,y≠name->m' y=m y:=by
      obtain⟨cl,d,dt,sl⟩:=o;subst hd;cases hi:es.findIdx? (·.key.isStr name) with
      | none =>
        exact⟨m,⟨_,_,ep,ZM _ ho (by simp only[QH,Qe,hi]<;>rfl),(by simp only[QH,Qe,hi]<;>rfl),hk,hm⟩,fun _ _=>rfl⟩
      | some i =>
        refine⟨_,⟨_,_,ep+1,ZM _ ho (by simp only[QH,Qe,hi]<;>rfl),(by simp only[QH,Qe,hi]<;>rfl),hk.erase i,fun _=>rfl⟩,fun y hy=>?_⟩;rw[<- hm y];obtain⟨l⟩:=es;have hi':l.findIdx? (·.key.isStr name)=some i:=by simpa using hi
        have z:=xho hy l i hi';simp only[nsFind,findBy];have il:i<l.length:=by
          have:=List.findIdx?_eq_some_iff_findIdx_eq.mp hi';exact this.1
        have e1:(Array.mk l).eraseIdxIfInBounds i=Array.mk (l.eraseIdx i):=by
          simp[Array.eraseIdxIfInBounds,il]
        rw[e1];simp only[List.find?_toArray];rw[z]
    obtain⟨m',n',e'⟩:=key;have z:=k _ m' n' e' (ZK.update ..);rw[q] at z;exact z
theorem xpg {n:Str}{pos:Pos}{m:Str->Option Value}{Q:Unit->Shared->Prop} (hl:env.kindOf n=some .local) (hn:s.heap.Ns env.locals m)
    (hp:(env.scope.kind == .class||(env.scope.kind == .module&&env.locals != env.globals))=false)
    (h:∀ h' m',h'.Ns env.locals m'->(∀ y,y≠n->m' y=m y)->ZK env.locals s.heap h'->Q () { s with heap:=h',toks:=s.toks+1 }) :
    wpAny M A (do bindName env n .none; unbindBehindTheSuite env n pos) Q E s:=by
  refine Zc (wpAny_bindName (wpAny_storeName_local hl hn (fun h1 n1 s1=>?_) hp));unfold unbindBehindTheSuite;refine wpAny_onRaise ?_;unfold unbindName;refine Zc (wpAny_point (Zc ?_));unfold deleteName;simp only[hl,hp];rw[if_neg (by decide)];refine Zc (xti n1 fun h2 m2 n2 e2 s2=>?_);simp only[if_true,Option.isSome_some,Bool.not_true,Jh,if_false];refine Zm (wpAny_point (h h2 m2 n2 (fun y hy=>?_) (s1.trans s2)));rw[e2 y hy,if_neg hy]
end
end XL
namespace L2
open PySem PySem.Spec PyProof.Rows XL
variable {q0:Bool}
def XN (e C:Addr) (od:Option Addr):HO:=.ext fun h=>Xat h e (.ref C) od none
def XO (e C:Addr) (od:Option Addr):HO:=.ext fun h=>∃ ox vs,h.get? e=some ox/\ox.cls=.ref C/\ox.dict=od/\ox.data=.fields vs
def XD (dx:Addr) (fs:List (Str × V)):HO:=.ext fun h=>fs.length<=1000/\∃ mA,h.Ns1 dx mA/\(∀ f,RelO (fs.lookup f) (mA f))/\YH mA (fs.map (·.1))
section
variable {P:Program}{w:World}{H:Hp}{h:Heap}{e C dx:Addr}{od:Option Addr}{fs:List (Str × V)}
theorem xrr (x:Xat h e (.ref C) od none):xan P w H h e (XN e C od):=by
 refine⟨x,?_,fun h1 h2 z k=>?_⟩
 .obtain ⟨oe,_,g,_⟩:=x;exact⟨oe,g⟩
 .obtain ⟨oe,vs,g,c,o,d,sz,y⟩:=z;rcases y with y|⟨T,_,_,z,_⟩
  .exact ⟨oe,vs,k oe g,c,o,d,sz,.inl y⟩
  .cases z
theorem xr0 (x:∃ ox vs,h.get? e=some ox/\ox.cls=.ref C/\ox.dict=od/\ox.data=.fields vs):xan P w H h e (XO e C od):=by
 refine⟨x,?_,fun h1 h2 z k=>?_⟩
 .obtain ⟨oe,_,g,_⟩:=x;exact⟨oe,g⟩
 .obtain ⟨oe,vs,g,c,o,d⟩:=z;exact⟨oe,vs,k oe g,c,o,d⟩
theorem xoc {tb:Option Addr} (x:Xat h e (.ref C) od tb):∃ ox vs,h.get? e=some ox/\ox.cls=.ref C/\ox.dict=od/\ox.data=.fields vs:=by
 obtain⟨oe,vs,g,c,o,d,_⟩:=x;exact⟨oe,vs,g,c,o,d⟩
theorem xvd {h1 h2:Heap}{m:Str->Option Value} (n:h1.Ns1 dx m) (k:∀ o,h1.get? dx=some o->h2.get? dx=some o):h2.Ns1 dx m:=by
 obtain⟨o,es,ep,g,r⟩:=n;exact⟨o,es,ep,k o g,r⟩
theorem xrp (hl:fs.length<=1000) {mA:Str->Option Value} (n:h.Ns1 dx mA) (r:∀ f,RelO (fs.lookup f) (mA f)) (wi:YH mA (fs.map (·.1))):xan P w H h dx (XD dx fs):=by
 refine⟨⟨hl,mA,n,r,wi⟩,?_,fun h1 h2 z k=>?_⟩
 .obtain ⟨o,es,ep,g,_⟩:=n;exact⟨o,g⟩
 .obtain ⟨hl,mA,n,r,wi⟩:=z;exact⟨hl,mA,xvd n k,r,wi⟩
end
def CXo (P:Program) (w:World):CXT:=fun outer H s E u s'=>∃ e C od H' T,u=.ref e/\s'.os=s.os/\AllBare s'.gens/\Un (frs outer) [] H H' s.heap s'.heap/\HOk P w H' s'.heap /\
 Xat s'.heap e (.ref C) od (some T)/\H' e=some (XO e C od)/\s.heap.objs.size<=T/\H' T=none/\E e C H'
def Tbs (X:Cx) (pins:List (Addr × Obj)) (H:Hp) (tb:Option Addr):Prop:=∀ T,tb=some T->X.s₀.heap.objs.size<=T/\H T=none/\T≠X.env.locals/\(∀ x c,X.env.cells.lookup x=some c->c≠T)/\∀ p∈X.pn++pins,p.1≠T
def xgn (X:Cx) (E:St->XK):Prop:=∀(pins:List (Addr × Obj)) (Z:St) (H:Hp) (s:Shared) (e C:Addr) (od tb:Option Addr),Inv X pins Z H s->Xat s.heap e (.ref C) od tb->H e=some (XO e C od) ->
 Tbs X pins H tb->E Z e C H->X.xe (.ref e) s
section
variable {X:Cx}{pins:List (Addr × Obj)}{Z:St}{H:Hp}{s:Shared}{e C:Addr}{od tb:Option Addr}
theorem Inv.size_lt (I:Inv X pins Z H s) {b:Addr} (h:s.heap.objs.size<=b):H b=none/\b≠X.env.locals/\(∀ x c,X.env.cells.lookup x=some c->c≠b)/\∀ p∈X.pn++pins,p.1≠b:=by
 refine⟨I.hok.fresh h,fun z=>?_,fun x c hc z=>?_,fun p hp z=>?_⟩
 .rw [z] at h;exact absurd I.lt (Wq.mpr h)
 .obtain ⟨v,o,ho,_⟩:=I.cell x c hc;rw[z] at ho;exact absurd (Zq ho) (Wq.mpr h)
 .have g:=(I.pin p hp).1;rw[z] at g;exact absurd (Zq g) (Wq.mpr h)
theorem Inv.noted {h':Heap}{T:Addr} (I:Inv X pins Z H s) (he:H e=some (XO e C od)) (tbs:Tbs X pins H tb) (st:Stp (frs X.stack) e tb s.heap h') (x:Xat h' e (.ref C) od (some T)) :
    Inv X pins Z H { s with heap:=h' }:=by
  have neE:∀ b,H b=none->b≠e:=fun b n z=>by rw[z,he] at n; cases n
  have neT:∀ b u,H b=some u->tb≠some b:=fun b u hb z=>by rw[(tbs b z).2.1] at hb; cases hb
  have nfr:∀ b u,H b=some u->b∉frs X.stack:=fun b u hb z=>by rw[I.stkFree b z] at hb; cases hb
  have kp:∀ b u o,H b=some u->b≠e->s.heap.get? b=some o->h'.get? b=some o:=fun b u o hb ne g=>st.keep b o g ne (neT b u hb) (nfr b u hb);have un:Un (frs X.stack) tb.toList H H s.heap h':=by
    refine⟨fun b o g n hb hx=>st.keep b o g (neE b n) (fun z=>hx (by rw[z]; simp)) hb,fun b o g n hb hx=>st.slot b o g hb,fun b o g n hx=>n,fun b o g hx=>?_,fun b xs z=>z,fun b o u z=>z,fun b ps z=>⟨#[],by rw[z]; simp⟩⟩;by_cases b1:b=e
    . subst b1
      obtain⟨oe,_,ge,_⟩:=x;exact⟨oe,ge⟩
    . by_cases b2:b∈frs X.stack
      . obtain⟨sl,q⟩:=st.slot b o g b2
        exact⟨_,q⟩
      . exact⟨o,st.keep b o g b1 (fun z=>hx (by rw[z]; simp)) b2⟩
  have hok:HOk X.prog X.w H h':=fun b u hb=>by
    by_cases b1:b=e
    . subst b1
      rw[he] at hb;cases hb;exact xr0 (xoc x)
    . refine (I.hok b u hb).stay (fun c v hc q=>?_) (fun c q=>q) fun c xs q=>q
      rcases hc with rfl|hc
      . exact kp c u v hb b1 q
      . exact kp c _ v hc (fun z=>by rw[z,he] at hc; cases hc) q
  refine I.call (g':=s.gens) (d':=s.drawn) (t':=s.toks) (ch:=tb.toList) un hok I.bare fun b hb=>?_;have z:tb=some b:=by
    cases tb with
    | none=>simp at hb
    | some T'=>simp at hb; rw[hb]
  obtain⟨a1,_,a3,a4,a5⟩:=tbs b z;exact⟨.inr a1,a3,a4,a5⟩
theorem xgn.pass {E:St->XK} (t:xgn X E):xd5 (CXo X.prog X.w) X E:=fun pins Z H s u s' I h=>by
 obtain⟨e,C,od,H',T,rfl,os,bare,un,hok,x,he,sT,hT,q⟩:=h;have J:Inv X pins Z H' s':=I.call' os un hok bare (ch:=[]) fun b z=>absurd z (by simp);refine t pins Z H' s' e C od (some T) J x he (fun T' z=>?_) q;cases z;obtain⟨_,a,b,c⟩:=I.size_lt sT;exact⟨Z8 I.sz sT,hT,a,b,c⟩
theorem xn:xd5 (CXo X.prog X.w) X (fun _ _ _ _=>False):=fun pins Z H s u s' I h=>by
 obtain⟨e,C,od,H',T,_,_,_,_,_,_,_,_,_,q⟩:=h;exact q.elim
theorem xbd {P:Program}{w:World}{K:Zd}{mg:Str->Option Value}{base:Heap}{N:List Str}{qual:Str}{scope:Scope}{f:Addr}{cd:Value}{A:Around}{outer:List Env}{s₀:Shared}{H₀:Hp}{E:XK} :
    xgn (cxOf q0 (CXo P w) P w K mg base N qual scope f cd A outer s₀ H₀ E) (fun _=>E):=fun pins Z H s e C od tb I x he tbs q=>by
  show wpAny (model P w) _ (leaving _ (.ref e)) _ _ s;unfold leaving;refine Zc (xor (L:=s₀.heap.objs.size) I.ok.frames I.stack rfl x fun h' T st sT x'=>?_);have J:=I.noted he tbs st x';exact⟨e,C,od,H,T,rfl,J.os,J.bare,J.base,J.hok,x',he,Z8 I.sz sT,I.hok.fresh sT,q⟩
end
end L2
namespace XL
open PySem PySem.W
def xo4 (e:DictEntry):Bool:=match e.key with|.str _ _=>true|_=>false
def xg8 (K:Frag) (ns:Addr):Bool:=match K.lookup ns with
 | some ⟨_,_,.dict es _,_⟩=>es.toList.all xo4&&!(es.toList.any (·.key.isStr "__init__"))
 | _=>false
def xhn (K:Frag):List Value->Bool
  | []=>false
  | .ref a::r=>(match K.lookup a with
      | some ⟨_,_,.cls cd,_⟩=>xg8 K cd.ns&&xhn K r
      | _=>false)
  | v::r=>(v::r) == vErr
theorem xwl {K:Frag}{h:Heap}{ns:Addr} (X:K.In h) (e:xg8 K ns=true):∃ mA,h.Ns ns mA/\mA "__init__"=none:=by
 unfold xg8 at e;split at e
 .rename_i es n sl ho
  obtain⟨e1,e2⟩:=Bool.and_eq_true_iff.mp e;refine⟨_,⟨_,es,_,X _ _ ho,rfl,fun z hz=>?_,fun _=>rfl⟩,?_⟩
  .have q:=YW.mp e1 z (We.mpr hz);unfold xo4 at q;split at q
   .rename_i a b c
    exact⟨a,b,c⟩
   .cases q
  .unfold nsFind findBy;rw[<- Array.find?_toList];have z:es.toList.find? (fun e=>e.key.isStr "__init__")=none:=by
    rw[List.find?_eq_none];intro y hy q;rw[Ya,List.any_eq_false] at e2;exact e2 y hy q
   rw[z];rfl
 .cases e
theorem xmk {K:Frag}{h:Heap} (X:K.In h):∀{l:List Value},xhn K l=true->OwnTail h vErr l
 | [],e=>by cases e
 | v::r,e=>by
  have last:((v::r:List Value) == vErr)=true->OwnTail h vErr (v::r):=fun z=>by
   rw[Qx z];exact .base
  cases v with
  | ref a =>
   unfold xhn at e;split at e
   .rename_i c d cd sl ho
    obtain⟨e1,e2⟩:=Bool.and_eq_true_iff.mp e;obtain⟨mA,n,z⟩:=xwl X e1;exact .own (X _ _ ho) n z (xmk X e2)
   .cases e
  | _=>exact last e
def xem (K:Frag) (C:Addr):Bool:=match K.lookup C with
 | some ⟨.type "type",_,.cls cd,sl⟩=>(match cd.mro,sl.toList with
  | .ref C'::bm,[_,_,_,_,some (.builtin i),_]=>C' == C&&!cd.hasDel&&i == "ValueError.__new__"&&xhn K bm
  | _,_=>false)
 | _=>false
theorem xid {K:Frag}{h:Heap}{C:Addr} (X:K.In h) (q:xem K C=true):∃ nm qn N bs bm hz sn sub ab col dd k0 k1 k2 k3 k5,
    h.get? C=some (excClassObj nm qn C N bs bm hz sn sub ab col dd k0 k1 k2 k3 k5 "ValueError.__new__")/\OwnTail h vErr bm:=by
  unfold xem at q;split at q
  . rename_i dd cd sl ho
    split at q
    . rename_i C' bm k0 k1 k2 k3 n k5 hm hs
      simp only[Zs,beq_iff_eq,Ya] at q;obtain⟨⟨⟨rfl,hdel⟩,rfl⟩,ht⟩:=q;obtain⟨nm,bs,mro,ns,qn,hd,sn,sub,ab,col,del⟩:=cd
      dsimp only at hm hdel
      subst hm hdel;have hsl:sl=#[k0,k1,k2,k3,some (.builtin "ValueError.__new__"),k5]:=by
        obtain⟨l⟩:=sl;simp only at hs;rw[hs]
      subst hsl;exact⟨nm,qn,ns,bs,bm,hd,sn,sub,ab,col,dd,k0,k1,k2,k3,k5,X _ _ ho,xmk X ht⟩
    . cases q
  . cases q
end XL
namespace L2
open PySem PySem.Spec PyProof.Rows XL
variable {q0:Bool}
section
variable {X:Cx}{pins:List (Addr × Obj)}{Z:St}{H:Hp}{s:Shared}{a C dx:Addr}{od:Option Addr}{fs:List (Str × V)}{f:Str}{v y:V}{u:Value}{A:Around}{E:Value->Shared->Prop}
theorem xkj (I:Inv X pins Z H s) (e:H a=some (XN a C od)):Xat s.heap a (.ref C) od none:=(I.hok a _ e).1
theorem xrq (I:Inv X pins Z H s) (e:H a=some (XO a C od)):∃ ox vs,s.heap.get? a=some ox/\ox.cls=.ref C/\ox.dict=od/\ox.data=.fields vs:=(I.hok a _ e).1
theorem xkg (I:Inv X pins Z H s) (e:H dx=some (XD dx fs)):fs.length<=1000/\∃ mA,s.heap.Ns1 dx mA/\(∀ f,RelO (fs.lookup f) (mA f))/\YH mA (fs.map (·.1)):=(I.hok dx _ e).1
theorem xeg {o:Obj}{vs:Array Value} (d:o.data=.fields vs):PySem.W.notCls o=true:=by
 unfold PySem.W.notCls;rw[d]
theorem xq7 {Q:Unit->Shared->Prop} (I:Inv X pins Z H s) (e:H a=some (XN a C none)) (c:XC X.K C) (n:ZA X.K (.ref C) f=some none) (ry:RelV y u)
    (h:∀ dx s',H dx=none->Inv X pins Z (upd (upd H dx (XD dx [(f,y)])) a (XN a C (some dx))) s'->Q () s'):wpAny (model X.prog X.w) A (setAttr (.ref a) f u) Q E s:=by
  obtain⟨oe,vs,g,ce,oo,de,sz,tb⟩:=xkj I e;refine xux I.kIn c g ce (xeg de) oo (YT de) n fun h' g' n' k sz'=>h s.heap.objs.size _ (I.hok.fresh (Zl _)) ?_;have hN:H s.heap.objs.size=none:=I.hok.fresh (Zl _);have nad:a≠s.heap.objs.size:=fun z=>by rw[z,hN] at e; cases e
  have na:∀ b,H b=none->b≠a:=fun b nb z=>by rw[z,e] at nb; cases nb
  have nd:∀ b o,s.heap.get? b=some o->b≠s.heap.objs.size:=fun b o gb=>ZH (Zq gb);have nd':∀ b u,H b=some u->b≠s.heap.objs.size:=fun b u hb z=>by rw[z,hN] at hb; cases hb
  have at1:∀ b,b≠a->b≠s.heap.objs.size->upd (upd H s.heap.objs.size (XD s.heap.objs.size [(f,y)])) a (XN a C (some s.heap.objs.size)) b=H b:=fun b b1 b2=>by rw[xg b1,xg b2]
  have xnew:Xat h' a (.ref C) (some s.heap.objs.size) none:=⟨_,vs,g',ce,rfl,de,sz,by
    rcases tb with t|⟨T,_,_,z,_⟩
    . exact .inl t
    . cases z⟩
  have own1:∀ b c,H c=some (.own b)->c≠a:=fun b c hc z=>by rw[z,e] at hc; cases hc
  have tup1:∀ c xs,H c=some (.tup xs)->c≠a:=fun c xs hc z=>by rw[z,e] at hc; cases hc
  refine I.un ⟨fun b o gb nb _ _=>k b o (na b nb) gb,fun b o gb nb _ _=>⟨o.slots,k b o (na b nb) gb⟩,fun b o gb nb _=>?_,fun b o gb _=>?_,fun b xs z=>?_,fun b o w z=>?_,fun b ps z=>⟨#[],?_⟩⟩ fun b w hb=>?_
  . rw[at1 b (na b nb) (nd b o gb)]; exact nb
  . by_cases b1:b=a
    . exact⟨_,by rw[b1]; exact g'⟩
    . exact⟨o,k b o b1 gb⟩
  . rw[at1 b (tup1 b xs z) (nd' b _ z)]; exact z
  . rw[at1 b (fun q=>by rw[q,e] at z; cases z) (nd' b _ z)]; exact z
  . rw[at1 b (fun q=>by rw[q,e] at z; cases z) (nd' b _ z),z]; simp
  . by_cases b1:b=a
    . subst b1
      rw[xh] at hb;cases hb;exact xrr xnew
    . rw[xg b1] at hb
      by_cases b2:b=s.heap.objs.size
      . subst b2
        rw[xh] at hb;cases hb;refine xrp (by show 1<=1000; decide) n' (fun g=>?_) fun g hg=>?_
        . show RelO (Jd g [(f,y)]) (if g=f then some u else none)
          by_cases q:g=f
          . rw[if_pos q,q]
            simp only[Zz,beq_self_eq_true];exact ry
          . rw[if_neg q]
            simp only[Zz,beq_eq_false_iff_ne.mpr q];exact trivial
        . by_cases q:g=f
          . simp[q]
          . exact absurd (show (if g=f then some u else none)=none from if_neg q) hg
      . rw[xg b2] at hb
        refine (I.hok b w hb).stay (fun c v hc q=>?_) (fun c q=>?_) fun c xs q=>?_
        . rcases hc with rfl|hc
          . exact k c v b1 q
          . exact k c v (own1 b c hc) q
        . rw[at1 c (own1 b c q) (nd' c _ q)]; exact q
        . rw[at1 c (tup1 c xs q) (nd' c _ q)]; exact q
theorem xqe {Q:Unit->Shared->Prop} (I:Inv X pins Z H s) (e:H a=some (XN a C (some dx))) (ed:H dx=some (XD dx fs)) (hl:fs.length<1000) (c:XC X.K C) (n:ZA X.K (.ref C) f=some none) (ry:RelV y u)
    (h:∀ s',Inv X pins Z (upd H dx (XD dx (putF f y fs))) s'->Q () s'):wpAny (model X.prog X.w) A (setAttr (.ref a) f u) Q E s:=by
  obtain⟨oe,vs,g,ce,oo,de,sz,tb⟩:=xkj I e;obtain⟨_,mA,nm,r,wi⟩:=xkg I ed;have hz:(fs.map (·.1)).length<=sizeLine:=by rw[Za,YY]; omega
  refine xue I.kIn c g ce (xeg de) oo nm n wi hz fun h' n' sb=>h _ ?_;have hd:∃ o,h'.get? dx=some o:=let ⟨o,_,_,e',_⟩:=n'; ⟨o,e'⟩;refine I.write (x:=dx) (e:=dx) (by rw[ed]; exact Jr) (.inl rfl) (fun b q hb z=>(sb.2 b hb).trans z) hd ?_;refine xrp (Z8 (xev f y fs) hl) n' (fun g=>?_) fun g hg=>?_
  . show RelO ((putF f y fs).lookup g) (if g=f then some u else mA g)
    rw[xeu];by_cases q:g=f
    . rw[if_pos q,if_pos q]; exact ry
    . rw[if_neg q,if_neg q]; exact r g
  . by_cases q:g=f
    . rw[q]; exact (xd1 f y fs).1
    . refine (xd1 f y fs).2 g (wi g fun z=>hg ?_)
      show (if g=f then some u else mA g)=none;rw[if_neg q]; exact z
theorem xtn {b:Bool}{Q:Value->Shared->Prop} (I:Inv X pins Z H s) (e:H a=some (XO a C (some dx))) (ed:H dx=some (XD dx fs)) (c:XC X.K C) (n:ZA X.K (.ref C) f=some none) (l:fs.lookup f=some v)
    (h:∀ u s',Inv X pins Z H s'->RelV v u->Q u s'):wpAny (model X.prog X.w) A (getAttr (.ref a) f b) Q E s:=by
  obtain⟨ox,vs,g,ce,oo,de⟩:=xrq I e;obtain⟨_,mA,nm,r,wi⟩:=xkg I ed;obtain⟨u,hu,ru⟩:=RelO.some_of (v:=v) (o:=mA f) (by rw[<- l]; exact r f);obtain⟨o1,g1,hl⟩:=xjj nm;exact xv1 I.kIn c g ce (xeg de) oo g1 (by rw[hl,hu]) n (xj3 ru) (h u _ (I.tok _) ru)
end
def sXF (K:Zd) (ta tv:TE) (f:Str):TS:=fun D Z H=>tv Z H fun y H1=>ta Z H1 fun x H2=>∃ a C,x=.ref a/\XC K C/\ZA K (.ref C) f=some none /\
  ((H2 a=some (XN a C none)/\∀ dx,H2 dx=none->D.nx Z (upd (upd H2 dx (XD dx [(f,y)])) a (XN a C (some dx)))) \/
   ∃ dx fs,H2 a=some (XN a C (some dx))/\H2 dx=some (XD dx fs)/\fs.length<1000/\D.nx Z (upd H2 dx (XD dx (putF f y fs))))
inductive xwc (K:Zd) (f:Str) (x:V) (H1:Hp) (Q:VK):Prop
 | mk (a C dx fs v) (e_:x=.ref a) (r_:H1 a=some (XO a C (some dx))/\H1 dx=some (XD dx fs)/\XC K C/\ZA K (.ref C) f=some none/\fs.lookup f=some v/\Q v H1)
def tXF (K:Zd) (ta:TE) (f:Str):TE:=fun Z H Q=>ta Z H fun x H1=>xwc K f x H1 Q
section
variable {X:Cx}{o e value:Expr}{f:Str}{pos pos' tpos:Pos}{ta tv te:TE}
theorem xml (ha:PE X o ta) (hv:PE X value tv) (hs:swapsWith value (some (.Attribute o f pos')) pos.line X.env=pure false):PS X (.Assign [.Attribute o f pos'] value pos) (sXF X.K ta tv f):=by
 intro pins s Z H D I h;refine plainObj_wpAny_Assign_Attribute (thn (hv pins s Z H _ I h) fun u s1 ⟨y,H1,I1,ry,q⟩=>thn (ha pins s1 Z H1 _ I1 q) fun ov s2 ⟨x,H2,I2,rx,a,C,ex,c,n,q2⟩=>?_) hs;subst ex;obtain rfl:ov=Zo a:=rx;rcases q2 with⟨ea,q2⟩|⟨dx,fs,ea,ed,hl,q2⟩
 .exact xq7 I2 ea c n ry fun dx s3 nd I3=>⟨Z,_,I3,q2 dx nd⟩
 .exact xqe I2 ea ed hl c n ry fun s3 I3=>⟨Z,_,I3,q2⟩
theorem xmm (he:PE X e te) (hb:attributeBase e f X.env (eval e X.env)=eval e X.env):PE X (.Attribute e f pos) (tXF X.K te f):=by
 intro pins s Z H Q I h;refine xm0 hb (thn (he pins s Z H _ I h) fun u s1 ⟨x,H1,I1,rx,a,C,dx,fs,v,ex,ea,ed,c,n,l,q⟩=>?_);subst ex;obtain rfl:u=Zo a:=rx;exact xtn I1 ea ed c n l fun u' s2 I2 ru=>⟨v,H1,I2,ru,q⟩
end
structure XMk (K:Zd) (C f:Addr):Prop where
 makes:xem K C=true
 init:ZA K (.ref C) "__init__"=some (some (.ref f))
 fn:ZJ K (.ref f)=true
 kp:Jp K (.ref C)=true
def xub (C:Addr) (sp:Sp) (dvs:List V) (t:TA):TE:=fun Z H Q=>t Z H fun vs H1=>vs.length<=1000/\∀ e,H1 e=none ->
 sp (.ref e::(vs++dvs)) (upd H1 e (XN e C none)) (fun v H2=>v=.non/\Q (.ref e) H2) (fun _ _ _=>False)
def xup (K:Zd) (te:TE) (E:St->XK):TS:=fun D Z H=>te Z H fun v H1=>∃ e C od,v=.ref e/\H1 e=some (XN e C od)/\xem K C=true/\E Z e C (upd H1 e (XO e C od))
section
variable {X:Cx}{k:Nat}{f C:Addr}{fd:FuncData}{ps:List Str}{sp:Sp}{dvs:List V}{ds:List Value}{E:St->XK}{x m:Str}{p pos apos:Pos}{e o:Expr}{es:List Expr}{ta te:TE}{t:TA}
theorem xo8 {pins:List (Addr × Obj)}{Z:St}{H:Hp}{s:Shared}{Q:VK}{us:List Value}{vs:List V} (M:XMk X.K C f) (F:FnOk q0 X.prog X.w X.K X.mg X.base (CXo X.prog X.w) k f fd ps sp) (hr:Room q0 (k+1) X.A) (hb:x0 X.K fd ps ds) (hd:Vals dvs ds)
    (I:Inv X pins Z H s) (r:Vals vs us) (hl:vs.length<=1000)
    (h:∀ e,H e=none->sp (.ref e::(vs++dvs)) (upd H e (XN e C none)) (fun v H2=>v=.non/\Q (.ref e) H2) (fun _ _ _=>False)) :
    wpAny (model X.prog X.w) X.A (call (.ref C) us) (EP X pins Z Q) X.xe s:=by
  obtain⟨nm,qn,N,bs,bm,hz,sn,sub,ab,col,dd,k0,k1,k2,k3,k5,gC,T⟩:=xid I.kIn M.makes;have ty:PySem.W.typeIn X.K (.ref f)=some (.type "function"):=beq_iff_eq.mp M.fn;obtain⟨oI,gI,cI⟩:=Zj.mp (show (X.K.lookup f).map (·.cls)=some (.type "function") from ty);have lu:us.length<=sizeLine:=by
    have:=r.length;rw[<- this,YY];omega
  obtain⟨hh,gg,d,tk,os⟩:=s;refine xnd PySem.F.excBase_ValueError T gC (fun A' Q' E' s' kk q=>PySem.W.looks_findIn I.kIn M.init A' Q' E' s' kk q) (I.kIn _ _ gI) cI lu fun h' e hm se=>?_;have hn:H e=none:=I.hok.fresh se;obtain⟨t0,ge,_,_⟩:=hm.there;have xa:Xat h' e (.ref C) none none:=⟨_,_,ge,rfl,rfl,rfl,by simp,.inl ⟨rfl,rfl⟩⟩
  have I2:Inv X pins Z (upd H e (XN e C none)) ⟨h',gg,d,tk,os⟩:=I.laid (t':=tk) hm.keeps se (xrr xa);have hq:=h e hn;have r2:Vals (V.ref e::(vs++dvs)) (Zo e::(us++ds)):=.cons rfl (r.append hd);have hl2:(Zo e::us++ds).length=ps.length:=by
    have z:=r2.length;rw[F.len _ _ _ _ hq] at z;exact z.symm
  refine Q5 (Q7 (F.run _ X.stack _ _ ⟨Zo e::us,[]⟩ (Zo e::(us++ds)) _ _ (fun _ _ _=>False) (hr.make C us [])
    (I2.env0.make C us []) (hb _ (Zo e::us) I2.kIn hl2) r2 hq) fun r s' hq'=>?_)
  cases r with
  | error e'=>exact (xn pins Z _ _ e' s' I2 hq')
  | ok fl =>
    cases fl with
    | ret u =>
      obtain⟨v,H',I3,rv,ev,q3⟩:=I2.after hq';subst ev;exact⟨rv,⟨V.ref e,H',I3,rfl,q3⟩⟩
    | next=>exact J6 hq'
    | brk=>exact J6 hq'
    | cont=>exact J6 hq'
theorem xhk (M:XMk X.K C f) (F:FnOk q0 X.prog X.w X.K X.mg X.base (CXo X.prog X.w) k f fd ps sp) (hr:Room q0 (k+1) X.A) (hg:Gl X x) (hm:X.mg x=some (.ref C)) (hb:x0 X.K fd ps ds) (hd:Vals dvs ds)
    (ha:PA X (e::es) t) (hdb:(x == ("__debug__":Str))=false:=by decide) (he:starEach (e::es) X.env=(false,eval e X.env)::starEach es X.env:=by rfl) (hpl:(backTo pos (starEach es X.env)).any (·.1)=false:=by rfl) :
    PE X (.Call (.Name x p) (e::es) [] pos) (xub C sp dvs t):=by
  intro pins s Z H Q I h;refine Yh (xe6 I hg hm ?_ hdb);refine Ql (h₀:=X.base) I.ok.mod.kin M.kp (thn (ha pos pins s Z H _ I h) fun us s1 ⟨vs,H1,I1,r,hl,q⟩=>⟨I1.kIn,?_⟩) he hpl;exact xo8 M F hr hb hd I1 r hl q
theorem Inv.toXO {pins:List (Addr × Obj)}{Z:St}{H:Hp}{s:Shared}{e:Addr}{od:Option Addr} (I:Inv X pins Z H s) (h:H e=some (XN e C od)):Inv X pins Z (upd H e (XO e C od)) s:=by
 have x:=xkj I h;obtain⟨oe,_,ge,_⟩:=id x;exact I.write (x:=e) (e:=e) (t':=s.toks) (by rw[h]; exact Jr) (.inl rfl) (fun b u _ z=>z) ⟨oe,ge⟩ (xr0 (xoc x))
theorem xje {h:Heap}{bm:List Value} (T:OwnTail h vErr bm):bm.contains (.type "BaseException")=true:=T.hasType (by decide +kernel)
theorem xg7 (hh:X.A.handled=none) (tk:xgn X E) (he:PE X e te):PS X (.Raise (some e) none pos) (xup X.K te E):=by
 intro pins s Z H D I h;rw[arm_exec_Raise];refine Zc (Wk ?_);show wpAny _ _ (raiseStmt X.env (some (do let v <- eval e X.env; standAt pos; pure v)) none) _ _ s;refine xr1 hh (Zc (thn (he pins s Z H _ I h) fun v s1 ⟨x,H1,I1,rx,a,C,od,ex,ea,mk,q⟩=>Zc (Wk (Zm ?_))));subst ex;obtain rfl:v=Zo a:=rx;obtain⟨nm,qn,N,bs,bm,hz,sn,sub,ab,col,dd,k0,k1,k2,k3,k5,gC,T⟩:=xid I1.kIn mk;have x:=xkj I1 ea;exact⟨a,od,C,nm,qn,N,bs,bm,hz,sn,sub,ab,col,dd,k0,k1,k2,k3,k5,_,rfl,xje T,gC,x,tk pins Z _ s1 a C od none (I1.toXO ea) x xh (fun T' z=>by cases z) q⟩
end
end L2
namespace XL
open PySem PySem.W
section
variable {M:Model}{A:Around}{E:Value->Shared->Prop}{s:Shared}
theorem xp1 {fs:List Addr}{e T:Addr}{cls:Value}{od:Option Addr}{Q:Unit->Shared->Prop} (x:Xat s.heap e cls od (some T)) (nf:∀ b∈fs,b≠T)
    (k:∀ h',Stp fs e (some T) s.heap h'->Xat h' e cls od (some T)->Q () { s with heap:=h' }):wpAny M A (setFlight (.ref e) none) Q E s:=by
  obtain⟨oe,vs,ge,ce,oo,de,se,y⟩:=x;rcases y with⟨z,_⟩|⟨T',oT,ts,z,h1,nTe,gT,dT,h3⟩
  . cases z
  . cases z
    unfold setFlight;refine Zc (Yv ge de h1 ?_);rw[if_pos (show (Zo T != ZR)=true from by simp)];have z3:3<ts.size:=(Array.getElem?_eq_some_iff.mp h3).1;have ot:∀ b,b≠T->(s.heap.update T (YX (·.setIfInBounds 3 ((none:Option Addr).elim ZR fun f=>rawInt f)))).get? b=s.heap.get? b:=fun b hb=>Jo _ _ (ZE hb);refine QV gT dT z3 (k _ ⟨fun b o hb _ bt _=>(ot b fun q=>bt (congrArg some q.symm)).trans hb,fun b o hb bf=>⟨o.slots,(ot b (nf b bf)).trans hb⟩⟩ ?_);exact⟨oe,vs,(ot e (ZE nTe)).trans ge,ce,oo,de,se,.inr ⟨T,_,_,rfl,h1,nTe,ZM _ gT (YT (YA dT _)),YA dT _,by simp[z3]⟩⟩
variable {nm qn nm' qn':Str}{C N C' N':Addr}{bs bm bs' bm':List Value}{hz hz':Bool}{sn sn':List Str}{sub sub':List Value}{ab ab':Bool}{col col':Option Bool}{dd dd':Option Addr}{k0 k1 k2 k3 k5 j0 j1 j2 j3 j5:Option Value}{ni ni':String}
theorem xl0 {h:Heap}{g:Array GenState}{d:Drawn}{t:Nat}{os:OsState}{e:Addr}{oe:Obj}{b:Bool}{Q:Bool->Shared->Prop}
    (gC:h.get? C=some (excClassObj nm qn C N bs bm hz sn sub ab col dd k0 k1 k2 k3 k5 ni)) (gC':h.get? C'=some (excClassObj nm' qn' C' N' bs' bm' hz' sn' sub' ab' col' dd' j0 j1 j2 j3 j5 ni'))
    (ge:h.get? e=some oe) (ce:oe.cls=.ref C) (bB:bm'.contains (.type "BaseException")=true) (hm:(Zo C::bm).contains (.ref C')=b)
    (k:Q b ⟨h,g,d,t,os⟩):wpAny M A (excMatches (.ref e) (.ref C')) Q E ⟨h,g,d,t,os⟩:=by
  have mB:(Zo C'::bm').contains (.type "BaseException")=true:=by rw[YB,bB,JF]
  have nt:=tc_notTuple;unfold excMatches
  repeat (first|(with_reducible refine JZ ge ?_; rw[ce])|with_reducible refine JZ gC' ?_|(with_reducible refine Qd gC' ?_; rw[mB])|(with_reducible refine Qd gC ?_; rw[hm])|wp_step)
  cases b<;>(wp_walk; exact k)
end
end XL
namespace L2
open PySem PySem.Spec PyProof.Rows XL
variable {q0:Bool}
abbrev Cx.tryc (X:Cx) (pins:List (Addr × Obj)) (xe:Value->Shared->Prop):Cx:={ X with xe:=xe,pn:=X.pn++pins }
abbrev Cx.hand (X:Cx) (e:Addr):Cx:={ X with A:=X.A.mark (some (.ref e)),calm:=false,xe:=fun _ _=>False }
section
variable {X:Cx}{pins:List (Addr × Obj)}{Z:St}{H:Hp}{s:Shared}
theorem Cx.Ok.tryc (ok:X.Ok) (pins:List (Addr × Obj)) (xe:Value->Shared->Prop):(X.tryc pins xe).Ok :=
 ⟨ok.mod,ok.kind,ok.glob,ok.blt,ok.above,ok.inj,ok.has,ok.cab,ok.hd,ok.frames,ok.stk,ok.exf,ok.bs,ok.bsz,ok.noex,ok.exfs,ok.funs,ok.frf⟩
theorem Cx.Ok.untryc {xe:Value->Shared->Prop} (ok:(X.tryc pins xe).Ok):X.Ok :=
 ⟨ok.mod,ok.kind,ok.glob,ok.blt,ok.above,ok.inj,ok.has,ok.cab,ok.hd,ok.frames,ok.stk,ok.exf,ok.bs,ok.bsz,ok.noex,ok.exfs,ok.funs,ok.frf⟩
theorem Cx.Ok.hand (ok:X.Ok) (e:Addr):(X.hand e).Ok :=
 ⟨ok.mod,ok.kind,ok.glob,ok.blt,ok.above,ok.inj,ok.has,ok.cab,(fun z=>nomatch z),ok.frames,ok.stk,ok.exf,ok.bs,ok.bsz,ok.noex,ok.exfs,ok.funs,ok.frf⟩
theorem Inv.tryc (I:Inv X pins Z H s) (xe:Value->Shared->Prop):Inv (X.tryc pins xe) [] Z H s :=
 ⟨I.ok.tryc pins xe,I.os,I.bare,I.base,I.loc,I.cell,I.free,I.freeC,fun p hp=>I.pin p (by simpa using hp),I.hok,I.len⟩
theorem Inv.untryc {xe:Value->Shared->Prop}{pl:List (Addr × Obj)} (I:Inv (X.tryc pins xe) pl Z H s):Inv X pins Z H s :=
 ⟨I.ok.untryc,I.os,I.bare,I.base,I.loc,I.cell,I.free,I.freeC,fun p hp=>I.pin p (Yw _ hp),I.hok,I.len⟩
theorem Inv.hand (I:Inv X pins Z H s) (e:Addr):Inv (X.hand e) pins Z H s :=
 ⟨I.ok.hand e,I.os,I.bare,I.base,I.loc,I.cell,I.free,I.freeC,I.pin,I.hok,I.len⟩
theorem Inv.unhand {e:Addr} (ok:X.Ok) (I:Inv (X.hand e) pins Z H s):Inv X pins Z H s :=
 ⟨ok,I.os,I.bare,I.base,I.loc,I.cell,I.free,I.freeC,I.pin,I.hok,I.len⟩
theorem Inv.gone {h':Heap}{m m':Str->Option Value}{n:Str}{j t':Nat} (I:Inv X pins Z H s) (hN:X.N.Nodup) (hj:X.N[j]?=some n) (hl:X.env.scope.names.lookup n=some .local)
    (hm:s.heap.Ns X.env.locals m) (hv:∀(i:Nat) (x:Str) (v:V),X.N[i]?=some x->Z[i]?=some (some v)->Vis X.env.scope x->∃ u,RelV v u/\Look X.env s.heap m x u)
    (n':h'.Ns X.env.locals m') (e':∀ y,y≠n->m' y=m y) (sb:ZK X.env.locals s.heap h'):Inv X pins (Z.set j none) H { s with heap:=h',toks:=t' }:=by
  have kp:∀ b o,b≠X.env.locals->s.heap.get? b=some o->h'.get? b=some o:=fun b o nb g=>(sb.2 b nb).trans g;have neL:∀ b o,X.s₀.heap.get? b=some o->b≠X.env.locals:=fun b o e=>ZH (ZG (Zq e) I.ok.above);have trk:∀ b u,H b=some u->b≠X.env.locals:=fun b u hb z=>by rw[z,I.free] at hb; cases hb
  refine⟨I.ok,I.os,I.bare,⟨fun b o e n hb hx=>kp b o (neL b o e) (I.base.keep b o e n hb hx),fun b o e n hb hx=>?_,fun b o e n hx=>I.base.free b o e n hx,fun b o e hx=>?_,I.base.tups,I.base.frzs,I.base.tbls⟩,
    ⟨m',n',fun i x v e1 e2 e3=>?_⟩,fun x c e=>?_,I.free,I.freeC,fun p hp=>?_,fun b u hb=>?_,by rw[List.length_set]; exact I.len⟩
  . obtain⟨sl,q⟩:=I.base.slot b o e n hb hx
    exact⟨sl,kp b _ (neL b o e) q⟩
  . obtain⟨o',q⟩:=I.base.there b o e hx
    exact⟨o',kp b o' (neL b o e) q⟩
  . have nij:i≠j:=fun z=>by
      subst z;have hl2:i<Z.length:=by rw[I.len]; exact (Zf.mp hj).1
      rw[QB hl2] at e2;cases e2
    rw[JI (ZE nij)] at e2;have nx:x≠n:=fun z=>nij (xg6 hN e1 (by rw[z]; exact hj));obtain⟨u,r,l⟩:=hv i x v e1 e2 e3;refine⟨u,r,?_⟩;rcases l with⟨k,z⟩|⟨k,c,e,o,ho,hd⟩
    . exact .inl ⟨k,by rw[e' x nx]; exact z⟩
    . exact .inr ⟨k,c,e,o,kp c o (I.cne x c e) ho,hd⟩
  . obtain⟨v,o,ho,hd⟩:=I.cell x c e
    exact⟨v,o,kp c o (I.cne x c e) ho,hd⟩
  . obtain⟨e,a,ne,nf,d⟩:=I.pin p hp
    exact⟨kp p.1 p.2 ne e,a,ne,nf,d⟩
  . refine (I.hok b u hb).stay (fun c v hc q=>?_) (fun c q=>q) fun c xs q=>q
    rcases hc with rfl|hc
    . exact kp c v (trk c u hb) q
    . exact kp c v (trk c _ hc) q
end
def endH (D:Ends) (j:Nat):Ends:={ nx:=fun Z H=>D.nx (Z.set j none) H,rt:=D.rt,bk:=fun Z H=>D.bk (Z.set j none) H,ct:=fun Z H=>D.ct (Z.set j none) H }
def tTry (K:Zd) (C0:Addr) (j:Nat) (E:St->XK) (tb th:TS):TS:=fun D Z H=>tb D Z H/\∀ σ' e C H',E σ' e C H'->xem K C=true/\Wl K C (.ref C0)=some true/\th (endH D j) (σ'.set j (some (.ref e))) H'
section
variable {X:Cx}{pos np hpos:Pos}{body hbody:List Stmt}{b0:Stmt}{cx n:Str}{C0:Addr}{j:Nat}{E:St->XK}{tb th:TS}
theorem xt9 (hg:Gl X cx) (hm:X.mg cx=some (.ref C0)) (mk0:xem X.K C0=true) (hN:X.N.Nodup) (hj:X.N[j]?=some n) (hl:X.env.scope.names.lookup n=some .local) (hf:X.env.frame=some X.env.locals) (hst:X.stack=X.env::X.outer)
    (hb:∀ pins xe,xgn (X.tryc pins xe) E->PSs (X.tryc pins xe) body tb) (hh:∀ e,PSs (X.hand e) (b0::hbody) th) (hdb:(cx == ("__debug__":Str))=false:=by decide) :
    PS X (.Try body [.ExceptHandler (some (.Name cx np)) (some n) (b0::hbody) hpos] [] [] pos) (tTry X.K C0 j E tb th):=by
  intro pins s Z H D I ⟨h1,h2⟩;refine wpAny_Try_except ?_;have ok:=I.ok;have T:xgn (X.tryc pins (fun e s₁=>wpAny (model X.prog X.w) X.A (noteFrame e X.env) (fun _ s₂=>wpAny (model X.prog X.w) X.A (setFlight e none) (fun _ s₃=>wpAny (model X.prog X.w) X.A (handleBy e X.env [.ExceptHandler (some (.Name cx np)) (some n) (b0::hbody) hpos]) (SP X pins D) X.xe s₃) X.xe s₂) X.xe s₁)) E:=by
    intro pl σ' H' s' e C od tb' I' x he tbs q;have J:=I'.untryc;have tbs':Tbs X pins H' tb':=fun T z=>by
      obtain⟨a1,a2,a3,a4,a5⟩:=tbs T z;exact⟨a1,a2,a3,a4,fun p hp=>a5 p (Yw _ hp)⟩
    obtain⟨mkC,mro,hth⟩:=h2 σ' e C H' q;have fr:X.A.frames=some (X.env::X.outer):=by rw[<- hst]; exact J.ok.frames
    have ff:s'.heap.FunFrames X.base (X.env::X.outer):=by rw[<- hst]; exact J.stack
    refine xor (L:=X.env.locals) fr ff hf x fun h' T st sT x'=>?_;rw[<- hst] at st;have J2:=J.noted he tbs' st x';have fr2:X.base.objs.size<=s'.heap.objs.size:=Z8 J.ok.bsz J.sz;have ff2:h'.FunFrames X.base X.stack:=J2.stack;have nT:∀ b∈frs X.stack,b≠T:=fun b hb z=>by
      obtain⟨_,o,ho,hnf⟩:=J.stack.mem hb;rw[z] at ho;exact absurd (Zq ho) (Wq.mpr sT)
    have fresh:=J.size_lt sT;have tbs2:Tbs X pins H' (some T):=fun T' z=>by
      cases z;exact⟨Z8 J.sz sT,fresh.1,fresh.2.1,fresh.2.2.1,fresh.2.2.2⟩
    obtain⟨nm,qn,N,bs,bm,hz,sn,sub,ab,col,dd,k0,k1,k2,k3,k5,gC,TC⟩:=xid J2.kIn mkC;obtain⟨nm',qn',N',bs',bm',hz',sn',sub',ab',col',dd',j0,j1,j2,j3,j5,gC0,TC0⟩:=xid J2.kIn mk0;refine wpAny_handleBy_cons (codeAny_handlers_test (xe6 (X:=X.hand e) (J2.hand e) hg hm ?_ hdb)) (by intro z; cases z);obtain⟨oe,_,ge,ce,_⟩:=id x';have hmr:(Zo C::bm).contains (.ref C0)=true:=by
      obtain⟨cd,e1,e2⟩:=Option.bind_eq_some_iff.mp mro;have e3:(Zo C::bm)=cd.mro:=by
        unfold PySem.W.clsIn at e1;split at e1
        . rename_i c1 d1 cd1 sl1 ho
          cases e1;have z:=(J2.kIn _ _ ho).symm.trans gC;injection z with z
          injection z with _ _ z _
          injection z with z
          rw[z]
        . cases e1
      rw[e3];split at e2
      . cases e2
      . exact JD.inj e2
    refine xl0 (M:=model X.prog X.w) gC gC0 ge ce (xje TC0) hmr ?_;show codeAny _ _ _ _ _;refine codeAny_handlers_suite_as (xp1 (fs:=frs X.stack) x' nT fun h3 st3 x3=>?_);have J3:Inv X pins σ' H' { s' with heap:=h3 }:=J2.noted he tbs2 st3 x3;refine xg3 (v:=V.ref e) J3 hN hj (.inl hl) rfl (fun s4 J4=>?_) (.inr hl);refine ZQ (hh e pins s4 _ H' _ (J4.hand e) hth) (fun f s5 q5=>?_) fun _ _ z=>z.elim;have fin:∀{σ5:St}{H5:Hp}{Q:Unit->Shared->Prop},Inv (X.hand e) pins σ5 H5 s5->(∀ s6,Inv X pins (σ5.set j none) H5 s6->Q () s6) ->
        wpAny (model X.prog X.w) X.A (do bindName X.env n ZR; unbindBehindTheSuite X.env n hpos) Q X.xe s5:=fun {σ5 H5 Q} K5 kq=>by
      have K6:Inv X pins σ5 H5 s5:=Inv.unhand ok K5;obtain⟨m,hm5,hv5⟩:=K6.loc;refine xpg (show X.env.kindOf n=some .local from hl) hm5 (by simp[ok.kind]) fun h6 m6 n6 e6 s6=>kq _ (K6.gone hN hj hl hm5 hv5 n6 e6 s6)
    cases f with
    | next =>
      obtain⟨σ5,H5,K5,z⟩:=q5;exact fin K5 fun s6 K6=>⟨_,H5,K6,z⟩
    | brk =>
      obtain⟨σ5,H5,K5,z⟩:=q5;exact fin K5 fun s6 K6=>⟨_,H5,K6,z⟩
    | cont =>
      obtain⟨σ5,H5,K5,z⟩:=q5;exact fin K5 fun s6 K6=>⟨_,H5,K6,z⟩
    | ret u =>
      obtain⟨v,σ5,H5,K5,r,z⟩:=q5;exact fin K5 fun s6 K6=>⟨v,_,H5,K6,r,z⟩
  refine ZQ (hb pins _ T [] s Z H D (I.tryc _) h1) (fun f s1 q=>?_) fun u s1 q=>q;cases f with
  | next =>
    obtain⟨σ',H',J,z⟩:=q;exact QF ⟨σ',H',J.untryc,z⟩
  | brk =>
    obtain⟨σ',H',J,z⟩:=q;exact⟨σ',H',J.untryc,z⟩
  | cont =>
    obtain⟨σ',H',J,z⟩:=q;exact⟨σ',H',J.untryc,z⟩
  | ret u =>
    obtain⟨v,σ',H',J,r,z⟩:=q;exact⟨v,σ',H',J.untryc,r,z⟩
end
end L2
namespace XL
open PySem PySem.W
theorem xo6 {K:Frag}{x C:Addr} (c:XC K C):KitX K (.ref x) (.ref C) (fun h=>∃ ox od,InstAt h x ox C od) where
 ty:=fun _ _ _ ⟨_,_,I⟩=>I.type
 it:=fun _ _ X _=>by
  obtain⟨cd,hc,_,_⟩:=c.mro;unfold clsIn at hc;split at hc
  .rename_i c' d' cd' sl' ho
   intro A' Q' E' s' k q;unfold isType loadHead;exact Zc (Qj (k _ _ (X _ _ ho)) (Zm q))
  .cases hc
 ne:=fun h tp dd its n sl X htp=>by
  obtain⟨cd,hc,_,_⟩:=c.mro;refine Jg.mpr fun q=>?_;have e:C=tp:=Zo.inj (beq_iff_eq.mp q);subst e;unfold clsIn at hc;split at hc
  .rename_i c' d' cd' sl' ho
   have z:=(X _ _ ho).symm.trans htp;cases z
  .cases hc
 ca:=fun X ⟨ox,od,I⟩ k=>xqa X c I k
end XL
namespace L2
open PySem PySem.Spec PyProof.Rows XL
variable {q0:Bool}
def clsV:V->Option Value
 | .ty n=>some (.type n)
 | .ref a=>some (.ref a)
 | _=>none
theorem xhl {c:V}{u cv:Value} (e:clsV c=some cv) (r:RelV c u):u=cv:=by
 cases c<;>first|(cases e; exact r)|cases e
def xnq:List V->Option (List Value)
 | []=>some []
 | c::r=>(clsV c).bind fun a=>(xnq r).map (a::·)
theorem xjl:∀{cs:List V}{us cv:List Value},xnq cs=some cv->Vals cs us->us=cv
 | [],_,_,e,.nil=>by cases e; rfl
 | c::r,_,_,e,.cons rc rr=>by
  obtain⟨a,e1,e2⟩:=Option.bind_eq_some_iff.mp e;obtain⟨b,e3,rfl⟩:=Zj.mp e2;rw[xhl e1 rc,xjl e3 rr]
section
variable {X:Cx}{pins:List (Addr × Obj)}{Z:St}{H:Hp}{s:Shared}{A:Around}{E:Value->Shared->Prop}{Q:Value->Shared->Prop}
theorem xmf {a C:Addr}{od:Option Addr} (I:Inv X pins Z H s) (h:H a=some (XO a C od)) (hd:∀ d,od=some d->∃ o,s.heap.get? d=some o):∃ ox odx,PySem.W.InstAt s.heap a ox C odx:=by
 obtain⟨ox,vs,g,ce,oo,de⟩:=xrq I h;cases e:od with
 | none=>exact⟨ox,none,g,ce,xeg de,by rw[oo,e]; trivial⟩
 | some d =>
  obtain⟨o,go⟩:=hd d e;exact⟨ox,some o,g,ce,xeg de,by rw[oo,e]; exact go⟩
end
inductive xwx (K:Zd) (xs:List V) (H:Hp) (Q:VK):Prop
 | mk (x c) (e_:xs=[x,c]) (r_:((∃ t cv b,TyOf K H x t/\clsV c=some cv/\QX K t cv=some b/\Q (.bl b) H)\/(∃ a C od cv b,x=.ref a/\H a=some (XO a C od)/\(∀ d,od=some d->∃ fs,H d=some (XD d fs))/\XC K C/\clsV c=some cv/\QX K (.ref C) cv=some b/\Q (.bl b) H)\/(∃ a C od p cs cv b,x=.ref a/\H a=some (XO a C od)/\(∀ d,od=some d->∃ fs,H d=some (XD d fs))/\XC K C/\c=.ref p/\SqT K H p cs/\xnq cs=some cv/\PySem.W.kitAny K (.ref C) cv=some b/\Q (.bl b) H)))
section
variable {X:Cx}
theorem xcj:xbz X (.builtin "isinstance") (xwx X.K):=by
 intro pins s Z H us xs Q I r h;obtain⟨x,c,rfl,h⟩:=h;obtain⟨u,v,rfl,ru,rv⟩:=xh3 r;rcases h with⟨t,cv,b,ty,ec,ek,q⟩|⟨a,C,od,cv,b,rfl,ha,hd,xc,ec,ek,q⟩|⟨a,C,od,p,cs,cv,b,rfl,ha,hd,xc,rfl,hp,ec,ek,q⟩
 .obtain rfl:=xhl ec rv;exact xpb I ru ty ek fun tk=>⟨.bl b,H,I.tok tk,rfl,q⟩
 .obtain rfl:=xhl ec rv;obtain rfl:u=Zo a:=ru;refine Jw (xo6 xc) I.kIn (xmf I ha fun d e=>?_) ek (fun z=>nomatch z) fun tk=>⟨.bl b,H,I.tok tk,rfl,q⟩
  obtain⟨fs,hw⟩:=hd d e;obtain⟨_,_,⟨o,_,_,go,_⟩,_⟩:=xkg I hw;exact⟨o,go⟩
 .obtain rfl:u=Zo a:=ru;obtain rfl:v=Zo p:=rv;obtain⟨its,vi,it,_⟩:=I.tuple hp;obtain rfl:=xjl ec vi;obtain⟨o,g,oc,n,od'⟩:=it;obtain⟨c1,d1,dt1,sl1⟩:=o
  dsimp only at oc od'
  subst oc od';refine PySem.W.kia_tup (xo6 xc) I.kIn (xmf I ha fun d e=>?_) g ek (fun z=>nomatch z) fun tk=>⟨.bl b,H,I.tok tk,rfl,q⟩
  obtain⟨fs,hw⟩:=hd d e;obtain⟨_,_,⟨o,_,_,go,_⟩,_⟩:=xkg I hw;exact⟨o,go⟩
end
def xdf (scope:Scope):List Str:=(scope.names.filter fun x=>x.2 == .free).map (·.1)
def Cx.clo (X:Cx) (scope:Scope):List (Str × Addr):=(xdf scope).reverse.map fun n=>(n,(X.env.cells.lookup n).getD 0)
theorem xhq {env:Env}{f:Str->Addr}:∀(l:List (Str × NameKind)) (acc:List (Str × Addr)),(∀ x∈l,x.2=.free->env.cells.lookup x.1=some (f x.1)) ->
    (forIn l acc fun x cs=>(if x.2 == .free then do let c <- cellOf env x.1; pure (JN ((x.1,c)::cs)) else pure (JN cs):Sem (ForInStep (List (Str × Addr))))) =
      pure ((((l.filter fun x=>x.2 == .free).map (·.1)).reverse.map fun n=>(n,f n))++acc)
  | [],acc,_=>rfl
  | x::r,acc,h=>by
    have ih:=fun a=>xhq r a fun y hy=>h y (Zt _ hy);rw[List.forIn_cons];by_cases q:x.2=.free
    . have e:=h x Zv q
      have qb:(x.2 == Wm)=true:=by rw[q]; rfl
      rw[if_pos qb,JS,if_pos qb];have ec:cellOf env x.1=pure (f x.1):=by unfold cellOf; rw[e]
      rw[ec];simp only[pure_bind];rw[ih];simp
    . have qb:(x.2 == Wm)=false:=by simpa using q
      rw[if_neg (by rw[qb]; decide),JS,if_neg (by rw[qb]; decide)];simp only[pure_bind];rw[ih]
theorem xpl {X:Cx}{scope:Scope} (h:∀ n∈xdf scope,∃ c,X.env.cells.lookup n=some c):closureFor scope X.env=pure (X.clo scope):=by
 unfold closureFor;have z:=xhq (env:=X.env) (f:=fun n=>(X.env.cells.lookup n).getD 0) scope.names [] fun x hx hf=>by
  obtain⟨c,e⟩:=h x.1 (Zh.mpr ⟨x,ZT.mpr ⟨hx,by simp[hf]⟩,rfl⟩);rw[e];rfl
 rw[Jx] at z;refine (bind_pure (m:=Sem) _).trans ?_;exact z
theorem xsg {X:Cx}{scope:Scope}{n:Str}{c:Addr} (h:(X.clo scope).lookup n=some c):n∈xdf scope/\c=(X.env.cells.lookup n).getD 0:=by
 have z:=JB h;unfold Cx.clo at z;obtain⟨y,hy,e⟩:=Zh.mp z;injection e with e1 e2
 subst e1;exact⟨List.mem_reverse.mp hy,e2.symm⟩
theorem xer {f:Str->Addr}{n:Str}:∀{l:List Str},n∈l->(l.map fun y=>(y,f y)).lookup n=some (f n)
 | [],h=>by simp at h
 | y::r,h=>by
  rw[Zu,Zz];by_cases q:n=y
  .subst q;simp
  .rw [show (n == y)=false from by simpa using q];exact xer ((Zy.mp h).resolve_left q)
theorem xmy {X:Cx}{scope:Scope}{n:Str}{c:Addr} (hn:n∈xdf scope) (h:X.env.cells.lookup n=some c):(X.clo scope).lookup n=some c:=by
 have z:=xer (f:=fun n=>(X.env.cells.lookup n).getD 0) (List.mem_reverse.mpr hn);unfold Cx.clo;rw[z,h];rfl
def xdh:TT:=fun _ H Q=>Q true H
def PIf (X:Cx) (ifs:List Expr) (t:TT):Prop :=
 ∀(pins:List (Addr × Obj)) (s:Shared) (Z:St) (H:Hp) (Q:Bool->Hp->Prop),Inv X pins Z H s->t Z H Q ->
  wpAny (model X.prog X.w) X.A (forIn ifs true fun c r=>if r=true then do let ok <- isTrue c X.env (eval c X.env); pure (JN ok) else pure (JN r)) (TP X pins Z Q) X.xe s
theorem xbf {X:Cx}:PIf X [] xdh:=fun pins s Z H Q I h=>Zm ⟨H,I,h⟩
theorem xe0 {X:Cx}{c:Expr}{t:TT} (hc:PT X c t):PIf X [c] t:=fun pins s Z H Q I h=>by
 rw[List.forIn_cons];refine Zc ?_;rw[if_pos rfl];refine Zc (ZQ (hc pins s Z H Q I h) (fun b s1 q=>Zm ?_) fun _ _ z=>z);exact Zm q
theorem xpp {env:Env}{scope:Scope} (nc:∀ y∈scope.names,y.2≠.cell) (n:Str) (h:(relabel scope env).names.lookup n=some .cell\/(relabel scope env).names.lookup n=some .free):n∈xdf scope:=by
 have key:∀ k,(relabel scope env).names.lookup n=some k->(k=.cell\/k=.free)->n∈xdf scope:=fun k e hk=>by
  obtain⟨y,hy,ey⟩:=Zh.mp (JB e);obtain⟨m,j⟩:=y
  dsimp only at ey
  split at ey
  .rename_i q
   injection ey with e1 e2
   subst e1;have:j=.free:=by
    simp only[Zs,beq_iff_eq] at q;exact q.1.1
   subst this;exact Zh.mpr ⟨_,ZT.mpr ⟨hy,by simp⟩,rfl⟩
  .injection ey with e1 e2
   subst e1 e2;rcases hk with z|z
   .exact absurd z (nc _ hy)
   .subst z;exact Zh.mpr ⟨_,ZT.mpr ⟨hy,by simp⟩,rfl⟩
 rcases h with h|h
 .exact key _ h (.inl rfl)
 .exact key _ h (.inr rfl)
theorem xnh {env:Env}{scope:Scope}{n:Str} (h:scope.names.lookup n=some .free):(relabel scope env).names.lookup n=some .cell\/(relabel scope env).names.lookup n=some .free:=by
  have key:∀(l:List (Str × NameKind)),l.lookup n=some .free->(l.map fun (m,k)=>if (k == Wm&&env.scope.kind == .function&&env.kindOf m == some .cell) then (m,NameKind.cell) else (m,k)).lookup n=some .cell \/
      (l.map fun (m,k)=>if (k == Wm&&env.scope.kind == .function&&env.kindOf m == some .cell) then (m,NameKind.cell) else (m,k)).lookup n=some .free:=fun l=>by
    induction l with
    | nil=>intro e; simp at e
    | cons y r ih =>
      intro e;obtain⟨m,k⟩:=y;rw[Zu];rw[Zz] at e;cases q:n == m with
      | true =>
        rw[q] at e;cases e
        dsimp only
        split
        . left; rw[Zz,q]
        . right; rw[Zz,q]
      | false =>
        rw[q] at e;have z:=ih e
        dsimp only
        split<;>(rw[Zz,q]; exact z)
  exact key _ h
section
variable {P:Program}{w:World}{K:Zd}{mg:Str->Option Value}{base:Heap}
theorem Fun.okx {x qual:Str}{st:Stmt}{f:Addr}{fd:FuncData}{N ps:List Str}{k:Nat}{sp:Sp} (F:Fun K x qual st f fd) (S:xu N ps (xo st)) (len:∀ vs H Q E,sp vs H Q E->vs.length=ps.length)
    (hbody:∀(cdv:Value) (A:Around) (outer:List Env) (s:Shared) (H:Hp) (vs:List V) (Q:VK) (E:XK),Room q0 k (A.deeper (envOfC qual (xo st) s.heap.objs.size f cdv))->sp vs H Q E ->
      ∃ t,PSs (cxOf q0 (CXo P w) P w K mg base N qual (xo st) f cdv A outer s H E) (xbe st) t/\t { nx:=fun _ H'=>Q .non H',rt:=Q } (xdn N vs) H):FnOk q0 P w K mg base (CXo P w) (k+1) f fd ps sp:=by
  obtain⟨oc,od,kV,doc,pm,an,cdv,ct,osl,rfl,lk,hcd⟩:=F.ex;exact xkd lk hcd S len fun A outer s H vs Q E hr hsp=>hbody cdv A outer s H vs Q E hr hsp
theorem Fun.okn {x qual:Str}{st:Stmt}{f:Addr}{fd:FuncData}{N ps:List Str}{k:Nat}{sp:Sp} (F:Fun K x qual st f fd) (S:xu N ps (xo st)) (len:∀ vs H Q E,sp vs H Q E->vs.length=ps.length)
    (hbody:∀(cdv:Value) (A:Around) (outer:List Env) (s:Shared) (H:Hp) (vs:List V) (Q:VK) (E:XK),Room q0 k (A.deeper (envOfC qual (xo st) s.heap.objs.size f cdv))->sp vs H Q E ->
      ∃ t,PSs (cxOf q0 (CXo P w) P w K mg base N qual (xo st) f cdv A outer s H E).nox (xbe st) t/\t { nx:=fun _ H'=>Q .non H',rt:=Q } (xdn N vs) H):FnOk q0 P w K mg base (CXo P w) (k+1) f fd ps sp:=by
  obtain⟨oc,od,kV,doc,pm,an,cdv,ct,osl,rfl,lk,hcd⟩:=F.ex;refine xkd lk hcd S len fun A outer s H vs Q E hr hsp=>?_;obtain⟨t,h,q⟩:=hbody cdv A outer s H vs Q E hr hsp;exact⟨t,h.nox,q⟩
end
end L2
namespace L2
open PySem PySem.Spec PyProof.Rows XL
theorem ifP {b:Bool}{A B:Prop} (h:b=true) (q:A):if b=true then A else B:=by
 rw[if_pos h];exact q
theorem ifN {b:Bool}{A B:Prop} (h:b=false) (q:B):if b=true then A else B:=by
 rw[if_neg (by rw[h]; decide)];exact q
def sgn (c:Nat):V:=.str ⟨#[c]⟩
theorem xms {h h':Heap}{it:Addr}{ty:String}{x:Str}{t:Tok}{i:Nat} (y:h.IsStrIter it ty x t i) (k:∀ o,h.get? it=some o->h'.get? it=some o):h'.IsStrIter it ty x t i:=by
 obtain⟨o,ho,r⟩:=y;exact⟨o,k o ho,r⟩
section
variable {X:Cx}
theorem xen:OpR X (compareOp .LtE) (fun x y H Q=>∃ i j,x=.str i/\y=.str j/\Q (.bl (!decide (j.cps.toList<i.cps.toList))) H):=by
 intro pins s Z H x y v u Q I rx ry h;obtain⟨i,j,rfl,rfl,q⟩:=h;obtain⟨t,rfl⟩:=rx;obtain⟨t',rfl⟩:=ry;exact PySem.P.le_str (xal I q rfl)
theorem xg0:xbz X (.type "range") (fun xs H Q=>∃ i j,xs=[.int i,.int j]/\∀ p,H p=none->Q (.ref p) (upd H p (.rng i j))):=by
 intro pins s Z H xs us Q I r h;obtain⟨i,j,rfl,q⟩:=h;obtain⟨u,w',rfl,⟨t,rfl⟩,⟨t',rfl⟩⟩:=xh3 r;refine call_range_2 ⟨.ref s.heap.objs.size,_,I.laid (t':=s.toks+1) (fun b o e=>Zi _ e) (Zl _) (show xan X.prog X.w _ _ _ (.rng i j) from ⟨_,_,_,Z2 _ rfl⟩),rfl,q _ (I.hok.fresh (Zl _))⟩
end
end L2
namespace L2
open PySem PySem.Spec PyProof.Rows
variable {q0:Bool}
section
variable {X:Cx}
theorem xgr:∀{us:List Value}{ys:List V},us.length=ys.length->(∀(j:Nat) (y:V) (u:Value),ys[j]?=some y->us[j]?=some u->RelV y u)->Vals ys us
 | [],[],_,_=>.nil
 | u::us,y::ys,hl,h=>.cons (h 0 y u rfl rfl) (xgr (Nat.succ.inj hl) fun j y' u' e e'=>h (j+1) y' u' e e')
def rngL (lo hi:Int):List V:=(Z0 (hi-lo).toNat).map fun (i:Nat)=>V.int (lo+(i:Int))
theorem xfs (hc:X.calm=true):xbz X (.type "list") (fun xs H Q=>∃ p lo hi,xs=[.ref p]/\H p=some (.rng lo hi)/\(-(2 ^ 62)<=lo/\lo<2 ^ 62/\-(2 ^ 62)<=hi/\hi<2 ^ 62)/\(hi-lo).toNat<=1000 /\
    ∀ l,H l=none->Q (.ref l) (upd H l (.lst (rngL lo hi)))):=by
  intro pins s Z H xs us Q I r h;obtain⟨p,lo,hi,rfl,hp,⟨h1,h2,h3,h4⟩,hn,q⟩:=h;obtain⟨u,rfl,rx⟩:=xb4 r;cases rx;obtain⟨t1,t2,t3,g⟩:=(show xan X.prog X.w H s.heap p (.rng lo hi) from I.hok p _ hp)
  refine call_list_range (I.ok.hd hc) g (small_one h1 h2 h3 h4) (n:=(hi-lo).toNat) (by rw[rangeSize_one]; split<;>omega) (Z8 hn (by decide)) fun h' tk acc' c' kp e it=>?_;have len:acc'.toList.length=(rngL lo hi).length:=by rw[rngL,Za,Zr]; exact it.1
  refine⟨.ref s.heap.objs.size,_,I.laid (t':=tk) kp (Zl _) (show xan X.prog X.w _ h' _ (.lst (rngL lo hi)) from ⟨?_,acc'.toList,c',xgr len fun j y u ey eu=>?_,by simpa using e⟩),rfl,q _ (I.hok.fresh (Zl _))⟩
  . rw[rngL,Za,Zr]
    exact Z8 hn (by decide)
  . have eu':acc'[j]?=some u:=by simpa using eu
    obtain⟨t,e2⟩:=it.2 j u eu';have lt:j<(hi-lo).toNat:=by
      have:=(Zf.mp ey).1;simpa [rngL] using this
    rw[rngL,Ze,Jj lt] at ey;cases ey;exact⟨t,by rw[e2,Int.mul_one]⟩
end
structure FunD (K:Zd) (x qual:Str) (st:Stmt) (T f:Addr) (fd:FuncData):Prop where
 ex:∃(oc:Value) (od:Option Addr) (kV doc pm:Value) (an:Option Addr) (cdv ct:Value) (osl:Array (Option Value)),
  fd=Js x qual (xbt st) (xbe st) (xo st) (.ref T) kV doc pm an cdv ct/\K.lookup f=some ⟨oc,od,.func fd,osl⟩/\YI K cdv qual=true
 kp:Jp K (.ref f)=true
section
variable {P:Program}{w:World}{K:Zd}{mg:Str->Option Value}{base:Heap}
theorem FunD.okn {x qual:Str}{st:Stmt}{T f:Addr}{fd:FuncData}{N ps:List Str}{k:Nat}{sp:Sp} (F:FunD K x qual st T f fd) (S:xu N ps (xo st)) (len:∀ vs H Q E,sp vs H Q E->vs.length=ps.length)
    (hbody:∀(cdv:Value) (A:Around) (outer:List Env) (s:Shared) (H:Hp) (vs:List V) (Q:VK) (E:XK),Room q0 k (A.deeper (envOfC qual (xo st) s.heap.objs.size f cdv))->sp vs H Q E ->
      ∃ t,PSs (cxOf q0 (CXo P w) P w K mg base N qual (xo st) f cdv A outer s H E).nox (xbe st) t/\t { nx:=fun _ H'=>Q .non H',rt:=Q } (xdn N vs) H):FnOk q0 P w K mg base (CXo P w) (k+1) f fd ps sp:=by
  obtain⟨oc,od,kV,doc,pm,an,cdv,ct,osl,rfl,lk,hcd⟩:=F.ex;refine xkd lk hcd S len fun A outer s H vs Q E hr hsp=>?_;obtain⟨t,h,q⟩:=hbody cdv A outer s H vs Q E hr hsp;exact⟨t,h.nox,q⟩
theorem FunD.binds {x qual:Str}{st:Stmt}{T f:Addr}{fd:FuncData}{ps:List Str}{o:Obj}{items:Array Value}{n:Nat}{ds:List Value} (F:FunD K x qual st T f fd) (ho:K.lookup T=some o) (hs:o.data=.seq items n) (m:Nat) (hm:m+ds.length=ps.length)
    (h:∀(kV doc pm:Value) (an:Option Addr) (cdv ct:Value) (us:List Value),us.length=m ->
      ∃ k,bindArgs (Js x qual (xbt st) (xbe st) (xo st) (.ref T) kV doc pm an cdv ct) ⟨us,[]⟩=seqItems? (.ref T)>>=k/\k (some items)=pure (ps.zip (us++ds))):x0 K fd ps ds:=by
  obtain⟨oc,od,kV,doc,pm,an,cdv,ct,osl,rfl,lk,hcd⟩:=F.ex;intro s us hK hl;rw[Zp] at hl;obtain⟨k,h1,h2⟩:=h kV doc pm an cdv ct us (by omega);exact BindsTo.of_defaults rfl (hK _ _ ho) hs h1 h2
theorem xl8 {x qual:Str}{st:Stmt}{T f:Addr}{oc:Value}{od an:Option Addr}{osl:Array (Option Value)}{kV doc pm cdv ct:Value} (l:K.lookup f=some ⟨oc,od,.func (Js x qual (xbt st) (xbe st) (xo st) (.ref T) kV doc pm an cdv ct),osl⟩)
    (c:YI K cdv qual=true) (k:Jp K (.ref f)=true):FunD K x qual st T f (Js x qual (xbt st) (xbe st) (xo st) (.ref T) kV doc pm an cdv ct):=⟨⟨oc,od,kV,doc,pm,an,cdv,ct,osl,rfl,l,c⟩,k⟩
end
end L2
namespace L2
open PySem PySem.Spec PyProof.Rows XL
variable {q0:Bool}
abbrev Cx.blkG (X:Cx) (scope:Scope) (zs:List Str) (ys:List Str) (C:Addr) (ex:List Addr) (s:Shared) (H:Hp) (pn:List (Addr × Obj)):Cx where
 prog:=X.prog
 w:=X.w
 K:=X.K
 mg:=X.mg
 base:=X.base
 A:=X.A
 N:=zs++ys
 s₀:=s
 H₀:=H
 env:=compEnvC scope (X.clo scope) C X.env
 outer:=X.stack
 stack:=X.stack
 ex:=ex
 fn:=fun _=>false
 calm:=X.calm
 pn:=pn
 xe:=fun _ _=>False
theorem xh0 {prog:Program}{w:World}{A:Around}{R:Result->Shared->Prop}{s:Shared}{elt target iter:Expr}{ifs:List Expr}{scope:Scope}{pos:Pos}{it acc:Value}{env:Env} (I:Nat->Shared->Prop)
    (turn:∀ n s,I n s->wpAny (model prog w) A (pyNext it) (fun r s₁=>match r with
      | none=>R (.ok .next) s₁
      | some v=>wpAny (model prog w) A (letOwnedTupleGo target it v) (fun _ s₀=>wpAny (model prog w) A (assign target env v) (fun _ s₂ =>
          wpAny (model prog w) A (forIn ifs true fun c r=>if r=true then do let ok <- isTrue c env (eval c env); pure (JN ok) else pure (JN r)) (fun ok s₃ =>
            if ok=true then wpAny (model prog w) A (eval elt env) (fun x s₄ =>
              wpAny (model prog w) A (call (.builtin "list.append") [acc,x]) (fun _ s₅=>∃ m,m<n/\I m s₅) (notedBy (model prog w) A env fun e s'=>R (.error e) s') s₄) (notedBy (model prog w) A env fun e s'=>R (.error e) s') s₃
            else ∃ m,m<n/\I m s₃) (notedBy (model prog w) A env fun e s'=>R (.error e) s') s₂) (notedBy (model prog w) A env fun e s'=>R (.error e) s') s₀) (notedBy (model prog w) A env fun e s'=>R (.error e) s') s₁) (notedBy (model prog w) A env fun e s'=>R (.error e) s') s)
    (n:Nat) (h:I n s):codeAny (model prog w) A (.compLoop (.ListComp elt [⟨target,iter,ifs,0⟩] scope pos) 0 it acc env) R s:=by
  refine codeAny_loop rfl I (fun n s hI=>?_) n h;show wpAny _ A ((compTurn (.ListComp elt [⟨target,iter,ifs,0⟩] scope pos) 0 it acc env).onRaise (fun x=>do noteFrame x env; theTreesLotGoes x)) _ _ s;refine wpAny_noted ?_;rw[compTurn_list];refine Zc (Wk (Zc (ZQ (turn n s hI) (fun r s₁ h₁=>?_) fun _ _ h'=>h')));cases r with
  | none=>exact Zm h₁
  | some v =>
    refine Zc (ZQ h₁ (fun _ s₀ h₀=>Zc (ZQ h₀ (fun _ s₂ h₂=>Zc (ZQ h₂ (fun ok s₃ h₃=>?_) fun _ _ h'=>h')) fun _ _ h'=>h')) fun _ _ h'=>h');cases ok with
    | false=>exact Zm ⟨rfl,h₃⟩
    | true =>
      exact Zc (Zc (ZQ h₃ (fun x s₄ h₄=>Zc (ZQ h₄ (fun _ s₅ h₅=>Zm (Zm ⟨rfl,h₅⟩)) fun _ _ h'=>h')) fun _ _ h'=>h'))
structure BlkG (X:Cx) (scope:Scope) (zs:List Str) (ys:List Str) (fr:List Nat):Prop where
 kind:scope.kind=.function
 own:∀ x∈zs,scope.names.lookup x=some .local
 ncell:∀ y∈scope.names,y.2≠.cell
 names:∀ y∈scope.names,y.2=.local->scope.names.lookup y.1=some .local
 free:∀ n∈xdf scope,X.env.scope.names.lookup n=some .cell
 has:∀ n,((relabel scope X.env).names.lookup n=some .cell\/(relabel scope X.env).names.lookup n=some .free)->n∈xdf scope
 slots:fr.map (fun i=>X.N[i]?)=ys.map some
 ysf:∀ y∈ys,y∈xdf scope
 ysc:∀ y∈ys,(relabel scope X.env).names.lookup y=some .cell\/(relabel scope X.env).names.lookup y=some .free
 nd:X.N.Nodup
 ndb:(zs++ys).Nodup
def blk0 (Z:St) (fr:List Nat) (n:Nat):St:=Qk n none++fr.map fun i=>(Z[i]?).join
section
variable {X:Cx}{pins:List (Addr × Obj)}{Z:St}{H:Hp}{s:Shared}{scope:Scope}{zs:List Str}{ys:List Str}{fr:List Nat}{fp:List Addr}
theorem BlkG.cells (B:BlkG X scope zs ys fr) (I:Inv X pins Z H s):∀ n∈xdf scope,∃ c,X.env.cells.lookup n=some c:=fun n hn=>I.ok.has n (.inl (B.free n hn))
theorem BlkG.sub (B:BlkG X scope zs ys fr) (I:Inv X pins Z H s) {n:Str}{c:Addr} (h:(X.clo scope).lookup n=some c):X.env.cells.lookup n=some c:=by
 obtain⟨a,b⟩:=xsg h;obtain⟨d,e⟩:=B.cells I n a;rw[e] at b;rw[b,e];rfl
theorem Inv.blkG {h1:Heap}{m1:Str->Option Value}{t':Nat} (B:BlkG X scope zs ys fr) (I:Inv X pins Z H s) (hf:∀ b∈fp,FpOk X pins H b) (hz:∀ b∈fp,b<s.heap.objs.size) (n1:h1.Ns s.heap.objs.size m1) (k1:∀ b o,s.heap.get? b=some o->h1.get? b=some o) :
    Inv (X.blkG scope zs ys s.heap.objs.size fp s H (X.pn++pins)) [] (blk0 Z fr zs.length) H { s with heap:=h1,toks:=t' }:=by
  have sub:∀ n c,(X.clo scope).lookup n=some c->X.env.cells.lookup n=some c:=fun n c h=>B.sub I h;have cz:∀ n c,X.env.cells.lookup n=some c->c<s.heap.objs.size:=fun n c e=>by
    obtain⟨v,o,ho,_⟩:=I.cell n c e;exact Zq ho
  have nfs:∀ b∈fp,b∉frs X.stack:=fun b hb z=>(Zy.mp (I.stkSub b z)).elim (hf b hb).2.1 (hf b hb).2.2.1;have fz:∀ b,b∈frs X.stack->b<s.heap.objs.size:=fun b hb=>by
    obtain⟨_,o,ho,_⟩:=I.stack.mem hb;exact Zq ho
  refine⟨⟨I.ok.mod,B.kind,I.ok.glob,I.ok.blt,Zl _,fun y z c h1 h2=>I.ok.inj y z c (sub y c h1) (sub z c h2),fun y hy=>?_,(fun y c hy _=>nomatch hy),I.ok.hd,I.ok.frames,.inl rfl,fun b hb=>⟨?_,fun y c h=>(hf b hb).2.2.2.2.1 y c (sub y c h)⟩,
      I.bs,Z8 I.ok.bsz I.sz,fun b o e hb=>?_,fun b hb=>nfs b hb,I.stack,I.stkFree⟩,
    rfl,I.bare,Un.kept k1,⟨m1,n1,fun i y v e1 e2 e3=>?_⟩,fun y c h=>?_,I.hok.fresh (Zl _),fun y c h=>I.freeC y c (sub y c h),fun p hp=>?_,I.hok.kept k1,?_⟩
  . obtain⟨c,e⟩:=B.cells I y (B.has y hy)
    exact⟨c,xmy (B.has y hy) e⟩
  . exact ZH (hz b hb)
  . rcases (hf b hb).2.2.2.1 with z|z
    . exact I.ok.noex b o e z
    . exact absurd (ZG (Zq (I.ok.bs b o e).1) z) (Y5 _)
  . have ln:(Qk zs.length (none:Option V)).length=zs.length:=QQ
    by_cases lt:i<zs.length
    . have e2':(blk0 Z fr zs.length)[i]?=some (some v):=e2
      unfold blk0 at e2';rw[ZW (by rw[ln]; exact lt),Q4] at e2';split at e2'<;>cases e2'
    . obtain⟨k,rfl⟩:∃ k,i=zs.length+k:=⟨i-zs.length,by omega⟩
      have e2':(fr.map fun i=>(Z[i]?).join)[k]?=some (some v):=by
        have z:(blk0 Z fr zs.length)[zs.length+k]?=some (some v):=e2;unfold blk0 at z;rw[Jb (by rw[ln]; omega),ln] at z;simpa using z
      have e1':ys[k]?=some y:=by
        have z:(zs++ys)[zs.length+k]?=some y:=e1;rw[Jb (by omega)] at z;simpa using z
      rw[Ze] at e2';obtain⟨j,hj,ej⟩:=Zj.mp e2';have ev:Z[j]?=some (some v):=by
        cases q:Z[j]? with
        | none=>rw[q] at ej; cases ej
        | some w=>rw[q] at ej; exact congrArg some ej
      have eN:X.N[j]?=some y:=by
        have z:=congrArg (fun l=>l[k]?) B.slots;simp only[Ze,hj,e1',Y8] at z;exact JD.inj z
      have my:y∈ys:=Zk e1';obtain⟨m,_,lk⟩:=I.loc;obtain⟨u,r,l⟩:=lk j y v eN ev (.inr (.inl (B.free y (B.ysf y my))));refine⟨u,r,.inr ⟨B.ysc y my,?_⟩⟩;rcases l with⟨kk,_⟩|⟨_,c,e,o,ho,hd⟩
      . have z:=B.free y (B.ysf y my)
        rw[show X.env.scope.names.lookup y=some .local from kk] at z;cases z
      . exact⟨c,xmy (B.ysf y my) e,o,k1 c o ho,hd⟩
  . obtain⟨v,o,ho,hd⟩:=I.cell y c (sub y c h)
    exact⟨v,o,k1 c o ho,hd⟩
  . have hp':p∈X.pn++pins:=by simpa using hp
    obtain⟨a1,a2,a3,a4,a5⟩:=I.pin p hp';exact⟨k1 _ _ a1,a2,ZH (Zq a1),fun z=>(Zy.mp (I.stkSub _ z)).elim a3 a4,a5⟩
  . have z:=congrArg Qq B.slots
    simp only[Za] at z;simp[blk0,z]
end
section
variable {X:Cx}{pins:List (Addr × Obj)}{Z:St}{H:Hp}{s:Shared}{scope:Scope}{zs:List Str}{ys:List Str}{fr:List Nat}{fp:List Addr}
theorem Inv.unblkG {C:Addr}{s':Shared}{h2:Heap}{σ':St}{H':Hp}{pl:List (Addr × Obj)} (I:Inv X pins Z H s) (hf:∀ b∈fp,FpOk X pins H b) (hC:s.heap.objs.size<=C) (J:Inv (X.blkG scope zs ys C fp s H (X.pn++pins)) pl σ' H' s') (sb:ZK C s'.heap h2) :
    Inv X pins Z H' { s' with heap:=h2 }:=by
  have kp:∀ b o,b≠C->s'.heap.get? b=some o->h2.get? b=some o:=fun b o nb g=>(sb.2 b nb).trans g;have old:∀ b o,s.heap.get? b=some o->b≠C:=fun b o g=>ZH (ZG (Zq g) hC);have trk:∀ b u,H' b=some u->b≠C:=fun b u hb z=>by
    have f:H' C=none:=J.free;rw[z,f] at hb;cases hb
  refine I.call' (s':={ s' with heap:=h2 }) J.os (ch:=fp) ⟨fun b o e n hb hx=>kp b o (old b o e) (J.base.keep b o e n hb hx),fun b o e n hb hx=>?_,fun b o e n hx=>J.base.free b o e n hx,fun b o e hx=>?_,J.base.tups,J.base.frzs,J.base.tbls⟩ (fun b u hb=>?_) J.bare fun b hb=>?_
  . obtain⟨sl,q⟩:=J.base.slot b o e n hb hx
    exact⟨sl,kp b _ (old b o e) q⟩
  . obtain⟨o',q⟩:=J.base.there b o e hx
    exact⟨o',kp b o' (old b o e) q⟩
  . refine (J.hok b u hb).stay (fun c v hc q=>?_) (fun c q=>q) fun c xs q=>q
    rcases hc with rfl|hc
    . exact kp c v (trk c u hb) q
    . exact kp c v (trk c _ hc) q
  . obtain⟨_,a1,_,a3,a4,a5⟩:=hf b hb
    exact⟨a3,a1,a4,a5⟩
end
def GOk (n:Nat) (g:TG):Prop:=∀ v Z H Q,g v Z H Q->g v Z H (fun σ' H'=>Q σ' H'/\σ'.length=Z.length/\∀ i,n<=i->σ'[i]?=Z[i]?)
theorem xbj {i n:Nat} (h:i<n):GOk n (xc7 i):=fun v Z H Q q=>⟨q,by simp,fun j hj=>by rw[JI (by omega)]⟩
def xcz (J:It) (n:Nat) (g:TG) (Z:St) (fr:List Nat) (tc:TT) (te:TE) (l:Addr) (H1:Hp) (Q:VK):Prop:=∃ W:Nat->Nat->List V->Hp->Prop,(∃ m,W 0 m [] (upd H1 l (.lst [])))/\∀ i m xs H2,W i m xs H2 ->
 (J.stop i H2/\Q (.ref l) H2)\/(J.go i H2/\∀ v H3,J.yld i H2 v H3->g v (blk0 Z fr n) H3 fun σ' H3'=>tc σ' H3' fun b H4=>if b=true then
  (te σ' H4 fun y H5=>H5 l=some (.lst xs)/\xs.length<sizeLine/\∃ m',m'<m/\W (i+1) m' (xs++[y]) (upd H5 l (.lst (xs++[y])))) else ∃ m',m'<m/\W (i+1) m' xs H4)
def xk1 (wi:TI) (n:Nat) (g:TG) (fr:List Nat) (tc:TT) (te:TE):TE:=fun Z H Q=>wi Z H fun J H1=>∀ l,H1 l=none->xcz J n g Z fr tc te l H1 Q
section
variable {X:Cx}{scope:Scope}{zs:List Str}{ys:List Str}{fr:List Nat}{elt iter tg:Expr}{g:TG}{ifs:List Expr}{px pos:Pos}{wi:TI}{tc:TT}{te:TE}
theorem xhp {pins:List (Addr × Obj)}{s:Shared}{Z:St}{H:Hp}{Q:VK}{U:Option (Value->Sem Unit)}{R:Value->Shared->Prop} (hc:X.calm=true) (B:BlkG X scope zs ys fr) (hi:PI X tg iter wi) (hg:∀ C ex s H pn,(∀ x∈zs,(relabel scope X.env).names.lookup x=some .local)->(zs++ys).Nodup->PG (X.blkG scope zs ys C ex s H pn) tg g) (gok:GOk zs.length g)
    (hif:∀ C ex s H pn,PIf (X.blkG scope zs ys C ex s H pn) ifs tc) (he:∀ C ex s H pn,PE (X.blkG scope zs ys C ex s H pn) elt te) (I:Inv X pins Z H s) (h:xk1 wi zs.length g fr tc te Z H Q)
    (fin:∀ C l H' s' m,(X.s₀.heap.objs.size<=C/\C≠X.env.locals/\(∀ x c,X.env.cells.lookup x=some c->c≠C)/\∀ p∈X.pn++pins,p.1≠C)->H' C=none->s'.heap.Ns C m->(∀ h2,ZK C s'.heap h2->Inv X pins Z H' { s' with heap:=h2 })->Q (.ref l) H'->compPost (model X.prog X.w) X.A X.xe U R (.ref l) C (.ok .next) s') :
    wpAny (model X.prog X.w) X.A (eval iter X.env) (fun v s1=>wpAny (model X.prog X.w) X.A (pyIter v) (fun it s2=>wpAny (model X.prog X.w) X.A (newList []) (fun acc s3 =>
      wpAny (model X.prog X.w) X.A (newFunctionEnv scope X.env.globals (X.clo scope) [] X.env.qual none .none (some X.env)) (fun cenv s4 =>
        codeAny (model X.prog X.w) X.A (.compStart (.ListComp elt [⟨tg,iter,ifs,0⟩] scope pos) 0 it acc { cenv with scope:=relabel scope X.env }) (compPost (model X.prog X.w) X.A X.xe U R acc cenv.locals) s4) X.xe s3) X.xe s2) X.xe s1) X.xe s:=by
  refine thn (hi pins s Z H _ I h) fun v s1 h1=>thn h1 fun itv s2 h2=>?_;obtain⟨it,fp,tn,J,H2,rfl,I2,T,st2,f2,body⟩:=h2;have hN:H2 s2.heap.objs.size=none:=I2.hok.fresh (Zl _);obtain⟨W,⟨m0,w0⟩,turn⟩:=body s2.heap.objs.size hN;refine Yr ?_;generalize hs3:({ s2 with heap:=s2.heap.push { cls:=.type "list",data:=.seq ([]:List Value).toArray } }:Shared)=s3;have k3:∀ b o,s2.heap.get? b=some o->s3.heap.get? b=some o:=fun b o g=>by rw[<- hs3]; exact Zi _ g
  have I3:Inv X pins Z (upd H2 s2.heap.objs.size (.lst [])) s3:=by
    rw[<- hs3];exact I2.laid (t':=s2.toks) (fun b u e=>Zi _ e) (Zl _) ⟨ZZ _,[],0,.nil,Z2 _ rfl⟩
  have z2:∀ b∈fp,b<s2.heap.objs.size:=fun b hb=>by
    obtain⟨o,g,_⟩:=T.obj 0 _ st2 b hb;exact Zq g
  have z3:∀ b∈fp,b<s3.heap.objs.size:=fun b hb=>by
    obtain⟨o,g,_⟩:=T.obj 0 _ st2 b hb;exact Zq (k3 b o g)
  have f3:∀ b∈fp,FpOk X pins (upd H2 s2.heap.objs.size (.lst [])) b:=fun b hb=>⟨by rw[xg (ZH (z2 b hb))]; exact (f2 b hb).1,(f2 b hb).2⟩
  have st3:tn 0 s3.heap:=T.keep _ _ _ st2 fun b _ o g=>k3 b o g;refine wpAny_newFunctionEnv B.ncell (by intro y hy; simp at hy) (fun h1 n1 sb1=>?_) B.kind;have k4:∀ b o,s3.heap.get? b=some o->h1.get? b=some o:=fun b o g=>sb1.extBut b o (ZH (Zq g)) (Zi _ g);have I4:=I3.blkG (t':=s3.toks+([]:List (Str × Value)).length) B f3 z3 n1 k4;have st4:tn 0 h1:=T.keep _ _ _ st3 fun b _ o g=>k4 b o g;have own':∀ x∈zs,(relabel scope X.env).names.lookup x=some .local:=fun x hx=>lookup_relabel_local (B.own x hx)
  -- the iterator's objects,through the loop
  have stat:∀{H':Hp},(∀ b∈fp,H' b=none)->∀ b∈fp,FpOk (X.blkG scope zs ys s3.heap.objs.size fp s3 (upd H2 s2.heap.objs.size (.lst [])) (X.pn++pins)) [] H' b:=fun hn b hb=>by
    obtain⟨_,a1,a2,a3,a4,a5⟩:=f3 b hb;exact⟨hn b hb,ZH (z3 b hb),fun z=>(Zy.mp (I3.stkSub b z)).elim a1 a2,.inl hb,fun y c h=>a4 y c (B.sub I3 h),fun p hp=>a5 p (by simpa using hp)⟩
  have loop:∀ s4:Shared,s4={ s3 with heap:=h1,toks:=s3.toks+([]:List (Str × Value)).length } ->
      codeAny (model X.prog X.w) X.A (.compLoop (.ListComp elt [⟨tg,iter,ifs,0⟩] scope pos) 0 (.ref it) (.ref s2.heap.objs.size) (compEnvC scope (X.clo scope) s3.heap.objs.size X.env))
        (compPost (model X.prog X.w) X.A X.xe U R (.ref s2.heap.objs.size) s3.heap.objs.size) s4:=by
    rintro s4 rfl;refine xh0 (fun n s'=>∃ i xs H',Inv (X.blkG scope zs ys s3.heap.objs.size fp s3 (upd H2 s2.heap.objs.size (.lst [])) (X.pn++pins)) [] (blk0 Z fr zs.length) H' s'/\tn i s'.heap/\(∀ b∈fp,H' b=none)/\W i n xs H') ?_ m0
      ⟨0,[],_,I4,st4,fun b hb=>(f3 b hb).1,w0⟩
    rintro n s5 ⟨i,xs,H5,I5,st5,fr5,w5⟩;rcases turn i n xs H5 w5 with⟨stop,q⟩|⟨go,step⟩
    . refine ZQ (T.done (X.blkG scope zs ys s3.heap.objs.size fp s3 (upd H2 s2.heap.objs.size (.lst [])) (X.pn++pins)) rfl rfl rfl hc i [] s5 _ H5 (fun _ _=>False) I5 (stat fr5) st5 stop) (fun r s6 ⟨hr,I6⟩=>?_) fun _ _ z=>z.elim
      subst hr;obtain⟨m,hm,_⟩:=I6.loc;exact fin _ _ H5 s6 m ⟨I3.sz,(I3.size_lt (Zl _)).2⟩ I6.free hm (fun h2 sb=>I3.unblkG f3 (Zl _) I6 sb) q
    . refine ZQ (T.item (X.blkG scope zs ys s3.heap.objs.size fp s3 (upd H2 s2.heap.objs.size (.lst [])) (X.pn++pins)) rfl rfl rfl hc i [] s5 _ H5 (fun _ _=>False) I5 (stat fr5) st5 go) (fun r s6 ⟨u,hr,h6⟩=>?_) fun _ _ z=>z.elim
      subst hr;refine ZQ h6 (fun _ s7 ⟨y,H7,I7,r7,y7,st7,fr7⟩=>?_) fun _ _ z=>z.elim;have I7':=I7.pinned (stat fr7) (T.obj _ _ st7);refine ZQ (hg _ _ _ _ _ own' B.ndb _ s7 _ H7 y u _ I7' r7 (gok _ _ _ _ (step y H7 y7))) (fun _ s8 ⟨σ8,H8,I8,q8,l8,k8⟩=>?_) fun _ _ z=>z.elim;have back:∀{s9:Shared}{H9:Hp}{xs':List V},Inv (X.blkG scope zs ys s3.heap.objs.size fp s3 (upd H2 s2.heap.objs.size (.lst [])) (X.pn++pins)) ([]++xfy fp s7.heap) σ8 H9 s9->(∃ m',m'<n/\W (i+1) m' xs' H9) ->
          ∃ m,m<n/\∃ i xs H',Inv (X.blkG scope zs ys s3.heap.objs.size fp s3 (upd H2 s2.heap.objs.size (.lst [])) (X.pn++pins)) [] (blk0 Z fr zs.length) H' s9/\tn i s9.heap/\(∀ b∈fp,H' b=none)/\W i m xs H':=fun {s9 H9 xs'} I9 ⟨m',lt,w9⟩=>by
        refine⟨m',lt,i+1,xs',H9,I9.unpinned.weak l8.symm (fun j v e=>?_),T.keep _ _ _ st7 fun b hb o e=>(I9.pin (b,o) (ZN _ (ZN _ (xdk hb e)))).1,fun b hb=>?_,w9⟩
        . by_cases lj:j<zs.length
          . unfold blk0 at e
            rw[ZW (by rw[QQ]; exact lj),Q4] at e;split at e<;>cases e
          . rw[k8 j (by omega)]
            exact e
        obtain⟨o,e,d⟩:=T.obj _ _ st7 b hb;exact (I9.pin (b,o) (ZN _ (ZN _ (xdk hb e)))).2.1
      refine ZQ (hif _ _ _ _ _ _ s8 _ H8 _ I8 q8) (fun ok s9 ⟨H9,I9,q9⟩=>?_) fun _ _ z=>z.elim;cases ok with
      | false =>
        rw[if_neg (by decide)] at q9 ⊢;exact back I9 q9
      | true =>
        rw[if_pos rfl] at q9 ⊢;refine ZQ (he _ _ _ _ _ _ s9 _ H9 _ I9 q9) (fun ev s10 ⟨yv,H10,I10,r10,hl,len,w10⟩=>?_) fun _ _ z=>z.elim;refine ZQ (xcn (X:=X.blkG scope zs ys s3.heap.objs.size fp s3 (upd H2 s2.heap.objs.size (.lst [])) (X.pn++pins)) _ s10 _ H10 (.ref s2.heap.objs.size) [yv] (.ref s2.heap.objs.size) [ev] (fun v H'=>H'=upd H10 s2.heap.objs.size (.lst (xs++[yv]))) I10 rfl (.cons r10 .nil) ⟨_,xs,yv,rfl,rfl,hl,len,rfl⟩)
          (fun _ s11 ⟨_,H11,I11,_,e11⟩=>?_) fun _ _ z=>z.elim
        subst e11;exact back I11 w10
  exact codeAny_compStart_list (loop _ rfl) (T.self _ 0 _ _ _ st4 (loop _ rfl))
theorem xbx (hc:X.calm=true) (B:BlkG X scope zs ys fr) (hi:PI X tg iter wi) (hg:∀ C ex s H pn,(∀ x∈zs,(relabel scope X.env).names.lookup x=some .local)->(zs++ys).Nodup->PG (X.blkG scope zs ys C ex s H pn) tg g) (gok:GOk zs.length g) (hif:∀ C ex s H pn,PIf (X.blkG scope zs ys C ex s H pn) ifs tc) (he:∀ C ex s H pn,PE (X.blkG scope zs ys C ex s H pn) elt te)
    (hs:∀ x,foldedSetIterable iter X.env x=pure x:=by intro _; rfl):PE X (.ListComp elt [⟨tg,iter,ifs,0⟩] scope pos) (xk1 wi zs.length g fr tc te):=by
  intro pins s Z H Q I h;rw[eval_ListComp];refine wpAny_comprehension_free (use:=none) rfl hs (xpl (B.cells I)) B.kind B.names (xhp hc B hi hg gok hif he I h fun C l H' s' m _ _ hm iv q=>?_);exact⟨m,hm,fun h2 sb=>⟨.ref l,H',iv h2 sb,rfl,q⟩⟩
theorem xbu {j:Nat}{y:Str}{py spos:Pos} (hc:X.calm=true) (B:BlkG X scope zs ys fr) (hi:PI X tg iter wi) (hg:∀ C ex s H pn,(∀ x∈zs,(relabel scope X.env).names.lookup x=some .local)->(zs++ys).Nodup->PG (X.blkG scope zs ys C ex s H pn) tg g) (gok:GOk zs.length g) (hif:∀ C ex s H pn,PIf (X.blkG scope zs ys C ex s H pn) ifs tc) (he:∀ C ex s H pn,PE (X.blkG scope zs ys C ex s H pn) elt te)
    (hj:X.N[j]?=some y) (hy:Loc X.env.scope y) (hf:X.fn y=true\/X.env.scope.names.lookup y=some .local:=by first|exact .inl rfl|exact .inr rfl|assumption)
    (hsw:swapsWith (.ListComp elt [⟨tg,iter,ifs,0⟩] scope pos) (some (.Name y py)) spos.line X.env=pure true:=by rfl)
    (hs:∀ x,foldedSetIterable iter X.env x=pure x:=by intro _; rfl):PS X (.Assign [.Name y py] (.ListComp elt [⟨tg,iter,ifs,0⟩] scope pos) spos) (tAsg (xk1 wi zs.length g fr tc te) (xc7 j)):=by
  intro pins s Z H D I h;rw[exec_Assign_Name_used _ _ _ _ hsw];refine Zc (Wk (Zc ?_));show wpAny _ _ (do let _ <- comprehension (.ListComp elt [⟨tg,iter,ifs,0⟩] scope pos) scope X.env _ (newList []) false (eval iter X.env) (some (assign (.Name y py) X.env))) _ _ s;refine Zc (ZQ (wpAny_comprehension_free (use:=some (assign (.Name y py) X.env)) (Q:=fun _ s'=>SP X pins D .next s') rfl hs (xpl (B.cells I)) B.kind B.names
    (xhp hc B hi hg gok hif he I h fun C l H' s' m hC hn hm iv q=>?_)) (fun _ s' z=>Zm (Zm z)) fun _ _ e=>e)
  show wpAny _ _ (assign (.Name y py) X.env (.ref l)) _ _ _;have J:Inv X pins Z H' s':=iv s'.heap (.refl ..);refine wpAny_assign_Name (xjc (v:=V.ref l) J B.nd hj hy rfl (fun s2 J2 ⟨a,sb,ha⟩=>?_) hf);have na:a≠C:=by
    rcases ha with z|z
    . rw[z]; exact ZE hC.2.1
    . exact hC.2.2.1 _ _ z
  refine⟨m,?_,fun h2 s3=>?_⟩
  . obtain⟨o,es,ep,g,r⟩:=hm
    exact⟨o,es,ep,(sb.2 C (ZE na)).trans g,r⟩
  . exact⟨_,H',J2.turned (t':=s2.toks) (fun b o nb g=>(s3.2 b nb).trans g) hn (hC.2.1) (.inr hC.1) hC.2.2.1 hC.2.2.2,q⟩
end
def xlb (scope sc0:Scope) (N0:List Str) (zs:List Str) (ys:List Str) (fr:List Nat):Bool :=
 scope.kind == .function&&zs.all (fun x=>scope.names.lookup x == some .local)&&scope.names.all (fun y=>y.2 != .cell)&&scope.names.all (fun y=>y.2 != .local||scope.names.lookup y.1 == some .local) &&
 (xdf scope).all (fun n=>sc0.names.lookup n == some .cell)&&fr.map (fun i=>N0[i]?) == ys.map some&&ys.all (fun y=>scope.names.lookup y == some .free)&&decide N0.Nodup&&decide (zs++ys).Nodup
theorem xqq {X:Cx}{scope sc0:Scope}{N0:List Str}{zs:List Str}{ys:List Str}{fr:List Nat} (chk:xlb scope sc0 N0 zs ys fr=true) (es:X.env.scope=sc0) (eN:X.N=N0):BlkG X scope zs ys fr:=by
 unfold xlb at chk;simp only[Zs,beq_iff_eq,YW,decide_eq_true_eq] at chk;obtain⟨⟨⟨⟨⟨⟨⟨⟨a1,a2⟩,a3⟩,a4⟩,a5⟩,a6⟩,a7⟩,a8⟩,a9⟩:=chk;have nc:∀ y∈scope.names,y.2≠.cell:=fun y hy=>by simpa using a3 y hy
 refine⟨a1,a2,nc,fun y hy hl=>?_,fun n hn=>by rw[es]; exact a5 n hn,fun n h=>xpp nc n h,by rw[eN]; exact a6,fun y hy=>?_,fun y hy=>xnh (a7 y hy),by rw[eN]; exact a8,a9⟩
 .have z:=a4 y hy;rw[hl] at z;simpa using z
 .exact Zh.mpr ⟨(y,.free),ZT.mpr ⟨JB (a7 y hy),by simp⟩,rfl⟩
theorem xaw {X:Cx}{scope sc0:Scope}{N0:List Str}{zs:List Str}{ys:List Str}{fr:List Nat} (chk:xlb scope sc0 N0 zs ys fr=true) (es:X.env.scope=sc0) (eN:X.N=N0) (_:X.stack=X.env::X.outer):BlkG X scope zs ys fr:=xqq chk es eN
theorem xdc {K:Zd}{m n:Nat}{t:TGs} (h:∀ vs Z H Q,t vs Z H Q->t vs Z H (fun σ' H'=>Q σ' H'/\σ'.length=Z.length/\∀ i,n<=i->σ'[i]?=Z[i]?)):GOk n (gTup K m t):=fun v Z H Q q=>by
 obtain⟨a,xs,e,hs,hl,q⟩:=q;exact⟨a,xs,e,hs,hl,h _ _ _ _ q⟩
theorem xco {n:Nat}:∀ vs Z H Q,gNil vs Z H Q->gNil vs Z H (fun σ' H'=>Q σ' H'/\σ'.length=Z.length/\∀ i,n<=i->σ'[i]?=Z[i]?):=fun vs Z H Q q=>⟨q.1,q.2,rfl,fun _ _=>rfl⟩
theorem xbc {i n:Nat} (hi:i<n) {t:TGs} (h:∀ vs Z H Q,t vs Z H Q->t vs Z H (fun σ' H'=>Q σ' H'/\σ'.length=Z.length/\∀ i,n<=i->σ'[i]?=Z[i]?)) :
    ∀ vs Z H Q,xd6 (xc7 i) t vs Z H Q->xd6 (xc7 i) t vs Z H (fun σ' H'=>Q σ' H'/\σ'.length=Z.length/\∀ i,n<=i->σ'[i]?=Z[i]?):=fun vs Z H Q q=>by
  obtain⟨v,r,e,q⟩:=q;refine⟨v,r,e,?_⟩;have z:=h _ _ _ _ q;have e2:∀(j:Nat),n<=j->(Z.set i (some v))[j]?=Z[j]?:=fun j hj=>by rw[JI (by omega)]
  have e1:(Z.set i (some v)).length=Z.length:=by simp
  have key:(fun σ' H'=>Q σ' H'/\σ'.length=(Z.set i (some v)).length/\∀ j,n<=j->σ'[j]?=(Z.set i (some v))[j]?)=(fun σ' (H':Hp)=>Q σ' H'/\σ'.length=Z.length/\∀ j,n<=j->σ'[j]?=Z[j]?):=by
    funext σ' H';rw[e1];refine propext ⟨fun⟨a,b,c⟩=>⟨a,b,fun j hj=>(c j hj).trans (e2 j hj)⟩,fun⟨a,b,c⟩=>⟨a,b,fun j hj=>(c j hj).trans (e2 j hj).symm⟩⟩
  rw[key] at z;exact z
theorem xcp {J:It}{n:Nat}{g:TG}{Z:St}{fr:List Nat}{tc:TT}{te:TE}{l:Addr}{H1:Hp}{Q:VK} (len:Nat) (Pv:Nat->List V->Hp->Prop) (h0:Pv 0 [] (upd H1 l (.lst []))) (hgo:∀ i xs H,i<len->Pv i xs H->J.go i H)
    (step:∀ i xs H2 v H3,i<len->Pv i xs H2->J.yld i H2 v H3->∀ N:List V->Hp->Prop,(∀ xs' H',Pv (i+1) xs' H'->N xs' H')->g v (blk0 Z fr n) H3 fun σ' H3'=>tc σ' H3' fun b H4=>if b=true then
      (te σ' H4 fun y H5=>H5 l=some (.lst xs)/\xs.length<sizeLine/\N (xs++[y]) (upd H5 l (.lst (xs++[y])))) else N xs H4)
    (fin:∀ xs H2,Pv len xs H2->J.stop len H2/\Q (.ref l) H2):xcz J n g Z fr tc te l H1 Q:=by
  refine⟨fun i m xs H=>m=len-i/\i<=len/\Pv i xs H,⟨len,by simp,ZZ _,h0⟩,?_⟩;rintro i m xs H2 ⟨rfl,hi,p⟩;by_cases lt:i<len
  . exact .inr ⟨hgo i xs H2 lt p,fun v H3 y=>step i xs H2 v H3 lt p y (fun xs' H'=>∃ m',m'<len-i/\m'=len-(i+1)/\i+1<=len/\Pv (i+1) xs' H') fun xs' H' q=>⟨_,by omega,rfl,lt,q⟩⟩
  . have e:i=len:=by omega
    subst e;exact .inl (fin xs H2 p)
section
variable {X:Cx}{pins:List (Addr × Obj)}{Z:St}{H:Hp}{s:Shared}
theorem Inv.adopt {p:Addr}{o:HO} (I:Inv X pins Z H s) (n:H p=none) (h0:X.s₀.heap.objs.size<=p) (hL:p≠X.env.locals) (hC:∀ x c,X.env.cells.lookup x=some c->c≠p) (hp:∀ q∈X.pn++pins,q.1≠p)
    (new:xan X.prog X.w (upd H p o) s.heap p o):Inv X pins Z (upd H p o) s:=by
  have ne:∀ b u,H b=some u->b≠p:=fun b u e=>xi e n;refine⟨I.ok,I.os,I.bare,⟨I.base.keep,I.base.slot,fun b ob e hn hx=>?_,I.base.there,fun b xs e=>?_,fun b ob u e=>?_,fun b ps e=>?_⟩,I.loc,I.cell,?_,fun x c e=>?_,fun q hq=>?_,fun b u e=>?_,I.len⟩
  . rw[xg (ZH (ZG (Zq e) h0))]
    exact I.base.free b ob e hn hx
  . have z:=I.base.tups b xs e
    rw[xg (ne b _ z)];exact z
  . have z:=I.base.frzs b ob u e
    rw[xg (ne b _ z)];exact z
  . obtain⟨m,z⟩:=I.base.tbls b ps e
    exact⟨m,by rw[xg (ne b _ z)]; exact z⟩
  . rw[xg (ZE hL)]
    exact I.free
  . rw[xg (hC x c e)]
    exact I.freeC x c e
  . obtain⟨a1,a2,a3⟩:=I.pin q hq
    exact⟨a1,by rw[xg (hp q hq)]; exact a2,a3⟩
  . by_cases hb:b=p
    . subst hb
      rw[xh] at e;cases e;exact new
    . rw[xg hb] at e
      exact (I.hok b u e).stay (fun c v _ q=>q) (fun c q=>by rw[xg (ne c _ q)]; exact q) fun c xs q=>by rw[xg (ne c _ q)]; exact q
theorem Inv.thaw {d:Addr}{o:Obj}{u:HO} (I:Inv X pins Z H s) (e:H d=some (.frz o u)) (nf:∀ o' u',X.H₀ d≠some (.frz o' u')):Inv X pins Z (upd H d u) s:=by
 have ne:∀ b v,H b=some v->(∀ o' u',v≠.frz o' u')->b≠d:=fun b v h1 h2 z=>by
  subst z;rw[e] at h1;cases h1;exact h2 _ _ rfl
 have ne0:∀ b,H b=none->b≠d:=fun b h1 z=>by
  subst z;rw[e] at h1;cases h1
 refine⟨I.ok,I.os,I.bare,⟨I.base.keep,I.base.slot,fun b ob q hn hx=>?_,I.base.there,fun b xs q=>?_,fun b ob v q=>?_,fun b ps q=>?_⟩,I.loc,I.cell,?_,fun x c q=>?_,fun p hp=>?_,fun b v q=>?_,I.len⟩
 .have z:=I.base.free b ob q hn hx;rw[xg (ne0 b z)];exact z
 .have z:=I.base.tups b xs q;rw[xg (ne b _ z (fun _ _ h=>nomatch h))];exact z
 .have z:=I.base.frzs b ob v q;have hb:b≠d:=fun w=>by
   subst w;exact nf _ _ q
  rw[xg hb];exact z
 .obtain ⟨m,z⟩:=I.base.tbls b ps q;exact⟨m,by rw[xg (ne b _ z (fun _ _ h=>nomatch h))]; exact z⟩
 .rw [xg (ne0 _ I.free)];exact I.free
 .rw [xg (ne0 _ (I.freeC x c q))];exact I.freeC x c q
 .obtain ⟨a1,a2,a3⟩:=I.pin p hp;exact⟨a1,by rw[xg (ne0 _ a2)]; exact a2,a3⟩
 .have st:∀(a:Addr) (v:HO),xan X.prog X.w H s.heap a v->xan X.prog X.w (upd H d u) s.heap a v:=fun a v k =>
   k.stay (fun c v _ q=>q) (fun c q=>by rw[xg (ne c _ q (fun _ _ h=>nomatch h))]; exact q) fun c xs q=>by rw[xg (ne c _ q (fun _ _ h=>nomatch h))]; exact q
  by_cases hb:b=d
  .subst hb;rw[xh] at q;cases q;obtain⟨g,ok⟩:=I.hok b _ e;exact st _ _ ok
  .rw [xg hb] at q;exact st _ _ (I.hok b v q)
theorem Inv.nofrz {d:Addr}{kvs:List (Key × V)} (I:Inv X pins Z H s) (e:H d=some (.dK kvs)):∀ o' u',X.H₀ d≠some (.frz o' u'):=fun o' u' z=>by
 have q:=I.base.frzs d o' u' z;rw[e] at q;cases q
theorem KV.get:∀{kvs:List (Key × V)}{vs:List (Key × Value)}{i:Nat}{k:Key}{x:V},KV kvs vs->kvs[i]?=some (k,x)->∃ u,vs[i]?=some (k,u)/\RelV x u
 | _,_,_,_,_,.nil,e=>by simp at e
 | _,(_,_)::_,0,_,_,.cons r _,e=>by
  simp at e;subst e;obtain⟨r1,r2⟩:=r
  dsimp only at r1 r2
  subst r1;exact⟨_,rfl,r2⟩
 | _,_,i+1,k,x,.cons _ t,e=>by
  obtain⟨u,h1,h2⟩:=KV.get (i:=i) (k:=k) (x:=x) t (by simpa using e);exact⟨u,by simpa using h1,h2⟩
theorem xpn {P:Program}{w:World}{k:Key}{u:Value} (h:(xak P w).is k u=true):RelV (kV k) u:=by
 rcases xbm (show xfh k u=true from h) with⟨i,t,rfl,rfl⟩|⟨x,t,rfl,rfl⟩
 .exact ⟨t,rfl⟩
 .exact ⟨t,rfl⟩
theorem xh2 {d:Addr}{o:Obj}{kvs:List (Key × V)}{ep:Nat} (I:Inv X pins Z H s) (e:H d=some (.frz o (.dK kvs))) (hep:∃ es,o.data=.dict es ep):∃ vs,KV kvs vs/\s.heap.DictAt (xak X.prog X.w) d vs ep:=by
 obtain⟨g,_,_,vs,rel,o',es',ep',g',ex,hdat,hk,hp,hn⟩:=I.hok d _ e;rw[g] at g';cases g';obtain⟨es,he⟩:=hep;rw[he] at hdat;cases hdat;exact⟨vs,rel,o,_,g,ex,he,hk,hp,hn⟩
end
def Iti (d:Addr) (o:Obj) (kvs:List (Key × V)):It :=
 ⟨fun i H=>H d=some (.frz o (.dK kvs))/\i<kvs.length,fun i H v H'=>∃ p k x,kvs[i]?=some (k,x)/\v=.ref p/\H p=none/\H'=upd H p (.tup [kV k,x]),fun i H=>H d=some (.frz o (.dK kvs))/\kvs.length<=i⟩
theorem xnt {P:Program}{w:World}{K:Zd}{elts:List Expr}{x1}{tpos:Pos} (d it:Addr) (o:Obj) (kvs:List (Key × V)) (ep:Nat) (hep:∃ es,o.data=.dict es ep) :
    Turn P w K (.Tuple elts x1 tpos) (Iti d o kvs) [it] it (fun i h=>∃ ok ov,IsItemIter h it d i kvs.length ep ok ov) where
  mem:=by simp
  obj:=fun i h st b hb=>by
    have e:b=it:=by simpa using hb
    subst e;obtain⟨ok,ov,st⟩:=st;exact⟨_,st,fun v z=>by
      have z':QU _=Data.cell v:=z;cases z'⟩
  keep:=fun i h h' ⟨ok,ov,st⟩ k=>⟨ok,ov,k it (by simp) _ st⟩
  item:=by
    intro X hP hw hK hc i pins s Z H E I hf st hg;subst hP hw hK;obtain⟨ok,ov,st⟩:=st;obtain⟨e,lt⟩:=hg;obtain⟨vs,rel,da⟩:=xh2 I e hep;obtain⟨f0,f1,f2,f3,f4,f5⟩:=hf it (by simp);have hl:kvs.length=vs.length:=rel.length;obtain⟨⟨k,x⟩,q⟩:∃ y,kvs[i]=y:=⟨_,rfl⟩
    have hx:kvs[i]?=some (k,x):=by rw[Zg lt,q]
    obtain⟨u,hv,ru⟩:=rel.get hx;rw[hl] at st;refine wpAny_pyNext_items_item st da hv fun key h' hkey hout ht hz hkp=>?_;refine⟨_,rfl,wpAny_letOwnedTupleGo_items hout fun h'' hit' hsb=>?_⟩;have kk:∀ b o,b≠it->s.heap.get? b=some o->h''.get? b=some o:=fun b o hb g=>(hsb.2 b hb).trans (hkp b o hb g);have I1:Inv X pins Z H { s with heap:=h'' }:=I.turned (t':=s.toks) kk f0 f1 f3 f4 f5;obtain⟨n0,nL,nC,nP⟩:=I.size_lt (Zl s.heap.objs.size);have itlt:it<s.heap.objs.size:=Zq st;have pne:s.heap.objs.size≠it:=Yg itlt;have hp:h''.get? s.heap.objs.size=some { cls:=.type "tuple",data:=.seq #[key,u] }:=(hsb.2 _ pne).trans ht;refine⟨.ref s.heap.objs.size,upd H s.heap.objs.size (.tup [kV k,x]),I1.adopt n0 I.sz nL nC nP ⟨by show 2<=sizeLine; decide,[key,u],.cons (xpn hkey) (.cons ru .nil),_,hp,rfl,_,rfl⟩,rfl,⟨_,k,x,hx,rfl,n0,rfl⟩,?_,fun b hb=>?_⟩
    . rw[<- hl] at hit'
      exact⟨_,_,hit'⟩
    . have e:b=it:=by simpa using hb
      subst e;rw[xg (ZE pne)];exact f0
  done:=by
    intro X hP hw hK hc i pins s Z H E I hf st hg;subst hP hw hK;obtain⟨ok,ov,st⟩:=st;obtain⟨e,le⟩:=hg;obtain⟨vs,rel,da⟩:=xh2 I e hep;obtain⟨f0,f1,f2,f3,f4,f5⟩:=hf it (by simp);have hl:kvs.length=vs.length:=rel.length;rw[hl] at st;exact wpAny_pyNext_items_end (I.ok.hd hc) st da (by simpa using (by omega:vs.length<=i)) fun h' eb=>⟨rfl,I.turned (t':=s.toks) (fun b o hb e=>eb b o hb e) f0 f1 f3 f4 f5⟩
  self:=fun _ _ _ _ _ ⟨ok,ov,st⟩ h=>PySem.W.kcp_self st h
def xvf (X:Cx) (to:TE):TI:=fun Z H R=>to Z H fun x H1=>∃ d kvs,x=.ref d/\H1 d=some (.dK kvs)/\∀ ob,(∀ o' u',X.H₀ d≠some (.frz o' u'))->R (Iti d ob kvs) (upd H1 d (.frz ob (.dK kvs)))
section
variable {X:Cx}{o:Expr}{to:TE}{elts:List Expr}{x1:_}{tpos apos cpos:Pos}
theorem xc8 (ho:PE X o to) (hbase:attributeBase o "items" X.env (eval o X.env)=eval o X.env:=by rfl) (hline:(apos.endLine == cpos.line)=true:=by rfl) :
    PI X (.Tuple elts x1 tpos) (.Call (.Attribute o "items" apos) [] [] cpos) (xvf X to):=by
  intro pins s Z H R I h;refine wpAny_Call_method0_late hbase hline (thn (ho pins s Z H _ I h) fun v s1 ⟨x,H1,I1,r1,q1⟩=>?_);obtain⟨d,kvs,e1,e,q⟩:=q1;subst e1;cases r1;obtain⟨z,hd,vs,rel,dd⟩:=xgh I1.hok e;obtain⟨ob,es,ep,g,ex,hdat,hk,hp,hn⟩:=id dd;refine⟨"dict", "dict.items",Q1,PySem.F.slot_dict_items,PySem.F.type_dict_items,dd.typeIs,fun a e2=>?_,YM rfl (PySem.evalArgs_none ?_)⟩
  . cases e2
    exact⟨ob,g,ex.2.1⟩
  refine call_meetsIn PySem.F.slot_dict_items dd.typeIs PySem.F.entry_dict_items (PySem.F.args_dict_items_1 _) (meets_dict_items (xak X.prog X.w) d hd) ⟨⟨vs,dd⟩,?_⟩;have da:(s1.heap.push { cls:=.type "dict_items",data:=.fields #[.ref d] }).DictAt (xak X.prog X.w) d vs ep:=⟨ob,es,Zi _ g,ex,hdat,hk,hp,hn⟩
  refine wpAny_pyIter_items (s:={ s1 with heap:=s1.heap.push { cls:=.type "dict_items",data:=.fields #[.ref d] } }) ⟨_,Z2 _ rfl,rfl,rfl⟩ da ?_;have I2:Inv X pins Z H1 { s1 with heap:=s1.heap.push { cls:=.type "dict_items",data:=.fields #[.ref d] } }:=I1.kept (t':=s1.toks) fun b o e=>Zi _ e;generalize hs2:({ s1 with heap:=s1.heap.push { cls:=.type "dict_items",data:=.fields #[.ref d] } }:Shared)=s2 at I2;have g2:s2.heap.get? d=some ob:=by rw[<- hs2]; exact Zi _ g
  have I3:Inv X pins Z (upd H1 d (.frz ob (.dK kvs))) s2:=I2.write (t':=s2.toks) (x:=d) (e:=d) (by rw[e]; exact Jr) (.inl rfl) (fun b u _ q=>q) ⟨ob,g2⟩ ⟨g2,I2.hok d _ e⟩;have I4:Inv X pins Z (upd H1 d (.frz ob (.dK kvs))) { s2 with heap:=s2.heap.push { cls:=.type "dict_itemiterator",data:=.fields #[.none,.bool false,.ref d,.int 0 0,.int vs.length 0,.int ep 0,.none,.none] } } :=
    I3.kept (t':=s2.toks) fun b o e=>Zi _ e
  have fin:PIE X pins Z (.Tuple elts x1 tpos) R (.ref s2.heap.objs.size) { s2 with heap:=s2.heap.push { cls:=.type "dict_itemiterator",data:=.fields #[.none,.bool false,.ref d,.int 0 0,.int vs.length 0,.int ep 0,.none,.none] } }:=by
    refine⟨s2.heap.objs.size,[s2.heap.objs.size],_,_,upd H1 d (.frz ob (.dK kvs)),rfl,I4,xnt d _ ob kvs ep ⟨es,hdat⟩,⟨.none,.none,?_⟩,fun b hb=>?_,q ob (I1.nofrz e)⟩
    . have hl:kvs.length=vs.length:=rel.length
      show IsItemIter _ _ d 0 kvs.length ep .none .none;rw[hl];exact Z2 _ rfl
    . have eb:b=s2.heap.objs.size:=by simpa using hb
      subst eb;exact I3.fpOk (Zl _) (I3.hok.fresh (Zl _))
  exact fin
theorem xpz {pins:List (Addr × Obj)}{Z:St}{Q:VK}{u:Value}{s:Shared} (h:EP X pins Z (fun v H2=>∃ d ob u,H2 d=some (.frz ob u)/\(∀ o' u',X.H₀ d≠some (.frz o' u'))/\Q v (upd H2 d u)) u s):EP X pins Z Q u s:=by
 obtain⟨v,H2,I2,r2,d,ob,u',e,nf,q⟩:=h;exact⟨v,_,I2.thaw e nf,r2,q⟩
theorem xmz {e:Expr}{t:TE} (h:PE X e t):PE X e (fun Z H Q=>t Z H fun v H2=>∃ d ob u,H2 d=some (.frz ob u)/\(∀ o' u',X.H₀ d≠some (.frz o' u'))/\Q v (upd H2 d u)):=fun pins s Z H Q I q =>
 thn (h pins s Z H _ I q) fun _ _ z=>xpz z
end
end L2
namespace PySem.F
theorem xl_plain_dict_loop:plainId "dict.update.loop"=true:=by decide +kernel
theorem xl_entry_dict_loop:entryFor table "dict.update.loop"=some Builtin.«dict.update.loop»:=entryFor_of_tree (by kernel_rfl)
theorem xl_list_nokeys:typeLookup (.type "list") "keys"=pure none:=by rw[typeLookup_type,QK]; kernel_rfl
end PySem.F
namespace L2
open PySem PySem.Spec PyProof.Rows XL
variable {q0:Bool}
theorem xoo {prog:Program}{w:World}{A:Around}{E:Value->Shared->Prop}{s:Shared}{a:Addr}{o:Obj}{xs:Array Value}{k:Nat}{Q:Option Value->Shared->Prop}
    (hx:s.heap.get? a=some o) (hc:o.cls=.type "list") (hdat:o.data=.seq xs k) (hd:o.dict=none) (hA:A.handled=none)
    (h:∀ h' tk,(∀ b o,s.heap.get? b=some o->h'.get? b=some o)->Q none { s with heap:=h',toks:=tk }):wpAny (model prog w) A (getAttr? (.ref a) "keys") Q E s:=by
  obtain⟨c,dct,dat,sl⟩:=o;simp only at hc hdat hd;subst hc hdat hd;obtain⟨hp,g,d,tk,os⟩:=s;have hT:∀ tk',(⟨hp,g,d,tk',os⟩:Shared).TypeIs (.ref a) "list":=fun _=>⟨_,hx,rfl⟩
  have f1:=sub_AttributeError;have f3:=Qw.lookup;have f4:=Qw.bind (.ref a);have f5:=am_list_getattr_none;unfold getAttr? getAttrBy? getAttrBy
  repeat (any_goals (first|assumption|exact hT _|((with_reducible show wpAny _ _ (call (Ym "list.__getattribute__") _ _) _ _ _); refine Wp Qw (hT _) am_entry_list_getattribute (F.args_list_getattribute_2 _ _) (meets_getattribute_miss_list a xs k sl "keys" _ F.xl_list_nokeys (by decide +kernel) (by size_fits)) ⟨hx,hA,fun h' tk' e hx'=>?_⟩)|wp_step))
  obtain⟨t',u',he⟩:=hx'.there;have hk:=hx'.of.keeps;show wpAny _ _ (getattributeRaised _ _ _ _ _ _ _) _ _ _;unfold getattributeRaised
  repeat (any_goals (first|assumption|wp_step))
  exact h _ _ hk
section
variable {X:Cx}{pins:List (Addr × Obj)}{Z:St}{H:Hp}{s:Shared}{a:Addr}{y v:V}{u r:Value}{A:Around}{E:Value->Shared->Prop}
theorem xpo {H':Hp}{Q:Unit->Shared->Prop} (hu:A.units<cLine) (I:Inv X pins Z H s) (g:DPut H a y v H') (ry:RelV y u) (rv:RelV v r) (h:∀ s',Inv X pins Z H' s'->Q () s') :
    wpAny (model X.prog X.w) A (dictSet a u r) Q E s:=by
  rcases g with⟨kvs,k,e,ey,l,eH⟩|⟨kvs,k,b,e,ey,eb,l,eH⟩
  . subst ey eH
    obtain⟨z,hd,vs,rel,dd⟩:=xgh I.hok e;have hz:vs.length<=sizeLine:=by rw[<- rel.length]; exact z
    have hl:(putK kvs k v).length<=sizeLine:=by have:=xcc kvs k v; omega
    refine wpAny_dictSet_pairs (hsz:=hz) (xdm ry) dd fun h' dd' hs=>h _ ?_;have he:∃ q,h'.get? a=some q:=let ⟨q,_,_,hq,_⟩:=dd'; ⟨q,hq⟩;exact xea I (by rw[e]; exact Jr) hs he (xla hl hd (rel.put k rv) dd')
  . subst ey eH
    cases (show u=Zo b from ry);obtain⟨z,hd,xs,rel,dd⟩:=xh4 I.hok e;have hz:xs.length<=sizeLine:=by rw[<- Yn rel]; exact z
    have hl:(putK kvs k v).length<=sizeLine:=by have:=xcc kvs k v; omega
    refine wpAny_dictSet_heap (hsz:=hz) (show (tupleKind (xak X.prog X.w)).room A from hu) (xef I.hok eb) dd fun h' dd' hs=>h _ ?_;obtain⟨q,es,ep,hq,h2,h3,h4,_,h5⟩:=dd';refine xea I (by rw[e]; exact Jr) hs ⟨q,hq⟩ ⟨hl,hd,_,(rel.put k eb rv).keeps fun c ys ec=>?_,q,es,ep,hq,h2,h3,h4,h5⟩;rw[xg (xgj ec e (fun z=>nomatch z))];exact ec
theorem DPut.stay {d b:Addr}{H':Hp}{o:HO} (g:DPut H d y v H') (e:H b=some o) (n1:∀ kvs,o≠.dK kvs) (n2:∀ kvs,o≠.dT kvs):H' b=some o:=by
 rcases g with⟨kvs,k,e2,_,_,rfl⟩|⟨kvs,k,b2,e2,_,_,_,rfl⟩
 .rw [xg (xgj e e2 (n1 _))];exact e
 .rw [xg (xgj e e2 (n2 _))];exact e
theorem DPut.free {d b:Addr}{H':Hp} (g:DPut H d y v H') (e:H b=none):H' b=none:=by
 rcases g with⟨kvs,k,e2,_,_,rfl⟩|⟨kvs,k,b2,e2,_,_,_,rfl⟩
 .rw [xg (ZE (xi e2 e))];exact e
 .rw [xg (ZE (xi e2 e))];exact e
end
inductive xgi (d:Addr):Hp->List (V × V)->Hp->Prop
 | nil {H:Hp}:xgi d H [] H
 | cons {H H1 H2:Hp}{y v:V}{r:List (V × V)}:DPut H d y v H1->xgi d H1 r H2->xgi d H ((y,v)::r) H2
theorem xg2 {X:Cx}{pins:List (Addr × Obj)}{Z:St}{A:Around}{R:Result->Shared->Prop} (hh:A.in1.handled=none) (hu:A.in1.units<cLine) {l it d:Addr} :
    ∀(ps:List (Addr × V × V)) (pre:List V) (j:Int) (H H2:Hp) (s:Shared),Inv X pins Z H s->H l=some (.lst (pre++ps.map fun p=>.ref p.1))->(∀ p∈ps,H p.1=some (.tup [p.2.1,p.2.2]))->xgi d H (ps.map (·.2)) H2 ->
      s.heap.IsListIter it l pre.length->FpOk X pins H it->(∀ s',Inv X pins Z H2 s'->R (.ok (.ret .none)) s') ->
      codeAny (model X.prog X.w) A (.builtin "dict.update.loop" ⟨[.ref d,.ref it,rawInt j,.none],[]⟩) R s
  | [],pre,j,H,H2,s,I,hl,hp,dp,st,fo,fin=>by
    cases dp;obtain⟨z,its,n,r,hl2,e⟩:=I.lstM hl;obtain⟨f0,f1,f2,f3,f4,f5⟩:=fo;refine codeAny_builtin F.xl_entry_dict_loop ?_;rw[Around.under_plainId F.xl_plain_dict_loop _];show wpAny _ A.in1 (pyNext (.ref it)>>=_) _ _ s;refine Zc (wpAny_pyNext_list_end hh st ⟨_,e,rfl,_,rfl⟩ (by simp at hl2 ⊢; omega) fun h' eb=>?_);show wpAny _ A.in1 (Builtin.Dict.addKeywords d []>>=_) _ _ _;exact Zc (Zm (Zm (fin _ (I.turned (t':=s.toks) (fun b o hb e=>eb b o hb e) f0 f1 f3 f4 f5))))
  | (a,y,v)::ps,pre,j,H,H2,s,I,hl,hp,dp,st,fo,fin=>by
    have fo':=fo;obtain⟨f0,f1,f2,f3,f4,f5⟩:=fo;cases dp with
    | @cons _ H1 _ _ _ _ g dp =>
    obtain⟨z,its,n,r,hl2,e⟩:=I.lstM hl;obtain⟨u,hu1,ru⟩:=r.get (i:=pre.length) (x:=.ref a) (by simp);obtain rfl:u=Zo a:=ru;refine codeAny_builtin F.xl_entry_dict_loop ?_;rw[Around.under_plainId F.xl_plain_dict_loop _];show wpAny _ A.in1 (pyNext (.ref it)>>=_) _ _ s;refine Zc (wpAny_pyNext_list_item st ⟨_,e,rfl,_,rfl⟩ (x:=.ref a) (by simpa using hu1) fun h' st' sb=>?_);have I1:Inv X pins Z H { s with heap:=h' }:=I.turned (t':=s.toks) (fun b o hb e=>(sb.2 b hb).trans e) f0 f1 f3 f4 f5;obtain⟨z2,ts,rt,ot,et,ct,nt,dt⟩:=I1.hok a _ (hp _ Zv);obtain⟨uk,uv,rfl,rk,rv⟩:=xh3 rt;show wpAny _ A.in1 (holding [.ref a] _>>=_) _ _ _;refine Zc (J5 ?_);refine Zc (wpAny_tryCatch ?_);unfold Builtin.Dict.pairItems;refine Zc (Yy (T:="tuple") ⟨ot,et,ct⟩ ?_);rw[if_pos (by decide)];refine Zc (wpAny_seqItems et dt (Zm ?_));show wpAny _ A.in1 (holding [uk,uv] (dictSet d uk uv)) _ _ _;have ob:∀ b∈[it],∃ o,h'.get? b=some o/\∀ v,o.data≠.cell v:=fun b hb=>by
      have e:b=it:=by simpa using hb
      subst e;obtain⟨o,e,c,d⟩:=id st';exact⟨o,e,fun v z=>by rw[d] at z; cases z⟩
    have I1':=I1.pinned (fp:=[it]) (fun b hb=>by
      have e:b=it:=by simpa using hb
      subst e;exact fo') ob
    refine J5 (xpo hu I1' g rk rv fun s' I2=>?_);refine Zm ⟨plainId_quiet F.xl_plain_dict_loop _,?_⟩;have fo2:FpOk X pins H1 it:=⟨g.free f0,f1,f2,f3,f4,f5⟩
    have st2:s'.heap.IsListIter it l (pre++[V.ref a]).length:=by
      rw[Zp];exact st'.at fun o e=>(I2.pin (it,o) (ZN _ (ZN _ (xdk (by simp) e)))).1
    refine xg2 hh hu ps (pre++[V.ref a]) (j+1) H1 H2 s' I2.unpinned ?_ (fun p hp'=>?_) dp st2 fo2 fin
    . have z:=g.stay hl (fun _ q=>nomatch q) (fun _ q=>nomatch q)
      rw[z];simp
    . exact g.stay (hp p (Zt _ hp')) (fun _ q=>nomatch q) (fun _ q=>nomatch q)
inductive xst (xs:List V) (H:Hp) (Q:VK):Prop
 | mk (l:Addr) (ps:List (Addr × V × V)) (e_:xs=[.ref l]) (r_:H l=some (.lst (ps.map fun p=>.ref p.1))/\(∀ p∈ps,H p.1=some (.tup [p.2.1,p.2.2]))/\∀ d,H d=none->∃ e H2,(e=.dK []\/e=.dT [])/\xgi d (upd H d e) (ps.map (·.2)) H2/\Q (.ref d) H2)
theorem xln {X:Cx} (hc:X.calm=true) (hu:X.A.units+3<cLine):xbz X (.type "dict") xst:=by
 intro pins s Z H xs us Q I r h;obtain⟨l,ps,rfl,hl,hp,q⟩:=h;obtain⟨u,rfl,rx⟩:=xb4 r;obtain rfl:u=Zo l:=rx;refine callType_codes (Q₁:=fun obj s₁=>obj=.ref s.heap.objs.size/\s₁={ s with heap:=s.heap.push { cls:=.type "dict",data:=.dict #[] } }) F.kt_called_dict (F.kt_typeCall_dict_1 _) F.entry_dict_init (kt_code_dict_new _ ⟨rfl,rfl⟩) ?_;rintro obj s₁ ⟨rfl,rfl⟩;obtain⟨e,H2,he,dps,q2⟩:=q s.heap.objs.size I.fresh;have I1:Inv X pins Z (upd H s.heap.objs.size e) { s with heap:=s.heap.push { cls:=.type "dict",data:=.dict #[] } }:=by
  refine I.laid (t':=s.toks) (fun b u e=>Zi _ e) (Zl _) ?_;rcases he with rfl|rfl
  .exact xg5 s.heap I.big
  .exact xk0 s.heap I.big
 have hT:(Shared.mk (s.heap.push { cls:=.type "dict",data:=.dict #[] }) s.gens s.drawn s.toks s.os).TypeIs (.ref s.heap.objs.size) "dict":=⟨_,Z2 _ rfl,rfl⟩
 have nl:l≠s.heap.objs.size:=fun z=>by
  rw[z,I.fresh] at hl;cases hl
 have hl1:upd H s.heap.objs.size e l=some (.lst (ps.map fun p=>.ref p.1)):=by rw[xg nl]; exact hl
 obtain⟨z,its,n,rr,hll,el⟩:=I1.lstM hl1;refine⟨hT,F.args_dict_init_2 _ _,?_⟩;unfold Builtin.«dict.__init__»;refine Zc ?_;unfold Builtin.Dict.selfAndRest;refine Zc (QJ hT ?_);show wpAny _ _ (pure (s.heap.objs.size,[Zo l])) _ _ _;refine Zm ?_;show wpAny _ _ (Builtin.Dict.updateFrom "dict.__init__" s.heap.objs.size (.ref l) [] .none) _ _ _;unfold Builtin.Dict.updateFrom;refine Zc (Yy (T:="list") ⟨_,el,rfl⟩ ?_);rw[if_pos (by decide)];refine Zc (xoo el rfl rfl rfl (I.ok.hd hc) fun h' tk hk=>?_);have I2:=I1.kept (h':=h') (t':=tk) hk;show wpAny _ _ (rule _>>=_) _ _ _;refine Zc (wpAny_rule ?_);refine Zc (wpAny_pyIter_list ⟨_,hk _ _ el,rfl,_,rfl⟩ ?_);refine Zm ⟨plainId_quiet F.xl_plain_dict_loop _,?_⟩;have I3:Inv X pins Z (upd H s.heap.objs.size e) _:=I2.kept (t':=tk) (h':=h'.push { cls:=.type "list_iterator",data:=.fields #[.ref l,.int 0 0] }) fun b o e=>Zi _ e;refine xg2 (A:=X.A.in1) (I.ok.hd hc) (by show X.A.units+1+1<cLine; omega) ps [] 0 _ H2 _ I3 (by simpa using hl1) (fun p hp'=>?_) dps ?_ ?_ fun s' I'=>?_
 .rw [xg (xi (hp p hp') I.fresh)];exact hp p hp'
 .exact ⟨_,Z2 _ rfl,rfl,rfl⟩
 .exact I2.fpOk (Zl _) (I2.hok.fresh (Zl _))
 .exact ⟨rfl,⟨.ref _,H2,I',rfl,q2⟩⟩
theorem xex {X:Cx}{e:Expr}{t1 t2:TE} (h1:PE X e t1) (h2:PE X e t2):PE X e (fun Z H Q=>t1 Z H Q\/t2 Z H Q):=fun pins s Z H Q I h=>h.elim (h1 pins s Z H Q I) (h2 pins s Z H Q I)
def Itrs (lo d:Int) (n:Nat):It:=⟨fun i _=>i<n,fun i H x H'=>H'=H/\x=.int (lo+(i:Int)*d),fun i _=>n<=i⟩
theorem xly {P:Program}{w:World}{K:Zd}{tg:Expr} (it:Addr) (lo d:Int) (n:Nat):Turn P w K tg (Itrs lo d n) [it] it (fun i h=>IsRangeIter h it (lo+(i:Nat)*d) ((n:Int)-(i:Nat)) d) where
 mem:=by simp
 obj:=fun i h st b hb=>by
  have e:b=it:=by simpa using hb
  subst e;exact⟨_,st,fun v z=>by
   have z':QU _=Data.cell v:=z;cases z'⟩
 keep:=fun i h h' st k=>k it (by simp) _ st
 item:=by
  intro X hP hw hK hc i pins s Z H E I hf st hg;subst hP hw hK;obtain⟨f0,f1,f2,f3,f4,f5⟩:=hf it (by simp);have W:=Walks.range (prog:=X.prog) (w:=X.w) (I.ok.hd hc) it lo d n;refine W.item i s _ _ hg st fun v h' tk hv st' kk=>?_;obtain⟨t,rfl⟩:=hv;have I1:Inv X pins Z H { s with heap:=h',toks:=tk }:=I.turned (fun b o hb e=>kk b o (by simpa using hb) e) f0 f1 f3 f4 f5;exact⟨_,rfl,xkc (s:={ s with heap:=h',toks:=tk }) (n:="range_iterator") st' rfl rfl (by decide) ⟨.int (lo+(i:Int)*d),H,I1,⟨t,rfl⟩,⟨rfl,rfl⟩,st',fun b hb=>(hf b hb).1⟩⟩
 done:=by
  intro X hP hw hK hc i pins s Z H E I hf st hg;subst hP hw hK;obtain⟨f0,f1,f2,f3,f4,f5⟩:=hf it (by simp);exact wpAny_pyNext_range_end (I.ok.hd hc) st (by have:n<=i:=hg; omega) fun h' eb=>⟨rfl,I.turned (t':=s.toks) (fun b o hb e=>eb b o hb e) f0 f1 f3 f4 f5⟩
 self:=fun _ _ _ _ _ st h=>wpAny_pyIter_rangeiter st h
theorem xfb (a b:Int):Builtin.Range.rangeSize a b (-1)=if b<a then a-b else 0:=by
 unfold Builtin.Range.rangeSize;rw[if_neg (by decide)];simp only[Int.neg_neg,Int.ediv_one];split<;>omega
theorem xny {a b:Int} (ha:-(2 ^ 62)<=a) (ha':a<2 ^ 62) (hb:-(2 ^ 62)<=b) (hb':b<2 ^ 62):Builtin.Range.small a b (-1)=true:=by
 unfold Builtin.Range.small;rw[xfb];simp only[Builtin.Range.rangeFitsLong,Zs,JY,decide_eq_true_eq,beq_iff_eq,show ¬ ((-1:Int)>0) by decide,if_false];split<;>omega
section
variable {X:Cx}{tg:Expr}
theorem xjd {pins:List (Addr × Obj)}{Z:St}{H:Hp}{s:Shared}{R:It->Hp->Prop}{E:Value->Shared->Prop}{lo hi d:Int}{n:Nat}{t u v:Tok}{tk:Nat} (I:Inv X pins Z H s) (sm:Builtin.Range.small lo hi d=true) (sz:Builtin.Range.rangeSize lo hi d=n)
    (q:R (Itrs lo d n) H):wpAny (model X.prog X.w) X.A (pyIter (.ref s.heap.objs.size)) (PIE X pins Z tg R) E { s with heap:=s.heap.push { cls:=.type "range",data:=.fields #[.int lo t,.int hi u,.int d v] },toks:=tk }:=by
  refine wpAny_pyIter_range (IsRange.new ..) sm ?_;have I1:Inv X pins Z H { s with heap:=s.heap.push { cls:=.type "range",data:=.fields #[.int lo t,.int hi u,.int d v] },toks:=tk }:=I.kept fun b o e=>Zi _ e;refine⟨(s.heap.push { cls:=.type "range",data:=.fields #[.int lo t,.int hi u,.int d v] }).objs.size,[(s.heap.push { cls:=.type "range",data:=.fields #[.int lo t,.int hi u,.int d v] }).objs.size],_,_,H,rfl,
    I1.kept (t':=tk) fun b o e=>Zi _ e,xly _ lo d n,?_,fun b hb=>?_,q⟩
  . have e1:lo+((0:Nat):Int)*d=lo:=by simp
    have e2:((n:Nat):Int)-((0:Nat):Int)=Builtin.Range.rangeSize lo hi d:=by rw[sz]; simp
    show IsRangeIter _ _ (lo+((0:Nat):Int)*d) (((n:Nat):Int)-((0:Nat):Int)) d;rw[e1,e2];exact Z2 _ rfl
  . have e:b=(s.heap.push { cls:=.type "range",data:=.fields #[.int lo t,.int hi u,.int d v] }).objs.size:=by simpa using hb
    subst e;exact I1.fpOk (Zl _) (I1.hok.fresh (Zl _))
def xws (ta:TA):TI:=fun Z H R=>ta Z H fun vs H1=>∃ i j d:Int,vs=[.int i,.int j,.int d]/\(-(2 ^ 62)<=i/\i<2 ^ 62/\-(2 ^ 62)<=j/\j<2 ^ 62)/\((d=1/\R (Itrs i 1 (j-i).toNat) H1)\/(d=-1/\R (Itrs i (-1) (i-j).toNat) H1))
theorem xju {a b c:Expr}{ta:TA}{p pos:Pos} (hg:Gl X "range") (hm:X.mg "range"=none) (ha:PA X [a,b,c] ta) (hs:starEach [a,b,c] X.env=[(false,eval a X.env),(false,eval b X.env),(false,eval c X.env)]:=by rfl) (hs2:starEach [b,c] X.env=[(false,eval b X.env),(false,eval c X.env)]:=by rfl) :
    PI X tg (.Call (.Name "range" p) [a,b,c] [] pos) (xws ta):=by
  intro pins s Z H R I h;refine Call_ (xc1 I hg hm boot_range (Ji (thn (ha pos pins s Z H _ I h) fun us s1 ⟨vs,H1,I1,r1,q1⟩=>?_) (by rw[hs,hs2]) (by rw[hs2]; rfl)));obtain⟨i,j,d,e,⟨q1,q2,q3,q4⟩,q⟩:=q1;subst e;cases r1 with
  | cons r rr =>
    cases rr with
    | cons r' rr =>
      cases rr with
      | cons r'' rr =>
        cases rr;obtain⟨t,rfl⟩:=r;obtain⟨t',rfl⟩:=r';obtain⟨t'',rfl⟩:=r'';rcases q with⟨rfl,q⟩|⟨rfl,q⟩
        . exact call_range_3 (by decide) (xjd I1 (small_one q1 q2 q3 q4) (by rw[rangeSize_one]; split<;>omega) q) (Zn (QA (by decide)))
        . exact call_range_3 (by decide) (xjd I1 (xny q1 q2 q3 q4) (by rw[xfb]; split<;>omega) q) (Zn (QA (by decide)))
end
theorem xgu {xs:List V}{us:List Value} (r:Vals xs us) {j:Nat} (h:j<us.toArray.size):∃ x,xs[j]?=some x/\RelV x us.toArray[j]:=by
 have hl:=r.length;have hj:j<xs.length:=by simp at h; omega
 obtain⟨u,h1,h2⟩:=r.get (x:=xs[j]) (Zg hj);refine⟨xs[j],Zg hj,?_⟩;have:us.toArray[j]=u:=by
  have z:=Zf.mp h1;obtain⟨z1,z2⟩:=z;simpa using z2
 rw[this];exact h2
theorem xtz {A:Around}{k:Nat} (hr:Room q0 k A):A.units+3<cLine:=by have:=hr.un; omega
theorem xch {A:Around}{k:Nat} (hr:Room q0 k A):A.units+20<cLine:=by have:=hr.un; omega
theorem xgf {X:Cx}:xbz X (.builtin "len") (fun xs H Q=>∃ a kvs,xs=[.ref a]/\H a=some (.dK kvs)/\Q (.int kvs.length) H):=by
 intro pins s Z H xs us Q I r h;obtain⟨a,kvs,rfl,e,q⟩:=h;obtain⟨u,rfl,rx⟩:=xb4 r;obtain rfl:u=Zo a:=rx;exact xvw I (.inl e) fun t s' I'=>⟨.int _,H,I',⟨t,rfl⟩,q⟩
inductive Ents (w:World):List DictEntry->List (Key × V)->Prop
 | nil:Ents w [] []
 | cons {k:Key}{x:V}{key val:Value}{h:Int}{es:List DictEntry}{kvs:List (Key × V)} (hh:h=keyH w k) (hk:RelV (kV k) key) (hv:RelV x val) (r:Ents w es kvs):Ents w (⟨h,key,val⟩::es) ((k,x)::kvs)
def xnx (w:World) (K:Zd) (D:Addr) (kvs:List (Key × V)):Prop:=(D == sysModules)=false/\∃(es:Array DictEntry) (ep:Nat),K.lookup D=some ⟨.type "dict",none,.dict es ep,#[]⟩/\Ents w es.toList kvs/\(kvs.map (·.1)).Nodup
theorem Ents.ok {P:Program}{w:World}{es:List DictEntry}{kvs:List (Key × V)} (h:Ents w es kvs):∃ vs,KV kvs vs/\Pairs (xak P w) es vs/\∀ e∈es,∃ k,(xak P w).is k e.key=true/\e.hash=(xak P w).hash k:=by
 induction h with
 | nil=>exact⟨[],.nil,.nil,fun e z=>nomatch z⟩
 | @cons k x key val h es kvs hh hk hv _ ih =>
  obtain⟨vs,a,b,c⟩:=ih;refine⟨(k,val)::vs,.cons ⟨rfl,hv⟩ a,.cons (xdm hk) rfl b,fun e he=>?_⟩;rcases Zy.mp he with rfl|z
  .exact ⟨k,xdm hk,hh⟩
  .exact c e z
section
variable {X:Cx}{pins:List (Addr × Obj)}{Z:St}{H:Hp}{s:Shared}{D:Addr}{kvs:List (Key × V)}
theorem xqg (I:Inv X pins Z H s) (g:xnx X.w X.K D kvs):∃ vs,KV kvs vs/\s.heap.DictOf (xak X.prog X.w) D vs:=by
 obtain⟨_,es,ep,l,en,nd⟩:=g;obtain⟨vs,a,b,c⟩:=en.ok (P:=X.prog);refine⟨vs,a,_,es,ep,I.kIn _ _ l,⟨rfl,rfl,rfl⟩,rfl,fun e he=>c e (by simpa using he),b,?_⟩;rw[<- a.keys];exact nd
def tGIn (kvs:List (Key × V)) (neg:Bool) (ty:TE):TE:=fun Z H Q=>ty Z H fun y H1=>∃ k:Key,y=kV k/\Q (.bl (if neg then !(valV kvs k).isSome else (valV kvs k).isSome)) H1
theorem xoa {i:Expr}{ty:TE}{x:Str}{p:Pos} (hi:PE X i ty) (hg:Gl X x) (hm:X.mg x=some (.ref D)) (g:xnx X.w X.K D kvs) (hd:(x == ("__debug__":Str))=false:=by decide):PC X .NotIn i (.Name x p) (tGIn kvs true ty):=by
 intro pins s Z H Q I h;refine thn (hi pins s Z H _ I h) fun iv s1 ⟨y,H1,I1,ry,k,ey,q1⟩=>thn (xdx (v:=.ref D) hg hm rfl hd pins s1 Z H1 (fun v H2=>v=.ref D/\H2=H1) I1 ⟨rfl,rfl⟩) fun u s2 ⟨x,H2,I2,rx,e1,e2⟩=>?_;subst ey e1 e2;obtain rfl:u=Zo D:=rx;obtain⟨vs,rel,dd⟩:=xqg I2 g;refine wpAny_notIn_of (xdm ry) g.1 dd.mapOf ?_;rw[<- (rel.val k).isSome_eq];exact⟨.bl _,_,I2.tok _,rfl,q1⟩
end
section
variable {X:Cx}{pins:List (Addr × Obj)}{Z:St}{H:Hp}{s:Shared}{h':Heap}
theorem Inv.turnedL {t':Nat}{ch:List Addr} (I:Inv X pins Z H s) (k:∀ b o,b∉ch->s.heap.get? b=some o->h'.get? b=some o) (hf:∀ b∈ch,FpOk X pins H b):Inv X pins Z H { s with heap:=h',toks:=t' }:=by
 have nit:∀ b u,H b=some u->b∉ch:=fun b u e z=>by
  have:=(hf b z).1;rw[this] at e;cases e
 refine I.step (g':=s.gens) (d':=s.drawn) (ch:=ch) (fun b hb=>?_) (fun b o _ _ hc e _=>k b o hc e) (fun b o _ _ hc e _=>⟨o.slots,k b o hc e⟩) (fun _ _ _ _ n=>n)
  (fun b o hc e=>⟨o,k b o hc e⟩) (fun _ _ e=>e) (fun _ _ _ e=>e) (fun b ps e=>⟨#[],by rw[e]; simp⟩) (fun m hm=>?_) (fun b u e=>?_) I.bare
 .obtain ⟨f0,f1,f2,f3,f4,f5⟩:=hf b hb;exact⟨f3,f1,f4,f5⟩
 .obtain ⟨o,es,ep,ho,r⟩:=hm;exact⟨o,es,ep,k _ o (fun z=>(hf _ z).2.1 rfl) ho,r⟩
 .refine (I.hok b u e).stay (fun c v hc q=>k c v ?_ q) (fun _ q=>q) fun _ _ q=>q;rcases hc with z|z
  .rw [z]; exact nit b u e
  .exact nit c _ z
end
theorem xn3 {a b:Nat} (h:a≠b):(a:Addr)≠(b:Addr):=h
def Ite (K:Zd) (a:Addr):It :=
 ⟨fun i H=>∃ xs x,SqL K H a xs/\xs[i]?=some x,fun i H v H'=>∃ p x,(∀ xs,SqL K H a xs->xs[i]?=some x)/\v=.ref p/\H p=none/\H'=upd H p (.tup [.int i,x]),fun i H=>∃ xs,SqL K H a xs/\xs.length<=i⟩
theorem xof {P:Program}{w:World}{K:Zd}{elts:List Expr}{x1}{tpos:Pos} (e it l:Addr) (hei:e≠it) :
    Turn P w K (.Tuple elts x1 tpos) (Ite K l) [e,it] e (fun i h=>(∃ old,IsEnum h e it i old)/\h.IsListIter it l i) where
  mem:=by simp
  obj:=fun i h st b hb=>by
    obtain⟨⟨old,he⟩,⟨o1,e1,c1,d1⟩⟩:=st;simp only[Zy,J0,or_false] at hb;rcases hb with rfl|rfl
    . exact⟨_,he,fun v k=>by have k':QU _=Data.cell v:=k; cases k'⟩
    . exact⟨_,e1,fun v k=>by rw[d1] at k; cases k⟩
  keep:=fun i h h' ⟨⟨old,he⟩,h1⟩ k=>⟨⟨old,k e (by simp) _ he⟩,h1.at fun o z=>k it (by simp) o z⟩
  item:=by
    intro X hP hw hK hc i pins s Z H E I hf st hg;subst hP hw hK;obtain⟨xs,x,hq,hx⟩:=hg;obtain⟨its,rv,p,hz1⟩:=I.list hq;obtain⟨u,hu,ru⟩:=rv.get hx;obtain⟨⟨old,he⟩,h1⟩:=id st;refine wpAny_pyNext_enum_item he h1 p.isList (x:=u) (by simpa using hu) hei fun h' ho hit' hT hsz hk=>?_;refine⟨_,rfl,wpAny_letOwnedTupleGo_enum (s:={ s with heap:=h',toks:=s.toks+1 }) ho fun h'' he' hs'=>?_⟩;have elt:e<s.heap.objs.size:=Zq he;have pne:s.heap.objs.size≠e:=Yg elt;have kk:∀ b o,b∉[e,it]->s.heap.get? b=some o->h''.get? b=some o:=fun b o hb g=>by
      simp only[Zy,J0,or_false,not_or] at hb;exact (hs'.2 b hb.1).trans (hk b o hb.1 hb.2 g)
    have I1:Inv X pins Z H { s with heap:=h'',toks:=s.toks+1 }:=I.turnedL kk hf;obtain⟨n0,nL,nC,nP⟩:=I.size_lt (Zl s.heap.objs.size);have hp:h''.get? s.heap.objs.size=some { cls:=.type "tuple",data:=.seq #[.int i s.toks,u] }:=(hs'.2 _ pne).trans hT;refine⟨.ref s.heap.objs.size,upd H s.heap.objs.size (.tup [.int i,x]),I1.adopt n0 I.sz nL nC nP ⟨by show 2<=sizeLine; decide,[.int i s.toks,u],.cons ⟨_,rfl⟩ (.cons ru .nil),_,hp,rfl,_,rfl⟩,rfl,
      ⟨_,x,fun zs hz=>by rw[I.list_inj hz hq]; exact hx,rfl,n0,rfl⟩,?_,fun b hb=>?_⟩
    . exact⟨⟨_,by simpa using he'⟩,hit'.at fun o y=>(hs'.2 it (ZE hei)).trans y⟩
    . obtain⟨o,ho⟩:∃ o,s.heap.get? b=some o:=by
        obtain⟨o1,e1,c1,d1⟩:=h1;simp only[Zy,J0,or_false] at hb;rcases hb with rfl|rfl
        . exact⟨_,he⟩
        . exact⟨_,e1⟩
      rw[xg (ZH (Zq ho))];exact (hf b hb).1
  done:=by
    intro X hP hw hK hc i pins s Z H E I hf st hg;subst hP hw hK;obtain⟨xs,hq,hl⟩:=hg;obtain⟨its,rv,p,hz1⟩:=I.list hq;have e1:=rv.length;obtain⟨⟨old,he⟩,h1⟩:=id st;refine wpAny_pyNext_enum_end (I.ok.hd hc) he h1 p.isList (by simp; omega) fun h' hx=>⟨rfl,I.turnedL (t':=s.toks) (fun b o hb g=>?_) hf⟩
    simp only[Zy,J0,or_false,not_or] at hb;exact hx b o hb.2 g
  self:=fun _ _ _ _ _ ⟨⟨_,st⟩,_⟩ h=>Qr st h
def xvx (K:Zd) (ta:TA):TI:=fun Z H R=>ta Z H fun vs H1=>∃ a xs,vs=[.ref a]/\SqL K H1 a xs/\R (Ite K a) H1
section
variable {X:Cx}{elts:List Expr}{x1:_}{tpos:Pos}
theorem xcg {a:Expr}{ta:TA}{p pos:Pos} (hg:Gl X "enumerate") (hm:X.mg "enumerate"=none) (ha:PA X [a] ta) (hs:starEach [a] X.env=[(false,eval a X.env)]:=by rfl) :
    PI X (.Tuple elts x1 tpos) (.Call (.Name "enumerate" p) [a] [] pos) (xvx X.K ta):=by
  intro pins s Z H R I h;refine Call_ (xc1 I hg hm PyProof.Rows.Boot.«enumerate» (Ji (thn (ha pos pins s Z H _ I h) fun us s1 ⟨vs,H1,I1,r1,q1⟩=>?_) hs rfl));obtain⟨l,xs,e,hq,q⟩:=q1;subst e;obtain⟨u,rfl,ru⟩:=xb4 r1;obtain rfl:u=Zo l:=ru;obtain⟨its,rv,p1,hz1⟩:=I1.list hq;refine call_enumerate_list p1.isList fun h' he h1 hsz hk=>?_;refine Qr (s:={ s1 with heap:=h' }) he ?_;have I2:Inv X pins Z H1 { s1 with heap:=h' }:=I1.kept (t':=s1.toks) hk;refine⟨_,[s1.heap.objs.size+1,s1.heap.objs.size],_,_,H1,rfl,I2,xof _ _ l (xn3 (by omega)),⟨⟨_,he⟩,h1⟩,fun b hb=>?_,q⟩;have hb':s1.heap.objs.size<=b:=by
    simp only[Zy,J0,or_false] at hb;rcases hb with rfl|rfl
    . exact Nat.le_add_right _ 1
    . exact Zl _
  exact I1.fpOk hb' (I1.hok.fresh hb')
end
theorem xdu {K:Zd}{a:Addr}{xs:List V}{g:TG}{tb:TS}{D:Ends}{Z:St}{H:Hp} (Pv:Nat->St->Hp->Prop) (h0:Pv 0 Z H) (hl:∀ i Z H,i<=xs.length->Pv i Z H->SqL K H a xs)
    (hs:∀ i x p Z H,xs[i]?=some x->H p=none->Pv i Z H->g (.ref p) Z (upd H p (.tup [.int i,x])) fun σ2 H2=>tb { D with nx:=Pv (i+1),ct:=Pv (i+1),bk:=D.nx } σ2 H2) (hd:∀ Z H,Pv xs.length Z H->D.nx Z H) :
    ∃ W:Nat->Nat->St->Hp->Prop,(∃ m,W 0 m Z H)/\∀ i m Z H,W i m Z H ->
      ((Ite K a).stop i H/\D.nx Z H)\/((Ite K a).go i H/\∃ N:St->Hp->Prop,(∀ σ' H',N σ' H'->∃ m',m'<m/\W (i+1) m' σ' H')/\∀ x H',(Ite K a).yld i H x H'->g x Z H' fun σ2 H2=>tb { D with nx:=N,ct:=N,bk:=D.nx } σ2 H2):=by
  refine⟨fun i m Z H=>m=xs.length-i/\i<=xs.length/\Pv i Z H,⟨xs.length,by simp,ZZ _,h0⟩,?_⟩;rintro i m Z H ⟨rfl,hi,p⟩;have q:=hl i Z H hi p;by_cases hlt:i<xs.length
  . refine .inr ⟨⟨xs,xs[i],q,by simp[hlt]⟩,Pv (i+1),fun σ' H' p'=>⟨xs.length-(i+1),by omega,rfl,hlt,p'⟩,fun x H' y=>?_⟩
    obtain⟨r,x',e1,rfl,hr,rfl⟩:=y;exact hs i x' r Z H (e1 _ q) hr p
  . have e:i=xs.length:=by omega
    subst e;exact .inl ⟨⟨xs,q,Zl _⟩,hd Z H p⟩
end L2
namespace L2
open PySem PySem.Spec PyProof.Rows XL
def tMid (t:TS):TS:=fun D Z H=>∃ Pv:St->Hp->Prop,t { D with nx:=Pv } Z H/\∀ σ' H',Pv σ' H'->D.nx σ' H'
theorem xbk {X:Cx}{st:Stmt}{t:TS} (h:PS X st t):PS X st (tMid t):=by
 intro pins s Z H D I q;obtain⟨Pv,q1,q2⟩:=q;refine thn (h pins s Z H { D with nx:=Pv } I q1) fun fl s1 z=>?_;cases fl with
 | next =>
  obtain⟨σ',H',I',r⟩:=z;exact⟨σ',H',I',q2 _ _ r⟩
 | _=>exact z
end L2
namespace XL
open PySem PySem.W
end XL
namespace L2
open PySem PySem.Spec PyProof.Rows XL
variable {q0:Bool}
end L2
namespace L2
open PySem PySem.Spec PyProof.Rows XL
end L2
namespace L2
open PySem PySem.Calls PyProof PyProof.Rows
def eU (e:V->Bool) (u:Value):Bool:=match absV u with|some y=>e y|none=>false
theorem xry {e:V->Bool}{y:V}{u:Value} (r:RelV y u):eU e u=e y:=by unfold eU; rw[r.abs]
theorem xn6 {e:V->Bool}:∀{xs:List V}{us:List Value},Vals xs us->us.any (eU e)=xs.any e
 | _,_,.nil=>rfl
 | y::xs,u::us,.cons r t=>by rw[JP,JP,xry r,xn6 t]
theorem xmu:∀{xs:List V}{us:List Value},Vals xs us->∀ u∈us,∃ y∈xs,RelV y u
 | _,_,.nil=>fun u hu=>nomatch hu
 | y::xs,u::us,.cons r t=>fun u' hu=>by
  rcases Zy.mp hu with rfl|hu
  .exact ⟨y,Zv,r⟩
  .obtain ⟨z,h1,h2⟩:=xmu t u' hu;exact⟨z,Zt _ h1,h2⟩
end L2
namespace PySem.F
end PySem.F
namespace L2
open PySem PySem.Spec PyProof.Rows XL
variable {q0:Bool}
theorem FnOk.or {P:Program}{w:World}{K:Zd}{mg:Str->Option Value}{base:Heap}{CX:CXT}{k:Nat}{f:Addr}{fd:FuncData}{ps:List Str}{s1 s2:Sp} (F:FnOk q0 P w K mg base CX k f fd ps s1) (G:FnOk q0 P w K mg base CX k f fd ps s2) :
    FnOk q0 P w K mg base CX k f fd ps (fun vs H Q E=>s1 vs H Q E\/s2 vs H Q E) :=
  ⟨fun vs H Q E h=>h.elim (F.len vs H Q E) (G.len vs H Q E),fun A outer s H args us vs Q E hr e0 b v h=>h.elim (F.run A outer s H args us vs Q E hr e0 b v) (G.run A outer s H args us vs Q E hr e0 b v)⟩
end L2
namespace L2
open PySem PySem.Spec PyProof.Rows XL PySem.W
variable {q0:Bool}
theorem xix {prog:Program}{w:World}{A:Around}{E:Value->Shared->Prop}{s:Shared}{a:Addr}{vs:List Value}{n:Nat}{P:PySem.Fin->Shared->Prop}
    (h:s.heap.get? a=some (seqObj "list" vs.toArray n)) (h2:2<=vs.length) (h64:vs.length<64)
    (hk:∀ s':Shared,s'.heap=(((s.heap.update a (JT fun x=>#[])).push (seqObj "tuple" vs.toArray 0)).push (seqObj "list" #[] 0))->s'={ s with heap:=s'.heap } ->
      wpAny (model prog w) A (keyKind' vs.toArray) (fun κ s''=>s''=s'/\KasT.kasWp (kas_ask prog w A κ vs) (kas_sort vs.length) (fun p s3=>s3=s'/\P (.done (.ret .none)) { s with heap:=sortedHeap s.heap a vs (p.map fun i=>vs.getD i .none) }) s'') (fun _ _=>False) s') :
    wpAny (model prog w) A (Builtin.«list.sort» { pos:=[.ref a] }) P E s:=by
  obtain⟨hp,g,d,tk,os⟩:=s;rw[list_sort_plain]
  repeat (any_goals (first|assumption|wp_step))
  have z:¬ vs.toArray.toList.toArray.size>sizeLine:=by
    simp;exact J7 (Jm h64 (by decide))
  rw[if_neg z];generalize keyKind' vs.toArray=kk at hk ⊢
  repeat (any_goals (first|assumption|wp_step))
  have hk':=hk { heap:=((hp.update a (JT fun x=>#[])).push (seqObj "tuple" vs.toArray 0)).push (seqObj "list" #[] 0),gens:=g,drawn:=d,toks:=tk,os:=os } rfl rfl;refine ZQ hk' (fun κ s'' z=>?_) (fun _ _ z=>z.elim);obtain⟨e,q⟩:=z;subst e;show wpAny _ _ (StateT.run (if vs.toArray.size<2 then pure () else sortRuns') _>>=_) _ _ _;rw[if_neg (by simp; omega)];refine Zc (ZQ (kat_run (E:=E) (Q:=fun st' s'=>∃ p:Array Nat,p.size=vs.length/\arrOf st'=Qh (kas_item (vs.toArray.zip vs.toArray)) p/\failedOf st'=none/\s'=_/\P (.done (.ret .none)) { heap:=sortedHeap hp a vs (p.map fun i=>vs.getD i .none),gens:=g,drawn:=d,toks:=tk,os:=os }) rfl h2 h64 (fun p st' s' hp' e f q'=>⟨p,hp',e,f,q'.1,q'.2⟩) q) (fun r s' z=>?_) fun _ _ z=>z);obtain⟨u,st⟩:=r;obtain⟨p,psz,e,f,rfl,q'⟩:=z;have al:a<hp.objs.size:=Zq h;have g1:(((hp.update a (JT fun x=>#[])).push (seqObj "tuple" vs.toArray 0)).push (seqObj "list" #[] 0)).get? a=some (seqObj "list" #[] (n+1)):=by
    refine Zi _ (Zi _ ?_);rw[ZM _ h rfl];have z:((0:Nat) == vs.length)=false:=by
      cases vs with
      | nil=>simp at h2
      | cons=>rfl
    simp[JT,z]
  have e2:(if (((fun x=>#[]) vs.toArray:Array Value).size == vs.toArray.size)=true then n else n+1)=n+1:=by
    rw[if_neg];simp;omega
  simp only[e2,f];have e3:Qh (fun x=>x.snd) (arrOf st)=p.map fun i=>vs.getD i .none:=by
    rw[e,Array.map_map]
    congr 1
    funext i;show (kas_item (vs.toArray.zip vs.toArray) i).snd=_;unfold kas_item;by_cases c:i<vs.length
    . simp[Zg c,c]
    . simp[JE (by omega:vs.length<=i),c]
  simp only[e3]
  repeat (any_goals (first|assumption|wp_step))
  have e4:(JT (fun x=>Qh (fun i=>vs.getD i ZR) p) (seqObj "list" #[] (n+1))).data.pastItsLine=none:=by
    show (if (Qh (fun i=>vs.getD i ZR) p).size>sizeLine+1 then _ else none)=none;rw[if_neg];rw[Array.size_map,psz];have:vs.length<sizeLine:=Jm h64 (by decide);omega
  rw[e4];refine Zm ?_;rw[f];show wpAny _ _ (if (n+1 != n+1)=true then _ else _) _ _ _;rw[if_neg (by simp)];exact Zm q'
theorem xlg {prog:Program}{w:World}{A:Around}{E:Value->Shared->Prop}{s:Shared}{it d:Addr}{i ep:Nat}{o:Obj}{es:Array DictEntry}{en:DictEntry}{Q:Option Value->Shared->Prop}
    (st:s.heap.IsKeyIter it d i es.size ep) (hd:s.heap.get? d=some o) (hx:o.ExactDict) (hdat:o.data=.dict es ep) (hi:es[i]?=some en)
    (h:∀ h',h'.IsKeyIter it d (i+1) es.size ep->ZK it s.heap h'->Q (some en.key) { s with heap:=h' }):wpAny (model prog w) A (pyNext (.ref it)) Q E s:=by
  unfold pyNext;refine Zc (Qu (YD st.typeIs JO ?_));refine Yd JO st.typeIs F.entry_dict_keyiterator_next ?_ (F.args_dict_keyiterator_next_1 _);have ti:=st.typeIs;obtain⟨hp,g,dr,tk,os⟩:=s;obtain⟨⟨c,dct,dat,sl⟩,hit,ci,di⟩:=st;simp only at ci di;subst ci di;unfold Builtin.«dict_keyiterator.__next__»
  repeat (any_goals (first|assumption|(with_reducible refine Ye ti ?_)|(with_reducible refine YQ ti ?_)|(with_reducible refine Jt hd hdat ?_)|(with_reducible refine JW hd hdat ?_)|wp_step))
  have e1:(if (i:Int)<0 then none else es[(i:Int).toNat]?)=some en:=by
    rw[if_neg (by omega),YL];exact hi
  rw[e1]
  repeat (any_goals (first|assumption|(with_reducible refine Ye ti ?_)|(with_reducible refine YQ ti ?_)|(with_reducible refine Jt hd hdat ?_)|(with_reducible refine JW hd hdat ?_)|wp_step))
  refine⟨_,rfl,Zm (h _ ?_ (ZK.update _ _ _))⟩;refine⟨_,ZM _ hit rfl,rfl,?_⟩;rfl
theorem xlo {prog:Program}{w:World}{A:Around}{E:Value->Shared->Prop}{s:Shared}{it d:Addr}{ep:Nat}{o:Obj}{es:Array DictEntry}{Q:Option Value->Shared->Prop}
    (hA:A.handled=none) (st:s.heap.IsKeyIter it d es.size es.size ep) (hd:s.heap.get? d=some o) (hx:o.ExactDict) (hdat:o.data=.dict es ep)
    (h:∀ h',Heap.ExtBut it s.heap h'->Q none { s with heap:=h' }):wpAny (model prog w) A (pyNext (.ref it)) Q E s:=by
  unfold pyNext;refine Zc (Qu (YD st.typeIs JO ?_));refine Yd JO st.typeIs F.entry_dict_keyiterator_next ?_ (F.args_dict_keyiterator_next_1 _);have ti:=st.typeIs;obtain⟨hp,g,dr,tk,os⟩:=s;obtain⟨⟨c,dct,dat,sl⟩,hit,ci,di⟩:=st;simp only at ci di;subst ci di;unfold Builtin.«dict_keyiterator.__next__»
  repeat (any_goals (first|assumption|(with_reducible refine Ye ti ?_)|(with_reducible refine YQ ti ?_)|(with_reducible refine Jt hd hdat ?_)|(with_reducible refine JW hd hdat ?_)|wp_step))
  have e1:(if (es.size:Int)<0 then none else es[(es.size:Int).toNat]?)=none:=by
    rw[if_neg (by omega),YL];simp
  rw[e1]
  repeat (any_goals (first|assumption|(with_reducible refine Ye ti ?_)|(with_reducible refine YQ ti ?_)|(with_reducible refine Jt hd hdat ?_)|(with_reducible refine JW hd hdat ?_)|wp_step))
  refine wpAny_raiseNew_none hA ?_;refine Zc (Qz ⟨_,Z2 _ rfl,rfl⟩ isSubtype_stop (Zm (h _ fun b o nb e=>?_)));refine Zi _ (Zi _ ?_);rw[Jo _ _ (ZE nb)];exact e
theorem xqm {prog:Program}{w:World}{A:Around}{E:Value->Shared->Prop}{s:Shared}{d:Addr}{ep:Nat}{o:Obj}{es:Array DictEntry}{Q:Value->Shared->Prop}
    (hs:(d == sysModules)=false) (hd:s.heap.get? d=some o) (hx:o.ExactDict) (hdat:o.data=.dict es ep)
    (h:Q (.ref s.heap.objs.size) { s with heap:=s.heap.push { cls:=.type "dict_keyiterator",data:=.fields #[.ref d,.int 0 0,.int es.size 0,.int ep 0] } }):wpAny (model prog w) A (pyIter (.ref d)) Q E s:=by
  have ti:s.TypeIs (.ref d) "dict":=⟨o,hd,hx.1⟩
  obtain⟨c,dct,dat,sl⟩:=o;obtain⟨x1,x2,x3⟩:=hx;simp only at x1 x2 x3 hdat;subst x1 x2 x3 hdat;refine wpAny_pyIter_slot ti F.slot_dict_iter ?_;refine Yd F.slot_dict_iter ti F.entry_dict_iter ?_ (F.args_dict_iter_1 _);obtain⟨hp,g,dr,tk,os⟩:=s;unfold Builtin.«dict.__iter__»
  repeat (any_goals (first|assumption|(with_reducible refine QJ ti ?_)|(with_reducible refine Jt hd rfl ?_)|(with_reducible refine JW hd rfl ?_)|wp_step))
  exact⟨_,rfl,_,_,⟨_,Z2 _ rfl,rfl⟩,JO.lookup,h⟩
theorem xmv {prog:Program}{w:World}{d:Addr}{ep:Nat}{o:Obj}{es:Array DictEntry} (hs:(d == sysModules)=false) (hx:o.ExactDict) (hdat:o.data=.dict es ep) :
    KdlSrc prog w "dict" d d es.size (fun i v=>∃ en,es[i]?=some en/\v=en.key) (fun h=>h.get? d=some o) where
  type:=fun s h=>⟨o,h,hx.1⟩
  there:=fun h e=>⟨Zq e,Zq e⟩
  keep:=fun h h' e k=>k d (.inl rfl) o e
  notList:=by decide
  notTuple:=by decide
  hint:=fun A E s Q h q=>kdl_hint_dict ⟨o,h,hx.1⟩ q
  iter:=fun A s hA h=>by
    have dl:=Zq h;refine⟨{ cls:=.type "dict_keyiterator",data:=.fields #[.ref d,.int 0 0,.int es.size 0,.int ep 0] },fun i h=>h.IsKeyIter s.heap.objs.size d i es.size ep/\h.get? d=some o,fun E Q q=>xqm hs h hx hdat q,?_,⟨_,Z2 _ rfl,rfl,rfl⟩,Zi _ h⟩;have dn:d≠s.heap.objs.size:=ZH dl;exact {
      sub:=fun b hb=>by
        have e:b=s.heap.objs.size:=by simpa using hb
        rw[e];simp
      frame:=fun i h h' st k=>⟨st.1.at fun o e=>k _ (by simp) o e,k _ (by simp) _ st.2⟩
      item:=fun i s' Q E hi st q=>by
        refine xlg st.1 st.2 hx hdat (Y2 hi) fun h' st' sb=>q _ h' s'.toks ⟨_,Y2 hi,rfl⟩ ⟨st',(sb.2 d dn).trans st.2⟩ fun b o hb e=>?_;exact (sb.2 b (by simpa using hb)).trans e
      done:=fun s' Q E st q=>by
        refine xlo hA st.1 st.2 hx hdat fun h' eb=>q h' s'.toks fun b o hb e=>?_;exact eb b o (by simpa using hb) e
      self:=fun i s' Q E st q=>wpAny_pyIter_keyiter st.1 q }
def xdj:Key->Key->Bool
 | .inl a,.inl b=>decide (a<b)
 | .inr a,.inr b=>decide (a.cps.toList<b.cps.toList)
 | _,_=>false
def lexK:List Key->List Key->Bool
 | [],[]=>false
 | [],_::_=>true
 | _::_,[]=>false
 | x::xs,y::ys=>if x=y then lexK xs ys else xdj x y
abbrev shp (k:List Key):List Bool:=k.map Sum.isLeft
theorem xsu {a b:Str} (h:a.cps.toList=b.cps.toList):a=b:=by
 cases a;cases b;simp at h;rw[h]
theorem xot (x:Key):xdj x x=false:=by
 cases x with
 | inl a=>simp[xdj]
 | inr a=>exact Wc.irrefl a.cps.toList
theorem xrc {x y z:Key} (h1:xdj x y=true) (h2:xdj y z=true):xdj x z=true:=by
 cases x<;>cases y<;>cases z<;>simp only[xdj,Jh] at h1 h2
 .have a:=of_decide_eq_true h1;have b:=of_decide_eq_true h2;exact decide_eq_true (Int.lt_trans a b)
 .exact Wc.trans _ _ _ h1 h2
theorem xn5 {x y:Key} (hs:x.isLeft=y.isLeft) (ne:x≠y) (h:xdj x y=false):xdj y x=true:=by
 cases x with
 | inl a =>
  cases y with
  | inl b =>
   have h':¬ a<b:=of_decide_eq_false h;have n':a≠b:=fun e=>ne (by rw[e]);exact decide_eq_true (show b<a by omega)
  | inr b=>cases hs
 | inr a =>
  cases y with
  | inl b=>cases hs
  | inr b =>
   cases e:xdj (.inr b) (.inr a) with
   | true=>rfl
   | false=>exact absurd (by rw[xsu (Wc.total _ _ h e)]) ne
theorem xlk:∀ x:List Key,lexK x x=false
 | []=>rfl
 | x::xs=>by
  unfold lexK;rw[if_pos rfl];exact xlk xs
theorem xmw:∀{x y z:List Key},shp x=shp y->shp y=shp z->lexK x y=true->lexK y z=true->lexK x z=true
 | [],[],_,_,_,h,_=>by cases h
 | [],_::_,_,h,_,_,_=>by cases h
 | _::_,[],_,h,_,_,_=>by cases h
 | _::_,_::_,[],_,h,_,_=>by cases h
 | x::xs,y::ys,z::zs,h1,h2,h3,h4=>by
  simp only[shp,Zu,JV.injEq] at h1 h2;unfold lexK at h3 h4 ⊢;by_cases xy:x=y
  .subst xy;rw[if_pos rfl] at h3;by_cases yz:x=z
   .rw [if_pos yz] at h4 ⊢;exact xmw h1.2 h2.2 h3 h4
   .rw [if_neg yz] at h4 ⊢;exact h4
  .rw [if_neg xy] at h3;by_cases yz:y=z
   .subst yz;rw[if_neg xy];exact h3
   .rw [if_neg yz] at h4;have h5:=xrc h3 h4;rw[if_neg (fun e=>by rw[e,xot] at h5; cases h5)];exact h5
theorem xk8:∀{x y:List Key},shp x=shp y->x≠y->lexK x y=false->lexK y x=true
 | [],[],_,h,_=>absurd rfl h
 | [],_::_,h,_,_=>by cases h
 | _::_,[],h,_,_=>by cases h
 | x::xs,y::ys,h1,h2,h3=>by
  simp only[shp,Zu,JV.injEq] at h1;unfold lexK at h3 ⊢;by_cases xy:x=y
  .subst xy;rw[if_pos rfl] at h3 ⊢;exact xk8 h1.2 (fun e=>h2 (by rw[e])) h3
  .rw [if_neg xy] at h3;rw[if_neg (fun e=>xy e.symm)];exact xn5 h1.1 xy h3
theorem xli {prog:Program}{w:World}{A:Around}{s:Shared}{b:Bool}{Q:Bool->Shared->Prop}:∀(xs ys:List Key) (us vs:List Value) (i:Nat),shp xs=shp ys->Vals (xs.map kV) us->Vals (ys.map kV) vs->Q (lexK xs ys) s->KatLex prog w A b false Q (us.zip vs) i s
 | [],[],_,_,i,_,.nil,.nil,q=>kat_nil q
 | [],_::_,_,_,_,h,_,_,_=>by cases h
 | _::_,[],_,_,_,h,_,_,_=>by cases h
 | x::xs,y::ys,_,_,i,h,.cons ru r,.cons rv r',q=>by
  simp only[shp,Zu,JV.injEq] at h;unfold lexK at q;cases x with
  | inl a =>
   cases y with
   | inr c=>cases h.1
   | inl c =>
    obtain⟨t,rfl⟩:=ru;obtain⟨t',rfl⟩:=rv;refine kat_cons (wpAny_eqBool_int ?_);unfold KatGo;by_cases e:a=c
    .subst e;rw[if_pos rfl] at q;rw[if_pos (by simp)];exact xli xs ys _ _ (i+1) h.2 r r' q
    .rw [if_neg (fun z=>e (YF.inj z))] at q;rw[if_neg (by simpa using e)];cases (b&&i == 0) with
     | true=>exact oneLt_int q
     | false=>exact kat_one _ _ (lt_int q)
  | inr a =>
   cases y with
   | inl c=>cases h.1
   | inr c =>
    obtain⟨t,rfl⟩:=ru;obtain⟨t',rfl⟩:=rv;refine kat_cons (wpAny_eqBool_str ?_);unfold KatGo;by_cases e:a=c
    .subst e;rw[if_pos rfl] at q;rw[if_pos (by simp)];exact xli xs ys _ _ (i+1) h.2 r r' q
    .rw [if_neg (fun z=>e (Jl.inj z))] at q;rw[if_neg (by simpa using e)];cases (b&&i == 0) with
     | true=>exact oneLt_str q
     | false=>exact kat_one _ _ (lt_str q)
theorem xj4 {prog:Program}{w:World}{A:Around}{E:Value->Shared->Prop}{s:Shared}{a:Addr}{vs:List Value}{n:Nat}{P:PySem.Fin->Shared->Prop}
    (h:s.heap.get? a=some (seqObj "list" vs.toArray n)) (h2:vs.length<2) (q':P (.done (.ret .none)) { s with heap:=sortedHeap s.heap a vs vs.toArray }) :
    wpAny (model prog w) A (Builtin.«list.sort» { pos:=[.ref a] }) P E s:=by
  obtain⟨hp,g,d,tk,os⟩:=s;rcases vs with _|⟨v,_|⟨v',r⟩⟩
  . rw[list_sort_plain]
    repeat (any_goals (first|assumption|wp_step))
    show wpAny _ _ (pure (Qi,SortSt.mk' general' ((#[]:Array Value).zip #[]) #[] 7 none)) _ _ _;refine Zm ?_;have e3:Qh (fun x=>x.snd) (arrOf (SortSt.mk' general' ((#[]:Array Value).zip #[]) #[] 7 none))=#[]:=by
      show Qh (fun x=>x.snd) ((#[]:Array Value).zip #[])=#[];simp
    simp only[e3];have g1:(((hp.update a (JT fun x=>#[])).push (seqObj "tuple" #[] 0)).push (seqObj "list" #[] 0)).get? a=some (seqObj "list" #[] (n)):=by
      refine Zi _ (Zi _ ?_);rw[ZM _ h rfl];rfl
    show wpAny _ _ (seqEpoch a>>=_) _ _ _
    repeat (any_goals (first|assumption|wp_step))
  . rw[list_sort_plain]
    repeat (any_goals (first|assumption|wp_step))
    show wpAny _ _ (pure (Qi,SortSt.mk' general' ((#[v]:Array Value).zip #[v]) #[] 7 none)) _ _ _;refine Zm ?_;have e3:Qh (fun x=>x.snd) (arrOf (SortSt.mk' general' ((#[v]:Array Value).zip #[v]) #[] 7 none))=#[v]:=by
      show Qh (fun x=>x.snd) ((#[v]:Array Value).zip #[v])=#[v];simp
    simp only[e3];have g1:(((hp.update a (JT fun x=>#[])).push (seqObj "tuple" #[v] 0)).push (seqObj "list" #[] 0)).get? a=some (seqObj "list" #[] (n+1)):=by
      refine Zi _ (Zi _ ?_);rw[ZM _ h rfl];rfl
    show wpAny _ _ (seqEpoch a>>=_) _ _ _
    repeat (any_goals (first|assumption|wp_step))
  . simp at h2
    omega
theorem xf0 {α:Type} (f:α->Addr):∀(es:List α),Vals (es.map fun x=>V.ref (f x)) (es.map fun x=>Zo (f x))
 | []=>.nil
 | x::r=>.cons rfl (xf0 f r)
theorem xt6 {H:Hp}{kvs:List (List Key × V)}{es:List (List Key × Addr × Value)} (h:KT H kvs es):(∀ x∈es,H x.2.1=some (.tup (x.1.map kV)))/\es.map (·.1)=kvs.map (·.1):=by
 induction h with
 | nil=>exact⟨(fun _ z=>nomatch z),rfl⟩
 | @cons p x kvs es hp r ih =>
  obtain⟨e1,e2,_⟩:=hp;refine⟨fun y hy=>?_,by rw[Zu,Zu,ih.2,e1]⟩;rcases Zy.mp hy with rfl|z
  .rw [<- e1];exact e2
  .exact ih.1 y z
theorem xom {P:Program}{w:World}{H:Hp}{h:Heap} (ok:HOk P w H h) {b:Bool}{sh:List Bool}:∀(es:List (List Key × Addr × Value)),(∀ x∈es,H x.2.1=some (.tup (x.1.map kV)))->(∀ x∈es,shp x.1=b::sh) ->
    ∃ fs,KatTups h (es.map fun x=>Zo x.2.1) fs/\fs.length=es.length/\∀ v∈fs,if b=true then ∃ i t,v=Wf i t else ∃ i t,v=Qy i t
  | [],_,_=>⟨[],KatTups.nil,rfl,fun _ z=>nomatch z⟩
  | x::es,h1,h2=>by
    obtain⟨fs,k,l,m⟩:=xom ok es (fun y hy=>h1 y (Zt _ hy)) (fun y hy=>h2 y (Zt _ hy));obtain⟨z2,ts,rt,ot,et,ct,nt,dt⟩:=ok x.2.1 _ (h1 x Zv);have s1:=h2 x Zv;obtain⟨k1,a1,v1⟩:=x;cases k1 with
    | nil=>cases s1
    | cons k0 kr =>
      simp only[shp,Zu,JV.injEq] at s1;simp only[Zu] at rt;cases rt with
      | @cons _ u _ us ru rr =>
        refine⟨u::fs,KatTups.cons et ct dt (by simp) k,by simp[l],fun v hv=>?_⟩;rcases Zy.mp hv with rfl|hv'
        . cases k0 with
          | inl i =>
            obtain⟨t,rfl⟩:=ru;rw[if_pos (show b=true from s1.1.symm)];exact⟨i,t,rfl⟩
          | inr i =>
            obtain⟨t,rfl⟩:=ru;rw[if_neg (show ¬ b=true by rw[<- s1.1]; simp)];exact⟨i,t,rfl⟩
        . exact m v hv'
theorem xjk {X:Cx}{pins:List (Addr × Obj)}{Z:St}{H:Hp}{s:Shared}{h1:Heap}{tk:Nat}{Q:VK}{sh:List Bool} (es':List (List Key × Addr × Value)) (I1:Inv X pins Z H { s with heap:=h1,toks:=tk })
    (hl:es'.length<64) (km:∀ x∈es',H x.2.1=some (.tup (x.1.map kV))) (shE:∀ x∈es',shp x.1=sh) (hpos:0<sh.length) (hnd:(List.map (fun x=>x.fst) es').Nodup)
    (q:∀(l:Addr) (ts:List (List Key × Addr)),H l=none->ts.Perm (es'.map fun x=>(x.1,x.2.1))->(ts.map (·.1)).Pairwise (fun x y=>lexK x y=true)->Q (.ref l) (upd H l (.lst (ts.map fun t=>.ref t.2)))) :
    wpAny (model X.prog X.w) X.A.in1 (newList (es'.map fun x=>Zo x.2.1)>>=fun l=>holding [l] (call (.builtin "list.sort") [l] [])>>=fun _=>ret l) (fun fin s'=>∃ v,fin=Fin.done (Flow.ret v)/\EP X pins Z Q v s') X.xe { s with heap:=h1,toks:=tk }:=by
  have hz:es'.length<=sizeLine:=J7 (Jm hl (by decide));have vals:Vals (es'.map fun x=>V.ref x.2.1) (es'.map fun x=>Zo x.2.1):=xf0 (fun x=>x.2.1) es';have I2:=I1.lnew (t':=tk) vals (by rw[Za]; exact hz);refine Zc (wpAny_newList ?_ (by rw[Za]; exact hz));have fr:H h1.objs.size=none:=I1.fresh;have gl:(h1.push { cls:=.type "list",data:=.seq (es'.map fun x=>Zo x.2.1).toArray }).get? h1.objs.size=some (seqObj "list" (es'.map fun x=>Zo x.2.1).toArray 0):=Z2 _ rfl;refine Zc (J5 (Yd slot_list_sort ⟨_,gl,rfl⟩ entry_list_sort ?_ (args_list_sort _)));have J1:=I2.lset (l:=h1.objs.size) (its:=es'.map fun x=>Zo x.2.1) (its':=[]) (ys:=[]) (f:=fun _=>#[]) (t':=tk) xh gl rfl .nil (ZZ _);have J2:=J1.kept (t':=tk) (h':=(((h1.push { cls:=.type "list",data:=.seq (es'.map fun x=>Zo x.2.1).toArray }).update h1.objs.size (JT fun _=>#[])).push (seqObj "tuple" (es'.map fun x=>Zo x.2.1).toArray 0)).push (seqObj "list" #[] 0)) fun b u e=>Zi _ (Zi _ e);obtain⟨z9,its9,n9,r9,hl9,e9⟩:=J2.lstM xh;have done:∀(ts:List (List Key × Addr)),ts.Perm (es'.map fun x=>(x.1,x.2.1))->(ts.map (·.1)).Pairwise (fun x y=>lexK x y=true) ->
      EP X pins Z Q (.ref h1.objs.size) { s with heap:=sortedHeap (h1.push { cls:=.type "list",data:=.seq (es'.map fun x=>Zo x.2.1).toArray }) h1.objs.size (es'.map fun x=>Zo x.2.1) (ts.map fun t=>Zo t.2).toArray,toks:=tk }:=by
    intro ts pm pw;have tl:ts.length=es'.length:=by rw[pm.length_eq,Za]
    have J3:=J2.lset (l:=h1.objs.size) (its:=its9) (its':=ts.map fun t=>Zo t.2) (ys:=ts.map fun t=>V.ref t.2) (f:=fun _=>(ts.map fun t=>Zo t.2).toArray) (t':=tk) xh e9 rfl (xf0 (fun t=>t.2) ts) (by rw[Za,tl]; exact hz);rw[xe3,xe3] at J3;exact⟨.ref h1.objs.size,_,J3,rfl,q _ ts fr pm pw⟩
  by_cases few:es'.length<2
  . refine xj4 gl (by rw[Za]; exact few) ⟨_,rfl,Zm ⟨_,rfl,?_⟩⟩
    have:=done (es'.map fun x=>(x.1,x.2.1)) (Wg.refl _) ?_
    . rw[Z3] at this
      exact this
    . match es',few with
      | [],_=>exact .nil
      | [x],_=>exact Q2 _ _
      | _::_::_,h=>exact absurd h (by simp)
  . refine xix gl (by rw[Za]; omega) (by rw[Za]; exact hl) fun s' es1 es2=>?_
    obtain⟨b,sh0,rfl⟩:∃ b sh0,sh=b::sh0:=by
      cases sh with
      | nil=>simp at hpos
      | cons b r=>exact⟨b,r,rfl⟩
    rw[es1] at es2;subst es2;have km2:∀ x∈es',upd (upd H h1.objs.size (.lst (es'.map fun x=>V.ref x.2.1))) h1.objs.size (.lst []) x.2.1=some (.tup (x.1.map kV)):=fun x hx=>by
      rw[xg (xi (km x hx) fr),xg (xi (km x hx) fr)];exact km x hx
    obtain⟨fs,kt,fl,fm⟩:=xom J2.hok es' km2 shE;have few':2<=es'.length:=by omega
    refine kat_kind (T:=if b=true then .type "int" else .type "str") kt (by omega) (fun v hv=>?_) (by cases b<;>rfl) ⟨rfl,?_⟩
    . have z:=fm v hv
      cases b with
      | true =>
        obtain⟨i,t,rfl⟩:=z;exact fun A Q E s _ q=>Yy (T:="int") rfl q
      | false =>
        obtain⟨i,t,rfl⟩:=z;exact fun A Q E s _ q=>Yy (T:="str") rfl q
    rw[Za];have eAt:∀ i,i<es'.length->es'[i]?=some (es'.getD i ([],0,.none)):=fun i hi=>by
      rw[JA,Zg hi];rfl
    have eM:∀ i,i<es'.length->es'.getD i ([],0,.none)∈es':=fun i hi=>Zk (eAt i hi);have vAt:∀ i,i<es'.length->(es'.map fun x=>Zo x.2.1).getD i .none=.ref (es'.getD i ([],0,.none)).2.1:=fun i hi=>by
      rw[JA,Ze,eAt i hi];rfl
    have shI:∀ i j,i<es'.length->j<es'.length->shp (es'.getD i ([],0,.none)).1=shp (es'.getD j ([],0,.none)).1:=fun i j hi hj=>by rw[shE _ (eM i hi),shE _ (eM j hj)]
    refine Srt.sort_wp (lt:=fun i j=>lexK (es'.getD i ([],0,.none)).1 (es'.getD j ([],0,.none)).1) ⟨fun i hi=>xlk _,fun i j k hi hj hk=>xmw (shI i j hi hj) (shI j k hj hk),fun i j hi hj ne=>xk8 (shI i j hi hj) fun e=>ne ?_⟩ (fun i j hi hj Q' q'=>?_) few' fun p arr srt=>⟨rfl,_,rfl,Zm ⟨_,rfl,?_⟩⟩
    . have e1:(es'.map (·.1))[i]?=(es'.map (·.1))[j]?:=by rw[Ze,Ze,eAt i hi,eAt j hj]; exact congrArg some e
      exact (List.getElem?_inj (by rw[Za]; exact hi) hnd).mp e1
    . show wpAny _ _ (keyLt' _ ((es'.map fun x=>Zo x.2.1).getD i .none) ((es'.map fun x=>Zo x.2.1).getD j .none)) _ _ _
      rw[vAt i hi,vAt j hj];obtain⟨_,ti,ri,oi,ei,_,ni,di⟩:=J2.hok _ _ (km2 _ (eM i hi));obtain⟨_,tj,rj,oj,ej,_,nj,dj⟩:=J2.hok _ _ (km2 _ (eM j hj));have l1:=Vals.length ri;have l2:=Vals.length rj;have l3:=congrArg Qq (shI i j hi hj);simp only[Za] at l1 l2 l3;refine kat_lt ei di ej dj ?_;rw[decide_eq_false (by simp; omega)];exact xli _ _ _ _ 0 (shI i j hi hj) ri rj q'
    have pl:∀ i∈p.toList,i<es'.length:=fun i hi=>by
      have:=(Array.Perm.mem_iff arr.pm).mp (We.mp hi);simpa using this
    have:=done (p.toList.map fun i=>((es'.getD i ([],0,.none)).1,(es'.getD i ([],0,.none)).2.1)) ?_ ?_
    . rw[Z3] at this
      have e2:(p.map fun i=>(es'.map fun x=>Zo x.2.1).getD i .none)=(p.toList.map ((fun t:List Key × Addr=>Zo t.2)∘fun i=>((es'.getD i ([],0,.none)).1,(es'.getD i ([],0,.none)).2.1))).toArray:=by
        rw[<- Array.toList_inj,Array.toList_map];exact Qg fun i hi=>vAt i (pl i hi)
      rw[e2];exact this
    . have e3:(es'.map fun x=>(x.1,x.2.1))=(Z0 es'.length).map fun i=>((es'.getD i ([],0,.none)).1,(es'.getD i ([],0,.none)).2.1):=by
        refine List.ext_getElem? fun i=>?_;by_cases c:i<es'.length
        . rw[Ze,eAt i c,Ze,Jj c]
          rfl
        . rw[JE (by rw[Za]; omega),JE (by simp; omega)]
      rw[e3];refine Wg.map _ ?_;have:=Array.Perm.toList arr.pm;simpa using this
    . rw[Z3,ZB,List.pairwise_iff_getElem]
      intro i j hi hj hij;have z:=srt i j hij (by rw[<- arr.sz]; simpa using hj);have gi:Srt.g p i=p.toList[i]:=Srt.g_at (by rw[<- Jy]; exact Zg hi);have gj:Srt.g p j=p.toList[j]:=Srt.g_at (by rw[<- Jy]; exact Zg hj);rw[gi,gj] at z;exact z
inductive xqf (xs:List V) (H:Hp) (Q:VK):Prop
 | mk (d:Addr) (kvs:List (List Key × V)) (sh:List Bool) (e_:xs=[.ref d]) (r_:H d=some (.dT kvs)/\kvs.length<64/\(∀ p∈kvs,shp p.1=sh)/\0<sh.length/\∀(l:Addr) (ts:List (List Key × Addr)),H l=none->(∀ t∈ts,H t.2=some (.tup (t.1.map kV)))->(ts.map (·.1)).Perm (kvs.map (·.1))->(ts.map (·.1)).Pairwise (fun x y=>lexK x y=true)->Q (.ref l) (upd H l (.lst (ts.map fun t=>.ref t.2))))
theorem xkv {X:Cx} (hc:X.calm=true):xbz X (.builtin "sorted") xqf:=by
 intro pins s Z H xs us Q I r h;obtain⟨d,kvs,sh,rfl,hd,hl,hsh,hpos,q⟩:=h;obtain⟨u,rfl,ru⟩:=xb4 r;obtain rfl:u=Zo d:=ru;obtain⟨z,hsys,es',rel,dd⟩:=xh4 I.hok hd;obtain⟨o,es,ep,ho,hx,hdat,hes,hkk,hnd⟩:=dd;have ln:=Yn rel;have esz:es.size=es'.length:=by rw[<- JC,hes,Za]
 refine Y1 kind_sorted plain_sorted entry_sorted (args_sorted1 _) ?_;unfold Wb;refine Zc (Zm ?_);show wpAny _ _ (collect (.ref d)>>=_) _ _ _;refine Zc (kdu_collect (xmv hsys hx hdat) (I.ok.hd hc) ho (by rw[esz,<- ln]; exact z) fun h1 tk acc keep items=>?_);have acl:acc.toList=es'.map fun x=>Zo x.2.1:=by
  refine List.ext_getElem? fun j=>?_;obtain⟨i1,i2⟩:=items;by_cases c:j<es'.length
  .have c':j<acc.size:=by rw[i1,esz]; exact c
   have e:acc[j]?=some acc[j]:=Y2 c';obtain⟨en,he,hv⟩:=i2 j acc[j] e;rw[Jy,e,hv];have he':es.toList[j]?=some en:=by rw[Jy]; exact he
   rw[hes,Ze,Zg c] at he';rw[Ze,Zg c];have:=JD.inj he';rw[<- this];rfl
  .rw [JE (by rw[JC,i1,esz]; omega),JE (by rw[Za]; omega)]
 rw[acl];have I1:Inv X pins Z H { s with heap:=h1,toks:=tk }:=I.kept keep;obtain⟨km,ke⟩:=xt6 rel;have shE:∀ x∈es',shp x.1=sh:=fun x hx=>by
  have m:x.1∈kvs.map (·.1):=by rw[<- ke]; exact Zh.mpr ⟨x,hx,rfl⟩
  obtain⟨p,hp,e⟩:=Zh.mp m;rw[<- e];exact hsh p hp
 refine xjk es' I1 (by rw[<- ln]; exact hl) km shE hpos hnd fun l ts fr pm pw=>q l ts fr (fun t ht=>?_) ?_ pw
 .obtain ⟨x,hx,rfl⟩:=Zh.mp (pm.mem_iff.mp ht);exact km x hx
 .have:=pm.map (·.1);rw[Z3] at this;rw[<- ke];exact this
inductive xfn (xs:List V) (H:Hp) (Q:VK):Prop
 | mk (d:Addr) (ts0:List (List Key × Addr)) (sh:List Bool) (e_:xs=[.ref d]) (r_:H d=some (.lst (ts0.map fun t=>.ref t.2))/\ts0.length<64/\(∀ t∈ts0,H t.2=some (.tup (t.1.map kV)))/\(∀ t∈ts0,shp t.1=sh)/\0<sh.length/\(ts0.map (·.1)).Nodup/\∀(l:Addr) (ts:List (List Key × Addr)),H l=none->ts.Perm ts0->(ts.map (·.1)).Pairwise (fun x y=>lexK x y=true)->Q (.ref l) (upd H l (.lst (ts.map fun t=>.ref t.2))))
theorem xjw {α:Type} (f:α->Addr):∀{es:List α}{us:List Value},Vals (es.map fun x=>V.ref (f x)) us->us=es.map fun x=>Zo (f x)
 | [],_,.nil=>rfl
 | x::es,_,.cons r rs=>by
  cases r;rw[xjw f rs];rfl
theorem xf5 {X:Cx} (hc:X.calm=true):xbz X (.builtin "sorted") xfn:=by
 intro pins s Z H xs us Q I r h;obtain⟨d,ts0,sh,rfl,hd,hl,km,hsh,hpos,hnd,q⟩:=h;obtain⟨u,rfl,ru⟩:=xb4 r;obtain rfl:u=Zo d:=ru;obtain⟨z,its,n,rv,hlen,el⟩:=I.lstM hd;have eits:=xjw (fun t:List Key × Addr=>t.2) rv;refine Y1 kind_sorted plain_sorted entry_sorted (args_sorted1 _) ?_;unfold Wb;refine Zc (Zm ?_);show wpAny _ _ (collect (.ref d)>>=_) _ _ _;refine Zc (wpAny_collect_seq d (T:="list") (.inl rfl) el rfl rfl (fun h1 keep=>?_) (by rw[Z5,eits,Za]; exact J7 (Jm hl (by decide))));have I1:Inv X pins Z H { s with heap:=h1,toks:=s.toks }:=I.kept keep;have e0:its.toArray.toList=(ts0.map fun t=>(t.1,t.2,ZR)).map fun x=>Zo x.2.1:=by
  rw[Z3,eits];rfl
 rw[e0];refine xjk (ts0.map fun t=>(t.1,t.2,ZR)) I1 (by rw[Za]; exact hl) (fun x hx=>?_) (fun x hx=>?_) hpos (by rw[Z3]; exact hnd) fun l ts fr pm pw=>q l ts fr ?_ pw
 .obtain ⟨t,ht,rfl⟩:=Zh.mp hx;exact km t ht
 .obtain ⟨t,ht,rfl⟩:=Zh.mp hx;exact hsh t ht
 .rw [Z3] at pm;have e1:ts0.map ((fun x:List Key × Addr × Value=>(x.1,x.2.1))∘fun t=>(t.1,t.2,ZR))=ts0:=List.map_id _;rw[e1] at pm;exact pm
theorem xi8 {κ:Type} [DecidableEq κ]:∀{kvs:List (κ × V)}{k:κ}{v:V},valV kvs k=some v->∃ i:Nat,kvs[i]?=some (k,v)
 | [],k,v,h=>by cases h
 | p::r,k,v,h=>by
  by_cases e:p.1=k
  .rw [xaq e] at h;cases h;exact⟨0,by simp[<- e]⟩
  .rw [xao e] at h;obtain⟨i,hi⟩:=xi8 h;exact⟨i+1,by simpa using hi⟩
end L2
namespace L2
open PySem PySem.Spec PyProof.Rows XL PySem.W
inductive DV where
 | non
 | bl (b:Bool)
 | int (i:Int)
 | str (x:Str)
 | tup (xs:List DV)
 | lst (xs:List DV)
mutual
def dEq:DV->DV->Bool
 | .non,.non=>true
 | .bl a,.bl b=>a == b
 | .bl a,.int b=>(if a then 1 else 0) == b
 | .int a,.bl b=>a == (if b then 1 else 0)
 | .int a,.int b=>a == b
 | .str a,.str b=>a == b
 | .tup xs,.tup ys=>dEqs xs ys
 | .lst xs,.lst ys=>dEqs xs ys
 | _,_=>false
def dEqs:List DV->List DV->Bool
 | [],[]=>true
 | x::xs,y::ys=>dEq x y&&dEqs xs ys
 | _,_=>false
end
mutual
theorem xdv:∀ d,dEq d d=true
 | .non=>rfl
 | .bl _=>by simp[dEq]
 | .int _=>by simp[dEq]
 | .str _=>by simp[dEq]
 | .tup xs=>by simp only[dEq]; exact xd4 xs
 | .lst xs=>by simp only[dEq]; exact xd4 xs
theorem xd4:∀ xs,dEqs xs xs=true
 | []=>rfl
 | x::xs=>by simp only[dEqs,Zs]; exact⟨xdv x,xd4 xs⟩
end
mutual
def DV.pl:DV->Bool
 | .bl _=>false
 | .tup xs=>pls xs
 | .lst xs=>pls xs
 | _=>true
def pls:List DV->Bool
 | []=>true
 | x::xs=>x.pl&&pls xs
end
mutual
theorem xo7:∀{d e:DV},d.pl=true->e.pl=true->dEq d e=true->d=e
 | .non,.non,_,_,_=>rfl
 | .int a,.int b,_,_,h=>by simp only[dEq,beq_iff_eq] at h; rw[h]
 | .str a,.str b,_,_,h=>by simp only[dEq,beq_iff_eq] at h; rw[h]
 | .tup xs,.tup ys,p,q,h=>by
  simp only[dEq] at h;simp only[DV.pl] at p q;rw[xi6 p q h]
 | .lst xs,.lst ys,p,q,h=>by
  simp only[dEq] at h;simp only[DV.pl] at p q;rw[xi6 p q h]
 | .bl _,_,p,_,_=>by simp[DV.pl] at p
 | .non,.bl _,_,q,_=>by simp[DV.pl] at q
 | .int _,.bl _,_,q,_=>by simp[DV.pl] at q
 | .str _,.bl _,_,q,_=>by simp[DV.pl] at q
 | .tup _,.bl _,_,q,_=>by simp[DV.pl] at q
 | .lst _,.bl _,_,q,_=>by simp[DV.pl] at q
 | .non,.int _,_,_,h=>by simp[dEq] at h
 | .non,.str _,_,_,h=>by simp[dEq] at h
 | .non,.tup _,_,_,h=>by simp[dEq] at h
 | .non,.lst _,_,_,h=>by simp[dEq] at h
 | .int _,.non,_,_,h=>by simp[dEq] at h
 | .int _,.str _,_,_,h=>by simp[dEq] at h
 | .int _,.tup _,_,_,h=>by simp[dEq] at h
 | .int _,.lst _,_,_,h=>by simp[dEq] at h
 | .str _,.non,_,_,h=>by simp[dEq] at h
 | .str _,.int _,_,_,h=>by simp[dEq] at h
 | .str _,.tup _,_,_,h=>by simp[dEq] at h
 | .str _,.lst _,_,_,h=>by simp[dEq] at h
 | .tup _,.non,_,_,h=>by simp[dEq] at h
 | .tup _,.int _,_,_,h=>by simp[dEq] at h
 | .tup _,.str _,_,_,h=>by simp[dEq] at h
 | .tup _,.lst _,_,_,h=>by simp[dEq] at h
 | .lst _,.non,_,_,h=>by simp[dEq] at h
 | .lst _,.int _,_,_,h=>by simp[dEq] at h
 | .lst _,.str _,_,_,h=>by simp[dEq] at h
 | .lst _,.tup _,_,_,h=>by simp[dEq] at h
theorem xi6:∀{xs ys:List DV},pls xs=true->pls ys=true->dEqs xs ys=true->xs=ys
 | [],[],_,_,_=>rfl
 | x::xs,y::ys,p,q,h=>by
  simp only[pls,Zs] at p q;simp only[dEqs,Zs] at h;rw[xo7 p.1 q.1 h.1,xi6 p.2 q.2 h.2]
 | [],_::_,_,_,h=>by simp[dEqs] at h
 | _::_,[],_,_,h=>by simp[dEqs] at h
end
theorem xs9 {d e:DV}{α:Type}{x y:α} [DecidableEq α] (p:d.pl=true) (q:e.pl=true) (f:d=e↔x=y):dEq d e=decide (x=y):=by
 by_cases c:x=y
 .rw [decide_eq_true c,f.mpr c];exact xdv _
 .rw [decide_eq_false c];cases z:dEq d e with
  | false=>rfl
  | true=>exact absurd (f.mp (xo7 p q z)) c
theorem xhb:∀{xs ys:List DV}{e:Nat->Bool},(∀(j:Nat) (x y:DV),xs[j]?=some x->ys[j]?=some y->e j=dEq x y)->((Z0 (min xs.length ys.length)).all e&&xs.length == ys.length)=dEqs xs ys
 | [],[],_,_=>rfl
 | [],_::_,_,_=>by simp[dEqs]
 | _::_,[],_,_=>by simp[dEqs]
 | x::xs,y::ys,e,h=>by
  have ih:=xhb (xs:=xs) (ys:=ys) (e:=fun j=>e (j+1)) (fun j a b ha hb=>h (j+1) a b (by simpa using ha) (by simpa using hb));have h0:=h 0 x y rfl rfl;rw[ZI,ZI,show min (xs.length+1) (ys.length+1)=min xs.length ys.length+1 by omega,List.range_succ_eq_map,Qv,List.all_map];show _=(dEq x y&&dEqs xs ys)
  rw[<- ih,h0];have z:((xs.length+1 == ys.length+1):Bool)=(xs.length == ys.length):=by
   rw[ZU];simp
  rw[z,Bool.and_assoc];rfl
theorem xkt:∀{xs ys:List DV},xs.length≠ys.length->dEqs xs ys=false
 | [],[],h=>absurd rfl h
 | [],_::_,_=>rfl
 | _::_,[],_=>rfl
 | x::xs,y::ys,h=>by
  show (dEq x y&&dEqs xs ys)=false;rw[xkt (xs:=xs) (ys:=ys) (fun z=>h (by simp[z]))];exact YK _
inductive Dv (K:Zd) (H:Hp):Nat->V->DV->Prop
 | non {n:Nat}:Dv K H n .non .non
 | bl {n:Nat}{b:Bool}:Dv K H n (.bl b) (.bl b)
 | int {n:Nat}{b:Int}:Dv K H n (.int b) (.int b)
 | str {n:Nat}{b:Str}:Dv K H n (.str b) (.str b)
 | tup {n:Nat}{a:Addr}{xs:List V}{ds:List DV} (ha:SqT K H a xs) (hl:xs.length=ds.length) (h:∀(j:Nat) (x:V) (d:DV),xs[j]?=some x->ds[j]?=some d->Dv K H n x d):Dv K H (n+1) (.ref a) (.tup ds)
 | lst {n:Nat}{a:Addr}{xs:List V}{ds:List DV} (ha:SqL K H a xs) (hl:xs.length=ds.length) (h:∀(j:Nat) (x:V) (d:DV),xs[j]?=some x->ds[j]?=some d->Dv K H n x d):Dv K H (n+1) (.ref a) (.lst ds)
section
variable {X:Cx}{pins:List (Addr × Obj)}{Z:St}{H:Hp}{s:Shared}
theorem xja {h:Heap}{a:Addr}{i j:Array Value} (p:h.IsTuple a i) (q:PlainL h a j):False:=by
 obtain⟨o,e,c,_⟩:=p;obtain⟨o',n,e',c',_⟩:=q;rw[e] at e';cases e';rw[c] at c';exact absurd c' (by decide)
theorem xok {xs ys:List DV} (h:xs.length=ys.length) (f:∀(j:Nat) (x y:DV),xs[j]?=some x->ys[j]?=some y->x=y):xs=ys:=by
 refine List.ext_getElem? fun j=>?_;by_cases c:j<xs.length
 .rw [Zg c,Zg (by omega),f j _ _ (Zg c) (Zg (by omega))]
 .rw [JE (by omega),JE (by omega)]
theorem xkr (I:Inv X pins Z H s) {n:Nat}{x:V}{d:DV} (h:Dv X.K H n x d):∀{m:Nat}{e:DV},Dv X.K H m x e->d=e:=by
 induction h with
 | non=>intro m e h; cases h; rfl
 | bl=>intro m e h; cases h; rfl
 | int=>intro m e h; cases h; rfl
 | str=>intro m e h; cases h; rfl
 | @tup n a xs ds ha hl h ih =>
  intro m e h2;cases h2 with
  | @tup m _ ys es hb kl k =>
   obtain rfl:=I.tuple_inj ha hb;refine congrArg DV.tup (xok (by omega) fun j d e h1 h2=>?_);have lt:j<xs.length:=by
    have:=(Zf.mp h1).1;omega
   exact ih j xs[j] d (Zg lt) h1 (k j xs[j] e (Zg lt) h2)
  | @lst m _ ys es hb kl k =>
   obtain⟨its,_,t1,_⟩:=I.tuple ha;obtain⟨its2,_,t2,_⟩:=I.list hb;exact (xja t1 t2).elim
 | @lst n a xs ds ha hl h ih =>
  intro m e h2;cases h2 with
  | @lst m _ ys es hb kl k =>
   obtain rfl:=I.list_inj ha hb;refine congrArg DV.lst (xok (by omega) fun j d e h1 h2=>?_);have lt:j<xs.length:=by
    have:=(Zf.mp h1).1;omega
   exact ih j xs[j] d (Zg lt) h1 (k j xs[j] e (Zg lt) h2)
  | @tup m _ ys es hb kl k =>
   obtain⟨its,_,t1,_⟩:=I.tuple hb;obtain⟨its2,_,t2,_⟩:=I.list ha;exact (xja t1 t2).elim
def at2 (f:DV->DV->Bool) (ds es:List DV) (j:Nat):Bool:=match ds[j]?,es[j]? with|some d,some e=>f d e|_,_=>false
theorem xil {f:DV->DV->Bool}{ds es:List DV}{j:Nat}{d e:DV} (h:ds[j]?=some d) (h2:es[j]?=some e):at2 f ds es j=f d e:=by
 unfold at2;rw[h,h2]
theorem xne (I:Inv X pins Z H s) {n:Nat}{x:V}{d:DV} (h:Dv X.K H n x d):∀{m:Nat}{y:V}{e:DV},Dv X.K H m y e->∀{A:Around}{u v:Value},A.units+n+m<cLine->RelV x u->RelV y v ->
    Zx A s u v (dEq d e)/\ZD A s u v (dEq d e)/\Z7 A s u v (!dEq d e):=by
  induction h with
  | @non n =>
    intro m y e h2 A u v hu rx ry;obtain rfl:u=ZR:=rx;cases h2 with
    | @non  =>
      obtain rfl:v=ZR:=ry;exact⟨Zx.same _,ZD.none_none,Z7.none_none⟩
    | @bl _ b2 =>
      obtain rfl:v=Yf _:=ry;exact⟨Zx.none_bool _,ZD.none_bool _,Z7.none_bool _⟩
    | @int _ b2 =>
      obtain⟨_,rfl⟩:=ry;exact⟨Zx.none_int _ _,ZD.none_int _ _,Z7.none_int _ _⟩
    | @str _ b2 =>
      obtain⟨_,rfl⟩:=ry;exact⟨Zx.none_str _ _,ZD.none_str _ _,Z7.none_str _ _⟩
    | @tup m b ys es hb kl k =>
      obtain rfl:v=Zo _:=ry;obtain⟨its2,r2,t2,z2⟩:=I.tuple hb;have l2:=r2.length;exact⟨Zx.none_tuple t2 (by omega),ZD.none_tuple t2 (by omega),Z7.none_tuple t2 (by omega)⟩
    | @lst m b ys es hb kl k =>
      obtain rfl:v=Zo _:=ry;obtain⟨its2,r2,t2,z2⟩:=I.list hb;have l2:=r2.length;exact⟨Zx.none_list t2.isList (by omega),ZD.none_list t2.isList (by omega),Z7.none_list t2.isList (by omega)⟩
  | @bl n b1 =>
    intro m y e h2 A u v hu rx ry;obtain rfl:u=Yf _:=rx;cases h2 with
    | @non  =>
      obtain rfl:v=ZR:=ry;exact⟨Zx.bool_none _,ZD.bool_none _,Z7.bool_none _⟩
    | @bl _ b2 =>
      obtain rfl:v=Yf _:=ry;exact⟨Zx.bool_bool _ _,ZD.bool_bool _ _,Z7.bool_bool _ _⟩
    | @int _ b2 =>
      obtain⟨_,rfl⟩:=ry;exact⟨Zx.bool_int _ _ _,ZD.bool_int _ _ _,Z7.bool_int _ _ _⟩
    | @str _ b2 =>
      obtain⟨_,rfl⟩:=ry;exact⟨Zx.bool_str _ _ _,ZD.bool_str _ _ _,Z7.bool_str _ _ _⟩
    | @tup m b ys es hb kl k =>
      obtain rfl:v=Zo _:=ry;obtain⟨its2,r2,t2,z2⟩:=I.tuple hb;have l2:=r2.length;exact⟨Zx.bool_tuple _ t2 (by omega),ZD.bool_tuple _ t2 (by omega),Z7.bool_tuple _ t2 (by omega)⟩
    | @lst m b ys es hb kl k =>
      obtain rfl:v=Zo _:=ry;obtain⟨its2,r2,t2,z2⟩:=I.list hb;have l2:=r2.length;exact⟨Zx.bool_list _ t2.isList (by omega),ZD.bool_list _ t2.isList (by omega),Z7.bool_list _ t2.isList (by omega)⟩
  | @int n b1 =>
    intro m y e h2 A u v hu rx ry;obtain⟨_,rfl⟩:=rx;cases h2 with
    | @non  =>
      obtain rfl:v=ZR:=ry;exact⟨Zx.int_none _ _,ZD.int_none _ _,Z7.int_none _ _⟩
    | @bl _ b2 =>
      obtain rfl:v=Yf _:=ry;exact⟨Zx.int_bool _ _ _,ZD.int_bool _ _ _,Z7.int_bool _ _ _⟩
    | @int _ b2 =>
      obtain⟨_,rfl⟩:=ry;exact⟨Zx.int_int _ _ _ _,ZD.int_int _ _ _ _,Z7.int_int _ _ _ _⟩
    | @str _ b2 =>
      obtain⟨_,rfl⟩:=ry;exact⟨Zx.int_str _ _ _ _,ZD.int_str _ _ _ _,Z7.int_str _ _ _ _⟩
    | @tup m b ys es hb kl k =>
      obtain rfl:v=Zo _:=ry;obtain⟨its2,r2,t2,z2⟩:=I.tuple hb;have l2:=r2.length;exact⟨Zx.int_tuple _ _ t2 (by omega),ZD.int_tuple _ _ t2 (by omega),Z7.int_tuple _ _ t2 (by omega)⟩
    | @lst m b ys es hb kl k =>
      obtain rfl:v=Zo _:=ry;obtain⟨its2,r2,t2,z2⟩:=I.list hb;have l2:=r2.length;exact⟨Zx.int_list _ _ t2.isList (by omega),ZD.int_list _ _ t2.isList (by omega),Z7.int_list _ _ t2.isList (by omega)⟩
  | @str n b1 =>
    intro m y e h2 A u v hu rx ry;obtain⟨_,rfl⟩:=rx;cases h2 with
    | @non  =>
      obtain rfl:v=ZR:=ry;exact⟨Zx.str_none _ _,ZD.str_none _ _,Z7.str_none _ _⟩
    | @bl _ b2 =>
      obtain rfl:v=Yf _:=ry;exact⟨Zx.str_bool _ _ _,ZD.str_bool _ _ _,Z7.str_bool _ _ _⟩
    | @int _ b2 =>
      obtain⟨_,rfl⟩:=ry;exact⟨Zx.str_int _ _ _ _,ZD.str_int _ _ _ _,Z7.str_int _ _ _ _⟩
    | @str _ b2 =>
      obtain⟨_,rfl⟩:=ry;exact⟨Zx.str_str _ _ _ _,ZD.str_str _ _ _ _,Z7.str_str _ _ _ _⟩
    | @tup m b ys es hb kl k =>
      obtain rfl:v=Zo _:=ry;obtain⟨its2,r2,t2,z2⟩:=I.tuple hb;have l2:=r2.length;exact⟨Zx.str_tuple _ _ t2 (by omega),ZD.str_tuple _ _ t2 (by omega),Z7.str_tuple _ _ t2 (by omega)⟩
    | @lst m b ys es hb kl k =>
      obtain rfl:v=Zo _:=ry;obtain⟨its2,r2,t2,z2⟩:=I.list hb;have l2:=r2.length;exact⟨Zx.str_list _ _ t2.isList (by omega),ZD.str_list _ _ t2.isList (by omega),Z7.str_list _ _ t2.isList (by omega)⟩
  | @tup n a xs ds ha hl h ih =>
    intro m y e h2 A u v hu rx ry;obtain rfl:u=Zo _:=rx;obtain⟨its,r1,t1,z1⟩:=I.tuple ha;have l1:=r1.length;cases h2 with
    | @non  =>
      obtain rfl:v=ZR:=ry;exact⟨Zx.tuple_none t1 (by omega),ZD.tuple_none t1 (by omega),Z7.tuple_none t1 (by omega)⟩
    | @bl _ b2 =>
      obtain rfl:v=Yf _:=ry;exact⟨Zx.tuple_bool _ t1 (by omega),ZD.tuple_bool _ t1 (by omega),Z7.tuple_bool _ t1 (by omega)⟩
    | @int _ b2 =>
      obtain⟨_,rfl⟩:=ry;exact⟨Zx.tuple_int _ _ t1 (by omega),ZD.tuple_int _ _ t1 (by omega),Z7.tuple_int _ _ t1 (by omega)⟩
    | @str _ b2 =>
      obtain⟨_,rfl⟩:=ry;exact⟨Zx.tuple_str _ _ t1 (by omega),ZD.tuple_str _ _ t1 (by omega),Z7.tuple_str _ _ t1 (by omega)⟩
    | @tup m b ys es hb kl k =>
      obtain rfl:v=Zo _:=ry;obtain⟨its2,r2,t2,z2⟩:=I.tuple hb;have l2:=r2.length;have step:∀(j:Nat) (h1:j<its.toArray.size) (h2:j<its2.toArray.size),Zx A.in1 s its.toArray[j] its2.toArray[j] (at2 dEq ds es j):=fun j h1 h2=>by
        obtain⟨x,hx,rx⟩:=xgu r1 h1;obtain⟨y,hy,ry⟩:=xgu r2 h2;have j1:j<ds.length:=by simp at h1; omega
        have j2:j<es.length:=by simp at h2; omega
        rw[xil (Zg j1) (Zg j2)];exact (ih j x _ hx (Zg j1) (k j y _ hy (Zg j2)) (A:=A.in1) (by show A.units+1+n+m<cLine; omega) rx ry).1
      have all:=xhb (xs:=ds) (ys:=es) (e:=at2 dEq ds es) fun j x y h1 h2=>xil h1 h2;have both:ZD A s (.ref a) (.ref b) (dEqs ds es)/\Z7 A s (.ref a) (.ref b) (!dEqs ds es):=by
        have z1:=ZD.tuples (A:=A) (e:=at2 dEq ds es) (show s.heap.IsTuple a its.toArray from t1) (show s.heap.IsTuple b its2.toArray from t2) (by omega) step;have z2:=Z7.tuples (A:=A) (e:=at2 dEq ds es) (show s.heap.IsTuple a its.toArray from t1) (show s.heap.IsTuple b its2.toArray from t2) (by omega) step;have e1:its.toArray.size=ds.length:=by simp; omega
        have e2:its2.toArray.size=es.length:=by simp; omega
        rw[e1,e2,all] at z1 z2;exact⟨z1,z2⟩
      simp only[dEq];refine⟨?_,both⟩;by_cases q:a=b
      . subst q
        have ed:DV.tup ds=DV.tup es:=xkr I (Dv.tup ha hl h) (Dv.tup hb kl k);rw[show es=ds by injection ed with z; exact z.symm,xd4];exact Zx.same _
      . exact .of_refs q both.1
    | @lst m b ys es hb kl k =>
      obtain rfl:v=Zo _:=ry;obtain⟨its2,r2,t2,z2⟩:=I.list hb;have l2:=r2.length;exact⟨Zx.tuple_list t1 t2.isList (by omega),ZD.tuple_list t1 t2.isList (by omega),Z7.tuple_list t1 t2.isList (by omega)⟩
  | @lst n a xs ds ha hl h ih =>
    intro m y e h2 A u v hu rx ry;obtain rfl:u=Zo _:=rx;obtain⟨its,r1,t1,z1⟩:=I.list ha;have l1:=r1.length;cases h2 with
    | @non  =>
      obtain rfl:v=ZR:=ry;exact⟨Zx.list_none t1.isList (by omega),ZD.list_none t1.isList (by omega),Z7.list_none t1.isList (by omega)⟩
    | @bl _ b2 =>
      obtain rfl:v=Yf _:=ry;exact⟨Zx.list_bool _ t1.isList (by omega),ZD.list_bool _ t1.isList (by omega),Z7.list_bool _ t1.isList (by omega)⟩
    | @int _ b2 =>
      obtain⟨_,rfl⟩:=ry;exact⟨Zx.list_int _ _ t1.isList (by omega),ZD.list_int _ _ t1.isList (by omega),Z7.list_int _ _ t1.isList (by omega)⟩
    | @str _ b2 =>
      obtain⟨_,rfl⟩:=ry;exact⟨Zx.list_str _ _ t1.isList (by omega),ZD.list_str _ _ t1.isList (by omega),Z7.list_str _ _ t1.isList (by omega)⟩
    | @tup m b ys es hb kl k =>
      obtain rfl:v=Zo _:=ry;obtain⟨its2,r2,t2,z2⟩:=I.tuple hb;have l2:=r2.length;exact⟨Zx.list_tuple t1.isList t2 (by omega),ZD.list_tuple t1.isList t2 (by omega),Z7.list_tuple t1.isList t2 (by omega)⟩
    | @lst m b ys es hb kl k =>
      obtain rfl:v=Zo _:=ry;obtain⟨its2,r2,t2,z2⟩:=I.list hb;have l2:=r2.length;have step:∀(j:Nat) (h1:j<its.toArray.size) (h2:j<its2.toArray.size),Zx A.in1 s its.toArray[j] its2.toArray[j] (at2 dEq ds es j):=fun j h1 h2=>by
        obtain⟨x,hx,rx⟩:=xgu r1 h1;obtain⟨y,hy,ry⟩:=xgu r2 h2;have j1:j<ds.length:=by simp at h1; omega
        have j2:j<es.length:=by simp at h2; omega
        rw[xil (Zg j1) (Zg j2)];exact (ih j x _ hx (Zg j1) (k j y _ hy (Zg j2)) (A:=A.in1) (by show A.units+1+n+m<cLine; omega) rx ry).1
      have all:=xhb (xs:=ds) (ys:=es) (e:=at2 dEq ds es) fun j x y h1 h2=>xil h1 h2;have both:ZD A s (.ref a) (.ref b) (dEqs ds es)/\Z7 A s (.ref a) (.ref b) (!dEqs ds es):=by
        have e1:its.toArray.size=ds.length:=by simp; omega
        have e2:its2.toArray.size=es.length:=by simp; omega
        by_cases c:ds.length=es.length
        . have z1:=ZD.lists (A:=A) (e:=at2 dEq ds es) t1.isList t2.isList (by omega) (by omega) step
          have z2:=Z7.lists (A:=A) (e:=at2 dEq ds es) t1.isList t2.isList (by omega) (by omega) step;have all':(Z0 ds.length).all (at2 dEq ds es)=dEqs ds es:=by
            rw[<- all,c,Nat.min_self];simp
          rw[e1,all'] at z1 z2;exact⟨z1,z2⟩
        . rw[xkt c]
          exact⟨ZD.lists_lengths (A:=A) t1.isList t2.isList (by rw[e1,e2]; simpa using c) (by omega),Z7.lists_lengths (A:=A) t1.isList t2.isList (by rw[e1,e2]; simpa using c) (by omega)⟩
      simp only[dEq];refine⟨?_,both⟩;by_cases q:a=b
      . subst q
        have ed:DV.lst ds=DV.lst es:=xkr I (Dv.lst ha hl h) (Dv.lst hb kl k);rw[show es=ds by injection ed with z; exact z.symm,xd4];exact Zx.same _
      . exact .of_refs q both.1
end
theorem Same.seqL {K:Zd}{H H':Hp}{a:Addr}{xs:List V} (s:Same H H') (h:SqL K H a xs):SqL K H' a xs:=by
 rcases h with (h|⟨ob,h⟩)|h
 .exact .inl (.inl (s _ _ h))
 .exact .inl (.inr ⟨ob,s _ _ h⟩)
 .exact .inr h
inductive rEqV (K:Zd) (x:V) (y:V) (H:Hp) (Q:VK):Prop
 | mk (n m:Nat) (d e:DV) (e_:Dv K H n x d) (r_:Dv K H m y e/\n<=9/\m<=9/\Q (.bl (dEq d e)) H)
inductive rNeV (K:Zd) (x:V) (y:V) (H:Hp) (Q:VK):Prop
 | mk (n m:Nat) (d e:DV) (e_:Dv K H n x d) (r_:Dv K H m y e/\n<=9/\m<=9/\Q (.bl (!dEq d e)) H)
inductive rInV (K:Zd) (neg:Bool) (x:V) (y:V) (H:Hp) (Q:VK):Prop
 | mk (n m:Nat) (d:DV) (es:List DV) (e_:Dv K H n x d) (r_:Dv K H m y (.lst es)/\n<=9/\m<=9/\Q (.bl (if neg then !es.any (fun z=>dEq z d) else es.any fun z=>dEq z d)) H)
section
variable {X:Cx}
theorem xh1 (hu:X.A.units+20<cLine):OpR X (compareOp .Eq) (rEqV X.K):=by
 intro pins s Z H x y u v Q I rx ry h;obtain⟨n,m,d,e,h1,h2,hn,hm,q⟩:=h;exact (xne I h1 h2 (A:=X.A) (by omega) rx ry).2.1 X.prog X.w X.xe _ ⟨.bl _,H,I,rfl,q⟩
theorem xe2 (hu:X.A.units+20<cLine):OpR X (compareOp .NotEq) (rNeV X.K):=by
 intro pins s Z H x y u v Q I rx ry h;obtain⟨n,m,d,e,h1,h2,hn,hm,q⟩:=h;exact PySem.W.cmp_ofNotEq ((xne I h1 h2 (A:=X.A) (by omega) rx ry).2.2 X.prog X.w X.xe _ ⟨.bl _,H,I,rfl,q⟩)
theorem xpi {α β:Type}{f:α->Bool}{g:β->Bool}:∀{xs:List α}{ys:List β},xs.length=ys.length->(∀(j:Nat) (x:α) (y:β),xs[j]?=some x->ys[j]?=some y->f x=g y)->xs.any f=ys.any g
 | [],[],_,_=>rfl
 | [],_::_,h,_=>by cases h
 | _::_,[],h,_=>by cases h
 | x::xs,y::ys,h,k=>by
  rw[JP,JP,k 0 x y rfl rfl,xpi (xs:=xs) (ys:=ys) (by simpa using h) fun j a b h1 h2=>k (j+1) a b (by simpa using h1) (by simpa using h2)]
noncomputable def eOf (K:Zd) (H:Hp) (m:Nat) (d:DV) (z:V):Bool:=@dite Bool (∃ e,Dv K H m z e) (Classical.propDecidable _) (fun h=>dEq h.choose d) fun _=>false
theorem xpa {pins:List (Addr × Obj)}{Z:St}{H:Hp}{s:Shared} (I:Inv X pins Z H s) {m:Nat}{d e:DV}{z:V} (h:Dv X.K H m z e):eOf X.K H m d z=dEq e d:=by
 unfold eOf;rw[dif_pos ⟨e,h⟩];have ex:∃ e,Dv X.K H m z e:=⟨e,h⟩
 rw[xkr I ex.choose_spec h]
theorem xu6 (hu:X.A.units+20<cLine):OpR X (compareOp .In) (rInV X.K false):=by
 intro pins s Z H x y v u Q I rx ry h;obtain⟨n,m,d,es,h1,h2,hn,hm,q⟩:=h;cases h2 with
 | @lst m a xs _ ha hl k =>
  cases ry;obtain⟨its,r,pl,hz⟩:=I.list ha;have get:∀ z∈xs,∃(j:Nat) (e:DV),xs[j]?=some z/\es[j]?=some e/\Dv X.K H m z e:=fun z hz=>by
   obtain⟨j,hj⟩:=List.getElem?_of_mem hz;have lt:j<es.length:=by rw[<- hl]; exact (Zf.mp hj).1
   exact⟨j,es[j],hj,Zg lt,k j z _ hj (Zg lt)⟩
  refine SeqAt.in_listAt (eU (eOf X.K H m d)) pl.isList (fun w hw=>?_) ⟨.bl _,H,I,rfl,?_⟩
  .obtain ⟨z,m1,m2⟩:=xmu r w (by simpa using hw);obtain⟨j,e,_,_,he⟩:=get z m1;rw[xry m2,xpa I he];exact (xne I he h1 (A:=X.A.in1) (by show X.A.units+1+m+n<cLine; omega) m2 rx).1
  .rw [show its.toArray.any (eU (eOf X.K H m d))=its.any (eU (eOf X.K H m d)) by simp,xn6 r,xpi (g:=fun z=>dEq z d) hl fun j z e g1 g2=>xpa I (k j z e g1 g2)];exact q
end
end L2
namespace L2
open PySem PySem.Spec PyProof.Rows XL PySem.W
def Tp (H H':Hp):Prop:=∀ b xs,H b=some (.tup xs)->H' b=some (.tup xs)
theorem Same.tp {H H':Hp} (s:Same H H'):Tp H H':=fun b xs e=>s b _ e
theorem Tp.trans {H H' H'':Hp} (s:Tp H H') (r:Tp H' H''):Tp H H'':=fun b xs e=>r b xs (s b xs e)
theorem xe7 {H:Hp}{l:Addr}{xs ys:List V} (h:H l=some (.lst xs)):Tp H (upd H l (.lst ys)):=fun b zs e=>by
 rw[xg (fun z=>by rw[z,h] at e; cases e)];exact e
section
variable {J:It}{n:Nat}{g:TG}{Z:St}{fr:List Nat}{tc:TT}{te:TE}{l:Addr}{H1:Hp}{Q:VK}
theorem xm7 (len:Nat) (hlen:len<sizeLine) (hl:H1 l=none) (x:Nat->V) (hgo:∀ i H,i<len->Same H1 H->J.go i H) (hy:∀ i H v H',i<len->Same H1 H->J.yld i H v H'->H'=H/\v=x i) (hst:∀ H,Same H1 H->J.stop len H)
    (p:Nat->Bool) (F:Nat->V->Hp->Prop) (stab:∀ i y H H',Tp H H'->F i y H->F i y H')
    (step:∀ i H2,i<len->Same H1 H2->∀(N:V->Hp->Prop) (M:Hp->Prop),(∀ y H',Same H2 H'->p i=true->F i y H'->N y H')->(∀ H',Same H2 H'->p i=false->M H') ->
      g (x i) (blk0 Z fr n) H2 fun σ' H3=>tc σ' H3 fun b H4=>if b=true then te σ' H4 N else M H4)
    (fin:∀ ys H2,Same H1 H2->H2 l=some (.lst ys)->ys.length=((Z0 len).filter p).length->(∀(j:Nat) (y:V) (i:Nat),ys[j]?=some y->((Z0 len).filter p)[j]?=some i->F i y H2)->Q (.ref l) H2):xcz J n g Z fr tc te l H1 Q:=by
  refine xcp len (fun i ys H2=>Same H1 H2/\H2 l=some (.lst ys)/\ys.length=((Z0 i).filter p).length/\∀(j:Nat) (y:V) (k:Nat),ys[j]?=some y->((Z0 i).filter p)[j]?=some k->F k y H2) ?_ ?_ ?_ ?_
  . refine⟨fun b u e=>?_,xh,rfl,fun j y k e=>by simp at e⟩
    rw[xg (xi e hl)];exact e
  . rintro i ys H2 lt ⟨s,_⟩
    exact hgo i H2 lt s
  . rintro i ys H2 v H3 lt ⟨s,el,ly,f⟩ yl N hN
    obtain⟨rfl,rfl⟩:=hy i H2 v H3 lt s yl;refine step i H3 lt s _ _ (fun y H' s' pt hf=>?_) (fun H' s' pf=>?_)
    . have el':=s' _ _ el
      have ylen:ys.length<sizeLine:=by
        rw[ly];refine Yi (Yp _ _) ?_;rw[Zr];omega
      refine⟨el',ylen,hN _ _ ⟨fun b u e=>?_,xh,?_,fun j z k e1 e2=>?_⟩⟩
      . rw[xg (xi e hl)]
        exact s' _ _ (s _ _ e)
      . rw[JM,Jn,Zp,Zp,ly,Je pt]
        rfl
      . rw[JM,Jn,Je pt] at e2
        by_cases c:j<ys.length
        . rw[ZW c] at e1
          rw[ZW (by omega)] at e2;exact stab _ _ _ _ ((Same.tp s').trans (xe7 el')) (f j z k e1 e2)
        . rw[Jb (by omega)] at e1 e2
          rw[<- ly] at e2;cases hj:j-ys.length with
          | zero =>
            rw[hj] at e1 e2;simp at e1 e2;subst e1 e2;exact stab _ _ _ _ (xe7 el') hf
          | succ m =>
            rw[hj] at e1;simp at e1
    . refine hN _ _ ⟨s.trans s',s' _ _ el,?_,fun j z k e1 e2=>?_⟩
      . rw[JM,Jn,Jk (by simp[pf])]
        simpa using ly
      . rw[JM,Jn,Jk (by simp[pf])] at e2
        simp only[QI,Jx] at e2;exact stab _ _ _ _ (Same.tp s') (f j z k e1 e2)
  . rintro ys H2 ⟨s,el,ly,f⟩
    exact⟨hst _ s,fin ys H2 s el ly f⟩
theorem xfc {K:Zd}{a:Addr}{xs:List V} (hs:SqL K H1 a xs) (hlen:xs.length<sizeLine) (hl:H1 l=none) (p:Nat->Bool) (F:Nat->V->Hp->Prop) (stab:∀ i y H H',Tp H H'->F i y H->F i y H')
    (step:∀(i:Nat) (x:V) (H2:Hp),xs[i]?=some x->Same H1 H2->∀(N:V->Hp->Prop) (M:Hp->Prop),(∀ y H',Same H2 H'->p i=true->F i y H'->N y H')->(∀ H',Same H2 H'->p i=false->M H') ->
      g x (blk0 Z fr n) H2 fun σ' H3=>tc σ' H3 fun b H4=>if b=true then te σ' H4 N else M H4)
    (fin:∀ ys H2,Same H1 H2->H2 l=some (.lst ys)->ys.length=((Z0 xs.length).filter p).length->(∀(j:Nat) (y:V) (i:Nat),ys[j]?=some y->((Z0 xs.length).filter p)[j]?=some i->F i y H2)->Q (.ref l) H2):xcz (Itl K a) n g Z fr tc te l H1 Q:=by
  refine xm7 xs.length hlen hl (fun i=>xs.getD i .non) (fun i H lt s=>⟨xs,xs[i],Same.seqL s hs,Zg lt⟩) (fun i H v H' lt s y=>?_) (fun H s=>⟨xs,Same.seqL s hs,Zl _⟩) p F stab (fun i H2 lt s N M h1 h2=>?_) fin
  . obtain⟨e,f⟩:=y
    have z:=f xs (Same.seqL s hs);refine⟨e,?_⟩;simp[z]
  . have e:xs[i]?=some (xs.getD i .non):=by simp[Zg lt]
    exact step i _ H2 e s N M h1 h2
theorem xfk {i:Nat}{x:V}{σ0:St}{H2:Hp}{N:V->Hp->Prop}{M:Hp->Prop}{g:TG}{te:TE} (h:g x σ0 H2 fun σ' H3=>te σ' H3 N):g x σ0 H2 fun σ' H3=>xdh σ' H3 fun b H4=>if b=true then te σ' H4 N else M H4:=by
 have e:(fun (σ':St) (H3:Hp)=>xdh σ' H3 fun b H4=>if b=true then te σ' H4 N else M H4)=fun σ' H3=>te σ' H3 N:=by
  funext σ' H3;show (if true=true then te σ' H3 N else M H3)=te σ' H3 N;rw[if_pos rfl]
 rw[e];exact h
theorem xd8 (m:Nat):(Z0 m).filter (fun _=>true)=Z0 m:=by simp
theorem xeo {K:Zd}{a:Addr}{xs:List V} (hs:SqL K H1 a xs) (hlen:xs.length<sizeLine) (hl:H1 l=none) (F:Nat->V->Hp->Prop) (stab:∀ i y H H',Tp H H'->F i y H->F i y H')
    (step:∀(i:Nat) (x:V) (H2:Hp),xs[i]?=some x->Same H1 H2->∀(N:V->Hp->Prop),(∀ y H',Same H2 H'->F i y H'->N y H')->g x (blk0 Z fr n) H2 fun σ' H3=>te σ' H3 N)
    (fin:∀ ys H2,Same H1 H2->H2 l=some (.lst ys)->ys.length=xs.length->(∀(i:Nat) (y:V),ys[i]?=some y->F i y H2)->Q (.ref l) H2):xcz (Itl K a) n g Z fr xdh te l H1 Q:=by
  refine xfc hs hlen hl (fun _=>true) F stab (fun i x H2 hx s N M h1 h2=>xfk (i:=i) (step i x H2 hx s N fun y H' s' f=>h1 y H' s' rfl f)) (fun ys H2 s e ly f=>?_);rw[xd8,Zr] at ly;refine fin ys H2 s e ly fun i y hy=>f i y i hy ?_;rw[xd8,Jj (by have:=(Zf.mp hy).1; omega)]
theorem xlr {lo:Int}{m:Nat} (hlen:m<sizeLine) (hl:H1 l=none) (p:Nat->Bool) (F:Nat->V->Hp->Prop) (stab:∀ i y H H',Tp H H'->F i y H->F i y H')
    (step:∀(i:Nat) H2,i<m->Same H1 H2->∀(N:V->Hp->Prop) (M:Hp->Prop),(∀ y H',Same H2 H'->p i=true->F i y H'->N y H')->(∀ H',Same H2 H'->p i=false->M H') ->
      g (.int (lo+i)) (blk0 Z fr n) H2 fun σ' H3=>tc σ' H3 fun b H4=>if b=true then te σ' H4 N else M H4)
    (fin:∀ ys H2,Same H1 H2->H2 l=some (.lst ys)->ys.length=((Z0 m).filter p).length->(∀(j:Nat) (y:V) (i:Nat),ys[j]?=some y->((Z0 m).filter p)[j]?=some i->F i y H2)->Q (.ref l) H2):xcz (Itr lo m) n g Z fr tc te l H1 Q:=by
  exact xm7 m hlen hl (fun i=>.int (lo+i)) (fun i H lt s=>lt) (fun i H v H' lt s y=>y) (fun H s=>Zl _) p F stab (fun i H2 lt s N M h1 h2=>step i H2 lt s N M h1 h2) fin
theorem xdp {lo:Int}{m:Nat} (hlen:m<sizeLine) (hl:H1 l=none) (F:Nat->V->Hp->Prop) (stab:∀ i y H H',Tp H H'->F i y H->F i y H')
    (step:∀(i:Nat) H2,i<m->Same H1 H2->∀(N:V->Hp->Prop),(∀ y H',Same H2 H'->F i y H'->N y H')->g (.int (lo+i)) (blk0 Z fr n) H2 fun σ' H3=>te σ' H3 N)
    (fin:∀ ys H2,Same H1 H2->H2 l=some (.lst ys)->ys.length=m->(∀(i:Nat) (y:V),ys[i]?=some y->F i y H2)->Q (.ref l) H2):xcz (Itr lo m) n g Z fr xdh te l H1 Q:=by
  refine xlr hlen hl (fun _=>true) F stab (fun i H2 hi s N M h1 h2=>xfk (i:=i) (step i H2 hi s N fun y H' s' f=>h1 y H' s' rfl f)) (fun ys H2 s e ly f=>?_);rw[xd8,Zr] at ly;refine fin ys H2 s e ly fun i y hy=>f i y i hy ?_;rw[xd8,Jj (by have:=(Zf.mp hy).1; omega)]
end
theorem xmb {α:Type} (q:α->Bool):∀(as:List α) (p:Nat->Bool),(∀(i:Nat) (a:α),as[i]?=some a->p i=q a)->((Z0 as.length).filter p).filterMap (fun i=>as[i]?)=as.filter q
 | [],_,_=>rfl
 | a::as,p,h=>by
  have ih:=xmb q as (fun i=>p (i+1)) fun i b hb=>h (i+1) b (by simpa using hb);rw[ZI,List.range_succ_eq_map];have e:((Z0 as.length).map Nat.succ).filter p=((Z0 as.length).filter (fun i=>p (i+1))).map Nat.succ:=by
   rw[List.filter_map];rfl
  have h0:=h 0 a rfl;by_cases c:q a=true
  .rw [Je (by rw[h0]; exact c),Je c,e,Y4];simp only[List.getElem?_cons_zero,Wr];rw[<- ih];rfl
  .rw [Jk (by rw[h0]; exact c),Jk c,e,Wr,<- ih];rfl
theorem xsf {α:Type} (q:α->Bool) {as:List α}{p:Nat->Bool} (h:∀(i:Nat) (a:α),as[i]?=some a->p i=q a):((Z0 as.length).filter p).length=(as.filter q).length/\∀ j i:Nat,((Z0 as.length).filter p)[j]?=some i->as[i]?=(as.filter q)[j]?:=by
 rw[<- xmb q as p h];have all:∀ i∈(Z0 as.length).filter p,∃ a,as[i]?=some a:=fun i hi=>by
  have:=ZL.mp (ZT.mp hi).1;exact⟨as[i],Zg this⟩
 generalize (Z0 as.length).filter p=is at all
 induction is with
 | nil=>exact⟨rfl,fun j i e=>by simp at e⟩
 | cons i is ih =>
  obtain⟨a,ha⟩:=all i Zv;obtain⟨h1,h2⟩:=ih fun k hk=>all k (Zt _ hk)
  rw[Y4,ha];refine⟨by simp[h1],fun j k e=>?_⟩;cases j with
  | zero =>
   simp at e;subst e;exact ha
  | succ m=>exact h2 m k (by simpa using e)
end L2
namespace XL
open PySem PySem.MeetsSeq PySem.MeetsSeq2 PySem.MeetsSeq3 PySem.SeqAt
open AutoSeq1 (wpAny_loadPart')
end XL
namespace L2
open PySem PySem.Spec PyProof.Rows XL PySem.W
def xo1:Expr->Bool
 | .Starred _ _=>false
 | _=>true
theorem xnj {e:Expr}{es:List Expr}{env:Env} (h:xo1 e=true):starEach (e::es) env=(false,eval e env)::starEach es env:=by
 cases e<;>first|rfl|cases h
theorem xx {X:Cx}{e:Expr}{es:List Expr}{te:TE}{t:TA} (ha:PE X e te) (hr:PA X es t) (hn:xo1 e=true):PA X (e::es) (xgs te t):=xb ha hr (xnj hn)
end L2
namespace XL
open PySem L2
open PyProof.Rows (assign_Tuple)
end XL
namespace L2
open PySem PySem.Spec PyProof.Rows XL PySem.W
end L2
namespace L2
open PySem PySem.Spec PyProof.Rows XL PySem.W PySem.Builtin PySem.Builtin.Str
theorem xds {a b:Str} (h:a.cps.toList=b.cps.toList):a=b:=by
 obtain⟨a⟩:=a;obtain⟨b⟩:=b;exact congrArg Str.mk (Array.toList_inj.mp h)
end L2
namespace L2
open PySem PySem.Spec PyProof.Rows XL
open AutoSeq1 (wpAny_loadPart')
end L2
namespace L2
open PySem PySem.Spec PyProof.Rows XL
theorem xnl:typeLookup (.type "list_reverseiterator") "__len__"=pure none:=by rw[typeLookup_type,QK]; kernel_rfl
theorem xrg:typeLookup (.type "list_reverseiterator") "__length_hint__"=pure (some (.builtin "list_reverseiterator.__length_hint__")):=by rw[typeLookup_type,QK]; kernel_rfl
section
variable {prog:Program}{w:World}{A:Around}{E:Value->Shared->Prop}{s:Shared}
theorem xq8 {I l:Addr}{i:Int}{Q:Bool->Shared->Prop} (hit:s.heap.IsRevIter I l i) (h:Q false s):wpAny (model prog w) A (Builtin.List.listLengthHint (.ref I)) Q E s:=by
 unfold Builtin.List.listLengthHint;refine Zc (Qa hit.typeIs xnl ?_);show wpAny _ _ (specialOf (Zo I) (Zb "__length_hint__")>>=_) _ _ _;refine Zc (Qa hit.typeIs xrg ?_);generalize hid:("list_reverseiterator.__length_hint__":String)=id0
 wp_delta
 rw[show splitId id0=some ("list_reverseiterator", "__length_hint__") from by subst hid; decide +kernel];subst hid;refine Zc (Qz (T:="list_reverseiterator") (b:=true) hit.typeIs (by rw[isSubtype_type]; kernel_rfl) ?_);refine wpAny_ite_split (fun hab=>absurd hab (by decide)) (fun _=>?_);refine wpAny_ite_split (fun _=>?_) (fun hab=>absurd (by decide +kernel) hab);refine wpAny_ite_split (fun hab=>absurd hab (by decide +kernel)) (fun _=>?_);exact Zm h
theorem xnk {R:Result->Shared->Prop} (hh:A.handled=none) {I l:Addr}{items:Array Value} (hne:l≠I) (S:Addr) (hSI:S≠I) (hSl:S≠l) (res:Value) (c₀:Nat) (hit:s.heap.IsRevIter I l ((items.size:Int)-1)) (hl:s.heap.IsList l items)
    (hS:s.heap.get? S=some { cls:=.type "list",data:=.seq #[] c₀ }) (hn:items.size<=sizeLine)
    (hR:∀ h' tk acc' c',(∀ b o,b≠S->b≠I->s.heap.get? b=some o->h'.get? b=some o)->h'.get? S=some { cls:=.type "list",dict:=none,data:=.seq acc' c',slots:=#[] } ->
      ItemsOf (fun i v=>items[items.size-1-i]?=some v) acc' items.size->R (.ok (.ret res)) { s with heap:=h',toks:=tk }) :
    wpAny (model prog w) A.in1 (Builtin.List.listExtendWith (.ref S) (.ref I) res)
      (fun fin s'=>match fin with|.done f=>R (.ok f) s'|.again c'=>c'.quiet=true/\codeAny (model prog w) A c' R s') (fun e s'=>R (.error e) s') s:=by
  have hSf:S∉[I,l]:=by simp[hSI,hSl]
  have W:=(Walks.listRev (prog:=prog) (w:=w) (A:=A.in1) hh I l hne items).toS;unfold Builtin.List.listExtendWith;refine Zc (Yy hit.typeIs ?_);have h1:Builtin.List.listSameRef (.ref S) (.ref I)=false:=by simp[Builtin.List.listSameRef,hSI]
  have h2:(Q6 "list_reverseiterator" == Q6 "list")=false:=by decide
  have h3:(Q6 "list_reverseiterator" == Q6 "tuple")=false:=by decide
  simp only[h1,h2,h3,Yc,Jh,if_false];refine Zc (wpAny_pyIter_revIter hit ?_);refine Zc (J5 (xq8 hit ?_));rw[if_neg (by decide)];have hit0:s.heap.IsRevIter I l ((items.size:Int)-1-((0:Nat):Int)):=by simpa using hit
  refine Zm ⟨plainId_quiet F.plain_extend_loop _,codeAny_extend_loopS W hn S hSf res items.size 0 _ #[] c₀ rfl (ZZ _) ⟨ZZ _,hit0,hl⟩ hS (ItemsOf.nil _) fun s' acc' c' hm hS' hacc=>?_⟩;rw[Moved.eq_with hm];refine hR s'.heap s'.toks acc' c' (fun b o hb hb2 e=>hm.heap b o (fun hmem=>?_) e) hS' hacc;rcases Zy.mp hmem with e'|hmem
  . exact hb e'
  . exact hb2 (Z6.mp hmem)
theorem xj8 {Q:Value->Shared->Prop} (hh:A.handled=none) {I l:Addr}{items:Array Value} (hne:l≠I) (hit:s.heap.IsRevIter I l ((items.size:Int)-1)) (hl:s.heap.IsList l items) (hn:items.size<=sizeLine)
    (hQ:∀ h' tk acc' c',(∀ b o,b≠I->s.heap.get? b=some o->h'.get? b=some o) ->
      h'.get? s.heap.objs.size=some { cls:=.type "list",dict:=none,data:=.seq acc' c',slots:=#[] }->ItemsOf (fun i v=>items[items.size-1-i]?=some v) acc' items.size->Q (.ref s.heap.objs.size) { s with heap:=h',toks:=tk }) :
    wpAny (model prog w) A (call (.type "list") [.ref I]) Q E s:=by
  refine callType_codes (Q₁:=fun obj s₁=>obj=.ref s.heap.objs.size/\s₁={ s with heap:=s.heap.push { cls:=.type "list",data:=.seq #[] } }) F.called_list (F.typeCall_list_1 _) F.entry_list_init
    (code_list_new _ ⟨rfl,rfl⟩) fun obj s₁ h₁=>?_
  obtain⟨rfl,rfl⟩:=h₁;have hS:(s.heap.push { cls:=.type "list",data:=.seq #[] }).get? s.heap.objs.size=some { cls:=.type "list",data:=.seq #[] }:=Z2 _ rfl;have iI:I<s.heap.objs.size:=by obtain⟨o,e,_⟩:=hit; exact Zq e
  have il:l<s.heap.objs.size:=by obtain⟨o,e,_⟩:=hl; exact Zq e
  refine⟨⟨_,hS,rfl⟩,F.args_list_init_2 _ _,?_⟩;show wpAny _ _ (do let old <- Builtin.List.listItems (.ref s.heap.objs.size); Builtin.List.listUpdate (.ref s.heap.objs.size) (fun _=>#[]); letGo old.toList.reverse; Builtin.List.listExtendWith (.ref s.heap.objs.size) (.ref I) .none) _ _ _;refine Zc ?_;unfold Builtin.List.listItems;refine Zc (wpAny_seqItems hS rfl (Zm ?_));show wpAny _ _ (updateSeq s.heap.objs.size (fun _=>#[])>>=fun _=>letGo (#[]:Array Value).toList.reverse>>=fun _=>Builtin.List.listExtendWith (.ref s.heap.objs.size) (.ref I) .none) _ _ _;refine Zc (wpAny_updateSeq hS rfl ?_);have hS₂:=ZM (JT (fun _=>(#[]:Array Value))) hS rfl;have oth:∀ b o,s.heap.get? b=some o->((s.heap.push { cls:=.type "list",data:=.seq #[] }).update s.heap.objs.size (JT (fun _=>(#[]:Array Value)))).get? b=some o :=
    fun b o e=>(Jo _ _ (Yg (Zq e))).trans (Zi _ e)
  refine Zc (wpAny_letGo ?_);refine xnk (A:=A.in1) hh hne s.heap.objs.size (Yg iI) (Yg il) .none _ (hit.at (oth I)) (hl.at (oth l)) hS₂ hn fun h' tk acc' c' hk hS' hacc=>?_;exact⟨rfl,hQ h' tk acc' c' (fun b o hb e=>hk b o (ZH (Zq e)) hb (oth b o e)) hS' hacc⟩
end
def xvr (K:Zd) (ta:TA):TE:=fun Z H Q=>ta Z H fun vs H1=>∃ a xs,vs=[.ref a]/\SqL K H1 a xs/\∀ l,H1 l=none->Q (.ref l) (upd H1 l (.lst xs.reverse))
section
variable {X:Cx}
theorem xno {a:Expr}{ta:TA}{p p2 pos pos2:Pos} (hc:X.calm=true) (hg:Gl X "list") (hm:X.mg "list"=none) (hg2:Gl X "reversed") (hm2:X.mg "reversed"=none) (ha:PA X [a] ta)
    (hs:starEach [a] X.env=[(false,eval a X.env)]:=by rfl) (hs3:starEach [.Call (.Name "reversed" p2) [a] [] pos2] X.env=[(false,eval (.Call (.Name "reversed" p2) [a] [] pos2) X.env)]:=by rfl) :
    PE X (.Call (.Name "list" p) [.Call (.Name "reversed" p2) [a] [] pos2] [] pos) (xvr X.K ta):=by
  intro pins s Z H Q I h;refine Yh (xc1 I hg hm PyProof.Rows.Boot.«list» ?_);refine Ji ?_ (by rw[hs3]; rfl) rfl;rw[hs3];show wpAny _ _ (spliced ((false,eval (.Call (.Name "reversed" p2) [a] [] pos2) X.env)::backTo pos [])) _ _ s;refine Qo ?_;refine Call_ (xc1 I hg2 hm2 PyProof.Rows.Boot.«reversed» (Ji (thn (ha pos2 pins s Z H _ I h) fun us s1 ⟨vs,H1,I1,r1,q1⟩=>?_) hs rfl));obtain⟨l,xs,e,hq,q⟩:=q1;subst e;obtain⟨u,rfl,ru⟩:=xb4 r1;obtain rfl:u=Zo l:=ru;obtain⟨its,rv,p,hz⟩:=I1.list hq;have hlen:=rv.length;refine call_reversed_list p.isList ?_;refine Calls.spliced_nil ?_;have I2:Inv X pins Z H1 { s1 with heap:=s1.heap.push (revObj l ((its.toArray.size:Int)-1)) }:=I1.kept (t':=s1.toks) fun b o e=>Zi _ e;have hit:Heap.IsRevIter (s1.heap.push (revObj l ((its.toArray.size:Int)-1))) s1.heap.objs.size l ((its.toArray.size:Int)-1):=⟨_,Z2 _ rfl,rfl,rfl⟩
  have hll:l<s1.heap.objs.size:=by obtain⟨o,e,_⟩:=p.isList; exact Zq e
  have hl2:(s1.heap.push (revObj l ((its.toArray.size:Int)-1))).IsList l its.toArray:=p.isList.at fun o e=>Zi _ e;have f2:=I1.fpOk (Zl s1.heap.objs.size) (I1.hok.fresh (Zl _));generalize hs2:({ s1 with heap:=s1.heap.push (revObj l ((its.toArray.size:Int)-1)) }:Shared)=s2 at I2;have hit':s2.heap.IsRevIter s1.heap.objs.size l ((its.toArray.size:Int)-1):=by rw[<- hs2]; exact hit
  have hl2':s2.heap.IsList l its.toArray:=by rw[<- hs2]; exact hl2
  refine xj8 (I.ok.hd hc) (ZH hll) hit' hl2' (by simp only[Z5]; omega) fun h' tk acc' c' hk hS' hacc=>?_;have I3:Inv X pins Z H1 { s2 with heap:=h',toks:=tk }:=I2.turned (t':=tk) (it:=s1.heap.objs.size) (fun b o hb e=>hk b o hb e) (I1.hok.fresh (Zl _)) f2.2.1 f2.2.2.2.1 f2.2.2.2.2.1 f2.2.2.2.2.2;have z2:s1.heap.objs.size<s2.heap.objs.size:=by obtain⟨o,e,_⟩:=hit'; exact Zq e
  have e1:acc'.toList.length=xs.reverse.length:=by rw[Wj,hlen]; simpa using hacc.1
  obtain⟨n0,nL,nC,nP⟩:=I2.size_lt (Zl s2.heap.objs.size);refine⟨.ref s2.heap.objs.size,_,I3.adopt n0 I2.sz nL nC nP (show xan X.prog X.w _ h' _ (.lst xs.reverse) from ⟨by rw[Wj]; exact hz,acc'.toList,c',xgr e1 fun j y u ey eu=>?_,by simpa using hS'⟩),rfl,q _ n0⟩;have eu':acc'[j]?=some u:=by simpa using eu
  have lt:j<xs.length:=by
    have:=(Zf.mp ey).1;simpa using this
  have h2:=hacc.2 j u eu';rw[List.getElem?_reverse lt] at ey;obtain⟨u',hu',ru'⟩:=rv.get ey;have h2':its[its.length-1-j]?=some u:=by simpa using h2
  rw[<- hlen,hu'] at h2';cases h2';exact ru'
end
def Itkd (d:Addr) (o:Obj) (kvs:List (Key × V)):It :=
 ⟨fun i H=>H d=some (.frz o (.dK kvs))/\i<kvs.length,fun i H v H'=>H'=H/\∃ k x,kvs[i]?=some (k,x)/\v=kV k,fun i H=>H d=some (.frz o (.dK kvs))/\kvs.length<=i⟩
theorem xop {P:Program}{w:World}{K:Zd}{tg:Expr} (d it:Addr) (o:Obj) (kvs:List (Key × V)) (ep:Nat) (hep:∃ es,o.data=.dict es ep) :
    Turn P w K tg (Itkd d o kvs) [it] it (fun i h=>h.IsKeyIter it d i kvs.length ep) where
  mem:=by simp
  obj:=fun i h st b hb=>by
    have e:b=it:=by simpa using hb
    subst e;obtain⟨o1,e1,c1,d1⟩:=st;exact⟨_,e1,fun v k=>by rw[d1] at k; cases k⟩
  keep:=fun i h h' ⟨o1,e1,r⟩ k=>⟨o1,k it (by simp) _ e1,r⟩
  item:=by
    intro X hP hw hK hc i pins s Z H E I hf st hg;subst hP hw hK;obtain⟨e,lt⟩:=hg;obtain⟨vs,rel,da⟩:=xh2 I e hep;obtain⟨f0,f1,f2,f3,f4,f5⟩:=hf it (by simp);have hl:kvs.length=vs.length:=rel.length;obtain⟨⟨k,x⟩,q⟩:∃ y,kvs[i]=y:=⟨_,rfl⟩
    have hx:kvs[i]?=some (k,x):=by rw[Zg lt,q]
    obtain⟨u,hv,ru⟩:=rel.get hx;rw[hl] at st;refine wpAny_pyNext_dict_item st da hv fun key h' hkey hit' hs=>?_;obtain⟨o2,g2,c2,d2⟩:=id hit';refine⟨_,rfl,xkc (s:={ s with heap:=h' }) g2 c2 d2 (by decide) ?_⟩;have I1:Inv X pins Z H { s with heap:=h' }:=I.turned (t':=s.toks) (fun b o hb g=>(hs.2 b hb).trans g) f0 f1 f3 f4 f5;rw[<- hl] at hit';exact⟨kV k,H,I1,xpn hkey,⟨rfl,k,x,hx,rfl⟩,hit',fun b hb=>(hf b hb).1⟩
  done:=by
    intro X hP hw hK hc i pins s Z H E I hf st hg;subst hP hw hK;obtain⟨e,le⟩:=hg;obtain⟨vs,rel,da⟩:=xh2 I e hep;obtain⟨f0,f1,f2,f3,f4,f5⟩:=hf it (by simp);have hl:kvs.length=vs.length:=rel.length;rw[hl] at st;exact wpAny_pyNext_dict_end (I.ok.hd hc) st da (by simpa using (by omega:vs.length<=i)) fun h' eb=>⟨rfl,I.turned (t':=s.toks) (fun b o hb e=>eb b o hb e) f0 f1 f3 f4 f5⟩
  self:=fun A i s Q E st h=>wpAny_pyIter_keyiter st h
end L2
namespace L2
open PySem PySem.Spec PyProof.Rows XL
open AutoSeq1 (wpAny_loadPart')
end L2
namespace L2
open PySem PySem.Spec PyProof.Rows XL
end L2
namespace L2
open PySem PySem.Spec PyProof.Rows XL PySem.W PySem.Builtin PySem.Builtin.Str
theorem xb6 (a b:Str):(a++b).cps.toList=a.cps.toList++b.cps.toList:=by
 show (a.cps++b.cps).toList=_;simp
theorem xgw (a:Str):a.length=a.cps.toList.length:=by simp[YU]
theorem xkq (s k:Nat):∀(ws:List Str) (a:Nat),(∀ w∈ws,w.length<=k)->ws.foldl (fun n w=>n+w.length+s) a<=a+ws.length*(k+s)
 | [],a,_=>by simp
 | w::ws,a,h=>by
  have h1:=h w Zv;have ih:=xkq s k ws (a+w.length+s) fun v hv=>h v (Zt _ hv);rw[List.foldl_cons,ZI,Nat.succ_mul];omega
theorem xmo:∀{ws:List Str}{its:List Value},Vals (ws.map V.str) its->∃ l:List (Str × Tok),its=strValues l/\l.map (·.1)=ws
 | [],_,.nil=>⟨[],rfl,rfl⟩
 | w::ws,_,.cons r rs=>by
  obtain⟨t,rfl⟩:=r;obtain⟨l,e1,e2⟩:=xmo rs;exact⟨(w,t)::l,by rw[e1]; rfl,by rw[<- e2]; rfl⟩
theorem xjb {sep:Str}{k:Nat}:∀{ws:List Str},(∀ p∈ws,p.length<=k)->(YG sep ws).length<=ws.length*(k+sep.length)
 | [],_=>by show (YG sep []).length<=0*(k+sep.length); rw[Nat.zero_mul]; exact Nat.le_of_eq rfl
 | [a],h=>by
  have:=h a Zv;show a.length<=1*(k+sep.length);omega
 | a::b::r,h=>by
  have h1:=h a Zv;have ih:=xjb (sep:=sep) (k:=k) (ws:=b::r) fun p hp=>h p (Zt _ hp);have e:(YG sep (a::b::r)).length=a.length+sep.length+(YG sep (b::r)).length:=by
   show (a++sep++YG sep (b::r)).length=_;rw[xgw,xb6,xb6,Zp,Zp,<- xgw,<- xgw,<- xgw]
  rw[e,ZI,Nat.succ_mul];omega
inductive xwt (x:V) (xs:List V) (H:Hp) (Q:VK):Prop
 | mk (sep:Str) (l:Addr) (ws:List Str) (k:Nat) (e_:x=.str sep) (r_:xs=[.ref l]/\H l=some (.lst (ws.map V.str))/\(∀ w∈ws,w.length<=k)/\ws.length*(k+sep.length)<=sizeLine/\Q (.str (YG sep ws)) H)
section
variable {X:Cx}
theorem xit:MtR X "str.join" xwt:=by
 intro pins s Z H x xs v us Q I rx rs h;obtain⟨sep,l,ws,k,rfl,rfl,hl,hk,hz,q⟩:=h;obtain⟨t,rfl⟩:=rx;obtain⟨u,rfl,ru⟩:=xb4 rs;obtain rfl:u=Zo l:=ru;obtain⟨_,its,n,vs,e⟩:=I.hok _ _ hl;obtain⟨ps,rfl,rfl⟩:=xmo vs;have fl:=xkq sep.length k (ps.map (·.1)) 0 hk;have hl2:tooLong ((ps.map (·.1)).toArray.foldl (·+·.length+sep.length) 0)=false:=by
  unfold tooLong;rw[List.foldl_toArray];exact decide_eq_false (by omega)
 refine Wp F.slot_str_join (typeIs_str s sep t) F.entry_str_join (F.args_str_join_2 _ _) (meets_str_join_list sep t l ps hl2) ⟨⟨_,e,rfl,n,rfl⟩,?_⟩;have jz:=xjb (sep:=sep) hk;have jl:(glued sep (ps.map (·.1))).length<=sizeLine:=by
  rw[QL];exact Z8 jz hz
 rw[<- QL] at q
 match ps,jl,q with
 | [],jl,q=>exact⟨jl,.str _,H,I.tok _,⟨_,rfl⟩,q⟩
 | [p],jl,q =>
  rw[QL] at q;exact⟨.str p.1,H,I,⟨_,rfl⟩,q⟩
 | p::p2::r,jl,q=>exact⟨jl,.str _,H,I.tok _,⟨_,rfl⟩,q⟩
end
end L2
namespace L2
open PySem PySem.Spec PyProof.Rows XL PySem.W
section
variable {X:Cx}
def sgnL (x:Str):List V:=x.cps.toList.map fun c=>V.str ⟨#[c]⟩
theorem xj6 (hc:X.calm=true):xbz X (.type "list") (fun xs H Q=>∃ x:Str,xs=[.str x]/\x.length<=1000/\∀ l,H l=none->Q (.ref l) (upd H l (.lst (sgnL x)))):=by
 intro pins s Z H xs us Q I r h;obtain⟨x,rfl,hn,q⟩:=h;obtain⟨u,rfl,t,rfl⟩:=xb4 r;refine PySem.call_list_str (I.ok.hd hc) x t (fun h' tk acc' c' kp e it=>?_) (Z8 hn (by decide));have len:acc'.toList.length=(sgnL x).length:=by
  rw[sgnL,Za];have:=it.1;simpa using this
 refine⟨.ref s.heap.objs.size,_,I.laid (t':=tk) kp (Zl _) (show xan X.prog X.w _ h' _ (.lst (sgnL x)) from ⟨?_,acc'.toList,c',xgr len fun j y u ey eu=>?_,by simpa using e⟩),rfl,q _ (I.hok.fresh (Zl _))⟩
 .rw [sgnL,Za];have:x.cps.toList.length=x.length:=by simp[YU]
  exact Z8 (by omega:_<=1000) (by decide)
 .have eu':acc'[j]?=some u:=by simpa using eu
  obtain⟨c,t2,e1,e2⟩:=it.2 j u eu';rw[sgnL,Ze,Jy,e1] at ey;cases ey;exact⟨t2,e2⟩
end
end L2
namespace L2
open PySem PySem.Spec PyProof.Rows XL PySem.W PySem.Builtin PySem.Builtin.Str
def ofL (l:List Nat):Str:=⟨l.toArray⟩
theorem xah (l:List Nat):(ofL l).cps.toList=l:=by simp[ofL]
section
variable {prog:Program}{w:World}{K:Type} [DecidableEq K] {A:Around}{E:Value->Shared->Prop}{s:Shared}
def xbs (xs more:List (K × Addr × Value)):List (K × Addr × Value):=more.foldl (fun acc x=>storedH acc x.1 x.2.1 x.2.2) xs
theorem xku (xs more:List (K × Addr × Value)) (i:Nat) (x:K × Addr × Value) (h:more[i]?=some x):xbs xs (more.take (i+1))=storedH (xbs xs (more.take i)) x.1 x.2.1 x.2.2:=by
 simp[xbs,ZO,h,Yt]
theorem xlt (xs:List (K × Addr × Value)) (k:K) (a:Addr) (v:Value):(storedH xs k a v).length<=xs.length+1:=by
 unfold storedH;split<;>simp
theorem xew:∀(more xs:List (K × Addr × Value)),(xbs xs more).length<=xs.length+more.length
 | [],xs=>Zl _
 | x::r,xs=>by
  have a:=xew r (storedH xs x.1 x.2.1 x.2.2);have b:=xlt xs x.1 x.2.1 x.2.2;show (xbs (storedH xs x.1 x.2.1 x.2.2) r).length<=xs.length+(r.length+1)
  omega
theorem xft:∀(more xs:List (K × Addr × Value)),((xs++more).map (·.1)).Nodup->xbs xs more=xs++more
 | [],xs,_=>(Jx _).symm
 | x::r,xs,h=>by
  have e:storedH xs x.1 x.2.1 x.2.2=xs++[x]:=by
   refine storedH_new (atKey_none_of_get fun j p hj=>?_) x.2.1 x.2.2;rw[Z4,Ja] at h;exact h.2.2 x.1 (Zh.mpr ⟨_,Zk hj,rfl⟩) x.1 (by simp) rfl
  show xbs (storedH xs x.1 x.2.1 x.2.2) r=_;rw[e,xft r (xs++[x]) (by rw[List.append_assoc]; exact h),List.append_assoc];rfl
theorem xnr {knd:HeapKind prog w K}{d a:Addr}{xs:List (K × Addr × Value)}{k:K}{v:Value}{Q:Unit->Shared->Prop} (hu:knd.room A) (hkey:knd.is s.heap k a) (hm:s.heap.DictOfH knd d xs)
    (hsz:xs.length<=sizeLine) (hQ:∀ h',h'.DictOfH knd d (storedH xs k a v)->ZK d s.heap h'->Q () { s with heap:=h' }) :
    wpAny (model prog w) A (dictSetHashed d (.ref a) (knd.hash k) v) Q E s:=by
  obtain⟨o,es,ep,ho,hc,hd,he,his,hn⟩:=hm;unfold dictSetHashed
  try with_reducible refine J5 ?_
  refine Zc (wpAny_dictFind_heap hu hkey ho hd he his hn (fun hno=>?_) (fun j p hj=>?_))
  . have hnot:k∉xs.map (·.1):=not_mem_keys_of_get hno
    have e:=storedH_new (atKey_none_of_get hno) a v;refine Zc (wpAny_rule (wpAny_updateDictKeys (hz:=by have e:=size_of_entries he; omega) ho hd (hQ _ ⟨_,_,ep+1,ZM _ ho (Wi (YZ hd _)),hc.mapDictKeys _,YZ hd _,?_,?_,?_⟩ (ZK.update ..))))
    . rw[e]
      simp[he,entryOfKey]
    . rw[e]
      intro x hx;rcases Z9.mp hx with hx|hx
      . exact knd.keeps (his x hx) ho hd (ZK.update ..)
      . rw[Z6.mp hx]
        exact knd.keeps hkey ho hd (ZK.update ..)
    . rw[e,Z4,Ja]
      refine⟨hn,by simp,fun x hx y hy z=>hnot ?_⟩;have hy:y∈[k]:=hy;rw[Z6.mp hy] at z;exact z▸hx
  . have e:=storedH_old (atKey_of_get hn hj) a v
    refine Zc (wpAny_rule (Zc (wpAny_updateDict ho hd (wpAny_point (hQ _ ⟨_,_,ep,ZM _ ho (Wi (Obj.data_mapDict hd _)),hc.mapDict _,Obj.data_mapDict hd _,?_,?_,?_⟩ (ZK.update ..))))))
    . rw[e]
      have:=modify_map_putAt (entryOfKey knd) (fun e:DictEntry=>{ e with val:=v }) k v (fun _ _=>rfl) hn hj;rw[<- he] at this;obtain⟨l⟩:=es;simpa using this
    . rw[e]
      intro x hx;obtain⟨y,hy,rfl⟩:=Zh.mp hx;unfold putAt;split<;>exact knd.keeps (his y hy) ho hd (ZK.update ..)
    . rw[e,keys_map_putAt]
      exact hn
end
section
variable {prog:Program}{w:World}{K:Type} [DecidableEq K] {kk:KeyKind prog w K}{A:Around}{E:Value->Shared->Prop}{s:Shared}
theorem xon {α β:Type} [BEq β] [LawfulBEq β] {f:α->β}:∀{l:List α}{x:α},(l.map f).Nodup->x∈l->(l.filter fun y=>f y == f x).length<=1
 | y::r,x,h,hx=>by
  rw[Zu,Jf] at h;rw[JS];split
  .rename_i e
   have e:f y=f x:=Qx e;have z:(r.filter fun y=>f y == f x)=[]:=by
    rw[Yk];intro u hu eu;exact h.1 (Zh.mpr ⟨u,hu,(Qx eu).trans e.symm⟩)
   rw[z];exact Zl _
  .rename_i e
   rcases Zy.mp hx with rfl|hx
   .exact absurd (beq_self_eq_true _) e
   .exact xon h.2 hx
theorem xtu {nm:String}{o:Addr}{oo:Obj}{es:Array DictEntry}{ep:Nat}{more:List (List K × Addr × Value)}{Q:Array DictEntry->Shared->Prop} (hoo:s.heap.get? o=some oo) (hd:oo.data=.dict es ep)
    (he:es.toList=more.map (entryOfKey (tupleKind kk))) (his:∀ x∈more,(tupleKind kk).is s.heap x.1 x.2.1) (hh:(more.map fun x=>(tupleKind kk).hash x.1).Nodup) (h:Q es s) :
    wpAny (model prog w) A (Builtin.Dict.entriesForEmpty nm o) Q E s:=by
  unfold Builtin.Dict.entriesForEmpty;refine Zc (Jt hoo hd ?_);refine Zc ?_;rw[<- Array.forIn_toList];refine wpAny_forIn_list _ (fun rest _ s'=>s'=s/\∀ e∈rest,e∈es.toList) _ ?_ ?_ _ _ ⟨rfl,fun e z=>z⟩
  . rintro e rest b s' ⟨rfl,mem⟩
    have me:=mem e (Zv ..);rw[he] at me;obtain⟨x,hx,rfl⟩:=Zh.mp me;obtain⟨ox,its,n,h1,h2,h3,h4⟩:=his x hx;have one:¬ (es.filter (·.hash == (entryOfKey (tupleKind kk) x).hash)).size>1:=by
      rw[<- JC,Array.toList_filter,he];have z:=xon hh hx;rw[List.filter_map,Za];exact Wq.mpr z
    refine Zc ?_;show wpAny _ _ (Builtin.Dict.quietEq (.ref x.2.1)) _ _ _;unfold Builtin.Dict.quietEq;refine Zc (Qa (T:="tuple") ⟨ox,h1,h2⟩ F.slot_tuple_eq.lookup (Zm ?_));rw[show ((some (Ym "tuple.__eq__"):Option Value) == some (Ym "object.__eq__"))=false from by decide];simp only[Bool.not_false,if_true];rw[if_neg one];exact Zm ⟨rfl,fun e z=>mem e (Zt _ z)⟩
  . rintro b s' ⟨rfl,_⟩
    exact Zm h
theorem xus {nm:String}{d o:Addr}{xs more:List (List K × Addr × Value)}{Q:Unit->Shared->Prop} (hu:(tupleKind kk).room A) (hdo:d≠o) (hoS:(o == sysModules)=false)
    (hd:s.heap.DictOfH (tupleKind kk) d xs) (ho:s.heap.DictOfH (tupleKind kk) o more) (hh:xs=[]->(more.map fun x=>(tupleKind kk).hash x.1).Nodup) (hsz:xs.length+more.length<=sizeLine)
    (hQ:∀ h',h'.DictOfH (tupleKind kk) d (xbs xs more)->ZK d s.heap h'->Q () { s with heap:=h' }) :
    wpAny (model prog w) A (Builtin.Dict.mergeDict nm d o) Q E s:=by
  obtain⟨od,esd,epd,hod,hcd,hdd,hed,hid,hnd⟩:=id hd;obtain⟨oo,eso,epo,hoo,hco,hdo',heo,hio,hno⟩:=id ho;have hlen:more.length=eso.size:=by rw[<- JC,heo,Za]
  unfold Builtin.Dict.mergeDict;rw[if_neg (by simpa using hdo)];unfold Builtin.Dict.showsAll;rw[if_neg (by rw[hoS]; exact Z1)];refine Zc (Zm ?_);refine Zc (Jt hoo hdo' ?_);have loop:∀ Q':PUnit->Shared->Prop,(∀ h',h'.DictOfH (tupleKind kk) d (xbs xs more)->ZK d s.heap h'->Q' Qi { s with heap:=h' })->wpAny (model prog w) A (forIn (List.range' 0 eso.size) Qi fun i (_:PUnit)=>(do
          let l' <- dictEntries o
          match l'[i]? with
            | some e=>do
              holding [e.key,e.val] (dictSetHashed d e.key e.hash e.val)
              let ep' <- dictEpoch o
              if (ep' != epo)=true then do
                  (unsupported (toString nm++toString ":source-changed-during-callback"):Sem PUnit)
                  pure (JN Qi)
                else pure (JN Qi)
            | _=>do
              (unsupported "internal:dict-merge":Sem PUnit)
              pure (JN Qi):Sem (ForInStep PUnit))) Q' E s:=by
    intro Q' hQ';refine wpAny_forIn_list _ (fun rest _ s'=>∃ h' i,s'={ s with heap:=h' }/\rest=List.range' i (eso.size-i)/\i<=eso.size/\h'.DictOfH (tupleKind kk) d (xbs xs (more.take i))/\h'.get? o=some oo/\ZK d s.heap h')
      _ ?_ ?_ _ _ ⟨s.heap,0,rfl,by simp,ZZ _,hd,hoo,ZK.refl _ _⟩
    . rintro x rest b s' ⟨h',i,rfl,hr,hi,hd',hoo',hs'⟩
      have hlt:i<eso.size:=by
        rcases Nat.lt_or_ge i eso.size with h|h
        . exact h
        . rw[Nat.sub_eq_zero_of_le h] at hr
          exact nomatch hr
      obtain⟨rfl,hrest⟩:x=i/\rest=List.range' (i+1) (eso.size-(i+1)):=by
        have e:eso.size-i=(eso.size-(i+1))+1:=by omega
        rw[e,List.range'_succ] at hr;injection hr with h1 h2
        exact⟨h1,h2⟩
      have hlm:x<more.length:=by omega
      have hkv:more[x]?=some more[x]:=Zg hlm;refine Zc (Jt hoo' hdo' ?_);rw[entry_at heo x,hkv];have hk0:=hio more[x] (List.getElem_mem hlm);have hk1:(tupleKind kk).is h' more[x].1 more[x].2.1:=(tupleKind kk).keeps hk0 hod hdd hs';have hz:(xbs xs (more.take x)).length<=sizeLine:=by
        have e1:=xew (more.take x) xs;rw[ZP] at e1;omega
      show wpAny _ _ (holding [.ref more[x].2.1,more[x].2.2] (dictSetHashed d (.ref more[x].2.1) ((tupleKind kk).hash more[x].1) more[x].2.2)>>=_) _ _ _;refine Zc (J5 (xnr hu hk1 hd' hz fun h2 hd2 hs2=>?_));have hoo2:h2.get? o=some oo:=(hs2.2 o (ZE hdo)).trans hoo';refine Zc (JW hoo2 hdo' ?_);rw[if_neg (by simp)];exact Zm ⟨h2,x+1,rfl,hrest,hlt,by rw[xku xs more x more[x] hkv]; exact hd2,hoo2,hs'.trans hs2⟩
    . rintro b s' ⟨h',i,rfl,hr,hi,hd',hoo',hs'⟩
      have hin:i=eso.size:=by
        rcases Nat.lt_or_ge i eso.size with h|h
        . have e:eso.size-i=(eso.size-(i+1))+1:=by omega
          rw[e,List.range'_succ] at hr;exact nomatch hr
        . exact Nat.le_antisymm hi h
      rw[hin,<- hlen,Jz] at hd';exact hQ' h' hd' hs'
  dsimp only
  split
  . refine Zc (Jt hod hdd ?_)
    split
    . rename_i hemp
      have h0:esd=#[]:=Array.isEmpty_iff.mp hemp;have hx:xs=[]:=by
        rw[h0] at hed;exact Qf.mp hed.symm
      subst hx;refine Zc (xtu hoo hdo' heo hio (hh rfl) ?_);rw[xft more [] hno] at hQ;split
      . refine Zc (wpAny_updateDictKeysTo hod hdd (Zm (hQ _ ⟨_,_,epd+1,ZM _ hod (Wi (YZ hdd _)),hcd.mapDictKeys _,YZ hdd _,heo,fun x hx=>(tupleKind kk).keeps (hio x hx) hod hdd (ZK.update ..),hno⟩ (ZK.update ..))) ?_)
        simp only[Qc,Nat.zero_add] at hsz;omega
      . rename_i hne
        have h1:eso=#[]:=Array.isEmpty_iff.mp (by simpa using hne);have hm0:more=[]:=YE.mp (by rw[hlen,h1]; rfl);subst hm0;exact Zm (hQ _ hd (ZK.refl _ _))
    . refine Zc (JW hoo hdo' ?_)
      refine Zc (Jt hoo hdo' ?_);refine Zc ?_;rw[Std.Legacy.Range.forIn_eq_forIn_range'];simp only[Std.Legacy.Range.size,Nat.sub_zero,Nat.add_sub_cancel,Nat.div_one];exact loop _ fun h' a b=>Zm (hQ h' a b)
  . refine Zc (JW hoo hdo' ?_)
    refine Zc (Jt hoo hdo' ?_);refine Zc ?_;rw[Std.Legacy.Range.forIn_eq_forIn_range'];simp only[Std.Legacy.Range.size,Nat.sub_zero,Nat.add_sub_cancel,Nat.div_one];exact loop _ fun h' a b=>Zm (hQ h' a b)
theorem xj5 (d o:Addr) (hdo:d≠o) (hoS:(o == sysModules)=false) :
    MeetsIn prog w (Builtin.«dict.update» ⟨[.ref d,.ref o],[]⟩) (fun A R s=>(tupleKind kk).room A.in1/\∃ xs more,s.heap.DictOfH (tupleKind kk) d xs/\s.heap.DictOfH (tupleKind kk) o more/\(xs=[]->(more.map fun x=>(tupleKind kk).hash x.1).Nodup)/\xs.length+more.length<=sizeLine /\
      ∀ h',h'.DictOfH (tupleKind kk) d (xbs xs more)->ZK d s.heap h'->R (.ok (.ret .none)) { s with heap:=h' }) :=
  .of_wp fun A R s ⟨hu,xs,more,hd,ho,hh,hsz,h⟩=>by
    unfold Builtin.«dict.update»;refine Zc ?_;unfold Builtin.Dict.selfAndRest;refine Zc (QJ hd.typeIs ?_);show wpAny _ _ (pure (d,[Zo o])) _ _ s;refine Zm ?_;show wpAny _ _ (Builtin.Dict.updateFrom "dict.update" d (.ref o) [] .none) _ _ s;unfold Builtin.Dict.updateFrom;refine Zc (Yy ho.typeIs ?_);rw[if_neg (by decide)];refine Zc ?_;unfold Builtin.Dict.merge;refine Zc ?_;unfold Builtin.Dict.readDirectly;refine Zc (Qz ho.typeIs isSubtype_dict_dict ?_);simp only[Bool.not_true,Jh,if_false];refine Zc (Qa ho.typeIs F.slot_dict_iter.lookup (Zm ?_));simp only[beq_self_eq_true,if_true];refine Zc (Zm ?_);refine xus hu hdo hoS hd ho hh hsz fun h' hd' hs'=>?_;show wpAny _ _ (Builtin.Dict.addKeywords d []>>=_) _ _ _;exact Zc (Zm (Zm ⟨.none,rfl,h h' hd' hs'⟩))
end
def xcv (kvs more:List (List Key × V)):List (List Key × V):=more.foldl (fun acc x=>putK acc x.1 x.2) kvs
theorem KT.merge {H:Hp}:∀{more:List (List Key × V)}{ms:List (List Key × Addr × Value)},KT H more ms->∀{kvs:List (List Key × V)}{xs:List (List Key × Addr × Value)},KT H kvs xs->KT H (xcv kvs more) (xbs xs ms):=by
 intro more ms r
 induction r with
 | nil=>intro kvs xs q; exact q
 | cons h _ ih =>
  intro kvs xs q;obtain⟨h1,h2,h3⟩:=h;have z:=q.put _ h2 h3;rw[h1] at z;have y:=ih z;rw[<- h1] at y;show KT H (xcv (putK kvs _ _) _) (xbs (storedH xs _ _ _) _);rw[<- h1];exact y
def xgo (X:Cx) (k:List Key):Int:=(tupleKind (xak X.prog X.w)).hash k
inductive rUpd (X:Cx) (x:V) (vs:List V) (H:Hp) (Q:VK):Prop
 | mk (a b:Addr) (kvs more:List (List Key × V)) (e_:x=.ref a) (r_:vs=[.ref b]/\a≠b/\H a=some (.dT kvs)/\H b=some (.dT more)/\(kvs=[]->(more.map fun x=>xgo X x.1).Nodup)/\kvs.length+more.length<=1000/\Q .non (upd H a (.dT (xcv kvs more))))
theorem xo3 {X:Cx} (hu:X.A.units+1<cLine):MtM X "dict.update" (rUpd X):=by
 intro pins s Z H x vs v us Q I rx rv h;obtain⟨a,b,kvs,more,rfl,rfl,ab,ha,hb,hh,hz,q⟩:=h;cases rx;obtain⟨u,rfl,ru⟩:=rv.one;cases (show u=Zo b from ru);obtain⟨za,hda,xs,rela,da⟩:=xh4 I.hok ha;obtain⟨zb,hdb,ms,relb,db⟩:=xh4 I.hok hb;have la:=Yn rela;have lb:=Yn relb;have hl:(xcv kvs more).length<=sizeLine:=by
  have e1:=xew ms xs;have e2:=Yn (relb.merge rela);exact Z8 (by omega:_<=1000) (by decide)
 refine call_meetsIn PySem.F.slot_dict_update da.typeIs PySem.F.entry_dict_update (PySem.F.args_dict_update_2 _ _) (xj5 (kk:=xak X.prog X.w) a b ab hdb) ⟨?_,xs,ms,da,db,fun e=>?_,?_,fun h' dd' hs=>?_⟩
 .show X.A.in1.units<cLine;exact hu
 .subst e;have e0:kvs=[]:=YE.mp la;have z:=hh e0;have em:more.map (fun x=>xgo X x.1)=ms.map fun x=>(tupleKind (xak X.prog X.w)).hash x.1:=by
   have aux:∀{l:List (List Key × V)}{m:List (List Key × Addr × Value)},KT H l m->l.map (fun x=>xgo X x.1)=m.map fun x=>(tupleKind (xak X.prog X.w)).hash x.1:=by
    intro l m r
    induction r with
    | nil=>rfl
    | cons h _ ih=>rw[Zu,Zu,ih,h.1]; rfl
   exact aux relb
  rw[<- em];exact z
 .exact Z8 (by omega:_<=1000) (by decide)
 .obtain ⟨qo,es,ep,hq,h2,h3,h4,_,h5⟩:=dd';refine⟨.non,_,xea (ob:=.dT (xcv kvs more)) I (by rw[ha]; exact Jr) hs ⟨qo,hq⟩ ⟨hl,hda,_,(relb.merge rela).keeps fun c ys ec=>?_,qo,es,ep,hq,h2,h3,h4,h5⟩,rfl,q⟩;rw[xg (xgj ec ha (fun z=>nomatch z))];exact ec
end L2
namespace L2
open PySem
def th (a b:Int):Int:=reduceHash (Builtin.Tuple.tupleHashOf [hashInt a,hashInt b])
theorem xk9 (X:Cx) (a b:Int):xgo X [.inl a,.inl b]=th a b:=by
 unfold xgo th;show reduceHash (Builtin.Tuple.tupleHashOf ([.inl a,.inl b].map (keyH X.w)))=_;rw[Zu,Zu,List.map_nil];unfold keyH
 with_reducible rfl
def rimH (w:Nat):List Int:=((Z0 16).map fun (r:Nat)=>th 0 ((r:Int)+1))++((Z0 16).map fun (r:Nat)=>th ((w:Int)+1) ((r:Int)+1))
theorem xtd:∀ w,w<31->1<=w->(rimH w).Nodup:=by decide +kernel
end L2
namespace XL
open PySem PySem.Spec PyProof.Rows
def xs4 (acc:List Str) (x:Str):List Str:=if acc.any (· == x)=true then acc else acc++[x]
end XL
namespace L2
open PySem PySem.Spec PyProof.Rows XL
def xw1 (xs:List Str):Nat:=(xs.foldl xs4 []).length
end L2
namespace XS
open PySem PySem.SetTable
end XS
namespace XS
open PySem PySem.SetTable
variable {t:SetTable}{es:Array (Int × Value)}{L:List Row}
end XS
namespace XS
open PySem PySem.SetTable
end XS
namespace XS
open PySem PySem.Spec PySem.SetTable
end XS
namespace XS
open PySem PySem.Spec PyProof.Rows
end XS
namespace XS
open PySem PySem.Spec PyProof.Rows XL
end XS
namespace L2
open PySem PySem.Spec PyProof.Rows XL XS
end L2
namespace L2
open PySem PySem.Spec PyProof.Rows
end L2
namespace L2
open PySem PySem.Spec PyProof.Rows XL PySem.W
section
variable {J:It}{n:Nat}{g:TG}{Z:St}{fr:List Nat}{tc:TT}{te:TE}{l:Addr}{H1:Hp}{Q:VK}{α:Type}
theorem xqb {α:Type}{bs as:List α}{i:Nat}{x:α} (h:bs.Sublist (as.take i)) (hx:as[i]?=some x):(bs++[x]).Sublist (as.take (i+1)):=by
 rw[ZO,hx];exact h.append (List.Sublist.refl _)
theorem xp7 {α:Type}{bs as:List α}{i:Nat} (h:bs.Sublist (as.take i)):bs.Sublist (as.take (i+1)):=by
 rw[ZO];exact h.trans (List.sublist_append_left _ _)
end
section
variable {X:Cx}{o:Expr}{to:TE}{tg:Expr}{elts:List Expr}{x1:_}{tpos apos cpos:Pos}
def xvo (X:Cx) (t:TS):TS:=fun D Z H=>t { D with nx:=fun σ' H'=>∃ d ob u,H' d=some (.frz ob u)/\(∀ o' u',X.H₀ d≠some (.frz o' u'))/\D.nx σ' (upd H' d u) } Z H
theorem xd9 {st:Stmt}{t:TS} (h:PS X st t):PS X st (xvo X t):=by
 intro pins s Z H D I q;refine thn (h pins s Z H _ I q) fun fl s1 z=>?_;cases fl with
 | next =>
  obtain⟨σ',H',I',d,ob,u,e,nf,r⟩:=z;exact⟨σ',_,I'.thaw e nf,r⟩
 | _=>exact z
end
section
variable {X:Cx}{pins:List (Addr × Obj)}{Z:St}{H:Hp}{s:Shared}{a b:Addr}{A:Around}
theorem xp8 {prog:Program}{w:World}{K:Type} [DecidableEq K] {knd:KeyKind prog w K}{es:List DictEntry}{vs:List (K × Value)} (h:Pairs knd es vs):∀{i:Nat}{e:DictEntry},es[i]?=some e->∃ kv,vs[i]?=some kv/\knd.is kv.1 e.key=true/\e.val=kv.2:=by
 induction h with
 | nil=>intro i e h; simp at h
 | cons h1 h2 _ ih =>
  intro i e he;cases i with
  | zero =>
   simp at he;subst he;exact⟨_,rfl,h1,h2⟩
  | succ i=>exact ih (by simpa using he)
end
theorem xd0:∀{us:List Value}{ss:List Str},StrsAre us ss->Vals (ss.map V.str) us
 | _,_,.nil=>.nil
 | _,_,.cons y t h=>.cons ⟨t,rfl⟩ (xd0 h)
theorem xhx:∀{ss:List Str}{us:List Value},Vals (ss.map V.str) us->StrsAre us ss
 | [],_,.nil=>.nil
 | x::ss,_,.cons r rs=>by
  obtain⟨t,rfl⟩:=r;exact .cons x t (xhx rs)
theorem xih {X:Cx}{pins:List (Addr × Obj)}{Z:St}{H:Hp}{s:Shared}{h1:Heap}{tk:Nat}{Q:VK}{us:List Value}{ss:List Str} (I1:Inv X pins Z H { s with heap:=h1,toks:=tk }) (hS:StrsAre us ss) (few:us.length<64)
    (q:∀(l:Addr) (ss':List Str),H l=none->ss'.Perm ss->sortedS ss'=true->Q (.ref l) (upd H l (.lst (ss'.map V.str)))) :
    wpAny (model X.prog X.w) X.A.in1 (newList us>>=fun l=>holding [l] (call (.builtin "list.sort") [l] [])>>=fun _=>ret l) (fun fin s'=>∃ v,fin=Fin.done (Flow.ret v)/\EP X pins Z Q v s') X.xe { s with heap:=h1,toks:=tk }:=by
  have sz:us.length<=sizeLine:=J7 (Jm few (by decide));have ln:=(xd0 hS).length;rw[Za] at ln;have I2:=I1.lnew (t':=tk) (xd0 hS) (by rw[Za,ln]; exact sz);refine Zc (wpAny_newList ?_ sz);have fr:H h1.objs.size=none:=I1.fresh;have gl:(h1.push { cls:=.type "list",data:=.seq us.toArray }).get? h1.objs.size=some (seqObj "list" us.toArray 0):=Z2 _ rfl;refine Zc (J5 (Yd slot_list_sort ⟨_,gl,rfl⟩ entry_list_sort (list_sort_treeK strKind_oneLt gl hS.keysOf (fun v₁ v₂ r e=>keyKind_strs (by rw[<- e]; exact hS)) few fun st a1 a2=>?_) (args_list_sort _)));obtain⟨ss',b1,b2,b3⟩:=sorted_out_str hS a1 a2;refine⟨_,rfl,Zm ⟨_,rfl,?_⟩⟩;have J1:=I2.lset (l:=h1.objs.size) (its:=us) (its':=[]) (ys:=[]) (f:=fun _=>#[]) (t':=tk) xh gl rfl .nil (ZZ _);have J2:=J1.kept (t':=tk) (h':=(((h1.push { cls:=.type "list",data:=.seq us.toArray }).update h1.objs.size (JT fun _=>#[])).push (seqObj "tuple" us.toArray 0)).push (seqObj "list" #[] 0)) fun b u e=>Zi _ (Zi _ e);obtain⟨z9,its9,n9,r9,hl9,e9⟩:=J2.lstM xh;have l':ss'.length=ss.length:=b2.length_eq;have J3:=J2.lset (l:=h1.objs.size) (its:=its9) (its':=((arrOf st).map (·.2)).toList) (ys:=ss'.map V.str) (f:=fun _=>(arrOf st).map (·.2)) (t':=tk) xh e9 (show (arrOf st).map (·.2)=_ from (Array.toArray_toList ..).symm) (xd0 b1) (by rw[Za,l',ln]; exact sz);rw[xe3,xe3] at J3;exact⟨.ref h1.objs.size,_,J3,rfl,q _ ss' fr b2 b3⟩
theorem xmi:∀{us:List Value}{ss:List Str},us.length=ss.length->(∀(i:Nat) (v:Value) (x:Str),us[i]?=some v->ss[i]?=some x->∃ t,v=Qy x t)->StrsAre us ss
 | [],[],_,_=>.nil
 | [],_::_,h,_=>by cases h
 | _::_,[],h,_=>by cases h
 | u::us,x::ss,h,f=>by
  obtain⟨t,rfl⟩:=f 0 u x rfl rfl;exact .cons x t (xmi (by simpa using h) fun i v y h1 h2=>f (i+1) v y (by simpa using h1) (by simpa using h2))
inductive xqp (xs:List V) (H:Hp) (Q:VK):Prop
 | mk (d:Addr) (ss:List Str) (e_:xs=[.ref d]) (r_:(H d=some (.lst (ss.map V.str))\/∃ kvs:List (Key × V),H d=some (.dK kvs)/\kvs.map (·.1)=ss.map Jl)/\ss.length<64/\∀(l:Addr) (ss':List Str),H l=none->ss'.Perm ss->sortedS ss'=true->Q (.ref l) (upd H l (.lst (ss'.map V.str))))
theorem xeh {X:Cx} (hc:X.calm=true):xbz X (.builtin "sorted") xqp:=by
 intro pins s Z H xs us Q I r h;obtain⟨d,ss,rfl,alt,hl,q⟩:=h;obtain⟨u,rfl,ru⟩:=xb4 r;obtain rfl:u=Zo d:=ru;rcases alt with e|⟨kvs,e,ek⟩
 .obtain ⟨z,its,n,r1,hL,el⟩:=I.lstM e;have ln:=r1.length;rw[Za] at ln;refine Y1 kind_sorted plain_sorted entry_sorted (args_sorted1 _) ?_;unfold Wb;refine Zc (Zm (show wpAny _ _ (collect (.ref d)>>=_) _ _ _ from Zc (wpAny_collect_seq d (T:="list") (.inl rfl) el rfl rfl (fun h1 keep=>?_) (by rw[Z5,<- ln]; exact J7 (Jm hl (by decide))))));exact xih (us:=its) (I.kept keep) (xhx r1) (by omega) q
 .obtain ⟨z,hsys,vs,rel,o,es,ep,ho,hx,hdat,hk,hp,hn⟩:=xgh I.hok e;have ln:=rel.length;have le:=hp.length;have esz:es.size=vs.length:=by simpa using le
  refine Y1 kind_sorted plain_sorted entry_sorted (args_sorted1 _) ?_;unfold Wb;refine Zc (Zm ?_);show wpAny _ _ (collect (.ref d)>>=_) _ _ _;refine Zc (kdu_collect (xmv hsys hx hdat) (I.ok.hd hc) ho (by rw[esz,<- ln]; exact z) fun h1 tk acc keep items=>?_);have hs:StrsAre acc.toList ss:=by
   refine xmi (by rw[JC,items.1,esz,<- ln,<- Za (f:=(·.1)) (as:=kvs),ek,Za]) fun i v x hv hx=>?_;have hv':acc[i]?=some v:=by rw[<- Jy]; exact hv
   obtain⟨en,he,ev⟩:=items.2 i v hv';obtain⟨kv,h1,h2,_⟩:=xp8 hp (i:=i) (e:=en) (by rw[Jy]; exact he);have hk2:(kvs.map (·.1))[i]?=some (Jl x):=by rw[ek,Ze,hx]; rfl
   rw[rel.keys,Ze,h1,Y8] at hk2;have e3:kv.1=Jl x:=JD.inj hk2;rw[e3] at h2;obtain⟨t,et⟩:=Value.isStrOf_shape (x:=x) (v:=en.key) h2;exact⟨t,by rw[ev]; exact et⟩
  exact xih (I.kept keep) hs (by rw[(xd0 hs).length.symm,Za]; exact hl) q
end L2
namespace L2
open PySem PySem.Spec PyProof.Rows XL PySem.W PySem.MeetsSeq3
end L2
namespace L2
open PySem PySem.Spec PyProof.Rows XL PySem.W
def Ites (x:Str):It :=
 ⟨fun i _=>i<x.cps.toList.length,fun i H v H'=>∃ p c,x.cps.toList[i]?=some c/\v=.ref p/\H p=none/\H'=upd H p (.tup [.int i,sgn c]),fun i _=>x.cps.toList.length<=i⟩
theorem xlm {P:Program}{w:World}{K:Zd}{elts:List Expr}{x1}{tpos:Pos}{x:Str} (t:Tok) (e it:Addr) (hei:e≠it) :
    Turn P w K (.Tuple elts x1 tpos) (Ites x) [e,it] e (fun i h=>(∃ old,IsEnum h e it i old)/\h.IsStrIter it "str_ascii_iterator" x t i) where
  mem:=by simp
  obj:=fun i h st b hb=>by
    obtain⟨⟨old,he⟩,⟨o1,e1,c1,d1⟩⟩:=st;simp only[Zy,J0,or_false] at hb;rcases hb with rfl|rfl
    . exact⟨_,he,fun v k=>by have k':QU _=Data.cell v:=k; cases k'⟩
    . exact⟨_,e1,fun v k=>by rw[d1] at k; cases k⟩
  keep:=fun i h h' ⟨⟨old,he⟩,h1⟩ k=>⟨⟨old,k e (by simp) _ he⟩,xms h1 fun o z=>k it (by simp) o z⟩
  item:=by
    intro X hP hw hK hc i pins s Z H E I hf st hg;subst hP hw hK;have lt:i<x.cps.toList.length:=hg;obtain⟨⟨old,he⟩,h1⟩:=id st;refine wpAny_pyNext_enum_itemD (Draws.strAscii (A:=X.A.in1) (I.ok.hd hc) it x t) he h1 (by simpa using lt) hei (by simp[hei]) fun y h' tk py ho hst' hT hsz hk=>?_;obtain⟨c,u,hv,rfl⟩:=py;have hx:x.cps.toList[i]?=some c:=by simpa using hv
    refine⟨_,rfl,wpAny_letOwnedTupleGo_enum (s:={ s with heap:=h',toks:=tk+1 }) ho fun h'' he' hs'=>?_⟩;have elt:e<s.heap.objs.size:=Zq he;have pne:s.heap.objs.size≠e:=Yg elt;have kk:∀ b o,b∉[e,it]->s.heap.get? b=some o->h''.get? b=some o:=fun b o hb g=>by
      simp only[Zy,J0,or_false,not_or] at hb;exact (hs'.2 b hb.1).trans (hk b o hb.1 (by simpa using hb.2) g)
    have I1:Inv X pins Z H { s with heap:=h'',toks:=tk+1 }:=I.turnedL kk hf;obtain⟨n0,nL,nC,nP⟩:=I.size_lt (Zl s.heap.objs.size);have hp:h''.get? s.heap.objs.size=some { cls:=.type "tuple",data:=.seq #[.int i tk,.str ⟨#[c]⟩ u] }:=(hs'.2 _ pne).trans hT;refine⟨.ref s.heap.objs.size,upd H s.heap.objs.size (.tup [.int i,sgn c]),I1.adopt n0 I.sz nL nC nP ⟨by show 2<=sizeLine; decide,[.int i tk,.str ⟨#[c]⟩ u],.cons ⟨_,rfl⟩ (.cons ⟨_,rfl⟩ .nil),_,hp,rfl,_,rfl⟩,rfl,
      ⟨_,c,hx,rfl,n0,rfl⟩,?_,fun b hb=>?_⟩
    . exact⟨⟨_,by simpa using he'⟩,xms hst' fun o y=>(hs'.2 it (ZE hei)).trans y⟩
    . obtain⟨o,ho⟩:∃ o,s.heap.get? b=some o:=by
        obtain⟨o1,e1,_⟩:=h1;simp only[Zy,J0,or_false] at hb;rcases hb with rfl|rfl
        . exact⟨_,he⟩
        . exact⟨_,e1⟩
      rw[xg (ZH (Zq ho))];exact (hf b hb).1
  done:=by
    intro X hP hw hK hc i pins s Z H E I hf st hg;subst hP hw hK;have ge:x.cps.toList.length<=i:=hg;obtain⟨⟨old,he⟩,h1⟩:=id st;have fin:∀ h',Heap.ExtBut it s.heap h'->(none:Option Value)=none/\Inv X pins Z H { s with heap:=h' }:=fun h' hx=>⟨rfl,I.turnedL (t':=s.toks) (fun b o hb g=>by
      simp only[Zy,J0,or_false,not_or] at hb;exact hx b o hb.2 g) hf⟩
    have hT:s.TypeIs (.ref e) "enumerate":=⟨_,he,rfl⟩
    unfold pyNext;refine Zc (Qu (YD (name:=Zb "__next__") hT F.slot_enumerate_next
      (Yd F.slot_enumerate_next hT F.entry_enumerate_next ?_ (F.args_enumerate_next_1 _))))
    show wpAny _ _ (field (.ref e) 2>>=_) _ _ _;refine Zc (Yv he rfl (x:=.ref it) rfl ?_);refine Zc (wpAny_nextOf_ascii_end (I.ok.hd hc) h1 (by simpa using ge) fun h' x he' hx'=>?_);obtain⟨o,ho,hc⟩:=hx';refine Zc (Qz (T:="StopIteration") (b:=true) ⟨o,ho,hc⟩ isSubtype_stop ?_);exact Zm (fin _ he')
  self:=fun _ _ _ _ _ ⟨⟨_,st⟩,_⟩ h=>Qr st h
def xs0 (ta:TA):TI:=fun Z H R=>ta Z H fun vs H1=>∃ x:Str,vs=[.str x]/\x.cps.all (·<128)=true/\R (Ites x) H1
section
variable {X:Cx}{elts:List Expr}{x1:_}{tpos:Pos}
theorem xf9 {a:Expr}{ta:TA}{p pos:Pos} (hg:Gl X "enumerate") (hm:X.mg "enumerate"=none) (ha:PA X [a] ta) (hs:starEach [a] X.env=[(false,eval a X.env)]:=by rfl) :
    PI X (.Tuple elts x1 tpos) (.Call (.Name "enumerate" p) [a] [] pos) (xs0 ta):=by
  intro pins s Z H R I h;refine Call_ (xc1 I hg hm PyProof.Rows.Boot.«enumerate» (Ji (thn (ha pos pins s Z H _ I h) fun us s1 ⟨vs,H1,I1,r1,q1⟩=>?_) hs rfl));obtain⟨x,e,hx,q⟩:=q1;subst e;obtain⟨u,rfl,t,rfl⟩:=xb4 r1;refine call_enumerate_str fun h' he h1 hsz hk=>?_;have h1:h'.IsStrIter s1.heap.objs.size "str_ascii_iterator" x t 0:=by simpa [strIterType,hx] using h1
  refine Qr (s:={ s1 with heap:=h' }) he ?_;have I2:Inv X pins Z H1 { s1 with heap:=h' }:=I1.kept (t':=s1.toks) hk;refine⟨_,[s1.heap.objs.size+1,s1.heap.objs.size],_,_,H1,rfl,I2,xlm t _ _ (xn3 (by omega)),⟨⟨_,he⟩,h1⟩,fun b hb=>?_,q⟩;have hb':s1.heap.objs.size<=b:=by
    simp only[Zy,J0,or_false] at hb;rcases hb with rfl|rfl
    . exact Nat.le_add_right _ 1
    . exact Zl _
  exact I1.fpOk hb' (I1.hok.fresh hb')
end
theorem xfz {H:Hp}{p:Addr}{o:HO} (hp:H p=none):Same H (upd H p o):=fun b u e=>by
 rw[xg (xi e hp)];exact e
section
variable {n:Nat}{g:TG}{Z:St}{fr:List Nat}{te:TE}{l:Addr}{H1:Hp}{Q:VK}
theorem xlv {x:Str} (hlen:x.cps.toList.length<sizeLine) (hl:H1 l=none) (F:Nat->V->Hp->Prop) (stab:∀ i y H H',Tp H H'->F i y H->F i y H')
    (step:∀(i:Nat) (c:Nat) (p:Addr) (H2:Hp),x.cps.toList[i]?=some c->Same H1 H2->H2 p=none->∀(N:V->Hp->Prop),(∀ y H',Same (upd H2 p (.tup [.int i,sgn c])) H'->F i y H'->N y H') ->
      g (.ref p) (blk0 Z fr n) (upd H2 p (.tup [.int i,sgn c])) fun σ' H3=>te σ' H3 N)
    (fin:∀ ys H2,Same H1 H2->H2 l=some (.lst ys)->ys.length=x.cps.toList.length->(∀(i:Nat) (y:V),ys[i]?=some y->F i y H2)->Q (.ref l) H2):xcz (Ites x) n g Z fr xdh te l H1 Q:=by
  refine xcp x.cps.toList.length (fun i ys H2=>Same H1 H2/\H2 l=some (.lst ys)/\ys.length=i/\∀(j:Nat) (y:V),ys[j]?=some y->F j y H2) ?_ ?_ ?_ ?_
  . exact⟨fun b u e=>by rw[xg (xi e hl)]; exact e,xh,rfl,fun j y e=>by simp at e⟩
  . rintro i ys H2 lt _
    exact lt
  . rintro i ys H2 v H3 lt ⟨s,el,ly,f⟩ ⟨p,c,hc,rfl,hp,rfl⟩ N hN
    have e1:upd H2 p (.tup [.int i,sgn c]) l=some (.lst ys):=by
      rw[xg (xi el hp)];exact el
    have s1:Same H2 (upd H2 p (.tup [.int i,sgn c])):=xfz hp;refine xfk (i:=i) (step i c p H2 hc s hp _ fun y H' s' hf=>?_);have el':=s' _ _ e1;refine⟨el',by omega,hN _ _ ⟨fun b u e=>?_,xh,by rw[Zp,ly]; rfl,fun j z e=>?_⟩⟩
    . rw[xg (xi e hl)]
      exact s' _ _ (s1 _ _ (s _ _ e))
    . by_cases k:j<ys.length
      . rw[ZW k] at e
        exact stab _ _ _ _ (((Same.tp s1).trans (Same.tp s')).trans (xe7 el')) (f j z e)
      . rw[Jb (by omega)] at e
        cases hj:j-ys.length with
        | zero =>
          rw[hj] at e;simp at e;subst e;have:j=i:=by omega
          subst this;exact stab _ _ _ _ (xe7 el') hf
        | succ m =>
          rw[hj] at e;simp at e
  . rintro ys H2 ⟨s,el,ly,f⟩
    exact⟨Zl _,fin ys H2 s el ly f⟩
theorem xlx {d:Addr}{ob:Obj}{kvs:List (Key × V)}{tc:TT} (hd:H1 d=some (.frz ob (.dK kvs))) (hlen:kvs.length<sizeLine) (hl:H1 l=none) (q:Key × V->Bool)
    (step:∀(i:Nat) (k:Key) (x:V) (p:Addr) (H2:Hp),kvs[i]?=some (k,x)->Same H1 H2->H2 p=none->∀(N:V->Hp->Prop) (M:Hp->Prop),(∀ H',Same (upd H2 p (.tup [kV k,x])) H'->q (k,x)=true->N x H')->(∀ H',Same (upd H2 p (.tup [kV k,x])) H'->q (k,x)=false->M H') ->
      g (.ref p) (blk0 Z fr n) (upd H2 p (.tup [kV k,x])) fun σ' H3=>tc σ' H3 fun b H4=>if b=true then te σ' H4 N else M H4)
    (fin:∀ H2,Same H1 H2->H2 l=some (.lst ((kvs.filter q).map (·.2)))->Q (.ref l) H2):xcz (Iti d ob kvs) n g Z fr tc te l H1 Q:=by
  refine xcp kvs.length (fun i ys H2=>Same H1 H2/\H2 l=some (.lst ys)/\ys=((kvs.take i).filter q).map (·.2)) ?_ ?_ ?_ ?_
  . exact⟨fun b u e=>by rw[xg (xi e hl)]; exact e,xh,rfl⟩
  . rintro i ys H2 lt ⟨s,_⟩
    exact⟨s _ _ hd,lt⟩
  . rintro i ys H2 v H3 lt ⟨s,el,ey⟩ ⟨p,k,x,ex,rfl,hp,rfl⟩ N hN
    have e1:upd H2 p (.tup [kV k,x]) l=some (.lst ys):=by
      rw[xg (xi el hp)];exact el
    have s1:Same H1 (upd H2 p (.tup [kV k,x])):=fun b u e=>xfz hp _ _ (s _ _ e);have ly:ys.length<=i:=by
      rw[ey,Za];refine Z8 (Yp _ _) ?_;rw[ZP];omega
    refine step i k x p H2 ex s hp _ _ (fun H' s' qt=>?_) (fun H' s' qf=>?_)
    . have el':=s' _ _ e1
      refine⟨el',by omega,hN _ _ ⟨fun b u e=>?_,xh,?_⟩⟩
      . rw[xg (xi e hl)]
        exact s' _ _ (s1 _ _ e)
      . rw[ey,ZO,ex,Jn,Z4,show (some (k,x)).toList=[(k,x)] from rfl,Je qt]
        rfl
    . refine hN _ _ ⟨fun b u e=>s' _ _ (s1 _ _ e),s' _ _ e1,?_⟩
      rw[ey,ZO,ex,Jn,show (some (k,x)).toList=[(k,x)] from rfl,Jk (by rw[qf]; decide)];rw[QI,Jx]
  . rintro ys H2 ⟨s,el,ey⟩
    rw[Jz] at ey;exact⟨⟨s _ _ hd,Zl _⟩,fin H2 s (ey▸el)⟩
end
section
variable {d:Addr}{ob:Obj}{kvs:List (Key × V)}{g:TG}{tb:TS}{D:Ends}{Z:St}{H:Hp}
theorem xjz (Pv:Nat->St->Hp->Prop) (h0:Pv 0 Z H) (hl:∀ i Z H,i<=kvs.length->Pv i Z H->H d=some (.frz ob (.dK kvs)))
    (hs:∀ i k x p Z H,kvs[i]?=some (k,x)->H p=none->Pv i Z H->g (.ref p) Z (upd H p (.tup [kV k,x])) fun σ2 H2=>tb { D with nx:=Pv (i+1),ct:=Pv (i+1),bk:=D.nx } σ2 H2) (hd:∀ Z H,Pv kvs.length Z H->D.nx Z H) :
    ∃ W:Nat->Nat->St->Hp->Prop,(∃ m,W 0 m Z H)/\∀ i m Z H,W i m Z H ->
      ((Iti d ob kvs).stop i H/\D.nx Z H)\/((Iti d ob kvs).go i H/\∃ N:St->Hp->Prop,(∀ σ' H',N σ' H'->∃ m',m'<m/\W (i+1) m' σ' H')/\∀ x H',(Iti d ob kvs).yld i H x H'->g x Z H' fun σ2 H2=>tb { D with nx:=N,ct:=N,bk:=D.nx } σ2 H2):=by
  refine⟨fun i m Z H=>m=kvs.length-i/\i<=kvs.length/\Pv i Z H,⟨kvs.length,by simp,ZZ _,h0⟩,?_⟩;rintro i m Z H ⟨rfl,hi,p⟩;have q:=hl i Z H hi p;by_cases hlt:i<kvs.length
  . refine .inr ⟨⟨q,hlt⟩,Pv (i+1),fun σ' H' p'=>⟨kvs.length-(i+1),by omega,rfl,hlt,p'⟩,fun x H' y=>?_⟩
    obtain⟨pa,k,x',e1,rfl,hn,rfl⟩:=y;exact hs i k x' pa Z H e1 hn p
  . have e:i=kvs.length:=by omega
    subst e;exact .inl ⟨⟨q,Zl _⟩,hd Z H p⟩
end
section
variable {X:Cx}
def rSlS:V->Option Int->Option Int->Hp->VK->Prop:=fun x lo hi H Q=>∃ z:Str,x=.str z/\z.length<=sizeLine/\Q (.str (Yx z lo hi)) H
theorem xoi:SlR X rSlS:=by
 intro pins s Z H x v vl vu lo hi sl Q I rx hs pl pu h;obtain⟨z,rfl,hz,q⟩:=h;obtain⟨t,rfl⟩:=rx;refine⟨"str",_,F.slot_str_getitem.lookup,typeIs_str _ _ _,?_⟩;have fin:∀ t' k,EP X pins Z Q (.str (Yx z lo hi) t') { s with toks:=k }:=fun t' k=>⟨.str _,H,I.tok k,⟨_,rfl⟩,q⟩
 have le:=Z8 (Txt.slice_le z lo hi) hz;cases pl with
 | none =>
  cases pu with
  | none=>exact YC (l:=none) (u:=none) (st:=none) hs rfl (QG ⟨le,fin⟩)
  | int j uj=>exact YC (l:=none) (u:=some (j,uj)) (st:=none) hs rfl (QG ⟨le,fin⟩)
 | int i ui =>
  cases pu with
  | none=>exact YC (l:=some (i,ui)) (u:=none) (st:=none) hs rfl (QG ⟨le,fin⟩)
  | int j uj=>exact YC (l:=some (i,ui)) (u:=some (j,uj)) (st:=none) hs rfl (QG ⟨le,fin⟩)
end
theorem xff {l:List Nat}{n:Nat} (h:n<=l.length):Yx (ofL l) none (some (n:Int))=ofL (l.take n):=by
 have e0:PySem.Builtin.Str.strSliceIndices none (some (n:Int)) 1 (ofL l).length=PySem.Builtin.Str.strSliceIndices (some ((0:Nat):Int)) (some (n:Int)) 1 (ofL l).length:=by
  simp only[PySem.Builtin.Str.strSliceIndices,show ((1:Int)>0)=True from by simp,if_true]
  congr 1
 have hl:(ofL l).length=l.length:=by simp[ofL,YU]
 unfold Yx;rw[e0];split
 .rename_i c
  rw[StrLaws.strSliceIndices_plain (ZZ _) (by rw[hl]; exact h),Za,Zr,hl] at c;have:n=l.length:=by simpa using c
  rw[this,Jz]
 .rw [StrLaws.sliced_plain _ (ZZ _) (by rw[hl]; exact h),xah,List.drop_zero,Nat.sub_zero];rfl
theorem xhr {l:List Nat}{n:Nat} (h:n<=l.length):Yx (ofL l) (some (n:Int)) none=ofL (l.drop n):=by
 have hl:(ofL l).length=l.length:=by simp[ofL,YU]
 have e0:PySem.Builtin.Str.strSliceIndices (some (n:Int)) none 1 (ofL l).length=PySem.Builtin.Str.strSliceIndices (some (n:Int)) (some ((l.length:Nat):Int)) 1 (ofL l).length:=by
  rw[hl];simp only[PySem.Builtin.Str.strSliceIndices,show ((1:Int)>0)=True from by simp,if_true]
  congr 1
  rw[if_neg (by omega)];omega
 unfold Yx;rw[e0];split
 .rename_i c
  rw[StrLaws.strSliceIndices_plain h (by rw[hl]; exact Zl _),Za,Zr,hl] at c;have:l.length-n=l.length:=by simpa using c
  by_cases z:n=0
  .rw [z,List.drop_zero]
  .have:l.length=0:=by omega
   have:l=[]:=YE.mp this;rw[this,List.drop_nil]
 .rw [StrLaws.sliced_plain _ h (by rw[hl]; exact Zl _),xah,ZY (by rw[JR]; exact Zl _)];rfl
section
variable {X:Cx}
inductive xp2 (x:V) (xs:List V) (H:Hp) (Q:VK):Prop
 | mk (a:Str) (e_:x=.str a) (r_:xs=[]/\Q (.bl (Txt.islower a)) H)
theorem xhu:MtR X "str.islower" xp2:=by
 intro pins s Z H x xs v us Q I rx rs h;obtain⟨a,rfl,rfl,q⟩:=h;obtain⟨t,rfl⟩:=rx;cases rs;exact SC.islower ⟨.bl _,H,I,rfl,q⟩
end
theorem xfe {K:Zd}{i j n:Nat} (hi:i<n) (hj:j<n) {t:TGs} (h:∀ vs Z H Q,t vs Z H Q->t vs Z H (fun σ' H'=>Q σ' H'/\σ'.length=Z.length/\∀ i,n<=i->σ'[i]?=Z[i]?)) :
    ∀ vs Z H Q,xd6 (gTup K 2 (xd6 (xc7 i) (xd6 (xc7 j) gNil))) t vs Z H Q->xd6 (gTup K 2 (xd6 (xc7 i) (xd6 (xc7 j) gNil))) t vs Z H (fun σ' H'=>Q σ' H'/\σ'.length=Z.length/\∀ i,n<=i->σ'[i]?=Z[i]?):=fun vs Z H Q q=>by
  obtain⟨v,r,e,⟨a,xs,ev,hs,hl,⟨v1,r1,e1,⟨v2,r2,e2,e3,q⟩⟩⟩⟩:=q;refine⟨v,r,e,⟨a,xs,ev,hs,hl,⟨v1,r1,e1,⟨v2,r2,e2,e3,?_⟩⟩⟩⟩;have z:=h _ _ _ _ q;have l1:(((Z.set i (some v1)).set j (some v2))).length=Z.length:=by simp
  have l2:∀(k:Nat),n<=k->((Z.set i (some v1)).set j (some v2))[k]?=Z[k]?:=fun k hk=>by rw[JI (by omega),JI (by omega)]
  have key:(fun σ' H'=>Q σ' H'/\σ'.length=((Z.set i (some v1)).set j (some v2)).length/\∀ k,n<=k->σ'[k]?=((Z.set i (some v1)).set j (some v2))[k]?)=(fun σ' (H':Hp)=>Q σ' H'/\σ'.length=Z.length/\∀ k,n<=k->σ'[k]?=Z[k]?):=by
    funext σ' H';rw[l1];refine propext ⟨fun⟨a,b,c⟩=>⟨a,b,fun k hk=>by rw[c k hk,l2 k hk]⟩,fun⟨a,b,c⟩=>⟨a,b,fun k hk=>by rw[c k hk,l2 k hk]⟩⟩
  rw[<- key];exact z
def xvj (X:Cx) (to:TE):TI:=fun Z H R=>to Z H fun x H1=>∃ d kvs,x=.ref d/\H1 d=some (.dK kvs)/\∀ ob,(∀ o' u',X.H₀ d≠some (.frz o' u'))->R (Itkd d ob kvs) (upd H1 d (.frz ob (.dK kvs)))
section
variable {X:Cx}{o:Expr}{to:TE}{tg:Expr}
theorem xq1 (ho:PE X o to):PI X tg o (xvj X to):=by
 intro pins s Z H R I h;refine thn (ho pins s Z H _ I h) fun v s1 ⟨x,H1,I1,r1,q1⟩=>?_;obtain⟨d,kvs,e1,e,q⟩:=q1;subst e1;cases r1;obtain⟨z,hd,vs,rel,dd⟩:=xgh I1.hok e;obtain⟨ob,es,ep,g,ex,hdat,hk,hp,hn⟩:=id dd;have da:s1.heap.DictAt (xak X.prog X.w) d vs ep:=⟨ob,es,g,ex,hdat,hk,hp,hn⟩
 refine wpAny_pyIter_dict hd da ?_;have I3:Inv X pins Z (upd H1 d (.frz ob (.dK kvs))) s1:=I1.write (t':=s1.toks) (x:=d) (e:=d) (by rw[e]; exact Jr) (.inl rfl) (fun b u _ q=>q) ⟨ob,g⟩ ⟨g,I1.hok d _ e⟩;have I4:Inv X pins Z (upd H1 d (.frz ob (.dK kvs))) { s1 with heap:=s1.heap.push { cls:=.type "dict_keyiterator",data:=.fields #[.ref d,.int 0 0,.int vs.length 0,.int ep 0] } } :=
  I3.kept (t':=s1.toks) fun b o e=>Zi _ e
 refine⟨s1.heap.objs.size,[s1.heap.objs.size],_,_,upd H1 d (.frz ob (.dK kvs)),rfl,I4,xop d _ ob kvs ep ⟨es,hdat⟩,?_,fun b hb=>?_,q ob (I1.nofrz e)⟩
 .have hl:kvs.length=vs.length:=rel.length;show Heap.IsKeyIter _ _ d 0 kvs.length ep;rw[hl];exact⟨_,Z2 _ rfl,rfl,rfl⟩
 .have eb:b=s1.heap.objs.size:=by simpa using hb
  subst eb;exact I3.fpOk (Zl _) (I3.hok.fresh (Zl _))
end
theorem xnb {Z:L2.St}{fr:List Nat}{n:Nat}{g:TG}{te:TE}{l d:Addr}{H1:Hp}{Q:VK}{ob:Obj}{kvs:List (Key × V)}{tc:TT} (hd:H1 d=some (.frz ob (.dK kvs))) (hlen:kvs.length<sizeLine) (hl:H1 l=none) (q:Key × V->Bool)
    (step:∀(i:Nat) (k:Key) (x:V) (H2:Hp),kvs[i]?=some (k,x)->Same H1 H2->∀(N:V->Hp->Prop) (M:Hp->Prop),(∀ H',Same H2 H'->q (k,x)=true->N (kV k) H')->(∀ H',Same H2 H'->q (k,x)=false->M H') ->
      g (kV k) (blk0 Z fr n) H2 fun σ' H3=>tc σ' H3 fun b H4=>if b=true then te σ' H4 N else M H4)
    (fin:∀ H2,Same H1 H2->H2 l=some (.lst ((kvs.filter q).map fun kx=>kV kx.1))->Q (.ref l) H2):xcz (Itkd d ob kvs) n g Z fr tc te l H1 Q:=by
  refine xcp kvs.length (fun i ys H2=>Same H1 H2/\H2 l=some (.lst ys)/\ys=((kvs.take i).filter q).map fun kx=>kV kx.1) ?_ ?_ ?_ ?_
  . exact⟨fun b u e=>by rw[xg (xi e hl)]; exact e,xh,rfl⟩
  . rintro i ys H2 lt ⟨s,_⟩
    exact⟨s _ _ hd,lt⟩
  . rintro i ys H2 v H3 lt ⟨s,el,ey⟩ ⟨rfl,k,x,ex,rfl⟩ N hN
    have ly:ys.length<=i:=by
      rw[ey,Za];refine Z8 (Yp _ _) ?_;rw[ZP];omega
    refine step i k x _ ex s _ _ (fun H' s' qt=>?_) (fun H' s' qf=>?_)
    . have el':=s' _ _ el
      refine⟨el',by omega,hN _ _ ⟨fun b u e=>?_,xh,?_⟩⟩
      . rw[xg (xi e hl)]
        exact s' _ _ (s _ _ e)
      . rw[ey,ZO,ex,Jn,Z4,show (some (k,x)).toList=[(k,x)] from rfl,Je qt]
        rfl
    . refine hN _ _ ⟨fun b u e=>s' _ _ (s _ _ e),s' _ _ el,?_⟩
      rw[ey,ZO,ex,Jn,show (some (k,x)).toList=[(k,x)] from rfl,Jk (by rw[qf]; decide)];rw[QI,Jx]
  . rintro ys H2 ⟨s,el,ey⟩
    rw[Jz] at ey;exact⟨⟨s _ _ hd,Zl _⟩,fin H2 s (ey▸el)⟩
theorem xib {x:Str}{g:TG}{tb:TS}{D:Ends}{Z:St}{H:Hp} (Pv:Nat->St->Hp->Prop) (h0:Pv 0 Z H)
    (hs:∀ i c p Z H,x.cps.toList[i]?=some c->H p=none->Pv i Z H->g (.ref p) Z (upd H p (.tup [.int i,sgn c])) fun σ2 H2=>tb { D with nx:=Pv (i+1),ct:=Pv (i+1),bk:=D.nx } σ2 H2) (hd:∀ Z H,Pv x.cps.toList.length Z H->D.nx Z H) :
    ∃ W:Nat->Nat->St->Hp->Prop,(∃ m,W 0 m Z H)/\∀ i m Z H,W i m Z H ->
      ((Ites x).stop i H/\D.nx Z H)\/((Ites x).go i H/\∃ N:St->Hp->Prop,(∀ σ' H',N σ' H'->∃ m',m'<m/\W (i+1) m' σ' H')/\∀ v H',(Ites x).yld i H v H'->g v Z H' fun σ2 H2=>tb { D with nx:=N,ct:=N,bk:=D.nx } σ2 H2):=by
  refine⟨fun i m Z H=>m=x.cps.toList.length-i/\i<=x.cps.toList.length/\Pv i Z H,⟨x.cps.toList.length,by simp,ZZ _,h0⟩,?_⟩;rintro i m Z H ⟨rfl,hi,p⟩;by_cases lt:i<x.cps.toList.length
  . refine .inr ⟨lt,Pv (i+1),fun σ' H' q=>⟨_,by omega,rfl,lt,q⟩,?_⟩
    rintro v H' ⟨a,c,hc,rfl,ha,rfl⟩;exact hs i c a Z H hc ha p
  . have e:i=x.cps.toList.length:=by omega
    subst e;exact .inl ⟨Zl _,hd Z H p⟩
theorem xfl {n:Nat}{g:TG}{Z:L2.St}{fr:List Nat}{te:TE}{l d:Addr}{H1:Hp}{Q:VK}{ob:Obj}{kvs:List (Key × V)} (hd:H1 d=some (.frz ob (.dK kvs))) (hlen:kvs.length<sizeLine) (hl:H1 l=none) (F:Nat->V->Hp->Prop) (stab:∀ i y H H',Tp H H'->F i y H->F i y H')
    (step:∀(i:Nat) (k:Key) (x:V) (p:Addr) (H2:Hp),kvs[i]?=some (k,x)->Same H1 H2->H2 p=some (.tup [kV k,x])->∀(N:V->Hp->Prop),(∀ y H',Same H2 H'->F i y H'->N y H')->g (.ref p) (blk0 Z fr n) H2 fun σ' H3=>te σ' H3 N)
    (fin:∀ ys H2,Same H1 H2->H2 l=some (.lst ys)->ys.length=kvs.length->(∀(i:Nat) (y:V),ys[i]?=some y->F i y H2)->Q (.ref l) H2):xcz (Iti d ob kvs) n g Z fr xdh te l H1 Q:=by
  refine xcp kvs.length (fun i ys H2=>Same H1 H2/\H2 l=some (.lst ys)/\ys.length=i/\∀(j:Nat) (y:V),ys[j]?=some y->F j y H2) ?_ ?_ ?_ ?_
  . exact⟨fun b u e=>by rw[xg (xi e hl)]; exact e,xh,rfl,fun j y e=>by simp at e⟩
  . rintro i ys H2 lt ⟨s,_⟩
    exact⟨s _ _ hd,lt⟩
  . rintro i ys H2 v H3 lt ⟨s,el,ly,f⟩ ⟨p,k,x,ex,rfl,hp,rfl⟩ N hN
    have s1:Same H2 (upd H2 p (.tup [kV k,x])):=fun b u e=>xfz hp _ _ e;refine xfk (i:=i) (step i k x p _ ex (s.trans s1) xh _ fun y H' s' hf=>?_);have el':=s' _ _ (s1 _ _ el);refine⟨el',by omega,hN _ _ ⟨fun b u e=>?_,xh,by rw[Zp,ly]; rfl,fun j z e=>?_⟩⟩
    . rw[xg (xi e hl)]
      exact s' _ _ (s1 _ _ (s _ _ e))
    . by_cases c:j<ys.length
      . rw[ZW c] at e
        exact stab _ _ _ _ ((Same.tp (s1.trans s')).trans (xe7 el')) (f j z e)
      . rw[Jb (by omega)] at e
        cases hj:j-ys.length with
        | zero =>
          rw[hj] at e;simp at e;subst e;rw[show j=i by omega];exact stab _ _ _ _ (xe7 el') hf
        | succ m =>
          rw[hj] at e;simp at e
  . rintro ys H2 ⟨s,el,ly,f⟩
    exact⟨⟨s _ _ hd,Zl _⟩,fin ys H2 s el ly f⟩
end L2
namespace Geo
def dn (y r:Int):Int:=if y<r then 1 else -1
def upN (y r:Int):Nat:=if y<r then (r-y).toNat else (y-r).toNat
def wayI (b:Bool):Int:=if b then -1 else 1
def lvN (w x:Int) (b:Bool):Nat:=if b then (x+1).toNat else (w+2-x).toNat
def upL (x y r:Int):List (Int × Int):=(Z0 (upN y r)).map fun (i:Nat)=>(x,y+(i:Int)*dn y r)
def lvL (w x:Int) (b:Bool) (r:Int):List (Int × Int):=(Z0 (lvN w x b)).map fun (i:Nat)=>(x+(i:Int)*wayI b,r)
def cells (w x y:Int) (b:Bool) (r:Int):List (Int × Int):=upL x y r++lvL w x b r
theorem mem_up {x y r u v:Int}:(u,v)∈upL x y r↔u=x/\((y<=v/\v<r)\/(r<v/\v<=y)):=by
 unfold upL upN dn;rw[Zh];constructor
 .rintro ⟨i,hi,e⟩;rw[ZL] at hi;injection e with e1 e2
  subst e1;refine⟨rfl,?_⟩;split at hi
  .rename_i h
   rw[if_pos h] at e2;left; omega
  .rename_i h
   rw[if_neg h] at e2;right; omega
 .rintro ⟨rfl,h|h⟩
  .refine ⟨(v-y).toNat,?_,?_⟩
   .rw [ZL,if_pos (by omega)]; omega
   .rw [if_pos (by omega)];have:((v-y).toNat:Int)=v-y:=by omega
    rw[this]; congr 1; omega
  .refine ⟨(y-v).toNat,?_,?_⟩
   .rw [ZL,if_neg (by omega)]; omega
   .rw [if_neg (by omega)];have:((y-v).toNat:Int)=y-v:=by omega
    rw[this]; congr 1; omega
theorem xvi {w x r u v:Int}{b:Bool} (h1:1<=x) (h2:x<=w):(u,v)∈lvL w x b r↔v=r/\(if b then 0<=u/\u<=x else x<=u/\u<=w+1):=by
 unfold lvL lvN wayI;rw[Zh];cases b with
 | true =>
  simp only[if_true];constructor
  .rintro ⟨i,hi,e⟩;rw[ZL] at hi;injection e with e1 e2
   exact⟨e2.symm,by omega,by omega⟩
  .rintro ⟨rfl,h⟩;refine⟨(x-u).toNat,by rw[ZL]; omega,?_⟩;have:((x-u).toNat:Int)=x-u:=by omega
   rw[this]; congr 1; omega
 | false =>
  simp only[Jh,if_false];constructor
  .rintro ⟨i,hi,e⟩;rw[ZL] at hi;injection e with e1 e2
   exact⟨e2.symm,by omega,by omega⟩
  .rintro ⟨rfl,h⟩;refine⟨(u-x).toNat,by rw[ZL]; omega,?_⟩;have:((u-x).toNat:Int)=u-x:=by omega
   rw[this]; congr 1; omega
theorem mem_cells {w x y r u v:Int}{b:Bool} (h1:1<=x) (h2:x<=w):(u,v)∈cells w x y b r↔(u=x/\((y<=v/\v<r)\/(r<v/\v<=y)))\/(v=r/\(if b then 0<=u/\u<=x else x<=u/\u<=w+1)):=by
 unfold cells;rw[Z9,mem_up,xvi h1 h2]
def btw (v a b:Int):Prop:=min a b<=v/\v<=max a b
instance (v a b:Int):Decidable (btw v a b):=inferInstanceAs (Decidable (_/\_))
end Geo
namespace Drw
variable {S:Type}
abbrev Cl:=Int × Int
def set1 (m:Cl->Option S) (c:Cl) (s:S):Cl->Option S:=fun z=>if z=c then some s else m z
def sets (m:Cl->Option S) (L:List (Cl × S)):Cl->Option S:=L.foldl (fun m x=>set1 m x.1 x.2) m
def mark1 (hs:S) (m:Cl->Option S) (c:Cl) (s:S):Cl->Option S:=set1 m c (if (m c).isSome then hs else s)
def marks (hs:S) (m:Cl->Option S) (L:List (Cl × S)):Cl->Option S:=L.foldl (fun m x=>mark1 hs m x.1 x.2) m
theorem sets_no:∀{L:List (Cl × S)}{m:Cl->Option S}{c:Cl},c∉L.map (·.1)->sets m L c=m c
 | [],_,_,_=>rfl
 | x::L,m,c,h=>by
  rw[Zu,Zy,not_or] at h;show sets (set1 m x.1 x.2) L c=m c;rw[sets_no h.2];exact if_neg h.1
theorem sets_base:∀{L:List (Cl × S)}{m m':Cl->Option S}{c:Cl},m c=m' c->sets m L c=sets m' L c
 | [],_,_,_,h=>h
 | x::L,m,m',c,h=>by
  refine sets_base (L:=L) ?_;show set1 m x.1 x.2 c=set1 m' x.1 x.2 c;unfold set1;split
  .rfl
  .exact h
theorem xgx:∀{L:List (Cl × S)}{c:Cl} (m m':Cl->Option S),c∈L.map (·.1)->sets m L c=sets m' L c
 | x::L,c,m,m',h=>by
  show sets (set1 m x.1 x.2) L c=sets (set1 m' x.1 x.2) L c;rcases Zy.mp h with e|h
  .refine sets_base ?_;unfold set1;rw[if_pos e,if_pos e]
  .exact xgx _ _ h
theorem xfw:∀{L:List (Cl × S)}{m:Cl->Option S}{c:Cl},c∈L.map (·.1)->(sets m L c).isSome
 | x::L,m,c,h=>by
  show (sets (set1 m x.1 x.2) L c).isSome;by_cases z:c∈L.map (·.1)
  .exact xfw z
  .rw [sets_no z];rcases Zy.mp h with e|h
   .unfold set1;rw[if_pos e];rfl
   .exact absurd h z
theorem xhc:∀{L:List (Cl × S)}{m:Cl->Option S}{c:Cl}{s:S},(L.map (·.1)).Nodup->(c,s)∈L->sets m L c=some s
 | x::L,m,c,s,nd,h=>by
  rw[Zu,Jf] at nd;show sets (set1 m x.1 x.2) L c=some s;rcases Zy.mp h with e|h
  .subst e;rw[sets_no nd.1];exact if_pos rfl
  .exact xhc nd.2 h
theorem sets_perm {L L':List (Cl × S)} (p:L.Perm L') (nd:(L.map (·.1)).Nodup) (m:Cl->Option S) (c:Cl):sets m L c=sets m L' c:=by
 by_cases h:c∈L.map (·.1)
 .obtain ⟨⟨c',s⟩,hx,rfl⟩:=Zh.mp h;rw[xhc nd hx,xhc ((p.map _).nodup_iff.mp nd) (p.mem_iff.mp hx)]
 .rw [sets_no h,sets_no (fun z=>h ((p.map _).mem_iff.mpr z))]
def mkc (hs:S) (o:Option S) (l:List S):Option S:=l.foldl (fun o s=>some (if o.isSome then hs else s)) o
def at_ (c:Cl) (L:List (Cl × S)):List S:=(L.filter fun x=>decide (x.1=c)).map (·.2)
theorem xhf (hs:S):∀(L:List (Cl × S)) (m:Cl->Option S) (c:Cl),marks hs m L c=mkc hs (m c) (at_ c L)
 | [],_,_=>rfl
 | x::L,m,c=>by
  show marks hs (mark1 hs m x.1 x.2) L c=_;rw[xhf hs L];unfold at_ mark1 set1;rw[JS];by_cases e:x.1=c
  .subst e;simp only[if_true,decide_true];rfl
  .have e':¬ c=x.1:=fun z=>e z.symm;simp only[e,e',if_false,decide_false];rfl
theorem xhj (hs:S):∀(l:List S) (a:S),mkc hs (some a) l=some (if l=[] then a else hs)
 | [],a=>rfl
 | x::l,a=>by
  show mkc hs (some hs) l=_;rw[xhj hs l];simp
theorem xqd (hs:S) {l l':List S} (p:l.Perm l'):mkc hs none l=mkc hs none l':=by
 match l,p with
 | [],p=>rw[List.nil_perm.mp p]
 | [a],p=>rw[List.singleton_perm.mp p]
 | a::b::r,p =>
  match l',p with
  | [],p=>exact absurd p.length_eq (by simp)
  | [x],p=>exact absurd p.length_eq (by simp)
  | x::y::r',p =>
   show mkc hs (some a) (b::r)=mkc hs (some x) (y::r');rw[xhj,xhj];simp
theorem xo9 (c:Cl) (L M:List (Cl × S)):at_ c (L++M)=at_ c L++at_ c M:=by
 unfold at_;rw[Jn,Z4]
theorem at_flat {α:Type} (c:Cl) (f:α->List (Cl × S)):∀ l:List α,at_ c (l.flatMap f)=l.flatMap fun a=>at_ c (f a)
 | []=>rfl
 | a::l=>by
  rw[Qt,Qt,xo9,at_flat c f l]
theorem xm9 {c:Cl}{L:List (Cl × S)} (h:c∉L.map (·.1)):at_ c L=[]:=by
 unfold at_;rw[Qf,Yk];intro x hx e;exact h (Zh.mpr ⟨x,hx,of_decide_eq_true e⟩)
theorem xee:∀{L:List (Cl × S)}{c:Cl}{s:S},(L.map (·.1)).Nodup->(c,s)∈L->at_ c L=[s]
 | x::L,c,s,nd,h=>by
  rw[Zu,Jf] at nd;rw[show x::L=[x]++L from rfl,xo9];rcases Zy.mp h with e|h
  .subst e;rw[xm9 nd.1];simp[at_]
  .have ne:¬ x.1=c:=fun e=>nd.1 (e▸Zh.mpr ⟨_,h,rfl⟩);rw[xee nd.2 h];simp[at_,ne]
theorem xso {L M:List (Cl × S)} (c:Cl) (n1:(L.map (·.1)).Nodup) (n2:(M.map (·.1)).Nodup) (h:∀ s,(c,s)∈L↔(c,s)∈M):at_ c L=at_ c M:=by
 by_cases e:c∈L.map (·.1)
 .obtain ⟨⟨c',s⟩,hx,rfl⟩:=Zh.mp e;rw[xee n1 hx,xee n2 ((h s).mp hx)]
 .rw [xm9 e,xm9];intro z;obtain⟨⟨c',s⟩,hx,rfl⟩:=Zh.mp z;exact e (Zh.mpr ⟨_,(h s).mpr hx,rfl⟩)
def no:Cl->Option S:=fun _=>none
def drawP (hs:S) (PM dots names pts:List (Cl × S)):Cl->Option S:=sets (fun z=>(sets (sets no dots) names z).or (marks hs no PM z)) pts
def drawL (hs:S) (LM dots names pts:List (Cl × S)):Cl->Option S:=sets (sets (sets (marks hs no LM) pts) dots) names
theorem draw_same (hs:S) {w:Int}{PM LM dots names names' pts:List (Cl × S)} (hp:∀ x∈pts,1<=x.1.1/\x.1.1<=w) (hd:∀ x∈dots,x.1.1=0\/x.1.1=w+1) (hn:∀ x∈names,x.1.1=0\/x.1.1=w+1)
    (pn:names.Perm names') (nn:(names.map (·.1)).Nodup) (c:Cl) (hm:c∉pts.map (·.1)->c∉names.map (·.1)->(at_ c PM).Perm (at_ c LM)):drawP hs PM dots names pts c=drawL hs LM dots names' pts c:=by
  unfold drawP drawL;rw[<- sets_perm pn nn];by_cases cp:c∈pts.map (·.1)
  . have c1:1<=c.1/\c.1<=w:=by
      obtain⟨x,hx,rfl⟩:=Zh.mp cp;exact hp x hx
    have nd:c∉dots.map (·.1):=fun z=>by
      obtain⟨x,hx,rfl⟩:=Zh.mp z;have:=hd x hx;omega
    have nn:c∉names.map (·.1):=fun z=>by
      obtain⟨x,hx,rfl⟩:=Zh.mp z;have:=hn x hx;omega
    rw[sets_no nn,sets_no nd];exact xgx _ _ cp
  . rw[sets_no cp]
    by_cases cn:c∈names.map (·.1)
    . have z:=xfw (m:=sets no dots) cn
      rw[xgx (sets (sets (marks hs no LM) pts) dots) (sets no dots) cn];revert z;generalize sets (sets no dots) names c=o;intro z;cases o with
      | none=>cases z
      | some s=>rfl
    . rw[sets_no cn,sets_no cn]
      by_cases cd:c∈dots.map (·.1)
      . have z:=xfw (m:=(no:Cl->Option S)) cd
        rw[xgx (sets (marks hs no LM) pts) no cd];revert z;generalize sets no dots c=o;intro z;cases o with
        | none=>cases z
        | some s=>rfl
      . rw[sets_no cd,sets_no cd,sets_no cp]
        show (none:Option S).or (marks hs no PM c)=_;rw[Option.none_or,xhf,xhf];exact xqd hs (hm cp cn)
def rim (w:Int) (b:Bool):Int:=if b then 0 else w+1
def ls (sp sb sm:S) (x r:Int) (c:Cl):S:=if c=(x,r) then sp else if c.1=x then sb else sm
def ledP (sp sb sm:S) (w x y:Int) (b:Bool) (r:Int):List (Cl × S):=(Geo.cells w x y b r).map fun c=>(c,ls sp sb sm x r c)
def rg (lo hi:Int):List Int:=(Z0 (hi-lo).toNat).map fun (i:Nat)=>lo+(i:Int)
def ledL (sp sb sm:S) (w x y:Int) (b:Bool) (r:Int):List (Cl × S):=((rg (min y r+1) (max y r)).map fun a=>((x,a),sb))++(if r≠y then [((x,r),sp)] else [])++((rg (min x (rim w b)+1) (max x (rim w b))).map fun a=>((a,r),sm))
theorem xez {lo hi a:Int}:a∈rg lo hi↔lo<=a/\a<hi:=by
 unfold rg;rw[Zh];constructor
 .rintro ⟨i,hi',rfl⟩;rw[ZL] at hi';omega
 .rintro ⟨h1,h2⟩;exact⟨(a-lo).toNat,by rw[ZL]; omega,by omega⟩
theorem nd_map {α β:Type}{f:α->β} (inj:∀ a b,f a=f b->a=b) {l:List α} (h:l.Nodup):(l.map f).Nodup:=by
 rw[Yu,ZB];exact h.imp fun ne e=>ne (inj _ _ e)
theorem xrx (lo hi:Int):(rg lo hi).Nodup:=nd_map (fun a b e=>by omega) Yz
theorem xqr {w x y:Int}{b:Bool}{r:Int}:(Geo.cells w x y b r).Nodup:=by
 unfold Geo.cells;rw[Ja];refine⟨?_,?_,?_⟩
 .unfold Geo.upL Geo.dn;refine nd_map (fun a b e=>?_) Yz;rw[JJ.injEq] at e;split at e<;>omega
 .unfold Geo.lvL Geo.wayI;refine nd_map (fun a b e=>?_) Yz;rw[JJ.injEq] at e;split at e<;>omega
 .rintro ⟨u,v⟩ h1 ⟨u',v'⟩ h2 e;rw[Geo.mem_up] at h1;unfold Geo.lvL at h2;obtain⟨i,_,e2⟩:=Zh.mp h2;rw[JJ.injEq] at e e2;omega
theorem xpw (sp sb sm:S) (w x y:Int) (b:Bool) (r:Int):(ledL sp sb sm w x y b r).map (·.1)=((rg (min y r+1) (max y r)).map fun a=>(x,a))++(if r≠y then [(x,r)] else [])++((rg (min x (rim w b)+1) (max x (rim w b))).map fun a=>(a,r)):=by
 unfold ledL;rw[Z4,Z4,Z3,Z3]
 congr 2
 split<;>rfl
theorem led_at (sp sb sm:S) {w x y:Int}{b:Bool}{r:Int} (h1:1<=x) (h2:x<=w) {c:Cl} (n1:c≠(x,y)) (n2:c≠(rim w b,r)):at_ c (ledP sp sb sm w x y b r)=at_ c (ledL sp sb sm w x y b r):=by
 obtain⟨u,v⟩:=c;refine xso _ ?_ ?_ ?_
 .unfold ledP;rw[Z3];exact nd_map (fun a b e=>e) xqr
 .rw [xpw];rw[Ja,Ja];refine⟨⟨nd_map (fun a b e=>(JJ.injEq ..▸e).2) (xrx _ _),by split<;>simp,?_⟩,nd_map (fun a b e=>(JJ.injEq ..▸e).1) (xrx _ _),?_⟩
  .rintro ⟨a,a'⟩ ha ⟨d,d'⟩ hd e;obtain⟨i,hi,ei⟩:=Zh.mp ha;rw[xez] at hi;split at hd
   .have hd:=Z6.mp hd;rw[JJ.injEq] at ei hd e;omega
   .exact nomatch hd
  .rintro ⟨a,a'⟩ ha ⟨d,d'⟩ hd e;obtain⟨j,hj,ej⟩:=Zh.mp hd;rw[xez] at hj;rw[JJ.injEq] at ej e;have hax:a=x:=by
    rcases Z9.mp ha with ha|ha
    .obtain ⟨i,hi,ei⟩:=Zh.mp ha;rw[JJ.injEq] at ei;exact ei.1.symm
    .split at ha
     .have ha:=Z6.mp ha;rw[JJ.injEq] at ha;exact ha.1
     .exact nomatch ha
   omega
 .intro s
  have m1:((u,v),s)∈ledP sp sb sm w x y b r↔(u,v)∈Geo.cells w x y b r/\s=ls sp sb sm x r (u,v):=by
   unfold ledP;rw[Zh];constructor
   .rintro ⟨c,hc,e⟩;rw[JJ.injEq] at e;obtain⟨rfl,rfl⟩:=e;exact⟨hc,rfl⟩
   .rintro ⟨hc,rfl⟩;exact⟨_,hc,rfl⟩
  have m2:((u,v),s)∈ledL sp sb sm w x y b r↔(u=x/\(min y r+1<=v/\v<max y r)/\s=sb)\/(r≠y/\u=x/\v=r/\s=sp)\/(v=r/\(min x (rim w b)+1<=u/\u<max x (rim w b))/\s=sm):=by
   unfold ledL;rw[Z9,Z9,Zh,Zh,or_assoc];refine or_congr ⟨?_,?_⟩ (or_congr ⟨?_,?_⟩ ⟨?_,?_⟩)
   .rintro ⟨a,ha,e⟩;rw[xez] at ha;simp only[JJ.injEq] at e;obtain⟨⟨rfl,rfl⟩,rfl⟩:=e;exact⟨rfl,ha,rfl⟩
   .rintro ⟨rfl,ha,rfl⟩;exact⟨v,xez.mpr ha,rfl⟩
   .intro h
    split at h
    .rename_i ne
     have h:=Z6.mp h;simp only[JJ.injEq] at h;exact⟨ne,h.1.1,h.1.2,h.2⟩
    .exact nomatch h
   .rintro ⟨ne,rfl,rfl,rfl⟩;rw[if_pos ne];exact Z6.mpr rfl
   .rintro ⟨a,ha,e⟩;rw[xez] at ha;simp only[JJ.injEq] at e;obtain⟨⟨rfl,rfl⟩,rfl⟩:=e;exact⟨rfl,ha,rfl⟩
   .rintro ⟨rfl,ha,rfl⟩;exact⟨u,xez.mpr ha,rfl⟩
  rw[m1,m2,Geo.mem_cells h1 h2];clear m1 m2;have k1:¬ (u=x/\v=y):=fun z=>n1 (by rw[z.1,z.2]);have k2:¬ (u=rim w b/\v=r):=fun z=>n2 (by rw[z.1,z.2]);unfold ls;by_cases ux:u=x
  .subst ux;by_cases vr:v=r
   .subst vr;rw[if_pos rfl];constructor
    .rintro ⟨_,e⟩;exact .inr (.inl ⟨fun z=>k1 ⟨rfl,z⟩,rfl,rfl,e⟩)
    .rintro (⟨_,z,_⟩|⟨_,_,_,e⟩|⟨_,z,_⟩)
     .omega
     .exact ⟨.inr ⟨rfl,by cases b<;>simp<;>omega⟩,e⟩
     .omega
   .rw [if_neg (fun z=>vr (JJ.inj z).2),if_pos rfl];constructor
    .rintro ⟨z|z,e⟩
     .exact .inl ⟨rfl,by omega,e⟩
     .exact absurd z.1 vr
    .rintro (⟨_,z,e⟩|⟨_,_,z,_⟩|⟨z,_⟩)
     .exact ⟨.inl ⟨rfl,by omega⟩,e⟩
     .exact absurd z vr
     .exact absurd z vr
  .rw [if_neg (fun z=>ux (JJ.inj z).1),if_neg ux];constructor
   .rintro ⟨z|z,e⟩
    .exact absurd z.1 ux
    .refine .inr (.inr ⟨z.1,?_,e⟩);have z2:=z.2;have k3:¬ u=rim w b:=fun y=>k2 ⟨y,z.1⟩;clear k1 k2 z n1 n2;unfold rim at k3 ⊢;cases b
     .simp at z2 k3 ⊢;omega
     .simp at z2 k3 ⊢;omega
   .rintro (⟨z,_⟩|⟨_,z,_⟩|⟨z,y,e⟩)
    .exact absurd z ux
    .exact absurd z ux
    .refine ⟨.inr ⟨z,?_⟩,e⟩;unfold rim at y;cases b
     .simp at y ⊢;omega
     .simp at y ⊢;omega
end Drw
namespace S74
open PySem L2 XL
theorem hmm {j k A}(r:L2.Room true k A)(h:j<=k:=by decide):L2.Room true j A:=r.mono h
def top (i:Nat):Stmt:=PySem.Challenge.pw_rimnotes_k74_the_first_wrong_sign.main.body.getD i (.Pass ⟨0,0,0,0⟩)
abbrev s_o:Stmt:=xat (top 16) 0
abbrev s_aw:Stmt:=xat (top 18) 0
abbrev s_y:Stmt:=xat (top 19) 1
abbrev s_ab:Stmt:=xat (top 19) 2
abbrev s_q:Stmt:=xat (top 19) 3
abbrev s_s:Stmt:=xat (top 20) 1
abbrev s_w:Stmt:=xat (top 20) 2
abbrev s_n:Stmt:=xat (top 20) 3
abbrev s_ao:Stmt:=top 21
abbrev s_a5:Stmt:=top 23
abbrev s_ak:Stmt:=top 25
abbrev s_ar:Stmt:=top 26
abbrev s_am:Stmt:=xat (top 32) 0
abbrev s_a:Stmt:=xat (top 32) 1
abbrev s_k:Stmt:=xat (top 32) 4
abbrev s_m:Stmt:=xat (top 32) 6
abbrev s_x:Stmt:=xat (top 32) 7
abbrev s_g:Stmt:=xat (top 32) 8
abbrev s_t:Stmt:=xat (top 32) 10
abbrev s_i:Stmt:=xat (top 32) 15
abbrev s_j:Stmt:=xat (top 32) 16
abbrev s_e:Stmt:=xat (top 32) 17
abbrev s_f:Stmt:=xat (top 32) 18
abbrev s_z:Stmt:=top 33
abbrev xgq:Stmt:=top 35
abbrev s_a8:Stmt:=top 36
abbrev s_ad:Stmt:=top 37
abbrev s_au:Stmt:=top 38
abbrev s_a1:Stmt:=top 39
abbrev s_an:Stmt:=xat (top 40) 0
abbrev s_l:Stmt:=xat (top 40) 1
abbrev s_h:Stmt:=xat (top 40) 2
abbrev s_p:Stmt:=xat (top 40) 3
abbrev s_v:Stmt:=xat (top 40) 4
abbrev xin:Stmt:=top 41
abbrev s_at:Stmt:=top 42
abbrev s_ay:Stmt:=top 43
abbrev s_a9:Stmt:=top 44
abbrev s_al:Stmt:=top 45
abbrev s_ag:Stmt:=top 46
abbrev s_aj:Stmt:=top 48
abbrev s_c:Stmt:=top 49
abbrev s_a3:Stmt:=top 50
abbrev s_a2:Stmt:=top 51
abbrev s_a4:Stmt:=top 52
abbrev s_ap:Stmt:=top 53
abbrev s_aa:Stmt:=top 54
abbrev s_ax:Stmt:=top 55
abbrev s_a6:Stmt:=top 56
abbrev s_az:Stmt:=top 57
abbrev s_ac:Stmt:=top 58
abbrev s_av:Stmt:=top 59
abbrev s_a0:Stmt:=top 60
abbrev s_ae:Stmt:=top 61
abbrev s_aq:Stmt:=top 62
abbrev s_a7:Stmt:=top 63
abbrev s_as:Stmt:=top 64
abbrev s_ai:Stmt:=top 65
abbrev xnm:Stmt:=top 66
set_option genInjectivity false in
set_option genSizeOf false in
set_option genInjectivity false in
set_option genSizeOf false in
structure Adr where
 f_o:Addr
 d_o:FuncData
 f_aw:Addr
 d_aw:FuncData
 f_y:Addr
 d_y:FuncData
 f_ab:Addr
 d_ab:FuncData
 f_q:Addr
 d_q:FuncData
 f_s:Addr
 d_s:FuncData
 f_w:Addr
 d_w:FuncData
 f_n:Addr
 d_n:FuncData
 f_ao:Addr
 d_ao:FuncData
 f_a5:Addr
 d_a5:FuncData
 f_ak:Addr
 d_ak:FuncData
 f_ar:Addr
 d_ar:FuncData
 f_am:Addr
 d_am:FuncData
 f_a:Addr
 d_a:FuncData
 T_a:Addr
 f_k:Addr
 d_k:FuncData
 f_m:Addr
 d_m:FuncData
 f_x:Addr
 d_x:FuncData
 f_g:Addr
 d_g:FuncData
 f_t:Addr
 d_t:FuncData
 f_i:Addr
 d_i:FuncData
 f_j:Addr
 d_j:FuncData
 f_e:Addr
 d_e:FuncData
 f_f:Addr
 d_f:FuncData
 f_z:Addr
 d_z:FuncData
 f_drawn:Addr
 d_drawn:FuncData
 f_a8:Addr
 d_a8:FuncData
 f_ad:Addr
 d_ad:FuncData
 f_au:Addr
 d_au:FuncData
 f_a1:Addr
 d_a1:FuncData
 f_an:Addr
 d_an:FuncData
 f_l:Addr
 d_l:FuncData
 f_h:Addr
 d_h:FuncData
 f_p:Addr
 d_p:FuncData
 f_v:Addr
 d_v:FuncData
 f_seen:Addr
 d_seen:FuncData
 f_at:Addr
 d_at:FuncData
 f_ay:Addr
 d_ay:FuncData
 f_a9:Addr
 d_a9:FuncData
 f_al:Addr
 d_al:FuncData
 f_ag:Addr
 d_ag:FuncData
 f_aj:Addr
 d_aj:FuncData
 f_c:Addr
 d_c:FuncData
 f_a3:Addr
 d_a3:FuncData
 f_a2:Addr
 d_a2:FuncData
 f_a4:Addr
 d_a4:FuncData
 f_ap:Addr
 d_ap:FuncData
 f_aa:Addr
 d_aa:FuncData
 f_ax:Addr
 d_ax:FuncData
 f_a6:Addr
 d_a6:FuncData
 f_az:Addr
 d_az:FuncData
 f_ac:Addr
 d_ac:FuncData
 f_av:Addr
 d_av:FuncData
 f_a0:Addr
 d_a0:FuncData
 f_ae:Addr
 d_ae:FuncData
 f_aq:Addr
 d_aq:FuncData
 f_a7:Addr
 d_a7:FuncData
 f_as:Addr
 d_as:FuncData
 f_ai:Addr
 d_ai:FuncData
 f_law:Addr
 d_law:FuncData
 C_bo:Addr
 C_b:Addr
 C_bp:Addr
 C_af:Addr
 C_r:Addr
 C_d:Addr
 C_u:Addr
 D_ah:Addr
structure Txt (w:World) (K:Zd) (mg:Str->Option Value) (t:Adr):Prop where
 g_b:mg "BadDrawing"=some (.ref t.C_b)
 g_af:mg "LeftSide"=some (.ref t.C_af)
 g_r:mg "RightSide"=some (.ref t.C_r)
 g_d:mg "Picture"=some (.ref t.C_d)
 g_u:mg "Letters"=some (.ref t.C_u)
 F_o:Fun K "__init__" "BadDrawing.__init__" s_o t.f_o t.d_o
 b_o:x0 K t.d_o ["self", "row", "column"] []
 F_aw:Fun K "__init__" "Side.__init__" s_aw t.f_aw t.d_aw
 b_aw:x0 K t.d_aw ["self", "width"] []
 F_y:Fun K "rim" "LeftSide.rim" s_y t.f_y t.d_y
 b_y:x0 K t.d_y ["self"] []
 F_ab:Fun K "way" "LeftSide.way" s_ab t.f_ab t.d_ab
 b_ab:x0 K t.d_ab ["self"] []
 F_q:Fun K "across" "LeftSide.across" s_q t.f_q t.d_q
 b_q:x0 K t.d_q ["self", "x"] []
 F_s:Fun K "rim" "RightSide.rim" s_s t.f_s t.d_s
 b_s:x0 K t.d_s ["self"] []
 F_w:Fun K "way" "RightSide.way" s_w t.f_w t.d_w
 b_w:x0 K t.d_w ["self"] []
 F_n:Fun K "across" "RightSide.across" s_n t.f_n t.d_n
 b_n:x0 K t.d_n ["self", "x"] []
 g_ao:mg "side_of"=some (.ref t.f_ao)
 F_ao:Fun K "side_of" "side_of" s_ao t.f_ao t.d_ao
 b_ao:x0 K t.d_ao ["word", "width"] []
 g_a5:mg "cells_of"=some (.ref t.f_a5)
 F_a5:Fun K "cells_of" "cells_of" s_a5 t.f_a5 t.d_a5
 b_a5:x0 K t.d_a5 ["picture", "name", "side", "row"] []
 g_ak:mg "is_whole"=some (.ref t.f_ak)
 F_ak:Fun K "is_whole" "is_whole" s_ak t.f_ak t.d_ak
 b_ak:x0 K t.d_ak ["thing", "low", "high"] []
 g_ar:mg "is_name"=some (.ref t.f_ar)
 F_ar:Fun K "is_name" "is_name" s_ar t.f_ar t.d_ar
 b_ar:x0 K t.d_ar ["thing"] []
 F_am:Fun K "__init__" "Picture.__init__" s_am t.f_am t.d_am
 b_am:x0 K t.d_am ["self", "width", "height"] []
 F_a:FunD K "put" "Picture.put" s_a t.T_a t.f_a t.d_a
 b_a:x0 K t.d_a ["self", "name", "x", "y", "sides", "low", "high"] []
 F_k:Fun K "open_seat" "Picture.open_seat" s_k t.f_k t.d_k
 b_k:x0 K t.d_k ["self", "side", "row"] []
 F_m:Fun K "points" "Picture.points" s_m t.f_m t.d_m
 b_m:x0 K t.d_m ["self"] []
 F_x:Fun K "seats" "Picture.seats" s_x t.f_x t.d_x
 b_x:x0 K t.d_x ["self"] []
 F_g:Fun K "place_of" "Picture.place_of" s_g t.f_g t.d_g
 b_g:x0 K t.d_g ["self", "name"] []
 F_t:Fun K "length" "Picture.length" s_t t.f_t t.d_t
 b_t:x0 K t.d_t ["self", "name", "side", "row"] []
 F_i:Fun K "check_name" "Picture.check_name" s_i t.f_i t.d_i
 b_i:x0 K t.d_i ["self", "name"] []
 F_j:Fun K "check_cell" "Picture.check_cell" s_j t.f_j t.d_j
 b_j:x0 K t.d_j ["self", "x", "y"] []
 F_e:Fun K "check_lines" "Picture.check_lines" s_e t.f_e t.d_e
 b_e:x0 K t.d_e ["self", "name", "x", "y"] []
 F_f:Fun K "check_seat" "Picture.check_seat" s_f t.f_f t.d_f
 b_f:x0 K t.d_f ["self", "side", "row"] []
 g_z:mg "picture_with"=some (.ref t.f_z)
 F_z:Fun K "picture_with" "picture_with" s_z t.f_z t.d_z
 b_z:x0 K t.d_z ["width", "height", "points", "seats"] []
 g_drawn:mg "drawn"=some (.ref t.f_drawn)
 F_drawn:Fun K "drawn" "drawn" xgq t.f_drawn t.d_drawn
 b_drawn:x0 K t.d_drawn ["picture", "pairs"] []
 g_a8:mg "row_text"=some (.ref t.f_a8)
 F_a8:Fun K "row_text" "row_text" s_a8 t.f_a8 t.d_a8
 b_a8:x0 K t.d_a8 ["signs", "width", "row"] []
 g_ad:mg "leader_signs"=some (.ref t.f_ad)
 F_ad:Fun K "leader_signs" "leader_signs" s_ad t.f_ad t.d_ad
 b_ad:x0 K t.d_ad ["picture", "pairs"] []
 g_au:mg "leader_sign"=some (.ref t.f_au)
 F_au:Fun K "leader_sign" "leader_sign" s_au t.f_au t.d_au
 b_au:x0 K t.d_au ["cell", "x", "row"] []
 g_a1:mg "rim_signs"=some (.ref t.f_a1)
 F_a1:Fun K "rim_signs" "rim_signs" s_a1 t.f_a1 t.d_a1
 b_a1:x0 K t.d_a1 ["picture", "pairs"] []
 F_an:Fun K "__init__" "Letters.__init__" s_an t.f_an t.d_an
 b_an:x0 K t.d_an ["self", "last_column"] []
 F_l:Fun K "is_rim" "Letters.is_rim" s_l t.f_l t.d_l
 b_l:x0 K t.d_l ["self", "column"] []
 F_h:Fun K "may_stand" "Letters.may_stand" s_h t.f_h t.d_h
 b_h:x0 K t.d_h ["self", "row", "column", "sign"] []
 F_p:Fun K "may_lie" "Letters.may_lie" s_p t.f_p t.d_p
 b_p:x0 K t.d_p ["self", "row", "column", "name"] []
 F_v:Fun K "read" "Letters.read" s_v t.f_v t.d_v
 b_v:x0 K t.d_v ["self", "row", "column", "sign"] []
 g_seen:mg "seen"=some (.ref t.f_seen)
 F_seen:Fun K "seen" "seen" xin t.f_seen t.d_seen
 b_seen:x0 K t.d_seen ["rows"] []
 g_at:mg "check_texts"=some (.ref t.f_at)
 F_at:Fun K "check_texts" "check_texts" s_at t.f_at t.d_at
 b_at:x0 K t.d_at ["rows"] []
 g_ay:mg "signs_in"=some (.ref t.f_ay)
 F_ay:Fun K "signs_in" "signs_in" s_ay t.f_ay t.d_ay
 b_ay:x0 K t.d_ay ["rows"] []
 g_a9:mg "seat_at"=some (.ref t.f_a9)
 F_a9:Fun K "seat_at" "seat_at" s_a9 t.f_a9 t.d_a9
 b_a9:x0 K t.d_a9 ["place"] []
 g_al:mg "picture_seen"=some (.ref t.f_al)
 F_al:Fun K "picture_seen" "picture_seen" s_al t.f_al t.d_al
 b_al:x0 K t.d_al ["rows", "letters"] []
 g_ag:mg "check_drawing"=some (.ref t.f_ag)
 F_ag:Fun K "check_drawing" "check_drawing" s_ag t.f_ag t.d_ag
 b_ag:x0 K t.d_ag ["rows", "drawing"] []
 g_aj:mg "_law_cell_at"=some (.ref t.f_aj)
 F_aj:Fun K "_law_cell_at" "_law_cell_at" s_aj t.f_aj t.d_aj
 b_aj:x0 K t.d_aj ["_law_script", "_law_k"] []
 g_c:mg "_law_mix"=some (.ref t.f_c)
 F_c:Fun K "_law_mix" "_law_mix" s_c t.f_c t.d_c
 b_c:x0 K t.d_c ["_law_cell", "_law_k"] []
 g_a3:mg "_law_frame"=some (.ref t.f_a3)
 F_a3:Fun K "_law_frame" "_law_frame" s_a3 t.f_a3 t.d_a3
 b_a3:x0 K t.d_a3 ["_law_script"] []
 g_a2:mg "_law_seats"=some (.ref t.f_a2)
 F_a2:Fun K "_law_seats" "_law_seats" s_a2 t.f_a2 t.d_a2
 b_a2:x0 K t.d_a2 ["_law_script", "_law_height"] []
 g_a4:mg "_law_point"=some (.ref t.f_a4)
 F_a4:Fun K "_law_point" "_law_point" s_a4 t.f_a4 t.d_a4
 b_a4:x0 K t.d_a4 ["_law_cell", "_law_name", "_law_x", "_law_y", "_law_height"] []
 g_ap:mg "_law_points"=some (.ref t.f_ap)
 F_ap:Fun K "_law_points" "_law_points" s_ap t.f_ap t.d_ap
 b_ap:x0 K t.d_ap ["_law_cells", "_law_width", "_law_height"] []
 g_aa:mg "_law_every_seat"=some (.ref t.f_aa)
 F_aa:Fun K "_law_every_seat" "_law_every_seat" s_aa t.f_aa t.d_aa
 b_aa:x0 K t.d_aa ["_law_height"] []
 g_ax:mg "_law_pairs"=some (.ref t.f_ax)
 F_ax:Fun K "_law_pairs" "_law_pairs" s_ax t.f_ax t.d_ax
 b_ax:x0 K t.d_ax ["_law_cell", "_law_points_here", "_law_height", "_law_seats_here"] []
 g_a6:mg "_law_rim"=some (.ref t.f_a6)
 F_a6:Fun K "_law_rim" "_law_rim" s_a6 t.f_a6 t.d_a6
 b_a6:x0 K t.d_a6 ["_law_width", "_law_side"] []
 g_az:mg "_law_leader"=some (.ref t.f_az)
 F_az:Fun K "_law_leader" "_law_leader" s_az t.f_az t.d_az
 b_az:x0 K t.d_az ["_law_rim_here", "_law_x", "_law_y", "_law_row"] []
 g_ac:mg "_law_sheet"=some (.ref t.f_ac)
 F_ac:Fun K "_law_sheet" "_law_sheet" s_ac t.f_ac t.d_ac
 b_ac:x0 K t.d_ac ["_law_width", "_law_height", "_law_points_here", "_law_seats_here", "_law_pairs_here"] []
 g_av:mg "_law_on_rim"=some (.ref t.f_av)
 F_av:Fun K "_law_on_rim" "_law_on_rim" s_av t.f_av t.d_av
 b_av:x0 K t.d_av ["_law_state", "_law_x", "_law_y", "_law_sign"] []
 g_a0:mg "_law_within"=some (.ref t.f_a0)
 F_a0:Fun K "_law_within" "_law_within" s_a0 t.f_a0 t.d_a0
 b_a0:x0 K t.d_a0 ["_law_state", "_law_x", "_law_y", "_law_sign"] []
 g_ae:mg "_law_by_signs"=some (.ref t.f_ae)
 F_ae:Fun K "_law_by_signs" "_law_by_signs" s_ae t.f_ae t.d_ae
 b_ae:x0 K t.d_ae ["_law_state", "_law_rows"] []
 g_aq:mg "_law_first"=some (.ref t.f_aq)
 F_aq:Fun K "_law_first" "_law_first" s_aq t.f_aq t.d_aq
 b_aq:x0 K t.d_aq ["_law_state", "_law_rows"] []
 g_a7:mg "_law_read"=some (.ref t.f_a7)
 F_a7:Fun K "_law_read" "_law_read" s_a7 t.f_a7 t.d_a7
 b_a7:x0 K t.d_a7 ["_law_rows"] []
 g_as:mg "_law_right"=some (.ref t.f_as)
 F_as:Fun K "_law_right" "_law_right" s_as t.f_as t.d_as
 b_as:x0 K t.d_as ["_law_rows"] []
 g_ai:mg "_law_changed"=some (.ref t.f_ai)
 F_ai:Fun K "_law_changed" "_law_changed" s_ai t.f_ai t.d_ai
 b_ai:x0 K t.d_ai ["_law_rows", "_law_cell"] []
 g_law:mg "law"=some (.ref t.f_law)
 F_law:Fun K "law" "law" xnm t.f_law t.d_law
 x_b:XC K t.C_b
 mk_b:xem K t.C_b=true
 k_b:XMk K t.C_b t.f_o
 c_af:Cls K t.C_af
 k_af:Mk K t.C_af t.f_aw
 m_y:Meth K t.C_af "rim" t.f_y
 m_ab:Meth K t.C_af "way" t.f_ab
 m_q:Meth K t.C_af "across" t.f_q
 c_r:Cls K t.C_r
 k_r:Mk K t.C_r t.f_aw
 m_s:Meth K t.C_r "rim" t.f_s
 m_w:Meth K t.C_r "way" t.f_w
 m_n:Meth K t.C_r "across" t.f_n
 c_d:Cls K t.C_d
 k_d:Mk K t.C_d t.f_am
 m_a:Meth K t.C_d "put" t.f_a
 m_k:Meth K t.C_d "open_seat" t.f_k
 m_m:Meth K t.C_d "points" t.f_m
 m_x:Meth K t.C_d "seats" t.f_x
 m_g:Meth K t.C_d "place_of" t.f_g
 m_t:Meth K t.C_d "length" t.f_t
 m_i:Meth K t.C_d "check_name" t.f_i
 m_j:Meth K t.C_d "check_cell" t.f_j
 m_e:Meth K t.C_d "check_lines" t.f_e
 m_f:Meth K t.C_d "check_seat" t.f_f
 c_u:Cls K t.C_u
 k_u:Mk K t.C_u t.f_an
 m_l:Meth K t.C_u "is_rim" t.f_l
 m_h:Meth K t.C_u "may_stand" t.f_h
 m_p:Meth K t.C_u "may_lie" t.f_p
 m_v:Meth K t.C_u "read" t.f_v
 cg:PySem.W.specialIn K (.builtin "object.__class__") "__get__"=some (some (.builtin "getset_descriptor.__get__"))
 ct:PySem.W.takesIn K (.builtin "object.__class__")=some true
 n_bh:ZA K (.ref t.C_r) "width"=some none
 n_ba:ZA K (.ref t.C_d) "placed"=some none
 n_bc:ZA K (.ref t.C_d) "height"=some none
 n_bb:ZA K (.ref t.C_d) "width"=some none
 n_bg:ZA K (.ref t.C_d) "opened"=some none
 n_be:ZA K (.ref t.C_u) "last_column"=some none
 n_bd:ZA K (.ref t.C_u) "inner"=some none
 n_bf:ZA K (.ref t.C_u) "outer"=some none
 n_bi:ZA K (.ref t.C_b) "column"=some none
 n_bl:ZA K (.ref t.C_b) "row"=some none
 n_bm:ZA K (.ref t.C_af) "width"=some none
 n_abs:mg "abs"=none
 n_bool:mg "bool"=none
 n_dict:mg "dict"=none
 n_enumerate:mg "enumerate"=none
 n_int:mg "int"=none
 n_isinstance:mg "isinstance"=none
 n_len:mg "len"=none
 n_list:mg "list"=none
 n_max:mg "max"=none
 n_min:mg "min"=none
 n_range:mg "range"=none
 n_reversed:mg "reversed"=none
 n_sorted:mg "sorted"=none
 n_str:mg "str"=none
 mro_b:Wl K t.C_b (.ref t.C_b)=some true
 v_bn:∃ tk,mg "MOST_ROWS"=some (.int 16 tk)
 v_bj:∃ tk,mg "MOST_COLUMNS"=some (.int 30 tk)
 v_bk:∃ tk,mg "MOST_POINTS"=some (.int 12 tk)
 g_ah:mg "MIRRORED_SIDES"=some (.ref t.D_ah)
 D_ah:xnx w K t.D_ah [(.inr "left",.str "right"),(.inr "right",.str "left"),(.inr "both",.str "both")]
@[elab_as_elim] theorem xwa {α:Type}{P:List α->Prop}:(us:List α)->us.length=1->(∀ a0,P [a0])->P us
 | [a0],_,h=>h a0
@[elab_as_elim] theorem xwf {α:Type}{P:List α->Prop}:(us:List α)->us.length=2->(∀ a0 a1,P [a0,a1])->P us
 | [a0,a1],_,h=>h a0 a1
@[elab_as_elim] theorem xwn {α:Type}{P:List α->Prop}:(us:List α)->us.length=3->(∀ a0 a1 a2,P [a0,a1,a2])->P us
 | [a0,a1,a2],_,h=>h a0 a1 a2
@[elab_as_elim] theorem xvt {α:Type}{P:List α->Prop}:(us:List α)->us.length=4->(∀ a0 a1 a2 a3,P [a0,a1,a2,a3])->P us
 | [a0,a1,a2,a3],_,h=>h a0 a1 a2 a3
@[elab_as_elim] theorem xwj {α:Type}{P:List α->Prop}:(us:List α)->us.length=5->(∀ a0 a1 a2 a3 a4,P [a0,a1,a2,a3,a4])->P us
 | [a0,a1,a2,a3,a4],_,h=>h a0 a1 a2 a3 a4
@[elab_as_elim] theorem xv5 {α:Type}{P:List α->Prop}:(us:List α)->us.length=7->(∀ a0 a1 a2 a3 a4 a5 a6,P [a0,a1,a2,a3,a4,a5,a6])->P us
 | [a0,a1,a2,a3,a4,a5,a6],_,h=>h a0 a1 a2 a3 a4 a5 a6
def gI (K:Zd) (n:Str) (a:Addr):Prop:=Q8 K mainGlobals n=some (some (.ref a))
def gN (K:Zd) (n:Str):Prop:=Q8 K mainGlobals n=some none
def fN (K:Zd) (C:Addr) (n:Str):Prop:=ZA K (.ref C) n=some none
def fI (K:Zd) (C:Addr) (n:Str) (a:Addr):Prop:=ZA K (.ref C) n=some (some (.ref a))
def fB (K:Zd) (C:Addr) (n:Str) (b:String):Prop:=ZA K (.ref C) n=some (some (.builtin b))
theorem bi_1 {K:Zd}{x q:Str}{st:Stmt}{f:Addr}{fd:FuncData}{p0:Str} (F:Fun K x q st f fd) (h:∀(kV doc pm:Value) (an:Option Addr) (cdv ct:Value) (a0:Value),bindArgs (Js x q (xbt st) (xbe st) (xo st) .none kV doc pm an cdv ct) ⟨[a0],[]⟩=pure (List.zip [p0] [a0]):=by intros; rfl):x0 K fd [p0] []:=F.binds fun a b c d e f us hl=>xwa us hl (h a b c d e f)
theorem bi_2 {K:Zd}{x q:Str}{st:Stmt}{f:Addr}{fd:FuncData}{p0 p1:Str} (F:Fun K x q st f fd) (h:∀(kV doc pm:Value) (an:Option Addr) (cdv ct:Value) (a0 a1:Value),bindArgs (Js x q (xbt st) (xbe st) (xo st) .none kV doc pm an cdv ct) ⟨[a0,a1],[]⟩=pure (List.zip [p0,p1] [a0,a1]):=by intros; rfl):x0 K fd [p0,p1] []:=F.binds fun a b c d e f us hl=>xwf us hl (h a b c d e f)
theorem bi_3 {K:Zd}{x q:Str}{st:Stmt}{f:Addr}{fd:FuncData}{p0 p1 p2:Str} (F:Fun K x q st f fd) (h:∀(kV doc pm:Value) (an:Option Addr) (cdv ct:Value) (a0 a1 a2:Value),bindArgs (Js x q (xbt st) (xbe st) (xo st) .none kV doc pm an cdv ct) ⟨[a0,a1,a2],[]⟩=pure (List.zip [p0,p1,p2] [a0,a1,a2]):=by intros; rfl):x0 K fd [p0,p1,p2] []:=F.binds fun a b c d e f us hl=>xwn us hl (h a b c d e f)
theorem bi_4 {K:Zd}{x q:Str}{st:Stmt}{f:Addr}{fd:FuncData}{p0 p1 p2 p3:Str} (F:Fun K x q st f fd) (h:∀(kV doc pm:Value) (an:Option Addr) (cdv ct:Value) (a0 a1 a2 a3:Value),bindArgs (Js x q (xbt st) (xbe st) (xo st) .none kV doc pm an cdv ct) ⟨[a0,a1,a2,a3],[]⟩=pure (List.zip [p0,p1,p2,p3] [a0,a1,a2,a3]):=by intros; rfl):x0 K fd [p0,p1,p2,p3] []:=F.binds fun a b c d e f us hl=>xvt us hl (h a b c d e f)
theorem bi_5 {K:Zd}{x q:Str}{st:Stmt}{f:Addr}{fd:FuncData}{p0 p1 p2 p3 p4:Str} (F:Fun K x q st f fd) (h:∀(kV doc pm:Value) (an:Option Addr) (cdv ct:Value) (a0 a1 a2 a3 a4:Value),bindArgs (Js x q (xbt st) (xbe st) (xo st) .none kV doc pm an cdv ct) ⟨[a0,a1,a2,a3,a4],[]⟩=pure (List.zip [p0,p1,p2,p3,p4] [a0,a1,a2,a3,a4]):=by intros; rfl):x0 K fd [p0,p1,p2,p3,p4] []:=F.binds fun a b c d e f us hl=>xwj us hl (h a b c d e f)
theorem txt_mk {w:World}{K:Zd}{h:Heap}{mg:Str->Option Value} (X:K.In h) (G:h.Ns mainGlobals mg) {C_bo C_b C_bp C_af C_r C_d C_u f_o f_aw f_y f_ab f_q f_s f_w f_n f_ao f_a5 f_ak f_ar f_am f_a T_a f_k f_m f_x f_g f_t f_i f_j f_e f_f f_z f_drawn f_a8 f_ad f_au f_a1 f_an f_l f_h f_p f_v f_seen f_at f_ay f_a9 f_al f_ag f_aj f_c f_a3 f_a2 f_a4 f_ap f_aa f_ax f_a6 f_az f_ac f_av f_a0 f_ae f_aq f_a7 f_as f_ai f_law:Addr}{d_o d_aw d_y d_ab d_q d_s d_w d_n d_ao d_a5 d_ak d_ar d_am d_k d_m d_x d_g d_t d_i d_j d_e d_f d_z d_drawn d_a8 d_ad d_au d_a1 d_an d_l d_h d_p d_v d_seen d_at d_ay d_a9 d_al d_ag d_aj d_c d_a3 d_a2 d_a4 d_ap d_aa d_ax d_a6 d_az d_ac d_av d_a0 d_ae d_aq d_a7 d_as d_ai d_law:FuncData}{oc_a kv_a dc_a pm_a cd_a ct_a:Value}{od_a an_a:Option Addr}{sl_a:Array (Option Value)}{tk0_a:Tok}{tk1_a:Tok}{toc_a:Value}{tod_a:Option Addr}{tn_a:Nat}{tsl_a:Array (Option Value)}{tkc_bn:Tok}{tkc_bj:Tok}{tkc_bk:Tok}{D_ah:Addr}{ta0_ah tb0_ah:Tok}{ta1_ah tb1_ah:Tok}{ta2_ah tb2_ah:Tok}{ep_ah:Nat}
    (g_bo:gI K "RimError" C_bo)
    (g_b:gI K "BadDrawing" C_b)
    (g_bp:gI K "Side" C_bp)
    (g_af:gI K "LeftSide" C_af)
    (g_r:gI K "RightSide" C_r)
    (g_d:gI K "Picture" C_d)
    (g_u:gI K "Letters" C_u)
    (a_o:fI K C_b "__init__" f_o)
    (F_o:Fun K "__init__" "BadDrawing.__init__" s_o f_o d_o)
    (i_o:ZJ K (.ref f_o)=true)
    (a_aw:fI K C_bp "__init__" f_aw)
    (F_aw:Fun K "__init__" "Side.__init__" s_aw f_aw d_aw)
    (i_aw:ZJ K (.ref f_aw)=true)
    (a_y:fI K C_af "rim" f_y)
    (F_y:Fun K "rim" "LeftSide.rim" s_y f_y d_y)
    (i_y:ZJ K (.ref f_y)=true)
    (a_ab:fI K C_af "way" f_ab)
    (F_ab:Fun K "way" "LeftSide.way" s_ab f_ab d_ab)
    (i_ab:ZJ K (.ref f_ab)=true)
    (a_q:fI K C_af "across" f_q)
    (F_q:Fun K "across" "LeftSide.across" s_q f_q d_q)
    (i_q:ZJ K (.ref f_q)=true)
    (a_s:fI K C_r "rim" f_s)
    (F_s:Fun K "rim" "RightSide.rim" s_s f_s d_s)
    (i_s:ZJ K (.ref f_s)=true)
    (a_w:fI K C_r "way" f_w)
    (F_w:Fun K "way" "RightSide.way" s_w f_w d_w)
    (i_w:ZJ K (.ref f_w)=true)
    (a_n:fI K C_r "across" f_n)
    (F_n:Fun K "across" "RightSide.across" s_n f_n d_n)
    (i_n:ZJ K (.ref f_n)=true)
    (a_ao:gI K "side_of" f_ao)
    (F_ao:Fun K "side_of" "side_of" s_ao f_ao d_ao)
    (a_a5:gI K "cells_of" f_a5)
    (F_a5:Fun K "cells_of" "cells_of" s_a5 f_a5 d_a5)
    (a_ak:gI K "is_whole" f_ak)
    (F_ak:Fun K "is_whole" "is_whole" s_ak f_ak d_ak)
    (a_ar:gI K "is_name" f_ar)
    (F_ar:Fun K "is_name" "is_name" s_ar f_ar d_ar)
    (a_am:fI K C_d "__init__" f_am)
    (F_am:Fun K "__init__" "Picture.__init__" s_am f_am d_am)
    (i_am:ZJ K (.ref f_am)=true)
    (a_a:fI K C_d "put" f_a)
    (l_a:K.lookup f_a=some ⟨oc_a,od_a,.func (Js "put" "Picture.put" (xbt s_a) (xbe s_a) (xo s_a) (.ref T_a) kv_a dc_a pm_a an_a cd_a ct_a),sl_a⟩)
    (c_a:YI K cd_a "Picture.put"=true)
    (k_a:Jp K (.ref f_a)=true)
    (i_a:ZJ K (.ref f_a)=true)
    (t_a:K.lookup T_a=some ⟨toc_a,tod_a,.seq #[.str "both" tk0_a,.int 1 tk1_a,.none] tn_a,tsl_a⟩)
    (a_k:fI K C_d "open_seat" f_k)
    (F_k:Fun K "open_seat" "Picture.open_seat" s_k f_k d_k)
    (i_k:ZJ K (.ref f_k)=true)
    (a_m:fI K C_d "points" f_m)
    (F_m:Fun K "points" "Picture.points" s_m f_m d_m)
    (i_m:ZJ K (.ref f_m)=true)
    (a_x:fI K C_d "seats" f_x)
    (F_x:Fun K "seats" "Picture.seats" s_x f_x d_x)
    (i_x:ZJ K (.ref f_x)=true)
    (a_g:fI K C_d "place_of" f_g)
    (F_g:Fun K "place_of" "Picture.place_of" s_g f_g d_g)
    (i_g:ZJ K (.ref f_g)=true)
    (a_t:fI K C_d "length" f_t)
    (F_t:Fun K "length" "Picture.length" s_t f_t d_t)
    (i_t:ZJ K (.ref f_t)=true)
    (a_i:fI K C_d "check_name" f_i)
    (F_i:Fun K "check_name" "Picture.check_name" s_i f_i d_i)
    (i_i:ZJ K (.ref f_i)=true)
    (a_j:fI K C_d "check_cell" f_j)
    (F_j:Fun K "check_cell" "Picture.check_cell" s_j f_j d_j)
    (i_j:ZJ K (.ref f_j)=true)
    (a_e:fI K C_d "check_lines" f_e)
    (F_e:Fun K "check_lines" "Picture.check_lines" s_e f_e d_e)
    (i_e:ZJ K (.ref f_e)=true)
    (a_f:fI K C_d "check_seat" f_f)
    (F_f:Fun K "check_seat" "Picture.check_seat" s_f f_f d_f)
    (i_f:ZJ K (.ref f_f)=true)
    (a_z:gI K "picture_with" f_z)
    (F_z:Fun K "picture_with" "picture_with" s_z f_z d_z)
    (a_drawn:gI K "drawn" f_drawn)
    (F_drawn:Fun K "drawn" "drawn" xgq f_drawn d_drawn)
    (a_a8:gI K "row_text" f_a8)
    (F_a8:Fun K "row_text" "row_text" s_a8 f_a8 d_a8)
    (a_ad:gI K "leader_signs" f_ad)
    (F_ad:Fun K "leader_signs" "leader_signs" s_ad f_ad d_ad)
    (a_au:gI K "leader_sign" f_au)
    (F_au:Fun K "leader_sign" "leader_sign" s_au f_au d_au)
    (a_a1:gI K "rim_signs" f_a1)
    (F_a1:Fun K "rim_signs" "rim_signs" s_a1 f_a1 d_a1)
    (a_an:fI K C_u "__init__" f_an)
    (F_an:Fun K "__init__" "Letters.__init__" s_an f_an d_an)
    (i_an:ZJ K (.ref f_an)=true)
    (a_l:fI K C_u "is_rim" f_l)
    (F_l:Fun K "is_rim" "Letters.is_rim" s_l f_l d_l)
    (i_l:ZJ K (.ref f_l)=true)
    (a_h:fI K C_u "may_stand" f_h)
    (F_h:Fun K "may_stand" "Letters.may_stand" s_h f_h d_h)
    (i_h:ZJ K (.ref f_h)=true)
    (a_p:fI K C_u "may_lie" f_p)
    (F_p:Fun K "may_lie" "Letters.may_lie" s_p f_p d_p)
    (i_p:ZJ K (.ref f_p)=true)
    (a_v:fI K C_u "read" f_v)
    (F_v:Fun K "read" "Letters.read" s_v f_v d_v)
    (i_v:ZJ K (.ref f_v)=true)
    (a_seen:gI K "seen" f_seen)
    (F_seen:Fun K "seen" "seen" xin f_seen d_seen)
    (a_at:gI K "check_texts" f_at)
    (F_at:Fun K "check_texts" "check_texts" s_at f_at d_at)
    (a_ay:gI K "signs_in" f_ay)
    (F_ay:Fun K "signs_in" "signs_in" s_ay f_ay d_ay)
    (a_a9:gI K "seat_at" f_a9)
    (F_a9:Fun K "seat_at" "seat_at" s_a9 f_a9 d_a9)
    (a_al:gI K "picture_seen" f_al)
    (F_al:Fun K "picture_seen" "picture_seen" s_al f_al d_al)
    (a_ag:gI K "check_drawing" f_ag)
    (F_ag:Fun K "check_drawing" "check_drawing" s_ag f_ag d_ag)
    (a_aj:gI K "_law_cell_at" f_aj)
    (F_aj:Fun K "_law_cell_at" "_law_cell_at" s_aj f_aj d_aj)
    (a_c:gI K "_law_mix" f_c)
    (F_c:Fun K "_law_mix" "_law_mix" s_c f_c d_c)
    (a_a3:gI K "_law_frame" f_a3)
    (F_a3:Fun K "_law_frame" "_law_frame" s_a3 f_a3 d_a3)
    (a_a2:gI K "_law_seats" f_a2)
    (F_a2:Fun K "_law_seats" "_law_seats" s_a2 f_a2 d_a2)
    (a_a4:gI K "_law_point" f_a4)
    (F_a4:Fun K "_law_point" "_law_point" s_a4 f_a4 d_a4)
    (a_ap:gI K "_law_points" f_ap)
    (F_ap:Fun K "_law_points" "_law_points" s_ap f_ap d_ap)
    (a_aa:gI K "_law_every_seat" f_aa)
    (F_aa:Fun K "_law_every_seat" "_law_every_seat" s_aa f_aa d_aa)
    (a_ax:gI K "_law_pairs" f_ax)
    (F_ax:Fun K "_law_pairs" "_law_pairs" s_ax f_ax d_ax)
    (a_a6:gI K "_law_rim" f_a6)
    (F_a6:Fun K "_law_rim" "_law_rim" s_a6 f_a6 d_a6)
    (a_az:gI K "_law_leader" f_az)
    (F_az:Fun K "_law_leader" "_law_leader" s_az f_az d_az)
    (a_ac:gI K "_law_sheet" f_ac)
    (F_ac:Fun K "_law_sheet" "_law_sheet" s_ac f_ac d_ac)
    (a_av:gI K "_law_on_rim" f_av)
    (F_av:Fun K "_law_on_rim" "_law_on_rim" s_av f_av d_av)
    (a_a0:gI K "_law_within" f_a0)
    (F_a0:Fun K "_law_within" "_law_within" s_a0 f_a0 d_a0)
    (a_ae:gI K "_law_by_signs" f_ae)
    (F_ae:Fun K "_law_by_signs" "_law_by_signs" s_ae f_ae d_ae)
    (a_aq:gI K "_law_first" f_aq)
    (F_aq:Fun K "_law_first" "_law_first" s_aq f_aq d_aq)
    (a_a7:gI K "_law_read" f_a7)
    (F_a7:Fun K "_law_read" "_law_read" s_a7 f_a7 d_a7)
    (a_as:gI K "_law_right" f_as)
    (F_as:Fun K "_law_right" "_law_right" s_as f_as d_as)
    (a_ai:gI K "_law_changed" f_ai)
    (F_ai:Fun K "_law_changed" "_law_changed" s_ai f_ai d_ai)
    (a_law:gI K "law" f_law)
    (F_law:Fun K "law" "law" xnm f_law d_law)
    (kc_b:Jp K (.ref C_b)=true)
    (ov_b:xmq K C_b=true)
    (hd_b:JK K C_b=true)
    (sa_b:fB K C_b "__setattr__" "object.__setattr__")
    (ga_b:fB K C_b "__getattribute__" "BaseException.__getattribute__")
    (gh_b:fN K C_b "__getattr__")
    (ca_b:fB K C_b "__class__" "object.__class__")
    (mk_b:xem K C_b=true)
    (kc_af:Jp K (.ref C_af)=true)
    (pg_af:JQ K C_af Str.empty=true)
    (hd_af:JK K C_af=true)
    (po_af:Ys K C_af=true)
    (sa_af:fB K C_af "__setattr__" "object.__setattr__")
    (mk_af:Y7 K C_af=true)
    (a_LeftSide_init:fI K C_af "__init__" f_aw)
    (kc_r:Jp K (.ref C_r)=true)
    (pg_r:JQ K C_r Str.empty=true)
    (hd_r:JK K C_r=true)
    (po_r:Ys K C_r=true)
    (sa_r:fB K C_r "__setattr__" "object.__setattr__")
    (mk_r:Y7 K C_r=true)
    (a_RightSide_init:fI K C_r "__init__" f_aw)
    (kc_d:Jp K (.ref C_d)=true)
    (pg_d:JQ K C_d Str.empty=true)
    (hd_d:JK K C_d=true)
    (po_d:Ys K C_d=true)
    (sa_d:fB K C_d "__setattr__" "object.__setattr__")
    (mk_d:Y7 K C_d=true)
    (kc_u:Jp K (.ref C_u)=true)
    (pg_u:JQ K C_u Str.empty=true)
    (hd_u:JK K C_u=true)
    (po_u:Ys K C_u=true)
    (sa_u:fB K C_u "__setattr__" "object.__setattr__")
    (mk_u:Y7 K C_u=true)
    (cg:PySem.W.specialIn K (.builtin "object.__class__") "__get__"=some (some (.builtin "getset_descriptor.__get__")))
    (ct:PySem.W.takesIn K (.builtin "object.__class__")=some true)
    (n_bh:fN K C_r "width")
    (n_ba:fN K C_d "placed")
    (n_bc:fN K C_d "height")
    (n_bb:fN K C_d "width")
    (n_bg:fN K C_d "opened")
    (n_be:fN K C_u "last_column")
    (n_bd:fN K C_u "inner")
    (n_bf:fN K C_u "outer")
    (n_bi:fN K C_b "column")
    (n_bl:fN K C_b "row")
    (n_bm:fN K C_af "width")
    (n_abs:gN K "abs")
    (n_bool:gN K "bool")
    (n_dict:gN K "dict")
    (n_enumerate:gN K "enumerate")
    (n_int:gN K "int")
    (n_isinstance:gN K "isinstance")
    (n_len:gN K "len")
    (n_list:gN K "list")
    (n_max:gN K "max")
    (n_min:gN K "min")
    (n_range:gN K "range")
    (n_reversed:gN K "reversed")
    (n_sorted:gN K "sorted")
    (n_str:gN K "str")
    (mro_b:Wl K C_b (.ref C_b)=some true)
    (v_bn:Q8 K mainGlobals "MOST_ROWS"=some (some (.int 16 tkc_bn)))
    (v_bj:Q8 K mainGlobals "MOST_COLUMNS"=some (some (.int 30 tkc_bj)))
    (v_bk:Q8 K mainGlobals "MOST_POINTS"=some (some (.int 12 tkc_bk)))
    (g_ah:gI K "MIRRORED_SIDES" D_ah)
    (l_ah:K.lookup D_ah=some ⟨.type "dict",none,.dict #[⟨hashStr w "left",.str "left" ta0_ah,.str "right" tb0_ah⟩,⟨hashStr w "right",.str "right" ta1_ah,.str "left" tb1_ah⟩,⟨hashStr w "both",.str "both" ta2_ah,.str "both" tb2_ah⟩] ep_ah,#[]⟩)
    (ns_ah:(D_ah == sysModules)=false):∃ t,Txt w K mg t :=
  ⟨⟨f_o,_,f_aw,_,f_y,_,f_ab,_,f_q,_,f_s,_,f_w,_,f_n,_,f_ao,_,f_a5,_,f_ak,_,f_ar,_,f_am,_,f_a,_,T_a,f_k,_,f_m,_,f_x,_,f_g,_,f_t,_,f_i,_,f_j,_,f_e,_,f_f,_,f_z,_,f_drawn,_,f_a8,_,f_ad,_,f_au,_,f_a1,_,f_an,_,f_l,_,f_h,_,f_p,_,f_v,_,f_seen,_,f_at,_,f_ay,_,f_a9,_,f_al,_,f_ag,_,f_aj,_,f_c,_,f_a3,_,f_a2,_,f_a4,_,f_ap,_,f_aa,_,f_ax,_,f_a6,_,f_az,_,f_ac,_,f_av,_,f_a0,_,f_ae,_,f_aq,_,f_a7,_,f_as,_,f_ai,_,f_law,_,C_bo,C_b,C_bp,C_af,C_r,C_d,C_u,D_ah⟩,⟨Zw X G g_b,Zw X G g_af,Zw X G g_r,Zw X G g_d,Zw X G g_u,F_o,bi_3 F_o,F_aw,bi_2 F_aw,F_y,bi_1 F_y,F_ab,bi_1 F_ab,F_q,bi_2 F_q,F_s,bi_1 F_s,F_w,bi_1 F_w,F_n,bi_2 F_n,Zw X G a_ao,F_ao,bi_2 F_ao,Zw X G a_a5,F_a5,bi_4 F_a5,Zw X G a_ak,F_ak,bi_3 F_ak,Zw X G a_ar,F_ar,bi_1 F_ar,F_am,bi_3 F_am,(xl8 (st:=s_a) l_a c_a k_a),(xl8 (st:=s_a) l_a c_a k_a).binds t_a rfl 7 rfl fun _ _ _ _ _ _ us hl=>xv5 us hl fun _ _ _ _ _ _ _=>⟨_,rfl,rfl⟩,F_k,bi_3 F_k,F_m,bi_1 F_m,F_x,bi_1 F_x,F_g,bi_2 F_g,F_t,bi_4 F_t,F_i,bi_2 F_i,F_j,bi_3 F_j,F_e,bi_4 F_e,F_f,bi_3 F_f,Zw X G a_z,F_z,bi_4 F_z,Zw X G a_drawn,F_drawn,bi_2 F_drawn,Zw X G a_a8,F_a8,bi_3 F_a8,Zw X G a_ad,F_ad,bi_2 F_ad,Zw X G a_au,F_au,bi_3 F_au,Zw X G a_a1,F_a1,bi_2 F_a1,F_an,bi_2 F_an,F_l,bi_2 F_l,F_h,bi_4 F_h,F_p,bi_4 F_p,F_v,bi_4 F_v,Zw X G a_seen,F_seen,bi_1 F_seen,Zw X G a_at,F_at,bi_1 F_at,Zw X G a_ay,F_ay,bi_1 F_ay,Zw X G a_a9,F_a9,bi_1 F_a9,Zw X G a_al,F_al,bi_2 F_al,Zw X G a_ag,F_ag,bi_2 F_ag,Zw X G a_aj,F_aj,bi_2 F_aj,Zw X G a_c,F_c,bi_2 F_c,Zw X G a_a3,F_a3,bi_1 F_a3,Zw X G a_a2,F_a2,bi_2 F_a2,Zw X G a_a4,F_a4,bi_5 F_a4,Zw X G a_ap,F_ap,bi_3 F_ap,Zw X G a_aa,F_aa,bi_1 F_aa,Zw X G a_ax,F_ax,bi_4 F_ax,Zw X G a_a6,F_a6,bi_2 F_a6,Zw X G a_az,F_az,bi_4 F_az,Zw X G a_ac,F_ac,bi_5 F_ac,Zw X G a_av,F_av,bi_4 F_av,Zw X G a_a0,F_a0,bi_4 F_a0,Zw X G a_ae,F_ae,bi_2 F_ae,Zw X G a_aq,F_aq,bi_2 F_aq,Zw X G a_a7,F_a7,bi_1 F_a7,Zw X G a_as,F_as,bi_1 F_as,Zw X G a_ai,F_ai,bi_2 F_ai,Zw X G a_law,F_law,⟨ov_b,hd_b,sa_b,ga_b,gh_b,ca_b,cg,ct⟩,mk_b,⟨mk_b,a_o,i_o,kc_b⟩,⟨pg_af,hd_af,po_af,sa_af⟩,⟨mk_af,a_LeftSide_init,i_aw,kc_af⟩,⟨a_y,i_y,F_y.kp⟩,⟨a_ab,i_ab,F_ab.kp⟩,⟨a_q,i_q,F_q.kp⟩,⟨pg_r,hd_r,po_r,sa_r⟩,⟨mk_r,a_RightSide_init,i_aw,kc_r⟩,⟨a_s,i_s,F_s.kp⟩,⟨a_w,i_w,F_w.kp⟩,⟨a_n,i_n,F_n.kp⟩,⟨pg_d,hd_d,po_d,sa_d⟩,⟨mk_d,a_am,i_am,kc_d⟩,⟨a_a,i_a,k_a⟩,⟨a_k,i_k,F_k.kp⟩,⟨a_m,i_m,F_m.kp⟩,⟨a_x,i_x,F_x.kp⟩,⟨a_g,i_g,F_g.kp⟩,⟨a_t,i_t,F_t.kp⟩,⟨a_i,i_i,F_i.kp⟩,⟨a_j,i_j,F_j.kp⟩,⟨a_e,i_e,F_e.kp⟩,⟨a_f,i_f,F_f.kp⟩,⟨pg_u,hd_u,po_u,sa_u⟩,⟨mk_u,a_an,i_an,kc_u⟩,⟨a_l,i_l,F_l.kp⟩,⟨a_h,i_h,F_h.kp⟩,⟨a_p,i_p,F_p.kp⟩,⟨a_v,i_v,F_v.kp⟩,cg,ct,n_bh,n_ba,n_bc,n_bb,n_bg,n_be,n_bd,n_bf,n_bi,n_bl,n_bm,ZV X G n_abs,ZV X G n_bool,ZV X G n_dict,ZV X G n_enumerate,ZV X G n_int,ZV X G n_isinstance,ZV X G n_len,ZV X G n_list,ZV X G n_max,ZV X G n_min,ZV X G n_range,ZV X G n_reversed,ZV X G n_sorted,ZV X G n_str,mro_b,⟨_,Zw X G v_bn⟩,⟨_,Zw X G v_bj⟩,⟨_,Zw X G v_bk⟩,Zw X G g_ah,⟨ns_ah,_,_,l_ah,.cons rfl ⟨_,rfl⟩ ⟨_,rfl⟩ (.cons rfl ⟨_,rfl⟩ ⟨_,rfl⟩ (.cons rfl ⟨_,rfl⟩ ⟨_,rfl⟩ (.nil))),by decide⟩⟩⟩
theorem mkS {N P:List Str}{sc:Scope} (a:sc.kind=.function:=by rfl) (b:sc.isCoroutine=false:=by rfl) (c:sc.isGenerator=false:=by rfl) (d:N.Nodup:=by decide +kernel) (e:N.take P.length=P:=by rfl) (f:∀ x∈P,sc.names.lookup x=some .local\/sc.names.lookup x=some .cell:=by decide +kernel) (g:∀ y∈sc.names,y.2≠.free:=by decide +kernel):xu N P sc:=⟨a,b,c,d,e,f,g⟩
theorem sc_o:xu ["self", "row", "column"] ["self", "row", "column"] (xo s_o):=mkS
theorem sc_aw:xu ["self", "width"] ["self", "width"] (xo s_aw):=mkS
theorem sc_y:xu ["self"] ["self"] (xo s_y):=mkS
theorem sc_ab:xu ["self"] ["self"] (xo s_ab):=mkS
theorem sc_q:xu ["self", "x"] ["self", "x"] (xo s_q):=mkS
theorem sc_s:xu ["self"] ["self"] (xo s_s):=mkS
theorem sc_w:xu ["self"] ["self"] (xo s_w):=mkS
theorem sc_n:xu ["self", "x"] ["self", "x"] (xo s_n):=mkS
theorem sc_ao:xu ["word", "width"] ["word", "width"] (xo s_ao):=mkS
theorem sc_a5:xu ["picture", "name", "side", "row", "x", "y", "toward", "down", "upright", "level"] ["picture", "name", "side", "row"] (xo s_a5):=mkS
theorem sc_ak:xu ["thing", "low", "high"] ["thing", "low", "high"] (xo s_ak):=mkS
theorem sc_ar:xu ["thing"] ["thing"] (xo s_ar):=mkS
theorem sc_am:xu ["self", "width", "height"] ["self", "width", "height"] (xo s_am):=mkS
theorem sc_a:xu ["self", "name", "x", "y", "sides", "low", "high", "highest"] ["self", "name", "x", "y", "sides", "low", "high"] (xo s_a):=mkS
theorem sc_k:xu ["self", "side", "row"] ["self", "side", "row"] (xo s_k):=mkS
theorem sc_m:xu ["self"] ["self"] (xo s_m):=mkS
theorem sc_x:xu ["self"] ["self"] (xo s_x):=mkS
theorem sc_g:xu ["self", "name"] ["self", "name"] (xo s_g):=mkS
theorem sc_t:xu ["self", "name", "side", "row", "x", "y"] ["self", "name", "side", "row"] (xo s_t):=mkS
theorem sc_i:xu ["self", "name"] ["self", "name"] (xo s_i):=mkS
theorem sc_j:xu ["self", "x", "y"] ["self", "x", "y"] (xo s_j):=mkS
theorem sc_e:xu ["self", "name", "x", "y", "others", "other"] ["self", "name", "x", "y"] (xo s_e):=mkS
theorem sc_f:xu ["self", "side", "row"] ["self", "side", "row"] (xo s_f):=mkS
theorem sc_z:xu ["width", "height", "points", "seats", "picture", "name", "x", "y", "sides", "low", "high", "side", "row"] ["width", "height", "points", "seats"] (xo s_z):=mkS
theorem xcx:xu ["picture", "pairs", "signs", "name", "x", "y", "sides", "low", "high"] ["picture", "pairs"] (xo xgq):=mkS
theorem sc_a8:xu ["signs", "width", "row"] ["signs", "width", "row"] (xo s_a8):=mkS
theorem sc_ad:xu ["picture", "pairs", "signs", "name", "side", "row", "x", "y", "cell"] ["picture", "pairs"] (xo s_ad):=mkS
theorem sc_au:xu ["cell", "x", "row"] ["cell", "x", "row"] (xo s_au):=mkS
theorem sc_a1:xu ["picture", "pairs", "width", "signs", "name", "side", "row"] ["picture", "pairs"] (xo s_a1):=mkS
theorem sc_an:xu ["self", "last_column"] ["self", "last_column"] (xo s_an):=mkS
theorem sc_l:xu ["self", "column"] ["self", "column"] (xo s_l):=mkS
theorem sc_h:xu ["self", "row", "column", "sign"] ["self", "row", "column", "sign"] (xo s_h):=mkS
theorem sc_p:xu ["self", "row", "column", "name", "places"] ["self", "row", "column", "name"] (xo s_p):=mkS
theorem sc_v:xu ["self", "row", "column", "sign", "letters"] ["self", "row", "column", "sign"] (xo s_v):=mkS
theorem xdd:xu ["rows", "letters", "row", "column", "sign", "name", "place", "picture", "pairs"] ["rows"] (xo xin):=mkS
theorem sc_at:xu ["rows", "row", "text"] ["rows"] (xo s_at):=mkS
theorem sc_ay:xu ["rows", "found", "row", "text"] ["rows"] (xo s_ay):=mkS
theorem sc_a9:xu ["place", "row", "column"] ["place"] (xo s_a9):=mkS
theorem sc_al:xu ["rows", "letters", "height", "points", "seats"] ["rows", "letters"] (xo s_al):=mkS
theorem sc_ag:xu ["rows", "drawing", "row", "column", "sign"] ["rows", "drawing"] (xo s_ag):=mkS
theorem sc_aj:xu ["_law_script", "_law_k"] ["_law_script", "_law_k"] (xo s_aj):=mkS
theorem sc_c:xu ["_law_cell", "_law_k", "_law_number"] ["_law_cell", "_law_k"] (xo s_c):=mkS
theorem sc_a3:xu ["_law_script", "_law_cell", "_law_width", "_law_height"] ["_law_script"] (xo s_a3):=mkS
theorem sc_a2:xu ["_law_script", "_law_height", "_law_cell", "_law_thick", "_law_seats_here", "_law_k", "_law_side", "_law_row"] ["_law_script", "_law_height"] (xo s_a2):=mkS
theorem sc_a4:xu ["_law_cell", "_law_name", "_law_x", "_law_y", "_law_height", "_law_sides", "_law_low", "_law_high", "_law_way"] ["_law_cell", "_law_name", "_law_x", "_law_y", "_law_height"] (xo s_a4):=mkS
theorem sc_ap:xu ["_law_cells", "_law_width", "_law_height", "_law_columns", "_law_rows", "_law_letters", "_law_points_here", "_law_cell", "_law_x", "_law_y", "_law_name"] ["_law_cells", "_law_width", "_law_height"] (xo s_ap):=mkS
theorem sc_aa:xu ["_law_height"] ["_law_height"] (xo s_aa):=mkS
theorem sc_ax:xu ["_law_cell", "_law_points_here", "_law_height", "_law_seats_here", "_law_free", "_law_pairs_here", "_law_k", "_law_point_here", "_law_side", "_law_row"] ["_law_cell", "_law_points_here", "_law_height", "_law_seats_here"] (xo s_ax):=mkS
theorem sc_a6:xu ["_law_width", "_law_side"] ["_law_width", "_law_side"] (xo s_a6):=mkS
theorem sc_az:xu ["_law_rim_here", "_law_x", "_law_y", "_law_row", "_law_found"] ["_law_rim_here", "_law_x", "_law_y", "_law_row"] (xo s_az):=mkS
theorem sc_ac:xu ["_law_width", "_law_height", "_law_points_here", "_law_seats_here", "_law_pairs_here", "_law_signs", "_law_name", "_law_side", "_law_row", "_law_x", "_law_y", "_law_cell", "_law_sign", "_law_point_here", "_law_rows"] ["_law_width", "_law_height", "_law_points_here", "_law_seats_here", "_law_pairs_here"] (xo s_ac):=mkS
theorem sc_av:xu ["_law_state", "_law_x", "_law_y", "_law_sign", "_law_good", "_law_seat"] ["_law_state", "_law_x", "_law_y", "_law_sign"] (xo s_av):=mkS
theorem sc_a0:xu ["_law_state", "_law_x", "_law_y", "_law_sign", "_law_inner", "_law_near"] ["_law_state", "_law_x", "_law_y", "_law_sign"] (xo s_a0):=mkS
theorem sc_ae:xu ["_law_state", "_law_rows", "_law_wide", "_law_at", "_law_row", "_law_x", "_law_sign", "_law_good"] ["_law_state", "_law_rows"] (xo s_ae):=mkS
theorem sc_aq:xu ["_law_state", "_law_rows", "_law_place", "_law_width", "_law_name", "_law_side", "_law_row", "_law_points_here", "_law_pairs_here", "_law_due", "_law_at", "_law_x", "_law_sign"] ["_law_state", "_law_rows"] (xo s_aq):=mkS
theorem sc_a7:xu ["_law_rows", "_law_found", "_law_place", "e"] ["_law_rows"] (xo s_a7):=mkS
theorem sc_as:xu ["_law_rows", "_law_state", "_law_due", "_law_found", "_law_place", "_law_inner", "_law_points_here"] ["_law_rows"] (xo s_as):=mkS
theorem sc_ai:xu ["_law_rows", "_law_cell", "_law_y", "_law_x", "_law_number", "_law_text", "_law_sign", "_law_line"] ["_law_rows", "_law_cell"] (xo s_ai):=mkS
theorem xc3:xu ["_law_script", "_law_width", "_law_height", "_law_seats_here", "_law_points_here", "_law_first_here", "_law_rows", "_law_cell"] ["_law_script"] (xo xnm):=mkS
end S74
namespace S74
open PySem L2 XL PyProof.Rows
theorem xck {K:Zd}{v:Value}:QX K v v=some true:=if_pos (by simp)
theorem xaa {H H':Hp}{p:Addr}{o:HO} (s:Same H H') (hp:H' p=none):Same H (L2.upd H' p o):=fun b u z=>by
 have z':=s b u z;rw[xg (xi z' hp)];exact z'
theorem su_e {H H':Hp}{p:Addr}{o:HO} (hp:H p=none) (e:L2.upd H p o=H'):Same H H':=e▸xaa (Same.refl _) hp
theorem ug_e {H H':Hp}{p:Addr}{o:HO} (e:L2.upd H p o=H'):H' p=some o:=e▸xh
theorem xb5 {n:Nat} (h:n<=1000):n<=sizeLine:=Z8 h (by decide)
theorem xa2 {n:Nat} (h:n<=1000):n<sizeLine:=Yi h (by decide)
theorem ne_f {H:Hp}{a b:Addr}{o u:HO} (h:H a=some o) (h':H b=some u) (d:o≠u:=by exact fun z=>nomatch z):a≠b:=xgj h h' d
theorem leS0:0<=sizeLine:=by decide
theorem leS1:1<=sizeLine:=by decide
theorem leS2:2<=sizeLine:=by decide
theorem leS3:3<=sizeLine:=by decide
theorem leS5:5<=sizeLine:=by decide
theorem leS6:6<=sizeLine:=by decide
theorem xrt {H:Hp}{x dx:Addr}{a b c:HO} (hx:H x=none) (hd:H dx=none):Same H (upd (upd (upd H dx a) x b) x c):=fun y o e=>by
 rw[xg (xi e hx),xg (xi e hx),xg (xi e hd)];exact e
def xax (b:Bool):Str:=if b then "left" else "right"
def xei (t:Adr) (H:Hp) (p:Addr) (b:Bool) (w:Int):Prop:=∃ dx,H p=some (.ins (if b then t.C_af else t.C_r) dx [("width",.int w)])
inductive xt8 (K:Zd) (vs:List V) (H:Hp) (Q:VK) (_:XK):Prop
 | mk (p C dx:Addr) (n:Int) (e_:vs=[.ref p,.int n]) (r_:H p=some (.ins C dx [])/\Cls K C/\xed K C "width"/\Q .non (upd H p (.ins C dx [("width",.int n)])))
inductive sp1 (v:V) (vs:List V) (H:Hp) (Q:VK) (_:XK):Prop
 | mk (p:V) (e_:vs=[p]) (r_:Q v H)
inductive xvv (vs:List V) (H:Hp) (Q:VK) (_:XK):Prop
 | mk (p:V) (x:V) (e_:vs=[p,x]) (r_:Q x H)
inductive xri (t:Adr) (vs:List V) (H:Hp) (Q:VK) (_:XK):Prop
 | mk (p:Addr) (n:Int) (e_:vs=[.ref p]) (r_:xei t H p false n/\Q (.int (n+1)) H)
inductive xvk (t:Adr) (vs:List V) (H:Hp) (Q:VK) (_:XK):Prop
 | mk (p:Addr) (n x:Int) (e_:vs=[.ref p,.int x]) (r_:xei t H p false n/\Q (.int (n+1-x)) H)
inductive xhe (t:Adr) (vs:List V) (H:Hp) (Q:VK) (_:XK):Prop
 | mk (b:Bool) (n:Int) (e_:vs=[.str (xax b),.int n]) (r_:∀ p H',H p=none->xei t H' p b n->Same H H'->Q (.ref p) H')
section
variable {P:Program}{w:World}{K:Zd}{mg:Str->Option Value}{base:Heap}{t:Adr}
theorem ok_aw (T:Txt w K mg t):FnOk true P w K mg base (CXo P w) 1 t.f_aw t.d_aw ["self", "width"] (xt8 K):=by
 refine T.F_aw.okn (k:=0) sc_aw (fun vs H Q E h=>?_) (fun cdv A outer s H vs Q E hr h=>?_)
 .obtain ⟨p,C,dx,n,rfl,_⟩:=h;rfl
 .obtain ⟨p,C,dx,n,rfl,h⟩:=h;refine⟨_,xk (xdz (pv 0) (pv 1) rfl),?_⟩;obtain⟨hp,c,na,q⟩:=h;exact⟨_,rfl,_,rfl,p,C,dx,[],rfl,hp,c,na,(by show 0<1000; decide),q⟩
theorem ok_y (T:Txt w K mg t):FnOk true P w K mg base (CXo P w) 1 t.f_y t.d_y ["self"] (sp1 (.int 0)):=by
 refine T.F_y.okn (k:=0) sc_y (fun vs H Q E h=>?_) (fun cdv A outer s H vs Q E hr h=>?_)
 .obtain ⟨p,rfl,_⟩:=h;rfl
 .obtain ⟨p,rfl,h⟩:=h;refine⟨_,xk (xz (xm)),?_⟩;exact h
theorem ok_ab (T:Txt w K mg t):FnOk true P w K mg base (CXo P w) 1 t.f_ab t.d_ab ["self"] (sp1 (.int (-1))):=by
 refine T.F_ab.okn (k:=0) sc_ab (fun vs H Q E h=>?_) (fun cdv A outer s H vs Q E hr h=>?_)
 .obtain ⟨p,rfl,_⟩:=h;rfl
 .obtain ⟨p,rfl,h⟩:=h;refine⟨_,xk (xz (xrn xpf (xm))),?_⟩;exact⟨1,rfl,h⟩
theorem ok_q (T:Txt w K mg t):FnOk true P w K mg base (CXo P w) 1 t.f_q t.d_q ["self", "x"] (xvv):=by
 refine T.F_q.okn (k:=0) sc_q (fun vs H Q E h=>?_) (fun cdv A outer s H vs Q E hr h=>?_)
 .obtain ⟨p,x,rfl,_⟩:=h;rfl
 .obtain ⟨p,x,rfl,h⟩:=h;refine⟨_,xk (xz (pv 1)),?_⟩;exact⟨_,rfl,h⟩
theorem ok_w (T:Txt w K mg t):FnOk true P w K mg base (CXo P w) 1 t.f_w t.d_w ["self"] (sp1 (.int 1)):=by
 refine T.F_w.okn (k:=0) sc_w (fun vs H Q E h=>?_) (fun cdv A outer s H vs Q E hr h=>?_)
 .obtain ⟨p,rfl,_⟩:=h;rfl
 .obtain ⟨p,rfl,h⟩:=h;refine⟨_,xk (xz (xm)),?_⟩;exact h
theorem ok_s (T:Txt w K mg t):FnOk true P w K mg base (CXo P w) 1 t.f_s t.d_s ["self"] (xri t):=by
 refine T.F_s.okn (k:=0) sc_s (fun vs H Q E h=>?_) (fun cdv A outer s H vs Q E hr h=>?_)
 .obtain ⟨p,n,rfl,_⟩:=h;rfl
 .obtain ⟨p,n,rfl,h⟩:=h;refine⟨_,xk (xz (xt xai (xae (pv 0) rfl) (xm))),?_⟩;obtain⟨⟨dx,hp⟩,q⟩:=h;exact⟨_,rfl,p,t.C_r,dx,_,_,rfl,hp,T.c_r,T.n_bh,rfl,_,_,rfl,rfl,q⟩
theorem ok_n (T:Txt w K mg t):FnOk true P w K mg base (CXo P w) 1 t.f_n t.d_n ["self", "x"] (xvk t):=by
 refine T.F_n.okn (k:=0) sc_n (fun vs H Q E h=>?_) (fun cdv A outer s H vs Q E hr h=>?_)
 .obtain ⟨p,n,x,rfl,_⟩:=h;rfl
 .obtain ⟨p,n,x,rfl,h⟩:=h;refine⟨_,xk (xz (xt xdq (xt xai (xae (pv 0) rfl) (xm)) (pv 1))),?_⟩;obtain⟨⟨dx,hp⟩,q⟩:=h;exact⟨_,rfl,p,t.C_r,dx,_,_,rfl,hp,T.c_r,T.n_bh,rfl,_,_,rfl,rfl,_,rfl,_,_,rfl,rfl,q⟩
theorem ok_ao (T:Txt w K mg t):FnOk true P w K mg base (CXo P w) 3 t.f_ao t.d_ao ["word", "width"] (xhe t):=by
 refine T.F_ao.okn (k:=2) sc_ao (fun vs H Q E h=>?_) (fun cdv A outer s H vs Q E hr h=>?_)
 .obtain ⟨b,n,rfl,_⟩:=h;rfl
 .obtain ⟨b,n,rfl,h⟩:=h;refine⟨_,xj (xad (xay (x5 xcj rfl T.n_isinstance boot_isinstance (xb (pv 0) (xb (xdb (v:=.ty "str") rfl T.n_str boot_str rfl) (xf))))) (xj (xad (x6 xbh (pv 0) (xw) (x8 _)) (xk (xz (xgp T.k_af (ok_aw T) (hmm hr) rfl T.g_af T.b_aw .nil xn (xb (pv 1) (xf))))) (x4))
   (xk (xad (x6 xbh (pv 0) (xw) (x8 _)) (xk (xz (xgp T.k_r (ok_aw T) (hmm hr) rfl T.g_r T.b_aw .nil xn (xb (pv 1) (xf))))) (x4)))) (x4))
   (xk (xbb)),?_⟩
  cases b with
  | true =>
   refine⟨_,rfl,_,_,rfl,.inl ⟨_,_,true,.str _,rfl,xck,true,rfl,iteT ?_⟩⟩;refine⟨_,rfl,rfl,_,rfl,?_⟩;refine ifP (by decide +kernel) ?_;exact⟨_,rfl,fun x dx hx hdx ne=>⟨x,t.C_af,dx,n,rfl,xh,T.c_af,T.n_bm,rfl,h x _ hx ⟨dx,xh⟩ (xrt hx hdx)⟩⟩
  | false =>
   refine⟨_,rfl,_,_,rfl,.inl ⟨_,_,true,.str _,rfl,xck,true,rfl,iteT ?_⟩⟩;refine⟨_,rfl,rfl,_,rfl,?_⟩;refine ifN (by decide +kernel) ?_;refine⟨_,rfl,rfl,_,rfl,?_⟩;refine ifP (by decide +kernel) ?_;exact⟨_,rfl,fun x dx hx hdx ne=>⟨x,t.C_r,dx,n,rfl,xh,T.c_r,T.n_bh,rfl,h x _ hx ⟨dx,xh⟩ (xrt hx hdx)⟩⟩
def isNm (x:Str):Bool:=decide (x.length=1)&&(!decide (x.cps.toList<[97])&&!decide ([122]<x.cps.toList))
inductive xv3 (vs:List V) (H:Hp) (Q:VK) (_:XK):Prop
 | mk (i lo hi:Int) (e_:vs=[.int i,.int lo,.int hi]) (r_:lo<=i/\i<=hi/\Q (.bl true) H)
inductive xwr (vs:List V) (H:Hp) (Q:VK) (_:XK):Prop
 | mk (x:Str) (e_:vs=[.str x]) (r_:isNm x=true/\Q (.bl true) H)
theorem xnf:("a":Str).cps.toList=[97]:=by decide +kernel
theorem xrv:("z":Str).cps.toList=[122]:=by decide +kernel
theorem ok_ak (T:Txt w K mg t):FnOk true P w K mg base (CXo P w) 1 t.f_ak t.d_ak ["thing", "low", "high"] (xv3):=by
 refine T.F_ak.okn (k:=0) sc_ak (fun vs H Q E h=>?_) (fun cdv A outer s H vs Q E hr h=>?_)
 .obtain ⟨i,lo,hi,rfl,_⟩:=h;rfl
 .obtain ⟨i,lo,hi,rfl,h⟩:=h;refine⟨_,xk (xz (xcm (x5 xcj rfl T.n_isinstance boot_isinstance (xb (pv 0) (xb (xdb (v:=.ty "int") rfl T.n_int boot_int rfl) (xf)))) (xcm (xu7 (x5 xcj rfl T.n_isinstance boot_isinstance (xb (pv 0) (xb (xdb (v:=.ty "bool") rfl T.n_bool boot_bool rfl) (xf))))) (xc5 (xha xgm xgm (pv 1) (pv 0) (pv 2)))))),?_⟩;obtain⟨c1,c2,q⟩:=h;refine⟨_,rfl,_,_,rfl,.inl ⟨_,_,true,.int i,rfl,xck,true,rfl,iteT ?_⟩⟩;refine⟨_,rfl,_,_,rfl,.inl ⟨_,_,false,.int i,rfl,(by rfl),false,rfl,true,rfl,iteT ?_⟩⟩;refine⟨_,rfl,_,rfl,_,_,rfl,rfl,_,rfl,ite2 (fun c=>?_) (fun c=>?_)⟩
  .refine ⟨_,rfl,_,_,rfl,rfl,?_⟩;show Q (.bl (decide (i<=hi))) H;rw[decide_eq_true c2];exact q
  .exact absurd (decide_eq_true c1) c
theorem ok_ar (T:Txt w K mg t):FnOk true P w K mg base (CXo P w) 1 t.f_ar t.d_ar ["thing"] (xwr):=by
 refine T.F_ar.okn (k:=0) sc_ar (fun vs H Q E h=>?_) (fun cdv A outer s H vs Q E hr h=>?_)
 .obtain ⟨x,rfl,_⟩:=h;rfl
 .obtain ⟨x,rfl,h⟩:=h;refine⟨_,xk (xz (xcm (x5 xcj rfl T.n_isinstance boot_isinstance (xb (pv 0) (xb (xdb (v:=.ty "str") rfl T.n_str boot_str rfl) (xf)))) (xcm (xcf xbh (x5 xa7 rfl T.n_len Ju (xb (pv 0) (xf))) (xm) (x8 _)) (xc5 (xha xen xen (xw) (pv 0) (xw)))))),?_⟩;obtain⟨hn,q⟩:=h;unfold isNm at hn;simp only[Zs,decide_eq_true_eq,Ya,decide_eq_false_iff_not] at hn;obtain⟨l1,n1,n2⟩:=hn;refine⟨_,rfl,_,_,rfl,.inl ⟨_,_,true,.str x,rfl,xck,true,rfl,iteT ?_⟩⟩;refine⟨_,rfl,_,rfl,(by rw[l1]; decide),rfl,_,rfl,ite2 (fun c=>?_) (fun c=>?_)⟩
  .refine ⟨_,rfl,_,_,rfl,rfl,_,rfl,ite2 (fun d=>?_) (fun d=>?_)⟩
   .refine ⟨_,_,rfl,rfl,?_⟩;rw[xrv,decide_eq_false n2];exact q
   .rw [xnf,decide_eq_false n1] at d;exact absurd rfl d
  .exact absurd (decide_eq_true (by rw[l1]; rfl)) c
structure Pt where
 nm:Str
 x:Int
 y:Int
 sd:Str
 lo:Int
 hi:Int
def ptV (p:Pt):List V:=[.int p.x,.int p.y,.str p.sd,.int p.lo,.int p.hi]
inductive Pl (H:Hp):List Pt->List (Key × V)->Prop
 | nil:Pl H [] []
 | cons {p:Pt}{q:Addr}{ps:List Pt}{kvs:List (Key × V)} (h:H q=some (.tup (ptV p))) (r:Pl H ps kvs):Pl H (p::ps) ((.inr p.nm,.ref q)::kvs)
inductive PtsL (H:Hp):List Pt->List Addr->Prop
 | nil:PtsL H [] []
 | cons {p:Pt}{q:Addr}{ps:List Pt}{qs:List Addr} (h:H q=some (.tup (.str p.nm::ptV p))) (r:PtsL H ps qs):PtsL H (p::ps) (q::qs)
theorem xvm {Z:L2.St}{H:Hp}{A B:Hp->Prop} (h:A H):xdh Z H (fun b H4=>if b=true then A H4 else B H4):=by
 show if true=true then A H else B H
 rw[if_pos rfl];exact h
theorem xwm {i:Nat}{v:V}{Z:L2.St}{H:Hp}{A B:L2.St->Hp->Prop} (h:A (Z.set i (some v)) H):xc7 i v Z H (fun σ' H'=>xdh σ' H' fun b H4=>if b=true then A σ' H4 else B σ' H4):=by
 show if true=true then A (Z.set i (some v)) H else B (Z.set i (some v)) H
 rw[if_pos rfl];exact h
def Tups (H H':Hp):Prop:=∀ b xs,H b=some (.tup xs)->H' b=some (.tup xs)
theorem Pl.keep {H H':Hp} (s:Tups H H') {ps:List Pt}{kvs:List (Key × V)} (h:Pl H ps kvs):Pl H' ps kvs:=by
 induction h with
 | nil=>exact .nil
 | cons h _ ih=>exact .cons (s _ _ h) ih
theorem PtsL.keep {H H':Hp} (s:Tups H H') {ps:List Pt}{qs:List Addr} (h:PtsL H ps qs):PtsL H' ps qs:=by
 induction h with
 | nil=>exact .nil
 | cons h _ ih=>exact .cons (s _ _ h) ih
theorem Pl.len {H:Hp}{ps:List Pt}{kvs:List (Key × V)} (h:Pl H ps kvs):kvs.length=ps.length:=by
 induction h with
 | nil=>rfl
 | cons _ _ ih=>simp[ih]
theorem PtsL.len {H:Hp}{ps:List Pt}{qs:List Addr} (h:PtsL H ps qs):qs.length=ps.length:=by
 induction h with
 | nil=>rfl
 | cons _ _ ih=>simp[ih]
theorem Pl.find {H:Hp}{ps:List Pt}{kvs:List (Key × V)} (h:Pl H ps kvs) {nm:Str}{pt:Pt} (e:ps.find? (fun p=>decide (p.nm=nm))=some pt):∃ q,valV kvs (.inr nm)=some (.ref q)/\H q=some (.tup (ptV pt)):=by
 induction h with
 | nil=>simp at e
 | @cons p q ps kvs h _ ih =>
  by_cases c:p.nm=nm
  .rw [QD (by simpa using c)] at e;cases e;exact⟨q,xaq (by rw[c]),h⟩
  .rw [QE (by simpa using c)] at e;obtain⟨q',h1,h2⟩:=ih e;exact⟨q',by rw[xao (fun z=>c (Jl.inj z))]; exact h1,h2⟩
theorem Pl.no {H:Hp}{ps:List Pt}{kvs:List (Key × V)} (h:Pl H ps kvs) {nm:Str} (e:∀ p∈ps,p.nm≠nm):valV kvs (.inr nm)=none:=by
 induction h with
 | nil=>rfl
 | @cons p q ps kvs h _ ih =>
  rw[xao (fun z=>e p Zv (Jl.inj z))];exact ih fun p' hp=>e p' (Zt _ hp)
theorem Pl.get {H:Hp}{ps:List Pt}{kvs:List (Key × V)} (h:Pl H ps kvs) {i:Nat}{k:Key}{x:V} (e:kvs[i]?=some (k,x)):∃ p q,ps[i]?=some p/\k=.inr p.nm/\x=.ref q/\H q=some (.tup (ptV p)):=by
 induction h generalizing i with
 | nil=>simp at e
 | @cons p q ps kvs h _ ih =>
  cases i with
  | zero =>
   simp at e;exact⟨p,q,rfl,e.1.symm,e.2.symm,h⟩
  | succ j=>exact ih (by simpa using e)
theorem PtsL.get {H:Hp}{ps:List Pt}{qs:List Addr} (h:PtsL H ps qs) {i:Nat}{q:Addr} (e:qs[i]?=some q):∃ p,ps[i]?=some p/\H q=some (.tup (.str p.nm::ptV p)):=by
 induction h generalizing i with
 | nil=>simp at e
 | @cons p q' ps qs h _ ih =>
  cases i with
  | zero =>
   simp at e;subst e;exact⟨p,rfl,h⟩
  | succ j=>exact ih (by simpa using e)
theorem Pl.snoc {H:Hp}{ps:List Pt}{kvs:List (Key × V)} (h:Pl H ps kvs) {p:Pt}{q:Addr} (e:H q=some (.tup (ptV p))):Pl H (ps++[p]) (kvs++[(.inr p.nm,.ref q)]):=by
 induction h with
 | nil=>exact .cons e .nil
 | cons h _ ih=>exact .cons h ih
theorem PtsL.snoc {H:Hp}{ps:List Pt}{qs:List Addr} (h:PtsL H ps qs) {p:Pt}{q:Addr} (e:H q=some (.tup (.str p.nm::ptV p))):PtsL H (ps++[p]) (qs++[q]):=by
 induction h with
 | nil=>exact .cons e .nil
 | cons h _ ih=>exact .cons h ih
abbrev picF (w h:Int) (dp do_:Addr):List (Str × V):=[("width",.int w),("height",.int h),("placed",.ref dp),("opened",.ref do_)]
structure Pic (t:Adr) (H:Hp) (a dp do_:Addr) (w h:Int) (ps:List Pt):Prop where
 ins:∃ dx,H a=some (.ins t.C_d dx (picF w h dp do_))
 pl:∃ kvs,H dp=some (.dK kvs)/\Pl H ps kvs
 w1:1<=w
 w2:w<=30
 h1:1<=h
 h2:h<=16
 len:ps.length<=12
theorem Same.tups {H H':Hp} (s:Same H H'):Tups H H':=fun b xs e=>s b _ e
theorem Pic.same {t:Adr}{H H':Hp}{a dp do_:Addr}{w h:Int}{ps:List Pt} (s:Same H H') (p:Pic t H a dp do_ w h ps):Pic t H' a dp do_ w h ps :=
 ⟨let ⟨dx,e⟩:=p.ins; ⟨dx,s _ _ e⟩,let ⟨kvs,e,q⟩:=p.pl; ⟨kvs,s _ _ e,q.keep (Same.tups s)⟩,p.w1,p.w2,p.h1,p.h2,p.len⟩
theorem xbl {w h:Int}{dp do_:Addr}{m:Str} (e:((["width", "height", "placed", "opened"]:List Str).all fun k=>!(m == k))=true):(picF w h dp do_).lookup m=none:=by
 simp only[Qv,List.all_nil,Zs,Ya] at e;obtain⟨e1,e2,e3,e4,_⟩:=e;unfold picF;rw[Zz,e1];show Jd m [("height",V.int h),("placed",V.ref dp),("opened",V.ref do_)]=none;rw[Zz,e2];show Jd m [("placed",V.ref dp),("opened",V.ref do_)]=none;rw[Zz,e3];show Jd m [("opened",V.ref do_)]=none;rw[Zz,e4];rfl
theorem lkW {w h:Int}{dp do_:Addr}:(picF w h dp do_).lookup ("width":Str)=some (.int w):=by
 unfold picF;rw[Zz,show (("width":Str) == "width")=true from by decide +kernel]
theorem lkH {w h:Int}{dp do_:Addr}:(picF w h dp do_).lookup ("height":Str)=some (.int h):=by
 unfold picF;rw[Zz,show (("height":Str) == "width")=false from by decide +kernel];show Jd ("height":Str) [("height",V.int h),("placed",V.ref dp),("opened",V.ref do_)]=_;rw[Zz,show (("height":Str) == "height")=true from by decide +kernel]
theorem lkP {w h:Int}{dp do_:Addr}:(picF w h dp do_).lookup ("placed":Str)=some (.ref dp):=by
 unfold picF;rw[Zz,show (("placed":Str) == "width")=false from by decide +kernel];show Jd ("placed":Str) [("height",V.int h),("placed",V.ref dp),("opened",V.ref do_)]=_;rw[Zz,show (("placed":Str) == "height")=false from by decide +kernel];show Jd ("placed":Str) [("placed",V.ref dp),("opened",V.ref do_)]=_;rw[Zz,show (("placed":Str) == "placed")=true from by decide +kernel]
inductive xte (t:Adr) (vs:List V) (H:Hp) (Q:VK) (_:XK):Prop
 | mk (p dx:Addr) (w h:Int) (e_:vs=[.ref p,.int w,.int h]) (r_:H p=some (.ins t.C_d dx [])/\1<=w/\w<=30/\1<=h/\h<=16/\∀ H' dp do_,H dp=none->H do_=none->(∀ b u,b≠p->H b=some u->H' b=some u)->Pic t H' p dp do_ w h []->H' do_=some (.dT [])->Q .non H')
inductive spCN (t:Adr) (vs:List V) (H:Hp) (Q:VK) (_:XK):Prop
 | mk (a dp do_:Addr) (pw ph:Int) (ps:List Pt) (nm:Str) (pt:Pt) (e_:vs=[.ref a,.str nm]) (r_:Pic t H a dp do_ pw ph ps/\isNm nm=true/\ps.find? (fun p=>decide (p.nm=nm))=some pt/\Q .non H)
inductive spCC (t:Adr) (vs:List V) (H:Hp) (Q:VK) (_:XK):Prop
 | mk (a dp do_:Addr) (pw ph:Int) (ps:List Pt) (x y:Int) (e_:vs=[.ref a,.int x,.int y]) (r_:Pic t H a dp do_ pw ph ps/\1<=x/\x<=pw/\1<=y/\y<=ph/\Q .non H)
inductive xv2 (t:Adr) (vs:List V) (H:Hp) (Q:VK) (_:XK):Prop
 | mk (a dp do_:Addr) (pw ph:Int) (ps:List Pt) (e_:vs=[.ref a]) (r_:Pic t H a dp do_ pw ph ps/\∀ H' l qs,Same H H'->H' l=some (.lst (qs.map V.ref))->PtsL H' ps qs->Q (.ref l) H')
inductive spCL (t:Adr) (vs:List V) (H:Hp) (Q:VK) (_:XK):Prop
 | mk (a dp do_:Addr) (pw ph:Int) (ps:List Pt) (nm:Str) (x y:Int) (e_:vs=[.ref a,.str nm,.int x,.int y]) (r_:Pic t H a dp do_ pw ph ps/\(∀ p∈ps,p.nm≠nm->p.x≠x/\p.y≠y)/\∀ H',Same H H'->Q .non H')
inductive spCS (t:Adr) (vs:List V) (H:Hp) (Q:VK) (_:XK):Prop
 | mk (a dp do_:Addr) (pw ph:Int) (ps:List Pt) (b:Bool) (r:Int) (e_:vs=[.ref a,.str (xax b),.int r]) (r_:Pic t H a dp do_ pw ph ps/\1<=r/\r<=ph/\∀ H',Same H H'->Q .non H')
inductive xwo (t:Adr) (vs:List V) (H:Hp) (Q:VK) (_:XK):Prop
 | mk (a dp do_:Addr) (pw ph:Int) (ps:List Pt) (nm:Str) (x y:Int) (sd:Str) (lo hi:Int) (hv:V) (e_:vs=[.ref a,.str nm,.int x,.int y,.str sd,.int lo,hv]) (r_:Pic t H a dp do_ pw ph ps/\((hv=.non/\hi=ph)\/hv=.int hi)/\isNm nm=true/\1<=x/\x<=pw/\1<=y/\y<=ph/\(sd="left"\/sd="right"\/sd="both")/\1<=lo/\lo<=hi/\hi<=ph/\(∀ p∈ps,p.nm≠nm/\p.x≠x/\p.y≠y)/\ps.length<12/\∀ H',(∀ b u,b≠dp->H b=some u->H' b=some u)->Pic t H' a dp do_ pw ph (ps++[⟨nm,x,y,sd,lo,hi⟩])->Q .non H')
inductive xwy (t:Adr) (vs:List V) (H:Hp) (Q:VK) (_:XK):Prop
 | mk (a dp do_:Addr) (pw ph:Int) (ps:List Pt) (nm:Str) (pt:Pt) (e_:vs=[.ref a,.str nm]) (r_:Pic t H a dp do_ pw ph ps/\isNm nm=true/\ps.find? (fun p=>decide (p.nm=nm))=some pt/\∀ H' q,Same H H'->H' q=some (.tup [.int pt.x,.int pt.y])->Q (.ref q) H')
def lenI (w x y:Int) (b:Bool) (r:Int):Int:=(if b then x else w+1-x)+(if y-r<0 then -(y-r) else y-r)
inductive xwe (t:Adr) (vs:List V) (H:Hp) (Q:VK) (_:XK):Prop
 | mk (a dp do_:Addr) (pw ph:Int) (ps:List Pt) (nm:Str) (pt:Pt) (b:Bool) (r:Int) (e_:vs=[.ref a,.str nm,.str (xax b),.int r]) (r_:Pic t H a dp do_ pw ph ps/\isNm nm=true/\ps.find? (fun p=>decide (p.nm=nm))=some pt/\1<=r/\r<=ph/\∀ H',Same H H'->Q (.int (lenI pw pt.x pt.y b r)) H')
theorem ok_am (T:Txt w K mg t):FnOk true P w K mg base (CXo P w) 2 t.f_am t.d_am ["self", "width", "height"] (xte t):=by
 refine T.F_am.okn (k:=1) sc_am (fun vs H Q E h=>?_) (fun cdv A outer s H vs Q E hr h=>?_)
 .obtain ⟨p,dx,pw,ph,rfl,_⟩:=h;rfl
 .obtain ⟨p,dx,pw,ph,rfl,h⟩:=h;refine⟨_,xj (xad (PW.pt (xb9 (xbn (xay (xr (ok_ak T) (hmm hr) rfl T.g_ak T.F_ak.kp T.b_ak .nil xn (xb (pv 1) (xb (xm) (xb (xdx (v:=.int 30) rfl T.v_bj.choose_spec ⟨_,rfl⟩) (xf))))))) (xca (xbn (xay (xr (ok_ak T) (hmm hr) rfl T.g_ak T.F_ak.kp T.b_ak .nil xn (xb (pv 2) (xb (xm) (xb (xdx (v:=.int 16) rfl T.v_bn.choose_spec ⟨_,rfl⟩) (xf)))))))))) (xk (xbb)) (x4))
   (xj (xdz (pv 0) (pv 1) rfl)
   (xj (xdz (pv 0) (pv 2) rfl)
   (xj (xdz (pv 0) (xec) rfl)
   (xk (xdz (pv 0) (xg9) rfl))))),?_⟩
  obtain⟨hp,w1,w2,h1,h2,q⟩:=h;refine⟨_,rfl,pw,1,30,rfl,w1,w2,true,rfl,iteF ⟨_,rfl,ph,1,16,rfl,h1,h2,true,rfl,iteF ?_⟩⟩;refine⟨_,rfl,_,rfl,p,_,dx,_,rfl,hp,T.c_d,T.n_bb,(by show 0<1000; decide),?_⟩;refine⟨_,rfl,_,rfl,p,_,dx,_,rfl,xh,T.c_d,T.n_bc,(by show 1<1000; decide),?_⟩;rw[xe3];refine fun dp hdp=>?_;have n1:p≠dp:=xi xh hdp;refine⟨_,rfl,p,_,dx,_,rfl,(by rw[xg n1]; exact xh),T.c_d,T.n_ba,(by show 2<1000; decide),fun do_ hdo=>?_⟩;have n2:p≠do_:=xi xh hdo;have n3:dp≠do_:=xi (by rw[xg (ZE n1)]; exact xh) hdo;refine⟨_,rfl,p,_,dx,_,rfl,(by rw[xg n2]; exact xh),T.c_d,T.n_bg,(by show 3<1000; decide),?_⟩;rw[xg (ZE n1)] at hdp;have hdo':H do_=none:=by
   have z:=hdo;rw[xg (ZE n2),xg (ZE n3),xg (ZE n2)] at z;exact z
  refine q _ dp do_ hdp hdo' (fun b u nb e=>?_) ⟨⟨dx,xh⟩,⟨[],?_,.nil⟩,w1,w2,h1,h2,ZZ _⟩ ?_
  .have c1:b≠dp:=xi e hdp;have c2:b≠do_:=fun z=>by
    subst z;rw[xg nb,xg c1,xg nb] at hdo;rw[e] at hdo;cases hdo
   rw[xg nb,xg c2,xg nb,xg c1,xg nb];exact e
  .rw [xg (ZE n1),xg n3,xg (ZE n1)];exact xh
  .rw [xg (ZE n2)];exact xh
theorem ok_i (T:Txt w K mg t):FnOk true P w K mg base (CXo P w) 2 t.f_i t.d_i ["self", "name"] (spCN t):=by
 refine T.F_i.okn (k:=1) sc_i (fun vs H Q E h=>?_) (fun cdv A outer s H vs Q E hr h=>?_)
 .obtain ⟨a,dp,do_,pw,ph,ps,nm,pt,rfl,_⟩:=h;rfl
 .obtain ⟨a,dp,do_,pw,ph,ps,nm,pt,rfl,h⟩:=h;refine⟨_,xk (xad (PW.pt (xb9 (xbn (xay (xr (ok_ar T) (hmm hr) rfl T.g_ar T.F_ar.kp T.b_ar .nil xn (xb (pv 1) (xf))))) (xca (xdg (xde (xag hr) (pv 1) (xae (pv 0) rfl)))))) (xk (xbb)) (x4)),?_⟩;obtain⟨pic,hn,hf,q⟩:=h;obtain⟨⟨dx,hp⟩,⟨kvs,hk,pl⟩,_⟩:=id pic;obtain⟨q0,e,_⟩:=pl.find hf;exact⟨_,rfl,nm,rfl,hn,true,rfl,iteF ⟨_,rfl,_,rfl,a,_,dx,_,_,rfl,hp,T.c_d,T.n_ba,lkP,dp,some (.ref q0),rfl,(by rw[<- e]; exact DGet.k (k:=.inr nm) hk),false,rfl,iteF q⟩⟩
theorem ok_j (T:Txt w K mg t):FnOk true P w K mg base (CXo P w) 2 t.f_j t.d_j ["self", "x", "y"] (spCC t):=by
 refine T.F_j.okn (k:=1) sc_j (fun vs H Q E h=>?_) (fun cdv A outer s H vs Q E hr h=>?_)
 .obtain ⟨a,dp,do_,pw,ph,ps,x,y,rfl,_⟩:=h;rfl
 .obtain ⟨a,dp,do_,pw,ph,ps,x,y,rfl,h⟩:=h;refine⟨_,xk (xad (PW.pt (xb9 (xbn (xay (xr (ok_ak T) (hmm hr) rfl T.g_ak T.F_ak.kp T.b_ak .nil xn (xb (pv 1) (xb (xm) (xb (xae (pv 0) rfl) (xf))))))) (xca (xbn (xay (xr (ok_ak T) (hmm hr) rfl T.g_ak T.F_ak.kp T.b_ak .nil xn (xb (pv 2) (xb (xm) (xb (xae (pv 0) rfl) (xf)))))))))) (xk (xbb)) (x4)),?_⟩;obtain⟨pic,x1,x2,y1,y2,q⟩:=h;obtain⟨⟨dx,hp⟩,_,_⟩:=id pic;exact⟨_,rfl,_,rfl,a,_,dx,_,_,rfl,hp,T.c_d,T.n_bb,lkW,x,1,pw,rfl,x1,x2,true,rfl,iteF ⟨_,rfl,_,rfl,a,_,dx,_,_,rfl,hp,T.c_d,T.n_bc,lkH,y,1,ph,rfl,y1,y2,true,rfl,iteF q⟩⟩
theorem ok_m (T:Txt w K mg t):FnOk true P w K mg base (CXo P w) 1 t.f_m t.d_m ["self"] (xv2 t):=by
 refine T.F_m.okn (k:=0) sc_m (fun vs H Q E h=>?_) (fun cdv A outer s H vs Q E hr h=>?_)
 .obtain ⟨a,dp,do_,pw,ph,ps,rfl,_⟩:=h;rfl
 .obtain ⟨a,dp,do_,pw,ph,ps,rfl,h⟩:=h;refine⟨_,xk (xz (xmz (xbx rfl (xaw (zs:=["name", "rest"]) (ys:=[]) (fr:=[]) (N0:=["self"]) (sc0:=xo s_m) (by decide +kernel) rfl rfl rfl) (xc8 (xae (pv 0) rfl)) (fun _ _ _ _ _ ow nd=>(xaf rfl (xq (xp (i:=0) nd rfl (Zn (ow _ (by simp))) (ZX (ow _ (by simp)))) (xq (xp (i:=1) nd rfl (Zn (ow _ (by simp))) (ZX (ow _ (by simp)))) (xab))):PG _ _ (gTup K 2 _))) (xdc (xbc (by decide) (xbc (by decide) (xco)))) (fun _ _ _ _ _=>xbf) (fun _ _ _ _ _=>xt (r:=xna K) xl3 (x9 (xb (pv 0) (xf))) (pv 1))))),?_⟩;obtain⟨pic,q⟩:=h;obtain⟨⟨dx,hp⟩,⟨kvs,hk,pl⟩,_⟩:=id pic;refine⟨_,rfl,a,_,dx,_,_,rfl,hp,T.c_d,T.n_ba,lkP,dp,kvs,rfl,hk,fun ob nf l hl=>?_⟩;have nl:l≠dp:=fun z=>by
   rw[z,xh] at hl;cases hl
  have hl0:H l=none:=by rwa [xg nl] at hl
  refine xcp kvs.length (fun i xs H2=>∃ qs:List Addr,xs=qs.map V.ref/\qs.length<=i/\H2 dp=some (.frz ob (.dK kvs))/\(∀ b u,b≠dp->H b=some u->H2 b=some u)/\H2 l=some (.lst xs)/\PtsL H2 (ps.take i) qs) ?_ ?_ ?_ ?_
  .refine ⟨[],rfl,Zl _,?_,fun b u nb e=>?_,xh,by simpa using PtsL.nil⟩
   .rw [xg (ZE nl)];exact xh
   .rw [xg (xi e hl0),xg nb];exact e
  .rintro i xs H2 lt ⟨qs,_,_,hd,_⟩;exact⟨hd,lt⟩
  .rintro i xs H2 v H3 lt ⟨qs,rfl,ql,hd,sm,hl2,pts⟩ ⟨p,k,x,hx,rfl,hpn,rfl⟩ N hN;obtain⟨pt,q0,hpt,rfl,rfl,hq0⟩:=pl.get hx;have e0:H2 q0=some (.tup (ptV pt)):=sm _ _ (ne_f hq0 hk) hq0;refine⟨p,_,rfl,SqT.of xh,rfl,_,_,rfl,_,_,rfl,rfl,?_⟩;refine xvm ?_;have n0:q0≠p:=xi e0 hpn;refine⟨_,rfl,(by exact leS1),fun p1 h1=>⟨_,rfl,p1,q0,_,ptV pt,rfl,rfl,SqT.of xh,SqT.of ?_,(by simp),(by show 1+5<=sizeLine; decide),(fun z=>nomatch z),fun _ p2 h2=>?_⟩⟩
   .rw [xg (xi (by rw[xg n0]; exact e0) h1),xg n0];exact e0
   have up:∀ b u,H2 b=some u->(upd (upd (upd H2 p (.tup [.str pt.nm,.ref q0])) p1 (.tup [.str pt.nm])) p2 (.tup ([.str pt.nm]++ptV pt))) b=some u:=fun b u e=>by
    have c1:b≠p:=xi e hpn;have e1:upd H2 p (.tup [.str pt.nm,.ref q0]) b=some u:=by rw[xg c1]; exact e
    have c2:b≠p1:=xi e1 h1;have e2:upd (upd H2 p (.tup [.str pt.nm,.ref q0])) p1 (.tup [.str pt.nm]) b=some u:=by rw[xg c2]; exact e1
    rw[xg (xi e2 h2)];exact e2
   have c3:l≠p2:=xi (show upd (upd H2 p (.tup [.str pt.nm,.ref q0])) p1 (.tup [.str pt.nm]) l=some (.lst (qs.map V.ref)) from by
    have c1:l≠p:=xi hl2 hpn;have e1:upd H2 p (.tup [.str pt.nm,.ref q0]) l=some (.lst (qs.map V.ref)):=by rw[xg c1]; exact hl2
    rw[xg (xi e1 h1)];exact e1) h2
   have tk:ps.take (i+1)=ps.take i++[pt]:=by
    rw[ZO,hpt];rfl
   have ll:qs.length<sizeLine:=Jm (by have:=pl.len; have:=pic.len; omega:qs.length<13) (by decide);refine⟨up _ _ hl2,by rw[Za]; exact ll,hN _ _ ⟨qs++[p2],by simp,by simp; omega,?_,fun b u nb e=>?_,xh,?_⟩⟩
   .rw [xg (ZE nl)];exact up _ _ hd
   .have e2:=up _ _ (sm b u nb e);rw[xg (xi e hl0)];exact e2
   .rw [tk];refine PtsL.snoc (PtsL.keep (fun b xs e=>?_) pts) ?_
    .have e2:=up _ _ e;rw[xg (ne_f e2 (up _ _ hl2))];exact e2
    .rw [xg (ZE c3)];exact xh
  .rintro xs H2 ⟨qs,rfl,_,hd,sm,hl2,pts⟩;refine⟨⟨hd,Zl _⟩,dp,ob,_,hd,nf,q _ l qs (fun b u e=>?_) ?_ (PtsL.keep (fun b xs e=>?_) (by rw[pl.len,Jz] at pts; exact pts))⟩
   .by_cases c:b=dp
    .subst c;rw[hk] at e;cases e;exact xh
    .rw [xg c];exact sm b u c e
   .rw [xg nl];exact hl2
   .rw [xg (ne_f e hd)];exact e
theorem ok_e (T:Txt w K mg t):FnOk true P w K mg base (CXo P w) 2 t.f_e t.d_e ["self", "name", "x", "y"] (spCL t):=by
 refine T.F_e.okn (k:=1) sc_e (fun vs H Q E h=>?_) (fun cdv A outer s H vs Q E hr h=>?_)
 .obtain ⟨a,dp,do_,pw,ph,ps,nm,x,y,rfl,_⟩:=h;rfl
 .obtain ⟨a,dp,do_,pw,ph,ps,nm,x,y,rfl,h⟩:=h;refine⟨_,xj (xbu rfl (xaw (zs:=["other"]) (ys:=["name"]) (fr:=[1]) (N0:=["self", "name", "x", "y", "others", "other"]) (sc0:=xo s_e) (by decide +kernel) rfl rfl rfl) (xas (xbi (pv 0) T.c_d T.m_m (ok_m T) (hmm hr) T.b_m .nil xn)) (fun _ _ _ _ _ ow nd=>xp (i:=0) nd rfl (Zn (ow _ (by simp))) (ZX (ow _ (by simp)))) (xbj (by decide)) (fun _ _ _ _ _=>xe0 (x6 xd7 (xaj (r:=rIxT K) xa4 (pv 0) (xm) (fun _ _=>rfl)) (pv 1) (x8 _))) (fun _ _ _ _ _=>pv 0) (j:=4) rfl (Zn rfl))
   (xj (xar ZC rfl (xas (pv 4)) (xp (i:=5) sc_e.nd rfl (Zn rfl)) (xk (xad (x6 xbh (xaj xa4 (pv 5) (xm) (fun _ _=>rfl)) (pv 2) (x8 _)) (xk (xbb)) (x4))))
   (xk (xar ZC rfl (xas (pv 4)) (xp (i:=5) sc_e.nd rfl (Zn rfl)) (xk (xad (x6 xbh (xaj xa4 (pv 5) (xm) (fun _ _=>rfl)) (pv 3) (x8 _)) (xk (xbb)) (x4)))))),?_⟩
  obtain⟨pic,no,q⟩:=h;obtain⟨⟨dx,hp⟩,⟨kvs,hk,pl⟩,_⟩:=id pic;refine⟨_,rfl,a,dx,_,rfl,hp,xbl (by decide +kernel),a,dp,do_,pw,ph,ps,rfl,pic,fun H1 l1 qs s1 hl1 pt1=>⟨l1,rfl,⟨_,SqL.of hl1⟩,fun l hl=>?_⟩⟩;refine xcp qs.length (fun i xs H2=>∃ os:List Addr,xs=os.map V.ref/\os.length<=i/\Same H1 H2/\H2 l=some (.lst xs)/\∀ o∈os,∃ p∈ps,p.nm≠nm/\H1 o=some (.tup (.str p.nm::ptV p))) ?_ ?_ ?_ ?_
  .exact ⟨[],rfl,Zl _,xaa (Same.refl _) hl,xh,fun o z=>nomatch z⟩
  .rintro i xs H2 lt ⟨os,_,_,s2,_⟩;exact⟨_,.ref qs[i],SqL.of (s2 _ _ hl1),by simp[lt]⟩
  .rintro i xs H2 v H3 lt ⟨os,rfl,ol,s2,hl2,hos⟩ ⟨rfl,hv⟩ N hN;have hv':=hv _ (SqL.of (s2 _ _ hl1));rw[Ze] at hv';obtain⟨o,ho,rfl⟩:=Zj.mp hv';obtain⟨p,hpp,ep⟩:=pt1.get ho;refine⟨_,rfl,o,_,0,_,rfl,rfl,SqT.of (s2 _ _ ep),rfl,_,rfl,rfl,_,rfl,ite2 (fun c=>?_) (fun c=>?_)⟩
   .have cn:p.nm≠nm:=fun z=>by
     rw[z] at c;simp at c
    refine⟨_,rfl,hl2,(by rw[Za]; exact Jm (by have:=pt1.len; have:=pic.len; omega:os.length<13) (by decide)),hN _ _ ⟨os++[o],by simp,by simp; omega,?_,xh,?_⟩⟩
    .intro b u e
     by_cases cb:b=l
     .subst cb;rw[e] at hl;cases hl
     .rw [xg cb];exact s2 b u e
    .intro o' ho'
     rcases Z9.mp ho' with z|z
     .exact hos o' z
     .have:=Z6.mp z;subst this;exact⟨p,Zk hpp,cn,ep⟩
   .exact hN _ _ ⟨os,rfl,by omega,s2,hl2,hos⟩
  .rintro xs H2 ⟨os,rfl,ol,s2,hl2,hos⟩;refine⟨⟨_,SqL.of (s2 _ _ hl1),by simp⟩,?_⟩;have loop:∀(o:Addr),o∈os->∃ p∈ps,p.nm≠nm/\H2 o=some (.tup (.str p.nm::ptV p)):=fun o ho=>by
    obtain⟨p,h1,h2,h3⟩:=hos o ho;exact⟨p,h1,h2,s2 _ _ h3⟩
   refine⟨_,rfl,l,rfl,⟨_,SqL.of hl2⟩,xa9 (xs:=os.map V.ref) (Pv:=fun i Z H3=>∃ v5:Option V,Z=[some (.ref a),some (.str nm),some (.int x),some (.int y),some (.ref l),v5]/\H2=H3) ⟨_,rfl,rfl⟩ (fun _ _ _ _ ⟨_,_,z⟩=>by rw[<- z]; exact SqL.of hl2) ?_ ?_⟩
   .rintro i v Z _ hv ⟨v5,rfl,rfl⟩;rw[Ze] at hv;obtain⟨o,ho,rfl⟩:=Zj.mp hv;obtain⟨p,m1,m2,m3⟩:=loop o (Zk ho);refine⟨_,rfl,o,_,1,_,rfl,rfl,SqT.of m3,rfl,_,rfl,rfl,_,rfl,ifN (decide_eq_false fun z=>(no p m1 m2).1 (V.int.inj z)) ⟨_,rfl,rfl⟩⟩
   .rintro Z _ ⟨v5,rfl,rfl⟩;refine⟨_,rfl,l,rfl,⟨_,SqL.of hl2⟩,xa9 (xs:=os.map V.ref) (Pv:=fun i Z H3=>∃ v5:Option V,Z=[some (.ref a),some (.str nm),some (.int x),some (.int y),some (.ref l),v5]/\H2=H3) ⟨_,rfl,rfl⟩ (fun _ _ _ _ ⟨_,_,z⟩=>by rw[<- z]; exact SqL.of hl2) ?_ ?_⟩
    .rintro i v Z _ hv ⟨v5,rfl,rfl⟩;rw[Ze] at hv;obtain⟨o,ho,rfl⟩:=Zj.mp hv;obtain⟨p,m1,m2,m3⟩:=loop o (Zk ho);refine⟨_,rfl,o,_,2,_,rfl,rfl,SqT.of m3,rfl,_,rfl,rfl,_,rfl,ifN (decide_eq_false fun z=>(no p m1 m2).2 (V.int.inj z)) ⟨_,rfl,rfl⟩⟩
    .rintro Z _ ⟨v5,rfl,rfl⟩;exact q _ (s1.trans s2)
theorem ok_f (T:Txt w K mg t):FnOk true P w K mg base (CXo P w) 4 t.f_f t.d_f ["self", "side", "row"] (spCS t):=by
 refine T.F_f.okn (k:=3) sc_f (fun vs H Q E h=>?_) (fun cdv A outer s H vs Q E hr h=>?_)
 .obtain ⟨a,dp,do_,pw,ph,ps,b,r,rfl,_⟩:=h;rfl
 .obtain ⟨a,dp,do_,pw,ph,ps,b,r,rfl,h⟩:=h;refine⟨_,xj (xa6 (xr (ok_ao T) (hmm hr) rfl T.g_ao T.F_ao.kp T.b_ao .nil xn (xb (pv 1) (xb (xae (pv 0) rfl) (xf)))))
   (xk (xad (xbn (xay (xr (ok_ak T) (hmm hr) rfl T.g_ak T.F_ak.kp T.b_ak .nil xn (xb (pv 2) (xb (xm) (xb (xae (pv 0) rfl) (xf))))))) (xk (xbb)) (x4))),?_⟩
  obtain⟨pic,r1,r2,q⟩:=h;obtain⟨⟨dx,hp⟩,_,_⟩:=id pic;refine⟨_,rfl,_,rfl,a,_,dx,_,_,rfl,hp,T.c_d,T.n_bb,lkW,b,pw,rfl,fun p H1 hp1 sd1 s1=>?_⟩;exact⟨_,rfl,_,rfl,a,_,dx,_,_,rfl,(s1 _ _ hp),T.c_d,T.n_bc,lkH,r,1,ph,rfl,r1,r2,true,rfl,iteF (q H1 s1)⟩
theorem ok_a (T:Txt w K mg t):FnOk true P w K mg base (CXo P w) 3 t.f_a t.d_a ["self", "name", "x", "y", "sides", "low", "high"] (xwo t):=by
 refine T.F_a.okn (k:=2) sc_a (fun vs H Q E h=>?_) (fun cdv A outer s H vs Q E hr h=>?_)
 .obtain ⟨a,dp,do_,pw,ph,ps,nm,x,y,sd,lo,hi,hv,rfl,_⟩:=h;rfl
 .obtain ⟨a,dp,do_,pw,ph,ps,nm,x,y,sd,lo,hi,hv,rfl,h⟩:=h;refine⟨_,xj (xv (i:=7) sc_a.nd rfl (Zn rfl) (xc9 (x6 xob (pv 6) (xdr) (x8 _)) (xae (pv 0) rfl) (pv 6)))
   (xj (xad (xbn (xay (xr (ok_ar T) (hmm hr) rfl T.g_ar T.F_ar.kp T.b_ar .nil xn (xb (pv 1) (xf))))) (xk (xbb)) (x4))
   (xj (xa6 (xa0 (pv 0) T.c_d T.m_j (ok_j T) (hmm hr) T.b_j .nil xn (xb (pv 2) (xb (pv 3) (xf)))))
   (xj (xad (PW.pt (xb9 (xbn (xay (x5 xcj rfl T.n_isinstance boot_isinstance (xb (pv 4) (xb (xdb (v:=.ty "str") rfl T.n_str boot_str rfl) (xf)))))) (xca (xdg (xoa (pv 4) rfl T.g_ah T.D_ah))))) (xk (xbb)) (x4))
   (xj (xad (PW.pt (xb9 (xbn (xay (xr (ok_ak T) (hmm hr) rfl T.g_ak T.F_ak.kp T.b_ak .nil xn (xb (pv 5) (xb (xm) (xb (xae (pv 0) rfl) (xf))))))) (xca (xbn (xay (xr (ok_ak T) (hmm hr) rfl T.g_ak T.F_ak.kp T.b_ak .nil xn (xb (pv 7) (xb (pv 5) (xb (xae (pv 0) rfl) (xf)))))))))) (xk (xbb)) (x4))
   (xj (xad (xdg (xf3 (xag hr) (pv 1) (xae (pv 0) rfl))) (xk (xbb)) (x4))
   (xj (xad (x6 xv7 (x5 xgf rfl T.n_len Ju (xb (xae (pv 0) rfl) (xf))) (xdx (v:=.int 12) rfl T.v_bk.choose_spec ⟨_,rfl⟩) (x8 _)) (xk (xbb)) (x4))
   (xj (xa6 (xa0 (pv 0) T.c_d T.m_e (ok_e T) (hmm hr) T.b_e .nil xn (xb (pv 1) (xb (pv 2) (xb (pv 3) (xf))))))
   (xk (xbv (xag hr) (xae (pv 0) rfl) (pv 1) (x9 (xx (pv 2) (xx (pv 3) (xx (pv 4) (xx (pv 5) (xx (pv 7) (xf) rfl) rfl) rfl) rfl) rfl)) rfl))))))))),?_⟩
  obtain⟨pic,hhv,hn,x1,x2,y1,y2,hsd,l1,l2,l3,no,len,q⟩:=h;obtain⟨⟨dx,hp⟩,⟨kvs,hk,pl⟩,_⟩:=id pic;have hsd':(valV ([(Jl "left",V.str "right"),(Jl "right",V.str "left"),(Jl "both",V.str "both")]:List (Key × V)) (Jl sd)).isSome=true:=by
   rcases hsd with rfl|rfl|rfl<;>decide +kernel
  rcases hhv with⟨rfl,e⟩|rfl
  .obtain rfl:=e.symm;refine⟨_,rfl,rfl,_,rfl,ifP (by rfl) ⟨_,rfl,a,_,dx,_,_,rfl,hp,T.c_d,T.n_bc,lkH,?_⟩⟩;refine⟨_,rfl,nm,rfl,hn,true,rfl,iteF ?_⟩;refine⟨_,rfl,a,dx,_,rfl,hp,xbl (by decide +kernel),_,rfl,_,rfl,a,dp,do_,pw,ph,ps,x,y,rfl,pic,x1,x2,y1,y2,?_⟩;refine⟨_,rfl,_,_,rfl,.inl ⟨_,_,true,.str _,rfl,xck,true,rfl,iteF ⟨_,rfl,.inr sd,rfl,false,(by rw[hsd']; rfl),iteF ?_⟩⟩⟩;refine⟨_,rfl,_,rfl,a,_,dx,_,_,rfl,hp,T.c_d,T.n_bc,lkH,lo,1,ph,rfl,l1,(by omega),true,rfl,iteF ⟨_,rfl,_,rfl,_,rfl,a,_,dx,_,_,rfl,hp,T.c_d,T.n_bc,lkH,ph,lo,ph,rfl,(by omega),(by omega),true,rfl,iteF ?_⟩⟩;refine⟨_,rfl,_,rfl,a,_,dx,_,_,rfl,hp,T.c_d,T.n_ba,lkP,dp,none,rfl,(by rw[<- pl.no (nm:=nm) (fun p hp=>(no p hp).1)]; exact DGet.k (k:=.inr nm) hk),false,rfl,iteF ?_⟩;refine⟨_,rfl,a,_,dx,_,_,rfl,hp,T.c_d,T.n_ba,lkP,dp,kvs,rfl,hk,_,_,rfl,rfl,_,rfl,ifN (decide_eq_false (by have:=pl.len; omega)) ?_⟩;refine⟨_,rfl,a,dx,_,rfl,hp,xbl (by decide +kernel),_,rfl,_,rfl,_,rfl,a,dp,do_,pw,ph,ps,nm,x,y,rfl,pic,fun p hp _=>(no p hp).2,fun H1 s1=>?_⟩;refine⟨_,rfl,_,rfl,_,rfl,_,rfl,_,rfl,(by exact leS5),fun q1 hq1=>?_⟩;have hp1:upd H1 q1 (.tup [.int x,.int y,.str sd,.int lo,.int ph]) a=some (.ins t.C_d dx (picF pw ph dp do_)):=by rw[xg (xi (s1 _ _ hp) hq1)]; exact s1 _ _ hp
   have hk1:upd H1 q1 (.tup [.int x,.int y,.str sd,.int lo,.int ph]) dp=some (.dK kvs):=by rw[xg (xi (s1 _ _ hk) hq1)]; exact s1 _ _ hk
   refine⟨_,rfl,a,_,dx,_,_,rfl,hp1,T.c_d,T.n_ba,lkP,_,rfl,dp,_,rfl,DPut.k (k:=.inr nm) hk1 (Jm (by have:=pl.len; omega:kvs.length<12) (by decide)),?_⟩;rw[xcr (.ref q1) (pl.no (nm:=nm) (fun p hp=>(no p hp).1))];have nq:q1≠dp:=fun z=>by
    subst z;rw[s1 _ _ hk] at hq1;cases hq1
   refine q _ (fun b u nb e=>?_) ⟨⟨dx,?_⟩,⟨_,xh,Pl.snoc (p:=⟨nm,x,y,sd,lo,ph⟩) (pl.keep (fun b xs e=>?_)) ?_⟩,pic.w1,pic.w2,pic.h1,pic.h2,(by rw[Zp]; exact len)⟩
   .rw [xg nb,xg (xi (s1 _ _ e) hq1)];exact s1 _ _ e
   .rw [xg (ne_f hp1 hk1)];exact hp1
   .have e':=s1 _ _ e;rw[xg (ne_f e' (s1 _ _ hk)),xg (xi e' hq1)];exact e'
   .rw [xg nq];exact xh
  .refine ⟨_,rfl,rfl,_,rfl,ifN (by rfl) ⟨_,rfl,?_⟩⟩;refine⟨_,rfl,nm,rfl,hn,true,rfl,iteF ?_⟩;refine⟨_,rfl,a,dx,_,rfl,hp,xbl (by decide +kernel),_,rfl,_,rfl,a,dp,do_,pw,ph,ps,x,y,rfl,pic,x1,x2,y1,y2,?_⟩;refine⟨_,rfl,_,_,rfl,.inl ⟨_,_,true,.str _,rfl,xck,true,rfl,iteF ⟨_,rfl,.inr sd,rfl,false,(by rw[hsd']; rfl),iteF ?_⟩⟩⟩;refine⟨_,rfl,_,rfl,a,_,dx,_,_,rfl,hp,T.c_d,T.n_bc,lkH,lo,1,ph,rfl,l1,(by omega),true,rfl,iteF ⟨_,rfl,_,rfl,_,rfl,a,_,dx,_,_,rfl,hp,T.c_d,T.n_bc,lkH,hi,lo,ph,rfl,(by omega),(by omega),true,rfl,iteF ?_⟩⟩;refine⟨_,rfl,_,rfl,a,_,dx,_,_,rfl,hp,T.c_d,T.n_ba,lkP,dp,none,rfl,(by rw[<- pl.no (nm:=nm) (fun p hp=>(no p hp).1)]; exact DGet.k (k:=.inr nm) hk),false,rfl,iteF ?_⟩;refine⟨_,rfl,a,_,dx,_,_,rfl,hp,T.c_d,T.n_ba,lkP,dp,kvs,rfl,hk,_,_,rfl,rfl,_,rfl,ifN (decide_eq_false (by have:=pl.len; omega)) ?_⟩;refine⟨_,rfl,a,dx,_,rfl,hp,xbl (by decide +kernel),_,rfl,_,rfl,_,rfl,a,dp,do_,pw,ph,ps,nm,x,y,rfl,pic,fun p hp _=>(no p hp).2,fun H1 s1=>?_⟩;refine⟨_,rfl,_,rfl,_,rfl,_,rfl,_,rfl,(by exact leS5),fun q1 hq1=>?_⟩;have hp1:upd H1 q1 (.tup [.int x,.int y,.str sd,.int lo,.int hi]) a=some (.ins t.C_d dx (picF pw ph dp do_)):=by rw[xg (xi (s1 _ _ hp) hq1)]; exact s1 _ _ hp
   have hk1:upd H1 q1 (.tup [.int x,.int y,.str sd,.int lo,.int hi]) dp=some (.dK kvs):=by rw[xg (xi (s1 _ _ hk) hq1)]; exact s1 _ _ hk
   refine⟨_,rfl,a,_,dx,_,_,rfl,hp1,T.c_d,T.n_ba,lkP,_,rfl,dp,_,rfl,DPut.k (k:=.inr nm) hk1 (Jm (by have:=pl.len; omega:kvs.length<12) (by decide)),?_⟩;rw[xcr (.ref q1) (pl.no (nm:=nm) (fun p hp=>(no p hp).1))];have nq:q1≠dp:=fun z=>by
    subst z;rw[s1 _ _ hk] at hq1;cases hq1
   refine q _ (fun b u nb e=>?_) ⟨⟨dx,?_⟩,⟨_,xh,Pl.snoc (p:=⟨nm,x,y,sd,lo,hi⟩) (pl.keep (fun b xs e=>?_)) ?_⟩,pic.w1,pic.w2,pic.h1,pic.h2,(by rw[Zp]; exact len)⟩
   .rw [xg nb,xg (xi (s1 _ _ e) hq1)];exact s1 _ _ e
   .rw [xg (ne_f hp1 hk1)];exact hp1
   .have e':=s1 _ _ e;rw[xg (ne_f e' (s1 _ _ hk)),xg (xi e' hq1)];exact e'
   .rw [xg nq];exact xh
theorem ok_g (T:Txt w K mg t):FnOk true P w K mg base (CXo P w) 3 t.f_g t.d_g ["self", "name"] (xwy t):=by
 refine T.F_g.okn (k:=2) sc_g (fun vs H Q E h=>?_) (fun cdv A outer s H vs Q E hr h=>?_)
 .obtain ⟨a,dp,do_,pw,ph,ps,nm,pt,rfl,_⟩:=h;rfl
 .obtain ⟨a,dp,do_,pw,ph,ps,nm,pt,rfl,h⟩:=h;refine⟨_,xj (xa6 (xa0 (pv 0) T.c_d T.m_i (ok_i T) (hmm hr) T.b_i .nil xn (xb (pv 1) (xf))))
   (xk (xz (xda xun (xa1 (xag hr) (xae (pv 0) rfl) (pv 1) (fun _ _=>rfl)) xe1 (xcy (xm))))),?_⟩
  obtain⟨pic,hn,hf,q⟩:=h;obtain⟨⟨dx,hp⟩,⟨kvs,hk,pl⟩,_⟩:=id pic;obtain⟨q0,e,hq0⟩:=pl.find hf;refine⟨_,rfl,a,dx,_,rfl,hp,xbl (by decide +kernel),_,rfl,a,dp,do_,pw,ph,ps,nm,pt,rfl,pic,hn,hf,?_⟩;exact⟨_,rfl,a,_,dx,_,_,rfl,hp,T.c_d,T.n_ba,lkP,_,rfl,dp,.ref q0,rfl,(by rw[<- e]; exact DGet.k (k:=.inr nm) hk),2,rfl,q0,ptV pt,rfl,SqT.of hq0,(fun z=>absurd z.2 (by show ¬ ((2:Nat)=5); decide)),fun p hp'=>q _ p (xaa (Same.refl _) hp') xh⟩
theorem ok_t (T:Txt w K mg t):FnOk true P w K mg base (CXo P w) 5 t.f_t t.d_t ["self", "name", "side", "row"] (xwe t):=by
 refine T.F_t.okn (k:=4) sc_t (fun vs H Q E h=>?_) (fun cdv A outer s H vs Q E hr h=>?_)
 .obtain ⟨a,dp,do_,pw,ph,ps,nm,pt,b,r,rfl,_⟩:=h;rfl
 .obtain ⟨a,dp,do_,pw,ph,ps,nm,pt,b,r,rfl,h⟩:=h;refine⟨_,xj (xd2 (xa0 (pv 0) T.c_d T.m_g (ok_g T) (hmm hr) T.b_g .nil xn (xb (pv 1) (xf))) (xaf rfl (xq (xp (i:=4) sc_t.nd rfl (Zn rfl)) (xq (xp (i:=5) sc_t.nd rfl (Zn rfl)) (xab)))))
   (xj (xa6 (xa0 (pv 0) T.c_d T.m_f (ok_f T) (hmm hr) T.b_f .nil xn (xb (pv 2) (xb (pv 3) (xf)))))
   (xk (xz (xt xai (xex (xa0 (xr (ok_ao T) (hmm hr) rfl T.g_ao T.F_ao.kp T.b_ao .nil xn (xb (pv 2) (xb (xae (pv 0) rfl) (xf)))) T.c_af T.m_q (ok_q T) (hmm hr) T.b_q .nil xn (xb (pv 4) (xf))) (xa0 (xr (ok_ao T) (hmm hr) rfl T.g_ao T.F_ao.kp T.b_ao .nil xn (xb (pv 2) (xb (xae (pv 0) rfl) (xf)))) T.c_r T.m_n (ok_n T) (hmm hr) T.b_n .nil xn (xb (pv 4) (xf)))) (x5 xq4 rfl T.n_abs boot_abs (xb (xt xdq (pv 5) (pv 3)) (xf))))))),?_⟩
  obtain⟨pic,hn,hf,r1,r2,q⟩:=h;obtain⟨⟨dx,hp⟩,_,_⟩:=id pic;refine⟨_,rfl,a,dx,_,rfl,hp,xbl (by decide +kernel),_,rfl,a,dp,do_,pw,ph,ps,nm,pt,rfl,pic,hn,hf,fun H1 q1 s1 hq1=>⟨q1,_,rfl,SqT.of hq1,rfl,_,_,rfl,_,_,rfl,rfl,?_⟩⟩;refine⟨_,rfl,a,dx,_,rfl,s1 _ _ hp,xbl (by decide +kernel),_,rfl,_,rfl,a,dp,do_,pw,ph,ps,b,r,rfl,Pic.same s1 pic,r1,r2,fun H2 s2=>?_⟩;cases b with
  | true =>
   refine .inl ⟨_,rfl,_,rfl,a,_,dx,_,_,rfl,(s2 _ _ (s1 _ _ hp)),T.c_d,T.n_bb,lkW,true,pw,rfl,fun p H3 hp3 sd3 s3=>?_⟩;obtain⟨ds,hs⟩:=sd3;exact⟨p,ds,_,rfl,hs,(by rw[Zz,show (("across":Str) == "width")=false from by decide +kernel]; rfl),_,rfl,_,_,rfl,_,rfl,_,rfl,_,_,rfl,rfl,_,rfl,_,_,rfl,rfl,q H3 ((s1.trans s2).trans s3)⟩
  | false =>
   refine .inr ⟨_,rfl,_,rfl,a,_,dx,_,_,rfl,(s2 _ _ (s1 _ _ hp)),T.c_d,T.n_bb,lkW,false,pw,rfl,fun p H3 hp3 sd3 s3=>?_⟩;obtain⟨ds,hs⟩:=id sd3;exact⟨p,ds,_,rfl,hs,(by rw[Zz,show (("across":Str) == "width")=false from by decide +kernel]; rfl),_,rfl,p,pw,_,rfl,sd3,_,rfl,_,rfl,_,_,rfl,rfl,_,rfl,_,_,rfl,rfl,q H3 ((s1.trans s2).trans s3)⟩
inductive xap (H:Hp):List (Int × Int)->List Addr->Prop
 | nil:xap H [] []
 | cons {c:Int × Int}{q:Addr}{cs:List (Int × Int)}{qs:List Addr} (h:H q=some (.tup [.int c.1,.int c.2])) (r:xap H cs qs):xap H (c::cs) (q::qs)
theorem xap.keep {H H':Hp} (s:Tups H H') {cs:List (Int × Int)}{qs:List Addr} (h:xap H cs qs):xap H' cs qs:=by
 induction h with
 | nil=>exact .nil
 | cons h _ ih=>exact .cons (s _ _ h) ih
theorem xap.len {H:Hp}{cs:List (Int × Int)}{qs:List Addr} (h:xap H cs qs):qs.length=cs.length:=by
 induction h with
 | nil=>rfl
 | cons _ _ ih=>simp[ih]
theorem xap.get {H:Hp}{cs:List (Int × Int)}{qs:List Addr} (h:xap H cs qs) {i:Nat}{q:Addr} (e:qs[i]?=some q):∃ c,cs[i]?=some c/\H q=some (.tup [.int c.1,.int c.2]):=by
 induction h generalizing i with
 | nil=>simp at e
 | @cons c q' cs qs h _ ih =>
  cases i with
  | zero =>
   simp at e;subst e;exact⟨c,rfl,h⟩
  | succ j=>exact ih (by simpa using e)
theorem xap.append {H:Hp}{cs ds:List (Int × Int)}{qs rs:List Addr} (h:xap H cs qs) (h':xap H ds rs):xap H (cs++ds) (qs++rs):=by
 induction h with
 | nil=>exact h'
 | cons h _ ih=>exact .cons h ih
theorem xap.snoc {H:Hp}{cs:List (Int × Int)}{qs:List Addr} (h:xap H cs qs) {c:Int × Int}{q:Addr} (e:H q=some (.tup [.int c.1,.int c.2])):xap H (cs++[c]) (qs++[q]):=h.append (.cons e .nil)
theorem xb7 {Z:L2.St}{fr:List Nat}{te:TE}{l:Addr}{H1:Hp}{Q:VK}{lo d:Int}{n:Nat} (f:Nat->Int × Int) (hl:H1 l=none) (hn:n<1000)
    (hte:∀(i:Nat) (H2:Hp) (R:VK),i<n->(∀ p,H2 p=none->R (.ref p) (upd H2 p (.tup [.int (f i).1,.int (f i).2])))->te ((blk0 Z fr 1).set 0 (some (.int (lo+(i:Int)*d)))) H2 R)
    (fin:∀(H2:Hp) (qs:List Addr),Same H1 H2->H2 l=some (.lst (qs.map V.ref))->xap H2 ((Z0 n).map f) qs->Q (.ref l) H2):xcz (Itrs lo d n) 1 (xc7 0) Z fr xdh te l H1 Q:=by
  refine xcp n (fun i xs H2=>∃ qs:List Addr,xs=qs.map V.ref/\qs.length<=i/\Same H1 H2/\H2 l=some (.lst xs)/\xap H2 ((Z0 i).map f) qs) ?_ ?_ ?_ ?_
  . exact⟨[],rfl,Zl _,xaa (Same.refl _) hl,xh,.nil⟩
  . rintro i xs H2 lt _
    exact lt
  . rintro i xs H2 v H3 lt ⟨qs,rfl,ql,s2,hl2,cl⟩ ⟨rfl,rfl⟩ N hN
    refine xwm ?_;refine hte i _ _ lt fun p hp=>⟨?_,?_,hN _ _ ⟨qs++[p],by simp,by simp; omega,?_,xh,?_⟩⟩
    . rw[xg (xi hl2 hp)]
      exact hl2
    . rw[Za]
      exact Yi ql (Jm lt (ZG hn (by decide)))
    . intro b u e
      have nb:b≠l:=xi e hl;rw[xg nb,xg (xi (s2 _ _ e) hp)];exact s2 _ _ e
    . rw[JM,Z4]
      refine xap.snoc (xap.keep (fun b xs e=>?_) cl) ?_
      . rw[xg (ne_f e hl2),xg (xi e hp)]
        exact e
      . rw[xg (ZE (xi hl2 hp))]
        exact xh
  . rintro xs H2 ⟨qs,rfl,_,s2,hl2,cl⟩
    exact⟨Zl _,fin H2 qs s2 hl2 cl⟩
inductive xtg (t:Adr) (vs:List V) (H:Hp) (Q:VK) (_:XK):Prop
 | mk (a dp do_:Addr) (pw ph:Int) (ps:List Pt) (nm:Str) (pt:Pt) (b:Bool) (r:Int) (e_:vs=[.ref a,.str nm,.str (xax b),.int r]) (r_:Pic t H a dp do_ pw ph ps/\isNm nm=true/\ps.find? (fun p=>decide (p.nm=nm))=some pt/\1<=r/\r<=ph/\(1<=pt.x/\pt.x<=pw/\1<=pt.y/\pt.y<=ph)/\∀ H' l qs,Same H H'->H' l=some (.lst (qs.map V.ref))->xap H' (Geo.cells pw pt.x pt.y b r) qs->qs.length<100->Q (.ref l) H')
theorem lno {m:Str}{v:V} (h:(m == ("width":Str))=false):([("width",v)]:List (Str × V)).lookup m=none:=by
 rw[Zz,h];rfl
theorem ok_a5 (T:Txt w K mg t):FnOk true P w K mg base (CXo P w) 6 t.f_a5 t.d_a5 ["picture", "name", "side", "row"] (xtg t):=by
 refine T.F_a5.okn (k:=5) sc_a5 (fun vs H Q E h=>?_) (fun cdv A outer s H vs Q E hr h=>?_)
 .obtain ⟨a,dp,do_,pw,ph,ps,nm,pt,b,r,rfl,_⟩:=h;rfl
 .obtain ⟨a,dp,do_,pw,ph,ps,nm,pt,b,r,rfl,h⟩:=h;refine⟨_,xj (xa6 (xa0 (pv 0) T.c_d T.m_t (ok_t T) (hmm hr) T.b_t .nil xn (xb (pv 1) (xb (pv 2) (xb (pv 3) (xf))))))
   (xj (xd2 (xa0 (pv 0) T.c_d T.m_g (ok_g T) (hmm hr) T.b_g .nil xn (xb (pv 1) (xf))) (xaf rfl (xq (xp (i:=4) sc_a5.nd rfl (ZX rfl)) (xq (xp (i:=5) sc_a5.nd rfl (Zn rfl)) (xab)))))
   (xj (xv (i:=6) sc_a5.nd rfl (Zn rfl) (xr (ok_ao T) (hmm hr) rfl T.g_ao T.F_ao.kp T.b_ao .nil xn (xb (pv 2) (xb (xae (pv 0) rfl) (xf)))))
   (xj (xv (i:=7) sc_a5.nd rfl (Zn rfl) (xc9 (x6 xkk (pv 5) (pv 3) (x8 _)) (xm) (xrn xpf (xm))))
   (xj (xbu rfl (xaw (zs:=["at"]) (ys:=["x"]) (fr:=[4]) (N0:=["picture", "name", "side", "row", "x", "y", "toward", "down", "upright", "level"]) (sc0:=xo s_a5) (by decide +kernel) rfl rfl rfl) (xju rfl T.n_range (xb (pv 5) (xb (pv 3) (xb (pv 7) (xf))))) (fun _ _ _ _ _ ow nd=>xp (i:=0) nd rfl (Zn (ow _ (by simp))) (ZX (ow _ (by simp)))) (xbj (by decide)) (fun _ _ _ _ _=>xbf) (fun _ _ _ _ _=>x9 (xb (pv 1) (xb (pv 0) (xf)))) (j:=8) rfl (Zn rfl))
   (xj (xbu rfl (xaw (zs:=["at"]) (ys:=["row"]) (fr:=[3]) (N0:=["picture", "name", "side", "row", "x", "y", "toward", "down", "upright", "level"]) (sc0:=xo s_a5) (by decide +kernel) rfl rfl rfl) (xju rfl T.n_range (xb (pv 4) (xb (xt xai (xex (xbi (pv 6) T.c_af T.m_y (ok_y T) (hmm hr) T.b_y .nil xn) (xbi (pv 6) T.c_r T.m_s (ok_s T) (hmm hr) T.b_s .nil xn)) (xex (xbi (pv 6) T.c_af T.m_ab (ok_ab T) (hmm hr) T.b_ab .nil xn) (xbi (pv 6) T.c_r T.m_w (ok_w T) (hmm hr) T.b_w .nil xn))) (xb (xex (xbi (pv 6) T.c_af T.m_ab (ok_ab T) (hmm hr) T.b_ab .nil xn) (xbi (pv 6) T.c_r T.m_w (ok_w T) (hmm hr) T.b_w .nil xn)) (xf))))) (fun _ _ _ _ _ ow nd=>xp (i:=0) nd rfl (Zn (ow _ (by simp))) (ZX (ow _ (by simp)))) (xbj (by decide)) (fun _ _ _ _ _=>xbf) (fun _ _ _ _ _=>x9 (xb (pv 0) (xb (pv 1) (xf)))) (j:=9) rfl (Zn rfl))
   (xk (xz (xt xf8 (pv 8) (pv 9))))))))),?_⟩
  obtain⟨pic,hn,hf,r1,r2,⟨x1,x2,y1,y2⟩,q⟩:=h;obtain⟨⟨dx,hp⟩,_,w1,w2,h1,h2,_⟩:=id pic;by_cases hd:pt.y<r<;>cases b
  .-- down right
   refine⟨_,rfl,a,dx,_,rfl,hp,xbl (by decide +kernel),_,rfl,_,rfl,_,rfl,a,dp,do_,pw,ph,ps,nm,pt,false,r,rfl,pic,hn,hf,r1,r2,fun H1 s1=>?_⟩;refine⟨_,rfl,a,dx,_,rfl,s1 _ _ hp,xbl (by decide +kernel),_,rfl,a,dp,do_,pw,ph,ps,nm,pt,rfl,Pic.same s1 pic,hn,hf,fun H2 q2 s2 hq2=>⟨q2,_,rfl,SqT.of hq2,rfl,_,_,rfl,_,_,rfl,rfl,?_⟩⟩;refine⟨_,rfl,_,rfl,a,_,dx,_,_,rfl,(s2 _ _ (s1 _ _ hp)),T.c_d,T.n_bb,lkW,false,pw,rfl,fun p H3 hp3 sd3 s3=>?_⟩;refine⟨_,rfl,_,rfl,_,_,rfl,rfl,_,rfl,ifP (decide_eq_true hd) ?_⟩;refine⟨_,rfl,_,rfl,_,rfl,pt.y,r,1,rfl,⟨by omega,by omega,by omega,by omega⟩,.inl ⟨rfl,fun l1 hl1=>?_⟩⟩;refine xb7 (fun i=>(pt.x,pt.y+(i:Int)*1)) hl1 (by omega) (fun i H R _ k=>⟨_,rfl,_,rfl,(by exact leS2),k⟩) fun H4 qs1 s4 hu4 cu4=>?_;obtain⟨ds,hs⟩:=id sd3;have hs4:H4 p=some (.ins t.C_r ds [("width",.int pw)]):=s4 _ _ hs;have sd4:xei t H4 p false pw:=⟨ds,hs4⟩
   refine⟨_,rfl,.inr ⟨_,rfl,p,ds,_,rfl,hs4,lno (by decide +kernel),p,pw,rfl,sd4,.inr ⟨_,rfl,p,ds,_,rfl,hs4,lno (by decide +kernel),_,rfl,_,_,rfl,rfl,.inr ⟨_,rfl,p,ds,_,rfl,hs4,lno (by decide +kernel),_,rfl,pt.x,_,1,rfl,⟨by omega,by omega,by omega,by omega⟩,.inl ⟨rfl,fun l2 hl2=>?_⟩⟩⟩⟩⟩;refine xb7 (fun i=>(pt.x+(i:Int)*1,r)) hl2 (by omega) (fun i H R _ k=>⟨_,rfl,_,rfl,(by exact leS2),k⟩) fun H5 qs2 s5 hu5 cu5=>?_;have c1:xap H5 (Geo.upL pt.x pt.y r) qs1:=by
    have e:Geo.upL pt.x pt.y r=(Z0 (r-pt.y).toNat).map fun (i:Nat)=>(pt.x,pt.y+(i:Int)*1):=by unfold Geo.upL Geo.upN Geo.dn; rw[if_pos hd,if_pos hd]
    rw[e];exact cu4.keep (Same.tups s5)
   have c2:xap H5 (Geo.lvL pw pt.x false r) qs2:=by
    have e:Geo.lvL pw pt.x false r=(Z0 (pw+1+1-pt.x).toNat).map fun (i:Nat)=>(pt.x+(i:Int)*1,r):=by
     unfold Geo.lvL Geo.lvN Geo.wayI;simp only[if_true,Jh,if_false];rw[show (pw+2-pt.x).toNat=(pw+1+1-pt.x).toNat from by omega]
    rw[e];exact cu5
   have l1':=c1.len;have l2':=c2.len;have b1:(Geo.upL pt.x pt.y r).length<17:=by unfold Geo.upL Geo.upN; rw[Za,Zr]; split<;>omega
   have b2:(Geo.lvL pw pt.x false r).length<33:=by unfold Geo.lvL Geo.lvN; rw[Za,Zr]; split<;>omega
   refine⟨_,rfl,_,rfl,l1,l2,_,_,rfl,rfl,s5 _ _ hu4,hu5,(by rw[Za,Za]; exact J7 (Jm (by omega:qs1.length+qs2.length<100) (by decide))),fun p6 hp6=>?_⟩;refine q _ p6 (qs1++qs2) (xaa (((s1.trans s2).trans s3).trans (s4.trans s5)) hp6) (by rw[Z4]; exact xh) ((c1.append c2).keep (Same.tups (xaa (Same.refl _) hp6))) (by rw[Zp]; omega)
  .-- down left
   refine⟨_,rfl,a,dx,_,rfl,hp,xbl (by decide +kernel),_,rfl,_,rfl,_,rfl,a,dp,do_,pw,ph,ps,nm,pt,true,r,rfl,pic,hn,hf,r1,r2,fun H1 s1=>?_⟩;refine⟨_,rfl,a,dx,_,rfl,s1 _ _ hp,xbl (by decide +kernel),_,rfl,a,dp,do_,pw,ph,ps,nm,pt,rfl,Pic.same s1 pic,hn,hf,fun H2 q2 s2 hq2=>⟨q2,_,rfl,SqT.of hq2,rfl,_,_,rfl,_,_,rfl,rfl,?_⟩⟩;refine⟨_,rfl,_,rfl,a,_,dx,_,_,rfl,(s2 _ _ (s1 _ _ hp)),T.c_d,T.n_bb,lkW,true,pw,rfl,fun p H3 hp3 sd3 s3=>?_⟩;refine⟨_,rfl,_,rfl,_,_,rfl,rfl,_,rfl,ifP (decide_eq_true hd) ?_⟩;refine⟨_,rfl,_,rfl,_,rfl,pt.y,r,1,rfl,⟨by omega,by omega,by omega,by omega⟩,.inl ⟨rfl,fun l1 hl1=>?_⟩⟩;refine xb7 (fun i=>(pt.x,pt.y+(i:Int)*1)) hl1 (by omega) (fun i H R _ k=>⟨_,rfl,_,rfl,(by exact leS2),k⟩) fun H4 qs1 s4 hu4 cu4=>?_;obtain⟨ds,hs⟩:=id sd3;have hs4:H4 p=some (.ins t.C_af ds [("width",.int pw)]):=s4 _ _ hs;have sd4:xei t H4 p true pw:=⟨ds,hs4⟩
   refine⟨_,rfl,.inl ⟨_,rfl,p,ds,_,rfl,hs4,lno (by decide +kernel),_,rfl,.inl ⟨_,rfl,p,ds,_,rfl,hs4,lno (by decide +kernel),_,rfl,_,_,rfl,rfl,.inl ⟨_,rfl,p,ds,_,rfl,hs4,lno (by decide +kernel),_,rfl,pt.x,_,(-1),rfl,⟨by omega,by omega,by omega,by omega⟩,.inr ⟨rfl,fun l2 hl2=>?_⟩⟩⟩⟩⟩;refine xb7 (fun i=>(pt.x+(i:Int)*(-1),r)) hl2 (by omega) (fun i H R _ k=>⟨_,rfl,_,rfl,(by exact leS2),k⟩) fun H5 qs2 s5 hu5 cu5=>?_;have c1:xap H5 (Geo.upL pt.x pt.y r) qs1:=by
    have e:Geo.upL pt.x pt.y r=(Z0 (r-pt.y).toNat).map fun (i:Nat)=>(pt.x,pt.y+(i:Int)*1):=by unfold Geo.upL Geo.upN Geo.dn; rw[if_pos hd,if_pos hd]
    rw[e];exact cu4.keep (Same.tups s5)
   have c2:xap H5 (Geo.lvL pw pt.x true r) qs2:=by
    have e:Geo.lvL pw pt.x true r=(Z0 (pt.x-(0+-1)).toNat).map fun (i:Nat)=>(pt.x+(i:Int)*(-1),r):=by
     unfold Geo.lvL Geo.lvN Geo.wayI;simp only[if_true,Jh,if_false];rw[show (pt.x+1).toNat=(pt.x-(0+-1)).toNat from by omega]
    rw[e];exact cu5
   have l1':=c1.len;have l2':=c2.len;have b1:(Geo.upL pt.x pt.y r).length<17:=by unfold Geo.upL Geo.upN; rw[Za,Zr]; split<;>omega
   have b2:(Geo.lvL pw pt.x true r).length<33:=by unfold Geo.lvL Geo.lvN; rw[Za,Zr]; split<;>omega
   refine⟨_,rfl,_,rfl,l1,l2,_,_,rfl,rfl,s5 _ _ hu4,hu5,(by rw[Za,Za]; exact J7 (Jm (by omega:qs1.length+qs2.length<100) (by decide))),fun p6 hp6=>?_⟩;refine q _ p6 (qs1++qs2) (xaa (((s1.trans s2).trans s3).trans (s4.trans s5)) hp6) (by rw[Z4]; exact xh) ((c1.append c2).keep (Same.tups (xaa (Same.refl _) hp6))) (by rw[Zp]; omega)
  .-- up right
   refine⟨_,rfl,a,dx,_,rfl,hp,xbl (by decide +kernel),_,rfl,_,rfl,_,rfl,a,dp,do_,pw,ph,ps,nm,pt,false,r,rfl,pic,hn,hf,r1,r2,fun H1 s1=>?_⟩;refine⟨_,rfl,a,dx,_,rfl,s1 _ _ hp,xbl (by decide +kernel),_,rfl,a,dp,do_,pw,ph,ps,nm,pt,rfl,Pic.same s1 pic,hn,hf,fun H2 q2 s2 hq2=>⟨q2,_,rfl,SqT.of hq2,rfl,_,_,rfl,_,_,rfl,rfl,?_⟩⟩;refine⟨_,rfl,_,rfl,a,_,dx,_,_,rfl,(s2 _ _ (s1 _ _ hp)),T.c_d,T.n_bb,lkW,false,pw,rfl,fun p H3 hp3 sd3 s3=>?_⟩;refine⟨_,rfl,_,rfl,_,_,rfl,rfl,_,rfl,ifN (decide_eq_false hd) ⟨1,rfl,?_⟩⟩;refine⟨_,rfl,_,rfl,_,rfl,pt.y,r,(-1),rfl,⟨by omega,by omega,by omega,by omega⟩,.inr ⟨rfl,fun l1 hl1=>?_⟩⟩;refine xb7 (fun i=>(pt.x,pt.y+(i:Int)*(-1))) hl1 (by omega) (fun i H R _ k=>⟨_,rfl,_,rfl,(by exact leS2),k⟩) fun H4 qs1 s4 hu4 cu4=>?_;obtain⟨ds,hs⟩:=id sd3;have hs4:H4 p=some (.ins t.C_r ds [("width",.int pw)]):=s4 _ _ hs;have sd4:xei t H4 p false pw:=⟨ds,hs4⟩
   refine⟨_,rfl,.inr ⟨_,rfl,p,ds,_,rfl,hs4,lno (by decide +kernel),p,pw,rfl,sd4,.inr ⟨_,rfl,p,ds,_,rfl,hs4,lno (by decide +kernel),_,rfl,_,_,rfl,rfl,.inr ⟨_,rfl,p,ds,_,rfl,hs4,lno (by decide +kernel),_,rfl,pt.x,_,1,rfl,⟨by omega,by omega,by omega,by omega⟩,.inl ⟨rfl,fun l2 hl2=>?_⟩⟩⟩⟩⟩;refine xb7 (fun i=>(pt.x+(i:Int)*1,r)) hl2 (by omega) (fun i H R _ k=>⟨_,rfl,_,rfl,(by exact leS2),k⟩) fun H5 qs2 s5 hu5 cu5=>?_;have c1:xap H5 (Geo.upL pt.x pt.y r) qs1:=by
    have e:Geo.upL pt.x pt.y r=(Z0 (pt.y-r).toNat).map fun (i:Nat)=>(pt.x,pt.y+(i:Int)*(-1)):=by unfold Geo.upL Geo.upN Geo.dn; rw[if_neg hd,if_neg hd]
    rw[e];exact cu4.keep (Same.tups s5)
   have c2:xap H5 (Geo.lvL pw pt.x false r) qs2:=by
    have e:Geo.lvL pw pt.x false r=(Z0 (pw+1+1-pt.x).toNat).map fun (i:Nat)=>(pt.x+(i:Int)*1,r):=by
     unfold Geo.lvL Geo.lvN Geo.wayI;simp only[if_true,Jh,if_false];rw[show (pw+2-pt.x).toNat=(pw+1+1-pt.x).toNat from by omega]
    rw[e];exact cu5
   have l1':=c1.len;have l2':=c2.len;have b1:(Geo.upL pt.x pt.y r).length<17:=by unfold Geo.upL Geo.upN; rw[Za,Zr]; split<;>omega
   have b2:(Geo.lvL pw pt.x false r).length<33:=by unfold Geo.lvL Geo.lvN; rw[Za,Zr]; split<;>omega
   refine⟨_,rfl,_,rfl,l1,l2,_,_,rfl,rfl,s5 _ _ hu4,hu5,(by rw[Za,Za]; exact J7 (Jm (by omega:qs1.length+qs2.length<100) (by decide))),fun p6 hp6=>?_⟩;refine q _ p6 (qs1++qs2) (xaa (((s1.trans s2).trans s3).trans (s4.trans s5)) hp6) (by rw[Z4]; exact xh) ((c1.append c2).keep (Same.tups (xaa (Same.refl _) hp6))) (by rw[Zp]; omega)
  .-- up left
   refine⟨_,rfl,a,dx,_,rfl,hp,xbl (by decide +kernel),_,rfl,_,rfl,_,rfl,a,dp,do_,pw,ph,ps,nm,pt,true,r,rfl,pic,hn,hf,r1,r2,fun H1 s1=>?_⟩;refine⟨_,rfl,a,dx,_,rfl,s1 _ _ hp,xbl (by decide +kernel),_,rfl,a,dp,do_,pw,ph,ps,nm,pt,rfl,Pic.same s1 pic,hn,hf,fun H2 q2 s2 hq2=>⟨q2,_,rfl,SqT.of hq2,rfl,_,_,rfl,_,_,rfl,rfl,?_⟩⟩;refine⟨_,rfl,_,rfl,a,_,dx,_,_,rfl,(s2 _ _ (s1 _ _ hp)),T.c_d,T.n_bb,lkW,true,pw,rfl,fun p H3 hp3 sd3 s3=>?_⟩;refine⟨_,rfl,_,rfl,_,_,rfl,rfl,_,rfl,ifN (decide_eq_false hd) ⟨1,rfl,?_⟩⟩;refine⟨_,rfl,_,rfl,_,rfl,pt.y,r,(-1),rfl,⟨by omega,by omega,by omega,by omega⟩,.inr ⟨rfl,fun l1 hl1=>?_⟩⟩;refine xb7 (fun i=>(pt.x,pt.y+(i:Int)*(-1))) hl1 (by omega) (fun i H R _ k=>⟨_,rfl,_,rfl,(by exact leS2),k⟩) fun H4 qs1 s4 hu4 cu4=>?_;obtain⟨ds,hs⟩:=id sd3;have hs4:H4 p=some (.ins t.C_af ds [("width",.int pw)]):=s4 _ _ hs;have sd4:xei t H4 p true pw:=⟨ds,hs4⟩
   refine⟨_,rfl,.inl ⟨_,rfl,p,ds,_,rfl,hs4,lno (by decide +kernel),_,rfl,.inl ⟨_,rfl,p,ds,_,rfl,hs4,lno (by decide +kernel),_,rfl,_,_,rfl,rfl,.inl ⟨_,rfl,p,ds,_,rfl,hs4,lno (by decide +kernel),_,rfl,pt.x,_,(-1),rfl,⟨by omega,by omega,by omega,by omega⟩,.inr ⟨rfl,fun l2 hl2=>?_⟩⟩⟩⟩⟩;refine xb7 (fun i=>(pt.x+(i:Int)*(-1),r)) hl2 (by omega) (fun i H R _ k=>⟨_,rfl,_,rfl,(by exact leS2),k⟩) fun H5 qs2 s5 hu5 cu5=>?_;have c1:xap H5 (Geo.upL pt.x pt.y r) qs1:=by
    have e:Geo.upL pt.x pt.y r=(Z0 (pt.y-r).toNat).map fun (i:Nat)=>(pt.x,pt.y+(i:Int)*(-1)):=by unfold Geo.upL Geo.upN Geo.dn; rw[if_neg hd,if_neg hd]
    rw[e];exact cu4.keep (Same.tups s5)
   have c2:xap H5 (Geo.lvL pw pt.x true r) qs2:=by
    have e:Geo.lvL pw pt.x true r=(Z0 (pt.x-(0+-1)).toNat).map fun (i:Nat)=>(pt.x+(i:Int)*(-1),r):=by
     unfold Geo.lvL Geo.lvN Geo.wayI;simp only[if_true,Jh,if_false];rw[show (pt.x+1).toNat=(pt.x-(0+-1)).toNat from by omega]
    rw[e];exact cu5
   have l1':=c1.len;have l2':=c2.len;have b1:(Geo.upL pt.x pt.y r).length<17:=by unfold Geo.upL Geo.upN; rw[Za,Zr]; split<;>omega
   have b2:(Geo.lvL pw pt.x true r).length<33:=by unfold Geo.lvL Geo.lvN; rw[Za,Zr]; split<;>omega
   refine⟨_,rfl,_,rfl,l1,l2,_,_,rfl,rfl,s5 _ _ hu4,hu5,(by rw[Za,Za]; exact J7 (Jm (by omega:qs1.length+qs2.length<100) (by decide))),fun p6 hp6=>?_⟩;refine q _ p6 (qs1++qs2) (xaa (((s1.trans s2).trans s3).trans (s4.trans s5)) hp6) (by rw[Z4]; exact xh) ((c1.append c2).keep (Same.tups (xaa (Same.refl _) hp6))) (by rw[Zp]; omega)
theorem lkO {w h:Int}{dp do_:Addr}:(picF w h dp do_).lookup ("opened":Str)=some (.ref do_):=by
 unfold picF;rw[Zz,show (("opened":Str) == "width")=false from by decide +kernel];show Jd ("opened":Str) [("height",V.int h),("placed",V.ref dp),("opened",V.ref do_)]=_;rw[Zz,show (("opened":Str) == "height")=false from by decide +kernel];show Jd ("opened":Str) [("placed",V.ref dp),("opened",V.ref do_)]=_;rw[Zz,show (("opened":Str) == "placed")=false from by decide +kernel];show Jd ("opened":Str) [("opened",V.ref do_)]=_;rw[Zz,show (("opened":Str) == "opened")=true from by decide +kernel]
abbrev Seat:=Bool × Int
def xa3 (s:Seat):List Key:=[.inr (xax s.1),.inl s.2]
def xb8 (s:Seat):List V:=[.str (xax s.1),.int s.2]
theorem xjv {a b:Bool} (h:xax a=xax b):a=b:=by
 cases a<;>cases b<;>first|rfl|exact absurd h (by decide +kernel)
theorem xjf {s t:Seat} (h:xa3 s=xa3 t):s=t:=by
 simp only[xa3,JV.injEq,Jl.injEq,YF.injEq] at h;exact Prod.ext (xjv h.1) h.2.1
def Sts (H:Hp) (do_:Addr) (ss:List Seat):Prop:=∃ kvs:List (List Key × V),H do_=some (.dT kvs)/\kvs.map (·.1)=ss.map xa3/\ss.Nodup/\ss.length<=32
theorem Sts.same {H H':Hp}{do_:Addr}{ss:List Seat} (s:Same H H') (h:Sts H do_ ss):Sts H' do_ ss:=let ⟨k,e,r⟩:=h; ⟨k,s _ _ e,r⟩
theorem xug {kvs:List (List Key × V)}{ss:List Seat} (e:kvs.map (·.1)=ss.map xa3) {s:Seat} (h:s∉ss):valV kvs (xa3 s)=none:=by
 cases z:valV kvs (xa3 s) with
 | none=>rfl
 | some v =>
  obtain⟨i,hi⟩:=xi8 z;have m:xa3 s∈kvs.map (·.1):=Zh.mpr ⟨_,Zk hi,rfl⟩;rw[e] at m;obtain⟨t,ht,et⟩:=Zh.mp m;exact absurd ht (by rw[xjf et]; exact h)
inductive xac (H:Hp):List Seat->List Addr->Prop
 | nil:xac H [] []
 | cons {s:Seat}{q:Addr}{ss:List Seat}{qs:List Addr} (h:H q=some (.tup (xb8 s))) (r:xac H ss qs):xac H (s::ss) (q::qs)
theorem xac.keep {H H':Hp} (k:Tups H H') {ss:List Seat}{qs:List Addr} (h:xac H ss qs):xac H' ss qs:=by
 induction h with
 | nil=>exact .nil
 | cons h _ ih=>exact .cons (k _ _ h) ih
theorem xac.len {H:Hp}{ss:List Seat}{qs:List Addr} (h:xac H ss qs):qs.length=ss.length:=by
 induction h with
 | nil=>rfl
 | cons _ _ ih=>simp[ih]
def xci (s t:Seat):Prop:=(s.1=true/\t.1=false)\/(s.1=t.1/\s.2<t.2)
theorem xk7 {s t:Seat} (h:lexK (xa3 s) (xa3 t)=true):xci s t:=by
 obtain⟨a,i⟩:=s;obtain⟨b,j⟩:=t;unfold xa3 at h;unfold lexK at h;by_cases e:xax a=xax b
 .rw [if_pos (by rw[e])] at h;unfold lexK at h;by_cases e2:i=j
  .rw [if_pos (by rw[e2])] at h;unfold lexK at h;cases h
  .rw [if_neg (fun z=>e2 (YF.inj z))] at h;exact .inr ⟨xjv e,of_decide_eq_true h⟩
 .rw [if_neg (fun z=>e (Jl.inj z))] at h;cases a<;>cases b
  .exact absurd rfl e
  .exact absurd h (by show ¬ xdj (.inr (xax false)) (.inr (xax true))=true; decide +kernel)
  .exact .inl ⟨rfl,rfl⟩
  .exact absurd rfl e
def unK:List Key->Seat
 | [.inr s,.inl r]=>(decide (s="left"),r)
 | _=>(true,0)
theorem xfj (s:Seat):unK (xa3 s)=s:=by
 obtain⟨b,r⟩:=s;cases b
 .show (decide (("right":Str)="left"),r)=_;rw[decide_eq_false (by decide +kernel)]
 .show (decide (("left":Str)="left"),r)=_;rw[decide_eq_true rfl]
inductive xt2 (t:Adr) (vs:List V) (H:Hp) (Q:VK) (_:XK):Prop
 | mk (a dp do_:Addr) (pw ph:Int) (ps:List Pt) (ss:List Seat) (b:Bool) (r:Int) (e_:vs=[.ref a,.str (xax b),.int r]) (r_:Pic t H a dp do_ pw ph ps/\Sts H do_ ss/\1<=r/\r<=ph/\(b,r)∉ss/\ss.length<32/\∀ H',(∀ c u,c≠do_->H c=some u->H' c=some u)->Pic t H' a dp do_ pw ph ps->Sts H' do_ (ss++[(b,r)])->Q .non H')
inductive xr7 (t:Adr) (vs:List V) (H:Hp) (Q:VK) (_:XK):Prop
 | mk (a dp do_:Addr) (pw ph:Int) (ps:List Pt) (ss:List Seat) (e_:vs=[.ref a]) (r_:Pic t H a dp do_ pw ph ps/\Sts H do_ ss/\∀(l:Addr) (ss':List Seat) (qs:List Addr),H l=none->xac H ss' qs->ss'.Perm ss->ss'.Pairwise xci->Q (.ref l) (upd H l (.lst (qs.map V.ref))))
theorem Pic.but {t:Adr}{H H':Hp}{a dp do_:Addr}{w h:Int}{ps:List Pt}{kvs:List (List Key × V)} (e:H do_=some (.dT kvs)) (s:∀ c u,c≠do_->H c=some u->H' c=some u) (p:Pic t H a dp do_ w h ps):Pic t H' a dp do_ w h ps :=
 ⟨let ⟨dx,x⟩:=p.ins; ⟨dx,s _ _ (ne_f x e) x⟩,let ⟨k,x,q⟩:=p.pl; ⟨k,s _ _ (ne_f x e) x,q.keep fun b xs x=>s _ _ (ne_f x e) x⟩,p.w1,p.w2,p.h1,p.h2,p.len⟩
theorem ok_k (T:Txt w K mg t):FnOk true P w K mg base (CXo P w) 5 t.f_k t.d_k ["self", "side", "row"] (xt2 t):=by
 refine T.F_k.okn (k:=4) sc_k (fun vs H Q E h=>?_) (fun cdv A outer s H vs Q E hr h=>?_)
 .obtain ⟨a,dp,do_,pw,ph,ps,ss,b,r,rfl,_⟩:=h;rfl
 .obtain ⟨a,dp,do_,pw,ph,ps,ss,b,r,rfl,h⟩:=h;refine⟨_,xj (xa6 (xa0 (pv 0) T.c_d T.m_f (ok_f T) (hmm hr) T.b_f .nil xn (xb (pv 1) (xb (pv 2) (xf)))))
   (xj (xad (xdg (xf3 (xag hr) (x9 (xb (pv 1) (xb (pv 2) (xf)))) (xae (pv 0) rfl))) (xk (xbb)) (x4))
   (xk (xbv (xag hr) (xae (pv 0) rfl) (x9 (xb (pv 1) (xb (pv 2) (xf)))) (xes) rfl))),?_⟩
  obtain⟨pic,st,r1,r2,no,len,q⟩:=h;obtain⟨⟨dx,hp⟩,_,_⟩:=id pic;obtain⟨kvs,hk,ek,nd,l32⟩:=id st;refine⟨_,rfl,a,dx,_,rfl,hp,xbl (by decide +kernel),_,rfl,_,rfl,a,dp,do_,pw,ph,ps,b,r,rfl,pic,r1,r2,fun H1 s1=>?_⟩;refine⟨_,rfl,_,rfl,(by exact leS2),fun q1 hq1=>?_⟩;generalize eu:upd H1 q1 (.tup [.str (xax b),.int r])=H2;have s2:=su_e hq1 eu;have g2:=ug_e eu;have hk2:=s2 _ _ (s1 _ _ hk);have hp2:=s2 _ _ (s1 _ _ hp);have n0:valV kvs (xa3 (b,r))=none:=xug ek no;refine⟨_,rfl,a,_,dx,_,_,rfl,hp2,T.c_d,T.n_bg,lkO,do_,none,rfl,(by rw[<- n0]; exact DGet.t (k:=xa3 (b,r)) hk2 g2),false,rfl,iteF ?_⟩;refine⟨_,rfl,a,_,dx,_,_,rfl,hp2,T.c_d,T.n_bg,lkO,_,rfl,_,rfl,(by exact leS2),fun q3 hq3=>?_⟩;generalize eu:upd H2 q3 (.tup [.str (xax b),.int r])=H3;have s3:=su_e hq3 eu;have g3:=ug_e eu;have kl:kvs.length=ss.length:=by
   have:=congrArg Qq ek;simpa using this
  refine⟨do_,_,rfl,DPut.t (k:=xa3 (b,r)) (s3 _ _ hk2) g3 (Jm (by omega:kvs.length<33) (by decide)),?_⟩;have bt:∀ c u,c≠do_->H c=some u->upd H3 do_ (.dT (putK kvs (xa3 (b,r)) (.bl true))) c=some u:=fun c u nc e=>by
   rw[xg nc];exact s3 _ _ (s2 _ _ (s1 _ _ e))
  refine q _ bt (Pic.but hk bt pic) ⟨_,xh,?_,?_,?_⟩
  .rw [xcr _ n0,Z4,Z4,ek];rfl
  .rw [Ja];exact⟨nd,by simp,fun x hx y hy=>by rw[Z6.mp hy]; exact fun e=>no (e▸hx)⟩
  .rw [Zp];show ss.length+1<=32;omega
theorem ok_x (T:Txt w K mg t):FnOk true P w K mg base (CXo P w) 1 t.f_x t.d_x ["self"] (xr7 t):=by
 refine T.F_x.okn (k:=0) sc_x (fun vs H Q E h=>?_) (fun cdv A outer s H vs Q E hr h=>?_)
 .obtain ⟨a,dp,do_,pw,ph,ps,ss,rfl,_⟩:=h;rfl
 .obtain ⟨a,dp,do_,pw,ph,ps,ss,rfl,h⟩:=h;refine⟨_,xk (xz (x5 (xkv rfl) rfl T.n_sorted PyProof.Rows.Boot.«sorted» (xb (xae (pv 0) rfl) (xf)))),?_⟩;obtain⟨pic,st,q⟩:=h;obtain⟨⟨dx,hp⟩,_,_⟩:=id pic;obtain⟨kvs,hk,ek,nd,l32⟩:=id st;have kl:kvs.length=ss.length:=by
   have:=congrArg Qq ek;simpa using this
  refine⟨_,rfl,a,_,dx,_,_,rfl,hp,T.c_d,T.n_bg,lkO,do_,kvs,[false,true],rfl,hk,by omega,fun p hp'=>?_,by decide,fun l ts fr tm pm pw'=>?_⟩
  .have m:p.1∈kvs.map (·.1):=Zh.mpr ⟨p,hp',rfl⟩;rw[ek] at m;obtain⟨s,_,e⟩:=Zh.mp m;rw[<- e];rfl
  rw[ek] at pm;have back:∀ t∈ts,xa3 (unK t.1)=t.1:=fun t ht=>by
   obtain⟨s,_,e⟩:=Zh.mp (pm.mem_iff.mp (Zh.mpr ⟨t,ht,rfl⟩));rw[<- e,xfj]
  have z:=q l ((ts.map (·.1)).map unK) (ts.map (·.2)) fr ?_ ?_ ?_
  .rw [Z3] at z;exact z
  .clear pm pw'
   induction ts with
   | nil=>exact .nil
   | cons t ts ih =>
    refine .cons ?_ (ih (fun x hx=>tm x (Zt _ hx)) fun x hx=>back x (Zt _ hx));have e:=tm t Zv;rw[<- back t Zv] at e;exact e
  .have z2:=pm.map unK;have e2:(ss.map xa3).map unK=ss:=by
    rw[Z3,show (unK∘xa3)=id from funext xfj];exact List.map_id _
   rw[e2] at z2;exact z2
  .rw [ZB] at pw';rw[Z3,ZB];refine pw'.imp_of_mem fun {x y} hx hy hxy=>xk7 ?_;show lexK (xa3 (unK x.1)) (xa3 (unK y.1))=true;rw[back x hx,back y hy];exact hxy
def SsOk (h:Int) (ss:List Seat):Prop:=ss.Nodup/\ss.length<=32/\∀ s∈ss,1<=s.2/\s.2<=h
theorem xac.get {H:Hp}{ss:List Seat}{qs:List Addr} (h:xac H ss qs) {i:Nat}{q:Addr} (e:qs[i]?=some q):∃ s,ss[i]?=some s/\H q=some (.tup (xb8 s)):=by
 induction h generalizing i with
 | nil=>simp at e
 | @cons s q' ss qs h _ ih =>
  cases i with
  | zero =>
   simp at e;subst e;exact⟨s,rfl,h⟩
  | succ j=>exact ih (by simpa using e)
theorem nd_map {α β:Type}{f:α->β} (inj:∀ a b,f a=f b->a=b) {l:List α} (h:l.Nodup):(l.map f).Nodup:=by
 rw[List.nodup_iff_pairwise_ne,ZB];exact h.imp fun hne e=>hne (inj _ _ e)
theorem xac.snoc {H:Hp}{ss:List Seat}{qs:List Addr} (h:xac H ss qs) {s:Seat}{q:Addr} (e:H q=some (.tup (xb8 s))):xac H (ss++[s]) (qs++[q]):=by
 induction h with
 | nil=>exact .cons e .nil
 | cons h _ ih=>exact .cons h ih
theorem xc2 {α:Type}{R:α->α->Prop} (as:∀ a b,R a b->¬ R b a):∀{l l':List α},l.Perm l'->l.Pairwise R->l'.Pairwise R->l=l'
 | [],l',p,_,_=>(Wg.nil_eq p)
 | a::t,[],p,_,_=>absurd p.symm (by intro z; exact absurd (Wg.nil_eq z) (by simp))
 | a::t,b::t',p,h,h'=>by
  have h1:=Qm.mp h;have h2:=Qm.mp h';by_cases e:a=b
  .subst e;rw[xc2 as ((List.perm_cons a).mp p) h1.2 h2.2]
  .have ma:a∈t':=by
    have:=p.mem_iff.mp (Zv (a:=a) (l:=t));rcases Zy.mp this with z|z
    .exact absurd z e
    .exact z
   have mb:b∈t:=by
    have:=p.mem_iff.mpr (Zv (a:=b) (l:=t'));rcases Zy.mp this with z|z
    .exact absurd z.symm e
    .exact z
   exact absurd (h2.1 a ma) (as _ _ (h1.1 b mb))
theorem xge (a b:Seat) (h:xci a b):¬ xci b a:=by
 rintro (⟨x,y⟩|⟨x,y⟩)<;>rcases h with⟨z,w⟩|⟨z,w⟩
 .rw [x] at w; cases w
 .rw [x,y] at z; cases z
 .rw [z,w] at x; cases x
 .omega
def xrm (s:Seat):DV:=.tup [.str (xax s.1),.int s.2]
theorem xs7 {K:Zd}{H:Hp}{q:Addr}{s:Seat} (h:H q=some (.tup (xb8 s))):Dv K H 1 (.ref q) (xrm s):=by
 refine .tup (SqT.of h) rfl fun j x d h1 h2=>?_
 match j,h1,h2 with
 | 0,h1,h2=>cases h1; cases h2; exact .str
 | 1,h1,h2=>cases h1; cases h2; exact .int
 | j+2,h1,h2=>simp[xb8] at h1
theorem xac.dv {K:Zd}{H:Hp}{ss:List Seat}{qs:List Addr} (h:xac H ss qs) {l:Addr} (e:H l=some (.lst (qs.map V.ref))):Dv K H 2 (.ref l) (.lst (ss.map xrm)):=by
 refine .lst (SqL.of e) (by rw[Za,Za,h.len]) fun j x d h1 h2=>?_;rw[Ze] at h1 h2;obtain⟨q,hq,rfl⟩:=Zj.mp h1;obtain⟨p,hp,rfl⟩:=Zj.mp h2;obtain⟨p',hp',e'⟩:=h.get hq;rw[hp] at hp';cases hp';exact xs7 e'
theorem xac.pick {H:Hp}:∀{ss:List Seat}{ys:List V},ys.length=ss.length->(∀(j:Nat) (y:V) (s:Seat),ys[j]?=some y->ss[j]?=some s->∃ q,y=.ref q/\H q=some (.tup (xb8 s)))->∃ rs:List Addr,ys=rs.map V.ref/\xac H ss rs
 | [],[],_,_=>⟨[],rfl,.nil⟩
 | [],_::_,h,_=>by cases h
 | _::_,[],h,_=>by cases h
 | s::ss,y::ys,h,k=>by
  obtain⟨q,e,hq⟩:=k 0 y s rfl rfl;obtain⟨rs,e2,r⟩:=xac.pick (ss:=ss) (ys:=ys) (by simpa using h) fun j y s h1 h2=>k (j+1) y s (by simpa using h1) (by simpa using h2)
  exact⟨q::rs,by rw[e,e2]; rfl,.cons hq r⟩
theorem xow {α:Type} [DecidableEq α]:∀{l m:List α},l.Nodup->(∀ x∈l,x∈m)->l.length<=m.length
 | [],m,_,_=>ZZ _
 | a::l,m,nd,sub=>by
  obtain⟨h1,h2⟩:=Jf.mp nd;have ha:=sub a Zv;have z:=xow (l:=l) (m:=m.erase a) h2 (fun x hx=>(List.mem_erase_of_ne (fun e:x=a=>h1 (e▸hx))).mpr (sub x (Zt _ hx)));rw[List.length_erase_of_mem ha] at z;have:=List.length_pos_of_mem ha;rw[ZI];omega
def ptD (p:Pt):DV:=.tup [.str p.nm,.int p.x,.int p.y,.str p.sd,.int p.lo,.int p.hi]
theorem xvz {K:Zd}{H:Hp}{q:Addr}{p:Pt} (h:H q=some (.tup (.str p.nm::ptV p))):Dv K H 1 (.ref q) (ptD p):=by
 refine .tup (SqT.of h) rfl fun j x d h1 h2=>?_
 match j,h1,h2 with
 | 0,h1,h2=>cases h1; cases h2; exact .str
 | 1,h1,h2=>cases h1; cases h2; exact .int
 | 2,h1,h2=>cases h1; cases h2; exact .int
 | 3,h1,h2=>cases h1; cases h2; exact .str
 | 4,h1,h2=>cases h1; cases h2; exact .int
 | 5,h1,h2=>cases h1; cases h2; exact .int
 | j+6,h1,h2=>simp[ptV] at h1
theorem PtsL.dv {K:Zd}{H:Hp}{ps:List Pt}{qs:List Addr} (h:PtsL H ps qs) {l:Addr} (e:H l=some (.lst (qs.map V.ref))):Dv K H 2 (.ref l) (.lst (ps.map ptD)):=by
 refine .lst (SqL.of e) (by rw[Za,Za,h.len]) fun j x d h1 h2=>?_;rw[Ze] at h1 h2;obtain⟨q,hq,rfl⟩:=Zj.mp h1;obtain⟨p,hp,rfl⟩:=Zj.mp h2;obtain⟨p',hp',e'⟩:=h.get hq;rw[hp] at hp';cases hp';exact xvz e'
theorem xtv {K:Zd}{H:Hp}{q:Addr}{a b:Int} (h:H q=some (.tup [.int a,.int b])):Dv K H 1 (.ref q) (.tup [.int a,.int b]):=by
 refine .tup (SqT.of h) rfl fun j x d h1 h2=>?_
 match j,h1,h2 with
 | 0,h1,h2=>cases h1; cases h2; exact .int
 | 1,h1,h2=>cases h1; cases h2; exact .int
 | j+2,h1,h2=>simp at h1
structure PtOk (w h:Int) (p:Pt):Prop where
 nm:isNm p.nm=true
 x1:1<=p.x
 x2:p.x<=w
 y1:1<=p.y
 y2:p.y<=h
 sd:p.sd="left"\/p.sd="right"\/p.sd="both"
 l1:1<=p.lo
 l2:p.lo<=p.hi
 l3:p.hi<=h
structure xfm (w h:Int) (ps:List Pt):Prop where
 ok:∀ p∈ps,PtOk w h p
 nn:(ps.map (·.nm)).Nodup
 nx:(ps.map (·.x)).Nodup
 ny:(ps.map (·.y)).Nodup
 le:ps.length<=12
theorem xgl {α β:Type} (f:α->β) {ps:List α} (nd:(ps.map f).Nodup) {i:Nat} (hi:i<ps.length):∀ p∈ps.take i,f p≠f ps[i]:=fun p hp e=>by
 have z:=nd;rw[<- QP i ps,List.drop_eq_getElem_cons hi,Z4,Zu,Ja] at z;exact z.2.2 _ (Zh.mpr ⟨p,hp,rfl⟩) _ Zv e
theorem PtsL.pick {H:Hp}:∀{ps:List Pt}{ys:List V},ys.length=ps.length->(∀(j:Nat) (y:V) (p:Pt),ys[j]?=some y->ps[j]?=some p->∃ q,y=.ref q/\H q=some (.tup (.str p.nm::ptV p)))->∃ rs:List Addr,ys=rs.map V.ref/\PtsL H ps rs
 | [],[],_,_=>⟨[],rfl,.nil⟩
 | [],_::_,h,_=>by cases h
 | _::_,[],h,_=>by cases h
 | s::ss,y::ys,h,k=>by
  obtain⟨q,e,hq⟩:=k 0 y s rfl rfl;obtain⟨rs,e2,r⟩:=PtsL.pick (ps:=ss) (ys:=ys) (by simpa using h) fun j y s h1 h2=>k (j+1) y s (by simpa using h1) (by simpa using h2)
  exact⟨q::rs,by rw[e,e2]; rfl,.cons hq r⟩
theorem xse {ps:List Pt} (nd:(ps.map (·.nm)).Nodup) {p:Pt} (hp:p∈ps):ps.find? (fun q=>decide (q.nm=p.nm))=some p:=by
 induction ps with
 | nil=>simp at hp
 | cons a ps ih =>
  rw[Zu,Jf] at nd;rcases Zy.mp hp with z|z
  .subst z;rw[QD (by simp)]
  .have ne:¬ a.nm=p.nm:=fun y=>nd.1 (y▸Zh.mpr ⟨p,z,rfl⟩);rw[QE (by simpa using ne)];exact ih nd.2 z
theorem xac.keys {H:Hp}{ss:List Seat}{rs:List Addr} (h:xac H ss rs):∃ ts:List (List Key × Addr),ts.map (·.2)=rs/\ts.map (·.1)=ss.map xa3/\∀ t∈ts,H t.2=some (.tup (t.1.map kV)):=by
 induction h with
 | nil=>exact⟨[],rfl,rfl,fun t ht=>(nomatch ht)⟩
 | @cons s q ss qs h _ ih =>
  obtain⟨ts,h1,h2,h3⟩:=ih;refine⟨(xa3 s,q)::ts,by simp[h1],by simp[h2],fun t ht=>?_⟩;rcases Zy.mp ht with z|z
  .rw [z]; exact h
  .exact h3 t z
theorem xlu {H:Hp}{m:Addr}{s2:List Seat}{rs:List Addr}{Q:VK} (hm:H m=some (.lst (rs.map V.ref))) (sts:xac H s2 rs) (nd:s2.Nodup) (len2:s2.length<=32)
    (q:∀(l:Addr) (srt:List Seat) (qs:List Addr),H l=none->xac H srt qs->srt.Perm s2->srt.Pairwise xci->Q (.ref l) (upd H l (.lst (qs.map V.ref)))):xfn [.ref m] H Q:=by
  obtain⟨ts,e1,e2,e3⟩:=sts.keys;have lts:ts.length=s2.length:=by
    have:=congrArg Qq e2;simpa using this
  refine⟨m,ts,[false,true],rfl,?_,by omega,e3,fun t ht=>?_,by decide,?_,fun l4 ts4 fr4 pm4 pw4=>?_⟩
  . rw[hm,<- e1,Z3]
    rfl
  . obtain⟨s,_,e⟩:=Zh.mp (show t.1∈s2.map xa3 by rw[<- e2]; exact Zh.mpr ⟨t,ht,rfl⟩)
    rw[<- e];rfl
  . rw[e2]
    exact nd_map (fun a b e=>xjf e) nd
  . have back:∀ t∈ts4,xa3 (unK t.1)=t.1:=fun t ht=>by
      obtain⟨s,_,e⟩:=Zh.mp (show t.1∈s2.map xa3 by rw[<- e2]; exact Zh.mpr ⟨t,pm4.mem_iff.mp ht,rfl⟩);rw[<- e,xfj]
    have ep:((ts4.map (·.1)).map unK).Perm s2:=by
      have z:=(pm4.map (·.1)).map unK;have e4:(ts.map (·.1)).map unK=s2:=by
        rw[e2,Z3,show (unK∘xa3)=id from funext xfj];exact List.map_id _
      rw[e4] at z;exact z
    have epw:((ts4.map (·.1)).map unK).Pairwise xci:=by
      rw[ZB] at pw4;rw[Z3,ZB];refine pw4.imp_of_mem fun {x y} hx hy hxy=>xk7 ?_;show lexK (xa3 (unK x.1)) (xa3 (unK y.1))=true;rw[back x hx,back y hy];exact hxy
    have st4:xac H ((ts4.map (·.1)).map unK) (ts4.map (·.2)):=by
      have tm:∀ t∈ts4,H t.2=some (.tup (t.1.map kV)):=fun t ht=>e3 t (pm4.mem_iff.mp ht);clear pm4 pw4 ep epw
      induction ts4 with
      | nil=>exact .nil
      | cons t ts ih =>
        refine .cons ?_ (ih (fun x hx=>back x (Zt _ hx)) fun x hx=>tm x (Zt _ hx));have e:=tm t Zv;rw[<- back t Zv] at e;exact e
    have z:=q l4 _ _ fr4 st4 ep epw;rw[Z3] at z;exact z
inductive xu1 (t:Adr) (vs:List V) (H:Hp) (Q:VK) (_:XK):Prop
 | mk (w h:Int) (l m:Addr) (ps:List Pt) (qs:List Addr) (ss:List Seat) (rs:List Addr) (e_:vs=[.int w,.int h,.ref l,.ref m]) (r_:(1<=w/\w<=30/\1<=h/\h<=16)/\H l=some (.lst (qs.map V.ref))/\PtsL H ps qs/\xfm w h ps/\H m=some (.lst (rs.map V.ref))/\xac H ss rs/\SsOk h ss/\∀ H' a dp do_,Same H H'->H a=none->H dp=none->H do_=none->Pic t H' a dp do_ w h ps->Sts H' do_ ss->Q (.ref a) H')
theorem ok_z (T:Txt w K mg t):FnOk true P w K mg base (CXo P w) 6 t.f_z t.d_z ["width", "height", "points", "seats"] (xu1 t):=by
 refine T.F_z.okn (k:=5) sc_z (fun vs H Q E h=>?_) (fun cdv A outer s H vs Q E hr h=>?_)
 .obtain ⟨w,ph,l,m,ps,qs,ss,rs,rfl,_⟩:=h;rfl
 .obtain ⟨w,ph,l,m,ps,qs,ss,rs,rfl,h⟩:=h;refine⟨_,xj (xv (i:=4) sc_z.nd rfl (Zn rfl) (xgp T.k_d (ok_am T) (hmm hr) rfl T.g_d T.b_am .nil xn (xb (pv 0) (xb (pv 1) (xf)))))
   (xj (xar ZC rfl (xas (pv 2)) (xaf rfl (xq (xp (i:=5) sc_z.nd rfl (Zn rfl)) (xq (xp (i:=6) sc_z.nd rfl (Zn rfl)) (xq (xp (i:=7) sc_z.nd rfl (Zn rfl)) (xq (xp (i:=8) sc_z.nd rfl (Zn rfl)) (xq (xp (i:=9) sc_z.nd rfl (Zn rfl)) (xq (xp (i:=10) sc_z.nd rfl (Zn rfl)) (xab)))))))) (xk (xa6 (xa0 (pv 4) T.c_d T.m_a (ok_a T) (hmm hr) T.b_a .nil xn (xx (pv 5) (xx (pv 6) (xx (pv 7) (xx (pv 8) (xx (pv 9) (xx (pv 10) (xf) rfl) rfl) rfl) rfl) rfl) rfl)))))
   (xj (xar ZC rfl (xas (pv 3)) (xaf rfl (xq (xp (i:=11) sc_z.nd rfl (Zn rfl)) (xq (xp (i:=12) sc_z.nd rfl (Zn rfl)) (xab)))) (xk (xa6 (xa0 (pv 4) T.c_d T.m_k (ok_k T) (hmm hr) T.b_k .nil xn (xb (pv 11) (xb (pv 12) (xf)))))))
   (xk (xz (pv 4))))),?_⟩
  obtain⟨⟨w1,w2,h1,h2⟩,hl,pts,pok,hm,sts,⟨snd,sle,srow⟩,q⟩:=h;refine⟨_,rfl,_,rfl,fun a dx hx hdx ne=>⟨a,dx,w,ph,rfl,xh,w1,w2,h1,h2,fun H5 dp do_ hdp5 hdo5 s6 pic5 hdt=>⟨rfl,?_⟩⟩⟩;have k5:Same H H5:=fun b u e=>s6 b u (xi e hx) (by rw[xg (xi e hx),xg (xi e hdx)]; exact e);have up:∀ b,upd (upd H dx (.own a)) a (.ins t.C_d dx []) b=none->H b=none:=fun b z=>by
   cases e:H b with
   | none=>rfl
   | some u=>rw[xg (xi e hx),xg (xi e hdx),e] at z; cases z
  have fdp:=up _ hdp5;have fdo:=up _ hdo5;have pl:=pts.len;have sl:=sts.len;refine⟨_,rfl,l,rfl,⟨_,SqL.of (k5 _ _ hl)⟩,?_⟩;refine xa9 (xs:=qs.map V.ref) (Pv:=fun i Z H2=>∃ v5 v6 v7 v8 v9 v10 v11 v12:Option V,Z=[some (.int w),some (.int ph),some (.ref l),some (.ref m),some (.ref a),v5,v6,v7,v8,v9,v10,v11,v12]/\Same H H2/\Pic t H2 a dp do_ w ph (ps.take i)/\H2 do_=some (.dT [])) ⟨_,_,_,_,_,_,_,_,rfl,k5,by simpa using pic5,hdt⟩ (fun _ _ _ _ ⟨_,_,_,_,_,_,_,_,_,z,_⟩=>SqL.of (z _ _ hl)) ?_ ?_
  .rintro i v Z H2 hv ⟨v5,v6,v7,v8,v9,v10,v11,v12,rfl,s2,pic2,hd2⟩;rw[Ze] at hv;obtain⟨z,hz,rfl⟩:=Zj.mp hv;obtain⟨p,hp,ez⟩:=pts.get hz;obtain⟨hi,ep⟩:=Zf.mp hp;have ok:=pok.ok p (Zk hp);obtain⟨⟨dx2,hp2⟩,⟨kvs,hk2,_⟩,_⟩:=id pic2;have ple:=pok.le;refine⟨z,_,rfl,SqT.of (s2 _ _ ez),rfl,_,_,rfl,_,_,rfl,_,_,rfl,_,_,rfl,_,_,rfl,_,_,rfl,rfl,?_⟩;refine⟨_,rfl,a,dx2,_,rfl,hp2,xbl (by decide +kernel),_,rfl,_,rfl,_,rfl,_,rfl,_,rfl,_,rfl,?_⟩;refine⟨a,dp,do_,w,ph,ps.take i,p.nm,p.x,p.y,p.sd,p.lo,p.hi,.int p.hi,rfl,pic2,.inr rfl,ok.nm,ok.x1,ok.x2,ok.y1,ok.y2,ok.sd,ok.l1,ok.l2,ok.l3,fun p' hp'=>?_,?_,fun H3 k3 pic3=>?_⟩
   .have e:=ep.symm;subst e;exact⟨xgl _ pok.nn hi p' hp',xgl _ pok.nx hi p' hp',xgl _ pok.ny hi p' hp'⟩
   .rw [ZP];omega
   .refine ⟨_,_,_,_,_,_,_,_,rfl,fun b u e=>k3 b u (xi e fdp) (s2 b u e),?_,k3 _ _ (ne_f hd2 hk2) hd2⟩;rw[ZO,hp];exact pic3
  .rintro Z H2 ⟨v5,v6,v7,v8,v9,v10,v11,v12,rfl,s2,pic2,hd2⟩;rw[Za,pl,Jz] at pic2;refine⟨_,rfl,m,rfl,⟨_,SqL.of (s2 _ _ hm)⟩,?_⟩;refine xa9 (xs:=rs.map V.ref) (Pv:=fun i Z H3=>∃ v5 v6 v7 v8 v9 v10 v11 v12:Option V,Z=[some (.int w),some (.int ph),some (.ref l),some (.ref m),some (.ref a),v5,v6,v7,v8,v9,v10,v11,v12]/\Same H H3/\Pic t H3 a dp do_ w ph ps/\Sts H3 do_ (ss.take i)) ⟨_,_,_,_,_,_,_,_,rfl,s2,pic2,[],hd2,rfl,QZ,by simp⟩ (fun _ _ _ _ ⟨_,_,_,_,_,_,_,_,_,z,_⟩=>SqL.of (z _ _ hm)) ?_ ?_
   .rintro i v Z H3 hv ⟨v5,v6,v7,v8,v9,v10,v11,v12,rfl,s3,pic3,st3⟩;rw[Ze] at hv;obtain⟨z,hz,rfl⟩:=Zj.mp hv;obtain⟨s0,hs0,ez⟩:=sts.get hz;obtain⟨hi,es⟩:=Zf.mp hs0;obtain⟨b,r⟩:=s0;obtain⟨r1,r2⟩:=srow _ (Zk hs0);obtain⟨⟨dx3,hp3⟩,_,_⟩:=id pic3;have nin:(b,r)∉ss.take i:=fun hmem=>by
     have:=xgl id (by simpa using snd) hi _ hmem;exact this (by rw[es])
    refine⟨z,_,rfl,SqT.of (s3 _ _ ez),rfl,_,_,rfl,_,_,rfl,rfl,?_⟩;refine⟨_,rfl,a,dx3,_,rfl,hp3,xbl (by decide +kernel),_,rfl,_,rfl,?_⟩;refine⟨a,dp,do_,w,ph,ps,ss.take i,b,r,rfl,pic3,st3,r1,r2,nin,?_,fun H4 k4 pic4 st4=>?_⟩
    .rw [ZP];omega
    .refine ⟨_,_,_,_,_,_,_,_,rfl,fun c u e=>k4 c u (xi e fdo) (s3 c u e),pic4,?_⟩;rw[ZO,hs0];exact st4
   .rintro Z H3 ⟨v5,v6,v7,v8,v9,v10,v11,v12,rfl,s3,pic3,st3⟩;rw[Za,sl,Jz] at st3;exact⟨_,rfl,q H3 a dp do_ s3 hx fdp fdo pic3 st3⟩
def scD:V->DV
 | .int i=>.int i
 | .bl b=>.bl b
 | .str s=>.str s
 | _=>.non
def scV:V->Bool
 | .int _=>true
 | .bl _=>true
 | .str _=>true
 | .non=>true
 | _=>false
theorem xwd {K:Zd}{H:Hp}{v:V} (h:scV v=true):Dv K H 0 v (scD v):=by
 cases v with
 | int i=>exact .int
 | bl b=>exact .bl
 | str s=>exact .str
 | non=>exact .non
 | _=>cases h
theorem xdl {K:Zd}{H:Hp}{xs:List V} (f:xs.all scV=true) (j:Nat) (x:V) (d:DV) (h1:xs[j]?=some x) (h2:(xs.map scD)[j]?=some d):Dv K H 0 x d:=by
 rw[Ze,h1] at h2;cases h2;exact xwd (YW.mp f x (Zk h1))
inductive Er where
 | badDrawing (v0:V) (v1:V)
def Er.cls (t:Adr):Er->Addr
 | .badDrawing _ _=>t.C_b
def Er.fs:Er->List (Str × V)
 | .badDrawing v0 v1=>[("row",v0),("column",v1)]
def ErAt (t:Adr) (H:Hp) (e:Addr) (er:Er):Prop:=(er.fs=[]/\H e=some (XO e (er.cls t) none))\/(er.fs≠[]/\∃ dx,H e=some (XO e (er.cls t) (some dx))/\H dx=some (XD dx er.fs))
def xbw (t:Adr) (H H':Hp) (e:Addr) (er:Er):Prop:=Same H H'/\ErAt t H' e er
theorem xbw.pre {t:Adr}{H H1 H':Hp}{e:Addr}{er:Er} (s:Same H H1) (h:xbw t H1 H' e er):xbw t H H' e er:=⟨s.trans h.1,h.2⟩
inductive spX2 (C:Addr) (f g:Str) (vs:List V) (H:Hp) (Q:VK) (_:XK):Prop
 | mk (e:Addr) (v w:V) (e_:vs=[.ref e,v,w]) (r_:H e=some (XN e C none)/\∀ dx,H dx=none->Q .non (upd (upd (upd H dx (XD dx [(f,v)])) e (XN e C (some dx))) dx (XD dx (putF g w [(f,v)]))))
theorem lk_1 {f:Str}{v:V}{r:List (Str × V)}:((f,v)::r).lookup f=some v:=by simp
theorem lk_2 {f g:Str}{v w:V} (h:(g == f)=false):([(f,v),(g,w)]:List (Str × V)).lookup g=some w:=by
 rw[Zz,h];simp
theorem xip {t:Adr}{H:Hp}{e dx C:Addr}{er:Er}{fs fs0:List (Str × V)} (hc:er.cls t=C) (hf:er.fs=fs) (he:H e=none) (hdx:upd H e (XN e C none) dx=none) (hn:fs≠[]:=by (intro z; cases z)):xbw t H (upd (upd (upd (upd (upd H e (XN e C none)) dx (XD dx fs0)) e (XN e C (some dx))) dx (XD dx fs)) e (XO e C (some dx))) e er:=by
 have ne:dx≠e:=fun z=>by rw[z,xh] at hdx; cases hdx
 rw[xg ne] at hdx;subst hc hf;refine⟨fun y o q=>?_,.inr ⟨hn,dx,xh,?_⟩⟩
 .rw [xg (xi q he),xg (xi q hdx),xg (xi q he),xg (xi q hdx),xg (xi q he)];exact q
 .rw [xg ne,xh]
theorem xi0 {H:Hp}{e dx C:Addr}{a b c:HO} (hdx:upd H e a dx=none):upd (upd (upd (upd H e a) dx b) e (XN e C (some dx))) dx c e=some (XN e C (some dx)):=by
 have ne:dx≠e:=fun z=>by rw[z,xh] at hdx; cases hdx
 rw[xg (ZE ne),xh]
theorem ok_o (T:Txt w K mg t):FnOk true P w K mg base (CXo P w) 1 t.f_o t.d_o ["self", "row", "column"] (spX2 t.C_b "row" "column"):=by
 refine T.F_o.okn (k:=0) sc_o (fun vs H Q E h=>?_) (fun cdv A outer s H vs Q E hr h=>?_)
 .obtain ⟨e,v,w2,rfl,_⟩:=h;rfl
 .obtain ⟨e,v,w2,rfl,h⟩:=h;refine⟨_,xj (xml (pv 0) (pv 1) rfl)
   (xk (xml (pv 0) (pv 2) rfl)),?_⟩
  obtain⟨he,q⟩:=h;refine⟨_,rfl,_,rfl,e,t.C_b,rfl,T.x_b,T.n_bl,.inl ⟨he,fun dx hdx=>?_⟩⟩;have ne:dx≠e:=fun z=>by rw[z,he] at hdx; cases hdx
  exact⟨_,rfl,_,rfl,e,t.C_b,rfl,T.x_b,T.n_bi,.inr ⟨dx,_,xh,(by rw[xg ne]; exact xh),(by show 1<1000; decide),q dx hdx⟩⟩
abbrev Pr:=Pt × Bool × Int
def prV (p:Pr):List V:=[.str p.1.nm,.str (xax p.2.1),.int p.2.2]
inductive PrsL (H:Hp):List Pr->List Addr->Prop
 | nil:PrsL H [] []
 | cons {p:Pr}{q:Addr}{ps:List Pr}{qs:List Addr} (h:H q=some (.tup (prV p))) (r:PrsL H ps qs):PrsL H (p::ps) (q::qs)
theorem PrsL.keep {H H':Hp} (s:Tups H H') {ps:List Pr}{qs:List Addr} (h:PrsL H ps qs):PrsL H' ps qs:=by
 induction h with
 | nil=>exact .nil
 | cons h _ ih=>exact .cons (s _ _ h) ih
theorem PrsL.len {H:Hp}{ps:List Pr}{qs:List Addr} (h:PrsL H ps qs):qs.length=ps.length:=by
 induction h with
 | nil=>rfl
 | cons _ _ ih=>simp[ih]
theorem PrsL.snoc {H:Hp}{ps:List Pr}{qs:List Addr} (h:PrsL H ps qs) {p:Pr}{q:Addr} (e:H q=some (.tup (prV p))):PrsL H (ps++[p]) (qs++[q]):=by
 induction h with
 | nil=>exact .cons e .nil
 | cons h _ ih=>exact .cons h ih
theorem PrsL.get {H:Hp}{ps:List Pr}{qs:List Addr} (h:PrsL H ps qs) {i:Nat}{q:Addr} (e:qs[i]?=some q):∃ p,ps[i]?=some p/\H q=some (.tup (prV p)):=by
 induction h generalizing i with
 | nil=>simp at e
 | @cons p q' ps qs h _ ih =>
  cases i with
  | zero =>
   simp at e;subst e;exact⟨p,rfl,h⟩
  | succ j=>exact ih (by simpa using e)
structure PrOk (ps:List Pt) (w h:Int) (p:Pr):Prop where
 nm:isNm p.1.nm=true
 fd:ps.find? (fun z=>decide (z.nm=p.1.nm))=some p.1
 r1:1<=p.2.2
 r2:p.2.2<=h
 xy:1<=p.1.x/\p.1.x<=w/\1<=p.1.y/\p.1.y<=h
abbrev Cl:=Int × Int
def ck (c:Cl):List Key:=[.inl c.1,.inl c.2]
theorem xt3 {a b:Cl} (h:ck a=ck b):a=b:=by
 obtain⟨x,y⟩:=a;obtain⟨u,v⟩:=b;have h1:=JV.inj h;have h2:=JV.inj h1.2;rw[show x=u from YF.inj h1.1,show y=v from YF.inj h2.1]
def SD (H:Hp) (d:Addr) (n:Nat) (m:Cl->Option Str):Prop:=∃ kvs,H d=some (.dT kvs)/\kvs.length<=n/\(kvs.map (·.1)).Nodup/\(∀ kv∈kvs,∃ c,kv.1=ck c)/\∀ c,valV kvs (ck c)=(m c).map V.str
theorem xj0 {κ:Type} [DecidableEq κ] (kvs:List (κ × V)) (k:κ) (v:V):(putK kvs k v).map (·.1)=kvs.map (·.1)\/(valV kvs k=none/\(putK kvs k v).map (·.1)=kvs.map (·.1)++[k]):=by
 cases e:valV kvs k with
 | none =>
  rw[xcr v e,Z4];exact .inr ⟨rfl,rfl⟩
 | some y =>
  left;unfold putK;rw[if_pos (by rw[xdw,e]; rfl),Z3]
  congr 1
  funext kv;show (if kv.1=k then (kv.1,v) else kv).1=kv.1;split<;>rfl
theorem xhi {κ:Type} [DecidableEq κ]:∀{kvs:List (κ × V)}{k:κ},valV kvs k=none->k∉kvs.map (·.1)
 | [],_,_,h=>nomatch h
 | x::r,k,e,h=>by
  by_cases z:x.1=k
  .rw [xaq z] at e;cases e
  .rw [xao z] at e;rcases Zy.mp h with h|h
   .exact z h.symm
   .exact xhi e h
theorem xm5 {κ:Type} [DecidableEq κ] {kvs:List (κ × V)}{k:κ}{v:V} (h:(kvs.map (·.1)).Nodup):((putK kvs k v).map (·.1)).Nodup:=by
 rcases xj0 kvs k v with e|⟨e0,e⟩
 .rw [e];exact h
 .rw [e,Ja];refine⟨h,by simp,fun a ha b hb z=>xhi e0 ?_⟩;rw[Z6.mp hb] at z;exact z▸ha
theorem xlj {κ:Type} [DecidableEq κ] {kvs:List (κ × V)}{k:κ}{v:V}{P:κ->Prop} (hk:P k) (h:∀ kv∈kvs,P kv.1):∀ kv∈putK kvs k v,P kv.1:=fun kv hkv=>by
 have m:kv.1∈(putK kvs k v).map (·.1):=Zh.mpr ⟨kv,hkv,rfl⟩;rcases xj0 kvs k v with e|⟨_,e⟩
 .rw [e] at m;obtain⟨z,hz,ez⟩:=Zh.mp m;rw[<- ez];exact h z hz
 .rw [e] at m;rcases Z9.mp m with m|m
  .obtain ⟨z,hz,ez⟩:=Zh.mp m;rw[<- ez];exact h z hz
  .rw [Z6.mp m];exact hk
theorem SD.put {H:Hp}{d:Addr}{n:Nat}{m:Cl->Option Str} (s:SD H d n m) (hn:n<1000) {b:Addr}{c:Cl} (eb:H b=some (.tup [.int c.1,.int c.2])) (x:Str) :
    ∃ H',DPut H d (.ref b) (.str x) H'/\SD H' d (n+1) (Drw.set1 m c x)/\(∀ a u,a≠d->H a=some u->H' a=some u)/\∀ a,H a=none->H' a=none:=by
  obtain⟨kvs,e,l,nd,ks,vs⟩:=s;refine⟨_,DPut.t (k:=ck c) e eb (xa2 (by omega)),⟨_,xh,?_,xm5 nd,xlj (P:=fun k=>∃ c,k=ck c) ⟨c,rfl⟩ ks,fun z=>?_⟩,fun a u na ea=>by rw[xg na]; exact ea,fun a ea=>by rw[xg (fun z=>by rw[z,e] at ea; cases ea)]; exact ea⟩
  . have:=xcc kvs (ck c) (.str x)
    omega
  . rw[xk4]
    unfold Drw.set1;by_cases zc:z=c
    . rw[if_pos (by rw[zc]),if_pos zc]
      rfl
    . rw[if_neg (fun y=>zc (xt3 y)),if_neg zc]
      exact vs z
theorem SD.get {H:Hp}{d:Addr}{n:Nat}{m:Cl->Option Str} (s:SD H d n m) {b:Addr}{c:Cl} (eb:H b=some (.tup [.int c.1,.int c.2])):DGet H d (.ref b) ((m c).map V.str):=by
 obtain⟨kvs,e,l,nd,ks,vs⟩:=s;rw[<- vs c];exact DGet.t (k:=ck c) e eb
theorem SD.keep {H H':Hp}{d:Addr}{n:Nat}{m:Cl->Option Str} (s:SD H d n m) (h:∀ u,H d=some u->H' d=some u):SD H' d n m:=by
 obtain⟨kvs,e,r⟩:=s;exact⟨kvs,h _ e,r⟩
theorem SD.le {H:Hp}{d:Addr}{n k:Nat}{m:Cl->Option Str} (s:SD H d n m) (h:n<=k):SD H d k m:=by
 obtain⟨kvs,e,l,r⟩:=s;exact⟨kvs,e,by omega,r⟩
theorem SD.new {H:Hp}{d:Addr} (e:H d=some (.dT [])):SD H d 0 Drw.no:=⟨[],e,Zl _,QZ,fun _ z=>(nomatch z),fun _=>rfl⟩
def lsS (x r:Int) (c:Cl):Str:=Drw.ls (Zb "+") (Zb "|") (Zb "-") x r c
def ledS (w:Int) (p:Pr):List (Cl × Str):=Drw.ledP (Zb "+") (Zb "|") (Zb "-") w p.1.x p.1.y p.2.1 p.2.2
def hsS:Str:=Zb "#"
theorem xpr {w x y:Int}{b:Bool}{r:Int} (h1:1<=x) (h2:x<=w) (h3:w<=30) (h4:1<=y) (h5:y<=16) (h6:1<=r) (h7:r<=16):(Geo.cells w x y b r).length<=50:=by
 unfold Geo.cells Geo.upL Geo.lvL Geo.upN Geo.lvN;rw[Zp,Za,Za,Zr,Zr];split<;>split<;>omega
theorem xs2 (c d:Cl):DV.tup [.int c.1,.int c.2]=DV.tup [.int d.1,.int d.2]↔c=d:=by
 constructor
 .intro h
  have h1:=JV.inj (DV.tup.inj h);have h2:=JV.inj h1.2;exact Prod.ext (DV.int.inj h1.1) (DV.int.inj h2.1)
 .intro h
  rw[h]
inductive xr6 (vs:List V) (H:Hp) (Q:VK) (_:XK):Prop
 | mk (q:Addr) (c:Cl) (x r:Int) (e_:vs=[.ref q,.int x,.int r]) (r_:H q=some (.tup [.int c.1,.int c.2])/\∀ H',Same H H'->Q (.str (lsS x r c)) H')
inductive xqw (t:Adr) (vs:List V) (H:Hp) (Q:VK) (_:XK):Prop
 | mk (a l dp do_:Addr) (pw ph:Int) (ps:List Pt) (prs:List Pr) (qs:List Addr) (e_:vs=[.ref a,.ref l]) (r_:Pic t H a dp do_ pw ph ps/\H l=some (.lst (qs.map V.ref))/\PrsL H prs qs/\(∀ p∈prs,PrOk ps pw ph p)/\prs.length<=12/\∀ H' d,Same H H'->H d=none->SD H' d 600 (Drw.marks hsS Drw.no (prs.flatMap (ledS pw)))->Q (.ref d) H')
theorem ok_au (T:Txt w K mg t):FnOk true P w K mg base (CXo P w) 1 t.f_au t.d_au ["cell", "x", "row"] (xr6):=by
 refine T.F_au.okn (k:=0) sc_au (fun vs H Q E h=>?_) (fun cdv A outer s H vs Q E hr h=>?_)
 .obtain ⟨q,c,x,r,rfl,_⟩:=h;rfl
 .obtain ⟨q,c,x,r,rfl,h⟩:=h;refine⟨_,xj (xad (x6 (xh1 (xch hr)) (pv 0) (x9 (xb (pv 1) (xb (pv 2) (xf)))) (x8 _)) (xk (xz (xw))) (x4))
   (xk (xz (xc9 (x6 xbh (xaj xa4 (pv 0) (xm) (fun _ _=>rfl)) (pv 1) (x8 _)) (xw) (xw)))),?_⟩
  obtain⟨hq,h⟩:=h;refine⟨_,rfl,_,rfl,_,rfl,(by exact leS2),fun p1 hp1=>?_⟩;generalize eu:upd H p1 (.tup [.int x,.int r])=H1;have s1:=su_e hp1 eu;have g1:=ug_e eu;have d1:Dv K H1 1 (.ref q) (.tup [.int c.1,.int c.2]):=.tup (SqT.of (s1 _ _ hq)) rfl (xdl (xs:=[.int c.1,.int c.2]) rfl);have d2:Dv K H1 1 (.ref p1) (.tup [.int x,.int r]):=.tup (SqT.of g1) rfl (xdl (xs:=[.int x,.int r]) rfl);refine⟨1,1,_,_,d1,d2,by decide,by decide,_,rfl,?_⟩;rw[xs9 (x:=c) (y:=(x,r)) rfl rfl (xs2 c (x,r))];have e0:lsS x r c=if c=(x,r) then Zb "+" else if c.1=x then Zb "|" else Zb "-":=rfl
  refine ite2 (fun z=>?_) (fun z=>?_)
  .have e:=h H1 s1;rw[e0,if_pos (of_decide_eq_true z)] at e;exact e
  .have nz:¬ c=(x,r):=fun y=>z (decide_eq_true y);refine⟨_,rfl,q,_,0,.int c.1,rfl,rfl,SqT.of (s1 _ _ hq),rfl,_,rfl,rfl,_,rfl,?_⟩;have e:=h H1 s1;rw[e0,if_neg nz] at e;refine ite2 (fun y=>?_) (fun y=>?_)
   .have y1:c.1=x:=V.int.inj (of_decide_eq_true y);rw[if_pos y1] at e;exact e
   .have y1:¬ c.1=x:=fun w=>y (decide_eq_true (by rw[w]));rw[if_neg y1] at e;exact e
theorem ok_ad (T:Txt w K mg t):FnOk true P w K mg base (CXo P w) 7 t.f_ad t.d_ad ["picture", "pairs"] (xqw t):=by
 refine T.F_ad.okn (k:=6) sc_ad (fun vs H Q E h=>?_) (fun cdv A outer s H vs Q E hr h=>?_)
 .obtain ⟨a,l,dp,do_,pw,ph,ps,prs,qs,rfl,_⟩:=h;rfl
 .obtain ⟨a,l,dp,do_,pw,ph,ps,prs,qs,rfl,h⟩:=h;refine⟨_,xj (xv (i:=2) sc_ad.nd rfl (Zn rfl) (xg9))
   (xj (xar ZC rfl (xas (pv 1)) (xaf rfl (xq (xp (i:=3) sc_ad.nd rfl (Zn rfl)) (xq (xp (i:=4) sc_ad.nd rfl (Zn rfl)) (xq (xp (i:=5) sc_ad.nd rfl (Zn rfl)) (xab))))) (xj (xd2 (xa0 (pv 0) T.c_d T.m_g (ok_g T) (hmm hr) T.b_g .nil xn (xb (pv 3) (xf))) (xaf rfl (xq (xp (i:=6) sc_ad.nd rfl (Zn rfl)) (xq (xp (i:=7) sc_ad.nd rfl (Zn rfl)) (xab)))))
   (xk (xar ZC rfl (xas (xr (ok_a5 T) (hmm hr) rfl T.g_a5 T.F_a5.kp T.b_a5 .nil xn (xb (pv 0) (xb (pv 3) (xb (pv 4) (xb (pv 5) (xf))))))) (xp (i:=8) sc_ad.nd rfl (Zn rfl)) (xk (xbv (xag hr) (pv 2) (pv 8) (xc9 (xdg (xf3 (xag hr) (pv 8) (pv 2))) (xw) (xr (ok_au T) (hmm hr) rfl T.g_au T.F_au.kp T.b_au .nil xn (xb (pv 8) (xb (pv 6) (xb (pv 5) (xf)))))) rfl))))))
   (xk (xz (pv 2)))),?_⟩
  obtain⟨pic,hl,prl,oks,l12,q⟩:=h;have pll:=prl.len;refine fun d hd=>?_;generalize eu:upd H d (.dT [])=H1;have s1:=su_e hd eu;have g1:=ug_e eu;refine⟨_,rfl,l,rfl,⟨_,SqL.of (s1 _ _ hl)⟩,?_⟩;refine xa9 (xs:=qs.map V.ref) (Pv:=fun i Z H5=>∃(v3 v4 v5 v6 v7 v8:Option V),Z=[some (.ref a),some (.ref l),some (.ref d),v3,v4,v5,v6,v7,v8]/\Same H H5/\SD H5 d (50*i) (Drw.marks hsS Drw.no ((prs.take i).flatMap (ledS pw)))) ⟨_,_,_,_,_,_,rfl,s1,SD.new g1⟩ ?_ ?_ ?_
  .rintro i Z H5 _ ⟨_,_,_,_,_,_,rfl,s5,_⟩;exact SqL.of (s5 _ _ hl)
  .rintro i x Z H5 hx ⟨v3,v4,v5,v6,v7,v8,rfl,s5,sd⟩;rw[Ze,Zj] at hx;obtain⟨qa,hqa,rfl⟩:=hx;obtain⟨⟨pt,b,r⟩,hp,hpq⟩:=prl.get hqa;have ok:=oks _ (Zk hp);have i12:i<12:=by have:=(Zf.mp hp).1; omega
   have w2:=pic.w2;have h2:=pic.h2;have xy:1<=pt.x/\pt.x<=pw/\1<=pt.y/\pt.y<=ph:=ok.xy;have r1:1<=r:=ok.r1;have r2:r<=ph:=ok.r2;refine⟨qa,_,rfl,SqT.of (s5 _ _ hpq),rfl,_,_,rfl,_,_,rfl,_,_,rfl,rfl,?_⟩;have pic5:=Pic.same s5 pic;obtain⟨⟨dx,hpi⟩,_⟩:=id pic5;refine⟨_,rfl,a,dx,_,rfl,hpi,xbl (by decide +kernel),_,rfl,a,dp,do_,pw,ph,ps,pt.nm,pt,rfl,pic5,ok.nm,ok.fd,fun H6 q6 s6 hq6=>⟨q6,_,rfl,SqT.of hq6,rfl,_,_,rfl,_,_,rfl,rfl,?_⟩⟩;refine⟨_,rfl,_,rfl,_,rfl,_,rfl,a,dp,do_,pw,ph,ps,pt.nm,pt,b,r,rfl,Pic.same s6 pic5,ok.nm,ok.fd,ok.r1,ok.r2,ok.xy,fun H7 l7 cq s7 hl7 cl7 c100=>⟨l7,rfl,⟨_,SqL.of hl7⟩,?_⟩⟩;have sd7:=sd.keep (H':=H7) (fun u e=>s7 _ _ (s6 _ _ e));have ne7:l7≠d:=by
    obtain⟨kvs,e,_⟩:=sd7;exact ne_f hl7 e
   have cll:=cl7.len;have c50:=xpr (b:=b) xy.1 xy.2.1 w2 xy.2.2.1 (by omega) r1 (by omega);have ll:(ledS pw (pt,b,r)).length=cq.length:=by
    unfold ledS Drw.ledP;rw[Za,cll]
   refine xa9 (xs:=cq.map V.ref) (Pv:=fun j Z H8=>∃(v8:Option V),Z=[some (.ref a),some (.ref l),some (.ref d),some (.str pt.nm),some (.str (xax b)),some (.int r),some (.int pt.x),some (.int pt.y),v8]/\(∀ c u,c≠d->H7 c=some u->H8 c=some u)/\SD H8 d (50*i+j) (Drw.marks hsS (Drw.marks hsS Drw.no ((prs.take i).flatMap (ledS pw))) ((ledS pw (pt,b,r)).take j))) ⟨_,rfl,fun c u _ e=>e,sd7⟩ ?_ ?_ ?_
   .rintro j Z H8 _ ⟨_,rfl,k8,_⟩;exact SqL.of (k8 _ _ ne7 hl7)
   .rintro j x Z H8 hx ⟨v8,rfl,k8,sd8⟩;rw[Ze,Zj] at hx;obtain⟨qc,hqc,rfl⟩:=hx;obtain⟨c,hc,hc7⟩:=cl7.get hqc;have j50:j<50:=by have:=(Zf.mp hqc).1; omega
    have nqc:qc≠d:=by
     obtain⟨kvs,e,_⟩:=sd7;exact ne_f hc7 e
    have hc8:=k8 _ _ nqc hc7;have stp:∀ m:Cl->Option Str,Drw.marks hsS m ((ledS pw (pt,b,r)).take (j+1))=Drw.mark1 hsS (Drw.marks hsS m ((ledS pw (pt,b,r)).take j)) c (lsS pt.x r c):=fun m=>by
     have e:(ledS pw (pt,b,r))[j]?=some (c,lsS pt.x r c):=by
      unfold ledS Drw.ledP;rw[Ze,hc];rfl
     rw[ZO,e];unfold Drw.marks;rw[Yt];rfl
    refine⟨_,rfl,_,rfl,d,_,rfl,sd8.get hc8,_,rfl,ite2 (fun z=>?_) (fun z=>?_)⟩
    .rw [JL] at z;obtain⟨H9,dput,sd9,k9,_⟩:=sd8.put (by omega) hc8 hsS;refine⟨_,rfl,_,rfl,d,H9,rfl,dput,_,rfl,fun c u nc e=>k9 _ _ nc (k8 _ _ nc e),?_⟩;rw[stp];unfold Drw.mark1;rw[if_pos z];exact sd9
    .rw [JL] at z;refine⟨_,rfl,_,rfl,_,rfl,qc,c,pt.x,r,rfl,hc8,fun H9 s9=>?_⟩;obtain⟨H10,dput,sd10,k10,_⟩:=(sd8.keep (H':=H9) (fun u e=>s9 _ _ e)).put (by omega) (s9 _ _ hc8) (lsS pt.x r c);refine⟨_,rfl,_,rfl,d,H10,rfl,dput,_,rfl,fun c u nc e=>k10 _ _ nc (s9 _ _ (k8 _ _ nc e)),?_⟩;rw[stp];unfold Drw.mark1;rw[if_neg z];exact sd10
   .rintro Z H8 ⟨v8',rfl,k8,sd8⟩;rw[Za] at sd8;refine⟨_,_,_,_,_,_,rfl,fun c u e=>k8 _ _ (xi e hd) (s7 _ _ (s6 _ _ (s5 _ _ e))),?_⟩;rw[ZY (l:=ledS pw (pt,b,r)) (by omega)] at sd8;have e:(prs.take (i+1)).flatMap (ledS pw)=(prs.take i).flatMap (ledS pw)++ledS pw (pt,b,r):=by
     rw[ZO,hp,Y3];exact congrArg _ (Jx _)
    rw[e];refine SD.le ?_ (show 50*i+cq.length<=50*(i+1) by omega);unfold Drw.marks at sd8 ⊢;rw[Yt];exact sd8
  .rintro Z H5 ⟨v3,v4,v5,v6,v7,v8,rfl,s5,sd⟩;refine⟨_,rfl,q H5 d s5 hd ?_⟩;rw[Za,ZY (by omega)] at sd;exact sd.le (by omega)
theorem xhg {lo:Int}{m n:Nat}{g:TG}{Z:L2.St}{fr:List Nat}{te:TE}{l:Addr}{H1:Hp}{Q:VK} (hlen:m<sizeLine) (hl:H1 l=none) (f:Nat->V)
    (step:∀(i:Nat) H2,i<m->Same H1 H2->∀(N:V->Hp->Prop),(∀ H',Same H2 H'->N (f i) H')->g (.int (lo+i)) (blk0 Z fr n) H2 fun σ' H3=>te σ' H3 N)
    (fin:∀ H2,Same H1 H2->H2 l=some (.lst ((Z0 m).map f))->Q (.ref l) H2):xcz (Itr lo m) n g Z fr xdh te l H1 Q:=by
  refine xdp hlen hl (fun i y _=>y=f i) (fun _ _ _ _ _ z=>z) (fun i H2 hi s N h=>step i H2 hi s N fun H' s'=>h _ H' s' rfl) (fun ys H2 s e ly fy=>fin H2 s ?_);rw[e]
  congr 2
  refine List.ext_getElem (by rw[ly,Za,Zr]) fun i h1 h2=>?_;rw[fy i _ (Zg h1),List.getElem_map,Qn]
def rimC (w:Int) (s:Seat):Cl:=(Drw.rim w s.1,s.2)
def xb3 (w:Int) (ss:List Seat):List (Cl × Str):=ss.map fun s=>(rimC w s,Zb ".")
def xbq (w:Int) (prs:List Pr):List (Cl × Str):=prs.map fun p=>(rimC w p.2,p.1.nm)
def ptsS (ps:List Pt):List (Cl × Str):=ps.map fun p=>((p.x,p.y),p.nm)
def xnz (w:Int) (ss:List Seat) (prs:List Pr):Cl->Option Str:=Drw.sets (Drw.sets Drw.no (xb3 w ss)) (xbq w prs)
def rowT (w:Nat) (r:Int) (m:Cl->Option Str):Str:=YG (Zb "") ((Z0 (w+2)).map fun (j:Nat)=>(m ((j:Int),r)).getD (Zb " "))
def xcq (w h:Nat) (m:Cl->Option Str):List V:=(Z0 h).map fun (i:Nat)=>V.str (rowT w (1+(i:Int)) m)
def xng (m:Cl->Option Str):Prop:=∀ c s,m c=some s->s.length<=5
inductive xt0 (t:Adr) (vs:List V) (H:Hp) (Q:VK) (_:XK):Prop
 | mk (a l dp do_:Addr) (pw ph:Int) (ps:List Pt) (ss srt:List Seat) (prs:List Pr) (qs:List Addr) (e_:vs=[.ref a,.ref l]) (r_:Pic t H a dp do_ pw ph ps/\Sts H do_ ss/\ss.length<=32/\srt.Perm ss/\srt.Pairwise xci/\H l=some (.lst (qs.map V.ref))/\PrsL H prs qs/\prs.length<=12/\∀ H' d,Same H H'->H d=none->SD H' d 50 (xnz pw srt prs)->Q (.ref d) H')
inductive xwk (vs:List V) (H:Hp) (Q:VK) (_:XK):Prop
 | mk (d:Addr) (n w:Nat) (r:Int) (m:Cl->Option Str) (e_:vs=[.ref d,.int (w:Int),.int r]) (r_:SD H d n m/\xng m/\w<=30/\∀ H',Same H H'->Q (.str (rowT w r m)) H')
theorem xrl {t:Adr}{Z:L2.St}{H:Hp}{Q:VK}{i j:Nat}{b:Bool}{w:Int} (hi:Z[i]?=some (some (.str (xax b)))) (hj:Z[j]?=some (some (.int w))) (h:∀ H',Same H H'->Q (.int (Drw.rim w b)) H') :
    xkm t.C_af (Zb "rim") (sp1 (V.int 0)) [] (fun _ _ _ _=>False) (xns (xhe t) [] (fun _ _ _ _=>False) (xgs (tVar i) (xgs (tVar j) tNil))) tNil Z H Q \/
    xkm t.C_r (Zb "rim") (xri t) [] (fun _ _ _ _=>False) (xns (xhe t) [] (fun _ _ _ _=>False) (xgs (tVar i) (xgs (tVar j) tNil))) tNil Z H Q:=by
  cases b
  . refine .inr ⟨_,hi,_,hj,false,w,rfl,fun p H3 hp3 sd3 s3=>?_⟩
    obtain⟨ds,hs⟩:=id sd3;exact⟨p,ds,_,rfl,hs,lno (by decide +kernel),p,w,rfl,sd3,h H3 s3⟩
  . refine .inl ⟨_,hi,_,hj,true,w,rfl,fun p H3 hp3 sd3 s3=>?_⟩
    obtain⟨ds,hs⟩:=id sd3;exact⟨p,ds,_,rfl,hs,lno (by decide +kernel),_,rfl,h H3 s3⟩
theorem SD.puts {d:Addr}:∀(L:List (Addr × Cl × Str)) {H:Hp}{n:Nat}{m:Cl->Option Str},SD H d n m->n+L.length<=1000->(∀ x∈L,H x.1=some (.tup [.int x.2.1.1,.int x.2.1.2])) ->
    ∃ H2,xgi d H (L.map fun x=>(V.ref x.1,V.str x.2.2)) H2/\SD H2 d (n+L.length) (Drw.sets m (L.map fun x=>(x.2.1,x.2.2)))/\∀ a u,a≠d->H a=some u->H2 a=some u
  | [],H,n,m,s,_,_=>⟨H,.nil,s,fun _ _ _ e=>e⟩
  | x::L,H,n,m,s,hn,hk=>by
    rw[ZI] at hn;obtain⟨H1,dp,s1,k1,_⟩:=s.put (by omega) (hk x (Zv ..)) x.2.2;obtain⟨H2,dps,s2,k2⟩:=SD.puts L s1 (by omega) (fun y hy=>by
      have e:=hk y (Zt _ hy);obtain⟨kvs,ed,_⟩:=s;exact k1 _ _ (ne_f e ed) e)
    exact⟨H2,.cons dp dps,s2.le (by rw[ZI]; omega),fun a u na e=>k2 _ _ na (k1 _ _ na e)⟩
theorem xjm {H:Hp}{w:Int}:∀{ss:List Seat}{ys:List V},ys.length=ss.length->(∀(i:Nat) (y:V),ys[i]?=some y->∃ p kp s,y=.ref p/\ss[i]?=some s/\H p=some (.tup [.ref kp,.str (Zb ".")])/\H kp=some (.tup [.int (Drw.rim w s.1),.int s.2])) ->
    ∃ L:List (Addr × Addr × Seat),ys=L.map (fun x=>V.ref x.1)/\L.map (·.2.2)=ss/\∀ x∈L,H x.1=some (.tup [.ref x.2.1,.str (Zb ".")])/\H x.2.1=some (.tup [.int (Drw.rim w x.2.2.1),.int x.2.2.2])
  | [],[],_,_=>⟨[],rfl,rfl,fun _ z=>nomatch z⟩
  | s::ss,y::ys,hl,h=>by
    obtain⟨p,kp,s',rfl,es,h1,h2⟩:=h 0 y rfl;cases es;obtain⟨L,e1,e2,e3⟩:=xjm (ss:=ss) (ys:=ys) (by simpa using hl) (fun i z hz=>h (i+1) z hz);refine⟨(p,kp,s)::L,by rw[e1]; rfl,by rw[<- e2]; rfl,fun x hx=>?_⟩;rcases Zy.mp hx with rfl|hx
    . exact⟨h1,h2⟩
    . exact e3 x hx
  | [],_::_,hl,_=>nomatch hl
  | _::_,[],hl,_=>nomatch hl
theorem xdy {m:Cl->Option Str}{L:List (Cl × Str)}{i:Nat}{c:Cl}{x:Str} (h:L[i]?=some (c,x)):Drw.sets m (L.take (i+1))=Drw.set1 (Drw.sets m (L.take i)) c x:=by
 rw[ZO,h];unfold Drw.sets;rw[Yt];rfl
theorem ok_a1 (T:Txt w K mg t):FnOk true P w K mg base (CXo P w) 7 t.f_a1 t.d_a1 ["picture", "pairs"] (xt0 t):=by
 refine T.F_a1.okn (k:=6) sc_a1 (fun vs H Q E h=>?_) (fun cdv A outer s H vs Q E hr h=>?_)
 .obtain ⟨a,l,dp,do_,pw,ph,ps,ss,srt,prs,qs,rfl,_⟩:=h;rfl
 .obtain ⟨a,l,dp,do_,pw,ph,ps,ss,srt,prs,qs,rfl,h⟩:=h;refine⟨_,xj (xv (i:=2) sc_a1.nd rfl (ZX rfl) (xae (pv 0) rfl))
   (xj (xv (i:=3) sc_a1.nd rfl (Zn rfl) (xcb (xln rfl (xtz hr)) rfl T.n_dict boot_dict (xb (xbx rfl (xaw (zs:=["side", "row"]) (ys:=["width"]) (fr:=[2]) (N0:=["picture", "pairs", "width", "signs", "name", "side", "row"]) (sc0:=xo s_a1) (by decide +kernel) rfl rfl rfl) (xas (xbi (pv 0) T.c_d T.m_x (ok_x T) (hmm hr) T.b_x .nil xn)) (fun _ _ _ _ _ ow nd=>(xaf rfl (xq (xp (i:=0) nd rfl (Zn (ow _ (by simp))) (ZX (ow _ (by simp)))) (xq (xp (i:=1) nd rfl (Zn (ow _ (by simp))) (ZX (ow _ (by simp)))) (xab))):PG _ _ (gTup K 2 _))) (xdc (xbc (by decide) (xbc (by decide) (xco)))) (fun _ _ _ _ _=>xbf) (fun _ _ _ _ _=>x9 (xb (x9 (xb (xex (xbi (xr (ok_ao T) (hmm hr) rfl T.g_ao T.F_ao.kp T.b_ao .nil xn (xb (pv 0) (xb (pv 2) (xf)))) T.c_af T.m_y (ok_y T) (hmm hr) T.b_y .nil xn) (xbi (xr (ok_ao T) (hmm hr) rfl T.g_ao T.F_ao.kp T.b_ao .nil xn (xb (pv 0) (xb (pv 2) (xf)))) T.c_r T.m_s (ok_s T) (hmm hr) T.b_s .nil xn)) (xb (pv 1) (xf)))) (xb (xw) (xf))))) (xf))))
   (xj (xar ZC rfl (xas (pv 1)) (xaf rfl (xq (xp (i:=4) sc_a1.nd rfl (Zn rfl)) (xq (xp (i:=5) sc_a1.nd rfl (Zn rfl)) (xq (xp (i:=6) sc_a1.nd rfl (Zn rfl)) (xab))))) (xk (xbv (xag hr) (pv 3) (x9 (xb (xex (xbi (xr (ok_ao T) (hmm hr) rfl T.g_ao T.F_ao.kp T.b_ao .nil xn (xb (pv 5) (xb (pv 2) (xf)))) T.c_af T.m_y (ok_y T) (hmm hr) T.b_y .nil xn) (xbi (xr (ok_ao T) (hmm hr) rfl T.g_ao T.F_ao.kp T.b_ao .nil xn (xb (pv 5) (xb (pv 2) (xf)))) T.c_r T.m_s (ok_s T) (hmm hr) T.b_s .nil xn)) (xb (pv 6) (xf)))) (pv 4) rfl)))
   (xk (xz (pv 3))))),?_⟩
  obtain⟨pic,sts,l32,pm,pw',hl,prl,l12,q⟩:=h;obtain⟨⟨dx,hpi⟩,_⟩:=id pic;have pll:=prl.len;have lens:=pm.length_eq;refine⟨_,rfl,a,_,_,_,_,rfl,hpi,T.c_d,T.n_bb,lkW,?_⟩;refine⟨_,rfl,a,dx,_,rfl,hpi,xbl (by decide +kernel),a,dp,do_,pw,ph,ps,ss,rfl,pic,sts,fun l1 ss' rs hl1 sl pm' pw2=>?_⟩;obtain rfl:ss'=srt:=xc2 xge (pm'.trans pm.symm) pw2 pw';generalize eu:upd H l1 (.lst (rs.map V.ref))=H1;have s1:=su_e hl1 eu;have g1:=ug_e eu;have sl1:=sl.keep (Same.tups s1);have rll:=sl.len;refine⟨l1,rfl,⟨_,SqL.of g1⟩,fun l2 hl2=>?_⟩;refine xeo (SqL.of g1) (by rw[Za]; exact xa2 (by omega)) hl2 (fun i y H5=>∃ p kp s,y=.ref p/\ss'[i]?=some s/\H5 p=some (.tup [.ref kp,.str (Zb ".")])/\H5 kp=some (.tup [.int (Drw.rim pw s.1),.int s.2])) ?_ ?_ ?_
  .rintro i y H5 H6 tp ⟨p,kp,s,e1,e2,e3,e4⟩;exact⟨p,kp,s,e1,e2,tp _ _ e3,tp _ _ e4⟩
  .intro i x H5 hx s5 N hN
   rw[Ze,Zj] at hx;obtain⟨qa,hqa,rfl⟩:=hx;obtain⟨⟨b,r⟩,hs,hsq⟩:=sl1.get hqa;refine⟨qa,_,rfl,SqT.of (s5 _ _ hsq),rfl,_,_,rfl,_,_,rfl,rfl,?_⟩;refine xrl (i:=0) (j:=2) (b:=b) (w:=pw) rfl rfl fun H6 s6=>?_;refine⟨_,rfl,(by exact leS2),fun kp hkp=>⟨(by exact leS2),fun p hp=>?_⟩⟩;exact hN _ _ (s6.trans (xaa (xaa (Same.refl _) hkp) hp)) ⟨p,kp,(b,r),rfl,hs,xh,by rw[xg (xi xh hp)]; exact xh⟩
  .intro ys H5 s5 e5 ly fy
   obtain⟨L,rfl,e2,e3⟩:=xjm (ss:=ss') (by rw[ly,Za,rll]) fy;have lL:L.length=ss'.length:=by rw[<- e2,Za]
   refine⟨l2,L.map fun x=>(x.1,V.ref x.2.1,V.str (Zb ".")),rfl,(by rw[Z3]; exact e5),?_,fun d hd=>?_⟩
   .intro p hp
    obtain⟨x,hx,rfl⟩:=Zh.mp hp;exact (e3 x hx).1
   have fd:H d=none:=s1.free (s5.free hd);obtain⟨H6,dps,sd6,k6⟩:=SD.puts (d:=d) (L.map fun x=>(x.2.1,rimC pw x.2.2,Zb ".")) (SD.new (H:=upd H5 d (.dT [])) xh) (by rw[Za]; omega) (fun x hx=>by
    obtain⟨z,hz,rfl⟩:=Zh.mp hx;rw[xg (xi (e3 z hz).2 hd)];exact (e3 z hz).2)
   refine⟨.dT [],H6,.inr rfl,?_,?_⟩
   .rw [Z3] at dps ⊢;exact dps
   have k56:Same H H6:=fun c u e=>k6 _ _ (xi e fd) (by rw[xg (xi e fd)]; exact s5 _ _ (s1 _ _ e));have ed:(L.map fun x=>(x.2.1,rimC pw x.2.2,Zb ".")).map (fun x=>(x.2.1,x.2.2))=xb3 pw ss':=by
    unfold xb3;rw[<- e2,Z3,Z3];rfl
   rw[ed] at sd6;have sd6:=sd6.le (k:=32) (by rw[Za]; omega);refine⟨_,rfl,l,rfl,⟨_,SqL.of (k56 _ _ hl)⟩,?_⟩;refine xa9 (xs:=qs.map V.ref) (Pv:=fun i Z H7=>∃(v4 v5 v6:Option V),Z=[some (.ref a),some (.ref l),some (.int pw),some (.ref d),v4,v5,v6]/\Same H H7/\SD H7 d (32+i) (Drw.sets (Drw.sets Drw.no (xb3 pw ss')) ((xbq pw prs).take i))) ⟨_,_,_,rfl,k56,sd6⟩ ?_ ?_ ?_
   .rintro i Z H7 _ ⟨_,_,_,rfl,s7,_⟩;exact SqL.of (s7 _ _ hl)
   .rintro i x Z H7 hx ⟨v4,v5,v6,rfl,s7,sd7⟩;rw[Ze,Zj] at hx;obtain⟨qa,hqa,rfl⟩:=hx;obtain⟨⟨pt,b,r⟩,hp,hpq⟩:=prl.get hqa;have i12:i<12:=by have:=(Zf.mp hp).1; omega
    refine⟨qa,_,rfl,SqT.of (s7 _ _ hpq),rfl,_,_,rfl,_,_,rfl,_,_,rfl,rfl,?_⟩;refine⟨_,rfl,_,rfl,xrl (i:=5) (j:=2) (b:=b) (w:=pw) rfl rfl fun H8 s8=>?_⟩;refine⟨_,rfl,(by exact leS2),fun kp hkp=>?_⟩;generalize eu:upd H8 kp (.tup [.int (Drw.rim pw b),.int r])=H9;have s9:=su_e hkp eu;have g9:=ug_e eu;obtain⟨H10,dput,sd10,k10,_⟩:=(sd7.keep (H':=H9) (fun u e=>s9 _ _ (s8 _ _ e))).put (c:=rimC pw (b,r)) (by omega) g9 pt.nm;refine⟨d,H10,rfl,dput,_,_,_,rfl,fun c u e=>k10 _ _ (xi e fd) (s9 _ _ (s8 _ _ (s7 _ _ e))),?_⟩;rw[xdy (c:=rimC pw (b,r)) (x:=pt.nm)]
    .exact sd10
    .unfold xbq;rw[Ze,hp];rfl
   .rintro Z H7 ⟨v4,v5,v6,rfl,s7,sd7⟩;refine⟨_,rfl,q H7 d s7 fd ?_⟩;rw[Za,ZY (l:=xbq pw prs) (by unfold xbq; rw[Za]; omega)] at sd7;exact sd7.le (by omega)
theorem ok_a8 (T:Txt w K mg t):FnOk true P w K mg base (CXo P w) 1 t.f_a8 t.d_a8 ["signs", "width", "row"] (xwk):=by
 refine T.F_a8.okn (k:=0) sc_a8 (fun vs H Q E h=>?_) (fun cdv A outer s H vs Q E hr h=>?_)
 .obtain ⟨d,n,w',r,m,rfl,_⟩:=h;rfl
 .obtain ⟨d,n,w',r,m,rfl,h⟩:=h;refine⟨_,xk (xz (xcl Yj QN QM xit (xw) (xb (xbx rfl (xaw (zs:=["column"]) (ys:=["signs", "row"]) (fr:=[0,2]) (N0:=["signs", "width", "row"]) (sc0:=xo s_a8) (by decide +kernel) rfl rfl rfl) (xjt rfl T.n_range (xb (xt xai (pv 1) (xm)) (xf))) (fun _ _ _ _ _ ow nd=>xp (i:=0) nd rfl (Zn (ow _ (by simp))) (ZX (ow _ (by simp)))) (xbj (by decide)) (fun _ _ _ _ _=>xbf) (fun _ _ _ _ _=>xko (xag hr) (pv 1) (x9 (xb (pv 0) (xb (pv 2) (xf)))) (xw) ⟨rfl,rfl,rfl,rfl⟩)) (xf)))),?_⟩;obtain⟨sd,sh,w30,q⟩:=h;refine⟨rfl,_,rfl,_,_,rfl,rfl,((w'+2:Nat):Int),by rw[Int.natCast_add]; rfl,by omega,by omega,fun l1 hl1=>?_⟩;refine xhg (xa2 (by omega)) hl1 (fun (j:Nat)=>V.str ((m ((j:Int),r)).getD (Zb " "))) ?_ ?_
  .intro i H2 hi s2 N hN
   simp only[Int.zero_add];obtain⟨kvs,ed,_⟩:=id sd;refine⟨_,rfl,d,rfl,.inr ⟨kvs,.inl (s2 _ _ ed)⟩,_,rfl,_,rfl,(by exact leS2),fun p hp=>?_⟩;generalize eu:upd H2 p (.tup [.int (i:Int),.int r])=H3;have s3:=su_e hp eu;have g3:=ug_e eu;refine⟨_,(sd.keep (H':=H3) fun u e=>s3 _ _ (s2 _ _ e)).get (c:=((i:Int),r)) g3,?_⟩;have e:((m ((i:Int),r)).map V.str).getD (V.str (Zb " "))=V.str ((m ((i:Int),r)).getD (Zb " ")):=by cases m ((i:Int),r)<;>rfl
   rw[e];exact hN H3 s3
  .intro H2 s2 e2
   rw[YL] at e2;refine⟨Zb "",l1,(Z0 (w'+2)).map fun (j:Nat)=>(m ((j:Int),r)).getD (Zb " "),5,rfl,rfl,(by rw[e2,Z3]; rfl),fun s hs=>?_,?_,q H2 s2⟩
   .obtain ⟨j,_,rfl⟩:=Zh.mp hs;cases e:m ((j:Int),r) with
    | none=>exact (by decide +kernel:(Zb " ").length<=5)
    | some x=>exact sh _ _ e
   .rw [Za,Zr,show (Zb "").length=0 from by decide +kernel];exact xb5 (by omega)
theorem xh9 {κ:Type} [DecidableEq κ]:∀(more kvs:List (κ × V)) (k:κ),(more.map (·.1)).Nodup->valV (more.foldl (fun acc x=>putK acc x.1 x.2) kvs) k=(valV more k).or (valV kvs k)
 | [],kvs,k,_=>rfl
 | x::r,kvs,k,nd=>by
  rw[Zu,Jf] at nd;show valV (r.foldl (fun acc x=>putK acc x.1 x.2) (putK kvs x.1 x.2)) k=_;rw[xh9 r _ k nd.2,xk4];by_cases e:x.1=k
  .subst e;rw[xaq rfl,if_pos rfl];have:valV r x.1=none:=by
    cases z:valV r x.1 with
    | none=>rfl
    | some y =>
     obtain⟨i,hi⟩:=xi8 z;exact absurd (Zh.mpr ⟨_,Zk hi,rfl⟩) nd.1
   rw[this];rfl
  .rw [xao e,if_neg (fun z=>e z.symm)]
theorem xii {κ:Type} [DecidableEq κ] {P:κ->Prop}:∀(more kvs:List (κ × V)),(∀ kv∈more,P kv.1)->((kvs.map (·.1)).Nodup/\(∀ kv∈kvs,P kv.1))->((more.foldl (fun acc x=>putK acc x.1 x.2) kvs).map (·.1)).Nodup/\(∀ kv∈more.foldl (fun acc x=>putK acc x.1 x.2) kvs,P kv.1)/\(more.foldl (fun acc x=>putK acc x.1 x.2) kvs).length<=kvs.length+more.length
 | [],kvs,_,h=>⟨h.1,h.2,Zl _⟩
 | x::r,kvs,hm,h=>by
  have z:=xii r (putK kvs x.1 x.2) (fun kv hkv=>hm kv (Zt _ hkv)) ⟨xm5 h.1,xlj (hm x (Zv ..)) h.2⟩;refine⟨z.1,z.2.1,?_⟩;have:=z.2.2;have:=xcc kvs x.1 x.2;rw[ZI];show (r.foldl (fun acc x=>putK acc x.1 x.2) (putK kvs x.1 x.2)).length<=_;omega
def xgy (w:Int) (c:Cl):Prop:=(c.1=0\/c.1=w+1)/\1<=c.2/\c.2<=16
theorem xog {α β:Type}{f:α->β}:∀{l:List α},(l.map f).Nodup->∀ a∈l,∀ b∈l,f a=f b->a=b
 | [],_,_,ha,_,_,_=>nomatch ha
 | x::l,nd,a,ha,b,hb,e=>by
  rw[Zu,Jf] at nd;rcases Zy.mp ha with ea|ha'<;>rcases Zy.mp hb with eb|hb'
  .rw [ea,eb]
  .subst ea;exact absurd (Zh.mpr ⟨b,hb',e.symm⟩) nd.1
  .subst eb;exact absurd (Zh.mpr ⟨a,ha',e⟩) nd.1
  .exact xog nd.2 a ha' b hb' e
def xfo (w:Nat):List Cl:=((Z0 16).map fun (r:Nat)=>((0:Int),(r:Int)+1))++((Z0 16).map fun (r:Nat)=>((w:Int)+1,(r:Int)+1))
theorem xlf {w:Nat}{c:Cl} (h:xgy w c):c∈xfo w:=by
 obtain⟨u,v⟩:=c;obtain⟨h1,h2,h3⟩:=h;have h2:1<=v:=h2;have h3:v<=16:=h3;unfold xfo;rw[Z9,Zh,Zh];have e:((v-1).toNat:Int)+1=v:=by omega
 rcases h1 with h1|h1
 .have h1:u=0:=h1;exact .inl ⟨(v-1).toNat,ZL.mpr (by omega),by rw[e,h1]⟩
 .have h1:u=(w:Int)+1:=h1;exact .inr ⟨(v-1).toNat,ZL.mpr (by omega),by rw[e,h1]⟩
theorem xqy {w:Nat} (w1:1<=w) (w2:w<=30) {a b:Cl} (ha:xgy w a) (hb:xgy w b) (e:th a.1 a.2=th b.1 b.2):a=b:=by
 have z:=xtd w (by omega) w1;have y:((xfo w).map fun c:Cl=>th c.1 c.2).Nodup:=by
  unfold xfo;rw[Z4,Z3,Z3];exact z
 exact xog y a (xlf ha) b (xlf hb) e
theorem SD.hash {X:Cx}{H:Hp}{d:Addr}{n w:Nat}{m:Cl->Option Str}{kvs:List (List Key × V)} (s:SD H d n m) (e:H d=some (.dT kvs)) (w1:1<=w) (w2:w<=30) (hm:∀ c,m c≠none->xgy w c):(kvs.map fun x=>xgo X x.1).Nodup:=by
 obtain⟨kvs',e',l,nd,ks,vs⟩:=s;rw[e] at e';cases e';have on:∀ kv∈kvs,∃ c,kv.1=ck c/\xgy w c:=fun kv hkv=>by
  obtain⟨c,ec⟩:=ks kv hkv;refine⟨c,ec,hm c fun z=>?_⟩;have y:=vs c;rw[z] at y;exact xhi y (Zh.mpr ⟨kv,hkv,ec⟩)
 rw[Yu,ZB];rw[Yu,ZB] at nd;refine Y6.imp_of_mem ?_ nd;intro a b ha hb ne eh;obtain⟨c,ec,oc⟩:=on a ha;obtain⟨c',ec',oc'⟩:=on b hb;rw[ec,ec'] at eh ne;unfold ck at eh;rw[xk9,xk9] at eh;exact ne (by rw[xqy w1 w2 oc oc' eh])
theorem SD.merge {H:Hp}{a b:Addr}{n k:Nat}{m m2:Cl->Option Str}{kvs more:List (List Key × V)} (s:SD H a n m) (s2:SD H b k m2) (ea:H a=some (.dT kvs)) (eb:H b=some (.dT more)):SD (upd H a (.dT (xcv kvs more))) a (n+k) (fun z=>(m2 z).or (m z)):=by
 obtain⟨kvs',ea',l,nd,ks,vs⟩:=s;rw[ea] at ea';cases ea';obtain⟨more',eb',l2,nd2,ks2,vs2⟩:=s2;rw[eb] at eb';cases eb';have z:=xii (P:=fun k=>∃ c,k=ck c) more kvs ks2 ⟨nd,ks⟩;refine⟨xcv kvs more,xh,?_,z.1,z.2.1,fun c=>?_⟩
 .have:=z.2.2;unfold xcv;omega
 .unfold xcv;rw[xh9 _ _ _ nd2,vs2,vs];show _=Option.map V.str ((m2 c).or (m c));cases m2 c<;>rfl
theorem xbo {P:Str->Prop}:∀{L:List (Cl × Str)}{m:Cl->Option Str},(∀ c s,m c=some s->P s)->(∀ x∈L,P x.2)->∀ c s,Drw.sets m L c=some s->P s
 | [],_,hm,_,c,s,e=>hm c s e
 | x::L,m,hm,hL,c,s,e=>by
  refine xbo (L:=L) (m:=Drw.set1 m x.1 x.2) (fun c s e=>?_) (fun y hy=>hL y (Zt _ hy)) c s e;unfold Drw.set1 at e;split at e
  .cases e;exact hL x (Zv ..)
  .exact hm c s e
theorem xd3 {P:Str->Prop}{hs:Str} (hh:P hs):∀{L:List (Cl × Str)}{m:Cl->Option Str},(∀ c s,m c=some s->P s)->(∀ x∈L,P x.2)->∀ c s,Drw.marks hs m L c=some s->P s
 | [],_,hm,_,c,s,e=>hm c s e
 | x::L,m,hm,hL,c,s,e=>by
  refine xd3 hh (L:=L) (m:=Drw.mark1 hs m x.1 x.2) (fun c s e=>?_) (fun y hy=>hL y (Zt _ hy)) c s e;unfold Drw.mark1 Drw.set1 at e;split at e
  .cases e;split
   .exact hh
   .exact hL x (Zv ..)
  .exact hm c s e
theorem xij {L:List (Cl × Str)}{m:Cl->Option Str}{c:Cl} (h:Drw.sets m L c≠none):m c≠none\/∃ x∈L,x.1=c:=by
 by_cases z:c∈L.map (·.1)
 .obtain ⟨x,hx,e⟩:=Zh.mp z;exact .inr ⟨x,hx,e⟩
 .rw [Drw.sets_no z] at h;exact .inl h
theorem xfi {s:Str} (h:isNm s=true):s.length<=5:=by
 unfold isNm at h;rw[Zs] at h;have:=of_decide_eq_true h.1;omega
theorem xqn (x r:Int) (c:Cl):(lsS x r c).length<=5:=by
 unfold lsS Drw.ls;split
 .decide +kernel
 .split<;>decide +kernel
def xdi (w:Int) (ps:List Pt) (ss:List Seat) (prs:List Pr):Cl->Option Str:=Drw.drawP hsS (prs.flatMap (ledS w)) (xb3 w ss) (xbq w prs) (ptsS ps)
theorem xnn {w:Int}{ps:List Pt}{ss:List Seat}{prs:List Pr} (h1:∀ p∈ps,isNm p.nm=true) (h2:∀ p∈prs,isNm p.1.nm=true):xng (xdi w ps ss prs):=by
 have no:∀(c:Cl) (s:Str),(Drw.no:Cl->Option Str) c=some s->s.length<=5:=fun _ _ e=>nomatch e;have n1:=xbo (P:=fun s=>s.length<=5) (L:=xb3 w ss) no (fun x hx=>by
  obtain⟨z,_,rfl⟩:=Zh.mp hx;show (Zb ".").length<=5;decide +kernel)
 have n2:=xbo (P:=fun s=>s.length<=5) (L:=xbq w prs) n1 (fun x hx=>by
  obtain⟨z,hz,rfl⟩:=Zh.mp hx;exact xfi (h2 z hz))
 have n3:=xd3 (P:=fun s=>s.length<=5) (hs:=hsS) (by unfold hsS; decide +kernel) (L:=prs.flatMap (ledS w)) no (fun x hx=>by
  obtain⟨p,_,hx⟩:=YV.mp hx;obtain⟨c,_,rfl⟩:=Zh.mp hx;exact xqn _ _ _)
 intro c s e;refine xbo (P:=fun s=>s.length<=5) (L:=ptsS ps) (fun c s e=>?_) (fun x hx=>by
  obtain⟨z,hz,rfl⟩:=Zh.mp hx;exact xfi (h1 z hz)) c s e
 cases e1:Drw.sets (Drw.sets Drw.no (xb3 w ss)) (xbq w prs) c with
 | some y =>
  rw[e1] at e;cases e;exact n2 c _ e1
 | none =>
  rw[e1,Option.none_or] at e;exact n3 c s e
structure Dr (t:Adr) (H:Hp) (a dp do_:Addr) (w h:Nat) (ps:List Pt) (ss srt:List Seat):Prop where
 pic:Pic t H a dp do_ (w:Int) (h:Int) ps
 sts:Sts H do_ ss
 ok:SsOk (h:Int) ss
 pm:srt.Perm ss
 lt:srt.Pairwise xci
 nm:∀ p∈ps,isNm p.nm=true
inductive xr9 (t:Adr) (vs:List V) (H:Hp) (Q:VK) (_:XK):Prop
 | mk (a l dp do_:Addr) (w h:Nat) (ps:List Pt) (ss srt:List Seat) (prs:List Pr) (qs:List Addr) (e_:vs=[.ref a,.ref l]) (r_:Dr t H a dp do_ w h ps ss srt/\H l=some (.lst (qs.map V.ref))/\PrsL H prs qs/\(∀ p∈prs,PrOk ps (w:Int) (h:Int) p)/\prs.length<=12/\∀ H' l',Same H H'->H l'=none->H' l'=some (.lst (xcq w h (xdi w ps srt prs)))->Q (.ref l') H')
theorem xra (T:Txt w K mg t):FnOk true P w K mg base (CXo P w) 8 t.f_drawn t.d_drawn ["picture", "pairs"] (xr9 t):=by
 refine T.F_drawn.okn (k:=7) xcx (fun vs H Q E h=>?_) (fun cdv A outer s H vs Q E hr h=>?_)
 .obtain ⟨a,l,dp,do_,w',h',ps,ss,srt,prs,qs,rfl,_⟩:=h;rfl
 .obtain ⟨a,l,dp,do_,w',h',ps,ss,srt,prs,qs,rfl,h⟩:=h;refine⟨_,xj (xv (i:=2) xcx.nd rfl (ZX rfl) (xr (ok_ad T) (hmm hr) rfl T.g_ad T.F_ad.kp T.b_ad .nil xn (xb (pv 0) (xb (pv 1) (xf)))))
   (xj (xa6 (xcl Q1 PySem.F.slot_dict_update PySem.F.type_dict_update (xo3 (xag hr)) (pv 2) (xb (xr (ok_a1 T) (hmm hr) rfl T.g_a1 T.F_a1.kp T.b_a1 .nil xn (xb (pv 0) (xb (pv 1) (xf)))) (xf))))
   (xj (xar ZC rfl (xas (xbi (pv 0) T.c_d T.m_m (ok_m T) (hmm hr) T.b_m .nil xn)) (xaf rfl (xq (xp (i:=3) xcx.nd rfl (Zn rfl)) (xq (xp (i:=4) xcx.nd rfl (Zn rfl)) (xq (xp (i:=5) xcx.nd rfl (Zn rfl)) (xq (xp (i:=6) xcx.nd rfl (Zn rfl)) (xq (xp (i:=7) xcx.nd rfl (Zn rfl)) (xq (xp (i:=8) xcx.nd rfl (Zn rfl)) (xab)))))))) (xk (xbv (xag hr) (pv 2) (x9 (xb (pv 4) (xb (pv 5) (xf)))) (pv 3) rfl)))
   (xk (xz (xbx rfl (xaw (zs:=["row"]) (ys:=["signs", "picture"]) (fr:=[2,0]) (N0:=["picture", "pairs", "signs", "name", "x", "y", "sides", "low", "high"]) (sc0:=xo xgq) (by decide +kernel) rfl rfl rfl) (xcu rfl T.n_range (xb (xm) (xb (xt xai (xae (pv 0) rfl) (xm)) (xf)))) (fun _ _ _ _ _ ow nd=>xp (i:=0) nd rfl (Zn (ow _ (by simp))) (ZX (ow _ (by simp)))) (xbj (by decide)) (fun _ _ _ _ _=>xbf) (fun _ _ _ _ _=>xr (ok_a8 T) (hmm hr) rfl T.g_a8 T.F_a8.kp T.b_a8 .nil xn (xb (pv 1) (xb ((xae (pv 2) rfl:PE _ _ (tFld K _ _))) (xb (pv 0) (xf)))))))))),?_⟩
  obtain⟨dr,hl,prl,oks,l12,q⟩:=h;have pic:=dr.pic;have w1:=pic.w1;have w2:=pic.w2;have h2:=pic.h2;have pl12:=pic.len;obtain⟨⟨dx,hpi⟩,_⟩:=id pic;refine⟨_,rfl,_,rfl,a,l,dp,do_,w',h',ps,prs,qs,rfl,pic,hl,prl,oks,l12,fun H1 d1 s1 f1 sd1=>?_⟩;obtain⟨kvs,e1,_⟩:=id sd1;refine⟨_,rfl,.inr (.inr (.inl ⟨rfl,.inr ⟨kvs,e1⟩⟩)),_,rfl,_,rfl,a,l,dp,do_,w',h',ps,ss,srt,prs,qs,rfl,Pic.same s1 pic,dr.sts.same s1,dr.ok.2.1,dr.pm,dr.lt,s1 _ _ hl,prl.keep (Same.tups s1),l12,fun H2 d2 s2 f2 sd2=>?_⟩;obtain⟨more,e2,_⟩:=id sd2;have e12:=s2 _ _ e1;have ne:d1≠d2:=xi e1 f2;have onr:∀ c,xnz w' srt prs c≠none->xgy w' c:=fun c hc=>by
   rcases xij hc with hc|⟨x,hx,rfl⟩
   .rcases xij hc with hc|⟨x,hx,rfl⟩
    .exact absurd rfl hc
    .obtain ⟨z,hz,rfl⟩:=Zh.mp hx;have o:=dr.ok.2.2 z (dr.pm.mem_iff.mp hz);refine⟨?_,o.1,?_⟩
     .show Drw.rim w' z.1=0\/Drw.rim w' z.1=_;unfold Drw.rim;split
      .exact .inl rfl
      .exact .inr rfl
     .show z.2<=16;omega
   .obtain ⟨z,hz,rfl⟩:=Zh.mp hx;have o:=oks z hz;have o1:=o.r1;have o2:=o.r2;refine⟨?_,o1,?_⟩
    .show Drw.rim w' z.2.1=0\/Drw.rim w' z.2.1=_;unfold Drw.rim;split
     .exact .inl rfl
     .exact .inr rfl
    .show z.2.2<=16;omega
  have ln1:kvs.length<=600:=by
   obtain⟨k',e',l',_⟩:=id sd1;rw[e1] at e';cases e';exact l'
  have ln2:more.length<=50:=by
   obtain⟨k',e',l',_⟩:=id sd2;rw[e2] at e';cases e';exact l'
  refine⟨d1,d2,kvs,more,rfl,rfl,ne,e12,e2,fun _=>sd2.hash e2 (by omega) (by omega) onr,by omega,?_⟩;have sd3:=(sd1.keep (H':=H2) (fun u e=>s2 _ _ e)).merge sd2 e12 e2;have s3:Same H (upd H2 d1 (.dT (xcv kvs more))):=fun c u e=>by
   rw[xg (xi e f1)];exact s2 _ _ (s1 _ _ e)
  revert sd3 s3;generalize upd H2 d1 (.dT (xcv kvs more))=H3;intro sd3 s3;refine⟨_,rfl,a,dx,_,rfl,s3 _ _ hpi,xbl (by decide +kernel),a,dp,do_,w',h',ps,rfl,Pic.same s3 pic,fun H4 l4 ds s4 hl4 pts4=>?_⟩;have dl:=pts4.len;have sd4:=sd3.keep (H':=H4) (fun u e=>s4 _ _ e);have nl4:l4≠d1:=by
   obtain⟨kv,e,_⟩:=sd4;exact ne_f hl4 e
  refine⟨l4,rfl,⟨_,SqL.of hl4⟩,?_⟩;refine xa9 (xs:=ds.map V.ref) (Pv:=fun i Z H5=>∃(v3 v4 v5 v6 v7 v8:Option V),Z=[some (.ref a),some (.ref l),some (.ref d1),v3,v4,v5,v6,v7,v8]/\(∀ c u,c≠d1->H4 c=some u->H5 c=some u)/\SD H5 d1 (650+i) (Drw.sets (fun z=>(xnz w' srt prs z).or (Drw.marks hsS Drw.no (prs.flatMap (ledS w')) z)) ((ptsS ps).take i))) ⟨_,_,_,_,_,_,rfl,fun c u _ e=>e,sd4⟩ ?_ ?_ ?_
  .rintro i Z H5 _ ⟨_,_,_,_,_,_,rfl,k5,_⟩;exact SqL.of (k5 _ _ nl4 hl4)
  .rintro i x Z H5 hx ⟨v3,v4,v5,v6,v7,v8,rfl,k5,sd5⟩;rw[Ze,Zj] at hx;obtain⟨qa,hqa,rfl⟩:=hx;obtain⟨p,hp,hpq⟩:=pts4.get hqa;have i12:i<12:=by have:=(Zf.mp hp).1; omega
   have nqa:qa≠d1:=by
    obtain⟨kv,e,_⟩:=sd4;exact ne_f hpq e
   refine⟨qa,_,rfl,SqT.of (k5 _ _ nqa hpq),rfl,_,_,rfl,_,_,rfl,_,_,rfl,_,_,rfl,_,_,rfl,_,_,rfl,rfl,?_⟩;refine⟨_,rfl,_,rfl,_,rfl,_,rfl,(by exact leS2),fun kp hkp=>?_⟩;generalize eu:upd H5 kp (.tup [.int p.x,.int p.y])=H6;have s6:=su_e hkp eu;have g6:=ug_e eu;obtain⟨H7,dput,sd7,k7,_⟩:=(sd5.keep (H':=H6) (fun u e=>s6 _ _ e)).put (c:=(p.x,p.y)) (by omega) g6 p.nm;refine⟨d1,H7,rfl,dput,_,_,_,_,_,_,rfl,fun c u nc e=>k7 _ _ nc (s6 _ _ (k5 _ _ nc e)),?_⟩;rw[xdy (c:=(p.x,p.y)) (x:=p.nm)]
   .exact sd7
   .unfold ptsS;rw[Ze,hp];rfl
  .rintro Z H5 ⟨v3,v4,v5,v6,v7,v8,rfl,k5,sd5⟩;rw[Za,ZY (l:=ptsS ps) (by unfold ptsS; rw[Za]; omega)] at sd5;have s5:Same H H5:=fun c u e=>k5 _ _ (xi e f1) (s4 _ _ (s3 _ _ e));have sd5:SD H5 d1 (650+ds.length) (xdi w' ps srt prs):=sd5;have hp5:=s5 _ _ hpi;refine⟨_,rfl,a,_,_,_,_,rfl,hp5,T.c_d,T.n_bc,lkH,_,_,rfl,rfl,1,(h':Int)+1,rfl,⟨by decide,by decide,by omega,by omega⟩,fun l6 hl6=>?_⟩;refine xhg (xa2 (by omega)) hl6 (fun (i:Nat)=>V.str (rowT w' (1+(i:Int)) (xdi w' ps srt prs))) ?_ ?_
   .intro i H6 hi s6 N hN
    have hp6:=s6 _ _ hp5;exact⟨_,rfl,_,rfl,a,_,_,_,_,rfl,hp6,T.c_d,T.n_bb,lkW,_,rfl,d1,_,w',1+(i:Int),_,rfl,sd5.keep (H':=H6) (fun u e=>s6 _ _ e),xnn dr.nm (fun p hp=>(oks p hp).nm),by omega,hN⟩
   .intro H6 s6 e6
    refine q H6 l6 (s5.trans s6) (s5.free hl6) ?_;rw[e6,show ((h':Int)+1-1).toNat=h' by omega];rfl
theorem xpm {x d:Int} (h:0<d) (h2:d<=4294967296):-(2 ^ 64)<x % d/\x % d<2 ^ 64:=by
 have a:=Int.emod_nonneg x (show d≠0 by omega);have b:=Int.emod_lt_of_pos x h;exact⟨by omega,by omega⟩
theorem xdo (x:Int) {d:Int} (h:0<d):0<=x % d/\x % d<d:=⟨Int.emod_nonneg _ (by omega),Int.emod_lt_of_pos _ h⟩
inductive xul (K:Zd) (vs:List V) (H:Hp) (Q:VK) (_:XK):Prop
 | mk (a:Addr) (ns:List Int) (k:Int) (e_:vs=[.ref a,.int k]) (r_:SqL K H a (ns.map V.int)/\0<=k/\k<2 ^ 62/\∀ c:Int,Q (.int c) H)
inductive xvp (vs:List V) (H:Hp) (Q:VK) (_:XK):Prop
 | mk (c k:Int) (e_:vs=[.int c,.int k]) (r_:∀ m:Int,0<=m->m<2147483587->Q (.int m) H)
inductive xsx (K:Zd) (vs:List V) (H:Hp) (Q:VK) (_:XK):Prop
 | mk (a:Addr) (ns:List Int) (e_:vs=[.ref a]) (r_:SqL K H a (ns.map V.int)/\∀(w h:Nat) H' p,1<=w->w<=30->1<=h->h<=16->Same H H'->H' p=some (.tup [.int (w:Int),.int (h:Int)])->Q (.ref p) H')
inductive xq2 (K:Zd) (vs:List V) (H:Hp) (Q:VK) (_:XK):Prop
 | mk (a:Addr) (ns:List Int) (h:Nat) (e_:vs=[.ref a,.int (h:Int)]) (r_:SqL K H a (ns.map V.int)/\h<=16/\∀(ss:List Seat) (qs:List Addr) H' l,ss.length<=32->ss.Pairwise xci->(∀ s∈ss,1<=s.2/\s.2<=(h:Int))->Same H H'->H l=none->H' l=some (.lst (qs.map V.ref))->xac H' ss qs->Q (.ref l) H')
theorem xic (a m d:Int) (h:0<d) (ha:0<=a):∃ x:Nat,a+m % d=(x:Int)/\a<=x/\(x:Int)<a+d:=by
 have z:=xdo m h;exact⟨(a+m % d).toNat,by omega,by omega,by omega⟩
theorem ok_aj (T:Txt w K mg t):FnOk true P w K mg base (CXo P w) 1 t.f_aj t.d_aj ["_law_script", "_law_k"] (xul K):=by
 refine T.F_aj.okn (k:=0) sc_aj (fun vs H Q E h=>?_) (fun cdv A outer s H vs Q E hr h=>?_)
 .obtain ⟨a,ns,k,rfl,_⟩:=h;rfl
 .obtain ⟨a,ns,k,rfl,h⟩:=h;refine⟨_,xj (xad (x6 xkk (pv 1) (x5 xa8 rfl T.n_len Ju (xb (pv 0) (xf))) (x8 _)) (xk (xz (xaj xbp (pv 0) (pv 1) (fun _ _=>rfl)))) (x4))
   (xk (xz (xm))),?_⟩
  obtain⟨hs,k0,k1,q⟩:=h;refine⟨_,rfl,_,rfl,a,_,rfl,.inl hs,_,_,rfl,rfl,_,rfl,?_⟩;refine ite2 (fun c=>?_) (fun c=>?_)
  .have c':k<(ns.length:Int):=by simpa using c
   obtain⟨j,rfl⟩:=Int.eq_ofNat_of_zero_le k0;have lt:j<ns.length:=by omega
   exact⟨_,rfl,_,rfl,a,_,_,_,rfl,rfl,hs,xba (by rw[Ze,Zg lt]; rfl),q _⟩
  .exact q _
theorem ok_c (T:Txt w K mg t):FnOk true P w K mg base (CXo P w) 1 t.f_c t.d_c ["_law_cell", "_law_k"] (xvp):=by
 refine T.F_c.okn (k:=0) sc_c (fun vs H Q E h=>?_) (fun cdv A outer s H vs Q E hr h=>?_)
 .obtain ⟨c,k,rfl,_⟩:=h;rfl
 .obtain ⟨c,k,rfl,h⟩:=h;refine⟨_,xj (xv (i:=2) sc_c.nd rfl (Zn rfl) (xt xam (xt xgb (xt xai (xt xai (xt xam (pv 0) (xm)) (xt xgb (xm) (pv 1))) (xm)) (xm)) (xm)))
   (xj (xv (i:=2) sc_c.nd rfl (Zn rfl) (xt xam (xt xgb (pv 2) (pv 2)) (xm)))
   (xk (xz (xt xam (xt xgb (pv 2) (xt xai (pv 2) (xm))) (xm))))),?_⟩
  refine⟨_,rfl,_,_,rfl,rfl,(by show (0:Int)<2147483629; decide),_,rfl,_,_,rfl,rfl,.inl ⟨by decide,by decide⟩,_,_,rfl,rfl,_,_,rfl,rfl,_,_,rfl,rfl,.inr ⟨by decide,by decide⟩,_,_,rfl,rfl,(by show (0:Int)<2147483647; decide),?_⟩;refine⟨_,rfl,_,rfl,_,_,rfl,rfl,.inl (xpm (by decide) (by decide)),_,_,rfl,rfl,(by show (0:Int)<2147483629; decide),?_⟩;refine⟨_,rfl,_,rfl,_,_,rfl,rfl,_,_,rfl,rfl,.inl (xpm (by decide) (by decide)),_,_,rfl,rfl,(by show (0:Int)<2147483587; decide),?_⟩;exact h _ (xdo _ (by decide)).1 (xdo _ (by decide)).2
theorem ok_a3 (T:Txt w K mg t):FnOk true P w K mg base (CXo P w) 2 t.f_a3 t.d_a3 ["_law_script"] (xsx K):=by
 refine T.F_a3.okn (k:=1) sc_a3 (fun vs H Q E h=>?_) (fun cdv A outer s H vs Q E hr h=>?_)
 .obtain ⟨sc,ns,rfl,_⟩:=h;rfl
 .obtain ⟨sc,ns,rfl,h⟩:=h;refine⟨_,xj (xv (i:=1) sc_a3.nd rfl (Zn rfl) (xr (ok_aj T) (hmm hr) rfl T.g_aj T.F_aj.kp T.b_aj .nil xn (xb (pv 0) (xb (xm) (xf)))))
   (xj (xv (i:=2) sc_a3.nd rfl (Zn rfl) (xt xai (xm) (xt xam (xr (ok_c T) (hmm hr) rfl T.g_c T.F_c.kp T.b_c .nil xn (xb (pv 1) (xb (xm) (xf)))) (xm))))
   (xj (xv (i:=3) sc_a3.nd rfl (Zn rfl) (xt xai (xm) (xt xam (xr (ok_c T) (hmm hr) rfl T.g_c T.F_c.kp T.b_c .nil xn (xb (pv 1) (xb (xm) (xf)))) (xm))))
   (xj (xbk (xad (x6 xbh (xt xam (xr (ok_c T) (hmm hr) rfl T.g_c T.F_c.kp T.b_c .nil xn (xb (pv 1) (xb (xm) (xf)))) (xm)) (xm) (x8 _)) (xj (xv (i:=2) sc_a3.nd rfl (Zn rfl) (xt xai (xm) (xt xam (xr (ok_c T) (hmm hr) rfl T.g_c T.F_c.kp T.b_c .nil xn (xb (pv 1) (xb (xm) (xf)))) (xm))))
   (xk (xv (i:=3) sc_a3.nd rfl (Zn rfl) (xt xai (xm) (xt xam (xr (ok_c T) (hmm hr) rfl T.g_c T.F_c.kp T.b_c .nil xn (xb (pv 1) (xb (xm) (xf)))) (xm)))))) (x4)))
   (xk (xz (x9 (xb (pv 2) (xb (pv 3) (xf))))))))),?_⟩
  obtain⟨hs,q⟩:=h;refine⟨_,rfl,sc,ns,0,rfl,hs,by decide,by decide,fun c=>?_⟩;refine⟨_,rfl,c,1,rfl,fun m1 _ _=>⟨_,_,rfl,rfl,(by show (0:Int)<30; decide),_,_,rfl,rfl,?_⟩⟩;obtain⟨w1,ew,w11,w12⟩:=xic 1 m1 30 (by decide) (by decide);simp only[ew];refine⟨_,rfl,c,2,rfl,fun m2 _ _=>⟨_,_,rfl,rfl,(by show (0:Int)<16; decide),_,_,rfl,rfl,?_⟩⟩;obtain⟨h1,eh,h11,h12⟩:=xic 1 m2 16 (by decide) (by decide);simp only[eh];refine⟨fun Z H1=>H=H1/\∃ w h:Nat,1<=w/\w<=30/\1<=h/\h<=16/\Z=[some (.ref sc),some (.int c),some (.int (w:Int)),some (.int (h:Int))],?_,?_⟩
  .refine ⟨_,rfl,c,3,rfl,fun m3 _ _=>⟨_,_,rfl,rfl,(by show (0:Int)<2; decide),rfl,_,rfl,ite2 (fun y=>?_) (fun y=>⟨rfl,w1,h1,by omega,by omega,by omega,by omega,rfl⟩)⟩⟩;refine⟨_,rfl,c,1,rfl,fun m4 _ _=>⟨_,_,rfl,rfl,(by show (0:Int)<19; decide),_,_,rfl,rfl,?_⟩⟩;obtain⟨w2,ew2,w21,w22⟩:=xic 12 m4 19 (by decide) (by decide);simp only[ew2];refine⟨_,rfl,c,2,rfl,fun m5 _ _=>⟨_,_,rfl,rfl,(by show (0:Int)<5; decide),_,_,rfl,rfl,?_⟩⟩;obtain⟨h2,eh2,h21,h22⟩:=xic 12 m5 5 (by decide) (by decide);simp only[eh2];exact⟨rfl,w2,h2,by omega,by omega,by omega,by omega,rfl⟩
  rintro Z _ ⟨rfl,w,h,a1,a2,a3,a4,rfl⟩;exact⟨_,rfl,_,rfl,(by exact leS2),fun p hp=>q w h _ p a1 a2 a3 a4 (xaa (Same.refl _) hp) xh⟩
theorem ok_a2 (T:Txt w K mg t):FnOk true P w K mg base (CXo P w) 2 t.f_a2 t.d_a2 ["_law_script", "_law_height"] (xq2 K):=by
 refine T.F_a2.okn (k:=1) sc_a2 (fun vs H Q E h=>?_) (fun cdv A outer s H vs Q E hr h=>?_)
 .obtain ⟨sc,ns,ph,rfl,_⟩:=h;rfl
 .obtain ⟨sc,ns,ph,rfl,h⟩:=h;refine⟨_,xj (xv (i:=2) sc_a2.nd rfl (Zn rfl) (xr (ok_aj T) (hmm hr) rfl T.g_aj T.F_aj.kp T.b_aj .nil xn (xb (pv 0) (xb (xm) (xf)))))
   (xj (xv (i:=3) sc_a2.nd rfl (Zn rfl) (xt xam (xr (ok_c T) (hmm hr) rfl T.g_c T.F_c.kp T.b_c .nil xn (xb (pv 2) (xb (xm) (xf)))) (xm)))
   (xj (xv (i:=4) sc_a2.nd rfl (Zn rfl) (xbr (xf)))
   (xj (xar ZC rfl (xcg rfl T.n_enumerate (xb (xbr (xb (xw) (xb (xw) (xf)))) (xf))) (xaf rfl (xq (xp (i:=5) sc_a2.nd rfl (Zn rfl)) (xq (xp (i:=6) sc_a2.nd rfl (Zn rfl)) (xab)))) (xk (xar ZC rfl (xcu rfl T.n_range (xb (xm) (xb (xt xai (pv 1) (xm)) (xf)))) (xp (i:=7) sc_a2.nd rfl (Zn rfl)) (xk (xbk (xad (x6 xkk (xt xam (xr (ok_c T) (hmm hr) rfl T.g_c T.F_c.kp T.b_c .nil xn (xb (pv 2) (xb (xt xai (xt xgb (xm) (pv 7)) (pv 5)) (xf)))) (xm)) (pv 3) (x8 _)) (xk (xa6 (xcl ZS JH JG xcn (pv 4) (xb (x9 (xb (pv 6) (xb (pv 7) (xf)))) (xf))))) (x4)))))))
   (xk (xz (pv 4)))))),?_⟩
  obtain⟨hs,h16,q⟩:=h;refine⟨_,rfl,sc,ns,1,rfl,hs,by decide,by decide,fun c=>?_⟩;refine⟨_,rfl,c,1,rfl,fun m1 _ _=>⟨_,_,rfl,rfl,(by show (0:Int)<7; decide),?_⟩⟩;refine⟨(by exact leS0),fun l hl=>?_⟩;generalize eu:upd H l (.lst [])=H1;have s1:=su_e hl eu;have g1:=ug_e eu;refine⟨(by exact leS2),fun le hle=>?_⟩;generalize eu:upd H1 le (.lst [.str (Zb "left"),.str (Zb "right")])=H2;have s2:=su_e hle eu;have g2:=ug_e eu;refine⟨le,_,rfl,SqL.of g2,?_⟩;have nle:le≠l:=ZE (xi g1 hle);have fle:=s1.free hle;refine xdu (xs:=[.str (Zb "left"),.str (Zb "right")]) (Pv:=fun k Z H5=>∃(ss:List Seat) (qs:List Addr) (v5 v6 v7:Option V),Z=[some (.ref sc),some (.int (ph:Int)),some (.int c),some (.int (m1 % 7)),some (.ref l),v5,v6,v7]/\Same H H5/\H5 le=some (.lst [.str (Zb "left"),.str (Zb "right")])/\H5 l=some (.lst (qs.map V.ref))/\xac H5 ss qs/\ss.Pairwise xci/\(∀ s∈ss,1<=s.2/\s.2<=(ph:Int))/\qs.length<=16*k/\(k=0->ss=[])/\(k=1->∀ s∈ss,s.1=true)) ?_ ?_ ?_ ?_
  .exact ⟨[],[],_,_,_,rfl,s1.trans s2,g2,s2 _ _ g1,.nil,.nil,fun _ z=>(nomatch z),Zl _,fun _=>rfl,fun z=>(nomatch z)⟩
  .rintro i Z H5 _ ⟨_,_,_,_,_,rfl,_,e,_⟩;exact SqL.of e
  .rintro k x p Z H5 hx hp ⟨ss,qs,v5,v6,v7,rfl,s5,e5,hl5,sl5,lt5,b5,n5,z0,z1⟩;have k2:k<2:=(Zf.mp hx).1;obtain⟨b,rfl,hb⟩:∃ b,x=.str (xax b)/\((b=true/\k=0)\/(b=false/\k=1)):=by
    match k,k2,hx with
    | 0,_,hx=>cases hx; exact⟨true,rfl,.inl ⟨rfl,rfl⟩⟩
    | 1,_,hx=>cases hx; exact⟨false,rfl,.inr ⟨rfl,rfl⟩⟩
   generalize eu:upd H5 p (.tup [.int (k:Int),.str (xax b)])=H6;have s6:=su_e hp eu;have g6:=ug_e eu;refine⟨p,_,rfl,SqT.of g6,rfl,_,_,rfl,_,_,rfl,rfl,?_⟩;refine⟨_,rfl,_,_,rfl,rfl,1,(ph:Int)+1,rfl,⟨by decide,by decide,by omega,by omega⟩,?_⟩;refine xjr (Pv:=fun j Z H7=>∃(ss:List Seat) (qs:List Addr) (v7:Option V),Z=[some (.ref sc),some (.int (ph:Int)),some (.int c),some (.int (m1 % 7)),some (.ref l),some (.int (k:Int)),some (.str (xax b)),v7]/\Same H H7/\H7 le=some (.lst [.str (Zb "left"),.str (Zb "right")])/\H7 l=some (.lst (qs.map V.ref))/\xac H7 ss qs/\ss.Pairwise xci/\(∀ s∈ss,1<=s.2/\s.2<=(ph:Int))/\qs.length<=16*k+j/\∀ s∈ss,(s.1=true/\(k=0->s.2<=(j:Int)))\/(k=1/\s.1=false/\s.2<=(j:Int))) ?_ ?_ ?_
   .refine ⟨ss,qs,_,rfl,s5.trans s6,s6 _ _ e5,s6 _ _ hl5,sl5.keep (Same.tups s6),lt5,b5,by omega,fun s hs=>.inl ?_⟩;rcases hb with⟨_,rfl⟩|⟨_,rfl⟩
    .rw [z0 rfl] at hs;exact nomatch hs
    .exact ⟨z1 rfl s hs,fun z=>(nomatch z)⟩
   .rintro j Z H7 hj ⟨ss,qs,v7,rfl,s7,e7,hl7,sl7,lt7,b7,n7,z7⟩;have jh:j<ph:=by omega
    have up:∀ s∈ss,(s.1=true/\(k=0->s.2<=((j+1:Nat):Int)))\/(k=1/\s.1=false/\s.2<=((j+1:Nat):Int)):=fun s hs=>by
     rcases z7 s hs with⟨a,b⟩|⟨a,b,c⟩
     .exact .inl ⟨a,fun z=>by have:=b z; omega⟩
     .exact .inr ⟨a,b,by omega⟩
    refine⟨_,?_,fun _ _ z=>z⟩;refine⟨_,rfl,_,rfl,_,_,rfl,rfl,.inl ⟨by decide,by decide⟩,_,rfl,_,_,rfl,rfl,c,_,rfl,fun m _ _=>⟨_,_,rfl,rfl,(by show (0:Int)<6; decide),_,rfl,_,_,rfl,rfl,_,rfl,ite2 (fun y=>?_) (fun y=>⟨ss,qs,_,rfl,s7,e7,hl7,sl7,lt7,b7,by omega,up⟩)⟩⟩;refine⟨_,rfl,.inl ⟨rfl,_,SqL.of hl7⟩,_,rfl,_,rfl,(by exact leS2),fun qa hqa=>?_⟩;generalize eu:upd H7 qa (.tup [.str (xax b),.int (1+(j:Int))])=H8;have s8:=su_e hqa eu;have g8:=ug_e eu;have hl8:=s8 _ _ hl7;refine⟨l,_,_,rfl,rfl,hl8,?_,?_⟩
    .rw [Za];exact xa2 (by omega)
    have kt:Tups H8 (upd H8 l (.lst (qs.map V.ref++[.ref qa]))):=fun c xs e=>by rw[xg (ne_f e hl8)]; exact e
    refine⟨ss++[(b,1+(j:Int))],qs++[qa],_,rfl,fun c u e=>by rw[xg (xi e hl)]; exact s8 _ _ (s7 _ _ e),by rw[xg nle]; exact s8 _ _ e7,by rw[xh,Z4]; rfl,((sl7.keep (Same.tups s8)).keep kt).snoc (kt _ _ g8),?_,fun s hs=>?_,by rw[Zp,Jc]; omega,fun s hs=>?_⟩
    .rw [Yb];refine⟨lt7,Q2 _ _,fun s hs s' hs'=>?_⟩;rw[Z6.mp hs'];rcases hb with⟨rfl,rfl⟩|⟨rfl,rfl⟩
     .rcases z7 s hs with⟨a,b⟩|⟨a,_⟩
      .exact .inr ⟨a,by have:=b rfl; show s.2<1+(j:Int); omega⟩
      .cases a
     .rcases z7 s hs with⟨a,b⟩|⟨_,a,b⟩
      .exact .inl ⟨a,rfl⟩
      .exact .inr ⟨a,by show s.2<1+(j:Int); omega⟩
    .rcases Z9.mp hs with hs|hs
     .exact b7 s hs
     .rw [Z6.mp hs];exact⟨by show (1:Int)<=1+(j:Int); omega,by show 1+(j:Int)<=_; omega⟩
    .rcases Z9.mp hs with hs|hs
     .exact up s hs
     .rw [Z6.mp hs];rcases hb with⟨rfl,rfl⟩|⟨rfl,rfl⟩
      .exact .inl ⟨rfl,fun _=>by show 1+(j:Int)<=_; omega⟩
      .exact .inr ⟨rfl,rfl,by show 1+(j:Int)<=_; omega⟩
   .rintro Z H7 ⟨ss,qs,v7,rfl,s7,e7,hl7,sl7,lt7,b7,n7,z7⟩;refine⟨ss,qs,_,_,_,rfl,s7,e7,hl7,sl7,lt7,b7,by omega,fun z=>by omega,fun z s hs=>?_⟩;rcases z7 s hs with⟨a,_⟩|⟨a,_⟩
    .exact a
    .omega
  .rintro Z H5 ⟨ss,qs,v5,v6,v7,rfl,s5,e5,hl5,sl5,lt5,b5,n5,_⟩;exact⟨_,rfl,q ss qs H5 l (by have e:=sl5.len; have n6:qs.length<=16*2:=n5; omega) lt5 b5 s5 hl hl5 sl5⟩
inductive xs3 (vs:List V) (H:Hp) (Q:VK) (_:XK):Prop
 | mk (c:Int) (nm:Str) (x y:Int) (h:Nat) (e_:vs=[.int c,.str nm,.int x,.int y,.int (h:Int)]) (r_:1<=h/\∀ H' q (sd:Str) (lo hi:Int),(sd="left"\/sd="right"\/sd="both")->1<=lo->lo<=hi->hi<=(h:Int)->Same H H'->H' q=some (.tup (.str nm::ptV ⟨nm,x,y,sd,lo,hi⟩))->Q (.ref q) H')
theorem xuz (c:Int):∃ sd:Str,atI [V.str (Zb "both"),V.str (Zb "left"),V.str (Zb "right")] (c % 3)=some (.str sd)/\(sd="left"\/sd="right"\/sd="both"):=by
 have b:=xdo c (show (0:Int)<3 by decide);have:c % 3=0\/c % 3=1\/c % 3=2:=by omega
 rcases this with e|e|e
 .exact ⟨"both",by rw[e]; rfl,.inr (.inr rfl)⟩
 .exact ⟨"left",by rw[e]; rfl,.inl rfl⟩
 .exact ⟨"right",by rw[e]; rfl,.inr (.inl rfl)⟩
theorem xeq {α:Type}{ls:List α}{k:Nat}{y:α} (nd:ls.Nodup) (h:ls[k]?=some y):(ls.eraseIdx k).Nodup/\y∉ls.eraseIdx k/\(∀ z∈ls.eraseIdx k,z∈ls)/\y∈ls:=by
 obtain⟨hk,hy⟩:=Zf.mp h;have e:ls.take k++y::ls.drop (k+1)=ls:=by
  rw[<- hy,List.getElem_cons_drop,QP]
 have e2:ls.eraseIdx k=ls.take k++ls.drop (k+1):=YO ls k;have nd2:=nd;rw[<- e,Ja,Jf] at nd2;obtain⟨n1,⟨n2,n3⟩,n4⟩:=nd2;refine⟨?_,?_,fun z hz=>List.mem_of_mem_eraseIdx hz,hy▸List.getElem_mem hk⟩
 .rw [e2,Ja];exact⟨n1,n3,fun a ha b hb=>n4 a ha b (Zt _ hb)⟩
 .rw [e2,Z9];rintro (z|z)
  .exact n4 _ z _ Zv rfl
  .exact n2 z
theorem xh8 {α:Type} (m:Int) {xs:List α} (h:xs≠[]) (h2:xs.length<=1000):∃ j y,xs[j]?=some y/\-(2 ^ 63)<=m % (xs.length:Int)/\m % (xs.length:Int)<2 ^ 63/\seqIndex? (m % (xs.length:Int)) xs.length=some j/\0<(xs.length:Int):=by
 have l0:0<xs.length:=List.length_pos_iff.mpr h;have lp:(0:Int)<(xs.length:Int):=by omega
 obtain⟨k0,k1⟩:=xdo m lp;obtain⟨j,hj⟩:=Int.eq_ofNat_of_zero_le k0;have jl:j<xs.length:=by
  have z:=k1;rw[hj] at z;omega
 exact⟨j,xs[j],Zg jl,by omega,by omega,by rw[seqIndex_of k0 k1,hj]; rfl,lp⟩
def abcS:Str:="abcdefghijklmnopqrstuvwxyz"
theorem xur:∀ c∈abcS.cps.toList,isNm ⟨#[c]⟩=true:=by decide +kernel
theorem xu5:abcS.cps.toList.Nodup:=by decide +kernel
theorem xt7:(sgnL abcS).Nodup:=by
 unfold sgnL;exact Drw.nd_map (fun a b e=>by
  have:=congrArg (fun s:Str=>s.cps.toList) (V.str.inj e);exact List.head_eq_of_cons_eq this) xu5
theorem xou (n:Nat):(rngL 1 ((n:Int)+1)).Nodup:=by
 unfold rngL;exact Drw.nd_map (fun a b e=>by
  have:=V.int.inj e;omega) Yz
theorem xmx {n:Nat}{v:V} (h:v∈rngL 1 ((n:Int)+1)):∃ x:Int,v=.int x/\1<=x/\x<=n:=by
 unfold rngL at h;obtain⟨i,hi,rfl⟩:=Zh.mp h;rw[ZL] at hi;exact⟨1+(i:Int),rfl,by omega,by omega⟩
structure PI (w h:Nat) (cols rows lts:List V) (ps:List Pt) (i:Nat):Prop where
 cn:cols.Nodup
 ci:∀ v∈cols,∃ x:Int,v=.int x/\1<=x/\x<=w
 rn:rows.Nodup
 ri:∀ v∈rows,∃ x:Int,v=.int x/\1<=x/\x<=h
 ln:lts.Nodup
 li:∀ v∈lts,v∈sgnL abcS
 ll:lts.length+ps.length=26
 cl:cols.length<=100
 rl:rows.length<=100
 pl:ps.length<=i
 ok:∀ p∈ps,PtOk w h p
 nx:(ps.map (·.x)).Nodup
 ny:(ps.map (·.y)).Nodup
 nn:(ps.map (·.nm)).Nodup
 ox:∀ p∈ps,V.int p.x∉cols
 oy:∀ p∈ps,V.int p.y∉rows
 on:∀ p∈ps,V.str p.nm∉lts
theorem xgk {α β:Type}{f:α->β}{l:List α}{x:α} (h:(l.map f).Nodup) (hx:∀ y∈l,f y≠f x):((l++[x]).map f).Nodup:=by
 rw[Z4,Ja];refine⟨h,by simp,fun a ha b hb e=>?_⟩;obtain⟨y,hy,rfl⟩:=Zh.mp ha;have hb:b∈[f x]:=hb;rw[Z6.mp hb] at e;exact hx y hy e
theorem PI.up {w h:Nat}{cols rows lts:List V}{ps:List Pt}{i:Nat} (g:PI w h cols rows lts ps i):PI w h cols rows lts ps (i+1):={ g with pl:=Nat.le_succ_of_le g.pl }
theorem PtsL.snoc1 {H:Hp}{ps:List Pt}{qs:List Addr} (h:PtsL H ps qs) {p:Pt}{q:Addr} (e:H q=some (.tup (.str p.nm::ptV p))):PtsL H (ps++[p]) (qs++[q]):=by
 induction h with
 | nil=>exact .cons e .nil
 | cons h _ ih=>exact .cons h ih
theorem PI.add {w h:Nat}{cols rows lts:List V}{ps:List Pt}{i jx jy jn:Nat}{p:Pt} (g:PI w h cols rows lts ps i) (hx:cols[jx]?=some (.int p.x)) (hy:rows[jy]?=some (.int p.y)) (hn:lts[jn]?=some (.str p.nm)) (ok:PtOk w h p):PI w h (cols.eraseIdx jx) (rows.eraseIdx jy) (lts.eraseIdx jn) (ps++[p]) (i+1):=by
 obtain⟨c1,c2,c3,c4⟩:=xeq g.cn hx;obtain⟨r1,r2,r3,r4⟩:=xeq g.rn hy;obtain⟨l1,l2,l3,l4⟩:=xeq g.ln hn;have lj:=(Zf.mp hn).1;refine⟨c1,fun v hv=>g.ci v (c3 v hv),r1,fun v hv=>g.ri v (r3 v hv),l1,fun v hv=>g.li v (l3 v hv),?_,?_,?_,?_,fun q hq=>?_,xgk g.nx fun y hy e=>?_,xgk g.ny fun y hy e=>?_,xgk g.nn fun y hy e=>?_,fun q hq=>?_,fun q hq=>?_,fun q hq=>?_⟩
 .rw [List.length_eraseIdx_of_lt lj,Zp,Jc];have:=g.ll;omega
 .exact Z8 (Q3 _ _) g.cl
 .exact Z8 (Q3 _ _) g.rl
 .rw [Zp,Jc];have:=g.pl;omega
 .rcases Z9.mp hq with hq|hq
  .exact g.ok q hq
  .rw [Z6.mp hq]; exact ok
 .exact g.ox y hy (e▸c4)
 .exact g.oy y hy (e▸r4)
 .exact g.on y hy (e▸l4)
 .rcases Z9.mp hq with hq|hq
  .exact fun z=>g.ox q hq (c3 _ z)
  .rw [Z6.mp hq]; exact c2
 .rcases Z9.mp hq with hq|hq
  .exact fun z=>g.oy q hq (r3 _ z)
  .rw [Z6.mp hq]; exact r2
 .rcases Z9.mp hq with hq|hq
  .exact fun z=>g.on q hq (l3 _ z)
  .rw [Z6.mp hq]; exact l2
inductive xq0 (K:Zd) (vs:List V) (H:Hp) (Q:VK) (_:XK):Prop
 | mk (lc:Addr) (ns:List Int) (w h:Nat) (e_:vs=[.ref lc,.int (w:Int),.int (h:Int)]) (r_:H lc=some (.lst (ns.map V.int))/\ns.length<=12/\1<=w/\w<=30/\1<=h/\h<=16/\∀ H' l ps qs,xfm (w:Int) (h:Int) ps->ps.length<=ns.length->Same H H'->H l=none->H' l=some (.lst (qs.map V.ref))->PtsL H' ps qs->Q (.ref l) H')
theorem xoh {K:Zd}{H:Hp}{l l2:Addr}{xs:List V} (h:H l=some (.lst xs)) (h2:H l2=some (.lst [])) (f:xs.all scV=true):∃(n m:Nat) (d e:DV),Dv K H n (.ref l) d/\Dv K H m (.ref l2) e/\n<=9/\m<=9/\(!dEq d e)=!decide (xs=[]):=by
 refine⟨1,1,.lst (xs.map scD),.lst [],.lst (SqL.of h) (by rw[Za]) (xdl f),.lst (SqL.of h2) rfl (xdl (xs:=[]) rfl),by decide,by decide,?_⟩;cases xs with
 | nil=>rfl
 | cons x r=>rfl
def IPt (H:Hp) (lcell lc lr ll lp:Addr) (w h:Nat) (i:Nat) (Z:L2.St) (H5:Hp):Prop:=∃(cols rows lts:List V) (ps:List Pt) (qs:List Addr) (v7 v8 v9 v10:Option V),Z=[some (.ref lcell),some (.int (w:Int)),some (.int (h:Int)),some (.ref lc),some (.ref lr),some (.ref ll),some (.ref lp),v7,v8,v9,v10] /\
 Same H H5/\H5 lc=some (.lst cols)/\H5 lr=some (.lst rows)/\H5 ll=some (.lst lts)/\H5 lp=some (.lst (qs.map V.ref))/\PtsL H5 ps qs/\PI w h cols rows lts ps i
theorem ok_a4 (T:Txt w K mg t):FnOk true P w K mg base (CXo P w) 2 t.f_a4 t.d_a4 ["_law_cell", "_law_name", "_law_x", "_law_y", "_law_height"] (xs3):=by
 refine T.F_a4.okn (k:=1) sc_a4 (fun vs H Q E h=>?_) (fun cdv A outer s H vs Q E hr h=>?_)
 .obtain ⟨c,nm,x,y,ph,rfl,_⟩:=h;rfl
 .obtain ⟨c,nm,x,y,ph,rfl,h⟩:=h;refine⟨_,xj (xv (i:=5) sc_a4.nd rfl (Zn rfl) (xaj xbp (xbr (xb (xw) (xb (xw) (xb (xw) (xf))))) (xt xam (xt xam (xr (ok_c T) (hmm hr) rfl T.g_c T.F_c.kp T.b_c .nil xn (xb (pv 0) (xb (xm) (xf)))) (xm)) (xm)) (fun _ _=>rfl)))
   (xj (xv (i:=6) sc_a4.nd rfl (Zn rfl) (xt xai (xm) (xt xam (xr (ok_c T) (hmm hr) rfl T.g_c T.F_c.kp T.b_c .nil xn (xb (pv 0) (xb (xm) (xf)))) (pv 4))))
   (xj (xv (i:=7) sc_a4.nd rfl (Zn rfl) (xt xai (pv 6) (xt xam (xr (ok_c T) (hmm hr) rfl T.g_c T.F_c.kp T.b_c .nil xn (xb (pv 0) (xb (xm) (xf)))) (xt xai (xt xdq (pv 4) (pv 6)) (xm)))))
   (xj (xv (i:=8) sc_a4.nd rfl (Zn rfl) (xt xam (xr (ok_c T) (hmm hr) rfl T.g_c T.F_c.kp T.b_c .nil xn (xb (pv 0) (xb (xm) (xf)))) (xm)))
   (xj ((by (with_reducible refine' xbk ?m34); (case m34=>((with_reducible refine' xad ?c16 ?a17 ?b18); (case c16=>exact x6 xbh (pv 8) (xm) (x8 _)); (case a17=>((with_reducible refine' xk ?c19); (case c19=>((with_reducible refine' xz ?e20); (case e20=>((with_reducible refine' x9 ?p21); (case p21=>((with_reducible refine' xb ?e22 ?q23 rfl); (case e22=>((exact pv 1))); (case q23=>((with_reducible refine' xb ?e24 ?q25 rfl); (case e24=>((exact pv 2))); (case q25=>((with_reducible refine' xb ?e26 ?q27 rfl); (case e26=>((exact pv 3))); (case q27=>((with_reducible refine' xb ?e28 ?q29 rfl); (case e28=>((exact pv 5))); (case q29=>((with_reducible refine' xb ?e30 ?q31 rfl); (case e30=>((exact xm))); (case q31=>((with_reducible refine' xb ?e32 ?q33 rfl); (case e32=>((exact pv 4))); (case q33=>((exact xf))))))))))))))))))))); (case b18=>((exact x4)))))))
   (xj (xbk (xad (x6 xbh (pv 8) (xm) (x8 _)) (xk (xv (i:=7) sc_a4.nd rfl (Zn rfl) (x5 (xf2 rfl) rfl T.n_min boot_min (xb (xt xai (pv 6) (xm)) (xb (pv 4) (xf)))))) (x4)))
   (xk ((by (with_reducible refine' xz ?e2); (case e2=>((with_reducible refine' x9 ?p3); (case p3=>((with_reducible refine' xb ?e4 ?q5 rfl); (case e4=>((exact pv 1))); (case q5=>((with_reducible refine' xb ?e6 ?q7 rfl); (case e6=>((exact pv 2))); (case q7=>((with_reducible refine' xb ?e8 ?q9 rfl); (case e8=>((exact pv 3))); (case q9=>((with_reducible refine' xb ?e10 ?q11 rfl); (case e10=>((exact pv 5))); (case q11=>((with_reducible refine' xb ?e12 ?q13 rfl); (case e12=>((exact pv 6))); (case q13=>((with_reducible refine' xb ?e14 ?q15 rfl); (case e14=>((exact pv 7))); (case q15=>((exact xf))))))))))))))))))))))))),?_⟩
  obtain⟨h1,q⟩:=h;refine⟨(by exact leS3),fun l0 hl0=>?_⟩;generalize eu:upd H l0 (.lst [V.str (Zb "both"),V.str (Zb "left"),V.str (Zb "right")])=H1;have s1:=su_e hl0 eu;have g1:=ug_e eu;refine⟨_,rfl,c,6,rfl,fun m6 _ _=>?_⟩;obtain⟨sd,esd,osd⟩:=xuz (m6 % 4);refine⟨_,_,rfl,rfl,(by show (0:Int)<4; decide),_,_,rfl,rfl,(by show (0:Int)<3; decide),l0,_,_,.str sd,rfl,rfl,SqL.of g1,esd,?_⟩;refine⟨_,rfl,c,7,rfl,fun m7 _ _=>⟨_,rfl,_,_,rfl,rfl,(by show (0:Int)<(ph:Int); omega),_,_,rfl,rfl,?_⟩⟩;have b7:=xdo m7 (show (0:Int)<(ph:Int) by omega);have p8:(0:Int)<(ph:Int)-(1+m7 % (ph:Int))+1:=by omega
  refine⟨_,rfl,_,rfl,c,8,rfl,fun m8 _ _=>⟨_,rfl,_,rfl,_,_,rfl,rfl,_,_,rfl,rfl,_,_,rfl,rfl,p8,_,_,rfl,rfl,?_⟩⟩;have b8:=xdo m8 p8;refine⟨_,rfl,c,9,rfl,fun m9 _ _=>⟨_,_,rfl,rfl,(by show (0:Int)<3; decide),?_⟩⟩;refine⟨fun Z H5=>H1=H5/\Z=[some (.int c),some (.str nm),some (.int x),some (.int y),some (.int (ph:Int)),some (.str sd),some (.int (1+m7 % (ph:Int))),some (.int (1+m7 % (ph:Int)+m8 % ((ph:Int)-(1+m7 % (ph:Int))+1))),some (.int (m9 % 3))],?_,?_⟩
  .refine ⟨_,rfl,rfl,_,rfl,ite2 (fun y=>?_) (fun y=>⟨rfl,rfl⟩)⟩;exact⟨_,rfl,_,rfl,_,rfl,_,rfl,_,rfl,(by exact leS6),fun p hp=>q _ p sd 1 (ph:Int) osd (by omega) (by omega) (by omega) (s1.trans (xaa (Same.refl _) hp)) xh⟩
  rintro Z _ ⟨rfl,rfl⟩;refine⟨fun Z H5=>H1=H5/\∃ hi:Int,1+m7 % (ph:Int)<=hi/\hi<=(ph:Int)/\Z=[some (.int c),some (.str nm),some (.int x),some (.int y),some (.int (ph:Int)),some (.str sd),some (.int (1+m7 % (ph:Int))),some (.int hi),some (.int (m9 % 3))],?_,?_⟩
  .refine ⟨_,rfl,rfl,_,rfl,ite2 (fun y=>?_) (fun y=>⟨rfl,_,by omega,by omega,rfl⟩)⟩;refine⟨_,rfl,_,_,rfl,rfl,_,rfl,_,_,rfl,rfl,_,?_,?_,rfl⟩
   .split<;>omega
   .split<;>omega
  rintro Z _ ⟨rfl,hi,a1,a2,rfl⟩;exact⟨_,rfl,_,rfl,_,rfl,_,rfl,_,rfl,_,rfl,(by exact leS6),fun p hp=>q _ p sd _ hi osd (by omega) a1 a2 (s1.trans (xaa (Same.refl _) hp)) xh⟩
theorem ok_ap (T:Txt w K mg t):FnOk true P w K mg base (CXo P w) 3 t.f_ap t.d_ap ["_law_cells", "_law_width", "_law_height"] (xq0 K):=by
 refine T.F_ap.okn (k:=2) sc_ap (fun vs H Q E h=>?_) (fun cdv A outer s H vs Q E hr h=>?_)
 .obtain ⟨lcell,ns,w',h',rfl,_⟩:=h;rfl
 .obtain ⟨lcell,ns,w',h',rfl,h⟩:=h;refine⟨_,xj (xv (i:=3) sc_ap.nd rfl (Zn rfl) (xcb (xfs rfl) rfl T.n_list boot_list (xb (xcb xg0 rfl T.n_range boot_range (xb (xm) (xb (xt xai (pv 1) (xm)) (xf)))) (xf))))
   (xj (xv (i:=4) sc_ap.nd rfl (Zn rfl) (xcb (xfs rfl) rfl T.n_list boot_list (xb (xcb xg0 rfl T.n_range boot_range (xb (xm) (xb (xt xai (pv 2) (xm)) (xf)))) (xf))))
   (xj (xv (i:=5) sc_ap.nd rfl (Zn rfl) (xcb (xj6 rfl) rfl T.n_list boot_list (xb (xw) (xf))))
   (xj (xv (i:=6) sc_ap.nd rfl (Zn rfl) (xbr (xf)))
   (xj (xar ZC rfl (xas (pv 0)) (xp (i:=7) sc_ap.nd rfl (Zn rfl)) (xk (xbk (xad (PW.pt (xh6 (x6 (xe2 (xch hr)) (pv 3) (xbr (xf)) (x8 _)) (xgg (x6 (xe2 (xch hr)) (pv 4) (xbr (xf)) (x8 _))))) (xj (xv (i:=8) sc_ap.nd rfl (Zn rfl) (xcl ZS YS YR xfp (pv 3) (xb (xt xam (xr (ok_c T) (hmm hr) rfl T.g_c T.F_c.kp T.b_c .nil xn (xb (pv 7) (xb (xm) (xf)))) (x5 xa8 rfl T.n_len Ju (xb (pv 3) (xf)))) (xf))))
   (xj (xv (i:=9) sc_ap.nd rfl (Zn rfl) (xcl ZS YS YR xfp (pv 4) (xb (xt xam (xr (ok_c T) (hmm hr) rfl T.g_c T.F_c.kp T.b_c .nil xn (xb (pv 7) (xb (xm) (xf)))) (x5 xa8 rfl T.n_len Ju (xb (pv 4) (xf)))) (xf))))
   (xj (xv (i:=10) sc_ap.nd rfl (Zn rfl) (xcl ZS YS YR xfp (pv 5) (xb (xt xam (xr (ok_c T) (hmm hr) rfl T.g_c T.F_c.kp T.b_c .nil xn (xb (pv 7) (xb (xm) (xf)))) (x5 xa8 rfl T.n_len Ju (xb (pv 5) (xf)))) (xf))))
   (xk (xa6 (xcl ZS JH JG xcn (pv 6) (xb (xr (ok_a4 T) (hmm hr) rfl T.g_a4 T.F_a4.kp T.b_a4 .nil xn (xx (pv 7) (xx (pv 10) (xx (pv 8) (xx (pv 9) (xx (pv 2) (xf) rfl) rfl) rfl) rfl) rfl)) (xf)))))))) (x4)))))
   (xk (xz (pv 6))))))),?_⟩
  obtain⟨hc,n12,w1,w2,h1,h2,q⟩:=h;refine⟨_,rfl,_,_,rfl,rfl,1,(w':Int)+1,rfl,fun pr hpr=>?_⟩;generalize eu:upd H pr (.rng 1 ((w':Int)+1))=H1;have s1:=su_e hpr eu;have g1:=ug_e eu;refine⟨pr,_,_,rfl,g1,⟨by decide,by decide,by omega,by omega⟩,by omega,fun lc hlc=>?_⟩;generalize eu:upd H1 lc (.lst (rngL 1 ((w':Int)+1)))=H2;have s2:=su_e hlc eu;have g2:=ug_e eu;refine⟨_,rfl,_,_,rfl,rfl,1,(h':Int)+1,rfl,fun pr2 hpr2=>?_⟩;generalize eu:upd H2 pr2 (.rng 1 ((h':Int)+1))=H3;have s3:=su_e hpr2 eu;have g3:=ug_e eu;refine⟨pr2,_,_,rfl,g3,⟨by decide,by decide,by omega,by omega⟩,by omega,fun lr hlr=>?_⟩;generalize eu:upd H3 lr (.lst (rngL 1 ((h':Int)+1)))=H4;have s4:=su_e hlr eu;have g4:=ug_e eu;refine⟨abcS,rfl,by decide +kernel,fun ll hll=>?_⟩;generalize eu:upd H4 ll (.lst (sgnL abcS))=H5;have s5:=su_e hll eu;have g5:=ug_e eu;refine⟨(by exact leS0),fun lp hlp=>?_⟩;generalize eu:upd H5 lp (.lst [])=H6;have s6:=su_e hlp eu;have g6:=ug_e eu;have s06:=(((s1.trans s2).trans s3).trans s4).trans (s5.trans s6);have f2:=s1.free hlc;have f4:=((s1.trans s2).trans s3).free hlr;have f5:=(((s1.trans s2).trans s3).trans s4).free hll;have f6:=((((s1.trans s2).trans s3).trans s4).trans s5).free hlp;have e2:=s6 _ _ (s5 _ _ (s4 _ _ (s3 _ _ g2)));have e4:=s6 _ _ (s5 _ _ g4);have e5:=s6 _ _ g5;have n24:lc≠lr:=xi (s3 _ _ g2) hlr;have n25:lc≠ll:=xi (s4 _ _ (s3 _ _ g2)) hll;have n26:lc≠lp:=xi (s5 _ _ (s4 _ _ (s3 _ _ g2))) hlp;have n45:lr≠ll:=xi g4 hll;have n46:lr≠lp:=xi (s5 _ _ g4) hlp;have n56:ll≠lp:=xi g5 hlp;refine⟨_,rfl,lcell,rfl,⟨_,SqL.of (s06 _ _ hc)⟩,?_⟩;refine xa9 (xs:=ns.map V.int) (Pv:=IPt H lcell lc lr ll lp w' h') ⟨_,_,_,[],[],_,_,_,_,rfl,s06,e2,e4,e5,g6,.nil,⟨xou _,fun v hv=>xmx hv,xou _,fun v hv=>xmx hv,xt7,fun v hv=>hv,(by decide +kernel),?_,?_,Zl _,fun _ z=>(nomatch z),.nil,.nil,.nil,fun _ z=>(nomatch z),fun _ z=>(nomatch z),fun _ z=>(nomatch z)⟩⟩ ?_ ?_ ?_
  .unfold rngL;rw[Za,Zr];omega
  .unfold rngL;rw[Za,Zr];omega
  .rintro i Z H7 _ ⟨_,_,_,_,_,_,_,_,_,rfl,s7,_⟩;exact SqL.of (s7 _ _ hc)
  .rintro i x Z H7 hx ⟨cols,rows,lts,ps,qs,v7,v8,v9,v10,rfl,s7,e7c,e7r,e7l,e7p,pl7,pi⟩;rw[Ze,Zj] at hx;obtain⟨c,hc',rfl⟩:=hx;have i12:i<12:=by have:=(Zf.mp hc').1; omega
   refine⟨_,?_,fun _ _ z=>z⟩;have sc1:cols.all scV=true:=YW.mpr fun v hv=>by
    obtain⟨x,rfl,_⟩:=pi.ci v hv;rfl
   have sc2:rows.all scV=true:=YW.mpr fun v hv=>by
    obtain⟨x,rfl,_⟩:=pi.ri v hv;rfl
   refine⟨_,rfl,(by exact leS0),fun z1 hz1=>?_⟩;generalize eu:upd H7 z1 (.lst [])=H8;have s8:=su_e hz1 eu;have g8:=ug_e eu;obtain⟨n,m,d,e,d1,d2,n9,m9,ev⟩:=xoh (K:=K) (s8 _ _ e7c) g8 sc1;refine⟨n,m,d,e,d1,d2,n9,m9,_,rfl,?_⟩;rw[ev];refine ite2 (fun y1=>?_) (fun y1=>⟨cols,rows,lts,ps,qs,_,_,_,_,rfl,s7.trans s8,s8 _ _ e7c,s8 _ _ e7r,s8 _ _ e7l,s8 _ _ e7p,pl7.keep (Same.tups s8),pi.up⟩);refine⟨_,rfl,(by exact leS0),fun z2 hz2=>?_⟩;generalize eu:upd H8 z2 (.lst [])=H9;have s9:=su_e hz2 eu;have g9:=ug_e eu;have s79:=s8.trans s9;obtain⟨n',m',d',e',d1',d2',n9',m9',ev'⟩:=xoh (K:=K) (s79 _ _ e7r) g9 sc2;refine⟨n',m',d',e',d1',d2',n9',m9',_,rfl,?_⟩;rw[ev'];refine ite2 (fun y2=>?_) (fun y2=>⟨cols,rows,lts,ps,qs,_,_,_,_,rfl,s7.trans s79,s79 _ _ e7c,s79 _ _ e7r,s79 _ _ e7l,s79 _ _ e7p,pl7.keep (Same.tups s79),pi.up⟩);have cne:cols≠[]:=fun z=>by rw[z] at y1; exact absurd y1 (by decide)
   have rne:rows≠[]:=fun z=>by rw[z] at y2; exact absurd y2 (by decide)
   have lne:lts≠[]:=fun z=>by
    have l0:lts.length=0:=by rw[z]; rfl
    have:=pi.ll;have:=pi.pl;omega
   have e9c:=s79 _ _ e7c;have e9r:=s79 _ _ e7r;have e9l:=s79 _ _ e7l;have e9p:=s79 _ _ e7p;have p9:=pl7.keep (Same.tups s79);have s09:=s7.trans s79;refine⟨_,rfl,.inl ⟨rfl,_,SqL.of e9c⟩,_,rfl,c,3,rfl,fun m3 _ _=>?_⟩;obtain⟨jx,vx,gx,a1,a2,a3,a4⟩:=xh8 m3 cne (Z8 pi.cl (by decide));obtain⟨x,rfl,x1,x2⟩:=pi.ci vx (Zk gx);refine⟨_,rfl,lc,_,rfl,.inl (SqL.of e9c),_,_,rfl,rfl,a4,lc,_,_,jx,_,rfl,rfl,e9c,a1,a2,a3,gx,?_⟩;have k10:∀ c u,c≠lc->H9 c=some u->upd H9 lc (.lst (cols.eraseIdx jx)) c=some u:=fun c u nc e=>by rw[xg nc]; exact e
   have g10:upd H9 lc (.lst (cols.eraseIdx jx)) lc=some (.lst (cols.eraseIdx jx)):=xh;revert k10 g10;generalize upd H9 lc (.lst (cols.eraseIdx jx))=H10;intro k10 g10;have e10r:=k10 _ _ (ZE n24) e9r;refine⟨_,rfl,.inl ⟨rfl,_,SqL.of e10r⟩,_,rfl,c,4,rfl,fun m4 _ _=>?_⟩;obtain⟨jy,vy,gy,b1,b2,b3,b4⟩:=xh8 m4 rne (Z8 pi.rl (by decide));obtain⟨y,rfl,y3,y4⟩:=pi.ri vy (Zk gy);refine⟨_,rfl,lr,_,rfl,.inl (SqL.of e10r),_,_,rfl,rfl,b4,lr,_,_,jy,_,rfl,rfl,e10r,b1,b2,b3,gy,?_⟩;have k11:∀ c u,c≠lr->H10 c=some u->upd H10 lr (.lst (rows.eraseIdx jy)) c=some u:=fun c u nc e=>by rw[xg nc]; exact e
   have g11:upd H10 lr (.lst (rows.eraseIdx jy)) lr=some (.lst (rows.eraseIdx jy)):=xh;revert k11 g11;generalize upd H10 lr (.lst (rows.eraseIdx jy))=H11;intro k11 g11;have e11l:=k11 _ _ (ZE n45) (k10 _ _ (ZE n25) e9l);have e11c:=k11 _ _ n24 g10;refine⟨_,rfl,.inl ⟨rfl,_,SqL.of e11l⟩,_,rfl,c,5,rfl,fun m5 _ _=>?_⟩;obtain⟨jn,vn,gn,c1,c2,c3,c4⟩:=xh8 m5 lne (by have:=pi.ll; omega);obtain⟨cc,hcc,rfl⟩:=Zh.mp (pi.li vn (Zk gn));have inm:=xur cc hcc;refine⟨_,rfl,ll,_,rfl,.inl (SqL.of e11l),_,_,rfl,rfl,c4,ll,_,_,jn,_,rfl,rfl,e11l,c1,c2,c3,gn,?_⟩;have k12:∀ c u,c≠ll->H11 c=some u->upd H11 ll (.lst (lts.eraseIdx jn)) c=some u:=fun c u nc e=>by rw[xg nc]; exact e
   have g12:upd H11 ll (.lst (lts.eraseIdx jn)) ll=some (.lst (lts.eraseIdx jn)):=xh;revert k12 g12;generalize upd H11 ll (.lst (lts.eraseIdx jn))=H12;intro k12 g12;have e12c:=k12 _ _ n25 e11c;have e12r:=k12 _ _ n45 g11;have e12p:=k12 _ _ (ZE n56) (k11 _ _ (ZE n46) (k10 _ _ (ZE n26) e9p));have s012:Same H H12:=fun c u e=>k12 _ _ (xi e f5) (k11 _ _ (xi e f4) (k10 _ _ (xi e f2) (s09 _ _ e)));have t912:Tups H9 H12:=fun c xs e=>k12 _ _ (ne_f e (s79 _ _ e7l)) (k11 _ _ (ne_f e e9r) (k10 _ _ (ne_f e e9c) e));refine⟨_,rfl,.inl ⟨rfl,_,SqL.of e12p⟩,_,rfl,_,rfl,_,rfl,_,rfl,_,rfl,c,⟨#[cc]⟩,x,y,h',rfl,h1,fun H13 qa sd lo hi osd o1 o2 o3 s13 hqa=>?_⟩;have e13p:=s13 _ _ e12p;refine⟨lp,_,_,rfl,rfl,e13p,?_,?_⟩
   .rw [Za,pl7.len];exact Yi (by have:=pi.pl; omega:_<=1000) (by decide)
   have kt:Tups H13 (upd H13 lp (.lst (qs.map V.ref++[.ref qa]))):=fun c xs e=>by rw[xg (ne_f e e13p)]; exact e
   refine⟨_,_,_,ps++[⟨⟨#[cc]⟩,x,y,sd,lo,hi⟩],qs++[qa],_,_,_,_,rfl,fun c u e=>by rw[xg (xi e f6)]; exact s13 _ _ (s012 _ _ e),by rw[xg n26]; exact s13 _ _ e12c,by rw[xg n46]; exact s13 _ _ e12r,by rw[xg n56]; exact s13 _ _ g12,by rw[xh,Z4]; rfl,PtsL.snoc1 (((p9.keep t912).keep (Same.tups s13)).keep kt) (kt _ _ hqa),pi.add (p:=⟨⟨#[cc]⟩,x,y,sd,lo,hi⟩) gx gy gn ⟨inm,x1,x2,y3,y4,osd,o1,o2,o3⟩⟩
  .rintro Z H7 ⟨cols,rows,lts,ps,qs,v7,v8,v9,v10,rfl,s7,e7c,e7r,e7l,e7p,pl7,pi⟩;have:=pi.pl;rw[Za] at this;exact⟨_,rfl,q H7 lp ps qs ⟨pi.ok,pi.nn,pi.nx,pi.ny,by omega⟩ (by omega) s7 f6 e7p pl7⟩
theorem xq6 {ss:List Seat} (h:ss.Pairwise xci):ss.Nodup:=h.imp fun {a b} z e=>by
 subst e;exact xge _ _ z z
def xav (b:Bool) (h:Nat):List Seat:=(Z0 h).map fun (i:Nat)=>(b,1+(i:Int))
inductive xsm (vs:List V) (H:Hp) (Q:VK) (_:XK):Prop
 | mk (h:Nat) (e_:vs=[.int (h:Int)]) (r_:h<=16/\∀ H' l ss rs,ss=xav true h++xav false h->SsOk (h:Int) ss->Same H H'->H l=none->H' l=some (.lst (rs.map V.ref))->xac H' ss rs->Q (.ref l) H')
theorem xqt (h:Nat) (h16:h<=16):SsOk (h:Int) (xav true h++xav false h):=by
 have nd:∀ b,(xav b h).Nodup:=fun b=>Drw.nd_map (fun a c e=>by
  have:=(JJ.inj e).2;omega) Yz
 refine⟨?_,?_,fun s hs=>?_⟩
 .rw [Ja];refine⟨nd _,nd _,fun a ha b hb e=>?_⟩;obtain⟨i,_,rfl⟩:=Zh.mp ha;obtain⟨j,_,rfl⟩:=Zh.mp hb;exact absurd (JJ.inj e).1 (by decide)
 .unfold xav;rw[Zp,Za,Za,Zr];omega
 .rcases Z9.mp hs with hs|hs
  .obtain ⟨i,hi,rfl⟩:=Zh.mp hs;rw[ZL] at hi;exact⟨by show (1:Int)<=1+(i:Int); omega,by show 1+(i:Int)<=_; omega⟩
  .obtain ⟨i,hi,rfl⟩:=Zh.mp hs;rw[ZL] at hi;exact⟨by show (1:Int)<=1+(i:Int); omega,by show 1+(i:Int)<=_; omega⟩
theorem xac.append {H:Hp}{ss ts:List Seat}{qs rs:List Addr} (h:xac H ss qs) (h':xac H ts rs):xac H (ss++ts) (qs++rs):=by
 induction h with
 | nil=>exact h'
 | cons h _ ih=>exact .cons h ih
theorem xac.erase {H:Hp}{ss:List Seat}{qs:List Addr} (h:xac H ss qs) (k:Nat):xac H (ss.eraseIdx k) (qs.eraseIdx k):=by
 induction h generalizing k with
 | nil=>exact .nil
 | cons h r ih =>
  cases k with
  | zero=>exact r
  | succ k=>exact .cons h (ih k)
theorem ok_aa (T:Txt w K mg t):FnOk true P w K mg base (CXo P w) 1 t.f_aa t.d_aa ["_law_height"] (xsm):=by
 refine T.F_aa.okn (k:=0) sc_aa (fun vs H Q E h=>?_) (fun cdv A outer s H vs Q E hr h=>?_)
 .obtain ⟨h',rfl,_⟩:=h;rfl
 .obtain ⟨h',rfl,h⟩:=h;refine⟨_,xk (xz (xt xf8 (xbx rfl (xaw (zs:=["_law_row"]) (ys:=[]) (fr:=[]) (N0:=["_law_height"]) (sc0:=xo s_aa) (by decide +kernel) rfl rfl rfl) (xcu rfl T.n_range (xb (xm) (xb (xt xai (pv 0) (xm)) (xf)))) (fun _ _ _ _ _ ow nd=>xp (i:=0) nd rfl (Zn (ow _ (by simp))) (ZX (ow _ (by simp)))) (xbj (by decide)) (fun _ _ _ _ _=>xbf) (fun _ _ _ _ _=>x9 (xb (xw) (xb (pv 0) (xf))))) (xbx rfl (xaw (zs:=["_law_row"]) (ys:=[]) (fr:=[]) (N0:=["_law_height"]) (sc0:=xo s_aa) (by decide +kernel) rfl rfl rfl) (xcu rfl T.n_range (xb (xm) (xb (xt xai (pv 0) (xm)) (xf)))) (fun _ _ _ _ _ ow nd=>xp (i:=0) nd rfl (Zn (ow _ (by simp))) (ZX (ow _ (by simp)))) (xbj (by decide)) (fun _ _ _ _ _=>xbf) (fun _ _ _ _ _=>x9 (xb (xw) (xb (pv 0) (xf))))))),?_⟩;obtain⟨h16,q⟩:=h;refine⟨_,rfl,_,_,rfl,rfl,1,(h':Int)+1,rfl,⟨by decide,by decide,by omega,by omega⟩,fun l1 hl1=>?_⟩;have hh:((h':Int)+1-1).toNat=h':=by omega
  refine xdp (xa2 (by omega)) hl1 (fun i y H5=>∃ q,y=.ref q/\H5 q=some (.tup (xb8 (true,1+(i:Int))))) (fun i y H5 H6 tp z=>let ⟨q,e,f⟩:=z; ⟨q,e,tp _ _ f⟩) (fun i H5 hi s5 N hN=>?_) (fun ys H5 s5 e5 ly fy=>?_)
  .exact ⟨_,rfl,(by exact leS2),fun p hp=>hN _ _ (xaa (Same.refl _) hp) ⟨p,rfl,xh⟩⟩
  rw[hh] at ly;obtain⟨rs1,rfl,sl1⟩:=xac.pick (ss:=xav true h') (by rw[ly]; unfold xav; rw[Za,Zr]) (fun j y s hy hs=>by
   obtain⟨q,e,f⟩:=fy j y hy;unfold xav at hs;rw[Ze,Zj] at hs;obtain⟨i,hi,rfl⟩:=hs;have:i=j:=by
    have z:=(Zf.mp hi).2;rw[Qn] at z;exact z.symm
   subst this;exact⟨q,e,f⟩)
  refine⟨_,rfl,_,_,rfl,rfl,1,(h':Int)+1,rfl,⟨by decide,by decide,by omega,by omega⟩,fun l2 hl2=>?_⟩;refine xdp (xa2 (by omega)) hl2 (fun i y H6=>∃ q,y=.ref q/\H6 q=some (.tup (xb8 (false,1+(i:Int))))) (fun i y H5 H6 tp z=>let ⟨q,e,f⟩:=z; ⟨q,e,tp _ _ f⟩) (fun i H6 hi s6 N hN=>?_) (fun ys2 H6 s6 e6 ly2 fy2=>?_)
  .exact ⟨_,rfl,(by exact leS2),fun p hp=>hN _ _ (xaa (Same.refl _) hp) ⟨p,rfl,xh⟩⟩
  rw[hh] at ly2;obtain⟨rs2,rfl,sl2⟩:=xac.pick (ss:=xav false h') (by rw[ly2]; unfold xav; rw[Za,Zr]) (fun j y s hy hs=>by
   obtain⟨q,e,f⟩:=fy2 j y hy;unfold xav at hs;rw[Ze,Zj] at hs;obtain⟨i,hi,rfl⟩:=hs;have:i=j:=by
    have z:=(Zf.mp hi).2;rw[Qn] at z;exact z.symm
   subst this;exact⟨q,e,f⟩)
  refine⟨l1,l2,_,_,rfl,rfl,s6 _ _ e5,e6,?_,fun l3 hl3=>?_⟩
  .rw [ly,ly2];exact xb5 (by omega)
  rw[<- Z4];generalize eu:upd H6 l3 (.lst ((rs1++rs2).map V.ref))=H7;have s7:=su_e hl3 eu;have g7:=ug_e eu;exact q H7 l3 _ _ rfl (xqt h' h16) ((s5.trans s6).trans s7) ((s5.trans s6).free hl3) g7 (((sl1.keep (Same.tups s6)).append sl2).keep (Same.tups s7))
structure xga (w h:Int) (ps:List Pt) (prs:List Pr):Prop where
 ok:∀ p∈prs,PrOk ps w h p
 nd:(prs.map (·.2)).Nodup
 len:prs.length<=12
 nn:(prs.map fun p=>p.1.nm).Nodup
inductive xs5 (w:Nat) (vs:List V) (H:Hp) (Q:VK) (_:XK):Prop
 | mk (c:Int) (lp ls:Addr) (h:Nat) (ps:List Pt) (ss:List Seat) (qs rs:List Addr) (e_:vs=[.int c,.ref lp,.int (h:Int),.ref ls]) (r_:h<=16/\H lp=some (.lst (qs.map V.ref))/\PtsL H ps qs/\xfm (w:Int) (h:Int) ps/\H ls=some (.lst (rs.map V.ref))/\xac H ss rs/\SsOk (h:Int) ss/\∀ H' l prs ts,xga (w:Int) (h:Int) ps prs->Same H H'->H l=none->H' l=some (.lst (ts.map V.ref))->PrsL H' prs ts->Q (.ref l) H')
def xqj:Sp:=fun vs H Q E=>∃ w:Nat,xs5 w vs H Q E
theorem xmd {ps:List Pt} (nd:(ps.map (·.nm)).Nodup) {p:Pt} (h:p∈ps):ps.find? (fun z=>decide (z.nm=p.nm))=some p:=by
 induction ps with
 | nil=>exact nomatch h
 | cons x r ih =>
  rw[Zu,Jf] at nd;rcases Zy.mp h with rfl|h
  .rw [QD (by simp)]
  .rw [QE,ih nd.2 h];intro e;exact nd.1 (Zh.mpr ⟨p,h,(of_decide_eq_true e).symm⟩)
theorem xq5 {h:Int}{ss:List Seat} (o:SsOk h ss) {k:Nat}{s:Seat} (e:ss[k]?=some s):SsOk h (ss.eraseIdx k)/\s∉ss.eraseIdx k/\(∀ z∈ss.eraseIdx k,z∈ss)/\s∈ss:=by
 obtain⟨a,b,c,d⟩:=xeq o.1 e;exact⟨⟨a,Z8 (Q3 _ _) o.2.1,fun z hz=>o.2.2 z (c z hz)⟩,b,c,d⟩
theorem xqk {K:Zd}{H:Hp}{l l2:Addr}{ss:List Seat}{rs:List Addr} (sl:xac H ss rs) (h:H l=some (.lst (rs.map V.ref))) (h2:H l2=some (.lst [])):∃(n m:Nat) (d e:DV),Dv K H n (.ref l) d/\Dv K H m (.ref l2) e/\n<=9/\m<=9/\(!dEq d e)=!decide (ss=[]):=by
 refine⟨2,1,_,.lst [],sl.dv h,.lst (SqL.of h2) rfl (xdl (xs:=[]) rfl),by decide,by decide,?_⟩;cases ss with
 | nil=>rfl
 | cons x r=>rfl
def IPr (H:Hp) (lp ls lf l2:Addr) (c:Int) (w h:Nat) (ps:List Pt) (k:Nat) (Z:L2.St) (H5:Hp):Prop:=∃(ss:List Seat) (rs:List Addr) (prs:List Pr) (ts:List Addr) (v6 v7 v8 v9:Option V),Z=[some (.int c),some (.ref lp),some (.int (h:Int)),some (.ref ls),some (.ref lf),some (.ref l2),v6,v7,v8,v9] /\
 Same H H5/\H5 lf=some (.lst (rs.map V.ref))/\xac H5 ss rs/\SsOk (h:Int) ss/\H5 l2=some (.lst (ts.map V.ref))/\PrsL H5 prs ts/\(∀ p∈prs,PrOk ps (w:Int) (h:Int) p)/\prs.length<=k/\(prs.map (·.2)).Nodup/\(∀ p∈prs,p.2∉ss)/\List.Sublist (prs.map (·.1)) (ps.take k)
theorem xvc {ps:List Pt} (nd:(ps.map (·.nm)).Nodup) {prs:List Pr}{k:Nat} (h:List.Sublist (prs.map (·.1)) (ps.take k)):(prs.map fun p=>p.1.nm).Nodup:=by
 have z:=(h.trans (List.take_sublist _ _)).map (·.nm);rw[Z3] at z;exact z.nodup nd
theorem PrsL.rev {H:Hp}{ps:List Pr}{qs:List Addr} (h:PrsL H ps qs):PrsL H ps.reverse qs.reverse:=by
 induction h with
 | nil=>exact .nil
 | cons h _ ih =>
  rw[List.reverse_cons,List.reverse_cons];exact ih.snoc h
theorem ok_ax (T:Txt w K mg t):FnOk true P w K mg base (CXo P w) 2 t.f_ax t.d_ax ["_law_cell", "_law_points_here", "_law_height", "_law_seats_here"] (xqj):=by
 refine T.F_ax.okn (k:=1) sc_ax (fun vs H Q E h=>?_) (fun cdv A outer s H vs Q E hr h=>?_)
 .obtain ⟨w',c,lp,ls,h',ps,ss,qs,rs,rfl,_⟩:=h;rfl
 .obtain ⟨w',c,lp,ls,h',ps,ss,qs,rs,rfl,h⟩:=h;refine⟨_,xj (xv (i:=4) sc_ax.nd rfl (Zn rfl) (xcb xf4 rfl T.n_list boot_list (xb (pv 3) (xf))))
   (xj (xbk (xad (x6 xbh (xt xam (xr (ok_c T) (hmm hr) rfl T.g_c T.F_c.kp T.b_c .nil xn (xb (pv 0) (xb (xm) (xf)))) (xm)) (xm) (x8 _)) (xk (xv (i:=4) sc_ax.nd rfl (Zn rfl) (xr (ok_aa T) (hmm hr) rfl T.g_aa T.F_aa.kp T.b_aa .nil xn (xb (pv 2) (xf))))) (x4)))
   (xj (xv (i:=5) sc_ax.nd rfl (Zn rfl) (xbr (xf)))
   (xj (xar ZC rfl (xcg rfl T.n_enumerate (xb (pv 1) (xf))) (xaf rfl (xq (xp (i:=6) sc_ax.nd rfl (Zn rfl)) (xq (xp (i:=7) sc_ax.nd rfl (Zn rfl)) (xab)))) (xk (xbk (xad (PW.pt (xh6 (x6 (xe2 (xch hr)) (pv 4) (xbr (xf)) (x8 _)) (xgg (x6 xka (xt xam (xr (ok_c T) (hmm hr) rfl T.g_c T.F_c.kp T.b_c .nil xn (xb (pv 0) (xb (xt xai (xm) (pv 6)) (xf)))) (xm)) (xm) (x8 _))))) (xj (xd2 (xcl ZS YS YR xfp (pv 4) (xb (xt xam (xr (ok_c T) (hmm hr) rfl T.g_c T.F_c.kp T.b_c .nil xn (xb (pv 0) (xb (xt xai (xm) (pv 6)) (xf)))) (x5 xa8 rfl T.n_len Ju (xb (pv 4) (xf)))) (xf))) (xaf rfl (xq (xp (i:=8) sc_ax.nd rfl (Zn rfl)) (xq (xp (i:=9) sc_ax.nd rfl (Zn rfl)) (xab)))))
   (xk (xa6 (xcl ZS JH JG xcn (pv 5) (xb (x9 (xb (xaj xa4 (pv 7) (xm) (fun _ _=>rfl)) (xb (pv 8) (xb (pv 9) (xf))))) (xf)))))) (x4)))))
   (xj (xbk (xad (x6 xbh (xt xam (xr (ok_c T) (hmm hr) rfl T.g_c T.F_c.kp T.b_c .nil xn (xb (pv 0) (xb (xm) (xf)))) (xm)) (xm) (x8 _)) (xk (xz (xno rfl rfl T.n_list rfl T.n_reversed (xb (pv 5) (xf))))) (x4)))
   (xk (xz (pv 5))))))),?_⟩
  obtain⟨h16,hlp,ptl,pok,hls,stl,sok,q⟩:=h;have pll:=ptl.len;have ple:=pok.le;refine⟨_,rfl,ls,_,rfl,.inl (SqL.of hls),fun lf0 hlf0=>?_⟩;generalize eu:upd H lf0 (.lst (rs.map V.ref))=H1;have s1:=su_e hlf0 eu;have g1:=ug_e eu;refine⟨fun Z H5=>∃(lf:Addr) (ss':List Seat) (rs':List Addr),Z=[some (.int c),some (.ref lp),some (.int (h':Int)),some (.ref ls),some (.ref lf),none,none,none,none,none]/\Same H H5/\H lf=none/\H5 lf=some (.lst (rs'.map V.ref))/\xac H5 ss' rs'/\SsOk (h':Int) ss',?_,?_⟩
  .refine ⟨_,rfl,c,40,rfl,fun m _ _=>⟨_,_,rfl,rfl,(by show (0:Int)<2; decide),rfl,_,rfl,ite2 (fun y=>?_) (fun y=>⟨lf0,ss,rs,rfl,s1,hlf0,g1,stl.keep (Same.tups s1),sok⟩)⟩⟩;exact⟨_,rfl,h',rfl,h16,fun H5 lf ss' rs' _ o5 s5 f5 e5 sl5=>⟨lf,ss',rs',rfl,s1.trans s5,s1.free f5,e5,sl5,o5⟩⟩
  rintro Z H5 ⟨lf,ss5,rs5,rfl,s5,flf,e5,sl5,o5⟩;refine⟨(by exact leS0),fun l2 hl2=>?_⟩;generalize eu:upd H5 l2 (.lst [])=H6;have s6:=su_e hl2 eu;have g6:=ug_e eu;have nfl:lf≠l2:=xi e5 hl2;have fl2:=s5.free hl2;refine⟨_,rfl,lp,_,rfl,SqL.of (s6 _ _ (s5 _ _ hlp)),?_⟩;refine xdu (xs:=qs.map V.ref) (Pv:=IPr H lp ls lf l2 c w' h' ps) ⟨ss5,rs5,[],[],_,_,_,_,rfl,s5.trans s6,s6 _ _ e5,sl5.keep (Same.tups s6),o5,g6,.nil,fun _ z=>(nomatch z),Zl _,.nil,fun _ z=>(nomatch z),List.nil_sublist _⟩ ?_ ?_ ?_
  .rintro i Z H7 _ ⟨_,_,_,_,_,_,_,_,rfl,s7,_⟩;exact SqL.of (s7 _ _ hlp)
  .rintro k x p Z H7 hx hp ⟨ss7,rs7,prs,ts,v6,v7,v8,v9,rfl,s7,e7,sl7,o7,t7,pr7,ok7,k7,nd7,no7,sb7⟩;rw[Ze,Zj] at hx;obtain⟨qa,hqa,rfl⟩:=hx;obtain⟨pt,hpt,hpq⟩:=ptl.get hqa;have k12:k<12:=by have:=(Zf.mp hpt).1; omega
   generalize eu:upd H7 p (.tup [.int (k:Int),.ref qa])=H8;have s8:=su_e hp eu;have g8:=ug_e eu;refine⟨p,_,rfl,SqT.of g8,rfl,_,_,rfl,_,_,rfl,rfl,?_⟩;refine⟨_,?_,fun _ _ z=>z⟩;refine⟨_,rfl,(by exact leS0),fun z1 hz1=>?_⟩;generalize eu:upd H8 z1 (.lst [])=H9;have s9:=su_e hz1 eu;have g9:=ug_e eu;have s79:=s8.trans s9;have e9:=s79 _ _ e7;have sl9:=sl7.keep (Same.tups s79);obtain⟨n,m,d,e,d1,d2,n9,m9,ev⟩:=xqk (K:=K) sl9 e9 g9;refine⟨n,m,d,e,d1,d2,n9,m9,_,rfl,?_⟩;rw[ev];have skip:IPr H lp ls lf l2 c w' h' ps (k+1) [some (.int c),some (.ref lp),some (.int (h':Int)),some (.ref ls),some (.ref lf),some (.ref l2),some (.int (k:Int)),some (.ref qa),v8,v9] H9:=⟨ss7,rs7,prs,ts,_,_,_,_,rfl,s7.trans s79,e9,sl9,o7,s79 _ _ t7,pr7.keep (Same.tups s79),ok7,by omega,nd7,no7,xp7 sb7⟩
   refine ite2 (fun y1=>?_) (fun y1=>skip);refine⟨_,rfl,_,rfl,_,_,rfl,rfl,c,_,rfl,fun m1 _ _=>⟨_,_,rfl,rfl,(by show (0:Int)<5; decide),_,_,rfl,rfl,_,rfl,ite2 (fun y2=>?_) (fun y2=>skip)⟩⟩;have sne:rs7≠[]:=fun z=>by
    have l:=sl7.len;rw[z] at l;have:ss7=[]:=YE.mp l.symm;rw[this] at y1;exact absurd y1 (by decide)
   have r32:rs7.length<=32:=by rw[sl7.len]; exact o7.2.1
   refine⟨_,rfl,.inl ⟨rfl,_,SqL.of e9⟩,_,rfl,_,rfl,_,_,rfl,rfl,c,_,rfl,fun m2 _ _=>?_⟩;obtain⟨j,vq,gj,a1,a2,a3,a4⟩:=xh8 m2 (xs:=rs7.map V.ref) (fun z=>sne (Qf.mp z)) (by rw[Za]; omega);rw[Ze,Zj] at gj;obtain⟨qs9,hj,rfl⟩:=gj;obtain⟨⟨b,r⟩,hs,hsq⟩:=sl9.get hj;obtain⟨o10,n10,i10,m10⟩:=xq5 o7 hs;refine⟨_,rfl,lf,_,rfl,.inl (SqL.of e9),_,_,rfl,rfl,a4,lf,_,_,j,.ref qs9,rfl,rfl,e9,a1,a2,a3,(by rw[Ze,hj]; rfl),?_⟩;have ee:(rs7.map V.ref).eraseIdx j=(rs7.eraseIdx j).map V.ref:=by
    rw[YO,YO,Z4,Wn,Wo]
   rw[ee];have k10:∀ c u,c≠lf->H9 c=some u->upd H9 lf (.lst ((rs7.eraseIdx j).map V.ref)) c=some u:=fun c u nc e=>by rw[xg nc]; exact e
   have g10:upd H9 lf (.lst ((rs7.eraseIdx j).map V.ref)) lf=some (.lst ((rs7.eraseIdx j).map V.ref)):=xh;revert k10 g10;generalize upd H9 lf (.lst ((rs7.eraseIdx j).map V.ref))=H10;intro k10 g10;have t10:Tups H9 H10:=fun c xs e=>k10 _ _ (ne_f e e9) e;have s010:Same H H10:=fun c u e=>k10 _ _ (xi e flf) (s79 _ _ (s7 _ _ e));refine⟨qs9,_,rfl,SqT.of (t10 _ _ hsq),rfl,_,_,rfl,_,_,rfl,rfl,?_⟩;have e10t:=k10 _ _ (ZE nfl) (s79 _ _ t7);refine⟨_,rfl,.inl ⟨rfl,_,SqL.of e10t⟩,_,rfl,qa,_,0,.str pt.nm,rfl,rfl,SqT.of (s010 _ _ hpq),rfl,_,rfl,_,rfl,(by exact leS3),fun ta hta=>?_⟩;generalize eu:upd H10 ta (.tup [.str pt.nm,.str (xax b),.int r])=H11;have s11:=su_e hta eu;have g11:=ug_e eu;have g11:H11 ta=some (.tup (prV (pt,b,r))):=g11;refine⟨l2,_,_,rfl,rfl,s11 _ _ e10t,?_,?_⟩
   .rw [Za,pr7.len];exact xa2 (by omega)
   have e11t:=s11 _ _ e10t;have kt:Tups H11 (upd H11 l2 (.lst (ts.map V.ref++[.ref ta]))):=fun c xs e=>by rw[xg (ne_f e e11t)]; exact e
   have pmem:=Zk hpt;have po:=pok.ok pt pmem;refine⟨ss7.eraseIdx j,rs7.eraseIdx j,prs++[(pt,b,r)],ts++[ta],_,_,_,_,rfl,fun c u e=>by rw[xg (xi e fl2)]; exact s11 _ _ (s010 _ _ e),by rw[xg nfl]; exact s11 _ _ g10,(((sl9.erase j).keep t10).keep (Same.tups s11)).keep kt,o10,by rw[xh,Z4]; rfl,PrsL.snoc ((((pr7.keep (Same.tups s79)).keep t10).keep (Same.tups s11)).keep kt) (kt _ _ g11),fun z hz=>?_,by rw[Zp,Jc]; omega,xgk nd7 fun z hz e=>?_,fun z hz=>?_,by rw[Z4]; exact xqb sb7 hpt⟩
   .rcases Z9.mp hz with hz|hz
    .exact ok7 z hz
    .rw [Z6.mp hz];exact⟨po.nm,xmd pok.nn pmem,(o7.2.2 _ m10).1,(o7.2.2 _ m10).2,po.x1,po.x2,po.y1,po.y2⟩
   .exact no7 z hz (e▸m10)
   .rcases Z9.mp hz with hz|hz
    .exact fun y=>no7 z hz (i10 _ y)
    .rw [Z6.mp hz];exact n10
  .rintro Z H7 ⟨ss7,rs7,prs,ts,v6,v7,v8,v9,rfl,s7,e7,sl7,o7,t7,pr7,ok7,k7,nd7,no7,sb7⟩;have nn7:=xvc pok.nn sb7;rw[Za,pll] at k7;refine⟨fun Z H8=>H7=H8/\Z=[some (.int c),some (.ref lp),some (.int (h':Int)),some (.ref ls),some (.ref lf),some (.ref l2),v6,v7,v8,v9],?_,?_⟩
   .refine ⟨_,rfl,c,39,rfl,fun m _ _=>⟨_,_,rfl,rfl,(by show (0:Int)<2; decide),rfl,_,rfl,ite2 (fun y=>?_) (fun y=>⟨rfl,rfl⟩)⟩⟩;refine⟨_,rfl,l2,_,rfl,SqL.of t7,fun l3 hl3=>?_⟩;rw[<- List.map_reverse];generalize eu:upd H7 l3 (.lst (ts.reverse.map V.ref))=H9;have s9:=su_e hl3 eu;have g9:=ug_e eu;exact q H9 l3 prs.reverse ts.reverse ⟨fun p hp=>ok7 p (List.mem_reverse.mp hp),by rw[List.map_reverse]; exact (List.reverse_perm _).nodup_iff.mpr nd7,by rw[Wj]; omega,by rw[List.map_reverse]; exact (List.reverse_perm _).nodup_iff.mpr nn7⟩ (s7.trans s9) (s7.free hl3) g9 (pr7.rev.keep (Same.tups s9))
   rintro Z _ ⟨rfl,rfl⟩;exact⟨_,rfl,q H7 l2 prs ts ⟨ok7,nd7,by omega,nn7⟩ s7 fl2 t7 pr7⟩
inductive xu0 (vs:List V) (H:Hp) (Q:VK) (_:XK):Prop
 | mk (w:Int) (b:Bool) (e_:vs=[.int w,.str (xax b)]) (r_:∀ H',Same H H'->Q (.int (Drw.rim w b)) H')
inductive CsL (H:Hp):List (Cl × Str)->List Addr->Prop
 | nil:CsL H [] []
 | cons {c:Cl × Str}{q k:Addr}{cs:List (Cl × Str)}{qs:List Addr} (h:H q=some (.tup [.ref k,.str c.2])) (hk:H k=some (.tup [.int c.1.1,.int c.1.2])) (r:CsL H cs qs):CsL H (c::cs) (q::qs)
theorem CsL.keep {H H':Hp} (s:Tups H H') {cs:List (Cl × Str)}{qs:List Addr} (h:CsL H cs qs):CsL H' cs qs:=by
 induction h with
 | nil=>exact .nil
 | cons h hk _ ih=>exact .cons (s _ _ h) (s _ _ hk) ih
theorem CsL.len {H:Hp}{cs:List (Cl × Str)}{qs:List Addr} (h:CsL H cs qs):qs.length=cs.length:=by
 induction h with
 | nil=>rfl
 | cons _ _ _ ih=>simp[ih]
theorem CsL.append {H:Hp}{cs ds:List (Cl × Str)}{qs rs:List Addr} (h:CsL H cs qs) (h':CsL H ds rs):CsL H (cs++ds) (qs++rs):=by
 induction h with
 | nil=>exact h'
 | cons h hk _ ih=>exact .cons h hk ih
theorem CsL.get {H:Hp}{cs:List (Cl × Str)}{qs:List Addr} (h:CsL H cs qs) {i:Nat}{q:Addr} (e:qs[i]?=some q):∃ c k,cs[i]?=some c/\H q=some (.tup [.ref k,.str c.2])/\H k=some (.tup [.int c.1.1,.int c.1.2]):=by
 induction h generalizing i with
 | nil=>simp at e
 | @cons c q' k cs qs h hk _ ih =>
  cases i with
  | zero =>
   simp at e;subst e;exact⟨c,k,rfl,h,hk⟩
  | succ j=>exact ih (by simpa using e)
theorem CsL.pick {H:Hp}:∀{cs:List (Cl × Str)}{ys:List V},ys.length=cs.length->(∀(j:Nat) (y:V),ys[j]?=some y->∃ q k c,y=.ref q/\cs[j]?=some c/\H q=some (.tup [.ref k,.str c.2])/\H k=some (.tup [.int c.1.1,.int c.1.2]))->∃ rs:List Addr,ys=rs.map V.ref/\CsL H cs rs
 | [],[],_,_=>⟨[],rfl,.nil⟩
 | [],_::_,h,_=>by cases h
 | _::_,[],h,_=>by cases h
 | c::cs,y::ys,h,f=>by
  obtain⟨q,k,c',rfl,e,h1,h2⟩:=f 0 y rfl;cases e;obtain⟨rs,e1,e2⟩:=CsL.pick (cs:=cs) (ys:=ys) (by simpa using h) (fun j z hz=>f (j+1) z hz);exact⟨q::rs,by rw[e1]; rfl,.cons h1 h2 e2⟩
def xbg (w:Int) (p:Pr):List (Cl × Str):=Drw.ledL (Zb "+") (Zb "|") (Zb "-") w p.1.x p.1.y p.2.1 p.2.2
inductive xvb (vs:List V) (H:Hp) (Q:VK) (_:XK):Prop
 | mk (w h:Nat) (p:Pr) (e_:vs=[.int (Drw.rim w p.2.1),.int p.1.x,.int p.1.y,.int p.2.2]) (r_:(1<=p.1.x/\p.1.x<=w/\1<=p.1.y/\p.1.y<=h/\1<=p.2.2/\p.2.2<=h/\w<=30/\h<=16)/\∀ H' l qs,Same H H'->H l=none->H' l=some (.lst (qs.map V.ref))->CsL H' (xbg w p) qs->Q (.ref l) H')
theorem xru (i j:Int):(if j<i then j else i)=min i j:=by
 rw[Int.min_def];split<;>split<;>omega
theorem xrh (i j:Int):(if j>i then j else i)=max i j:=by
 rw[Int.max_def];split<;>split<;>omega
theorem xro {lo hi:Int}{i:Nat} (h:i<(hi-lo).toNat):(Drw.rg lo hi)[i]?=some (lo+(i:Int)):=by
 unfold Drw.rg;rw[Ze,Jj h];rfl
theorem xik (lo hi:Int):(Drw.rg lo hi).length=(hi-lo).toNat:=by
 unfold Drw.rg;rw[Za,Zr]
theorem ok_a6 (T:Txt w K mg t):FnOk true P w K mg base (CXo P w) 1 t.f_a6 t.d_a6 ["_law_width", "_law_side"] (xu0):=by
 refine T.F_a6.okn (k:=0) sc_a6 (fun vs H Q E h=>?_) (fun cdv A outer s H vs Q E hr h=>?_)
 .obtain ⟨w',b,rfl,_⟩:=h;rfl
 .obtain ⟨w',b,rfl,h⟩:=h;refine⟨_,xk (xz (xa1 (xag hr) (xm8 (xej (xw) (xm) (xej (xw) (xt xai (pv 0) (xm)) (xm2))) rfl rfl (by simp) (by decide)) (pv 1) (fun _ _=>rfl))),?_⟩;refine fun p hp=>?_;refine⟨_,rfl,_,_,rfl,rfl,xh,[(.inr (Zb "left"),.int 0),(.inr (Zb "right"),.int (w'+1))],rfl,(by show 2<=15; decide),?_⟩;have e:upd (upd H p (.dK [])) p (.dK (xc6 [] [(.inr (Zb "left"),.int 0),(.inr (Zb "right"),.int (w'+1))])) p=some (.dK [((.inr (Zb "left"):Key),V.int 0),(.inr (Zb "right"),.int (w'+1))]):=xh;have s1:Same H (upd (upd H p (.dK [])) p (.dK (xc6 [] [(.inr (Zb "left"),.int 0),(.inr (Zb "right"),.int (w'+1))]))):=fun c u z=>by rw[xg (xi z hp),xg (xi z hp)]; exact z
  refine⟨_,rfl,p,.int (Drw.rim w' b),rfl,?_,h _ s1⟩;have g:=DGet.k (k:=.inr (xax b)) e;cases b
  .exact g
  .exact g
theorem ok_az (T:Txt w K mg t):FnOk true P w K mg base (CXo P w) 1 t.f_az t.d_az ["_law_rim_here", "_law_x", "_law_y", "_law_row"] (xvb):=by
 refine T.F_az.okn (k:=0) sc_az (fun vs H Q E h=>?_) (fun cdv A outer s H vs Q E hr h=>?_)
 .obtain ⟨w',h',p,rfl,_⟩:=h;rfl
 .obtain ⟨w',h',p,rfl,h⟩:=h;refine⟨_,xj (xbu rfl (xaw (zs:=["_law_at"]) (ys:=["_law_x"]) (fr:=[1]) (N0:=["_law_rim_here", "_law_x", "_law_y", "_law_row", "_law_found"]) (sc0:=xo s_az) (by decide +kernel) rfl rfl rfl) (xcu rfl T.n_range (xb (xt xai (x5 (xf2 rfl) rfl T.n_min boot_min (xb (pv 2) (xb (pv 3) (xf)))) (xm)) (xb (x5 (xjx rfl) rfl T.n_max boot_max (xb (pv 2) (xb (pv 3) (xf)))) (xf)))) (fun _ _ _ _ _ ow nd=>xp (i:=0) nd rfl (Zn (ow _ (by simp))) (ZX (ow _ (by simp)))) (xbj (by decide)) (fun _ _ _ _ _=>xbf) (fun _ _ _ _ _=>x9 (xb (x9 (xb (pv 1) (xb (pv 0) (xf)))) (xb (xw) (xf)))) (j:=4) rfl (Zn rfl))
   (xj (xbk (xad (x6 xd7 (pv 3) (pv 2) (x8 _)) (xk (xa6 (xcl ZS JH JG xcn (pv 4) (xb (x9 (xb (x9 (xb (pv 1) (xb (pv 3) (xf)))) (xb (xw) (xf)))) (xf))))) (x4)))
   (xk (xz (xt xf8 (pv 4) (xbx rfl (xaw (zs:=["_law_at"]) (ys:=["_law_row"]) (fr:=[3]) (N0:=["_law_rim_here", "_law_x", "_law_y", "_law_row", "_law_found"]) (sc0:=xo s_az) (by decide +kernel) rfl rfl rfl) (xcu rfl T.n_range (xb (xt xai (x5 (xf2 rfl) rfl T.n_min boot_min (xb (pv 1) (xb (pv 0) (xf)))) (xm)) (xb (x5 (xjx rfl) rfl T.n_max boot_max (xb (pv 1) (xb (pv 0) (xf)))) (xf)))) (fun _ _ _ _ _ ow nd=>xp (i:=0) nd rfl (Zn (ow _ (by simp))) (ZX (ow _ (by simp)))) (xbj (by decide)) (fun _ _ _ _ _=>xbf) (fun _ _ _ _ _=>x9 (xb (x9 (xb (pv 0) (xb (pv 1) (xf)))) (xb (xw) (xf))))))))),?_⟩
  obtain⟨⟨x1,x2,y1,y2,r1,r2,w2,h2⟩,q⟩:=h;obtain⟨pt,b,r⟩:=p;have x1:1<=pt.x:=x1;have x2:pt.x<=w':=x2;have y1:1<=pt.y:=y1;have y2:pt.y<=h':=y2;have r1:1<=r:=r1;have r2:r<=h':=r2;have rb:Drw.rim w' b=0\/Drw.rim w' b=(w':Int)+1:=by cases b; exact .inr rfl; exact .inl rfl
  refine⟨_,rfl,_,rfl,_,_,rfl,_,_,rfl,rfl,_,rfl,_,rfl,_,_,rfl,min pt.y r+1,max pt.y r,(by show [V.int ((if r<pt.y then r else pt.y)+1),V.int (if r>pt.y then r else pt.y)]=_; rw[xru,xrh]),⟨by omega,by omega,by omega,by omega⟩,fun l1 hl1=>?_⟩;refine xdp (xa2 (by omega)) hl1 (fun i y H5=>∃ q k c,y=.ref q/\((Drw.rg (min pt.y r+1) (max pt.y r)).map fun a=>((pt.x,a),Zb "|"))[i]?=some c/\H5 q=some (.tup [.ref k,.str c.2])/\H5 k=some (.tup [.int c.1.1,.int c.1.2])) (fun i y H5 H6 tp z=>let ⟨q,k,c,e1,e2,e3,e4⟩:=z; ⟨q,k,c,e1,e2,tp _ _ e3,tp _ _ e4⟩) (fun i H5 hi s5 N hN=>?_) (fun ys H5 s5 e5 ly fy=>?_)
  .refine ⟨_,rfl,_,rfl,(by exact leS2),fun k hk=>⟨(by exact leS2),fun u hu=>hN _ _ (xaa (xaa (Same.refl _) hk) hu) ⟨u,k,((pt.x,min pt.y r+1+(i:Int)),Zb "|"),rfl,by rw[Ze,xro hi]; rfl,xh,?_⟩⟩⟩;rw[xg (xi xh hu)];exact xh
  obtain⟨rs1,rfl,cl1⟩:=CsL.pick (by rw[ly,Za,xik]) fy;have ul:rs1.length<=20:=by
   rw[Za] at ly;omega
  refine⟨fun Z H6=>∃ ds:List Addr,Z=[some (.int (Drw.rim w' b)),some (.int pt.x),some (.int pt.y),some (.int r),some (.ref l1)]/\Same H H6/\H6 l1=some (.lst (ds.map V.ref))/\ds.length<=21/\CsL H6 (((Drw.rg (min pt.y r+1) (max pt.y r)).map fun a=>((pt.x,a),Zb "|"))++(if r≠pt.y then [((pt.x,r),Zb "+")] else [])) ds,?_,?_⟩
  .refine ⟨_,rfl,_,rfl,rfl,_,rfl,ite2 (fun y=>?_) (fun y=>?_)⟩
   .have ne:r≠pt.y:=fun z=>by rw[z] at y; simp at y
    refine⟨_,rfl,.inl ⟨rfl,_,SqL.of e5⟩,_,rfl,_,rfl,(by exact leS2),fun k hk=>?_⟩;generalize eu:upd H5 k (.tup [.int pt.x,.int r])=H6;have s6:=su_e hk eu;have g6:=ug_e eu;refine⟨(by exact leS2),fun u hu=>?_⟩;generalize eu:upd H6 u (.tup [.ref k,.str (Zb "+")])=H7;have s7:=su_e hu eu;have g7:=ug_e eu;have e7:=s7 _ _ (s6 _ _ e5);refine⟨l1,_,_,rfl,rfl,e7,?_,?_⟩
    .rw [Za];exact xa2 (by omega)
    have kt:Tups H7 (upd H7 l1 (.lst (rs1.map V.ref++[.ref u]))):=fun c xs e=>by rw[xg (ne_f e e7)]; exact e
    refine⟨rs1++[u],rfl,fun c u e=>by rw[xg (xi e hl1)]; exact s7 _ _ (s6 _ _ (s5 _ _ e)),by rw[xh,Z4]; rfl,by rw[Zp,Jc]; omega,?_⟩;rw[if_pos ne];exact (((cl1.keep (Same.tups s6)).keep (Same.tups s7)).keep kt).append (.cons (kt _ _ g7) (kt _ _ (s7 _ _ g6)) .nil)
   .have ne:¬ r≠pt.y:=fun z=>y (by simp[z]);refine⟨rs1,rfl,s5,e5,by omega,?_⟩;rw[if_neg ne,Jx];exact cl1
  rintro Z H6 ⟨ds,rfl,s6,e6,d21,cl6⟩;refine⟨_,rfl,_,rfl,_,rfl,_,_,rfl,_,_,rfl,rfl,_,rfl,_,rfl,_,_,rfl,min pt.x (Drw.rim w' b)+1,max pt.x (Drw.rim w' b),(by show [V.int ((if Drw.rim w' b<pt.x then Drw.rim w' b else pt.x)+1),V.int (if Drw.rim w' b>pt.x then Drw.rim w' b else pt.x)]=_; rw[xru,xrh]),⟨by omega,by omega,by omega,by omega⟩,fun l2 hl2=>?_⟩;refine xdp (xa2 (by omega)) hl2 (fun i y H5=>∃ q k c,y=.ref q/\((Drw.rg (min pt.x (Drw.rim w' b)+1) (max pt.x (Drw.rim w' b))).map fun a=>((a,r),Zb "-"))[i]?=some c/\H5 q=some (.tup [.ref k,.str c.2])/\H5 k=some (.tup [.int c.1.1,.int c.1.2])) (fun i y H5 H6 tp z=>let ⟨q,k,c,e1,e2,e3,e4⟩:=z; ⟨q,k,c,e1,e2,tp _ _ e3,tp _ _ e4⟩) (fun i H7 hi s7 N hN=>?_) (fun ys H7 s7 e7 ly7 fy7=>?_)
  .refine ⟨_,rfl,_,rfl,(by exact leS2),fun k hk=>⟨(by exact leS2),fun u hu=>hN _ _ (xaa (xaa (Same.refl _) hk) hu) ⟨u,k,((min pt.x (Drw.rim w' b)+1+(i:Int),r),Zb "-"),rfl,by rw[Ze,xro hi]; rfl,xh,?_⟩⟩⟩;rw[xg (xi xh hu)];exact xh
  obtain⟨rs2,rfl,cl2⟩:=CsL.pick (by rw[ly7,Za,xik]) fy7;refine⟨l1,l2,_,_,rfl,rfl,s7 _ _ e6,e7,?_,fun l3 hl3=>?_⟩
  .rw [Za,ly7];exact xb5 (by omega)
  rw[<- Z4];generalize eu:upd H7 l3 (.lst ((ds++rs2).map V.ref))=H8;have s8:=su_e hl3 eu;have g8:=ug_e eu;exact q H8 l3 (ds++rs2) ((s6.trans s7).trans s8) ((s6.trans s7).free hl3) g8 (((cl6.keep (Same.tups s7)).append cl2).keep (Same.tups s8))
def xaz (w:Int) (ps:List Pt) (ss:List Seat) (prs:List Pr):Cl->Option Str:=Drw.drawL hsS (prs.flatMap (xbg w)) (xb3 w ss) (xbq w prs) (ptsS ps)
def PtsB (H:Hp) (ps:List Pt) (qs:List Addr):Prop:=qs.length=ps.length/\∀(i:Nat) (q:Addr),qs[i]?=some q->∃ p rest,ps[i]?=some p/\H q=some (.tup (.str p.nm::.int p.x::.int p.y::rest))
theorem PtsL.b {H:Hp}{ps:List Pt}{qs:List Addr} (h:PtsL H ps qs):PtsB H ps qs:=⟨h.len,fun i q e=>let ⟨p,e1,e2⟩:=h.get e; ⟨p,_,e1,e2⟩⟩
inductive xto (vs:List V) (H:Hp) (Q:VK) (_:XK):Prop
 | mk (w h:Nat) (lp ls l:Addr) (ps:List Pt) (ss:List Seat) (prs:List Pr) (qs rs ts:List Addr) (e_:vs=[.int (w:Int),.int (h:Int),.ref lp,.ref ls,.ref l]) (r_:1<=w/\w<=30/\h<=16/\H lp=some (.lst (qs.map V.ref))/\PtsB H ps qs/\xfm (w:Int) (h:Int) ps/\H ls=some (.lst (rs.map V.ref))/\xac H ss rs/\ss.length<=32/\H l=some (.lst (ts.map V.ref))/\PrsL H prs ts/\xga (w:Int) (h:Int) ps prs/\∀ H' l',Same H H'->H l'=none->H' l'=some (.lst (xcq w h (xaz w ps ss prs)))->Q (.ref l') H')
theorem xre {w h:Nat}{p:Pr} (x1:1<=p.1.x) (x2:p.1.x<=w) (y1:1<=p.1.y) (y2:p.1.y<=h) (r1:1<=p.2.2) (r2:p.2.2<=h) (w2:w<=30) (h2:h<=16):(xbg w p).length<=50:=by
 unfold xbg Drw.ledL;rw[Zp,Zp,Za,Za,xik,xik];have rb:Drw.rim w p.2.1=0\/Drw.rim w p.2.1=(w:Int)+1:=by
  unfold Drw.rim;split
  .exact .inl rfl
  .exact .inr rfl
 have c:(if p.2.2≠p.1.y then [((p.1.x,p.2.2),Zb "+")] else ([]:List (Cl × Str))).length<=1:=by
  split
  .exact Zl _
  .exact ZZ _
 omega
theorem xlq {w:Int}{ps:List Pt}{ss:List Seat}{prs:List Pr} (h1:∀ p∈ps,isNm p.nm=true) (h2:∀ p∈prs,isNm p.1.nm=true):xng (xaz w ps ss prs):=by
 have no:∀(c:Cl) (s:Str),(Drw.no:Cl->Option Str) c=some s->s.length<=5:=fun _ _ e=>nomatch e;have n3:=xd3 (P:=fun s=>s.length<=5) (hs:=hsS) (by unfold hsS; decide +kernel) (L:=prs.flatMap (xbg w)) no (fun x hx=>by
  obtain⟨p,_,hx⟩:=YV.mp hx;unfold xbg Drw.ledL at hx;rcases Z9.mp hx with hx|hx
  .rcases Z9.mp hx with hx|hx
   .obtain ⟨c,_,rfl⟩:=Zh.mp hx;show (Zb "|").length<=5;decide +kernel
   .split at hx
    .rw [Z6.mp hx];show (Zb "+").length<=5;decide +kernel
    .exact nomatch hx
  .obtain ⟨c,_,rfl⟩:=Zh.mp hx;show (Zb "-").length<=5;decide +kernel)
 have n4:=xbo (P:=fun s=>s.length<=5) (L:=ptsS ps) n3 (fun x hx=>by
  obtain⟨z,hz,rfl⟩:=Zh.mp hx;exact xfi (h1 z hz))
 have n5:=xbo (P:=fun s=>s.length<=5) (L:=xb3 w ss) n4 (fun x hx=>by
  obtain⟨z,_,rfl⟩:=Zh.mp hx;show (Zb ".").length<=5;decide +kernel)
 exact xbo (P:=fun s=>s.length<=5) (L:=xbq w prs) n5 (fun x hx=>by
  obtain⟨z,hz,rfl⟩:=Zh.mp hx;exact xfi (h2 z hz))
theorem ok_ac (T:Txt w K mg t):FnOk true P w K mg base (CXo P w) 2 t.f_ac t.d_ac ["_law_width", "_law_height", "_law_points_here", "_law_seats_here", "_law_pairs_here"] (xto):=by
 refine T.F_ac.okn (k:=1) sc_ac (fun vs H Q E h=>?_) (fun cdv A outer s H vs Q E hr h=>?_)
 .obtain ⟨w',h',lp,ls,l,ps,ss,prs,qs,rs,ts,rfl,_⟩:=h;rfl
 .obtain ⟨w',h',lp,ls,l,ps,ss,prs,qs,rs,ts,rfl,h⟩:=h;refine⟨_,xj (xv (i:=5) sc_ac.nd rfl (ZX rfl) (xg9))
   (xj (xar ZC rfl (xas (pv 4)) (xaf rfl (xq (xp (i:=6) sc_ac.nd rfl (ZX rfl)) (xq (xp (i:=7) sc_ac.nd rfl (Zn rfl)) (xq (xp (i:=8) sc_ac.nd rfl (Zn rfl)) (xab))))) (xj (xd2 (xaj xbp (xbx rfl (xaw (zs:=["_law_point_here"]) (ys:=["_law_name"]) (fr:=[6]) (N0:=["_law_width", "_law_height", "_law_points_here", "_law_seats_here", "_law_pairs_here", "_law_signs", "_law_name", "_law_side", "_law_row", "_law_x", "_law_y", "_law_cell", "_law_sign", "_law_point_here", "_law_rows"]) (sc0:=xo s_ac) (by decide +kernel) rfl rfl rfl) (xas (pv 2)) (fun _ _ _ _ _ ow nd=>xp (i:=0) nd rfl (Zn (ow _ (by simp))) (ZX (ow _ (by simp)))) (xbj (by decide)) (fun _ _ _ _ _=>xe0 (x6 xbh (xaj (r:=rIxT K) xa4 (pv 0) (xm) (fun _ _=>rfl)) (pv 1) (x8 _))) (fun _ _ _ _ _=>x9 (xb (xaj (r:=rIxT K) xa4 (pv 0) (xm) (fun _ _=>rfl)) (xb (xaj (r:=rIxT K) xa4 (pv 0) (xm) (fun _ _=>rfl)) (xf))))) (xm) (fun _ _=>rfl)) (xaf rfl (xq (xp (i:=9) sc_ac.nd rfl (Zn rfl)) (xq (xp (i:=10) sc_ac.nd rfl (ZX rfl)) (xab)))))
   (xk (xar ZC rfl (xas (xr (ok_az T) (hmm hr) rfl T.g_az T.F_az.kp T.b_az .nil xn (xb (xr (ok_a6 T) (hmm hr) rfl T.g_a6 T.F_a6.kp T.b_a6 .nil xn (xb (pv 0) (xb (pv 7) (xf)))) (xb (pv 9) (xb (pv 10) (xb (pv 8) (xf))))))) (xaf rfl (xq (xp (i:=11) sc_ac.nd rfl (Zn rfl)) (xq (xp (i:=12) sc_ac.nd rfl (Zn rfl)) (xab)))) (xj (xbk (xad (xdg (xf3 (xag hr) (pv 11) (pv 5))) (xk (xv (i:=12) sc_ac.nd rfl (Zn rfl) (xw))) (x4)))
   (xk (xbv (xag hr) (pv 5) (pv 11) (pv 12) rfl)))))))
   (xj (xar ZC rfl (xas (pv 2)) (xp (i:=13) sc_ac.nd rfl (Zn rfl)) (xk (xbv (xag hr) (pv 5) (x9 (xb (xaj xa4 (pv 13) (xm) (fun _ _=>rfl)) (xb (xaj xa4 (pv 13) (xm) (fun _ _=>rfl)) (xf)))) (xaj xa4 (pv 13) (xm) (fun _ _=>rfl)) rfl)))
   (xj (xar ZC rfl (xas (pv 3)) (xaf rfl (xq (xp (i:=7) sc_ac.nd rfl (Zn rfl)) (xq (xp (i:=8) sc_ac.nd rfl (Zn rfl)) (xab)))) (xk (xbv (xag hr) (pv 5) (x9 (xb (xr (ok_a6 T) (hmm hr) rfl T.g_a6 T.F_a6.kp T.b_a6 .nil xn (xb (pv 0) (xb (pv 7) (xf)))) (xb (pv 8) (xf)))) (xw) rfl)))
   (xj (xar ZC rfl (xas (pv 4)) (xaf rfl (xq (xp (i:=6) sc_ac.nd rfl (ZX rfl)) (xq (xp (i:=7) sc_ac.nd rfl (Zn rfl)) (xq (xp (i:=8) sc_ac.nd rfl (Zn rfl)) (xab))))) (xk (xbv (xag hr) (pv 5) (x9 (xb (xr (ok_a6 T) (hmm hr) rfl T.g_a6 T.F_a6.kp T.b_a6 .nil xn (xb (pv 0) (xb (pv 7) (xf)))) (xb (pv 8) (xf)))) (pv 6) rfl)))
   (xj (xv (i:=14) sc_ac.nd rfl (Zn rfl) (xbr (xf)))
   (xj (xar ZC rfl (xcu rfl T.n_range (xb (xm) (xb (xt xai (pv 1) (xm)) (xf)))) (xp (i:=10) sc_ac.nd rfl (ZX rfl)) (xk (xa6 (xcl ZS JH JG xcn (pv 14) (xb (xcl Yj QN QM xit (xw) (xb (xbx rfl (xaw (zs:=["_law_x"]) (ys:=["_law_signs", "_law_y"]) (fr:=[5,10]) (N0:=["_law_width", "_law_height", "_law_points_here", "_law_seats_here", "_law_pairs_here", "_law_signs", "_law_name", "_law_side", "_law_row", "_law_x", "_law_y", "_law_cell", "_law_sign", "_law_point_here", "_law_rows"]) (sc0:=xo s_ac) (by decide +kernel) rfl rfl rfl) (xjt rfl T.n_range (xb (xt xai (pv 0) (xm)) (xf))) (fun _ _ _ _ _ ow nd=>xp (i:=0) nd rfl (Zn (ow _ (by simp))) (ZX (ow _ (by simp)))) (xbj (by decide)) (fun _ _ _ _ _=>xbf) (fun _ _ _ _ _=>xko (xag hr) (pv 1) (x9 (xb (pv 0) (xb (pv 2) (xf)))) (xw) ⟨rfl,rfl,rfl,rfl⟩)) (xf))) (xf))))))
   (xk (xz (pv 14))))))))),?_⟩
  obtain⟨w1,w2,h2,hlp,ptl,pok,hls,stl,l32,hl,prl,pal,q⟩:=h;have tll:=prl.len;have qll:=ptl.1;have rll:=stl.len;have t12:=pal.len;have p12:=pok.le;refine fun d hd=>?_;generalize eu:upd H d (.dT [])=H1;have s1:=su_e hd eu;have g1:=ug_e eu;refine⟨_,rfl,l,rfl,⟨_,SqL.of (s1 _ _ hl)⟩,?_⟩;refine xa9 (xs:=ts.map V.ref) (Pv:=fun i Z H5=>∃(v6 v7 v8 v9 v10 v11 v12:Option V),Z=[some (.int (w':Int)),some (.int (h':Int)),some (.ref lp),some (.ref ls),some (.ref l),some (.ref d),v6,v7,v8,v9,v10,v11,v12,none,none]/\Same H H5/\SD H5 d (50*i) (Drw.marks hsS Drw.no ((prs.take i).flatMap (xbg w')))) ⟨_,_,_,_,_,_,_,rfl,s1,SD.new g1⟩ ?_ ?_ ?_
  .rintro i Z H5 _ ⟨_,_,_,_,_,_,_,rfl,s5,_⟩;exact SqL.of (s5 _ _ hl)
  .rintro i x Z H5 hx ⟨v6,v7,v8,v9,v10,v11,v12,rfl,s5,sd⟩;rw[Ze,Zj] at hx;obtain⟨qa,hqa,rfl⟩:=hx;obtain⟨⟨pt,b,r⟩,hp,hpq⟩:=prl.get hqa;have ok:=pal.ok _ (Zk hp);have i12:i<12:=by have:=(Zf.mp hp).1; omega
   have xy:1<=pt.x/\pt.x<=w'/\1<=pt.y/\pt.y<=h':=ok.xy;have r1:1<=r:=ok.r1;have r2:r<=h':=ok.r2;have fd:ps.find? (fun z=>decide (z.nm=pt.nm))=some pt:=ok.fd;refine⟨qa,_,rfl,SqT.of (s5 _ _ hpq),rfl,_,_,rfl,_,_,rfl,_,_,rfl,rfl,?_⟩;refine⟨_,rfl,lp,rfl,⟨_,SqL.of (s5 _ _ hlp)⟩,fun l1 hl1=>?_⟩;refine xfc (SqL.of (s5 _ _ hlp)) (by rw[Za]; exact xa2 (by omega)) hl1 (fun i=>((ps[i]?).map fun p=>decide (p.nm=pt.nm)).getD false) (fun i y H=>∃ p q,ps[i]?=some p/\p.nm=pt.nm/\y=.ref q/\H q=some (.tup [.int p.x,.int p.y])) (fun i y H H' tp ⟨p,q,e0,e1,e2,e3⟩=>⟨p,q,e0,e1,e2,tp _ _ e3⟩) (fun i z H6 hz s6 N M hN hM=>?_) (fun ys H6 s6 e6 ly fy=>?_)
   .rw [Ze,Zj] at hz;obtain⟨o,ho,rfl⟩:=hz;obtain⟨p,rest,hpp,ep⟩:=ptl.2 _ _ ho;have ep6:=s6 _ _ (s5 _ _ ep);refine⟨_,rfl,o,_,0,.str p.nm,rfl,rfl,SqT.of ep6,xba (j:=0) rfl,_,rfl,rfl,_,rfl,ite2 (fun c=>?_) (fun c=>?_)⟩
    .have cn:p.nm=pt.nm:=V.str.inj (of_decide_eq_true c);refine⟨_,rfl,o,_,1,.int p.x,rfl,rfl,SqT.of ep6,xba (j:=1) rfl,_,rfl,o,_,2,.int p.y,rfl,rfl,SqT.of ep6,xba (j:=2) rfl,(by exact leS2),fun u hu=>?_⟩;exact hN _ _ (xaa (Same.refl _) hu) (by rw[hpp]; simpa using cn) ⟨p,u,hpp,cn,rfl,xh⟩
    .have cn:p.nm≠pt.nm:=fun z=>c (decide_eq_true (by rw[z]));exact hM _ (Same.refl _) (by rw[hpp]; simpa using cn)
   have pin:pt∈ps:=Qp fd;obtain⟨k,hk,ek⟩:=List.getElem_of_mem pin;rw[Za,qll] at ly fy;have kin:k∈(Z0 ps.length).filter fun i=>((ps[i]?).map fun p=>decide (p.nm=pt.nm)).getD false:=by
    rw[ZT,ZL];refine⟨hk,?_⟩;rw[Zg hk,ek];simp
   have fl:0<((Z0 ps.length).filter fun i=>((ps[i]?).map fun p=>decide (p.nm=pt.nm)).getD false).length:=List.length_pos_iff_exists_mem.mpr ⟨k,kin⟩;have y0:0<ys.length:=by omega
   obtain⟨p',qn,hp',en,ey,eq⟩:=fy 0 _ _ (Zg y0) (Zg fl);have ept:p'=pt:=by
    have z:=xmd pok.nn (Zk hp');rw[en,fd] at z;exact (JD.inj z).symm
   subst ept;refine⟨l1,_,0,.ref qn,rfl,rfl,SqL.of e6,xba (j:=0) (by rw[Zg y0,ey]),qn,_,rfl,SqT.of eq,rfl,_,_,rfl,_,_,rfl,rfl,?_⟩;refine⟨_,rfl,_,rfl,(w':Int),b,rfl,fun H7 s7=>?_⟩;refine⟨_,rfl,_,rfl,_,rfl,w',h',(p',b,r),rfl,⟨xy.1,xy.2.1,xy.2.2.1,xy.2.2.2,r1,r2,w2,h2⟩,fun H8 l8 cq s8 f8 e8 cl8=>⟨l8,rfl,⟨_,SqL.of e8⟩,?_⟩⟩;have s58:=(s6.trans s7).trans s8;have sd8:=sd.keep (H':=H8) (fun u e=>s58 _ _ e);have ne8:l8≠d:=by
    obtain⟨kvs,e,_⟩:=sd8;exact ne_f e8 e
   have cll:=cl8.len;have c50:=xre (w:=w') (h:=h') (p:=(p',b,r)) xy.1 xy.2.1 xy.2.2.1 xy.2.2.2 r1 r2 w2 h2;refine xa9 (xs:=cq.map V.ref) (Pv:=fun j Z H9=>∃(v11 v12:Option V),Z=[some (.int (w':Int)),some (.int (h':Int)),some (.ref lp),some (.ref ls),some (.ref l),some (.ref d),some (.str p'.nm),some (.str (xax b)),some (.int r),some (.int p'.x),some (.int p'.y),v11,v12,none,none]/\(∀ c u,c≠d->H8 c=some u->H9 c=some u)/\SD H9 d (50*i+j) (Drw.marks hsS (Drw.marks hsS Drw.no ((prs.take i).flatMap (xbg w'))) ((xbg w' (p',b,r)).take j))) ⟨_,_,rfl,fun c u _ e=>e,sd8⟩ ?_ ?_ ?_
   .rintro j Z H9 _ ⟨_,_,rfl,k9,_⟩;exact SqL.of (k9 _ _ ne8 e8)
   .rintro j x Z H9 hx ⟨v11,v12,rfl,k9,sd9⟩;rw[Ze,Zj] at hx;obtain⟨qc,hqc,rfl⟩:=hx;obtain⟨⟨c,sg⟩,kc,hc,hc8,hk8⟩:=cl8.get hqc;have j50:j<50:=by have:=(Zf.mp hqc).1; omega
    have nqc:qc≠d:=by
     obtain⟨kvs,e,_⟩:=sd8;exact ne_f hc8 e
    have nkc:kc≠d:=by
     obtain⟨kvs,e,_⟩:=sd8;exact ne_f hk8 e
    have hk9:=k9 _ _ nkc hk8;have stp:∀ m:Cl->Option Str,Drw.marks hsS m ((xbg w' (p',b,r)).take (j+1))=Drw.mark1 hsS (Drw.marks hsS m ((xbg w' (p',b,r)).take j)) c sg:=fun m=>by
     rw[ZO,hc];unfold Drw.marks;rw[Yt];rfl
    refine⟨qc,_,rfl,SqT.of (k9 _ _ nqc hc8),rfl,_,_,rfl,_,_,rfl,rfl,?_⟩;refine⟨fun Z H10=>H9=H10/\Z=[some (.int (w':Int)),some (.int (h':Int)),some (.ref lp),some (.ref ls),some (.ref l),some (.ref d),some (.str p'.nm),some (.str (xax b)),some (.int r),some (.int p'.x),some (.int p'.y),some (.ref kc),some (.str (if (Drw.marks hsS (Drw.marks hsS Drw.no ((prs.take i).flatMap (xbg w'))) ((xbg w' (p',b,r)).take j) c).isSome then hsS else sg)),none,none],?_,?_⟩
    .refine ⟨_,rfl,_,rfl,d,_,rfl,sd9.get hk9,_,rfl,ite2 (fun z=>?_) (fun z=>?_)⟩
     .rw [JL] at z;rw[if_pos z];exact⟨rfl,rfl⟩
     .rw [JL] at z;rw[if_neg z];exact⟨rfl,rfl⟩
    rintro Z _ ⟨rfl,rfl⟩;obtain⟨H10,dput,sd10,k10,_⟩:=sd9.put (by omega) hk9 (if (Drw.marks hsS (Drw.marks hsS Drw.no ((prs.take i).flatMap (xbg w'))) ((xbg w' (p',b,r)).take j) c).isSome then hsS else sg);refine⟨_,rfl,_,rfl,_,rfl,d,H10,rfl,dput,_,_,rfl,fun c u nc e=>k10 _ _ nc (k9 _ _ nc e),?_⟩;rw[stp];exact sd10
   .rintro Z H9 ⟨v11',v12',rfl,k9,sd9⟩;rw[Za] at sd9;refine⟨_,_,_,_,_,_,_,rfl,fun c u e=>k9 _ _ (xi e hd) (s58 _ _ (s5 _ _ e)),?_⟩;rw[ZY (l:=xbg w' (p',b,r)) (by omega)] at sd9;have e:(prs.take (i+1)).flatMap (xbg w')=(prs.take i).flatMap (xbg w')++xbg w' (p',b,r):=by
     rw[ZO,hp,Y3];exact congrArg _ (Jx _)
    rw[e];refine SD.le ?_ (show 50*i+cq.length<=50*(i+1) by omega);unfold Drw.marks at sd9 ⊢;rw[Yt];exact sd9
  .rintro Z H5 ⟨v6,v7,v8,v9,v10,v11,v12,rfl,s5,sd⟩;rw[Za,ZY (by omega)] at sd;have sd:=sd.le (k:=600) (by omega);refine⟨_,rfl,lp,rfl,⟨_,SqL.of (s5 _ _ hlp)⟩,?_⟩;refine xa9 (xs:=qs.map V.ref) (Pv:=fun i Z H6=>∃(v13:Option V),Z=[some (.int (w':Int)),some (.int (h':Int)),some (.ref lp),some (.ref ls),some (.ref l),some (.ref d),v6,v7,v8,v9,v10,v11,v12,v13,none]/\Same H H6/\SD H6 d (600+i) (Drw.sets (Drw.marks hsS Drw.no (prs.flatMap (xbg w'))) ((ptsS ps).take i))) ⟨_,rfl,s5,sd⟩ ?_ ?_ ?_
   .rintro i Z H6 _ ⟨_,rfl,s6,_⟩;exact SqL.of (s6 _ _ hlp)
   .rintro i x Z H6 hx ⟨v13,rfl,s6,sd6⟩;rw[Ze,Zj] at hx;obtain⟨qa,hqa,rfl⟩:=hx;obtain⟨p,rest,hp,hpq⟩:=ptl.2 _ _ hqa;have i12:i<12:=by have:=(Zf.mp hp).1; omega
    have hq6:=s6 _ _ hpq;refine⟨_,rfl,qa,_,0,.str p.nm,rfl,rfl,SqT.of hq6,xba (j:=0) rfl,_,rfl,_,rfl,qa,_,1,.int p.x,rfl,rfl,SqT.of hq6,xba (j:=1) rfl,_,rfl,qa,_,2,.int p.y,rfl,rfl,SqT.of hq6,xba (j:=2) rfl,(by exact leS2),fun kp hkp=>?_⟩;generalize eu:upd H6 kp (.tup [.int p.x,.int p.y])=H7;have s7:=su_e hkp eu;have g7:=ug_e eu;obtain⟨H8,dput,sd8,k8,_⟩:=(sd6.keep (H':=H7) (fun u e=>s7 _ _ e)).put (c:=(p.x,p.y)) (by omega) g7 p.nm;refine⟨d,H8,rfl,dput,_,rfl,fun c u e=>k8 _ _ (xi e hd) (s7 _ _ (s6 _ _ e)),?_⟩;rw[xdy (c:=(p.x,p.y)) (x:=p.nm)]
    .exact sd8
    .unfold ptsS;rw[Ze,hp];rfl
   .rintro Z H6 ⟨v13,rfl,s6,sd6⟩;rw[Za,ZY (l:=ptsS ps) (by unfold ptsS; rw[Za]; omega)] at sd6;have sd6:=sd6.le (k:=620) (by omega);refine⟨_,rfl,ls,rfl,⟨_,SqL.of (s6 _ _ hls)⟩,?_⟩;refine xa9 (xs:=rs.map V.ref) (Pv:=fun i Z H7=>∃(v7 v8:Option V),Z=[some (.int (w':Int)),some (.int (h':Int)),some (.ref lp),some (.ref ls),some (.ref l),some (.ref d),v6,v7,v8,v9,v10,v11,v12,v13,none]/\Same H H7/\SD H7 d (620+i) (Drw.sets (Drw.sets (Drw.marks hsS Drw.no (prs.flatMap (xbg w'))) (ptsS ps)) ((xb3 w' ss).take i))) ⟨_,_,rfl,s6,sd6⟩ ?_ ?_ ?_
    .rintro i Z H7 _ ⟨_,_,rfl,s7,_⟩;exact SqL.of (s7 _ _ hls)
    .rintro i x Z H7 hx ⟨v7',v8',rfl,s7,sd7⟩;rw[Ze,Zj] at hx;obtain⟨qa,hqa,rfl⟩:=hx;obtain⟨⟨b,r⟩,hs,hsq⟩:=stl.get hqa;have i32:i<32:=by have:=(Zf.mp hs).1; omega
     refine⟨qa,_,rfl,SqT.of (s7 _ _ hsq),rfl,_,_,rfl,_,_,rfl,rfl,?_⟩;refine⟨_,rfl,_,rfl,_,rfl,(w':Int),b,rfl,fun H8 s8=>⟨_,rfl,(by exact leS2),fun kp hkp=>?_⟩⟩;generalize eu:upd H8 kp (.tup [.int (Drw.rim w' b),.int r])=H9;have s9:=su_e hkp eu;have g9:=ug_e eu;obtain⟨H10,dput,sd10,k10,_⟩:=(sd7.keep (H':=H9) (fun u e=>s9 _ _ (s8 _ _ e))).put (c:=rimC w' (b,r)) (by omega) g9 (Zb ".");refine⟨d,H10,rfl,dput,_,_,rfl,fun c u e=>k10 _ _ (xi e hd) (s9 _ _ (s8 _ _ (s7 _ _ e))),?_⟩;rw[xdy (c:=rimC w' (b,r)) (x:=Zb ".")]
     .exact sd10
     .unfold xb3;rw[Ze,hs];rfl
    .rintro Z H7 ⟨v7',v8',rfl,s7,sd7⟩;rw[Za,ZY (l:=xb3 w' ss) (by unfold xb3; rw[Za]; omega)] at sd7;have sd7:=sd7.le (k:=660) (by omega);refine⟨_,rfl,l,rfl,⟨_,SqL.of (s7 _ _ hl)⟩,?_⟩;refine xa9 (xs:=ts.map V.ref) (Pv:=fun i Z H8=>∃(v6 v7 v8:Option V),Z=[some (.int (w':Int)),some (.int (h':Int)),some (.ref lp),some (.ref ls),some (.ref l),some (.ref d),v6,v7,v8,v9,v10,v11,v12,v13,none]/\Same H H8/\SD H8 d (660+i) (Drw.sets (Drw.sets (Drw.sets (Drw.marks hsS Drw.no (prs.flatMap (xbg w'))) (ptsS ps)) (xb3 w' ss)) ((xbq w' prs).take i))) ⟨_,_,_,rfl,s7,sd7⟩ ?_ ?_ ?_
     .rintro i Z H8 _ ⟨_,_,_,rfl,s8,_⟩;exact SqL.of (s8 _ _ hl)
     .rintro i x Z H8 hx ⟨v6'',v7'',v8'',rfl,s8,sd8⟩;rw[Ze,Zj] at hx;obtain⟨qa,hqa,rfl⟩:=hx;obtain⟨⟨pt,b,r⟩,hp,hpq⟩:=prl.get hqa;have i12:i<12:=by have:=(Zf.mp hp).1; omega
      refine⟨qa,_,rfl,SqT.of (s8 _ _ hpq),rfl,_,_,rfl,_,_,rfl,_,_,rfl,rfl,?_⟩;refine⟨_,rfl,_,rfl,_,rfl,_,rfl,(w':Int),b,rfl,fun H9 s9=>⟨_,rfl,(by exact leS2),fun kp hkp=>?_⟩⟩;generalize eu:upd H9 kp (.tup [.int (Drw.rim w' b),.int r])=H10;have s10:=su_e hkp eu;have g10:=ug_e eu;obtain⟨H11,dput,sd11,k11,_⟩:=(sd8.keep (H':=H10) (fun u e=>s10 _ _ (s9 _ _ e))).put (c:=rimC w' (b,r)) (by omega) g10 pt.nm;refine⟨d,H11,rfl,dput,_,_,_,rfl,fun c u e=>k11 _ _ (xi e hd) (s10 _ _ (s9 _ _ (s8 _ _ e))),?_⟩;rw[xdy (c:=rimC w' (b,r)) (x:=pt.nm)]
      .exact sd11
      .unfold xbq;rw[Ze,hp];rfl
     .rintro Z H8 ⟨v6'',v7'',v8'',rfl,s8,sd8⟩;rw[Za,ZY (l:=xbq w' prs) (by unfold xbq; rw[Za]; omega)] at sd8;have sd8:SD H8 d (660+ts.length) (xaz w' ps ss prs):=sd8;have sh:=xlq (w:=w') (ss:=ss) (fun p hp=>(pok.ok p hp).nm) (fun p hp=>(pal.ok p hp).nm);refine⟨(by exact leS0),fun lw hlw=>?_⟩;generalize eu:upd H8 lw (.lst [])=H9;have s9:=su_e hlw eu;have g9:=ug_e eu;have flw:=s8.free hlw;have nwd:d≠lw:=by
       obtain⟨kvs,e,_⟩:=sd8;exact xi e hlw
      have sd9:=sd8.keep (H':=H9) (fun u e=>s9 _ _ e);refine⟨_,rfl,_,_,rfl,rfl,1,(h':Int)+1,rfl,⟨by decide,by decide,by omega,by omega⟩,?_⟩;refine xjr (Pv:=fun i Z H10=>∃(v10:Option V),Z=[some (.int (w':Int)),some (.int (h':Int)),some (.ref lp),some (.ref ls),some (.ref l),some (.ref d),v6'',v7'',v8'',v9,v10,v11,v12,v13,some (.ref lw)]/\Same H H10/\SD H10 d (660+ts.length) (xaz w' ps ss prs)/\H10 lw=some (.lst (xcq w' i (xaz w' ps ss prs)))) ⟨_,rfl,s8.trans s9,sd9,g9⟩ ?_ ?_
      .rintro i Z H10 hi ⟨v10',rfl,s10,sd10,e10⟩;refine⟨_,rfl,.inl ⟨rfl,_,SqL.of e10⟩,?_⟩;refine⟨rfl,_,rfl,_,_,rfl,rfl,((w'+2:Nat):Int),by rw[Int.natCast_add]; rfl,by omega,by omega,fun l1 hl1=>?_⟩;refine xhg (xa2 (by omega)) hl1 (fun (j:Nat)=>V.str ((xaz w' ps ss prs ((j:Int),1+(i:Int))).getD (Zb " "))) ?_ ?_
       .intro j H11 hj s11 N hN
        simp only[Int.zero_add];obtain⟨kvs,ed,_⟩:=id sd10;refine⟨_,rfl,d,rfl,.inr ⟨kvs,.inl (s11 _ _ ed)⟩,_,rfl,_,rfl,(by exact leS2),fun p hp=>?_⟩;generalize eu:upd H11 p (.tup [.int (j:Int),.int (1+(i:Int))])=H12;have s12:=su_e hp eu;have g12:=ug_e eu;refine⟨_,(sd10.keep (H':=H12) fun u e=>s12 _ _ (s11 _ _ e)).get (c:=((j:Int),1+(i:Int))) g12,?_⟩;have e:((xaz w' ps ss prs ((j:Int),1+(i:Int))).map V.str).getD (V.str (Zb " "))=V.str ((xaz w' ps ss prs ((j:Int),1+(i:Int))).getD (Zb " ")):=by cases xaz w' ps ss prs ((j:Int),1+(i:Int))<;>rfl
        rw[e];exact hN H12 s12
       .intro H11 s11 e11
        rw[YL] at e11;refine⟨Zb "",l1,(Z0 (w'+2)).map fun (j:Nat)=>(xaz w' ps ss prs ((j:Int),1+(i:Int))).getD (Zb " "),5,rfl,rfl,(by rw[e11,Z3]; rfl),fun s hs=>?_,?_,?_⟩
        .obtain ⟨j,_,rfl⟩:=Zh.mp hs;cases e:xaz w' ps ss prs ((j:Int),1+(i:Int)) with
         | none=>exact (by decide +kernel:(Zb " ").length<=5)
         | some x=>exact sh _ _ e
        .rw [Za,Zr,show (Zb "").length=0 from by decide +kernel];exact xb5 (by omega)
        have e11w:=s11 _ _ e10;have ih:i<h':=by omega
        refine⟨lw,_,_,rfl,rfl,e11w,?_,?_⟩
        .unfold xcq;rw[Za,Zr];exact xa2 (by omega)
        refine⟨_,rfl,fun c u e=>by rw[xg (xi e flw)]; exact s11 _ _ (s10 _ _ e),(sd10.keep (H':=H11) fun u e=>s11 _ _ e).keep (fun u e=>by rw[xg nwd]; exact e),?_⟩;rw[xh];unfold xcq;rw[JM (n:=i),Z4];rfl
      .rintro Z H10 ⟨v10',rfl,s10,sd10,e10⟩;rw[show ((h':Int)+1-1).toNat=h' by omega] at e10;exact⟨_,rfl,q H10 lw s10 flw e10⟩
theorem xmr {w:Nat} (w1:1<=w) {a b:Seat} (e:rimC w a=rimC w b):a=b:=by
 obtain⟨a1,a2⟩:=a;obtain⟨b1,b2⟩:=b;have e1:Drw.rim w a1=Drw.rim w b1:=(JJ.inj e).1;have e2:a2=b2:=(JJ.inj e).2;subst e2;unfold Drw.rim at e1;cases a1<;>cases b1
 .rfl
 .simp at e1; omega
 .simp at e1; omega
 .rfl
theorem xpq (w:Int) (s:Seat):(rimC w s).1=0\/(rimC w s).1=w+1:=by
 show Drw.rim w s.1=0\/Drw.rim w s.1=w+1;unfold Drw.rim;split
 .exact .inl rfl
 .exact .inr rfl
theorem xim {α β:Type}{f g:α->List β}:∀{l:List α},(∀ a∈l,f a=g a)->l.flatMap f=l.flatMap g
 | [],_=>rfl
 | a::l,h=>by
  rw[Qt,Qt,h a (Zv ..),xim fun b hb=>h b (Zt _ hb)]
theorem xsr {w h:Nat}{ps:List Pt}{ss:List Seat}{prs prs':List Pr} (w1:1<=w) (pok:xfm w h ps) (pal:xga w h ps prs) (pm:prs'.Perm prs):xdi w ps ss prs'=xaz w ps ss prs:=by
 funext c;unfold xdi xaz;refine Drw.draw_same (w:=w) hsS (fun x hx=>?_) (fun x hx=>?_) (fun x hx=>?_) (pm.map _) ?_ c fun n1 n2=>?_
 .obtain ⟨p,hp,rfl⟩:=Zh.mp hx;exact⟨(pok.ok p hp).x1,(pok.ok p hp).x2⟩
 .obtain ⟨s,_,rfl⟩:=Zh.mp hx;exact xpq w s
 .obtain ⟨s,_,rfl⟩:=Zh.mp hx;exact xpq w s.2
 .rw [Z3];have nd:=(pm.map (·.2)).nodup_iff.mpr pal.nd;rw[Yu,ZB] at nd ⊢;exact nd.imp fun ne e=>ne (xmr w1 e)
 .rw [Drw.at_flat,Drw.at_flat];rw[xim (g:=fun a=>Drw.at_ c (xbg w a))]
  .exact pm.flatMap_right _
  intro a ha;have ok:=pal.ok a (pm.mem_iff.mp ha);refine Drw.led_at _ _ _ ok.xy.1 ok.xy.2.1 (fun e=>n1 ?_) (fun e=>n2 ?_)
  .rw [e];unfold ptsS;rw[Z3];exact Zh.mpr ⟨a.1,Qp ok.fd,rfl⟩
  .rw [e];rw[Z3];exact Zh.mpr ⟨a,ha,rfl⟩
theorem Dr.same {t:Adr}{H H':Hp}{a dp do_:Addr}{w h:Nat}{ps:List Pt}{ss srt:List Seat} (d:Dr t H a dp do_ w h ps ss srt) (s:Same H H'):Dr t H' a dp do_ w h ps ss srt:=⟨Pic.same s d.pic,d.sts.same s,d.ok,d.pm,d.lt,d.nm⟩
theorem xsj {h:Nat}{s:Seat} (o:1<=s.2/\s.2<=(h:Int)):s∈xav true h++xav false h:=by
 obtain⟨b,r⟩:=s;have o1:1<=r:=o.1;have o2:r<=h:=o.2;have z:∀ b,(b,r)∈xav b h:=fun b=>Zh.mpr ⟨(r-1).toNat,ZL.mpr (by omega),by rw[show 1+((r-1).toNat:Int)=r by omega]⟩;cases b
 .exact ZN _ (z false)
 .exact Yw _ (z true)
theorem xp3 (ns:List Int):∃ ms:List Int,cutV (ns.map V.int) (some 3) (some 15)=ms.map V.int/\ms.length<=12:=by
 refine⟨(ns.drop (min 3 ns.length)).take (min 15 ns.length-min 3 ns.length),?_,?_⟩
 .unfold cutV;simp only[HT.sIx,Za];rw[if_neg (by decide),if_neg (by decide),Wn,Wo];rfl
 .rw [ZP];omega
def prD (p:Pr):DV:=.tup [.str p.1.nm,.str (xax p.2.1),.int p.2.2]
theorem xwp {K:Zd}{H:Hp}{q:Addr}{p:Pr} (h:H q=some (.tup (prV p))):Dv K H 1 (.ref q) (prD p):=.tup (SqT.of h) rfl (xdl (xs:=prV p) rfl)
theorem PrsL.dv {K:Zd}{H:Hp}{ps:List Pr}{qs:List Addr} (h:PrsL H ps qs) {l:Addr} (e:H l=some (.lst (qs.map V.ref))):Dv K H 2 (.ref l) (.lst (ps.map prD)):=by
 refine .lst (SqL.of e) (by rw[Za,Za,h.len]) fun j x d h1 h2=>?_;rw[Ze] at h1 h2;obtain⟨q,hq,rfl⟩:=Zj.mp h1;obtain⟨p,hp,rfl⟩:=Zj.mp h2;obtain⟨p',hp',e'⟩:=h.get hq;rw[hp] at hp';cases hp';exact xwp e'
inductive xkn (K:Zd) (vs:List V) (H:Hp) (Q:VK) (_:XK):Prop
 | mk (a:Addr) (ns:List Int) (e_:vs=[.ref a]) (r_:SqL K H a (ns.map V.int)/\ns.length<=63/\∀ H',Q (.bl true) H')
abbrev Sg:=Nat × Nat × Nat
def sgV (s:Sg):List V:=[.int (s.1:Int),.int (s.2.1:Int),sgn s.2.2]
def GV (G:List (List Nat)):List V:=G.map fun r=>V.str (ofL r)
def sgR (i:Nat) (r:List Nat):List Sg:=(Z0 r.length).map fun j=>(i,j,r.getD j 0)
def sgsN (G:List (List Nat)) (n:Nat):List Sg:=(Z0 n).flatMap fun i=>sgR i (G.getD i [])
def sgs (G:List (List Nat)):List Sg:=sgsN G G.length
structure Txs (W:Nat) (G:List (List Nat)):Prop where
 h1:1<=G.length
 h2:G.length<=16
 wd:∀ r∈G,r.length=W
 asc:∀ r∈G,∀ c∈r,c<128
 w1:3<=W
 w2:W<=32
def TL {α:Type} (f:α->List V) (H:Hp) (as:List α) (qs:List Addr):Prop:=qs.length=as.length/\∀(i:Nat) (q:Addr),qs[i]?=some q->∃ a,as[i]?=some a/\H q=some (.tup (f a))
theorem TL.keep {α:Type}{f:α->List V}{H H':Hp}{as:List α}{qs:List Addr} (s:Tups H H') (h:TL f H as qs):TL f H' as qs:=⟨h.1,fun i q e=>let ⟨a,e1,e2⟩:=h.2 i q e; ⟨a,e1,s _ _ e2⟩⟩
theorem TL.nil {α:Type}{f:α->List V}{H:Hp}:TL f H [] []:=⟨rfl,fun i q e=>by simp at e⟩
theorem TL.append {α:Type}{f:α->List V}{H:Hp}{as bs:List α}{qs rs:List Addr} (h:TL f H as qs) (k:TL f H bs rs):TL f H (as++bs) (qs++rs):=by
 refine⟨by rw[Zp,Zp,h.1,k.1],fun i q e=>?_⟩;by_cases c:i<qs.length
 .rw [ZW c] at e;rw[ZW (by rw[<- h.1]; exact c)];exact h.2 i q e
 .rw [Jb (by omega)] at e;rw[Jb (by rw[<- h.1]; omega),<- h.1];exact k.2 _ q e
theorem TL.pick {α:Type}{f:α->List V}{H:Hp}:∀{as:List α}{ys:List V},ys.length=as.length->(∀(j:Nat) (y:V) (a:α),ys[j]?=some y->as[j]?=some a->∃ q,y=.ref q/\H q=some (.tup (f a)))->∃ rs:List Addr,ys=rs.map V.ref/\TL f H as rs
 | [],[],_,_=>⟨[],rfl,TL.nil⟩
 | [],_::_,h,_=>by cases h
 | _::_,[],h,_=>by cases h
 | s::ss,y::ys,h,k=>by
  obtain⟨q,e,hq⟩:=k 0 y s rfl rfl;obtain⟨rs,e2,r⟩:=TL.pick (as:=ss) (ys:=ys) (by simpa using h) fun j y s h1 h2=>k (j+1) y s (by simpa using h1) (by simpa using h2)
  refine⟨q::rs,by rw[e,e2]; rfl,TL.append (as:=[s]) (qs:=[q]) ⟨rfl,fun i q' e'=>?_⟩ r⟩;cases i with
  | zero =>
   simp at e';subst e';exact⟨s,rfl,hq⟩
  | succ i=>simp at e'
theorem xau (l:List Nat):(ofL l).length=l.length:=by simp[ofL,YU]
theorem xi3 {l:List Nat} (h:∀ c∈l,c<128):(ofL l).cps.all (·<128)=true:=by
 rw[Array.all_eq_true];intro i hi;have:(ofL l).cps[i]∈(ofL l).cps.toList:=by simp
 rw[xah] at this;exact decide_eq_true (h _ this)
inductive xs1 (vs:List V) (H:Hp) (Q:VK) (_:XK):Prop
 | mk (l:Addr) (W:Nat) (G:List (List Nat)) (e_:vs=[.ref l]) (r_:H l=some (.lst (GV G))/\Txs W G/\∀ H',Same H H'->Q .non H')
inductive xr3 (vs:List V) (H:Hp) (Q:VK) (_:XK):Prop
 | mk (l:Addr) (W:Nat) (G:List (List Nat)) (e_:vs=[.ref l]) (r_:H l=some (.lst (GV G))/\Txs W G/\∀ H' l' qs,Same H H'->H l'=none->H' l'=some (.lst (qs.map V.ref))->TL sgV H' (sgs G) qs->Q (.ref l') H')
def xct (j:Nat):Bool:=decide (j=0)
inductive xrd (vs:List V) (H:Hp) (Q:VK) (_:XK):Prop
 | mk (q:Addr) (i j:Nat) (e_:vs=[.ref q]) (r_:H q=some (.tup [.int (i:Int),.int (j:Int)])/\∀ H' q',Same H H'->H q'=none->H' q'=some (.tup (xb8 (xct j,(i:Int)+1)))->Q (.ref q') H')
theorem xb0 (G:List (List Nat)):(GV G).length=G.length:=by unfold GV; rw[Za]
theorem xel {G:List (List Nat)}{i:Nat}{r:List Nat} (h:G[i]?=some r):(GV G)[i]?=some (V.str (ofL r)):=by unfold GV; rw[Ze,h]; rfl
theorem xfx {G:List (List Nat)}{i:Nat}{r:List Nat} (h:G[i]?=some r):sgsN G (i+1)=sgsN G i++sgR i r:=by
 unfold sgsN;rw[JM,Y3,QC,JA,h];rfl
theorem xcw {W:Nat}{G:List (List Nat)} (o:Txs W G):∀ n,n<=G.length->(sgsN G n).length=n*W
 | 0,_=>by simp[sgsN]
 | n+1,h=>by
  obtain⟨r,hr⟩:∃ r,G[n]?=some r:=⟨_,Zg h⟩
  rw[xfx hr,Zp,xcw o n (by omega),QT,QR];unfold sgR;rw[Za,Zr,o.wd r (Zk hr)]
theorem ok_at (T:Txt w K mg t):FnOk true P w K mg base (CXo P w) 1 t.f_at t.d_at ["rows"] (xs1):=by
 refine T.F_at.okn (k:=0) sc_at (fun vs H Q E h=>?_) (fun cdv A outer s H vs Q E hr h=>?_)
 .obtain ⟨l,W,G,rfl,_⟩:=h;rfl
 .obtain ⟨l,W,G,rfl,h⟩:=h;refine⟨_,xj (xad (PW.pt (xb9 (xbn (xay (x5 xcj rfl T.n_isinstance boot_isinstance (xb (pv 0) (xb (xdb (v:=.ty "list") rfl T.n_list boot_list rfl) (xf)))))) (xca (xbn (xkx xgm xgm (xm) (x5 xa8 rfl T.n_len Ju (xb (pv 0) (xf))) (xdx (v:=.int 16) rfl T.v_bn.choose_spec ⟨_,rfl⟩)))))) (xk (xbb)) (x4))
   (xk (xar ZC rfl (xcg rfl T.n_enumerate (xb (pv 0) (xf))) (xaf rfl (xq (xp (i:=1) sc_at.nd rfl (Zn rfl)) (xq (xp (i:=2) sc_at.nd rfl (Zn rfl)) (xab)))) (xk (xad (PW.pt (xb9 (xbn (xay (x5 xcj rfl T.n_isinstance boot_isinstance (xb (pv 2) (xb (xdb (v:=.ty "str") rfl T.n_str boot_str rfl) (xf)))))) (xb9 (xbn (xkx xgm xgm (xm) (x5 xa7 rfl T.n_len Ju (xb (pv 2) (xf))) (xt xai (xdx (v:=.int 30) rfl T.v_bj.choose_spec ⟨_,rfl⟩) (xm)))) (xca (x6 xd7 (x5 xa7 rfl T.n_len Ju (xb (pv 2) (xf))) (x5 xa7 rfl T.n_len Ju (xb (xaj xbp (pv 0) (xm) (fun _ _=>rfl)) (xf))) (x8 _)))))) (xk (xbb)) (x4))))),?_⟩
  obtain⟨hl,o,q⟩:=h;have h1:=o.h1;have h2:=o.h2;have w1:=o.w1;have w2:=o.w2;have gl:=xb0 G;obtain⟨r0,hr0⟩:∃ r,G[0]?=some r:=⟨_,Zg h1⟩
  have l0:=o.wd r0 (Zk hr0);refine⟨_,rfl,_,_,rfl,.inl ⟨_,_,true,.lst hl,rfl,xck,true,rfl,iteF ?_⟩⟩;refine⟨_,rfl,l,_,rfl,.inl (SqL.of hl),?_⟩;refine⟨_,_,rfl,rfl,_,rfl,ifP (decide_eq_true (by rw[gl]; omega)) ⟨_,_,rfl,rfl,_,rfl,ifN (by rw[decide_eq_true (by rw[gl]; omega)]; rfl) ?_⟩⟩;refine⟨_,rfl,l,_,rfl,SqL.of hl,?_⟩;refine xdu (xs:=GV G) (Pv:=fun i Z H5=>∃(v1 v2:Option V),Z=[some (.ref l),v1,v2]/\Same H H5) ⟨_,_,rfl,Same.refl _⟩ ?_ ?_ ?_
  .rintro i Z H5 _ ⟨_,_,rfl,s5⟩;exact SqL.of (s5 _ _ hl)
  .rintro i x p Z H5 hx hp ⟨v1,v2,rfl,s5⟩;have ig:i<G.length:=by
    have:=(Zf.mp hx).1;omega
   obtain⟨r,hr'⟩:∃ r,G[i]?=some r:=⟨_,Zg ig⟩
   rw[xel hr'] at hx;cases hx;have rl:=o.wd r (Zk hr');have le:∀ z:List Nat,z.length=W->(ofL z).length<=sizeLine:=fun z hz=>by rw[xau,hz]; exact xb5 (by omega)
   generalize eu:upd H5 p (.tup [.int (i:Int),.str (ofL r)])=H6;have s6:=su_e hp eu;have g6:=ug_e eu;have hl6:=s6 _ _ (s5 _ _ hl);refine⟨p,_,rfl,SqT.of g6,rfl,_,_,rfl,_,_,rfl,rfl,?_⟩;refine⟨_,rfl,_,_,rfl,.inl ⟨_,_,true,.str _,rfl,xck,true,rfl,iteF ?_⟩⟩;refine⟨_,rfl,_,rfl,le r rl,_,_,rfl,rfl,_,rfl,ifP (decide_eq_true (by rw[xau,rl]; omega)) ?_⟩;refine⟨_,_,rfl,rfl,_,_,rfl,rfl,_,rfl,ifN (by rw[decide_eq_true (by rw[xau,rl]; omega)]; rfl) ?_⟩;refine⟨_,rfl,_,rfl,le r rl,_,rfl,l,_,0,.str (ofL r0),rfl,rfl,SqL.of hl6,?_,_,rfl,le r0 l0,rfl,_,rfl,ifN ?_ ⟨_,_,rfl,s5.trans s6⟩⟩
   .show atI (GV G) ((0:Nat):Int)=_;exact xba (xel hr0)
   .rw [xau,xau,rl,l0];simp
  .rintro Z H5 ⟨v1,v2,rfl,s5⟩;exact q H5 s5
theorem ok_ay (T:Txt w K mg t):FnOk true P w K mg base (CXo P w) 1 t.f_ay t.d_ay ["rows"] (xr3):=by
 refine T.F_ay.okn (k:=0) sc_ay (fun vs H Q E h=>?_) (fun cdv A outer s H vs Q E hr h=>?_)
 .obtain ⟨l,W,G,rfl,_⟩:=h;rfl
 .obtain ⟨l,W,G,rfl,h⟩:=h;refine⟨_,xj (xv (i:=1) sc_ay.nd rfl (Zn rfl) (xbr (xf)))
   (xj (xar ZC rfl (xcg rfl T.n_enumerate (xb (pv 0) (xf))) (xaf rfl (xq (xp (i:=2) sc_ay.nd rfl (ZX rfl)) (xq (xp (i:=3) sc_ay.nd rfl (Zn rfl)) (xab)))) (xk (xa6 (xcl ZS PySem.F.slot_list_extend PySem.F.type_list_extend xoy (pv 1) (xb (xbx rfl (xaw (zs:=["column", "sign"]) (ys:=["row"]) (fr:=[2]) (N0:=["rows", "found", "row", "text"]) (sc0:=xo s_ay) (by decide +kernel) rfl rfl rfl) (xf9 rfl T.n_enumerate (xb (pv 3) (xf))) (fun _ _ _ _ _ ow nd=>(xaf rfl (xq (xp (i:=0) nd rfl (Zn (ow _ (by simp))) (ZX (ow _ (by simp)))) (xq (xp (i:=1) nd rfl (Zn (ow _ (by simp))) (ZX (ow _ (by simp)))) (xab))):PG _ _ (gTup K 2 _))) (xdc (xbc (by decide) (xbc (by decide) (xco)))) (fun _ _ _ _ _=>xbf) (fun _ _ _ _ _=>x9 (xb (pv 2) (xb (pv 0) (xb (pv 1) (xf)))))) (xf))))))
   (xk (xz (pv 1)))),?_⟩
  obtain⟨hl,o,q⟩:=h;have h2:=o.h2;have w2:=o.w2;have gl:=xb0 G;refine⟨(by exact leS0),fun f hf=>?_⟩;generalize eu:upd H f (.lst [])=H1;have s1:=su_e hf eu;have g1:=ug_e eu;refine⟨_,rfl,l,_,rfl,SqL.of (s1 _ _ hl),?_⟩;refine xdu (xs:=GV G) (Pv:=fun i Z H5=>∃(v2 v3:Option V) (qs:List Addr),Z=[some (.ref l),some (.ref f),v2,v3]/\Same H H5/\H5 f=some (.lst (qs.map V.ref))/\TL sgV H5 (sgsN G i) qs) ⟨_,_,[],rfl,s1,g1,TL.nil⟩ ?_ ?_ ?_
  .rintro i Z H5 _ ⟨_,_,_,rfl,s5,_⟩;exact SqL.of (s5 _ _ hl)
  .rintro i x p Z H5 hx hp ⟨v2,v3,qs,rfl,s5,e5,tl5⟩;have ig:i<G.length:=by
    have:=(Zf.mp hx).1;omega
   obtain⟨r,hr⟩:∃ r,G[i]?=some r:=⟨_,Zg ig⟩
   rw[xel hr] at hx;cases hx;have rl:=o.wd r (Zk hr);have ra:=o.asc r (Zk hr);generalize eu:upd H5 p (.tup [.int (i:Int),.str (ofL r)])=H6;have s6:=su_e hp eu;have g6:=ug_e eu;have e6:=s6 _ _ e5;refine⟨p,_,rfl,SqT.of g6,rfl,_,_,rfl,_,_,rfl,rfl,?_⟩;refine⟨_,rfl,.inl ⟨rfl,_,SqL.of e6⟩,_,rfl,ofL r,rfl,xi3 ra,fun l1 hl1=>?_⟩;refine xlv (by rw[xah,rl]; exact xa2 (by omega)) hl1 (fun j y H7=>∃ q,y=.ref q/\H7 q=some (.tup (sgV (i,j,r.getD j 0)))) (fun j y H7 H8 tp ⟨q,e1,e2⟩=>⟨q,e1,tp _ _ e2⟩) (fun j c pp H7 hc s7 hpp N hN=>?_) (fun ys H7 s7 e7 ly fy=>?_)
   .rw [xah] at hc;refine⟨pp,_,rfl,SqT.of xh,rfl,_,_,rfl,_,_,rfl,rfl,_,rfl,_,rfl,_,rfl,(by exact leS3),fun u hu=>hN _ _ (xaa (Same.refl _) hu) ⟨u,rfl,?_⟩⟩;rw[xh,JA,hc];rfl
   .rw [xah] at ly;obtain⟨rs,rfl,tr⟩:=TL.pick (f:=sgV) (H:=H7) (as:=sgR i r) (ys:=ys) (by rw[ly]; unfold sgR; rw[Za,Zr]) (fun j y a h1 h2=>by
     unfold sgR at h2;rw[Ze] at h2;obtain⟨j',hj,rfl⟩:=Zj.mp h2;obtain⟨_,ej⟩:=Zf.mp hj;rw[Qn] at ej;subst ej;exact fy _ y h1)
    have e67:=s7 _ _ e6;have ne:f≠l1:=fun z=>by rw[z] at e6; rw[e6] at hl1; cases hl1
    have ln:=xcw o i (by omega);have tq:=tl5.1;refine⟨f,l1,_,_,rfl,rfl,e67,e7,?_,?_⟩
    .rw [ly,Za,tq,ln];have:i*W<=16*32:=YJ (by omega) w2;exact xb5 (by omega)
    have kt:Tups H7 (upd H7 f (.lst (qs.map V.ref++rs.map V.ref))):=fun c xs e=>by rw[xg (ne_f e e67)]; exact e
    refine⟨_,_,qs++rs,rfl,fun c u e=>by rw[xg (xi e hf)]; exact s7 _ _ (s6 _ _ (s5 _ _ e)),by rw[xh,Z4],?_⟩;rw[xfx hr];exact ((((tl5.keep (Same.tups s6)).keep (Same.tups s7)).append tr).keep kt)
  .rintro Z H5 ⟨v2,v3,qs,rfl,s5,e5,tl5⟩;rw[gl] at tl5;exact⟨_,rfl,q H5 f qs s5 hf e5 tl5⟩
theorem ok_a9 (T:Txt w K mg t):FnOk true P w K mg base (CXo P w) 1 t.f_a9 t.d_a9 ["place"] (xrd):=by
 refine T.F_a9.okn (k:=0) sc_a9 (fun vs H Q E h=>?_) (fun cdv A outer s H vs Q E hr h=>?_)
 .obtain ⟨q,i,j,rfl,_⟩:=h;rfl
 .obtain ⟨q,i,j,rfl,h⟩:=h;refine⟨_,xj (xd2 (pv 0) (xaf rfl (xq (xp (i:=1) sc_a9.nd rfl (Zn rfl)) (xq (xp (i:=2) sc_a9.nd rfl (Zn rfl)) (xab)))))
   (xk (xz (x9 (xb (xc9 (x6 xbh (pv 2) (xm) (x8 _)) (xw) (xw)) (xb (xt xai (pv 1) (xm)) (xf)))))),?_⟩
  obtain⟨hq,hQ⟩:=h;refine⟨_,rfl,q,_,rfl,SqT.of hq,rfl,_,_,rfl,_,_,rfl,rfl,?_⟩;refine⟨_,rfl,rfl,_,rfl,ite2 (fun c=>?_) (fun c=>?_)⟩
  .have j0:j=0:=by
    have:=of_decide_eq_true c;injection this with z
    omega
   refine⟨_,rfl,_,_,rfl,rfl,(by exact leS2),fun u hu=>hQ _ u (xaa (Same.refl _) hu) hu ?_⟩;rw[xh,j0];rfl
  .have j0:¬ j=0:=fun z=>c (by rw[z]; rfl);refine⟨_,rfl,_,_,rfl,rfl,(by exact leS2),fun u hu=>hQ _ u (xaa (Same.refl _) hu) hu ?_⟩;rw[xh];unfold xct;rw[decide_eq_false j0];rfl
abbrev letF (lc:Int) (o i:Addr):List (Str × V):=[("last_column",.int lc),("outer",.ref o),("inner",.ref i)]
theorem xfq {lc:Int}{o i:Addr}{m:Str} (e:((["last_column", "outer", "inner"]:List Str).all fun k=>!(m == k))=true):(letF lc o i).lookup m=none:=by
 simp only[Qv,List.all_nil,Zs,Ya] at e;obtain⟨e1,e2,e3,_⟩:=e;unfold letF;rw[Zz,e1];show Jd m [("outer",V.ref o),("inner",V.ref i)]=none;rw[Zz,e2];show Jd m [("inner",V.ref i)]=none;rw[Zz,e3];rfl
theorem ltL {lc:Int}{o i:Addr}:(letF lc o i).lookup ("last_column":Str)=some (.int lc):=by
 unfold letF;rw[Zz,show (("last_column":Str) == "last_column")=true from by decide +kernel]
theorem ltO {lc:Int}{o i:Addr}:(letF lc o i).lookup ("outer":Str)=some (.ref o):=by
 unfold letF;rw[Zz,show (("outer":Str) == "last_column")=false from by decide +kernel];show Jd ("outer":Str) [("outer",V.ref o),("inner",V.ref i)]=_;rw[Zz,show (("outer":Str) == "outer")=true from by decide +kernel]
theorem ltI {lc:Int}{o i:Addr}:(letF lc o i).lookup ("inner":Str)=some (.ref i):=by
 unfold letF;rw[Zz,show (("inner":Str) == "last_column")=false from by decide +kernel];show Jd ("inner":Str) [("outer",V.ref o),("inner",V.ref i)]=_;rw[Zz,show (("inner":Str) == "outer")=false from by decide +kernel];show Jd ("inner":Str) [("inner",V.ref i)]=_;rw[Zz,show (("inner":Str) == "inner")=true from by decide +kernel]
inductive LD (H:Hp):List Sg->List (Key × V)->Prop
 | nil:LD H [] []
 | cons {s:Sg}{q:Addr}{es:List Sg}{kvs:List (Key × V)} (h:H q=some (.tup [.int (s.1:Int),.int (s.2.1:Int)])) (r:LD H es kvs):LD H (s::es) ((.inr (ofL [s.2.2]),.ref q)::kvs)
theorem LD.keep {H H':Hp} (s:Tups H H') {es:List Sg}{kvs:List (Key × V)} (h:LD H es kvs):LD H' es kvs:=by
 induction h with
 | nil=>exact .nil
 | cons h _ ih=>exact .cons (s _ _ h) ih
theorem LD.len {H:Hp}{es:List Sg}{kvs:List (Key × V)} (h:LD H es kvs):kvs.length=es.length:=by
 induction h with
 | nil=>rfl
 | cons _ _ ih=>simp[ih]
theorem LD.snoc {H:Hp}{es:List Sg}{kvs:List (Key × V)} (h:LD H es kvs) {s:Sg}{q:Addr} (e:H q=some (.tup [.int (s.1:Int),.int (s.2.1:Int)])):LD H (es++[s]) (kvs++[(.inr (ofL [s.2.2]),.ref q)]):=by
 induction h with
 | nil=>exact .cons e .nil
 | cons h _ ih=>exact .cons h ih
theorem xcd {c d:Nat} (h:ofL [c]=ofL [d]):c=d:=by
 have:=congrArg (fun s:Str=>s.cps.toList) h;simp only[xah] at this;exact (JV.inj this).1
theorem xgt {c d:Nat} (h:(Jl (ofL [c]):Key)=Jl (ofL [d])):c=d:=xcd (Jl.inj h)
theorem LD.get {H:Hp}{es:List Sg}{kvs:List (Key × V)} (h:LD H es kvs) {i:Nat}{k:Key}{x:V} (e:kvs[i]?=some (k,x)):∃ s q,es[i]?=some s/\k=.inr (ofL [s.2.2])/\x=.ref q/\H q=some (.tup [.int (s.1:Int),.int (s.2.1:Int)]):=by
 induction h generalizing i with
 | nil=>simp at e
 | @cons s q es kvs h _ ih =>
  cases i with
  | zero =>
   simp at e;exact⟨s,q,rfl,e.1.symm,e.2.symm,h⟩
  | succ j=>exact ih (by simpa using e)
theorem LD.is {H:Hp}{es:List Sg}{kvs:List (Key × V)} (h:LD H es kvs) (c:Nat):(valV kvs (.inr (ofL [c]))).isSome=decide (c∈es.map fun s=>s.2.2):=by
 induction h with
 | nil=>rfl
 | @cons s q es kvs h r ih =>
  by_cases z:s.2.2=c
  .subst z;rw[xaq rfl];simp
  .rw [xao (fun e=>z (xgt e)),ih];have z':¬ c=s.2.2:=fun e=>z e.symm;simp[z']
theorem LD.at_ {H:Hp}{es:List Sg}{kvs:List (Key × V)} (h:LD H es kvs) {s:Sg} (hs:s∈es) (nd:(es.map fun s=>s.2.2).Nodup):∃ q,valV kvs (.inr (ofL [s.2.2]))=some (.ref q)/\H q=some (.tup [.int (s.1:Int),.int (s.2.1:Int)]):=by
 induction h with
 | nil=>exact nomatch hs
 | @cons s' q es kvs h r ih =>
  rw[Zu,Jf] at nd;rcases Zy.mp hs with z|z
  .subst z;exact⟨q,xaq rfl,h⟩
  .have ne:s'.2.2≠s.2.2:=fun e=>nd.1 (e▸Zh.mpr ⟨s,z,rfl⟩);rw[xao (fun e=>ne (xgt e))];exact ih z nd.2
theorem LD.keys {H:Hp}{es:List Sg}{kvs:List (Key × V)} (h:LD H es kvs):kvs.map (·.1)=(es.map fun s=>ofL [s.2.2]).map Jl:=by
 induction h with
 | nil=>rfl
 | cons _ _ ih=>simp only[Zu,ih]
structure Let (t:Adr) (H:Hp) (a o i:Addr) (lc:Nat) (os is:List Sg):Prop where
 ins:∃ dx,H a=some (.ins t.C_u dx (letF (lc:Int) o i))
 ou:∃ kvs,H o=some (.dK kvs)/\LD H os kvs
 inn:∃ kvs,H i=some (.dK kvs)/\LD H is kvs
 ne:o≠i
theorem Let.same {t:Adr}{H H':Hp}{a o i:Addr}{lc:Nat}{os is:List Sg} (h:Let t H a o i lc os is) (s:Same H H'):Let t H' a o i lc os is :=
 ⟨let ⟨dx,e⟩:=h.ins; ⟨dx,s _ _ e⟩,let ⟨k,e,r⟩:=h.ou; ⟨k,s _ _ e,r.keep (Same.tups s)⟩,let ⟨k,e,r⟩:=h.inn; ⟨k,s _ _ e,r.keep (Same.tups s)⟩,h.ne⟩
def nmC (c:Nat):Bool:=decide (97<=c)&&decide (c<=122)
theorem lt1 (a b:Nat):([a]<[b])↔a<b:=by
 constructor
 .intro h
  cases h with
  | rel h=>exact h
  | cons h=>exact absurd h (by intro z; cases z)
 .exact fun h=>.rel h
theorem xhz (c:Nat):isNm (ofL [c])=nmC c:=by
 unfold isNm nmC;rw[xau,xah];simp only[lt1];rw[ZU];simp
def rimB (lc j:Nat):Bool:=decide (j=0)||decide (j=lc)
def lieB (is:List Sg) (i j c:Nat):Bool:=decide (c∉is.map fun s=>s.2.2)&&(decide ((is.filter fun s=>decide (s.1=i)||decide (s.2.1=j))=[])&&decide (is.length<12))
def mayB (lc:Nat) (os is:List Sg) (s:Sg):Bool:=if rimB lc s.2.1 then (decide (s.2.2=32)||decide (s.2.2=46))||(nmC s.2.2&&decide (s.2.2∉os.map fun s=>s.2.2)) else (([32,124,45,43,35]:List Nat).contains s.2.2)||(nmC s.2.2&&lieB is s.1 s.2.1 s.2.2)
inductive xsc (t:Adr) (vs:List V) (H:Hp) (Q:VK) (_:XK):Prop
 | mk (p dx:Addr) (lc:Nat) (e_:vs=[.ref p,.int (lc:Int)]) (r_:H p=some (.ins t.C_u dx [])/\∀ H' o i,H o=none->H i=none->(∀ b u,b≠p->H b=some u->H' b=some u)->Let t H' p o i lc [] []->Q .non H')
inductive xsn (t:Adr) (vs:List V) (H:Hp) (Q:VK) (_:XK):Prop
 | mk (a o i:Addr) (lc:Nat) (os is:List Sg) (j:Nat) (e_:vs=[.ref a,.int (j:Int)]) (r_:Let t H a o i lc os is/\∀ H',Same H H'->Q (.bl (rimB lc j)) H')
inductive xwu (t:Adr) (vs:List V) (H:Hp) (Q:VK) (_:XK):Prop
 | mk (a o i:Addr) (lc:Nat) (os is:List Sg) (s:Sg) (e_:vs=[.ref a,.int (s.1:Int),.int (s.2.1:Int),sgn s.2.2]) (r_:Let t H a o i lc os is/\is.length<=600/\∀ H',Same H H'->Q (.bl (lieB is s.1 s.2.1 s.2.2)) H')
inductive xtf (t:Adr) (vs:List V) (H:Hp) (Q:VK) (_:XK):Prop
 | mk (a o i:Addr) (lc:Nat) (os is:List Sg) (s:Sg) (e_:vs=[.ref a,.int (s.1:Int),.int (s.2.1:Int),sgn s.2.2]) (r_:Let t H a o i lc os is/\is.length<=600/\∀ H',Same H H'->Q (.bl (mayB lc os is s)) H')
def outP (lc:Nat) (s:Sg):Bool:=rimB lc s.2.1&&nmC s.2.2
def innP (lc:Nat) (s:Sg):Bool:=!rimB lc s.2.1&&nmC s.2.2
inductive xuj (t:Adr) (vs:List V) (H:Hp) (Q:VK) (_:XK):Prop
 | mk (a o i:Addr) (lc:Nat) (os is:List Sg) (s:Sg) (e_:vs=[.ref a,.int (s.1:Int),.int (s.2.1:Int),sgn s.2.2]) (r_:Let t H a o i lc os is/\is.length<=600/\os.length<=600/\mayB lc os is s=true/\∀ H',(∀ b u,b≠o->b≠i->H b=some u->H' b=some u)->Let t H' a o i lc (if outP lc s then os++[s] else os) (if innP lc s then is++[s] else is)->Q .non H')
theorem xn9 (a b:Nat):eqV (sgn a) (sgn b)=decide (a=b):=by
 show ((⟨#[a]⟩:Str) == ⟨#[b]⟩)=decide (a=b);rw[ZU,beq_iff_eq,decide_eq_true_iff];exact⟨fun h=>xcd h,fun h=>by rw[h]⟩
theorem xmg (c:Nat) (cs:List Nat):inV (sgn c) (cs.map sgn)=decide (c∈cs):=by
 unfold inV;rw[List.any_map,ZU,List.any_eq_true,decide_eq_true_iff];constructor
 .rintro ⟨x,hx,e⟩;have e:eqV (sgn x) (sgn c)=true:=e;rw[xn9] at e;exact of_decide_eq_true e▸hx
 .exact fun h=>⟨c,h,by show eqV (sgn c) (sgn c)=true; rw[xn9]; exact decide_eq_true rfl⟩
def hitB (H:Hp) (i j:Nat) (kx:Key × V):Bool:=match kx.2 with
 | .ref a=>(match H a with
  | some (.tup [.int r,.int c])=>decide (r=(i:Int))||decide (c=(j:Int))
  | _=>false)
 | _=>false
theorem xpu {H:Hp}{i j:Nat}{k:Key}{q:Addr}{s:Sg} (h:H q=some (.tup [.int (s.1:Int),.int (s.2.1:Int)])):hitB H i j (k,.ref q)=(decide (s.1=i)||decide (s.2.1=j)):=by
 unfold hitB;simp only[h];rw[ZU];simp only[JY,decide_eq_true_iff];omega
theorem LD.filt {H:Hp}{es:List Sg}{kvs:List (Key × V)} (h:LD H es kvs) (i j:Nat):LD H (es.filter fun s=>decide (s.1=i)||decide (s.2.1=j)) (kvs.filter (hitB H i j)):=by
 induction h with
 | nil=>exact .nil
 | @cons s q es kvs h r ih =>
  rw[JS,JS,xpu h];cases decide (s.1=i)||decide (s.2.1=j) with
  | true=>exact .cons h ih
  | false=>exact ih
theorem LD.dv {K:Zd}{H:Hp}{es:List Sg}{kvs:List (Key × V)} (h:LD H es kvs) {l:Addr} (e:H l=some (.lst (kvs.map (·.2)))):Dv K H 2 (.ref l) (.lst (es.map fun s=>DV.tup [.int (s.1:Int),.int (s.2.1:Int)])):=by
 refine .lst (SqL.of e) (by rw[Za,Za,h.len]) fun j x d h1 h2=>?_;rw[Ze] at h1 h2;obtain⟨⟨k,x'⟩,hx,rfl⟩:=Zj.mp h1;obtain⟨s,hs,rfl⟩:=Zj.mp h2;obtain⟨s',q,hs',_,ex,hq⟩:=h.get hx;rw[hs] at hs';cases hs';show Dv K H 1 x' _;rw[ex];exact xtv hq
theorem xmj {α:Type} (f:α->DV) (es:List α) [Decidable (es=[])]:dEq (.lst (es.map f)) (.lst [])=decide (es=[]):=by
 cases es with
 | nil=>simp[dEq,dEqs]
 | cons x xs=>simp[dEq,dEqs]
inductive xuu (vs:List V) (H:Hp) (Q:VK) (_:XK):Prop
 | mk (x:Str) (e_:vs=[.str x]) (r_:x.length<=1000/\Q (.bl (isNm x)) H)
theorem okD_ar (T:Txt w K mg t):FnOk true P w K mg base (CXo P w) 1 t.f_ar t.d_ar ["thing"] (xuu):=by
 refine T.F_ar.okn (k:=0) sc_ar (fun vs H Q E h=>?_) (fun cdv A outer s H vs Q E hr h=>?_)
 .obtain ⟨x,rfl,_⟩:=h;rfl
 .obtain ⟨x,rfl,h⟩:=h;refine⟨_,xk (xz (xcm (x5 xcj rfl T.n_isinstance boot_isinstance (xb (pv 0) (xb (xdb (v:=.ty "str") rfl T.n_str boot_str rfl) (xf)))) (xcm (xcf xbh (x5 xa7 rfl T.n_len Ju (xb (pv 0) (xf))) (xm) (x8 _)) (xc5 (xha xen xen (xw) (pv 0) (xw)))))),?_⟩;obtain⟨xl,q⟩:=h;refine⟨_,rfl,_,_,rfl,.inl ⟨_,_,true,.str x,rfl,xck,true,rfl,iteT ?_⟩⟩;refine⟨_,rfl,_,rfl,(by first|exact Yi xl (by decide)|exact Z8 xl (by decide)|omega),rfl,_,rfl,ite2 (fun c=>?_) (fun c=>?_)⟩
  .have l1:x.length=1:=by
    have z:(x.length:Int)=1:=by simpa using c
    omega
   unfold isNm at q;rw[decide_eq_true l1,Jq] at q;refine⟨_,rfl,_,_,rfl,rfl,_,rfl,ite2 (fun d=>?_) (fun d=>?_)⟩
   .refine ⟨_,_,rfl,rfl,?_⟩;rw[xnf] at d;rw[xrv];rw[d,Jq] at q;exact q
   .rw [xnf] at d;rw[Jg.mpr d,Jv] at q;exact q
  .have l1:¬ x.length=1:=fun z=>c (by rw[z]; rfl);unfold isNm at q;rw[decide_eq_false l1,Jv] at q;exact q
theorem ok_an (T:Txt w K mg t):FnOk true P w K mg base (CXo P w) 1 t.f_an t.d_an ["self", "last_column"] (xsc t):=by
 refine T.F_an.okn (k:=0) sc_an (fun vs H Q E h=>?_) (fun cdv A outer s H vs Q E hr h=>?_)
 .obtain ⟨p,dx,lc,rfl,_⟩:=h;rfl
 .obtain ⟨p,dx,lc,rfl,h⟩:=h;refine⟨_,xj (xdz (pv 0) (pv 1) rfl)
   (xj (xdz (pv 0) (xec) rfl)
   (xk (xdz (pv 0) (xec) rfl))),?_⟩
  obtain⟨hp,q⟩:=h;refine⟨_,rfl,_,rfl,p,_,dx,_,rfl,hp,T.c_u,T.n_be,(by show 0<1000; decide),?_⟩;refine fun o ho=>?_;have n1:p≠o:=xi xh ho;refine⟨_,rfl,p,_,dx,_,rfl,(by rw[xg n1]; exact xh),T.c_u,T.n_bf,(by show 1<1000; decide),fun i hi=>?_⟩;have n2:p≠i:=xi xh hi;have n3:o≠i:=xi (by rw[xg (ZE n1)]; exact xh) hi;refine⟨_,rfl,p,_,dx,_,rfl,(by rw[xg n2]; exact xh),T.c_u,T.n_bd,(by show 2<1000; decide),?_⟩;rw[xg (ZE n1)] at ho;have hi0:H i=none:=by rw[xg (ZE n2),xg (ZE n3),xg (ZE n2)] at hi; exact hi
  refine q _ o i ho hi0 (fun b u nb e=>?_) ⟨⟨dx,xh⟩,⟨[],?_,.nil⟩,⟨[],?_,.nil⟩,n3⟩
  .have c1:b≠o:=xi e ho;have c2:b≠i:=xi e hi0;rw[xg nb,xg c2,xg nb,xg c1,xg nb];exact e
  .rw [xg (ZE n1),xg n3,xg (ZE n1)];exact xh
  .rw [xg (ZE n2)];exact xh
theorem ok_l (T:Txt w K mg t):FnOk true P w K mg base (CXo P w) 1 t.f_l t.d_l ["self", "column"] (xsn t):=by
 refine T.F_l.okn (k:=0) sc_l (fun vs H Q E h=>?_) (fun cdv A outer s H vs Q E hr h=>?_)
 .obtain ⟨a,o,i,lc,os,is,j,rfl,_⟩:=h;rfl
 .obtain ⟨a,o,i,lc,os,is,j,rfl,h⟩:=h;refine⟨_,xk (xz (xcf xgc (pv 1) (x9 (xb (xm) (xb (xae (pv 0) rfl) (xf)))) (by rfl))),?_⟩;obtain⟨lt,q⟩:=h;obtain⟨⟨dx,ins⟩,_⟩:=id lt;refine⟨_,rfl,_,rfl,a,_,dx,_,_,rfl,ins,T.c_u,T.n_be,ltL,(by exact leS2),fun p1 hp1=>?_⟩;generalize eu:upd H p1 (.tup [.int 0,.int (lc:Int)])=H1;have s1:=su_e hp1 eu;have g1:=ug_e eu;refine⟨p1,_,rfl,.inr (SqT.of g1),rfl,rfl,?_⟩;have e:inV (.int (j:Int)) [.int 0,.int (lc:Int)]=rimB lc j:=by
   show ((0:Int) == (j:Int)||(((lc:Int) == (j:Int))||false))=rimB lc j;unfold rimB;rw[ZU];simp only[JY,Yc,beq_iff_eq,decide_eq_true_iff];omega
  rw[if_neg (by decide),e];exact q H1 s1
theorem ok_p (T:Txt w K mg t):FnOk true P w K mg base (CXo P w) 1 t.f_p t.d_p ["self", "row", "column", "name"] (xwu t):=by
 refine T.F_p.okn (k:=0) sc_p (fun vs H Q E h=>?_) (fun cdv A outer s H vs Q E hr h=>?_)
 .obtain ⟨a,o,i,lc,os,is,s,rfl,_⟩:=h;rfl
 .obtain ⟨a,o,i,lc,os,is,s,rfl,h⟩:=h;refine⟨_,xj (xd9 (xbu rfl (xaw (zs:=["other", "place"]) (ys:=["row", "column"]) (fr:=[1,2]) (N0:=["self", "row", "column", "name", "places"]) (sc0:=xo s_p) (by decide +kernel) rfl rfl rfl) (xc8 (xae (pv 0) rfl)) (fun _ _ _ _ _ ow nd=>(xaf rfl (xq (xp (i:=0) nd rfl (Zn (ow _ (by simp))) (ZX (ow _ (by simp)))) (xq (xp (i:=1) nd rfl (Zn (ow _ (by simp))) (ZX (ow _ (by simp)))) (xab))):PG _ _ (gTup K 2 _))) (xdc (xbc (by decide) (xbc (by decide) (xco)))) (fun _ _ _ _ _=>xe0 (PW.pt (xb9 (x6 xbh (xaj (r:=rIxT K) xa4 (pv 1) (xm) (fun _ _=>rfl)) (pv 2) (x8 _)) (xca (x6 xbh (xaj (r:=rIxT K) xa4 (pv 1) (xm) (fun _ _=>rfl)) (pv 3) (x8 _)))))) (fun _ _ _ _ _=>pv 1) (j:=4) rfl (Zn rfl)))
   (xk (xz (xcm (xld (xde (xag hr) (pv 3) (xae (pv 0) rfl))) (xcm (xcf (xh1 (xch hr)) (pv 4) (xbr (xf)) (x8 _)) (xc5 (xcf xkk (x5 xgf rfl T.n_len Ju (xb (xae (pv 0) rfl) (xf))) (xdx (v:=.int 12) rfl T.v_bk.choose_spec ⟨_,rfl⟩) (x8 _))))))),?_⟩
  obtain⟨lt,i6,q⟩:=h;obtain⟨⟨dx,ins⟩,_,⟨kvs,hk,ld⟩,_⟩:=id lt;have kl:=ld.len;refine⟨_,rfl,a,_,dx,_,_,rfl,ins,T.c_u,T.n_bd,ltI,i,kvs,rfl,hk,fun ob nf l hl=>?_⟩;have nl:l≠i:=fun z=>by
   rw[z,xh] at hl;cases hl
  have hl0:H l=none:=by rwa [xg nl] at hl
  refine xlx xh (by rw[kl]; exact xa2 (by omega)) hl (hitB H s.1 s.2.1) (fun n k x p H2 hx s2 hp N M hN hM=>?_) (fun H2 s2 e2=>?_)
  .obtain ⟨z,qa,hz,rfl,rfl,hqa⟩:=ld.get hx;have hq2:H2 qa=some (.tup [.int (z.1:Int),.int (z.2.1:Int)]):=s2 _ _ (by rw[xg (ne_f hqa hk)]; exact hqa);have hq3:upd H2 p (.tup [kV (.inr (ofL [z.2.2])),.ref qa]) qa=some (.tup [.int (z.1:Int),.int (z.2.1:Int)]):=by
    rw[xg (xi hq2 hp)];exact hq2
   have hb:=xpu (i:=s.1) (j:=s.2.1) (k:=.inr (ofL [z.2.2])) hqa;refine⟨p,_,rfl,SqT.of xh,rfl,_,_,rfl,_,_,rfl,rfl,?_⟩;refine⟨_,rfl,qa,_,0,.int (z.1:Int),rfl,rfl,SqT.of hq3,rfl,_,rfl,rfl,_,rfl,ite2 (fun c=>?_) (fun c=>?_)⟩
   .have c1:z.1=s.1:=by
     have:=V.int.inj (of_decide_eq_true c);omega
    refine iteT ⟨_,rfl,hN _ (Same.refl _) ?_⟩;rw[hb,decide_eq_true c1];rfl
   .have c1:¬ z.1=s.1:=fun e=>c (decide_eq_true (by rw[e]));refine⟨_,rfl,qa,_,1,.int (z.2.1:Int),rfl,rfl,SqT.of hq3,rfl,_,rfl,rfl,_,rfl,ite2 (fun c'=>?_) (fun c'=>?_)⟩
    .have c2:z.2.1=s.2.1:=by
      have:=V.int.inj (of_decide_eq_true c');omega
     refine⟨_,rfl,hN _ (Same.refl _) ?_⟩;rw[hb,decide_eq_true c2,JF]
    .have c2:¬ z.2.1=s.2.1:=fun e=>c' (decide_eq_true (by rw[e]));refine hM _ (Same.refl _) ?_;rw[hb,decide_eq_false c1,decide_eq_false c2];rfl
  have hi2:=s2 _ _ (show upd H i (.frz ob (.dK kvs)) i=_ from xh);refine⟨i,ob,.dK kvs,hi2,nf,?_⟩;have s3:Same H (upd H2 i (.dK kvs)):=fun b u e=>by
   by_cases z:b=i
   .subst z;rw[xh,<- e,hk]
   .rw [xg z];exact s2 _ _ (by rw[xg z]; exact e)
  have e3:upd H2 i (.dK kvs) l=some (.lst ((kvs.filter (hitB H s.1 s.2.1)).map (·.2))):=by
   rw[xg nl];exact e2
  revert s3 e3;generalize upd H2 i (.dK kvs)=H3;intro s3 e3;clear hi2 e2 s2;have ins3:=s3 _ _ ins;have hk3:=s3 _ _ hk;have ld3:=((ld.filt s.1 s.2.1).keep (Same.tups s3))
  refine⟨_,rfl,_,rfl,a,_,dx,_,_,rfl,ins3,T.c_u,T.n_bd,ltI,i,_,rfl,DGet.k (k:=.inr (ofL [s.2.2])) hk3,_,rfl,?_⟩;rw[ld.is];have e0:lieB is s.1 s.2.1 s.2.2=(decide (s.2.2∉is.map fun s=>s.2.2)&&(decide ((is.filter fun z=>decide (z.1=s.1)||decide (z.2.1=s.2.1))=[])&&decide (is.length<12))):=rfl;refine ite2 (fun c=>?_) (fun c=>?_)
  .have c1:s.2.2∉is.map fun s=>s.2.2:=by simpa using c
   rw[decide_eq_true c1,Jq] at e0;refine⟨_,rfl,(by exact leS0),fun l0 hl0'=>?_⟩;generalize eu:upd H3 l0 (.lst [])=H4;have s4:=su_e hl0' eu;have g4:=ug_e eu;refine⟨2,1,_,.lst [],(ld3.keep (Same.tups s4)).dv (s4 _ _ e3),.lst (SqL.of g4) rfl (fun j x d h1=>by simp at h1),by decide,by decide,_,rfl,?_⟩;rw[xmj];refine ite2 (fun c2=>?_) (fun c2=>?_)
   .rw [c2,Jq] at e0;refine⟨_,rfl,a,_,dx,_,_,rfl,s4 _ _ ins3,T.c_u,T.n_bd,ltI,i,kvs,rfl,s4 _ _ hk3,_,_,rfl,rfl,?_⟩;rw[e0] at q;have e5:decide ((kvs.length:Int)<12)=decide (is.length<12):=by
     rw[kl,ZU,decide_eq_true_iff,decide_eq_true_iff];omega
    show Q (.bl (decide ((kvs.length:Int)<12))) H4;rw[e5];exact q _ (s3.trans s4)
   .rw [Jg.mpr c2,Jv] at e0;rw[e0] at q;exact q _ (s3.trans s4)
  .have c1:¬ s.2.2∉is.map fun s=>s.2.2:=fun z=>c (by simpa using z);rw[decide_eq_false c1,Jv] at e0;rw[e0] at q;exact q _ s3
theorem ok_h (T:Txt w K mg t):FnOk true P w K mg base (CXo P w) 2 t.f_h t.d_h ["self", "row", "column", "sign"] (xtf t):=by
 refine T.F_h.okn (k:=1) sc_h (fun vs H Q E h=>?_) (fun cdv A outer s H vs Q E hr h=>?_)
 .obtain ⟨a,o,i,lc,os,is,s,rfl,_⟩:=h;rfl
 .obtain ⟨a,o,i,lc,os,is,s,rfl,h⟩:=h;refine⟨_,xj (xad (xay (xa0 (pv 0) T.c_u T.m_l (ok_l T) (hmm hr) T.b_l .nil xn (xb (pv 2) (xf)))) (xk (xz (xrk (xcf xgc (pv 3) (x9 (xb (xw) (xb (xw) (xf)))) (by rfl)) (xc5 (xcm (xr (okD_ar T) (hmm hr) rfl T.g_ar T.F_ar.kp T.b_ar .nil xn (xb (pv 3) (xf))) (xc5 (xld (xde (xag hr) (pv 3) (xae (pv 0) rfl))))))))) (x4))
   (xk ((by (with_reducible refine' xz ?e1); (case e1=>((exact xrk (xcf xgc (pv 3) (x9 (xx (xw) (xx (xw) (xx (xw) (xx (xw) (xx (xw) (xf) rfl) rfl) rfl) rfl) rfl)) (by rfl)) (xc5 (xcm (xr (okD_ar T) (hmm hr) rfl T.g_ar T.F_ar.kp T.b_ar .nil xn (xb (pv 3) (xf))) (xc5 (xa0 (pv 0) T.c_u T.m_p (ok_p T) (hmm hr) T.b_p .nil xn (xb (pv 1) (xb (pv 2) (xb (pv 3) (xf)))))))))))))),?_⟩
  obtain⟨lt,i6,q⟩:=h;obtain⟨⟨dx,ins⟩,_⟩:=id lt;refine⟨_,rfl,a,dx,_,rfl,ins,xfq (by decide +kernel),_,rfl,a,o,i,lc,os,is,s.2.1,rfl,lt,fun H1 s1=>⟨_,rfl,ite2 (fun c=>?_) (fun c=>?_)⟩⟩
  .have e0:mayB lc os is s=((decide (s.2.2=32)||decide (s.2.2=46))||(nmC s.2.2&&decide (s.2.2∉os.map fun s=>s.2.2))):=by
    unfold mayB;rw[if_pos c]
   refine⟨_,rfl,(by exact leS2),fun p1 hp1=>?_⟩;generalize eu:upd H1 p1 (.tup [.str (Zb " "),.str (Zb ".")])=H2;have s2:=su_e hp1 eu;have g2:=ug_e eu;refine⟨p1,_,rfl,.inr (SqT.of g2),rfl,rfl,_,rfl,?_⟩;have s02:=s1.trans s2;have lt2:=lt.same s02;have e1:(if false=true then !inV (sgn s.2.2) [.str (Zb " "),.str (Zb ".")] else inV (sgn s.2.2) [.str (Zb " "),.str (Zb ".")])=(decide (s.2.2=32)||decide (s.2.2=46)):=by
    have:=xmg s.2.2 [32,46];rw[show (([32,46]:List Nat).map sgn)=[.str (Zb " "),.str (Zb ".")] from by decide +kernel] at this;rw[if_neg Z1,this,ZU];simp
   rw[e1];refine ite2 (fun c1=>?_) (fun c1=>?_)
   .rw [c1,Q9] at e0;rw[e0] at q;exact q _ s02
   .rw [Jg.mpr c1,Yo] at e0;refine⟨_,rfl,_,rfl,(by decide:(1:Nat)<=1000),_,rfl,?_⟩;rw[show isNm (⟨#[s.2.2]⟩:Str)=nmC s.2.2 from xhz _];obtain⟨⟨dx2,ins2⟩,⟨kvs,hk,ld⟩,_⟩:=id lt2;refine ite2 (fun c2=>?_) (fun c2=>?_)
    .rw [c2,Jq] at e0;refine⟨_,rfl,_,rfl,a,_,dx2,_,_,rfl,ins2,T.c_u,T.n_bf,ltO,o,_,rfl,DGet.k (k:=.inr (ofL [s.2.2])) hk,?_⟩;rw[ld.is];rw[e0] at q;have:=q _ s02;rw[decide_not] at this;exact this
    .rw [Jg.mpr c2,Jv] at e0;rw[e0] at q;exact q _ s02
  .have e0:mayB lc os is s=((([32,124,45,43,35]:List Nat).contains s.2.2)||(nmC s.2.2&&lieB is s.1 s.2.1 s.2.2)):=by
    unfold mayB;rw[if_neg c]
   refine⟨_,rfl,(by exact leS5),fun p1 hp1=>?_⟩;generalize eu:upd H1 p1 (.tup [.str (Zb " "),.str (Zb "|"),.str (Zb "-"),.str (Zb "+"),.str (Zb "#")])=H2;have s2:=su_e hp1 eu;have g2:=ug_e eu;refine⟨p1,_,rfl,.inr (SqT.of g2),rfl,rfl,_,rfl,?_⟩;have s02:=s1.trans s2;have lt2:=lt.same s02;have e1:(if false=true then !inV (sgn s.2.2) [.str (Zb " "),.str (Zb "|"),.str (Zb "-"),.str (Zb "+"),.str (Zb "#")] else inV (sgn s.2.2) [.str (Zb " "),.str (Zb "|"),.str (Zb "-"),.str (Zb "+"),.str (Zb "#")])=([32,124,45,43,35]:List Nat).contains s.2.2:=by
    have:=xmg s.2.2 [32,124,45,43,35];rw[show (([32,124,45,43,35]:List Nat).map sgn)=[.str (Zb " "),.str (Zb "|"),.str (Zb "-"),.str (Zb "+"),.str (Zb "#")] from by decide +kernel] at this;rw[if_neg Z1,this,ZU];simp
   rw[e1];refine ite2 (fun c1=>?_) (fun c1=>?_)
   .rw [c1,Q9] at e0;rw[e0] at q;exact q _ s02
   .rw [Jg.mpr c1,Yo] at e0;refine⟨_,rfl,_,rfl,(by decide:(1:Nat)<=1000),_,rfl,?_⟩;rw[show isNm (⟨#[s.2.2]⟩:Str)=nmC s.2.2 from xhz _];obtain⟨⟨dx2,ins2⟩,_⟩:=id lt2;refine ite2 (fun c2=>?_) (fun c2=>?_)
    .rw [c2,Jq] at e0;refine⟨_,rfl,a,dx2,_,rfl,ins2,xfq (by decide +kernel),_,rfl,_,rfl,_,rfl,a,o,i,lc,os,is,s,rfl,lt2,i6,fun H3 s3=>?_⟩;rw[e0] at q;exact q _ (s02.trans s3)
    .rw [Jg.mpr c2,Jv] at e0;rw[e0] at q;exact q _ s02
theorem ok_v (T:Txt w K mg t):FnOk true P w K mg base (CXo P w) 3 t.f_v t.d_v ["self", "row", "column", "sign"] (xuj t):=by
 refine T.F_v.okn (k:=2) sc_v (fun vs H Q E h=>?_) (fun cdv A outer s H vs Q E hr h=>?_)
 .obtain ⟨a,o,i,lc,os,is,s,rfl,_⟩:=h;rfl
 .obtain ⟨a,o,i,lc,os,is,s,rfl,h⟩:=h;refine⟨_,xj (xad (xbn (xay (xa0 (pv 0) T.c_u T.m_h (ok_h T) (hmm hr) T.b_h .nil xn (xb (pv 1) (xb (pv 2) (xb (pv 3) (xf))))))) (xk (xbb)) (x4))
   (xk (xad (xay (xr (okD_ar T) (hmm hr) rfl T.g_ar T.F_ar.kp T.b_ar .nil xn (xb (pv 3) (xf)))) (xj (xv (i:=4) sc_v.nd rfl (Zn rfl) (xc9 (xay (xa0 (pv 0) T.c_u T.m_l (ok_l T) (hmm hr) T.b_l .nil xn (xb (pv 2) (xf)))) (xae (pv 0) rfl) (xae (pv 0) rfl)))
   (xk (xbv (xag hr) (pv 4) (pv 3) (x9 (xb (pv 1) (xb (pv 2) (xf)))) rfl))) (x4))),?_⟩
  obtain⟨lt,i6,o6,my,q⟩:=h;obtain⟨⟨dx,ins⟩,_⟩:=id lt;refine⟨_,rfl,a,dx,_,rfl,ins,xfq (by decide +kernel),_,rfl,_,rfl,_,rfl,a,o,i,lc,os,is,s,rfl,lt,i6,fun H1 s1=>⟨_,rfl,ifN (by rw[my]; rfl) ?_⟩⟩;refine⟨_,rfl,_,rfl,(by decide:(1:Nat)<=1000),_,rfl,?_⟩;rw[show isNm (⟨#[s.2.2]⟩:Str)=nmC s.2.2 from xhz _];have lt1:=lt.same s1;refine ite2 (fun c=>?_) (fun c=>?_)
  .obtain ⟨⟨dx1,ins1⟩,_⟩:=id lt1;refine⟨_,rfl,a,dx1,_,rfl,ins1,xfq (by decide +kernel),_,rfl,a,o,i,lc,os,is,s.2.1,rfl,lt1,fun H2 s2=>⟨_,rfl,?_⟩⟩;have s02:=s1.trans s2;have lt2:=lt.same s02;obtain⟨⟨dx2,ins2⟩,⟨ko,hko,ldo⟩,⟨ki,hki,ldi⟩,ne⟩:=id lt2;have klo:=ldo.len;have kli:=ldi.len;refine ite2 (fun r=>?_) (fun r=>?_)
   .have nin:s.2.2∉os.map fun s=>s.2.2:=by
     unfold mayB at my;rw[if_pos r] at my;have n1:¬ s.2.2=32:=fun z=>by rw[z] at c; exact absurd c (by decide)
     have n2:¬ s.2.2=46:=fun z=>by rw[z] at c; exact absurd c (by decide)
     rw[decide_eq_false n1,decide_eq_false n2,c,Yc,Yo,Jq] at my;exact of_decide_eq_true my
    refine⟨_,rfl,a,_,dx2,_,_,rfl,ins2,T.c_u,T.n_bf,ltO,_,rfl,_,rfl,(by exact leS2),fun qa hqa=>?_⟩;generalize eu:upd H2 qa (.tup [.int (s.1:Int),.int (s.2.1:Int)])=H3;have s3:=su_e hqa eu;have g3:=ug_e eu;refine⟨_,rfl,_,rfl,o,_,rfl,DPut.k (k:=.inr (ofL [s.2.2])) (s3 _ _ hko) (by rw[klo]; exact xa2 (by omega)),?_⟩;have hv:valV ko (.inr (ofL [s.2.2]))=none:=by
     have:=ldo.is s.2.2;rw[decide_eq_false nin] at this;exact Y0.mp (by rw[<- Qs,this]; rfl)
    rw[xcr _ hv];have kp:∀ b u,b≠o->H3 b=some u->upd H3 o (.dK (ko++[(.inr (ofL [s.2.2]),.ref qa)])) b=some u:=fun b u nb e=>by rw[xg nb]; exact e
    have kt:Tups H3 (upd H3 o (.dK (ko++[(.inr (ofL [s.2.2]),.ref qa)]))):=fun b xs e=>kp _ _ (ne_f e (s3 _ _ hko)) e;refine q _ (fun b u nb _ e=>kp _ _ nb (s3 _ _ (s02 _ _ e))) ?_;rw[if_pos (by unfold outP; rw[r,c]; rfl),if_neg (by unfold innP; rw[r]; simp)];exact⟨⟨dx2,kp _ _ (ne_f ins2 hko) (s3 _ _ ins2)⟩,⟨_,xh,(((ldo.keep (Same.tups s3)).snoc g3).keep kt)⟩,⟨ki,kp _ _ (ZE ne) (s3 _ _ hki),(ldi.keep (Same.tups s3)).keep kt⟩,ne⟩
   .have r':=Jg.mpr r;have lie:lieB is s.1 s.2.1 s.2.2=true:=by
     unfold mayB at my;rw[if_neg r,c,Jq] at my;rcases JY _ _▸my with z|z
     .exfalso;have z:=Yq.mp z;have c':97<=s.2.2:=by
       unfold nmC at c;exact of_decide_eq_true (Zs _ _▸c).1
      have z:s.2.2=32\/s.2.2=124\/s.2.2=45\/s.2.2=43\/s.2.2=35:=by simpa using z
      have c2:s.2.2<=122:=by
       unfold nmC at c;exact of_decide_eq_true (Zs _ _▸c).2
      omega
     .exact z
    have nin:s.2.2∉is.map fun s=>s.2.2:=by
     unfold lieB at lie;exact of_decide_eq_true (Zs _ _▸lie).1
    refine⟨_,rfl,a,_,dx2,_,_,rfl,ins2,T.c_u,T.n_bd,ltI,_,rfl,_,rfl,(by exact leS2),fun qa hqa=>?_⟩;generalize eu:upd H2 qa (.tup [.int (s.1:Int),.int (s.2.1:Int)])=H3;have s3:=su_e hqa eu;have g3:=ug_e eu;refine⟨_,rfl,_,rfl,i,_,rfl,DPut.k (k:=.inr (ofL [s.2.2])) (s3 _ _ hki) (by rw[kli]; exact xa2 (by omega)),?_⟩;have hv:valV ki (.inr (ofL [s.2.2]))=none:=by
     have:=ldi.is s.2.2;rw[decide_eq_false nin] at this;exact Y0.mp (by rw[<- Qs,this]; rfl)
    rw[xcr _ hv];have kp:∀ b u,b≠i->H3 b=some u->upd H3 i (.dK (ki++[(.inr (ofL [s.2.2]),.ref qa)])) b=some u:=fun b u nb e=>by rw[xg nb]; exact e
    have kt:Tups H3 (upd H3 i (.dK (ki++[(.inr (ofL [s.2.2]),.ref qa)]))):=fun b xs e=>kp _ _ (ne_f e (s3 _ _ hki)) e;refine q _ (fun b u _ nb e=>kp _ _ nb (s3 _ _ (s02 _ _ e))) ?_;rw[if_neg (by unfold outP; rw[r']; simp),if_pos (by unfold innP; rw[r',c]; rfl)];exact⟨⟨dx2,kp _ _ (ne_f ins2 hki) (s3 _ _ ins2)⟩,⟨ko,kp _ _ ne (s3 _ _ hko),(ldo.keep (Same.tups s3)).keep kt⟩,⟨_,xh,(((ldi.keep (Same.tups s3)).snoc g3).keep kt)⟩,ne⟩
  .have c':=Jg.mpr c;refine q _ (fun b u _ _ e=>s1 _ _ e) ?_;rw[if_neg (by unfold outP; rw[c',YK]; decide),if_neg (by unfold innP; rw[c',YK]; decide)];exact lt1
theorem xet {α β:Type}{f:α->β}{l' m:List β} (p:l'.Perm m):∀{l:List α},m=l.map f->∃ l2:List α,l2.Perm l/\l'=l2.map f:=by
 induction p with
 | nil =>
  intro l e;have:l=[]:=Qf.mp e.symm;subst this;exact⟨[],.refl _,rfl⟩
 | cons x _ ih =>
  intro l e;cases l with
  | nil=>cases e
  | cons a l =>
   rw[Zu] at e;obtain⟨rfl,e2⟩:=JV.inj e;obtain⟨l2,p2,rfl⟩:=ih e2;exact⟨a::l2,p2.cons a,rfl⟩
 | swap x y r =>
  intro l e;cases l with
  | nil=>cases e
  | cons a l =>
   cases l with
   | nil=>cases e
   | cons b l =>
    rw[Zu,Zu] at e;obtain⟨rfl,e2⟩:=JV.inj e;obtain⟨rfl,rfl⟩:=JV.inj e2;exact⟨b::a::l,.swap a b l,rfl⟩
 | trans _ _ ih1 ih2 =>
  intro l e;obtain⟨k2,p2,rfl⟩:=ih2 e;obtain⟨k1,p1,rfl⟩:=ih1 rfl;exact⟨k1,p1.trans p2,rfl⟩
theorem xif {i:Nat}{r:List Nat}{s:Sg}:s∈sgR i r↔s.1=i/\s.2.1<r.length/\s.2.2=r.getD s.2.1 0:=by
 unfold sgR;rw[Zh];constructor
 .rintro ⟨j,hj,rfl⟩;exact⟨rfl,ZL.mp hj,rfl⟩
 .rintro ⟨h1,h2,h3⟩;obtain⟨a,b,c⟩:=s
  dsimp only at h1 h2 h3
  exact⟨b,ZL.mpr h2,by rw[h1,h3]⟩
theorem xi5 {G:List (List Nat)}{n:Nat}{s:Sg}:s∈sgsN G n↔s.1<n/\s.2.1<(G.getD s.1 []).length/\s.2.2=(G.getD s.1 []).getD s.2.1 0:=by
 unfold sgsN;rw[YV];constructor
 .rintro ⟨i,hi,hs⟩;obtain⟨h1,h2,h3⟩:=xif.mp hs;subst h1;exact⟨ZL.mp hi,h2,h3⟩
 .rintro ⟨h1,h2,h3⟩;exact⟨s.1,ZL.mpr h1,xif.mpr ⟨rfl,h2,h3⟩⟩
theorem xe5 {W:Nat}{G:List (List Nat)} (o:Txs W G) {s:Sg}:s∈sgs G↔s.1<G.length/\s.2.1<W/\s.2.2=(G.getD s.1 []).getD s.2.1 0:=by
 unfold sgs;rw[xi5];have l:s.1<G.length->(G.getD s.1 []).length=W:=fun h=>by
  rw[JA,Zg h];exact o.wd _ (List.getElem_mem h)
 constructor
 .rintro ⟨h1,h2,h3⟩;exact⟨h1,by rw[<- l h1]; exact h2,h3⟩
 .rintro ⟨h1,h2,h3⟩;exact⟨h1,by rw[l h1]; exact h2,h3⟩
abbrev xrw (a b:Sg):Prop:=¬ (a.1=b.1/\a.2.1=b.2.1)
theorem xiv (G:List (List Nat)):∀ n,(sgsN G n).Pairwise xrw
 | 0=>by
  unfold sgsN;exact Y6.nil
 | n+1=>by
  have e:sgsN G (n+1)=sgsN G n++sgR n (G.getD n []):=by
   unfold sgsN;rw[JM,Y3,QC]
  rw[e,Yb];refine⟨xiv G n,?_,fun a ha b hb=>?_⟩
  .unfold sgR;rw[ZB];exact Yz.imp fun ne z=>ne z.2
  .have h1:=(xi5.mp ha).1;have h2:=(xif.mp hb).1;intro z;omega
def inns (w:Nat) (G:List (List Nat)):List Sg:=(sgs G).filter (innP (w+1))
def outs (w:Nat) (G:List (List Nat)):List Sg:=(sgs G).filter (outP (w+1))
def rims (w:Nat) (G:List (List Nat)):List Sg:=(sgs G).filter fun s=>rimB (w+1) s.2.1&&decide (s.2.2≠32)
abbrev InNe (a b:Sg):Prop:=a.2.2≠b.2.2/\a.1≠b.1/\a.2.1≠b.2.1
structure xce (w:Nat) (G:List (List Nat)):Prop where
 tx:Txs (w+2) G
 sg:∀ s∈sgs G,nmC s.2.2=false->if rimB (w+1) s.2.1=true then s.2.2=32\/s.2.2=46 else s.2.2∈([32,124,45,43,35]:List Nat)
 in1:(inns w G).Pairwise InNe
 in2:(inns w G).length<=12
 ou1:((outs w G).map fun s=>s.2.2).Nodup
 ou2:∀ s∈outs w G,s.2.2∈(inns w G).map fun s=>s.2.2
theorem xut {α:Type}{l:List α}{k:Nat}{x:α} (h:l[k]?=some x):l=l.take k++x::l.drop (k+1):=by
 obtain⟨hk,rfl⟩:=Zf.mp h;rw[<- List.drop_eq_getElem_cons hk,QP]
theorem xi2 {α:Type}{l:List α}{k:Nat}{x:α} (h:l[k]?=some x) {p:α->Bool} (hp:p x=true):l.filter p=(l.take k).filter p++x::(l.drop (k+1)).filter p:=by
 have e:=congrArg (List.filter p) (xut h);rw[Jn,Je hp] at e;exact e
theorem xiw {w:Nat}{G:List (List Nat)} (g:xce w G) {k:Nat}{s:Sg} (h:(sgs G)[k]?=some s):mayB (w+1) (((sgs G).take k).filter (outP (w+1))) (((sgs G).take k).filter (innP (w+1))) s=true:=by
 have ms:=Zk h;have sg:=g.sg s ms;unfold mayB;by_cases r:rimB (w+1) s.2.1=true
 .rw [if_pos r];rw[if_pos r] at sg;cases n:nmC s.2.2 with
  | false =>
   rcases sg n with z|z
   .rw [decide_eq_true z];rfl
   .rw [decide_eq_true z,JF];rfl
  | true =>
   have e:=g.ou1;unfold outs at e;rw[xi2 h (by unfold outP; rw[r,n]; rfl),Z4,Zu,Ja] at e;have ni:s.2.2∉((sgs G).take k |>.filter (outP (w+1))).map fun s=>s.2.2:=fun z=>e.2.2 _ z _ Zv rfl;rw[decide_eq_true ni,Bool.and_true,JF]
 .rw [if_neg r];rw[if_neg r] at sg;have r':=Jg.mpr r;cases n:nmC s.2.2 with
  | false =>
   rw[Yq.mpr (sg n)];rfl
  | true =>
   have pos:innP (w+1) s=true:=by unfold innP; rw[r',n]; rfl
   have e:=g.in1;have e2:=g.in2;unfold inns at e e2;rw[xi2 h pos,Yb] at e;rw[xi2 h pos,Zp,ZI] at e2;have all:∀ a∈((sgs G).take k).filter (innP (w+1)),InNe a s:=fun a ha=>e.2.2 a ha s Zv;have ni:s.2.2∉((sgs G).take k |>.filter (innP (w+1))).map fun s=>s.2.2:=fun z=>by
    obtain⟨a,ha,ea⟩:=Zh.mp z;exact (all a ha).1 ea
   have nf:(((sgs G).take k).filter (innP (w+1))).filter (fun z=>decide (z.1=s.1)||decide (z.2.1=s.2.1))=[]:=by
    rw[Yk];intro a ha z;rcases JY _ _▸z with z|z
    .exact (all a ha).2.1 (of_decide_eq_true z)
    .exact (all a ha).2.2 (of_decide_eq_true z)
   have lie:lieB (((sgs G).take k).filter (innP (w+1))) s.1 s.2.1 s.2.2=true:=by
    unfold lieB;rw[decide_eq_true ni,decide_eq_true nf,decide_eq_true (by omega)];rfl
   rw[lie,Bool.and_true,JF]
theorem xgd {α:Type}{l:List α}{k:Nat}{x:α} (h:l[k]?=some x) (p:α->Bool):(l.take (k+1)).filter p=if p x then (l.take k).filter p++[x] else (l.take k).filter p:=by
 rw[ZO,h,Jn];cases e:p x with
 | true =>
  rw[if_pos rfl,show (some x).toList=[x] from rfl,Je e];rfl
 | false =>
  rw[if_neg (by decide),show (some x).toList=[x] from rfl,Jk (by rw[e]; decide),QI,Jx]
def nmLt (a b:Sg):Prop:=a.2.2<b.2.2
theorem xf7:∀(p:Sg) (es:List Sg),risingS (ofL [p.2.2]) (es.map fun s=>ofL [s.2.2])=true->(∀ s∈es,p.2.2<=s.2.2)/\es.Pairwise fun a b=>a.2.2<=b.2.2
 | p,[],_=>⟨fun _ z=>(nomatch z),.nil⟩
 | p,x::r,h=>by
  rw[Zu] at h;unfold risingS at h;rw[Zs,xah,xah] at h;obtain⟨h1,h2⟩:=h;obtain⟨i1,i2⟩:=xf7 x r h2;have le:p.2.2<=x.2.2:=by
   simp[ZF.ltCps] at h1;omega
  refine⟨fun s hs=>?_,Qm.mpr ⟨i1,i2⟩⟩;rcases Zy.mp hs with z|z
  .rw [z];exact le
  .exact Z8 le (i1 s z)
theorem xfg {es:List Sg} (h:sortedS (es.map fun s=>ofL [s.2.2])=true) (nd:(es.map fun s=>s.2.2).Nodup):es.Pairwise nmLt:=by
 have le:es.Pairwise fun a b=>a.2.2<=b.2.2:=by
  cases es with
  | nil=>exact .nil
  | cons x r =>
   obtain⟨i1,i2⟩:=xf7 x r h;exact Qm.mpr ⟨i1,i2⟩
 rw[Yu,ZB] at nd;exact (le.and nd).imp fun z=>Nat.lt_of_le_of_ne z.1 z.2
theorem xmc:∀ cs:List Nat,YG (Zb "") (cs.map fun n=>ofL [n])=ofL cs
 | []=>rfl
 | [c]=>rfl
 | c::d::r=>by
  apply xds;have ih:=xmc (d::r);show (ofL [c]++Zb ""++YG (Zb "") ((d::r).map fun n=>ofL [n])).cps.toList=_;rw[ih,xb6,xb6,xah,xah,xah];rfl
def One (m:Cl->Option Str):Prop:=∀ c s,m c=some s->s.length=1
def cd (m:Cl->Option Str) (c:Cl):Nat:=match m c with
 | some s=>s.cps.toList.headD 32
 | none=>32
theorem xwh {m:Cl->Option Str} (o:One m) (c:Cl):(m c).getD (Zb " ")=ofL [cd m c]:=by
 unfold cd;cases e:m c with
 | none=>rfl
 | some s =>
  have l:=o c s e;show s=ofL [s.cps.toList.headD 32];apply xds;rw[xah];have l2:s.cps.toList.length=1:=by simpa [YU] using l
  cases h:s.cps.toList with
  | nil=>rw[h] at l2; cases l2
  | cons x r =>
   rw[h] at l2;have:r=[]:=by simpa using l2
   rw[this];rfl
def rowC (w:Nat) (r:Int) (m:Cl->Option Str):List Nat:=(Z0 (w+2)).map fun (j:Nat)=>cd m ((j:Int),r)
theorem xio {m:Cl->Option Str} (o:One m) (w:Nat) (r:Int):rowT w r m=ofL (rowC w r m):=by
 unfold rowT rowC;rw[<- xmc,Z3]
 congr 1
 exact Qg fun j _=>xwh o _
def xhs (w h:Nat) (m:Cl->Option Str):List (List Nat):=(Z0 h).map fun (i:Nat)=>rowC w (1+(i:Int)) m
theorem xrf {m:Cl->Option Str} (o:One m) (w h:Nat):xcq w h m=GV (xhs w h m):=by
 unfold xcq GV xhs;rw[Z3];exact Qg fun i _=>by
  show V.str (rowT w (1+(i:Int)) m)=V.str (ofL (rowC w (1+(i:Int)) m));rw[xio o]
theorem TL.get {α:Type}{f:α->List V}{H:Hp}{as:List α}{qs:List Addr} (h:TL f H as qs) {i:Nat}{q:Addr} (e:qs[i]?=some q):∃ a,as[i]?=some a/\H q=some (.tup (f a)):=h.2 i q e
def toPt (h:Nat) (s:Sg):Pt:=⟨ofL [s.2.2],(s.2.1:Int),(s.1:Int)+1, "both",1,(h:Int)⟩
def xa5 (s:Sg):Seat:=(xct s.2.1,(s.1:Int)+1)
theorem xs8 {w:Nat}{G:List (List Nat)} (o:Txs (w+2) G) {s:Sg} (h:s∈inns w G):s∈sgs G/\nmC s.2.2=true/\1<=s.2.1/\s.2.1<=w/\s.1<G.length:=by
 obtain⟨h1,h2⟩:=ZT.mp h;unfold innP rimB at h2;obtain⟨r1,r2,_⟩:=(xe5 o).mp h1;simp only[Zs,Ya,Bool.or_eq_false_iff,decide_eq_false_iff_not] at h2;exact⟨h1,h2.2,by omega,by omega,r1⟩
theorem xey {lc j:Nat} (h:rimB lc j=true):j=0\/j=lc:=by
 unfold rimB at h;simpa using h
theorem xie {α β:Type}{R:α->α->Prop}{f:α->β}{l:List α} (h:l.Pairwise R) (k:∀ a b,R a b->f a≠f b):(l.map f).Nodup:=by
 rw[Yu,ZB];exact h.imp fun {a b} z=>k a b z
theorem xe9 {w:Nat}{G:List (List Nat)} (g:xce w G) {es:List Sg} (pe:es.Perm (inns w G)):xfm (w:Int) (G.length:Int) (es.map (toPt G.length)):=by
 have nd:∀{β:Type} (f:Pt->β),(∀ a b:Sg,InNe a b->f (toPt G.length a)≠f (toPt G.length b))->((es.map (toPt G.length)).map f).Nodup:=fun f hf=>by
  rw[Z3];exact (pe.map _).nodup_iff.mpr (xie (f:=f∘toPt G.length) g.in1 hf)
 refine⟨fun p hp=>?_,nd _ fun a b z e=>z.1 (xcd e),nd _ fun a b z e=>z.2.2 ?_,nd _ fun a b z e=>z.2.1 ?_,?_⟩
 .obtain ⟨s,hs,rfl⟩:=Zh.mp hp;obtain⟨_,i2,i3,i4,i5⟩:=xs8 g.tx (pe.mem_iff.mp hs);have h1:=g.tx.h1;exact⟨by rw[show (toPt G.length s).nm=ofL [s.2.2] from rfl,xhz,i2],by show (1:Int)<=(s.2.1:Int); omega,by show (s.2.1:Int)<=_; omega,by show (1:Int)<=(s.1:Int)+1; omega,by show (s.1:Int)+1<=_; omega,.inr (.inr rfl),by show (1:Int)<=1; omega,by show (1:Int)<=(G.length:Int); omega,by show (G.length:Int)<=_; omega⟩
 .have e:(a.2.1:Int)=(b.2.1:Int):=e;omega
 .have e:(a.1:Int)+1=(b.1:Int)+1:=e;omega
 .rw [Za,pe.length_eq];exact g.in2
theorem xme {w:Nat}{a b:Sg} (ra:rimB (w+1) a.2.1=true) (rb:rimB (w+1) b.2.1=true) (ne:xrw a b):xa5 a≠xa5 b:=fun e=>by
 have e1:decide (a.2.1=0)=decide (b.2.1=0):=(JJ.inj e).1;have e2:(a.1:Int)+1=(b.1:Int)+1:=(JJ.inj e).2;rw[decide_eq_decide] at e1;refine ne ⟨by omega,?_⟩;rcases xey ra with x|x<;>rcases xey rb with y|y<;>omega
theorem xe8 {α:Type}{R S:α->α->Prop}{p:α->Bool}{l:List α} (h:l.Pairwise R) (k:∀ a b,p a=true->p b=true->R a b->S a b):(l.filter p).Pairwise S:=by
 have z:=(h.filter p)
 refine Y6.imp_of_mem ?_ z;intro a b ha hb r;exact k a b (ZT.mp ha).2 (ZT.mp hb).2 r
theorem xht {w:Nat}{G:List (List Nat)} (g:xce w G):SsOk (G.length:Int) ((rims w G).map xa5):=by
 have nd:((rims w G).map xa5).Nodup:=by
  refine xie (R:=fun a b=>xa5 a≠xa5 b) ?_ fun _ _ z=>z;refine xe8 (xiv G _) fun a b ha hb z=>?_;exact xme (Zs _ _▸ha).1 (Zs _ _▸hb).1 z
 have bd:∀ s∈(rims w G).map xa5,1<=s.2/\s.2<=(G.length:Int):=fun s hs=>by
  obtain⟨z,hz,rfl⟩:=Zh.mp hs;have:=((xe5 g.tx).mp (ZT.mp hz).1).1;exact⟨by show (1:Int)<=(z.1:Int)+1; omega,by show (z.1:Int)+1<=_; omega⟩
 refine⟨nd,?_,bd⟩;have h2:=g.tx.h2;have:=nd.length_le_of_subset (l₂:=xav true G.length++xav false G.length) fun s hs=>xsj (bd s hs);have e:(xav true G.length++xav false G.length).length=G.length+G.length:=by
  unfold xav;rw[Zp,Za,Za,Zr]
 omega
theorem xiz {w:Nat}{G:List (List Nat)} (g:xce w G):((inns w G).map fun s=>s.2.2).Nodup:=xie g.in1 fun _ _ z=>z.1
inductive xod (t:Adr) (vs:List V) (H:Hp) (Q:VK) (_:XK):Prop
 | mk (l a o i:Addr) (w:Nat) (G:List (List Nat)) (e_:vs=[.ref l,.ref a]) (r_:H l=some (.lst (GV G))/\Let t H a o i (w+1) (outs w G) (inns w G)/\xce w G/\∀(H':Hp) (b dp do_:Addr) (es:List Sg),Same H H'->H b=none->H dp=none->es.Perm (inns w G)->es.Pairwise nmLt->Pic t H' b dp do_ (w:Int) (G.length:Int) (es.map (toPt G.length))->Sts H' do_ ((rims w G).map xa5)->Q (.ref b) H')
theorem ok_al (T:Txt w K mg t):FnOk true P w K mg base (CXo P w) 7 t.f_al t.d_al ["rows", "letters"] (xod t):=by
 refine T.F_al.okn (k:=6) sc_al (fun vs H Q E h=>?_) (fun cdv A outer s H vs Q E hr h=>?_)
 .obtain ⟨l,a,o,i,w',G,rfl,_⟩:=h;rfl
 .obtain ⟨l,a,o,i,w',G,rfl,h⟩:=h;refine⟨_,xj (xv (i:=2) sc_al.nd rfl (ZX rfl) (x5 xa8 rfl T.n_len Ju (xb (pv 0) (xf))))
   (xj (xbu rfl (xaw (zs:=["name"]) (ys:=["height", "letters"]) (fr:=[2,1]) (N0:=["rows", "letters", "height", "points", "seats"]) (sc0:=xo s_al) (by decide +kernel) rfl rfl rfl) (xas (x5 (xeh rfl) rfl T.n_sorted PyProof.Rows.Boot.«sorted» (xb (xae (pv 1) rfl) (xf)))) (fun _ _ _ _ _ ow nd=>xp (i:=0) nd rfl (Zn (ow _ (by simp))) (ZX (ow _ (by simp)))) (xbj (by decide)) (fun _ _ _ _ _=>xbf) (fun _ _ _ _ _=>x9 (xx (pv 0) (xx (xaj (r:=rIxT K) xa4 (xa1 (xag hr) ((xae (pv 2) rfl:PE _ _ (tFld K _ _))) (pv 0) (fun _ _=>rfl)) (xm) (fun _ _=>rfl)) (xx (xt xai (xaj (r:=rIxT K) xa4 (xa1 (xag hr) ((xae (pv 2) rfl:PE _ _ (tFld K _ _))) (pv 0) (fun _ _=>rfl)) (xm) (fun _ _=>rfl)) (xm)) (xx (xw) (xx (xm) (xx (pv 1) (xf) rfl) rfl) rfl) rfl) rfl) rfl)) (j:=3) rfl (Zn rfl))
   (xj (xbu rfl (xaw (zs:=["row", "column", "sign"]) (ys:=["letters"]) (fr:=[1]) (N0:=["rows", "letters", "height", "points", "seats"]) (sc0:=xo s_al) (by decide +kernel) rfl rfl rfl) (xas (xr (ok_ay T) (hmm hr) rfl T.g_ay T.F_ay.kp T.b_ay .nil xn (xb (pv 0) (xf)))) (fun _ _ _ _ _ ow nd=>(xaf rfl (xq (xp (i:=0) nd rfl (Zn (ow _ (by simp))) (ZX (ow _ (by simp)))) (xq (xp (i:=1) nd rfl (Zn (ow _ (by simp))) (ZX (ow _ (by simp)))) (xq (xp (i:=2) nd rfl (Zn (ow _ (by simp))) (ZX (ow _ (by simp)))) (xab)))):PG _ _ (gTup K 3 _))) (xdc (xbc (by decide) (xbc (by decide) (xbc (by decide) (xco))))) (fun _ _ _ _ _=>xe0 (PW.pt (xh6 (xay (xa0 (pv 3) T.c_u T.m_l (ok_l T) (hmm hr) T.b_l .nil xn (xb (pv 1) (xf)))) (xgg (x6 xd7 (pv 2) (xw) (x8 _)))))) (fun _ _ _ _ _=>xr (ok_a9 T) (hmm hr) rfl T.g_a9 T.F_a9.kp T.b_a9 .nil xn (xb (x9 (xb (pv 0) (xb (pv 1) (xf)))) (xf))) (j:=4) rfl (Zn rfl))
   (xk (xz (xr (ok_z T) (hmm hr) rfl T.g_z T.F_z.kp T.b_z .nil xn (xb (xt xdq (xae (pv 1) rfl) (xm)) (xb (pv 2) (xb (pv 3) (xb (pv 4) (xf)))))))))),?_⟩
  obtain⟨hl,lt,g,q⟩:=h;have tx:=g.tx;have h1:=tx.h1;have h2:=tx.h2;have w1:=tx.w1;have w2:=tx.w2;have in2:=g.in2;obtain⟨⟨dx,ins⟩,_,⟨kvs,hk,ld⟩,_⟩:=id lt;refine⟨_,rfl,l,_,rfl,.inl (SqL.of hl),?_⟩;rw[xb0];refine⟨_,rfl,a,_,dx,_,_,rfl,ins,T.c_u,T.n_bd,ltI,i,(inns w' G).map (fun s=>ofL [s.2.2]),rfl,.inr ⟨kvs,hk,ld.keys⟩,(by rw[Za]; omega),fun ls ns hls pm srt=>?_⟩;obtain⟨es,pe,rfl⟩:=xet pm rfl;have nde:=(pe.map fun s=>s.2.2).nodup_iff.mpr (xiz g);have lt':=xfg srt nde;have el:=pe.length_eq;generalize eu:upd H ls (.lst ((es.map fun s=>ofL [s.2.2]).map V.str))=H1;have s1:=su_e hls eu;have g1:=ug_e eu;refine⟨ls,rfl,⟨_,SqL.of g1⟩,fun l1 hl1=>?_⟩;refine xeo (SqL.of g1) (by rw[Za,Za]; exact xa2 (by omega)) hl1 (fun j y H5=>∃ q s,y=.ref q/\es[j]?=some s/\H5 q=some (.tup (.str (toPt G.length s).nm::ptV (toPt G.length s)))) (fun j y H5 H6 tp ⟨q,s,e1,e2,e3⟩=>⟨q,s,e1,e2,tp _ _ e3⟩) (fun j x H5 hx s5 N hN=>?_) (fun ys H5 s5 e5 ly fy=>?_)
  .rw [Ze,Ze] at hx;obtain⟨x2,hx2,rfl⟩:=Zj.mp hx;obtain⟨s,hs,rfl⟩:=Zj.mp hx2;have s05:=s1.trans s5;have ins5:=s05 _ _ ins;have hk5:=s05 _ _ hk;obtain⟨qa,hv,hq⟩:=(ld.keep (Same.tups s05)).at_ (pe.mem_iff.mp (Zk hs)) (xiz g);have dg:=DGet.k (k:=.inr (ofL [s.2.2])) hk5;rw[hv] at dg;refine⟨_,rfl,_,rfl,a,_,dx,_,_,rfl,ins5,T.c_u,T.n_bd,ltI,_,rfl,i,_,rfl,dg,qa,_,1,.int (s.2.1:Int),rfl,rfl,SqT.of hq,rfl,?_⟩;refine⟨_,rfl,a,_,dx,_,_,rfl,ins5,T.c_u,T.n_bd,ltI,_,rfl,i,_,rfl,dg,qa,_,0,.int (s.1:Int),rfl,rfl,SqT.of hq,rfl,_,_,rfl,rfl,_,rfl,(by exact leS6),fun u hu=>hN _ _ (xaa (Same.refl _) hu) ⟨u,s,rfl,hs,?_⟩⟩;rw[xh];rfl
  rw[Za,Za] at ly;obtain⟨rs,rfl,ptl⟩:=PtsL.pick (H:=H5) (ps:=es.map (toPt G.length)) (ys:=ys) (by rw[ly,Za]) (fun j y p hy hp=>by
   obtain⟨q,s,e1,e2,e3⟩:=fy j y hy;rw[Ze,e2] at hp;cases hp;exact⟨q,e1,e3⟩)
  have s05:=s1.trans s5;have lt5:=lt.same s05;refine⟨_,rfl,l,w'+2,G,rfl,s05 _ _ hl,tx,fun H6 l6 qs s6 f6 e6 tl6=>⟨l6,rfl,⟨_,SqL.of e6⟩,fun l7 hl7=>?_⟩⟩;have qll:=tl6.1;have gll:=xcw tx G.length (Zl _);have b512:G.length*(w'+2)<=16*32:=YJ h2 w2;have gl2:(sgs G).length<=512:=by unfold sgs; omega
  have lt6:=lt5.same s6;refine xfc (SqL.of e6) (by rw[Za]; exact xa2 (by omega)) hl7 (fun k=>(((sgs G)[k]?).map fun s=>rimB (w'+1) s.2.1&&decide (s.2.2≠32)).getD false) (fun k y H8=>∃ q s,y=.ref q/\(sgs G)[k]?=some s/\H8 q=some (.tup (xb8 (xa5 s)))) (fun j y H5 H6 tp ⟨q,s,e1,e2,e3⟩=>⟨q,s,e1,e2,tp _ _ e3⟩) (fun k x H8 hx s8 N M hN hM=>?_) (fun ys H8 s8 e8 ly8 fy8=>?_)
  .rw [Ze,Zj] at hx;obtain⟨qa,hqa,rfl⟩:=hx;obtain⟨s,hs,hq⟩:=tl6.get hqa;have lt8:=lt6.same s8;obtain⟨⟨dx8,ins8⟩,_⟩:=id lt8;refine⟨qa,_,rfl,SqT.of (s8 _ _ hq),rfl,_,_,rfl,_,_,rfl,_,_,rfl,rfl,?_⟩;refine⟨_,rfl,a,dx8,_,rfl,ins8,xfq (by decide +kernel),_,rfl,a,o,i,w'+1,_,_,s.2.1,rfl,lt8,fun H9 s9=>⟨_,rfl,ite2 (fun c=>?_) (fun c=>?_)⟩⟩
   .refine ⟨_,rfl,rfl,_,rfl,ite2 (fun c2=>?_) (fun c2=>?_)⟩
    .have n32:s.2.2≠32:=fun z=>by
      rw[z] at c2;exact absurd c2 (by decide)
     refine⟨_,rfl,_,rfl,(by exact leS2),fun p hp=>⟨p,s.1,s.2.1,rfl,xh,fun H10 q10 s10 f10 e10=>hN _ _ (s9.trans (fun b u e=>s10 _ _ (xaa (Same.refl _) hp _ _ e))) ?_ ⟨q10,s,rfl,hs,e10⟩⟩⟩;rw[hs];show (rimB (w'+1) s.2.1&&decide (s.2.2≠32))=true;rw[c,decide_eq_true n32];rfl
    .have n32:s.2.2=32:=by
      by_cases z:s.2.2=32
      .exact z
      .have y:¬ sgn s.2.2=V.str (Zb " "):=fun y=>z (xcd (d:=32) (V.str.inj y));exact absurd (by rw[decide_eq_false y]; rfl) c2
     refine hM _ s9 ?_;rw[hs];show (rimB (w'+1) s.2.1&&decide (s.2.2≠32))=false;rw[decide_eq_false (fun z=>z n32),YK]
   .refine iteF (hM _ s9 ?_);rw[hs];show (rimB (w'+1) s.2.1&&decide (s.2.2≠32))=false;rw[Jg.mpr c,Jv]
  have ix:=xsf (fun s:Sg=>rimB (w'+1) s.2.1&&decide (s.2.2≠32)) (as:=sgs G) (p:=fun k=>(((sgs G)[k]?).map fun s=>rimB (w'+1) s.2.1&&decide (s.2.2≠32)).getD false) (fun k s hs=>by rw[hs]; rfl);rw[Za,qll] at ly8 fy8;obtain⟨rs8,rfl,stl⟩:=xac.pick (H:=H8) (ss:=(rims w' G).map xa5) (ys:=ys) (by rw[ly8,ix.1,Za]; rfl) (fun j y z hy hz=>by
   obtain⟨k,hk⟩:∃ k,((Z0 (sgs G).length).filter fun k=>(((sgs G)[k]?).map fun s=>rimB (w'+1) s.2.1&&decide (s.2.2≠32)).getD false)[j]?=some k:=⟨_,Zg (by rw[<- ly8]; exact (Zf.mp hy).1)⟩
   obtain⟨q,s,e1,e2,e3⟩:=fy8 j y k hy hk;rw[ix.2 j k hk] at e2;rw[Ze,show (rims w' G)[j]?=some s from e2] at hz;cases hz;exact⟨q,e1,e3⟩)
  have s58:=s6.trans s8;have s08:=s05.trans s58;obtain⟨⟨dx8,ins8⟩,_⟩:=id (lt6.same s8);have pok:=xe9 g pe;have ew:((w'+1:Nat):Int)-1=(w':Int):=by omega
  refine⟨_,rfl,a,_,dx8,_,_,rfl,ins8,T.c_u,T.n_be,ltL,_,_,rfl,rfl,_,rfl,_,rfl,_,rfl,?_⟩;refine⟨(w':Int),(G.length:Int),l1,l7,es.map (toPt G.length),rs,(rims w' G).map xa5,rs8,by show [V.int (((w'+1:Nat):Int)-1),V.int (G.length:Int),V.ref l1,V.ref l7]++[]=_; rw[ew]; rfl,⟨by omega,by omega,by omega,by omega⟩,s58 _ _ e5,ptl.keep (Same.tups s58),pok,e8,stl,xht g,fun H' b dp do_ s' fb fdp _ pic st=>?_⟩;exact q H' b dp do_ es (s08.trans s') (s08.free fb) (s08.free fdp) pe lt' pic st
theorem xl5 (G:List (List Nat)):∀ n,(sgsN G n).Pairwise fun a b=>a.1<b.1\/(a.1=b.1/\a.2.1<b.2.1)
 | 0=>by
  unfold sgsN;exact Y6.nil
 | n+1=>by
  have e:sgsN G (n+1)=sgsN G n++sgR n (G.getD n []):=by
   unfold sgsN;rw[JM,Y3,QC]
  rw[e,Yb];refine⟨xl5 G n,?_,fun a ha b hb=>?_⟩
  .unfold sgR;rw[ZB];exact List.pairwise_lt_range.imp fun z=>.inr ⟨rfl,z⟩
  .have h1:=(xi5.mp ha).1;have h2:=(xif.mp hb).1;exact .inl (by omega)
theorem xle {α:Type} (p:α->Bool):∀ l:List α,(l.filter p++l.filter fun x=>!p x).Perm l
 | []=>.refl _
 | x::l=>by
  have ih:=xle p l;cases e:p x with
  | true =>
   rw[Je e,Jk (by rw[e]; decide)];exact ih.cons x
  | false =>
   rw[Jk (by rw[e]; decide),Je (by rw[e]; rfl)];exact List.perm_middle.trans (ih.cons x)
def rimS (w:Nat) (G:List (List Nat)):List Seat:=(rims w G).map xa5
def srtS (w:Nat) (G:List (List Nat)):List Seat:=(rimS w G).filter (fun s=>s.1)++(rimS w G).filter fun s=>!s.1
theorem xoz (w:Nat) (G:List (List Nat)):(srtS w G).Perm (rimS w G):=xle _ _
theorem xvh (w:Nat) (G:List (List Nat)):(srtS w G).Pairwise xci:=by
 have base:(rimS w G).Pairwise fun a b=>a.1=b.1->a.2<b.2:=by
  unfold rimS rims;rw[ZB];refine xe8 (xl5 G _) fun a b ha hb z e=>?_;have e:decide (a.2.1=0)=decide (b.2.1=0):=e;rw[decide_eq_decide] at e;have ra:=xey (Zs _ _▸ha).1;have rb:=xey (Zs _ _▸hb).1;show (a.1:Int)+1<(b.1:Int)+1;omega
 unfold srtS;rw[Yb];refine⟨xe8 base fun a b ha hb z=>.inr ⟨by rw[ha,hb],z (by rw[ha,hb])⟩,xe8 base fun a b ha hb z=>?_,fun a ha b hb=>.inl ⟨(ZT.mp ha).2,by simpa using (ZT.mp hb).2⟩⟩;have e:a.1=b.1:=by
  have ha:a.1=false:=by simpa using ha
  have hb:b.1=false:=by simpa using hb
  rw[ha,hb]
 exact .inr ⟨e,z e⟩
def toPr (w:Nat) (G:List (List Nat)) (s:Sg):Pr:=(toPt G.length (((inns w G).find? fun z=>decide (z.2.2=s.2.2)).getD s),xa5 s)
theorem xdt {w:Nat}{G:List (List Nat)} (g:xce w G) {s:Sg} (h:s∈outs w G):s∈sgs G/\nmC s.2.2=true/\rimB (w+1) s.2.1=true/\∃ z∈inns w G,z.2.2=s.2.2/\toPr w G s=(toPt G.length z,xa5 s):=by
 obtain⟨h1,h2⟩:=ZT.mp h;unfold outP at h2;obtain⟨h3,h4⟩:=Zs _ _▸h2;refine⟨h1,h4,h3,?_⟩;obtain⟨y,hy,ey⟩:=Zh.mp (g.ou2 s h);cases e:(inns w G).find? fun z=>decide (z.2.2=s.2.2) with
 | none=>exact absurd (decide_eq_true ey) (by have:=List.find?_eq_none.mp e y hy; exact this)
 | some z =>
  have ez:z.2.2=s.2.2:=by
   have y:=List.find?_some e;simpa using y
  exact⟨z,Qp e,ez,by unfold toPr; rw[e]; rfl⟩
theorem xig {w:Nat}{G:List (List Nat)} (g:xce w G) {es fs:List Sg} (pe:es.Perm (inns w G)) (pf:fs.Perm (outs w G)):xga (w:Int) (G.length:Int) (es.map (toPt G.length)) (fs.map (toPr w G)):=by
 have pok:=xe9 g pe;have ou:=g.ou1;have in2:=g.in2;refine⟨fun p hp=>?_,?_,?_,?_⟩
 .obtain ⟨s,hs,rfl⟩:=Zh.mp hp;obtain⟨o1,o2,o3,z,hz,ez,et⟩:=xdt g (pf.mem_iff.mp hs);rw[et];have mem:toPt G.length z∈es.map (toPt G.length):=Zh.mpr ⟨z,pe.mem_iff.mpr hz,rfl⟩;have po:=pok.ok _ mem;have r:=((xe5 g.tx).mp o1).1;exact⟨po.nm,xse pok.nn mem,by show (1:Int)<=(s.1:Int)+1; omega,by show (s.1:Int)+1<=_; omega,po.x1,po.x2,po.y1,po.y2⟩
 .rw [Z3];have e:(outs w G).Pairwise fun a b=>xa5 a≠xa5 b:=by
   refine xe8 (xiv G _) fun a b ha hb z=>?_;unfold outP at ha hb;exact xme (Zs _ _▸ha).1 (Zs _ _▸hb).1 z
  exact (pf.map _).nodup_iff.mpr (xie (f:=fun s=>(toPr w G s).2) e fun _ _ z=>z)
 .rw [Za,pf.length_eq];have z:=xow ou fun x hx=>by
   obtain⟨s,hs,rfl⟩:=Zh.mp hx;exact g.ou2 s hs
  rw[Za,Za] at z;omega
 .rw [Z3];have e:((outs w G).map fun s=>(toPr w G s).1.nm)=((outs w G).map fun s=>s.2.2).map fun c=>ofL [c]:=by
   rw[Z3];refine Qg fun s hs=>?_;obtain⟨_,_,_,z,_,ez,et⟩:=xdt g hs;rw[et];show ofL [z.2.2]=ofL [s.2.2];rw[ez]
  refine (pf.map _).nodup_iff.mpr ?_;show ((outs w G).map fun s=>(toPr w G s).1.nm).Nodup;rw[e];exact Drw.nd_map (fun a b e=>xcd e) ou
theorem xqo {w:Int}{ps:List Pt}{ss:List Seat}{prs:List Pr} (h1:∀ p∈ps,isNm p.nm=true) (h2:∀ p∈prs,isNm p.1.nm=true):One (xdi w ps ss prs):=by
 have no:∀(c:Cl) (s:Str),(Drw.no:Cl->Option Str) c=some s->s.length=1:=fun _ _ e=>nomatch e;have nl:∀ s:Str,isNm s=true->s.length=1:=fun s h=>by
  unfold isNm at h;exact of_decide_eq_true (Zs _ _▸h).1
 have n1:=xbo (P:=fun s=>s.length=1) (L:=xb3 w ss) no (fun x hx=>by
  obtain⟨z,_,rfl⟩:=Zh.mp hx;show (Zb ".").length=1;decide +kernel)
 have n2:=xbo (P:=fun s=>s.length=1) (L:=xbq w prs) n1 (fun x hx=>by
  obtain⟨z,hz,rfl⟩:=Zh.mp hx;exact nl _ (h2 z hz))
 have n3:=xd3 (P:=fun s=>s.length=1) (hs:=hsS) (by unfold hsS; decide +kernel) (L:=prs.flatMap (ledS w)) no (fun x hx=>by
  obtain⟨p,_,hx⟩:=YV.mp hx;obtain⟨c,_,rfl⟩:=Zh.mp hx;show (lsS p.1.x p.2.2 c).length=1;unfold lsS Drw.ls;split
  .decide +kernel
  .split<;>decide +kernel)
 intro c s e;refine xbo (P:=fun s=>s.length=1) (L:=ptsS ps) (fun c s e=>?_) (fun x hx=>by
  obtain⟨z,hz,rfl⟩:=Zh.mp hx;exact nl _ (h1 z hz)) c s e
 cases e1:Drw.sets (Drw.sets Drw.no (xb3 w ss)) (xbq w prs) c with
 | some y =>
  rw[e1] at e;cases e;exact n2 c _ e1
 | none =>
  rw[e1,Option.none_or] at e;exact n3 c s e
structure xj9 (t:Adr) (H:Hp) (q b dp do_ lp:Addr) (ts:List Addr) (w:Nat) (G:List (List Nat)) (es fs:List Sg):Prop where
 pe:es.Perm (inns w G)
 le:es.Pairwise nmLt
 pf:fs.Perm (outs w G)
 lf:fs.Pairwise nmLt
 q:H q=some (.tup [.ref b,.ref lp])
 dr:Dr t H b dp do_ w G.length (es.map (toPt G.length)) (rimS w G) (srtS w G)
 lp:H lp=some (.lst (ts.map V.ref))
 pr:PrsL H (fs.map (toPr w G)) ts
theorem PrsL.pick {H:Hp}:∀{ps:List Pr}{ys:List V},ys.length=ps.length->(∀(j:Nat) (y:V) (p:Pr),ys[j]?=some y->ps[j]?=some p->∃ q,y=.ref q/\H q=some (.tup (prV p)))->∃ rs:List Addr,ys=rs.map V.ref/\PrsL H ps rs
 | [],[],_,_=>⟨[],rfl,.nil⟩
 | [],_::_,h,_=>by cases h
 | _::_,[],h,_=>by cases h
 | s::ss,y::ys,h,k=>by
  obtain⟨q,e,hq⟩:=k 0 y s rfl rfl;obtain⟨rs,e2,r⟩:=PrsL.pick (ps:=ss) (ys:=ys) (by simpa using h) fun j y s h1 h2=>k (j+1) y s (by simpa using h1) (by simpa using h2)
  exact⟨q::rs,by rw[e,e2]; rfl,.cons hq r⟩
def xb1 (s:Str):Nat:=s.cps.toList.headD 32
theorem xq3 {s:Str} (h:s.length=1):s=ofL [xb1 s]:=by
 apply xds;unfold xb1;rw[xah];have l2:s.cps.toList.length=1:=by simpa [YU] using h
 cases e:s.cps.toList with
 | nil=>rw[e] at l2; cases l2
 | cons x r =>
  rw[e] at l2;have:r=[]:=by simpa using l2
  rw[this];rfl
theorem xi7 {s:Str} (h:isNm s=true):s=ofL [xb1 s]/\nmC (xb1 s)=true:=by
 have l:s.length=1:=by
  have h2:=h;unfold isNm at h2;exact of_decide_eq_true (Zs _ _▸h2).1
 have e:=xq3 l;refine⟨e,?_⟩;rw[<- xhz,<- e];exact h
theorem xk6 (c:Nat):xb1 (ofL [c])=c:=by
 unfold xb1;rw[xah];rfl
theorem xjh {P:Str->Prop}{w:Int}{ps:List Pt}{ss:List Seat}{prs:List Pr} (k:P (Zb "#")/\P (Zb ".")/\P (Zb "|")/\P (Zb "+")/\P (Zb "-")) (kn:∀ s,isNm s=true->P s) (h1:∀ p∈ps,isNm p.nm=true) (h2:∀ p∈prs,isNm p.1.nm=true):∀ c s,xaz w ps ss prs c=some s->P s:=by
 have no:∀(c:Cl) (s:Str),(Drw.no:Cl->Option Str) c=some s->P s:=fun _ _ e=>nomatch e;have n3:=xd3 (P:=P) (hs:=hsS) k.1 (L:=prs.flatMap (xbg w)) no (fun x hx=>by
  obtain⟨p,_,hx⟩:=YV.mp hx;unfold xbg Drw.ledL at hx;rcases Z9.mp hx with hx|hx
  .rcases Z9.mp hx with hx|hx
   .obtain ⟨c,_,rfl⟩:=Zh.mp hx;exact k.2.2.1
   .split at hx
    .rw [Z6.mp hx];exact k.2.2.2.1
    .exact nomatch hx
  .obtain ⟨c,_,rfl⟩:=Zh.mp hx;exact k.2.2.2.2)
 have n4:=xbo (P:=P) (L:=ptsS ps) n3 (fun x hx=>by
  obtain⟨z,hz,rfl⟩:=Zh.mp hx;exact kn _ (h1 z hz))
 have n5:=xbo (P:=P) (L:=xb3 w ss) n4 (fun x hx=>by
  obtain⟨z,_,rfl⟩:=Zh.mp hx;exact k.2.1)
 exact xbo (P:=P) (L:=xbq w prs) n5 (fun x hx=>by
  obtain⟨z,hz,rfl⟩:=Zh.mp hx;exact kn _ (h2 z hz))
structure Pict (w h:Nat) (ps:List Pt) (ss:List Seat) (prs:List Pr):Prop where
 w1:1<=w
 w2:w<=30
 h1:1<=h
 h2:h<=16
 pok:xfm (w:Int) (h:Int) ps
 sok:SsOk (h:Int) ss
 pal:xga (w:Int) (h:Int) ps prs
section
variable {w h:Nat}{ps:List Pt}{ss:List Seat}{prs:List Pr}
theorem Pict.nms (o:Pict w h ps ss prs):∀ p∈ps,isNm p.nm=true:=fun p hp=>(o.pok.ok p hp).nm
theorem Pict.nmr (o:Pict w h ps ss prs):∀ p∈prs,isNm p.1.nm=true:=fun p hp=>(o.pal.ok p hp).nm
theorem Pict.one (o:Pict w h ps ss prs):One (xaz w ps ss prs):=xjh (P:=fun s=>s.length=1) (by decide +kernel) (fun s hs=>by
    unfold isNm at hs;exact of_decide_eq_true (Zs _ _▸hs).1) o.nms o.nmr
theorem xk5 {c:Nat} (h:nmC c=true):97<=c/\c<=122:=by
 unfold nmC at h;simpa using h
theorem Pict.asc (o:Pict w h ps ss prs) (c:Cl):cd (xaz w ps ss prs) c<128:=by
 have kn:∀ s,isNm s=true->xb1 s<128:=fun s hs=>by
  have:=xk5 (xi7 hs).2;omega
 have all:=xjh (P:=fun s=>xb1 s<128) (w:=w) (ss:=ss) (by decide +kernel) kn o.nms o.nmr;unfold cd;cases e:xaz w ps ss prs c with
 | none =>
  show 32<128;decide
 | some s=>exact all c s e
theorem xuh (nx:(ps.map (·.x)).Nodup):((ptsS ps).map (·.1)).Nodup:=by
 unfold ptsS;rw[Z3];rw[Yu,ZB] at nx ⊢;exact nx.imp fun ne e=>ne (JJ.inj e).1
abbrev xlc (w h:Nat) (ps:List Pt) (ss:List Seat) (prs:List Pr):List (List Nat):=xhs w h (xaz w ps ss prs)
theorem xkz (w h:Nat) (m:Cl->Option Str):(xhs w h m).length=h:=by
 unfold xhs;rw[Za,Zr]
theorem Pict.tx (o:Pict w h ps ss prs):Txs (w+2) (xlc w h ps ss prs):=by
 have h1:=o.h1;have h2:=o.h2;have w1:=o.w1;have w2:=o.w2;refine⟨by rw[xkz]; exact h1,by rw[xkz]; exact h2,fun r hr=>?_,fun r hr c hc=>?_,by omega,by omega⟩
 .obtain ⟨i,_,rfl⟩:=Zh.mp hr;unfold rowC;rw[Za,Zr]
 .obtain ⟨i,_,rfl⟩:=Zh.mp hr;obtain⟨j,_,rfl⟩:=Zh.mp hc;exact o.asc _
end
def fr (h:Nat) (p:Pt):Pt:=⟨p.nm,p.x,p.y, "both",1,(h:Int)⟩
def prK (p:Pr):List Key:=[.inr p.1.nm,.inr (xax p.2.1),.inl p.2.2]
theorem xmt {α β:Type}:∀{as:List α}{bs:List β}{i:Nat}{a:α}{b:β},as[i]?=some a->bs[i]?=some b->(as.zip bs)[i]?=some (a,b)
 | [],_,_,_,_,h,_=>by simp at h
 | _::_,[],_,_,_,_,h=>by simp at h
 | x::as,y::bs,0,a,b,h1,h2=>by
  simp at h1 h2;subst h1 h2;rfl
 | x::as,y::bs,i+1,a,b,h1,h2=>xmt (as:=as) (bs:=bs) (i:=i) (by simpa using h1) (by simpa using h2)
theorem xl6 {α β:Type}:∀{as:List α}{bs:List β},bs.length=as.length->(as.zip bs).map (·.2)=bs
 | [],[],_=>rfl
 | [],_::_,h=>by cases h
 | _::_,[],h=>by cases h
 | x::as,y::bs,h=>by
  rw[List.zip_cons_cons,Zu,xl6 (by simpa using h)]
theorem xiq {α β:Type}:∀{as:List α}{bs:List β},bs.length=as.length->(as.zip bs).map (·.1)=as
 | [],[],_=>rfl
 | [],_::_,h=>by cases h
 | _::_,[],h=>by cases h
 | x::as,y::bs,h=>by
  rw[List.zip_cons_cons,Zu,xiq (by simpa using h)]
theorem xoq {α:Type}{H:Hp}{d:Addr}{as:List α}{qs:List Addr}{f:α->List V}{kf:α->List Key}{nm:α->Str}{sh:List Bool} (ln:qs.length=as.length) (l64:as.length<64) (hd:H d=some (.lst (qs.map V.ref))) (tp:∀(i:Nat) (q:Addr),qs[i]?=some q->∃ a,as[i]?=some a/\H q=some (.tup (f a)))
    (hf:∀ a,f a=(kf a).map kV) (hn:∀ a,∃ r,kf a=.inr (nm a)::r) (hs:∀ a∈as,shp (kf a)=sh) (h0:0<sh.length) (nd:(as.map nm).Nodup) {Q:VK}
    (fin:∀(l:Addr) (bs:List α) (us:List Addr),H l=none->bs.Perm as->us.length=bs.length->(∀(i:Nat) (q:Addr),us[i]?=some q->∃ a,bs[i]?=some a/\H q=some (.tup (f a)))->bs.Pairwise (fun a b=>(nm a).cps.toList<(nm b).cps.toList)->Q (.ref l) (upd H l (.lst (us.map V.ref)))):xfn [.ref d] H Q:=by
  have inj:(as.map kf).Nodup:=by
    rw[Yu,ZB] at nd ⊢;refine nd.imp fun {a b} ne e=>ne ?_;obtain⟨r,er⟩:=hn a;obtain⟨r',er'⟩:=hn b;rw[er,er'] at e;exact Jl.inj (JV.inj e).1
  have zl:(as.zip qs).length=as.length:=by rw[List.length_zip,ln,Nat.min_self]
  have mem:∀ x∈as.zip qs,x.1∈as/\H x.2=some (.tup (f x.1)):=fun x hx=>by
    obtain⟨i,hi⟩:=JU.mp hx;have l:i<as.length:=by
      have:=(Zf.mp hi).1;omega
    have hq:qs[i]?=some qs[i]:=Zg (by omega);obtain⟨a,ha,e⟩:=tp i _ hq;rw[xmt ha hq] at hi;cases hi;exact⟨Zk ha,e⟩
  refine⟨d,(as.zip qs).map fun x=>(kf x.1,x.2),sh,rfl,?_,by rw[Za,zl]; exact l64,fun z hz=>?_,fun z hz=>?_,h0,?_,fun l ts hl pm lx=>?_⟩
  . rw[hd,Z3]
    have e:=xl6 (as:=as) (bs:=qs) ln
    congr 2
    conv=>lhs; rw[<- e]
    rw[Z3];rfl
  . obtain⟨x,hx,rfl⟩:=Zh.mp hz
    rw[(mem x hx).2,hf]
  . obtain⟨x,hx,rfl⟩:=Zh.mp hz
    exact hs _ (mem x hx).1
  . rw[Z3]
    have e:=congrArg (List.map kf) (xiq (as:=as) (bs:=qs) ln);rw[Z3] at e;show ((as.zip qs).map (kf∘fun x=>x.1)).Nodup;rw[e];exact inj
  . obtain⟨zs,pz,rfl⟩:=xet pm rfl
    have pb:=pz.map (·.1);rw[xiq ln] at pb;have z:=fin l (zs.map (·.1)) (zs.map (·.2)) hl pb (by rw[Za,Za]) (fun i q e=>by
      rw[Ze,Zj] at e;obtain⟨x,hx,rfl⟩:=e;exact⟨x.1,by rw[Ze,hx]; rfl,(mem x (pz.mem_iff.mp (Zk hx))).2⟩) (by
      have nb:((zs.map (·.1)).map nm).Nodup:=(pb.map nm).nodup_iff.mpr nd;rw[Z3] at lx;rw[ZB] at lx;rw[Yu,ZB,ZB] at nb;rw[ZB];refine (lx.and nb).imp fun {a b} y=>?_;obtain⟨y1,y2⟩:=y;obtain⟨r,er⟩:=hn a.1;obtain⟨r',er'⟩:=hn b.1;have y1:lexK (kf a.1) (kf b.1)=true:=y1;rw[er,er'] at y1;unfold lexK at y1;rw[if_neg (fun e=>y2 (Jl.inj e))] at y1;exact of_decide_eq_true y1)
    rw[Z3] at z ⊢;exact z
theorem xs6 {s t:Str} (hs:isNm s=true) (ht:isNm t=true) (h:s.cps.toList<t.cps.toList):xb1 s<xb1 t:=by
 rw[(xi7 hs).1,(xi7 ht).1,xah,xah,lt1] at h;exact h
inductive xsy (t:Adr) (vs:List V) (H:Hp) (Q:VK) (E:XK):Prop
 | mk (a o i:Addr) (lc:Nat) (os is:List Sg) (s:Sg) (e_:vs=[.ref a,.int (s.1:Int),.int (s.2.1:Int),sgn s.2.2]) (r_:Let t H a o i lc os is/\is.length<=600/\mayB lc os is s=false/\∀ er,er=Er.badDrawing (.int (s.1:Int)) (.int (s.2.1:Int))->∀ e H',xbw t H H' e er->E e t.C_b H')
inductive xp6 (t:Adr) (vs:List V) (H:Hp) (Q:VK) (E:XK):Prop
 | mk (l d:Addr) (w:Nat) (G:List (List Nat)) (m:Cl->Option Str) (e_:vs=[.ref l,.ref d]) (r_:H l=some (.lst (GV G))/\Txs (w+2) G/\H d=some (.lst (xcq w G.length m))/\One m/\(∀(k:Nat) (s:Sg),(∀(k':Nat) (s':Sg),k'<k->(sgs G)[k']?=some s'->cd m ((s'.2.1:Int),1+(s'.1:Int))=s'.2.2)->(sgs G)[k]?=some s->cd m ((s.2.1:Int),1+(s.1:Int))≠s.2.2->∀ er,er=Er.badDrawing (.int (s.1:Int)) (.int (s.2.1:Int))->∀ e H',xbw t H H' e er->E e t.C_b H')/\((∀ s∈sgs G,cd m ((s.2.1:Int),1+(s.1:Int))=s.2.2)->∀ H',Same H H'->Q .non H'))
theorem okT_v (T:Txt w K mg t):FnOk true P w K mg base (CXo P w) 3 t.f_v t.d_v ["self", "row", "column", "sign"] (xsy t):=by
 refine T.F_v.okx (k:=2) sc_v (fun vs H Q E h=>?_) (fun cdv A outer s H vs Q E hr h=>?_)
 .obtain ⟨a,o,i,lc,os,is,s,rfl,_⟩:=h;rfl
 .obtain ⟨a,o,i,lc,os,is,s,rfl,h⟩:=h;refine⟨_,xj (xad (xbn (xay (xa0 (pv 0) T.c_u T.m_h (ok_h T) (hmm hr) T.b_h .nil xbd.pass (xb (pv 1) (xb (pv 2) (xb (pv 3) (xf))))))) (xk (xg7 (hr.hd rfl) xbd (xhk T.k_b (ok_o T) (hmm hr) rfl T.g_b T.b_o .nil (xb (pv 1) (xb (pv 2) (xf)))))) (x4))
   (xk (xad (xay (xr (okD_ar T) (hmm hr) rfl T.g_ar T.F_ar.kp T.b_ar .nil xbd.pass (xb (pv 3) (xf)))) (xj (xv (i:=4) sc_v.nd rfl (Zn rfl) (xc9 (xay (xa0 (pv 0) T.c_u T.m_l (ok_l T) (hmm hr) T.b_l .nil xbd.pass (xb (pv 2) (xf)))) (xae (pv 0) rfl) (xae (pv 0) rfl)))
   (xk (xbv (xag hr) (pv 4) (pv 3) (x9 (xb (pv 1) (xb (pv 2) (xf)))) rfl))) (x4))),?_⟩
  obtain⟨lt,i6,my,hE⟩:=h;obtain⟨⟨dx,ins⟩,_⟩:=id lt;refine⟨_,rfl,a,dx,_,rfl,ins,xfq (by decide +kernel),_,rfl,_,rfl,_,rfl,a,o,i,lc,os,is,s,rfl,lt,i6,fun H1 s1=>⟨_,rfl,ifP (by rw[my]; rfl) ?_⟩⟩;exact⟨_,rfl,_,rfl,(by show 2<=1000; decide),fun e he=>⟨e,_,_,rfl,xh,fun dx hdx=>⟨rfl,e,t.C_b,some dx,rfl,xi0 hdx,T.mk_b,hE (.badDrawing _ _) (rfl) e _ (xbw.pre s1 (xip rfl rfl he hdx))⟩⟩⟩
theorem okT_ag (T:Txt w K mg t):FnOk true P w K mg base (CXo P w) 3 t.f_ag t.d_ag ["rows", "drawing"] (xp6 t):=by
 refine T.F_ag.okx (k:=2) sc_ag (fun vs H Q E h=>?_) (fun cdv A outer s H vs Q E hr h=>?_)
 .obtain ⟨l,d,w',G,m,rfl,_⟩:=h;rfl
 .obtain ⟨l,d,w',G,m,rfl,h⟩:=h;refine⟨_,xk (xar PassesOwn.leaving rfl (xas (xr (ok_ay T) (hmm hr) rfl T.g_ay T.F_ay.kp T.b_ay .nil xbd.pass (xb (pv 0) (xf)))) (xaf rfl (xq (xp (i:=2) sc_ag.nd rfl (Zn rfl)) (xq (xp (i:=3) sc_ag.nd rfl (Zn rfl)) (xq (xp (i:=4) sc_ag.nd rfl (Zn rfl)) (xab))))) (xk (xad (x6 xd7 (pv 4) (xaj xfv (xaj xbp (pv 1) (pv 2) (fun _ _=>rfl)) (pv 3) (fun _ _=>rfl)) (x8 _)) (xk (xg7 (hr.hd rfl) xbd (xhk T.k_b (ok_o T) (hmm hr) rfl T.g_b T.b_o .nil (xb (pv 2) (xb (pv 3) (xf)))))) (x4)))),?_⟩;obtain⟨hl,o,hd,o1,hE,q⟩:=h;have h2:=o.h2;have w2:=o.w2;refine⟨_,rfl,l,w'+2,G,rfl,hl,o,fun H1 l1 qs s1 f1 e1 tl1=>⟨l1,rfl,⟨_,SqL.of e1⟩,?_⟩⟩;have qll:=tl1.1;refine xa9 (xs:=qs.map V.ref) (Pv:=fun i Z H5=>∃(v2 v3 v4:Option V),Z=[some (.ref l),some (.ref d),v2,v3,v4]/\H5=H1/\∀ k s,k<i->(sgs G)[k]?=some s->cd m ((s.2.1:Int),1+(s.1:Int))=s.2.2) ⟨_,_,_,rfl,rfl,fun k s z=>absurd z (by omega)⟩ ?_ ?_ ?_
  .rintro i Z H5 _ ⟨_,_,_,rfl,rfl,_⟩;exact SqL.of e1
  .rintro i x Z H5 hx ⟨v2,v3,v4,rfl,rfl,all⟩;rw[Ze,Zj] at hx;obtain⟨qa,hqa,rfl⟩:=hx;obtain⟨s,hs,hq⟩:=tl1.get hqa;have ms:=Zk hs;obtain⟨r1,r2,r3⟩:=(xe5 o).mp ms;refine⟨qa,_,rfl,SqT.of hq,rfl,_,_,rfl,_,_,rfl,_,_,rfl,rfl,?_⟩;have rt:=xio o1 w' (1+(s.1:Int));refine⟨_,rfl,_,rfl,_,rfl,d,_,_,.str (rowT w' (1+(s.1:Int)) m),rfl,rfl,SqL.of (s1 _ _ hd),?_,_,rfl,_,_,cd m ((s.2.1:Int),1+(s.1:Int)),rfl,rfl,?_,?_,rfl,_,rfl,ite2 (fun c=>?_) (fun c=>?_)⟩
   .refine xba ?_;unfold xcq;rw[Ze,Jj r1];rfl
   .rw [rt,xau];unfold rowC;rw[Za,Zr];exact xb5 (by omega)
   .rw [rt,xah];refine xba ?_;unfold rowC;rw[Ze,Jj r2];rfl
   .have ne:cd m ((s.2.1:Int),1+(s.1:Int))≠s.2.2:=fun z=>by
     rw[z] at c;simp[sgn] at c
    have hE:=hE i s all hs ne;exact⟨_,rfl,_,rfl,(by show 2<=1000; decide),fun e he=>⟨e,_,_,rfl,xh,fun dx hdx=>⟨rfl,e,t.C_b,some dx,rfl,xi0 hdx,T.mk_b,hE (.badDrawing _ _) (rfl) e _ (xbw.pre s1 (xip rfl rfl he hdx))⟩⟩⟩
   .have eq:cd m ((s.2.1:Int),1+(s.1:Int))=s.2.2:=by
     by_cases z:cd m ((s.2.1:Int),1+(s.1:Int))=s.2.2
     .exact z
     .have y:¬ sgn s.2.2=V.str ⟨#[cd m ((s.2.1:Int),1+(s.1:Int))]⟩:=fun y=>z (xcd (V.str.inj y)).symm;exact absurd (by rw[decide_eq_false y]; rfl) c
    refine⟨_,_,_,rfl,rfl,fun k s' hk hs'=>?_⟩;by_cases z:k=i
    .subst z;rw[hs] at hs';cases hs';exact eq
    .exact all k s' (by omega) hs'
  .rintro Z H5 ⟨v2,v3,v4,rfl,rfl,all⟩;refine q (fun s hs=>?_) _ s1;obtain⟨k,hk⟩:=JU.mp hs;exact all k s (by rw[Za,qll]; exact (Zf.mp hk).1) hk
theorem xc0 {α:Type}{l:List α}{k:Nat}{x:α} (h:l[k]?=some x) {p:α->Bool}:((l.take (k+1)).filter p=(l.take k).filter p++[x]/\p x=true)\/((l.take (k+1)).filter p=(l.take k).filter p/\p x=false):=by
 rw[xgd h];cases e:p x with
 | true=>exact .inl ⟨rfl,rfl⟩
 | false=>exact .inr ⟨rfl,rfl⟩
theorem xtk {lc:Nat}{os is:List Sg}{s:Sg} (h:mayB lc os is s=true) (p:outP lc s=true):s.2.2∉os.map fun s=>s.2.2:=by
 unfold outP at p;obtain⟨r,n⟩:=Zs _ _▸p;unfold mayB at h;have b:=xk5 n;rw[if_pos r,decide_eq_false (by omega),decide_eq_false (by omega),n,Yc,Yo,Jq] at h;exact of_decide_eq_true h
theorem xl2 {lc:Nat}{os is:List Sg}{s:Sg} (h:mayB lc os is s=true) (p:innP lc s=true):(∀ a∈is,InNe a s)/\is.length<12:=by
 unfold innP at p;obtain⟨r,n⟩:=Zs _ _▸p;have r:rimB lc s.2.1=false:=by simpa using r
 have b:=xk5 n;unfold mayB at h;rw[if_neg (by rw[r]; decide),n,Jq] at h;have lie:lieB is s.1 s.2.1 s.2.2=true:=by
  rcases JY _ _▸h with z|z
  .have z:s.2.2=32\/s.2.2=124\/s.2.2=45\/s.2.2=43\/s.2.2=35:=by simpa using Yq.mp z
   omega
  .exact z
 unfold lieB at lie;obtain⟨l1,l23⟩:=Zs _ _▸lie;obtain⟨l2,l3⟩:=Zs _ _▸l23;refine⟨fun a ha=>⟨fun z=>of_decide_eq_true l1 (z▸Zh.mpr ⟨a,ha,rfl⟩),?_,?_⟩,of_decide_eq_true l3⟩
 .intro z
  have:=Yk.mp (of_decide_eq_true l2) a ha;exact this (by rw[decide_eq_true z]; rfl)
 .intro z
  have:=Yk.mp (of_decide_eq_true l2) a ha;exact this (by rw[decide_eq_true z,JF])
abbrev xc4 (w:Nat) (G:List (List Nat)) (n:Nat):Prop:=∀ k s,k<n->(sgs G)[k]?=some s->mayB (w+1) (((sgs G).take k).filter (outP (w+1))) (((sgs G).take k).filter (innP (w+1))) s=true
theorem xir {w:Nat}{G:List (List Nat)}:∀ n,n<=(sgs G).length->xc4 w G n->(((sgs G).take n).filter (innP (w+1))).Pairwise InNe/\(((sgs G).take n).filter (innP (w+1))).length<=12/\((((sgs G).take n).filter (outP (w+1))).map fun s=>s.2.2).Nodup
 | 0,_,_=>⟨.nil,ZZ _,QZ⟩
 | n+1,h,am=>by
  obtain⟨s,hs⟩:∃ s,(sgs G)[n]?=some s:=⟨_,Zg h⟩
  obtain⟨i1,i2,i3⟩:=xir n (by omega) fun k s hk=>am k s (by omega)
  have my:=am n s (by omega) hs;refine⟨?_,?_,?_⟩
  .rcases xc0 hs (p:=innP (w+1)) with⟨e,p⟩|⟨e,p⟩
   .rw [e,Yb];refine⟨i1,Q2 _ _,fun a ha b hb=>?_⟩;rw[Z6.mp hb];exact (xl2 my p).1 a ha
   .rw [e];exact i1
  .rcases xc0 hs (p:=innP (w+1)) with⟨e,p⟩|⟨e,p⟩
   .rw [e,Zp,Jc];have:=(xl2 my p).2;omega
   .rw [e];exact i2
  .rcases xc0 hs (p:=outP (w+1)) with⟨e,p⟩|⟨e,p⟩
   .rw [e,Z4];refine Ja.mpr ⟨i3,by simp,fun a ha b hb z=>xtk my p ?_⟩;have hb:b=s.2.2:=by simpa using hb
    rw[<- hb,<- z];exact ha
   .rw [e];exact i3
theorem xmp {w:Nat}{G:List (List Nat)} (tx:Txs (w+2) G) (am:xc4 w G (sgs G).length) (ou:∀ s∈outs w G,s.2.2∈(inns w G).map fun s=>s.2.2):xce w G:=by
 obtain⟨a,b,c⟩:=xir _ (Zl _) am;rw[Jz] at a b c;refine⟨tx,fun s hs n=>?_,a,b,c,ou⟩;obtain⟨k,hk⟩:=JU.mp hs;have my:=am k s (Zf.mp hk).1 hk;unfold mayB at my;by_cases r:rimB (w+1) s.2.1=true
 .rw [if_pos r,n,Jv,Yc] at my;rw[if_pos r];simpa using my
 .rw [if_neg r,n,Jv,Yc] at my;rw[if_neg r];exact Yq.mp my
structure xkl (t:Adr) (H:Hp) (q b dp do_ lp:Addr) (ts:List Addr) (w:Nat) (G:List (List Nat)) (es fs:List Sg):Prop where
 sn:xj9 t H q b dp do_ lp ts w G es fs
 g:xce w G
 al:∀ s∈sgs G,cd (xdi w (es.map (toPt G.length)) (srtS w G) (fs.map (toPr w G))) ((s.2.1:Int),1+(s.1:Int))=s.2.2
inductive xby (w:Nat) (G:List (List Nat)):Nat->Nat->Prop
 | may (k:Nat) (s:Sg):xc4 w G k->(sgs G)[k]?=some s->mayB (w+1) (((sgs G).take k).filter (outP (w+1))) (((sgs G).take k).filter (innP (w+1))) s=false->xby w G s.1 s.2.1
 | out (n:Nat) (s:Sg):xc4 w G (sgs G).length->(outs w G)[n]?=some s->(∀(n':Nat) (s':Sg),n'<n->(outs w G)[n']?=some s'->s'.2.2∈(inns w G).map fun s=>s.2.2)->s.2.2∉(inns w G).map (fun s=>s.2.2)->xby w G s.1 s.2.1
 | draw (k:Nat) (s:Sg) (es fs:List Sg):xce w G->es.Perm (inns w G)->fs.Perm (outs w G)->(∀(k':Nat) (s':Sg),k'<k->(sgs G)[k']?=some s'->cd (xdi w (es.map (toPt G.length)) (srtS w G) (fs.map (toPr w G))) ((s'.2.1:Int),1+(s'.1:Int))=s'.2.2)->(sgs G)[k]?=some s->cd (xdi w (es.map (toPt G.length)) (srtS w G) (fs.map (toPr w G))) ((s.2.1:Int),1+(s.1:Int))≠s.2.2->xby w G s.1 s.2.1
inductive xth (t:Adr) (vs:List V) (H:Hp) (Q:VK) (E:XK):Prop
 | mk (l:Addr) (w:Nat) (G:List (List Nat)) (e_:vs=[.ref l]) (r_:H l=some (.lst (GV G))/\Txs (w+2) G/\(∀(i j:Nat),xby w G i j->∀ er,er=Er.badDrawing (.int (i:Int)) (.int (j:Int))->∀ e H',xbw t H H' e er->E e t.C_b H')/\∀(H':Hp) (q b dp do_ lp:Addr) (ts:List Addr) (es fs:List Sg),Same H H'->xkl t H' q b dp do_ lp ts w G es fs->Q (.ref q) H')
theorem xp5 (T:Txt w K mg t):FnOk true P w K mg base (CXo P w) 9 t.f_seen t.d_seen ["rows"] (xth t):=by
 refine T.F_seen.okx (k:=8) xdd (fun vs H Q E h=>?_) (fun cdv A outer s H vs Q E hr h=>?_)
 .obtain ⟨l,w',G,rfl,_⟩:=h;rfl
 .obtain ⟨l,w',G,rfl,h⟩:=h;refine⟨_,xj (xa6 (xr (ok_at T) (hmm hr) rfl T.g_at T.F_at.kp T.b_at .nil xbd.pass (xb (pv 0) (xf))))
   (xj (xv (i:=1) xdd.nd rfl (ZX rfl) (xgp T.k_u (ok_an T) (hmm hr) rfl T.g_u T.b_an .nil xbd.pass (xb (xt xdq (x5 xa7 rfl T.n_len Ju (xb (xaj xbp (pv 0) (xm) (fun _ _=>rfl)) (xf))) (xm)) (xf))))
   (xj (xar PassesOwn.leaving rfl (xas (xr (ok_ay T) (hmm hr) rfl T.g_ay T.F_ay.kp T.b_ay .nil xbd.pass (xb (pv 0) (xf)))) (xaf rfl (xq (xp (i:=2) xdd.nd rfl (Zn rfl)) (xq (xp (i:=3) xdd.nd rfl (Zn rfl)) (xq (xp (i:=4) xdd.nd rfl (Zn rfl)) (xab))))) (xk (xa6 (xa0 (pv 1) T.c_u T.m_v ((ok_v T).or (okT_v T)) (hmm hr) T.b_v .nil xbd.pass (xb (pv 2) (xb (pv 3) (xb (pv 4) (xf))))))))
   (xj (xd9 (xar PassesOwn.leaving rfl (xc8 (xae (pv 1) rfl)) (xaf rfl (xq (xp (i:=5) xdd.nd rfl (Zn rfl)) (xq (xp (i:=6) xdd.nd rfl (Zn rfl)) (xab)))) (xk (xad (xdg (xde (xag hr) (pv 5) (xae (pv 1) rfl))) (xk (xg7 (hr.hd rfl) xbd (xhk T.k_b (ok_o T) (hmm hr) rfl T.g_b T.b_o .nil (xb (xaj xa4 (pv 6) (xm) (fun _ _=>rfl)) (xb (xaj xa4 (pv 6) (xm) (fun _ _=>rfl)) (xf)))))) (x4)))))
   (xj (xv (i:=7) xdd.nd rfl (Zn rfl) (xr (ok_al T) (hmm hr) rfl T.g_al T.F_al.kp T.b_al .nil xbd.pass (xb (pv 0) (xb (pv 1) (xf)))))
   (xj (xbu rfl (xaw (zs:=["name"]) (ys:=["letters"]) (fr:=[1]) (N0:=["rows", "letters", "row", "column", "sign", "name", "place", "picture", "pairs"]) (sc0:=xo xin) (by decide +kernel) rfl rfl rfl) (xas (x5 (xeh rfl) rfl T.n_sorted PyProof.Rows.Boot.«sorted» (xb (xae (pv 1) rfl) (xf)))) (fun _ _ _ _ _ ow nd=>xp (i:=0) nd rfl (Zn (ow _ (by simp))) (ZX (ow _ (by simp)))) (xbj (by decide)) (fun _ _ _ _ _=>xbf) (fun _ _ _ _ _=>xt (r:=xna K) xl3 (x9 (xb (pv 0) (xf))) (xr (ok_a9 T) (hmm hr) rfl T.g_a9 T.F_a9.kp T.b_a9 .nil xn (xb (xa1 (xag hr) ((xae (pv 1) rfl:PE _ _ (tFld K _ _))) (pv 0) (fun _ _=>rfl)) (xf)))) (j:=8) rfl (Zn rfl))
   (xj (xa6 (xr (okT_ag T) (hmm hr) rfl T.g_ag T.F_ag.kp T.b_ag .nil xbd.pass (xb (pv 0) (xb (xr (xra T) (hmm hr) rfl T.g_drawn T.F_drawn.kp T.b_drawn .nil xbd.pass (xb (pv 7) (xb (pv 8) (xf)))) (xf)))))
   (xk (xz (x9 (xb (pv 7) (xb (pv 8) (xf)))))))))))),?_⟩
  obtain⟨hl,tx,hB,q⟩:=h;have h1:=tx.h1;have h2:=tx.h2;have w1:=tx.w1;have w2:=tx.w2;have gl:=xb0 G;obtain⟨r0,hr0⟩:∃ r,G[0]?=some r:=⟨_,Zg h1⟩
  have l0:=tx.wd r0 (Zk hr0);refine⟨_,rfl,l,w'+2,G,rfl,hl,tx,fun H1 s1=>?_⟩;have hl1:=s1 _ _ hl;refine⟨_,rfl,l,_,0,.str (ofL r0),rfl,rfl,SqL.of hl1,?_,_,rfl,?_,_,_,rfl,rfl,fun a dx ha hdx ne=>?_⟩
  .show atI (GV G) ((0:Nat):Int)=_;exact xba (xel hr0)
  .rw [xau,l0];exact xb5 (by omega)
  refine⟨a,dx,w'+1,?_,xh,fun H2 o i ho hi k2 lt2=>⟨rfl,?_⟩⟩
  .show [V.ref a,V.int (((ofL r0).length:Int)-1)]=[V.ref a,V.int ((w'+1:Nat):Int)]
   rw[xau,l0,show ((w'+2:Nat):Int)-1=((w'+1:Nat):Int) by omega]
  have up:∀ b,upd (upd H1 dx (.own a)) a (.ins t.C_u dx []) b=none->H b=none:=fun b z=>by
   cases e:H b with
   | none=>rfl
   | some u =>
    have e1:=s1 _ _ e;rw[xg (xi e1 ha),xg (xi e1 hdx),e1] at z;cases z
  have fo:=up _ ho;have fi:=up _ hi;have s2:Same H H2:=fun b u e=>by
   have e1:=s1 _ _ e;exact k2 b u (xi e1 ha) (by rw[xg (xi e1 ha),xg (xi e1 hdx)]; exact e1)
  refine⟨_,rfl,l,w'+2,G,rfl,s2 _ _ hl,tx,fun H3 l3 qs s3 f3 e3 tl3=>⟨l3,rfl,⟨_,SqL.of e3⟩,?_⟩⟩;have qll:=tl3.1;have gll:(sgs G).length<=512:=by
   have e:=xcw tx G.length (Zl _);have b512:G.length*(w'+2)<=16*32:=YJ h2 w2;unfold sgs;omega
  have f3H:=s2.free f3;refine xa9 (xs:=qs.map V.ref) (Pv:=fun k Z H5=>∃(v2 v3 v4:Option V),Z=[some (.ref l),some (.ref a),v2,v3,v4,none,none,none,none]/\Same H H5/\Let t H5 a o i (w'+1) (((sgs G).take k).filter (outP (w'+1))) (((sgs G).take k).filter (innP (w'+1)))/\H5 l3=some (.lst (qs.map V.ref))/\TL sgV H5 (sgs G) qs/\xc4 w' G k) ⟨_,_,_,rfl,s2.trans s3,lt2.same s3,e3,tl3,fun k s z=>absurd z (by omega)⟩ ?_ ?_ ?_
  .rintro k Z H5 _ ⟨_,_,_,rfl,_,_,e5,_⟩;exact SqL.of e5
  .rintro k x Z H5 hx ⟨v2,v3,v4,rfl,s5,lt5,e5,tl5,am5⟩;rw[Ze,Zj] at hx;obtain⟨qa,hqa,rfl⟩:=hx;obtain⟨s,hs,hq⟩:=tl5.get hqa;obtain⟨⟨dx5,ins5⟩,⟨ko,hko,_⟩,⟨ki,hki,_⟩,_⟩:=id lt5;refine⟨qa,_,rfl,SqT.of hq,rfl,_,_,rfl,_,_,rfl,_,_,rfl,rfl,?_⟩;have lf:∀ p:Sg->Bool,(((sgs G).take k).filter p).length<=600:=fun p=>by
    refine Z8 (Yp _ _) ?_;rw[ZP];omega
   obtain⟨r1,r2,_⟩:=(xe5 tx).mp (Zk hs);refine⟨_,rfl,a,dx5,_,rfl,ins5,xfq (by decide +kernel),_,rfl,_,rfl,_,rfl,?_⟩;cases my:mayB (w'+1) (((sgs G).take k).filter (outP (w'+1))) (((sgs G).take k).filter (innP (w'+1))) s with
   | false=>exact .inr ⟨a,o,i,w'+1,_,_,s,rfl,lt5,lf _,my,fun er her e H' ra=>hB s.1 s.2.1 (.may k s am5 hs my) er her e H' (xbw.pre s5 ra)⟩
   | true =>
   refine .inl ⟨a,o,i,w'+1,_,_,s,rfl,lt5,lf _,lf _,my,fun H6 k6 lt6=>?_⟩;have tp:Tups H5 H6:=fun c xs e=>k6 _ _ (ne_f e hko) (ne_f e hki) e;refine⟨_,_,_,rfl,fun b u e=>k6 _ _ (xi e fo) (xi e fi) (s5 _ _ e),?_,k6 _ _ (ne_f e5 hko) (ne_f e5 hki) e5,tl5.keep tp,fun k' s' hk' hs'=>?_⟩
   .rw [xgd hs,xgd hs];exact lt6
   .by_cases z:k'=k
    .subst z;rw[hs] at hs';cases hs';exact my
    .exact am5 k' s' (by omega) hs'
  rintro Z H5 ⟨v2,v3,v4,rfl,s5,lt5,_,_,am⟩;rw[Za,qll] at am;rw[Za,qll,Jz] at lt5;have lt5:Let t H5 a o i (w'+1) (outs w' G) (inns w' G):=lt5;obtain⟨⟨dx5,ins5⟩,⟨ko,hko,ldo⟩,⟨ki,hki,ldi⟩,noi⟩:=id lt5;refine⟨_,rfl,a,_,dx5,_,_,rfl,ins5,T.c_u,T.n_bf,ltO,o,ko,rfl,hko,fun ob nf=>?_⟩;refine xjz (Pv:=fun k Z H6=>∃(v5 v6:Option V),Z=[some (.ref l),some (.ref a),v2,v3,v4,v5,v6,none,none]/\H6 o=some (.frz ob (.dK ko))/\(∀ b u,b≠o->H5 b=some u->H6 b=some u)/\∀ n s,n<k->(outs w' G)[n]?=some s->s.2.2∈(inns w' G).map fun s=>s.2.2) ⟨_,_,rfl,xh,fun b u nb e=>by rw[xg nb]; exact e,fun n s z=>absurd z (by omega)⟩ ?_ ?_ ?_
  .rintro k Z H6 _ ⟨_,_,rfl,e6,_,_⟩;exact e6
  .rintro n k x p Z H6 hx hp ⟨v5,v6,rfl,e6,k6,ou6⟩;obtain⟨s,qa,hs,rfl,rfl,hqa⟩:=ldo.get hx;have k7:∀ b u,b≠o->H5 b=some u->upd H6 p (.tup [kV (.inr (ofL [s.2.2])),.ref qa]) b=some u:=fun b u nb e=>by
    have e':=k6 _ _ nb e;rw[xg (xi e' hp)];exact e'
   have e7:upd H6 p (.tup [kV (.inr (ofL [s.2.2])),.ref qa]) o=some (.frz ob (.dK ko)):=by
    rw[xg (xi e6 hp)];exact e6
   refine⟨p,_,rfl,SqT.of xh,rfl,_,_,rfl,_,_,rfl,rfl,?_⟩;refine⟨_,rfl,_,rfl,a,_,dx5,_,_,rfl,k7 _ _ (ne_f ins5 hko) ins5,T.c_u,T.n_bd,ltI,i,_,rfl,DGet.k (k:=.inr (ofL [s.2.2])) (k7 _ _ (ZE noi) hki),_,rfl,?_⟩;rw[ldi.is];have ms:=Zk hs;obtain⟨r1,r2,_⟩:=(xe5 tx).mp (ZT.mp ms).1;have hqa7:=k7 _ _ (ne_f hqa hko) hqa;have s07:Same H (upd H6 p (.tup [kV (.inr (ofL [s.2.2])),.ref qa])):=fun b u e=>k7 _ _ (xi e fo) (s5 _ _ e);refine ite2 (fun c=>?_) (fun c=>?_)
   .have ni:¬ s.2.2∈(inns w' G).map fun s=>s.2.2:=fun z=>by
     rw[decide_eq_true z] at c;cases c
    have hE:=hB s.1 s.2.1 (.out n s am hs ou6 ni);exact⟨_,rfl,qa,_,0,.int (s.1:Int),rfl,rfl,SqT.of hqa7,rfl,_,rfl,qa,_,1,.int (s.2.1:Int),rfl,rfl,SqT.of hqa7,rfl,(by show 2<=1000; decide),fun e he=>⟨e,_,_,rfl,xh,fun dx hdx=>⟨rfl,e,t.C_b,some dx,rfl,xi0 hdx,T.mk_b,hE (.badDrawing _ _) (rfl) e _ (xbw.pre s07 (xip rfl rfl he hdx))⟩⟩⟩
   .have yi:s.2.2∈(inns w' G).map fun s=>s.2.2:=by
     by_cases z:s.2.2∈(inns w' G).map fun s=>s.2.2
     .exact z
     .exact absurd (by rw[decide_eq_false z]; rfl) c
    refine⟨_,_,rfl,e7,k7,fun n' s' hn' hs'=>?_⟩;by_cases z:n'=n
    .subst z;rw[hs] at hs';cases hs';exact yi
    .exact ou6 n' s' (by omega) hs'
  rintro Z H6 ⟨v5,v6,rfl,e6,k6,ou6⟩;have kol:=ldo.len;have g:xce w' G:=xmp tx am fun s hs=>by
   obtain⟨n,hn⟩:=JU.mp hs;exact ou6 n s (by rw[kol]; exact (Zf.mp hn).1) hn
  refine⟨o,ob,.dK ko,e6,nf,?_⟩;have s7:Same H5 (upd H6 o (.dK ko)):=fun b u e=>by
   by_cases z:b=o
   .subst z;rw[xh,<- e,hko]
   .rw [xg z];exact k6 _ _ z e
  revert s7;generalize upd H6 o (.dK ko)=H7;intro s7;clear e6 k6;have s07:=s5.trans s7;have lt7:=lt5.same s7;refine⟨_,rfl,_,rfl,l,a,o,i,w',G,rfl,s07 _ _ hl,lt7,g,fun H8 b dp do_ es s8 fb fdp pe le pic8 st8=>?_⟩;have s08:=s07.trans s8;have lt8:=lt7.same s8;obtain⟨⟨dx8,ins8⟩,⟨ko8,hko8,ldo8⟩,_⟩:=id lt8;have pok:=xe9 g pe;have dr8:Dr t H8 b dp do_ w' G.length (es.map (toPt G.length)) (rimS w' G) (srtS w' G):=⟨pic8,st8,xht g,xoz w' G,xvh w' G,fun p hp=>(pok.ok p hp).nm⟩
  have ol:(outs w' G).length<=12:=by
   have z:=(xig g pe (.refl _)).len;rw[Za] at z;exact z
  refine⟨_,rfl,a,_,dx8,_,_,rfl,ins8,T.c_u,T.n_bf,ltO,o,(outs w' G).map (fun s=>ofL [s.2.2]),rfl,.inr ⟨ko8,hko8,ldo8.keys⟩,(by rw[Za]; omega),fun ls ns hls pm srt=>?_⟩;obtain⟨fs,pf,rfl⟩:=xet pm rfl;have ndf:=(pf.map fun s=>s.2.2).nodup_iff.mpr g.ou1;have lf:=xfg srt ndf;have fl:=pf.length_eq;generalize eu:upd H8 ls (.lst ((fs.map fun s=>ofL [s.2.2]).map V.str))=H9;have s9:=su_e hls eu;have g9:=ug_e eu;refine⟨ls,rfl,⟨_,SqL.of g9⟩,fun l10 hl10=>?_⟩;refine xeo (SqL.of g9) (by rw[Za,Za]; exact xa2 (by omega)) hl10 (fun j y H5=>∃ q s,y=.ref q/\fs[j]?=some s/\H5 q=some (.tup (prV (toPr w' G s)))) (fun j y H5 H6 tp ⟨q,s,e1,e2,e3⟩=>⟨q,s,e1,e2,tp _ _ e3⟩) (fun j x H10 hx s10 N hN=>?_) (fun ys H10 s10 e10 ly fy=>?_)
  .rw [Ze,Ze] at hx;obtain⟨x2,hx2,rfl⟩:=Zj.mp hx;obtain⟨s,hs,rfl⟩:=Zj.mp hx2;have ms:=pf.mem_iff.mp (Zk hs);obtain⟨qa,hv,hq⟩:=(ldo8.keep (Same.tups (s9.trans s10))).at_ ms g.ou1;have ins10:=(s9.trans s10) _ _ ins8;have hko10:=(s9.trans s10) _ _ hko8;refine⟨_,rfl,(by exact leS1),fun p1 hp1=>?_⟩;generalize eu:upd H10 p1 (.tup [.str (ofL [s.2.2])])=H11;have s11:=su_e hp1 eu;have g11:=ug_e eu;have dg:=DGet.k (k:=.inr (ofL [s.2.2])) (s11 _ _ hko10);rw[hv] at dg;refine⟨_,rfl,a,_,dx8,_,_,rfl,s11 _ _ ins10,T.c_u,T.n_bf,ltO,_,rfl,o,_,rfl,dg,qa,s.1,s.2.1,rfl,s11 _ _ hq,fun H12 q12 s12 f12 e12=>?_⟩;refine⟨p1,q12,_,_,rfl,rfl,SqT.of (s12 _ _ g11),SqT.of e12,(by simp),(by show 1+2<=sizeLine; decide),(fun z=>nomatch z),fun _ p2 hp2=>hN _ _ (fun b u e=>xaa (Same.refl _) hp2 _ _ (s12 _ _ (s11 _ _ e))) ⟨p2,s,rfl,hs,?_⟩⟩;obtain⟨_,_,_,z,_,ez,et⟩:=xdt g ms;rw[xh,et];show some (HO.tup ([V.str (ofL [s.2.2])]++xb8 (xa5 s)))=some (HO.tup (.str (ofL [z.2.2])::xb8 (xa5 s)));rw[ez];rfl
  rw[Za,Za] at ly;obtain⟨ts,rfl,prl⟩:=PrsL.pick (H:=H10) (ps:=fs.map (toPr w' G)) (ys:=ys) (by rw[ly,Za]) (fun j y p hy hp=>by
   obtain⟨q,s,e1,e2,e3⟩:=fy j y hy;rw[Ze,e2] at hp;cases hp;exact⟨q,e1,e3⟩)
  have s810:=s9.trans s10;have dr10:=dr8.same s810;have pal:=xig g pe pf;refine⟨_,rfl,_,rfl,_,rfl,b,l10,dp,do_,w',G.length,es.map (toPt G.length),rimS w' G,srtS w' G,fs.map (toPr w' G),ts,rfl,dr10,e10,prl,pal.ok,pal.len,fun H11 ld s11 fld e11=>?_⟩;refine⟨l,ld,w',G,_,rfl,s11 _ _ (s810 _ _ (s08 _ _ hl)),tx,e11,xqo (fun p hp=>(pok.ok p hp).nm) (fun p hp=>(pal.ok p hp).nm),fun k s al hs ne er her e H' ra=>?_,fun al H12 s12=>?_⟩
  .exact hB s.1 s.2.1 (.draw k s es fs g pe pf al hs ne) er her e H' (xbw.pre (s08.trans (s810.trans s11)) ra)
  refine⟨_,rfl,_,rfl,(by exact leS2),fun qt hqt=>?_⟩;have s812:=(s810.trans s11).trans s12;have s012:=s08.trans s812;generalize eu:upd H12 qt (.tup [.ref b,.ref l10])=H13;have s13:=su_e hqt eu;have g13:=ug_e eu;have s1013:=(s11.trans s12).trans s13;exact q H13 qt b dp do_ l10 ts es fs (s012.trans s13) ⟨⟨pe,le,pf,lf,g13,dr10.same s1013,s1013 _ _ e10,prl.keep (Same.tups s1013)⟩,g,al⟩
inductive DL (f:Sg->List V) (H:Hp):List Sg->List (Key × V)->Prop
 | nil:DL f H [] []
 | cons {s:Sg}{q:Addr}{es:List Sg}{kvs:List (Key × V)} (h:H q=some (.tup (f s))) (r:DL f H es kvs):DL f H (s::es) ((.inr (ofL [s.2.2]),.ref q)::kvs)
theorem DL.keep {f:Sg->List V}{H H':Hp} (s:Tups H H') {es:List Sg}{kvs:List (Key × V)} (h:DL f H es kvs):DL f H' es kvs:=by
 induction h with
 | nil=>exact .nil
 | cons h _ ih=>exact .cons (s _ _ h) ih
theorem DL.len {f:Sg->List V}{H:Hp}{es:List Sg}{kvs:List (Key × V)} (h:DL f H es kvs):kvs.length=es.length:=by
 induction h with
 | nil=>rfl
 | cons _ _ ih=>simp[ih]
theorem DL.snoc {f:Sg->List V}{H:Hp}{es:List Sg}{kvs:List (Key × V)} (h:DL f H es kvs) {s:Sg}{q:Addr} (e:H q=some (.tup (f s))):DL f H (es++[s]) (kvs++[(.inr (ofL [s.2.2]),.ref q)]):=by
 induction h with
 | nil=>exact .cons e .nil
 | cons h _ ih=>exact .cons h ih
theorem DL.get {f:Sg->List V}{H:Hp}{es:List Sg}{kvs:List (Key × V)} (h:DL f H es kvs) {i:Nat}{k:Key}{x:V} (e:kvs[i]?=some (k,x)):∃ s q,es[i]?=some s/\k=.inr (ofL [s.2.2])/\x=.ref q/\H q=some (.tup (f s)):=by
 induction h generalizing i with
 | nil=>simp at e
 | @cons s q es kvs h _ ih =>
  cases i with
  | zero =>
   simp at e;exact⟨s,q,rfl,e.1.symm,e.2.symm,h⟩
  | succ j=>exact ih (by simpa using e)
theorem DL.is {f:Sg->List V}{H:Hp}{es:List Sg}{kvs:List (Key × V)} (h:DL f H es kvs) (c:Nat):(valV kvs (.inr (ofL [c]))).isSome=decide (c∈es.map fun s=>s.2.2):=by
 induction h with
 | nil=>rfl
 | @cons s q es kvs h r ih =>
  by_cases z:s.2.2=c
  .subst z;rw[xaq rfl];simp
  .rw [xao (fun e=>z (xgt e)),ih];have z':¬ c=s.2.2:=fun e=>z e.symm;simp[z']
theorem DL.at_ {f:Sg->List V}{H:Hp}{es:List Sg}{kvs:List (Key × V)} (h:DL f H es kvs) {s:Sg} (hs:s∈es) (nd:(es.map fun s=>s.2.2).Nodup):∃ q,valV kvs (.inr (ofL [s.2.2]))=some (.ref q)/\H q=some (.tup (f s)):=by
 induction h with
 | nil=>exact nomatch hs
 | @cons s' q es kvs h r ih =>
  rw[Zu,Jf] at nd;rcases Zy.mp hs with z|z
  .subst z;exact⟨q,xaq rfl,h⟩
  .have ne:s'.2.2≠s.2.2:=fun e=>nd.1 (e▸Zh.mpr ⟨s,z,rfl⟩);rw[xao (fun e=>ne (xgt e))];exact ih z nd.2
theorem DL.keys {f:Sg->List V}{H:Hp}{es:List Sg}{kvs:List (Key × V)} (h:DL f H es kvs):kvs.map (·.1)=(es.map fun s=>ofL [s.2.2]).map Jl:=by
 induction h with
 | nil=>rfl
 | cons _ _ ih=>simp only[Zu,ih]
set_option maxRecDepth 100000 in
theorem xps:∀ c,c<128->Txt.islower ⟨#[c]⟩=nmC c:=by decide +kernel
def stV (s:Sg):List V:=xb8 (xa5 s)
def ceV (s:Sg):List V:=[.int (s.2.1:Int),.int ((s.1:Int)+1)]
abbrev stD (di do_ ls:Addr):List (Key × V):=[(.inr "inner",.ref di),(.inr "outer",.ref do_),(.inr "seats",.ref ls)]
theorem xkb {di do_ ls:Addr}:valV (stD di do_ ls) (.inr "inner")=some (.ref di):=by
 unfold stD;rw[xaq rfl]
theorem xhw {di do_ ls:Addr}:valV (stD di do_ ls) (.inr "outer")=some (.ref do_):=by
 unfold stD;rw[xao (show (Jl (Zb "inner"):Key)≠Jl (Zb "outer") by decide +kernel),xaq rfl]
theorem xki {di do_ ls:Addr}:valV (stD di do_ ls) (.inr "seats")=some (.ref ls):=by
 unfold stD;rw[xao (show (Jl (Zb "inner"):Key)≠Jl (Zb "seats") by decide +kernel),xao (show (Jl (Zb "outer"):Key)≠Jl (Zb "seats") by decide +kernel),xaq rfl]
structure LS (H:Hp) (st di do_ ls:Addr) (os is rs:List Sg):Prop where
 hs:H st=some (.dK (stD di do_ ls))
 ou:∃ kvs,H do_=some (.dK kvs)/\DL stV H os kvs
 inn:∃ kvs,H di=some (.dK kvs)/\DL ceV H is kvs
 se:∃ qs,H ls=some (.lst (qs.map V.ref))/\TL stV H rs qs
 n1:do_≠di
 n2:st≠do_
 n3:st≠di
theorem LS.same {H H':Hp}{st di do_ ls:Addr}{os is rs:List Sg} (h:LS H st di do_ ls os is rs) (s:Same H H'):LS H' st di do_ ls os is rs :=
 ⟨s _ _ h.hs,let ⟨k,e,r⟩:=h.ou; ⟨k,s _ _ e,r.keep (Same.tups s)⟩,let ⟨k,e,r⟩:=h.inn; ⟨k,s _ _ e,r.keep (Same.tups s)⟩,let ⟨k,e,r⟩:=h.se; ⟨k,s _ _ e,r.keep (Same.tups s)⟩,h.n1,h.n2,h.n3⟩
theorem xkh {a:Nat}:sgn a=V.str (Zb " ")↔a=32:=by
 rw[show V.str (Zb " ")=sgn 32 from by decide +kernel];exact⟨fun h=>xcd (V.str.inj h),fun h=>by rw[h]⟩
theorem xkf {a:Nat}:sgn a=V.str (Zb ".")↔a=46:=by
 rw[show V.str (Zb ".")=sgn 46 from by decide +kernel];exact⟨fun h=>xcd (V.str.inj h),fun h=>by rw[h]⟩
inductive xtb (vs:List V) (H:Hp) (Q:VK) (_:XK):Prop
 | mk (st di do_ ls:Addr) (lc:Nat) (os is rs:List Sg) (s:Sg) (e_:vs=[.ref st,.int (s.2.1:Int),.int ((s.1:Int)+1),sgn s.2.2]) (r_:LS H st di do_ ls os is rs/\rimB lc s.2.1=true/\s.2.2<128/\os.length<=600/\rs.length<=600/\∀ H',(∀ b u,b≠do_->b≠ls->H b=some u->H' b=some u)->(mayB lc os is s=true->LS H' st di do_ ls (if nmC s.2.2 then os++[s] else os) is (if s.2.2=32 then rs else rs++[s]))->Q (.bl (mayB lc os is s)) H')
theorem ok_av (T:Txt w K mg t):FnOk true P w K mg base (CXo P w) 1 t.f_av t.d_av ["_law_state", "_law_x", "_law_y", "_law_sign"] (xtb):=by
 refine T.F_av.okn (k:=0) sc_av (fun vs H Q E h=>?_) (fun cdv A outer s H vs Q E hr h=>?_)
 .obtain ⟨st,di,do_,ls,lc,os,is,rs,s,rfl,_⟩:=h;rfl
 .obtain ⟨st,di,do_,ls,lc,os,is,rs,s,rfl,h⟩:=h;refine⟨_,xj (xbk (xad (PW.pt (xb9 (x6 xbh (pv 3) (xw) (x8 _)) (xca (x6 xbh (pv 3) (xw) (x8 _))))) (xk (xv (i:=4) sc_av.nd rfl (Zn rfl) (xes))) (xk (xv (i:=4) sc_av.nd rfl (Zn rfl) (xcm (xpy Yj PySem.F.slot_str_islower PySem.F.type_str_islower xhu (pv 3)) (xc5 (xld (xde (xag hr) (pv 3) (xa1 (xag hr) (pv 0) (xw) (fun _ _=>rfl))))))))))
   (xj (xbk (xad (PW.pt (xh6 (xay (pv 4)) (xgg (x6 xd7 (pv 3) (xw) (x8 _))))) (xj (xv (i:=5) sc_av.nd rfl (Zn rfl) (x9 (xb (xaj xbp (xbr (xb (xw) (xb (xw) (xf)))) (xcb xpe rfl T.n_int boot_int (xb (xcf xka (pv 1) (xm) (x8 _)) (xf))) (fun _ _=>rfl)) (xb (pv 2) (xf)))))
   (xj (xa6 (xcl ZS JH JG xcn (xa1 (xag hr) (pv 0) (xw) (fun _ _=>rfl)) (xb (pv 5) (xf))))
   (xk (xbk (xad (x6 xd7 (pv 3) (xw) (x8 _)) (xk (xbv (xag hr) (xa1 (xag hr) (pv 0) (xw) (fun _ _=>rfl)) (pv 3) (pv 5) rfl)) (x4)))))) (x4)))
   (xk (xz (pv 4)))),?_⟩
  obtain⟨l,rim,c128,o6,r6,q⟩:=h;have e0:mayB lc os is s=((decide (s.2.2=32)||decide (s.2.2=46))||(nmC s.2.2&&decide (s.2.2∉os.map fun s=>s.2.2))):=by
   unfold mayB;rw[if_pos rim]
  have dgo:DGet H st (.str (Zb "outer")) (some (.ref do_)):=by
   have z:=DGet.k (k:=.inr "outer") l.hs;rw[xhw] at z;exact z
  refine⟨fun σ' H'=>σ'=[some (.ref st),some (.int (s.2.1:Int)),some (.int ((s.1:Int)+1)),some (sgn s.2.2),some (.bl (mayB lc os is s)),none]/\H'=H,?_,?_⟩
  .refine ⟨_,rfl,rfl,_,rfl,ite2 (fun c=>?_) (fun c=>?_)⟩
   .have m1:mayB lc os is s=true:=by
     rw[e0,decide_eq_true (xkh.mp (of_decide_eq_true c))];rfl
    exact iteT ⟨by rw[m1]; rfl,rfl⟩
   .have n1:¬ s.2.2=32:=fun z=>c (decide_eq_true (xkh.mpr z));refine⟨_,rfl,rfl,_,rfl,ite2 (fun c'=>?_) (fun c'=>?_)⟩
    .have m1:mayB lc os is s=true:=by
      rw[e0,decide_eq_true (xkf.mp (of_decide_eq_true c')),JF];rfl
     exact⟨by rw[m1]; rfl,rfl⟩
    .have n2:¬ s.2.2=46:=fun z=>c' (decide_eq_true (xkf.mpr z));rw[decide_eq_false n1,decide_eq_false n2,Yc,Yo] at e0;obtain⟨ko,hko,ldo⟩:=l.ou;refine⟨_,rfl,rfl,_,rfl,rfl,_,rfl,?_⟩;rw[xps _ c128];refine ite2 (fun d=>?_) (fun d=>?_)
     .rw [d,Jq] at e0;refine⟨_,rfl,_,rfl,st,_,rfl,dgo,do_,_,rfl,DGet.k (k:=.inr (ofL [s.2.2])) hko,?_,rfl⟩;rw[ldo.is,e0];show [_,_,_,_,_,_]=[_,_,_,_,_,_]
      simp
     .rw [Jg.mpr d,Jv] at e0;exact⟨by rw[e0]; rfl,rfl⟩
  .rintro _ H0 ⟨rfl,rfl⟩;refine⟨fun σ' H'=>∃ v5:Option V,σ'=[some (.ref st),some (.int (s.2.1:Int)),some (.int ((s.1:Int)+1)),some (sgn s.2.2),some (.bl (mayB lc os is s)),v5]/\(∀ b u,b≠do_->b≠ls->H0 b=some u->H' b=some u)/\(mayB lc os is s=true->LS H' st di do_ ls (if nmC s.2.2 then os++[s] else os) is (if s.2.2=32 then rs else rs++[s])),?_,?_⟩
   .refine ⟨_,rfl,_,rfl,ite2 (fun c=>?_) (fun c=>?_)⟩
    .refine ⟨_,rfl,rfl,_,rfl,ite2 (fun d=>?_) (fun d=>?_)⟩
     .have n1:¬ s.2.2=32:=fun z=>by
       have:=xkh.mpr z;simp[this] at d
      refine⟨(by exact leS2),fun p1 hp1=>?_⟩;generalize eu:upd H0 p1 (.lst [.str (Zb "left"),.str (Zb "right")])=H2;have s2:=su_e hp1 eu;have g2:=ug_e eu;refine⟨_,rfl,_,_,rfl,rfl,.inr ⟨_,rfl,p1,_,_,.str (xax (xct s.2.1)),rfl,rfl,SqL.of g2,?_,_,rfl,(by exact leS2),fun p2 hp2=>?_⟩⟩
      .by_cases z:s.2.1=0
       .rw [show decide (0<(s.2.1:Int))=false from decide_eq_false (by omega),show xct s.2.1=true from decide_eq_true z];rfl
       .rw [show decide (0<(s.2.1:Int))=true from decide_eq_true (by omega),show xct s.2.1=false from decide_eq_false z];rfl
      .have h2':=hp2;generalize eu:upd H2 p2 (.tup [.str (xax (xct s.2.1)),.int ((s.1:Int)+1)])=H3;have s3:=su_e hp2 eu;have g3:=ug_e eu;have g3:H3 p2=some (.tup (stV s)):=g3;have l3:=l.same (s2.trans s3);obtain⟨qs,hls,tls⟩:=l3.se;have qll:=tls.1;have dgs:DGet H3 st (.str (Zb "seats")) (some (.ref ls)):=by
        have z:=DGet.k (k:=.inr "seats") l3.hs;rw[xki] at z;exact z
       refine⟨_,rfl,st,_,rfl,dgs,Zn ⟨rfl,_,SqL.of hls⟩,_,rfl,ls,_,_,rfl,rfl,hls,?_,?_⟩
       .rw [Za,qll];exact xa2 (by omega)
       have k4:∀ b u,b≠ls->H3 b=some u->upd H3 ls (.lst (qs.map V.ref++[.ref p2])) b=some u:=fun b u nb e=>by
        rw[xg nb];exact e
       have e4:upd H3 ls (.lst (qs.map V.ref++[.ref p2])) ls=some (.lst (qs.map V.ref++[.ref p2])):=xh;revert k4 e4;generalize upd H3 ls (.lst (qs.map V.ref++[.ref p2]))=H4;intro k4 e4;have t4:Tups H3 H4:=fun b xs e=>k4 _ _ (ne_f e hls) e;obtain⟨ko,hko,ldo⟩:=l3.ou;obtain⟨ki,hki,ldi⟩:=l3.inn;have st4:=k4 _ _ (ne_f l3.hs hls) l3.hs;have ko4:=k4 _ _ (ne_f hko hls) hko;have ki4:=k4 _ _ (ne_f hki hls) hki;have tl4:TL stV H4 (rs++[s]) (qs++[p2]):=(tls.keep t4).append ⟨rfl,fun i q e=>by
        cases i with
        | zero =>
         cases e;exact⟨s,rfl,t4 _ _ g3⟩
        | succ j=>simp at e⟩
       have e4':H4 ls=some (.lst ((qs++[p2]).map V.ref)):=by
        rw[e4,Z4];rfl
       refine⟨fun σ' H'=>∃ v5:Option V,σ'=[some (.ref st),some (.int (s.2.1:Int)),some (.int ((s.1:Int)+1)),some (sgn s.2.2),some (.bl (mayB lc os is s)),v5]/\(∀ b u,b≠do_->b≠ls->H0 b=some u->H' b=some u)/\(mayB lc os is s=true->LS H' st di do_ ls (if nmC s.2.2 then os++[s] else os) is (if s.2.2=32 then rs else rs++[s])),?_,fun _ _ z=>z⟩;refine⟨_,rfl,rfl,_,rfl,ite2 (fun f=>?_) (fun f=>?_)⟩
       .have n2:¬ s.2.2=46:=fun z=>by
         have:=xkf.mpr z;simp[this] at f
        have e1:=e0;rw[c,decide_eq_false n1,decide_eq_false n2,Yc,Yo] at e1;obtain⟨nm,nin⟩:=Zs _ _▸e1.symm;have nin:=of_decide_eq_true nin;have dgo4:DGet H4 st (.str (Zb "outer")) (some (.ref do_)):=by
         have z:=DGet.k (k:=.inr "outer") st4;rw[xhw] at z;exact z
        have klo:=ldo.len;refine⟨_,rfl,_,rfl,st,_,rfl,dgo4,_,rfl,do_,_,rfl,DPut.k (k:=.inr (ofL [s.2.2])) ko4 (by rw[klo]; exact xa2 (by omega)),?_⟩;have hv:valV ko (.inr (ofL [s.2.2]))=none:=by
         have:=ldo.is s.2.2;rw[decide_eq_false nin] at this;exact Y0.mp (by rw[<- Qs,this]; rfl)
        rw[xcr _ hv];have k5:∀ b u,b≠do_->H4 b=some u->upd H4 do_ (.dK (ko++[(.inr (ofL [s.2.2]),.ref p2)])) b=some u:=fun b u nb e=>by rw[xg nb]; exact e
        have t5:Tups H4 (upd H4 do_ (.dK (ko++[(.inr (ofL [s.2.2]),.ref p2)]))):=fun b xs e=>k5 _ _ (ne_f e ko4) e;refine⟨_,rfl,fun b u b1 b2 e=>k5 _ _ b1 (k4 _ _ b2 (s3 _ _ (s2 _ _ e))),fun _=>?_⟩;rw[if_pos nm,if_neg n1];exact⟨k5 _ _ l.n2 st4,⟨_,xh,((ldo.keep t4).snoc (t4 _ _ g3)).keep t5⟩,⟨ki,k5 _ _ (ZE l.n1) ki4,(ldi.keep t4).keep t5⟩,⟨_,k5 _ _ (ne_f e4' ko4) e4',tl4.keep t5⟩,l.n1,l.n2,l.n3⟩
       .have n2:s.2.2=46:=by
         by_cases z:s.2.2=46
         .exact z
         .have y:¬ sgn s.2.2=V.str (Zb "."):=fun y=>z (xkf.mp y);simp[y] at f
        refine⟨_,rfl,fun b u b1 b2 e=>k4 _ _ b2 (s3 _ _ (s2 _ _ e)),fun _=>?_⟩;rw[if_neg (by rw[n2]; decide),if_neg n1];exact⟨st4,⟨ko,ko4,ldo.keep t4⟩,⟨ki,ki4,ldi.keep t4⟩,⟨_,e4',tl4⟩,l.n1,l.n2,l.n3⟩
     .have n1:s.2.2=32:=by
       by_cases z:s.2.2=32
       .exact z
       .have y:¬ sgn s.2.2=V.str (Zb " "):=fun y=>z (xkh.mp y);simp[y] at d
      refine⟨_,rfl,fun b u _ _ e=>e,fun _=>?_⟩;rw[if_pos n1,n1,if_neg (by decide)];exact l
    .exact ⟨_,rfl,fun b u _ _ e=>e,fun z=>absurd z c⟩
   .rintro _ H1 ⟨_,rfl,k,l1⟩;exact⟨_,rfl,q _ k l1⟩
theorem xuy (a b:Nat):dEq (.str (ofL [a])) (.str (ofL [b]))=decide (a=b):=by
 show (ofL [a] == ofL [b])=decide (a=b);rw[ZU,beq_iff_eq,decide_eq_true_iff];exact⟨fun h=>xcd h,fun h=>by rw[h]⟩
abbrev five:List DV:=[.str (Zb " "),.str (Zb "|"),.str (Zb "-"),.str (Zb "+"),.str (Zb "#")]
theorem xr8 (c:Nat):(five.any fun z=>dEq z (.str (ofL [c])))=([32,124,45,43,35]:List Nat).contains c:=by
 unfold five;rw[show Zb " "=ofL [32] from by decide +kernel,show Zb "|"=ofL [124] from by decide +kernel,show Zb "-"=ofL [45] from by decide +kernel,show Zb "+"=ofL [43] from by decide +kernel,show Zb "#"=ofL [35] from by decide +kernel];simp only[JP,List.any_nil,xuy,YB,List.contains_nil];rw[ZU];simp only[JY,decide_eq_true_iff,beq_iff_eq,Jh,or_false];omega
def hitC (H:Hp) (i j:Nat) (kx:Key × V):Bool:=match kx.2 with
 | .ref a=>(match H a with
  | some (.tup [.int c,.int r])=>decide (c=(j:Int))||decide (r=(i:Int)+1)
  | _=>false)
 | _=>false
theorem xm4 {H:Hp}{i j:Nat}{k:Key}{q:Addr}{s:Sg} (h:H q=some (.tup (ceV s))):hitC H i j (k,.ref q)=(decide (s.1=i)||decide (s.2.1=j)):=by
 unfold ceV at h;unfold hitC;simp only[h];rw[ZU];simp only[JY,decide_eq_true_iff];omega
theorem DL.filt {H:Hp}{es:List Sg}{kvs:List (Key × V)} (h:DL ceV H es kvs) (i j:Nat):DL ceV H (es.filter fun s=>decide (s.1=i)||decide (s.2.1=j)) (kvs.filter (hitC H i j)):=by
 induction h with
 | nil=>exact .nil
 | @cons s q es kvs h r ih =>
  rw[JS,JS,xm4 h];cases decide (s.1=i)||decide (s.2.1=j) with
  | true=>exact .cons h ih
  | false=>exact ih
theorem DL.dvk {K:Zd}{H:Hp}{es:List Sg}{kvs:List (Key × V)} (h:DL ceV H es kvs) {l:Addr} (e:H l=some (.lst (kvs.map fun kx=>kV kx.1))):Dv K H 1 (.ref l) (.lst (es.map fun s=>DV.str (ofL [s.2.2]))):=by
 refine .lst (SqL.of e) (by rw[Za,Za,h.len]) fun j x d h1 h2=>?_;rw[Ze] at h1 h2;obtain⟨⟨k,x'⟩,hx,rfl⟩:=Zj.mp h1;obtain⟨s,hs,rfl⟩:=Zj.mp h2;obtain⟨s',q,hs',ek,_,_⟩:=h.get hx;rw[hs] at hs';cases hs';show Dv K H 0 (kV k) _;rw[ek];exact .str
inductive xp0 (vs:List V) (H:Hp) (Q:VK) (_:XK):Prop
 | mk (st di do_ ls:Addr) (lc:Nat) (os is rs:List Sg) (s:Sg) (e_:vs=[.ref st,.int (s.2.1:Int),.int ((s.1:Int)+1),sgn s.2.2]) (r_:LS H st di do_ ls os is rs/\rimB lc s.2.1=false/\s.2.2<128/\is.length<=600/\(is.map fun s=>s.2.2).Nodup/\∀ H',(∀ b u,b≠di->H b=some u->H' b=some u)->(mayB lc os is s=true->LS H' st di do_ ls os (if nmC s.2.2 then is++[s] else is) rs)->Q (.bl (mayB lc os is s)) H')
theorem ok_a0 (T:Txt w K mg t):FnOk true P w K mg base (CXo P w) 1 t.f_a0 t.d_a0 ["_law_state", "_law_x", "_law_y", "_law_sign"] (xp0):=by
 refine T.F_a0.okn (k:=0) sc_a0 (fun vs H Q E h=>?_) (fun cdv A outer s H vs Q E hr h=>?_)
 .obtain ⟨st,di,do_,ls,lc,os,is,rs,s,rfl,_⟩:=h;rfl
 .obtain ⟨st,di,do_,ls,lc,os,is,rs,s,rfl,h⟩:=h;refine⟨_,xj ((by (with_reducible refine' xad ?c35 ?a36 ?b37); (case c35=>exact x6 (xu6 (xch hr)) (pv 3) (xbr (xx (xw) (xx (xw) (xx (xw) (xx (xw) (xx (xw) (xf) rfl) rfl) rfl) rfl) rfl)) (by rfl)); (case a36=>((with_reducible refine' xk ?c38); (case c38=>((exact xz (xes)))))); (case b37=>((exact x4)))))
   (xj (xv (i:=4) sc_a0.nd rfl (ZX rfl) (xa1 (xag hr) (pv 0) (xw) (fun _ _=>rfl)))
   (xj (xd9 (xbu rfl (xaw (zs:=["_law_name"]) (ys:=["_law_x", "_law_y", "_law_inner"]) (fr:=[1,2,4]) (N0:=["_law_state", "_law_x", "_law_y", "_law_sign", "_law_inner", "_law_near"]) (sc0:=xo s_a0) (by decide +kernel) rfl rfl rfl) (xq1 (pv 4)) (fun _ _ _ _ _ ow nd=>xp (i:=0) nd rfl (Zn (ow _ (by simp))) (ZX (ow _ (by simp)))) (xbj (by decide)) (fun _ _ _ _ _=>xe0 (PW.pt (xb9 (x6 xbh (xaj (r:=rIxT K) xa4 (xa1 (xag hr) (pv 3) (pv 0) (fun _ _=>rfl)) (xm) (fun _ _=>rfl)) (pv 1) (x8 _)) (xca (x6 xbh (xaj (r:=rIxT K) xa4 (xa1 (xag hr) (pv 3) (pv 0) (fun _ _=>rfl)) (xm) (fun _ _=>rfl)) (pv 2) (x8 _)))))) (fun _ _ _ _ _=>pv 0) (j:=5) rfl (Zn rfl)))
   (xj (xad (PW.pt (xb9 (xbn (xay (xpy Yj PySem.F.slot_str_islower PySem.F.type_str_islower xhu (pv 3)))) (xb9 (xdg (xf3 (xag hr) (pv 3) (pv 4))) (xb9 (x6 (xe2 (xch hr)) (pv 5) (xbr (xf)) (x8 _)) (xca (x6 xka (x5 xgf rfl T.n_len Ju (xb (pv 4) (xf))) (xm) (x8 _))))))) (xk (xz (xes))) (x4))
   (xj (xbv (xag hr) (pv 4) (pv 3) (x9 (xb (pv 1) (xb (pv 2) (xf)))) rfl)
   (xk (xz (xes))))))),?_⟩
  obtain⟨l,rim,c128,i6,nd,q⟩:=h;have e0:mayB lc os is s=((([32,124,45,43,35]:List Nat).contains s.2.2)||(nmC s.2.2&&lieB is s.1 s.2.1 s.2.2)):=by
   unfold mayB;rw[if_neg (by rw[rim]; decide)]
  refine⟨_,rfl,(by exact leS5),fun p1 hp1=>?_⟩;generalize eu:upd H p1 (.lst [.str (Zb " "),.str (Zb "|"),.str (Zb "-"),.str (Zb "+"),.str (Zb "#")])=H1;have s1:=su_e hp1 eu;have g1:=ug_e eu;have l1:=l.same s1;refine⟨0,1,.str (ofL [s.2.2]),five,.str,.lst (SqL.of g1) rfl (xdl rfl),by decide,by decide,_,rfl,?_⟩;have ef:(if false=true then !(five.any fun z=>dEq z (.str (ofL [s.2.2]))) else five.any fun z=>dEq z (.str (ofL [s.2.2])))=([32,124,45,43,35]:List Nat).contains s.2.2:=by
   rw[if_neg Z1,xr8]
  rw[ef];refine ite2 (fun c=>?_) (fun c=>?_)
  .have m1:mayB lc os is s=true:=by rw[e0,c,Q9]
   have nm:nmC s.2.2=false:=by
    have z:=Yq.mp c;have z:s.2.2=32\/s.2.2=124\/s.2.2=45\/s.2.2=43\/s.2.2=35:=by simpa using z
    rcases z with z|z|z|z|z<;>rw[z]<;>rfl
   have q:=q H1 (fun b u _ e=>s1 _ _ e) (fun _=>by rw[nm]; exact l1);rw[m1] at q;exact q
  .rw [Jg.mpr c,Yo] at e0;obtain⟨ki,hki,ldi⟩:=l1.inn;have kli:=ldi.len;have dgi:DGet H1 st (.str (Zb "inner")) (some (.ref di)):=by
    have z:=DGet.k (k:=.inr "inner") l1.hs;rw[xkb] at z;exact z
   refine⟨_,rfl,st,_,rfl,dgi,?_⟩;refine⟨_,rfl,di,ki,rfl,hki,fun ob nf ln hln=>?_⟩;have nl:ln≠di:=fun z=>by
    rw[z,xh] at hln;cases hln
   refine xnb xh (by rw[kli]; exact xa2 (by omega)) hln (hitC H1 s.1 s.2.1) (fun n k x H2 hx s2 N M hN hM=>?_) (fun H2 s2 e2=>?_)
   .obtain ⟨z,qa,hz,rfl,rfl,hqa⟩:=ldi.get hx;have hq2:H2 qa=some (.tup (ceV z)):=s2 _ _ (by rw[xg (ne_f hqa hki)]; exact hqa);have hd2:H2 di=some (.frz ob (.dK ki)):=s2 _ _ xh;have hb:=xm4 (i:=s.1) (j:=s.2.1) (k:=.inr (ofL [z.2.2])) hqa;obtain⟨qb,hv,hqb⟩:=ldi.at_ (Zk hz) nd;have hq3:H2 qb=some (.tup (ceV z)):=s2 _ _ (by rw[xg (ne_f hqb hki)]; exact hqb);have dg:DGet H2 di (kV (.inr (ofL [z.2.2]))) (some (.ref qb)):=.inl ⟨ki,_,.inr ⟨ob,hd2⟩,rfl,hv.symm⟩;refine⟨_,rfl,_,rfl,di,_,rfl,dg,qb,_,0,.int (z.2.1:Int),rfl,rfl,SqT.of hq3,rfl,_,rfl,rfl,_,rfl,ite2 (fun c1=>?_) (fun c1=>?_)⟩
    .have c2:z.2.1=s.2.1:=by
      have:=V.int.inj (of_decide_eq_true c1);omega
     refine iteT ⟨_,rfl,hN _ (Same.refl _) ?_⟩;rw[hb,decide_eq_true c2,JF]
    .have c2:¬ z.2.1=s.2.1:=fun e=>c1 (decide_eq_true (by rw[e]));refine⟨_,rfl,_,rfl,di,_,rfl,dg,qb,_,1,.int ((z.1:Int)+1),rfl,rfl,SqT.of hq3,rfl,_,rfl,rfl,_,rfl,ite2 (fun c3=>?_) (fun c3=>?_)⟩
     .have c4:z.1=s.1:=by
       have:=V.int.inj (of_decide_eq_true c3);omega
      refine⟨_,rfl,hN _ (Same.refl _) ?_⟩;rw[hb,decide_eq_true c4];rfl
     .have c4:¬ z.1=s.1:=fun e=>c3 (decide_eq_true (by rw[e]));refine hM _ (Same.refl _) ?_;rw[hb,decide_eq_false c4,decide_eq_false c2];rfl
   have hi2:=s2 _ _ (show upd H1 di (.frz ob (.dK ki)) di=_ from xh);refine⟨di,ob,.dK ki,hi2,nf,?_⟩;have s3:Same H1 (upd H2 di (.dK ki)):=fun b u e=>by
    by_cases z:b=di
    .subst z;rw[xh,<- e,hki]
    .rw [xg z];exact s2 _ _ (by rw[xg z]; exact e)
   have e3:upd H2 di (.dK ki) ln=some (.lst ((ki.filter (hitC H1 s.1 s.2.1)).map fun kx=>kV kx.1)):=by
    rw[xg nl];exact e2
   revert s3 e3;generalize upd H2 di (.dK ki)=H3;intro s3 e3;clear hi2 e2 s2;have l3:=l1.same s3;have hk3:=s3 _ _ hki;have ld3:=((ldi.filt s.1 s.2.1).keep (Same.tups s3))
   have ei:lieB is s.1 s.2.1 s.2.2=(decide (s.2.2∉is.map fun s=>s.2.2)&&(decide ((is.filter fun z=>decide (z.1=s.1)||decide (z.2.1=s.2.1))=[])&&decide (is.length<12))):=rfl;have fl:∀ H',Same H3 H'->mayB lc os is s=false->Q (.bl false) H':=fun H' s' z=>by
    have y:=q H' (fun b u _ e=>s' _ _ (s3 _ _ (s1 _ _ e))) (fun y=>by rw[z] at y; cases y);rw[z] at y;exact y
   refine⟨_,rfl,rfl,_,rfl,rfl,_,rfl,?_⟩;rw[xps _ c128];refine ite2 (fun d=>?_) (fun d=>?_)
   .have d1:nmC s.2.2=false:=by simpa using d
    refine iteT (fl _ (Same.refl _) ?_);rw[e0,d1];rfl
   have d1:nmC s.2.2=true:=by simpa using d
   rw[d1,Jq] at e0;refine⟨_,rfl,_,rfl,di,_,rfl,DGet.k (k:=.inr (ofL [s.2.2])) hk3,_,rfl,?_⟩;rw[ldi.is];refine ite2 (fun c1=>?_) (fun c1=>?_)
   .have c2:s.2.2∈is.map fun s=>s.2.2:=of_decide_eq_true c1;refine iteT (fl _ (Same.refl _) ?_);rw[e0,ei,decide_eq_false (fun z=>z c2)];rfl
   have c2:s.2.2∉is.map fun s=>s.2.2:=fun z=>c1 (decide_eq_true z);rw[decide_eq_true c2,Jq] at ei;refine⟨_,rfl,(by exact leS0),fun l0 hl0=>?_⟩;generalize eu:upd H3 l0 (.lst [])=H4;have s4:=su_e hl0 eu;have g4:=ug_e eu;refine⟨1,1,_,.lst [],(ld3.keep (Same.tups s4)).dvk (s4 _ _ e3),.lst (SqL.of g4) rfl (fun j x d h1=>by simp at h1),by decide,by decide,_,rfl,?_⟩;rw[xmj];refine ite2 (fun c3=>?_) (fun c3=>?_)
   .refine iteT (fl _ s4 ?_);rw[e0,ei];simp only[Ya] at c3;rw[c3];rfl
   have c4:decide ((is.filter fun z=>decide (z.1=s.1)||decide (z.2.1=s.2.1))=[])=true:=by simpa using c3
   rw[c4,Jq] at ei;refine⟨_,rfl,di,ki,rfl,s4 _ _ hk3,_,_,rfl,rfl,_,rfl,ite2 (fun c5=>?_) (fun c5=>?_)⟩
   .refine fl _ s4 ?_;rw[e0,ei];have:=of_decide_eq_true c5;exact decide_eq_false (by omega)
   have c6:is.length<12:=by
    have:¬ (11:Int)<(ki.length:Int):=fun z=>c5 (decide_eq_true z);omega
   have m1:mayB lc os is s=true:=by rw[e0,ei,decide_eq_true c6]
   refine⟨_,rfl,_,rfl,(by exact leS2),fun qa hqa=>?_⟩;generalize eu:upd H4 qa (.tup [.int (s.2.1:Int),.int ((s.1:Int)+1)])=H5;have s5:=su_e hqa eu;have g5:=ug_e eu;have g5:H5 qa=some (.tup (ceV s)):=g5;have s35:=s4.trans s5;have l5:=l3.same s35;have hk5:=s35 _ _ hk3;refine⟨_,rfl,_,rfl,di,_,rfl,DPut.k (k:=.inr (ofL [s.2.2])) hk5 (by rw[kli]; exact xa2 (by omega)),?_⟩;have hv:valV ki (.inr (ofL [s.2.2]))=none:=by
    have:=ldi.is s.2.2;rw[decide_eq_false c2] at this;exact Y0.mp (by rw[<- Qs,this]; rfl)
   rw[xcr _ hv];have k6:∀ b u,b≠di->H5 b=some u->upd H5 di (.dK (ki++[(.inr (ofL [s.2.2]),.ref qa)])) b=some u:=fun b u nb e=>by rw[xg nb]; exact e
   have t6:Tups H5 (upd H5 di (.dK (ki++[(.inr (ofL [s.2.2]),.ref qa)]))):=fun b xs e=>k6 _ _ (ne_f e hk5) e;have q:=q (upd H5 di (.dK (ki++[(.inr (ofL [s.2.2]),.ref qa)]))) (fun b u nb e=>k6 _ _ nb (s35 _ _ (s3 _ _ (s1 _ _ e)))) (fun _=>by
    rw[if_pos d1];obtain⟨ko,hko,ldo⟩:=l5.ou;obtain⟨qs,hls,tls⟩:=l5.se;exact⟨k6 _ _ l.n3 l5.hs,⟨ko,k6 _ _ l.n1 hko,ldo.keep t6⟩,⟨_,xh,(((ldi.keep (Same.tups (s3.trans s35))).snoc g5).keep t6)⟩,⟨qs,k6 _ _ (ne_f hls hk5) hls,tls.keep t6⟩,l.n1,l.n2,l.n3⟩)
   rw[m1] at q;exact q
theorem xt5 {i j c:Nat}{r:List Nat} (h:r[j]?=some c):(sgR i r)[j]?=some (i,j,c):=by
 have lt:=(Zf.mp h).1;unfold sgR
 first
  | (rw[Ze,Jj lt]; simp[JA,h]; done)
  | (simp[h,lt]; done)
theorem xl1 {W:Nat}{G:List (List Nat)} (o:Txs W G) {i j c:Nat}{r:List Nat} (hr:G[i]?=some r) (hc:r[j]?=some c):∀ n,i<n->n<=G.length->(sgsN G n)[i*W+j]?=some (i,j,c)
 | 0,h,_=>absurd h (by omega)
 | n+1,h,l=>by
  obtain⟨r',hr'⟩:∃ r',G[n]?=some r':=⟨_,Zg l⟩
  have ln:=xcw o n (by omega);have wd:=o.wd r (Zk hr);have jl:=(Zf.mp hc).1;rw[xfx hr'];by_cases z:i=n
  .subst z;rw[hr] at hr';cases hr';rw[Jb (by rw[ln]; omega),ln,show i*W+j-i*W=j by omega];exact xt5 hc
  .have hi:i<n:=by omega
   have:i*W+j<n*W:=by
    have:=Nat.mul_le_mul_right W (show i+1<=n from hi);rw[QT,QR] at this;omega
   rw[ZW (by rw[ln]; exact this)];exact xl1 o hr hc n hi (by omega)
theorem xoj {W:Nat}{G:List (List Nat)} (o:Txs W G) {i j c:Nat}{r:List Nat} (hr:G[i]?=some r) (hc:r[j]?=some c):(sgs G)[i*W+j]?=some (i,j,c) :=
 xl1 o hr hc _ (Zf.mp hr).1 (Zl _)
def rimQ (lc:Nat) (s:Sg):Bool:=rimB lc s.2.1&&decide (s.2.2≠32)
theorem xeb {l:List Sg}{k:Nat}{s:Sg} (h:l[k]?=some s) (p:Sg->Bool):(l.take (k+1)).filter p=if p s then (l.take k).filter p++[s] else (l.take k).filter p:=by
 rcases xc0 h (p:=p) with⟨e,z⟩|⟨e,z⟩
 .rw [e,if_pos z]
 .rw [e,if_neg (by rw[z]; decide)]
abbrev LSk (H:Hp) (st di do_ ls:Addr) (w:Nat) (G:List (List Nat)) (k:Nat):Prop:=LS H st di do_ ls (((sgs G).take k).filter (outP (w+1))) (((sgs G).take k).filter (innP (w+1))) (((sgs G).take k).filter (rimQ (w+1)))
theorem xm1 {H:Hp}{st di do_ ls:Addr}{w:Nat}{G:List (List Nat)}{k:Nat}{s:Sg} (hs:(sgs G)[k]?=some s) (rim:rimB (w+1) s.2.1=true) (h:LS H st di do_ ls (if nmC s.2.2 then ((sgs G).take k).filter (outP (w+1))++[s] else ((sgs G).take k).filter (outP (w+1))) (((sgs G).take k).filter (innP (w+1))) (if s.2.2=32 then ((sgs G).take k).filter (rimQ (w+1)) else ((sgs G).take k).filter (rimQ (w+1))++[s])):LSk H st di do_ ls w G (k+1):=by
 show LS _ _ _ _ _ _ _ _;rw[xeb hs,xeb hs,xeb hs,show outP (w+1) s=nmC s.2.2 from by unfold outP; rw[rim,Jq],show innP (w+1) s=false from by unfold innP; rw[rim]; rfl,if_neg Z1];by_cases z:s.2.2=32
 .rw [if_pos z] at h;rw[show rimQ (w+1) s=false from by unfold rimQ; rw[decide_eq_false (fun y=>y z),YK],if_neg Z1];exact h
 .rw [if_neg z] at h;rw[show rimQ (w+1) s=true from by unfold rimQ; rw[rim,decide_eq_true z]; rfl,if_pos rfl];exact h
theorem xuf {H:Hp}{st di do_ ls:Addr}{w:Nat}{G:List (List Nat)}{k:Nat}{s:Sg} (hs:(sgs G)[k]?=some s) (rim:rimB (w+1) s.2.1=false) (h:LS H st di do_ ls (((sgs G).take k).filter (outP (w+1))) (if nmC s.2.2 then ((sgs G).take k).filter (innP (w+1))++[s] else ((sgs G).take k).filter (innP (w+1))) (((sgs G).take k).filter (rimQ (w+1)))):LSk H st di do_ ls w G (k+1):=by
 show LS _ _ _ _ _ _ _ _;rw[xeb hs,xeb hs,xeb hs,show outP (w+1) s=false from by unfold outP; rw[rim,Jv],show innP (w+1) s=nmC s.2.2 from by unfold innP; rw[rim]; rfl,show rimQ (w+1) s=false from by unfold rimQ; rw[rim,Jv],if_neg Z1,if_neg Z1];exact h
abbrev But3 (di do_ ls:Addr) (H H':Hp):Prop:=∀ b u,b≠di->b≠do_->b≠ls->H b=some u->H' b=some u
inductive xos (vs:List V) (H:Hp) (Q:VK) (_:XK):Prop
 | mk (st di do_ ls l:Addr) (w:Nat) (G:List (List Nat)) (e_:vs=[.ref st,.ref l]) (r_:LSk H st di do_ ls w G 0/\H l=some (.lst (GV G))/\l≠ls/\Txs (w+2) G/\(∀(H':Hp) (k:Nat) (s:Sg) (q:Addr),But3 di do_ ls H H'->xc4 w G k->(sgs G)[k]?=some s->mayB (w+1) (((sgs G).take k).filter (outP (w+1))) (((sgs G).take k).filter (innP (w+1))) s=false->H' q=some (.tup [.int (s.1:Int),.int (s.2.1:Int)])->Q (.ref q) H')/\∀ H',But3 di do_ ls H H'->xc4 w G (sgs G).length->LSk H' st di do_ ls w G (sgs G).length->Q .non H')
theorem ok_ae (T:Txt w K mg t):FnOk true P w K mg base (CXo P w) 2 t.f_ae t.d_ae ["_law_state", "_law_rows"] (xos):=by
 refine T.F_ae.okn (k:=1) sc_ae (fun vs H Q E h=>?_) (fun cdv A outer s H vs Q E hr h=>?_)
 .obtain ⟨st,di,do_,ls,l,w',G,rfl,_⟩:=h;rfl
 .obtain ⟨st,di,do_,ls,l,w',G,rfl,h⟩:=h;refine⟨_,xj (xv (i:=2) sc_ae.nd rfl (Zn rfl) (x5 xa7 rfl T.n_len Ju (xb (xaj xbp (pv 1) (xm) (fun _ _=>rfl)) (xf))))
   (xj (xar ZC rfl (xcg rfl T.n_enumerate (xb (pv 1) (xf))) (xaf rfl (xq (xp (i:=3) sc_ae.nd rfl (Zn rfl)) (xq (xp (i:=4) sc_ae.nd rfl (Zn rfl)) (xab)))) (xk (xar ZC rfl (xf9 rfl T.n_enumerate (xb (pv 4) (xf))) (xaf rfl (xq (xp (i:=5) sc_ae.nd rfl (Zn rfl)) (xq (xp (i:=6) sc_ae.nd rfl (Zn rfl)) (xab)))) (xj (xbk (xad (PW.pt (xb9 (x6 xbh (pv 5) (xm) (x8 _)) (xca (x6 xbh (pv 5) (xt xdq (pv 2) (xm)) (x8 _))))) (xk (xv (i:=7) sc_ae.nd rfl (Zn rfl) (xr (ok_av T) (hmm hr) rfl T.g_av T.F_av.kp T.b_av .nil xn (xb (pv 0) (xb (pv 5) (xb (xt xai (pv 3) (xm)) (xb (pv 6) (xf)))))))) (xk (xv (i:=7) sc_ae.nd rfl (Zn rfl) (xr (ok_a0 T) (hmm hr) rfl T.g_a0 T.F_a0.kp T.b_a0 .nil xn (xb (pv 0) (xb (pv 5) (xb (xt xai (pv 3) (xm)) (xb (pv 6) (xf))))))))))
   (xk (xbk (xad (xbn (xay (pv 7))) (xk (xz (x9 (xb (pv 3) (xb (pv 5) (xf)))))) (x4))))))))
   (xk (xz (xdr)))),?_⟩
  obtain⟨l0,hl,nl,tx,qB,q⟩:=h;have h1:=tx.h1;have h2:=tx.h2;have w1:=tx.w1;have w2:=tx.w2;obtain⟨r0,hr0⟩:∃ r,G[0]?=some r:=⟨_,Zg h1⟩
  have lr0:=tx.wd r0 (Zk hr0);refine⟨_,rfl,l,_,0,.str (ofL r0),rfl,rfl,SqL.of hl,?_,_,rfl,?_,?_⟩
  .show atI (GV G) ((0:Nat):Int)=_;exact xba (xel hr0)
  .rw [xau,lr0];exact xb5 (by omega)
  refine⟨_,rfl,l,_,rfl,SqL.of hl,?_⟩;refine xdu (xs:=GV G) (Pv:=fun i Z H5=>∃(v3 v4 v5 v6 v7:Option V),Z=[some (.ref st),some (.ref l),some (.int ((w'+2:Nat):Int)),v3,v4,v5,v6,v7]/\But3 di do_ ls H H5/\H5 l=some (.lst (GV G))/\LSk H5 st di do_ ls w' G (i*(w'+2))/\xc4 w' G (i*(w'+2))) ?_ ?_ ?_ ?_
  .refine ⟨none,none,none,none,none,?_,fun b u _ _ _ e=>e,hl,?_,?_⟩
   .rw [xau,lr0];rfl
   .rw [Nat.zero_mul];exact l0
   .rw [Nat.zero_mul];exact fun k s z=>absurd z (by omega)
  .rintro i Z H5 _ ⟨_,_,_,_,_,rfl,_,e5,_,_⟩;exact SqL.of e5
  .rintro i x p Z H5 hx hp ⟨v3,v4,v5,v6,v7,rfl,k5,e5,l5,am5⟩;unfold GV at hx;rw[Ze,Zj] at hx;obtain⟨r,hr,rfl⟩:=hx;have il:=(Zf.mp hr).1;have rw':=tx.wd r (Zk hr);generalize eu:upd H5 p (.tup [.int (i:Int),.str (ofL r)])=H6;have s6:=su_e hp eu;have g6:=ug_e eu;refine⟨p,_,rfl,SqT.of g6,rfl,_,_,rfl,_,_,rfl,rfl,?_⟩;refine⟨_,rfl,ofL r,rfl,xi3 (tx.asc r (Zk hr)),?_⟩;refine xib (Pv:=fun j Z H7=>∃(v5 v6 v7:Option V),Z=[some (.ref st),some (.ref l),some (.int ((w'+2:Nat):Int)),some (.int (i:Int)),some (.str (ofL r)),v5,v6,v7]/\But3 di do_ ls H H7/\H7 l=some (.lst (GV G))/\LSk H7 st di do_ ls w' G (i*(w'+2)+j)/\xc4 w' G (i*(w'+2)+j)) ⟨v5,v6,v7,rfl,fun b u b1 b2 b3 e=>s6 _ _ (k5 b u b1 b2 b3 e),s6 _ _ e5,l5.same s6,am5⟩ ?_ ?_
   .rintro j c p2 Z H7 hc hp2 ⟨v5,v6,v7,rfl,k7,e7,l7,am7⟩;rw[xah] at hc;have hs:=xoj tx hr hc;have jl:=(Zf.mp hc).1;have c128:c<128:=tx.asc r (Zk hr) c (Zk hc);generalize eu:upd H7 p2 (.tup [.int (j:Int),sgn c])=H8;have s8:=su_e hp2 eu;have g8:=ug_e eu;refine⟨p2,_,rfl,SqT.of g8,rfl,_,_,rfl,_,_,rfl,rfl,?_⟩;have l8:=l7.same s8;have k8:But3 di do_ ls H H8:=fun b u b1 b2 b3 e=>s8 _ _ (k7 b u b1 b2 b3 e);have e8:=s8 _ _ e7;have gll:(sgs G).length<=512:=by
     have e:=xcw tx G.length (Zl _);have b512:G.length*(w'+2)<=16*32:=YJ h2 w2;unfold sgs;omega
    have lf:∀ p:Sg->Bool,(((sgs G).take (i*(w'+2)+j)).filter p).length<=600:=fun p=>by
     refine Z8 (Yp _ _) ?_;rw[ZP];omega
    have aw:=xir (w:=w') (G:=G) (i*(w'+2)+j) (J7 (Zf.mp hs).1) am7;generalize hm:mayB (w'+1) (((sgs G).take (i*(w'+2)+j)).filter (outP (w'+1))) (((sgs G).take (i*(w'+2)+j)).filter (innP (w'+1))) (i,j,c)=may;refine⟨fun σ' H'=>∃ v5 v6:Option V,σ'=[some (.ref st),some (.ref l),some (.int ((w'+2:Nat):Int)),some (.int (i:Int)),some (.str (ofL r)),v5,v6,some (.bl may)]/\v5=some (.int (j:Int))/\v6=some (sgn c)/\But3 di do_ ls H H'/\H' l=some (.lst (GV G))/\(may=true->LSk H' st di do_ ls w' G (i*(w'+2)+(j+1))),?_,?_⟩
    .obtain ⟨ko,hko,_⟩:=l8.ou;obtain⟨ki,hki,_⟩:=l8.inn;refine⟨_,rfl,rfl,_,rfl,ite2 (fun c0=>?_) (fun c0=>?_)⟩
     .refine iteT ?_;have rm:rimB (w'+1) (i,j,c).2.1=true:=by
       have:=V.int.inj (of_decide_eq_true c0);have j0:j=0:=by omega
       show rimB (w'+1) j=true;unfold rimB;rw[decide_eq_true j0,Q9]
      refine⟨_,rfl,_,rfl,_,rfl,_,_,rfl,rfl,_,rfl,st,di,do_,ls,w'+1,_,_,_,(i,j,c),rfl,l8,rm,c128,lf _,lf _,fun H9 k9 l9=>?_⟩;rw[hm];rw[hm] at l9;exact⟨_,_,rfl,rfl,rfl,fun b u b1 b2 b3 e=>k9 b u b2 b3 (k8 b u b1 b2 b3 e),k9 _ _ (ne_f e8 hko) nl e8,fun z=>xm1 hs rm (l9 z)⟩
     .refine ⟨_,rfl,_,rfl,_,_,rfl,rfl,rfl,_,rfl,ite2 (fun c1=>?_) (fun c1=>?_)⟩
      .have rm:rimB (w'+1) (i,j,c).2.1=true:=by
        have:=V.int.inj (of_decide_eq_true c1);have j0:j=w'+1:=by omega
        show rimB (w'+1) j=true;unfold rimB;rw[decide_eq_true j0,JF]
       refine⟨_,rfl,_,rfl,_,rfl,_,_,rfl,rfl,_,rfl,st,di,do_,ls,w'+1,_,_,_,(i,j,c),rfl,l8,rm,c128,lf _,lf _,fun H9 k9 l9=>?_⟩;rw[hm];rw[hm] at l9;exact⟨_,_,rfl,rfl,rfl,fun b u b1 b2 b3 e=>k9 b u b2 b3 (k8 b u b1 b2 b3 e),k9 _ _ (ne_f e8 hko) nl e8,fun z=>xm1 hs rm (l9 z)⟩
      .have rm:rimB (w'+1) (i,j,c).2.1=false:=by
        show rimB (w'+1) j=false;unfold rimB;rw[decide_eq_false (fun z=>c0 (decide_eq_true (by rw[z]; rfl))),decide_eq_false (fun z=>c1 (decide_eq_true (by rw[z]; congr 1; omega)))];rfl
       refine⟨_,rfl,_,rfl,_,rfl,_,_,rfl,rfl,_,rfl,st,di,do_,ls,w'+1,_,_,_,(i,j,c),rfl,l8,rm,c128,lf _,(ZB.mpr (aw.1.imp fun h=>h.1)),fun H9 k9 l9=>?_⟩;rw[hm];rw[hm] at l9;exact⟨_,_,rfl,rfl,rfl,fun b u b1 b2 b3 e=>k9 b u b1 (k8 b u b1 b2 b3 e),k9 _ _ (ne_f e8 hki) e8,fun z=>xuf hs rm (l9 z)⟩
    .rintro _ H9 ⟨_,_,rfl,rfl,rfl,k9,e9,l9⟩;refine⟨fun σ' H'=>∃(v5 v6 v7:Option V),σ'=[some (.ref st),some (.ref l),some (.int ((w'+2:Nat):Int)),some (.int (i:Int)),some (.str (ofL r)),v5,v6,v7]/\But3 di do_ ls H H'/\H' l=some (.lst (GV G))/\LSk H' st di do_ ls w' G (i*(w'+2)+(j+1))/\xc4 w' G (i*(w'+2)+(j+1)),⟨_,rfl,_,rfl,?_⟩,fun _ _ z=>z⟩;cases may with
     | false =>
      refine iteT ⟨_,rfl,_,rfl,(by exact leS2),fun qt hqt=>?_⟩;exact qB _ _ (i,j,c) qt (fun b u b1 b2 b3 e=>xaa (Same.refl _) hqt _ _ (k9 b u b1 b2 b3 e)) am7 hs hm xh
     | true =>
      refine iteF ⟨_,_,_,rfl,k9,e9,l9 rfl,fun k' s' hk' hs'=>?_⟩;by_cases z:k'=i*(w'+2)+j
      .subst z;rw[hs] at hs';cases hs';exact hm
      .exact am7 k' s' (by omega) hs'
   .rintro Z H7 ⟨v5,v6,v7,rfl,k7,e7,l7,am7⟩;have e:i*(w'+2)+(ofL r).cps.toList.length=(i+1)*(w'+2):=by
     rw[xah,rw',QT,QR]
    rw[e] at l7 am7;exact⟨_,_,_,_,_,rfl,k7,e7,l7,am7⟩
  .rintro Z H5 ⟨v3,v4,v5,v6,v7,rfl,k5,e5,l5,am5⟩;have sl:(sgs G).length=G.length*(w'+2):=xcw tx _ (Zl _);rw[xb0,<- sl] at l5 am5;exact q H5 k5 am5 l5
theorem xnc {w:Nat}{ps:List Pt}{ss ss':List Seat}{prs:List Pr} (w1:1<=w) (pm:ss'.Perm ss) (nd:ss.Nodup):xaz w ps ss' prs=xaz w ps ss prs:=by
 funext c;unfold xaz Drw.drawL;refine Drw.sets_base ?_;refine Drw.sets_perm (pm.map _) ?_ _ c;rw[Z3];have nd:=pm.nodup_iff.mpr nd;rw[Yu,ZB];exact nd.imp fun ne e=>ne (xmr w1 e)
theorem xql {w:Nat}{ps ps':List Pt}{ss:List Seat}{prs:List Pr} (pm:ps'.Perm ps) (nx:(ps.map (·.x)).Nodup):xaz w ps' ss prs=xaz w ps ss prs:=by
 funext c;unfold xaz Drw.drawL;exact Drw.sets_base (Drw.sets_base (Drw.sets_perm (pm.map _) (xuh ((pm.map (·.x)).nodup_iff.mpr nx)) _ c))
def xb2 (w:Nat) (G:List (List Nat)):Cl->Option Str:=xaz w ((inns w G).map (toPt G.length)) (rimS w G) ((outs w G).map (toPr w G))
theorem xe4 {w:Nat}{G:List (List Nat)} (g:xce w G) {es fs:List Sg} (pe:es.Perm (inns w G)) (pf:fs.Perm (outs w G)):xdi w (es.map (toPt G.length)) (srtS w G) (fs.map (toPr w G))=xb2 w G:=by
 have w1:1<=w:=by have:=g.tx.w1; omega
 rw[xsr w1 (xe9 g pe) (xig g pe (Wg.refl (outs w G))) (pf.map _),xnc w1 (xoz w G) (xht g).1,xql (pe.map _) (xe9 g (Wg.refl _)).nx];rfl
theorem xby.drawn {w:Nat}{G:List (List Nat)} (g:xce w G) {k:Nat}{s:Sg} (al:∀(k':Nat) (s':Sg),k'<k->(sgs G)[k']?=some s'->cd (xb2 w G) ((s'.2.1:Int),1+(s'.1:Int))=s'.2.2) (hs:(sgs G)[k]?=some s) (ne:cd (xb2 w G) ((s.2.1:Int),1+(s.1:Int))≠s.2.2):xby w G s.1 s.2.1 :=
 .draw k s (inns w G) (outs w G) g (.refl _) (.refl _) (by rw[xe4 g (.refl _) (.refl _)]; exact al) hs (by rw[xe4 g (.refl _) (.refl _)]; exact ne)
theorem xf1 {P:Nat->Prop}{k k':Nat} (h:∀ m,m<k->¬ P m) (hk:P k) (h':∀ m,m<k'->¬ P m) (hk':P k'):k=k':=by
 rcases Nat.lt_trichotomy k k' with z|z|z
 .exact absurd hk (h' k z)
 .exact z
 .exact absurd hk' (h k' z)
theorem xee {α:Type}{l:List α}{k k':Nat}{x y:α} (e:k=k') (h:l[k]?=some x) (h':l[k']?=some y):x=y:=by
 subst e;rw[h] at h';exact JD.inj h'
theorem xby.one {w:Nat}{G:List (List Nat)}{i j i' j':Nat} (a:xby w G i j) (b:xby w G i' j'):i=i'/\j=j':=by
 cases a with
 | may k s am hs my =>
  cases b with
  | may k' s' am' hs' my' =>
   have e:=xf1 (P:=fun m=>∃ s,(sgs G)[m]?=some s/\mayB (w+1) (((sgs G).take m).filter (outP (w+1))) (((sgs G).take m).filter (innP (w+1))) s=false) (fun m lt ⟨z,hz,mz⟩=>by rw[am m z lt hz] at mz; cases mz) ⟨s,hs,my⟩ (fun m lt ⟨z,hz,mz⟩=>by rw[am' m z lt hz] at mz; cases mz) ⟨s',hs',my'⟩;have e:=xee e hs hs';exact⟨by rw[e],by rw[e]⟩
  | out n s' am' hs' al ni =>
   rw[am' k s (Zf.mp hs).1 hs] at my;cases my
  | draw k' s' es fs g pe pf al hs' ne =>
   rw[xiw g hs] at my;cases my
 | out n s am hs al ni =>
  cases b with
  | may k s' am' hs' my =>
   rw[am k s' (Zf.mp hs').1 hs'] at my;cases my
  | out n' s' am' hs' al' ni' =>
   have e:=xf1 (P:=fun m=>∃ s,(outs w G)[m]?=some s/\s.2.2∉(inns w G).map fun s=>s.2.2) (fun m lt ⟨z,hz,mz⟩=>mz (al m z lt hz)) ⟨s,hs,ni⟩ (fun m lt ⟨z,hz,mz⟩=>mz (al' m z lt hz)) ⟨s',hs',ni'⟩;have e:=xee e hs hs';exact⟨by rw[e],by rw[e]⟩
  | draw k' s' es fs g pe pf al hs' ne=>exact absurd (g.ou2 s (Zk hs)) ni
 | draw k s es fs g pe pf al hs ne =>
  cases b with
  | may k' s' am' hs' my =>
   rw[xiw g hs'] at my;cases my
  | out n s' am' hs' al' ni=>exact absurd (g.ou2 s' (Zk hs')) ni
  | draw k' s' es' fs' g' pe' pf' al' hs' ne' =>
   rw[xe4 g pe pf] at al ne;rw[xe4 g pe' pf'] at al' ne';have e:=xf1 (P:=fun m=>∃ s:Sg,(sgs G)[m]?=some s/\cd (xb2 w G) ((s.2.1:Int),1+(s.1:Int))≠s.2.2) (fun m lt ⟨z,hz,mz⟩=>mz (al m z lt hz)) ⟨s,hs,ne⟩ (fun m lt ⟨z,hz,mz⟩=>mz (al' m z lt hz)) ⟨s',hs',ne'⟩;have e:=xee e hs hs';exact⟨by rw[e],by rw[e]⟩
theorem xby.no {w:Nat}{G:List (List Nat)}{i j:Nat} (a:xby w G i j) (g:xce w G) (al:∀ s∈sgs G,cd (xb2 w G) ((s.2.1:Int),1+(s.1:Int))=s.2.2):False:=by
 cases a with
 | may k s am hs my =>
  rw[xiw g hs] at my;cases my
 | out n s am hs al ni=>exact absurd (g.ou2 s (Zk hs)) ni
 | draw k s es fs g pe pf _ hs ne =>
  rw[xe4 g pe pf] at ne;exact ne (al s (Zk hs))
theorem xva {w j:Nat} (h:rimB (w+1) j=true):Drw.rim (w:Int) (xct j)=(j:Int):=by
 unfold Drw.rim xct;rcases xey h with z|z
 .rw [z];rfl
 .rw [decide_eq_false (by omega),z];rfl
def p3 (s:Sg):List V:=[.str (ofL [s.2.2]),.int (s.2.1:Int),.int ((s.1:Int)+1)]
theorem TL.seats {H:Hp}:∀{as:List Sg}{qs:List Addr},TL stV H as qs->xac H (as.map xa5) qs
  | [],[],_=>.nil
  | [],_::_,h=>absurd h.1 (by simp)
  | _::_,[],h=>absurd h.1 (by simp)
  | a::as,q::qs,h=>.cons (by
      obtain⟨a',e,e2⟩:=h.2 0 q rfl;cases e;exact e2) (TL.seats ⟨by have:=h.1; simp at this; exact this,fun i q' e=>h.2 (i+1) q' e⟩)
theorem TL.ptsB {h:Nat}{H:Hp}{as:List Sg}{qs:List Addr} (t:TL p3 H as qs):PtsB H (as.map (toPt h)) qs:=⟨by rw[Za]; exact t.1,fun i q e=>by
 obtain⟨a,e1,e2⟩:=t.2 i q e;exact⟨toPt h a,[],by rw[Ze,e1]; rfl,e2⟩⟩
inductive xss (vs:List V) (H:Hp) (Q:VK) (_:XK):Prop
 | mk (st di do_ ls l:Addr) (w:Nat) (G:List (List Nat)) (e_:vs=[.ref st,.ref l]) (r_:LSk H st di do_ ls w G 0/\H l=some (.lst (GV G))/\l≠ls/\Txs (w+2) G/\(∀(H':Hp) (i j:Nat) (q:Addr),But3 di do_ ls H H'->xby w G i j->H' q=some (.tup [.int (i:Int),.int (j:Int)])->Q (.ref q) H')/\∀ H',But3 di do_ ls H H'->xce w G->(∀ s∈sgs G,cd (xb2 w G) ((s.2.1:Int),1+(s.1:Int))=s.2.2)->LS H' st di do_ ls (outs w G) (inns w G) (rims w G)->Q .non H')
theorem ok_aq (T:Txt w K mg t):FnOk true P w K mg base (CXo P w) 3 t.f_aq t.d_aq ["_law_state", "_law_rows"] (xss):=by
 refine T.F_aq.okn (k:=2) sc_aq (fun vs H Q E h=>?_) (fun cdv A outer s H vs Q E hr h=>?_)
 .obtain ⟨st,di,do_,ls,l,w',G,rfl,_⟩:=h;rfl
 .obtain ⟨st,di,do_,ls,l,w',G,rfl,h⟩:=h;refine⟨_,xj (xv (i:=2) sc_aq.nd rfl (Zn rfl) (xr (ok_ae T) (hmm hr) rfl T.g_ae T.F_ae.kp T.b_ae .nil xn (xb (pv 0) (xb (pv 1) (xf)))))
   (xj (xad (x6 xi4 (pv 2) (xdr) (x8 _)) (xk (xz (pv 2))) (x4))
   (xj (xv (i:=3) sc_aq.nd rfl (Zn rfl) (xt xdq (x5 xa7 rfl T.n_len Ju (xb (xaj xbp (pv 1) (xm) (fun _ _=>rfl)) (xf))) (xm)))
   (xj (xd9 (xar ZC rfl (xc8 (xa1 (xag hr) (pv 0) (xw) (fun _ _=>rfl))) (xaf rfl (xq (xp (i:=4) sc_aq.nd rfl (Zn rfl)) (xq (xaf rfl (xq (xp (i:=5) sc_aq.nd rfl (Zn rfl)) (xq (xp (i:=6) sc_aq.nd rfl (Zn rfl)) (xab)))) (xab)))) (xk (xad (xdg (xde (xag hr) (pv 4) (xa1 (xag hr) (pv 0) (xw) (fun _ _=>rfl)))) (xk (xz (x9 (xb (xt xdq (pv 6) (xm)) (xb (xr (ok_a6 T) (hmm hr) rfl T.g_a6 T.F_a6.kp T.b_a6 .nil xn (xb (pv 3) (xb (pv 5) (xf)))) (xf)))))) (x4)))))
   (xj (xd9 (xbu rfl (xaw (zs:=["_law_name", "_law_x", "_law_y"]) (ys:=[]) (fr:=[]) (N0:=["_law_state", "_law_rows", "_law_place", "_law_width", "_law_name", "_law_side", "_law_row", "_law_points_here", "_law_pairs_here", "_law_due", "_law_at", "_law_x", "_law_sign"]) (sc0:=xo s_aq) (by decide +kernel) rfl rfl rfl) (xc8 (xa1 (xag hr) (pv 0) (xw) (fun _ _=>rfl))) (fun _ _ _ _ _ ow nd=>(xaf rfl (xq (xp (i:=0) nd rfl (Zn (ow _ (by simp))) (ZX (ow _ (by simp)))) (xq (xaf rfl (xq (xp (i:=1) nd rfl (Zn (ow _ (by simp))) (ZX (ow _ (by simp)))) (xq (xp (i:=2) nd rfl (Zn (ow _ (by simp))) (ZX (ow _ (by simp)))) (xab))):PG _ _ (gTup K 2 _)) (xab))):PG _ _ (gTup K 2 _))) (xdc (xbc (by decide) (xfe (by decide) (by decide) (xco)))) (fun _ _ _ _ _=>xbf) (fun _ _ _ _ _=>x9 (xb (pv 0) (xb (pv 1) (xb (pv 2) (xf))))) (j:=7) rfl (Zn rfl)))
   (xj (xd9 (xbu rfl (xaw (zs:=["_law_name", "_law_side", "_law_row"]) (ys:=[]) (fr:=[]) (N0:=["_law_state", "_law_rows", "_law_place", "_law_width", "_law_name", "_law_side", "_law_row", "_law_points_here", "_law_pairs_here", "_law_due", "_law_at", "_law_x", "_law_sign"]) (sc0:=xo s_aq) (by decide +kernel) rfl rfl rfl) (xc8 (xa1 (xag hr) (pv 0) (xw) (fun _ _=>rfl))) (fun _ _ _ _ _ ow nd=>(xaf rfl (xq (xp (i:=0) nd rfl (Zn (ow _ (by simp))) (ZX (ow _ (by simp)))) (xq (xaf rfl (xq (xp (i:=1) nd rfl (Zn (ow _ (by simp))) (ZX (ow _ (by simp)))) (xq (xp (i:=2) nd rfl (Zn (ow _ (by simp))) (ZX (ow _ (by simp)))) (xab))):PG _ _ (gTup K 2 _)) (xab))):PG _ _ (gTup K 2 _))) (xdc (xbc (by decide) (xfe (by decide) (by decide) (xco)))) (fun _ _ _ _ _=>xbf) (fun _ _ _ _ _=>x9 (xb (pv 0) (xb (pv 1) (xb (pv 2) (xf))))) (j:=8) rfl (Zn rfl)))
   (xj (xv (i:=9) sc_aq.nd rfl (Zn rfl) (xr (ok_ac T) (hmm hr) rfl T.g_ac T.F_ac.kp T.b_ac .nil xn (xx (pv 3) (xx (x5 xa8 rfl T.n_len Ju (xb (pv 1) (xf))) (xx (pv 7) (xx (xa1 (xag hr) (pv 0) (xw) (fun _ _=>rfl)) (xx (pv 8) (xf) rfl) rfl) rfl) rfl) rfl)))
   (xj (xar ZC rfl (xcg rfl T.n_enumerate (xb (pv 1) (xf))) (xaf rfl (xq (xp (i:=10) sc_aq.nd rfl (Zn rfl)) (xq (xp (i:=6) sc_aq.nd rfl (Zn rfl)) (xab)))) (xk (xar ZC rfl (xf9 rfl T.n_enumerate (xb (pv 6) (xf))) (xaf rfl (xq (xp (i:=11) sc_aq.nd rfl (Zn rfl)) (xq (xp (i:=12) sc_aq.nd rfl (Zn rfl)) (xab)))) (xk (xad (x6 xd7 (xaj xfv (xaj xbp (pv 9) (pv 10) (fun _ _=>rfl)) (pv 11) (fun _ _=>rfl)) (pv 12) (x8 _)) (xk (xz (x9 (xb (pv 10) (xb (pv 11) (xf)))))) (x4))))))
   (xk (xz (xdr)))))))))),?_⟩
  obtain⟨l0,hl,nl,tx,qB,q⟩:=h;have h1:=tx.h1;have h2:=tx.h2;have w1:=tx.w1;have w2:=tx.w2;obtain⟨r0,hr0⟩:∃ r,G[0]?=some r:=⟨_,Zg h1⟩
  have lr0:=tx.wd r0 (Zk hr0);obtain⟨ko0,hko0,_⟩:=l0.ou;obtain⟨ki0,hki0,_⟩:=l0.inn;refine⟨_,rfl,_,rfl,st,di,do_,ls,l,w',G,rfl,l0,hl,nl,tx,fun H1 k s qa b1 am hs my hq=>?_,fun H1 b1 am l1=>?_⟩
  .exact ⟨_,rfl,rfl,_,rfl,ifP (by rw[decide_eq_false (fun z=>nomatch z)]; rfl) ⟨_,rfl,qB H1 s.1 s.2.1 qa b1 (.may k s am hs my) hq⟩⟩
  have l1:LS H1 st di do_ ls (((sgs G).take (sgs G).length).filter (outP (w'+1))) (((sgs G).take (sgs G).length).filter (innP (w'+1))) (((sgs G).take (sgs G).length).filter (rimQ (w'+1))):=l1;rw[Jz] at l1;have l1:LS H1 st di do_ ls (outs w' G) (inns w' G) (rims w' G):=l1;refine⟨_,rfl,rfl,_,rfl,ifN (by decide) ?_⟩;have hl1:H1 l=some (.lst (GV G)):=b1 _ _ (ne_f hl hki0) (ne_f hl hko0) nl hl;refine⟨_,rfl,l,_,0,.str (ofL r0),rfl,rfl,SqL.of hl1,?_,_,rfl,?_,_,_,rfl,rfl,?_⟩
  .show atI (GV G) ((0:Nat):Int)=_;exact xba (xel hr0)
  .rw [xau,lr0];exact xb5 (by omega)
  obtain⟨ko,hko,ldo⟩:=l1.ou;obtain⟨ki,hki,ldi⟩:=l1.inn;have dgo:DGet H1 st (.str (Zb "outer")) (some (.ref do_)):=by
   have z:=DGet.k (k:=.inr "outer") l1.hs;rw[xhw] at z;exact z
  refine⟨_,rfl,st,_,rfl,dgo,do_,ko,rfl,hko,fun ob nf=>?_⟩;refine xjz (Pv:=fun k Z H6=>∃(v4 v5 v6:Option V),Z=[some (.ref st),some (.ref l),some .non,some (.int (w':Int)),v4,v5,v6,none,none,none,none,none,none]/\H6 do_=some (.frz ob (.dK ko))/\(∀ b u,b≠do_->H1 b=some u->H6 b=some u)/\∀ n s,n<k->(outs w' G)[n]?=some s->s.2.2∈(inns w' G).map fun s=>s.2.2) ?_ ?_ ?_ ?_
  .refine ⟨none,none,none,?_,xh,fun b u nb e=>by rw[xg nb]; exact e,fun n s z=>absurd z (by omega)⟩;have e:((ofL r0).length:Int)-2=(w':Int):=by
    rw[xau,lr0];omega
   show [_,_,_,some (V.int (((ofL r0).length:Int)-2)),_,_,_,_,_,_,_,_,_]=_;rw[e]
  .rintro k Z H6 _ ⟨_,_,_,rfl,e6,_,_⟩;exact e6
  .rintro n k x p Z H6 hx hp ⟨v4,v5,v6,rfl,e6,k6,ou6⟩;obtain⟨s,qa,hs,rfl,rfl,hqa⟩:=ldo.get hx;generalize eu:upd H6 p (.tup [kV (.inr (ofL [s.2.2])),.ref qa])=H7;have s7:=su_e hp eu;have g7:=ug_e eu;have k7:∀ b u,b≠do_->H1 b=some u->H7 b=some u:=fun b u nb e=>s7 _ _ (k6 _ _ nb e);have e7:=s7 _ _ e6;have hqa7:=k7 _ _ (ne_f hqa hko) hqa;refine⟨p,_,rfl,SqT.of g7,rfl,_,_,rfl,_,_,rfl,qa,_,rfl,SqT.of hqa7,rfl,_,_,rfl,_,_,rfl,rfl,rfl,?_⟩;have dgi7:DGet H7 st (.str (Zb "inner")) (some (.ref di)):=by
    have z:=DGet.k (k:=.inr "inner") (k7 _ _ l1.n2 l1.hs);rw[xkb] at z;exact z
   refine⟨_,rfl,_,rfl,st,_,rfl,dgi7,di,_,rfl,DGet.k (k:=.inr (ofL [s.2.2])) (k7 _ _ (ZE l1.n1) hki),_,rfl,?_⟩;rw[ldi.is];refine ite2 (fun c=>?_) (fun c=>?_)
   .have ni:¬ s.2.2∈(inns w' G).map fun s=>s.2.2:=fun z=>by
     rw[decide_eq_true z] at c;cases c
    have rm:rimB (w'+1) s.2.1=true:=by
     have z:=(ZT.mp (Zk hs)).2;unfold outP at z;exact (Zs _ _▸z).1
    refine⟨_,rfl,_,_,rfl,rfl,_,rfl,_,rfl,(w':Int),xct s.2.1,rfl,fun H8 s8=>⟨(by exact leS2),fun qt hqt=>?_⟩⟩;refine qB _ s.1 s.2.1 qt (fun b u c1 c2 c3 e=>xaa (Same.refl _) hqt _ _ (s8 _ _ (k7 _ _ c2 (b1 _ _ c1 c2 c3 e)))) (.out n s am hs ou6 ni) ?_;rw[xh];show some (HO.tup [V.int ((s.1:Int)+1-1),V.int (Drw.rim w' (xct s.2.1))])=_;rw[show (s.1:Int)+1-1=(s.1:Int) by omega,xva rm]
   .have yi:s.2.2∈(inns w' G).map fun s=>s.2.2:=by
     by_cases z:s.2.2∈(inns w' G).map fun s=>s.2.2
     .exact z
     .exact absurd (by rw[decide_eq_false z]; rfl) c
    refine⟨_,_,_,rfl,e7,k7,fun n' s' hn' hs'=>?_⟩;by_cases z:n'=n
    .subst z;rw[hs] at hs';cases hs';exact yi
    .exact ou6 n' s' (by omega) hs'
  rintro Z H6 ⟨v4,v5,v6,rfl,e6,k6,ou6⟩;have kol:=ldo.len;have kil:=ldi.len;have g:xce w' G:=xmp tx am fun s hs=>by
   obtain⟨n,hn⟩:=JU.mp hs;exact ou6 n s (by rw[kol]; exact (Zf.mp hn).1) hn
  refine⟨do_,ob,.dK ko,e6,nf,?_⟩;have s7:Same H1 (upd H6 do_ (.dK ko)):=fun b u e=>by
   by_cases z:b=do_
   .subst z;rw[xh,<- e,hko]
   .rw [xg z];exact k6 _ _ z e
  revert s7;generalize upd H6 do_ (.dK ko)=H7;intro s7;clear e6 k6 nf;have pal:=xig g (.refl _) (.refl _);have ol:(outs w' G).length<=12:=by
   have z:=pal.len;rw[Za] at z;exact z
  have il:=g.in2;have hki7:=s7 _ _ hki;have l7:=l1.same s7;have dgi7:DGet H7 st (.str (Zb "inner")) (some (.ref di)):=by
   have z:=DGet.k (k:=.inr "inner") l7.hs;rw[xkb] at z;exact z
  refine⟨_,rfl,st,_,rfl,dgi7,di,ki,rfl,hki7,fun ob2 nf2 lp hlp=>?_⟩;have nlp:lp≠di:=fun z=>by
   rw[z,xh] at hlp;cases hlp
  refine xfl xh (by rw[kil]; exact xa2 (by omega)) hlp (fun j y H5=>∃ q s,y=.ref q/\(inns w' G)[j]?=some s/\H5 q=some (.tup (p3 s))) (fun j y H5 H6 tp ⟨q,s,e1,e2,e3⟩=>⟨q,s,e1,e2,tp _ _ e3⟩) (fun j k x p H8 hx s8 hp N hN=>?_) (fun ys H8 s8 e8 ly fy=>?_)
  .obtain ⟨z,qa,hz,rfl,rfl,hqa⟩:=ldi.get hx;have hqa7:=s7 _ _ hqa;have hq8:H8 qa=some (.tup (ceV z)):=s8 _ _ (by rw[xg (ne_f hqa7 hki7)]; exact hqa7);refine⟨p,_,rfl,SqT.of hp,rfl,_,_,rfl,_,_,rfl,qa,_,rfl,SqT.of hq8,rfl,_,_,rfl,_,_,rfl,rfl,rfl,?_⟩;exact⟨_,rfl,_,rfl,_,rfl,(by exact leS3),fun u hu=>hN _ _ (xaa (Same.refl _) hu) ⟨u,z,rfl,hz,xh⟩⟩
  have hi8:=s8 _ _ (show upd H7 di (.frz ob2 (.dK ki)) di=_ from xh);refine⟨di,ob2,.dK ki,hi8,nf2,?_⟩;have s9:Same H7 (upd H8 di (.dK ki)):=fun b u e=>by
   by_cases z:b=di
   .subst z;rw[xh,<- e,hki7]
   .rw [xg z];exact s8 _ _ (by rw[xg z]; exact e)
  have t9:Tups H8 (upd H8 di (.dK ki)):=fun b xs e=>by
   rw[xg (ne_f e hi8)];exact e
  have e9:upd H8 di (.dK ki) lp=some (.lst ys):=by
   rw[xg nlp];exact e8
  revert s9 t9 e9;generalize upd H8 di (.dK ki)=H9;intro s9 t9 e9;obtain⟨qs,rfl,tl9⟩:=TL.pick (f:=p3) (H:=H9) (as:=inns w' G) (ys:=ys) (by rw[ly,kil]) (fun j y a hy ha=>by
   obtain⟨q,s,e1,e2,e3⟩:=fy j y hy;rw[ha] at e2;cases e2;exact⟨q,e1,t9 _ _ e3⟩)
  clear t9 e8 s8 fy hi8 nf2;have l9:=l7.same s9;have hko9:=s9 _ _ (s7 _ _ hko);have dgo9:DGet H9 st (.str (Zb "outer")) (some (.ref do_)):=by
   have z:=DGet.k (k:=.inr "outer") l9.hs;rw[xhw] at z;exact z
  refine⟨_,rfl,st,_,rfl,dgo9,do_,ko,rfl,hko9,fun ob3 nf3 lr hlr=>?_⟩;have nlr:lr≠do_:=fun z=>by
   rw[z,xh] at hlr;cases hlr
  refine xfl xh (by rw[kol]; exact xa2 (by omega)) hlr (fun j y H5=>∃ q s,y=.ref q/\(outs w' G)[j]?=some s/\H5 q=some (.tup (prV (toPr w' G s)))) (fun j y H5 H6 tp ⟨q,s,e1,e2,e3⟩=>⟨q,s,e1,e2,tp _ _ e3⟩) (fun j k x p H10 hx s10 hp N hN=>?_) (fun zs H10 s10 e10 lz fz=>?_)
  .obtain ⟨s,qa,hz,rfl,rfl,hqa⟩:=ldo.get hx;have hqa9:=s9 _ _ (s7 _ _ hqa);have hq10:H10 qa=some (.tup (stV s)):=s10 _ _ (by rw[xg (ne_f hqa9 hko9)]; exact hqa9);refine⟨p,_,rfl,SqT.of hp,rfl,_,_,rfl,_,_,rfl,qa,_,rfl,SqT.of hq10,rfl,_,_,rfl,_,_,rfl,rfl,rfl,?_⟩;refine⟨_,rfl,_,rfl,_,rfl,(by exact leS3),fun u hu=>hN _ _ (xaa (Same.refl _) hu) ⟨u,s,rfl,hz,?_⟩⟩;obtain⟨_,_,_,z,_,ez,et⟩:=xdt g (Zk hz);rw[xh,et];show some (HO.tup ([V.str (ofL [s.2.2])]++xb8 (xa5 s)))=some (HO.tup (.str (ofL [z.2.2])::xb8 (xa5 s)));rw[ez];rfl
  have hi10:=s10 _ _ (show upd H9 do_ (.frz ob3 (.dK ko)) do_=_ from xh);refine⟨do_,ob3,.dK ko,hi10,nf3,?_⟩;have s11:Same H9 (upd H10 do_ (.dK ko)):=fun b u e=>by
   by_cases z:b=do_
   .subst z;rw[xh,<- e,hko9]
   .rw [xg z];exact s10 _ _ (by rw[xg z]; exact e)
  have t11:Tups H10 (upd H10 do_ (.dK ko)):=fun b xs e=>by
   rw[xg (ne_f e hi10)];exact e
  have e11:upd H10 do_ (.dK ko) lr=some (.lst zs):=by
   rw[xg nlr];exact e10
  revert s11 t11 e11;generalize upd H10 do_ (.dK ko)=H11;intro s11 t11 e11;obtain⟨ts,rfl,pr11⟩:=PrsL.pick (H:=H11) (ps:=(outs w' G).map (toPr w' G)) (ys:=zs) (by rw[lz,kol,Za]) (fun j y p hy hp=>by
   obtain⟨q,s,e1,e2,e3⟩:=fz j y hy;rw[Ze,e2] at hp;cases hp;exact⟨q,e1,t11 _ _ e3⟩)
  clear t11 e10 s10 fz hi10 nf3;have l11:=l9.same s11;have s111:=(s7.trans s9).trans s11;obtain⟨rs,hls11,tls⟩:=l11.se;have dgs11:DGet H11 st (.str (Zb "seats")) (some (.ref ls)):=by
   have z:=DGet.k (k:=.inr "seats") l11.hs;rw[xki] at z;exact z
  have sok:=xht g;have pok:=xe9 g (.refl _);have o:Pict w' G.length ((inns w' G).map (toPt G.length)) (rimS w' G) ((outs w' G).map (toPr w' G)):=⟨by omega,by omega,h1,h2,pok,sok,pal⟩
  refine⟨_,rfl,_,rfl,l,_,rfl,.inl (SqL.of (s111 _ _ hl1)),_,rfl,_,rfl,st,_,rfl,dgs11,_,rfl,w',G.length,lp,ls,lr,_,rimS w' G,_,qs,rs,ts,?_,by omega,by omega,h2,s11 _ _ e9,(tl9.keep (Same.tups s11)).ptsB,pok,hls11,tls.seats,sok.2.1,e11,pr11,pal,fun H12 ld s12 fld e12=>?_⟩
  .rw [xb0];rfl
  have e12:H12 ld=some (.lst (xcq w' G.length (xb2 w' G))):=e12;have one:One (xb2 w' G):=o.one;have s112:=s111.trans s12;have hl12:=s112 _ _ hl1;refine⟨_,rfl,l,_,rfl,SqL.of hl12,?_⟩;refine xdu (xs:=GV G) (Pv:=fun i Z H13=>∃(v6 v10 v11 v12:Option V),Z=[some (.ref st),some (.ref l),some .non,some (.int (w':Int)),v4,v5,v6,some (.ref lp),some (.ref lr),some (.ref ld),v10,v11,v12]/\Same H12 H13/\∀ k s,k<i*(w'+2)->(sgs G)[k]?=some s->cd (xb2 w' G) ((s.2.1:Int),1+(s.1:Int))=s.2.2) ⟨_,_,_,_,rfl,Same.refl _,fun k s z=>absurd z (by omega)⟩ ?_ ?_ ?_
  .rintro i Z H13 _ ⟨_,_,_,_,rfl,s13,_⟩;exact SqL.of (s13 _ _ hl12)
  .rintro i x p Z H13 hx hp ⟨v6',v10,v11,v12,rfl,s13,al13⟩;unfold GV at hx;rw[Ze,Zj] at hx;obtain⟨r,hr,rfl⟩:=hx;have gi:=(Zf.mp hr).1;have rw':=tx.wd r (Zk hr);generalize eu:upd H13 p (.tup [.int (i:Int),.str (ofL r)])=H14;have s14:=su_e hp eu;have g14:=ug_e eu;refine⟨p,_,rfl,SqT.of g14,rfl,_,_,rfl,_,_,rfl,rfl,?_⟩;refine⟨_,rfl,ofL r,rfl,xi3 (tx.asc r (Zk hr)),?_⟩;refine xib (Pv:=fun j Z H15=>∃(v11 v12:Option V),Z=[some (.ref st),some (.ref l),some .non,some (.int (w':Int)),v4,v5,some (.str (ofL r)),some (.ref lp),some (.ref lr),some (.ref ld),some (.int (i:Int)),v11,v12]/\Same H12 H15/\∀ k s,k<i*(w'+2)+j->(sgs G)[k]?=some s->cd (xb2 w' G) ((s.2.1:Int),1+(s.1:Int))=s.2.2) ⟨_,_,rfl,s13.trans s14,al13⟩ ?_ ?_
   .rintro j c p2 Z H15 hc hp2 ⟨v11,v12,rfl,s15,al15⟩;rw[xah] at hc;have hs:=xoj tx hr hc;have jl:=(Zf.mp hc).1;generalize eu:upd H15 p2 (.tup [.int (j:Int),sgn c])=H16;have s16:=su_e hp2 eu;have g16:=ug_e eu;refine⟨p2,_,rfl,SqT.of g16,rfl,_,_,rfl,_,_,rfl,rfl,?_⟩;have rt:=xio one w' (1+(i:Int));refine⟨_,rfl,_,rfl,ld,_,_,.str (rowT w' (1+(i:Int)) (xb2 w' G)),rfl,rfl,SqL.of (s16 _ _ (s15 _ _ e12)),?_,_,rfl,_,_,cd (xb2 w' G) ((j:Int),1+(i:Int)),rfl,rfl,?_,?_,_,rfl,rfl,_,rfl,ite2 (fun cc=>?_) (fun cc=>?_)⟩
    .refine xba ?_;unfold xcq;rw[Ze,Jj gi];rfl
    .rw [rt,xau];unfold rowC;rw[Za,Zr];exact xb5 (by omega)
    .rw [rt,xah];refine xba ?_;unfold rowC;rw[Ze,Jj (by omega)];rfl
    .have ne:cd (xb2 w' G) ((j:Int),1+(i:Int))≠c:=fun z=>by
      rw[z] at cc;simp[sgn] at cc
     refine⟨_,rfl,_,rfl,(by exact leS2),fun qt hqt=>?_⟩;exact qB _ i j qt (fun b u c1 c2 c3 e=>xaa (Same.refl _) hqt _ _ (s16 _ _ (s15 _ _ (s112 _ _ (b1 _ _ c1 c2 c3 e))))) (xby.drawn (s:=(i,j,c)) g al15 hs ne) xh
    .have eq:cd (xb2 w' G) ((j:Int),1+(i:Int))=c:=by
      by_cases z:cd (xb2 w' G) ((j:Int),1+(i:Int))=c
      .exact z
      .have y:¬ V.str ⟨#[cd (xb2 w' G) ((j:Int),1+(i:Int))]⟩=sgn c:=fun y=>z (xcd (V.str.inj y));exact absurd (by rw[decide_eq_false y]; rfl) cc
     refine⟨_,_,rfl,s15.trans s16,fun k s' hk hs'=>?_⟩;by_cases z:k=i*(w'+2)+j
     .subst z;rw[hs] at hs';cases hs';exact eq
     .exact al15 k s' (by omega) hs'
   .rintro Z H15 ⟨v11,v12,rfl,s15,al15⟩;have e:i*(w'+2)+(ofL r).cps.toList.length=(i+1)*(w'+2):=by
     rw[xah,rw',QT,QR]
    rw[e] at al15;exact⟨_,_,_,_,rfl,s15,al15⟩
  .rintro Z H13 ⟨v6',v10,v11,v12,rfl,s13,al13⟩;have sl:(sgs G).length=G.length*(w'+2):=xcw tx _ (Zl _);rw[xb0,<- sl] at al13;have s113:=s112.trans s13;exact q H13 (fun b u c1 c2 c3 e=>s113 _ _ (b1 _ _ c1 c2 c3 e)) g (fun s hs=>by
    obtain⟨k,hk⟩:=JU.mp hs;exact al13 k s (Zf.mp hk).1 hk) (l11.same (s12.trans s13))
theorem xj9.sm {t:Adr}{H H':Hp}{q b dp do_ lp:Addr}{ts:List Addr}{w:Nat}{G:List (List Nat)}{es fs:List Sg} (sn:xj9 t H q b dp do_ lp ts w G es fs) (s:Same H H'):xj9 t H' q b dp do_ lp ts w G es fs:=⟨sn.pe,sn.le,sn.pf,sn.lf,s _ _ sn.q,sn.dr.same s,s _ _ sn.lp,sn.pr.keep (Same.tups s)⟩
theorem xkl.aln {t:Adr}{H:Hp}{q b dp do_ lp:Addr}{ts:List Addr}{w:Nat}{G:List (List Nat)}{es fs:List Sg} (f:xkl t H q b dp do_ lp ts w G es fs):∀ s∈sgs G,cd (xb2 w G) ((s.2.1:Int),1+(s.1:Int))=s.2.2:=by
 have z:=f.al;rw[xe4 f.g f.sn.pe f.sn.pf] at z;exact z
def xv4 (t:Adr) (H:Hp) (p:Addr) (w:Nat) (G:List (List Nat)):Prop :=
 (∃(qt b dp do_ lp:Addr) (ts:List Addr) (es fs:List Sg),H p=some (.tup [.ref qt,.non])/\xkl t H qt b dp do_ lp ts w G es fs) \/
 ∃(u:Addr) (i j:Nat),H p=some (.tup [.non,.ref u])/\H u=some (.tup [.int (i:Int),.int (j:Int)])/\xby w G i j
inductive xr5 (t:Adr) (vs:List V) (H:Hp) (Q:VK) (_:XK):Prop
 | mk (l:Addr) (w:Nat) (G:List (List Nat)) (e_:vs=[.ref l]) (r_:H l=some (.lst (GV G))/\Txs (w+2) G/\∀ H' p,Same H H'->xv4 t H' p w G->Q (.ref p) H')
inductive xtp (t:Adr) (vs:List V) (H:Hp) (Q:VK) (_:XK):Prop
 | mk (l:Addr) (w:Nat) (G:List (List Nat)) (e_:vs=[.ref l]) (r_:H l=some (.lst (GV G))/\Txs (w+2) G/\∀ H',Same H H'->Q (.bl true) H')
theorem xvn (a b:Sg) (h:nmLt a b):¬ nmLt b a:=by
 unfold nmLt at *;omega
theorem ok_a7 (T:Txt w K mg t):FnOk true P w K mg base (CXo P w) 10 t.f_a7 t.d_a7 ["_law_rows"] (xr5 t):=by
 refine T.F_a7.okn (k:=9) sc_a7 (fun vs H Q E h=>?_) (fun cdv A outer s H vs Q E hr h=>?_)
 .obtain ⟨l,w',G,rfl,_⟩:=h;rfl
 .obtain ⟨l,w',G,rfl,h⟩:=h;refine⟨_,xj (xv (i:=1) sc_a7.nd rfl (Zn rfl) (xdr))
   (xj (xv (i:=2) sc_a7.nd rfl (Zn rfl) (xdr))
   (xj (xt9 (E:=(fun σ' e C' H'=>∃(i j:Nat) (q0:Addr),σ'=[some (.ref l),some .non,some .non,none]/\C'=t.C_b/\xby w' G i j/\xbw t H H' e (Er.badDrawing (.int (i:Int)) (.int (j:Int))))) rfl T.g_b T.mk_b sc_a7.nd (j:=3) rfl rfl rfl rfl (fun _ _ tk=>xk (xv (i:=1) sc_a7.nd rfl (Zn rfl) (xr (xp5 T) (hmm hr) rfl T.g_seen T.F_seen.kp T.b_seen .nil tk.pass (xb (pv 0) (xf))))) (fun _=>xk (xv (i:=2) sc_a7.nd rfl (Zn rfl) (x9 (xb ((xmm (pv 3) rfl:PE _ _ (tXF K _ _))) (xb ((xmm (pv 3) rfl:PE _ _ (tXF K _ _))) (xf)))))))
   (xk (xz (x9 (xb (pv 1) (xb (pv 2) (xf)))))))),?_⟩
  obtain⟨hl,tx,q⟩:=h;refine⟨?_,?_⟩
  .refine ⟨_,rfl,l,w',G,rfl,hl,tx,fun i j fb er her e H' ra=>⟨i,j,l,rfl,rfl,fb,by rw[her] at ra; exact ra⟩,fun H2 qt b dp do_ lp ts es fs s2 fd=>?_⟩;refine⟨_,rfl,_,rfl,(by exact leS2),fun p hp=>?_⟩;generalize eu:upd H2 p (.tup [.ref qt,.non])=H3;have s3:=su_e hp eu;have g3:=ug_e eu;exact q H3 p (s2.trans s3) (.inl ⟨qt,b,dp,do_,lp,ts,es,fs,g3,⟨fd.sn.sm s3,fd.g,fd.al⟩⟩)
  .rintro σ' e C' H' ⟨i,j,_,rfl,rfl,fb,s',ea⟩;rcases ea with⟨z,_⟩|⟨_,dx,he,hdx⟩
   .cases z
   refine⟨T.mk_b,T.mro_b,?_⟩;refine⟨_,rfl,e,_,dx,_,.int (i:Int),rfl,he,hdx,T.x_b,T.n_bl,lk_1,_,rfl,e,_,dx,_,.int (j:Int),rfl,he,hdx,T.x_b,T.n_bi,lk_2 (by decide +kernel),(by exact leS2),fun u hu=>?_⟩;generalize eu:upd H' u (.tup [.int (i:Int),.int (j:Int)])=H2;have s2:=su_e hu eu;have g2:=ug_e eu;refine⟨_,rfl,_,rfl,(by exact leS2),fun p hp=>?_⟩;generalize eu:upd H2 p (.tup [.non,.ref u])=H3;have s3:=su_e hp eu;have g3:=ug_e eu;exact q H3 p ((s'.trans s2).trans s3) (.inr ⟨u,i,j,g3,s3 _ _ g2,fb⟩)
theorem ok_as (T:Txt w K mg t):FnOk true P w K mg base (CXo P w) 11 t.f_as t.d_as ["_law_rows"] (xtp t):=by
 refine T.F_as.okn (k:=10) sc_as (fun vs H Q E h=>?_) (fun cdv A outer s H vs Q E hr h=>?_)
 .obtain ⟨l,w',G,rfl,_⟩:=h;rfl
 .obtain ⟨l,w',G,rfl,h⟩:=h;refine⟨_,xj ((by (with_reducible refine' xv (i:=1) ?n ?i ?x ?e ?s ?f); (case n=>exact sc_as.nd); (case i=>rfl); (case x=>exact Zn rfl); (case f=>exact Zn rfl); (case e=>((with_reducible refine' xm8 (xej xw xec (xej xw xec (xej xw (xbr xf) xm2))) ?a ?b ?c ?d); (case a=>rfl); (case b=>rfl); (case c=>simp); (case d=>decide))); (case s=>rfl)))
   (xj (xv (i:=2) sc_as.nd rfl (Zn rfl) (xr (ok_aq T) (hmm hr) rfl T.g_aq T.F_aq.kp T.b_aq .nil xn (xb (pv 1) (xb (pv 0) (xf)))))
   (xj (xd2 (xr (ok_a7 T) (hmm hr) rfl T.g_a7 T.F_a7.kp T.b_a7 .nil xn (xb (xcb xf4 rfl T.n_list boot_list (xb (pv 0) (xf))) (xf))) (xaf rfl (xq (xp (i:=3) sc_as.nd rfl (Zn rfl)) (xq (xp (i:=4) sc_as.nd rfl (Zn rfl)) (xab)))))
   (xj (xad (x6 xi4 (pv 2) (xdr) (x8 _)) (xk (xz (xcm (xcf xob (pv 3) (xdr) (x8 _)) (xc5 (xcf (xh1 (xch hr)) (pv 4) (pv 2) (x8 _)))))) (x4))
   (xj (xad (PW.pt (xb9 (x6 xi4 (pv 4) (xdr) (x8 _)) (xca (x6 xd7 (x5 xa8 rfl T.n_len Ju (xb (pv 3) (xf))) (xm) (x8 _))))) (xk (xz (xes))) (x4))
   (xj (xv (i:=5) sc_as.nd rfl (ZX rfl) (xa1 (xag hr) (pv 1) (xw) (fun _ _=>rfl)))
   (xj (xbu rfl (xaw (zs:=["_law_name"]) (ys:=["_law_rows", "_law_inner"]) (fr:=[0,5]) (N0:=["_law_rows", "_law_state", "_law_due", "_law_found", "_law_place", "_law_inner", "_law_points_here"]) (sc0:=xo s_as) (by decide +kernel) rfl rfl rfl) (xas (x5 (xeh rfl) rfl T.n_sorted PyProof.Rows.Boot.«sorted» (xb (pv 5) (xf)))) (fun _ _ _ _ _ ow nd=>xp (i:=0) nd rfl (Zn (ow _ (by simp))) (ZX (ow _ (by simp)))) (xbj (by decide)) (fun _ _ _ _ _=>xbf) (fun _ _ _ _ _=>x9 (xx (pv 0) (xx (xaj (r:=rIxT K) xa4 (xa1 (xag hr) (pv 2) (pv 0) (fun _ _=>rfl)) (xm) (fun _ _=>rfl)) (xx (xaj (r:=rIxT K) xa4 (xa1 (xag hr) (pv 2) (pv 0) (fun _ _=>rfl)) (xm) (fun _ _=>rfl)) (xx (xw) (xx (xm) (xx (x5 (r:=fun xs H Q=>∃ p ys,xs=[.ref p]/\(SqL K H p ys\/SqT K H p ys)/\Q (.int ys.length) H) xa8 rfl T.n_len Ju (xb (pv 1) (xf))) (xf) rfl) rfl) rfl) rfl) rfl) rfl)) (j:=6) rfl (Zn rfl))
   (xj (xad (PW.pt (xb9 (x6 (xe2 (xch hr)) (xbi (xaj xa4 (pv 3) (xm) (fun _ _=>rfl)) T.c_d T.m_m (ok_m T) (hmm hr) T.b_m .nil xn) (pv 6) (x8 _)) (xca (x6 (xe2 (xch hr)) (xbi (xaj xa4 (pv 3) (xm) (fun _ _=>rfl)) T.c_d T.m_x (ok_x T) (hmm hr) T.b_x .nil xn) (x5 (xf5 rfl) rfl T.n_sorted PyProof.Rows.Boot.«sorted» (xb (xa1 (xag hr) (pv 1) (xw) (fun _ _=>rfl)) (xf))) (x8 _))))) (xk (xz (xes))) (x4))
   (xk (xz (xcf (xh1 (xch hr)) (xaj xa4 (pv 3) (xm) (fun _ _=>rfl)) (x5 (xf5 rfl) rfl T.n_sorted PyProof.Rows.Boot.«sorted» (xb (xmz (xbx rfl (xaw (zs:=["_law_name", "_law_side", "_law_row"]) (ys:=[]) (fr:=[]) (N0:=["_law_rows", "_law_state", "_law_due", "_law_found", "_law_place", "_law_inner", "_law_points_here"]) (sc0:=xo s_as) (by decide +kernel) rfl rfl rfl) (xc8 (xa1 (xag hr) (pv 1) (xw) (fun _ _=>rfl))) (fun _ _ _ _ _ ow nd=>(xaf rfl (xq (xp (i:=0) nd rfl (Zn (ow _ (by simp))) (ZX (ow _ (by simp)))) (xq (xaf rfl (xq (xp (i:=1) nd rfl (Zn (ow _ (by simp))) (ZX (ow _ (by simp)))) (xq (xp (i:=2) nd rfl (Zn (ow _ (by simp))) (ZX (ow _ (by simp)))) (xab))):PG _ _ (gTup K 2 _)) (xab))):PG _ _ (gTup K 2 _))) (xdc (xbc (by decide) (xfe (by decide) (by decide) (xco)))) (fun _ _ _ _ _=>xbf) (fun _ _ _ _ _=>x9 (xb (pv 0) (xb (pv 1) (xb (pv 2) (xf))))))) (xf))) (x8 _))))))))))),?_⟩
  obtain⟨hl,tx,q⟩:=h;have h2:=tx.h2;refine fun st hst=>?_;generalize eu:upd H st (.dK [])=H1;have s1:=su_e hst eu;have g1:=ug_e eu;refine fun di hdi=>?_;generalize eu:upd H1 di (.dK [])=H2;have s2:=su_e hdi eu;have g2:=ug_e eu;refine fun do_ hdo=>?_;generalize eu:upd H2 do_ (.dK [])=H3;have s3:=su_e hdo eu;have g3:=ug_e eu;refine⟨(by exact leS0),fun ls hls=>?_⟩;generalize eu:upd H3 ls (.lst [])=H4;have s4:=su_e hls eu;have g4:=ug_e eu;refine⟨s4 _ _ (s3 _ _ (s2 _ _ g1)),[(.inr (Zb "inner"),.ref di),(.inr (Zb "outer"),.ref do_),(.inr (Zb "seats"),.ref ls)],rfl,(by show 3<=15; decide),?_⟩;have e5:upd H4 st (.dK (xc6 [] [(.inr (Zb "inner"),.ref di),(.inr (Zb "outer"),.ref do_),(.inr (Zb "seats"),.ref ls)])) st=some (.dK (stD di do_ ls)):=xh;have k5:∀ b u,b≠st->H4 b=some u->upd H4 st (.dK (xc6 [] [(.inr (Zb "inner"),.ref di),(.inr (Zb "outer"),.ref do_),(.inr (Zb "seats"),.ref ls)])) b=some u:=fun b u nb e=>by rw[xg nb]; exact e
  revert e5 k5;generalize upd H4 st (.dK (xc6 [] [(.inr (Zb "inner"),.ref di),(.inr (Zb "outer"),.ref do_),(.inr (Zb "seats"),.ref ls)]))=H5;intro e5 k5;have n2:st≠do_:=xi (s2 _ _ g1) hdo;have n3:st≠di:=xi g1 hdi;have n4:st≠ls:=xi (s3 _ _ (s2 _ _ g1)) hls;have lsk:LSk H5 st di do_ ls w' G 0:=⟨e5,⟨[],k5 _ _ (ZE n2) (s4 _ _ g3),.nil⟩,⟨[],k5 _ _ (ZE n3) (s4 _ _ (s3 _ _ g2)),.nil⟩,⟨[],k5 _ _ (ZE n4) g4,TL.nil⟩,ZE (xi g2 hdo),n2,n3⟩
  have s05:Same H H5:=fun b u e=>k5 _ _ (xi e hst) (s4 _ _ (s3 _ _ (s2 _ _ (s1 _ _ e))));have hls':∀ b u,H b=some u->b≠di/\b≠do_/\b≠ls:=fun b u e=>⟨xi (s1 _ _ e) hdi,xi (s2 _ _ (s1 _ _ e)) hdo,xi (s3 _ _ (s2 _ _ (s1 _ _ e))) hls⟩
  clear s1 s2 s3 s4 g1 g2 g3 g4 k5 e5 hdi hdo hls hst n2 n3 n4;refine⟨_,rfl,_,rfl,st,di,do_,ls,l,w',G,rfl,lsk,s05 _ _ hl,(hls' _ _ hl).2.2,tx,fun H6 i j qd b6 fb hq=>?_,fun H6 b6 g al l6=>?_⟩
  .have s06:Same H H6:=fun b u e=>b6 b u (hls' _ _ e).1 (hls' _ _ e).2.1 (hls' _ _ e).2.2 (s05 _ _ e);refine⟨_,rfl,l,_,rfl,.inl (SqL.of (s06 _ _ hl)),fun lh hlh=>?_⟩;generalize eu:upd H6 lh (.lst (GV G))=H7;have s7:=su_e hlh eu;have g7:=ug_e eu;refine⟨lh,w',G,rfl,g7,tx,fun H8 p s8 rd=>?_⟩;have s68:=s7.trans s8;rcases rd with⟨qt,b,dp,dq,lp,ts,es,fs,hp,fd⟩|⟨u,i',j',hp,hu,fb'⟩
   .exact (fb.no fd.g fd.aln).elim
   obtain⟨rfl,rfl⟩:=fb.one fb';refine⟨p,_,rfl,SqT.of hp,rfl,_,_,rfl,_,_,rfl,rfl,?_⟩;refine⟨_,rfl,rfl,_,rfl,ifP (by rw[decide_eq_false (fun z=>nomatch z)]; rfl) ?_⟩;refine⟨_,rfl,rfl,_,rfl,ifP (by decide) ?_⟩;refine⟨_,rfl,_,rfl,1,1,.tup [.int (i:Int),.int (j:Int)],.tup [.int (i:Int),.int (j:Int)],.tup (SqT.of hu) rfl (xdl (xs:=[.int (i:Int),.int (j:Int)]) rfl),.tup (SqT.of (s68 _ _ hq)) rfl (xdl (xs:=[.int (i:Int),.int (j:Int)]) rfl),by decide,by decide,?_⟩;rw[xdv];exact q H8 (s06.trans s68)
  have s06:Same H H6:=fun b u e=>b6 b u (hls' _ _ e).1 (hls' _ _ e).2.1 (hls' _ _ e).2.2 (s05 _ _ e);refine⟨_,rfl,l,_,rfl,.inl (SqL.of (s06 _ _ hl)),fun lh hlh=>?_⟩;generalize eu:upd H6 lh (.lst (GV G))=H7;have s7:=su_e hlh eu;have g7:=ug_e eu;refine⟨lh,w',G,rfl,g7,tx,fun H8 p s8 rd=>?_⟩;have s68:=s7.trans s8;have s08:=s06.trans s68;rcases rd.symm with⟨u,i',j',hp,hu,fb'⟩|⟨qt,b,dp,dq,lp,ts,es,fs,hp,fd⟩
  .exact (fb'.no g al).elim
  refine⟨p,_,rfl,SqT.of hp,rfl,_,_,rfl,_,_,rfl,rfl,?_⟩;have sn:=fd.sn;have sq:=sn.q;refine⟨_,rfl,rfl,_,rfl,ifN (by decide) ?_⟩;refine⟨_,rfl,rfl,_,rfl,iteF ?_⟩;refine⟨_,rfl,qt,_,rfl,.inr (SqT.of sq),rfl,_,rfl,ifN (by simp) ?_⟩;have l8:=l6.same s68;obtain⟨ki,hki,ldi⟩:=l8.inn;obtain⟨ko,hko,ldo⟩:=l8.ou;have dgi:DGet H8 st (.str (Zb "inner")) (some (.ref di)):=by
   have z:=DGet.k (k:=.inr "inner") l8.hs;rw[xkb] at z;exact z
  have il:=g.in2;have ind:=xiz g;refine⟨_,rfl,st,_,rfl,dgi,?_⟩;refine⟨_,rfl,di,(inns w' G).map (fun s=>ofL [s.2.2]),rfl,.inr ⟨ki,hki,ldi.keys⟩,(by rw[Za]; omega),fun l9 ns hl9 pm srt=>?_⟩;obtain⟨es',pe',rfl⟩:=xet pm rfl;have nde:=(pe'.map fun s=>s.2.2).nodup_iff.mpr ind;have ee:es'=es:=xc2 xvn (pe'.trans sn.pe.symm) (xfg srt nde) sn.le;subst ee;have esl:=pe'.length_eq;generalize eu:upd H8 l9 (.lst ((es'.map fun s=>ofL [s.2.2]).map V.str))=H9;have s9:=su_e hl9 eu;have g9:=ug_e eu;refine⟨l9,rfl,⟨_,SqL.of g9⟩,fun l10 hl10=>?_⟩;refine xeo (SqL.of g9) (by rw[Za,Za]; exact xa2 (by omega)) hl10 (fun j y H5=>∃ q s,y=.ref q/\es'[j]?=some s/\H5 q=some (.tup (.str (toPt G.length s).nm::ptV (toPt G.length s)))) (fun j y H5 H6 tp ⟨q,s,e1,e2,e3⟩=>⟨q,s,e1,e2,tp _ _ e3⟩) (fun j x H10 hx s10 N hN=>?_) (fun ys H10 s10 e10 ly fy=>?_)
  .rw [Ze,Ze] at hx;obtain⟨x2,hx2,rfl⟩:=Zj.mp hx;obtain⟨s,hs,rfl⟩:=Zj.mp hx2;have ms:=pe'.mem_iff.mp (Zk hs);have s810:=s9.trans s10;obtain⟨qa,hv,hqa⟩:=(ldi.keep (Same.tups s810)).at_ ms ind;have dg:=DGet.k (k:=.inr (ofL [s.2.2])) (s810 _ _ hki);rw[hv] at dg;refine⟨_,rfl,_,rfl,_,rfl,di,_,rfl,dg,qa,_,0,.int (s.2.1:Int),rfl,rfl,SqT.of hqa,rfl,_,rfl,_,rfl,di,_,rfl,dg,qa,_,1,.int ((s.1:Int)+1),rfl,rfl,SqT.of hqa,rfl,_,rfl,l,_,rfl,.inl (SqL.of (s810 _ _ (s08 _ _ hl))),(by exact leS6),fun u hu=>hN _ _ (xaa (Same.refl _) hu) ⟨u,s,rfl,hs,?_⟩⟩;rw[xh,xb0];rfl
  rw[Za,Za] at ly;obtain⟨us,rfl,pt10⟩:=PtsL.pick (H:=H10) (ps:=es'.map (toPt G.length)) (ys:=ys) (by rw[ly,Za]) (fun j y p hy hp=>by
   obtain⟨q,s,e1,e2,e3⟩:=fy j y hy;rw[Ze,e2] at hp;cases hp;exact⟨q,e1,e3⟩)
  have s810:=s9.trans s10;have sn10:=sn.sm s810;have dr10:=sn10.dr;have pic10:=dr10.pic;obtain⟨⟨dx,hpi⟩,_⟩:=id pic10;refine⟨_,rfl,qt,_,0,.ref b,rfl,rfl,SqT.of sn10.q,rfl,b,dx,_,rfl,hpi,xbl (by decide +kernel),b,dp,dq,_,_,_,rfl,pic10,fun H11 l11 ds s11 e11 pt11=>?_⟩;refine⟨_,rfl,2,2,_,_,pt11.dv e11,(pt10.keep (Same.tups s11)).dv (s11 _ _ e10),by decide,by decide,_,rfl,ifN (by rw[xdv]; decide) ?_⟩;have sn11:=sn10.sm s11;have dr11:=sn11.dr;have s811:=s810.trans s11;have l11':=l8.same s811;obtain⟨rs,hls11,tls⟩:=l11'.se;have dgs11:DGet H11 st (.str (Zb "seats")) (some (.ref ls)):=by
   have z:=DGet.k (k:=.inr "seats") l11'.hs;rw[xki] at z;exact z
  have sok:=xht g;refine⟨_,rfl,qt,_,0,.ref b,rfl,rfl,SqT.of sn11.q,rfl,b,dx,_,rfl,s11 _ _ hpi,xbl (by decide +kernel),b,dp,dq,_,_,_,_,rfl,dr11.pic,dr11.sts,fun l12 ss12 us12 hl12 sl12 pm12 lt12=>?_⟩;generalize eu:upd H11 l12 (.lst (us12.map V.ref))=H12;have s12:=su_e hl12 eu;have g12:=ug_e eu;refine⟨_,rfl,st,_,rfl,(by
   have z:=DGet.k (k:=.inr "seats") (s12 _ _ l11'.hs);rw[xki] at z;exact z),?_⟩
  unfold tNil;refine xlu (s12 _ _ hls11) (tls.seats.keep (Same.tups s12)) sok.1 sok.2.1 (fun l13 ss13 us13 hl13 sl13 pm13 lt13=>?_);have eqs:ss12=ss13:=xc2 xge (pm12.trans pm13.symm) lt12 lt13;subst eqs;generalize eu:upd H12 l13 (.lst (us13.map V.ref))=H13;have s13:=su_e hl13 eu;have g13:=ug_e eu;refine⟨2,2,_,_,((sl12.keep (Same.tups s12)).keep (Same.tups s13)).dv (s13 _ _ g12),(sl13.keep (Same.tups s13)).dv g13,by decide,by decide,_,rfl,ifN (by rw[xdv]; decide) ?_⟩;have s1113:=s12.trans s13;have s813:=s811.trans s1113;have sn13:=sn11.sm s1113;have l13':=l8.same s813;have hko13:=s813 _ _ hko;have ldo13:=ldo.keep (Same.tups s813);have kol:=ldo.len;have pal:=xig g (.refl _) (.refl _);have ol:(outs w' G).length<=12:=by
   have z:=pal.len;rw[Za] at z;exact z
  have dgo13:DGet H13 st (.str (Zb "outer")) (some (.ref do_)):=by
   have z:=DGet.k (k:=.inr "outer") l13'.hs;rw[xhw] at z;exact z
  refine⟨_,rfl,qt,_,1,.ref lp,rfl,rfl,SqT.of sn13.q,rfl,?_⟩;refine⟨_,rfl,st,_,rfl,dgo13,do_,ko,rfl,hko13,fun ob nf lr hlr=>?_⟩;have nlr:lr≠do_:=fun z=>by
   rw[z,xh] at hlr;cases hlr
  refine xfl xh (by rw[kol]; exact xa2 (by omega)) hlr (fun j y H5=>∃ q s,y=.ref q/\(outs w' G)[j]?=some s/\H5 q=some (.tup (prV (toPr w' G s)))) (fun j y H5 H6 tp ⟨q,s,e1,e2,e3⟩=>⟨q,s,e1,e2,tp _ _ e3⟩) (fun j k x p H14 hx s14 hp N hN=>?_) (fun zs H14 s14 e14 lz fz=>?_)
  .obtain ⟨s,qa,hz,rfl,rfl,hqa⟩:=ldo13.get hx;have hq14:H14 qa=some (.tup (stV s)):=s14 _ _ (by rw[xg (ne_f hqa hko13)]; exact hqa);refine⟨p,_,rfl,SqT.of hp,rfl,_,_,rfl,_,_,rfl,qa,_,rfl,SqT.of hq14,rfl,_,_,rfl,_,_,rfl,rfl,rfl,?_⟩;refine⟨_,rfl,_,rfl,_,rfl,(by exact leS3),fun u hu=>hN _ _ (xaa (Same.refl _) hu) ⟨u,s,rfl,hz,?_⟩⟩;obtain⟨_,_,_,z,_,ez,et⟩:=xdt g (Zk hz);rw[xh,et];show some (HO.tup ([V.str (ofL [s.2.2])]++xb8 (xa5 s)))=some (HO.tup (.str (ofL [z.2.2])::xb8 (xa5 s)));rw[ez];rfl
  have hi14:=s14 _ _ (show upd H13 do_ (.frz ob (.dK ko)) do_=_ from xh);refine⟨do_,ob,.dK ko,hi14,nf,?_⟩;have s15:Same H13 (upd H14 do_ (.dK ko)):=fun b u e=>by
   by_cases z:b=do_
   .subst z;rw[xh,<- e,hko13]
   .rw [xg z];exact s14 _ _ (by rw[xg z]; exact e)
  have t15:Tups H14 (upd H14 do_ (.dK ko)):=fun b xs e=>by
   rw[xg (ne_f e hi14)];exact e
  have e15:upd H14 do_ (.dK ko) lr=some (.lst zs):=by
   rw[xg nlr];exact e14
  revert s15 t15 e15;generalize upd H14 do_ (.dK ko)=H15;intro s15 t15 e15;obtain⟨vs15,rfl,pr15⟩:=PrsL.pick (H:=H15) (ps:=(outs w' G).map (toPr w' G)) (ys:=zs) (by rw[lz,kol,Za]) (fun j y p hy hp=>by
   obtain⟨q,s,e1,e2,e3⟩:=fz j y hy;rw[Ze,e2] at hp;cases hp;exact⟨q,e1,t15 _ _ e3⟩)
  clear t15 e14 s14 fz hi14 nf;show xfn [.ref lr] H15 _;refine xoq (f:=fun p:Pr=>prV p) (kf:=prK) (nm:=fun p=>p.1.nm) (sh:=shp (prK (⟨Zb "",0,0,Zb "",0,0⟩,true,0))) pr15.len (by rw[Za]; omega) e15 (fun i q e=>pr15.get e) (fun _=>rfl) (fun _=>⟨_,rfl⟩) (fun _ _=>rfl) (by decide) pal.nn (fun l16 bs ub hl16 pb lb tb lt16=>?_);generalize eu:upd H15 l16 (.lst (ub.map V.ref))=H16;have s16:=su_e hl16 eu;have g16:=ug_e eu;have eqp:fs.map (toPr w' G)=bs:=by
   refine xc2 (R:=fun a b:Pr=>xb1 a.1.nm<xb1 b.1.nm) (fun a b h1 h2=>by omega) ((sn.pf.map _).trans pb.symm) ?_ ?_
   .rw [ZB];refine Y6.imp_of_mem ?_ sn.lf;intro a b ha hb z;obtain⟨_,_,_,za,_,ea,ta⟩:=xdt g (sn.pf.mem_iff.mp ha);obtain⟨_,_,_,zb,_,eb,tb⟩:=xdt g (sn.pf.mem_iff.mp hb);rw[ta,tb];show xb1 (ofL [za.2.2])<xb1 (ofL [zb.2.2]);rw[xk6,xk6,ea,eb];exact z
   .refine Y6.imp_of_mem ?_ lt16;intro a b ha hb z;exact xs6 (pal.ok a (pb.mem_iff.mp ha)).nm (pal.ok b (pb.mem_iff.mp hb)).nm z
  subst eqp;have pr16:PrsL H15 (fs.map (toPr w' G)) ub:=by
   obtain⟨rs',er,k⟩:=PrsL.pick (H:=H15) (ps:=fs.map (toPr w' G)) (ys:=ub.map V.ref) (by rw[Za]; exact lb) (fun j y p hy hp=>by
    rw[Ze,Zj] at hy;obtain⟨qa,hqa,rfl⟩:=hy;obtain⟨p',hp',e⟩:=tb j qa hqa;rw[hp] at hp';cases hp';exact⟨qa,rfl,e⟩)
   have:ub=rs':=List.map_inj_right (fun _ _ z=>V.ref.inj z) |>.mp er
   rw[this];exact k
  have s1316:=s15.trans s16;refine⟨2,2,_,_,((sn13.pr.keep (Same.tups s1316))).dv (s1316 _ _ sn13.lp),(pr16.keep (Same.tups s16)).dv g16,by decide,by decide,?_⟩;rw[xdv];exact q _ (s08.trans (s813.trans s1316))
theorem xj2:∀ G:List (List Nat),YG (Zb "") (G.map ofL)=ofL G.flatten
 | []=>rfl
 | [r]=>by
  show ofL r=ofL (r++[]);rw[Jx]
 | r::r2::G=>by
  apply xds;have ih:=xj2 (r2::G);show (ofL r++Zb ""++YG (Zb "") ((r2::G).map ofL)).cps.toList=_;rw[ih,xb6,xb6,xah,xah,xah];show r++[]++(r2::G).flatten=r++(r2::G).flatten;rw[Jx]
theorem xi1 (a:Int) {n:Nat} (h:0<n):∃ k:Nat,a % (n:Int)=(k:Int)/\k<n:=by
 have z:=xdo a (show (0:Int)<(n:Int) by omega);exact⟨(a % (n:Int)).toNat,by omega,by omega⟩
theorem xqu {W:Nat}{G:List (List Nat)} (o:Txs W G):0<G.flatten.length/\G.flatten.length<=512:=by
 have h1:=o.h1;have h2:=o.h2;have w1:=o.w1;have w2:=o.w2;have e:∀ L:List (List Nat),(∀ r∈L,r.length=W)->L.flatten.length=L.length*W:=fun L=>by
  induction L with
  | nil=>intro _; simp
  | cons r L ih =>
   intro hL;rw[List.flatten_cons,Zp,ih fun x hx=>hL x (Zt _ hx),hL r Zv,ZI,QT,QR,Nat.add_comm]
 rw[e G o.wd];have a:1*3<=G.length*W:=YJ h1 w1;have b:G.length*W<=16*32:=YJ h2 w2;omega
theorem xiy (z:Str) (n:Nat) (k:Int) (hn:0<n) (hl:z.cps.toList.length=n) (all:∀ c∈z.cps.toList,c<128):∃ c,atI z.cps.toList (k % (n:Int))=some c/\c<128:=by
 obtain⟨j,ej,jl⟩:=xi1 k hn;have h:z.cps.toList[j]?=some (z.cps.toList[j]'(by omega)):=Zg (by omega);exact⟨_,by rw[ej]; exact xba h,all _ (Zk h)⟩
theorem xt1 (G:List (List Nat)):GV G=(G.map ofL).map V.str:=by
 unfold GV;rw[Z3];rfl
theorem xts {G:List (List Nat)}{y:Nat} (h:y<=G.length):cutV (GV G) none (some (y:Int))=GV (G.take y):=by
 unfold cutV;rw[HT.sIx_none,HT.sIx_nat,xb0,Nat.min_eq_left h,List.drop_zero,Nat.sub_zero];unfold GV;rw[Wn]
theorem xqv {G:List (List Nat)}{y:Nat} (h:y<=G.length):cutV (GV G) (some (y:Int)) none=GV (G.drop y):=by
 unfold cutV;rw[HT.sIx_none,HT.sIx_nat,xb0,Nat.min_eq_left h];unfold GV;rw[Wo,ZY (by rw[JR,Za]; omega)]
def putC (G:List (List Nat)) (y:Nat) (r:List Nat):List (List Nat):=G.take y++[r]++G.drop (y+1)
theorem xm3 {G:List (List Nat)}{y:Nat}{r:List Nat} (h:y<G.length):(putC G y r).length=G.length:=by
 unfold putC;rw[Zp,Zp,ZP,JR,Jc];omega
theorem xve {W:Nat}{G:List (List Nat)} (o:Txs W G) {y:Nat}{r:List Nat} (h:y<G.length) (hw:r.length=W) (ha:∀ c∈r,c<128):Txs W (putC G y r):=by
 have mem:∀ z∈putC G y r,z∈G\/z=r:=fun z hz=>by
  unfold putC at hz;rcases Z9.mp hz with hz|hz
  .rcases Z9.mp hz with hz|hz
   .exact .inl (List.mem_of_mem_take hz)
   .exact .inr (Z6.mp hz)
  .exact .inl (List.mem_of_mem_drop hz)
 refine⟨by rw[xm3 h]; exact o.h1,by rw[xm3 h]; exact o.h2,fun z hz=>?_,fun z hz=>?_,o.w1,o.w2⟩
 .rcases mem z hz with y|y
  .exact o.wd z y
  .rw [y];exact hw
 .rcases mem z hz with y|y
  .exact o.asc z y
  .rw [y];exact ha
theorem xsi (r:List Nat) (x c:Nat) (h:x<r.length):Yx (ofL r) none (some (x:Int))++(⟨#[c]⟩:Str)++Yx (ofL r) (some ((x:Int)+1)) none=ofL (r.take x++[c]++r.drop (x+1)):=by
 rw[xff (by omega),show (x:Int)+1=((x+1:Nat):Int) by omega,xhr (by omega)];apply xds;rw[xb6,xb6,xah,xah,xah]
inductive xua (vs:List V) (H:Hp) (Q:VK) (_:XK):Prop
 | mk (l:Addr) (cl:Int) (W:Nat) (G:List (List Nat)) (e_:vs=[.ref l,.int cl]) (r_:H l=some (.lst (GV G))/\Txs W G/\∀ H' l' G',Same H H'->H l'=none->H' l'=some (.lst (GV G'))->Txs W G'->Q (.ref l') H')
theorem ok_ai (T:Txt w K mg t):FnOk true P w K mg base (CXo P w) 2 t.f_ai t.d_ai ["_law_rows", "_law_cell"] (xua):=by
 refine T.F_ai.okn (k:=1) sc_ai (fun vs H Q E h=>?_) (fun cdv A outer s H vs Q E hr h=>?_)
 .obtain ⟨l,cl,W,G,rfl,_⟩:=h;rfl
 .obtain ⟨l,cl,W,G,rfl,h⟩:=h;refine⟨_,xj (xv (i:=2) sc_ai.nd rfl (Zn rfl) (xt xam (xr (ok_c T) (hmm hr) rfl T.g_c T.F_c.kp T.b_c .nil xn (xb (pv 1) (xb (xm) (xf)))) (x5 xa8 rfl T.n_len Ju (xb (pv 0) (xf)))))
   (xj (xv (i:=3) sc_ai.nd rfl (Zn rfl) (xt xam (xr (ok_c T) (hmm hr) rfl T.g_c T.F_c.kp T.b_c .nil xn (xb (pv 1) (xb (xm) (xf)))) (x5 xa7 rfl T.n_len Ju (xb (xaj xbp (pv 0) (xm) (fun _ _=>rfl)) (xf)))))
   (xj (xbk (xad (x6 xbh (xt xam (xr (ok_c T) (hmm hr) rfl T.g_c T.F_c.kp T.b_c .nil xn (xb (pv 1) (xb (xm) (xf)))) (xm)) (xm) (x8 _)) (xk (xv (i:=3) sc_ai.nd rfl (Zn rfl) (xaj xbp (xbr (xb (xm) (xb (xt xdq (x5 xa7 rfl T.n_len Ju (xb (xaj xbp (pv 0) (xm) (fun _ _=>rfl)) (xf))) (xm)) (xf)))) (xt xam (xr (ok_c T) (hmm hr) rfl T.g_c T.F_c.kp T.b_c .nil xn (xb (pv 1) (xb (xm) (xf)))) (xm)) (fun _ _=>rfl)))) (x4)))
   (xj (xv (i:=4) sc_ai.nd rfl (Zn rfl) (xr (ok_c T) (hmm hr) rfl T.g_c T.F_c.kp T.b_c .nil xn (xb (pv 1) (xb (xm) (xf)))))
   (xj (xv (i:=5) sc_ai.nd rfl (Zn rfl) (xcl Yj QN QM xit (xw) (xb (pv 0) (xf))))
   (xj (xv (i:=6) sc_ai.nd rfl (Zn rfl) (xaj xfv (xw) (xt xam (xt xiu (pv 4) (xm)) (xm)) (fun _ _=>rfl)))
   (xj (xbk (xad (x6 xbh (xt xam (pv 4) (xm)) (xm) (x8 _)) (xk (xv (i:=6) sc_ai.nd rfl (Zn rfl) (xaj xfv (pv 5) (xt xam (xt xiu (pv 4) (xm)) (x5 xa7 rfl T.n_len Ju (xb (pv 5) (xf)))) (fun _ _=>rfl)))) (x4)))
   (xj (xbk (xad (x6 xbh (xt xam (pv 4) (xm)) (xm) (x8 _)) (xk (xv (i:=6) sc_ai.nd rfl (Zn rfl) (xaj xfv (xw) (xt xam (xt xiu (pv 4) (xm)) (xm)) (fun _ _=>rfl)))) (x4)))
   (xj (xv (i:=7) sc_ai.nd rfl (Zn rfl) (xt xia (xt xia (xda xoi (xaj xbp (pv 0) (pv 2) (fun _ _=>rfl)) xe1 (xcy (pv 3))) (pv 6)) (xda xoi (xaj xbp (pv 0) (pv 2) (fun _ _=>rfl)) (xcy (xt xai (pv 3) (xm))) xe1)))
   (xk (xz (xt xf8 (xt xf8 (xda xgv (pv 0) xe1 (xcy (pv 2))) (xbr (xb (pv 7) (xf)))) (xda xgv (pv 0) (xcy (xt xai (pv 2) (xm))) xe1)))))))))))),?_⟩
  obtain⟨hl,o,q⟩:=h;have h1:=o.h1;have h2:=o.h2;have w1:=o.w1;have w2:=o.w2;have gl:=xb0 G;obtain⟨p1,p2⟩:=xqu o;obtain⟨r0,hr0⟩:∃ r,G[0]?=some r:=⟨_,Zg h1⟩
  have l0:=o.wd r0 (Zk hr0);have le:∀ z:List Nat,z.length=W->(ofL z).length<=sizeLine:=fun z hz=>by rw[xau,hz]; exact xb5 (by omega)
  have at0:atI (GV G) 0=some (.str (ofL r0)):=by
   show atI (GV G) ((0:Nat):Int)=_;exact xba (xel hr0)
  have le0:(ofL r0).length=W:=by rw[xau,l0]
  refine⟨_,rfl,cl,_,rfl,fun n1 _ _=>⟨_,rfl,l,_,rfl,.inl (SqL.of hl),_,_,rfl,rfl,(by omega),?_⟩⟩;obtain⟨y,ey,yl⟩:=xi1 n1 (n:=(GV G).length) (by omega);simp only[ey];refine⟨_,rfl,cl,_,rfl,fun n2 _ _=>⟨_,rfl,l,_,0,_,rfl,rfl,SqL.of hl,at0,_,rfl,le r0 l0,_,_,rfl,rfl,(by omega),?_⟩⟩;obtain⟨x,ex,xl⟩:=xi1 n2 (n:=(ofL r0).length) (by omega);simp only[ex];refine⟨fun Z H1=>∃ x:Nat,x<W/\Same H H1/\Z=[some (.ref l),some (.int cl),some (.int (y:Int)),some (.int (x:Int)),none,none,none,none],?_,?_⟩
  .refine ⟨_,rfl,cl,_,rfl,fun n3 _ _=>⟨_,_,rfl,rfl,(by show (0:Int)<3; decide),rfl,_,rfl,ite2 (fun z=>?_) (fun z=>⟨x,by omega,Same.refl _,rfl⟩)⟩⟩;refine⟨_,rfl,l,_,0,_,rfl,rfl,SqL.of hl,at0,_,rfl,le r0 l0,_,_,rfl,rfl,(by exact leS2),fun lx hlx=>?_⟩;have sx:Same H (upd H lx (.lst [.int 0,.int (((ofL r0).length:Int)-1)])):=xaa (Same.refl _) hlx;refine⟨_,rfl,cl,_,rfl,fun n4 _ _=>?_⟩;have m2:=xdo n4 (show (0:Int)<2 by decide);have e2:n4 % 2=0\/n4 % 2=1:=by omega
   have at2:∃ x2:Nat,x2<W/\atI [V.int 0,.int (((ofL r0).length:Int)-1)] (n4 % 2)=some (.int (x2:Int)):=by
    rcases e2 with e|e
    .exact ⟨0,by omega,by rw[e]; rfl⟩
    .exact ⟨W-1,by omega,by rw[e,le0,show ((W-1:Nat):Int)=(W:Int)-1 by omega]; rfl⟩
   obtain⟨x2,x2l,at2⟩:=at2;exact⟨_,_,rfl,rfl,(by show (0:Int)<2; decide),lx,_,_,_,rfl,rfl,SqL.of xh,at2,x2,x2l,sx,rfl⟩
  rintro Z H1 ⟨x,xl,s1,rfl⟩;have hl1:=s1 _ _ hl;have yg:y<G.length:=by omega
  obtain⟨r,hr'⟩:∃ r,G[y]?=some r:=⟨_,Zg yg⟩
  have rl:=o.wd r (Zk hr');have ra:=o.asc r (Zk hr');have aty:atI (GV G) (y:Int)=some (.str (ofL r)):=xba (xel hr');refine⟨_,rfl,cl,_,rfl,fun nb _ _=>?_⟩;refine⟨rfl,_,rfl,Zb "",l,G.map ofL,32,rfl,rfl,by rw[hl1,xt1],fun s hs=>?_,?_,?_⟩
  .obtain ⟨r,hr,rfl⟩:=Zh.mp hs;rw[xau,o.wd r hr];exact w2
  .rw [Za,show (Zb "").length=0 from by decide +kernel];exact xb5 (by omega)
  rw[xj2];have tl:(ofL G.flatten).length<=sizeLine:=by rw[xau]; exact xb5 (by omega)
  obtain⟨c0,hc0,c08⟩:=xiy (Zb " |-+#.|-+#.*A~\n\t") 16 (nb / 4) (by decide) (by decide +kernel) (by decide +kernel);refine⟨_,rfl,_,_,rfl,rfl,⟨by decide,by decide⟩,_,_,rfl,rfl,(by show (0:Int)<16; decide),_,_,c0,rfl,rfl,(by decide +kernel),hc0,?_⟩;refine⟨fun Z H2=>∃ c:Nat,c<128/\H1=H2/\Z=[some (.ref l),some (.int cl),some (.int (y:Int)),some (.int (x:Int)),some (.int nb),some (.str (ofL G.flatten)),some (sgn c),none],?_,?_⟩
  .refine ⟨_,rfl,_,_,rfl,rfl,(by show (0:Int)<4; decide),rfl,_,rfl,ite2 (fun z=>?_) (fun z=>⟨c0,c08,rfl,rfl⟩)⟩;obtain⟨c,hc,c8⟩:=xiy (ofL G.flatten) G.flatten.length (nb / 4) p1 (by rw[xah]) (fun c hc=>by
    rw[xah] at hc;obtain⟨r,hr,hc⟩:=List.mem_flatten.mp hc;exact o.asc r hr c hc)
   rw[<- xau] at hc;exact⟨_,rfl,_,rfl,_,_,rfl,rfl,⟨by decide,by decide⟩,_,rfl,_,rfl,tl,_,_,rfl,rfl,(by rw[xau]; omega),_,_,c,rfl,rfl,tl,hc,c,c8,rfl,rfl⟩
  rintro Z _ ⟨c1,c18,rfl,rfl⟩;refine⟨fun Z H2=>∃ c:Nat,c<128/\H1=H2/\Z=[some (.ref l),some (.int cl),some (.int (y:Int)),some (.int (x:Int)),some (.int nb),some (.str (ofL G.flatten)),some (sgn c),none],?_,?_⟩
  .refine ⟨_,rfl,_,_,rfl,rfl,(by show (0:Int)<4; decide),rfl,_,rfl,ite2 (fun z=>?_) (fun z=>⟨c1,c18,rfl,rfl⟩)⟩;obtain⟨c,hc,c8⟩:=xiy (Zb "abcdefghijklmnopqrstuvwxyz") 26 (nb / 4) (by decide) (by decide +kernel) (by decide +kernel);exact⟨_,rfl,_,_,rfl,rfl,⟨by decide,by decide⟩,_,_,rfl,rfl,(by show (0:Int)<26; decide),_,_,c,rfl,rfl,(by decide +kernel),hc,c,c8,rfl,rfl⟩
  rintro Z _ ⟨c,c8,rfl,rfl⟩;have la:(Yx (ofL r) none (some (x:Int))).length<=32:=by rw[xff (by omega),xau,ZP]; omega
  have lb:(Yx (ofL r) (some ((x:Int)+1)) none).length<=32:=by rw[show (x:Int)+1=((x+1:Nat):Int) by omega,xhr (by omega),xau,JR]; omega
  have lc:((⟨#[c]⟩:Str)).length=1:=rfl;have lab:(Yx (ofL r) none (some (x:Int))++(⟨#[c]⟩:Str)).length<=33:=by
   rw[xff (by omega)];show (((ofL (r.take x)).cps++#[c]).size)<=33;rw[Array.size_append];have:(ofL (r.take x)).cps.size=(r.take x).length:=xau _;rw[this,ZP];show min x r.length+1<=33;omega
  refine⟨_,rfl,_,rfl,l,_,_,_,rfl,rfl,SqL.of hl1,aty,_,rfl,_,rfl,_,rfl,le r rl,_,rfl,_,_,rfl,rfl,(by rw[lc]; exact xb5 (by omega)),?_⟩;refine⟨_,rfl,_,rfl,l,_,_,_,rfl,rfl,SqL.of hl1,aty,_,rfl,_,_,rfl,rfl,_,rfl,_,rfl,le r rl,_,_,rfl,rfl,Z8 (Nat.add_le_add lab lb) (Z8 (by decide:33+32<=1000) (by decide)),?_⟩;rw[xsi r x c (by omega)];refine⟨_,rfl,_,rfl,_,rfl,l,_,rfl,SqL.of hl1,fun la' hla=>?_⟩;rw[xts (by omega)];generalize eu:upd H1 la' (.lst (GV (G.take y)))=H2;have s2:=su_e hla eu;have g2:=ug_e eu;refine⟨_,rfl,(by exact leS1),fun lb' hlb=>?_⟩;generalize eu:upd H2 lb' (.lst [.str (ofL (r.take x++[c]++r.drop (x+1)))])=H3;have s3:=su_e hlb eu;have g3:=ug_e eu;have e3:=s3 _ _ g2;refine⟨la',lb',_,_,rfl,rfl,e3,g3,?_,fun lc' hlc=>?_⟩
  .rw [xb0,ZP,Jc];exact xb5 (by omega)
  generalize eu:upd H3 lc' (.lst (GV (G.take y)++[.str (ofL (r.take x++[c]++r.drop (x+1)))]))=H4;have s4:=su_e hlc eu;have g4:=ug_e eu;have s14:=(s2.trans s3).trans s4;refine⟨_,rfl,_,rfl,_,_,rfl,rfl,_,rfl,l,_,rfl,SqL.of (s14 _ _ hl1),fun ld hld=>?_⟩;show rCat _ _ _ _;rw[show (y:Int)+1=((y+1:Nat):Int) by omega,xqv (by omega)];generalize eu:upd H4 ld (.lst (GV (G.drop (y+1))))=H5;have s5:=su_e hld eu;have g5:=ug_e eu;refine⟨lc',ld,_,_,rfl,rfl,s5 _ _ g4,g5,?_,fun lr hlr=>?_⟩
  .rw [Zp,xb0,xb0,ZP,JR,Jc];exact xb5 (by omega)
  have ep:GV (G.take y)++[V.str (ofL (r.take x++[c]++r.drop (x+1)))]++GV (G.drop (y+1))=GV (putC G y (r.take x++[c]++r.drop (x+1))):=by
   unfold putC GV;rw[Z4,Z4];rfl
  rw[ep];generalize eu:upd H5 lr (.lst (GV (putC G y (r.take x++[c]++r.drop (x+1)))))=H6;have s6:=su_e hlr eu;have g6:=ug_e eu;have s15:=s14.trans s5;refine q H6 lr _ (s1.trans (s15.trans s6)) (s1.free (s15.free hlr)) g6 (xve o yg ?_ fun z hz=>?_)
  .rw [Zp,Zp,ZP,JR,Jc];omega
  .rcases Z9.mp hz with hz|hz
   .rcases Z9.mp hz with hz|hz
    .exact ra z (List.mem_of_mem_take hz)
    .rw [Z6.mp hz];exact c8
   .exact ra z (List.mem_of_mem_drop hz)
theorem xu4 (T:Txt w K mg t):FnOk true P w K mg base (CXo P w) 12 t.f_law t.d_law ["_law_script"] (xkn K):=by
 refine T.F_law.okn (k:=11) xc3 (fun vs H Q E h=>?_) (fun cdv A outer s H vs Q E hr h=>?_)
 .obtain ⟨sc,ns,rfl,_⟩:=h;rfl
 .obtain ⟨sc,ns,rfl,h⟩:=h;refine⟨_,xj (xd2 (xr (ok_a3 T) (hmm hr) rfl T.g_a3 T.F_a3.kp T.b_a3 .nil xn (xb (pv 0) (xf))) (xaf rfl (xq (xp (i:=1) xc3.nd rfl (Zn rfl)) (xq (xp (i:=2) xc3.nd rfl (Zn rfl)) (xab)))))
   (xj (xv (i:=3) xc3.nd rfl (Zn rfl) (xr (ok_a2 T) (hmm hr) rfl T.g_a2 T.F_a2.kp T.b_a2 .nil xn (xb (pv 0) (xb (pv 2) (xf)))))
   (xj (xv (i:=4) xc3.nd rfl (Zn rfl) (xr (ok_ap T) (hmm hr) rfl T.g_ap T.F_ap.kp T.b_ap .nil xn (xb (xda xgv (pv 0) (xcy (xm)) (xcy (xm))) (xb (pv 1) (xb (pv 2) (xf))))))
   (xj (xv (i:=5) xc3.nd rfl (Zn rfl) (xr (ok_ac T) (hmm hr) rfl T.g_ac T.F_ac.kp T.b_ac .nil xn (xx (pv 1) (xx (pv 2) (xx (pv 4) (xx (pv 3) (xx (xr (ok_ax T) (hmm hr) rfl T.g_ax T.F_ax.kp T.b_ax .nil xn (xb (xr (ok_aj T) (hmm hr) rfl T.g_aj T.F_aj.kp T.b_aj .nil xn (xb (pv 0) (xb (xm) (xf)))) (xb (pv 4) (xb (pv 2) (xb (pv 3) (xf)))))) (xf) rfl) rfl) rfl) rfl) rfl)))
   (xj (xv (i:=6) xc3.nd rfl (Zn rfl) (pv 5))
   (xj (xar ZC rfl (xas (xda xgv (pv 0) (xcy (xm)) (xcy (xm)))) (xp (i:=7) xc3.nd rfl (Zn rfl)) (xj (xbk (xad (x6 xka (xt xam (xr (ok_c T) (hmm hr) rfl T.g_c T.F_c.kp T.b_c .nil xn (xb (pv 7) (xb (xm) (xf)))) (xm)) (xm) (x8 _)) (xk (xv (i:=6) xc3.nd rfl (Zn rfl) (pv 5))) (x4)))
   (xj (xv (i:=6) xc3.nd rfl (Zn rfl) (xr (ok_ai T) (hmm hr) rfl T.g_ai T.F_ai.kp T.b_ai .nil xn (xb (pv 6) (xb (pv 7) (xf)))))
   (xk (xbk (xad (xbn (xay (xr (ok_as T) (hmm hr) rfl T.g_as T.F_as.kp T.b_as .nil xn (xb (pv 6) (xf))))) (xk (xz (xes))) (x4)))))))
   (xk (xz (xr (ok_as T) (hmm hr) rfl T.g_as T.F_as.kp T.b_as .nil xn (xb (pv 5) (xf)))))))))),?_⟩
  obtain⟨hs,nl,q⟩:=h;refine⟨_,rfl,sc,ns,rfl,hs,fun w' h' H1 p1 w1 w2 h1 h2 s1 g1=>⟨p1,_,rfl,SqT.of g1,rfl,_,_,rfl,_,_,rfl,rfl,?_⟩⟩;refine⟨_,rfl,_,rfl,sc,ns,h',rfl,Same.seqL s1 hs,h2,fun ss rs H2 ls l32 slt sb s2 fls e2 sl2=>?_⟩;have s02:=s1.trans s2;have sok:SsOk (h':Int) ss:=⟨xq6 slt,l32,sb⟩
  obtain⟨ms,ems,m12⟩:=xp3 ns;refine⟨_,rfl,3,rfl,15,rfl,sc,_,rfl,Same.seqL s02 hs,fun lc hlc=>?_⟩;rw[ems];generalize eu:upd H2 lc (.lst (ms.map V.int))=H3;have s3:=su_e hlc eu;have g3:=ug_e eu;refine⟨_,rfl,_,rfl,lc,ms,w',h',rfl,g3,m12,w1,w2,h1,h2,fun H5 lp ps qs pok _ s4 flp e5p pt5=>?_⟩;have s24:=s3.trans s4;have s05:=s02.trans s24;have e5s:=s24 _ _ e2;have sl5:=sl2.keep (Same.tups s24);refine⟨_,rfl,_,rfl,_,rfl,_,rfl,_,rfl,sc,ns,2,rfl,Same.seqL s05 hs,by decide,by decide,fun c2=>⟨_,rfl,_,rfl,_,rfl,w',c2,lp,ls,h',ps,ss,qs,rs,rfl,h2,e5p,pt5,pok,e5s,sl5,sok,fun H6 l prs ts pal s6 fl e6 pr6=>?_⟩⟩;have e6p:=s6 _ _ e5p;have pt6:=pt5.keep (Same.tups s6);have e6s:=s6 _ _ e5s;have sl6:=sl5.keep (Same.tups s6);have o:Pict w' h' ps ss prs:=⟨w1,w2,h1,h2,pok,sok,pal⟩
  refine⟨w',h',lp,ls,l,ps,ss,prs,qs,rs,ts,rfl,w1,w2,h2,e6p,pt6.b,pok,e6s,sl6,l32,e6,pr6,pal,fun H7 du s7 fdu e7=>?_⟩;rw[xrf o.one] at e7;have e7:H7 du=some (.lst (GV (xlc w' h' ps ss prs))):=e7;have tx:=o.tx;revert e7 tx;generalize xlc w' h' ps ss prs=G;intro e7 tx;have s07:=(s05.trans s6).trans s7;refine⟨_,rfl,?_⟩;obtain⟨m2,em2⟩:∃ m2:List Int,cutV (ns.map V.int) (some 15) (some 40)=m2.map V.int:=⟨_,by unfold cutV; rw[<- Wo,<- Wn]⟩
  refine⟨_,rfl,15,rfl,40,rfl,sc,_,rfl,Same.seqL s07 hs,fun lc2 hlc2=>?_⟩;rw[em2];generalize eu:upd H7 lc2 (.lst (m2.map V.int))=H8;have s8:=su_e hlc2 eu;have g8:=ug_e eu;have e8:=s8 _ _ e7;refine⟨lc2,rfl,⟨_,SqL.of g8⟩,?_⟩;refine xa9 (xs:=m2.map V.int) (Pv:=fun k Z H9=>∃(v7:Option V) (lx:Addr) (G':List (List Nat)),Z=[some (.ref sc),some (.int (w':Int)),some (.int (h':Int)),some (.ref ls),some (.ref lp),some (.ref du),some (.ref lx),v7]/\Same H8 H9/\H9 lx=some (.lst (GV G'))/\Txs (w'+2) G') ⟨_,du,G,rfl,Same.refl _,e8,tx⟩ ?_ ?_ ?_
  .rintro k Z H9 _ ⟨_,_,_,rfl,s9,_⟩;exact SqL.of (s9 _ _ g8)
  .rintro k x Z H9 hx ⟨v7,lx,G',rfl,s9,e9,tx'⟩;rw[Ze,Zj] at hx;obtain⟨cl,hcl,rfl⟩:=hx;refine⟨fun Z H10=>∃(lx:Addr) (G':List (List Nat)),H9=H10/\H9 lx=some (.lst (GV G'))/\Txs (w'+2) G'/\Z=[some (.ref sc),some (.int (w':Int)),some (.int (h':Int)),some (.ref ls),some (.ref lp),some (.ref du),some (.ref lx),some (.int cl)],?_,?_⟩
   .exact ⟨_,rfl,cl,_,rfl,fun n0 _ _=>⟨_,_,rfl,rfl,(by show (0:Int)<3; decide),_,_,rfl,rfl,_,rfl,ite2 (fun z=>⟨_,rfl,du,G,rfl,s9 _ _ e8,tx,rfl⟩) (fun z=>⟨lx,G',rfl,e9,tx',rfl⟩)⟩⟩
   rintro Z _ ⟨ly,Gy,rfl,ey,txy,rfl⟩;refine⟨_,rfl,_,rfl,ly,cl,w'+2,Gy,rfl,ey,txy,fun H11 l11 G11 s11 f11 e11 tx11=>?_⟩;refine⟨fun Z H12=>Same H11 H12/\Z=[some (.ref sc),some (.int (w':Int)),some (.int (h':Int)),some (.ref ls),some (.ref lp),some (.ref du),some (.ref l11),some (.int cl)],?_,?_⟩
   .exact ⟨_,rfl,l11,w',G11,rfl,e11,tx11,fun H12 s12=>⟨_,rfl,ifN (by decide) ⟨s12,rfl⟩⟩⟩
   rintro Z H12 ⟨s12,rfl⟩;exact⟨_,l11,G11,rfl,s9.trans (s11.trans s12),s12 _ _ e11,tx11⟩
  .rintro Z H9 ⟨v7,lx,G',rfl,s9,_⟩;exact⟨_,rfl,du,w',G,rfl,s9 _ _ e8,tx,fun H10 s10=>q _⟩
end
end S74
-- the names of the twins of whole trees and heaps are taken here,so that the head makes no such twins (they are what makes its compiled file large); see NOTE.md
namespace PySem.W.Fast
def tw8302862028701548170:=0
def tw11452055623330792565:=0
def tw901035977557406226:=0
def tw16047065471821625405:=0
def tw2727845667105455354:=0
def tw12122193200487533993:=0
def tw9390176087352210220:=0
def tw219098458243416650:=0
def tw16976843264740496471:=0
def tw201123844343542349:=0
def tw5565956408782616683:=0
def tw13557259728714411174:=0
def tw2213545856695953600:=0
def tw14664834965745549284:=0
def tw12380558313814913563:=0
def tw14528648582061817839:=0
def tw7513882181922702851:=0
def tw7398156343230190188:=0
def tw10586861082875783829:=0
def tw17210666658990145649:=0
def tw3701547971452830906:=0
def tw9419710305208078857:=0
def tw9718979867015474737:=0
def tw16700764303535439826:=0
def tw12588003580118439065:=0
def tw4712235465453353225:=0
def tw6597609157659901446:=0
def tw15957512027790268869:=0
def tw6841912787029236800:=0
def tw1385769886007333887:=0
def tw13704785535547787794:=0
def tw5496574514675286724:=0
def tw7649151253031262334:=0
def tw16095940719131179087:=0
def tw1436942341450591370:=0
def tw1257942444632858279:=0
def tw311691715717750933:=0
def tw12876613163082253279:=0
def tw8407551400704785361:=0
def tw3823057272096113672:=0
def tw2039428401504009755:=0
def tw1636966655478673495:=0
def tw9379285587221347454:=0
def tw3006326085429474449:=0
def tw12138512531329379292:=0
def tw5709586168793606090:=0
def tw3260184527291612492:=0
def tw12741768341800285681:=0
def tw18047833447972560407:=0
def tw1486990437295842646:=0
def tw10436012736184214428:=0
def tw5205539303688279641:=0
def tw5386064513609786525:=0
def tw11085674226434351894:=0
def tw2339868697611304835:=0
def tw12906560207459025712:=0
def tw7002119966216039299:=0
def tw3825020649227831272:=0
def tw15462204050507182034:=0
def tw15679920641942931049:=0
def tw18060239667435136792:=0
def tw10770649493892475705:=0
def tw7461838981318980427:=0
def tw13088308622670667058:=0
def tw9775730075467461377:=0
def tw6236498513529573865:=0
def tw6410041187473109728:=0
def tw5358001807669814011:=0
def tw15782625871070330899:=0
def tw6275910997404189486:=0
def tw13185949121013409498:=0
def tw9010282775385180788:=0
def tw15312820234586537937:=0
def tw629061052203940310:=0
def tw7734168060686733396:=0
def tw11355746428677969392:=0
def tw13862449378085094777:=0
def tw1908411083657851996:=0
def tw3474566289762324120:=0
def tw10270478395672663228:=0
def tw2015999826347986530:=0
def tw11054489137534783795:=0
def tw7511066838227209551:=0
def tw7372440187370113057:=0
def tw12277159831223288838:=0
def tw11539940123077569502:=0
def tw2208372312984717845:=0
def tw15585616660542368692:=0
def tw8120154939440129051:=0
def tw10466698977784284063:=0
def tw17468469165251532372:=0
def tw4106618397596417136:=0
def tw16190020459650141300:=0
def tw7596052812534381230:=0
def tw101561345820746362:=0
def tw4878642709411078639:=0
def tw11444274838991182592:=0
def tw5831785414263096679:=0
def tw1032834901331406418:=0
def tw16666080697051233447:=0
def tw13315278189081777807:=0
def tw15859609450382472925:=0
def tw3431149995025298709:=0
def tw9216592393367985591:=0
def tw18192319109627292095:=0
def tw3858376510520525704:=0
def tw16450729228441502012:=0
def tw2443088896827208822:=0
def tw7662516276636086893:=0
def tw1389529217344741911:=0
def tw3940744617833219443:=0
def tw6608000053462888134:=0
def tw7577916778566584223:=0
def tw7191293883865914881:=0
def tw10699039420610611763:=0
def tw1677359679087013502:=0
def tw17042386977314533960:=0
def tw4454856930676664863:=0
def tw18013719477923565220:=0
def tw11395030982545372512:=0
def tw11828145505164629380:=0
def tw2148991215324508663:=0
def tw9271956366571214909:=0
def tw9002350309974160338:=0
def tw9731195930784905485:=0
def tw16746618187649967672:=0
def tw13565820128575837788:=0
def tw16257280396413565661:=0
def tw8966043654033844678:=0
def tw12805343940884071053:=0
def tw152164288675181018:=0
def tw13757992267030222391:=0
def tw6888969453247323458:=0
def tw18420447668658445954:=0
def tw18308575885141762952:=0
def tw17033342163192685410:=0
def tw13078880972303604799:=0
def tw9598668446688240319:=0
def tw8428542523704780868:=0
def tw7098251454520455201:=0
def tw15095166856156304754:=0
def tw8181690572344830002:=0
def tw7418889576624693638:=0
def tw11711929235852034151:=0
def tw4428431390411200636:=0
def tw15776592614555035312:=0
def tw9737402790950746793:=0
def tw11734236418523125908:=0
def tw7796707430061330230:=0
def tw15628150516432381351:=0
def tw18399471435057680238:=0
def tw17333600725455919360:=0
def tw17241636855333813478:=0
def tw2882473394552761815:=0
def tw11988326016883725806:=0
def tw9822424538405863138:=0
def tw15305669001743879448:=0
def tw12913076177664346141:=0
def tw14187157220996416259:=0
def tw7056180066131754879:=0
def tw7002408556620431466:=0
def tw11450010499226234402:=0
def tw9812218615241882321:=0
def tw8857970697882716789:=0
def tw1100040578697333798:=0
def tw2383808685738627291:=0
def tw5445003667969796666:=0
def tw9511764398602119019:=0
def tw7348733654220191835:=0
def tw1324516387651957049:=0
def tw8902588081423915034:=0
def tw6840604671415939205:=0
def tw12541456339931308545:=0
def tw5993605945168460811:=0
def tw9905320551143915155:=0
def tw17279932309565085374:=0
def tw9660365029072062532:=0
def tw2583346471251811931:=0
def tw17393364840506885486:=0
def tw8150516099787657672:=0
def tw14706428764302881946:=0
def tw11221587398840762765:=0
def tw5470110332774797730:=0
def tw308730319637692849:=0
def tw9555491057012739154:=0
def tw6937399963823347592:=0
def tw5654395891750491725:=0
def tw16818699151293362606:=0
def tw15860821095466618610:=0
def tw900757006317070437:=0
def tw7685939919361705135:=0
def tw5054212093485769940:=0
def tw11300551365521560260:=0
def tw1114481864408103219:=0
def tw5891825884043771232:=0
def tw14643223517275353079:=0
def tw2131604575291601224:=0
def tw12155973068984765667:=0
def tw16144298587930249911:=0
def tw12536134913087704812:=0
def tw12861292226503356168:=0
def tw4980029279001296040:=0
def tw13404523821491820900:=0
def tw237017923392628526:=0
def tw17670760886277588892:=0
def tw6774642504977276873:=0
def tw16762557203928097929:=0
def tw12539401247868172965:=0
def tw5121682213225345383:=0
def tw13572461845239278337:=0
def tw12000227034884027243:=0
def tw14383268397908683334:=0
def tw12812773744210314298:=0
def tw8775385600145207932:=0
def tw6209632923173742447:=0
def tw17804314479960073063:=0
def tw18198444197117511677:=0
def tw14646777167888600777:=0
def tw9843877702893732878:=0
def tw10175422825859407353:=0
def tw6629622251316962914:=0
def tw2378250275860859120:=0
def tw5703665024943589024:=0
def tw1895777042901873542:=0
def tw1963858026107430522:=0
def tw9093587368508910697:=0
def tw11919904217998102313:=0
def tw5694645217501180606:=0
def tw13478449552634783515:=0
def tw14143891869377789344:=0
def tw12549146551522084396:=0
def tw3499558731109782985:=0
def tw9120802974139030530:=0
def tw4831669402401286322:=0
def tw3760451843272705352:=0
def tw2916401572732569768:=0
def tw1951362788248271417:=0
def tw11923874720562510933:=0
def tw15560511491246193976:=0
def tw5869288149694363226:=0
def tw5357017284623438776:=0
def tw13196861331150376727:=0
def tw17210631211270075955:=0
def tw13378999573549117130:=0
def tw15167557531318406320:=0
def tw18187004919386928429:=0
def tw12434092899551579153:=0
def tw7559464065399177579:=0
def tw14852517140723236702:=0
def tw12505837222908268345:=0
def tw1528454428626510581:=0
def tw8407378192941786488:=0
def tw14564611359813284584:=0
def tw14049357987764406008:=0
def tw18369258206581764639:=0
def tw4052359713767919947:=0
def tw8614603644115923233:=0
def tw11685747347694626845:=0
def tw13639888499476633007:=0
def tw472837477542402898:=0
def tw17060849130899167602:=0
def tw15855921511744564704:=0
def tw210801115728410615:=0
def tw16205361970649839851:=0
def tw17212293992234840628:=0
def tw11352456334568272433:=0
def tw11161516863396797289:=0
def tw16016557247777922159:=0
def tw100225946269214282:=0
def tw11234990713611628424:=0
def tw11115869506261533884:=0
def tw12014064977732513851:=0
def tw6489232636416278863:=0
def tw16466747922428090111:=0
def tw9489619454398243026:=0
def tw291745434592559073:=0
def tw11456949217359092889:=0
def tw8167990404359076867:=0
def tw15288807580795375641:=0
def tw15039772974852106776:=0
def tw2811363971308934204:=0
def tw4863489359020702890:=0
def tw9258715440131041238:=0
def tw14827606699831485480:=0
def tw10811614998595844556:=0
def tw10272270733565224540:=0
def tw15616924790066930689:=0
def tw10757951071901778382:=0
def tw4994458064117681466:=0
def tw9619139873970733316:=0
def tw17228573983351723040:=0
def tw7744710590565175087:=0
def tw13107138932334471248:=0
def tw12740708644739601375:=0
def tw6372194420377731132:=0
def tw12707412977780275501:=0
def tw10632067948567820806:=0
def tw11504060108324242668:=0
def tw1122004075241822950:=0
def tw3679045988626439661:=0
def tw16445801522080718075:=0
def tw8457448206323030888:=0
def tw12906059418570728523:=0
def tw5965130604464028502:=0
def tw9406151074651838864:=0
def tw1283512617491315887:=0
def tw8283544778078091773:=0
def tw8935606298629262919:=0
def tw13234158988502833610:=0
def tw4628395224922343412:=0
def tw4139085668782826977:=0
def tw2710246345138373735:=0
def tw10818781221392059169:=0
def tw13229500636706723853:=0
def tw6034643500974027285:=0
def tw4865387458840792066:=0
def tw9831238626225481925:=0
def tw12831195924762363621:=0
def tw3654500464067934381:=0
def tw10267950747546725410:=0
def tw2799739340391661136:=0
def tw8248001786673411745:=0
def tw9081925121729706881:=0
def tw14506333022948101469:=0
def tw735572889664930635:=0
def tw5537383835542071299:=0
def tw5719446873370869612:=0
def tw853048736823643799:=0
def tw3405392141986724115:=0
def tw11180681903540292093:=0
def tw16069160041272597870:=0
def tw4783621950420379504:=0
def tw13716179098522784126:=0
def tw781808748688309878:=0
def tw14753202498516633276:=0
def tw2714292590699955648:=0
def tw3922354348545782607:=0
def tw8084577836206740288:=0
def tw3621809967554133842:=0
def tw18186069182213671341:=0
def tw18014254976468390586:=0
def tw17160721243306562840:=0
def tw14340704211529783663:=0
def tw15550696346558032413:=0
def tw17260643750696050630:=0
def tw605998291782289192:=0
def tw4586953412783531441:=0
def tw2833528656635956792:=0
def tw6043335308564436572:=0
def tw9110152695936672877:=0
def tw16748576012310175034:=0
def tw7058257584844672378:=0
def tw11251414997437502452:=0
def tw8810325073825810150:=0
def tw7047086774312689294:=0
def tw11688165261202558281:=0
def tw12108558391561476599:=0
def tw15259619492748689085:=0
def tw9794053120247745560:=0
def tw3644815476314508939:=0
def tw16522623626426618319:=0
def tw11343937926296508101:=0
def tw632358723306912973:=0
def tw8580196065281476344:=0
def tw4152911071017609134:=0
def tw12726308105106332588:=0
def tw6267584974323025533:=0
def tw14500785630133884465:=0
def tw9295180371667766415:=0
def tw11402099525470019855:=0
def tw9508048285477770782:=0
def tw1071605990584108910:=0
def tw13226783273904262848:=0
def tw10441080691004166334:=0
def tw2110524315760569544:=0
def tw7552814747430202237:=0
def tw3111642993007955111:=0
def tw17766752158903110248:=0
def tw7870497825281893796:=0
def tw15643929999582474294:=0
def tw3011290324634136379:=0
def tw15098442708428806249:=0
def tw17177314193737338847:=0
def tw7526561393026419940:=0
def tw9509071640043881134:=0
def tw16343584558129573114:=0
def tw12356822001673874359:=0
def tw17480401500369766640:=0
def tw12377260297046352445:=0
def tw10307083088095290696:=0
def tw18437828497339161080:=0
def tw15367259763510117855:=0
def tw12247477083812319120:=0
def tw15659208895796432065:=0
def tw4652747417599826595:=0
def tw15104143204650147707:=0
def tw9141091750444629938:=0
def tw9150357595894439902:=0
def tw1619880595553160853:=0
def tw2988368146262860149:=0
def tw1855513125828888030:=0
def tw1601741763084028393:=0
def tw135295782009544201:=0
def tw2914045494970812154:=0
def tw3729943507963215833:=0
def tw288368088291378524:=0
def tw5543020042536388900:=0
def tw3330405351042162700:=0
def tw7040153069586941578:=0
def tw16716224588885283781:=0
def tw14092693933856862336:=0
def tw7835081776249330063:=0
def tw5632826830992076232:=0
def tw11550092711960868383:=0
def tw10610133850041925013:=0
def tw8077164527585372889:=0
def tw2020978681160520408:=0
def tw2063668583408511732:=0
def tw15217552342660799767:=0
def tw6057322699912257798:=0
def tw13796161727226977233:=0
def tw9157105916554479684:=0
def tw1402064275250716881:=0
def tw7050306771021603345:=0
def tw13116486918185376237:=0
def tw9341258752750805998:=0
def tw15443694061833416895:=0
def tw18438593245388346327:=0
def tw6611025355253982502:=0
def tw9258536751585158344:=0
def tw10763959783088603108:=0
def tw637590776074333533:=0
def tw18396800622519203162:=0
def tw9763993712236912945:=0
def tw7713839405547506728:=0
def tw7487826919721494234:=0
def tw12453120864138065708:=0
def tw4363121048053917360:=0
def tw11465601561991574694:=0
def tw11490941274266480465:=0
def tw11912774261758802463:=0
def tw255233875965018799:=0
def tw16531446559916697631:=0
def tw13795138448386741222:=0
def tw439871371419533534:=0
def tw6433043123647606182:=0
def tw8275578107380495119:=0
def tw10727351654325119540:=0
def tw6116721711165787806:=0
def tw9709926590508239334:=0
def tw840613538736926406:=0
def tw5484329597428134851:=0
def tw10893066658664550371:=0
def tw1811951160060261480:=0
def tw7304389806422209821:=0
def tw7257385060554264793:=0
def tw13415422730604014903:=0
def tw15737446609678709061:=0
def tw8694106586876302234:=0
def tw13190953934126494482:=0
def tw16130391975390282110:=0
def tw11218273844994840875:=0
def tw8661215751082287848:=0
def tw11321412562481344985:=0
def tw4047869544036098057:=0
def tw10350689917958160420:=0
def tw7958445493509508939:=0
def tw507945066262564129:=0
def tw13226724207277999648:=0
def tw5561253918112443789:=0
def tw1771102338260205858:=0
def tw11314108522817438619:=0
def tw8338340674411420632:=0
def tw2631752333674112653:=0
def tw7817380818764917846:=0
def tw1959373308751079408:=0
def tw1148900254652306217:=0
def tw6622544537924523235:=0
def tw17439473441550453112:=0
def tw3798988128129428640:=0
def tw13968510299123284764:=0
def tw15752392563632157512:=0
def tw4653409186061246229:=0
def tw2551422219580093796:=0
def tw5817616566850204284:=0
def tw3805332012664961182:=0
def tw12723486467252206851:=0
def tw12884551150212925310:=0
def tw8393687529751570275:=0
def tw12135461149465222375:=0
def tw3897130398391317917:=0
def tw2691123153834221065:=0
def tw11805583936700161006:=0
def tw10281794694946976289:=0
def tw16440504442589155948:=0
def tw16295401572480824988:=0
def tw2857061267333783154:=0
def tw2535926298717540725:=0
def tw13656095823310328849:=0
def tw3085585699175438270:=0
end PySem.W.Fast
namespace S74
open PySem L2 XL
theorem walk {l:PySem.W.OpenLaw}{q:Program}{loose:List Str}{XP:(Str->Option Value)->Heap->Prop}{YP:World->Heap->Prop}{d:DefRec}{K:Params->Zd} (hn:l.most=some 63) (hdf:d.params.defaults=[])
    (hY:∀(w:World) (h:Heap),YP w h->(K w.params).In h)
    (F:∀(w:World) (mg:Str->Option Value) (fa:Addr) (h:Heap),(K w.params).In h->h.Ns mainGlobals mg->mg d.name=some (.ref fa) ->
      ∃ fd:FuncData,(∀(s:Shared) (u:Value),BindsTo s fd ⟨[u],[]⟩ [("_law_script",u)])/\∀ base:Heap,(K w.params).In base->base.Ns mainGlobals mg->FnOk true l.prog w (K w.params) mg base (CXo l.prog w) 12 fa fd ["_law_script"] (xkn (K w.params))) :
    PySem.W.WalkO q loose XP YP l.row.toRowW d [] (fun f vs=>PySem.call f vs) :=
  L2.walk_of (q0:=true) (n:=63) (k:=12) (x:="_law_script") (CX:=fun w=>CXo l.prog w) (sp:=fun w=>xkn (K w.params)) hn (by decide) hdf ⟨fun _=>rfl,by decide,by decide,rfl⟩ hY F (fun _ _ a ns hl _ hS=>⟨a,ns,rfl,hS,hl,fun _=>rfl⟩)
    fun w H s e s' z=>by obtain⟨_,_,_,_,_,_,_,_,_,_,_,_,_,_,q⟩:=z; exact q
theorem all_mk {l:PySem.W.OpenLaw}{w:World}{K:Zd}{h:Heap}{mg:Str->Option Value}{fa:Addr} (hfa:mg "law"=some (.ref fa)) (TT:∃ t,Txt w K mg t) :
    ∃ fd:FuncData,(∀(s:Shared) (v:Value),BindsTo s fd ⟨[v],[]⟩ [("_law_script",v)])/\∀ base:Heap,K.In base->base.Ns mainGlobals mg->FnOk true l.prog w K mg base (CXo l.prog w) 12 fa fd ["_law_script"] (xkn K):=by
  obtain⟨t,T⟩:=TT;have e:=hfa.symm.trans T.g_law;cases e;refine⟨t.d_law,fun s v=>?_,fun base _ _=>xu4 T⟩;obtain⟨oc,od,kV,doc,pm,an,cdv,ct,osl,e,lk,hcd⟩:=T.F_law.ex;rw[e];exact .of_eq rfl
end S74
open PySem PySem.W PyProof.Rows
set_option maxRecDepth 100000 in
set_option maxHeartbeats 0 in
theorem PySem.Challenge.cw_rimnotes_k74_the_first_wrong_sign_holds : PySem.Challenge.rw_rimnotes_k74_the_first_wrong_sign.Holds := by
 w_on; o_law; k_head; (case hw=>w_witness2)
 k_fill
 refine S74.walk (l:=PySem.Challenge.rw_rimnotes_k74_the_first_wrong_sign) rfl rfl (fun w h Y=>PySem.W.kIn_of Y) ?F
 case F =>
  intro w mg fa h KX G hmg
  refine S74.all_mk (h:=h) hmg ?TT
  refine' S74.txt_mk (w:=w) KX G ?g_bo ?g_b ?g_bp ?g_af ?g_r ?g_d ?g_u ?a_o ?F_o ?i_o ?a_aw ?F_aw ?i_aw ?a_y ?F_y ?i_y ?a_ab ?F_ab ?i_ab ?a_q ?F_q ?i_q ?a_s ?F_s ?i_s ?a_w ?F_w ?i_w ?a_n ?F_n ?i_n ?a_ao ?F_ao ?a_a5 ?F_a5 ?a_ak ?F_ak ?a_ar ?F_ar ?a_am ?F_am ?i_am ?a_a ?l_a ?c_a ?k_a ?i_a ?t_a ?a_k ?F_k ?i_k ?a_m ?F_m ?i_m ?a_x ?F_x ?i_x ?a_g ?F_g ?i_g ?a_t ?F_t ?i_t ?a_i ?F_i ?i_i ?a_j ?F_j ?i_j ?a_e ?F_e ?i_e ?a_f ?F_f ?i_f ?a_z ?F_z ?a_drawn ?F_drawn ?a_a8 ?F_a8 ?a_ad ?F_ad ?a_au ?F_au ?a_a1 ?F_a1 ?a_an ?F_an ?i_an ?a_l ?F_l ?i_l ?a_h ?F_h ?i_h ?a_p ?F_p ?i_p ?a_v ?F_v ?i_v ?a_seen ?F_seen ?a_at ?F_at ?a_ay ?F_ay ?a_a9 ?F_a9 ?a_al ?F_al ?a_ag ?F_ag ?a_aj ?F_aj ?a_c ?F_c ?a_a3 ?F_a3 ?a_a2 ?F_a2 ?a_a4 ?F_a4 ?a_ap ?F_ap ?a_aa ?F_aa ?a_ax ?F_ax ?a_a6 ?F_a6 ?a_az ?F_az ?a_ac ?F_ac ?a_av ?F_av ?a_a0 ?F_a0 ?a_ae ?F_ae ?a_aq ?F_aq ?a_a7 ?F_a7 ?a_as ?F_as ?a_ai ?F_ai ?a_law ?F_law ?kc_b ?ov_b ?hd_b ?sa_b ?ga_b ?gh_b ?ca_b ?mk_b ?kc_af ?pg_af ?hd_af ?po_af ?sa_af ?mk_af ?a_LeftSide_init ?kc_r ?pg_r ?hd_r ?po_r ?sa_r ?mk_r ?a_RightSide_init ?kc_d ?pg_d ?hd_d ?po_d ?sa_d ?mk_d ?kc_u ?pg_u ?hd_u ?po_u ?sa_u ?mk_u ?cg ?ct ?n_bh ?n_ba ?n_bc ?n_bb ?n_bg ?n_be ?n_bd ?n_bf ?n_bi ?n_bl ?n_bm ?n_abs ?n_bool ?n_dict ?n_enumerate ?n_int ?n_isinstance ?n_len ?n_list ?n_max ?n_min ?n_range ?n_reversed ?n_sorted ?n_str ?mro_b ?v_bn ?v_bj ?v_bk ?g_ah ?l_ah ?ns_ah
  case g_bo|g_b|g_bp|g_af|g_r|g_d|g_u|a_ao|a_a5|a_ak|a_ar|a_z|a_drawn|a_a8|a_ad|a_au|a_a1|a_seen|a_at|a_ay|a_a9|a_al|a_ag|a_aj|a_c|a_a3|a_a2|a_a4|a_ap|a_aa|a_ax|a_a6|a_az|a_ac|a_av|a_a0|a_ae|a_aq|a_a7|a_as|a_ai|a_law|g_ah=>delta S74.gI; k_is
  case a_o|a_aw|a_y|a_ab|a_q|a_s|a_w|a_n|a_am|a_a|a_k|a_m|a_x|a_g|a_t|a_i|a_j|a_e|a_f|a_an|a_l|a_h|a_p|a_v|a_LeftSide_init|a_RightSide_init=>delta S74.fI; k_is
  case F_o|F_aw|F_y|F_ab|F_q|F_s|F_w|F_n|F_ao|F_a5|F_ak|F_ar|F_am|F_k|F_m|F_x|F_g|F_t|F_i|F_j|F_e|F_f|F_z|F_drawn|F_a8|F_ad|F_au|F_a1|F_an|F_l|F_h|F_p|F_v|F_seen|F_at|F_ay|F_a9|F_al|F_ag|F_aj|F_c|F_a3|F_a2|F_a4|F_ap|F_aa|F_ax|F_a6|F_az|F_ac|F_av|F_a0|F_ae|F_aq|F_a7|F_as|F_ai|F_law=>exact L2.fun_mk (by k_is) (by k_is) (by k_is)
  case sa_b|ga_b|ca_b|sa_af|sa_r|sa_d|sa_u=>delta S74.fB; k_is
  case gh_b|n_bh|n_ba|n_bc|n_bb|n_bg|n_be|n_bd|n_bf|n_bi|n_bl|n_bm=>delta S74.fN; k_is
  case n_abs|n_bool|n_dict|n_enumerate|n_int|n_isinstance|n_len|n_list|n_max|n_min|n_range|n_reversed|n_sorted|n_str=>delta S74.gN; k_is
  case i_o|i_aw|i_y|i_ab|i_q|i_s|i_w|i_n|i_am|l_a|c_a|k_a|i_a|t_a|i_k|i_m|i_x|i_g|i_t|i_i|i_j|i_e|i_f|i_an|i_l|i_h|i_p|i_v|kc_b|hd_b|kc_af|pg_af|hd_af|po_af|kc_r|pg_r|hd_r|po_r|kc_d|pg_d|hd_d|po_d|kc_u|pg_u|hd_u|po_u|cg|ct|mro_b|v_bn|v_bj|v_bk=>k_is
  case mk_b|mk_af|mk_r|mk_d|mk_u|l_ah=>first|k_is|kernel_rfl
  case ov_b|ns_ah=>kernel_rfl
