import PyProof.Rows.All
import Wide.All
import OpenK.AllK
import PySem.Challenge.RW_rimnotes_k41_least_and_prices
set_option maxRecDepth 100000
set_option maxHeartbeats 4000000
set_option Elab.async false
set_option linter.all false
open List renaming getElem?_eq_getElem→Za,length_map→Zc,getElem?_map→Zf,getElem?_eq_some_iff→Zh,mem_of_getElem?→Zl,mem_cons_of_mem→Zm,mem_cons_self→Zp,mem_map→Zr,mem_singleton→Zt,length_append→Zu,map_cons→Zx,size_toArray→Zy,mem_cons→Zz,lookup_cons→Z0,mem_append_right→Z2,map_map→Z7,getElem_of_mem→Z8,mem_append→ZB,map_append→ZC,range→ZI,length_cons→ZJ,mem_append_left→ZL,take_add_one→ZP,nodup_cons→ZQ,mem_filter→ZR,length_singleton→ZS,getElem?_append_left→ZV,nodup_append→Jc,lookup→Jd,getElem_mem→Jj,getElem?_eq_none→Jn,filter_cons_of_neg→Js,getElem?_append_right→Ju,any_eq_true→Jw,take_of_length_le→Jx,pairwise_iff_getElem→Jy,take_length→J9,length_take→JA,filter_cons_of_pos→JC,length_filter_le→JJ,pairwise_cons→JL,filter_append→JM,nodup_nil→JP,filterMap_cons→JW,getElem_map→JX,drop_eq_getElem_cons→JY,pairwise_map→Yd,sum_cons→Yi,any_cons→Yj,map_congr_left→Yk,length_reverse→Yl,not_mem_nil→Yn,mem_filterMap→Yt,find?_cons→Yz,length_range→Y5,map_id→YA,getElem?_set_ne→YB,mem_reverse→YF,getElem?_range→YG,Pairwise→YJ,range_succ→YN,append_nil→YO,eraseIdx_eq_take_drop_succ→Qd,take_append_drop→Qg,append_inj'→Qj,all_eq_true→Qk,all_cons→Qm,length→Qo,countP_eq_length_filter→Qu,Perm→Q1,Nodup→Q3,replicate→Q5,mem_range→Q6,contains_cons→Q8,mem_of_find?_eq_some→QA,reverse_perm→QD,cons→QH,getElem?_replicate→QJ,Sublist→QM,getElem?_set_self→QN,find?_cons_of_pos→QO,find?_cons_of_neg→QP,length_replicate→QU,filterMap_map→Wi
open PySem renaming wpAny_bind→Zb,wpAny_pure→Zg,Spec→ZE,wpAny_dictEntries→ZH,wpAny_mono→ZU,wpAny_dictEpoch→Jb,wpAny_call_entry→Ji,wpAny_holding→Jk,wpAny_truthy_bool→Jz,wpAny_Call_Name_kw→J8,wpAny_callSpecial?_slot→JB,mem_of_lookup→JH,wpAny_notOrdered_dict→JI,call_meetsIn→JO,wpAny_newObj_type→JR,wpAny_Call_method0_late→JS,evalArgs_none→JV,wpAny_field→Ya,wpAny_loadPart_at→Yb,wpAny_typeNameOfWhole_itemiter→Yo,wpAny_typeNameOfWhole_valiter→Yp,wpAny_typeNameOfWhole_keyiter→Yq,wpAny_isOneOf_itemiter→Yv,wpAny_passesOwn→Yw,wpAny_loadPart'→Yx,wpAny_attempt→Y0,wpAny_richCompare_same_room→Y8,boot_len→YH,wpAny_setField_rec→YR,tupleKind_room_in1→YS,codeAny_mono→YX,Within→YY,wpAny_isOneOf_valiter→Qe,wpAny_isOneOf_keyiter→Qf,wpAny_call→Qh,wpAny_isInstance→Qi,sizeLine_eq→Qn,codeAny_call_builtin→Qp,wpAny_execs_nil→Qs,codeAny_builtin→Qt,wpAny_raiseNew_none→Qv,wpAny_isSubtype_exc→Qw,wpAny_typeOf→Qz,wpAny_loadPart→Q4,call_meets→QK,wpAny_setField→QV,SetTable→QY,wpAny_standAt→Wf
open PySem.W renaming Frag→Zd,findIn→Z4,mg_of→Z5,isFn→ZK,mg_none_of→ZT,keepIn→Jh,fnOf→Jp,kia_one→Jv,hasDictIn→JE,emptyDict→JF,plainGet→JK,instObj→JZ,plainOver→Yc,makesIn→Yy,specialIn→Y3,codeIn→Qa,callWith_K→Q7,nsIn→QL,findCls→QQ,methodCall_KW→QS,lookIn→QW,kitOne→QX,plainGet_of→Wd,mroIn→Wg
open PySem.Heap renaming get?_push_of_some→Ze,get?_push_size→Zo,lt_size→Zs,get?_update_self→ZO,SameBut→ZX,get?_update_other→ZY,size_push→Ym,get?_none_of_le→Wa
open Nat renaming le_refl→Zi,le_trans→Z6,ne_of_lt→ZD,lt_of_lt_of_le→ZF,lt_of_le_of_lt→ZG,zero_le→Ja,lt_trans→J0,le_succ→Y9,ne_of_gt→YD,lt_irrefl→YI,le_of_lt→YZ
open Option renaming map_eq_some_iff→Zj,some→ZN,map_some→J5,isSome_map→Y4,isSome_iff_exists→QE,bind_some→QI
open PySem.Value renaming ref→Zk,none→ZW,bool→Yr,int→YU,builtin→Ql,str→Q0
open PySem.Str renaming ofString→Zn,empty→Wc
open Or renaming inl→Zq,inr→JD
open PySem.SeqAt renaming EqAt→Zv,RcNeAt→Z3,RcAt→Z9
open Ne renaming symm→Zw
open Bool renaming false_ne_true→Z1,and_eq_true→ZM,eq_iff_iff→J6,eq_false_iff→JG,true_and→Y1,not_eq_true'→Y7,false_and→Qb,false_eq_true→Q9
open PySem.PassesOwn renaming never→ZA
open PySem.Calls renaming callWith_builtin→ZZ,spliced_cons→Yu,spliced_nil→Y6,evalArgs_plain→Qq,call_function_entry→QB
open Array renaming getElem?_eq_getElem→Je,length_toList→Jm,getElem?_toList→Jo,map→Q2,mem_toList_iff→Wb
open PyProof.Rows renaming callWith_type1→Jf,slot_tuple_getitem→Qc,strKind→QZ
open True renaming intro→Jg
open PySem.Spec renaming ltCps→Jl
open PySem.F renaming plainAttrs_list→Jq,plainAttrs_dict→Jr,slot_dict_valueiterator_next→JN,slot_dict_itemiterator_next→JQ,slot_dict_keyiterator_next→JU,excBase_ValueError→YC,called_set→YE,type_list_append→YK,slot_list_append→YL,slot_dict_values→YM,slot_dict_items→YV,slot_dict_clear→YW,slot_list_getattribute→QF,slot_dict_get→QT
open Sum renaming inr→Jt,inl→Qy
open False renaming elim→J7
open Int renaming eq_ofNat_of_zero_le→JT,toNat_natCast→Ye,le_refl→QC
open PySem.Obj renaming data_mapDictKeys→Yf,mapFields→Yh,mapSeq→Ys,isFreed_of_fields→Y2,data_mapFields→YT,dropNameByArray→Qx,dropName_eq→QR,isFreed_of_dict→We
open PySem.Paired renaming length→Yg
open ForInStep renaming yield→YQ
open PySem.Around renaming under_plainId→Qr
open LawfulBEq renaming eq_of_beq→QG
open PySem.NameKind renaming free→Wh
open PySem.Code renaming quiet_builtin→Wj
namespace L2
open PySem PySem.Spec PyProof.Rows
variable {q0:Bool}
abbrev Key:=Sum Int Str
def xes:Key->Value->Bool
 | .inl k,v=>Value.isInt k v
 | .inr x,v=>Value.isStrOf x v
def keyH (w:World):Key->Int
 | .inl k=>hashInt k
 | .inr x=>hashStr w x
theorem xbf:∀{k:Key}{v:Value},xes k v=true->(∃ i t,k=Qy i/\v=YU i t)\/(∃ x t,k=Jt x/\v=Q0 x t)
 | .inl i,v,h=>by
  obtain⟨t,e⟩:=Value.isInt_shape (k:=i) (v:=v) h;exact .inl ⟨i,t,rfl,e⟩
 | .inr x,v,h=>by
  obtain⟨t,e⟩:=Value.isStrOf_shape (x:=x) (v:=v) h;exact .inr ⟨x,t,rfl,e⟩
theorem xmb (i:Int) (t:Tok):xes (.inl i) (.int i t)=true:=by simp[xes,Value.isInt]
theorem xni (x:Str) (t:Tok):xes (.inr x) (.str x t)=true:=by simp[xes,Value.isStrOf]
theorem xrw (a b:Int):decide ((Qy a:Key)=Qy b)=(a == b):=by
 by_cases e:a=b
 .subst e; simp
 .have h:¬ (Qy a:Key)=Qy b:=fun q=>e (Qy.inj q);rw[decide_eq_false h];exact (beq_eq_false_iff_ne.mpr e).symm
theorem xsj (a b:Str):decide ((Jt a:Key)=Jt b)=decide (a=b):=by
 by_cases e:a=b
 .subst e; simp
 .have h:¬ (Jt a:Key)=Jt b:=fun q=>e (Jt.inj q);rw[decide_eq_false h,decide_eq_false e]
theorem xsq (a:Int) (b:Str):decide ((Qy a:Key)=Jt b)=false:=decide_eq_false (fun q=>nomatch q)
theorem xrt (a:Str) (b:Int):decide ((Jt a:Key)=Qy b)=false:=decide_eq_false (fun q=>nomatch q)
def xai (prog:Program) (w:World):PySem.KeyKind prog w Key where
 is:=xes
 hash:=keyH w
 inj:=fun v a b ha hb=>by
  rcases xbf ha with⟨i,t,rfl,rfl⟩|⟨x,t,rfl,rfl⟩
  .rcases xbf hb with⟨j,u,rfl,e⟩|⟨y,u,rfl,e⟩
   .injection e with e1 _; rw[e1]
   .exact nomatch e
  .rcases xbf hb with⟨j,u,rfl,e⟩|⟨y,u,rfl,e⟩
   .exact nomatch e
   .injection e with e1 _; rw[e1]
 byValue:=fun k v h=>by
  rcases xbf h with⟨i,t,rfl,rfl⟩|⟨x,t,rfl,rfl⟩<;>rfl
 pyHash:=fun hv h=>by
  rcases xbf hv with⟨i,t,rfl,rfl⟩|⟨x,t,rfl,rfl⟩
  .exact wpAny_pyHash_int h
  .exact wpAny_pyHash_str h
 eqBool:=fun hu hv h=>by
  rcases xbf hu with⟨i,t,rfl,rfl⟩|⟨x,t,rfl,rfl⟩
  .rcases xbf hv with⟨j,u,rfl,rfl⟩|⟨y,u,rfl,rfl⟩
   .rw [xrw] at h; exact wpAny_eqBool_int h
   .rw [xsq] at h; exact Zv.int_str i t y u _ _ _ _ h
  .rcases xbf hv with⟨j,u,rfl,rfl⟩|⟨y,u,rfl,rfl⟩
   .rw [xrt] at h; exact Zv.str_int x t j u _ _ _ _ h
   .rw [xsj] at h; exact wpAny_eqBool_str h
 «strs»:=fun k x t v h=>by
  rcases xbf h with⟨i,u,rfl,e⟩|⟨y,u,rfl,e⟩
  .exact nomatch e
  .injection e with e1 _
   subst e1;cases v<;>rfl
theorem xj2 (prog:Program) (w:World) (i:Int) (t:Tok):(xai prog w).is (.inl i) (.int i t)=true:=xmb i t
theorem xjw (prog:Program) (w:World) (x:Str) (t:Tok):(xai prog w).is (.inr x) (.str x t)=true:=xni x t
inductive V where
 | non|bl (b:Bool)|int (i:Int)|str (x:Str)|byt (b:Array UInt8)|flt (b:UInt64)|ref (a:Addr)|ty (n:String)
 deriving DecidableEq
def RelV:V->Value->Prop
 | .non,u=>u=ZW
 | .bl b,u=>u=Yr b
 | .int i,u=>∃ t,u=YU i t
 | .str x,u=>∃ t,u=Q0 x t
 | .byt b,u=>∃ t,u=Value.bytes b t
 | .flt b,u=>∃ t,u=Value.float b t
 | .ref a,u=>u=Zk a
 | .ty n,u=>u=Value.type n
abbrev Vals:List V->List Value->Prop:=Paired RelV
theorem Vals.length {xs:List V}{us:List Value} (r:Vals xs us):xs.length=us.length:=Yg r
theorem Vals.get:∀{xs:List V}{us:List Value}{i:Nat}{x:V},Vals xs us->xs[i]?=some x->∃ u,us[i]?=some u/\RelV x u
 | _,_,_,_,.nil,e=>by simp at e
 | _,_,0,_,.cons r _,e=>by simp at e; subst e; exact⟨_,rfl,r⟩
 | _,_,i+1,x,.cons _ t,e=>by
  obtain⟨u,h1,h2⟩:=Vals.get (i:=i) (x:=x) t (by simpa using e);exact⟨u,by simpa using h1,h2⟩
theorem Vals.append:∀{xs ys:List V}{us ws:List Value},Vals xs us->Vals ys ws->Vals (xs++ys) (us++ws)
 | _,_,_,_,.nil,s=>s
 | _,_,_,_,.cons r t,s=>.cons r (Vals.append t s)
theorem Vals.take:∀{xs:List V}{us:List Value} (n:Nat),Vals xs us->Vals (xs.take n) (us.take n)
 | _,_,0,_=>.nil
 | _,_,_+1,.nil=>.nil
 | _,_,n+1,.cons r t=>.cons r (Vals.take n t)
theorem Vals.drop:∀{xs:List V}{us:List Value} (n:Nat),Vals xs us->Vals (xs.drop n) (us.drop n)
 | _,_,0,r=>r
 | _,_,_+1,.nil=>.nil
 | _,_,n+1,.cons _ t=>Vals.drop n t
def RelO:Option V->Option Value->Prop
 | some v,some u=>RelV v u
 | none,none=>True
 | _,_=>False
def KV {κ:Type}:List (κ × V)->List (κ × Value)->Prop:=Paired fun (p:κ × V) (q:κ × Value)=>p.1=q.1/\RelV p.2 q.2
def kV:Key->V
 | .inl i=>.int i
 | .inr x=>.str x
inductive HO where
 /-- a list -/
 | lst (xs:List V)
 /-- a tuple (never changes) -/
 | tup (xs:List V)
 /-- a dict whose keys are ints and texts; one whose keys are tuples of ints and texts (the empty one is both) -/
 | dK (kvs:List (Key × V))|dT (kvs:List (List Key × V))
 /-- a set of ints: its members,its size -/
 | set (S:Int->Bool) (n:Nat)
 /-- an instance of the class at C,its dict at dx,its attributes -/
 | ins (C dx:Addr) (fs:List (Str × V))
 /-- the dict of the instance at x -/
 | own (x:Addr)
 /-- the dict of an exception -/
 | xd (fs:List (Str × V))
 /-- a bound method,f of x -/
 | met (f x:Addr)
 /-- a range object lo,lo+1,.. below hi -/
 | rng (lo hi:Int)
 /-- a thing that is known to the object (the script; a dict while a loop walks it): read,never written while it is so -/
 | frz (o:Obj) (u:HO)
 /-- a code object's table -/
 | tbl (ps:Array Value)
 /-- any other thing,by what is true of its one object (a def of one's own: SetO a S n:=HO.ext fun h=>..) -/
 | ext (φ:Heap->Prop)
abbrev Hp:=Addr->Option HO
def upd (H:Hp) (a:Addr) (o:HO):Hp:=fun b=>if b=a then some o else H b
theorem xi {H:Hp}{a:Addr}{o:HO}:upd H a o a=some o:=by unfold upd; rw[if_pos rfl]
theorem xh {H:Hp}{a b:Addr}{o:HO} (h:b≠a):upd H a o b=H b:=by unfold upd; rw[if_neg h]
theorem xem {H:Hp}{a:Addr}{o u:HO}:upd (upd H a o) a u=upd H a u:=by
 funext b; unfold upd; split<;>rfl
theorem xp {H:Hp}{a b:Addr}{o u:HO} (h:H a=some o) (h':H b=some u) (d:o≠u):a≠b:=by
 intro e; subst e; rw[h] at h'; exact d (ZN.inj h')
theorem xg {H:Hp}{a b:Addr}{o:HO} (h:H a=some o) (h':H b=none):a≠b:=by
 intro e; subst e; rw[h] at h'; cases h'
section
variable (P:Program) (w:World)
def xap (H:Hp) (h:Heap) (a:Addr):HO->Prop
  | .lst xs=>xs.length<=sizeLine/\∃(its:List Value) (n:Nat),Vals xs its/\h.get? a=some { cls:=.type "list",data:=.seq its.toArray n }
  | .tup xs=>xs.length<=sizeLine/\∃ its:List Value,Vals xs its/\IsTup h a its.toArray
  | .dK kvs=>kvs.length<=sizeLine/\(a == sysModules)=false/\∃ vs,KV kvs vs/\h.DictOf (xai P w) a vs
  | .dT kvs=>kvs.length<=sizeLine/\(a == sysModules)=false/\∃ xs:List (List Key × Addr × Value),
      Paired (fun (p:List Key × V) (q:List Key × Addr × Value)=>p.1=q.1/\H q.2.1=some (.tup (p.1.map kV))/\RelV p.2 q.2.2) kvs xs /\
      ∃ o es ep,h.get? a=some o/\o.ExactDict/\o.data=.dict es ep/\es.toList=xs.map (entryOfKey (tupleKind (xai P w)))/\(xs.map (·.1)).Nodup
  | .set S n=>h.SetOf (intKind P w) a S n
  | .ins C dx fs=>H dx=some (.own a)/\fs.length<=1000/\dx≠a/\h.get? a=some (JZ C dx) /\
      ∃ mA,h.Ns1 dx mA/\(∀ f,RelO (fs.lookup f) (mA f))/\YY mA (fs.map (·.1))
  | .own _=>∃ o,h.get? a=some o
  | .xd fs=>∃ mA,h.Ns1 a mA/\∀ f,RelO (fs.lookup f) (mA f)
  | .rng lo hi=>∃ t u v,h.get? a=some { cls:=.type "range",data:=.fields #[.int lo t,.int hi u,.int 1 v] }
  | .frz o u=>h.get? a=some o/\xap H h a u
  | .tbl ps=>h.get? a=some { cls:=.none,data:=.fields ps }
  | .met f x=>h.get? a=some (PySem.W.methodObj (.ref f) (.ref x))
  | .ext φ=>φ h/\(∃ o,h.get? a=some o)/\∀ h1 h2:Heap,φ h1->(∀ o,h1.get? a=some o->h2.get? a=some o)->φ h2
def HOk (H:Hp) (h:Heap):Prop:=∀ a o,H a=some o->xap P w H h a o
end
section
variable {P:Program}{w:World}{H H':Hp}{h h':Heap}{a:Addr}{o:HO}
theorem xap.lt (x:xap P w H h a o):a<h.objs.size:=by
 cases o with
 | lst xs=>obtain⟨_,_,_,_,e⟩:=x; exact Zs e
 | tup xs=>obtain⟨_,_,_,p⟩:=x; exact p.lt
 | dK kvs=>obtain⟨_,_,_,_,o,_,_,e,_⟩:=x; exact Zs e
 | dT kvs=>obtain⟨_,_,_,_,o,_,_,e,_⟩:=x; exact Zs e
 | set S n=>obtain⟨o,_,_,_,e,_⟩:=x; exact Zs e
 | ins C dx fs=>obtain⟨_,_,_,e,_⟩:=x; exact Zs e
 | own y=>obtain⟨_,e⟩:=x; exact Zs e
 | xd fs=>obtain⟨_,⟨_,_,_,e,_⟩,_⟩:=x; exact Zs e
 | rng lo hi=>obtain⟨_,_,_,e⟩:=x; exact Zs e
 | frz ob u=>obtain⟨e,_⟩:=x; exact Zs e
 | tbl ps=>exact Zs (show h.get? a=some _ from x)
 | met f y=>exact Zs (show h.get? a=some _ from x)
 | ext φ=>obtain⟨_,⟨_,e⟩,_⟩:=x; exact Zs e
theorem Paired.mapP {α β:Type}{F G:α->β->Prop}:∀{l₁:List α}{l₂:List β},Paired F l₁ l₂->(∀ a b,F a b->G a b)->Paired G l₁ l₂
 | _,_,.nil,_=>.nil
 | _,_,.cons r t,f=>.cons (f _ _ r) (Paired.mapP t f)
theorem xap.stay (x:xap P w H h a o) (k:∀ b u,(b=a\/H b=some (.own a))->h.get? b=some u->h'.get? b=some u)
    (ho:∀ b,H b=some (.own a)->H' b=some (.own a)) (ht:∀ b xs,H b=some (.tup xs)->H' b=some (.tup xs)):xap P w H' h' a o:=by
  induction o with
  | lst xs=>obtain⟨z,its,n,r,e⟩:=x; exact⟨z,its,n,r,k _ _ (.inl rfl) e⟩
  | tup xs=>obtain⟨z,its,r,ob,e,c⟩:=x; exact⟨z,its,r,ob,k _ _ (.inl rfl) e,c⟩
  | dK kvs=>obtain⟨z,y,vs,r,ob,es,ep,e,c⟩:=x; exact⟨z,y,vs,r,ob,es,ep,k _ _ (.inl rfl) e,c⟩
  | dT kvs =>
    obtain⟨z,y,xs,r,ob,es,ep,e,c⟩:=x;exact⟨z,y,xs,Paired.mapP r fun p q z=>⟨z.1,ht _ _ z.2.1,z.2.2⟩,ob,es,ep,k _ _ (.inl rfl) e,c⟩
  | set S n=>obtain⟨ob,es,ep,t,e,c⟩:=x; exact⟨ob,es,ep,t,k _ _ (.inl rfl) e,c⟩
  | ins C dx fs =>
    obtain⟨d,z,ne,e,mA,⟨od,es,ep,e2,c⟩,r⟩:=x;exact⟨ho _ d,z,ne,k _ _ (.inl rfl) e,mA,⟨od,es,ep,k _ _ (.inr d) e2,c⟩,r⟩
  | own y=>obtain⟨ob,e⟩:=x; exact⟨ob,k _ _ (.inl rfl) e⟩
  | xd fs=>obtain⟨mA,⟨od,es,ep,e,c⟩,r⟩:=x; exact⟨mA,⟨od,es,ep,k _ _ (.inl rfl) e,c⟩,r⟩
  | rng lo hi=>obtain⟨t,u,v,e⟩:=x; exact⟨t,u,v,k _ _ (.inl rfl) e⟩
  | frz ob u ih=>obtain⟨e,q⟩:=x; exact⟨k _ _ (.inl rfl) e,ih q⟩
  | tbl ps =>
    have e:h.get? a=some { cls:=.none,data:=.fields ps }:=x;show h'.get? a=some { cls:=.none,data:=.fields ps };exact k a _ (.inl rfl) e
  | met f y =>
    have e:h.get? a=some (PySem.W.methodObj (.ref f) (.ref y)):=x;show h'.get? a=some (PySem.W.methodObj (.ref f) (.ref y));exact k a _ (.inl rfl) e
  | ext φ=>obtain⟨p,⟨o,e⟩,st⟩:=x; exact⟨st _ _ p fun o q=>k _ _ (.inl rfl) q,⟨o,k _ _ (.inl rfl) e⟩,st⟩
theorem HOk.lt (x:HOk P w H h) (e:H a=some o):a<h.objs.size:=(x a o e).lt
theorem HOk.fresh (x:HOk P w H h) (e:h.objs.size<=a):H a=none:=by
 cases q:H a with
 | none=>rfl
 | some u=>exact absurd (ZF (x.lt q) e) (YI _)
theorem HOk.kept (x:HOk P w H h) (k:∀ b u,h.get? b=some u->h'.get? b=some u):HOk P w H h':=fun a o e =>
 (x a o e).stay (fun b u _ q=>k b u q) (fun _ q=>q) fun _ _ q=>q
theorem HOk.laid (x:HOk P w H h) (k:∀ b u,h.get? b=some u->h'.get? b=some u) (hp:h.objs.size<=a) (new:xap P w (upd H a o) h' a o):HOk P w (upd H a o) h':=fun b u e=>by
 have hn:=x.fresh hp;by_cases hb:b=a
 .subst hb; rw[xi] at e; cases e; exact new
 .rw [xh hb] at e;exact (x b u e).stay (fun c v _ q=>k c v q) (fun c q=>by rw[xh (xg q hn)]; exact q) fun c xs q=>by rw[xh (xg q hn)]; exact q
end
def Rd (H:Hp) (a:Addr) (u:HO):Prop:=H a=some u\/∃ o,H a=some (.frz o u)
theorem Rd.ok {P:Program}{w:World}{H:Hp}{h:Heap}{a:Addr}{u:HO} (r:Rd H a u) (x:HOk P w H h):xap P w H h a u:=by
 rcases r with r|⟨o,r⟩
 .exact x a u r
 .obtain ⟨_,q⟩:=x a _ r;exact q
def Mut:Option HO->Prop
 | some (.lst _)=>True
 | some (.dK _)=>True
 | some (.dT _)=>True
 | some (.set _ _)=>True
 | some (.ins _ _ _)=>True
 | some (.ext _)=>True
 | _=>False
section
variable {P:Program}{w:World}{H:Hp}{h h':Heap}{x e:Addr}{o':HO}
theorem HOk.write (ok:HOk P w H h) (mu:Mut (H x)) (he:e=x\/H e=some (.own x)) (k:∀ b u,b≠e->h.get? b=some u->h'.get? b=some u) (heo:∃ u,h'.get? e=some u)
    (new:xap P w (upd H x o') h' x o'):HOk P w (upd H x o') h':=fun b u q=>by
  have nown:∀ c y,H c=some (.own y)->c≠x:=fun c y r z=>by subst z; rw[r] at mu; exact mu
  have ntup:∀ c xs,H c=some (.tup xs)->c≠x:=fun c xs r z=>by subst z; rw[r] at mu; exact mu
  by_cases hb:b=x
  . subst hb; rw[xi] at q; cases q; exact new
  . rw[xh hb] at q
    by_cases hbe:b=e
    . have q':H b=some (.own x):=by
        rcases he with z|z
        . exact absurd (hbe.trans z) hb
        . rw[hbe]; exact z
      rw[q] at q'; cases q';obtain⟨v,hv⟩:=heo;exact⟨v,by rw[hbe]; exact hv⟩
    . refine (ok b u q).stay (fun c v hc r=>k c v ?_ r) (fun c r=>by rw[xh (nown c b r)]; exact r) fun c xs r=>by rw[xh (ntup c xs r)]; exact r
      rcases hc with rfl|hc
      . exact hbe
      . rintro rfl
        rcases he with z|z
        . exact nown c b hc z
        . rw[hc] at z; cases z; exact hb rfl
end
structure Un (fs ex:List Addr) (H H':Hp) (h h':Heap):Prop where
 keep:∀ b o,h.get? b=some o->H b=none->b∉fs->b∉ex->h'.get? b=some o
 slot:∀ b o,h.get? b=some o->H b=none->b∈fs->b∉ex->∃ sl,h'.get? b=some { o with slots:=sl }
 free:∀ b o,h.get? b=some o->H b=none->b∉ex->H' b=none
 there:∀ b o,h.get? b=some o->b∉ex->∃ o',h'.get? b=some o'
 tups:∀ b xs,H b=some (.tup xs)->H' b=some (.tup xs)
 frzs:∀ b o u,H b=some (.frz o u)->H' b=some (.frz o u)
 tbls:∀ b ps,H b=some (.tbl ps)->∃ more,H' b=some (.tbl (ps++more))
section
variable {fs fs' ex ex':List Addr}{H H1 H2:Hp}{h h1 h2 h':Heap}{a x e:Addr}{o:HO}
theorem Un.any (u:Un fs ex H H1 h h1) {b:Addr}{ob:Obj} (q:h.get? b=some ob) (n:H b=none) (hx:b∉ex):∃ sl,h1.get? b=some { ob with slots:=sl }:=by
 by_cases hb:b∈fs
 .exact u.slot b ob q n hb hx
 .exact ⟨ob.slots,u.keep b ob q n hb hx⟩
theorem Un.kept (k:∀ b u,h.get? b=some u->h'.get? b=some u):Un fs ex H H h h' :=
 ⟨fun b ob q _ _ _=>k b ob q,fun b ob q _ _ _=>⟨ob.slots,k b ob q⟩,fun _ _ _ n _=>n,fun b ob q _=>⟨ob,k b ob q⟩,fun _ _ q=>q,fun _ _ _ q=>q,fun _ ps q=>⟨#[],by rw[q]; simp⟩⟩
theorem Un.refl:Un fs ex H H h h:=Un.kept fun _ _ q=>q
theorem Un.laid (k:∀ b u,h.get? b=some u->h'.get? b=some u) (hp:h.objs.size<=a) (hn:H a=none):Un fs ex H (upd H a o) h h' where
 keep:=fun b u q _ _ _=>k b u q
 slot:=fun b u q _ _ _=>⟨u.slots,k b u q⟩
 free:=fun b u q n _=>by rw[xh (ZD (ZF (Zs q) hp))]; exact n
 there:=fun b u q _=>⟨u,k b u q⟩
 tups:=fun b xs q=>by rw[xh (xg q hn)]; exact q
 frzs:=fun b u xs q=>by rw[xh (xg q hn)]; exact q
 tbls:=fun b ps q=>⟨#[],by rw[xh (xg q hn),q]; simp⟩
theorem Un.write (mu:Mut (H x)) (he:e=x\/H e=some (.own x)) (k:∀ b u,b≠e->h.get? b=some u->h'.get? b=some u) (heo:∃ u,h'.get? e=some u):Un fs ex H (upd H x o) h h':=by
 have hx:∀ b,H b=none->b≠x:=fun b n z=>by subst z; rw[n] at mu; exact mu
 have hb:∀ b,H b=none->b≠e:=fun b n z=>by
  subst z;rcases he with r|r
  .exact hx b n r
  .rw [n] at r; cases r
 have hm:∀ b u,H b=some u->¬ Mut (some u)->b≠x:=fun b u q nm z=>by subst z; rw[q] at mu; exact nm mu
 refine⟨fun b u q n _ _=>k b u (hb b n) q,fun b u q n _ _=>⟨u.slots,k b u (hb b n) q⟩,fun b u q n _=>by rw[xh (hx b n)]; exact n,fun b u q _=>?_,
  fun b xs q=>by rw[xh (hm b _ q fun z=>z)]; exact q,fun b u xs q=>by rw[xh (hm b _ q fun z=>z)]; exact q,fun b ps q=>⟨#[],by rw[xh (hm b _ q fun z=>z),q]; simp⟩⟩
 by_cases hbe:b=e
 .subst hbe; exact heo
 .exact ⟨u,k b u hbe q⟩
end
def trk (h:Heap) (H:Hp):List Addr:=(ZI h.objs.size).filter fun a=>(H a).isSome
def hidT (h:Heap) (H:Hp):Heap:=PySem.W.hideAll h (trk h H)
theorem xnt (h:Heap) (H:Hp):(hidT h H).objs.size=h.objs.size:=PySem.W.hideAll_size _ _
theorem xo4 {h:Heap}{H:Hp}{b:Addr}{o:Obj} (e:h.get? b=some o) (n:H b=none):(hidT h H).get? b=some o :=
 PySem.W.hideAll_get _ e fun hm=>by
  have q:(H b).isSome=true:=(ZR.mp hm).2;rw[n] at q; simp at q
theorem xqq {h:Heap}{H:Hp}{b:Addr}{o:Obj} (e:(hidT h H).get? b=some o):h.get? b=some o/\H b=none:=by
 have e':h.get? b=some o:=PySem.W.of_hideAll (trk h H) e;refine⟨e',?_⟩;cases q:H b with
 | none=>rfl
 | some x =>
  have hm:b∈trk h H:=ZR.mpr ⟨Q6.mpr (Zs e'),by simp[q]⟩;have z:(hidT h H).get? b=none:=PySem.W.hideAll_none (trk h H) hm;rw[z] at e; cases e
def xqx (g h:Heap) (L:Addr):List (Addr × Obj):=(ZI h.objs.size).filterMap fun a=>if a=L\/(g.get? a).isSome=true then none else (h.get? a).map fun o=>(a,o)
def rest (g h:Heap) (L d:Addr):List (Addr × Obj):=(xqx g h L).filter fun p=>decide (p.1≠d)
structure Mod (K:Zd) (mg:Str->Option Value) (base:Heap):Prop where
 kin:K.In base
 glob:base.Ns mainGlobals mg
 blt:∃ mb,base.Ns builtinsNs mb/\∀ x:Str,x≠"__name__"->mb x=bootBuiltins x
 nolimit:base.NoLimit
structure Cx where
 prog:Program
 w:World
 K:Zd
 mg:Str->Option Value
 base:Heap
 A:Around
 N:List Str
 s₀:Shared
 H₀:Hp
 env:Env
 outer:List Env
 stack:List Env
 ex:List Addr
 fn:Str->Bool
 calm:Bool
 pn:List (Addr × Obj)
 xe:Value->Shared->Prop
def frs (l:List Env):List Addr:=l.filterMap (·.frame)
abbrev Cx.fs (X:Cx):List Addr:=frs X.outer
def Vis (sc:Scope) (x:Str):Prop:=sc.names.lookup x=some .local\/sc.names.lookup x=some .cell\/sc.names.lookup x=some .free
def Loc (sc:Scope) (x:Str):Prop:=sc.names.lookup x=some .local\/sc.names.lookup x=some .cell
def Look (env:Env) (h:Heap) (m:Str->Option Value) (x:Str) (u:Value):Prop :=
 (env.kindOf x=some .local/\m x=some u)\/((env.kindOf x=some .cell\/env.kindOf x=some .free)/\∃ c,env.cells.lookup x=some c/\h.IsCell c (some u))
structure Cx.Ok (X:Cx):Prop where
 mod:Mod X.K X.mg X.base
 kind:X.env.scope.kind=.function
 glob:X.env.globals=mainGlobals
 blt:X.env.builtins=builtinsNs
 above:X.s₀.heap.objs.size<=X.env.locals
 inj:∀ x y c,X.env.cells.lookup x=some c->X.env.cells.lookup y=some c->x=y
 has:∀ x,(X.env.kindOf x=some .cell\/X.env.kindOf x=some .free)->∃ c,X.env.cells.lookup x=some c
 cab:∀ x c,X.fn x=true->X.env.cells.lookup x=some c->X.s₀.heap.objs.size<=c
 hd:X.calm=true->X.A.handled=none
 frames:X.A.frames=some X.stack
 stk:X.stack=X.outer\/(X.stack=X.env::X.outer/\X.env.frame=some X.env.locals)
 exf:∀ b∈X.ex,b≠X.env.locals/\∀ x c,X.env.cells.lookup x=some c->c≠b
 bs:∀ b o,X.base.get? b=some o->X.s₀.heap.get? b=some o/\X.H₀ b=none
 bsz:X.base.objs.size<=X.s₀.heap.objs.size
 noex:∀ b o,X.base.get? b=some o->b∉X.ex
 exfs:∀ b∈X.ex,b∉X.fs
 funs:X.s₀.heap.FunFrames X.base X.outer
 frf:∀ b∈X.fs,X.H₀ b=none
structure Inv (X:Cx) (pins:List (Addr × Obj)) (Z:List (Option V)) (H:Hp) (s:Shared):Prop where
 ok:X.Ok
 os:s.os=X.s₀.os
 bare:AllBare s.gens
 base:Un X.fs X.ex X.H₀ H X.s₀.heap s.heap
 loc:∃ m,s.heap.Ns X.env.locals m/\∀(i:Nat) (x:Str) (v:V),X.N[i]?=some x->Z[i]?=some (some v)->Vis X.env.scope x->∃ u,RelV v u/\Look X.env s.heap m x u
 cell:∀ x c,X.env.cells.lookup x=some c->∃ v,s.heap.IsCell c v
 free:H X.env.locals=none
 freeC:∀ x c,X.env.cells.lookup x=some c->H c=none
 pin:∀ p∈X.pn++pins,s.heap.get? p.1=some p.2/\H p.1=none/\p.1≠X.env.locals/\p.1∉X.fs/\∀ v,p.2.data≠.cell v
 hok:HOk X.prog X.w H s.heap
 len:Z.length=X.N.length
section
variable {X:Cx}{pins:List (Addr × Obj)}{Z:List (Option V)}{H H':Hp}{s:Shared}{h':Heap}
theorem Cx.Ok.nofr (ok:X.Ok) {b:Addr}{o:Obj} (e:X.base.get? b=some o):b∉X.fs:=fun hb=>by
 have:=(ok.funs.mem hb).1;rw[e] at this; cases this
theorem Inv.bs (I:Inv X pins Z H s):∀ b o,X.base.get? b=some o->s.heap.get? b=some o/\H b=none:=fun b o e =>
 ⟨I.base.keep b o (I.ok.bs b o e).1 (I.ok.bs b o e).2 (I.ok.nofr e) (I.ok.noex b o e),I.base.free b o (I.ok.bs b o e).1 (I.ok.bs b o e).2 (I.ok.noex b o e)⟩
theorem Inv.bk (I:Inv X pins Z H s):∀ b o,X.base.get? b=some o->s.heap.get? b=some o:=fun b o e=>(I.bs b o e).1
theorem Inv.mod (I:Inv X pins Z H s):Mod X.K X.mg X.base:=I.ok.mod
theorem Inv.kIn (I:Inv X pins Z H s):X.K.In s.heap:=I.ok.mod.kin.keeps I.bk
theorem Inv.fr (I:Inv X pins Z H s):∃ m,Fr X.base X.env.locals s.heap m :=
 let ⟨m,hn,_⟩:=I.loc
 ⟨m,hn,I.bk,Z6 I.ok.bsz I.ok.above⟩
theorem Inv.lt (I:Inv X pins Z H s):X.env.locals<s.heap.objs.size:=let ⟨_,hn,_⟩:=I.loc; hn.lt
theorem Inv.sz (I:Inv X pins Z H s):X.s₀.heap.objs.size<=s.heap.objs.size:=Z6 I.ok.above (YZ I.lt)
theorem Inv.nofs (I:Inv X pins Z H s) {a:Addr} (h:s.heap.objs.size<=a):a∉X.fs:=fun hb=>by
 obtain⟨_,o,ho,_⟩:=I.ok.funs.mem hb;exact absurd (ZF (Zs ho) (Z6 I.sz h)) (YI _)
theorem Inv.cne (I:Inv X pins Z H s):∀ x c,X.env.cells.lookup x=some c->c≠X.env.locals:=fun x c e z=>by
 obtain⟨v,o,ho,hd⟩:=I.cell x c e;obtain⟨m,⟨o',es,ep,ho',hd',_⟩,_⟩:=I.loc;rw[z,ho'] at ho; cases ho; rw[hd'] at hd; cases hd
theorem Inv.funs (I:Inv X pins Z H s):s.heap.FunFrames X.base X.outer:=by
 have all:∀(l:List Env),(∀ b∈frs l,b∈X.fs)->X.s₀.heap.FunFrames X.base l->s.heap.FunFrames X.base l:=by
  intro l
  induction l with
  | nil=>intro _ _; trivial
  | cons env r ih =>
   intro hs hl;obtain⟨hk,⟨L,o,hf,hn,ho,hd⟩,hr⟩:=hl;have hL:L∈X.fs:=hs L (by unfold frs; rw[JW,hf]; exact Zp);obtain⟨sl,e⟩:=I.base.slot L o ho (I.ok.frf L hL) hL fun z=>I.ok.exfs L z hL
   exact⟨hk,⟨L,_,hf,hn,e,hd⟩,ih (fun b hb=>hs b (by unfold frs; rw[JW,hf]; exact Zm _ hb)) hr⟩
 exact all X.outer (fun _ hb=>hb) I.ok.funs
theorem Inv.stack (I:Inv X pins Z H s):s.heap.FunFrames X.base X.stack:=by
 rcases I.ok.stk with e|⟨e,hf⟩
 .rw [e]; exact I.funs
 .rw [e];obtain⟨m,hn,_⟩:=I.loc;refine .cons (by rw[I.ok.kind]; decide) hf hn ?_ I.funs;exact Wa (Z6 I.ok.bsz I.ok.above)
theorem Inv.stkSub (I:Inv X pins Z H s):∀ b∈frs X.stack,b∈X.env.locals::X.fs:=fun b hb=>by
 rcases I.ok.stk with e|⟨e,hf⟩
 .rw [e] at hb; exact Zm _ hb
 .rw [e] at hb;unfold frs at hb;rw[JW,hf] at hb;exact hb
theorem Inv.stkFree (I:Inv X pins Z H s):∀ b∈frs X.stack,H b=none:=fun b hb=>by
 rcases Zz.mp (I.stkSub b hb) with e|hb
 .rw [e]; exact I.free
 .obtain ⟨_,o,ho,_⟩:=I.ok.funs.mem hb;exact I.base.free b o ho (I.ok.frf b hb) fun z=>I.ok.exfs b z hb
theorem Inv.step {g':Array GenState}{t':Nat}{d':Drawn}{ch:List Addr} (I:Inv X pins Z H s)
    (hch:∀ b∈ch,(b∈X.ex\/X.s₀.heap.objs.size<=b)/\b≠X.env.locals/\(∀ x c,X.env.cells.lookup x=some c->c≠b)/\∀ p∈X.pn++pins,p.1≠b)
    (keep:∀ b o,b≠X.env.locals->b∉X.fs->b∉ch->s.heap.get? b=some o->H b=none->h'.get? b=some o)
    (slot:∀ b o,b≠X.env.locals->b∈X.fs->b∉ch->s.heap.get? b=some o->H b=none->∃ sl,h'.get? b=some { o with slots:=sl }) (free:∀ b o,b∉ch->s.heap.get? b=some o->H b=none->H' b=none)
    (there:∀ b o,b∉ch->s.heap.get? b=some o->∃ o',h'.get? b=some o')
    (tups:∀ b xs,H b=some (.tup xs)->H' b=some (.tup xs)) (frzs:∀ b o u,H b=some (.frz o u)->H' b=some (.frz o u)) (tbls:∀ b ps,H b=some (.tbl ps)->∃ more,H' b=some (.tbl (ps++more)))
    (ns:∀ m,s.heap.Ns X.env.locals m->h'.Ns X.env.locals m) (hok:HOk X.prog X.w H' h') (hg:AllBare g') :
    Inv X pins Z H' { s with heap:=h',gens:=g',drawn:=d',toks:=t' }:=by
  have neL:∀ b o,X.s₀.heap.get? b=some o->b≠X.env.locals:=fun b o e=>ZD (ZF (Zs e) I.ok.above);have neC:∀ b o,X.s₀.heap.get? b=some o->b∉X.ex->b∉ch:=fun b o e hx hb=>by
    rcases (hch b hb).1 with z|z
    . exact hx z
    . exact absurd (ZF (Zs e) z) (YI _)
  have cellK:∀ x c,X.env.cells.lookup x=some c->∀ v,s.heap.IsCell c v->h'.IsCell c v:=fun x c e v ⟨o,ho,hd⟩=>by
    have nch:c∉ch:=fun z=>(hch c z).2.2.1 x c e rfl;by_cases hc:c∈X.fs
    . obtain⟨sl,q⟩:=slot c o (I.cne x c e) hc nch ho (I.freeC x c e)
      exact⟨_,q,hd⟩
    . exact⟨o,keep c o (I.cne x c e) hc nch ho (I.freeC x c e),hd⟩
  refine⟨I.ok,I.os,hg,⟨fun b o e n hb hx=>?_,fun b o e n hb hx=>?_,fun b o e n hx=>?_,fun b o e hx=>?_,fun b xs e=>tups b xs (I.base.tups b xs e),fun b o xs e=>frzs b o xs (I.base.frzs b o xs e),fun b ps e=>?_⟩,?_,fun x c e=>?_,?_,fun x c e=>?_,fun p hp=>?_,hok,I.len⟩
  . exact keep b o (neL b o e) hb (neC b o e hx) (I.base.keep b o e n hb hx) (I.base.free b o e n hx)
  . obtain⟨sl,e1⟩:=I.base.slot b o e n hb hx
    obtain⟨sl',e2⟩:=slot b _ (neL b o e) hb (neC b o e hx) e1 (I.base.free b o e n hx);exact⟨sl',e2⟩
  . obtain⟨o',e1⟩:=I.base.there b o e hx
    exact free b o' (neC b o e hx) e1 (I.base.free b o e n hx)
  . obtain⟨o',e1⟩:=I.base.there b o e hx
    exact there b o' (neC b o e hx) e1
  . obtain⟨m1,e1⟩:=I.base.tbls b ps e
    obtain⟨m2,e2⟩:=tbls b _ e1;exact⟨m1++m2,by rw[e2,Array.append_assoc]⟩
  . obtain⟨m,hn,hl⟩:=I.loc
    refine⟨m,ns m hn,fun i x v e1 e2 e3=>?_⟩;obtain⟨u,r,l⟩:=hl i x v e1 e2 e3;refine⟨u,r,?_⟩;rcases l with l|⟨k,c,e,z⟩
    . exact .inl l
    . exact .inr ⟨k,c,e,cellK x c e _ z⟩
  . obtain⟨v,z⟩:=I.cell x c e
    exact⟨v,cellK x c e v z⟩
  . obtain⟨m,⟨o,_,_,ho,_⟩,_⟩:=I.loc
    exact free _ o (fun z=>(hch _ z).2.1 rfl) ho I.free
  . obtain⟨v,o,ho,hd⟩:=I.cell x c e
    exact free c o (fun z=>(hch c z).2.2.1 x c e rfl) ho (I.freeC x c e)
  . obtain⟨e,n,ne,nf,d⟩:=I.pin p hp
    have nch:p.1∉ch:=fun z=>(hch p.1 z).2.2.2 p hp rfl;exact⟨keep p.1 p.2 ne nf nch e n,free p.1 p.2 nch e n,ne,nf,d⟩
theorem Inv.un {t':Nat} (I:Inv X pins Z H s) (u:Un X.fs [] H H' s.heap h') (hok:HOk X.prog X.w H' h'):Inv X pins Z H' { s with heap:=h',toks:=t' }:=by
 obtain⟨m,⟨o,es,ep,ho,r⟩,_⟩:=id I.loc;obtain⟨sl,hL⟩:=u.any ho I.free (by simp);exact I.step (g':=s.gens) (d':=s.drawn) (ch:=[]) (fun _ z=>nomatch z) (fun b o _ hb _ e n=>u.keep b o e n hb (by simp)) (fun b o _ hb _ e n=>u.slot b o e n hb (by simp)) (fun b o _ e n=>u.free b o e n (by simp)) (fun b o _ e=>u.there b o e (by simp)) u.tups u.frzs u.tbls (fun m' hm=>by
  obtain⟨o',es',ep',ho',r'⟩:=hm;rw[ho] at ho'; cases ho';exact⟨_,es',ep',hL,r'⟩) hok I.bare
theorem Inv.call {g':Array GenState}{t':Nat}{d':Drawn}{ch:List Addr} (I:Inv X pins Z H s) (u:Un (frs X.stack) ch H H' s.heap h') (hok:HOk X.prog X.w H' h') (hg:AllBare g')
    (hch:∀ b∈ch,(b∈X.ex\/X.s₀.heap.objs.size<=b)/\b≠X.env.locals/\(∀ x c,X.env.cells.lookup x=some c->c≠b)/\∀ p∈X.pn++pins,p.1≠b) :
    Inv X pins Z H' { s with heap:=h',gens:=g',drawn:=d',toks:=t' }:=by
  obtain⟨m,⟨o,es,ep,ho,r⟩,_⟩:=id I.loc;obtain⟨sl,hL⟩:=u.any ho I.free fun z=>(hch _ z).2.1 rfl
  exact I.step (ch:=ch) hch (fun b o hL hb hc e n=>u.keep b o e n (fun z=>(Zz.mp (I.stkSub b z)).elim hL hb) hc) (fun b o _ _ hc e n=>u.any e n hc) (fun b o hc e n=>u.free b o e n hc) (fun b o hc e=>u.there b o e hc) u.tups u.frzs u.tbls (fun m' hm=>by
    obtain⟨o',es',ep',ho',r'⟩:=hm;rw[ho] at ho'; cases ho';exact⟨_,es',ep',hL,r'⟩) hok hg
theorem Inv.turned {t':Nat}{it:Addr} (I:Inv X pins Z H s) (k:∀ b o,b≠it->s.heap.get? b=some o->h'.get? b=some o) (hn:H it=none) (hL:it≠X.env.locals)
    (h1:it∈X.ex\/X.s₀.heap.objs.size<=it) (h2:∀ x c,X.env.cells.lookup x=some c->c≠it) (h3:∀ p∈X.pn++pins,p.1≠it):Inv X pins Z H { s with heap:=h',toks:=t' }:=by
  have nit:∀ b u,H b=some u->b≠it:=fun b u e z=>by rw[z,hn] at e; cases e
  refine I.step (g':=s.gens) (d':=s.drawn) (ch:=[it]) (fun b hb=>?_) (fun b o _ _ hc e _=>k b o (fun z=>hc (by simp[z])) e) (fun b o _ _ hc e _=>⟨o.slots,k b o (fun z=>hc (by simp[z])) e⟩) (fun _ _ _ _ n=>n)
    (fun b o hc e=>⟨o,k b o (fun z=>hc (by simp[z])) e⟩) (fun _ _ e=>e) (fun _ _ _ e=>e) (fun b ps e=>⟨#[],by rw[e]; simp⟩) (fun m hm=>?_) (fun b u e=>?_) I.bare
  . have e:b=it:=by simpa using hb
    subst e;exact⟨h1,hL,h2,h3⟩
  . obtain⟨o,es,ep,ho,r⟩:=hm
    exact⟨o,es,ep,k _ o (Zw hL) ho,r⟩
  . refine (I.hok b u e).stay (fun c v hc q=>k c v ?_ q) (fun _ q=>q) fun _ _ q=>q
    rcases hc with z|z
    . rw[z]; exact nit b u e
    . exact nit c _ z
theorem Inv.tok (I:Inv X pins Z H s) (t:Nat):Inv X pins Z H { s with toks:=t }:=I.un (h':=s.heap) (t':=t) Un.refl I.hok
theorem Inv.kept {t':Nat} (I:Inv X pins Z H s) (k:∀ b u,s.heap.get? b=some u->h'.get? b=some u):Inv X pins Z H { s with heap:=h',toks:=t' }:=I.un (Un.kept k) (I.hok.kept k)
theorem Inv.laid {a:Addr}{o:HO}{t':Nat} (I:Inv X pins Z H s) (k:∀ b u,s.heap.get? b=some u->h'.get? b=some u) (hp:s.heap.objs.size<=a) (new:xap X.prog X.w (upd H a o) h' a o) :
    Inv X pins Z (upd H a o) { s with heap:=h',toks:=t' }:=I.un (Un.laid k hp (I.hok.fresh hp)) (I.hok.laid k hp new)
theorem Inv.write {x e:Addr}{o:HO}{t':Nat} (I:Inv X pins Z H s) (mu:Mut (H x)) (he:e=x\/H e=some (.own x)) (k:∀ b u,b≠e->s.heap.get? b=some u->h'.get? b=some u) (heo:∃ u,h'.get? e=some u)
    (new:xap X.prog X.w (upd H x o) h' x o):Inv X pins Z (upd H x o) { s with heap:=h',toks:=t' }:=I.un (Un.write mu he k heo) (I.hok.write mu he k heo new)
theorem Inv.weak {σ':List (Option V)} (I:Inv X pins Z H s) (hl:σ'.length=Z.length) (w:∀(i:Nat) v,σ'[i]?=some (some v)->Z[i]?=some (some v)):Inv X pins σ' H s :=
 ⟨I.ok,I.os,I.bare,I.base,let ⟨m,hn,hl'⟩:=I.loc; ⟨m,hn,fun i x v e1 e2 e3=>hl' i x v e1 (w i v e2) e3⟩,I.cell,I.free,I.freeC,I.pin,I.hok,hl.trans I.len⟩
theorem Inv.pins_of {pins':List (Addr × Obj)} (I:Inv X pins Z H s) (h:∀ p∈pins',s.heap.get? p.1=some p.2/\H p.1=none/\p.1≠X.env.locals/\p.1∉X.fs/\∀ v,p.2.data≠.cell v):Inv X pins' Z H s :=
 ⟨I.ok,I.os,I.bare,I.base,I.loc,I.cell,I.free,I.freeC,fun p hp=>(ZB.mp hp).elim (fun z=>I.pin p (ZL _ z)) (h p),I.hok,I.len⟩
theorem xft {N:List Str} (hN:N.Nodup) {i j:Nat}{x:Str} (a:N[i]?=some x) (b:N[j]?=some x):i=j:=by
 obtain⟨h1,e1⟩:=Zh.mp a;obtain⟨h2,e2⟩:=Zh.mp b;exact (List.getElem_inj hN).mp (e1.trans e2.symm)
theorem xg9 {M:Model}{A:Around}{E:Value->Shared->Prop}{i:Nat}{x:Str}{v:V}{u:Value}{Q:Unit->Shared->Prop} (I:Inv X pins Z H s) (hN:X.N.Nodup) (hi:X.N[i]?=some x) (hx:Loc X.env.scope x) (r:RelV v u)
    (h:∀ s',Inv X pins (Z.set i (some v)) H s'->(∃ a,ZX a s.heap s'.heap/\(a=X.env.locals\/X.env.cells.lookup x=some a))->Q () s') (hf:X.fn x=true\/X.env.scope.names.lookup x=some .local:=by first|exact .inl rfl|exact .inr rfl|assumption):wpAny M A (storeName X.env x u) Q E s:=by
  obtain⟨m,hn,hl⟩:=id I.loc;have hcls:(X.env.scope.kind == .class||(X.env.scope.kind == .module&&X.env.locals != X.env.globals))=false:=by rw[I.ok.kind]; rfl
  have hiσ:i<Z.length:=by rw[I.len]; exact (Zh.mp hi).1
  have cne:=I.cne;have tracked:∀{a:Addr}{h':Heap},(∃ o,s.heap.get? a=some o/\H a=none)->ZX a s.heap h'->HOk X.prog X.w H h':=fun {a h'} ha hs b ob e=>by
    obtain⟨_,_,hfree⟩:=ha;refine (I.hok b ob e).stay (fun c w' hc q=>(hs.2 c ?_).trans q) (fun _ q=>q) fun _ _ q=>q;rintro rfl;rcases hc with rfl|hc
    . rw[hfree] at e; cases e
    . rw[hfree] at hc; cases hc
  rcases hx with hk|hk
  . refine wpAny_storeName_local hk hn (fun h' hn' hs=>?_) hcls
    obtain⟨oL,_,_,hoL,_⟩:=id hn;refine h _ ⟨I.ok,I.os,I.bare,⟨fun b o e n hb hx=>?_,fun b o e n hb hx=>?_,I.base.free,fun b o e hx=>?_,I.base.tups,I.base.frzs,I.base.tbls⟩,⟨_,hn',fun j y v' e1 e2 e3=>?_⟩,fun y c e=>?_,I.free,I.freeC,fun p hp=>?_,tracked ⟨oL,hoL,I.free⟩ hs,by simpa using I.len⟩ ⟨_,hs,.inl rfl⟩
    . exact (hs.2 b (ZD (ZF (Zs e) I.ok.above))).trans (I.base.keep b o e n hb hx)
    . obtain⟨sl,e1⟩:=I.base.slot b o e n hb hx
      exact⟨sl,(hs.2 b (ZD (ZF (Zs e) I.ok.above))).trans e1⟩
    . obtain⟨o',e1⟩:=I.base.there b o e hx
      exact⟨o',(hs.2 b (ZD (ZF (Zs e) I.ok.above))).trans e1⟩
    . by_cases hj:j=i
      . subst hj
        rw[hi] at e1; cases e1;rw[QN hiσ] at e2;cases e2;exact⟨u,r,.inl ⟨hk,by simp⟩⟩
      . rw[YB (Zw hj)] at e2
        obtain⟨u',r',q⟩:=hl j y v' e1 e2 e3;refine⟨u',r',?_⟩;rcases q with⟨k,e⟩|⟨k,c,e,z⟩
        . refine .inl ⟨k,?_⟩
          have:y≠x:=fun e=>hj (xft hN e1 (e▸hi));simp[this,e]
        . exact .inr ⟨k,c,e,z.sameBut hs (cne y c e)⟩
    . obtain⟨w',z⟩:=I.cell y c e
      exact⟨w',z.sameBut hs (cne y c e)⟩
    . obtain⟨e,n,ne,nf,d⟩:=I.pin p hp
      exact⟨(hs.2 p.1 ne).trans e,n,ne,nf,d⟩
  . have hfn:X.fn x=true:=by
      rcases hf with z|z
      . exact z
      . rw[z] at hk; cases hk
    obtain⟨c,hc⟩:=I.ok.has x (.inl hk);obtain⟨w',z⟩:=I.cell x c hc;refine wpAny_storeName_cell I.ok.kind hk hc z (fun h' hc' hs=>?_);obtain⟨oc,hoc,hocd⟩:=id z;refine h { s with heap:=h' } ⟨I.ok,I.os,I.bare,⟨fun b o e n hb hx=>?_,fun b o e n hb hx=>?_,I.base.free,fun b o e hx=>?_,I.base.tups,I.base.frzs,I.base.tbls⟩,⟨m,hn.sameBut hs (Zw (cne x c hc)),fun j y v' e1 e2 e3=>?_⟩,fun y c' e=>?_,I.free,I.freeC,fun p hp=>?_,tracked ⟨oc,hoc,I.freeC x c hc⟩ hs,by simpa using I.len⟩ ⟨c,hs,.inr hc⟩
    . exact (hs.2 b (ZD (ZF (Zs e) (I.ok.cab x c hfn hc)))).trans (I.base.keep b o e n hb hx)
    . obtain⟨sl,e1⟩:=I.base.slot b o e n hb hx
      exact⟨sl,(hs.2 b (ZD (ZF (Zs e) (I.ok.cab x c hfn hc)))).trans e1⟩
    . obtain⟨o',e1⟩:=I.base.there b o e hx
      exact⟨o',(hs.2 b (ZD (ZF (Zs e) (I.ok.cab x c hfn hc)))).trans e1⟩
    . by_cases hj:j=i
      . subst hj
        rw[hi] at e1; cases e1;rw[QN hiσ] at e2;cases e2;exact⟨u,r,.inr ⟨.inl hk,c,hc,hc'⟩⟩
      . rw[YB (Zw hj)] at e2
        obtain⟨u',r',q⟩:=hl j y v' e1 e2 e3;refine⟨u',r',?_⟩;rcases q with q|⟨k,c',e,z'⟩
        . exact .inl q
        . refine .inr ⟨k,c',e,z'.sameBut hs ?_⟩
          rintro rfl;exact hj (xft hN e1 (I.ok.inj _ _ _ e hc▸hi))
    . by_cases hcc:c'=c
      . subst hcc; exact⟨_,hc'⟩
      . obtain⟨w2,z2⟩:=I.cell y c' e
        exact⟨w2,z2.sameBut hs hcc⟩
    . obtain⟨e,n,ne,nf,d⟩:=I.pin p hp
      refine⟨(hs.2 p.1 ?_).trans e,n,ne,nf,d⟩;intro q;rw[q,hoc] at e;have q':oc=p.2:=ZN.inj e;exact d w' (by rw[<- q']; exact hocd)
theorem xez {M:Model}{A:Around}{E:Value->Shared->Prop}{i:Nat}{x:Str}{v:V}{u:Value}{Q:Unit->Shared->Prop} (I:Inv X pins Z H s) (hN:X.N.Nodup) (hi:X.N[i]?=some x) (hx:Loc X.env.scope x) (r:RelV v u)
    (h:∀ s',Inv X pins (Z.set i (some v)) H s'->Q () s') (hf:X.fn x=true\/X.env.scope.names.lookup x=some .local:=by first|exact .inl rfl|exact .inr rfl|assumption):wpAny M A (storeName X.env x u) Q E s :=
  xg9 I hN hi hx r (fun s' I' _=>h s' I') hf
theorem Inv.call' {s':Shared}{ch:List Addr} (I:Inv X pins Z H s) (ho:s'.os=s.os) (u:Un (frs X.stack) ch H H' s.heap s'.heap) (hok:HOk X.prog X.w H' s'.heap) (hg:AllBare s'.gens)
    (hch:∀ b∈ch,(b∈X.ex\/X.s₀.heap.objs.size<=b)/\b≠X.env.locals/\(∀ x c,X.env.cells.lookup x=some c->c≠b)/\∀ p∈X.pn++pins,p.1≠b):Inv X pins Z H' s':=by
  obtain⟨h',g',d',t',o'⟩:=s';have e:o'=s.os:=ho;subst e;exact I.call (g':=g') (t':=t') (d':=d') u hok hg hch
end
abbrev XK:=Addr->Addr->Hp->Prop
abbrev St:=List (Option V)
abbrev VK:=V->Hp->Prop
abbrev TE:=St->Hp->VK->Prop
abbrev TT:=St->Hp->(Bool->Hp->Prop)->Prop
abbrev TA:=St->Hp->(List V->Hp->Prop)->Prop
structure Ends where
 nx:St->Hp->Prop
 rt:VK
 bk:St->Hp->Prop:=fun _ _=>False
 ct:St->Hp->Prop:=fun _ _=>False
abbrev TS:=Ends->St->Hp->Prop
def EP (X:Cx) (pins:List (Addr × Obj)) (Z:St) (Q:VK) (u:Value) (s':Shared):Prop:=∃ v H',Inv X pins Z H' s'/\RelV v u/\Q v H'
def TP (X:Cx) (pins:List (Addr × Obj)) (Z:St) (Q:Bool->Hp->Prop) (b:Bool) (s':Shared):Prop:=∃ H',Inv X pins Z H' s'/\Q b H'
def AP (X:Cx) (pins:List (Addr × Obj)) (Z:St) (Q:List V->Hp->Prop) (us:List Value) (s':Shared):Prop:=∃ vs H',Inv X pins Z H' s'/\Vals vs us/\Q vs H'
def SP (X:Cx) (pins:List (Addr × Obj)) (D:Ends) (f:Flow) (s':Shared):Prop :=
 match f with
 | .next=>∃ σ' H',Inv X pins σ' H' s'/\D.nx σ' H'
 | .brk=>∃ σ' H',Inv X pins σ' H' s'/\D.bk σ' H'
 | .cont=>∃ σ' H',Inv X pins σ' H' s'/\D.ct σ' H'
 | .ret u=>∃ v σ' H',Inv X pins σ' H' s'/\RelV v u/\D.rt v H'
def PE (X:Cx) (e:Expr) (t:TE):Prop :=
 ∀(pins:List (Addr × Obj)) (s:Shared) (Z:St) (H:Hp) (Q:VK),Inv X pins Z H s->t Z H Q->wpAny (model X.prog X.w) X.A (eval e X.env) (EP X pins Z Q) X.xe s
def PT (X:Cx) (e:Expr) (t:TT):Prop :=
 ∀(pins:List (Addr × Obj)) (s:Shared) (Z:St) (H:Hp) (Q:Bool->Hp->Prop),Inv X pins Z H s->t Z H Q->wpAny (model X.prog X.w) X.A (isTrue e X.env (eval e X.env)) (TP X pins Z Q) X.xe s
def PW (X:Cx) (e:Expr) (t:TT):Prop :=
 ∀(whole:Sem Value) (pins:List (Addr × Obj)) (s:Shared) (Z:St) (H:Hp) (Q:Bool->Hp->Prop),Inv X pins Z H s->t Z H Q->wpAny (model X.prog X.w) X.A (isTrue e X.env whole) (TP X pins Z Q) X.xe s
theorem PW.pt {X:Cx}{e:Expr}{t:TT} (h:PW X e t):PT X e t:=h _
def PA (X:Cx) (es:List Expr) (t:TA):Prop :=
 ∀(pos:Pos) (pins:List (Addr × Obj)) (s:Shared) (Z:St) (H:Hp) (Q:List V->Hp->Prop),Inv X pins Z H s->t Z H Q->wpAny (model X.prog X.w) X.A (spliced (backTo pos (starEach es X.env))) (AP X pins Z Q) X.xe s
def PS (X:Cx) (st:Stmt) (t:TS):Prop :=
 ∀(pins:List (Addr × Obj)) (s:Shared) (Z:St) (H:Hp) (D:Ends),Inv X pins Z H s->t D Z H->wpAny (model X.prog X.w) X.A (exec st X.env) (SP X pins D) X.xe s
def PSs (X:Cx) (st:List Stmt) (t:TS):Prop :=
 ∀(pins:List (Addr × Obj)) (s:Shared) (Z:St) (H:Hp) (D:Ends),Inv X pins Z H s->t D Z H->wpAny (model X.prog X.w) X.A (execs st X.env) (SP X pins D) X.xe s
theorem thn {α:Type}{t:Sem α}{Q Q':α->Shared->Prop}{M:Model}{A:Around}{E:Value->Shared->Prop}{s:Shared} (h:wpAny M A t Q E s) (hQ:∀ a s,Q a s->Q' a s):wpAny M A t Q' E s:=ZU h hQ fun _ _ x=>x
section
variable {X:Cx}
theorem bin {a b:Expr}{ta tb:TE} (ha:PE X a ta) (hb:PE X b tb) {pins:List (Addr × Obj)}{s:Shared}{Z:St}{H:Hp}{R:V->V->Hp->Prop} (I:Inv X pins Z H s) (h:ta Z H fun x H1=>tb Z H1 fun y H2=>R x y H2)
    {α:Type}{Q:α->Shared->Prop}{f:Value->Value->Sem α}
    (hf:∀ v u s2 x y H2,Inv X pins Z H2 s2->RelV x v->RelV y u->R x y H2->wpAny (model X.prog X.w) X.A (f v u) Q X.xe s2) :
    wpAny (model X.prog X.w) X.A (eval a X.env) (fun v s₁=>wpAny (model X.prog X.w) X.A (eval b X.env) (fun u s₂=>wpAny (model X.prog X.w) X.A (f v u) Q X.xe s₂) X.xe s₁) X.xe s:=by
  refine thn (ha pins s Z H _ I h) fun v s1 ⟨x,H1,I1,r1,q1⟩=>?_;refine thn (hb pins s1 Z H1 _ I1 q1) fun u s2 ⟨y,H2,I2,r2,q2⟩=>?_;exact hf v u s2 x y H2 I2 r1 r2 q2
inductive tVar (i:Nat) (Z:St) (H:Hp) (Q:VK):Prop
 | mk (v) (e_:Z[i]?=some (some v)) (r_:Q v H)
def tC (v:V):TE:=fun _ H Q=>Q v H
theorem xsh {i:Nat}{x:Str}{pos:Pos} (hN:X.N[i]?=some x) (hv:Vis X.env.scope x) (hd:(x == ("__debug__":Str))=false:=by decide) (hcd:(x == ("__classdict__":Str))=false:=by decide):PE X (.Name x pos) (tVar i):=by
 intro pins s Z H Q I h;obtain⟨v,e,h⟩:=h;obtain⟨m,hn,hl⟩:=I.loc;obtain⟨u,r,l⟩:=hl i x v hN e hv;have fin:EP X pins Z Q u s:=⟨v,H,I,r,h⟩
 rcases l with⟨hk,hm⟩|⟨hk,c,hc,hcell⟩
 .exact wpAny_Name (wpAny_loadName_local I.ok.kind hk hn hm fin) hd
 .rcases hk with hk|hk
  .exact wpAny_Name (wpAny_loadName_cell I.ok.kind hk hc hcell fin) hd
  .exact wpAny_Name (wpAny_loadName_free I.ok.kind hk hc hcell fin hcd) hd
theorem xn {i j pos}:PE X (.Constant (.int i) j pos) (tC (.int i)):=fun _ _ _ H _ I h=>wpAny_Constant_int ⟨.int i,H,I.tok _,⟨_,rfl⟩,h⟩
theorem xcl {b j pos}:PE X (.Constant (.bool b) j pos) (tC (.bl b)):=fun _ _ _ H _ I h=>Constant_bool ⟨.bl b,H,I,rfl,h⟩
theorem xb6 {j pos}:PE X (.Constant .none j pos) (tC .non):=fun _ _ _ H _ I h=>Constant_none ⟨.non,H,I,rfl,h⟩
theorem xa6 {x j pos}:PE X (.Constant (.str x) j pos) (tC (.str x)):=fun _ _ _ H _ I h=>Calls.Constant_str ⟨.str x,H,I.tok _,⟨_,rfl⟩,h⟩
def Gl (X:Cx) (x:Str):Prop:=X.env.kindOf x=some .globalImplicit
theorem xc6 {E:Value->Shared->Prop}{pins:List (Addr × Obj)}{s:Shared}{Z:St}{H:Hp}{x:Str}{u:Value}{pos:Pos}{Q:Value->Shared->Prop} (I:Inv X pins Z H s) (hg:Gl X x) (hm:X.mg x=some u) (h:Q u s)
    (hd:(x == ("__debug__":Str))=false:=by decide):wpAny (model X.prog X.w) X.A (eval (.Name x pos) X.env) Q E s :=
  Calls.Name_function_global I.ok.kind hg (Calls.loadGlobal_global (by rw[I.ok.glob]; exact I.mod.glob.keeps I.bk) hm h) hd
theorem xcd {E:Value->Shared->Prop}{pins:List (Addr × Obj)}{s:Shared}{Z:St}{H:Hp}{x:Str}{u:Value}{pos:Pos}{Q:Value->Shared->Prop} (I:Inv X pins Z H s) (hg:Gl X x) (hm:X.mg x=none) (hv:bootBuiltins x=some u) (h:Q u s)
    (hn:x≠"__name__":=by decide) (hd:(x == ("__debug__":Str))=false:=by decide):wpAny (model X.prog X.w) X.A (eval (.Name x pos) X.env) Q E s:=by
  obtain⟨mb,h1,h2⟩:=I.mod.blt;exact Calls.Name_function_global I.ok.kind hg (Calls.loadGlobal_builtin (by rw[I.ok.glob]; exact I.mod.glob.keeps I.bk) hm (by rw[I.ok.blt]; exact h1.keeps I.bk) ((h2 x hn).trans hv) h) hd
theorem xfh {x:Str}{v:V}{u:Value}{pos:Pos} (hg:Gl X x) (hm:X.mg x=some u) (r:RelV v u) (hd:(x == ("__debug__":Str))=false:=by decide):PE X (.Name x pos) (tC v) :=
 fun _ _ _ H _ I h=>xc6 I hg hm ⟨v,H,I,r,h⟩ hd
theorem xbu {x:Str}{v:V}{u:Value}{pos:Pos} (hg:Gl X x) (hm:X.mg x=none) (hv:bootBuiltins x=some u) (r:RelV v u) (hn:x≠"__name__":=by decide) (hd:(x == ("__debug__":Str))=false:=by decide):PE X (.Name x pos) (tC v) :=
 fun _ _ _ H _ I h=>xcd I hg hm hv ⟨v,H,I,r,h⟩ hn hd
variable {a b:Expr}{ta tb:TE}{pos:Pos}
def PC (X:Cx) (op:CmpOp) (a b:Expr) (t:TE):Prop :=
 ∀(pins:List (Addr × Obj)) (s:Shared) (Z:St) (H:Hp) (Q:VK),Inv X pins Z H s->t Z H Q ->
  wpAny (model X.prog X.w) X.A (eval a X.env) (fun v s₁=>wpAny (model X.prog X.w) X.A (eval b X.env) (fun u s₂=>wpAny (model X.prog X.w) X.A (compareOp op v u) (EP X pins Z Q) X.xe s₂) X.xe s₁) X.xe s
theorem xi8 (b:Expr) {op:CmpOp} (h:op≠.In) (h2:op≠.NotIn):behindInMarks op b=false:=by
 have e1:(op == CmpOp.In)=false:=by cases op<;>first|rfl|exact absurd rfl h
 have e2:(op == CmpOp.NotIn)=false:=by cases op<;>first|rfl|exact absurd rfl h2
 cases b<;>simp[behindInMarks,e1,e2]
inductive tB_i (x:V) (H1:Hp) (Q:Bool->Hp->Prop):Prop
 | mk (c) (e_:x=.bl c) (r_:Q c H1)
def tB (t:TE):TT:=fun Z H Q=>t Z H fun x H1=>tB_i x H1 Q
theorem xsf {op:CmpOp}{t:TE} (h:PC X op a b t) (h1:behindInMarks op b=false:=by first|exact xi8 _ (by decide) (by decide)|rfl):PE X (.Compare a [op] [b] pos) t:=fun pins s Z H Q I hw=>wpAny_Compare1 (h pins s Z H Q I hw) h1
theorem xcm {op:CmpOp}{t:TE} (h:PC X op a b t) (h1:behindInMarks op b=false:=by first|exact xi8 _ (by decide) (by decide)|rfl):PT X (.Compare a [op] [b] pos) (tB t):=by
 intro pins s Z H Q I hw;refine wpAny_isTrue_Compare1 (thn (h pins s Z H _ I hw) fun v s1 h1=>thn h1 fun u s2 h2=>thn h2 fun c s3 ⟨x,H1,I1,r1,q1⟩=>?_) h1;obtain⟨d,rfl,q⟩:=q1;cases r1;exact Jz ⟨H1,I1,q⟩
theorem xa3 {e:Expr}{t:TE} (h:PE X e t) (he:∀ whole,isTrue e X.env whole=(do let v <- whole; standAt e.pos; holding [v] (truthy v)):=by intro _; rfl):PT X e (tB t):=by
 intro pins s Z H Q I hw;refine isTrue_plain (thn (h pins s Z H _ I hw) fun v s1 ⟨x,H1,I1,r1,q1⟩=>?_) (he _);obtain⟨d,rfl,q⟩:=q1;cases r1;exact Jz ⟨H1,I1,q⟩
variable {tA tB':TT}{rest:List Expr}
def tAnd (t u:TT):TT:=fun Z H Q=>t Z H fun c H1=>if c=true then u Z H1 Q else Q false H1
def tOr (t u:TT):TT:=fun Z H Q=>t Z H fun c H1=>if c=true then Q true H1 else u Z H1 Q
def tNot (t:TT):TT:=fun Z H Q=>t Z H fun c H1=>Q (!c) H1
theorem xfg (ha:PT X a tA):PW X (.BoolOp .And [a] pos) tA:=by
 intro wh pins s Z H Q I h;refine isTrue_and (thn (ha pins s Z H Q I h) fun c s1 e=>?_);cases c with
 | true=>exact isTrue_and_nil e
 | false=>exact e
theorem xbs (ha:PT X a tA):PW X (.BoolOp .Or [a] pos) tA:=by
 intro wh pins s Z H Q I h;refine isTrue_or (thn (ha pins s Z H Q I h) fun c s1 e=>?_);cases c with
 | false=>exact isTrue_or_nil e
 | true=>exact e
theorem xge (ha:PT X a tA) (hb:PW X (.BoolOp .And (b::rest) pos) tB'):PW X (.BoolOp .And (a::b::rest) pos) (tAnd tA tB'):=by
 intro wh pins s Z H Q I h;refine isTrue_and (thn (ha pins s Z H _ I h) fun c s1 ⟨H1,I1,q1⟩=>?_);cases c with
 | true=>exact hb wh pins s1 Z H1 Q I1 q1
 | false=>exact⟨H1,I1,q1⟩
theorem xbw (ha:PT X a tA) (hb:PW X (.BoolOp .Or (b::rest) pos) tB'):PW X (.BoolOp .Or (a::b::rest) pos) (tOr tA tB'):=by
 intro wh pins s Z H Q I h;refine isTrue_or (thn (ha pins s Z H _ I h) fun c s1 ⟨H1,I1,q1⟩=>?_);cases c with
 | true=>exact⟨H1,I1,q1⟩
 | false=>exact hb wh pins s1 Z H1 Q I1 q1
theorem xbg (ha:PT X a tA):PT X (.UnaryOp .Not a pos) (tNot tA):=by
 intro pins s Z H Q I h;exact isTrue_not (ha pins s Z H (fun c H1=>Q (!c) H1) I h)
inductive xqt (tb:TE) (Z:St) (x:V) (H1:Hp) (Q:VK):Prop
 | mk (c) (e_:x=.bl c) (r_:if c=true then tb Z H1 Q else Q (.bl false) H1)
def xtz (ta tb:TE):TE:=fun Z H Q=>ta Z H fun x H1=>xqt tb Z x H1 Q
inductive xrd (x:V) (H1:Hp) (Q:VK):Prop
 | mk (c) (e_:x=.bl c) (r_:Q (.bl (!c)) H1)
def xug (ta:TE):TE:=fun Z H Q=>ta Z H fun x H1=>xrd x H1 Q
theorem xel {op}{t:TE} (h:PE X a t):PE X (.BoolOp op [a] pos) t:=fun pins s Z H Q I hw=>BoolOp_one (h pins s Z H Q I hw)
theorem xc4 (ha:PE X a ta) (hb:PE X (.BoolOp .And (b::rest) pos) tb):PE X (.BoolOp .And (a::b::rest) pos) (xtz ta tb):=by
 intro pins s Z H Q I h;refine BoolOp_and (thn (ha pins s Z H _ I h) fun v s1 ⟨x,H1,I1,r1,q1⟩=>?_);obtain⟨c,rfl,q1⟩:=q1;cases r1;refine Jz ?_;cases c with
 | true=>exact hb pins s1 Z H1 Q I1 q1
 | false=>exact⟨.bl false,H1,I1,rfl,q1⟩
theorem xm3 (ha:PE X a ta):PE X (.UnaryOp .Not a pos) (xug ta):=by
 intro pins s Z H Q I h;refine UnaryOp_ (thn (ha pins s Z H _ I h) fun v s1 ⟨x,H1,I1,r1,q1⟩=>?_);obtain⟨c,rfl,q1⟩:=q1;cases r1;exact not_of (Jz ⟨.bl (!c),H1,I1,rfl,q1⟩)
def tIf (t:TT) (ta tb:TE):TE:=fun Z H Q=>t Z H fun c H1=>if c=true then ta Z H1 Q else tb Z H1 Q
theorem xjs {c:Expr} (hc:PT X c tA) (ha:PE X a ta) (hb:PE X b tb):PE X (.IfExp c a b pos) (tIf tA ta tb):=by
 intro pins s Z H Q I h;refine wpAny_IfExp (thn (hc pins s Z H _ I h) fun d s1 ⟨H1,I1,q1⟩=>?_);cases d with
 | true=>exact ha pins s1 Z H1 Q I1 q1
 | false=>exact hb pins s1 Z H1 Q I1 q1
end
def SqL (K:Zd) (H:Hp) (a:Addr) (xs:List V):Prop :=
 Rd H a (.lst xs) \/
  ∃(o:Obj) (its:Array Value) (n:Nat),K.lookup a=some o/\o.cls=.type "list"/\o.dict=none/\o.data=.seq its n/\its.size<=sizeLine/\Vals xs its.toList
def SqT (K:Zd) (H:Hp) (a:Addr) (xs:List V):Prop :=
 Rd H a (.tup xs) \/
  ∃(o:Obj) (its:Array Value) (n:Nat),K.lookup a=some o/\o.cls=.type "tuple"/\o.data=.seq its n/\its.size<=sizeLine/\Vals xs its.toList
def absV:Value->Option V
 | .none=>some .non
 | .bool b=>some (.bl b)
 | .int i _=>some (.int i)
 | .str x _=>some (.str x)
 | .bytes b _=>some (.byt b)
 | .float b _=>some (.flt b)
 | .ref a=>some (.ref a)
 | .type n=>some (.ty n)
 | _=>none
theorem RelV.abs {x:V}{u:Value} (r:RelV x u):absV u=some x:=by
 cases x with
 | non=>cases r; rfl
 | bl _=>cases r; rfl
 | int _=>obtain⟨t,rfl⟩:=r; rfl
 | str _=>obtain⟨t,rfl⟩:=r; rfl
 | byt _=>obtain⟨t,rfl⟩:=r; rfl
 | flt _=>obtain⟨t,rfl⟩:=r; rfl
 | ref _=>cases r; rfl
 | ty _=>cases r; rfl
theorem RelV.inj {x y:V}{u:Value} (r:RelV x u) (q:RelV y u):x=y:=ZN.inj (r.abs.symm.trans q.abs)
theorem Vals.inj:∀{xs ys:List V}{us:List Value},Vals xs us->Vals ys us->xs=ys
 | _,_,_,.nil,.nil=>rfl
 | _,_,_,.cons r t,.cons r' t'=>by rw[r.inj r',Vals.inj t t']
section
variable {X:Cx}{pins:List (Addr × Obj)}{Z:St}{H:Hp}{s:Shared}{a:Addr}{xs ys:List V}
theorem SqL.of {K:Zd} (h:H a=some (.lst xs)):SqL K H a xs:=.inl (.inl h)
theorem SqT.of {K:Zd} (h:H a=some (.tup xs)):SqT K H a xs:=.inl (.inl h)
theorem Inv.list (I:Inv X pins Z H s) (h:SqL X.K H a xs):∃ its:List Value,Vals xs its/\PlainL s.heap a its.toArray/\xs.length<=sizeLine:=by
 rcases h with h|⟨o,its,n,hk,hc,hd,hs,hz,r⟩
 .obtain ⟨z,its,n,r,e⟩:=h.ok I.hok;exact⟨its,r,⟨_,n,e,rfl,rfl,rfl⟩,z⟩
 .refine ⟨its.toList,r,⟨o,n,I.kIn a o hk,hc,hd,by simpa using hs⟩,?_⟩;have e:=r.length;simp only[Jm] at e;omega
theorem Inv.tuple (I:Inv X pins Z H s) (h:SqT X.K H a xs):∃ its:List Value,Vals xs its/\IsTup s.heap a its.toArray/\xs.length<=sizeLine:=by
 rcases h with h|⟨o,its,n,hk,hc,hs,hz,r⟩
 .obtain ⟨z,its,r,p⟩:=h.ok I.hok;exact⟨its,r,p,z⟩
 .refine ⟨its.toList,r,⟨o,I.kIn a o hk,hc,n,by simpa using hs⟩,?_⟩;have e:=r.length;simp only[Jm] at e;omega
theorem Inv.list_inj (I:Inv X pins Z H s) (h:SqL X.K H a xs) (h':SqL X.K H a ys):xs=ys:=by
 obtain⟨its,r,⟨o,n,e,_,_,d⟩,_⟩:=I.list h;obtain⟨its',r',⟨o',n',e',_,_,d'⟩,_⟩:=I.list h';rw[e] at e'; cases e';rw[d] at d';injection d' with d1 _
 have:its=its':=by simpa using congrArg Array.toList d1
 subst this;exact r.inj r'
theorem Inv.tuple_inj (I:Inv X pins Z H s) (h:SqT X.K H a xs) (h':SqT X.K H a ys):xs=ys:=by
 obtain⟨its,r,⟨o,e,_,n,d⟩,_⟩:=I.tuple h;obtain⟨its',r',⟨o',e',_,n',d'⟩,_⟩:=I.tuple h';rw[e] at e'; cases e';rw[d] at d';injection d' with d1 _
 have:its=its':=by simpa using congrArg Array.toList d1
 subst this;exact r.inj r'
end
abbrev Cx.wish (X:Cx) (E:Value->Shared->Prop):Cx:={ X with xe:=E }
abbrev Cx.nox (X:Cx):Cx:=X.wish fun _ _=>False
theorem Cx.Ok.wish {X:Cx} (ok:X.Ok) (E:Value->Shared->Prop):(X.wish E).Ok :=
 ⟨ok.mod,ok.kind,ok.glob,ok.blt,ok.above,ok.inj,ok.has,ok.cab,ok.hd,ok.frames,ok.stk,ok.exf,ok.bs,ok.bsz,ok.noex,ok.exfs,ok.funs,ok.frf⟩
theorem Cx.Ok.unwish {X:Cx}{E:Value->Shared->Prop} (ok:(X.wish E).Ok):X.Ok :=
 ⟨ok.mod,ok.kind,ok.glob,ok.blt,ok.above,ok.inj,ok.has,ok.cab,ok.hd,ok.frames,ok.stk,ok.exf,ok.bs,ok.bsz,ok.noex,ok.exfs,ok.funs,ok.frf⟩
section
variable {X:Cx}{pins:List (Addr × Obj)}{Z:St}{H:Hp}{s:Shared}{E:Value->Shared->Prop}
theorem Inv.wish (I:Inv X pins Z H s) (E:Value->Shared->Prop):Inv (X.wish E) pins Z H s:=⟨I.ok.wish E,I.os,I.bare,I.base,I.loc,I.cell,I.free,I.freeC,I.pin,I.hok,I.len⟩
theorem Inv.unwish (I:Inv (X.wish E) pins Z H s):Inv X pins Z H s:=⟨I.ok.unwish,I.os,I.bare,I.base,I.loc,I.cell,I.free,I.freeC,I.pin,I.hok,I.len⟩
theorem SP.unwish {D:Ends}{f:Flow}{s':Shared} (h:SP (X.wish E) pins D f s'):SP X pins D f s':=by
 cases f with
 | next=>obtain⟨σ',H',I,q⟩:=h; exact⟨σ',H',I.unwish,q⟩
 | brk=>obtain⟨σ',H',I,q⟩:=h; exact⟨σ',H',I.unwish,q⟩
 | cont=>obtain⟨σ',H',I,q⟩:=h; exact⟨σ',H',I.unwish,q⟩
 | ret u=>obtain⟨v,σ',H',I,r,q⟩:=h; exact⟨v,σ',H',I.unwish,r,q⟩
theorem PSs.nox {st:List Stmt}{t:TS} (h:PSs X.nox st t):PSs X st t:=fun pins s Z H D I hw =>
 ZU (h pins s Z H D (I.wish _) hw) (fun _ _ q=>q.unwish) fun _ _ z=>J7 z
end
section
variable {X:Cx}{st:Stmt}{rest:List Stmt}{t u:TS}{e:Expr}{te:TE}{pos:Pos}
def xub:TS:=fun D Z H=>D.nx Z H
def tSeq (t u:TS):TS:=fun D Z H=>t { D with nx:=u D } Z H
theorem x9:PSs X [] xub:=fun _ _ Z H _ I h=>Qs ⟨Z,H,I,h⟩
theorem xj (h1:PS X st t) (h2:PSs X rest u):PSs X (st::rest) (tSeq t u):=by
 intro pins s Z H D I h;refine wpAny_execs_cons (thn (h1 pins s Z H { D with nx:=u D } I h) fun f s1 q=>?_);cases f with
 | next =>
  obtain⟨σ',H',I',q⟩:=q;exact h2 pins s1 σ' H' D I' q
 | ret v=>exact q
 | brk=>exact q
 | cont=>exact q
theorem xm (h1:PS X st t):PSs X [st] t:=by
 intro pins s Z H D I h;refine wpAny_execs_cons (thn (h1 pins s Z H D I h) fun f s1 q=>?_);cases f with
 | next=>exact Qs q
 | ret v=>exact q
 | brk=>exact q
 | cont=>exact q
theorem Inv.quiet {pins:List (Addr × Obj)}{Z:St}{H:Hp}{s:Shared} (I:Inv X pins Z H s):interactive X.env=false:=by simp[interactive,I.ok.kind]
def xun (te:TE):TS:=fun D Z H=>te Z H fun _ H1=>D.nx Z H1
theorem xak (he:PE X e te) (hs:swapsWith e none pos.line X.env=pure false:=by rfl):PS X (.Expr e pos) (xun te):=by
 intro pins s Z H D I h;exact wpAny_Expr_any (thn (he pins s Z H _ I h) fun v s1 ⟨x,H1,I1,r1,q1⟩=>⟨Z,H1,I1,q1⟩) I.quiet hs
def tRet (te:TE):TS:=fun D Z H=>te Z H D.rt
theorem xad (he:PE X e te):PS X (.Return (some e) pos) (tRet te):=by
 intro pins s Z H D I h;exact wpAny_Return_some (thn (he pins s Z H _ I h) fun v s1 ⟨x,H1,I1,r1,q1⟩=>⟨x,Z,H1,I1,r1,q1⟩)
def tIfS (c:TT) (t u:TS):TS:=fun D Z H=>c Z H fun b H1=>if b=true then t D Z H1 else u D Z H1
theorem xaj {c:Expr}{a b:List Stmt}{tc:TT} (hc:PT X c tc) (ha:PSs X a t) (hb:PSs X b u):PS X (.If c a b pos) (tIfS tc t u):=by
 intro pins s Z H D I h;refine wpAny_If (thn (hc pins s Z H _ I h) fun d s1 ⟨H1,I1,q1⟩=>?_);cases d with
 | true=>exact ha pins s1 Z H1 D I1 q1
 | false=>exact hb pins s1 Z H1 D I1 q1
def xr5:TS:=fun _ _ _=>False
theorem xbh:PS X st xr5:=fun _ _ _ _ _ _ h=>h.elim
end
abbrev TG:=V->St->Hp->(St->Hp->Prop)->Prop
abbrev TGs:=List V->St->Hp->(St->Hp->Prop)->Prop
def PG (X:Cx) (target:Expr) (t:TG):Prop :=
 ∀(pins:List (Addr × Obj)) (s:Shared) (Z:St) (H:Hp) (v:V) (u:Value) (Q:St->Hp->Prop),Inv X pins Z H s->RelV v u->t v Z H Q ->
  wpAny (model X.prog X.w) X.A (assign target X.env u) (fun _ s'=>∃ σ' H',Inv X pins σ' H' s'/\Q σ' H') X.xe s
def PGs (X:Cx) (ts:List Expr) (t:TGs):Prop :=
 ∀(pins:List (Addr × Obj)) (s:Shared) (Z:St) (H:Hp) (vs:List V) (us:List Value) (Q:St->Hp->Prop),Inv X pins Z H s->Vals vs us->t vs Z H Q ->
  wpAny (model X.prog X.w) X.A (assignInOrder ((assignEach ts X.env).map (·.2)) us) (fun _ s'=>∃ σ' H',Inv X pins σ' H' s'/\Q σ' H') X.xe s
abbrev TIp:=V->V->Hp->VK->Prop
def PIp (X:Cx) (op:Operator) (t:TIp):Prop :=
 ∀(pins:List (Addr × Obj)) (s:Shared) (Z:St) (H:Hp) (x y:V) (v u:Value) (Q:VK),Inv X pins Z H s->RelV x v->RelV y u->t x y H Q ->
  wpAny (model X.prog X.w) X.A (inplaceOp op v u) (EP X pins Z Q) X.xe s
section
variable {X:Cx}{pos:Pos}
def xe0 (i:Nat):TG:=fun v Z H Q=>Q (Z.set i (some v)) H
theorem xq {i:Nat}{x:Str} (hN:X.N.Nodup) (hi:X.N[i]?=some x) (hx:Loc X.env.scope x) (hf:X.fn x=true\/X.env.scope.names.lookup x=some .local:=by first|exact .inl rfl|exact .inr rfl|assumption):PG X (.Name x pos) (xe0 i):=by
 intro pins s Z H v u Q I r h;exact wpAny_assign_Name (xez I hN hi hx r (fun s' I'=>⟨_,H,I',h⟩) hf)
def gNil:TGs:=fun vs Z H Q=>vs=[]/\Q Z H
inductive xls (t:TG) (u:TGs) (vs:List V) (Z:St) (H:Hp) (Q:St->Hp->Prop):Prop
 | mk (v r) (e_:vs=v::r) (r_:t v Z H fun σ' H'=>u r σ' H' Q)
theorem xay:PGs X [] gNil:=by
 intro pins s Z H vs us Q I r h;obtain⟨e,h⟩:=h;subst e;cases r;exact assignInOrder_nil ⟨Z,H,I,h⟩
theorem xu {e:Expr}{es:List Expr}{t:TG}{u:TGs} (h1:PG X e t) (h2:PGs X es u)
    (hs:(assignEach (e::es) X.env).map (·.2)=assign e X.env::(assignEach es X.env).map (·.2):=by rfl):PGs X (e::es) (xls t u):=by
  intro pins s Z H vs us Q I r h;obtain⟨v,vr,e1,h⟩:=h;subst e1;cases r with
  | cons r rr =>
    rw[hs];refine assignInOrder_cons (thn (h1 pins s Z H _ _ _ I r h) fun _ s1 ⟨σ1,H1,I1,q1⟩=>?_);exact h2 pins s1 σ1 H1 _ _ Q I1 rr q1
inductive gTup (K:Zd) (n:Nat) (t:TGs) (v:V) (Z:St) (H:Hp) (Q:St->Hp->Prop):Prop
 | mk (a xs) (e_:v=.ref a) (r_:SqT K H a xs/\xs.length=n/\t xs Z H Q)
theorem xbb {es:List Expr}{k:Nat}{t:TGs}{n:Nat} (hc:X.calm=true) (h:PGs X es t)
    (hn:(assignEach es X.env).length=n:=by rfl) (hst:(assignEach es X.env).findIdx? (·.1)=none:=by rfl):PG X (.Tuple es k pos) (gTup X.K n t):=by
  intro pins s Z H v u Q I r hw;obtain⟨a,xs,e1,hq,hl,hw⟩:=hw;subst e1;cases r;obtain⟨its,rv,ht,hz⟩:=I.tuple hq;refine assign_Tuple_tuple (I.ok.hd hc) ht (by simp[hn,<- hl,rv.length]) hst fun h' hx=>?_;have I1:Inv X pins Z H { s with heap:=h' }:=I.kept (t':=s.toks) fun b o e=>hx b o (ZD (Zs e)) e;exact h pins _ Z H xs _ Q I1 (by simpa using rv) hw
def tAsg (te:TE) (g:TG):TS:=fun D Z H=>te Z H fun x H1=>g x Z H1 D.nx
theorem xdg {tg e:Expr}{te:TE}{g:TG} (he:PE X e te) (hg:PG X tg g) (hs:swapsWithSole [tg] e pos.line X.env=pure false:=by rfl) (hw:swappedStores [tg] e X.env=pure none:=by rfl)
    (h1:(assignEach [tg] X.env).map (·.2)=[assign tg X.env]:=by rfl):PS X (.Assign [tg] e pos) (tAsg te g):=by
  intro pins s Z H D I h;refine wpAny_Assign_stores (thn (he pins s Z H _ I h) fun v s1 ⟨x,H1,I1,r1,q1⟩=>?_) hs hw;rw[h1];exact thn (hg pins s1 Z H1 x v _ I1 r1 q1) fun _ s2 q=>q
theorem xz {i:Nat}{x:Str}{e:Expr}{te:TE}{pos':Pos} (hN:X.N.Nodup) (hi:X.N[i]?=some x) (hx:Loc X.env.scope x) (he:PE X e te) (hs:swapsWith e (some (.Name x pos')) pos.line X.env=pure false:=by rfl) (hf:X.fn x=true\/X.env.scope.names.lookup x=some .local:=by first|exact .inl rfl|exact .inr rfl|assumption) :
    PS X (.Assign [.Name x pos'] e pos) (tAsg te (xe0 i)):=by
  intro pins s Z H D I h;refine wpAny_Assign_Name (thn (he pins s Z H _ I h) fun v s1 ⟨y,H1,I1,r1,q1⟩=>?_) hs;exact xez I1 hN hi hx r1 (fun s2 I2=>⟨_,H1,I2,q1⟩) hf
def tAug (i:Nat) (te:TE) (ti:TIp):TS:=fun D Z H=>∃ x,Z[i]?=some (some x)/\te Z H fun y H1=>ti x y H1 fun z H2=>D.nx (Z.set i (some z)) H2
theorem xsb {i:Nat}{x:Str}{e:Expr}{te:TE}{op:Operator}{ti:TIp}{pos':Pos} (hN:X.N.Nodup) (hi:X.N[i]?=some x) (hx:Loc X.env.scope x) (he:PE X e te) (ho:PIp X op ti) (hf:X.fn x=true\/X.env.scope.names.lookup x=some .local:=by first|exact .inl rfl|exact .inr rfl|assumption) :
    PS X (.AugAssign (.Name x pos') op e pos) (tAug i te ti):=by
  intro pins s Z H D I h;obtain⟨v,e1,h⟩:=h;obtain⟨m,hn,hl⟩:=I.loc;have vis:Vis X.env.scope x:=by rcases hx with k|k; exact .inl k; exact .inr (.inl k)
  obtain⟨u,r,l⟩:=hl i x v hi e1 vis;refine wpAny_AugAssign_Name ?_;have go:wpAny (model X.prog X.w) X.A (eval e X.env) (fun w s₂=>wpAny (model X.prog X.w) X.A (inplaceOp op u w) (fun r s₃=>wpAny (model X.prog X.w) X.A (storeName X.env x r) (fun _=>SP X pins D .next) X.xe s₃) X.xe s₂) X.xe s:=by
    refine thn (he pins s Z H _ I h) fun w s1 ⟨y,H1,I1,r1,q1⟩=>?_;refine thn (ho pins s1 Z H1 v y u w _ I1 r r1 q1) fun z s2 ⟨zv,H2,I2,r2,q2⟩=>?_;exact xez I2 hN hi hx r2 (fun s3 I3=>⟨_,H2,I3,q2⟩) hf
  rcases l with⟨hk,hm⟩|⟨hk,c,hc,hcell⟩
  . exact wpAny_loadName_local I.ok.kind hk hn hm go
  . rcases hk with hk|hk
    . exact wpAny_loadName_cell I.ok.kind hk hc hcell go
    . rcases hx with k|k
      . have:X.env.scope.names.lookup x=some .free:=hk
        rw[k] at this; cases this
      . have:X.env.scope.names.lookup x=some .free:=hk
        rw[k] at this; cases this
end
section
variable {X:Cx}{pos:Pos}
def xsn (c:TT) (tb:TS):TS:=fun D Z H=>∃ W:Nat->St->Hp->Prop,(∃ m,W m Z H)/\∀ m Z H,W m Z H ->
 c Z H fun b H1=>if b=true then ∃ N:St->Hp->Prop,(∀ σ' H',N σ' H'->∃ m',m'<m/\W m' σ' H')/\tb { D with nx:=N,ct:=N,bk:=D.nx } Z H1 else D.nx Z H1
theorem xfv {c:Expr}{body:List Stmt}{tc:TT}{tb:TS} (hp:PassesOwn (model X.prog X.w) X.A X.env X.xe) (hc:PT X c tc) (hb:PSs X body tb):PS X (.While c body [] pos) (xsn tc tb):=by
 intro pins s Z H D I h;obtain⟨W,⟨m0,w0⟩,turn⟩:=h;refine wpAny_While (codeAny_whileLoop (fun n s'=>∃ σ' H',Inv X pins σ' H' s'/\W n σ' H') ?_ m0 ⟨Z,H,I,w0⟩);rintro n s1 ⟨σ1,H1,I1,w1⟩;refine Yw hp (thn (hc pins s1 σ1 H1 _ I1 (turn n σ1 H1 w1)) fun b s2 ⟨H2,I2,q2⟩=>?_);cases b with
 | true =>
  obtain⟨N,hN,q2⟩:=q2;rw[if_pos rfl];refine Yw hp (thn (hb pins s2 σ1 H2 _ I2 q2) fun f s3 q3=>?_);cases f with
  | next =>
   obtain⟨σ3,H3,I3,n3⟩:=q3;obtain⟨m',hm,w3⟩:=hN σ3 H3 n3;exact⟨m',hm,σ3,H3,I3,w3⟩
  | cont =>
   obtain⟨σ3,H3,I3,n3⟩:=q3;obtain⟨m',hm,w3⟩:=hN σ3 H3 n3;exact⟨m',hm,σ3,H3,I3,w3⟩
  | brk=>exact q3
  | ret v=>exact q3
 | false =>
  rw[if_neg Z1];exact Qs ⟨σ1,H2,I2,q2⟩
end
structure It where
 go:Nat->Hp->Prop
 yld:Nat->Hp->V->Hp->Prop
 stop:Nat->Hp->Prop
def FpOk (X:Cx) (pins:List (Addr × Obj)) (H:Hp) (b:Addr):Prop :=
 H b=none/\b≠X.env.locals/\b∉X.fs/\(b∈X.ex\/X.s₀.heap.objs.size<=b)/\(∀ x c,X.env.cells.lookup x=some c->c≠b)/\∀ p∈X.pn++pins,p.1≠b
theorem Inv.fpOk {X:Cx}{pins:List (Addr × Obj)}{Z:St}{H H':Hp}{s:Shared}{b:Addr} (I:Inv X pins Z H s) (hb:s.heap.objs.size<=b) (hn:H' b=none):FpOk X pins H' b:=by
 refine⟨hn,YD (ZF I.lt hb),I.nofs hb,.inr (Z6 I.sz hb),fun x c e z=>?_,fun p hp z=>?_⟩
 .obtain ⟨v,q⟩:=I.cell x c e;exact absurd (ZF q.lt (by rw[z]; exact hb)) (YI _)
 .exact absurd (ZF (Zs (I.pin p hp).1) (by rw[z]; exact hb)) (YI _)
structure Turn (P:Program) (w:World) (K:Zd) (tg:Expr) (J:It) (fp:List Addr) (it:Addr) (tn:Nat->Heap->Prop):Prop where
 mem:it∈fp
 obj:∀ i h,tn i h->∀ b∈fp,∃ o,h.get? b=some o/\∀ v,o.data≠.cell v
 keep:∀ i h h',tn i h->(∀ b∈fp,∀ o,h.get? b=some o->h'.get? b=some o)->tn i h'
 item:∀(X:Cx),X.prog=P->X.w=w->X.K=K->X.calm=true->∀(i:Nat) (pins:List (Addr × Obj)) (s:Shared) (Z:St) (H:Hp) (E:Value->Shared->Prop),Inv X pins Z H s->(∀ b∈fp,FpOk X pins H b)->tn i s.heap->J.go i H ->
  wpAny (model P w) X.A (pyNext (.ref it)) (fun r s1=>∃ u,r=some u /\
   wpAny (model P w) X.A (letOwnedTupleGo tg (.ref it) u) (fun _ s2=>∃ x H',Inv X pins Z H' s2/\RelV x u/\J.yld i H x H'/\tn (i+1) s2.heap/\∀ b∈fp,H' b=none) E s1) E s
 done:∀(X:Cx),X.prog=P->X.w=w->X.K=K->X.calm=true->∀(i:Nat) (pins:List (Addr × Obj)) (s:Shared) (Z:St) (H:Hp) (E:Value->Shared->Prop),Inv X pins Z H s->(∀ b∈fp,FpOk X pins H b)->tn i s.heap->J.stop i H ->
  wpAny (model P w) X.A (pyNext (.ref it)) (fun r s1=>r=none/\Inv X pins Z H s1) E s
 self:∀(A:Around) (i:Nat) (s:Shared) (Q:Value->Shared->Prop) (E:Value->Shared->Prop),tn i s.heap->Q (.ref it) s->wpAny (model P w) A (pyIter (.ref it)) Q E s
abbrev TI:=St->Hp->(It->Hp->Prop)->Prop
def PIE (X:Cx) (pins:List (Addr × Obj)) (Z:St) (tg:Expr) (R:It->Hp->Prop) (itv:Value) (s2:Shared):Prop :=
 ∃(it:Addr) (fp:List Addr) (tn:Nat->Heap->Prop) (J:It) (H':Hp),itv=.ref it/\Inv X pins Z H' s2/\Turn X.prog X.w X.K tg J fp it tn/\tn 0 s2.heap/\(∀ b∈fp,FpOk X pins H' b)/\R J H'
def PI (X:Cx) (tg iter:Expr) (wi:TI):Prop :=
 ∀(pins:List (Addr × Obj)) (s:Shared) (Z:St) (H:Hp) (R:It->Hp->Prop),Inv X pins Z H s->wi Z H R ->
  wpAny (model X.prog X.w) X.A (eval iter X.env) (fun v s1=>wpAny (model X.prog X.w) X.A (pyIter v) (PIE X pins Z tg R) X.xe s1) X.xe s
theorem xh9 {M:Model}{A:Around}{E:Value->Shared->Prop}{s:Shared}{tg:Expr}{it:Addr}{u:Value}{o:Obj}{n:String}{vs:Array Value}{Q:Unit->Shared->Prop} (ho:s.heap.get? it=some o) (hc:o.cls=.type n) (hd:o.data=.fields vs)
    (hn:["enumerate", "zip", "dict_itemiterator", "dict_reverseitemiterator", "odict_iterator", "itertools.zip_longest", "itertools.pairwise"].contains n=false) (hQ:Q () s):wpAny M A (letOwnedTupleGo tg (.ref it) u) Q E s:=by
  unfold letOwnedTupleGo;cases tg<;>first
    | exact Zg hQ
    | (cases u<;>first
        | exact Zg hQ
        | (refine Zb (wpAny_load ho ?_)
           rw[hc,hd];show wpAny M A (if (["enumerate", "zip", "dict_itemiterator", "dict_reverseitemiterator", "odict_iterator", "itertools.zip_longest", "itertools.pairwise"].contains n&&vs[0]? == some (rawInt _))=true then _ else _) Q E s;rw[if_neg (by intro h; rw[hn,Qb] at h; cases h)];exact Zg hQ))
def Itl (K:Zd) (a:Addr):It :=
 ⟨fun i H=>∃ xs x,SqL K H a xs/\xs[i]?=some x,fun i H x H'=>H'=H/\∀ xs,SqL K H a xs->xs[i]?=some x,fun i H=>∃ xs,SqL K H a xs/\xs.length<=i⟩
def Itr (lo:Int) (n:Nat):It:=⟨fun i _=>i<n,fun i H x H'=>H'=H/\x=.int (lo+i),fun i _=>n<=i⟩
theorem xmg {P:Program}{w:World}{K:Zd}{tg:Expr} (a it:Addr):Turn P w K tg (Itl K a) [it] it (fun i h=>h.IsListIter it a i) where
 mem:=by simp
 obj:=fun i h st b hb=>by
  have e:b=it:=by simpa using hb
  subst e;obtain⟨o,e,c,d⟩:=st;exact⟨o,e,fun v z=>by rw[d] at z; cases z⟩
 keep:=fun i h h' st k=>st.at fun o e=>k it (by simp) o e
 item:=by
  intro X hP hw hK hc i pins s Z H E I hf st hg;subst hP hw hK;obtain⟨xs,x,hq,hx⟩:=hg;obtain⟨its,rv,p,hz⟩:=I.list hq;obtain⟨u,hu,ru⟩:=rv.get hx;obtain⟨f0,f1,f2,f3,f4,f5⟩:=hf it (by simp);refine wpAny_pyNext_list_item st p.isList (x:=u) (by simpa using hu) fun h' st' sb=>?_;have I1:Inv X pins Z H { s with heap:=h' }:=I.turned (t':=s.toks) (fun b o hb e=>(sb.2 b hb).trans e) f0 f1 f3 f4 f5;obtain⟨o,e,c,d⟩:=id st';exact⟨u,rfl,xh9 (s:={ s with heap:=h' }) e c d (by decide) ⟨x,H,I1,ru,⟨rfl,fun ys hy=>by rw[I.list_inj hy hq]; exact hx⟩,st',fun b hb=>(hf b hb).1⟩⟩
 done:=by
  intro X hP hw hK hc i pins s Z H E I hf st hg;subst hP hw hK;obtain⟨xs,hq,hx⟩:=hg;obtain⟨its,rv,p,hz⟩:=I.list hq;obtain⟨f0,f1,f2,f3,f4,f5⟩:=hf it (by simp);have hl:=rv.length;exact wpAny_pyNext_list_end (I.ok.hd hc) st p.isList (by simp; omega) fun h' eb=>⟨rfl,I.turned (t':=s.toks) (fun b o hb e=>eb b o hb e) f0 f1 f3 f4 f5⟩
 self:=fun _ _ _ _ _ st h=>wpAny_pyIter_listiter st h
theorem xk6 {P:Program}{w:World}{K:Zd}{tg:Expr} (it:Addr) (lo:Int) (n:Nat):Turn P w K tg (Itr lo n) [it] it (fun i h=>IsRangeIter h it (lo+(i:Nat)*1) ((n:Int)-(i:Nat)) 1) where
 mem:=by simp
 obj:=fun i h st b hb=>by
  have e:b=it:=by simpa using hb
  subst e;exact⟨_,st,fun v z=>by
   have z':Data.fields _=Data.cell v:=z;cases z'⟩
 keep:=fun i h h' st k=>k it (by simp) _ st
 item:=by
  intro X hP hw hK hc i pins s Z H E I hf st hg;subst hP hw hK;obtain⟨f0,f1,f2,f3,f4,f5⟩:=hf it (by simp);have W:=Walks.range (prog:=X.prog) (w:=X.w) (I.ok.hd hc) it lo 1 n;refine W.item i s _ _ hg st fun v h' tk hv st' kk=>?_;obtain⟨t,rfl⟩:=hv;have I1:Inv X pins Z H { s with heap:=h',toks:=tk }:=I.turned (fun b o hb e=>kk b o (by simpa using hb) e) f0 f1 f3 f4 f5;refine⟨_,rfl,xh9 (s:={ s with heap:=h',toks:=tk }) (n:="range_iterator") st' rfl rfl (by decide) ⟨.int (lo+i),H,I1,⟨t,?_⟩,⟨rfl,rfl⟩,st',fun b hb=>(hf b hb).1⟩⟩;rw[Int.mul_one]
 done:=by
  intro X hP hw hK hc i pins s Z H E I hf st hg;subst hP hw hK;obtain⟨f0,f1,f2,f3,f4,f5⟩:=hf it (by simp);exact wpAny_pyNext_range_end (I.ok.hd hc) st (by have:n<=i:=hg; omega) fun h' eb=>⟨rfl,I.turned (t':=s.toks) (fun b o hb e=>eb b o hb e) f0 f1 f3 f4 f5⟩
 self:=fun _ _ _ _ _ st h=>wpAny_pyIter_rangeiter st h
section
variable {X:Cx}{tg:Expr}
def xt8 (K:Zd) (tl:TE):TI:=fun Z H R=>tl Z H fun x H1=>∃ a,x=.ref a/\(∃ xs,SqL K H1 a xs)/\R (Itl K a) H1
theorem xas {l:Expr}{tl:TE} (hl:PE X l tl):PI X tg l (xt8 X.K tl):=by
 intro pins s Z H R I h;refine thn (hl pins s Z H _ I h) fun v s1 ⟨x,H1,I1,r1,q1⟩=>?_;obtain⟨a,e,⟨xs,hq⟩,q⟩:=q1;subst e;cases r1;obtain⟨its,rv,p,hz⟩:=I1.list hq;refine wpAny_pyIter_list p.isList ?_;refine⟨s1.heap.objs.size,[s1.heap.objs.size],_,_,H1,rfl,I1.kept (t':=s1.toks) fun b o e=>Ze _ e,xmg a _,⟨_,Zo _ rfl,rfl,rfl⟩,fun b hb=>?_,q⟩;have e:b=s1.heap.objs.size:=by simpa using hb
 subst e;exact I1.fpOk (Zi _) (I1.hok.fresh (Zi _))
theorem xjn {pins:List (Addr × Obj)}{Z:St}{H:Hp}{s:Shared}{R:It->Hp->Prop}{E:Value->Shared->Prop}{lo hi:Int}{t u v:Tok}{tk:Nat} (I:Inv X pins Z H s) (h1:-(2 ^ 62)<=lo) (h2:lo<2 ^ 62) (h3:-(2 ^ 62)<=hi) (h4:hi<2 ^ 62)
    (q:R (Itr lo (hi-lo).toNat) H):wpAny (model X.prog X.w) X.A (pyIter (.ref s.heap.objs.size)) (PIE X pins Z tg R) E { s with heap:=s.heap.push { cls:=.type "range",data:=.fields #[.int lo t,.int hi u,.int 1 v] },toks:=tk }:=by
  refine wpAny_pyIter_range (IsRange.new ..) (small_one h1 h2 h3 h4) ?_;have I1:Inv X pins Z H { s with heap:=s.heap.push { cls:=.type "range",data:=.fields #[.int lo t,.int hi u,.int 1 v] },toks:=tk }:=I.kept fun b o e=>Ze _ e;refine⟨(s.heap.push { cls:=.type "range",data:=.fields #[.int lo t,.int hi u,.int 1 v] }).objs.size,[(s.heap.push { cls:=.type "range",data:=.fields #[.int lo t,.int hi u,.int 1 v] }).objs.size],_,_,H,rfl,
    I1.kept (t':=tk) fun b o e=>Ze _ e,xk6 _ lo (hi-lo).toNat,?_,fun b hb=>?_,q⟩
  . have e1:lo+((0:Nat):Int)*1=lo:=by simp
    have e2:(((hi-lo).toNat:Nat):Int)-((0:Nat):Int)=Builtin.Range.rangeSize lo hi 1:=by rw[rangeSize_one]; split<;>omega
    show IsRangeIter _ _ (lo+((0:Nat):Int)*1) ((((hi-lo).toNat:Nat):Int)-((0:Nat):Int)) 1;rw[e1,e2];exact Zo _ rfl
  . have e:b=(s.heap.push { cls:=.type "range",data:=.fields #[.int lo t,.int hi u,.int 1 v] }).objs.size:=by simpa using hb
    subst e;exact I1.fpOk (Zi _) (I1.hok.fresh (Zi _))
def xui (ta:TA):TI:=fun Z H R=>ta Z H fun vs H1=>∃ j:Int,vs=[.int j]/\-(2 ^ 62)<=j/\j<2 ^ 62/\R (Itr 0 j.toNat) H1
def xtx (ta:TA):TI:=fun Z H R=>ta Z H fun vs H1=>∃ i j:Int,vs=[.int i,.int j]/\(-(2 ^ 62)<=i/\i<2 ^ 62/\-(2 ^ 62)<=j/\j<2 ^ 62)/\R (Itr i (j-i).toNat) H1
theorem xdz {a:Expr}{ta:TA}{p pos:Pos} (hg:Gl X "range") (hm:X.mg "range"=none) (ha:PA X [a] ta) (hs:starEach [a] X.env=[(false,eval a X.env)]:=by rfl):PI X tg (.Call (.Name "range" p) [a] [] pos) (xui ta):=by
 intro pins s Z H R I h;refine Call_ (xcd I hg hm boot_range (Jf (thn (ha pos pins s Z H _ I h) fun us s1 ⟨vs,H1,I1,r1,q1⟩=>?_) hs rfl));obtain⟨j,e,q1,q2,q⟩:=q1;subst e;cases r1 with
 | cons r rr =>
  cases rr;obtain⟨t,rfl⟩:=r;exact call_range_1 (xjn I1 (by omega) (by omega) q1 q2 (by simpa using q))
theorem xnq {a b:Expr}{ta:TA}{p pos:Pos} (hg:Gl X "range") (hm:X.mg "range"=none) (ha:PA X [a,b] ta) (hs:starEach [a,b] X.env=[(false,eval a X.env),(false,eval b X.env)]:=by rfl) (hs2:starEach [b] X.env=[(false,eval b X.env)]:=by rfl) :
    PI X tg (.Call (.Name "range" p) [a,b] [] pos) (xtx ta):=by
  intro pins s Z H R I h;refine Call_ (xcd I hg hm boot_range (Jf (thn (ha pos pins s Z H _ I h) fun us s1 ⟨vs,H1,I1,r1,q1⟩=>?_) (by rw[hs,hs2]) (by rw[hs2]; rfl)));obtain⟨i,j,e,⟨q1,q2,q3,q4⟩,q⟩:=q1;subst e;cases r1 with
  | cons r rr =>
    cases rr with
    | cons r' rr =>
      cases rr;obtain⟨t,rfl⟩:=r;obtain⟨t',rfl⟩:=r';exact call_range_2 (xjn I1 q1 q2 q3 q4 q)
def tFor (wi:TI) (g:TG) (tb:TS):TS:=fun D Z H=>wi Z H fun J H1=>∃ W:Nat->Nat->St->Hp->Prop,(∃ m,W 0 m Z H1)/\∀ i m Z H,W i m Z H ->
 (J.stop i H/\D.nx Z H)\/(J.go i H/\∃ N:St->Hp->Prop,(∀ σ' H',N σ' H'->∃ m',m'<m/\W (i+1) m' σ' H')/\∀ x H',J.yld i H x H'->g x Z H' fun σ2 H2=>tb { D with nx:=N,ct:=N,bk:=D.nx } σ2 H2)
def xe2 (fp:List Addr) (h:Heap):List (Addr × Obj):=fp.filterMap fun b=>(h.get? b).map fun o=>(b,o)
theorem xc5 {fp:List Addr}{h:Heap}{b:Addr}{o:Obj} (hb:b∈fp) (e:h.get? b=some o):(b,o)∈xe2 fp h:=Yt.mpr ⟨b,hb,by rw[e]; rfl⟩
theorem xme {fp:List Addr}{h:Heap}{p:Addr × Obj} (hp:p∈xe2 fp h):p.1∈fp/\h.get? p.1=some p.2:=by
 obtain⟨b,hb,e⟩:=Yt.mp hp;cases q:h.get? b with
 | none=>rw[q] at e; cases e
 | some o =>
  rw[q] at e;have e':(b,o)=p:=ZN.inj e;subst e';exact⟨hb,q⟩
theorem Inv.pinned {pins:List (Addr × Obj)}{Z:St}{H:Hp}{s:Shared}{fp:List Addr} (I:Inv X pins Z H s) (hf:∀ b∈fp,FpOk X pins H b) (ho:∀ b∈fp,∃ o,s.heap.get? b=some o/\∀ v,o.data≠.cell v):Inv X (pins++xe2 fp s.heap) Z H s :=
 I.pins_of fun p hp=>(ZB.mp hp).elim (fun z=>I.pin p (Z2 _ z)) fun z=>by
  obtain⟨hb,e⟩:=xme z;obtain⟨f0,f1,f2,_⟩:=hf p.1 hb;obtain⟨o,e',d⟩:=ho p.1 hb;rw[e] at e'; cases e';exact⟨e,f0,f1,f2,d⟩
theorem Inv.unpinned {pins pl:List (Addr × Obj)}{Z:St}{H:Hp}{s:Shared} (I:Inv X (pins++pl) Z H s):Inv X pins Z H s:=I.pins_of fun p hp=>I.pin p (Z2 _ (ZL _ hp))
theorem xa0 {iter:Expr}{body:List Stmt}{wi:TI}{g:TG}{tb:TS}{pos:Pos} (hp:PassesOwn (model X.prog X.w) X.A X.env X.xe) (hc:X.calm=true) (hi:PI X tg iter wi) (hg:PG X tg g) (hb:PSs X body tb)
    (hs:∀ x,foldedSetIterable iter X.env x=pure x:=by intro _; rfl):PS X (.For tg iter body [] pos) (tFor wi g tb):=by
  intro pins s Z H D I h;refine wpAny_For (thn (hi pins s Z H _ I h) fun v s1 h1=>thn h1 fun itv s2 h2=>?_) hs;obtain⟨it,fp,tn,J,H2,e,I2,T,st2,f2,W,⟨m0,w0⟩,turn⟩:=h2;subst e
  -- what stays true of the iterator's objects through the loop
  have stat:∀{H':Hp},(∀ b∈fp,H' b=none)->∀ b∈fp,FpOk X pins H' b:=fun hn b hb=>⟨hn b hb,(f2 b hb).2⟩
  refine codeAny_forLoop_any (fun n s'=>∃ i σ' H',Inv X pins σ' H' s'/\tn i s'.heap/\(∀ b∈fp,H' b=none)/\W i n σ' H') ?_ m0 ⟨0,Z,H2,I2,st2,fun b hb=>(f2 b hb).1,w0⟩;rintro n s3 ⟨i,σ3,H3,I3,st3,fr3,w3⟩;rcases turn i n σ3 H3 w3 with⟨stop,qn⟩|⟨go,N,hN,step⟩
  . refine Yw hp (thn (T.done X rfl rfl rfl hc i pins s3 σ3 H3 X.xe I3 (stat fr3) st3 stop) fun r s4 ⟨hr,I4⟩=>?_)
    subst hr;exact Qs ⟨σ3,H3,I4,qn⟩
  . refine Yw hp (thn (T.item X rfl rfl rfl hc i pins s3 σ3 H3 X.xe I3 (stat fr3) st3 go) fun r s4 ⟨u,hr,h4⟩=>?_)
    subst hr;refine Yw hp (thn h4 fun _ s5 ⟨x,H5,I5,r5,y5,st5,fr5⟩=>?_);have I5':=I5.pinned (stat fr5) (T.obj _ _ st5);refine Yw hp (thn (hg _ s5 σ3 H5 x u _ I5' r5 (step x H5 y5)) fun _ s6 ⟨σ6,H6,I6,q6⟩=>?_);refine Yw hp (thn (hb _ s6 σ6 H6 _ I6 q6) fun f s7 q7=>?_);have again:∀{σ7:St}{H7:Hp},Inv X (pins++xe2 fp s5.heap) σ7 H7 s7->N σ7 H7->∃ m,m<n/\∃ i σ' H',Inv X pins σ' H' s7/\tn i s7.heap/\(∀ b∈fp,H' b=none)/\W i m σ' H':=fun {σ7 H7} I7 n7=>by
      obtain⟨m',hm,w7⟩:=hN σ7 H7 n7;refine⟨m',hm,i+1,σ7,H7,I7.unpinned,T.keep _ _ _ st5 fun b hb o e=>(I7.pin (b,o) (Z2 _ (Z2 _ (xc5 hb e)))).1,fun b hb=>?_,w7⟩;obtain⟨o,e,d⟩:=T.obj _ _ st5 b hb;exact (I7.pin (b,o) (Z2 _ (Z2 _ (xc5 hb e)))).2.1
    cases f with
    | next=>obtain⟨σ7,H7,I7,n7⟩:=q7; exact again I7 n7
    | cont=>obtain⟨σ7,H7,I7,n7⟩:=q7; exact again I7 n7
    | brk=>obtain⟨σ7,H7,I7,q7⟩:=q7; exact⟨σ7,H7,I7.unpinned,q7⟩
    | ret v=>obtain⟨x7,σ7,H7,I7,r7,q7⟩:=q7; exact⟨x7,σ7,H7,I7.unpinned,r7,q7⟩
end
theorem xa7 {K:Zd}{a:Addr}{xs:List V}{g:TG}{tb:TS}{D:Ends}{Z:St}{H:Hp} (Pv:Nat->St->Hp->Prop) (h0:Pv 0 Z H) (hl:∀ i Z H,i<=xs.length->Pv i Z H->SqL K H a xs)
    (hs:∀ i x Z H,xs[i]?=some x->Pv i Z H->g x Z H fun σ2 H2=>tb { D with nx:=Pv (i+1),ct:=Pv (i+1),bk:=D.nx } σ2 H2) (hd:∀ Z H,Pv xs.length Z H->D.nx Z H) :
    ∃ W:Nat->Nat->St->Hp->Prop,(∃ m,W 0 m Z H)/\∀ i m Z H,W i m Z H ->
      ((Itl K a).stop i H/\D.nx Z H)\/((Itl K a).go i H/\∃ N:St->Hp->Prop,(∀ σ' H',N σ' H'->∃ m',m'<m/\W (i+1) m' σ' H')/\∀ x H',(Itl K a).yld i H x H'->g x Z H' fun σ2 H2=>tb { D with nx:=N,ct:=N,bk:=D.nx } σ2 H2):=by
  refine⟨fun i m Z H=>m=xs.length-i/\i<=xs.length/\Pv i Z H,⟨xs.length,by simp,Ja _,h0⟩,?_⟩;rintro i m Z H ⟨rfl,hi,p⟩;have q:=hl i Z H hi p;by_cases hlt:i<xs.length
  . refine .inr ⟨⟨xs,xs[i],q,by simp[hlt]⟩,Pv (i+1),fun σ' H' p'=>⟨xs.length-(i+1),by omega,rfl,hlt,p'⟩,fun x H' y=>?_⟩
    obtain⟨e,y⟩:=y;subst e;exact hs i x Z _ (y xs q) p
  . have e:i=xs.length:=by omega
    subst e;exact .inl ⟨⟨xs,q,Zi _⟩,hd Z H p⟩
theorem xd2 {lo:Int}{n:Nat}{g:TG}{tb:TS}{D:Ends}{Z:St}{H:Hp} (Pv:Nat->St->Hp->Prop) (h0:Pv 0 Z H)
    (hs:∀ i Z H,i<n->Pv i Z H->g (.int (lo+i)) Z H fun σ2 H2=>tb { D with nx:=Pv (i+1),ct:=Pv (i+1),bk:=D.nx } σ2 H2) (hd:∀ Z H,Pv n Z H->D.nx Z H) :
    ∃ W:Nat->Nat->St->Hp->Prop,(∃ m,W 0 m Z H)/\∀ i m Z H,W i m Z H ->
      ((Itr lo n).stop i H/\D.nx Z H)\/((Itr lo n).go i H/\∃ N:St->Hp->Prop,(∀ σ' H',N σ' H'->∃ m',m'<m/\W (i+1) m' σ' H')/\∀ x H',(Itr lo n).yld i H x H'->g x Z H' fun σ2 H2=>tb { D with nx:=N,ct:=N,bk:=D.nx } σ2 H2):=by
  refine⟨fun i m Z H=>m=n-i/\i<=n/\Pv i Z H,⟨n,by simp,Ja _,h0⟩,?_⟩;rintro i m Z H ⟨rfl,hi,p⟩;by_cases hlt:i<n
  . refine .inr ⟨hlt,Pv (i+1),fun σ' H' p'=>⟨n-(i+1),by omega,rfl,hlt,p'⟩,fun x H' y=>?_⟩
    obtain⟨e,y⟩:=y;subst e y;exact hs i Z _ hlt p
  . have e:i=n:=by omega
    subst e;exact .inl ⟨Zi _,hd Z H p⟩
abbrev R2:=V->V->Hp->VK->Prop
def OpR (X:Cx) (f:Value->Value->Sem Value) (r:R2):Prop :=
 ∀(pins:List (Addr × Obj)) (s:Shared) (Z:St) (H:Hp) (x y:V) (v u:Value) (Q:VK),Inv X pins Z H s->RelV x v->RelV y u->r x y H Q ->
  wpAny (model X.prog X.w) X.A (f v u) (EP X pins Z Q) X.xe s
def xb0 (X:Cx) (f:Value) (r:List V->Hp->VK->Prop):Prop :=
 ∀(pins:List (Addr × Obj)) (s:Shared) (Z:St) (H:Hp) (xs:List V) (us:List Value) (Q:VK),Inv X pins Z H s->Vals xs us->r xs H Q ->
  wpAny (model X.prog X.w) X.A (call f us) (EP X pins Z Q) X.xe s
def TruR (X:Cx) (r:V->Hp->(Bool->Hp->Prop)->Prop):Prop :=
 ∀(pins:List (Addr × Obj)) (s:Shared) (Z:St) (H:Hp) (x:V) (v:Value) (Q:Bool->Hp->Prop),Inv X pins Z H s->RelV x v->r x H Q ->
  wpAny (model X.prog X.w) X.A (truthy v) (TP X pins Z Q) X.xe s
def tOp (r:R2) (ta tb:TE):TE:=fun Z H Q=>ta Z H fun x H1=>tb Z H1 fun y H2=>r x y H2 Q
inductive rI (C:Int->Int->Prop) (g:Int->Int->V) (x:V) (y:V) (H:Hp) (Q:VK):Prop
 | mk (i j) (e_:x=.int i) (r_:y=.int j/\C i j/\Q (g i j) H)
inductive rI0 (g:Int->Int->V) (x:V) (y:V) (H:Hp) (Q:VK):Prop
 | mk (i j) (e_:x=.int i) (r_:y=.int j/\Q (g i j) H)
section
variable {X:Cx}{a b c:Expr}{ta tb tc:TE}{pos:Pos}
theorem binT (ha:PE X a ta) (hb:PE X b tb) {pins:List (Addr × Obj)}{s:Shared}{Z:St}{H:Hp}{R:V->V->Hp->Prop} (I:Inv X pins Z H s)
    (h:ta Z H fun x H1=>tb Z H1 fun y H2=>R x y H2) {Q:Value->Shared->Prop}{f:Value->Value->Sem Value}
    (hf:∀ v u s2 x y H2,Inv X pins Z H2 s2->RelV x v->RelV y u->R x y H2->wpAny (model X.prog X.w) X.A (f v u) Q X.xe s2) :
    wpAny (model X.prog X.w) X.A (eval a X.env) (fun v s₁=>wpAny (model X.prog X.w) X.A (eval b X.env) (fun u s₂=>wpAny (model X.prog X.w) X.A (f v u) Q X.xe s₂) X.xe s₁) X.xe s:=by
  refine thn (ha pins s Z H _ I h) fun v s1 ⟨x,H1,I1,r1,q1⟩=>?_;refine thn (hb pins s1 Z H1 _ I1 q1) fun u s2 ⟨y,H2,I2,r2,q2⟩=>?_;exact hf v u s2 x y H2 I2 r1 r2 q2
theorem xw {op:Operator}{r:R2} (ho:OpR X (binaryOp op) r) (ha:PE X a ta) (hb:PE X b tb):PE X (.BinOp a op b pos) (tOp r ta tb):=by
 intro pins s Z H Q I h;exact wpAny_BinOp (binT ha hb I h fun v u s2 x y H2 I2 rx ry q=>ho pins s2 Z H2 x y v u Q I2 rx ry q)
theorem opI {f:Value->Value->Sem Value}{C:Int->Int->Prop}{g:Int->Int->Int}
    (rule:∀(i j:Int) (t u:Tok) (s:Shared) (Q:Value->Shared->Prop) (E:Value->Shared->Prop),C i j->Q (.int (g i j) s.toks) { s with toks:=s.toks+1 }->wpAny (model X.prog X.w) X.A (f (.int i t) (.int j u)) Q E s) :
    OpR X f (rI C fun i j=>.int (g i j)):=by
  intro pins s Z H x y v u Q I rx ry h;obtain⟨i,j,rfl,rfl,hc,q⟩:=h;obtain⟨t,rfl⟩:=rx;obtain⟨t',rfl⟩:=ry;exact rule i j t t' s _ _ hc ⟨.int (g i j),H,I.tok _,⟨_,rfl⟩,q⟩
theorem opI0 {f:Value->Value->Sem Value}{g:Int->Int->Int}
    (rule:∀(i j:Int) (t u:Tok) (s:Shared) (Q:Value->Shared->Prop) (E:Value->Shared->Prop),Q (.int (g i j) s.toks) { s with toks:=s.toks+1 }->wpAny (model X.prog X.w) X.A (f (.int i t) (.int j u)) Q E s) :
    OpR X f (rI0 fun i j=>.int (g i j)):=by
  intro pins s Z H x y v u Q I rx ry h;obtain⟨i,j,rfl,rfl,q⟩:=h;obtain⟨t,rfl⟩:=rx;obtain⟨t',rfl⟩:=ry;exact rule i j t t' s _ _ ⟨.int (g i j),H,I.tok _,⟨_,rfl⟩,q⟩
theorem opB0 {f:Value->Value->Sem Value}{g:Int->Int->Bool}
    (rule:∀(i j:Int) (t u:Tok) (s:Shared) (Q:Value->Shared->Prop) (E:Value->Shared->Prop),Q (.bool (g i j)) s->wpAny (model X.prog X.w) X.A (f (.int i t) (.int j u)) Q E s) :
    OpR X f (rI0 fun i j=>.bl (g i j)):=by
  intro pins s Z H x y v u Q I rx ry h;obtain⟨i,j,rfl,rfl,q⟩:=h;obtain⟨t,rfl⟩:=rx;obtain⟨t',rfl⟩:=ry;exact rule i j t t' s _ _ ⟨.bl (g i j),H,I,rfl,q⟩
def CDiv (i j:Int):Prop:=0<j/\j<1073741824
def CMul (i j:Int):Prop:=(-(2 ^ 64)<i/\i<2 ^ 64)\/(-(2 ^ 64)<j/\j<2 ^ 64)
theorem CMul.ok {i j:Int} (h:CMul i j):IntMulOk i j:=by
 rcases h with⟨h1,h2⟩|⟨h1,h2⟩
 .exact .of_left (intBits_le_64 h1 h2)
 .exact .of_right (intBits_le_64 h1 h2)
theorem xll (k:Nat):(0:Int)<=2 ^ k:=by
 rw[two_pow_cast];exact Int.natCast_nonneg _
theorem xa4:OpR X (binaryOp .Add) (rI0 fun i j=>.int (i+j)):=opI0 fun _ _ _ _ _ _ _ q=>add_int q
theorem xds:OpR X (binaryOp .Sub) (rI0 fun i j=>.int (i-j)):=opI0 fun _ _ _ _ _ _ _ q=>sub_int q
theorem xdf:OpR X (binaryOp .Mult) (rI CMul fun i j=>.int (i*j)):=opI fun _ _ _ _ _ _ _ hc q=>mul_int q hc.ok
theorem xb7:OpR X (binaryOp .FloorDiv) (rI CDiv fun i j=>.int (i / j)):=opI fun i j _ _ _ _ _ hc q=>by
 have h1:(0:Int)<j:=hc.1;have h2:j<1073741824:=hc.2;exact floordiv_int (by omega) (by rw[Int.fdiv_eq_ediv_of_nonneg i (by omega)]; exact q) (.inl (PyProof.noPylong_small (by omega)))
theorem xa5:OpR X (binaryOp .Mod) (rI (fun _ j=>0<j) fun i j=>.int (i % j)):=opI fun i j _ _ _ _ _ hc q=>by
 have h1:(0:Int)<j:=hc;exact mod_int' (by omega) (by rw[Int.fmod_eq_emod_of_nonneg i (by omega)]; exact q)
theorem xsg:OpR X (binaryOp .RShift) (rI (fun _ j=>0<=j) fun i j=>.int (i / 2 ^ j.toNat)):=opI fun i j _ _ _ _ _ hc q =>
 rshift_int hc (by rw[Int.fdiv_eq_ediv_of_nonneg i (xll _)]; exact q)
theorem xs2:OpR X (binaryOp .BitAnd) (rI0 fun i j=>.int (Builtin.bitAnd i j)):=opI0 fun _ _ _ _ _ _ _ q=>and_int q
theorem xrh:OpR X (inplaceOp .Add) (rI0 fun i j=>.int (i+j)):=opI0 fun _ _ _ _ _ _ _ q=>iadd_int q
end
def scal:V->V->Bool
 | .non,.non=>true|.non,.int _=>true|.int _,.non=>true|.non,.bl _=>true|.bl _,.non=>true|.non,.str _=>true|.str _,.non=>true
 | .int _,.int _=>true|.bl _,.bl _=>true|.str _,.str _=>true|.byt _,.byt _=>true
 | .int _,.str _=>true|.str _,.int _=>true|.bl _,.str _=>true|.str _,.bl _=>true
 | _,_=>false
def rEq:R2:=fun x y H Q=>scal x y=true/\Q (.bl (decide (x=y))) H
def rNe:R2:=fun x y H Q=>scal x y=true/\Q (.bl (!decide (x=y))) H
theorem xk3 {i j:Int}:decide (V.int i=V.int j)=(i == j):=by
 rw[J6];simp
theorem xnl {i j:Bool}:decide (V.bl i=V.bl j)=(i == j):=by
 rw[J6];simp
theorem xkr {i j:Str}:decide (V.str i=V.str j)=(i == j):=by
 rw[J6];simp
theorem xkx {i j:Array UInt8}:decide (V.byt i=V.byt j)=(i.toList == j.toList):=by
 rw[J6];cases i;cases j;simp
section
variable {X:Cx}{a b c:Expr}{ta tb tc:TE}{pos:Pos}
theorem xao {pins:List (Addr × Obj)}{Z:St}{H:Hp}{s:Shared}{Q:VK}{k k':Bool} (I:Inv X pins Z H s) (q:Q (.bl k) H) (e:k=k'):EP X pins Z Q (.bool k') s:=by
 subst e;exact⟨.bl k,H,I,rfl,q⟩
theorem xcj:OpR X (compareOp .Eq) rEq:=by
 intro pins s Z H x y v u Q I rx ry h;obtain⟨hs,q⟩:=h;cases x with
 | non =>
  cases rx;cases y with
  | non=>cases ry; exact PySem.EqNone.eq_none_none (xao I q (by simp))
  | bl j=>cases ry; exact PySem.EqNone.eq_none_bool (xao I q (by simp))
  | int j=>obtain⟨t',rfl⟩:=ry; exact PySem.EqNone.eq_none_int (xao I q (by simp))
  | str j=>obtain⟨t',rfl⟩:=ry; exact PySem.EqNone.eq_none_str (xao I q (by simp))
  | _=>exact absurd (show false=true from hs) Z1
 | bl i =>
  cases rx;cases y with
  | non=>cases ry; exact PySem.EqNone.eq_bool_none (xao I q (by simp))
  | bl j=>cases ry; exact eq_bool (xao I q xnl)
  | str j=>obtain⟨t',rfl⟩:=ry; exact PySem.EqMixed.eq_bool_str (xao I q (by simp))
  | _=>exact absurd (show false=true from hs) Z1
 | int i =>
  obtain⟨t,rfl⟩:=rx;cases y with
  | non=>cases ry; exact PySem.EqNone.eq_int_none (xao I q (by simp))
  | int j=>obtain⟨t',rfl⟩:=ry; exact eq_int (xao I q xk3)
  | str j=>obtain⟨t',rfl⟩:=ry; exact PySem.EqMixed.eq_int_str (xao I q (by simp))
  | _=>exact absurd (show false=true from hs) Z1
 | str i =>
  obtain⟨t,rfl⟩:=rx;cases y with
  | non=>cases ry; exact PySem.EqNone.eq_str_none (xao I q (by simp))
  | bl j=>cases ry; exact PySem.EqMixed.eq_str_bool (xao I q (by simp))
  | int j=>obtain⟨t',rfl⟩:=ry; exact PySem.EqMixed.eq_str_int (xao I q (by simp))
  | str j=>obtain⟨t',rfl⟩:=ry; exact eq_str (xao I q xkr)
  | _=>exact absurd (show false=true from hs) Z1
 | byt i =>
  obtain⟨t,rfl⟩:=rx;cases y with
  | byt j=>obtain⟨t',rfl⟩:=ry; exact PySem.W.eq_bytes (xao I q xkx)
  | _=>exact absurd (show false=true from hs) Z1
 | _=>cases y<;>exact absurd (show false=true from hs) Z1
theorem xie:OpR X (compareOp .NotEq) rNe:=by
 intro pins s Z H x y v u Q I rx ry h;obtain⟨hs,q⟩:=h;cases x with
 | non =>
  cases rx;cases y with
  | non=>cases ry; exact PySem.EqNone.ne_none_none (xao I q (by simp))
  | bl j=>cases ry; exact PySem.EqNone.ne_none_bool (xao I q (by simp))
  | int j=>obtain⟨t',rfl⟩:=ry; exact PySem.EqNone.ne_none_int (xao I q (by simp))
  | str j=>obtain⟨t',rfl⟩:=ry; exact PySem.EqNone.ne_none_str (xao I q (by simp))
  | _=>exact absurd (show false=true from hs) Z1
 | bl i =>
  cases rx;cases y with
  | non=>cases ry; exact PySem.EqNone.ne_bool_none (xao I q (by simp))
  | bl j=>cases ry; exact ne_bool (xao I q (congrArg not xnl))
  | str j=>obtain⟨t',rfl⟩:=ry; exact PySem.EqMixed.ne_bool_str (xao I q (by simp))
  | _=>exact absurd (show false=true from hs) Z1
 | int i =>
  obtain⟨t,rfl⟩:=rx;cases y with
  | non=>cases ry; exact PySem.EqNone.ne_int_none (xao I q (by simp))
  | int j=>obtain⟨t',rfl⟩:=ry; exact ne_int (xao I q (congrArg not xk3))
  | str j=>obtain⟨t',rfl⟩:=ry; exact PySem.EqMixed.ne_int_str (xao I q (by simp))
  | _=>exact absurd (show false=true from hs) Z1
 | str i =>
  obtain⟨t,rfl⟩:=rx;cases y with
  | non=>cases ry; exact PySem.EqNone.ne_str_none (xao I q (by simp))
  | bl j=>cases ry; exact PySem.EqMixed.ne_str_bool (xao I q (by simp))
  | int j=>obtain⟨t',rfl⟩:=ry; exact PySem.EqMixed.ne_str_int (xao I q (by simp))
  | str j=>obtain⟨t',rfl⟩:=ry; exact ne_str (xao I q (congrArg not xkr))
  | _=>exact absurd (show false=true from hs) Z1
 | byt i =>
  obtain⟨t,rfl⟩:=rx;cases y with
  | byt j=>obtain⟨t',rfl⟩:=ry; exact PySem.W.ne_bytes (xao I q (congrArg not xkx))
  | _=>exact absurd (show false=true from hs) Z1
 | _=>cases y<;>exact absurd (show false=true from hs) Z1
theorem xev:OpR X (compareOp .Lt) (rI0 fun i j=>.bl (decide (i<j))):=opB0 fun _ _ _ _ _ _ _ q=>lt_int q
theorem xfn:OpR X (compareOp .LtE) (rI0 fun i j=>.bl (decide (i<=j))):=opB0 fun _ _ _ _ _ _ _ q=>le_int q
theorem xh8:OpR X (compareOp .Gt) (rI0 fun i j=>.bl (decide (j<i))):=opB0 fun _ _ _ _ _ _ _ q=>gt_int q
theorem xuf:OpR X (compareOp .GtE) (rI0 fun i j=>.bl (decide (j<=i))):=opB0 fun _ _ _ _ _ _ _ q=>ge_int q
theorem xi5:OpR X (compareOp .Is) (fun x y H Q=>y=.non/\Q (.bl (decide (x=.non))) H):=by
 intro pins s Z H x y v u Q I rx ry h;obtain⟨rfl,q⟩:=h;cases ry;refine is_none_gen (xao I q ?_);cases x<;>first
  | (cases rx; rfl)
  | (obtain⟨t,rfl⟩:=rx; rfl)
theorem xfj:OpR X (compareOp .IsNot) (fun x y H Q=>y=.non/\Q (.bl (!decide (x=.non))) H):=by
 intro pins s Z H x y v u Q I rx ry h;obtain⟨rfl,q⟩:=h;cases ry;refine isnot_none_gen (xao I q ?_);cases x<;>first
  | (cases rx; rfl)
  | (obtain⟨t,rfl⟩:=rx; rfl)
def isObj:HO->Bool
 | .lst _=>true
 | .ins _ _ _=>true
 | _=>false
theorem xag (b:Expr) {op:CmpOp} (h:op≠.In:=by decide) (h2:op≠.NotIn:=by decide):behindInMarks op b=false:=by
 have e1:(op == CmpOp.In)=false:=by cases op<;>first|rfl|exact absurd rfl h
 have e2:(op == CmpOp.NotIn)=false:=by cases op<;>first|rfl|exact absurd rfl h2
 cases b<;>simp[behindInMarks,e1,e2]
theorem xb8 {op:CmpOp}{r:R2} (ho:OpR X (compareOp op) r) (ha:PE X a ta) (hb:PE X b tb) (hm:behindInMarks op b=false):PE X (.Compare a [op] [b] pos) (tOp r ta tb):=by
 intro pins s Z H Q I h;exact wpAny_Compare1 (binT ha hb I h fun v u s2 x y H2 I2 rx ry q=>ho pins s2 Z H2 x y v u Q I2 rx ry q) hm
inductive xrc (x:V) (H':Hp) (Q:Bool->Hp->Prop):Prop
 | mk (k) (e_:x=.bl k) (r_:Q k H')
def xpn (t:TE):TT:=fun Z H Q=>t Z H fun x H'=>xrc x H' Q
theorem xac {op:CmpOp}{r:R2} (ho:OpR X (compareOp op) r) (ha:PE X a ta) (hb:PE X b tb) (hm:behindInMarks op b=false):PT X (.Compare a [op] [b] pos) (xpn (tOp r ta tb)):=by
 intro pins s Z H Q I h;refine wpAny_isTrue_Compare1 (thn (ha pins s Z H _ I h) fun v s1 ⟨x,H1,I1,r1,q1⟩=>thn (hb pins s1 Z H1 _ I1 q1) fun u s2 ⟨y,H2,I2,r2,q2⟩ =>
  thn (ho pins s2 Z H2 x y v u _ I2 r1 r2 q2) fun c s3 ⟨z,H3,I3,r3,k,e,q3⟩=>?_) hm
 subst e;cases r3;exact Jz ⟨H3,I3,q3⟩
def xmo (r r':R2) (ta tb tc:TE):TE:=fun Z H Q=>ta Z H fun x H1=>tb Z H1 fun y H2=>r x y H2 fun z H3=>∃ k,z=.bl k /\
 (if k=true then tc Z H3 fun w' H4=>r' y w' H4 Q else Q (.bl false) H3)
theorem xf4 {op op':CmpOp}{r r':R2} (ho:OpR X (compareOp op) r) (ho':OpR X (compareOp op') r') (ha:PE X a ta) (hb:PE X b tb) (hc:PE X c tc)
    (hm:lastMarks [op,op'] [b,c]=false:=by with_unfolding_all rfl):PE X (.Compare a [op,op'] [b,c] pos) (xmo r r' ta tb tc):=by
  intro pins s Z H Q I h;refine Compare_chain (thn (ha pins s Z H _ I h) fun v s1 ⟨x,H1,I1,r1,q1⟩=>chain_link (thn (hb pins s1 Z H1 _ I1 q1) fun u s2 ⟨y,H2,I2,r2,q2⟩ =>
    thn (ho pins s2 Z H2 x y v u _ I2 r1 r2 q2) fun d s3 ⟨z,H3,I3,r3,k,e,q3⟩=>?_)) hm
  subst e;cases r3;refine Jz ?_;cases k with
  | false=>exact ite_ff ⟨.bl false,H3,I3,rfl,q3⟩
  | true=>exact ite_tt (chain_last (thn (hc pins s3 Z H3 _ I3 q3) fun w' s4 ⟨z',H4,I4,r4,q4⟩=>ho' pins s4 Z H4 y z' u w' Q I4 r2 r4 q4))
theorem xo0 {op op':CmpOp}{r r':R2} (ho:OpR X (compareOp op) r) (ho':OpR X (compareOp op') r') (ha:PE X a ta) (hb:PE X b tb) (hc:PE X c tc)
    (hm:lastMarks [op,op'] [b,c]=false:=by with_unfolding_all rfl):PT X (.Compare a [op,op'] [b,c] pos) (xpn (xmo r r' ta tb tc)):=by
  intro pins s Z H Q I h;refine isTrue_chain (thn (ha pins s Z H _ I h) fun v s1 ⟨x,H1,I1,r1,q1⟩=>test_link (thn (hb pins s1 Z H1 _ I1 q1) fun u s2 ⟨y,H2,I2,r2,q2⟩ =>
    thn (ho pins s2 Z H2 x y v u _ I2 r1 r2 q2) fun d s3 ⟨z,H3,I3,r3,k,e,q3⟩=>?_)) hm
  subst e;cases r3;refine Jz ?_;cases k with
  | false =>
    obtain⟨k',e',q'⟩:=q3;cases e';exact ite_ff ⟨H3,I3,q'⟩
  | true =>
    refine ite_tt (test_last (thn (hc pins s3 Z H3 _ I3 q3) fun w' s4 ⟨z',H4,I4,r4,q4⟩=>thn (ho' pins s4 Z H4 y z' u w' _ I4 r2 r4 q4) fun d' s5 ⟨z2,H5,I5,r5,k2,e2,q5⟩=>?_));subst e2;cases r5;exact Jz ⟨H5,I5,q5⟩
def TruV (K:Zd) (x:V) (H:Hp) (k:Bool):Prop :=
 match x with
 | .non=>k=false
 | .bl b=>k=b
 | .int i=>k=(i != 0)
 | .str y=>y.length<=sizeLine/\k=((y.length:Int) != 0)
 | .byt y=>y.size<=sizeLine/\k=((y.size:Int) != 0)
 | .ref p=>(∃ xs,SqL K H p xs/\k=!xs.isEmpty)\/(∃ xs,SqT K H p xs/\k=!xs.isEmpty)\/∃ kvs,H p=some (.dK kvs)/\k=!kvs.isEmpty
 | _=>False
theorem xla {κ:Type}{kvs:List (κ × V)}{vs:List (κ × Value)} (r:KV kvs vs):(!vs.isEmpty)=!kvs.isEmpty:=by
 cases r<;>rfl
theorem xf5 {xs:List V}{its:List Value} (r:Vals xs its):(!its.toArray.isEmpty)=!xs.isEmpty:=by
 cases r<;>simp
theorem xeh:(sizeLine:Nat)<2 ^ 63:=by rw[Qn]; decide
theorem xsp:TruR X (fun x H Q=>∃ k,TruV X.K x H k/\Q k H):=by
 intro pins s Z H x v Q I rx h;obtain⟨k,e,q⟩:=h;have hl:=xeh;have hs:sizeLine=16777216:=Qn;cases x with
 | non =>
  cases rx;have e':k=false:=e;subst e';exact truthy_none ⟨H,I,q⟩
 | bl b =>
  cases rx;have e':k=b:=e;subst e';exact Jz ⟨H,I,q⟩
 | int i =>
  obtain⟨t,rfl⟩:=rx;have e':k=(i != 0):=e;subst e';exact PySem.P.truthy_int ⟨H,I,q⟩
 | str y =>
  obtain⟨t,rfl⟩:=rx;obtain⟨hy,e'⟩:y.length<=sizeLine/\k=((y.length:Int) != 0):=e;subst e';exact PySem.P.truthy_str (by omega) ⟨H,I.tok _,q⟩
 | byt y =>
  obtain⟨t,rfl⟩:=rx;obtain⟨hy,e'⟩:y.size<=sizeLine/\k=((y.size:Int) != 0):=e;subst e';exact PySem.W.truthy_bytes (by omega) ⟨H,I.tok _,q⟩
 | ref p =>
  cases rx;have e':(∃ xs,SqL X.K H p xs/\k=!xs.isEmpty)\/(∃ xs,SqT X.K H p xs/\k=!xs.isEmpty)\/∃ kvs,H p=some (.dK kvs)/\k=!kvs.isEmpty:=e;rcases e' with⟨xs,hx,e'⟩|⟨xs,hx,e'⟩|⟨kvs,hx,e'⟩
  .subst e';obtain⟨its,r,pl,hz⟩:=I.list hx;have hlen:=r.length;exact wpAny_truthy_list pl.isList (by simp only[Zy]; omega) ⟨H,I.tok _,by rw[xf5 r]; exact q⟩
  .subst e';obtain⟨its,r,pl,hz⟩:=I.tuple hx;have hlen:=r.length;exact truthy_tuple pl (by simp only[Zy]; omega) ⟨H,I.tok _,by rw[xf5 r]; exact q⟩
  .subst e';obtain⟨hz,hS,vs,r,m⟩:kvs.length<=sizeLine/\(p == sysModules)=false/\∃ vs,KV kvs vs/\s.heap.DictOf (xai X.prog X.w) p vs:=I.hok p _ hx;have hlen:kvs.length=vs.length:=Yg r;exact wpAny_truthy_dict hS m (by omega) ⟨H,I.tok _,by rw[xla r]; exact q⟩
 | _=>exact (show False from e).elim
theorem xjt (ha:PE X a ta) (he:∀ whole,isTrue a X.env whole=(do let v <- whole; standAt a.pos; holding [v] (truthy v))) :
    PT X a (fun Z H Q=>ta Z H fun x H'=>∃ k,TruV X.K x H' k/\Q k H'):=by
  intro pins s Z H Q I h;exact isTrue_plain (thn (ha pins s Z H _ I h) fun v s1 ⟨x,H1,I1,r1,q1⟩=>xsp pins s1 Z H1 x v Q I1 r1 q1) (he _)
theorem xcb {x:V}{us:List Value} (r:Vals [x] us):∃ u,us=[u]/\RelV x u:=by
 cases r with
 | cons r1 r2=>cases r2; exact⟨_,rfl,r1⟩
theorem xlg {x y:V}{us:List Value} (r:Vals [x,y] us):∃ u w',us=[u,w']/\RelV x u/\RelV y w':=by
 cases r with
 | cons r1 r2 =>
  cases r2 with
  | cons r3 r4=>cases r4; exact⟨_,_,rfl,r1,r3⟩
theorem xje:xb0 X (.builtin "abs") (fun xs H Q=>∃ i,xs=[.int i]/\Q (.int (if i<0 then -i else i)) H):=by
 intro pins s Z H xs us Q I r h;obtain⟨i,rfl,q⟩:=h;obtain⟨u,rfl,t,rfl⟩:=xcb r;exact call_abs_int fun u tk=>⟨.int (if i<0 then -i else i),H,I.tok _,⟨_,rfl⟩,q⟩
theorem xhw:xb0 X (.type "int") (fun xs H Q=>(∃ i,xs=[.int i]/\Q (.int i) H)\/∃ k,xs=[.bl k]/\Q (.int (if k then 1 else 0)) H):=by
 intro pins s Z H xs us Q I r h;rcases h with⟨i,rfl,q⟩|⟨k,rfl,q⟩
 .obtain ⟨u,rfl,t,rfl⟩:=xcb r;exact call_int_int ⟨.int i,H,I,⟨_,rfl⟩,q⟩
 .obtain ⟨u,rfl,r1⟩:=xcb r;cases r1;exact call_int_bool ⟨.int (if k then 1 else 0),H,I.tok _,⟨_,rfl⟩,q⟩
end
structure ObjM (h:Heap) (x dx C:Addr) (mA:Str->Option Value):Prop where
 obj:h.get? x=some (JZ C dx)
 ns:h.Ns1 dx mA
 ne:dx≠x
theorem xhl {h:Heap}{dx:Addr}{mA:Str->Option Value} (n:h.Ns1 dx mA):∃ od,h.get? dx=some od/\∀ name,QW name od=some (mA name):=by
 obtain⟨o,es,ep,ho,hd,hk,_,hm⟩:=n;refine⟨o,ho,fun name=>?_⟩;have e:=hm name;unfold nsFind findBy at e;rw[<- Array.find?_toList] at e;unfold QW;rw[hd]
 dsimp only
 split
 .rename_i y q
  rw[q] at e;exact congrArg some e
 .rename_i q
  rw[q] at e;have a:es.toList.any (·.refKey)=false:=by
   rw[List.any_eq_false];intro y hy;obtain⟨z,t,hkey⟩:=hk y (Wb.mp hy);simp[DictEntry.refKey,hkey]
  have a':¬ es.toList.any (·.refKey)=true:=by rw[a]; exact Z1
  rw[if_neg a'];exact congrArg some e
theorem ObjM.look {h:Heap}{x dx C:Addr}{mA:Str->Option Value} (I:ObjM h x dx C mA):∃ od,PySem.W.InstAt h x (JZ C dx) C (some od)/\∀ name,QW name od=some (mA name) :=
 let ⟨od,ho,hl⟩:=xhl I.ns
 ⟨od,⟨I.obj,rfl,rfl,ho⟩,hl⟩
section
variable {prog:Program}{w:World}{A:Around}{E:Value->Shared->Prop}{s:Shared}{K:Zd}{x dx C f:Addr}{mA:Str->Option Value}{name:Str}{v:Value}
theorem xqu {expr:Bool}{Q:Value->Shared->Prop} (X:K.In s.heap) (I:ObjM s.heap x dx C mA) (hg:JK K C name=true) (hh:JE K C=true)
    (ha:Z4 K (.ref C) name=some none) (hv:mA name=some v) (hv':PySem.W.handedIn v=true) (h:Q v { s with toks:=s.toks+1 }) :
    wpAny (model prog w) A (getAttr (.ref x) name expr) Q E s:=by
  obtain⟨od,J,hl⟩:=I.look;exact PySem.W.get_value X J (Wd hg).1 (PySem.W.findObj_own hh ha rfl (by rw[hl,hv])) hv' h
theorem xn9 {pl:Sem Bool}{Q:Value × List Value->Shared->Prop} (X:K.In s.heap) (I:ObjM s.heap x dx C mA) (hg:JK K C name=true)
    (hf:Z4 K (.ref C) name=some (some (.ref f))) (ht:ZK K (.ref f)=true) (hv:mA name=none) (h:Q (.ref f,[.ref x]) s) :
    wpAny (model prog w) A (getMethod (.ref x) name pl) Q E s:=by
  obtain⟨od,J,hl⟩:=I.look;exact PySem.W.method_fn X J (Wd hg).1 (Wd hg).2 hf (beq_iff_eq.mp ht) (by show (QW name od).map (·.isSome)=some false; rw[hl,hv]; rfl) h
theorem xqn {ns:List Str}{Q:Unit->Shared->Prop} (X:K.In s.heap) (I:ObjM s.heap x dx C mA)
    (hs:Z4 K (.ref C) "__setattr__"=some (some (.builtin "object.__setattr__"))) (hp:Yc K C=true) (ht:PySem.W.takerIn K C name=some none) (hh:JE K C=true)
    (hw:YY mA ns) (hsz:ns.length<=sizeLine)
    (h:∀ h',ObjM h' x dx C (fun y=>if y=name then some v else mA y)->ZX dx s.heap h'->Q () { s with heap:=h',toks:=s.toks+2 }) :
    wpAny (model prog w) A (setAttr (.ref x) name v) Q E s:=by
  obtain⟨od,J,hl⟩:=I.look;refine PySem.W.set_plain X J hs (PySem.W.osa_open (s:={ s with toks:=s.toks+1 }) (r:=none) X J hp ht fun b=>?_);obtain⟨cd,hc,hd'⟩:=PySem.W.any_some hh;have hx:s.heap.get? x=some ⟨.ref C,some dx,.plain,#[]⟩:=I.obj;refine Zb (Zg (Zb (Zb (Q4 hx (Zb (PySem.W.Looks.here (s:={ s with toks:=s.toks+1 }) (PySem.W.looks_clsIn X hc) ?_))))));rw[hd'];refine Zg (a:=some dx) (Zb (Zg (Zb ?_)));refine wpAny_nsSet1 (s:={ s with toks:=s.toks+1 }) I.ns fun h' hn2 hs2=>?_;obtain⟨oD,esD,epD,hoD,hdD,hcD⟩:=hn2.count (YY.cons name v hw);refine Zb (wpAny_lookBehind hoD (by rw[hdD]; exact pastItsLine_dict (Z6 hcD (by rw[ZJ]; omega))) ?_);exact Zg (h _ ⟨(hs2.2 _ (Zw I.ne)).trans I.obj,hn2,I.ne⟩ hs2)
theorem xoo {R:Result->Shared->Prop}{vs:List Value}{kw:List (Str × Value)} (X:K.In s.heap) (hm:Yy K C=true)
    (hi:Z4 K (.ref C) "__init__"=some (some (.ref f))) (hf:PySem.W.typeIn K (.ref f)=some (.type "function"))
    (h:codeAny (model prog w) (A.under (.builtin "type.__call__" ⟨.ref C::vs,kw⟩)) (.call (.ref f) ⟨.ref (s.heap.objs.size+1)::vs,kw⟩) (PySem.W.InitBack (s.heap.objs.size+1) R)
      { s with heap:=(s.heap.push JF).push (JZ C s.heap.objs.size) }) :
    codeAny (model prog w) A (.call (.ref C) ⟨vs,kw⟩) R s:=by
  obtain⟨hh,g,d,t,os⟩:=s;exact PySem.W.make_core (PySem.W.makes_of X hm) (PySem.W.looks_findIn X hi) (fun self=>PySem.W.bind_fn X self hf) (.inl rfl) h
end
def putF (f:Str) (v:V):List (Str × V)->List (Str × V)
 | []=>[(f,v)]
 | (g,x)::r=>if g=f then (g,v)::r else (g,x)::putF f v r
theorem xec (f g:Str) (v:V):∀ fs:List (Str × V),(putF f v fs).lookup g=if g=f then some v else fs.lookup g
 | []=>by
  show Jd g [(f,v)]=_;by_cases h:g=f
  .have hb:(g == f)=true:=beq_iff_eq.mpr h;simp only[Jd,hb,if_pos h]
  .have hb:(g == f)=false:=beq_eq_false_iff_ne.mpr h;simp only[Jd,hb,if_neg h]
 | (k,x)::r=>by
  have ih:=xec f g v r;rw[show putF f v ((k,x)::r)=(if k=f then (k,v)::r else (k,x)::putF f v r) from rfl];by_cases hk:k=f
  .rw [if_pos hk];by_cases h:g=k
   .have hb:(g == k)=true:=beq_iff_eq.mpr h;simp only[Jd,hb,if_pos (h.trans hk)]
   .have hb:(g == k)=false:=beq_eq_false_iff_ne.mpr h;simp only[Jd,hb,if_neg (fun e:g=f=>h (e.trans hk.symm))]
  .rw [if_neg hk];by_cases h:g=k
   .have hb:(g == k)=true:=beq_iff_eq.mpr h;simp only[Jd,hb,if_neg (fun e:g=f=>hk (h.symm.trans e))]
   .have hb:(g == k)=false:=beq_eq_false_iff_ne.mpr h;simp only[Jd,hb];exact ih
theorem xdk (f:Str) (v:V):∀ fs:List (Str × V),f∈(putF f v fs).map (·.1)/\∀ g,g∈fs.map (·.1)->g∈(putF f v fs).map (·.1)
 | []=>⟨by simp[putF],fun g h=>by simp at h⟩
 | (k,x)::r=>by
  obtain⟨i1,i2⟩:=xdk f v r;rw[show putF f v ((k,x)::r)=(if k=f then (k,v)::r else (k,x)::putF f v r) from rfl];by_cases hk:k=f
  .rw [if_pos hk];subst hk;exact⟨by simp,fun g h=>by simpa using h⟩
  .rw [if_neg hk];refine⟨?_,fun g h=>?_⟩
   .rw [Zx];exact Zm _ i1
   .rw [Zx] at h ⊢;rcases Zz.mp h with e|e
    .exact Zz.mpr (.inl e)
    .exact Zm _ (i2 g e)
theorem xed (f:Str) (v:V):∀ fs:List (Str × V),(putF f v fs).length<=fs.length+1
 | []=>by simp[putF]
 | (k,x)::r=>by
  have ih:=xed f v r;rw[show putF f v ((k,x)::r)=(if k=f then (k,v)::r else (k,x)::putF f v r) from rfl];by_cases hk:k=f
  .rw [if_pos hk,ZJ,ZJ]; omega
  .rw [if_neg hk,ZJ,ZJ]; omega
theorem RelO.some_of {v:V}{o:Option Value} (r:RelO (some v) o):∃ u,o=some u/\RelV v u:=by
 cases o with
 | none=>exact (show False from r).elim
 | some u=>exact⟨u,rfl,r⟩
theorem RelO.none_of {o:Option Value} (r:RelO none o):o=none:=by
 cases o with
 | none=>rfl
 | some u=>exact (show False from r).elim
theorem xhg {v:V}{u:Value} (r:RelV v u):PySem.W.handedIn u=true:=by
 cases v with
 | non=>cases (show u=ZW from r); rfl
 | bl b=>cases (show u=Yr b from r); rfl
 | int i=>obtain⟨t,e⟩:=(show ∃ t,u=YU i t from r); cases e; rfl
 | str x=>obtain⟨t,e⟩:=(show ∃ t,u=Q0 x t from r); cases e; rfl
 | byt b=>obtain⟨t,e⟩:=(show ∃ t,u=Value.bytes b t from r); cases e; rfl
 | flt b=>obtain⟨t,e⟩:=(show ∃ t,u=Value.float b t from r); cases e; rfl
 | ref a=>cases (show u=Zk a from r); rfl
 | ty n=>cases (show u=Value.type n from r); rfl
section
variable {P:Program}{w:World}{H H':Hp}{h h':Heap}{a C dx:Addr}{fs fs':List (Str × V)}
theorem xfk (hok:HOk P w H h) (e:H a=some (.ins C dx fs)):∃ mA,ObjM h a dx C mA/\(∀ f,RelO (fs.lookup f) (mA f))/\YY mA (fs.map (·.1))/\fs.length<=1000/\H dx=some (.own a):=by
 obtain⟨d,z,ne,ob,mA,n,r,q⟩:=(show xap P w H h a (.ins C dx fs) from hok a _ e)
 exact⟨mA,⟨ob,n,ne⟩,r,q,z,d⟩
end
structure Cls (K:Zd) (C:Addr):Prop where
 pg:JK K C Wc=true
 hd:JE K C=true
 po:Yc K C=true
 sa:Z4 K (.ref C) "__setattr__"=some (some (.builtin "object.__setattr__"))
theorem Cls.get {K:Zd}{C:Addr} (c:Cls K C) (f:Str):JK K C f=true:=c.pg
def xdy (K:Zd) (C:Addr) (f:Str):Prop:=Z4 K (.ref C) f=some none
theorem xdy.taker {K:Zd}{C:Addr}{f:Str} (n:xdy K C f):PySem.W.takerIn K C f=some none:=by
 unfold PySem.W.takerIn;rw[show Z4 K (.ref C) f=some none from n];rfl
structure Meth (K:Zd) (C:Addr) (m:Str) (f:Addr):Prop where
 at_:Z4 K (.ref C) m=some (some (.ref f))
 fn:ZK K (.ref f)=true
 kp:Jh K (.ref f)=true
section
variable {X:Cx}{pins:List (Addr × Obj)}{Z:St}{H:Hp}{s:Shared}{a C dx:Addr}{fs:List (Str × V)}{f:Str}{v:V}{A:Around}{E:Value->Shared->Prop}
theorem xlm {b:Bool}{Q:Value->Shared->Prop} (I:Inv X pins Z H s) (e:H a=some (.ins C dx fs)) (c:Cls X.K C) (n:xdy X.K C f) (l:fs.lookup f=some v)
    (h:∀ u s',Inv X pins Z H s'->RelV v u->Q u s'):wpAny (model X.prog X.w) A (getAttr (.ref a) f b) Q E s:=by
  obtain⟨mA,O,r,_,_,_⟩:=xfk I.hok e;obtain⟨u,hu,ru⟩:=RelO.some_of (v:=v) (o:=mA f) (by rw[<- l]; exact r f);exact xqu I.kIn O (c.get f) c.hd n hu (xhg ru) (h u _ (I.tok _) ru)
theorem xgb {m:Str}{g:Addr}{pl:Sem Bool}{Q:Value × List Value->Shared->Prop} (I:Inv X pins Z H s) (e:H a=some (.ins C dx fs)) (c:Cls X.K C) (k:Meth X.K C m g) (l:fs.lookup m=none)
    (h:Q (.ref g,[.ref a]) s):wpAny (model X.prog X.w) A (getMethod (.ref a) m pl) Q E s:=by
  obtain⟨mA,O,r,_,_,_⟩:=xfk I.hok e;have hn:mA m=none:=RelO.none_of (by rw[<- l]; exact r m);exact xn9 I.kIn O (c.get m) k.at_ k.fn hn h
theorem xlu {y:V}{u:Value}{Q:Unit->Shared->Prop} (I:Inv X pins Z H s) (e:H a=some (.ins C dx fs)) (c:Cls X.K C) (n:xdy X.K C f) (hl:fs.length<1000) (ry:RelV y u)
    (h:∀ s',Inv X pins Z (upd H a (.ins C dx (putF f y fs))) s'->Q () s'):wpAny (model X.prog X.w) A (setAttr (.ref a) f u) Q E s:=by
  obtain⟨mA,O,r,wi,_,ho⟩:=xfk I.hok e;have hz:(fs.map (·.1)).length<=sizeLine:=by rw[Zc,Qn]; omega
  refine xqn I.kIn O c.sa c.po n.taker c.hd wi hz fun h' O' sb=>h _ ?_;have hd:∃ o,h'.get? dx=some o:=let ⟨o,_,_,e',_⟩:=O'.ns; ⟨o,e'⟩;refine I.write (x:=a) (e:=dx) (by rw[e]; exact Jg) (.inr ho) (fun b q hb z=>(sb.2 b hb).trans z) hd ?_;refine⟨by rw[xh O.ne]; exact ho,?_,O.ne,O'.obj,_,O'.ns,fun g=>?_,fun g hg=>?_⟩
  . have:=xed f y fs; omega
  . show RelO ((putF f y fs).lookup g) (if g=f then some u else mA g)
    rw[xec];by_cases q:g=f
    . rw[if_pos q,if_pos q]; exact ry
    . rw[if_neg q,if_neg q]; exact r g
  . by_cases q:g=f
    . rw[q]; exact (xdk f y fs).1
    . refine (xdk f y fs).2 g (wi g fun z=>hg ?_)
      show (if g=f then some u else mA g)=none;rw[if_neg q]; exact z
theorem Inv.made (I:Inv X pins Z H s):Inv X pins Z (upd (upd H s.heap.objs.size (.own (s.heap.objs.size+1))) (s.heap.objs.size+1) (.ins C s.heap.objs.size []))
    { s with heap:=(s.heap.push JF).push (JZ C s.heap.objs.size) }:=by
  have e1:(s.heap.push JF).get? s.heap.objs.size=some JF:=Zo s.heap rfl;have e2:((s.heap.push JF).push (JZ C s.heap.objs.size)).get? (s.heap.objs.size+1)=some (JZ C s.heap.objs.size):=by
    have:=Zo (s.heap.push JF) (o:=JZ C s.heap.objs.size) rfl
    rwa [Ym] at this
  have e3:(s.heap.push JF).Ns s.heap.objs.size (fun _=>none):=⟨JF,#[],_,e1,rfl,(fun e he=>absurd he (by simp)),fun _=>rfl⟩
  have I1:=I.laid (a:=s.heap.objs.size) (o:=.own (s.heap.objs.size+1)) (h':=s.heap.push JF) (t':=s.toks) (fun b u q=>Ze _ q) (Zi _) ⟨_,e1⟩;refine I1.laid (a:=s.heap.objs.size+1) (o:=.ins C s.heap.objs.size []) (t':=s.toks) (fun b u q=>Ze _ q) (Nat.le_of_eq (Ym _ _)) ?_;have ne:s.heap.objs.size≠s.heap.objs.size+1:=ZD (Nat.lt_succ_self _);refine⟨by rw[xh ne,xi],Ja _,ne,e2,fun _=>none,(Heap.Ns1.of_empty e3).at fun o q=>Ze _ q,fun _=>Jg,fun y hy=>absurd rfl hy⟩
theorem xk1 {prog:Program}{w:World}{env:Env}{e:Expr}{f:Str}{pos:Pos}{s:Shared}{Q:Value->Shared->Prop} (hb:attributeBase e f env (eval e env)=eval e env)
    (h:wpAny (model prog w) A (eval e env) (fun o s₁=>wpAny (model prog w) A (getAttr o f true) Q E s₁) E s):wpAny (model prog w) A (eval (.Attribute e f pos) env) Q E s :=
  Attribute_any_ h (by rw[arm_eval_Attribute,hb])
end
inductive xrz (K:Zd) (f:Str) (x:V) (H1:Hp) (Q:VK):Prop
 | mk (a C dx fs v) (e_:x=.ref a) (r_:H1 a=some (.ins C dx fs)/\Cls K C/\xdy K C f/\fs.lookup f=some v/\Q v H1)
def tFld (K:Zd) (ta:TE) (f:Str):TE:=fun Z H Q=>ta Z H fun x H1=>xrz K f x H1 Q
def sFld (K:Zd) (ta tv:TE) (f:Str):TS:=fun D Z H=>tv Z H fun y H1=>ta Z H1 fun x H2=>∃ a C dx fs,x=.ref a/\H2 a=some (.ins C dx fs)/\Cls K C/\xdy K C f/\fs.length<1000 /\
 D.nx Z (upd H2 a (.ins C dx (putF f y fs)))
def InOp (X:Cx) (op:Operator) (rd:V->V->Hp->VK->Prop):Prop :=
 ∀(pins:List (Addr × Obj)) (s:Shared) (Z:St) (H:Hp) (x y:V) (u v:Value) (Q:VK),Inv X pins Z H s->RelV x u->RelV y v->rd x y H Q->wpAny (model X.prog X.w) X.A (inplaceOp op u v) (EP X pins Z Q) X.xe s
section
variable {X:Cx}{o e value:Expr}{f:Str}{pos pos' tpos:Pos}{ta tv:TE}
theorem xae (he:PE X e ta) (hb:attributeBase e f X.env (eval e X.env)=eval e X.env):PE X (.Attribute e f pos) (tFld X.K ta f):=by
 intro pins s Z H Q I h;refine xk1 hb (thn (he pins s Z H _ I h) fun u s1 ⟨x,H1,I1,rx,a,C,dx,fs,v,ex,ea,c,n,l,q⟩=>?_);subst ex;obtain rfl:u=Zk a:=rx;exact xlm I1 ea c n l fun u' s2 I2 ru=>⟨v,H1,I2,ru,q⟩
theorem xb5 (ha:PE X o ta) (hv:PE X value tv) (hs:swapsWith value (some (.Attribute o f pos')) pos.line X.env=pure false):PS X (.Assign [.Attribute o f pos'] value pos) (sFld X.K ta tv f):=by
 intro pins s Z H D I h;refine plainObj_wpAny_Assign_Attribute (thn (hv pins s Z H _ I h) fun u s1 ⟨y,H1,I1,ry,q⟩=>thn (ha pins s1 Z H1 _ I1 q) fun ov s2 ⟨x,H2,I2,rx,a,C,dx,fs,ex,ea,c,n,l,q2⟩=>?_) hs;subst ex;obtain rfl:ov=Zk a:=rx;exact xlu I2 ea c n l ry fun s3 I3=>⟨Z,_,I3,q2⟩
inductive rAdd (x:V) (y:V) (H:Hp) (Q:VK):Prop
 | mk (i j) (e_:x=.int i) (r_:y=.int j/\Q (.int (i+j)) H)
inductive rSub (x:V) (y:V) (H:Hp) (Q:VK):Prop
 | mk (i j) (e_:x=.int i) (r_:y=.int j/\Q (.int (i-j)) H)
theorem xrk:InOp X .Add rAdd:=by
 rintro pins s Z H x y u v Q I rx ry ⟨i,j,rfl,rfl,q⟩;obtain⟨t,rfl⟩:=(show ∃ t,u=YU i t from rx)
 obtain⟨t',rfl⟩:=(show ∃ t',v=YU j t' from ry)
 exact PyProof.Rows.iadd_int ⟨.int (i+j),H,I.tok _,⟨_,rfl⟩,q⟩
theorem xsz:InOp X .Sub rSub:=by
 rintro pins s Z H x y u v Q I rx ry ⟨i,j,rfl,rfl,q⟩;obtain⟨t,rfl⟩:=(show ∃ t,u=YU i t from rx)
 obtain⟨t',rfl⟩:=(show ∃ t',v=YU j t' from ry)
 exact PyProof.Rows.isub_int ⟨.int (i-j),H,I.tok _,⟨_,rfl⟩,q⟩
end
section
variable {X:Cx}{pins:List (Addr × Obj)}{Z:St}{H:Hp}{s:Shared}{A:Around}{E:Value->Shared->Prop}{Q:Value->Shared->Prop}{c:Value}{b:Bool}
inductive TyOf (K:Zd) (H:Hp):V->Value->Prop where
  | non:TyOf K H .non (.type "NoneType")
  | bl (x:Bool):TyOf K H (.bl x) (.type "bool")
  | int (i:Int):TyOf K H (.int i) (.type "int")
  | str (x:Str):TyOf K H (.str x) (.type "str")
  | flt (x:UInt64):TyOf K H (.flt x) (.type "float")
  | lst {a:Addr}{xs:List V} (e:H a=some (.lst xs)):TyOf K H (.ref a) (.type "list")
  | frz {a:Addr}{o:Obj}{xs:List V} (e:H a=some (.frz o (.lst xs))):TyOf K H (.ref a) (.type "list")
  | tup {a:Addr}{xs:List V} (e:H a=some (.tup xs)):TyOf K H (.ref a) (.type "tuple")
  | dK {a:Addr}{kvs:List (Key × V)} (e:H a=some (.dK kvs)):TyOf K H (.ref a) (.type "dict")
  | dT {a:Addr}{kvs:List (List Key × V)} (e:H a=some (.dT kvs)):TyOf K H (.ref a) (.type "dict")
  | ins {a C dx:Addr}{fs:List (Str × V)} (e:H a=some (.ins C dx fs)) (cl:Cls K C) (ha:Z4 K (.ref C) "__class__"=some (some (.builtin "object.__class__")))
      (hn:Y3 K (.builtin "object.__class__") "__get__"=some (some (.builtin "getset_descriptor.__get__"))) (htk:PySem.W.takesIn K (.builtin "object.__class__")=some true)
      (hm:Wg K C (.type "object")=some true):TyOf K H (.ref a) (.ref C)
theorem xne {x:V}{u t:Value} (I:Inv X pins Z H s) (rx:RelV x u) (ty:TyOf X.K H x t) (e:QX X.K t c=some b) (h:∀ tk,Q (.bool b) { s with toks:=tk }) :
    wpAny (model X.prog X.w) A (call (.builtin "isinstance") [u,c]) Q E s:=by
  cases ty with
  | non=>cases (show u=ZW from rx); exact Jv PySem.W.kitx_none I.kIn Jg e (fun z=>nomatch z) h
  | bl y=>cases (show u=Yr y from rx); exact Jv PySem.W.kitx_bool I.kIn Jg e (fun z=>nomatch z) h
  | int i=>obtain⟨t,q⟩:=(show ∃ t,u=YU i t from rx); cases q; exact Jv PySem.W.kitx_int I.kIn Jg e (fun z=>nomatch z) h
  | str y=>obtain⟨t,q⟩:=(show ∃ t,u=Q0 y t from rx); cases q; exact Jv PySem.W.kitx_str I.kIn Jg e (fun z=>nomatch z) h
  | flt y=>obtain⟨t,q⟩:=(show ∃ t,u=Value.float y t from rx); cases q; exact Jv PySem.W.kitx_float I.kIn Jg e (fun z=>nomatch z) h
  | @lst a xs ea =>
    cases (show u=Zk a from rx);obtain⟨_,_,n,_,h1⟩:=(show xap X.prog X.w H s.heap a (.lst xs) from I.hok a _ ea)
    exact Jv PySem.W.kitx_list I.kIn ⟨_,h1,rfl⟩ e (fun z=>nomatch z) h
  | @frz a ob xs ea =>
    cases (show u=Zk a from rx);obtain⟨_,_,_,n,_,h1⟩:=(show xap X.prog X.w H s.heap a (.frz ob (.lst xs)) from I.hok a _ ea)
    exact Jv PySem.W.kitx_list I.kIn ⟨_,h1,rfl⟩ e (fun z=>nomatch z) h
  | @tup a xs ea =>
    cases (show u=Zk a from rx);obtain⟨_,_,_,p⟩:=(show xap X.prog X.w H s.heap a (.tup xs) from I.hok a _ ea)
    obtain⟨o,h1,h2,_⟩:=p;exact Jv PySem.W.kitx_tuple I.kIn ⟨o,h1,h2⟩ e (fun z=>nomatch z) h
  | @dK a kvs ea =>
    cases (show u=Zk a from rx);obtain⟨_,_,vs,_,p⟩:=(show xap X.prog X.w H s.heap a (.dK kvs) from I.hok a _ ea)
    obtain⟨o,es,ep,h1,h2,_⟩:=p;exact Jv PySem.W.kitx_dict I.kIn ⟨o,h1,h2.1⟩ e (fun z=>nomatch z) h
  | @dT a kvs ea =>
    cases (show u=Zk a from rx);obtain⟨_,_,xs,_,o,es,ep,h1,h2,_⟩:=(show xap X.prog X.w H s.heap a (.dT kvs) from I.hok a _ ea)
    exact Jv PySem.W.kitx_dict I.kIn ⟨o,h1,h2.1⟩ e (fun z=>nomatch z) h
  | @ins a C dx fs ea cl ha hn htk hm =>
    cases (show u=Zk a from rx);obtain⟨mA,O,_⟩:=xfk I.hok ea;obtain⟨od,J,_⟩:=O.look;exact Jv (PySem.W.kitx_own (cl.get _) cl.hd ha hn htk hm) I.kIn J e (fun z=>nomatch z) h
end
structure Room (q0:Bool) (k:Nat) (A:Around):Prop where
 hd:q0=true->A.handled=none
 dp:A.depth+3*k+5<recursionLimit
 un:A.units+16*k+200<cLine
 gd:A.guards=some []
theorem Room.mono {j k:Nat}{A:Around} (r:Room q0 k A) (h:j<=k):Room q0 j A:=⟨r.hd,by have:=r.dp; omega,by have:=r.un; omega,r.gd⟩
theorem Room.deeper {k:Nat}{A:Around} (r:Room q0 (k+1) A) (env:Env):Room q0 k (A.deeper env) :=
 ⟨r.hd,by have:=r.dp; show A.depth+1+3*k+5<_; omega,by have:=r.un; show A.units+3+16*k+200<_; omega,r.gd⟩
theorem xlp {A:Around}{C:Addr}{us:List Value}{kw:List (Str × Value)}:(A.under (.builtin "type.__call__" ⟨.ref C::us,kw⟩)).depth=A.depth+1:=by
 first|rfl|simp[Around.under,Code.weight,Code.isCreation,Code.isGuard,Code.isCaller,Code.frames,Code.isFrame,guardIds]
theorem xli {A:Around}{C:Addr}{us:List Value}{kw:List (Str × Value)}:(A.under (.builtin "type.__call__" ⟨.ref C::us,kw⟩)).units=A.units+1:=by
 first|rfl|simp[Around.under,Code.cUnits,Code.frames,Code.isFrame]
theorem Room.make {k:Nat}{A:Around} (r:Room q0 (k+1) A) (C:Addr) (us:List Value) (kw:List (Str × Value)):Room q0 k (A.under (.builtin "type.__call__" ⟨.ref C::us,kw⟩)) :=
 ⟨r.hd,by have:=r.dp; rw[xlp]; omega,by have:=r.un; rw[xli]; omega,by first|exact r.gd|(simpa [Around.under,Code.guards,Code.isGuard,guardIds,pushGuards] using r.gd)⟩
theorem Room.depth {k:Nat}{A:Around} (r:Room q0 k A):A.depth<recursionLimit:=by have:=r.dp; omega
theorem Room.units {k:Nat}{A:Around} (r:Room q0 k A):A.units+64<cLine:=by have:=r.un; omega
def tNil:TA:=fun _ H Q=>Q [] H
def xps (ta:TE) (tr:TA):TA:=fun Z H Q=>ta Z H fun x H1=>tr Z H1 fun xs H2=>Q (x::xs) H2
section
variable {X:Cx}{e:Expr}{es:List Expr}{te:TE}{t:TA}{pos:Pos}
theorem xk:PA X [] tNil:=fun _ _ _ _ H Q I h=>Y6 ⟨[],H,I,.nil,h⟩
theorem xf (ha:PE X e te) (hr:PA X es t) (hs:starEach (e::es) X.env=(false,eval e X.env)::starEach es X.env:=by rfl):PA X (e::es) (xps te t):=by
 intro pos pins s Z H Q I h;rw[hs];show wpAny _ _ (spliced ((false,eval e X.env)::backTo pos (starEach es X.env))) _ _ s;refine Yu (thn (ha pins s Z H _ I h) fun u s1 ⟨x,H1,I1,r1,q1⟩=>?_);exact thn (hr pos pins s1 Z H1 _ I1 q1) fun us s2 ⟨xs,H2,I2,r2,q2⟩=>⟨x::xs,H2,I2,.cons r1 r2,q2⟩
def tTup (t:TA):TE:=fun Z H Q=>t Z H fun xs H1=>xs.length<=sizeLine/\∀ p,H1 p=none->Q (.ref p) (upd H1 p (.tup xs))
def tLst (t:TA):TE:=fun Z H Q=>t Z H fun xs H1=>xs.length<=sizeLine/\∀ p,H1 p=none->Q (.ref p) (upd H1 p (.lst xs))
theorem xaq {x1} (h:PA X es t):PE X (.Tuple es x1 pos) (tTup t):=by
 intro pins s Z H Q I hq;refine wpAny_Tuple_spliced (thn (h pos pins s Z H _ I hq) fun us s1 ⟨xs,H1,I1,r,z,q⟩=>⟨by rw[<- r.length]; exact z,?_⟩);have hf:H1 s1.heap.objs.size=none:=I1.hok.fresh (Zi _);refine⟨.ref s1.heap.objs.size,upd H1 s1.heap.objs.size (.tup xs),I1.laid (t':=s1.toks) (fun b u e=>Ze _ e) (Zi _) ?_,rfl,q _ hf⟩;exact⟨z,us,r,⟨_,Zo _ rfl,rfl,_,rfl⟩⟩
theorem xcf (h:PA X es t):PE X (.List es pos) (tLst t):=by
 intro pins s Z H Q I hq;refine wpAny_List_spliced (thn (h pos pins s Z H _ I hq) fun us s1 ⟨xs,H1,I1,r,z,q⟩=>⟨by rw[<- r.length]; exact z,?_⟩);have hf:H1 s1.heap.objs.size=none:=I1.hok.fresh (Zi _);refine⟨.ref s1.heap.objs.size,upd H1 s1.heap.objs.size (.lst xs),I1.laid (t':=s1.toks) (fun b u e=>Ze _ e) (Zi _) ?_,rfl,q _ hf⟩;exact⟨z,us,0,r,Zo _ rfl⟩
end
abbrev Sp:=List V->Hp->VK->XK->Prop
abbrev CXT:=List Env->Hp->Shared->XK->Value->Shared->Prop
structure Env0 (P:Program) (w:World) (K:Zd) (mg:Str->Option Value) (base:Heap) (A:Around) (outer:List Env) (s:Shared) (H:Hp):Prop where
 frames:A.frames=some outer
 mod:Mod K mg base
 bs:∀ b o,base.get? b=some o->s.heap.get? b=some o/\H b=none
 bsz:base.objs.size<=s.heap.objs.size
 funs:s.heap.FunFrames base outer
 frf:∀ b∈frs outer,H b=none
 hok:HOk P w H s.heap
 bare:AllBare s.gens
def CE (outer:List Env) (P:Program) (w:World) (H:Hp) (s:Shared) (Q:VK) (u:Value) (s':Shared):Prop :=
 ∃ v H',s'.os=s.os/\AllBare s'.gens/\Un (frs outer) [] H H' s.heap s'.heap/\HOk P w H' s'.heap/\RelV v u/\Q v H'
def CR (CX:CXT) (outer:List Env) (P:Program) (w:World) (H:Hp) (s:Shared) (Q:VK) (E:XK) (r:Result) (s':Shared):Prop :=
 match r with
 | .ok (.ret u)=>CE outer P w H s Q u s'
 | .ok _=>False
 | .error e=>CX outer H s E e s'
structure FnOk (q0:Bool) (P:Program) (w:World) (K:Zd) (mg:Str->Option Value) (base:Heap) (CX:CXT) (k:Nat) (f:Addr) (fd:FuncData) (ps:List Str) (sp:Sp):Prop where
 len:∀ vs H Q E,sp vs H Q E->vs.length=ps.length
 run:∀(A:Around) (outer:List Env) (s:Shared) (H:Hp) (args:Args) (us:List Value) (vs:List V) (Q:VK) (E:XK),Room q0 k A->Env0 P w K mg base A outer s H->BindsTo s fd args (ps.zip us)->Vals vs us->sp vs H Q E ->
  codeAny (model P w) A (.call (.ref f) args) (CR CX outer P w H s Q E) s
theorem Env0.make {P:Program}{w:World}{K:Zd}{mg:Str->Option Value}{base:Heap}{A:Around}{outer:List Env}{s:Shared}{H:Hp} (e:Env0 P w K mg base A outer s H) (C:Addr) (us:List Value) (kw:List (Str × Value)) :
    Env0 P w K mg base (A.under (.builtin "type.__call__" ⟨.ref C::us,kw⟩)) outer s H:=⟨by first|exact e.frames|(simpa [Around.under,Code.envs,Code.isFrame,pushEnvs] using e.frames),e.mod,e.bs,e.bsz,e.funs,e.frf,e.hok,e.bare⟩
section
variable {X:Cx}{pins:List (Addr × Obj)}{Z:St}{H:Hp}{s s':Shared}
theorem Inv.env0 (I:Inv X pins Z H s):Env0 X.prog X.w X.K X.mg X.base X.A X.stack s H :=
 ⟨I.ok.frames,I.ok.mod,I.bs,Z6 I.ok.bsz I.sz,I.stack,I.stkFree,I.hok,I.bare⟩
theorem Inv.after {Q:VK}{u:Value} (I:Inv X pins Z H s) (h:CE X.stack X.prog X.w H s Q u s'):EP X pins Z Q u s':=by
 obtain⟨v,H',os,bare,un,hok,r,q⟩:=h;obtain⟨hh,g,d,t,os'⟩:=s';obtain rfl:os'=s.os:=os;exact⟨v,H',I.call (h':=hh) (g':=g) (d':=d) (t':=t) (ch:=[]) un hok bare (fun b z=>absurd z (by simp)),r,q⟩
end
def xtn (sp:Sp) (dvs:List V) (E:St->XK) (t:TA):TE:=fun Z H Q=>t Z H fun vs H1=>sp (vs++dvs) H1 Q (E Z)
inductive xqs (C:Addr) (m:Str) (sp:Sp) (dvs:List V) (E:St->XK) (t:TA) (Z:St) (x:V) (H1:Hp) (Q:VK):Prop
 | mk (a dx fs) (e_:x=.ref a) (r_:H1 a=some (.ins C dx fs)/\fs.lookup m=none/\t Z H1 fun vs H2=>sp (x::(vs++dvs)) H2 Q (E Z))
def xpb (C:Addr) (m:Str) (sp:Sp) (dvs:List V) (E:St->XK) (ta:TE) (t:TA):TE:=fun Z H Q=>ta Z H fun x H1=>xqs C m sp dvs E t Z x H1 Q
def xpr (C:Addr) (sp:Sp) (dvs:List V) (E:St->XK) (t:TA):TE:=fun Z H Q=>t Z H fun vs H1=>∀ x dx,H1 x=none->H1 dx=none->dx≠x ->
 sp (.ref x::(vs++dvs)) (upd (upd H1 dx (.own x)) x (.ins C dx [])) (fun v H2=>v=.non/\Q (.ref x) H2) (E Z)
def xaa (K:Zd) (fd:FuncData) (ps:List Str) (ds:List Value):Prop :=
 ∀(s:Shared) (us:List Value),K.In s.heap->(us++ds).length=ps.length->BindsTo s fd ⟨us,[]⟩ (ps.zip (us++ds))
theorem xaa.all {K:Zd}{fd:FuncData}{ps:List Str} (h:∀ us:List Value,us.length=ps.length->bindArgs fd ⟨us,[]⟩=pure (ps.zip us)):xaa K fd ps []:=fun s us _ hl=>by
 rw[YO] at hl ⊢;exact .of_eq (h us hl)
def xcz (CX:CXT) (X:Cx) (E:St->XK):Prop:=∀(pins:List (Addr × Obj)) (Z:St) (H:Hp) (s:Shared) (e:Value) (s':Shared),Inv X pins Z H s->CX X.stack H s (E Z) e s'->X.xe e s'
section
variable {X:Cx}{CX:CXT}{k:Nat}{f C:Addr}{fd:FuncData}{ps:List Str}{sp:Sp}{dvs:List V}{ds:List Value}{E:St->XK}{x m:Str}{p pos apos:Pos}{e o:Expr}{es:List Expr}{ta:TE}{t:TA}
theorem xis {pins:List (Addr × Obj)}{Z:St}{H:Hp}{s:Shared}{Q:VK}{us:List Value}{vs:List V} (F:FnOk q0 X.prog X.w X.K X.mg X.base CX k f fd ps sp) (hr:Room q0 k X.A) (hb:xaa X.K fd ps ds) (hd:Vals dvs ds) (hx:xcz CX X E)
    (I:Inv X pins Z H s) (r:Vals vs us) (h:sp (vs++dvs) H Q (E Z)):wpAny (model X.prog X.w) X.A (call (.ref f) us) (EP X pins Z Q) X.xe s:=by
  have r2:Vals (vs++dvs) (us++ds):=r.append hd;have hl:(us++ds).length=ps.length:=by rw[<- r2.length]; exact F.len _ _ _ _ h
  refine Qh (YX (F.run X.A X.stack s H ⟨us,[]⟩ (us++ds) (vs++dvs) Q (E Z) hr I.env0 (hb s us I.kIn hl) r2 h) fun r s' hq=>?_);cases r with
  | error e=>exact hx pins Z H s e s' I hq
  | ok fl =>
    cases fl with
    | ret u=>exact I.after hq
    | next=>exact J7 hq
    | brk=>exact J7 hq
    | cont=>exact J7 hq
theorem x8 (F:FnOk q0 X.prog X.w X.K X.mg X.base CX k f fd ps sp) (hr:Room q0 k X.A) (hg:Gl X x) (hm:X.mg x=some (.ref f)) (hk:Jh X.K (.ref f)=true) (hb:xaa X.K fd ps ds) (hd:Vals dvs ds) (hx:xcz CX X E)
    (ha:PA X (e::es) t) (hdb:(x == ("__debug__":Str))=false:=by decide) (he:starEach (e::es) X.env=(false,eval e X.env)::starEach es X.env:=by rfl) (hpl:(backTo pos (starEach es X.env)).any (·.1)=false:=by rfl) :
    PE X (.Call (.Name x p) (e::es) [] pos) (xtn sp dvs E t):=by
  intro pins s Z H Q I h;refine J8 (xc6 I hg hm ?_ hdb);refine Q7 (h₀:=X.base) I.ok.mod.kin hk (thn (ha pos pins s Z H _ I h) fun us s1 ⟨vs,H1,I1,r,q⟩=>⟨I1.kIn,?_⟩) he hpl;exact xis F hr hb hd hx I1 r q
theorem xan {pl:Sem Bool} (he:PE X o ta) (c:Cls X.K C) (hm:Meth X.K C m f) (F:FnOk q0 X.prog X.w X.K X.mg X.base CX k f fd ps sp) (hr:Room q0 k X.A) (hb:xaa X.K fd ps ds) (hd:Vals dvs ds) (hx:xcz CX X E) (ha:PA X (e::es) t)
    (hst:starEach (e::es) X.env=(false,eval e X.env)::starEach es X.env:=by rfl) (hpl:(backTo pos (starEach es X.env)).any (·.1)=false:=by rfl)
    (ht:eval (.Call (.Attribute o m apos) (e::es) [] pos) X.env=(do
      let ov <- eval o X.env
      standAt apos.atName
      let (f,first) <- holding [ov] (getMethod ov m pl)
      callWith pos f first (backTo pos (starEach (e::es) X.env)) (backToKw pos (keywordEach [] X.env))):=by rfl) :
    PE X (.Call (.Attribute o m apos) (e::es) [] pos) (xpb C m sp dvs E ta t):=by
  intro pins s Z H Q I h;refine QS (pl:=pl) (thn (he pins s Z H _ I h) fun u s1 ⟨x,H1,I1,rx,a,dx,fs,ex,ea,l,q⟩=>?_) ht;subst ex;obtain rfl:u=Zk a:=rx;refine xgb I1 ea c hm l ?_;refine Q7 (first:=[.ref a]) (h₀:=X.base) I.ok.mod.kin hm.kp (thn (ha pos pins s1 Z H1 _ I1 q) fun us s2 ⟨vs,H2,I2,r,q2⟩=>⟨I2.kIn,?_⟩) hst hpl;exact xis (us:=.ref a::us) (vs:=.ref a::vs) F hr hb hd hx I2 (.cons rfl r) q2
theorem xbm {pl:Sem Bool} (he:PE X o ta) (c:Cls X.K C) (hm:Meth X.K C m f) (F:FnOk q0 X.prog X.w X.K X.mg X.base CX k f fd ps sp) (hr:Room q0 k X.A) (hb:xaa X.K fd ps ds) (hd:Vals dvs ds) (hx:xcz CX X E)
    (ht:eval (.Call (.Attribute o m apos) [] [] pos) X.env=(do
      let ov <- eval o X.env
      standAt apos.atName
      let (f,first) <- holding [ov] (getMethod ov m pl)
      callWith pos f first (backTo pos (starEach [] X.env)) (backToKw pos (keywordEach [] X.env))):=by rfl) :
    PE X (.Call (.Attribute o m apos) [] [] pos) (xpb C m sp dvs E ta tNil):=by
  intro pins s Z H Q I h;refine QS (pl:=pl) (thn (he pins s Z H _ I h) fun u s1 ⟨x,H1,I1,rx,a,dx,fs,ex,ea,l,q⟩=>?_) ht;subst ex;obtain rfl:u=Zk a:=rx;refine xgb I1 ea c hm l ?_;exact PySem.W.callWith_K0 (first:=[.ref a]) I1.kIn hm.kp (xis (us:=[.ref a]) (vs:=[.ref a]) F hr hb hd hx I1 (.cons rfl .nil) q)
structure Mk (K:Zd) (C f:Addr):Prop where
 makes:Yy K C=true
 init:Z4 K (.ref C) "__init__"=some (some (.ref f))
 fn:ZK K (.ref f)=true
 kp:Jh K (.ref C)=true
theorem xi7 {pins:List (Addr × Obj)}{Z:St}{H:Hp}{s:Shared}{Q:VK}{us:List Value}{vs:List V} (M:Mk X.K C f) (F:FnOk q0 X.prog X.w X.K X.mg X.base CX k f fd ps sp) (hr:Room q0 (k+1) X.A) (hb:xaa X.K fd ps ds) (hd:Vals dvs ds)
    (hx:xcz CX X E) (I:Inv X pins Z H s) (r:Vals vs us)
    (h:∀ x dx,H x=none->H dx=none->dx≠x->sp (.ref x::(vs++dvs)) (upd (upd H dx (.own x)) x (.ins C dx [])) (fun v H2=>v=.non/\Q (.ref x) H2) (E Z)) :
    wpAny (model X.prog X.w) X.A (call (.ref C) us) (EP X pins Z Q) X.xe s:=by
  have hq:=h (s.heap.objs.size+1) s.heap.objs.size (I.hok.fresh (Y9 _)) (I.hok.fresh (Zi _)) (ZD (Nat.lt_succ_self _));have I2:=Inv.made (C:=C) I;have r2:Vals (V.ref (s.heap.objs.size+1)::(vs++dvs)) (Zk (s.heap.objs.size+1)::(us++ds)):=.cons rfl (r.append hd);have hl:(Zk (s.heap.objs.size+1)::us++ds).length=ps.length:=by
    have e:=r2.length;rw[F.len _ _ _ _ hq] at e;exact e.symm
  refine Qh (xoo (f:=f) I.kIn M.makes M.init (beq_iff_eq.mp M.fn) (YX (F.run _ X.stack _ _ ⟨Zk (s.heap.objs.size+1)::us,[]⟩ (Zk (s.heap.objs.size+1)::(us++ds)) _ _ (E Z) (hr.make C us [])
    (I2.env0.make C us []) (hb _ (Zk (s.heap.objs.size+1)::us) I2.kIn hl) r2 hq) fun r s' hq'=>?_))
  cases r with
  | error e=>exact hx pins Z _ _ e s' I2 hq'
  | ok fl =>
    cases fl with
    | ret u =>
      obtain⟨v,H',I3,rv,ev,q3⟩:=I2.after hq';subst ev;exact⟨rv,⟨V.ref (s.heap.objs.size+1),H',I3,rfl,q3⟩⟩
    | next=>exact J7 hq'
    | brk=>exact J7 hq'
    | cont=>exact J7 hq'
theorem xeg (M:Mk X.K C f) (F:FnOk q0 X.prog X.w X.K X.mg X.base CX k f fd ps sp) (hr:Room q0 (k+1) X.A) (hg:Gl X x) (hm:X.mg x=some (.ref C)) (hb:xaa X.K fd ps ds) (hd:Vals dvs ds) (hx:xcz CX X E)
    (ha:PA X (e::es) t) (hdb:(x == ("__debug__":Str))=false:=by decide) (he:starEach (e::es) X.env=(false,eval e X.env)::starEach es X.env:=by rfl) (hpl:(backTo pos (starEach es X.env)).any (·.1)=false:=by rfl) :
    PE X (.Call (.Name x p) (e::es) [] pos) (xpr C sp dvs E t):=by
  intro pins s Z H Q I h;refine J8 (xc6 I hg hm ?_ hdb);refine Q7 (h₀:=X.base) I.ok.mod.kin M.kp (thn (ha pos pins s Z H _ I h) fun us s1 ⟨vs,H1,I1,r,q⟩=>⟨I1.kIn,?_⟩) he hpl;exact xi7 M F hr hb hd hx I1 r q
theorem xim (M:Mk X.K C f) (F:FnOk q0 X.prog X.w X.K X.mg X.base CX k f fd ps sp) (hr:Room q0 (k+1) X.A) (hg:Gl X x) (hm:X.mg x=some (.ref C)) (hb:xaa X.K fd ps ds) (hd:Vals dvs ds) (hx:xcz CX X E)
    (hdb:(x == ("__debug__":Str))=false:=by decide):PE X (.Call (.Name x p) [] [] pos) (xpr C sp dvs E tNil):=by
  intro pins s Z H Q I h;refine J8 (xc6 I hg hm ?_ hdb);exact PySem.W.callWith_K0 I.kIn M.kp (xi7 (us:=[]) M F hr hb hd hx I .nil h)
end
structure xv (N P:List Str) (sc:Scope):Prop where
 kind:sc.kind=.function
 co:sc.isCoroutine=false
 gen:sc.isGenerator=false
 nd:N.Nodup
 pre:N.take P.length=P
 par:∀ x∈P,sc.names.lookup x=some .local\/sc.names.lookup x=some .cell
 nofree:∀ y∈sc.names,y.2≠.free
theorem xhm {kindOf:Str->Option NameKind}{x:Str}:∀{binds:List (Str × Value)}{m:Str->Option Value},(∀ v,(x,v)∉binds)->bindL kindOf binds m x=m x
 | [],_,_=>rfl
 | (n,v)::r,m,h=>by
  unfold bindL;rw[xhm fun w hw=>h w (Zm _ hw)];split
  .have:x≠n:=by rintro rfl; exact h v Zp
   simp[this]
  .rfl
theorem xhk {kindOf:Str->Option NameKind}{x:Str}:∀{binds:List (Str × Value)}{m:Str->Option Value},(∀ v,(x,v)∉binds)->bindC kindOf binds m x=m x
 | [],_,_=>rfl
 | (n,v)::r,m,h=>by
  unfold bindC;rw[xhk fun w hw=>h w (Zm _ hw)];split
  .rfl
  .have:x≠n:=by rintro rfl; exact h v Zp
   simp[this]
theorem xha {kindOf:Str->Option NameKind}{x:Str}{v:Value}:∀{P:List Str}{vs:List Value}{i:Nat}{m:Str->Option Value},P.Nodup->P[i]?=some x->vs[i]?=some v->kindOf x=some .local ->
    bindL kindOf (P.zip vs) m x=some v
  | [],_,_,_,_,h,_,_=>by simp at h
  | _::_,[],_,_,_,_,h,_=>by simp at h
  | p::P,w::vs,0,m,nd,h1,h2,hk=>by
    simp at h1 h2; subst h1; subst h2;show bindL kindOf ((p,w)::P.zip vs) m p=_;unfold bindL;rw[xhm fun v hv=>(ZQ.mp nd).1 (List.of_mem_zip hv).1,if_pos hk];simp
  | p::P,w::vs,i+1,m,nd,h1,h2,hk=>by
    show bindL kindOf ((p,w)::P.zip vs) m x=_;unfold bindL;exact xha (i:=i) (ZQ.mp nd).2 (by simpa using h1) (by simpa using h2) hk
theorem xht {kindOf:Str->Option NameKind}{x:Str}{v:Value}:∀{P:List Str}{vs:List Value}{i:Nat}{m:Str->Option Value},P.Nodup->P[i]?=some x->vs[i]?=some v->kindOf x≠some .local ->
    bindC kindOf (P.zip vs) m x=some v
  | [],_,_,_,_,h,_,_=>by simp at h
  | _::_,[],_,_,_,_,h,_=>by simp at h
  | p::P,w::vs,0,m,nd,h1,h2,hk=>by
    simp at h1 h2; subst h1; subst h2;show bindC kindOf ((p,w)::P.zip vs) m p=_;unfold bindC;rw[xhk fun v hv=>(ZQ.mp nd).1 (List.of_mem_zip hv).1,if_neg hk];simp
  | p::P,w::vs,i+1,m,nd,h1,h2,hk=>by
    show bindC kindOf ((p,w)::P.zip vs) m x=_;unfold bindC;exact xht (i:=i) (ZQ.mp nd).2 (by simpa using h1) (by simpa using h2) hk
def start (N:List Str) (vs:List V):St:=vs.map some++Q5 (N.length-vs.length) none
def cxOf (q0:Bool) (CX:CXT) (P:Program) (w:World) (K:Zd) (mg:Str->Option Value) (base:Heap) (N:List Str) (qual:Str) (scope:Scope) (f:Addr) (cd:Value) (A:Around) (outer:List Env) (s:Shared) (H:Hp) (E:XK):Cx where
 prog:=P
 w:=w
 K:=K
 mg:=mg
 base:=base
 A:=A.deeper (envOfC qual scope s.heap.objs.size f cd)
 N:=N
 s₀:=s
 H₀:=H
 env:=envOfC qual scope s.heap.objs.size f cd
 outer:=outer
 stack:=envOfC qual scope s.heap.objs.size f cd::outer
 ex:=[]
 calm:=q0
 fn:=fun _=>true
 pn:=[]
 xe:=fun e s'=>wpAny (model P w) (A.deeper (envOfC qual scope s.heap.objs.size f cd)) (leaving (envOfC qual scope s.heap.objs.size f cd) e) (fun _ s''=>CX outer H s E e s'') (fun e' s''=>CX outer H s E e' s'') s'
theorem xiv {sc:Scope}{n:Nat}{x:Str} (h:sc.names.lookup x=some .cell):∃ c,(cellsFrom n sc.names []).lookup x=some c:=by
 have q:=PySem.W.cellsFrom_some sc.names n [] (.inl h);exact QE.mp q
theorem xmy {CX:CXT}{P:Program}{w:World}{K:Zd}{mg:Str->Option Value}{base:Heap}{N ps:List Str}{qual:Str}{scope:Scope}{f:Addr}{cd:Value}{A:Around}{outer:List Env}{s s1:Shared}{H:Hp}{E:XK}{us:List Value}{vs:List V}
    (S:xv N ps scope) (hd:q0=true->A.handled=none) (e0:Env0 P w K mg base A outer s H) (hl:vs.length=ps.length) (r:Vals vs us)
    (x:InCallC s s.heap.objs.size (bindL (envOfC qual scope s.heap.objs.size f cd).kindOf (ps.zip us) fun _=>none) (cellsFrom (s.heap.objs.size+1) scope.names []) (bindC (envOfC qual scope s.heap.objs.size f cd).kindOf (ps.zip us) fun _=>none) s1) :
    Inv (cxOf q0 CX P w K mg base N qual scope f cd A outer s H E) [] (start N vs) H s1:=by
  have hpl:ps.length<=N.length:=by have:=congrArg Qo S.pre; rw[JA] at this; omega
  obtain⟨h1,tk,rfl,hk⟩:=x.done;have noA:∀ b:Addr,b∉(cxOf q0 CX P w K mg base N qual scope f cd A outer s H E).ex:=fun b z=>absurd (show b∈([]:List Addr) from z) (by simp);refine⟨⟨e0.mod,S.kind,rfl,rfl,Zi _,fun y z c h1 h2=>?_,fun y hy=>?_,fun y c _ h=>?_,hd,Around.frames_deeper e0.frames,.inr ⟨rfl,rfl⟩,fun b z=>absurd z (noA b),e0.bs,e0.bsz,fun b _ _=>noA b,fun b z=>absurd z (noA b),e0.funs,e0.frf⟩,
    rfl,e0.bare,Un.kept hk,⟨_,x.toInCall.ns,fun i y v h1 h2 h3=>?_⟩,fun y c h=>⟨_,x.cell y c h⟩,e0.hok.fresh (Zi _),fun y c h=>?_,fun p hp=>absurd (show p∈([]:List (Addr × Obj)) from hp) (by simp),e0.hok.kept hk,?_⟩
  . exact name_of_addr x.apart (JH h1) (JH h2)
  . have hy:scope.names.lookup y=some .cell\/scope.names.lookup y=some .free:=hy
    rcases hy with hy|hy
    . exact xiv hy
    . exact absurd rfl (S.nofree _ (JH hy))
  . exact YZ (x.above y c (JH h))
  . have hi:i<vs.length:=by
      unfold start at h2;by_cases hi:i<vs.length
      . exact hi
      . rw[Ju (by simpa using hi)] at h2
        rw[QJ] at h2;split at h2<;>cases h2
    have ha:vs[i]?=some v:=by
      unfold start at h2;rw[ZV (by simpa using hi),Zf] at h2;cases e:vs[i]? with
      | none=>rw[e] at h2; cases h2
      | some a=>rw[e] at h2; cases h2; rfl
    obtain⟨u,hu,rv⟩:=r.get ha;have hp:ps[i]?=some y:=by
      rw[<- S.pre,List.getElem?_take_of_lt (by omega)]; exact h1
    have ndP:ps.Nodup:=by rw[<- S.pre]; exact S.nd.sublist (List.take_sublist _ _)
    refine⟨u,rv,?_⟩;rcases S.par y (Zl hp) with k|k
    . exact .inl ⟨k,xha ndP hp hu k⟩
    . obtain⟨c,e⟩:=xiv (n:=s.heap.objs.size+1) k
      refine .inr ⟨.inl k,c,e,?_⟩;have q:=x.cell y c e;rw[xht ndP hp hu (by show scope.names.lookup y≠_; rw[k]; decide)] at q;exact q
  . exact e0.hok.fresh (YZ (x.above y c (JH h)))
  . unfold start
    show _=N.length;rw[Zu,Zc,QU];omega
theorem xia {CX:CXT}{P:Program}{w:World}{K:Zd}{mg:Str->Option Value}{base:Heap}{k:Nat}{f:Addr}{name qual:Str}{params:Arguments}{body:List Stmt}{scope:Scope}{dV kV doc pm cdv ct oc:Value}{an od:Option Addr}
    {osl:Array (Option Value)}{N ps:List Str}{sp:Sp} (lk:K.lookup f=some ⟨oc,od,.func (Jp name qual params body scope dV kV doc pm an cdv ct),osl⟩) (hcd:Qa K cdv qual=true) (S:xv N ps scope)
    (len:∀ vs H Q E,sp vs H Q E->vs.length=ps.length)
    (hbody:∀(A:Around) (outer:List Env) (s:Shared) (H:Hp) (vs:List V) (Q:VK) (E:XK),Room q0 k (A.deeper (envOfC qual scope s.heap.objs.size f cdv))->sp vs H Q E ->
      ∃ t,PSs (cxOf q0 CX P w K mg base N qual scope f cdv A outer s H E) body t/\t { nx:=fun _ H'=>Q .non H',rt:=Q } (start N vs) H) :
    FnOk q0 P w K mg base CX (k+1) f (Jp name qual params body scope dV kV doc pm an cdv ct) ps sp:=by
  refine⟨len,fun A outer s H args us vs Q E hr e0 hb r hsp=>?_⟩;have hl:=len _ _ _ _ hsp;have KX:K.In s.heap:=e0.mod.kin.keeps fun b o e=>(e0.bs b o e).1;have lim:s.heap.NoLimit:=e0.mod.nolimit.keeps fun b o e=>(e0.bs b o e).1;have hkind:∀ y∈ps.zip us,scope.names.lookup y.1=some .local\/(scope.names.lookup y.1=some .cell/\((cellsFrom (s.heap.objs.size+1) scope.names []).lookup y.1).isSome=true):=fun⟨n,v⟩ hy=>by
    rcases S.par n (List.of_mem_zip hy).1 with q|q
    . exact .inl q
    . exact .inr ⟨q,PySem.W.cellsFrom_some _ _ _ (.inl q)⟩
  refine codeAny_call_function hr.depth (KX _ _ lk) rfl S.co S.gen rfl (PySem.W.codeRec_of KX hcd) (hb _ _ _ _ ?_);refine wpAny_newFunctionEnv_cells S.kind hkind fun env he s1 x=>?_;subst he;refine⟨lim.keeps x.toInCall.keep,codeAny_func ?_⟩;obtain⟨t,ht,hq⟩:=hbody A outer s H vs Q E (hr.deeper _) hsp;have I:Inv (cxOf q0 CX P w K mg base N qual scope f cdv A outer s H E) [] (start N vs) H s1:=xmy S hr.hd e0 hl r x;refine ZU (ht [] s1 (start N vs) H _ I hq) (fun fl s' hs=>?_) fun e s' hs=>hs;have fin:∀{σ':St}{H':Hp}{v:V}{u:Value},Inv (cxOf q0 CX P w K mg base N qual scope f cdv A outer s H E) [] σ' H' s'->RelV v u->Q v H'->CE outer P w H s Q u s' :=
    fun {σ' H' v u} J rv q=>⟨v,H',J.os,J.bare,J.base,J.hok,rv,q⟩
  cases fl with
  | ret u =>
    obtain⟨v,σ',H',J,rv,q⟩:=hs;exact fin J rv q
  | next =>
    obtain⟨σ',H',J,q⟩:=hs;exact fin (v:=V.non) (u:=ZW) J rfl q
  | brk =>
    obtain⟨_,_,_,q⟩:=hs;exact J7 q
  | cont =>
    obtain⟨_,_,_,q⟩:=hs;exact J7 q
section
variable {X:Cx}{x:Str}{p pos:Pos}{e:Expr}{es:List Expr}{t:TA}{id T:String}{r:List V->Hp->VK->Prop}
def tCB (r:List V->Hp->VK->Prop) (t:TA):TE:=fun Z H Q=>t Z H fun vs H1=>r vs H1 Q
theorem xah (hc:xb0 X (.builtin id) r) (hg:Gl X x) (hm:X.mg x=none) (hv:bootBuiltins x=some (.builtin id)) (ha:PA X (e::es) t) (hn:x≠"__name__":=by decide) (hdb:(x == ("__debug__":Str))=false:=by decide)
    (he:starEach (e::es) X.env=(false,eval e X.env)::starEach es X.env:=by rfl) (hpl:(backTo pos (starEach es X.env)).any (·.1)=false:=by rfl):PE X (.Call (.Name x p) (e::es) [] pos) (tCB r t):=by
  intro pins s Z H Q I h;refine J8 (xcd I hg hm hv ?_ hn hdb);exact PyProof.Rows.callWith_builtin1 (thn (ha pos pins s Z H _ I h) fun us s1 ⟨vs,H1,I1,r1,q1⟩=>hc pins s1 Z H1 vs us Q I1 r1 q1) he hpl
theorem xby (hc:xb0 X (.type T) r) (hg:Gl X x) (hm:X.mg x=none) (hv:bootBuiltins x=some (.type T)) (ha:PA X (e::es) t) (hn:x≠"__name__":=by decide) (hdb:(x == ("__debug__":Str))=false:=by decide)
    (he:starEach (e::es) X.env=(false,eval e X.env)::starEach es X.env:=by rfl) (hpl:(backTo pos (starEach es X.env)).any (·.1)=false:=by rfl):PE X (.Call (.Name x p) (e::es) [] pos) (tCB r t):=by
  intro pins s Z H Q I h;refine J8 (xcd I hg hm hv ?_ hn hdb);exact Jf (thn (ha pos pins s Z H _ I h) fun us s1 ⟨vs,H1,I1,r1,q1⟩=>hc pins s1 Z H1 vs us Q I1 r1 q1) he hpl
end
end L2
namespace HT
open PySem PyProof.Rows
section
variable {prog:Program}{w:World}{A:Around}{E:Value->Shared->Prop}{s:Shared}
theorem cat_tup {t b:Addr}{vs ws:List Value}{Q:Value->Shared->Prop} (ht:IsTup s.heap t vs.toArray) (hb:IsTup s.heap b ws.toArray) (hv:vs≠[])
    (h1:ws=[]->Q (.ref t) s) (h2:ws≠[]->Q (.ref s.heap.objs.size) { s with heap:=s.heap.push { cls:=.type "tuple",data:=.seq (vs++ws).toArray } })
    (hsz:vs.length+ws.length<=sizeLine):wpAny (model prog w) A (binaryOp .Add (.ref t) (.ref b)) Q E s:=by
  obtain⟨⟨cls,dd,data,sl⟩,ho,hc,n,hd⟩:=id ht;obtain⟨⟨cls2,dd2,data2,sl2⟩,ho2,hc2,n2,hd2⟩:=id hb;simp only at hc hd hc2 hd2;subst hc hd hc2 hd2;have e:vs.toArray++ws.toArray=(vs++ws).toArray:=by simp
  by_cases hw:ws=[]
  . exact concat_meets ⟨_,ho,rfl⟩ ⟨_,ho2,rfl⟩ noFill_tuple_add seq_tuple_add PySem.F.slot_tuple_add PySem.F.entry_tuple_add (PySem.F.args_tuple_add_2 _ _)
      (tuple_addW1 t b vs.toArray ws.toArray n n2 dd dd2 sl sl2 (by simpa using hv) (by simp[hw])) ⟨ho,ho2,h1 hw⟩
  . refine concat_meets ⟨_,ho,rfl⟩ ⟨_,ho2,rfl⟩ noFill_tuple_add seq_tuple_add PySem.F.slot_tuple_add PySem.F.entry_tuple_add (PySem.F.args_tuple_add_2 _ _)
      (tuple_addW2 t b vs.toArray ws.toArray n n2 dd dd2 sl sl2 (by simpa using hv) (by simpa using hw) (by rw[Zy,Zy]; exact hsz)) ⟨ho,ho2,?_⟩
    rw[e];exact h2 hw
def sIx (n d:Nat):Option Int->Nat
 | none=>d
 | some v=>if v<0 then (v+(n:Int)).toNat else min v.toNat n
theorem sIx_none (n d:Nat):sIx n d none=d:=rfl
theorem sIx_nat (n d k:Nat):sIx n d (some (k:Int))=min k n:=by
 show (if (k:Int)<0 then ((k:Int)+(n:Int)).toNat else min (k:Int).toNat n)=min k n;rw[if_neg (by omega),Ye]
theorem xrm (n d:Nat) (hd:d<=n) (o:Option Int):sIx n d o<=n:=by
 cases o with
 | none=>exact hd
 | some v =>
  show (if v<0 then (v+(n:Int)).toNat else min v.toNat n)<=n;by_cases hv:v<0
  .rw [if_pos hv]; omega
  .rw [if_neg hv]; exact Nat.min_le_right _ _
theorem xke (v:Int) (n d:Nat):(if v<0 then max (v+(n:Int)) 0 else min v (n:Int))=((sIx n d (some v):Nat):Int):=by
 show (if v<0 then max (v+(n:Int)) 0 else min v (n:Int))=(((if v<0 then (v+(n:Int)).toNat else min v.toNat n):Nat):Int)
 by_cases hv:v<0
 .simp only [if_pos hv]; omega
 .simp only [if_neg hv]; omega
theorem xlr (lo hi:Option Int) (n:Nat):Builtin.Slice.sliceAdjust lo hi 1 (n:Int)=(((sIx n 0 lo:Nat):Int),((sIx n n hi:Nat):Int)):=by
 have h1:¬ ((1:Int)<0):=by omega
 unfold Builtin.Slice.sliceAdjust;simp only[h1,if_false];refine Prod.ext ?_ ?_
 .cases lo with
  | none=>rfl
  | some v=>exact xke v n 0
 .cases hi with
  | none=>rfl
  | some v=>exact xke v n n
theorem xk8 (i j:Nat):Builtin.Slice.slicePlaces (i:Int) (j:Int) 1=j-i:=by
 unfold Builtin.Slice.slicePlaces;have h1:(1:Int)>0:=by omega
 simp only[h1,if_true,Int.ediv_one];split<;>omega
theorem xgd {v:Value}{o:Option Int}{Q:Option Int->Shared->Prop} (p:IsPart v o) (h:Q o s):wpAny (model prog w) A (Builtin.Slice.slicePartIndex v) Q E s:=by
 cases p with
 | none=>exact slicePart_none h
 | int i t=>exact slicePart_int h
theorem xf1 {sl:Addr}{vl vu:Value}{lo hi:Option Int}{n:Nat}{Q:Int × Int × Nat->Shared->Prop} (hs:s.heap.IsSliceOf sl vl vu .none) (pl:IsPart vl lo) (pu:IsPart vu hi)
    (h:Q (((sIx n 0 lo:Nat):Int),1,sIx n n hi-sIx n 0 lo) s):wpAny (model prog w) A (Builtin.Slice.sliceApplied (.ref sl) (pure (n:Int))) Q E s:=by
  obtain⟨os,hos,hcs,hds⟩:=id hs;unfold Builtin.Slice.sliceApplied Builtin.Slice.sliceFields;refine Zb (Zb (Ya hos hds (x:=vl) rfl (Zb (Ya hos hds (x:=vu) rfl (Zb (Ya hos hds (x:=.none) rfl (Zg ?_)))))));refine Zb (slicePart_none ?_);show wpAny _ _ (if ((1:Int) == 0)=true then _ else _) _ _ s;rw[if_neg (by decide)];refine Zb (xgd pl (Zb (xgd pu (Zb (Zg ?_)))));show wpAny _ _ (match Builtin.Slice.sliceAdjust lo hi 1 (n:Int) with|(lo,hi)=>pure (lo,(1:Int),Builtin.Slice.slicePlaces lo hi 1)) _ _ s;rw[xlr lo hi n];show wpAny _ _ (pure (((sIx n 0 lo:Nat):Int),(1:Int),Builtin.Slice.slicePlaces ((sIx n 0 lo:Nat):Int) ((sIx n n hi:Nat):Int) 1)) _ _ s;rw[xk8];exact Zg h
theorem xn4 (xs:Array Value) (i k:Nat):((ZI k).filterMap fun (m:Nat)=>xs[((i:Int)+(m:Int)*1).toNat]?).toArray=((xs.toList.drop i).take k).toArray:=by
 have e:(fun (m:Nat)=>xs[((i:Int)+(m:Int)*1).toNat]?)=fun m=>xs[i+m]?:=by
  funext m;have:((i:Int)+(m:Int)*1).toNat=i+m:=by omega
  rw[this]
 rw[e];have:=pick_run xs i k;rw[Wi] at this;have e2:((fun x=>xs[x]?)∘fun x=>i+x)=fun m=>xs[i+m]?:=rfl;rw[e2] at this;rw[this]
theorem getItem_tuple_cut {t sl:Addr}{items:Array Value}{vl vu:Value}{lo hi:Option Int}{Q:Value->Shared->Prop} (ht:IsTup s.heap t items) (hs:s.heap.IsSliceOf sl vl vu .none) (pl:IsPart vl lo) (pu:IsPart vu hi)
    (hw:¬ (sIx items.size 0 lo=0/\sIx items.size items.size hi=items.size))
    (h:Q (.ref s.heap.objs.size) { s with heap:=s.heap.push { cls:=.type "tuple",data:=.seq ((items.toList.drop (sIx items.size 0 lo)).take (sIx items.size items.size hi-sIx items.size 0 lo)).toArray } })
    (hsz:items.size<=sizeLine):wpAny (model prog w) A (getItem (.ref t) (.ref sl)) Q E s:=by
  have htake:sizeOk (.seq ((items.toList.drop (sIx items.size 0 lo)).take (sIx items.size items.size hi-sIx items.size 0 lo)).toArray):=by
    show ((items.toList.drop (sIx items.size 0 lo)).take (sIx items.size items.size hi-sIx items.size 0 lo)).toArray.size<=sizeLine;rw[Zy,JA,List.length_drop,Jm];omega
  have hj:sIx items.size items.size hi<=items.size:=xrm _ _ (Zi _) hi;obtain⟨os,hos,hcs,hds⟩:=id hs;have hTs:s.TypeIs (.ref sl) "slice":=⟨os,hos,hcs⟩
  unfold getItem
  try with_reducible refine Jk ?_
  first|refine Zb (Zg ?_)|skip
  refine Zb (wpAny_sequenceKey ht.typeIs (by decide) ?_);refine Zb (JB (name:=Zn "__getitem__") ht.typeIs Qc
    (Ji Qc ht.typeIs entry_tuple_getitem ?_ (args_tuple_getitem _ _)))
  show wpAny _ _ (Builtin.Tuple.tupleItemsOf (.ref t)>>=_) _ _ s;refine Zb (tupleItemsOf_ ht ?_);refine Zb (Qz hTs ?_);rw[if_pos (by decide)];refine Zb (xf1 hs pl pu ?_);have hno:¬ ((((sIx items.size 0 lo:Nat):Int) == 0&&(1:Int) == 1&&(sIx items.size items.size hi-sIx items.size 0 lo) == items.size)=true):=by
    intro q;rw[ZM,ZM] at q;have q1:((sIx items.size 0 lo:Nat):Int)=0:=QG q.1.1;have q2:sIx items.size items.size hi-sIx items.size 0 lo=items.size:=QG q.2;exact hw ⟨by omega,by omega⟩
  show wpAny _ _ (if (((sIx items.size 0 lo:Nat):Int) == 0&&(1:Int) == 1&&(sIx items.size items.size hi-sIx items.size 0 lo) == items.size)=true then _ else _) _ _ s;rw[if_neg hno,xn4]
  first
    | exact Zb (m:=Builtin.Tuple.tupleExact _) (JR (Zg ⟨_,rfl,Zg h⟩) htake)
    | exact Zb (m:=Builtin.Tuple.tupleExact _) (JR (Zb (Zg (Zg ⟨_,rfl,Zg h⟩))) htake)
    | exact Zb (Zb (m:=Builtin.Tuple.tupleExact _) (JR (Zg (Zg ⟨_,rfl,Zg h⟩)) htake))
    | exact Zb (Zb (m:=Builtin.Tuple.tupleExact _) (JR (Zg ⟨_,rfl,Zg h⟩) htake))
end
end HT
namespace L2
open PySem PySem.Spec PyProof.Rows
variable {q0:Bool}
abbrev TO:=St->Hp->(Option Int->Hp->Prop)->Prop
def PO (X:Cx) (e:Option Expr) (t:TO):Prop :=
 ∀(pins:List (Addr × Obj)) (s:Shared) (Z:St) (H:Hp) (Q:Option Int->Hp->Prop),Inv X pins Z H s->t Z H Q ->
  wpAny (model X.prog X.w) X.A (evalPart e X.env) (fun u s'=>∃ o H',Inv X pins Z H' s'/\IsPart u o/\Q o H') X.xe s
def xql:TO:=fun _ H Q=>Q none H
def xty (t:TE):TO:=fun Z H Q=>t Z H fun x H1=>∃ i,x=.int i/\Q (some i) H1
section
variable {X:Cx}{e:Expr}{te:TE}{lo hi:Option Expr}{tl th:TO}{pos p2:Pos}
theorem xkn:PO X none xql:=by
 intro pins s Z H Q I h;rw[evalPart_none];exact Zg ⟨none,H,I,.none,h⟩
theorem xkc (h:PE X e te):PO X (some e) (xty te):=by
 intro pins s Z H Q I hw;rw[evalPart_some];refine thn (h pins s Z H _ I hw) fun u s1 ⟨x,H1,I1,r1,q1⟩=>?_;obtain⟨i,rfl,q⟩:=q1;obtain⟨t,rfl⟩:=r1;exact⟨some i,H1,I1,.int i t,q⟩
def SlR (X:Cx) (r:V->Option Int->Option Int->Hp->VK->Prop):Prop :=
 ∀(pins:List (Addr × Obj)) (s:Shared) (Z:St) (H:Hp) (x:V) (v vl vu:Value) (lo hi:Option Int) (sl:Addr) (Q:VK),Inv X pins Z H s->RelV x v->s.heap.IsSliceOf sl vl vu .none->IsPart vl lo->IsPart vu hi->r x lo hi H Q ->
  ∃ T id,typeLookup (.type T) "__getitem__"=pure (some (.builtin id))/\s.TypeIs v T/\wpAny (model X.prog X.w) X.A (getItem v (.ref sl)) (EP X pins Z Q) X.xe s
def tSl (r:V->Option Int->Option Int->Hp->VK->Prop) (te:TE) (tl th:TO):TE:=fun Z H Q=>te Z H fun x H1=>tl Z H1 fun l H2=>th Z H2 fun u H3=>r x l u H3 Q
theorem xii {r:V->Option Int->Option Int->Hp->VK->Prop} (hr:SlR X r) (he:PE X e te) (hl:PO X lo tl) (hu:PO X hi th):PE X (.Subscript e (.Slice lo hi none p2) pos) (tSl r te tl th):=by
 intro pins s Z H Q I h;refine Subscript_ (thn (he pins s Z H _ I h) fun v s1 ⟨x,H1,I1,r1,q1⟩=>?_);refine wpAny_Slice (thn (hl pins s1 Z H1 _ I1 q1) fun vl s2 ⟨l,H2,I2,pl,q2⟩=>thn (hu pins s2 Z H2 _ I2 q2) fun vu s3 ⟨u,H3,I3,pu,q3⟩=>?_);rw[evalPart_none];refine Zg ?_;have I4:Inv X pins Z H3 { s3 with heap:=s3.heap.push { cls:=.type "slice",data:=.fields #[vl,vu,.none] } }:=I3.kept (t':=s3.toks) fun b ob q=>Ze _ q;obtain⟨T,id,hT,ht,hg⟩:=hr pins { s3 with heap:=s3.heap.push { cls:=.type "slice",data:=.fields #[vl,vu,.none] } } Z H3 x v vl vu l u s3.heap.objs.size Q I4 r1 (Heap.IsSliceOf.new ..) pl pu q3;show wpAny (model X.prog X.w) X.A (subscriptTail e (.Slice lo hi none p2) v (.ref s3.heap.objs.size)) (EP X pins Z Q) X.xe { s3 with heap:=s3.heap.push { cls:=.type "slice",data:=.fields #[vl,vu,.none] } };exact tail_any (ops:=[.ref s3.heap.objs.size,v]) ht hT hg (by with_unfolding_all rfl)
def cutV (xs:List V) (lo hi:Option Int):List V:=(xs.drop (HT.sIx xs.length 0 lo)).take (HT.sIx xs.length xs.length hi-HT.sIx xs.length 0 lo)
theorem xfq (xs:List V) (lo hi:Option Int):(cutV xs lo hi).length<=xs.length:=by
 unfold cutV;rw[JA,List.length_drop];omega
def rSlT (K:Zd):V->Option Int->Option Int->Hp->VK->Prop:=fun x lo hi H Q=>∃ a xs,x=.ref a/\SqT K H a xs /\
 ¬ (HT.sIx xs.length 0 lo=0/\HT.sIx xs.length xs.length hi=xs.length)/\∀ p,H p=none->Q (.ref p) (upd H p (.tup (cutV xs lo hi)))
theorem xs6:SlR X (rSlT X.K):=by
 intro pins s Z H x v vl vu lo hi sl Q I rx hs pl pu h;obtain⟨a,xs,rfl,hx,hw,q⟩:=h;cases rx;obtain⟨its,r,ht,hz⟩:=I.tuple hx;have hlen:its.toArray.size=xs.length:=by rw[Zy]; exact r.length.symm
 refine⟨"tuple",_,Qc.lookup,ht.typeIs,?_⟩;refine HT.getItem_tuple_cut ht hs pl pu (by rw[hlen]; exact hw) ?_ (by rw[hlen]; exact hz);rw[hlen];refine⟨.ref s.heap.objs.size,_,I.laid (t':=s.toks) (o:=.tup (cutV xs lo hi)) (fun b ob q=>Ze _ q) (Zi _) ?_,rfl,q _ (I.hok.fresh (Zi _))⟩;exact⟨Z6 (xfq xs lo hi) hz,_,(r.drop (HT.sIx xs.length 0 lo)).take (HT.sIx xs.length xs.length hi-HT.sIx xs.length 0 lo),IsTup.new _ _⟩
inductive xk9 (K:Zd) (x:V) (y:V) (H:Hp) (Q:VK):Prop
 | mk (a b xs ys) (e_:x=.ref a) (r_:y=.ref b/\SqT K H a xs/\SqT K H b ys/\xs≠[]/\xs.length+ys.length<=sizeLine/\(ys=[]->Q (.ref a) H)/\(ys≠[]->∀ p,H p=none->Q (.ref p) (upd H p (.tup (xs++ys)))))
theorem Vals.nil_iff {xs:List V}{us:List Value} (r:Vals xs us):us=[]↔xs=[]:=by
 cases r with
 | nil=>simp
 | cons _ _=>simp
theorem xkl:OpR X (binaryOp .Add) (xk9 X.K):=by
 intro pins s Z H x y v u Q I rx ry h;obtain⟨a,b,xs,ys,rfl,rfl,ha,hb,hx,hz,q1,q2⟩:=h;cases rx;cases ry;obtain⟨its,r1,p1,_⟩:=I.tuple ha;obtain⟨its2,r2,p2,_⟩:=I.tuple hb;refine HT.cat_tup p1 p2 (fun z=>hx (r1.nil_iff.mp z)) (fun z=>⟨.ref a,H,I,rfl,q1 (r2.nil_iff.mp z)⟩) (fun z=>?_) (by rw[<- r1.length,<- r2.length]; exact hz);refine⟨.ref s.heap.objs.size,_,I.laid (t':=s.toks) (o:=.tup (xs++ys)) (fun b ob q=>Ze _ q) (Zi _) ?_,rfl,q2 (fun w=>z (r2.nil_iff.mpr w)) _ (I.hok.fresh (Zi _))⟩;exact⟨by rw[Zu]; exact hz,_,r1.append r2,IsTup.new _ _⟩
end
def ixN (n:Nat) (i:Int):Option Nat:=if 0<=i then (if i<n then some i.toNat else none) else if -(n:Int)<=i then some (i+n).toNat else none
def atI {α:Type} (xs:List α) (i:Int):Option α:=(ixN xs.length i).bind fun j=>xs[j]?
theorem xq5 {n:Nat}{i:Int}{j:Nat} (h:ixN n i=some j):seqIndex? i n=some j/\j<n/\-(n:Int)<=i/\i<n:=by
 unfold ixN at h;by_cases h0:0<=i
 .rw [if_pos h0] at h;by_cases h1:i<n
  .rw [if_pos h1] at h;have e:i.toNat=j:=ZN.inj h;exact⟨by rw[seqIndex_of h0 h1,e],by omega,by omega,h1⟩
  .rw [if_neg h1] at h; cases h
 .rw [if_neg h0] at h;by_cases h1:-(n:Int)<=i
  .rw [if_pos h1] at h;have e:(i+n).toNat=j:=ZN.inj h;exact⟨by rw[seqIndex_neg (by omega) h1,e],by omega,h1,by omega⟩
  .rw [if_neg h1] at h; cases h
theorem xg4 {α:Type}{xs:List α}{i:Int}{v:α} (h:atI xs i=some v):∃ j,seqIndex? i xs.length=some j/\xs[j]?=some v/\j<xs.length/\-(xs.length:Int)<=i/\i<xs.length:=by
 unfold atI at h;cases e:ixN xs.length i with
 | none=>rw[e] at h; cases h
 | some j =>
  rw[e] at h;obtain⟨h1,h2,h3,h4⟩:=xq5 e;exact⟨j,h1,h,h2,h3,h4⟩
theorem xcx {α:Type}{xs:List α}{j:Nat}{v:α} (h:xs[j]?=some v):atI xs (j:Int)=some v:=by
 have hj:j<xs.length:=(Zh.mp h).1;have e:ixN xs.length (j:Int)=some j:=by
  unfold ixN;rw[if_pos (by omega),if_pos (by omega)]; simp
 unfold atI; rw[e]; exact h
def xqv (b:Expr):Prop:=∀ o i,subscripted b false o i=operate [o,i] (getItem o i)
def IxR (X:Cx) (r:R2):Prop :=
 ∀(value slice:Expr) (pins:List (Addr × Obj)) (s:Shared) (Z:St) (H:Hp) (x y:V) (v u:Value) (Q:VK),Inv X pins Z H s->RelV x v->RelV y u->r x y H Q ->
  subscripted slice false v u=operate [v,u] (getItem v u)->wpAny (model X.prog X.w) X.A (subscriptTail value slice v u) (EP X pins Z Q) X.xe s
def MtR (X:Cx) (id:String) (r:V->List V->Hp->VK->Prop):Prop :=
 ∀(pins:List (Addr × Obj)) (s:Shared) (Z:St) (H:Hp) (x:V) (xs:List V) (v:Value) (us:List Value) (Q:VK),Inv X pins Z H s->RelV x v->Vals xs us->r x xs H Q ->
  wpAny (model X.prog X.w) X.A (call (.builtin id) (v::us)) (EP X pins Z Q) X.xe s
section
variable {X:Cx}{a b:Expr}{ta tb:TE}{pos:Pos}
theorem xbc {r:R2} (hr:IxR X r) (ha:PE X a ta) (hb:PE X b tb) (hs:xqv b):PE X (.Subscript a b pos) (tOp r ta tb):=by
 intro pins s Z H Q I h;exact Subscript_ (binT ha hb I h fun v u s2 x y H2 I2 rx ry q=>hr a b pins s2 Z H2 x y v u Q I2 rx ry q (hs _ _))
inductive rIxL (K:Zd) (x:V) (y:V) (H:Hp) (Q:VK):Prop
 | mk (p xs i v) (e_:x=.ref p) (r_:y=.int i/\SqL K H p xs/\atI xs i=some v/\Q v H)
inductive rIxT (K:Zd) (x:V) (y:V) (H:Hp) (Q:VK):Prop
 | mk (p xs i v) (e_:x=.ref p) (r_:y=.int i/\SqT K H p xs/\atI xs i=some v/\Q v H)
inductive rIxS (x:V) (y:V) (H:Hp) (Q:VK):Prop
 | mk (z i c) (e_:x=.str z) (r_:y=.int i/\z.length<=sizeLine/\atI z.cps.toList i=some c/\Q (.str ⟨#[c]⟩) H)
theorem xbx:IxR X (rIxL X.K):=by
 intro value slice pins s Z H x y v u Q I rx ry h hs;obtain⟨p,xs,i,z,rfl,rfl,hq,he,q⟩:=h;cases rx;obtain⟨t,rfl⟩:=ry;obtain⟨its,r,pl,hz⟩:=I.list hq;obtain⟨j,h1,h2,h3,h4,h5⟩:=xg4 he;obtain⟨w,ew,rw'⟩:=r.get h2;have hl:=r.length;have hn:=xeh;have fin:EP X pins Z Q w s:=⟨z,H,I,rw',q⟩
 by_cases h0:0<=i
 .have hj:i.toNat=j:=by
   rw[seqIndex_of h0 h5] at h1;exact ZN.inj h1
  exact item_listR pl.isList h0 (by omega) (by rw[hj]; simpa using ew) fin hs
 .have hj:(i+(its.toArray.size:Int)).toNat=j:=by
   rw[seqIndex_neg (by omega) h4] at h1;rw[Zy,<- hl];exact ZN.inj h1
  exact subscriptTail_builtinR (x:=w) pl.isList.typeIs slot_list_getitem.lookup
   (wpAny_getItem_list_neg (Q:=fun r s'=>r=w/\EP X pins Z Q r s') pl.isList (by omega) (by rw[Zy]<;>omega) (by omega) (by rw[hj]; simpa using ew) ⟨rfl,fin⟩) hs
theorem xb4:IxR X (rIxT X.K):=by
 intro value slice pins s Z H x y v u Q I rx ry h hs;obtain⟨p,xs,i,z,rfl,rfl,hq,he,q⟩:=h;cases rx;obtain⟨t,rfl⟩:=ry;obtain⟨its,r,pl,hz⟩:=I.tuple hq;obtain⟨j,h1,h2,h3,h4,h5⟩:=xg4 he;obtain⟨w,ew,rw'⟩:=r.get h2;have hl:=r.length;have hn:=xeh;have fin:EP X pins Z Q w s:=⟨z,H,I,rw',q⟩
 exact subscriptTail_builtinR (x:=w) pl.typeIs slot_tuple_getitem.lookup
  (getItem_tuple (j:=j) (Q:=fun r s'=>r=w/\EP X pins Z Q r s') pl (by omega) (by omega) (by rw[Zy,<- hl]; exact h1) (by simpa using ew) ⟨rfl,fin⟩) hs
theorem xr4:IxR X rIxS:=by
 intro value slice pins s Z H x y v u Q I rx ry h hs;obtain⟨z,i,c,rfl,rfl,hz,he,q⟩:=h;obtain⟨t,rfl⟩:=rx;obtain⟨t',rfl⟩:=ry;obtain⟨j,h1,h2,h3,h4,h5⟩:=xg4 he;have hl:z.cps.toList.length=z.length:=by simp[Str.length]
 rw[hl] at h1 h4 h5;have hn:=xeh;exact tail_any (typeIs_str s z t) slot_str_getitem.lookup (getItem_str (c:=c) (by
  have e1:decide (i < -(2 ^ 63:Int))=false:=decide_eq_false (by omega);have e2:decide (i>=2 ^ 63)=false:=decide_eq_false (by omega);rw[e1,e2,Bool.or_false]) (by rw[h1]; simpa using h2) ⟨.str ⟨#[c]⟩,H,I.tok _,⟨_,rfl⟩,q⟩) hs
theorem Inv.lst {pins:List (Addr × Obj)}{Z:St}{H:Hp}{s:Shared}{p:Addr}{xs:List V} (I:Inv X pins Z H s) (h:H p=some (.lst xs)) :
    ∃(its:List Value) (n:Nat),Vals xs its/\s.heap.get? p=some { cls:=.type "list",data:=.seq its.toArray n }/\xs.length<=sizeLine:=by
  obtain⟨z,its,n,r,e⟩:=I.hok p _ h;exact⟨its,n,r,e,z⟩
theorem xiy (lo hi:Option Int) (n:Nat):(sliceBounds lo hi none n).1=((HT.sIx n 0 lo:Nat):Int)/\(sliceBounds lo hi none n).2.1=((HT.sIx n n hi:Nat):Int)/\(sliceBounds lo hi none n).2.2=1:=by
 refine⟨?_,?_,rfl⟩
 .cases lo with
  | none=>simp[sliceBounds,HT.sIx]
  | some i =>
   simp only[sliceBounds,HT.sIx,Option.getD_none,show (1:Int)>0 by decide,if_true];by_cases h:i<0
   .simp only [h,if_true]<;>omega
   .simp only [h,if_false]<;>omega
 .cases hi with
  | none=>simp[sliceBounds,HT.sIx]
  | some i =>
   simp only[sliceBounds,HT.sIx,Option.getD_none,show (1:Int)>0 by decide,if_true];by_cases h:i<0
   .simp only [h,if_true]<;>omega
   .simp only [h,if_false]<;>omega
theorem xh2 (its:List Value) (lo hi:Option Int):slicePick its.toArray lo hi none=((its.drop (HT.sIx its.length 0 lo)).take (HT.sIx its.length its.length hi-HT.sIx its.length 0 lo)).toArray:=by
 obtain⟨h1,h2,h3⟩:=xiy lo hi its.toArray.size;unfold slicePick;rw[h1,h2,h3];simp only[sliceRange_one,pick_run,Zy]<;>rfl
def rSlL (K:Zd):V->Option Int->Option Int->Hp->VK->Prop:=fun x lo hi H Q=>∃ a xs,x=.ref a/\SqL K H a xs/\∀ p,H p=none->Q (.ref p) (upd H p (.lst (cutV xs lo hi)))
theorem xp4:SlR X (rSlL X.K):=by
 intro pins s Z H x v vl vu lo hi sl Q I rx hs pl pu h;obtain⟨a,xs,rfl,hx,q⟩:=h;cases rx;obtain⟨its,r,ht,hz⟩:=I.list hx;have hlen:=r.length;refine⟨"list",_,slot_list_getitem.lookup,ht.isList.typeIs,?_⟩;refine wpAny_getItem_list_slice ht.isList hs pl pu .none (by simp) ?_ (by rw[Zy]<;>omega);rw[xh2,<- hlen];refine⟨.ref s.heap.objs.size,_,I.laid (t':=s.toks) (o:=.lst (cutV xs lo hi)) (fun b ob q=>Ze _ q) (Zi _) ?_,rfl,q _ (I.hok.fresh (Zi _))⟩;exact⟨Z6 (xfq xs lo hi) hz,_,0,(r.drop (HT.sIx xs.length 0 lo)).take (HT.sIx xs.length xs.length hi-HT.sIx xs.length 0 lo),Zo _ rfl⟩
def xd4:V->Bool
 | .non=>true
 | .bl _=>true
 | .int _=>true
 | .str _=>true
 | _=>false
def eqV:V->V->Bool
 | .non,.non=>true
 | .bl a,.bl b=>a == b
 | .bl a,.int b=>(if a then 1 else 0) == b
 | .int a,.bl b=>a == (if b then 1 else 0)
 | .int a,.int b=>a == b
 | .str a,.str b=>a == b
 | _,_=>false
theorem xro {A:Around}{s:Shared}{y x:V}{u v:Value} (ry:RelV y u) (rx:RelV x v) (fy:xd4 y=true) (fx:xd4 x=true):Zv A s u v (eqV y x):=by
 cases y with
 | non =>
  cases ry;cases x with
  | non=>cases rx; exact Zv.same _
  | bl b=>cases rx; exact Zv.none_bool b
  | int b=>obtain⟨t,rfl⟩:=rx; exact Zv.none_int b t
  | str b=>obtain⟨t,rfl⟩:=rx; exact Zv.none_str b t
  | _=>exact absurd (show false=true from fx) Z1
 | bl a =>
  cases ry;cases x with
  | non=>cases rx; exact Zv.bool_none a
  | bl b=>cases rx; exact Zv.bool_bool a b
  | int b=>obtain⟨t,rfl⟩:=rx; exact Zv.bool_int a b t
  | str b=>obtain⟨t,rfl⟩:=rx; exact Zv.bool_str a b t
  | _=>exact absurd (show false=true from fx) Z1
 | int a =>
  obtain⟨t',rfl⟩:=ry;cases x with
  | non=>cases rx; exact Zv.int_none a t'
  | bl b=>cases rx; exact Zv.int_bool a t' b
  | int b=>obtain⟨t,rfl⟩:=rx; exact Zv.int_int a t' b t
  | str b=>obtain⟨t,rfl⟩:=rx; exact Zv.int_str a t' b t
  | _=>exact absurd (show false=true from fx) Z1
 | str a =>
  obtain⟨t',rfl⟩:=ry;cases x with
  | non=>cases rx; exact Zv.str_none a t'
  | bl b=>cases rx; exact Zv.str_bool a t' b
  | int b=>obtain⟨t,rfl⟩:=rx; exact Zv.str_int a t' b t
  | str b=>obtain⟨t,rfl⟩:=rx; exact Zv.str_str a t' b t
  | _=>exact absurd (show false=true from fx) Z1
 | _=>exact absurd (show false=true from fy) Z1
def eqU (x:V) (u:Value):Bool:=match u with
 | .none=>eqV .non x
 | .bool b=>eqV (.bl b) x
 | .int i _=>eqV (.int i) x
 | .str z _=>eqV (.str z) x
 | _=>false
theorem xnr {x y:V}{u:Value} (r:RelV y u) (f:xd4 y=true):eqU x u=eqV y x:=by
 cases y with
 | non=>cases r; rfl
 | bl b=>cases r; rfl
 | int i=>obtain⟨t,rfl⟩:=r; rfl
 | str z=>obtain⟨t,rfl⟩:=r; rfl
 | _=>exact absurd (show false=true from f) Z1
theorem xg5 {x:V}:∀{xs:List V}{us:List Value},Vals xs us->xs.all xd4=true->us.any (eqU x)=xs.any fun y=>eqV y x
 | _,_,.nil,_=>rfl
 | y::xs,u::us,.cons r t,f=>by
  rw[Qm,ZM] at f;rw[Yj,Yj,xnr r f.1,xg5 t f.2]
theorem xfw {A:Around}{s:Shared}{x:V}{v:Value} (rx:RelV x v) (fx:xd4 x=true):∀{xs:List V}{us:List Value},Vals xs us->xs.all xd4=true->∀ u∈us,Zv A s u v (eqU x u)
 | _,_,.nil,_=>fun u hu=>by cases hu
 | y::xs,u::us,.cons r t,f=>fun u' hu=>by
  rw[Qm,ZM] at f;rcases Zz.mp hu with rfl|hu
  .rw [xnr r f.1]; exact xro r rx f.1 fx
  .exact xfw rx fx t f.2 u' hu
def inV (x:V) (xs:List V):Bool:=xs.any fun y=>eqV y x
inductive rIn (K:Zd) (neg:Bool) (x:V) (y:V) (H:Hp) (Q:VK):Prop
 | mk (p xs) (e_:y=.ref p) (r_:(SqL K H p xs\/SqT K H p xs)/\xd4 x=true/\xs.all xd4=true/\Q (.bl (if neg then !inV x xs else inV x xs)) H)
theorem xhv:OpR X (compareOp .In) (rIn X.K false):=by
 intro pins s Z H x y v u Q I rx ry h;obtain⟨p,xs,rfl,hq,fx,fs,q⟩:=h;cases ry;rcases hq with hq|hq
 .obtain ⟨its,r,pl,hz⟩:=I.list hq;refine SeqAt.in_listAt (eqU x) pl.isList (fun w hw=>xfw rx fx r fs w (by simpa using hw)) ⟨.bl _,H,I,rfl,?_⟩;rw[show its.toArray.any (eqU x)=its.any (eqU x) by simp,xg5 r fs];exact q
 .obtain ⟨its,r,pl,hz⟩:=I.tuple hq;refine SeqAt.in_tupleAt (eqU x) pl (fun w hw=>xfw rx fx r fs w (by simpa using hw)) ⟨.bl _,H,I,rfl,?_⟩;rw[show its.toArray.any (eqU x)=its.any (eqU x) by simp,xg5 r fs];exact q
theorem xba:xb0 X (.builtin "len") (fun xs H Q=>∃ p ys,xs=[.ref p]/\(SqL X.K H p ys\/SqT X.K H p ys)/\Q (.int ys.length) H):=by
 intro pins s Z H xs us Q I r h;obtain⟨p,ys,rfl,hq,q⟩:=h;obtain⟨u,rfl,rx⟩:=xcb r;cases rx;have hn:=xeh;rcases hq with hq|hq
 .obtain ⟨its,r',pl,hz⟩:=I.list hq;have hlen:=r'.length;exact Calls.call_len_list pl.isList (by simp only[Zy]<;>omega) ⟨.int ys.length,H,I.tok _,⟨s.toks+1,by rw[Zy,hlen]⟩,q⟩
 .obtain ⟨its,r',pl,hz⟩:=I.tuple hq;have hlen:=r'.length;exact len_tuple pl (by simp only[Zy]<;>omega) ⟨.int ys.length,H,I.tok _,⟨s.toks+1,by rw[Zy,hlen]⟩,q⟩
theorem xi6:xb0 X (.builtin "len") (fun xs H Q=>∃ z,xs=[.str z]/\z.length<=sizeLine/\Q (.int z.length) H):=by
 intro pins s Z H xs us Q I r h;obtain⟨z,rfl,hz,q⟩:=h;obtain⟨u,rfl,t,rfl⟩:=xcb r;have hn:=xeh;exact len_str (by omega) ⟨.int z.length,H,I.tok _,⟨_,rfl⟩,q⟩
theorem xe7:xb0 X (.type "list") (fun xs H Q=>∃ p ys,xs=[.ref p]/\(SqL X.K H p ys\/SqT X.K H p ys)/\∀ l,H l=none->Q (.ref l) (upd H l (.lst ys))):=by
  intro pins s Z H xs us Q I r h;obtain⟨p,ys,rfl,hq,q⟩:=h;obtain⟨u,rfl,rx⟩:=xcb r;cases rx;have fin:∀(its:List Value),Vals ys its->ys.length<=sizeLine->∀(h':Heap) (c':Nat),(∀ b o',s.heap.get? b=some o'->h'.get? b=some o') ->
      h'.get? s.heap.objs.size=some { cls:=.type "list",dict:=none,data:=.seq its.toArray c',slots:=#[] }->EP X pins Z Q (.ref s.heap.objs.size) { s with heap:=h' }:=fun its r' hz h' c' kp e =>
    ⟨.ref s.heap.objs.size,_,I.laid (t':=s.toks) kp (Zi _) (show xap X.prog X.w _ h' _ (.lst ys) from ⟨hz,its,c',r',e⟩),rfl,q _ (I.hok.fresh (Zi _))⟩
  rcases hq with hq|hq
  . obtain⟨its,r',pl,hz⟩:=I.list hq
    have hlen:=r'.length;obtain⟨o,ho,hc,n,hd⟩:=pl.isList;exact call_list_seq p (.inl rfl) ho hc hd (fun h' c' kp e=>fin its r' hz h' c' kp e) (by simp only[Zy]<;>omega)
  . obtain⟨its,r',pl,hz⟩:=I.tuple hq
    have hlen:=r'.length;obtain⟨o,ho,hc,n,hd⟩:=pl;exact call_list_seq p (.inr rfl) ho hc hd (fun h' c' kp e=>fin its r' hz h' c' kp e) (by simp only[Zy]<;>omega)
def tyV (K:Zd) (T:String) (x:V) (H:Hp):Prop:=match x with
  | .str _=>T="str"
  | .int _=>T="int"
  | .ref p=>(T="list"/\∃ xs,SqL K H p xs)\/(T="tuple"/\∃ o,K.lookup p=some o/\o.cls=.type "tuple"/\o.dict=none) \/
      (T="dict"/\((∃ kvs,H p=some (.dK kvs))\/∃ kvs,H p=some (.dT kvs)))\/(T="set"/\∃ S n,H p=some (.set S n))
  | _=>False
theorem xnp {pins:List (Addr × Obj)}{Z:St}{H:Hp}{s:Shared}{T:String}{x:V}{v:Value} (I:Inv X pins Z H s) (r:RelV x v) (ty:tyV X.K T x H) :
    s.TypeIs v T/\∀ a,v=.ref a->∃ ob,s.heap.get? a=some ob/\ob.dict=none:=by
  cases x with
  | str z =>
    obtain⟨t,rfl⟩:=r;cases (show T="str" from ty);exact⟨typeIs_str s z t,fun _ e=>nomatch e⟩
  | int i =>
    obtain⟨t,rfl⟩:=r;cases (show T="int" from ty);exact⟨typeIs_int s i t,fun _ e=>nomatch e⟩
  | ref p =>
    cases r;rcases ty with⟨rfl,xs,hq⟩|⟨rfl,o,hk,hc,hd⟩|⟨rfl,hk⟩|⟨rfl,S,n,hk⟩
    . obtain⟨its,_,pl,_⟩:=I.list hq
      refine⟨pl.isList.typeIs,fun a e=>?_⟩;cases e;obtain⟨o,n,e,c,hd,_⟩:=pl;exact⟨o,e,hd⟩
    . refine⟨⟨o,I.kIn p o hk,hc⟩,fun a e=>?_⟩
      cases e;exact⟨o,I.kIn _ o hk,hd⟩
    . have z:∃ o,s.heap.get? p=some o/\o.ExactDict:=by
        rcases hk with⟨kvs,hk⟩|⟨kvs,hk⟩
        . obtain⟨_,_,_,_,o,_,_,e,ex,_⟩:=I.hok p _ hk
          exact⟨o,e,ex⟩
        . obtain⟨_,_,_,_,o,_,_,e,ex,_⟩:=I.hok p _ hk
          exact⟨o,e,ex⟩
      obtain⟨o,e,ex⟩:=z;refine⟨⟨o,e,ex.1⟩,fun a e2=>?_⟩;cases e2;exact⟨o,e,ex.2.1⟩
    . obtain⟨o,_,_,_,e,ex,_⟩:=I.hok p _ hk
      refine⟨⟨o,e,ex.1⟩,fun a e2=>?_⟩;cases e2;exact⟨o,e,ex.2.1⟩
  | _=>exact J7 ty
def tBM0 (K:Zd) (T:String) (r:V->List V->Hp->VK->Prop) (to:TE):TE:=fun Z H Q=>to Z H fun x H1=>tyV K T x H1/\r x [] H1 Q
def tBM (K:Zd) (T:String) (r:V->List V->Hp->VK->Prop) (to:TE) (t:TA):TE:=fun Z H Q=>to Z H fun x H1=>tyV K T x H1/\t Z H1 fun xs H2=>r x xs H2 Q
variable {o e:Expr}{es:List Expr}{to:TE}{t:TA}{name:Str}{apos cpos:Pos}{T id:String}{r:V->List V->Hp->VK->Prop}
theorem xmx (pa:PlainAttrs T) (slot:Slot T name id) (hty:typeOf (.builtin id)=pure (.type "method_descriptor")) (hm:MtR X id r) (ho:PE X o to)
    (hbase:attributeBase o name X.env (eval o X.env)=eval o X.env:=by rfl) (hline:(apos.endLine == cpos.line)=true:=by rfl):PE X (.Call (.Attribute o name apos) [] [] cpos) (tBM0 X.K T r to):=by
  intro pins s Z H Q I h;refine JS hbase hline (thn (ho pins s Z H _ I h) fun v s1 ⟨x,H1,I1,r1,ty,q1⟩=>?_);obtain⟨h1,h2⟩:=xnp I1 r1 ty;exact⟨T,id,pa,slot,hty,h1,h2,ZZ rfl (JV (hm pins s1 Z H1 x [] v [] Q I1 r1 .nil q1))⟩
theorem xfm (pa:PlainAttrs T) (slot:Slot T name id) (hty:typeOf (.builtin id)=pure (.type "method_descriptor")) (hm:MtR X id r) (ho:PE X o to) (ha:PA X (e::es) t)
    (hbase:attributeBase o name X.env (eval o X.env)=eval o X.env:=by rfl)
    (hfew:((backTo cpos (starEach (e::es) X.env)).all (fun x=>!x.1)&&(backToKw cpos (keywordEach [] X.env)).all (fun x=>x.1.isSome)
      && decide ((e::es).length+([]:List Keyword).length+(if ([]:List Keyword).isEmpty then 0 else 1)<30))=true:=by rfl)
    (hline:(apos.endLine == cpos.line)=true:=by rfl) (hs:starEach (e::es) X.env=(false,eval e X.env)::starEach es X.env:=by rfl) (hplain:(backTo cpos (starEach es X.env)).any (·.1)=false:=by rfl) :
    PE X (.Call (.Attribute o name apos) (e::es) [] cpos) (tBM X.K T r to t):=by
  intro pins s Z H Q I h;refine wpAny_Call_method_late hbase hfew hline rfl (thn (ho pins s Z H _ I h) fun v s1 ⟨x,H1,I1,r1,ty,q1⟩=>?_);obtain⟨h1,h2⟩:=xnp I1 r1 ty;refine⟨T,id,pa,slot,hty,h1,h2,?_⟩;have hA:=ha cpos pins s1 Z H1 _ I1 q1;rw[hs] at hA ⊢;refine ZZ (by show (false||(backTo cpos (starEach es X.env)).any (·.1))=false; rw[hplain]<;>rfl) (Qq ?_);exact thn hA fun us s2 ⟨vs,H2,I2,r2,q2⟩=>hm pins s2 Z H2 x vs v us Q I2 r1 r2 q2
end
def MtM (X:Cx) (id:String) (r:V->List V->Hp->VK->Prop):Prop :=
 ∀(pins:List (Addr × Obj)) (s:Shared) (Z:St) (H:Hp) (x:V) (xs:List V) (v:Value) (us:List Value) (Q:VK),Inv X pins Z H s->RelV x v->Vals xs us->r x xs H Q ->
  wpAny (model X.prog X.w) X.A (call (.builtin id) (v::us)) (EP X pins Z Q) X.xe s
theorem Vals.one:∀{x:V}{us:List Value},Vals [x] us->∃ u,us=[u]/\RelV x u
 | _,_,.cons r .nil=>⟨_,rfl,r⟩
theorem Vals.zero:∀{us:List Value},Vals [] us->us=[]
 | _,.nil=>rfl
theorem Vals.eraseIdx:∀{xs:List V}{us:List Value} (i:Nat),Vals xs us->Vals (xs.eraseIdx i) (us.eraseIdx i)
 | _,_,_,.nil=>.nil
 | _,_,0,.cons _ t=>t
 | _,_,i+1,.cons r t=>.cons r (Vals.eraseIdx i t)
theorem Vals.reverse {xs:List V}{us:List Value} (h:Vals xs us):Vals xs.reverse us.reverse:=by
 induction h with
 | nil=>exact .nil
 | cons r t ih=>rw[List.reverse_cons,List.reverse_cons]; exact Vals.append ih (.cons r .nil)
theorem xhb {α:Type}:∀(l:List α) (i:Nat),(l.eraseIdx i).length<=l.length
 | [],_=>Zi _
 | _::_,0=>Y9 _
 | _::r,i+1=>Nat.succ_le_succ (xhb r i)
section
variable {X:Cx}{pins:List (Addr × Obj)}{Z:St}{H:Hp}{s:Shared}{l b:Addr}{xs ys zs:List V}
theorem Inv.lset {its its':List Value}{n:Nat}{f:Array Value->Array Value}{t':Nat} (I:Inv X pins Z H s) (hH:H l=some (.lst xs))
    (e:s.heap.get? l=some { cls:=.type "list",data:=.seq its.toArray n }) (hf:f its.toArray=its'.toArray) (hv:Vals ys its') (hz:ys.length<=sizeLine) :
    Inv X pins Z (upd H l (.lst ys)) { s with heap:=s.heap.update l (Ys f),toks:=t' }:=by
  have q:=PySem.IsL.update e f;rw[hf] at q;refine I.write (x:=l) (e:=l) (by rw[hH]; exact trivial) (.inl rfl) (fun b' u hb hu=>(ZY s.heap (Ys f) (Zw hb)).trans hu) ⟨_,q⟩ ?_;exact⟨hz,its',_,hv,q⟩
theorem Inv.lnew {its:List Value}{t':Nat} (I:Inv X pins Z H s) (hv:Vals ys its) (hz:ys.length<=sizeLine) :
    Inv X pins Z (upd H s.heap.objs.size (.lst ys)) { s with heap:=s.heap.push { cls:=.type "list",data:=.seq its.toArray },toks:=t' } :=
  I.laid (fun _ _ q=>Ze _ q) (Zi _) ⟨hz,its,0,hv,Zo _ rfl⟩
theorem Inv.fresh (I:Inv X pins Z H s):H s.heap.objs.size=none:=I.hok.fresh (Zi _)
theorem Inv.lstM (I:Inv X pins Z H s) (hH:H l=some (.lst xs)):xs.length<=sizeLine/\∃(its:List Value) (n:Nat),Vals xs its/\xs.length=its.length/\s.heap.get? l=some { cls:=.type "list",data:=.seq its.toArray n }:=by
 obtain⟨z,its,n,r,e⟩:=I.hok l _ hH;exact⟨z,its,n,r,r.length,e⟩
theorem xnv {n:Nat} (h:n<=sizeLine):Builtin.List.listTooLong n=false:=by
 unfold Builtin.List.listTooLong;exact decide_eq_false (by omega)
end
section
variable {X:Cx}
inductive xqp (x:V) (vs:List V) (H:Hp) (Q:VK):Prop
 | mk (l xs y) (e_:x=.ref l) (r_:vs=[y]/\H l=some (.lst xs)/\xs.length<sizeLine/\Q .non (upd H l (.lst (xs++[y]))))
theorem xdm:MtM X "list.append" xqp:=by
 intro pins s Z H x vs v us Q I rx rv h;obtain⟨l,xs,y,rfl,rfl,hH,hz,q⟩:=h;cases rx;obtain⟨u,rfl,ru⟩:=rv.one;obtain⟨z,its,n,r,hl,e⟩:=I.lstM hH;refine QK F.slot_list_append ⟨_,e,rfl⟩ F.entry_list_append (F.args_list_append_2 _ _) (PySem.list_append l its.toArray n u (by rw[Zy]; omega)) ⟨e,?_⟩;refine⟨.non,_,I.lset (its':=its++[u]) hH e (by simp) (r.append (.cons ru .nil)) ?_,rfl,q⟩;rw[Zu,ZS];omega
inductive xqc (x:V) (vs:List V) (H:Hp) (Q:VK):Prop
 | mk (l b xs zs) (e_:x=.ref l) (r_:vs=[.ref b]/\H l=some (.lst xs)/\H b=some (.lst zs)/\xs.length+zs.length<=sizeLine/\Q .non (upd H l (.lst (xs++zs))))
theorem xm9:MtM X "list.extend" xqc:=by
 intro pins s Z H x vs v us Q I rx rv h;obtain⟨l,b,xs,zs,rfl,rfl,hH,hB,hz,q⟩:=h;cases rx;obtain⟨u,rfl,ru⟩:=rv.one;cases ru;obtain⟨z,its,n,r,hl,e⟩:=I.lstM hH;obtain⟨z2,its2,n2,r2,hl2,e2⟩:=I.lstM hB;have hsz:its.toArray.size+its2.toArray.size<=sizeLine:=by rw[Zy,Zy]; omega
 have hlong:¬ (!its.toArray.isEmpty&&Builtin.List.listTooLong (its.toArray.size+its2.toArray.size))=true:=by
  rw[xnv hsz,Bool.and_false];exact Z1
 refine QK F.slot_list_extend ⟨_,e,rfl⟩ F.entry_list_extend (F.args_list_extend_2 _ _)
  (AutoSeq1.list_extend_list_list_0 l its.toArray n b its2.toArray n2 hlong (by rw[Zy]; omega) (by omega)) ⟨e,e2,?_⟩
 refine⟨.non,_,I.lset (its':=its++its2) hH e (by simp) (r.append r2) ?_,rfl,q⟩;rw[Zu];omega
def xrv:V->List V->Hp->VK->Prop:=fun x vs H Q=>∃ l xs i k y,x=.ref l/\vs=[.int i]/\H l=some (.lst xs)/\-(2 ^ 63)<=i/\i<2 ^ 63/\seqIndex? i xs.length=some k/\xs[k]?=some y/\Q y (upd H l (.lst (xs.eraseIdx k)))
theorem xn2:MtM X "list.pop" xrv:=by
 intro pins s Z H x vs v us Q I rx rv h;obtain⟨l,xs,i,k,y,rfl,rfl,hH,h1,h2,hk,hy,q⟩:=h;cases rx;obtain⟨u,rfl,ru⟩:=rv.one;obtain⟨t,rfl⟩:=ru;obtain⟨z,its,n,r,hl,e⟩:=I.lstM hH;obtain⟨w,hw,rw'⟩:=r.get hy;refine QK F.slot_list_pop ⟨_,e,rfl⟩ F.entry_list_pop (F.args_list_pop_2 _ _)
  (MeetsSeq.list_pop_at l its.toArray n i t k w (fitsIndex_both h1 h2) (by rw[Zy,<- hl]; exact hk) (by rw[<- Jo]; exact hw) (by rw[Zy]; omega)) ⟨e,?_⟩
 refine⟨y,_,I.lset (its':=its.eraseIdx k) hH e ?_ (r.eraseIdx k) ?_,rw',q⟩
 .show its.toArray.eraseIdxIfInBounds k=(its.eraseIdx k).toArray;rw[List.eraseIdxIfInBounds_toArray]
 .have:=xhb xs k;omega
def xoq:V->List V->Hp->VK->Prop:=fun x vs H Q=>∃ l xs,x=.ref l/\vs=[]/\H l=some (.lst xs)/\Q .non (upd H l (.lst xs.reverse))
theorem xlx:MtM X "list.reverse" xoq:=by
 intro pins s Z H x vs v us Q I rx rv h;obtain⟨l,xs,rfl,rfl,hH,q⟩:=h;cases rx;have hus:=rv.zero;subst hus;obtain⟨z,its,n,r,hl,e⟩:=I.lstM hH;refine QK F.slot_list_reverse ⟨_,e,rfl⟩ F.entry_list_reverse (F.args_list_reverse_1 _) (AutoSeq1.list_reverse_list_0 l its.toArray n (by rw[Zy]; omega)) ⟨e,?_⟩;refine⟨.non,_,I.lset (its':=its.reverse) hH e (by simp) r.reverse ?_,rfl,q⟩;rw[Yl];omega
def xs4:V->List V->Hp->VK->Prop:=fun x vs H Q=>∃ l xs,x=.ref l/\vs=[]/\H l=some (.lst xs)/\Q .non (upd H l (.lst []))
theorem xn0:MtM X "list.clear" xs4:=by
 intro pins s Z H x vs v us Q I rx rv h;obtain⟨l,xs,rfl,rfl,hH,q⟩:=h;cases rx;have hus:=rv.zero;subst hus;obtain⟨z,its,n,r,hl,e⟩:=I.lstM hH;refine QK F.slot_list_clear ⟨_,e,rfl⟩ F.entry_list_clear (F.args_list_clear_1 _) (AutoSeq1.list_clear_list_0 l its.toArray n (by rw[Zy]; omega)) ⟨e,?_⟩;exact⟨.non,_,I.lset (its':=[]) (ys:=[]) hH e rfl .nil (Ja _),rfl,q⟩
inductive rCat (x:V) (y:V) (H:Hp) (Q:VK):Prop
 | mk (l b xs zs) (e_:x=.ref l) (r_:y=.ref b/\H l=some (.lst xs)/\H b=some (.lst zs)/\xs.length+zs.length<=sizeLine/\∀ p,H p=none->Q (.ref p) (upd H p (.lst (xs++zs))))
theorem xs1:OpR X (binaryOp .Add) rCat:=by
 intro pins s Z H x y v u Q I rx ry h;obtain⟨l,b,xs,zs,rfl,rfl,hH,hB,hz,q⟩:=h;cases rx;cases ry;obtain⟨z,its,n,r,hl,e⟩:=I.lstM hH;obtain⟨z2,its2,n2,r2,hl2,e2⟩:=I.lstM hB;refine PySem.P.add_list e e2 ?_ (by rw[Zy,Zy]; omega);have ea:its.toArray++its2.toArray=(its++its2).toArray:=by simp
 rw[ea];exact⟨.ref _,_,I.lnew (t':=s.toks) (r.append r2) (by rw[Zu]; omega),rfl,q _ I.fresh⟩
end
section
variable {κ:Type} [DecidableEq κ]
def valV (kvs:List (κ × V)) (k:κ):Option V:=(kvs.find? fun kv=>decide (kv.1=k)).map (·.2)
def putK (kvs:List (κ × V)) (k:κ) (v:V):List (κ × V) :=
 if (kvs.any fun kv=>decide (kv.1=k))=true then kvs.map (fun kv=>if kv.1=k then (kv.1,v) else kv) else kvs++[(k,v)]
def xdo (kvs:List (κ × V)) (k:κ):List (κ × V):=kvs.filter fun kv=>decide (kv.1≠k)
theorem xbd {p:κ × V}{r:List (κ × V)}{k:κ} (e:p.1=k):valV (p::r) k=some p.2:=by simp[valV,Yz,e]
theorem xaz {p:κ × V}{r:List (κ × V)}{k:κ} (e:¬ p.1=k):valV (p::r) k=valV r k:=by simp[valV,Yz,e]
theorem xc8 (k:κ):∀ kvs:List (κ × V),(kvs.any fun kv=>decide (kv.1=k))=(valV kvs k).isSome
 | []=>rfl
 | p::r=>by
  rw[Yj];by_cases e:p.1=k
  .simp only [xbd e,decide_eq_true e,Bool.true_or,Option.isSome_some]
  .rw [xaz e,decide_eq_false e,Bool.false_or]; exact xc8 k r
theorem xjo (k j:κ) (y:V):∀ kvs:List (κ × V),valV (kvs.map fun kv=>if kv.1=k then (kv.1,y) else kv) j=(valV kvs j).map fun x=>if j=k then y else x
 | []=>rfl
 | p::r=>by
  have ih:=xjo k j y r;rw[Zx];by_cases h:p.1=k
  .rw [if_pos h];by_cases e:p.1=j
   .rw [xbd (p:=(p.1,y)) e,xbd e,J5,if_pos (e.symm.trans h)]
   .rw [xaz (p:=(p.1,y)) e,xaz e,ih]
  .rw [if_neg h];by_cases e:p.1=j
   .rw [xbd (p:=p) e,xbd e,J5,if_neg (fun z=>h (e.trans z))]
   .rw [xaz (p:=p) e,xaz e,ih]
theorem xhp (k j:κ) (y:V):∀ kvs:List (κ × V),valV kvs k=none->valV (kvs++[(k,y)]) j=if j=k then some y else valV kvs j
 | [],_=>by
  by_cases e:k=j
  .rw [if_pos e.symm]; exact xbd (p:=(k,y)) e
  .rw [if_neg (fun z=>e z.symm)]; exact xaz (p:=(k,y)) e
 | p::r,hn=>by
  rw[List.cons_append];have hk:¬ p.1=k:=fun z=>by rw[xbd z] at hn; cases hn
  rw[xaz hk] at hn;have ih:=xhp k j y r hn;by_cases e:p.1=j
  .rw [xbd e,xbd e,if_neg (fun z=>hk (e.trans z))]
  .rw [xaz e,xaz e,ih]
theorem xch (kvs:List (κ × V)) (k j:κ) (y:V):valV (putK kvs k y) j=if j=k then some y else valV kvs j:=by
 unfold putK;by_cases a:(kvs.any fun kv=>decide (kv.1=k))=true
 .rw [if_pos a,xjo];rw[xc8] at a;by_cases e:j=k
  .obtain ⟨x,hx⟩:=QE.mp a;rw[if_pos e,e,hx,J5,if_pos rfl]
  .rw [if_neg e];cases valV kvs j with
   | none=>rfl
   | some x=>rw[J5,if_neg e]
 .rw [if_neg a];refine xhp k j y kvs ?_;rw[xc8] at a;cases q:valV kvs k with
  | none=>rfl
  | some x=>rw[q] at a; exact (a rfl).elim
theorem xbn (kvs:List (κ × V)) (k:κ) (v:V):(putK kvs k v).length<=kvs.length+1:=by
 unfold putK;split
 .rw [Zc]; omega
 .rw [Zu,ZJ,List.length_nil]; omega
theorem xcg {kvs:List (κ × V)}{k:κ} (v:V) (h:valV kvs k=none):putK kvs k v=kvs++[(k,v)]:=by
 unfold putK;rw[xc8,h];exact if_neg (by decide)
theorem RelO.isSome_eq {o:Option V}{u:Option Value} (r:RelO o u):o.isSome=u.isSome:=by
 cases o with
 | none=>cases u with
  | none=>rfl
  | some _=>exact (show False from r).elim
 | some _=>cases u with
  | none=>exact (show False from r).elim
  | some _=>rfl
theorem RelO.getD {o:Option V}{u:Option Value}{d:V}{d':Value} (r:RelO o u) (rd:RelV d d'):RelV (o.getD d) (u.getD d'):=by
 cases o with
 | none=>cases u with
  | none=>exact rd
  | some _=>exact (show False from r).elim
 | some _=>cases u with
  | none=>exact (show False from r).elim
  | some _=>exact r
theorem KV.val {kvs:List (κ × V)}{vs:List (κ × Value)} (r:KV kvs vs) (k:κ):RelO (valV kvs k) (valueAt vs k):=by
 unfold KV at r
 induction r with
 | nil=>exact Jg
 | @cons p q ps qs h t ih =>
  obtain⟨h1,h2⟩:=h;by_cases e:p.1=k
  .have e':q.1=k:=h1.symm.trans e;have b:valueAt (q::qs) k=some q.2:=by simp[valueAt,Yz,e']
   rw[xbd e,b]; exact h2
  .have e':¬ q.1=k:=fun z=>e (h1.trans z);have b:valueAt (q::qs) k=valueAt qs k:=by simp[valueAt,Yz,e']
   rw[xaz e,b]; exact ih
theorem KV.any {kvs:List (κ × V)}{vs:List (κ × Value)} (r:KV kvs vs) (k:κ):(kvs.any fun kv=>decide (kv.1=k))=vs.any fun kv=>decide (kv.1=k):=by
 unfold KV at r
 induction r with
 | nil=>rfl
 | cons h t ih=>rw[Yj,Yj,ih,h.1]
theorem KV.repl {kvs:List (κ × V)}{vs:List (κ × Value)} (r:KV kvs vs) (k:κ) {y:V}{u:Value} (ry:RelV y u) :
    KV (kvs.map fun kv=>if kv.1=k then (kv.1,y) else kv) (vs.map fun kv=>if kv.1=k then (kv.1,u) else kv):=by
  unfold KV at r ⊢
  induction r with
  | nil=>exact .nil
  | @cons p q ps qs h t ih =>
    rw[Zx,Zx];refine .cons ?_ ih;obtain⟨h1,h2⟩:=h;by_cases e:p.1=k
    . rw[if_pos e,if_pos (h1.symm.trans e)]; exact⟨h1,ry⟩
    . rw[if_neg e,if_neg (fun z=>e (h1.trans z))]; exact⟨h1,h2⟩
theorem KV.put {kvs:List (κ × V)}{vs:List (κ × Value)} (r:KV kvs vs) (k:κ) {y:V}{u:Value} (ry:RelV y u):KV (putK kvs k y) (stored vs k u):=by
 unfold putK stored;rw[r.any k];by_cases e:(vs.any fun kv=>decide (kv.1=k))=true
 .rw [if_pos e,if_pos e]; exact r.repl k ry
 .rw [if_neg e,if_neg e]; exact Paired.snoc r ⟨rfl,ry⟩
theorem KV.keys {kvs:List (κ × V)}{vs:List (κ × Value)} (r:KV kvs vs):kvs.map (·.1)=vs.map (·.1):=by
 unfold KV at r
 induction r with
 | nil=>rfl
 | cons h t ih=>rw[Zx,Zx,ih,h.1]
theorem KV.length {kvs:List (κ × V)}{vs:List (κ × Value)} (r:KV kvs vs):kvs.length=vs.length:=Yg r
theorem xop (kvs:List (κ × V)) (k:κ):(xdo kvs k).length<=kvs.length:=JJ _ _
end
theorem xdc {P:Program}{w:World}{k:Key}{u:Value} (r:RelV (kV k) u):(xai P w).is k u=true:=by
 cases k with
 | inl i=>obtain⟨t,e⟩:=(show ∃ t,u=YU i t from r); subst e; exact xj2 P w i t
 | inr x=>obtain⟨t,e⟩:=(show ∃ t,u=Q0 x t from r); subst e; exact xjw P w x t
theorem xhn {P:Program}{w:World}:∀{ks:List Key}{us:List Value},Vals (ks.map kV) us->ItemsAre (xai P w) ks us
 | [],_,r=>by rw[List.map_nil] at r; cases r; exact .nil
 | k::ks,_,r=>by
  rw[Zx] at r;cases r with
  | cons h t=>exact .cons (xdc h) (xhn t)
abbrev KT (H:Hp):List (List Key × V)->List (List Key × Addr × Value)->Prop:=Paired fun p q=>p.1=q.1/\H q.2.1=some (.tup (p.1.map kV))/\RelV p.2 q.2.2
theorem KT.val {H:Hp}{kvs:List (List Key × V)}{xs:List (List Key × Addr × Value)} (r:KT H kvs xs) (k:List Key):RelO (valV kvs k) ((atKey xs k).map (·.2)):=by
 induction r with
 | nil=>exact Jg
 | @cons p q ps qs h t ih =>
  obtain⟨h1,_,h2⟩:=h;by_cases e:p.1=k
  .have e':q.1=k:=h1.symm.trans e;have b:atKey (q::qs) k=some q.2:=by simp[atKey,Yz,e']
   rw[xbd e,b]; exact h2
  .have e':¬ q.1=k:=fun z=>e (h1.trans z);have b:atKey (q::qs) k=atKey qs k:=by simp[atKey,Yz,e']
   rw[xaz e,b]; exact ih
theorem KT.repl {H:Hp}{kvs:List (List Key × V)}{xs:List (List Key × Addr × Value)} (r:KT H kvs xs) (k:List Key) {y:V}{u:Value} (ry:RelV y u) :
    KT H (kvs.map fun kv=>if kv.1=k then (kv.1,y) else kv) (xs.map (putAt k u)):=by
  induction r with
  | nil=>exact .nil
  | @cons p q ps qs h t ih =>
    rw[Zx,Zx];refine .cons ?_ ih;obtain⟨h1,h2,h3⟩:=h;unfold putAt;by_cases e:p.1=k
    . rw[if_pos e,if_pos (h1.symm.trans e)]; exact⟨h1,h2,ry⟩
    . rw[if_neg e,if_neg (fun z=>e (h1.trans z))]; exact⟨h1,h2,h3⟩
theorem KT.put {H:Hp}{kvs:List (List Key × V)}{xs:List (List Key × Addr × Value)} (r:KT H kvs xs) (k:List Key) {b:Addr}{y:V}{u:Value} (hb:H b=some (.tup (k.map kV))) (ry:RelV y u) :
    KT H (putK kvs k y) (storedH xs k b u):=by
  have e:(kvs.any fun kv=>decide (kv.1=k))=(atKey xs k).isSome:=by
    rw[xc8,(r.val k).isSome_eq,Y4]
  unfold putK storedH;rw[e];by_cases q:(atKey xs k).isSome=true
  . rw[if_pos q,if_pos q]; exact r.repl k ry
  . rw[if_neg q,if_neg q]; exact Paired.snoc r ⟨rfl,hb,ry⟩
theorem KT.keeps {H H':Hp}{kvs:List (List Key × V)}{xs:List (List Key × Addr × Value)} (r:KT H kvs xs) (ht:∀ b ys,H b=some (.tup ys)->H' b=some (.tup ys)):KT H' kvs xs :=
 Paired.mapP r fun _ _ z=>⟨z.1,ht _ _ z.2.1,z.2.2⟩
section
variable {P:Program}{w:World}{H:Hp}{h:Heap}{a:Addr}
theorem xpp {u:HO} (ok:HOk P w H h) (e:Rd H a u):xap P w H h a u:=e.ok ok
theorem xd8 {kvs:List (Key × V)} (ok:HOk P w H h) (e:Rd H a (.dK kvs)):kvs.length<=sizeLine/\(a == sysModules)=false/\∃ vs,KV kvs vs/\h.DictOf (xai P w) a vs :=
 show xap P w H h a (.dK kvs) from xpp ok e
theorem xd5 {kvs:List (Key × V)} (ok:HOk P w H h) (e:H a=some (.dK kvs)):kvs.length<=sizeLine/\(a == sysModules)=false/\∃ vs,KV kvs vs/\h.DictOf (xai P w) a vs:=xd8 ok (.inl e)
theorem xdj {ks:List Key} (ok:HOk P w H h) (e:H a=some (.tup (ks.map kV))):(tupleKind (xai P w)).is h ks a:=by
 obtain⟨_,its,r,o,h1,h2,n,h3⟩:=(show xap P w H h a (.tup (ks.map kV)) from ok a _ e)
 exact⟨o,its.toArray,n,h1,h2,h3,by simpa using xhn r⟩
theorem xer {kvs:List (List Key × V)} (ok:HOk P w H h) (e:Rd H a (.dT kvs)):kvs.length<=sizeLine/\(a == sysModules)=false /\
    ∃ xs,KT H kvs xs/\h.DictOfH (tupleKind (xai P w)) a xs:=by
  obtain⟨z,y,xs,r,o,es,ep,h1,h2,h3,h4,h5⟩:=(show xap P w H h a (.dT kvs) from xpp ok e)
  refine⟨z,y,xs,r,o,es,ep,h1,h2,h3,h4,fun x hx=>?_,h5⟩;have all:∀{l:List (List Key × V)}{m:List (List Key × Addr × Value)},KT H l m->∀ x∈m,(tupleKind (xai P w)).is h x.1 x.2.1:=by
    intro l m q
    induction q with
    | nil=>intro x hx; exact nomatch hx
    | @cons p q ps qs hq t ih =>
      intro x hx;rcases Zz.mp hx with e|hx
      . subst e
        exact xdj ok (by rw[<- hq.1]; exact hq.2.1)
      . exact ih x hx
  exact all r x hx
theorem xeu {kvs:List (List Key × V)} (ok:HOk P w H h) (e:H a=some (.dT kvs)):kvs.length<=sizeLine/\(a == sysModules)=false /\
    ∃ xs,KT H kvs xs/\h.DictOfH (tupleKind (xai P w)) a xs:=xer ok (.inl e)
end
def DGet (H:Hp) (a:Addr) (y:V) (r:Option V):Prop :=
 (∃ kvs k,Rd H a (.dK kvs)/\y=kV k/\r=valV kvs k)\/∃ kvs k b,Rd H a (.dT kvs)/\y=.ref b/\H b=some (.tup (k.map kV))/\r=valV kvs k
def DPut (H:Hp) (a:Addr) (y v:V) (H':Hp):Prop :=
 (∃ kvs k,H a=some (.dK kvs)/\y=kV k/\kvs.length<sizeLine/\H'=upd H a (.dK (putK kvs k v))) \/
 ∃ kvs k b,H a=some (.dT kvs)/\y=.ref b/\H b=some (.tup (k.map kV))/\kvs.length<sizeLine/\H'=upd H a (.dT (putK kvs k v))
theorem DGet.k {H:Hp}{a:Addr}{kvs:List (Key × V)}{k:Key} (e:H a=some (.dK kvs)):DGet H a (kV k) (valV kvs k):=.inl ⟨kvs,k,.inl e,rfl,rfl⟩
theorem DGet.t {H:Hp}{a b:Addr}{kvs:List (List Key × V)}{k:List Key} (e:H a=some (.dT kvs)) (eb:H b=some (.tup (k.map kV))):DGet H a (.ref b) (valV kvs k):=.inr ⟨kvs,k,b,.inl e,rfl,eb,rfl⟩
theorem DPut.k {H:Hp}{a:Addr}{kvs:List (Key × V)}{k:Key}{v:V} (e:H a=some (.dK kvs)) (hl:kvs.length<sizeLine):DPut H a (kV k) v (upd H a (.dK (putK kvs k v))):=.inl ⟨kvs,k,e,rfl,hl,rfl⟩
theorem DPut.t {H:Hp}{a b:Addr}{kvs:List (List Key × V)}{k:List Key}{v:V} (e:H a=some (.dT kvs)) (eb:H b=some (.tup (k.map kV))) (hl:kvs.length<sizeLine) :
    DPut H a (.ref b) v (upd H a (.dT (putK kvs k v))):=.inr ⟨kvs,k,b,e,rfl,eb,hl,rfl⟩
section
variable {X:Cx}{pins:List (Addr × Obj)}{Z:St}{H:Hp}{s:Shared}{a:Addr}{y v:V}{u r:Value}{o:Option V}{A:Around}{E:Value->Shared->Prop}
theorem Inv.big (I:Inv X pins Z H s):sysModules<s.heap.objs.size:=by
 have h:mainGlobals<s.heap.objs.size:=(I.mod.glob.keeps I.bk).lt;exact J0 (by decide) h
theorem xho {Q:Value->Shared->Prop} (hu:A.units+1<cLine) (I:Inv X pins Z H s) (g:DGet H a y (some v)) (ry:RelV y u) (h:∀ w' s',Inv X pins Z H s'->RelV v w'->Q w' s') :
    wpAny (model X.prog X.w) A (getItem (.ref a) u) Q E s:=by
  rcases g with⟨kvs,k,e,ey,l⟩|⟨kvs,k,b,e,ey,eb,l⟩
  . subst ey
    obtain⟨z,hd,vs,rel,dd⟩:=xd8 I.hok e;obtain⟨w',hw,rw'⟩:=RelO.some_of (v:=v) (o:=valueAt vs k) (by rw[l]; exact rel.val k);exact wpAny_getItem_of (xdc ry) dd.mapOf hw (h w' _ (I.tok _) rw')
  . subst ey
    cases (show u=Zk b from ry);obtain⟨z,hd,xs,rel,dd⟩:=xer I.hok e;obtain⟨w',hw,rw'⟩:=RelO.some_of (v:=v) (o:=(atKey xs k).map (·.2)) (by rw[l]; exact rel.val k);obtain⟨p,hp,hp2⟩:=Zj.mp hw;refine wpAny_getItem_heap (YS hu) (xdj I.hok eb) dd hp ?_;rw[hp2];exact h w' _ (I.tok _) rw'
theorem d_in {Q:Value->Shared->Prop} (hu:A.units+1<cLine) (I:Inv X pins Z H s) (g:DGet H a y o) (ry:RelV y u) (h:∀ s',Inv X pins Z H s'->Q (.bool o.isSome) s') :
    wpAny (model X.prog X.w) A (compareOp .In u (.ref a)) Q E s:=by
  rcases g with⟨kvs,k,e,ey,l⟩|⟨kvs,k,b,e,ey,eb,l⟩
  . subst ey
    obtain⟨z,hd,vs,rel,dd⟩:=xd8 I.hok e;refine wpAny_in_of (xdc ry) hd dd.mapOf ?_;rw[<- (rel.val k).isSome_eq,<- l];exact h _ (I.tok _)
  . subst ey
    cases (show u=Zk b from ry);obtain⟨z,hd,xs,rel,dd⟩:=xer I.hok e;refine wpAny_in_heap (YS hu) (xdj I.hok eb) hd dd ?_;have q:=(rel.val k).isSome_eq;rw[Y4] at q;rw[<- q,<- l];exact h _ (I.tok _)
theorem xq6 {Q:Value->Shared->Prop} (hu:A.units+1<cLine) (I:Inv X pins Z H s) (g:DGet H a y o) (ry:RelV y u) (h:∀ s',Inv X pins Z H s'->Q (.bool (!o.isSome)) s') :
    wpAny (model X.prog X.w) A (compareOp .NotIn u (.ref a)) Q E s:=by
  rcases g with⟨kvs,k,e,ey,l⟩|⟨kvs,k,b,e,ey,eb,l⟩
  . subst ey
    obtain⟨z,hd,vs,rel,dd⟩:=xd8 I.hok e;refine wpAny_notIn_of (xdc ry) hd dd.mapOf ?_;rw[<- (rel.val k).isSome_eq,<- l];exact h _ (I.tok _)
  . subst ey
    cases (show u=Zk b from ry);obtain⟨z,hd,xs,rel,dd⟩:=xer I.hok e;refine wpAny_notIn_heap (YS hu) (xdj I.hok eb) hd dd ?_;have q:=(rel.val k).isSome_eq;rw[Y4] at q;rw[<- q,<- l];exact h _ (I.tok _)
theorem xc9 {h':Heap}{t':Nat}{ob:HO} (I:Inv X pins Z H s) (mu:Mut (H a)) (hs:ZX a s.heap h') (he:∃ q,h'.get? a=some q) (new:xap X.prog X.w (upd H a ob) h' a ob) :
    Inv X pins Z (upd H a ob) { s with heap:=h',toks:=t' } :=
  I.write (x:=a) (e:=a) mu (.inl rfl) (fun b q hb z=>(hs.2 b hb).trans z) he new
theorem xnk {P:Program}{w:World}{H':Hp}{h':Heap}{kvs:List (Key × V)}{vs:List (Key × Value)} (z:kvs.length<=sizeLine) (hd:(a == sysModules)=false) (rel:KV kvs vs) (dd:h'.DictOf (xai P w) a vs) :
    xap P w H' h' a (.dK kvs):=⟨z,hd,vs,rel,dd⟩
theorem xhi {H':Hp}{Q:Unit->Shared->Prop} (hu:A.units+1<cLine) (I:Inv X pins Z H s) (g:DPut H a y v H') (ry:RelV y u) (rv:RelV v r) (h:∀ s',Inv X pins Z H' s'->Q () s') :
    wpAny (model X.prog X.w) A (setItem (.ref a) u r) Q E s:=by
  rcases g with⟨kvs,k,e,ey,l,eH⟩|⟨kvs,k,b,e,ey,eb,l,eH⟩
  . subst ey eH
    obtain⟨z,hd,vs,rel,dd⟩:=xd5 I.hok e;have hz:vs.length<=sizeLine:=by rw[<- rel.length]; exact z
    have hl:(putK kvs k v).length<=sizeLine:=by have:=xbn kvs k v; omega
    refine wpAny_setItem_pairs (hsz:=hz) (xdc ry) dd fun h' dd' hs=>h _ ?_;have he:∃ q,h'.get? a=some q:=let ⟨q,_,_,hq,_⟩:=dd'; ⟨q,hq⟩;exact xc9 I (by rw[e]; exact Jg) hs he (xnk hl hd (rel.put k rv) dd')
  . subst ey eH
    cases (show u=Zk b from ry);obtain⟨z,hd,xs,rel,dd⟩:=xeu I.hok e;have hz:xs.length<=sizeLine:=by rw[<- Yg rel]; exact z
    have hl:(putK kvs k v).length<=sizeLine:=by have:=xbn kvs k v; omega
    refine wpAny_setItem_heap (hsz:=hz) (YS hu) (xdj I.hok eb) dd fun h' dd' hs=>h _ ?_;obtain⟨q,es,ep,hq,h2,h3,h4,_,h5⟩:=dd';refine xc9 I (by rw[e]; exact Jg) hs ⟨q,hq⟩ ⟨hl,hd,_,(rel.put k eb rv).keeps fun c ys ec=>?_,q,es,ep,hq,h2,h3,h4,h5⟩;rw[xh (xp ec e (fun z=>nomatch z))];exact ec
end
section
variable {X:Cx}{pins:List (Addr × Obj)}{Z:St}{H:Hp}{s:Shared}{a:Addr}{kvs:List (Key × V)}{k:Key}{u:Value}{A:Around}{E:Value->Shared->Prop}
theorem xul {Q:Value->Shared->Prop} (I:Inv X pins Z H s) (e:Rd H a (.dK kvs)) (h:∀ t s',Inv X pins Z H s'->Q (.int kvs.length t) s'):wpAny (model X.prog X.w) A (call (.builtin "len") [.ref a]) Q E s:=by
 obtain⟨z,hd,vs,rel,dd⟩:=xd8 I.hok e;refine call_len_dict hd dd (by rw[<- rel.length]; rw[Qn] at z; omega) ?_;rw[<- rel.length];exact h _ _ (I.tok _)
end
def NoSl (i:Expr):Prop:=∀ ov iv,subscripted i false ov iv=operate [ov,iv] (getItem ov iv)
theorem xqo {prog:Program}{w:World}{A:Around}{E:Value->Shared->Prop}{s:Shared}{env:Env}{value slice:Expr}{pos:Pos}{T id:String}{Q:Value->Shared->Prop}
    (hl:typeLookup (.type T) "__getitem__"=pure (some (.builtin id))) (hs:NoSl slice)
    (h:wpAny (model prog w) A (eval value env) (fun o s₁=>wpAny (model prog w) A (eval slice env) (fun i s₂=>s₂.TypeIs o T/\wpAny (model prog w) A (getItem o i) Q E s₂) E s₁) E s) :
    wpAny (model prog w) A (eval (.Subscript value slice pos) env) Q E s:=by
  refine Subscript_ (ZU h (fun o s₁ h₁=>ZU h₁ (fun i s₂ h₂=>?_) fun _ _ x=>x) fun _ _ x=>x);obtain⟨hT,h₂⟩:=h₂;unfold subscriptTail;refine Zb ?_;rw[getitemInPython_of_ne hT.not_modules];refine Zb (wpAny_specialOf hT hl ?_);have fin:wpAny (model prog w) A (subscripted slice false o i) (fun r s₃=>wpAny (model prog w) A (letTemporaryGo value o r>>=fun _=>pure r) Q E s₃) E s₂:=by
    rw[hs o i];exact wpAny_operating (ZU h₂ (fun r s₃ h₃=>Zb (wpAny_letTemporaryGo (Zg h₃))) fun _ _ x=>x)
  first
    | exact Zg (Zb fin)
    | exact Zb (Zg (Zb fin))
    | exact Zb fin
theorem xj5 {X:Cx}{pins:List (Addr × Obj)}{Z:St}{H:Hp}{s:Shared}{a:Addr}{y:V}{o:Option V} (I:Inv X pins Z H s) (g:DGet H a y o):s.TypeIs (.ref a) "dict":=by
 rcases g with⟨kvs,k,e,_,_⟩|⟨kvs,k,b,e,_,_,_⟩
 .obtain ⟨_,_,vs,_,dd⟩:=xd8 I.hok e;exact dd.typeIs
 .obtain ⟨_,_,xs,_,dd⟩:=xer I.hok e;exact dd.typeIs
inductive xpv (x y:V) (H2:Hp) (Q:VK):Prop
 | mk (a v) (e_:x=.ref a) (r_:DGet H2 a y (some v)/\Q v H2)
def xtp (td ty:TE):TE:=fun Z H Q=>td Z H fun x H1=>ty Z H1 fun y H2=>xpv x y H2 Q
inductive xsc (x y:V) (H2:Hp) (Q:VK):Prop
 | mk (a o) (e_:x=.ref a) (r_:DGet H2 a y o/\Q (.bl o.isSome) H2)
def tDIn (ty td:TE):TE:=fun Z H Q=>ty Z H fun y H1=>td Z H1 fun x H2=>xsc x y H2 Q
inductive xl2 (x y:V) (H2:Hp) (Q:VK):Prop
 | mk (a o) (e_:x=.ref a) (r_:DGet H2 a y o/\Q (.bl (!o.isSome)) H2)
def xpz (ty td:TE):TE:=fun Z H Q=>ty Z H fun y H1=>td Z H1 fun x H2=>xl2 x y H2 Q
def xt3 (td ty tv:TE):TS:=fun D Z H=>tv Z H fun v H1=>td Z H1 fun x H2=>ty Z H2 fun y H3=>∃ a H4,x=.ref a/\DPut H3 a y v H4/\D.nx Z H4
def xt5 (td ty tv:TE) (rd:V->V->Hp->VK->Prop):TS:=fun D Z H=>td Z H fun x H1=>ty Z H1 fun y H2=>∃ a v,x=.ref a/\DGet H2 a y (some v) /\
 tv Z H2 fun y2 H3=>rd v y2 H3 fun z H4=>∃ H5,DPut H4 a y z H5/\D.nx Z H5
section
variable {X:Cx}{o i e value:Expr}{pos pos' tpos:Pos}{td ty tv:TE}
theorem xa9 (hu:X.A.units+1<cLine) (ho:PE X o td) (hi:PE X i ty) (hs:NoSl i):PE X (.Subscript o i pos) (xtp td ty):=by
 intro pins s Z H Q I h;refine xqo PySem.F.slot_dict_getitem.lookup hs (thn (ho pins s Z H _ I h) fun u s1 ⟨x,H1,I1,rx,q1⟩=>thn (hi pins s1 Z H1 _ I1 q1) fun iv s2 ⟨y,H2,I2,ry,a,v,ex,g,q2⟩=>?_);subst ex;obtain rfl:u=Zk a:=rx;exact⟨xj5 I2 g,xho hu I2 g ry fun w' s3 I3 rw'=>⟨v,H2,I3,rw',q2⟩⟩
theorem xf6 (hu:X.A.units+1<cLine) (hi:PE X i ty) (ho:PE X o td):PC X .In i o (tDIn ty td):=by
 intro pins s Z H Q I h;refine thn (hi pins s Z H _ I h) fun iv s1 ⟨y,H1,I1,ry,q1⟩=>thn (ho pins s1 Z H1 _ I1 q1) fun u s2 ⟨x,H2,I2,rx,a,ov,ex,g,q2⟩=>?_;subst ex;obtain rfl:u=Zk a:=rx;exact d_in hu I2 g ry fun s3 I3=>⟨.bl ov.isSome,H2,I3,rfl,q2⟩
theorem xct (hu:X.A.units+1<cLine) (hi:PE X i ty) (ho:PE X o td):PC X .NotIn i o (xpz ty td):=by
 intro pins s Z H Q I h;refine thn (hi pins s Z H _ I h) fun iv s1 ⟨y,H1,I1,ry,q1⟩=>thn (ho pins s1 Z H1 _ I1 q1) fun u s2 ⟨x,H2,I2,rx,a,ov,ex,g,q2⟩=>?_;subst ex;obtain rfl:u=Zk a:=rx;exact xq6 hu I2 g ry fun s3 I3=>⟨.bl (!ov.isSome),H2,I3,rfl,q2⟩
theorem xb9 (hu:X.A.units+1<cLine) (ho:PE X o td) (hi:PE X i ty) (hv:PE X value tv) (hs:swapsWith value (some (.Subscript o i pos')) pos.line X.env=pure false) :
    PS X (.Assign [.Subscript o i pos'] value pos) (xt3 td ty tv):=by
  intro pins s Z H D I h;refine wpAny_Assign_Subscript (thn (hv pins s Z H _ I h) fun r s1 ⟨v,H1,I1,rv,q1⟩=>thn (ho pins s1 Z H1 _ I1 q1) fun u s2 ⟨x,H2,I2,rx,q2⟩=>thn (hi pins s2 Z H2 _ I2 q2) fun iv s3 ⟨y,H3,I3,ry,a,H4,ex,g,q3⟩=>?_) hs;subst ex;obtain rfl:u=Zk a:=rx;exact xhi hu I3 g ry rv fun s4 I4=>⟨Z,H4,I4,q3⟩
theorem xk2 {op:Operator}{rd:V->V->Hp->VK->Prop} (hu:X.A.units+1<cLine) (ho:PE X o td) (hi:PE X i ty) (hv:PE X value tv) (hop:InOp X op rd)
    (ha:∀ ov iv new,augStore i ov iv new=(do holding [new,ov,iv] (setItem ov iv new); release [new,ov,iv] []; pure .next)):PS X (.AugAssign (.Subscript o i tpos) op value pos) (xt5 td ty tv rd):=by
  intro pins s Z H D I h;refine wpAny_AugAssign_SubscriptAny (thn (ho pins s Z H _ I h) fun u s1 ⟨x,H1,I1,rx,q1⟩=>thn (hi pins s1 Z H1 _ I1 q1) fun iv s2 ⟨y,H2,I2,ry,a,v,ex,g,q2⟩=>?_) ha;subst ex;obtain rfl:u=Zk a:=rx;refine xho hu I2 g ry fun w' s3 I3 rw'=>thn (hv pins s3 Z H2 _ I3 q2) fun w2 s4 ⟨y2,H3,I4,ry2,q3⟩=>thn (hop pins s4 Z H3 v y2 w' w2 _ I4 rw' ry2 q3) fun w3 s5 ⟨z,H4,I5,rz,H5,g5,q4⟩=>?_;exact xhi hu I5 g5 ry rz fun s6 I6=>⟨Z,H5,I6,q4⟩
end
theorem xiz {P:Program}{w:World}{H:Hp} (h:Heap) (hb:sysModules<h.objs.size):xap P w H (h.push { cls:=.type "dict",data:=.dict #[] }) h.objs.size (.dK []) :=
 ⟨Ja _,beq_eq_false_iff_ne.mpr (Zw (ZD hb)),[],.nil,Heap.DictOf.new h⟩
theorem xjf {P:Program}{w:World}{H:Hp} (h:Heap) (hb:sysModules<h.objs.size):xap P w H (h.push { cls:=.type "dict",data:=.dict #[] }) h.objs.size (.dT []) :=
 ⟨Ja _,beq_eq_false_iff_ne.mpr (Zw (ZD hb)),[],.nil,_,#[],0,Zo _ rfl,⟨rfl,rfl,rfl⟩,rfl,rfl,JP⟩
def xsd:TE:=fun _ H Q=>∀ p,H p=none->Q (.ref p) (upd H p (.dK []))
def xr0:TE:=fun _ H Q=>∀ p,H p=none->Q (.ref p) (upd H p (.dT []))
section
variable {X:Cx}{pos:Pos}
theorem xdw:PE X (.Dict [] [] pos) xsd:=fun pins s Z H Q I h =>
 wpAny_Dict_empty ⟨.ref s.heap.objs.size,_,I.laid (a:=s.heap.objs.size) (o:=.dK []) (t':=s.toks) (fun _ _ q=>Ze _ q) (Zi _) (xiz s.heap I.big),rfl,h _ (I.hok.fresh (Zi _))⟩
theorem xdr:PE X (.Dict [] [] pos) xr0:=fun pins s Z H Q I h =>
 wpAny_Dict_empty ⟨.ref s.heap.objs.size,_,I.laid (a:=s.heap.objs.size) (o:=.dT []) (t':=s.toks) (fun _ _ q=>Ze _ q) (Zi _) (xjf s.heap I.big),rfl,h _ (I.hok.fresh (Zi _))⟩
end
structure M1 (X:Cx) (o:Expr) (m:Str) (apos:Pos) (e:Expr) (cpos:Pos):Prop where
 base:attributeBase o m X.env (eval o X.env)=eval o X.env
 few:((backTo cpos (starEach [e] X.env)).all (fun x=>!x.1)&&(backToKw cpos (keywordEach [] X.env)).all (fun x=>x.1.isSome)
  && decide (([e]:List Expr).length+([]:List Keyword).length+(if ([]:List Keyword).isEmpty then 0 else 1)<30))=true
 line:(apos.endLine == cpos.line)=true
 trees:backTo cpos (starEach [e] X.env)=[(false,eval e X.env)]
def IsD (H:Hp) (a:Addr):Prop:=(∃ kvs,Rd H a (.dK kvs))\/∃ kvs,Rd H a (.dT kvs)
theorem xm5 {X:Cx}{pins:List (Addr × Obj)}{Z:St}{H:Hp}{s:Shared}{a:Addr} (I:Inv X pins Z H s) (d:IsD H a) :
    s.TypeIs (.ref a) "dict"/\(∀ b,Zk a=.ref b->∃ ob,s.heap.get? b=some ob/\ob.dict=none)/\(a == sysModules)=false:=by
  rcases d with⟨kvs,e⟩|⟨kvs,e⟩
  . obtain⟨_,hd,vs,_,dd⟩:=xd8 I.hok e
    refine⟨dd.typeIs,fun b q=>?_,hd⟩;cases q;obtain⟨ob,_,_,h1,h2,_⟩:=dd;exact⟨ob,h1,h2.2.1⟩
  . obtain⟨_,hd,xs,_,dd⟩:=xer I.hok e
    refine⟨dd.typeIs,fun b q=>?_,hd⟩;cases q;obtain⟨ob,_,_,h1,h2,_⟩:=dd;exact⟨ob,h1,h2.2.1⟩
section
variable {X:Cx}{pins:List (Addr × Obj)}{Z:St}{H:Hp}{s:Shared}{a:Addr}{y d:V}{u r:Value}{o:Option V}{A:Around}{E:Value->Shared->Prop}
theorem xsr {Q:Value->Shared->Prop} (hu:A.units+1<cLine) (I:Inv X pins Z H s) (g:DGet H a y o) (ry:RelV y u) (h:∀ w' s',Inv X pins Z H s'->RelV (o.getD .non) w'->Q w' s') :
    wpAny (model X.prog X.w) A (call (.builtin "dict.get") [.ref a,u]) Q E s:=by
  rcases g with⟨kvs,k,e,ey,l⟩|⟨kvs,k,b,e,ey,eb,l⟩
  . subst ey
    obtain⟨z,hd,vs,rel,dd⟩:=xd8 I.hok e;refine JO QT dd.typeIs PySem.F.entry_dict_get (PySem.F.args_dict_get_2 _ _) (meets_dict_get (xai X.prog X.w) a (xdc ry) hd) ⟨_,dd.mapOf,h _ _ (I.tok _) ?_⟩;rw[l];exact (rel.val k).getD rfl
  . subst ey
    cases (show u=Zk b from ry);obtain⟨z,hd,xs,rel,dd⟩:=xer I.hok e;refine JO QT dd.typeIs PySem.F.entry_dict_get (PySem.F.args_dict_get_2 _ _) (meetsH_dict_get (tupleKind (xai X.prog X.w)) a b hd) ⟨YS hu,k,xs,xdj I.hok eb,dd,h _ _ (I.tok _) ?_⟩;rw[l];exact (rel.val k).getD rfl
end
def xrp (td ty:TE):TE:=fun Z H Q=>td Z H fun x H1=>∃ a,x=.ref a/\IsD H1 a/\ty Z H1 fun y H2=>∃ o,DGet H2 a y o/\Q (o.getD .non) H2
section
variable {X:Cx}{o e f:Expr}{apos cpos:Pos}{td ty tx:TE}
theorem xix (hu:X.A.units+1<cLine) (ho:PE X o td) (he:PE X e ty) (m:M1 X o "get" apos e cpos):PE X (.Call (.Attribute o "get" apos) [e] [] cpos) (xrp td ty):=by
 intro pins s Z H Q I h;refine wpAny_Call_method m.base m.few m.line Jr QT PySem.F.type_dict_get (thn (ho pins s Z H _ I h) fun u s1 ⟨x,H1,I1,rx,a,ex,d,q1⟩=>?_);subst ex;obtain rfl:u=Zk a:=rx;obtain⟨t1,t2,_⟩:=xm5 I1 d;refine⟨t1,t2,?_⟩;rw[m.trees];refine ZZ rfl (Qq (Yu (thn (he pins s1 Z H1 _ I1 q1) fun iv s2 ⟨y,H2,I2,ry,ov,g,q2⟩=>Y6 ?_)));exact xsr hu I2 g ry fun w' s3 I3 rw'=>⟨_,H2,I3,rw',q2⟩
end
end L2
namespace Att
open PySem PySem.W PySem.Calls PyProof.Rows
theorem xgs {P:Params}{h:Heap}:∀(ns:List Int) (vs:List Value),WellAll P h vs (ns.map WData.int)->IntsAre vs ns:=by
 intro ns
 induction ns with
 | nil =>
  intro vs w;rw[List.map_nil] at w;cases w;exact .nil
 | cons n ns ih =>
  intro vs w;rw[Zx] at w;cases w with
  | cons a b =>
   cases a;exact .cons _ _ (ih _ b)
theorem xmp {l:OpenLaw}{n:Nat} (hn:l.most=some n) {P:Params}{h:Heap}{args:List WData}{vals:List Value}
    (hpre:l.row.toRowW.claim.pre args=true) (hwl:WellAll P h vals args) :
    ∃ a vs ns,vals=[Zk a]/\args=[WData.list (ns.map WData.int)]/\h.get? a=some { cls:=.type "list",data:=.seq vs.toArray }/\IntsAre vs ns/\ns.length<=n:=by
  have hsh:WShape.hasAll [] args [.list .int]=true:=(pre_splitW hpre).1;have hc:l.pre.holds [] { args:=args }=true:=(pre_splitW hpre).2;obtain⟨d,r,rfl,h1,h2⟩:=hasAllW_cons hsh;obtain rfl:=hasAllW_nil h2;obtain⟨xs,rfl,h3⟩:=hasW_list h1;obtain⟨ns,rfl⟩:=items_int h3;have hlen:ns.length<=n:=by
    unfold OpenLaw.pre at hc;have h4:(WTm.not (.lt (.lit (.int (n:Int))) (.len (.arg 0)))).holds [] { args:=[.list (ns.map .int)] }=true:=by
      have h4:=(holds_andW hc).1;rw[hn] at h4;exact h4
    have h5:=condW_of h4 (w_not (w_lt w_lit (w_len_list (w_arg rfl))));rw[Zc] at h5;refine Nat.le_of_not_lt fun q=>?_;have q':(n:Int)<((ns.length:Nat):Int):=by omega
    first
      | (rw[decide_eq_true q'] at h5; exact absurd h5 (by decide))
      | (simp at h5; omega)
  cases hwl with
  | cons w1 w2 =>
    cases w2;cases w1 with
    | list ho hall=>exact⟨_,_,ns,rfl,rfl,ho,xgs ns _ hall,hlen⟩
theorem xna (l:OpenLaw) (args:List WData):l.row.toRowW.claim.post args (.bool true) args=true :=
 postW_of (r:=l.row.toRowW) (X:=(true == true))
  (show WShape.has [] (.bool true) .bool=true by first|rfl|decide|simp[WShape.has,WShape.arms,WShape.armsAll])
  (show (WTm.eq .res (.lit (.bool true))).value [] { args:=args,res:=some (.bool true),after:=args }=some (.bool (true == true)) from w_eq_bool (w_res rfl) w_lit) rfl
theorem attach_call {l:OpenLaw}{n:Nat}{q:Program}{loose:List Str}{XP:(Str->Option Value)->Heap->Prop}{YP:World->Heap->Prop}{d:DefRec}
    (hn:l.most=some n) (hdf:d.params.defaults=[])
    (call:∀(w:World) (s₀ s₁:Shared) (mg mb:Str->Option Value) (fa:Addr) (o:Obj) (pm cd doc:Value) (a:Addr) (vs:List Value) (ns:List Int),
      Ground q loose [] XP w s₀ mg mb s₁.heap->YP w s₁.heap ->
      s₁.heap.get? fa=some o->o.data=.func (docDef d.name d.params d.body d.scope pm cd doc)->s₁.heap.CodeRec cd d.name->mg d.name=some (.ref fa) ->
      s₁.heap.get? a=some { cls:=.type "list",data:=.seq vs.toArray }->IntsAre vs ns->ns.length<=n->s₁.gens=#[] ->
      codeAny (model l.prog w) callerA (.call (.ref fa) ⟨[.ref a],[]⟩) (fun r s'=>r=.ok (.ret (.bool true))/\OldK s₁.heap s'.heap/\s'.os=s₁.os/\AllBare s'.gens) s₁) :
    WalkO q loose XP YP l.row.toRowW d [] (fun f vs=>PySem.call f vs):=by
  intro w s₀ s₁ mg mb G Y fa o pm cd doc dV kV ho hd hcd hD hmg hg args vals as hpre hlay hrd hwl hlo;obtain rfl:dV=.none:=Dflts.none hD hdf;obtain rfl:kV=.none:=Dflts.noKw hD;obtain⟨a,vs,ns,rfl,rfl,hobj,hints,hlen⟩:=xmp hn hpre hwl;refine enter_call (YX (call w s₀ s₁ mg mb fa o pm cd doc a vs ns G Y ho (fd_plain hd) hcd hmg hobj hints hlen hg) fun r s' hq=>?_);obtain⟨rfl,h2,h3,h4⟩:=hq;exact⟨.inl ⟨.bool true,.bool true,[],rfl,fun _=>rfl,.bool true,xna l _,fun _=>⟨YJ.nil,fun _ hm=>(nomatch hm)⟩⟩,h2,h3,h4⟩
section
variable {prog:Program}{w:World}{A:Around}{E:Value->Shared->Prop}{s:Shared}{K:Frag}
def xuo (h:Heap) (L d:Addr):List (Addr × Obj):=(ZI h.objs.size).filterMap fun a=>if a=L\/a=d then none else (h.get? a).map fun o=>(a,o)
end
end Att
namespace L2
open PySem PySem.Spec PyProof.Rows
variable {q0:Bool}
theorem xhq:∀{vs:List Value}{ns:List Int},IntsAre vs ns->Vals (ns.map V.int) vs
 | _,_,.nil=>.nil
 | _,_,.cons n t h=>.cons ⟨t,rfl⟩ (xhq h)
def Only (H:Hp):Prop:=∀ b,H b=none\/∃ o xs,H b=some (.frz o (.lst xs))
theorem xn5 {P:Program}{w:World}{K:Zd}{mg mb:Str->Option Value}{CX:CXT}{k:Nat}{fa a:Addr}{fd:FuncData}{x:Str}{sp:Sp}{s₁:Shared}{vs:List Value}{ns:List Int}
    (KX:K.In s₁.heap) (hns:s₁.heap.Ns mainGlobals mg) (hb:s₁.heap.Ns builtinsNs mb) (hbb:∀ x:Str,x≠"__name__"->mb x=bootBuiltins x) (hlim:s₁.heap.NoLimit) (hg:s₁.gens=#[])
    (ha:s₁.heap.get? a=some { cls:=.type "list",data:=.seq vs.toArray }) (hi:IntsAre vs ns) (hl:ns.length<=sizeLine) (hr:Room q0 k callerA)
    (F:∀ base:Heap,K.In base->base.Ns mainGlobals mg->FnOk q0 P w K mg base CX k fa fd [x] sp) (hbind:∀(s:Shared) (u:Value),BindsTo s fd ⟨[u],[]⟩ [(x,u)])
    (hsp:∀ H:Hp,Only H->SqL K H a (ns.map V.int)->sp [.ref a] H (fun v _=>v=.bl true) fun _ _ _=>False)
    (hCX:∀ H e s',CX [] H s₁ (fun _ _ _=>False) e s'->False) :
    codeAny (model P w) callerA (.call (.ref fa) ⟨[.ref a],[]⟩) (fun r s'=>r=.ok (.ret (.bool true))/\OldK s₁.heap s'.heap/\s'.os=s₁.os/\AllBare s'.gens) s₁:=by
  have rv:=xhq hi;have lenV:=hi.length
  -- from an abstract heap in which nothing but the script may be tracked
  have core:∀ H:Hp,Only H->SqL K H a (ns.map V.int)->HOk P w H s₁.heap->(∀ b,H b≠none->b=a)->(H a≠none->K.lookup a=none) ->
      codeAny (model P w) callerA (.call (.ref fa) ⟨[.ref a],[]⟩) (fun r s'=>r=.ok (.ret (.bool true))/\OldK s₁.heap s'.heap/\s'.os=s₁.os/\AllBare s'.gens) s₁:=by
    intro H hO hS hok hA hK;have base_of:∀{b:Addr}{o:Obj},s₁.heap.get? b=some o->H b=none->(hidT s₁.heap H).get? b=some o:=fun e n=>xo4 e n;have noA:∀{b:Addr}{o:Obj}{es:Array DictEntry}{ep:Nat},s₁.heap.get? b=some o->o.data=.dict es ep->H b=none:=fun {b o es ep} e d=>by
      cases q:H b with
      | none=>rfl
      | some u =>
        have e':b=a:=hA b (by rw[q]; simp);subst e';rw[ha] at e; cases e;have d':Data.seq vs.toArray _=Data.dict es ep:=d;cases d'
    have nsK:∀{b:Addr}{m:Str->Option Value},s₁.heap.Ns b m->(hidT s₁.heap H).Ns b m:=fun {b m} ⟨o,es,ep,e,d,r⟩=>⟨o,es,ep,base_of e (noA e d),d,r⟩
    have hKb:K.In (hidT s₁.heap H):=fun b o e=>base_of (KX b o e) (by
      cases q:H b with
      | none=>rfl
      | some u =>
        have e':b=a:=hA b (by rw[q]; simp);subst e';rw[hK (by rw[q]; simp)] at e; cases e)
    have hM:Mod K mg (hidT s₁.heap H):=⟨hKb,nsK hns,⟨mb,nsK hb,hbb⟩,let ⟨mc,h1,h2⟩:=hlim; ⟨mc,nsK h1,h2⟩⟩
    have e0:Env0 P w K mg (hidT s₁.heap H) callerA [] s₁ H:=⟨rfl,hM,fun b o e=>xqq e,Nat.le_of_eq (xnt _ _),trivial,fun b hb=>absurd (show b∈([]:List Addr) from hb) (by simp),hok,.of_eq hg⟩
    refine YX ((F _ hKb (nsK hns)).run callerA [] s₁ H ⟨[.ref a],[]⟩ [.ref a] [.ref a] _ _ hr e0 (hbind s₁ (.ref a)) (.cons rfl .nil) (hsp H hO hS)) fun r s' h=>?_;cases r with
    | error e=>exact (hCX H e s' h).elim
    | ok fl =>
      cases fl with
      | next=>exact J7 h
      | brk=>exact J7 h
      | cont=>exact J7 h
      | ret u =>
        obtain⟨v,H',os,bare,un,hok',r',q⟩:=h;have q':v=.bl true:=q;subst q';obtain rfl:u=Yr true:=r';refine⟨rfl,OldK.of_keep fun b o e=>?_,os,bare⟩;cases q:H b with
        | none=>exact un.keep b o e q (by intro z; exact absurd (show b∈([]:List Addr) from z) (by simp)) (by simp)
        | some u =>
          rcases hO b with z|⟨ob,xs,z⟩
          . rw[q] at z; cases z
          . have z2:=un.frzs b ob _ z
            obtain⟨e1,_⟩:=hok b _ z;obtain⟨e2,_⟩:=hok' b _ z2;rw[e] at e1; cases e1;exact e2
  cases hk:K.lookup a with
  | some o =>
    -- the script is one of the module's own objects
    have e:=KX a o hk;rw[ha] at e;cases e;refine core (fun _=>none) (fun _=>.inl rfl) (.inr ⟨_,vs.toArray,_,hk,rfl,rfl,rfl,by rw[Zy,lenV]; exact hl,by simpa using rv⟩) (fun b u z=>by have z':(none:Option HO)=some u:=z; cases z') (fun b z=>absurd rfl z) fun z=>absurd rfl z
  | none =>
    refine core (fun b=>if b=a then some (.frz { cls:=.type "list",data:=.seq vs.toArray } (.lst (ns.map V.int))) else none) (fun b=>?_) (.inl (.inr ⟨{ cls:=.type "list",data:=.seq vs.toArray },if_pos rfl⟩)) (fun b u z=>?_) (fun b z=>?_) fun _=>hk
    . by_cases hb:b=a
      . exact .inr ⟨_,_,if_pos hb⟩
      . exact .inl (if_neg hb)
    . by_cases hb:b=a
      . have z':=(if_pos hb).symm.trans z
        cases z';subst hb;exact⟨ha,by rw[Zc]; exact hl,vs,_,rv,ha⟩
      . have z':=(if_neg hb).symm.trans z
        cases z'
    . by_cases hb:b=a
      . exact hb
      . exact absurd (if_neg hb) z
abbrev KOf {K:Zd}{h:Heap} (_:K.In h):Zd:=K
theorem walk_of {l:PySem.W.OpenLaw}{n k:Nat}{q:Program}{loose:List Str}{XP:(Str->Option Value)->Heap->Prop}{YP:World->Heap->Prop}{d:DefRec}{K:Params->Zd}{CX:World->CXT}{sp:World->Sp}{x:Str}
    (hn:l.most=some n) (hn2:n<=sizeLine) (hdf:d.params.defaults=[]) (hr:Room q0 k callerA)
    (hY:∀(w:World) (h:Heap),YP w h->(K w.params).In h)
    (F:∀(w:World) (mg:Str->Option Value) (fa:Addr) (h:Heap),(K w.params).In h->h.Ns mainGlobals mg->mg d.name=some (.ref fa) ->
      ∃ fd:FuncData,(∀(s:Shared) (u:Value),BindsTo s fd ⟨[u],[]⟩ [(x,u)]) /\
        ∀ base:Heap,(K w.params).In base->base.Ns mainGlobals mg->FnOk q0 l.prog w (K w.params) mg base (CX w) k fa fd [x] (sp w))
    (hsp:∀(w:World) (H:Hp) (a:Addr) (ns:List Int),ns.length<=n->Only H->SqL (K w.params) H a (ns.map V.int)->sp w [.ref a] H (fun v _=>v=.bl true) fun _ _ _=>False)
    (hCX:∀(w:World) (H:Hp) (s:Shared) (e:Value) (s':Shared),CX w [] H s (fun _ _ _=>False) e s'->False) :
    PySem.W.WalkO q loose XP YP l.row.toRowW d [] (fun f vs=>PySem.call f vs):=by
  refine Att.attach_call hn hdf fun w s₀ s₁ mg mb fa o pm cd doc a vs ns G Y ho hd hcd hmg hobj hints hlen hg=>?_;have KX:=hY w _ Y;obtain⟨fd,hb,hF⟩:=F w mg fa _ KX G.T.g hmg;exact xn5 KX G.T.g G.T.b G.T.builtins G.T.nolimit hg hobj hints (Z6 hlen hn2) hr hF hb (fun H hO hS=>hsp w H a ns hlen hO hS) fun H e s'=>hCX w H s₁ e s'
def xar (s:Stmt) (j:Nat):Stmt:=match s with
 | .ClassDef _ _ _ body _ _ _ _ _ _ _=>body.getD j (.Pass ⟨0,0,0,0⟩)
 | _=>.Pass ⟨0,0,0,0⟩
def xbq (s:Stmt):Arguments:=match s with
 | .FunctionDef _ a _ _ _ _ _ _ _ _=>a
 | _=>{ posonlyargs:=[],args:=[],vararg:=none,kwonlyargs:=[],kw_defaults:=[],kwarg:=none,defaults:=[] }
def xa8 (s:Stmt):List Stmt:=match s with
 | .FunctionDef _ _ b _ _ _ _ _ _ _=>b
 | _=>[]
def xo (s:Stmt):Scope:=match s with
 | .FunctionDef _ _ _ _ _ _ sc _ _ _=>sc
 | _=>{ kind:=.function,names:=[],isGenerator:=false,isCoroutine:=false }
abbrev CX0:CXT:=fun _ _ _ _ _ _=>False
structure Fun (K:Zd) (x qual:Str) (st:Stmt) (f:Addr) (fd:FuncData):Prop where
 ex:∃(oc:Value) (od:Option Addr) (kV doc pm:Value) (an:Option Addr) (cdv ct:Value) (osl:Array (Option Value)),
  fd=Jp x qual (xbq st) (xa8 st) (xo st) .none kV doc pm an cdv ct/\K.lookup f=some ⟨oc,od,.func fd,osl⟩/\Qa K cdv qual=true
 kp:Jh K (.ref f)=true
section
variable {P:Program}{w:World}{K:Zd}{mg:Str->Option Value}{base:Heap}
theorem Fun.ok {x qual:Str}{st:Stmt}{f:Addr}{fd:FuncData}{N ps:List Str}{k:Nat}{sp:Sp} (F:Fun K x qual st f fd) (S:xv N ps (xo st)) (len:∀ vs H Q E,sp vs H Q E->vs.length=ps.length)
    (hbody:∀(cdv:Value) (A:Around) (outer:List Env) (s:Shared) (H:Hp) (vs:List V) (Q:VK) (E:XK),Room q0 k (A.deeper (envOfC qual (xo st) s.heap.objs.size f cdv))->sp vs H Q E ->
      ∃ t,PSs (cxOf q0 CX0 P w K mg base N qual (xo st) f cdv A outer s H E).nox (xa8 st) t/\t { nx:=fun _ H'=>Q .non H',rt:=Q } (start N vs) H):FnOk q0 P w K mg base CX0 (k+1) f fd ps sp:=by
  obtain⟨oc,od,kV,doc,pm,an,cdv,ct,osl,rfl,lk,hcd⟩:=F.ex;refine xia lk hcd S len fun A outer s H vs Q E hr hsp=>?_;obtain⟨t,h,q⟩:=hbody cdv A outer s H vs Q E hr hsp;exact⟨t,h.nox,q⟩
theorem Fun.binds {x qual:Str}{st:Stmt}{f:Addr}{fd:FuncData}{ps:List Str} (F:Fun K x qual st f fd)
    (h:∀(kV doc pm:Value) (an:Option Addr) (cdv ct:Value) (us:List Value),us.length=ps.length->bindArgs (Jp x qual (xbq st) (xa8 st) (xo st) .none kV doc pm an cdv ct) ⟨us,[]⟩=pure (ps.zip us)):xaa K fd ps []:=by
  obtain⟨oc,od,kV,doc,pm,an,cdv,ct,osl,rfl,lk,hcd⟩:=F.ex;exact .all (h kV doc pm an cdv ct)
theorem fun_mk {x qual:Str}{st:Stmt}{f:Addr}{oc:Value}{od an:Option Addr}{osl:Array (Option Value)}{kV doc pm cdv ct:Value} (l:K.lookup f=some ⟨oc,od,.func (Jp x qual (xbq st) (xa8 st) (xo st) .none kV doc pm an cdv ct),osl⟩)
    (c:Qa K cdv qual=true) (k:Jh K (.ref f)=true):Fun K x qual st f (Jp x qual (xbq st) (xa8 st) (xo st) .none kV doc pm an cdv ct):=⟨⟨oc,od,kV,doc,pm,an,cdv,ct,osl,rfl,l,c⟩,k⟩
end
theorem xam {A:Around}{k:Nat} (hr:Room q0 k A):A.units+1<cLine:=ZG (Nat.add_le_add_left (by decide:1<=64) _) hr.units
section
variable {X:Cx}
theorem pv (i:Nat) {x:Str}{pos:Pos} (hN:X.N[i]?=some x:=by rfl) (hv:Vis X.env.scope x:=by first|exact Zq rfl|exact JD (Zq rfl)|exact JD (JD rfl)) (hd:(x == ("__debug__":Str))=false:=by decide)
    (hcd:(x == ("__classdict__":Str))=false:=by decide):PE X (.Name x pos) (tVar i):=xsh hN hv hd hcd
end
theorem iteF {A B:Prop} (h:B):if false=true then A else B:=by
 rw[if_neg Z1];exact h
theorem iteT {A B:Prop} (h:A):if true=true then A else B:=by
 rw[if_pos rfl];exact h
theorem ite2 {c A B:Prop} [Decidable c] (h1:c->A) (h2:¬ c->B):if c then A else B:=by
 by_cases h:c
 .rw [if_pos h];exact h1 h
 .rw [if_neg h];exact h2 h
def Same (H H':Hp):Prop:=∀ b o,H b=some o->H' b=some o
theorem Same.refl (H:Hp):Same H H:=fun _ _ h=>h
theorem Same.trans {H H1 H2:Hp} (a:Same H H1) (b:Same H1 H2):Same H H2:=fun c o h=>b c o (a c o h)
theorem Same.free {H H':Hp} (e:Same H H') {l:Addr} (h:H' l=Option.none):H l=Option.none:=by
 cases q:H l with
 | none=>rfl
 | some o =>
  rw[e l o q] at h;cases h
theorem Same.seq {K:Zd}{H H':Hp}{a:Addr}{xs:List V} (e:Same H H') (h:SqL K H a xs):SqL K H' a xs:=by
 rcases h with (h|⟨o,h⟩)|h
 .exact .inl (.inl (e _ _ h))
 .exact .inl (.inr ⟨o,e _ _ h⟩)
 .exact .inr h
end L2
namespace Srt
open PySem PySem.W PyProof.Rows
abbrev CM:=Nat->Nat->(Bool->Shared->Prop)->Shared->Prop
abbrev g (p:Array Nat) (i:Nat):Nat:=p.getD i 0
structure Ord (n:Nat) (lt:Nat->Nat->Bool):Prop where
 irr:∀ i,i<n->lt i i=false
 tr:∀ i j k,i<n->j<n->k<n->lt i j=true->lt j k=true->lt i k=true
 tot:∀ i j,i<n->j<n->i≠j->lt i j=false->lt j i=true
def Cmp (n:Nat) (lt:Nat->Nat->Bool) (cmp:CM) (s:Shared):Prop:=∀ i j,i<n->j<n->∀ Q:Bool->Shared->Prop,Q (lt i j) s->cmp i j Q s
theorem xcc {α:Type}{cmp:CM}{a:α}{Q:α->Shared->Prop}{s:Shared} (h:Q a s):KasT.kasWp cmp (.ret a) Q s:=h
theorem xe9 {α:Type}{cmp:CM}{i j:Nat}{k:Bool->KasT α}{Q:α->Shared->Prop}{s:Shared} (h:cmp i j (fun c s'=>KasT.kasWp cmp (k c) Q s') s):KasT.kasWp cmp (.ask i j k) Q s:=h
theorem xt1 {p:Array Nat}{n:Nat}:kas_asc p 0 n=.ret n:=by unfold kas_asc; rfl
theorem xtc {p:Array Nat}{f n:Nat}:kas_asc p (f+1) n=.ask (p.getD n 0) (p.getD (n-1) 0) fun c=>if c=true then .ret n else kas_asc p f (n+1):=by rw[kas_asc]
theorem xtr {p:Array Nat}{k:Nat}:kas_bin 0 p k=.ret p:=by unfold kas_bin; rfl
theorem xtm {f:Nat}{p:Array Nat}{k:Nat}:kas_bin (f+1) p k=(kas_place p k k 0 k).bind fun l=>kas_bin f (bubble p k (k-l)) (k+1):=by rw[kas_bin]
theorem xqm {p:Array Nat}{k l r:Nat}:kas_place p k 0 l r=.ret l:=by unfold kas_place; rfl
theorem xqg {p:Array Nat}{k f l r:Nat}:kas_place p k (f+1) l r=if l>=r then .ret l else .ask (p.getD k 0) (p.getD ((l+r) / 2) 0) fun c=>if c=true then kas_place p k f l ((l+r) / 2) else kas_place p k f ((l+r) / 2+1) r:=by rw[kas_place]
theorem xry {p:Array Nat}{k l:Nat}:kas_desc 0 p k l=.ret (p,k,l):=by unfold kas_desc; rfl
theorem xs9 {f:Nat}{p:Array Nat}{k l:Nat}:kas_desc (f+1) p k l=.ask (p.getD k 0) (p.getD (k-1) 0) fun c=>if c=true then (if l>0 then kas_desc f (kas_rev p (k-(l+1)) k) (k+1) 0 else kas_desc f p (k+1) 0) else .ask (p.getD (k-1) 0) (p.getD k 0) fun d=>if d=true then .ret (p,k,l) else kas_desc f p (k+1) (l+1):=by rw[kas_desc]
section
variable {n:Nat}{lt:Nat->Nat->Bool}{cmp:CM}{s:Shared}
structure Arr (n:Nat) (p:Array Nat):Prop where
 sz:p.size=n
 lt:∀ i,i<n->g p i<n
 inj:∀ i j,i<n->j<n->g p i=g p j->i=j
 pm:p.Perm (ZI n).toArray
theorem g_at {p:Array Nat}{i:Nat}{v:Nat} (h:p[i]?=some v):g p i=v:=by
 show p.getD i 0=v;rw[Array.getD_eq_getD_getElem?,h];rfl
theorem Arr.at {p:Array Nat} (a:Arr n p) {i:Nat} (h:i<n):p[i]?=some (g p i):=by
 have z:i<p.size:=by rw[a.sz]; exact h
 have e:p[i]?=some p[i]:=Je z;rw[e,g_at e]
def Srtd (lt:Nat->Nat->Bool) (p:Array Nat) (m:Nat):Prop:=∀ i j,i<j->j<m->lt (g p i) (g p j)=true
theorem xkh (o:Ord n lt) {p:Array Nat} (a:Arr n p) {m:Nat} (hm:m<=n) (h:∀ i,1<=i->i<m->lt (g p (i-1)) (g p i)=true):Srtd lt p m:=by
 intro i j hij hj;obtain⟨d,rfl⟩:∃ d,j=i+1+d:=⟨j-(i+1),by omega⟩
 induction d with
 | zero=>exact h (i+1) (by omega) hj
 | succ d ih =>
  have h1:=ih (by omega) (by omega);have h2:=h (i+1+(d+1)) (by omega) hj;exact o.tr _ _ _ (a.lt _ (by omega)) (a.lt _ (by omega)) (a.lt _ (by omega)) h1 h2
theorem xjj (c:Cmp n lt cmp s) {p:Array Nat} (a:Arr n p) {G:Nat->Shared->Prop}:∀(f k:Nat),1<=k->k+f<=n ->
    (∀ m,k<=m->m<=k+f->(∀ i,k<=i->i<m->lt (g p i) (g p (i-1))=false)->(m<k+f->lt (g p m) (g p (m-1))=true)->G m s)->KasT.kasWp cmp (kas_asc p f k) G s
  | 0,k,h1,hf,hG=>by
    rw[xt1];exact xcc (hG k (Zi _) (by omega) (fun i h h'=>by omega) (fun h=>by omega))
  | f+1,k,h1,hf,hG=>by
    rw[xtc];refine xe9 (c _ _ (a.lt k (by omega)) (a.lt (k-1) (by omega)) _ ?_);cases e:lt (g p k) (g p (k-1)) with
    | true =>
      exact xcc (hG k (Zi _) (by omega) (fun i h h'=>by omega) (fun _=>e))
    | false =>
      show KasT.kasWp cmp (kas_asc p f (k+1)) G s;refine xjj c a f (k+1) (by omega) (by omega) fun m hm hm2 h3 h4=>hG m (by omega) (by omega) (fun i hi hi2=>?_) (fun h=>h4 (by omega));by_cases z:i=k
      . rw[z]; exact e
      . exact h3 i (by omega) hi2
theorem xkm (o:Ord n lt) (c:Cmp n lt cmp s) {p:Array Nat} (a:Arr n p) {G:Array Nat × Nat × Nat->Shared->Prop}:∀(f k:Nat),1<=k->k+f<=n ->
    (∀ m,k<=m->m<=k+f->(∀ i,k<=i->i<m->lt (g p i) (g p (i-1))=true)->G (p,m,0) s)->KasT.kasWp cmp (kas_desc f p k 0) G s
  | 0,k,h1,hf,hG=>by
    rw[xry];exact xcc (hG k (Zi _) (by omega) (fun i h h'=>by omega))
  | f+1,k,h1,hf,hG=>by
    rw[xs9];refine xe9 (c _ _ (a.lt k (by omega)) (a.lt (k-1) (by omega)) _ ?_);cases e:lt (g p k) (g p (k-1)) with
    | true =>
      show KasT.kasWp cmp (kas_desc f p (k+1) 0) G s;refine xkm o c a f (k+1) (by omega) (by omega) fun m hm hm2 h3=>hG m (by omega) (by omega) fun i hi hi2=>?_;by_cases z:i=k
      . rw[z]; exact e
      . exact h3 i (by omega) hi2
    | false =>
      refine xe9 (c _ _ (a.lt (k-1) (by omega)) (a.lt k (by omega)) _ ?_);have ne:g p k≠g p (k-1):=fun z=>by have:=a.inj _ _ (by omega) (by omega) z; omega
      rw[show lt (p.getD (k-1) 0) (p.getD k 0)=true from o.tot _ _ (a.lt k (by omega)) (a.lt (k-1) (by omega)) ne e];exact xcc (hG k (Zi _) (by omega) (fun i h h'=>by omega))
theorem Arr.rev {p:Array Nat} (a:Arr n p) {k:Nat} (hk:k<=n):Arr n (kas_rev p 0 k)/\∀ i,i<n->g (kas_rev p 0 k) i=if i<k then g p (k-1-i) else g p i:=by
 have ge:∀ i,i<n->g (kas_rev p 0 k) i=if i<k then g p (k-1-i) else g p i:=fun i hi=>by
  have z:=getElem?_mirror_all (xs:=p) (i:=0) (j:=k) (by rw[a.sz]; exact hk) i;by_cases c:i<k
  .rw [if_pos c];rw[if_pos ⟨Ja _,c⟩,show 0+k-1-i=k-1-i by omega,a.at (show k-1-i<n by omega)] at z;exact g_at z
  .rw [if_neg c];rw[if_neg (fun w=>c w.2),a.at hi] at z;exact g_at z
 refine⟨⟨by rw[kas_rev_size,a.sz],fun i hi=>?_,fun i j hi hj e=>?_,(mirror_perm _ _ _ _).trans a.pm⟩,ge⟩
 .rw [ge i hi];split<;>exact a.lt _ (by omega)
 .rw [ge i hi,ge j hj] at e;split at e<;>split at e<;>have:=a.inj _ _ (by omega) (by omega) e<;>omega
theorem xol (o:Ord n lt) (c:Cmp n lt cmp s) {p:Array Nat} (a:Arr n p) (h2:2<=n) {G:Nat × Array Nat->Shared->Prop}
    (hG:∀ m p',1<=m->m<=n->Arr n p'->Srtd lt p' m->G (m,p') s):KasT.kasWp cmp (kas_count n p) G s:=by
  unfold kas_count;rw[KasT.kasWp_bind];have up:∀ q,Arr n q->∀ i,1<=i->i<n->lt (g q i) (g q (i-1))=false->lt (g q (i-1)) (g q i)=true:=fun q b i h1 hi e =>
    o.tot _ _ (b.lt i hi) (b.lt (i-1) (by omega)) (fun z=>by have:=b.inj _ _ hi (by omega) z; omega) e
  refine xjj c a (n-1) 1 (Zi _) (by omega) fun m hm hm2 h3 h4=>?_;have sm:Srtd lt p m:=xkh o a (by omega) fun i hi hi2=>up p a i hi (by omega) (h3 i hi hi2);show KasT.kasWp cmp (if (m == n)=true then _ else _) G s;by_cases e1:m=n
  . rw[if_pos (by simpa using e1)]
    exact xcc (hG m p hm (by omega) a sm)
  . rw[if_neg (by simpa using e1)]
    by_cases e2:m>1
    . rw[if_pos e2]
      refine xe9 (c _ _ (a.lt 0 (by omega)) (a.lt (m-1) (by omega)) _ ?_);rw[show lt (p.getD 0 0) (p.getD (m-1) 0)=true from sm 0 (m-1) (by omega) (by omega)];exact xcc (hG m p hm (by omega) a sm)
    . rw[if_neg e2]
      have m1:m=1:=by omega
      subst m1;have d1:=h4 (by omega);unfold kas_descPart;rw[KasT.kasWp_bind];refine xkm o c a (n-(1+1)) (1+1) (by omega) (by omega) fun k hk hk2 h5=>?_;show KasT.kasWp cmp (if (0:Nat)>0 then _ else kas_tail3 k n p) G s;rw[if_neg (YI 0)];unfold kas_tail3;rw[KasT.kasWp_bind];obtain⟨b,ge⟩:=a.rev (k:=k) (by omega);refine xjj c b (n-k) k (by omega) (by omega) fun m' hm' hm2' h6 _=>?_;refine xcc (hG m' _ (by omega) (by omega) b (xkh o b (by omega) fun i hi hi2=>?_));by_cases ik:i<k
      . rw[ge i (by omega),ge (i-1) (by omega),if_pos ik,if_pos (by omega)]
        have e3:k-1-(i-1)-1=k-1-i:=by omega
        by_cases z:k-1-(i-1)=1
        . have z':k-1-i=0:=by omega
          rw[z,z'];exact d1
        . have:=h5 (k-1-(i-1)) (by omega) (by omega)
          rw[e3] at this;exact this
      . exact up _ b i hi (by omega) (h6 i (by omega) hi2)
theorem xfs (o:Ord n lt) (c:Cmp n lt cmp s) {p:Array Nat} (a:Arr n p) {k:Nat} (hk:k<n) (sk:Srtd lt p k) {G:Nat->Shared->Prop}:∀(f l r:Nat),l<=r->r<=k->r-l<=f ->
    (∀ j,j<l->lt (g p k) (g p j)=false)->(∀ j,r<=j->j<k->lt (g p k) (g p j)=true) ->
    (∀ m,m<=k->(∀ j,j<m->lt (g p k) (g p j)=false)->(∀ j,m<=j->j<k->lt (g p k) (g p j)=true)->G m s)->KasT.kasWp cmp (kas_place p k f l r) G s
  | 0,l,r,h1,h2,h3,lo,hi,hG=>by
    rw[xqm];exact xcc (hG l (by omega) lo fun j hj hj2=>hi j (by omega) hj2)
  | f+1,l,r,h1,h2,h3,lo,hi,hG=>by
    rw[xqg];by_cases e:l>=r
    . rw[if_pos e]
      exact xcc (hG l (by omega) lo fun j hj hj2=>hi j (by omega) hj2)
    . rw[if_neg e]
      have m1:(l+r) / 2<r:=by omega
      have m2:l<=(l+r) / 2:=by omega
      refine xe9 (c _ _ (a.lt k hk) (a.lt _ (by omega)) _ ?_);cases e2:lt (g p k) (g p ((l+r) / 2)) with
      | true =>
        show KasT.kasWp cmp (kas_place p k f l ((l+r) / 2)) G s;refine xfs o c a hk sk f l _ m2 (by omega) (by omega) lo (fun j hj hj2=>?_) hG;by_cases z:j=(l+r) / 2
        . rw[z]; exact e2
        . exact o.tr _ _ _ (a.lt k hk) (a.lt _ (by omega)) (a.lt _ (by omega)) e2 (sk _ _ (by omega) hj2)
      | false =>
        show KasT.kasWp cmp (kas_place p k f ((l+r) / 2+1) r) G s;refine xfs o c a hk sk f _ r (by omega) h2 (by omega) (fun j hj=>?_) hi hG;by_cases z:j=(l+r) / 2
        . rw[z]; exact e2
        . cases e3:lt (g p k) (g p j) with
          | false=>rfl
          | true =>
            have:=o.tr _ _ _ (a.lt k hk) (a.lt _ (by omega)) (a.lt _ (by omega)) e3 (sk j ((l+r) / 2) (by omega) (by omega));rw[e2] at this;cases this
theorem Arr.bub {p:Array Nat} (a:Arr n p) {k m:Nat} (hk:k<n) (hm:m<=k):Arr n (bubble p k (k-m))/\∀ i,i<n->g (bubble p k (k-m)) i=if i=m then g p k else if m<i/\i<=k then g p (i-1) else g p i:=by
 have ge:∀ i,i<n->g (bubble p k (k-m)) i=if i=m then g p k else if m<i/\i<=k then g p (i-1) else g p i:=fun i hi=>by
  have z:=getElem?_bubble (xs:=p) (src:=k) (by rw[a.sz]; exact hk) (k-m) (by omega) i;rw[show k-(k-m)=m by omega] at z;by_cases c:i=m
  .rw [if_pos c];rw[if_pos c,a.at hk] at z;exact g_at z
  .rw [if_neg c];rw[if_neg c] at z;by_cases d:m<i/\i<=k
   .rw [if_pos d];rw[if_pos d,a.at (show i-1<n by omega)] at z;exact g_at z
   .rw [if_neg d];rw[if_neg d,a.at hi] at z;exact g_at z
 refine⟨⟨by rw[bubble_size,a.sz],fun i hi=>?_,fun i j hi hj e=>?_,(bubble_perm _ _ _).trans a.pm⟩,ge⟩
 .rw [ge i hi];split
  .exact a.lt _ hk
  .split<;>exact a.lt _ (by omega)
 .rw [ge i hi,ge j hj] at e;split at e<;>(try split at e)<;>(try split at e)<;>(try split at e)<;>first|omega|(have:=a.inj _ _ (by omega) (by omega) e; omega)
theorem xms (o:Ord n lt) (c:Cmp n lt cmp s) {G:Array Nat->Shared->Prop}:∀(f k:Nat) (p:Array Nat),k+f=n->Arr n p->Srtd lt p k->(∀ p',Arr n p'->Srtd lt p' n->G p' s)->KasT.kasWp cmp (kas_bin f p k) G s
 | 0,k,p,h,a,sk,hG=>by
  rw[xtr];have:k=n:=by omega
  subst this;exact xcc (hG p a sk)
 | f+1,k,p,h,a,sk,hG=>by
  have hk:k<n:=by omega
  rw[xtm,KasT.kasWp_bind];refine xfs o c a hk sk k 0 k (Ja _) (Zi _) (by omega) (fun j hj=>by omega) (fun j hj hj2=>by omega) fun m hm lo hi=>?_;obtain⟨b,ge⟩:=a.bub hk hm;refine xms o c f (k+1) _ (by omega) b (fun i j hij hj=>?_) hG;have inS:∀ i,i<m->lt (g p i) (g p k)=true:=fun i hi'=>o.tot _ _ (a.lt k hk) (a.lt i (by omega)) (fun z=>by have:=a.inj _ _ hk (by omega) z; omega) (lo i hi');have g1:∀ i,i<n->i=m->g (bubble p k (k-m)) i=g p k:=fun i hi z=>by rw[ge i hi,if_pos z]
  have g2:∀ i,i<n->m<i->i<=k->g (bubble p k (k-m)) i=g p (i-1):=fun i hi z z2=>by rw[ge i hi,if_neg (by omega),if_pos ⟨z,z2⟩]
  have g3:∀ i,i<n->i<m->g (bubble p k (k-m)) i=g p i:=fun i hi z=>by rw[ge i hi,if_neg (by omega),if_neg (by omega)]
  by_cases j1:j=m
  .rw [g1 j (by omega) j1,g3 i (by omega) (by omega)];exact inS i (by omega)
  .by_cases i1:i=m
   .rw [g1 i (by omega) i1,g2 j (by omega) (by omega) (by omega)];exact hi (j-1) (by omega) (by omega)
   .by_cases j2:m<j
    .rw [g2 j (by omega) j2 (by omega)];by_cases i2:m<i
     .rw [g2 i (by omega) i2 (by omega)];exact sk _ _ (by omega) (by omega)
     .rw [g3 i (by omega) (by omega)];by_cases z:i=j-1
      .omega
      .exact sk _ _ (by omega) (by omega)
    .rw [g3 j (by omega) (by omega),g3 i (by omega) (by omega)];exact sk _ _ hij (by omega)
theorem xmt:Arr n (ZI n).toArray:=by
 have e:∀ i,i<n->g (ZI n).toArray i=i:=fun i hi=>g_at (by rw[List.getElem?_toArray,YG hi]);exact⟨by simp,fun i hi=>by rw[e i hi]; exact hi,fun i j hi hj z=>by rw[e i hi,e j hj] at z; exact z,Array.Perm.refl _⟩
theorem sort_wp (o:Ord n lt) (c:Cmp n lt cmp s) (h2:2<=n) {G:Array Nat->Shared->Prop} (hG:∀ p,Arr n p->Srtd lt p n->G p s):KasT.kasWp cmp (kas_sort n) G s:=by
 unfold kas_sort;rw[KasT.kasWp_bind];refine xol o c xmt h2 fun m p hm hm2 a sm=>?_;show KasT.kasWp cmp (if m<n then _ else _) G s;by_cases e:m<n
 .rw [if_pos e];show KasT.kasWp cmp (kas_bin (n-max m 1) p (max m 1)) G s;rw[Nat.max_eq_left hm];exact xms o c (n-m) m p (by omega) a sm hG
 .rw [if_neg e];have:m=n:=by omega
  subst this;exact xcc (hG p a sm)
end
end Srt
namespace XL
open PySem
def Xat (h:Heap) (e:Addr) (cls:Value) (od tb:Option Addr):Prop :=
 ∃ oe vs,h.get? e=some oe/\oe.cls=cls/\oe.dict=od/\oe.data=.fields vs/\1<vs.size /\
  ((tb=none/\vs[1]?=some ZW)\/∃ T oT ts,tb=some T/\vs[1]?=some (.ref T)/\T≠e/\h.get? T=some oT/\oT.data=.fields ts/\ts[3]?=some ZW)
structure Stp (fs:List Addr) (e:Addr) (tb:Option Addr) (h h':Heap):Prop where
 keep:∀ b o,h.get? b=some o->b≠e->tb≠some b->b∉fs->h'.get? b=some o
 slot:∀ b o,h.get? b=some o->b∈fs->∃ sl,h'.get? b=some { o with slots:=sl }
abbrev xid (l:List Env):List Addr:=l.filterMap (·.frame)
theorem xmk (o:Obj) (f:Array Value->Array Value):(o.mapFields f).dict=o.dict:=by
 obtain⟨c,d,dt,sl⟩:=o;cases dt<;>rfl
section
variable {M:Model}{A:Around}{E:Value->Shared->Prop}{s:Shared}
theorem xk0 {base:Heap}{env:Env}{outer:List Env}{L e:Addr}{oe:Obj}{vs:Array Value}{hd:Value}{nx:Bool}{cls:Value}{od tb:Option Addr}{g:Heap}{Q:Unit->Shared->Prop}
    (fr:A.frames=some (env::outer)) (ff:s.heap.FunFrames base (env::outer)) (fL:env.frame=some L)
    (ge:s.heap.get? e=some oe) (de:oe.data=.fields vs) (se:1<vs.size) (ce:oe.cls=cls) (oo:oe.dict=od)
    (st:Stp (xid (env::outer)) e tb g s.heap) (sz:g.objs.size<=s.heap.objs.size)
    (k:∀ h' T,Stp (xid (env::outer)) e tb g h'->g.objs.size<=T->Xat h' e cls od (some T)->Q () { s with heap:=h' }) :
    wpAny M A (do let a <- frameOf env; let pl <- entryPlaceOf L nx; let b <- EntryCells.newEntry hd a .none (rawInt L) .none pl; setField (.ref e) 1 b) (fun _ s'=>wpAny M A (setFlight (.ref e) none) Q E s') E s:=by
  have nef:e∉xid (env::outer):=fun hm=>by
    obtain⟨_,o,ho,hnf⟩:=ff.mem hm;have z:=ge.symm.trans ho;cases z;exact hnf vs de
  refine Zb (wpAny_frameOf_fun fr ff fL fun h1 so=>?_);refine Zb (wpAny_entryPlaceOf fun pl ip=>?_);unfold EntryCells.newEntry newFields;refine Zb (JR ?_ (ip.sizeOk5 _ _ _ _ _));have e1:h1.get? e=some oe:=(so.2.1 e nef).trans ge;generalize eT:({ cls:=.type "traceback",dict:=none,data:=.fields ([hd,.ref L,.none,rawInt L,.none]++(if pl.isEmpty then Q5 6 ZW else pl)).toArray }:Obj)=oT;have dT:oT.data=.fields ([hd,.ref L,.none,rawInt L,.none]++(if pl.isEmpty then Q5 6 ZW else pl)).toArray:=by rw[<- eT]
  have fT:oT.isFreed=false:=by rw[<- eT]; rfl
  have e2:(h1.push oT).get? e=some oe:=Ze oT e1;refine QV e2 de se ?_;have nTe:h1.objs.size≠e:=YD (Zs e1);have d3:=YT de (·.setIfInBounds 1 (Zk h1.objs.size));have e3:=ZO (Yh (·.setIfInBounds 1 (Zk h1.objs.size))) e2 (Y2 d3);have T3:((h1.push oT).update e (Yh (·.setIfInBounds 1 (Zk h1.objs.size)))).get? h1.objs.size=some oT :=
    (ZY (h1.push oT) _ (Zw nTe)).trans (Zo h1 fT)
  unfold setFlight;refine Zb (Ya e3 d3 (x:=.ref h1.objs.size) (by simp[se]) ?_);rw[if_pos (show (Zk h1.objs.size != ZW)=true from by simp)];refine QV T3 dT (by simp only[Zy,Zu,ZJ,List.length_nil]<;>omega) (k _ h1.objs.size ?_ ?_ ?_)
  . have go:∀ b o,b≠e->h1.get? b=some o->(((h1.push oT).update e (Yh (·.setIfInBounds 1 (Zk h1.objs.size)))).update h1.objs.size
        (Yh (·.setIfInBounds 3 ((none:Option Addr).elim ZW fun f=>rawInt f)))).get? b=some o:=fun b o be hb=>by
      have bT:h1.objs.size≠b:=YD (Zs hb);rw[ZY _ _ bT,ZY _ _ (Zw be)];exact Ze oT hb
    refine⟨fun b o hb be bt bf=>go b o be ((so.2.1 b bf).trans (st.keep b o hb be bt bf)),fun b o hb bf=>?_⟩;obtain⟨sl,h2⟩:=st.slot b o hb bf;obtain⟨sl2,h3⟩:=so.2.2 b _ h2;exact⟨sl2,go b _ (fun z=>nef (z▸bf)) h3⟩
  . rw[so.1]; exact sz
  . refine⟨_,_,?_,(Obj.cls_mapFields _ _).trans ce,(xmk _ _).trans oo,d3,by simp[se],.inr ⟨h1.objs.size,_,_,rfl,by simp[se],nTe,ZO _ T3 (Y2 (YT dT _)),YT dT _,?_⟩⟩
    . rw[ZY _ _ nTe]
      exact e3
    . first|(simp; done)|(rcases ip with rfl|⟨_,_,_,_,_,_,_,rfl⟩<;>simp)
theorem xly {base:Heap}{env:Env}{outer:List Env}{L e:Addr}{cls:Value}{od tb:Option Addr}{Q:Unit->Shared->Prop}
    (fr:A.frames=some (env::outer)) (ff:s.heap.FunFrames base (env::outer)) (fL:env.frame=some L) (x:Xat s.heap e cls od tb)
    (k:∀ h' T,Stp (xid (env::outer)) e tb s.heap h'->s.heap.objs.size<=T->Xat h' e cls od (some T)->Q () { s with heap:=h' }) :
    wpAny M A (noteFrame (.ref e) env) (fun _ s'=>wpAny M A (setFlight (.ref e) none) Q E s') E s:=by
  obtain⟨oe,vs,ge,ce,oo,de,se,y⟩:=x;unfold noteFrame;simp only[fL];rcases y with⟨rfl,h1⟩|⟨T,oT,ts,rfl,h1,nTe,gT,dT,h3⟩
  . refine Zb (Ya ge de h1 ?_)
    rw[if_neg (by decide)];exact xk0 fr ff fL ge de se ce oo ⟨fun b o hb _ _ _=>hb,fun b o hb _=>⟨o.slots,hb⟩⟩ (Zi _) k
  . refine Zb (Ya ge de h1 ?_)
    rw[if_pos (show (Zk T != ZW)=true from by simp)];refine Zb (Ya gT dT h3 ?_);rw[if_neg (show ¬ ((ZW == rawInt L)=true) from by simp[rawInt])];refine Zb (QV gT dT (Array.getElem?_eq_some_iff.mp h3).1 ?_);have ot:∀ b,b≠T->(s.heap.update T (Yh (·.setIfInBounds 3 ZW))).get? b=s.heap.get? b:=fun b hb=>ZY _ _ (Zw hb);have nr:∀ b o,s.heap.get? b=some o->(∀ vs,o.data≠.fields vs)->b≠T:=fun b o hb hn q=>by
      rw[q] at hb;have z:=gT.symm.trans hb;cases z;exact hn ts dT
    refine xk0 (g:=s.heap) fr (ff.of_keeps fun b o hb hn=>⟨o,(ot b (nr b o hb hn)).trans hb,rfl⟩) fL ((ot e (Zw nTe)).trans ge) de se ce oo
      ⟨fun b o hb _ bt _=>(ot b fun z=>bt (congrArg some z.symm)).trans hb,fun b o hb bf=>⟨o.slots,?_⟩⟩ (Nat.le_of_eq (Heap.size_after_update ..).symm) k
    . obtain⟨_,o',ho',hn⟩:=ff.mem bf
      have z:=hb.symm.trans ho';cases z;exact (ot b (nr b _ hb hn)).trans hb
end
section
variable {prog:Program}{w:World}{A:Around}{E:Value->Shared->Prop}{h:Heap}{g:Array GenState}{d:Drawn}{t:Nat}{os:OsState}
variable {nm qn:Str}{C N:Addr}{bs bm bmB:List Value}{hz:Bool}{sn:List Str}{sub:List Value}{ab:Bool}{col:Option Bool}{dd:Option Addr}{k0 k1 k2 k3 k5:Option Value}{B ni ii:String}
theorem xj8 (F:ExcBaseFacts B ni ii bmB) (T:OwnTail h bmB bm) {us:List Value}{fI:Addr}{oI:Obj}{Q:Fin->Shared->Prop}
    (gC:h.get? C=some (excClassObj nm qn C N bs bm hz sn sub ab col dd k0 k1 k2 k3 k5 ni))
    (hi:∀(A':Around) (Q':Option Value->Shared->Prop) (E':Value->Shared->Prop) (s':Shared),(∀ b o,h.get? b=some o->s'.heap.get? b=some o)->Q' (some (.ref fI)) s'->wpAny (model prog w) A' (typeLookup (.ref C) "__init__") Q' E' s')
    (gI:h.get? fI=some oI) (cI:oI.cls=.type "function") (lu:us.length<=sizeLine)
    (k:∀ h' e,Heap.MadeExcOf h h' e (.ref C) us->h.objs.size<=e ->
      wpAny (model prog w) A (call (.ref fI) (.ref e::us)) (fun r s'=>r=.none/\Q (.done (.ret (.ref e))) s') E ⟨h',g,d,t,os⟩) :
    wpAny (model prog w) A (Builtin.«type.__call__» ⟨.ref C::us,[]⟩) Q E ⟨h,g,d,t,os⟩:=by
  repeat (first|with_reducible refine Yb gC ?_|with_reducible refine wpAny_madeBy_exc gC ?_|wp_step)
  refine codeAny_call_builtin_code (Wj _ F.quiet) (wpAny_check_new_subT F T gC ?_);refine codeAny_exc_new_subT F T gC ?_ lu;show wpAny _ _ _ _ _ _;generalize e1:({ cls:=.type "tuple",data:=.seq us.toArray }:Obj)=oT;have fT:oT.isFreed=false:=by rw[<- e1]; rfl
  generalize e2:({ cls:=.ref C,data:=.fields #[.ref h.objs.size,.none,.none,.none,.bool false,.none] }:Obj)=oE;have fE:oE.isFreed=false:=by rw[<- e2]; rfl
  have up:∀ b o,h.get? b=some o->((h.push oT).push oE).get? b=some o:=fun b o q=>Ze oE (Ze oT q);have gC':=up _ _ gC;have gI':=up _ _ gI;have gE:((h.push oT).push oE).get? (h.objs.size+1)=some oE:=by
    have z:=Zo (h.push oT) fE
    rwa [Ym] at z
  have cE:oE.cls=.ref C:=by rw[<- e2]
  have me:(Zk C::bm).contains (.ref C)=true:=by simp
  unfold isInstance
  repeat (first|(with_reducible refine Yb gE ?_; rw[cE])|(with_reducible refine Qw gC' ?_; rw[me])|wp_step)
  show wpAny _ _ (typeLookup (.ref C) _) _ _ _;refine hi _ _ _ _ up ?_;refine Jk (Zb ?_);unfold bindSpecial;refine Zb (Qz (T:="function") ⟨_,gI',cI⟩ ?_);rw[if_pos (by decide)];refine Zg (Zb (ZU (k _ (h.objs.size+1) ⟨up,Wa (Y9 _),h.objs.size,?_,Wa (Zi _),?_⟩ (Y9 _)) (fun r s' z=>?_) fun _ _ x=>x))
  . rw[e2]; exact gE
  . rw[e1]; exact Ze oE (Zo h fT)
  . obtain⟨rfl,z⟩:=z
    wp_walk
    exact z
theorem xk4 (F:ExcBaseFacts B ni ii bmB) (T:OwnTail h bmB bm) {us:List Value}{fI:Addr}{oI:Obj}{Q:Value->Shared->Prop}
    (gC:h.get? C=some (excClassObj nm qn C N bs bm hz sn sub ab col dd k0 k1 k2 k3 k5 ni))
    (hi:∀(A':Around) (Q':Option Value->Shared->Prop) (E':Value->Shared->Prop) (s':Shared),(∀ b o,h.get? b=some o->s'.heap.get? b=some o)->Q' (some (.ref fI)) s'->wpAny (model prog w) A' (typeLookup (.ref C) "__init__") Q' E' s')
    (gI:h.get? fI=some oI) (cI:oI.cls=.type "function") (lu:us.length<=sizeLine)
    (k:∀ h' e,Heap.MadeExcOf h h' e (.ref C) us->h.objs.size<=e ->
      wpAny (model prog w) (A.under (.builtin "type.__call__" ⟨.ref C::us,[]⟩)) (call (.ref fI) (.ref e::us)) (fun r s'=>r=.none/\Q (.ref e) s') E ⟨h',g,d,t,os⟩) :
    wpAny (model prog w) A (call (.ref C) us) Q E ⟨h,g,d,t,os⟩:=by
  have a1:=tc_lookup;have a2:=tc_bind (.ref C);have ty:(⟨h,g,d,t,os⟩:Shared).TypeIs (.ref C) "type":=⟨_,gC,rfl⟩
  refine Qh (codeAny_of_tree ?_);show wpAny _ _ (callAny (.ref C) _) _ _ _
  repeat (any_goals (first|assumption|with_reducible refine Yb gC ?_|wp_step))
  refine⟨rfl,?_⟩;refine codeAny_call_builtin_at (Wj _ (by decide +kernel)) entry_typeCall (wpAny_check_type_call_sub gC (xj8 F T gC hi gI cI lu fun h' e hm hs=>?_));exact k h' e hm hs
theorem xqf {M:Model}{s:Shared}{env:Env}{x:Sem Value}{Q:Flow->Shared->Prop} (hh:A.handled=none)
    (k:wpAny M A x (fun v s1=>∃ e od C nm qn N bs bm hz sn sub ab col dd k0 k1 k2 k3 k5 ni,v=.ref e/\bm.contains (.type "BaseException")=true/\s1.heap.get? C=some (excClassObj nm qn C N bs bm hz sn sub ab col dd k0 k1 k2 k3 k5 ni)/\Xat s1.heap e (.ref C) od none/\E (.ref e) s1) E s) :
    wpAny M A (raiseStmt env (some x) none) Q E s:=by
  unfold raiseStmt;refine Zb (ZU k (fun v s1 z=>?_) fun _ _ x=>x);obtain⟨e,od,C,nm,qn,N,bs,bm,hz,sn,sub,ab,col,dd,k0,k1,k2,k3,k5,ni,rfl,bB,gC,⟨oe,vs,ge,ce,oo,de,se,y⟩,zE⟩:=z;have me:(Zk C::bm).contains (.type "BaseException")=true:=by rw[Q8,bB,Bool.or_true]
  obtain⟨hp,g,d,tk,os⟩:=s1;rcases y with⟨_,y1⟩|⟨T,_,_,z,_⟩
  . repeat (first|(with_reducible refine Yb ge ?_; rw[ce])|with_reducible refine Yb gC ?_|(with_reducible refine Qw gC ?_; rw[me])|wp_step)
    rw[de];refine Zg ?_;rw[y1];refine Zg ?_;rw[if_neg (by decide)];exact Zg (Qv hh zE)
  . cases z
end
end XL
namespace XL
open PySem PySem.W PySem.Calls PyProof.Rows Builtin Builtin.ObjectAttr
def vErr:List Value:=[.type "ValueError",.type "Exception",.type "BaseException",.type "object"]
def xek:List Value->Bool
 | []=>false
 | .ref c::r=>xek r||((.ref c::r:List Value) == vErr)
 | v::r=>(v::r) == vErr
def xkq (K:Frag) (C:Addr):Bool:=(clsIn K C).any fun cd=>xek cd.mro
theorem xhr (self:Value):∀{l:List Value},xek l=true->refuseLoop self "__setattr__" l=pure ()
 | [],e=>by cases e
 | v::r,e=>by
  have last:((v::r:List Value) == vErr)=true->refuseLoop self "__setattr__" (v::r)=pure ():=fun z=>by
   rw[QG z];exact PySem.F.store_ValueError.passes self
  cases v with
  | ref c =>
   rcases Bool.or_eq_true_iff.mp e with z|z
   .rw [refuseLoop_ref];exact xhr self z
   .exact last z
  | _=>exact last e
theorem xfx:∀{l:List Value},xek l=true->l.contains (.type "object")=true/\l.contains (.type "BaseException")=true/\l.isEmpty=false
 | [],e=>by cases e
 | v::r,e=>by
  have last:((v::r:List Value) == vErr)=true->(v::r).contains (.type "object")=true/\(v::r).contains (.type "BaseException")=true/\(v::r).isEmpty=false:=fun z=>by
   rw[QG z];exact⟨by decide +kernel,by decide +kernel,rfl⟩
  cases v with
  | ref c =>
   rcases Bool.or_eq_true_iff.mp e with z|z
   .obtain ⟨a,b,_⟩:=xfx z;exact⟨by rw[Q8,a,Bool.or_true],by rw[Q8,b,Bool.or_true],rfl⟩
   .exact last z
  | _=>exact last e
structure XC (K:Frag) (C:Addr):Prop where
 over:xkq K C=true
 hd:hasDictIn K C=true
 sa:findIn K (.ref C) "__setattr__"=some (some (.builtin "object.__setattr__"))
 ga:findIn K (.ref C) "__getattribute__"=some (some (.builtin "BaseException.__getattribute__"))
 gh:findIn K (.ref C) "__getattr__"=some none
 ca:findIn K (.ref C) "__class__"=some (some (.builtin "object.__class__"))
 cg:specialIn K (.builtin "object.__class__") "__get__"=some (some (.builtin "getset_descriptor.__get__"))
 ct:takesIn K (.builtin "object.__class__")=some true
section
variable {prog:Program}{w:World}{A:Around}{E:Value->Shared->Prop}{s:Shared}{K:Frag}{x C dx:Addr}{ox:Obj}{od:Option Obj}{name:Str}{v:Value}{R:Result->Shared->Prop}
theorem XC.mro (c:XC K C):∃ cd,clsIn K C=some cd/\xek cd.mro=true/\cd.hasDict=true:=by
 obtain⟨cd,h1,h2⟩:=any_some c.over;obtain⟨cd',h3,h4⟩:=any_some c.hd;rw[h1] at h3;cases h3;exact⟨cd,h1,h2,h4⟩
theorem XC.isObj (c:XC K C):mroIn K C (.type "object")=some true:=by
 obtain⟨cd,h1,h2,_⟩:=c.mro;obtain⟨a,_,b⟩:=xfx h2;unfold mroIn;rw[h1,QI,if_neg (by rw[b]; decide),a]
theorem XC.isExc (c:XC K C):mroIn K C (.type "BaseException")=some true:=by
 obtain⟨cd,h1,h2,_⟩:=c.mro;obtain⟨_,a,b⟩:=xfx h2;unfold mroIn;rw[h1,QI,if_neg (by rw[b]; decide),a]
theorem xpc {tk:Tok} (X:K.In s.heap) (c:XC K C) (I:InstAt s.heap x ox C od) (ha:findIn K (.ref C) name=some none)
    (h:wpAny (model prog w) A.in1 (storeInOwnDict (.ref x) (.ref C) (.str name tk) name v false)
      (fun fin s'=>match fin with|.done f=>R (.ok f) s'|.again c'=>c'.quiet=true/\codeAny (model prog w) A c' R s') (fun e s'=>R (.error e) s') s) :
    codeAny (model prog w) A (.call (.builtin "object.__setattr__") ⟨[.ref x,.str name tk,v],[]⟩) R s:=by
  have SF:=PySem.F.store_object;obtain⟨cd,hc,hl,_⟩:=c.mro;have sub:Looks (model prog w) s.heap (isInstance (.ref x) (.type "object")) true:=I.type.andThen (looks_mroIn X c.isObj);refine Qp SF.slot.plain SF.entry (@check_slot (model prog w) _ _ s "object.__setattr__" "object" "__setattr__" (.ref x) [.str name tk,v] [] _ SF.kind SF.split sub (SF.args (.ref x) (.str name tk) v) ?_);have hm:Looks (model prog w) s.heap (mroOf (.ref C)) cd.mro:=(looks_clsIn X hc).andThen .now;rw[osa_eq,refuse_eq];refine Zb (Zb (I.type.here (Zb (hm.here ?_))));rw[xhr _ hl];refine Zg (Zb (I.type.here (Zb ((looks_findIn X ha).here (Zb ((Looks.now (a:=(none:Option Value))).here ?_))))));exact h
theorem xt0 (X:K.In s.heap) (c:XC K C) (hx:s.heap.get? x=some ox) (hc:ox.cls=.ref C) (ho:ox.dict=some dx) {Q:Option Addr->Shared->Prop} (h:Q (some dx) s) :
    wpAny (model prog w) A (ownDictForStores (.ref x)) Q E s:=by
  obtain⟨cd,h1,_,h2⟩:=c.mro;unfold ownDictForStores instanceDict;refine Zb (Q4 hx ?_);rw[hc];refine Zb ((looks_clsIn X h1).here ?_);rw[h2,ho];exact Zg h
theorem xr6 {ns:List Str}{mA:Str->Option Value}{Q:Unit->Shared->Prop} (X:K.In s.heap) (c:XC K C) (hx:s.heap.get? x=some ox) (hc:ox.cls=.ref C) (hn:notCls ox=true) (ho:ox.dict=some dx) (hm:s.heap.Ns1 dx mA)
    (ha:findIn K (.ref C) name=some none) (hw:YY mA ns) (hz:ns.length<=sizeLine)
    (h:∀ h',h'.Ns1 dx (fun y=>if y=name then some v else mA y)->ZX dx s.heap h'->Q () { s with heap:=h',toks:=s.toks+2 }) :
    wpAny (model prog w) A (setAttr (.ref x) name v) Q E s:=by
  obtain⟨o1,_,_,g1,_⟩:=id hm;have I:InstAt s.heap x ox C (some o1):=⟨hx,hc,hn,by rw[ho]; exact g1⟩
  refine set_plain X I c.sa (xpc (s:={ s with toks:=s.toks+1 }) X c I ha ?_);refine Zb (Zg (Zb (xt0 (s:={ s with toks:=s.toks+1 }) X c hx hc ho ?_)));refine Zb (Zg (Zb ?_));refine wpAny_nsSet1 (s:={ s with toks:=s.toks+1 }) hm fun h' n2 s2=>?_;obtain⟨oD,eD,pD,gD,dD,cD⟩:=n2.count (YY.cons name v hw);refine Zb (wpAny_lookBehind gD (by rw[dD]; exact pastItsLine_dict (Z6 cD (by rw[ZJ]; omega))) ?_);exact Zg (h _ n2 s2)
theorem xss {Q:Unit->Shared->Prop} (X:K.In s.heap) (c:XC K C) (hx:s.heap.get? x=some ox) (hc:ox.cls=.ref C) (hn:notCls ox=true) (ho:ox.dict=none) (hf:ox.isFreed=false)
    (ha:findIn K (.ref C) name=some none)
    (h:∀ h',h'.get? x=some { ox with dict:=some s.heap.objs.size }->h'.Ns1 s.heap.objs.size (fun y=>if y=name then some v else none) ->
      (∀ b o,b≠x->s.heap.get? b=some o->h'.get? b=some o)->s.heap.objs.size<=h'.objs.size->Q () { s with heap:=h',toks:=s.toks+2 }) :
    wpAny (model prog w) A (setAttr (.ref x) name v) Q E s:=by
  obtain⟨cd,h1,_,h2⟩:=c.mro;have I:InstAt s.heap x ox C none:=⟨hx,hc,hn,by rw[ho]; trivial⟩
  refine set_plain X I c.sa (xpc (s:={ s with toks:=s.toks+1 }) X c I ha ?_);refine Zb (Zg (Zb ?_));unfold ownDictForStores instanceDict;refine Zb (Q4 (s:={ s with toks:=s.toks+1 }) hx ?_);rw[hc];refine Zb ((looks_clsIn X h1).here (s:={ s with toks:=s.toks+1 }) ?_);rw[h2,ho,if_neg (by simp)];obtain⟨oc,odi,oda,osl⟩:=ox
  dsimp only at hc ho
  subst hc ho;have hx1:(s.heap.push { cls:=.type "dict",data:=.dict #[] }).get? x=some ⟨.ref C,none,oda,osl⟩:=Ze _ hx;have nx:x≠s.heap.objs.size:=ZD (Zs hx);have key:wpAny (model prog w) A.in1 (do let d <- alloc { cls:=.type "dict",data:=.dict #[] }; update x (fun o=>{ o with dict:=some d }); dictMade (.ref C) x d)
      (fun a s'=>wpAny (model prog w) A.in1 (match a with|some d=>storeInDict d (.str name s.toks) name v|none=>noDictFor (.ref x) (.ref C) name false)
        (fun fin s'=>match fin with
          | .done f=>(match (Except.ok f:Result) with|.ok (.ret _)=>Q () s'|.ok _=>False|.error e=>E e s')
          | .again c'=>c'.quiet=true/\codeAny (model prog w) A c' (fun r s'=>match r with|.ok (.ret _)=>Q () s'|.ok _=>False|.error e=>E e s') s')
        (fun e s'=>E e s') s') (fun e s'=>E e s') { s with toks:=s.toks+1 }:=by
    refine Zb (wpAny_alloc' ?_);refine Zb (wpAny_update' hx1 ?_);refine Zg ?_
    dsimp only
    have g2:((s.heap.push { cls:=.type "dict",data:=.dict #[] }).update x fun o=>{ o with dict:=some s.heap.objs.size }).get? s.heap.objs.size=some { cls:=.type "dict",data:=.dict #[] } :=
      (Heap.get?_update_ne _ _ _ _ nx.symm).trans (Heap.get?_push_at rfl rfl)
    have n2:((s.heap.push { cls:=.type "dict",data:=.dict #[] }).update x fun o=>{ o with dict:=some s.heap.objs.size }).Ns s.heap.objs.size (fun _=>none) :=
      ⟨_,#[],_,g2,rfl,fun e he=>absurd he (by simp),fun _=>rfl⟩
    unfold storeInDict newKeyGuard;refine Zb (Zg (Zb (wpAny_nsSet1 (Heap.Ns1.of_empty n2) fun h' n3 s3=>?_)));obtain⟨oD,eD,pD,gD,dD,cD⟩:=n3.count (Within.cons name v Within.nil);refine Zb (wpAny_lookBehind gD (by rw[dD]; exact pastItsLine_dict (Z6 cD (by rw[ZJ,List.length_nil,Qn]; omega))) ?_);refine Zg (h h' ?_ n3 (fun b o bx hb=>?_) ?_)
    . refine (s3.2 x nx).trans (ZO _ hx1 ?_)
      cases oda<;>first|rfl|exact hf
    . exact (s3.2 b (ZD (Zs hb))).trans ((Heap.get?_update_ne _ _ _ _ bx).trans (Ze _ hb))
    . rw[s3.1,Heap.size_after_update,Ym]
      exact Y9 _
  cases oda<;>first|exact key|cases hn
theorem xqh (v:Value):bindSpecial (.builtin "BaseException.__getattribute__") v=pure (.builtin "BaseException.__getattribute__",[v]):=by
 have f:=PySem.F.attr_ValueError.ga.bind v;exact f
theorem xny:plainId "BaseException.__getattribute__"=true:=PySem.F.attr_ValueError.ga.plain
theorem xma {Q:Value->Shared->Prop}{expr fill:Bool}{tk:Tok} (X:K.In s.heap) (c:XC K C) (I:InstAt s.heap x ox C od)
    (h:wpAny (model prog w) A.in1 (Builtin.«object.__getattribute__» ⟨[.ref x,.str name tk],[]⟩)
      (fun fin s'=>match fin with|.done (.ret v)=>wpAny (model prog w) A (handedOut v) Q E s'|_=>False) (fun _ _=>False) s) :
    wpAny (model prog w) A (getAttrBy (.ref x) (.str name tk) fill expr) Q E s:=by
  obtain⟨hh,g,d,t,os⟩:=s;have L0:=I.type (M:=model prog w);have L1:=looks_findIn (M:=model prog w) X c.ga;have L2:=looks_findIn (M:=model prog w) X c.gh;have sub:Looks (model prog w) hh (isInstance (.ref x) (.type "BaseException")) true:=I.type.andThen (looks_mroIn X c.isExc);have f2:(onTheHeap (Zk C)&&Ql "BaseException.__getattribute__" == Ql "object.__getattribute__")=false:=by
    rw[show (Ql "BaseException.__getattribute__" == Ql "object.__getattribute__")=false from by decide +kernel]; rfl
  have f3:(expr&&onTheHeap (Ql "BaseException.__getattribute__"))=false:=by cases expr<;>rfl
  unfold getAttrBy;refine Jk (Zb (L0.at (Zb (L1.at ?_))))
  dsimp only
  rw[f2];simp only[Q9,if_false];unfold getAttrByItsOwn hookBefore;refine Zb (L2.at (Zb (Y0 (Jk ?_))));unfold callGetattribute;rw[f3];simp only[Q9,if_false];unfold boundAndCalled;rw[xqh];refine Zb (Zg (Qh (Qp xny PySem.F.entry_bexc_ga
    (@check_slot (model prog w) _ _ ⟨hh,g,d,t,os⟩ "BaseException.__getattribute__" "BaseException" "__getattribute__" (.ref x) [.str name tk] [] _ (by decide +kernel) (by decide +kernel) sub (PySem.F.args_bexc_ga _ _) ?_))))
  refine ZU h (fun fin s' z=>?_) fun e s' z=>z.elim;rcases fin with (_|_|_|_)|_<;>first|exact z|exact z.elim
theorem xuj {Q:Value->Shared->Prop}{expr:Bool} (X:K.In s.heap) (c:XC K C) (hx:s.heap.get? x=some ox) (hc:ox.cls=.ref C) (hn:notCls ox=true) (ho:ox.dict=some dx) {o1:Obj} (g1:s.heap.get? dx=some o1) (hl:lookIn name o1=some (some v))
    (ha:findIn K (.ref C) name=some none) (hv:handedIn v=true) (h:Q v { s with toks:=s.toks+1 }) :
    wpAny (model prog w) A (getAttr (.ref x) name expr) Q E s:=by
  have I:InstAt s.heap x ox C (some o1):=⟨hx,hc,hn,by rw[ho]; exact g1⟩
  have hf:findObj K C (some o1) name=some (.value v):=findObj_own c.hd ha rfl hl;unfold getAttr;refine Zb (wpAny_mkText ?_);refine xma (s:={ s with toks:=s.toks+1 }) X c I ?_;have L0:=I.type (M:=model prog w);have L1:=looks_find (M:=model prog w) X I hf;obtain⟨hh,g,d,t,os⟩:=s;refine Zb (Zg (Zb (Zg (Zb (L0.at (Zb (L1.at ?_)))))));refine Zg ?_;show wpAny _ _ (handedOut v) _ _ _;rw[handedOut_of hv];exact Zg h
theorem xn3 {Q:Option Value->Shared->Prop} (X:K.In s.heap) (c:XC K C) (I:InstAt s.heap x ox C od) (h:Q (some (.ref C)) { s with toks:=s.toks+1 }) :
    wpAny (model prog w) A (getAttr? (.ref x) "__class__") Q E s:=by
  obtain⟨cd,h1,_,h2⟩:=c.mro;have hf:findObj K C od "__class__"=some (.bind (.builtin "getset_descriptor.__get__") (.builtin "object.__class__")):=by
    unfold findObj;rw[h1,QI,c.ca,QI];simp[c.cg,c.ct]
  unfold getAttr? getAttrBy?;refine Zb (wpAny_mkText (Zb (Y0 ?_)));refine xma (s:={ s with toks:=s.toks+1 }) X c I ?_;have L0:=I.type (M:=model prog w);have L1:=looks_find (M:=model prog w) X I hf;refine Zb (Zg (Zb (Zg (Zb (L0.here (s:={ s with toks:=s.toks+1 }) (Zb (L1.here (s:={ s with toks:=s.toks+1 }) ?_)))))));show wpAny _ _ (holding [_] (call _ [_,.ref x,.ref C])>>=ret) _ _ _;refine Zb (Jk (Qh (class_get (s:={ s with toks:=s.toks+1 }) (ox:=ox) (od:=od) X I c.isObj ?_)));refine Zg ?_;show wpAny _ _ (handedOut (.ref C)) _ _ _;exact Zg (Zg h)
end
end XL
namespace XL
open PySem
theorem xnz {x y:Str}{v:Value} (hx:v.isStr x=true) (n:y≠x):v.isStr y=false:=by
 cases v<;>simp_all[Value.isStr];exact fun z=>n z.symm
theorem xf7 {name y:Str} (n:y≠name):∀(l:List DictEntry) (i:Nat),l.findIdx? (·.key.isStr name)=some i->(l.eraseIdx i).find? (·.key.isStr y)=l.find? (·.key.isStr y)
 | [],i,h=>by simp at h
 | e::r,i,h=>by
  rw[List.findIdx?_cons] at h;by_cases q:e.key.isStr name=true
  .rw [if_pos q] at h;cases h;have z:=xnz q n;simp[z]
  .rw [if_neg q] at h;cases hi:r.findIdx? (·.key.isStr name) with
   | none=>rw[hi] at h; cases h
   | some j =>
    rw[hi] at h;cases h;have ih:=xf7 n r j hi;simp only[List.eraseIdx_cons_succ,Yz];split
    .rfl
    .exact ih
section
variable {M:Model}{A:Around}{E:Value->Shared->Prop}{s:Shared}{env:Env}
theorem xrf {a:Addr}{m:Str->Option Value}{name:Str}{Q:Bool->Shared->Prop} (hn:s.heap.Ns a m)
    (k:∀ h' m',h'.Ns a m'->(∀ y,y≠name->m' y=m y)->ZX a s.heap h'->Q (m name).isSome { s with heap:=h' }):wpAny M A (nsDel a name) Q E s:=by
  obtain⟨o,es,ep,ho,hd,hk,hm⟩:=id hn;have nor:es.any (·.refKey)=false:=by
    rw[Array.any_eq_false'];intro e he;obtain⟨n,t,h⟩:=hk e he;simp[DictEntry.refKey,h]
  have some_eq:(m name).isSome=es.any (·.key.isStr name):=by
    rw[<- hm name];simp only[nsFind,findBy,Y4];rw[J6];simp only[Array.find?_isSome,Array.any_eq_true];constructor
    . rintro ⟨z,hz,hp⟩
      obtain⟨i,hi,rfl⟩:=Array.mem_iff_getElem.mp hz;exact⟨i,hi,hp⟩
    . rintro ⟨i,hi,hp⟩
      exact⟨_,Array.getElem_mem hi,hp⟩
  have has:nsHas name o=pure (es.any (·.key.isStr name)):=by
    rw[nsHas_eq];unfold nsHasByArray;rw[hd];show (if (es.any fun z=>z.key.isStr name)=true then _ else _)=_;generalize (es.any fun z=>z.key.isStr name)=b;cases b<;>simp[nor]
  unfold nsDel;refine Zb (Q4 ho ?_);rw[has];refine Zb (Zg ?_);rw[<- some_eq];cases q:(m name).isSome
  . have z:=k s.heap m hn (fun _ _=>rfl) (.refl ..)
    rw[q] at z;exact Zg z
  . refine Zb (wpAny_updatePart ho (Zg ?_))
    have key:∃ m',(s.heap.update a (Obj.dropName name)).Ns a m'/\∀ y,y≠name->m' y=m y:=by
      obtain⟨cl,d,dt,sl⟩:=o;subst hd;cases hi:es.findIdx? (·.key.isStr name) with
      | none =>
        exact⟨m,⟨_,_,ep,ZO _ ho (by simp only[QR,Qx,hi]<;>rfl),(by simp only[QR,Qx,hi]<;>rfl),hk,hm⟩,fun _ _=>rfl⟩
      | some i =>
        refine⟨_,⟨_,_,ep+1,ZO _ ho (by simp only[QR,Qx,hi]<;>rfl),(by simp only[QR,Qx,hi]<;>rfl),hk.erase i,fun _=>rfl⟩,fun y hy=>?_⟩;rw[<- hm y];obtain⟨l⟩:=es;have hi':l.findIdx? (·.key.isStr name)=some i:=by simpa using hi
        have z:=xf7 hy l i hi';simp only[nsFind,findBy];have il:i<l.length:=by
          have:=List.findIdx?_eq_some_iff_findIdx_eq.mp hi';exact this.1
        have e1:(Array.mk l).eraseIdxIfInBounds i=Array.mk (l.eraseIdx i):=by
          simp[Array.eraseIdxIfInBounds,il]
        rw[e1];simp only[List.find?_toArray];rw[z]
    obtain⟨m',n',e'⟩:=key;have z:=k _ m' n' e' (ZX.update ..);rw[q] at z;exact z
theorem xlz {n:Str}{pos:Pos}{m:Str->Option Value}{Q:Unit->Shared->Prop} (hl:env.kindOf n=some .local) (hn:s.heap.Ns env.locals m)
    (hp:(env.scope.kind == .class||(env.scope.kind == .module&&env.locals != env.globals))=false)
    (h:∀ h' m',h'.Ns env.locals m'->(∀ y,y≠n->m' y=m y)->ZX env.locals s.heap h'->Q () { s with heap:=h',toks:=s.toks+1 }) :
    wpAny M A (do bindName env n .none; unbindBehindTheSuite env n pos) Q E s:=by
  refine Zb (wpAny_bindName (wpAny_storeName_local hl hn (fun h1 n1 s1=>?_) hp));unfold unbindBehindTheSuite;refine wpAny_onRaise ?_;unfold unbindName;refine Zb (wpAny_point (Zb ?_));unfold deleteName;simp only[hl,hp];rw[if_neg (by decide)];refine Zb (xrf n1 fun h2 m2 n2 e2 s2=>?_);simp only[if_true,Option.isSome_some,Bool.not_true,Q9,if_false];refine Zg (wpAny_point (h h2 m2 n2 (fun y hy=>?_) (s1.trans s2)));rw[e2 y hy,if_neg hy]
end
end XL
namespace L2
open PySem PySem.Spec PyProof.Rows XL
variable {q0:Bool}
def XN (e C:Addr) (od:Option Addr):HO:=.ext fun h=>Xat h e (.ref C) od none
def XO (e C:Addr) (od:Option Addr):HO:=.ext fun h=>∃ ox vs,h.get? e=some ox/\ox.cls=.ref C/\ox.dict=od/\ox.data=.fields vs
def XD (dx:Addr) (fs:List (Str × V)):HO:=.ext fun h=>fs.length<=1000/\∃ mA,h.Ns1 dx mA/\(∀ f,RelO (fs.lookup f) (mA f))/\YY mA (fs.map (·.1))
section
variable {P:Program}{w:World}{H:Hp}{h:Heap}{e C dx:Addr}{od:Option Addr}{fs:List (Str × V)}
theorem xlt (x:Xat h e (.ref C) od none):xap P w H h e (XN e C od):=by
 refine⟨x,?_,fun h1 h2 z k=>?_⟩
 .obtain ⟨oe,_,g,_⟩:=x;exact⟨oe,g⟩
 .obtain ⟨oe,vs,g,c,o,d,sz,y⟩:=z;rcases y with y|⟨T,_,_,z,_⟩
  .exact ⟨oe,vs,k oe g,c,o,d,sz,.inl y⟩
  .cases z
theorem xpi (x:∃ ox vs,h.get? e=some ox/\ox.cls=.ref C/\ox.dict=od/\ox.data=.fields vs):xap P w H h e (XO e C od):=by
 refine⟨x,?_,fun h1 h2 z k=>?_⟩
 .obtain ⟨oe,_,g,_⟩:=x;exact⟨oe,g⟩
 .obtain ⟨oe,vs,g,c,o,d⟩:=z;exact⟨oe,vs,k oe g,c,o,d⟩
theorem xl6 {tb:Option Addr} (x:Xat h e (.ref C) od tb):∃ ox vs,h.get? e=some ox/\ox.cls=.ref C/\ox.dict=od/\ox.data=.fields vs:=by
 obtain⟨oe,vs,g,c,o,d,_⟩:=x;exact⟨oe,vs,g,c,o,d⟩
theorem xs0 {h1 h2:Heap}{m:Str->Option Value} (n:h1.Ns1 dx m) (k:∀ o,h1.get? dx=some o->h2.get? dx=some o):h2.Ns1 dx m:=by
 obtain⟨o,es,ep,g,r⟩:=n;exact⟨o,es,ep,k o g,r⟩
theorem xpm (hl:fs.length<=1000) {mA:Str->Option Value} (n:h.Ns1 dx mA) (r:∀ f,RelO (fs.lookup f) (mA f)) (wi:YY mA (fs.map (·.1))):xap P w H h dx (XD dx fs):=by
 refine⟨⟨hl,mA,n,r,wi⟩,?_,fun h1 h2 z k=>?_⟩
 .obtain ⟨o,es,ep,g,_⟩:=n;exact⟨o,g⟩
 .obtain ⟨hl,mA,n,r,wi⟩:=z;exact⟨hl,mA,xs0 n k,r,wi⟩
end
def CXo (P:Program) (w:World):CXT:=fun outer H s E u s'=>∃ e C od H' T,u=.ref e/\s'.os=s.os/\AllBare s'.gens/\Un (frs outer) [] H H' s.heap s'.heap/\HOk P w H' s'.heap /\
 Xat s'.heap e (.ref C) od (some T)/\H' e=some (XO e C od)/\s.heap.objs.size<=T/\H' T=none/\E e C H'
def Tbs (X:Cx) (pins:List (Addr × Obj)) (H:Hp) (tb:Option Addr):Prop:=∀ T,tb=some T->X.s₀.heap.objs.size<=T/\H T=none/\T≠X.env.locals/\(∀ x c,X.env.cells.lookup x=some c->c≠T)/\∀ p∈X.pn++pins,p.1≠T
def xff (X:Cx) (E:St->XK):Prop:=∀(pins:List (Addr × Obj)) (Z:St) (H:Hp) (s:Shared) (e C:Addr) (od tb:Option Addr),Inv X pins Z H s->Xat s.heap e (.ref C) od tb->H e=some (XO e C od) ->
 Tbs X pins H tb->E Z e C H->X.xe (.ref e) s
section
variable {X:Cx}{pins:List (Addr × Obj)}{Z:St}{H:Hp}{s:Shared}{e C:Addr}{od tb:Option Addr}
theorem Inv.size_lt (I:Inv X pins Z H s) {b:Addr} (h:s.heap.objs.size<=b):H b=none/\b≠X.env.locals/\(∀ x c,X.env.cells.lookup x=some c->c≠b)/\∀ p∈X.pn++pins,p.1≠b:=by
 refine⟨I.hok.fresh h,fun z=>?_,fun x c hc z=>?_,fun p hp z=>?_⟩
 .rw [z] at h;exact absurd I.lt (Nat.not_lt.mpr h)
 .obtain ⟨v,o,ho,_⟩:=I.cell x c hc;rw[z] at ho;exact absurd (Zs ho) (Nat.not_lt.mpr h)
 .have g:=(I.pin p hp).1;rw[z] at g;exact absurd (Zs g) (Nat.not_lt.mpr h)
theorem Inv.noted {h':Heap}{T:Addr} (I:Inv X pins Z H s) (he:H e=some (XO e C od)) (tbs:Tbs X pins H tb) (st:Stp (frs X.stack) e tb s.heap h') (x:Xat h' e (.ref C) od (some T)) :
    Inv X pins Z H { s with heap:=h' }:=by
  have neE:∀ b,H b=none->b≠e:=fun b n z=>by rw[z,he] at n; cases n
  have neT:∀ b u,H b=some u->tb≠some b:=fun b u hb z=>by rw[(tbs b z).2.1] at hb; cases hb
  have nfr:∀ b u,H b=some u->b∉frs X.stack:=fun b u hb z=>by rw[I.stkFree b z] at hb; cases hb
  have kp:∀ b u o,H b=some u->b≠e->s.heap.get? b=some o->h'.get? b=some o:=fun b u o hb ne g=>st.keep b o g ne (neT b u hb) (nfr b u hb);have un:Un (frs X.stack) tb.toList H H s.heap h':=by
    refine⟨fun b o g n hb hx=>st.keep b o g (neE b n) (fun z=>hx (by rw[z]; simp)) hb,fun b o g n hb hx=>st.slot b o g hb,fun b o g n hx=>n,fun b o g hx=>?_,fun b xs z=>z,fun b o u z=>z,fun b ps z=>⟨#[],by rw[z]; simp⟩⟩;by_cases b1:b=e
    . subst b1
      obtain⟨oe,_,ge,_⟩:=x;exact⟨oe,ge⟩
    . by_cases b2:b∈frs X.stack
      . obtain⟨sl,q⟩:=st.slot b o g b2
        exact⟨_,q⟩
      . exact⟨o,st.keep b o g b1 (fun z=>hx (by rw[z]; simp)) b2⟩
  have hok:HOk X.prog X.w H h':=fun b u hb=>by
    by_cases b1:b=e
    . subst b1
      rw[he] at hb;cases hb;exact xpi (xl6 x)
    . refine (I.hok b u hb).stay (fun c v hc q=>?_) (fun c q=>q) fun c xs q=>q
      rcases hc with rfl|hc
      . exact kp c u v hb b1 q
      . exact kp c _ v hc (fun z=>by rw[z,he] at hc; cases hc) q
  refine I.call (g':=s.gens) (d':=s.drawn) (t':=s.toks) (ch:=tb.toList) un hok I.bare fun b hb=>?_;have z:tb=some b:=by
    cases tb with
    | none=>simp at hb
    | some T'=>simp at hb; rw[hb]
  obtain⟨a1,_,a3,a4,a5⟩:=tbs b z;exact⟨.inr a1,a3,a4,a5⟩
theorem xff.pass {E:St->XK} (t:xff X E):xcz (CXo X.prog X.w) X E:=fun pins Z H s u s' I h=>by
 obtain⟨e,C,od,H',T,rfl,os,bare,un,hok,x,he,sT,hT,q⟩:=h;have J:Inv X pins Z H' s':=I.call' os un hok bare (ch:=[]) fun b z=>absurd z (by simp);refine t pins Z H' s' e C od (some T) J x he (fun T' z=>?_) q;cases z;obtain⟨_,a,b,c⟩:=I.size_lt sT;exact⟨Z6 I.sz sT,hT,a,b,c⟩
theorem xl:xcz (CXo X.prog X.w) X (fun _ _ _ _=>False):=fun pins Z H s u s' I h=>by
 obtain⟨e,C,od,H',T,_,_,_,_,_,_,_,_,_,q⟩:=h;exact q.elim
theorem xd9 {P:Program}{w:World}{K:Zd}{mg:Str->Option Value}{base:Heap}{N:List Str}{qual:Str}{scope:Scope}{f:Addr}{cd:Value}{A:Around}{outer:List Env}{s₀:Shared}{H₀:Hp}{E:XK} :
    xff (cxOf q0 (CXo P w) P w K mg base N qual scope f cd A outer s₀ H₀ E) (fun _=>E):=fun pins Z H s e C od tb I x he tbs q=>by
  show wpAny (model P w) _ (leaving _ (.ref e)) _ _ s;unfold leaving;refine Zb (xly (L:=s₀.heap.objs.size) I.ok.frames I.stack rfl x fun h' T st sT x'=>?_);have J:=I.noted he tbs st x';exact⟨e,C,od,H,T,rfl,J.os,J.bare,J.base,J.hok,x',he,Z6 I.sz sT,I.hok.fresh sT,q⟩
end
end L2
namespace XL
open PySem PySem.W
def xm6 (e:DictEntry):Bool:=match e.key with|.str _ _=>true|_=>false
def xfz (K:Frag) (ns:Addr):Bool:=match K.lookup ns with
 | some ⟨_,_,.dict es _,_⟩=>es.toList.all xm6&&!(es.toList.any (·.key.isStr "__init__"))
 | _=>false
def xgo (K:Frag):List Value->Bool
  | []=>false
  | .ref a::r=>(match K.lookup a with
      | some ⟨_,_,.cls cd,_⟩=>xfz K cd.ns&&xgo K r
      | _=>false)
  | v::r=>(v::r) == vErr
theorem xt9 {K:Frag}{h:Heap}{ns:Addr} (X:K.In h) (e:xfz K ns=true):∃ mA,h.Ns ns mA/\mA "__init__"=none:=by
 unfold xfz at e;split at e
 .rename_i es n sl ho
  obtain⟨e1,e2⟩:=Bool.and_eq_true_iff.mp e;refine⟨_,⟨_,es,_,X _ _ ho,rfl,fun z hz=>?_,fun _=>rfl⟩,?_⟩
  .have q:=Qk.mp e1 z (Wb.mpr hz);unfold xm6 at q;split at q
   .rename_i a b c
    exact⟨a,b,c⟩
   .cases q
  .unfold nsFind findBy;rw[<- Array.find?_toList];have z:es.toList.find? (fun e=>e.key.isStr "__init__")=none:=by
    rw[List.find?_eq_none];intro y hy q;rw[Y7,List.any_eq_false] at e2;exact e2 y hy q
   rw[z];rfl
 .cases e
theorem xkw {K:Frag}{h:Heap} (X:K.In h):∀{l:List Value},xgo K l=true->OwnTail h vErr l
 | [],e=>by cases e
 | v::r,e=>by
  have last:((v::r:List Value) == vErr)=true->OwnTail h vErr (v::r):=fun z=>by
   rw[QG z];exact .base
  cases v with
  | ref a =>
   unfold xgo at e;split at e
   .rename_i c d cd sl ho
    obtain⟨e1,e2⟩:=Bool.and_eq_true_iff.mp e;obtain⟨mA,n,z⟩:=xt9 X e1;exact .own (X _ _ ho) n z (xkw X e2)
   .cases e
  | _=>exact last e
def xdd (K:Frag) (C:Addr):Bool:=match K.lookup C with
 | some ⟨.type "type",_,.cls cd,sl⟩=>(match cd.mro,sl.toList with
  | .ref C'::bm,[_,_,_,_,some (.builtin i),_]=>C' == C&&!cd.hasDel&&i == "ValueError.__new__"&&xgo K bm
  | _,_=>false)
 | _=>false
theorem xe3 {K:Frag}{h:Heap}{C:Addr} (X:K.In h) (q:xdd K C=true):∃ nm qn N bs bm hz sn sub ab col dd k0 k1 k2 k3 k5,
    h.get? C=some (excClassObj nm qn C N bs bm hz sn sub ab col dd k0 k1 k2 k3 k5 "ValueError.__new__")/\OwnTail h vErr bm:=by
  unfold xdd at q;split at q
  . rename_i dd cd sl ho
    split at q
    . rename_i C' bm k0 k1 k2 k3 n k5 hm hs
      simp only[ZM,beq_iff_eq,Y7] at q;obtain⟨⟨⟨rfl,hdel⟩,rfl⟩,ht⟩:=q;obtain⟨nm,bs,mro,ns,qn,hd,sn,sub,ab,col,del⟩:=cd
      dsimp only at hm hdel
      subst hm hdel;have hsl:sl=#[k0,k1,k2,k3,some (.builtin "ValueError.__new__"),k5]:=by
        obtain⟨l⟩:=sl;simp only at hs;rw[hs]
      subst hsl;exact⟨nm,qn,ns,bs,bm,hd,sn,sub,ab,col,dd,k0,k1,k2,k3,k5,X _ _ ho,xkw X ht⟩
    . cases q
  . cases q
end XL
namespace L2
open PySem PySem.Spec PyProof.Rows XL
variable {q0:Bool}
section
variable {X:Cx}{pins:List (Addr × Obj)}{Z:St}{H:Hp}{s:Shared}{a C dx:Addr}{od:Option Addr}{fs:List (Str × V)}{f:Str}{v y:V}{u:Value}{A:Around}{E:Value->Shared->Prop}
theorem xgv (I:Inv X pins Z H s) (e:H a=some (XN a C od)):Xat s.heap a (.ref C) od none:=(I.hok a _ e).1
theorem xpd (I:Inv X pins Z H s) (e:H a=some (XO a C od)):∃ ox vs,s.heap.get? a=some ox/\ox.cls=.ref C/\ox.dict=od/\ox.data=.fields vs:=(I.hok a _ e).1
theorem xh7 (I:Inv X pins Z H s) (e:H dx=some (XD dx fs)):fs.length<=1000/\∃ mA,s.heap.Ns1 dx mA/\(∀ f,RelO (fs.lookup f) (mA f))/\YY mA (fs.map (·.1)):=(I.hok dx _ e).1
theorem xdu {o:Obj}{vs:Array Value} (d:o.data=.fields vs):PySem.W.notCls o=true:=by
 unfold PySem.W.notCls;rw[d]
theorem xoj {Q:Unit->Shared->Prop} (I:Inv X pins Z H s) (e:H a=some (XN a C none)) (c:XC X.K C) (n:Z4 X.K (.ref C) f=some none) (ry:RelV y u)
    (h:∀ dx s',H dx=none->Inv X pins Z (upd (upd H dx (XD dx [(f,y)])) a (XN a C (some dx))) s'->Q () s'):wpAny (model X.prog X.w) A (setAttr (.ref a) f u) Q E s:=by
  obtain⟨oe,vs,g,ce,oo,de,sz,tb⟩:=xgv I e;refine xss I.kIn c g ce (xdu de) oo (Y2 de) n fun h' g' n' k sz'=>h s.heap.objs.size _ (I.hok.fresh (Zi _)) ?_;have hN:H s.heap.objs.size=none:=I.hok.fresh (Zi _);have nad:a≠s.heap.objs.size:=fun z=>by rw[z,hN] at e; cases e
  have na:∀ b,H b=none->b≠a:=fun b nb z=>by rw[z,e] at nb; cases nb
  have nd:∀ b o,s.heap.get? b=some o->b≠s.heap.objs.size:=fun b o gb=>ZD (Zs gb);have nd':∀ b u,H b=some u->b≠s.heap.objs.size:=fun b u hb z=>by rw[z,hN] at hb; cases hb
  have at1:∀ b,b≠a->b≠s.heap.objs.size->upd (upd H s.heap.objs.size (XD s.heap.objs.size [(f,y)])) a (XN a C (some s.heap.objs.size)) b=H b:=fun b b1 b2=>by rw[xh b1,xh b2]
  have xnew:Xat h' a (.ref C) (some s.heap.objs.size) none:=⟨_,vs,g',ce,rfl,de,sz,by
    rcases tb with t|⟨T,_,_,z,_⟩
    . exact .inl t
    . cases z⟩
  have own1:∀ b c,H c=some (.own b)->c≠a:=fun b c hc z=>by rw[z,e] at hc; cases hc
  have tup1:∀ c xs,H c=some (.tup xs)->c≠a:=fun c xs hc z=>by rw[z,e] at hc; cases hc
  refine I.un ⟨fun b o gb nb _ _=>k b o (na b nb) gb,fun b o gb nb _ _=>⟨o.slots,k b o (na b nb) gb⟩,fun b o gb nb _=>?_,fun b o gb _=>?_,fun b xs z=>?_,fun b o w z=>?_,fun b ps z=>⟨#[],?_⟩⟩ fun b w hb=>?_
  . rw[at1 b (na b nb) (nd b o gb)]; exact nb
  . by_cases b1:b=a
    . exact⟨_,by rw[b1]; exact g'⟩
    . exact⟨o,k b o b1 gb⟩
  . rw[at1 b (tup1 b xs z) (nd' b _ z)]; exact z
  . rw[at1 b (fun q=>by rw[q,e] at z; cases z) (nd' b _ z)]; exact z
  . rw[at1 b (fun q=>by rw[q,e] at z; cases z) (nd' b _ z),z]; simp
  . by_cases b1:b=a
    . subst b1
      rw[xi] at hb;cases hb;exact xlt xnew
    . rw[xh b1] at hb
      by_cases b2:b=s.heap.objs.size
      . subst b2
        rw[xi] at hb;cases hb;refine xpm (by show 1<=1000; decide) n' (fun g=>?_) fun g hg=>?_
        . show RelO (Jd g [(f,y)]) (if g=f then some u else none)
          by_cases q:g=f
          . rw[if_pos q,q]
            simp only[Z0,beq_self_eq_true];exact ry
          . rw[if_neg q]
            simp only[Z0,beq_eq_false_iff_ne.mpr q];exact trivial
        . by_cases q:g=f
          . simp[q]
          . exact absurd (show (if g=f then some u else none)=none from if_neg q) hg
      . rw[xh b2] at hb
        refine (I.hok b w hb).stay (fun c v hc q=>?_) (fun c q=>?_) fun c xs q=>?_
        . rcases hc with rfl|hc
          . exact k c v b1 q
          . exact k c v (own1 b c hc) q
        . rw[at1 c (own1 b c q) (nd' c _ q)]; exact q
        . rw[at1 c (tup1 c xs q) (nd' c _ q)]; exact q
theorem xok {Q:Unit->Shared->Prop} (I:Inv X pins Z H s) (e:H a=some (XN a C (some dx))) (ed:H dx=some (XD dx fs)) (hl:fs.length<1000) (c:XC X.K C) (n:Z4 X.K (.ref C) f=some none) (ry:RelV y u)
    (h:∀ s',Inv X pins Z (upd H dx (XD dx (putF f y fs))) s'->Q () s'):wpAny (model X.prog X.w) A (setAttr (.ref a) f u) Q E s:=by
  obtain⟨oe,vs,g,ce,oo,de,sz,tb⟩:=xgv I e;obtain⟨_,mA,nm,r,wi⟩:=xh7 I ed;have hz:(fs.map (·.1)).length<=sizeLine:=by rw[Zc,Qn]; omega
  refine xr6 I.kIn c g ce (xdu de) oo nm n wi hz fun h' n' sb=>h _ ?_;have hd:∃ o,h'.get? dx=some o:=let ⟨o,_,_,e',_⟩:=n'; ⟨o,e'⟩;refine I.write (x:=dx) (e:=dx) (by rw[ed]; exact Jg) (.inl rfl) (fun b q hb z=>(sb.2 b hb).trans z) hd ?_;refine xpm (Z6 (xed f y fs) hl) n' (fun g=>?_) fun g hg=>?_
  . show RelO ((putF f y fs).lookup g) (if g=f then some u else mA g)
    rw[xec];by_cases q:g=f
    . rw[if_pos q,if_pos q]; exact ry
    . rw[if_neg q,if_neg q]; exact r g
  . by_cases q:g=f
    . rw[q]; exact (xdk f y fs).1
    . refine (xdk f y fs).2 g (wi g fun z=>hg ?_)
      show (if g=f then some u else mA g)=none;rw[if_neg q]; exact z
theorem xqa {b:Bool}{Q:Value->Shared->Prop} (I:Inv X pins Z H s) (e:H a=some (XO a C (some dx))) (ed:H dx=some (XD dx fs)) (c:XC X.K C) (n:Z4 X.K (.ref C) f=some none) (l:fs.lookup f=some v)
    (h:∀ u s',Inv X pins Z H s'->RelV v u->Q u s'):wpAny (model X.prog X.w) A (getAttr (.ref a) f b) Q E s:=by
  obtain⟨ox,vs,g,ce,oo,de⟩:=xpd I e;obtain⟨_,mA,nm,r,wi⟩:=xh7 I ed;obtain⟨u,hu,ru⟩:=RelO.some_of (v:=v) (o:=mA f) (by rw[<- l]; exact r f);obtain⟨o1,g1,hl⟩:=xhl nm;exact xuj I.kIn c g ce (xdu de) oo g1 (by rw[hl,hu]) n (xhg ru) (h u _ (I.tok _) ru)
end
def sXF (K:Zd) (ta tv:TE) (f:Str):TS:=fun D Z H=>tv Z H fun y H1=>ta Z H1 fun x H2=>∃ a C,x=.ref a/\XC K C/\Z4 K (.ref C) f=some none /\
  ((H2 a=some (XN a C none)/\∀ dx,H2 dx=none->D.nx Z (upd (upd H2 dx (XD dx [(f,y)])) a (XN a C (some dx)))) \/
   ∃ dx fs,H2 a=some (XN a C (some dx))/\H2 dx=some (XD dx fs)/\fs.length<1000/\D.nx Z (upd H2 dx (XD dx (putF f y fs))))
inductive xtd (K:Zd) (f:Str) (x:V) (H1:Hp) (Q:VK):Prop
 | mk (a C dx fs v) (e_:x=.ref a) (r_:H1 a=some (XO a C (some dx))/\H1 dx=some (XD dx fs)/\XC K C/\Z4 K (.ref C) f=some none/\fs.lookup f=some v/\Q v H1)
def tXF (K:Zd) (ta:TE) (f:Str):TE:=fun Z H Q=>ta Z H fun x H1=>xtd K f x H1 Q
section
variable {X:Cx}{o e value:Expr}{f:Str}{pos pos' tpos:Pos}{ta tv te:TE}
theorem xqr (ha:PE X o ta) (hv:PE X value tv) (hs:swapsWith value (some (.Attribute o f pos')) pos.line X.env=pure false):PS X (.Assign [.Attribute o f pos'] value pos) (sXF X.K ta tv f):=by
 intro pins s Z H D I h;refine plainObj_wpAny_Assign_Attribute (thn (hv pins s Z H _ I h) fun u s1 ⟨y,H1,I1,ry,q⟩=>thn (ha pins s1 Z H1 _ I1 q) fun ov s2 ⟨x,H2,I2,rx,a,C,ex,c,n,q2⟩=>?_) hs;subst ex;obtain rfl:ov=Zk a:=rx;rcases q2 with⟨ea,q2⟩|⟨dx,fs,ea,ed,hl,q2⟩
 .exact xoj I2 ea c n ry fun dx s3 nd I3=>⟨Z,_,I3,q2 dx nd⟩
 .exact xok I2 ea ed hl c n ry fun s3 I3=>⟨Z,_,I3,q2⟩
theorem xq7 (he:PE X e te) (hb:attributeBase e f X.env (eval e X.env)=eval e X.env):PE X (.Attribute e f pos) (tXF X.K te f):=by
 intro pins s Z H Q I h;refine xk1 hb (thn (he pins s Z H _ I h) fun u s1 ⟨x,H1,I1,rx,a,C,dx,fs,v,ex,ea,ed,c,n,l,q⟩=>?_);subst ex;obtain rfl:u=Zk a:=rx;exact xqa I1 ea ed c n l fun u' s2 I2 ru=>⟨v,H1,I2,ru,q⟩
end
structure XMk (K:Zd) (C f:Addr):Prop where
 makes:xdd K C=true
 init:Z4 K (.ref C) "__init__"=some (some (.ref f))
 fn:ZK K (.ref f)=true
 kp:Jh K (.ref C)=true
def xrn (C:Addr) (sp:Sp) (dvs:List V) (t:TA):TE:=fun Z H Q=>t Z H fun vs H1=>vs.length<=1000/\∀ e,H1 e=none ->
 sp (.ref e::(vs++dvs)) (upd H1 e (XN e C none)) (fun v H2=>v=.non/\Q (.ref e) H2) (fun _ _ _=>False)
def xsa (K:Zd) (te:TE) (E:St->XK):TS:=fun D Z H=>te Z H fun v H1=>∃ e C od,v=.ref e/\H1 e=some (XN e C od)/\xdd K C=true/\E Z e C (upd H1 e (XO e C od))
section
variable {X:Cx}{k:Nat}{f C:Addr}{fd:FuncData}{ps:List Str}{sp:Sp}{dvs:List V}{ds:List Value}{E:St->XK}{x m:Str}{p pos apos:Pos}{e o:Expr}{es:List Expr}{ta te:TE}{t:TA}
theorem xns {pins:List (Addr × Obj)}{Z:St}{H:Hp}{s:Shared}{Q:VK}{us:List Value}{vs:List V} (M:XMk X.K C f) (F:FnOk q0 X.prog X.w X.K X.mg X.base (CXo X.prog X.w) k f fd ps sp) (hr:Room q0 (k+1) X.A) (hb:xaa X.K fd ps ds) (hd:Vals dvs ds)
    (I:Inv X pins Z H s) (r:Vals vs us) (hl:vs.length<=1000)
    (h:∀ e,H e=none->sp (.ref e::(vs++dvs)) (upd H e (XN e C none)) (fun v H2=>v=.non/\Q (.ref e) H2) (fun _ _ _=>False)) :
    wpAny (model X.prog X.w) X.A (call (.ref C) us) (EP X pins Z Q) X.xe s:=by
  obtain⟨nm,qn,N,bs,bm,hz,sn,sub,ab,col,dd,k0,k1,k2,k3,k5,gC,T⟩:=xe3 I.kIn M.makes;have ty:PySem.W.typeIn X.K (.ref f)=some (.type "function"):=beq_iff_eq.mp M.fn;obtain⟨oI,gI,cI⟩:=Zj.mp (show (X.K.lookup f).map (·.cls)=some (.type "function") from ty);have lu:us.length<=sizeLine:=by
    have:=r.length;rw[<- this,Qn];omega
  obtain⟨hh,gg,d,tk,os⟩:=s;refine xk4 YC T gC (fun A' Q' E' s' kk q=>PySem.W.looks_findIn I.kIn M.init A' Q' E' s' kk q) (I.kIn _ _ gI) cI lu fun h' e hm se=>?_;have hn:H e=none:=I.hok.fresh se;obtain⟨t0,ge,_,_⟩:=hm.there;have xa:Xat h' e (.ref C) none none:=⟨_,_,ge,rfl,rfl,rfl,by simp,.inl ⟨rfl,rfl⟩⟩
  have I2:Inv X pins Z (upd H e (XN e C none)) ⟨h',gg,d,tk,os⟩:=I.laid (t':=tk) hm.keeps se (xlt xa);have hq:=h e hn;have r2:Vals (V.ref e::(vs++dvs)) (Zk e::(us++ds)):=.cons rfl (r.append hd);have hl2:(Zk e::us++ds).length=ps.length:=by
    have z:=r2.length;rw[F.len _ _ _ _ hq] at z;exact z.symm
  refine Qh (YX (F.run _ X.stack _ _ ⟨Zk e::us,[]⟩ (Zk e::(us++ds)) _ _ (fun _ _ _=>False) (hr.make C us [])
    (I2.env0.make C us []) (hb _ (Zk e::us) I2.kIn hl2) r2 hq) fun r s' hq'=>?_)
  cases r with
  | error e'=>exact (xl pins Z _ _ e' s' I2 hq')
  | ok fl =>
    cases fl with
    | ret u =>
      obtain⟨v,H',I3,rv,ev,q3⟩:=I2.after hq';subst ev;exact⟨rv,⟨V.ref e,H',I3,rfl,q3⟩⟩
    | next=>exact J7 hq'
    | brk=>exact J7 hq'
    | cont=>exact J7 hq'
theorem xo6 (M:XMk X.K C f) (F:FnOk q0 X.prog X.w X.K X.mg X.base (CXo X.prog X.w) k f fd ps sp) (hr:Room q0 (k+1) X.A) (hg:Gl X x) (hm:X.mg x=some (.ref C)) (hb:xaa X.K fd ps ds) (hd:Vals dvs ds)
    (ha:PA X (e::es) t) (hdb:(x == ("__debug__":Str))=false:=by decide) (he:starEach (e::es) X.env=(false,eval e X.env)::starEach es X.env:=by rfl) (hpl:(backTo pos (starEach es X.env)).any (·.1)=false:=by rfl) :
    PE X (.Call (.Name x p) (e::es) [] pos) (xrn C sp dvs t):=by
  intro pins s Z H Q I h;refine J8 (xc6 I hg hm ?_ hdb);refine Q7 (h₀:=X.base) I.ok.mod.kin M.kp (thn (ha pos pins s Z H _ I h) fun us s1 ⟨vs,H1,I1,r,hl,q⟩=>⟨I1.kIn,?_⟩) he hpl;exact xns M F hr hb hd I1 r hl q
theorem Inv.toXO {pins:List (Addr × Obj)}{Z:St}{H:Hp}{s:Shared}{e:Addr}{od:Option Addr} (I:Inv X pins Z H s) (h:H e=some (XN e C od)):Inv X pins Z (upd H e (XO e C od)) s:=by
 have x:=xgv I h;obtain⟨oe,_,ge,_⟩:=id x;exact I.write (x:=e) (e:=e) (t':=s.toks) (by rw[h]; exact Jg) (.inl rfl) (fun b u _ z=>z) ⟨oe,ge⟩ (xpi (xl6 x))
theorem xhx {h:Heap}{bm:List Value} (T:OwnTail h vErr bm):bm.contains (.type "BaseException")=true:=T.hasType (by decide +kernel)
theorem xoa (hh:X.A.handled=none) (tk:xff X E) (he:PE X e te):PS X (.Raise (some e) none pos) (xsa X.K te E):=by
 intro pins s Z H D I h;rw[arm_exec_Raise];refine Zb (Wf ?_);show wpAny _ _ (raiseStmt X.env (some (do let v <- eval e X.env; standAt pos; pure v)) none) _ _ s;refine xqf hh (Zb (thn (he pins s Z H _ I h) fun v s1 ⟨x,H1,I1,rx,a,C,od,ex,ea,mk,q⟩=>Zb (Wf (Zg ?_))));subst ex;obtain rfl:v=Zk a:=rx;obtain⟨nm,qn,N,bs,bm,hz,sn,sub,ab,col,dd,k0,k1,k2,k3,k5,gC,T⟩:=xe3 I1.kIn mk;have x:=xgv I1 ea;exact⟨a,od,C,nm,qn,N,bs,bm,hz,sn,sub,ab,col,dd,k0,k1,k2,k3,k5,_,rfl,xhx T,gC,x,tk pins Z _ s1 a C od none (I1.toXO ea) x xi (fun T' z=>by cases z) q⟩
end
end L2
namespace XL
open PySem PySem.W
section
variable {M:Model}{A:Around}{E:Value->Shared->Prop}{s:Shared}
theorem xob {fs:List Addr}{e T:Addr}{cls:Value}{od:Option Addr}{Q:Unit->Shared->Prop} (x:Xat s.heap e cls od (some T)) (nf:∀ b∈fs,b≠T)
    (k:∀ h',Stp fs e (some T) s.heap h'->Xat h' e cls od (some T)->Q () { s with heap:=h' }):wpAny M A (setFlight (.ref e) none) Q E s:=by
  obtain⟨oe,vs,ge,ce,oo,de,se,y⟩:=x;rcases y with⟨z,_⟩|⟨T',oT,ts,z,h1,nTe,gT,dT,h3⟩
  . cases z
  . cases z
    unfold setFlight;refine Zb (Ya ge de h1 ?_);rw[if_pos (show (Zk T != ZW)=true from by simp)];have z3:3<ts.size:=(Array.getElem?_eq_some_iff.mp h3).1;have ot:∀ b,b≠T->(s.heap.update T (Yh (·.setIfInBounds 3 ((none:Option Addr).elim ZW fun f=>rawInt f)))).get? b=s.heap.get? b:=fun b hb=>ZY _ _ (Zw hb);refine QV gT dT z3 (k _ ⟨fun b o hb _ bt _=>(ot b fun q=>bt (congrArg some q.symm)).trans hb,fun b o hb bf=>⟨o.slots,(ot b (nf b bf)).trans hb⟩⟩ ?_);exact⟨oe,vs,(ot e (Zw nTe)).trans ge,ce,oo,de,se,.inr ⟨T,_,_,rfl,h1,nTe,ZO _ gT (Y2 (YT dT _)),YT dT _,by simp[z3]⟩⟩
variable {nm qn nm' qn':Str}{C N C' N':Addr}{bs bm bs' bm':List Value}{hz hz':Bool}{sn sn':List Str}{sub sub':List Value}{ab ab':Bool}{col col':Option Bool}{dd dd':Option Addr}{k0 k1 k2 k3 k5 j0 j1 j2 j3 j5:Option Value}{ni ni':String}
theorem xj3 {h:Heap}{g:Array GenState}{d:Drawn}{t:Nat}{os:OsState}{e:Addr}{oe:Obj}{b:Bool}{Q:Bool->Shared->Prop}
    (gC:h.get? C=some (excClassObj nm qn C N bs bm hz sn sub ab col dd k0 k1 k2 k3 k5 ni)) (gC':h.get? C'=some (excClassObj nm' qn' C' N' bs' bm' hz' sn' sub' ab' col' dd' j0 j1 j2 j3 j5 ni'))
    (ge:h.get? e=some oe) (ce:oe.cls=.ref C) (bB:bm'.contains (.type "BaseException")=true) (hm:(Zk C::bm).contains (.ref C')=b)
    (k:Q b ⟨h,g,d,t,os⟩):wpAny M A (excMatches (.ref e) (.ref C')) Q E ⟨h,g,d,t,os⟩:=by
  have mB:(Zk C'::bm').contains (.type "BaseException")=true:=by rw[Q8,bB,Bool.or_true]
  have nt:=tc_notTuple;unfold excMatches
  repeat (first|(with_reducible refine Yb ge ?_; rw[ce])|with_reducible refine Yb gC' ?_|(with_reducible refine Qw gC' ?_; rw[mB])|(with_reducible refine Qw gC ?_; rw[hm])|wp_step)
  cases b<;>(wp_walk; exact k)
end
end XL
namespace L2
open PySem PySem.Spec PyProof.Rows XL
variable {q0:Bool}
abbrev Cx.tryc (X:Cx) (pins:List (Addr × Obj)) (xe:Value->Shared->Prop):Cx:={ X with xe:=xe,pn:=X.pn++pins }
abbrev Cx.hand (X:Cx) (e:Addr):Cx:={ X with A:=X.A.mark (some (.ref e)),calm:=false,xe:=fun _ _=>False }
section
variable {X:Cx}{pins:List (Addr × Obj)}{Z:St}{H:Hp}{s:Shared}
theorem Cx.Ok.tryc (ok:X.Ok) (pins:List (Addr × Obj)) (xe:Value->Shared->Prop):(X.tryc pins xe).Ok :=
 ⟨ok.mod,ok.kind,ok.glob,ok.blt,ok.above,ok.inj,ok.has,ok.cab,ok.hd,ok.frames,ok.stk,ok.exf,ok.bs,ok.bsz,ok.noex,ok.exfs,ok.funs,ok.frf⟩
theorem Cx.Ok.untryc {xe:Value->Shared->Prop} (ok:(X.tryc pins xe).Ok):X.Ok :=
 ⟨ok.mod,ok.kind,ok.glob,ok.blt,ok.above,ok.inj,ok.has,ok.cab,ok.hd,ok.frames,ok.stk,ok.exf,ok.bs,ok.bsz,ok.noex,ok.exfs,ok.funs,ok.frf⟩
theorem Cx.Ok.hand (ok:X.Ok) (e:Addr):(X.hand e).Ok :=
 ⟨ok.mod,ok.kind,ok.glob,ok.blt,ok.above,ok.inj,ok.has,ok.cab,(fun z=>nomatch z),ok.frames,ok.stk,ok.exf,ok.bs,ok.bsz,ok.noex,ok.exfs,ok.funs,ok.frf⟩
theorem Inv.tryc (I:Inv X pins Z H s) (xe:Value->Shared->Prop):Inv (X.tryc pins xe) [] Z H s :=
 ⟨I.ok.tryc pins xe,I.os,I.bare,I.base,I.loc,I.cell,I.free,I.freeC,fun p hp=>I.pin p (by simpa using hp),I.hok,I.len⟩
theorem Inv.untryc {xe:Value->Shared->Prop}{pl:List (Addr × Obj)} (I:Inv (X.tryc pins xe) pl Z H s):Inv X pins Z H s :=
 ⟨I.ok.untryc,I.os,I.bare,I.base,I.loc,I.cell,I.free,I.freeC,fun p hp=>I.pin p (ZL _ hp),I.hok,I.len⟩
theorem Inv.hand (I:Inv X pins Z H s) (e:Addr):Inv (X.hand e) pins Z H s :=
 ⟨I.ok.hand e,I.os,I.bare,I.base,I.loc,I.cell,I.free,I.freeC,I.pin,I.hok,I.len⟩
theorem Inv.unhand {e:Addr} (ok:X.Ok) (I:Inv (X.hand e) pins Z H s):Inv X pins Z H s :=
 ⟨ok,I.os,I.bare,I.base,I.loc,I.cell,I.free,I.freeC,I.pin,I.hok,I.len⟩
theorem Inv.gone {h':Heap}{m m':Str->Option Value}{n:Str}{j t':Nat} (I:Inv X pins Z H s) (hN:X.N.Nodup) (hj:X.N[j]?=some n) (hl:X.env.scope.names.lookup n=some .local)
    (hm:s.heap.Ns X.env.locals m) (hv:∀(i:Nat) (x:Str) (v:V),X.N[i]?=some x->Z[i]?=some (some v)->Vis X.env.scope x->∃ u,RelV v u/\Look X.env s.heap m x u)
    (n':h'.Ns X.env.locals m') (e':∀ y,y≠n->m' y=m y) (sb:ZX X.env.locals s.heap h'):Inv X pins (Z.set j none) H { s with heap:=h',toks:=t' }:=by
  have kp:∀ b o,b≠X.env.locals->s.heap.get? b=some o->h'.get? b=some o:=fun b o nb g=>(sb.2 b nb).trans g;have neL:∀ b o,X.s₀.heap.get? b=some o->b≠X.env.locals:=fun b o e=>ZD (ZF (Zs e) I.ok.above);have trk:∀ b u,H b=some u->b≠X.env.locals:=fun b u hb z=>by rw[z,I.free] at hb; cases hb
  refine⟨I.ok,I.os,I.bare,⟨fun b o e n hb hx=>kp b o (neL b o e) (I.base.keep b o e n hb hx),fun b o e n hb hx=>?_,fun b o e n hx=>I.base.free b o e n hx,fun b o e hx=>?_,I.base.tups,I.base.frzs,I.base.tbls⟩,
    ⟨m',n',fun i x v e1 e2 e3=>?_⟩,fun x c e=>?_,I.free,I.freeC,fun p hp=>?_,fun b u hb=>?_,by rw[List.length_set]; exact I.len⟩
  . obtain⟨sl,q⟩:=I.base.slot b o e n hb hx
    exact⟨sl,kp b _ (neL b o e) q⟩
  . obtain⟨o',q⟩:=I.base.there b o e hx
    exact⟨o',kp b o' (neL b o e) q⟩
  . have nij:i≠j:=fun z=>by
      subst z;have hl2:i<Z.length:=by rw[I.len]; exact (Zh.mp hj).1
      rw[QN hl2] at e2;cases e2
    rw[YB (Zw nij)] at e2;have nx:x≠n:=fun z=>nij (xft hN e1 (by rw[z]; exact hj));obtain⟨u,r,l⟩:=hv i x v e1 e2 e3;refine⟨u,r,?_⟩;rcases l with⟨k,z⟩|⟨k,c,e,o,ho,hd⟩
    . exact .inl ⟨k,by rw[e' x nx]; exact z⟩
    . exact .inr ⟨k,c,e,o,kp c o (I.cne x c e) ho,hd⟩
  . obtain⟨v,o,ho,hd⟩:=I.cell x c e
    exact⟨v,o,kp c o (I.cne x c e) ho,hd⟩
  . obtain⟨e,a,ne,nf,d⟩:=I.pin p hp
    exact⟨kp p.1 p.2 ne e,a,ne,nf,d⟩
  . refine (I.hok b u hb).stay (fun c v hc q=>?_) (fun c q=>q) fun c xs q=>q
    rcases hc with rfl|hc
    . exact kp c v (trk c u hb) q
    . exact kp c v (trk c _ hc) q
end
def endH (D:Ends) (j:Nat):Ends:={ nx:=fun Z H=>D.nx (Z.set j none) H,rt:=D.rt,bk:=fun Z H=>D.bk (Z.set j none) H,ct:=fun Z H=>D.ct (Z.set j none) H }
def tTry (K:Zd) (C0:Addr) (j:Nat) (E:St->XK) (tb th:TS):TS:=fun D Z H=>tb D Z H/\∀ σ' e C H',E σ' e C H'->xdd K C=true/\Wg K C (.ref C0)=some true/\th (endH D j) (σ'.set j (some (.ref e))) H'
end L2
namespace XL
open PySem PySem.W
theorem xmc {K:Frag}{x C:Addr} (c:XC K C):KitX K (.ref x) (.ref C) (fun h=>∃ ox od,InstAt h x ox C od) where
 ty:=fun _ _ _ ⟨_,_,I⟩=>I.type
 it:=fun _ _ X _=>by
  obtain⟨cd,hc,_,_⟩:=c.mro;unfold clsIn at hc;split at hc
  .rename_i c' d' cd' sl' ho
   intro A' Q' E' s' k q;unfold isType loadHead;exact Zb (Q4 (k _ _ (X _ _ ho)) (Zg q))
  .cases hc
 ne:=fun h tp dd its n sl X htp=>by
  obtain⟨cd,hc,_,_⟩:=c.mro;refine JG.mpr fun q=>?_;have e:C=tp:=Zk.inj (beq_iff_eq.mp q);subst e;unfold clsIn at hc;split at hc
  .rename_i c' d' cd' sl' ho
   have z:=(X _ _ ho).symm.trans htp;cases z
  .cases hc
 ca:=fun X ⟨ox,od,I⟩ k=>xn3 X c I k
end XL
namespace L2
open PySem PySem.Spec PyProof.Rows XL
variable {q0:Bool}
def clsV:V->Option Value
 | .ty n=>some (.type n)
 | .ref a=>some (.ref a)
 | _=>none
theorem xfu {c:V}{u cv:Value} (e:clsV c=some cv) (r:RelV c u):u=cv:=by
 cases c<;>first|(cases e; exact r)|cases e
def xln:List V->Option (List Value)
 | []=>some []
 | c::r=>(clsV c).bind fun a=>(xln r).map (a::·)
theorem xhs:∀{cs:List V}{us cv:List Value},xln cs=some cv->Vals cs us->us=cv
 | [],_,_,e,.nil=>by cases e; rfl
 | c::r,_,_,e,.cons rc rr=>by
  obtain⟨a,e1,e2⟩:=Option.bind_eq_some_iff.mp e;obtain⟨b,e3,rfl⟩:=Zj.mp e2;rw[xfu e1 rc,xhs e3 rr]
section
variable {X:Cx}{pins:List (Addr × Obj)}{Z:St}{H:Hp}{s:Shared}{A:Around}{E:Value->Shared->Prop}{Q:Value->Shared->Prop}
theorem xkk {a C:Addr}{od:Option Addr} (I:Inv X pins Z H s) (h:H a=some (XO a C od)) (hd:∀ d,od=some d->∃ o,s.heap.get? d=some o):∃ ox odx,PySem.W.InstAt s.heap a ox C odx:=by
 obtain⟨ox,vs,g,ce,oo,de⟩:=xpd I h;cases e:od with
 | none=>exact⟨ox,none,g,ce,xdu de,by rw[oo,e]; trivial⟩
 | some d =>
  obtain⟨o,go⟩:=hd d e;exact⟨ox,some o,g,ce,xdu de,by rw[oo,e]; exact go⟩
end
inductive xum (K:Zd) (xs:List V) (H:Hp) (Q:VK):Prop
 | mk (x c) (e_:xs=[x,c]) (r_:((∃ t cv b,TyOf K H x t/\clsV c=some cv/\QX K t cv=some b/\Q (.bl b) H)\/(∃ a C od cv b,x=.ref a/\H a=some (XO a C od)/\(∀ d,od=some d->∃ fs,H d=some (XD d fs))/\XC K C/\clsV c=some cv/\QX K (.ref C) cv=some b/\Q (.bl b) H)\/(∃ a C od p cs cv b,x=.ref a/\H a=some (XO a C od)/\(∀ d,od=some d->∃ fs,H d=some (XD d fs))/\XC K C/\c=.ref p/\SqT K H p cs/\xln cs=some cv/\PySem.W.kitAny K (.ref C) cv=some b/\Q (.bl b) H)))
section
variable {X:Cx}
theorem xbe:xb0 X (.builtin "isinstance") (xum X.K):=by
 intro pins s Z H us xs Q I r h;obtain⟨x,c,rfl,h⟩:=h;obtain⟨u,v,rfl,ru,rv⟩:=xlg r;rcases h with⟨t,cv,b,ty,ec,ek,q⟩|⟨a,C,od,cv,b,rfl,ha,hd,xc,ec,ek,q⟩|⟨a,C,od,p,cs,cv,b,rfl,ha,hd,xc,rfl,hp,ec,ek,q⟩
 .obtain rfl:=xfu ec rv;exact xne I ru ty ek fun tk=>⟨.bl b,H,I.tok tk,rfl,q⟩
 .obtain rfl:=xfu ec rv;obtain rfl:u=Zk a:=ru;refine Jv (xmc xc) I.kIn (xkk I ha fun d e=>?_) ek (fun z=>nomatch z) fun tk=>⟨.bl b,H,I.tok tk,rfl,q⟩
  obtain⟨fs,hw⟩:=hd d e;obtain⟨_,_,⟨o,_,_,go,_⟩,_⟩:=xh7 I hw;exact⟨o,go⟩
 .obtain rfl:u=Zk a:=ru;obtain rfl:v=Zk p:=rv;obtain⟨its,vi,it,_⟩:=I.tuple hp;obtain rfl:=xhs ec vi;obtain⟨o,g,oc,n,od'⟩:=it;obtain⟨c1,d1,dt1,sl1⟩:=o
  dsimp only at oc od'
  subst oc od';refine PySem.W.kia_tup (xmc xc) I.kIn (xkk I ha fun d e=>?_) g ek (fun z=>nomatch z) fun tk=>⟨.bl b,H,I.tok tk,rfl,q⟩
  obtain⟨fs,hw⟩:=hd d e;obtain⟨_,_,⟨o,_,_,go,_⟩,_⟩:=xh7 I hw;exact⟨o,go⟩
end
def xc0 (scope:Scope):List Str:=(scope.names.filter fun x=>x.2 == .free).map (·.1)
def Cx.clo (X:Cx) (scope:Scope):List (Str × Addr):=(xc0 scope).reverse.map fun n=>(n,(X.env.cells.lookup n).getD 0)
theorem xgh {env:Env}{f:Str->Addr}:∀(l:List (Str × NameKind)) (acc:List (Str × Addr)),(∀ x∈l,x.2=.free->env.cells.lookup x.1=some (f x.1)) ->
    (forIn l acc fun x cs=>(if x.2 == .free then do let c <- cellOf env x.1; pure (YQ ((x.1,c)::cs)) else pure (YQ cs):Sem (ForInStep (List (Str × Addr))))) =
      pure ((((l.filter fun x=>x.2 == .free).map (·.1)).reverse.map fun n=>(n,f n))++acc)
  | [],acc,_=>rfl
  | x::r,acc,h=>by
    have ih:=fun a=>xgh r a fun y hy=>h y (Zm _ hy);rw[List.forIn_cons];by_cases q:x.2=.free
    . have e:=h x Zp q
      have qb:(x.2 == Wh)=true:=by rw[q]; rfl
      rw[if_pos qb,List.filter_cons,if_pos qb];have ec:cellOf env x.1=pure (f x.1):=by unfold cellOf; rw[e]
      rw[ec];simp only[pure_bind];rw[ih];simp
    . have qb:(x.2 == Wh)=false:=by simpa using q
      rw[if_neg (by rw[qb]; decide),List.filter_cons,if_neg (by rw[qb]; decide)];simp only[pure_bind];rw[ih]
theorem xm1 {X:Cx}{scope:Scope} (h:∀ n∈xc0 scope,∃ c,X.env.cells.lookup n=some c):closureFor scope X.env=pure (X.clo scope):=by
 unfold closureFor;have z:=xgh (env:=X.env) (f:=fun n=>(X.env.cells.lookup n).getD 0) scope.names [] fun x hx hf=>by
  obtain⟨c,e⟩:=h x.1 (Zr.mpr ⟨x,ZR.mpr ⟨hx,by simp[hf]⟩,rfl⟩);rw[e];rfl
 rw[YO] at z;refine (bind_pure (m:=Sem) _).trans ?_;exact z
theorem xp6 {X:Cx}{scope:Scope}{n:Str}{c:Addr} (h:(X.clo scope).lookup n=some c):n∈xc0 scope/\c=(X.env.cells.lookup n).getD 0:=by
 have z:=JH h;unfold Cx.clo at z;obtain⟨y,hy,e⟩:=Zr.mp z;injection e with e1 e2
 subst e1;exact⟨YF.mp hy,e2.symm⟩
theorem xd0 {f:Str->Addr}{n:Str}:∀{l:List Str},n∈l->(l.map fun y=>(y,f y)).lookup n=some (f n)
 | [],h=>by simp at h
 | y::r,h=>by
  rw[Zx,Z0];by_cases q:n=y
  .subst q;simp
  .rw [show (n == y)=false from by simpa using q];exact xd0 ((Zz.mp h).resolve_left q)
theorem xko {X:Cx}{scope:Scope}{n:Str}{c:Addr} (hn:n∈xc0 scope) (h:X.env.cells.lookup n=some c):(X.clo scope).lookup n=some c:=by
 have z:=xd0 (f:=fun n=>(X.env.cells.lookup n).getD 0) (YF.mpr hn);unfold Cx.clo;rw[z,h];rfl
def xex:TT:=fun _ H Q=>Q true H
def PIf (X:Cx) (ifs:List Expr) (t:TT):Prop :=
 ∀(pins:List (Addr × Obj)) (s:Shared) (Z:St) (H:Hp) (Q:Bool->Hp->Prop),Inv X pins Z H s->t Z H Q ->
  wpAny (model X.prog X.w) X.A (forIn ifs true fun c r=>if r=true then do let ok <- isTrue c X.env (eval c X.env); pure (YQ ok) else pure (YQ r)) (TP X pins Z Q) X.xe s
theorem xci {X:Cx}:PIf X [] xex:=fun pins s Z H Q I h=>Zg ⟨H,I,h⟩
theorem xei {X:Cx}{c:Expr}{t:TT} (hc:PT X c t):PIf X [c] t:=fun pins s Z H Q I h=>by
 rw[List.forIn_cons];refine Zb ?_;rw[if_pos rfl];refine Zb (ZU (hc pins s Z H Q I h) (fun b s1 q=>Zg ?_) fun _ _ z=>z);exact Zg q
theorem xm2 {env:Env}{scope:Scope} (nc:∀ y∈scope.names,y.2≠.cell) (n:Str) (h:(relabel scope env).names.lookup n=some .cell\/(relabel scope env).names.lookup n=some .free):n∈xc0 scope:=by
 have key:∀ k,(relabel scope env).names.lookup n=some k->(k=.cell\/k=.free)->n∈xc0 scope:=fun k e hk=>by
  obtain⟨y,hy,ey⟩:=Zr.mp (JH e);obtain⟨m,j⟩:=y
  dsimp only at ey
  split at ey
  .rename_i q
   injection ey with e1 e2
   subst e1;have:j=.free:=by
    simp only[ZM,beq_iff_eq] at q;exact q.1.1
   subst this;exact Zr.mpr ⟨_,ZR.mpr ⟨hy,by simp⟩,rfl⟩
  .injection ey with e1 e2
   subst e1 e2;rcases hk with z|z
   .exact absurd z (nc _ hy)
   .subst z;exact Zr.mpr ⟨_,ZR.mpr ⟨hy,by simp⟩,rfl⟩
 rcases h with h|h
 .exact key _ h (.inl rfl)
 .exact key _ h (.inr rfl)
theorem xk7 {env:Env}{scope:Scope}{n:Str} (h:scope.names.lookup n=some .free):(relabel scope env).names.lookup n=some .cell\/(relabel scope env).names.lookup n=some .free:=by
  have key:∀(l:List (Str × NameKind)),l.lookup n=some .free->(l.map fun (m,k)=>if (k == Wh&&env.scope.kind == .function&&env.kindOf m == some .cell) then (m,NameKind.cell) else (m,k)).lookup n=some .cell \/
      (l.map fun (m,k)=>if (k == Wh&&env.scope.kind == .function&&env.kindOf m == some .cell) then (m,NameKind.cell) else (m,k)).lookup n=some .free:=fun l=>by
    induction l with
    | nil=>intro e; simp at e
    | cons y r ih =>
      intro e;obtain⟨m,k⟩:=y;rw[Zx];rw[Z0] at e;cases q:n == m with
      | true =>
        rw[q] at e;cases e
        dsimp only
        split
        . left; rw[Z0,q]
        . right; rw[Z0,q]
      | false =>
        rw[q] at e;have z:=ih e
        dsimp only
        split<;>(rw[Z0,q]; exact z)
  exact key _ h
section
variable {P:Program}{w:World}{K:Zd}{mg:Str->Option Value}{base:Heap}
theorem Fun.okx {x qual:Str}{st:Stmt}{f:Addr}{fd:FuncData}{N ps:List Str}{k:Nat}{sp:Sp} (F:Fun K x qual st f fd) (S:xv N ps (xo st)) (len:∀ vs H Q E,sp vs H Q E->vs.length=ps.length)
    (hbody:∀(cdv:Value) (A:Around) (outer:List Env) (s:Shared) (H:Hp) (vs:List V) (Q:VK) (E:XK),Room q0 k (A.deeper (envOfC qual (xo st) s.heap.objs.size f cdv))->sp vs H Q E ->
      ∃ t,PSs (cxOf q0 (CXo P w) P w K mg base N qual (xo st) f cdv A outer s H E) (xa8 st) t/\t { nx:=fun _ H'=>Q .non H',rt:=Q } (start N vs) H):FnOk q0 P w K mg base (CXo P w) (k+1) f fd ps sp:=by
  obtain⟨oc,od,kV,doc,pm,an,cdv,ct,osl,rfl,lk,hcd⟩:=F.ex;exact xia lk hcd S len fun A outer s H vs Q E hr hsp=>hbody cdv A outer s H vs Q E hr hsp
theorem Fun.okn {x qual:Str}{st:Stmt}{f:Addr}{fd:FuncData}{N ps:List Str}{k:Nat}{sp:Sp} (F:Fun K x qual st f fd) (S:xv N ps (xo st)) (len:∀ vs H Q E,sp vs H Q E->vs.length=ps.length)
    (hbody:∀(cdv:Value) (A:Around) (outer:List Env) (s:Shared) (H:Hp) (vs:List V) (Q:VK) (E:XK),Room q0 k (A.deeper (envOfC qual (xo st) s.heap.objs.size f cdv))->sp vs H Q E ->
      ∃ t,PSs (cxOf q0 (CXo P w) P w K mg base N qual (xo st) f cdv A outer s H E).nox (xa8 st) t/\t { nx:=fun _ H'=>Q .non H',rt:=Q } (start N vs) H):FnOk q0 P w K mg base (CXo P w) (k+1) f fd ps sp:=by
  obtain⟨oc,od,kV,doc,pm,an,cdv,ct,osl,rfl,lk,hcd⟩:=F.ex;refine xia lk hcd S len fun A outer s H vs Q E hr hsp=>?_;obtain⟨t,h,q⟩:=hbody cdv A outer s H vs Q E hr hsp;exact⟨t,h.nox,q⟩
end
end L2
namespace L2
open PySem PySem.Spec PyProof.Rows XL
theorem ifP {b:Bool}{A B:Prop} (h:b=true) (q:A):if b=true then A else B:=by
 rw[if_pos h];exact q
theorem ifN {b:Bool}{A B:Prop} (h:b=false) (q:B):if b=true then A else B:=by
 rw[if_neg (by rw[h]; decide)];exact q
section
variable {X:Cx}
theorem xg8:OpR X (compareOp .LtE) (fun x y H Q=>∃ i j,x=.str i/\y=.str j/\Q (.bl (!decide (j.cps.toList<i.cps.toList))) H):=by
 intro pins s Z H x y v u Q I rx ry h;obtain⟨i,j,rfl,rfl,q⟩:=h;obtain⟨t,rfl⟩:=rx;obtain⟨t',rfl⟩:=ry;exact PySem.P.le_str (xao I q rfl)
theorem xjx:xb0 X (.type "range") (fun xs H Q=>∃ i j,xs=[.int i,.int j]/\∀ p,H p=none->Q (.ref p) (upd H p (.rng i j))):=by
 intro pins s Z H xs us Q I r h;obtain⟨i,j,rfl,q⟩:=h;obtain⟨u,w',rfl,⟨t,rfl⟩,⟨t',rfl⟩⟩:=xlg r;refine call_range_2 ⟨.ref s.heap.objs.size,_,I.laid (t':=s.toks+1) (fun b o e=>Ze _ e) (Zi _) (show xap X.prog X.w _ _ _ (.rng i j) from ⟨_,_,_,Zo _ rfl⟩),rfl,q _ (I.hok.fresh (Zi _))⟩
end
end L2
namespace L2
open PySem PySem.Spec PyProof.Rows
variable {q0:Bool}
section
variable {X:Cx}
theorem xfl:∀{us:List Value}{ys:List V},us.length=ys.length->(∀(j:Nat) (y:V) (u:Value),ys[j]?=some y->us[j]?=some u->RelV y u)->Vals ys us
 | [],[],_,_=>.nil
 | u::us,y::ys,hl,h=>.cons (h 0 y u rfl rfl) (xfl (Nat.succ.inj hl) fun j y' u' e e'=>h (j+1) y' u' e e')
def rngL (lo hi:Int):List V:=(ZI (hi-lo).toNat).map fun (i:Nat)=>V.int (lo+(i:Int))
theorem xh1 (hc:X.calm=true):xb0 X (.type "list") (fun xs H Q=>∃ p lo hi,xs=[.ref p]/\H p=some (.rng lo hi)/\(-(2 ^ 62)<=lo/\lo<2 ^ 62/\-(2 ^ 62)<=hi/\hi<2 ^ 62)/\(hi-lo).toNat<=1000 /\
    ∀ l,H l=none->Q (.ref l) (upd H l (.lst (rngL lo hi)))):=by
  intro pins s Z H xs us Q I r h;obtain⟨p,lo,hi,rfl,hp,⟨h1,h2,h3,h4⟩,hn,q⟩:=h;obtain⟨u,rfl,rx⟩:=xcb r;cases rx;obtain⟨t1,t2,t3,g⟩:=(show xap X.prog X.w H s.heap p (.rng lo hi) from I.hok p _ hp)
  refine call_list_range (I.ok.hd hc) g (small_one h1 h2 h3 h4) (n:=(hi-lo).toNat) (by rw[rangeSize_one]; split<;>omega) (Z6 hn (by decide)) fun h' tk acc' c' kp e it=>?_;have len:acc'.toList.length=(rngL lo hi).length:=by rw[rngL,Zc,Y5]; exact it.1
  refine⟨.ref s.heap.objs.size,_,I.laid (t':=tk) kp (Zi _) (show xap X.prog X.w _ h' _ (.lst (rngL lo hi)) from ⟨?_,acc'.toList,c',xfl len fun j y u ey eu=>?_,by simpa using e⟩),rfl,q _ (I.hok.fresh (Zi _))⟩
  . rw[rngL,Zc,Y5]
    exact Z6 hn (by decide)
  . have eu':acc'[j]?=some u:=by simpa using eu
    obtain⟨t,e2⟩:=it.2 j u eu';have lt:j<(hi-lo).toNat:=by
      have:=(Zh.mp ey).1;simpa [rngL] using this
    rw[rngL,Zf,YG lt] at ey;cases ey;exact⟨t,by rw[e2,Int.mul_one]⟩
end
structure FunD (K:Zd) (x qual:Str) (st:Stmt) (T f:Addr) (fd:FuncData):Prop where
 ex:∃(oc:Value) (od:Option Addr) (kV doc pm:Value) (an:Option Addr) (cdv ct:Value) (osl:Array (Option Value)),
  fd=Jp x qual (xbq st) (xa8 st) (xo st) (.ref T) kV doc pm an cdv ct/\K.lookup f=some ⟨oc,od,.func fd,osl⟩/\Qa K cdv qual=true
 kp:Jh K (.ref f)=true
section
variable {P:Program}{w:World}{K:Zd}{mg:Str->Option Value}{base:Heap}
theorem FunD.okn {x qual:Str}{st:Stmt}{T f:Addr}{fd:FuncData}{N ps:List Str}{k:Nat}{sp:Sp} (F:FunD K x qual st T f fd) (S:xv N ps (xo st)) (len:∀ vs H Q E,sp vs H Q E->vs.length=ps.length)
    (hbody:∀(cdv:Value) (A:Around) (outer:List Env) (s:Shared) (H:Hp) (vs:List V) (Q:VK) (E:XK),Room q0 k (A.deeper (envOfC qual (xo st) s.heap.objs.size f cdv))->sp vs H Q E ->
      ∃ t,PSs (cxOf q0 (CXo P w) P w K mg base N qual (xo st) f cdv A outer s H E).nox (xa8 st) t/\t { nx:=fun _ H'=>Q .non H',rt:=Q } (start N vs) H):FnOk q0 P w K mg base (CXo P w) (k+1) f fd ps sp:=by
  obtain⟨oc,od,kV,doc,pm,an,cdv,ct,osl,rfl,lk,hcd⟩:=F.ex;refine xia lk hcd S len fun A outer s H vs Q E hr hsp=>?_;obtain⟨t,h,q⟩:=hbody cdv A outer s H vs Q E hr hsp;exact⟨t,h.nox,q⟩
theorem FunD.binds {x qual:Str}{st:Stmt}{T f:Addr}{fd:FuncData}{ps:List Str}{o:Obj}{items:Array Value}{n:Nat}{ds:List Value} (F:FunD K x qual st T f fd) (ho:K.lookup T=some o) (hs:o.data=.seq items n) (m:Nat) (hm:m+ds.length=ps.length)
    (h:∀(kV doc pm:Value) (an:Option Addr) (cdv ct:Value) (us:List Value),us.length=m ->
      ∃ k,bindArgs (Jp x qual (xbq st) (xa8 st) (xo st) (.ref T) kV doc pm an cdv ct) ⟨us,[]⟩=seqItems? (.ref T)>>=k/\k (some items)=pure (ps.zip (us++ds))):xaa K fd ps ds:=by
  obtain⟨oc,od,kV,doc,pm,an,cdv,ct,osl,rfl,lk,hcd⟩:=F.ex;intro s us hK hl;rw[Zu] at hl;obtain⟨k,h1,h2⟩:=h kV doc pm an cdv ct us (by omega);exact BindsTo.of_defaults rfl (hK _ _ ho) hs h1 h2
theorem xkg {x qual:Str}{st:Stmt}{T f:Addr}{oc:Value}{od an:Option Addr}{osl:Array (Option Value)}{kV doc pm cdv ct:Value} (l:K.lookup f=some ⟨oc,od,.func (Jp x qual (xbq st) (xa8 st) (xo st) (.ref T) kV doc pm an cdv ct),osl⟩)
    (c:Qa K cdv qual=true) (k:Jh K (.ref f)=true):FunD K x qual st T f (Jp x qual (xbq st) (xa8 st) (xo st) (.ref T) kV doc pm an cdv ct):=⟨⟨oc,od,kV,doc,pm,an,cdv,ct,osl,rfl,l,c⟩,k⟩
end
end L2
namespace L2
open PySem PySem.Spec PyProof.Rows XL
variable {q0:Bool}
abbrev Cx.blkG (X:Cx) (scope:Scope) (zs:List Str) (ys:List Str) (C:Addr) (ex:List Addr) (s:Shared) (H:Hp) (pn:List (Addr × Obj)):Cx where
 prog:=X.prog
 w:=X.w
 K:=X.K
 mg:=X.mg
 base:=X.base
 A:=X.A
 N:=zs++ys
 s₀:=s
 H₀:=H
 env:=compEnvC scope (X.clo scope) C X.env
 outer:=X.stack
 stack:=X.stack
 ex:=ex
 fn:=fun _=>false
 calm:=X.calm
 pn:=pn
 xe:=fun _ _=>False
theorem xgt {prog:Program}{w:World}{A:Around}{R:Result->Shared->Prop}{s:Shared}{elt target iter:Expr}{ifs:List Expr}{scope:Scope}{pos:Pos}{it acc:Value}{env:Env} (I:Nat->Shared->Prop)
    (turn:∀ n s,I n s->wpAny (model prog w) A (pyNext it) (fun r s₁=>match r with
      | none=>R (.ok .next) s₁
      | some v=>wpAny (model prog w) A (letOwnedTupleGo target it v) (fun _ s₀=>wpAny (model prog w) A (assign target env v) (fun _ s₂ =>
          wpAny (model prog w) A (forIn ifs true fun c r=>if r=true then do let ok <- isTrue c env (eval c env); pure (YQ ok) else pure (YQ r)) (fun ok s₃ =>
            if ok=true then wpAny (model prog w) A (eval elt env) (fun x s₄ =>
              wpAny (model prog w) A (call (.builtin "list.append") [acc,x]) (fun _ s₅=>∃ m,m<n/\I m s₅) (notedBy (model prog w) A env fun e s'=>R (.error e) s') s₄) (notedBy (model prog w) A env fun e s'=>R (.error e) s') s₃
            else ∃ m,m<n/\I m s₃) (notedBy (model prog w) A env fun e s'=>R (.error e) s') s₂) (notedBy (model prog w) A env fun e s'=>R (.error e) s') s₀) (notedBy (model prog w) A env fun e s'=>R (.error e) s') s₁) (notedBy (model prog w) A env fun e s'=>R (.error e) s') s)
    (n:Nat) (h:I n s):codeAny (model prog w) A (.compLoop (.ListComp elt [⟨target,iter,ifs,0⟩] scope pos) 0 it acc env) R s:=by
  refine codeAny_loop rfl I (fun n s hI=>?_) n h;show wpAny _ A ((compTurn (.ListComp elt [⟨target,iter,ifs,0⟩] scope pos) 0 it acc env).onRaise (fun x=>do noteFrame x env; theTreesLotGoes x)) _ _ s;refine wpAny_noted ?_;rw[compTurn_list];refine Zb (Wf (Zb (ZU (turn n s hI) (fun r s₁ h₁=>?_) fun _ _ h'=>h')));cases r with
  | none=>exact Zg h₁
  | some v =>
    refine Zb (ZU h₁ (fun _ s₀ h₀=>Zb (ZU h₀ (fun _ s₂ h₂=>Zb (ZU h₂ (fun ok s₃ h₃=>?_) fun _ _ h'=>h')) fun _ _ h'=>h')) fun _ _ h'=>h');cases ok with
    | false=>exact Zg ⟨rfl,h₃⟩
    | true =>
      exact Zb (Zb (ZU h₃ (fun x s₄ h₄=>Zb (ZU h₄ (fun _ s₅ h₅=>Zg (Zg ⟨rfl,h₅⟩)) fun _ _ h'=>h')) fun _ _ h'=>h'))
structure BlkG (X:Cx) (scope:Scope) (zs:List Str) (ys:List Str) (fr:List Nat):Prop where
 kind:scope.kind=.function
 own:∀ x∈zs,scope.names.lookup x=some .local
 ncell:∀ y∈scope.names,y.2≠.cell
 names:∀ y∈scope.names,y.2=.local->scope.names.lookup y.1=some .local
 free:∀ n∈xc0 scope,X.env.scope.names.lookup n=some .cell
 has:∀ n,((relabel scope X.env).names.lookup n=some .cell\/(relabel scope X.env).names.lookup n=some .free)->n∈xc0 scope
 slots:fr.map (fun i=>X.N[i]?)=ys.map some
 ysf:∀ y∈ys,y∈xc0 scope
 ysc:∀ y∈ys,(relabel scope X.env).names.lookup y=some .cell\/(relabel scope X.env).names.lookup y=some .free
 nd:X.N.Nodup
 ndb:(zs++ys).Nodup
def blk0 (Z:St) (fr:List Nat) (n:Nat):St:=Q5 n none++fr.map fun i=>(Z[i]?).join
section
variable {X:Cx}{pins:List (Addr × Obj)}{Z:St}{H:Hp}{s:Shared}{scope:Scope}{zs:List Str}{ys:List Str}{fr:List Nat}{fp:List Addr}
theorem BlkG.cells (B:BlkG X scope zs ys fr) (I:Inv X pins Z H s):∀ n∈xc0 scope,∃ c,X.env.cells.lookup n=some c:=fun n hn=>I.ok.has n (.inl (B.free n hn))
theorem BlkG.sub (B:BlkG X scope zs ys fr) (I:Inv X pins Z H s) {n:Str}{c:Addr} (h:(X.clo scope).lookup n=some c):X.env.cells.lookup n=some c:=by
 obtain⟨a,b⟩:=xp6 h;obtain⟨d,e⟩:=B.cells I n a;rw[e] at b;rw[b,e];rfl
theorem Inv.blkG {h1:Heap}{m1:Str->Option Value}{t':Nat} (B:BlkG X scope zs ys fr) (I:Inv X pins Z H s) (hf:∀ b∈fp,FpOk X pins H b) (hz:∀ b∈fp,b<s.heap.objs.size) (n1:h1.Ns s.heap.objs.size m1) (k1:∀ b o,s.heap.get? b=some o->h1.get? b=some o) :
    Inv (X.blkG scope zs ys s.heap.objs.size fp s H (X.pn++pins)) [] (blk0 Z fr zs.length) H { s with heap:=h1,toks:=t' }:=by
  have sub:∀ n c,(X.clo scope).lookup n=some c->X.env.cells.lookup n=some c:=fun n c h=>B.sub I h;have cz:∀ n c,X.env.cells.lookup n=some c->c<s.heap.objs.size:=fun n c e=>by
    obtain⟨v,o,ho,_⟩:=I.cell n c e;exact Zs ho
  have nfs:∀ b∈fp,b∉frs X.stack:=fun b hb z=>(Zz.mp (I.stkSub b z)).elim (hf b hb).2.1 (hf b hb).2.2.1;have fz:∀ b,b∈frs X.stack->b<s.heap.objs.size:=fun b hb=>by
    obtain⟨_,o,ho,_⟩:=I.stack.mem hb;exact Zs ho
  refine⟨⟨I.ok.mod,B.kind,I.ok.glob,I.ok.blt,Zi _,fun y z c h1 h2=>I.ok.inj y z c (sub y c h1) (sub z c h2),fun y hy=>?_,(fun y c hy _=>nomatch hy),I.ok.hd,I.ok.frames,.inl rfl,fun b hb=>⟨?_,fun y c h=>(hf b hb).2.2.2.2.1 y c (sub y c h)⟩,
      I.bs,Z6 I.ok.bsz I.sz,fun b o e hb=>?_,fun b hb=>nfs b hb,I.stack,I.stkFree⟩,
    rfl,I.bare,Un.kept k1,⟨m1,n1,fun i y v e1 e2 e3=>?_⟩,fun y c h=>?_,I.hok.fresh (Zi _),fun y c h=>I.freeC y c (sub y c h),fun p hp=>?_,I.hok.kept k1,?_⟩
  . obtain⟨c,e⟩:=B.cells I y (B.has y hy)
    exact⟨c,xko (B.has y hy) e⟩
  . exact ZD (hz b hb)
  . rcases (hf b hb).2.2.2.1 with z|z
    . exact I.ok.noex b o e z
    . exact absurd (ZF (Zs (I.ok.bs b o e).1) z) (YI _)
  . have ln:(Q5 zs.length (none:Option V)).length=zs.length:=QU
    by_cases lt:i<zs.length
    . have e2':(blk0 Z fr zs.length)[i]?=some (some v):=e2
      unfold blk0 at e2';rw[ZV (by rw[ln]; exact lt),QJ] at e2';split at e2'<;>cases e2'
    . obtain⟨k,rfl⟩:∃ k,i=zs.length+k:=⟨i-zs.length,by omega⟩
      have e2':(fr.map fun i=>(Z[i]?).join)[k]?=some (some v):=by
        have z:(blk0 Z fr zs.length)[zs.length+k]?=some (some v):=e2;unfold blk0 at z;rw[Ju (by rw[ln]; omega),ln] at z;simpa using z
      have e1':ys[k]?=some y:=by
        have z:(zs++ys)[zs.length+k]?=some y:=e1;rw[Ju (by omega)] at z;simpa using z
      rw[Zf] at e2';obtain⟨j,hj,ej⟩:=Zj.mp e2';have ev:Z[j]?=some (some v):=by
        cases q:Z[j]? with
        | none=>rw[q] at ej; cases ej
        | some w=>rw[q] at ej; exact congrArg some ej
      have eN:X.N[j]?=some y:=by
        have z:=congrArg (fun l=>l[k]?) B.slots;simp only[Zf,hj,e1',J5] at z;exact ZN.inj z
      have my:y∈ys:=Zl e1';obtain⟨m,_,lk⟩:=I.loc;obtain⟨u,r,l⟩:=lk j y v eN ev (.inr (.inl (B.free y (B.ysf y my))));refine⟨u,r,.inr ⟨B.ysc y my,?_⟩⟩;rcases l with⟨kk,_⟩|⟨_,c,e,o,ho,hd⟩
      . have z:=B.free y (B.ysf y my)
        rw[show X.env.scope.names.lookup y=some .local from kk] at z;cases z
      . exact⟨c,xko (B.ysf y my) e,o,k1 c o ho,hd⟩
  . obtain⟨v,o,ho,hd⟩:=I.cell y c (sub y c h)
    exact⟨v,o,k1 c o ho,hd⟩
  . have hp':p∈X.pn++pins:=by simpa using hp
    obtain⟨a1,a2,a3,a4,a5⟩:=I.pin p hp';exact⟨k1 _ _ a1,a2,ZD (Zs a1),fun z=>(Zz.mp (I.stkSub _ z)).elim a3 a4,a5⟩
  . have z:=congrArg Qo B.slots
    simp only[Zc] at z;simp[blk0,z]
end
section
variable {X:Cx}{pins:List (Addr × Obj)}{Z:St}{H:Hp}{s:Shared}{scope:Scope}{zs:List Str}{ys:List Str}{fr:List Nat}{fp:List Addr}
theorem Inv.unblkG {C:Addr}{s':Shared}{h2:Heap}{σ':St}{H':Hp}{pl:List (Addr × Obj)} (I:Inv X pins Z H s) (hf:∀ b∈fp,FpOk X pins H b) (hC:s.heap.objs.size<=C) (J:Inv (X.blkG scope zs ys C fp s H (X.pn++pins)) pl σ' H' s') (sb:ZX C s'.heap h2) :
    Inv X pins Z H' { s' with heap:=h2 }:=by
  have kp:∀ b o,b≠C->s'.heap.get? b=some o->h2.get? b=some o:=fun b o nb g=>(sb.2 b nb).trans g;have old:∀ b o,s.heap.get? b=some o->b≠C:=fun b o g=>ZD (ZF (Zs g) hC);have trk:∀ b u,H' b=some u->b≠C:=fun b u hb z=>by
    have f:H' C=none:=J.free;rw[z,f] at hb;cases hb
  refine I.call' (s':={ s' with heap:=h2 }) J.os (ch:=fp) ⟨fun b o e n hb hx=>kp b o (old b o e) (J.base.keep b o e n hb hx),fun b o e n hb hx=>?_,fun b o e n hx=>J.base.free b o e n hx,fun b o e hx=>?_,J.base.tups,J.base.frzs,J.base.tbls⟩ (fun b u hb=>?_) J.bare fun b hb=>?_
  . obtain⟨sl,q⟩:=J.base.slot b o e n hb hx
    exact⟨sl,kp b _ (old b o e) q⟩
  . obtain⟨o',q⟩:=J.base.there b o e hx
    exact⟨o',kp b o' (old b o e) q⟩
  . refine (J.hok b u hb).stay (fun c v hc q=>?_) (fun c q=>q) fun c xs q=>q
    rcases hc with rfl|hc
    . exact kp c v (trk c u hb) q
    . exact kp c v (trk c _ hc) q
  . obtain⟨_,a1,_,a3,a4,a5⟩:=hf b hb
    exact⟨a3,a1,a4,a5⟩
end
def GOk (n:Nat) (g:TG):Prop:=∀ v Z H Q,g v Z H Q->g v Z H (fun σ' H'=>Q σ' H'/\σ'.length=Z.length/\∀ i,n<=i->σ'[i]?=Z[i]?)
theorem xcq {i n:Nat} (h:i<n):GOk n (xe0 i):=fun v Z H Q q=>⟨q,by simp,fun j hj=>by rw[YB (by omega)]⟩
def xd6 (J:It) (n:Nat) (g:TG) (Z:St) (fr:List Nat) (tc:TT) (te:TE) (l:Addr) (H1:Hp) (Q:VK):Prop:=∃ W:Nat->Nat->List V->Hp->Prop,(∃ m,W 0 m [] (upd H1 l (.lst [])))/\∀ i m xs H2,W i m xs H2 ->
 (J.stop i H2/\Q (.ref l) H2)\/(J.go i H2/\∀ v H3,J.yld i H2 v H3->g v (blk0 Z fr n) H3 fun σ' H3'=>tc σ' H3' fun b H4=>if b=true then
  (te σ' H4 fun y H5=>H5 l=some (.lst xs)/\xs.length<sizeLine/\∃ m',m'<m/\W (i+1) m' (xs++[y]) (upd H5 l (.lst (xs++[y])))) else ∃ m',m'<m/\W (i+1) m' xs H4)
def xjr (wi:TI) (n:Nat) (g:TG) (fr:List Nat) (tc:TT) (te:TE):TE:=fun Z H Q=>wi Z H fun J H1=>∀ l,H1 l=none->xd6 J n g Z fr tc te l H1 Q
section
variable {X:Cx}{scope:Scope}{zs:List Str}{ys:List Str}{fr:List Nat}{elt iter tg:Expr}{g:TG}{ifs:List Expr}{px pos:Pos}{wi:TI}{tc:TT}{te:TE}
theorem xgq {pins:List (Addr × Obj)}{s:Shared}{Z:St}{H:Hp}{Q:VK}{U:Option (Value->Sem Unit)}{R:Value->Shared->Prop} (hc:X.calm=true) (B:BlkG X scope zs ys fr) (hi:PI X tg iter wi) (hg:∀ C ex s H pn,(∀ x∈zs,(relabel scope X.env).names.lookup x=some .local)->(zs++ys).Nodup->PG (X.blkG scope zs ys C ex s H pn) tg g) (gok:GOk zs.length g)
    (hif:∀ C ex s H pn,PIf (X.blkG scope zs ys C ex s H pn) ifs tc) (he:∀ C ex s H pn,PE (X.blkG scope zs ys C ex s H pn) elt te) (I:Inv X pins Z H s) (h:xjr wi zs.length g fr tc te Z H Q)
    (fin:∀ C l H' s' m,(X.s₀.heap.objs.size<=C/\C≠X.env.locals/\(∀ x c,X.env.cells.lookup x=some c->c≠C)/\∀ p∈X.pn++pins,p.1≠C)->H' C=none->s'.heap.Ns C m->(∀ h2,ZX C s'.heap h2->Inv X pins Z H' { s' with heap:=h2 })->Q (.ref l) H'->compPost (model X.prog X.w) X.A X.xe U R (.ref l) C (.ok .next) s') :
    wpAny (model X.prog X.w) X.A (eval iter X.env) (fun v s1=>wpAny (model X.prog X.w) X.A (pyIter v) (fun it s2=>wpAny (model X.prog X.w) X.A (newList []) (fun acc s3 =>
      wpAny (model X.prog X.w) X.A (newFunctionEnv scope X.env.globals (X.clo scope) [] X.env.qual none .none (some X.env)) (fun cenv s4 =>
        codeAny (model X.prog X.w) X.A (.compStart (.ListComp elt [⟨tg,iter,ifs,0⟩] scope pos) 0 it acc { cenv with scope:=relabel scope X.env }) (compPost (model X.prog X.w) X.A X.xe U R acc cenv.locals) s4) X.xe s3) X.xe s2) X.xe s1) X.xe s:=by
  refine thn (hi pins s Z H _ I h) fun v s1 h1=>thn h1 fun itv s2 h2=>?_;obtain⟨it,fp,tn,J,H2,rfl,I2,T,st2,f2,body⟩:=h2;have hN:H2 s2.heap.objs.size=none:=I2.hok.fresh (Zi _);obtain⟨W,⟨m0,w0⟩,turn⟩:=body s2.heap.objs.size hN;refine JR ?_;generalize hs3:({ s2 with heap:=s2.heap.push { cls:=.type "list",data:=.seq ([]:List Value).toArray } }:Shared)=s3;have k3:∀ b o,s2.heap.get? b=some o->s3.heap.get? b=some o:=fun b o g=>by rw[<- hs3]; exact Ze _ g
  have I3:Inv X pins Z (upd H2 s2.heap.objs.size (.lst [])) s3:=by
    rw[<- hs3];exact I2.laid (t':=s2.toks) (fun b u e=>Ze _ e) (Zi _) ⟨Ja _,[],0,.nil,Zo _ rfl⟩
  have z2:∀ b∈fp,b<s2.heap.objs.size:=fun b hb=>by
    obtain⟨o,g,_⟩:=T.obj 0 _ st2 b hb;exact Zs g
  have z3:∀ b∈fp,b<s3.heap.objs.size:=fun b hb=>by
    obtain⟨o,g,_⟩:=T.obj 0 _ st2 b hb;exact Zs (k3 b o g)
  have f3:∀ b∈fp,FpOk X pins (upd H2 s2.heap.objs.size (.lst [])) b:=fun b hb=>⟨by rw[xh (ZD (z2 b hb))]; exact (f2 b hb).1,(f2 b hb).2⟩
  have st3:tn 0 s3.heap:=T.keep _ _ _ st2 fun b _ o g=>k3 b o g;refine wpAny_newFunctionEnv B.ncell (by intro y hy; simp at hy) (fun h1 n1 sb1=>?_) B.kind;have k4:∀ b o,s3.heap.get? b=some o->h1.get? b=some o:=fun b o g=>sb1.extBut b o (ZD (Zs g)) (Ze _ g);have I4:=I3.blkG (t':=s3.toks+([]:List (Str × Value)).length) B f3 z3 n1 k4;have st4:tn 0 h1:=T.keep _ _ _ st3 fun b _ o g=>k4 b o g;have own':∀ x∈zs,(relabel scope X.env).names.lookup x=some .local:=fun x hx=>lookup_relabel_local (B.own x hx)
  -- the iterator's objects,through the loop
  have stat:∀{H':Hp},(∀ b∈fp,H' b=none)->∀ b∈fp,FpOk (X.blkG scope zs ys s3.heap.objs.size fp s3 (upd H2 s2.heap.objs.size (.lst [])) (X.pn++pins)) [] H' b:=fun hn b hb=>by
    obtain⟨_,a1,a2,a3,a4,a5⟩:=f3 b hb;exact⟨hn b hb,ZD (z3 b hb),fun z=>(Zz.mp (I3.stkSub b z)).elim a1 a2,.inl hb,fun y c h=>a4 y c (B.sub I3 h),fun p hp=>a5 p (by simpa using hp)⟩
  have loop:∀ s4:Shared,s4={ s3 with heap:=h1,toks:=s3.toks+([]:List (Str × Value)).length } ->
      codeAny (model X.prog X.w) X.A (.compLoop (.ListComp elt [⟨tg,iter,ifs,0⟩] scope pos) 0 (.ref it) (.ref s2.heap.objs.size) (compEnvC scope (X.clo scope) s3.heap.objs.size X.env))
        (compPost (model X.prog X.w) X.A X.xe U R (.ref s2.heap.objs.size) s3.heap.objs.size) s4:=by
    rintro s4 rfl;refine xgt (fun n s'=>∃ i xs H',Inv (X.blkG scope zs ys s3.heap.objs.size fp s3 (upd H2 s2.heap.objs.size (.lst [])) (X.pn++pins)) [] (blk0 Z fr zs.length) H' s'/\tn i s'.heap/\(∀ b∈fp,H' b=none)/\W i n xs H') ?_ m0
      ⟨0,[],_,I4,st4,fun b hb=>(f3 b hb).1,w0⟩
    rintro n s5 ⟨i,xs,H5,I5,st5,fr5,w5⟩;rcases turn i n xs H5 w5 with⟨stop,q⟩|⟨go,step⟩
    . refine ZU (T.done (X.blkG scope zs ys s3.heap.objs.size fp s3 (upd H2 s2.heap.objs.size (.lst [])) (X.pn++pins)) rfl rfl rfl hc i [] s5 _ H5 (fun _ _=>False) I5 (stat fr5) st5 stop) (fun r s6 ⟨hr,I6⟩=>?_) fun _ _ z=>z.elim
      subst hr;obtain⟨m,hm,_⟩:=I6.loc;exact fin _ _ H5 s6 m ⟨I3.sz,(I3.size_lt (Zi _)).2⟩ I6.free hm (fun h2 sb=>I3.unblkG f3 (Zi _) I6 sb) q
    . refine ZU (T.item (X.blkG scope zs ys s3.heap.objs.size fp s3 (upd H2 s2.heap.objs.size (.lst [])) (X.pn++pins)) rfl rfl rfl hc i [] s5 _ H5 (fun _ _=>False) I5 (stat fr5) st5 go) (fun r s6 ⟨u,hr,h6⟩=>?_) fun _ _ z=>z.elim
      subst hr;refine ZU h6 (fun _ s7 ⟨y,H7,I7,r7,y7,st7,fr7⟩=>?_) fun _ _ z=>z.elim;have I7':=I7.pinned (stat fr7) (T.obj _ _ st7);refine ZU (hg _ _ _ _ _ own' B.ndb _ s7 _ H7 y u _ I7' r7 (gok _ _ _ _ (step y H7 y7))) (fun _ s8 ⟨σ8,H8,I8,q8,l8,k8⟩=>?_) fun _ _ z=>z.elim;have back:∀{s9:Shared}{H9:Hp}{xs':List V},Inv (X.blkG scope zs ys s3.heap.objs.size fp s3 (upd H2 s2.heap.objs.size (.lst [])) (X.pn++pins)) ([]++xe2 fp s7.heap) σ8 H9 s9->(∃ m',m'<n/\W (i+1) m' xs' H9) ->
          ∃ m,m<n/\∃ i xs H',Inv (X.blkG scope zs ys s3.heap.objs.size fp s3 (upd H2 s2.heap.objs.size (.lst [])) (X.pn++pins)) [] (blk0 Z fr zs.length) H' s9/\tn i s9.heap/\(∀ b∈fp,H' b=none)/\W i m xs H':=fun {s9 H9 xs'} I9 ⟨m',lt,w9⟩=>by
        refine⟨m',lt,i+1,xs',H9,I9.unpinned.weak l8.symm (fun j v e=>?_),T.keep _ _ _ st7 fun b hb o e=>(I9.pin (b,o) (Z2 _ (Z2 _ (xc5 hb e)))).1,fun b hb=>?_,w9⟩
        . by_cases lj:j<zs.length
          . unfold blk0 at e
            rw[ZV (by rw[QU]; exact lj),QJ] at e;split at e<;>cases e
          . rw[k8 j (by omega)]
            exact e
        obtain⟨o,e,d⟩:=T.obj _ _ st7 b hb;exact (I9.pin (b,o) (Z2 _ (Z2 _ (xc5 hb e)))).2.1
      refine ZU (hif _ _ _ _ _ _ s8 _ H8 _ I8 q8) (fun ok s9 ⟨H9,I9,q9⟩=>?_) fun _ _ z=>z.elim;cases ok with
      | false =>
        rw[if_neg (by decide)] at q9 ⊢;exact back I9 q9
      | true =>
        rw[if_pos rfl] at q9 ⊢;refine ZU (he _ _ _ _ _ _ s9 _ H9 _ I9 q9) (fun ev s10 ⟨yv,H10,I10,r10,hl,len,w10⟩=>?_) fun _ _ z=>z.elim;refine ZU (xdm (X:=X.blkG scope zs ys s3.heap.objs.size fp s3 (upd H2 s2.heap.objs.size (.lst [])) (X.pn++pins)) _ s10 _ H10 (.ref s2.heap.objs.size) [yv] (.ref s2.heap.objs.size) [ev] (fun v H'=>H'=upd H10 s2.heap.objs.size (.lst (xs++[yv]))) I10 rfl (.cons r10 .nil) ⟨_,xs,yv,rfl,rfl,hl,len,rfl⟩)
          (fun _ s11 ⟨_,H11,I11,_,e11⟩=>?_) fun _ _ z=>z.elim
        subst e11;exact back I11 w10
  exact codeAny_compStart_list (loop _ rfl) (T.self _ 0 _ _ _ st4 (loop _ rfl))
theorem xb3 (hc:X.calm=true) (B:BlkG X scope zs ys fr) (hi:PI X tg iter wi) (hg:∀ C ex s H pn,(∀ x∈zs,(relabel scope X.env).names.lookup x=some .local)->(zs++ys).Nodup->PG (X.blkG scope zs ys C ex s H pn) tg g) (gok:GOk zs.length g) (hif:∀ C ex s H pn,PIf (X.blkG scope zs ys C ex s H pn) ifs tc) (he:∀ C ex s H pn,PE (X.blkG scope zs ys C ex s H pn) elt te)
    (hs:∀ x,foldedSetIterable iter X.env x=pure x:=by intro _; rfl):PE X (.ListComp elt [⟨tg,iter,ifs,0⟩] scope pos) (xjr wi zs.length g fr tc te):=by
  intro pins s Z H Q I h;rw[eval_ListComp];refine wpAny_comprehension_free (use:=none) rfl hs (xm1 (B.cells I)) B.kind B.names (xgq hc B hi hg gok hif he I h fun C l H' s' m _ _ hm iv q=>?_);exact⟨m,hm,fun h2 sb=>⟨.ref l,H',iv h2 sb,rfl,q⟩⟩
theorem xdv {j:Nat}{y:Str}{py spos:Pos} (hc:X.calm=true) (B:BlkG X scope zs ys fr) (hi:PI X tg iter wi) (hg:∀ C ex s H pn,(∀ x∈zs,(relabel scope X.env).names.lookup x=some .local)->(zs++ys).Nodup->PG (X.blkG scope zs ys C ex s H pn) tg g) (gok:GOk zs.length g) (hif:∀ C ex s H pn,PIf (X.blkG scope zs ys C ex s H pn) ifs tc) (he:∀ C ex s H pn,PE (X.blkG scope zs ys C ex s H pn) elt te)
    (hj:X.N[j]?=some y) (hy:Loc X.env.scope y) (hf:X.fn y=true\/X.env.scope.names.lookup y=some .local:=by first|exact .inl rfl|exact .inr rfl|assumption)
    (hsw:swapsWith (.ListComp elt [⟨tg,iter,ifs,0⟩] scope pos) (some (.Name y py)) spos.line X.env=pure true:=by rfl)
    (hs:∀ x,foldedSetIterable iter X.env x=pure x:=by intro _; rfl):PS X (.Assign [.Name y py] (.ListComp elt [⟨tg,iter,ifs,0⟩] scope pos) spos) (tAsg (xjr wi zs.length g fr tc te) (xe0 j)):=by
  intro pins s Z H D I h;rw[exec_Assign_Name_used _ _ _ _ hsw];refine Zb (Wf (Zb ?_));show wpAny _ _ (do let _ <- comprehension (.ListComp elt [⟨tg,iter,ifs,0⟩] scope pos) scope X.env _ (newList []) false (eval iter X.env) (some (assign (.Name y py) X.env))) _ _ s;refine Zb (ZU (wpAny_comprehension_free (use:=some (assign (.Name y py) X.env)) (Q:=fun _ s'=>SP X pins D .next s') rfl hs (xm1 (B.cells I)) B.kind B.names
    (xgq hc B hi hg gok hif he I h fun C l H' s' m hC hn hm iv q=>?_)) (fun _ s' z=>Zg (Zg z)) fun _ _ e=>e)
  show wpAny _ _ (assign (.Name y py) X.env (.ref l)) _ _ _;have J:Inv X pins Z H' s':=iv s'.heap (.refl ..);refine wpAny_assign_Name (xg9 (v:=V.ref l) J B.nd hj hy rfl (fun s2 J2 ⟨a,sb,ha⟩=>?_) hf);have na:a≠C:=by
    rcases ha with z|z
    . rw[z]; exact Zw hC.2.1
    . exact hC.2.2.1 _ _ z
  refine⟨m,?_,fun h2 s3=>?_⟩
  . obtain⟨o,es,ep,g,r⟩:=hm
    exact⟨o,es,ep,(sb.2 C (Zw na)).trans g,r⟩
  . exact⟨_,H',J2.turned (t':=s2.toks) (fun b o nb g=>(s3.2 b nb).trans g) hn (hC.2.1) (.inr hC.1) hC.2.2.1 hC.2.2.2,q⟩
end
def xij (scope sc0:Scope) (N0:List Str) (zs:List Str) (ys:List Str) (fr:List Nat):Bool :=
 scope.kind == .function&&zs.all (fun x=>scope.names.lookup x == some .local)&&scope.names.all (fun y=>y.2 != .cell)&&scope.names.all (fun y=>y.2 != .local||scope.names.lookup y.1 == some .local) &&
 (xc0 scope).all (fun n=>sc0.names.lookup n == some .cell)&&fr.map (fun i=>N0[i]?) == ys.map some&&ys.all (fun y=>scope.names.lookup y == some .free)&&decide N0.Nodup&&decide (zs++ys).Nodup
theorem xo9 {X:Cx}{scope sc0:Scope}{N0:List Str}{zs:List Str}{ys:List Str}{fr:List Nat} (chk:xij scope sc0 N0 zs ys fr=true) (es:X.env.scope=sc0) (eN:X.N=N0):BlkG X scope zs ys fr:=by
 unfold xij at chk;simp only[ZM,beq_iff_eq,Qk,decide_eq_true_eq] at chk;obtain⟨⟨⟨⟨⟨⟨⟨⟨a1,a2⟩,a3⟩,a4⟩,a5⟩,a6⟩,a7⟩,a8⟩,a9⟩:=chk;have nc:∀ y∈scope.names,y.2≠.cell:=fun y hy=>by simpa using a3 y hy
 refine⟨a1,a2,nc,fun y hy hl=>?_,fun n hn=>by rw[es]; exact a5 n hn,fun n h=>xm2 nc n h,by rw[eN]; exact a6,fun y hy=>?_,fun y hy=>xk7 (a7 y hy),by rw[eN]; exact a8,a9⟩
 .have z:=a4 y hy;rw[hl] at z;simpa using z
 .exact Zr.mpr ⟨(y,.free),ZR.mpr ⟨JH (a7 y hy),by simp⟩,rfl⟩
theorem xbp {X:Cx}{scope sc0:Scope}{N0:List Str}{zs:List Str}{ys:List Str}{fr:List Nat} (chk:xij scope sc0 N0 zs ys fr=true) (es:X.env.scope=sc0) (eN:X.N=N0) (_:X.stack=X.env::X.outer):BlkG X scope zs ys fr:=xo9 chk es eN
theorem xc7 {K:Zd}{m n:Nat}{t:TGs} (h:∀ vs Z H Q,t vs Z H Q->t vs Z H (fun σ' H'=>Q σ' H'/\σ'.length=Z.length/\∀ i,n<=i->σ'[i]?=Z[i]?)):GOk n (gTup K m t):=fun v Z H Q q=>by
 obtain⟨a,xs,e,hs,hl,q⟩:=q;exact⟨a,xs,e,hs,hl,h _ _ _ _ q⟩
theorem xcp {n:Nat}:∀ vs Z H Q,gNil vs Z H Q->gNil vs Z H (fun σ' H'=>Q σ' H'/\σ'.length=Z.length/\∀ i,n<=i->σ'[i]?=Z[i]?):=fun vs Z H Q q=>⟨q.1,q.2,rfl,fun _ _=>rfl⟩
theorem xax {i n:Nat} (hi:i<n) {t:TGs} (h:∀ vs Z H Q,t vs Z H Q->t vs Z H (fun σ' H'=>Q σ' H'/\σ'.length=Z.length/\∀ i,n<=i->σ'[i]?=Z[i]?)) :
    ∀ vs Z H Q,xls (xe0 i) t vs Z H Q->xls (xe0 i) t vs Z H (fun σ' H'=>Q σ' H'/\σ'.length=Z.length/\∀ i,n<=i->σ'[i]?=Z[i]?):=fun vs Z H Q q=>by
  obtain⟨v,r,e,q⟩:=q;refine⟨v,r,e,?_⟩;have z:=h _ _ _ _ q;have e2:∀(j:Nat),n<=j->(Z.set i (some v))[j]?=Z[j]?:=fun j hj=>by rw[YB (by omega)]
  have e1:(Z.set i (some v)).length=Z.length:=by simp
  have key:(fun σ' H'=>Q σ' H'/\σ'.length=(Z.set i (some v)).length/\∀ j,n<=j->σ'[j]?=(Z.set i (some v))[j]?)=(fun σ' (H':Hp)=>Q σ' H'/\σ'.length=Z.length/\∀ j,n<=j->σ'[j]?=Z[j]?):=by
    funext σ' H';rw[e1];refine propext ⟨fun⟨a,b,c⟩=>⟨a,b,fun j hj=>(c j hj).trans (e2 j hj)⟩,fun⟨a,b,c⟩=>⟨a,b,fun j hj=>(c j hj).trans (e2 j hj).symm⟩⟩
  rw[key] at z;exact z
theorem xcr {J:It}{n:Nat}{g:TG}{Z:St}{fr:List Nat}{tc:TT}{te:TE}{l:Addr}{H1:Hp}{Q:VK} (len:Nat) (Pv:Nat->List V->Hp->Prop) (h0:Pv 0 [] (upd H1 l (.lst []))) (hgo:∀ i xs H,i<len->Pv i xs H->J.go i H)
    (step:∀ i xs H2 v H3,i<len->Pv i xs H2->J.yld i H2 v H3->∀ N:List V->Hp->Prop,(∀ xs' H',Pv (i+1) xs' H'->N xs' H')->g v (blk0 Z fr n) H3 fun σ' H3'=>tc σ' H3' fun b H4=>if b=true then
      (te σ' H4 fun y H5=>H5 l=some (.lst xs)/\xs.length<sizeLine/\N (xs++[y]) (upd H5 l (.lst (xs++[y])))) else N xs H4)
    (fin:∀ xs H2,Pv len xs H2->J.stop len H2/\Q (.ref l) H2):xd6 J n g Z fr tc te l H1 Q:=by
  refine⟨fun i m xs H=>m=len-i/\i<=len/\Pv i xs H,⟨len,by simp,Ja _,h0⟩,?_⟩;rintro i m xs H2 ⟨rfl,hi,p⟩;by_cases lt:i<len
  . exact .inr ⟨hgo i xs H2 lt p,fun v H3 y=>step i xs H2 v H3 lt p y (fun xs' H'=>∃ m',m'<len-i/\m'=len-(i+1)/\i+1<=len/\Pv (i+1) xs' H') fun xs' H' q=>⟨_,by omega,rfl,lt,q⟩⟩
  . have e:i=len:=by omega
    subst e;exact .inl (fin xs H2 p)
section
variable {X:Cx}{pins:List (Addr × Obj)}{Z:St}{H:Hp}{s:Shared}
theorem Inv.adopt {p:Addr}{o:HO} (I:Inv X pins Z H s) (n:H p=none) (h0:X.s₀.heap.objs.size<=p) (hL:p≠X.env.locals) (hC:∀ x c,X.env.cells.lookup x=some c->c≠p) (hp:∀ q∈X.pn++pins,q.1≠p)
    (new:xap X.prog X.w (upd H p o) s.heap p o):Inv X pins Z (upd H p o) s:=by
  have ne:∀ b u,H b=some u->b≠p:=fun b u e=>xg e n;refine⟨I.ok,I.os,I.bare,⟨I.base.keep,I.base.slot,fun b ob e hn hx=>?_,I.base.there,fun b xs e=>?_,fun b ob u e=>?_,fun b ps e=>?_⟩,I.loc,I.cell,?_,fun x c e=>?_,fun q hq=>?_,fun b u e=>?_,I.len⟩
  . rw[xh (ZD (ZF (Zs e) h0))]
    exact I.base.free b ob e hn hx
  . have z:=I.base.tups b xs e
    rw[xh (ne b _ z)];exact z
  . have z:=I.base.frzs b ob u e
    rw[xh (ne b _ z)];exact z
  . obtain⟨m,z⟩:=I.base.tbls b ps e
    exact⟨m,by rw[xh (ne b _ z)]; exact z⟩
  . rw[xh (Zw hL)]
    exact I.free
  . rw[xh (hC x c e)]
    exact I.freeC x c e
  . obtain⟨a1,a2,a3⟩:=I.pin q hq
    exact⟨a1,by rw[xh (hp q hq)]; exact a2,a3⟩
  . by_cases hb:b=p
    . subst hb
      rw[xi] at e;cases e;exact new
    . rw[xh hb] at e
      exact (I.hok b u e).stay (fun c v _ q=>q) (fun c q=>by rw[xh (ne c _ q)]; exact q) fun c xs q=>by rw[xh (ne c _ q)]; exact q
theorem Inv.thaw {d:Addr}{o:Obj}{u:HO} (I:Inv X pins Z H s) (e:H d=some (.frz o u)) (nf:∀ o' u',X.H₀ d≠some (.frz o' u')):Inv X pins Z (upd H d u) s:=by
 have ne:∀ b v,H b=some v->(∀ o' u',v≠.frz o' u')->b≠d:=fun b v h1 h2 z=>by
  subst z;rw[e] at h1;cases h1;exact h2 _ _ rfl
 have ne0:∀ b,H b=none->b≠d:=fun b h1 z=>by
  subst z;rw[e] at h1;cases h1
 refine⟨I.ok,I.os,I.bare,⟨I.base.keep,I.base.slot,fun b ob q hn hx=>?_,I.base.there,fun b xs q=>?_,fun b ob v q=>?_,fun b ps q=>?_⟩,I.loc,I.cell,?_,fun x c q=>?_,fun p hp=>?_,fun b v q=>?_,I.len⟩
 .have z:=I.base.free b ob q hn hx;rw[xh (ne0 b z)];exact z
 .have z:=I.base.tups b xs q;rw[xh (ne b _ z (fun _ _ h=>nomatch h))];exact z
 .have z:=I.base.frzs b ob v q;have hb:b≠d:=fun w=>by
   subst w;exact nf _ _ q
  rw[xh hb];exact z
 .obtain ⟨m,z⟩:=I.base.tbls b ps q;exact⟨m,by rw[xh (ne b _ z (fun _ _ h=>nomatch h))]; exact z⟩
 .rw [xh (ne0 _ I.free)];exact I.free
 .rw [xh (ne0 _ (I.freeC x c q))];exact I.freeC x c q
 .obtain ⟨a1,a2,a3⟩:=I.pin p hp;exact⟨a1,by rw[xh (ne0 _ a2)]; exact a2,a3⟩
 .have st:∀(a:Addr) (v:HO),xap X.prog X.w H s.heap a v->xap X.prog X.w (upd H d u) s.heap a v:=fun a v k =>
   k.stay (fun c v _ q=>q) (fun c q=>by rw[xh (ne c _ q (fun _ _ h=>nomatch h))]; exact q) fun c xs q=>by rw[xh (ne c _ q (fun _ _ h=>nomatch h))]; exact q
  by_cases hb:b=d
  .subst hb;rw[xi] at q;cases q;obtain⟨g,ok⟩:=I.hok b _ e;exact st _ _ ok
  .rw [xh hb] at q;exact st _ _ (I.hok b v q)
theorem Inv.nofrz {d:Addr}{kvs:List (Key × V)} (I:Inv X pins Z H s) (e:H d=some (.dK kvs)):∀ o' u',X.H₀ d≠some (.frz o' u'):=fun o' u' z=>by
 have q:=I.base.frzs d o' u' z;rw[e] at q;cases q
theorem KV.get:∀{kvs:List (Key × V)}{vs:List (Key × Value)}{i:Nat}{k:Key}{x:V},KV kvs vs->kvs[i]?=some (k,x)->∃ u,vs[i]?=some (k,u)/\RelV x u
 | _,_,_,_,_,.nil,e=>by simp at e
 | _,(_,_)::_,0,_,_,.cons r _,e=>by
  simp at e;subst e;obtain⟨r1,r2⟩:=r
  dsimp only at r1 r2
  subst r1;exact⟨_,rfl,r2⟩
 | _,_,i+1,k,x,.cons _ t,e=>by
  obtain⟨u,h1,h2⟩:=KV.get (i:=i) (k:=k) (x:=x) t (by simpa using e);exact⟨u,by simpa using h1,h2⟩
theorem xsy {P:Program}{w:World}{k:Key}{u:Value} (h:(xai P w).is k u=true):RelV (kV k) u:=by
 rcases xbf (show xes k u=true from h) with⟨i,t,rfl,rfl⟩|⟨x,t,rfl,rfl⟩
 .exact ⟨t,rfl⟩
 .exact ⟨t,rfl⟩
theorem xng {d:Addr}{o:Obj}{kvs:List (Key × V)}{ep:Nat} (I:Inv X pins Z H s) (e:H d=some (.frz o (.dK kvs))) (hep:∃ es,o.data=.dict es ep):∃ vs,KV kvs vs/\s.heap.DictAt (xai X.prog X.w) d vs ep:=by
 obtain⟨g,_,_,vs,rel,o',es',ep',g',ex,hdat,hk,hp,hn⟩:=I.hok d _ e;rw[g] at g';cases g';obtain⟨es,he⟩:=hep;rw[he] at hdat;cases hdat;exact⟨vs,rel,o,_,g,ex,he,hk,hp,hn⟩
end
def Iti (d:Addr) (o:Obj) (kvs:List (Key × V)):It :=
 ⟨fun i H=>H d=some (.frz o (.dK kvs))/\i<kvs.length,fun i H v H'=>∃ p k x,kvs[i]?=some (k,x)/\v=.ref p/\H p=none/\H'=upd H p (.tup [kV k,x]),fun i H=>H d=some (.frz o (.dK kvs))/\kvs.length<=i⟩
theorem xk5 {P:Program}{w:World}{K:Zd}{elts:List Expr}{x1}{tpos:Pos} (d it:Addr) (o:Obj) (kvs:List (Key × V)) (ep:Nat) (hep:∃ es,o.data=.dict es ep) :
    Turn P w K (.Tuple elts x1 tpos) (Iti d o kvs) [it] it (fun i h=>∃ ok ov,IsItemIter h it d i kvs.length ep ok ov) where
  mem:=by simp
  obj:=fun i h st b hb=>by
    have e:b=it:=by simpa using hb
    subst e;obtain⟨ok,ov,st⟩:=st;exact⟨_,st,fun v z=>by
      have z':Data.fields _=Data.cell v:=z;cases z'⟩
  keep:=fun i h h' ⟨ok,ov,st⟩ k=>⟨ok,ov,k it (by simp) _ st⟩
  item:=by
    intro X hP hw hK hc i pins s Z H E I hf st hg;subst hP hw hK;obtain⟨ok,ov,st⟩:=st;obtain⟨e,lt⟩:=hg;obtain⟨vs,rel,da⟩:=xng I e hep;obtain⟨f0,f1,f2,f3,f4,f5⟩:=hf it (by simp);have hl:kvs.length=vs.length:=rel.length;obtain⟨⟨k,x⟩,q⟩:∃ y,kvs[i]=y:=⟨_,rfl⟩
    have hx:kvs[i]?=some (k,x):=by rw[Za lt,q]
    obtain⟨u,hv,ru⟩:=rel.get hx;rw[hl] at st;refine wpAny_pyNext_items_item st da hv fun key h' hkey hout ht hz hkp=>?_;refine⟨_,rfl,wpAny_letOwnedTupleGo_items hout fun h'' hit' hsb=>?_⟩;have kk:∀ b o,b≠it->s.heap.get? b=some o->h''.get? b=some o:=fun b o hb g=>(hsb.2 b hb).trans (hkp b o hb g);have I1:Inv X pins Z H { s with heap:=h'' }:=I.turned (t':=s.toks) kk f0 f1 f3 f4 f5;obtain⟨n0,nL,nC,nP⟩:=I.size_lt (Zi s.heap.objs.size);have itlt:it<s.heap.objs.size:=Zs st;have pne:s.heap.objs.size≠it:=YD itlt;have hp:h''.get? s.heap.objs.size=some { cls:=.type "tuple",data:=.seq #[key,u] }:=(hsb.2 _ pne).trans ht;refine⟨.ref s.heap.objs.size,upd H s.heap.objs.size (.tup [kV k,x]),I1.adopt n0 I.sz nL nC nP ⟨by show 2<=sizeLine; decide,[key,u],.cons (xsy hkey) (.cons ru .nil),_,hp,rfl,_,rfl⟩,rfl,⟨_,k,x,hx,rfl,n0,rfl⟩,?_,fun b hb=>?_⟩
    . rw[<- hl] at hit'
      exact⟨_,_,hit'⟩
    . have e:b=it:=by simpa using hb
      subst e;rw[xh (Zw pne)];exact f0
  done:=by
    intro X hP hw hK hc i pins s Z H E I hf st hg;subst hP hw hK;obtain⟨ok,ov,st⟩:=st;obtain⟨e,le⟩:=hg;obtain⟨vs,rel,da⟩:=xng I e hep;obtain⟨f0,f1,f2,f3,f4,f5⟩:=hf it (by simp);have hl:kvs.length=vs.length:=rel.length;rw[hl] at st;exact wpAny_pyNext_items_end (I.ok.hd hc) st da (by simpa using (by omega:vs.length<=i)) fun h' eb=>⟨rfl,I.turned (t':=s.toks) (fun b o hb e=>eb b o hb e) f0 f1 f3 f4 f5⟩
  self:=fun _ _ _ _ _ ⟨ok,ov,st⟩ h=>PySem.W.kcp_self st h
def xsv (X:Cx) (to:TE):TI:=fun Z H R=>to Z H fun x H1=>∃ d kvs,x=.ref d/\H1 d=some (.dK kvs)/\∀ ob,(∀ o' u',X.H₀ d≠some (.frz o' u'))->R (Iti d ob kvs) (upd H1 d (.frz ob (.dK kvs)))
section
variable {X:Cx}{o:Expr}{to:TE}{elts:List Expr}{x1:_}{tpos apos cpos:Pos}
theorem xo7 (ho:PE X o to) (hbase:attributeBase o "items" X.env (eval o X.env)=eval o X.env:=by rfl) (hline:(apos.endLine == cpos.line)=true:=by rfl) :
    PI X (.Tuple elts x1 tpos) (.Call (.Attribute o "items" apos) [] [] cpos) (xsv X to):=by
  intro pins s Z H R I h;refine JS hbase hline (thn (ho pins s Z H _ I h) fun v s1 ⟨x,H1,I1,r1,q1⟩=>?_);obtain⟨d,kvs,e1,e,q⟩:=q1;subst e1;cases r1;obtain⟨z,hd,vs,rel,dd⟩:=xd5 I1.hok e;obtain⟨ob,es,ep,g,ex,hdat,hk,hp,hn⟩:=id dd;refine⟨"dict", "dict.items",Jr,YV,PySem.F.type_dict_items,dd.typeIs,fun a e2=>?_,ZZ rfl (JV ?_)⟩
  . cases e2
    exact⟨ob,g,ex.2.1⟩
  refine JO YV dd.typeIs PySem.F.entry_dict_items (PySem.F.args_dict_items_1 _) (meets_dict_items (xai X.prog X.w) d hd) ⟨⟨vs,dd⟩,?_⟩;have da:(s1.heap.push { cls:=.type "dict_items",data:=.fields #[.ref d] }).DictAt (xai X.prog X.w) d vs ep:=⟨ob,es,Ze _ g,ex,hdat,hk,hp,hn⟩
  refine wpAny_pyIter_items (s:={ s1 with heap:=s1.heap.push { cls:=.type "dict_items",data:=.fields #[.ref d] } }) ⟨_,Zo _ rfl,rfl,rfl⟩ da ?_;have I2:Inv X pins Z H1 { s1 with heap:=s1.heap.push { cls:=.type "dict_items",data:=.fields #[.ref d] } }:=I1.kept (t':=s1.toks) fun b o e=>Ze _ e;generalize hs2:({ s1 with heap:=s1.heap.push { cls:=.type "dict_items",data:=.fields #[.ref d] } }:Shared)=s2 at I2;have g2:s2.heap.get? d=some ob:=by rw[<- hs2]; exact Ze _ g
  have I3:Inv X pins Z (upd H1 d (.frz ob (.dK kvs))) s2:=I2.write (t':=s2.toks) (x:=d) (e:=d) (by rw[e]; exact Jg) (.inl rfl) (fun b u _ q=>q) ⟨ob,g2⟩ ⟨g2,I2.hok d _ e⟩;have I4:Inv X pins Z (upd H1 d (.frz ob (.dK kvs))) { s2 with heap:=s2.heap.push { cls:=.type "dict_itemiterator",data:=.fields #[.none,.bool false,.ref d,.int 0 0,.int vs.length 0,.int ep 0,.none,.none] } } :=
    I3.kept (t':=s2.toks) fun b o e=>Ze _ e
  have fin:PIE X pins Z (.Tuple elts x1 tpos) R (.ref s2.heap.objs.size) { s2 with heap:=s2.heap.push { cls:=.type "dict_itemiterator",data:=.fields #[.none,.bool false,.ref d,.int 0 0,.int vs.length 0,.int ep 0,.none,.none] } }:=by
    refine⟨s2.heap.objs.size,[s2.heap.objs.size],_,_,upd H1 d (.frz ob (.dK kvs)),rfl,I4,xk5 d _ ob kvs ep ⟨es,hdat⟩,⟨.none,.none,?_⟩,fun b hb=>?_,q ob (I1.nofrz e)⟩
    . have hl:kvs.length=vs.length:=rel.length
      show IsItemIter _ _ d 0 kvs.length ep .none .none;rw[hl];exact Zo _ rfl
    . have eb:b=s2.heap.objs.size:=by simpa using hb
      subst eb;exact I3.fpOk (Zi _) (I3.hok.fresh (Zi _))
  exact fin
theorem xoz {pins:List (Addr × Obj)}{Z:St}{Q:VK}{u:Value}{s:Shared} (h:EP X pins Z (fun v H2=>∃ d ob u,H2 d=some (.frz ob u)/\(∀ o' u',X.H₀ d≠some (.frz o' u'))/\Q v (upd H2 d u)) u s):EP X pins Z Q u s:=by
 obtain⟨v,H2,I2,r2,d,ob,u',e,nf,q⟩:=h;exact⟨v,_,I2.thaw e nf,r2,q⟩
theorem xkv {e:Expr}{t:TE} (h:PE X e t):PE X e (fun Z H Q=>t Z H fun v H2=>∃ d ob u,H2 d=some (.frz ob u)/\(∀ o' u',X.H₀ d≠some (.frz o' u'))/\Q v (upd H2 d u)):=fun pins s Z H Q I q =>
 thn (h pins s Z H _ I q) fun _ _ z=>xoz z
end
end L2
namespace PySem.F
theorem xl_plain_dict_loop:plainId "dict.update.loop"=true:=by decide +kernel
theorem xl_entry_dict_loop:entryFor table "dict.update.loop"=some Builtin.«dict.update.loop»:=entryFor_of_tree (by kernel_rfl)
theorem xl_list_nokeys:typeLookup (.type "list") "keys"=pure none:=by rw[typeLookup_type,builtinLookup_eq_fast]; kernel_rfl
end PySem.F
namespace L2
open PySem PySem.Spec PyProof.Rows XL
variable {q0:Bool}
theorem xnf {prog:Program}{w:World}{A:Around}{E:Value->Shared->Prop}{s:Shared}{a:Addr}{o:Obj}{xs:Array Value}{k:Nat}{Q:Option Value->Shared->Prop}
    (hx:s.heap.get? a=some o) (hc:o.cls=.type "list") (hdat:o.data=.seq xs k) (hd:o.dict=none) (hA:A.handled=none)
    (h:∀ h' tk,(∀ b o,s.heap.get? b=some o->h'.get? b=some o)->Q none { s with heap:=h',toks:=tk }):wpAny (model prog w) A (getAttr? (.ref a) "keys") Q E s:=by
  obtain⟨c,dct,dat,sl⟩:=o;simp only at hc hdat hd;subst hc hdat hd;obtain⟨hp,g,d,tk,os⟩:=s;have hT:∀ tk',(⟨hp,g,d,tk',os⟩:Shared).TypeIs (.ref a) "list":=fun _=>⟨_,hx,rfl⟩
  have f1:=sub_AttributeError;have f3:=QF.lookup;have f4:=QF.bind (.ref a);have f5:=am_list_getattr_none;unfold getAttr? getAttrBy? getAttrBy
  repeat (any_goals (first|assumption|exact hT _|((with_reducible show wpAny _ _ (call (Ql "list.__getattribute__") _ _) _ _ _); refine QK QF (hT _) am_entry_list_getattribute (F.args_list_getattribute_2 _ _) (meets_getattribute_miss_list a xs k sl "keys" _ F.xl_list_nokeys (by decide +kernel) (by size_fits)) ⟨hx,hA,fun h' tk' e hx'=>?_⟩)|wp_step))
  obtain⟨t',u',he⟩:=hx'.there;have hk:=hx'.of.keeps;show wpAny _ _ (getattributeRaised _ _ _ _ _ _ _) _ _ _;unfold getattributeRaised
  repeat (any_goals (first|assumption|wp_step))
  exact h _ _ hk
section
variable {X:Cx}{pins:List (Addr × Obj)}{Z:St}{H:Hp}{s:Shared}{a:Addr}{y v:V}{u r:Value}{A:Around}{E:Value->Shared->Prop}
theorem xno {H':Hp}{Q:Unit->Shared->Prop} (hu:A.units<cLine) (I:Inv X pins Z H s) (g:DPut H a y v H') (ry:RelV y u) (rv:RelV v r) (h:∀ s',Inv X pins Z H' s'->Q () s') :
    wpAny (model X.prog X.w) A (dictSet a u r) Q E s:=by
  rcases g with⟨kvs,k,e,ey,l,eH⟩|⟨kvs,k,b,e,ey,eb,l,eH⟩
  . subst ey eH
    obtain⟨z,hd,vs,rel,dd⟩:=xd5 I.hok e;have hz:vs.length<=sizeLine:=by rw[<- rel.length]; exact z
    have hl:(putK kvs k v).length<=sizeLine:=by have:=xbn kvs k v; omega
    refine wpAny_dictSet_pairs (hsz:=hz) (xdc ry) dd fun h' dd' hs=>h _ ?_;have he:∃ q,h'.get? a=some q:=let ⟨q,_,_,hq,_⟩:=dd'; ⟨q,hq⟩;exact xc9 I (by rw[e]; exact Jg) hs he (xnk hl hd (rel.put k rv) dd')
  . subst ey eH
    cases (show u=Zk b from ry);obtain⟨z,hd,xs,rel,dd⟩:=xeu I.hok e;have hz:xs.length<=sizeLine:=by rw[<- Yg rel]; exact z
    have hl:(putK kvs k v).length<=sizeLine:=by have:=xbn kvs k v; omega
    refine wpAny_dictSet_heap (hsz:=hz) (show (tupleKind (xai X.prog X.w)).room A from hu) (xdj I.hok eb) dd fun h' dd' hs=>h _ ?_;obtain⟨q,es,ep,hq,h2,h3,h4,_,h5⟩:=dd';refine xc9 I (by rw[e]; exact Jg) hs ⟨q,hq⟩ ⟨hl,hd,_,(rel.put k eb rv).keeps fun c ys ec=>?_,q,es,ep,hq,h2,h3,h4,h5⟩;rw[xh (xp ec e (fun z=>nomatch z))];exact ec
theorem DPut.stay {d b:Addr}{H':Hp}{o:HO} (g:DPut H d y v H') (e:H b=some o) (n1:∀ kvs,o≠.dK kvs) (n2:∀ kvs,o≠.dT kvs):H' b=some o:=by
 rcases g with⟨kvs,k,e2,_,_,rfl⟩|⟨kvs,k,b2,e2,_,_,_,rfl⟩
 .rw [xh (xp e e2 (n1 _))];exact e
 .rw [xh (xp e e2 (n2 _))];exact e
theorem DPut.free {d b:Addr}{H':Hp} (g:DPut H d y v H') (e:H b=none):H' b=none:=by
 rcases g with⟨kvs,k,e2,_,_,rfl⟩|⟨kvs,k,b2,e2,_,_,_,rfl⟩
 .rw [xh (Zw (xg e2 e))];exact e
 .rw [xh (Zw (xg e2 e))];exact e
end
inductive xep (d:Addr):Hp->List (V × V)->Hp->Prop
 | nil {H:Hp}:xep d H [] H
 | cons {H H1 H2:Hp}{y v:V}{r:List (V × V)}:DPut H d y v H1->xep d H1 r H2->xep d H ((y,v)::r) H2
theorem xfp {X:Cx}{pins:List (Addr × Obj)}{Z:St}{A:Around}{R:Result->Shared->Prop} (hh:A.in1.handled=none) (hu:A.in1.units<cLine) {l it d:Addr} :
    ∀(ps:List (Addr × V × V)) (pre:List V) (j:Int) (H H2:Hp) (s:Shared),Inv X pins Z H s->H l=some (.lst (pre++ps.map fun p=>.ref p.1))->(∀ p∈ps,H p.1=some (.tup [p.2.1,p.2.2]))->xep d H (ps.map (·.2)) H2 ->
      s.heap.IsListIter it l pre.length->FpOk X pins H it->(∀ s',Inv X pins Z H2 s'->R (.ok (.ret .none)) s') ->
      codeAny (model X.prog X.w) A (.builtin "dict.update.loop" ⟨[.ref d,.ref it,rawInt j,.none],[]⟩) R s
  | [],pre,j,H,H2,s,I,hl,hp,dp,st,fo,fin=>by
    cases dp;obtain⟨z,its,n,r,hl2,e⟩:=I.lstM hl;obtain⟨f0,f1,f2,f3,f4,f5⟩:=fo;refine Qt F.xl_entry_dict_loop ?_;rw[Qr F.xl_plain_dict_loop _];show wpAny _ A.in1 (pyNext (.ref it)>>=_) _ _ s;refine Zb (wpAny_pyNext_list_end hh st ⟨_,e,rfl,_,rfl⟩ (by simp at hl2 ⊢; omega) fun h' eb=>?_);show wpAny _ A.in1 (Builtin.Dict.addKeywords d []>>=_) _ _ _;exact Zb (Zg (Zg (fin _ (I.turned (t':=s.toks) (fun b o hb e=>eb b o hb e) f0 f1 f3 f4 f5))))
  | (a,y,v)::ps,pre,j,H,H2,s,I,hl,hp,dp,st,fo,fin=>by
    have fo':=fo;obtain⟨f0,f1,f2,f3,f4,f5⟩:=fo;cases dp with
    | @cons _ H1 _ _ _ _ g dp =>
    obtain⟨z,its,n,r,hl2,e⟩:=I.lstM hl;obtain⟨u,hu1,ru⟩:=r.get (i:=pre.length) (x:=.ref a) (by simp);obtain rfl:u=Zk a:=ru;refine Qt F.xl_entry_dict_loop ?_;rw[Qr F.xl_plain_dict_loop _];show wpAny _ A.in1 (pyNext (.ref it)>>=_) _ _ s;refine Zb (wpAny_pyNext_list_item st ⟨_,e,rfl,_,rfl⟩ (x:=.ref a) (by simpa using hu1) fun h' st' sb=>?_);have I1:Inv X pins Z H { s with heap:=h' }:=I.turned (t':=s.toks) (fun b o hb e=>(sb.2 b hb).trans e) f0 f1 f3 f4 f5;obtain⟨z2,ts,rt,ot,et,ct,nt,dt⟩:=I1.hok a _ (hp _ Zp);obtain⟨uk,uv,rfl,rk,rv⟩:=xlg rt;show wpAny _ A.in1 (holding [.ref a] _>>=_) _ _ _;refine Zb (Jk ?_);refine Zb (wpAny_tryCatch ?_);unfold Builtin.Dict.pairItems;refine Zb (Qz (T:="tuple") ⟨ot,et,ct⟩ ?_);rw[if_pos (by decide)];refine Zb (wpAny_seqItems et dt (Zg ?_));show wpAny _ A.in1 (holding [uk,uv] (dictSet d uk uv)) _ _ _;have ob:∀ b∈[it],∃ o,h'.get? b=some o/\∀ v,o.data≠.cell v:=fun b hb=>by
      have e:b=it:=by simpa using hb
      subst e;obtain⟨o,e,c,d⟩:=id st';exact⟨o,e,fun v z=>by rw[d] at z; cases z⟩
    have I1':=I1.pinned (fp:=[it]) (fun b hb=>by
      have e:b=it:=by simpa using hb
      subst e;exact fo') ob
    refine Jk (xno hu I1' g rk rv fun s' I2=>?_);refine Zg ⟨plainId_quiet F.xl_plain_dict_loop _,?_⟩;have fo2:FpOk X pins H1 it:=⟨g.free f0,f1,f2,f3,f4,f5⟩
    have st2:s'.heap.IsListIter it l (pre++[V.ref a]).length:=by
      rw[Zu];exact st'.at fun o e=>(I2.pin (it,o) (Z2 _ (Z2 _ (xc5 (by simp) e)))).1
    refine xfp hh hu ps (pre++[V.ref a]) (j+1) H1 H2 s' I2.unpinned ?_ (fun p hp'=>?_) dp st2 fo2 fin
    . have z:=g.stay hl (fun _ q=>nomatch q) (fun _ q=>nomatch q)
      rw[z];simp
    . exact g.stay (hp p (Zm _ hp')) (fun _ q=>nomatch q) (fun _ q=>nomatch q)
inductive xqi (xs:List V) (H:Hp) (Q:VK):Prop
 | mk (l:Addr) (ps:List (Addr × V × V)) (e_:xs=[.ref l]) (r_:H l=some (.lst (ps.map fun p=>.ref p.1))/\(∀ p∈ps,H p.1=some (.tup [p.2.1,p.2.2]))/\∀ d,H d=none->∃ e H2,(e=.dK []\/e=.dT [])/\xep d (upd H d e) (ps.map (·.2)) H2/\Q (.ref d) H2)
theorem xea {X:Cx} (hc:X.calm=true) (hu:X.A.units+3<cLine):xb0 X (.type "dict") xqi:=by
 intro pins s Z H xs us Q I r h;obtain⟨l,ps,rfl,hl,hp,q⟩:=h;obtain⟨u,rfl,rx⟩:=xcb r;obtain rfl:u=Zk l:=rx;refine callType_codes (Q₁:=fun obj s₁=>obj=.ref s.heap.objs.size/\s₁={ s with heap:=s.heap.push { cls:=.type "dict",data:=.dict #[] } }) F.kt_called_dict (F.kt_typeCall_dict_1 _) F.entry_dict_init (kt_code_dict_new _ ⟨rfl,rfl⟩) ?_;rintro obj s₁ ⟨rfl,rfl⟩;obtain⟨e,H2,he,dps,q2⟩:=q s.heap.objs.size I.fresh;have I1:Inv X pins Z (upd H s.heap.objs.size e) { s with heap:=s.heap.push { cls:=.type "dict",data:=.dict #[] } }:=by
  refine I.laid (t':=s.toks) (fun b u e=>Ze _ e) (Zi _) ?_;rcases he with rfl|rfl
  .exact xiz s.heap I.big
  .exact xjf s.heap I.big
 have hT:(Shared.mk (s.heap.push { cls:=.type "dict",data:=.dict #[] }) s.gens s.drawn s.toks s.os).TypeIs (.ref s.heap.objs.size) "dict":=⟨_,Zo _ rfl,rfl⟩
 have nl:l≠s.heap.objs.size:=fun z=>by
  rw[z,I.fresh] at hl;cases hl
 have hl1:upd H s.heap.objs.size e l=some (.lst (ps.map fun p=>.ref p.1)):=by rw[xh nl]; exact hl
 obtain⟨z,its,n,rr,hll,el⟩:=I1.lstM hl1;refine⟨hT,F.args_dict_init_2 _ _,?_⟩;unfold Builtin.«dict.__init__»;refine Zb ?_;unfold Builtin.Dict.selfAndRest;refine Zb (JI hT ?_);show wpAny _ _ (pure (s.heap.objs.size,[Zk l])) _ _ _;refine Zg ?_;show wpAny _ _ (Builtin.Dict.updateFrom "dict.__init__" s.heap.objs.size (.ref l) [] .none) _ _ _;unfold Builtin.Dict.updateFrom;refine Zb (Qz (T:="list") ⟨_,el,rfl⟩ ?_);rw[if_pos (by decide)];refine Zb (xnf el rfl rfl rfl (I.ok.hd hc) fun h' tk hk=>?_);have I2:=I1.kept (h':=h') (t':=tk) hk;show wpAny _ _ (rule _>>=_) _ _ _;refine Zb (wpAny_rule ?_);refine Zb (wpAny_pyIter_list ⟨_,hk _ _ el,rfl,_,rfl⟩ ?_);refine Zg ⟨plainId_quiet F.xl_plain_dict_loop _,?_⟩;have I3:Inv X pins Z (upd H s.heap.objs.size e) _:=I2.kept (t':=tk) (h':=h'.push { cls:=.type "list_iterator",data:=.fields #[.ref l,.int 0 0] }) fun b o e=>Ze _ e;refine xfp (A:=X.A.in1) (I.ok.hd hc) (by show X.A.units+1+1<cLine; omega) ps [] 0 _ H2 _ I3 (by simpa using hl1) (fun p hp'=>?_) dps ?_ ?_ fun s' I'=>?_
 .rw [xh (xg (hp p hp') I.fresh)];exact hp p hp'
 .exact ⟨_,Zo _ rfl,rfl,rfl⟩
 .exact I2.fpOk (Zi _) (I2.hok.fresh (Zi _))
 .exact ⟨rfl,⟨.ref _,H2,I',rfl,q2⟩⟩
theorem xsi {X:Cx}{e:Expr}{t1 t2:TE} (h1:PE X e t1) (h2:PE X e t2):PE X e (fun Z H Q=>t1 Z H Q\/t2 Z H Q):=fun pins s Z H Q I h=>h.elim (h1 pins s Z H Q I) (h2 pins s Z H Q I)
theorem xdp {xs:List V}{us:List Value} (r:Vals xs us) {j:Nat} (h:j<us.toArray.size):∃ x,xs[j]?=some x/\RelV x us.toArray[j]:=by
 have hl:=r.length;have hj:j<xs.length:=by simp at h; omega
 obtain⟨u,h1,h2⟩:=r.get (x:=xs[j]) (Za hj);refine⟨xs[j],Za hj,?_⟩;have:us.toArray[j]=u:=by
  have z:=Zh.mp h1;obtain⟨z1,z2⟩:=z;simpa using z2
 rw[this];exact h2
theorem xiq {A:Around}{k:Nat} (hr:Room q0 k A):A.units+3<cLine:=by have:=hr.un; omega
theorem xbj {A:Around}{k:Nat} (hr:Room q0 k A):A.units+20<cLine:=by have:=hr.un; omega
theorem xnb {X:Cx}:xb0 X (.builtin "len") (fun xs H Q=>∃ a kvs,xs=[.ref a]/\H a=some (.dK kvs)/\Q (.int kvs.length) H):=by
 intro pins s Z H xs us Q I r h;obtain⟨a,kvs,rfl,e,q⟩:=h;obtain⟨u,rfl,rx⟩:=xcb r;obtain rfl:u=Zk a:=rx;exact xul I (.inl e) fun t s' I'=>⟨.int _,H,I',⟨t,rfl⟩,q⟩
inductive Ents (w:World):List DictEntry->List (Key × V)->Prop
 | nil:Ents w [] []
 | cons {k:Key}{x:V}{key val:Value}{h:Int}{es:List DictEntry}{kvs:List (Key × V)} (hh:h=keyH w k) (hk:RelV (kV k) key) (hv:RelV x val) (r:Ents w es kvs):Ents w (⟨h,key,val⟩::es) ((k,x)::kvs)
def xlv (w:World) (K:Zd) (D:Addr) (kvs:List (Key × V)):Prop:=(D == sysModules)=false/\∃(es:Array DictEntry) (ep:Nat),K.lookup D=some ⟨.type "dict",none,.dict es ep,#[]⟩/\Ents w es.toList kvs/\(kvs.map (·.1)).Nodup
theorem Ents.ok {P:Program}{w:World}{es:List DictEntry}{kvs:List (Key × V)} (h:Ents w es kvs):∃ vs,KV kvs vs/\Pairs (xai P w) es vs/\∀ e∈es,∃ k,(xai P w).is k e.key=true/\e.hash=(xai P w).hash k:=by
 induction h with
 | nil=>exact⟨[],.nil,.nil,fun e z=>nomatch z⟩
 | @cons k x key val h es kvs hh hk hv _ ih =>
  obtain⟨vs,a,b,c⟩:=ih;refine⟨(k,val)::vs,.cons ⟨rfl,hv⟩ a,.cons (xdc hk) rfl b,fun e he=>?_⟩;rcases Zz.mp he with rfl|z
  .exact ⟨k,xdc hk,hh⟩
  .exact c e z
section
variable {X:Cx}{pins:List (Addr × Obj)}{Z:St}{H:Hp}{s:Shared}{D:Addr}{kvs:List (Key × V)}
theorem xon (I:Inv X pins Z H s) (g:xlv X.w X.K D kvs):∃ vs,KV kvs vs/\s.heap.DictOf (xai X.prog X.w) D vs:=by
 obtain⟨_,es,ep,l,en,nd⟩:=g;obtain⟨vs,a,b,c⟩:=en.ok (P:=X.prog);refine⟨vs,a,_,es,ep,I.kIn _ _ l,⟨rfl,rfl,rfl⟩,rfl,fun e he=>c e (by simpa using he),b,?_⟩;rw[<- a.keys];exact nd
def tGIn (kvs:List (Key × V)) (neg:Bool) (ty:TE):TE:=fun Z H Q=>ty Z H fun y H1=>∃ k:Key,y=kV k/\Q (.bl (if neg then !(valV kvs k).isSome else (valV kvs k).isSome)) H1
theorem xnm {i:Expr}{ty:TE}{x:Str}{p:Pos} (hi:PE X i ty) (hg:Gl X x) (hm:X.mg x=some (.ref D)) (g:xlv X.w X.K D kvs) (hd:(x == ("__debug__":Str))=false:=by decide):PC X .NotIn i (.Name x p) (tGIn kvs true ty):=by
 intro pins s Z H Q I h;refine thn (hi pins s Z H _ I h) fun iv s1 ⟨y,H1,I1,ry,k,ey,q1⟩=>thn (xfh (v:=.ref D) hg hm rfl hd pins s1 Z H1 (fun v H2=>v=.ref D/\H2=H1) I1 ⟨rfl,rfl⟩) fun u s2 ⟨x,H2,I2,rx,e1,e2⟩=>?_;subst ey e1 e2;obtain rfl:u=Zk D:=rx;obtain⟨vs,rel,dd⟩:=xon I2 g;refine wpAny_notIn_of (xdc ry) g.1 dd.mapOf ?_;rw[<- (rel.val k).isSome_eq];exact⟨.bl _,_,I2.tok _,rfl,q1⟩
end
section
variable {X:Cx}{pins:List (Addr × Obj)}{Z:St}{H:Hp}{s:Shared}{h':Heap}
theorem Inv.turnedL {t':Nat}{ch:List Addr} (I:Inv X pins Z H s) (k:∀ b o,b∉ch->s.heap.get? b=some o->h'.get? b=some o) (hf:∀ b∈ch,FpOk X pins H b):Inv X pins Z H { s with heap:=h',toks:=t' }:=by
 have nit:∀ b u,H b=some u->b∉ch:=fun b u e z=>by
  have:=(hf b z).1;rw[this] at e;cases e
 refine I.step (g':=s.gens) (d':=s.drawn) (ch:=ch) (fun b hb=>?_) (fun b o _ _ hc e _=>k b o hc e) (fun b o _ _ hc e _=>⟨o.slots,k b o hc e⟩) (fun _ _ _ _ n=>n)
  (fun b o hc e=>⟨o,k b o hc e⟩) (fun _ _ e=>e) (fun _ _ _ e=>e) (fun b ps e=>⟨#[],by rw[e]; simp⟩) (fun m hm=>?_) (fun b u e=>?_) I.bare
 .obtain ⟨f0,f1,f2,f3,f4,f5⟩:=hf b hb;exact⟨f3,f1,f4,f5⟩
 .obtain ⟨o,es,ep,ho,r⟩:=hm;exact⟨o,es,ep,k _ o (fun z=>(hf _ z).2.1 rfl) ho,r⟩
 .refine (I.hok b u e).stay (fun c v hc q=>k c v ?_ q) (fun _ q=>q) fun _ _ q=>q;rcases hc with z|z
  .rw [z]; exact nit b u e
  .exact nit c _ z
end
def Itv (K:Zd) (a:Addr) (n:Nat):It :=
 ⟨fun i H=>i<n/\∃ xs,SqL K H a xs/\xs.length=n,fun i H x H'=>H'=H/\∀ xs,SqL K H a xs->xs[n-1-i]?=some x,fun i _=>i=n⟩
theorem xos {P:Program}{w:World}{K:Zd}{tg:Expr} (a it:Addr) (n:Nat):Turn P w K tg (Itv K a n) [it] it (fun i h=>h.IsRevIter it a ((n:Int)-1-(i:Int))) where
 mem:=by simp
 obj:=fun i h st b hb=>by
  have e:b=it:=by simpa using hb
  subst e;obtain⟨o,e,c,d⟩:=st;exact⟨o,e,fun v z=>by rw[d] at z; cases z⟩
 keep:=fun i h h' st k=>st.at fun o e=>k it (by simp) o e
 item:=by
  intro X hP hw hK hc i pins s Z H E I hf st hg;subst hP hw hK;obtain⟨lt,xs,hq,hn⟩:=hg;obtain⟨its,rv,p,hz⟩:=I.list hq;have hx:xs[n-1-i]?=some (xs[n-1-i]'(by omega)):=Za (by omega);generalize (xs[n-1-i]'(by omega))=x at hx;obtain⟨u,hu,ru⟩:=rv.get hx;obtain⟨f0,f1,f2,f3,f4,f5⟩:=hf it (by simp);have e:(n:Int)-1-(i:Int)=((n-1-i:Nat):Int):=by omega
  rw[e] at st;refine wpAny_pyNext_rev_item st p.isList (x:=u) (by simpa using hu) fun h' st' sb=>?_;have e2:((n-1-i:Nat):Int)-1=(n:Int)-1-((i+1:Nat):Int):=by omega
  rw[e2] at st';have I1:Inv X pins Z H { s with heap:=h' }:=I.turned (t':=s.toks) (fun b o hb e=>(sb.2 b hb).trans e) f0 f1 f3 f4 f5;obtain⟨o,e,c,d⟩:=id st';exact⟨u,rfl,xh9 (s:={ s with heap:=h' }) e c d (by decide) ⟨x,H,I1,ru,⟨rfl,fun ys hy=>by rw[I.list_inj hy hq]; exact hx⟩,st',fun b hb=>(hf b hb).1⟩⟩
 done:=by
  intro X hP hw hK hc i pins s Z H E I hf st hg;subst hP hw hK;obtain rfl:i=n:=hg;obtain⟨f0,f1,f2,f3,f4,f5⟩:=hf it (by simp);have e:(i:Int)-1-(i:Int)=-1:=by omega
  rw[e] at st;exact wpAny_pyNext_rev_end (I.ok.hd hc) st fun h' eb=>⟨rfl,I.turned (t':=s.toks) (fun b o hb e=>eb b o hb e) f0 f1 f3 f4 f5⟩
 self:=fun _ _ _ _ _ st h=>wpAny_pyIter_revIter st h
def iRev (K:Zd) (ta:TA):TI:=fun Z H R=>ta Z H fun vs H1=>∃ a xs,vs=[.ref a]/\SqL K H1 a xs/\R (Itv K a xs.length) H1
section
variable {X:Cx}{tg:Expr}
theorem xj1 {a:Expr}{ta:TA}{p pos:Pos} (hg:Gl X "reversed") (hm:X.mg "reversed"=none) (ha:PA X [a] ta) (hs:starEach [a] X.env=[(false,eval a X.env)]:=by rfl):PI X tg (.Call (.Name "reversed" p) [a] [] pos) (iRev X.K ta):=by
 intro pins s Z H R I h;refine Call_ (xcd I hg hm PyProof.Rows.Boot.«reversed» (Jf (thn (ha pos pins s Z H _ I h) fun us s1 ⟨vs,H1,I1,r1,q1⟩=>?_) hs rfl));obtain⟨l,xs,e,hq,q⟩:=q1;subst e;obtain⟨u,rfl,ru⟩:=xcb r1;obtain rfl:u=Zk l:=ru;obtain⟨its,rv,p,hz⟩:=I1.list hq;have hl:=rv.length;refine call_reversed_list p.isList ?_;have hit:Heap.IsRevIter (s1.heap.push (revObj l ((its.toArray.size:Int)-1))) s1.heap.objs.size l ((its.toArray.size:Int)-1):=⟨_,Zo _ rfl,rfl,rfl⟩
 refine wpAny_pyIter_revIter (s:={ s1 with heap:=s1.heap.push (revObj l ((its.toArray.size:Int)-1)) }) hit ?_;refine⟨s1.heap.objs.size,[s1.heap.objs.size],_,_,H1,rfl,I1.kept (t':=s1.toks) fun b o e=>Ze _ e,xos l _ xs.length,?_,fun b hb=>?_,q⟩
 .have e:(its.toArray.size:Int)-1=(xs.length:Int)-1-((0:Nat):Int):=by rw[Zy]; omega
  rw[e] at hit ⊢;exact hit
 .have e:b=s1.heap.objs.size:=by simpa using hb
  subst e;exact I1.fpOk (Zi _) (I1.hok.fresh (Zi _))
end
theorem xqj {K:Zd}{a:Addr}{xs:List V}{g:TG}{tb:TS}{D:Ends}{Z:St}{H:Hp} (Pv:Nat->St->Hp->Prop) (h0:Pv 0 Z H) (hl:∀ i Z H,i<=xs.length->Pv i Z H->SqL K H a xs)
    (hs:∀ i x Z H,i<xs.length->xs[xs.length-1-i]?=some x->Pv i Z H->g x Z H fun σ2 H2=>tb { D with nx:=Pv (i+1),ct:=Pv (i+1),bk:=D.nx } σ2 H2) (hd:∀ Z H,Pv xs.length Z H->D.nx Z H) :
    ∃ W:Nat->Nat->St->Hp->Prop,(∃ m,W 0 m Z H)/\∀ i m Z H,W i m Z H ->
      ((Itv K a xs.length).stop i H/\D.nx Z H)\/((Itv K a xs.length).go i H/\∃ N:St->Hp->Prop,(∀ σ' H',N σ' H'->∃ m',m'<m/\W (i+1) m' σ' H')/\∀ x H',(Itv K a xs.length).yld i H x H'->g x Z H' fun σ2 H2=>tb { D with nx:=N,ct:=N,bk:=D.nx } σ2 H2):=by
  refine⟨fun i m Z H=>m=xs.length-i/\i<=xs.length/\Pv i Z H,⟨xs.length,by simp,Ja _,h0⟩,?_⟩;rintro i m Z H ⟨rfl,hi,p⟩;have q:=hl i Z H hi p;by_cases hlt:i<xs.length
  . refine .inr ⟨⟨hlt,xs,q,rfl⟩,Pv (i+1),fun σ' H' p'=>⟨xs.length-(i+1),by omega,rfl,hlt,p'⟩,fun x H' y=>?_⟩
    obtain⟨e,y⟩:=y;subst e;exact hs i x Z _ hlt (y xs q) p
  . have e:i=xs.length:=by omega
    subst e;exact .inl ⟨rfl,hd Z H p⟩
theorem xs5 {a b:Nat} (h:a≠b):(a:Addr)≠(b:Addr):=h
def Ite (K:Zd) (a:Addr):It :=
 ⟨fun i H=>∃ xs x,SqL K H a xs/\xs[i]?=some x,fun i H v H'=>∃ p x,(∀ xs,SqL K H a xs->xs[i]?=some x)/\v=.ref p/\H p=none/\H'=upd H p (.tup [.int i,x]),fun i H=>∃ xs,SqL K H a xs/\xs.length<=i⟩
theorem xnj {P:Program}{w:World}{K:Zd}{elts:List Expr}{x1}{tpos:Pos} (e it l:Addr) (hei:e≠it) :
    Turn P w K (.Tuple elts x1 tpos) (Ite K l) [e,it] e (fun i h=>(∃ old,IsEnum h e it i old)/\h.IsListIter it l i) where
  mem:=by simp
  obj:=fun i h st b hb=>by
    obtain⟨⟨old,he⟩,⟨o1,e1,c1,d1⟩⟩:=st;simp only[Zz,Yn,or_false] at hb;rcases hb with rfl|rfl
    . exact⟨_,he,fun v k=>by have k':Data.fields _=Data.cell v:=k; cases k'⟩
    . exact⟨_,e1,fun v k=>by rw[d1] at k; cases k⟩
  keep:=fun i h h' ⟨⟨old,he⟩,h1⟩ k=>⟨⟨old,k e (by simp) _ he⟩,h1.at fun o z=>k it (by simp) o z⟩
  item:=by
    intro X hP hw hK hc i pins s Z H E I hf st hg;subst hP hw hK;obtain⟨xs,x,hq,hx⟩:=hg;obtain⟨its,rv,p,hz1⟩:=I.list hq;obtain⟨u,hu,ru⟩:=rv.get hx;obtain⟨⟨old,he⟩,h1⟩:=id st;refine wpAny_pyNext_enum_item he h1 p.isList (x:=u) (by simpa using hu) hei fun h' ho hit' hT hsz hk=>?_;refine⟨_,rfl,wpAny_letOwnedTupleGo_enum (s:={ s with heap:=h',toks:=s.toks+1 }) ho fun h'' he' hs'=>?_⟩;have elt:e<s.heap.objs.size:=Zs he;have pne:s.heap.objs.size≠e:=YD elt;have kk:∀ b o,b∉[e,it]->s.heap.get? b=some o->h''.get? b=some o:=fun b o hb g=>by
      simp only[Zz,Yn,or_false,not_or] at hb;exact (hs'.2 b hb.1).trans (hk b o hb.1 hb.2 g)
    have I1:Inv X pins Z H { s with heap:=h'',toks:=s.toks+1 }:=I.turnedL kk hf;obtain⟨n0,nL,nC,nP⟩:=I.size_lt (Zi s.heap.objs.size);have hp:h''.get? s.heap.objs.size=some { cls:=.type "tuple",data:=.seq #[.int i s.toks,u] }:=(hs'.2 _ pne).trans hT;refine⟨.ref s.heap.objs.size,upd H s.heap.objs.size (.tup [.int i,x]),I1.adopt n0 I.sz nL nC nP ⟨by show 2<=sizeLine; decide,[.int i s.toks,u],.cons ⟨_,rfl⟩ (.cons ru .nil),_,hp,rfl,_,rfl⟩,rfl,
      ⟨_,x,fun zs hz=>by rw[I.list_inj hz hq]; exact hx,rfl,n0,rfl⟩,?_,fun b hb=>?_⟩
    . exact⟨⟨_,by simpa using he'⟩,hit'.at fun o y=>(hs'.2 it (Zw hei)).trans y⟩
    . obtain⟨o,ho⟩:∃ o,s.heap.get? b=some o:=by
        obtain⟨o1,e1,c1,d1⟩:=h1;simp only[Zz,Yn,or_false] at hb;rcases hb with rfl|rfl
        . exact⟨_,he⟩
        . exact⟨_,e1⟩
      rw[xh (ZD (Zs ho))];exact (hf b hb).1
  done:=by
    intro X hP hw hK hc i pins s Z H E I hf st hg;subst hP hw hK;obtain⟨xs,hq,hl⟩:=hg;obtain⟨its,rv,p,hz1⟩:=I.list hq;have e1:=rv.length;obtain⟨⟨old,he⟩,h1⟩:=id st;refine wpAny_pyNext_enum_end (I.ok.hd hc) he h1 p.isList (by simp; omega) fun h' hx=>⟨rfl,I.turnedL (t':=s.toks) (fun b o hb g=>?_) hf⟩
    simp only[Zz,Yn,or_false,not_or] at hb;exact hx b o hb.2 g
  self:=fun _ _ _ _ _ ⟨⟨_,st⟩,_⟩ h=>wpAny_pyIter_enum st h
def xt6 (K:Zd) (ta:TA):TI:=fun Z H R=>ta Z H fun vs H1=>∃ a xs,vs=[.ref a]/\SqL K H1 a xs/\R (Ite K a) H1
section
variable {X:Cx}{elts:List Expr}{x1:_}{tpos:Pos}
theorem xjq {a:Expr}{ta:TA}{p pos:Pos} (hg:Gl X "enumerate") (hm:X.mg "enumerate"=none) (ha:PA X [a] ta) (hs:starEach [a] X.env=[(false,eval a X.env)]:=by rfl) :
    PI X (.Tuple elts x1 tpos) (.Call (.Name "enumerate" p) [a] [] pos) (xt6 X.K ta):=by
  intro pins s Z H R I h;refine Call_ (xcd I hg hm PyProof.Rows.Boot.«enumerate» (Jf (thn (ha pos pins s Z H _ I h) fun us s1 ⟨vs,H1,I1,r1,q1⟩=>?_) hs rfl));obtain⟨l,xs,e,hq,q⟩:=q1;subst e;obtain⟨u,rfl,ru⟩:=xcb r1;obtain rfl:u=Zk l:=ru;obtain⟨its,rv,p1,hz1⟩:=I1.list hq;refine call_enumerate_list p1.isList fun h' he h1 hsz hk=>?_;refine wpAny_pyIter_enum (s:={ s1 with heap:=h' }) he ?_;have I2:Inv X pins Z H1 { s1 with heap:=h' }:=I1.kept (t':=s1.toks) hk;refine⟨_,[s1.heap.objs.size+1,s1.heap.objs.size],_,_,H1,rfl,I2,xnj _ _ l (xs5 (by omega)),⟨⟨_,he⟩,h1⟩,fun b hb=>?_,q⟩;have hb':s1.heap.objs.size<=b:=by
    simp only[Zz,Yn,or_false] at hb;rcases hb with rfl|rfl
    . exact Nat.le_add_right _ 1
    . exact Zi _
  exact I1.fpOk hb' (I1.hok.fresh hb')
end
end L2
namespace L2
open PySem PySem.Spec PyProof.Rows XL
def tMid (t:TS):TS:=fun D Z H=>∃ Pv:St->Hp->Prop,t { D with nx:=Pv } Z H/\∀ σ' H',Pv σ' H'->D.nx σ' H'
theorem xce {X:Cx}{st:Stmt}{t:TS} (h:PS X st t):PS X st (tMid t):=by
 intro pins s Z H D I q;obtain⟨Pv,q1,q2⟩:=q;refine thn (h pins s Z H { D with nx:=Pv } I q1) fun fl s1 z=>?_;cases fl with
 | next =>
  obtain⟨σ',H',I',r⟩:=z;exact⟨σ',H',I',q2 _ _ r⟩
 | _=>exact z
end L2
namespace XL
open PySem PySem.W
end XL
namespace L2
open PySem PySem.Spec PyProof.Rows XL
variable {q0:Bool}
end L2
namespace L2
open PySem PySem.Spec PyProof.Rows XL
end L2
namespace L2
open PySem PySem.Calls PyProof PyProof.Rows
theorem xtg {x y z:V}{us:List Value} (r:Vals [x,y,z] us):∃ u v w,us=[u,v,w]/\RelV x u/\RelV y v/\RelV z w:=by
 cases r with
 | cons r1 r2 =>
  cases r2 with
  | cons r3 r4 =>
   cases r4 with
   | cons r5 r6=>cases r6; exact⟨_,_,_,rfl,r1,r3,r5⟩
theorem xnc {X:Cx} (hc:X.calm=true):xb0 X (.builtin "min") (fun xs H Q=>∃ i j k:Int,xs=[.int i,.int j,.int k]/\∀ m:Int,m<=i->m<=j->m<=k->(m=i\/m=j\/m=k)->Q (.int m) H):=by
 intro pins s Z H xs us Q I r h;obtain⟨i,j,k,rfl,q⟩:=h;obtain⟨u,v,w',rfl,⟨t,rfl⟩,⟨t',rfl⟩,⟨t2,rfl⟩⟩:=xtg r;refine min_three_ints (I.ok.hd hc) fun h' tk k'=>?_;by_cases h1:j<i
 .rw [if_pos h1];by_cases h2:k<j
  .rw [if_pos h2];exact⟨.int k,H,I.kept k',⟨_,rfl⟩,q k (by omega) (by omega) (by omega) (.inr (.inr rfl))⟩
  .rw [if_neg h2];exact⟨.int j,H,I.kept k',⟨_,rfl⟩,q j (by omega) (by omega) (by omega) (.inr (.inl rfl))⟩
 .rw [if_neg h1];by_cases h2:k<i
  .rw [if_pos h2];exact⟨.int k,H,I.kept k',⟨_,rfl⟩,q k (by omega) (by omega) (by omega) (.inr (.inr rfl))⟩
  .rw [if_neg h2];exact⟨.int i,H,I.kept k',⟨_,rfl⟩,q i (by omega) (by omega) (by omega) (.inl rfl)⟩
def eU (e:V->Bool) (u:Value):Bool:=match absV u with|some y=>e y|none=>false
theorem xlf {e:V->Bool}{y:V}{u:Value} (r:RelV y u):eU e u=e y:=by unfold eU; rw[r.abs]
theorem xir {e:V->Bool}:∀{xs:List V}{us:List Value},Vals xs us->us.any (eU e)=xs.any e
 | _,_,.nil=>rfl
 | y::xs,u::us,.cons r t=>by rw[Yj,Yj,xlf r,xir t]
theorem xg3:∀{xs:List V}{us:List Value},Vals xs us->∀ u∈us,∃ y∈xs,RelV y u
 | _,_,.nil=>fun u hu=>nomatch hu
 | y::xs,u::us,.cons r t=>fun u' hu=>by
  rcases Zz.mp hu with rfl|hu
  .exact ⟨y,Zp,r⟩
  .obtain ⟨z,h1,h2⟩:=xg3 t u' hu;exact⟨z,Zm _ h1,h2⟩
end L2
namespace PySem.F
end PySem.F
namespace L2
open PySem PySem.Spec PyProof.Rows XL
variable {q0:Bool}
end L2
namespace L2
open PySem PySem.Spec PyProof.Rows XL PySem.W
variable {q0:Bool}
theorem xg6 {prog:Program}{w:World}{A:Around}{E:Value->Shared->Prop}{s:Shared}{a:Addr}{vs:List Value}{n:Nat}{P:PySem.Fin->Shared->Prop}
    (h:s.heap.get? a=some (seqObj "list" vs.toArray n)) (h2:2<=vs.length) (h64:vs.length<64)
    (hk:∀ s':Shared,s'.heap=(((s.heap.update a (Ys fun x=>#[])).push (seqObj "tuple" vs.toArray 0)).push (seqObj "list" #[] 0))->s'={ s with heap:=s'.heap } ->
      wpAny (model prog w) A (keyKind' vs.toArray) (fun κ s''=>s''=s'/\KasT.kasWp (kas_ask prog w A κ vs) (kas_sort vs.length) (fun p s3=>s3=s'/\P (.done (.ret .none)) { s with heap:=sortedHeap s.heap a vs (p.map fun i=>vs.getD i .none) }) s'') (fun _ _=>False) s') :
    wpAny (model prog w) A (Builtin.«list.sort» { pos:=[.ref a] }) P E s:=by
  obtain⟨hp,g,d,tk,os⟩:=s;rw[list_sort_plain]
  repeat (any_goals (first|assumption|wp_step))
  have z:¬ vs.toArray.toList.toArray.size>sizeLine:=by
    simp;exact YZ (J0 h64 (by decide))
  rw[if_neg z];generalize keyKind' vs.toArray=kk at hk ⊢
  repeat (any_goals (first|assumption|wp_step))
  have hk':=hk { heap:=((hp.update a (Ys fun x=>#[])).push (seqObj "tuple" vs.toArray 0)).push (seqObj "list" #[] 0),gens:=g,drawn:=d,toks:=tk,os:=os } rfl rfl;refine ZU hk' (fun κ s'' z=>?_) (fun _ _ z=>z.elim);obtain⟨e,q⟩:=z;subst e;show wpAny _ _ (StateT.run (if vs.toArray.size<2 then pure () else sortRuns') _>>=_) _ _ _;rw[if_neg (by simp; omega)];refine Zb (ZU (kat_run (E:=E) (Q:=fun st' s'=>∃ p:Array Nat,p.size=vs.length/\arrOf st'=Q2 (kas_item (vs.toArray.zip vs.toArray)) p/\failedOf st'=none/\s'=_/\P (.done (.ret .none)) { heap:=sortedHeap hp a vs (p.map fun i=>vs.getD i .none),gens:=g,drawn:=d,toks:=tk,os:=os }) rfl h2 h64 (fun p st' s' hp' e f q'=>⟨p,hp',e,f,q'.1,q'.2⟩) q) (fun r s' z=>?_) fun _ _ z=>z);obtain⟨u,st⟩:=r;obtain⟨p,psz,e,f,rfl,q'⟩:=z;have al:a<hp.objs.size:=Zs h;have g1:(((hp.update a (Ys fun x=>#[])).push (seqObj "tuple" vs.toArray 0)).push (seqObj "list" #[] 0)).get? a=some (seqObj "list" #[] (n+1)):=by
    refine Ze _ (Ze _ ?_);rw[ZO _ h rfl];have z:((0:Nat) == vs.length)=false:=by
      cases vs with
      | nil=>simp at h2
      | cons=>rfl
    simp[Ys,z]
  have e2:(if (((fun x=>#[]) vs.toArray:Array Value).size == vs.toArray.size)=true then n else n+1)=n+1:=by
    rw[if_neg];simp;omega
  simp only[e2,f];have e3:Q2 (fun x=>x.snd) (arrOf st)=p.map fun i=>vs.getD i .none:=by
    rw[e,Array.map_map]
    congr 1
    funext i;show (kas_item (vs.toArray.zip vs.toArray) i).snd=_;unfold kas_item;by_cases c:i<vs.length
    . simp[Za c,c]
    . simp[Jn (by omega:vs.length<=i),c]
  simp only[e3]
  repeat (any_goals (first|assumption|wp_step))
  have e4:(Ys (fun x=>Q2 (fun i=>vs.getD i ZW) p) (seqObj "list" #[] (n+1))).data.pastItsLine=none:=by
    show (if (Q2 (fun i=>vs.getD i ZW) p).size>sizeLine+1 then _ else none)=none;rw[if_neg];rw[Array.size_map,psz];have:vs.length<sizeLine:=J0 h64 (by decide);omega
  rw[e4];refine Zg ?_;rw[f];show wpAny _ _ (if (n+1 != n+1)=true then _ else _) _ _ _;rw[if_neg (by simp)];exact Zg q'
theorem xfa {prog:Program}{w:World}{A:Around}{E:Value->Shared->Prop}{s:Shared}{it d:Addr}{i ep:Nat}{o:Obj}{es:Array DictEntry}{en:DictEntry}{Q:Option Value->Shared->Prop}
    (st:s.heap.IsKeyIter it d i es.size ep) (hd:s.heap.get? d=some o) (hx:o.ExactDict) (hdat:o.data=.dict es ep) (hi:es[i]?=some en)
    (h:∀ h',h'.IsKeyIter it d (i+1) es.size ep->ZX it s.heap h'->Q (some en.key) { s with heap:=h' }):wpAny (model prog w) A (pyNext (.ref it)) Q E s:=by
  unfold pyNext;refine Zb (Y0 (JB st.typeIs JU ?_));refine Ji JU st.typeIs F.entry_dict_keyiterator_next ?_ (F.args_dict_keyiterator_next_1 _);have ti:=st.typeIs;obtain⟨hp,g,dr,tk,os⟩:=s;obtain⟨⟨c,dct,dat,sl⟩,hit,ci,di⟩:=st;simp only at ci di;subst ci di;unfold Builtin.«dict_keyiterator.__next__»
  repeat (any_goals (first|assumption|(with_reducible refine Yq ti ?_)|(with_reducible refine Qf ti ?_)|(with_reducible refine ZH hd hdat ?_)|(with_reducible refine Jb hd hdat ?_)|wp_step))
  have e1:(if (i:Int)<0 then none else es[(i:Int).toNat]?)=some en:=by
    rw[if_neg (by omega),Ye];exact hi
  rw[e1]
  repeat (any_goals (first|assumption|(with_reducible refine Yq ti ?_)|(with_reducible refine Qf ti ?_)|(with_reducible refine ZH hd hdat ?_)|(with_reducible refine Jb hd hdat ?_)|wp_step))
  refine⟨_,rfl,Zg (h _ ?_ (ZX.update _ _ _))⟩;refine⟨_,ZO _ hit rfl,rfl,?_⟩;rfl
theorem xfo {prog:Program}{w:World}{A:Around}{E:Value->Shared->Prop}{s:Shared}{it d:Addr}{ep:Nat}{o:Obj}{es:Array DictEntry}{Q:Option Value->Shared->Prop}
    (hA:A.handled=none) (st:s.heap.IsKeyIter it d es.size es.size ep) (hd:s.heap.get? d=some o) (hx:o.ExactDict) (hdat:o.data=.dict es ep)
    (h:∀ h',Heap.ExtBut it s.heap h'->Q none { s with heap:=h' }):wpAny (model prog w) A (pyNext (.ref it)) Q E s:=by
  unfold pyNext;refine Zb (Y0 (JB st.typeIs JU ?_));refine Ji JU st.typeIs F.entry_dict_keyiterator_next ?_ (F.args_dict_keyiterator_next_1 _);have ti:=st.typeIs;obtain⟨hp,g,dr,tk,os⟩:=s;obtain⟨⟨c,dct,dat,sl⟩,hit,ci,di⟩:=st;simp only at ci di;subst ci di;unfold Builtin.«dict_keyiterator.__next__»
  repeat (any_goals (first|assumption|(with_reducible refine Yq ti ?_)|(with_reducible refine Qf ti ?_)|(with_reducible refine ZH hd hdat ?_)|(with_reducible refine Jb hd hdat ?_)|wp_step))
  have e1:(if (es.size:Int)<0 then none else es[(es.size:Int).toNat]?)=none:=by
    rw[if_neg (by omega),Ye];simp
  rw[e1]
  repeat (any_goals (first|assumption|(with_reducible refine Yq ti ?_)|(with_reducible refine Qf ti ?_)|(with_reducible refine ZH hd hdat ?_)|(with_reducible refine Jb hd hdat ?_)|wp_step))
  refine Qv hA ?_;refine Zb (Qi ⟨_,Zo _ rfl,rfl⟩ isSubtype_stop (Zg (h _ fun b o nb e=>?_)));refine Ze _ (Ze _ ?_);rw[ZY _ _ (Zw nb)];exact e
theorem xif {prog:Program}{w:World}{A:Around}{E:Value->Shared->Prop}{s:Shared}{d:Addr}{ep:Nat}{o:Obj}{es:Array DictEntry}{Q:Value->Shared->Prop}
    (hs:(d == sysModules)=false) (hd:s.heap.get? d=some o) (hx:o.ExactDict) (hdat:o.data=.dict es ep)
    (h:Q (.ref s.heap.objs.size) { s with heap:=s.heap.push { cls:=.type "dict_keyiterator",data:=.fields #[.ref d,.int 0 0,.int es.size 0,.int ep 0] } }):wpAny (model prog w) A (pyIter (.ref d)) Q E s:=by
  have ti:s.TypeIs (.ref d) "dict":=⟨o,hd,hx.1⟩
  obtain⟨c,dct,dat,sl⟩:=o;obtain⟨x1,x2,x3⟩:=hx;simp only at x1 x2 x3 hdat;subst x1 x2 x3 hdat;refine wpAny_pyIter_slot ti F.slot_dict_iter ?_;refine Ji F.slot_dict_iter ti F.entry_dict_iter ?_ (F.args_dict_iter_1 _);obtain⟨hp,g,dr,tk,os⟩:=s;unfold Builtin.«dict.__iter__»
  repeat (any_goals (first|assumption|(with_reducible refine JI ti ?_)|(with_reducible refine ZH hd rfl ?_)|(with_reducible refine Jb hd rfl ?_)|wp_step))
  exact⟨_,rfl,_,_,⟨_,Zo _ rfl,rfl⟩,JU.lookup,h⟩
theorem xkb {prog:Program}{w:World}{d:Addr}{ep:Nat}{o:Obj}{es:Array DictEntry} (hs:(d == sysModules)=false) (hx:o.ExactDict) (hdat:o.data=.dict es ep) :
    KdlSrc prog w "dict" d d es.size (fun i v=>∃ en,es[i]?=some en/\v=en.key) (fun h=>h.get? d=some o) where
  type:=fun s h=>⟨o,h,hx.1⟩
  there:=fun h e=>⟨Zs e,Zs e⟩
  keep:=fun h h' e k=>k d (.inl rfl) o e
  notList:=by decide
  notTuple:=by decide
  hint:=fun A E s Q h q=>kdl_hint_dict ⟨o,h,hx.1⟩ q
  iter:=fun A s hA h=>by
    have dl:=Zs h;refine⟨{ cls:=.type "dict_keyiterator",data:=.fields #[.ref d,.int 0 0,.int es.size 0,.int ep 0] },fun i h=>h.IsKeyIter s.heap.objs.size d i es.size ep/\h.get? d=some o,fun E Q q=>xif hs h hx hdat q,?_,⟨_,Zo _ rfl,rfl,rfl⟩,Ze _ h⟩;have dn:d≠s.heap.objs.size:=ZD dl;exact {
      sub:=fun b hb=>by
        have e:b=s.heap.objs.size:=by simpa using hb
        rw[e];simp
      frame:=fun i h h' st k=>⟨st.1.at fun o e=>k _ (by simp) o e,k _ (by simp) _ st.2⟩
      item:=fun i s' Q E hi st q=>by
        refine xfa st.1 st.2 hx hdat (Je hi) fun h' st' sb=>q _ h' s'.toks ⟨_,Je hi,rfl⟩ ⟨st',(sb.2 d dn).trans st.2⟩ fun b o hb e=>?_;exact (sb.2 b (by simpa using hb)).trans e
      done:=fun s' Q E st q=>by
        refine xfo hA st.1 st.2 hx hdat fun h' eb=>q h' s'.toks fun b o hb e=>?_;exact eb b o (by simpa using hb) e
      self:=fun i s' Q E st q=>wpAny_pyIter_keyiter st.1 q }
def xc1:Key->Key->Bool
 | .inl a,.inl b=>decide (a<b)
 | .inr a,.inr b=>decide (a.cps.toList<b.cps.toList)
 | _,_=>false
def lexK:List Key->List Key->Bool
 | [],[]=>false
 | [],_::_=>true
 | _::_,[]=>false
 | x::xs,y::ys=>if x=y then lexK xs ys else xc1 x y
abbrev shp (k:List Key):List Bool:=k.map Sum.isLeft
theorem xqy {a b:Str} (h:a.cps.toList=b.cps.toList):a=b:=by
 cases a;cases b;simp at h;rw[h]
theorem xmj (x:Key):xc1 x x=false:=by
 cases x with
 | inl a=>simp[xc1]
 | inr a=>exact QZ.irrefl a.cps.toList
theorem xn6 {x y z:Key} (h1:xc1 x y=true) (h2:xc1 y z=true):xc1 x z=true:=by
 cases x<;>cases y<;>cases z<;>simp only[xc1,Q9] at h1 h2
 .have a:=of_decide_eq_true h1;have b:=of_decide_eq_true h2;exact decide_eq_true (Int.lt_trans a b)
 .exact QZ.trans _ _ _ h1 h2
theorem xl8 {x y:Key} (hs:x.isLeft=y.isLeft) (ne:x≠y) (h:xc1 x y=false):xc1 y x=true:=by
 cases x with
 | inl a =>
  cases y with
  | inl b =>
   have h':¬ a<b:=of_decide_eq_false h;have n':a≠b:=fun e=>ne (by rw[e]);exact decide_eq_true (show b<a by omega)
  | inr b=>cases hs
 | inr a =>
  cases y with
  | inl b=>cases hs
  | inr b =>
   cases e:xc1 (.inr b) (.inr a) with
   | true=>rfl
   | false=>exact absurd (by rw[xqy (QZ.total _ _ h e)]) ne
theorem xi9:∀ x:List Key,lexK x x=false
 | []=>rfl
 | x::xs=>by
  unfold lexK;rw[if_pos rfl];exact xi9 xs
theorem xkz:∀{x y z:List Key},shp x=shp y->shp y=shp z->lexK x y=true->lexK y z=true->lexK x z=true
 | [],[],_,_,_,h,_=>by cases h
 | [],_::_,_,h,_,_,_=>by cases h
 | _::_,[],_,h,_,_,_=>by cases h
 | _::_,_::_,[],_,h,_,_=>by cases h
 | x::xs,y::ys,z::zs,h1,h2,h3,h4=>by
  simp only[shp,Zx,QH.injEq] at h1 h2;unfold lexK at h3 h4 ⊢;by_cases xy:x=y
  .subst xy;rw[if_pos rfl] at h3;by_cases yz:x=z
   .rw [if_pos yz] at h4 ⊢;exact xkz h1.2 h2.2 h3 h4
   .rw [if_neg yz] at h4 ⊢;exact h4
  .rw [if_neg xy] at h3;by_cases yz:y=z
   .subst yz;rw[if_neg xy];exact h3
   .rw [if_neg yz] at h4;have h5:=xn6 h3 h4;rw[if_neg (fun e=>by rw[e,xmj] at h5; cases h5)];exact h5
theorem xil:∀{x y:List Key},shp x=shp y->x≠y->lexK x y=false->lexK y x=true
 | [],[],_,h,_=>absurd rfl h
 | [],_::_,h,_,_=>by cases h
 | _::_,[],h,_,_=>by cases h
 | x::xs,y::ys,h1,h2,h3=>by
  simp only[shp,Zx,QH.injEq] at h1;unfold lexK at h3 ⊢;by_cases xy:x=y
  .subst xy;rw[if_pos rfl] at h3 ⊢;exact xil h1.2 (fun e=>h2 (by rw[e])) h3
  .rw [if_neg xy] at h3;rw[if_neg (fun e=>xy e.symm)];exact xl8 h1.1 xy h3
theorem xjb {prog:Program}{w:World}{A:Around}{s:Shared}{b:Bool}{Q:Bool->Shared->Prop}:∀(xs ys:List Key) (us vs:List Value) (i:Nat),shp xs=shp ys->Vals (xs.map kV) us->Vals (ys.map kV) vs->Q (lexK xs ys) s->KatLex prog w A b false Q (us.zip vs) i s
 | [],[],_,_,i,_,.nil,.nil,q=>kat_nil q
 | [],_::_,_,_,_,h,_,_,_=>by cases h
 | _::_,[],_,_,_,h,_,_,_=>by cases h
 | x::xs,y::ys,_,_,i,h,.cons ru r,.cons rv r',q=>by
  simp only[shp,Zx,QH.injEq] at h;unfold lexK at q;cases x with
  | inl a =>
   cases y with
   | inr c=>cases h.1
   | inl c =>
    obtain⟨t,rfl⟩:=ru;obtain⟨t',rfl⟩:=rv;refine kat_cons (wpAny_eqBool_int ?_);unfold KatGo;by_cases e:a=c
    .subst e;rw[if_pos rfl] at q;rw[if_pos (by simp)];exact xjb xs ys _ _ (i+1) h.2 r r' q
    .rw [if_neg (fun z=>e (Qy.inj z))] at q;rw[if_neg (by simpa using e)];cases (b&&i == 0) with
     | true=>exact oneLt_int q
     | false=>exact kat_one _ _ (lt_int q)
  | inr a =>
   cases y with
   | inl c=>cases h.1
   | inr c =>
    obtain⟨t,rfl⟩:=ru;obtain⟨t',rfl⟩:=rv;refine kat_cons (wpAny_eqBool_str ?_);unfold KatGo;by_cases e:a=c
    .subst e;rw[if_pos rfl] at q;rw[if_pos (by simp)];exact xjb xs ys _ _ (i+1) h.2 r r' q
    .rw [if_neg (fun z=>e (Jt.inj z))] at q;rw[if_neg (by simpa using e)];cases (b&&i == 0) with
     | true=>exact oneLt_str q
     | false=>exact kat_one _ _ (lt_str q)
theorem xh6 {prog:Program}{w:World}{A:Around}{E:Value->Shared->Prop}{s:Shared}{a:Addr}{vs:List Value}{n:Nat}{P:PySem.Fin->Shared->Prop}
    (h:s.heap.get? a=some (seqObj "list" vs.toArray n)) (h2:vs.length<2) (q':P (.done (.ret .none)) { s with heap:=sortedHeap s.heap a vs vs.toArray }) :
    wpAny (model prog w) A (Builtin.«list.sort» { pos:=[.ref a] }) P E s:=by
  obtain⟨hp,g,d,tk,os⟩:=s;rcases vs with _|⟨v,_|⟨v',r⟩⟩
  . rw[list_sort_plain]
    repeat (any_goals (first|assumption|wp_step))
    show wpAny _ _ (pure (PUnit.unit,SortSt.mk' general' ((#[]:Array Value).zip #[]) #[] 7 none)) _ _ _;refine Zg ?_;have e3:Q2 (fun x=>x.snd) (arrOf (SortSt.mk' general' ((#[]:Array Value).zip #[]) #[] 7 none))=#[]:=by
      show Q2 (fun x=>x.snd) ((#[]:Array Value).zip #[])=#[];simp
    simp only[e3];have g1:(((hp.update a (Ys fun x=>#[])).push (seqObj "tuple" #[] 0)).push (seqObj "list" #[] 0)).get? a=some (seqObj "list" #[] (n)):=by
      refine Ze _ (Ze _ ?_);rw[ZO _ h rfl];rfl
    show wpAny _ _ (seqEpoch a>>=_) _ _ _
    repeat (any_goals (first|assumption|wp_step))
  . rw[list_sort_plain]
    repeat (any_goals (first|assumption|wp_step))
    show wpAny _ _ (pure (PUnit.unit,SortSt.mk' general' ((#[v]:Array Value).zip #[v]) #[] 7 none)) _ _ _;refine Zg ?_;have e3:Q2 (fun x=>x.snd) (arrOf (SortSt.mk' general' ((#[v]:Array Value).zip #[v]) #[] 7 none))=#[v]:=by
      show Q2 (fun x=>x.snd) ((#[v]:Array Value).zip #[v])=#[v];simp
    simp only[e3];have g1:(((hp.update a (Ys fun x=>#[])).push (seqObj "tuple" #[v] 0)).push (seqObj "list" #[] 0)).get? a=some (seqObj "list" #[] (n+1)):=by
      refine Ze _ (Ze _ ?_);rw[ZO _ h rfl];rfl
    show wpAny _ _ (seqEpoch a>>=_) _ _ _
    repeat (any_goals (first|assumption|wp_step))
  . simp at h2
    omega
theorem xe8 {α:Type} (f:α->Addr):∀(es:List α),Vals (es.map fun x=>V.ref (f x)) (es.map fun x=>Zk (f x))
 | []=>.nil
 | x::r=>.cons rfl (xe8 f r)
theorem xl0 {H:Hp}{kvs:List (List Key × V)}{es:List (List Key × Addr × Value)} (h:KT H kvs es):(∀ x∈es,H x.2.1=some (.tup (x.1.map kV)))/\es.map (·.1)=kvs.map (·.1):=by
 induction h with
 | nil=>exact⟨(fun _ z=>nomatch z),rfl⟩
 | @cons p x kvs es hp r ih =>
  obtain⟨e1,e2,_⟩:=hp;refine⟨fun y hy=>?_,by rw[Zx,Zx,ih.2,e1]⟩;rcases Zz.mp hy with rfl|z
  .rw [<- e1];exact e2
  .exact ih.1 y z
theorem xmn {P:Program}{w:World}{H:Hp}{h:Heap} (ok:HOk P w H h) {b:Bool}{sh:List Bool}:∀(es:List (List Key × Addr × Value)),(∀ x∈es,H x.2.1=some (.tup (x.1.map kV)))->(∀ x∈es,shp x.1=b::sh) ->
    ∃ fs,KatTups h (es.map fun x=>Zk x.2.1) fs/\fs.length=es.length/\∀ v∈fs,if b=true then ∃ i t,v=YU i t else ∃ i t,v=Q0 i t
  | [],_,_=>⟨[],KatTups.nil,rfl,fun _ z=>nomatch z⟩
  | x::es,h1,h2=>by
    obtain⟨fs,k,l,m⟩:=xmn ok es (fun y hy=>h1 y (Zm _ hy)) (fun y hy=>h2 y (Zm _ hy));obtain⟨z2,ts,rt,ot,et,ct,nt,dt⟩:=ok x.2.1 _ (h1 x Zp);have s1:=h2 x Zp;obtain⟨k1,a1,v1⟩:=x;cases k1 with
    | nil=>cases s1
    | cons k0 kr =>
      simp only[shp,Zx,QH.injEq] at s1;simp only[Zx] at rt;cases rt with
      | @cons _ u _ us ru rr =>
        refine⟨u::fs,KatTups.cons et ct dt (by simp) k,by simp[l],fun v hv=>?_⟩;rcases Zz.mp hv with rfl|hv'
        . cases k0 with
          | inl i =>
            obtain⟨t,rfl⟩:=ru;rw[if_pos (show b=true from s1.1.symm)];exact⟨i,t,rfl⟩
          | inr i =>
            obtain⟨t,rfl⟩:=ru;rw[if_neg (show ¬ b=true by rw[<- s1.1]; simp)];exact⟨i,t,rfl⟩
        . exact m v hv'
theorem xmi {X:Cx}{pins:List (Addr × Obj)}{Z:St}{H:Hp}{s:Shared}{h1:Heap}{tk:Nat}{Q:VK}{sh:List Bool} (es':List (List Key × Addr × Value)) (I1:Inv X pins Z H { s with heap:=h1,toks:=tk })
    (hl:es'.length<64) (km:∀ x∈es',H x.2.1=some (.tup (x.1.map kV))) (shE:∀ x∈es',shp x.1=sh) (hpos:0<sh.length) (hnd:(List.map (fun x=>x.fst) es').Nodup)
    (q:∀(l:Addr) (ts:List (List Key × Addr)),H l=none->ts.Perm (es'.map fun x=>(x.1,x.2.1))->(ts.map (·.1)).Pairwise (fun x y=>lexK x y=true)->Q (.ref l) (upd H l (.lst (ts.map fun t=>.ref t.2)))) :
    wpAny (model X.prog X.w) X.A.in1 (newList (es'.map fun x=>Zk x.2.1)>>=fun l=>holding [l] (call (.builtin "list.sort") [l] [])>>=fun _=>ret l) (fun fin s'=>∃ v,fin=Fin.done (Flow.ret v)/\EP X pins Z Q v s') X.xe { s with heap:=h1,toks:=tk }:=by
  have hz:es'.length<=sizeLine:=YZ (J0 hl (by decide));have vals:Vals (es'.map fun x=>V.ref x.2.1) (es'.map fun x=>Zk x.2.1):=xe8 (fun x=>x.2.1) es';have I2:=I1.lnew (t':=tk) vals (by rw[Zc]; exact hz);refine Zb (wpAny_newList ?_ (by rw[Zc]; exact hz));have fr:H h1.objs.size=none:=I1.fresh;have gl:(h1.push { cls:=.type "list",data:=.seq (es'.map fun x=>Zk x.2.1).toArray }).get? h1.objs.size=some (seqObj "list" (es'.map fun x=>Zk x.2.1).toArray 0):=Zo _ rfl;refine Zb (Jk (Ji slot_list_sort ⟨_,gl,rfl⟩ entry_list_sort ?_ (args_list_sort _)));have J1:=I2.lset (l:=h1.objs.size) (its:=es'.map fun x=>Zk x.2.1) (its':=[]) (ys:=[]) (f:=fun _=>#[]) (t':=tk) xi gl rfl .nil (Ja _);have J2:=J1.kept (t':=tk) (h':=(((h1.push { cls:=.type "list",data:=.seq (es'.map fun x=>Zk x.2.1).toArray }).update h1.objs.size (Ys fun _=>#[])).push (seqObj "tuple" (es'.map fun x=>Zk x.2.1).toArray 0)).push (seqObj "list" #[] 0)) fun b u e=>Ze _ (Ze _ e);obtain⟨z9,its9,n9,r9,hl9,e9⟩:=J2.lstM xi;have done:∀(ts:List (List Key × Addr)),ts.Perm (es'.map fun x=>(x.1,x.2.1))->(ts.map (·.1)).Pairwise (fun x y=>lexK x y=true) ->
      EP X pins Z Q (.ref h1.objs.size) { s with heap:=sortedHeap (h1.push { cls:=.type "list",data:=.seq (es'.map fun x=>Zk x.2.1).toArray }) h1.objs.size (es'.map fun x=>Zk x.2.1) (ts.map fun t=>Zk t.2).toArray,toks:=tk }:=by
    intro ts pm pw;have tl:ts.length=es'.length:=by rw[pm.length_eq,Zc]
    have J3:=J2.lset (l:=h1.objs.size) (its:=its9) (its':=ts.map fun t=>Zk t.2) (ys:=ts.map fun t=>V.ref t.2) (f:=fun _=>(ts.map fun t=>Zk t.2).toArray) (t':=tk) xi e9 rfl (xe8 (fun t=>t.2) ts) (by rw[Zc,tl]; exact hz);rw[xem,xem] at J3;exact⟨.ref h1.objs.size,_,J3,rfl,q _ ts fr pm pw⟩
  by_cases few:es'.length<2
  . refine xh6 gl (by rw[Zc]; exact few) ⟨_,rfl,Zg ⟨_,rfl,?_⟩⟩
    have:=done (es'.map fun x=>(x.1,x.2.1)) (Q1.refl _) ?_
    . rw[Z7] at this
      exact this
    . match es',few with
      | [],_=>exact .nil
      | [x],_=>exact List.pairwise_singleton _ _
      | _::_::_,h=>exact absurd h (by simp)
  . refine xg6 gl (by rw[Zc]; omega) (by rw[Zc]; exact hl) fun s' es1 es2=>?_
    obtain⟨b,sh0,rfl⟩:∃ b sh0,sh=b::sh0:=by
      cases sh with
      | nil=>simp at hpos
      | cons b r=>exact⟨b,r,rfl⟩
    rw[es1] at es2;subst es2;have km2:∀ x∈es',upd (upd H h1.objs.size (.lst (es'.map fun x=>V.ref x.2.1))) h1.objs.size (.lst []) x.2.1=some (.tup (x.1.map kV)):=fun x hx=>by
      rw[xh (xg (km x hx) fr),xh (xg (km x hx) fr)];exact km x hx
    obtain⟨fs,kt,fl,fm⟩:=xmn J2.hok es' km2 shE;have few':2<=es'.length:=by omega
    refine kat_kind (T:=if b=true then .type "int" else .type "str") kt (by omega) (fun v hv=>?_) (by cases b<;>rfl) ⟨rfl,?_⟩
    . have z:=fm v hv
      cases b with
      | true =>
        obtain⟨i,t,rfl⟩:=z;exact fun A Q E s _ q=>Qz (T:="int") rfl q
      | false =>
        obtain⟨i,t,rfl⟩:=z;exact fun A Q E s _ q=>Qz (T:="str") rfl q
    rw[Zc];have eAt:∀ i,i<es'.length->es'[i]?=some (es'.getD i ([],0,.none)):=fun i hi=>by
      rw[List.getD_eq_getElem?_getD,Za hi];rfl
    have eM:∀ i,i<es'.length->es'.getD i ([],0,.none)∈es':=fun i hi=>Zl (eAt i hi);have vAt:∀ i,i<es'.length->(es'.map fun x=>Zk x.2.1).getD i .none=.ref (es'.getD i ([],0,.none)).2.1:=fun i hi=>by
      rw[List.getD_eq_getElem?_getD,Zf,eAt i hi];rfl
    have shI:∀ i j,i<es'.length->j<es'.length->shp (es'.getD i ([],0,.none)).1=shp (es'.getD j ([],0,.none)).1:=fun i j hi hj=>by rw[shE _ (eM i hi),shE _ (eM j hj)]
    refine Srt.sort_wp (lt:=fun i j=>lexK (es'.getD i ([],0,.none)).1 (es'.getD j ([],0,.none)).1) ⟨fun i hi=>xi9 _,fun i j k hi hj hk=>xkz (shI i j hi hj) (shI j k hj hk),fun i j hi hj ne=>xil (shI i j hi hj) fun e=>ne ?_⟩ (fun i j hi hj Q' q'=>?_) few' fun p arr srt=>⟨rfl,_,rfl,Zg ⟨_,rfl,?_⟩⟩
    . have e1:(es'.map (·.1))[i]?=(es'.map (·.1))[j]?:=by rw[Zf,Zf,eAt i hi,eAt j hj]; exact congrArg some e
      exact (List.getElem?_inj (by rw[Zc]; exact hi) hnd).mp e1
    . show wpAny _ _ (keyLt' _ ((es'.map fun x=>Zk x.2.1).getD i .none) ((es'.map fun x=>Zk x.2.1).getD j .none)) _ _ _
      rw[vAt i hi,vAt j hj];obtain⟨_,ti,ri,oi,ei,_,ni,di⟩:=J2.hok _ _ (km2 _ (eM i hi));obtain⟨_,tj,rj,oj,ej,_,nj,dj⟩:=J2.hok _ _ (km2 _ (eM j hj));have l1:=Vals.length ri;have l2:=Vals.length rj;have l3:=congrArg Qo (shI i j hi hj);simp only[Zc] at l1 l2 l3;refine kat_lt ei di ej dj ?_;rw[decide_eq_false (by simp; omega)];exact xjb _ _ _ _ 0 (shI i j hi hj) ri rj q'
    have pl:∀ i∈p.toList,i<es'.length:=fun i hi=>by
      have:=(Array.Perm.mem_iff arr.pm).mp (Wb.mp hi);simpa using this
    have:=done (p.toList.map fun i=>((es'.getD i ([],0,.none)).1,(es'.getD i ([],0,.none)).2.1)) ?_ ?_
    . rw[Z7] at this
      have e2:(p.map fun i=>(es'.map fun x=>Zk x.2.1).getD i .none)=(p.toList.map ((fun t:List Key × Addr=>Zk t.2)∘fun i=>((es'.getD i ([],0,.none)).1,(es'.getD i ([],0,.none)).2.1))).toArray:=by
        rw[<- Array.toList_inj,Array.toList_map];exact Yk fun i hi=>vAt i (pl i hi)
      rw[e2];exact this
    . have e3:(es'.map fun x=>(x.1,x.2.1))=(ZI es'.length).map fun i=>((es'.getD i ([],0,.none)).1,(es'.getD i ([],0,.none)).2.1):=by
        refine List.ext_getElem? fun i=>?_;by_cases c:i<es'.length
        . rw[Zf,eAt i c,Zf,YG c]
          rfl
        . rw[Jn (by rw[Zc]; omega),Jn (by simp; omega)]
      rw[e3];refine Q1.map _ ?_;have:=Array.Perm.toList arr.pm;simpa using this
    . rw[Z7,Yd,Jy]
      intro i j hi hj hij;have z:=srt i j hij (by rw[<- arr.sz]; simpa using hj);have gi:Srt.g p i=p.toList[i]:=Srt.g_at (by rw[<- Jo]; exact Za hi);have gj:Srt.g p j=p.toList[j]:=Srt.g_at (by rw[<- Jo]; exact Za hj);rw[gi,gj] at z;exact z
inductive xnw (xs:List V) (H:Hp) (Q:VK):Prop
 | mk (d:Addr) (kvs:List (List Key × V)) (sh:List Bool) (e_:xs=[.ref d]) (r_:H d=some (.dT kvs)/\kvs.length<64/\(∀ p∈kvs,shp p.1=sh)/\0<sh.length/\∀(l:Addr) (ts:List (List Key × Addr)),H l=none->(∀ t∈ts,H t.2=some (.tup (t.1.map kV)))->(ts.map (·.1)).Perm (kvs.map (·.1))->(ts.map (·.1)).Pairwise (fun x y=>lexK x y=true)->Q (.ref l) (upd H l (.lst (ts.map fun t=>.ref t.2))))
theorem xe1 {X:Cx} (hc:X.calm=true):xb0 X (.builtin "sorted") xnw:=by
 intro pins s Z H xs us Q I r h;obtain⟨d,kvs,sh,rfl,hd,hl,hsh,hpos,q⟩:=h;obtain⟨u,rfl,ru⟩:=xcb r;obtain rfl:u=Zk d:=ru;obtain⟨z,hsys,es',rel,dd⟩:=xeu I.hok hd;obtain⟨o,es,ep,ho,hx,hdat,hes,hkk,hnd⟩:=dd;have ln:=Yg rel;have esz:es.size=es'.length:=by rw[<- Jm,hes,Zc]
 refine QB kind_sorted plain_sorted entry_sorted (args_sorted1 _) ?_;unfold Builtin.sorted;refine Zb (Zg ?_);show wpAny _ _ (collect (.ref d)>>=_) _ _ _;refine Zb (kdu_collect (xkb hsys hx hdat) (I.ok.hd hc) ho (by rw[esz,<- ln]; exact z) fun h1 tk acc keep items=>?_);have acl:acc.toList=es'.map fun x=>Zk x.2.1:=by
  refine List.ext_getElem? fun j=>?_;obtain⟨i1,i2⟩:=items;by_cases c:j<es'.length
  .have c':j<acc.size:=by rw[i1,esz]; exact c
   have e:acc[j]?=some acc[j]:=Je c';obtain⟨en,he,hv⟩:=i2 j acc[j] e;rw[Jo,e,hv];have he':es.toList[j]?=some en:=by rw[Jo]; exact he
   rw[hes,Zf,Za c] at he';rw[Zf,Za c];have:=ZN.inj he';rw[<- this];rfl
  .rw [Jn (by rw[Jm,i1,esz]; omega),Jn (by rw[Zc]; omega)]
 rw[acl];have I1:Inv X pins Z H { s with heap:=h1,toks:=tk }:=I.kept keep;obtain⟨km,ke⟩:=xl0 rel;have shE:∀ x∈es',shp x.1=sh:=fun x hx=>by
  have m:x.1∈kvs.map (·.1):=by rw[<- ke]; exact Zr.mpr ⟨x,hx,rfl⟩
  obtain⟨p,hp,e⟩:=Zr.mp m;rw[<- e];exact hsh p hp
 refine xmi es' I1 (by rw[<- ln]; exact hl) km shE hpos hnd fun l ts fr pm pw=>q l ts fr (fun t ht=>?_) ?_ pw
 .obtain ⟨x,hx,rfl⟩:=Zr.mp (pm.mem_iff.mp ht);exact km x hx
 .have:=pm.map (·.1);rw[Z7] at this;rw[<- ke];exact this
theorem xi3 {prog:Program}{w:World}{K:Type} [DecidableEq K] {knd:HeapKind prog w K}{A:Around}{E:Value->Shared->Prop}{s:Shared}{d a b:Addr}{xs:List (K × Addr × Value)}{k:K}{v:Value}{i:Nat}{Q:Option DictEntry->Shared->Prop}
    (hr:knd.room A) (hk:knd.is s.heap k a) (dd:Heap.DictOfH knd s.heap d xs) (hi:xs[i]?=some (k,b,v)) (hz:xs.length<=sizeLine)
    (h:∀ h',Heap.DictOfH knd h' d (xs.eraseIdx i)->ZX d s.heap h'->Q (some (entryOfKey knd (k,b,v))) { s with heap:=h',toks:=s.toks+knd.draws k }):wpAny (model prog w) A (Builtin.Dict.takeOut d (.ref a)) Q E s:=by
  obtain⟨o,es,ep,ho,hx,hdat,hes,hkk,hnd⟩:=dd;have esz:es.size=xs.length:=by rw[<- Jm,hes,Zc]
  unfold Builtin.Dict.takeOut;refine Jk (Zb (knd.pyHash hr hk ?_));refine Zb (wpAny_dictFind_heap (s:={ s with toks:=s.toks+knd.draws k }) hr hk ho hdat hes hkk hnd (fun no=>absurd hi (no i (b,v))) fun j p hj=>?_);have ji:j=i:=by
    have e1:(xs.map (·.1))[j]?=(xs.map (·.1))[i]?:=by rw[Zf,Zf,hj,hi]; rfl
    exact (List.getElem?_inj (by rw[Zc]; exact (Zh.mp hj).1) hnd).mp e1
  subst ji;refine Zb (ZH ho hdat ?_);have e:=entry_at hes j;rw[hi] at e;rw[e];refine Zb (wpAny_updateDictKeys ho hdat (Zg (h _ ?_ (ZX.update _ _ _))) (by rw[esz]; exact hz) (by have:=size_eraseIdxIfInBounds_le es j; omega));refine⟨_,_,_,ZO _ ho (We (Yf hdat _)),hx.mapDictKeys _,Yf hdat _,?_,fun x hx'=>?_,?_⟩
  . have e2:(es.eraseIdxIfInBounds j).toList=es.toList.eraseIdx j:=by simp
    rw[e2,hes];simp[Qd,List.map_take,List.map_drop]
  . exact knd.keeps (hkk x (List.mem_of_mem_eraseIdx hx')) ho hdat (ZX.update _ _ _)
  . exact Q3.sublist (QM.map _ (List.eraseIdx_sublist _ _)) hnd
theorem Paired.erase {α β:Type}{F:α->β->Prop}{l₁:List α}{l₂:List β} (h:Paired F l₁ l₂):∀ i,Paired F (l₁.eraseIdx i) (l₂.eraseIdx i):=by
 induction h with
 | nil=>exact fun i=>.nil
 | cons r t ih =>
  intro i;cases i with
  | zero=>exact t
  | succ i=>exact .cons r (ih i)
theorem Paired.at_ {α β:Type}{F:α->β->Prop}{l₁:List α}{l₂:List β} (h:Paired F l₁ l₂):∀{i:Nat}{x:α},l₁[i]?=some x->∃ y,l₂[i]?=some y/\F x y:=by
 induction h with
 | nil=>intro i x e; simp at e
 | @cons a b l₁ l₂ r t ih =>
  intro i x e;cases i with
  | zero =>
   simp at e;subst e;exact⟨b,rfl,r⟩
  | succ i=>exact ih (by simpa using e)
theorem xgw {κ:Type} [DecidableEq κ]:∀{kvs:List (κ × V)}{i:Nat}{k:κ}{v:V},(kvs.map (·.1)).Nodup->kvs[i]?=some (k,v)->xdo kvs k=kvs.eraseIdx i
 | [],i,k,v,_,h=>by simp at h
 | p::r,0,k,v,nd,h=>by
  simp at h;subst h;rw[Zx,ZQ] at nd;show List.filter _ _=r;rw[Js (by simp)];refine List.filter_eq_self.mpr fun q hq=>?_;have:q.1≠k:=fun e=>nd.1 (e▸Zr.mpr ⟨q,hq,rfl⟩);simpa using this
 | p::r,i+1,k,v,nd,h=>by
  rw[Zx,ZQ] at nd;have h':r[i]?=some (k,v):=by simpa using h
  have ne:p.1≠k:=fun e=>nd.1 (by rw[e]; exact Zr.mpr ⟨(k,v),Zl h',rfl⟩);show List.filter _ _=p::r.eraseIdx i;rw[JC (by simpa using ne)];have:=xgw nd.2 h';unfold xdo at this;rw[this]
theorem xgy {κ:Type} [DecidableEq κ]:∀{kvs:List (κ × V)}{k:κ}{v:V},valV kvs k=some v->∃ i:Nat,kvs[i]?=some (k,v)
 | [],k,v,h=>by cases h
 | p::r,k,v,h=>by
  by_cases e:p.1=k
  .rw [xbd e] at h;cases h;exact⟨0,by simp[<- e]⟩
  .rw [xaz e] at h;obtain⟨i,hi⟩:=xgy h;exact⟨i+1,by simpa using hi⟩
theorem xrx {X:Cx}{pins:List (Addr × Obj)}{Z:St}{H:Hp}{s:Shared}{A:Around}{E:Value->Shared->Prop}{a b:Addr}{kvs:List (List Key × V)}{k:List Key}{v:V}{Q:Value->Shared->Prop} (hu:A.in1.units<cLine) (I:Inv X pins Z H s) (e:H a=some (.dT kvs)) (eb:H b=some (.tup (k.map kV))) (l:valV kvs k=some v)
    (h:∀ w' s',Inv X pins Z (upd H a (.dT (xdo kvs k))) s'->RelV v w'->Q w' s'):wpAny (model X.prog X.w) A (call (.builtin "dict.pop") [.ref a,.ref b]) Q E s:=by
  obtain⟨z,hd,xs,rel,dd⟩:=xeu I.hok e;obtain⟨km,ke⟩:=xl0 rel;have ln:=Yg rel;obtain⟨i,hi⟩:=xgy l;obtain⟨x,hx,rx⟩:∃ x,xs[i]?=some x/\((k,v):List Key × V).1=x.1/\H x.2.1=some (.tup (k.map kV))/\RelV v x.2.2:=L2.Paired.at_ rel hi;obtain⟨k',b',w'⟩:=x;obtain⟨ek,_,rw'⟩:=rx;simp only at ek;subst ek;have dd0:=dd;obtain⟨o,es,ep,ho,hxd,hdat,hes,hkk,hnd⟩:=dd;have ndk:(kvs.map (·.1)).Nodup:=by rw[<- ke]; exact hnd
  refine Ji PySem.F.slot_dict_pop ⟨o,ho,hxd.1⟩ PySem.F.entry_dict_pop ?_ (PySem.F.args_dict_pop_2 _ _);have ti:s.TypeIs (.ref a) "dict":=⟨o,ho,hxd.1⟩
  unfold Builtin.«dict.pop»;have esz:es.isEmpty=false:=by
    have:es.size=xs.length:=by rw[<- Jm,hes,Zc]
    have:i<xs.length:=(Zh.mp hx).1;rw[Array.isEmpty_eq_false_iff_exists_mem];exact⟨es[i]'(by omega),by simp⟩
  obtain⟨c0,d0,dat0,sl0⟩:=o;obtain⟨x1,x2,x3⟩:=hxd;simp only at x1 x2 x3 hdat;subst x1 x2 x3 hdat
  repeat (any_goals (first|assumption|(with_reducible refine JI ti ?_)|(with_reducible refine ZH ho rfl ?_)|((with_reducible show wpAny _ _ (Builtin.Dict.takeOut _ _) _ _ _); refine xi3 (show (tupleKind (xai X.prog X.w)).room A.in1 from hu) (xdj I.hok eb) dd0 hx (by rw[<- ln]; exact z) fun h' dd' hs=>?_)|wp_step))
  refine⟨_,rfl,h w' _ ?_ rw'⟩;have dd2:=dd';obtain⟨o',es',ep',ho',hx',hd',he',hk',hn'⟩:=dd2;refine xc9 I (by rw[e]; exact Jg) hs ⟨o',ho'⟩ ?_;refine⟨Z6 (xop kvs k) z,hd,xs.eraseIdx i,?_,o',es',ep',ho',hx',hd',he',hn'⟩;rw[xgw ndk hi];refine Paired.mapP (L2.Paired.erase rel i) fun p q zz=>⟨zz.1,?_,zz.2.2⟩
  rw[xh (xp zz.2.1 e (fun z=>nomatch z))];exact zz.2.1
def xru (td ty:TE):TE:=fun Z H Q=>td Z H fun x H1=>∃ a,x=.ref a/\IsD H1 a/\ty Z H1 fun y H2=>∃ kvs k b v,H2 a=some (.dT kvs)/\y=.ref b/\H2 b=some (.tup (k.map kV))/\valV kvs k=some v/\Q v (upd H2 a (.dT (xdo kvs k)))
section
variable {X:Cx}{o e:Expr}{td ty:TE}{apos cpos:Pos}
theorem xof (hu:X.A.units+1<cLine) (ho:PE X o td) (he:PE X e ty) (m:M1 X o "pop" apos e cpos):PE X (.Call (.Attribute o "pop" apos) [e] [] cpos) (xru td ty):=by
 intro pins s Z H Q I h;refine wpAny_Call_method m.base m.few m.line Jr PySem.F.slot_dict_pop PySem.F.type_dict_pop (thn (ho pins s Z H _ I h) fun u s1 ⟨x,H1,I1,rx,a,ex,d,q1⟩=>?_);subst ex;obtain rfl:u=Zk a:=rx;obtain⟨t1,t2,_⟩:=xm5 I1 d;refine⟨t1,t2,?_⟩;rw[m.trees];refine ZZ rfl (Qq (Yu (thn (he pins s1 Z H1 _ I1 q1) fun iv s2 ⟨y,H2,I2,ry,kvs,k,b,v,ea,ey,eb,l,q2⟩=>Y6 ?_)));subst ey;obtain rfl:iv=Zk b:=ry;exact xrx hu I2 ea eb l fun w' s3 I3 rw'=>⟨v,_,I3,rw',q2⟩
end
end L2
namespace L2
open PySem PySem.Spec PyProof.Rows XL PySem.W
inductive DV where
 | non
 | bl (b:Bool)
 | int (i:Int)
 | str (x:Str)
 | tup (xs:List DV)
 | lst (xs:List DV)
mutual
def dEq:DV->DV->Bool
 | .non,.non=>true
 | .bl a,.bl b=>a == b
 | .bl a,.int b=>(if a then 1 else 0) == b
 | .int a,.bl b=>a == (if b then 1 else 0)
 | .int a,.int b=>a == b
 | .str a,.str b=>a == b
 | .tup xs,.tup ys=>dEqs xs ys
 | .lst xs,.lst ys=>dEqs xs ys
 | _,_=>false
def dEqs:List DV->List DV->Bool
 | [],[]=>true
 | x::xs,y::ys=>dEq x y&&dEqs xs ys
 | _,_=>false
end
mutual
theorem xbv:∀ d,dEq d d=true
 | .non=>rfl
 | .bl _=>by simp[dEq]
 | .int _=>by simp[dEq]
 | .str _=>by simp[dEq]
 | .tup xs=>by simp only[dEq]; exact xdh xs
 | .lst xs=>by simp only[dEq]; exact xdh xs
theorem xdh:∀ xs,dEqs xs xs=true
 | []=>rfl
 | x::xs=>by simp only[dEqs,ZM]; exact⟨xbv x,xdh xs⟩
end
mutual
def DV.pl:DV->Bool
 | .bl _=>false
 | .tup xs=>pls xs
 | .lst xs=>pls xs
 | _=>true
def pls:List DV->Bool
 | []=>true
 | x::xs=>x.pl&&pls xs
end
mutual
theorem xgc:∀{d e:DV},d.pl=true->e.pl=true->dEq d e=true->d=e
 | .non,.non,_,_,_=>rfl
 | .int a,.int b,_,_,h=>by simp only[dEq,beq_iff_eq] at h; rw[h]
 | .str a,.str b,_,_,h=>by simp only[dEq,beq_iff_eq] at h; rw[h]
 | .tup xs,.tup ys,p,q,h=>by
  simp only[dEq] at h;simp only[DV.pl] at p q;rw[xg7 p q h]
 | .lst xs,.lst ys,p,q,h=>by
  simp only[dEq] at h;simp only[DV.pl] at p q;rw[xg7 p q h]
 | .bl _,_,p,_,_=>by simp[DV.pl] at p
 | .non,.bl _,_,q,_=>by simp[DV.pl] at q
 | .int _,.bl _,_,q,_=>by simp[DV.pl] at q
 | .str _,.bl _,_,q,_=>by simp[DV.pl] at q
 | .tup _,.bl _,_,q,_=>by simp[DV.pl] at q
 | .lst _,.bl _,_,q,_=>by simp[DV.pl] at q
 | .non,.int _,_,_,h=>by simp[dEq] at h
 | .non,.str _,_,_,h=>by simp[dEq] at h
 | .non,.tup _,_,_,h=>by simp[dEq] at h
 | .non,.lst _,_,_,h=>by simp[dEq] at h
 | .int _,.non,_,_,h=>by simp[dEq] at h
 | .int _,.str _,_,_,h=>by simp[dEq] at h
 | .int _,.tup _,_,_,h=>by simp[dEq] at h
 | .int _,.lst _,_,_,h=>by simp[dEq] at h
 | .str _,.non,_,_,h=>by simp[dEq] at h
 | .str _,.int _,_,_,h=>by simp[dEq] at h
 | .str _,.tup _,_,_,h=>by simp[dEq] at h
 | .str _,.lst _,_,_,h=>by simp[dEq] at h
 | .tup _,.non,_,_,h=>by simp[dEq] at h
 | .tup _,.int _,_,_,h=>by simp[dEq] at h
 | .tup _,.str _,_,_,h=>by simp[dEq] at h
 | .tup _,.lst _,_,_,h=>by simp[dEq] at h
 | .lst _,.non,_,_,h=>by simp[dEq] at h
 | .lst _,.int _,_,_,h=>by simp[dEq] at h
 | .lst _,.str _,_,_,h=>by simp[dEq] at h
 | .lst _,.tup _,_,_,h=>by simp[dEq] at h
theorem xg7:∀{xs ys:List DV},pls xs=true->pls ys=true->dEqs xs ys=true->xs=ys
 | [],[],_,_,_=>rfl
 | x::xs,y::ys,p,q,h=>by
  simp only[pls,ZM] at p q;simp only[dEqs,ZM] at h;rw[xgc p.1 q.1 h.1,xg7 p.2 q.2 h.2]
 | [],_::_,_,_,h=>by simp[dEqs] at h
 | _::_,[],_,_,h=>by simp[dEqs] at h
end
theorem xku {d e:DV}{α:Type}{x y:α} [DecidableEq α] (p:d.pl=true) (q:e.pl=true) (f:d=e↔x=y):dEq d e=decide (x=y):=by
 by_cases c:x=y
 .rw [decide_eq_true c,f.mpr c];exact xbv _
 .rw [decide_eq_false c];cases z:dEq d e with
  | false=>rfl
  | true=>exact absurd (f.mp (xgc p q z)) c
theorem xfy:∀{xs ys:List DV}{e:Nat->Bool},(∀(j:Nat) (x y:DV),xs[j]?=some x->ys[j]?=some y->e j=dEq x y)->((ZI (min xs.length ys.length)).all e&&xs.length == ys.length)=dEqs xs ys
 | [],[],_,_=>rfl
 | [],_::_,_,_=>by simp[dEqs]
 | _::_,[],_,_=>by simp[dEqs]
 | x::xs,y::ys,e,h=>by
  have ih:=xfy (xs:=xs) (ys:=ys) (e:=fun j=>e (j+1)) (fun j a b ha hb=>h (j+1) a b (by simpa using ha) (by simpa using hb));have h0:=h 0 x y rfl rfl;rw[ZJ,ZJ,show min (xs.length+1) (ys.length+1)=min xs.length ys.length+1 by omega,List.range_succ_eq_map,Qm,List.all_map];show _=(dEq x y&&dEqs xs ys)
  rw[<- ih,h0];have z:((xs.length+1 == ys.length+1):Bool)=(xs.length == ys.length):=by
   rw[J6];simp
  rw[z,Bool.and_assoc];rfl
theorem xjd:∀{xs ys:List DV},xs.length≠ys.length->dEqs xs ys=false
 | [],[],h=>absurd rfl h
 | [],_::_,_=>rfl
 | _::_,[],_=>rfl
 | x::xs,y::ys,h=>by
  show (dEq x y&&dEqs xs ys)=false;rw[xjd (xs:=xs) (ys:=ys) (fun z=>h (by simp[z]))];exact Bool.and_false _
inductive Dv (K:Zd) (H:Hp):Nat->V->DV->Prop
 | non {n:Nat}:Dv K H n .non .non
 | bl {n:Nat}{b:Bool}:Dv K H n (.bl b) (.bl b)
 | int {n:Nat}{b:Int}:Dv K H n (.int b) (.int b)
 | str {n:Nat}{b:Str}:Dv K H n (.str b) (.str b)
 | tup {n:Nat}{a:Addr}{xs:List V}{ds:List DV} (ha:SqT K H a xs) (hl:xs.length=ds.length) (h:∀(j:Nat) (x:V) (d:DV),xs[j]?=some x->ds[j]?=some d->Dv K H n x d):Dv K H (n+1) (.ref a) (.tup ds)
 | lst {n:Nat}{a:Addr}{xs:List V}{ds:List DV} (ha:SqL K H a xs) (hl:xs.length=ds.length) (h:∀(j:Nat) (x:V) (d:DV),xs[j]?=some x->ds[j]?=some d->Dv K H n x d):Dv K H (n+1) (.ref a) (.lst ds)
section
variable {X:Cx}{pins:List (Addr × Obj)}{Z:St}{H:Hp}{s:Shared}
theorem xhc {h:Heap}{a:Addr}{i j:Array Value} (p:h.IsTuple a i) (q:PlainL h a j):False:=by
 obtain⟨o,e,c,_⟩:=p;obtain⟨o',n,e',c',_⟩:=q;rw[e] at e';cases e';rw[c] at c';exact absurd c' (by decide)
theorem xl5 {xs ys:List DV} (h:xs.length=ys.length) (f:∀(j:Nat) (x y:DV),xs[j]?=some x->ys[j]?=some y->x=y):xs=ys:=by
 refine List.ext_getElem? fun j=>?_;by_cases c:j<xs.length
 .rw [Za c,Za (by omega),f j _ _ (Za c) (Za (by omega))]
 .rw [Jn (by omega),Jn (by omega)]
theorem xit (I:Inv X pins Z H s) {n:Nat}{x:V}{d:DV} (h:Dv X.K H n x d):∀{m:Nat}{e:DV},Dv X.K H m x e->d=e:=by
 induction h with
 | non=>intro m e h; cases h; rfl
 | bl=>intro m e h; cases h; rfl
 | int=>intro m e h; cases h; rfl
 | str=>intro m e h; cases h; rfl
 | @tup n a xs ds ha hl h ih =>
  intro m e h2;cases h2 with
  | @tup m _ ys es hb kl k =>
   obtain rfl:=I.tuple_inj ha hb;refine congrArg DV.tup (xl5 (by omega) fun j d e h1 h2=>?_);have lt:j<xs.length:=by
    have:=(Zh.mp h1).1;omega
   exact ih j xs[j] d (Za lt) h1 (k j xs[j] e (Za lt) h2)
  | @lst m _ ys es hb kl k =>
   obtain⟨its,_,t1,_⟩:=I.tuple ha;obtain⟨its2,_,t2,_⟩:=I.list hb;exact (xhc t1 t2).elim
 | @lst n a xs ds ha hl h ih =>
  intro m e h2;cases h2 with
  | @lst m _ ys es hb kl k =>
   obtain rfl:=I.list_inj ha hb;refine congrArg DV.lst (xl5 (by omega) fun j d e h1 h2=>?_);have lt:j<xs.length:=by
    have:=(Zh.mp h1).1;omega
   exact ih j xs[j] d (Za lt) h1 (k j xs[j] e (Za lt) h2)
  | @tup m _ ys es hb kl k =>
   obtain⟨its,_,t1,_⟩:=I.tuple hb;obtain⟨its2,_,t2,_⟩:=I.list ha;exact (xhc t1 t2).elim
def at2 (f:DV->DV->Bool) (ds es:List DV) (j:Nat):Bool:=match ds[j]?,es[j]? with|some d,some e=>f d e|_,_=>false
theorem xgx {f:DV->DV->Bool}{ds es:List DV}{j:Nat}{d e:DV} (h:ds[j]?=some d) (h2:es[j]?=some e):at2 f ds es j=f d e:=by
 unfold at2;rw[h,h2]
theorem xf8 (I:Inv X pins Z H s) {n:Nat}{x:V}{d:DV} (h:Dv X.K H n x d):∀{m:Nat}{y:V}{e:DV},Dv X.K H m y e->∀{A:Around}{u v:Value},A.units+n+m<cLine->RelV x u->RelV y v ->
    Zv A s u v (dEq d e)/\Z9 A s u v (dEq d e)/\Z3 A s u v (!dEq d e):=by
  induction h with
  | @non n =>
    intro m y e h2 A u v hu rx ry;obtain rfl:u=ZW:=rx;cases h2 with
    | @non  =>
      obtain rfl:v=ZW:=ry;exact⟨Zv.same _,Z9.none_none,Z3.none_none⟩
    | @bl _ b2 =>
      obtain rfl:v=Yr _:=ry;exact⟨Zv.none_bool _,Z9.none_bool _,Z3.none_bool _⟩
    | @int _ b2 =>
      obtain⟨_,rfl⟩:=ry;exact⟨Zv.none_int _ _,Z9.none_int _ _,Z3.none_int _ _⟩
    | @str _ b2 =>
      obtain⟨_,rfl⟩:=ry;exact⟨Zv.none_str _ _,Z9.none_str _ _,Z3.none_str _ _⟩
    | @tup m b ys es hb kl k =>
      obtain rfl:v=Zk _:=ry;obtain⟨its2,r2,t2,z2⟩:=I.tuple hb;have l2:=r2.length;exact⟨Zv.none_tuple t2 (by omega),Z9.none_tuple t2 (by omega),Z3.none_tuple t2 (by omega)⟩
    | @lst m b ys es hb kl k =>
      obtain rfl:v=Zk _:=ry;obtain⟨its2,r2,t2,z2⟩:=I.list hb;have l2:=r2.length;exact⟨Zv.none_list t2.isList (by omega),Z9.none_list t2.isList (by omega),Z3.none_list t2.isList (by omega)⟩
  | @bl n b1 =>
    intro m y e h2 A u v hu rx ry;obtain rfl:u=Yr _:=rx;cases h2 with
    | @non  =>
      obtain rfl:v=ZW:=ry;exact⟨Zv.bool_none _,Z9.bool_none _,Z3.bool_none _⟩
    | @bl _ b2 =>
      obtain rfl:v=Yr _:=ry;exact⟨Zv.bool_bool _ _,Z9.bool_bool _ _,Z3.bool_bool _ _⟩
    | @int _ b2 =>
      obtain⟨_,rfl⟩:=ry;exact⟨Zv.bool_int _ _ _,Z9.bool_int _ _ _,Z3.bool_int _ _ _⟩
    | @str _ b2 =>
      obtain⟨_,rfl⟩:=ry;exact⟨Zv.bool_str _ _ _,Z9.bool_str _ _ _,Z3.bool_str _ _ _⟩
    | @tup m b ys es hb kl k =>
      obtain rfl:v=Zk _:=ry;obtain⟨its2,r2,t2,z2⟩:=I.tuple hb;have l2:=r2.length;exact⟨Zv.bool_tuple _ t2 (by omega),Z9.bool_tuple _ t2 (by omega),Z3.bool_tuple _ t2 (by omega)⟩
    | @lst m b ys es hb kl k =>
      obtain rfl:v=Zk _:=ry;obtain⟨its2,r2,t2,z2⟩:=I.list hb;have l2:=r2.length;exact⟨Zv.bool_list _ t2.isList (by omega),Z9.bool_list _ t2.isList (by omega),Z3.bool_list _ t2.isList (by omega)⟩
  | @int n b1 =>
    intro m y e h2 A u v hu rx ry;obtain⟨_,rfl⟩:=rx;cases h2 with
    | @non  =>
      obtain rfl:v=ZW:=ry;exact⟨Zv.int_none _ _,Z9.int_none _ _,Z3.int_none _ _⟩
    | @bl _ b2 =>
      obtain rfl:v=Yr _:=ry;exact⟨Zv.int_bool _ _ _,Z9.int_bool _ _ _,Z3.int_bool _ _ _⟩
    | @int _ b2 =>
      obtain⟨_,rfl⟩:=ry;exact⟨Zv.int_int _ _ _ _,Z9.int_int _ _ _ _,Z3.int_int _ _ _ _⟩
    | @str _ b2 =>
      obtain⟨_,rfl⟩:=ry;exact⟨Zv.int_str _ _ _ _,Z9.int_str _ _ _ _,Z3.int_str _ _ _ _⟩
    | @tup m b ys es hb kl k =>
      obtain rfl:v=Zk _:=ry;obtain⟨its2,r2,t2,z2⟩:=I.tuple hb;have l2:=r2.length;exact⟨Zv.int_tuple _ _ t2 (by omega),Z9.int_tuple _ _ t2 (by omega),Z3.int_tuple _ _ t2 (by omega)⟩
    | @lst m b ys es hb kl k =>
      obtain rfl:v=Zk _:=ry;obtain⟨its2,r2,t2,z2⟩:=I.list hb;have l2:=r2.length;exact⟨Zv.int_list _ _ t2.isList (by omega),Z9.int_list _ _ t2.isList (by omega),Z3.int_list _ _ t2.isList (by omega)⟩
  | @str n b1 =>
    intro m y e h2 A u v hu rx ry;obtain⟨_,rfl⟩:=rx;cases h2 with
    | @non  =>
      obtain rfl:v=ZW:=ry;exact⟨Zv.str_none _ _,Z9.str_none _ _,Z3.str_none _ _⟩
    | @bl _ b2 =>
      obtain rfl:v=Yr _:=ry;exact⟨Zv.str_bool _ _ _,Z9.str_bool _ _ _,Z3.str_bool _ _ _⟩
    | @int _ b2 =>
      obtain⟨_,rfl⟩:=ry;exact⟨Zv.str_int _ _ _ _,Z9.str_int _ _ _ _,Z3.str_int _ _ _ _⟩
    | @str _ b2 =>
      obtain⟨_,rfl⟩:=ry;exact⟨Zv.str_str _ _ _ _,Z9.str_str _ _ _ _,Z3.str_str _ _ _ _⟩
    | @tup m b ys es hb kl k =>
      obtain rfl:v=Zk _:=ry;obtain⟨its2,r2,t2,z2⟩:=I.tuple hb;have l2:=r2.length;exact⟨Zv.str_tuple _ _ t2 (by omega),Z9.str_tuple _ _ t2 (by omega),Z3.str_tuple _ _ t2 (by omega)⟩
    | @lst m b ys es hb kl k =>
      obtain rfl:v=Zk _:=ry;obtain⟨its2,r2,t2,z2⟩:=I.list hb;have l2:=r2.length;exact⟨Zv.str_list _ _ t2.isList (by omega),Z9.str_list _ _ t2.isList (by omega),Z3.str_list _ _ t2.isList (by omega)⟩
  | @tup n a xs ds ha hl h ih =>
    intro m y e h2 A u v hu rx ry;obtain rfl:u=Zk _:=rx;obtain⟨its,r1,t1,z1⟩:=I.tuple ha;have l1:=r1.length;cases h2 with
    | @non  =>
      obtain rfl:v=ZW:=ry;exact⟨Zv.tuple_none t1 (by omega),Z9.tuple_none t1 (by omega),Z3.tuple_none t1 (by omega)⟩
    | @bl _ b2 =>
      obtain rfl:v=Yr _:=ry;exact⟨Zv.tuple_bool _ t1 (by omega),Z9.tuple_bool _ t1 (by omega),Z3.tuple_bool _ t1 (by omega)⟩
    | @int _ b2 =>
      obtain⟨_,rfl⟩:=ry;exact⟨Zv.tuple_int _ _ t1 (by omega),Z9.tuple_int _ _ t1 (by omega),Z3.tuple_int _ _ t1 (by omega)⟩
    | @str _ b2 =>
      obtain⟨_,rfl⟩:=ry;exact⟨Zv.tuple_str _ _ t1 (by omega),Z9.tuple_str _ _ t1 (by omega),Z3.tuple_str _ _ t1 (by omega)⟩
    | @tup m b ys es hb kl k =>
      obtain rfl:v=Zk _:=ry;obtain⟨its2,r2,t2,z2⟩:=I.tuple hb;have l2:=r2.length;have step:∀(j:Nat) (h1:j<its.toArray.size) (h2:j<its2.toArray.size),Zv A.in1 s its.toArray[j] its2.toArray[j] (at2 dEq ds es j):=fun j h1 h2=>by
        obtain⟨x,hx,rx⟩:=xdp r1 h1;obtain⟨y,hy,ry⟩:=xdp r2 h2;have j1:j<ds.length:=by simp at h1; omega
        have j2:j<es.length:=by simp at h2; omega
        rw[xgx (Za j1) (Za j2)];exact (ih j x _ hx (Za j1) (k j y _ hy (Za j2)) (A:=A.in1) (by show A.units+1+n+m<cLine; omega) rx ry).1
      have all:=xfy (xs:=ds) (ys:=es) (e:=at2 dEq ds es) fun j x y h1 h2=>xgx h1 h2;have both:Z9 A s (.ref a) (.ref b) (dEqs ds es)/\Z3 A s (.ref a) (.ref b) (!dEqs ds es):=by
        have z1:=Z9.tuples (A:=A) (e:=at2 dEq ds es) (show s.heap.IsTuple a its.toArray from t1) (show s.heap.IsTuple b its2.toArray from t2) (by omega) step;have z2:=Z3.tuples (A:=A) (e:=at2 dEq ds es) (show s.heap.IsTuple a its.toArray from t1) (show s.heap.IsTuple b its2.toArray from t2) (by omega) step;have e1:its.toArray.size=ds.length:=by simp; omega
        have e2:its2.toArray.size=es.length:=by simp; omega
        rw[e1,e2,all] at z1 z2;exact⟨z1,z2⟩
      simp only[dEq];refine⟨?_,both⟩;by_cases q:a=b
      . subst q
        have ed:DV.tup ds=DV.tup es:=xit I (Dv.tup ha hl h) (Dv.tup hb kl k);rw[show es=ds by injection ed with z; exact z.symm,xdh];exact Zv.same _
      . exact .of_refs q both.1
    | @lst m b ys es hb kl k =>
      obtain rfl:v=Zk _:=ry;obtain⟨its2,r2,t2,z2⟩:=I.list hb;have l2:=r2.length;exact⟨Zv.tuple_list t1 t2.isList (by omega),Z9.tuple_list t1 t2.isList (by omega),Z3.tuple_list t1 t2.isList (by omega)⟩
  | @lst n a xs ds ha hl h ih =>
    intro m y e h2 A u v hu rx ry;obtain rfl:u=Zk _:=rx;obtain⟨its,r1,t1,z1⟩:=I.list ha;have l1:=r1.length;cases h2 with
    | @non  =>
      obtain rfl:v=ZW:=ry;exact⟨Zv.list_none t1.isList (by omega),Z9.list_none t1.isList (by omega),Z3.list_none t1.isList (by omega)⟩
    | @bl _ b2 =>
      obtain rfl:v=Yr _:=ry;exact⟨Zv.list_bool _ t1.isList (by omega),Z9.list_bool _ t1.isList (by omega),Z3.list_bool _ t1.isList (by omega)⟩
    | @int _ b2 =>
      obtain⟨_,rfl⟩:=ry;exact⟨Zv.list_int _ _ t1.isList (by omega),Z9.list_int _ _ t1.isList (by omega),Z3.list_int _ _ t1.isList (by omega)⟩
    | @str _ b2 =>
      obtain⟨_,rfl⟩:=ry;exact⟨Zv.list_str _ _ t1.isList (by omega),Z9.list_str _ _ t1.isList (by omega),Z3.list_str _ _ t1.isList (by omega)⟩
    | @tup m b ys es hb kl k =>
      obtain rfl:v=Zk _:=ry;obtain⟨its2,r2,t2,z2⟩:=I.tuple hb;have l2:=r2.length;exact⟨Zv.list_tuple t1.isList t2 (by omega),Z9.list_tuple t1.isList t2 (by omega),Z3.list_tuple t1.isList t2 (by omega)⟩
    | @lst m b ys es hb kl k =>
      obtain rfl:v=Zk _:=ry;obtain⟨its2,r2,t2,z2⟩:=I.list hb;have l2:=r2.length;have step:∀(j:Nat) (h1:j<its.toArray.size) (h2:j<its2.toArray.size),Zv A.in1 s its.toArray[j] its2.toArray[j] (at2 dEq ds es j):=fun j h1 h2=>by
        obtain⟨x,hx,rx⟩:=xdp r1 h1;obtain⟨y,hy,ry⟩:=xdp r2 h2;have j1:j<ds.length:=by simp at h1; omega
        have j2:j<es.length:=by simp at h2; omega
        rw[xgx (Za j1) (Za j2)];exact (ih j x _ hx (Za j1) (k j y _ hy (Za j2)) (A:=A.in1) (by show A.units+1+n+m<cLine; omega) rx ry).1
      have all:=xfy (xs:=ds) (ys:=es) (e:=at2 dEq ds es) fun j x y h1 h2=>xgx h1 h2;have both:Z9 A s (.ref a) (.ref b) (dEqs ds es)/\Z3 A s (.ref a) (.ref b) (!dEqs ds es):=by
        have e1:its.toArray.size=ds.length:=by simp; omega
        have e2:its2.toArray.size=es.length:=by simp; omega
        by_cases c:ds.length=es.length
        . have z1:=Z9.lists (A:=A) (e:=at2 dEq ds es) t1.isList t2.isList (by omega) (by omega) step
          have z2:=Z3.lists (A:=A) (e:=at2 dEq ds es) t1.isList t2.isList (by omega) (by omega) step;have all':(ZI ds.length).all (at2 dEq ds es)=dEqs ds es:=by
            rw[<- all,c,Nat.min_self];simp
          rw[e1,all'] at z1 z2;exact⟨z1,z2⟩
        . rw[xjd c]
          exact⟨Z9.lists_lengths (A:=A) t1.isList t2.isList (by rw[e1,e2]; simpa using c) (by omega),Z3.lists_lengths (A:=A) t1.isList t2.isList (by rw[e1,e2]; simpa using c) (by omega)⟩
      simp only[dEq];refine⟨?_,both⟩;by_cases q:a=b
      . subst q
        have ed:DV.lst ds=DV.lst es:=xit I (Dv.lst ha hl h) (Dv.lst hb kl k);rw[show es=ds by injection ed with z; exact z.symm,xdh];exact Zv.same _
      . exact .of_refs q both.1
end
theorem Same.seqL {K:Zd}{H H':Hp}{a:Addr}{xs:List V} (s:Same H H') (h:SqL K H a xs):SqL K H' a xs:=by
 rcases h with (h|⟨ob,h⟩)|h
 .exact .inl (.inl (s _ _ h))
 .exact .inl (.inr ⟨ob,s _ _ h⟩)
 .exact .inr h
inductive rEqV (K:Zd) (x:V) (y:V) (H:Hp) (Q:VK):Prop
 | mk (n m:Nat) (d e:DV) (e_:Dv K H n x d) (r_:Dv K H m y e/\n<=9/\m<=9/\Q (.bl (dEq d e)) H)
inductive rNeV (K:Zd) (x:V) (y:V) (H:Hp) (Q:VK):Prop
 | mk (n m:Nat) (d e:DV) (e_:Dv K H n x d) (r_:Dv K H m y e/\n<=9/\m<=9/\Q (.bl (!dEq d e)) H)
inductive rInV (K:Zd) (neg:Bool) (x:V) (y:V) (H:Hp) (Q:VK):Prop
 | mk (n m:Nat) (d:DV) (es:List DV) (e_:Dv K H n x d) (r_:Dv K H m y (.lst es)/\n<=9/\m<=9/\Q (.bl (if neg then !es.any (fun z=>dEq z d) else es.any fun z=>dEq z d)) H)
section
variable {X:Cx}
theorem xst (hu:X.A.units+20<cLine):OpR X (compareOp .Eq) (rEqV X.K):=by
 intro pins s Z H x y u v Q I rx ry h;obtain⟨n,m,d,e,h1,h2,hn,hm,q⟩:=h;exact (xf8 I h1 h2 (A:=X.A) (by omega) rx ry).2.1 X.prog X.w X.xe _ ⟨.bl _,H,I,rfl,q⟩
theorem xej (hu:X.A.units+20<cLine):OpR X (compareOp .NotEq) (rNeV X.K):=by
 intro pins s Z H x y u v Q I rx ry h;obtain⟨n,m,d,e,h1,h2,hn,hm,q⟩:=h;exact PySem.W.cmp_ofNotEq ((xf8 I h1 h2 (A:=X.A) (by omega) rx ry).2.2 X.prog X.w X.xe _ ⟨.bl _,H,I,rfl,q⟩)
theorem xio {α β:Type}{f:α->Bool}{g:β->Bool}:∀{xs:List α}{ys:List β},xs.length=ys.length->(∀(j:Nat) (x:α) (y:β),xs[j]?=some x->ys[j]?=some y->f x=g y)->xs.any f=ys.any g
 | [],[],_,_=>rfl
 | [],_::_,h,_=>by cases h
 | _::_,[],h,_=>by cases h
 | x::xs,y::ys,h,k=>by
  rw[Yj,Yj,k 0 x y rfl rfl,xio (xs:=xs) (ys:=ys) (by simpa using h) fun j a b h1 h2=>k (j+1) a b (by simpa using h1) (by simpa using h2)]
noncomputable def eOf (K:Zd) (H:Hp) (m:Nat) (d:DV) (z:V):Bool:=@dite Bool (∃ e,Dv K H m z e) (Classical.propDecidable _) (fun h=>dEq h.choose d) fun _=>false
theorem xgi {pins:List (Addr × Obj)}{Z:St}{H:Hp}{s:Shared} (I:Inv X pins Z H s) {m:Nat}{d e:DV}{z:V} (h:Dv X.K H m z e):eOf X.K H m d z=dEq e d:=by
 unfold eOf;rw[dif_pos ⟨e,h⟩];have ex:∃ e,Dv X.K H m z e:=⟨e,h⟩
 rw[xit I ex.choose_spec h]
theorem xmq (hu:X.A.units+20<cLine):OpR X (compareOp .In) (rInV X.K false):=by
 intro pins s Z H x y v u Q I rx ry h;obtain⟨n,m,d,es,h1,h2,hn,hm,q⟩:=h;cases h2 with
 | @lst m a xs _ ha hl k =>
  cases ry;obtain⟨its,r,pl,hz⟩:=I.list ha;have get:∀ z∈xs,∃(j:Nat) (e:DV),xs[j]?=some z/\es[j]?=some e/\Dv X.K H m z e:=fun z hz=>by
   obtain⟨j,hj⟩:=List.getElem?_of_mem hz;have lt:j<es.length:=by rw[<- hl]; exact (Zh.mp hj).1
   exact⟨j,es[j],hj,Za lt,k j z _ hj (Za lt)⟩
  refine SeqAt.in_listAt (eU (eOf X.K H m d)) pl.isList (fun w hw=>?_) ⟨.bl _,H,I,rfl,?_⟩
  .obtain ⟨z,m1,m2⟩:=xg3 r w (by simpa using hw);obtain⟨j,e,_,_,he⟩:=get z m1;rw[xlf m2,xgi I he];exact (xf8 I he h1 (A:=X.A.in1) (by show X.A.units+1+m+n<cLine; omega) m2 rx).1
  .rw [show its.toArray.any (eU (eOf X.K H m d))=its.any (eU (eOf X.K H m d)) by simp,xir r,xio (g:=fun z=>dEq z d) hl fun j z e g1 g2=>xgi I (k j z e g1 g2)];exact q
theorem xdl (hu:X.A.units+20<cLine):OpR X (compareOp .NotIn) (rInV X.K true):=by
 intro pins s Z H x y v u Q I rx ry h;obtain⟨n,m,d,es,h1,h2,hn,hm,q⟩:=h;cases h2 with
 | @lst m a xs _ ha hl k =>
  cases ry;obtain⟨its,r,pl,hz⟩:=I.list ha;have get:∀ z∈xs,∃(j:Nat) (e:DV),xs[j]?=some z/\es[j]?=some e/\Dv X.K H m z e:=fun z hz=>by
   obtain⟨j,hj⟩:=List.getElem?_of_mem hz;have lt:j<es.length:=by rw[<- hl]; exact (Zh.mp hj).1
   exact⟨j,es[j],hj,Za lt,k j z _ hj (Za lt)⟩
  refine SeqAt.notIn_listAt (eU (eOf X.K H m d)) pl.isList (fun w hw=>?_) ⟨.bl _,H,I,rfl,?_⟩
  .obtain ⟨z,m1,m2⟩:=xg3 r w (by simpa using hw);obtain⟨j,e,_,_,he⟩:=get z m1;rw[xlf m2,xgi I he];exact (xf8 I he h1 (A:=X.A.in1) (by show X.A.units+1+m+n<cLine; omega) m2 rx).1
  .rw [show its.toArray.any (eU (eOf X.K H m d))=its.any (eU (eOf X.K H m d)) by simp,xir r,xio (g:=fun z=>dEq z d) hl fun j z e g1 g2=>xgi I (k j z e g1 g2)];exact q
end
end L2
namespace L2
open PySem PySem.Spec PyProof.Rows XL PySem.W
def Tp (H H':Hp):Prop:=∀ b xs,H b=some (.tup xs)->H' b=some (.tup xs)
theorem Same.tp {H H':Hp} (s:Same H H'):Tp H H':=fun b xs e=>s b _ e
theorem Tp.trans {H H' H'':Hp} (s:Tp H H') (r:Tp H' H''):Tp H H'':=fun b xs e=>r b xs (s b xs e)
theorem xjp {H:Hp}{l:Addr}{xs ys:List V} (h:H l=some (.lst xs)):Tp H (upd H l (.lst ys)):=fun b zs e=>by
 rw[xh (fun z=>by rw[z,h] at e; cases e)];exact e
section
variable {J:It}{n:Nat}{g:TG}{Z:St}{fr:List Nat}{tc:TT}{te:TE}{l:Addr}{H1:Hp}{Q:VK}
theorem xqd (len:Nat) (hlen:len<sizeLine) (hl:H1 l=none) (x:Nat->V) (hgo:∀ i H,i<len->Same H1 H->J.go i H) (hy:∀ i H v H',i<len->Same H1 H->J.yld i H v H'->H'=H/\v=x i) (hst:∀ H,Same H1 H->J.stop len H)
    (p:Nat->Bool) (F:Nat->V->Hp->Prop) (stab:∀ i y H H',Tp H H'->F i y H->F i y H')
    (step:∀ i H2,i<len->Same H1 H2->∀(N:V->Hp->Prop) (M:Hp->Prop),(∀ y H',Same H2 H'->p i=true->F i y H'->N y H')->(∀ H',Same H2 H'->p i=false->M H') ->
      g (x i) (blk0 Z fr n) H2 fun σ' H3=>tc σ' H3 fun b H4=>if b=true then te σ' H4 N else M H4)
    (fin:∀ ys H2,Same H1 H2->H2 l=some (.lst ys)->ys.length=((ZI len).filter p).length->(∀(j:Nat) (y:V) (i:Nat),ys[j]?=some y->((ZI len).filter p)[j]?=some i->F i y H2)->Q (.ref l) H2):xd6 J n g Z fr tc te l H1 Q:=by
  refine xcr len (fun i ys H2=>Same H1 H2/\H2 l=some (.lst ys)/\ys.length=((ZI i).filter p).length/\∀(j:Nat) (y:V) (k:Nat),ys[j]?=some y->((ZI i).filter p)[j]?=some k->F k y H2) ?_ ?_ ?_ ?_
  . refine⟨fun b u e=>?_,xi,rfl,fun j y k e=>by simp at e⟩
    rw[xh (xg e hl)];exact e
  . rintro i ys H2 lt ⟨s,_⟩
    exact hgo i H2 lt s
  . rintro i ys H2 v H3 lt ⟨s,el,ly,f⟩ yl N hN
    obtain⟨rfl,rfl⟩:=hy i H2 v H3 lt s yl;refine step i H3 lt s _ _ (fun y H' s' pt hf=>?_) (fun H' s' pf=>?_)
    . have el':=s' _ _ el
      have ylen:ys.length<sizeLine:=by
        rw[ly];refine ZG (JJ _ _) ?_;rw[Y5];omega
      refine⟨el',ylen,hN _ _ ⟨fun b u e=>?_,xi,?_,fun j z k e1 e2=>?_⟩⟩
      . rw[xh (xg e hl)]
        exact s' _ _ (s _ _ e)
      . rw[YN,JM,Zu,Zu,ly,JC pt]
        rfl
      . rw[YN,JM,JC pt] at e2
        by_cases c:j<ys.length
        . rw[ZV c] at e1
          rw[ZV (by omega)] at e2;exact stab _ _ _ _ ((Same.tp s').trans (xjp el')) (f j z k e1 e2)
        . rw[Ju (by omega)] at e1 e2
          rw[<- ly] at e2;cases hj:j-ys.length with
          | zero =>
            rw[hj] at e1 e2;simp at e1 e2;subst e1 e2;exact stab _ _ _ _ (xjp el') hf
          | succ m =>
            rw[hj] at e1;simp at e1
    . refine hN _ _ ⟨s.trans s',s' _ _ el,?_,fun j z k e1 e2=>?_⟩
      . rw[YN,JM,Js (by simp[pf])]
        simpa using ly
      . rw[YN,JM,Js (by simp[pf])] at e2
        simp only[List.filter_nil,YO] at e2;exact stab _ _ _ _ (Same.tp s') (f j z k e1 e2)
  . rintro ys H2 ⟨s,el,ly,f⟩
    exact⟨hst _ s,fin ys H2 s el ly f⟩
theorem xet {K:Zd}{a:Addr}{xs:List V} (hs:SqL K H1 a xs) (hlen:xs.length<sizeLine) (hl:H1 l=none) (p:Nat->Bool) (F:Nat->V->Hp->Prop) (stab:∀ i y H H',Tp H H'->F i y H->F i y H')
    (step:∀(i:Nat) (x:V) (H2:Hp),xs[i]?=some x->Same H1 H2->∀(N:V->Hp->Prop) (M:Hp->Prop),(∀ y H',Same H2 H'->p i=true->F i y H'->N y H')->(∀ H',Same H2 H'->p i=false->M H') ->
      g x (blk0 Z fr n) H2 fun σ' H3=>tc σ' H3 fun b H4=>if b=true then te σ' H4 N else M H4)
    (fin:∀ ys H2,Same H1 H2->H2 l=some (.lst ys)->ys.length=((ZI xs.length).filter p).length->(∀(j:Nat) (y:V) (i:Nat),ys[j]?=some y->((ZI xs.length).filter p)[j]?=some i->F i y H2)->Q (.ref l) H2):xd6 (Itl K a) n g Z fr tc te l H1 Q:=by
  refine xqd xs.length hlen hl (fun i=>xs.getD i .non) (fun i H lt s=>⟨xs,xs[i],Same.seqL s hs,Za lt⟩) (fun i H v H' lt s y=>?_) (fun H s=>⟨xs,Same.seqL s hs,Zi _⟩) p F stab (fun i H2 lt s N M h1 h2=>?_) fin
  . obtain⟨e,f⟩:=y
    have z:=f xs (Same.seqL s hs);refine⟨e,?_⟩;simp[z]
  . have e:xs[i]?=some (xs.getD i .non):=by simp[Za lt]
    exact step i _ H2 e s N M h1 h2
theorem xji {i:Nat}{x:V}{σ0:St}{H2:Hp}{N:V->Hp->Prop}{M:Hp->Prop}{g:TG}{te:TE} (h:g x σ0 H2 fun σ' H3=>te σ' H3 N):g x σ0 H2 fun σ' H3=>xex σ' H3 fun b H4=>if b=true then te σ' H4 N else M H4:=by
 have e:(fun (σ':St) (H3:Hp)=>xex σ' H3 fun b H4=>if b=true then te σ' H4 N else M H4)=fun σ' H3=>te σ' H3 N:=by
  funext σ' H3;show (if true=true then te σ' H3 N else M H3)=te σ' H3 N;rw[if_pos rfl]
 rw[e];exact h
theorem xga (m:Nat):(ZI m).filter (fun _=>true)=ZI m:=by simp
theorem xcu {K:Zd}{a:Addr}{xs:List V} (hs:SqL K H1 a xs) (hlen:xs.length<sizeLine) (hl:H1 l=none) (F:Nat->V->Hp->Prop) (stab:∀ i y H H',Tp H H'->F i y H->F i y H')
    (step:∀(i:Nat) (x:V) (H2:Hp),xs[i]?=some x->Same H1 H2->∀(N:V->Hp->Prop),(∀ y H',Same H2 H'->F i y H'->N y H')->g x (blk0 Z fr n) H2 fun σ' H3=>te σ' H3 N)
    (fin:∀ ys H2,Same H1 H2->H2 l=some (.lst ys)->ys.length=xs.length->(∀(i:Nat) (y:V),ys[i]?=some y->F i y H2)->Q (.ref l) H2):xd6 (Itl K a) n g Z fr xex te l H1 Q:=by
  refine xet hs hlen hl (fun _=>true) F stab (fun i x H2 hx s N M h1 h2=>xji (i:=i) (step i x H2 hx s N fun y H' s' f=>h1 y H' s' rfl f)) (fun ys H2 s e ly f=>?_);rw[xga,Y5] at ly;refine fin ys H2 s e ly fun i y hy=>f i y i hy ?_;rw[xga,YG (by have:=(Zh.mp hy).1; omega)]
end
theorem xpl {α:Type}{f:α->V}:∀{as:List α}{ys:List V},ys.length=as.length->(∀(i:Nat) (y:V) (a:α),ys[i]?=some y->as[i]?=some a->y=f a)->ys=as.map f
 | [],[],_,_=>rfl
 | [],_::_,h,_=>by cases h
 | _::_,[],h,_=>by cases h
 | a::as,y::ys,h,k=>by
  rw[Zx,k 0 y a rfl rfl,xpl (as:=as) (ys:=ys) (by simpa using h) fun i y' a' h1 h2=>k (i+1) y' a' (by simpa using h1) (by simpa using h2)]
theorem xki {α:Type} (q:α->Bool):∀(as:List α) (p:Nat->Bool),(∀(i:Nat) (a:α),as[i]?=some a->p i=q a)->((ZI as.length).filter p).filterMap (fun i=>as[i]?)=as.filter q
 | [],_,_=>rfl
 | a::as,p,h=>by
  have ih:=xki q as (fun i=>p (i+1)) fun i b hb=>h (i+1) b (by simpa using hb);rw[ZJ,List.range_succ_eq_map];have e:((ZI as.length).map Nat.succ).filter p=((ZI as.length).filter (fun i=>p (i+1))).map Nat.succ:=by
   rw[List.filter_map];rfl
  have h0:=h 0 a rfl;by_cases c:q a=true
  .rw [JC (by rw[h0]; exact c),JC c,e,JW];simp only[List.getElem?_cons_zero,Wi];rw[<- ih];rfl
  .rw [Js (by rw[h0]; exact c),Js c,e,Wi,<- ih];rfl
theorem xp0 {α:Type} (q:α->Bool) {as:List α}{p:Nat->Bool} (h:∀(i:Nat) (a:α),as[i]?=some a->p i=q a):((ZI as.length).filter p).length=(as.filter q).length/\∀ j i:Nat,((ZI as.length).filter p)[j]?=some i->as[i]?=(as.filter q)[j]?:=by
 rw[<- xki q as p h];have all:∀ i∈(ZI as.length).filter p,∃ a,as[i]?=some a:=fun i hi=>by
  have:=Q6.mp (ZR.mp hi).1;exact⟨as[i],Za this⟩
 generalize (ZI as.length).filter p=is at all
 induction is with
 | nil=>exact⟨rfl,fun j i e=>by simp at e⟩
 | cons i is ih =>
  obtain⟨a,ha⟩:=all i Zp;obtain⟨h1,h2⟩:=ih fun k hk=>all k (Zm _ hk)
  rw[JW,ha];refine⟨by simp[h1],fun j k e=>?_⟩;cases j with
  | zero =>
   simp at e;subst e;exact ha
  | succ m=>exact h2 m k (by simpa using e)
end L2
namespace XL
open PySem PySem.MeetsSeq PySem.MeetsSeq2 PySem.MeetsSeq3 PySem.SeqAt
open AutoSeq1 (wpAny_loadPart')
end XL
namespace L2
open PySem PySem.Spec PyProof.Rows XL PySem.W
def xl7:Expr->Bool
 | .Starred _ _=>false
 | _=>true
theorem xlo {e:Expr}{es:List Expr}{env:Env} (h:xl7 e=true):starEach (e::es) env=(false,eval e env)::starEach es env:=by
 cases e<;>first|rfl|cases h
theorem xbr {X:Cx}{e:Expr}{es:List Expr}{te:TE}{t:TA} (ha:PE X e te) (hr:PA X es t) (hn:xl7 e=true):PA X (e::es) (xps te t):=xf ha hr (xlo hn)
end L2
namespace XL
open PySem L2
open PyProof.Rows (assign_Tuple)
end XL
namespace L2
open PySem PySem.Spec PyProof.Rows XL PySem.W
end L2
namespace L2
open PySem PySem.Spec PyProof.Rows XL PySem.W PySem.Builtin PySem.Builtin.Str
end L2
namespace L2
open PySem PySem.Spec PyProof.Rows XL
open AutoSeq1 (wpAny_loadPart')
end L2
namespace L2
open PySem PySem.Spec PyProof.Rows XL
end L2
namespace L2
open PySem PySem.Spec PyProof.Rows XL
open AutoSeq1 (wpAny_loadPart')
end L2
namespace L2
open PySem PySem.Spec PyProof.Rows XL
end L2
namespace L2
open PySem PySem.Spec PyProof.Rows XL PySem.W PySem.Builtin PySem.Builtin.Str
section
variable {J:It}{n:Nat}{g:TG}{Z:St}{fr:List Nat}{tc:TT}{te:TE}{l:Addr}{H1:Hp}{Q:VK}
theorem xlk {K:Zd}{a:Addr}{xs:List V} (hs:SqL K H1 a xs) (hlen:xs.length<sizeLine) (hl:H1 l=none) (F:Nat->List V->Hp->Prop) (F0:∀ H,Same H1 H->F 0 [] H) (stab:∀ i ys zs H H',H l=some (.lst zs)->(∀ b u,b≠l->H b=some u->H' b=some u)->F i ys H->F i ys H')
    (step:∀(i:Nat) (x:V) (ys:List V) H2,xs[i]?=some x->Same H1 H2->H2 l=some (.lst ys)->F i ys H2->∀(N:V->Hp->Prop),(∀ y H',Same H2 H'->F (i+1) (ys++[y]) H'->N y H')->g x (blk0 Z fr n) H2 fun σ' H3=>te σ' H3 N)
    (fin:∀ ys H2,Same H1 H2->H2 l=some (.lst ys)->ys.length=xs.length->F xs.length ys H2->Q (.ref l) H2):xd6 (Itl K a) n g Z fr xex te l H1 Q:=by
  refine xcr xs.length (fun i ys H2=>Same H1 H2/\H2 l=some (.lst ys)/\ys.length=i/\F i ys H2) ?_ ?_ ?_ ?_
  . have s0:Same H1 (upd H1 l (.lst [])):=fun b u e=>by
      rw[xh (xg e hl)];exact e
    exact⟨s0,xi,rfl,F0 _ s0⟩
  . rintro i ys H2 lt ⟨s,_⟩
    exact⟨xs,xs[i],Same.seqL s hs,Za lt⟩
  . rintro i ys H2 v H3 lt ⟨s,el,ly,f⟩ ⟨rfl,yv⟩ N hN
    have hv:=yv xs (Same.seqL s hs);refine xji (i:=i) (step i v ys H3 hv s el f _ fun y H' s' f'=>?_);have el':=s' _ _ el;refine⟨el',by omega,hN _ _ ⟨fun b u e=>?_,xi,by simp[ly],stab _ _ _ _ _ el' (fun b u nb e=>?_) f'⟩⟩
    . rw[xh (xg e hl)]
      exact s' _ _ (s _ _ e)
    . rw[xh nb]
      exact e
  . rintro ys H2 ⟨s,el,ly,f⟩
    exact⟨⟨xs,Same.seqL s hs,Zi _⟩,fin ys H2 s el ly f⟩
end
end L2
namespace L2
open PySem PySem.Spec PyProof.Rows XL PySem.W
end L2
namespace L2
open PySem PySem.Spec PyProof.Rows XL PySem.W PySem.Builtin PySem.Builtin.Str
end L2
namespace L2
open PySem
def th (a b:Int):Int:=reduceHash (Builtin.Tuple.tupleHashOf [hashInt a,hashInt b])
end L2
namespace XL
open PySem PySem.Spec PyProof.Rows
def xbo (acc:List Str) (x:Str):List Str:=if acc.any (· == x)=true then acc else acc++[x]
def xbi (val:Nat->Str) (i:Nat):List Str:=((ZI i).map val).foldl xbo []
theorem xee (val:Nat->Str) (i:Nat):xbi val (i+1)=xbo (xbi val i) (val i):=by
 unfold xbi;rw[YN,ZC,List.foldl_append];rfl
theorem xj7 (acc:List Str) (v k:Str):(xbo acc v).any (· == k)=(acc.any (· == k)||decide (k=v)):=by
 unfold xbo;split
 .rename_i h
  by_cases e:k=v
  .rw [e,h];simp
  .simp [e]
 .rw [List.any_append];by_cases e:k=v
  .subst e;simp
  .have ne:(v == k)=false:=beq_eq_false_iff_ne.mpr fun z=>e z.symm;simp[ne,e]
theorem xeb (acc:List Str) (v:Str):(xbo acc v).length=if acc.any (· == v) then acc.length else acc.length+1:=by
 unfold xbo;split<;>simp
theorem xhf (val:Nat->Str):∀ i,(xbi val i).length<=i
 | 0=>Zi _
 | i+1=>by
  have ih:=xhf val i;rw[xee,xeb];split<;>omega
section
variable {pr:Program}{wd:World}{ar:Around}{R:Result->Shared->Prop}{it:Addr}{fp wr:List Addr}{G:Array GenState->Array GenState->Prop}{n:Nat}{P:Nat->Value->Prop}{St:Nat->Shared->Prop}
theorem xlh (wk:WalksS pr wd ar.in1 it fp wr G n P St) (d:Addr) (nd:d∉fp) (val:Nat->Str) (hv:∀ i v,P i v->∃ t,v=.str (val i) t) (small:n+1<scanBound) :
    ∀(k i:Nat) (s:Shared),n-i=k->i<=n->St i s->s.heap.SetOf (strKind pr wd) d (fun z=>(xbi val i).any (· == z)) (xbi val i).length ->
      (∀ s2,Moved (d::wr) G s s2->s2.heap.SetOf (strKind pr wd) d (fun z=>(xbi val n).any (· == z)) (xbi val n).length->R (.ok (.ret .none)) s2) ->
      codeAny (model pr wd) ar (.builtin "set.update.loop" ⟨[.ref d,.ref it],[]⟩) R s:=by
  have nw:d∉wr:=fun z=>nd (wk.sub _ z);have more:∀ b∈wr,b∈d::wr:=fun b z=>Zm _ z;intro k
  induction k with
  | zero =>
    intro i s ek le st so fin;obtain rfl:i=n:=by omega
    refine Qt F.entry_set_update_loop ?_;rw[Qr F.plain_set_update_loop _];refine Zb (m:=pyNext (.ref it)) (wk.done s _ _ st fun s2 mv=>?_);refine Zg (fin s2 (mv.mono more) ?_);obtain⟨o,es,ep,t,ho,rest⟩:=so;exact⟨o,es,ep,t,mv.heap d _ nw ho,rest⟩
  | succ k ih =>
    intro i s ek le st so fin;have lt:i<n:=by omega
    refine Qt F.entry_set_update_loop ?_;rw[Qr F.plain_set_update_loop _];refine Zb (m:=pyNext (.ref it)) (wk.item i s _ _ lt st fun v s2 pv st2 mv=>?_);obtain⟨t,rfl⟩:=hv i v pv;have so2:s2.heap.SetOf (strKind pr wd) d (fun z=>(xbi val i).any (· == z)) (xbi val i).length:=by
      obtain⟨o,es,ep,tb,ho,rest⟩:=so;exact⟨o,es,ep,tb,mv.heap d _ nw ho,rest⟩
    show wpAny _ ar.in1 (holding [Q0 (val i) t] (setAdd d (.str (val i) t))>>=_) _ _ s2;refine Zb (Jk ?_);unfold setAdd;refine Jk (Zb ((strKind pr wd).pyHash (k:=val i) (strKind_is _ _ _ _) ?_));have room:(xbi val i).length+1<scanBound:=by have:=xhf val i; omega
    refine wpAny_setAddHashed_of (knd:=strKind pr wd) (s:={ s2 with toks:=s2.toks+1 }) (strKind_is _ _ _ _) rfl so2 room fun h2 sb so3=>?_;have so4:h2.SetOf (strKind pr wd) d (fun z=>(xbi val (i+1)).any (· == z)) (xbi val (i+1)).length:=SetOf_congr so3 (fun z=>by rw[xee,xj7]) (by rw[xee,xeb]);refine Zg ⟨plainId_quiet F.plain_set_update_loop _,ih (i+1) _ (by omega) lt (wk.frame _ s2 _ _ st2 (Y9 _) fun b z o e=>?_) so4 fun s3 mv3 so5=>?_⟩
    . rw[sb.2 b (fun e2:b=d=>nd (e2▸z))]
      exact e
    . refine fin s3 (Moved.trans wk.gtrans ((mv.mono more).then_heap (Y9 _) fun b o z e=>?_) mv3) so5
      rw[sb.2 b (fun e2:b=d=>z (e2▸Zp))];exact e
end
section
variable {pr:Program}{wd:World}{ar:Around}{E:Value->Shared->Prop}{s:Shared}
theorem xg2 {l:Addr}{its:Array Value}{val:Nat->Str}{Q:Value->Shared->Prop} (hd:ar.handled=none) (hl:s.heap.IsList l its) (hi:∀(i:Nat) (v:Value),its[i]?=some v->∃ t,v=.str (val i) t) (small:its.size+1<scanBound)
    (h:∀(h2:Heap) (tk:Nat),h2.SetOf (strKind pr wd) s.heap.objs.size (fun z=>(xbi val its.size).any (· == z)) (xbi val its.size).length->(∀ b o,b<s.heap.objs.size->s.heap.get? b=some o->h2.get? b=some o)->Q (.ref s.heap.objs.size) { s with heap:=h2,toks:=tk }) :
    wpAny (model pr wd) ar (call (.type "set") [.ref l]) Q E s:=by
  obtain⟨c0,tl0,mro0⟩:=YE.mro;have made0:=YE.made;have sub0:=YE.sub;refine Qh (codeAny_of_tree ?_);show wpAny _ _ (callAny (.type "set") _) _ _ _;refine Zg ⟨Wj _ (by decide +kernel),Qt F.entry_type_call ?_⟩;rw[Around.under_plain (weight_type_call_type "set" [.ref l] []) rfl];have k1:=YE.notType;have k2:=YE.canCreate;have k3:=F.typeCall_set_1 (.ref l)
  repeat (any_goals (first|assumption|wp_step))
  refine YX (code_set_new_1 (.ref l) (E:=E) (Q₁:=fun ob s1=>∃ led:Bool,ob=.ref s.heap.objs.size/\s1={ s with heap:=s.heap.push { cls:=.type "set",dict:=none,data:=.set #[] 0 (.fresh 0 0 led) } }) fun led=>⟨led,rfl,rfl⟩) fun r s1 hr=>?_;cases r with
  | error e=>exact hr
  | ok fl =>
    cases fl with
    | ret ob =>
      obtain⟨led,rfl,rfl⟩:=hr;have g0:(s.heap.push { cls:=.type "set",dict:=none,data:=.set #[] 0 (.fresh 0 0 led) }).get? s.heap.objs.size=some { cls:=.type "set",dict:=none,data:=.set #[] 0 (.fresh 0 0 led) }:=Zo _ rfl;have ty0:Shared.TypeIs { s with heap:=s.heap.push { cls:=.type "set",dict:=none,data:=.set #[] 0 (.fresh 0 0 led) } } (.ref s.heap.objs.size) "set":=⟨_,g0,rfl⟩
      have li0:=YE.init.lookup;have bi0:=YE.init.bind (.ref s.heap.objs.size)
      repeat (any_goals (first|assumption|wp_step))
      refine YX (Qp (R:=wants (fun r s2=>r=.none/\∃ h2 tk,s2={ s with heap:=h2,toks:=tk }/\h2.SetOf (strKind pr wd) s.heap.objs.size (fun z=>(xbi val its.size).any (· == z)) (xbi val its.size).length/\(∀ b o,b<s.heap.objs.size->s.heap.get? b=some o->h2.get? b=some o)) E) YE.init.plain F.entry_set_init (check_set_init_1 ty0 ?_)) fun r2 s2 hr2=>?_
      . obtain⟨ol,gl,cl,nl,dl⟩:=hl
        obtain⟨ocls,odict,odata,oslots⟩:=ol;simp only at cl dl;subst cl dl;have gl1:(s.heap.push { cls:=.type "set",dict:=none,data:=.set #[] 0 (.fresh 0 0 led) }).get? l=some { cls:=.type "list",dict:=odict,data:=.seq its nl,slots:=oslots }:=Ze _ gl;have a1:=F.sub_list_set;have a2:=F.sub_list_frozenset;have a3:(Value.type "list" == Value.type "dict")=false:=by decide
        have l1:(s.heap.push { cls:=.type "set",dict:=none,data:=.set #[] 0 (.fresh 0 0 led) }).IsList l its:=⟨_,gl1,rfl,nl,rfl⟩
        unfold Builtin.«set.__init__» noKeywords Builtin.Frozenset.updateFrom;generalize ePI:pyIter=PI
        wp_walk
        subst ePI;refine wpAny_pyIter_list l1 (Zb (wpAny_runValue ?_));have ll:l<s.heap.objs.size:=Zs gl;have h3:ar.in1.in1.in1.handled=none:=by simp[hd]
        have n1:l≠(s.heap.push { cls:=.type "set",dict:=none,data:=.set #[] 0 (.fresh 0 0 led) }).objs.size:=by
          rw[Ym];exact ZD (ZF ll (Y9 _))
        have n2:s.heap.objs.size∉[(s.heap.push { cls:=.type "set",dict:=none,data:=.set #[] 0 (.fresh 0 0 led) }).objs.size,l]:=by
          rw[Ym];simp only[Zz,Yn,or_false,not_or];exact⟨ZD (Nat.lt_succ_self _),YD ll⟩
        refine xlh ((Walks.list h3 _ l n1 its).toS) s.heap.objs.size n2 val hi small (its.size-0) 0 _ (by omega) (Ja _) ⟨⟨_,Zo _ rfl,rfl,rfl⟩,(l1.push _)⟩ ?hS ?hE
        case hS =>
          have g1:((s.heap.push { cls:=.type "set",dict:=none,data:=.set #[] 0 (.fresh 0 0 led) }).push { cls:=.type "list_iterator",data:=.fields #[.ref l,.int 0 0] }).get? s.heap.objs.size=some { cls:=.type "set",dict:=none,data:=.set #[] 0 (.fresh 0 0 led) }:=Ze _ g0;exact SetOf_congr ((setObjOf_fresh (knd:=strKind pr wd) led).setOf g1 (by unfold scanBound; omega)) (fun _=>rfl) rfl
        case hE =>
          intro s3 mv so;obtain⟨hp3,gn3,dr3,tk3,os3⟩:=s3;obtain rfl:gn3=s.gens:=mv.gens;obtain rfl:dr3=s.drawn:=mv.drawn;obtain rfl:os3=s.os:=mv.os;refine Zg (Zg ⟨rfl,hp3,tk3,rfl,so,fun b o lb e=>mv.heap b o ?_ (Ze _ (Ze _ e))⟩);rw[Ym];simp only[Zz,Yn,or_false,not_or];exact⟨ZD lb,ZD (ZF lb (Y9 _))⟩
      . cases r2 with
        | error e=>exact hr2
        | ok fl2 =>
          cases fl2 with
          | ret r =>
            obtain⟨rfl,h2,tk,rfl,so,kp⟩:=hr2
            repeat (any_goals (first|assumption|wp_step))
            exact h _ _ so kp
          | _=>exact hr2.elim
    | _=>exact hr.elim
end
end XL
namespace L2
open PySem PySem.Spec PyProof.Rows XL
theorem xm8 (xs:List Str):xbi (fun i=>xs.getD i (Zn "")) xs.length=xs.foldl xbo []:=by
 unfold xbi
 congr 1
 refine List.ext_getElem (by simp) fun i h1 h2=>?_;simp[Za h2]
theorem xgk:∀(xs acc:List Str),(xs.foldl xbo acc).length=acc.length+xs.length↔(∀ x∈xs,x∉acc)/\xs.Nodup
 | [],acc=>by simp
 | x::r,acc=>by
  have le:∀(xs acc:List Str),(xs.foldl xbo acc).length<=acc.length+xs.length:=by
   intro xs
   induction xs with
   | nil=>intro acc; exact Zi _
   | cons x r ih =>
    intro acc;refine Z6 (ih _) ?_;rw[xeb,ZJ];split<;>omega
  show ((r.foldl xbo (xbo acc x)).length=_)↔_;rw[ZJ,ZQ];by_cases h:acc.any (· == x)=true
  .have hx:x∈acc:=by
    obtain⟨y,hy,e⟩:=Jw.mp h;rw[<- QG e];exact hy
   have e:xbo acc x=acc:=if_pos h;rw[e];constructor
   .intro z
    have:=le r acc;omega
   .intro z
    exact absurd hx (z.1 x (Zp ..))
  .have hx:x∉acc:=fun z=>h (Jw.mpr ⟨x,z,beq_self_eq_true x⟩);have e:xbo acc x=acc++[x]:=if_neg h;rw[e];have ih:=xgk r (acc++[x]);rw[Zu,ZS] at ih;rw[show acc.length+(r.length+1)=acc.length+1+r.length by omega,ih];constructor
   .rintro ⟨h1,h2⟩;refine⟨fun y hy=>?_,fun z=>h1 x z (Z2 _ (Zt.mpr rfl)),h2⟩;rcases Zz.mp hy with rfl|hy
    .exact hx
    .exact fun z=>h1 y hy (ZL _ z)
   .rintro ⟨h1,h2,h3⟩;refine⟨fun y hy z=>?_,h3⟩;rcases ZB.mp z with z|z
    .exact h1 y (Zm _ hy) z
    .rw [Zt.mp z] at hy;exact h2 hy
def xf9 (xs:List Str):Nat:=(xs.foldl xbo []).length
theorem xmw {xs:List Str} (h:xs.Nodup):xf9 xs=xs.length:=by
 have:=(xgk xs []).mpr ⟨fun _ _ z=>(nomatch z),h⟩;unfold xf9;simpa using this
def xpu (K:Zd) (ta:TA):TE:=fun Z H Q=>ta Z H fun vs H1=>∃ a xs,vs=[.ref a]/\SqL K H1 a (xs.map V.str)/\xs.length<=1000/\Q (.int (xf9 xs:Int)) H1
section
variable {X:Cx}
theorem xm4 {a:Expr}{ta:TA}{p p2 pos pos2:Pos} (hc:X.calm=true) (hg:Gl X "len") (hm:X.mg "len"=none) (hg2:Gl X "set") (hm2:X.mg "set"=none) (ha:PA X [a] ta)
    (hs:starEach [a] X.env=[(false,eval a X.env)]:=by rfl) (hs3:starEach [.Call (.Name "set" p2) [a] [] pos2] X.env=[(false,eval (.Call (.Name "set" p2) [a] [] pos2) X.env)]:=by rfl) :
    PE X (.Call (.Name "len" p) [.Call (.Name "set" p2) [a] [] pos2] [] pos) (xpu X.K ta):=by
  intro pins s Z H Q I h;refine J8 (xcd I hg hm PyProof.Rows.Boot.«len» ?_);refine PyProof.Rows.callWith_builtin1 ?_ (by rw[hs3]; rfl) rfl;rw[hs3];show wpAny _ _ (spliced ((false,eval (.Call (.Name "set" p2) [a] [] pos2) X.env)::backTo pos [])) _ _ s;refine Yu ?_;refine Call_ (xcd I hg2 hm2 PyProof.Rows.Boot.«set» (Jf (thn (ha pos2 pins s Z H _ I h) fun us s1 ⟨vs,H1,I1,r1,q1⟩=>?_) hs rfl));obtain⟨l,xs,e,hq,hx,q⟩:=q1;subst e;obtain⟨u,rfl,ru⟩:=xcb r1;obtain rfl:u=Zk l:=ru;obtain⟨its,rv,pl,hz⟩:=I1.list hq;have hlen:=rv.length;rw[Zc] at hlen;have sz:its.toArray.size=xs.length:=by rw[Zy,hlen]
  refine xg2 (I.ok.hd hc) pl.isList (val:=fun i=>xs.getD i (Zn "")) (fun i v e=>?_) (by rw[sz]; unfold scanBound; omega) fun h2 tk so kp=>?_
  . have e':its[i]?=some v:=by simpa using e
    have lt:i<xs.length:=by
      have:=(Zh.mp e').1;omega
    obtain⟨v',hv',rv'⟩:=rv.get (i:=i) (x:=V.str xs[i]) (by rw[Zf,Za lt]; rfl);rw[e'] at hv';cases hv';obtain⟨t,rfl⟩:=rv';exact⟨t,by simp[Za lt]⟩
  refine Y6 ?_;rw[sz,xm8] at so;have I2:Inv X pins Z H1 { s1 with heap:=h2,toks:=tk }:=I1.kept (t':=tk) fun b o e=>kp b o (Zs e) e;obtain⟨o,es,ep,tb,ho,ex,hd,_,_,sb,ft,en⟩:=so;refine call_len_set ho ex hd ft ?_ ⟨.int (xf9 xs:Int),H1,I2.tok _,⟨tk+1,by rw[en]; rfl⟩,q⟩;unfold scanBound at sb;omega
end
end L2
namespace XS
open PySem PySem.SetTable
end XS
namespace XS
open PySem PySem.SetTable
variable {t:SetTable}{es:Array (Int × Value)}{L:List Row}
end XS
namespace XS
open PySem PySem.SetTable
end XS
namespace XS
open PySem PySem.Spec PySem.SetTable
end XS
namespace XS
open PySem PySem.Spec PyProof.Rows
end XS
namespace XS
open PySem PySem.Spec PyProof.Rows XL
end XS
namespace L2
open PySem PySem.Spec PyProof.Rows XL XS
end L2
namespace L2
open PySem PySem.Spec PyProof.Rows
end L2
namespace L2
open PySem PySem.Spec PyProof.Rows XL PySem.W
section
variable {J:It}{n:Nat}{g:TG}{Z:St}{fr:List Nat}{tc:TT}{te:TE}{l:Addr}{H1:Hp}{Q:VK}{α:Type}
theorem xoh {α:Type}{bs as:List α}{i:Nat}{x:α} (h:bs.Sublist (as.take i)) (hx:as[i]?=some x):(bs++[x]).Sublist (as.take (i+1)):=by
 rw[ZP,hx];exact h.append (QM.refl _)
theorem xor {α:Type}{bs as:List α}{i:Nat} (h:bs.Sublist (as.take i)):bs.Sublist (as.take (i+1)):=by
 rw[ZP];exact h.trans (List.sublist_append_left _ _)
theorem xlj {K:Zd}{a:Addr}{as:List α}{f gv:α->V} (hs:SqL K H1 a (as.map f)) (hlen:as.length<sizeLine) (hl:H1 l=none)
    (step:∀(i:Nat) (x:α) (p:Addr) (H2:Hp),as[i]?=some x->Same H1 H2->H2 p=none->∀(N:V->Hp->Prop) (M:Hp->Prop),(∀ H',Same (upd H2 p (.tup [.int i,f x])) H'->N (gv x) H')->(∀ H',Same (upd H2 p (.tup [.int i,f x])) H'->M H') ->
      g (.ref p) (blk0 Z fr n) (upd H2 p (.tup [.int i,f x])) fun σ' H3=>tc σ' H3 fun b H4=>if b=true then te σ' H4 N else M H4)
    (fin:∀ H2 bs,QM bs as->Same H1 H2->H2 l=some (.lst (bs.map gv))->Q (.ref l) H2):xd6 (Ite K a) n g Z fr tc te l H1 Q:=by
  refine xcr as.length (fun i ys H2=>∃ bs:List α,Same H1 H2/\H2 l=some (.lst ys)/\ys=bs.map gv/\QM bs (as.take i)) ?_ ?_ ?_ ?_
  . exact⟨[],fun b u e=>by rw[xh (xg e hl)]; exact e,xi,rfl,List.nil_sublist _⟩
  . rintro i ys H2 lt ⟨bs,s,_⟩
    exact⟨_,f as[i],Same.seqL s hs,by rw[Zf,Za lt]; rfl⟩
  . rintro i ys H2 v H3 lt ⟨bs,s,e,rfl,sb⟩ ⟨p,x,ex,rfl,hp,rfl⟩ N hN
    have ex:=ex _ (Same.seqL s hs);have hx:as[i]?=some as[i]:=Za lt;rw[Zf,hx] at ex;cases ex;have e1:upd H2 p (.tup [.int i,f as[i]]) l=some (.lst (bs.map gv)):=by
      rw[xh (xg e hp)];exact e
    have s1:Same H1 (upd H2 p (.tup [.int i,f as[i]])):=fun b u z=>by
      have z2:=s _ _ z;rw[xh (xg z2 hp)];exact z2
    refine step i _ p H2 hx s hp _ _ (fun H' s'=>?_) (fun H' s'=>?_)
    . have e':=s' _ _ e1
      refine⟨e',?_,hN _ _ ⟨bs++[as[i]],fun b u z=>?_,xi,by rw[ZC]; rfl,xoh sb hx⟩⟩
      . have:=sb.length_le
        rw[Zc];rw[JA] at this;omega
      . rw[xh (xg z hl)]
        exact s' _ _ (s1 _ _ z)
    . exact hN _ _ ⟨bs,fun b u z=>s' _ _ (s1 _ _ z),s' _ _ e1,rfl,xor sb⟩
  . rintro ys H2 ⟨bs,s,e,rfl,sb⟩
    refine⟨⟨_,Same.seqL s hs,by rw[Zc]; exact Zi _⟩,fin H2 bs (by rw[J9] at sb; exact sb) s e⟩
end
theorem xh0 {prog:Program}{w:World}{A:Around}{E:Value->Shared->Prop}{s:Shared}{it d:Addr}{i ep:Nat}{o:Obj}{es:Array DictEntry}{en:DictEntry}{ok ov:Value}{Q:Option Value->Shared->Prop}
    (st:IsItemIter s.heap it d i es.size ep ok ov) (hd:s.heap.get? d=some o) (hdat:o.data=.dict es ep) (hi:es[i]?=some en)
    (h:∀ h',IsItemIterOut h' it d (i+1) es.size ep en.key en.val s.heap.objs.size->h'.get? s.heap.objs.size=some { cls:=.type "tuple",data:=.seq #[en.key,en.val] }->h'.objs.size=s.heap.objs.size+1->(∀ b o,b≠it->s.heap.get? b=some o->h'.get? b=some o)->Q (some (.ref s.heap.objs.size)) { s with heap:=h' }):wpAny (model prog w) A (pyNext (.ref it)) Q E s:=by
  have hT:s.TypeIs (.ref it) "dict_itemiterator":=⟨_,st,rfl⟩
  unfold pyNext;refine Zb (Y0 (JB hT JQ ?_));refine Ji JQ hT F.entry_dict_itemiterator_next ?_ (F.args_dict_itemiterator_next_1 _);obtain⟨hp,g,dr,tk,os⟩:=s;have il:it<hp.objs.size:=Zs st;refine Zb <| Zg <| Zb <| Zb <| Zb <| Yo hT <| Zg <| Zb <| wpAny_fieldsOf st rfl ?_
  simp only[show Builtin.Dict_items.ownsTuple "dict_itemiterator"=true from by decide,if_true];show wpAny _ _ (if (Zk d == ZW)=true then _ else _) _ _ _;rw[if_neg (by exact Z1)];refine Zb <| Zg <| Zb <| ZH hd hdat ?_
  rw[if_neg (by simp)];refine Zb <| Zg <| Zb <| Jb hd hdat ?_
  rw[if_neg (by simp)];refine Zg ?_;have e1:(if (i:Int)<0 then none else es[(i:Int).toNat]?)=some en:=by
    rw[if_neg (by omega),Ye];exact hi
  simp only[e1];refine Zb <| Zb <| Yo hT <| Zg <| Zb <| Yv hT ?_
  show wpAny _ _ (setField (.ref it) 3 (rawInt ((i:Int)+1))>>=_) _ _ _;refine Zb <| YR st (by simp) fun h1 he1 hs1=>?_
  have hs1:ZX it hp h1:=hs1;have T1:Shared.TypeIs ⟨h1,g,dr,tk,os⟩ (.ref it) "dict_itemiterator":=⟨_,he1,rfl⟩
  refine Zb <| Jk <| Zb <| Yv T1 <| Zb <| Yv T1 ?_
  show wpAny _ _ (Builtin.Dict_items.pairFromOwner (.ref it) 6 en.key en.val) _ _ _;unfold Builtin.Dict_items.pairFromOwner;refine Zb <| wpAny_newTuple ?_
  have he2:=Ze { cls:=.type "tuple",data:=.seq #[en.key,en.val] } he1;have ht2:(h1.push { cls:=.type "tuple",data:=.seq #[en.key,en.val] }).get? hp.objs.size=some { cls:=.type "tuple",data:=.seq #[en.key,en.val] }:=by
    rw[<- hs1.1];exact Zo _ rfl
  have hz2:(h1.push { cls:=.type "tuple",data:=.seq #[en.key,en.val] }).objs.size=hp.objs.size+1:=by rw[Ym,hs1.1]
  have hk2:∀ b ob,b≠it->hp.get? b=some ob->(h1.push { cls:=.type "tuple",data:=.seq #[en.key,en.val] }).get? b=some ob:=fun b ob nb e=>Ze _ (hs1.extBut b ob nb e);have z1:h1.objs.size=hp.objs.size:=hs1.1;show wpAny _ _ (Builtin.Dict_items.ownedTupleIsFree (.ref it)>>=_) _ _ ⟨h1.push { cls:=.type "tuple",data:=.seq #[en.key,en.val] },g,dr,tk,os⟩;rw[z1];revert he2 ht2 hz2 hk2;generalize h1.push { cls:=.type "tuple",data:=.seq #[en.key,en.val] }=h2;intro he2 ht2 hz2 hk2;clear hs1 T1 he1 z1;unfold Builtin.Dict_items.ownedTupleIsFree;refine Zb <| Zb <| Ya he2 rfl (x:=.none) rfl <| Zg ?_
  simp only[if_true];refine Zb <| Ya he2 rfl (x:=ok) rfl <| Zb <| Ya he2 rfl (x:=ov) rfl ?_
  refine Zb <| YR he2 (by simp) fun h3 he3 hs3=>?_
  refine Zb <| YR he3 (by simp) fun h4 he4 hs4=>?_
  refine Zb <| YR he4 (by simp) fun h5 he5 hs5=>?_
  refine Zb <| YR he5 (by simp) fun h6 he6 hs6=>?_
  have n1:=YD il;refine Zb <| wpAny_letGo <| Zg <| Zg ⟨_,rfl,Zg (h h6 he6 ?_ ?_ fun b ob nb e=>?_)⟩
  . exact hs6.extBut _ _ n1 (hs5.extBut _ _ n1 (hs4.extBut _ _ n1 (hs3.extBut _ _ n1 ht2)))
  . exact hs6.1.trans (hs5.1.trans (hs4.1.trans (hs3.1.trans hz2)))
  . exact hs6.extBut b ob nb (hs5.extBut b ob nb (hs4.extBut b ob nb (hs3.extBut b ob nb (hk2 b ob nb e))))
theorem xjg {prog:Program}{w:World}{A:Around}{E:Value->Shared->Prop}{s:Shared}{it d:Addr}{ep:Nat}{o:Obj}{es:Array DictEntry}{ok ov:Value}{Q:Option Value->Shared->Prop}
    (hA:A.handled=none) (st:IsItemIter s.heap it d es.size es.size ep ok ov) (hd:s.heap.get? d=some o) (hdat:o.data=.dict es ep)
    (h:∀ h',Heap.ExtBut it s.heap h'->Q none { s with heap:=h' }):wpAny (model prog w) A (pyNext (.ref it)) Q E s:=by
  have hT:s.TypeIs (.ref it) "dict_itemiterator":=⟨_,st,rfl⟩
  unfold pyNext;refine Zb (Y0 (JB hT JQ ?_));refine Ji JQ hT F.entry_dict_itemiterator_next ?_ (F.args_dict_itemiterator_next_1 _);obtain⟨hp,g,dr,tk,os⟩:=s;have st':=st;unfold IsItemIter at st';unfold Builtin.«dict_itemiterator.__next__»
  repeat (any_goals (first|assumption|(with_reducible refine Yo hT ?_)|(with_reducible refine Yv hT ?_)|(with_reducible refine ZH hd hdat ?_)|(with_reducible refine Jb hd hdat ?_)|wp_step))
  have e1:(if (es.size:Int)<0 then none else es[(es.size:Int).toNat]?)=none:=by
    rw[if_neg (by omega),Ye];simp
  rw[e1]
  repeat (any_goals (first|assumption|(with_reducible refine Yo hT ?_)|(with_reducible refine Yv hT ?_)|(with_reducible refine ZH hd hdat ?_)|(with_reducible refine Jb hd hdat ?_)|wp_step))
  refine Qv hA ?_;refine Zb (Qi ⟨_,Zo _ rfl,rfl⟩ isSubtype_stop (Zg (h _ fun b o nb e=>?_)));refine Ze _ (Ze _ ?_);rw[ZY _ _ (Zw nb)];exact e
theorem xmd {prog:Program}{w:World}{A:Around}{E:Value->Shared->Prop}{s:Shared}{v d:Addr}{ep:Nat}{o:Obj}{es:Array DictEntry}{Q:Value->Shared->Prop}
    (hv:s.heap.get? v=some { cls:=.type "dict_items",data:=.fields #[.ref d] }) (hd:s.heap.get? d=some o) (hdat:o.data=.dict es ep)
    (h:Q (.ref s.heap.objs.size) { s with heap:=s.heap.push { cls:=.type "dict_itemiterator",data:=.fields #[.none,.bool false,.ref d,.int 0 0,.int es.size 0,.int ep 0,.none,.none] } }):wpAny (model prog w) A (pyIter (.ref v)) Q E s:=by
  have ti:s.TypeIs (.ref v) "dict_items":=⟨_,hv,rfl⟩
  refine wpAny_pyIter_slot ti F.slot_dict_items_iter ?_;refine Ji F.slot_dict_items_iter ti F.entry_dict_items_iter ?_ (F.args_dict_items_iter_1 _);obtain⟨hp,g,dr,tk,os⟩:=s;unfold Builtin.«dict_items.__iter__»
  repeat (any_goals (first|assumption|(with_reducible refine ZH hd hdat ?_)|(with_reducible refine Jb hd hdat ?_)|wp_step))
  exact⟨_,rfl,_,_,⟨_,Zo _ rfl,rfl⟩,JQ.lookup,h⟩
theorem xi0 {prog:Program}{w:World} (d:Addr) (hd:(d == sysModules)=false) :
    MeetsIn prog w (Builtin.«dict.items» ⟨[.ref d],[]⟩) (fun _ R s=>s.TypeIs (.ref d) "dict" /\
      R (.ok (.ret (.ref s.heap.objs.size))) { s with heap:=s.heap.push { cls:=.type "dict_items",data:=.fields #[.ref d] } }) :=
  .of_wp fun A R s ⟨ti,h⟩=>by
    unfold Builtin.«dict.items» Builtin.Dict.noArgs Builtin.Dict.showsAll;refine Zb <| Zb <| JI ti ?_
    show wpAny _ _ (pure d) _ _ s;refine Zg ?_;rw[if_neg (by rw[hd]; exact Z1)];exact Zb <| Zg <| Zb <| JR <| Zg ⟨_,rfl,h⟩
theorem xi4 {H:Hp}:∀{kvs:List (List Key × V)}{xs:List (List Key × Addr × Value)}{i:Nat}{k:List Key}{x:V},KT H kvs xs->kvs[i]?=some (k,x)->∃ q u,xs[i]?=some (k,q,u)/\H q=some (.tup (k.map kV))/\RelV x u
 | _,_,_,_,_,.nil,e=>by simp at e
 | _,(k',q,u)::_,0,k,x,.cons r _,e=>by
  simp at e;subst e;obtain⟨r1,r2,r3⟩:=r
  dsimp only at r1 r2 r3
  subst r1;exact⟨q,u,rfl,r2,r3⟩
 | _,_,i+1,k,x,.cons _ t,e=>by
  obtain⟨q,u,h1,h2,h3⟩:=xi4 (i:=i) (k:=k) (x:=x) t (by simpa using e);exact⟨q,u,by simpa using h1,h2,h3⟩
section
variable {X:Cx}{pins:List (Addr × Obj)}{Z:St}{H:Hp}{s:Shared}
theorem xfi {d:Addr}{o:Obj}{kvs:List (List Key × V)}{es:Array DictEntry}{ep:Nat} (I:Inv X pins Z H s) (e:H d=some (.frz o (.dT kvs))) (hdat:o.data=.dict es ep) :
    s.heap.get? d=some o/\o.ExactDict/\es.size=kvs.length/\∀(i:Nat) k x,kvs[i]?=some (k,x)->∃ q en,es[i]?=some en/\en.key=.ref q/\H q=some (.tup (k.map kV))/\RelV x en.val:=by
  obtain⟨g,_,_,xs,rel,o',es',ep',g',ex,hdat',hes,hn⟩:=I.hok d _ e;rw[g] at g';cases g';rw[hdat] at hdat';cases hdat';refine⟨g,ex,?_,fun i k x hx=>?_⟩
  . rw[<- Jm,hes,Zc]
    exact (Yg rel).symm
  . obtain⟨q,u,h1,h2,h3⟩:=xi4 rel hx
    exact⟨q,_,by rw[<- Jo,hes,Zf,h1]; rfl,rfl,h2,h3⟩
theorem Inv.nofrzT {d:Addr}{kvs:List (List Key × V)} (I:Inv X pins Z H s) (e:H d=some (.dT kvs)):∀ o' u',X.H₀ d≠some (.frz o' u'):=fun o' u' z=>by
 have q:=I.base.frzs d o' u' z;rw[e] at q;cases q
end
def Itkt (d:Addr) (o:Obj) (kvs:List (List Key × V)):It :=
 ⟨fun i H=>H d=some (.frz o (.dT kvs))/\i<kvs.length,fun i H v H'=>H'=H/\∃ k x q,kvs[i]?=some (k,x)/\v=.ref q/\H q=some (.tup (k.map kV)),fun i H=>H d=some (.frz o (.dT kvs))/\i=kvs.length⟩
def Itit (d:Addr) (o:Obj) (kvs:List (List Key × V)):It :=
 ⟨fun i H=>H d=some (.frz o (.dT kvs))/\i<kvs.length,fun i H v H'=>∃ p k x q,kvs[i]?=some (k,x)/\H q=some (.tup (k.map kV))/\v=.ref p/\H p=none/\H'=upd H p (.tup [.ref q,x]),fun i H=>H d=some (.frz o (.dT kvs))/\i=kvs.length⟩
theorem xle {P:Program}{w:World}{K:Zd}{tg:Expr} (d it:Addr) (o:Obj) (kvs:List (List Key × V)) (es:Array DictEntry) (ep:Nat) (hdat:o.data=.dict es ep) :
    Turn P w K tg (Itkt d o kvs) [it] it (fun i h=>h.IsKeyIter it d i es.size ep) where
  mem:=by simp
  obj:=fun i h st b hb=>by
    have e:b=it:=by simpa using hb
    subst e;obtain⟨o1,e1,c1,d1⟩:=st;exact⟨_,e1,fun v k=>by rw[d1] at k; cases k⟩
  keep:=fun i h h' ⟨o1,e1,r⟩ k=>⟨o1,k it (by simp) _ e1,r⟩
  item:=by
    intro X hP hw hK hc i pins s Z H E I hf st hg;subst hP hw hK;obtain⟨e,lt⟩:=hg;obtain⟨g,ex,sz,f⟩:=xfi I e hdat;obtain⟨f0,f1,f2,f3,f4,f5⟩:=hf it (by simp);obtain⟨⟨k,x⟩,q⟩:∃ y,kvs[i]=y:=⟨_,rfl⟩
    have hx:kvs[i]?=some (k,x):=by rw[Za lt,q]
    obtain⟨qa,en,he,hk,hq,hr⟩:=f i k x hx;refine xfa st g ex hdat he fun h' hit' hs=>?_;obtain⟨o2,g2,c2,d2⟩:=id hit';refine⟨_,rfl,xh9 (s:={ s with heap:=h' }) g2 c2 d2 (by decide) ?_⟩;have I1:Inv X pins Z H { s with heap:=h' }:=I.turned (t':=s.toks) (fun b o hb g=>(hs.2 b hb).trans g) f0 f1 f3 f4 f5;exact⟨.ref qa,H,I1,by rw[hk]; rfl,⟨rfl,k,x,qa,hx,rfl,hq⟩,hit',fun b hb=>(hf b hb).1⟩
  done:=by
    intro X hP hw hK hc i pins s Z H E I hf st hg;subst hP hw hK;obtain⟨e,rfl⟩:=hg;obtain⟨g,ex,sz,f⟩:=xfi I e hdat;obtain⟨f0,f1,f2,f3,f4,f5⟩:=hf it (by simp);rw[<- sz] at st;exact xfo (I.ok.hd hc) st g ex hdat fun h' eb=>⟨rfl,I.turned (t':=s.toks) (fun b o hb e=>eb b o hb e) f0 f1 f3 f4 f5⟩
  self:=fun A i s Q E st h=>wpAny_pyIter_keyiter st h
theorem xj0 {P:Program}{w:World}{K:Zd}{elts:List Expr}{x1}{tpos:Pos} (d it:Addr) (o:Obj) (kvs:List (List Key × V)) (es:Array DictEntry) (ep:Nat) (hdat:o.data=.dict es ep) :
    Turn P w K (.Tuple elts x1 tpos) (Itit d o kvs) [it] it (fun i h=>∃ ok ov,IsItemIter h it d i es.size ep ok ov) where
  mem:=by simp
  obj:=fun i h st b hb=>by
    have e:b=it:=by simpa using hb
    subst e;obtain⟨ok,ov,st⟩:=st;exact⟨_,st,fun v z=>by
      have z':Data.fields _=Data.cell v:=z;cases z'⟩
  keep:=fun i h h' ⟨ok,ov,st⟩ k=>⟨ok,ov,k it (by simp) _ st⟩
  item:=by
    intro X hP hw hK hc i pins s Z H E I hf st hg;subst hP hw hK;obtain⟨ok,ov,st⟩:=st;obtain⟨e,lt⟩:=hg;obtain⟨g,ex,sz,f⟩:=xfi I e hdat;obtain⟨f0,f1,f2,f3,f4,f5⟩:=hf it (by simp);obtain⟨⟨k,x⟩,q⟩:∃ y,kvs[i]=y:=⟨_,rfl⟩
    have hx:kvs[i]?=some (k,x):=by rw[Za lt,q]
    obtain⟨qa,en,he,hk,hq,hr⟩:=f i k x hx;refine xh0 st g hdat he fun h' hout ht hz hkp=>?_;refine⟨_,rfl,wpAny_letOwnedTupleGo_items hout fun h'' hit' hsb=>?_⟩;have kk:∀ b o,b≠it->s.heap.get? b=some o->h''.get? b=some o:=fun b o hb g=>(hsb.2 b hb).trans (hkp b o hb g);have I1:Inv X pins Z H { s with heap:=h'' }:=I.turned (t':=s.toks) kk f0 f1 f3 f4 f5;obtain⟨n0,nL,nC,nP⟩:=I.size_lt (Zi s.heap.objs.size);have itlt:it<s.heap.objs.size:=Zs st;have pne:s.heap.objs.size≠it:=YD itlt;have hp:h''.get? s.heap.objs.size=some { cls:=.type "tuple",data:=.seq #[en.key,en.val] }:=(hsb.2 _ pne).trans ht;refine⟨.ref s.heap.objs.size,upd H s.heap.objs.size (.tup [.ref qa,x]),I1.adopt n0 I.sz nL nC nP ⟨by show 2<=sizeLine; decide,[en.key,en.val],.cons (by rw[hk]; rfl) (.cons hr .nil),_,hp,rfl,_,rfl⟩,rfl,⟨_,k,x,qa,hx,hq,rfl,n0,rfl⟩,⟨_,_,hit'⟩,fun b hb=>?_⟩;have e:b=it:=by simpa using hb
    subst e;rw[xh (Zw pne)];exact f0
  done:=by
    intro X hP hw hK hc i pins s Z H E I hf st hg;subst hP hw hK;obtain⟨ok,ov,st⟩:=st;obtain⟨e,rfl⟩:=hg;obtain⟨g,ex,sz,f⟩:=xfi I e hdat;obtain⟨f0,f1,f2,f3,f4,f5⟩:=hf it (by simp);rw[<- sz] at st;exact xjg (I.ok.hd hc) st g hdat fun h' eb=>⟨rfl,I.turned (t':=s.toks) (fun b o hb e=>eb b o hb e) f0 f1 f3 f4 f5⟩
  self:=fun _ _ _ _ _ ⟨ok,ov,st⟩ h=>PySem.W.kcp_self st h
def xrq (X:Cx) (to:TE):TI:=fun Z H R=>to Z H fun x H1=>∃ d kvs,x=.ref d/\H1 d=some (.dT kvs)/\∀ ob,(∀ o' u',X.H₀ d≠some (.frz o' u'))->R (Itkt d ob kvs) (upd H1 d (.frz ob (.dT kvs)))
def xp7 (X:Cx) (to:TE):TI:=fun Z H R=>to Z H fun x H1=>∃ d kvs,x=.ref d/\H1 d=some (.dT kvs)/\∀ ob,(∀ o' u',X.H₀ d≠some (.frz o' u'))->R (Itit d ob kvs) (upd H1 d (.frz ob (.dT kvs)))
section
variable {X:Cx}{o:Expr}{to:TE}{tg:Expr}{elts:List Expr}{x1:_}{tpos apos cpos:Pos}
theorem xju (ho:PE X o to):PI X tg o (xrq X to):=by
 intro pins s Z H R I h;refine thn (ho pins s Z H _ I h) fun v s1 ⟨x,H1,I1,r1,q1⟩=>?_;obtain⟨d,kvs,e1,e,q⟩:=q1;subst e1;cases r1;obtain⟨z,hd,xs,rel,ob,es,ep,g,ex,hdat,hes,hn⟩:=I1.hok d _ e;refine xif hd g ex hdat ?_;have I3:Inv X pins Z (upd H1 d (.frz ob (.dT kvs))) s1:=I1.write (t':=s1.toks) (x:=d) (e:=d) (by rw[e]; exact Jg) (.inl rfl) (fun b u _ q=>q) ⟨ob,g⟩ ⟨g,(I1.hok d _ e).stay (fun c v _ q=>q) (fun c q=>by rw[xh (xp q e (fun z=>nomatch z))]; exact q) fun c xs q=>by rw[xh (xp q e (fun z=>nomatch z))]; exact q⟩;have I4:Inv X pins Z (upd H1 d (.frz ob (.dT kvs))) { s1 with heap:=s1.heap.push { cls:=.type "dict_keyiterator",data:=.fields #[.ref d,.int 0 0,.int es.size 0,.int ep 0] } } :=
  I3.kept (t':=s1.toks) fun b o e=>Ze _ e
 refine⟨s1.heap.objs.size,[s1.heap.objs.size],_,_,upd H1 d (.frz ob (.dT kvs)),rfl,I4,xle d _ ob kvs es ep hdat,⟨_,Zo _ rfl,rfl,rfl⟩,fun b hb=>?_,q ob (I1.nofrzT e)⟩;have eb:b=s1.heap.objs.size:=by simpa using hb
 subst eb;exact I3.fpOk (Zi _) (I3.hok.fresh (Zi _))
theorem xl1 (ho:PE X o to) (hbase:attributeBase o "items" X.env (eval o X.env)=eval o X.env:=by rfl) (hline:(apos.endLine == cpos.line)=true:=by rfl) :
    PI X (.Tuple elts x1 tpos) (.Call (.Attribute o "items" apos) [] [] cpos) (xp7 X to):=by
  intro pins s Z H R I h;refine JS hbase hline (thn (ho pins s Z H _ I h) fun v s1 ⟨x,H1,I1,r1,q1⟩=>?_);obtain⟨d,kvs,e1,e,q⟩:=q1;subst e1;cases r1;obtain⟨z,hd,xs,rel,ob,es,ep,g,ex,hdat,hes,hn⟩:=I1.hok d _ e;have ti:s1.TypeIs (.ref d) "dict":=⟨ob,g,ex.1⟩
  refine⟨"dict", "dict.items",Jr,YV,PySem.F.type_dict_items,ti,fun a e2=>?_,ZZ rfl (JV ?_)⟩
  . cases e2
    exact⟨ob,g,ex.2.1⟩
  refine JO YV ti PySem.F.entry_dict_items (PySem.F.args_dict_items_1 _) (xi0 d hd) ⟨ti,?_⟩;refine xmd (s:={ s1 with heap:=s1.heap.push { cls:=.type "dict_items",data:=.fields #[.ref d] } }) (Zo _ rfl) (Ze _ g) hdat ?_;have I2:Inv X pins Z H1 { s1 with heap:=s1.heap.push { cls:=.type "dict_items",data:=.fields #[.ref d] } }:=I1.kept (t':=s1.toks) fun b o e=>Ze _ e;generalize hs2:({ s1 with heap:=s1.heap.push { cls:=.type "dict_items",data:=.fields #[.ref d] } }:Shared)=s2 at I2;have g2:s2.heap.get? d=some ob:=by rw[<- hs2]; exact Ze _ g
  have I3:Inv X pins Z (upd H1 d (.frz ob (.dT kvs))) s2:=I2.write (t':=s2.toks) (x:=d) (e:=d) (by rw[e]; exact Jg) (.inl rfl) (fun b u _ q=>q) ⟨ob,g2⟩ ⟨g2,(I2.hok d _ e).stay (fun c v _ q=>q) (fun c q=>by rw[xh (xp q e (fun z=>nomatch z))]; exact q) fun c xs q=>by rw[xh (xp q e (fun z=>nomatch z))]; exact q⟩;have I4:Inv X pins Z (upd H1 d (.frz ob (.dT kvs))) { s2 with heap:=s2.heap.push { cls:=.type "dict_itemiterator",data:=.fields #[.none,.bool false,.ref d,.int 0 0,.int es.size 0,.int ep 0,.none,.none] } } :=
    I3.kept (t':=s2.toks) fun b o e=>Ze _ e
  have fin:PIE X pins Z (.Tuple elts x1 tpos) R (.ref s2.heap.objs.size) { s2 with heap:=s2.heap.push { cls:=.type "dict_itemiterator",data:=.fields #[.none,.bool false,.ref d,.int 0 0,.int es.size 0,.int ep 0,.none,.none] } }:=by
    refine⟨s2.heap.objs.size,[s2.heap.objs.size],_,_,upd H1 d (.frz ob (.dT kvs)),rfl,I4,xj0 d _ ob kvs es ep hdat,⟨.none,.none,Zo _ rfl⟩,fun b hb=>?_,q ob (I1.nofrzT e)⟩;have eb:b=s2.heap.objs.size:=by simpa using hb
    subst eb;exact I3.fpOk (Zi _) (I3.hok.fresh (Zi _))
  exact fin
def xtf (X:Cx) (t:TS):TS:=fun D Z H=>t { D with nx:=fun σ' H'=>∃ d ob u,H' d=some (.frz ob u)/\(∀ o' u',X.H₀ d≠some (.frz o' u'))/\D.nx σ' (upd H' d u) } Z H
theorem xkf {st:Stmt}{t:TS} (h:PS X st t):PS X st (xtf X t):=by
 intro pins s Z H D I q;refine thn (h pins s Z H _ I q) fun fl s1 z=>?_;cases fl with
 | next =>
  obtain⟨σ',H',I',d,ob,u,e,nf,r⟩:=z;exact⟨σ',_,I'.thaw e nf,r⟩
 | _=>exact z
end
section
variable {d:Addr}{ob:Obj}{kvs:List (List Key × V)}{g:TG}{tb:TS}{D:Ends}{Z:St}{H:Hp}
theorem xnd (Pv:Nat->St->Hp->Prop) (h0:Pv 0 Z H) (hl:∀ i Z H,i<=kvs.length->Pv i Z H->H d=some (.frz ob (.dT kvs)))
    (hs:∀ i k x q Z H,kvs[i]?=some (k,x)->H q=some (.tup (k.map kV))->Pv i Z H->g (.ref q) Z H fun σ2 H2=>tb { D with nx:=Pv (i+1),ct:=Pv (i+1),bk:=D.nx } σ2 H2) (hd:∀ Z H,Pv kvs.length Z H->D.nx Z H) :
    ∃ W:Nat->Nat->St->Hp->Prop,(∃ m,W 0 m Z H)/\∀ i m Z H,W i m Z H ->
      ((Itkt d ob kvs).stop i H/\D.nx Z H)\/((Itkt d ob kvs).go i H/\∃ N:St->Hp->Prop,(∀ σ' H',N σ' H'->∃ m',m'<m/\W (i+1) m' σ' H')/\∀ x H',(Itkt d ob kvs).yld i H x H'->g x Z H' fun σ2 H2=>tb { D with nx:=N,ct:=N,bk:=D.nx } σ2 H2):=by
  refine⟨fun i m Z H=>m=kvs.length-i/\i<=kvs.length/\Pv i Z H,⟨kvs.length,by simp,Ja _,h0⟩,?_⟩;rintro i m Z H ⟨rfl,hi,p⟩;have q:=hl i Z H hi p;by_cases hlt:i<kvs.length
  . refine .inr ⟨⟨q,hlt⟩,Pv (i+1),fun σ' H' p'=>⟨kvs.length-(i+1),by omega,rfl,hlt,p'⟩,fun x H' y=>?_⟩
    obtain⟨rfl,k,x',qa,e1,rfl,hr⟩:=y;exact hs i k x' qa Z H' e1 hr p
  . have e:i=kvs.length:=by omega
    subst e;exact .inl ⟨⟨q,rfl⟩,hd Z H p⟩
theorem xlw (Pv:Nat->St->Hp->Prop) (h0:Pv 0 Z H) (hl:∀ i Z H,i<=kvs.length->Pv i Z H->H d=some (.frz ob (.dT kvs)))
    (hs:∀ i k x q p Z H,kvs[i]?=some (k,x)->H q=some (.tup (k.map kV))->H p=none->Pv i Z H->g (.ref p) Z (upd H p (.tup [.ref q,x])) fun σ2 H2=>tb { D with nx:=Pv (i+1),ct:=Pv (i+1),bk:=D.nx } σ2 H2) (hd:∀ Z H,Pv kvs.length Z H->D.nx Z H) :
    ∃ W:Nat->Nat->St->Hp->Prop,(∃ m,W 0 m Z H)/\∀ i m Z H,W i m Z H ->
      ((Itit d ob kvs).stop i H/\D.nx Z H)\/((Itit d ob kvs).go i H/\∃ N:St->Hp->Prop,(∀ σ' H',N σ' H'->∃ m',m'<m/\W (i+1) m' σ' H')/\∀ x H',(Itit d ob kvs).yld i H x H'->g x Z H' fun σ2 H2=>tb { D with nx:=N,ct:=N,bk:=D.nx } σ2 H2):=by
  refine⟨fun i m Z H=>m=kvs.length-i/\i<=kvs.length/\Pv i Z H,⟨kvs.length,by simp,Ja _,h0⟩,?_⟩;rintro i m Z H ⟨rfl,hi,p⟩;have q:=hl i Z H hi p;by_cases hlt:i<kvs.length
  . refine .inr ⟨⟨q,hlt⟩,Pv (i+1),fun σ' H' p'=>⟨kvs.length-(i+1),by omega,rfl,hlt,p'⟩,fun x H' y=>?_⟩
    obtain⟨pa,k,x',qa,e1,hr,rfl,hn,rfl⟩:=y;exact hs i k x' qa pa Z H e1 hr hn p
  . have e:i=kvs.length:=by omega
    subst e;exact .inl ⟨⟨q,rfl⟩,hd Z H p⟩
end
def xr8 (to:TE):TE:=fun Z H Q=>to Z H fun x H1=>∃ d kvs,x=.ref d/\H1 d=some (.dK kvs)/\∀ l,H1 l=none->Q (.ref l) (upd H1 l (.lst (kvs.map (·.2))))
section
variable {X:Cx}{o:Expr}{to:TE}{apos cpos p pos:Pos}
theorem xjy (hc:X.calm=true) (hg:Gl X "list") (hm:X.mg "list"=none) (ho:PE X o to) (hbase:attributeBase o "values" X.env (eval o X.env)=eval o X.env:=by rfl) (hline:(apos.endLine == cpos.line)=true:=by rfl)
    (hs3:starEach [.Call (.Attribute o "values" apos) [] [] cpos] X.env=[(false,eval (.Call (.Attribute o "values" apos) [] [] cpos) X.env)]:=by rfl) :
    PE X (.Call (.Name "list" p) [.Call (.Attribute o "values" apos) [] [] cpos] [] pos) (xr8 to):=by
  intro pins s Z H Q I h;refine J8 (xcd I hg hm PyProof.Rows.Boot.«list» ?_);refine Jf ?_ (by rw[hs3]; rfl) rfl;rw[hs3];show wpAny _ _ (spliced ((false,eval (.Call (.Attribute o "values" apos) [] [] cpos) X.env)::backTo pos [])) _ _ s;refine Yu ?_;refine JS hbase hline (thn (ho pins s Z H _ I h) fun v s1 ⟨x,H1,I1,r1,q1⟩=>?_);obtain⟨d,kvs,e1,e,q⟩:=q1;subst e1;cases r1;obtain⟨z,hd,vs,rel,dd⟩:=xd5 I1.hok e;obtain⟨ob,es,ep,g,ex,hdat,hk,hp,hn⟩:=id dd;refine⟨"dict", "dict.values",Jr,YM,PySem.F.type_dict_values,dd.typeIs,fun a e2=>?_,ZZ rfl (JV ?_)⟩
  . cases e2
    exact⟨ob,g,ex.2.1⟩
  refine JO YM dd.typeIs PySem.F.entry_dict_values (PySem.F.args_dict_values_1 _) (meets_dict_values (xai X.prog X.w) d hd) ⟨⟨vs,dd⟩,?_⟩;refine Y6 ?_;have da:(s1.heap.push { cls:=.type "dict_values",data:=.fields #[.ref d] }).DictAt (xai X.prog X.w) d vs ep:=⟨ob,es,Ze _ g,ex,hdat,hk,hp,hn⟩
  have vv:(s1.heap.push { cls:=.type "dict_values",data:=.fields #[.ref d] }).IsValuesView s1.heap.objs.size d:=⟨_,Zo _ rfl,rfl,rfl⟩
  have I2:Inv X pins Z H1 { s1 with heap:=s1.heap.push { cls:=.type "dict_values",data:=.fields #[.ref d] } }:=I1.kept (t':=s1.toks) fun b o e=>Ze _ e;generalize hs2:({ s1 with heap:=s1.heap.push { cls:=.type "dict_values",data:=.fields #[.ref d] } }:Shared)=s2 at I2;have da2:s2.heap.DictAt (xai X.prog X.w) d vs ep:=by rw[<- hs2]; exact da
  have vv2:s2.heap.IsValuesView s1.heap.objs.size d:=by rw[<- hs2]; exact vv
  have hl:kvs.length=vs.length:=rel.length;refine kdl_call (kdl_values (kvs:=vs) (ep:=ep)) (I.ok.hd hc) ⟨vv2,da2⟩ (by rw[<- hl]; exact z) fun h' tk acc c hk' hS' hacc=>?_;have I3:Inv X pins Z H1 { s2 with heap:=h',toks:=tk }:=I2.kept hk';obtain⟨n0,nL,nC,nP⟩:=I2.size_lt (Zi s2.heap.objs.size);have e1:acc.toList.length=(kvs.map (·.2)).length:=by rw[Zc,hl]; simpa using hacc.1
  refine⟨.ref s2.heap.objs.size,_,I3.adopt n0 I2.sz nL nC nP (show xap X.prog X.w _ h' _ (.lst (kvs.map (·.2))) from ⟨by rw[Zc]; exact z,acc.toList,c,xfl e1 fun j y u ey eu=>?_,by simpa using hS'⟩),rfl,q _ n0⟩;have eu':acc[j]?=some u:=by simpa using eu
  obtain⟨k,hv⟩:=hacc.2 j u eu';rw[Zf,Zj] at ey;obtain⟨⟨k',y'⟩,ey,rfl⟩:=ey;obtain⟨u',hu',ru'⟩:=rel.get ey;rw[hv] at hu';cases hu';exact ru'
end
theorem xiu {prog:Program}{w:World}{A:Around}{E:Value->Shared->Prop}{s:Shared}{it d:Addr}{i ep:Nat}{o:Obj}{es:Array DictEntry}{en:DictEntry}{Q:Option Value->Shared->Prop}
    (st:s.heap.IsValIter it d i es.size ep) (hd:s.heap.get? d=some o) (hdat:o.data=.dict es ep) (hi:es[i]?=some en)
    (h:∀ h',h'.IsValIter it d (i+1) es.size ep->ZX it s.heap h'->Q (some en.val) { s with heap:=h' }):wpAny (model prog w) A (pyNext (.ref it)) Q E s:=by
  unfold pyNext;refine Zb (Y0 (JB st.typeIs JN ?_));refine Ji JN st.typeIs F.entry_dict_valueiterator_next ?_ (F.args_dict_valueiterator_next_1 _);have ti:=st.typeIs;obtain⟨hp,g,dr,tk,os⟩:=s;obtain⟨⟨c,dct,dat,sl⟩,hit,ci,di⟩:=st;simp only at ci di;subst ci di;unfold Builtin.«dict_valueiterator.__next__»
  repeat (any_goals (first|assumption|(with_reducible refine Yp ti ?_)|(with_reducible refine Qe ti ?_)|(with_reducible refine ZH hd hdat ?_)|(with_reducible refine Jb hd hdat ?_)|wp_step))
  have e1:(if (i:Int)<0 then none else es[(i:Int).toNat]?)=some en:=by
    rw[if_neg (by omega),Ye];exact hi
  rw[e1]
  repeat (any_goals (first|assumption|(with_reducible refine Yp ti ?_)|(with_reducible refine Qe ti ?_)|(with_reducible refine ZH hd hdat ?_)|(with_reducible refine Jb hd hdat ?_)|wp_step))
  refine⟨_,rfl,Zg (h _ ?_ (ZX.update _ _ _))⟩;refine⟨_,ZO _ hit rfl,rfl,?_⟩;rfl
theorem xjz {prog:Program}{w:World}{A:Around}{E:Value->Shared->Prop}{s:Shared}{it d:Addr}{ep:Nat}{o:Obj}{es:Array DictEntry}{Q:Option Value->Shared->Prop}
    (hA:A.handled=none) (st:s.heap.IsValIter it d es.size es.size ep) (hd:s.heap.get? d=some o) (hdat:o.data=.dict es ep)
    (h:∀ h',Heap.ExtBut it s.heap h'->Q none { s with heap:=h' }):wpAny (model prog w) A (pyNext (.ref it)) Q E s:=by
  unfold pyNext;refine Zb (Y0 (JB st.typeIs JN ?_));refine Ji JN st.typeIs F.entry_dict_valueiterator_next ?_ (F.args_dict_valueiterator_next_1 _);have ti:=st.typeIs;obtain⟨hp,g,dr,tk,os⟩:=s;obtain⟨⟨c,dct,dat,sl⟩,hit,ci,di⟩:=st;simp only at ci di;subst ci di;unfold Builtin.«dict_valueiterator.__next__»
  repeat (any_goals (first|assumption|(with_reducible refine Yp ti ?_)|(with_reducible refine Qe ti ?_)|(with_reducible refine ZH hd hdat ?_)|(with_reducible refine Jb hd hdat ?_)|wp_step))
  have e1:(if (es.size:Int)<0 then none else es[(es.size:Int).toNat]?)=none:=by
    rw[if_neg (by omega),Ye];simp
  rw[e1]
  repeat (any_goals (first|assumption|(with_reducible refine Yp ti ?_)|(with_reducible refine Qe ti ?_)|(with_reducible refine ZH hd hdat ?_)|(with_reducible refine Jb hd hdat ?_)|wp_step))
  refine Qv hA ?_;refine Zb (Qi ⟨_,Zo _ rfl,rfl⟩ isSubtype_stop (Zg (h _ fun b o nb e=>?_)));refine Ze _ (Ze _ ?_);rw[ZY _ _ (Zw nb)];exact e
theorem xn8 {prog:Program}{w:World}{A:Around}{E:Value->Shared->Prop}{s:Shared}{v d:Addr}{ep:Nat}{o:Obj}{es:Array DictEntry}{Q:Value->Shared->Prop}
    (hv:s.heap.get? v=some { cls:=.type "dict_values",data:=.fields #[.ref d] }) (hd:s.heap.get? d=some o) (hdat:o.data=.dict es ep)
    (h:Q (.ref s.heap.objs.size) { s with heap:=s.heap.push { cls:=.type "dict_valueiterator",data:=.fields #[.ref d,.int 0 0,.int es.size 0,.int ep 0] } }):wpAny (model prog w) A (pyIter (.ref v)) Q E s:=by
  have ti:s.TypeIs (.ref v) "dict_values":=⟨_,hv,rfl⟩
  refine wpAny_pyIter_slot ti F.slot_dict_values_iter ?_;refine Ji F.slot_dict_values_iter ti F.entry_dict_values_iter ?_ (F.args_dict_values_iter_1 _);obtain⟨hp,g,dr,tk,os⟩:=s;unfold Builtin.«dict_values.__iter__»
  repeat (any_goals (first|assumption|(with_reducible refine ZH hd hdat ?_)|(with_reducible refine Jb hd hdat ?_)|wp_step))
  exact⟨_,rfl,_,_,⟨_,Zo _ rfl,rfl⟩,JN.lookup,h⟩
theorem xh5 {prog:Program}{w:World} (d:Addr) (hd:(d == sysModules)=false) :
    MeetsIn prog w (Builtin.«dict.values» ⟨[.ref d],[]⟩) (fun _ R s=>s.TypeIs (.ref d) "dict" /\
      R (.ok (.ret (.ref s.heap.objs.size))) { s with heap:=s.heap.push { cls:=.type "dict_values",data:=.fields #[.ref d] } }) :=
  .of_wp fun A R s ⟨ti,h⟩=>by
    refine Zb ?_;unfold Builtin.Dict.noArgs;refine Zb <| JI ti ?_
    show wpAny _ _ (pure d) _ _ s;refine Zg ?_;show wpAny _ _ (Builtin.Dict.showsAll d>>=_) _ _ s;unfold Builtin.Dict.showsAll;rw[if_neg (by rw[hd]; exact Z1)];exact Zb <| Zg <| Zb <| JR <| Zg ⟨_,rfl,h⟩
theorem xoe {prog:Program}{w:World}{r d:Addr}{ep:Nat}{o:Obj}{es:Array DictEntry} (hdat:o.data=.dict es ep) :
    KdlSrc prog w "dict_values" r d es.size (fun i v=>∃ en,es[i]?=some en/\v=en.val) (fun h=>h.get? r=some { cls:=.type "dict_values",data:=.fields #[.ref d] }/\h.get? d=some o) where
  type:=fun s h=>⟨_,h.1,rfl⟩
  there:=fun h e=>⟨Zs e.1,Zs e.2⟩
  keep:=fun h h' e k=>⟨k r (.inl rfl) _ e.1,k d (.inr rfl) o e.2⟩
  notList:=by decide
  notTuple:=by decide
  hint:=fun A E s Q h q=>kdl_hint_values ⟨_,h.1,rfl⟩ q
  iter:=fun A s hA h=>by
    have dl:=Zs h.2;refine⟨{ cls:=.type "dict_valueiterator",data:=.fields #[.ref d,.int 0 0,.int es.size 0,.int ep 0] },fun i h=>h.IsValIter s.heap.objs.size d i es.size ep/\h.get? d=some o,fun E Q q=>xn8 h.1 h.2 hdat q,?_,⟨_,Zo _ rfl,rfl,rfl⟩,Ze _ h.2⟩;have dn:d≠s.heap.objs.size:=ZD dl;exact {
      sub:=fun b hb=>by
        have e:b=s.heap.objs.size:=by simpa using hb
        rw[e];simp
      frame:=fun i h h' st k=>⟨let ⟨o1,e1,r1⟩:=st.1; ⟨o1,k _ (by simp) _ e1,r1⟩,k _ (by simp) _ st.2⟩
      item:=fun i s' Q E hi st q=>by
        refine xiu st.1 st.2 hdat (Je hi) fun h' st' sb=>q _ h' s'.toks ⟨_,Je hi,rfl⟩ ⟨st',(sb.2 d dn).trans st.2⟩ fun b o hb e=>?_;exact (sb.2 b (by simpa using hb)).trans e
      done:=fun s' Q E st q=>by
        refine xjz hA st.1 st.2 hdat fun h' eb=>q h' s'.toks fun b o hb e=>?_;exact eb b o (by simpa using hb) e
      self:=fun i s' Q E st q=>wpAny_pyIter_valiter st.1 q }
def xqw (to:TE):TE:=fun Z H Q=>to Z H fun x H1=>∃ d kvs,x=.ref d/\H1 d=some (.dT kvs)/\∀ l,H1 l=none->Q (.ref l) (upd H1 l (.lst (kvs.map (·.2))))
section
variable {X:Cx}{o:Expr}{to:TE}{apos cpos p pos:Pos}
theorem xig (hc:X.calm=true) (hg:Gl X "list") (hm:X.mg "list"=none) (ho:PE X o to) (hbase:attributeBase o "values" X.env (eval o X.env)=eval o X.env:=by rfl) (hline:(apos.endLine == cpos.line)=true:=by rfl)
    (hs3:starEach [.Call (.Attribute o "values" apos) [] [] cpos] X.env=[(false,eval (.Call (.Attribute o "values" apos) [] [] cpos) X.env)]:=by rfl) :
    PE X (.Call (.Name "list" p) [.Call (.Attribute o "values" apos) [] [] cpos] [] pos) (xqw to):=by
  intro pins s Z H Q I h;refine J8 (xcd I hg hm PyProof.Rows.Boot.«list» ?_);refine Jf ?_ (by rw[hs3]; rfl) rfl;rw[hs3];show wpAny _ _ (spliced ((false,eval (.Call (.Attribute o "values" apos) [] [] cpos) X.env)::backTo pos [])) _ _ s;refine Yu ?_;refine JS hbase hline (thn (ho pins s Z H _ I h) fun v s1 ⟨x,H1,I1,r1,q1⟩=>?_);obtain⟨d,kvs,e1,e,q⟩:=q1;subst e1;cases r1;obtain⟨z,hd,xs,rel,ob,es,ep,g,ex,hdat,hes,hn⟩:=I1.hok d _ e;have ti:s1.TypeIs (.ref d) "dict":=⟨ob,g,ex.1⟩
  refine⟨"dict", "dict.values",Jr,YM,PySem.F.type_dict_values,ti,fun a e2=>?_,ZZ rfl (JV ?_)⟩
  . cases e2
    exact⟨ob,g,ex.2.1⟩
  refine JO YM ti PySem.F.entry_dict_values (PySem.F.args_dict_values_1 _) (xh5 d hd) ⟨ti,?_⟩;refine Y6 ?_;have I2:Inv X pins Z H1 { s1 with heap:=s1.heap.push { cls:=.type "dict_values",data:=.fields #[.ref d] } }:=I1.kept (t':=s1.toks) fun b o e=>Ze _ e;have g2:(s1.heap.push { cls:=.type "dict_values",data:=.fields #[.ref d] }).get? d=some ob:=Ze _ g;have v2:(s1.heap.push { cls:=.type "dict_values",data:=.fields #[.ref d] }).get? s1.heap.objs.size=some { cls:=.type "dict_values",data:=.fields #[.ref d] }:=Zo _ rfl;generalize hs2:({ s1 with heap:=s1.heap.push { cls:=.type "dict_values",data:=.fields #[.ref d] } }:Shared)=s2 at I2;have g3:s2.heap.get? d=some ob:=by rw[<- hs2]; exact g2
  have v3:s2.heap.get? s1.heap.objs.size=some { cls:=.type "dict_values",data:=.fields #[.ref d] }:=by rw[<- hs2]; exact v2
  have ln:=Yg rel;have esz:es.size=kvs.length:=by rw[<- Jm,hes,Zc,ln]
  refine kdl_call (xoe (r:=s1.heap.objs.size) hdat) (I.ok.hd hc) ⟨v3,g3⟩ (by rw[esz]; exact z) fun h' tk acc c hk' hS' hacc=>?_;have I3:Inv X pins Z H1 { s2 with heap:=h',toks:=tk }:=I2.kept hk';obtain⟨n0,nL,nC,nP⟩:=I2.size_lt (Zi s2.heap.objs.size);have e1:acc.toList.length=(kvs.map (·.2)).length:=by rw[Zc,<- esz]; simpa using hacc.1
  refine⟨.ref s2.heap.objs.size,_,I3.adopt n0 I2.sz nL nC nP (show xap X.prog X.w _ h' _ (.lst (kvs.map (·.2))) from ⟨by rw[Zc]; exact z,acc.toList,c,xfl e1 fun j y u ey eu=>?_,by simpa using hS'⟩),rfl,q _ n0⟩;have eu':acc[j]?=some u:=by simpa using eu
  obtain⟨en,he,hv⟩:=hacc.2 j u eu';rw[Zf,Zj] at ey;obtain⟨⟨k',y'⟩,ey,rfl⟩:=ey;obtain⟨qa,u',hu',_,ru'⟩:=xi4 rel ey;rw[<- Jo,hes,Zf,hu'] at he;cases he;rw[hv];exact ru'
end
section
variable {prog:Program}{w:World}{A:Around}{E:Value->Shared->Prop}{s:Shared}{a b:Addr}{oa ob:Obj}{es es2:Array DictEntry}{ep ep2:Nat}
theorem xm0 {M:Model}{β:Type}{n:Nat}{f:Nat->β->Sem (ForInStep β)}{b0:β}{Q:β->Shared->Prop} (turn:∀ i,i<n->∀ R:ForInStep β->Shared->Prop,R (.yield b0) s->wpAny M A (f i b0) R E s) (q:Q b0 s):wpAny M A (forIn [:n] b0 f) Q E s:=by
 rw[Std.Legacy.Range.forIn_eq_forIn_range',show ([:n]:Std.Legacy.Range).size=n by simp[Std.Legacy.Range.size]];refine wpAny_forIn_list _ (fun rs c t=>c=b0/\t=s/\∀ x∈rs,x<n) _ (fun x rs c t h=>?_) (fun c t h=>?_) _ _ ⟨rfl,rfl,fun x hx=>?_⟩
 .obtain ⟨rfl,rfl,lt⟩:=h;exact turn x (lt x (Zp ..)) _ ⟨rfl,rfl,fun y hy=>lt y (Zm _ hy)⟩
 .obtain ⟨rfl,rfl,_⟩:=h;exact q
 .have:=List.mem_range'.mp hx;obtain⟨k,hk,e⟩:=this;show x<n;have e:x=0+1*k:=e;omega
theorem xhy {Q:Unit->Shared->Prop} (n:(a == sysModules)=false) (q:Q () s):wpAny (model prog w) A (Builtin.Dict.showsAll a) Q E s:=by
 rw[Builtin.Dict.showsAll,if_neg (by simp[n])];exact Zg q
theorem xgm {id:String}{Q:Bool->Shared->Prop} (ga:s.heap.get? a=some oa) (da:oa.data=.dict es ep) (gb:s.heap.get? b=some ob) (db:ob.data=.dict es2 ep2) (na:(a == sysModules)=false) (nb:(b == sysModules)=false) (sz:es.size=es2.size)
    (find:∀(i:Nat) (hi:i<es.size) (R:Option Nat->Shared->Prop),R (some i) s->wpAny (model prog w) A (dictFind b es[i].key es[i].hash) R E s)
    (val:∀(i:Nat) (h1:i<es.size) (h2:i<es2.size) (R:Bool->Shared->Prop),R true s->wpAny (model prog w) A (eqBool es[i].val es2[i].val) R E s)
    (q:Q true s):wpAny (model prog w) A (Builtin.Dict.samePairs id a b) Q E s:=by
  unfold Builtin.Dict.samePairs;refine Zb (xhy na (Zb (xhy nb (Zb (ZH ga da (Zb (ZH gb db ?_)))))));rw[if_neg (by simp[sz])];refine Zb (Jb ga da (Zb (xm0 (fun i hi R hR=>?_) (Zg q))));have hi2:i<es2.size:=by omega
  refine Zb (ZH ga da ?_);rw[Je hi];refine Zb (Jk (Zb (find i hi _ (Zb (ZH gb db ?_)))));rw[Je hi2];refine Jk (val i hi hi2 _ ?_);rw[if_neg (by decide)];refine Zb (Jb ga da ?_);rw[if_neg (by simp)];exact Zg hR
structure xgp (prog:Program) (w:World) (A:Around) (s:Shared) (a b:Addr):Prop where
 ta:s.TypeIs (.ref a) "dict"
 tb:s.TypeIs (.ref b) "dict"
 pairs:∀(id:String) (E:Value->Shared->Prop) (Q:Bool->Shared->Prop),Q true s->wpAny (model prog w) A (Builtin.Dict.samePairs id a b) Q E s
theorem xih {nm:String}{Q:Value × Value->Shared->Prop} (h:s.TypeIs (.ref a) "dict") (q:Q (.ref a,.ref b) s):wpAny (model prog w) A (Builtin.Dict.dictSlotArgs nm ⟨[.ref a,.ref b],[]⟩) Q E s:=by
 rw[Builtin.Dict.dictSlotArgs];exact Zb (JI h (show wpAny _ _ (pure _) _ _ s from Zg q))
theorem xh3:MeetsIn prog w (Builtin.«dict.__eq__» ⟨[.ref a,.ref b],[]⟩) (fun A R s=>xgp prog w A.in1 s a b/\R (.ok (.ret (.bool true))) s) :=
 .of_wp fun A R s ⟨al,h⟩=>Zb (xih al.ta (Zb (Qi al.tb (b:=true) (by rw[isSubtype_type]; rfl) (by
  rw[if_neg (by decide)];exact Zb (Zg (Zb (Zg (Zb (al.pairs _ _ _ (Zg ⟨_,rfl,h⟩))))))))))
theorem xh4:MeetsIn prog w (Builtin.«dict.__ne__» ⟨[.ref a,.ref b],[]⟩) (fun A R s=>xgp prog w A.in1 s a b/\R (.ok (.ret (.bool false))) s) :=
 .of_wp fun A R s ⟨al,h⟩=>Zb (xih al.ta (Zb (Qi al.tb (b:=true) (by rw[isSubtype_type]; rfl) (by
  rw[if_neg (by decide)];exact Zb (Zg (Zb (Zg (Zb (al.pairs _ _ _ (Zg ⟨_,rfl,h⟩))))))))))
end
section
variable {X:Cx}{pins:List (Addr × Obj)}{Z:St}{H:Hp}{s:Shared}{a b:Addr}{A:Around}
theorem xf3 {prog:Program}{w:World}{K:Type} [DecidableEq K] {knd:KeyKind prog w K}{es:List DictEntry}{vs:List (K × Value)} (h:Pairs knd es vs):∀{i:Nat}{e:DictEntry},es[i]?=some e->∃ kv,vs[i]?=some kv/\knd.is kv.1 e.key=true/\e.val=kv.2:=by
 induction h with
 | nil=>intro i e h; simp at h
 | cons h1 h2 _ ih =>
  intro i e he;cases i with
  | zero =>
   simp at he;subst he;exact⟨_,rfl,h1,h2⟩
  | succ i=>exact ih (by simpa using he)
theorem xcv {α β:Type}{R:α->β->Prop}{xs:List α}{ys:List β} (h:Paired R xs ys):∀{i:Nat}{x:α}{y:β},xs[i]?=some x->ys[i]?=some y->R x y:=by
 induction h with
 | nil=>intro i x y h; simp at h
 | cons h _ ih =>
  intro i x y h1 h2;cases i with
  | zero =>
   simp at h1 h2;subst h1 h2;exact h
  | succ i=>exact ih (by simpa using h1) (by simpa using h2)
theorem xpo {α β:Type}{f:α->β}{l:List α} (nd:(l.map f).Nodup) {i j:Nat}{x y:α} (hi:l[i]?=some x) (hj:l[j]?=some y) (e:f x=f y):i=j:=by
 have h1:i<(l.map f).length:=by rw[Zc]; exact (Zh.mp hi).1
 refine (List.getElem?_inj h1 nd).mp ?_;rw[Zf,Zf,hi,hj,J5,J5,e]
theorem xp5 (I:Inv X pins Z H s) {kvs:List (Key × V)} (ea:H a=some (.dK kvs)) (eb:H b=some (.dK kvs)) (iv:∀ kv∈kvs,∃ n:Int,kv.2=.int n):xgp X.prog X.w A s a b:=by
 obtain⟨_,na,va,ra,da⟩:=xd5 I.hok ea;obtain⟨_,nb,vb,rb,db⟩:=xd5 I.hok eb;obtain⟨oa,es,ep,ga,xa,ha,ka,pa,nda⟩:=id da;obtain⟨ob,es2,ep2,gb,xb,hb,kb,pb,ndb⟩:=id db;have la:es.size=kvs.length:=by
  have:=pa.length;have:=ra.length;simp at *;omega
 have lb:es2.size=kvs.length:=by
  have:=pb.length;have:=rb.length;simp at *;omega
 have at1:∀(i:Nat) (hi:i<es.size),∃ v,(xai X.prog X.w).is (kvs[i]'(by omega)).1 es[i].key=true/\es[i].val=v/\RelV (kvs[i]'(by omega)).2 v:=fun i hi=>by
  obtain⟨kv,h1,h2,h3⟩:=xf3 pa (i:=i) (e:=es[i]) (by simp[hi]);obtain⟨q1,q2⟩:=xcv ra (Za (show i<kvs.length by omega)) h1;exact⟨_,by rw[q1]; exact h2,h3,q2⟩
 have at2:∀(i:Nat) (hi:i<es2.size),∃ v,(xai X.prog X.w).is (kvs[i]'(by omega)).1 es2[i].key=true/\es2[i].val=v/\RelV (kvs[i]'(by omega)).2 v:=fun i hi=>by
  obtain⟨kv,h1,h2,h3⟩:=xf3 pb (i:=i) (e:=es2[i]) (by simp[hi]);obtain⟨q1,q2⟩:=xcv rb (Za (show i<kvs.length by omega)) h1;exact⟨_,by rw[q1]; exact h2,h3,q2⟩
 have nk:(kvs.map (·.1)).Nodup:=by rw[rb.keys]; exact ndb
 refine⟨⟨oa,ga,xa.1⟩,⟨ob,gb,xb.1⟩,fun id E Q h=>xgm ga ha gb hb na nb (by omega) (fun i hi R hR=>?_) (fun i h1 h2 R hR=>?_) h⟩
 .obtain ⟨v,k1,_,_⟩:=at1 i hi;obtain⟨k',k2,hh⟩:=ka es[i] (Array.getElem_mem hi);obtain rfl:=(xai X.prog X.w).inj _ _ _ k1 k2;rw[hh];refine wpAny_dictFind_of k1 gb hb kb ?_;have:(es2.findIdx? fun e=>(xai X.prog X.w).is (kvs[i]'(by omega)).1 e.key)=some i:=by
   rw[Array.findIdx?_eq_some_iff_getElem];obtain⟨v2,k3,_,_⟩:=at2 i (by omega);refine⟨by omega,k3,fun j hj z=>?_⟩;obtain⟨v4,k4,_,_⟩:=at2 j (by omega);have e:=(xai X.prog X.w).inj _ _ _ z k4;have:=xpo (f:=fun p:Key × V=>p.1) nk (Za (show i<kvs.length by omega)) (Za (show j<kvs.length by omega)) e;omega
  rw[this];exact hR
 .obtain ⟨v,_,e1,r1⟩:=at1 i h1;obtain⟨v2,_,e2,r2⟩:=at2 i h2;obtain⟨n,en⟩:=iv _ (Jj (show i<kvs.length by omega));rw[en] at r1 r2;obtain⟨t1,rfl⟩:=r1;obtain⟨t2,rfl⟩:=r2;rw[e1,e2];have z:=Zv.int_int (A:=A) (s:=s) n t1 n t2 X.prog X.w E R;exact z (by simpa using hR)
theorem xq3 (I:Inv X pins Z H s) (hu:A.units<cLine) {kvs:List (List Key × V)} (ea:H a=some (.dT kvs)) (eb:H b=some (.dT kvs)) (iv:∀ kv∈kvs,∃ n:Int,kv.2=.int n):xgp X.prog X.w A s a b:=by
 obtain⟨_,na,va,ra,da⟩:=xeu I.hok ea;obtain⟨_,nb,vb,rb,db⟩:=xeu I.hok eb;obtain⟨oa,es,ep,ga,xa,ha,ka,pa,nda⟩:=id da;obtain⟨ob,es2,ep2,gb,xb,hb,kb,pb,ndb⟩:=id db;have la0:=ra.length;have lb0:=rb.length;have la:es.size=va.length:=size_of_entries ka;have lb:es2.size=vb.length:=size_of_entries kb;refine⟨⟨oa,ga,xa.1⟩,⟨ob,gb,xb.1⟩,fun id E Q h=>xgm ga ha gb hb na nb (by omega) (fun i hi R hR=>?_) (fun i h1 h2 R hR=>?_) h⟩
 .have e0:es[i]?=some es[i]:=by simp[hi]
  have hva:va[i]?=some (va[i]'(by omega)):=Za (by omega);have hvb:vb[i]?=some (vb[i]'(by omega)):=Za (by omega);have hkv:kvs[i]?=some (kvs[i]'(by omega)):=Za (by omega);rw[entry_at ka i,hva,J5] at e0;have e0:=ZN.inj e0;obtain⟨q1,_,_⟩:=xcv ra hkv hva;obtain⟨q2,_,_⟩:=xcv rb hkv hvb;rw[<- e0];show wpAny _ _ (dictFind b (.ref (va[i]'(by omega)).2.1) ((tupleKind (xai X.prog X.w)).hash (va[i]'(by omega)).1)) _ _ s;refine wpAny_dictFind_heap hu (pa _ (Jj (show i<va.length by omega))) gb hb kb pb ndb (fun z=>?_) (fun j p hj=>?_)
  .refine absurd ?_ (z i (vb[i]'(by omega)).2);rw[hvb,<- q1,q2]
  .have:j=i:=xpo (f:=fun p:List Key × Addr × Value=>p.1) ndb hj hvb (by rw[<- q2,q1]);rw[this];exact hR
 .have hva:va[i]?=some (va[i]'(by omega)):=Za (by omega);have hvb:vb[i]?=some (vb[i]'(by omega)):=Za (by omega);have hkv:kvs[i]?=some (kvs[i]'(by omega)):=Za (by omega);have e1:es[i]?=some es[i]:=by simp[h1]
  have e2:es2[i]?=some es2[i]:=by simp[h2]
  rw[entry_at ka i,hva,J5] at e1;rw[entry_at kb i,hvb,J5] at e2;have e1:=ZN.inj e1;have e2:=ZN.inj e2;obtain⟨_,_,r1⟩:=xcv ra hkv hva;obtain⟨_,_,r2⟩:=xcv rb hkv hvb;obtain⟨n,en⟩:=iv _ (Jj (show i<kvs.length by omega));rw[en] at r1 r2;rw[<- e1,<- e2];show wpAny _ _ (eqBool (va[i]'(by omega)).2.2 (vb[i]'(by omega)).2.2) _ _ s;obtain⟨t1,w1⟩:=r1;obtain⟨t2,w2⟩:=r2;rw[w1,w2];have z:=Zv.int_int (A:=A) (s:=s) n t1 n t2 X.prog X.w E R;exact z (by simpa using hR)
def Yes (prog:Program) (w:World) (A:Around) (s:Shared) (y x:Value):Prop:=(∀(E:Value->Shared->Prop) (Q:Bool->Shared->Prop),Q true s->wpAny (model prog w) A (eqBool y x) Q E s) /\
 (∀(E:Value->Shared->Prop) (Q:Value->Shared->Prop),Q (.bool true) s->wpAny (model prog w) A (richCompare .Eq y x) Q E s)/\∀(E:Value->Shared->Prop) (Q:Value->Shared->Prop),Q (.bool false) s->wpAny (model prog w) A (richCompare .NotEq y x) Q E s
theorem xjv {prog:Program}{w:World} (h:∀(E:Value->Shared->Prop) (Q:Value->Shared->Prop),Q (.bool true) s->wpAny (model prog w) A (richCompare .Eq (.ref a) (.ref b)) Q E s) (E:Value->Shared->Prop) (Q:Bool->Shared->Prop) (q:Q true s):wpAny (model prog w) A (eqBool (.ref a) (.ref b)) Q E s:=by
 by_cases c:a=b
 .subst c;exact Zv.same _ prog w E Q q
 .have nb:¬ (Zk a == Zk b)=true:=fun z=>c (Zk.inj (QG z));rw[eqBool];exact Jk (by rw[if_neg nb]; exact Zb (h E _ (Jz q)))
theorem xjm {prog:Program}{w:World} (al:xgp prog w A.in1 s a b) (hu:A.units<cLine):Yes prog w A s (.ref a) (.ref b):=by
 have h1:∀(E:Value->Shared->Prop) (Q:Value->Shared->Prop),Q (.bool true) s->wpAny (model prog w) A (richCompare .Eq (.ref a) (.ref b)) Q E s:=fun E Q q =>
  Y8 al.ta al.tb PySem.F.slot_dict_eq (JO PySem.F.slot_dict_eq al.ta PySem.F.entry_dict_eq (PySem.F.args_dict_eq_2 _ _) xh3 ⟨al,(fun z=>nomatch z),q⟩) hu
 have h2:∀(E:Value->Shared->Prop) (Q:Value->Shared->Prop),Q (.bool false) s->wpAny (model prog w) A (richCompare .NotEq (.ref a) (.ref b)) Q E s:=fun E Q q =>
  Y8 al.ta al.tb PySem.F.slot_dict_ne (JO PySem.F.slot_dict_ne al.ta PySem.F.entry_dict_ne (PySem.F.args_dict_ne_2 _ _) xh4 ⟨al,(fun z=>nomatch z),q⟩) hu
 exact⟨xjv h1,h1,h2⟩
end
section
variable {prog:Program}{w:World}{a b:Addr}
theorem xik {us vs:Array Value}{n n2:Nat}{dd dd2:Option Addr}{sl sl2:Array (Option Value)} (sz:us.size=vs.size):MeetsIn prog w (Builtin.«tuple.__eq__» ⟨[.ref a,.ref b],[]⟩) (fun A R s=>s.heap.get? a=some { cls:=.type "tuple",dict:=dd,data:=.seq us n,slots:=sl }/\s.heap.get? b=some { cls:=.type "tuple",dict:=dd2,data:=.seq vs n2,slots:=sl2 } /\
    (∀(j:Nat) (h1:j<us.size) (h2:j<vs.size) (E:Value->Shared->Prop) (Q:Bool->Shared->Prop),Q true s->wpAny (model prog w) A.in1 (eqBool us[j] vs[j]) Q E s)/\R (.ok (.ret (.bool true))) s) :=
  .of_wp fun A R s0 hyp=>by
    obtain⟨hp,gl,dr,tk,os⟩:=s0;obtain⟨ga,gb,items,done⟩:=hyp;have ft:=AutoSeq1.sub_tuple_tuple
    wp_walk using Yx ga,Yx gb,wpAny_forIn_list _ (fun rs c t=>c.1=none/\t=⟨hp,gl,dr,tk,os⟩/\∃ k,rs=(us.toList.zip vs.toList).drop k) _
    case turn =>
      rintro ⟨y,x⟩ rs c t ⟨hc,rfl,k,hk⟩;have lt:k<(us.toList.zip vs.toList).length:=Nat.lt_of_not_le fun z=>by
        rw[List.drop_of_length_le z] at hk;cases hk
      have l1:k<us.size:=by simp at lt; omega
      have l2:k<vs.size:=by omega
      rw[JY lt] at hk;injection hk with e1 e2
      obtain⟨rfl,rfl⟩:y=us[k]/\x=vs[k]:=by
        have z:=e1;rw[List.getElem_zip] at z;exact⟨by simpa using congrArg Prod.fst z,by simpa using congrArg Prod.snd z⟩
      refine Zb (items k l1 l2 _ _ ?_)
      wp_walk
      exact⟨rfl,rfl,k+1,e2⟩
    case fin =>
      rintro ⟨c1,c2⟩ t ⟨hc,rfl,k,hk⟩;simp only at hc;subst hc
      wp_walk
      refine⟨_,rfl,?_⟩;rw[sz];simpa [Builtin.Tuple.tupleCompareSizes] using done
    . exact⟨rfl,rfl,0,rfl⟩
theorem xip {us vs:Array Value}{n n2:Nat}{dd dd2:Option Addr}{sl sl2:Array (Option Value)} (sz:us.size=vs.size):MeetsIn prog w (Builtin.«tuple.__ne__» ⟨[.ref a,.ref b],[]⟩) (fun A R s=>s.heap.get? a=some { cls:=.type "tuple",dict:=dd,data:=.seq us n,slots:=sl }/\s.heap.get? b=some { cls:=.type "tuple",dict:=dd2,data:=.seq vs n2,slots:=sl2 } /\
    (∀(j:Nat) (h1:j<us.size) (h2:j<vs.size) (E:Value->Shared->Prop) (Q:Bool->Shared->Prop),Q true s->wpAny (model prog w) A.in1 (eqBool us[j] vs[j]) Q E s)/\R (.ok (.ret (.bool false))) s) :=
  .of_wp fun A R s0 hyp=>by
    obtain⟨hp,gl,dr,tk,os⟩:=s0;obtain⟨ga,gb,items,done⟩:=hyp;have ft:=AutoSeq1.sub_tuple_tuple
    wp_walk using Yx ga,Yx gb,wpAny_forIn_list _ (fun rs c t=>c.1=none/\t=⟨hp,gl,dr,tk,os⟩/\∃ k,rs=(us.toList.zip vs.toList).drop k) _
    case turn =>
      rintro ⟨y,x⟩ rs c t ⟨hc,rfl,k,hk⟩;have lt:k<(us.toList.zip vs.toList).length:=Nat.lt_of_not_le fun z=>by
        rw[List.drop_of_length_le z] at hk;cases hk
      have l1:k<us.size:=by simp at lt; omega
      have l2:k<vs.size:=by omega
      rw[JY lt] at hk;injection hk with e1 e2
      obtain⟨rfl,rfl⟩:y=us[k]/\x=vs[k]:=by
        have z:=e1;rw[List.getElem_zip] at z;exact⟨by simpa using congrArg Prod.fst z,by simpa using congrArg Prod.snd z⟩
      refine Zb (items k l1 l2 _ _ ?_)
      wp_walk
      exact⟨rfl,rfl,k+1,e2⟩
    case fin =>
      rintro ⟨c1,c2⟩ t ⟨hc,rfl,k,hk⟩;simp only at hc;subst hc
      wp_walk
      refine⟨_,rfl,?_⟩;rw[sz];simpa [Builtin.Tuple.tupleCompareSizes] using done
    . exact⟨rfl,rfl,0,rfl⟩
theorem xq8 {A:Around}{s:Shared}{us vs:Array Value} (ta:s.heap.IsTuple a us) (tb:s.heap.IsTuple b vs) (sz:us.size=vs.size) (hu:A.units<cLine) (items:∀(j:Nat) (h1:j<us.size) (h2:j<vs.size),Yes prog w A.in1 s us[j] vs[j]):Yes prog w A s (.ref a) (.ref b):=by
 obtain⟨⟨c1,d1,q1,l1⟩,ga,ea,n1,fa⟩:=id ta;obtain⟨⟨c2,d2,q2,l2⟩,gb,eb,n2,fb⟩:=id tb;simp only at ea fa eb fb;subst ea fa eb fb;have h1:∀(E:Value->Shared->Prop) (Q:Value->Shared->Prop),Q (.bool true) s->wpAny (model prog w) A (richCompare .Eq (.ref a) (.ref b)) Q E s:=fun E Q q =>
  Y8 ⟨_,ga,rfl⟩ ⟨_,gb,rfl⟩ PySem.F.slot_tuple_eq (JO PySem.F.slot_tuple_eq ⟨_,ga,rfl⟩ PySem.F.entry_tuple_eq (PySem.F.args_tuple_eq_2 _ _) (xik sz) ⟨ga,gb,fun j h1 h2=>(items j h1 h2).1,(fun z=>nomatch z),q⟩) hu
 have h2:∀(E:Value->Shared->Prop) (Q:Value->Shared->Prop),Q (.bool false) s->wpAny (model prog w) A (richCompare .NotEq (.ref a) (.ref b)) Q E s:=fun E Q q =>
  Y8 ⟨_,ga,rfl⟩ ⟨_,gb,rfl⟩ PySem.F.slot_tuple_ne (JO PySem.F.slot_tuple_ne ⟨_,ga,rfl⟩ PySem.F.entry_tuple_ne (PySem.F.args_tuple_ne_2 _ _) (xip sz) ⟨ga,gb,fun j h1 h2=>(items j h1 h2).1,(fun z=>nomatch z),q⟩) hu
 exact⟨xjv h1,h1,h2⟩
end
section
variable {X:Cx}
def Tw1 (K:Zd) (H:Hp) (x y:V):Prop:=(∃ n m d,Dv K H n x d/\Dv K H m y d/\n<=8/\m<=8)\/(∃ a b kvs,x=.ref a/\y=.ref b/\H a=some (.dK kvs)/\H b=some (.dK kvs)/\∀ kv∈kvs,∃ n:Int,kv.2=.int n) \/
 ∃ a b kvs,x=.ref a/\y=.ref b/\H a=some (.dT kvs)/\H b=some (.dT kvs)/\∀ kv∈kvs,∃ n:Int,kv.2=.int n
def Tw (K:Zd) (H:Hp) (x y:V):Prop:=∃ a b xs ys,x=.ref a/\y=.ref b/\SqT K H a xs/\SqT K H b ys/\xs.length=ys.length/\∀(j:Nat) (u v:V),xs[j]?=some u->ys[j]?=some v->Tw1 K H u v
theorem tw1_yes {pins:List (Addr × Obj)}{Z:St}{H:Hp}{s:Shared} (I:Inv X pins Z H s) {A:Around} (hu:A.units+17<cLine) {x y:V}{u v:Value} (h:Tw1 X.K H x y) (rx:RelV x u) (ry:RelV y v):Yes X.prog X.w A s u v:=by
 rcases h with⟨n,m,d,h1,h2,hn,hm⟩|⟨a,b,kvs,rfl,rfl,ea,eb,iv⟩|⟨a,b,kvs,rfl,rfl,ea,eb,iv⟩
 .have z:=xf8 I h1 h2 (A:=A) (u:=u) (v:=v) (by omega) rx ry;rw[xbv] at z;exact⟨fun E Q=>z.1 X.prog X.w E Q,fun E Q=>z.2.1 X.prog X.w E Q,fun E Q=>z.2.2 X.prog X.w E Q⟩
 .obtain rfl:u=Zk _:=rx;obtain rfl:v=Zk _:=ry;exact xjm (xp5 I ea eb iv) (by omega)
 .obtain rfl:u=Zk _:=rx;obtain rfl:v=Zk _:=ry;exact xjm (xq3 I (show A.units+1<cLine by omega) ea eb iv) (by omega)
theorem xmu {pins:List (Addr × Obj)}{Z:St}{H:Hp}{s:Shared} (I:Inv X pins Z H s) {A:Around} (hu:A.units+18<cLine) {x y:V}{u v:Value} (h:Tw X.K H x y) (rx:RelV x u) (ry:RelV y v):Yes X.prog X.w A s u v:=by
 obtain⟨a,b,xs,ys,rfl,rfl,ha,hb,le,al⟩:=h;obtain rfl:u=Zk _:=rx;obtain rfl:v=Zk _:=ry;obtain⟨us,r1,t1,z1⟩:=I.tuple ha;obtain⟨vs,r2,t2,z2⟩:=I.tuple hb;have l1:=r1.length;have l2:=r2.length;refine xq8 t1 t2 (by simp; omega) (by omega) fun j h1 h2=>?_;obtain⟨x,hx,rx⟩:=xdp r1 h1;obtain⟨y,hy,ry⟩:=xdp r2 h2;exact tw1_yes I (show A.units+1+17<cLine by omega) (al j x y hx hy) rx ry
def rEqY (K:Zd):R2:=fun x y H Q=>Tw K H x y/\Q (.bl true) H
def rNeY (K:Zd):R2:=fun x y H Q=>Tw K H x y/\Q (.bl false) H
theorem xsm (hu:X.A.units+20<cLine):OpR X (compareOp .Eq) (rEqY X.K):=by
 intro pins s Z H x y u v Q I rx ry h;exact (xmu I (A:=X.A) (by omega) h.1 rx ry).2.1 X.xe _ ⟨.bl _,H,I,rfl,h.2⟩
theorem xrj (hu:X.A.units+20<cLine):OpR X (compareOp .NotEq) (rNeY X.K):=by
 intro pins s Z H x y u v Q I rx ry h;exact PySem.W.cmp_ofNotEq ((xmu I (A:=X.A) (by omega) h.1 rx ry).2.2 X.xe _ ⟨.bl _,H,I,rfl,h.2⟩)
end
section
variable {prog:Program}{w:World}{A:Around}{E:Value->Shared->Prop}{s:Shared}{a:Addr}{o:Obj}{es:Array DictEntry}{ep:Nat}
theorem xp9 {nm:String}{Q:Addr->Shared->Prop} (h:s.TypeIs (.ref a) "dict") (q:Q a s):wpAny (model prog w) A (Builtin.Dict.noArgs nm ⟨[.ref a],[]⟩) Q E s:=by
 rw[Builtin.Dict.noArgs];exact Zb (JI h (show wpAny _ _ (pure _) _ _ s from Zg q))
theorem xfr:MeetsIn prog w (Builtin.«dict.clear» ⟨[.ref a],[]⟩) (fun _ R s=>s.heap.get? a=some o/\o.ExactDict/\o.data=.dict es ep/\es.size<=sizeLine/\R (.ok (.ret .none)) { s with heap:=s.heap.update a (Obj.mapDictKeys fun _=>#[]) }) :=
 .of_wp fun A R s ⟨g,x,d,z,q⟩=>by
  rw[Builtin.«dict.clear»];refine Zb (xp9 ⟨o,g,x.1⟩ (Zb (ZH g d (Zb ?_))));rw[bearsInstanceDictMark];refine Zb (wpAny_load g (Zg (Zb (wpAny_updateDictKeys (hz:=z) g d ?_))));split
  .exact Zb (wpAny_letGo (Zg ⟨_,rfl,q⟩))
  .exact Zb (Zg (Zg ⟨_,rfl,q⟩))
end
section
variable {X:Cx}{pins:List (Addr × Obj)}{Z:St}{H:Hp}{s:Shared}{a:Addr}{o:Expr}{to:TE}{apos cpos:Pos}
def xra (to:TE):TE:=fun Z H Q=>to Z H fun x H1=>∃ a,x=.ref a/\((∃ kvs,H1 a=some (.dK kvs)/\Q .non (upd H1 a (.dK [])))\/∃ kvs,H1 a=some (.dT kvs)/\Q .non (upd H1 a (.dT [])))
theorem xhu (ho:PE X o to) (hbase:attributeBase o "clear" X.env (eval o X.env)=eval o X.env:=by rfl) (hline:(apos.endLine == cpos.line)=true:=by rfl):PE X (.Call (.Attribute o "clear" apos) [] [] cpos) (xra to):=by
 intro pins s Z H Q I h;refine JS hbase hline (thn (ho pins s Z H _ I h) fun v s1 ⟨x,H1,I1,r1,q1⟩=>?_);obtain⟨a,e1,alt⟩:=q1;subst e1;cases r1;rcases alt with⟨kvs,e,q⟩|⟨kvs,e,q⟩
 .obtain ⟨z,hd,vs,rel,ob,es,ep,g,ex,hdat,hk,hp,hn⟩:=xd5 I1.hok e;have ln:=rel.length;have le:=hp.length;refine⟨"dict", "dict.clear",Jr,YW,PySem.F.type_dict_clear,⟨ob,g,ex.1⟩,fun b e2=>?_,ZZ rfl (JV ?_)⟩
  .cases e2;exact⟨ob,g,ex.2.1⟩
  refine JO YW ⟨ob,g,ex.1⟩ PySem.F.entry_dict_clear (PySem.F.args_dict_clear_1 _) xfr ⟨g,ex,hdat,by simp at le; omega,?_⟩;have g':=ZO (Obj.mapDictKeys fun _=>#[]) g (We (Yf hdat _));refine⟨.non,_,xc9 I1 (by rw[e]; exact Jg) (ZX.update ..) ⟨_,g'⟩ ?_,rfl,q⟩;exact⟨Ja _,hd,[],.nil,_,#[],ep+1,g',ex.mapDictKeys _,Yf hdat _,fun _ he=>by simp at he,.nil,JP⟩
 .obtain ⟨z,hd,vs,rel,ob,es,ep,g,ex,hdat,hk,hp,hn⟩:=xeu I1.hok e;have ln:=rel.length;have le:=size_of_entries hk;refine⟨"dict", "dict.clear",Jr,YW,PySem.F.type_dict_clear,⟨ob,g,ex.1⟩,fun b e2=>?_,ZZ rfl (JV ?_)⟩
  .cases e2;exact⟨ob,g,ex.2.1⟩
  refine JO YW ⟨ob,g,ex.1⟩ PySem.F.entry_dict_clear (PySem.F.args_dict_clear_1 _) xfr ⟨g,ex,hdat,by omega,?_⟩;have g':=ZO (Obj.mapDictKeys fun _=>#[]) g (We (Yf hdat _));refine⟨.non,_,xc9 I1 (by rw[e]; exact Jg) (ZX.update ..) ⟨_,g'⟩ ?_,rfl,q⟩;exact⟨Ja _,hd,[],.nil,_,#[],ep+1,g',ex.mapDictKeys _,Yf hdat _,rfl,JP⟩
end
theorem xdi:∀{us:List Value}{ss:List Str},StrsAre us ss->Vals (ss.map V.str) us
 | _,_,.nil=>.nil
 | _,_,.cons y t h=>.cons ⟨t,rfl⟩ (xdi h)
theorem xgu:∀{ss:List Str}{us:List Value},Vals (ss.map V.str) us->StrsAre us ss
 | [],_,.nil=>.nil
 | x::ss,_,.cons r rs=>by
  obtain⟨t,rfl⟩:=r;exact .cons x t (xgu rs)
theorem xgr {X:Cx}{pins:List (Addr × Obj)}{Z:St}{H:Hp}{s:Shared}{h1:Heap}{tk:Nat}{Q:VK}{us:List Value}{ss:List Str} (I1:Inv X pins Z H { s with heap:=h1,toks:=tk }) (hS:StrsAre us ss) (few:us.length<64)
    (q:∀(l:Addr) (ss':List Str),H l=none->ss'.Perm ss->sortedS ss'=true->Q (.ref l) (upd H l (.lst (ss'.map V.str)))) :
    wpAny (model X.prog X.w) X.A.in1 (newList us>>=fun l=>holding [l] (call (.builtin "list.sort") [l] [])>>=fun _=>ret l) (fun fin s'=>∃ v,fin=Fin.done (Flow.ret v)/\EP X pins Z Q v s') X.xe { s with heap:=h1,toks:=tk }:=by
  have sz:us.length<=sizeLine:=YZ (J0 few (by decide));have ln:=(xdi hS).length;rw[Zc] at ln;have I2:=I1.lnew (t':=tk) (xdi hS) (by rw[Zc,ln]; exact sz);refine Zb (wpAny_newList ?_ sz);have fr:H h1.objs.size=none:=I1.fresh;have gl:(h1.push { cls:=.type "list",data:=.seq us.toArray }).get? h1.objs.size=some (seqObj "list" us.toArray 0):=Zo _ rfl;refine Zb (Jk (Ji slot_list_sort ⟨_,gl,rfl⟩ entry_list_sort (list_sort_treeK strKind_oneLt gl hS.keysOf (fun v₁ v₂ r e=>keyKind_strs (by rw[<- e]; exact hS)) few fun st a1 a2=>?_) (args_list_sort _)));obtain⟨ss',b1,b2,b3⟩:=sorted_out_str hS a1 a2;refine⟨_,rfl,Zg ⟨_,rfl,?_⟩⟩;have J1:=I2.lset (l:=h1.objs.size) (its:=us) (its':=[]) (ys:=[]) (f:=fun _=>#[]) (t':=tk) xi gl rfl .nil (Ja _);have J2:=J1.kept (t':=tk) (h':=(((h1.push { cls:=.type "list",data:=.seq us.toArray }).update h1.objs.size (Ys fun _=>#[])).push (seqObj "tuple" us.toArray 0)).push (seqObj "list" #[] 0)) fun b u e=>Ze _ (Ze _ e);obtain⟨z9,its9,n9,r9,hl9,e9⟩:=J2.lstM xi;have l':ss'.length=ss.length:=b2.length_eq;have J3:=J2.lset (l:=h1.objs.size) (its:=its9) (its':=((arrOf st).map (·.2)).toList) (ys:=ss'.map V.str) (f:=fun _=>(arrOf st).map (·.2)) (t':=tk) xi e9 (show (arrOf st).map (·.2)=_ from (Array.toArray_toList ..).symm) (xdi b1) (by rw[Zc,l',ln]; exact sz);rw[xem,xem] at J3;exact⟨.ref h1.objs.size,_,J3,rfl,q _ ss' fr b2 b3⟩
theorem xj9:∀{us:List Value}{ss:List Str},us.length=ss.length->(∀(i:Nat) (v:Value) (x:Str),us[i]?=some v->ss[i]?=some x->∃ t,v=Q0 x t)->StrsAre us ss
 | [],[],_,_=>.nil
 | [],_::_,h,_=>by cases h
 | _::_,[],h,_=>by cases h
 | u::us,x::ss,h,f=>by
  obtain⟨t,rfl⟩:=f 0 u x rfl rfl;exact .cons x t (xj9 (by simpa using h) fun i v y h1 h2=>f (i+1) v y (by simpa using h1) (by simpa using h2))
inductive xo3 (xs:List V) (H:Hp) (Q:VK):Prop
 | mk (d:Addr) (ss:List Str) (e_:xs=[.ref d]) (r_:(H d=some (.lst (ss.map V.str))\/∃ kvs:List (Key × V),H d=some (.dK kvs)/\kvs.map (·.1)=ss.map Jt)/\ss.length<64/\∀(l:Addr) (ss':List Str),H l=none->ss'.Perm ss->sortedS ss'=true->Q (.ref l) (upd H l (.lst (ss'.map V.str))))
theorem xe4 {X:Cx} (hc:X.calm=true):xb0 X (.builtin "sorted") xo3:=by
 intro pins s Z H xs us Q I r h;obtain⟨d,ss,rfl,alt,hl,q⟩:=h;obtain⟨u,rfl,ru⟩:=xcb r;obtain rfl:u=Zk d:=ru;rcases alt with e|⟨kvs,e,ek⟩
 .obtain ⟨z,its,n,r1,hL,el⟩:=I.lstM e;have ln:=r1.length;rw[Zc] at ln;refine QB kind_sorted plain_sorted entry_sorted (args_sorted1 _) ?_;unfold Builtin.sorted;refine Zb (Zg (show wpAny _ _ (collect (.ref d)>>=_) _ _ _ from Zb (wpAny_collect_seq d (T:="list") (.inl rfl) el rfl rfl (fun h1 keep=>?_) (by rw[Zy,<- ln]; exact YZ (J0 hl (by decide))))));exact xgr (us:=its) (I.kept keep) (xgu r1) (by omega) q
 .obtain ⟨z,hsys,vs,rel,o,es,ep,ho,hx,hdat,hk,hp,hn⟩:=xd5 I.hok e;have ln:=rel.length;have le:=hp.length;have esz:es.size=vs.length:=by simpa using le
  refine QB kind_sorted plain_sorted entry_sorted (args_sorted1 _) ?_;unfold Builtin.sorted;refine Zb (Zg ?_);show wpAny _ _ (collect (.ref d)>>=_) _ _ _;refine Zb (kdu_collect (xkb hsys hx hdat) (I.ok.hd hc) ho (by rw[esz,<- ln]; exact z) fun h1 tk acc keep items=>?_);have hs:StrsAre acc.toList ss:=by
   refine xj9 (by rw[Jm,items.1,esz,<- ln,<- Zc (f:=(·.1)) (as:=kvs),ek,Zc]) fun i v x hv hx=>?_;have hv':acc[i]?=some v:=by rw[<- Jo]; exact hv
   obtain⟨en,he,ev⟩:=items.2 i v hv';obtain⟨kv,h1,h2,_⟩:=xf3 hp (i:=i) (e:=en) (by rw[Jo]; exact he);have hk2:(kvs.map (·.1))[i]?=some (Jt x):=by rw[ek,Zf,hx]; rfl
   rw[rel.keys,Zf,h1,J5] at hk2;have e3:kv.1=Jt x:=ZN.inj hk2;rw[e3] at h2;obtain⟨t,et⟩:=Value.isStrOf_shape (x:=x) (v:=en.key) h2;exact⟨t,by rw[ev]; exact et⟩
  exact xgr (I.kept keep) hs (by rw[(xdi hs).length.symm,Zc]; exact hl) q
end L2
namespace L2
open PySem PySem.Spec PyProof.Rows XL PySem.W PySem.MeetsSeq3
end L2
namespace L2
open PySem PySem.Spec PyProof.Rows XL
variable {q0:Bool}
section
variable {X:Cx}{pins:List (Addr × Obj)}{Z:St}{H:Hp}{s:Shared}{a C:Addr}{A:Around}{E:Value->Shared->Prop}
theorem xom {u:Value}{Q:Value->Shared->Prop} (I:Inv X pins Z H s) (e:H a=some (XN a C none)) (mk:xdd X.K C=true) (h:∀ s',Inv X pins Z H s'->Q .none s') :
    wpAny (model X.prog X.w) A (call (.builtin "ValueError.__init__") [.ref a,u]) Q E s:=by
  obtain⟨oe,vs,g,ce,oo,de,sz,tb⟩:=xgv I e;obtain⟨nm,qn,N,bs,bm,hz,sn,sub,ab,col,dd,k0,k1,k2,k3,k5,gC,T⟩:=xe3 I.kIn mk;have na:∀ b o,s.heap.get? b=some o->b≠s.heap.objs.size:=fun b o gb=>ZD (Zs gb);obtain⟨hh,gg,d,tk,os⟩:=s;refine Qh (Qp YC.init.plain YC.initEntry (wpAny_check_init_subT YC T gC g ce ?_));have v0:∃ v,vs[0]?=some v:=⟨vs[0]'(by omega),Je (by omega)⟩
  obtain⟨v0,hv0⟩:=v0
  wp_walk
  rw[de]
  dsimp only
  refine Zg ?_;rw[hv0]
  dsimp only
  wp_walk
  rw[de]
  dsimp only
  rw[if_pos (by omega)];have gp:(hh.push { cls:=.type "tuple",data:=.seq #[u] }).get? a=some oe:=Ze _ g
  wp_walk
  have ea:upd H a (XN a C none)=H:=by
    funext b;by_cases z:b=a
    . subst z
      rw[xi,e]
    . rw[xh z]
  have fin:∀ t',Inv X pins Z H ⟨(hh.push { cls:=.type "tuple",data:=.seq #[u] }).update a (Yh fun x=>x.setIfInBounds 0 (Zk hh.objs.size)),gg,d,t',os⟩:=fun t'=>by
    obtain⟨oc,od,dt,sl⟩:=oe;have ce:oc=.ref C:=ce;have oo:od=none:=oo;have de:dt=.fields vs:=de;subst ce oo de;have g2:=ZO (f:=Yh fun x=>x.setIfInBounds 0 (Zk hh.objs.size)) gp (Y2 (vs:=vs.setIfInBounds 0 (Zk hh.objs.size)) rfl);have W:Inv X pins Z (upd H a (XN a C none)) ⟨(hh.push { cls:=.type "tuple",data:=.seq #[u] }).update a (Yh fun x=>x.setIfInBounds 0 (Zk hh.objs.size)),gg,d,t',os⟩:=I.write (x:=a) (e:=a) (o:=XN a C none) (t':=t') (by rw[e]; exact Jg) (.inl rfl) (fun b o hb gb=>(ZY _ _ (Zw hb)).trans (Ze _ gb)) ⟨_,g2⟩ (xlt ⟨_,vs.setIfInBounds 0 (Zk hh.objs.size),g2,rfl,rfl,rfl,by simpa using sz,.inl ⟨rfl,by
      rw[Array.getElem?_setIfInBounds_ne (by decide)];rcases tb with t|⟨T,_,_,z,_⟩
      . exact t.2
      . cases z⟩⟩)
    rw[ea] at W;exact W
  split
  . exact wpAny_letGo (Zg (h _ (fin _)))
  . exact Zg (Zg (h _ (fin _)))
end
def xsu (K:Zd) (t:TA):TE:=fun Z H Q=>t Z H fun vs H1=>∃ a C v,vs=[.ref a,v]/\H1 a=some (XN a C none)/\xdd K C=true/\Q .non H1
structure XBs (K:Zd) (C:Addr):Prop where
 ga:Y3 K (.ref C) "__getattribute__"=some (some (.builtin "type.__getattribute__"))
 rd:PySem.W.readsIn K C (.type "type")=true
 fi:(match QQ K (.ref C) (.type "type") "__init__" with|some (.val (.builtin i))=>i == "ValueError.__init__" | _=>false)=true
theorem XBs.fd {K:Zd}{C:Addr} (b:XBs K C):QQ K (.ref C) (.type "type") "__init__"=some (.val (.builtin "ValueError.__init__")):=by
 have f:=b.fi;split at f
 .rename_i i e
  rw[e,beq_iff_eq.mp f]
 .cases f
theorem xnu {X:Cx}{x:Str}{p pos apos:Pos}{e:Expr}{es:List Expr}{t:TA}{C0:Addr}{pl:Sem Bool} (B:XBs X.K C0) (hg:Gl X x) (hm:X.mg x=some (.ref C0)) (ha:PA X (e::es) t)
    (hdb:(x == ("__debug__":Str))=false:=by decide) (hs:starEach (e::es) X.env=(false,eval e X.env)::starEach es X.env:=by rfl) (hplain:(backTo pos (starEach es X.env)).any (·.1)=false:=by rfl)
    (ht:eval (.Call (.Attribute (.Name x p) "__init__" apos) (e::es) [] pos) X.env=(do
      let ov <- eval (.Name x p) X.env
      standAt apos.atName
      let (f,first) <- holding [ov] (getMethod ov "__init__" pl)
      callWith pos f first (backTo pos (starEach (e::es) X.env)) (backToKw pos (keywordEach [] X.env))):=by rfl) :
    PE X (.Call (.Attribute (.Name x p) "__init__" apos) (e::es) [] pos) (xsu X.K t):=by
  intro pins s Z H Q I h;refine QS (pl:=pl) (xc6 I hg hm ?_ hdb) ht;refine PySem.W.method_cls I.kIn B.ga (PySem.W.cls_value I.kIn B.rd B.fd rfl ?_);have I1:=I.tok (s.toks+1);have hA:=ha pos pins _ Z H _ I1 h;rw[hs] at hA ⊢;refine ZZ (by show (false||(backTo pos (starEach es X.env)).any (·.1))=false; rw[hplain]<;>rfl) (Qq ?_);refine thn hA fun us s2 ⟨vs,H2,I2,r2,a,C,v,ev,e2,mk,q2⟩=>?_;subst ev;cases r2 with
  | cons ra r2 =>
    cases r2 with
    | cons rv r2 =>
      cases r2;obtain rfl:_=Zk a:=ra;exact xom I2 e2 mk fun s' I'=>⟨.non,H2,I',rfl,q2⟩
section
variable {X:Cx}{pos np hpos:Pos}{body hbody:List Stmt}{b0:Stmt}{cx n:Str}{C0:Addr}{j:Nat}{E:St->XK}{tb th:TS}
theorem xq9 {rest:List ExceptHandler} (hg:Gl X cx) (hm:X.mg cx=some (.ref C0)) (mk0:xdd X.K C0=true) (hN:X.N.Nodup) (hj:X.N[j]?=some n) (hl:X.env.scope.names.lookup n=some .local) (hf:X.env.frame=some X.env.locals) (hst:X.stack=X.env::X.outer)
    (hb:∀ pins xe,xff (X.tryc pins xe) E->PSs (X.tryc pins xe) body tb) (hh:∀ e,PSs (X.hand e) (b0::hbody) th) (hdb:(cx == ("__debug__":Str))=false:=by decide) :
    PS X (.Try body (.ExceptHandler (some (.Name cx np)) (some n) (b0::hbody) hpos::rest) [] [] pos) (tTry X.K C0 j E tb th):=by
  intro pins s Z H D I ⟨h1,h2⟩;refine wpAny_Try_except ?_;have ok:=I.ok;have T:xff (X.tryc pins (fun e s₁=>wpAny (model X.prog X.w) X.A (noteFrame e X.env) (fun _ s₂=>wpAny (model X.prog X.w) X.A (setFlight e none) (fun _ s₃=>wpAny (model X.prog X.w) X.A (handleBy e X.env (.ExceptHandler (some (.Name cx np)) (some n) (b0::hbody) hpos::rest)) (SP X pins D) X.xe s₃) X.xe s₂) X.xe s₁)) E:=by
    intro pl σ' H' s' e C od tb' I' x he tbs q;have J:=I'.untryc;have tbs':Tbs X pins H' tb':=fun T z=>by
      obtain⟨a1,a2,a3,a4,a5⟩:=tbs T z;exact⟨a1,a2,a3,a4,fun p hp=>a5 p (ZL _ hp)⟩
    obtain⟨mkC,mro,hth⟩:=h2 σ' e C H' q;have fr:X.A.frames=some (X.env::X.outer):=by rw[<- hst]; exact J.ok.frames
    have ff:s'.heap.FunFrames X.base (X.env::X.outer):=by rw[<- hst]; exact J.stack
    refine xly (L:=X.env.locals) fr ff hf x fun h' T st sT x'=>?_;rw[<- hst] at st;have J2:=J.noted he tbs' st x';have fr2:X.base.objs.size<=s'.heap.objs.size:=Z6 J.ok.bsz J.sz;have ff2:h'.FunFrames X.base X.stack:=J2.stack;have nT:∀ b∈frs X.stack,b≠T:=fun b hb z=>by
      obtain⟨_,o,ho,hnf⟩:=J.stack.mem hb;rw[z] at ho;exact absurd (Zs ho) (Nat.not_lt.mpr sT)
    have fresh:=J.size_lt sT;have tbs2:Tbs X pins H' (some T):=fun T' z=>by
      cases z;exact⟨Z6 J.sz sT,fresh.1,fresh.2.1,fresh.2.2.1,fresh.2.2.2⟩
    obtain⟨nm,qn,N,bs,bm,hz,sn,sub,ab,col,dd,k0,k1,k2,k3,k5,gC,TC⟩:=xe3 J2.kIn mkC;obtain⟨nm',qn',N',bs',bm',hz',sn',sub',ab',col',dd',j0,j1,j2,j3,j5,gC0,TC0⟩:=xe3 J2.kIn mk0;refine wpAny_handleBy_cons (codeAny_handlers_test (xc6 (X:=X.hand e) (J2.hand e) hg hm ?_ hdb)) (by intro z; cases z);obtain⟨oe,_,ge,ce,_⟩:=id x';have hmr:(Zk C::bm).contains (.ref C0)=true:=by
      obtain⟨cd,e1,e2⟩:=Option.bind_eq_some_iff.mp mro;have e3:(Zk C::bm)=cd.mro:=by
        unfold PySem.W.clsIn at e1;split at e1
        . rename_i c1 d1 cd1 sl1 ho
          cases e1;have z:=(J2.kIn _ _ ho).symm.trans gC;injection z with z
          injection z with _ _ z _
          injection z with z
          rw[z]
        . cases e1
      rw[e3];split at e2
      . cases e2
      . exact ZN.inj e2
    refine xj3 (M:=model X.prog X.w) gC gC0 ge ce (xhx TC0) hmr ?_;show codeAny _ _ _ _ _;refine codeAny_handlers_suite_as (xob (fs:=frs X.stack) x' nT fun h3 st3 x3=>?_);have J3:Inv X pins σ' H' { s' with heap:=h3 }:=J2.noted he tbs2 st3 x3;refine xez (v:=V.ref e) J3 hN hj (.inl hl) rfl (fun s4 J4=>?_) (.inr hl);refine ZU (hh e pins s4 _ H' _ (J4.hand e) hth) (fun f s5 q5=>?_) fun _ _ z=>z.elim;have fin:∀{σ5:St}{H5:Hp}{Q:Unit->Shared->Prop},Inv (X.hand e) pins σ5 H5 s5->(∀ s6,Inv X pins (σ5.set j none) H5 s6->Q () s6) ->
        wpAny (model X.prog X.w) X.A (do bindName X.env n ZW; unbindBehindTheSuite X.env n hpos) Q X.xe s5:=fun {σ5 H5 Q} K5 kq=>by
      have K6:Inv X pins σ5 H5 s5:=Inv.unhand ok K5;obtain⟨m,hm5,hv5⟩:=K6.loc;refine xlz (show X.env.kindOf n=some .local from hl) hm5 (by simp[ok.kind]) fun h6 m6 n6 e6 s6=>kq _ (K6.gone hN hj hl hm5 hv5 n6 e6 s6)
    cases f with
    | next =>
      obtain⟨σ5,H5,K5,z⟩:=q5;exact fin K5 fun s6 K6=>⟨_,H5,K6,z⟩
    | brk =>
      obtain⟨σ5,H5,K5,z⟩:=q5;exact fin K5 fun s6 K6=>⟨_,H5,K6,z⟩
    | cont =>
      obtain⟨σ5,H5,K5,z⟩:=q5;exact fin K5 fun s6 K6=>⟨_,H5,K6,z⟩
    | ret u =>
      obtain⟨v,σ5,H5,K5,r,z⟩:=q5;exact fin K5 fun s6 K6=>⟨v,_,H5,K6,r,z⟩
  refine ZU (hb pins _ T [] s Z H D (I.tryc _) h1) (fun f s1 q=>?_) fun u s1 q=>q;cases f with
  | next =>
    obtain⟨σ',H',J,z⟩:=q;exact Qs ⟨σ',H',J.untryc,z⟩
  | brk =>
    obtain⟨σ',H',J,z⟩:=q;exact⟨σ',H',J.untryc,z⟩
  | cont =>
    obtain⟨σ',H',J,z⟩:=q;exact⟨σ',H',J.untryc,z⟩
  | ret u =>
    obtain⟨v,σ',H',J,r,z⟩:=q;exact⟨v,σ',H',J.untryc,r,z⟩
end
end L2
namespace L2
open PySem PySem.Spec PyProof.Rows XL PySem.W
section
variable {n:Nat}{g:TG}{Z:St}{fr:List Nat}{tc:TT}{te:TE}{l:Addr}{H1:Hp}{Q:VK}
theorem xj6 {d:Addr}{ob:Obj}{kvs:List (List Key × V)} (hd:H1 d=some (.frz ob (.dT kvs))) (hlen:kvs.length<sizeLine) (hl:H1 l=none) (J:Nat->List V->Hp->Prop) (j0:∀ H,J 0 [] H) (stab:∀ i ys H H',Tp H H'->J i ys H->J i ys H')
    (step:∀(i:Nat) (k:List Key) (x:V) (q:Addr) (H2:Hp) (ys:List V),kvs[i]?=some (k,x)->H2 q=some (.tup (k.map kV))->Same H1 H2->J i ys H2->∀(N:V->Hp->Prop) (M:Hp->Prop),(∀ y H',Same H2 H'->J (i+1) (ys++[y]) H'->N y H')->(∀ H',Same H2 H'->J (i+1) ys H'->M H') ->
      g (.ref q) (blk0 Z fr n) H2 fun σ' H3=>tc σ' H3 fun b H4=>if b=true then te σ' H4 N else M H4)
    (fin:∀ ys H2,Same H1 H2->H2 l=some (.lst ys)->ys.length<=kvs.length->J kvs.length ys H2->Q (.ref l) H2):xd6 (Itkt d ob kvs) n g Z fr tc te l H1 Q:=by
  refine xcr kvs.length (fun i ys H2=>Same H1 H2/\H2 l=some (.lst ys)/\ys.length<=i/\J i ys H2) ?_ ?_ ?_ ?_
  . exact⟨fun b u e=>by rw[xh (xg e hl)]; exact e,xi,Zi _,j0 _⟩
  . rintro i ys H2 lt ⟨s,_⟩
    exact⟨s _ _ hd,lt⟩
  . rintro i ys H2 v H3 lt ⟨s,e,ly,f⟩ ⟨rfl,k,x,q,hk,rfl,hq⟩ N hN
    refine step i k x q H3 ys hk hq s f _ _ (fun y H' s' fy=>?_) (fun H' s' fy=>?_)
    . have e':=s' _ _ e
      refine⟨e',by omega,hN _ _ ⟨fun b u z=>?_,xi,by rw[Zu,ZS]; omega,stab _ _ _ _ (xjp e') fy⟩⟩;rw[xh (xg z hl)];exact s' _ _ (s _ _ z)
    . exact hN _ _ ⟨s.trans s',s' _ _ e,by omega,fy⟩
  . rintro ys H2 ⟨s,e,ly,f⟩
    exact⟨⟨s _ _ hd,rfl⟩,fin ys H2 s e ly f⟩
end
end L2
namespace Geo
def dn (y r:Int):Int:=if y<r then 1 else -1
def upN (y r:Int):Nat:=if y<r then (r-y).toNat else (y-r).toNat
def wayI (b:Bool):Int:=if b then -1 else 1
def lvN (w x:Int) (b:Bool):Nat:=if b then (x+1).toNat else (w+2-x).toNat
def upL (x y r:Int):List (Int × Int):=(ZI (upN y r)).map fun (i:Nat)=>(x,y+(i:Int)*dn y r)
def lvL (w x:Int) (b:Bool) (r:Int):List (Int × Int):=(ZI (lvN w x b)).map fun (i:Nat)=>(x+(i:Int)*wayI b,r)
def cells (w x y:Int) (b:Bool) (r:Int):List (Int × Int):=upL x y r++lvL w x b r
def btw (v a b:Int):Prop:=min a b<=v/\v<=max a b
instance (v a b:Int):Decidable (btw v a b):=inferInstanceAs (Decidable (_/\_))
theorem erase_ok {ls:List Int}{k:Nat}{y:Int} (nd:ls.Nodup) (h:ls[k]?=some y):(ls.eraseIdx k).Nodup/\y∉ls.eraseIdx k/\(∀ z∈ls.eraseIdx k,z∈ls)/\y∈ls:=by
 obtain⟨hk,hy⟩:=Zh.mp h;have e:ls.take k++y::ls.drop (k+1)=ls:=by
  rw[<- hy,List.getElem_cons_drop,Qg]
 have e2:ls.eraseIdx k=ls.take k++ls.drop (k+1):=Qd ls k;have nd2:=nd;rw[<- e,Jc,ZQ] at nd2;obtain⟨n1,⟨n2,n3⟩,n4⟩:=nd2;refine⟨?_,?_,fun z hz=>List.mem_of_mem_eraseIdx hz,hy▸Jj hk⟩
 .rw [e2,Jc];exact⟨n1,n3,fun a ha b hb=>n4 a ha b (Zm _ hb)⟩
 .rw [e2,ZB];rintro (z|z)
  .exact n4 _ z _ Zp rfl
  .exact n2 z
end Geo
namespace Kp
section
variable {N S:Type} [DecidableEq N] [DecidableEq S]
structure Mt (room:N->List S) (so:N->Option S) (ho:S->Option N):Prop where
 iff:∀ n s,so n=some s↔ho s=some n
 rm:∀ n s,so n=some s->s∈room n
theorem Mt.inj {room:N->List S}{so:N->Option S}{ho:S->Option N} (m:Mt room so ho) {a b:N}{s:S} (ha:so a=some s) (hb:so b=some s):a=b:=by
 have x:=(m.iff a s).mp ha;rw[(m.iff b s).mp hb] at x;exact (ZN.inj x).symm
theorem xdt {so:N->Option S}:∀{T:List N},T.Nodup->(∀ a∈T,∀ b∈T,∀ s,so a=some s->so b=some s->a=b)->(T.filterMap so).Nodup
 | [],_,_=>JP
 | a::T,nd,inj=>by
  rw[ZQ] at nd;have ih:=xdt nd.2 fun x hx y hy=>inj x (Zm _ hx) y (Zm _ hy);rw[JW];cases e:so a with
  | none=>exact ih
  | some s =>
   refine ZQ.mpr ⟨fun z=>?_,ih⟩;obtain⟨b,hb,eb⟩:=Yt.mp z;rw[inj a (Zp ..) b (Zm _ hb) s e eb] at nd;exact nd.1 hb
theorem xco {so:N->Option S}:∀{T:List N},(∀ a∈T,(so a).isSome)->(T.filterMap so).length=T.length
 | [],_=>rfl
 | a::T,h=>by
  rw[JW];cases e:so a with
  | none =>
   have:=h a (Zp ..);rw[e] at this;cases this
  | some s =>
   show (s::T.filterMap so).length=_;rw[ZJ,ZJ,xco fun b hb=>h b (Zm _ hb)]
def tog (room:N->List S) (T:List N) (s:S):Bool:=T.any fun n=>decide (s∈room n)
theorem hall {room:N->List S}{so:N->Option S}{ho:S->Option N} (m:Mt room so ho) {ss:List S} (hr:∀ n s,s∈room n->s∈ss) {T:List N} (nd:T.Nodup) (h:∀ a∈T,(so a).isSome):T.length<=ss.countP (tog room T):=by
 rw[Qu,<- xco h];refine Q3.length_le_of_subset (xdt nd fun a _ b _ s ha hb=>m.inj ha hb) fun s hs=>?_;obtain⟨n,hn,e⟩:=Yt.mp hs;have r:=m.rm n s e;exact ZR.mpr ⟨hr n s r,Jw.mpr ⟨n,hn,decide_eq_true r⟩⟩
structure Crowd (room:N->List S) (so:N->Option S) (name:N) (hs:List N):Prop where
 nd:(name::hs).Nodup
 has:∀ h∈hs,(so h).isSome
 all:∀ c∈name::hs,∀ s∈room c,∃ h∈hs,so h=some s
theorem Crowd.count {room:N->List S}{so:N->Option S}{ho:S->Option N} (m:Mt room so ho) {name:N}{hs:List N} (c:Crowd room so name hs) {ss:List S} (nd:ss.Nodup) (hr:∀ n s,s∈room n->s∈ss):ss.countP (tog room (name::hs))=hs.length:=by
 rw[Qu];have ndh:=(ZQ.mp c.nd).2;refine Nat.le_antisymm ?_ ?_
 .rw [<- xco c.has];refine Q3.length_le_of_subset (YJ.filter _ nd) fun s hs'=>?_;obtain⟨n,hn,e⟩:=Jw.mp (ZR.mp hs').2;obtain⟨h,hh,e'⟩:=c.all n hn s (of_decide_eq_true e);exact Yt.mpr ⟨h,hh,e'⟩
 .rw [<- xco c.has];refine Q3.length_le_of_subset (xdt ndh fun a _ b _ s ha hb=>m.inj ha hb) fun s hs'=>?_;obtain⟨n,hn,e⟩:=Yt.mp hs';have r:=m.rm n s e;exact ZR.mpr ⟨hr n s r,Jw.mpr ⟨n,Zm _ hn,decide_eq_true r⟩⟩
def upd1 {α β:Type} [DecidableEq α] (f:α->Option β) (a:α) (b:β):α->Option β:=fun z=>if z=a then some b else f z
structure Hand (room:N->List S) (dom:N->Bool) (so:N->Option S) (ho:S->Option N) (wait:S):Prop where
 iff:∀ n s,s≠wait->(so n=some s↔ho s=some n)
 rm:∀ n s,so n=some s->s∈room n
 no:∀ n,so n≠some wait
 dm:∀ n,(so n).isSome=dom n
theorem Mt.hand {room:N->List S}{so:N->Option S}{ho:S->Option N} (m:Mt room so ho) {s:S} (h:ho s=none):Hand room (fun n=>(so n).isSome) so ho s :=
 ⟨fun n s _=>m.iff n s,m.rm,fun n e=>(by rw[(m.iff n s).mp e] at h; cases h),fun _=>rfl⟩
theorem Hand.step {room:N->List S}{dom:N->Bool}{so:N->Option S}{ho:S->Option N}{s s1:S}{a:N} (g:Hand room dom so ho s) (ra:s∈room a) (e:so a=some s1):Hand room dom (upd1 so a s) (upd1 ho s a) s1:=by
 have ne:s1≠s:=fun z=>g.no a (z▸e);refine⟨fun n x hx=>?_,fun n x hx=>?_,fun n hx=>?_,fun n=>?_⟩
 .unfold upd1;by_cases h1:n=a
  .subst h1;rw[if_pos rfl];by_cases h2:x=s
   .rw [if_pos h2,h2];simp
   .rw [if_neg h2];constructor
    .intro z
     exact absurd (ZN.inj z).symm h2
    .intro z
     have:=(g.iff n x h2).mpr z;rw[e] at this;exact absurd (ZN.inj this).symm hx
  .rw [if_neg h1];by_cases h2:x=s
   .subst h2;rw[if_pos rfl];constructor
    .intro z
     exact absurd z (g.no n)
    .intro z
     exact absurd (ZN.inj z).symm h1
   .rw [if_neg h2];exact g.iff n x h2
 .unfold upd1 at hx;split at hx
  .rename_i h1
   rw[h1,<- ZN.inj hx];exact ra
  .exact g.rm n x hx
 .unfold upd1 at hx;split at hx
  .exact ne (ZN.inj hx).symm
  .rename_i h1
   have x1:=(g.iff n s1 ne).mp hx;rw[(g.iff a s1 ne).mp e] at x1;exact h1 (ZN.inj x1).symm
 .unfold upd1;split
  .rename_i h1
   rw[h1,<- g.dm a,e];rfl
  .exact g.dm n
theorem Hand.last {room:N->List S}{dom:N->Bool}{so:N->Option S}{ho:S->Option N}{s:S}{a:N} (g:Hand room dom so ho s) (ra:s∈room a) (e:so a=none):Mt room (upd1 so a s) (upd1 ho s a)/\∀ n,(upd1 so a s n).isSome=(decide (n=a)||dom n):=by
 refine⟨⟨fun n x=>?_,fun n x hx=>?_⟩,fun n=>?_⟩
 .unfold upd1;by_cases h1:n=a
  .subst h1;rw[if_pos rfl];by_cases h2:x=s
   .rw [if_pos h2,h2];simp
   .rw [if_neg h2];constructor
    .intro z
     exact absurd (ZN.inj z).symm h2
    .intro z
     have:=(g.iff n x h2).mpr z;rw[e] at this;cases this
  .rw [if_neg h1];by_cases h2:x=s
   .subst h2;rw[if_pos rfl];constructor
    .intro z
     exact absurd z (g.no n)
    .intro z
     exact absurd (ZN.inj z).symm h1
   .rw [if_neg h2];exact g.iff n x h2
 .unfold upd1 at hx;split at hx
  .rename_i h1
   rw[h1,<- ZN.inj hx];exact ra
  .exact g.rm n x hx
 .unfold upd1;split
  .rename_i h1
   simp[h1]
  .rename_i h1
   rw[<- g.dm n];simp[h1]
end
inductive Rch {α:Type} (f:α->Option α):α->α->Prop
 | refl (a:α):Rch f a a
 | step {a b c:α}:Rch f a b->f b=some c->Rch f a c
theorem Rch.trans {α:Type}{f:α->Option α}{a b c:α} (h:Rch f a b) (g:Rch f b c):Rch f a c:=by
 induction g with
 | refl=>exact h
 | step _ e ih=>exact .step ih e
theorem Rch.head {α:Type}{f:α->Option α}{a b:α} (h:Rch f a b):a=b\/∃ d,f a=some d/\Rch f d b:=by
 induction h with
 | refl=>exact .inl rfl
 | step g e ih =>
  rcases ih with rfl|⟨d,e1,g1⟩
  .exact .inr ⟨_,e,.refl _⟩
  .exact .inr ⟨d,e1,.step g1 e⟩
theorem Rch.lin {α:Type}{f:α->Option α}{a b c:α} (h:Rch f a b) (g:Rch f a c):Rch f b c\/Rch f c b:=by
 induction h with
 | refl=>exact .inl g
 | step h e ih =>
  rcases ih with z|z
  .rcases z.head with rfl|⟨d,e1,g1⟩
   .exact .inr (.step (.refl _) e)
   .rw [e] at e1;cases e1;exact .inl g1
  .exact .inr (.step z e)
theorem Rch.det {α:Type}{f:α->Option α}{a b c:α} (h:Rch f a b) (n1:f b=none) (g:Rch f a c) (n2:f c=none):b=c:=by
 rcases h.lin g with z|z
 .rcases z.head with e|⟨d,e1,_⟩
  .exact e
  .rw [n1] at e1;cases e1
 .rcases z.head with e|⟨d,e1,_⟩
  .exact e.symm
  .rw [n2] at e1;cases e1
inductive KS (N S:Type) where
 | ask (crowd:List N) (asked:S->Option N) (i j:Nat)
 | hand (so:N->Option S) (ho:S->Option N) (asked:S->Option N) (s:S)
 | out (crowd:List N)
 | fin (so:N->Option S) (ho:S->Option N)
section
variable {N S:Type} [DecidableEq N] [DecidableEq S]
def kstep (room:N->List S) (so:N->Option S) (ho:S->Option N):KS N S->Option (KS N S)
 | .ask crowd asked i j=>match crowd[i]? with
  | none=>some (.out crowd)
  | some a=>match (room a)[j]? with
   | none=>some (.ask crowd asked (i+1) 0)
   | some s=>match asked s with
    | some _=>some (.ask crowd asked i (j+1))
    | none=>match ho s with
     | none=>some (.hand so ho (upd1 asked s a) s)
     | some h=>some (.ask (crowd++[h]) (upd1 asked s a) i (j+1))
 | .hand so1 ho1 asked s=>match asked s with
  | none=>none
  | some a=>match so1 a with
   | none=>some (.fin (upd1 so1 a s) (upd1 ho1 s a))
   | some l=>some (.hand (upd1 so1 a s) (upd1 ho1 s a) asked l)
 | .out _=>none
 | .fin _ _=>none
variable {room:N->List S}{so so1:N->Option S}{ho ho1 asked:S->Option N}{crowd:List N}{i j:Nat}{a h:N}{s l:S}
theorem k_end (e:crowd[i]?=none):kstep room so ho (.ask crowd asked i j)=some (.out crowd):=by
 simp only[kstep,e]
theorem k_next (e:crowd[i]?=some a) (e2:(room a)[j]?=none):kstep room so ho (.ask crowd asked i j)=some (.ask crowd asked (i+1) 0):=by
 simp only[kstep,e,e2]
theorem k_old (e:crowd[i]?=some a) (e2:(room a)[j]?=some s) (e3:asked s=some h):kstep room so ho (.ask crowd asked i j)=some (.ask crowd asked i (j+1)):=by
 simp only[kstep,e,e2,e3]
theorem k_free (e:crowd[i]?=some a) (e2:(room a)[j]?=some s) (e3:asked s=none) (e4:ho s=none):kstep room so ho (.ask crowd asked i j)=some (.hand so ho (upd1 asked s a) s):=by
 simp only[kstep,e,e2,e3,e4]
theorem k_grow (e:crowd[i]?=some a) (e2:(room a)[j]?=some s) (e3:asked s=none) (e4:ho s=some h):kstep room so ho (.ask crowd asked i j)=some (.ask (crowd++[h]) (upd1 asked s a) i (j+1)):=by
 simp only[kstep,e,e2,e3,e4]
theorem k_hand (e:asked s=some a) (e2:so1 a=some l):kstep room so ho (.hand so1 ho1 asked s)=some (.hand (upd1 so1 a s) (upd1 ho1 s a) asked l):=by
 simp only[kstep,e,e2]
theorem k_fin (e:asked s=some a) (e2:so1 a=none):kstep room so ho (.hand so1 ho1 asked s)=some (.fin (upd1 so1 a s) (upd1 ho1 s a)):=by
 simp only[kstep,e,e2]
end
end Kp
namespace S41
open PySem L2 XL
theorem hmm {j k A}(r:L2.Room true k A)(h:j<=k:=by decide):L2.Room true j A:=r.mono h
def top (i:Nat):Stmt:=PySem.Challenge.pw_rimnotes_k41_least_and_prices.main.body.getD i (.Pass ⟨0,0,0,0⟩)
abbrev s_aj:Stmt:=xar (top 17) 0
abbrev s_ae:Stmt:=xar (top 19) 0
abbrev s_m:Stmt:=xar (top 19) 1
abbrev s_d:Stmt:=xar (top 19) 2
abbrev xew:Stmt:=top 20
abbrev xjh:Stmt:=top 21
abbrev s_ap:Stmt:=xar (top 23) 0
abbrev s_t:Stmt:=xar (top 24) 3
abbrev s_p:Stmt:=xar (top 25) 3
abbrev s_av:Stmt:=top 26
abbrev s_ak:Stmt:=xar (top 28) 0
abbrev s_x:Stmt:=xar (top 28) 1
abbrev s_v:Stmt:=xar (top 28) 2
abbrev s_s:Stmt:=xar (top 28) 3
abbrev s_g:Stmt:=xar (top 28) 4
abbrev xfe:Stmt:=top 29
abbrev s_ag:Stmt:=top 31
abbrev s_ax:Stmt:=top 32
abbrev s_af:Stmt:=xar (top 38) 0
abbrev s_a:Stmt:=xar (top 38) 1
abbrev s_h:Stmt:=xar (top 38) 4
abbrev s_n:Stmt:=xar (top 38) 5
abbrev s_k:Stmt:=xar (top 38) 6
abbrev s_i:Stmt:=xar (top 38) 7
abbrev s_q:Stmt:=xar (top 38) 8
abbrev s_ab:Stmt:=xar (top 38) 9
abbrev s_w:Stmt:=xar (top 38) 10
abbrev s_j:Stmt:=xar (top 38) 11
abbrev s_e:Stmt:=xar (top 38) 15
abbrev s_l:Stmt:=xar (top 38) 16
abbrev s_f:Stmt:=xar (top 38) 17
abbrev s_c:Stmt:=xar (top 38) 18
abbrev s_r:Stmt:=top 40
abbrev s_as:Stmt:=top 41
abbrev s_at:Stmt:=top 42
abbrev s_aq:Stmt:=top 43
abbrev s_al:Stmt:=top 44
abbrev s_aw:Stmt:=top 45
abbrev s_u:Stmt:=top 46
abbrev s_y:Stmt:=top 47
abbrev s_ao:Stmt:=top 48
abbrev s_au:Stmt:=top 49
abbrev s_ar:Stmt:=top 50
abbrev s_ah:Stmt:=top 51
abbrev s_ai:Stmt:=top 52
abbrev s_an:Stmt:=top 53
abbrev xib:Stmt:=top 54
set_option genInjectivity false in
set_option genSizeOf false in
set_option genInjectivity false in
set_option genSizeOf false in
structure Adr where
 f_aj:Addr
 d_aj:FuncData
 f_ae:Addr
 d_ae:FuncData
 f_m:Addr
 d_m:FuncData
 f_d:Addr
 d_d:FuncData
 f_crowds:Addr
 d_crowds:FuncData
 f_fits:Addr
 d_fits:FuncData
 f_ap:Addr
 d_ap:FuncData
 f_t:Addr
 d_t:FuncData
 f_p:Addr
 d_p:FuncData
 f_av:Addr
 d_av:FuncData
 f_ak:Addr
 d_ak:FuncData
 f_x:Addr
 d_x:FuncData
 f_v:Addr
 d_v:FuncData
 f_s:Addr
 d_s:FuncData
 f_g:Addr
 d_g:FuncData
 f_least:Addr
 d_least:FuncData
 f_ag:Addr
 d_ag:FuncData
 f_ax:Addr
 d_ax:FuncData
 f_af:Addr
 d_af:FuncData
 f_a:Addr
 d_a:FuncData
 T_a:Addr
 f_h:Addr
 d_h:FuncData
 f_n:Addr
 d_n:FuncData
 f_k:Addr
 d_k:FuncData
 f_i:Addr
 d_i:FuncData
 f_q:Addr
 d_q:FuncData
 f_ab:Addr
 d_ab:FuncData
 f_w:Addr
 d_w:FuncData
 f_j:Addr
 d_j:FuncData
 f_e:Addr
 d_e:FuncData
 f_l:Addr
 d_l:FuncData
 f_f:Addr
 d_f:FuncData
 f_c:Addr
 d_c:FuncData
 f_r:Addr
 d_r:FuncData
 f_as:Addr
 d_as:FuncData
 f_at:Addr
 d_at:FuncData
 f_aq:Addr
 d_aq:FuncData
 f_al:Addr
 d_al:FuncData
 f_aw:Addr
 d_aw:FuncData
 f_u:Addr
 d_u:FuncData
 f_y:Addr
 d_y:FuncData
 f_ao:Addr
 d_ao:FuncData
 f_au:Addr
 d_au:FuncData
 f_ar:Addr
 d_ar:FuncData
 f_ah:Addr
 d_ah:FuncData
 f_ai:Addr
 d_ai:FuncData
 f_an:Addr
 d_an:FuncData
 f_law:Addr
 d_law:FuncData
 C_ay:Addr
 C_ac:Addr
 C_z:Addr
 C_bg:Addr
 C_am:Addr
 C_ad:Addr
 C_o:Addr
 C_b:Addr
 D_aa:Addr
structure Txt (w:World) (K:Zd) (mg:Str->Option Value) (t:Adr):Prop where
 g_ay:mg "RimError"=some (.ref t.C_ay)
 g_ac:mg "NoRoom"=some (.ref t.C_ac)
 g_z:mg "Seating"=some (.ref t.C_z)
 g_am:mg "LeftSide"=some (.ref t.C_am)
 g_ad:mg "RightSide"=some (.ref t.C_ad)
 g_o:mg "Prices"=some (.ref t.C_o)
 g_b:mg "Picture"=some (.ref t.C_b)
 F_aj:Fun K "__init__" "NoRoom.__init__" s_aj t.f_aj t.d_aj
 b_aj:xaa K t.d_aj ["self", "holders"] []
 F_ae:Fun K "__init__" "Seating.__init__" s_ae t.f_ae t.d_ae
 b_ae:xaa K t.d_ae ["self"] []
 F_m:Fun K "hand_on" "Seating.hand_on" s_m t.f_m t.d_m
 b_m:xaa K t.d_m ["self", "asked_by", "free_seat"] []
 F_d:Fun K "crowd_with" "Seating.crowd_with" s_d t.f_d t.d_d
 b_d:xaa K t.d_d ["self", "name", "rooms"] []
 g_crowds:mg "crowds"=some (.ref t.f_crowds)
 F_crowds:Fun K "crowds" "crowds" xew t.f_crowds t.d_crowds
 b_crowds:xaa K t.d_crowds ["picture", "names"] []
 g_fits:mg "fits"=some (.ref t.f_fits)
 F_fits:Fun K "fits" "fits" xjh t.f_fits t.d_fits
 b_fits:xaa K t.d_fits ["picture", "names"] []
 F_ap:Fun K "__init__" "Side.__init__" s_ap t.f_ap t.d_ap
 b_ap:xaa K t.d_ap ["self", "width"] []
 F_t:Fun K "across" "LeftSide.across" s_t t.f_t t.d_t
 b_t:xaa K t.d_t ["self", "x"] []
 F_p:Fun K "across" "RightSide.across" s_p t.f_p t.d_p
 b_p:xaa K t.d_p ["self", "x"] []
 g_av:mg "side_of"=some (.ref t.f_av)
 F_av:Fun K "side_of" "side_of" s_av t.f_av t.d_av
 b_av:xaa K t.d_av ["word", "width"] []
 F_ak:Fun K "__init__" "Prices.__init__" s_ak t.f_ak t.d_ak
 b_ak:xaa K t.d_ak ["self", "picture"] []
 F_x:Fun K "let_in" "Prices.let_in" s_x t.f_x t.d_x
 b_x:xaa K t.d_x ["self", "name"] []
 F_v:Fun K "ask_on" "Prices.ask_on" s_v t.f_v t.d_v
 b_v:xaa K t.d_v ["self", "askers", "asked_by"] []
 F_s:Fun K "nearest" "Prices.nearest" s_s t.f_s t.d_s
 b_s:xaa K t.d_s ["self", "askers", "asked_by"] []
 F_g:Fun K "shift_prices" "Prices.shift_prices" s_g t.f_g t.d_g
 b_g:xaa K t.d_g ["self", "askers", "asked_by", "gap"] []
 g_least:mg "least"=some (.ref t.f_least)
 F_least:Fun K "least" "least" xfe t.f_least t.d_least
 b_least:xaa K t.d_least ["picture", "names"] []
 g_ag:mg "is_whole"=some (.ref t.f_ag)
 F_ag:Fun K "is_whole" "is_whole" s_ag t.f_ag t.d_ag
 b_ag:xaa K t.d_ag ["thing", "low", "high"] []
 g_ax:mg "is_name"=some (.ref t.f_ax)
 F_ax:Fun K "is_name" "is_name" s_ax t.f_ax t.d_ax
 b_ax:xaa K t.d_ax ["thing"] []
 F_af:Fun K "__init__" "Picture.__init__" s_af t.f_af t.d_af
 b_af:xaa K t.d_af ["self", "width", "height"] []
 F_a:FunD K "put" "Picture.put" s_a t.T_a t.f_a t.d_a
 b_a:xaa K t.d_a ["self", "name", "x", "y", "sides", "low", "high"] []
 F_h:Fun K "open_seat" "Picture.open_seat" s_h t.f_h t.d_h
 b_h:xaa K t.d_h ["self", "side", "row"] []
 F_n:Fun K "shut_seat" "Picture.shut_seat" s_n t.f_n t.d_n
 b_n:xaa K t.d_n ["self", "side", "row"] []
 F_k:Fun K "points" "Picture.points" s_k t.f_k t.d_k
 b_k:xaa K t.d_k ["self"] []
 F_i:Fun K "seats" "Picture.seats" s_i t.f_i t.d_i
 b_i:xaa K t.d_i ["self"] []
 F_q:Fun K "place_of" "Picture.place_of" s_q t.f_q t.d_q
 b_q:xaa K t.d_q ["self", "name"] []
 F_ab:Fun K "may" "Picture.may" s_ab t.f_ab t.d_ab
 b_ab:xaa K t.d_ab ["self", "name", "side", "row"] []
 F_w:Fun K "length" "Picture.length" s_w t.f_w t.d_w
 b_w:xaa K t.d_w ["self", "name", "side", "row"] []
 F_j:Fun K "seats_for" "Picture.seats_for" s_j t.f_j t.d_j
 b_j:xaa K t.d_j ["self", "name"] []
 F_e:Fun K "check_name" "Picture.check_name" s_e t.f_e t.d_e
 b_e:xaa K t.d_e ["self", "name"] []
 F_l:Fun K "check_cell" "Picture.check_cell" s_l t.f_l t.d_l
 b_l:xaa K t.d_l ["self", "x", "y"] []
 F_f:Fun K "check_lines" "Picture.check_lines" s_f t.f_f t.d_f
 b_f:xaa K t.d_f ["self", "name", "x", "y"] []
 F_c:Fun K "check_seat" "Picture.check_seat" s_c t.f_c t.d_c
 b_c:xaa K t.d_c ["self", "side", "row"] []
 g_r:mg "_law_cell"=some (.ref t.f_r)
 F_r:Fun K "_law_cell" "_law_cell" s_r t.f_r t.d_r
 b_r:xaa K t.d_r ["_law_script", "_law_k"] []
 g_as:mg "_law_mix"=some (.ref t.f_as)
 F_as:Fun K "_law_mix" "_law_mix" s_as t.f_as t.d_as
 b_as:xaa K t.d_as ["_law_cell_here", "_law_k"] []
 g_at:mg "_law_whole"=some (.ref t.f_at)
 F_at:Fun K "_law_whole" "_law_whole" s_at t.f_at t.d_at
 b_at:xaa K t.d_at ["_law_found"] []
 g_aq:mg "_law_names"=some (.ref t.f_aq)
 F_aq:Fun K "_law_names" "_law_names" s_aq t.f_aq t.d_aq
 b_aq:xaa K t.d_aq ["_law_cell_here", "_law_many"] []
 g_al:mg "_law_places"=some (.ref t.f_al)
 F_al:Fun K "_law_places" "_law_places" s_al t.f_al t.d_al
 b_al:xaa K t.d_al ["_law_cell_here", "_law_size_here", "_law_many"] []
 g_aw:mg "_law_size"=some (.ref t.f_aw)
 F_aw:Fun K "_law_size" "_law_size" s_aw t.f_aw t.d_aw
 b_aw:xaa K t.d_aw ["_law_cell_here"] []
 g_u:mg "_law_picture"=some (.ref t.f_u)
 F_u:Fun K "_law_picture" "_law_picture" s_u t.f_u t.d_u
 b_u:xaa K t.d_u ["_law_script"] []
 g_y:mg "_law_lengths"=some (.ref t.f_y)
 F_y:Fun K "_law_lengths" "_law_lengths" s_y t.f_y t.d_y
 b_y:xaa K t.d_y ["_law_picture_here"] []
 g_ao:mg "_law_giving"=some (.ref t.f_ao)
 F_ao:Fun K "_law_giving" "_law_giving" s_ao t.f_ao t.d_ao
 b_ao:xaa K t.d_ao ["_law_lengths_here", "_law_names_here", "_law_pairs"] []
 g_au:mg "_law_due"=some (.ref t.f_au)
 F_au:Fun K "_law_due" "_law_due" s_au t.f_au t.d_au
 b_au:xaa K t.d_au ["_law_lengths_here", "_law_seats", "_law_names_here", "_law_pairs", "_law_prices"] []
 g_ar:mg "_law_crowd"=some (.ref t.f_ar)
 F_ar:Fun K "_law_crowd" "_law_crowd" s_ar t.f_ar t.d_ar
 b_ar:xaa K t.d_ar ["_law_lengths_here", "_law_names_here", "_law_crowd_here"] []
 g_ah:mg "_law_priced"=some (.ref t.f_ah)
 F_ah:Fun K "_law_priced" "_law_priced" s_ah t.f_ah t.d_ah
 b_ah:xaa K t.d_ah ["_law_lengths_here", "_law_seats", "_law_names_here", "_law_found"] []
 g_ai:mg "_law_asked"=some (.ref t.f_ai)
 F_ai:Fun K "_law_asked" "_law_asked" s_ai t.f_ai t.d_ai
 b_ai:xaa K t.d_ai ["_law_picture_here", "_law_names_here"] []
 g_an:mg "_law_alike"=some (.ref t.f_an)
 F_an:Fun K "_law_alike" "_law_alike" s_an t.f_an t.d_an
 b_an:xaa K t.d_an ["_law_picture_here"] []
 g_law:mg "law"=some (.ref t.f_law)
 F_law:Fun K "law" "law" xib t.f_law t.d_law
 x_ac:XC K t.C_ac
 mk_ac:xdd K t.C_ac=true
 k_ac:XMk K t.C_ac t.f_aj
 c_z:Cls K t.C_z
 k_z:Mk K t.C_z t.f_ae
 m_m:Meth K t.C_z "hand_on" t.f_m
 m_d:Meth K t.C_z "crowd_with" t.f_d
 c_am:Cls K t.C_am
 k_am:Mk K t.C_am t.f_ap
 m_t:Meth K t.C_am "across" t.f_t
 c_ad:Cls K t.C_ad
 k_ad:Mk K t.C_ad t.f_ap
 m_p:Meth K t.C_ad "across" t.f_p
 c_o:Cls K t.C_o
 k_o:Mk K t.C_o t.f_ak
 m_x:Meth K t.C_o "let_in" t.f_x
 m_v:Meth K t.C_o "ask_on" t.f_v
 m_s:Meth K t.C_o "nearest" t.f_s
 m_g:Meth K t.C_o "shift_prices" t.f_g
 c_b:Cls K t.C_b
 k_b:Mk K t.C_b t.f_af
 m_a:Meth K t.C_b "put" t.f_a
 m_h:Meth K t.C_b "open_seat" t.f_h
 m_n:Meth K t.C_b "shut_seat" t.f_n
 m_k:Meth K t.C_b "points" t.f_k
 m_i:Meth K t.C_b "seats" t.f_i
 m_q:Meth K t.C_b "place_of" t.f_q
 m_ab:Meth K t.C_b "may" t.f_ab
 m_w:Meth K t.C_b "length" t.f_w
 m_j:Meth K t.C_b "seats_for" t.f_j
 m_e:Meth K t.C_b "check_name" t.f_e
 m_l:Meth K t.C_b "check_cell" t.f_l
 m_f:Meth K t.C_b "check_lines" t.f_f
 m_c:Meth K t.C_b "check_seat" t.f_c
 cg:Y3 K (.builtin "object.__class__") "__get__"=some (some (.builtin "getset_descriptor.__get__"))
 ct:PySem.W.takesIn K (.builtin "object.__class__")=some true
 n_a8:Z4 K (.ref t.C_ad) "width"=some none
 n_az:Z4 K (.ref t.C_b) "placed"=some none
 n_a1:Z4 K (.ref t.C_b) "height"=some none
 n_a4:Z4 K (.ref t.C_b) "width"=some none
 n_a2:Z4 K (.ref t.C_b) "opened"=some none
 n_a0:Z4 K (.ref t.C_z) "holder_of"=some none
 n_a3:Z4 K (.ref t.C_z) "seat_of"=some none
 n_a6:Z4 K (.ref t.C_o) "lengths"=some none
 n_a9:Z4 K (.ref t.C_o) "own"=some none
 n_ba:Z4 K (.ref t.C_o) "rent"=some none
 n_a5:Z4 K (.ref t.C_o) "seating"=some none
 n_a7:Z4 K (.ref t.C_o) "picture"=some none
 n_bb:Z4 K (.ref t.C_ac) "holders"=some none
 n_be:Z4 K (.ref t.C_am) "width"=some none
 n_abs:mg "abs"=none
 n_bool:mg "bool"=none
 n_dict:mg "dict"=none
 n_enumerate:mg "enumerate"=none
 n_int:mg "int"=none
 n_isinstance:mg "isinstance"=none
 n_len:mg "len"=none
 n_list:mg "list"=none
 n_min:mg "min"=none
 n_range:mg "range"=none
 n_reversed:mg "reversed"=none
 n_set:mg "set"=none
 n_sorted:mg "sorted"=none
 n_str:mg "str"=none
 n_tuple:mg "tuple"=none
 mro_ac:Wg K t.C_ac (.ref t.C_ac)=some true
 xga_ay:Y3 K (.ref t.C_ay) "__getattribute__"=some (some (.builtin "type.__getattribute__"))
 xrd_ay:PySem.W.readsIn K t.C_ay (.type "type")=true
 xfi_ay:(match QQ K (.ref t.C_ay) (.type "type") "__init__" with|some (.val (.builtin i))=>i == "ValueError.__init__" | _=>false)=true
 v_bf:∃ tk,mg "MOST_ROWS"=some (.int 16 tk)
 v_bc:∃ tk,mg "MOST_COLUMNS"=some (.int 30 tk)
 v_bd:∃ tk,mg "MOST_POINTS"=some (.int 12 tk)
 g_aa:mg "MIRRORED_SIDES"=some (.ref t.D_aa)
 D_aa:xlv w K t.D_aa [(.inr "left",.str "right"),(.inr "right",.str "left"),(.inr "both",.str "both")]
@[elab_as_elim] theorem xt4 {α:Type}{P:List α->Prop}:(us:List α)->us.length=1->(∀ a0,P [a0])->P us
 | [a0],_,h=>h a0
@[elab_as_elim] theorem xue {α:Type}{P:List α->Prop}:(us:List α)->us.length=2->(∀ a0 a1,P [a0,a1])->P us
 | [a0,a1],_,h=>h a0 a1
@[elab_as_elim] theorem xtl {α:Type}{P:List α->Prop}:(us:List α)->us.length=3->(∀ a0 a1 a2,P [a0,a1,a2])->P us
 | [a0,a1,a2],_,h=>h a0 a1 a2
@[elab_as_elim] theorem xt2 {α:Type}{P:List α->Prop}:(us:List α)->us.length=4->(∀ a0 a1 a2 a3,P [a0,a1,a2,a3])->P us
 | [a0,a1,a2,a3],_,h=>h a0 a1 a2 a3
@[elab_as_elim] theorem xto {α:Type}{P:List α->Prop}:(us:List α)->us.length=5->(∀ a0 a1 a2 a3 a4,P [a0,a1,a2,a3,a4])->P us
 | [a0,a1,a2,a3,a4],_,h=>h a0 a1 a2 a3 a4
@[elab_as_elim] theorem xtu {α:Type}{P:List α->Prop}:(us:List α)->us.length=7->(∀ a0 a1 a2 a3 a4 a5 a6,P [a0,a1,a2,a3,a4,a5,a6])->P us
 | [a0,a1,a2,a3,a4,a5,a6],_,h=>h a0 a1 a2 a3 a4 a5 a6
def gI (K:Zd) (n:Str) (a:Addr):Prop:=QL K mainGlobals n=some (some (.ref a))
def gN (K:Zd) (n:Str):Prop:=QL K mainGlobals n=some none
def fN (K:Zd) (C:Addr) (n:Str):Prop:=Z4 K (.ref C) n=some none
def fI (K:Zd) (C:Addr) (n:Str) (a:Addr):Prop:=Z4 K (.ref C) n=some (some (.ref a))
def fB (K:Zd) (C:Addr) (n:Str) (b:String):Prop:=Z4 K (.ref C) n=some (some (.builtin b))
theorem bi_1 {K:Zd}{x q:Str}{st:Stmt}{f:Addr}{fd:FuncData}{p0:Str} (F:Fun K x q st f fd) (h:∀(kV doc pm:Value) (an:Option Addr) (cdv ct:Value) (a0:Value),bindArgs (Jp x q (xbq st) (xa8 st) (xo st) .none kV doc pm an cdv ct) ⟨[a0],[]⟩=pure (List.zip [p0] [a0]):=by intros; rfl):xaa K fd [p0] []:=F.binds fun a b c d e f us hl=>xt4 us hl (h a b c d e f)
theorem bi_2 {K:Zd}{x q:Str}{st:Stmt}{f:Addr}{fd:FuncData}{p0 p1:Str} (F:Fun K x q st f fd) (h:∀(kV doc pm:Value) (an:Option Addr) (cdv ct:Value) (a0 a1:Value),bindArgs (Jp x q (xbq st) (xa8 st) (xo st) .none kV doc pm an cdv ct) ⟨[a0,a1],[]⟩=pure (List.zip [p0,p1] [a0,a1]):=by intros; rfl):xaa K fd [p0,p1] []:=F.binds fun a b c d e f us hl=>xue us hl (h a b c d e f)
theorem bi_3 {K:Zd}{x q:Str}{st:Stmt}{f:Addr}{fd:FuncData}{p0 p1 p2:Str} (F:Fun K x q st f fd) (h:∀(kV doc pm:Value) (an:Option Addr) (cdv ct:Value) (a0 a1 a2:Value),bindArgs (Jp x q (xbq st) (xa8 st) (xo st) .none kV doc pm an cdv ct) ⟨[a0,a1,a2],[]⟩=pure (List.zip [p0,p1,p2] [a0,a1,a2]):=by intros; rfl):xaa K fd [p0,p1,p2] []:=F.binds fun a b c d e f us hl=>xtl us hl (h a b c d e f)
theorem bi_4 {K:Zd}{x q:Str}{st:Stmt}{f:Addr}{fd:FuncData}{p0 p1 p2 p3:Str} (F:Fun K x q st f fd) (h:∀(kV doc pm:Value) (an:Option Addr) (cdv ct:Value) (a0 a1 a2 a3:Value),bindArgs (Jp x q (xbq st) (xa8 st) (xo st) .none kV doc pm an cdv ct) ⟨[a0,a1,a2,a3],[]⟩=pure (List.zip [p0,p1,p2,p3] [a0,a1,a2,a3]):=by intros; rfl):xaa K fd [p0,p1,p2,p3] []:=F.binds fun a b c d e f us hl=>xt2 us hl (h a b c d e f)
theorem bi_5 {K:Zd}{x q:Str}{st:Stmt}{f:Addr}{fd:FuncData}{p0 p1 p2 p3 p4:Str} (F:Fun K x q st f fd) (h:∀(kV doc pm:Value) (an:Option Addr) (cdv ct:Value) (a0 a1 a2 a3 a4:Value),bindArgs (Jp x q (xbq st) (xa8 st) (xo st) .none kV doc pm an cdv ct) ⟨[a0,a1,a2,a3,a4],[]⟩=pure (List.zip [p0,p1,p2,p3,p4] [a0,a1,a2,a3,a4]):=by intros; rfl):xaa K fd [p0,p1,p2,p3,p4] []:=F.binds fun a b c d e f us hl=>xto us hl (h a b c d e f)
theorem txt_mk {w:World}{K:Zd}{h:Heap}{mg:Str->Option Value} (X:K.In h) (G:h.Ns mainGlobals mg) {C_ay C_ac C_z C_bg C_am C_ad C_o C_b f_aj f_ae f_m f_d f_crowds f_fits f_ap f_t f_p f_av f_ak f_x f_v f_s f_g f_least f_ag f_ax f_af f_a T_a f_h f_n f_k f_i f_q f_ab f_w f_j f_e f_l f_f f_c f_r f_as f_at f_aq f_al f_aw f_u f_y f_ao f_au f_ar f_ah f_ai f_an f_law:Addr}{d_aj d_ae d_m d_d d_crowds d_fits d_ap d_t d_p d_av d_ak d_x d_v d_s d_g d_least d_ag d_ax d_af d_h d_n d_k d_i d_q d_ab d_w d_j d_e d_l d_f d_c d_r d_as d_at d_aq d_al d_aw d_u d_y d_ao d_au d_ar d_ah d_ai d_an d_law:FuncData}{oc_a kv_a dc_a pm_a cd_a ct_a:Value}{od_a an_a:Option Addr}{sl_a:Array (Option Value)}{tk0_a:Tok}{tk1_a:Tok}{toc_a:Value}{tod_a:Option Addr}{tn_a:Nat}{tsl_a:Array (Option Value)}{tkc_bf:Tok}{tkc_bc:Tok}{tkc_bd:Tok}{D_aa:Addr}{ta0_aa tb0_aa:Tok}{ta1_aa tb1_aa:Tok}{ta2_aa tb2_aa:Tok}{ep_aa:Nat}
    (g_ay:gI K "RimError" C_ay)
    (g_ac:gI K "NoRoom" C_ac)
    (g_z:gI K "Seating" C_z)
    (g_bg:gI K "Side" C_bg)
    (g_am:gI K "LeftSide" C_am)
    (g_ad:gI K "RightSide" C_ad)
    (g_o:gI K "Prices" C_o)
    (g_b:gI K "Picture" C_b)
    (a_aj:fI K C_ac "__init__" f_aj)
    (F_aj:Fun K "__init__" "NoRoom.__init__" s_aj f_aj d_aj)
    (i_aj:ZK K (.ref f_aj)=true)
    (a_ae:fI K C_z "__init__" f_ae)
    (F_ae:Fun K "__init__" "Seating.__init__" s_ae f_ae d_ae)
    (i_ae:ZK K (.ref f_ae)=true)
    (a_m:fI K C_z "hand_on" f_m)
    (F_m:Fun K "hand_on" "Seating.hand_on" s_m f_m d_m)
    (i_m:ZK K (.ref f_m)=true)
    (a_d:fI K C_z "crowd_with" f_d)
    (F_d:Fun K "crowd_with" "Seating.crowd_with" s_d f_d d_d)
    (i_d:ZK K (.ref f_d)=true)
    (a_crowds:gI K "crowds" f_crowds)
    (F_crowds:Fun K "crowds" "crowds" xew f_crowds d_crowds)
    (a_fits:gI K "fits" f_fits)
    (F_fits:Fun K "fits" "fits" xjh f_fits d_fits)
    (a_ap:fI K C_bg "__init__" f_ap)
    (F_ap:Fun K "__init__" "Side.__init__" s_ap f_ap d_ap)
    (i_ap:ZK K (.ref f_ap)=true)
    (a_t:fI K C_am "across" f_t)
    (F_t:Fun K "across" "LeftSide.across" s_t f_t d_t)
    (i_t:ZK K (.ref f_t)=true)
    (a_p:fI K C_ad "across" f_p)
    (F_p:Fun K "across" "RightSide.across" s_p f_p d_p)
    (i_p:ZK K (.ref f_p)=true)
    (a_av:gI K "side_of" f_av)
    (F_av:Fun K "side_of" "side_of" s_av f_av d_av)
    (a_ak:fI K C_o "__init__" f_ak)
    (F_ak:Fun K "__init__" "Prices.__init__" s_ak f_ak d_ak)
    (i_ak:ZK K (.ref f_ak)=true)
    (a_x:fI K C_o "let_in" f_x)
    (F_x:Fun K "let_in" "Prices.let_in" s_x f_x d_x)
    (i_x:ZK K (.ref f_x)=true)
    (a_v:fI K C_o "ask_on" f_v)
    (F_v:Fun K "ask_on" "Prices.ask_on" s_v f_v d_v)
    (i_v:ZK K (.ref f_v)=true)
    (a_s:fI K C_o "nearest" f_s)
    (F_s:Fun K "nearest" "Prices.nearest" s_s f_s d_s)
    (i_s:ZK K (.ref f_s)=true)
    (a_g:fI K C_o "shift_prices" f_g)
    (F_g:Fun K "shift_prices" "Prices.shift_prices" s_g f_g d_g)
    (i_g:ZK K (.ref f_g)=true)
    (a_least:gI K "least" f_least)
    (F_least:Fun K "least" "least" xfe f_least d_least)
    (a_ag:gI K "is_whole" f_ag)
    (F_ag:Fun K "is_whole" "is_whole" s_ag f_ag d_ag)
    (a_ax:gI K "is_name" f_ax)
    (F_ax:Fun K "is_name" "is_name" s_ax f_ax d_ax)
    (a_af:fI K C_b "__init__" f_af)
    (F_af:Fun K "__init__" "Picture.__init__" s_af f_af d_af)
    (i_af:ZK K (.ref f_af)=true)
    (a_a:fI K C_b "put" f_a)
    (l_a:K.lookup f_a=some ⟨oc_a,od_a,.func (Jp "put" "Picture.put" (xbq s_a) (xa8 s_a) (xo s_a) (.ref T_a) kv_a dc_a pm_a an_a cd_a ct_a),sl_a⟩)
    (c_a:Qa K cd_a "Picture.put"=true)
    (k_a:Jh K (.ref f_a)=true)
    (i_a:ZK K (.ref f_a)=true)
    (t_a:K.lookup T_a=some ⟨toc_a,tod_a,.seq #[.str "both" tk0_a,.int 1 tk1_a,.none] tn_a,tsl_a⟩)
    (a_h:fI K C_b "open_seat" f_h)
    (F_h:Fun K "open_seat" "Picture.open_seat" s_h f_h d_h)
    (i_h:ZK K (.ref f_h)=true)
    (a_n:fI K C_b "shut_seat" f_n)
    (F_n:Fun K "shut_seat" "Picture.shut_seat" s_n f_n d_n)
    (i_n:ZK K (.ref f_n)=true)
    (a_k:fI K C_b "points" f_k)
    (F_k:Fun K "points" "Picture.points" s_k f_k d_k)
    (i_k:ZK K (.ref f_k)=true)
    (a_i:fI K C_b "seats" f_i)
    (F_i:Fun K "seats" "Picture.seats" s_i f_i d_i)
    (i_i:ZK K (.ref f_i)=true)
    (a_q:fI K C_b "place_of" f_q)
    (F_q:Fun K "place_of" "Picture.place_of" s_q f_q d_q)
    (i_q:ZK K (.ref f_q)=true)
    (a_ab:fI K C_b "may" f_ab)
    (F_ab:Fun K "may" "Picture.may" s_ab f_ab d_ab)
    (i_ab:ZK K (.ref f_ab)=true)
    (a_w:fI K C_b "length" f_w)
    (F_w:Fun K "length" "Picture.length" s_w f_w d_w)
    (i_w:ZK K (.ref f_w)=true)
    (a_j:fI K C_b "seats_for" f_j)
    (F_j:Fun K "seats_for" "Picture.seats_for" s_j f_j d_j)
    (i_j:ZK K (.ref f_j)=true)
    (a_e:fI K C_b "check_name" f_e)
    (F_e:Fun K "check_name" "Picture.check_name" s_e f_e d_e)
    (i_e:ZK K (.ref f_e)=true)
    (a_l:fI K C_b "check_cell" f_l)
    (F_l:Fun K "check_cell" "Picture.check_cell" s_l f_l d_l)
    (i_l:ZK K (.ref f_l)=true)
    (a_f:fI K C_b "check_lines" f_f)
    (F_f:Fun K "check_lines" "Picture.check_lines" s_f f_f d_f)
    (i_f:ZK K (.ref f_f)=true)
    (a_c:fI K C_b "check_seat" f_c)
    (F_c:Fun K "check_seat" "Picture.check_seat" s_c f_c d_c)
    (i_c:ZK K (.ref f_c)=true)
    (a_r:gI K "_law_cell" f_r)
    (F_r:Fun K "_law_cell" "_law_cell" s_r f_r d_r)
    (a_as:gI K "_law_mix" f_as)
    (F_as:Fun K "_law_mix" "_law_mix" s_as f_as d_as)
    (a_at:gI K "_law_whole" f_at)
    (F_at:Fun K "_law_whole" "_law_whole" s_at f_at d_at)
    (a_aq:gI K "_law_names" f_aq)
    (F_aq:Fun K "_law_names" "_law_names" s_aq f_aq d_aq)
    (a_al:gI K "_law_places" f_al)
    (F_al:Fun K "_law_places" "_law_places" s_al f_al d_al)
    (a_aw:gI K "_law_size" f_aw)
    (F_aw:Fun K "_law_size" "_law_size" s_aw f_aw d_aw)
    (a_u:gI K "_law_picture" f_u)
    (F_u:Fun K "_law_picture" "_law_picture" s_u f_u d_u)
    (a_y:gI K "_law_lengths" f_y)
    (F_y:Fun K "_law_lengths" "_law_lengths" s_y f_y d_y)
    (a_ao:gI K "_law_giving" f_ao)
    (F_ao:Fun K "_law_giving" "_law_giving" s_ao f_ao d_ao)
    (a_au:gI K "_law_due" f_au)
    (F_au:Fun K "_law_due" "_law_due" s_au f_au d_au)
    (a_ar:gI K "_law_crowd" f_ar)
    (F_ar:Fun K "_law_crowd" "_law_crowd" s_ar f_ar d_ar)
    (a_ah:gI K "_law_priced" f_ah)
    (F_ah:Fun K "_law_priced" "_law_priced" s_ah f_ah d_ah)
    (a_ai:gI K "_law_asked" f_ai)
    (F_ai:Fun K "_law_asked" "_law_asked" s_ai f_ai d_ai)
    (a_an:gI K "_law_alike" f_an)
    (F_an:Fun K "_law_alike" "_law_alike" s_an f_an d_an)
    (a_law:gI K "law" f_law)
    (F_law:Fun K "law" "law" xib f_law d_law)
    (kc_ac:Jh K (.ref C_ac)=true)
    (ov_ac:xkq K C_ac=true)
    (hd_ac:JE K C_ac=true)
    (sa_ac:fB K C_ac "__setattr__" "object.__setattr__")
    (ga_ac:fB K C_ac "__getattribute__" "BaseException.__getattribute__")
    (gh_ac:fN K C_ac "__getattr__")
    (ca_ac:fB K C_ac "__class__" "object.__class__")
    (mk_ac:xdd K C_ac=true)
    (kc_z:Jh K (.ref C_z)=true)
    (pg_z:JK K C_z Wc=true)
    (hd_z:JE K C_z=true)
    (po_z:Yc K C_z=true)
    (sa_z:fB K C_z "__setattr__" "object.__setattr__")
    (mk_z:Yy K C_z=true)
    (kc_am:Jh K (.ref C_am)=true)
    (pg_am:JK K C_am Wc=true)
    (hd_am:JE K C_am=true)
    (po_am:Yc K C_am=true)
    (sa_am:fB K C_am "__setattr__" "object.__setattr__")
    (mk_am:Yy K C_am=true)
    (a_LeftSide_init:fI K C_am "__init__" f_ap)
    (kc_ad:Jh K (.ref C_ad)=true)
    (pg_ad:JK K C_ad Wc=true)
    (hd_ad:JE K C_ad=true)
    (po_ad:Yc K C_ad=true)
    (sa_ad:fB K C_ad "__setattr__" "object.__setattr__")
    (mk_ad:Yy K C_ad=true)
    (a_RightSide_init:fI K C_ad "__init__" f_ap)
    (kc_o:Jh K (.ref C_o)=true)
    (pg_o:JK K C_o Wc=true)
    (hd_o:JE K C_o=true)
    (po_o:Yc K C_o=true)
    (sa_o:fB K C_o "__setattr__" "object.__setattr__")
    (mk_o:Yy K C_o=true)
    (kc_b:Jh K (.ref C_b)=true)
    (pg_b:JK K C_b Wc=true)
    (hd_b:JE K C_b=true)
    (po_b:Yc K C_b=true)
    (sa_b:fB K C_b "__setattr__" "object.__setattr__")
    (mk_b:Yy K C_b=true)
    (cg:Y3 K (.builtin "object.__class__") "__get__"=some (some (.builtin "getset_descriptor.__get__")))
    (ct:PySem.W.takesIn K (.builtin "object.__class__")=some true)
    (n_a8:fN K C_ad "width")
    (n_az:fN K C_b "placed")
    (n_a1:fN K C_b "height")
    (n_a4:fN K C_b "width")
    (n_a2:fN K C_b "opened")
    (n_a0:fN K C_z "holder_of")
    (n_a3:fN K C_z "seat_of")
    (n_a6:fN K C_o "lengths")
    (n_a9:fN K C_o "own")
    (n_ba:fN K C_o "rent")
    (n_a5:fN K C_o "seating")
    (n_a7:fN K C_o "picture")
    (n_bb:fN K C_ac "holders")
    (n_be:fN K C_am "width")
    (n_abs:gN K "abs")
    (n_bool:gN K "bool")
    (n_dict:gN K "dict")
    (n_enumerate:gN K "enumerate")
    (n_int:gN K "int")
    (n_isinstance:gN K "isinstance")
    (n_len:gN K "len")
    (n_list:gN K "list")
    (n_min:gN K "min")
    (n_range:gN K "range")
    (n_reversed:gN K "reversed")
    (n_set:gN K "set")
    (n_sorted:gN K "sorted")
    (n_str:gN K "str")
    (n_tuple:gN K "tuple")
    (mro_ac:Wg K C_ac (.ref C_ac)=some true)
    (xga_ay:Y3 K (.ref C_ay) "__getattribute__"=some (some (.builtin "type.__getattribute__")))
    (xrd_ay:PySem.W.readsIn K C_ay (.type "type")=true)
    (xfi_ay:(match QQ K (.ref C_ay) (.type "type") "__init__" with|some (.val (.builtin i))=>i == "ValueError.__init__" | _=>false)=true)
    (v_bf:QL K mainGlobals "MOST_ROWS"=some (some (.int 16 tkc_bf)))
    (v_bc:QL K mainGlobals "MOST_COLUMNS"=some (some (.int 30 tkc_bc)))
    (v_bd:QL K mainGlobals "MOST_POINTS"=some (some (.int 12 tkc_bd)))
    (g_aa:gI K "MIRRORED_SIDES" D_aa)
    (l_aa:K.lookup D_aa=some ⟨.type "dict",none,.dict #[⟨hashStr w "left",.str "left" ta0_aa,.str "right" tb0_aa⟩,⟨hashStr w "right",.str "right" ta1_aa,.str "left" tb1_aa⟩,⟨hashStr w "both",.str "both" ta2_aa,.str "both" tb2_aa⟩] ep_aa,#[]⟩)
    (ns_aa:(D_aa == sysModules)=false):∃ t,Txt w K mg t :=
  ⟨⟨f_aj,_,f_ae,_,f_m,_,f_d,_,f_crowds,_,f_fits,_,f_ap,_,f_t,_,f_p,_,f_av,_,f_ak,_,f_x,_,f_v,_,f_s,_,f_g,_,f_least,_,f_ag,_,f_ax,_,f_af,_,f_a,_,T_a,f_h,_,f_n,_,f_k,_,f_i,_,f_q,_,f_ab,_,f_w,_,f_j,_,f_e,_,f_l,_,f_f,_,f_c,_,f_r,_,f_as,_,f_at,_,f_aq,_,f_al,_,f_aw,_,f_u,_,f_y,_,f_ao,_,f_au,_,f_ar,_,f_ah,_,f_ai,_,f_an,_,f_law,_,C_ay,C_ac,C_z,C_bg,C_am,C_ad,C_o,C_b,D_aa⟩,⟨Z5 X G g_ay,Z5 X G g_ac,Z5 X G g_z,Z5 X G g_am,Z5 X G g_ad,Z5 X G g_o,Z5 X G g_b,F_aj,bi_2 F_aj,F_ae,bi_1 F_ae,F_m,bi_3 F_m,F_d,bi_3 F_d,Z5 X G a_crowds,F_crowds,bi_2 F_crowds,Z5 X G a_fits,F_fits,bi_2 F_fits,F_ap,bi_2 F_ap,F_t,bi_2 F_t,F_p,bi_2 F_p,Z5 X G a_av,F_av,bi_2 F_av,F_ak,bi_2 F_ak,F_x,bi_2 F_x,F_v,bi_3 F_v,F_s,bi_3 F_s,F_g,bi_4 F_g,Z5 X G a_least,F_least,bi_2 F_least,Z5 X G a_ag,F_ag,bi_3 F_ag,Z5 X G a_ax,F_ax,bi_1 F_ax,F_af,bi_3 F_af,(xkg (st:=s_a) l_a c_a k_a),(xkg (st:=s_a) l_a c_a k_a).binds t_a rfl 7 rfl fun _ _ _ _ _ _ us hl=>xtu us hl fun _ _ _ _ _ _ _=>⟨_,rfl,rfl⟩,F_h,bi_3 F_h,F_n,bi_3 F_n,F_k,bi_1 F_k,F_i,bi_1 F_i,F_q,bi_2 F_q,F_ab,bi_4 F_ab,F_w,bi_4 F_w,F_j,bi_2 F_j,F_e,bi_2 F_e,F_l,bi_3 F_l,F_f,bi_4 F_f,F_c,bi_3 F_c,Z5 X G a_r,F_r,bi_2 F_r,Z5 X G a_as,F_as,bi_2 F_as,Z5 X G a_at,F_at,bi_1 F_at,Z5 X G a_aq,F_aq,bi_2 F_aq,Z5 X G a_al,F_al,bi_3 F_al,Z5 X G a_aw,F_aw,bi_1 F_aw,Z5 X G a_u,F_u,bi_1 F_u,Z5 X G a_y,F_y,bi_1 F_y,Z5 X G a_ao,F_ao,bi_3 F_ao,Z5 X G a_au,F_au,bi_5 F_au,Z5 X G a_ar,F_ar,bi_3 F_ar,Z5 X G a_ah,F_ah,bi_4 F_ah,Z5 X G a_ai,F_ai,bi_2 F_ai,Z5 X G a_an,F_an,bi_1 F_an,Z5 X G a_law,F_law,⟨ov_ac,hd_ac,sa_ac,ga_ac,gh_ac,ca_ac,cg,ct⟩,mk_ac,⟨mk_ac,a_aj,i_aj,kc_ac⟩,⟨pg_z,hd_z,po_z,sa_z⟩,⟨mk_z,a_ae,i_ae,kc_z⟩,⟨a_m,i_m,F_m.kp⟩,⟨a_d,i_d,F_d.kp⟩,⟨pg_am,hd_am,po_am,sa_am⟩,⟨mk_am,a_LeftSide_init,i_ap,kc_am⟩,⟨a_t,i_t,F_t.kp⟩,⟨pg_ad,hd_ad,po_ad,sa_ad⟩,⟨mk_ad,a_RightSide_init,i_ap,kc_ad⟩,⟨a_p,i_p,F_p.kp⟩,⟨pg_o,hd_o,po_o,sa_o⟩,⟨mk_o,a_ak,i_ak,kc_o⟩,⟨a_x,i_x,F_x.kp⟩,⟨a_v,i_v,F_v.kp⟩,⟨a_s,i_s,F_s.kp⟩,⟨a_g,i_g,F_g.kp⟩,⟨pg_b,hd_b,po_b,sa_b⟩,⟨mk_b,a_af,i_af,kc_b⟩,⟨a_a,i_a,k_a⟩,⟨a_h,i_h,F_h.kp⟩,⟨a_n,i_n,F_n.kp⟩,⟨a_k,i_k,F_k.kp⟩,⟨a_i,i_i,F_i.kp⟩,⟨a_q,i_q,F_q.kp⟩,⟨a_ab,i_ab,F_ab.kp⟩,⟨a_w,i_w,F_w.kp⟩,⟨a_j,i_j,F_j.kp⟩,⟨a_e,i_e,F_e.kp⟩,⟨a_l,i_l,F_l.kp⟩,⟨a_f,i_f,F_f.kp⟩,⟨a_c,i_c,F_c.kp⟩,cg,ct,n_a8,n_az,n_a1,n_a4,n_a2,n_a0,n_a3,n_a6,n_a9,n_ba,n_a5,n_a7,n_bb,n_be,ZT X G n_abs,ZT X G n_bool,ZT X G n_dict,ZT X G n_enumerate,ZT X G n_int,ZT X G n_isinstance,ZT X G n_len,ZT X G n_list,ZT X G n_min,ZT X G n_range,ZT X G n_reversed,ZT X G n_set,ZT X G n_sorted,ZT X G n_str,ZT X G n_tuple,mro_ac,xga_ay,xrd_ay,xfi_ay,⟨_,Z5 X G v_bf⟩,⟨_,Z5 X G v_bc⟩,⟨_,Z5 X G v_bd⟩,Z5 X G g_aa,⟨ns_aa,_,_,l_aa,.cons rfl ⟨_,rfl⟩ ⟨_,rfl⟩ (.cons rfl ⟨_,rfl⟩ ⟨_,rfl⟩ (.cons rfl ⟨_,rfl⟩ ⟨_,rfl⟩ (.nil))),by decide⟩⟩⟩
theorem mkS {N P:List Str}{sc:Scope} (a:sc.kind=.function:=by rfl) (b:sc.isCoroutine=false:=by rfl) (c:sc.isGenerator=false:=by rfl) (d:N.Nodup:=by decide +kernel) (e:N.take P.length=P:=by rfl) (f:∀ x∈P,sc.names.lookup x=some .local\/sc.names.lookup x=some .cell:=by decide +kernel) (g:∀ y∈sc.names,y.2≠.free:=by decide +kernel):xv N P sc:=⟨a,b,c,d,e,f,g⟩
theorem sc_aj:xv ["self", "holders", "own"] ["self", "holders"] (xo s_aj):=mkS
theorem sc_ae:xv ["self"] ["self"] (xo s_ae):=mkS
theorem sc_m:xv ["self", "asked_by", "free_seat", "seat", "name", "left_behind"] ["self", "asked_by", "free_seat"] (xo s_m):=mkS
theorem sc_d:xv ["self", "name", "rooms", "crowd", "asked_by", "number", "asker", "seat"] ["self", "name", "rooms"] (xo s_d):=mkS
theorem xcs:xv ["picture", "names", "rooms", "seating", "found", "name", "crowd"] ["picture", "names"] (xo xew):=mkS
theorem xkd:xv ["picture", "names", "found"] ["picture", "names"] (xo xjh):=mkS
theorem sc_ap:xv ["self", "width"] ["self", "width"] (xo s_ap):=mkS
theorem sc_t:xv ["self", "x"] ["self", "x"] (xo s_t):=mkS
theorem sc_p:xv ["self", "x"] ["self", "x"] (xo s_p):=mkS
theorem sc_av:xv ["word", "width"] ["word", "width"] (xo s_av):=mkS
theorem sc_ak:xv ["self", "picture"] ["self", "picture"] (xo s_ak):=mkS
theorem sc_x:xv ["self", "name", "askers", "asked_by", "seat"] ["self", "name"] (xo s_x):=mkS
theorem sc_v:xv ["self", "askers", "asked_by", "gap", "asker", "seat"] ["self", "askers", "asked_by"] (xo s_v):=mkS
theorem sc_s:xv ["self", "askers", "asked_by", "found", "asker", "seat", "length", "gap"] ["self", "askers", "asked_by"] (xo s_s):=mkS
theorem sc_g:xv ["self", "askers", "asked_by", "gap", "asker", "seat"] ["self", "askers", "asked_by", "gap"] (xo s_g):=mkS
theorem xeo:xv ["picture", "names", "crowd", "prices", "name", "pairs"] ["picture", "names"] (xo xfe):=mkS
theorem sc_ag:xv ["thing", "low", "high"] ["thing", "low", "high"] (xo s_ag):=mkS
theorem sc_ax:xv ["thing"] ["thing"] (xo s_ax):=mkS
theorem sc_af:xv ["self", "width", "height"] ["self", "width", "height"] (xo s_af):=mkS
theorem sc_a:xv ["self", "name", "x", "y", "sides", "low", "high", "highest"] ["self", "name", "x", "y", "sides", "low", "high"] (xo s_a):=mkS
theorem sc_h:xv ["self", "side", "row"] ["self", "side", "row"] (xo s_h):=mkS
theorem sc_n:xv ["self", "side", "row"] ["self", "side", "row"] (xo s_n):=mkS
theorem sc_k:xv ["self"] ["self"] (xo s_k):=mkS
theorem sc_i:xv ["self"] ["self"] (xo s_i):=mkS
theorem sc_q:xv ["self", "name"] ["self", "name"] (xo s_q):=mkS
theorem sc_ab:xv ["self", "name", "side", "row", "x", "y", "sides", "low", "high"] ["self", "name", "side", "row"] (xo s_ab):=mkS
theorem sc_w:xv ["self", "name", "side", "row", "x", "y"] ["self", "name", "side", "row"] (xo s_w):=mkS
theorem sc_j:xv ["self", "name"] ["self", "name"] (xo s_j):=mkS
theorem sc_e:xv ["self", "name"] ["self", "name"] (xo s_e):=mkS
theorem sc_l:xv ["self", "x", "y"] ["self", "x", "y"] (xo s_l):=mkS
theorem sc_f:xv ["self", "name", "x", "y", "others", "other"] ["self", "name", "x", "y"] (xo s_f):=mkS
theorem sc_c:xv ["self", "side", "row"] ["self", "side", "row"] (xo s_c):=mkS
theorem sc_r:xv ["_law_script", "_law_k"] ["_law_script", "_law_k"] (xo s_r):=mkS
theorem sc_as:xv ["_law_cell_here", "_law_k", "_law_number"] ["_law_cell_here", "_law_k"] (xo s_as):=mkS
theorem sc_at:xv ["_law_found"] ["_law_found"] (xo s_at):=mkS
theorem sc_aq:xv ["_law_cell_here", "_law_many", "_law_letters", "_law_step"] ["_law_cell_here", "_law_many"] (xo s_aq):=mkS
theorem sc_al:xv ["_law_cell_here", "_law_size_here", "_law_many", "_law_left", "_law_found", "_law_k"] ["_law_cell_here", "_law_size_here", "_law_many"] (xo s_al):=mkS
theorem sc_aw:xv ["_law_cell_here"] ["_law_cell_here"] (xo s_aw):=mkS
theorem sc_u:xv ["_law_script", "_law_width", "_law_height", "_law_most", "_law_many", "_law_names_here", "_law_xs", "_law_ys", "_law_picture_here", "_law_k", "_law_number", "_law_low", "_law_high", "_law_bar", "_law_row", "_law_side", "_law_place", "_law_is_open"] ["_law_script"] (xo s_u):=mkS
theorem sc_y:xv ["_law_picture_here", "_law_found", "_law_name", "_law_x", "_law_y", "_law_sides", "_law_low", "_law_high", "_law_side", "_law_row", "_law_across"] ["_law_picture_here"] (xo s_y):=mkS
theorem sc_ao:xv ["_law_lengths_here", "_law_names_here", "_law_pairs", "_law_seats", "_law_k"] ["_law_lengths_here", "_law_names_here", "_law_pairs"] (xo s_ao):=mkS
theorem sc_au:xv ["_law_lengths_here", "_law_seats", "_law_names_here", "_law_pairs", "_law_prices", "_law_own", "_law_rent", "_law_taken", "_law_seat", "_law_name", "_law_side", "_law_row", "_law_steps", "_law_price"] ["_law_lengths_here", "_law_seats", "_law_names_here", "_law_pairs", "_law_prices"] (xo s_au):=mkS
theorem sc_ar:xv ["_law_lengths_here", "_law_names_here", "_law_crowd_here", "_law_seats", "_law_name"] ["_law_lengths_here", "_law_names_here", "_law_crowd_here"] (xo s_ar):=mkS
theorem sc_ah:xv ["_law_lengths_here", "_law_seats", "_law_names_here", "_law_found", "_law_pairs", "_law_own", "_law_rent", "_law_pair"] ["_law_lengths_here", "_law_seats", "_law_names_here", "_law_found"] (xo s_ah):=mkS
theorem sc_ai:xv ["_law_picture_here", "_law_names_here", "_law_found", "_law_crowd_here", "e"] ["_law_picture_here", "_law_names_here"] (xo s_ai):=mkS
theorem sc_an:xv ["_law_picture_here", "_law_other", "_law_side", "_law_row", "_law_name", "_law_x", "_law_y", "_law_sides", "_law_low", "_law_high"] ["_law_picture_here"] (xo s_an):=mkS
theorem xcn:xv ["_law_script", "_law_picture_here", "_law_lengths_here", "_law_seats", "_law_before", "_law_names_here", "_law_handed", "_law_found", "_law_crowd_here", "_law_again", "_law_other"] ["_law_script"] (xo xib):=mkS
end S41
namespace S41
open PySem L2 XL PyProof.Rows
theorem xbl {K:Zd}{v:Value}:QX K v v=some true:=if_pos (by simp)
theorem xr {H H':Hp}{p:Addr}{o:HO} (s:Same H H') (hp:H' p=none):Same H (L2.upd H' p o):=fun b u z=>by
 have z':=s b u z;rw[xh (xg z' hp)];exact z'
theorem xpf {H:Hp}{x dx:Addr}{a b c:HO} (hx:H x=none) (hd:H dx=none):Same H (upd (upd (upd H dx a) x b) x c):=fun y o e=>by
 rw[xh (xg e hx),xh (xg e hx),xh (xg e hd)];exact e
def x0 (b:Bool):Str:=if b then "left" else "right"
def xmv (t:Adr) (H:Hp) (p:Addr) (b:Bool) (w:Int):Prop:=∃ dx,H p=some (.ins (if b then t.C_am else t.C_ad) dx [("width",.int w)])
inductive xr7 (K:Zd) (vs:List V) (H:Hp) (Q:VK) (_:XK):Prop
 | mk (p C dx:Addr) (n:Int) (e_:vs=[.ref p,.int n]) (r_:H p=some (.ins C dx [])/\Cls K C/\xdy K C "width"/\Q .non (upd H p (.ins C dx [("width",.int n)])))
inductive xth (vs:List V) (H:Hp) (Q:VK) (_:XK):Prop
 | mk (p:V) (x:V) (e_:vs=[p,x]) (r_:Q x H)
inductive xte (t:Adr) (vs:List V) (H:Hp) (Q:VK) (_:XK):Prop
 | mk (p:Addr) (n x:Int) (e_:vs=[.ref p,.int x]) (r_:xmv t H p false n/\Q (.int (n+1-x)) H)
inductive xog (t:Adr) (vs:List V) (H:Hp) (Q:VK) (_:XK):Prop
 | mk (b:Bool) (n:Int) (e_:vs=[.str (x0 b),.int n]) (r_:∀ p H',H p=none->xmv t H' p b n->Same H H'->Q (.ref p) H')
section
variable {P:Program}{w:World}{K:Zd}{mg:Str->Option Value}{base:Heap}{t:Adr}
theorem ok_ap (T:Txt w K mg t):FnOk true P w K mg base (CXo P w) 1 t.f_ap t.d_ap ["self", "width"] (xr7 K):=by
 refine T.F_ap.okn (k:=0) sc_ap (fun vs H Q E h=>?_) (fun cdv A outer s H vs Q E hr h=>?_)
 .obtain ⟨p,C,dx,n,rfl,_⟩:=h;rfl
 .obtain ⟨p,C,dx,n,rfl,h⟩:=h;refine⟨_,xm (xb5 (pv 0) (pv 1) rfl),?_⟩;obtain⟨hp,c,na,q⟩:=h;exact⟨_,rfl,_,rfl,p,C,dx,[],rfl,hp,c,na,(by show 0<1000; decide),q⟩
theorem ok_t (T:Txt w K mg t):FnOk true P w K mg base (CXo P w) 1 t.f_t t.d_t ["self", "x"] (xth):=by
 refine T.F_t.okn (k:=0) sc_t (fun vs H Q E h=>?_) (fun cdv A outer s H vs Q E hr h=>?_)
 .obtain ⟨p,x,rfl,_⟩:=h;rfl
 .obtain ⟨p,x,rfl,h⟩:=h;refine⟨_,xm (xad (pv 1)),?_⟩;exact⟨_,rfl,h⟩
theorem ok_p (T:Txt w K mg t):FnOk true P w K mg base (CXo P w) 1 t.f_p t.d_p ["self", "x"] (xte t):=by
 refine T.F_p.okn (k:=0) sc_p (fun vs H Q E h=>?_) (fun cdv A outer s H vs Q E hr h=>?_)
 .obtain ⟨p,n,x,rfl,_⟩:=h;rfl
 .obtain ⟨p,n,x,rfl,h⟩:=h;refine⟨_,xm (xad (xw xds (xw xa4 (xae (pv 0) rfl) (xn)) (pv 1))),?_⟩;obtain⟨⟨dx,hp⟩,q⟩:=h;exact⟨_,rfl,p,t.C_ad,dx,_,_,rfl,hp,T.c_ad,T.n_a8,rfl,_,_,rfl,rfl,_,rfl,_,_,rfl,rfl,q⟩
theorem ok_av (T:Txt w K mg t):FnOk true P w K mg base (CXo P w) 3 t.f_av t.d_av ["word", "width"] (xog t):=by
 refine T.F_av.okn (k:=2) sc_av (fun vs H Q E h=>?_) (fun cdv A outer s H vs Q E hr h=>?_)
 .obtain ⟨b,n,rfl,_⟩:=h;rfl
 .obtain ⟨b,n,rfl,h⟩:=h;refine⟨_,xj (xaj (xa3 (xah xbe rfl T.n_isinstance boot_isinstance (xf (pv 0) (xf (xbu (v:=.ty "str") rfl T.n_str boot_str rfl) (xk))))) (xj (xaj (xac xcj (pv 0) (xa6) (xag _)) (xm (xad (xeg T.k_am (ok_ap T) (hmm hr) rfl T.g_am T.b_ap .nil xl (xf (pv 1) (xk))))) (x9))
   (xm (xaj (xac xcj (pv 0) (xa6) (xag _)) (xm (xad (xeg T.k_ad (ok_ap T) (hmm hr) rfl T.g_ad T.b_ap .nil xl (xf (pv 1) (xk))))) (x9)))) (x9))
   (xm (xbh)),?_⟩
  cases b with
  | true =>
   refine⟨_,rfl,_,_,rfl,.inl ⟨_,_,true,.str _,rfl,xbl,true,rfl,iteT ?_⟩⟩;refine⟨_,rfl,rfl,_,rfl,?_⟩;refine ifP (by decide +kernel) ?_;exact⟨_,rfl,fun x dx hx hdx ne=>⟨x,t.C_am,dx,n,rfl,xi,T.c_am,T.n_be,rfl,h x _ hx ⟨dx,xi⟩ (xpf hx hdx)⟩⟩
  | false =>
   refine⟨_,rfl,_,_,rfl,.inl ⟨_,_,true,.str _,rfl,xbl,true,rfl,iteT ?_⟩⟩;refine⟨_,rfl,rfl,_,rfl,?_⟩;refine ifN (by decide +kernel) ?_;refine⟨_,rfl,rfl,_,rfl,?_⟩;refine ifP (by decide +kernel) ?_;exact⟨_,rfl,fun x dx hx hdx ne=>⟨x,t.C_ad,dx,n,rfl,xi,T.c_ad,T.n_a8,rfl,h x _ hx ⟨dx,xi⟩ (xpf hx hdx)⟩⟩
def isNm (x:Str):Bool:=decide (x.length=1)&&(!decide (x.cps.toList<[97])&&!decide ([122]<x.cps.toList))
inductive xtt (vs:List V) (H:Hp) (Q:VK) (_:XK):Prop
 | mk (i lo hi:Int) (e_:vs=[.int i,.int lo,.int hi]) (r_:lo<=i/\i<=hi/\Q (.bl true) H)
inductive xtk (vs:List V) (H:Hp) (Q:VK) (_:XK):Prop
 | mk (x:Str) (e_:vs=[.str x]) (r_:isNm x=true/\Q (.bl true) H)
theorem xts:("a":Str).cps.toList=[97]:=by decide +kernel
theorem xua:("z":Str).cps.toList=[122]:=by decide +kernel
theorem ok_ag (T:Txt w K mg t):FnOk true P w K mg base (CXo P w) 1 t.f_ag t.d_ag ["thing", "low", "high"] (xtt):=by
 refine T.F_ag.okn (k:=0) sc_ag (fun vs H Q E h=>?_) (fun cdv A outer s H vs Q E hr h=>?_)
 .obtain ⟨i,lo,hi,rfl,_⟩:=h;rfl
 .obtain ⟨i,lo,hi,rfl,h⟩:=h;refine⟨_,xm (xad (xc4 (xah xbe rfl T.n_isinstance boot_isinstance (xf (pv 0) (xf (xbu (v:=.ty "int") rfl T.n_int boot_int rfl) (xk)))) (xc4 (xm3 (xah xbe rfl T.n_isinstance boot_isinstance (xf (pv 0) (xf (xbu (v:=.ty "bool") rfl T.n_bool boot_bool rfl) (xk))))) (xel (xf4 xfn xfn (pv 1) (pv 0) (pv 2)))))),?_⟩;obtain⟨c1,c2,q⟩:=h;refine⟨_,rfl,_,_,rfl,.inl ⟨_,_,true,.int i,rfl,xbl,true,rfl,iteT ?_⟩⟩;refine⟨_,rfl,_,_,rfl,.inl ⟨_,_,false,.int i,rfl,(by rfl),false,rfl,true,rfl,iteT ?_⟩⟩;refine⟨_,rfl,_,rfl,_,_,rfl,rfl,_,rfl,ite2 (fun c=>?_) (fun c=>?_)⟩
  .refine ⟨_,rfl,_,_,rfl,rfl,?_⟩;show Q (.bl (decide (i<=hi))) H;rw[decide_eq_true c2];exact q
  .exact absurd (decide_eq_true c1) c
theorem ok_ax (T:Txt w K mg t):FnOk true P w K mg base (CXo P w) 1 t.f_ax t.d_ax ["thing"] (xtk):=by
 refine T.F_ax.okn (k:=0) sc_ax (fun vs H Q E h=>?_) (fun cdv A outer s H vs Q E hr h=>?_)
 .obtain ⟨x,rfl,_⟩:=h;rfl
 .obtain ⟨x,rfl,h⟩:=h;refine⟨_,xm (xad (xc4 (xah xbe rfl T.n_isinstance boot_isinstance (xf (pv 0) (xf (xbu (v:=.ty "str") rfl T.n_str boot_str rfl) (xk)))) (xc4 (xb8 xcj (xah xi6 rfl T.n_len YH (xf (pv 0) (xk))) (xn) (xag _)) (xel (xf4 xg8 xg8 (xa6) (pv 0) (xa6)))))),?_⟩;obtain⟨hn,q⟩:=h;unfold isNm at hn;simp only[ZM,decide_eq_true_eq,Y7,decide_eq_false_iff_not] at hn;obtain⟨l1,n1,n2⟩:=hn;refine⟨_,rfl,_,_,rfl,.inl ⟨_,_,true,.str x,rfl,xbl,true,rfl,iteT ?_⟩⟩;refine⟨_,rfl,_,rfl,(by rw[l1]; decide),rfl,_,rfl,ite2 (fun c=>?_) (fun c=>?_)⟩
  .refine ⟨_,rfl,_,_,rfl,rfl,_,rfl,ite2 (fun d=>?_) (fun d=>?_)⟩
   .refine ⟨_,_,rfl,rfl,?_⟩;rw[xua,decide_eq_false n2];exact q
   .rw [xts,decide_eq_false n1] at d;exact absurd rfl d
  .exact absurd (decide_eq_true (by rw[l1]; rfl)) c
structure Pt where
 nm:Str
 x:Int
 y:Int
 sd:Str
 lo:Int
 hi:Int
def ptV (p:Pt):List V:=[.int p.x,.int p.y,.str p.sd,.int p.lo,.int p.hi]
inductive Pl (H:Hp):List Pt->List (Key × V)->Prop
 | nil:Pl H [] []
 | cons {p:Pt}{q:Addr}{ps:List Pt}{kvs:List (Key × V)} (h:H q=some (.tup (ptV p))) (r:Pl H ps kvs):Pl H (p::ps) ((.inr p.nm,.ref q)::kvs)
inductive PtsL (H:Hp):List Pt->List Addr->Prop
 | nil:PtsL H [] []
 | cons {p:Pt}{q:Addr}{ps:List Pt}{qs:List Addr} (h:H q=some (.tup (.str p.nm::ptV p))) (r:PtsL H ps qs):PtsL H (p::ps) (q::qs)
theorem xuk {Z:L2.St}{H:Hp}{A B:Hp->Prop} (h:A H):xex Z H (fun b H4=>if b=true then A H4 else B H4):=by
 show if true=true then A H else B H
 rw[if_pos rfl];exact h
theorem xuh {i:Nat}{v:V}{Z:L2.St}{H:Hp}{A B:L2.St->Hp->Prop} (h:A (Z.set i (some v)) H):xe0 i v Z H (fun σ' H'=>xex σ' H' fun b H4=>if b=true then A σ' H4 else B σ' H4):=by
 show if true=true then A (Z.set i (some v)) H else B (Z.set i (some v)) H
 rw[if_pos rfl];exact h
def Tups (H H':Hp):Prop:=∀ b xs,H b=some (.tup xs)->H' b=some (.tup xs)
theorem Pl.keep {H H':Hp} (s:Tups H H') {ps:List Pt}{kvs:List (Key × V)} (h:Pl H ps kvs):Pl H' ps kvs:=by
 induction h with
 | nil=>exact .nil
 | cons h _ ih=>exact .cons (s _ _ h) ih
theorem PtsL.keep {H H':Hp} (s:Tups H H') {ps:List Pt}{qs:List Addr} (h:PtsL H ps qs):PtsL H' ps qs:=by
 induction h with
 | nil=>exact .nil
 | cons h _ ih=>exact .cons (s _ _ h) ih
theorem Pl.len {H:Hp}{ps:List Pt}{kvs:List (Key × V)} (h:Pl H ps kvs):kvs.length=ps.length:=by
 induction h with
 | nil=>rfl
 | cons _ _ ih=>simp[ih]
theorem PtsL.len {H:Hp}{ps:List Pt}{qs:List Addr} (h:PtsL H ps qs):qs.length=ps.length:=by
 induction h with
 | nil=>rfl
 | cons _ _ ih=>simp[ih]
theorem Pl.find {H:Hp}{ps:List Pt}{kvs:List (Key × V)} (h:Pl H ps kvs) {nm:Str}{pt:Pt} (e:ps.find? (fun p=>decide (p.nm=nm))=some pt):∃ q,valV kvs (.inr nm)=some (.ref q)/\H q=some (.tup (ptV pt)):=by
 induction h with
 | nil=>simp at e
 | @cons p q ps kvs h _ ih =>
  by_cases c:p.nm=nm
  .rw [QO (by simpa using c)] at e;cases e;exact⟨q,xbd (by rw[c]),h⟩
  .rw [QP (by simpa using c)] at e;obtain⟨q',h1,h2⟩:=ih e;exact⟨q',by rw[xaz (fun z=>c (Jt.inj z))]; exact h1,h2⟩
theorem Pl.no {H:Hp}{ps:List Pt}{kvs:List (Key × V)} (h:Pl H ps kvs) {nm:Str} (e:∀ p∈ps,p.nm≠nm):valV kvs (.inr nm)=none:=by
 induction h with
 | nil=>rfl
 | @cons p q ps kvs h _ ih =>
  rw[xaz (fun z=>e p Zp (Jt.inj z))];exact ih fun p' hp=>e p' (Zm _ hp)
theorem Pl.get {H:Hp}{ps:List Pt}{kvs:List (Key × V)} (h:Pl H ps kvs) {i:Nat}{k:Key}{x:V} (e:kvs[i]?=some (k,x)):∃ p q,ps[i]?=some p/\k=.inr p.nm/\x=.ref q/\H q=some (.tup (ptV p)):=by
 induction h generalizing i with
 | nil=>simp at e
 | @cons p q ps kvs h _ ih =>
  cases i with
  | zero =>
   simp at e;exact⟨p,q,rfl,e.1.symm,e.2.symm,h⟩
  | succ j=>exact ih (by simpa using e)
theorem PtsL.get {H:Hp}{ps:List Pt}{qs:List Addr} (h:PtsL H ps qs) {i:Nat}{q:Addr} (e:qs[i]?=some q):∃ p,ps[i]?=some p/\H q=some (.tup (.str p.nm::ptV p)):=by
 induction h generalizing i with
 | nil=>simp at e
 | @cons p q' ps qs h _ ih =>
  cases i with
  | zero =>
   simp at e;subst e;exact⟨p,rfl,h⟩
  | succ j=>exact ih (by simpa using e)
theorem Pl.snoc {H:Hp}{ps:List Pt}{kvs:List (Key × V)} (h:Pl H ps kvs) {p:Pt}{q:Addr} (e:H q=some (.tup (ptV p))):Pl H (ps++[p]) (kvs++[(.inr p.nm,.ref q)]):=by
 induction h with
 | nil=>exact .cons e .nil
 | cons h _ ih=>exact .cons h ih
theorem PtsL.snoc {H:Hp}{ps:List Pt}{qs:List Addr} (h:PtsL H ps qs) {p:Pt}{q:Addr} (e:H q=some (.tup (.str p.nm::ptV p))):PtsL H (ps++[p]) (qs++[q]):=by
 induction h with
 | nil=>exact .cons e .nil
 | cons h _ ih=>exact .cons h ih
abbrev picF (w h:Int) (dp do_:Addr):List (Str × V):=[("width",.int w),("height",.int h),("placed",.ref dp),("opened",.ref do_)]
structure Pic (t:Adr) (H:Hp) (a dp do_:Addr) (w h:Int) (ps:List Pt):Prop where
 ins:∃ dx,H a=some (.ins t.C_b dx (picF w h dp do_))
 pl:∃ kvs,H dp=some (.dK kvs)/\Pl H ps kvs
 w1:1<=w
 w2:w<=30
 h1:1<=h
 h2:h<=16
 len:ps.length<=12
theorem Same.tups {H H':Hp} (s:Same H H'):Tups H H':=fun b xs e=>s b _ e
theorem Pic.same {t:Adr}{H H':Hp}{a dp do_:Addr}{w h:Int}{ps:List Pt} (s:Same H H') (p:Pic t H a dp do_ w h ps):Pic t H' a dp do_ w h ps :=
 ⟨let ⟨dx,e⟩:=p.ins; ⟨dx,s _ _ e⟩,let ⟨kvs,e,q⟩:=p.pl; ⟨kvs,s _ _ e,q.keep (Same.tups s)⟩,p.w1,p.w2,p.h1,p.h2,p.len⟩
theorem xat {w h:Int}{dp do_:Addr}{m:Str} (e:((["width", "height", "placed", "opened"]:List Str).all fun k=>!(m == k))=true):(picF w h dp do_).lookup m=none:=by
 simp only[Qm,List.all_nil,ZM,Y7] at e;obtain⟨e1,e2,e3,e4,_⟩:=e;unfold picF;rw[Z0,e1];show Jd m [("height",V.int h),("placed",V.ref dp),("opened",V.ref do_)]=none;rw[Z0,e2];show Jd m [("placed",V.ref dp),("opened",V.ref do_)]=none;rw[Z0,e3];show Jd m [("opened",V.ref do_)]=none;rw[Z0,e4];rfl
theorem lkW {w h:Int}{dp do_:Addr}:(picF w h dp do_).lookup ("width":Str)=some (.int w):=by
 unfold picF;rw[Z0,show (("width":Str) == "width")=true from by decide +kernel]
theorem lkH {w h:Int}{dp do_:Addr}:(picF w h dp do_).lookup ("height":Str)=some (.int h):=by
 unfold picF;rw[Z0,show (("height":Str) == "width")=false from by decide +kernel];show Jd ("height":Str) [("height",V.int h),("placed",V.ref dp),("opened",V.ref do_)]=_;rw[Z0,show (("height":Str) == "height")=true from by decide +kernel]
theorem lkP {w h:Int}{dp do_:Addr}:(picF w h dp do_).lookup ("placed":Str)=some (.ref dp):=by
 unfold picF;rw[Z0,show (("placed":Str) == "width")=false from by decide +kernel];show Jd ("placed":Str) [("height",V.int h),("placed",V.ref dp),("opened",V.ref do_)]=_;rw[Z0,show (("placed":Str) == "height")=false from by decide +kernel];show Jd ("placed":Str) [("placed",V.ref dp),("opened",V.ref do_)]=_;rw[Z0,show (("placed":Str) == "placed")=true from by decide +kernel]
inductive xrb (t:Adr) (vs:List V) (H:Hp) (Q:VK) (_:XK):Prop
 | mk (p dx:Addr) (w h:Int) (e_:vs=[.ref p,.int w,.int h]) (r_:H p=some (.ins t.C_b dx [])/\1<=w/\w<=30/\1<=h/\h<=16/\∀ H' dp do_,H dp=none->H do_=none->(∀ b u,b≠p->H b=some u->H' b=some u)->Pic t H' p dp do_ w h []->H' do_=some (.dT [])->Q .non H')
inductive spCN (t:Adr) (vs:List V) (H:Hp) (Q:VK) (_:XK):Prop
 | mk (a dp do_:Addr) (pw ph:Int) (ps:List Pt) (nm:Str) (pt:Pt) (e_:vs=[.ref a,.str nm]) (r_:Pic t H a dp do_ pw ph ps/\isNm nm=true/\ps.find? (fun p=>decide (p.nm=nm))=some pt/\Q .non H)
inductive spCC (t:Adr) (vs:List V) (H:Hp) (Q:VK) (_:XK):Prop
 | mk (a dp do_:Addr) (pw ph:Int) (ps:List Pt) (x y:Int) (e_:vs=[.ref a,.int x,.int y]) (r_:Pic t H a dp do_ pw ph ps/\1<=x/\x<=pw/\1<=y/\y<=ph/\Q .non H)
inductive xtw (t:Adr) (vs:List V) (H:Hp) (Q:VK) (_:XK):Prop
 | mk (a dp do_:Addr) (pw ph:Int) (ps:List Pt) (e_:vs=[.ref a]) (r_:Pic t H a dp do_ pw ph ps/\∀ H' l qs,Same H H'->H' l=some (.lst (qs.map V.ref))->PtsL H' ps qs->Q (.ref l) H')
inductive spCL (t:Adr) (vs:List V) (H:Hp) (Q:VK) (_:XK):Prop
 | mk (a dp do_:Addr) (pw ph:Int) (ps:List Pt) (nm:Str) (x y:Int) (e_:vs=[.ref a,.str nm,.int x,.int y]) (r_:Pic t H a dp do_ pw ph ps/\(∀ p∈ps,p.nm≠nm->p.x≠x/\p.y≠y)/\∀ H',Same H H'->Q .non H')
inductive spCS (t:Adr) (vs:List V) (H:Hp) (Q:VK) (_:XK):Prop
 | mk (a dp do_:Addr) (pw ph:Int) (ps:List Pt) (b:Bool) (r:Int) (e_:vs=[.ref a,.str (x0 b),.int r]) (r_:Pic t H a dp do_ pw ph ps/\1<=r/\r<=ph/\∀ H',Same H H'->Q .non H')
inductive xtb (t:Adr) (vs:List V) (H:Hp) (Q:VK) (_:XK):Prop
 | mk (a dp do_:Addr) (pw ph:Int) (ps:List Pt) (nm:Str) (x y:Int) (sd:Str) (lo hi:Int) (hv:V) (e_:vs=[.ref a,.str nm,.int x,.int y,.str sd,.int lo,hv]) (r_:Pic t H a dp do_ pw ph ps/\((hv=.non/\hi=ph)\/hv=.int hi)/\isNm nm=true/\1<=x/\x<=pw/\1<=y/\y<=ph/\(sd="left"\/sd="right"\/sd="both")/\1<=lo/\lo<=hi/\hi<=ph/\(∀ p∈ps,p.nm≠nm/\p.x≠x/\p.y≠y)/\ps.length<12/\∀ H',(∀ b u,b≠dp->H b=some u->H' b=some u)->Pic t H' a dp do_ pw ph (ps++[⟨nm,x,y,sd,lo,hi⟩])->Q .non H')
inductive xt7 (t:Adr) (vs:List V) (H:Hp) (Q:VK) (_:XK):Prop
 | mk (a dp do_:Addr) (pw ph:Int) (ps:List Pt) (nm:Str) (pt:Pt) (e_:vs=[.ref a,.str nm]) (r_:Pic t H a dp do_ pw ph ps/\isNm nm=true/\ps.find? (fun p=>decide (p.nm=nm))=some pt/\∀ H' q,Same H H'->H' q=some (.tup [.int pt.x,.int pt.y])->Q (.ref q) H')
def lenI (w x y:Int) (b:Bool) (r:Int):Int:=(if b then x else w+1-x)+(if y-r<0 then -(y-r) else y-r)
inductive xtq (t:Adr) (vs:List V) (H:Hp) (Q:VK) (_:XK):Prop
 | mk (a dp do_:Addr) (pw ph:Int) (ps:List Pt) (nm:Str) (pt:Pt) (b:Bool) (r:Int) (e_:vs=[.ref a,.str nm,.str (x0 b),.int r]) (r_:Pic t H a dp do_ pw ph ps/\isNm nm=true/\ps.find? (fun p=>decide (p.nm=nm))=some pt/\1<=r/\r<=ph/\∀ H',Same H H'->Q (.int (lenI pw pt.x pt.y b r)) H')
theorem ok_af (T:Txt w K mg t):FnOk true P w K mg base (CXo P w) 2 t.f_af t.d_af ["self", "width", "height"] (xrb t):=by
 refine T.F_af.okn (k:=1) sc_af (fun vs H Q E h=>?_) (fun cdv A outer s H vs Q E hr h=>?_)
 .obtain ⟨p,dx,pw,ph,rfl,_⟩:=h;rfl
 .obtain ⟨p,dx,pw,ph,rfl,h⟩:=h;refine⟨_,xj (xaj (PW.pt (xbw (xbg (xa3 (x8 (ok_ag T) (hmm hr) rfl T.g_ag T.F_ag.kp T.b_ag .nil xl (xf (pv 1) (xf (xn) (xf (xfh (v:=.int 30) rfl T.v_bc.choose_spec ⟨_,rfl⟩) (xk))))))) (xbs (xbg (xa3 (x8 (ok_ag T) (hmm hr) rfl T.g_ag T.F_ag.kp T.b_ag .nil xl (xf (pv 2) (xf (xn) (xf (xfh (v:=.int 16) rfl T.v_bf.choose_spec ⟨_,rfl⟩) (xk)))))))))) (xm (xbh)) (x9))
   (xj (xb5 (pv 0) (pv 1) rfl)
   (xj (xb5 (pv 0) (pv 2) rfl)
   (xj (xb5 (pv 0) (xdw) rfl)
   (xm (xb5 (pv 0) (xdr) rfl))))),?_⟩
  obtain⟨hp,w1,w2,h1,h2,q⟩:=h;refine⟨_,rfl,pw,1,30,rfl,w1,w2,true,rfl,iteF ⟨_,rfl,ph,1,16,rfl,h1,h2,true,rfl,iteF ?_⟩⟩;refine⟨_,rfl,_,rfl,p,_,dx,_,rfl,hp,T.c_b,T.n_a4,(by show 0<1000; decide),?_⟩;refine⟨_,rfl,_,rfl,p,_,dx,_,rfl,xi,T.c_b,T.n_a1,(by show 1<1000; decide),?_⟩;rw[xem];refine fun dp hdp=>?_;have n1:p≠dp:=xg xi hdp;refine⟨_,rfl,p,_,dx,_,rfl,(by rw[xh n1]; exact xi),T.c_b,T.n_az,(by show 2<1000; decide),fun do_ hdo=>?_⟩;have n2:p≠do_:=xg xi hdo;have n3:dp≠do_:=xg (by rw[xh (Zw n1)]; exact xi) hdo;refine⟨_,rfl,p,_,dx,_,rfl,(by rw[xh n2]; exact xi),T.c_b,T.n_a2,(by show 3<1000; decide),?_⟩;rw[xh (Zw n1)] at hdp;have hdo':H do_=none:=by
   have z:=hdo;rw[xh (Zw n2),xh (Zw n3),xh (Zw n2)] at z;exact z
  refine q _ dp do_ hdp hdo' (fun b u nb e=>?_) ⟨⟨dx,xi⟩,⟨[],?_,.nil⟩,w1,w2,h1,h2,Ja _⟩ ?_
  .have c1:b≠dp:=xg e hdp;have c2:b≠do_:=fun z=>by
    subst z;rw[xh nb,xh c1,xh nb] at hdo;rw[e] at hdo;cases hdo
   rw[xh nb,xh c2,xh nb,xh c1,xh nb];exact e
  .rw [xh (Zw n1),xh n3,xh (Zw n1)];exact xi
  .rw [xh (Zw n2)];exact xi
theorem ok_e (T:Txt w K mg t):FnOk true P w K mg base (CXo P w) 2 t.f_e t.d_e ["self", "name"] (spCN t):=by
 refine T.F_e.okn (k:=1) sc_e (fun vs H Q E h=>?_) (fun cdv A outer s H vs Q E hr h=>?_)
 .obtain ⟨a,dp,do_,pw,ph,ps,nm,pt,rfl,_⟩:=h;rfl
 .obtain ⟨a,dp,do_,pw,ph,ps,nm,pt,rfl,h⟩:=h;refine⟨_,xm (xaj (PW.pt (xbw (xbg (xa3 (x8 (ok_ax T) (hmm hr) rfl T.g_ax T.F_ax.kp T.b_ax .nil xl (xf (pv 1) (xk))))) (xbs (xcm (xct (xam hr) (pv 1) (xae (pv 0) rfl)))))) (xm (xbh)) (x9)),?_⟩;obtain⟨pic,hn,hf,q⟩:=h;obtain⟨⟨dx,hp⟩,⟨kvs,hk,pl⟩,_⟩:=id pic;obtain⟨q0,e,_⟩:=pl.find hf;exact⟨_,rfl,nm,rfl,hn,true,rfl,iteF ⟨_,rfl,_,rfl,a,_,dx,_,_,rfl,hp,T.c_b,T.n_az,lkP,dp,some (.ref q0),rfl,(by rw[<- e]; exact DGet.k (k:=.inr nm) hk),false,rfl,iteF q⟩⟩
theorem ok_l (T:Txt w K mg t):FnOk true P w K mg base (CXo P w) 2 t.f_l t.d_l ["self", "x", "y"] (spCC t):=by
 refine T.F_l.okn (k:=1) sc_l (fun vs H Q E h=>?_) (fun cdv A outer s H vs Q E hr h=>?_)
 .obtain ⟨a,dp,do_,pw,ph,ps,x,y,rfl,_⟩:=h;rfl
 .obtain ⟨a,dp,do_,pw,ph,ps,x,y,rfl,h⟩:=h;refine⟨_,xm (xaj (PW.pt (xbw (xbg (xa3 (x8 (ok_ag T) (hmm hr) rfl T.g_ag T.F_ag.kp T.b_ag .nil xl (xf (pv 1) (xf (xn) (xf (xae (pv 0) rfl) (xk))))))) (xbs (xbg (xa3 (x8 (ok_ag T) (hmm hr) rfl T.g_ag T.F_ag.kp T.b_ag .nil xl (xf (pv 2) (xf (xn) (xf (xae (pv 0) rfl) (xk)))))))))) (xm (xbh)) (x9)),?_⟩;obtain⟨pic,x1,x2,y1,y2,q⟩:=h;obtain⟨⟨dx,hp⟩,_,_⟩:=id pic;exact⟨_,rfl,_,rfl,a,_,dx,_,_,rfl,hp,T.c_b,T.n_a4,lkW,x,1,pw,rfl,x1,x2,true,rfl,iteF ⟨_,rfl,_,rfl,a,_,dx,_,_,rfl,hp,T.c_b,T.n_a1,lkH,y,1,ph,rfl,y1,y2,true,rfl,iteF q⟩⟩
theorem ok_k (T:Txt w K mg t):FnOk true P w K mg base (CXo P w) 1 t.f_k t.d_k ["self"] (xtw t):=by
 refine T.F_k.okn (k:=0) sc_k (fun vs H Q E h=>?_) (fun cdv A outer s H vs Q E hr h=>?_)
 .obtain ⟨a,dp,do_,pw,ph,ps,rfl,_⟩:=h;rfl
 .obtain ⟨a,dp,do_,pw,ph,ps,rfl,h⟩:=h;refine⟨_,xm (xad (xkv (xb3 rfl (xbp (zs:=["name", "rest"]) (ys:=[]) (fr:=[]) (N0:=["self"]) (sc0:=xo s_k) (by decide +kernel) rfl rfl rfl) (xo7 (xae (pv 0) rfl)) (fun _ _ _ _ _ ow nd=>(xbb rfl (xu (xq (i:=0) nd rfl (Zq (ow _ (by simp))) (JD (ow _ (by simp)))) (xu (xq (i:=1) nd rfl (Zq (ow _ (by simp))) (JD (ow _ (by simp)))) (xay))):PG _ _ (gTup K 2 _))) (xc7 (xax (by decide) (xax (by decide) (xcp)))) (fun _ _ _ _ _=>xci) (fun _ _ _ _ _=>xw (r:=xk9 K) xkl (xaq (xf (pv 0) (xk))) (pv 1))))),?_⟩;obtain⟨pic,q⟩:=h;obtain⟨⟨dx,hp⟩,⟨kvs,hk,pl⟩,_⟩:=id pic;refine⟨_,rfl,a,_,dx,_,_,rfl,hp,T.c_b,T.n_az,lkP,dp,kvs,rfl,hk,fun ob nf l hl=>?_⟩;have nl:l≠dp:=fun z=>by
   rw[z,xi] at hl;cases hl
  have hl0:H l=none:=by rwa [xh nl] at hl
  refine xcr kvs.length (fun i xs H2=>∃ qs:List Addr,xs=qs.map V.ref/\qs.length<=i/\H2 dp=some (.frz ob (.dK kvs))/\(∀ b u,b≠dp->H b=some u->H2 b=some u)/\H2 l=some (.lst xs)/\PtsL H2 (ps.take i) qs) ?_ ?_ ?_ ?_
  .refine ⟨[],rfl,Zi _,?_,fun b u nb e=>?_,xi,by simpa using PtsL.nil⟩
   .rw [xh (Zw nl)];exact xi
   .rw [xh (xg e hl0),xh nb];exact e
  .rintro i xs H2 lt ⟨qs,_,_,hd,_⟩;exact⟨hd,lt⟩
  .rintro i xs H2 v H3 lt ⟨qs,rfl,ql,hd,sm,hl2,pts⟩ ⟨p,k,x,hx,rfl,hpn,rfl⟩ N hN;obtain⟨pt,q0,hpt,rfl,rfl,hq0⟩:=pl.get hx;have e0:H2 q0=some (.tup (ptV pt)):=sm _ _ (xp hq0 hk (fun z=>nomatch z)) hq0;refine⟨p,_,rfl,SqT.of xi,rfl,_,_,rfl,_,_,rfl,rfl,?_⟩;refine xuk ?_;have n0:q0≠p:=xg e0 hpn;refine⟨_,rfl,(by show 1<=sizeLine; decide),fun p1 h1=>⟨_,rfl,p1,q0,_,ptV pt,rfl,rfl,SqT.of xi,SqT.of ?_,(by simp),(by show 1+5<=sizeLine; decide),(fun z=>nomatch z),fun _ p2 h2=>?_⟩⟩
   .rw [xh (xg (by rw[xh n0]; exact e0) h1),xh n0];exact e0
   have up:∀ b u,H2 b=some u->(upd (upd (upd H2 p (.tup [.str pt.nm,.ref q0])) p1 (.tup [.str pt.nm])) p2 (.tup ([.str pt.nm]++ptV pt))) b=some u:=fun b u e=>by
    have c1:b≠p:=xg e hpn;have e1:upd H2 p (.tup [.str pt.nm,.ref q0]) b=some u:=by rw[xh c1]; exact e
    have c2:b≠p1:=xg e1 h1;have e2:upd (upd H2 p (.tup [.str pt.nm,.ref q0])) p1 (.tup [.str pt.nm]) b=some u:=by rw[xh c2]; exact e1
    rw[xh (xg e2 h2)];exact e2
   have c3:l≠p2:=xg (show upd (upd H2 p (.tup [.str pt.nm,.ref q0])) p1 (.tup [.str pt.nm]) l=some (.lst (qs.map V.ref)) from by
    have c1:l≠p:=xg hl2 hpn;have e1:upd H2 p (.tup [.str pt.nm,.ref q0]) l=some (.lst (qs.map V.ref)):=by rw[xh c1]; exact hl2
    rw[xh (xg e1 h1)];exact e1) h2
   have tk:ps.take (i+1)=ps.take i++[pt]:=by
    rw[ZP,hpt];rfl
   have ll:qs.length<sizeLine:=J0 (by have:=pl.len; have:=pic.len; omega:qs.length<13) (by decide);refine⟨up _ _ hl2,by rw[Zc]; exact ll,hN _ _ ⟨qs++[p2],by simp,by simp; omega,?_,fun b u nb e=>?_,xi,?_⟩⟩
   .rw [xh (Zw nl)];exact up _ _ hd
   .have e2:=up _ _ (sm b u nb e);rw[xh (xg e hl0)];exact e2
   .rw [tk];refine PtsL.snoc (PtsL.keep (fun b xs e=>?_) pts) ?_
    .have e2:=up _ _ e;rw[xh (xp e2 (up _ _ hl2) (fun z=>nomatch z))];exact e2
    .rw [xh (Zw c3)];exact xi
  .rintro xs H2 ⟨qs,rfl,_,hd,sm,hl2,pts⟩;refine⟨⟨hd,Zi _⟩,dp,ob,_,hd,nf,q _ l qs (fun b u e=>?_) ?_ (PtsL.keep (fun b xs e=>?_) (by rw[pl.len,J9] at pts; exact pts))⟩
   .by_cases c:b=dp
    .subst c;rw[hk] at e;cases e;exact xi
    .rw [xh c];exact sm b u c e
   .rw [xh nl];exact hl2
   .rw [xh (xp e hd (fun z=>nomatch z))];exact e
theorem ok_f (T:Txt w K mg t):FnOk true P w K mg base (CXo P w) 2 t.f_f t.d_f ["self", "name", "x", "y"] (spCL t):=by
 refine T.F_f.okn (k:=1) sc_f (fun vs H Q E h=>?_) (fun cdv A outer s H vs Q E hr h=>?_)
 .obtain ⟨a,dp,do_,pw,ph,ps,nm,x,y,rfl,_⟩:=h;rfl
 .obtain ⟨a,dp,do_,pw,ph,ps,nm,x,y,rfl,h⟩:=h;refine⟨_,xj (xdv rfl (xbp (zs:=["other"]) (ys:=["name"]) (fr:=[1]) (N0:=["self", "name", "x", "y", "others", "other"]) (sc0:=xo s_f) (by decide +kernel) rfl rfl rfl) (xas (xbm (pv 0) T.c_b T.m_k (ok_k T) (hmm hr) T.b_k .nil xl)) (fun _ _ _ _ _ ow nd=>xq (i:=0) nd rfl (Zq (ow _ (by simp))) (JD (ow _ (by simp)))) (xcq (by decide)) (fun _ _ _ _ _=>xei (xac xie (xbc (r:=rIxT K) xb4 (pv 0) (xn) (fun _ _=>rfl)) (pv 1) (xag _))) (fun _ _ _ _ _=>pv 0) (j:=4) rfl (Zq rfl))
   (xj (xa0 ZA rfl (xas (pv 4)) (xq (i:=5) sc_f.nd rfl (Zq rfl)) (xm (xaj (xac xcj (xbc xb4 (pv 5) (xn) (fun _ _=>rfl)) (pv 2) (xag _)) (xm (xbh)) (x9))))
   (xm (xa0 ZA rfl (xas (pv 4)) (xq (i:=5) sc_f.nd rfl (Zq rfl)) (xm (xaj (xac xcj (xbc xb4 (pv 5) (xn) (fun _ _=>rfl)) (pv 3) (xag _)) (xm (xbh)) (x9)))))),?_⟩
  obtain⟨pic,no,q⟩:=h;obtain⟨⟨dx,hp⟩,⟨kvs,hk,pl⟩,_⟩:=id pic;refine⟨_,rfl,a,dx,_,rfl,hp,xat (by decide +kernel),a,dp,do_,pw,ph,ps,rfl,pic,fun H1 l1 qs s1 hl1 pt1=>⟨l1,rfl,⟨_,SqL.of hl1⟩,fun l hl=>?_⟩⟩;refine xcr qs.length (fun i xs H2=>∃ os:List Addr,xs=os.map V.ref/\os.length<=i/\Same H1 H2/\H2 l=some (.lst xs)/\∀ o∈os,∃ p∈ps,p.nm≠nm/\H1 o=some (.tup (.str p.nm::ptV p))) ?_ ?_ ?_ ?_
  .exact ⟨[],rfl,Zi _,xr (Same.refl _) hl,xi,fun o z=>nomatch z⟩
  .rintro i xs H2 lt ⟨os,_,_,s2,_⟩;exact⟨_,.ref qs[i],SqL.of (s2 _ _ hl1),by simp[lt]⟩
  .rintro i xs H2 v H3 lt ⟨os,rfl,ol,s2,hl2,hos⟩ ⟨rfl,hv⟩ N hN;have hv':=hv _ (SqL.of (s2 _ _ hl1));rw[Zf] at hv';obtain⟨o,ho,rfl⟩:=Zj.mp hv';obtain⟨p,hpp,ep⟩:=pt1.get ho;refine⟨_,rfl,o,_,0,_,rfl,rfl,SqT.of (s2 _ _ ep),rfl,_,rfl,rfl,_,rfl,ite2 (fun c=>?_) (fun c=>?_)⟩
   .have cn:p.nm≠nm:=fun z=>by
     rw[z] at c;simp at c
    refine⟨_,rfl,hl2,(by rw[Zc]; exact J0 (by have:=pt1.len; have:=pic.len; omega:os.length<13) (by decide)),hN _ _ ⟨os++[o],by simp,by simp; omega,?_,xi,?_⟩⟩
    .intro b u e
     by_cases cb:b=l
     .subst cb;rw[e] at hl;cases hl
     .rw [xh cb];exact s2 b u e
    .intro o' ho'
     rcases ZB.mp ho' with z|z
     .exact hos o' z
     .have:=Zt.mp z;subst this;exact⟨p,Zl hpp,cn,ep⟩
   .exact hN _ _ ⟨os,rfl,by omega,s2,hl2,hos⟩
  .rintro xs H2 ⟨os,rfl,ol,s2,hl2,hos⟩;refine⟨⟨_,SqL.of (s2 _ _ hl1),by simp⟩,?_⟩;have loop:∀(o:Addr),o∈os->∃ p∈ps,p.nm≠nm/\H2 o=some (.tup (.str p.nm::ptV p)):=fun o ho=>by
    obtain⟨p,h1,h2,h3⟩:=hos o ho;exact⟨p,h1,h2,s2 _ _ h3⟩
   refine⟨_,rfl,l,rfl,⟨_,SqL.of hl2⟩,xa7 (xs:=os.map V.ref) (Pv:=fun i Z H3=>∃ v5:Option V,Z=[some (.ref a),some (.str nm),some (.int x),some (.int y),some (.ref l),v5]/\H2=H3) ⟨_,rfl,rfl⟩ (fun _ _ _ _ ⟨_,_,z⟩=>by rw[<- z]; exact SqL.of hl2) ?_ ?_⟩
   .rintro i v Z _ hv ⟨v5,rfl,rfl⟩;rw[Zf] at hv;obtain⟨o,ho,rfl⟩:=Zj.mp hv;obtain⟨p,m1,m2,m3⟩:=loop o (Zl ho);refine⟨_,rfl,o,_,1,_,rfl,rfl,SqT.of m3,rfl,_,rfl,rfl,_,rfl,ifN (decide_eq_false fun z=>(no p m1 m2).1 (V.int.inj z)) ⟨_,rfl,rfl⟩⟩
   .rintro Z _ ⟨v5,rfl,rfl⟩;refine⟨_,rfl,l,rfl,⟨_,SqL.of hl2⟩,xa7 (xs:=os.map V.ref) (Pv:=fun i Z H3=>∃ v5:Option V,Z=[some (.ref a),some (.str nm),some (.int x),some (.int y),some (.ref l),v5]/\H2=H3) ⟨_,rfl,rfl⟩ (fun _ _ _ _ ⟨_,_,z⟩=>by rw[<- z]; exact SqL.of hl2) ?_ ?_⟩
    .rintro i v Z _ hv ⟨v5,rfl,rfl⟩;rw[Zf] at hv;obtain⟨o,ho,rfl⟩:=Zj.mp hv;obtain⟨p,m1,m2,m3⟩:=loop o (Zl ho);refine⟨_,rfl,o,_,2,_,rfl,rfl,SqT.of m3,rfl,_,rfl,rfl,_,rfl,ifN (decide_eq_false fun z=>(no p m1 m2).2 (V.int.inj z)) ⟨_,rfl,rfl⟩⟩
    .rintro Z _ ⟨v5,rfl,rfl⟩;exact q _ (s1.trans s2)
theorem ok_c (T:Txt w K mg t):FnOk true P w K mg base (CXo P w) 4 t.f_c t.d_c ["self", "side", "row"] (spCS t):=by
 refine T.F_c.okn (k:=3) sc_c (fun vs H Q E h=>?_) (fun cdv A outer s H vs Q E hr h=>?_)
 .obtain ⟨a,dp,do_,pw,ph,ps,b,r,rfl,_⟩:=h;rfl
 .obtain ⟨a,dp,do_,pw,ph,ps,b,r,rfl,h⟩:=h;refine⟨_,xj (xak (x8 (ok_av T) (hmm hr) rfl T.g_av T.F_av.kp T.b_av .nil xl (xf (pv 1) (xf (xae (pv 0) rfl) (xk)))))
   (xm (xaj (xbg (xa3 (x8 (ok_ag T) (hmm hr) rfl T.g_ag T.F_ag.kp T.b_ag .nil xl (xf (pv 2) (xf (xn) (xf (xae (pv 0) rfl) (xk))))))) (xm (xbh)) (x9))),?_⟩
  obtain⟨pic,r1,r2,q⟩:=h;obtain⟨⟨dx,hp⟩,_,_⟩:=id pic;refine⟨_,rfl,_,rfl,a,_,dx,_,_,rfl,hp,T.c_b,T.n_a4,lkW,b,pw,rfl,fun p H1 hp1 sd1 s1=>?_⟩;exact⟨_,rfl,_,rfl,a,_,dx,_,_,rfl,(s1 _ _ hp),T.c_b,T.n_a1,lkH,r,1,ph,rfl,r1,r2,true,rfl,iteF (q H1 s1)⟩
theorem ok_a (T:Txt w K mg t):FnOk true P w K mg base (CXo P w) 3 t.f_a t.d_a ["self", "name", "x", "y", "sides", "low", "high"] (xtb t):=by
 refine T.F_a.okn (k:=2) sc_a (fun vs H Q E h=>?_) (fun cdv A outer s H vs Q E hr h=>?_)
 .obtain ⟨a,dp,do_,pw,ph,ps,nm,x,y,sd,lo,hi,hv,rfl,_⟩:=h;rfl
 .obtain ⟨a,dp,do_,pw,ph,ps,nm,x,y,sd,lo,hi,hv,rfl,h⟩:=h;refine⟨_,xj (xz (i:=7) sc_a.nd rfl (Zq rfl) (xjs (xac xi5 (pv 6) (xb6) (xag _)) (xae (pv 0) rfl) (pv 6)))
   (xj (xaj (xbg (xa3 (x8 (ok_ax T) (hmm hr) rfl T.g_ax T.F_ax.kp T.b_ax .nil xl (xf (pv 1) (xk))))) (xm (xbh)) (x9))
   (xj (xak (xan (pv 0) T.c_b T.m_l (ok_l T) (hmm hr) T.b_l .nil xl (xf (pv 2) (xf (pv 3) (xk)))))
   (xj (xaj (PW.pt (xbw (xbg (xa3 (xah xbe rfl T.n_isinstance boot_isinstance (xf (pv 4) (xf (xbu (v:=.ty "str") rfl T.n_str boot_str rfl) (xk)))))) (xbs (xcm (xnm (pv 4) rfl T.g_aa T.D_aa))))) (xm (xbh)) (x9))
   (xj (xaj (PW.pt (xbw (xbg (xa3 (x8 (ok_ag T) (hmm hr) rfl T.g_ag T.F_ag.kp T.b_ag .nil xl (xf (pv 5) (xf (xn) (xf (xae (pv 0) rfl) (xk))))))) (xbs (xbg (xa3 (x8 (ok_ag T) (hmm hr) rfl T.g_ag T.F_ag.kp T.b_ag .nil xl (xf (pv 7) (xf (pv 5) (xf (xae (pv 0) rfl) (xk)))))))))) (xm (xbh)) (x9))
   (xj (xaj (xcm (xf6 (xam hr) (pv 1) (xae (pv 0) rfl))) (xm (xbh)) (x9))
   (xj (xaj (xac xuf (xah xnb rfl T.n_len YH (xf (xae (pv 0) rfl) (xk))) (xfh (v:=.int 12) rfl T.v_bd.choose_spec ⟨_,rfl⟩) (xag _)) (xm (xbh)) (x9))
   (xj (xak (xan (pv 0) T.c_b T.m_f (ok_f T) (hmm hr) T.b_f .nil xl (xf (pv 1) (xf (pv 2) (xf (pv 3) (xk))))))
   (xm (xb9 (xam hr) (xae (pv 0) rfl) (pv 1) (xaq (xf (pv 2) (xf (pv 3) (xf (pv 4) (xf (pv 5) (xf (pv 7) (xk))))))) rfl))))))))),?_⟩
  obtain⟨pic,hhv,hn,x1,x2,y1,y2,hsd,l1,l2,l3,no,len,q⟩:=h;obtain⟨⟨dx,hp⟩,⟨kvs,hk,pl⟩,_⟩:=id pic;have hsd':(valV ([(Jt "left",V.str "right"),(Jt "right",V.str "left"),(Jt "both",V.str "both")]:List (Key × V)) (Jt sd)).isSome=true:=by
   rcases hsd with rfl|rfl|rfl<;>decide +kernel
  rcases hhv with⟨rfl,e⟩|rfl
  .obtain rfl:=e.symm;refine⟨_,rfl,rfl,_,rfl,ifP (by rfl) ⟨_,rfl,a,_,dx,_,_,rfl,hp,T.c_b,T.n_a1,lkH,?_⟩⟩;refine⟨_,rfl,nm,rfl,hn,true,rfl,iteF ?_⟩;refine⟨_,rfl,a,dx,_,rfl,hp,xat (by decide +kernel),_,rfl,_,rfl,a,dp,do_,pw,ph,ps,x,y,rfl,pic,x1,x2,y1,y2,?_⟩;refine⟨_,rfl,_,_,rfl,.inl ⟨_,_,true,.str _,rfl,xbl,true,rfl,iteF ⟨_,rfl,.inr sd,rfl,false,(by rw[hsd']; rfl),iteF ?_⟩⟩⟩;refine⟨_,rfl,_,rfl,a,_,dx,_,_,rfl,hp,T.c_b,T.n_a1,lkH,lo,1,ph,rfl,l1,(by omega),true,rfl,iteF ⟨_,rfl,_,rfl,_,rfl,a,_,dx,_,_,rfl,hp,T.c_b,T.n_a1,lkH,ph,lo,ph,rfl,(by omega),(by omega),true,rfl,iteF ?_⟩⟩;refine⟨_,rfl,_,rfl,a,_,dx,_,_,rfl,hp,T.c_b,T.n_az,lkP,dp,none,rfl,(by rw[<- pl.no (nm:=nm) (fun p hp=>(no p hp).1)]; exact DGet.k (k:=.inr nm) hk),false,rfl,iteF ?_⟩;refine⟨_,rfl,a,_,dx,_,_,rfl,hp,T.c_b,T.n_az,lkP,dp,kvs,rfl,hk,_,_,rfl,rfl,_,rfl,ifN (decide_eq_false (by have:=pl.len; omega)) ?_⟩;refine⟨_,rfl,a,dx,_,rfl,hp,xat (by decide +kernel),_,rfl,_,rfl,_,rfl,a,dp,do_,pw,ph,ps,nm,x,y,rfl,pic,fun p hp _=>(no p hp).2,fun H1 s1=>?_⟩;refine⟨_,rfl,_,rfl,_,rfl,_,rfl,_,rfl,(by show 5<=sizeLine; decide),fun q1 hq1=>?_⟩;have hp1:upd H1 q1 (.tup [.int x,.int y,.str sd,.int lo,.int ph]) a=some (.ins t.C_b dx (picF pw ph dp do_)):=by rw[xh (xg (s1 _ _ hp) hq1)]; exact s1 _ _ hp
   have hk1:upd H1 q1 (.tup [.int x,.int y,.str sd,.int lo,.int ph]) dp=some (.dK kvs):=by rw[xh (xg (s1 _ _ hk) hq1)]; exact s1 _ _ hk
   refine⟨_,rfl,a,_,dx,_,_,rfl,hp1,T.c_b,T.n_az,lkP,_,rfl,dp,_,rfl,DPut.k (k:=.inr nm) hk1 (J0 (by have:=pl.len; omega:kvs.length<12) (by decide)),?_⟩;rw[xcg (.ref q1) (pl.no (nm:=nm) (fun p hp=>(no p hp).1))];have nq:q1≠dp:=fun z=>by
    subst z;rw[s1 _ _ hk] at hq1;cases hq1
   refine q _ (fun b u nb e=>?_) ⟨⟨dx,?_⟩,⟨_,xi,Pl.snoc (p:=⟨nm,x,y,sd,lo,ph⟩) (pl.keep (fun b xs e=>?_)) ?_⟩,pic.w1,pic.w2,pic.h1,pic.h2,(by rw[Zu]; exact len)⟩
   .rw [xh nb,xh (xg (s1 _ _ e) hq1)];exact s1 _ _ e
   .rw [xh (xp hp1 hk1 (fun z=>nomatch z))];exact hp1
   .have e':=s1 _ _ e;rw[xh (xp e' (s1 _ _ hk) (fun z=>nomatch z)),xh (xg e' hq1)];exact e'
   .rw [xh nq];exact xi
  .refine ⟨_,rfl,rfl,_,rfl,ifN (by rfl) ⟨_,rfl,?_⟩⟩;refine⟨_,rfl,nm,rfl,hn,true,rfl,iteF ?_⟩;refine⟨_,rfl,a,dx,_,rfl,hp,xat (by decide +kernel),_,rfl,_,rfl,a,dp,do_,pw,ph,ps,x,y,rfl,pic,x1,x2,y1,y2,?_⟩;refine⟨_,rfl,_,_,rfl,.inl ⟨_,_,true,.str _,rfl,xbl,true,rfl,iteF ⟨_,rfl,.inr sd,rfl,false,(by rw[hsd']; rfl),iteF ?_⟩⟩⟩;refine⟨_,rfl,_,rfl,a,_,dx,_,_,rfl,hp,T.c_b,T.n_a1,lkH,lo,1,ph,rfl,l1,(by omega),true,rfl,iteF ⟨_,rfl,_,rfl,_,rfl,a,_,dx,_,_,rfl,hp,T.c_b,T.n_a1,lkH,hi,lo,ph,rfl,(by omega),(by omega),true,rfl,iteF ?_⟩⟩;refine⟨_,rfl,_,rfl,a,_,dx,_,_,rfl,hp,T.c_b,T.n_az,lkP,dp,none,rfl,(by rw[<- pl.no (nm:=nm) (fun p hp=>(no p hp).1)]; exact DGet.k (k:=.inr nm) hk),false,rfl,iteF ?_⟩;refine⟨_,rfl,a,_,dx,_,_,rfl,hp,T.c_b,T.n_az,lkP,dp,kvs,rfl,hk,_,_,rfl,rfl,_,rfl,ifN (decide_eq_false (by have:=pl.len; omega)) ?_⟩;refine⟨_,rfl,a,dx,_,rfl,hp,xat (by decide +kernel),_,rfl,_,rfl,_,rfl,a,dp,do_,pw,ph,ps,nm,x,y,rfl,pic,fun p hp _=>(no p hp).2,fun H1 s1=>?_⟩;refine⟨_,rfl,_,rfl,_,rfl,_,rfl,_,rfl,(by show 5<=sizeLine; decide),fun q1 hq1=>?_⟩;have hp1:upd H1 q1 (.tup [.int x,.int y,.str sd,.int lo,.int hi]) a=some (.ins t.C_b dx (picF pw ph dp do_)):=by rw[xh (xg (s1 _ _ hp) hq1)]; exact s1 _ _ hp
   have hk1:upd H1 q1 (.tup [.int x,.int y,.str sd,.int lo,.int hi]) dp=some (.dK kvs):=by rw[xh (xg (s1 _ _ hk) hq1)]; exact s1 _ _ hk
   refine⟨_,rfl,a,_,dx,_,_,rfl,hp1,T.c_b,T.n_az,lkP,_,rfl,dp,_,rfl,DPut.k (k:=.inr nm) hk1 (J0 (by have:=pl.len; omega:kvs.length<12) (by decide)),?_⟩;rw[xcg (.ref q1) (pl.no (nm:=nm) (fun p hp=>(no p hp).1))];have nq:q1≠dp:=fun z=>by
    subst z;rw[s1 _ _ hk] at hq1;cases hq1
   refine q _ (fun b u nb e=>?_) ⟨⟨dx,?_⟩,⟨_,xi,Pl.snoc (p:=⟨nm,x,y,sd,lo,hi⟩) (pl.keep (fun b xs e=>?_)) ?_⟩,pic.w1,pic.w2,pic.h1,pic.h2,(by rw[Zu]; exact len)⟩
   .rw [xh nb,xh (xg (s1 _ _ e) hq1)];exact s1 _ _ e
   .rw [xh (xp hp1 hk1 (fun z=>nomatch z))];exact hp1
   .have e':=s1 _ _ e;rw[xh (xp e' (s1 _ _ hk) (fun z=>nomatch z)),xh (xg e' hq1)];exact e'
   .rw [xh nq];exact xi
theorem ok_q (T:Txt w K mg t):FnOk true P w K mg base (CXo P w) 3 t.f_q t.d_q ["self", "name"] (xt7 t):=by
 refine T.F_q.okn (k:=2) sc_q (fun vs H Q E h=>?_) (fun cdv A outer s H vs Q E hr h=>?_)
 .obtain ⟨a,dp,do_,pw,ph,ps,nm,pt,rfl,_⟩:=h;rfl
 .obtain ⟨a,dp,do_,pw,ph,ps,nm,pt,rfl,h⟩:=h;refine⟨_,xj (xak (xan (pv 0) T.c_b T.m_e (ok_e T) (hmm hr) T.b_e .nil xl (xf (pv 1) (xk))))
   (xm (xad (xii xs6 (xa9 (xam hr) (xae (pv 0) rfl) (pv 1) (fun _ _=>rfl)) xkn (xkc (xn))))),?_⟩
  obtain⟨pic,hn,hf,q⟩:=h;obtain⟨⟨dx,hp⟩,⟨kvs,hk,pl⟩,_⟩:=id pic;obtain⟨q0,e,hq0⟩:=pl.find hf;refine⟨_,rfl,a,dx,_,rfl,hp,xat (by decide +kernel),_,rfl,a,dp,do_,pw,ph,ps,nm,pt,rfl,pic,hn,hf,?_⟩;exact⟨_,rfl,a,_,dx,_,_,rfl,hp,T.c_b,T.n_az,lkP,_,rfl,dp,.ref q0,rfl,(by rw[<- e]; exact DGet.k (k:=.inr nm) hk),2,rfl,q0,ptV pt,rfl,SqT.of hq0,(fun z=>absurd z.2 (by show ¬ ((2:Nat)=5); decide)),fun p hp'=>q _ p (xr (Same.refl _) hp') xi⟩
theorem ok_w (T:Txt w K mg t):FnOk true P w K mg base (CXo P w) 5 t.f_w t.d_w ["self", "name", "side", "row"] (xtq t):=by
 refine T.F_w.okn (k:=4) sc_w (fun vs H Q E h=>?_) (fun cdv A outer s H vs Q E hr h=>?_)
 .obtain ⟨a,dp,do_,pw,ph,ps,nm,pt,b,r,rfl,_⟩:=h;rfl
 .obtain ⟨a,dp,do_,pw,ph,ps,nm,pt,b,r,rfl,h⟩:=h;refine⟨_,xj (xdg (xan (pv 0) T.c_b T.m_q (ok_q T) (hmm hr) T.b_q .nil xl (xf (pv 1) (xk))) (xbb rfl (xu (xq (i:=4) sc_w.nd rfl (Zq rfl)) (xu (xq (i:=5) sc_w.nd rfl (Zq rfl)) (xay)))))
   (xj (xak (xan (pv 0) T.c_b T.m_c (ok_c T) (hmm hr) T.b_c .nil xl (xf (pv 2) (xf (pv 3) (xk)))))
   (xm (xad (xw xa4 (xsi (xan (x8 (ok_av T) (hmm hr) rfl T.g_av T.F_av.kp T.b_av .nil xl (xf (pv 2) (xf (xae (pv 0) rfl) (xk)))) T.c_am T.m_t (ok_t T) (hmm hr) T.b_t .nil xl (xf (pv 4) (xk))) (xan (x8 (ok_av T) (hmm hr) rfl T.g_av T.F_av.kp T.b_av .nil xl (xf (pv 2) (xf (xae (pv 0) rfl) (xk)))) T.c_ad T.m_p (ok_p T) (hmm hr) T.b_p .nil xl (xf (pv 4) (xk)))) (xah xje rfl T.n_abs boot_abs (xf (xw xds (pv 5) (pv 3)) (xk))))))),?_⟩
  obtain⟨pic,hn,hf,r1,r2,q⟩:=h;obtain⟨⟨dx,hp⟩,_,_⟩:=id pic;refine⟨_,rfl,a,dx,_,rfl,hp,xat (by decide +kernel),_,rfl,a,dp,do_,pw,ph,ps,nm,pt,rfl,pic,hn,hf,fun H1 q1 s1 hq1=>⟨q1,_,rfl,SqT.of hq1,rfl,_,_,rfl,_,_,rfl,rfl,?_⟩⟩;refine⟨_,rfl,a,dx,_,rfl,s1 _ _ hp,xat (by decide +kernel),_,rfl,_,rfl,a,dp,do_,pw,ph,ps,b,r,rfl,Pic.same s1 pic,r1,r2,fun H2 s2=>?_⟩;cases b with
  | true =>
   refine .inl ⟨_,rfl,_,rfl,a,_,dx,_,_,rfl,(s2 _ _ (s1 _ _ hp)),T.c_b,T.n_a4,lkW,true,pw,rfl,fun p H3 hp3 sd3 s3=>?_⟩;obtain⟨ds,hs⟩:=sd3;exact⟨p,ds,_,rfl,hs,(by rw[Z0,show (("across":Str) == "width")=false from by decide +kernel]; rfl),_,rfl,_,_,rfl,_,rfl,_,rfl,_,_,rfl,rfl,_,rfl,_,_,rfl,rfl,q H3 ((s1.trans s2).trans s3)⟩
  | false =>
   refine .inr ⟨_,rfl,_,rfl,a,_,dx,_,_,rfl,(s2 _ _ (s1 _ _ hp)),T.c_b,T.n_a4,lkW,false,pw,rfl,fun p H3 hp3 sd3 s3=>?_⟩;obtain⟨ds,hs⟩:=id sd3;exact⟨p,ds,_,rfl,hs,(by rw[Z0,show (("across":Str) == "width")=false from by decide +kernel]; rfl),_,rfl,p,pw,_,rfl,sd3,_,rfl,_,rfl,_,_,rfl,rfl,_,rfl,_,_,rfl,rfl,q H3 ((s1.trans s2).trans s3)⟩
theorem lkO {w h:Int}{dp do_:Addr}:(picF w h dp do_).lookup ("opened":Str)=some (.ref do_):=by
 unfold picF;rw[Z0,show (("opened":Str) == "width")=false from by decide +kernel];show Jd ("opened":Str) [("height",V.int h),("placed",V.ref dp),("opened",V.ref do_)]=_;rw[Z0,show (("opened":Str) == "height")=false from by decide +kernel];show Jd ("opened":Str) [("placed",V.ref dp),("opened",V.ref do_)]=_;rw[Z0,show (("opened":Str) == "placed")=false from by decide +kernel];show Jd ("opened":Str) [("opened",V.ref do_)]=_;rw[Z0,show (("opened":Str) == "opened")=true from by decide +kernel]
abbrev Seat:=Bool × Int
def xt (s:Seat):List Key:=[.inr (x0 s.1),.inl s.2]
def xau (s:Seat):List V:=[.str (x0 s.1),.int s.2]
theorem xd7 {a b:Bool} (h:x0 a=x0 b):a=b:=by
 cases a<;>cases b<;>first|rfl|exact absurd h (by decide +kernel)
theorem xd3 {s t:Seat} (h:xt s=xt t):s=t:=by
 simp only[xt,QH.injEq,Jt.injEq,Qy.injEq] at h;exact Prod.ext (xd7 h.1) h.2.1
def Sts (H:Hp) (do_:Addr) (ss:List Seat):Prop:=∃ kvs:List (List Key × V),H do_=some (.dT kvs)/\kvs.map (·.1)=ss.map xt/\ss.Nodup/\ss.length<=32
theorem Sts.same {H H':Hp}{do_:Addr}{ss:List Seat} (s:Same H H') (h:Sts H do_ ss):Sts H' do_ ss:=let ⟨k,e,r⟩:=h; ⟨k,s _ _ e,r⟩
theorem xl3 {kvs:List (List Key × V)}{ss:List Seat} (e:kvs.map (·.1)=ss.map xt) {s:Seat} (h:s∉ss):valV kvs (xt s)=none:=by
 cases z:valV kvs (xt s) with
 | none=>rfl
 | some v =>
  obtain⟨i,hi⟩:=xgy z;have m:xt s∈kvs.map (·.1):=Zr.mpr ⟨_,Zl hi,rfl⟩;rw[e] at m;obtain⟨t,ht,et⟩:=Zr.mp m;exact absurd ht (by rw[xd3 et]; exact h)
theorem xky {kvs:List (List Key × V)}{ss:List Seat} (e:kvs.map (·.1)=ss.map xt) {s:Seat} (h:s∈ss):∃ v,valV kvs (xt s)=some v:=by
 cases z:valV kvs (xt s) with
 | some v=>exact⟨v,rfl⟩
 | none =>
  have m:xt s∈kvs.map (·.1):=by rw[e]; exact Zr.mpr ⟨s,h,rfl⟩
  obtain⟨p,hp,ep⟩:=Zr.mp m;have a:=xc8 (xt s) kvs;rw[z] at a;have:(kvs.any fun kv=>decide (kv.1=xt s))=true:=Jw.mpr ⟨p,hp,by simpa using ep⟩;rw[this] at a;cases a
inductive xal (H:Hp):List Seat->List Addr->Prop
 | nil:xal H [] []
 | cons {s:Seat}{q:Addr}{ss:List Seat}{qs:List Addr} (h:H q=some (.tup (xau s))) (r:xal H ss qs):xal H (s::ss) (q::qs)
theorem xal.keep {H H':Hp} (k:Tups H H') {ss:List Seat}{qs:List Addr} (h:xal H ss qs):xal H' ss qs:=by
 induction h with
 | nil=>exact .nil
 | cons h _ ih=>exact .cons (k _ _ h) ih
theorem xal.len {H:Hp}{ss:List Seat}{qs:List Addr} (h:xal H ss qs):qs.length=ss.length:=by
 induction h with
 | nil=>rfl
 | cons _ _ ih=>simp[ih]
def xbk (s t:Seat):Prop:=(s.1=true/\t.1=false)\/(s.1=t.1/\s.2<t.2)
theorem xiw {s t:Seat} (h:lexK (xt s) (xt t)=true):xbk s t:=by
 obtain⟨a,i⟩:=s;obtain⟨b,j⟩:=t;unfold xt at h;unfold lexK at h;by_cases e:x0 a=x0 b
 .rw [if_pos (by rw[e])] at h;unfold lexK at h;by_cases e2:i=j
  .rw [if_pos (by rw[e2])] at h;unfold lexK at h;cases h
  .rw [if_neg (fun z=>e2 (Qy.inj z))] at h;exact .inr ⟨xd7 e,of_decide_eq_true h⟩
 .rw [if_neg (fun z=>e (Jt.inj z))] at h;cases a<;>cases b
  .exact absurd rfl e
  .exact absurd h (by show ¬ xc1 (.inr (x0 false)) (.inr (x0 true))=true; decide +kernel)
  .exact .inl ⟨rfl,rfl⟩
  .exact absurd rfl e
def unK:List Key->Seat
 | [.inr s,.inl r]=>(decide (s="left"),r)
 | _=>(true,0)
theorem xeq (s:Seat):unK (xt s)=s:=by
 obtain⟨b,r⟩:=s;cases b
 .show (decide (("right":Str)="left"),r)=_;rw[decide_eq_false (by decide +kernel)]
 .show (decide (("left":Str)="left"),r)=_;rw[decide_eq_true rfl]
theorem xm7 {kvs:List (List Key × V)}{ss:List Seat} (e:kvs.map (·.1)=ss.map xt) {s:Seat}:(xdo kvs (xt s)).map (·.1)=(ss.filter fun t=>decide (t≠s)).map xt:=by
 have h1:(xdo kvs (xt s)).map (·.1)=(kvs.map (·.1)).filter fun k=>decide (k≠xt s):=by
  unfold xdo;rw[List.filter_map];rfl
 rw[h1,e,List.filter_map]
 congr 1
 refine List.filter_congr fun t _=>?_;show decide (xt t≠xt s)=decide (t≠s);by_cases c:t=s
 .subst c;simp
 .have c':xt t≠xt s:=fun z=>c (xd3 z);simp[c,c']
inductive xrs (t:Adr) (vs:List V) (H:Hp) (Q:VK) (_:XK):Prop
 | mk (a dp do_:Addr) (pw ph:Int) (ps:List Pt) (ss:List Seat) (b:Bool) (r:Int) (e_:vs=[.ref a,.str (x0 b),.int r]) (r_:Pic t H a dp do_ pw ph ps/\Sts H do_ ss/\1<=r/\r<=ph/\(b,r)∉ss/\ss.length<32/\∀ H',(∀ c u,c≠do_->H c=some u->H' c=some u)->Pic t H' a dp do_ pw ph ps->Sts H' do_ (ss++[(b,r)])->Q .non H')
inductive xr9 (t:Adr) (vs:List V) (H:Hp) (Q:VK) (_:XK):Prop
 | mk (a dp do_:Addr) (pw ph:Int) (ps:List Pt) (ss:List Seat) (b:Bool) (r:Int) (e_:vs=[.ref a,.str (x0 b),.int r]) (r_:Pic t H a dp do_ pw ph ps/\Sts H do_ ss/\1<=r/\r<=ph/\(b,r)∈ss/\∀ H',(∀ c u,c≠do_->H c=some u->H' c=some u)->Pic t H' a dp do_ pw ph ps->Sts H' do_ (ss.filter fun s=>decide (s≠(b,r)))->Q .non H')
inductive xq2 (t:Adr) (vs:List V) (H:Hp) (Q:VK) (_:XK):Prop
 | mk (a dp do_:Addr) (pw ph:Int) (ps:List Pt) (ss:List Seat) (e_:vs=[.ref a]) (r_:Pic t H a dp do_ pw ph ps/\Sts H do_ ss/\∀(l:Addr) (ss':List Seat) (qs:List Addr),H l=none->xal H ss' qs->ss'.Perm ss->ss'.Pairwise xbk->Q (.ref l) (upd H l (.lst (qs.map V.ref))))
theorem Pic.but {t:Adr}{H H':Hp}{a dp do_:Addr}{w h:Int}{ps:List Pt}{kvs:List (List Key × V)} (e:H do_=some (.dT kvs)) (s:∀ c u,c≠do_->H c=some u->H' c=some u) (p:Pic t H a dp do_ w h ps):Pic t H' a dp do_ w h ps :=
 ⟨let ⟨dx,x⟩:=p.ins; ⟨dx,s _ _ (xp x e (fun z=>nomatch z)) x⟩,let ⟨k,x,q⟩:=p.pl; ⟨k,s _ _ (xp x e (fun z=>nomatch z)) x,q.keep fun b xs x=>s _ _ (xp x e (fun z=>nomatch z)) x⟩,p.w1,p.w2,p.h1,p.h2,p.len⟩
theorem ok_h (T:Txt w K mg t):FnOk true P w K mg base (CXo P w) 5 t.f_h t.d_h ["self", "side", "row"] (xrs t):=by
 refine T.F_h.okn (k:=4) sc_h (fun vs H Q E h=>?_) (fun cdv A outer s H vs Q E hr h=>?_)
 .obtain ⟨a,dp,do_,pw,ph,ps,ss,b,r,rfl,_⟩:=h;rfl
 .obtain ⟨a,dp,do_,pw,ph,ps,ss,b,r,rfl,h⟩:=h;refine⟨_,xj (xak (xan (pv 0) T.c_b T.m_c (ok_c T) (hmm hr) T.b_c .nil xl (xf (pv 1) (xf (pv 2) (xk)))))
   (xj (xaj (xcm (xf6 (xam hr) (xaq (xf (pv 1) (xf (pv 2) (xk)))) (xae (pv 0) rfl))) (xm (xbh)) (x9))
   (xm (xb9 (xam hr) (xae (pv 0) rfl) (xaq (xf (pv 1) (xf (pv 2) (xk)))) (xcl) rfl))),?_⟩
  obtain⟨pic,st,r1,r2,no,len,q⟩:=h;obtain⟨⟨dx,hp⟩,_,_⟩:=id pic;obtain⟨kvs,hk,ek,nd,l32⟩:=id st;refine⟨_,rfl,a,dx,_,rfl,hp,xat (by decide +kernel),_,rfl,_,rfl,a,dp,do_,pw,ph,ps,b,r,rfl,pic,r1,r2,fun H1 s1=>?_⟩;refine⟨_,rfl,_,rfl,(by show 2<=sizeLine; decide),fun q1 hq1=>?_⟩;have s2:Same H1 (upd H1 q1 (.tup [.str (x0 b),.int r])):=xr (Same.refl _) hq1;have g2:upd H1 q1 (.tup [.str (x0 b),.int r]) q1=some (.tup [.str (x0 b),.int r]):=xi;revert s2 g2;generalize upd H1 q1 (.tup [.str (x0 b),.int r])=H2;intro s2 g2;have hk2:=s2 _ _ (s1 _ _ hk);have hp2:=s2 _ _ (s1 _ _ hp);have n0:valV kvs (xt (b,r))=none:=xl3 ek no;refine⟨_,rfl,a,_,dx,_,_,rfl,hp2,T.c_b,T.n_a2,lkO,do_,none,rfl,(by rw[<- n0]; exact DGet.t (k:=xt (b,r)) hk2 g2),false,rfl,iteF ?_⟩;refine⟨_,rfl,a,_,dx,_,_,rfl,hp2,T.c_b,T.n_a2,lkO,_,rfl,_,rfl,(by show 2<=sizeLine; decide),fun q3 hq3=>?_⟩;have s3:Same H2 (upd H2 q3 (.tup [.str (x0 b),.int r])):=xr (Same.refl _) hq3;have g3:upd H2 q3 (.tup [.str (x0 b),.int r]) q3=some (.tup [.str (x0 b),.int r]):=xi;revert s3 g3;generalize upd H2 q3 (.tup [.str (x0 b),.int r])=H3;intro s3 g3;have kl:kvs.length=ss.length:=by
   have:=congrArg Qo ek;simpa using this
  refine⟨do_,_,rfl,DPut.t (k:=xt (b,r)) (s3 _ _ hk2) g3 (J0 (by omega:kvs.length<33) (by decide)),?_⟩;have bt:∀ c u,c≠do_->H c=some u->upd H3 do_ (.dT (putK kvs (xt (b,r)) (.bl true))) c=some u:=fun c u nc e=>by
   rw[xh nc];exact s3 _ _ (s2 _ _ (s1 _ _ e))
  refine q _ bt (Pic.but hk bt pic) ⟨_,xi,?_,?_,?_⟩
  .rw [xcg _ n0,ZC,ZC,ek];rfl
  .rw [Jc];exact⟨nd,by simp,fun x hx y hy=>by rw[Zt.mp hy]; exact fun e=>no (e▸hx)⟩
  .rw [Zu];show ss.length+1<=32;omega
theorem ok_n (T:Txt w K mg t):FnOk true P w K mg base (CXo P w) 5 t.f_n t.d_n ["self", "side", "row"] (xr9 t):=by
 refine T.F_n.okn (k:=4) sc_n (fun vs H Q E h=>?_) (fun cdv A outer s H vs Q E hr h=>?_)
 .obtain ⟨a,dp,do_,pw,ph,ps,ss,b,r,rfl,_⟩:=h;rfl
 .obtain ⟨a,dp,do_,pw,ph,ps,ss,b,r,rfl,h⟩:=h;refine⟨_,xj (xak (xan (pv 0) T.c_b T.m_c (ok_c T) (hmm hr) T.b_c .nil xl (xf (pv 1) (xf (pv 2) (xk)))))
   (xj (xaj (xcm (xct (xam hr) (xaq (xf (pv 1) (xf (pv 2) (xk)))) (xae (pv 0) rfl))) (xm (xbh)) (x9))
   (xm (xak (xof (xam hr) (xae (pv 0) rfl) (xaq (xf (pv 1) (xf (pv 2) (xk)))) ⟨rfl,rfl,rfl,rfl⟩)))),?_⟩
  obtain⟨pic,st,r1,r2,yes,q⟩:=h;obtain⟨⟨dx,hp⟩,_,_⟩:=id pic;obtain⟨kvs,hk,ek,nd,l32⟩:=id st;obtain⟨v,hv⟩:=xky ek yes;refine⟨_,rfl,a,dx,_,rfl,hp,xat (by decide +kernel),_,rfl,_,rfl,a,dp,do_,pw,ph,ps,b,r,rfl,pic,r1,r2,fun H1 s1=>?_⟩;refine⟨_,rfl,_,rfl,(by show 2<=sizeLine; decide),fun q1 hq1=>?_⟩;have s2:Same H1 (upd H1 q1 (.tup [.str (x0 b),.int r])):=xr (Same.refl _) hq1;have g2:upd H1 q1 (.tup [.str (x0 b),.int r]) q1=some (.tup [.str (x0 b),.int r]):=xi;revert s2 g2;generalize upd H1 q1 (.tup [.str (x0 b),.int r])=H2;intro s2 g2;have hk2:=s2 _ _ (s1 _ _ hk);have hp2:=s2 _ _ (s1 _ _ hp);refine⟨_,rfl,a,_,dx,_,_,rfl,hp2,T.c_b,T.n_a2,lkO,do_,some v,rfl,(by rw[<- hv]; exact DGet.t (k:=xt (b,r)) hk2 g2),false,rfl,iteF ?_⟩;refine⟨_,rfl,a,_,dx,_,_,rfl,hp2,T.c_b,T.n_a2,lkO,do_,rfl,.inr ⟨_,.inl hk2⟩,_,rfl,_,rfl,(by show 2<=sizeLine; decide),fun q3 hq3=>?_⟩;have s3:Same H2 (upd H2 q3 (.tup [.str (x0 b),.int r])):=xr (Same.refl _) hq3;have g3:upd H2 q3 (.tup [.str (x0 b),.int r]) q3=some (.tup [.str (x0 b),.int r]):=xi;revert s3 g3;generalize upd H2 q3 (.tup [.str (x0 b),.int r])=H3;intro s3 g3;refine⟨kvs,xt (b,r),q3,v,s3 _ _ hk2,rfl,g3,hv,?_⟩;have bt:∀ c u,c≠do_->H c=some u->upd H3 do_ (.dT (xdo kvs (xt (b,r)))) c=some u:=fun c u nc e=>by
   rw[xh nc];exact s3 _ _ (s2 _ _ (s1 _ _ e))
  refine q _ bt (Pic.but hk bt pic) ⟨_,xi,?_,nd.filter _,Z6 (JJ _ _) l32⟩;exact xm7 ek
theorem ok_i (T:Txt w K mg t):FnOk true P w K mg base (CXo P w) 1 t.f_i t.d_i ["self"] (xq2 t):=by
 refine T.F_i.okn (k:=0) sc_i (fun vs H Q E h=>?_) (fun cdv A outer s H vs Q E hr h=>?_)
 .obtain ⟨a,dp,do_,pw,ph,ps,ss,rfl,_⟩:=h;rfl
 .obtain ⟨a,dp,do_,pw,ph,ps,ss,rfl,h⟩:=h;refine⟨_,xm (xad (xah (xe1 rfl) rfl T.n_sorted PyProof.Rows.Boot.«sorted» (xf (xae (pv 0) rfl) (xk)))),?_⟩;obtain⟨pic,st,q⟩:=h;obtain⟨⟨dx,hp⟩,_,_⟩:=id pic;obtain⟨kvs,hk,ek,nd,l32⟩:=id st;have kl:kvs.length=ss.length:=by
   have:=congrArg Qo ek;simpa using this
  refine⟨_,rfl,a,_,dx,_,_,rfl,hp,T.c_b,T.n_a2,lkO,do_,kvs,[false,true],rfl,hk,by omega,fun p hp'=>?_,by decide,fun l ts fr tm pm pw'=>?_⟩
  .have m:p.1∈kvs.map (·.1):=Zr.mpr ⟨p,hp',rfl⟩;rw[ek] at m;obtain⟨s,_,e⟩:=Zr.mp m;rw[<- e];rfl
  rw[ek] at pm;have back:∀ t∈ts,xt (unK t.1)=t.1:=fun t ht=>by
   obtain⟨s,_,e⟩:=Zr.mp (pm.mem_iff.mp (Zr.mpr ⟨t,ht,rfl⟩));rw[<- e,xeq]
  have z:=q l ((ts.map (·.1)).map unK) (ts.map (·.2)) fr ?_ ?_ ?_
  .rw [Z7] at z;exact z
  .clear pm pw'
   induction ts with
   | nil=>exact .nil
   | cons t ts ih =>
    refine .cons ?_ (ih (fun x hx=>tm x (Zm _ hx)) fun x hx=>back x (Zm _ hx));have e:=tm t Zp;rw[<- back t Zp] at e;exact e
  .have z2:=pm.map unK;have e2:(ss.map xt).map unK=ss:=by
    rw[Z7,show (unK∘xt)=id from funext xeq];exact YA _
   rw[e2] at z2;exact z2
  .rw [Yd] at pw';rw[Z7,Yd];refine pw'.imp_of_mem fun {x y} hx hy hxy=>xiw ?_;show lexK (xt (unK x.1)) (xt (unK y.1))=true;rw[back x hx,back y hy];exact hxy
def SsOk (h:Int) (ss:List Seat):Prop:=ss.Nodup/\ss.length<=32/\∀ s∈ss,1<=s.2/\s.2<=h
theorem xal.get {H:Hp}{ss:List Seat}{qs:List Addr} (h:xal H ss qs) {i:Nat}{q:Addr} (e:qs[i]?=some q):∃ s,ss[i]?=some s/\H q=some (.tup (xau s)):=by
 induction h generalizing i with
 | nil=>simp at e
 | @cons s q' ss qs h _ ih =>
  cases i with
  | zero =>
   simp at e;subst e;exact⟨s,rfl,h⟩
  | succ j=>exact ih (by simpa using e)
theorem xa1 {α:Type}{R:α->α->Prop} (as:∀ a b,R a b->¬ R b a):∀{l l':List α},l.Perm l'->l.Pairwise R->l'.Pairwise R->l=l'
 | [],l',p,_,_=>(Q1.nil_eq p)
 | a::t,[],p,_,_=>absurd p.symm (by intro z; exact absurd (Q1.nil_eq z) (by simp))
 | a::t,b::t',p,h,h'=>by
  have h1:=JL.mp h;have h2:=JL.mp h';by_cases e:a=b
  .subst e;rw[xa1 as ((List.perm_cons a).mp p) h1.2 h2.2]
  .have ma:a∈t':=by
    have:=p.mem_iff.mp (Zp (a:=a) (l:=t));rcases Zz.mp this with z|z
    .exact absurd z e
    .exact z
   have mb:b∈t:=by
    have:=p.mem_iff.mpr (Zp (a:=b) (l:=t'));rcases Zz.mp this with z|z
    .exact absurd z.symm e
    .exact z
   exact absurd (h2.1 a ma) (as _ _ (h1.1 b mb))
theorem xbt (a b:Seat) (h:xbk a b):¬ xbk b a:=by
 rintro (⟨x,y⟩|⟨x,y⟩)<;>rcases h with⟨z,w⟩|⟨z,w⟩
 .rw [x] at w; cases w
 .rw [x,y] at z; cases z
 .rw [z,w] at x; cases x
 .omega
def xca (s:Seat):DV:=.tup [.str (x0 s.1),.int s.2]
theorem xmf {s t:Seat}:xca s=xca t↔s=t:=by
 constructor
 .intro h
  unfold xca at h;simp only[DV.tup.injEq,QH.injEq,DV.str.injEq,DV.int.injEq,and_true] at h;exact Prod.ext (xd7 h.1) h.2
 .intro h
  rw[h]
theorem xow (s t:Seat):dEq (xca s) (xca t)=decide (s=t):=xku rfl rfl xmf
theorem xb1 (ss:List Seat) (s:Seat):(ss.map xca).any (fun z=>dEq z (xca s))=decide (s∈ss):=by
 rw[J6,Jw,decide_eq_true_iff];constructor
 .rintro ⟨z,hz,e⟩;obtain⟨t,ht,rfl⟩:=Zr.mp hz;rw[xow,decide_eq_true_iff] at e;exact e▸ht
 .intro h
  exact⟨_,Zr.mpr ⟨s,h,rfl⟩,xbv _⟩
theorem xdq {K:Zd}{H:Hp}{q:Addr}{s:Seat} (h:H q=some (.tup (xau s))):Dv K H 1 (.ref q) (xca s):=by
 refine .tup (SqT.of h) rfl fun j x d h1 h2=>?_
 match j,h1,h2 with
 | 0,h1,h2=>cases h1; cases h2; exact .str
 | 1,h1,h2=>cases h1; cases h2; exact .int
 | j+2,h1,h2=>simp[xau] at h1
theorem xal.dv {K:Zd}{H:Hp}{ss:List Seat}{qs:List Addr} (h:xal H ss qs) {l:Addr} (e:H l=some (.lst (qs.map V.ref))):Dv K H 2 (.ref l) (.lst (ss.map xca)):=by
 refine .lst (SqL.of e) (by rw[Zc,Zc,h.len]) fun j x d h1 h2=>?_;rw[Zf] at h1 h2;obtain⟨q,hq,rfl⟩:=Zj.mp h1;obtain⟨p,hp,rfl⟩:=Zj.mp h2;obtain⟨p',hp',e'⟩:=h.get hq;rw[hp] at hp';cases hp';exact xdq e'
theorem xal.pick {H:Hp}:∀{ss:List Seat}{ys:List V},ys.length=ss.length->(∀(j:Nat) (y:V) (s:Seat),ys[j]?=some y->ss[j]?=some s->∃ q,y=.ref q/\H q=some (.tup (xau s)))->∃ rs:List Addr,ys=rs.map V.ref/\xal H ss rs
 | [],[],_,_=>⟨[],rfl,.nil⟩
 | [],_::_,h,_=>by cases h
 | _::_,[],h,_=>by cases h
 | s::ss,y::ys,h,k=>by
  obtain⟨q,e,hq⟩:=k 0 y s rfl rfl;obtain⟨rs,e2,r⟩:=xal.pick (ss:=ss) (ys:=ys) (by simpa using h) fun j y s h1 h2=>k (j+1) y s (by simpa using h1) (by simpa using h2)
  exact⟨q::rs,by rw[e,e2]; rfl,.cons hq r⟩
theorem xde {α:Type} [DecidableEq α]:∀{l m:List α},l.Nodup->(∀ x∈l,x∈m)->l.length<=m.length
 | [],m,_,_=>Ja _
 | a::l,m,nd,sub=>by
  obtain⟨h1,h2⟩:=ZQ.mp nd;have ha:=sub a Zp;have z:=xde (l:=l) (m:=m.erase a) h2 (fun x hx=>(List.mem_erase_of_ne (fun e:x=a=>h1 (e▸hx))).mpr (sub x (Zm _ hx)));rw[List.length_erase_of_mem ha] at z;have:=List.length_pos_of_mem ha;rw[ZJ];omega
def ptD (p:Pt):DV:=.tup [.str p.nm,.int p.x,.int p.y,.str p.sd,.int p.lo,.int p.hi]
theorem xud {K:Zd}{H:Hp}{q:Addr}{p:Pt} (h:H q=some (.tup (.str p.nm::ptV p))):Dv K H 1 (.ref q) (ptD p):=by
 refine .tup (SqT.of h) rfl fun j x d h1 h2=>?_
 match j,h1,h2 with
 | 0,h1,h2=>cases h1; cases h2; exact .str
 | 1,h1,h2=>cases h1; cases h2; exact .int
 | 2,h1,h2=>cases h1; cases h2; exact .int
 | 3,h1,h2=>cases h1; cases h2; exact .str
 | 4,h1,h2=>cases h1; cases h2; exact .int
 | 5,h1,h2=>cases h1; cases h2; exact .int
 | j+6,h1,h2=>simp[ptV] at h1
theorem PtsL.dv {K:Zd}{H:Hp}{ps:List Pt}{qs:List Addr} (h:PtsL H ps qs) {l:Addr} (e:H l=some (.lst (qs.map V.ref))):Dv K H 2 (.ref l) (.lst (ps.map ptD)):=by
 refine .lst (SqL.of e) (by rw[Zc,Zc,h.len]) fun j x d h1 h2=>?_;rw[Zf] at h1 h2;obtain⟨q,hq,rfl⟩:=Zj.mp h1;obtain⟨p,hp,rfl⟩:=Zj.mp h2;obtain⟨p',hp',e'⟩:=h.get hq;rw[hp] at hp';cases hp';exact xud e'
structure PtOk (w h:Int) (p:Pt):Prop where
 nm:isNm p.nm=true
 x1:1<=p.x
 x2:p.x<=w
 y1:1<=p.y
 y2:p.y<=h
 sd:p.sd="left"\/p.sd="right"\/p.sd="both"
 l1:1<=p.lo
 l2:p.lo<=p.hi
 l3:p.hi<=h
structure xda (w h:Int) (ps:List Pt):Prop where
 ok:∀ p∈ps,PtOk w h p
 nn:(ps.map (·.nm)).Nodup
 nx:(ps.map (·.x)).Nodup
 ny:(ps.map (·.y)).Nodup
 le:ps.length<=12
theorem xcw {α β:Type} (f:α->β) {ps:List α} (nd:(ps.map f).Nodup) {i:Nat} (hi:i<ps.length):∀ p∈ps.take i,f p≠f ps[i]:=fun p hp e=>by
 have z:=nd;rw[<- Qg i ps,JY hi,ZC,Zx,Jc] at z;exact z.2.2 _ (Zr.mpr ⟨p,hp,rfl⟩) _ Zp e
theorem xkp {ps:List Pt} (nd:(ps.map (·.nm)).Nodup) {p:Pt} (hp:p∈ps):ps.find? (fun q=>decide (q.nm=p.nm))=some p:=by
 induction ps with
 | nil=>simp at hp
 | cons a ps ih =>
  rw[Zx,ZQ] at nd;rcases Zz.mp hp with z|z
  .subst z;rw[QO (by simp)]
  .have ne:¬ a.nm=p.nm:=fun y=>nd.1 (y▸Zr.mpr ⟨p,z,rfl⟩);rw[QP (by simpa using ne)];exact ih nd.2 z
def xav (p:Pt) (s:Seat):Bool:=(decide (p.sd="both")||decide (p.sd=x0 s.1))&&(decide (p.lo<=s.2)&&decide (s.2<=p.hi))
theorem xgf (sd w:Str):inV (.str sd) [.str "both",.str w]=(decide (sd="both")||decide (sd=w)):=by
 have e:∀ a b:Str,(a == b)=decide (b=a):=fun a b=>by
  rw[J6,beq_iff_eq,decide_eq_true_iff];exact eq_comm
 show ((("both":Str) == sd)||((w == sd)||false))=_;rw[Bool.or_false,e,e]
def xe6 (s2:List Seat) (p:Pt) (i:Nat):Bool:=match s2[i]? with|some s=>xav p s|none=>false
theorem xfc {s2:List Seat}{p:Pt}{s:Seat}{i:Nat} (h:s2[i]?=some s):xe6 s2 p i=xav p s:=by
 unfold xe6;rw[h]
inductive xse (t:Adr) (vs:List V) (H:Hp) (Q:VK) (_:XK):Prop
 | mk (a dp do_:Addr) (pw ph:Int) (ps:List Pt) (ss:List Seat) (pt:Pt) (b:Bool) (i:Int) (e_:vs=[.ref a,.str pt.nm,.str (x0 b),.int i]) (r_:Pic t H a dp do_ pw ph ps/\Sts H do_ ss/\isNm pt.nm=true/\ps.find? (fun p=>decide (p.nm=pt.nm))=some pt/\1<=i/\i<=ph/\∀ H',Same H H'->Q (.bl (decide ((b,i)∈ss)&&xav pt (b,i))) H')
inductive xsw (t:Adr) (vs:List V) (H:Hp) (Q:VK) (_:XK):Prop
 | mk (a dp do_:Addr) (pw ph:Int) (ps:List Pt) (ss:List Seat) (pt:Pt) (e_:vs=[.ref a,.str pt.nm]) (r_:Pic t H a dp do_ pw ph ps/\Sts H do_ ss/\SsOk ph ss/\isNm pt.nm=true/\ps.find? (fun p=>decide (p.nm=pt.nm))=some pt/\∀(H':Hp) (l:Addr) (srt:List Seat) (rs:List Addr),Same H H'->H l=none->srt.Perm ss->srt.Pairwise xbk->H' l=some (.lst (rs.map V.ref))->xal H' (srt.filter (xav pt)) rs->Q (.ref l) H')
theorem ok_ab (T:Txt w K mg t):FnOk true P w K mg base (CXo P w) 5 t.f_ab t.d_ab ["self", "name", "side", "row"] (xse t):=by
 refine T.F_ab.okn (k:=4) sc_ab (fun vs H Q E h=>?_) (fun cdv A outer s H vs Q E hr h=>?_)
 .obtain ⟨a,dp,do_,pw,ph,ps,ss,pt,b,i,rfl,_⟩:=h;rfl
 .obtain ⟨a,dp,do_,pw,ph,ps,ss,pt,b,i,rfl,h⟩:=h;refine⟨_,xj (xak (xan (pv 0) T.c_b T.m_e (ok_e T) (hmm hr) T.b_e .nil xl (xf (pv 1) (xk))))
   (xj (xak (xan (pv 0) T.c_b T.m_c (ok_c T) (hmm hr) T.b_c .nil xl (xf (pv 2) (xf (pv 3) (xk)))))
   (xj (xdg (xa9 (xam hr) (xae (pv 0) rfl) (pv 1) (fun _ _=>rfl)) (xbb rfl (xu (xq (i:=4) sc_ab.nd rfl (Zq rfl)) (xu (xq (i:=5) sc_ab.nd rfl (Zq rfl)) (xu (xq (i:=6) sc_ab.nd rfl (Zq rfl)) (xu (xq (i:=7) sc_ab.nd rfl (Zq rfl)) (xu (xq (i:=8) sc_ab.nd rfl (Zq rfl)) (xay))))))))
   (xm (xad (xc4 (xsf (xf6 (xam hr) (xaq (xf (pv 2) (xf (pv 3) (xk)))) (xae (pv 0) rfl))) (xc4 (xb8 xhv (pv 6) (xaq (xf (xa6) (xf (pv 2) (xk)))) (by rfl)) (xel (xf4 xfn xfn (pv 7) (pv 3) (pv 8))))))))),?_⟩
  obtain⟨pic,st,hn,hf,i1,i2,q⟩:=h;obtain⟨⟨dx0,hp⟩,⟨kvs,hk,pl⟩,_⟩:=id pic;refine⟨_,rfl,a,dx0,_,rfl,hp,xat (by decide +kernel),_,rfl,a,dp,do_,pw,ph,ps,pt.nm,pt,rfl,pic,hn,hf,?_⟩;refine⟨_,rfl,a,dx0,_,rfl,hp,xat (by decide +kernel),_,rfl,_,rfl,a,dp,do_,pw,ph,ps,b,i,rfl,pic,i1,i2,fun H1 s1=>?_⟩;obtain⟨q0,e0,hq0⟩:=pl.find hf;have hp1:=s1 _ _ hp;have hk1:=s1 _ _ hk;refine⟨_,rfl,a,_,_,_,_,rfl,hp1,T.c_b,T.n_az,lkP,_,rfl,dp,.ref q0,rfl,(by rw[<- e0]; exact DGet.k (k:=.inr pt.nm) hk1),q0,_,rfl,SqT.of (s1 _ _ hq0),rfl,_,_,rfl,_,_,rfl,_,_,rfl,_,_,rfl,_,_,rfl,rfl,?_⟩;refine⟨_,rfl,_,rfl,(by show 2<=sizeLine; decide),fun q1 hq1=>?_⟩;have s2:Same H1 (upd H1 q1 (.tup [.str (x0 b),.int i])):=xr (Same.refl _) hq1;have g2:upd H1 q1 (.tup [.str (x0 b),.int i]) q1=some (.tup [.str (x0 b),.int i]):=xi;revert s2 g2;generalize upd H1 q1 (.tup [.str (x0 b),.int i])=H2;intro s2 g2;have hp2:=s2 _ _ hp1;have s02:=s1.trans s2;obtain⟨ko,hko,ek,nd,l32⟩:=id st;have hko2:=s02 _ _ hko;have qq:=q;by_cases cin:(b,i)∈ss
  .obtain ⟨v,hv⟩:=xky ek cin;refine⟨_,rfl,a,_,_,_,_,rfl,hp2,T.c_b,T.n_a2,lkO,do_,some v,rfl,(by rw[<- hv]; exact DGet.t (k:=xt (b,i)) hko2 g2),true,rfl,iteT ?_⟩;refine⟨_,rfl,_,rfl,(by show 2<=sizeLine; decide),fun q3 hq3=>?_⟩;have s3:Same H2 (upd H2 q3 (.tup [.str "both",.str (x0 b)])):=xr (Same.refl _) hq3;have g3:upd H2 q3 (.tup [.str "both",.str (x0 b)]) q3=some (.tup [.str "both",.str (x0 b)]):=xi;revert s3 g3;generalize upd H2 q3 (.tup [.str "both",.str (x0 b)])=H3;intro s3 g3;have z:=qq H3 (s02.trans s3);rw[decide_eq_true cin,Y1] at z;unfold xav at z;refine⟨q3,_,rfl,.inr (SqT.of g3),rfl,rfl,_,rfl,ite2 (fun c=>?_) (fun c=>?_)⟩
   .rw [if_neg (by decide),xgf] at c
    dsimp only at z
    rw[c,Y1] at z;refine⟨_,rfl,_,rfl,_,_,rfl,rfl,_,rfl,ite2 (fun c2=>?_) (fun c2=>?_)⟩
    .rw [c2,Y1] at z;exact⟨_,rfl,_,_,rfl,rfl,z⟩
    .rw [JG.mpr c2,Qb] at z;exact z
   .rw [if_neg (by decide),xgf] at c
    dsimp only at z
    rw[JG.mpr c,Qb] at z;exact z
  .have n0:valV ko (xt (b,i))=none:=xl3 ek cin;have z:=qq H2 s02;rw[decide_eq_false cin,Qb] at z;exact⟨_,rfl,a,_,_,_,_,rfl,hp2,T.c_b,T.n_a2,lkO,do_,none,rfl,(by rw[<- n0]; exact DGet.t (k:=xt (b,i)) hko2 g2),false,rfl,iteF z⟩
theorem ok_j (T:Txt w K mg t):FnOk true P w K mg base (CXo P w) 6 t.f_j t.d_j ["self", "name"] (xsw t):=by
 refine T.F_j.okn (k:=5) sc_j (fun vs H Q E h=>?_) (fun cdv A outer s H vs Q E hr h=>?_)
 .obtain ⟨a,dp,do_,pw,ph,ps,ss,pt,rfl,_⟩:=h;rfl
 .obtain ⟨a,dp,do_,pw,ph,ps,ss,pt,rfl,h⟩:=h;refine⟨_,xj (xak (xan (pv 0) T.c_b T.m_e (ok_e T) (hmm hr) T.b_e .nil xl (xf (pv 1) (xk))))
   (xm (xad (xb3 rfl (xbp (zs:=["side", "row"]) (ys:=["name", "self"]) (fr:=[1,0]) (N0:=["self", "name"]) (sc0:=xo s_j) (by decide +kernel) rfl rfl rfl) (xas (xbm (pv 0) T.c_b T.m_i (ok_i T) (hmm hr) T.b_i .nil xl)) (fun _ _ _ _ _ ow nd=>(xbb rfl (xu (xq (i:=0) nd rfl (Zq (ow _ (by simp))) (JD (ow _ (by simp)))) (xu (xq (i:=1) nd rfl (Zq (ow _ (by simp))) (JD (ow _ (by simp)))) (xay))):PG _ _ (gTup K 2 _))) (xc7 (xax (by decide) (xax (by decide) (xcp)))) (fun _ _ _ _ _=>xei (xa3 (xan (pv 3) T.c_b T.m_ab (ok_ab T) (hmm hr) T.b_ab .nil xl (xf (pv 2) (xf (pv 0) (xf (pv 1) (xk))))))) (fun _ _ _ _ _=>xaq (xf (pv 0) (xf (pv 1) (xk))))))),?_⟩
  obtain⟨pic,st,sok,hn,hf,q⟩:=h;obtain⟨⟨dx0,hp⟩,_,_⟩:=id pic;refine⟨_,rfl,a,dx0,_,rfl,hp,xat (by decide +kernel),_,rfl,a,dp,do_,pw,ph,ps,pt.nm,pt,rfl,pic,hn,hf,?_⟩;refine⟨_,rfl,a,dx0,_,rfl,hp,xat (by decide +kernel),a,dp,do_,pw,ph,ps,ss,rfl,pic,st,fun l1 srt qs1 fr1 sl1 pm1 pw1=>?_⟩;have s1:Same H (upd H l1 (.lst (qs1.map V.ref))):=xr (Same.refl _) fr1;have g1:upd H l1 (.lst (qs1.map V.ref)) l1=some (.lst (qs1.map V.ref)):=xi;revert s1 g1;generalize upd H l1 (.lst (qs1.map V.ref))=H1;intro s1 g1;have sl1':=sl1.keep (Same.tups s1);have ql:=sl1.len;have sl32:srt.length<=32:=by rw[pm1.length_eq]; exact sok.2.1
  refine⟨l1,rfl,⟨_,SqL.of g1⟩,fun l2 hl2=>?_⟩;refine xet (SqL.of g1) (by rw[Zc]; exact J0 (by omega:qs1.length<33) (by decide)) hl2 (xe6 srt pt) (fun i y H=>∃ s q,srt[i]?=some s/\y=.ref q/\H q=some (.tup (xau s))) (fun i y H H' tp ⟨s,q,e1,e2,e3⟩=>⟨s,q,e1,e2,tp _ _ e3⟩) (fun i x H4 hx s4 N M hN hM=>?_) (fun ys H4 s4 el4 ly f4=>?_)
  .rw [Zf] at hx;obtain⟨o,ho,rfl⟩:=Zj.mp hx;obtain⟨s0,hs0,ep⟩:=sl1'.get ho;have s04:=s1.trans s4;have min:s0∈ss:=pm1.mem_iff.mp (Zl hs0);obtain⟨sr1,sr2⟩:=sok.2.2 s0 min;refine⟨o,_,rfl,SqT.of (s4 _ _ ep),rfl,_,_,rfl,_,_,rfl,rfl,?_⟩;refine⟨_,rfl,a,dx0,_,rfl,s04 _ _ hp,xat (by decide +kernel),_,rfl,_,rfl,_,rfl,a,dp,do_,pw,ph,ps,ss,pt,s0.1,s0.2,rfl,Pic.same s04 pic,st.same s04,hn,hf,sr1,sr2,fun H5 s5=>?_⟩
   .refine ⟨_,rfl,ite2 (fun c=>?_) (fun c=>?_)⟩
    .rw [decide_eq_true (show (s0.1,s0.2)∈ss from min),Y1] at c;refine⟨_,rfl,_,rfl,(by show 2<=sizeLine; decide),fun q6 hq6=>?_⟩;exact hN _ _ (s5.trans (xr (Same.refl _) hq6)) (by rw[xfc hs0]; exact c) ⟨s0,q6,hs0,rfl,xi⟩
    .rw [decide_eq_true (show (s0.1,s0.2)∈ss from min),Y1] at c;exact hM _ s5 (by rw[xfc hs0]; exact JG.mpr c)
  .have fi:=xp0 (xav pt) (as:=srt) (p:=xe6 srt pt) (fun i s hs=>xfc hs);rw[Zc,ql] at ly f4;obtain⟨rs4,e4,sts4⟩:=xal.pick (H:=H4) (ss:=srt.filter (xav pt)) (ys:=ys) (by rw[ly,fi.1]) (fun j y s hy hs=>by
    have hj:j<((ZI srt.length).filter (xe6 srt pt)).length:=by
     rw[<- ly];exact (Zh.mp hy).1
    obtain⟨s',q',h1,h2,h3⟩:=f4 j y _ hy (Za hj);rw[fi.2 j _ (Za hj),hs] at h1;cases h1;exact⟨q',h2,h3⟩)
   subst e4;exact q H4 l2 srt rs4 (s1.trans s4) (s1.free hl2) pm1 pw1 el4 sts4
structure Dr (t:Adr) (H:Hp) (a dp do_:Addr) (w h:Nat) (ps:List Pt) (ss srt:List Seat):Prop where
 pic:Pic t H a dp do_ (w:Int) (h:Int) ps
 sts:Sts H do_ ss
 ok:SsOk (h:Int) ss
 pm:srt.Perm ss
 lt:srt.Pairwise xbk
 nm:∀ p∈ps,isNm p.nm=true
theorem Dr.same {t:Adr}{H H':Hp}{a dp do_:Addr}{w h:Nat}{ps:List Pt}{ss srt:List Seat} (d:Dr t H a dp do_ w h ps ss srt) (s:Same H H'):Dr t H' a dp do_ w h ps ss srt:=⟨Pic.same s d.pic,d.sts.same s,d.ok,d.pm,d.lt,d.nm⟩
abbrev seF (d1 d2:Addr):List (Str × V):=[("seat_of",.ref d1),("holder_of",.ref d2)]
theorem lkSo {d1 d2:Addr}:(seF d1 d2).lookup ("seat_of":Str)=some (.ref d1):=by
 unfold seF;rw[Z0,show (("seat_of":Str) == "seat_of")=true from by decide +kernel]
theorem lkHo {d1 d2:Addr}:(seF d1 d2).lookup ("holder_of":Str)=some (.ref d2):=by
 unfold seF;rw[Z0,show (("holder_of":Str) == "seat_of")=false from by decide +kernel];show Jd ("holder_of":Str) [("holder_of",V.ref d2)]=_;rw[Z0,show (("holder_of":Str) == "holder_of")=true from by decide +kernel]
theorem xjc {d1 d2:Addr}{m:Str} (e:((["seat_of", "holder_of"]:List Str).all fun k=>!(m == k))=true):(seF d1 d2).lookup m=none:=by
 simp only[Qm,List.all_nil,ZM,Y7] at e;obtain⟨e1,e2,_⟩:=e;unfold seF;rw[Z0,e1];show Jd m [("holder_of",V.ref d2)]=none;rw[Z0,e2];rfl
def SoD (H:Hp) (d:Addr) (n:Nat) (so:Str->Option Seat):Prop:=∃ kvs:List (Key × V),H d=some (.dK kvs)/\kvs.length<=n/\∀ nm,(so nm=none->valV kvs (.inr nm)=none)/\∀ s,so nm=some s->∃ q,valV kvs (.inr nm)=some (.ref q)/\H q=some (.tup (xau s))
def HoD (H:Hp) (d:Addr) (n:Nat) (ho:Seat->Option Str):Prop:=∃ kvs:List (List Key × V),H d=some (.dT kvs)/\kvs.length<=n/\∀ s,valV kvs (xt s)=(ho s).map V.str
theorem SoD.keep {H H':Hp}{d:Addr}{n:Nat}{so:Str->Option Seat} (s:SoD H d n so) (tp:Tups H H') (h:∀ u,H d=some u->H' d=some u):SoD H' d n so:=by
 obtain⟨kvs,e,l,f⟩:=s;exact⟨kvs,h _ e,l,fun nm=>⟨(f nm).1,fun s hs=>let ⟨q,a,b⟩:=(f nm).2 s hs; ⟨q,a,tp _ _ b⟩⟩⟩
theorem HoD.keep {H H':Hp}{d:Addr}{n:Nat}{ho:Seat->Option Str} (s:HoD H d n ho) (h:∀ u,H d=some u->H' d=some u):HoD H' d n ho:=by
 obtain⟨kvs,e,r⟩:=s;exact⟨kvs,h _ e,r⟩
theorem HoD.le {H:Hp}{d:Addr}{n k:Nat}{ho:Seat->Option Str} (s:HoD H d n ho) (h:n<=k):HoD H d k ho:=by
 obtain⟨kvs,e,l,r⟩:=s;exact⟨kvs,e,by omega,r⟩
theorem SoD.le {H:Hp}{d:Addr}{n k:Nat}{so:Str->Option Seat} (s:SoD H d n so) (h:n<=k):SoD H d k so:=by
 obtain⟨kvs,e,l,r⟩:=s;exact⟨kvs,e,by omega,r⟩
theorem HoD.get {H:Hp}{d:Addr}{n:Nat}{ho:Seat->Option Str} (s:HoD H d n ho) {b:Addr}{c:Seat} (eb:H b=some (.tup (xau c))):DGet H d (.ref b) ((ho c).map V.str):=by
 obtain⟨kvs,e,l,f⟩:=s;rw[<- f c];exact DGet.t (k:=xt c) e eb
theorem HoD.put {H:Hp}{d:Addr}{n:Nat}{ho:Seat->Option Str} (s:HoD H d n ho) (hn:n<1000) {b:Addr}{c:Seat} (eb:H b=some (.tup (xau c))) (x:Str) :
    ∃ H',DPut H d (.ref b) (.str x) H'/\HoD H' d (n+1) (Kp.upd1 ho c x)/\(∀ a u,a≠d->H a=some u->H' a=some u)/\Tups H H'/\∀ a,H a=none->H' a=none:=by
  obtain⟨kvs,e,l,f⟩:=s;refine⟨_,DPut.t (k:=xt c) e eb (ZG (by omega:_<=1000) (by decide)),⟨_,xi,?_,fun z=>?_⟩,fun a u na ea=>by rw[xh na]; exact ea,fun a xs ea=>by rw[xh (xp ea e (fun z=>nomatch z))]; exact ea,fun a ea=>by rw[xh (fun z=>by rw[z,e] at ea; cases ea)]; exact ea⟩
  . have:=xbn kvs (xt c) (.str x)
    omega
  . rw[xch]
    unfold Kp.upd1;by_cases zc:z=c
    . rw[if_pos (by rw[zc]),if_pos zc]
      rfl
    . rw[if_neg (fun y=>zc (xd3 y)),if_neg zc]
      exact f z
theorem SoD.put {H:Hp}{d:Addr}{n:Nat}{so:Str->Option Seat} (s:SoD H d n so) (hn:n<1000) {b:Addr}{c:Seat} (eb:H b=some (.tup (xau c))) (x:Str) :
    ∃ H',DPut H d (.str x) (.ref b) H'/\SoD H' d (n+1) (Kp.upd1 so x c)/\(∀ a u,a≠d->H a=some u->H' a=some u)/\Tups H H'/\∀ a,H a=none->H' a=none:=by
  obtain⟨kvs,e,l,f⟩:=s;have tp:Tups H (upd H d (.dK (putK kvs (.inr x) (.ref b)))):=fun a xs ea=>by rw[xh (xp ea e (fun z=>nomatch z))]; exact ea
  refine⟨_,DPut.k (k:=.inr x) e (ZG (by omega:_<=1000) (by decide)),⟨_,xi,?_,fun z=>?_⟩,fun a u na ea=>by rw[xh na]; exact ea,tp,fun a ea=>by rw[xh (fun z=>by rw[z,e] at ea; cases ea)]; exact ea⟩
  . have:=xbn kvs (.inr x) (.ref b)
    omega
  . rw[xch]
    unfold Kp.upd1;by_cases zc:z=x
    . subst zc
      rw[if_pos rfl,if_pos rfl];exact⟨fun y=>(nomatch y),fun s hs=>⟨b,rfl,by cases hs; exact tp _ _ eb⟩⟩
    . rw[if_neg (fun y=>zc (Jt.inj y)),if_neg zc]
      exact⟨(f z).1,fun s hs=>let ⟨q,a1,a2⟩:=(f z).2 s hs; ⟨q,a1,tp _ _ a2⟩⟩
theorem SoD.get {H:Hp}{d:Addr}{n:Nat}{so:Str->Option Seat} (s:SoD H d n so) (x:Str):(so x=none/\DGet H d (.str x) none)\/∃ c q,so x=some c/\DGet H d (.str x) (some (.ref q))/\H q=some (.tup (xau c)):=by
 obtain⟨kvs,e,l,f⟩:=s;have g:=DGet.k (k:=.inr x) e;cases z:so x with
 | none =>
  rw[(f x).1 z] at g;exact .inl ⟨rfl,g⟩
 | some c =>
  obtain⟨q,e1,e2⟩:=(f x).2 c z;rw[e1] at g;exact .inr ⟨c,q,rfl,g,e2⟩
structure Sg (t:Adr) (H:Hp) (p d1 d2:Addr) (n:Nat) (so:Str->Option Seat) (ho:Seat->Option Str):Prop where
 ins:∃ dx,H p=some (.ins t.C_z dx (seF d1 d2))
 so:SoD H d1 n so
 ho:HoD H d2 n ho
theorem Sg.keep {t:Adr}{H H':Hp}{p d1 d2:Addr}{n:Nat}{so:Str->Option Seat}{ho:Seat->Option Str} (g:Sg t H p d1 d2 n so ho) {d:Addr} (h1:p≠d) (h2:d1≠d) (h3:d2≠d) (tp:Tups H H') (k:∀ b u,b≠d->H b=some u->H' b=some u):Sg t H' p d1 d2 n so ho :=
 ⟨let ⟨dx,e⟩:=g.ins; ⟨dx,k _ _ h1 e⟩,g.so.keep tp (fun u e=>k _ _ h2 e),g.ho.keep (fun u e=>k _ _ h3 e)⟩
theorem Sg.same {t:Adr}{H H':Hp}{p d1 d2:Addr}{n:Nat}{so:Str->Option Seat}{ho:Seat->Option Str} (g:Sg t H p d1 d2 n so ho) (s:Same H H'):Sg t H' p d1 d2 n so ho :=
 ⟨let ⟨dx,e⟩:=g.ins; ⟨dx,s _ _ e⟩,g.so.keep (Same.tups s) (fun u e=>s _ _ e),g.ho.keep (fun u e=>s _ _ e)⟩
theorem Sg.le {t:Adr}{H:Hp}{p d1 d2:Addr}{n k:Nat}{so:Str->Option Seat}{ho:Seat->Option Str} (g:Sg t H p d1 d2 n so ho) (h:n<=k):Sg t H p d1 d2 k so ho:=⟨g.ins,g.so.le h,g.ho.le h⟩
def KB (H H':Hp) (d1 d2:Addr):Prop:=∀ b u,b≠d1->b≠d2->H b=some u->H' b=some u
inductive xn1 (t:Adr) (vs:List V) (H:Hp) (Q:VK) (_:XK):Prop
 | mk (p dx:Addr) (e_:vs=[.ref p]) (r_:H p=some (.ins t.C_z dx [])/\∀ H' d1 d2,H d1=none->H d2=none->(∀ b u,b≠p->H b=some u->H' b=some u)->Sg t H' p d1 d2 0 (fun _=>none) (fun _=>none)->Q .non H')
structure xph (room:Str->List Seat) (so:Str->Option Seat) (asked:Seat->Option Str) (rk:Str->Nat) (name:Str):Prop where
 rm:∀ s a,asked s=some a->s∈room a
 no:∀ s a,asked s=some a->so a=none->a=name
 up:∀ s a,asked s=some a->∀ s1,so a=some s1->∃ a1,asked s1=some a1/\rk a1<rk a
 le:∀ s a,asked s=some a->rk a<=20
inductive xsx (t:Adr) (vs:List V) (H:Hp) (Q:VK) (_:XK):Prop
 | mk (p d1 d2 d3 q:Addr) (n m:Nat) (room:Str->List Seat) (so:Str->Option Seat) (ho asked:Seat->Option Str) (rk:Str->Nat) (name a:Str) (s:Seat) (e_:vs=[.ref p,.ref d3,.ref q]) (r_:H q=some (.tup (xau s))/\Sg t H p d1 d2 n so ho/\HoD H d3 m asked/\d3≠d2/\n<=600/\Kp.Mt room so ho/\ho s=none/\asked s=some a/\xph room so asked rk name/\∀ H' so' ho',KB H H' d1 d2->(∀ b,H b=none->H' b=none)->Sg t H' p d1 d2 (n+30) so' ho'->Kp.Mt room so' ho'->(∀ z,(so' z).isSome=(decide (z=name)||(so z).isSome))->Kp.Rch (Kp.kstep room so ho) (.hand so ho asked s) (.fin so' ho')->Q .non H')
theorem ok_ae (T:Txt w K mg t):FnOk true P w K mg base (CXo P w) 1 t.f_ae t.d_ae ["self"] (xn1 t):=by
 refine T.F_ae.okn (k:=0) sc_ae (fun vs H Q E h=>?_) (fun cdv A outer s H vs Q E hr h=>?_)
 .obtain ⟨p,dx,rfl,_⟩:=h;rfl
 .obtain ⟨p,dx,rfl,h⟩:=h;refine⟨_,xj (xb5 (pv 0) (xdw) rfl)
   (xm (xb5 (pv 0) (xdr) rfl)),?_⟩
  obtain⟨hp,q⟩:=h;refine fun d1 hd1=>?_;have n1:p≠d1:=xg hp hd1;refine⟨_,rfl,p,_,dx,_,rfl,(by rw[xh n1]; exact hp),T.c_z,T.n_a3,(by show 0<1000; decide),fun d2 hd2=>?_⟩;have n2:p≠d2:=xg xi hd2;have n3:d1≠d2:=xg (by rw[xh (Zw n1)]; exact xi) hd2;refine⟨_,rfl,p,_,dx,_,rfl,(by rw[xh n2]; exact xi),T.c_z,T.n_a0,(by show 1<1000; decide),?_⟩;have hd2':H d2=none:=by
   have z:=hd2;rw[xh (Zw n2),xh (Zw n3)] at z;exact z
  refine q _ d1 d2 hd1 hd2' (fun b u nb e=>?_) ⟨⟨dx,xi⟩,⟨[],?_,Zi _,fun nm=>⟨fun _=>rfl,fun s z=>(nomatch z)⟩⟩,⟨[],?_,Zi _,fun s=>rfl⟩⟩
  .rw [xh nb,xh (xg e hd2'),xh nb,xh (xg e hd1)];exact e
  .rw [xh (Zw n1),xh n3,xh (Zw n1)];exact xi
  .rw [xh (Zw n2)];exact xi
theorem ok_m (T:Txt w K mg t):FnOk true P w K mg base (CXo P w) 1 t.f_m t.d_m ["self", "asked_by", "free_seat"] (xsx t):=by
 refine T.F_m.okn (k:=0) sc_m (fun vs H Q E h=>?_) (fun cdv A outer s H vs Q E hr h=>?_)
 .obtain ⟨p,d1,d2,d3,q0,n,m,room,so,ho,asked,rk,name,a0,s0,rfl,_⟩:=h;rfl
 .obtain ⟨p,d1,d2,d3,q0,n,m,room,so,ho,asked,rk,name,a0,s0,rfl,h⟩:=h;refine⟨_,xj (xz (i:=3) sc_m.nd rfl (Zq rfl) (pv 2))
   (xm (xfv ZA (xac xfj (pv 3) (xb6) (xag _)) (xj (xz (i:=4) sc_m.nd rfl (Zq rfl) (xa9 (xam hr) (pv 1) (pv 3) (fun _ _=>rfl)))
   (xj (xz (i:=5) sc_m.nd rfl (Zq rfl) (xix (xam hr) (xae (pv 0) rfl) (pv 4) ⟨rfl,rfl,rfl,rfl⟩))
   (xj (xb9 (xam hr) (xae (pv 0) rfl) (pv 4) (pv 3) rfl)
   (xj (xb9 (xam hr) (xae (pv 0) rfl) (pv 3) (pv 4) rfl)
   (xm (xz (i:=3) sc_m.nd rfl (Zq rfl) (pv 5))))))))),?_⟩
  obtain⟨hq0,sg,had,n32,n600,mt,hs0,as0,ch,q⟩:=h;refine⟨_,rfl,?_⟩;refine⟨fun k Z H1=>∃ v3 v4 v5,Z=[some (.ref p),some (.ref d3),some (.ref q0),some v3,v4,v5]/\KB H H1 d1 d2/\(∀ b,H b=none->H1 b=none)/\((v3=.non/\k=0/\∃ so' ho',Sg t H1 p d1 d2 (n+30) so' ho'/\Kp.Mt room so' ho'/\(∀ z,(so' z).isSome=(decide (z=name)||(so z).isSome))/\Kp.Rch (Kp.kstep room so ho) (.hand so ho asked s0) (.fin so' ho'))\/∃(qs:Addr) (s:Seat) (a:Str) (so1:Str->Option Seat) (ho1:Seat->Option Str) (n1:Nat),v3=.ref qs/\H1 qs=some (.tup (xau s))/\asked s=some a/\k=rk a+1/\Kp.Hand room (fun z=>(so z).isSome) so1 ho1 s/\(∀ b,rk b<=rk a->so1 b=so b)/\Sg t H1 p d1 d2 n1 so1 ho1/\n1+rk a<=n+20/\Kp.Rch (Kp.kstep room so ho) (.hand so ho asked s0) (.hand so1 ho1 asked s)),⟨rk a0+1,_,_,_,rfl,fun b u _ _ e=>e,fun b e=>e,.inr ⟨q0,s0,a0,so,ho,n,rfl,hq0,as0,rfl,mt.hand hs0,fun _ _=>rfl,sg,(by have:=ch.le _ _ as0; omega),.refl _⟩⟩,?_⟩;rintro k Z H1 ⟨v3,v4,v5,rfl,kb,fr,cs⟩;refine⟨_,rfl,rfl,_,rfl,?_⟩;rcases cs with⟨rfl,rfl,so',ho',sg',mt',dm',rc'⟩|⟨qs,s,a,so1,ho1,n1,rfl,hqs,asd,rfl,hand,low,sg1,nb,rc1⟩
  .exact ifN (by decide) (q H1 so' ho' kb fr sg' mt' dm' rc')
  .refine ifP (by rw[decide_eq_false (fun z=>nomatch z)]; rfl) ⟨fun σ' H'=>∃ k',k'<rk a+1/\∃ v3 v4 v5,σ'=[some (.ref p),some (.ref d3),some (.ref q0),some v3,v4,v5]/\KB H H' d1 d2/\(∀ b,H b=none->H' b=none)/\((v3=.non/\k'=0/\∃ so' ho',Sg t H' p d1 d2 (n+30) so' ho'/\Kp.Mt room so' ho'/\(∀ z,(so' z).isSome=(decide (z=name)||(so z).isSome))/\Kp.Rch (Kp.kstep room so ho) (.hand so ho asked s0) (.fin so' ho'))\/∃(qs:Addr) (s:Seat) (a:Str) (so1:Str->Option Seat) (ho1:Seat->Option Str) (n1:Nat),v3=.ref qs/\H' qs=some (.tup (xau s))/\asked s=some a/\k'=rk a+1/\Kp.Hand room (fun z=>(so z).isSome) so1 ho1 s/\(∀ b,rk b<=rk a->so1 b=so b)/\Sg t H' p d1 d2 n1 so1 ho1/\n1+rk a<=n+20/\Kp.Rch (Kp.kstep room so ho) (.hand so ho asked s0) (.hand so1 ho1 asked s)),fun σ' H' z=>z,?_⟩;obtain⟨dx1,hp1⟩:=sg1.ins;obtain⟨ka,hka,_⟩:=id had;obtain⟨k1,hk1,_⟩:=id sg1.so;obtain⟨k2,hk2,_⟩:=id sg1.ho;obtain⟨k10,hk10,_⟩:=id sg.so;obtain⟨k20,hk20,_⟩:=id sg.ho;have n31:d3≠d1:=xp hka hk10 (fun z=>nomatch z);have n12:d1≠d2:=xp hk1 hk2 (fun z=>nomatch z);have had1:=had.keep (H':=H1) (fun u e=>kb _ _ n31 n32 e);have gt:=had1.get hqs;rw[asd] at gt;refine⟨_,rfl,_,rfl,d3,.str a,rfl,gt,?_⟩;have lowa:=low a (Zi _);have rma:=ch.rm _ _ asd;have np1:p≠d1:=xp hp1 hk1 (fun z=>nomatch z);have np2:p≠d2:=xp hp1 hk2 (fun z=>nomatch z)
   -- the two puts
   obtain⟨H2,dp2,so2,kk2,tp2,fr2⟩:=sg1.so.put (by omega) hqs a;have hp2:=kk2 _ _ np1 hp1;have hqs2:=tp2 _ _ hqs;have ho2:=sg1.ho.keep (H':=H2) (fun u e=>kk2 _ _ (Zw n12) e);obtain⟨H3,dp3,ho3,kk3,tp3,fr3⟩:=ho2.put (by omega) hqs2 a;have so3:=so2.keep tp3 (fun u e=>kk3 _ _ n12 e);have hp3:=kk3 _ _ np2 hp2;have kb3:KB H H3 d1 d2:=fun b u b1 b2 e=>kk3 _ _ b2 (kk2 _ _ b1 (kb _ _ b1 b2 e));have fr03:∀ b,H b=none->H3 b=none:=fun b e=>fr3 _ (fr2 _ (fr _ e));have sg3:Sg t H3 p d1 d2 (n1+1) (Kp.upd1 so1 a s) (Kp.upd1 ho1 s a):=⟨⟨dx1,hp3⟩,so3,ho3⟩
   rcases sg1.so.get a with⟨e0,g0⟩|⟨s1,q1,e1,g1,hq1⟩
   .refine ⟨_,rfl,p,_,dx1,_,_,rfl,hp1,T.c_z,T.n_a3,lkSo,d1,rfl,.inl ⟨k1,.inl hk1⟩,_,rfl,none,g0,?_⟩;refine⟨_,rfl,_,rfl,p,_,dx1,_,_,rfl,hp1,T.c_z,T.n_a3,lkSo,_,rfl,d1,H2,rfl,dp2,?_⟩;refine⟨_,rfl,_,rfl,p,_,dx1,_,_,rfl,hp2,T.c_z,T.n_a0,lkHo,_,rfl,d2,H3,rfl,dp3,?_⟩;have an:a=name:=ch.no _ _ asd (by rw[<- lowa]; exact e0);obtain⟨mt3,dm3⟩:=hand.last rma e0;exact⟨_,rfl,0,by omega,_,_,_,rfl,kb3,fr03,.inl ⟨rfl,rfl,_,_,sg3.le (by omega),mt3,(fun z=>by rw[dm3 z,an]),.step rc1 (Kp.k_fin asd e0)⟩⟩
   .refine ⟨_,rfl,p,_,dx1,_,_,rfl,hp1,T.c_z,T.n_a3,lkSo,d1,rfl,.inl ⟨k1,.inl hk1⟩,_,rfl,some (.ref q1),g1,?_⟩;refine⟨_,rfl,_,rfl,p,_,dx1,_,_,rfl,hp1,T.c_z,T.n_a3,lkSo,_,rfl,d1,H2,rfl,dp2,?_⟩;refine⟨_,rfl,_,rfl,p,_,dx1,_,_,rfl,hp2,T.c_z,T.n_a0,lkHo,_,rfl,d2,H3,rfl,dp3,?_⟩;obtain⟨a1,as1,lt⟩:=ch.up _ _ asd s1 (by rw[<- lowa]; exact e1);refine⟨_,rfl,rk a1+1,by omega,_,_,_,rfl,kb3,fr03,.inr ⟨q1,s1,a1,_,_,n1+1,rfl,tp3 _ _ (tp2 _ _ hq1),as1,rfl,hand.step rma e1,fun b hb=>?_,sg3,by omega,.step rc1 (Kp.k_hand asd e1)⟩⟩;have nba:b≠a:=fun z=>by rw[z] at hb; omega
    show Kp.upd1 so1 a s b=so b;unfold Kp.upd1;rw[if_neg nba];exact low b (by omega)
structure Bf (room:Str->List Seat) (ho:Seat->Option Str) (name:Str) (crowd:List Str) (al:List Seat) (asked:Seat->Option Str):Prop where
 cr:crowd.length=al.length+1
 c0:crowd[0]?=some name
 hd:∀(j:Nat) (s:Seat),al[j]?=some s->∃ h,crowd[j+1]?=some h/\ho s=some h
 nd:al.Nodup
 no:∀ s,s∉al->asked s=none
 ak:∀(j:Nat) (s:Seat),al[j]?=some s->∃ k a,k<=j/\crowd[k]?=some a/\asked s=some a/\s∈room a
theorem xpe {α:Type}{l:List α} (nd:l.Nodup) {i j:Nat} (hi:i<l.length) (hj:j<l.length) (e:l[i]=l[j]):i=j:=by
 rcases Nat.lt_trichotomy i j with h|h|h
 .exact absurd e (Jy.mp nd i j hi hj h)
 .exact h
 .exact absurd e.symm (Jy.mp nd j i hj hi h)
section
variable {room:Str->List Seat}{so:Str->Option Seat}{ho asked:Seat->Option Str}{name:Str}{crowd:List Str}{al:List Seat}
theorem Bf.start:Bf room ho name [name] [] (fun _=>none):=⟨rfl,rfl,fun j s e=>by simp at e,JP,fun _ _=>rfl,fun j s e=>by simp at e⟩
theorem Bf.at_ (b:Bf room ho name crowd al asked) (mt:Kp.Mt room so ho) {k:Nat}{a:Str} (e:crowd[k]?=some a):(k=0/\a=name)\/∃ j s,k=j+1/\al[j]?=some s/\so a=some s:=by
 cases k with
 | zero =>
  left;rw[b.c0] at e;exact⟨rfl,(ZN.inj e).symm⟩
 | succ j =>
  right;have lt:j<al.length:=by
   have:=(Zh.mp e).1;have:=b.cr;omega
  obtain⟨h,e1,e2⟩:=b.hd j _ (Za lt);rw[e] at e1;cases e1;exact⟨j,_,rfl,Za lt,(mt.iff _ _).mpr e2⟩
theorem Bf.inj (b:Bf room ho name crowd al asked) (mt:Kp.Mt room so ho) (sn:so name=none) {k l:Nat}{a:Str} (e:crowd[k]?=some a) (e':crowd[l]?=some a):k=l:=by
 rcases b.at_ mt e with⟨rfl,rfl⟩|⟨j,s,rfl,h1,h2⟩<;>rcases b.at_ mt e' with⟨rfl,h⟩|⟨j',s',rfl,h1',h2'⟩
 .rfl
 .rw [sn] at h2';cases h2'
 .rw [h,sn] at h2;cases h2
 .rw [h2] at h2';cases h2';obtain⟨x,hx⟩:=Zh.mp h1;obtain⟨y,hy⟩:=Zh.mp h1';have:=(xpe b.nd x y (by rw[hx,hy]))
  omega
theorem Bf.nodup (b:Bf room ho name crowd al asked) (mt:Kp.Mt room so ho) (sn:so name=none):crowd.Nodup:=by
 refine Jy.mpr fun i j hi hj lt e=>?_;have:=b.inj mt sn (Za hi) (by rw[e]; exact Za hj);omega
theorem Bf.add (b:Bf room ho name crowd al asked) {i:Nat}{a h:Str}{s:Seat} (ea:crowd[i]?=some a) (ra:s∈room a) (ns:s∉al) (hh:ho s=some h):Bf room ho name (crowd++[h]) (al++[s]) (Kp.upd1 asked s a):=by
 have cr:=b.cr;have il:=(Zh.mp ea).1;have lft:∀{k:Nat}{x:Str},crowd[k]?=some x->(crowd++[h])[k]?=some x:=fun {k x} e=>by
  rw[ZV (Zh.mp e).1];exact e
 refine⟨by rw[Zu,Zu,cr]; rfl,lft b.c0,fun j z e=>?_,?_,fun z nz=>?_,fun j z e=>?_⟩
 .by_cases c:j<al.length
  .rw [ZV c] at e;obtain⟨h',e1,e2⟩:=b.hd j z e;exact⟨h',lft e1,e2⟩
  .have jl:=(Zh.mp e).1;rw[Zu,ZS] at jl;have:j=al.length:=by omega
   subst this;rw[Ju (Zi _),Nat.sub_self] at e;cases e;refine⟨h,?_,hh⟩;rw[<- cr,Ju (Zi _),Nat.sub_self];rfl
 .rw [Jc];exact⟨b.nd,by simp,fun x hx y hy e=>ns (by rw[Zt.mp hy] at e; exact e▸hx)⟩
 .unfold Kp.upd1;rw[if_neg (fun e=>nz (by rw[e]; exact Z2 _ (Zt.mpr rfl)))];exact b.no z fun y=>nz (ZL _ y)
 .by_cases c:j<al.length
  .rw [ZV c] at e;obtain⟨k,x,e1,e2,e3,e4⟩:=b.ak j z e;refine⟨k,x,e1,lft e2,?_,e4⟩;unfold Kp.upd1;rw[if_neg (fun y=>ns (by rw[<- y]; exact Zl e))];exact e3
  .have jl:=(Zh.mp e).1;rw[Zu,ZS] at jl;have:j=al.length:=by omega
   subst this;rw[Ju (Zi _),Nat.sub_self] at e;cases e;refine⟨i,a,by omega,lft ea,?_,ra⟩;unfold Kp.upd1;rw[if_pos rfl]
theorem Bf.chain (b:Bf room ho name crowd al asked) (mt:Kp.Mt room so ho) (sn:so name=none) (c20:crowd.length<=20) {i:Nat}{a:Str}{s:Seat} (ea:crowd[i]?=some a) (ra:s∈room a) (ns:s∉al):xph room so (Kp.upd1 asked s a) (fun z=>crowd.idxOf z) name:=by
 have ix:∀{k:Nat}{x:Str},crowd[k]?=some x->crowd.idxOf x=k:=fun {k x} e=>by
  have m:=Zl e;have lt:=List.idxOf_lt_length_of_mem m;refine b.inj mt sn (a:=x) ?_ e;rw[Za lt,List.getElem_idxOf]
 have key:∀ s' a',Kp.upd1 asked s a s'=some a'->s'∈room a'/\∃ k,crowd[k]?=some a':=fun s' a' e=>by
  unfold Kp.upd1 at e;split at e
  .rename_i h
   cases e;rw[h];exact⟨ra,i,ea⟩
  .by_cases h:s'∈al
   .obtain ⟨j,hj,ej⟩:=Z8 h;obtain⟨k,x,e1,e2,e3,e4⟩:=b.ak j s' (by rw[Za hj,ej]);rw[e] at e3;cases e3;exact⟨e4,k,e2⟩
   .rw [b.no s' h] at e;cases e
 refine⟨fun s' a' e=>(key s' a' e).1,fun s' a' e z=>?_,fun s' a' e s1 z=>?_,fun s' a' e=>?_⟩
 .obtain ⟨_,k,ek⟩:=key s' a' e;rcases b.at_ mt ek with⟨_,h⟩|⟨j,s2,_,_,h⟩
  .exact h
  .rw [z] at h;cases h
 .obtain ⟨_,k,ek⟩:=key s' a' e;rcases b.at_ mt ek with⟨_,h⟩|⟨j,s2,rfl,hj,h⟩
  .rw [h,sn] at z;cases z
  .rw [z] at h;cases h;obtain⟨k2,a2,e1,e2,e3,_⟩:=b.ak j s1 hj;refine⟨a2,?_,?_⟩
   .unfold Kp.upd1;rw[if_neg (fun y=>ns (by rw[<- y]; exact Zl hj))];exact e3
   .show crowd.idxOf a2<crowd.idxOf a';rw[ix e2,ix ek];omega
 .obtain ⟨_,k,ek⟩:=key s' a' e;show crowd.idxOf a'<=20;rw[ix ek];have:=(Zh.mp ek).1;omega
theorem Bf.done (b:Bf room ho name crowd al asked) (mt:Kp.Mt room so ho) (sn:so name=none) (all:∀(k:Nat) (a:Str),crowd[k]?=some a->∀ s∈room a,s∈al):∃ hs,crowd=name::hs/\Kp.Crowd room so name hs:=by
 have nd:=b.nodup mt sn;cases crowd with
 | nil =>
  have:=b.c0;simp at this
 | cons x hs =>
  have e0:=b.c0;rw[List.getElem?_cons_zero] at e0;cases e0;refine⟨hs,rfl,nd,fun h hh=>?_,fun c hc s hs'=>?_⟩
  .obtain ⟨j,hj,ej⟩:=Z8 hh;have e:(name::hs)[j+1]?=some h:=by
    rw[List.getElem?_cons_succ,Za hj,ej]
   rcases b.at_ mt e with⟨z,_⟩|⟨_,s,_,_,z⟩
   .omega
   .rw [z];rfl
  .obtain ⟨k,hk,ek⟩:=Z8 hc;have sal:=all k c (by rw[Za hk,ek]) s hs';obtain⟨j,hj,ej⟩:=Z8 sal;obtain⟨h,e1,e2⟩:=b.hd j s (by rw[Za hj,ej]);rw[List.getElem?_cons_succ] at e1;exact⟨h,Zl e1,(mt.iff _ _).mpr e2⟩
end
def RmD (H:Hp) (d:Addr) (names:List Str) (room:Str->List Seat):Prop:=∃ kvs:List (Key × V),H d=some (.dK kvs)/\∀ nm∈names,∃ l rs,valV kvs (.inr nm)=some (.ref l)/\H l=some (.lst (rs.map V.ref))/\xal H (room nm) rs
inductive xq0 (t:Adr) (vs:List V) (H:Hp) (Q:VK) (_:XK):Prop
 | mk (p d1 d2 rm:Addr) (n:Nat) (room:Str->List Seat) (so:Str->Option Seat) (ho:Seat->Option Str) (names:List Str) (name:Str) (e_:vs=[.ref p,.str name,.ref rm]) (r_:Sg t H p d1 d2 n so ho/\n<=600/\Kp.Mt room so ho/\so name=none/\RmD H rm names room/\rm≠d1/\(∀ z,(so z).isSome->z∈names)/\name∈names/\names.length<=12/\(∀ z,(room z).length<=32)/\(∀ H' l so' ho',KB H H' d1 d2->H l=none->H' l=some (.lst [])->Sg t H' p d1 d2 (n+30) so' ho'->Kp.Mt room so' ho'->(∀ z,(so' z).isSome=(decide (z=name)||(so z).isSome))->Kp.Rch (Kp.kstep room so ho) (.ask [name] (fun _=>none) 0 0) (.fin so' ho')->Q (.ref l) H')/\∀ H' l hs,Same H H'->H l=none->H' l=some (.lst ((name::hs).map V.str))->Kp.Crowd room so name hs->Kp.Rch (Kp.kstep room so ho) (.ask [name] (fun _=>none) 0 0) (.out (name::hs))->Q (.ref l) H')
def ICr (t:Adr) (H:Hp) (p d1 d2 rm lc da:Addr) (n:Nat) (room:Str->List Seat) (so:Str->Option Seat) (ho:Seat->Option Str) (name:Str) (i j:Nat) (crowd:List Str) (al:List Seat) (asked:Seat->Option Str) (H1:Hp):Prop :=
 Same H H1/\H1 lc=some (.lst (crowd.map V.str))/\HoD H1 da al.length asked/\Bf room ho name crowd al asked/\(∀(k:Nat) (a:Str),k<i->crowd[k]?=some a->∀ s∈room a,s∈al)/\Kp.Rch (Kp.kstep room so ho) (.ask [name] (fun _=>none) 0 0) (.ask crowd asked i j)
theorem ok_d (T:Txt w K mg t):FnOk true P w K mg base (CXo P w) 2 t.f_d t.d_d ["self", "name", "rooms"] (xq0 t):=by
 refine T.F_d.okn (k:=1) sc_d (fun vs H Q E h=>?_) (fun cdv A outer s H vs Q E hr h=>?_)
 .obtain ⟨p,d1,d2,rm,n,room,so,ho,names,name,rfl,_⟩:=h;rfl
 .obtain ⟨p,d1,d2,rm,n,room,so,ho,names,name,rfl,h⟩:=h;refine⟨_,xj (xz (i:=3) sc_d.nd rfl (Zq rfl) (xcf (xf (pv 1) (xk))))
   (xj (xz (i:=4) sc_d.nd rfl (Zq rfl) (xdr))
   (xj (xz (i:=5) sc_d.nd rfl (Zq rfl) (xn))
   (xj (xfv ZA (xac xev (pv 5) (xah xba rfl T.n_len YH (xf (pv 3) (xk))) (xag _)) (xj (xz (i:=6) sc_d.nd rfl (Zq rfl) (xbc xbx (pv 3) (pv 5) (fun _ _=>rfl)))
   (xj (xa0 ZA rfl (xas (xa9 (xam hr) (pv 2) (pv 6) (fun _ _=>rfl))) (xq (i:=7) sc_d.nd rfl (Zq rfl)) (xm (xaj (xcm (xct (xam hr) (pv 7) (pv 4))) (xj (xb9 (xam hr) (pv 4) (pv 7) (pv 6) rfl)
   (xj (xaj (xcm (xct (xam hr) (pv 7) (xae (pv 0) rfl))) (xj (xak (xan (pv 0) T.c_z T.m_m (ok_m T) (hmm hr) T.b_m .nil xl (xf (pv 4) (xf (pv 7) (xk)))))
   (xm (xad (xcf (xk))))) (x9))
   (xm (xak (xfm Jq YL YK xdm (pv 3) (xf (xa9 (xam hr) (xae (pv 0) rfl) (pv 7) (fun _ _=>rfl)) (xk))))))) (x9))))
   (xm (xsb (i:=5) sc_d.nd rfl (Zq rfl) (xn) xrh)))))
   (xm (xad (pv 3)))))),?_⟩
  obtain⟨sg,n600,mt,sn,rmd,nrm,dom,nin,n12,r32,qA,qB⟩:=h;refine⟨_,rfl,(by show 1<=sizeLine; decide),fun lc hlc=>?_⟩;have s1:Same H (upd H lc (.lst [.str name])):=xr (Same.refl _) hlc;have g1:upd H lc (.lst [.str name]) lc=some (.lst [.str name]):=xi;revert s1 g1;generalize upd H lc (.lst [.str name])=H1;intro s1 g1;refine fun da hda=>?_;have s2:Same H1 (upd H1 da (.dT [])):=xr (Same.refl _) hda;have g2:upd H1 da (.dT []) da=some (.dT []):=xi;revert s2 g2;generalize upd H1 da (.dT [])=H2;intro s2 g2;have fda:=s1.free hda;have s02:=s1.trans s2;have ncd:lc≠da:=xg g1 hda;have cl12:∀{crowd:List Str}{al:List Seat}{asked:Seat->Option Str},Bf room ho name crowd al asked->crowd.length<=12:=fun {crowd al asked} b=>by
   refine Z6 ((b.nodup mt sn).length_le_of_subset (l₂:=names) fun x hx=>?_) n12;obtain⟨k,hk,ek⟩:=Z8 hx;rcases b.at_ mt (show crowd[k]?=some x by rw[Za hk,ek]) with⟨_,e⟩|⟨j,s,_,_,e⟩
   .rw [e];exact nin
   .exact dom x (by rw[e]; rfl)
  refine⟨fun m Z H3=>∃(i:Nat) (crowd:List Str) (al:List Seat) (asked:Seat->Option Str) (v6 v7:Option V),m+i=13/\i<=crowd.length/\Z=[some (.ref p),some (.str name),some (.ref rm),some (.ref lc),some (.ref da),some (.int (i:Int)),v6,v7]/\ICr t H p d1 d2 rm lc da n room so ho name i 0 crowd al asked H3,⟨13,0,[name],[],fun _=>none,_,_,rfl,Ja _,rfl,s02,s2 _ _ g1,⟨[],g2,Zi _,fun _=>rfl⟩,.start,(fun k a z=>by omega),.refl _⟩,?_⟩;rintro m Z H3 ⟨i,crowd,al,asked,v6,v7,mi,il,rfl,s3,hlc3,had3,bf,cov,rc3⟩;have c12:=cl12 bf;refine⟨_,rfl,_,rfl,lc,_,rfl,.inl (SqL.of hlc3),_,_,rfl,rfl,_,rfl,ite2 (fun y=>?_) (fun y=>?_)⟩
  .have ic:i<crowd.length:=by
    have z:=of_decide_eq_true y;rw[Zc] at z;omega
   refine⟨fun σ' H'=>∃ m',m'<m/\∃(i:Nat) (crowd:List Str) (al:List Seat) (asked:Seat->Option Str) (v6 v7:Option V),m'+i=13/\i<=crowd.length/\σ'=[some (.ref p),some (.str name),some (.ref rm),some (.ref lc),some (.ref da),some (.int (i:Int)),v6,v7]/\ICr t H p d1 d2 rm lc da n room so ho name i 0 crowd al asked H',fun σ' H' z=>z,?_⟩;obtain⟨a,ea⟩:∃ a,crowd[i]?=some a:=⟨_,Za ic⟩
   refine⟨_,rfl,_,rfl,lc,_,_,.str a,rfl,rfl,SqL.of hlc3,xcx (by rw[Zf,ea]; rfl),?_⟩;have ain:a∈names:=by
    rcases bf.at_ mt ea with⟨_,e⟩|⟨j,s,_,_,e⟩
    .rw [e];exact nin
    .exact dom a (by rw[e]; rfl)
   obtain⟨kr,hkr,fr⟩:=id rmd;obtain⟨lr,rs,er,hlr,slr⟩:=fr a ain;have gr:=DGet.k (k:=.inr a) (s3 _ _ hkr);rw[er] at gr;refine⟨_,rfl,_,rfl,rm,.ref lr,rfl,gr,lr,rfl,⟨_,SqL.of (s3 _ _ hlr)⟩,?_⟩;have rll:=slr.len;refine xa7 (xs:=rs.map V.ref) (Pv:=fun j Z H4=>∃(crowd:List Str) (al:List Seat) (asked:Seat->Option Str) (v7:Option V),crowd[i]?=some a/\(∀ s∈(room a).take j,s∈al)/\Z=[some (.ref p),some (.str name),some (.ref rm),some (.ref lc),some (.ref da),some (.int (i:Int)),some (.str a),v7]/\ICr t H p d1 d2 rm lc da n room so ho name i j crowd al asked H4) ⟨crowd,al,asked,_,ea,(fun s hs=>by rw[List.take_zero] at hs; exact nomatch hs),rfl,s3,hlc3,had3,bf,cov,rc3⟩ ?_ ?_ ?_
   .rintro j Z H4 _ ⟨_,_,_,_,_,_,rfl,s4,_⟩;exact SqL.of (s4 _ _ hlr)
   .rintro j x Z H4 hx ⟨crowd,al,asked,v7,ea,tk,rfl,s4,hlc4,had4,bf,cov,rc4⟩;rw[Zf,Zj] at hx;obtain⟨qs,hqs,rfl⟩:=hx;obtain⟨s,hs,hsq⟩:=slr.get hqs;have hsq4:=s4 _ _ hsq;have ra:s∈room a:=Zl hs;have c12:=cl12 bf;have cr:=bf.cr;have tk1:∀ al':List Seat,(∀ z∈al,z∈al')->s∈al'->∀ z∈(room a).take (j+1),z∈al':=fun al' h1 h2 z hz=>by
     rw[ZP,hs] at hz;rcases ZB.mp hz with hz|hz
     .exact h1 _ (tk z hz)
     .have hz:z∈[s]:=hz;rw[Zt.mp hz];exact h2
    refine⟨_,rfl,_,rfl,da,_,rfl,had4.get hsq4,_,rfl,ite2 (fun y=>?_) (fun y=>?_)⟩
    .have ns:s∉al:=fun z=>by
      obtain⟨k,hk,ek⟩:=Z8 z;obtain⟨_,x,_,_,e3,_⟩:=bf.ak k s (by rw[Za hk,ek]);rw[e3] at y;exact absurd y (by simp)
     obtain⟨H5,dp5,had5,k5,tp5,fr5⟩:=had4.put (by omega) hsq4 a;refine⟨_,rfl,_,rfl,_,rfl,da,H5,rfl,dp5,?_⟩;have sg4:=sg.same s4;obtain⟨dx4,hp4⟩:=sg4.ins;obtain⟨kq1,hkq1,_⟩:=id sg.so;obtain⟨kq2,hkq2,_⟩:=id sg.ho;obtain⟨dxp,hpp⟩:=sg.ins;have sg5:Sg t H5 p d1 d2 n so ho:=sg4.keep (d:=da) (xg hpp fda) (xg hkq1 fda) (xg hkq2 fda) tp5 k5;have hp5:=k5 _ _ (xg hpp fda) hp4;have hsq5:=tp5 _ _ hsq4;have hlc5:=k5 _ _ ncd hlc4;have s5:Same H H5:=fun c u e=>k5 _ _ (xg e fda) (s4 _ _ e);refine⟨_,rfl,_,rfl,p,_,dx4,_,_,rfl,hp5,T.c_z,T.n_a0,lkHo,d2,_,rfl,sg5.ho.get hsq5,_,rfl,ite2 (fun y2=>?_) (fun y2=>?_)⟩
     .have hn:ho s=none:=by
       cases e:ho s with
       | none=>rfl
       | some h =>
        rw[e] at y2;exact absurd y2 (by simp)
      refine⟨_,rfl,p,dx4,_,rfl,hp5,xjc (by decide +kernel),_,rfl,_,rfl,p,d1,d2,da,qs,n,_,room,so,ho,_,_,name,a,s,rfl,hsq5,sg5,had5,Zw (xg hkq2 fda),n600,mt,hn,by unfold Kp.upd1; rw[if_pos rfl],bf.chain mt sn (by omega) ea ra ns,fun H6 so' ho' kb6 fr6 sg6 mt6 dm6 rc6=>?_⟩;refine⟨(by show 0<=sizeLine; decide),fun l hl=>?_⟩;have kb:KB H H6 d1 d2:=fun b u b1 b2 e=>kb6 _ _ b1 b2 (s5 _ _ e);have hl0:H l=none:=by
       cases e:H l with
       | none=>rfl
       | some u =>
        by_cases e1:l=d1
        .obtain ⟨kz,hkz,_⟩:=sg6.so;rw[<- e1,hl] at hkz;cases hkz
        .by_cases e2:l=d2
         .obtain ⟨kz,hkz,_⟩:=sg6.ho;rw[<- e2,hl] at hkz;cases hkz
         .rw [kb _ _ e1 e2 e] at hl;cases hl
      exact qA _ l so' ho' (fun b u b1 b2 e=>by rw[xh (xg e hl0)]; exact kb _ _ b1 b2 e) hl0 xi (sg6.same (xr (Same.refl _) hl)) mt6 dm6 ((Kp.Rch.step rc4 (Kp.k_free ea hs (bf.no s ns) hn)).trans rc6)
     .obtain ⟨h,eh⟩:∃ h,ho s=some h:=by
       cases e:ho s with
       | none =>
        rw[e] at y2;exact absurd rfl y2
       | some h=>exact⟨h,rfl⟩
      have gh:=sg5.ho.get hsq5;rw[eh] at gh;refine⟨_,rfl,.inl ⟨rfl,_,SqL.of hlc5⟩,_,rfl,p,_,dx4,_,_,rfl,hp5,T.c_z,T.n_a0,lkHo,_,rfl,d2,.str h,rfl,gh,lc,_,_,rfl,rfl,hlc5,?_,?_⟩
      .rw [Zc];exact ZG (by omega:_<=1000) (by decide)
      have kl:∀ c u,c≠lc->H5 c=some u->upd H5 lc (.lst (crowd.map V.str++[.str h])) c=some u:=fun c u nc e=>by rw[xh nc]; exact e
      refine⟨crowd++[h],al++[s],_,_,?_,tk1 _ (fun z hz=>ZL _ hz) (Z2 _ (Zt.mpr rfl)),rfl,fun c u e=>kl _ _ (xg e hlc) (s5 _ _ e),by rw[xi,ZC]; rfl,?_,bf.add ea ra ns eh,fun k b hk eb z hz=>?_,.step rc4 (Kp.k_grow ea hs (bf.no s ns) eh)⟩
      .rw [ZV (Zh.mp ea).1];exact ea
      .rw [Zu,ZS];exact had5.keep (fun u e=>kl _ _ (Zw ncd) e)
      .have hkl:k<crowd.length:=by
        have:=(Zh.mp ea).1;omega
       rw[ZV hkl] at eb;exact ZL _ (cov k b hk eb z hz)
    .have sin:s∈al:=by
      by_cases z:s∈al
      .exact z
      .rw [bf.no s z] at y;exact absurd rfl y
     obtain⟨kk,hkk,ekk⟩:=Z8 sin;obtain⟨_,xx,_,_,e3,_⟩:=bf.ak kk s (by rw[Za hkk,ekk]);exact⟨crowd,al,asked,_,ea,tk1 al (fun z hz=>hz) sin,rfl,s4,hlc4,had4,bf,cov,.step rc4 (Kp.k_old ea hs e3)⟩
   .rintro Z H4 ⟨crowd,al,asked,v7,ea,tk,rfl,s4,hlc4,had4,bf,cov,rc4⟩;rw[Zc,rll] at rc4;rw[Zc,rll,Jx (Zi _)] at tk;have ic:=(Zh.mp ea).1;refine⟨_,rfl,_,_,rfl,rfl,m-1,by omega,i+1,crowd,al,asked,_,_,by omega,by omega,rfl,s4,hlc4,had4,bf,fun k b hk eb z hz=>?_,.step rc4 (Kp.k_next ea (Jn (Zi _)))⟩;by_cases c:k=i
    .subst c;rw[ea] at eb;cases eb;exact tk z hz
    .exact cov k b (by omega) eb z hz
  .have ic:i=crowd.length:=by
    by_cases z:i<crowd.length
    .exact absurd (decide_eq_true (by rw[Zc]; omega)) y
    .omega
   obtain⟨hs,ec,cw⟩:=bf.done mt sn fun k a e z hz=>cov k a (by have:=(Zh.mp e).1; omega) e z hz
   refine⟨_,rfl,qB H3 lc hs s3 hlc (by rw[<- ec]; exact hlc3) cw ?_⟩;rw[<- ec];exact .step rc3 (Kp.k_end (Jn (by omega)))
inductive Run (room:Str->List Seat):List Str->(Str->Option Seat)->(Seat->Option Str)->List (Str × List Str)->Prop
 | nil:Run room [] (fun _=>none) (fun _=>none) []
 | inn {ns:List Str}{so so':Str->Option Seat}{ho ho':Seat->Option Str}{cs:List (Str × List Str)}{nm:Str} (r:Run room ns so ho cs) (mt:Kp.Mt room so' ho') (dm:∀ z,(so' z).isSome=(decide (z=nm)||(so z).isSome)) (rc:Kp.Rch (Kp.kstep room so ho) (.ask [nm] (fun _=>none) 0 0) (.fin so' ho')):Run room (ns++[nm]) so' ho' cs
 | out {ns:List Str}{so:Str->Option Seat}{ho:Seat->Option Str}{cs:List (Str × List Str)}{nm:Str}{hs:List Str} (r:Run room ns so ho cs) (c:Kp.Crowd room so nm hs) (rc:Kp.Rch (Kp.kstep room so ho) (.ask [nm] (fun _=>none) 0 0) (.out (nm::hs))):Run room (ns++[nm]) so ho (cs++[(nm,hs)])
theorem Run.mt {room:Str->List Seat}{ns:List Str}{so:Str->Option Seat}{ho:Seat->Option Str}{cs:List (Str × List Str)} (r:Run room ns so ho cs):Kp.Mt room so ho:=by
 induction r with
 | nil=>exact⟨fun n s=>⟨fun z=>(nomatch z),fun z=>(nomatch z)⟩,fun n s z=>(nomatch z)⟩
 | inn _ mt _ _ _=>exact mt
 | out _ _ _ ih=>exact ih
theorem Run.outs {room:Str->List Seat}{ns:List Str}{so:Str->Option Seat}{ho:Seat->Option Str}{cs:List (Str × List Str)} (r:Run room ns so ho cs):(∀ z∈cs.map (·.1),z∈ns)/\cs.length<=ns.length:=by
 induction r with
 | nil=>exact⟨fun _ z=>(nomatch z),Zi _⟩
 | inn _ _ _ _ ih=>exact⟨fun z hz=>ZL _ (ih.1 z hz),by rw[Zu]; have:=ih.2; omega⟩
 | out _ _ _ ih =>
  refine⟨fun z hz=>?_,by rw[Zu,Zu]; have:=ih.2; simp; omega⟩;rw[ZC] at hz;rcases ZB.mp hz with hz|hz
  .exact ZL _ (ih.1 z hz)
  .exact Z2 _ hz
theorem Run.dom {room:Str->List Seat}{ns:List Str}{so:Str->Option Seat}{ho:Seat->Option Str}{cs:List (Str × List Str)} (r:Run room ns so ho cs) (nd:ns.Nodup):∀ z,(so z).isSome=(decide (z∈ns)&&!decide (z∈cs.map (·.1))):=by
 induction r with
 | nil=>intro z; rfl
 | @inn ns so so' ho ho' cs nm r mt dm rc ih =>
  intro z;rw[Jc] at nd;rw[dm z,ih nd.1 z];by_cases e:z=nm
  .subst e;have h1:z∉ns:=fun h=>nd.2.2 z h z (Zt.mpr rfl) rfl;have h2:z∉cs.map (·.1):=fun h=>h1 (r.outs.1 z h);simp[h2]
  .simp [e]
 | @out ns so ho cs nm hs r c rc ih =>
  intro z;rw[Jc] at nd;rw[ih nd.1 z];by_cases e:z=nm
  .subst e;have h1:z∉ns:=fun h=>nd.2.2 z h z (Zt.mpr rfl) rfl;simp[h1]
  .rw [ZC];have e1:decide (z∈ns++[nm])=decide (z∈ns):=by simp[e]
   have e2:decide (z∈cs.map (·.1)++[(nm,hs)].map (·.1))=decide (z∈cs.map (·.1)):=by
    rw[decide_eq_decide,ZB];exact⟨fun h=>h.elim id fun h=>absurd (Zt.mp h) e,.inl⟩
   rw[e1,e2]
theorem Run.det {room:Str->List Seat}{l:List Str}{so:Str->Option Seat}{ho:Seat->Option Str}{cs:List (Str × List Str)} (r:Run room l so ho cs):∀{so2:Str->Option Seat}{ho2:Seat->Option Str}{cs2:List (Str × List Str)},Run room l so2 ho2 cs2->so=so2/\ho=ho2/\cs=cs2:=by
 have inv:∀{l:List Str}{so:Str->Option Seat}{ho:Seat->Option Str}{cs:List (Str × List Str)},Run room l so ho cs->(l=[]/\so=(fun _=>none)/\ho=(fun _=>none)/\cs=[])\/(∃ ns nm so0 ho0,l=ns++[nm]/\Run room ns so0 ho0 cs/\Kp.Rch (Kp.kstep room so0 ho0) (.ask [nm] (fun _=>none) 0 0) (.fin so ho))\/∃ ns nm hs cs0,l=ns++[nm]/\Run room ns so ho cs0/\Kp.Rch (Kp.kstep room so ho) (.ask [nm] (fun _=>none) 0 0) (.out (nm::hs))/\cs=cs0++[(nm,hs)]:=fun r=>by
  cases r with
  | nil=>exact .inl ⟨rfl,rfl,rfl,rfl⟩
  | inn r mt dm rc=>exact .inr (.inl ⟨_,_,_,_,rfl,r,rc⟩)
  | out r c rc=>exact .inr (.inr ⟨_,_,_,_,rfl,r,rc,rfl⟩)
 induction r with
 | nil =>
  intro so2 ho2 cs2 r2;rcases inv r2 with⟨_,rfl,rfl,rfl⟩|⟨ns,nm,_,_,e,_⟩|⟨ns,nm,_,_,e,_⟩
  .exact ⟨rfl,rfl,rfl⟩
  .exact absurd e.symm (by simp)
  .exact absurd e.symm (by simp)
 | @inn ns so so' ho ho' cs nm r mt dm rc ih =>
  intro so2 ho2 cs2 r2;rcases inv r2 with⟨e,_⟩|⟨ns2,nm2,so0,ho0,e,r0,rc0⟩|⟨ns2,nm2,hs,cs0,e,r0,rc0,_⟩
  .exact absurd e (by simp)
  .obtain ⟨rfl,e2⟩:=Qj e rfl;cases e2;obtain⟨rfl,rfl,rfl⟩:=ih r0;have z:=rc.det rfl rc0 rfl;injection z with z1 z2
   exact⟨z1,z2,rfl⟩
  .obtain ⟨rfl,e2⟩:=Qj e rfl;cases e2;obtain⟨rfl,rfl,rfl⟩:=ih r0;have z:=rc.det rfl rc0 rfl;cases z
 | @out ns so ho cs nm hs r c rc ih =>
  intro so2 ho2 cs2 r2;rcases inv r2 with⟨e,_⟩|⟨ns2,nm2,so0,ho0,e,r0,rc0⟩|⟨ns2,nm2,hs2,cs0,e,r0,rc0,rfl⟩
  .exact absurd e (by simp)
  .obtain ⟨rfl,e2⟩:=Qj e rfl;cases e2;obtain⟨rfl,rfl,rfl⟩:=ih r0;have z:=rc.det rfl rc0 rfl;cases z
  .obtain ⟨rfl,e2⟩:=Qj e rfl;cases e2;obtain⟨rfl,rfl,rfl⟩:=ih r0;have z:=rc.det rfl rc0 rfl;injection z with z1
   injection z1 with _ z2
   exact⟨rfl,rfl,by rw[z2]⟩
def xaw (ps:List Pt) (srt:List Seat) (nm:Str):List Seat:=match ps.find? (fun p=>decide (p.nm=nm)) with
 | some p=>srt.filter (xav p)
 | none=>[]
theorem xlb {ps:List Pt}{srt:List Seat} (h:srt.length<=32) (nm:Str):(xaw ps srt nm).length<=32:=by
 unfold xaw;split
 .exact Z6 (JJ _ _) h
 .exact Ja _
inductive CrL (H:Hp):List (Str × List Str)->List Addr->Prop
 | nil:CrL H [] []
 | cons {c:Str × List Str}{q:Addr}{cs:List (Str × List Str)}{qs:List Addr} (h:H q=some (.lst ((c.1::c.2).map V.str))) (r:CrL H cs qs):CrL H (c::cs) (q::qs)
theorem CrL.len {H:Hp}{cs:List (Str × List Str)}{qs:List Addr} (h:CrL H cs qs):qs.length=cs.length:=by
 induction h with
 | nil=>rfl
 | cons _ _ ih=>simp[ih]
theorem CrL.snoc {H:Hp}{cs:List (Str × List Str)}{qs:List Addr} (h:CrL H cs qs) {c:Str × List Str}{q:Addr} (e:H q=some (.lst ((c.1::c.2).map V.str))):CrL H (cs++[c]) (qs++[q]):=by
 induction h with
 | nil=>exact .cons e .nil
 | cons h _ ih=>exact .cons h ih
theorem CrL.keep {H H':Hp}{cs:List (Str × List Str)}{qs:List Addr} (h:CrL H cs qs) (k:∀ q∈qs,∀ u,H q=some u->H' q=some u):CrL H' cs qs:=by
 induction h with
 | nil=>exact .nil
 | cons h r ih=>exact .cons (k _ (Zp ..) _ h) (ih fun q hq=>k q (Zm _ hq))
inductive xov (t:Adr) (vs:List V) (H:Hp) (Q:VK) (_:XK):Prop
 | mk (a ln dp do_:Addr) (w h:Nat) (ps:List Pt) (ss srt:List Seat) (names:List Str) (e_:vs=[.ref a,.ref ln]) (r_:Dr t H a dp do_ w h ps ss srt/\H ln=some (.lst (names.map V.str))/\(∀ nm∈names,∃ p∈ps,p.nm=nm)/\names.Nodup/\names.length<=12/\∀ H' l qs cs so ho,Same H H'->H l=none->H' l=some (.lst (qs.map V.ref))->CrL H' cs qs->(∀ q∈qs,H q=none)->Run (xaw ps srt) names so ho cs->Q (.ref l) H')
theorem xqz {ps:List Pt}{nm:Str} (h:∃ p∈ps,p.nm=nm):∃ p,ps.find? (fun z=>decide (z.nm=nm))=some p/\p∈ps/\p.nm=nm:=by
 cases e:ps.find? (fun z=>decide (z.nm=nm)) with
 | none =>
  obtain⟨p,hp,en⟩:=h;exact absurd (decide_eq_true en) (List.find?_eq_none.mp e p hp)
 | some p=>exact⟨p,rfl,QA e,of_decide_eq_true (List.find?_some (p:=fun z:Pt=>decide (z.nm=nm)) e)⟩
def FRm (l2:Addr) (ps:List Pt) (srt:List Seat) (names:List Str) (i:Nat) (ys:List V) (H:Hp):Prop:=∃ L:List (Addr × Addr × Str × List Addr),ys=L.map (fun x=>V.ref x.1)/\L.length=i/\L.map (fun x=>x.2.2.1)=names.take i/\∀ x∈L,x.2.1≠l2/\x.1≠l2/\H x.1=some (.tup [.str x.2.2.1,.ref x.2.1])/\H x.2.1=some (.lst (x.2.2.2.map V.ref))/\xal H (xaw ps srt x.2.2.1) x.2.2.2
theorem xkj {d:Addr}:∀(L:List (Str × Addr)) {H:Hp}{kvs:List (Key × V)},H d=some (.dK kvs)->kvs.length+L.length<=1000 ->
    ∃ H2 kvs2,xep d H (L.map fun x=>(V.str x.1,V.ref x.2)) H2/\H2 d=some (.dK kvs2)/\(∀ b u,b≠d->H b=some u->H2 b=some u)/\((L.map (·.1)).Nodup->∀ x∈L,valV kvs2 (.inr x.1)=some (.ref x.2))/\∀ k,(∀ x∈L,k≠.inr x.1)->valV kvs2 k=valV kvs k
  | [],H,kvs,e,_=>⟨H,kvs,.nil,e,fun _ _ _ e=>e,fun _ _ z=>(nomatch z),fun _ _=>rfl⟩
  | x::L,H,kvs,e,hn=>by
    rw[ZJ] at hn;have lp:=xbn kvs (.inr x.1) (.ref x.2);obtain⟨H2,kvs2,dps,e2,k2,v2,o2⟩:=xkj L (H:=upd H d (.dK (putK kvs (.inr x.1) (.ref x.2)))) xi (by omega);refine⟨H2,kvs2,.cons (DPut.k (k:=.inr x.1) e (ZG (by omega:_<=1000) (by decide))) dps,e2,fun b u nb eb=>k2 _ _ nb (by rw[xh nb]; exact eb),fun nd y hy=>?_,fun k hk=>?_⟩
    . rw[Zx,ZQ] at nd
      rcases Zz.mp hy with rfl|hy
      . rw[o2 _ (fun z hz e=>nd.1 (by rw[Jt.inj e]; exact Zr.mpr ⟨z,hz,rfl⟩)),xch,if_pos rfl]
      . exact v2 nd.2 y hy
    . rw[o2 k fun y hy=>hk y (Zm _ hy),xch,if_neg (hk x (Zp ..))]
theorem xmr (T:Txt w K mg t):FnOk true P w K mg base (CXo P w) 7 t.f_crowds t.d_crowds ["picture", "names"] (xov t):=by
 refine T.F_crowds.okn (k:=6) xcs (fun vs H Q E h=>?_) (fun cdv A outer s H vs Q E hr h=>?_)
 .obtain ⟨a,ln,dp,do_,w',h',ps,ss,srt,names,rfl,_⟩:=h;rfl
 .obtain ⟨a,ln,dp,do_,w',h',ps,ss,srt,names,rfl,h⟩:=h;refine⟨_,xj (xz (i:=2) xcs.nd rfl (Zq rfl) (xby (xea rfl (xiq hr)) rfl T.n_dict boot_dict (xf (xb3 rfl (xbp (zs:=["name"]) (ys:=["picture"]) (fr:=[0]) (N0:=["picture", "names", "rooms", "seating", "found", "name", "crowd"]) (sc0:=xo xew) (by decide +kernel) rfl rfl rfl) (xas (pv 1)) (fun _ _ _ _ _ ow nd=>xq (i:=0) nd rfl (Zq (ow _ (by simp))) (JD (ow _ (by simp)))) (xcq (by decide)) (fun _ _ _ _ _=>xci) (fun _ _ _ _ _=>xaq (xf (pv 0) (xf (xan (pv 1) T.c_b T.m_j (ok_j T) (hmm hr) T.b_j .nil xl (xf (pv 0) (xk))) (xk))))) (xk))))
   (xj (xz (i:=3) xcs.nd rfl (Zq rfl) (xim T.k_z (ok_ae T) (hmm hr) rfl T.g_z T.b_ae .nil xl))
   (xj (xz (i:=4) xcs.nd rfl (Zq rfl) (xcf (xk)))
   (xj (xa0 ZA rfl (xas (pv 1)) (xq (i:=5) xcs.nd rfl (Zq rfl)) (xj (xz (i:=6) xcs.nd rfl (Zq rfl) (xan (pv 3) T.c_z T.m_d (ok_d T) (hmm hr) T.b_d .nil xl (xf (pv 5) (xf (pv 2) (xk)))))
   (xm (xaj (xjt (pv 6) (fun _=>rfl)) (xm (xak (xfm Jq YL YK xdm (pv 4) (xf (pv 6) (xk))))) (x9)))))
   (xm (xad (pv 4)))))),?_⟩
  obtain⟨dr,hln,nps,nnd,n12,q⟩:=h;have s32:srt.length<=32:=by rw[dr.pm.length_eq]; exact dr.ok.2.1
  refine⟨_,rfl,ln,rfl,⟨_,SqL.of hln⟩,fun l2 hl2=>?_⟩;refine xlk (SqL.of hln) (by rw[Zc]; exact ZG (by omega:_<=1000) (by decide)) hl2 (FRm l2 ps srt names) (fun _ _=>⟨[],rfl,rfl,rfl,fun _ z=>(nomatch z)⟩) ?_ (fun i x ys H3 hx s3 el3 f3 N hN=>?_) (fun ys H3 s3 el3 ly3 f3=>?_)
  .rintro i ys zs H3 H4 hz4 k4 ⟨L,e1,e2,e3,e4⟩;refine⟨L,e1,e2,e3,fun x hx=>?_⟩;obtain⟨a1,a2,a3,a4,a5⟩:=e4 x hx;exact⟨a1,a2,k4 _ _ a2 a3,k4 _ _ a1 a4,a5.keep (fun b xs e=>k4 _ _ (xp e hz4 (fun z=>nomatch z)) e)⟩
  .rw [Zf,Zj] at hx;obtain⟨nm,hnm,rfl⟩:=hx;obtain⟨pt,hf,hpm,epn⟩:=xqz (nps nm (Zl hnm));subst epn;have dr3:=dr.same s3;obtain⟨⟨dx3,hp3⟩,_⟩:=id dr3.pic;refine⟨_,rfl,_,rfl,a,dx3,_,rfl,hp3,xat (by decide +kernel),_,rfl,a,dp,do_,w',h',ps,ss,pt,rfl,dr3.pic,dr3.sts,dr.ok,dr.nm _ hpm,hf,fun H4 l4 srt' rs4 s4 fl4 pm4 lt4 e4 sl4=>?_⟩;obtain rfl:srt'=srt:=xa1 xbt (pm4.trans dr.pm.symm) lt4 dr.lt;refine⟨(by show 2<=sizeLine; decide),fun u hu=>?_⟩;have s5:Same H4 (upd H4 u (.tup [.str pt.nm,.ref l4])):=xr (Same.refl _) hu;have g5:upd H4 u (.tup [.str pt.nm,.ref l4]) u=some (.tup [.str pt.nm,.ref l4]):=xi;revert s5 g5;generalize upd H4 u (.tup [.str pt.nm,.ref l4])=H5;intro s5 g5;have e34:∀ c u,H3 c=some u->H5 c=some u:=fun c u e=>s5 _ _ (s4 _ _ e);refine hN _ _ (s4.trans s5) ?_;obtain⟨L,e1,e2,e3,e6⟩:=f3;refine⟨L++[(u,l4,pt.nm,rs4)],by rw[e1,ZC]; rfl,by rw[Zu,e2]; rfl,?_,fun x hx=>?_⟩
   .rw [ZC,e3,ZP,hnm];rfl
   .rcases ZB.mp hx with hx|hx
    .obtain ⟨a1,a2,a3,a4,a5⟩:=e6 x hx;exact⟨a1,a2,e34 _ _ a3,e34 _ _ a4,a5.keep (fun b xs e=>e34 _ _ e)⟩
    .rw [Zt.mp hx];refine⟨Zw (xg el3 fl4),Zw (xg (s4 _ _ el3) hu),g5,s5 _ _ e4,?_⟩;have er:xaw ps srt' pt.nm=srt'.filter (xav pt):=by
      unfold xaw;rw[hf]
     show xal H5 (xaw ps srt' pt.nm) rs4;rw[er];exact sl4.keep (Same.tups s5)
  rw[Zc] at f3;obtain⟨L,rfl,e2,e3,e4⟩:=f3;rw[Jx (Zi _)] at e3;refine⟨l2,L.map fun x=>(x.1,V.str x.2.2.1,V.ref x.2.1),rfl,(by rw[Z7]; exact el3),?_,fun d hd=>?_⟩
  .intro p hp
   obtain⟨x,hx,rfl⟩:=Zr.mp hp;exact (e4 x hx).2.2.1
  have fd:H d=none:=s3.free hd;obtain⟨H6,kvs6,dps,e6d,k6,v6,_⟩:=xkj (d:=d) (L.map fun x=>(x.2.2.1,x.2.1)) (H:=upd H3 d (.dK [])) xi (by rw[Zc]; simp; omega);refine⟨.dK [],H6,.inl rfl,?_,?_⟩
  .rw [Z7] at dps ⊢;exact dps
  have k36:∀ b u,H3 b=some u->H6 b=some u:=fun b u e=>k6 _ _ (xg e hd) (by rw[xh (xg e hd)]; exact e);have s06:Same H H6:=fun b u e=>k36 _ _ (s3 _ _ e);have rmd:RmD H6 d names (xaw ps srt):=⟨kvs6,e6d,fun nm hnm=>by
   rw[<- e3] at hnm;obtain⟨x,hx,rfl⟩:=Zr.mp hnm;obtain⟨a1,a2,a3,a4,a5⟩:=e4 x hx;refine⟨x.2.1,x.2.2.2,v6 ?_ (x.2.2.1,x.2.1) (Zr.mpr ⟨x,hx,rfl⟩),k36 _ _ a4,a5.keep (fun b xs e=>k36 _ _ e)⟩;rw[Z7];exact e3▸nnd⟩
  refine fun p dx hp hdx ne=>?_;refine⟨p,dx,rfl,xi,fun H8 d1 d2 hd1 hd2 k8 sg8=>⟨rfl,?_⟩⟩;have up:∀ b,upd (upd H6 dx (.own p)) p (.ins t.C_z dx []) b=none->H6 b=none:=fun b z=>by
   cases e:H6 b with
   | none=>rfl
   | some u=>rw[xh (xg e hp),xh (xg e hdx),e] at z; cases z
  have s68:Same H6 H8:=fun b u e=>k8 b u (xg e hp) (by rw[xh (xg e hp),xh (xg e hdx)]; exact e);have fd1:=up _ hd1;have fd2:=up _ hd2;refine⟨(by show 0<=sizeLine; decide),fun lf hlf=>?_⟩;have s9:Same H8 (upd H8 lf (.lst [])):=xr (Same.refl _) hlf;have g9:upd H8 lf (.lst []) lf=some (.lst []):=xi;revert s9 g9;generalize upd H8 lf (.lst [])=H9;intro s9 g9;have s69:=s68.trans s9;have s09:=s06.trans s69;have nd1:d≠d1:=xg e6d fd1;have nd2:d≠d2:=xg e6d fd2;have sg9:=sg8.same s9;obtain⟨kz1,hkz1,_⟩:=id sg8.so;obtain⟨kz2,hkz2,_⟩:=id sg8.ho;obtain⟨dxz,hpz⟩:=id sg8.ins;have nf1:lf≠d1:=Zw (xg hkz1 hlf);have nf2:lf≠d2:=Zw (xg hkz2 hlf);have nfp:lf≠p:=Zw (xg hpz hlf);have flf:H6 lf=none:=s68.free hlf;have room32:=xlb (ps:=ps) s32;refine⟨_,rfl,ln,rfl,⟨_,SqL.of (s09 _ _ hln)⟩,?_⟩;refine xa7 (xs:=names.map V.str) (Pv:=fun i Z H10=>∃(v5 v6:Option V) (qs:List Addr) (cs:List (Str × List Str)) (so:Str->Option Seat) (ho:Seat->Option Str),Z=[some (.ref a),some (.ref ln),some (.ref d),some (.ref p),some (.ref lf),v5,v6]/\Same H6 H10/\H10 lf=some (.lst (qs.map V.ref))/\CrL H10 cs qs/\(∀ q∈qs,H6 q=none/\q≠d1/\q≠d2/\q≠p/\q≠lf)/\cs.length<=i/\Sg t H10 p d1 d2 (30*i) so ho/\Run (xaw ps srt) (names.take i) so ho cs) ⟨_,_,[],[],_,_,rfl,s69,g9,.nil,fun _ z=>(nomatch z),Zi _,sg9,.nil⟩ ?_ ?_ ?_
  .rintro i Z H10 _ ⟨_,_,_,_,_,_,rfl,s10,_⟩;exact SqL.of (s10 _ _ (s06 _ _ hln))
  .rintro i x Z H10 hx ⟨v5,v6,qs,cs,so,ho,rfl,s10,e10,cr10,fq,ci,sg10,run⟩;rw[Zf,Zj] at hx;obtain⟨nm,hnm,rfl⟩:=hx;have il:=(Zh.mp hnm).1;obtain⟨dx10,hp10⟩:=sg10.ins;have tk1:names.take (i+1)=names.take i++[nm]:=by
    rw[ZP,hnm];rfl
   have tnd:(names.take (i+1)).Nodup:=(List.take_sublist _ _).nodup nnd;have dm:=run.dom ((List.take_sublist _ _).nodup nnd);have nni:nm∉names.take i:=fun z=>by
    rw[tk1,Jc] at tnd;exact tnd.2.2 nm z nm (Zt.mpr rfl) rfl
   have sn:so nm=none:=by
    have z:=dm nm;rw[decide_eq_false nni,Qb] at z;cases e:so nm with
    | none=>rfl
    | some s=>rw[e] at z; cases z
   have rmd10:RmD H10 d names (xaw ps srt):=by
    obtain⟨kv,e,f⟩:=id rmd;exact⟨kv,s10 _ _ e,fun z hz=>let ⟨l,rs,b1,b2,b3⟩:=f z hz; ⟨l,rs,b1,s10 _ _ b2,b3.keep (Same.tups s10)⟩⟩
   obtain⟨kw1,hkw1,_⟩:=id sg10.so;obtain⟨kw2,hkw2,_⟩:=id sg10.ho;refine⟨_,rfl,p,dx10,_,rfl,hp10,xjc (by decide +kernel),_,rfl,_,rfl,p,d1,d2,d,30*i,xaw ps srt,so,ho,names,nm,rfl,sg10,by omega,run.mt,sn,rmd10,nd1,fun z hz=>?_,Zl hnm,n12,room32,?_,?_⟩
   .rw [dm z,ZM] at hz;exact List.mem_of_mem_take (of_decide_eq_true hz.1)
   .intro H11 l11 so' ho' kb fl11 e11 sg11 mt11 dm11 rc11
    refine⟨_,rfl,_,.inl ⟨_,SqL.of e11,rfl⟩,ifN (by decide) ?_⟩;have k11:∀ b u,H6 b=some u->H11 b=some u:=fun b u e=>kb _ _ (xg e fd1) (xg e fd2) (s10 _ _ e);refine⟨_,_,qs,cs,so',ho',rfl,k11,kb _ _ nf1 nf2 e10,cr10.keep (fun z hz u e=>kb _ _ (fq z hz).2.1 (fq z hz).2.2.1 e),fq,by omega,sg11.le (by omega),?_⟩;rw[tk1];exact .inn run mt11 dm11 rc11
   .intro H11 l11 hs s11 fl11 e11 cw rc11
    refine⟨_,rfl,_,.inl ⟨_,SqL.of e11,rfl⟩,ifP (by rfl) ?_⟩;have e11f:=s11 _ _ e10;refine⟨_,rfl,.inl ⟨rfl,_,SqL.of e11f⟩,_,rfl,lf,_,_,rfl,rfl,e11f,?_,?_⟩
    .rw [Zc,cr10.len];exact ZG (by omega:_<=1000) (by decide)
    have nl:l11≠lf:=Zw (xg e10 fl11);have kl:∀ c u,c≠lf->H11 c=some u->upd H11 lf (.lst (qs.map V.ref++[.ref l11])) c=some u:=fun c u nc e=>by rw[xh nc]; exact e
    have tl:Tups H11 (upd H11 lf (.lst (qs.map V.ref++[.ref l11]))):=fun c xs e=>kl _ _ (xp e e11f (fun z=>nomatch z)) e;refine⟨_,_,qs++[l11],cs++[(nm,hs)],so,ho,rfl,fun c u e=>kl _ _ (xg e flf) (s11 _ _ (s10 _ _ e)),by rw[xi,ZC]; rfl,((cr10.keep (fun z hz u e=>s11 _ _ e)).keep (fun z hz u e=>kl _ _ (fq z hz).2.2.2.2 e)).snoc (kl _ _ nl e11),fun z hz=>?_,by rw[Zu,ZS]; omega,((sg10.same s11).keep (d:=lf) (Zw nfp) (Zw nf1) (Zw nf2) tl kl).le (by omega),?_⟩
    .rcases ZB.mp hz with hz|hz
     .exact fq z hz
     .rw [Zt.mp hz];exact⟨s10.free fl11,Zw (xg hkw1 fl11),Zw (xg hkw2 fl11),Zw (xg hp10 fl11),nl⟩
    .rw [tk1];exact .out run cw rc11
  .rintro Z H10 ⟨v5,v6,qs,cs,so,ho,rfl,s10,e10,cr10,fq,ci,sg10,run⟩;rw[Zc,Jx (Zi _)] at run;exact⟨_,rfl,q H10 lf qs cs so ho (s06.trans s10) (s06.free flf) e10 cr10 (fun z hz=>s06.free (fq z hz).1) run⟩
def xbz (ps:List Pt):List Str:=ps.map (·.nm)
theorem Run.crowd {room:Str->List Seat}{ns:List Str}{so:Str->Option Seat}{ho:Seat->Option Str}{cs:List (Str × List Str)} (r:Run room ns so ho cs) (nd:ns.Nodup):∀ c∈cs,∃ so0 ho0,Kp.Mt room so0 ho0/\Kp.Crowd room so0 c.1 c.2/\∀ z∈c.1::c.2,z∈ns:=by
 induction r with
 | nil=>exact fun _ z=>nomatch z
 | inn _ _ _ _ ih =>
  intro c hc;rw[Jc] at nd;obtain⟨so0,ho0,a1,a2,a3⟩:=ih nd.1 c hc;exact⟨so0,ho0,a1,a2,fun z hz=>ZL _ (a3 z hz)⟩
 | @out ns so ho cs nm hs r cw rc ih =>
  intro c hc;rw[Jc] at nd;rcases ZB.mp hc with hc|hc
  .obtain ⟨so0,ho0,a1,a2,a3⟩:=ih nd.1 c hc;exact⟨so0,ho0,a1,a2,fun z hz=>ZL _ (a3 z hz)⟩
  .rw [Zt.mp hc];refine⟨so,ho,r.mt,cw,fun z hz=>?_⟩;rcases Zz.mp hz with rfl|hz
   .exact Z2 _ (Zt.mpr rfl)
   .have k:=cw.has z hz;rw[r.dom nd.1 z,ZM] at k;exact ZL _ (of_decide_eq_true k.1)
inductive xsk (t:Adr) (vs:List V) (H:Hp) (Q:VK) (_:XK):Prop
 | mk (a ln dp do_:Addr) (w h:Nat) (ps:List Pt) (ss srt:List Seat) (names:List Str) (e_:vs=[.ref a,.ref ln]) (r_:Dr t H a dp do_ w h ps ss srt/\H ln=some (.lst (names.map V.str))/\(∀ nm∈names,∃ p∈ps,p.nm=nm)/\names.Nodup/\names.length<=12/\∀ H' v cs so ho,Same H H'->Run (xaw ps srt) names so ho cs->((cs=[]/\v=.non)\/∃ l c r,cs=c::r/\v=.ref l/\H l=none/\H' l=some (.lst ((c.1::c.2).map V.str)))->Q v H')
theorem xri (T:Txt w K mg t):FnOk true P w K mg base (CXo P w) 8 t.f_fits t.d_fits ["picture", "names"] (xsk t):=by
 refine T.F_fits.okn (k:=7) xkd (fun vs H Q E h=>?_) (fun cdv A outer s H vs Q E hr h=>?_)
 .obtain ⟨a,ln,dp,do_,w',h',ps,ss,srt,names,rfl,_⟩:=h;rfl
 .obtain ⟨a,ln,dp,do_,w',h',ps,ss,srt,names,rfl,h⟩:=h;refine⟨_,xj (xz (i:=2) xkd.nd rfl (Zq rfl) (x8 (xmr T) (hmm hr) rfl T.g_crowds T.F_crowds.kp T.b_crowds .nil xl (xf (pv 0) (xf (pv 1) (xk)))))
   (xm (xad (xjs (xjt (pv 2) (fun _=>rfl)) (xbc xbx (pv 2) (xn) (fun _ _=>rfl)) (xb6)))),?_⟩
  obtain⟨dr,hln,nps,nnd,n12,q⟩:=h;refine⟨_,rfl,_,rfl,a,ln,dp,do_,w',h',ps,ss,srt,names,rfl,dr,hln,nps,nnd,n12,fun H1 l1 qs cs so ho s1 fl1 e1 cr1 fq1 run=>?_⟩;refine⟨_,rfl,_,.inl ⟨_,SqL.of e1,rfl⟩,?_⟩;cases cr1 with
  | nil=>exact ifN (by decide) (q H1 .non [] so ho s1 run (.inl ⟨rfl,rfl⟩))
  | @cons c q0 cs qs h r =>
   refine ifP (by rfl) ⟨_,rfl,l1,_,0,.ref q0,rfl,rfl,SqL.of e1,xcx (j:=0) rfl,q H1 (.ref q0) (c::cs) so ho s1 run (.inr ⟨q0,c,cs,rfl,rfl,fq1 q0 (Zp ..),h⟩)⟩
theorem xmh {x d:Int} (h:0<d) (h2:d<=4294967296):-(2 ^ 64)<x % d/\x % d<2 ^ 64:=by
 have a:=Int.emod_nonneg x (show d≠0 by omega);have b:=Int.emod_lt_of_pos x h;exact⟨by omega,by omega⟩
theorem xa2 (x:Int) {d:Int} (h:0<d):0<=x % d/\x % d<d:=⟨Int.emod_nonneg _ (by omega),Int.emod_lt_of_pos _ h⟩
inductive xrl (K:Zd) (vs:List V) (H:Hp) (Q:VK) (_:XK):Prop
 | mk (a:Addr) (ns:List Int) (k:Int) (e_:vs=[.ref a,.int k]) (r_:SqL K H a (ns.map V.int)/\0<=k/\k<2 ^ 62/\∀ c:Int,Q (.int c) H)
inductive xtj (vs:List V) (H:Hp) (Q:VK) (_:XK):Prop
 | mk (c k:Int) (e_:vs=[.int c,.int k]) (r_:∀ m:Int,0<=m->m<2147483587->Q (.int m) H)
inductive xqk (vs:List V) (H:Hp) (Q:VK) (_:XK):Prop
 | mk (i:Int) (e_:vs=[.int i]) (r_:Q (.bl true) H)
def abc:Str:="abcdefghijklmnopqrstuvwxyz"
theorem xpw:abc.cps.toList=(ZI 26).map (97+·):=by decide +kernel
def ltr (i:Int):Str:=⟨#[97+i.toNat]⟩
theorem xpx {i:Int} (h0:0<=i) (h1:i<26):atI abc.cps.toList i=some (97+i.toNat):=by
 obtain⟨j,rfl⟩:=JT h0;have lt:j<26:=by omega
 refine xcx ?_;rw[xpw,Zf,YG lt];rfl
theorem xqe {i j:Int} (hi:0<=i) (hj:0<=j) (h:ltr i=ltr j):i=j:=by
 unfold ltr at h;have:=congrArg (fun s:Str=>s.cps.toList) h;simp at this;omega
theorem xo2 {i:Int} (h0:0<=i) (h1:i<26):isNm (ltr i)=true:=by
 unfold isNm ltr;have g1:¬ ([97+i.toNat]<[97]):=by rw[List.cons_lt_cons_iff]; rintro (z|⟨_,z⟩); omega; cases z
 have g2:¬ ([122]<[97+i.toNat]):=by rw[List.cons_lt_cons_iff]; rintro (z|⟨_,z⟩); omega; cases z
 show (decide (1=1)&&(!decide ([97+i.toNat]<[97])&&!decide ([122]<[97+i.toNat])))=true;rw[decide_eq_false g1,decide_eq_false g2];rfl
def xdn:List Int:=[1,3,5,7,9,11,15,17,19,21,23,25]
theorem xp1 (m:Int):∃ s:Int,atI (xdn.map V.int) (m % 12)=some (.int s)/\s∈xdn:=by
 obtain⟨h0,h1⟩:=xa2 m (show (0:Int)<12 by decide);obtain⟨j,hj⟩:=JT h0;rw[hj] at h1 ⊢;have lt:j<xdn.length:=by show j<12; omega
 exact⟨xdn[j],xcx (by rw[Zf,Za lt]; rfl),Jj lt⟩
inductive xq4 (vs:List V) (H:Hp) (Q:VK) (_:XK):Prop
 | mk (c:Int) (n:Nat) (e_:vs=[.int c,.int n]) (r_:n<=26/\∀(s:Int) (H':Hp) (l:Addr),s∈xdn->Same H H'->H' l=some (.lst ((ZI n).map fun (k:Nat)=>V.str (ltr ((c+s*(k:Int)) % 26))))->Q (.ref l) H')
inductive xou (vs:List V) (H:Hp) (Q:VK) (_:XK):Prop
 | mk (c sz:Int) (n:Nat) (e_:vs=[.int c,.int sz,.int n]) (r_:(n:Int)<=sz/\sz<=30/\∀(zs:List Int) (H':Hp) (l:Addr),zs.length=n->zs.Nodup->(∀ z∈zs,1<=z/\z<=sz)->Same H H'->H' l=some (.lst (zs.map V.int))->Q (.ref l) H')
inductive xs3 (vs:List V) (H:Hp) (Q:VK) (_:XK):Prop
 | mk (c:Int) (e_:vs=[.int c]) (r_:∀(w h:Int) (H':Hp) (p:Addr),1<=w->w<=30->1<=h->h<=16->Same H H'->H' p=some (.tup [.int w,.int h])->Q (.ref p) H')
theorem ok_r (T:Txt w K mg t):FnOk true P w K mg base (CXo P w) 1 t.f_r t.d_r ["_law_script", "_law_k"] (xrl K):=by
 refine T.F_r.okn (k:=0) sc_r (fun vs H Q E h=>?_) (fun cdv A outer s H vs Q E hr h=>?_)
 .obtain ⟨a,ns,k,rfl,_⟩:=h;rfl
 .obtain ⟨a,ns,k,rfl,h⟩:=h;refine⟨_,xj (xaj (xac xev (pv 1) (xah xba rfl T.n_len YH (xf (pv 0) (xk))) (xag _)) (xm (xad (xbc xbx (pv 0) (pv 1) (fun _ _=>rfl)))) (x9))
   (xm (xad (xw xa4 (xw xdf (xn) (pv 1)) (xn)))),?_⟩
  obtain⟨hs,k0,k1,q⟩:=h;refine⟨_,rfl,_,rfl,a,_,rfl,.inl hs,_,_,rfl,rfl,_,rfl,?_⟩;refine ite2 (fun c=>?_) (fun c=>?_)
  .have c':k<(ns.length:Int):=by simpa using c
   obtain⟨j,rfl⟩:=JT k0;have lt:j<ns.length:=by omega
   exact⟨_,rfl,_,rfl,a,_,_,_,rfl,rfl,hs,xcx (by rw[Zf,Za lt]; rfl),q _⟩
  .exact ⟨_,rfl,_,_,rfl,rfl,.inl ⟨by decide,by decide⟩,_,_,rfl,rfl,q _⟩
theorem ok_as (T:Txt w K mg t):FnOk true P w K mg base (CXo P w) 1 t.f_as t.d_as ["_law_cell_here", "_law_k"] (xtj):=by
 refine T.F_as.okn (k:=0) sc_as (fun vs H Q E h=>?_) (fun cdv A outer s H vs Q E hr h=>?_)
 .obtain ⟨c,k,rfl,_⟩:=h;rfl
 .obtain ⟨c,k,rfl,h⟩:=h;refine⟨_,xj (xz (i:=2) sc_as.nd rfl (Zq rfl) (xw xa5 (xw xdf (xw xa4 (pv 0) (xw xdf (xn) (pv 1))) (xn)) (xn)))
   (xj (xz (i:=2) sc_as.nd rfl (Zq rfl) (xw xa5 (xw xdf (pv 2) (pv 2)) (xn)))
   (xm (xad (xw xa5 (xw xa4 (xw xa4 (xw xdf (pv 2) (pv 2)) (xw xdf (xn) (pv 2))) (pv 1)) (xn))))),?_⟩
  refine⟨_,rfl,_,rfl,_,_,rfl,rfl,.inl ⟨by decide,by decide⟩,_,_,rfl,rfl,_,_,rfl,rfl,.inr ⟨by decide,by decide⟩,_,_,rfl,rfl,(by show (0:Int)<2147483647; decide),?_⟩;refine⟨_,rfl,_,rfl,_,_,rfl,rfl,.inl (xmh (by decide) (by decide)),_,_,rfl,rfl,(by show (0:Int)<2147483629; decide),?_⟩;refine⟨_,rfl,_,rfl,_,_,rfl,rfl,.inl (xmh (by decide) (by decide)),_,rfl,_,_,rfl,rfl,.inl ⟨by decide,by decide⟩,_,_,rfl,rfl,_,rfl,_,_,rfl,rfl,_,_,rfl,rfl,(by show (0:Int)<2147483587; decide),?_⟩;exact h _ (xa2 _ (by decide)).1 (xa2 _ (by decide)).2
theorem ok_at (T:Txt w K mg t):FnOk true P w K mg base (CXo P w) 1 t.f_at t.d_at ["_law_found"] (xqk):=by
 refine T.F_at.okn (k:=0) sc_at (fun vs H Q E h=>?_) (fun cdv A outer s H vs Q E hr h=>?_)
 .obtain ⟨i,rfl,_⟩:=h;rfl
 .obtain ⟨i,rfl,h⟩:=h;refine⟨_,xm (xad (xc4 (xah xbe rfl T.n_isinstance boot_isinstance (xf (pv 0) (xf (xbu (v:=.ty "int") rfl T.n_int boot_int rfl) (xk)))) (xel (xm3 (xah xbe rfl T.n_isinstance boot_isinstance (xf (pv 0) (xf (xbu (v:=.ty "bool") rfl T.n_bool boot_bool rfl) (xk)))))))),?_⟩;refine⟨_,rfl,_,_,rfl,.inl ⟨_,_,true,.int i,rfl,xbl,true,rfl,iteT ?_⟩⟩;exact⟨_,rfl,_,_,rfl,.inl ⟨_,_,false,.int i,rfl,(by rfl),false,rfl,h⟩⟩
theorem ok_aq (T:Txt w K mg t):FnOk true P w K mg base (CXo P w) 1 t.f_aq t.d_aq ["_law_cell_here", "_law_many"] (xq4):=by
 refine T.F_aq.okn (k:=0) sc_aq (fun vs H Q E h=>?_) (fun cdv A outer s H vs Q E hr h=>?_)
 .obtain ⟨c,n,rfl,_⟩:=h;rfl
 .obtain ⟨c,n,rfl,h⟩:=h;refine⟨_,xj (xz (i:=2) sc_aq.nd rfl (JD rfl) (xa6))
   (by
   with_reducible refine' xj ?a ?b
   case a =>
    with_reducible refine' xz (i:=3) ?n ?i ?x ?e ?s ?f
    case n=>exact sc_aq.nd
    case i=>rfl
    case x=>exact JD rfl
    case f=>exact Zq rfl
    case e =>
     with_reducible refine' xbc (r:=rIxL K) ?r ?l ?j ?p
     case r=>exact xbx
     case j=>exact xw xa5 (xw xb7 (pv 0) (xn)) (xn)
     case p=>exact fun _ _=>rfl
     case l =>
      with_reducible refine' xcf ?pa
      case pa =>
       with_reducible refine' xf xn ?q1 rfl
       case q1 =>
        with_reducible refine' xf xn ?q2 rfl
        case q2 =>
         with_reducible refine' xf xn ?q3 rfl
         case q3 =>
          with_reducible refine' xf xn ?q4 rfl
          case q4 =>
           with_reducible refine' xf xn ?q5 rfl
           case q5 =>
            with_reducible refine' xf xn ?q6 rfl
            case q6 =>
             with_reducible refine' xf xn ?q7 rfl
             case q7 =>
              with_reducible refine' xf xn ?q8 rfl
              case q8 =>
               with_reducible refine' xf xn ?q9 rfl
               case q9 =>
                with_reducible refine' xf xn ?q10 rfl
                case q10 =>
                 with_reducible refine' xf xn ?q11 rfl
                 case q11 =>
                  with_reducible refine' xf xn ?q12 rfl
                  case q12 =>
                   exact xk
    case s=>rfl
   case b =>
    exact (xm (xad (xb3 rfl (xbp (zs:=["_law_k"]) (ys:=["_law_letters", "_law_cell_here", "_law_step"]) (fr:=[2,0,3]) (N0:=["_law_cell_here", "_law_many", "_law_letters", "_law_step"]) (sc0:=xo s_aq) (by decide +kernel) rfl rfl rfl) (xdz rfl T.n_range (xf (pv 1) (xk))) (fun _ _ _ _ _ ow nd=>xq (i:=0) nd rfl (Zq (ow _ (by simp))) (JD (ow _ (by simp)))) (xcq (by decide)) (fun _ _ _ _ _=>xci) (fun _ _ _ _ _=>xbc xr4 (pv 1) (xw xa5 (xw xa4 (pv 2) (xw xdf (pv 3) (pv 0))) (xn)) (fun _ _=>rfl)))))),?_⟩
  obtain⟨hn,q⟩:=h;obtain⟨s,es,ms⟩:=xp1 (c / 26);refine⟨(by show 12<=sizeLine; decide),fun q0 hq0=>⟨_,rfl,_,_,rfl,rfl,⟨by decide,by decide⟩,_,_,rfl,rfl,(by show (0:Int)<12; decide),q0,_,_,.int s,rfl,rfl,SqL.of xi,es,?_⟩⟩;refine⟨_,rfl,(n:Int),rfl,by omega,by omega,fun l hl=>?_⟩;have s1:Same H (upd H q0 (.lst (xdn.map V.int))):=xr (Same.refl _) hq0;refine xcr n (fun i xs H2=>xs=(ZI i).map (fun (k:Nat)=>V.str (ltr ((c+s*(k:Int)) % 26)))/\Same H H2/\H2 l=some (.lst xs)) ?_ ?_ ?_ ?_
  .exact ⟨rfl,xr s1 hl,xi⟩
  .rintro i xs H2 lt _;show i<((n:Nat):Int).toNat;simpa using lt
  .rintro i xs H2 v H3 lt ⟨rfl,s2,hl2⟩ ⟨rfl,rfl⟩ N hN;refine xuh ?_;refine⟨_,rfl,_,rfl,_,rfl,_,rfl,_,_,rfl,rfl,.inl ?_,_,_,rfl,rfl,_,_,rfl,rfl,(by show (0:Int)<26; decide),abc,_,_,rfl,rfl,(by decide +kernel),xpx (xa2 _ (by decide)).1 (xa2 _ (by decide)).2,hl2,?_,?_⟩
   .have hs:∀ z∈xdn,1<=z/\z<=25:=by decide
    have:=hs s ms;constructor<;>omega
   .rw [Zc,Y5];exact J0 (by omega:i<27) (by decide)
   .refine hN _ _ ⟨?_,fun b u e=>?_,xi⟩
    .rw [YN,ZC];simp[ltr]
    .rw [xh (xg (s1 _ _ e) hl)];exact s2 b u e
  .rintro xs H2 ⟨rfl,s2,hl2⟩;exact⟨by simp[Itr],q s H2 l ms s2 (by simpa using hl2)⟩
theorem ok_al (T:Txt w K mg t):FnOk true P w K mg base (CXo P w) 2 t.f_al t.d_al ["_law_cell_here", "_law_size_here", "_law_many"] (xou):=by
 refine T.F_al.okn (k:=1) sc_al (fun vs H Q E h=>?_) (fun cdv A outer s H vs Q E hr h=>?_)
 .obtain ⟨c,sz,n,rfl,_⟩:=h;rfl
 .obtain ⟨c,sz,n,rfl,h⟩:=h;refine⟨_,xj (xz (i:=3) sc_al.nd rfl (Zq rfl) (xby (xh1 rfl) rfl T.n_list boot_list (xf (xby xjx rfl T.n_range boot_range (xf (xn) (xf (xw xa4 (pv 1) (xn)) (xk)))) (xk))))
   (xj (xz (i:=4) sc_al.nd rfl (Zq rfl) (xcf (xk)))
   (xj (xa0 ZA rfl (xdz rfl T.n_range (xf (pv 2) (xk))) (xq (i:=5) sc_al.nd rfl (Zq rfl)) (xm (xak (xfm Jq YL YK xdm (pv 4) (xf (xfm Jq PySem.F.slot_list_pop PySem.F.type_list_pop xn2 (pv 3) (xf (xw xa5 (x8 (ok_as T) (hmm hr) rfl T.g_as T.F_as.kp T.b_as .nil xl (xf (pv 0) (xf (pv 5) (xk)))) (xah xba rfl T.n_len YH (xf (pv 3) (xk)))) (xk))) (xk))))))
   (xm (xad (pv 4))))),?_⟩
  obtain⟨n1,n2,q⟩:=h;refine⟨_,rfl,_,_,rfl,rfl,1,sz+1,rfl,fun p hp=>⟨p,1,sz+1,rfl,xi,⟨by decide,by decide,by omega,by omega⟩,by omega,fun lf hlf=>?_⟩⟩;refine⟨(by show 0<=sizeLine; exact Ja _),fun fd hfd=>?_⟩;have hr0:rngL 1 (sz+1)=((ZI sz.toNat).map fun (i:Nat)=>(1:Int)+(i:Int)).map V.int:=by
   unfold rngL;rw[Z7,show (sz+1-1).toNat=sz.toNat from by omega];rfl
  rw[hr0] at hfd ⊢;have nfd:fd≠lf:=Zw (xg xi hfd);refine⟨_,rfl,(n:Int),rfl,by omega,by omega,?_⟩;refine xd2 (Pv:=fun i Z H2=>∃(zs ls:List Int) (v5:Option V),Z=[some (.int c),some (.int sz),some (.int n),some (.ref lf),some (.ref fd),v5]/\H2 lf=some (.lst (ls.map V.int))/\H2 fd=some (.lst (zs.map V.int)) /\
   zs.length=i/\ls.length+i=sz.toNat/\zs.Nodup/\ls.Nodup/\(∀ z∈zs,z∉ls)/\(∀ z∈zs,1<=z/\z<=sz)/\(∀ z∈ls,1<=z/\z<=sz)/\Same H H2) ?_ ?_ ?_
  .refine ⟨[],(ZI sz.toNat).map fun (i:Nat)=>(1:Int)+(i:Int),_,rfl,?_,xi,rfl,by simp,JP,?_,(fun z h=>nomatch h),(fun z h=>nomatch h),fun z hz=>?_,xr (xr (xr (Same.refl _) hp) hlf) hfd⟩
   .rw [xh (Zw nfd)];exact xi
   .refine YJ.map _ (fun a b h=>?_) List.nodup_range;intro z;apply h;omega
   .obtain ⟨i,hi,rfl⟩:=Zr.mp hz;rw[Q6] at hi;omega
  .rintro i Z H2 hi ⟨zs,ls,v5,rfl,h1,h2,e1,e2,d1,d2,d3,b1,b2,s2⟩;have hi':i<n:=by simpa using hi
   have lp:0<ls.length:=by omega
   refine⟨_,rfl,.inl ⟨rfl,_,SqL.of h2⟩,_,rfl,.inl ⟨rfl,_,SqL.of h1⟩,_,rfl,_,rfl,c,_,rfl,fun m m0 m1=>?_⟩;have lp':(0:Int)<((ls.map V.int).length:Int):=by rw[Zc]; omega
   obtain⟨k0,k1⟩:=xa2 m lp';obtain⟨j,hj⟩:=JT k0;have jl:j<ls.length:=by
    have z:=k1;rw[hj,Zc] at z;omega
   have gy:(ls.map V.int)[j]?=some (V.int ls[j]):=by rw[Zf,Za jl]; rfl
   refine⟨_,rfl,lf,_,rfl,.inl (SqL.of h1),_,_,rfl,rfl,lp',lf,_,_,j,_,rfl,rfl,h1,by omega,?_,?_,gy,fd,zs.map V.int,_,rfl,rfl,?_,?_,?_⟩
   .rw [Zc] at k1;have:(ls.length:Int)<2 ^ 63:=by omega
    omega
   .rw [seqIndex_of k0 k1,hj];rfl
   .rw [xh nfd];exact h2
   .rw [Zc];exact J0 (by omega:zs.length<31) (by decide)
   .obtain ⟨a1,a2,a3,a4⟩:=Geo.erase_ok d2 (Za jl);have em:(ls.map V.int).eraseIdx j=(ls.eraseIdx j).map V.int:=by simp[Qd,List.map_take,List.map_drop]
    have el:=List.length_eraseIdx_of_lt jl;refine⟨zs++[ls[j]],ls.eraseIdx j,_,rfl,?_,?_,?_,?_,?_,a1,?_,?_,fun z hz=>b2 z (a3 z hz),?_⟩
    .rw [xh (Zw nfd),xi,em]
    .rw [xi,ZC];rfl
    .rw [Zu,e1];rfl
    .omega
    .rw [Jc];exact⟨d1,by simp,fun a ha b hb=>by
      have:=Zt.mp hb;subst this;intro z;exact d3 a ha (z▸a4)⟩
    .intro z hz
     rcases ZB.mp hz with y|y
     .exact fun k=>d3 z y (a3 z k)
     .have:=Zt.mp y;subst this;exact a2
    .intro z hz
     rcases ZB.mp hz with y|y
     .exact b1 z y
     .have:=Zt.mp y;subst this;exact b2 _ a4
    .intro b u e
     have nb1:b≠lf:=fun z=>by
      subst z;rw[xh (xg e hp)] at hlf;rw[e] at hlf;cases hlf
     have nb2:b≠fd:=fun z=>by
      subst z;rw[xh nb1,xh (xg e hp)] at hfd;rw[e] at hfd;cases hfd
     rw[xh nb2,xh nb1];exact s2 b u e
  .rintro Z H2 ⟨zs,ls,v5,rfl,h1,h2,e1,e2,d1,d2,d3,b1,b2,s2⟩;exact⟨_,rfl,q zs H2 fd (by simpa using e1) d1 b1 s2 h2⟩
theorem ok_aw (T:Txt w K mg t):FnOk true P w K mg base (CXo P w) 1 t.f_aw t.d_aw ["_law_cell_here"] (xs3):=by
 refine T.F_aw.okn (k:=0) sc_aw (fun vs H Q E h=>?_) (fun cdv A outer s H vs Q E hr h=>?_)
 .obtain ⟨c,rfl,_⟩:=h;rfl
 .obtain ⟨c,rfl,h⟩:=h;refine⟨_,xj (xaj (xac xcj (xw xa5 (pv 0) (xn)) (xn) (xag _)) (xm (xad (xaq (xf (xw xa4 (xn) (xw xa5 (xw xb7 (pv 0) (xn)) (xn))) (xf (xw xa4 (xn) (xw xa5 (xw xb7 (pv 0) (xn)) (xn))) (xk)))))) (x9))
   (xm (xad (xaq (xf (xw xa4 (xn) (xw xa5 (xw xb7 (pv 0) (xn)) (xn))) (xf (xw xa4 (xn) (xw xa5 (xw xb7 (pv 0) (xn)) (xn))) (xk)))))),?_⟩
  refine⟨_,rfl,_,_,rfl,rfl,(by show (0:Int)<8; decide),rfl,_,rfl,ite2 (fun d=>?_) (fun d=>?_)⟩
  .refine ⟨_,rfl,_,_,rfl,rfl,⟨by decide,by decide⟩,_,_,rfl,rfl,(by show (0:Int)<30; decide),_,_,rfl,rfl,_,rfl,_,_,rfl,rfl,⟨by decide,by decide⟩,_,_,rfl,rfl,(by show (0:Int)<16; decide),_,_,rfl,rfl,(by show 2<=sizeLine; decide),fun p hp=>h _ _ _ p ?_ ?_ ?_ ?_ (xr (Same.refl _) hp) xi⟩
   .have:=(xa2 (c / 8) (show (0:Int)<30 by decide)).1; omega
   .have:=(xa2 (c / 8) (show (0:Int)<30 by decide)).2; omega
   .have:=(xa2 (c / 240) (show (0:Int)<16 by decide)).1; omega
   .have:=(xa2 (c / 240) (show (0:Int)<16 by decide)).2; omega
  .refine ⟨_,rfl,_,_,rfl,rfl,⟨by decide,by decide⟩,_,_,rfl,rfl,(by show (0:Int)<9; decide),_,_,rfl,rfl,_,rfl,_,_,rfl,rfl,⟨by decide,by decide⟩,_,_,rfl,rfl,(by show (0:Int)<7; decide),_,_,rfl,rfl,(by show 2<=sizeLine; decide),fun p hp=>h _ _ _ p ?_ ?_ ?_ ?_ (xr (Same.refl _) hp) xi⟩
   .have:=(xa2 (c / 8) (show (0:Int)<9 by decide)).1; omega
   .have:=(xa2 (c / 8) (show (0:Int)<9 by decide)).2; omega
   .have:=(xa2 (c / 72) (show (0:Int)<7 by decide)).1; omega
   .have:=(xa2 (c / 72) (show (0:Int)<7 by decide)).2; omega
abbrev Pr:=Pt × Bool × Int
def prV (p:Pr):List V:=[.str p.1.nm,.str (x0 p.2.1),.int p.2.2]
inductive PrsL (H:Hp):List Pr->List Addr->Prop
 | nil:PrsL H [] []
 | cons {p:Pr}{q:Addr}{ps:List Pr}{qs:List Addr} (h:H q=some (.tup (prV p))) (r:PrsL H ps qs):PrsL H (p::ps) (q::qs)
theorem PrsL.keep {H H':Hp} (s:Tups H H') {ps:List Pr}{qs:List Addr} (h:PrsL H ps qs):PrsL H' ps qs:=by
 induction h with
 | nil=>exact .nil
 | cons h _ ih=>exact .cons (s _ _ h) ih
theorem PrsL.len {H:Hp}{ps:List Pr}{qs:List Addr} (h:PrsL H ps qs):qs.length=ps.length:=by
 induction h with
 | nil=>rfl
 | cons _ _ ih=>simp[ih]
theorem PrsL.get {H:Hp}{ps:List Pr}{qs:List Addr} (h:PrsL H ps qs) {i:Nat}{q:Addr} (e:qs[i]?=some q):∃ p,ps[i]?=some p/\H q=some (.tup (prV p)):=by
 induction h generalizing i with
 | nil=>simp at e
 | @cons p q' ps qs h _ ih =>
  cases i with
  | zero =>
   simp at e;subst e;exact⟨p,rfl,h⟩
  | succ j=>exact ih (by simpa using e)
def xdx (f:Option (Int × Str × Seat)) (g:Int):Bool:=match f with
 | none=>true
 | some y=>decide (g<y.1)
def look (own:Str->Int) (rent:Seat->Int) (asked:Seat->Option Str) (a:Str) (f:Option (Int × Str × Seat)) (x:Seat × Int):Option (Int × Str × Seat) :=
 if ((asked x.1).isNone&&xdx f (x.2-own a-rent x.1))=true then some (x.2-own a-rent x.1,a,x.1) else f
def xey (lens:Str->List (Seat × Int)) (own:Str->Int) (rent:Seat->Int) (asked:Seat->Option Str) (f:Option (Int × Str × Seat)) (askers:List Str):Option (Int × Str × Seat):=askers.foldl (fun f a=>(lens a).foldl (look own rent asked a) f) f
def near (lens:Str->List (Seat × Int)) (own:Str->Int) (rent:Seat->Int) (asked:Seat->Option Str) (askers:List Str):Option (Int × Str × Seat):=xey lens own rent asked none askers
structure Best (own:Str->Int) (rent:Seat->Int) (asked:Seat->Option Str) (P:Str->Seat × Int->Prop) (f:Option (Int × Str × Seat)):Prop where
 is_:∀ g a s,f=some (g,a,s)->∃ l,P a (s,l)/\g=l-own a-rent s/\asked s=none
 le:∀ a x,P a x->asked x.1=none->∃ y,f=some y/\y.1<=x.2-own a-rent x.1
theorem Best.congr {own:Str->Int}{rent:Seat->Int}{asked:Seat->Option Str}{P P':Str->Seat × Int->Prop}{f:Option (Int × Str × Seat)} (b:Best own rent asked P f) (h:∀ a x,P a x↔P' a x):Best own rent asked P' f :=
 ⟨fun g a s e=>let ⟨l,h1,h2⟩:=b.is_ g a s e; ⟨l,(h _ _).mp h1,h2⟩,fun a x p=>b.le a x ((h _ _).mpr p)⟩
theorem Best.look1 {own:Str->Int}{rent:Seat->Int}{asked:Seat->Option Str}{P:Str->Seat × Int->Prop}{f:Option (Int × Str × Seat)} (b:Best own rent asked P f) (a:Str) (x:Seat × Int):Best own rent asked (fun a' x'=>P a' x'\/(a'=a/\x'=x)) (look own rent asked a f x):=by
 unfold look;by_cases c:((asked x.1).isNone&&xdx f (x.2-own a-rent x.1))=true
 .rw [if_pos c];rw[ZM] at c;obtain⟨c1,c2⟩:=c;refine⟨fun g a' s e=>?_,fun a' x' p z=>⟨_,rfl,?_⟩⟩
  .cases e;exact⟨x.2,.inr ⟨rfl,rfl⟩,rfl,by simpa using c1⟩
  .rcases p with p|⟨rfl,rfl⟩
   .obtain ⟨y,e,h⟩:=b.le a' x' p z;rw[e] at c2;have c2:x.2-own a-rent x.1<y.1:=by simpa [xdx] using c2
    show x.2-own a-rent x.1<=_;omega
   .exact QC _
 .rw [if_neg c];refine⟨fun g a' s e=>let ⟨l,h1,h2⟩:=b.is_ g a' s e; ⟨l,.inl h1,h2⟩,fun a' x' p z=>?_⟩;rcases p with p|⟨rfl,rfl⟩
  .exact b.le a' x' p z
  .rw [z] at c;have c:¬ xdx f (x'.2-own a'-rent x'.1)=true:=by simpa using c
   cases f with
   | none=>exact absurd rfl c
   | some y =>
    have c:¬ x'.2-own a'-rent x'.1<y.1:=by simpa [xdx] using c
    exact⟨y,rfl,by omega⟩
theorem Best.row {own:Str->Int}{rent:Seat->Int}{asked:Seat->Option Str} (a:Str):∀(xs:List (Seat × Int)) {P:Str->Seat × Int->Prop}{f:Option (Int × Str × Seat)},Best own rent asked P f->Best own rent asked (fun a' x'=>P a' x'\/(a'=a/\x'∈xs)) (xs.foldl (look own rent asked a) f)
 | [],P,f,b=>b.congr fun a' x'=>⟨.inl,fun h=>h.elim id fun z=>nomatch z.2⟩
 | x::xs,P,f,b=>by
  refine (Best.row a xs (b.look1 a x)).congr fun a' x'=>?_;constructor
  .rintro ((h|⟨h1,h2⟩)|⟨h1,h2⟩)
   .exact .inl h
   .exact .inr ⟨h1,by rw[h2]; exact Zp ..⟩
   .exact .inr ⟨h1,Zm _ h2⟩
  .rintro (h|⟨h1,h2⟩)
   .exact .inl (.inl h)
   .rcases Zz.mp h2 with h2|h2
    .exact .inl (.inr ⟨h1,h2⟩)
    .exact .inr ⟨h1,h2⟩
theorem Best.allF {lens:Str->List (Seat × Int)}{own:Str->Int}{rent:Seat->Int}{asked:Seat->Option Str}:∀(as:List Str) {P:Str->Seat × Int->Prop}{f:Option (Int × Str × Seat)},Best own rent asked P f->Best own rent asked (fun a' x'=>P a' x'\/(a'∈as/\x'∈lens a')) (xey lens own rent asked f as)
 | [],P,f,b=>b.congr fun a' x'=>⟨.inl,fun h=>h.elim id fun z=>nomatch z.1⟩
 | a::as,P,f,b=>by
  refine (Best.allF as (b.row a (lens a))).congr fun a' x'=>?_;constructor
  .rintro ((h|⟨h1,h2⟩)|⟨h1,h2⟩)
   .exact .inl h
   .exact .inr ⟨by rw[h1]; exact Zp ..,by rw[h1]; exact h2⟩
   .exact .inr ⟨Zm _ h1,h2⟩
  .rintro (h|⟨h1,h2⟩)
   .exact .inl (.inl h)
   .rcases Zz.mp h1 with h1|h1
    .exact .inl (.inr ⟨h1,by rw[<- h1]; exact h2⟩)
    .exact .inr ⟨h1,h2⟩
theorem xhz (lens:Str->List (Seat × Int)) (own:Str->Int) (rent:Seat->Int) (asked:Seat->Option Str) (as:List Str):Best own rent asked (fun a x=>a∈as/\x∈lens a) (near lens own rent asked as) :=
 (Best.allF as (P:=fun _ _=>False) (f:=none) ⟨fun g a s e=>(nomatch e),fun a x p=>p.elim⟩).congr fun a x=>⟨fun h=>h.elim J7 id,.inr⟩
def shO (own:Str->Int) (askers:List Str) (g:Int):Str->Int:=fun z=>if z∈askers then own z+g else own z
def shR (rent:Seat->Int) (asked:Seat->Option Str) (g:Int):Seat->Int:=fun z=>if (asked z).isSome=true then rent z-g else rent z
def setI (own:Str->Int) (nm:Str) (v:Int):Str->Int:=fun z=>if z=nm then v else own z
def xaf (lens:Str->List (Seat × Int)):Str->List Seat:=fun n=>(lens n).map (·.1)
structure xcy (lens:Str->List (Seat × Int)) (ss:List Seat):Prop where
 nd:∀ n,(xaf lens n).Nodup
 b:∀ n x,x∈lens n->0<=x.2/\x.2<=46
 ins:∀ n s,s∈xaf lens n->s∈ss
 snd:ss.Nodup
theorem xcy.one {lens:Str->List (Seat × Int)}{ss:List Seat} (h:xcy lens ss) {n:Str}{s:Seat}{l l':Int} (h1:(s,l)∈lens n) (h2:(s,l')∈lens n):l=l':=by
 have nd:=h.nd n;unfold xaf at nd;obtain⟨i,hi,ei⟩:=Z8 h1;obtain⟨j,hj,ej⟩:=Z8 h2;have:i=j:=xpe nd (i:=i) (j:=j) (by rw[Zc]; exact hi) (by rw[Zc]; exact hj) (by rw[JX,JX,ei,ej]);subst this;rw[ei] at ej;exact (Prod.mk.inj ej).2
structure Fit (lens:Str->List (Seat × Int)) (names:List Str) (so:Str->Option Seat) (ho:Seat->Option Str) (own:Str->Int) (rent:Seat->Int):Prop where
 mt:Kp.Mt (xaf lens) so ho
 dm:∀ z,(so z).isSome=decide (z∈names)
 le:∀ n∈names,∀ x∈lens n,own n+rent x.1<=x.2
 eq:∀ n s,so n=some s->∀ l,(s,l)∈lens n->own n+rent s=l
 rl:∀ s,rent s<=0
 r0:∀ s,ho s=none->rent s=0
 o0:∀ n∈names,0<=own n
 ob:∀ n∈names,own n<=1200
structure Grow (lens:Str->List (Seat × Int)) (names:List Str) (name:Str) (so:Str->Option Seat) (ho:Seat->Option Str) (crowd:List Str) (al:List Seat) (asked:Seat->Option Str) (own:Str->Int) (rent:Seat->Int):Prop where
 bf:Bf (xaf lens) ho name crowd al asked
 le:∀ n∈names++[name],∀ x∈lens n,own n+rent x.1<=x.2
 eq:∀ n s,so n=some s->∀ l,(s,l)∈lens n->own n+rent s=l
 rl:∀ s,rent s<=0
 r0:∀ s,ho s=none->rent s=0
 tr:∀ s a,asked s=some a->∀ l,(s,l)∈lens a->own a+rent s=l
 o0:∀ n∈names++[name],0<=own n
 ob:∀ n∈names,n∉crowd->own n<=1200
section
variable {lens:Str->List (Seat × Int)}{names:List Str}{name:Str}{so:Str->Option Seat}{ho:Seat->Option Str}{crowd:List Str}{al:List Seat}{asked:Seat->Option Str}{own:Str->Int}{rent:Seat->Int}{ss:List Seat}
theorem Fit.grow (f:Fit lens names so ho own rent) (lo:xcy lens ss) (nn:name∉names):Grow lens names name so ho [name] [] (fun _=>none) (setI own name 0) rent:=by
 have ne:∀ n∈names,n≠name:=fun n hn e=>nn (e▸hn);have so_in:∀ n s,so n=some s->n∈names:=fun n s e=>by
  have:=f.dm n;rw[e] at this;simpa using this.symm
 refine⟨Bf.start,fun n hn x hx=>?_,fun n s e l hl=>?_,f.rl,f.r0,fun s a e=>(nomatch e),fun n hn=>?_,fun n hn _=>?_⟩
 .unfold setI;rcases ZB.mp hn with hn|hn
  .rw [if_neg (ne n hn)];exact f.le n hn x hx
  .rw [if_pos (Zt.mp hn)];have:=f.rl x.1;have:=(lo.b n x hx).1;omega
 .unfold setI;rw[if_neg (ne n (so_in n s e))];exact f.eq n s e l hl
 .unfold setI;split
  .exact QC _
  .rename_i h
   rcases ZB.mp hn with hn|hn
   .exact f.o0 n hn
   .exact absurd (Zt.mp hn) h
 .unfold setI;rw[if_neg (ne n hn)];exact f.ob n hn
theorem Bf.in_ (b:Bf (xaf lens) ho name crowd al asked) (mt:Kp.Mt (xaf lens) so ho) (dm:∀ z,(so z).isSome=decide (z∈names)) {a:Str} (h:a∈crowd):a∈names++[name]:=by
 obtain⟨k,hk,e⟩:=Z8 h;rcases b.at_ mt (k:=k) (a:=a) (by rw[Za hk,e]) with⟨_,z⟩|⟨j,s,_,_,z⟩
 .exact Z2 _ (Zt.mpr z)
 .have:=dm a;rw[z] at this;exact ZL _ (by simpa using this.symm)
theorem Bf.ask (b:Bf (xaf lens) ho name crowd al asked) (s:Seat):(asked s).isSome=true↔s∈al:=by
 constructor
 .intro h
  by_cases c:s∈al
  .exact c
  .rw [b.no s c] at h;cases h
 .intro h
  obtain⟨j,hj,e⟩:=Z8 h;obtain⟨k,a,_,_,e3,_⟩:=b.ak j s (by rw[Za hj,e]);rw[e3];rfl
theorem Bf.asker (b:Bf (xaf lens) ho name crowd al asked) {s:Seat}{a:Str} (e:asked s=some a):a∈crowd:=by
 have h:=(b.ask s).mp (by rw[e]; rfl);obtain⟨j,hj,ej⟩:=Z8 h;obtain⟨k,a',_,e2,e3,_⟩:=b.ak j s (by rw[Za hj,ej]);rw[e] at e3;cases e3;exact Zl e2
theorem Bf.both (b:Bf (xaf lens) ho name crowd al asked) (mt:Kp.Mt (xaf lens) so ho) (sn:so name=none) {n:Str}{s:Seat} (e:so n=some s):n∈crowd↔(asked s).isSome=true:=by
 rw[b.ask s];constructor
 .intro h
  obtain⟨k,hk,ek⟩:=Z8 h;rcases b.at_ mt (k:=k) (a:=n) (by rw[Za hk,ek]) with⟨_,z⟩|⟨j,t,_,hj,z⟩
  .rw [z,sn] at e;cases e
  .rw [e] at z;cases z;exact Zl hj
 .intro h
  obtain⟨j,hj,ej⟩:=Z8 h;obtain⟨x,e1,e2⟩:=b.hd j s (by rw[Za hj,ej]);have:=(mt.iff x s).mpr e2;rw[mt.inj e this];exact Zl e1
structure Gap (lens:Str->List (Seat × Int)) (crowd:List Str) (asked:Seat->Option Str) (own:Str->Int) (rent:Seat->Int) (g:Int) (a:Str) (s:Seat):Prop where
 g0:0<=g
 ac:a∈crowd
 rm:s∈xaf lens a
 na:asked s=none
 eq:∀ l,(s,l)∈lens a->own a+g+rent s=l
 mn:∀ b∈crowd,∀ x∈lens b,asked x.1=none->own b+g+rent x.1<=x.2
theorem Grow.gap (w:Grow lens names name so ho crowd al asked own rent) (lo:xcy lens ss) (mt:Kp.Mt (xaf lens) so ho) (dm:∀ z,(so z).isSome=decide (z∈names)) {g:Int}{a:Str}{s:Seat} (e:near lens own rent asked crowd=some (g,a,s)):Gap lens crowd asked own rent g a s:=by
 have B:=xhz lens own rent asked crowd;obtain⟨l,⟨h1,h2⟩,h3,h4⟩:=B.is_ g a s e;refine⟨?_,h1,Zr.mpr ⟨_,h2,rfl⟩,h4,fun l' hl'=>?_,fun b hb x hx z=>?_⟩
 .have:=w.le a (w.bf.in_ mt dm h1) (s,l) h2;have:own a+rent s<=l:=this;omega
 .have:=lo.one h2 hl';omega
 .obtain ⟨y,ey,hy⟩:=B.le b x ⟨hb,hx⟩ z;rw[e] at ey;cases ey;have hy:g<=x.2-own b-rent x.1:=hy;omega
structure Mid (lens:Str->List (Seat × Int)) (names:List Str) (name:Str) (so:Str->Option Seat) (ho:Seat->Option Str) (crowd:List Str) (asked:Seat->Option Str) (own:Str->Int) (rent:Seat->Int):Prop where
 le:∀ n∈names++[name],∀ x∈lens n,own n+rent x.1<=x.2
 eq:∀ n s,so n=some s->∀ l,(s,l)∈lens n->own n+rent s=l
 rl:∀ s,rent s<=0
 r0:∀ s,ho s=none->rent s=0
 tr:∀ s a,asked s=some a->∀ l,(s,l)∈lens a->own a+rent s=l
 o0:∀ n∈names++[name],0<=own n
 ob:∀ n∈names,n∉crowd->own n<=1200
theorem Grow.shift (w:Grow lens names name so ho crowd al asked own rent) (mt:Kp.Mt (xaf lens) so ho) (sn:so name=none) {g:Int}{a:Str}{s:Seat} (p:Gap lens crowd asked own rent g a s):Mid lens names name so ho crowd (Kp.upd1 asked s a) (shO own crowd g) (shR rent asked g):=by
 have g0:=p.g0;refine⟨fun n hn x hx=>?_,fun n t e l hl=>?_,fun t=>?_,fun t ht=>?_,fun t b e l hl=>?_,fun n hn=>?_,fun n hn hc=>?_⟩
 .have base:=w.le n hn x hx;unfold shO shR;by_cases c1:n∈crowd<;>by_cases c2:(asked x.1).isSome=true
  .rw [if_pos c1,if_pos c2]; omega
  .rw [if_pos c1,if_neg c2];have:=p.mn n c1 x hx (by simpa using c2);omega
  .rw [if_neg c1,if_pos c2]; omega
  .rw [if_neg c1,if_neg c2]; omega
 .have base:=w.eq n t e l hl;have iff:=w.bf.both mt sn e;unfold shO shR;by_cases c1:n∈crowd
  .rw [if_pos c1,if_pos (iff.mp c1)]; omega
  .rw [if_neg c1,if_neg (fun z=>c1 (iff.mpr z))]; exact base
 .have:=w.rl t;unfold shR;split<;>omega
 .have z:¬ (asked t).isSome=true:=fun z=>by
   have h:=(w.bf.ask t).mp z;obtain⟨j,hj,ej⟩:=Z8 h;obtain⟨x,_,e2⟩:=w.bf.hd j t (by rw[Za hj,ej]);rw[ht] at e2;cases e2
  unfold shR;rw[if_neg z];exact w.r0 t ht
 .unfold Kp.upd1 at e;split at e
  .rename_i h
   cases e;subst h;have:=p.eq l hl;unfold shO shR;rw[if_pos p.ac,if_neg (by rw[p.na]; exact Z1)];omega
  .have:=w.tr t b e l hl;unfold shO shR;rw[if_pos (w.bf.asker e),if_pos (by rw[e]; rfl)];omega
 .have:=w.o0 n hn;unfold shO;split<;>omega
 .unfold shO;rw[if_neg hc];exact w.ob n hn hc
theorem Grow.more (w:Grow lens names name so ho crowd al asked own rent) (mt:Kp.Mt (xaf lens) so ho) (sn:so name=none) {g:Int}{a h:Str}{s:Seat} (p:Gap lens crowd asked own rent g a s) (hh:ho s=some h):Grow lens names name so ho (crowd++[h]) (al++[s]) (Kp.upd1 asked s a) (shO own crowd g) (shR rent asked g):=by
 have m:=w.shift mt sn p;obtain⟨i,hi,ei⟩:=Z8 p.ac;have ns:s∉al:=fun z=>by
  have:=(w.bf.ask s).mpr z;rw[p.na] at this;cases this
 exact⟨w.bf.add (i:=i) (by rw[Za hi,ei]) p.rm ns hh,m.le,m.eq,m.rl,m.r0,m.tr,m.o0,fun n hn hc=>m.ob n hn fun z=>hc (ZL _ z)⟩
theorem Grow.nearest (w:Grow lens names name so ho crowd al asked own rent) (lo:xcy lens ss) (mt:Kp.Mt (xaf lens) so ho) (dm:∀ z,(so z).isSome=decide (z∈names)) (sn:so name=none) {so2:Str->Option Seat}{ho2:Seat->Option Str} (mt2:Kp.Mt (xaf lens) so2 ho2) (all:∀ n∈names++[name],(so2 n).isSome=true):∃ g a s,near lens own rent asked crowd=some (g,a,s):=by
 cases e:near lens own rent asked crowd with
 | some y=>exact⟨y.1,y.2.1,y.2.2,rfl⟩
 | none =>
  have B:=xhz lens own rent asked crowd;have allin:∀(k:Nat) (a:Str),crowd[k]?=some a->∀ s∈xaf lens a,s∈al:=fun k a ha s hs=>by
   obtain⟨x,hx,rfl⟩:=Zr.mp hs;rw[<- w.bf.ask];cases z:asked x.1 with
   | some _=>rfl
   | none =>
    obtain⟨y,ey,_⟩:=B.le a x ⟨Zl ha,hx⟩ z;rw[e] at ey;cases ey
  obtain⟨hs,ec,cr⟩:=w.bf.done mt sn allin;have c1:=cr.count mt lo.snd lo.ins;have c2:=Kp.hall mt2 lo.ins cr.nd (fun a ha=>all a (w.bf.in_ mt dm (by rw[ec]; exact ha)));rw[c1,ZJ] at c2;omega
theorem xoi {room:Str->List Seat}{s0:Seat}{so':Str->Option Seat}{ho':Seat->Option Str} (h:Kp.Rch (Kp.kstep room so ho) (.hand so ho asked s0) (.fin so' ho')):(∀ n t,so' n=some t->so n=some t\/asked t=some n)/\∀ t,(ho t).isSome=true->(ho' t).isSome=true:=by
 have key:∀(x y:Kp.KS Str Seat),Kp.Rch (Kp.kstep room so ho) x y->x=.hand so ho asked s0->(∃ so1 ho1 s1,(y=.hand so1 ho1 asked s1\/y=.fin so1 ho1)/\(∀ n t,so1 n=some t->so n=some t\/asked t=some n)/\∀ t,(ho t).isSome=true->(ho1 t).isSome=true):=by
  intro x y h
  induction h with
  | refl =>
   intro e;exact⟨so,ho,s0,.inl e,fun n t z=>.inl z,fun t z=>z⟩
  | step _ e ih =>
   intro ex;obtain⟨so1,ho1,s1,hy,p1,p2⟩:=ih ex;rcases hy with rfl|rfl
   .have put:∀ a,asked s1=some a->(∀ n t,Kp.upd1 so1 a s1 n=some t->so n=some t\/asked t=some n)/\∀ t,(ho t).isSome=true->(Kp.upd1 ho1 s1 a t).isSome=true:=fun a ha=>by
     refine⟨fun n t z=>?_,fun t z=>?_⟩
     .unfold Kp.upd1 at z;split at z
      .rename_i hn
       cases z;subst hn;exact .inr ha
      .exact p1 n t z
     .unfold Kp.upd1;split
      .rfl
      .exact p2 t z
    cases ha:asked s1 with
    | none=>simp[Kp.kstep,ha] at e
    | some a =>
     cases hl:so1 a with
     | none =>
      rw[Kp.k_fin ha hl] at e;cases e;exact⟨_,_,s1,.inr rfl,(put a ha).1,(put a ha).2⟩
     | some l =>
      rw[Kp.k_hand ha hl] at e;cases e;exact⟨_,_,l,.inl rfl,(put a ha).1,(put a ha).2⟩
   .simp [Kp.kstep] at e
 obtain⟨so1,ho1,s1,hy,p1,p2⟩:=key _ _ h rfl;rcases hy with e|e
 .cases e
 .cases e;exact⟨p1,p2⟩
theorem Grow.last (w:Grow lens names name so ho crowd al asked own rent) (lo:xcy lens ss) (mt:Kp.Mt (xaf lens) so ho) (sn:so name=none) (dm:∀ z,(so z).isSome=decide (z∈names)) (c12:crowd.length<=12) {g:Int}{a:Str}{s:Seat} (p:Gap lens crowd asked own rent g a s) (hs:ho s=none) {so':Str->Option Seat}{ho':Seat->Option Str} (mt':Kp.Mt (xaf lens) so' ho') (dm':∀ z,(so' z).isSome=(decide (z=name)||(so z).isSome)) (rc:Kp.Rch (Kp.kstep (xaf lens) so ho) (.hand so ho (Kp.upd1 asked s a) s) (.fin so' ho')):Fit lens (names++[name]) so' ho' (shO own crowd g) (shR rent asked g):=by
 have m:=w.shift mt sn p;obtain⟨h1,h2⟩:=xoi rc
 -- how far the prices of the crowd lie apart
 have dist:∀(k:Nat) (b:Str),crowd[k]?=some b->shO own crowd g b<=shO own crowd g name+46*(k:Int)/\shO own crowd g name<=shO own crowd g b+46*(k:Int):=by
  intro k
  induction k using Nat.strongRecOn with
  | ind k ih =>
   intro b hb;rcases w.bf.at_ mt hb with⟨rfl,rfl⟩|⟨j,t,rfl,hj,hso⟩
   .exact ⟨by omega,by omega⟩
   .obtain ⟨k0,a0,kj,e1,e2,e3⟩:=w.bf.ak j t hj;obtain⟨i1,i2⟩:=ih k0 (by omega) a0 e1;obtain⟨x1,hx1,ex1⟩:=Zr.mp (mt.rm b t hso);obtain⟨x2,hx2,ex2⟩:=Zr.mp e3;have z1:=m.eq b t hso x1.2 (by rw[<- ex1]; exact hx1);have nt:¬ t=s:=fun z=>by
     have:=(w.bf.ask t).mpr (Zl hj);rw[z,p.na] at this;cases this
    have z2:=m.tr t a0 (by unfold Kp.upd1; rw[if_neg nt]; exact e2) x2.2 (by rw[<- ex2]; exact hx2);have y1:=lo.b b x1 hx1;have y2:=lo.b a0 x2 hx2;exact⟨by omega,by omega⟩
 refine⟨mt',fun z=>?_,m.le,fun n t e l hl=>?_,m.rl,fun t ht=>?_,m.o0,fun n hn=>?_⟩
 .rw [dm' z,dm z,J6];simp only[Bool.or_eq_true,decide_eq_true_iff,ZB,Zt];exact or_comm
 .rcases h1 n t e with z|z
  .exact m.eq n t z l hl
  .exact m.tr t n z l hl
 .refine m.r0 t ?_;cases z:ho t with
  | none=>rfl
  | some _ =>
   have:=h2 t (by rw[z]; rfl);rw[ht] at this;cases this
 .by_cases c:n∈crowd
  .obtain ⟨k,hk,ek⟩:=Z8 c;obtain⟨i,hi,ei⟩:=Z8 p.ac;have d1:=dist k n (by rw[Za hk,ek]);have d2:=dist i a (by rw[Za hi,ei]);obtain⟨x,hx,ex⟩:=Zr.mp p.rm;have z1:=m.tr s a (by unfold Kp.upd1; rw[if_pos rfl]) x.2 (by rw[<- ex]; exact hx);have z2:=m.r0 s hs;have:=lo.b a x hx;omega
  .rcases ZB.mp hn with hn|hn
   .exact m.ob n hn c
   .exact absurd (by rw[Zt.mp hn]; exact Zl w.bf.c0) c
end
inductive LS where
 | go (own:Str->Int) (rent:Seat->Int) (asked:Seat->Option Str) (crowd:List Str)
 | hand (own:Str->Int) (rent:Seat->Int) (asked:Seat->Option Str) (s:Seat)
def xdb (lens:Str->List (Seat × Int)) (ho:Seat->Option Str):LS->Option LS
 | .go own rent asked crowd=>match near lens own rent asked crowd with
  | none=>none
  | some (g,a,s)=>match ho s with
   | some h=>some (.go (shO own crowd g) (shR rent asked g) (Kp.upd1 asked s a) (crowd++[h]))
   | none=>some (.hand (shO own crowd g) (shR rent asked g) (Kp.upd1 asked s a) s)
 | .hand _ _ _ _=>none
theorem a_go {lens:Str->List (Seat × Int)}{ho:Seat->Option Str}{own:Str->Int}{rent:Seat->Int}{asked:Seat->Option Str}{crowd:List Str}{g:Int}{a h:Str}{s:Seat} (e:near lens own rent asked crowd=some (g,a,s)) (e2:ho s=some h):xdb lens ho (.go own rent asked crowd)=some (.go (shO own crowd g) (shR rent asked g) (Kp.upd1 asked s a) (crowd++[h])):=by
 simp only[xdb,e,e2]
theorem xtv {lens:Str->List (Seat × Int)}{ho:Seat->Option Str}{own:Str->Int}{rent:Seat->Int}{asked:Seat->Option Str}{crowd:List Str}{g:Int}{a:Str}{s:Seat} (e:near lens own rent asked crowd=some (g,a,s)) (e2:ho s=none):xdb lens ho (.go own rent asked crowd)=some (.hand (shO own crowd g) (shR rent asked g) (Kp.upd1 asked s a) s):=by
 simp only[xdb,e,e2]
inductive LRun (lens:Str->List (Seat × Int)):List Str->(Str->Int)->(Seat->Int)->(Str->Option Seat)->(Seat->Option Str)->Prop
 | nil:LRun lens [] (fun _=>0) (fun _=>0) (fun _=>none) (fun _=>none)
 | snoc {ns:List Str}{own own':Str->Int}{rent rent':Seat->Int}{so so':Str->Option Seat}{ho ho' asked:Seat->Option Str}{nm:Str}{s:Seat} (r:LRun lens ns own rent so ho) (ra:Kp.Rch (xdb lens ho) (.go (setI own nm 0) rent (fun _=>none) [nm]) (.hand own' rent' asked s)) (rk:Kp.Rch (Kp.kstep (xaf lens) so ho) (.hand so ho asked s) (.fin so' ho')) (f:Fit lens (ns++[nm]) so' ho' own' rent'):LRun lens (ns++[nm]) own' rent' so' ho'
theorem LRun.fit {lens:Str->List (Seat × Int)}{ns:List Str}{own:Str->Int}{rent:Seat->Int}{so:Str->Option Seat}{ho:Seat->Option Str} (r:LRun lens ns own rent so ho):Fit lens ns so ho own rent:=by
 cases r with
 | nil=>exact⟨⟨fun n s=>⟨fun z=>(nomatch z),fun z=>(nomatch z)⟩,fun n s z=>(nomatch z)⟩,fun z=>rfl,fun n h=>(nomatch h),fun n s e=>(nomatch e),fun s=>QC _,fun s _=>rfl,fun n h=>(nomatch h),fun n h=>(nomatch h)⟩
 | snoc r ra rk f=>exact f
theorem LRun.det {lens:Str->List (Seat × Int)}{l:List Str}{own:Str->Int}{rent:Seat->Int}{so:Str->Option Seat}{ho:Seat->Option Str} (r:LRun lens l own rent so ho):∀{own2:Str->Int}{rent2:Seat->Int}{so2:Str->Option Seat}{ho2:Seat->Option Str},LRun lens l own2 rent2 so2 ho2->own=own2/\rent=rent2/\so=so2/\ho=ho2:=by
 have inv:∀{l:List Str}{own:Str->Int}{rent:Seat->Int}{so:Str->Option Seat}{ho:Seat->Option Str},LRun lens l own rent so ho->(l=[]/\own=(fun _=>0)/\rent=(fun _=>0)/\so=(fun _=>none)/\ho=(fun _=>none))\/∃ ns nm own0 rent0 so0 ho0 asked s,l=ns++[nm]/\LRun lens ns own0 rent0 so0 ho0/\Kp.Rch (xdb lens ho0) (.go (setI own0 nm 0) rent0 (fun _=>none) [nm]) (.hand own rent asked s)/\Kp.Rch (Kp.kstep (xaf lens) so0 ho0) (.hand so0 ho0 asked s) (.fin so ho):=fun r=>by
  cases r with
  | nil=>exact .inl ⟨rfl,rfl,rfl,rfl,rfl⟩
  | snoc r ra rk f=>exact .inr ⟨_,_,_,_,_,_,_,_,rfl,r,ra,rk⟩
 induction r with
 | nil =>
  intro own2 rent2 so2 ho2 r2;rcases inv r2 with⟨_,rfl,rfl,rfl,rfl⟩|⟨ns,nm,_,_,_,_,_,_,e,_⟩
  .exact ⟨rfl,rfl,rfl,rfl⟩
  .simp at e
 | @snoc ns own own' rent rent' so so' ho ho' asked nm s r ra rk f ih =>
  intro own2 rent2 so2 ho2 r2;rcases inv r2 with⟨e,_⟩|⟨ns2,nm2,own0,rent0,so0,ho0,asked0,s0,e,r0,ra0,rk0⟩
  .simp at e
  .obtain ⟨e1,e2⟩:=Qj e rfl;cases e2;subst e1;obtain⟨rfl,rfl,rfl,rfl⟩:=ih r0;have d1:=ra.det rfl ra0 rfl;cases d1;have d2:=rk.det rfl rk0 rfl;cases d2;exact⟨rfl,rfl,rfl,rfl⟩
theorem xfb {Z:L2.St}{H:Hp}{K:List V->Hp->Prop} (h:K [] H):tNil Z H K:=h
theorem xgn {k m:Str}{v:V}{r:List (Str × V)} (e:(m == k)=true):Jd m ((k,v)::r)=some v:=by
 rw[Z0,e]
theorem xb2 {k m:Str}{v:V}{r:List (Str × V)}{o:Option V} (e:(m == k)=false) (h:Jd m r=o):Jd m ((k,v)::r)=o:=by
 rw[Z0,e];exact h
abbrev pzF (a dl d_o d_r p:Addr):List (Str × V):=[("picture",.ref a),("lengths",.ref dl),("own",.ref d_o),("rent",.ref d_r),("seating",.ref p)]
theorem lkZp {a dl d_o d_r p:Addr}:(pzF a dl d_o d_r p).lookup ("picture":Str)=some (.ref a):=xgn (by decide +kernel)
theorem lkZl {a dl d_o d_r p:Addr}:(pzF a dl d_o d_r p).lookup ("lengths":Str)=some (.ref dl):=xb2 (by decide +kernel) (xgn (by decide +kernel))
theorem lkZo {a dl d_o d_r p:Addr}:(pzF a dl d_o d_r p).lookup ("own":Str)=some (.ref d_o):=xb2 (by decide +kernel) (xb2 (by decide +kernel) (xgn (by decide +kernel)))
theorem lkZr {a dl d_o d_r p:Addr}:(pzF a dl d_o d_r p).lookup ("rent":Str)=some (.ref d_r):=xb2 (by decide +kernel) (xb2 (by decide +kernel) (xb2 (by decide +kernel) (xgn (by decide +kernel))))
theorem lkZs {a dl d_o d_r p:Addr}:(pzF a dl d_o d_r p).lookup ("seating":Str)=some (.ref p):=xb2 (by decide +kernel) (xb2 (by decide +kernel) (xb2 (by decide +kernel) (xb2 (by decide +kernel) (xgn (by decide +kernel)))))
theorem xe5 {a dl d_o d_r p:Addr}{m:Str} (e:((["picture", "lengths", "own", "rent", "seating"]:List Str).all fun k=>!(m == k))=true):(pzF a dl d_o d_r p).lookup m=none:=by
 simp only[Qm,List.all_nil,ZM,Y7] at e;obtain⟨e1,e2,e3,e4,e5,_⟩:=e;exact xb2 e1 (xb2 e2 (xb2 e3 (xb2 e4 (xb2 e5 rfl))))
theorem valM {α κ:Type} [DecidableEq κ] {k:α->κ} (inj:∀ a b,k a=k b->a=b) {f:α->V}{a:α}:∀{l:List α},a∈l->valV (l.map fun n=>(k n,f n)) (k a)=some (f a)
 | x::l,h=>by
  by_cases c:k x=k a
  .rw [Zx,xbd c,inj _ _ c]
  .rw [Zx,xaz c];rcases Zz.mp h with rfl|h
   .exact absurd rfl c
   .exact valM inj h
theorem xef {α κ:Type} [DecidableEq κ] {k:α->κ} (inj:∀ a b,k a=k b->a=b) {f:α->V}{a:α}:∀{l:List α},a∉l->valV (l.map fun n=>(k n,f n)) (k a)=none
 | [],_=>rfl
 | x::l,h=>by
  rw[Zz,not_or] at h;rw[Zx,xaz (fun c=>h.1 (inj _ _ c).symm)];exact xef inj h.2
theorem putM {α κ:Type} [DecidableEq κ] [DecidableEq α] {k:α->κ} (inj:∀ a b,k a=k b->a=b) {f:α->V}{a:α}{l:List α} (h:a∈l) (v:V):putK (l.map fun n=>(k n,f n)) (k a) v=l.map fun n=>(k n,if n=a then v else f n):=by
 unfold putK;have e:((l.map fun n=>(k n,f n)).any fun kv=>decide (kv.1=k a))=true:=Jw.mpr ⟨(k a,f a),Zr.mpr ⟨a,h,rfl⟩,decide_eq_true rfl⟩;rw[if_pos e,Z7];refine Yk fun n _=>?_;show (if k n=k a then (k n,v) else (k n,f n))=_;by_cases c:n=a
 .rw [if_pos (by rw[c]),if_pos c]
 .rw [if_neg (fun z=>c (inj _ _ z)),if_neg c]
theorem inrI (a b:Str) (h:(Jt a:Key)=Jt b):a=b:=Jt.inj h
theorem xc3 (a b:Seat) (h:xt a=xt b):a=b:=xd3 h
def OwD (H:Hp) (d:Addr) (names:List Str) (own:Str->Int):Prop:=H d=some (.dK (names.map fun n=>((.inr n:Key),V.int (own n))))
def RnD (H:Hp) (d:Addr) (ss:List Seat) (rent:Seat->Int):Prop:=H d=some (.dT (ss.map fun s=>(xt s,V.int (rent s))))
def AkD (H:Hp) (d:Addr) (al:List Seat) (asked:Seat->Option Str):Prop:=H d=some (.dT (al.map fun s=>(xt s,V.str ((asked s).getD (Zn "")))))
def LnT (xs:List (Seat × Int)):List (List Key × V):=xs.map fun x=>(xt x.1,V.int x.2)
def LnD (H:Hp) (d:Addr) (bad:List Addr) (names:List Str) (lens:Str->List (Seat × Int)):Prop:=∃ kvs:List (Key × V),H d=some (.dK kvs)/\kvs.length<=names.length/\∀ nm∈names,∃ q,valV kvs (.inr nm)=some (.ref q)/\H q=some (.dT (LnT (lens nm)))/\q∉bad
structure Pz (t:Adr) (H:Hp) (pz a dl d_o d_r p d1 d2:Addr) (n:Nat) (names:List Str) (ss:List Seat) (lens:Str->List (Seat × Int)) (so:Str->Option Seat) (ho:Seat->Option Str) (own:Str->Int) (rent:Seat->Int):Prop where
 ins:∃ dx,H pz=some (.ins t.C_o dx (pzF a dl d_o d_r p))
 sg:Sg t H p d1 d2 n so ho
 ow:OwD H d_o names own
 rn:RnD H d_r ss rent
 ln:LnD H dl [d_r,d2] names lens
 n1:d_r≠d2
 n2:d_o≠d1
 n3:d_o≠dl
 n4:dl≠d1
theorem Pz.same {t:Adr}{H H':Hp}{pz a dl d_o d_r p d1 d2:Addr}{n:Nat}{names:List Str}{ss:List Seat}{lens:Str->List (Seat × Int)}{so:Str->Option Seat}{ho:Seat->Option Str}{own:Str->Int}{rent:Seat->Int} (z:Pz t H pz a dl d_o d_r p d1 d2 n names ss lens so ho own rent) (s:Same H H'):Pz t H' pz a dl d_o d_r p d1 d2 n names ss lens so ho own rent :=
 ⟨let ⟨dx,e⟩:=z.ins; ⟨dx,s _ _ e⟩,z.sg.same s,s _ _ z.ow,s _ _ z.rn,let ⟨kvs,e,l,f⟩:=z.ln; ⟨kvs,s _ _ e,l,fun nm h=>let ⟨q,e1,e2,e3⟩:=f nm h; ⟨q,e1,s _ _ e2,e3⟩⟩,z.n1,z.n2,z.n3,z.n4⟩
def FndV (H:Hp) (v:V) (f:Option (Int × Str × Seat)):Prop:=(f=none/\v=.non)\/∃(g:Int) (a:Str) (s:Seat) (q qs:Addr),f=some (g,a,s)/\v=.ref q/\H q=some (.tup [.int g,.str a,.ref qs])/\H qs=some (.tup (xau s))
theorem FndV.tp {H H':Hp}{v:V}{f:Option (Int × Str × Seat)} (h:FndV H v f) (t:Tups H H'):FndV H' v f:=by
 rcases h with h|⟨g,a,s,q,qs,h1,h2,h3,h4⟩
 .exact .inl h
 .exact .inr ⟨g,a,s,q,qs,h1,h2,t _ _ h3,t _ _ h4⟩
theorem AkD.get {H:Hp}{d:Addr}{al:List Seat}{asked:Seat->Option Str} (h:AkD H d al asked) (ask:∀ s,(asked s).isSome=true↔s∈al) {b:Addr}{s:Seat} (hb:H b=some (.tup (xau s))):DGet H d (.ref b) ((asked s).map V.str):=by
 have g:=DGet.t (k:=xt s) h hb;cases e:asked s with
 | none =>
  rw[xef xc3 (fun z=>by rw[<- ask s,e] at z; cases z)] at g;exact g
 | some x =>
  rw[valM xc3 ((ask s).mp (by rw[e]; rfl)),e] at g;exact g
theorem OwD.get {H:Hp}{d:Addr}{names:List Str}{own:Str->Int} (h:OwD H d names own) {x:Str} (hx:x∈names):DGet H d (.str x) (some (.int (own x))):=by
 have g:=DGet.k (k:=.inr x) h;rw[valM inrI hx] at g;exact g
theorem RnD.get {H:Hp}{d:Addr}{ss:List Seat}{rent:Seat->Int} (h:RnD H d ss rent) {s:Seat} (hs:s∈ss) {b:Addr} (hb:H b=some (.tup (xau s))):DGet H d (.ref b) (some (.int (rent s))):=by
 have g:=DGet.t (k:=xt s) h hb;rw[valM xc3 hs] at g;exact g
inductive xhh (t:Adr) (vs:List V) (H:Hp) (Q:VK) (_:XK):Prop
 | mk (pz la da a dl d_o d_r p d1 d2:Addr) (n:Nat) (names crowd:List Str) (ss al:List Seat) (lens:Str->List (Seat × Int)) (so:Str->Option Seat) (ho asked:Seat->Option Str) (own:Str->Int) (rent:Seat->Int) (e_:vs=[.ref pz,.ref la,.ref da]) (r_:Pz t H pz a dl d_o d_r p d1 d2 n names ss lens so ho own rent/\H la=some (.lst (crowd.map V.str))/\AkD H da al asked/\(∀ s,(asked s).isSome=true↔s∈al)/\(∀ b∈crowd,b∈names)/\(∀ n s,s∈xaf lens n->s∈ss)/\((∀ nm∈names,∀ q,(∃ kvs,H dl=some (.dK kvs)/\valV kvs (.inr nm)=some (.ref q))->q≠da))/\∀ H' v,Same H H'->FndV H' v (near lens own rent asked crowd)->Q v H')
theorem xld {t:Adr}{H:Hp}{Q E}{pz la da a dl d_o d_r p d1 d2:Addr}{n:Nat}{names crowd:List Str}{ss al:List Seat}{lens:Str->List (Seat × Int)}{so:Str->Option Seat}{ho asked:Seat->Option Str}{own:Str->Int}{rent:Seat->Int} (hh:Pz t H pz a dl d_o d_r p d1 d2 n names ss lens so ho own rent/\H la=some (.lst (crowd.map V.str))/\AkD H da al asked/\(∀ s,(asked s).isSome=true↔s∈al)/\(∀ b∈crowd,b∈names)/\(∀ n s,s∈xaf lens n->s∈ss) /\
 ((∀ nm∈names,∀ q,(∃ kvs,H dl=some (.dK kvs)/\valV kvs (.inr nm)=some (.ref q))->q≠da))/\∀ H' v,Same H H'->FndV H' v (near lens own rent asked crowd)->Q v H'):xhh t [.ref pz,.ref la,.ref da] H Q E:=⟨pz,la,da,a,dl,d_o,d_r,p,d1,d2,n,names,crowd,ss,al,lens,so,ho,asked,own,rent,rfl,hh⟩
theorem ok_s (T:Txt w K mg t):FnOk true P w K mg base (CXo P w) 1 t.f_s t.d_s ["self", "askers", "asked_by"] (xhh t):=by
 refine T.F_s.okn (k:=0) sc_s (fun vs H Q E h=>?_) (fun cdv A outer s H vs Q E hr h=>?_)
 .obtain ⟨pz,la,da,a,dl,d_o,d_r,p,d1,d2,n,names,crowd,ss,al,lens,so,ho,asked,own,rent,rfl,_⟩:=h;rfl
 .obtain ⟨pz,la,da,a,dl,d_o,d_r,p,d1,d2,n,names,crowd,ss,al,lens,so,ho,asked,own,rent,rfl,h⟩:=h;refine⟨_,xj (xz (i:=3) sc_s.nd rfl (Zq rfl) (xb6))
   (xj (xa0 ZA rfl (xas (pv 1)) (xq (i:=4) sc_s.nd rfl (Zq rfl)) (xm (xkf (xa0 ZA rfl (xl1 (xa9 (xam hr) (xae (pv 0) rfl) (pv 4) (fun _ _=>rfl))) (xbb rfl (xu (xq (i:=5) sc_s.nd rfl (Zq rfl)) (xu (xq (i:=6) sc_s.nd rfl (Zq rfl)) (xay)))) (xj (xz (i:=7) sc_s.nd rfl (Zq rfl) (xw xds (xw xds (pv 6) (xa9 (xam hr) (xae (pv 0) rfl) (pv 4) (fun _ _=>rfl))) (xa9 (xam hr) (xae (pv 0) rfl) (pv 5) (fun _ _=>rfl))))
   (xm (xaj (PW.pt (xge (xcm (xct (xam hr) (pv 5) (pv 2))) (xfg (PW.pt (xbw (xac xi5 (pv 3) (xb6) (xag _)) (xbs (xac xev (pv 7) (xbc xb4 (pv 3) (xn) (fun _ _=>rfl)) (xag _)))))))) (xm (xz (i:=3) sc_s.nd rfl (Zq rfl) (xaq (xf (pv 7) (xf (pv 4) (xf (pv 5) (xk))))))) (x9))))))))
   (xm (xad (pv 3)))),?_⟩
  obtain⟨z,hla,hda,ask,cin,rin,nda,q⟩:=h;refine⟨_,rfl,la,rfl,⟨_,SqL.of hla⟩,?_⟩;refine xa7 (xs:=crowd.map V.str) (Pv:=fun i Z H1=>∃(v3:V) (v4 v5 v6 v7:Option V),Z=[some (.ref pz),some (.ref la),some (.ref da),some v3,v4,v5,v6,v7]/\Same H H1/\FndV H1 v3 (xey lens own rent asked none (crowd.take i))) ?_ ?_ ?_ ?_
  .exact ⟨_,_,_,_,_,rfl,Same.refl _,.inl ⟨rfl,rfl⟩⟩
  .rintro i Z H1 _ ⟨_,_,_,_,_,rfl,s1,_⟩;exact SqL.of (s1 _ _ hla)
  .rintro i x Z H1 hx ⟨v3,v4,v5,v6,v7,rfl,s1,fv⟩;rw[Zf,Zj] at hx;obtain⟨b,hb,rfl⟩:=hx;have bin:=cin b (Zl hb);have z1:=z.same s1;obtain⟨dx,hpz⟩:=z1.ins;obtain⟨kvs,hdl,_,f⟩:=z1.ln;obtain⟨qd,hv,hqd,nbad⟩:=f b bin;have dg:=DGet.k (k:=.inr b) hdl;rw[hv] at dg;refine⟨_,rfl,pz,_,dx,_,_,rfl,hpz,T.c_o,T.n_a6,lkZl,_,rfl,dl,.ref qd,rfl,dg,qd,_,rfl,hqd,fun ob nf=>?_⟩;rw[Zz,not_or] at nbad;have nr:d_r≠qd:=Zw nbad.1;have nd:da≠qd:=Zw (nda b bin qd ⟨kvs,by
    obtain⟨k0,e0,_⟩:=z.ln;have:=s1 _ _ e0;rw[hdl] at this;cases this;exact e0,hv⟩)
   have dT_ne:∀{c:Addr}{u:HO},H1 c=some u->(∀ k,u≠.dT k)->c≠qd:=fun {c u} e n1=>xp e hqd (n1 _);refine xlw (Pv:=fun j Z H3=>∃(v3:V) (v5 v6 v7:Option V),Z=[some (.ref pz),some (.ref la),some (.ref da),some v3,some (.str b),v5,v6,v7]/\(∀ c u,c≠qd->H1 c=some u->H3 c=some u)/\H3 qd=some (.frz ob (.dT (LnT (lens b))))/\FndV H3 v3 (((lens b).take j).foldl (look own rent asked b) (xey lens own rent asked none (crowd.take i)))) ?_ ?_ ?_ ?_
   .refine ⟨_,_,_,_,rfl,fun c u nc e=>by rw[xh nc]; exact e,xi,fv.tp fun c xs e=>?_⟩;rw[xh (dT_ne e (fun _ z=>nomatch z))];exact e
   .rintro j Z H3 _ ⟨_,_,_,_,rfl,_,e3,_⟩;exact e3
   .rintro j k x qk pa Z H3 hk hqk hpa ⟨v3,v5,v6,v7,rfl,k3,e3,fv3⟩;unfold LnT at hk;rw[Zf,Zj] at hk;obtain⟨y,hy,hyk⟩:=hk;cases hyk;have s4:Same H3 (upd H3 pa (.tup [.ref qk,.int y.2])):=xr (Same.refl _) hpa;have g4:upd H3 pa (.tup [.ref qk,.int y.2]) pa=some (.tup [.ref qk,.int y.2]):=xi;revert s4 g4;generalize upd H3 pa (.tup [.ref qk,.int y.2])=H4;intro s4 g4;have hqk4:H4 qk=some (.tup (xau y.1)):=s4 _ _ hqk;have ymem:y∈lens b:=Zl hy;have k4:∀ c u,c≠qd->H1 c=some u->H4 c=some u:=fun c u nc e=>s4 _ _ (k3 c u nc e);have hpz4:=k4 _ _ (dT_ne hpz (fun _ z=>nomatch z)) hpz;have ow4:OwD H4 d_o names own:=k4 _ _ (dT_ne z1.ow (fun _ z=>nomatch z)) z1.ow;have rn4:RnD H4 d_r ss rent:=k4 _ _ nr z1.rn;have ak4:AkD H4 da al asked:=k4 _ _ nd (s1 _ _ hda);have fv4:=fv3.tp (Same.tups s4);have e4:=s4 _ _ e3;have dgR:=rn4.get (rin b y.1 (Zr.mpr ⟨y,ymem,rfl⟩)) hqk4;refine⟨pa,_,rfl,SqT.of g4,rfl,_,_,rfl,_,_,rfl,rfl,?_⟩;refine⟨_,rfl,_,rfl,pz,_,dx,_,_,rfl,hpz4,T.c_o,T.n_a9,lkZo,_,rfl,d_o,_,rfl,ow4.get bin,_,_,rfl,rfl,_,rfl,pz,_,dx,_,_,rfl,hpz4,T.c_o,T.n_ba,lkZr,_,rfl,d_r,_,rfl,dgR,_,_,rfl,rfl,?_⟩;have tk:(lens b).take (j+1)=(lens b).take j++[y]:=by
     rw[ZP,hy];rfl
    rw[tk,List.foldl_append];generalize ((lens b).take j).foldl (look own rent asked b) (xey lens own rent asked none (crowd.take i))=f0 at fv4;show _;refine⟨_,rfl,_,rfl,da,_,rfl,ak4.get ask hqk4,_,rfl,ite2 (fun c1=>?_) (fun c1=>?_)⟩
    .have an:asked y.1=none:=by
      cases ea:asked y.1 with
      | none=>rfl
      | some w=>rw[ea] at c1; cases c1
     have stay:xdx f0 (y.2-own b-rent y.1)=false->∃(v3':V) (v5 v6 v7:Option V),[some (.ref pz),some (.ref la),some (.ref da),some v3,some (.str b),some (.ref qk),some (.int y.2),some (.int (y.2-own b-rent y.1))]=[some (.ref pz),some (.ref la),some (.ref da),some v3',some (.str b),v5,v6,v7]/\(∀ c u,c≠qd->H1 c=some u->H4 c=some u)/\H4 qd=some (.frz ob (.dT (LnT (lens b))))/\FndV H4 v3' ([y].foldl (look own rent asked b) f0):=fun hb=>by
      refine⟨v3,_,_,_,rfl,k4,e4,?_⟩;show FndV H4 v3 (look own rent asked b f0 y);unfold look;rw[if_neg (by rw[hb]; simp)];exact fv4
     have move:xdx f0 (y.2-own b-rent y.1)=true->∀ q5,H4 q5=none->∃(v3':V) (v5 v6 v7:Option V),[some (.ref pz),some (.ref la),some (.ref da),some (.ref q5),some (.str b),some (.ref qk),some (.int y.2),some (.int (y.2-own b-rent y.1))]=[some (.ref pz),some (.ref la),some (.ref da),some v3',some (.str b),v5,v6,v7]/\(∀ c u,c≠qd->H1 c=some u->upd H4 q5 (.tup [.int (y.2-own b-rent y.1),.str b,.ref qk]) c=some u)/\upd H4 q5 (.tup [.int (y.2-own b-rent y.1),.str b,.ref qk]) qd=some (.frz ob (.dT (LnT (lens b))))/\FndV (upd H4 q5 (.tup [.int (y.2-own b-rent y.1),.str b,.ref qk])) v3' ([y].foldl (look own rent asked b) f0):=fun hb q5 hq5=>by
      have s5:Same H4 (upd H4 q5 (.tup [.int (y.2-own b-rent y.1),.str b,.ref qk])):=xr (Same.refl _) hq5;refine⟨.ref q5,_,_,_,rfl,fun c u nc e=>s5 _ _ (k4 c u nc e),s5 _ _ e4,?_⟩;show FndV _ _ (look own rent asked b f0 y);unfold look;rw[if_pos (by rw[hb,an]; rfl)];exact .inr ⟨_,_,_,q5,qk,rfl,rfl,xi,s5 _ _ hqk4⟩
     rcases fv4 with⟨rfl,rfl⟩|⟨g0,a0,s0,q0,qs0,rfl,rfl,hq0,hqs0⟩
     .refine ⟨_,rfl,rfl,_,rfl,ifP rfl (ifP rfl ?_)⟩;exact⟨_,rfl,_,rfl,_,rfl,(by show 3<=sizeLine; decide),fun q5 hq5=>move rfl q5 hq5⟩
     .refine ⟨_,rfl,rfl,_,rfl,ifN (by rw[decide_eq_false (fun z=>nomatch z)]) ?_⟩;refine⟨_,rfl,_,rfl,q0,_,0,.int g0,rfl,rfl,SqT.of hq0,rfl,_,_,rfl,rfl,_,rfl,ite2 (fun c2=>?_) (fun c2=>?_)⟩
      .exact ⟨_,rfl,_,rfl,_,rfl,(by show 3<=sizeLine; decide),fun q5 hq5=>move c2 q5 hq5⟩
      .exact stay (JG.mpr c2)
    .refine ⟨v3,_,_,_,rfl,k4,e4,?_⟩;show FndV H4 v3 (look own rent asked b f0 y);unfold look;have an:(asked y.1).isNone=false:=by
      cases ea:asked y.1 with
      | none=>rw[ea] at c1; exact absurd rfl c1
      | some w=>rfl
     rw[if_neg (by rw[an]; simp)];exact fv4
   .rintro Z H3 ⟨v3,v5,v6,v7,rfl,k3,e3,fv3⟩;refine⟨qd,ob,_,e3,nf,v3,_,_,_,_,rfl,fun c u e=>?_,?_⟩
    .have e1:=s1 _ _ e;by_cases c1:c=qd
     .subst c1;rw[hqd] at e1;cases e1;exact xi
     .rw [xh c1];exact k3 c u c1 e1
    .have hl:(LnT (lens b)).length=(lens b).length:=Zc _;rw[hl,J9] at fv3;rw[ZP,hb];show FndV _ _ (xey lens own rent asked none (crowd.take i++[b]));unfold xey;rw[List.foldl_append];refine FndV.tp (H:=H3) fv3 fun c xs e=>?_;rw[xh (xp e e3 (fun z=>nomatch z))];exact e
  .rintro Z H1 ⟨v3,v4,v5,v6,v7,rfl,s1,fv⟩;rw[Zc,J9] at fv;exact⟨_,rfl,q H1 v3 s1 fv⟩
theorem xod {own:Str->Int}{as:List Str}{b:Str}{g:Int} (nb:b∉as):shO own (as++[b]) g=fun n=>if n=b then shO own as g b+g else shO own as g n:=by
 funext n;unfold shO;by_cases c:n=b
 .subst c;rw[if_pos (Z2 _ (Zt.mpr rfl)),if_pos rfl,if_neg nb]
 .rw [if_neg c];by_cases d:n∈as
  .rw [if_pos (ZL _ d),if_pos d]
  .rw [if_neg (fun z=>?_),if_neg d];rcases ZB.mp z with z|z
   .exact d z
   .exact c (Zt.mp z)
def shS (rent:Seat->Int) (as:List Seat) (g:Int):Seat->Int:=fun z=>if z∈as then rent z-g else rent z
theorem xot {rent:Seat->Int}{as:List Seat}{b:Seat}{g:Int} (nb:b∉as):shS rent (as++[b]) g=fun n=>if n=b then shS rent as g b-g else shS rent as g n:=by
 funext n;unfold shS;by_cases c:n=b
 .subst c;rw[if_pos (Z2 _ (Zt.mpr rfl)),if_pos rfl,if_neg nb]
 .rw [if_neg c];by_cases d:n∈as
  .rw [if_pos (ZL _ d),if_pos d]
  .rw [if_neg (fun z=>?_),if_neg d];rcases ZB.mp z with z|z
   .exact d z
   .exact c (Zt.mp z)
theorem xqb {rent:Seat->Int}{al:List Seat}{asked:Seat->Option Str}{g:Int} (ask:∀ s,(asked s).isSome=true↔s∈al):shS rent al g=shR rent asked g:=by
 funext z;unfold shS shR;by_cases c:z∈al
 .rw [if_pos c,if_pos ((ask z).mpr c)]
 .rw [if_neg c,if_neg (fun y=>c ((ask z).mp y))]
theorem xti {own:Str->Int}{g:Int}:shO own [] g=own:=by
 funext z;unfold shO;rw[if_neg (fun y=>nomatch y)]
theorem xuc {rent:Seat->Int}{g:Int}:shS rent [] g=rent:=by
 funext z;unfold shS;rw[if_neg (fun y=>nomatch y)]
section
variable {t:Adr}{H H':Hp}{pz a dl d_o d_r p d1 d2:Addr}{n:Nat}{names:List Str}{ss:List Seat}{lens:Str->List (Seat × Int)}{so:Str->Option Seat}{ho:Seat->Option Str}{own own':Str->Int}{rent rent':Seat->Int}
theorem Pz.move (z:Pz t H pz a dl d_o d_r p d1 d2 n names ss lens so ho own rent) (k:∀ c u,c≠d_o->c≠d_r->H c=some u->H' c=some u) (ow':OwD H' d_o names own') (rn':RnD H' d_r ss rent'):Pz t H' pz a dl d_o d_r p d1 d2 n names ss lens so ho own' rent':=by
 have o:=z.ow;have r:=z.rn;unfold OwD at o;unfold RnD at r;have tp:Tups H H':=fun c xs e=>k _ _ (xp e o (fun z=>nomatch z)) (xp e r (fun z=>nomatch z)) e;obtain⟨dx,hpz⟩:=z.ins;obtain⟨dx2,hp⟩:=z.sg.ins;obtain⟨k1,hk1,f1⟩:=z.sg.so;obtain⟨k2,hk2,f2⟩:=z.sg.ho;obtain⟨kl,hkl,ll,fl⟩:=z.ln;refine⟨⟨dx,k _ _ (xp hpz o (fun z=>nomatch z)) (xp hpz r (fun z=>nomatch z)) hpz⟩,⟨⟨dx2,k _ _ (xp hp o (fun z=>nomatch z)) (xp hp r (fun z=>nomatch z)) hp⟩,SoD.keep ⟨k1,hk1,f1⟩ tp (fun u e=>k _ _ (Zw z.n2) (xp hk1 r (fun z=>nomatch z)) e),HoD.keep ⟨k2,hk2,f2⟩ (fun u e=>k _ _ (xp hk2 o (fun z=>nomatch z)) (Zw z.n1) e)⟩,ow',rn',⟨kl,k _ _ (Zw z.n3) (xp hkl r (fun z=>nomatch z)) hkl,ll,fun nm h=>?_⟩,z.n1,z.n2,z.n3,z.n4⟩;obtain⟨q,e1,e2,e3⟩:=fl nm h;exact⟨q,e1,k _ _ (xp e2 o (fun z=>nomatch z)) (fun y=>e3 (by rw[y]; exact Zp ..)) e2,e3⟩
end
def xd1 (H:Hp) (dl da:Addr) (names:List Str):Prop:=∀ nm∈names,∀ q,(∃ kvs,H dl=some (.dK kvs)/\valV kvs (.inr nm)=some (.ref q))->q≠da
inductive xkt (t:Adr) (vs:List V) (H:Hp) (Q:VK) (_:XK):Prop
 | mk (pz la da a dl d_o d_r p d1 d2:Addr) (n:Nat) (names crowd:List Str) (ss al:List Seat) (lens:Str->List (Seat × Int)) (so:Str->Option Seat) (ho asked:Seat->Option Str) (own:Str->Int) (rent:Seat->Int) (g:Int) (e_:vs=[.ref pz,.ref la,.ref da,.int g]) (r_:Pz t H pz a dl d_o d_r p d1 d2 n names ss lens so ho own rent/\H la=some (.lst (crowd.map V.str))/\AkD H da al asked/\(∀ s,(asked s).isSome=true↔s∈al)/\(∀ b∈crowd,b∈names)/\crowd.Nodup/\al.Nodup/\(∀ s∈al,s∈ss)/\ss.length<=32/\names.length<=12/\da≠d_r/\∀ H',(∀ c u,c≠d_o->c≠d_r->H c=some u->H' c=some u)->Pz t H' pz a dl d_o d_r p d1 d2 n names ss lens so ho (shO own crowd g) (shR rent asked g)->Q .non H')
theorem xnx {t:Adr}{H:Hp}{Q E}{pz la da a dl d_o d_r p d1 d2:Addr}{n:Nat}{names crowd:List Str}{ss al:List Seat}{lens:Str->List (Seat × Int)}{so:Str->Option Seat}{ho asked:Seat->Option Str}{own:Str->Int}{rent:Seat->Int}{g:Int} (h:Pz t H pz a dl d_o d_r p d1 d2 n names ss lens so ho own rent/\H la=some (.lst (crowd.map V.str))/\AkD H da al asked/\(∀ s,(asked s).isSome=true↔s∈al)/\(∀ b∈crowd,b∈names)/\crowd.Nodup/\al.Nodup/\(∀ s∈al,s∈ss)/\ss.length<=32/\names.length<=12/\da≠d_r /\
 ∀ H',(∀ c u,c≠d_o->c≠d_r->H c=some u->H' c=some u)->Pz t H' pz a dl d_o d_r p d1 d2 n names ss lens so ho (shO own crowd g) (shR rent asked g)->Q .non H'):xkt t [.ref pz,.ref la,.ref da,.int g] H Q E:=⟨pz,la,da,a,dl,d_o,d_r,p,d1,d2,n,names,crowd,ss,al,lens,so,ho,asked,own,rent,g,rfl,h⟩
inductive xpq (t:Adr) (vs:List V) (H:Hp) (Q:VK) (_:XK):Prop
 | mk (pz la da a dl d_o d_r p d1 d2:Addr) (n:Nat) (names crowd:List Str) (ss al:List Seat) (lens:Str->List (Seat × Int)) (so:Str->Option Seat) (ho asked:Seat->Option Str) (own:Str->Int) (rent:Seat->Int) (g:Int) (b:Str) (s:Seat) (e_:vs=[.ref pz,.ref la,.ref da]) (r_:Pz t H pz a dl d_o d_r p d1 d2 n names ss lens so ho own rent/\H la=some (.lst (crowd.map V.str))/\AkD H da al asked/\(∀ s,(asked s).isSome=true↔s∈al)/\(∀ b∈crowd,b∈names)/\crowd.Nodup/\al.Nodup/\(∀ s∈al,s∈ss)/\ss.length<=32/\names.length<=12/\da≠d_r/\(∀ n s,s∈xaf lens n->s∈ss)/\xd1 H dl da names/\da≠d2/\near lens own rent asked crowd=some (g,b,s)/\s∉al/\∀ H' qs,(∀ c u,c≠d_o->c≠d_r->c≠da->H c=some u->H' c=some u)->H' qs=some (.tup (xau s))->Pz t H' pz a dl d_o d_r p d1 d2 n names ss lens so ho (shO own crowd g) (shR rent asked g)->AkD H' da (al++[s]) (Kp.upd1 asked s b)->Q (.ref qs) H')
theorem xl9 {t:Adr}{H:Hp}{Q E}{pz la da a dl d_o d_r p d1 d2:Addr}{n:Nat}{names crowd:List Str}{ss al:List Seat}{lens:Str->List (Seat × Int)}{so:Str->Option Seat}{ho asked:Seat->Option Str}{own:Str->Int}{rent:Seat->Int}{g:Int}{b:Str}{s:Seat} (hh:Pz t H pz a dl d_o d_r p d1 d2 n names ss lens so ho own rent/\H la=some (.lst (crowd.map V.str))/\AkD H da al asked/\(∀ s,(asked s).isSome=true↔s∈al)/\(∀ b∈crowd,b∈names)/\crowd.Nodup/\al.Nodup/\(∀ s∈al,s∈ss)/\ss.length<=32/\names.length<=12/\da≠d_r/\(∀ n s,s∈xaf lens n->s∈ss)/\xd1 H dl da names/\da≠d2/\near lens own rent asked crowd=some (g,b,s)/\s∉al /\
 ∀ H' qs,(∀ c u,c≠d_o->c≠d_r->c≠da->H c=some u->H' c=some u)->H' qs=some (.tup (xau s))->Pz t H' pz a dl d_o d_r p d1 d2 n names ss lens so ho (shO own crowd g) (shR rent asked g)->AkD H' da (al++[s]) (Kp.upd1 asked s b)->Q (.ref qs) H'):xpq t [.ref pz,.ref la,.ref da] H Q E:=⟨pz,la,da,a,dl,d_o,d_r,p,d1,d2,n,names,crowd,ss,al,lens,so,ho,asked,own,rent,g,b,s,rfl,hh⟩
theorem AkD.add {H:Hp}{d:Addr}{al:List Seat}{asked:Seat->Option Str} (h:AkD H d al asked) {s:Seat}{b:Str} (ns:s∉al):upd H d (.dT (putK (al.map fun s=>(xt s,V.str ((asked s).getD (Zn "")))) (xt s) (.str b))) d=some (.dT ((al++[s]).map fun z=>(xt z,V.str ((Kp.upd1 asked s b z).getD (Zn ""))))):=by
 rw[xi,xcg _ (xef xc3 ns),ZC]
 congr 2
 have e1:(al.map fun s=>(xt s,V.str ((asked s).getD (Zn ""))))=al.map fun z=>(xt z,V.str ((Kp.upd1 asked s b z).getD (Zn ""))):=Yk fun z hz=>by
  unfold Kp.upd1;rw[if_neg (fun y:z=s=>ns (by rw[<- y]; exact hz))]
 rw[e1]
 congr 1
 show [(xt s,V.str b)]=[(xt s,V.str ((Kp.upd1 asked s b s).getD (Zn "")))]
 unfold Kp.upd1;rw[if_pos rfl];rfl
theorem ok_g (T:Txt w K mg t):FnOk true P w K mg base (CXo P w) 1 t.f_g t.d_g ["self", "askers", "asked_by", "gap"] (xkt t):=by
 refine T.F_g.okn (k:=0) sc_g (fun vs H Q E h=>?_) (fun cdv A outer s H vs Q E hr h=>?_)
 .obtain ⟨pz,la,da,a,dl,d_o,d_r,p,d1,d2,n,names,crowd,ss,al,lens,so,ho,asked,own,rent,g,rfl,_⟩:=h;rfl
 .obtain ⟨pz,la,da,a,dl,d_o,d_r,p,d1,d2,n,names,crowd,ss,al,lens,so,ho,asked,own,rent,g,rfl,h⟩:=h;refine⟨_,xj (xa0 ZA rfl (xas (pv 1)) (xq (i:=4) sc_g.nd rfl (Zq rfl)) (xm (xk2 (xam hr) (xae (pv 0) rfl) (pv 4) (pv 3) xrk (by intros; rfl))))
   (xm (xkf (xa0 ZA rfl (xju (pv 2)) (xq (i:=5) sc_g.nd rfl (Zq rfl)) (xm (xk2 (xam hr) (xae (pv 0) rfl) (pv 5) (pv 3) xsz (by intros; rfl)))))),?_⟩
  obtain⟨z,hla,hda,ask,cin,cnd,and_,ain,s32,n12,ndr,q⟩:=h;have ow0:=z.ow;have rn0:=z.rn;have BIG:∀{n:Nat},n<=1000->n<sizeLine:=fun h=>ZG h (by decide);refine⟨_,rfl,la,rfl,⟨_,SqL.of hla⟩,?_⟩;have nla:la≠d_o:=xp hla ow0 (fun z=>nomatch z);have nda:da≠d_o:=xp hda ow0 (fun z=>nomatch z);obtain⟨dx,hpz⟩:=z.ins;have npo:pz≠d_o:=xp hpz ow0 (fun z=>nomatch z);have npr:pz≠d_r:=xp hpz rn0 (fun z=>nomatch z);have nro:d_r≠d_o:=xp rn0 ow0 (fun z=>nomatch z);refine xa7 (xs:=crowd.map V.str) (Pv:=fun i Z H1=>∃(v4 v5:Option V),Z=[some (.ref pz),some (.ref la),some (.ref da),some (.int g),v4,v5]/\(∀ c u,c≠d_o->H c=some u->H1 c=some u)/\OwD H1 d_o names (shO own (crowd.take i) g)) ?_ ?_ ?_ ?_
  .exact ⟨_,_,rfl,fun c u _ e=>e,by rw[List.take_zero,xti]; exact ow0⟩
  .rintro i Z H1 _ ⟨_,_,rfl,k1,_⟩;exact SqL.of (k1 _ _ nla hla)
  .rintro i x Z H1 hx ⟨v4,v5,rfl,k1,ow1⟩;rw[Zf,Zj] at hx;obtain⟨b,hb,rfl⟩:=hx;have bin:=cin b (Zl hb);have nb:b∉crowd.take i:=fun zz=>by
    obtain⟨hi,e⟩:=Zh.mp hb;have:=xcw id (ps:=crowd) (by rw[YA]; exact cnd) hi b zz;exact this e.symm
   refine⟨_,rfl,pz,_,dx,_,_,rfl,k1 _ _ npo hpz,T.c_o,T.n_a9,lkZo,_,rfl,d_o,_,rfl,ow1.get bin,_,rfl,_,_,rfl,rfl,_,DPut.k (k:=.inr b) ow1 (by rw[Zc]; exact BIG (by omega)),?_⟩;refine⟨_,_,rfl,fun c u nc e=>by rw[xh nc]; exact k1 c u nc e,?_⟩;rw[ZP,hb];show OwD _ d_o names (shO own (crowd.take i++[b]) g);rw[xod nb];unfold OwD;rw[xi,putM inrI bin]
   congr 3
   funext nn
   dsimp only
   by_cases c:nn=b
   .rw [if_pos c,if_pos c]
   .rw [if_neg c,if_neg c]
  .rintro Z H1 ⟨v4,v5,rfl,k1,ow1⟩;rw[Zc,J9] at ow1;have hda1:H1 da=some (.dT (al.map fun s=>(xt s,V.str ((asked s).getD (Zn ""))))):=k1 _ _ nda hda;have rn1:RnD H1 d_r ss rent:=k1 _ _ nro rn0;refine⟨_,rfl,da,_,rfl,hda1,fun ob nf=>?_⟩;have npa:pz≠da:=xp hpz hda (fun z=>nomatch z);have noa:d_o≠da:=Zw nda;refine xnd (Pv:=fun j Z H2=>∃(v5:Option V),Z=[some (.ref pz),some (.ref la),some (.ref da),some (.int g),v4,v5]/\(∀ c u,c≠d_o->c≠d_r->c≠da->H c=some u->H2 c=some u)/\H2 da=some (.frz ob (.dT (al.map fun s=>(xt s,V.str ((asked s).getD (Zn ""))))))/\OwD H2 d_o names (shO own crowd g)/\RnD H2 d_r ss (shS rent (al.take j) g)) ?_ ?_ ?_ ?_
   .refine ⟨_,rfl,fun c u n1 n2 n3 e=>by rw[xh n3]; exact k1 c u n1 e,xi,?_,?_⟩
    .show upd H1 da _ d_o=_;rw[xh noa];exact ow1
    .rw [List.take_zero,xuc];show upd H1 da _ d_r=_;rw[xh (Zw ndr)];exact rn1
   .rintro j Z H2 _ ⟨_,rfl,_,e2,_⟩;exact e2
   .rintro j k x qk Z H2 hk hqk ⟨v5,rfl,k2,e2,ow2,rn2⟩;rw[Zf,Zj] at hk;obtain⟨s,hs,hsk⟩:=hk;cases hsk;have hqk:H2 qk=some (.tup (xau s)):=hqk;have sin:=ain s (Zl hs);have nb:s∉al.take j:=fun zz=>by
     obtain⟨hi,e⟩:=Zh.mp hs;have:=xcw id (ps:=al) (by rw[YA]; exact and_) hi s zz;exact this e.symm
    refine⟨_,rfl,pz,_,dx,_,_,rfl,k2 _ _ npo npr npa hpz,T.c_o,T.n_ba,lkZr,_,rfl,d_r,_,rfl,rn2.get sin hqk,_,rfl,_,_,rfl,rfl,_,DPut.t (k:=xt s) rn2 hqk (by rw[Zc]; exact BIG (by omega)),?_⟩;refine⟨_,rfl,fun c u n1 n2 n3 e=>by rw[xh n2]; exact k2 c u n1 n2 n3 e,by rw[xh ndr]; exact e2,?_,?_⟩
    .show upd H2 d_r _ d_o=_;rw[xh (Zw nro)];exact ow2
    .rw [ZP,hs];show RnD _ d_r ss (shS rent (al.take j++[s]) g);rw[xot nb];unfold RnD;rw[xi,putM xc3 sin]
     congr 3
     funext nn
     dsimp only
     by_cases c:nn=s
     .rw [if_pos c,if_pos c]
     .rw [if_neg c,if_neg c]
   .rintro Z H2 ⟨v5,rfl,k2,e2,ow2,rn2⟩;rw[Zc,J9,xqb ask] at rn2;refine⟨da,ob,_,e2,nf,?_⟩;have fr:∀ c u,c≠d_o->c≠d_r->H c=some u->upd H2 da (.dT (al.map fun s=>(xt s,V.str ((asked s).getD (Zn ""))))) c=some u:=fun c u n1 n2 e=>by
     by_cases c1:c=da
     .subst c1;rw[hda] at e;cases e;exact xi
     .rw [xh c1];exact k2 c u n1 n2 c1 e
    refine q _ fr (z.move fr ?_ ?_)
    .show upd H2 da _ d_o=_;rw[xh noa];exact ow2
    .show upd H2 da _ d_r=_;rw[xh (Zw ndr)];exact rn2
theorem ok_v (T:Txt w K mg t):FnOk true P w K mg base (CXo P w) 2 t.f_v t.d_v ["self", "askers", "asked_by"] (xpq t):=by
 refine T.F_v.okn (k:=1) sc_v (fun vs H Q E h=>?_) (fun cdv A outer s H vs Q E hr h=>?_)
 .obtain ⟨pz,la,da,a,dl,d_o,d_r,p,d1,d2,n,names,crowd,ss,al,lens,so,ho,asked,own,rent,g,b,s0,rfl,_⟩:=h;rfl
 .obtain ⟨pz,la,da,a,dl,d_o,d_r,p,d1,d2,n,names,crowd,ss,al,lens,so,ho,asked,own,rent,g,b,s0,rfl,h⟩:=h;refine⟨_,xj (xdg (xan (pv 0) T.c_o T.m_s (ok_s T) (hmm hr) T.b_s .nil xl (xf (pv 1) (xf (pv 2) (xk)))) (xbb rfl (xu (xq (i:=3) sc_v.nd rfl (Zq rfl)) (xu (xq (i:=4) sc_v.nd rfl (Zq rfl)) (xu (xq (i:=5) sc_v.nd rfl (Zq rfl)) (xay))))))
   (xj (xak (xan (pv 0) T.c_o T.m_g (ok_g T) (hmm hr) T.b_g .nil xl (xf (pv 1) (xf (pv 2) (xf (pv 3) (xk))))))
   (xj (xb9 (xam hr) (pv 2) (pv 5) (pv 4) rfl)
   (xm (xad (pv 5))))),?_⟩
  obtain⟨z,hla,hda,ask,cin,cnd,and_,ain,s32,n12,ndr,rin,nln,nd2,nr,nal,q⟩:=h;obtain⟨dx,hpz⟩:=z.ins;refine⟨_,rfl,pz,dx,_,rfl,hpz,xe5 (by decide +kernel),_,rfl,_,rfl,?_⟩;refine xfb ?_;refine xld ⟨z,hla,hda,ask,cin,rin,nln,fun H1 v s1 fv=>?_⟩;rw[nr] at fv;rcases fv with⟨e,_⟩|⟨g',b',s',q1,qs,e,rfl,hq1,hqs⟩
  .cases e
  cases e;refine⟨q1,_,rfl,SqT.of hq1,rfl,_,_,rfl,_,_,rfl,_,_,rfl,rfl,?_⟩;refine⟨_,rfl,pz,dx,_,rfl,s1 _ _ hpz,xe5 (by decide +kernel),_,rfl,_,rfl,_,rfl,?_⟩;refine xfb ?_;refine xnx ⟨z.same s1,s1 _ _ hla,s1 _ _ hda,ask,cin,cnd,and_,ain,s32,n12,ndr,fun H2 k2 z2=>?_⟩;have ow1:=s1 _ _ z.ow;have rn1:=s1 _ _ z.rn;have hda1:H1 da=some (.dT (al.map fun s=>(xt s,V.str ((asked s).getD (Zn ""))))):=s1 _ _ hda;have hda2:AkD H2 da al asked:=k2 _ _ (xp hda1 ow1 (fun z=>nomatch z)) ndr hda1;have hqs2:=k2 _ _ (xp hqs ow1 (fun z=>nomatch z)) (xp hqs rn1 (fun z=>nomatch z)) hqs;have al32:al.length<=32:=Z6 (xde and_ ain) s32;refine⟨_,rfl,_,rfl,_,rfl,da,_,rfl,DPut.t (k:=xt s0) hda2 hqs2 (by rw[Zc]; exact ZG (by omega:_<=1000) (by decide)),_,rfl,?_⟩;have hda2':H2 da=some (.dT (al.map fun s=>(xt s,V.str ((asked s).getD (Zn ""))))):=hda2;have fr:∀ c u,c≠d_o->c≠d_r->c≠da->H c=some u->upd H2 da (.dT (putK (al.map fun s=>(xt s,V.str ((asked s).getD (Zn "")))) (xt s0) (.str b))) c=some u:=fun c u n1 n2 n3 e=>by
   rw[xh n3];exact k2 c u n1 n2 (s1 _ _ e)
  refine q _ qs fr (by rw[xh (xp hqs2 hda2' (fun z=>nomatch z))]; exact hqs2) ?_ (hda2.add nal)
  -- the dict of those who asked is none of the prices'
  have fr2:∀ c u,c≠da->H2 c=some u->upd H2 da (.dT (putK (al.map fun s=>(xt s,V.str ((asked s).getD (Zn "")))) (xt s0) (.str b))) c=some u:=fun c u n3 e=>by
   rw[xh n3];exact e
  obtain⟨dx2,hpz2⟩:=z2.ins;obtain⟨dx3,hp2⟩:=z2.sg.ins;obtain⟨m1,hm1,f1⟩:=z2.sg.so;obtain⟨m2,hm2,f2⟩:=z2.sg.ho;obtain⟨ml,hml,ll,fl⟩:=z2.ln;have ow2:=z2.ow;have rn2:=z2.rn;have tp:Tups H2 (upd H2 da (.dT (putK (al.map fun s=>(xt s,V.str ((asked s).getD (Zn "")))) (xt s0) (.str b)))):=fun c xs e=>fr2 _ _ (xp e hda2' (fun z=>nomatch z)) e;refine⟨⟨dx2,fr2 _ _ (xp hpz2 hda2' (fun z=>nomatch z)) hpz2⟩,⟨⟨dx3,fr2 _ _ (xp hp2 hda2' (fun z=>nomatch z)) hp2⟩,SoD.keep ⟨m1,hm1,f1⟩ tp (fun u e=>fr2 _ _ (xp hm1 hda2' (fun z=>nomatch z)) e),HoD.keep ⟨m2,hm2,f2⟩ (fun u e=>fr2 _ _ (Zw nd2) e)⟩,fr2 _ _ (xp ow2 hda2' (fun z=>nomatch z)) ow2,fr2 _ _ (Zw ndr) rn2,⟨ml,fr2 _ _ (xp hml hda2' (fun z=>nomatch z)) hml,ll,fun nm h=>?_⟩,z2.n1,z2.n2,z2.n3,z2.n4⟩;obtain⟨qq,e1,e2,e3⟩:=fl nm h;refine⟨qq,e1,fr2 _ _ ?_ e2,e3⟩;obtain⟨k0,hk0,_⟩:=z.ln;have hk2:=k2 _ _ (Zw z.n3) (xp hk0 z.rn (fun z=>nomatch z)) (s1 _ _ hk0);rw[hml] at hk2;cases hk2;exact nln nm h qq ⟨ml,hk0,e1⟩
def xab (w:Nat) (ps:List Pt) (srt:List Seat) (nm:Str):List (Seat × Int):=match ps.find? (fun p=>decide (p.nm=nm)) with
 | some p=>(srt.filter (xav p)).map fun s=>(s,lenI (w:Int) p.x p.y s.1 s.2)
 | none=>[]
theorem xen {w:Nat}{ps:List Pt}{srt:List Seat}:xaf (xab w ps srt)=xaw ps srt:=by
 funext nm;unfold xaf xab xaw;cases ps.find? (fun p=>decide (p.nm=nm)) with
 | none=>rfl
 | some p =>
  show List.map _ (List.map _ _)=_;rw[Z7];exact YA _
theorem xks {w h:Nat}{ps:List Pt}{ss srt:List Seat} (w30:w<=30) (h16:h<=16) (pok:xda (w:Int) (h:Int) ps) (sok:SsOk (h:Int) ss) (pm:srt.Perm ss):xcy (xab w ps srt) srt:=by
 have nd:srt.Nodup:=pm.nodup_iff.mpr sok.1;refine⟨fun n=>?_,fun n x hx=>?_,fun n s hs=>?_,nd⟩
 .rw [xen];unfold xaw;split
  .exact YJ.filter _ nd
  .exact JP
 .unfold xab at hx;split at hx
  .rename_i p hf
   obtain⟨s,hs,rfl⟩:=Zr.mp hx;have pin:=pok.ok p (QA hf);have sin:=sok.2.2 s (pm.mem_iff.mp (ZR.mp hs).1);have:=pin.x1;have:=pin.x2;have:=pin.y1;have:=pin.y2;have:=sin.1;have:=sin.2;show 0<=lenI (w:Int) p.x p.y s.1 s.2/\lenI (w:Int) p.x p.y s.1 s.2<=46;unfold lenI;split<;>split<;>omega
  .exact nomatch hx
 .rw [xen] at hs;unfold xaw at hs;split at hs
  .exact (ZR.mp hs).1
  .exact nomatch hs
theorem xgz {d:Addr}:∀(L:List (Addr × Seat × Int)) {H:Hp}{kvs:List (List Key × V)},H d=some (.dT kvs)->(∀ x∈L,H x.1=some (.tup (xau x.2.1)))->(L.map (·.2.1)).Nodup->(∀ x∈L,valV kvs (xt x.2.1)=none)->kvs.length+L.length<=1000 ->
    ∃ H2,xep d H (L.map fun x=>(V.ref x.1,V.int x.2.2)) H2/\H2 d=some (.dT (kvs++LnT (L.map (·.2))))/\∀ b u,b≠d->H b=some u->H2 b=some u
  | [],H,kvs,e,_,_,_,_=>⟨H,.nil,by rw[e]; simp[LnT],fun _ _ _ e=>e⟩
  | x::L,H,kvs,e,f,nd,nv,hn=>by
    rw[ZJ] at hn;rw[Zx,ZQ] at nd;have hx:=f x (Zp ..);have up:∀ b u,b≠d->H b=some u->upd H d (.dT (kvs++[(xt x.2.1,.int x.2.2)])) b=some u:=fun b u nb eb=>by
      rw[xh nb];exact eb
    have put:DPut H d (.ref x.1) (.int x.2.2) (upd H d (.dT (kvs++[(xt x.2.1,.int x.2.2)]))):=by
      have z:=DPut.t (k:=xt x.2.1) (v:=.int x.2.2) e hx (ZG (by omega:_<=1000) (by decide));rw[xcg _ (nv x (Zp ..))] at z;exact z
    obtain⟨H2,dps,e2,k2⟩:=xgz L (H:=upd H d (.dT (kvs++[(xt x.2.1,.int x.2.2)]))) xi (fun y hy=>up _ _ (xp (f y (Zm _ hy)) e (fun z=>nomatch z)) (f y (Zm _ hy))) nd.2 (fun y hy=>by
      have nk:¬ xt y.2.1=xt x.2.1:=fun z=>nd.1 (by rw[<- xc3 _ _ z]; exact Zr.mpr ⟨y,hy,rfl⟩);have z:=xch kvs (xt x.2.1) (xt y.2.1) (.int x.2.2);rw[xcg _ (nv x (Zp ..)),if_neg nk,nv y (Zm _ hy)] at z;exact z) (by rw[Zu,ZS]; omega)
    refine⟨H2,.cons put dps,?_,fun b u nb eb=>k2 _ _ nb (up _ _ nb eb)⟩;rw[e2,List.append_assoc];rfl
theorem xf0 {H:Hp}:∀{tgt:List (Seat × Int)}{ys:List V},ys.length=tgt.length->(∀(i:Nat) (y:V),ys[i]?=some y->∃ q qs s l,y=.ref q/\H q=some (.tup [.ref qs,.int l])/\H qs=some (.tup (xau s))/\tgt[i]?=some (s,l)) ->
    ∃(ps:List (Addr × V × V)) (L:List (Addr × Seat × Int)),ys=ps.map (fun p=>.ref p.1)/\(∀ p∈ps,H p.1=some (.tup [p.2.1,p.2.2]))/\ps.map (·.2)=L.map (fun x=>(V.ref x.1,V.int x.2.2))/\L.map (·.2)=tgt/\∀ x∈L,H x.1=some (.tup (xau x.2.1))
  | [],[],_,_=>⟨[],[],rfl,fun _ h=>(nomatch h),rfl,rfl,fun _ h=>(nomatch h)⟩
  | [],_::_,h,_=>by cases h
  | _::_,[],h,_=>by cases h
  | x::tgt,y::ys,h,f=>by
    obtain⟨q,qs,s,l,rfl,h1,h2,h3⟩:=f 0 y rfl;obtain⟨ps,L,e1,e2,e3,e4,e5⟩:=xf0 (tgt:=tgt) (ys:=ys) (by simpa using h) (fun i y hy=>by
      obtain⟨q,qs,s,l,a1,a2,a3,a4⟩:=f (i+1) y (by simpa using hy);exact⟨q,qs,s,l,a1,a2,a3,by simpa using a4⟩)
    have h3:x=(s,l):=by simpa using h3
    refine⟨(q,.ref qs,.int l)::ps,(qs,s,l)::L,by rw[e1]; rfl,fun p hp=>?_,by rw[Zx,Zx,e3],by rw[Zx,e4,h3],fun z hz=>?_⟩
    . rcases Zz.mp hp with rfl|hp
      . exact h1
      . exact e2 p hp
    . rcases Zz.mp hz with rfl|hz
      . exact h2
      . exact e5 z hz
inductive xoy (t:Adr) (vs:List V) (H:Hp) (Q:VK) (_:XK):Prop
 | mk (pz dx a dp do_:Addr) (w h:Nat) (ps:List Pt) (st srt:List Seat) (lens:Str->List (Seat × Int)) (e_:vs=[.ref pz,.ref a]) (r_:H pz=some (.ins t.C_o dx [])/\Dr t H a dp do_ w h ps st srt/\∀ H' dl d_o d_r p d1 d2,H dl=none->H d_o=none->H d_r=none->H p=none->H d1=none->H d2=none->(∀ b u,b≠pz->H b=some u->H' b=some u)->Pz t H' pz a dl d_o d_r p d1 d2 0 [] srt lens (fun _=>none) (fun _=>none) (fun _=>0) (fun _=>0)->Q .non H')
theorem ok_ak (T:Txt w K mg t):FnOk true P w K mg base (CXo P w) 4 t.f_ak t.d_ak ["self", "picture"] (xoy t):=by
 refine T.F_ak.okn (k:=3) sc_ak (fun vs H Q E h=>?_) (fun cdv A outer s H vs Q E hr h=>?_)
 .obtain ⟨pz,dx,a,dp,do_,w',h',ps,st,srt,lens,rfl,_⟩:=h;rfl
 .obtain ⟨pz,dx,a,dp,do_,w',h',ps,st,srt,lens,rfl,h⟩:=h;refine⟨_,xj (xb5 (pv 0) (pv 1) rfl)
   (xj (xb5 (pv 0) (xdw) rfl)
   (xj (xb5 (pv 0) (xdw) rfl)
   (xj (xb5 (pv 0) (xby (xea rfl (xiq hr)) rfl T.n_dict boot_dict (xf (xb3 rfl (xbp (zs:=["seat"]) (ys:=[]) (fr:=[]) (N0:=["self", "picture"]) (sc0:=xo s_ak) (by decide +kernel) rfl rfl rfl) (xas (xbm (pv 1) T.c_b T.m_i (ok_i T) (hmm hr) T.b_i .nil xl)) (fun _ _ _ _ _ ow nd=>xq (i:=0) nd rfl (Zq (ow _ (by simp))) (JD (ow _ (by simp)))) (xcq (by decide)) (fun _ _ _ _ _=>xci) (fun _ _ _ _ _=>xaq (xf (pv 0) (xf (xn) (xk))))) (xk))) rfl)
   (xm (xb5 (pv 0) (xim T.k_z (ok_ae T) (hmm hr) rfl T.g_z T.b_ae .nil xl) rfl))))),?_⟩
  obtain⟨hpz,dr,q⟩:=h;refine⟨_,rfl,_,rfl,pz,_,dx,_,rfl,hpz,T.c_o,T.n_a7,(by show 0<1000; decide),?_⟩;have k1:∀ b u,b≠pz->H b=some u->upd H pz (.ins t.C_o dx (putF (Zn "picture") (.ref a) [])) b=some u:=fun b u nb e=>by rw[xh nb]; exact e
  have hz1:upd H pz (.ins t.C_o dx (putF (Zn "picture") (.ref a) [])) pz=some (.ins t.C_o dx [("picture",.ref a)]):=xi;have f1:∀ b,upd H pz (.ins t.C_o dx (putF (Zn "picture") (.ref a) [])) b=none->H b=none:=fun b e=>by
   by_cases c:b=pz
   .rw [c,xi] at e; cases e
   .rw [xh c] at e; exact e
  revert k1 hz1 f1;show _->_->_->_;generalize upd H pz (.ins t.C_o dx (putF (Zn "picture") (.ref a) []))=H1;intro k1 hz1 f1;refine fun dl hdl=>?_;have s2:Same H1 (upd H1 dl (.dK [])):=xr (Same.refl _) hdl;refine⟨_,rfl,pz,_,dx,_,rfl,s2 _ _ hz1,T.c_o,T.n_a6,(by show 1<1000; decide),?_⟩;have npl:pz≠dl:=xg hz1 hdl;have k3:∀ b u,b≠pz->H1 b=some u->upd (upd H1 dl (.dK [])) pz (.ins t.C_o dx (putF (Zn "lengths") (.ref dl) [("picture",.ref a)])) b=some u:=fun b u nb e=>by rw[xh nb]; exact s2 _ _ e
  have hz3:upd (upd H1 dl (.dK [])) pz (.ins t.C_o dx (putF (Zn "lengths") (.ref dl) [("picture",.ref a)])) pz=some (.ins t.C_o dx [("picture",.ref a),("lengths",.ref dl)]):=xi;have gl3:upd (upd H1 dl (.dK [])) pz (.ins t.C_o dx (putF (Zn "lengths") (.ref dl) [("picture",.ref a)])) dl=some (.dK []):=by rw[xh (Zw npl)]; exact xi
  have f3:∀ b,upd (upd H1 dl (.dK [])) pz (.ins t.C_o dx (putF (Zn "lengths") (.ref dl) [("picture",.ref a)])) b=none->H1 b=none:=fun b e=>by
   by_cases c:b=pz
   .rw [c,xi] at e; cases e
   .rw [xh c] at e; exact s2.free e
  revert k3 hz3 gl3 f3;show _->_->_->_->_;generalize upd (upd H1 dl (.dK [])) pz (.ins t.C_o dx (putF (Zn "lengths") (.ref dl) [("picture",.ref a)]))=H3;intro k3 hz3 gl3 f3;refine fun d_o hdo=>?_;have s4:Same H3 (upd H3 d_o (.dK [])):=xr (Same.refl _) hdo;refine⟨_,rfl,pz,_,dx,_,rfl,s4 _ _ hz3,T.c_o,T.n_a9,(by show 2<1000; decide),?_⟩;have npo:pz≠d_o:=xg hz3 hdo;have nol:d_o≠dl:=Zw (xg gl3 hdo);have k5:∀ b u,b≠pz->H3 b=some u->upd (upd H3 d_o (.dK [])) pz (.ins t.C_o dx (putF (Zn "own") (.ref d_o) [("picture",.ref a),("lengths",.ref dl)])) b=some u:=fun b u nb e=>by rw[xh nb]; exact s4 _ _ e
  have hz5:upd (upd H3 d_o (.dK [])) pz (.ins t.C_o dx (putF (Zn "own") (.ref d_o) [("picture",.ref a),("lengths",.ref dl)])) pz=some (.ins t.C_o dx [("picture",.ref a),("lengths",.ref dl),("own",.ref d_o)]):=xi;have go5:upd (upd H3 d_o (.dK [])) pz (.ins t.C_o dx (putF (Zn "own") (.ref d_o) [("picture",.ref a),("lengths",.ref dl)])) d_o=some (.dK []):=by rw[xh (Zw npo)]; exact xi
  have f5:∀ b,upd (upd H3 d_o (.dK [])) pz (.ins t.C_o dx (putF (Zn "own") (.ref d_o) [("picture",.ref a),("lengths",.ref dl)])) b=none->H3 b=none:=fun b e=>by
   by_cases c:b=pz
   .rw [c,xi] at e; cases e
   .rw [xh c] at e; exact s4.free e
  revert k5 hz5 go5 f5;show _->_->_->_->_;generalize upd (upd H3 d_o (.dK [])) pz (.ins t.C_o dx (putF (Zn "own") (.ref d_o) [("picture",.ref a),("lengths",.ref dl)]))=H5;intro k5 hz5 go5 f5;have gl5:=k5 _ _ (Zw npl) gl3;have k05:∀ b u,b≠pz->H b=some u->H5 b=some u:=fun b u nb e=>k5 _ _ nb (k3 _ _ nb (k1 _ _ nb e));obtain⟨⟨dxa,hpic⟩,⟨kp,hkp,plp⟩,w1,w2,h1,h2,le⟩:=id dr.pic;obtain⟨ko,hko,kr⟩:=id dr.sts;have nap:a≠pz:=fun z=>by
   rw[z,hpz] at hpic;have z2:=(HO.ins.inj (ZN.inj hpic)).2.2;exact nomatch z2
  have kt:Tups H H5:=fun b xs e=>k05 _ _ (xp e hpz (fun z=>nomatch z)) e;have pic5:Pic t H5 a dp do_ (w':Int) (h':Int) ps:=⟨⟨dxa,k05 _ _ nap hpic⟩,⟨kp,k05 _ _ (xp hkp hpz (fun z=>nomatch z)) hkp,plp.keep kt⟩,w1,w2,h1,h2,le⟩
  have sts5:Sts H5 do_ st:=⟨ko,k05 _ _ (xp hko hpz (fun z=>nomatch z)) hko,kr⟩
  refine⟨_,rfl,a,dxa,_,rfl,k05 _ _ nap hpic,xat (by decide +kernel),a,dp,do_,w',h',ps,st,rfl,pic5,sts5,fun l6 ss6 us hl6 sl6 pm lt=>?_⟩;obtain rfl:ss6=srt:=xa1 xbt (pm.trans dr.pm.symm) lt dr.lt;have s6:Same H5 (upd H5 l6 (.lst (us.map V.ref))):=xr (Same.refl _) hl6;have g6:upd H5 l6 (.lst (us.map V.ref)) l6=some (.lst (us.map V.ref)):=xi;revert s6 g6;generalize upd H5 l6 (.lst (us.map V.ref))=H6;intro s6 g6;have sl6':=sl6.keep (Same.tups s6);have usl:=sl6.len;have s32:ss6.length<=32:=by rw[dr.pm.length_eq]; exact dr.ok.2.1
  have snd:ss6.Nodup:=dr.pm.nodup_iff.mpr dr.ok.1;refine⟨l6,rfl,⟨_,SqL.of g6⟩,fun l7 hl7=>?_⟩;refine xcu (SqL.of g6) (by rw[Zc]; exact ZG (by omega:_<=1000) (by decide)) hl7 (fun i y H=>∃ q qs s l,y=.ref q/\H q=some (.tup [.ref qs,.int l])/\H qs=some (.tup (xau s))/\(ss6.map fun s=>(s,(0:Int)))[i]?=some (s,l)) (fun _ _ _ _ tp ⟨q,qs,s,l,z1,z2,z3,z4⟩=>⟨q,qs,s,l,z1,tp _ _ z2,tp _ _ z3,z4⟩) (fun i x H7 hx s7 N hN=>?_) (fun ys H7 s7 e7 ly fy=>?_)
  .rw [Zf,Zj] at hx;obtain⟨qa,hqa,rfl⟩:=hx;obtain⟨s,hs,hsq⟩:=sl6'.get hqa;refine⟨_,rfl,(by show 2<=sizeLine; decide),fun q5 hq5=>?_⟩;have s8:Same H7 (upd H7 q5 (.tup [.ref qa,.int 0])):=xr (Same.refl _) hq5;exact hN _ _ s8 ⟨q5,qa,s,0,rfl,xi,s8 _ _ (s7 _ _ hsq),by rw[Zf,hs]; rfl⟩
  rw[Zc,usl] at ly;obtain⟨prs,L,rfl,hprs,ep,eL,hL⟩:=xf0 (tgt:=ss6.map fun s=>(s,(0:Int))) (by rw[ly,Zc]) fy;refine⟨l7,prs,rfl,e7,hprs,fun d_r hdr=>?_⟩;have L1:(L.map (·.2.1))=ss6:=by
   have:L.map (·.2.1)=(L.map (·.2)).map (·.1):=by rw[Z7]; rfl
   rw[this,eL,Z7];exact YA _
  have ll:L.length=ss6.length:=by
   have:=congrArg Qo L1;rw[Zc] at this;exact this
  have s8:Same H7 (upd H7 d_r (.dT [])):=xr (Same.refl _) hdr;obtain⟨H8,dps,e8,k8⟩:=xgz (d:=d_r) L (H:=upd H7 d_r (.dT [])) (kvs:=[]) xi (fun x hx=>s8 _ _ (hL x hx)) (by rw[L1]; exact snd) (fun _ _=>rfl) (by simp; omega);refine⟨.dT [],H8,.inr rfl,by rw[ep]; exact dps,?_⟩;rw[eL] at e8;have rn8:H8 d_r=some (.dT (ss6.map fun s=>(xt s,V.int 0))):=by
   rw[e8];unfold LnT;rw[Z7];rfl
  have s78:Same H7 H8:=fun b u e=>k8 _ _ (xg e hdr) (s8 _ _ e);have s58:Same H5 H8:=(s6.trans s7).trans s78;have fdr5:H5 d_r=none:=(s6.trans s7).free hdr;refine⟨_,rfl,pz,_,dx,_,rfl,s58 _ _ hz5,T.c_o,T.n_ba,(by show 3<1000; decide),?_⟩;have k9:∀ b u,b≠pz->H8 b=some u->upd H8 pz (.ins t.C_o dx (putF (Zn "rent") (.ref d_r) [("picture",.ref a),("lengths",.ref dl),("own",.ref d_o)])) b=some u:=fun b u nb e=>by rw[xh nb]; exact e
  have hz9:upd H8 pz (.ins t.C_o dx (putF (Zn "rent") (.ref d_r) [("picture",.ref a),("lengths",.ref dl),("own",.ref d_o)])) pz=some (.ins t.C_o dx [("picture",.ref a),("lengths",.ref dl),("own",.ref d_o),("rent",.ref d_r)]):=xi;have f9:∀ b,upd H8 pz (.ins t.C_o dx (putF (Zn "rent") (.ref d_r) [("picture",.ref a),("lengths",.ref dl),("own",.ref d_o)])) b=none->H8 b=none:=fun b e=>by
   by_cases c:b=pz
   .rw [c,xi] at e; cases e
   .rw [xh c] at e; exact e
  revert k9 hz9 f9;show _->_->_->_;generalize upd H8 pz (.ins t.C_o dx (putF (Zn "rent") (.ref d_r) [("picture",.ref a),("lengths",.ref dl),("own",.ref d_o)]))=H9;intro k9 hz9 f9;have npr:pz≠d_r:=xg hz5 fdr5;have gl9:=k9 _ _ (Zw npl) (s58 _ _ gl5);have go9:=k9 _ _ (Zw npo) (s58 _ _ go5);have gr9:=k9 _ _ (Zw npr) rn8;refine fun p dx2 hp hdx ne=>?_;refine⟨p,dx2,rfl,xi,fun H10 d1 d2 hd1 hd2 k10 sg10=>⟨rfl,?_⟩⟩;have up:∀ b,upd (upd H9 dx2 (.own p)) p (.ins t.C_z dx2 []) b=none->H9 b=none:=fun b z=>by
   cases e:H9 b with
   | none=>rfl
   | some u=>rw[xh (xg e hp),xh (xg e hdx),e] at z; cases z
  have s910:Same H9 H10:=fun b u e=>k10 _ _ (xg e hp) (by rw[xh (xg e hp),xh (xg e hdx)]; exact e);have h91:=up _ hd1;have h92:=up _ hd2;refine⟨_,rfl,pz,_,dx,_,rfl,s910 _ _ hz9,T.c_o,T.n_a5,(by show 4<1000; decide),?_⟩;have kF:∀ b u,b≠pz->H10 b=some u->upd H10 pz (.ins t.C_o dx (putF (Zn "seating") (.ref p) [("picture",.ref a),("lengths",.ref dl),("own",.ref d_o),("rent",.ref d_r)])) b=some u:=fun b u nb e=>by rw[xh nb]; exact e
  have fr:∀ b,H9 b=none->H b=none:=fun b e=>by
   cases z:H b with
   | none=>rfl
   | some u =>
    by_cases c:b=pz
    .rw [c,hz9] at e; cases e
    .rw [k9 _ _ c (s58 _ _ (k05 _ _ c z))] at e; cases e
  have fr5:∀ b,H5 b=none->H b=none:=fun b e=>by
   cases z:H b with
   | none=>rfl
   | some u =>
    by_cases c:b=pz
    .rw [c,hz5] at e; cases e
    .rw [k05 _ _ c z] at e; cases e
  obtain⟨dx3,hp10⟩:=sg10.ins;obtain⟨m1,hm1,g1⟩:=sg10.so;obtain⟨m2,hm2,g2⟩:=sg10.ho;have gz10:=s910 _ _ hz9;have tpF:Tups H10 (upd H10 pz (.ins t.C_o dx (putF (Zn "seating") (.ref p) [("picture",.ref a),("lengths",.ref dl),("own",.ref d_o),("rent",.ref d_r)]))):=fun b xs e=>kF _ _ (xp e gz10 (fun z=>nomatch z)) e;have npp:p≠pz:=Zw (xg hz9 hp);refine q _ dl d_o d_r p d1 d2 (f1 _ hdl) (f1 _ (f3 _ hdo)) (fr5 _ fdr5) (fr _ hp) (fr _ h91) (fr _ h92) (fun b u nb e=>kF _ _ nb (s910 _ _ (k9 _ _ nb (s58 _ _ (k05 _ _ nb e))))) ?_;exact⟨⟨dx,xi⟩,⟨⟨dx3,kF _ _ npp hp10⟩,SoD.keep ⟨m1,hm1,g1⟩ tpF (fun u e=>kF _ _ (xp hm1 gz10 (fun z=>nomatch z)) e),HoD.keep ⟨m2,hm2,g2⟩ (fun u e=>kF _ _ (xp hm2 gz10 (fun z=>nomatch z)) e)⟩,kF _ _ (Zw npo) (s910 _ _ go9),kF _ _ (Zw npr) (s910 _ _ gr9),⟨[],kF _ _ (Zw npl) (s910 _ _ gl9),Zi _,fun _ h=>(nomatch h)⟩,(fun z=>by rw[z,h92] at gr9; cases gr9),(fun z=>by rw[z,h91] at go9; cases go9),nol,(fun z=>by rw[z,h91] at gl9; cases gl9)⟩
section
variable {t:Adr}{H H':Hp}{pz a dl d_o d_r p d1 d2:Addr}{n:Nat}{names:List Str}{ss:List Seat}{lens:Str->List (Seat × Int)}{so so':Str->Option Seat}{ho ho':Seat->Option Str}{own own':Str->Int}{rent rent':Seat->Int}
theorem Pz.keep1 (z:Pz t H pz a dl d_o d_r p d1 d2 n names ss lens so ho own rent) {x:Addr} (k:∀ c u,c≠x->H c=some u->H' c=some u) (tp:Tups H H') (e0:pz≠x) (e1:p≠x) (e2:d1≠x) (e3:d2≠x) (e4:d_o≠x) (e5:d_r≠x) (e6:dl≠x) (e7:xd1 H dl x names):Pz t H' pz a dl d_o d_r p d1 d2 n names ss lens so ho own rent:=by
 obtain⟨kl,hkl,ll,fl⟩:=z.ln;refine⟨let ⟨dx,e⟩:=z.ins; ⟨dx,k _ _ e0 e⟩,z.sg.keep e1 e2 e3 tp k,k _ _ e4 z.ow,k _ _ e5 z.rn,⟨kl,k _ _ e6 hkl,ll,fun nm h=>?_⟩,z.n1,z.n2,z.n3,z.n4⟩;obtain⟨q,q1,q2,q3⟩:=fl nm h;exact⟨q,q1,k _ _ (e7 nm h q ⟨kl,hkl,q1⟩) q2,q3⟩
theorem Pz.keepL (z:Pz t H pz a dl d_o d_r p d1 d2 n names ss lens so ho own rent) {x:Addr}{xs:List V} (hx:H x=some (.lst xs)) (k:∀ c u,c≠x->H c=some u->H' c=some u):Pz t H' pz a dl d_o d_r p d1 d2 n names ss lens so ho own rent:=by
 obtain⟨dx,hz⟩:=z.ins;obtain⟨dx2,hp⟩:=z.sg.ins;obtain⟨k1,hk1,_⟩:=z.sg.so;obtain⟨k2,hk2,_⟩:=z.sg.ho;obtain⟨kl,hkl,ll,fl⟩:=id z.ln;exact z.keep1 k (fun c xs e=>k _ _ (xp e hx (fun z=>nomatch z)) e) (xp hz hx (fun z=>nomatch z)) (xp hp hx (fun z=>nomatch z)) (xp hk1 hx (fun z=>nomatch z)) (xp hk2 hx (fun z=>nomatch z)) (xp z.ow hx (fun z=>nomatch z)) (xp z.rn hx (fun z=>nomatch z)) (xp hkl hx (fun z=>nomatch z)) (fun nm h q ⟨kv,e1,e2⟩=>by
  obtain⟨q',q1,q2,_⟩:=fl nm h;rw[hkl] at e1;cases e1;rw[q1] at e2;cases e2;exact xp q2 hx (fun z=>nomatch z))
theorem xd1.keep {da:Addr} (z:Pz t H pz a dl d_o d_r p d1 d2 n names ss lens so ho own rent) (h:xd1 H dl da names) (k:∀ u,H dl=some u->H' dl=some u):xd1 H' dl da names:=fun nm hn q ⟨kv,e1,e2⟩=>by
 obtain⟨kl,hkl,_⟩:=z.ln;have:=k _ hkl;rw[e1] at this;cases this;exact h nm hn q ⟨kv,hkl,e2⟩
theorem AkD.hod {d:Addr}{al:List Seat}{asked:Seat->Option Str} (h:AkD H d al asked) (ask:∀ s,(asked s).isSome=true↔s∈al):HoD H d al.length asked:=by
 refine⟨_,h,by rw[Zc]; exact Zi _,fun s=>?_⟩;cases e:asked s with
 | none=>exact xef xc3 (fun z=>by rw[<- ask s,e] at z; cases z)
 | some x =>
  rw[valM xc3 ((ask s).mp (by rw[e]; rfl)),e];rfl
theorem Pz.hand (z:Pz t H pz a dl d_o d_r p d1 d2 n names ss lens so ho own rent) (k:KB H H' d1 d2) {m:Nat} (sg:Sg t H' p d1 d2 m so' ho'):Pz t H' pz a dl d_o d_r p d1 d2 m names ss lens so' ho' own rent:=by
 obtain⟨dx,hz⟩:=z.ins;obtain⟨k1,hk1,_⟩:=z.sg.so;obtain⟨k2,hk2,_⟩:=z.sg.ho;obtain⟨kl,hkl,ll,fl⟩:=z.ln;refine⟨⟨dx,k _ _ (xp hz hk1 (fun z=>nomatch z)) (xp hz hk2 (fun z=>nomatch z)) hz⟩,sg,k _ _ z.n2 (xp z.ow hk2 (fun z=>nomatch z)) z.ow,k _ _ (xp z.rn hk1 (fun z=>nomatch z)) z.n1 z.rn,⟨kl,k _ _ z.n4 (xp hkl hk2 (fun z=>nomatch z)) hkl,ll,fun nm h=>?_⟩,z.n1,z.n2,z.n3,z.n4⟩;obtain⟨q,q1,q2,q3⟩:=fl nm h;exact⟨q,q1,k _ _ (xp q2 hk1 (fun z=>nomatch z)) (fun y=>q3 (by rw[y]; exact Zm _ (Zp ..))) q2,q3⟩
end
def F5 (H H':Hp) (dl d_o d_r d1 d2:Addr):Prop:=∀ c u,c≠dl->c≠d_o->c≠d_r->c≠d1->c≠d2->H c=some u->H' c=some u
inductive xka (t:Adr) (vs:List V) (H:Hp) (Q:VK) (_:XK):Prop
 | mk (pz a dl d_o d_r p d1 d2 dp do_:Addr) (n w h:Nat) (ns:List Str) (ps:List Pt) (st srt:List Seat) (so:Str->Option Seat) (ho:Seat->Option Str) (own:Str->Int) (rent:Seat->Int) (nm:Str) (e_:vs=[.ref pz,.str nm]) (r_:Pz t H pz a dl d_o d_r p d1 d2 n ns srt (xab w ps srt) so ho own rent/\Dr t H a dp do_ w h ps st srt/\xda (w:Int) (h:Int) ps/\n<=500/\ns.length<12/\(∃ pt∈ps,pt.nm=nm)/\nm∉ns/\Fit (xab w ps srt) ns so ho own rent/\(∃ so2 ho2,Kp.Mt (xaf (xab w ps srt)) so2 ho2/\∀ z∈ns++[nm],(so2 z).isSome=true)/\∀ H' own' rent' so' ho' asked s,F5 H H' dl d_o d_r d1 d2->Pz t H' pz a dl d_o d_r p d1 d2 (n+30) (ns++[nm]) srt (xab w ps srt) so' ho' own' rent'->Kp.Rch (xdb (xab w ps srt) ho) (.go (setI own nm 0) rent (fun _=>none) [nm]) (.hand own' rent' asked s)->Kp.Rch (Kp.kstep (xaf (xab w ps srt)) so ho) (.hand so ho asked s) (.fin so' ho')->Fit (xab w ps srt) (ns++[nm]) so' ho' own' rent'->Q .non H')
theorem xpa {t:Adr}{H:Hp}{Q E}{pz a dl d_o d_r p d1 d2 dp do_:Addr}{n w h:Nat}{ns:List Str}{ps:List Pt}{st srt:List Seat}{so:Str->Option Seat}{ho:Seat->Option Str}{own:Str->Int}{rent:Seat->Int}{nm:Str} (hh:Pz t H pz a dl d_o d_r p d1 d2 n ns srt (xab w ps srt) so ho own rent/\Dr t H a dp do_ w h ps st srt/\xda (w:Int) (h:Int) ps/\n<=500/\ns.length<12/\(∃ pt∈ps,pt.nm=nm)/\nm∉ns/\Fit (xab w ps srt) ns so ho own rent/\(∃ so2 ho2,Kp.Mt (xaf (xab w ps srt)) so2 ho2/\∀ z∈ns++[nm],(so2 z).isSome=true) /\
 ∀ H' own' rent' so' ho' asked s,F5 H H' dl d_o d_r d1 d2->Pz t H' pz a dl d_o d_r p d1 d2 (n+30) (ns++[nm]) srt (xab w ps srt) so' ho' own' rent'->Kp.Rch (xdb (xab w ps srt) ho) (.go (setI own nm 0) rent (fun _=>none) [nm]) (.hand own' rent' asked s)->Kp.Rch (Kp.kstep (xaf (xab w ps srt)) so ho) (.hand so ho asked s) (.fin so' ho')->Fit (xab w ps srt) (ns++[nm]) so' ho' own' rent'->Q .non H'):xka t [.ref pz,.str nm] H Q E:=⟨pz,a,dl,d_o,d_r,p,d1,d2,dp,do_,n,w,h,ns,ps,st,srt,so,ho,own,rent,nm,rfl,hh⟩
theorem ok_x (T:Txt w K mg t):FnOk true P w K mg base (CXo P w) 7 t.f_x t.d_x ["self", "name"] (xka t):=by
 refine T.F_x.okn (k:=6) sc_x (fun vs H Q E h=>?_) (fun cdv A outer s H vs Q E hr h=>?_)
 .obtain ⟨pz,a,dl,d_o,d_r,p,d1,d2,dp,do_,n,w',h',ns,ps,st,srt,so,ho,own,rent,nm,rfl,_⟩:=h;rfl
 .obtain ⟨pz,a,dl,d_o,d_r,p,d1,d2,dp,do_,n,w',h',ns,ps,st,srt,so,ho,own,rent,nm,rfl,h⟩:=h;refine⟨_,xj (xb9 (xam hr) (xae (pv 0) rfl) (pv 1) (xby (xea rfl (xiq hr)) rfl T.n_dict boot_dict (xf (xb3 rfl (xbp (zs:=["side", "row"]) (ys:=["name", "self"]) (fr:=[1,0]) (N0:=["self", "name", "askers", "asked_by", "seat"]) (sc0:=xo s_x) (by decide +kernel) rfl rfl rfl) (xas (xan (xae (pv 0) rfl) T.c_b T.m_j (ok_j T) (hmm hr) T.b_j .nil xl (xf (pv 1) (xk)))) (fun _ _ _ _ _ ow nd=>(xbb rfl (xu (xq (i:=0) nd rfl (Zq (ow _ (by simp))) (JD (ow _ (by simp)))) (xu (xq (i:=1) nd rfl (Zq (ow _ (by simp))) (JD (ow _ (by simp)))) (xay))):PG _ _ (gTup K 2 _))) (xc7 (xax (by decide) (xax (by decide) (xcp)))) (fun _ _ _ _ _=>xci) (fun _ _ _ _ _=>xaq (xf (xaq (xf (pv 0) (xf (pv 1) (xk)))) (xf (xan ((xae (pv 3) rfl:PE _ _ (tFld K _ _))) T.c_b T.m_w (ok_w T) (hmm hr) T.b_w .nil xl (xf (pv 2) (xf (pv 0) (xf (pv 1) (xk))))) (xk))))) (xk))) rfl)
   (xj (xb9 (xam hr) (xae (pv 0) rfl) (pv 1) (xn) rfl)
   (xj (xz (i:=2) sc_x.nd rfl (Zq rfl) (xcf (xf (pv 1) (xk))))
   (xj (xz (i:=3) sc_x.nd rfl (Zq rfl) (xdr))
   (xj (xz (i:=4) sc_x.nd rfl (Zq rfl) (xan (pv 0) T.c_o T.m_v (ok_v T) (hmm hr) T.b_v .nil xl (xf (pv 2) (xf (pv 3) (xk)))))
   (xj (xfv ZA (xcm (xf6 (xam hr) (pv 4) (xae (xae (pv 0) rfl) rfl))) (xj (xak (xfm Jq YL YK xdm (pv 2) (xf (xa9 (xam hr) (xae (xae (pv 0) rfl) rfl) (pv 4) (fun _ _=>rfl)) (xk))))
   (xm (xz (i:=4) sc_x.nd rfl (Zq rfl) (xan (pv 0) T.c_o T.m_v (ok_v T) (hmm hr) T.b_v .nil xl (xf (pv 2) (xf (pv 3) (xk))))))))
   (xm (xak (xan (xae (pv 0) rfl) T.c_z T.m_m (ok_m T) (hmm hr) T.b_m .nil xl (xf (pv 3) (xf (pv 4) (xk))))))))))),?_⟩
  obtain⟨z,dr,pok,n500,n12,⟨pt,ptin,pte⟩,nnm,fit,⟨so2,ho2,mt2,all2⟩,q⟩:=h;subst pte;have BIG:∀{n:Nat},n<=1000->n<sizeLine:=fun h=>ZG h (by decide);have w30:w'<=30:=by have:=dr.pic.w2; omega
  have h16:h'<=16:=by have:=dr.pic.h2; omega
  have lo:=xks w30 h16 pok dr.ok dr.pm;have s32:srt.length<=32:=by rw[dr.pm.length_eq]; exact dr.ok.2.1
  obtain⟨dx,hpz⟩:=z.ins;obtain⟨⟨dxa,hpic⟩,_⟩:=id dr.pic;have hf:=xkp pok.nn ptin;have pnm:=(pok.ok pt ptin).nm;have elen:xab w' ps srt pt.nm=(srt.filter (xav pt)).map fun s=>(s,lenI (w':Int) pt.x pt.y s.1 s.2):=by
   unfold xab;rw[hf]
  refine⟨_,rfl,pz,_,dx,_,_,rfl,hpz,T.c_o,T.n_a7,lkZp,a,dxa,_,rfl,hpic,xat (by decide +kernel),_,rfl,a,dp,do_,w',h',ps,st,pt,rfl,dr.pic,dr.sts,dr.ok,pnm,hf,fun H1 l1 srt' rs1 s1 fl1 pm1 lt1 e1 sl1=>?_⟩;obtain rfl:srt'=srt:=xa1 xbt (pm1.trans dr.pm.symm) lt1 dr.lt;have rl1:=sl1.len;have fl32:(srt'.filter (xav pt)).length<=32:=Z6 (JJ _ _) s32;refine⟨l1,rfl,⟨_,SqL.of e1⟩,fun l2 hl2=>?_⟩;refine xcu (SqL.of e1) (by rw[Zc]; exact BIG (by omega)) hl2 (fun i y H=>∃ q qs s l,y=.ref q/\H q=some (.tup [.ref qs,.int l])/\H qs=some (.tup (xau s))/\(xab w' ps srt' pt.nm)[i]?=some (s,l)) (fun _ _ _ _ tp ⟨q,qs,s,l,z1,z2,z3,z4⟩=>⟨q,qs,s,l,z1,tp _ _ z2,tp _ _ z3,z4⟩) (fun i x H2 hx s2 N hN=>?_) (fun ys H2 s2 e2 ly fy=>?_)
  .rw [Zf,Zj] at hx;obtain⟨qa,hqa,rfl⟩:=hx;obtain⟨s,hs,hsq⟩:=sl1.get hqa;have sin:=dr.ok.2.2 s (dr.pm.mem_iff.mp (ZR.mp (Zl hs)).1);refine⟨qa,_,rfl,SqT.of (s2 _ _ hsq),rfl,_,_,rfl,_,_,rfl,rfl,?_⟩;refine⟨_,rfl,_,rfl,(by show 2<=sizeLine; decide),fun q3 hq3=>?_⟩;have s3:Same H2 (upd H2 q3 (.tup [.str (x0 s.1),.int s.2])):=xr (Same.refl _) hq3;have g3:upd H2 q3 (.tup [.str (x0 s.1),.int s.2]) q3=some (.tup [.str (x0 s.1),.int s.2]):=xi;revert s3 g3;generalize upd H2 q3 (.tup [.str (x0 s.1),.int s.2])=H3;intro s3 g3;have s03:=(s1.trans s2).trans s3;refine⟨_,rfl,pz,_,dx,_,_,rfl,s03 _ _ hpz,T.c_o,T.n_a7,lkZp,a,dxa,_,rfl,s03 _ _ hpic,xat (by decide +kernel),_,rfl,_,rfl,_,rfl,a,dp,do_,w',h',ps,pt.nm,pt,s.1,s.2,rfl,Pic.same s03 dr.pic,pnm,hf,sin.1,sin.2,fun H4 s4=>?_⟩;refine⟨(by show 2<=sizeLine; decide),fun q5 hq5=>?_⟩;have s5:Same H4 (upd H4 q5 (.tup [.ref q3,.int (lenI (w':Int) pt.x pt.y s.1 s.2)])):=xr (Same.refl _) hq5;exact hN _ _ ((s3.trans s4).trans s5) ⟨q5,q3,s,_,rfl,xi,s5 _ _ (s4 _ _ g3),by rw[elen,Zf,hs]; rfl⟩
  rw[Zc,rl1] at ly;have lenl:(xab w' ps srt' pt.nm).length=(srt'.filter (xav pt)).length:=by rw[elen,Zc]
  obtain⟨prs,L,rfl,hprs,ep,eL,hL⟩:=xf0 (tgt:=xab w' ps srt' pt.nm) (by rw[ly,lenl]) fy;refine⟨l2,prs,rfl,e2,hprs,fun dq hdq=>?_⟩;have L1:(L.map (·.2.1))=xaf (xab w' ps srt') pt.nm:=by
   have:L.map (·.2.1)=(L.map (·.2)).map (·.1):=by rw[Z7]; rfl
   rw[this,eL];rfl
  have ll:L.length<=32:=by
   have:=congrArg Qo eL;rw[Zc] at this;omega
  have s3:Same H2 (upd H2 dq (.dT [])):=xr (Same.refl _) hdq;obtain⟨H3,dps,e3,k3⟩:=xgz (d:=dq) L (H:=upd H2 dq (.dT [])) (kvs:=[]) xi (fun x hx=>s3 _ _ (hL x hx)) (by rw[L1]; exact lo.nd _) (fun _ _=>rfl) (by simp; omega);refine⟨.dT [],H3,.inr rfl,by rw[ep]; exact dps,?_⟩;rw[eL,List.nil_append] at e3;have s23:Same H2 H3:=fun b u e=>k3 _ _ (xg e hdq) (s3 _ _ e);have s03:Same H H3:=(s1.trans s2).trans s23;have fdq:H dq=none:=(s1.trans s2).free hdq;have z3:=z.same s03;obtain⟨kl,hkl,lkl,fkl⟩:=z3.ln;have hz3:=s03 _ _ hpz;refine⟨_,rfl,pz,_,dx,_,_,rfl,hz3,T.c_o,T.n_a6,lkZl,_,rfl,dl,_,rfl,DPut.k (k:=.inr pt.nm) hkl (BIG (by omega)),?_⟩
  -- the heap with the new lengths
  have k4:∀ c u,c≠dl->H3 c=some u->upd H3 dl (.dK (putK kl (.inr pt.nm) (.ref dq))) c=some u:=fun c u nc e=>by rw[xh nc]; exact e
  have e4:upd H3 dl (.dK (putK kl (.inr pt.nm) (.ref dq))) dl=some (.dK (putK kl (.inr pt.nm) (.ref dq))):=xi;have f4:∀ c,upd H3 dl (.dK (putK kl (.inr pt.nm) (.ref dq))) c=none->H3 c=none:=fun c e=>by
   by_cases y:c=dl
   .rw [y,xi] at e; cases e
   .rw [xh y] at e; exact e
  revert k4 e4 f4;generalize upd H3 dl (.dK (putK kl (.inr pt.nm) (.ref dq)))=H4;intro k4 e4 f4;have hz4:=k4 _ _ (xp hz3 hkl (fun z=>nomatch z)) hz3;have ow4:OwD H4 d_o ns own:=k4 _ _ z.n3 z3.ow;refine⟨_,rfl,pz,_,dx,_,_,rfl,hz4,T.c_o,T.n_a9,lkZo,_,rfl,d_o,_,rfl,DPut.k (k:=.inr pt.nm) ow4 (by rw[Zc]; exact BIG (by omega)),?_⟩;rw[xcg _ (xef inrI nnm)];have k5:∀ c u,c≠d_o->H4 c=some u->upd H4 d_o (.dK ((ns.map fun n=>((.inr n:Key),V.int (own n)))++[(.inr pt.nm,.int 0)])) c=some u:=fun c u nc e=>by rw[xh nc]; exact e
  have e5:OwD (upd H4 d_o (.dK ((ns.map fun n=>((.inr n:Key),V.int (own n)))++[(.inr pt.nm,.int 0)]))) d_o (ns++[pt.nm]) (setI own pt.nm 0):=by
   unfold OwD;rw[xi,ZC]
   congr 3
   .refine Yk fun x hx=>?_;unfold setI;rw[if_neg (fun y:x=pt.nm=>nnm (by rw[<- y]; exact hx))]
   .show [((Jt pt.nm:Key),V.int 0)]=[(Jt pt.nm,V.int (setI own pt.nm 0 pt.nm))]
    unfold setI;rw[if_pos rfl]
  have f5:∀ c,upd H4 d_o (.dK ((ns.map fun n=>((.inr n:Key),V.int (own n)))++[(.inr pt.nm,.int 0)])) c=none->H4 c=none:=fun c e=>by
   by_cases y:c=d_o
   .rw [y,xi] at e; cases e
   .rw [xh y] at e; exact e
  revert k5 e5 f5;generalize upd H4 d_o (.dK ((ns.map fun n=>((.inr n:Key),V.int (own n)))++[(.inr pt.nm,.int 0)]))=H5;intro k5 e5 f5
  -- the prices with the new one
  have rn3:=z3.rn;obtain⟨dx2,hp3⟩:=z3.sg.ins;obtain⟨m1,hm1,g1⟩:=z3.sg.so;obtain⟨m2,hm2,g2⟩:=z3.sg.ho;have k35:∀ c u,c≠dl->c≠d_o->H3 c=some u->H5 c=some u:=fun c u n1 n2 e=>k5 _ _ n2 (k4 _ _ n1 e);have ow3:=z3.ow;unfold OwD at ow3;have tp35:Tups H3 H5:=fun c xs e=>k35 _ _ (xp e hkl (fun z=>nomatch z)) (xp e ow3 (fun z=>nomatch z)) e;have hkl5:H5 dl=some (.dK (putK kl (.inr pt.nm) (.ref dq))):=k5 _ _ (Zw z.n3) e4;have edq5:=k35 _ _ (xp e3 hkl (fun z=>nomatch z)) (xp e3 ow3 (fun z=>nomatch z)) e3;have ndq:dq∉[d_r,d2]:=fun y=>by
   rcases Zz.mp y with y|y
   .rw [y,z.rn] at fdq; cases fdq
   .obtain ⟨m0,hm0,_⟩:=z.sg.ho;rw[Zt.mp y,hm0] at fdq;cases fdq
  have z5:Pz t H5 pz a dl d_o d_r p d1 d2 n (ns++[pt.nm]) srt' (xab w' ps srt') so ho (setI own pt.nm 0) rent:=by
   refine⟨⟨dx,k5 _ _ (xp hz3 ow3 (fun z=>nomatch z)) hz4⟩,⟨⟨dx2,k35 _ _ (xp hp3 hkl (fun z=>nomatch z)) (xp hp3 ow3 (fun z=>nomatch z)) hp3⟩,SoD.keep ⟨m1,hm1,g1⟩ tp35 (fun u e=>k35 _ _ (Zw z.n4) (Zw z.n2) e),HoD.keep ⟨m2,hm2,g2⟩ (fun u e=>k35 _ _ (xp hm2 hkl (fun z=>nomatch z)) (xp hm2 ow3 (fun z=>nomatch z)) e)⟩,e5,k35 _ _ (xp rn3 hkl (fun z=>nomatch z)) (xp rn3 ow3 (fun z=>nomatch z)) rn3,⟨_,hkl5,?_,fun x hx=>?_⟩,z.n1,z.n2,z.n3,z.n4⟩
   .have:=xbn kl (.inr pt.nm) (.ref dq);rw[Zu,ZS];omega
   .rw [xch];by_cases c:x=pt.nm
    .subst c;exact⟨dq,by rw[if_pos rfl],edq5,ndq⟩
    .rw [if_neg (fun y=>c (Jt.inj y))];rcases ZB.mp hx with hx|hx
     .obtain ⟨qq,q1,q2,q3⟩:=fkl x hx;exact⟨qq,q1,k35 _ _ (xp q2 hkl (fun z=>nomatch z)) (xp q2 ow3 (fun z=>nomatch z)) q2,q3⟩
     .exact absurd (Zt.mp hx) c
  have fr5:∀ c u,c≠dl->c≠d_o->H c=some u->H5 c=some u:=fun c u n1 n2 e=>k35 _ _ n1 n2 (s03 _ _ e);have lnin:∀ x∈ns++[pt.nm],∀ qq,(∃ kvs,H5 dl=some (.dK kvs)/\valV kvs (.inr x)=some (.ref qq))->∃ u,H5 qq=some u:=fun x hx qq ⟨kv,y1,y2⟩=>by
   obtain⟨kl5,hk5,_,f⟩:=z5.ln;obtain⟨q',q1,q2,_⟩:=f x hx;rw[hk5] at y1;cases y1;rw[q1] at y2;cases y2;exact⟨_,q2⟩
  -- those who ask
  refine⟨_,rfl,(by show 1<=sizeLine; decide),fun la hla=>?_⟩;have s6:Same H5 (upd H5 la (.lst [.str pt.nm])):=xr (Same.refl _) hla;have g6:upd H5 la (.lst [.str pt.nm]) la=some (.lst [.str pt.nm]):=xi;revert s6 g6;generalize upd H5 la (.lst [.str pt.nm])=H6;intro s6 g6;refine fun da hda=>?_;have nlda:la≠da:=xg g6 hda;have s7:Same H6 (upd H6 da (.dT [])):=xr (Same.refl _) hda;have g7:upd H6 da (.dT []) da=some (.dT []):=xi;revert s7 g7;generalize upd H6 da (.dT [])=H7;intro s7 g7;have z7:=z5.same (s6.trans s7);have g67:=s7 _ _ g6;have NE:∀{c:Addr}{u:HO},H6 c=some u->c≠da:=fun {c u} e=>xg e hda;have ndr:da≠d_r:=Zw (NE (s6 _ _ z5.rn));have nd2:da≠d2:=by
   obtain⟨m0,hm0,_⟩:=z5.sg.ho;exact Zw (NE (s6 _ _ hm0))
  have nln7:xd1 H7 dl da (ns++[pt.nm]):=fun x hx qq ⟨kv,y1,y2⟩=>by
   obtain⟨kl5,hk5,_⟩:=z5.ln;have y3:=s7 _ _ (s6 _ _ hk5);rw[y1] at y3;cases y3;obtain⟨u,hu⟩:=lnin x hx qq ⟨kv,hk5,y2⟩;exact NE (s6 _ _ hu)
  have mt:=fit.mt;have dm:=fit.dm;have sn:so pt.nm=none:=by
   have:=dm pt.nm;rw[decide_eq_false nnm] at this;simpa using this
  have nsl:(ns++[pt.nm]).length<=12:=by rw[Zu,ZS]; omega
  have gw0:Grow (xab w' ps srt') ns pt.nm so ho [pt.nm] [] (fun _=>none) (setI own pt.nm 0) rent:=fit.grow lo nnm
  -- one step of asking
  have STEP:∀{crowd:List Str}{al:List Seat}{asked:Seat->Option Str}{o1:Str->Int}{r1:Seat->Int},Grow (xab w' ps srt') ns pt.nm so ho crowd al asked o1 r1->(∀ b∈crowd,b∈ns++[pt.nm])/\crowd.Nodup/\al.Nodup/\(∀ s∈al,s∈srt')/\(∀ s,(asked s).isSome=true↔s∈al)/\crowd.length<=12:=fun {crowd al asked o1 r1} gw=>by
   have c1:∀ b∈crowd,b∈ns++[pt.nm]:=fun b hb=>gw.bf.in_ mt dm hb;have c2:=gw.bf.nodup mt sn;refine⟨c1,c2,gw.bf.nd,fun s hs=>?_,gw.bf.ask,Z6 (xde c2 c1) nsl⟩;obtain⟨j,hj,ej⟩:=Z8 hs;obtain⟨_,_,_,_,_,e4⟩:=gw.bf.ak j s (by rw[Za hj,ej]);exact lo.ins _ _ e4
  obtain⟨c1,c2,c3,c4,c5,c6⟩:=STEP gw0;obtain⟨g0,b0,t0,nr0⟩:=gw0.nearest lo mt dm sn mt2 all2;have gp0:=gw0.gap lo mt dm nr0;obtain⟨dx7,hz7⟩:=z7.ins;refine⟨_,rfl,pz,dx7,_,rfl,hz7,xe5 (by decide +kernel),_,rfl,_,rfl,?_⟩;refine xfb ?_;refine xl9 (crowd:=[pt.nm]) (al:=[]) (asked:=fun _=>none) ⟨z7,g67,g7,c5,c1,c2,c3,c4,s32,nsl,ndr,lo.ins,nln7,nd2,nr0,(fun y=>nomatch y),fun H8 qs8 k8 hq8 z8 ak8=>?_⟩;have nlo:la≠d_o:=xp g67 z7.ow (fun z=>nomatch z);have nlr:la≠d_r:=xp g67 z7.rn (fun z=>nomatch z);obtain⟨kl7,hk7,_⟩:=z7.ln;have ndl:dl≠da:=xp hk7 g7 (fun z=>nomatch z);have ndla:dl≠la:=xp hk7 g67 (fun z=>nomatch z);have ndlr:dl≠d_r:=xp hk7 z7.rn (fun z=>nomatch z)
  -- the walk
  refine⟨fun m Z H9=>∃(crowd:List Str) (al:List Seat) (asked:Seat->Option Str) (o1:Str->Int) (r1:Seat->Int) (g:Int) (b:Str) (s:Seat) (qs:Addr),Z=[some (.ref pz),some (.str pt.nm),some (.ref la),some (.ref da),some (.ref qs)]/\(∀ c u,c≠d_o->c≠d_r->c≠da->c≠la->H7 c=some u->H9 c=some u)/\H9 qs=some (.tup (xau s))/\H9 la=some (.lst (crowd.map V.str))/\AkD H9 da (al++[s]) (Kp.upd1 asked s b)/\Pz t H9 pz a dl d_o d_r p d1 d2 n (ns++[pt.nm]) srt' (xab w' ps srt') so ho (shO o1 crowd g) (shR r1 asked g)/\Grow (xab w' ps srt') ns pt.nm so ho crowd al asked o1 r1/\Kp.Rch (xdb (xab w' ps srt') ho) (.go (setI own pt.nm 0) rent (fun _=>none) [pt.nm]) (.go o1 r1 asked crowd)/\near (xab w' ps srt') o1 r1 asked crowd=some (g,b,s)/\m=20-crowd.length,⟨_,[pt.nm],[],_,_,_,g0,b0,t0,qs8,rfl,fun c u n1 n2 n3 _ e=>k8 c u n1 n2 n3 e,hq8,k8 _ _ nlo nlr nlda g67,ak8,z8,gw0,.refl _,nr0,rfl⟩,?_⟩;rintro m Z H9 ⟨crowd,al,asked,o1,r1,g,b,s,qs,rfl,k9,hqs,hl9,ak9,z9,gw,rc,nr,rfl⟩;obtain⟨dx9,hz9⟩:=z9.ins;obtain⟨dx9p,hp9⟩:=z9.sg.ins;have dgH:=z9.sg.ho.get hqs;have gp:=gw.gap lo mt dm nr;have nal:s∉al:=fun y=>by
   have:=(gw.bf.ask s).mpr y;rw[gp.na] at this;cases this
  obtain⟨x1,x2,x3,x4,x5,x6⟩:=STEP gw;refine⟨_,rfl,_,rfl,pz,_,dx9,_,_,rfl,hz9,T.c_o,T.n_a5,lkZs,p,_,dx9p,_,_,rfl,hp9,T.c_z,T.n_a0,lkHo,d2,_,rfl,dgH,_,rfl,?_⟩;cases hs:ho s with
  | some x =>
   rw[hs] at dgH;have gw2:=gw.more mt sn gp hs;obtain⟨y1,y2,y3,y4,y5,y6⟩:=STEP gw2;obtain⟨g2',b2,t2,nr2⟩:=gw2.nearest lo mt dm sn mt2 all2;have gp2:=gw2.gap lo mt dm nr2;refine ifP rfl ⟨fun σ' H'=>∃ m',m'<20-crowd.length/\∃(crowd:List Str) (al:List Seat) (asked:Seat->Option Str) (o1:Str->Int) (r1:Seat->Int) (g:Int) (b:Str) (s:Seat) (qs:Addr),σ'=[some (.ref pz),some (.str pt.nm),some (.ref la),some (.ref da),some (.ref qs)]/\(∀ c u,c≠d_o->c≠d_r->c≠da->c≠la->H7 c=some u->H' c=some u)/\H' qs=some (.tup (xau s))/\H' la=some (.lst (crowd.map V.str))/\AkD H' da (al++[s]) (Kp.upd1 asked s b)/\Pz t H' pz a dl d_o d_r p d1 d2 n (ns++[pt.nm]) srt' (xab w' ps srt') so ho (shO o1 crowd g) (shR r1 asked g)/\Grow (xab w' ps srt') ns pt.nm so ho crowd al asked o1 r1/\Kp.Rch (xdb (xab w' ps srt') ho) (.go (setI own pt.nm 0) rent (fun _=>none) [pt.nm]) (.go o1 r1 asked crowd)/\near (xab w' ps srt') o1 r1 asked crowd=some (g,b,s)/\m'=20-crowd.length,fun σ' H' y=>y,?_⟩;refine⟨_,rfl,.inl ⟨rfl,_,SqL.of hl9⟩,_,rfl,pz,_,dx9,_,_,rfl,hz9,T.c_o,T.n_a5,lkZs,p,_,dx9p,_,_,rfl,hp9,T.c_z,T.n_a0,lkHo,_,rfl,d2,.str x,rfl,dgH,la,_,_,rfl,rfl,hl9,(by rw[Zc]; exact BIG (by omega)),?_⟩;have k10:∀ c u,c≠la->H9 c=some u->upd H9 la (.lst (crowd.map V.str++[.str x])) c=some u:=fun c u nc e=>by rw[xh nc]; exact e
   have g10:upd H9 la (.lst (crowd.map V.str++[.str x])) la=some (.lst ((crowd++[x]).map V.str)):=by rw[xi,ZC]; rfl
   have z10:=z9.keepL hl9 k10;have ak9':H9 da=some (.dT ((al++[s]).map fun z=>(xt z,V.str ((Kp.upd1 asked s b z).getD (Zn ""))))):=ak9;have ak10:AkD (upd H9 la (.lst (crowd.map V.str++[.str x]))) da (al++[s]) (Kp.upd1 asked s b):=k10 _ _ (Zw nlda) ak9;revert k10 g10 z10 ak10;generalize upd H9 la (.lst (crowd.map V.str++[.str x]))=H10;intro k10 g10 z10 ak10;obtain⟨dx10,hz10⟩:=z10.ins;have nln10:xd1 H10 dl da (ns++[pt.nm]):=nln7.keep z7 (fun u e=>k10 _ _ ndla (k9 _ _ (Zw z.n3) ndlr ndl ndla e));refine⟨_,rfl,pz,dx10,_,rfl,hz10,xe5 (by decide +kernel),_,rfl,_,rfl,?_⟩;refine xfb ?_;refine xl9 (crowd:=crowd++[x]) (al:=al++[s]) ⟨z10,g10,ak10,y5,y1,y2,y3,y4,s32,nsl,ndr,lo.ins,nln10,nd2,nr2,(fun y=>by
    have:=(gw2.bf.ask t2).mpr y;rw[gp2.na] at this;cases this),fun H11 qs11 k11 hq11 z11 ak11=>?_⟩
   refine⟨20-(crowd++[x]).length,by rw[Zu,ZS]; omega,crowd++[x],al++[s],_,_,_,g2',b2,t2,qs11,rfl,fun c u n1 n2 n3 n4 e=>k11 _ _ n1 n2 n3 (k10 _ _ n4 (k9 _ _ n1 n2 n3 n4 e)),hq11,k11 _ _ nlo nlr nlda g10,ak11,z11,gw2,.step rc (a_go nr hs),nr2,rfl⟩
  | none =>
   rw[hs] at dgH;refine ifN rfl ?_;have ask2:∀ s',(Kp.upd1 asked s b s').isSome=true↔s'∈al++[s]:=fun s'=>by
    unfold Kp.upd1;by_cases c:s'=s
    .rw [if_pos c];exact⟨fun _=>Z2 _ (Zt.mpr c),fun _=>rfl⟩
    .rw [if_neg c,gw.bf.ask s',ZB];exact⟨.inl,fun y=>y.elim id fun y=>absurd (Zt.mp y) c⟩
   obtain⟨i,hi,ei⟩:=Z8 gp.ac;have ea:crowd[i]?=some b:=by rw[Za hi,ei]
   have chn:=gw.bf.chain mt sn (by omega) ea gp.rm nal;refine⟨_,rfl,pz,_,dx9,_,_,rfl,hz9,T.c_o,T.n_a5,lkZs,p,dx9p,_,rfl,hp9,xjc (by decide +kernel),_,rfl,_,rfl,p,d1,d2,da,qs,n,(al++[s]).length,xaf (xab w' ps srt'),so,ho,Kp.upd1 asked s b,fun zz=>crowd.idxOf zz,pt.nm,b,s,rfl,hqs,z9.sg,ak9.hod ask2,nd2,by omega,mt,hs,(by unfold Kp.upd1; rw[if_pos rfl]),chn,fun H12 so' ho' kb fr12 sg' mt' dm' rk=>?_⟩;refine q H12 _ _ so' ho' _ s (fun c u n1 n2 n3 n4 n5 e=>?_) (z9.hand kb sg') (.step rc (xtv nr hs)) rk (gw.last lo mt sn dm x6 gp hs mt' dm' rk);have e5:=fr5 _ _ n1 n2 e;have e6:=s6 _ _ e5;exact kb _ _ n4 n5 (k9 _ _ n2 n3 (NE e6) (xg e5 hla) (s7 _ _ e6))
theorem xmz {H:Hp}{ps:List Pt}{so:Str->Option Seat}:∀{names:List Str}{ys:List V},ys.length=names.length->(∀(i:Nat) (y:V),ys[i]?=some y->∃ q s pt,names[i]?=some pt.nm/\pt∈ps/\so pt.nm=some s/\y=.ref q/\H q=some (.tup (prV (pt,s))))->∃(prs:List Pr) (qs:List Addr),ys=qs.map V.ref/\PrsL H prs qs/\prs.map (·.1.nm)=names/\∀ p∈prs,p.1∈ps/\so p.1.nm=some p.2
 | [],[],_,_=>⟨[],[],rfl,.nil,rfl,fun _ h=>(nomatch h)⟩
 | [],_::_,h,_=>by cases h
 | _::_,[],h,_=>by cases h
 | nm::names,y::ys,h,f=>by
  obtain⟨q,s,pt,h1,h2,h3,rfl,h4⟩:=f 0 y rfl;obtain⟨prs,qs,e1,e2,e3,e4⟩:=xmz (names:=names) (ys:=ys) (by simpa using h) (fun i y hy=>by
   obtain⟨q,s,pt,a1,a2,a3,a4,a5⟩:=f (i+1) y (by simpa using hy);exact⟨q,s,pt,by simpa using a1,a2,a3,a4,a5⟩)
  have h1:nm=pt.nm:=by simpa using h1
  refine⟨(pt,s)::prs,q::qs,by rw[e1]; rfl,.cons h4 e2,by rw[Zx,e3,h1],fun p hp=>?_⟩;rcases Zz.mp hp with rfl|hp
  .exact ⟨h2,h3⟩
  .exact e4 p hp
def Rsd (t:Adr) (H H':Hp) (e dx l:Addr) (ns:List Str):Prop:=Same H H'/\H' e=some (XO e t.C_ac (some dx))/\H' dx=some (XD dx [("holders",.ref l)])/\H l=none/\H' l=some (.lst (ns.map V.str))
inductive xoc (t:Adr) (vs:List V) (H:Hp) (Q:VK) (_:XK):Prop
 | mk (e p:Addr) (xs:List V) (e_:vs=[.ref e,.ref p]) (r_:H e=some (XN e t.C_ac none)/\H p=some (.lst xs)/\∀ l dx H',H l=none->H dx=none->(∀ c u,c≠e->H c=some u->H' c=some u)->H' e=some (XN e t.C_ac (some dx))->H' dx=some (XD dx [("holders",.ref l)])->H' l=some (.lst xs)->Q .non H')
inductive xox (t:Adr) (vs:List V) (H:Hp) (Q:VK) (E:XK):Prop
 | mk (a ln dp do_:Addr) (w h:Nat) (ps:List Pt) (st srt:List Seat) (names:List Str) (e_:vs=[.ref a,.ref ln]) (r_:Dr t H a dp do_ w h ps st srt/\xda (w:Int) (h:Int) ps/\H ln=some (.lst (names.map V.str))/\(∀ nm∈names,∃ p∈ps,p.nm=nm)/\names.Nodup/\names.length<=12/\(∀ so ho c r,Run (xaw ps srt) names so ho (c::r)->∀ e dx l H',Rsd t H H' e dx l (c.1::c.2)->E e t.C_ac H')/\∀ H' tp lp d_o d_r qs prs own rent so' ho' so0 ho0,Run (xaw ps srt) names so0 ho0 []->Same H H'->H' tp=some (.tup [.ref lp,.ref d_o,.ref d_r])->H' lp=some (.lst (qs.map V.ref))->PrsL H' prs qs->prs.map (·.1.nm)=names->(∀ p∈prs,p.1∈ps/\so' p.1.nm=some p.2)->OwD H' d_o names own->RnD H' d_r srt rent->LRun (xab w ps srt) names own rent so' ho'->H lp=none->H d_o=none->H d_r=none->H tp=none->Q (.ref tp) H')
theorem ok_aj (T:Txt w K mg t):FnOk true P w K mg base (CXo P w) 1 t.f_aj t.d_aj ["self", "holders"] (xoc t):=by
 refine T.F_aj.okn (k:=0) sc_aj (fun vs H Q E h=>?_) (fun cdv A outer s H vs Q E hr h=>?_)
 .obtain ⟨e,p,xs,rfl,_⟩:=h;rfl
 .obtain ⟨e,p,xs,rfl,h⟩:=h;refine⟨_,xj (xz (i:=2) sc_aj.nd rfl (Zq rfl) (xby xe7 rfl T.n_list boot_list (xf (pv 1) (xk))))
   (xj (xak (xnu ⟨T.xga_ay,T.xrd_ay,T.xfi_ay⟩ rfl T.g_ay (xf (pv 0) (xf (pv 2) (xk)))))
   (xm (xqr (pv 0) (pv 2) rfl))),?_⟩
  obtain⟨he,hp,q⟩:=h;refine⟨_,rfl,p,xs,rfl,.inl (SqL.of hp),fun l hl=>?_⟩;have s1:Same H (upd H l (.lst xs)):=xr (Same.refl _) hl;have g1:upd H l (.lst xs) l=some (.lst xs):=xi;revert s1 g1;generalize upd H l (.lst xs)=H1;intro s1 g1;refine⟨_,rfl,_,rfl,e,t.C_ac,.ref l,rfl,s1 _ _ he,T.mk_ac,?_⟩;refine⟨_,rfl,_,rfl,e,t.C_ac,rfl,T.x_ac,T.n_bb,.inl ⟨s1 _ _ he,fun dx hdx=>?_⟩⟩;have nde:dx≠e:=Zw (xg (s1 _ _ he) hdx);have nle:l≠e:=Zw (xg he hl);refine q l dx _ hl (s1.free hdx) (fun c u nc z=>?_) xi ?_ ?_
  .rw [xh nc,xh (xg (s1 _ _ z) hdx)];exact s1 _ _ z
  .rw [xh nde,xi]
  .rw [xh nle,xh (xg g1 hdx)];exact g1
theorem xnh (T:Txt w K mg t):FnOk true P w K mg base (CXo P w) 9 t.f_least t.d_least ["picture", "names"] (xox t):=by
 refine T.F_least.okx (k:=8) xeo (fun vs H Q E h=>?_) (fun cdv A outer s H vs Q E hr h=>?_)
 .obtain ⟨a,ln,dp,do_,w',h',ps,st,srt,names,rfl,_⟩:=h;rfl
 .obtain ⟨a,ln,dp,do_,w',h',ps,st,srt,names,rfl,h⟩:=h;refine⟨_,xj (xz (i:=2) xeo.nd rfl (Zq rfl) (x8 (xri T) (hmm hr) rfl T.g_fits T.F_fits.kp T.b_fits .nil xd9.pass (xf (pv 0) (xf (pv 1) (xk)))))
   (xj (xaj (xac xfj (pv 2) (xb6) (xag _)) (xm (xoa (hr.hd rfl) xd9 (xo6 T.k_ac (ok_aj T) (hmm hr) rfl T.g_ac T.b_aj .nil (xf (pv 2) (xk))))) (x9))
   (xj (xz (i:=3) xeo.nd rfl (JD rfl) (xeg T.k_o (ok_ak T) (hmm hr) rfl T.g_o T.b_ak .nil xd9.pass (xf (pv 0) (xk))))
   (xj (xa0 PassesOwn.leaving rfl (xas (pv 1)) (xq (i:=4) xeo.nd rfl (Zq rfl)) (xm (xak (xan (pv 3) T.c_o T.m_x (ok_x T) (hmm hr) T.b_x .nil xd9.pass (xf (pv 4) (xk))))))
   (xj (xdv rfl (xbp (zs:=["name"]) (ys:=["prices"]) (fr:=[3]) (N0:=["picture", "names", "crowd", "prices", "name", "pairs"]) (sc0:=xo xfe) (by decide +kernel) rfl rfl rfl) (xas (pv 1)) (fun _ _ _ _ _ ow nd=>xq (i:=0) nd rfl (Zq (ow _ (by simp))) (JD (ow _ (by simp)))) (xcq (by decide)) (fun _ _ _ _ _=>xci) (fun _ _ _ _ _=>xw (r:=xk9 K) xkl (xaq (xf (pv 0) (xk))) (xa9 (xam hr) ((xae ((xae (pv 1) rfl:PE _ _ (tFld K _ _))) rfl:PE _ _ (tFld K _ _))) (pv 0) (fun _ _=>rfl))) (j:=5) rfl (Zq rfl))
   (xm (xad (xaq (xf (pv 5) (xf (xae (pv 3) rfl) (xf (xae (pv 3) rfl) (xk))))))))))),?_⟩
  obtain⟨dr,pok,hln,nps,nnd,n12,hE,q⟩:=h;have snd:srt.Nodup:=dr.pm.nodup_iff.mpr dr.ok.1;have hr:∀ n s,s∈xaw ps srt n->s∈srt:=fun n s hs=>by
   unfold xaw at hs;split at hs
   .exact (ZR.mp hs).1
   .exact nomatch hs
  refine⟨_,rfl,_,rfl,a,ln,dp,do_,w',h',ps,st,srt,names,rfl,dr,hln,nps,nnd,n12,fun H1 v cs so ho s1 run alt=>?_⟩;cases cs with
  | cons c r =>
   obtain⟨l,rfl,fl,el⟩:∃ l,v=.ref l/\H l=none/\H1 l=some (.lst ((c.1::c.2).map V.str)):=by
    rcases alt with⟨z,_⟩|⟨l,c',r',e,ev,fl,el⟩
    .cases z
    .cases e;exact⟨l,ev,fl,el⟩
   refine⟨_,rfl,rfl,_,rfl,ifP (by rw[decide_eq_false (fun z=>nomatch z)]; rfl) ?_⟩;refine⟨_,rfl,(by show 1<=1000; decide),fun e he=>?_⟩;refine⟨e,l,_,rfl,xi,(by rw[xh (xg el he)]; exact el),fun l2 dx H2 fl2 fdx k2 e2 d2 hl2=>⟨rfl,e,t.C_ac,some dx,rfl,e2,T.mk_ac,hE so ho c r run e dx l2 _ ?_⟩⟩;have nde:dx≠e:=fun z=>by rw[z,xi] at fdx; cases fdx
   have nle:l2≠e:=fun z=>by rw[z,xi] at fl2; cases fl2
   refine⟨fun b u z=>?_,xi,by rw[xh nde]; exact d2,?_,by rw[xh nle]; exact hl2⟩
   .have z1:=s1 _ _ z;have nb:=xg z1 he;rw[xh nb];exact k2 _ _ nb (by rw[xh nb]; exact z1)
   .rw [xh nle] at fl2;exact s1.free fl2
  | nil =>
  obtain rfl:v=.non:=by
   rcases alt with⟨_,e⟩|⟨_,_,_,e,_⟩
   .exact e
   .cases e
  have run0:=run;obtain⟨so2,ho2,mt2,all2⟩:∃ so2 ho2,Kp.Mt (xaw ps srt) so2 ho2/\∀ z∈names,(so2 z).isSome=true:=⟨so,ho,run.mt,fun z hz=>by
   rw[run.dom nnd,decide_eq_true hz];rfl⟩
  refine⟨_,rfl,rfl,_,rfl,ifN (by decide) ?_⟩;refine⟨_,rfl,fun pz dx hpz hdx ne=>?_⟩;have s2:Same H1 (upd (upd H1 dx (.own pz)) pz (.ins t.C_o dx [])):=fun b u e=>by
   rw[xh (xg e hpz),xh (xg e hdx)];exact e
  have s02:=s1.trans s2;refine⟨pz,dx,a,dp,do_,w',h',ps,st,srt,xab w' ps srt,rfl,xi,dr.same s02,fun H2 dl d_o d_r p d1 d2 f1 f2 f3 f4 f5 f6 k2 z2=>⟨rfl,?_⟩⟩;have s12:Same H1 H2:=fun b u e=>k2 _ _ (xg e hpz) (s2 _ _ e);have sH2:Same H H2:=s1.trans s12;have g1:=s02.free f1;have g2:=s02.free f2;have g3:=s02.free f3;have g5:=s02.free f5;have g6:=s02.free f6;have hln2:=sH2 _ _ hln;refine⟨_,rfl,ln,rfl,⟨_,SqL.of hln2⟩,?_⟩;refine xa7 (xs:=names.map V.str) (Pv:=fun i Z H3=>∃(v4 v5:Option V) (so:Str->Option Seat) (ho:Seat->Option Str) (own:Str->Int) (rent:Seat->Int),Z=[some (.ref a),some (.ref ln),some .non,some (.ref pz),v4,v5]/\Same H H3/\Pz t H3 pz a dl d_o d_r p d1 d2 (30*i) (names.take i) srt (xab w' ps srt) so ho own rent/\LRun (xab w' ps srt) (names.take i) own rent so ho) ?_ ?_ ?_ ?_
  .exact ⟨_,_,_,_,_,_,rfl,sH2,z2,.nil⟩
  .rintro i Z H3 _ ⟨_,_,_,_,_,_,rfl,s3,_⟩;exact SqL.of (s3 _ _ hln)
  .rintro i x Z H3 hx ⟨v4,v5,so3,ho3,own,rent,rfl,s3,z3,r3⟩;rw[Zf,Zj] at hx;obtain⟨nm,hnm,rfl⟩:=hx;obtain⟨hi,ei⟩:=Zh.mp hnm;have nin:nm∉names.take i:=fun y=>by
    have:=xcw id (ps:=names) (by rw[YA]; exact nnd) hi nm y;exact this ei.symm
   have tk:names.take (i+1)=names.take i++[nm]:=by
    rw[ZP,hnm];rfl
   obtain⟨dx3,hz3⟩:=z3.ins;refine⟨_,rfl,pz,dx3,_,rfl,hz3,xe5 (by decide +kernel),_,rfl,?_⟩;refine xfb ?_;refine xpa ⟨z3,dr.same s3,pok,by omega,by rw[JA]; omega,nps nm (Zl hnm),nin,r3.fit,⟨so2,ho2,by rw[xen]; exact mt2,fun zz hzz=>all2 zz (by rw[<- tk] at hzz; exact List.mem_of_mem_take hzz)⟩,fun H4 own' rent' so' ho' asked s k4 z4 ra rk fit=>?_⟩;refine⟨_,_,so',ho',own',rent',rfl,fun b u e=>k4 _ _ (xg e g1) (xg e g2) (xg e g3) (xg e g5) (xg e g6) (s3 _ _ e),?_,?_⟩
   .rw [tk,Nat.mul_succ];exact z4
   .rw [tk];exact .snoc r3 ra rk fit
  .rintro Z H3 ⟨v4,v5,so3,ho3,own,rent,rfl,s3,z3,r3⟩;rw[Zc,J9] at z3 r3;have hln3:=s3 _ _ hln;obtain⟨dx3,hz3⟩:=z3.ins;obtain⟨dx3p,hp3⟩:=z3.sg.ins;have fit:=r3.fit;refine⟨_,rfl,ln,rfl,⟨_,SqL.of hln3⟩,fun l4 hl4=>?_⟩;refine xcu (SqL.of hln3) (by rw[Zc]; exact ZG (by omega:_<=1000) (by decide)) hl4 (fun i y H=>∃(q:Addr) (s:Seat) (pt:Pt),names[i]?=some pt.nm/\pt∈ps/\so3 pt.nm=some s/\y=.ref q/\H q=some (.tup (prV (pt,s)))) (fun _ _ _ _ tp ⟨q,s,pt,x1,x2,x3,x4,x5⟩=>⟨q,s,pt,x1,x2,x3,x4,tp _ _ x5⟩) (fun i x H4 hx s4 N hN=>?_) (fun ys H4 s4 e4 ly fy=>?_)
   .rw [Zf,Zj] at hx;obtain⟨nm,hnm,rfl⟩:=hx;obtain⟨pt,ptin,rfl⟩:=nps nm (Zl hnm);have sm:(so3 pt.nm).isSome=true:=by rw[fit.dm,decide_eq_true (Zl hnm)]
    rcases (z3.sg.same s4).so.get pt.nm with⟨e0,_⟩|⟨c,qq,ec,dg,hqq⟩
    .rw [e0] at sm;cases sm
    refine⟨_,rfl,(by show 1<=sizeLine; decide),fun p1 h1=>?_⟩;have s5:Same H4 (upd H4 p1 (.tup [.str pt.nm])):=xr (Same.refl _) h1;have g5:upd H4 p1 (.tup [.str pt.nm]) p1=some (.tup [.str pt.nm]):=xi;revert s5 g5;generalize upd H4 p1 (.tup [.str pt.nm])=H5;intro s5 g5;have dg5:DGet H5 d1 (.str pt.nm) (some (.ref qq)):=by
     obtain⟨kk,hk,_,fk⟩:=(z3.sg.same s4).so;obtain⟨q',a1,a2⟩:=(fk pt.nm).2 c ec;have g:=DGet.k (k:=.inr pt.nm) (s5 _ _ hk);have g':=DGet.k (k:=.inr pt.nm) hk;rcases dg with⟨kv,k,r1,r2,r3⟩|⟨kv,k,b,_,r2,_⟩
     .have e1:k=.inr pt.nm:=by
       cases k with
       | inl i=>cases r2
       | inr x=>exact congrArg Jt (V.str.inj r2).symm
      subst e1;rcases r1 with r1|⟨_,r1⟩
      .rw [hk] at r1;cases r1;rw[r3];exact g
      .rw [hk] at r1;cases r1
     .cases r2
    refine⟨_,rfl,pz,_,dx3,_,_,rfl,s5 _ _ (s4 _ _ hz3),T.c_o,T.n_a5,lkZs,p,_,dx3p,_,_,rfl,s5 _ _ (s4 _ _ hp3),T.c_z,T.n_a3,lkSo,_,rfl,d1,.ref qq,rfl,dg5,p1,qq,_,_,rfl,rfl,SqT.of g5,SqT.of (s5 _ _ hqq),(by simp),(by show 1+2<=sizeLine; decide),(fun z=>nomatch z),fun _ p2 h2=>?_⟩;exact hN _ _ (s5.trans (xr (Same.refl _) h2)) ⟨p2,c,pt,hnm,ptin,ec,rfl,xi⟩
   rw[Zc] at ly;obtain⟨prs,qs,rfl,pl,en,al⟩:=xmz ly fy;have z4:=z3.same s4;obtain⟨dx4,hz4⟩:=z4.ins;refine⟨_,rfl,_,rfl,pz,_,dx4,_,_,rfl,hz4,T.c_o,T.n_a9,lkZo,_,rfl,pz,_,dx4,_,_,rfl,hz4,T.c_o,T.n_ba,lkZr,(by show 3<=sizeLine; decide),fun tp htp=>?_⟩;have s5:Same H4 (upd H4 tp (.tup [.ref l4,.ref d_o,.ref d_r])):=xr (Same.refl _) htp;have g5:upd H4 tp (.tup [.ref l4,.ref d_o,.ref d_r]) tp=some (.tup [.ref l4,.ref d_o,.ref d_r]):=xi;revert s5 g5;generalize upd H4 tp (.tup [.ref l4,.ref d_o,.ref d_r])=H5;intro s5 g5;exact q H5 tp l4 d_o d_r qs prs own rent so3 ho3 so ho run0 ((s3.trans s4).trans s5) g5 (s5 _ _ e4) (pl.keep (Same.tups s5)) en al (s5 _ _ z4.ow) (s5 _ _ z4.rn) r3 (s3.free hl4) g2 g3 ((s3.trans s4).free htp)
theorem xl4 {a b c:Seat} (h:xbk a b) (k:xbk b c):xbk a c:=by
 unfold xbk at *;rcases h with⟨h1,h2⟩|⟨h1,h2⟩<;>rcases k with⟨k1,k2⟩|⟨k1,k2⟩
 .exact .inl ⟨h1,k2⟩
 .exact .inl ⟨h1,by rw[<- k1]; exact h2⟩
 .exact .inl ⟨by rw[h1]; exact k1,k2⟩
 .exact .inr ⟨h1.trans k1,by omega⟩
theorem xlc {a b:Seat} (h:a≠b):xbk a b\/xbk b a:=by
 obtain⟨a1,a2⟩:=a;obtain⟨b1,b2⟩:=b;unfold xbk;cases a1<;>cases b1
 .have:a2≠b2:=fun e=>h (by rw[e]);rcases Int.lt_or_gt_of_ne this with z|z
  .exact .inl (.inr ⟨rfl,z⟩)
  .exact .inr (.inr ⟨rfl,z⟩)
 .exact .inr (.inl ⟨rfl,rfl⟩)
 .exact .inl (.inl ⟨rfl,rfl⟩)
 .have:a2≠b2:=fun e=>h (by rw[e]);rcases Int.lt_or_gt_of_ne this with z|z
  .exact .inl (.inr ⟨rfl,z⟩)
  .exact .inr (.inr ⟨rfl,z⟩)
theorem xgg:∀{ss:List Seat}{x:Seat},ss.Pairwise xbk->x∉ss->∃ srt:List Seat,srt.Perm (x::ss)/\srt.Pairwise xbk
 | [],x,_,_=>⟨[x],Q1.refl _,List.pairwise_singleton _ _⟩
 | y::r,x,h,nx=>by
  rw[JL] at h;rw[Zz,not_or] at nx;by_cases c:xbk x y
  .refine ⟨x::y::r,Q1.refl _,JL.mpr ⟨fun z hz=>?_,JL.mpr h⟩⟩;rcases Zz.mp hz with rfl|hz
   .exact c
   .exact xl4 c (h.1 z hz)
  .obtain ⟨srt,pm,lt⟩:=xgg h.2 nx.2;refine⟨y::srt,(pm.cons y).trans (Q1.swap _ _ _),JL.mpr ⟨fun z hz=>?_,lt⟩⟩;rcases Zz.mp (pm.mem_iff.mp hz) with rfl|hz
   .exact (xlc nx.1).resolve_left c
   .exact h.1 z hz
theorem xhj:∀{st:List Seat},st.Nodup->∃ srt:List Seat,srt.Perm st/\srt.Pairwise xbk
 | [],_=>⟨[],.refl _,.nil⟩
 | x::r,h=>by
  obtain⟨h1,h2⟩:=ZQ.mp h;obtain⟨s1,p1,l1⟩:=xhj h2;obtain⟨s2,p2,l2⟩:=xgg l1 (fun z=>h1 (p1.mem_iff.mp z));exact⟨s2,p2.trans (Q1.cons _ p1),l2⟩
theorem xq1 {c s:Int} (h:s∈xdn) {n:Nat} (hn:n<=12):((ZI n).map fun (k:Nat)=>ltr ((c+s*(k:Int)) % 26)).Nodup:=by
 rw[List.nodup_iff_pairwise_ne,Yd];refine YJ.imp_of_mem (fun {i j} hi hj hij e=>?_) (List.pairwise_lt_range (n:=n));rw[Q6] at hi hj;have e':=xqe (xa2 _ (by decide)).1 (xa2 _ (by decide)).1 e;have hj':j<12:=by omega
 obtain⟨d,rfl⟩:∃ d,j=i+d:=⟨j-i,by omega⟩
 have hd:0<d/\d<12:=by omega
 have hs:∀ z∈xdn,z=1\/z=3\/z=5\/z=7\/z=9\/z=11\/z=15\/z=17\/z=19\/z=21\/z=23\/z=25:=by decide
 rw[Int.natCast_add,Int.mul_add] at e';rcases hs s h with rfl|rfl|rfl|rfl|rfl|rfl|rfl|rfl|rfl|rfl|rfl|rfl<;>omega
theorem xrr (k:Bool):∃ x:Int,atI [V.int 6,V.int 12] (if k=true then 1 else 0)=some (.int x)/\1<=x/\x<=12:=by
 cases k
 .exact ⟨6,rfl,by decide,by decide⟩
 .exact ⟨12,rfl,by decide,by decide⟩
theorem xr3 (m:Int):∃ x:Str,atI [V.str "left",V.str "both",V.str "right",V.str "both"] (m % 4)=some (.str x)/\(x="left"\/x="right"\/x="both"):=by
 obtain⟨h0,h1⟩:=xa2 m (show (0:Int)<4 by decide);have:m % 4=0\/m % 4=1\/m % 4=2\/m % 4=3:=by omega
 rcases this with e|e|e|e<;>rw[e]
 .exact ⟨"left",rfl,.inl rfl⟩
 .exact ⟨"both",rfl,.inr (.inr rfl)⟩
 .exact ⟨"right",rfl,.inr (.inl rfl)⟩
 .exact ⟨"both",rfl,.inr (.inr rfl)⟩
inductive xp2 (K:Zd) (t:Adr) (vs:List V) (H:Hp) (Q:VK) (_:XK):Prop
 | mk (sc:Addr) (ns:List Int) (e_:vs=[.ref sc]) (r_:SqL K H sc (ns.map V.int)/\∀(H':Hp) (a dp do_:Addr) (w h:Nat) (ps:List Pt) (st ss:List Seat),Same H H'->Dr t H' a dp do_ w h ps st ss->xda (w:Int) (h:Int) ps->Q (.ref a) H')
theorem ok_u (T:Txt w K mg t):FnOk true P w K mg base (CXo P w) 6 t.f_u t.d_u ["_law_script"] (xp2 K t):=by
 refine T.F_u.okn (k:=5) sc_u (fun vs H Q E h=>?_) (fun cdv A outer s H vs Q E hr h=>?_)
 .obtain ⟨sc,ns,rfl,_⟩:=h;rfl
 .obtain ⟨sc,ns,rfl,h⟩:=h;refine⟨_,xj (xdg (x8 (ok_aw T) (hmm hr) rfl T.g_aw T.F_aw.kp T.b_aw .nil xl (xf (x8 (ok_r T) (hmm hr) rfl T.g_r T.F_r.kp T.b_r .nil xl (xf (pv 0) (xf (xn) (xk)))) (xk))) (xbb rfl (xu (xq (i:=1) sc_u.nd rfl (Zq rfl)) (xu (xq (i:=2) sc_u.nd rfl (Zq rfl)) (xay)))))
   (xj (xz (i:=3) sc_u.nd rfl (Zq rfl) (xah (xnc rfl) rfl T.n_min boot_min (xf (xbc xbx (xcf (xf (xn) (xf (xn) (xk)))) (xby xhw rfl T.n_int boot_int (xf (xb8 xcj (xw xa5 (x8 (ok_r T) (hmm hr) rfl T.g_r T.F_r.kp T.b_r .nil xl (xf (pv 0) (xf (xn) (xk)))) (xn)) (xn) (xag _)) (xk))) (fun _ _=>rfl)) (xf (pv 1) (xf (pv 2) (xk))))))
   (xj (xz (i:=4) sc_u.nd rfl (Zq rfl) (xw xa4 (xn) (xw xa5 (xw xb7 (x8 (ok_r T) (hmm hr) rfl T.g_r T.F_r.kp T.b_r .nil xl (xf (pv 0) (xf (xn) (xk)))) (xn)) (pv 3))))
   (xj (xz (i:=5) sc_u.nd rfl (Zq rfl) (x8 (ok_aq T) (hmm hr) rfl T.g_aq T.F_aq.kp T.b_aq .nil xl (xf (x8 (ok_r T) (hmm hr) rfl T.g_r T.F_r.kp T.b_r .nil xl (xf (pv 0) (xf (xn) (xk)))) (xf (pv 4) (xk)))))
   (xj (xz (i:=6) sc_u.nd rfl (Zq rfl) (x8 (ok_al T) (hmm hr) rfl T.g_al T.F_al.kp T.b_al .nil xl (xf (x8 (ok_r T) (hmm hr) rfl T.g_r T.F_r.kp T.b_r .nil xl (xf (pv 0) (xf (xn) (xk)))) (xf (pv 1) (xf (pv 4) (xk))))))
   (xj (xz (i:=7) sc_u.nd rfl (Zq rfl) (x8 (ok_al T) (hmm hr) rfl T.g_al T.F_al.kp T.b_al .nil xl (xf (xw xb7 (x8 (ok_r T) (hmm hr) rfl T.g_r T.F_r.kp T.b_r .nil xl (xf (pv 0) (xf (xn) (xk)))) (xn)) (xf (pv 2) (xf (pv 4) (xk))))))
   (xj (xz (i:=8) sc_u.nd rfl (Zq rfl) (xeg T.k_b (ok_af T) (hmm hr) rfl T.g_b T.b_af .nil xl (xf (pv 1) (xf (pv 2) (xk)))))
   (xj (xa0 ZA rfl (xdz rfl T.n_range (xf (pv 4) (xk))) (xq (i:=9) sc_u.nd rfl (Zq rfl)) (xj (xz (i:=10) sc_u.nd rfl (Zq rfl) (x8 (ok_as T) (hmm hr) rfl T.g_as T.F_as.kp T.b_as .nil xl (xf (x8 (ok_r T) (hmm hr) rfl T.g_r T.F_r.kp T.b_r .nil xl (xf (pv 0) (xf (xn) (xk)))) (xf (pv 9) (xk)))))
   (xj (xz (i:=11) sc_u.nd rfl (Zq rfl) (xw xa4 (xn) (xw xa5 (xw xb7 (pv 10) (xn)) (pv 2))))
   (xj (xz (i:=12) sc_u.nd rfl (Zq rfl) (xw xa4 (pv 11) (xw xa5 (xw xb7 (pv 10) (xn)) (xw xds (xw xa4 (pv 2) (xn)) (pv 11)))))
   (xj (xce (xaj (xac xcj (xw xa5 (pv 10) (xn)) (xn) (xag _)) (xj (xz (i:=11) sc_u.nd rfl (Zq rfl) (xn))
   (xm (xz (i:=12) sc_u.nd rfl (Zq rfl) (pv 2)))) (x9)))
   (xm (xak (xan (pv 8) T.c_b T.m_a (ok_a T) (hmm hr) T.b_a .nil xl (xbr (xbc xbx (pv 5) (pv 9) (fun _ _=>rfl)) (xbr (xbc xbx (pv 6) (pv 9) (fun _ _=>rfl)) (xbr (xbc xbx (pv 7) (pv 9) (fun _ _=>rfl)) (xbr (xbc xbx (xcf (xf (xa6) (xf (xa6) (xf (xa6) (xf (xa6) (xk)))))) (xw xa5 (xw xb7 (pv 10) (xn)) (xn)) (fun _ _=>rfl)) (xbr (pv 11) (xbr (pv 12) (xk) rfl) rfl) rfl) rfl) rfl) rfl)))))))))
   (xj (xz (i:=13) sc_u.nd rfl (Zq rfl) (xw xa4 (xn) (xw xa5 (x8 (ok_r T) (hmm hr) rfl T.g_r T.F_r.kp T.b_r .nil xl (xf (pv 0) (xf (xn) (xk)))) (xn))))
   (xj (xa0 ZA rfl (xnq rfl T.n_range (xf (xn) (xf (xw xa4 (pv 2) (xn)) (xk)))) (xq (i:=14) sc_u.nd rfl (Zq rfl)) (xm (xa0 ZA rfl (xas (xcf (xf (xa6) (xf (xa6) (xk))))) (xq (i:=15) sc_u.nd rfl (Zq rfl)) (xj (xz (i:=16) sc_u.nd rfl (Zq rfl) (xw xa4 (xw xdf (xn) (pv 14)) (xby xhw rfl T.n_int boot_int (xf (xb8 xcj (pv 15) (xa6) (xag _)) (xk)))))
   (xj (xz (i:=17) sc_u.nd rfl (Zq rfl) (xb8 xev (xw xa5 (x8 (ok_as T) (hmm hr) rfl T.g_as T.F_as.kp T.b_as .nil xl (xf (x8 (ok_r T) (hmm hr) rfl T.g_r T.F_r.kp T.b_r .nil xl (xf (pv 0) (xf (xn) (xk)))) (xf (pv 16) (xk)))) (xn)) (pv 13) (xag _)))
   (xj (xce (xaj (xac xcj (xw xa5 (x8 (ok_r T) (hmm hr) rfl T.g_r T.F_r.kp T.b_r .nil xl (xf (pv 0) (xf (xn) (xk)))) (xn)) (xn) (xag _)) (xm (xz (i:=17) sc_u.nd rfl (Zq rfl) (xb8 xcj (xw xs2 (xw xsg (x8 (ok_r T) (hmm hr) rfl T.g_r T.F_r.kp T.b_r .nil xl (xf (pv 0) (xf (xn) (xk)))) (pv 16)) (xn)) (xn) (xag _)))) (x9)))
   (xm (xce (xaj (xa3 (pv 17)) (xm (xak (xan (pv 8) T.c_b T.m_h (ok_h T) (hmm hr) T.b_h .nil xl (xf (pv 15) (xf (pv 14) (xk)))))) (x9))))))))))
   (xm (xad (pv 8)))))))))))),?_⟩
  obtain⟨hs,q⟩:=h;refine⟨_,rfl,sc,ns,0,rfl,hs,by decide,by decide,fun c0=>⟨c0,rfl,fun w ph H1 p1 w1 w2 h1 h2 s1 hp1=>⟨p1,_,rfl,SqT.of hp1,rfl,_,_,rfl,_,_,rfl,rfl,?_⟩⟩⟩;refine⟨(by show 2<=sizeLine; decide),fun q0 hq0=>?_⟩;have s2:Same H (upd H1 q0 (.lst [.int 6,.int 12])):=s1.trans (xr (Same.refl _) hq0);refine⟨_,rfl,sc,ns,1,rfl,s2.seqL hs,by decide,by decide,fun c1=>⟨_,_,rfl,rfl,(by show (0:Int)<8; decide),rfl,.inr ⟨_,rfl,?_⟩⟩⟩;obtain⟨mx,emx,mx1,mx2⟩:=xrr (decide (V.int (c1 % 8)=V.int 3));refine⟨q0,_,_,.int mx,rfl,rfl,SqL.of xi,emx,_,rfl,_,rfl,_,_,_,rfl,fun m m1 m2 m3 mo=>?_⟩;have mp:1<=m:=by rcases mo with rfl|rfl|rfl<;>omega
  refine⟨_,rfl,sc,ns,1,rfl,s2.seqL hs,by decide,by decide,fun c1'=>⟨_,_,rfl,rfl,⟨by decide,by decide⟩,_,rfl,_,_,rfl,rfl,(by show 0<m; omega),_,_,rfl,rfl,?_⟩⟩;have bm:=xa2 (c1' / 8) (show 0<m by omega);obtain⟨n,hn⟩:∃ n:Nat,1+c1' / 8 % m=(n:Int):=⟨(1+c1' / 8 % m).toNat,by omega⟩
  have n1:1<=n/\(n:Int)<=m:=by omega
  refine⟨_,rfl,sc,ns,1,rfl,s2.seqL hs,by decide,by decide,fun c1b=>⟨_,rfl,c1b,n,(by show [V.int c1b,V.int (1+c1' / 8 % m)]=_; rw[hn]),by omega,fun st H2 ln ms s3 hln=>?_⟩⟩;refine⟨_,rfl,sc,ns,2,rfl,(s2.trans s3).seqL hs,by decide,by decide,fun c2=>⟨_,rfl,_,rfl,c2,w,n,(by show [V.int c2,V.int w,V.int (1+c1' / 8 % m)]=_; rw[hn]),by omega,by omega,fun xs H3 lx lx2 ndx bx s4 hlx=>?_⟩⟩;refine⟨_,rfl,sc,ns,2,rfl,((s2.trans s3).trans s4).seqL hs,by decide,by decide,fun c2b=>⟨_,_,rfl,rfl,⟨by decide,by decide⟩,_,rfl,_,rfl,c2b / 7,ph,n,(by show [V.int (c2b / 7),V.int ph,V.int (1+c1' / 8 % m)]=_; rw[hn]),by omega,by omega,fun ys H4 ly ly2 ndy by_ s5 hly=>?_⟩⟩;refine⟨_,rfl,_,rfl,fun a dx hx hdx ne=>⟨a,dx,w,ph,rfl,xi,by omega,by omega,by omega,by omega,fun H5 dp do_ hdp5 hdo5 s6 pic5 hdt5=>⟨rfl,?_⟩⟩⟩;have k5:Same H4 H5:=fun b u e=>s6 b u (xg e hx) (by rw[xh (xg e hx),xh (xg e hdx)]; exact e);have s14:Same H H4:=((s2.trans s3).trans s4).trans s5;have fr:∀ z,upd (upd H4 dx (.own a)) a (.ins t.C_b dx []) z=none->H z=none:=fun z hz=>by
   cases e:H z with
   | none=>rfl
   | some u =>
    have e4:=s14 _ _ e;rw[xh (xg e4 hx),xh (xg e4 hdx),e4] at hz;cases hz
  have fdp:=fr _ hdp5;have fdo:=fr _ hdo5;have sAll:Same H H5:=s14.trans k5;obtain⟨nms,hnms⟩:∃ nms:List Str,nms=(ZI n).map fun (k:Nat)=>ltr ((c1b+st*(k:Int)) % 26):=⟨_,rfl⟩
  have ln2:nms.length=n:=by rw[hnms]; simp
  have ndn:nms.Nodup:=by rw[hnms]; exact xq1 ms (by omega)
  have isn:∀ z∈nms,isNm z=true:=fun z hz=>by
   rw[hnms] at hz;obtain⟨k,_,rfl⟩:=Zr.mp hz;exact xo2 (xa2 _ (by decide)).1 (xa2 _ (by decide)).2
  have hln':H2 ln=some (.lst (nms.map V.str)):=by
   rw[hln,hnms,Z7];rfl
  refine⟨_,rfl,(n:Int),(by show [V.int (1+c1' / 8 % m)]=_; rw[hn]),by omega,by omega,?_⟩;refine xd2 (Pv:=fun i Z H6=>∃(v9 v10 v11 v12 v13 v14 v15 v16 v17:Option V) (ps:List Pt),Z=[some (.ref sc),some (.int w),some (.int ph),some (.int m),some (.int (1+c1' / 8 % m)),some (.ref ln),some (.ref lx),some (.ref ly),some (.ref a),v9,v10,v11,v12,v13,v14,v15,v16,v17]/\Same H H6/\H6 ln=some (.lst (nms.map V.str))/\H6 lx=some (.lst (xs.map V.int))/\H6 ly=some (.lst (ys.map V.int)) /\
   Pic t H6 a dp do_ w ph ps/\H6 do_=some (.dT [])/\ps.length=i/\ps.map (·.nm)=nms.take i/\ps.map (·.x)=xs.take i/\ps.map (·.y)=ys.take i/\(∀ p∈ps,PtOk w ph p)) ?_ ?_ ?_
  .exact ⟨_,_,_,_,_,_,_,_,_,[],rfl,sAll,k5 _ _ (s5 _ _ (s4 _ _ hln')),k5 _ _ (s5 _ _ hlx),k5 _ _ hly,pic5,hdt5,rfl,rfl,rfl,rfl,fun p hp=>(nomatch hp)⟩
  .rintro i Z H6 hi ⟨v9,v10,v11,v12,v13,v14,v15,v16,v17,ps,rfl,s7,g1,g2,g3,pic6,hdt6,pl,pn,px,py,pok⟩;have hi':i<n:=by simpa using hi
   obtain⟨dx6,hp6⟩:=pic6.ins;refine⟨_,rfl,sc,ns,3,rfl,s7.seqL hs,by decide,by decide,fun c3=>⟨_,rfl,c3,(0+(i:Int)),rfl,fun m0 m00 m01=>?_⟩⟩;refine⟨_,rfl,_,_,rfl,rfl,⟨by decide,by decide⟩,_,rfl,_,_,rfl,rfl,(by show 0<ph; omega),_,_,rfl,rfl,?_⟩;have b1:=xa2 (m0 / 6) (show 0<ph by omega);refine⟨_,rfl,_,rfl,_,_,rfl,rfl,⟨by decide,by decide⟩,_,rfl,_,_,rfl,rfl,_,rfl,_,_,rfl,rfl,_,_,rfl,rfl,(by show 0<ph+1-(1+m0 / 6 % ph); omega),_,_,rfl,rfl,?_⟩;have b2:=xa2 (m0 / 128) (show 0<ph+1-(1+m0 / 6 % ph) by omega);refine⟨fun Z H7=>H6=H7/\∃ lo hi:Int,1<=lo/\lo<=hi/\hi<=ph/\Z=[some (.ref sc),some (.int w),some (.int ph),some (.int m),some (.int (1+c1' / 8 % m)),some (.ref ln),some (.ref lx),some (.ref ly),some (.ref a),some (.int (0+(i:Int))),some (.int m0),some (.int lo),some (.int hi),v13,v14,v15,v16,v17],?_,?_⟩
   .refine ⟨_,rfl,_,_,rfl,rfl,(by show (0:Int)<2; decide),rfl,_,rfl,ite2 (fun y=>?_) (fun y=>?_)⟩
    .exact ⟨_,rfl,rfl,1,ph,by omega,by omega,by omega,rfl⟩
    .exact ⟨rfl,1+m0 / 6 % ph,1+m0 / 6 % ph+m0 / 128 % (ph+1-(1+m0 / 6 % ph)),by omega,by omega,by omega,rfl⟩
   rintro _ _ ⟨rfl,lo,hi,lo1,lohi,hih,rfl⟩;have at_:∀{α:Type} (zs:List α) (f:α->V) (hz:zs.length=n),atI (zs.map f) (0+(i:Int))=some (f (zs[i]'(by omega))):=fun {α} zs f hz=>by
    rw[Int.zero_add];exact xcx (by rw[Zf,Za (by omega)]; rfl)
   obtain⟨sd,esd,hsd⟩:=xr3 (m0 / 2);have mem_:∀ p∈ps,p.nm≠nms[i]'(by omega)/\p.x≠xs[i]'(by omega)/\p.y≠ys[i]'(by omega):=fun p hp=>by
    have no:∀{α:Type}{zs:List α} (hz:i<zs.length),zs.Nodup->∀ z∈zs.take i,z≠zs[i]:=fun {α}{zs} hz nd z hm e=>by
     have h1:=Qg i zs;rw[JY hz] at h1;rw[<- h1,Jc] at nd;exact nd.2.2 z hm _ Zp e
    refine⟨no _ ndn _ ?_,no _ ndx _ ?_,no _ ndy _ ?_⟩
    .rw [<- pn]; exact Zr.mpr ⟨p,hp,rfl⟩
    .rw [<- px]; exact Zr.mpr ⟨p,hp,rfl⟩
    .rw [<- py]; exact Zr.mpr ⟨p,hp,rfl⟩
   have bxi:=bx (xs[i]'(by omega)) (Jj _);have byi:=by_ (ys[i]'(by omega)) (Jj _);refine⟨_,rfl,a,dx6,_,rfl,hp6,xat (by decide +kernel),_,rfl,_,rfl,ln,_,_,_,rfl,rfl,SqL.of g1,at_ nms V.str ln2,_,rfl,_,rfl,lx,_,_,_,rfl,rfl,SqL.of g2,at_ xs V.int lx2,_,rfl,_,rfl,ly,_,_,_,rfl,rfl,SqL.of g3,at_ ys V.int ly2,(by show 4<=sizeLine; decide),fun q3 hq3=>?_⟩;have s8:Same H6 (upd H6 q3 (.lst [.str "left",.str "both",.str "right",.str "both"])):=xr (Same.refl _) hq3;refine⟨_,rfl,_,_,rfl,rfl,⟨by decide,by decide⟩,_,_,rfl,rfl,(by show (0:Int)<4; decide),q3,_,_,.str sd,rfl,rfl,SqL.of xi,esd,_,rfl,_,rfl,?_⟩;refine⟨a,dp,do_,w,ph,ps,nms[i]'(by omega),xs[i]'(by omega),ys[i]'(by omega),sd,lo,hi,.int _,rfl,Pic.same s8 pic6,.inr rfl,isn _ (Jj _),bxi.1,bxi.2,byi.1,byi.2,hsd,lo1,lohi,hih,mem_,by omega,fun H7 k7 pic7=>?_⟩;obtain⟨kvs,hk,_⟩:=pic6.pl;have tk:∀{α:Type}{zs:List α} (hz:i<zs.length),zs.take (i+1)=zs.take i++[zs[i]]:=fun {α}{zs} hz=>by
    rw[ZP,Za hz];rfl
   refine⟨_,_,_,_,_,_,_,_,_,_,rfl,fun b u e=>k7 b u (xg e fdp) (s8 _ _ (s7 b u e)),k7 _ _ (xp g1 hk (fun z=>nomatch z)) (s8 _ _ g1),k7 _ _ (xp g2 hk (fun z=>nomatch z)) (s8 _ _ g2),k7 _ _ (xp g3 hk (fun z=>nomatch z)) (s8 _ _ g3),pic7,k7 _ _ (xp hdt6 hk (fun z=>nomatch z)) (s8 _ _ hdt6),by simp[pl],?_,?_,?_,fun p hp=>?_⟩
   .rw [ZC,pn,tk (by omega)]; rfl
   .rw [ZC,px,tk (by omega)]; rfl
   .rw [ZC,py,tk (by omega)]; rfl
   .rcases ZB.mp hp with z|z
    .exact pok p z
    .rw [Zt.mp z];exact⟨isn _ (Jj _),bxi.1,bxi.2,byi.1,byi.2,hsd,lo1,lohi,hih⟩
  .rintro Z H6 ⟨v9,v10,v11,v12,v13,v14,v15,v16,v17,ps,rfl,s7,g1,g2,g3,pic6,hdt6,pl,pn,px,py,pok⟩;have pl':ps.length=n:=by simpa using pl
   have tkn:∀{α:Type}{zs:List α},zs.length=n->zs.take ((n:Int).toNat)=zs:=fun {α}{zs} hz=>by
    rw[Jx (by omega)]
   rw[tkn ln2] at pn;rw[tkn lx2] at px;rw[tkn ly2] at py;refine⟨_,rfl,sc,ns,4,rfl,s7.seqL hs,by decide,by decide,fun c4=>⟨_,_,rfl,rfl,(by show (0:Int)<5; decide),_,_,rfl,rfl,?_⟩⟩;refine⟨_,rfl,_,_,rfl,rfl,1,ph+1,rfl,⟨by decide,by decide,by omega,by omega⟩,?_⟩;refine xd2 (Pv:=fun j Z H7=>∃(v14 v15 v16 v17:Option V) (st:List Seat),Z=[some (.ref sc),some (.int w),some (.int ph),some (.int m),some (.int (1+c1' / 8 % m)),some (.ref ln),some (.ref lx),some (.ref ly),some (.ref a),v9,v10,v11,v12,some (.int (1+c4 % 5)),v14,v15,v16,v17]/\Same H H7/\H7 ln=some (.lst (nms.map V.str))/\H7 lx=some (.lst (xs.map V.int))/\H7 ly=some (.lst (ys.map V.int)) /\
    Pic t H7 a dp do_ w ph ps/\Sts H7 do_ st/\st.length<=2*j/\∀ s∈st,1<=s.2/\s.2<=(j:Int)) ?_ ?_ ?_
   .exact ⟨_,_,_,_,[],rfl,s7,g1,g2,g3,pic6,⟨[],hdt6,rfl,JP,by decide⟩,Zi _,fun s hs=>(nomatch hs)⟩
   .rintro j Z H7 hj ⟨v14,v15,v16,v17,st,rfl,s7',g1',g2',g3',pic7,st7,sl7,sb7⟩;have hj':(j:Int)<ph:=by omega
    refine⟨(by show 2<=sizeLine; decide),fun le hle=>?_⟩;have s8:Same H7 (upd H7 le (.lst [.str (Zn "left"),.str (Zn "right")])):=xr (Same.refl _) hle;have g8:upd H7 le (.lst [.str (Zn "left"),.str (Zn "right")]) le=some (.lst [.str (Zn "left"),.str (Zn "right")]):=xi;revert s8 g8;generalize upd H7 le (.lst [.str (Zn "left"),.str (Zn "right")])=H8;intro s8 g8;refine⟨le,rfl,⟨_,SqL.of g8⟩,?_⟩;refine xa7 (xs:=[.str (Zn "left"),.str (Zn "right")]) (Pv:=fun i Z H9=>∃(v15 v16 v17:Option V) (st:List Seat),Z=[some (.ref sc),some (.int w),some (.int ph),some (.int m),some (.int (1+c1' / 8 % m)),some (.ref ln),some (.ref lx),some (.ref ly),some (.ref a),v9,v10,v11,v12,some (.int (1+c4 % 5)),some (.int (1+(j:Int))),v15,v16,v17]/\Same H H9/\H9 ln=some (.lst (nms.map V.str))/\H9 lx=some (.lst (xs.map V.int))/\H9 ly=some (.lst (ys.map V.int))/\H9 le=some (.lst [.str (Zn "left"),.str (Zn "right")]) /\
     Pic t H9 a dp do_ w ph ps/\Sts H9 do_ st/\st.length<=2*j+i/\∀ s∈st,1<=s.2/\(s.2<=(j:Int)\/(s.2=1+(j:Int)/\(if s.1 then 0 else 1)<i))) ?_ ?_ ?_ ?_
    .exact ⟨_,_,_,st,rfl,s7'.trans s8,s8 _ _ g1',s8 _ _ g2',s8 _ _ g3',g8,Pic.same s8 pic7,st7.same s8,sl7,fun s hs=>⟨(sb7 s hs).1,.inl (sb7 s hs).2⟩⟩
    .rintro i Z H9 _ ⟨_,_,_,st,rfl,_,_,_,_,e9,_⟩;exact SqL.of e9
    .rintro i x Z H9 hx ⟨v15,v16,v17,st,rfl,s9,e1,e2,e3,e9,pic9,st9,sl9,sb9⟩;have hi:i<2:=by
      have:=(Zh.mp hx).1;simpa using this
     obtain⟨sb,esb,isb⟩:∃ sb:Bool,x=.str (x0 sb)/\(if sb then 0 else 1)=i:=by
      have:i=0\/i=1:=by omega
      rcases this with e|e<;>subst e
      .exact ⟨true,(ZN.inj hx).symm,rfl⟩
      .exact ⟨false,(ZN.inj hx).symm,rfl⟩
     subst esb;obtain⟨dx9,hp9⟩:=pic9.ins;have up:∀ s∈st,1<=s.2/\(s.2<=(j:Int)\/(s.2=1+(j:Int)/\(if s.1 then 0 else 1)<i+1)):=fun s hs=>⟨(sb9 s hs).1,by
      rcases (sb9 s hs).2 with z|⟨z1,z2⟩
      .exact .inl z
      .exact .inr ⟨z1,Nat.lt_succ_of_lt z2⟩⟩
     refine⟨_,rfl,_,_,rfl,rfl,.inl ⟨by decide,by decide⟩,_,rfl,rfl,.inr ⟨_,rfl,_,_,rfl,rfl,?_⟩⟩;obtain⟨pl,hpl,pl0⟩:∃ pl:Int,pl=2*(1+(j:Int))+(if decide (V.str (x0 sb)=V.str "left")=true then 1 else 0)/\0<=pl:=⟨_,rfl,by split<;>omega⟩
     refine⟨_,rfl,sc,ns,4,rfl,s9.seqL hs,by decide,by decide,fun c5=>⟨_,rfl,c5,_,rfl,fun mm _ _=>?_⟩⟩;refine⟨_,_,rfl,rfl,(by show (0:Int)<6; decide),_,rfl,_,_,rfl,rfl,?_⟩;refine⟨fun Z H10=>H9=H10/\∃(v16:Option V) (op:Bool),Z=[some (.ref sc),some (.int w),some (.int ph),some (.int m),some (.int (1+c1' / 8 % m)),some (.ref ln),some (.ref lx),some (.ref ly),some (.ref a),v9,v10,v11,v12,some (.int (1+c4 % 5)),some (.int (1+(j:Int))),some (.str (x0 sb)),v16,some (.bl op)],?_,?_⟩
     .refine ⟨_,rfl,sc,ns,4,rfl,s9.seqL hs,by decide,by decide,fun c6=>⟨_,_,rfl,rfl,(by show (0:Int)<4; decide),rfl,_,rfl,ite2 (fun y=>?_) (fun y=>?_)⟩⟩
      .refine ⟨_,rfl,sc,ns,4,rfl,s9.seqL hs,by decide,by decide,fun c7=>⟨_,rfl,_,_,rfl,rfl,(by show (0:Int)<=2*(1+(j:Int))+(if decide (V.str (x0 sb)=V.str "left")=true then 1 else 0); rw[<- hpl]; exact pl0),_,_,rfl,rfl,rfl,?_⟩⟩;exact⟨rfl,_,_,rfl⟩
      .exact ⟨rfl,_,_,rfl⟩
     rintro _ _ ⟨rfl,v16',op,rfl⟩;refine⟨_,?_,fun _ _ z=>z⟩;refine⟨_,rfl,_,rfl,ite2 (fun y=>?_) (fun y=>⟨_,_,_,st,rfl,s9,e1,e2,e3,e9,pic9,st9,by omega,up⟩)⟩;have nin:(sb,1+(j:Int))∉st:=fun hm=>by
      rcases (sb9 _ hm).2 with z|⟨_,z⟩
      .have z:1+(j:Int)<=(j:Int):=z;omega
      .have z:(if sb then 0 else 1)<i:=z;omega
     obtain⟨ko,hko,_⟩:=id st9;refine⟨_,rfl,a,dx9,_,rfl,hp9,xat (by decide +kernel),_,rfl,_,rfl,a,dp,do_,w,ph,ps,st,sb,1+(j:Int),rfl,pic9,st9,by omega,by omega,nin,by omega,fun H10 k10 pc10 st10=>?_⟩;refine⟨_,_,_,st++[(sb,1+(j:Int))],rfl,fun c u e=>k10 _ _ (xg e fdo) (s9 _ _ e),k10 _ _ (xp e1 hko (fun z=>nomatch z)) e1,k10 _ _ (xp e2 hko (fun z=>nomatch z)) e2,k10 _ _ (xp e3 hko (fun z=>nomatch z)) e3,k10 _ _ (xp e9 hko (fun z=>nomatch z)) e9,pc10,st10,by rw[Zu,ZS]; omega,fun s hs=>?_⟩;rcases ZB.mp hs with z|z
     .exact up s z
     .rw [Zt.mp z];exact⟨by show (1:Int)<=1+(j:Int); omega,.inr ⟨rfl,by show (if sb then 0 else 1)<i+1; omega⟩⟩
    .rintro Z H9 ⟨v15,v16,v17,st,rfl,s9,e1,e2,e3,e9,pic9,st9,sl9,sb9⟩;refine⟨_,_,_,_,st,rfl,s9,e1,e2,e3,pic9,st9,?_,fun s hs=>⟨(sb9 s hs).1,?_⟩⟩
     .have sl9:st.length<=2*j+2:=sl9;omega
     .rcases (sb9 s hs).2 with z|⟨z,_⟩<;>omega
   .rintro Z H7 ⟨v14,v15,v16,v17,st,rfl,s7',g1',g2',g3',pic7,st7,sl7,sb7⟩;obtain⟨w',rfl⟩:=JT (show 0<=w by omega);obtain⟨h',rfl⟩:=JT (show 0<=ph by omega);have nds:st.Nodup:=st7.choose_spec.2.2.1;have l32:st.length<=32:=st7.choose_spec.2.2.2;obtain⟨srt,pm,lt⟩:=xhj nds;refine⟨_,rfl,q H7 a dp do_ w' h' ps st srt s7' ⟨pic7,st7,⟨nds,l32,fun s hs=>⟨(sb7 s hs).1,?_⟩⟩,pm,lt,fun p hp=>(pok p hp).nm⟩ ⟨pok,by rw[pn]; exact ndn,by rw[px]; exact ndx,by rw[py]; exact ndy,by omega⟩⟩;have:=(sb7 s hs).2;omega
theorem xgl {ps:List Pt}{i:Nat}{p:Pt} (h:ps[i]?=some p):xbz (ps.take (i+1))=xbz (ps.take i)++[p.nm]:=by
 unfold xbz;rw[ZP,h,ZC];rfl
def LwD (H:Hp) (d:Addr) (names:List Str) (lens:Str->List (Seat × Int)):Prop:=LnD H d [] names lens
theorem LwD.same {H H':Hp}{d:Addr}{names:List Str}{lens:Str->List (Seat × Int)} (z:LwD H d names lens) (s:Same H H'):LwD H' d names lens:=let ⟨kvs,e,l,f⟩:=z; ⟨kvs,s _ _ e,l,fun nm h=>let ⟨q,e1,e2,e3⟩:=f nm h; ⟨q,e1,s _ _ e2,e3⟩⟩
theorem LwD.get {H:Hp}{d:Addr}{names:List Str}{lens:Str->List (Seat × Int)} (z:LwD H d names lens) {nm:Str} (h:nm∈names):∃ q,DGet H d (.str nm) (some (.ref q))/\H q=some (.dT (LnT (lens nm))):=by
 obtain⟨kvs,e,_,f⟩:=z;obtain⟨q,e1,e2,_⟩:=f nm h;have g:=DGet.k (k:=.inr nm) e;rw[e1] at g;exact⟨q,g,e2⟩
def xck (xs:List (Seat × Int)) (s:Seat):Option Int:=(xs.find? fun x=>decide (x.1=s)).map (·.2)
theorem xg0:∀(xs:List (Seat × Int)) (s:Seat),valV (LnT xs) (xt s)=(xck xs s).map V.int
 | [],_=>rfl
 | x::xs,s=>by
  show valV ((xt x.1,V.int x.2)::LnT xs) (xt s)=_;unfold xck;by_cases c:x.1=s
  .rw [xbd (by rw[c]),QO (by simpa using c)];rfl
  .rw [xaz (fun z=>c (xc3 _ _ z)),QP (by simpa using c)];exact xg0 xs s
theorem xf2 {xs:List (Seat × Int)}{s:Seat}:(xck xs s).isSome=decide (s∈xs.map (·.1)):=by
 unfold xck;rw[Y4,J6,List.find?_isSome,decide_eq_true_iff,Zr];constructor
 .rintro ⟨x,h1,h2⟩;exact⟨x,h1,of_decide_eq_true h2⟩
 .rintro ⟨x,h1,h2⟩;exact⟨x,h1,decide_eq_true h2⟩
theorem xfd {xs:List (Seat × Int)}{s:Seat}{l:Int} (h:xck xs s=some l):(s,l)∈xs:=by
 unfold xck at h;obtain⟨x,h1,h2⟩:=Zj.mp h;have h3:=List.find?_some h1;have h3:x.1=s:=of_decide_eq_true h3;rw[<- h3,<- h2];exact QA h1
inductive xso (t:Adr) (vs:List V) (H:Hp) (Q:VK) (_:XK):Prop
 | mk (a dp do_:Addr) (w h:Nat) (ps:List Pt) (st srt:List Seat) (e_:vs=[.ref a]) (r_:Dr t H a dp do_ w h ps st srt/\xda (w:Int) (h:Int) ps/\∀ H' d,Same H H'->H d=none->LwD H' d (xbz ps) (xab w ps srt)->Q (.ref d) H')
theorem ok_y (T:Txt w K mg t):FnOk true P w K mg base (CXo P w) 4 t.f_y t.d_y ["_law_picture_here"] (xso t):=by
 refine T.F_y.okn (k:=3) sc_y (fun vs H Q E h=>?_) (fun cdv A outer s H vs Q E hr h=>?_)
 .obtain ⟨a,dp,do_,w',h',ps,st,srt,rfl,_⟩:=h;rfl
 .obtain ⟨a,dp,do_,w',h',ps,st,srt,rfl,h⟩:=h;refine⟨_,xj (xz (i:=1) sc_y.nd rfl (Zq rfl) (xdw))
   (xj (xa0 ZA rfl (xas (xbm (pv 0) T.c_b T.m_k (ok_k T) (hmm hr) T.b_k .nil xl)) (xbb rfl (xu (xq (i:=2) sc_y.nd rfl (Zq rfl)) (xu (xq (i:=3) sc_y.nd rfl (Zq rfl)) (xu (xq (i:=4) sc_y.nd rfl (Zq rfl)) (xu (xq (i:=5) sc_y.nd rfl (Zq rfl)) (xu (xq (i:=6) sc_y.nd rfl (Zq rfl)) (xu (xq (i:=7) sc_y.nd rfl (Zq rfl)) (xay)))))))) (xj (xb9 (xam hr) (pv 1) (pv 2) (xdr) rfl)
   (xm (xa0 ZA rfl (xas (xbm (pv 0) T.c_b T.m_i (ok_i T) (hmm hr) T.b_i .nil xl)) (xbb rfl (xu (xq (i:=8) sc_y.nd rfl (Zq rfl)) (xu (xq (i:=9) sc_y.nd rfl (Zq rfl)) (xay)))) (xm (xce (xaj (PW.pt (xge (xac xhv (pv 5) (xcf (xf (xa6) (xf (pv 8) (xk)))) (by rfl)) (xfg (xo0 xfn xfn (pv 6) (pv 9) (pv 7))))) (xj (xz (i:=10) sc_y.nd rfl (Zq rfl) (pv 3))
   (xj (xce (xaj (xac xcj (pv 8) (xa6) (xag _)) (xm (xz (i:=10) sc_y.nd rfl (Zq rfl) (xw xds (xw xa4 (xae (pv 0) rfl) (xn)) (pv 3)))) (x9)))
   (xm (xb9 (xam hr) (xa9 (xam hr) (pv 1) (pv 2) (fun _ _=>rfl)) (xaq (xf (pv 8) (xf (pv 9) (xk)))) (xw xa4 (xah xje rfl T.n_abs boot_abs (xf (xw xds (pv 4) (pv 9)) (xk))) (pv 10)) rfl)))) (x9))))))))
   (xm (xad (pv 1)))),?_⟩
  obtain⟨dr,pok,q⟩:=h;have BIG:∀{n:Nat},n<=1000->n<sizeLine:=fun h=>ZG h (by decide);have s32:srt.length<=32:=by rw[dr.pm.length_eq]; exact dr.ok.2.1
  have ple:=pok.le;refine fun d hd=>?_;have s1:Same H (upd H d (.dK [])):=xr (Same.refl _) hd;have g1:upd H d (.dK []) d=some (.dK []):=xi;revert s1 g1;generalize upd H d (.dK [])=H1;intro s1 g1;have dr1:=dr.same s1;obtain⟨⟨dx,hpi⟩,_⟩:=id dr1.pic;refine⟨_,rfl,a,dx,_,rfl,hpi,xat (by decide +kernel),a,dp,do_,w',h',ps,rfl,dr1.pic,fun H2 lp qs s2 e2 pt2=>?_⟩;refine⟨lp,rfl,⟨_,SqL.of e2⟩,?_⟩;have nld:lp≠d:=xp e2 (s2 _ _ g1) (fun z=>nomatch z);have pll:=pt2.len;refine xa7 (xs:=qs.map V.ref) (Pv:=fun i Z H3=>∃(v2 v3 v4 v5 v6 v7 v8 v9 v10:Option V),Z=[some (.ref a),some (.ref d),v2,v3,v4,v5,v6,v7,v8,v9,v10]/\(∀ c u,c≠d->H2 c=some u->H3 c=some u)/\LwD H3 d (xbz (ps.take i)) (xab w' ps srt)) ?_ ?_ ?_ ?_
  .exact ⟨_,_,_,_,_,_,_,_,_,rfl,fun c u _ e=>e,[],s2 _ _ g1,Zi _,fun _ h=>(nomatch h)⟩
  .rintro i Z H3 _ ⟨_,_,_,_,_,_,_,_,_,rfl,k3,_⟩;exact SqL.of (k3 _ _ nld e2)
  .rintro i x Z H3 hx ⟨v2,v3,v4,v5,v6,v7,v8,v9,v10,rfl,k3,kvs,hd3,lk3,f3⟩;rw[Zf,Zj] at hx;obtain⟨qa,hqa,rfl⟩:=hx;obtain⟨p,hp,hpq⟩:=pt2.get hqa;have hf:=xkp pok.nn (Zl hp);have elen:xab w' ps srt p.nm=(srt.filter (xav p)).map fun s=>(s,lenI (w':Int) p.x p.y s.1 s.2):=by
    unfold xab;rw[hf]
   have k13:∀ c u,c≠d->H1 c=some u->H3 c=some u:=fun c u nc e=>k3 _ _ nc (s2 _ _ e);refine⟨qa,_,rfl,SqT.of (k3 _ _ (xp hpq (s2 _ _ g1) (fun z=>nomatch z)) hpq),rfl,_,_,rfl,_,_,rfl,_,_,rfl,_,_,rfl,_,_,rfl,_,_,rfl,rfl,?_⟩;refine fun dq hdq=>?_;have ndq:d≠dq:=xg hd3 hdq;have s4:Same H3 (upd H3 dq (.dT [])):=xr (Same.refl _) hdq;have g4:upd H3 dq (.dT []) dq=some (.dT []):=xi;revert s4 g4;generalize upd H3 dq (.dT [])=H4;intro s4 g4;refine⟨_,rfl,_,rfl,d,_,rfl,DPut.k (k:=.inr p.nm) (s4 _ _ hd3) (BIG (by unfold xbz at lk3; rw[Zc,JA] at lk3; omega)),?_⟩;have k5:∀ c u,c≠d->H4 c=some u->upd H4 d (.dK (putK kvs (.inr p.nm) (.ref dq))) c=some u:=fun c u nc e=>by rw[xh nc]; exact e
   have e5:upd H4 d (.dK (putK kvs (.inr p.nm) (.ref dq))) d=some (.dK (putK kvs (.inr p.nm) (.ref dq))):=xi;revert k5 e5;generalize upd H4 d (.dK (putK kvs (.inr p.nm) (.ref dq)))=H5;intro k5 e5;have k15:∀ c u,c≠d->H1 c=some u->H5 c=some u:=fun c u nc e=>k5 _ _ nc (s4 _ _ (k13 _ _ nc e))
   -- the picture is still there
   obtain⟨_,⟨kp,hkp,plp⟩,w1,w2,h1,h2,le⟩:=id dr.pic;obtain⟨ko,hko,kr⟩:=id dr.sts;have npd:dp≠d:=xg hkp hd;have pic5:Pic t H5 a dp do_ (w':Int) (h':Int) ps:=⟨⟨dx,k15 _ _ (xp hpi g1 (fun z=>nomatch z)) hpi⟩,⟨kp,k15 _ _ npd (s1 _ _ hkp),plp.keep (fun c xs e=>k15 _ _ (xg e hd) (s1 _ _ e))⟩,w1,w2,h1,h2,le⟩
   have sts5:Sts H5 do_ st:=⟨ko,k15 _ _ (xg hko hd) (s1 _ _ hko),kr⟩
   have hpi5:=k15 _ _ (xp hpi g1 (fun z=>nomatch z)) hpi;refine⟨_,rfl,a,dx,_,rfl,hpi5,xat (by decide +kernel),a,dp,do_,w',h',ps,st,rfl,pic5,sts5,fun l6 ss6 us hl6 sl6 pm6 lt6=>?_⟩;obtain rfl:ss6=srt:=xa1 xbt (pm6.trans dr.pm.symm) lt6 dr.lt;have g45:=k5 _ _ (Zw ndq) g4;have nl6:l6≠dq:=fun z=>by rw[z,g45] at hl6; cases hl6
   have s6:Same H5 (upd H5 l6 (.lst (us.map V.ref))):=xr (Same.refl _) hl6;have g6:upd H5 l6 (.lst (us.map V.ref)) l6=some (.lst (us.map V.ref)):=xi;revert s6 g6;generalize upd H5 l6 (.lst (us.map V.ref))=H6;intro s6 g6;have sl6':=sl6.keep (Same.tups s6);have usl:=sl6.len;refine⟨l6,rfl,⟨_,SqL.of g6⟩,?_⟩;refine xa7 (xs:=us.map V.ref) (Pv:=fun j Z H7=>∃(v8 v9 v10:Option V),Z=[some (.ref a),some (.ref d),some (.str p.nm),some (.int p.x),some (.int p.y),some (.str p.sd),some (.int p.lo),some (.int p.hi),v8,v9,v10]/\(∀ c u,c≠dq->H6 c=some u->H7 c=some u)/\H7 dq=some (.dT (LnT (((ss6.take j).filter (xav p)).map fun s=>(s,lenI (w':Int) p.x p.y s.1 s.2))))) ?_ ?_ ?_ ?_
   .exact ⟨_,_,_,rfl,fun c u _ e=>e,s6 _ _ g45⟩
   .rintro j Z H7 _ ⟨_,_,_,rfl,k7,_⟩;exact SqL.of (k7 _ _ nl6 g6)
   .rintro j x Z H7 hx ⟨v8,v9,v10,rfl,k7,e7⟩;rw[Zf,Zj] at hx;obtain⟨qs_,hqs,rfl⟩:=hx;obtain⟨s,hs,hsq⟩:=sl6'.get hqs;have hsq7:=k7 _ _ (xp hsq (s6 _ _ g45) (fun z=>nomatch z)) hsq;refine⟨qs_,_,rfl,SqT.of hsq7,rfl,_,_,rfl,_,_,rfl,rfl,?_⟩;refine⟨_,?_,fun _ _ z=>z⟩;have tk:ss6.take (j+1)=ss6.take j++[s]:=by
     rw[ZP,hs];rfl
    have no:xav p s=false->((ss6.take (j+1)).filter (xav p))=(ss6.take j).filter (xav p):=fun e=>by
     rw[tk,JM,Js (by rw[e]; decide)];simp
    have yes:xav p s=true->((ss6.take (j+1)).filter (xav p))=(ss6.take j).filter (xav p)++[s]:=fun e=>by
     rw[tk,JM,JC e];rfl
    refine⟨_,rfl,_,rfl,(by show 2<=sizeLine; decide),fun l8 hl8=>?_⟩;have s8:Same H7 (upd H7 l8 (.lst [.str (Zn "both"),.str (x0 s.1)])):=xr (Same.refl _) hl8;have g8:upd H7 l8 (.lst [.str (Zn "both"),.str (x0 s.1)]) l8=some (.lst [.str (Zn "both"),.str (x0 s.1)]):=xi;revert s8 g8;generalize upd H7 l8 (.lst [.str (Zn "both"),.str (x0 s.1)])=H8;intro s8 g8;have k8:∀ c u,c≠dq->H6 c=some u->H8 c=some u:=fun c u nc e=>s8 _ _ (k7 _ _ nc e);have e8:=s8 _ _ e7;refine⟨l8,_,rfl,.inl (SqL.of g8),rfl,rfl,_,rfl,ite2 (fun y1=>?_) (fun y1=>?_)⟩
    .rw [if_neg (by decide),xgf] at y1;refine⟨_,rfl,_,rfl,_,_,rfl,rfl,_,rfl,ite2 (fun y2=>?_) (fun y2=>?_)⟩
     .refine ⟨_,rfl,_,_,rfl,rfl,_,rfl,ite2 (fun y3=>?_) (fun y3=>?_)⟩
      .have wt:xav p s=true:=by
        unfold xav;rw[y1,y2,y3];rfl
       refine⟨_,rfl,?_⟩;refine⟨fun Z H9=>H8=H9/\Z=[some (.ref a),some (.ref d),some (.str p.nm),some (.int p.x),some (.int p.y),some (.str p.sd),some (.int p.lo),some (.int p.hi),some (.str (x0 s.1)),some (.int s.2),some (.int (if s.1 then p.x else (w':Int)+1-p.x))],?_,?_⟩
       .have hpi8:=k8 _ _ (xp hpi5 g45 (fun z=>nomatch z)) (s6 _ _ hpi5);refine⟨_,rfl,rfl,_,rfl,ite2 (fun y4=>?_) (fun y4=>?_)⟩
        .have e4:s.1=false:=by
          cases hh:s.1 with
          | false=>rfl
          | true=>rw[hh] at y4; exact absurd y4 (by decide +kernel)
         refine⟨_,rfl,a,_,_,_,_,rfl,hpi8,T.c_b,T.n_a4,lkW,_,_,rfl,rfl,_,rfl,_,_,rfl,rfl,rfl,?_⟩;rw[e4];rfl
        .have e4:s.1=true:=by
          cases hh:s.1 with
          | true=>rfl
          | false=>rw[hh] at y4; exact absurd (by decide +kernel) y4
         refine⟨rfl,?_⟩;rw[e4];rfl
       rintro _ _ ⟨rfl,rfl⟩;have hd8:H8 d=some (.dK (putK kvs (.inr p.nm) (.ref dq))):=k8 _ _ ndq (s6 _ _ e5);have dg:DGet H8 d (.str p.nm) (some (.ref dq)):=by
        have g:=DGet.k (k:=.inr p.nm) hd8;rw[xch,if_pos rfl] at g;exact g
       refine⟨_,rfl,_,rfl,_,_,rfl,rfl,_,rfl,_,rfl,_,_,rfl,rfl,_,rfl,_,rfl,d,.ref dq,rfl,dg,_,rfl,_,rfl,(by show 2<=sizeLine; decide),fun q9 hq9=>?_⟩;have s9:Same H8 (upd H8 q9 (.tup [.str (x0 s.1),.int s.2])):=xr (Same.refl _) hq9;have g9:upd H8 q9 (.tup [.str (x0 s.1),.int s.2]) q9=some (.tup [.str (x0 s.1),.int s.2]):=xi;revert s9 g9;generalize upd H8 q9 (.tup [.str (x0 s.1),.int s.2])=H9;intro s9 g9;have e9:=s9 _ _ e8;have new:valV (LnT (((ss6.take j).filter (xav p)).map fun s=>(s,lenI (w':Int) p.x p.y s.1 s.2))) (xt s)=none:=by
        rw[xg0];have z:¬ (xck (((ss6.take j).filter (xav p)).map fun s=>(s,lenI (w':Int) p.x p.y s.1 s.2)) s).isSome=true:=by
         rw[xf2,Z7,decide_eq_true_iff];intro z;obtain⟨s',hs',ee⟩:=Zr.mp z;have ee:s'=s:=ee;subst ee;obtain⟨hj,ej⟩:=Zh.mp hs;have snd:ss6.Nodup:=dr.pm.nodup_iff.mpr dr.ok.1;exact xcw id (ps:=ss6) (by rw[YA]; exact snd) hj s' (ZR.mp hs').1 ej.symm
        cases hz:xck (((ss6.take j).filter (xav p)).map fun s=>(s,lenI (w':Int) p.x p.y s.1 s.2)) s with
        | none=>rfl
        | some v=>rw[hz] at z; exact absurd rfl z
       have fl:((ss6.take j).filter (xav p)).length<=32:=Z6 (JJ _ _) (by rw[JA]; omega);refine⟨dq,_,rfl,DPut.t (k:=xt s) e9 g9 (by unfold LnT; rw[Zc,Zc]; exact BIG (by omega)),?_⟩;refine⟨_,_,_,rfl,fun c u nc e=>by rw[xh nc]; exact s9 _ _ (k8 _ _ nc e),?_⟩;rw[xi,xcg _ new,yes wt];unfold LnT;rw[ZC,ZC];have ev:V.int ((if p.y-s.2<0 then -(p.y-s.2) else p.y-s.2)+(if s.1 then p.x else (w':Int)+1-p.x))=V.int (lenI (w':Int) p.x p.y s.1 s.2):=by
        unfold lenI;rw[Int.add_comm]
       show some (HO.dT (_++[(xt s,V.int ((if p.y-s.2<0 then -(p.y-s.2) else p.y-s.2)+(if s.1 then p.x else (w':Int)+1-p.x)))]))=some (HO.dT (_++[(xt s,V.int (lenI (w':Int) p.x p.y s.1 s.2))]));rw[ev]
      .have wf:xav p s=false:=by
        unfold xav;rw[y1,y2,JG.mpr y3];rfl
       exact⟨_,_,_,rfl,k8,by rw[no wf]; exact e8⟩
     .have wf:xav p s=false:=by
       unfold xav;rw[y1,JG.mpr y2];rfl
      exact⟨_,rfl,_,_,_,rfl,k8,by rw[no wf]; exact e8⟩
    .rw [if_neg (by decide),xgf] at y1;have wf:xav p s=false:=by
      unfold xav;rw[JG.mpr y1];rfl
     exact⟨_,_,_,rfl,k8,by rw[no wf]; exact e8⟩
   .rintro Z H7 ⟨v8,v9,v10,rfl,k7,e7⟩;rw[Zc,usl,J9,<- elen] at e7;have k57:∀ c u,c≠dq->H5 c=some u->H7 c=some u:=fun c u nc e=>k7 _ _ nc (s6 _ _ e);have g45':=g45;refine⟨_,_,_,_,_,_,_,_,_,rfl,fun c u nc e=>?_,putK kvs (.inr p.nm) (.ref dq),k57 _ _ ndq e5,?_,fun nm hn=>?_⟩
    .have e3':=k3 _ _ nc e;exact k57 _ _ (xg e3' hdq) (k5 _ _ nc (s4 _ _ e3'))
    .rw [xgl hp,Zu,ZS];have:=xbn kvs (.inr p.nm) (.ref dq);omega
    .rw [xgl hp] at hn;rw[xch];by_cases c:nm=p.nm
     .subst c;exact⟨dq,by rw[if_pos rfl],e7,fun z=>(nomatch z)⟩
     .rw [if_neg (fun y=>c (Jt.inj y))];rcases ZB.mp hn with hn|hn
      .obtain ⟨q0,a1,a2,a3⟩:=f3 nm hn;have nq:q0≠d:=xp a2 hd3 (fun z=>nomatch z);exact⟨q0,a1,k57 _ _ (xg a2 hdq) (k5 _ _ nq (s4 _ _ a2)),a3⟩
      .exact absurd (Zt.mp hn) c
  .rintro Z H3 ⟨v2,v3,v4,v5,v6,v7,v8,v9,v10,rfl,k3,lw⟩;rw[Zc,pll,J9] at lw;exact⟨_,rfl,q H3 d (fun c u e=>k3 _ _ (xg e hd) (s2 _ _ (s1 _ _ e))) hd lw⟩
theorem xpg {α:Type}{r:α->Int}:∀ l:List α,(∀ a∈l,r a=0)->(l.map r).sum=0
 | [],_=>rfl
 | a::l,h=>by
  rw[Zx,Yi,h a (Zp ..),xpg l fun b hb=>h b (Zm _ hb)];rfl
theorem xo5 {α:Type}{r:α->Int}{l m:List α} (p:l.Perm m):(l.map r).sum=(m.map r).sum:=by
 induction p with
 | nil=>rfl
 | cons x _ ih=>rw[Zx,Zx,Yi,Yi,ih]
 | swap x y l=>simp only[Zx,Yi]; omega
 | trans _ _ h1 h2=>rw[h1,h2]
theorem xml {α:Type} [DecidableEq α] {r:α->Int}:∀{T ss:List α},T.Nodup->ss.Nodup->(∀ a∈T,a∈ss)->(∀ a∈ss,a∉T->r a=0)->(ss.map r).sum=(T.map r).sum
 | [],ss,_,_,_,z=>xpg ss fun a ha=>z a ha (fun y=>nomatch y)
 | x::T,ss,nd,snd,sub,z=>by
  rw[ZQ] at nd;have hx:=sub x (Zp ..);have pm:=List.perm_cons_erase hx;have nd2:=pm.nodup_iff.mp snd;rw[ZQ] at nd2;rw[xo5 pm,Zx,Zx,Yi,Yi];rw[xml (T:=T) (ss:=ss.erase x) nd.2 nd2.2 (fun a ha=>(List.mem_erase_of_ne (fun e:a=x=>nd.1 (e▸ha))).mpr (sub a (Zm _ ha))) (fun a ha na=>z a (List.mem_of_mem_erase ha) (fun y=>by
   rcases Zz.mp y with y|y
   .rw [y] at ha; exact nd2.1 ha
   .exact na y))]
def lenP (lens:Str->List (Seat × Int)) (p:Pr):Int:=(xck (lens p.1.nm) p.2).getD 0
def xi1 (lens:Str->List (Seat × Int)) (prs:List Pr):Int:=(prs.map (lenP lens)).sum
def gvL (lens:Str->List (Seat × Int)) (names:List Str) (prs:List Pr):Bool:=decide (prs.map (·.1.nm)=names)&&(decide ((prs.map (·.2)).Nodup)&&prs.all fun p=>decide (p.2∈xaf lens p.1.nm))
theorem xrg {lens:Str->List (Seat × Int)}{names:List Str}{prs:List Pr}:gvL lens names prs=true↔prs.map (·.1.nm)=names/\(prs.map (·.2)).Nodup/\∀ p∈prs,p.2∈xaf lens p.1.nm:=by
 unfold gvL;rw[ZM,ZM,decide_eq_true_iff,decide_eq_true_iff,Qk];simp only[decide_eq_true_eq]
theorem xlq {lens:Str->List (Seat × Int)}{n:Str}{s:Seat} (h:s∈xaf lens n):∃ l,xck (lens n) s=some l:=by
 have:=xf2 (xs:=lens n) (s:=s);rw[decide_eq_true (show s∈(lens n).map (·.1) from h)] at this;exact QE.mp this
theorem xi2 {α:Type}{f g:α->Int}:∀ l:List α,(l.map fun a=>f a+g a).sum=(l.map f).sum+(l.map g).sum
 | []=>rfl
 | a::l=>by
  rw[Zx,Zx,Zx,Yi,Yi,Yi,xi2 l];omega
section
variable {lens:Str->List (Seat × Int)}{names:List Str}{so:Str->Option Seat}{ho:Seat->Option Str}{own:Str->Int}{rent:Seat->Int}{ss:List Seat}
theorem xre {prs:List Pr} (e:prs.map (·.1.nm)=names):(prs.map fun p=>own p.1.nm).sum=(names.map own).sum:=by
 rw[<- e,Z7];rfl
theorem Fit.tight (f:Fit lens names so ho own rent) (lo:xcy lens ss) (nnd:names.Nodup) {prs:List Pr} (e:prs.map (·.1.nm)=names) (al:∀ p∈prs,so p.1.nm=some p.2):gvL lens names prs=true/\xi1 lens prs=(names.map own).sum+(ss.map rent).sum:=by
 have nd:(prs.map (·.2)).Nodup:=by
  rw[Q3,Jy];intro i j hi hj lt z;rw[Zc] at hi hj;rw[JX,JX] at z;have a1:=al _ (Jj hi);have a2:=al _ (Jj hj);rw[z] at a1;have:=f.mt.inj a1 a2;rw[<- e] at nnd;exact absurd this (by
   have y:=Jy.mp nnd i j (by rw[Zc]; exact hi) (by rw[Zc]; exact hj) lt;rw[JX,JX] at y;exact y)
 have rm:∀ p∈prs,p.2∈xaf lens p.1.nm:=fun p hp=>f.mt.rm _ _ (al p hp);refine⟨xrg.mpr ⟨e,nd,rm⟩,?_⟩;have h1:xi1 lens prs=(prs.map fun p=>own p.1.nm+rent p.2).sum:=by
  unfold xi1
  congr 1
  refine Yk fun p hp=>?_;obtain⟨l,hl⟩:=xlq (rm p hp);unfold lenP;rw[hl];exact (f.eq _ _ (al p hp) l (xfd hl)).symm
 rw[h1,xi2,xre e];have h2:=xml (r:=rent) nd lo.snd (fun s hs=>by
  obtain⟨p,hp,rfl⟩:=Zr.mp hs;exact lo.ins _ _ (rm p hp)) (fun s hs ns=>f.r0 s (by
  cases z:ho s with
  | none=>rfl
  | some n =>
   have y:=(f.mt.iff n s).mpr z;have nin:n∈names:=by
    have:=f.dm n;rw[y] at this;simpa using this.symm
   rw[<- e] at nin;obtain⟨p,hp,rfl⟩:=Zr.mp nin;rw[al p hp] at y;exact absurd (Zr.mpr ⟨p,hp,ZN.inj y⟩) ns))
 rw[h2,Z7];rfl
end
theorem xpy {prs:List Pr}{good:Pr->Bool} (f:∀(k:Nat) (p:Pr),prs[k]?=some p->good p=true/\p.2∉(prs.map (·.2)).take k):(decide ((prs.map (·.2)).Nodup)&&prs.all good)=true:=by
 have nd:(prs.map (·.2)).Nodup:=by
  rw[Q3,Jy];intro i j hi hj hij z;rw[Zc] at hi hj;have h2:=(f j prs[j] (Za hj)).2;refine h2 (List.mem_iff_getElem.mpr ⟨i,by rw[JA,Zc]; omega,?_⟩);rw[List.getElem_take,z,JX]
 rw[decide_eq_true nd,Y1,Qk];intro p hp;obtain⟨k,hk,rfl⟩:=List.mem_iff_getElem.mp hp;exact (f k _ (Za hk)).1
theorem xjl {prs:List Pr}{good:Pr->Bool}{k:Nat}{p:Pr} (hp:prs[k]?=some p) (f:good p=false\/p.2∈(prs.map (·.2)).take k):(decide ((prs.map (·.2)).Nodup)&&prs.all good)=false:=by
 rw[JG];intro h;rw[ZM,decide_eq_true_iff,Qk] at h;obtain⟨nd,al⟩:=h;rcases f with f|f
 .have:=al p (Zl hp);rw[f] at this;cases this
 .obtain ⟨hk,rfl⟩:=Zh.mp hp;have z:=nd;have hk':k<(prs.map (·.2)).length:=by rw[Zc]; exact hk
  rw[<- Qg k (prs.map (·.2)),JY hk',Jc] at z;exact z.2.2 _ f _ (Zp) (by rw[JX])
theorem xc2 {K:Zd}{H:Hp}{l:Addr}{nms:List Str} (e:H l=some (.lst (nms.map V.str))):Dv K H 1 (.ref l) (.lst (nms.map DV.str)):=.lst (SqL.of e) (by rw[Zc,Zc]) fun j x d h1 h2=>by
 rw[Zf,Zj] at h1 h2;obtain⟨z,hz,rfl⟩:=h1;obtain⟨z',hz',rfl⟩:=h2;rw[hz] at hz';cases hz';exact .str
theorem xg1:∀ l:List Str,pls (l.map DV.str)=true
 | []=>rfl
 | _::r=>by
  show (true&&pls (r.map DV.str))=true;rw[xg1 r];rfl
theorem xpk (as bs:List Str):dEq (.lst (as.map DV.str)) (.lst (bs.map DV.str))=decide (as=bs):=xku (x:=as) (y:=bs) (xg1 as) (xg1 bs) (by
 constructor
 .intro h
  injection h with h
  exact List.map_inj_right (fun a b e=>by injection e) |>.mp h
 .intro h
  rw[h])
theorem xr2 (qs:List Addr) (k:Nat):cutV (qs.map V.ref) none (some (0+(k:Int)))=(qs.take k).map V.ref:=by
 unfold cutV;rw[Int.zero_add,HT.sIx_nat,HT.sIx_none,Zc,<- List.map_drop,<- List.map_take]
 congr 1
 simp only[List.drop_zero,Nat.sub_zero];by_cases c:k<=qs.length
 .rw [Nat.min_eq_left c]
 .rw [Nat.min_eq_right (by omega),Jx (Zi _),Jx (by omega)]
theorem xal.take {H:Hp}{ss:List Seat}{qs:List Addr} (h:xal H ss qs) (k:Nat):xal H (ss.take k) (qs.take k):=by
 induction h generalizing k with
 | nil=>rw[List.take_nil,List.take_nil]; exact .nil
 | cons h _ ih=>cases k with
  | zero=>exact .nil
  | succ k=>exact .cons h (ih k)
theorem LnT.get {H:Hp}{q b:Addr}{xs:List (Seat × Int)}{s:Seat} (h:H q=some (.dT (LnT xs))) (hb:H b=some (.tup (xau s))):DGet H q (.ref b) ((xck xs s).map V.int):=by
 have g:=DGet.t (k:=xt s) h hb;rw[xg0] at g;exact g
inductive xr1 (vs:List V) (H:Hp) (Q:VK) (_:XK):Prop
 | mk (d ln lp:Addr) (alln names:List Str) (lens:Str->List (Seat × Int)) (prs:List Pr) (qs:List Addr) (e_:vs=[.ref d,.ref ln,.ref lp]) (r_:LwD H d alln lens/\H ln=some (.lst (names.map V.str))/\(∀ x∈names,x∈alln)/\H lp=some (.lst (qs.map V.ref))/\PrsL H prs qs/\prs.length<=12/\∀ H',Same H H'->Q (.bl (gvL lens names prs)) H')
theorem ok_ao (T:Txt w K mg t):FnOk true P w K mg base (CXo P w) 5 t.f_ao t.d_ao ["_law_lengths_here", "_law_names_here", "_law_pairs"] (xr1):=by
 refine T.F_ao.okn (k:=4) sc_ao (fun vs H Q E h=>?_) (fun cdv A outer s H vs Q E hr h=>?_)
 .obtain ⟨d,ln,lp,alln,names,lens,prs,qs,rfl,_⟩:=h;rfl
 .obtain ⟨d,ln,lp,alln,names,lens,prs,qs,rfl,h⟩:=h;refine⟨_,xj (xaj (xac (xej (xbj hr)) (xb3 rfl (xbp (zs:=["_law_name", "_law_side", "_law_row"]) (ys:=[]) (fr:=[]) (N0:=["_law_lengths_here", "_law_names_here", "_law_pairs", "_law_seats", "_law_k"]) (sc0:=xo s_ao) (by decide +kernel) rfl rfl rfl) (xas (pv 2)) (fun _ _ _ _ _ ow nd=>(xbb rfl (xu (xq (i:=0) nd rfl (Zq (ow _ (by simp))) (JD (ow _ (by simp)))) (xu (xq (i:=1) nd rfl (Zq (ow _ (by simp))) (JD (ow _ (by simp)))) (xu (xq (i:=2) nd rfl (Zq (ow _ (by simp))) (JD (ow _ (by simp)))) (xay)))):PG _ _ (gTup K 3 _))) (xc7 (xax (by decide) (xax (by decide) (xax (by decide) (xcp))))) (fun _ _ _ _ _=>xci) (fun _ _ _ _ _=>pv 0)) (pv 1) (xag _)) (xm (xad (xcl))) (x9))
   (xj (xdv rfl (xbp (zs:=["_law_name", "_law_side", "_law_row"]) (ys:=[]) (fr:=[]) (N0:=["_law_lengths_here", "_law_names_here", "_law_pairs", "_law_seats", "_law_k"]) (sc0:=xo s_ao) (by decide +kernel) rfl rfl rfl) (xas (pv 2)) (fun _ _ _ _ _ ow nd=>(xbb rfl (xu (xq (i:=0) nd rfl (Zq (ow _ (by simp))) (JD (ow _ (by simp)))) (xu (xq (i:=1) nd rfl (Zq (ow _ (by simp))) (JD (ow _ (by simp)))) (xu (xq (i:=2) nd rfl (Zq (ow _ (by simp))) (JD (ow _ (by simp)))) (xay)))):PG _ _ (gTup K 3 _))) (xc7 (xax (by decide) (xax (by decide) (xax (by decide) (xcp))))) (fun _ _ _ _ _=>xci) (fun _ _ _ _ _=>xaq (xf (pv 1) (xf (pv 2) (xk)))) (j:=3) rfl (Zq rfl))
   (xj (xa0 ZA rfl (xdz rfl T.n_range (xf (xah xba rfl T.n_len YH (xf (pv 1) (xk))) (xk))) (xq (i:=4) sc_ao.nd rfl (Zq rfl)) (xm (xaj (PW.pt (xbw (xcm (xct (xam hr) (xbc xbx (pv 3) (pv 4) (fun _ _=>rfl)) (xa9 (xam hr) (pv 0) (xbc xbx (pv 1) (pv 4) (fun _ _=>rfl)) (fun _ _=>rfl)))) (xbs (xac (xmq (xbj hr)) (xbc xbx (pv 3) (pv 4) (fun _ _=>rfl)) (xii xp4 (pv 3) xkn (xkc (pv 4))) (by rfl))))) (xm (xad (xcl))) (x9))))
   (xm (xad (xcl))))),?_⟩
  obtain⟨lw,hln,nin,hlp,pl,n12,q⟩:=h;have qll:=pl.len;have BIG:∀{n:Nat},n<=12->n<sizeLine:=fun h=>ZG (by omega:_<=1000) (by decide);refine⟨_,rfl,lp,rfl,⟨_,SqL.of hlp⟩,fun l1 hl1=>?_⟩;refine xcu (SqL.of hlp) (by rw[Zc]; exact BIG (by omega)) hl1 (fun i y _=>∃ p:Pr,prs[i]?=some p/\y=.str p.1.nm) (fun _ _ _ _ _ z=>z) (fun i x H2 hx s2 N hN=>?_) (fun ys H2 s2 e2 ly fy=>?_)
  .rw [Zf,Zj] at hx;obtain⟨qa,hqa,rfl⟩:=hx;obtain⟨p,hp,hpq⟩:=pl.get hqa;exact⟨qa,_,rfl,SqT.of (s2 _ _ hpq),rfl,_,_,rfl,_,_,rfl,_,_,rfl,rfl,_,rfl,hN _ _ (Same.refl _) ⟨p,hp,rfl⟩⟩
  have ey:ys=(prs.map (·.1.nm)).map V.str:=by
   refine xpl (by rw[ly,Zc,Zc,qll]) fun i y b hy hb=>?_;obtain⟨p,hp,rfl⟩:=fy i y hy;rw[Zf,hp] at hb;cases hb;rfl
  rw[ey] at e2;have hln2:=s2 _ _ hln;have hlp2:=s2 _ _ hlp;refine⟨_,rfl,1,1,_,_,xc2 e2,xc2 hln2,by decide,by decide,_,rfl,ite2 (fun c=>?_) (fun c=>?_)⟩
  .rw [xpk] at c;have c:¬ (prs.map (·.1.nm))=names:=by simpa using c
   have g:gvL lens names prs=false:=by
    unfold gvL;rw[decide_eq_false c];rfl
   rw[g] at q;exact q _ s2
  .rw [xpk] at c;have c:(prs.map (·.1.nm))=names:=by simpa using c
   have eg:gvL lens names prs=(decide ((prs.map (·.2)).Nodup)&&prs.all fun p=>decide (p.2∈xaf lens p.1.nm)):=by
    unfold gvL;rw[decide_eq_true c];rfl
   rw[eg] at q;refine⟨_,rfl,lp,rfl,⟨_,SqL.of hlp2⟩,fun l3 hl3=>?_⟩;refine xcu (SqL.of hlp2) (by rw[Zc]; exact BIG (by omega)) hl3 (fun i y H=>∃(p:Pr) (qa:Addr),prs[i]?=some p/\y=.ref qa/\H qa=some (.tup (xau p.2))) (fun _ _ _ _ tp ⟨p,qa,z1,z2,z3⟩=>⟨p,qa,z1,z2,tp _ _ z3⟩) (fun i x H3 hx s3 N hN=>?_) (fun ys3 H3 s3 e3 ly3 fy3=>?_)
   .rw [Zf,Zj] at hx;obtain⟨qa,hqa,rfl⟩:=hx;obtain⟨p,hp,hpq⟩:=pl.get hqa;refine⟨qa,_,rfl,SqT.of (s3 _ _ (s2 _ _ hpq)),rfl,_,_,rfl,_,_,rfl,_,_,rfl,rfl,_,rfl,_,rfl,(by show 2<=sizeLine; decide),fun q5 hq5=>?_⟩;exact hN _ _ (xr (Same.refl _) hq5) ⟨p,q5,hp,rfl,xi⟩
   rw[Zc,qll] at ly3;obtain⟨rs,rfl,sl3⟩:=xal.pick (ss:=prs.map (·.2)) (H:=H3) (ys:=ys3) (by rw[ly3,Zc]) (fun j y s hy hs=>by
    obtain⟨p,qa,z1,z2,z3⟩:=fy3 j y hy;rw[Zf,z1] at hs;cases hs;exact⟨qa,z2,z3⟩)
   have rl:=sl3.len;rw[Zc] at rl;have s03:=s2.trans s3;have hln3:=s03 _ _ hln;have nlen:names.length=prs.length:=by rw[<- c,Zc]
   refine⟨_,rfl,ln,_,rfl,.inl (SqL.of hln3),_,rfl,by rw[Zc]; omega,by rw[Zc]; omega,?_⟩;refine xd2 (Pv:=fun i Z H4=>∃(v4:Option V),Z=[some (.ref d),some (.ref ln),some (.ref lp),some (.ref l3),v4]/\Same H3 H4/\∀(k:Nat) (p:Pr),k<i->prs[k]?=some p->decide (p.2∈xaf lens p.1.nm)=true/\p.2∉(prs.map (·.2)).take k) ?_ ?_ ?_
   .exact ⟨_,rfl,Same.refl _,fun k p z=>absurd z (Nat.not_lt_zero _)⟩
   .rintro k Z H4 hk ⟨v4,rfl,s4,al⟩;have hk':k<prs.length:=by simpa [nlen] using hk
    have s04:=s03.trans s4;have hpk:prs[k]?=some prs[k]:=Za hk';have at_n:atI (names.map V.str) (0+(k:Int))=some (.str prs[k].1.nm):=by
     rw[Int.zero_add];refine xcx ?_;rw[<- c,Zf,Zf,hpk];rfl
    have hrk:rs[k]?=some (rs[k]'(by omega)):=Za (by omega);obtain⟨s0,hs0,hsq⟩:=sl3.get hrk;rw[Zf,hpk] at hs0;have hs0:prs[k].2=s0:=ZN.inj hs0;subst hs0;have at_s:atI (rs.map V.ref) (0+(k:Int))=some (.ref (rs[k]'(by omega))):=by
     rw[Int.zero_add];exact xcx (by rw[Zf,hrk]; rfl)
    have nin':prs[k].1.nm∈alln:=nin _ (by rw[<- c]; exact Zr.mpr ⟨prs[k],Jj hk',rfl⟩);obtain⟨qd,dg,hqd⟩:=(lw.same s04).get nin';refine⟨_,rfl,_,rfl,l3,_,_,_,rfl,rfl,SqL.of (s4 _ _ e3),at_s,_,rfl,_,rfl,_,rfl,ln,_,_,_,rfl,rfl,SqL.of (s04 _ _ hln),at_n,d,.ref qd,rfl,dg,qd,_,rfl,LnT.get hqd (s4 _ _ hsq),_,rfl,?_⟩;have ei:((xck (lens prs[k].1.nm) prs[k].2).map V.int).isSome=decide (prs[k].2∈xaf lens prs[k].1.nm):=by
     rw[Y4,xf2];rfl
    rw[ei];cases hB:decide (prs[k].2∈xaf lens prs[k].1.nm) with
    | false =>
     refine ifP rfl ?_;rw[xjl hpk (.inl hB)] at q;exact q _ s04
    | true =>
     refine ifN rfl ?_;refine⟨_,rfl,_,rfl,l3,_,_,_,rfl,rfl,SqL.of (s4 _ _ e3),at_s,_,rfl,_,rfl,_,rfl,l3,_,rfl,SqL.of (s4 _ _ e3),fun l6 hl6=>?_⟩;rw[xr2];have s6:Same H4 (upd H4 l6 (.lst ((rs.take k).map V.ref))):=xr (Same.refl _) hl6;have g6:upd H4 l6 (.lst ((rs.take k).map V.ref)) l6=some (.lst ((rs.take k).map V.ref)):=xi;revert s6 g6;generalize upd H4 l6 (.lst ((rs.take k).map V.ref))=H6;intro s6 g6;refine⟨1,2,xca prs[k].2,_,xdq (s6 _ _ (s4 _ _ hsq)),((sl3.take k).keep (Same.tups (s4.trans s6))).dv g6,by decide,by decide,_,rfl,ite2 (fun y=>?_) (fun y=>?_)⟩
     .rw [if_neg (by decide),xb1] at y;rw[xjl hpk (.inr (of_decide_eq_true y))] at q;exact q _ (s04.trans s6)
     .rw [if_neg (by decide),xb1] at y;refine⟨_,rfl,s4.trans s6,fun j p hj hp=>?_⟩;rcases Nat.lt_or_ge j k with z|z
      .exact al j p z hp
      .have:j=k:=by omega
       subst this;rw[hpk] at hp;cases hp;exact⟨hB,fun z=>y (decide_eq_true z)⟩
   .rintro Z H4 ⟨v4,rfl,s4,al⟩;rw[xpy (fun k p hp=>al k p (by
     have:=(Zh.mp hp).1;rw[Zc];omega) hp)] at q
    exact q _ (s03.trans s4)
def prD (p:Pr):DV:=.tup [.str p.1.nm,.str (x0 p.2.1),.int p.2.2]
theorem xpt {K:Zd}{H:Hp}{q:Addr}{p:Pr} (h:H q=some (.tup (prV p))):Dv K H 1 (.ref q) (prD p):=by
 refine .tup (SqT.of h) rfl fun j x d h1 h2=>?_
 match j,h1,h2 with
 | 0,h1,h2=>cases h1; cases h2; exact .str
 | 1,h1,h2=>cases h1; cases h2; exact .str
 | 2,h1,h2=>cases h1; cases h2; exact .int
 | j+3,h1,h2=>simp[prV] at h1
theorem PrsL.dv {K:Zd}{H:Hp}{ps:List Pr}{qs:List Addr} (h:PrsL H ps qs) {l:Addr} (e:H l=some (.lst (qs.map V.ref))):Dv K H 2 (.ref l) (.lst (ps.map prD)):=by
 refine .lst (SqL.of e) (by rw[Zc,Zc,h.len]) fun j x d h1 h2=>?_;rw[Zf] at h1 h2;obtain⟨q,hq,rfl⟩:=Zj.mp h1;obtain⟨p,hp,rfl⟩:=Zj.mp h2;obtain⟨p',hp',e'⟩:=h.get hq;rw[hp] at hp';cases hp';exact xpt e'
theorem xs7 {prs:List Pr}{p:Pr} (h:(prs.map prD).any (fun z=>dEq z (prD p))=true):∃ q∈prs,q.1.nm=p.1.nm/\q.2=p.2:=by
 obtain⟨z,hz,e⟩:=Jw.mp h;obtain⟨q,hq,rfl⟩:=Zr.mp hz;have e:=xgc (d:=prD q) (e:=prD p) rfl rfl e;unfold prD at e;simp only[DV.tup.injEq,QH.injEq,DV.str.injEq,DV.int.injEq,and_true] at e;exact⟨q,hq,e.1,Prod.ext (xd7 e.2.1) e.2.2⟩
structure Told (H:Hp) (tp lp d_o d_r:Addr) (qs:List Addr) (prs:List Pr) (lens:Str->List (Seat × Int)) (srt:List Seat) (names:List Str) (own:Str->Int) (rent:Seat->Int) (so:Str->Option Seat) (ho:Seat->Option Str):Prop where
 tp:H tp=some (.tup [.ref lp,.ref d_o,.ref d_r])
 lp:H lp=some (.lst (qs.map V.ref))
 pl:PrsL H prs qs
 en:prs.map (·.1.nm)=names
 al:∀ p∈prs,so p.1.nm=some p.2
 ow:OwD H d_o names own
 rn:RnD H d_r srt rent
 fit:Fit lens names so ho own rent
theorem Told.same {H H':Hp}{tp lp d_o d_r:Addr}{qs:List Addr}{prs:List Pr}{lens:Str->List (Seat × Int)}{srt:List Seat}{names:List Str}{own:Str->Int}{rent:Seat->Int}{so:Str->Option Seat}{ho:Seat->Option Str} (z:Told H tp lp d_o d_r qs prs lens srt names own rent so ho) (s:Same H H'):Told H' tp lp d_o d_r qs prs lens srt names own rent so ho:=⟨s _ _ z.tp,s _ _ z.lp,z.pl.keep (Same.tups s),z.en,z.al,s _ _ z.ow,s _ _ z.rn,z.fit⟩
structure LwS (H:Hp) (d ls ln:Addr) (us:List Addr) (alln names:List Str) (lens:Str->List (Seat × Int)) (srt:List Seat):Prop where
 lw:LwD H d alln lens
 ls:H ls=some (.lst (us.map V.ref))
 sl:xal H srt us
 ln:H ln=some (.lst (names.map V.str))
 nin:∀ x∈names,x∈alln
 nnd:names.Nodup
 n12:names.length<=12
 lo:xcy lens srt
 s32:srt.length<=32
theorem LwS.same {H H':Hp}{d ls ln:Addr}{us:List Addr}{alln names:List Str}{lens:Str->List (Seat × Int)}{srt:List Seat} (z:LwS H d ls ln us alln names lens srt) (s:Same H H'):LwS H' d ls ln us alln names lens srt:=⟨z.lw.same s,s _ _ z.ls,z.sl.keep (Same.tups s),s _ _ z.ln,z.nin,z.nnd,z.n12,z.lo,z.s32⟩
inductive xta (vs:List V) (H:Hp) (Q:VK) (_:XK):Prop
 | mk (d ls ln t2 tp lp d_o d_r:Addr) (us qs:List Addr) (alln names:List Str) (lens:Str->List (Seat × Int)) (srt:List Seat) (prs:List Pr) (own:Str->Int) (rent:Seat->Int) (so:Str->Option Seat) (ho:Seat->Option Str) (e_:vs=[.ref d,.ref ls,.ref ln,.ref lp,.ref t2]) (r_:LwS H d ls ln us alln names lens srt/\Told H tp lp d_o d_r qs prs lens srt names own rent so ho/\H t2=some (.tup [.ref d_o,.ref d_r])/\∀ H',Same H H'->Q .non H')
theorem Told.p12 {H:Hp}{tp lp d_o d_r:Addr}{qs:List Addr}{prs:List Pr}{lens:Str->List (Seat × Int)}{srt:List Seat}{names:List Str}{own:Str->Int}{rent:Seat->Int}{so:Str->Option Seat}{ho:Seat->Option Str} (z:Told H tp lp d_o d_r qs prs lens srt names own rent so ho):prs.length=names.length:=by
 rw[<- z.en,Zc]
theorem Told.free {H:Hp}{tp lp d_o d_r:Addr}{qs:List Addr}{prs:List Pr}{lens:Str->List (Seat × Int)}{srt:List Seat}{names:List Str}{own:Str->Int}{rent:Seat->Int}{so:Str->Option Seat}{ho:Seat->Option Str} (z:Told H tp lp d_o d_r qs prs lens srt names own rent so ho) {s:Seat} (h:s∉prs.map (·.2)):rent s=0:=z.fit.r0 s (by
 cases e:ho s with
 | none=>rfl
 | some n =>
  have y:=(z.fit.mt.iff n s).mpr e;have nin:n∈names:=by
   have:=z.fit.dm n;rw[y] at this;simpa using this.symm
  rw[<- z.en] at nin;obtain⟨p,hp,rfl⟩:=Zr.mp nin;rw[z.al p hp] at y;exact absurd (Zr.mpr ⟨p,hp,ZN.inj y⟩) h)
theorem ok_au (T:Txt w K mg t):FnOk true P w K mg base (CXo P w) 6 t.f_au t.d_au ["_law_lengths_here", "_law_seats", "_law_names_here", "_law_pairs", "_law_prices"] (xta):=by
 refine T.F_au.okn (k:=5) sc_au (fun vs H Q E h=>?_) (fun cdv A outer s H vs Q E hr h=>?_)
 .obtain ⟨d,ls,ln,t2,tp,lp,d_o,d_r,us,qs,alln,names,lens,srt,prs,own,rent,so,ho,rfl,_⟩:=h;rfl
 .obtain ⟨d,ls,ln,t2,tp,lp,d_o,d_r,us,qs,alln,names,lens,srt,prs,own,rent,so,ho,rfl,h⟩:=h;refine⟨_,xj (xdg (pv 4) (xbb rfl (xu (xq (i:=5) sc_au.nd rfl (Zq rfl)) (xu (xq (i:=6) sc_au.nd rfl (Zq rfl)) (xay)))))
   (xj (xaj (xbg (xa3 (x8 (ok_ao T) (hmm hr) rfl T.g_ao T.F_ao.kp T.b_ao .nil xl (xf (pv 0) (xf (pv 2) (xf (pv 3) (xk))))))) (xm (xad (xaq (xf (xa6) (xk))))) (x9))
   (xj (xdv rfl (xbp (zs:=["_law_name", "_law_side", "_law_row"]) (ys:=[]) (fr:=[]) (N0:=["_law_lengths_here", "_law_seats", "_law_names_here", "_law_pairs", "_law_prices", "_law_own", "_law_rent", "_law_taken", "_law_seat", "_law_name", "_law_side", "_law_row", "_law_steps", "_law_price"]) (sc0:=xo s_au) (by decide +kernel) rfl rfl rfl) (xas (pv 3)) (fun _ _ _ _ _ ow nd=>(xbb rfl (xu (xq (i:=0) nd rfl (Zq (ow _ (by simp))) (JD (ow _ (by simp)))) (xu (xq (i:=1) nd rfl (Zq (ow _ (by simp))) (JD (ow _ (by simp)))) (xu (xq (i:=2) nd rfl (Zq (ow _ (by simp))) (JD (ow _ (by simp)))) (xay)))):PG _ _ (gTup K 3 _))) (xc7 (xax (by decide) (xax (by decide) (xax (by decide) (xcp))))) (fun _ _ _ _ _=>xci) (fun _ _ _ _ _=>xaq (xf (pv 1) (xf (pv 2) (xk)))) (j:=7) rfl (Zq rfl))
   (xj (xa0 ZA rfl (xas (pv 1)) (xq (i:=8) sc_au.nd rfl (Zq rfl)) (xm (xaj (PW.pt (xbw (xac xh8 (xa9 (xam hr) (pv 6) (pv 8) (fun _ _=>rfl)) (xn) (xag _)) (xbs (PW.pt (xge (xac (xdl (xbj hr)) (pv 8) (pv 7) (by rfl)) (xfg (xac xev (xa9 (xam hr) (pv 6) (pv 8) (fun _ _=>rfl)) (xn) (xag _)))))))) (xm (xad (xaq (xf (xa6) (xf (xbc xb4 (pv 8) (xn) (fun _ _=>rfl)) (xf (xbc xb4 (pv 8) (xn) (fun _ _=>rfl)) (xk))))))) (x9))))
   (xj (xa0 ZA rfl (xas (pv 2)) (xq (i:=9) sc_au.nd rfl (Zq rfl)) (xm (xa0 ZA rfl (xas (pv 1)) (xbb rfl (xu (xq (i:=10) sc_au.nd rfl (Zq rfl)) (xu (xq (i:=11) sc_au.nd rfl (Zq rfl)) (xay)))) (xj (xz (i:=12) sc_au.nd rfl (Zq rfl) (xix (xam hr) (xa9 (xam hr) (pv 0) (pv 9) (fun _ _=>rfl)) (xaq (xf (pv 10) (xf (pv 11) (xk)))) ⟨rfl,rfl,rfl,rfl⟩))
   (xm (xaj (xac xfj (pv 12) (xb6) (xag _)) (xj (xz (i:=13) sc_au.nd rfl (Zq rfl) (xw xa4 (xa9 (xam hr) (pv 5) (pv 9) (fun _ _=>rfl)) (xa9 (xam hr) (pv 6) (xaq (xf (pv 10) (xf (pv 11) (xk)))) (fun _ _=>rfl))))
   (xm (xaj (PW.pt (xbw (xac xh8 (pv 13) (pv 12) (xag _)) (xbs (PW.pt (xge (xac xev (pv 13) (pv 12) (xag _)) (xfg (xac (xmq (xbj hr)) (xaq (xf (pv 9) (xf (pv 10) (xf (pv 11) (xk))))) (pv 3) (by rfl)))))))) (xm (xad (xaq (xf (xa6) (xf (pv 9) (xf (pv 10) (xf (pv 11) (xk)))))))) (x9)))) (x9)))))))
   (xm (xad (xb6))))))),?_⟩
  obtain⟨lw,td,ht2,q⟩:=h;have n12:=lw.n12;have p12:=td.p12;have s32:=lw.s32;have BIG:∀{n:Nat},n<=1000->n<sizeLine:=fun h=>ZG h (by decide);obtain⟨gvT,_⟩:=td.fit.tight lw.lo lw.nnd td.en td.al;have qll:=td.pl.len;have usl:=lw.sl.len;refine⟨_,rfl,t2,_,rfl,SqT.of ht2,rfl,_,_,rfl,_,_,rfl,rfl,?_⟩;refine⟨_,rfl,_,rfl,_,rfl,d,ln,lp,alln,names,lens,prs,qs,rfl,lw.lw,lw.ln,lw.nin,td.lp,td.pl,by omega,fun H1 s1=>⟨_,rfl,ifN (by rw[gvT]; rfl) ?_⟩⟩;have td1:=td.same s1;refine⟨_,rfl,lp,rfl,⟨_,SqL.of td1.lp⟩,fun l2 hl2=>?_⟩;refine xcu (SqL.of td1.lp) (by rw[Zc]; exact BIG (by omega)) hl2 (fun i y H=>∃(p:Pr) (qa:Addr),prs[i]?=some p/\y=.ref qa/\H qa=some (.tup (xau p.2))) (fun _ _ _ _ tp ⟨p,qa,z1,z2,z3⟩=>⟨p,qa,z1,z2,tp _ _ z3⟩) (fun i x H3 hx s3 N hN=>?_) (fun ys3 H2 s2 e2 ly3 fy3=>?_)
  .rw [Zf,Zj] at hx;obtain⟨qa,hqa,rfl⟩:=hx;obtain⟨p,hp,hpq⟩:=td1.pl.get hqa;refine⟨qa,_,rfl,SqT.of (s3 _ _ hpq),rfl,_,_,rfl,_,_,rfl,_,_,rfl,rfl,_,rfl,_,rfl,(by show 2<=sizeLine; decide),fun q5 hq5=>?_⟩;exact hN _ _ (xr (Same.refl _) hq5) ⟨p,q5,hp,rfl,xi⟩
  rw[Zc,qll] at ly3;obtain⟨rs,rfl,sl2⟩:=xal.pick (ss:=prs.map (·.2)) (H:=H2) (ys:=ys3) (by rw[ly3,Zc]) (fun j y s hy hs=>by
   obtain⟨p,qa,z1,z2,z3⟩:=fy3 j y hy;rw[Zf,z1] at hs;cases hs;exact⟨qa,z2,z3⟩)
  have s02:=s1.trans s2;have lw2:=lw.same s02;have td2:=td.same s02;refine⟨_,rfl,ls,rfl,⟨_,SqL.of lw2.ls⟩,?_⟩;refine xa7 (xs:=us.map V.ref) (Pv:=fun i Z H3=>∃(v8:Option V),Z=[some (.ref d),some (.ref ls),some (.ref ln),some (.ref lp),some (.ref t2),some (.ref d_o),some (.ref d_r),some (.ref l2),v8,none,none,none,none,none]/\H2=H3) ?_ ?_ ?_ ?_
  .exact ⟨_,rfl,rfl⟩
  .rintro i Z H3 _ ⟨_,rfl,rfl⟩;exact SqL.of lw2.ls
  .rintro i x Z H3 hx ⟨v8,rfl,rfl⟩;rw[Zf,Zj] at hx;obtain⟨qa,hqa,rfl⟩:=hx;obtain⟨s,hs,hsq⟩:=lw2.sl.get hqa;have rg:=td2.rn.get (Zl hs) hsq;have rl:=td2.fit.rl s;refine⟨_,rfl,_,rfl,d_r,.int (rent s),rfl,rg,_,_,rfl,rfl,_,rfl,ifN (decide_eq_false (by omega)) ?_⟩;refine⟨_,rfl,_,rfl,1,2,xca s,_,xdq hsq,sl2.dv e2,by decide,by decide,_,rfl,ite2 (fun y=>?_) (fun y=>⟨_,rfl,rfl⟩)⟩;rw[if_pos rfl,xb1] at y;have y:s∉prs.map (·.2):=by simpa using y
   have r0:=td2.free y;exact⟨_,rfl,_,rfl,d_r,.int (rent s),rfl,rg,_,_,rfl,rfl,_,rfl,ifN (decide_eq_false (by omega)) ⟨_,rfl,rfl⟩⟩
  rintro Z H3 ⟨v8,rfl,rfl⟩;refine⟨_,rfl,ln,rfl,⟨_,SqL.of lw2.ln⟩,?_⟩;refine xa7 (xs:=names.map V.str) (Pv:=fun i Z H3=>∃(v9 v10 v11 v12 v13:Option V),Z=[some (.ref d),some (.ref ls),some (.ref ln),some (.ref lp),some (.ref t2),some (.ref d_o),some (.ref d_r),some (.ref l2),v8,v9,v10,v11,v12,v13]/\Same H2 H3) ?_ ?_ ?_ ?_
  .exact ⟨_,_,_,_,_,rfl,Same.refl _⟩
  .rintro i Z H3 _ ⟨_,_,_,_,_,rfl,s3⟩;exact SqL.of (s3 _ _ lw2.ln)
  .rintro i x Z H3 hx ⟨v9,v10,v11,v12,v13,rfl,s3⟩;rw[Zf,Zj] at hx;obtain⟨nm,hnm,rfl⟩:=hx;have mnm:=Zl hnm;have lw3:=lw2.same s3;refine⟨_,rfl,ls,rfl,⟨_,SqL.of lw3.ls⟩,?_⟩;refine xa7 (xs:=us.map V.ref) (Pv:=fun i Z H4=>∃(v10 v11 v12 v13:Option V),Z=[some (.ref d),some (.ref ls),some (.ref ln),some (.ref lp),some (.ref t2),some (.ref d_o),some (.ref d_r),some (.ref l2),v8,some (.str nm),v10,v11,v12,v13]/\Same H2 H4) ?_ ?_ ?_ ?_
   .exact ⟨_,_,_,_,rfl,s3⟩
   .rintro j Z H4 _ ⟨_,_,_,_,rfl,s4⟩;exact SqL.of (s4 _ _ lw2.ls)
   .rintro j x Z H4 hx ⟨v10,v11,v12,v13,rfl,s4⟩;rw[Zf,Zj] at hx;obtain⟨qa,hqa,rfl⟩:=hx;have lw4:=lw2.same s4;have td4:=td2.same s4;obtain⟨s,hs,hsq⟩:=lw4.sl.get hqa;obtain⟨qd,dg,hqd⟩:=lw4.lw.get (lw4.nin nm mnm);refine⟨qa,_,rfl,SqT.of hsq,rfl,_,_,rfl,_,_,rfl,rfl,?_⟩;refine⟨_,rfl,_,rfl,d,.ref qd,rfl,dg,qd,rfl,.inr ⟨_,.inl hqd⟩,_,rfl,_,rfl,(by show 2<=sizeLine; decide),fun q5 hq5=>?_⟩;have s5:Same H4 (upd H4 q5 (.tup [.str (x0 s.1),.int s.2])):=xr (Same.refl _) hq5;have g5:upd H4 q5 (.tup [.str (x0 s.1),.int s.2]) q5=some (.tup (xau s)):=xi;revert s5 g5;generalize upd H4 q5 (.tup [.str (x0 s.1),.int s.2])=H5;intro s5 g5;refine⟨_,LnT.get (s5 _ _ hqd) g5,?_⟩;cases hl:xck (lens nm) s with
    | none=>exact⟨_,rfl,rfl,_,rfl,ifN (by decide) ⟨_,_,_,_,rfl,s4.trans s5⟩⟩
    | some l =>
     have le:=td4.fit.le nm mnm _ (xfd hl);have le:own nm+rent s<=l:=le;refine⟨_,rfl,rfl,_,rfl,ifP (by rfl) ?_⟩;refine⟨_,rfl,_,rfl,d_o,.int (own nm),rfl,(td4.same s5).ow.get mnm,_,rfl,_,rfl,_,rfl,(by show 2<=sizeLine; decide),fun q6 hq6=>?_⟩;have s6:Same H5 (upd H5 q6 (.tup [.str (x0 s.1),.int s.2])):=xr (Same.refl _) hq6;have g6:upd H5 q6 (.tup [.str (x0 s.1),.int s.2]) q6=some (.tup (xau s)):=xi;revert s6 g6;generalize upd H5 q6 (.tup [.str (x0 s.1),.int s.2])=H6;intro s6 g6;have td6:=td4.same (s5.trans s6);refine⟨d_r,.int (rent s),rfl,td6.rn.get (Zl hs) g6,_,_,rfl,rfl,?_⟩;refine⟨_,rfl,_,rfl,_,_,rfl,rfl,_,rfl,ifN (decide_eq_false (by omega)) ?_⟩;refine⟨_,rfl,_,rfl,_,_,rfl,rfl,_,rfl,ite2 (fun y=>?_) (fun y=>⟨_,_,_,_,rfl,s4.trans (s5.trans s6)⟩)⟩;have y:own nm+rent s<l:=of_decide_eq_true y;refine⟨_,rfl,_,rfl,_,rfl,(by show 3<=sizeLine; decide),fun q7 hq7=>?_⟩;have s7:Same H6 (upd H6 q7 (.tup [.str nm,.str (x0 s.1),.int s.2])):=xr (Same.refl _) hq7;have g7:upd H6 q7 (.tup [.str nm,.str (x0 s.1),.int s.2]) q7=some (.tup [.str nm,.str (x0 s.1),.int s.2]):=xi;revert s7 g7;generalize upd H6 q7 (.tup [.str nm,.str (x0 s.1),.int s.2])=H7;intro s7 g7;have td7:=td6.same s7;refine⟨_,rfl,1,2,prD (⟨nm,0,0,Zn "",0,0⟩,s),_,xpt (p:=(⟨nm,0,0,Zn "",0,0⟩,s)) g7,td7.pl.dv td7.lp,by decide,by decide,_,rfl,ite2 (fun y2=>?_) (fun _=>⟨_,_,_,_,rfl,s4.trans ((s5.trans s6).trans s7)⟩)⟩;exfalso;rw[if_neg (by decide)] at y2;obtain⟨p,hp,e1,e2⟩:=xs7 y2;have e1:p.1.nm=nm:=e1;have e2:p.2=s:=e2;have z:=td7.al p hp;rw[e1,e2] at z;have:=td7.fit.eq nm s z l (xfd hl);omega
   .rintro Z H4 ⟨v10,v11,v12,v13,rfl,s4⟩;exact⟨_,_,_,_,_,rfl,s4⟩
  rintro Z H3 ⟨v9,v10,v11,v12,v13,rfl,s3⟩;exact q _ (s02.trans s3)
theorem xn7 (ns:List Str) (x:Str):(ns.map DV.str).any (fun z=>dEq z (.str x))=decide (x∈ns):=by
 rw[J6,Jw,decide_eq_true_iff];constructor
 .rintro ⟨z,hz,e⟩;obtain⟨y,hy,rfl⟩:=Zr.mp hz;have e:=xgc (d:=.str y) (e:=.str x) rfl rfl e;injection e with e
  exact e▸hy
 .intro h
  exact⟨_,Zr.mpr ⟨x,h,rfl⟩,xbv _⟩
theorem xal.append {H:Hp}{ss ts:List Seat}{qs rs:List Addr} (h:xal H ss qs) (k:xal H ts rs):xal H (ss++ts) (qs++rs):=by
 induction h with
 | nil=>exact k
 | cons h _ ih=>exact .cons h ih
inductive xo1 (vs:List V) (H:Hp) (Q:VK) (_:XK):Prop
 | mk (d ls ln lc:Addr) (us:List Addr) (alln names cn:List Str) (lens:Str->List (Seat × Int)) (srt:List Seat) (e_:vs=[.ref d,.ref ln,.ref lc]) (r_:LwS H d ls ln us alln names lens srt/\H lc=some (.lst (cn.map V.str))/\cn.Nodup/\(∀ z∈cn,z∈names)/\srt.countP (Kp.tog (xaf lens) cn)<cn.length/\∀ H',Same H H'->Q (.bl true) H')
theorem xhe {p:Seat->Bool}{l:List Seat}{i:Nat}{s:Seat} (h:l[i]?=some s):(l.take (i+1)).filter p=if p s=true then (l.take i).filter p++[s] else (l.take i).filter p:=by
 rw[ZP,h,JM];show _++[s].filter p=_;by_cases c:p s=true
 .rw [if_pos c,JC c];rfl
 .rw [if_neg c,Js c];simp
theorem ok_ar (T:Txt w K mg t):FnOk true P w K mg base (CXo P w) 2 t.f_ar t.d_ar ["_law_lengths_here", "_law_names_here", "_law_crowd_here"] (xo1):=by
 refine T.F_ar.okn (k:=1) sc_ar (fun vs H Q E h=>?_) (fun cdv A outer s H vs Q E hr h=>?_)
 .obtain ⟨d,ls,ln,lc,us,alln,names,cn,lens,srt,rfl,_⟩:=h;rfl
 .obtain ⟨d,ls,ln,lc,us,alln,names,cn,lens,srt,rfl,h⟩:=h;refine⟨_,xj (xaj (PW.pt (xbw (xbg (xa3 (xah xbe rfl T.n_isinstance boot_isinstance (xf (pv 2) (xf (xbu (v:=.ty "list") rfl T.n_list boot_list rfl) (xk)))))) (xbs (xac xie (xm4 rfl rfl T.n_len rfl T.n_set (xf (pv 2) (xk))) (xah xba rfl T.n_len YH (xf (pv 2) (xk))) (xag _))))) (xm (xad (xcl))) (x9))
   (xj (xz (i:=3) sc_ar.nd rfl (JD rfl) (xcf (xk)))
   (xj (xa0 ZA rfl (xas (pv 2)) (xq (i:=4) sc_ar.nd rfl (Zq rfl)) (xj (xaj (xac (xdl (xbj hr)) (pv 4) (pv 1) (by rfl)) (xm (xad (xcl))) (x9))
   (xm (xak (xfm Jq PySem.F.slot_list_extend PySem.F.type_list_extend xm9 (pv 3) (xf (xkv (xb3 rfl (xbp (zs:=["_law_seat"]) (ys:=["_law_seats"]) (fr:=[3]) (N0:=["_law_lengths_here", "_law_names_here", "_law_crowd_here", "_law_seats", "_law_name"]) (sc0:=xo s_ar) (by decide +kernel) rfl rfl rfl) (xju (xa9 (xam hr) (pv 0) (pv 4) (fun _ _=>rfl))) (fun _ _ _ _ _ ow nd=>xq (i:=0) nd rfl (Zq (ow _ (by simp))) (JD (ow _ (by simp)))) (xcq (by decide)) (fun _ _ _ _ _=>xei (xac (r:=rInV K true) (xdl (xbj hr)) (pv 0) (pv 1) (by rfl))) (fun _ _ _ _ _=>pv 0))) (xk)))))))
   (xm (xad (xb8 xev (xah xba rfl T.n_len YH (xf (pv 3) (xk))) (xah xba rfl T.n_len YH (xf (pv 2) (xk))) (xag _)))))),?_⟩
  obtain⟨lw,hlc,cnd,cin,few,q⟩:=h;have BIG:∀{n:Nat},n<=1000->n<sizeLine:=fun h=>ZG h (by decide);have s32:=lw.s32;have c12:cn.length<=12:=Z6 (xde cnd cin) lw.n12;refine⟨_,rfl,_,_,rfl,.inl ⟨_,_,true,.lst hlc,rfl,xbl,true,rfl,iteF ?_⟩⟩;refine⟨_,rfl,lc,cn,rfl,SqL.of hlc,by omega,_,rfl,lc,_,rfl,.inl (SqL.of hlc),rfl,_,rfl,ifN (by rw[xmw cnd,Zc]; simp) ?_⟩;refine⟨(by show 0<=sizeLine; decide),fun l3 hl3=>?_⟩;have s1:Same H (upd H l3 (.lst [])):=xr (Same.refl _) hl3;have g1:upd H l3 (.lst []) l3=some (.lst []):=xi;revert s1 g1;generalize upd H l3 (.lst [])=H1;intro s1 g1;have hlc1:=s1 _ _ hlc;refine⟨_,rfl,lc,rfl,⟨_,SqL.of hlc1⟩,?_⟩;refine xa7 (xs:=cn.map V.str) (Pv:=fun i Z H2=>∃(v4:Option V) (bs:List Seat) (qs:List Addr),Z=[some (.ref d),some (.ref ln),some (.ref lc),some (.ref l3),v4]/\Same H H2/\H2 l3=some (.lst (qs.map V.ref))/\xal H2 bs qs/\bs.Nodup/\∀ s∈bs,s∈srt/\Kp.tog (xaf lens) cn s=true) ?_ ?_ ?_ ?_
  .exact ⟨_,[],[],rfl,s1,g1,.nil,JP,fun _ z=>(nomatch z)⟩
  .rintro i Z H2 _ ⟨_,_,_,rfl,s2,_⟩;exact SqL.of (s2 _ _ hlc)
  .rintro i x Z H2 hx ⟨v4,bs,qs,rfl,s2,e2,sl2,bnd,bin⟩;rw[Zf,Zj] at hx;obtain⟨nm,hnm,rfl⟩:=hx;have mc:=Zl hnm;have mn:=cin nm mc;have lw2:=lw.same s2;have b32:bs.length<=32:=Z6 (xde bnd fun s hs=>(bin s hs).1) s32;have qsl:=sl2.len;refine⟨_,rfl,_,rfl,0,1,_,_,.str,xc2 lw2.ln,by decide,by decide,_,rfl,ifN (by rw[if_pos rfl,xn7,decide_eq_true mn]; decide) ?_⟩;obtain⟨qd,dg,hqd⟩:=lw2.lw.get (lw2.nin nm mn);refine⟨_,rfl,.inl ⟨rfl,_,SqL.of e2⟩,_,rfl,_,rfl,d,.ref qd,rfl,dg,qd,_,rfl,hqd,fun ob nf=>fun l7 hl7=>?_⟩;have n3q:l3≠qd:=xp e2 hqd (fun z=>nomatch z);have k5:∀ b u,b≠qd->H2 b=some u->upd H2 qd (.frz ob (.dT (LnT (lens nm)))) b=some u:=fun b u nb e=>by rw[xh nb]; exact e
   have e5:upd H2 qd (.frz ob (.dT (LnT (lens nm)))) qd=some (.frz ob (.dT (LnT (lens nm)))):=xi;have lnl:(LnT (lens nm)).length<=32:=by
    unfold LnT;rw[Zc];have:=xde (lw.lo.nd nm) (lw.lo.ins nm);unfold xaf at this;rw[Zc] at this;omega
   have rml:(xaf lens nm).length=(LnT (lens nm)).length:=by
    unfold LnT xaf;rw[Zc,Zc]
   refine xj6 e5 (BIG (by omega)) hl7 (fun i ys HX=>∃ rs:List Addr,ys=rs.map V.ref/\xal HX (((xaf lens nm).take i).filter fun s=>decide (s∉bs)) rs) (fun HX=>⟨[],rfl,.nil⟩) (fun i ys HX HY tp ⟨rs,z1,z2⟩=>⟨rs,z1,z2.keep tp⟩) (fun i kk x qk H6 ys hkk hqk s6 j6 N M hN hM=>?_) (fun ys H6 s6 e6 ly fy=>?_)
   .obtain ⟨rs,rfl,sl6⟩:=j6;unfold LnT at hkk;rw[Zf,Zj] at hkk;obtain⟨wv,hw,hwk⟩:=hkk;cases hwk;have hqk:H6 qk=some (.tup (xau wv.1)):=hqk;have rat:(xaf lens nm)[i]?=some wv.1:=by
     unfold xaf;rw[Zf,hw];rfl
    have e36:=s6 _ _ (k5 _ _ n3q e2);have sb6:=sl2.keep (fun b xs e=>s6 _ _ (k5 _ _ (xp e hqd (fun z=>nomatch z)) e));refine⟨_,rfl,_,rfl,1,2,xca wv.1,_,xdq hqk,sb6.dv e36,by decide,by decide,_,rfl,ite2 (fun y=>?_) (fun y=>?_)⟩
    .rw [if_pos rfl,xb1] at y;have y:wv.1∉bs:=by simpa using y
     refine⟨_,rfl,hN _ _ (Same.refl _) ⟨rs++[qk],by rw[ZC]; rfl,?_⟩⟩;rw[xhe rat,if_pos (decide_eq_true y)];exact sl6.append (.cons hqk .nil)
    .rw [if_pos rfl,xb1] at y;have y:wv.1∈bs:=by simpa using y
     refine hM _ (Same.refl _) ⟨rs,rfl,?_⟩;rw[xhe rat,if_neg (by simpa using y)];exact sl6
   obtain⟨rs,rfl,sl6⟩:=fy;rw[<- rml,J9] at sl6;refine⟨qd,ob,_,s6 _ _ e5,nf,?_⟩;have k7:∀ b u,H2 b=some u->upd H6 qd (.dT (LnT (lens nm))) b=some u:=fun b u e=>by
    by_cases cb:b=qd
    .subst cb;rw[hqd] at e;cases e;exact xi
    .rw [xh cb];exact s6 _ _ (k5 _ _ cb e)
   have n7:l7≠qd:=fun z=>by rw[z,s6 _ _ e5] at e6; cases e6
   have e7:upd H6 qd (.dT (LnT (lens nm))) l7=some (.lst (rs.map V.ref)):=by rw[xh n7]; exact e6
   have sl7:xal (upd H6 qd (.dT (LnT (lens nm)))) ((xaf lens nm).filter fun s=>decide (s∉bs)) rs:=sl6.keep (fun b xs e=>by rw[xh (xp e (s6 _ _ e5) (fun z=>nomatch z))]; exact e);revert k7 e7 sl7;generalize upd H6 qd (.dT (LnT (lens nm)))=H7;intro k7 e7 sl7;have s27:Same H2 H7:=k7;have rsl:=sl7.len;have fl:((xaf lens nm).filter fun s=>decide (s∉bs)).length<=32:=Z6 (JJ _ _) (by omega);have sl27:=sl2.keep (Same.tups s27);have e37:=s27 _ _ e2;refine⟨l3,l7,_,_,rfl,rfl,e37,e7,by rw[Zc,Zc]; exact Z6 (by omega:_<=1000) (by decide),?_⟩;rw[<- ZC];have k8:∀ b u,b≠l3->H7 b=some u->upd H7 l3 (.lst ((qs++rs).map V.ref)) b=some u:=fun b u nb e=>by rw[xh nb]; exact e
   have g8:upd H7 l3 (.lst ((qs++rs).map V.ref)) l3=some (.lst ((qs++rs).map V.ref)):=xi;revert k8 g8;generalize upd H7 l3 (.lst ((qs++rs).map V.ref))=H8;intro k8 g8;have tp8:Tups H7 H8:=fun c xs e=>k8 _ _ (xp e e37 (fun z=>nomatch z)) e;refine⟨_,bs++(xaf lens nm).filter (fun s=>decide (s∉bs)),qs++rs,rfl,fun b u e=>k8 _ _ (xg e hl3) (s27 _ _ (s2 _ _ e)),g8,(sl27.append sl7).keep tp8,?_,fun s hs=>?_⟩
   .rw [Jc];refine⟨bnd,YJ.filter _ (lw.lo.nd nm),fun a ha b hb e=>?_⟩;subst e;exact of_decide_eq_true (ZR.mp hb).2 ha
   .rcases ZB.mp hs with hs|hs
    .exact bin s hs
    .have m:=(ZR.mp hs).1;exact⟨lw.lo.ins nm s m,by unfold Kp.tog; exact Jw.mpr ⟨nm,mc,by simpa using m⟩⟩
  rintro Z H2 ⟨v4,bs,qs,rfl,s2,e2,sl2,bnd,bin⟩;have qsl:=sl2.len;have le:bs.length<=srt.countP (Kp.tog (xaf lens) cn):=by
   rw[Qu];exact xde bnd fun s hs=>ZR.mpr (bin s hs)
  refine⟨_,rfl,l3,_,rfl,.inl (SqL.of e2),_,rfl,lc,_,rfl,.inl (SqL.of (s2 _ _ hlc)),_,_,rfl,rfl,?_⟩;have e:decide (((qs.map V.ref).length:Int)<((cn.map V.str).length:Int))=true:=by
   rw[Zc,Zc];exact decide_eq_true (by omega)
  show Q (.bl (decide (((qs.map V.ref).length:Int)<((cn.map V.str).length:Int)))) H2;rw[e];exact q _ s2
theorem xnn:∀{a b:List Nat},Jl a b=false->Jl b a=false->a=b
 | [],[],_,_=>rfl
 | [],_::_,h,_=>nomatch h
 | _::_,[],_,h=>nomatch h
 | a::r,b::t,h1,h2=>by
  unfold Jl at h1 h2;rw[Bool.or_eq_false_iff] at h1 h2;obtain⟨h1,h3⟩:=h1;obtain⟨h2,h4⟩:=h2;have h1:=of_decide_eq_false h1;have h2:=of_decide_eq_false h2;have e:a=b:=by omega
  subst e;rw[beq_self_eq_true,Y1] at h3 h4;rw[xnn h3 h4]
theorem xpj:∀{a b c:List Nat},Jl b a=false->Jl c b=false->Jl c a=false
 | [],_,[],_,_=>rfl
 | [],_,_::_,_,_=>rfl
 | _::_,[],_,h,_=>nomatch h
 | _::_,_::_,[],_,h=>nomatch h
 | a::r,b::t,c::u,h1,h2=>by
  unfold Jl at h1 h2 ⊢;rw[Bool.or_eq_false_iff] at h1 h2 ⊢;obtain⟨h1,h3⟩:=h1;obtain⟨h2,h4⟩:=h2;have h1:=of_decide_eq_false h1;have h2:=of_decide_eq_false h2;refine⟨decide_eq_false (by omega),?_⟩;by_cases e:c=a
  .subst e;have e2:b=c:=by omega
   subst e2;rw[beq_self_eq_true,Y1] at h3 h4 ⊢;exact xpj h3 h4
  .rw [beq_eq_false_iff_ne.mpr e,Qb]
theorem xhd:∀{p:Str}{l:List Str},risingS p l=true->(∀ x∈l,Jl x.cps.toList p.cps.toList=false)/\l.Pairwise fun a b=>Jl b.cps.toList a.cps.toList=false
 | _,[],_=>⟨fun _ z=>(nomatch z),.nil⟩
 | p,x::r,h=>by
  unfold risingS at h;rw[ZM] at h;obtain⟨h1,h2⟩:=h;obtain⟨i1,i2⟩:=xhd h2;have h1:Jl x.cps.toList p.cps.toList=false:=by simpa using h1
  refine⟨fun s hs=>?_,JL.mpr ⟨i1,i2⟩⟩;rcases Zz.mp hs with rfl|hs
  .exact h1
  .exact xpj h1 (i1 s hs)
theorem xgj {l:List Str} (h:sortedS l=true):l.Pairwise fun a b=>Jl b.cps.toList a.cps.toList=false:=by
 cases l with
 | nil=>exact .nil
 | cons x r=>exact JL.mpr (xhd h)
theorem xj4 {a b:List Str} (p:a.Perm b) (nd:a.Nodup) (ha:sortedS a=true) (hb:sortedS b=true):a=b:=by
 refine xa1 (R:=fun x y:Str=>Jl y.cps.toList x.cps.toList=false/\x≠y) (fun x y h1 h2=>h1.2 ?_) p ((xgj ha).and nd) ((xgj hb).and (p.nodup_iff.mp nd));have e:=xnn h2.1 h1.1;obtain⟨⟨cx⟩⟩:=x;obtain⟨⟨cy⟩⟩:=y;exact congrArg (fun z=>Str.mk (Array.mk z)) e
inductive xo8 (vs:List V) (H:Hp) (Q:VK) (_:XK):Prop
 | mk (d ls ln tp lp d_o d_r:Addr) (us qs:List Addr) (alln names:List Str) (lens:Str->List (Seat × Int)) (srt:List Seat) (prs:List Pr) (own:Str->Int) (rent:Seat->Int) (so:Str->Option Seat) (ho:Seat->Option Str) (e_:vs=[.ref d,.ref ls,.ref ln,.ref tp]) (r_:LwS H d ls ln us alln names lens srt/\Told H tp lp d_o d_r qs prs lens srt names own rent so ho/\srt.Pairwise xbk/\∀ H',Same H H'->Q (.bl true) H')
theorem ok_ah (T:Txt w K mg t):FnOk true P w K mg base (CXo P w) 7 t.f_ah t.d_ah ["_law_lengths_here", "_law_seats", "_law_names_here", "_law_found"] (xo8):=by
 refine T.F_ah.okn (k:=6) sc_ah (fun vs H Q E h=>?_) (fun cdv A outer s H vs Q E hr h=>?_)
 .obtain ⟨d,ls,ln,tp,lp,d_o,d_r,us,qs,alln,names,lens,srt,prs,own,rent,so,ho,rfl,_⟩:=h;rfl
 .obtain ⟨d,ls,ln,tp,lp,d_o,d_r,us,qs,alln,names,lens,srt,prs,own,rent,so,ho,rfl,h⟩:=h;refine⟨_,xj (xaj (PW.pt (xbw (xbg (xa3 (xah xbe rfl T.n_isinstance boot_isinstance (xf (pv 3) (xf (xbu (v:=.ty "tuple") rfl T.n_tuple boot_tuple rfl) (xk)))))) (xbw (xac xie (xah xba rfl T.n_len YH (xf (pv 3) (xk))) (xn) (xag _)) (xbs (xbg (xa3 (xah xbe rfl T.n_isinstance boot_isinstance (xf (xbc xb4 (pv 3) (xn) (fun _ _=>rfl)) (xf (xbu (v:=.ty "list") rfl T.n_list boot_list rfl) (xk)))))))))) (xm (xad (xcl))) (x9))
   (xj (xdg (pv 3) (xbb rfl (xu (xq (i:=4) sc_ah.nd rfl (Zq rfl)) (xu (xq (i:=5) sc_ah.nd rfl (Zq rfl)) (xu (xq (i:=6) sc_ah.nd rfl (Zq rfl)) (xay))))))
   (xj (xa0 ZA rfl (xas (pv 4)) (xq (i:=7) sc_ah.nd rfl (Zq rfl)) (xm (xaj (PW.pt (xbw (xbg (xa3 (xah xbe rfl T.n_isinstance boot_isinstance (xf (pv 7) (xf (xbu (v:=.ty "tuple") rfl T.n_tuple boot_tuple rfl) (xk)))))) (xbs (xac xie (xah xba rfl T.n_len YH (xf (pv 7) (xk))) (xn) (xag _))))) (xm (xad (xcl))) (x9))))
   (xj (xaj (PW.pt (xbw (xbg (xa3 (xah xbe rfl T.n_isinstance boot_isinstance (xf (pv 5) (xf (xbu (v:=.ty "dict") rfl T.n_dict boot_dict rfl) (xk)))))) (xbs (xbg (xa3 (xah xbe rfl T.n_isinstance boot_isinstance (xf (pv 6) (xf (xbu (v:=.ty "dict") rfl T.n_dict boot_dict rfl) (xk))))))))) (xm (xad (xcl))) (x9))
   (xj (xaj (PW.pt (xbw (xac (xej (xbj hr)) (xah (xe4 rfl) rfl T.n_sorted PyProof.Rows.Boot.«sorted» (xf (pv 5) (xk))) (xah (xe4 rfl) rfl T.n_sorted PyProof.Rows.Boot.«sorted» (xf (pv 2) (xk))) (xag _)) (xbs (xac (xej (xbj hr)) (xah (xe1 rfl) rfl T.n_sorted PyProof.Rows.Boot.«sorted» (xf (pv 6) (xk))) (pv 1) (xag _))))) (xm (xad (xcl))) (x9))
   (xj (xaj (xac xh8 (xah xba rfl T.n_len YH (xf (xb3 rfl (xbp (zs:=["_law_price"]) (ys:=[]) (fr:=[]) (N0:=["_law_lengths_here", "_law_seats", "_law_names_here", "_law_found", "_law_pairs", "_law_own", "_law_rent", "_law_pair"]) (sc0:=xo s_ah) (by decide +kernel) rfl rfl rfl) (xas (xw xs1 (xjy rfl rfl T.n_list (pv 5)) (xig rfl rfl T.n_list (pv 6)))) (fun _ _ _ _ _ ow nd=>xq (i:=0) nd rfl (Zq (ow _ (by simp))) (JD (ow _ (by simp)))) (xcq (by decide)) (fun _ _ _ _ _=>xei (xbg (xa3 (x8 (ok_at T) (hmm hr) rfl T.g_at T.F_at.kp T.b_at .nil xl (xf (pv 0) (xk)))))) (fun _ _ _ _ _=>pv 0)) (xk))) (xn) (xag _)) (xm (xad (xcl))) (x9))
   (xm (xad (xb8 xi5 (x8 (ok_au T) (hmm hr) rfl T.g_au T.F_au.kp T.b_au .nil xl (xf (pv 0) (xf (pv 1) (xf (pv 2) (xf (pv 4) (xf (xaq (xf (pv 5) (xf (pv 6) (xk)))) (xk))))))) (xb6) (xag _))))))))),?_⟩
  obtain⟨lw,td,slt,q⟩:=h;have BIG:∀{n:Nat},n<=1000->n<sizeLine:=fun h=>ZG h (by decide);have n12:=lw.n12;have s32:=lw.s32;have htp:=td.tp;have how:=td.ow;have hrn:=td.rn;unfold OwD at how;unfold RnD at hrn;refine⟨_,rfl,_,_,rfl,.inl ⟨_,_,true,.tup htp,rfl,xbl,true,rfl,iteF ?_⟩⟩;refine⟨_,rfl,tp,_,rfl,.inr (SqT.of htp),rfl,_,rfl,ifN (by simp) ?_⟩;refine⟨_,rfl,tp,_,0,.ref lp,rfl,rfl,SqT.of htp,rfl,_,_,rfl,.inl ⟨_,_,true,.lst td.lp,rfl,xbl,true,rfl,iteF ?_⟩⟩;refine⟨_,rfl,tp,_,rfl,SqT.of htp,rfl,_,_,rfl,_,_,rfl,_,_,rfl,rfl,?_⟩;refine⟨_,rfl,lp,rfl,⟨_,SqL.of td.lp⟩,?_⟩;refine xa7 (xs:=qs.map V.ref) (Pv:=fun i Z H2=>∃(v7:Option V),Z=[some (.ref d),some (.ref ls),some (.ref ln),some (.ref tp),some (.ref lp),some (.ref d_o),some (.ref d_r),v7]/\H=H2) ?_ ?_ ?_ ?_
  .exact ⟨_,rfl,rfl⟩
  .rintro i Z H2 _ ⟨_,rfl,rfl⟩;exact SqL.of td.lp
  .rintro i x Z H2 hx ⟨v7,rfl,rfl⟩;rw[Zf,Zj] at hx;obtain⟨qa,hqa,rfl⟩:=hx;obtain⟨p,hp,hpq⟩:=td.pl.get hqa;refine⟨_,rfl,_,_,rfl,.inl ⟨_,_,true,.tup hpq,rfl,xbl,true,rfl,iteF ?_⟩⟩;exact⟨_,rfl,qa,_,rfl,.inr (SqT.of hpq),rfl,_,rfl,ifN (by simp[prV]) ⟨_,rfl,rfl⟩⟩
  rintro Z H2 ⟨v7,rfl,rfl⟩;refine⟨_,rfl,_,_,rfl,.inl ⟨_,_,true,.dK how,rfl,xbl,true,rfl,iteF ?_⟩⟩;refine⟨_,rfl,_,_,rfl,.inl ⟨_,_,true,.dT hrn,rfl,xbl,true,rfl,iteF ?_⟩⟩;refine⟨_,rfl,d_o,names,rfl,.inr ⟨_,how,by rw[Z7]; rfl⟩,by omega,fun l1 n1 hl1 pm1 so1=>?_⟩;have s1:Same H (upd H l1 (.lst (n1.map V.str))):=xr (Same.refl _) hl1;have g1:upd H l1 (.lst (n1.map V.str)) l1=some (.lst (n1.map V.str)):=xi;revert s1 g1;generalize upd H l1 (.lst (n1.map V.str))=H1;intro s1 g1;refine⟨_,rfl,ln,names,rfl,.inl (s1 _ _ lw.ln),by omega,fun l2 n2 hl2 pm2 so2=>?_⟩;have s2:Same H1 (upd H1 l2 (.lst (n2.map V.str))):=xr (Same.refl _) hl2;have g2:upd H1 l2 (.lst (n2.map V.str)) l2=some (.lst (n2.map V.str)):=xi;revert s2 g2;generalize upd H1 l2 (.lst (n2.map V.str))=H2;intro s2 g2;have e12:n1=n2:=xj4 (pm1.trans pm2.symm) (pm1.nodup_iff.mpr lw.nnd) so1 so2;subst e12;refine⟨1,1,_,_,xc2 (s2 _ _ g1),xc2 g2,by decide,by decide,_,rfl,ifN (by rw[xbv]; decide) ?_⟩;have s02:=s1.trans s2;have ek:(srt.map fun s=>(xt s,V.int (rent s))).map (·.1)=srt.map xt:=by
   rw[Z7];rfl
  refine⟨_,rfl,d_r,_,[false,true],rfl,s02 _ _ hrn,by rw[Zc]; omega,fun p hp=>?_,by decide,fun l3 ts hl3 tm pm pw'=>?_⟩
  .obtain ⟨s,_,rfl⟩:=Zr.mp hp;rfl
  rw[ek] at pm;have back:∀ t∈ts,xt (unK t.1)=t.1:=fun t ht=>by
   obtain⟨s,_,e⟩:=Zr.mp (pm.mem_iff.mp (Zr.mpr ⟨t,ht,rfl⟩));rw[<- e,xeq]
  have sl3:xal H2 ((ts.map (·.1)).map unK) (ts.map (·.2)):=by
   clear pm pw'
   induction ts with
   | nil=>exact .nil
   | cons t ts ih =>
    refine .cons ?_ (ih (fun x hx=>tm x (Zm _ hx)) fun x hx=>back x (Zm _ hx));have e:=tm t Zp;rw[<- back t Zp] at e;exact e
  have es:(ts.map (·.1)).map unK=srt:=by
   refine xa1 xbt ?_ ?_ slt
   .have z2:=pm.map unK;have e2:(srt.map xt).map unK=srt:=by
     rw[Z7,show (unK∘xt)=id from funext xeq];exact YA _
    rw[e2] at z2;exact z2
   .rw [Yd] at pw';rw[Z7,Yd];refine pw'.imp_of_mem fun {x y} hx hy hxy=>xiw ?_;show lexK (xt (unK x.1)) (xt (unK y.1))=true;rw[back x hx,back y hy];exact hxy
  rw[es] at sl3;rw[show (ts.map fun t=>V.ref t.2)=(ts.map (·.2)).map V.ref by rw[Z7]; rfl];have s3:Same H2 (upd H2 l3 (.lst ((ts.map (·.2)).map V.ref))):=xr (Same.refl _) hl3;have g3:upd H2 l3 (.lst ((ts.map (·.2)).map V.ref)) l3=some (.lst ((ts.map (·.2)).map V.ref)):=xi;revert s3 g3;generalize upd H2 l3 (.lst ((ts.map (·.2)).map V.ref))=H3;intro s3 g3;have s03:=s02.trans s3;refine⟨_,rfl,2,2,_,_,(sl3.keep (Same.tups s3)).dv g3,(lw.sl.keep (Same.tups s03)).dv (s03 _ _ lw.ls),by decide,by decide,_,rfl,ifN (by rw[xbv]; decide) ?_⟩;refine⟨_,rfl,d_o,_,rfl,s03 _ _ how,fun l4 hl4=>?_⟩;rw[show (names.map fun n=>((.inr n:Key),V.int (own n))).map (·.2)=(names.map own).map V.int by rw[Z7,Z7]; rfl];have s4:Same H3 (upd H3 l4 (.lst ((names.map own).map V.int))):=xr (Same.refl _) hl4;have g4:upd H3 l4 (.lst ((names.map own).map V.int)) l4=some (.lst ((names.map own).map V.int)):=xi;revert s4 g4;generalize upd H3 l4 (.lst ((names.map own).map V.int))=H4;intro s4 g4;refine⟨_,rfl,d_r,_,rfl,(s03.trans s4) _ _ hrn,fun l5 hl5=>?_⟩;rw[show (srt.map fun s=>(xt s,V.int (rent s))).map (·.2)=(srt.map rent).map V.int by rw[Z7,Z7]; rfl];have s5:Same H4 (upd H4 l5 (.lst ((srt.map rent).map V.int))):=xr (Same.refl _) hl5;have g5:upd H4 l5 (.lst ((srt.map rent).map V.int)) l5=some (.lst ((srt.map rent).map V.int)):=xi;revert s5 g5;generalize upd H4 l5 (.lst ((srt.map rent).map V.int))=H5;intro s5 g5;refine⟨l4,l5,_,_,rfl,rfl,s5 _ _ g4,g5,by simp only[Zc]; exact Z6 (by omega:_<=1000) (by decide),fun l6 hl6=>?_⟩;rw[<- ZC];have s6:Same H5 (upd H5 l6 (.lst ((names.map own++srt.map rent).map V.int))):=xr (Same.refl _) hl6;have g6:upd H5 l6 (.lst ((names.map own++srt.map rent).map V.int)) l6=some (.lst ((names.map own++srt.map rent).map V.int)):=xi;revert s6 g6;generalize upd H5 l6 (.lst ((names.map own++srt.map rent).map V.int))=H6;intro s6 g6;refine⟨l6,rfl,⟨_,SqL.of g6⟩,fun l7 hl7=>?_⟩;refine xet (SqL.of g6) (by simp only[Zc,Zu]; exact BIG (by omega)) hl7 (fun _=>false) (fun _ _ _=>False) (fun _ _ _ _ _ z=>z) (fun i x H7 hx s7 N M hN hM=>?_) (fun ys H7 s7 e7 ly fy=>?_)
  .rw [Zf,Zj] at hx;obtain⟨n,_,rfl⟩:=hx;exact⟨_,rfl,n,rfl,_,rfl,ifN (by decide) (hM _ (Same.refl _) rfl)⟩
  have ly:ys.length=0:=by
   rw[ly];simp
  refine⟨l7,_,rfl,.inl (SqL.of e7),_,_,rfl,rfl,_,rfl,ifN (by rw[ly]; decide) ?_⟩;have s07:=((s03.trans s4).trans (s5.trans s6)).trans s7;refine⟨_,rfl,_,rfl,_,rfl,_,rfl,_,rfl,_,rfl,(by show 2<=sizeLine; decide),fun t2 ht2=>?_⟩;have s8:Same H7 (upd H7 t2 (.tup [.ref d_o,.ref d_r])):=xr (Same.refl _) ht2;have g8:upd H7 t2 (.tup [.ref d_o,.ref d_r]) t2=some (.tup [.ref d_o,.ref d_r]):=xi;revert s8 g8;generalize upd H7 t2 (.tup [.ref d_o,.ref d_r])=H8;intro s8 g8;have s08:=s07.trans s8;refine⟨d,ls,ln,t2,tp,lp,d_o,d_r,us,qs,alln,names,lens,srt,prs,own,rent,so,ho,rfl,lw.same s08,td.same s08,g8,fun H9 s9=>?_⟩;exact⟨rfl,q _ (s08.trans s9)⟩
theorem xs8 {α:Type}{l:List α}{i:Nat} (h:i<l.length) {x:α} (e:l[l.length-1-i]?=some x):l.reverse[i]?=some x:=by
 rw[List.getElem?_reverse h];exact e
theorem xda.at_ {w h:Int}{ps:List Pt} (o:xda w h ps) {i:Nat}{p:Pt} (e:ps[i]?=some p):PtOk w h p/\(∀ q∈ps.take i,q.nm≠p.nm/\q.x≠p.x/\q.y≠p.y)/\i<12:=by
 obtain⟨hi,rfl⟩:=Zh.mp e;refine⟨o.ok _ (Jj hi),fun q hq=>⟨xcw (·.nm) o.nn hi q hq,xcw (·.x) o.nx hi q hq,xcw (·.y) o.ny hi q hq⟩,by have:=o.le; omega⟩
theorem lk_1 {f:Str}{v:V}{r:List (Str × V)}:((f,v)::r).lookup f=some v:=by simp
theorem xmm {h:Nat} (h16:h<=16) {ss:List Seat} (nd:ss.Nodup) (b:∀ s∈ss,1<=s.2/\s.2<=(h:Int)) {s:Seat} (ns:s∉ss) (s1:1<=s.2) (s2:s.2<=(h:Int)):ss.length<32:=by
 have nd1:(s::ss).Nodup:=ZQ.mpr ⟨ns,nd⟩;have b1:∀ z∈s::ss,1<=z.2/\z.2<=16:=fun z hz=>by
  rcases Zz.mp hz with rfl|hz
  .omega
  .have:=b z hz;omega
 have nd2:((s::ss).map fun z:Seat=>(if z.1 then 0 else 16)+(z.2-1).toNat).Nodup:=by
  rw[Q3,Yd];refine YJ.imp_of_mem ?_ nd1;intro x y hx hy ne e;have bx:=b1 x hx;have by_:=b1 y hy;obtain⟨x1,x2⟩:=x;obtain⟨y1,y2⟩:=y
  dsimp only at e bx by_
  apply ne;cases x1<;>cases y1
  .exact Prod.ext rfl (by simp at e; show x2=y2; omega)
  .simp at e; omega
  .simp at e; omega
  .exact Prod.ext rfl (by simp at e; show x2=y2; omega)
 have:=xde (m:=ZI 32) nd2 (fun z hz=>by
  obtain⟨x,hx,rfl⟩:=Zr.mp hz;have bx:=b1 x hx;refine Q6.mpr ?_;split<;>omega)
 rw[Zc,Y5,ZJ] at this;omega
def AskL (H:Hp) (w:Nat) (ps:List Pt) (srt:List Seat) (names:List Str) (fv cv:V) (H0:Hp):Prop :=
 (∃ tp lp d_o d_r qs prs own rent so ho so0 ho0,fv=.ref tp/\cv=.non/\Run (xaw ps srt) names so0 ho0 []/\LRun (xab w ps srt) names own rent so ho/\Told H tp lp d_o d_r qs prs (xab w ps srt) srt names own rent so ho/\H0 lp=none/\H0 d_o=none/\H0 d_r=none) \/
 ∃ l c r so0 ho0,fv=.non/\cv=.ref l/\Run (xaw ps srt) names so0 ho0 (c::r)/\H l=some (.lst ((c.1::c.2).map V.str))
inductive xp3 (t:Adr) (vs:List V) (H:Hp) (Q:VK) (_:XK):Prop
 | mk (a ln dp do_:Addr) (w h:Nat) (ps:List Pt) (st srt:List Seat) (names:List Str) (e_:vs=[.ref a,.ref ln]) (r_:Dr t H a dp do_ w h ps st srt/\xda (w:Int) (h:Int) ps/\H ln=some (.lst (names.map V.str))/\(∀ nm∈names,∃ p∈ps,p.nm=nm)/\names.Nodup/\names.length<=12/\∀ H' p fv cv,Same H H'->H' p=some (.tup [fv,cv])->AskL H' w ps srt names fv cv H->Q (.ref p) H')
inductive xp8 (t:Adr) (vs:List V) (H:Hp) (Q:VK) (_:XK):Prop
 | mk (a dp do_:Addr) (w h:Nat) (ps:List Pt) (st srt:List Seat) (e_:vs=[.ref a]) (r_:Dr t H a dp do_ w h ps st srt/\xda (w:Int) (h:Int) ps/\∀ H' b dp' do' st',Same H H'->Dr t H' b dp' do' w h ps st' srt->Q (.ref b) H')
theorem ok_ai (T:Txt w K mg t):FnOk true P w K mg base (CXo P w) 10 t.f_ai t.d_ai ["_law_picture_here", "_law_names_here"] (xp3 t):=by
 refine T.F_ai.okn (k:=9) sc_ai (fun vs H Q E h=>?_) (fun cdv A outer s H vs Q E hr h=>?_)
 .obtain ⟨a,ln,dp,do_,w',h',ps,st,srt,names,rfl,_⟩:=h;rfl
 .obtain ⟨a,ln,dp,do_,w',h',ps,st,srt,names,rfl,h⟩:=h;refine⟨_,xj (xz (i:=2) sc_ai.nd rfl (Zq rfl) (xb6))
   (xj (xz (i:=3) sc_ai.nd rfl (Zq rfl) (xb6))
   (xj (xq9 (E:=(fun σ' e C' H'=>∃ dx l so0 ho0 c r,σ'=[some (.ref a),some (.ref ln),some .non,some .non,none]/\C'=t.C_ac/\Rsd t H H' e dx l (c.1::c.2)/\Run (xaw ps srt) names so0 ho0 (c::r))) rfl T.g_ac T.mk_ac sc_ai.nd (j:=4) rfl rfl rfl rfl (fun _ _ tk=>xm (xz (i:=2) sc_ai.nd rfl (Zq rfl) (x8 (xnh T) (hmm hr) rfl T.g_least T.F_least.kp T.b_least .nil tk.pass (xf (pv 0) (xf (pv 1) (xk)))))) (fun _=>xm (xz (i:=3) sc_ai.nd rfl (Zq rfl) ((xq7 (pv 4) rfl:PE _ _ (tXF K _ _))))))
   (xm (xad (xaq (xf (pv 2) (xf (pv 3) (xk)))))))),?_⟩
  obtain⟨dr,pok,hln,nps,nnd,n12,q⟩:=h;refine⟨?_,?_⟩
  .refine ⟨_,rfl,_,rfl,a,ln,dp,do_,w',h',ps,st,srt,names,rfl,dr,pok,hln,nps,nnd,n12,fun so ho c r run e dx l H' rs=>⟨dx,l,so,ho,c,r,rfl,rfl,rs,run⟩,fun H1 tp lp d_o d_r qs prs own rent so' ho' so0 ho0 run0 s1 htp hlp pl en al ow rn lr f1 f2 f3 f4=>?_⟩;refine⟨_,rfl,_,rfl,(by show 2<=sizeLine; decide),fun p hp=>?_⟩;have s2:Same H1 (upd H1 p (.tup [.ref tp,.non])):=xr (Same.refl _) hp;have g2:upd H1 p (.tup [.ref tp,.non]) p=some (.tup [.ref tp,.non]):=xi;revert s2 g2;generalize upd H1 p (.tup [.ref tp,.non])=H2;intro s2 g2;have td:Told H1 tp lp d_o d_r qs prs (xab w' ps srt) srt names own rent so' ho':=⟨htp,hlp,pl,en,fun p hp=>(al p hp).2,ow,rn,lr.fit⟩
   exact q H2 p _ _ (s1.trans s2) g2 (.inl ⟨tp,lp,d_o,d_r,qs,prs,own,rent,so',ho',so0,ho0,rfl,rfl,run0,lr,td.same s2,f1,f2,f3⟩)
  .rintro σ' e C' H' ⟨dx,l,so0,ho0,c,r,rfl,rfl,⟨s',he,hdx,fl,hl⟩,run⟩;refine⟨T.mk_ac,T.mro_ac,?_⟩;refine⟨_,rfl,e,_,dx,_,.ref l,rfl,he,hdx,T.x_ac,T.n_bb,lk_1,?_⟩;refine⟨_,rfl,_,rfl,(by show 2<=sizeLine; decide),fun p hp=>?_⟩;have s2:Same H' (upd H' p (.tup [.non,.ref l])):=xr (Same.refl _) hp;have g2:upd H' p (.tup [.non,.ref l]) p=some (.tup [.non,.ref l]):=xi;revert s2 g2;generalize upd H' p (.tup [.non,.ref l])=H2;intro s2 g2;exact q H2 p _ _ (s'.trans s2) g2 (.inr ⟨l,c,r,so0,ho0,rfl,rfl,run,s2 _ _ hl⟩)
theorem ok_an (T:Txt w K mg t):FnOk true P w K mg base (CXo P w) 6 t.f_an t.d_an ["_law_picture_here"] (xp8 t):=by
 refine T.F_an.okn (k:=5) sc_an (fun vs H Q E h=>?_) (fun cdv A outer s H vs Q E hr h=>?_)
 .obtain ⟨a,dp,do_,w',h',ps,st,srt,rfl,_⟩:=h;rfl
 .obtain ⟨a,dp,do_,w',h',ps,st,srt,rfl,h⟩:=h;refine⟨_,xj (xz (i:=1) sc_an.nd rfl (Zq rfl) (xeg T.k_b (ok_af T) (hmm hr) rfl T.g_b T.b_af .nil xl (xf (xae (pv 0) rfl) (xf (xae (pv 0) rfl) (xk)))))
   (xj (xa0 ZA rfl (xj1 rfl T.n_reversed (xf (xbm (pv 0) T.c_b T.m_i (ok_i T) (hmm hr) T.b_i .nil xl) (xk))) (xbb rfl (xu (xq (i:=2) sc_an.nd rfl (Zq rfl)) (xu (xq (i:=3) sc_an.nd rfl (Zq rfl)) (xay)))) (xm (xak (xan (pv 1) T.c_b T.m_h (ok_h T) (hmm hr) T.b_h .nil xl (xf (pv 2) (xf (pv 3) (xk)))))))
   (xj (xce (xaj (xac (xdl (xbj hr)) (xaq (xf (xa6) (xf (xn) (xk)))) (xbm (pv 0) T.c_b T.m_i (ok_i T) (hmm hr) T.b_i .nil xl) (by rfl)) (xm (xak (xan (pv 1) T.c_b T.m_h (ok_h T) (hmm hr) T.b_h .nil xl (xf (xa6) (xf (xn) (xk)))))) (x9)))
   (xj (xa0 ZA rfl (xas (xbm (pv 0) T.c_b T.m_k (ok_k T) (hmm hr) T.b_k .nil xl)) (xbb rfl (xu (xq (i:=4) sc_an.nd rfl (Zq rfl)) (xu (xq (i:=5) sc_an.nd rfl (Zq rfl)) (xu (xq (i:=6) sc_an.nd rfl (Zq rfl)) (xu (xq (i:=7) sc_an.nd rfl (Zq rfl)) (xu (xq (i:=8) sc_an.nd rfl (Zq rfl)) (xu (xq (i:=9) sc_an.nd rfl (Zq rfl)) (xay)))))))) (xm (xak (xan (pv 1) T.c_b T.m_a (ok_a T) (hmm hr) T.b_a .nil xl (xbr (pv 4) (xbr (pv 5) (xbr (pv 6) (xbr (pv 7) (xbr (pv 8) (xbr (pv 9) (xk) rfl) rfl) rfl) rfl) rfl) rfl)))))
   (xj (xce (xaj (xac (xdl (xbj hr)) (xaq (xf (xa6) (xf (xn) (xk)))) (xbm (pv 0) T.c_b T.m_i (ok_i T) (hmm hr) T.b_i .nil xl) (by rfl)) (xm (xak (xan (pv 1) T.c_b T.m_n (ok_n T) (hmm hr) T.b_n .nil xl (xf (xa6) (xf (xn) (xk)))))) (x9)))
   (xm (xad (pv 1))))))),?_⟩
  obtain⟨dr,pok,q⟩:=h;have pic:=dr.pic;have w1:=pic.w1;have w2:=pic.w2;have h1:=pic.h1;have h2:=pic.h2;have snd:srt.Nodup:=dr.pm.nodup_iff.mpr dr.ok.1;have s32:srt.length<=32:=by rw[dr.pm.length_eq]; exact dr.ok.2.1
  have sbd:∀ s∈srt,1<=s.2/\s.2<=(h':Int):=fun s hs=>dr.ok.2.2 s (dr.pm.mem_iff.mp hs);obtain⟨⟨dxa,hpa⟩,_⟩:=id pic;refine⟨_,rfl,a,_,_,_,_,rfl,hpa,T.c_b,T.n_a4,lkW,_,rfl,a,_,_,_,_,rfl,hpa,T.c_b,T.n_a1,lkH,fun b dx hb hdx ne=>?_⟩;refine⟨b,dx,w',h',rfl,xi,w1,w2,h1,h2,fun H5 dp' do' hdp hdo k5 pic5 hdt=>⟨rfl,?_⟩⟩;have up:∀ c,upd (upd H dx (.own b)) b (.ins t.C_b dx []) c=none->H c=none:=fun c z=>by
   cases e:H c with
   | none=>rfl
   | some u=>rw[xh (xg e hb),xh (xg e hdx),e] at z; cases z
  have s5:Same H H5:=fun c u e=>k5 c u (xg e hb) (by rw[xh (xg e hb),xh (xg e hdx)]; exact e);have fdp:=up _ hdp;have fdo:=up _ hdo;have st5:Sts H5 do' []:=⟨[],hdt,rfl,JP,by decide⟩
  have rnd:(srt.reverse.map id).Nodup:=by
   rw[YA];exact (QD srt).nodup_iff.mpr snd
  have dr5:=dr.same s5;refine⟨_,rfl,a,dxa,_,rfl,s5 _ _ hpa,xat (by decide +kernel),a,dp,do_,_,_,ps,st,rfl,dr5.pic,dr5.sts,fun l6 ss6 rs hl6 sl6 pm6 lt6=>?_⟩;obtain rfl:ss6=srt:=xa1 xbt (pm6.trans dr.pm.symm) lt6 dr.lt;have s6:Same H5 (upd H5 l6 (.lst (rs.map V.ref))):=xr (Same.refl _) hl6;have g6:upd H5 l6 (.lst (rs.map V.ref)) l6=some (.lst (rs.map V.ref)):=xi;revert s6 g6;generalize upd H5 l6 (.lst (rs.map V.ref))=H6;intro s6 g6;have stl:=sl6.keep (Same.tups s6);have sll:=stl.len;have s06:=s5.trans s6;have fl6:=s5.free hl6;refine⟨l6,_,rfl,SqL.of g6,?_⟩;have no6:l6≠do':=fun z=>by rw[z,hdt] at hl6; cases hl6
  have st6':=st5.same s6;have pic6':=Pic.same s6 pic5;refine xqj (xs:=rs.map V.ref) (Pv:=fun i Z H7=>∃(v2 v3:Option V),Z=[some (.ref a),some (.ref b),v2,v3,none,none,none,none,none,none]/\Same H H7/\Pic t H7 b dp' do' w' h' []/\Sts H7 do' (ss6.reverse.take i)/\H7 l6=some (.lst (rs.map V.ref))/\xal H7 ss6 rs) ⟨_,_,rfl,s06,pic6',st6',g6,stl⟩ ?_ ?_ ?_
  .rintro i Z H7 _ ⟨_,_,rfl,_,_,_,e7,_⟩;exact SqL.of e7
  .rintro i x Z H7 hi hx ⟨v2,v3,rfl,s7,pic7,st7,e7,sl7⟩;rw[Zc] at hi hx;rw[Zf,Zj] at hx;obtain⟨qa,hqa,rfl⟩:=hx;obtain⟨⟨sb,r⟩,hs,hsq⟩:=sl7.get hqa;rw[sll] at hs hi;have hr:=xs8 hi hs;have mem:=Zl hs;obtain⟨⟨dx7,hp7⟩,_⟩:=id pic7;obtain⟨ko,hko,_⟩:=id st7;have hil:i<ss6.reverse.length:=by rw[Yl]; exact hi
   have nin:(sb,r)∉ss6.reverse.take i:=fun z=>by
    have:=xcw id rnd hil (sb,r) z;rw[(Zh.mp hr).2] at this;exact this rfl
   refine⟨qa,_,rfl,SqT.of hsq,rfl,_,_,rfl,_,_,rfl,rfl,?_⟩;refine⟨_,rfl,b,dx7,_,rfl,hp7,xat (by decide +kernel),_,rfl,_,rfl,b,dp',do',w',h',[],ss6.reverse.take i,sb,r,rfl,pic7,st7,(sbd _ mem).1,(sbd _ mem).2,nin,by rw[JA]; omega,fun H8 k8 pc8 st8=>⟨_,_,rfl,fun c u e=>k8 _ _ (xg e fdo) (s7 _ _ e),pc8,?_,k8 _ _ no6 e7,sl7.keep (fun c xs e=>k8 _ _ (xp e hko (fun z=>nomatch z)) e)⟩⟩;rw[ZP,hr];exact st8
  rintro Z H7 ⟨v2,v3,rfl,s7,pic7,st7,_,_⟩;rw[Zc,sll,Jx (by rw[Yl]; exact Zi _)] at st7;have mir:((true,(1:Int))∈ss6.reverse)↔(true,(1:Int))∈ss6:=YF;refine⟨fun Z H8=>∃ st8,Z=[some (.ref a),some (.ref b),v2,v3,none,none,none,none,none,none]/\Same H H8/\Pic t H8 b dp' do' w' h' []/\Sts H8 do' st8/\st8=ss6.reverse++(if (true,(1:Int))∈ss6 then [] else [(true,1)]),?_,?_⟩
  .refine ⟨(by show 2<=sizeLine; decide),fun q8 hq8=>?_⟩;have s8:Same H7 (upd H7 q8 (.tup [.str (Zn "left"),.int 1])):=xr (Same.refl _) hq8;have g8:upd H7 q8 (.tup [.str (Zn "left"),.int 1]) q8=some (.tup [.str (Zn "left"),.int 1]):=xi;revert s8 g8;generalize upd H7 q8 (.tup [.str (Zn "left"),.int 1])=H8;intro s8 g8;have s08:=s7.trans s8;have dr8:=dr.same s08;refine⟨_,rfl,a,dxa,_,rfl,s08 _ _ hpa,xat (by decide +kernel),a,dp,do_,_,_,ps,st,rfl,dr8.pic,dr8.sts,fun l9 ss9 us9 hl9 sl9 pm9 lt9=>?_⟩;obtain rfl:ss9=ss6:=xa1 xbt (pm9.trans dr.pm.symm) lt9 dr.lt;have s9:Same H8 (upd H8 l9 (.lst (us9.map V.ref))):=xr (Same.refl _) hl9;have g9:upd H8 l9 (.lst (us9.map V.ref)) l9=some (.lst (us9.map V.ref)):=xi;revert s9 g9;generalize upd H8 l9 (.lst (us9.map V.ref))=H9;intro s9 g9;have s79:=s8.trans s9;refine⟨1,2,xca (true,1),_,xdq (s:=(true,1)) (s9 _ _ g8),(sl9.keep (Same.tups s9)).dv g9,by decide,by decide,_,rfl,ite2 (fun y=>?_) (fun y=>?_)⟩
   .rw [if_pos rfl,xb1] at y;have y:(true,(1:Int))∉ss9:=by simpa using y
    have pic9:=Pic.same s79 pic7;have st9:=st7.same s79;obtain⟨⟨dx9,hp9⟩,_⟩:=id pic9;refine⟨_,rfl,b,dx9,_,rfl,hp9,xat (by decide +kernel),b,dp',do',w',h',[],ss9.reverse,true,1,rfl,pic9,st9,QC _,h1,fun z=>y (mir.mp z),?_,fun H10 k10 pc10 st10=>⟨_,rfl,fun c u e=>k10 _ _ (xg e fdo) (s79 _ _ (s7 _ _ e)),pc10,st10,by rw[if_neg y]⟩⟩;rw[Yl];exact xmm (h:=h') (by omega) snd sbd y (QC _) h1
   .rw [if_pos rfl,xb1] at y;have y:(true,(1:Int))∈ss9:=by simpa using y
    exact⟨_,rfl,s7.trans s79,Pic.same s79 pic7,st7.same s79,by rw[if_pos y,YO]⟩
  rintro Z H8 ⟨st8,rfl,s8,pic8,sts8,est8⟩;have dr8:=dr.same s8;have hpa8:=s8 _ _ hpa;refine⟨_,rfl,a,dxa,_,rfl,hpa8,xat (by decide +kernel),a,dp,do_,w',h',ps,rfl,dr8.pic,fun H9 lp qs s9 e9 pt9=>?_⟩;have s09:=s8.trans s9;have pll:=pt9.len;refine⟨lp,rfl,⟨_,SqL.of e9⟩,?_⟩;obtain⟨kp9,hkp9,_⟩:=(Pic.same s9 pic8).pl;have nlp:lp≠dp':=xp e9 hkp9 (fun z=>nomatch z);refine xa7 (xs:=qs.map V.ref) (Pv:=fun i Z H10=>∃(v4 v5 v6 v7 v8 v9:Option V),Z=[some (.ref a),some (.ref b),v2,v3,v4,v5,v6,v7,v8,v9]/\Same H H10/\Pic t H10 b dp' do' w' h' (ps.take i)/\Sts H10 do' st8/\H10 lp=some (.lst (qs.map V.ref))/\PtsL H10 ps qs) ⟨_,_,_,_,_,_,rfl,s09,Pic.same s9 pic8,sts8.same s9,e9,pt9⟩ ?_ ?_ ?_
  .rintro i Z H10 _ ⟨_,_,_,_,_,_,rfl,_,_,_,e10,_⟩;exact SqL.of e10
  .rintro i x Z H10 hx ⟨v4,v5,v6,v7,v8,v9,rfl,s10,pic10,st10,e10,pt10⟩;rw[Zf,Zj] at hx;obtain⟨qa,hqa,rfl⟩:=hx;obtain⟨p,hp,hpq⟩:=pt10.get hqa;obtain⟨o1,o2,o3⟩:=pok.at_ hp;obtain⟨ko,hko,kr⟩:=id st10;obtain⟨⟨dx10,hp10⟩,⟨kp,hkp,_⟩,_⟩:=id pic10;refine⟨qa,_,rfl,SqT.of hpq,rfl,_,_,rfl,_,_,rfl,_,_,rfl,_,_,rfl,_,_,rfl,_,_,rfl,rfl,?_⟩;refine⟨_,rfl,b,dx10,_,rfl,hp10,xat (by decide +kernel),_,rfl,_,rfl,_,rfl,_,rfl,_,rfl,_,rfl,?_⟩;refine⟨b,dp',do',w',h',ps.take i,p.nm,p.x,p.y,p.sd,p.lo,p.hi,.int p.hi,rfl,pic10,.inr rfl,o1.nm,o1.x1,o1.x2,o1.y1,o1.y2,o1.sd,o1.l1,o1.l2,o1.l3,o2,by rw[JA]; omega,fun H11 k11 pc11=>⟨_,_,_,_,_,_,rfl,fun c u e=>k11 _ _ (xg e fdp) (s10 _ _ e),?_,⟨ko,k11 _ _ (xp hko hkp (fun z=>nomatch z)) hko,kr⟩,k11 _ _ nlp e10,pt10.keep (fun c xs e=>k11 _ _ (xp e hkp (fun z=>nomatch z)) e)⟩⟩;rw[ZP,hp];exact pc11
  rintro Z H10 ⟨v4,v5,v6,v7,v8,v9,rfl,s10,pic10,st10,_,_⟩;rw[Zc,pll,Jx (Zi _)] at pic10;refine⟨fun Z H11=>Z=[some (.ref a),some (.ref b),v2,v3,v4,v5,v6,v7,v8,v9]/\Same H H11/\Pic t H11 b dp' do' w' h' ps/\Sts H11 do' ss6.reverse,?_,?_⟩
  .refine ⟨(by show 2<=sizeLine; decide),fun q8 hq8=>?_⟩;have s11:Same H10 (upd H10 q8 (.tup [.str (Zn "left"),.int 1])):=xr (Same.refl _) hq8;have g11:upd H10 q8 (.tup [.str (Zn "left"),.int 1]) q8=some (.tup [.str (Zn "left"),.int 1]):=xi;revert s11 g11;generalize upd H10 q8 (.tup [.str (Zn "left"),.int 1])=H11;intro s11 g11;have s011:=s10.trans s11;have dr11:=dr.same s011;refine⟨_,rfl,a,dxa,_,rfl,s011 _ _ hpa,xat (by decide +kernel),a,dp,do_,_,_,ps,st,rfl,dr11.pic,dr11.sts,fun l9 ss9 us9 hl9 sl9 pm9 lt9=>?_⟩;obtain rfl:ss9=ss6:=xa1 xbt (pm9.trans dr.pm.symm) lt9 dr.lt;have s12:Same H11 (upd H11 l9 (.lst (us9.map V.ref))):=xr (Same.refl _) hl9;have g12:upd H11 l9 (.lst (us9.map V.ref)) l9=some (.lst (us9.map V.ref)):=xi;revert s12 g12;generalize upd H11 l9 (.lst (us9.map V.ref))=H12;intro s12 g12;have s1012:=s11.trans s12;refine⟨1,2,xca (true,1),_,xdq (s:=(true,1)) (s12 _ _ g11),(sl9.keep (Same.tups s12)).dv g12,by decide,by decide,_,rfl,ite2 (fun y=>?_) (fun y=>?_)⟩
   .rw [if_pos rfl,xb1] at y;have y:(true,(1:Int))∉ss9:=by simpa using y
    rw[if_neg y] at est8;have pic12:=Pic.same s1012 pic10;have st12:=st10.same s1012;obtain⟨⟨dx12,hp12⟩,_⟩:=id pic12;refine⟨_,rfl,b,dx12,_,rfl,hp12,xat (by decide +kernel),b,dp',do',w',h',ps,st8,true,1,rfl,pic12,st12,QC _,h1,by rw[est8]; exact Z2 _ (Zt.mpr rfl),fun H13 k13 pc13 st13=>⟨rfl,fun c u e=>k13 _ _ (xg e fdo) (s1012 _ _ (s10 _ _ e)),pc13,?_⟩⟩;have ef:st8.filter (fun s=>decide (s≠(true,1)))=ss9.reverse:=by
     rw[est8,JM,Js (by simp),List.filter_nil,YO];exact List.filter_eq_self.mpr fun s hs=>decide_eq_true fun e=>y (e▸YF.mp hs)
    rw[ef] at st13;exact st13
   .rw [if_pos rfl,xb1] at y;have y:(true,(1:Int))∈ss9:=by simpa using y
    rw[if_pos y,YO] at est8;exact⟨rfl,s10.trans s1012,Pic.same s1012 pic10,by rw[<- est8]; exact st10.same s1012⟩
  rintro Z H11 ⟨rfl,s11,pic11,st11⟩;exact⟨_,rfl,q H11 b dp' do' ss6.reverse s11 ⟨pic11,st11,⟨(QD ss6).nodup_iff.mpr snd,by rw[Yl]; exact s32,fun s hs=>sbd s (YF.mp hs)⟩,(QD ss6).symm,dr.lt,dr.nm⟩⟩
inductive xic (K:Zd) (vs:List V) (H:Hp) (Q:VK) (_:XK):Prop
 | mk (a:Addr) (ns:List Int) (e_:vs=[.ref a]) (r_:SqL K H a (ns.map V.int)/\ns.length<=63/\∀ H',Q (.bl true) H')
theorem xja {α β:Type}:∀{as:List α}{bs:List β},bs.length=as.length->(as.zip bs).map (·.2)=bs
 | [],[],_=>rfl
 | [],_::_,h=>by cases h
 | _::_,[],h=>by cases h
 | x::as,y::bs,h=>by
  rw[List.zip_cons_cons,Zx,xja (by simpa using h)]
theorem xjk {α β:Type}:∀{as:List α}{bs:List β},bs.length=as.length->(as.zip bs).map (·.1)=as
 | [],[],_=>rfl
 | [],_::_,h=>by cases h
 | _::_,[],h=>by cases h
 | x::as,y::bs,h=>by
  rw[List.zip_cons_cons,Zx,xjk (by simpa using h)]
theorem xin {α β:Type}:∀{as:List α}{bs:List β}{i:Nat}{x:α × β},(as.zip bs)[i]?=some x->as[i]?=some x.1/\bs[i]?=some x.2
 | [],_,_,_,h=>by simp at h
 | _::_,[],_,_,h=>by simp at h
 | a::as,b::bs,0,x,h=>by
  simp at h;subst h;exact⟨rfl,rfl⟩
 | a::as,b::bs,i+1,x,h=>by
  have:=xin (as:=as) (bs:=bs) (i:=i) (x:=x) (by simpa using h);simpa using this
theorem Told.twin {K:Zd}{H:Hp}{tp lp d_o d_r tp2 lp2 d_o2 d_r2:Addr}{qs qs2:List Addr}{prs prs2:List Pr}{lens:Str->List (Seat × Int)}{srt:List Seat}{names:List Str}{own:Str->Int}{rent:Seat->Int}{so:Str->Option Seat}{ho:Seat->Option Str} (z:Told H tp lp d_o d_r qs prs lens srt names own rent so ho) (y:Told H tp2 lp2 d_o2 d_r2 qs2 prs2 lens srt names own rent so ho):Tw K H (.ref tp) (.ref tp2):=by
 have one:∀{pr:List Pr},pr.map (·.1.nm)=names->(∀ p∈pr,so p.1.nm=some p.2)->pr.map prD=names.map fun n=>DV.tup [.str n,.str (x0 ((so n).getD (true,0)).1),.int ((so n).getD (true,0)).2]:=fun {pr} e al=>by
  rw[<- e,Z7];refine Yk fun p hp=>?_;show prD p=DV.tup [.str p.1.nm,.str (x0 ((so p.1.nm).getD (true,0)).1),.int ((so p.1.nm).getD (true,0)).2];rw[al p hp];rfl
 have d1:=z.pl.dv (K:=K) z.lp;have d2:=y.pl.dv (K:=K) y.lp;rw[one z.en z.al] at d1;rw[one y.en y.al] at d2;have i1:∀ kv∈names.map (fun n=>((.inr n:Key),V.int (own n))),∃ n:Int,kv.2=.int n:=fun kv h=>by
  obtain⟨n,_,rfl⟩:=Zr.mp h;exact⟨_,rfl⟩
 have i2:∀ kv∈srt.map (fun s=>(xt s,V.int (rent s))),∃ n:Int,kv.2=.int n:=fun kv h=>by
  obtain⟨n,_,rfl⟩:=Zr.mp h;exact⟨_,rfl⟩
 refine⟨tp,tp2,_,_,rfl,rfl,SqT.of z.tp,SqT.of y.tp,rfl,fun j u v h1 h2=>?_⟩
 match j,h1,h2 with
 | 0,h1,h2=>cases h1; cases h2; exact .inl ⟨2,2,_,d1,d2,by decide,by decide⟩
 | 1,h1,h2=>cases h1; cases h2; exact .inr (.inl ⟨d_o,d_o2,_,rfl,rfl,z.ow,y.ow,i1⟩)
 | 2,h1,h2=>cases h1; cases h2; exact .inr (.inr ⟨d_r,d_r2,_,rfl,rfl,z.rn,y.rn,i2⟩)
 | j+3,h1,h2=>simp at h1
theorem xsl (T:Txt w K mg t):FnOk true P w K mg base (CXo P w) 12 t.f_law t.d_law ["_law_script"] (xic K):=by
 refine T.F_law.okn (k:=11) xcn (fun vs H Q E h=>?_) (fun cdv A outer s H vs Q E hr h=>?_)
 .obtain ⟨sc,ns,rfl,_⟩:=h;rfl
 .obtain ⟨sc,ns,rfl,h⟩:=h;refine⟨_,xj (xz (i:=1) xcn.nd rfl (Zq rfl) (x8 (ok_u T) (hmm hr) rfl T.g_u T.F_u.kp T.b_u .nil xl (xf (pv 0) (xk))))
   (xj (xz (i:=2) xcn.nd rfl (Zq rfl) (x8 (ok_y T) (hmm hr) rfl T.g_y T.F_y.kp T.b_y .nil xl (xf (pv 1) (xk))))
   (xj (xz (i:=3) xcn.nd rfl (Zq rfl) (xbm (pv 1) T.c_b T.m_i (ok_i T) (hmm hr) T.b_i .nil xl))
   (xj (xz (i:=4) xcn.nd rfl (Zq rfl) (xbm (pv 1) T.c_b T.m_k (ok_k T) (hmm hr) T.b_k .nil xl))
   (xj (xdv rfl (xbp (zs:=["_law_k", "_law_row"]) (ys:=["_law_script"]) (fr:=[0]) (N0:=["_law_script", "_law_picture_here", "_law_lengths_here", "_law_seats", "_law_before", "_law_names_here", "_law_handed", "_law_found", "_law_crowd_here", "_law_again", "_law_other"]) (sc0:=xo xib) (by decide +kernel) rfl rfl rfl) (xjq rfl T.n_enumerate (xf (pv 4) (xk))) (fun _ _ _ _ _ ow nd=>(xbb rfl (xu (xq (i:=0) nd rfl (Zq (ow _ (by simp))) (JD (ow _ (by simp)))) (xu (xq (i:=1) nd rfl (Zq (ow _ (by simp))) (JD (ow _ (by simp)))) (xay))):PG _ _ (gTup K 2 _))) (xc7 (xax (by decide) (xax (by decide) (xcp)))) (fun _ _ _ _ _=>xei (xac xh8 (xw xa5 (x8 (ok_as T) (hmm hr) rfl T.g_as T.F_as.kp T.b_as .nil xl (xf (x8 (ok_r T) (hmm hr) rfl T.g_r T.F_r.kp T.b_r .nil xl (xf (pv 2) (xf (xn) (xk)))) (xf (pv 0) (xk)))) (xn)) (xn) (xag _))) (fun _ _ _ _ _=>xbc (r:=rIxT K) xb4 (pv 1) (xn) (fun _ _=>rfl)) (j:=5) rfl (Zq rfl))
   (xj (xce (xaj (xac xcj (xw xa5 (x8 (ok_r T) (hmm hr) rfl T.g_r T.F_r.kp T.b_r .nil xl (xf (pv 0) (xf (xn) (xk)))) (xn)) (xn) (xag _)) (xm (xak (xmx Jq PySem.F.slot_list_reverse PySem.F.type_list_reverse xlx (pv 5)))) (x9)))
   (xj (xz (i:=6) xcn.nd rfl (Zq rfl) (xby xe7 rfl T.n_list boot_list (xf (pv 5) (xk))))
   (xj (xdg (x8 (ok_ai T) (hmm hr) rfl T.g_ai T.F_ai.kp T.b_ai .nil xl (xf (pv 1) (xf (pv 6) (xk)))) (xbb rfl (xu (xq (i:=7) xcn.nd rfl (Zq rfl)) (xu (xq (i:=8) xcn.nd rfl (Zq rfl)) (xay)))))
   (xj (xce (xaj (PW.pt (xbw (xac (xej (xbj hr)) (pv 6) (pv 5) (xag _)) (xbw (xac (xej (xbj hr)) (xbm (pv 1) T.c_b T.m_k (ok_k T) (hmm hr) T.b_k .nil xl) (pv 4) (xag _)) (xbs (xac (xej (xbj hr)) (xbm (pv 1) T.c_b T.m_i (ok_i T) (hmm hr) T.b_i .nil xl) (pv 3) (xag _)))))) (xm (xad (xcl))) (x9)))
   (xj (xdg (x8 (ok_ai T) (hmm hr) rfl T.g_ai T.F_ai.kp T.b_ai .nil xl (xf (x8 (ok_an T) (hmm hr) rfl T.g_an T.F_an.kp T.b_an .nil xl (xf (pv 1) (xk))) (xf (pv 5) (xk)))) (xbb rfl (xu (xq (i:=9) xcn.nd rfl (Zq rfl)) (xu (xq (i:=10) xcn.nd rfl (Zq rfl)) (xay)))))
   (xj (xce (xaj (xac xfj (pv 8) (xb6) (xag _)) (xm (xad (xc4 (x8 (ok_ar T) (hmm hr) rfl T.g_ar T.F_ar.kp T.b_ar .nil xl (xf (pv 2) (xf (pv 5) (xf (pv 8) (xk))))) (xel (xb8 (xst (xbj hr)) (pv 10) (pv 8) (xag _)))))) (x9)))
   (xj (xce (xaj (PW.pt (xbw (xac (xrj (xbj hr)) (pv 9) (pv 7) (xag _)) (xbs (xbg (xa3 (x8 (ok_ah T) (hmm hr) rfl T.g_ah T.F_ah.kp T.b_ah .nil xl (xf (pv 2) (xf (pv 3) (xf (pv 5) (xf (pv 7) (xk))))))))))) (xm (xad (xcl))) (x9)))
   (xj (xak (xmx Jq PySem.F.slot_list_clear PySem.F.type_list_clear xn0 (xbc xb4 (pv 7) (xn) (fun _ _=>rfl))))
   (xj (xak (xhu (xbc xb4 (pv 7) (xn) (fun _ _=>rfl))))
   (xj (xak (xhu (xbc xb4 (pv 7) (xn) (fun _ _=>rfl))))
   (xm (xad (xc4 (x8 (ok_ah T) (hmm hr) rfl T.g_ah T.F_ah.kp T.b_ah .nil xl (xf (pv 2) (xf (pv 3) (xf (pv 5) (xf (pv 9) (xk)))))) (xel (xb8 (xsm (xbj hr)) (xbc xb4 (x8 (ok_ai T) (hmm hr) rfl T.g_ai T.F_ai.kp T.b_ai .nil xl (xf (pv 1) (xf (pv 5) (xk)))) (xn) (fun _ _=>rfl)) (pv 9) (xag _)))))))))))))))))))),?_⟩
  obtain⟨hs,n63,q⟩:=h;have BIG:∀{n:Nat},n<=1000->n<sizeLine:=fun h=>ZG h (by decide);refine⟨_,rfl,sc,ns,rfl,hs,fun H1 a dp do_ w' h' ps st srt s1 dr pok=>?_⟩;refine⟨_,rfl,a,dp,do_,w',h',ps,st,srt,rfl,dr,pok,fun H2 d s2 fd lw=>?_⟩;have dr2:=dr.same s2;obtain⟨⟨dx,hpi⟩,_⟩:=id dr2.pic;refine⟨_,rfl,a,dx,_,rfl,hpi,xat (by decide +kernel),a,dp,do_,w',h',ps,st,rfl,dr2.pic,dr2.sts,fun l3 ss3 us hl3 sl3 pm3 lt3=>?_⟩;obtain rfl:ss3=srt:=xa1 xbt (pm3.trans dr.pm.symm) lt3 dr.lt;have s3:Same H2 (upd H2 l3 (.lst (us.map V.ref))):=xr (Same.refl _) hl3;have g3:upd H2 l3 (.lst (us.map V.ref)) l3=some (.lst (us.map V.ref)):=xi;revert s3 g3;generalize upd H2 l3 (.lst (us.map V.ref))=H3;intro s3 g3;have sl3':=sl3.keep (Same.tups s3);have dr3:=dr2.same s3;have s03:=(s1.trans s2).trans s3;have w30:w'<=30:=by have:=dr.pic.w2; omega
  have h16:h'<=16:=by have:=dr.pic.h2; omega
  have lo:=xks w30 h16 pok dr.ok dr.pm;have s32:ss3.length<=32:=by rw[dr.pm.length_eq]; exact dr.ok.2.1
  have snd:ss3.Nodup:=dr.pm.nodup_iff.mpr dr.ok.1;have nnd:(xbz ps).Nodup:=pok.nn;have ple:=pok.le;refine⟨_,rfl,a,dx,_,rfl,s3 _ _ hpi,xat (by decide +kernel),a,dp,do_,w',h',ps,rfl,dr3.pic,fun H4 lb qb s4 e4 pt4=>?_⟩;have qbl:=pt4.len;have s04:=s03.trans s4;refine⟨_,rfl,lb,_,rfl,SqL.of e4,fun l5 hl5=>?_⟩;refine xlj (as:=ps.zip qb) (f:=fun x=>V.ref x.2) (gv:=fun x=>V.str x.1.nm) (by rw[show (ps.zip qb).map (fun x=>V.ref x.2)=((ps.zip qb).map (·.2)).map V.ref by rw[Z7]; rfl,xja qbl]; exact SqL.of e4) (by rw[List.length_zip]; exact BIG (by omega)) hl5 (fun i x p H5 hx s5 hp N M hN hM=>?_) (fun H5 sub ssub s5 e5=>?_)
  .obtain ⟨hx1,hx2⟩:=xin hx;refine⟨p,_,rfl,SqT.of xi,rfl,_,_,rfl,_,_,rfl,rfl,?_⟩;have s5':Same H5 (upd H5 p (.tup [.int (i:Int),.ref x.2])):=xr (Same.refl _) hp;refine⟨_,rfl,sc,ns,5,rfl,((s04.trans s5).trans s5').seqL hs,by decide,by decide,fun c5=>⟨_,rfl,c5,_,rfl,fun m _ _=>?_⟩⟩;refine⟨_,_,rfl,rfl,(by show (0:Int)<5; decide),_,_,rfl,rfl,_,rfl,ite2 (fun y=>?_) (fun y=>?_)⟩
   .obtain ⟨pt,hpt,hq⟩:=pt4.get hx2;rw[hx1] at hpt;cases hpt;exact⟨_,rfl,x.2,_,0,.str x.1.nm,rfl,rfl,SqT.of (s5' _ _ (s5 _ _ hq)),rfl,hN _ (Same.refl _)⟩
   .exact hM _ (Same.refl _)
  have esub:sub.map (fun x=>V.str x.1.nm)=(sub.map fun x=>x.1.nm).map V.str:=by
   rw[Z7];rfl
  rw[esub] at e5;have sbn:QM (sub.map fun x=>x.1.nm) (xbz ps):=by
   have z:=ssub.map fun x:Pt × Addr=>x.1.nm;have e:(ps.zip qb).map (fun x=>x.1.nm)=xbz ps:=by
    unfold xbz
    conv=>rhs; rw[<- xjk qbl]
    rw[Z7];rfl
   rw[e] at z;exact z
  have s05:=s04.trans s5;refine⟨fun Z H6=>∃ names:List Str,Z=[some (.ref sc),some (.ref a),some (.ref d),some (.ref l3),some (.ref lb),some (.ref l5),none,none,none,none,none]/\Same H4 H6/\H6 l5=some (.lst (names.map V.str))/\names.Nodup/\names.length<=12/\∀ z∈names,z∈xbz ps,?_,?_⟩
  .have nd0:=sbn.nodup nnd;have nl0:(sub.map fun x=>x.1.nm).length<=12:=Z6 sbn.length_le (by unfold xbz; rw[Zc]; exact ple);have in0:∀ z∈sub.map (fun x=>x.1.nm),z∈xbz ps:=fun z hz=>sbn.subset hz;refine⟨_,rfl,sc,ns,5,rfl,s05.seqL hs,by decide,by decide,fun c5=>⟨_,_,rfl,rfl,(by show (0:Int)<2; decide),rfl,_,rfl,ite2 (fun y=>?_) (fun y=>⟨_,rfl,s5,e5,nd0,nl0,in0⟩)⟩⟩;refine⟨_,rfl,.inl ⟨rfl,_,SqL.of e5⟩,l5,_,rfl,rfl,e5,?_⟩;refine⟨(sub.map fun x=>x.1.nm).reverse,rfl,fun b u e=>by rw[xh (xg e hl5)]; exact s5 _ _ e,by rw[xi,List.map_reverse],(QD _).nodup_iff.mpr nd0,by rw[Yl]; exact nl0,fun z hz=>in0 z (YF.mp hz)⟩
  rintro Z H6 ⟨names,rfl,s6,e6,nnd2,n12,nin⟩;have nps:∀ z∈names,∃ p∈ps,p.nm=z:=fun z hz=>Zr.mp (nin z hz);have s36:=s4.trans s6;have lws:LwS H6 d l3 l5 us (xbz ps) names (xab w' ps ss3) ss3:=⟨lw.same (s3.trans s36),s36 _ _ g3,sl3'.keep (Same.tups s36),e6,nin,nnd2,n12,lo,s32⟩
  have dr6:=dr3.same s36;have pt6:=pt4.keep (Same.tups s6);have e6b:=s6 _ _ e4;have hpi6:=s36 _ _ (s3 _ _ hpi);have s06:=s04.trans s6;clear s05 e5 s5 hl5 e4 pt4 dr3 sl3' sl3 lw;refine⟨_,rfl,l5,_,rfl,.inl (SqL.of e6),fun l7 hl7=>?_⟩;have s7:Same H6 (upd H6 l7 (.lst (names.map V.str))):=xr (Same.refl _) hl7;have g7:upd H6 l7 (.lst (names.map V.str)) l7=some (.lst (names.map V.str)):=xi;revert s7 g7;generalize upd H6 l7 (.lst (names.map V.str))=H7;intro s7 g7;have dr7:=dr6.same s7;refine⟨_,rfl,_,rfl,a,l7,dp,do_,w',h',ps,st,ss3,names,rfl,dr7,pok,g7,nps,nnd2,n12,fun H8 p8 fv cv s8 hp8 ask=>?_⟩;refine⟨p8,_,rfl,SqT.of hp8,rfl,_,_,rfl,_,_,rfl,rfl,?_⟩;have s68:=s7.trans s8;have hr8:∀ n s,s∈xaw ps ss3 n->s∈ss3:=fun n s hs=>by
   unfold xaw at hs;split at hs
   .exact (ZR.mp hs).1
   .exact nomatch hs
  refine⟨fun Z H9=>Z=[some (.ref sc),some (.ref a),some (.ref d),some (.ref l3),some (.ref lb),some (.ref l5),some (.ref l7),some fv,some cv,none,none]/\Same H8 H9,?_,?_⟩
  .refine ⟨_,rfl,_,rfl,1,1,_,_,xc2 (s8 _ _ g7),xc2 (s68 _ _ e6),by decide,by decide,_,rfl,ifN (by rw[xbv]; decide) ?_⟩;have dr8:=dr6.same s68;refine⟨_,rfl,a,dx,_,rfl,s68 _ _ hpi6,xat (by decide +kernel),a,dp,do_,w',h',ps,rfl,dr8.pic,fun H9 l9 q9 s9 e9 pt9=>?_⟩;have s69:=s68.trans s9;refine⟨_,rfl,2,2,_,_,pt9.dv e9,(pt6.keep (Same.tups s69)).dv (s69 _ _ e6b),by decide,by decide,_,rfl,ifN (by rw[xbv]; decide) ?_⟩;have dr9:=dr6.same s69;refine⟨_,rfl,a,dx,_,rfl,s69 _ _ hpi6,xat (by decide +kernel),a,dp,do_,w',h',ps,st,rfl,dr9.pic,dr9.sts,fun l10 ss10 us10 hl10 sl10 pm10 lt10=>?_⟩;obtain rfl:ss10=ss3:=xa1 xbt (pm10.trans dr.pm.symm) lt10 dr.lt;have s10:Same H9 (upd H9 l10 (.lst (us10.map V.ref))):=xr (Same.refl _) hl10;have g10:upd H9 l10 (.lst (us10.map V.ref)) l10=some (.lst (us10.map V.ref)):=xi;revert s10 g10;generalize upd H9 l10 (.lst (us10.map V.ref))=H10;intro s10 g10;have s610:=s69.trans s10;exact⟨_,rfl,2,2,_,_,(sl10.keep (Same.tups s10)).dv g10,(lws.sl.keep (Same.tups s610)).dv (s610 _ _ lws.ls),by decide,by decide,_,rfl,ifN (by rw[xbv]; decide) ⟨rfl,s9.trans s10⟩⟩
  rintro Z H9 ⟨rfl,s9⟩;have s69:=s68.trans s9;refine⟨_,rfl,a,dp,do_,w',h',ps,st,ss3,rfl,dr6.same s69,pok,fun H10 b dpb dob stb s10 drb=>⟨_,rfl,?_⟩⟩;have s610:=s69.trans s10;refine⟨b,l5,dpb,dob,w',h',ps,stb,ss3,names,rfl,drb,pok,s610 _ _ e6,nps,nnd2,n12,fun H11 p11 fv2 cv2 s11 hp11 ask2=>?_⟩;refine⟨p11,_,rfl,SqT.of hp11,rfl,_,_,rfl,_,_,rfl,rfl,?_⟩;have s811:=(s9.trans s10).trans s11;have s611:=s68.trans s811;have lw11:=lws.same s611;rcases ask with⟨tp,lp,d_o,d_r,qs,prs,own,rent,so,ho,so0,ho0,rfl,rfl,run,lr,td,f1,f2,f3⟩|⟨l,c,r,so0,ho0,rfl,rfl,run,hl⟩
  .rcases ask2 with⟨tp2,lp2,d_o2,d_r2,qs2,prs2,own2,rent2,so2,ho2,so02,ho02,rfl,rfl,run2,lr2,td2,g1',g2',g3'⟩|⟨l2,c2,r2,so02,ho02,_,_,run2,_⟩
   .obtain ⟨rfl,rfl,rfl,rfl⟩:=lr.det lr2;refine⟨fun Z H12=>Z=[some (.ref sc),some (.ref a),some (.ref d),some (.ref l3),some (.ref lb),some (.ref l5),some (.ref l7),some (.ref tp),some .non,some (.ref tp2),some .non]/\H11=H12,?_,?_⟩
    .exact ⟨_,rfl,rfl,_,rfl,ifN (by decide) ⟨rfl,rfl⟩⟩
    rintro Z H12 ⟨rfl,rfl⟩;have td11:=td.same s811;refine⟨fun Z H12=>Z=[some (.ref sc),some (.ref a),some (.ref d),some (.ref l3),some (.ref lb),some (.ref l5),some (.ref l7),some (.ref tp),some .non,some (.ref tp2),some .non]/\Same H11 H12,?_,?_⟩
    .refine ⟨_,rfl,_,rfl,td2.twin td11,_,rfl,ifN (by decide) ?_⟩;exact⟨_,rfl,_,rfl,_,rfl,_,rfl,d,l3,l5,tp,lp,d_o,d_r,us,qs,xbz ps,names,xab w' ps ss3,ss3,prs,own,rent,so,ho,rfl,lw11,td11,dr.lt,fun H12 s12=>⟨_,rfl,ifN (by decide) ⟨rfl,s12⟩⟩⟩
    rintro Z H12 ⟨rfl,s12⟩;have td12:=td11.same s12;have td212:=td2.same s12;have htp:=td12.tp;have hlp:=td12.lp;have how:=td12.ow;have hrn:=td12.rn;unfold OwD at how;unfold RnD at hrn;refine⟨_,rfl,tp,_,0,.ref lp,rfl,rfl,SqT.of htp,rfl,.inl ⟨rfl,_,SqL.of hlp⟩,lp,_,rfl,rfl,hlp,?_⟩;have k13:∀ c u,c≠lp->H12 c=some u->upd H12 lp (.lst []) c=some u:=fun c u nc e=>by rw[xh nc]; exact e
    revert k13;generalize upd H12 lp (.lst [])=H13;intro k13;have htp13:=k13 _ _ (xp htp hlp (fun z=>nomatch z)) htp;have how13:=k13 _ _ (xp how hlp (fun z=>nomatch z)) how;have hrn13:=k13 _ _ (xp hrn hlp (fun z=>nomatch z)) hrn;refine⟨_,rfl,tp,_,1,.ref d_o,rfl,rfl,SqT.of htp13,rfl,d_o,rfl,.inl ⟨_,how13,?_⟩⟩;have k14:∀ c u,c≠d_o->H13 c=some u->upd H13 d_o (.dK []) c=some u:=fun c u nc e=>by rw[xh nc]; exact e
    revert k14;generalize upd H13 d_o (.dK [])=H14;intro k14;have htp14:=k14 _ _ (xp htp13 how13 (fun z=>nomatch z)) htp13;have hrn14:=k14 _ _ (xp hrn13 how13 (fun z=>nomatch z)) hrn13;refine⟨_,rfl,tp,_,2,.ref d_r,rfl,rfl,SqT.of htp14,rfl,d_r,rfl,.inr ⟨_,hrn14,?_⟩⟩;have k15:∀ c u,c≠d_r->H14 c=some u->upd H14 d_r (.dT []) c=some u:=fun c u nc e=>by rw[xh nc]; exact e
    revert k15;generalize upd H14 d_r (.dT [])=H15;intro k15;have k1215:∀ c u,c≠lp->c≠d_o->c≠d_r->H12 c=some u->H15 c=some u:=fun c u n1 n2 n3 e=>k15 _ _ n3 (k14 _ _ n2 (k13 _ _ n1 e));have s612:=s611.trans s12;have s615:Same H6 H15:=fun c u e=>k1215 _ _ (xg (s7 _ _ e) f1) (xg (s7 _ _ e) f2) (xg (s7 _ _ e) f3) (s612 _ _ e);have tp15:Tups H12 H15:=fun c xs e=>k1215 _ _ (xp e hlp (fun z=>nomatch z)) (xp e how (fun z=>nomatch z)) (xp e hrn (fun z=>nomatch z)) e;have td10:=td.same (s9.trans s10);have how10:=td10.ow;have hrn10:=td10.rn;unfold OwD at how10;unfold RnD at hrn10;have ow2:=td212.ow;have rn2:=td212.rn;unfold OwD at ow2;unfold RnD at rn2;have td215:Told H15 tp2 lp2 d_o2 d_r2 qs2 prs2 (xab w' ps ss3) ss3 names own rent so ho:=⟨tp15 _ _ td212.tp,k1215 _ _ (Zw (xg td10.lp g1')) (xp td212.lp how (fun z=>nomatch z)) (xp td212.lp hrn (fun z=>nomatch z)) td212.lp,td212.pl.keep tp15,td212.en,td212.al,k1215 _ _ (xp ow2 hlp (fun z=>nomatch z)) (Zw (xg how10 g2')) (xp ow2 hrn (fun z=>nomatch z)) ow2,k1215 _ _ (xp rn2 hlp (fun z=>nomatch z)) (xp rn2 how (fun z=>nomatch z)) (Zw (xg hrn10 g3')) rn2,td212.fit⟩
    have lw15:=lws.same s615;refine⟨_,rfl,_,rfl,_,rfl,_,rfl,d,l3,l5,tp2,lp2,d_o2,d_r2,us,qs2,xbz ps,names,xab w' ps ss3,ss3,prs2,own,rent,so,ho,rfl,lw15,td215,dr.lt,fun H16 s16=>⟨_,rfl,ifP rfl ?_⟩⟩;have s616:=s615.trans s16;refine⟨_,rfl,_,rfl,a,l5,dp,do_,w',h',ps,st,ss3,names,rfl,dr6.same s616,pok,s616 _ _ e6,nps,nnd2,n12,fun H17 p17 fv3 cv3 s17 hp17 ask3=>?_⟩;rcases ask3 with⟨tp3,lp3,d_o3,d_r3,qs3,prs3,own3,rent3,so3,ho3,so03,ho03,rfl,rfl,run3,lr3,td3,_⟩|⟨l2,c2,r2,so02,ho02,_,_,run2,_⟩
    .obtain ⟨rfl,rfl,rfl,rfl⟩:=lr.det lr3;exact⟨p17,_,0,.ref tp3,rfl,rfl,SqT.of hp17,rfl,_,rfl,td3.twin (td215.same (s16.trans s17)),q _⟩
    .exact absurd (run.det run2).2.2 (fun z=>nomatch z)
   .exact absurd (run.det run2).2.2 (fun z=>nomatch z)
  .rcases ask2 with⟨tp2,lp2,d_o2,d_r2,qs2,prs2,own2,rent2,so2,ho2,so02,ho02,_,_,run2,_⟩|⟨l2,c2,r2,so02,ho02,rfl,rfl,run2,hl2⟩
   .exact absurd (run.det run2).2.2 (fun z=>nomatch z)
   .have ec:=(run.det run2).2.2;cases ec;refine⟨fun Z H12=>False,?_,fun Z H12 z=>z.elim⟩;refine⟨_,rfl,rfl,_,rfl,ifP (by rw[decide_eq_false (fun z=>nomatch z)]; rfl) ?_⟩;obtain⟨so1,ho1,mt1,cr,csub⟩:=run.crowd nnd2 c (Zp ..);have cnt:=cr.count mt1 snd hr8;refine⟨_,rfl,_,rfl,_,rfl,d,l3,l5,l,us,xbz ps,names,c.1::c.2,xab w' ps ss3,ss3,rfl,lw11,s811 _ _ hl,cr.nd,csub,?_,fun H12 s12=>⟨_,rfl,ifP rfl ?_⟩⟩
    .rw [xen,cnt,ZJ];omega
    refine⟨_,rfl,_,rfl,1,1,_,_,xc2 (s12 _ _ hl2),xc2 (s12 _ _ (s811 _ _ hl)),by decide,by decide,?_⟩;rw[xbv];exact q _
end
end S41
-- the names of the twins of whole trees and heaps are taken here,so that the head makes no such twins (they are what makes its compiled file large); see NOTE.md
namespace PySem.W.Fast
def tw17562319490145272345:=0
def tw12011915793596960632:=0
def tw5745354584689688126:=0
def tw10627648205797408222:=0
def tw10834484119713062288:=0
def tw13068084175617545206:=0
def tw4751345716676406019:=0
def tw6158479319770016173:=0
def tw5617028200404305082:=0
def tw4789504134359611122:=0
def tw10268915329761479449:=0
def tw9890819961620085163:=0
def tw15414251626851802796:=0
def tw18237038278853504053:=0
def tw5941108711274721439:=0
def tw3076072815193927000:=0
def tw4080567452937030484:=0
def tw1433083140440830149:=0
def tw2452679697743593203:=0
def tw3953629047809601391:=0
def tw6015094812019244901:=0
def tw8649725303113416472:=0
def tw3082942524761137828:=0
def tw1831188034883905041:=0
def tw10169994801944974428:=0
def tw4783614377854711696:=0
def tw1853934930314030811:=0
def tw9961047397442093396:=0
def tw5688820225407489347:=0
def tw9573581112685960617:=0
def tw17639248855741468655:=0
def tw783796490754909052:=0
def tw13102766840422213810:=0
def tw14668372818824029926:=0
def tw5518344283732522504:=0
def tw10535877080757294075:=0
def tw1277765070379665758:=0
def tw6532812171424086321:=0
def tw6041770813550183045:=0
def tw7234866089556369188:=0
def tw5396695006813754073:=0
def tw2343192037061762717:=0
def tw7336800275216223337:=0
def tw15362570118978342560:=0
def tw10103651219790656483:=0
def tw2053378948380603458:=0
def tw6103154768471683156:=0
def tw6450543337027683859:=0
def tw17984880688217893112:=0
def tw6179476329691910078:=0
def tw11986169368469940814:=0
def tw12418599494955998866:=0
def tw2848171196481839140:=0
def tw8352135737970839044:=0
def tw7834459564888231320:=0
def tw106651954452546724:=0
def tw2199073501440864412:=0
def tw11447624825532660608:=0
def tw15410221228681296766:=0
def tw11850133245174428925:=0
def tw6419048685532955044:=0
def tw15343361659553540013:=0
def tw15613572305807719688:=0
def tw6787394110806019722:=0
def tw8462892411234421436:=0
def tw7512563008097006685:=0
def tw11211014211854705654:=0
def tw10975978925440809864:=0
def tw7172995336646134336:=0
def tw5036344613222359261:=0
def tw3621108858829238113:=0
def tw3787478855297912114:=0
def tw15799897400661763360:=0
def tw4423088135690302526:=0
def tw7723861048721980759:=0
def tw17589961348122832169:=0
def tw14953916491143726587:=0
def tw815223297883557702:=0
def tw2565780373696199588:=0
def tw15283150779365219973:=0
def tw13614496085795400709:=0
def tw8888655046911468560:=0
def tw17783118488527963550:=0
def tw17013922359920662515:=0
def tw923862980647596409:=0
def tw14025274687702629647:=0
def tw10905291551793184082:=0
def tw4656308554919761323:=0
def tw14166091788424050769:=0
def tw1319291822138125507:=0
def tw14874208786592381805:=0
def tw7637509513687991570:=0
def tw2332057850737339179:=0
def tw14881223976896121769:=0
def tw8566710225053494529:=0
def tw11078378908382821165:=0
def tw655023029058935722:=0
def tw18130774093985015336:=0
def tw10906247947824059399:=0
def tw10646586248601083439:=0
def tw12250045877628072023:=0
def tw112094867814050484:=0
def tw16613141293684748919:=0
def tw810411278302414287:=0
def tw12228233558695352190:=0
def tw16342672114159425428:=0
def tw2978812104114920642:=0
def tw16527257448924490068:=0
def tw1182681738187984274:=0
def tw1601356537008598818:=0
def tw2427671301779689482:=0
def tw12149087834320401095:=0
def tw11632140687568016883:=0
def tw8430183703638416735:=0
def tw3188611959323828509:=0
def tw7397930396626009052:=0
def tw11172818342611129370:=0
def tw651162800717335955:=0
def tw5989343579899042603:=0
def tw15063394120604215670:=0
def tw2534960983174022818:=0
def tw8948874841617245616:=0
def tw15781411910055900254:=0
def tw17672776542297500689:=0
def tw18378904684696073917:=0
def tw14508789873450980749:=0
def tw12314417311056314229:=0
def tw6371335814768641776:=0
def tw7749855652018664327:=0
def tw15036146912770165858:=0
def tw15812044736549269097:=0
def tw5478304616450624993:=0
def tw4073225791766228610:=0
def tw15896917647177995098:=0
def tw3356367404463719451:=0
def tw1596435533017965994:=0
def tw11264241215403349415:=0
def tw384056539773477556:=0
def tw14981453224721465721:=0
def tw1082109772767984028:=0
def tw13398813752188060364:=0
def tw12163443134309925932:=0
def tw1316813776729799647:=0
def tw12074251368137100461:=0
def tw10499668303909073641:=0
def tw2096557442236451142:=0
def tw11167031553981333271:=0
def tw588730180956244792:=0
def tw2282443268102373802:=0
def tw11381993532563668053:=0
def tw7828261552954555565:=0
def tw13576552488351007705:=0
def tw11240089293735575926:=0
def tw3114123901774914857:=0
def tw2174612836494952022:=0
def tw11878529413735916394:=0
def tw13587519895208717042:=0
def tw2325633659507766013:=0
def tw16359365752156410018:=0
def tw14003079858524889386:=0
def tw4717451754909330712:=0
def tw10274393991637639677:=0
def tw113618584444175371:=0
def tw870231369237467240:=0
def tw4833636923796410720:=0
def tw17047955412613402507:=0
def tw5807868389748949946:=0
def tw8270637962869666677:=0
def tw17782192592935796943:=0
def tw2055588566534413231:=0
def tw4346995336512277634:=0
def tw2612134841323299514:=0
def tw5991053611485149425:=0
def tw4568023524541660860:=0
def tw17155270822947923114:=0
def tw12897876019944509879:=0
def tw6665674203615806456:=0
def tw13169962414521904333:=0
def tw9304818565546762316:=0
def tw18360979810276436051:=0
def tw745569539335091999:=0
def tw3707446013590480530:=0
def tw10264648918693453264:=0
def tw11851866678387507649:=0
def tw11227791176833491608:=0
def tw8025770754526720790:=0
def tw12815347426980873884:=0
def tw17734906555568917269:=0
def tw3674924716151743917:=0
def tw10717392774710004088:=0
def tw15548479724377132084:=0
def tw5700567071929742873:=0
def tw15053085362064531547:=0
def tw1288671297780712426:=0
def tw15621984097159423999:=0
def tw17177865110322345915:=0
def tw16257608032891124391:=0
def tw14574283636468328883:=0
def tw15253861721750588728:=0
def tw12611018273275086040:=0
def tw8759678286226448410:=0
def tw8421957636386012881:=0
def tw13715109852110372902:=0
def tw3077684829268541723:=0
def tw16526360690477158859:=0
def tw2133225807735776243:=0
def tw6766075423186166130:=0
def tw4382738745294988643:=0
def tw9770838298410093371:=0
def tw17430294148561569696:=0
def tw18197758454600922954:=0
def tw5291579554315307382:=0
def tw11274726960622938817:=0
def tw12345484770739475535:=0
def tw11251638664580759453:=0
def tw4185212505285675418:=0
def tw12969882183918760820:=0
def tw7489661717708108660:=0
def tw5623834095644926970:=0
def tw6405059910322537013:=0
def tw5299593596198912526:=0
def tw11862235379810462136:=0
def tw16381988978000706428:=0
def tw17781060343048374944:=0
def tw1913669070674461433:=0
def tw6754175402707620887:=0
def tw1997698794926378023:=0
def tw15033073806852709040:=0
def tw12759349477780033040:=0
def tw10532493874691409827:=0
def tw2457198190467071571:=0
def tw9680218066341399995:=0
def tw17840137993379737817:=0
def tw17720762109666859028:=0
def tw3077800641539311596:=0
def tw3240915273444765470:=0
def tw2337938405215261758:=0
def tw14733546181945147635:=0
def tw5784627444720016961:=0
def tw1017408046975824008:=0
def tw7762094059722836390:=0
def tw2907286054213605037:=0
def tw7074800208032652472:=0
def tw756355888530686375:=0
def tw15271151591666247092:=0
def tw1962953008193218530:=0
def tw15950662230573123210:=0
def tw4552185684257678591:=0
def tw17533034628105605818:=0
def tw10167862407854225818:=0
def tw3944177133626638390:=0
def tw10853619139303802315:=0
def tw5158305672607842189:=0
def tw13819553673158307035:=0
def tw14564951500346636486:=0
def tw7556135686236508762:=0
def tw16348647755996171448:=0
def tw9644822835329810726:=0
def tw9112666016652891501:=0
def tw14040475435847379623:=0
def tw18059336117187878936:=0
def tw15169055350051314255:=0
def tw16404930893394407508:=0
def tw2700336671481541113:=0
def tw6766042789815592585:=0
def tw4858151072537051579:=0
def tw5608764950652086613:=0
def tw14024949448915748236:=0
def tw7262731517812374851:=0
def tw5599222034812234007:=0
def tw9304433614276193811:=0
def tw16780811389562694204:=0
def tw2326461522760574946:=0
def tw2553671558725593778:=0
def tw11423657130677096994:=0
def tw6773159840121369062:=0
def tw10213887910592104896:=0
def tw3318774901135731875:=0
def tw11477575956981116650:=0
def tw13095804191266097288:=0
def tw6355730071977135402:=0
def tw11291398396534282432:=0
def tw13611637287437005469:=0
def tw13408870251332169733:=0
def tw14384930330741813908:=0
def tw12454225505134686458:=0
def tw6703305561313803968:=0
def tw13013793264504192606:=0
def tw5177814051153518268:=0
def tw8299868023918212554:=0
def tw5683073651874177389:=0
def tw11048874810386401743:=0
def tw8345999354113830591:=0
def tw1925920690017634349:=0
def tw1608480642918535548:=0
def tw8661232008657898702:=0
def tw10087520500578123914:=0
def tw12918568378313502025:=0
def tw13398072369901827238:=0
def tw74213160717462879:=0
def tw10429760678546874947:=0
def tw17935298701627269931:=0
def tw1585759772402073248:=0
def tw18132043055730173061:=0
def tw3487883477050616195:=0
def tw9606453440233467853:=0
def tw15850869086079342498:=0
def tw8302642372178373910:=0
def tw16530320612615366333:=0
def tw15442952491129785695:=0
def tw2585517403017192309:=0
def tw2931315232521691937:=0
def tw5786839629471071614:=0
def tw16413486637636735932:=0
def tw9073508308973748959:=0
def tw9180114621429810788:=0
def tw800272993573196703:=0
def tw18176932225562695900:=0
def tw7341052792252198674:=0
def tw5651717367470853815:=0
def tw13571428130830145389:=0
def tw4301329726264940292:=0
def tw714965589415576861:=0
def tw11677488850282668995:=0
def tw17108305884341789481:=0
def tw14500911945805353716:=0
def tw6748545975251631678:=0
def tw9945822675440423559:=0
def tw10908349244129508885:=0
def tw17205041331729734692:=0
def tw3597903411375744869:=0
def tw11926475325930037529:=0
def tw15311086751881494912:=0
def tw13031543707473794352:=0
def tw10043852118835284315:=0
def tw13510232814182149170:=0
def tw17083603449244529476:=0
def tw3008041459718371917:=0
def tw2657343652177363160:=0
def tw4136036849088457569:=0
def tw606354050047210879:=0
def tw13769601688638973964:=0
def tw2784014171679239652:=0
def tw7774069750599962345:=0
def tw909624415427106938:=0
def tw508352962507894154:=0
def tw6598797541522783916:=0
def tw10851936963248059107:=0
def tw16232980780944220083:=0
def tw16127308272174363251:=0
def tw17556208081480107606:=0
def tw7623448993023965372:=0
def tw1903167003810939355:=0
def tw1516674247733634366:=0
def tw15417093790837847707:=0
def tw766804854150589851:=0
def tw10139262126442407967:=0
def tw10981476088522491725:=0
def tw7633762224061340199:=0
def tw12403868118705346714:=0
def tw6445835815295653614:=0
def tw3041535656094695461:=0
def tw630987910701550753:=0
def tw2210117398232795492:=0
def tw4571031571523702941:=0
def tw7445576673509054092:=0
def tw9231261413751192493:=0
def tw1954099618542055559:=0
def tw5445542347641892103:=0
def tw14054818669110407927:=0
def tw13515845651689286896:=0
def tw12759834983055869178:=0
def tw3710485617302968073:=0
def tw14424575961807629833:=0
def tw5483066651505475561:=0
def tw7352305781538745000:=0
def tw17583415778617120291:=0
def tw2237296041438955771:=0
def tw15245237981928435323:=0
def tw7935074152286914684:=0
def tw16461870157806870908:=0
def tw1103304731969904434:=0
def tw12280138429050712132:=0
def tw161806931828506634:=0
def tw13376228604633971045:=0
def tw6056274459424080432:=0
def tw16547561035924208040:=0
def tw17378774056080637472:=0
def tw11692495931717503445:=0
def tw7662627240260229851:=0
def tw10958418183810753437:=0
def tw13229192704879909005:=0
def tw9554718757573346981:=0
def tw2841829208330492244:=0
def tw1350143713833580829:=0
def tw13214841772507544819:=0
def tw8420808633661575431:=0
def tw16745170345055890318:=0
def tw16565104036890375908:=0
def tw299826420489150145:=0
def tw14208693902455949643:=0
def tw16467447367351189988:=0
def tw5876235614033467102:=0
def tw7825321422576813331:=0
def tw12860179329782523493:=0
def tw250586791573515788:=0
def tw15141767353861521026:=0
def tw2156011810396547929:=0
def tw10744858842756819710:=0
def tw8901337876866729121:=0
def tw3805289756136711931:=0
def tw9302646447408998451:=0
def tw13649372106326621906:=0
def tw17258275554151699390:=0
def tw15246326819381128989:=0
def tw9453100931894526223:=0
def tw15058510708100394154:=0
def tw461933418682599426:=0
def tw6925371477186731905:=0
def tw3017192737132516065:=0
def tw8521230970713794147:=0
def tw5170256268651173130:=0
def tw17569935344509388685:=0
def tw2333720933652732395:=0
def tw4729368910845233064:=0
def tw4122932586819661200:=0
def tw15692934477548578731:=0
def tw7217022147616380104:=0
def tw190491940769089603:=0
def tw2542228601661594904:=0
def tw1499234136229640183:=0
def tw6724562602988807841:=0
def tw13403666594768095935:=0
def tw15937392762865000118:=0
def tw6440896453074663034:=0
def tw5680601885619097915:=0
def tw12105822637328264908:=0
def tw11286094711206009535:=0
def tw6431935458787913405:=0
def tw9542170574285056025:=0
def tw2330877369680967313:=0
def tw4920267947588109866:=0
def tw8347597664860222581:=0
def tw3363350008306307498:=0
def tw16385470009669884581:=0
def tw7088891676300842910:=0
def tw8591022946199758100:=0
def tw9946954532821697272:=0
def tw73837135985711274:=0
def tw17975400072126315695:=0
def tw9906605004153401400:=0
def tw10010597961901506336:=0
def tw10444470570363544310:=0
def tw5464967772332708935:=0
def tw10115827603091843693:=0
def tw9807534153008503348:=0
def tw7326416435268637317:=0
def tw6331077850052460860:=0
def tw2719592156553196582:=0
def tw28513795281218059:=0
def tw7552041741091607156:=0
def tw2830399241370513738:=0
def tw4467378236244163273:=0
def tw10717341969633458133:=0
def tw9662565910142486818:=0
def tw11595395864982260378:=0
def tw4292127904411341437:=0
def tw261377219620022371:=0
def tw3398152181300305014:=0
def tw18025291701905566554:=0
def tw15963916135547341158:=0
def tw6617216387682645579:=0
def tw9341151494241589976:=0
def tw3494750936525355061:=0
def tw3616085964933928691:=0
def tw13054721664128352989:=0
def tw7684549588988446972:=0
def tw3329626212174473122:=0
def tw16758723485277344017:=0
def tw7439580526941087312:=0
def tw13986068373249144102:=0
def tw12549384847411531188:=0
def tw15781044814295468303:=0
def tw17002521933534167980:=0
def tw11711015527350028842:=0
def tw6900960522902293202:=0
def tw11724123384383508462:=0
def tw12901185307839492005:=0
def tw11299050438289458026:=0
def tw7401941566750241722:=0
def tw4615780909376021763:=0
def tw13144051963085317425:=0
def tw15574085173967933986:=0
def tw3871548265372862483:=0
def tw5853585410856132906:=0
def tw17191088724058198883:=0
def tw5711772502925323749:=0
def tw12104217511457527129:=0
def tw14681998452368320978:=0
def tw14307529707364792719:=0
def tw15467236866952546439:=0
def tw1922983370718594046:=0
def tw7623884278238193869:=0
def tw2703583899119377215:=0
def tw15305451609921823225:=0
def tw4844173489872035893:=0
def tw12160916699849459357:=0
def tw13172673289051851382:=0
def tw1153438523457932607:=0
def tw1521399519963426171:=0
def tw14223753132986765057:=0
def tw3505135508417037040:=0
def tw531367610197060271:=0
def tw11210336861128804726:=0
def tw10722338858454968485:=0
def tw6374170892993785894:=0
def tw13001731070670266572:=0
def tw8355731291292112827:=0
def tw17310379513175362829:=0
def tw288374970200560101:=0
def tw11795431348656651494:=0
def tw15018835172405724399:=0
def tw6554063735441207144:=0
def tw1320715206668893932:=0
def tw12602013173894215933:=0
def tw18065972788427215123:=0
def tw3635177717258993591:=0
def tw14278141328938724031:=0
def tw10335573547013978313:=0
def tw2999141608796655820:=0
def tw7401481216583740841:=0
def tw12274188408867885551:=0
def tw1368548979587618366:=0
def tw4342496309012635446:=0
def tw10445485964743726613:=0
def tw8986795520652262214:=0
def tw9430250725429584178:=0
def tw13845478499617383532:=0
def tw4278475954716952065:=0
def tw12706081704613403540:=0
def tw9802935609061085875:=0
def tw14117500394043898111:=0
def tw14833619437046554215:=0
def tw6440444692420299397:=0
def tw3298699016618045657:=0
def tw11933907362636838054:=0
def tw14719003347865504713:=0
def tw16333470012082690780:=0
def tw9191795807090490617:=0
def tw4202046860954630647:=0
def tw12210450633814580385:=0
def tw523153848502077665:=0
def tw5060585999224435647:=0
def tw8415327913435922890:=0
def tw2890175694417967180:=0
def tw1698227584164328646:=0
def tw16920920182686656992:=0
def tw10303082865523196618:=0
def tw6769897931062930271:=0
def tw711465549884055839:=0
def tw12625805409101581538:=0
def tw13334236796224538873:=0
def tw16602124833077659794:=0
def tw17875904120755062956:=0
def tw1809935949010118233:=0
def tw5405078681541250019:=0
def tw10870757160899970680:=0
def tw3698305610845453891:=0
def tw9077186180010361128:=0
def tw10681801843865837208:=0
def tw18429423779886869526:=0
def tw3202557206827268835:=0
def tw14413119018209767935:=0
def tw6132093735506896911:=0
def tw15867649650199653657:=0
def tw8800021789903530515:=0
def tw12967250142328958276:=0
def tw8876335275443005673:=0
def tw7951808051304195978:=0
def tw7197896164841989894:=0
def tw7227497949144733824:=0
def tw6258973213175473399:=0
def tw8635121973392116032:=0
def tw17162537835212268252:=0
def tw5475135685310060034:=0
def tw17856533929758895365:=0
def tw17096425902925986646:=0
def tw640638959071173738:=0
def tw5222723261348104780:=0
def tw10980632121379706538:=0
def tw16981695590649904381:=0
def tw8014931603626277879:=0
def tw2231219242176973621:=0
def tw10889306927931663528:=0
def tw11982855067558594367:=0
def tw5015589557159746238:=0
def tw6654647626787939021:=0
def tw2828757223531732281:=0
def tw3329960305953509134:=0
def tw14161985479945374808:=0
def tw9035301824495018996:=0
def tw18029356494786731770:=0
def tw16705591351664874406:=0
def tw4269593864701521567:=0
def tw9339220197142223417:=0
def tw8999985276097737473:=0
def tw13882423673002062612:=0
def tw456185874269272673:=0
def tw7251361366213649001:=0
def tw14101501414736387490:=0
def tw3219551929873336972:=0
def tw1178559249973042917:=0
def tw15884085792777258678:=0
def tw1554758492132501069:=0
def tw3479255525380555658:=0
def tw1970789332019512805:=0
def tw9028539052209566284:=0
def tw16910143644128716772:=0
def tw6210645850355610174:=0
def tw5633498041543678647:=0
def tw11059011232923579691:=0
def tw10659312149213661209:=0
def tw15442587109648389460:=0
def tw16656719110518040960:=0
def tw16700910826125872356:=0
def tw5424120161714400722:=0
def tw4896507624164289600:=0
def tw6444053292471585434:=0
def tw14141797993428358733:=0
def tw15262688104834583739:=0
def tw15032840374612061030:=0
def tw1417014821343473565:=0
def tw7579890763037260711:=0
def tw10009421467458332167:=0
def tw13523345372214138206:=0
def tw18265594700605743284:=0
def tw8172783562853065337:=0
def tw9497021920806062576:=0
def tw1579155527140568995:=0
def tw15035293145461806383:=0
def tw11859695372393256252:=0
def tw4567789576882549636:=0
def tw1232496206484297098:=0
def tw11609305354523077554:=0
def tw5721031275375052259:=0
def tw1838353915129282377:=0
def tw5280522776029197702:=0
def tw700812278242021869:=0
def tw13066596529175367441:=0
def tw10352553835690704815:=0
def tw14340435428150580861:=0
def tw11823512012411275961:=0
def tw12260716141232891761:=0
def tw4761984757126898007:=0
def tw1399820392158433086:=0
def tw3375618523994427080:=0
def tw579031180711553828:=0
def tw15256979932071221099:=0
def tw16461042263765256712:=0
def tw7246625029992176829:=0
def tw975694720425500674:=0
def tw9835049326012491598:=0
def tw1934960624945991947:=0
def tw1094101222980867946:=0
def tw57196854130777683:=0
def tw1703063578191673836:=0
def tw16257265059642932056:=0
def tw8850035884455856562:=0
def tw14471154026360781296:=0
def tw8171199851605051554:=0
def tw3265538645490947027:=0
def tw17554190857004016936:=0
def tw5721377534537657632:=0
def tw3368579099562822673:=0
def tw13288046789280087313:=0
def tw8496879008524439032:=0
def tw14597185876194837988:=0
def tw17124461393312272041:=0
def tw3566616823129908886:=0
def tw16597849496621966180:=0
def tw1934396562500647360:=0
def tw10502143238222541901:=0
def tw9242161471400107124:=0
def tw17041547011036965812:=0
def tw11236507586971231078:=0
def tw11256900146032944927:=0
def tw13472388008115135499:=0
def tw13945405252372892799:=0
def tw4772309712798695358:=0
def tw15028922378063784916:=0
def tw7865902295346769194:=0
def tw5402087086998636317:=0
def tw12965773680002476733:=0
def tw11456759748271704589:=0
def tw16108462737718685366:=0
def tw4504618153444507757:=0
def tw4976424531649183054:=0
def tw12264937155660814463:=0
def tw11381658054410787382:=0
def tw10005267919913211690:=0
def tw9055785597162670959:=0
def tw12843839490852898023:=0
def tw8687776571499030619:=0
def tw17176803088494936424:=0
def tw1163712595744358750:=0
def tw8636437170328938192:=0
def tw7853074119460226547:=0
def tw16531645195822733370:=0
def tw6743053232519205592:=0
def tw2271047100457687156:=0
def tw3625061194714863407:=0
def tw9290617938040745134:=0
def tw13941288174046179178:=0
def tw10441150542035214339:=0
def tw2655580391258396502:=0
def tw562425205781207370:=0
def tw2315513750227457358:=0
def tw3390086992569470773:=0
def tw14047854502816075982:=0
def tw9659794797887241540:=0
def tw10189381932126552652:=0
def tw79439796062717692:=0
def tw131751958678327833:=0
def tw15297293341760519455:=0
def tw17363902712227795401:=0
def tw15701819016530139593:=0
def tw2248817468975933834:=0
def tw7570628271786865287:=0
def tw13350124163625149308:=0
def tw11715108666492214164:=0
def tw8830282993556613344:=0
def tw1446841457931647835:=0
def tw1283058810369404720:=0
def tw9928986895489027551:=0
def tw4379181075953027596:=0
def tw8479625252871797360:=0
def tw14784728438439934293:=0
def tw11520148243408140541:=0
def tw8472066092333483926:=0
def tw12685914299026099471:=0
def tw11037318531929770096:=0
def tw6229715716999901420:=0
def tw665962092342840570:=0
def tw16860110351609133445:=0
def tw13378755833568545785:=0
def tw596548595259724775:=0
def tw13658225787693815471:=0
def tw16164087217341877857:=0
def tw13790538917914142464:=0
def tw7482824353151862117:=0
def tw4853499562357128494:=0
def tw8734660124210294154:=0
def tw14667106597913510878:=0
def tw3216643940121947999:=0
def tw5504543161071849135:=0
def tw15449229619059749643:=0
def tw1845911961342366123:=0
def tw723346870165223995:=0
def tw5820753382550767967:=0
def tw16540261210261335614:=0
def tw1774064718754742471:=0
def tw11928752750289817907:=0
def tw2796849248030000074:=0
def tw14140166070408194135:=0
def tw7059229849928894876:=0
def tw11463005382319017842:=0
def tw7798770043263015717:=0
def tw17113553593302463764:=0
def tw9688049593316596242:=0
def tw17196867168253173675:=0
def tw12206231290085157797:=0
def tw5602958314135296775:=0
def tw11057695461089973227:=0
def tw7051319113242693334:=0
def tw14306625198506414557:=0
def tw3505549487217056797:=0
def tw340122023234796202:=0
def tw12775243628088254025:=0
def tw2999197727945790490:=0
def tw8490409545335647536:=0
def tw160530191302995662:=0
def tw8056594568309996986:=0
def tw11031609853350286862:=0
def tw8429545942784041728:=0
def tw15225661090203647083:=0
def tw16697671785039588671:=0
def tw10022980279684120819:=0
def tw9576674729791273723:=0
def tw8450475926052957258:=0
def tw2728910764101856856:=0
def tw16586008928065153464:=0
def tw3082157657694309450:=0
def tw2179415807819673301:=0
def tw10964415456102600499:=0
def tw1344942512040163928:=0
def tw368903891359834878:=0
def tw578657535775352705:=0
def tw17153197017639848243:=0
def tw5791693143402188595:=0
def tw7036191712021026718:=0
def tw11579815193427119135:=0
def tw13882385683082440887:=0
def tw6104304666269881676:=0
def tw5992606296020196157:=0
def tw11198599222723481426:=0
def tw4988762885833080684:=0
def tw15637470082233633578:=0
def tw10518959425065413651:=0
def tw5600248420466242485:=0
def tw17564972574280398540:=0
def tw11540248150548375363:=0
def tw9557238095103133847:=0
def tw5614341371682455355:=0
def tw11737397648154027391:=0
def tw17054542413716407687:=0
def tw17724920885298504961:=0
def tw8504442990578416598:=0
def tw3940938131294086610:=0
def tw13299461636475381402:=0
def tw11776559959313869211:=0
end PySem.W.Fast
namespace S41
open PySem L2 XL
theorem walk {l:PySem.W.OpenLaw}{q:Program}{loose:List Str}{XP:(Str->Option Value)->Heap->Prop}{YP:World->Heap->Prop}{d:DefRec}{K:Params->Zd} (hn:l.most=some 63) (hdf:d.params.defaults=[])
    (hY:∀(w:World) (h:Heap),YP w h->(K w.params).In h)
    (F:∀(w:World) (mg:Str->Option Value) (fa:Addr) (h:Heap),(K w.params).In h->h.Ns mainGlobals mg->mg d.name=some (.ref fa) ->
      ∃ fd:FuncData,(∀(s:Shared) (u:Value),BindsTo s fd ⟨[u],[]⟩ [("_law_script",u)])/\∀ base:Heap,(K w.params).In base->base.Ns mainGlobals mg->FnOk true l.prog w (K w.params) mg base (CXo l.prog w) 12 fa fd ["_law_script"] (xic (K w.params))) :
    PySem.W.WalkO q loose XP YP l.row.toRowW d [] (fun f vs=>PySem.call f vs) :=
  L2.walk_of (q0:=true) (n:=63) (k:=12) (x:="_law_script") (CX:=fun w=>CXo l.prog w) (sp:=fun w=>xic (K w.params)) hn (by decide) hdf ⟨fun _=>rfl,by decide,by decide,rfl⟩ hY F (fun _ _ a ns hl _ hS=>⟨a,ns,rfl,hS,hl,fun _=>rfl⟩)
    fun w H s e s' z=>by obtain⟨_,_,_,_,_,_,_,_,_,_,_,_,_,_,q⟩:=z; exact q
theorem all_mk {l:PySem.W.OpenLaw}{w:World}{K:Zd}{h:Heap}{mg:Str->Option Value}{fa:Addr} (hfa:mg "law"=some (.ref fa)) (TT:∃ t,Txt w K mg t) :
    ∃ fd:FuncData,(∀(s:Shared) (v:Value),BindsTo s fd ⟨[v],[]⟩ [("_law_script",v)])/\∀ base:Heap,K.In base->base.Ns mainGlobals mg->FnOk true l.prog w K mg base (CXo l.prog w) 12 fa fd ["_law_script"] (xic K):=by
  obtain⟨t,T⟩:=TT;have e:=hfa.symm.trans T.g_law;cases e;refine⟨t.d_law,fun s v=>?_,fun base _ _=>xsl T⟩;obtain⟨oc,od,kV,doc,pm,an,cdv,ct,osl,e,lk,hcd⟩:=T.F_law.ex;rw[e];exact .of_eq rfl
end S41
open PySem PySem.W PyProof.Rows
set_option maxRecDepth 100000 in
set_option maxHeartbeats 0 in
theorem PySem.Challenge.cw_rimnotes_k41_least_and_prices_holds : PySem.Challenge.rw_rimnotes_k41_least_and_prices.Holds := by
 w_on; o_law; k_head; (case hw=>w_witness2)
 k_fill
 refine S41.walk (l:=PySem.Challenge.rw_rimnotes_k41_least_and_prices) rfl rfl (fun w h Y=>PySem.W.kIn_of Y) ?F
 case F =>
  intro w mg fa h KX G hmg
  refine S41.all_mk (h:=h) hmg ?TT
  refine' S41.txt_mk (w:=w) KX G ?g_ay ?g_ac ?g_z ?g_bg ?g_am ?g_ad ?g_o ?g_b ?a_aj ?F_aj ?i_aj ?a_ae ?F_ae ?i_ae ?a_m ?F_m ?i_m ?a_d ?F_d ?i_d ?a_crowds ?F_crowds ?a_fits ?F_fits ?a_ap ?F_ap ?i_ap ?a_t ?F_t ?i_t ?a_p ?F_p ?i_p ?a_av ?F_av ?a_ak ?F_ak ?i_ak ?a_x ?F_x ?i_x ?a_v ?F_v ?i_v ?a_s ?F_s ?i_s ?a_g ?F_g ?i_g ?a_least ?F_least ?a_ag ?F_ag ?a_ax ?F_ax ?a_af ?F_af ?i_af ?a_a ?l_a ?c_a ?k_a ?i_a ?t_a ?a_h ?F_h ?i_h ?a_n ?F_n ?i_n ?a_k ?F_k ?i_k ?a_i ?F_i ?i_i ?a_q ?F_q ?i_q ?a_ab ?F_ab ?i_ab ?a_w ?F_w ?i_w ?a_j ?F_j ?i_j ?a_e ?F_e ?i_e ?a_l ?F_l ?i_l ?a_f ?F_f ?i_f ?a_c ?F_c ?i_c ?a_r ?F_r ?a_as ?F_as ?a_at ?F_at ?a_aq ?F_aq ?a_al ?F_al ?a_aw ?F_aw ?a_u ?F_u ?a_y ?F_y ?a_ao ?F_ao ?a_au ?F_au ?a_ar ?F_ar ?a_ah ?F_ah ?a_ai ?F_ai ?a_an ?F_an ?a_law ?F_law ?kc_ac ?ov_ac ?hd_ac ?sa_ac ?ga_ac ?gh_ac ?ca_ac ?mk_ac ?kc_z ?pg_z ?hd_z ?po_z ?sa_z ?mk_z ?kc_am ?pg_am ?hd_am ?po_am ?sa_am ?mk_am ?a_LeftSide_init ?kc_ad ?pg_ad ?hd_ad ?po_ad ?sa_ad ?mk_ad ?a_RightSide_init ?kc_o ?pg_o ?hd_o ?po_o ?sa_o ?mk_o ?kc_b ?pg_b ?hd_b ?po_b ?sa_b ?mk_b ?cg ?ct ?n_a8 ?n_az ?n_a1 ?n_a4 ?n_a2 ?n_a0 ?n_a3 ?n_a6 ?n_a9 ?n_ba ?n_a5 ?n_a7 ?n_bb ?n_be ?n_abs ?n_bool ?n_dict ?n_enumerate ?n_int ?n_isinstance ?n_len ?n_list ?n_min ?n_range ?n_reversed ?n_set ?n_sorted ?n_str ?n_tuple ?mro_ac ?xga_ay ?xrd_ay ?xfi_ay ?v_bf ?v_bc ?v_bd ?g_aa ?l_aa ?ns_aa
  case g_ay|g_ac|g_z|g_bg|g_am|g_ad|g_o|g_b|a_crowds|a_fits|a_av|a_least|a_ag|a_ax|a_r|a_as|a_at|a_aq|a_al|a_aw|a_u|a_y|a_ao|a_au|a_ar|a_ah|a_ai|a_an|a_law|g_aa=>delta S41.gI; k_is
  case a_aj|a_ae|a_m|a_d|a_ap|a_t|a_p|a_ak|a_x|a_v|a_s|a_g|a_af|a_a|a_h|a_n|a_k|a_i|a_q|a_ab|a_w|a_j|a_e|a_l|a_f|a_c|a_LeftSide_init|a_RightSide_init=>delta S41.fI; k_is
  case F_aj|F_ae|F_m|F_d|F_crowds|F_fits|F_ap|F_t|F_p|F_av|F_ak|F_x|F_v|F_s|F_g|F_least|F_ag|F_ax|F_af|F_h|F_n|F_k|F_i|F_q|F_ab|F_w|F_j|F_e|F_l|F_f|F_c|F_r|F_as|F_at|F_aq|F_al|F_aw|F_u|F_y|F_ao|F_au|F_ar|F_ah|F_ai|F_an|F_law=>exact L2.fun_mk (by k_is) (by k_is) (by k_is)
  case sa_ac|ga_ac|ca_ac|sa_z|sa_am|sa_ad|sa_o|sa_b=>delta S41.fB; k_is
  case gh_ac|n_a8|n_az|n_a1|n_a4|n_a2|n_a0|n_a3|n_a6|n_a9|n_ba|n_a5|n_a7|n_bb|n_be=>delta S41.fN; k_is
  case n_abs|n_bool|n_dict|n_enumerate|n_int|n_isinstance|n_len|n_list|n_min|n_range|n_reversed|n_set|n_sorted|n_str|n_tuple=>delta S41.gN; k_is
  case i_aj|i_ae|i_m|i_d|i_ap|i_t|i_p|i_ak|i_x|i_v|i_s|i_g|i_af|l_a|c_a|k_a|i_a|t_a|i_h|i_n|i_k|i_i|i_q|i_ab|i_w|i_j|i_e|i_l|i_f|i_c|kc_ac|hd_ac|kc_z|pg_z|hd_z|po_z|kc_am|pg_am|hd_am|po_am|kc_ad|pg_ad|hd_ad|po_ad|kc_o|pg_o|hd_o|po_o|kc_b|pg_b|hd_b|po_b|cg|ct|mro_ac|v_bf|v_bc|v_bd=>k_is
  case mk_ac|mk_z|mk_am|mk_ad|mk_o|mk_b|xga_ay|xrd_ay|xfi_ay|l_aa=>first|k_is|kernel_rfl
  case ov_ac|ns_aa=>kernel_rfl
