import PyProof.Rows.All
import Wide.All
import OpenK.AllK
import PySem.Challenge.RW_rimnotes_k92_whole_stretched
set_option maxRecDepth 100000
set_option maxHeartbeats 4000000
set_option Elab.async false
set_option linter.all false
open List renaming length_map→Za,getElem?_eq_getElem→Zb,mem_map→Ze,getElem?_map→Zf,getElem?_eq_some_iff→Zi,mem_cons_of_mem→Zj,mem_of_getElem?→Zm,mem_cons_self→Zn,map_cons→Zo,mem_singleton→Zp,map_append→Zq,length_append→Zs,mem_cons→Zt,map_map→Zw,mem_of_find?_eq_some→Zy,range→Z1,mem_append→Z3,lookup_cons→Z5,mem_append_right→Z6,size_toArray→Z7,nodup_cons→ZB,mem_filter→ZC,nodup_append→ZH,getElem_of_mem→ZI,length_cons→ZL,getElem?_append_left→ZQ,mem_append_left→ZR,take_add_one→ZS,mem_range→ZT,getElem?_eq_none→ZV,length_singleton→ZY,pairwise_map→Ja,length_range→Jb,sum_cons→Jc,take_length→Jf,filterMap_cons→Jj,lookup→Jm,not_mem_nil→Jq,getElem?_append_right→Js,take_of_length_le→Jx,length_take→J0,nodup_nil→J5,find?_eq_none→J6,any_eq_true→J9,find?_cons_of_pos→JA,pairwise_iff_getElem→JB,drop_eq_getElem_cons→JC,map_congr_left→JD,mem_filterMap→JR,filter_append→JS,Pairwise→JU,filter_cons_of_pos→JY,filter_cons_of_neg→JZ,getElem?_range→Yb,length→Yd,length_filter_le→Yj,find?_cons→Yl,mem_of_mem_take→Yo,any_cons→Yq,Perm→Yr,all_eq_true→Ys,find?_cons_of_neg→Y0,range_succ→Y6,take_append_drop→Y7,Nodup→YA,map_id→YB,getElem_map→YG,append_nil→YL,find?_append→YW,filter_congr→YX,ext_getElem?→YY,range_succ_eq_map→Qb,perm_middle→Qf,mem_reverse→Qg,map_take→Qk,map_drop→Ql,all_cons→Qm,mem_iff_getElem→Qo,getElem?_set_ne→Qp,filter_nil→Qv,cons→Qz,filterMap_map→Q3,getD_eq_getElem?_getD→Q4,take_sublist→Q8,foldl_append→Q9,append_assoc→QA,append_inj'→QL,getElem?_replicate→QO,drop_of_length_le→QV,find?_some→QX,filter_map→QY,length_replicate→Wc,perm_cons_erase→Wk,mem_of_mem_drop→Wl,mem_erase_of_ne→Wm,pairwise_cons→Wy
open PySem renaming wpAny_bind→Zc,wpAny_pure→Zk,Spec→ZN,wpAny_holding→ZW,wpAny_typeNameOfWhole_keyiter→Ji,wpAny_mono→Jk,wpAny_dictEntries→Jt,wpAny_call_entry→Jz,wpAny_callSpecial?_slot→J4,wpAny_dictEpoch→J7,wpAny_newObj_type→JK,mem_of_lookup→JN,wpAny_Call_Name_kw→Yg,wpAny_isOneOf_keyiter→Yh,wpAny_truthy_bool→Ym,wpAny_typeNameOfWhole_itemiter→Yu,tupleKind_room_in1→Yx,wpAny_isOneOf_itemiter→Yz,wpAny_passesOwn→Y3,wpAny_loadPart'→Y4,wpAny_setState_of→Y8,wpAny_attempt→YI,wpAny_typeNameOf_keyiter→YK,wpAny_setField_rec→YO,call_meetsIn→YT,wpAny_pyIter_list→YV,wpAny_notOrdered_dict→Qd,wpAny_field→Qn,wpAny_specialOf→Qr,wpAny_ite_split→Qs,codeAny_builtin→Qt,wpAny_typeOf→Qw,codeAny_mono→Qx,wpAny_pyIter_enum→Q6,plainId_quiet→QC,boot_len→QG,wpAny_isInstance→QH,wpAny_Call_method0_late→QN,Within→QR,wpAny_pyNext_list_item→QT,wpAny_execs_nil→QW,wpAny_pyNext_list_end→Wa,builtinLookup_eq_fast→Wb,sizeLine_eq→Wd,wpAny_seqItems→Wf,wpAny_pyIter_keyiter→Wi,evalArgs_none→Ws,wpAny_standAt→Wu,wpAny_call→Ww
open PySem.W renaming Frag→Zd,mg_of→Z2,isFn→ZO,findIn→ZP,mg_none_of→ZU,fnOf→Jw,keepIn→Jy,kia_one→J8,emptyDict→JL,plainGet→JP,hasDictIn→JX,instObj→Yk,plainOver→Yn,makesIn→Y5,codeIn→YU,nsIn→QS,lookIn→Wg,kitOne→Wh,plainGet_of→Wt,callWith_K→Wx
open PySem.Heap renaming get?_push_of_some→Zg,get?_push_size→Zu,lt_size→Zv,SameBut→Jn,get?_update_self→JF,size_push→Yf,get?_update_other→Y1,ExtBut→We
open Option renaming map_eq_some_iff→Zh,some→ZE,map_some→Qu,isSome_map→Q7,isSome_iff_exists→QE,bind_some→QI
open Nat renaming le_refl→Zl,lt_of_lt_of_le→ZD,zero_le→ZF,ne_of_lt→ZG,lt_trans→ZJ,le_trans→ZZ,le_of_lt→JJ,lt_of_le_of_lt→JQ,ne_of_gt→JT,lt_irrefl→Yp,lt_or_ge→YD,le_add_right→YF,lt_succ_self→QJ,le_of_not_lt→QK
open PySem.Value renaming ref→Zr,none→Jl,bool→Ye,type→YN,int→YQ,builtin→Qj,str→Wp
open Ne renaming symm→Zx
open Bool renaming false_eq_true→Zz,false_ne_true→Z4,and_eq_true→ZM,eq_iff_iff→Jg,eq_false_iff→Jh,true_and→JH,false_and→JV,and_false→Q2,not_eq_true'→QB,not_true→QD
open PySem.SeqAt renaming EqAt→Z0,RcNeAt→Z9,RcAt→ZK
open PySem.Str renaming ofString→Z8,empty→Wq
open PySem.PassesOwn renaming never→ZA
open PySem.F renaming slot_dict_keyiterator_next→ZX,type_list_append→Jo,slot_list_append→Jp,plainAttrs_list→Jr,slot_dict_itemiterator_next→JW,slot_dict_get→Yi,plainAttrs_dict→Yt,args_dict_keyiterator_next_1→Yv,entry_dict_keyiterator_next→Yw,called_set→YE,slot_dict_items→YS,entry_dict_get→Qa,slot_list_getattribute→QF,slot_dict_iter→QM
open Sum renaming inr→Jd,inl→Qh
open PyProof.Rows renaming callWith_type1→Je,slot_tuple_getitem→Qc,strKind→Wj
open Array renaming getElem?_eq_getElem→Ju,length_toList→JE,getElem?_toList→JG,getElem?_eq_some_iff→YC,getD→Qe,getD_eq_getD_getElem?→Qy,map→Q1
open True renaming intro→Jv
open Int renaming eq_ofNat_of_zero_le→JI,toNat_natCast→JM,le_refl→YR,emod_nonneg→QZ,emod_lt_of_pos→Wz
open PySem.Obj renaming mapSeq→JO,putSet→QQ
open False renaming elim→Ya
open PySem.Calls renaming callWith_builtin→Yc,spliced_cons→Yy,spliced_nil→YZ,evalArgs_plain→Wn
open Or renaming inl→Y9,inr→QP
open Classical renaming byContradiction→YH
open PySem.Paired renaming length→YJ
open ForInStep renaming yield→YM
open Prod renaming mk→Qi
open PySem.Around renaming under_plainId→Qq
open PySem.Data renaming fields→Q5,cell→Wr
open PyProof renaming noPylong_small→QU
open LawfulBEq renaming eq_of_beq→Wo
open PySem.NameKind renaming free→Wv
set_option hygiene false
namespace Ab
open Lean
abbrev Tb:=Std.HashMap Name (Array Name×Syntax)
def sub (p:Array Name) (a:Array Syntax) (b:Syntax):Syntax:=b.rewriteBottomUp fun s=>if s.isIdent then (match p.idxOf? s.getId with|some i=>a[i]!|none=>s) else s
def put (t:Tb) (n:Syntax) (a:Array Syntax):Option Syntax:=if n.isIdent then (match t.get? n.getId with|some (p,b)=>if p.size==a.size then some (sub p a b) else none|none=>none) else none
def par (b:Syntax):MacroM Syntax:=if b.isIdent then pure b else return (← `(($(⟨b⟩)))).raw
def tac (b:Syntax):MacroM Syntax:=match b.find? (·.isOfKind `Lean.Parser.Term.byTactic) with|some x=>return (← `(tactic|($(⟨x[1]⟩):tacticSeq))).raw|none=>return b
def pat (s:Syntax):Syntax:=if s.isOfKind `Lean.Parser.Tactic.rintroPat.one then s[0][0] else s
def step (t:Tb) (s:Syntax):MacroM Syntax:=do
 if s.isIdent then
  if let some b:=put t s #[] then return ←par b
  return s
 let k:=s.getKind
 if k==`Lean.Parser.Term.app then
  if let some b:=put t s[0] s[1].getArgs then return ←par b
 else if k==`Lean.Parser.Term.tuple then
  let a:=s[1]
  if let some b:=put t a[0] a[2].getSepArgs then return ←par b
 else if k==`Lean.Parser.Tactic.show then
  if (s[1].find? (·.isOfKind `Lean.Parser.Term.byTactic)).isSome&&(s[1].isOfKind `Lean.Parser.Term.paren||s[1].isOfKind `Lean.Parser.Term.byTactic) then return ←tac s[1]
 else if k==`Lean.Elab.Tactic.Ext.ext then
  let a:=s[1].getArgs.map pat
  if let some b:=a[0]? then
   if b.isIdent then
    if let some b:=put t b (a.extract 1 a.size) then return ←tac b
   else if (b.find? (·.isOfKind `Lean.Parser.Term.byTactic)).isSome then return ←tac b
 return s
def rp (p:Syntax):TSyntax `rintroPat:=⟨mkNode `Lean.Parser.Tactic.rintroPat.one #[if p[1].isNone&&p[0][0].getNumArgs==1 then p[0][0][0] else mkNode `Lean.Parser.Tactic.rcasesPat.paren #[mkAtom "(",p,mkAtom ")"]]⟩
def nm (c:String) (s:Syntax):Term:=mkIdent (.mkSimple (c++toString (s.isNatLit?.getD 0)))
def step2 (s:Syntax):MacroM Syntax:=do
 let k:=s.getKind
 if k==`Lean.Parser.Term.anonymousCtor then
  let a:=s[1].getSepArgs
  if let some n:=a[0]?.bind (·.isNatLit?) then
   if n>40 then
    let b:Array Term:=(a.extract 1 a.size).map (⟨·⟩)
    return (←`($(nm "n" a[0]!) $b*)).raw
 else if k==`Lean.Parser.Tactic.obtain then
  if (s[2][1].isNatLit?).isSome then
   let q:=s[1][0][0][0][1].getSepArgs.map rp
   let h:Term:=⟨s[3][1].getSepArgs[0]!⟩
   let f:=nm "i" s[2][1]
   return (←if h.raw.isIdent&&h.raw.getId.isAtomic then `(tactic|(revert $h:term;refine $f ?_;rintro $q*)) else `(tactic|(refine $f ?_ $h;rintro $q*))).raw
 else if k==`Lean.Parser.Tactic.rintro then
  let a:=s[1].getArgs
  if let some j:=a.findIdx? (fun p=>p.isOfKind `Lean.Parser.Tactic.rintroPat.binder&&(p[2][1].isNatLit?).isSome) then
   let f:=nm "i" a[j]![2][1]
   let q:=a[j]![1][0][0][1].getSepArgs.map rp++(a.extract (j+1) a.size).map (⟨·⟩)
   let p:Array (TSyntax `rintroPat):=(a.extract 0 j).map (⟨·⟩)
   return (←if j==0 then `(tactic|(refine $f ?_;rintro $q*)) else `(tactic|(rintro $p*;refine $f ?_;rintro $q*))).raw
 return s
end Ab
local macro_rules|`(mutual $cs* end)=>do
 unless cs[0]!.raw[1].isOfKind `Lean.Parser.Command.example do Lean.Macro.throwUnsupported
 let mut t:Ab.Tb:={}
 let mut o:=#[]
 for c in cs do
  if c.raw.isOfKind `Lean.Parser.Command.check then
   let e←if c.raw[1].isIdent then `(command|end $(⟨c.raw[1]⟩):ident) else `(command|end)
   o:=o.push e.raw
  else
   let c←c.raw.rewriteBottomUpM (Ab.step t)
   if c[1].isOfKind `Lean.Parser.Command.example then
    let y:=c[1][1][1][0][1]
    let v:=c[1][2][1]
    t:=if y.isIdent then t.insert y.getId (#[],v) else t.insert y[0].getId (y[1].getArgs.map (·.getId),v)
   else o:=o.push (←c.rewriteBottomUpM Ab.step2)
 return Lean.mkNullNode o
mutual
example:aa:=by omega
example:bA a:=(a:Int)
example:iL a b:=List (a × b)
example:aB a b:=by rw[a];exact b
example:cX a:=Option a
example:ax a b:=(H a)=(some b)
example:ae a b c d:=by have a:=b;have c:=d
example:bM a b:=a->(b->Prop)
example:dR a b:=xa (pv a) b
example:af a b c d:=by obtain⟨a,b,c⟩:62:=d
example:am a b:=fun a b=>?_
example:dO a b c:=(a[b]?)=(some c)
example:ap:=by decide
example:aT a:=some (.ref a)
example:aK:=p.1
example:dI a b:=⟨_,a,b⟩
example:Go a b c:=Inv X pins a b c
example:av a b:=by ext aB a b
example:cT a b:=(Go Z a b)
example:au a b c d e:=a/\(b/\(c/\(d/\e)))
example:aW a:=((a).2).1
example:bC a b c d e:=⟨83,a,b,c,d,e⟩
example:ah:=by simp
example:ai:=List Str
example:ag:=List V
example:aM a:=if_neg a
example:aF a b:=(dO a i b)
example:az a:=if_pos a
example:aC a:=fun z=>a
example:aj:=List Seat
example:dh a b c:=fun a b e=>c
example:Fk:=by decide +kernel
example:eY a:=.type a
example:iz a:=(cT H a)
example:bi a b c d:=⟨63,a,b,c,d⟩
example:aE a b c:=by exact⟨a,b,c⟩
example:aP:=by ext Fk
example:aA:=.ref a
example:aV a:=SqL.of a
example:bS a:=((a).2).2
example:jj a:=(dR a xi)
example:aH:=i+1
example:bJ a b c d e:=fun a b c d e=>?_
example:cJ a:=decide a
example:ao:=List Addr
example:ay a b c d:=by have a:b:=c;refine d
example:aq:=(iz s)
example:bz a:=(H a)=none
example:fC a:=⟨_,a⟩
example:bg a b c d e:=a->(b->(c->(d->e)))
example:eQ a:=(bM a Shared)
example:aw:=List Pt
example:b8 a b c d e:=⟨45,a,b,c,d,e⟩
example:fH a b c d:=fun a b c e=>d
example:eP a b:={ cls:=(eY a),data:=b }
example:bR a b c d:=⟨44,a,b,c,d⟩
example:aI a b c:=fun a b c=>?_
example:bZ a:=fun a=>?_
example:ia a b:=by obtain⟨a,rfl⟩:=b
example:aN:=x.1
example:aR a b c d:=(a=b)/\(c/\d)
example:aD:=Seat->(cX Str)
example:aO a b:=by exact⟨a,b⟩
example:bm a:=by refine (Zc a)
example:bF a b c d e:=by obtain⟨a,b,c,d⟩:63:=e
example:mF a:=(bM a Hp)
example:oy a:=((a).1).nm
example:zD a:=(iL Addr a)
example:dy a b:=by exact (absurd a b)
example:gG a:=Same H a
example:dc a b c:=by refine⟨a,b,c⟩
example:aQ:=List Value
example:aG:=List Pr
example:fT a b:=(dR a (jj b))
example:aJ:=model X.prog X.w
example:cZ:=by subst e
example:cR a b:=by refine⟨a,b⟩
example:aL:=(iL Key V)
example:iD:=fun _ _=>rfl
example:bH:=(aK).nm
example:eG a:=⟨rfl,a⟩
example:d0 a b:=fun i a=>b
example:bv a:=some (.int a)
example:dW:=List Key
example:bD:=pv 0
example:db a:=by have:=a;omega
example:cQ a b:=by obtain rfl:a:=b
example:aS:=model prog w
example:bb a b c d:=a->(b->(c->d))
example:kR a b c d e:=let a:=b; (let c:=d; e)
example:eA a:=SqT.of a
example:bc:=(zD Obj)
example:ba a b:=xw K a b []
example:dP:=(bA w)
example:cV a:=a<=sizeLine
example:cG:=(bA i)
example:aU:=CXo P w
example:b5 a b:=⟨a,b,rfl⟩
example:bB a b c:=by rw[a] at b;cases c
example:b9 a b:=(dO a j b)
example:ku a b:=xg (xb a b)
example:bu a b c:=xq a b (xl c)
example:cC a b:=(cJ,a=b)
example:bj:=(eQ Value)
example:aX:=Txt w K mg t
example:dD a b c d:=⟨a,_,b,c,rfl,d⟩
example:i7 a:=by refine(dI a ?_)
example:z6 a:=by exact a
example:im:=(bA h)
example:bp:=Zl _
example:aZ:=hmm hr
example:aY a:=(bJ vs H Q E a)
example:c9 a:=(dI rfl a)
example:cK a b:=by rw[a,b]
example:bo a b c d e:=by have a:b:=(fun c d=>e)
example:dA a b c d:=(bC a b rfl c d)
example:bQ:=.ref l
example:eO a:=(a:Str)
example:dk:=k+1
example:nE a b c:=upd a b (.tup c)
example:bE a b c d:=a/\(b/\(c/\d))
example:bU a b:=by refine a;refine b
example:cu:=.ref q
example:cF:=(aW x)
example:kg a b c:=(bi a rfl b c)
example:bw a b c d:=⟨82,a,b,c,d⟩
example:ja a b:=by rw[<- a];exact b
example:bq:=Str->(cX Seat)
example:dF:=.ref d
example:qR a:=xz (pv a) rfl
example:cY a b c:=by rw[a,b];exact c
example:dN a b c:=upd a b (.lst c)
example:mH a b:=.ins a dx b
example:bW:=p.2
example:b7:=List α
example:f8:=(rnd mask h r).1
example:dS:=s.2
example:cE a b:=by rw[a] at b;cases b
example:cU:=x.2
example:bO a b c:=by rw[a] at b;exact c
example:cS a b:=(av,xg a,b)
example:gs:=(fC rfl)
example:cL:=(gG H')
example:cH a:=by exact (.inl a)
example:cN a b c d:=(bC a b c rfl d)
example:eR a b:=(ax,a,.tup b)
example:kH a:=by ext ia t a
example:eI:=(bS p)
example:bG:=Seat->Int
example:zq a b:=(a == b)=false
example:dH a:=xk (xu a)
example:cm a b c:=if (a=true) then b else c
example:rB a b c:=⟨a,b,rfl,c⟩
example:bI a b:=by rw [a];exact b
example:iO a b:=fun Z H a=>b
example:bP:=(cX V)
example:bK:=List Int
example:gX a:=by exact (.inr a)
example:bN:=Str->Int
example:bL:=xap aP
example:uQ:=(iL Seat Int)
example:dM a:=(bA (a:Nat))
example:jx a:=eval a X.env
example:bX a b:=(mg a)=(some (.ref b))
example:i0 a b c d e:=(upd a b c d)=(some e)
example:cB:=.int i
example:rO:=xai _
example:cp:=(az rfl)
example:kf:=xat hr
example:fE a b:=by show(dc,a,b,?_)
example:bV a:=Z2 X G a
example:bT:=(qR 0)
example:dJ a b:=.cons a b
example:b6:=(bA w')
example:iB a b c d:=(nE a b [c,d])
example:cq:=.ref p
example:oX a b c:=(kg a (fC (aV b)) c)
example:cA a b c d:=by have a:b:=c;refine d
example:cI a b c d:=fun a b c d=>?_
example:kh a b c:=by show(af,a,b,rfl,c)
example:jG a:=(dh b u a)
example:nW a b c:=by show(cR,a,am b c)
example:gY a:=(ku e a)
example:za a:=.str (xam a)
example:cM a:=by simp[a]
example:dE a b:=by ext ja a b
example:eE a b c d:=by obtain ⟨a,b,c⟩:62:=d
example:kd:=(bA 0)
example:cO a:=xv (Same.refl _) a
example:Fj a:=["picture", a]
example:jM a:=s1 _ _ a
example:fM a b:=(dR,a,xa b xi)
example:cP:=(aT a)
example:ii a b c d:=⟨121,_,a,b,c,d⟩
example:kU:=(mF St)
example:LV a b:=xo a (xo b xaf)
example:fD a b:=(a-b).toNat
example:dX:=.ref b
example:d4 a b:=upd H a b
example:cD:=Str->uQ
example:ng:=(z6 leS2)
example:fZ:=.frz ob (.dK kvs)
example:dQ a:=⟨a,?_⟩
example:hU a b c:=fun i a b=>c
example:dL a b c:=by obtain⟨a,b,_⟩:62:=c
example:jd:=.ref C
example:gM a:=((a).isSome)=true
example:dY a:=(dI a rfl)
example:eK a:=ne_f e a
example:gT:=.inl rfl
example:iJ:=Zu _ rfl
example:fJ a b c:=by show(ae,a,su_e b eu,c,ug_e eu)
example:dZ a:=s5 _ _ a
example:fA a b c:=upd a b (.dK c)
example:qZ a b c d:=(b8 a T.c_a b c d)
example:dU a:=Zt.mp a
example:fh a:=by rw[a];rfl
example:gz:=some v
example:Kh a:=itP pw ss prs a
example:cW a:=xau I q a
example:mT a c d:=∀ b u,((b≠a)->(c->d))
example:fb:=fun _=>none
example:vJ a:=way mask h a
example:c8:=Array Nat
example:c7:=(iL Str ai)
example:eW a b:=absI (a-b)
example:eF a:=fun p hp=>a
example:df:=_::_
example:kn a:=xg (Zx a)
example:nY a b:=Pic.same a b
example:d7 a:=by ext db a
example:dB a:=by rw[(aM a)]
example:dG a b c d e:=by have a:b:=c;have d:=e
example:lQ:=by split<;>omega
example:fV:=ZF _
example:dz:=(bz b)
example:fS a:=(dh b xs a)
example:dw a:=(ZO K (.ref a))=true
example:ji:=e::es
example:eD a b:=(dD a rfl (eA b) ?_)
example:pT:=List K
example:eZ:=.ref s.heap.objs.size
example:jz:=I.tok _
example:dC:=(iL dW V)
example:hW:=i<n
example:fL a b c:=by show(af,a,b,rfl,Ze.mp c)
example:sP a b c:=IsTupleKey knd a b c
example:fW a:=by rw[a]
example:fQ a b:=by rw[a,b];rfl
example:va a b:=show (a=true) from b
example:jv:=["self"]
example:qy:=by simpa using hb
example:eC a b d:=∀ c u,((c≠a)->(b->d))
example:ou:=(aK).y
example:uy a:=(bM Hp a)
example:d9 a:=fun h=>a
example:jB a b:=⟨a,rfl,b⟩
example:iY a b c d:=if (a<b) then c else d
example:kT a b:=["self", a, b]
example:iK:=asked s
example:fK:=Str->(cX Value)
example:iH:=(ax b u)
example:tQ a b c:=by have e:(a=b):=c;ext cZ
example:j7 a b:=xav (top a) b
example:jN a b:=fun v a=>b
example:hJ a:=by cases a;rfl
example:gU a b c d e:=⟨121,a,b,c,d,e⟩
example:fF:=[aA]
example:d8:=by assumption
example:gV:=(bA n)
example:eX:=n+1
example:mw:=mask+1
example:eJ:=pv 1
example:gb:=(aC,nomatch z)
example:gL:=Array Value
example:y9 a:=(mH t.C_r a)
example:gu a b:=xa a (xa b xi)
example:fO a b c d:=by obtain⟨a,b,c⟩:43:=d
example:mJ a b c d e:=by refine⟨a,b,c,d,e⟩
example:eB:=fun _ _ _ _ _=>xa2
example:qi:=Zr a
example:ld a b:=(cJ,a∈b)
example:pV a:=(dh b o a)
example:n6 a b c:=(bR rfl a b c)
example:fY:=(s.heap.get? b)=(some o)
example:vA a:=(fH b u nb a)
example:lK a b:=ite2 (bZ a) (bZ b)
example:eV b:=⟨a,b⟩
example:nU a:=⟨a,[]⟩
example:jr a:=fun x=>a
example:jq a:=fun i=>a
example:gZ a c:=∀ b,(a->c)
example:gQ a b c d e:=by obtain⟨a,b,c,d⟩:82:=e
example:jp a:=s2 _ _ a
example:ju:=(cX Int)
example:eS a b c:=(dR a (fT b c))
example:ij:=(aW p)
example:jh:=Zb lt
example:i9:=(oy p2)
example:i8:=(oy p1)
example:ui:=Zg _ e
example:Af a c:=(fH b o a c)
example:ft a:=(Zi.mp a).1
example:iN:=by ext kH rx
example:iQ a b c:=Dv K H a b c
example:js:=tupleKeyHash knd k
example:ff:=by cases h
example:fG:=by cases rx
example:fX:=by cases ry
example:gJ:={ s with heap:=h' }
example:hZ:=s.heap.objs.size+1
example:fU:=P0 a
example:lT a b c d e:=(bg,a,b,c,d,Q e H')
example:gy:=P0 a b
example:iG a:=by refine(dI rfl a)
example:gq:=P0 a b c
example:gm:=P0 a b c d
example:iP a:=by show(dy,rfl,a)
example:fj:=Str->aj
example:h7:=(aF kvs (k,x))
example:fc b:=fun⟨a,h⟩=>b
example:fR a:=⟨a,rfl⟩
example:uB:=kv.1
example:jY a b c d e:=by obtain⟨a,b,c,d⟩:44:=e
example:gD:=Zn ..
example:gE a:=(av Za a)
example:iX:=.str pt.nm
example:iy:=xt s
example:nS:=(vJ n)
example:yU a:=runEnd mask a
example:fP:=by ext ia t' ry
example:gO:=I.ok.hd hc
example:gS:=RelV y u
example:gK a b c:=(LV,pN a b,pN c b)
example:gR a:=(fH c u nc a)
example:pR a b c:=Run a b so ho c
example:gF:=nd.2
example:qM a:=by rw[a];omega
example:mG a b:=fun a s'=>b
example:gH a:=by rw [a] at h
example:lu a b c d e:=⟨64,a,b,c,d,e⟩
example:gg a:=show a by omega
example:hV:=j+1
example:jV:=Same.refl _
example:rS a b c:=by have a:(b=false):=c
example:uh:=s∈ss
example:qJ a b c:=by show(af,a,b,rfl,Zh.mp c)
example:iW:=Int × Int
example:lw:=by simp at e
example:z0 a:=xab (pv a)
example:vW a b:=(bi _ a rfl b)
example:Sc:=.dict es ep
example:gc:=xa8 dP im ps
example:qe a:=I.tuple a
example:i5 a b:=by obtain⟨a,e⟩:=b
example:jX a:=by rw[a];simp
example:wM a b:=∀ n s,(a->b)
example:gW:=by exact .nil
example:kG a:=s6 _ _ a
example:ir a b:=by show(aB,xg a,b)
example:ig:=(cX Addr)
example:iw:=pv 2
example:iu:=pv 3
example:hX a b c d e:=by show(ay,a,b≠c,d,e)
example:zO:=bits h
example:oh a b:=(dN a b [])
example:gP:=(am b hb)
example:vn a:=way t.mask h a
example:nR:=by rfl
example:Gs a b:=⟨rfl,a,b⟩
example:ip a b:=⟨a,b,?_⟩
example:je a b c d:=by have a:=b;rw[c] at d
example:uw a b c d:=by rw[a,b] at c;cases d
example:iA a:=by rw [(aM a)]
example:jo:=P1 a
example:ie:=(iL κ V)
example:jI a b c d e:=(a=b)/\(c/\(d/\e))
example:jE:=P1 a b
example:i6:=P1 a b c
example:iU:=P1 a b c d
example:tN:=.int 0 0
example:vI a:=Geo.mrk ws a
example:jg:=xl st
example:nI a:=fun b hb=>a
example:ES a:=(ax,a,.dK kvs)
example:tX:=(uy VK)
example:tM:=Pv i Z H
example:uZ:=⟨ap,ap⟩
example:Iq a b c:=(y9,putF (Z8 a) b c)
example:iE:=by subst hP hw hK
example:rE:=by subst this
example:uJ:=by simpa using e
example:zZ a:=a<sizeLine
example:mh a b c:=show (a=b) from c
example:iF:=List Expr
example:lE a b:=hN _ _ a b
example:kc:=.str x
example:iM:=(jj 1)
example:jU:=nAt mask h r
example:CU:=id pic
example:nA:=(ax c u)
example:NR a b:=s.heap.push (eP,a,.fields b)
example:kY:=2 ^ 62
example:iC:=(Fj "pairs")
example:lX a:=(rB rfl _ a)
example:nT a:=(nY a pic)
example:o8 a b:=(sP s.heap a b)
example:kN:=o.data=Sc
example:jS a b:=xak xax (pv a) b iD
example:m8:=Same H1 H2
example:Ii a b:=(starEach a X.env)=b
example:m7:=X.pn++pins
example:i4 a b:=by obtain⟨a,q⟩:=b
example:jQ:=by simp;omega
example:lD a:=s4 _ _ a
example:lC a:=tp _ _ a
example:Ce a:=(iL a Value)
example:rN:=.bl _
example:iT:=X.calm=true
example:mI a b c d:=by have a:(b=c):=d;subst a
example:jc:=(bz p)
example:jD:=(bz l)
example:wx:=s∈al
example:og a b:=(cK,Zb a,b)
example:yQ:=.int ep 0
example:rA:=(za b)
example:jf:=(b,r)
example:jn:=pM 0
example:iR a:=by show (kd<a);decide
example:iS a b c d:=xa5 ZA rfl a (pN b c) d
example:ux a:=(Af hb a)
example:iZ:=(am p hp)
example:jb:=xbc ap
example:jZ a b c:=tSeq a (tSeq b c)
example:jW:=KV kvs vs
example:jt:=x8 w ps srt
example:ki a b c d:=by have a:b:=c;exact d
example:nh a b c d:=if (a=b) then c else d
example:rQ a b:=by cases a;exact b
example:mC a c:=∀ b o,(a->c)
example:Nz a:={ s with heap:=h',toks:=a }
example:xZ a b:=(ps.find? a)=(some b)
example:j3:=(bA w2')
example:jK:=pv 4
example:jA a:=(mg a)=none
example:j9:=(aT l)
example:lY:=by refine (Zc ?_)
example:sZ:=.inr pt.nm
example:mq:=(bS x)
example:jJ a b:=Zx (xb a b)
example:jF a b c d:=by have a:(b≠c):=(aC d)
example:jL a:=ZU X G a
example:pA a:=Geo.mrk rs a
example:jC:=xbk st
example:Ik a:=(zq a sysModules)
example:jy a b:=by show(gX,⟨a,b⟩)
example:K4 a b:=.Call a b [] pos
example:mB a:=fun u e=>a
example:jO a b c:=xac a b c rO
example:wO a b c:=(bC a H b c q)
example:jw a:=(ii _ _ _ a)
example:jH:=y::ys
example:sC:=itP w ss prs k
example:Sf:=by ext kh qa hqa hx
example:zax a b:=backTo a (starEach b X.env)
example:SJ:=by rw [Zf,Zh] at hx
example:kZ a:=⟨dx,a⟩
example:lB a:=fun n=>a
example:yT a:=show a from r
example:pW a c:=∀ b u,(a->c)
example:tP a:=fun _ _ z=>a
example:kD a b:=by refine (thn a b)
example:Xc a:={ D with nx:=a,ct:=a,bk:=D.nx }
example:kE:=(aK).x
example:lS:=List Env
example:j6:=List Tr
example:j5:=(bA h')
example:Ud:=s.toks+1
example:CC a:=(so a)=none
example:mL:=P2 a
example:ug:=room a
example:j8 a b c:=upd a b (.dT c)
example:mo:=P2 a b
example:kQ:=P2 a b c
example:lO:=P2 a b c d
example:lg a b c d e:=by have a:(b≠c):=(ne_f d e)
example:qQ a:=(isNm a)=true
example:jT:=(iL Int Int)
example:ww:=(jx e)
example:kB a b:=by ext nW ng a b
example:kW a b:=(dA a _ b ?_)
example:jP:=["self", "name"]
example:j4:=(Kh dk)
example:jR a:=if_neg (fun z=>a)
example:lR:=ns++[nm]
example:kL:=Vals xs us
example:kO a b:=xk (xan a b x9)
example:LU:=(yU f8)
example:kM:=Tups H H'
example:BV:=(b5 p hp)
example:Am:=(X.env.cells.lookup x)=(some c)
example:pj a b c:=xac a (pv b) c rO
example:tK:=D.nx Z H
example:su a:=by simp only[a,Zz,if_false]
example:AW a:=by show(dy,va false a,Z4)
example:j0:=hf it ah
example:nJ a b c:=(a=(some b))/\c
example:wa a:=ys.length=a
example:rR a:=∃ t,(u=a)
example:sJ a:=show a by decide
example:nQ:=.ref x
example:kX:=.str _
example:lA:=pv 6
example:nO:=(aT b)
example:nH:=(aT lr)
example:kK:=(iL Str V)
example:Cu:=.inr nm
example:zC a:=.inr (eG a)
example:kI:=Array DictEntry
example:zN:=rent s
example:lv a:=(d0 hi a)
example:qD a b:=(ax,a,.tup (xar b))
example:kJ b:=(h.get? a)=(some b)
example:lW a:=Q (.int a) H
example:sG:=by refine (Zc (Zk ?_))
example:zo:=(pV ui)
example:sF:=(so z).isSome
example:kP:=RelV v u
example:ya a b c:=xbb a (xbb b c rfl) rfl
example:kS a b:=(bR a ap ap b)
example:lG:=fun _ z=>(nomatch z)
example:Ef:=("picture",aA)
example:yR a b:=∃ m',((m'<a)/\b)
example:DE:=("lengths",.ref dl)
example:mM a c d:=by have a:c:=(jG d)
example:Aa a b c d:=by cases a;ext aE b c d
example:mE a b c:=by have a:=b;refine c
example:mR a:=fun _ _ _ _ _=>(xad a)
example:Ai a:=by refine (.inr a)
example:CZ a b:=(a == b)=true
example:lM a b:=if_neg (fun a=>b)
example:l0:=(aC ?_)
example:pQ:=(jj 0)
example:mD:=xg nb
example:wL:=own n
example:lI:=xaj X.prog X.w
example:pP:=(mF V)
example:mj:=xbt st
example:m6:=Zp.mpr rfl
example:zn:=hf b hb
example:mK:=p::r
example:pF a:=xr xbd a xm
example:nN:=(Kh k)
example:wv:=xk xbs
example:ut:=by exact (Zv e)
example:RU a:=valV kvs (.inr a)
example:lF:=by rw[Za];exact (xbo aa)
example:mW:=SqL K H a xs
example:lJ:=EP X pins Z Q
example:me a:=fun s hs=>a
example:lL:=HOk P w H h
example:qS:=by ext SJ;ext Sf
example:nG:=al++[s]
example:lH a:=KasT.kasWp cmp a G s
example:lZ:=zO % mw
example:BX a:=Nat->(Nat->a)
example:Ao a b:=[.int x,.int y,.str sd,.int a,.int b]
example:lN:=Tab t es L
example:lP:=N->(cX S)
example:CY a b:=by have a:=(su_e b eu)
example:lU a:=fun D Z H=>a
example:sL a b:=lt (g p a) (g p b)
example:wE a:=⟨ob,a⟩
example:Gn a:=us.length=a
example:mV a b c d e:=by obtain⟨a,b⟩:=c;ext aO d e
example:nD a b c:=by ext cY a b c
example:qj a b:=by rw[a];refine b
example:qg a b:=⟨o,a,b⟩
example:Er a b c:=if a then (some b) else c
example:mU a:=a<s.heap.objs.size
example:BI a:=show a from rx
example:mZ:=["picture"]
example:nZ a:=by obtain rfl:=a
example:IR:=by simpa using this
example:y8 a:=∀ H',(cL->a)
example:qI a b c:=by rintro (⟨a,b,c⟩:62)
example:Gm:=some k
example:uf:=some 0
example:qX:=.ref it
example:pL:=(bA k)
example:nM:=(bA j)
example:on:=pv 5
example:om:=pv 7
example:qP a:=(X.mg a)=none
example:qW:=(aT da)
example:nB:=by refine (Zk ?_)
example:CT:=.str b
example:BU:=.str p.nm
example:pD:=.str bH
example:wQ a b:=by show(aE,a,rfl,b)
example:qC:=by refine (io ?_);intros
example:wu:=lens n
example:rM:=.bl b
example:oA:=by simp[ih]
example:CW a:=(c9 (lK a a))
example:pZ a b:=(0<=a)/\(a<=b)
example:Px:=.int es.size 0
example:Bc a:=some (.builtin a)
example:XQ a b:=s1.heap.push (eP,a,.fields b)
example:mQ a:=by ext i7 a;refine (sq2 ?_);intros
example:Ae a b c d:=(iB,a,b,c,.int d)
example:nK:=2 ^ 64
example:vc a:=(so n)=(some a)
example:nF:=(jM hp)
example:nX a b:=fI K C_a a b
example:rg a:=Q (.bl a) H
example:tJ:=RelV x v
example:nu:=RelV x u
example:oa a:=(j7 56 a)
example:mY:=Lp H ps kvs
example:Bw:=(H' b)=none
example:sf:=Kp.kstep room so ho
example:qF:=some (.bl dbl)
example:mN:=by refine (gx ?_);refine (fq ?_);intros
example:oW:=upd H1 d fZ
example:mS a b:=OpR X (compareOp a) b
example:zcL:=Addr × Value
example:np:=(vn m).j
example:ue:=xah ps
example:uD a b:=(ZP K (.ref a) b)=(some none)
example:OF a:=(H2 l)=(some (.lst a))
example:sR:=by ext tQ b it qy
example:mX:=s1.trans s2
example:re a:=fun z hz=>a
example:v0 a:=xb5 (xbg a)
example:mP:=(zq x (eO "__debug__"))
example:qp:=es'.map (fun x=>(Zr cF))
example:oH:=(asked s)=(some a)
example:mO:=(cX,Int × (Str × Seat))
example:m9:=S->(cX N)
example:yC:=xal lens n
example:wT a b:=by let Pm (σ':L2.St) (H':Hp):Prop:=a;ext fE Pm b
example:Cw a b:=by obtain⟨e,a⟩:=b
example:Gk a b c d:=by obtain⟨a,b,c⟩:81:=d
example:uY a c:=if b then a else c
example:oG:={ s with toks:=Ud }
example:o5:=fun _=>rfl
example:pB a b:=fun (a:Nat)=>b
example:vF a b:=DGet.k (k:=a) b
example:xI a b:=∀ p∈prs,(PrOk ps a b p)
example:rF a b:=(decide a)=b
example:pi:=List Nat
example:qm a:=s3 _ _ a
example:wA a:=by exact (SqL.of a)
example:pK:=.int _
example:pU a b:=by show(aB,aM a,b)
example:BG:=(cX Value)
example:uA:=P3 a
example:E6 a:=(H' b)=(some a)
example:pG a b c d:=by show(af,a,b,c,Ze.mp d)
example:pJ:=ok_m T
example:tW:=.inl uZ
example:we a b c d:=(b8 a T.c_r b c d)
example:ud:=P3 a b
example:tV:=xaj P w
example:qU:=P3 a b c
example:sY:=P3 a b c d
example:pI:=lno aP
example:qz:=(H' c)=(some u)
example:tU:=Zj _ hy
example:pk a:=Geo.mrk cs a
example:qh:=kV k
example:pH:=Y9 rfl
example:sO:=prs.drop aH
example:oE a:=by ext i7 a;refine (sq3 ?_);intros
example:oM a:=(Jy K (.ref a))=true
example:oQ:=(Fj "names")
example:o9:=A0->Prop
example:oS a:=(ax,a,.dT kvs)
example:oI a:=by show (a<1000);decide
example:o6 a b:=Meth K t.C_a a b
example:wK a c:=fun b a q=>c
example:pY:=x::xs
example:pX a c d:=(i0 a c d b u)
example:oP a:=(t.slot a)=.empty
example:rL a b c d:=by show(rS,a,b == c,d)
example:oB:=(s.heap.get? d)=(some o)
example:oK:=ss.map (strS ws)
example:zp a b:=ZJ (aa:a<b) ap
example:pE a:=fun x hx=>a
example:ua a b:=xg (ne_f a b)
example:qG:=strR cs ws p
example:oN:=shO own crowd g
example:sE:=x8 w' ps srt'
example:oU:=N->(List S)
example:oR a:=(ax,a,.lst xs)
example:tZ a:=fun y hy=>a
example:BT:=(av e Jv)
example:o4:=valV kvs k
example:oO a b c d e:=by refine(oX a b (am c d));refine e
example:oZ:=Z.set i gz
example:o7:=PE X a ta
example:oF:=ps.map (strP cs ws)
example:oY:=(bM A0 A1)
example:Fa a b:=by show(af,u,rfl,a,xch b)
example:oJ:=shR rent asked g
example:oC a b c:=by obtain⟨_,rfl⟩:=ry;ext aE a b c
example:sX:=xaz ps srt
example:uE:=Geo.upL pt.x pt.y r
example:G8:=xaa ap (xaa ap xbv)
example:UG a:=by show(cQ,v=(Zr _),ry);ext bF its2 r2 t2 z2 a;have l2:=r2.length
example:rK:=sok.2
example:uq a b c d:=⟨a,b,c,rfl,d⟩
example:tG a b:=by ext uw z a b b
example:ul a b c:=by subst a;ext bB b c c
example:uu a b c d:=by have a:(b=(some c)):=d
example:qx:=by simpa using h1
example:rW:=[it]
example:Og a b:={ s1 with heap:=(XQ a b) }
example:A6 a b:=(K.lookup a)=(some b)
example:qT:=(bA h2')
example:rC a b:=by show(aB,kn a,b)
example:vV:=(aT lp)
example:vU:=(aT pz)
example:vT:=.str nm
example:yB:=.str c.1
example:rT a b:=(dh a b ?_)
example:rb a:=.inl (eG a)
example:Bj:=i<kvs.length
example:qv:=(h'.get? b)=(some o)
example:Gj:=Zg _ q
example:yP:=Q .non H'
example:zV a:=by show(i7,dH a)
example:qV:=s _ _ e
example:tI:=s1 _ _ e
example:zdF:=Int × Value
example:uV a:=L.map (fun x=>a)
example:rq:=(dM 0)
example:rD a b c:=by show(nW,z6 a,b,c)
example:qO:=I.list hq
example:rV a b c d:=by show(mJ,a,b,rfl,c,d)
example:FE a b:=[.int a,.int b]
example:rP a b d:=(i0 a b d c u)
example:BW a:=fun σ' H'=>a
example:rp:=Gl X x
example:Fi a:=(dO crowd k a)
example:Le a:=(d0,j,.int a)
example:tF:=xdo scope
example:qL:=(iL dW zcL)
example:Bx:=by simp at e;ext cZ
example:rJ:=h<=16
example:Ad a b c d:=⟨a,b,_,_,c,d⟩
example:qK:=k _ _ gT e
example:sr:=pyNext (.ref it)
example:qu:=prs.map (strR cs ws)
example:rH:=w<=30
example:rG:=q::qs
example:Ct:=(RU nm)
example:rh:=by exact (ih uJ)
example:qH:=(vW iJ rfl)
example:He a b:=show (zq (eO a) b) from aP
example:qo:=es'.getD i ([],0,.none)
example:qw:=relabel scope X.env
example:qY a b c:=xci kf a b c rfl
example:Ih a b:=.ask crowd asked a b
example:qN:=(l+r) / 2
example:qE:=A0->(bM A1 A2)
example:wU:=by have hl:(kvs.length=vs.length):=rel.length
example:WJ a b:=envOfC qual a s.heap.objs.size f b
example:r8:=.Tuple elts x1 tpos
example:qr:=A0->(A1->(bM A2 A3))
example:zoL a:=#[(.int lo t),(.int hi u),(.int a v)]
example:uU a:=decide_eq_true a
example:zB a:=a=ps.length
example:sK a b:=by show (a<=b);omega
example:yD a b:=by show (a<b);omega
example:uT a:=by simpa using a
example:xJ a:=X.s₀.heap.objs.size<=a
example:wF a b:=by show a;ext bm b
example:wc a b:=by have:=a;ext db b
example:rX a:={ s with heap:=a,toks:=tk }
example:tH a b c:=by obtain⟨a,b⟩:c:=gs
example:si:=∀ s,((gM iK)↔wx)
example:tT:=List DV
example:uG a b:=(s.heap.get? a)=(some b)
example:wD a:=a=(some v)
example:zm:=(aT la)
example:tY a b c d e:=by ext ay a b c d;refine e
example:uj a b c:=PE X (K4 a b) c
example:r6:=(h.get? b)=(some o)
example:xY:=(cV xs.length)
example:uo a:=xk (xay a)
example:tS:=al p hp
example:vH a:=by refine (Zc (ZW a))
example:rY a:=by ext i7 a;refine (sq5 ?_);intros
example:um a b c d:=(oX a b (am c d))
example:vS:=iteF ?_
example:uz:=v::r
example:sN:=ns++[pt.nm]
example:tu a b:=by rw[a,b] at z;exact z
example:vx:=(aF xs x)
example:sW:=(aF X.N x)
example:vw:=Ze.mpr BV
example:sv a:=(t.slot a)=(.live i)
example:sM:=.Name x pos
example:uc:=(z0 1)
example:tf a:=xk (xu (pv a))
example:sy:=xao (xah ps) cs
example:Cd a b c:=[a,(za b),.int c]
example:tE:=PE X e te
example:ub:=p∈ps
example:sV:=(cT H' s')
example:Gi a:=xr xa3 xm a
example:yA a b:=by ext bF its a pl hz b
example:tD:=(CC name)
example:Fh:=(mH C fs)
example:sI:=PrsL H ps qs
example:tR:=Arr n p
example:vk a b:=(n6 (eA a) rfl b)
example:ur:=by ext AW hs
example:xK:=sIx items.size 0 lo
example:sT a b c:=by show(eE,a,b,rfl,Ze.mp c)
example:sU:=SsOk im ss
example:yh:=putK kvs k v
example:tO a c d f g:=by have a:(mT c d f):=(vA g)
example:tz:=(am x hx)
example:sQ:=by rw[Zf,Zh] at hx
example:Pw:=#[dF,tN,Px,yQ]
example:tw:=a.lt _ aa
example:sS a b:=TyOf K H a (eY b)
example:sw:=(pR room ns cs)
example:rZ:=by subst ex;show(cQ,u=qi,rx)
example:sj:=by simp only[Zz,if_false]
example:xE:=(ax,q,.tup (xar s))
example:wX a b:=by refine (xbh (xs:=a) (Pv:=Pv) b ?_ ?_ ?_)
example:zM a b:=by have I1:(iz a):=b
example:xV a:=∀ x c,(Am->(c≠a))
example:BD a b c:=Geo.meet a (cel b c)
example:EE:=eval a X.env
example:uP:=PrsL H prs qs
example:Ee a:=(NR "range" (zoL a))
example:As:=xak (r:=(rIxT K)) xbl bD xm iD
example:xM a:=by obtain⟨hp,g,a,tk,os⟩:=s
example:sH:=Sts H do_ ss
example:xP a b:=Kp.Rch a b (.fin so' ho')
example:ER:=sp vs H Q E
example:Ak:=∀ o' u',((X.H₀ d)≠(some (.frz o' u')))
example:yg:=btw r1 y2 r2
example:uS:=btw r2 y1 r1
example:sD a:=fun i h st b hb=>a
example:Dh:=near lens own rent asked crowd
example:Uw:={ cls:=(eY "set"),dict:=none,data:=.set (#[]) 0 (.fresh 0 0 led) }
example:uR a:=decide_eq_false a
example:vK b c:=by obtain⟨a,b⟩:=c
example:vb a b c d:=by obtain⟨a,b⟩:=c;refine d
example:wJ a b:=by simp[a,b]
example:yx a:=by rw[a];decide
example:wP a:=(false,a)
example:ve a b:=by have:=a;rw[b] at this
example:wz a:=by have:=a;ext IR
example:uM:=fun _ _=>False
example:vy a b c d e:=fun a b ⟨c,d,e⟩=>?_
example:y0 a b c:=DPut.k (k:=a) b c
example:HN a b c:=by obtain⟨⟨a,b⟩,_⟩:=(id c)
example:wt:=List N
example:vR:=.ref pz
example:CS:=(bA 1)
example:K3 a b:=a=(some (g,b,s))
example:wI:=pv 11
example:zY a:=(aW,(a).2)
example:Gh:=(aW e)
example:wp:=(aM c)
example:vQ:=(aM aa)
example:wm:=.inr x
example:Ca:=.inr rfl
example:vP:=α->Int
example:vv:=(eQ Unit)
example:vO:=Zp.mp z
example:vE:=Array zdF
example:vt:=(mF Bool)
example:vq:=(z6 leS3)
example:wH:=toP p
example:KE:=rel.val k
example:wf:=by show(cH,rfl)
example:A4:=(iL Str Value)
example:vm a b c d:=by have e:(a=b):=c;ext aB e d
example:vN:=(jG ?_)
example:FA:=(gY hdx)
example:zl:=(jM hk)
example:xO:=I.hok.fresh (Zl _)
example:wj:=(fh e)
example:uI:=names.length<=12
example:xL a b:=(iO,Q,t Z H (fun a H1=>b))
example:DU a b c:=xa5 ZA rfl a (xaq rfl b) c
example:A9 a b:=(ZP K jd a)=(some b)
example:vM:=(vA ?_)
example:AM:=b≠X.env.locals
example:zL a b:=by refine(oX a b ?_)
example:zr a b c d e:=(lT,a,b,c,d,.ref e)
example:wC a:=(dh c u a)
example:vZ a:=(dh c xs a)
example:vG a b c:=[a,.ref b,.ref c]
example:wG:=g i j
example:uL:=xao (xah ps) c1
example:wy a:=by rw[Za,a] at ly
example:vp:=(fM 0 xm)
example:CB a:=∀ i,(hW->a)
example:uO:=nxtP w ss prs
example:vz a:=congrArg Yd a
example:uX:=(H1 l)=none
example:vD:=(dJ r t)
example:zA b:=fun a ha=>b
example:IK:=Seat × Int
example:Bv:=(ho s)=none
example:LT:=Q bQ H2
example:wB a:=(hU y H a)
example:V7:=(ax,d,.frz o (.dK kvs))
example:Ac:=LU-f8
example:uF:=Kp.upd1 asked s a
example:vd a b:=by rw [a,b] at e;cases e
example:yO:=(am s hs)
example:zcK:=(X.fn x)=true
example:wW:=(ax,l,.lst (qs.map V.ref))
example:E5:=⟨ng,k⟩
example:vC:=(true,0)
example:RT a:=s2 _ _ (s1 _ _ a)
example:vL a b:=SetT knd a d b
example:vY a:=Lp a ps kvs
example:uW:=xbf ky ad i
example:wN a b c:=pS a b (xb3 c)
example:vo:=(am z hz)
example:uH:=(ux,eb b o hb e)
example:vj:=K w.params
example:LR a b:=(.inr a,.str b)
example:znD a b:=∃ N:kU,((∀ σ' H',((N σ' H')->a))/\b)
example:Hm:=#[en.key,en.val]
example:vh:=(am H1 s1)
example:yt a b:=xbj kf (pv a) b iD
example:OQ:=("own",.ref d_o)
example:Eu a b:=xcg X (.builtin a) b
example:uK a:=xak xbl (pv a) xm iD
example:uC:=(oh H2 s2.heap.objs.size)
example:DA:=("opened",V.ref do_)
example:vX a:=ZD (Zv e) a
example:wg a b:=xbj kf a b iD
example:vg:=by rw[Zo,ZB] at nd
example:uN a:=.inl (Gs _ (aV a))
example:Pg a b:=Best own rent asked a b
example:G2 a b c:=(kR,a,b,u2,c,tSeq t1 u2 d s H)
example:yX:=T.size.2
example:AL:=(rnd mask h r).2
example:yN:=by ext lw
example:DT:=by simpa using c
example:Li a:=by rw[a];simp only[]
example:zS a b:=by rw [a] at b;cases b
example:zQ a b:=((a).length)<=b
example:Ah a b c:=by show a;ext aB b c
example:yZ a c d:=∀ b o,(a->(c->d))
example:yr a b c d:=∀ x H',(a->(g x b c d))
example:yG a b c d:=by obtain⟨a,b,c,_⟩:63:=d
example:xT:=by simpa using h
example:Cv a b c:=by rw[<- a,b] at c;cases c
example:xH a b:=by cases a<;>simp at b ⊢<;>omega
example:Ab:=by intros;rfl
example:zbI a:=∀ b∈crowd,(b∈a)
example:zK:=some i
example:yM:=List Bool
example:zJ:=.ref t
example:xB:=.ref s2.heap.objs.size
example:zX a:=pok.ok _ a
example:zw a:=.int (vI a)
example:Ag a b c d e:=by ext ae a b c d;refine e
example:zI:=(aT d)
example:zk:=(aT ls)
example:zj:=(aT lc)
example:FX:=(aT lm)
example:LQ:=(aM ap)
example:zH:=(az c)
example:yL:=(eQ Bool)
example:Gg:=P4 a b
example:yK:=model P w
example:B9:=P4 a b c
example:E4:=P4 a b c d
example:zi:=(mF ag)
example:FW:=(oy P1)
example:FV:=(oy P2)
example:yY a:=by show(dy,a,Yp _)
example:C7:=xbe e
example:C6:=xa4 e
example:yW:=(eG rfl)
example:ye:=names.take i
example:zU a b c:=(ba a (kT b c))
example:D4:=(cV kvs.length)
example:CQ:=Zg _ g
example:CP:=Q v H'
example:C2 a:=(ku a hq1)
example:zh:=Zj _ hx
example:yF a:=some (V.ref a)
example:zG:=by show(gX,rfl)
example:zg:=Nat->kU
example:xX:=A.handled=none
example:zu a:=xr xa3 a xm
example:yb:=["self", "x"]
example:AJ a:=(ax,q,.tup (prV a))
example:yq:=Pl H ps kvs
example:zf:=b4 x hx
example:xS:=Kp.Mt room so ho
example:Rf:=i<=kvs.length
example:yp:=xd0 I.hok e
example:xA:=by rw[Za];exact (BIG aa)
example:Ar:=upd H1 d (.frz ob (.dT kvs))
example:ze:=.dK kvs
example:BC a:=xk (xu (xad a))
example:SR a b:=(Ii a [(false,b)])
example:zd:=(Ce κ)
example:yV:=(fT 0 2)
example:Gf:=(Ik a)
example:yo:=by exact (.cons h ih)
example:zW a:=fun o e=>a
example:CO:=YQ i t
example:Tj:=Sem Value
example:EQ:=.bool false
example:xW:=s.heap.push Uw
example:zR a b c:=by have I3:(cT a b):=c
example:zt a:=fun n hn=>a
example:yd:=(aF crowd a)
example:zF:=XC K C
example:yy:=totI w prs
example:wZ a:=(iO,Q,ta Z H (fun x H1=>a))
example:FF a b:=by have:(a=b):=aa;ext rE
example:yJ:=W i m Z H
example:yI:=(cS nc e)
example:zP a b:=(Er a b none)
example:L7:=by rw[ZH] at nd
example:yS a:=(cN rN H I a)
example:Ay:=cells w x1 y1 true r1
example:ym:=K.In s.heap
example:BF:=crowd++[h]
example:zb:=Itl K a
example:Uc:=F i y H'
example:xQ:=srt.map (strS rs)
example:xN a:=xcc (xan a (dH xc4) x9)
example:Cs:=vs++dvs
example:zE:=us++ds
example:Ld a:=fun xs H Q=>a
example:zT a:=by ext fL p hp a
example:yk:=(zax pos es)
example:CN:=xdb ry
example:BS:=(aF qs q)
example:xG:=o.setIfInBounds j Gm
example:yw a:=(pt.x+(cG*a),r)
example:xF:=Array (Option Value)
example:Bb a:=fun h' eb=>(eG a)
example:zcg:=(Go σ' H' s')
example:IQ a:=by obtain⟨ds,hs⟩:=a
example:xC a:=by obtain⟨⟨a,hp⟩,_,_⟩:=CU
example:DK a b:=ifN (decide_eq_false a) b
example:yc:=(iL pT Addr)
example:yH:=PE X b tb
example:BB a:=by ext cE a this
example:LZ a:=xcr bD a rfl
example:AV a b c d e:=by ext CY a b;show(ae,c,ug_e eu,d,e)
example:yj:=xda lens ss
example:D6 a b:=xaw a rfl T.n_len QG b
example:wS:=(Ii,ji,(false,ww)::(starEach es X.env))
example:yi:=(lo+hi) / 2
example:wV:=fun σ2 H2=>(tb (Xc N) σ2 H2)
example:yu a:=fun b o hb g=>a
example:Aq:=sIx items.size items.size hi
example:xR:=(bR aa aa aa aa)
example:w4:=Kp.Mt (xal lens) so ho
example:Nb a b c d:=⟨(d0 H a),fun i H b H'=>c,(d0 H d)⟩
example:yE a b c:=kas_place p k a b c
example:Dk:=(y.2-(own b))-(rent y.1)
example:zmA a b:=∃ W:(BX kU),((∃ m,a)/\(∀ i m Z H,b))
example:wY a:=(znD (yR,m,W aH m' σ' H') a)
example:K2 a b:=fun i H R _ a=>b
example:SQ a:=(bi a ah fV h0)
example:wR:=fun _ _ _ _ _ ow nd=>(xaq rfl (xo (pO 0 nd ow) (LV,pO 1 nd ow,pO 2 nd ow)):PG _ _ (gTup K 3 _))
example:xU:=xb7 (xaa ap G8)
example:Au b:=.Call (.Name b p2) [a] [] pos2
example:U1 a:=.ListComp elt [⟨a,iter,ifs,0⟩] scope pos
example:xD:=BlkG X scope zs ys fr
example:AU a:=of_decide_eq_true a
example:HW a:=by simp at a;omega
example:AH:=by simpa using h2
example:CA a:=by by_cases hb:(b=a)
example:HV:=∀ b∈fp,Bw
example:Et a b:=∀ i Z H,(a->(tM->b))
example:ED a b c d:=by obtain⟨a,b⟩:c:=⟨d,aa⟩
example:DO:=by simpa using hw
example:BH a b c:=by obtain⟨a,_,b⟩:62:=c
example:AZ:=(zs++ys).Nodup
example:AN:=by split<;>split<;>omega
example:Cc a b c:=DGet.t (k:=a) b c
example:By a b:=by rintro _ a ⟨b,rfl⟩
example:BR:=List Stmt
example:Cr:=List pT
example:LP:=.ref q0
example:Lc a:=a=(some true)
example:CL:=.int j
example:B8:=dbl=true
example:Cq:=(aT ln)
example:Sb:=(eY "list")
example:Bu:=(eY "dict")
example:Cp:=ok_ak T
example:Fg:=.inr p.nm
example:AT:=by refine (sq2 ?_);intros
example:AS:=by refine (sq3 ?_);intros
example:B7:=Int->Int
example:C5:=Zb hj
example:CK:=lens b
example:CJ:=s∈ug
example:Co:=(eG ?_)
example:Bi:=crowd.take i
example:Cn:=(c9 ?_)
example:Bh:=Z1 as.length
example:BQ:=Nat->Addr
example:CI:=(sb,r)
example:Fz:=Hp->Prop
example:B6:=b7->Prop
example:FU:=(dY iJ)
example:Cz a:=xr xdw a xm
example:Cm:=(kn n1)
example:Ed:=prs.length<=12
example:C4:=qs[i]
example:C1 a:=(jB rfl a)
example:CH:=b∉ch
example:C0 a:=by ext iN;exact a
example:Cl:=(qM Za)
example:BP:=.Name x p
example:Bt:=xe4 I.hok e
example:A7 a:=prs.map (fun p=>a)
example:CG:=.dK []
example:AB:=(h.get? d)=(some o)
example:CF:=(ES d)
example:Ck:=(nT s1)
example:Bs:=X.clo scope
example:B5:=(fT 0 1)
example:Cj:=(Nz t')
example:Ci:=(Nz tk)
example:Ch:=ge i hi
example:BO:=PE X o to
example:BN:=PE X o td
example:AC:=by exact (.cons (s _ _ h) ih)
example:Aw a:=(mT,a,iH,(H' b)=(some u))
example:Cy a:=(zax cpos a)
example:Bg:=nxtP w ss sC
example:AY:=s.heap.push JL
example:O8:=crowd.map V.str
example:SI:=Same H2 H'
example:LO:=(zC ?_)
example:Br:=xa0 H cs qs
example:BM:=mrk ns cG
example:B4:=(fT 1 2)
example:AG:=(A.units+1)<cLine
example:AA:=(X.A.units+1)<cLine
example:B3:=Pv 0 Z H
example:AR:=by refine (Jt hd hdat ?_)
example:AQ:=by refine (J7 hd hdat ?_)
example:PJ a:=(eP,"tuple",.seq a)
example:AK:=GvF lens names f
example:Bq:=Room q0 k A
example:CD:=own bH
example:Dz:=cells w x2 y2 false r2
example:AX:=DecidableEq α
example:BA a:=.inl (SqL.of a)
example:BL:=PA X ji t
example:AF:=Loc X.env.scope x
example:Bp:=s5.trans s6
example:Cg:=ps++[p]
example:K1:=.frz o u
example:Ap:=(xZ,fun p=>(cC p.nm nm),pt)
example:Be:=by simp at h
example:Xb:=show (u=(Zr b)) from ry
example:Bk a b:=call (.builtin a) b
example:A5 a b:=by refine (Jk a b (tP z.elim))
example:Bo:=Vals xs its
example:Cf:=t Z H Q
example:Ba a:=(wO,.int a,jz,gs)
example:B2:=(Ih i j)
example:C3:=gk dk
example:Ge a:=fun j hj=>a
example:HM a:=∀ p∈m7,(aK≠a)
example:Tx a:=.bl (decide a)
example:B1:=xbm _ ap
example:CV a b:=by ext ae h1 a h2 b
example:BK:=(am n hn)
example:BJ:=xao ns cs
example:E3:=(Gs aa aa)
example:IN a:=xr xbw xm (pv a)
example:An:=(eP,"list",.seq its.toArray n)
example:A8:=(WJ scope cd)
example:EO:=KT H kvs xs
example:Hw a b:=(strS ws a)=(strS ws b)
example:Bm a:=(zmA,W 0 m Z H,a)
example:AO:=xw X.K fd ps ds
example:Aj:=zcK\/((X.env.scope.names.lookup x)=(some .local))
example:KD:=(0,.none)
example:BZ:=name::hs
example:C8:=by intro p hp
example:OE a:=∀ Z H,((Pv a Z H)->tK)
example:AE:=fun _ _ _ _ _ z=>z
example:Az a b:=(us:b7)->(Gn a)->(b->(P us))
example:zcJ:=names++[name]
example:Bd:=eval b X.env
example:BY:=(fT 2 3)
example:Cb a:=(bu jv jv a)
example:Bn:=Vals dvs ds
example:AI a:=(ax,q,.lst (ptV a))
example:Bz a:=(rB,_,_,.inl a)
example:SH:=start N vs
example:Xa a b:=(Q σ' H')/\((σ'.length=a)/\b)
example:At:=(NR "dict_keyiterator" Pw)
example:NZ:=("placed",V.ref dp)
example:FB a b c:=fun j a b h1 h2=>c
example:D3 a:=(qZ hp T.n_a3 lkP a)
example:Al:=fun σ2 H2=>(tb (Xc,Pv aH) σ2 H2)
example:Fy:=(CW c)
example:EC:=xdm I.hok eb
example:Bl a b c:=⟨102,a,es,ep,b,c⟩
example:Av:=lenI dP p.x p.y s.1 dS
example:BE:=xd5 CX X E
example:Ax a b:=(kstep room so ho a)=(some b)
example:Ig:=strP cs rs p
example:zbu a b:=((a<=v)/\(v<b))\/((b<v)/\(v<=a))
example:zoK:=(mG,e,R (.error e) s')
example:Ep:=at2 dEq ds es
example:AD:=pzF a dl d_o d_r p
example:UB a b:=by show(Ai,⟨a,Pv aH,fun σ' H' p'=>(lu,b-aH,aa,rfl,hlt,p'),(aI x H' y)⟩)
example:FY a c:=by obtain⟨b,a⟩:=c
example:E9:=by by_cases e:(aK=k)
example:Ec a:=s.heap.objs.size<=a
example:IM a:=∃ σ' H',(zcg/\a)
example:Gp:=by intro _;rfl
example:RJ:=by simp only[if_true]
example:Du a:=∀(i:Nat) (y:V),((aF ys y)->a)
example:Ds a:=∀ s∈srt,((1<=dS)/\(dS<=a))
example:Gd:=.ref f
example:LN:=.ref qa
example:Fm a b:=(dR a (gu xm b))
example:Gc:=(aT q)
example:Fx:=(aT d_o)
example:Fw:=(aT d_r)
example:Gb:=(az e)
example:Ga a:=(az (fW a))
example:FT:=ok_as T
example:F9:=(jj 5)
example:Ej:=by refine (iq ?_);intros
example:FS:=(eQ BG)
example:EB:=i<es'.length
example:FR:=(gG H5)
example:Ub:=L.take p
example:Ua:=L.drop p
example:Fv:=s2 _ _ e
example:E2:=gp.ok p hp
example:E1:=qs.drop aH
example:FQ:=Nat->pT
example:FP:=(gY hp)
example:FO:=(gY hx)
example:FN:=(za sb)
example:Fn a b:=by have z:=a;rw[b] at z
example:Kg a:=pyIter (.ref a)
example:EN b:=(∃(a:A0),b)->C
example:DI c:=(∃(a:A0) (b:A1),c)->C
example:Dq d:=(∃(a:A0) (b:A1) (c:A2),d)->C
example:De e:=(∃(a:A0) (b:A1) (c:A2) (d:A3),e)->C
example:Ki a b c d:=(rB a _ (bR b rfl c d))
example:LM:=(fS ?_)
example:Ie:=qs.map V.ref
example:E0 a:=bt _ _ (eK a) e
example:EZ:=Vals vs us
example:EM:=Sd H ps kvs
example:Gr a:=HT.sIx a a hi
example:Ff:=Str × ai
example:F8:=(z0 2)
example:EA:=Itk d ob kvs
example:FM:=(qe hq)
example:LL:=(k-1)-i
example:Fu:=(kG ht5)
example:Fe:=(nI,(zn).1)
example:F7:=(ES a)
example:HK:=(zZ xs.length)
example:Ez:=(iL dW Addr)
example:FL:=(pA dS)
example:F6:=(Ik d)
example:T9:=.int i t
example:FK:=(qQ nm)
example:Ey:=PtsL H ps qs
example:OD a b:=s.heap.push (eP,a,.seq b)
example:Sa:=blk0 Z fr n
example:FJ:=b::rest
example:EY:=turns mask
example:zbH a:=by show (cV a);decide
example:DS:=xc5 lens names f
example:F4 a:=xan a wv x9
example:EL:=s6.trans s7
example:DW:=by exact ((yT False).elim)
example:Dy:=Geo.lvL pw pt.x true r
example:Dx:=Geo.lvL pw pt.x false r
example:Ex:=fun _ _ q=>q
example:Ha a:=∀ z,(((so' z).isSome)=a)
example:FI:=dEq d e
example:FD:=by ext kH r;rfl
example:Ft:=(d4 a o)
example:F3:=(Fi a)
example:Ke:=strP cs rs
example:T8:=(k,x)::r
example:DR:=(wM,s∈yC,uh)
example:EK:=frs X.stack
example:O7:=AllBare s'.gens
example:zdE:=ns.map V.int
example:Fs:=(#[]:gL)
example:GC:=(X.env.cells.lookup n)=(some c)
example:Ov:=strP cs ws p0.1
example:zeB:=te σ' H3 N
example:Eb:=Marks ns n dbl
example:Kj:=by ext qJ o ho hx
example:Fl a b:=ZC.mpr ⟨a,b⟩
example:DQ:=srt.Pairwise xb9
example:HJ:=x≠"__name__"
example:Fd:=p.nm≠nm
example:F2:=s∉al
example:E8:=by by_cases c:(b=pz)
example:Kd:=(aF prs p)
example:Eo:=(aV (jp hl1))
example:FC a b c d e:=(b8 rfl a b c (am d e))
example:WN:=(bA its.toArray.size)-1
example:zeA:=xs.getD k 0
example:DH:=srt.filter (xa1 p)
example:EJ a:=(JP K a Wq)=true
example:Np:=(Og,"dict_items",#[dF])
example:EI:=prs.map prS
example:EX:=(zbI names)
example:IO a b c d:=(dA a _ (aV b) (am c d))
example:EH:=xag H ss qs
example:Ti:=strS rs s
example:D2:=(ho s)=(some h)
example:DJ a:=by rw[(aM a)] at hm;ext iP hm
example:DG a:=.dT (al.map (fun s=>a))
example:En:=SqL K H1 a xs
example:FH:=(U1 tg)
example:F1:=a == b
example:FZ a:=fun w hw=>a
example:EW:=97+i.toNat
example:zbG a:=by rw[Jg,a,decide_eq_true_iff]
example:Fc:=PE X i ty
example:zdT a:=[("width",.int a)]
example:Dt:=(ax,q,.tup (k.map kV))
example:zbt a b c d:=(swapsWith a b c X.env)=(pure d)
example:Ea:=(fA H3 d_o [])
example:Gq a c:=(Ae a c rA r)
example:DB a b:=by show(wT,(Same a H')/\(σ'=b),?_)
example:Fq a:=xcz y.mr aa a
example:Fp a:=fun c xs q=>a
example:EG a b:=xv (o:=(.tup a)) jV b
example:Hl:=bubble p k (k-m)
example:DN:=fun kv=>(cC uB k)
example:Rn a:=if a then 0 else 1
example:E7:=by cases (BI,u=qi)
example:FG a:=fun _ H Q=>a
example:zez:=BU::(ptV p)
example:DY a b:=by rw [Zs];show ((a+1)<=b);omega
example:zjP a b:={ s2 with heap:=s2.heap.push (eP,a,.fields b) }
example:ET a b:=(way t.mask a b).j
example:IP:=by rintro ⟨u,v⟩
example:D9:=some (V.int c)
example:Fb:=.cons _ t
example:Dw a b c d:=xbn (pv a) (xaq rfl (xo (pN b c) d))
example:Em:=(zD,V × V)
example:Ew a:=s7 _ _ (s6 _ _ a)
example:Fo:=Ord n lt
example:Di a b:=.Call (.Attribute o a apos) b [] cpos
example:EF:=by ext kh nm hnm hx
example:Es:=by exact (.cons e .nil)
example:D5 a b c:=by show(cQ,v=Jl,ry);ext aE a b c
example:Dd:=(ax,la,.lst (crowd.map V.str))
example:DF a b c:=by show(cQ,v=(Ye _),ry);ext aE a b c
example:EV:=strR cs ws
example:El:=(fA H1 dl [])
example:D1 a:=(qZ hp T.n_a0 lkH a)
example:Ev:=xcb lens prs
example:Dm:=(CZ apos.endLine cpos.line)
example:IJ:=(p2.1,p1.2)
example:II:=(p1.1,p2.2)
example:D8:=GPr ps w h prs
example:Eh a b c:=(b9 ys y)->((b9 a b)->c)
example:Dl:=["picture", "one", "other"]
example:DP a:=by rw[Z5,(va,(eO a) == a,aP)]
example:Dg:=["self", "name", "side", "row"]
example:KJ a:=Dv X.K H m a e
example:Dc a:=by ext Cw a hg;show(af,vs,rel,da,xd4 I e hep)
example:Dj a b c:=(bindArgs a (nU b))=(pure (List.zip c b))
example:Eg a b c:=PW X (.BoolOp a b pos) c
example:DX a b:=probe.go t hashAt h a b
example:GP:=(cU-(own a))-(rent aN)
example:EU a b:=by refine (Y3 hp (thn a b))
example:Df a:=xcy (by rw[Y.sz];exact (ZT.mp a)) none
example:D0 a:=fun _ _ _ H _ I h=>a
example:Ek a b:=by obtain ⟨a,b,rfl,h⟩:=h
example:zqj a b:=show ((its.toArray.any a)=b) by simp
example:DL a b:=by obtain ⟨a,b,rfl,_⟩:=h;rfl
example:Hh:=Kp.upd1 asked s b
example:Re:=eOf X.K H m d
example:Do:=(behindInMarks op b)=false
example:IH a b:=⟨nm,x,y,sd,a,b⟩
example:NN:=.hand so ho asked s0
example:DM:=AkD H da al asked
example:Db a:=(attributeBase o a X.env (jx o))=(jx o)
example:XN a b:=∀ l,(((s,l)∈a)->((b+zN)=l))
example:Dp:=by simp only[Zt,Jq,or_false] at hb
example:DD:=prs.map (exP p1 p2)
example:DZ:=picF w h dp do_
example:D7:=Cmp n lt cmp s
example:Ei:=by ext Gk ok ov st st
example:C9 a:=(qZ (RT hp) T.n_a2 lkW (rB a pw (bJ p H3 hp3 sd3 s3)))
example:DC:=notedBy aS A env zoK
example:Da a:=by obtain⟨⟨a,hp⟩,⟨kvs,hk,pl⟩,_⟩:=CU
example:Dn a:=by have q:=(hl i Z H hi p);by_cases hlt:a
example:L4 a b:=by obtain⟨a,e1⟩:=b
example:KC:=by ext lQ
example:Kf a:=by rw[a];ext lQ
example:Tw a b c:=if (a>0) then b else c
example:Lb a:=show a from z
example:La a b c:=by obtain⟨a,b,_⟩:43:=c
example:HI:=["_law_found"]
example:Hk:=fun _ _ _=>False
example:MR:=∀ b∈fp,(FpOk X pins H b)
example:Lg a:=by split at a<;>cases a
example:Id:=(KE).isSome_eq
example:LY a:=∀ n∈zcJ,a
example:KA:=∃ es,kN
example:L6 a b c d e:=by obtain⟨a,b,c,d,_⟩:83:=e
example:Xp:=∃ p∈ps,(p.nm=nm)
example:GT a b:=by generalize eu:a=H1;ext fJ s1 b g1
example:Hy a:=(cans pw ss a).head?
example:LK:=some CT
example:K0:=List Row
example:IG a b:=(h.get? a)=(some b)
example:LJ:=(bA hn)
example:Kc:=r.length+1
example:LI:=(aT l1)
example:LH:=(aT l3)
example:Lh:=by refine (xgc ?_)
example:Kz:=.str name
example:LG:=(aW cU)
example:HH a b:=Q a { s with heap:=b }
example:Pf a:=(h'.get? b)=(some a)
example:LF:=(az aa)
example:KZ:=(iL V V)
example:LE:=ok_ao T
example:LD:=(aV e1)
example:KY:=Nat->Int
example:LC:=Zt.mp h
example:Lf a b:=by rw[a];exact (Ze.mpr b)
example:LB:=(mF It)
example:LA:=(oy p0)
example:Lz:=(gG H2)
example:Ly:=(bv nb)
example:Lx:=(bv 14)
example:Lw:=(bv nr)
example:G7:=.lst (qs.map V.ref)
example:K9 a:=(JX K a)=true
example:K8 a:=(Yn K a)=true
example:K7 a:=(Y5 K a)=true
example:Ij a:=(X.mg x)=(some a)
example:KW:=(c9 rfl)
example:OP:=.int vs.length 0
example:Pe b:=(h'.get? a)=(some b)
example:Ky:=Nat->Bool
example:Lv:=(dU hp)
example:G6:=["self", "picture"]
example:KI a:=((a).length)<=12
example:Lu:=.lst xs
example:IL a:=xcx lens names a
example:Sn a b:=s.TypeIs (.ref a) b
example:Ls:=(qM Zs)
example:RI:=.Name x pos'
example:Hj:=some (.bl false)
example:HU:=Itkd d ob kvs
example:KU:=Z3.mp hp
example:GI:=by refine (gx ?_);refine (io ?_);intros
example:Hv:=(zZ kvs.length)
example:Ic:=SqT K H a xs
example:KR:=(Ce Key)
example:L3 a b:=by show(bm,Qr a b ?_)
example:KQ:=(ax a o)
example:Kx:=(ax a Fh)
example:LX a:=shS rent a g
example:Kb:=.bool true
example:Lr:=Cls K C
example:IF:=CrL H cs qs
example:NY:=blk0 Z fr zs.length
example:Lq:=V->Bool
example:IE:=Bool × Int
example:HG:=(asked s)=none
example:Kw:=(cS nb e)
example:V6:=(ax,d,.frz o (.dT kvs))
example:Kv:=MkOk mask
example:HS:=ss.length<=32
example:Lo:=xs++[y]
example:G5:=assignEach es X.env
example:LW a:=(uD t.C_r a)
example:Ln:=(OF xs)
example:G4:=cells w x1 y1 b1 r1
example:Ku:=ss.map xt
example:Ib:=s03.trans s5
example:Ia:=xf9 (xb1 hr)
example:G3:=cells w x2 y2 b2 r2
example:SG:=⟨q,hq⟩
example:ID:=s3.trans s4
example:GY a b:=by exact (absurd (decide_eq_true a) b)
example:KL a:=by ext Bx;ext wQ a h
example:GO:=(wM,s∈(room n),uh)
example:Lm a b:=(meet a b)=none
example:Kt:=upI w prs
example:HF a b:=(H' a)=(some (.tup b))
example:HZ:=I1.hok d _ e
example:IC:=acr w x1 b1
example:R9:=acr w x2 b1
example:Ks:=Rch f a b
example:Ka:=(Ao lo h9)
example:HL a b c:=by show(UG,qe hb);ext aE a b c
example:Hq a b c:=by show(UG,I.list hb);ext aE a b c
example:Ll:=qs++[q]
example:Kr:=(sJ,kd<8)
example:OO:=setI own pt.nm 0
example:VJ:=.builtin "object.__class__"
example:I0:=Up t.place
example:IB:=α->(cX α)
example:Ho a b c d e:=(au a b c d (y8,Q (.bl e) H'))
example:KP:=(sL k j)
example:IZ:=V->(V->tX)
example:IY:=vs=[aA,bQ]
example:Hb:=by cases h1;show(rQ,h2,.int)
example:Ng:=I1.kept (t':=s1.toks) zo
example:Kq:=(b5 x hx)
example:GA:=(sc.names.lookup x)=(some .cell)
example:Hu:=valV kvs (xt s)
example:KH a:=(pj xef a xb4)
example:Ip:=by subst e1;cases r1
example:Mr:=(H' l)=(some (.lst (qs.map V.ref)))
example:IA:=xag H ss rs
example:HR:=IntsAre vs ns
example:Iz:=PA X [a] ta
example:HE:=kvs++[(Cu,cu)]
example:HQ:=by ext bF kvs e l f s
example:KO:=X.wish E
example:Iy:=srt.Perm ss
example:HD a b:=by have:=a;ext bO b this this
example:zdD:=.inr (dQ k1)
example:Lk:=xa1 p s
example:Tv a:=a=(.fields vs)
example:Pu:=Zg _ (Zg _ ?_)
example:MV:=(eP,"list",.seq vs.toArray)
example:G0:=(X.A.units+20)<cLine
example:Ko:=PT X a tA
example:HY:=DGet H a y o
example:Hd:=Value->(Value->Tj)
example:K6 a:=xa (xad a) xi
example:GM:=["name", "side", "row"]
example:K5 b:=DGet H2 a y b
example:zey a b:=BindsTo s fd (nU a) b
example:zaV a:=Room q0 k (A.deeper a)
example:KN:=xal lens
example:Lj:=x1≠x2
example:HX:=c.1::c.2
example:Hc:={ D with nx:=u D }
example:zad a:=by unfold pyNext;refine (Zc (YI a))
example:L5:=by exact (xbo aa)
example:IX:=(iL TE TE)
example:IW:=(iL Tr iW)
example:Ix:=(bM Str IK)
example:Kn:=(am t ht)
example:Km:=(am y hy)
example:KM:=acc++[x]
example:IV:=.Name y py
example:Iw:=(cC z name)
example:XM a b:=(QS K mainGlobals a)=(some b)
example:Ht:=PrOk ps dP im p
example:IU:=below xs j
example:Gz:=(ax,ln,.lst (names.map V.str))
example:IT:=(og hi ei)
example:Ny a b c:=(typeLookup (.type a) b)=(pure c)
example:GL:=(ax,b,.tup (k.map kV))
example:Kl:=Cls X.K C
example:Io:=by subst ey;cases Xb
example:Pd a b c:=PS X (.Assign [a] b pos) c
example:GX:=.hand so1 ho1 asked s
example:Hg:=relabel scope env
example:KK a:=by simp only[Jm,hb,a]
example:GW:=∀ z,(sF=(ld z names))
example:GN a:=(iO,R,ta Z H (fun vs H1=>a))
example:zeP a b c:=(b9 xs x)->((b9 a b)->c)
example:GG:=(leap mask ((nS).i) ((nS).pt)).1
example:SF:=(iQ n x d)
example:Iv:=(SR [a] EE)
example:GF:=h1.push (eP,"tuple",.seq Hm)
example:Oc:=Kp.Mt room so' ho'
example:GU a b c:=OpR X (binaryOp a) (rI b (Le c))
example:Iu a b:=Kp.upd1 asked s a b
example:Gy:=∀ b xs,((eR b xs)->(E6,.tup xs))
example:Kk a b:=xbn a (xaq rfl b)
example:GZ:=(YU K cdv qual)=true
example:U0 a b:=(iO,R,to Z H (fun x H1=>(∃ d kvs,(aR x dF a b))))
example:Il a b:=by ext HN dx hpi a;refine b
example:Uy:=(kR,u5,tSeq t5 u6,u4,tSeq t4 u5,(G2,u3,tSeq t3 u4,tSeq t2 u3))
example:IS:=xh8 xga xm
example:G9 b:=show b from (I.hok a _ ea)
example:Hf a:=by obtain ⟨a,rfl,_⟩:=h;rfl
example:HP a:=by obtain ⟨a,rfl,h⟩:=h
example:Hn a b c:=by obtain ⟨a,b,c,rfl,_⟩:=h;rfl
example:GS a b:=by generalize eu:a=H7;ext fJ s7 b g7
example:Hi a b c:=xfa (i:=a) b rfl (QP rfl) c
example:GR a b:=by generalize eu:a=H6;ext fJ s6 b g6
example:Gx a:=fB K a "__setattr__" "object.__setattr__"
example:Sm a b:=Je (thn a b) hs rfl
example:MT a:=backToKw a (keywordEach [] X.env)
example:zjq a:=xaw xd2 rfl T.n_isinstance boot_isinstance a
example:GE:=(Iq,"own",.ref d_o,[Ef,DE])
example:Gv:=(Iq,"lengths",.ref dl,[("picture",aA)])
example:GH:=(iY,ou-eI,0,-(ou-eI),ou-eI)
example:GQ a:=if (uB=k) then (uB,a) else kv
example:KG a:=fun x y H Q=>a
example:Hs:=(bb V ju ju tX)
example:Vq:=by exact(dI e1 (jN,k,by ext cE d1 k))
example:Ir:=exP p1 p2 p
example:Hr:=itP w' ss prs n
example:Mf:=(BW (Xa,Z.length,∀ i,((n<=i)->((σ'[i]?)=(Z[i]?)))))
example:GB:=∀ f,(RelO (fs.lookup f) (mA f))
example:Gw:=∀ vs H Q E,(ER->(vs.length=ps.length))
example:G1 a:=by refine (xg5 a (bJ i y b hy hb))
example:KF a:=(kR d D s Z a)
example:GV:=o.data=(.set es ep t)
example:Im a:=by ext jY n0 nL nC nP a
example:UF a:=by ext mI eb b a qy;exact (I3.fpOk (Zl _) (I3.hok.fresh (Zl _)))
example:GK a:=(A6 f ⟨oc,od,.func a,osl⟩)
example:GD a b:=∀ ys H2,(bg m8 (OF ys) (wa a) b LT)
example:GJ:=.dK (putK kl sZ (.ref dq))
example:Uz:=by obtain⟨⟨k,x⟩,q⟩:(∃ y,((kvs[i])=y)):=gs;have hx:h7:=(cK jh q)
example:Gu a:=xcw (xc8 rfl (xgk hr)) rfl T.n_dict boot_dict (xa a xi)
example:T7:=T.size.1
example:SE:=(b s hs).1
example:Ob:=by rw[Zs,ZY];omega
example:SD:=e.1.symm
example:SO a:=by show a;omega
example:Th:=["thing"]
example:O6:=["_law_script"]
example:Mp a b:=∀(pins:bc) (s:Shared) (Z:St) (H:Hp) (Q:a),b
example:R8:=fun _=>true
example:T6:=fun _=>0
example:Tg:=fun _=>?_
example:SC:=fun _=>(#[])
example:Uf:=by unfold KV at r
example:NM:={ s1 with heap:=h' }
example:Rc:=(l.map g).sum
example:Ou:=fun _ _ _ _ _=>bD
example:Ot:=fun _ _ _ _ _=>As
example:MB a:=by unfold Geo.upL Geo.upN Geo.dn;rw[a,a]
example:zjc:=by unfold Geo.lvL Geo.lvN Geo.wayI;ext su if_true
example:Mj:=by unfold Geo.lvL Geo.lvN;rw[Za,Jb];ext lQ
example:NG:=by unfold acrI;ext lQ
example:zeO a:=by unfold xah;ext aB Za a
example:Rb:=∀ s∈al,uh
example:Tf:=Yr.refl _
example:zex:=.str "both"
example:T5:=(aW sok)
example:R7:=(eQ Result)
example:NL:=X.env.cells.lookup n
example:Oa:=Str->(cX NameKind)
example:T4:=P5 a b c
example:NF:=(h''.get? b)=(some o)
example:R6:=(bv,0+cG)
example:OX a:=pl.keep (Same.tups a)
example:OC a:=pl'.keep (Same.tups a)
example:Te:=Str->Seat
example:RH:=(eA (dZ hq))
example:Td:=ps.take i
example:Pq:=(cV ys.length)
example:O5:=(H5 c)=(some u)
example:Tc:=(c9,Zk h)
example:T0:=Jh.mpr c
example:SB:=I.pin p hp
example:Ra:=(iL Str Addr)
example:zac b:=(s.heap.get? a)=(some b)
example:Tb:=o.ok b hb
example:O4:=(dM,sIx n 0 lo)
example:RG:=ns.length<=n
example:TZ:=(dZ hu4)
example:NX:=I1.hok.fresh (Zl _)
example:Ta:=Jx (Zl _)
example:Os:=["self", "width"]
example:O3:=(eF,nomatch hp)
example:OW a:=(ax,q,.tup (ptV a))
example:Pp:=(aF kvs (k,v))
example:S9:=ns.take j
example:S8:=Same H1 H
example:Se:=by refine (Zc (ZW ?_))
example:TY:=b∉X.fs
example:RS a b:=by rw[a,b] at z;exact (g_at z)
example:P9:=Mt room so ho
example:zdC:=i<=xs.length
example:S7:=(eR q zez)
example:O2:=some (.bl true)
example:P8:=Itkt d ob kvs
example:P7:=Itit d ob kvs
example:TX:=Z3.mp hx
example:RR a:=ps.map (fun p=>a)
example:Nr a:=(ax,a,.lst (rs.map V.ref))
example:Mx:=(sc.names.lookup x)=(some .local)
example:PZ:=TP X pins Z Q
example:Po:=Same.seqL s hs
example:S6:=n∈crowd
example:S5:=n∈names
example:S4:=Q false s
example:Of a:=(ZP K jd a)=(some none)
example:S3:=o.ok a ha
example:TW:=put a ha
example:RF:=strR cs ws q
example:RE:=x8 w' ps srt
example:Tu a:=congrArg not a
example:SN a:=fun c=>(ld c a)
example:TV:=Sem Bool
example:Na a:=by intro z;show(dy,(ZE.inj z).symm,a)
example:TU:=(dJ r _)
example:N9:=r.map (strR cs ws)
example:R5:=blk0 Z fr 1
example:TR:=.bl true
example:TQ:=acrI w p
example:TN:=uprI w p
example:TM:=(fT 1 5)
example:Oe a b:=by rw[<- a];exact (Ze.mpr b)
example:MX:=by refine (gn ?_);refine (sq2 ?_);intros
example:M3:=by refine (gn ?_);refine (io ?_);intros
example:PY:=Room q0 k X.A
example:SA:=crowd++[x]
example:TL:=F i y H2
example:Pn:=DecidableEq κ
example:zcI:=fun _ _ q=>Gj
example:S2:=PA X es t
example:RD:=I.cell x c e
example:PX:=I.freeC x c e
example:R4:=putF f v fs
example:Oq:=Vis X.env.scope x
example:ON:=(av (ku q hn) q)
example:S1:=Rch f a c
example:zew:=te σ' H4 N
example:NW:=.Attribute o m apos
example:N8:=Geo.Marks ns n dbl
example:Sz:=(av Zq xj)
example:Tt a:=by exact (.inl (.inl a))
example:Ts a:=by exact (.inl (.inr a))
example:S0:=ifN nR ?_
example:zbF a:=tb Z H1 (fun y H2=>a)
example:zbE a:=ty Z H1 (fun y H2=>a)
example:Tl:=by refine (Ji ti ?_)
example:Tk:=by refine (Yh ti ?_)
example:RC:=neC b o e hx
example:ND:=I.base.there b o e hx
example:O1:=fs.length<=1000
example:Sy:=fun _ q=>q
example:N7:=fun _ q=>(nomatch q)
example:R3:=TrL H ps ts
example:R1:=StL H ps ts
example:PV:=o.getD j none
example:SZ:=a.lt k hk
example:SY:=a.lt k aa
example:TK:=hidT h H
example:OM:=hidT s₁.heap H
example:RQ a:=k6 _ _ (ne_f a hd) a
example:Sx:=(jS 13 xm)
example:MS a:=(mC,(X.base.get? b)=(some o),a)
example:RB:=k it ah _ st
example:TJ:=(LZ xdq)
example:N6:=(pt.x,pt.y+(cG*1))
example:NC:=(pt.x,pt.y+(cG*(-1)))
example:M8:=by show(bm,Ji hit.typeIs (Zk ?_))
example:M7:=by show(bm,YK hit.typeIs (Zk ?_))
example:O0:=⟨jd::us,kw⟩
example:zev:=(Zi.mp e).1
example:OB a b c d:=xbn a (xaq rfl (xo (pN b c) d))
example:Tq a b:=HoD.keep a (mB b)
example:RA:=c1.append c2
example:zcU:=by have hlen:=r'.length
example:MI a:=Zc (m:=(Builtin.Tuple.tupleExact _)) a
example:M6:=["_law_script", "_law_k"]
example:No:=cu4.keep (Same.tups s5)
example:Sw:=atKey xs k
example:Sv:=(fQ xj Zq)
example:Rz:=SqL K H p xs
example:zcf:=fun σ' H3=>zeB
example:Ue:=by rw [(xg c)] at e
example:OL:=Rd H a (.dK kvs)
example:OZ:=(OE kvs.length)
example:zbs:=We it s.heap h'
example:Mo a:=by show(tQ,i,kvs.length,aa);show(cH,⟨a,hd Z H p⟩)
example:PU:=KB H H' d1 d2
example:zaR:=.ask [nm] fb 0 0
example:PR:=t.dummies=(#[])
example:Op:=(aa:vs.length<=i)
example:TH:=da≠d_r
example:zcH:=(l.map f).sum
example:Nn:=(carriedByValue v)=true
example:Ry:=(b5 rfl rfl)
example:M0:=by refine (nx ?_);refine (fq ?_);intros
example:Oo:=(jB,true,iteT ?_)
example:PQ:=a.lt (k-1) aa
example:NB:=HT.sIx xs.length 0 lo
example:zdB:=upd1 ho1 s a
example:Rx:=MayA srt prs
example:Ms a:=∀ c u,((c≠d_o)->((c≠d_r)->(nA->a)))
example:SX:=(K3 Dh a)
example:NJ a:=by show(i5,t,yT (rR a));ext hJ e
example:Mg:=(pW,(h.get? b)=(some u),(h'.get? b)=(some u))
example:zdA:=upd1 so1 a s
example:NI a:=(zjP "dict_itemiterator" a)
example:Rm a b c:=let d:=D; (kR s Z a b c)
example:M5:=xah (ps.map (strP cs ws))
example:Mw:=s.heap.push (eP,"dict",.dict (#[]))
example:NQ a:=by obtain ⟨its,r,pl,hz⟩:63:=a
example:zdS a:=tupleKeyHash knd a
example:SW:=ps.zip us
example:Xo:=fun _ _ h=>(nomatch h)
example:Sl a b:=∀ i,(a->((i<m)->b))
example:SV:=(am i hi)
example:To a:=xa4 (fun e=>a)
example:TF:=O8++[kc]
example:zaB:=by show(bm,Y8 ho hd hf ?_)
example:Rw:=xfl I1.hok e
example:ME:=I.size_lt (Zl s.heap.objs.size)
example:zdz:=(gM,so2 z)
example:SU:=PS X st t
example:Sk a:=by ext bF its rv p hz a
example:MU:=(mT,d,iH,(H2 b)=(some u))
example:TD:=(xI w h)
example:Pc a b:=by rw [Za];exact (ZJ (aa:a<b) ap)
example:Od a:=by ext dL o e a;ext ut
example:TC:=(Pg P f)
example:Nm:=⟨o1,k it ah _ e1,r⟩
example:Mq a:=(h''.get? s.heap.objs.size)=(some (PJ a))
example:R0:=h.Ns1 dx mA
example:NP a:=∀ b o,((b≠it)->(fY->a))
example:Rv:=SqL K H a zdE
example:SM a b:=xan (PW.pt a) b x9
example:OK:=gvB ss names prs
example:Nv:=Z6 _ (Z6 _ (xdl hb e))
example:NA:=fun h' dd' hs=>(h _ ?_)
example:M4:=hp.update a (JO (jr,#[]))
example:PP:=(cI b o e hx)
example:RP a:=shO own crowd g a
example:Pk:=fun c v _ q=>q
example:VT a b c:=(zjq (fM,0,xfd (v:=(.ty a)) rfl b c rfl))
example:PN:=⟨es,hdat⟩
example:Su:=I1.list hq
example:Rl a b c d:=SortSt.mk' general' a b c d
example:Tn a b c:=((a=b)/\(v=.non))\/c
example:TB:=qs1++qs2
example:N5:=fun _ h=>(nomatch h)
example:SL a c:=fun b a q _ _ _=>c
example:Pj:=fun _ _ _ e=>e
example:PH a:=∀ s',(a->(Q () s'))
example:Nx a:=∃ xs,(a/\(k=(! xs.isEmpty)))
example:PF a:=∀{xs:ag}{us:aQ},a
example:Nf:=by simp only[Z7]<;>omega
example:zqY a b c d:={ cls:=Sb,dict:=a,data:=.seq b c,slots:=d }
example:Mn a b:=∀ base:Heap,(a->((base.Ns mainGlobals mg)->b))
example:NV:=(names.map own).sum
example:On:=["word", "width"]
example:RO a b c:=let ⟨a,h1,h2⟩:=b; c
example:Rg:=by dsimp only [rI0,iV]
example:MN a:=by let Pv (i:Nat) (Z:L2.St) (H6:Hp):Prop:=a
example:M9 a:=∀ u,((ax a u)->((H' a)=(some u)))
example:MM a:=by let Pv (i:Nat) (Z:L2.St) (H5:Hp):Prop:=a
example:RN a:=prs.find? (nmF a)
example:Ru:=(bM Int Int)
example:RZ:=(am l1 hl1)
example:RY:=(am l2 hl2)
example:ML a:=by ext cZ;ext Fa ru r1;show(cQ,u=(Zr a),ru)
example:OA a:=s.heap.IsRevIter I l a
example:Ph:=Z1 ((LU+1)-f8)
example:N2 a b:=(iB H s.heap.objs.size a b)
example:ST:=ifP nR ?_
example:Tz:=Itr lo n
example:Ss:=(fD hi lo)
example:Sj a b:=(qZ a T.n_a0 lkH b)
example:OV a:=fr2 _ _ (ne_f a hda2') a
example:MP:=(fQ Z5 (He "across" "width"))
example:Om:=(kT "side" "row")
example:RX:=mets pw prs
example:PM:=PrOk ps w h p
example:Sr:=eval e env
example:X6 a:=(iY,a,0,none,es[((a).toNat)]?)
example:Nd:=fun x y=>((lexK x y)=true)
example:Ty:=xe8 r fs
example:Sq:=valV kvs j
example:RM a b:=(we a T.n_bb lkZo b)
example:Rk a b c:=(upI w a)+((uprI w b)+c)
example:XJ:=.hand so ho asked s
example:Si a:=by exact(dI st (jN z a))
example:OJ:=GPr ps dP im prs
example:OY:=PI X tg iter wi
example:PB a b:=by rw[Z5,a];show ((Jm m b)=none)
example:Nu:=(leap mask p.i p.pt).1
example:NU:=(cS,xd1 q e gb,q)
example:Oz a:=al.map (fun s=>(iy,a))
example:XI:=(iB,H2,p,cB,.ref o)
example:Rt:=SoD H d n so
example:Rs:=HoD H d n ho
example:Nl:=(eR q (FE c.1 c.2))
example:MH a b:=OpR X (compareOp a) (rI0 (d0 j (Tx b)))
example:zaw:=(so bH)=(some bW)
example:RW:=(aI n x hx)
example:OI:=lvL w x1 true r1
example:XH:=tupleKind (xaj P w)
example:Ni:=by show(UB,⟨q,hlt⟩,kvs.length)
example:Ol:=10*(turns t.mask)
example:OH:=(nr / 8) % 65536
example:Rr:=upL x1 y1 r1
example:MZ:=by rw [LQ,xig] at c;dsimp only at z
example:Oj:=(valV kvs k)=none
example:OR:=by ext zbG J9;constructor
example:MK a:=(Nb,V7/\Bj,v,a,V7/\(kvs.length<=i))
example:Rj a:=⟨a,g,dr,tk,os⟩
example:O9:=by intro m e h;ext hJ h
example:MQ:=∀ a b,(((k a)=(k b))->(a=b))
example:MY:=[.str "left",.str "right"]
example:MD:=(av dr.pm.length_eq (aW dr.ok))
example:RL a:=(dE a (vF Cu hk))
example:Sh a:=(Ad l1 l2 rfl a)
example:Nk:=.Compare a [op] [b] pos
example:Nw a b:=(zbt,a,some b,pos.line,false)
example:Oi:=(way mask hh m).j
example:Nt:=(bC q s e1 e2 (lC e3))
example:SS:=seF d1 d2
example:Oy a:=by rw [em] at ea5;refine(lX a)
example:Tm a:=∃ m,((m<n)/\a)
example:N1 a b:=⟨(zbH 2),a,b,(vW hp gs)⟩
example:zaQ a b:=by obtain⟨a,rfl,b⟩:=q1;cases r1
example:So:=[a0,a1,a2]
example:MJ c:=by rw [Zq,ZH];show(dc,c,ah,bJ a ha b hb e)
example:OU a:=by rw[<- a,<- l];exact (h _ jz)
example:Py c d:=fun {a b} ha hb c e=>d
example:Nc:=["thing", "low", "high"]
example:MC:=pl.no (nm:=nm) (eF,(no p hp).1)
example:MG a:=A.under (.builtin "type.__call__" a)
example:SK a b:=(bJ H5 qs2 s5 a b)
example:XG a b:=by have pne:(s.heap.objs.size≠a):=(JT b)
example:Oh:=(p,w)::(P.zip vs)
example:Rq:=(cm dbl 1 0)
example:Rp:=(hU h h' aa)
example:Ro:=btw rf yn rn
example:zkK:=(gZ,(bS e)=dX,¬ (o8 k b))
example:NK:=(Iq "picture" aA [])
example:N4:=(ax,a,XO a C od)
example:MF a b c:=by have:((bA (fD a b))=c):=aa;rw[this];congr 1;omega
example:Ri a:=fun i h h' st k=>a
example:Mv:=(Iq,"rent",.ref d_r,[Ef,DE,OQ])
example:Mh a:=by rw[Za,Za];exact (JJ (zp,qs1.length+qs2.length,a))
example:Nj a:=k35 _ _ (ne_f a hkl) (ne_f a ow3) a
example:Pb a:=by obtain⟨i,hi,ei⟩:=(ZI a)
example:RK a:=xk (xcr bD a rfl)
example:Pa a:=by ext L7;have h1:(nm∉ns):=a
example:Rh a:=by rw[a,FA,e] at z;cases z
example:Mm:=["picture", "names", "pairs", "seats"]
example:WP a:=(b8 hp1 T.c_ac T.n_a5 lkSo a)
example:NO a b c:=(i0,H1,q1,.tup (Ao lo a),b,c)
example:Me:=by show(fE,fun i m Z H=>(aR,m,kvs.length-i,Rf,tM),SQ kvs.length)
example:RV:=tOp r ta tb
example:MA a:=by show(cY,(zqj,eqU x,its.any (eqU x)),a,q)
example:Mz a:=fun u hu=>(lE (cO hu) (dA u a hp xj))
example:zjp a:=by refine (.lst (aV e) a (bJ j x d h1 h2));rw[Zf] at h1 h2
example:MW:=by have z':((Q5 _)=(Wr v)):=z;cases z'
example:N3:=xie (pv 13) xm xfq
example:PL:=shI i j hi hj
example:Ox a:=by refine (xe5 (Pv:=Pv) a ?_ ?_)
example:OT a:=fun b o _ _ hc e _=>a
example:zmz:=[("height",V.int h),NZ,DA]
example:L9:=by obtain ⟨rfl,e2⟩:=(QL e rfl);cases e2;show(fO,rfl,rfl,rfl,ih r0);have z:=(rc.det rfl rc0 rfl)
example:Ow a b d e:=((c∈a)/\(c∈b))↔(d/\(c=e))
example:PK:=[a0,a1,a2,a3]
example:VS:=by obtain⟨⟨old,he⟩,h1⟩:=(id st)
example:Ml:=∀ i y H H',((Tp H H')->((F i y H)->Uc))
example:NT:=(way t.mask js i).j
example:NH a b:=by obtain⟨⟨a,r⟩,hs,hsq⟩:62:=b
example:V2:=s1.heap.push (revObj l WN)
example:OS a:=toP (way t.mask js a)
example:Vo:=(eR aN [.str (aW cU),.ref cF])
example:Md:=by have b1:(((uE).length)<17):=(by unfold Geo.upL Geo.upN;rw[Za,Jb];ext lQ)
example:Ma:=fun _ _ _ _ _ ow nd=>(xaq rfl (LV,pO 0 nd ow,pO 1 nd ow):PG _ _ (gTup K 2 _))
example:MO:=fun H2 q2 s2 hq2=>(eD q2 hq2)
example:Mu:=(ld,prS p,ss)&&(xa1 aK (prS p))
example:UX a:=∀ c u,(bg,c≠d_o,c≠d_r,c≠da,nA,a)
example:Mi a b:=∃ t,((PSs a b t)/\(t { nx:=fun _ H'=>yP,rt:=Q } SH H))
example:My:=by simp only[Zt,Jq,or_false,not_or] at hb
example:OG:=[a0,a1,a2,a3,a4]
example:Nh:=by show(jY,g,ex,sz,f,xgw I e hdat)
example:Nq:=by obtain⟨i,hi,ei⟩:=(Qo.mp he)
example:NS:=[a0,a1,a2,a3,a4,a5]
example:Mb:=(ns.map (fun n=>((.inr n:Key),V.int (own n))))++[(sZ,.int 0)]
example:L8 a b c:=by refine (xce (jq a) hl1 aa (K2 k E5) (bJ H4 qs1 s4 hu4 cu4));show(IQ,id sd3);have hs4:((H4 p)=(some (.ins b ds (zdT pw)))):=(lD hs);have sd4:(xeq t H4 p c pw):=⟨ds,hs4⟩
example:WI:=by unfold Kp.upd1;rw[cp]
example:zdR:=by rw[list_sort_plain]
example:zcq:=by injection e with e1 _
example:zbD a:=∃(its:aQ) (n:Nat),a
example:zeN:=by have:=pm.length_eq
example:Xg a:={ s with heap:=a,toks:=t' }
example:zdy:=["_law_row"]
example:zav:=by simpa using rv
example:zdQ a:=I1.kept (t':=tk) a
example:zaP:=by simpa using q
example:zau:=by simpa using hi
example:zce:=(Z1 n).toArray
example:zat:=by simpa using hp
example:Xn:={ s' with heap:=h2 }
example:zdx:=by size_fits
example:V1:=∀ p∈ps,(eR aK [ij,eI])
example:zeu:=∀ s,(zN<=0)
example:zas:=∀ nm∈names,Xp
example:zcp:=by simpa using this.symm
example:zco a:=∀{n:Nat},(a->(zZ n))
example:zcd:=List DictEntry
example:zcc:=List (cX Expr)
example:zcb:=(bA rs.length)
example:zet:=xs.length+1
example:zqX:=s1.heap.objs.size+1
example:zcG:=Nat.le_succ _
example:zdw:=(eY "tuple")
example:V5:=beq_eq_false_iff_ne.mpr h
example:zes:=i<xs.length
example:zar a b:=by refine (YA.length_le_of_subset a b)
example:zdP a:=assignEach a X.env
example:Xm:=(h2.get? b)=(some o)
example:zbC a:=pr.keep (Same.tups a)
example:zbr:=(cV items.size)
example:zer a b:=(ax,a,.tup (prV b))
example:zaq:=Nat.min_eq_left c
example:zbB a:=(List.of_mem_zip a).1
example:zab a:=by ext i7 a;refine (sq4 ?_);intros
example:zca:=Z1 h.objs.size
example:zdv:=Z1 bs.length
example:zeq:=o.dict=none
example:zeM a:=((cC a "left"),r)
example:zep:=(Fj "pair")
example:zcF:=ps.length<=12
example:zaO:=crowd.length<=12
example:zcE:=A.units<cLine
example:zdu:=Gl X "range"
example:zap:=srt.map (strS ws)
example:zcT a:=(fS,k _ _ (eK a) e)
example:zeo:=(Zr hZ)::us
example:zdt:=OutL H cs qs
example:zbZ:=srt.length<=32
example:zds:=(qP "range")
example:zen:=xs++[(k,a)]
example:zem:=asked y.1
example:zaN:=fun y=>(nomatch y)
example:zel:=s4.trans s5
example:zek:=0<sh.length
example:zeL a b c:=PE X (.BoolOp a b pos) c
example:zdr:=(xec x)=true
example:zdq a b:=y.mr.mono.le aa a aa b
example:Xl:=d.params.defaults=[]
example:zbq:=(zB kvs.length)
example:zaM:=(H2 d)=(some fZ)
example:zeK a:=(A.units+a)<cLine
example:zdp:=I2.hok d _ e
example:Vh:=(xZ,fun p=>(cC p.nm pt.nm),pt)
example:zdo:=(aV (jp hl))
example:zcD:=(JX K C)=true
example:zao:=(bA items.size)-1
example:XF:=srt.filter (xa1 pt)
example:WH:=(Og,"dict_values",#[dF])
example:zcC:=(l.map r).sum
example:VA a:=(h'.get? s.heap.objs.size)=(some a)
example:zbp:=(bM World Heap)
example:zdn:=(bM fK Heap)
example:zej:=α->(cX β)
example:zei:=.str tr.1
example:zeh:=o.getD j uf
example:zeg:=I.hok b u e
example:zef:=V->(ag->tX)
example:zaA:=by cases h1;show(rQ,h2,.str)
example:zbY:=fun p=>(.ref aK)
example:VG:=["_law_cell_here", "_law_k"]
example:zeJ a:=(knd.is k a)=true
example:zdm:=(cC z.nm nm)
example:zdl:=SqT K H p xs
example:zaL:=Rd H a (.dT kvs)
example:zdk a b:=Lay mask hs.toList a b
example:zbo:=Jn it s.heap h'
example:X5:=.ask [name] fb 0 0
example:zan:=(I.ok.bs b o e).1
example:WK a:=JA (by exact (decide_eq_true a))
example:zee:=s7.trans s8
example:zaK:=L.length<=t.mask
example:zaJ:=(Ee d).objs.size
example:zaI:=(Ee 1).objs.size
example:zcB:=(mH t.C_a [])
example:W6 a:=PySem.W.methodObj (.ref f) a
example:zcA:=(pR sX ue cs)
example:zed:=(tZ,h y tU)
example:zeI a:=(Eu "len" (Ld a))
example:Vg:=h.IsKeyIter it d i kvs.length ep
example:zdO a:=bindL kindOf a m x
example:zdN a:=bindC kindOf a m x
example:zbn:=(D6 xcj (jj 3))
example:V9 a:=Builtin.Range.rangeSize lo hi a
example:XE:=(f+(7*(0+cG))) % 26
example:XU a:=s.heap.FunFrames X.base a
example:zcz:=Z8 "__next__"
example:XB:=qs.length=cs.length
example:zaH:=(ZE.inj hx).symm
example:zdj:=ps.length<12
example:W9:=(cans w ss prs).head?
example:zdi:=s6B _ _ hdt6
example:V0 a b:=pS a sc_am.nd (Gi,xr xbd b (qR 5))
example:zbm:=(so a)=(some s)
example:Vn:=ps.find? (fun p=>(cC p.nm nm))
example:zec:=(dN H l ys)
example:zbX:=p.getD (k-1) 0
example:VR:=by ext qS;show(af,p,hp,hpq,pl.get hqa)
example:X4:=s.TypeIs dF "dict"
example:zbW:=Room q0 dk X.A
example:zdh:=xbf ky ad aH
example:zaa:=by obtain⟨dx,hpz⟩:=z.ins
example:zeH a b c:=(XM,a,some (.int b c))
example:zcy:=cutV xs lo hi
example:zcn:=by simp only[kstep,e,e2]
example:VQ a:=by refine (Call_ (xcs I hg hm boot_range a))
example:zbV a b c d:=by obtain ⟨a,b,c,rfl,h⟩:=h;ext zV d
example:X9:=by show(UF,s2.heap.objs.size)
example:zeb a b d e:=.ask a b (fun c=>(cm c d e))
example:zbl:=l.most=(some n)
example:zdg:=CXo l.prog w
example:zcx:=PE X value tv
example:zam:=(xs.all xec)=true
example:zbU:=(bX d.name fa)
example:zal:=assignEach es env
example:zbA a:=td Z H1 (fun x H2=>a)
example:X3:=fun n h=>(nomatch h)
example:zbz a:=Kp.Crowd room so a hs
example:Vv:=["picture", "names", "pairs"]
example:zcS a:=by show(wX,names.map V.str,a)
example:Xf a b c:=(DU,xen rfl T.n_enumerate a,b,c)
example:W8 a b:=OpR X (binaryOp a) (rI0 (Le b))
example:zea:=.ref (ad i)
example:WG:=ts.map (fun t=>(Zr t.2))
example:zcm a:=Zt.mp (I.stkSub b a)
example:zbk:=(OD,"list",#[])
example:zeG a:=kas_desc f p dk a
example:W0:=I.base.free b o e n hx
example:zaG:=FpOk X pins H' b
example:W7:=ObjM s.heap x dx C mA
example:XA:=x8 w' ps srt' pt.nm
example:Xz:=[cP,nO,vV,nH,qF,FX]
example:zdM a:=∃ q,(nJ Ct cu a)
example:zaU a:=(bi kl a ll (am nm h))
example:zbj:=vs=[aA,.ref ln]
example:zbT:=xdx room ss ns
example:zcw:=cs++[(nm,hs)]
example:X8:=by obtain⟨j,hj,ej⟩:=(ZI h)
example:Xk:=HOk X.prog X.w H' h'
example:WF:=xcq aP (xcq aP (xil aP))
example:Xy:=xio (ss:=ss) nx g k
example:zak:=PIE X pins Z tg R
example:zaj:=xe0 H dl da names
example:UC:=(Lc,PySem.W.takesIn K (.builtin "object.__class__"))
example:Ul:=(PySem.W.specialIn K VJ "__get__")=(some (Bc "getset_descriptor.__get__"))
example:W5 a:=xfo ws ss13 rent (strS ws a)
example:zdf:=mv.mono more
example:zbS:=T.filterMap so
example:Vm a b:=Builtin.List.listExtendWith a (.ref I) b
example:zdZ:=cU == .free
example:zdL:=by simp at hb;subst hb
example:zdK a:=if a then 1 else 0
example:zbR:=h.objs.size<=a
example:Vk:={ cls:=.none,data:=.fields ps }
example:zcl a:=by have:=a;simp at this;omega
example:UD:=∀ b∈ch,(bE,(b∈X.ex)\/(xJ b),AM,xV b,HM b)
example:US a:=∀(i j:Int) (t u:Tok) (s:Shared) (Q:bj) (E:bj),a
example:WZ:=by simp only[Z7];omega
example:VP a:=∀ w' s',((iz s')->(a->(Q w' s')))
example:U7:=∀ y∈scope.names,(y.2≠.cell)
example:WE:=I3.kept (t':=s2.toks) zo
example:zai:=(ss.map rent).sum
example:VO:=by wp_walk using (Y4 hl),hI;exact(c9 h)
example:Vj:=∀ x∈wu,((wL+(rent aN))<=cU)
example:W4:=by unfold upd1 at hx;split at hx
example:Vb:=["_law_picture", "_law_cell_here"]
example:zaz a:=∃ s q,(a/\((y=cu)/\xE))
example:zck a:=∀ t,((gM,ho t)->a)
example:zah b c:=T.Nodup->((∀ a∈T,b)->c)
example:Vz a:=(scope.names.lookup y.1)=(some a)
example:zdY:=.int (lo+i)
example:zeF a:=s5 _ _ (s4 _ _ a)
example:zeE a:=s8 _ _ (s7 _ _ a)
example:zmy:=(s2.heap.get? d)=(some ob)
example:zdX:=adv mask nS
example:Xe a:=(iO,Q,ty Z H (fun y H1=>a))
example:zdW:=b∈([]:ao)
example:zde:=PtOk dP im p
example:Vu:=(ax,lp,.lst (qs.map V.ref))
example:X2:=(fM 0 (Gi (IN 8)))
example:zdd:=putK kvs k y
example:Xj:=srt'.filter (xa1 pt)
example:zaF a b:=kF _ _ (Zx a) (s910 _ _ b)
example:Xt a:=by subst z;ext bO a mu mu
example:zdV:=putF f y fs
example:zbi:=below t.place j
example:VF:=xak (r:=(rIxL K)) xax bD xm iD
example:zaE a b:=PE X (.Constant a j pos) b
example:Xx:=(jq,bs.getD i true)
example:WD a b:=PI X tg (K4,.Name "range" p,a) b
example:zdc:=.str name tk
example:zbh:=GOk zs.length g
example:Xs a b c:=mayB a (strP cs ws b) (strS ws c)
example:WY:=kvs++[(xt cF,.int mq)]
example:zbg:=(iB H2 p iX LP)
example:VZ:=["self", "name", "x", "y"]
example:WC:=.go own rent asked crowd
example:WX:=∀ s,(Bv->((rent s)=0))
example:Vl:=p.map (fun i=>(vs.getD i .none))
example:zcR a:=pS 2 sc_m.nd (pF a)
example:U3:=h1.push (eP,"list",.seq ((qp).toArray))
example:zdb:=IsPart vl lo
example:zda:=IsPart vu hi
example:Vy a:=∃ o,(a/\(∀ v,(o.data≠(.cell v))))
example:zcZ:=(hashAt i)=h
example:X7 a:=congrArg List.sum (JD a)
example:W3:=by exact (ih p (by rw[e];simp[k]))
example:Xw a b:=(findIn K jd a)=(some (Bc b))
example:zaT a:=l.map (fun n=>(k n,a))
example:zag:=mayB ss aK p'.2
example:zaf:=lvL w x2 false r1
example:VY:=tupleKind (xaj X.prog X.w)
example:VN a:=by obtain⟨h1,h2⟩:=(Zi.mp a);rw[(JC h1),h2]
example:V4:=fun f vs=>(PySem.call f vs)
example:UU a:=by refine(gU s1.heap.objs.size [s1.heap.objs.size] _ _ a)
example:UT a:=by refine(gU s2.heap.objs.size [s2.heap.objs.size] _ _ a)
example:zbQ:=canO w ss p p'
example:WW:=k b o (aC,hc (cM z)) e
example:zbP:=(bC v H I r h)
example:zcv a b:=xdz (v0 a) (xc7 (v0 b))
example:W2 a:=by have hb:(CZ g a):=(beq_iff_eq.mpr h)
example:X1:=(asked t)=(some n)
example:X0:=(clsV c)=(some cv)
example:zmx a:=by have hsz:(es.size=a):=(by rw[<- hp.length];simp)
example:zeD:=by ext bB hp hp' hp'
example:U6:=(iY,v,0,(v+gV).toNat,min v.toNat n)
example:UK:=Q bQ (d4,l,.lst (ts.map (fun t=>(.ref t.2))))
example:zbO:=(bH,(oy p'),c)
example:zbN a b:=by show(mJ,a,_,_,rfl,n6 b ?_ ?_)
example:zbM:=putK kvs aK bW
example:VM a:=∀ j,((j<n)->(sP,a,ky j,ad j))
example:WM:=(cm,(Zr d) == Jl,_,_)
example:zdJ a:=fun j y p hy hp=>a
example:Vd:=by obtain⟨a1,a2⟩:=a;obtain⟨b1,b2⟩:=b
example:zaS:=by show(Aa,e2,ob,g,aW ex)
example:VX:=∃ u,((h'.get? e)=(some u))
example:zcu:=(2*ou)-(2*eI)
example:VI:=(prs.map (fun p=>bH))=names
example:zbf a b:=(b8 a T.c_x T.n_a8 rfl b)
example:XZ a b:=Zc (Jk a b (fun _ _ h'=>h'))
example:zct:=(aI i hi hi2)
example:VE:=.frz ob (.dT (LnT (lens b)))
example:zbe a b:=(n<=j)->((a[j]?)=(b[j]?))
example:Vt:=(ax,lr,.lst (ws.map V.int))
example:zaD:=AkD H d al asked
example:XY:=(nI,h b (Zj _ hb))
example:zcY:=xaz ps srt n
example:zdU:=Itrs lo d n
example:V3 a b:=by ext qC;show(iG,ite2 (fun c=>a) (fun c=>b))
example:zbd:=fun k h1 h2=>aa
example:UV:=D4/\(Gf/\(∃ vs,(jW/\(h.DictOf tV a vs))))
example:VD:=fun tk=>(cN,rM,H,I.tok tk,q)
example:U5:=by rw[typeLookup_type,Wb];kernel_rfl
example:zby a:=by have:=a;ext cE e this
example:zbc:=(vI ou)-(vI eI)
example:Vc a:=∀(s:Shared) (u:Value),(zey [u] [(a,u)])
example:Uh a:=∀(cdv:Value) (A:Around) (outer:lS) (s:Shared) (H:Hp) (vs:ag) (Q:VK) (E:XK),((zaV (WJ jg cdv))->a)
example:XT a:=by simp only[shp,Zo,Qz.injEq] at a
example:VC:=∃ ks' b,((y=dX)/\(o8 ks' b))
example:VW:=["pairs", "name", "other"]
example:UJ:=["_law_points", "_law_seats", "_law_cell_here"]
example:UQ:=["_law_number", "_law_many", "_law_double"]
example:WV a b:=∃ tk,((mg a)=(some (.int b tk)))
example:UZ a:=by unfold picF;rw[Z5,(He a "width")];show ((Jm (eO a) zmz)=_)
example:V8:=by obtain ⟨_,k,ek⟩:=(key s' a' e)
example:zcj a:=V.int (Geo.mrk ns a)
example:zcX:=TrL H trs ts
example:zcW:=(bu N ps st)
example:zbb:=.Tuple es k pos
example:zbx a:=(qZ hp2 T.n_a6 lkO a)
example:Xv:=ps.map (strP cs rs)
example:WU:=(e=x)\/(ax,e,.own x)
example:zba:=PrOk ps dP im q
example:Vs a b:=[.str i8,.str i9,.ref qc,.int a,.int b]
example:zaZ:=nps nm (Zm hnm)
example:UM a:=by ext tQ b a qy;exact (I1.fpOk (Zl _) (I1.hok.fresh (Zl _)))
example:zay a:=(a:PE _ _ (tFld K _ _))
example:WT:=live_mem jk.1 jk.2
example:Vx:=by ext sR;ext bF o1 e1 c1 d1 st;ext Vq
example:zaC:=(uY,xn<xf,xf<xn)
example:U2:=["self", "askers", "asked_by", "gap"]
example:zae:=Ub++((j,h,x)::Ua)
example:zcs:=⟨0,0,0,0⟩
example:zbL:=Yc rfl (Ws ?_)
example:Vf:=by ext wU;ext Uz;show(af,u,hv,ru,rel.get hx)
example:zcr:=(my p0 hp0).1
example:zpu:=(Cd iX sa.1 sa.2)
example:UR:=by ext qI i hi e;rw[ZT] at hi;injection e with e1 e2
example:zcQ a:=by obtain⟨j,hj,ej⟩:=(ZI a)
example:Xr a:=by ext Fa rx r;show(cQ,u=(Zr a),rx)
example:WS a b:=(Pg,fun a' x'=>((P a' x')\/a),b)
example:Va:=["picture", "name", "side", "row"]
example:zbw:=by show(af,od,J,hl,I.look)
example:zci:=by show(af,m,hn,hl,I.loc)
example:XX:=cells w xn yn b rn
example:XW:=cells w xf yf b rf
example:zdI a:=fun c u n1 n2 e=>a
example:UY:=items.toList.drop (sIx items.size 0 lo)
example:Xd a:=∀ C ex s H pn,(PE a elt te)
example:W1 a:=∀ C ex s H pn,(PIf a ifs tc)
example:zaY:=hm b _ q (aC z)
example:XR a:=(dA,_,_,fun c u _ e=>e,a)
example:WR:=(wM (vc s) (XN wu wL))
example:Vr a:=by have m1:(p1∈a):=(jX e);have m2:(p2∈a):=(jX e)
example:Ve a b c:=by have e3:((Q1 (jr x.snd) (arrOf a))=b):=c;simp only[e3]
example:zcP a:=Hand room a so ho s
example:Xu a b:=xc6 (fun p:Pt=>a) b il z' hz'
example:UW:=by show(gQ,σ',H',I,q,h);exact(bw σ' H' I.unwish q)
example:zfL a:=Kp.Rch (xd9 a ho) (.go (setI own nm 0) rent fb [nm]) (.hand own' rent' asked s)
example:zcO a:=by obtain⟨c,dct,a,sl⟩:=o
example:zaX a b:=by refine (QN hbase hline (thn a b))
example:Xi a b:=by refine(bC,.dT [],a,Ca,av b dps,?_)
example:zbK a:=fun c v hc a=>(k c v ?_ a)
example:zdH a:=(zqY,none,a,c',#[])
example:Xh:=seqObj "list" (#[]) eX
example:zeC a:=.cons rfl gs gs a
example:WL:=[(LR i8 i9),(LR i9 i8)]
example:Uv:={ s3 with heap:=s3.heap.push (eP,"slice",.fields (#[vl,vu,.none])) }
example:zcN:=by intro so2 ho2 cs2 r2
example:zma a:=∀ k,((a<=k)->((k<xs.size)->(j<=zeA)))
example:UA:=["_law_picture", "_law_other", "_law_rows", "_law_double"]
example:zbJ a b:=xg8 (v:=(.int a)) rfl b gs
example:Uu:=∀ nm∈names,(∀ q,((∃ kvs,((ES dl)/\(Ct=(some cu))))->(q≠da)))
example:UH a:=∀(i:Nat) (u:Addr),((aF us u)->(∃ tr,((aF trs tr)/\a)))
example:XV:=s _ _ (ne_f x e) x
example:zdG a:=(au P1 P2 P3 P4 a)
example:zgZ a:=(kR,u9,a,u8,tSeq t8 u9,(kR,u7,tSeq t7 u8,u6,tSeq t6 u7,Uy))
example:U9:=kvs.map (fun kv=>(kV kv.1,kv.2))
example:VL:=by rw[Zf,e2] at hp;ext Aa hp q e1 e3
example:zcM a:=by show(je,hv',hv _ a,Zf,hv')
example:zbv a:=⟨tW,c,_,rfl,aa,a⟩
example:WB:=sliceBounds lo hi none n
example:zpt:=A++(p1::(B++(p2::C)))
example:WQ:=(BD,cel pw P1,pw,P2)
example:Xq a:=⟨nm,rfl,hn,true,rfl,a⟩
example:UL a c:=(cN,eZ,_,I.laid (t':=s.toks) (o:=a) (wK ob Gj) bp ?_,c)
example:zcV:=(zbu y r)
example:VB:=Geo.cells pw p2.x p2.y b2 r2
example:UO:=["pairs", "name", "other", "seats", "giver"]
example:zaW:=f T9 (.int j u)
example:Vw a:=(nE a p7 [.str FW,.str FV,.ref q6])
example:VU a b:=(bE,iQ m y a,n<=9,m<=9,rg b)
example:UN:=["picture", "names", "pairs", "own", "rent"]
example:Vi:=s.heap.IsSliceOf sl vl vu .none
example:zch a:=by obtain⟨z,its,n,r,e⟩:=a
example:UI:=∀ x,((foldedSetIterable iter X.env x)=(pure x))
example:Vp:=by simp only[Qm,List.all_nil,ZM,QB] at e
example:UE a:=∃ j e,(((t.slot a)=(.live j))/\((b9 L e)/\((Gh=js)->zkK)))
example:Ur:=["_law_cell_here", "_law_most", "_law_wide", "_law_high", "_law_free"]
example:Uo:=["_law_picture", "_law_other", "_law_pairs", "_law_rows", "_law_double"]
example:Ut:=["_law_points", "_law_seats", "_law_name", "_law_side", "_law_row"]
example:U4 a:=fun _ _ _ _ _=>(xr (r:=(xkh K)) xi6 (xad pQ) a)
example:VH a b c:=by rintro i Z a _ (⟨_,_,rfl,b,_⟩:83);ext wA c
example:Ux a:=∃ q qs s l,(jI y cu (eR q [.ref qs,.int l]) (qD qs s) (aF a (s,l)))
example:Uk a:=(cJ,((((a).length)+(([]:List Keyword).length))+(Rn,([]:List Keyword).isEmpty))<30)
example:Um:=by rw[(mh,putF f v T8,(nh,k,f,(k,v)::r,(k,x)::(putF f v r)),rfl)];by_cases hk:(k=f)
example:Ui:=["_law_picture", "_law_points", "_law_seats", "_law_columns", "_law_rows", "_law_double"]
example:WO:=by refine (Yg (xgt I hg hm ?_ hdb))
example:WA:=below.go xs j fuel lo hi
example:zlC:=[Ef,DE,OQ,("rent",.ref d_r)]
example:Uj:=by show(zjp,by rw[Za,Za,h.len]);ext qJ q hq h1;ext qJ p hp h2;show(af,p',hp',e',h.get hq)
example:UP a b:=by refine (xos lk hcd S len a);ext af t h q b;show(aE,t,h.nox,q)
example:Uq a:=I2.write (t':=s2.toks) (x:=d) (e:=d) BT gT (fun b u _ q=>q) (wE g2) ⟨g2,a⟩
example:zjo:=#[.none,EQ,eZ,(rawInt 0),.none,.none]
example:Us a:=I1.write (t':=s1.toks) (x:=d) (e:=d) BT gT (fun b u _ q=>q) (wE g) ⟨g,a⟩
example:U8 a b:=by show(bF,o2,g2,c2,d2,id hit');ext iG a;ext zM gJ b
example:Ug b:=codeAny b callerA (.call (.ref fa) (nU fF)) (mG,r,(r=(.ok (.ret (.bool true))))/\((OldK s₁.heap s'.heap)/\((s'.os=s₁.os)/\O7))) s₁
example:zmw d:=∃(a:A0) (b:A1) (c:A2),(gq/\(i6/\d))
example:zlZ e:=∃(a:A0) (b:A1) (c:A2) (d:A3),(gm/\e)
example:zqW a:={ s with heap:=h'',toks:=a }
example:zqi:=by simpa using I.len
example:zqh:={ s with heap:=h'' }
example:ziS a:=∀(pins:bc) (s:Shared) (Z:St) (H:Hp) (Q:VK),a
example:zqg a:=∃(o:Obj) (its:gL) (n:Nat),a
example:zqf a b:=PySem.W.methodCall_KW (pl:=pl) a b
example:zkd a:=∀(w:World) (mg:fK) (fa:Addr) (h:Heap),a
example:zqe:={ s1 with heap:=V2 }
example:zoJ a:=∀(j:Nat) (x y:DV),(zeP ys y a)
example:zkJ:=by unfold absI;split<;>split<;>split<;>omega
example:zna:=∀ a∈T,((so a).isSome)
example:zoi a:=∀(j:Nat) (s:Seat),((b9 al s)->a)
example:zoI:=.ref s3.heap.objs.size
example:zps:=(bA its.toArray.size)
example:zlY:=PySem.F.args_dict_items_1 _
example:zqV:=List.reverse_perm _
example:zoh:=(fC,by simpa using he')
example:zqd:=(h1.get? b)=(some o)
example:zlg:=(X.s₀.heap.get? b)=(some o)
example:zqU:=of_decide_eq_true e
example:zqc:=sc.isCoroutine=false
example:zqb:=sc.isGenerator=false
example:zlB:=PySem.F.args_tuple_add_2 _ _
example:zlX:=PySem.F.args_dict_get_2 _ _
example:zlf:=PySem.F.args_dict_get_3 _ _ _
example:zpr:=by refine (gx ?_);refine (wq ?_);intros
example:zlW:=(H1 s1.heap.objs.size)=none
example:zjn:=Builtin.SmallTypes.nextOf (.ref it)
example:zlV:=(zq x (eO "__classdict__"))
example:zpq:=by refine (gn ?_);refine (fo ?_);intros
example:zqa:=fun t=>(cJ (Hw t s))
example:zpZ:=scope.names.lookup y
example:zog:=tr5.keep (Same.tups s6)
example:zof:=pr5.keep (Same.tups s6)
example:znC:=I3.kept (t':=s1.toks) zo
example:zoH a:=(scope.names.lookup y)=(some a)
example:zoe:=pr7.keep (Same.tups s9)
example:zod:=ts7.keep (Same.tups s9)
example:zoc:=sl8.keep (Same.tups s9)
example:znB:=(s.heap.get? a)=(some o)
example:zpp:=(K.lookup a)=(some o)
example:zjm:=(H' l)=(some (.lst (rs.map V.ref)))
example:zob:=ts6.keep (Same.tups s7)
example:znA:=pr6'.keep (Same.tups s7)
example:zpo:=(Kg s.heap.objs.size)
example:zmv:=(wM,vc s,s∈(room n))
example:zgy:=(pW,(s.heap.get? b)=(some u),(h'.get? b)=(some u))
example:ziR:=s.heap.IsKeyIter it d i kvs.length ep
example:zlA:=h.push (eP,"dict",.dict (#[]))
example:zpn a:=X.s₀.heap.FunFrames X.base a
example:zqT:=standAt apos.atName
example:zjl:=Qj "BaseException.__getattribute__"
example:zlz:=Qj "object.__getattribute__"
example:zqS:=xs.length=ys.length
example:zqR:=xs.length=ds.length
example:zmu:=(of_decide_eq_true e).symm
example:zpY:=(cans w ss sC).head?
example:zmZ:=(bootBuiltins x)=(some u)
example:zkc:=(yD,((X.A.units+1)+m)+n,cLine)
example:zpm:=Yk C s.heap.objs.size
example:znz:=(H' do_)=(some (.dT []))
example:zny:=(H6 do_)=(some (.dT []))
example:zpl:=(rnd mask h (13+m)).1
example:zpX:=by subst h1;rw[cp];by_cases h2:(x=s)
example:zmY:=fun _ s'=>(IM,Q σ' H')
example:zmt:=(dh b ps ⟨#[],(jX e)⟩)
example:zqQ:=(re,ok z (Zj _ hz))
example:zoG:=ZZ I.ok.bsz I.ok.above
example:zoF:=(A9 "__init__" (aT f))
example:zoE:=by simp[valueAt,Yl,e']
example:zpW:=by simp[atKey,Yl,e']
example:zqP:=b.hd j s (og hj ej)
example:zqO:=by simp only [h,if_false]<;>omega
example:zqN:=by ext sG;show(bm,J7 hod hdd ?_)
example:zjH:=(Et Rf (ax,d,.frz ob (.dT kvs)))
example:zoa:=by refine (h 0 r1 LO zdD)<;>simp<;>omega
example:zlU:=by refine (h (w+1) r1 LO zdD)<;>simp<;>omega
example:zqM:=keyKind' vs.toArray
example:zpk:=∀ n∈tF,(∃ c,GC)
example:zle:=Nat.mod_lt _ (Nat.succ_pos _)
example:znZ:=of_decide_eq_true k.1
example:zqL:=s.heap.IsList t its
example:znx:=if_pos (h1.symm.trans e)
example:zpV a:=∀ c u,(((H11 c)=(some u))->a)
example:zpj:=s.heap.IsList l items
example:zly:=fr.map (fun i=>((Z[i]?).join))
example:zhk:=fun σ' H3=>(tc σ' H3 (fun b H4=>(cm,b,zew,M H4)))
example:znY:=⟨H,jz,(av,xip r,q)⟩
example:znw:=s.heap.Ns X.env.locals m
example:zpU:=isTrue e X.env whole
example:zlx a:=by refine (Zk ⟨QC F.plain_set_update_loop _,a⟩)
example:zkI:=r.drop (HT.sIx xs.length 0 lo)
example:zqK:=Kp.tog room (nm::S)
example:zpi:=by cases rr;ext kH r;ext ia t' r'
example:zpT:=by simp at h1 h2;subst h1;subst h2
example:zkH:=.hand so ho (upd1 asked s a) s
example:zqJ:=.Subscript o i pos'
example:zhV:=(eC,qd,(H1 c)=(some u),(H4 c)=(some u))
example:zms:=f aH y (by simpa using hy)
example:zlT:=∀ p∈prs,((aK∈ps)/\zaw)
example:zgV:=(mT,e,(h.get? b)=(some u),(h'.get? b)=(some u))
example:zpS a:=by refine (wpAny_notIn_of CN a dd.mapOf ?_)
example:zhn:=fun _ _ _ _ _ st h=>(wpAny_pyIter_rangeiter st h)
example:zqI:=qq H3 (s1.trans s3)
example:zmr:=s.heap.DictAt knd d kvs ep
example:znv a b:=by show(rL,a,YN "list_reverseiterator",YN b,ap)
example:znX:=InstAt s.heap x ox C od
example:zlS a:=xj2 hu I2 g ry (fun w' s3 I3 rw'=>a)
example:zjk:=qs.map (fun q=>(V.ref q,V.bl true))
example:zjO:=Builtin.«list.sort» { pos:=fF }
example:zpR:=Kp.subs keep.reverse
example:znu:=by rw[hj];simpa using ew
example:zpQ a:=by rw[xcn];unfold Kp.upd1;by_cases zc:(z=a)
example:zoD:=sysModules<h.objs.size
example:zkb:=∃ sl,(Pf { o with slots:=sl })
example:znW a:=∀ s',((iz s')->(Q (.bool a) s'))
example:zfI a:=∀(pins:bc) (s:Shared) (Z:St) (H:Hp) (x y:V) (v u:Value) (Q:VK),(bb aq tJ gS a)
example:zpP a:=∀{H':Hp},(HV->(∀ b∈fp,a))
example:zka:=∀ y∈sc.names,(y.2≠.free)
example:zmq:=(vc s)↔((ho s)=(some n))
example:znt a:=∀(w:World) (h:Heap),((YP w h)->a)
example:zhH a:=∀(kV doc pm:Value) (an:ig) (cdv ct:Value) (us:aQ),a
example:zqH:=by unfold clsIn at hc;split at hc
example:zmX a c d e:=∃ i xs H',(bE,Inv a [] NY H' c,tn i d,HV,e)
example:zmW:=∀ x∈es',((shp aN)=sh)
example:zlR a:=∀(i:Nat) (x:V) (H2:Hp),(vx->(m8->a))
example:zie:=∀(i:Nat) (a:α),((aF as a)->((p i)=(q a)))
example:zhA a:=by unfold Builtin.SmallTypes.nextOf;ext bm a;ext sG;ext lY;ext lY
example:zjZ:=∀ p∈prs,(bW∈(xal lens bH))
example:zqG:=by unfold Kp.upd1 at e;split at e
example:zlw a b c:=∀ H' l qs cs so ho,(cL->(jD->(lT Mr a b c bQ)))
example:zoC:=∃ pt∈ps,(pt.nm=nm)
example:zph:=nb >>> ((0+cG).toNat)
example:znV a c:=((s₁.heap.get? b)=(some o))->(a->c)
example:zmV:=(dI,dd.mapOf,h _ _ jz ?_)
example:zks a:=(az,by rw[a];exact (beq_self_eq_true _))
example:zmp:=by ext cZ;rw[(az,by unfold btw;omega)]
example:znU a:=(eG,I.turnedL (t':=s.toks) a hf)
example:zpg:=(t.fits es.size)=true
example:zlv:=(s₁.heap.get? a)=(some MV)
example:zns:=es.map (fun x=>(Zr (f x)))
example:znT:=(d4 s.heap.objs.size e)
example:zpO:=(dQ (dE r.length z))
example:zjG:=decide_eq_false (fun z=>(nomatch z))
example:znS:=es.any (fun z=>(dEq z d))
example:zlu:=fun u hu'=>(hall u (Zj _ hu'))
example:zqF a:=(iO,Q,ta Z H (fun vs H1=>a))
example:zpf:=(kT "width" "height")
example:znr:=(kT "askers" "asked_by")
example:znq:=ws.map (fun p=>(V.ref aK))
example:zpe:=(fS,b0 _ _ (eK hd) e)
example:zkr a:=by rw[List.contains_cons,a,Bool.or_true]
example:zpN:=fun n s=>⟨gb,gb⟩
example:zld a:=by show(bm,wpAny_eqIsQuiet_tuple a ?_);ext su QD
example:zqE:=.Attribute o f pos'
example:zjF a:=(xL,xs,xY/\(∀ p,(((H1 p)=none)->(Q cq a))))
example:zhG:=(wO,.int ys.length,jz,⟨Ud,(cK Z7 hlen)⟩)
example:zpd:=(yt,4,xad (fT 6 7))
example:zlc:=by refine (Zk (dQ,QC F.xl_plain_dict_loop _))
example:zmU:=l.find? (fun c=>(ld c m))
example:zqD a b:=(bu a (kT "askers" "asked_by") b)
example:zpc:=Z1 (fD,pt.x,0+(-1))
example:znR:=Z1 (fD,(pw+1)+1,pt.x)
example:zmo:=(eR q (FE,aW bW,(eI).2))
example:zkq:=(eR q (FE,zY aK,(bS aK).2))
example:zpb:=by rw[(aM z1)] at hm;by_cases z2:yg
example:zmn:=wpAny_setField ho hd ah ?_
example:ziM a:=by rw[(seqIndex_neg aa a)] at h1;rw[Z7,<- hl];exact (ZE.inj h1)
example:zlb:=ts0.map (fun t=>(t.1,t.2,Jl))
example:zjE:=decide_eq_false (fun q=>(nomatch q))
example:zhj:=by show(tQ,i,xs.length,aa);show(cH,⟨⟨xs,q,bp⟩,hd Z H p⟩)
example:zmT a b:=by obtain⟨⟨k,x⟩,a⟩:(∃ y,(aF kvs y)):=(fC b)
example:zoB a:=by subst e';ext yA r a;have hlen:=r.length
example:zlt:=xs[((cG+((bA m)*1)).toNat)]?
example:znQ:=xs.any (fun y=>(eqV y x))
example:zmm:=(ES p)/\(k=(! kvs.isEmpty))
example:zir:=(zjP,"dict_valueiterator",#[dF,tN,OP,yQ])
example:zoA:=(gK 4 xby.nd 5)
example:zpa:=by ext Fa ru r;show(cQ,u=(Zr d),ru)
example:zpM a:=by obtain ⟨its,r',pl,hz⟩:63:=a;ext zcU
example:zoz a:=opI (fun _ _ _ _ _ _ _ hc q=>a)
example:znp:=s3.toks+(([]:A4).length)
example:zjN:=∀ s a,(oH->(XN,lens a,own a))
example:zlQ:=(eP,"enumerate",.fields zjo)
example:zlP:=(q0=true)->(A.handled=none)
example:zla:=ps.find? (fun p=>(cC p.nm n))
example:zls a:=(n6 (aV,s3 _ _ (s1 _ _ hq0)) rfl a)
example:zoZ:=(dN,H,p,xs.set j v)
example:zkG:=(yD,((A.units+1)+n)+m,cLine)
example:zkp:=∀ j,((j<n)->(o8,ky j,ad j))
example:znP:=ss6.map (fun s=>(s,kd))
example:zpL:=fun n s z=>(nomatch z)
example:zhF a b:=by refine (Call_ (xcs I hg hm (PyProof.Rows.Boot.«enumerate») (Sm a b)))
example:ziQ b:=spliced ((false,(jx (Au b)))::(backTo pos []))
example:zjb:=(qs.drop tn)++((qs.take tn).reverse)
example:zoY:=if (i<0) then (-i) else i
example:ziq:=∀ vs Z H Q,((t vs Z H Q)->(t vs Z H Mf))
example:zoy:=by exact (jB,"both",.inr (.inr rfl))
example:zox:=.inl ⟨k1,.inl hk1⟩
example:zjM:=(zac,seqObj "list" vs.toArray n)
example:zgL:=by refine (Qt F.xl_entry_dict_loop ?_);rw[(Qq F.xl_plain_dict_loop _)]
example:zow:=(collect (.ref d))>>=_
example:zov:=(gE (zp qs.length 13))
example:zko b:=PI X r8 (K4,.Name "enumerate" p,[a]) b
example:zqC:=by rw[ZB] at nd;have hx:=(sub x gD)
example:zkZ:=call (.type "enumerate") [dF]
example:zml:=lenI b6 pt.x pt.y s.1 dS
example:zjY:=holding [ov] (getMethod ov m pl)
example:zlO a b:=by rw[Z5,(He "opened" a)];show ((Jm (eO "opened") b)=_)
example:zno:=by exact (.cons (s _ _ h) (s _ _ hq) ih)
example:zja a:=by ext IP;rw[xgd,a,Qi.injEq];unfold btw at hb;constructor
example:zhU a:=(U0,(H1 d)=(some (.dK kvs)),∀ ob,(Ak->(R a oW)))
example:zhT a:=(U0,(H1 d)=(some (.dT kvs)),∀ ob,(Ak->(R a Ar)))
example:zkY:=by obtain⟨r1,r2⟩:=r;dsimp only at r1 r2
example:znn:=(acr w x2 b2)+(eW y2 r2)
example:ziL:=by ext sG;show(bm,Jt hod hdd ?_);show(zmx,kvs.length)
example:ziA:=(cV y.length)/\(k=((bA y.length) != 0))
example:zjj:=(cV y.size)/\(k=((bA y.size) != 0))
example:zoX:=(eW yn rn)+(eW yf rf)
example:zoW:=(eW yn rf)+(eW yf rn)
example:zoV:=(xa9 w p1)+(xa9 w p2)
example:zoU:=(xa9 w II)+(xa9 w IJ)
example:zgx a:=by have hz:xY:=(dE,YJ rel,z);show(cA,hl,(cV,(yh).length),(d7,xbp kvs k v),a)
example:zfK a:=by have hz:(cV vs.length):=(dE rel.length z);show(cA,hl,(cV,(yh).length),(d7,xbp kvs k v),a)
example:znm:=z.sameBut hs (cne y c e)
example:zpK:=by rwa [(xg nl)] at hl
example:zkF:=ts.Perm (es'.map (jr (aN,cF)))
example:znl:=Zt.mp (pm.mem_iff.mp he)
example:zou:=(fs.lookup f)=(some v)
example:zmk:=.ins C s.heap.objs.size []
example:zjX:=ta Z H (fun x H1=>(zbF,R x y H2))
example:zhE:=by rw[I.ok.glob];exact (I.mod.glob.keeps I.bk)
example:zmj a:=(PySem.W.takerIn K C a)=(some none)
example:zmS:=by refine (ZZ (Yj _ _) ?_);show(zeO,pok.le)
example:zkX:=xc5 lens' names (lB,φ (f n))
example:zot:=Q1 (jq,vs.getD i Jl) p
example:zjL a b c:=(kO,PW.pt (xdz a (xc7 (PW.pt b))),(BC,xa xbu c))
example:zjW:=(eP,"list",.seq its'.toArray n')
example:zqB:=(BD,cel w p,w,p')
example:zhD:=(A9 "__setattr__" (Bc "object.__setattr__"))
example:zgf:=(CB,(g (kas_rev p 0 k) i)=(if (i<k) then (g p LL) else (g p i)))
example:zqA:=by rw [(Jh.mpr c2),JV] at z;exact z
example:zmi a:=(jI,y,cB,a,(wD,atI xs i),Q v H)
example:znk a:=by exact(dD qa 0 yB (vk a (lE jV (b5 c hc))))
example:zpJ:=vs=[aA,vT,rA,.int r]
example:zjD a:=wpAny_loadName_cell I.ok.kind hk hc hcell a
example:zjC:=fun i y _=>(∃ p,((aF ps p)/\(y=BU)))
example:zmR:=(xZ (aC (cC z.nm bH)) aK)
example:zpI:=(nh,g,f,some u,mA g)
example:zqz:=(aC,n3 _ vw _ ah z)
example:zhC:=(D3 (dA dp kvs hk (c9 (DK (d7 pl.len) ?_))))
example:zgs b:=P (.done (.ret .none)) { s with heap:=sortedHeap s.heap a vs b }
example:zhr:=∀ d,((od=(some d))->(∃ fs,(ax,d,XD d fs)))
example:zlr:=Kp.Rch sf zaR (.out (nm::hs))
example:zjB:=fun v s1 h1=>(thn h1 (aI itv s2 h2))
example:zfU:=∃ d ob u,(((H2 d)=(some (.frz ob u)))/\(Ak/\(Q v (upd H2 d u))))
example:zfT:=∃ so2 ho2,((Kp.Mt (xal (x8 w ps srt)) so2 ho2)/\(∀ z∈lR,zdz))
example:zfH:=by have I2:(cT H1 Np):=Ng;generalize hs2:(Np:Shared)=s2 at I2;have g2:zmy:=(dE hs2 CQ)
example:zpH a:=⟨⟨old,k e ah _ he⟩,a⟩
example:zhi a:=(Gn ps.length)->((bindArgs a (nU us))=(pure (ps.zip us)))
example:zlN:=(es'.getD j ([],0,.none)).1
example:zgY:=wpAny_letOwnedTupleGo_items hout (aI h'' hit' hsb)
example:zqy c:=∀(a:A0) (b:A1),(gy->(jE->c))
example:zmQ:=(vJ jU)=⟨f8,Ac,f8,AL⟩
example:zjA:=(SqL X.K H p ys)\/(SqT X.K H p ys)
example:znj:=by rw[hk];exact(dI I' q)
example:zmh:=by rw[e1,e2];simpa using c
example:zio a:=fun obj s₁=>((obj=eZ)/\(s₁={ s with heap:=a }))
example:zkn b:=show (s.heap.IsTuple a its.toArray) from b
example:zos a b c d:=show (rF,a<=b,c) from (decide_eq_decide.mpr d)
example:zlq:=∀ b o u,((ax b K1)->(E6 K1))
example:znO:=∃ c,((aF cs c)/\(y=yB))
example:zid a:=by have:=a;unfold xbx;revert this;cases (o.getD (f8+d) uf)<;>simp
example:zpG a:=by unfold frs;ext cY Jj hf a
example:zni:=[("holder_of",V.ref d2)]
example:zkm:=((asked aN).isNone)&&(xes f GP)
example:znN:=fun p hp _=>((no p hp).2)
example:zgq a:=∀(pins:bc) (s:Shared) (Z:St) (H:Hp) (D:Ends),(aq->((t D Z H)->a))
example:zfJ a:=∀(i:Nat) (pins:bc) (s:Shared) (Z:St) (H:Hp) (E:bj),(bb,aq,MR,tn i s.heap,a)
example:zmP:=∃ xs,(mW/\(xs.length<=i))
example:zoT:=fun v _=>(v=(.bl true))
example:zor:=∀ h',(zbs->(Q none gJ))
example:zhS a:=show (t.1∈(s2.map xt)) by rw[<- e2];exact (Ze.mpr a)
example:zlp a b:=by obtain ⟨_,_,⟨a,_,dd⟩⟩:43:=b;exact dd.typeIs
example:zpF a:=by rename_i hm;exact ((hm _ (pr _ a)).elim)
example:zpE a b:=by rintro ⟨rfl,h⟩;show(fE,fD a b,qM ZT)
example:zpD a b:=∀(i:Nat) q ks,(BS->((aF a ks)->b))
example:zkW:=by rename_i h1;rw[h1,<- (ZE.inj hx)];exact ra
example:ziK:=["_law_name", "_law_side", "_law_row"]
example:zic:=∀ p∈ws,((H2 aK)=(some (.tup [ij,eI])))
example:zhh:=∀ s∈ss,(∀ t∈ss,(((φ s)=(φ t))->(s=t)))
example:zgF a b c:=∀{ss:a}{ys:ag},((wa ss.length)->(b->(∃ rs:ao,((ys=(rs.map V.ref))/\c))))
example:zkE a:=∀ p∈prs,(∃ k,((k<a)/\(dO ps k aK)))
example:zgU a b c:=by let Pv (i:Nat) (Z:L2.St) (H2:Hp):Prop:=a;refine (xhs (xs:=Ie) (Pv:=Pv) b c ?_ ?_)
example:zpC:=∀ x∈L,(qD aN cF)
example:zhR:=∀ s∈srt,(∀ t∈srt,((Hw s t)->(s=t)))
example:zqx:=(N.take P.length)=P
example:zmg a:=(a<=xs.size)/\((∀ k,((k<a)->(zeA<j)))/\(zma a))
example:zjz:=by show(aE,13+m,by unfold turns;omega,cK xi1 e)
example:zlo:=by refine (List.ext_getElem ah (aI i h1 h2))
example:zln a:=s14 _ _ (kk _ _ (s11 _ _ (s9 _ _ a)))
example:znh:=by rw[l];exact (rel.val k)
example:zgK:=by show(kH,BI (rR CO));show(ia,t',show (∃ t',(v=(YQ j t'))) from ry)
example:zoq:=fun k=>(Ze.mpr (b5 s k))
example:zjK a b:=by show(iG,DK a ?_);refine(lX,ite2 (bZ c) (fun c=>(iteF b)))
example:zkl:=(x'.2-(own a'))-(rent x'.1)
example:zpB:=[.int Dk,CT,.ref qk]
example:zpA:=(Iq "seating" cq zlC)
example:zqw a b:=ZJ (by show(wc,a,pic.len):b<13) ap
example:zmO a b:=by ext lY;show a;rw[<- Array.forIn_toList];refine b
example:zmN a:=by refine (wpAny_execs_cons (thn a (aI f s1 q)))
example:zlM:=(kvs.length+L.length)<=1000
example:zng a:=(wK ps ⟨#[],by rw[a,q];simp⟩)
example:zmM:=Kp.kstep (xal lens) so ho
example:zpz:=ZZ (xhe xs lo hi) hz
example:zlm:=(l.take i)++(c::(l.drop aH))
example:znf:=(uV (V.ref aN,V.int mq))
example:zhf:=SetT knd h2 s.heap.objs.size (xbf ky ad its.size)
example:zoS:=(es.getD jk.2 KD).1
example:zmL a b c:=⟨let ⟨dx,e⟩:=g.ins; a,b,g.ho.keep c⟩
example:zqv:=Mod X.K X.mg X.base
example:zqu:=storeName X.env x u
example:znM:=letOwnedTupleGo tg qX u
example:zkk:=fun h' tk k=>(wO,_,I.kept k,?_)
example:zmK:=by rw[Za,pr.len,List.drop_length] at ea
example:zqt:=.hand zdA zdB asked l
example:zqs:=by ext FF lo hi;ext aE hs h1 h2
example:zne a:=by rw[(seqIndex_of h0 a)] at h1;exact (ZE.inj h1)
example:zgp:=by have:((prs.length*prs.length)<=(12*12)):=(Nat.mul_le_mul p12 p12);omega
example:zoR a b:=(hU ys H2 (bE m8 (OF ys) (wa a) b))
example:zjy:=xbf (jq,xs.getD i []) ad xs.length
example:zgT:=by show(fE,fun i m Z H=>(aR,m,xs.length-i,zdC,tM),SQ xs.length)
example:zmf:=by subst c;rw[(az,Z6 _ m6),cp,(aM nb)]
example:znL:=fun f g=>⟨f,g,YR _⟩
example:zmJ b c:=∀{l:b7},((∀ a∈l,((f a)=b))->(zcH=c))
example:zhe a b:=(Eu a (Ld,∃ i j,((xs=[cB,.int j])/\(lW,if b then j else i))))
example:zmI a:=(Nb,V6/\Bj,v,a,V6/\(i=kvs.length))
example:zjV:=by refine (.tup (SqT.of h) rfl (bJ j x d h1 h2))
example:zlL:=cellsFrom hZ scope.names []
example:zkD:=(Tw,(nr % 8)-4,(nr % 8)-4,0)
example:zjU:=(!(cJ,s∈ts))&&(mayB ss pt s)
example:zjx:=∀ H',(SI->(((p i)=false)->(M H')))
example:zmH:=fun b z=>(absurd z (noA b))
example:zkC:=(iY,v,0,max (v+gV) 0,min v gV)
example:zjT a:=wpAny_loadName_local I.ok.kind hk hn hm a
example:zqr:=putSet_of es' t' hd
example:zll:=by show(bO,Zp.mp hy,e,e▸hx)
example:ziZ a:=by have dr1:=(dr.same s1);have knd:((a).Nodup):=(JU.filter _ nnd)
example:zlK:=(eR t [.str aK,.str ij,cu])
example:znd a:=(ii [zqX,s1.heap.objs.size] _ _ a)
example:zfO a:=by refine (Qt F.entry_set_update_loop ?_);show(qj,Qq F.plain_set_update_loop _,Zc (m:=sr) a)
example:zjw a b:=∀ i,((i<a)->(∀ s,((s<a)->(∃ m,((m<a)/\((lcg b m i)=s))))))
example:ziY:=Builtin.Slice.sliceAdjust lo hi 1 gV
example:zpy:=.Slice lo hi none p2
example:zmG a:=fun j v H5=>(∃ c,((b9 a c)/\(v=yB)))
example:zlJ:=(VT "str" T.n_str boot_str)
example:znK:=by ext zaQ d q;exact (Ym ⟨H1,I1,q⟩)
example:zjJ:=∀ H' v,(cL->((FndV H' v Dh)->CP))
example:zop:=(WP (dA d1 H2 dp2 ?_))
example:zgS:=by rintro (⟨h,rfl,rfl⟩:43);show(cR,?_,zC aa);by_cases e:(v=rn)
example:zhQ:=by ext zjc;rw[(mh,(pt.x+1).toNat,(fD,pt.x,0+(-1)),aa)]
example:zoQ a b:=by obtain⟨sl,hL⟩:=(u.any ho I.free a);exact b
example:zgh:=by rw[(show (es=ds) by injection ed with z;exact z.symm),xd3];exact (Z0.same _)
example:zlk a:=∃ p q,((aF ps p)/\(aR,k,Fg,x=cu,a))
example:zqq:=OwD H d_o names own
example:zoP a b:=by ext eE kv e r a;show(aE,kv,k _ _ (eK b) e,r)
example:zgX b:=(iO,Q,td Z H (fun x H1=>(∃ a,(aR,x,aA,IsD H1 a,zbE b))))
example:zgE a:=by show(zV,xaw (xj4 rfl) rfl T.n_sum (PyProof.Rows.Boot.«sum») (xa a xi))
example:znJ a b:=(DU,xab a,gK 6 xcp.nd 7,b)
example:zeZ a:=by rw[(decide_eq_false c)];ext su Q2;rw[sm];ext RJ;ext Li liv;ext Li ei;refine (Zc (wpAny_isSame_ref_self ?_));ext sG;ext RJ;exact a
example:ziJ:=(aR y cu (eR q [pD,.ref t]) (qD t bW))
example:zgj a b:=by obtain⟨its,_,t1,_⟩:63:=a;obtain⟨its2,_,t2,_⟩:63:=b;exact ((xjh t1 t2).elim)
example:zlj:=(Ny T "__getitem__" (Bc id))
example:zlI:=(Pd,RI,e,tAsg te (xcd i))
example:ziI:=by have:(x≠n):=(by rintro rfl;exact (h v Zn));simp[this]
example:zhz:=(b8 hp2 T.c_ac T.n_a4 lkHo (dA d2 H3 dp3 ?_))
example:zoo:=by show(ED,d,rfl,∃ d,(m=(jU+d)),m-jU)
example:zfw:=(qZ hp1 T.n_a3 lkP (kW dp (y0,Cu,hk1,ZJ ((d7 pl.len):kvs.length<12) ap)))
example:zkV:=(Cd,.str a.1,aW a,bS a)
example:zkB:=by show(gQ,σ7,H7,I7,n7,q7);exact (again I7 n7)
example:zfk:=by show(ki,he,∃ q,(Pe q),let ⟨q,_,_,hq,_⟩:=dd'; SG,xfc I BT hs he (xl8 hl hd (rel.put k rv) dd'))
example:zin a c:=a->(g v Sa H3 (fun σ' H3'=>(tc σ' H3' (fun b H4=>c))))
example:zhq:=by have il:(s.heap.IsList p its.toArray):=(bi o g c ⟨n,d⟩)
example:zkA:=⟨z.1,ht _ _ (aW z),(bS z)⟩
example:zib:=((acr w x1 b2)+(eW y1 r2))+(R9+(eW y2 r1))
example:zme:=by obtain⟨_,_,_,q⟩:82:=hs;exact (Ya q)
example:zia:=show (s.heap.IsTuple b its2.toArray) from t2
example:zfY a:=by have r:=(m.rm n s e);exact (ZC.mpr ⟨hr n s r,J9.mpr ⟨n,a,decide_eq_true r⟩⟩)
example:ziz:=∀ x:Str,(HJ->((mb x)=(bootBuiltins x)))
example:zhd:=by have:((X.env.scope.names.lookup x)=(some .free)):=hk;ext BB k
example:zkj:=fun _ _=>(lu [] rfl rfl rfl lG)
example:znc:=by cases b<;>simp[behindInMarks,e1,e2]
example:zlH:=by simp[hn,<- hl,rv.length]
example:ziX a:=by obtain⟨o,ho⟩:(∃ o,fY):=a;show(ir,ZG (Zv ho),(zn).1)
example:zhc a:=wpAny_letOwnedTupleGo_enum (s:=(Nz a)) ho (aI h'' he' hs')
example:zgw a:=∀{P:ai}{vs:aQ}{i:Nat}{m:fK},(bb P.Nodup (aF P x) (aF vs v) a)
example:zfp a:=∀(pins:bc) (s:Shared) (Z:St) (H:Hp) (x:V) (xs:ag) (v:Value) (us:aQ) (Q:VK),(bb aq tJ kL a)
example:zpx:=by obtain⟨cd,hc,_,_⟩:63:=c.mro
example:znI d:=fun⟨a,b,c⟩=>⟨a,b,(Ge d)⟩
example:zgR a:=∀ p∈ps,(∃ k:Nat,((k<a)/\(p.nm=(ltr ((f+(7*pL)) % 26)))))
example:zji a:={ heap:=a,gens:=g,drawn:=d,toks:=tk,os:=os }
example:ziW:=∀(j:Nat) (x:V) (d:DV),(zeP ds d SF)
example:zjh:=(aC,by rw[<- (ask s),e] at z;cases z)
example:ziV a:=xg6 (v:=e.1) (by rw[T.at_,(Zb aa),<- ei,a];rfl)
example:ziH a:=by rename_i met hm;cases (hm.symm.trans (pr _ a));simp only[]
example:zim:=by rintro (⟨_,rfl,rfl⟩:43);show(aO,eG aa,.inr E3)
example:zmF:=xm7 (st:=s_b) l_b c_b k_b
example:zon a b:=by obtain ⟨kz,hkz,_⟩:=a;ext Cv b hl hkz
example:zgD:=fun _ _ _ _ ⟨_,_,z⟩=>(by rw[<- z];exact (SqL.of hl2))
example:zgQ a:=∃ A p1 B p2 C c,(aR,prs,zpt,(canO w ss p1 p2)=(some c),a)
example:zmE a b:=∃ so' ho',(bE a Oc (Ha b) (xP sf NN))
example:ziy:=∀ n∈names,((n∉crowd)->(wL<=1200))
example:zhB:=∃ p qa,(Kd/\((y=LN)/\(eR,qa,xar (prS p))))
example:zom:=by rintro _ _ (⟨rfl,rfl,rfl⟩:43)
example:zol:=(xt (unK t.1))=t.1
example:zoO:=kmv (mv.mono more) ks
example:zhy:=Option.map Ke (ps.find? (fun p=>(cC p.nm n)))
example:zjg a:=(kR,u11,a,u10,tSeq t10 u11,(zgZ,tSeq t9 u10))
example:zjv:=by show(dL,k1,hk1,z.sg.so);show(dL,k2,hk2,z.sg.ho)
example:zhP:=live.map (fun jk=>(jk.1,es.getD jk.2 KD))
example:zil a b:=xaw xk1 rfl T.n_abs boot_abs (xa (xr xek a (pv b)) xi)
example:zmd a:=(setField qX a (rawInt (cG+1)))>>=_
example:zkU:=.ask BF (upd1 asked s a) i hV
example:zkT:=(mh,unK∘xt,id,funext xfw)
example:zjf a:=xab (xdv xe9 (pv 1) (xee (xr xa3 a xm)) xeh)
example:zgr:=(cT H' { s with heap:=h',gens:=g',drawn:=d',toks:=t' })
example:zpw:=by intro z;exact (absurd z (g.no n))
example:zfQ:=by have e1:(its.toArray.size=ds.length):=jQ;have e2:(its2.toArray.size=es.length):=jQ
example:zkz a b c:=by have e1:((xao lR a)=b):=c;rw[e1,xgo,<- (ih nd.1)];unfold xdd
example:zlG a:=IsEnum a hZ s.heap.objs.size 0 .none
example:zhZ a:=by ext sR;ext bF o e c d a;show(aE,o,e,(jN,z,by ext cE d z))
example:zhm a:=te σ' H4 (fun y H5=>(((H5 l)=(some (.lst xs)))/\(HK/\a)))
example:zkS:=Jz ZX hit.typeIs Yw ?_ (Yv _)
example:zpv:=(cS,ne c _ q Xo,q)
example:zlF:=PassesOwn aJ X.A X.env X.xe
example:zfB:=(CB,(g Hl i)=(nh,i,m,g p k,if ((m<i)/\(i<=k)) then (g p (i-1)) else (g p i)))
example:zqp:=k j (xs[j]) e jh h2
example:znH:=[vU,zm,qW,(bv g),v4,v5]
example:ziG:=[(aT p),(aT d3),(aT q0),some v3,v4,v5]
example:zju a:=by rw[(Qp (Zx hj))] at e2;ext af u' r' q a;ext fE u' r'
example:zhx:=by exact(dI he (jN,k,by have k':((Q5 _)=(Wr v)):=k;cases k'))
example:zkR:=by ext bF kvs e l r s;exact(bi kvs e aa r)
example:zki:=by show(UB,(bw,xs,xs[i],q,cM hlt),xs.length)
example:zfr:=by rw[(decide_eq_true c)];simp only[Bool.and_self,if_true];exact (Zk (yes (uq,_,Zm le,b,c▸h3)))
example:zky:=fun a xs ea=>(av (ua ea e) ea)
example:zkx:=(mH,t.C_a,picF pw ph dp do_)
example:zfX a:=∀ c u,((c≠d_o)->(bg,c≠d_r,c≠da,c≠la,(H7 c)=(some u),a))
example:zli:=Geo.cells pw p1.x p1.y b1 r1
example:zok a:=opI (fun i j _ _ _ _ _ hc q=>a)
example:zgC a:=by refine (bi its.toList r a ?_);have e:=r.length;simp only[JE] at e;omega
example:zhp:=["self", "name", "askers", "asked_by", "seat"]
example:zii:=(v=r)/\(uY,pZ u x,(x<=u)/\(u<=(w+1)))
example:zmD:=fun a u na ea=>(cS na ea)
example:zfA a b c d:=(ys=(uV,V.ref aN))/\(aR,L.length,i,(L.map (jr a))=b,∀ x∈L,(au,cF≠l2,aN≠l2,Vo,c,d))
example:znb:=(b8 sok9 aa yO hl9 sts9)
example:ziU:=by show(nW,qg e ex.1,a,e2);show(Aa,e2,o,e,aW ex)
example:zih:=by have itlt:(it<s.heap.objs.size):=(Zv st);ext XG it itlt
example:znG:=(hU,y,hy,f i y i hy ?_)
example:zfD:=fun j v H5=>(∃ q p,(aR,v,cu,b9 prs p,(H5 q)=(some (.tup (prV qG)))))
example:zeU:=by have kx:(eC,d,(H6 c)=(some u),(H9 c)=(some u)):=(gR,k9 _ _ nc (s68 _ _ e));have kx5:(eC,d,(H5 c)=(some u),(H9 c)=(some u)):=(gR,kx _ _ nc (k6 _ _ nc e))
example:zgo a:=sp (nQ::Cs) (upd a x (mH C [])) (jN,H2,(v=.non)/\(Q nQ H2)) (E Z)
example:zhw:=by ext zjc;rw[(mh (fD,pw+2,pt.x) (fD,(pw+1)+1,pt.x) aa)]
example:zkw:=by have e':=tI;show(cY,ua e' zl,C2 e',e')
example:zhv a:=∀(N:pP),((∀ y H',(SI->(a->(N y H'))))->(g x Sa H2 zcf))
example:zhu a c:=by have e':(q.1=k):=(h1.symm.trans e);show(uu,b,a,q.2,c);ext cY C7 b h2
example:zgP a b:=(au,a,b,o.data=(.seq its n),cV its.size,Vals xs its.toList)
example:zgB a c:=(cN,.ref s1.heap.objs.size,a,I1.laid (t':=s1.toks) (jG ui) bp ?_,c)
example:zhO a:=by show(cQ,u=(Zr _),rx);ext bF its r1 t1 z1 a;have l1:=r1.length
example:zhb:=(mR (dR 0 (fM,1,xak (r:=(rIxL K)) xax iu iw iD)))
example:zjS:=by exact(bC so0 ho0 a1 a2 (re,ZR _ (a3 z hz)))
example:zgO:=by rw[Zf] at hv;ext qJ o ho hv;show(bF,p,m1,m2,m3,loop o (Zm ho))
example:zjt a b:=a/\(au wW uP (xI pw ph) Ed (y8,Q (.int b) H'))
example:zht:=["self", "name", "x", "y", "others", "other"]
example:zfv:=by have jl:=zev;rw[Zs,ZY] at jl;show(FF,j,al.length);rw[(Js (Zl _)),Nat.sub_self] at e;cases e
example:zeT:=by have hT:(Sn it "dict_itemiterator"):=(dY st);show(zad,J4 hT JW ?_);refine (Jz JW hT F.entry_dict_itemiterator_next ?_ (F.args_dict_itemiterator_next_1 _));ext xM dr
example:zje:=lenI b6 ((Ig).x) ((Ig).y) ((Ti).1) ((Ti).2)
example:zkv a:=fun rest r s'=>(aR,r.1,none,s'=s,a)
example:zfu b c:=wpAny_Dict_empty (cN,eZ,_,I.laid (a:=s.heap.objs.size) (o:=b) (t':=s.toks) zcI bp c,h _ xO)
example:zgJ a:=b.congr (fun a' x'=>⟨.inl,(d9,h.elim id (aC,nomatch a))⟩)
example:ziP:=by obtain⟨_,_,⟨_,_,o,_,_,e,_⟩⟩:43:=x;ext ut
example:zmc:=by have B:=(xjo lens own rent asked crowd)
example:zge:=by have ol:=run.outs.2;have nl:(((ue).length)=ps.length):=(by unfold xah;rw[Za])
example:zkQ:=fun H1 q1 s1 hq1=>(eD q1 hq1)
example:zfz a:=by refine a;obtain⟨fs,hw⟩:=(hd d e);obtain⟨_,_,⟨o,_,_,go,_⟩,_⟩:=(xsl I hw);ext aO o go
example:zgd:=∀ b ps,((ax,b,.tbl ps)->(∃ more,(E6,.tbl (ps++more))))
example:zhN a:=∀ v u s2 x y H2,(bg,cT H2 s2,tJ,gS,R x y H2,a)
example:zgI a b:=∀ whole,(a=(do let v <- whole; (standAt b); (holding [v] (truthy v))))
example:zku:=∃ xs,(EO/\(h.DictOfH XH a xs))
example:ziF:=∀ name,((Wg name od)=(some (mA name)))
example:zkP:=by obtain⟨mA,O,r,_,_,_⟩:65:=(xgq I.hok e)
example:zhM a:=∀{binds:A4}{m:fK},((∀ v,((x,v)∉binds))->(a=(m x)))
example:zmC:=by unfold mroIn;rw[h1,QI,(aM (yx b)),a]
example:zgA:=fun _ _ _ _ _ ⟨ok,ov,st⟩ h=>(PySem.W.kcp_self st h)
example:zik:=fun _ _ _ _ _ ⟨(fC st),_⟩ h=>(Q6 st h)
example:zgv a:=∀(N:pP) (M:Fz),((∀ y H',(bb,SI,(p i)=true,Uc,N y H'))->a)
example:zkO a:=by simp only[(show (¬ (cG<0)) from aa),if_false,JM,a]
example:zmb:=[vU,some iX,zm,qW,(aT qs)]
example:zoN:=by rintro Z _ (⟨v5,rfl,rfl⟩:62)
example:zkh a c:=by generalize eu:(iB a q3 zex rA)=H3;ext AV s3 hq3 g3 z c
example:zhY:=by unfold xa1 at z;refine(Ki,q3,.inr (SqT.of g3),rfl,Fy)
example:zfG a b c d:=∃(i:Nat) (crowd:ai) (al:aj) (asked:aD) (v6 v7:bP),(((a+i)=13)/\((i<=crowd.length)/\((b=c)/\d)))
example:zjs a b c:=by rintro i Z a _ (⟨_,_,_,_,⟨_,_,rfl,b,_⟩⟩:121);ext wA c
example:zfN a:=∀ H' qs,(zr,UX qz,(H' qs)=(some (.tup (xar s))),a,AkD H' da nG Hh,qs)
example:zfn a b c:=∀ H' own' rent' so' ho' asked s,(a->(lT b (zfL jt) (xP,Kp.kstep (xal (x8 w ps srt)) so ho,XJ) c .non))
example:zft a:=∃(crowd:ai) (al:aj) (asked:aD) (o1:bN) (r1:bG) (g:Int) (b:Str) (s:Seat) (qs:Addr),a
example:zoM:=B.free y (B.ysf y my)
example:zhs a b:=by have etr:((trP pw ss nN)=(i8,i9,c)):=a;unfold stP;show(aB,etr,sB _ _ b)
example:ziO a:=(dI,xj,Pl.snoc (p:=(IH lo a)) (pl.keep LM) ?_)
example:zqo:=(au P0 P1 P2 P3 P4)
example:znF:=(au,fU,jo,mL,uA,P4 a)
example:zqn:=(au gy jE mo ud Gg)
example:zqm:=(au gq i6 kQ qU B9)
example:zql:=(au gm iU lO sY E4)
example:zlE:=(au,jo,mL,uA,P4 a,P5 a)
example:zmB:=(au,jE,mo,ud,Gg,P5 a b)
example:zkN:=(au,iU,lO,sY,E4,P5 a b c d)
example:zix:=(b8 ok1.nm ok1.fd ok1.r1 ok1.r2 ok1.xy)
example:ziw:=(b8 ok2.nm ok2.fd ok2.r1 ok2.r2 ok2.xy)
example:ziE a b:=(aR vs a (bE,(-kY)<=i,i<kY,(-kY)<=j,j<kY) b)
example:zhg a:=by exact (wpAny_pyNext_range_end gO st (by have:(n<=i):=hg;omega) (Bb a))
example:ziv a:=lenI j3 ((Ov).x) ((Ov).y) ((strS ws a).1) ((strS ws a).2)
example:zfP a:=by ext iE;ext VS;obtain⟨ed,a⟩:=hg;show(af,vs,rel,da,xd4 I ed hep);ext wU;rw[hl] at h1
example:zij:=(aR,ox.cls,jd,ox.dict=od,Tv ox.data)
example:zkM:=by rw [(JA DT)] at e;show(Aa,e,q,xbe (fW c),h)
example:zfy:=by rw [(Y0 DT)] at e;show(af,q',h1,h2,ih e);show(aE,q',(av,xa4 (fun z=>(c (Jd.inj z))),h1),h2)
example:zjd a:=by have e1:((X6 (bA es.size))=none):=a;rw[e1]
example:zhX:=fun a ea=>(av,xg (fun z=>(tG e ea)),ea)
example:zhL a:=by rw[(az z)] at hm;have ht:(uS\/yg):=a;unfold acr;ext su if_true
example:zig a:=(d0,h,IsRangeIter h it (lo+((i:Nat)*a)) (gV-(i:Nat)) a)
example:zoj a:=tSeq t2 (jZ t3 t4 (jZ t5 t6 a))
example:zhl a b:=by refine (.cons ?_ (ih a b));have e:=(tm t Zn);rw[<- (back t Zn)] at e;exact e
example:zgl a:=by ext ul hj hi e1;show(bB,List.getElem?_set_self hiσ,e2,e2);ext aE u r a
example:zgW a:=⟨fun i _=>hW,fun i H x H'=>((H'=H)/\(x=a)),fun i _=>(n<=i)⟩
example:zkL:=h x _ hx (kZ xj) (xr9 hx hdx)
example:ziu:=by rw [(uU,show ((s0.1,s0.2)∈ss) from min),JH] at c
example:zhW a:=(qZ hp1 T.n_a2 lkW (rB a pw (bJ p3 H3 hp3 sd3 s3)))
example:ziD a:=by rw[a];exact (xc2 (hG l aa lo (fun j hj hj2=>(hi j aa hj2))))
example:zgu:=["self", "askers", "asked_by", "gap", "asker", "seat"]
example:zhK a:=by rw[J6];rintro ⟨u,v⟩ hc hd;show(ae,h1,xgd.mp hc,h2,a);omega
example:zfl:=["_law_picture", "_law_other", "_law_pairs", "_law_rows", "_law_double", "_law_moved"]
example:zkg:=(nE H4 q5 [.int Dk,CT,.ref qk])
example:zit:=A++((p1.1,p2.2)::(B++((p2.1,p1.2)::C)))
example:zgn:=["picture", "names", "crowd", "prices", "name", "pairs"]
example:zfh c d e:=(au,Kp.Hand room (aC sF) so1 ho1 s,(gZ,(rk b)<=(rk a),(so1 b)=(so b)),c,(n1+(rk a))<=d,Kp.Rch sf NN e)
example:zfi:=by show(bm,wpAny_fieldsOf ho hd ?_);have hown:((Builtin.Dict_items.ownsTuple "dict_keyiterator")=false):=ap
example:zfo:=by show(zad,J4 st.typeIs ZX ?_);refine (Jz ZX st.typeIs Yw ?_ (Yv _));have ti:=st.typeIs;ext xM dr
example:zfs a:=forIn ifs true (fun c r=>(if (r=true) then do let ok <- a; (pure (YM ok)) else (pure (YM r))))
example:zkf a:=callWith pos f first (zax pos a) (MT pos)
example:zfS:=by simp only at ci di;subst ci di;unfold Builtin.«dict_keyiterator.__next__»
example:zhJ a c d:=by have e':(¬ (q.1=k)):=(aC,e (h1.trans z));have b:(a=c):=d;ext cY C6 b ih
example:zgN:=by rw[Za,(QV (l:=sO) (by rw[pr2.len];exact (Zl _)))] at ea5;exact ea5
example:zgc a:=by ext qS;show(af,p,hp,hq,pl.get hqa);show(ae,okp,gp.ok p (Zm hp),r1,okp.r1);exact a
example:zfc:=by ext bB e e' e';rw[d] at d';injection d' with d1 _;have:(its=its'):=(uT,congrArg Array.toList d1);ext rE;exact (r.inj r')
example:ziT b c d:=by show(ae,c1,b,c2,Kp.hall mt2 c cr.nd (zA d));rw[c1,ZL] at c2;omega
example:zfd:=by obtain⟨j,hj⟩:=(List.getElem?_of_mem hz);have lt:(j<es.length):=(dE hl (ft hj));exact(bC,j,es[j],hj,jh,k j z _ hj jh)
example:zis:=⟨Yx hu,(bC,k,xs,EC,dd,h _ _ jz ?_)⟩
example:zgm:=⟨(gU oc od kV doc (gU pm an cdv ct (kg osl l c))),k⟩
example:zfW:=ItemsOf (d0 v (dO,items,(items.size-1)-i,v)) acc' items.size
example:zlD:=xmy w30 h16 pok dr.ok dr.pm
example:zho a:=⟨fV,beq_eq_false_iff_ne.mpr (Zx (ZG hb)),[],.nil,a⟩
example:zke:=fun y H' s' f=>(h1 y H' s' rfl f)
example:zfg b c e:=∃ H',(au,DPut H d b c H',e,∀ a u,((a≠d)->((ax a u)->((H' a)=(some u)))),kM,∀ a,((bz a)->((H' a)=none)))
example:zlh:=by obtain⟨u,rfl,⟨t,rfl⟩⟩:62:=(xch r)
example:zfM:=by simp only[sliceBounds,HT.sIx,Option.getD_none,(sJ,CS>0),if_true];by_cases h:(i<0)
example:zgg:=by obtain⟨_,_,⟨_,_,o,_,_,e,ex,_⟩⟩:43:=(I.hok p _ hk);ext aE o e ex
example:ziN:=by intro d hd z;exact (no d hd (of_decide_eq_true z))
example:zkt a:=(d0,h,(∃ old,(IsEnum h e it i old))/\a)
example:zfF:=by rw[Zf,Zh] at h1 h2;ext kh z hz h1;ext kh z' hz' h2;ext bB hz hz' hz';exact .str
example:zgi:=∀ e∈L,(∃ k' b,(aR,Gh,zdS k',(bS e)=dX,o8 k' b))
example:zga:=by rintro ⟨r1,r2⟩ s' ⟨hr,rfl,_⟩;simp only at hr;subst hr;exact (Zk h)
example:zjR:=fun a _ b _ s ha hb=>(m.inj ha hb)
example:zqk:=[p0,p1,p2,p3,p4,p5]
example:zjr a:=xac (r:=(rInV K true)) (xgb (xb1 hr)) a eJ nR
example:zfZ:=by simp only[DV.tup.injEq,Qz.injEq,DV.str.injEq,DV.int.injEq,and_true] at h
example:zeW a:=by show(af,x,hx,rx,xg0 r1 h1);show(af,y,hy,ry,xg0 r2 h2);have j1:(j<ds.length):=(HW h1);have j2:(j<es.length):=(HW h2);show(aB,xh3 (Zb j1) (Zb j2),(a).1)
example:zhI a:=(au,aF names pt.nm,pt∈ps,a,y=cu,(AJ (pt,s)))
example:zif:=by show(af,w,ew,rw',r.get h2);show(ae,hl,r.length,hn,xeu)
example:zff a b c:=by have pr2:=(pr.drop aH);have ed:((prs.drop i)=(P1::sO)):=a;rw[ed] at ea;ext zL p4 xj;let Pv (j:Nat) (Z:L2.St) (H5:Hp):Prop:=b;refine c
example:ziC:=by ext bB ho ho' ho';exact⟨102,_,es',ep',hL,r'⟩
example:zha:=(nE (dN,H9,lt,(tq.map V.ref)++[.ref qa]) pb zpu)
example:zeY:=by refine (wpAny_raiseNew_none hA ?_);show(bm,QH FU isSubtype_stop (Zk (h _ (fH b o nb ?_))));refine Pu;show(aB,Y1 _ _ (Zx nb),e)
example:zfx:=by show(gQ,σ3,H3,I3,n3,q3);show(af,m',hm,w3,hN σ3 H3 n3);show(aE,m',hm,bw σ3 H3 I3 w3)
example:zfj a:=by ext fX;show(yA,r,I.list ha);show(bo,get,∀ z∈xs,(∃(j:Nat) (e:DV),((b9 xs z)/\((b9 es e)/\(KJ z)))),z,hz,a)
example:zgH:=(((dM xK) == 0)&&(CS == 1))&&((Aq-xK) == items.size)
example:zjQ:=by have q:=(I.base.frzs d o' u' z);ext cE e q
example:zeX a c d:=(au,a,c,Kp.Rch (xd9 sE ho) (.go OO rent fb [pt.nm]) (.go o1 r1 asked crowd),(K3,near sE o1 r1 asked crowd,b),d=(20-crowd.length))
example:zfa a b:=by refine (Calls.call_function_entry kind_sorted plain_sorted entry_sorted (args_sorted1 _) ?_);unfold Builtin.sorted;ext sG;ext wF a b
example:zgM:=(jB,true,iteF ⟨.inr sd,rfl,false,(fh hsd'),vS⟩)
example:zgz a b:=by have W:=(Walks.range (prog:=X.prog) (w:=X.w) gO it lo a n);refine b;ext kH hv
example:zgG:=(eR t [.str ((aK).1),.str (aW aK),cu,.int ij,.int eI])
example:zfR:=(hU,Z,H3,∃ v5:bP,((Z=[cP,some vT,(bv x),(bv y),j9,v5])/\(H2=H3)))
example:zfq:=by rw[Zf] at hx;ext qJ o2 ho2 hx;show(af,P2,hP2,eP2,pr2.get ho2);have ok2:=(ok P2 (Wl (Zm hP2)))
example:zfV:=by ext Li ei;show(vH,wpAny_eqBool_tuple hu h3 hk ?_);ext zaB;by_cases c:(k'=k)
example:zfE a b:=by rw[Zf,Zf,e1] at h2;cases h2;ext lg no o l e3 a;exact(dD o b _ (n6 (aV,k2 _ _ no e3) rfl r))
example:zfm:=(au,uG aK bW,bz aK,aK≠X.env.locals,aK∉X.fs,∀ v,(((bW).data)≠(.cell v)))
example:zfC a:=by show(eE,z,m1,m2,xi5 r w DO);obtain⟨j,e,_,_,he⟩:83:=(get z m1);show(cY,xon m2,xh5 I he,(a).1)
example:ziB a:=by show(Gk,i,t,rfl,z);exact (fun A Q E s _ q=>(Qw (T:=a) rfl q))
example:zgt a b:=by refine(lX ?_);refine (ifP aP ?_);exact (fun x dx hx hdx ne=>⟨x,a,dx,n,rfl,b⟩)
example:zgk a b:=by show(bF,kl,hkl,ll,fl,z.ln);refine a;show(bF,q,q1,q2,q3,fl nm h);exact(bi q q1 b q3)
example:zfb a c:=by obtain⟨_,hd,⟨a,_,dd⟩⟩:43:=c;show(dc,dd.typeIs,am b q,hd);cases q;obtain⟨ob,_,_,h1,h2,_⟩:103:=dd;show(aE,ob,h1,aW h2)
example:zgb:=by rw[(xa4 (fun z=>(e p Zn (Jd.inj z))))];exact (ih (fun p' hp=>(e p' (Zj _ hp))))
example:zjI:=by show(eE,j,a,b,xe6 ky ad i x h);ext aE j aa b
example:znE a:=by show(dL,o,g,T.obj 0 _ st2 b hb);exact (Zv a)
example:zeS:=by rw[Zf] at hx;ext Kj;show(af,P1,hP1,eP1,pr.get ho);have ok1:=(ok P1 (Zm hP1));show(ay,sp,Same H2 XI,cO hp,eD p xj);refine (fo ?_);intros;show(dc,cG+1,rfl,(IO,l,sp _ _ (s2 _ _ hl),p4,hp4))
example:zeR a b:=by show(bo,mem2,∀ u v,(((u,v)∈Dz)↔(((u=x2)/\(zbu y2 r2))\/(aR,v,r2,x2<=u,u<=(w+1)))),u,v,a);show(bo,mem1,∀ u v,(((u,v)∈Ay)↔(((u=x1)/\(zbu y1 r1))\/(aR,v,r1,0<=u,u<=x1))),u,v,b);by_cases hlt:(x2<x1)
example:zfe:=by rw [(zqj,eU Re,its.any (eU Re)),(xlk r),(xle (g:=(aC,dEq z d)) hl (fun j z e g1 g2=>(xh5 I (k j z e g1 g2))))];exact q
example:zeQ c d f:=by ext UG c;show(dG,step,∀(j:Nat) (h1:(j<its.toArray.size)) (h2:(j<its2.toArray.size)),(Z0 A.in1 s (its.toArray[j]) (its2.toArray[j]) (at2 dEq ds es j)),fun j h1 h2=>d,all,xhl (xs:=ds) (ys:=es) (e:=Ep) (FB,x,y,xh3 h1 h2));have both:((ZK A s aA dX (dEqs ds es))/\(Z9 A s aA dX (!(dEqs ds es)))):=f;simp only[dEq];show(cR,?_,both);by_cases q:(a=b)
example:zeV:=l.map (fun (m,k)=>(if (((k == Wv)&&(env.scope.kind == .function))&&((env.kindOf m) == (some .cell))) then (m,NameKind.cell) else (m,k)))
theorem n42  {P0 P1:Prop} (h0:P0) (h1:P1):P0/\P1:=⟨h0,h1⟩
theorem i42  {P0 P1:Prop}{C:Prop} (k:P0->P1->C):(P0/\P1)->C:=(d9,k h.1 h.2)
theorem n43  {P0 P1 P2:Prop} (h0:P0) (h1:P1) (h2:P2):P0/\P1/\P2:=⟨h0,n42 h1 h2⟩
theorem i43  {P0 P1 P2:Prop}{C:Prop} (k:bb P0 P1 P2 C):(P0/\P1/\P2)->C:=(d9,i42 (k h.1) h.2)
theorem n44  {P0 P1 P2 P3:Prop} (h0:P0) (h1:P1) (h2:P2) (h3:P3):bE P0 P1 P2 P3:=⟨h0,n43 h1 h2 h3⟩
theorem i44  {P0 P1 P2 P3:Prop}{C:Prop} (k:bg P0 P1 P2 P3 C):(bE P0 P1 P2 P3)->C:=(d9,i43 (k h.1) h.2)
theorem n45  {P0 P1 P2 P3 P4:Prop} (h0:P0) (h1:P1) (h2:P2) (h3:P3) (h4:P4):zqo:=⟨h0,n44 h1 h2 h3 h4⟩
theorem i45  {P0 P1 P2 P3 P4:Prop}{C:Prop} (k:P0->(bg P1 P2 P3 P4 C)):zqo->C:=(d9,i44 (k h.1) h.2)
theorem n46  {P0 P1 P2 P3 P4 P5:Prop} (h0:P0) (h1:P1) (h2:P2) (h3:P3) (h4:P4) (h5:P5):P0/\(zdG P5):=⟨h0,n45 h1 h2 h3 h4 h5⟩
theorem i46  {P0 P1 P2 P3 P4 P5:Prop}{C:Prop} (k:P0->P1->(bg P2 P3 P4 P5 C)):(P0/\(zdG P5))->C:=(d9,i45 (k h.1) h.2)
theorem n47  {P0 P1 P2 P3 P4 P5 P6:Prop} (h0:P0) (h1:P1) (h2:P2) (h3:P3) (h4:P4) (h5:P5) (h6:P6):P0/\P1/\(au P2 P3 P4 P5 P6):=⟨h0,n46 h1 h2 h3 h4 h5 h6⟩
theorem i47  {P0 P1 P2 P3 P4 P5 P6:Prop}{C:Prop} (k:bb P0 P1 P2 (bg P3 P4 P5 P6 C)):(P0/\(zdG,P5/\P6))->C:=(d9,i46 (k h.1) h.2)
theorem n61 {A0:Type}{P0:o9} (a:A0) (h0:fU):∃(a:A0),fU:=eV h0
theorem i61 {A0:Type}{P0:o9}{C:Prop} (k:∀(a:A0),fU->C):EN fU:=(fc,k a h)
theorem n62 {A0:Type}{P0 P1:o9} (a:A0) (h0:fU) (h1:jo):∃(a:A0),fU/\jo:=(eV,n42 h0 h1)
theorem i62 {A0:Type}{P0 P1:o9}{C:Prop} (k:∀(a:A0),fU->jo->C):(EN,fU/\jo):=(fc,i42 (k a) h)
theorem n63 {A0:Type}{P0 P1 P2:o9} (a:A0) (h0:fU) (h1:jo) (h2:mL):∃(a:A0),fU/\jo/\mL:=(eV,n43 h0 h1 h2)
theorem i63 {A0:Type}{P0 P1 P2:o9}{C:Prop} (k:∀(a:A0),bb fU jo mL C):(EN,fU/\jo/\mL):=(fc,i43 (k a) h)
theorem n64 {A0:Type}{P0 P1 P2 P3:o9} (a:A0) (h0:fU) (h1:jo) (h2:mL) (h3:uA):∃(a:A0),bE fU jo mL uA:=(eV,n44 h0 h1 h2 h3)
theorem i64 {A0:Type}{P0 P1 P2 P3:o9}{C:Prop} (k:∀(a:A0),bg fU jo mL uA C):(EN,bE fU jo mL uA):=(fc,i44 (k a) h)
theorem n65 {A0:Type}{P0 P1 P2 P3 P4:o9} (a:A0) (h0:fU) (h1:jo) (h2:mL) (h3:uA) (h4:P4 a):∃(a:A0),znF:=(eV,n45 h0 h1 h2 h3 h4)
theorem i65 {A0:Type}{P0 P1 P2 P3 P4:o9}{C:Prop} (k:∀(a:A0),fU->(bg,jo,mL,uA,P4 a,C)):EN znF:=(fc,i45 (k a) h)
theorem n66 {A0:Type}{P0 P1 P2 P3 P4 P5:o9} (a:A0) (h0:fU) (h1:jo) (h2:mL) (h3:uA) (h4:P4 a) (h5:P5 a):∃(a:A0),fU/\zlE:=(eV,n46 h0 h1 h2 h3 h4 h5)
theorem i66 {A0:Type}{P0 P1 P2 P3 P4 P5:o9}{C:Prop} (k:∀(a:A0),fU->jo->(bg,mL,uA,P4 a,P5 a,C)):(EN,fU/\zlE):=(fc,i46 (k a) h)
theorem n81 {A0 A1:Type}{P0:oY} (a:A0) (b:A1) (h0:gy):∃(a:A0) (b:A1),gy:=(eV,n61 b h0)
theorem i81 {A0 A1:Type}{P0:oY}{C:Prop} (k:∀(a:A0) (b:A1),gy->C):DI gy:=(fc,i61 (k a) h)
theorem n82 {A0 A1:Type}{P0 P1:oY} (a:A0) (b:A1) (h0:gy) (h1:jE):∃(a:A0) (b:A1),gy/\jE:=(eV,n62 b h0 h1)
theorem i82 {A0 A1:Type}{P0 P1:oY}{C:Prop} (k:∀(a:A0) (b:A1),gy->jE->C):(DI,gy/\jE):=(fc,i62 (k a) h)
theorem n83 {A0 A1:Type}{P0 P1 P2:oY} (a:A0) (b:A1) (h0:gy) (h1:jE) (h2:mo):∃(a:A0) (b:A1),gy/\jE/\mo:=(eV,n63 b h0 h1 h2)
theorem i83 {A0 A1:Type}{P0 P1 P2:oY}{C:Prop} (k:∀(a:A0) (b:A1),bb gy jE mo C):(DI,gy/\jE/\mo):=(fc,i63 (k a) h)
theorem n84 {A0 A1:Type}{P0 P1 P2 P3:oY} (a:A0) (b:A1) (h0:gy) (h1:jE) (h2:mo) (h3:ud):∃(a:A0) (b:A1),bE gy jE mo ud:=(eV,n64 b h0 h1 h2 h3)
theorem i84 {A0 A1:Type}{P0 P1 P2 P3:oY}{C:Prop} (k:∀(a:A0) (b:A1),bg gy jE mo ud C):(DI,bE gy jE mo ud):=(fc,i64 (k a) h)
theorem n85 {A0 A1:Type}{P0 P1 P2 P3 P4:oY} (a:A0) (b:A1) (h0:gy) (h1:jE) (h2:mo) (h3:ud) (h4:Gg):∃(a:A0) (b:A1),zqn:=(eV,n65 b h0 h1 h2 h3 h4)
theorem i85 {A0 A1:Type}{P0 P1 P2 P3 P4:oY}{C:Prop} (k:zqy (bb mo ud Gg C)):DI zqn:=(fc,i65 (k a) h)
theorem n86 {A0 A1:Type}{P0 P1 P2 P3 P4 P5:oY} (a:A0) (b:A1) (h0:gy) (h1:jE) (h2:mo) (h3:ud) (h4:Gg) (h5:P5 a b):∃(a:A0) (b:A1),gy/\zmB:=(eV,n66 b h0 h1 h2 h3 h4 h5)
theorem i86 {A0 A1:Type}{P0 P1 P2 P3 P4 P5:oY}{C:Prop} (k:zqy (bg,mo,ud,Gg,P5 a b,C)):(DI,gy/\zmB):=(fc,i66 (k a) h)
theorem n101 {A0 A1 A2:Type}{P0:qE} (a:A0) (b:A1) (c:A2) (h0:gq):∃(a:A0) (b:A1) (c:A2),gq:=(eV,n81 b c h0)
theorem i101 {A0 A1 A2:Type}{P0:qE}{C:Prop} (k:∀(a:A0) (b:A1) (c:A2),gq->C):Dq gq:=(fc,i81 (k a) h)
theorem n102 {A0 A1 A2:Type}{P0 P1:qE} (a:A0) (b:A1) (c:A2) (h0:gq) (h1:i6):∃(a:A0) (b:A1) (c:A2),gq/\i6:=(eV,n82 b c h0 h1)
theorem i102 {A0 A1 A2:Type}{P0 P1:qE}{C:Prop} (k:∀(a:A0) (b:A1) (c:A2),gq->i6->C):(Dq,gq/\i6):=(fc,i82 (k a) h)
theorem n103 {A0 A1 A2:Type}{P0 P1 P2:qE} (a:A0) (b:A1) (c:A2) (h0:gq) (h1:i6) (h2:kQ):zmw kQ:=(eV,n83 b c h0 h1 h2)
theorem i103 {A0 A1 A2:Type}{P0 P1 P2:qE}{C:Prop} (k:∀(a:A0) (b:A1) (c:A2),bb gq i6 kQ C):(Dq,gq/\i6/\kQ):=(fc,i83 (k a) h)
theorem n104 {A0 A1 A2:Type}{P0 P1 P2 P3:A0->A1->A2->Prop} (a:A0) (b:A1) (c:A2) (h0:gq) (h1:i6) (h2:kQ) (h3:qU):∃(a:A0) (b:A1) (c:A2),bE gq i6 kQ qU:=(eV,n84 b c h0 h1 h2 h3)
theorem i104 {A0 A1 A2:Type}{P0 P1 P2 P3:qE}{C:Prop} (k:∀(a:A0) (b:A1) (c:A2),bg gq i6 kQ qU C):(Dq,bE gq i6 kQ qU):=(fc,i84 (k a) h)
theorem n105 {A0 A1 A2:Type}{P0 P1 P2 P3 P4:qE} (a:A0) (b:A1) (c:A2) (h0:gq) (h1:i6) (h2:kQ) (h3:qU) (h4:B9):∃(a:A0) (b:A1) (c:A2),zqm:=(eV,n85 b c h0 h1 h2 h3 h4)
theorem i105 {A0 A1 A2:Type}{P0 P1 P2 P3 P4:qE}{C:Prop} (k:∀(a:A0) (b:A1) (c:A2),gq->(bg i6 kQ qU B9 C)):Dq zqm:=(fc,i85 (k a) h)
theorem n106 {A0 A1 A2:Type}{P0 P1 P2 P3 P4 P5:qE} (a:A0) (b:A1) (c:A2) (h0:gq) (h1:i6) (h2:kQ) (h3:qU) (h4:B9) (h5:T4):zmw (bE kQ qU B9 T4):=(eV,n86 b c h0 h1 h2 h3 h4 h5)
theorem i106 {A0 A1 A2:Type}{P0 P1 P2 P3 P4 P5:qE}{C:Prop} (k:∀(a:A0) (b:A1) (c:A2),gq->i6->(bg kQ qU B9 T4 C)):(Dq,gq/\(au i6 kQ qU B9 T4)):=(fc,i86 (k a) h)
theorem n121 {A0 A1 A2 A3:Type}{P0:qr} (a:A0) (b:A1) (c:A2) (d:A3) (h0:gm):∃(a:A0) (b:A1) (c:A2) (d:A3),gm:=(eV,n101 b c d h0)
theorem i121 {A0 A1 A2 A3:Type}{P0:(bb,A0,A1,A2,A3->Prop)}{C:Prop} (k:∀(a:A0) (b:A1) (c:A2) (d:A3),gm->C):De gm:=(fc,i101 (k a) h)
theorem n122 {A0 A1 A2 A3:Type}{P0 P1:qr} (a:A0) (b:A1) (c:A2) (d:A3) (h0:gm) (h1:iU):zlZ iU:=(eV,n102 b c d h0 h1)
theorem i122 {A0 A1 A2 A3:Type}{P0 P1:qr}{C:Prop} (k:∀(a:A0) (b:A1) (c:A2) (d:A3),gm->iU->C):(De,gm/\iU):=(fc,i102 (k a) h)
theorem n123 {A0 A1 A2 A3:Type}{P0 P1 P2:qr} (a:A0) (b:A1) (c:A2) (d:A3) (h0:gm) (h1:iU) (h2:lO):∃(a:A0) (b:A1) (c:A2) (d:A3),gm/\iU/\lO:=(eV,n103 b c d h0 h1 h2)
theorem i123 {A0 A1 A2 A3:Type}{P0 P1 P2:qr}{C:Prop} (k:∀(a:A0) (b:A1) (c:A2) (d:A3),bb gm iU lO C):(De,gm/\iU/\lO):=(fc,i103 (k a) h)
theorem n124 {A0 A1 A2 A3:Type}{P0 P1 P2 P3:qr} (a:A0) (b:A1) (c:A2) (d:A3) (h0:gm) (h1:iU) (h2:lO) (h3:sY):∃(a:A0) (b:A1) (c:A2) (d:A3),bE gm iU lO sY:=(eV,n104 b c d h0 h1 h2 h3)
theorem i124 {A0 A1 A2 A3:Type}{P0 P1 P2 P3:qr}{C:Prop} (k:∀(a:A0) (b:A1) (c:A2) (d:A3),bg gm iU lO sY C):(De,gm/\iU/\lO/\sY):=(fc,i104 (k a) h)
theorem n125 {A0 A1 A2 A3:Type}{P0 P1 P2 P3 P4:qr} (a:A0) (b:A1) (c:A2) (d:A3) (h0:gm) (h1:iU) (h2:lO) (h3:sY) (h4:E4):∃(a:A0) (b:A1) (c:A2) (d:A3),zql:=(eV,n105 b c d h0 h1 h2 h3 h4)
theorem i125 {A0 A1 A2 A3:Type}{P0 P1 P2 P3 P4:qr}{C:Prop} (k:∀(a:A0) (b:A1) (c:A2) (d:A3),gm->(bg iU lO sY E4 C)):De zql:=(fc,i105 (k a) h)
theorem n126 {A0 A1 A2 A3:Type}{P0 P1 P2 P3 P4 P5:qr} (a:A0) (b:A1) (c:A2) (d:A3) (h0:gm) (h1:iU) (h2:lO) (h3:sY) (h4:E4) (h5:P5 a b c d):zlZ zkN:=(eV,n106 b c d h0 h1 h2 h3 h4 h5)
theorem i126 {A0 A1 A2 A3:Type}{P0 P1 P2 P3 P4 P5:qr}{C:Prop} (k:∀(a:A0) (b:A1) (c:A2) (d:A3),gm->iU->(bg,lO,sY,E4,P5 a b c d,C)):(De,gm/\zkN):=(fc,i106 (k a) h)
namespace L2
open PySem PySem.Spec PyProof.Rows
variable {q0:Bool}
noncomputable abbrev Key:=Sum Int Str
noncomputable def xfm:Key->Value->Bool
 | .inl k,v=>Value.isInt k v
 | wm,v=>Value.isStrOf x v
noncomputable def keyH (w:World):Key->Int
 | .inl k=>hashInt k
 | wm=>hashStr w x
theorem xbq:∀{k:Key}{v:Value},xfm k v=true->(∃ i t,k=Qh i/\v=CO)\/(∃ x t,k=Jd x/\v=Wp x t)
 | .inl i,v,h=>by
  show(i5,t,Value.isInt_shape (k:=i) (v:=v) h);show(cH,bw i t rfl e)
 | wm,v,h=>by
  show(i5,t,Value.isStrOf_shape (x:=x) (v:=v) h);show(gX,bw x t rfl e)
theorem xpl (i:Int) (t:Tok):xfm (.inl i) T9=true:=wJ xfm Value.isInt
theorem xp3 (x:Str) (t:Tok):xfm (.inr x) (.str x t)=true:=wJ xfm Value.isStrOf
theorem xvp (a b:Int):rF ((Qh a:Key)=Qh b) F1:=by
 by_cases e:a=b
 .ext cZ; simp
 .have h:¬ (Qh a:Key)=Qh b:=fun q=>e (Qh.inj q);show(aB,decide_eq_false h,(beq_eq_false_iff_ne.mpr e).symm)
theorem xv0 (a b:Str):rF ((Jd a:Key)=Jd b) (cC a b):=by
 by_cases e:a=b
 .ext cZ; simp
 .have h:¬ (Jd a:Key)=Jd b:=fun q=>e (Jd.inj q);rw[decide_eq_false h,decide_eq_false e]
theorem xuy (a:Int) (b:Str):rF ((Qh a:Key)=Jd b) false:=zjE
theorem xvn (a:Str) (b:Int):rF ((Jd a:Key)=Qh b) false:=zjE
noncomputable def xaj (prog:Program) (w:World):PySem.KeyKind prog w Key where
 is:=xfm
 hash:=keyH w
 inj:=fun v a b ha hb=>by
  rcases xbq ha with⟨i,t,rfl,rfl⟩|⟨x,t,rfl,rfl⟩
  .rcases xbq hb with⟨j,u,rfl,e⟩|⟨y,u,rfl,e⟩
   .ext zcq; rw[e1]
   .exact nomatch e
  .rcases xbq hb with⟨j,u,rfl,e⟩|⟨y,u,rfl,e⟩
   .exact nomatch e
   .ext zcq; rw[e1]
 byValue:=fun k v h=>by
  rcases xbq h with⟨i,t,rfl,rfl⟩|⟨x,t,rfl,rfl⟩<;>rfl
 pyHash:=fun hv h=>by
  rcases xbq hv with⟨i,t,rfl,rfl⟩|⟨x,t,rfl,rfl⟩
  .exact wpAny_pyHash_int h
  .exact wpAny_pyHash_str h
 eqBool:=fun hu hv h=>by
  rcases xbq hu with⟨i,t,rfl,rfl⟩|⟨x,t,rfl,rfl⟩
  .rcases xbq hv with⟨j,u,rfl,rfl⟩|⟨y,u,rfl,rfl⟩
   .ext gH xvp; exact wpAny_eqBool_int h
   .ext gH xuy; exact Z0.int_str i t y u _ _ _ _ h
  .rcases xbq hv with⟨j,u,rfl,rfl⟩|⟨y,u,rfl,rfl⟩
   .ext gH xvn; exact Z0.str_int x t j u _ _ _ _ h
   .ext gH xv0; exact wpAny_eqBool_str h
 «strs»:=fun k x t v h=>by
  rcases xbq h with⟨i,u,rfl,e⟩|⟨y,u,rfl,e⟩
  .exact nomatch e
  .ext zcq
   subst e1;cases v<;>rfl
theorem xmd (prog:Program) (w:World) (i:Int) (t:Tok):(xaj prog w).is (.inl i) T9=true:=xpl i t
theorem xme (prog:Program) (w:World) (x:Str) (t:Tok):(xaj prog w).is (.inr x) (.str x t)=true:=xp3 x t
inductive V where
 | non|bl (b:Bool)|int (i:Int)|str (x:Str)|byt (b:Array UInt8)|flt (b:UInt64)|ref (a:Addr)|ty (n:String)
 deriving DecidableEq
noncomputable def RelV:bM V Value
 | .non,u=>u=Jl
 | rM,u=>u=Ye b
 | cB,u=>rR CO
 | kc,u=>(rR,Wp x t)
 | .byt b,u=>(rR,Value.bytes b t)
 | .flt b,u=>(rR,Value.float b t)
 | aA,u=>u=qi
 | .ty n,u=>u=YN n
noncomputable abbrev Vals:bM ag aQ:=Paired RelV
theorem Vals.length {xs:ag}{us:aQ} (r:kL):xs.length=us.length:=YJ r
theorem Vals.get:∀{xs:ag}{us:aQ}{i:Nat}{x:V},kL->vx->∃ u,(aF us u)/\nu
 | _,_,_,_,.nil,e=>yN
 | _,_,0,_,TU,e=>by ext Bx; exact c9 r
 | _,_,aH,x,Fb,e=>by
  show(af,u,h1,h2,Vals.get (i:=i) (x:=x) t uJ);ext aE u qx h2
theorem Vals.set {x:V}{u:Value} (r:nu):∀{xs:ag}{us:aQ} (i:Nat),kL->Vals (xs.set i x) (us.set i u)
 | _,_,_,.nil=>.nil
 | _,_,0,Fb=>vD
 | _,_,aH,dJ q t=>dJ q (Vals.set r i t)
theorem Vals.append:∀{xs ys:ag}{us ws:aQ},kL->Vals ys ws->Vals (xs++ys) (us++ws)
 | _,_,_,_,.nil,s=>s
 | _,_,_,_,vD,s=>.cons r (Vals.append t s)
theorem Vals.take:∀{xs:ag}{us:aQ} (n:Nat),kL->Vals (xs.take n) (us.take n)
 | _,_,0,_=>.nil
 | _,_,_+1,.nil=>.nil
 | _,_,eX,vD=>.cons r (Vals.take n t)
theorem Vals.drop:∀{xs:ag}{us:aQ} (n:Nat),kL->Vals (xs.drop n) (us.drop n)
 | _,_,0,r=>r
 | _,_,_+1,.nil=>.nil
 | _,_,eX,Fb=>Vals.drop n t
noncomputable def RelO:bM bP BG
 | gz,some u=>kP
 | none,none=>True
 | _,_=>False
noncomputable def KV {κ:Type}:bM ie zd:=Paired fun (p:κ × V) (q:κ × Value)=>aK=q.1/\RelV bW q.2
noncomputable def kV:Key->V
 | .inl i=>cB
 | wm=>kc
inductive HO where
 /-- a list -/
 | lst (xs:ag)
 /-- a tuple (never changes) -/
 | tup (xs:ag)
 /-- a dict whose keys are ints and texts; one whose keys are tuples of ints and texts (the empty one is both) -/
 | dK (kvs:aL)|dT (kvs:dC)
 /-- a set of ints: its members,its size -/
 | set (S:Int->Bool) (n:Nat)
 /-- an instance of the class at C,its dict at dx,its attributes -/
 | ins (C dx:Addr) (fs:kK)
 /-- the dict of the instance at x -/
 | own (x:Addr)
 /-- the dict of an exception -/
 | xd (fs:kK)
 /-- a bound method,f of x -/
 | met (f x:Addr)
 /-- a range object lo,lo+1,.. below hi -/
 | rng (lo hi:Int)
 /-- a thing that is known to the object (the script; a dict while a loop walks it): read,never written while it is so -/
 | frz (o:Obj) (u:HO)
 /-- a code object's table -/
 | tbl (ps:gL)
 /-- any other thing,by what is true of its one object (a def of one's own: SetO a S n:=HO.ext fun h=>..) -/
 | ext (φ:Heap->Prop)
noncomputable abbrev Hp:=Addr->(cX HO)
noncomputable def upd (H:Hp) (a:Addr) (o:HO):Hp:=fun b=>(Er,b=a,o,H b)
theorem xj {H:Hp}{a:Addr}{o:HO}:upd H a o a=some o:=by unfold upd; rw[cp]
theorem xg {H:Hp}{a b:Addr}{o:HO} (h:b≠a):upd H a o b=H b:=by unfold upd; rw[aM h]
theorem xed {H:Hp}{a:Addr}{o u:HO}:upd Ft a u=(d4 a u):=by
 funext b; unfold upd; split<;>rfl
theorem xd1 {H:Hp}{a b:Addr}{o u:HO} (h:KQ) (h':iH) (d:o≠u):a≠b:=by
 intro e; ext cZ; show(bO,h,h',d (ZE.inj h'))
theorem xb {H:Hp}{a b:Addr}{o:HO} (h:KQ) (h':dz):a≠b:=by
 intro e; ext cZ; ext cE h h'
section
variable (P:Program) (w:World)
noncomputable def xa6 (H:Hp) (h:Heap) (a:Addr):HO->Prop
  | Lu=>xY/\(zbD,Bo/\(kJ An))
  | .tup xs=>xY/\∃ its:aQ,Bo/\IsTup h a its.toArray
  | ze=>UV
  | .dT kvs=>D4/\Gf/\∃ xs:qL,
      Paired (fun (p:dW × V) (q:dW × zcL)=>(aR,aK,q.1,ax (aW q) (.tup ((aK).map kV)),RelV bW (bS q))) kvs xs /\
      ∃ o es ep,(kJ o)/\o.ExactDict/\kN/\es.toList=xs.map (entryOfKey (tupleKind tV))/\(xs.map (·.1)).Nodup
  | .set S n=>h.SetOf (intKind P w) a S n
  | Fh=>(ax dx (.own a))/\O1/\dx≠a/\(kJ (Yk C dx)) /\
      ∃ mA,R0/\GB/\QR mA (fs.map (·.1))
  | .own _=>∃ o,kJ o
  | .xd fs=>∃ mA,h.Ns1 a mA/\GB
  | .rng lo hi=>∃ t u v,kJ (eP,"range",.fields (zoL 1))
  | K1=>(kJ o)/\xa6 H h a u
  | .tbl ps=>kJ Vk
  | .met f x=>kJ (W6 nQ)
  | .ext φ=>φ h/\(∃ o,kJ o)/\∀ h1 h2:Heap,φ h1->(∀ o,h1.get? a=some o->h2.get? a=some o)->φ h2
noncomputable def HOk (H:Hp) (h:Heap):Prop:=∀ a o,KQ->xa6 P w H h a o
#check _
section
variable {P:Program}{w:World}{H H':Hp}{h h':Heap}{a:Addr}{o:HO}
theorem xa6.lt (x:xa6 P w H h a o):a<h.objs.size:=by
 cases o with
 | lst xs=>obtain⟨_,_,_,_,e⟩:=x; ext ut
 | tup xs=>obtain⟨_,_,_,p⟩:=x; exact p.lt
 | dK kvs=>ext ziP
 | dT kvs=>ext ziP
 | set S n=>obtain⟨o,_,_,_,e,_⟩:122:=x; ext ut
 | ins C dx fs=>obtain⟨_,_,_,e,_⟩:45:=x; ext ut
 | own y=>obtain⟨_,e⟩:=x; ext ut
 | xd fs=>obtain⟨_,⟨_,_,_,e,_⟩,_⟩:62:=x; ext ut
 | rng lo hi=>obtain⟨_,_,_,e⟩:101:=x; ext ut
 | frz ob u=>obtain⟨e,_⟩:=x; ext ut
 | tbl ps=>exact Zv (show kJ _ from x)
 | met f y=>exact Zv (show kJ _ from x)
 | ext φ=>obtain⟨_,⟨_,e⟩,_⟩:43:=x; ext ut
theorem Paired.mapP {α β:Type}{F G:bM α β}:∀{l₁:b7}{l₂:List β},Paired F l₁ l₂->(∀ a b,F a b->G a b)->Paired G l₁ l₂
 | _,_,.nil,_=>.nil
 | _,_,vD,f=>.cons (f _ _ r) (Paired.mapP t f)
theorem xa6.stay (x:xa6 P w H h a o) (k:∀ b u,(b=a\/(ax b (.own a)))->h.get? b=some u->h'.get? b=some u)
    (ho:gZ (ax b (.own a)) (E6 (.own a))) (ht:Gy):xa6 P w H' h' a o:=by
  induction o with
  | lst xs=>ext zch x; show(aO,z,bw its n r qK)
  | tup xs=>obtain⟨z,its,r,ob,e,c⟩:=x; exact⟨z,its,r,ob,qK,c⟩
  | dK kvs=>obtain⟨z,y,⟨vs,r,ob,es,ep,e,c⟩⟩:43:=x; exact⟨z,y,vs,r,Bl ob qK c⟩
  | dT kvs =>
    obtain⟨z,y,⟨xs,r,ob,es,ep,e,c⟩⟩:43:=x;exact⟨z,y,xs,Paired.mapP r fun p q z=>zkA,Bl ob qK c⟩
  | set S n=>obtain⟨ob,es,ep,t,e,c⟩:122:=x; exact⟨122,ob,es,ep,t,qK,c⟩
  | ins C dx fs =>
    obtain⟨d,z,ne,e,⟨mA,⟨od,es,ep,e2,c⟩,r⟩⟩:45:=x;exact(b8,ho _ d,z,ne,qK,⟨mA,(Bl,od,k _ _ (.inr d) e2,c),r⟩)
  | own y=>ext i5 ob x; ext aO ob qK
  | xd fs=>obtain⟨mA,⟨od,es,ep,e,c⟩,r⟩:62:=x; show(aE,mA,Bl od qK c,r)
  | rng lo hi=>obtain⟨t,u,v,e⟩:101:=x; exact⟨101,t,u,v,qK⟩
  | frz ob u ih=>ext i4 e x; show(aO,qK,ih q)
  | tbl ps =>
    have e:kJ Vk:=x;show Pe Vk;exact k a _ gT e
  | met f y =>
    have e:kJ (W6 (.ref y)):=x;show Pe (W6 (.ref y));exact k a _ gT e
  | ext φ=>obtain⟨p,⟨o,e⟩,st⟩:43:=x; show(aE,st _ _ p fun o q=>k _ _ gT q,⟨o,qK⟩,st)
theorem HOk.lt (x:lL) (e:KQ):a<h.objs.size:=(x a o e).lt
theorem HOk.fresh (x:lL) (e:zbR):bz a:=by
 cases q:H a with
 | none=>rfl
 | some u=>show(yY,ZD (x.lt q) e)
theorem HOk.kept (x:lL) (k:Mg):HOk P w H h':=fun a o e =>
 (x a o e).stay (fun b u _ q=>k b u q) Sy Ex
theorem HOk.laid (x:lL) (k:Mg) (hp:zbR) (new:xa6 P w Ft h' a o):HOk P w Ft h':=fun b u e=>by
 have hn:=x.fresh hp;ext CA a
 .ext ul hb xj e; exact new
 .rw [xg hb] at e;exact (x b u e).stay (fun c v _ q=>k c v q) (fun c q=>ON) (Fp ON)
#check _
noncomputable def Rd (H:Hp) (a:Addr) (u:HO):Prop:=(ax a u)\/∃ o,ax a K1
theorem Rd.ok {P:Program}{w:World}{H:Hp}{h:Heap}{a:Addr}{u:HO} (r:Rd H a u) (x:lL):xa6 P w H h a u:=by
 rcases r with r|⟨o,r⟩
 .exact x a u r
 .obtain ⟨_,q⟩:=x a _ r;exact q
noncomputable def Mut:(cX HO)->Prop
 | some (.lst _)=>True
 | some (.dK _)=>True
 | some (.dT _)=>True
 | some (.set _ _)=>True
 | some (.ins _ _ _)=>True
 | some (.ext _)=>True
 | _=>False
section
variable {P:Program}{w:World}{H:Hp}{h h':Heap}{x e:Addr}{o':HO}
theorem HOk.write (ok:lL) (mu:Mut (H x)) (he:WU) (k:zgV) (heo:VX)
    (new:xa6 P w (d4 x o') h' x o'):HOk P w (d4 x o') h':=fun b u q=>by
  have nown:∀ c y,(ax c (.own y))->c≠x:=fun c y r z=>Xt r
  have ntup:∀ c xs,(eR c xs)->c≠x:=fun c xs r z=>Xt r
  ext CA x
  . ext ul hb xj q; exact new
  . rw[xg hb] at q
    by_cases hbe:b=e
    . have q':ax b (.own x):=by
        rcases he with z|z
        . exact absurd (hbe.trans z) hb
        . ext aB hbe z
      ext bB q q' q';show(mV,v,hv,heo,v,av hbe hv)
    . refine (ok b u q).stay (zbK r) (fun c r=>cS (nown c b r) r) fun c xs r=>cS (ntup c xs r) r
      rcases hc with rfl|hc
      . exact hbe
      . rintro rfl
        rcases he with z|z
        . exact nown c b hc z
        . ext bB hc z z; exact hb rfl
#check _
structure Un (fs ex:ao) (H H':Hp) (h h':Heap):Prop where
 keep:∀ b o,(bg,r6,dz,b∉fs,b∉ex,qv)
 slot:∀ b o,(bg,r6,dz,b∈fs,b∉ex,zkb)
 free:∀ b o,(bb,r6,dz,b∉ex,Bw)
 there:(yZ,r6,b∉ex,∃ o',Pf o')
 tups:Gy
 frzs:zlq
 tbls:zgd
section
variable {fs fs' ex ex':List Addr}{H H1 H2:Hp}{h h1 h2 h':Heap}{a x e:Addr}{o:HO}
theorem Un.any (u:Un fs ex H H1 h h1) {b:Addr}{ob:Obj} (q:h.get? b=some ob) (n:dz) (hx:b∉ex):∃ sl,h1.get? b=some { ob with slots:=sl }:=by
 by_cases hb:b∈fs
 .exact u.slot b ob q n hb hx
 .exact ⟨ob.slots,u.keep b ob q n hb hx⟩
theorem Un.kept (k:Mg):Un fs ex H H h h' :=
 ⟨(SL,ob,k b ob q),SL ob ⟨ob.slots,k b ob q⟩,fun _ _ _ n _=>n,fun b ob q _=>(wE,k b ob q),Ex,fun _ _ _ q=>q,fun _ ps q=>⟨#[],jX q⟩⟩
theorem Un.refl:Un fs ex H H h h:=Un.kept Ex
theorem Un.laid (k:Mg) (hp:zbR) (hn:bz a):Un fs ex H Ft h h' where
 keep:=(SL,u,k b u q)
 slot:=SL u ⟨u.slots,k b u q⟩
 free:=fun b u q n _=>(av,xg (ZG (ZD (Zv q) hp)),n)
 there:=fun b u q _=>⟨u,k b u q⟩
 tups:=wK xs ON
 frzs:=fun b u xs q=>ON
 tbls:=(zng,ku q hn)
theorem Un.write (mu:Mut (H x)) (he:WU) (k:zgV) (heo:VX):Un fs ex H (d4 x o) h h':=by
 have hx:(gZ,dz,b≠x):=fun b n z=>Xt n
 have hb:(gZ,dz,b≠e):=fun b n z=>by
  subst z;rcases he with r|r
  .exact hx b n r
  .ext zS n r
 have hm:∀ b u,iH->¬ Mut (some u)->b≠x:=fun b u q nm z=>by subst z; rw[q] at mu; exact nm mu
 refine⟨fun b u q n _ _=>k b u (hb b n) q,fun b u q n _ _=>⟨u.slots,k b u (hb b n) q⟩,fun b u q n _=>(av,xg (hx b n),n),fun b u q _=>?_,
  (wK,xs,cS zaY q),fun b u xs q=>cS zaY q,(zng,xg zaY)⟩
 by_cases hbe:b=e
 .subst hbe; exact heo
 .exact ⟨u,k b u hbe q⟩
#check _
noncomputable def trk (h:Heap) (H:Hp):ao:=(zca).filter fun a=>(H a).isSome
noncomputable def hidT (h:Heap) (H:Hp):Heap:=PySem.W.hideAll h (trk h H)
theorem xpz (h:Heap) (H:Hp):(TK).objs.size=h.objs.size:=PySem.W.hideAll_size _ _
theorem xrp {h:Heap}{H:Hp}{b:Addr}{o:Obj} (e:r6) (n:dz):(TK).get? b=some o :=
 PySem.W.hideAll_get _ e fun hm=>by
  have q:gM (H b):=(ZC.mp hm).2;rw[n] at q; simp at q
theorem xt7 {h:Heap}{H:Hp}{b:Addr}{o:Obj} (e:(TK).get? b=some o):r6/\dz:=by
 show(ay,e',r6,PySem.W.of_hideAll (trk h H) e,dQ e');cases q:H b with
 | none=>rfl
 | some x =>
  have hm:b∈trk h H:=ZC.mpr ⟨ZT.mpr (Zv e'),cM q⟩;have z:(TK).get? b=none:=PySem.W.hideAll_none (trk h H) hm;ext cE z e
noncomputable def xsp (g h:Heap) (L:Addr):bc:=(zca).filterMap fun a=>if a=L\/(gM (g.get? a)) then none else (h.get? a).map fun o=>(a,o)
noncomputable def rest (g h:Heap) (L d:Addr):bc:=(xsp g h L).filter fun p=>cJ (aK≠d)
structure Mod (K:Zd) (mg:fK) (base:Heap):Prop where
 kin:K.In base
 glob:base.Ns mainGlobals mg
 blt:∃ mb,base.Ns builtinsNs mb/\ziz
 nolimit:base.NoLimit
structure Cx where
 prog:Program
 w:World
 K:Zd
 mg:fK
 base:Heap
 A:Around
 N:ai
 s₀:Shared
 H₀:Hp
 env:Env
 outer:lS
 stack:lS
 ex:ao
 fn:Str->Bool
 calm:Bool
 pn:bc
 xe:bj
noncomputable def frs (l:lS):ao:=l.filterMap (·.frame)
noncomputable abbrev Cx.fs (X:Cx):ao:=frs X.outer
noncomputable def Vis (sc:Scope) (x:Str):Prop:=Mx\/GA\/sc.names.lookup x=some .free
noncomputable def Loc (sc:Scope) (x:Str):Prop:=Mx\/GA
noncomputable def Look (env:Env) (h:Heap) (m:fK) (x:Str) (u:Value):Prop :=
 (env.kindOf x=some .local/\m x=some u)\/((env.kindOf x=some .cell\/env.kindOf x=some .free)/\∃ c,env.cells.lookup x=some c/\h.IsCell c (some u))
structure Cx.Ok (X:Cx):Prop where
 mod:zqv
 kind:X.env.scope.kind=.function
 glob:X.env.globals=mainGlobals
 blt:X.env.builtins=builtinsNs
 above:xJ X.env.locals
 inj:∀ x y c,Am->X.env.cells.lookup y=some c->x=y
 has:∀ x,(X.env.kindOf x=some .cell\/X.env.kindOf x=some .free)->∃ c,Am
 cab:∀ x c,zcK->Am->(xJ c)
 hd:iT->X.A.handled=none
 frames:X.A.frames=some X.stack
 stk:X.stack=X.outer\/(X.stack=X.env::X.outer/\X.env.frame=some X.env.locals)
 exf:∀ b∈X.ex,AM/\(xV b)
 bs:(MS,zlg/\X.H₀ b=none)
 bsz:X.base.objs.size<=X.s₀.heap.objs.size
 noex:(MS,b∉X.ex)
 exfs:∀ b∈X.ex,TY
 funs:zpn X.outer
 frf:∀ b∈X.fs,X.H₀ b=none
structure Inv (X:Cx) (pins:bc) (Z:List bP) (H:Hp) (s:Shared):Prop where
 ok:X.Ok
 os:s.os=X.s₀.os
 bare:AllBare s.gens
 base:Un X.fs X.ex X.H₀ H X.s₀.heap s.heap
 loc:∃ m,znw/\∀(i:Nat) (x:Str) (v:V),(bb,sW,aF Z gz,Oq,∃ u,kP/\Look X.env s.heap m x u)
 cell:∀ x c,Am->∃ v,s.heap.IsCell c v
 free:bz X.env.locals
 freeC:∀ x c,Am->(bz c)
 pin:∀ p∈m7,zfm
 hok:HOk X.prog X.w H s.heap
 len:Z.length=X.N.length
section
variable {X:Cx}{pins:List (Addr × Obj)}{Z:List (Option V)}{H H':Hp}{s:Shared}{h':Heap}
theorem Cx.Ok.nofr (ok:X.Ok) {b:Addr}{o:Obj} (e:X.base.get? b=some o):TY:=fun hb=>by
 show(zby,(ok.funs.mem hb).1)
theorem Inv.bs (I:aq):(MS,fY/\dz):=fun b o e =>
 ⟨I.base.keep b o zan (I.ok.bs b o e).2 (I.ok.nofr e) (I.ok.noex b o e),I.base.free b o zan (I.ok.bs b o e).2 (I.ok.noex b o e)⟩
theorem Inv.bk (I:aq):MS fY:=(pV,(I.bs b o e).1)
theorem Inv.mod (I:aq):zqv:=I.ok.mod
theorem Inv.kIn (I:aq):X.K.In s.heap:=I.ok.mod.kin.keeps I.bk
theorem Inv.fr (I:aq):∃ m,Fr X.base X.env.locals s.heap m :=
 let ⟨m,hn,_⟩:=I.loc
 ⟨m,hn,I.bk,zoG⟩
theorem Inv.lt (I:aq):mU X.env.locals:=let ⟨_,hn,_⟩:=I.loc; hn.lt
theorem Inv.sz (I:aq):xJ s.heap.objs.size:=ZZ I.ok.above (JJ I.lt)
theorem Inv.nofs (I:aq) {a:Addr} (h:Ec a):a∉X.fs:=fun hb=>by
 obtain⟨_,o,ho,_⟩:=I.ok.funs.mem hb;show(yY,ZD (Zv ho) (ZZ I.sz h))
theorem Inv.cne (I:aq):xV X.env.locals:=fun x c e z=>by
 ext gQ v o ho hd RD;obtain⟨m,⟨o',es,ep,ho',hd',_⟩,_⟩:62:=(I.loc)
 rw[z,ho'] at ho; cases ho; ext cE hd' hd
theorem Inv.funs (I:aq):XU X.outer:=by
 have all:∀(l:lS),(∀ b∈frs l,b∈X.fs)->(zpn l)->(XU l):=by
  intro l
  induction l with
  | nil=>intro _ _; trivial
  | cons env r ih =>
   intro hs hl;obtain⟨hk,⟨L,o,hf,hn,ho,hd⟩,hr⟩:43:=hl;have hL:L∈X.fs:=hs L (zpG Zn);show(i5,sl,I.base.slot L o ho (I.ok.frf L hL) hL (aC,I.ok.exfs L z hL))
   show(aE,hk,⟨84,L,_,hf,hn,e,hd⟩,ih (nI,hs b (zpG,Zj _ hb)) hr)
 exact all X.outer (fun _ hb=>hb) I.ok.funs
theorem Inv.stack (I:aq):XU X.stack:=by
 rcases I.ok.stk with e|⟨e,hf⟩
 .show(bI,e,I.funs)
 .rw [e];show(dL,m,hn,I.loc)
  refine .cons (yx I.ok.kind) hf hn ?_ I.funs;exact Heap.get?_none_of_le zoG
theorem Inv.stkSub (I:aq):∀ b∈EK,b∈X.env.locals::X.fs:=fun b hb=>by
 rcases I.ok.stk with e|⟨e,hf⟩
 .rw [e] at hb; exact Zj _ hb
 .rw [e] at hb;unfold frs at hb;rw[Jj,hf] at hb;exact hb
theorem Inv.stkFree (I:aq):∀ b∈EK,dz:=fun b hb=>by
 rcases zcm hb with e|hb
 .show(bI,e,I.free)
 .obtain ⟨_,o,ho,_⟩:=I.ok.funs.mem hb;exact I.base.free b o ho (I.ok.frf b hb) (aC,I.ok.exfs b z hb)
theorem Inv.step {g':Array GenState}{t':Nat}{d':Drawn}{ch:ao} (I:aq)
    (hch:UD)
    (keep:mC AM (bg TY CH fY dz qv))
    (slot:mC AM (bg,b∈X.fs,CH,fY,dz,zkb)) (free:∀ b o,bb CH fY dz Bw)
    (there:(yZ,CH,fY,∃ o',Pf o'))
    (tups:Gy) (frzs:zlq) (tbls:zgd)
    (ns:∀ m,znw->h'.Ns X.env.locals m) (hok:Xk) (hg:AllBare g') :
    zgr:=by
  have neL:(mC,X.s₀.heap.get? b=some o,AM):=(pV,ZG (vX I.ok.above));have neC:(yZ,zlg,b∉X.ex,CH):=fun b o e hx hb=>by
    rcases (hch b hb).1 with z|z
    . exact hx z
    . show(yY,vX z)
  have cellK:∀ x c,Am->∀ v,s.heap.IsCell c v->h'.IsCell c v:=fun x c e v ⟨o,ho,hd⟩=>by
    have nch:c∉ch:=(aC,(bS (hch c z)).1 x c e rfl);by_cases hc:c∈X.fs
    . show(i4,sl,slot c o (I.cne x c e) hc nch ho PX)
      exact dI q hd
    . show(aE,o,keep c o (I.cne x c e) hc nch ho PX,hd)
  refine⟨I.ok,I.os,hg,⟨fun b o e n hb hx=>?_,fun b o e n hb hx=>?_,bJ b o e n hx,PP,(fS,tups b xs (I.base.tups b xs e)),(Af,xs,frzs b o xs (I.base.frzs b o xs e)),dh b ps ?_⟩,?_,rT x c,?_,rT x c,iZ,hok,I.len⟩
  . exact keep b o (neL b o e) hb RC (I.base.keep b o e n hb hx) W0
  . show(L4,sl,I.base.slot b o e n hb hx)
    show(mV,sl',e2,slot b _ (neL b o e) hb RC e1 W0,sl',e2)
  . ext L4 o' ND
    exact free b o' RC e1 W0
  . ext L4 o' ND
    exact there b o' RC e1
  . show(L4,m1,I.base.tbls b ps e)
    show(mV,m2,e2,tbls b _ e1,m1++m2,cK e2 Array.append_assoc)
  . ext zci
    show(dc,m,ns m hn,fun i x v e1 e2 e3=>?_);show(af,u,r,l,hl i x v e1 e2 e3);ext fE u r;rcases l with l|⟨k,c,e,z⟩
    . ext cH l
    . show(gX,⟨k,c,e,cellK x c e _ z⟩)
  . show(mV,v,z,RD,v,cellK x c e v z)
  . obtain⟨m,⟨o,_,_,ho,_⟩,_⟩:62:=(I.loc)
    exact free _ o (aC,(hch _ z).2.1 rfl) ho I.free
  . ext gQ v o ho hd RD
    exact free c o (aC,(bS (hch c z)).1 x c e rfl) ho PX
  . obtain⟨e,n,ne,nf,d⟩:45:=SB
    have nch:aK∉ch:=(aC,(bS (hch aK z)).2 p hp rfl);exact(b8,keep aK bW ne nf nch e n,free aK bW nch e n,ne,nf,d)
theorem Inv.un {t':Nat} (I:aq) (u:Un X.fs [] H H' s.heap h') (hok:Xk):cT H' Cj:=by
 obtain⟨m,⟨o,es,ep,ho,r⟩,_⟩:62:=id I.loc;obtain⟨sl,hL⟩:=u.any ho I.free ah;exact I.step (g':=s.gens) (d':=s.drawn) (ch:=[]) lG (fun b o _ hb _ e n=>u.keep b o e n hb ah) (fun b o _ hb _ e n=>u.slot b o e n hb ah) (fun b o _ e n=>u.free b o e n ah) (fun b o _ e=>u.there b o e ah) u.tups u.frzs u.tbls (fun m' hm=>by
  obtain⟨o',es',ep',ho',r'⟩:102:=hm;ext ziC) hok I.bare
theorem Inv.call {g':Array GenState}{t':Nat}{d':Drawn}{ch:ao} (I:aq) (u:Un EK ch H H' s.heap h') (hok:Xk) (hg:AllBare g')
    (hch:UD) :
    zgr:=by
  obtain⟨m,⟨o,es,ep,ho,r⟩,_⟩:62:=id I.loc;obtain⟨sl,hL⟩:=u.any ho I.free (aC,(hch _ z).2.1 rfl)
  exact I.step (ch:=ch) hch (fun b o hL hb hc e n=>u.keep b o e n (aC,(zcm z).elim hL hb) hc) (fun b o _ _ hc e n=>u.any e n hc) (fun b o hc e n=>u.free b o e n hc) (Af,hc,u.there b o e hc) u.tups u.frzs u.tbls (fun m' hm=>by
    obtain⟨o',es',ep',ho',r'⟩:102:=hm;ext ziC) hok hg
theorem Inv.turned {t':Nat}{it:Addr} (I:aq) (k:NP qv) (hn:bz it) (hL:it≠X.env.locals)
    (h1:it∈X.ex\/(xJ it)) (h2:xV it) (h3:HM it):iz Cj:=by
  have nit:(pW,iH,b≠it):=fun b u e z=>tG hn e
  refine I.step (g':=s.gens) (d':=s.drawn) (ch:=rW) gP (OT WW) (OT ⟨o.slots,WW⟩) (fun _ _ _ _ n=>n)
    (Af hc ⟨o,WW⟩) (fun _ _ e=>e) Pj zmt (am m hm) vN I.bare
  . ext sR;exact bR h1 hL h2 h3
  . obtain⟨o,es,ep,ho,r⟩:102:=hm
    exact(Bl,o,k _ o (Zx hL) ho,r)
  . refine (zeg).stay (zbK q) Sy Ex
    rcases hc with z|z
    . show(aB,z,nit b u e)
    . exact nit c _ z
theorem Inv.tok (I:aq) (t:Nat):iz { s with toks:=t }:=I.un (h':=s.heap) (t':=t) Un.refl I.hok
theorem Inv.kept {t':Nat} (I:aq) (k:zgy):iz Cj:=I.un (Un.kept k) (I.hok.kept k)
theorem Inv.laid {a:Addr}{o:HO}{t':Nat} (I:aq) (k:zgy) (hp:Ec a) (new:xa6 X.prog X.w Ft h' a o) :
    cT Ft Cj:=I.un (Un.laid k hp (I.hok.fresh hp)) (I.hok.laid k hp new)
theorem Inv.write {x e:Addr}{o:HO}{t':Nat} (I:aq) (mu:Mut (H x)) (he:WU) (k:(mT,e,s.heap.get? b=some u,h'.get? b=some u)) (heo:VX)
    (new:xa6 X.prog X.w (d4 x o) h' x o):cT (d4 x o) Cj:=I.un (Un.write mu he k heo) (I.hok.write mu he k heo new)
theorem Inv.weak {σ':List bP} (I:aq) (hl:σ'.length=Z.length) (w:∀(i:Nat) v,(aF σ' gz)->(aF Z gz)):Go σ' H s :=
 ⟨I.ok,I.os,I.bare,I.base,let ⟨m,hn,hl'⟩:=I.loc; ⟨m,hn,fun i x v e1 e2 e3=>hl' i x v e1 (w i v e2) e3⟩,I.cell,I.free,I.freeC,I.pin,I.hok,hl.trans I.len⟩
theorem Inv.pins_of {pins':bc} (I:aq) (h:∀ p∈pins',zfm):Inv X pins' Z H s :=
 ⟨I.ok,I.os,I.bare,I.base,I.loc,I.cell,I.free,I.freeC,(eF,(KU).elim (aC,I.pin p (ZR _ z)) (h p)),I.hok,I.len⟩
theorem xkx {N:ai} (hN:N.Nodup) {i j:Nat}{x:Str} (a:aF N x) (b:b9 N x):i=j:=by
 show(L4,h1,Zi.mp a);obtain⟨h2,e2⟩:=Zi.mp b;exact (List.getElem_inj hN).mp (e1.trans e2.symm)
theorem xjy {M:Model}{A:Around}{E:bj}{i:Nat}{x:Str}{v:V}{u:Value}{Q:vv} (I:aq) (hN:X.N.Nodup) (hi:sW) (hx:AF) (r:kP)
    (h:∀ s',(Go oZ H s')->(∃ a,Jn a s.heap s'.heap/\(a=X.env.locals\/X.env.cells.lookup x=some a))->Q () s') (hf:Aj:=by first|ext wf|ext zG|ext d8):wpAny M A zqu Q E s:=by
  show(af,m,hn,hl,id I.loc);show(rS,hcls,X.env.scope.kind == .class||(X.env.scope.kind == .module&&X.env.locals != X.env.globals),fh I.ok.kind)
  show(dG,hiσ,i<Z.length,(av,I.len,ft hi),cne,I.cne);have tracked:∀{a:Addr}{h':Heap},(∃ o,znB/\(bz a))->Jn a s.heap h'->HOk X.prog X.w H h':=fun {a h'} ha hs b ob e=>by
    obtain⟨_,_,hfree⟩:62:=ha;refine (I.hok b ob e).stay (fun c w' hc q=>(hs.2 c ?_).trans q) Sy Ex;rintro rfl;rcases hc with rfl|hc
    . ext cE hfree e
    . ext cE hfree hc
  rcases hx with hk|hk
  . refine wpAny_storeName_local hk hn (aI h' hn' hs) hcls
    obtain⟨oL,_,_,hoL,_⟩:102:=id hn;refine h _ ⟨I.ok,I.os,I.bare,⟨fun b o e n hb hx=>?_,fun b o e n hb hx=>?_,I.base.free,PP,I.base.tups,I.base.frzs,I.base.tbls⟩,(dI,hn',fun j y v' e1 e2 e3=>?_),rT y c,I.free,I.freeC,iZ,tracked ⟨oL,hoL,I.free⟩ hs,zqi⟩ (dI hs gT)
    . exact (hs.2 b (ZG (vX I.ok.above))).trans (I.base.keep b o e n hb hx)
    . show(mV,sl,e1,I.base.slot b o e n hb hx,sl,(hs.2 b (ZG (vX I.ok.above))).trans e1)
    . show(mV,o',e1,ND,o',(hs.2 b (ZG (vX I.ok.above))).trans e1)
    . by_cases hj:j=i
      . show(zgl,.inl ⟨hk,ah⟩)
      . show(zju,hl j y v' e1 e2 e3);rcases q with⟨k,e⟩|⟨k,c,e,z⟩
        . refine .inl (dQ k)
          have:y≠x:=fun e=>hj (xkx hN e1 (e▸hi));simp[this,e]
        . show(gX,⟨k,c,e,znm⟩)
    . show(mV,w',z,I.cell y c e,w',znm)
    . obtain⟨e,n,ne,nf,d⟩:45:=SB
      exact(b8,(hs.2 aK ne).trans e,n,ne,nf,d)
  . have hfn:zcK:=by
      rcases hf with z|z
      . exact z
      . ext cE z hk
    obtain⟨c,hc⟩:=I.ok.has x (.inl hk);obtain⟨w',z⟩:=I.cell x c hc;refine wpAny_storeName_cell I.ok.kind hk hc z (aI h' hc' hs);show(af,oc,hoc,hocd,id z);refine h gJ ⟨I.ok,I.os,I.bare,⟨fun b o e n hb hx=>?_,fun b o e n hb hx=>?_,I.base.free,PP,I.base.tups,I.base.frzs,I.base.tbls⟩,⟨m,hn.sameBut hs (Zx (cne x c hc)),fun j y v' e1 e2 e3=>?_⟩,rT y c',I.free,I.freeC,iZ,tracked ⟨oc,hoc,I.freeC x c hc⟩ hs,zqi⟩ ⟨c,hs,.inr hc⟩
    . exact (hs.2 b (ZG (vX (I.ok.cab x c hfn hc)))).trans (I.base.keep b o e n hb hx)
    . show(mV,sl,e1,I.base.slot b o e n hb hx,sl,(hs.2 b (ZG (vX (I.ok.cab x c hfn hc)))).trans e1)
    . show(mV,o',e1,ND,o',(hs.2 b (ZG (vX (I.ok.cab x c hfn hc)))).trans e1)
    . by_cases hj:j=i
      . show(zgl,.inr ⟨.inl hk,c,hc,hc'⟩)
      . show(zju,hl j y v' e1 e2 e3);rcases q with q|⟨k,c',e,z'⟩
        . ext cH q
        . show(Ai,⟨k,c',e,z'.sameBut hs ?_⟩)
          rintro rfl;exact hj (xkx hN e1 (I.ok.inj _ _ _ e hc▸hi))
    . by_cases hcc:c'=c
      . subst hcc; exact fC hc'
      . show(mV,w2,z2,I.cell y c' e,w2,z2.sameBut hs hcc)
    . obtain⟨e,n,ne,nf,d⟩:45:=SB
      refine(b8,(hs.2 aK ?_).trans e,n,ne,nf,d);intro q;rw[q,hoc] at e;have q':oc=bW:=ZE.inj e;exact d w' (dE q' hocd)
theorem xhw {M:Model}{A:Around}{E:bj}{i:Nat}{x:Str}{v:V}{u:Value}{Q:vv} (I:aq) (hN:X.N.Nodup) (hi:sW) (hx:AF) (r:kP)
    (h:PH (Go oZ H s')) (hf:Aj:=by first|ext wf|ext zG|ext d8):wpAny M A zqu Q E s :=
  xjy I hN hi hx r (fun s' I' _=>h s' I') hf
theorem Inv.call' {s':Shared}{ch:ao} (I:aq) (ho:s'.os=s.os) (u:Un EK ch H H' s.heap s'.heap) (hok:HOk X.prog X.w H' s'.heap) (hg:O7)
    (hch:UD):sV:=by
  obtain⟨h',g',d',t',o'⟩:=s';show(tQ,o',s.os,ho);exact I.call (g':=g') (t':=t') (d':=d') u hok hg hch
#check _
noncomputable abbrev XK:=Addr->(mF Addr)
noncomputable abbrev St:=List bP
noncomputable abbrev VK:=pP
noncomputable abbrev TE:=St->tX
noncomputable abbrev TT:=St->(uy vt)
noncomputable abbrev TA:=St->(uy zi)
structure Ends where
 nx:kU
 rt:VK
 bk:kU:=uM
 ct:kU:=uM
noncomputable abbrev TS:=Ends->kU
noncomputable def EP (X:Cx) (pins:bc) (Z:St) (Q:VK) (u:Value) (s':Shared):Prop:=∃ v H',sV/\kP/\CP
noncomputable def TP (X:Cx) (pins:bc) (Z:St) (Q:vt) (b:Bool) (s':Shared):Prop:=∃ H',sV/\Q b H'
noncomputable def AP (X:Cx) (pins:bc) (Z:St) (Q:zi) (us:aQ) (s':Shared):Prop:=∃ vs H',sV/\EZ/\Q vs H'
noncomputable def SP (X:Cx) (pins:bc) (D:Ends) (f:Flow) (s':Shared):Prop :=
 match f with
 | .next=>(IM,D.nx σ' H')
 | .brk=>(IM,D.bk σ' H')
 | .cont=>(IM,D.ct σ' H')
 | .ret u=>∃ v σ' H',zcg/\kP/\D.rt v H'
noncomputable def PE (X:Cx) (e:Expr) (t:TE):Prop :=
 (ziS,aq->Cf->wpAny aJ X.A ww lJ X.xe s)
noncomputable def PT (X:Cx) (e:Expr) (t:TT):Prop :=
 (Mp,vt,aq->Cf->wpAny aJ X.A (isTrue e X.env ww) PZ X.xe s)
noncomputable def PW (X:Cx) (e:Expr) (t:TT):Prop :=
 ∀(whole:Tj) (pins:bc) (s:Shared) (Z:St) (H:Hp) (Q:vt),aq->Cf->wpAny aJ X.A zpU PZ X.xe s
theorem PW.pt {X:Cx}{e:Expr}{t:TT} (h:PW X e t):PT X e t:=h _
noncomputable def PA (X:Cx) (es:iF) (t:TA):Prop :=
 ∀(pos:Pos) (pins:bc) (s:Shared) (Z:St) (H:Hp) (Q:zi),aq->Cf->wpAny aJ X.A (spliced yk) (AP X pins Z Q) X.xe s
noncomputable def PS (X:Cx) (st:Stmt) (t:TS):Prop :=
 (zgq,wpAny aJ X.A (exec st X.env) (SP X pins D) X.xe s)
noncomputable def PSs (X:Cx) (st:BR) (t:TS):Prop :=
 (zgq,wpAny aJ X.A (execs st X.env) (SP X pins D) X.xe s)
theorem thn {α:Type}{t:Sem α}{Q Q':eQ α}{M:Model}{A:Around}{E:bj}{s:Shared} (h:wpAny M A t Q E s) (hQ:∀ a s,Q a s->Q' a s):wpAny M A t Q' E s:=Jk h hQ fun _ _ x=>x
section
variable {X:Cx}
theorem bin {a b:Expr}{ta tb:TE} (ha:o7) (hb:yH) {pins:bc}{s:Shared}{Z:St}{H:Hp}{R:V->pP} (I:aq) (h:zjX)
    {α:Type}{Q:eQ α}{f:Value->Value->Sem α}
    (hf:(zhN,wpAny aJ X.A (f v u) Q X.xe s2)) :
    wpAny aJ X.A EE (jN,s₁,wpAny aJ X.A Bd (fun u s₂=>wpAny aJ X.A (f v u) Q X.xe s₂) X.xe s₁) X.xe s:=by
  show(kD,ha pins s Z H _ I h,fun v s1 ⟨x,H1,I1,r1,q1⟩=>?_);show(kD,hb pins s1 Z H1 _ I1 q1,fun u s2 ⟨y,H2,I2,r2,q2⟩=>?_);exact hf v u s2 x y H2 I2 r1 r2 q2
@[reducible] def oV:(bM,Option (Option V),V->Prop)
 | some gz,k=>k v
 | _,_=>False
theorem xxj:∀{o:Option (Option V)}{k:V->Prop},oV o k->∃ v,(nJ,o,gz,k v)
 | some gz,_,h=>jB v h
@[reducible] def iV:V->(bM V Ru)
 | cB,CL,k=>k i j
 | _,_,_=>False
theorem xn1:∀{x y:V}{k:Ru},iV x y k->∃ i j,(aR,x,cB,y=CL,k i j)
 | cB,CL,_,h=>dA i j rfl h
@[reducible] def lV:bM ag (bM V ag)
 | uz,k=>k v r
 | [],_=>False
theorem xsg:∀{l:ag}{k:bM V ag},lV l k->∃ v r,l=uz/\k v r
 | uz,_,h=>bw v r rfl h
@[reducible] def nV:bM ag Prop
 | [],p=>p
 | df,_=>False
theorem xr7:∀{l:ag}{p:Prop},nV l p->l=[]/\p
 | [],_,h=>eG h
@[reducible] def tVar (i:Nat) (Z:St) (H:Hp) (Q:VK):Prop:=oV Z[i]? fun v=>Q v H
@[reducible] def tC (v:V):TE:=(FG,Q v H)
theorem xvi {i:Nat}{x:Str}{pos:Pos} (hN:sW) (hv:Oq) (hd:mP:=by decide) (hcd:zlV:=by decide):PE X sM (tVar i):=by
 intro pins s Z H Q I h;show(af,v,e,h,xxj h);ext zci
 show(af,u,r,l,hl i x v hN e hv);have fin:EP X pins Z Q u s:=zbP
 rcases l with⟨hk,hm⟩|⟨hk,c,hc,hcell⟩
 .exact wpAny_Name (zjT fin) hd
 .rcases hk with hk|hk
  .exact wpAny_Name (zjD fin) hd
  .exact wpAny_Name (wpAny_loadName_free I.ok.kind hk hc hcell fin hcd) hd
theorem xm {i j pos}:zaE cB (tC (.int i)):=(D0,wpAny_Constant_int (bC cB H jz gs h))
theorem xc4 {b j pos}:zaE (.bool b) (tC (.bl b)):=(D0,Constant_bool (cN rM H I h))
theorem xb4 {j pos}:PE X (.Constant .none j pos) (tC .non):=(D0,Constant_none (cN .non H I h))
theorem xbu {x j pos}:zaE kc (tC (.str x)):=(D0,Calls.Constant_str (bC kc H jz gs h))
noncomputable def Gl (X:Cx) (x:Str):Prop:=X.env.kindOf x=some .globalImplicit
theorem xgt {E:bj}{pins:bc}{s:Shared}{Z:St}{H:Hp}{x:Str}{u:Value}{pos:Pos}{Q:bj} (I:aq) (hg:rp) (hm:X.mg x=some u) (h:Q u s)
    (hd:mP:=by decide):wpAny aJ X.A (jx sM) Q E s :=
  Calls.Name_function_global I.ok.kind hg (Calls.loadGlobal_global zhE hm h) hd
theorem xcs {E:bj}{pins:bc}{s:Shared}{Z:St}{H:Hp}{x:Str}{u:Value}{pos:Pos}{Q:bj} (I:aq) (hg:rp) (hm:qP x) (hv:zmZ) (h:Q u s)
    (hn:HJ:=by decide) (hd:mP:=by decide):wpAny aJ X.A (jx sM) Q E s:=by
  show(af,mb,h1,h2,I.mod.blt)
  exact Calls.Name_function_global I.ok.kind hg (Calls.loadGlobal_builtin zhE hm (by rw[I.ok.blt]; exact h1.keeps I.bk) ((h2 x hn).trans hv) h) hd
theorem xg8 {x:Str}{v:V}{u:Value}{pos:Pos} (hg:rp) (hm:X.mg x=some u) (r:kP) (hd:mP:=by decide):PE X sM (tC v) :=
 (D0,xgt I hg hm zbP hd)
theorem xfd {x:Str}{v:V}{u:Value}{pos:Pos} (hg:rp) (hm:qP x) (hv:zmZ) (r:kP) (hn:HJ:=by decide) (hd:mP:=by decide):PE X sM (tC v) :=
 (D0,xcs I hg hm hv zbP hn hd)
variable {a b:Expr}{ta tb:TE}{pos:Pos}
noncomputable def PC (X:Cx) (op:CmpOp) (a b:Expr) (t:TE):Prop :=
 ∀(pins:List (Addr × Obj)) (s:Shared) (Z:St) (H:Hp) (Q:VK),aq->Cf ->
  wpAny aJ X.A EE (jN,s₁,wpAny aJ X.A Bd (fun u s₂=>wpAny aJ X.A (compareOp op v u) lJ X.xe s₂) X.xe s₁) X.xe s
theorem xlv (b:Expr) {op:CmpOp} (h:op≠.In) (h2:op≠.NotIn):Do:=by
 show(rL,e1,op,CmpOp.In,by cases op<;>first|rfl|ext iP h)
 show(rL,e2,op,CmpOp.NotIn,by cases op<;>first|rfl|ext iP h2)
 ext znc
inductive tB_i (x:V) (H1:Hp) (Q:vt):Prop
 | mk (c) (e_:x=.bl c) (r_:Q c H1)
noncomputable def tB (t:TE):TT:=(iO,Q,t Z H fun x H1=>tB_i x H1 Q)
theorem xvu {op:CmpOp}{t:TE} (h:PC X op a b t) (h1:Do:=by first|exact xlv _ ap ap|rfl):PE X Nk t:=fun pins s Z H Q I hw=>wpAny_Compare1 (h pins s Z H Q I hw) h1
theorem xdn {op:CmpOp}{t:TE} (h:PC X op a b t) (h1:Do:=by first|exact xlv _ ap ap|rfl):PT X Nk (tB t):=by
 intro pins s Z H Q I hw;refine wpAny_isTrue_Compare1 (thn (h pins s Z H _ I hw) fun v s1 h1=>thn h1 fun u s2 h2=>thn h2 fun c s3 ⟨x,H1,I1,r1,q1⟩=>?_) h1;ext znK
theorem xbg {e:Expr}{t:TE} (h:PE X e t) (he:zgI zpU e.pos:=by ext Gp):PT X e (tB t):=by
 intro pins s Z H Q I hw;refine isTrue_plain (thn (h pins s Z H _ I hw) fun v s1 ⟨x,H1,I1,r1,q1⟩=>?_) (he _);ext znK
variable {tA tB':TT}{rest:List Expr}
noncomputable def tAnd (t u:TT):TT:=xL c (cm,c,u Z H1 Q,Q false H1)
noncomputable def tOr (t u:TT):TT:=xL c (cm,c,Q true H1,u Z H1 Q)
noncomputable def tNot (t:TT):TT:=(xL,c,Q (! c) H1)
theorem xeg (ha:Ko):Eg .And [a] tA:=by
 intro wh pins s Z H Q I h;refine isTrue_and (thn (ha pins s Z H Q I h) (dh c s1 ?_));cases c with
 | true=>exact isTrue_and_nil e
 | false=>exact e
theorem xc7 (ha:Ko):Eg .Or [a] tA:=by
 intro wh pins s Z H Q I h;refine isTrue_or (thn (ha pins s Z H Q I h) (dh c s1 ?_));cases c with
 | false=>exact isTrue_or_nil e
 | true=>exact e
theorem xfh (ha:Ko) (hb:Eg .And FJ tB'):Eg .And (a::FJ) (tAnd tA tB'):=by
 intro wh pins s Z H Q I h;refine isTrue_and (thn (ha pins s Z H _ I h) (vy c s1 H1 I1 q1));cases c with
 | true=>exact hb wh pins s1 Z H1 Q I1 q1
 | false=>ext aE H1 I1 q1
theorem xdz (ha:Ko) (hb:Eg .Or FJ tB'):Eg .Or (a::FJ) (tOr tA tB'):=by
 intro wh pins s Z H Q I h;refine isTrue_or (thn (ha pins s Z H _ I h) (vy c s1 H1 I1 q1));cases c with
 | true=>ext aE H1 I1 q1
 | false=>exact hb wh pins s1 Z H1 Q I1 q1
theorem xb5 (ha:Ko):PT X (.UnaryOp .Not a pos) (tNot tA):=by
 intro pins s Z H Q I h;exact isTrue_not (ha pins s Z H (fun c H1=>Q (! c) H1) I h)
inductive xt0 (tb:TE) (Z:St) (x:V) (H1:Hp) (Q:VK):Prop
 | mk (c) (e_:x=.bl c) (r_:(cm,c,tb Z H1 Q,Q (.bl false) H1))
noncomputable def xwi (ta tb:TE):TE:=(wZ,xt0 tb Z x H1 Q)
inductive xue (x:V) (H1:Hp) (Q:VK):Prop
 | mk (c) (e_:x=.bl c) (r_:Q (.bl (! c)) H1)
noncomputable def xxb (ta:TE):TE:=(wZ,xue x H1 Q)
theorem xei {op}{t:TE} (h:PE X a t):zeL op [a] t:=fun pins s Z H Q I hw=>BoolOp_one (h pins s Z H Q I hw)
theorem xc1 (ha:o7) (hb:zeL .And FJ tb):zeL .And (a::FJ) (xwi ta tb):=by
 intro pins s Z H Q I h;refine BoolOp_and (thn (ha pins s Z H _ I h) fun v s1 ⟨x,H1,I1,r1,q1⟩=>?_);ext zaQ c q1;refine Ym ?_;cases c with
 | true=>exact hb pins s1 Z H1 Q I1 q1
 | false=>exact(cN,.bl false,H1,I1,q1)
theorem xus (ha:o7):PE X (.UnaryOp .Not a pos) (xxb ta):=by
 intro pins s Z H Q I h;refine UnaryOp_ (thn (ha pins s Z H _ I h) fun v s1 ⟨x,H1,I1,r1,q1⟩=>?_);ext zaQ c q1;exact not_of (Ym (cN,.bl (! c),H1,I1,q1))
noncomputable def tIf (t:TT) (ta tb:TE):TE:=xL c (cm,c,ta Z H1 Q,tb Z H1 Q)
theorem xhr {c:Expr} (hc:PT X c tA) (ha:o7) (hb:yH):PE X (.IfExp c a b pos) (tIf tA ta tb):=by
 intro pins s Z H Q I h;refine wpAny_IfExp (thn (hc pins s Z H _ I h) (vy d s1 H1 I1 q1));cases d with
 | true=>exact ha pins s1 Z H1 Q I1 q1
 | false=>exact hb pins s1 Z H1 Q I1 q1
#check _
noncomputable def SqL (K:Zd) (H:Hp) (a:Addr) (xs:ag):Prop :=
 Rd H a (.lst xs) \/
  (zqg,zpp/\(zgP,o.cls=Sb,zeq))
noncomputable def SqT (K:Zd) (H:Hp) (a:Addr) (xs:ag):Prop :=
 Rd H a (.tup xs) \/
  (zqg (zgP,zpp,o.cls=zdw))
noncomputable def absV:Value->(cX V)
 | .none=>some .non
 | .bool b=>some rM
 | .int i _=>bv i
 | .str x _=>some kc
 | .bytes b _=>some (.byt b)
 | .float b _=>some (.flt b)
 | aA=>cP
 | eY n=>some (.ty n)
 | _=>none
theorem RelV.abs {x:V}{u:Value} (r:nu):absV u=some x:=by
 cases x with
 | non=>ext hJ r
 | bl _=>ext hJ r
 | int _=>ext FD
 | str _=>ext FD
 | byt _=>ext FD
 | flt _=>ext FD
 | ref _=>ext hJ r
 | ty _=>ext hJ r
theorem RelV.inj {x y:V}{u:Value} (r:nu) (q:gS):x=y:=ZE.inj (r.abs.symm.trans q.abs)
theorem Vals.inj:∀{xs ys:ag}{us:aQ},kL->Vals ys us->xs=ys
 | _,_,_,.nil,.nil=>rfl
 | _,_,_,vD,dJ r' t'=>(cK,r.inj r',Vals.inj t t')
section
variable {X:Cx}{pins:List (Addr × Obj)}{Z:St}{H:Hp}{s:Shared}{a:Addr}{xs ys:List V}
theorem SqL.of {K:Zd} (h:oR a):mW:=.inl (.inl h)
theorem SqT.of {K:Zd} (h:eR a xs):Ic:=.inl (.inl h)
theorem Inv.list (I:aq) (h:SqL X.K H a xs):∃ its:aQ,Bo/\PlainL s.heap a its.toArray/\xY:=by
 rcases h with h|⟨o,its,n,hk,hc,hd,hs,hz,r⟩
 .obtain ⟨z,its,n,r,e⟩:=h.ok I.hok;exact bi its r ⟨84,_,n,e,rfl,rfl,rfl⟩ z
 .show(zgC,⟨84,o,n,I.kIn a o hk,hc,hd,by simpa using hs⟩)
theorem Inv.tuple (I:aq) (h:SqT X.K H a xs):∃ its:aQ,Bo/\IsTup s.heap a its.toArray/\xY:=by
 rcases h with h|⟨o,its,n,hk,hc,hs,hz,r⟩
 .obtain ⟨z,its,r,p⟩:=h.ok I.hok;exact bi its r p z
 .show(zgC,(bi,o,I.kIn a o hk,hc,⟨n,by simpa using hs⟩))
theorem Inv.list_inj (I:aq) (h:SqL X.K H a xs) (h':SqL X.K H a ys):xs=ys:=by
 obtain⟨its,r,⟨o,n,e,_,_,d⟩,_⟩:63:=I.list h;obtain⟨its',r',⟨o',n',e',_,_,d'⟩,_⟩:63:=I.list h';ext zfc
theorem Inv.tuple_inj (I:aq) (h:SqT X.K H a xs) (h':SqT X.K H a ys):xs=ys:=by
 obtain⟨its,r,⟨o,e,_,n,d⟩,_⟩:63:=I.tuple h;obtain⟨its',r',⟨o',e',_,n',d'⟩,_⟩:63:=qe h';ext zfc
#check _
noncomputable abbrev Cx.wish (X:Cx) (E:bj):Cx:={ X with xe:=E }
noncomputable abbrev Cx.nox (X:Cx):Cx:=X.wish uM
theorem Cx.Ok.wish {X:Cx} (ok:X.Ok) (E:bj):(KO).Ok :=
 ⟨ok.mod,ok.kind,ok.glob,ok.blt,ok.above,ok.inj,ok.has,ok.cab,ok.hd,ok.frames,ok.stk,ok.exf,ok.bs,ok.bsz,ok.noex,ok.exfs,ok.funs,ok.frf⟩
theorem Cx.Ok.unwish {X:Cx}{E:bj} (ok:(KO).Ok):X.Ok :=
 ⟨ok.mod,ok.kind,ok.glob,ok.blt,ok.above,ok.inj,ok.has,ok.cab,ok.hd,ok.frames,ok.stk,ok.exf,ok.bs,ok.bsz,ok.noex,ok.exfs,ok.funs,ok.frf⟩
section
variable {X:Cx}{pins:List (Addr × Obj)}{Z:St}{H:Hp}{s:Shared}{E:Value->Shared->Prop}
theorem Inv.wish (I:aq) (E:bj):Inv KO pins Z H s:=⟨I.ok.wish E,I.os,I.bare,I.base,I.loc,I.cell,I.free,I.freeC,I.pin,I.hok,I.len⟩
theorem Inv.unwish (I:Inv KO pins Z H s):aq:=⟨I.ok.unwish,I.os,I.bare,I.base,I.loc,I.cell,I.free,I.freeC,I.pin,I.hok,I.len⟩
theorem SP.unwish {D:Ends}{f:Flow}{s':Shared} (h:SP KO pins D f s'):SP X pins D f s':=by
 cases f with
 | next=>ext UW
 | brk=>ext UW
 | cont=>ext UW
 | ret u=>obtain⟨v,σ',H',I,r,q⟩:103:=h; exact⟨103,v,σ',H',I.unwish,r,q⟩
theorem PSs.nox {st:BR}{t:TS} (h:PSs X.nox st t):PSs X st t:=fun pins s Z H D I hw =>
 Jk (h pins s Z H D (I.wish _) hw) (fun _ _ q=>q.unwish) (tP,Ya z)
#check _
section
variable {X:Cx}{st:Stmt}{rest:List Stmt}{t u:TS}{e:Expr}{te:TE}{pos:Pos}
noncomputable def xww:TS:=lU tK
noncomputable def tSeq (t u:TS):TS:=(lU,t Hc Z H)
theorem x9:PSs X [] xww:=fun _ _ Z H _ I h=>QW (bw Z H I h)
theorem xh (h1:SU) (h2:PSs X rest u):PSs X (st::rest) (tSeq t u):=by
 intro pins s Z H D I h;show(zmN,h1 pins s Z H Hc I h);cases f with
 | next =>
  show(gQ,σ',H',I',q,q);exact h2 pins s1 σ' H' D I' q
 | ret v=>exact q
 | brk=>exact q
 | cont=>exact q
theorem xk (h1:SU):PSs X [st] t:=by
 intro pins s Z H D I h;show(zmN,h1 pins s Z H D I h);cases f with
 | next=>exact QW q
 | ret v=>exact q
 | brk=>exact q
 | cont=>exact q
theorem Inv.quiet {pins:bc}{Z:St}{H:Hp}{s:Shared} (I:aq):interactive X.env=false:=wJ interactive I.ok.kind
noncomputable def xxk (te:TE):TS:=(lU,te Z H fun _ H1=>D.nx Z H1)
theorem xay (he:tE) (hs:zbt e none pos.line false:=by rfl):PS X (.Expr e pos) (xxk te):=by
 intro pins s Z H D I h;exact wpAny_Expr_any (thn (he pins s Z H _ I h) fun v s1 ⟨x,H1,I1,r1,q1⟩=>bw Z H1 I1 q1) I.quiet hs
noncomputable def tRet (te:TE):TS:=(lU,te Z H D.rt)
theorem xu (he:tE):PS X (.Return (some e) pos) (tRet te):=by
 intro pins s Z H D I h;exact wpAny_Return_some (thn (he pins s Z H _ I h) fun v s1 ⟨x,H1,I1,r1,q1⟩=>⟨103,x,Z,H1,I1,r1,q1⟩)
noncomputable def tIfS (c:TT) (t u:TS):TS:=(lU,c Z H fun b H1=>(cm,b,t D Z H1,u D Z H1))
theorem xan {c:Expr}{a b:BR}{tc:TT} (hc:PT X c tc) (ha:PSs X a t) (hb:PSs X b u):PS X (.If c a b pos) (tIfS tc t u):=by
 intro pins s Z H D I h;refine wpAny_If (thn (hc pins s Z H _ I h) (vy d s1 H1 I1 q1));cases d with
 | true=>exact ha pins s1 Z H1 D I1 q1
 | false=>exact hb pins s1 Z H1 D I1 q1
noncomputable def xvo:TS:=Hk
theorem xbs:PS X st xvo:=fun _ _ _ _ _ _ h=>h.elim
#check _
noncomputable abbrev TG:=V->St->(uy kU)
noncomputable abbrev TGs:=(bb,ag,St,Hp,kU->Prop)
noncomputable def PG (X:Cx) (target:Expr) (t:TG):Prop :=
 ∀(pins:bc) (s:Shared) (Z:St) (H:Hp) (v:V) (u:Value) (Q:kU),aq->kP->t v Z H Q ->
  wpAny aJ X.A (assign target X.env u) zmY X.xe s
noncomputable def PGs (X:Cx) (ts:iF) (t:TGs):Prop :=
 ∀(pins:bc) (s:Shared) (Z:St) (H:Hp) (vs:ag) (us:aQ) (Q:kU),aq->EZ->t vs Z H Q ->
  wpAny aJ X.A (assignInOrder ((zdP ts).map (·.2)) us) zmY X.xe s
noncomputable abbrev TSet:=bb V V V (uy Fz)
noncomputable def PSet (X:Cx) (t:TSet):Prop :=
 ∀(pins:bc) (s:Shared) (Z:St) (H:Hp) (o i v:V) (ov iv u:Value) (Q:Fz),aq->RelV o ov->RelV i iv->kP->t o i v H Q ->
  wpAny aJ X.A (setItem ov iv u) (fun _ s'=>∃ H',sV/\Q H') X.xe s
noncomputable abbrev TIp:=IZ
noncomputable def PIp (X:Cx) (op:Operator) (t:TIp):Prop :=
 ∀(pins:List (Addr × Obj)) (s:Shared) (Z:St) (H:Hp) (x y:V) (v u:Value) (Q:VK),Inv X pins Z H s->RelV x v->RelV y u->t x y H Q ->
  wpAny aJ X.A (inplaceOp op v u) lJ X.xe s
section
variable {X:Cx}{pos:Pos}
@[reducible] def xcd (i:Nat):TG:=fun v Z H Q=>Q oZ H
theorem xg3 {i:Nat}{x:Str} (hN:X.N.Nodup) (hi:sW) (hx:AF) (hf:Aj:=by first|ext wf|ext zG|ext d8):PG X sM (xcd i):=by
 intro pins s Z H v u Q I r h;exact wpAny_assign_Name (xhw I hN hi hx r (fun s' I'=>bw _ H I' h) hf)
@[reducible] def gNil:TGs:=fun vs Z H Q=>nV vs (Q Z H)
@[reducible] def xn5 (t:TG) (u:TGs) (vs:ag) (Z:St) (H:Hp) (Q:kU):Prop:=lV vs (jN,r,t v Z H (BW,u r σ' H' Q))
theorem xaf:PGs X [] gNil:=by
 intro pins s Z H vs us Q I r h;show(Cw,h,xr7 h);ext cZ;cases r;exact assignInOrder_nil (bw Z H I h)
theorem xo {e:Expr}{es:iF}{t:TG}{u:TGs} (h1:PG X e t) (h2:PGs X es u)
    (hs:(zdP ji).map (·.2)=assign e X.env::(G5).map (·.2):=by rfl):PGs X ji (xn5 t u):=by
  intro pins s Z H vs us Q I r h;show(gQ,v,vr,e1,h,xsg h);subst e1;cases r with
  | cons r rr =>
    rw[hs];refine assignInOrder_cons (thn (h1 pins s Z H _ _ _ I r h) fun _ s1 ⟨σ1,H1,I1,q1⟩=>?_);exact h2 pins s1 σ1 H1 _ _ Q I1 rr q1
inductive gTup (K:Zd) (n:Nat) (t:TGs) (v:V) (Z:St) (H:Hp) (Q:kU):Prop
 | mk (a xs) (e_:v=aA) (r_:Ic/\xs.length=n/\t xs Z H Q)
theorem xaq {es:iF}{k:Nat}{t:TGs}{n:Nat} (hc:iT) (h:PGs X es t)
    (hn:(G5).length=n:=by rfl) (hst:(G5).findIdx? (·.1)=none:=by rfl):PG X zbb (gTup X.K n t):=by
  intro pins s Z H v u Q I r hw;obtain⟨a,xs,e1,hq,hl,hw⟩:=hw;subst e1;cases r;ext bF its rv ht hz FM;refine assign_Tuple_tuple gO ht zlH hst (am h' hx);show(ki,I1,iz gJ,I.kept (t':=s.toks) (pV,hx b o (ZG (Zv e)) e),h pins _ Z H xs _ Q I1 zav hw)
noncomputable def gSub (to ti:TE) (t:TSet):TG:=fun v Z H Q=>to Z H fun o H1=>ti Z H1 fun i H2=>t o i v H2 fun H3=>Q Z H3
theorem xie {o i:Expr}{to ti:TE}{t:TSet} (ho:BO) (hi:PE X i ti) (hs:PSet X t)
    (ha:∀ v,assign (.Subscript o i pos) X.env v=(do
      let ov <- holding [v] (eval o X.env)
      let iv <- holding [v,ov] (eval i X.env)
      standAt pos
      holding [v,ov,iv] (setItem ov iv v)
      release [v,ov,iv] []):=by ext Gp):PG X (.Subscript o i pos) (gSub to ti t):=by
  intro pins s Z H v u Q I r h;rw[ha];show(vH,(thn (ho pins s Z H _ I h) fun ov s1 ⟨x,H1,I1,r1,q1⟩=>?_));show(vH,(thn (hi pins s1 Z H1 _ I1 q1) fun iv s2 ⟨y,H2,I2,r2,q2⟩=>?_));refine Zc (Wu (Zc (ZW (thn (hs pins s2 Z H2 x y v ov iv u _ I2 r1 r2 r q2) fun _ s3 ⟨H3,I3,q3⟩=>?_))));exact wpAny_release (bw Z H3 I3 q3)
noncomputable def tAsg (te:TE) (g:TG):TS:=(lU,te Z H fun x H1=>g x Z H1 D.nx)
theorem xbn {tg e:Expr}{te:TE}{g:TG} (he:tE) (hg:PG X tg g) (hs:swapsWithSole [tg] e pos.line X.env=pure false:=by rfl) (hw:swappedStores [tg] e X.env=pure none:=by rfl)
    (h1:(zdP [tg]).map (·.2)=[assign tg X.env]:=by rfl):Pd tg e (tAsg te g):=by
  intro pins s Z H D I h;refine wpAny_Assign_stores (thn (he pins s Z H _ I h) fun v s1 ⟨x,H1,I1,r1,q1⟩=>?_) hs hw;show(aB,h1,thn (hg pins s1 Z H1 x v _ I1 r1 q1) fun _ s2 q=>q)
theorem xfa {i:Nat}{x:Str}{e:Expr}{te:TE}{pos':Pos} (hN:X.N.Nodup) (hi:sW) (hx:AF) (he:tE) (hs:Nw e RI:=by rfl) (hf:Aj:=by first|ext wf|ext zG|ext d8) :
    zlI:=by
  intro pins s Z H D I h;refine wpAny_Assign_Name (thn (he pins s Z H _ I h) fun v s1 ⟨y,H1,I1,r1,q1⟩=>?_) hs;exact xhw I1 hN hi hx r1 (fun s2 I2=>bw _ H1 I2 q1) hf
noncomputable def tAug (i:Nat) (te:TE) (ti:TIp):TS:=(lU,∃ x,(aF Z (some x))/\te Z H fun y H1=>ti x y H1 fun z H2=>D.nx (Z.set i (some z)) H2)
theorem xvk {i:Nat}{x:Str}{e:Expr}{te:TE}{op:Operator}{ti:TIp}{pos':Pos} (hN:X.N.Nodup) (hi:sW) (hx:AF) (he:tE) (ho:PIp X op ti) (hf:Aj:=by first|ext wf|ext zG|ext d8) :
    PS X (.AugAssign RI op e pos) (tAug i te ti):=by
  intro pins s Z H D I h;ext af v e1 h h;ext zci
  have vis:Oq:=by rcases hx with k|k; exact .inl k; exact .inr (.inl k)
  show(af,u,r,l,hl i x v hi e1 vis);refine wpAny_AugAssign_Name ?_;have go:wpAny aJ X.A ww (fun w s₂=>wpAny aJ X.A (inplaceOp op u w) (fun r s₃=>wpAny aJ X.A (storeName X.env x r) (fun _=>SP X pins D .next) X.xe s₃) X.xe s₂) X.xe s:=by
    show(kD,he pins s Z H _ I h,fun w s1 ⟨y,H1,I1,r1,q1⟩=>?_);show(kD,ho pins s1 Z H1 v y u w _ I1 r r1 q1,fun z s2 ⟨zv,H2,I2,r2,q2⟩=>?_);exact xhw I2 hN hi hx r2 (fun s3 I3=>bw _ H2 I3 q2) hf
  rcases l with⟨hk,hm⟩|⟨hk,c,hc,hcell⟩
  . exact zjT go
  . rcases hk with hk|hk
    . exact zjD go
    . rcases hx with k|k
      . ext zhd
      . ext zhd
#check _
section
variable {X:Cx}{pos:Pos}
noncomputable def xgi (c:TT) (tb:TS):TS:=fun D Z H=>∃ W:zg,(∃ m,W m Z H)/\∀ m Z H,W m Z H ->
 c Z H fun b H1=>(cm,b,(znD,(yR,m,W m' σ' H'),tb (Xc N) Z H1),D.nx Z H1)
theorem xfz {c:Expr}{body:BR}{tc:TT}{tb:TS} (hp:zlF) (hc:PT X c tc) (hb:PSs X body tb):PS X (.While c body [] pos) (xgi tc tb):=by
 intro pins s Z H D I h;obtain⟨W,⟨m0,w0⟩,turn⟩:62:=h;refine wpAny_While (codeAny_whileLoop (mG n (IM,W n σ' H')) ?_ m0 (bw Z H I w0));rintro n s1 (⟨σ1,H1,I1,w1⟩:82);show(EU,hc pins s1 σ1 H1 _ I1 (turn n σ1 H1 w1),vy b s2 H2 I2 q2);cases b with
 | true =>
  ext af N hN q2 q2;show(qj,cp,Y3 hp (thn (hb pins s2 σ1 H2 _ I2 q2) (aI f s3 q3)));cases f with
  | next =>
   ext zfx
  | cont =>
   ext zfx
  | brk=>exact q3
  | ret v=>exact q3
 | false =>
  rw[aM Z4];exact QW (bw σ1 H2 I2 q2)
#check _
structure It where
 go:mF Nat
 yld:Nat->Hp->pP
 stop:mF Nat
noncomputable def FpOk (X:Cx) (pins:bc) (H:Hp) (b:Addr):Prop :=
 (au,dz,AM,TY,b∈X.ex\/(xJ b),(xV b)/\(HM b))
theorem Inv.fpOk {X:Cx}{pins:bc}{Z:St}{H H':Hp}{s:Shared}{b:Addr} (I:aq) (hb:Ec b) (hn:Bw):zaG:=by
 refine⟨46,hn,JT (ZD I.lt hb),I.nofs hb,.inr (ZZ I.sz hb),cI x c e z,aI p hp z⟩
 .obtain ⟨v,q⟩:=RD;show(yY,ZD q.lt (av z hb))
 .show(yY,ZD (Zv (I.pin p hp).1) (av z hb))
structure Turn (P:Program) (w:World) (K:Zd) (tg:Expr) (J:It) (fp:ao) (it:Addr) (tn:bM Nat Heap):Prop where
 mem:it∈fp
 obj:∀ i h,tn i h->∀ b∈fp,(Vy r6)
 keep:∀ i h h',tn i h->(∀ b∈fp,∀ o,r6->qv)->tn i h'
 item:∀(X:Cx),X.prog=P->X.w=w->X.K=K->iT->∀(i:Nat) (pins:List (Addr × Obj)) (s:Shared) (Z:St) (H:Hp) (E:Value->Shared->Prop),Inv X pins Z H s->(∀ b∈fp,FpOk X pins H b)->tn i s.heap->J.go i H ->
  wpAny yK X.A sr (fun r s1=>∃ u,r=some u /\
   wpAny yK X.A znM (fun _ s2=>∃ x H',(au,cT H' s2,nu,J.yld i H x H',tn aH s2.heap,HV)) E s1) E s
 done:∀(X:Cx),X.prog=P->X.w=w->X.K=K->iT->∀(i:Nat) (pins:List (Addr × Obj)) (s:Shared) (Z:St) (H:Hp) (E:Value->Shared->Prop),Inv X pins Z H s->(∀ b∈fp,FpOk X pins H b)->tn i s.heap->J.stop i H ->
  wpAny yK X.A sr (fun r s1=>r=none/\(iz s1)) E s
 self:∀(A:Around) (i:Nat) (s:Shared) (Q:bj) (E:bj),tn i s.heap->Q qX s->wpAny yK A (pyIter (.ref it)) Q E s
noncomputable abbrev TI:=St->(uy LB)
noncomputable def PIE (X:Cx) (pins:bc) (Z:St) (tg:Expr) (R:LB) (itv:Value) (s2:Shared):Prop :=
 ∃(it:Addr) (fp:ao) (tn:bM Nat Heap) (J:It) (H':Hp),aR itv qX (cT H' s2) (bE,Turn X.prog X.w X.K tg J fp it tn,tn 0 s2.heap,(∀ b∈fp,zaG),R J H')
noncomputable def PI (X:Cx) (tg iter:Expr) (wi:TI):Prop :=
 ∀(pins:bc) (s:Shared) (Z:St) (H:Hp) (R:LB),aq->wi Z H R ->
  wpAny aJ X.A (jx iter) (jN,s1,wpAny aJ X.A (pyIter v) zak X.xe s1) X.xe s
theorem xgr {M:Model}{A:Around}{E:bj}{s:Shared}{tg:Expr}{it:Addr}{u:Value}{o:Obj}{n:String}{vs:gL}{Q:vv} (ho:uG it o) (hc:o.cls=(eY n)) (hd:Tv o.data)
    (hn:["enumerate", "zip", "dict_itemiterator", "dict_reverseitemiterator", "odict_iterator", "itertools.zip_longest", "itertools.pairwise"].contains n=false) (hQ:Q () s):wpAny M A znM Q E s:=by
  unfold letOwnedTupleGo;cases tg<;>first
    | exact Zk hQ
    | (cases u<;>first
        | exact Zk hQ
        | (show(bm,wpAny_load ho ?_)
           rw[hc,hd];show wpAny M A (cm (["enumerate", "zip", "dict_itemiterator", "dict_reverseitemiterator", "odict_iterator", "itertools.zip_longest", "itertools.pairwise"].contains n&&vs[0]? == some (rawInt _)) _ _) Q E s;rw[aM (by intro h; rw[hn,JV] at h; cases h)];exact Zk hQ))
noncomputable def Itl (K:Zd) (a:Addr):It :=
 (Nb,∃ xs x,mW/\vx,x,H'=H/\∀ xs,mW->vx,zmP)
noncomputable def Itr (lo:Int) (n:Nat):It:=zgW zdY
theorem xo2 {P:Program}{w:World}{K:Zd}{tg:Expr} (a it:Addr):Turn P w K tg zb rW it (d0,h,h.IsListIter it a i) where
 mem:=ah
 obj:=fun i h st b hb=>by
  ext zhZ st
 keep:=(Ri,st.at (zW,k it ah o e))
 item:=by
  intro X hP hw hK hc i pins s Z H E I hf st hg;ext iE;ext gQ xs x hq hx hg;ext Sk qO;show(af,u,hu,ru,rv.get hx);obtain⟨f0,f1,f2,f3,f4,f5⟩:46:=j0;refine QT st p.isList (x:=u) (by simpa using hu) (aI h' st' sb);show(zM,gJ,I.turned (t':=s.toks) (ux,(sb.2 b hb).trans e) f0 f1 f3 f4 f5);show(bF,o,e,c,d,id st');show(wQ,u,xgr (s:=gJ) e c d ap ⟨85,x,H,I1,ru,(eG,fun ys hy=>(av,I.list_inj hy hq,hx)),st',Fe⟩)
 done:=by
  intro X hP hw hK hc i pins s Z H E I hf st hg;ext iE;ext af xs hq hx hg;ext Sk qO;obtain⟨f0,f1,f2,f3,f4,f5⟩:46:=j0;have hl:=rv.length;exact Wa gO st p.isList jQ (Bb,I.turned (t':=s.toks) uH f0 f1 f3 f4 f5)
 self:=fun _ _ _ _ _ st h=>wpAny_pyIter_listiter st h
theorem xny {P:Program}{w:World}{K:Zd}{tg:Expr} (it:Addr) (lo:Int) (n:Nat):Turn P w K tg Tz rW it (zig 1) where
 mem:=ah
 obj:=fun i h st b hb=>by
  ext sR;exact⟨_,st,fun v z=>by
   ext MW⟩
 keep:=Ri RB
 item:=by
  intro X hP hw hK hc i pins s Z H E I hf st hg;ext iE;obtain⟨f0,f1,f2,f3,f4,f5⟩:46:=j0;show(zgz,1,W.item i s _ _ hg st fun v h' tk hv st' kk=>?_);show(ay,I1,iz Ci,I.turned (ux,kk b o qy e) f0 f1 f3 f4 f5,(c9,xgr (s:=Ci) (n:="range_iterator") st' rfl rfl ap ⟨85,zdY,H,I1,dQ t,yW,st',Fe⟩));rw[Int.mul_one]
 done:=by
  intro X hP hw hK hc i pins s Z H E I hf st hg;ext iE;obtain⟨f0,f1,f2,f3,f4,f5⟩:46:=j0;show(zhg,I.turned (t':=s.toks) uH f0 f1 f3 f4 f5)
 self:=zhn
section
variable {X:Cx}{tg:Expr}
noncomputable def xwd (K:Zd) (tl:TE):TI:=(iO,R,tl Z H fun x H1=>∃ a,(aR,x,aA,(∃ xs,En),R zb H1))
theorem xab {l:Expr}{tl:TE} (hl:PE X l tl):PI X tg l (xwd X.K tl):=by
 intro pins s Z H R I h;show(kD,hl pins s Z H _ I h,fun v s1 ⟨x,H1,I1,r1,q1⟩=>?_);obtain⟨a,e,⟨xs,hq⟩,q⟩:63:=q1;ext cZ;cases r1;ext Sk Su;refine YV p.isList ?_;show(UU,⟨66,H1,rfl,Ng,xo2 a _,qH,gP,q⟩);show(UM,s1.heap.objs.size)
theorem xkq {pins:bc}{Z:St}{H:Hp}{s:Shared}{R:LB}{E:bj}{lo hi:Int}{t u v:Tok}{tk:Nat} (I:aq) (h1:-kY<=lo) (h2:lo<kY) (h3:-kY<=hi) (h4:hi<kY)
    (q:R (Itr lo Ss) H):wpAny aJ X.A zpo zak E (rX,Ee 1):=by
  refine wpAny_pyIter_range (IsRange.new ..) (small_one h1 h2 h3 h4) ?_;have I1:iz (rX,Ee 1):=I.kept zo;refine⟨121,zaI,[zaI],_,_,⟨66,H,rfl,
    zdQ zo,xny _ lo Ss,?_,gP,q⟩⟩
  . have e1:lo+rq*1=lo:=ah
    have e2:(dM Ss)-rq=(V9 1):=Kf rangeSize_one
    show IsRangeIter _ _ (lo+rq*1) ((dM Ss)-rq) 1;ext cY e1 e2 iJ
  . ext UM zaI
noncomputable def xw1 (ta:TA):TI:=(GN,∃ j:Int,(jI,vs,[CL],-kY<=j,j<kY,R (Itr 0 j.toNat) H1))
noncomputable def xwh (ta:TA):TI:=(GN,∃ i j:Int,(ziE,[cB,.int j],R (Itr i (fD j i)) H1))
theorem xjd {a:Expr}{ta:TA}{p pos:Pos} (hg:zdu) (hm:zds) (ha:Iz) (hs:Iv:=by rfl):WD [a] (xw1 ta):=by
 intro pins s Z H R I h;show(VQ,(Sm,ha pos pins s Z H _ I h,fun us s1 ⟨vs,H1,I1,r1,q1⟩=>?_));obtain⟨j,e,q1,q2,q⟩:64:=q1;ext cZ;cases r1 with
 | cons r rr =>
  cases rr;ext kH r;exact call_range_1 (xkq I1 aa aa q1 q2 zaP)
theorem xi8 {a b:Expr}{ta:TA}{p pos:Pos} (hg:zdu) (hm:zds) (ha:PA X [a,b] ta) (hs:Ii [a,b] [wP EE,wP Bd]:=by rfl) (hs2:SR [b] Bd:=by rfl) :
    WD [a,b] (xwh ta):=by
  intro pins s Z H R I h;show(VQ,(Je (thn (ha pos pins s Z H _ I h) fun us s1 ⟨vs,H1,I1,r1,q1⟩=>?_) (cK hs hs2) (fh hs2)));obtain⟨i,j,e,⟨q1,q2,q3,q4⟩,q⟩:83:=q1;ext cZ;cases r1 with
  | cons r rr =>
    cases rr with
    | cons r' rr =>
      ext zpi;exact call_range_2 (xkq I1 q1 q2 q3 q4 q)
noncomputable def tFor (wi:TI) (g:TG) (tb:TS):TS:=fun D Z H=>wi Z H fun J H1=>∃ W:Nat->Nat->St->Hp->Prop,(∃ m,W 0 m Z H1)/\∀ i m Z H,yJ ->
 (J.stop i H/\tK)\/(J.go i H/\(wY (yr,J.yld i H x H',Z,H',wV)))
noncomputable def xgg (fp:ao) (h:Heap):bc:=fp.filterMap fun b=>(h.get? b).map fun o=>(b,o)
theorem xdl {fp:ao}{h:Heap}{b:Addr}{o:Obj} (hb:b∈fp) (e:r6):(b,o)∈xgg fp h:=JR.mpr ⟨b,hb,wj⟩
theorem xow {fp:ao}{h:Heap}{p:Addr × Obj} (hp:p∈xgg fp h):aK∈fp/\(IG aK bW):=by
 show(af,b,hb,e,JR.mp hp);cases q:h.get? b with
 | none=>ext cE q e
 | some o =>
  rw[q] at e;show(mI,e',(b,o),p,ZE.inj e);ext aO hb q
theorem Inv.pinned {pins:bc}{Z:St}{H:Hp}{s:Shared}{fp:ao} (I:aq) (hf:MR) (ho:∀ b∈fp,(Vy fY)):Inv X (pins++xgg fp s.heap) Z H s :=
 I.pins_of fun p hp=>(KU).elim (aC,I.pin p (Z6 _ z)) fun z=>by
  show(i5,hb,xow z);obtain⟨f0,f1,f2,_⟩:44:=hf aK hb;show(af,o,e',d,ho aK hb);ext bB e e' e';exact b8 e f0 f1 f2 d
theorem Inv.unpinned {pins pl:bc}{Z:St}{H:Hp}{s:Shared} (I:Inv X (pins++pl) Z H s):aq:=I.pins_of (eF,I.pin p (Z6 _ (ZR _ hp)))
theorem xa5 {iter:Expr}{body:BR}{wi:TI}{g:TG}{tb:TS}{pos:Pos} (hp:zlF) (hc:iT) (hi:OY) (hg:PG X tg g) (hb:PSs X body tb)
    (hs:UI:=by ext Gp):PS X (.For tg iter body [] pos) (tFor wi g tb):=by
  intro pins s Z H D I h;refine wpAny_For (thn (hi pins s Z H _ I h) zjB) hs;obtain⟨it,fp,tn,J,⟨H2,e,I2,T,st2,f2,W,⟨m0,w0⟩,turn⟩⟩:121:=h2;ext cZ
  -- what stays true of the iterator's objects through the loop
  show(cA,stat,zpP zaG,fun hn b hb=>⟨hn b hb,(f2 b hb).2⟩,codeAny_forLoop_any (mG,n,∃ i σ' H',(bE,zcg,tn i s'.heap,HV,W i n σ' H')) ?_ m0 ⟨104,0,Z,H2,I2,st2,(nI,(f2 b hb).1),w0⟩);rintro n s3 (⟨i,σ3,H3,I3,st3,fr3,w3⟩:104);rcases turn i n σ3 H3 w3 with⟨stop,qn⟩|⟨go,N,hN,step⟩
  . show(EU,T.done X rfl rfl rfl hc i pins s3 σ3 H3 X.xe I3 (stat fr3) st3 stop,fun r s4 ⟨hr,I4⟩=>?_)
    subst hr;exact QW (bw σ3 H3 I4 qn)
  . show(EU,T.item X rfl rfl rfl hc i pins s3 σ3 H3 X.xe I3 (stat fr3) st3 go,vy r s4 u hr h4)
    subst hr;show(EU,h4,fun _ s5 ⟨x,H5,I5,r5,y5,st5,fr5⟩=>?_);have I5':=I5.pinned (stat fr5) (T.obj _ _ st5);show(EU,hg _ s5 σ3 H5 x u _ I5' r5 (step x H5 y5),fun _ s6 ⟨σ6,H6,I6,q6⟩=>?_);show(EU,hb _ s6 σ6 H6 _ I6 q6,aI f s7 q7);have again:∀{σ7:St}{H7:Hp},Inv X (pins++xgg fp s5.heap) σ7 H7 s7->N σ7 H7->(Tm,∃ i σ' H',(bE,Go σ' H' s7,tn i s7.heap,HV,W i m σ' H')):=fun {σ7 H7} I7 n7=>by
      show(af,m',hm,w7,hN σ7 H7 n7);show(dc,m',hm,⟨104,aH,σ7,H7,I7.unpinned,T.keep _ _ _ st5 (fH,b,hb,o,(I7.pin (b,o) Nv).1),gP,w7⟩);show(af,o,e,d,T.obj _ _ st5 b hb);exact aW (I7.pin (b,o) Nv)
    cases f with
    | next=>ext zkB
    | cont=>ext zkB
    | brk=>show(gQ,σ7,H7,I7,q7,q7); exact bw σ7 H7 I7.unpinned q7
    | ret v=>obtain⟨x7,σ7,H7,I7,r7,q7⟩:103:=q7; exact⟨103,x7,σ7,H7,I7.unpinned,r7,q7⟩
#check _
theorem xbh {K:Zd}{a:Addr}{xs:ag}{g:TG}{tb:TS}{D:Ends}{Z:St}{H:Hp} (Pv:zg) (h0:B3) (hl:Et zdC mW)
    (hs:∀ i x Z H,vx->tM->g x Z H Al) (hd:OE xs.length) :
    ∃ W:Nat->Nat->St->Hp->Prop,(∃ m,W 0 m Z H)/\∀ i m Z H,yJ ->
      ((zb).stop i H/\tK)\/((zb).go i H/\(wY (yr,(zb).yld i H x H',Z,H',wV))):=by
  ext zgT;rintro i m Z H (⟨rfl,hi,p⟩:43);ext Dn zes
  . ext zki
    ext Cw y y;ext cZ;exact hs i x Z _ (y xs q) p
  . ext zhj
theorem xe5 {lo:Int}{n:Nat}{g:TG}{tb:TS}{D:Ends}{Z:St}{H:Hp} (Pv:zg) (h0:B3)
    (hs:(Et,hW,g zdY Z H Al)) (hd:OE n) :
    ∃ W:Nat->Nat->St->Hp->Prop,(∃ m,W 0 m Z H)/\∀ i m Z H,yJ ->
      ((Tz).stop i H/\tK)\/((Tz).go i H/\(wY (yr,(Tz).yld i H x H',Z,H',wV))):=by
  show(fE,fun i m Z H=>(aR,m,n-i,i<=n,tM),SQ n);rintro i m Z H (⟨rfl,hi,p⟩:43);by_cases hlt:hW
  . ext UB hlt n
    ext Cw y y;subst e y;exact hs i Z _ hlt p
  . ext tQ i n aa;show(cH,⟨bp,hd Z H p⟩)
noncomputable abbrev R2:=IZ
noncomputable def OpR (X:Cx) (f:Hd) (r:R2):Prop :=
 ∀(pins:List (Addr × Obj)) (s:Shared) (Z:St) (H:Hp) (x y:V) (v u:Value) (Q:VK),Inv X pins Z H s->RelV x v->RelV y u->r x y H Q ->
  wpAny aJ X.A (f v u) lJ X.xe s
noncomputable def UnR (X:Cx) (f:Value->Tj) (r:V->tX):Prop :=
 ∀(pins:bc) (s:Shared) (Z:St) (H:Hp) (x:V) (v:Value) (Q:VK),aq->tJ->r x H Q ->
  wpAny aJ X.A (f v) lJ X.xe s
noncomputable def xcg (X:Cx) (f:Value) (r:ag->tX):Prop :=
 ∀(pins:bc) (s:Shared) (Z:St) (H:Hp) (xs:ag) (us:aQ) (Q:VK),aq->kL->r xs H Q ->
  wpAny aJ X.A (call f us) lJ X.xe s
noncomputable def TruR (X:Cx) (r:V->(uy vt)):Prop :=
 ∀(pins:bc) (s:Shared) (Z:St) (H:Hp) (x:V) (v:Value) (Q:vt),aq->tJ->r x H Q ->
  wpAny aJ X.A (truthy v) PZ X.xe s
noncomputable def tOp (r:R2) (ta tb:TE):TE:=wZ (zbF,r x y H2 Q)
noncomputable def tUn (r:V->tX) (ta:TE):TE:=(wZ,r x H1 Q)
@[reducible] def rI (C:Ru) (g:Int->Int->V) (x:V) (y:V) (H:Hp) (Q:VK):Prop:=iV x y (d0,j,C i j/\Q wG H)
@[reducible] def rI0 (g:Int->Int->V) (x:V) (y:V) (H:Hp) (Q:VK):Prop:=iV x y (d0,j,Q wG H)
noncomputable def rU (g:Int->V):V->tX:=fun x H Q=>∃ i,x=cB/\Q (g i) H
section
variable {X:Cx}{a b c:Expr}{ta tb tc:TE}{pos:Pos}
theorem binT (ha:o7) (hb:yH) {pins:bc}{s:Shared}{Z:St}{H:Hp}{R:V->pP} (I:aq)
    (h:zjX) {Q:bj}{f:Hd}
    (hf:(zhN,wpAny aJ X.A (f v u) Q X.xe s2)) :
    wpAny aJ X.A EE (jN,s₁,wpAny aJ X.A Bd (fun u s₂=>wpAny aJ X.A (f v u) Q X.xe s₂) X.xe s₁) X.xe s:=by
  show(kD,ha pins s Z H _ I h,fun v s1 ⟨x,H1,I1,r1,q1⟩=>?_);show(kD,hb pins s1 Z H1 _ I1 q1,fun u s2 ⟨y,H2,I2,r2,q2⟩=>?_);exact hf v u s2 x y H2 I2 r1 r2 q2
theorem xr {op:Operator}{r:R2} (ho:OpR X (binaryOp op) r) (ha:o7) (hb:yH):PE X (.BinOp a op b pos) RV:=by
 intro pins s Z H Q I h;exact wpAny_BinOp (binT ha hb I h fun v u s2 x y H2 I2 rx ry q=>ho pins s2 Z H2 x y v u Q I2 rx ry q)
theorem xh8 {op:UnaryOp}{r:V->tX} (ho:UnR X (unaryOp op) r) (ha:o7):PE X (.UnaryOp op a pos) (tUn r ta):=by
 intro pins s Z H Q I h;exact UnaryOp_ (thn (ha pins s Z H _ I h) fun v s1 ⟨x,H1,I1,r1,q1⟩=>ho pins s1 Z H1 x v Q I1 r1 q1)
theorem opI {f:Hd}{C:Ru}{g:Int->Int->Int}
    (rule:(US,C i j->Q (.int wG s.toks) oG->wpAny aJ X.A zaW Q E s)) :
    OpR X f (rI C (Le wG)):=by
  intro pins s Z H x y v u Q I rx ry h;obtain⟨i,j,rfl,rfl,hc,q⟩:84:=xn1 h;ext iN;ext fP;exact rule i j t t' s _ _ hc (Ba wG)
theorem opI0 {f:Hd}{g:Int->Int->Int}
    (rule:(US,Q (.int wG s.toks) oG->wpAny aJ X.A zaW Q E s)) :
    OpR X f (rI0 (Le wG)):=by
  intro pins s Z H x y v u Q I rx ry h;obtain⟨i,j,rfl,rfl,q⟩:83:=xn1 h;ext iN;ext fP;exact rule i j t t' s _ _ (Ba wG)
theorem opB0 {f:Hd}{g:Int->Int->Bool}
    (rule:(US,Q (.bool wG) s->wpAny aJ X.A zaW Q E s)) :
    OpR X f (rI0 (d0,j,.bl (g i j))):=by
  intro pins s Z H x y v u Q I rx ry h;obtain⟨i,j,rfl,rfl,q⟩:83:=xn1 h;ext iN;ext fP;exact rule i j t t' s _ _ (cN,.bl (g i j),H,I,q)
noncomputable def CDiv (i j:Int):Prop:=0<j/\j<1073741824
noncomputable def CPow (i j:Int):Prop:=0<=j/\j<=1000000/\i.natAbs<nK
noncomputable def CMul (i j:Int):Prop:=(-nK<i/\i<nK)\/(-nK<j/\j<nK)
theorem CMul.ok {i j:Int} (h:CMul i j):IntMulOk i j:=by
 rcases h with⟨h1,h2⟩|⟨h1,h2⟩
 .exact .of_left (intBits_le_64 h1 h2)
 .exact .of_right (intBits_le_64 h1 h2)
theorem xob (k:Nat):kd<=2 ^ k:=by
 rw[two_pow_cast];exact Int.natCast_nonneg _
theorem xa3:W8 .Add (i+j):=opI0 fun _ _ _ _ _ _ _ q=>add_int q
theorem xek:W8 .Sub (i-j):=opI0 fun _ _ _ _ _ _ _ q=>sub_int q
theorem xbw:GU .Mult CMul (i*j):=(zoz,mul_int q hc.ok)
theorem xdw:GU .FloorDiv CDiv (i / j):=opI fun i j _ _ _ _ _ hc q=>by
 have h1:kd<j:=hc.1;have h2:j<1073741824:=hc.2;exact floordiv_int aa (av,Int.fdiv_eq_ediv_of_nonneg i aa,q) (.inl (QU aa))
theorem xbd:GU .Mod (fun _ j=>0<j) (i % j):=opI fun i j _ _ _ _ _ hc q=>by
 have h1:kd<j:=hc;exact mod_int' aa (av,Int.fmod_eq_emod_of_nonneg i aa,q)
theorem xuk:GU .Pow CPow (i ^ j.toNat):=(zoz,pow_int_small hc.1 (aW hc) (bS hc) q)
theorem xkv:GU .RShift (fun _ j=>0<=j) (i / 2 ^ j.toNat):=opI fun i j _ _ _ _ _ hc q =>
 rshift_int hc (av,Int.fdiv_eq_ediv_of_nonneg i (xob _),q)
theorem xv6:W8 .BitAnd (Builtin.bitAnd i j):=opI0 fun _ _ _ _ _ _ _ q=>and_int q
theorem xtj:OpR X (inplaceOp .Add) (rI0 (Le (i+j))):=opI0 fun _ _ _ _ _ _ _ q=>iadd_int q
theorem unI {f:Value->Tj}{g:B7}
    (rule:∀(i:Int) (t:Tok) (s:Shared) (Q:bj) (E:bj),Q (.int (g i) s.toks) oG->wpAny aJ X.A (f (.int i t)) Q E s) :
    UnR X f (rU (jq,.int (g i))):=by
  intro pins s Z H x v Q I rx h;show(af,i,rfl,q,h);show(C0,rule i t s _ _ (wO,.int (g i),jz,gs))
theorem xga:UnR X (unaryOp .USub) (rU (jq,.int (-i))):=unI fun _ _ _ _ _ q=>neg_int q
#check _
noncomputable def scal:V->V->Bool
 | .non,.non=>true|.non,pK=>true|pK,.non=>true|.non,rN=>true|rN,.non=>true|.non,kX=>true|kX,.non=>true
 | pK,pK=>true|rN,rN=>true|kX,kX=>true|.byt _,.byt _=>true
 | pK,kX=>true|kX,pK=>true|rN,kX=>true|kX,rN=>true
 | _,_=>false
noncomputable def rEq:R2:=(KG,scal x y=true/\Q (Tx (x=y)) H)
noncomputable def rNe:R2:=(KG,scal x y=true/\(rg (!(cC x y))))
theorem xmu {i j:Int}:rF (V.int i=V.int j) (i == j):=by
 rw[Jg];simp
theorem xpc {i j:Bool}:rF (V.bl i=V.bl j) (i == j):=by
 rw[Jg];simp
theorem xmq {i j:Str}:rF (V.str i=V.str j) (i == j):=by
 rw[Jg];simp
theorem xmo {i j:Array UInt8}:rF (V.byt i=V.byt j) (i.toList == j.toList):=by
 rw[Jg];cases i;cases j;simp
section
variable {X:Cx}{a b c:Expr}{ta tb tc:TE}{pos:Pos}
theorem xau {pins:bc}{Z:St}{H:Hp}{s:Shared}{Q:VK}{k k':Bool} (I:aq) (q:rg k) (e:k=k'):EP X pins Z Q (.bool k') s:=by
 ext cZ;exact(cN,.bl k,H,I,q)
theorem xdp:mS .Eq rEq:=by
 intro pins s Z H x y v u Q I rx ry h;ext i4 hs h;cases x with
 | non =>
  ext fG;cases y with
  | non=>ext fX; exact PySem.EqNone.eq_none_none (cW ah)
  | bl j=>ext fX; exact PySem.EqNone.eq_none_bool (cW ah)
  | int j=>ext fP; exact PySem.EqNone.eq_none_int (cW ah)
  | str j=>ext fP; exact PySem.EqNone.eq_none_str (cW ah)
  | _=>ext ur
 | bl i =>
  ext fG;cases y with
  | non=>ext fX; exact PySem.EqNone.eq_bool_none (cW ah)
  | bl j=>ext fX; exact eq_bool (cW xpc)
  | str j=>ext fP; exact PySem.EqMixed.eq_bool_str (cW ah)
  | _=>ext ur
 | int i =>
  ext iN;cases y with
  | non=>ext fX; exact PySem.EqNone.eq_int_none (cW ah)
  | int j=>ext fP; exact eq_int (cW xmu)
  | str j=>ext fP; exact PySem.EqMixed.eq_int_str (cW ah)
  | _=>ext ur
 | str i =>
  ext iN;cases y with
  | non=>ext fX; exact PySem.EqNone.eq_str_none (cW ah)
  | bl j=>ext fX; exact PySem.EqMixed.eq_str_bool (cW ah)
  | int j=>ext fP; exact PySem.EqMixed.eq_str_int (cW ah)
  | str j=>ext fP; exact eq_str (cW xmq)
  | _=>ext ur
 | byt i =>
  ext iN;cases y with
  | byt j=>ext fP; exact PySem.W.eq_bytes (cW xmo)
  | _=>ext ur
 | _=>cases y<;>exact absurd (va false hs) Z4
theorem xir:mS .NotEq rNe:=by
 intro pins s Z H x y v u Q I rx ry h;ext i4 hs h;cases x with
 | non =>
  ext fG;cases y with
  | non=>ext fX; exact PySem.EqNone.ne_none_none (cW ah)
  | bl j=>ext fX; exact PySem.EqNone.ne_none_bool (cW ah)
  | int j=>ext fP; exact PySem.EqNone.ne_none_int (cW ah)
  | str j=>ext fP; exact PySem.EqNone.ne_none_str (cW ah)
  | _=>ext ur
 | bl i =>
  ext fG;cases y with
  | non=>ext fX; exact PySem.EqNone.ne_bool_none (cW ah)
  | bl j=>ext fX; exact ne_bool (cW (Tu xpc))
  | str j=>ext fP; exact PySem.EqMixed.ne_bool_str (cW ah)
  | _=>ext ur
 | int i =>
  ext iN;cases y with
  | non=>ext fX; exact PySem.EqNone.ne_int_none (cW ah)
  | int j=>ext fP; exact ne_int (cW (Tu xmu))
  | str j=>ext fP; exact PySem.EqMixed.ne_int_str (cW ah)
  | _=>ext ur
 | str i =>
  ext iN;cases y with
  | non=>ext fX; exact PySem.EqNone.ne_str_none (cW ah)
  | bl j=>ext fX; exact PySem.EqMixed.ne_str_bool (cW ah)
  | int j=>ext fP; exact PySem.EqMixed.ne_str_int (cW ah)
  | str j=>ext fP; exact ne_str (cW (Tu xmq))
  | _=>ext ur
 | byt i =>
  ext iN;cases y with
  | byt j=>ext fP; exact PySem.W.ne_bytes (cW (Tu xmo))
  | _=>ext ur
 | _=>cases y<;>exact absurd (va false hs) Z4
theorem xkl:MH .Lt (i<j):=opB0 fun _ _ _ _ _ _ _ q=>lt_int q
theorem xg4:MH .LtE (i<=j):=opB0 fun _ _ _ _ _ _ _ q=>le_int q
theorem xkj:MH .Gt (j<i):=opB0 fun _ _ _ _ _ _ _ q=>gt_int q
theorem xxi:MH .GtE (j<=i):=opB0 fun _ _ _ _ _ _ _ q=>ge_int q
theorem xh6:mS .Is (KG,y=.non/\Q (Tx (x=.non)) H):=by
 intro pins s Z H x y v u Q I rx ry h;show(i4,rfl,h);ext fX;refine is_none_gen (cW ?_);cases x<;>first
  | (ext hJ rx)
  | (ext iN; rfl)
theorem xef:mS .IsNot (KG,y=.non/\(rg (!(cC x .non)))):=by
 intro pins s Z H x y v u Q I rx ry h;show(i4,rfl,h);ext fX;refine isnot_none_gen (cW ?_);cases x<;>first
  | (ext hJ rx)
  | (ext iN; rfl)
noncomputable def isObj:HO->Bool
 | .lst _=>true
 | .ins _ _ _=>true
 | _=>false
theorem xai (b:Expr) {op:CmpOp} (h:op≠.In:=by decide) (h2:op≠.NotIn:=by decide):Do:=by
 show(rL,e1,op,CmpOp.In,by cases op<;>first|rfl|ext iP h)
 show(rL,e2,op,CmpOp.NotIn,by cases op<;>first|rfl|ext iP h2)
 ext znc
theorem xb8 {op:CmpOp}{r:R2} (ho:mS op r) (ha:o7) (hb:yH) (hm:Do):PE X Nk RV:=by
 intro pins s Z H Q I h;exact wpAny_Compare1 (binT ha hb I h fun v u s2 x y H2 I2 rx ry q=>ho pins s2 Z H2 x y v u Q I2 rx ry q) hm
inductive xti (x:V) (H':Hp) (Q:vt):Prop
 | mk (k) (e_:x=.bl k) (r_:Q k H')
noncomputable def xwm (t:TE):TT:=(iO,Q,t Z H fun x H'=>xti x H' Q)
theorem xac {op:CmpOp}{r:R2} (ho:mS op r) (ha:o7) (hb:yH) (hm:Do):PT X Nk (xwm RV):=by
 intro pins s Z H Q I h;refine wpAny_isTrue_Compare1 (thn (ha pins s Z H _ I h) fun v s1 ⟨x,H1,I1,r1,q1⟩=>thn (hb pins s1 Z H1 _ I1 q1) fun u s2 ⟨y,H2,I2,r2,q2⟩ =>
  thn (ho pins s2 Z H2 x y v u _ I2 r1 r2 q2) fun c s3 ⟨z,H3,I3,r3,k,e,q3⟩=>?_) hm
 ext cZ;cases r3;exact Ym ⟨H3,I3,q3⟩
noncomputable def xvc (r r':R2) (ta tb tc:TE):TE:=fun Z H Q=>ta Z H fun x H1=>tb Z H1 fun y H2=>r x y H2 fun z H3=>∃ k,z=.bl k /\
 (cm,k,tc Z H3 fun w' H4=>r' y w' H4 Q,Q (.bl false) H3)
theorem xfu {op op':CmpOp}{r r':R2} (ho:mS op r) (ho':mS op' r') (ha:o7) (hb:yH) (hc:PE X c tc)
    (hm:lastMarks [op,op'] [b,c]=false:=by with_unfolding_all rfl):PE X (.Compare a [op,op'] [b,c] pos) (xvc r r' ta tb tc):=by
  intro pins s Z H Q I h;refine Compare_chain (thn (ha pins s Z H _ I h) fun v s1 ⟨x,H1,I1,r1,q1⟩=>chain_link (thn (hb pins s1 Z H1 _ I1 q1) fun u s2 ⟨y,H2,I2,r2,q2⟩ =>
    thn (ho pins s2 Z H2 x y v u _ I2 r1 r2 q2) fun d s3 ⟨z,H3,I3,r3,k,e,q3⟩=>?_)) hm
  ext cZ;cases r3;refine Ym ?_;cases k with
  | false=>exact ite_ff (cN,.bl false,H3,I3,q3)
  | true=>exact ite_tt (chain_last (thn (hc pins s3 Z H3 _ I3 q3) fun w' s4 ⟨z',H4,I4,r4,q4⟩=>ho' pins s4 Z H4 y z' u w' Q I4 r2 r4 q4))
noncomputable def TruV (K:Zd) (x:V) (H:Hp) (k:Bool):Prop :=
 match x with
 | .non=>k=false
 | rM=>k=b
 | cB=>k=(i != 0)
 | .str y=>ziA
 | .byt y=>zjj
 | cq=>(Nx Rz)\/(Nx zdl)\/∃ kvs,zmm
 | _=>False
theorem xnn {κ:Type}{kvs:ie}{vs:zd} (r:jW):(! vs.isEmpty)=! kvs.isEmpty:=by
 cases r<;>rfl
theorem xip {xs:ag}{its:aQ} (r:Bo):(! its.toArray.isEmpty)=! xs.isEmpty:=by
 cases r<;>simp
theorem xeu:(sizeLine:Nat)<2 ^ 63:=yx Wd
theorem xv3:TruR X (fun x H Q=>∃ k,TruV X.K x H k/\Q k H):=by
 intro pins s Z H x v Q I rx h;ext af k e q h;have hl:=xeu;have hs:sizeLine=16777216:=Wd;cases x with
 | non =>
  ext fG;ext rS e' k e;subst e';exact truthy_none ⟨H,I,q⟩
 | bl b =>
  ext fG;ext mI e' k b e;exact Ym ⟨H,I,q⟩
 | int i =>
  ext iN;show(mI,e',k,i != 0,e);exact PySem.P.truthy_int ⟨H,I,q⟩
 | str y =>
  ext iN;obtain⟨hy,e'⟩:ziA:=e;subst e';exact PySem.P.truthy_str aa ⟨H,jz,q⟩
 | byt y =>
  ext iN;obtain⟨hy,e'⟩:zjj:=e;subst e';exact PySem.W.truthy_bytes aa ⟨H,jz,q⟩
 | ref p =>
  ext fG;have e':(Nx,SqL X.K H p xs)\/(Nx,SqT X.K H p xs)\/∃ kvs,zmm:=e;rcases e' with⟨xs,hx,e'⟩|⟨xs,hx,e'⟩|⟨kvs,hx,e'⟩
  .show(zoB,I.list hx);exact wpAny_truthy_list pl.isList WZ znY
  .show(zoB,qe hx);exact truthy_tuple pl WZ znY
  .subst e';obtain⟨hz,hS,vs,r,m⟩:D4/\(Ik p)/\∃ vs,jW/\s.heap.DictOf lI p vs:=I.hok p _ hx;have hlen:kvs.length=vs.length:=YJ r;exact wpAny_truthy_dict hS m aa ⟨H,jz,(av,xnn r,q)⟩
 | _=>exact (show False from e).elim
theorem xkn (ha:o7) (he:(zgI,isTrue a X.env whole,a.pos)) :
    PT X a (iO,Q,ta Z H fun x H'=>∃ k,TruV X.K x H' k/\Q k H'):=by
  intro pins s Z H Q I h;exact isTrue_plain (thn (ha pins s Z H _ I h) fun v s1 ⟨x,H1,I1,r1,q1⟩=>xv3 pins s1 Z H1 x v Q I1 r1 q1) (he _)
theorem xch {x:V}{us:aQ} (r:Vals [x] us):∃ u,us=[u]/\nu:=by
 cases r with
 | cons r1 r2=>cases r2; exact c9 r1
theorem xkk {x y:V}{us:aQ} (r:Vals [x,y] us):∃ u w',(aR,us,[u,w'],nu,RelV y w'):=by
 cases r with
 | cons r1 r2 =>
  cases r2 with
  | cons r3 r4=>cases r4; exact dA _ _ r1 r3
theorem xk1:Eu "abs" (Ld,∃ i,xs=[cB]/\(lW zoY)):=by
 intro pins s Z H xs us Q I r h;show(af,i,rfl,q,h);ext zlh;exact call_abs_int fun u tk=>Ba zoY
theorem xi9 (hc:iT):(zhe,"max",j>i):=by
 intro pins s Z H xs us Q I r h;show(gQ,i,j,rfl,q,h);obtain⟨u,w',rfl,⟨t,rfl⟩,⟨t',rfl⟩⟩:83:=xkk r;refine max_two_ints (I.ok.hd hc) zkk
 by_cases hj:j>i
 .rw [az hj,az hj]; exact gs
 .rw [aM hj,aM hj]; exact gs
theorem xjm (hc:iT):(zhe,"min",j<i):=by
 intro pins s Z H xs us Q I r h;show(gQ,i,j,rfl,q,h);obtain⟨u,w',rfl,⟨t,rfl⟩,⟨t',rfl⟩⟩:83:=xkk r;refine min_two_ints (I.ok.hd hc) zkk
 by_cases hj:j<i
 .rw [az hj,az hj]; exact gs
 .rw [aM hj,aM hj]; exact gs
theorem xqh:xcg X (eY "int") (Ld,(∃ i,xs=[cB]/\(lW i))\/∃ k,xs=[.bl k]/\(lW (zdK k))):=by
 intro pins s Z H xs us Q I r h;rcases h with⟨i,rfl,q⟩|⟨k,rfl,q⟩
 .obtain ⟨u,rfl,⟨t,rfl⟩⟩:62:=xch r;exact call_int_int (wO cB I gs)
 .show(eE,u,rfl,r1,xch r);cases r1;exact call_int_bool (Ba (zdK k))
#check _
structure ObjM (h:Heap) (x dx C:Addr) (mA:fK):Prop where
 obj:h.get? x=some (Yk C dx)
 ns:R0
 ne:dx≠x
theorem xqd {h:Heap}{dx:Addr}{mA:fK} (n:R0):∃ od,(IG dx od)/\ziF:=by
 obtain⟨o,es,ep,ho,hd,hk,_,hm⟩:105:=n;show(dc,o,ho,bZ name);have e:=hm name;unfold nsFind findBy at e;rw[<- Array.find?_toList] at e;unfold Wg;rw[hd]
 dsimp only
 split
 .rename_i y q
  rw[q] at e;exact congrArg some e
 .rename_i q
  rw[q] at e;have a:es.toList.any (·.refKey)=false:=by
   rw[List.any_eq_false];intro y hy;show(Gk,z,t,hkey,hk y (Array.mem_toList_iff.mp hy));simp[DictEntry.refKey,hkey]
  have a':¬ es.toList.any (·.refKey)=true:=av a Z4
  show(pU,a',congrArg some e)
theorem ObjM.look {h:Heap}{x dx C:Addr}{mA:fK} (I:ObjM h x dx C mA):∃ od,PySem.W.InstAt h x (Yk C dx) C (some od)/\ziF :=
 let ⟨od,ho,hl⟩:=xqd I.ns
 ⟨od,rB I.obj rfl ho,hl⟩
section
variable {prog:Program}{w:World}{A:Around}{E:Value->Shared->Prop}{s:Shared}{K:Zd}{x dx C f:Addr}{mA:Str->Option Value}{name:Str}{v:Value}
theorem xt1 {expr:Bool}{Q:bj} (X:ym) (I:W7) (hg:JP K C name=true) (hh:zcD)
    (ha:Of name) (hv:mA name=some v) (hv':PySem.W.handedIn v=true) (h:Q v oG) :
    wpAny aS A (getAttr nQ name expr) Q E s:=by
  ext zbw
  exact PySem.W.get_value X J (Wt hg).1 (PySem.W.findObj_own hh ha rfl (cK hl hv)) hv' h
theorem xrj {pl:TV}{Q:(eQ,Value × aQ)} (X:ym) (I:W7) (hg:JP K C name=true)
    (hf:A9 name (aT f)) (ht:dw f) (hv:mA name=none) (h:Q (Gd,[nQ]) s) :
    wpAny aS A (getMethod nQ name pl) Q E s:=by
  ext zbw
  exact PySem.W.method_fn X J (Wt hg).1 (Wt hg).2 hf (beq_iff_eq.mp ht) (by show (Wg name od).map (·.isSome)=some false; rw[hl,hv]; rfl) h
theorem xs3 {ns:ai}{Q:vv} (X:ym) (I:W7)
    (hs:zhD) (hp:Yn K C=true) (ht:zmj name) (hh:zcD)
    (hw:QR mA ns) (hsz:cV ns.length)
    (h:∀ h',ObjM h' x dx C (fun y=>(nh,y,name,gz,mA y))->Jn dx s.heap h'->Q () (Nz,s.toks+2)) :
    wpAny aS A (setAttr nQ name v) Q E s:=by
  ext zbw
  refine PySem.W.set_plain X J hs (PySem.W.osa_open (s:=oG) (r:=none) X J hp ht (bZ b));show(af,cd,hc,hd',PySem.W.any_some hh);have hx:s.heap.get? x=some ⟨jd,some dx,.plain,#[]⟩:=I.obj;refine Zc (Zk (Zc (Zc (wpAny_loadPart hx (Zc (PySem.W.Looks.here (s:=oG) (PySem.W.looks_clsIn X hc) ?_))))));show(qj,hd',Zk (a:=some dx) (Zc (Zk (Zc ?_))));refine wpAny_nsSet1 (s:=oG) I.ns (aI h' hn2 hs2);obtain⟨oD,esD,epD,hoD,hdD,hcD⟩:103:=hn2.count (QR.cons name v hw);show(bm,wpAny_lookBehind hoD (by rw[hdD]; exact pastItsLine_dict (ZZ hcD (qM ZL))) ?_);exact Zk (h _ ⟨(hs2.2 _ (Zx I.ne)).trans I.obj,hn2,I.ne⟩ hs2)
theorem xrf {R:R7}{vs:aQ}{kw:A4} (X:ym) (hm:Y5 K C=true)
    (hi:zoF) (hf:PySem.W.typeIn K Gd=some (eY "function"))
    (h:codeAny aS (MG ⟨jd::vs,kw⟩) (.call (.ref f) ⟨.ref hZ::vs,kw⟩) (PySem.W.InitBack hZ R)
      { s with heap:=(AY).push (Yk C s.heap.objs.size) }) :
    codeAny aS A (.call jd ⟨vs,kw⟩) R s:=by
  obtain⟨hh,g,d,t,os⟩:=s;exact PySem.W.make_core (PySem.W.makes_of X hm) (PySem.W.looks_findIn X hi) (fun self=>PySem.W.bind_fn X self hf) gT h
#check _
noncomputable def putF (f:Str) (v:V):kK->kK
 | []=>[(f,v)]
 | (g,x)::r=>(nh,g,f,(g,v)::r,(g,x)::putF f v r)
theorem xha (f g:Str) (v:V):∀ fs:kK,(R4).lookup g=(nh,g,f,gz,fs.lookup g)
 | []=>by
  show Jm g [(f,v)]=_;by_cases h:g=f
  .ext W2 f;show(KK,az h)
  .ext rL hb g f V5;show(KK,aM h)
 | T8=>by
  have ih:=xha f g v r;ext Um
  .rw [az hk];by_cases h:g=k
   .ext W2 k;show(KK,if_pos (h.trans hk))
   .ext rL hb g k V5;show(KK,aM (fun e:g=f=>h (e.trans hk.symm)))
  .ext iA hk;by_cases h:g=k
   .ext W2 k;show(KK,aM (fun e:g=f=>hk (h.symm.trans e)))
   .ext rL hb g k V5;simp only[Jm,hb];exact ih
theorem xgm (f:Str) (v:V):∀ fs:kK,f∈(R4).map (·.1)/\∀ g,g∈fs.map (·.1)->g∈(R4).map (·.1)
 | []=>⟨cM putF,fun g h=>Be⟩
 | T8=>by
  obtain⟨i1,i2⟩:=xgm f v r;ext Um
  .rw [az hk];subst hk;show(aO,ah,fun g h=>xT)
  .ext iA hk;show(nW,?_,g,h)
   .show(bI,Zo,Zj _ i1)
   .rw [Zo] at h ⊢;rcases LC with e|e
    .exact Zt.mpr (.inl e)
    .exact Zj _ (i2 g e)
theorem xhg (f:Str) (v:V):∀ fs:kK,(zQ,R4,fs.length+1)
 | []=>cM putF
 | T8=>by
  have ih:=xhg f v r;ext Um
  .rw [az hk,ZL,ZL]; omega
  .rw [aM hk,ZL,ZL]; omega
theorem RelO.some_of {v:V}{o:BG} (r:RelO gz o):∃ u,nJ o u kP:=by
 cases o with
 | none=>ext DW
 | some u=>ext wQ u r
theorem RelO.none_of {o:BG} (r:RelO none o):o=none:=by
 cases o with
 | none=>rfl
 | some u=>ext DW
theorem xpe {v:V}{u:Value} (r:kP):PySem.W.handedIn u=true:=by
 cases v with
 | non=>show(hJ,(yT,u=Jl))
 | bl b=>show(hJ,(yT,u=Ye b))
 | int i=>ext NJ CO
 | str x=>show(NJ,Wp x t)
 | byt b=>show(NJ,Value.bytes b t)
 | flt b=>show(NJ,Value.float b t)
 | ref a=>show(hJ,(yT,u=qi))
 | ty n=>show(hJ,(yT,u=YN n))
section
variable {P:Program}{w:World}{H H':Hp}{h h':Heap}{a C dx:Addr}{fs fs':List (Str × V)}
theorem xgq (hok:lL) (e:Kx):∃ mA,ObjM h a dx C mA/\GB/\QR mA (fs.map (·.1))/\O1/\(ax dx (.own a)):=by
 obtain⟨d,z,ne,ob,⟨mA,n,r,q⟩⟩:45:=(show xa6 P w H h a Fh from hok a _ e)
 exact⟨65,mA,⟨ob,n,ne⟩,r,q,z,d⟩
#check _
structure Cls (K:Zd) (C:Addr):Prop where
 pg:EJ C
 hd:zcD
 po:Yn K C=true
 sa:zhD
theorem Cls.get {K:Zd}{C:Addr} (c:Lr) (f:Str):JP K C f=true:=c.pg
noncomputable def xem (K:Zd) (C:Addr) (f:Str):Prop:=Of f
theorem xem.taker {K:Zd}{C:Addr}{f:Str} (n:xem K C f):zmj f:=by
 unfold PySem.W.takerIn;rw[show Of f from n];rfl
structure Meth (K:Zd) (C:Addr) (m:Str) (f:Addr):Prop where
 at_:A9 m (aT f)
 fn:dw f
 kp:oM f
section
variable {X:Cx}{pins:List (Addr × Obj)}{Z:St}{H:Hp}{s:Shared}{a C dx:Addr}{fs:List (Str × V)}{f:Str}{v:V}{A:Around}{E:Value->Shared->Prop}
theorem xnu {b:Bool}{Q:bj} (I:aq) (e:Kx) (c:Kl) (n:xem X.K C f) (l:zou)
    (h:∀ u s',(iz s')->kP->Q u s'):wpAny aJ A (getAttr aA f b) Q E s:=by
  ext zkP;show(af,u,hu,ru,RelO.some_of (v:=v) (o:=mA f) (by rw[<- l]; exact r f));exact xt1 I.kIn O (c.get f) c.hd n hu (xpe ru) (h u _ jz ru)
theorem xih {m:Str}{g:Addr}{pl:TV}{Q:(eQ,Value × aQ)} (I:aq) (e:Kx) (c:Kl) (k:Meth X.K C m g) (l:fs.lookup m=none)
    (h:Q (.ref g,fF) s):wpAny aJ A (getMethod aA m pl) Q E s:=by
  ext zkP;have hn:mA m=none:=RelO.none_of (by rw[<- l]; exact r m);exact xrj I.kIn O (c.get m) k.at_ k.fn hn h
theorem xnq {y:V}{u:Value}{Q:vv} (I:aq) (e:Kx) (c:Kl) (n:xem X.K C f) (hl:fs.length<1000) (ry:gS)
    (h:PH (cT (d4 a (mH C zdV)) s')):wpAny aJ A (setAttr aA f u) Q E s:=by
  obtain⟨mA,O,r,wi,_,ho⟩:65:=xgq I.hok e;have hz:(fs.map (·.1)).length<=sizeLine:=by rw[Za,Wd]; omega
  refine xs3 I.kIn O c.sa c.po n.taker c.hd wi hz fun h' O' sb=>h _ ?_;show(cA,hd,∃ o,h'.get? dx=some o,let ⟨o,_,_,e',_⟩:=O'.ns; ⟨o,e'⟩,I.write (x:=a) (e:=dx) BT (.inr ho) (fun b q hb z=>(sb.2 b hb).trans z) hd ?_);refine(b8,cS O.ne ho,?_,O.ne,O'.obj,(bi,_,O'.ns,bZ g,am g hg))
  . show(db,xhg f y fs)
  . show RelO ((zdV).lookup g) zpI
    rw[xha];by_cases q:g=f
    . show(cY,az q,az q,ry)
    . rw[aM q,aM q]; exact r g
  . by_cases q:g=f
    . show(aB,q,(xgm f y fs).1)
    . refine (xgm f y fs).2 g (wi g (aC,hg ?_))
      show zpI=none;ext pU q z
theorem Inv.made (I:aq):Inv X pins Z (upd (upd H s.heap.objs.size (.own hZ)) hZ zmk)
    { s with heap:=(AY).push (Yk C s.heap.objs.size) }:=by
  have e1:(AY).get? s.heap.objs.size=some JL:=Zu s.heap rfl;have e2:((AY).push (Yk C s.heap.objs.size)).get? hZ=some zpm:=by
    have:=Zu AY (o:=zpm) rfl
    rwa [Yf] at this
  show(dG,e3,(AY).Ns s.heap.objs.size fb,⟨104,JL,#[],_,e1,rfl,(fun e he=>absurd he ah),o5⟩,I1,I.laid (a:=s.heap.objs.size) (o:=.own hZ) (h':=AY) (t':=s.toks) (wK u Gj) bp (fC e1));refine I1.laid (a:=hZ) (o:=zmk) (t':=s.toks) (wK u Gj) (Nat.le_of_eq (Yf _ _)) ?_;show(hX,ne,s.heap.objs.size,hZ,ZG (QJ _),b8 (cK,xg ne,xj) fV ne e2 (bi,fb,(Heap.Ns1.of_empty e3).at fun o q=>Gj,fun _=>Jv,(tZ,absurd rfl hy)))
theorem xte {prog:Program}{w:World}{env:Env}{e:Expr}{f:Str}{pos:Pos}{s:Shared}{Q:bj} (hb:attributeBase e f env Sr=Sr)
    (h:wpAny aS A Sr (fun o s₁=>wpAny aS A (getAttr o f true) Q E s₁) E s):wpAny aS A (eval (.Attribute e f pos) env) Q E s :=
  Attribute_any_ h (cK arm_eval_Attribute hb)
#check _
inductive xvq (K:Zd) (f:Str) (x:V) (H1:Hp) (Q:VK):Prop
 | mk (a C dx fs v) (e_:x=aA) (r_:(au,H1 a=some Fh,Lr,xem K C f,zou,Q v H1))
noncomputable def tFld (K:Zd) (ta:TE) (f:Str):TE:=(wZ,xvq K f x H1 Q)
noncomputable def sFld (K:Zd) (ta tv:TE) (f:Str):TS:=fun D Z H=>tv Z H fun y H1=>ta Z H1 fun x H2=>∃ a C dx fs,x=aA/\H2 a=some Fh/\Lr/\xem K C f/\fs.length<1000 /\
 D.nx Z (upd H2 a (mH C zdV))
noncomputable def InOp (X:Cx) (op:Operator) (rd:IZ):Prop :=
 ∀(pins:bc) (s:Shared) (Z:St) (H:Hp) (x y:V) (u v:Value) (Q:VK),(bg,aq,nu,RelV y v,rd x y H Q,wpAny aJ X.A (inplaceOp op u v) lJ X.xe s)
section
variable {X:Cx}{o e value:Expr}{f:Str}{pos pos' tpos:Pos}{ta tv:TE}
theorem xz (he:PE X e ta) (hb:attributeBase e f X.env ww=ww):PE X (.Attribute e f pos) (tFld X.K ta f):=by
 intro pins s Z H Q I h;refine xte hb (thn (he pins s Z H _ I h) fun u s1 ⟨x,H1,I1,rx,a,C,dx,fs,v,ex,ea,c,n,l,q⟩=>?_);ext rZ;exact xnu I1 ea c n l fun u' s2 I2 ru=>bC v H1 I2 ru q
theorem xcr (ha:PE X o ta) (hv:zcx) (hs:Nw value zqE):Pd zqE value (sFld X.K ta tv f):=by
 intro pins s Z H D I h;refine plainObj_wpAny_Assign_Attribute (thn (hv pins s Z H _ I h) fun u s1 ⟨y,H1,I1,ry,q⟩=>thn (ha pins s1 Z H1 _ I1 q) fun ov s2 ⟨x,H2,I2,rx,a,C,dx,fs,ex,ea,c,n,l,q2⟩=>?_) hs;subst ex;show(cQ,ov=qi,rx);exact xnq I2 ea c n l ry fun s3 I3=>bw Z _ I3 q2
inductive rAdd (x:V) (y:V) (H:Hp) (Q:VK):Prop
 | mk (i j) (e_:x=cB) (r_:y=CL/\(lW (i+j)))
inductive rSub (x:V) (y:V) (H:Hp) (Q:VK):Prop
 | mk (i j) (e_:x=cB) (r_:y=CL/\(lW (i-j)))
theorem xur:InOp X .Add rAdd:=by
 rintro pins s Z H x y u v Q I rx ry ⟨i,j,rfl,rfl,q⟩;ext zgK
 exact PyProof.Rows.iadd_int (Ba (i+j))
theorem xvg:InOp X .Sub rSub:=by
 rintro pins s Z H x y u v Q I rx ry ⟨i,j,rfl,rfl,q⟩;ext zgK
 exact PyProof.Rows.isub_int (Ba (i-j))
#check _
section
variable {X:Cx}{pins:List (Addr × Obj)}{Z:St}{H:Hp}{s:Shared}{A:Around}{E:Value->Shared->Prop}{Q:Value->Shared->Prop}{c:Value}{b:Bool}
inductive TyOf (K:Zd) (H:Hp):bM V Value where
  | non:sS .non "NoneType"
  | bl (x:Bool):sS (.bl x) "bool"
  | int (i:Int):sS cB "int"
  | str (x:Str):sS kc "str"
  | flt (x:UInt64):sS (.flt x) "float"
  | lst {a:Addr}{xs:ag} (e:oR a):sS aA "list"
  | frz {a:Addr}{o:Obj}{xs:ag} (e:ax a (.frz o (.lst xs))):sS aA "list"
  | tup {a:Addr}{xs:ag} (e:eR a xs):sS aA "tuple"
  | dK {a:Addr}{kvs:aL} (e:F7):sS aA "dict"
  | dT {a:Addr}{kvs:dC} (e:oS a):sS aA "dict"
  | ins {a C dx:Addr}{fs:kK} (e:Kx) (cl:Lr) (ha:A9 "__class__" (Bc "object.__class__"))
      (hn:Ul) (htk:UC)
      (hm:(Lc,PySem.W.mroIn K C (.type "object"))):TyOf K H aA jd
theorem xql {x:V}{u t:Value} (I:aq) (rx:nu) (ty:TyOf X.K H x t) (e:Wh X.K t c=some b) (h:∀ tk,Q (.bool b) { s with toks:=tk }) :
    wpAny aJ A (Bk "isinstance" [u,c]) Q E s:=by
  cases ty with
  | non=>show(rQ,(BI,u=Jl),J8 PySem.W.kitx_none I.kIn Jv e gb h)
  | bl y=>show(rQ,(BI,u=Ye y),J8 PySem.W.kitx_bool I.kIn Jv e gb h)
  | int i=>show(i4,t,(BI,rR CO)); show(rQ,q,J8 PySem.W.kitx_int I.kIn Jv e gb h)
  | str y=>show(i4,t,(BI (rR,Wp y t))); show(rQ,q,J8 PySem.W.kitx_str I.kIn Jv e gb h)
  | flt y=>show(i4,t,(BI (rR,Value.float y t))); show(rQ,q,J8 PySem.W.kitx_float I.kIn Jv e gb h)
  | @lst a xs ea =>
    ext E7;obtain⟨_,_,n,_,h1⟩:=(G9,xa6 X.prog X.w H s.heap a Lu)
    exact J8 PySem.W.kitx_list I.kIn (dY h1) e gb h
  | @frz a ob xs ea =>
    ext E7;obtain⟨_,_,⟨_,n,_,h1⟩⟩:43:=(G9,xa6 X.prog X.w H s.heap a (.frz ob (.lst xs)))
    exact J8 PySem.W.kitx_list I.kIn (dY h1) e gb h
  | @tup a xs ea =>
    ext E7;obtain⟨_,_,_,p⟩:=(G9,xa6 X.prog X.w H s.heap a (.tup xs))
    ext yG o h1 h2 p;exact J8 PySem.W.kitx_tuple I.kIn (qg h1 h2) e gb h
  | @dK a kvs ea =>
    ext E7;obtain⟨_,_,⟨vs,_,p⟩⟩:43:=(G9,xa6 X.prog X.w H s.heap a ze)
    obtain⟨o,es,ep,h1,h2,_⟩:103:=p;exact J8 PySem.W.kitx_dict I.kIn (qg h1 h2.1) e gb h
  | @dT a kvs ea =>
    ext E7;obtain⟨_,_,⟨xs,_,o,es,ep,h1,h2,_⟩⟩:43:=(G9,xa6 X.prog X.w H s.heap a (.dT kvs))
    exact J8 PySem.W.kitx_dict I.kIn (qg h1 h2.1) e gb h
  | @ins a C dx fs ea cl ha hn htk hm =>
    ext E7;show(dL,mA,O,xgq I.hok ea);show(dL,od,J,O.look)
    exact J8 (PySem.W.kitx_own (cl.get _) cl.hd ha hn htk hm) I.kIn J e gb h
#check _
structure Room (q0:Bool) (k:Nat) (A:Around):Prop where
 hd:zlP
 dp:A.depth+3*k+5<recursionLimit
 un:A.units+16*k+200<cLine
 gd:A.guards=some []
theorem Room.mono {j k:Nat}{A:Around} (r:Bq) (h:j<=k):Room q0 j A:=⟨r.hd,d7 r.dp,d7 r.un,r.gd⟩
theorem Room.deeper {k:Nat}{A:Around} (r:Room q0 dk A) (env:Env):zaV env :=
 ⟨r.hd,by have:=r.dp; show A.depth+1+3*k+5<_; omega,by have:=r.un; show A.units+3+16*k+200<_; omega,r.gd⟩
theorem xoi {A:Around}{C:Addr}{us:aQ}{kw:A4}:(MG O0).depth=A.depth+1:=by
 first|rfl|simp[Around.under,Code.weight,Code.isCreation,Code.isGuard,Code.isCaller,Code.frames,Code.isFrame,guardIds]
theorem xok {A:Around}{C:Addr}{us:aQ}{kw:A4}:(MG O0).units=A.units+1:=by
 first|rfl|simp[Around.under,Code.cUnits,Code.frames,Code.isFrame]
theorem Room.make {k:Nat}{A:Around} (r:Room q0 dk A) (C:Addr) (us:aQ) (kw:A4):Room q0 k (A.under (.builtin "type.__call__" O0)) :=
 ⟨r.hd,by have:=r.dp; rw[xoi]; omega,by have:=r.un; rw[xok]; omega,by first|exact r.gd|(simpa [Around.under,Code.guards,Code.isGuard,guardIds,pushGuards] using r.gd)⟩
theorem Room.depth {k:Nat}{A:Around} (r:Bq):A.depth<recursionLimit:=d7 r.dp
theorem Room.units {k:Nat}{A:Around} (r:Bq):zeK 64:=d7 r.un
noncomputable def tNil:TA:=(FG,Q [] H)
@[reducible] def xsd (ta:TE) (tr:TA):TA:=(wZ,tr Z H1 fun xs H2=>Q pY H2)
section
variable {X:Cx}{e:Expr}{es:List Expr}{te:TE}{t:TA}{pos:Pos}
theorem xi:PA X [] tNil:=fun _ _ _ _ H Q I h=>YZ (bC [] H I .nil h)
theorem xa (ha:tE) (hr:S2) (hs:wS:=by rfl):PA X ji (xsd te t):=by
 intro pos pins s Z H Q I h;rw[hs];show wpAny _ _ (spliced ((false,ww)::yk)) _ _ s;refine Yy (thn (ha pins s Z H _ I h) fun u s1 ⟨x,H1,I1,r1,q1⟩=>?_);exact thn (hr pos pins s1 Z H1 _ I1 q1) fun us s2 ⟨xs,H2,I2,r2,q2⟩=>(bC,pY,H2,I2,dJ r1 r2,q2)
noncomputable def tTup (t:TA):TE:=zjF (nE H1 p xs)
noncomputable def tLst (t:TA):TE:=zjF (dN H1 p xs)
theorem xad {x1} (h:S2):PE X (.Tuple es x1 pos) (tTup t):=by
 intro pins s Z H Q I hq;refine wpAny_Tuple_spliced (thn (h pos pins s Z H _ I hq) fun us s1 ⟨xs,H1,I1,r,z,q⟩=>zpO);show(ay,hf,zlW,NX,(zgB,nE H1 s1.heap.objs.size xs,q _ hf));exact⟨z,us,r,vW iJ gs⟩
theorem xb3 (h:S2):PE X (.List es pos) (tLst t):=by
 intro pins s Z H Q I hq;refine wpAny_List_spliced (thn (h pos pins s Z H _ I hq) fun us s1 ⟨xs,H1,I1,r,z,q⟩=>zpO);show(ay,hf,zlW,NX,(zgB,dN H1 s1.heap.objs.size xs,q _ hf));show(aO,z,bw us 0 r iJ)
#check _
noncomputable abbrev Sp:=ag->Hp->(bM VK XK)
noncomputable abbrev CXT:=bg lS Hp Shared XK bj
structure Env0 (P:Program) (w:World) (K:Zd) (mg:fK) (base:Heap) (A:Around) (outer:lS) (s:Shared) (H:Hp):Prop where
 frames:A.frames=some outer
 mod:Mod K mg base
 bs:(mC,base.get? b=some o,fY/\dz)
 bsz:base.objs.size<=s.heap.objs.size
 funs:s.heap.FunFrames base outer
 frf:∀ b∈frs outer,dz
 hok:HOk P w H s.heap
 bare:AllBare s.gens
noncomputable def CE (outer:lS) (P:Program) (w:World) (H:Hp) (s:Shared) (Q:VK) (u:Value) (s':Shared):Prop :=
 ∃ v H',s'.os=s.os/\(au,O7,Un (frs outer) [] H H' s.heap s'.heap,HOk P w H' s'.heap,kP,CP)
noncomputable def CR (CX:CXT) (outer:lS) (P:Program) (w:World) (H:Hp) (s:Shared) (Q:VK) (E:XK) (r:Result) (s':Shared):Prop :=
 match r with
 | .ok (.ret u)=>CE outer P w H s Q u s'
 | .ok _=>False
 | .error e=>CX outer H s E e s'
structure FnOk (q0:Bool) (P:Program) (w:World) (K:Zd) (mg:fK) (base:Heap) (CX:CXT) (k:Nat) (f:Addr) (fd:FuncData) (ps:ai) (sp:Sp):Prop where
 len:Gw
 run:∀(A:Around) (outer:lS) (s:Shared) (H:Hp) (args:Args) (us:aQ) (vs:ag) (Q:VK) (E:XK),Bq->Env0 P w K mg base A outer s H->BindsTo s fd args SW->EZ->ER ->
  codeAny yK A (.call (.ref f) args) (CR CX outer P w H s Q E) s
theorem Env0.make {P:Program}{w:World}{K:Zd}{mg:fK}{base:Heap}{A:Around}{outer:lS}{s:Shared}{H:Hp} (e:Env0 P w K mg base A outer s H) (C:Addr) (us:aQ) (kw:A4) :
    Env0 P w K mg base (MG O0) outer s H:=⟨by first|exact e.frames|(simpa [Around.under,Code.envs,Code.isFrame,pushEnvs] using e.frames),e.mod,e.bs,e.bsz,e.funs,e.frf,e.hok,e.bare⟩
section
variable {X:Cx}{pins:List (Addr × Obj)}{Z:St}{H:Hp}{s s':Shared}
theorem Inv.env0 (I:aq):Env0 X.prog X.w X.K X.mg X.base X.A X.stack s H :=
 ⟨I.ok.frames,I.ok.mod,I.bs,ZZ I.ok.bsz I.sz,I.stack,I.stkFree,I.hok,I.bare⟩
theorem Inv.after {Q:VK}{u:Value} (I:aq) (h:CE X.stack X.prog X.w H s Q u s'):EP X pins Z Q u s':=by
 obtain⟨v,H',os,bare,un,hok,r,q⟩:86:=h;obtain⟨hh,g,d,t,os'⟩:=s';show(cQ,os'=s.os,os);exact(bC,v,H',I.call (h':=hh) (g':=g) (d':=d) (t':=t) (ch:=[]) un hok bare (fun b z=>absurd z ah),r,q)
#check _
noncomputable def xr8 (sp:Sp) (dvs:ag) (E:St->XK) (t:TA):TE:=(xL,vs,sp Cs H1 Q (E Z))
inductive xtu (C:Addr) (m:Str) (sp:Sp) (dvs:ag) (E:St->XK) (t:TA) (Z:St) (x:V) (H1:Hp) (Q:VK):Prop
 | mk (a dx fs) (e_:x=aA) (r_:H1 a=some Fh/\fs.lookup m=none/\t Z H1 fun vs H2=>sp (x::Cs) H2 Q (E Z))
noncomputable def xse (C:Addr) (m:Str) (sp:Sp) (dvs:ag) (E:St->XK) (ta:TE) (t:TA):TE:=(wZ,xtu C m sp dvs E t Z x H1 Q)
noncomputable def xr6 (C:Addr) (sp:Sp) (dvs:ag) (E:St->XK) (t:TA):TE:=fun Z H Q=>t Z H fun vs H1=>∀ x dx,H1 x=none->H1 dx=none->dx≠x ->
 (zgo (upd H1 dx (.own x)))
noncomputable def xw (K:Zd) (fd:FuncData) (ps:ai) (ds:aQ):Prop :=
 ∀(s:Shared) (us:aQ),ym->(zB,(zE).length)->(zey us (ps.zip zE))
theorem xw.all {K:Zd}{fd:FuncData}{ps:ai} (h:∀ us:aQ,zhi fd):ba fd ps:=fun s us _ hl=>by
 rw[YL] at hl ⊢;exact .of_eq (h us hl)
noncomputable def xd5 (CX:CXT) (X:Cx) (E:St->XK):Prop:=∀(pins:bc) (Z:St) (H:Hp) (s:Shared) (e:Value) (s':Shared),aq->CX X.stack H s (E Z) e s'->X.xe e s'
section
variable {X:Cx}{CX:CXT}{k:Nat}{f C:Addr}{fd:FuncData}{ps:List Str}{sp:Sp}{dvs:List V}{ds:List Value}{E:St->XK}{x m:Str}{p pos apos:Pos}{e o:Expr}{es:List Expr}{ta:TE}{t:TA}
theorem xlm {pins:bc}{Z:St}{H:Hp}{s:Shared}{Q:VK}{us:aQ}{vs:ag} (F:FnOk q0 X.prog X.w X.K X.mg X.base CX k f fd ps sp) (hr:PY) (hb:AO) (hd:Bn) (hx:BE)
    (I:aq) (r:EZ) (h:sp Cs H Q (E Z)):wpAny aJ X.A (call (.ref f) us) lJ X.xe s:=by
  have r2:Vals Cs zE:=r.append hd;have hl:(zE).length=ps.length:=(dE,r2.length,F.len _ _ _ _ h)
  refine Ww (Qx (F.run X.A X.stack s H (nU us) zE Cs Q (E Z) hr I.env0 (hb s us I.kIn hl) r2 h) (aI r s' hq));cases r with
  | error e=>exact hx pins Z H s e s' I hq
  | ok fl =>
    cases fl with
    | ret u=>exact I.after hq
    | next=>exact Ya hq
    | brk=>exact Ya hq
    | cont=>exact Ya hq
theorem xtr (F:FnOk q0 X.prog X.w X.K X.mg X.base CX k f fd ps sp) (hr:PY) (hg:rp) (hm:Ij Gd) (hk:Jy X.K Gd=true) (hb:AO) (hd:Bn) (hx:BE)
    (ha:BL) (hdb:mP:=by decide) (he:wS:=by rfl) (hpl:(yk).any (·.1)=false:=by rfl) :
    uj BP ji (xr8 sp dvs E t):=by
  intro pins s Z H Q I h;ext WO;refine Wx (h₀:=X.base) I.ok.mod.kin hk (thn (ha pos pins s Z H _ I h) fun us s1 ⟨vs,H1,I1,r,q⟩=>dQ I1.kIn) he hpl;exact xlm F hr hb hd hx I1 r q
theorem xae {pl:TV} (he:PE X o ta) (c:Kl) (hm:Meth X.K C m f) (F:FnOk q0 X.prog X.w X.K X.mg X.base CX k f fd ps sp) (hr:PY) (hb:AO) (hd:Bn) (hx:BE) (ha:BL)
    (hst:wS:=by rfl) (hpl:(yk).any (·.1)=false:=by rfl)
    (ht:eval (K4 NW ji) X.env=(do
      let ov <- jx o
      zqT
      let (f,first) <- zjY
      zkf ji):=by rfl) :
    uj NW ji (xse C m sp dvs E ta t):=by
  intro pins s Z H Q I h;refine zqf (thn (he pins s Z H _ I h) fun u s1 ⟨x,H1,I1,rx,a,dx,fs,ex,ea,l,q⟩=>?_) ht;ext rZ;refine xih I1 ea c hm l ?_;refine Wx (first:=fF) (h₀:=X.base) I.ok.mod.kin hm.kp (thn (ha pos pins s1 Z H1 _ I1 q) fun us s2 ⟨vs,H2,I2,r,q2⟩=>dQ I2.kIn) hst hpl;exact xlm (us:=aA::us) (vs:=aA::vs) F hr hb hd hx I2 (dJ rfl r) q2
theorem xbi {pl:TV} (he:PE X o ta) (c:Kl) (hm:Meth X.K C m f) (F:FnOk q0 X.prog X.w X.K X.mg X.base CX k f fd ps sp) (hr:PY) (hb:AO) (hd:Bn) (hx:BE)
    (ht:eval (K4 NW []) X.env=(do
      let ov <- jx o
      zqT
      let (f,first) <- zjY
      zkf []):=by rfl) :
    uj NW [] (xse C m sp dvs E ta tNil):=by
  intro pins s Z H Q I h;refine zqf (thn (he pins s Z H _ I h) fun u s1 ⟨x,H1,I1,rx,a,dx,fs,ex,ea,l,q⟩=>?_) ht;ext rZ;refine xih I1 ea c hm l ?_;exact PySem.W.callWith_K0 (first:=fF) I1.kIn hm.kp (xlm (us:=fF) (vs:=fF) F hr hb hd hx I1 (dJ rfl .nil) q)
structure Mk (K:Zd) (C f:Addr):Prop where
 makes:Y5 K C=true
 init:zoF
 fn:dw f
 kp:oM C
theorem xl2 {pins:bc}{Z:St}{H:Hp}{s:Shared}{Q:VK}{us:aQ}{vs:ag} (M:Mk X.K C f) (F:FnOk q0 X.prog X.w X.K X.mg X.base CX k f fd ps sp) (hr:zbW) (hb:AO) (hd:Bn)
    (hx:BE) (I:aq) (r:EZ)
    (h:∀ x dx,(bb,bz x,bz dx,dx≠x,zgo (upd H dx (.own x)))) :
    wpAny aJ X.A (call jd us) lJ X.xe s:=by
  show(ae,hq,h hZ s.heap.objs.size (I.hok.fresh (Nat.le_succ _)) xO (ZG (QJ _)),I2,Inv.made (C:=C) I);have r2:Vals (V.ref hZ::Cs) (Zr hZ::zE):=.cons rfl (r.append hd);have hl:(zeo++ds).length=ps.length:=by
    have e:=r2.length;show(bO,F.len _ _ _ _ hq,e,e.symm)
  refine Ww (xrf (f:=f) I.kIn M.makes M.init (beq_iff_eq.mp M.fn) (Qx (F.run _ X.stack _ _ (nU zeo) (Zr hZ::zE) _ _ (E Z) (hr.make C us [])
    (I2.env0.make C us []) (hb _ zeo I2.kIn hl) r2 hq) (aI r s' hq')))
  cases r with
  | error e=>exact hx pins Z _ _ e s' I2 hq'
  | ok fl =>
    cases fl with
    | ret u =>
      obtain⟨v,H',I3,rv,ev,q3⟩:84:=I2.after hq';subst ev;show(aO,rv,(cN,V.ref hZ,H',I3,q3))
    | next=>exact Ya hq'
    | brk=>exact Ya hq'
    | cont=>exact Ya hq'
theorem xfb (M:Mk X.K C f) (F:FnOk q0 X.prog X.w X.K X.mg X.base CX k f fd ps sp) (hr:zbW) (hg:rp) (hm:Ij jd) (hb:AO) (hd:Bn) (hx:BE)
    (ha:BL) (hdb:mP:=by decide) (he:wS:=by rfl) (hpl:(yk).any (·.1)=false:=by rfl) :
    uj BP ji (xr6 C sp dvs E t):=by
  intro pins s Z H Q I h;ext WO;refine Wx (h₀:=X.base) I.ok.mod.kin M.kp (thn (ha pos pins s Z H _ I h) fun us s1 ⟨vs,H1,I1,r,q⟩=>dQ I1.kIn) he hpl;exact xl2 M F hr hb hd hx I1 r q
theorem xl0 (M:Mk X.K C f) (F:FnOk q0 X.prog X.w X.K X.mg X.base CX k f fd ps sp) (hr:zbW) (hg:rp) (hm:Ij jd) (hb:AO) (hd:Bn) (hx:BE)
    (hdb:mP:=by decide):uj BP [] (xr6 C sp dvs E tNil):=by
  intro pins s Z H Q I h;ext WO;exact PySem.W.callWith_K0 I.kIn M.kp (xl2 (us:=[]) M F hr hb hd hx I .nil h)
#check _
structure xq (N P:ai) (sc:Scope):Prop where
 kind:sc.kind=.function
 co:zqc
 gen:zqb
 nd:N.Nodup
 pre:zqx
 par:∀ x∈P,Mx\/GA
 nofree:zka
theorem xka {kindOf:Oa}{x:Str}:zhM (zdO binds)
 | [],_,_=>rfl
 | (n,v)::r,m,h=>by
  unfold bindL;rw[xka (FZ,h w (Zj _ hw))];split
  .ext ziI
  .rfl
theorem xjx {kindOf:Oa}{x:Str}:zhM (zdN binds)
 | [],_,_=>rfl
 | (n,v)::r,m,h=>by
  unfold bindC;rw[xjx (FZ,h w (Zj _ hw))];split
  .rfl
  .ext ziI
theorem xjz {kindOf:Oa}{x:Str}{v:Value}:∀{P:List Str}{vs:List Value}{i:Nat}{m:Str->Option Value},P.Nodup->P[i]?=some x->vs[i]?=some v->kindOf x=some .local ->
    (wD (zdO (P.zip vs)))
  | [],_,_,_,_,h,_,_=>Be
  | df,[],_,_,_,_,h,_=>Be
  | p::P,w::vs,0,m,nd,h1,h2,hk=>by
    ext zpT;show bindL kindOf Oh m p=_;unfold bindL;rw[xka (jN,hv,(ZB.mp nd).1 (zbB hv)),az hk];simp
  | p::P,w::vs,aH,m,nd,h1,h2,hk=>by
    show (zdO Oh)=_;unfold bindL;exact xjz (i:=i) (ZB.mp nd).2 qx AH hk
theorem xjq {kindOf:Oa}{x:Str}{v:Value}:∀{P:List Str}{vs:List Value}{i:Nat}{m:Str->Option Value},P.Nodup->P[i]?=some x->vs[i]?=some v->kindOf x≠some .local ->
    (wD (zdN (P.zip vs)))
  | [],_,_,_,_,h,_,_=>Be
  | df,[],_,_,_,_,h,_=>Be
  | p::P,w::vs,0,m,nd,h1,h2,hk=>by
    ext zpT;show bindC kindOf Oh m p=_;unfold bindC;rw[xjx (jN,hv,(ZB.mp nd).1 (zbB hv)),aM hk];simp
  | p::P,w::vs,aH,m,nd,h1,h2,hk=>by
    show (zdN Oh)=_;unfold bindC;exact xjq (i:=i) (ZB.mp nd).2 qx AH hk
noncomputable def start (N:ai) (vs:ag):St:=vs.map some++List.replicate (N.length-vs.length) none
noncomputable def cxOf (q0:Bool) (CX:CXT) (P:Program) (w:World) (K:Zd) (mg:fK) (base:Heap) (N:ai) (qual:Str) (scope:Scope) (f:Addr) (cd:Value) (A:Around) (outer:lS) (s:Shared) (H:Hp) (E:XK):Cx where
 prog:=P
 w:=w
 K:=K
 mg:=mg
 base:=base
 A:=A.deeper A8
 N:=N
 s₀:=s
 H₀:=H
 env:=A8
 outer:=outer
 stack:=A8::outer
 ex:=[]
 calm:=q0
 fn:=R8
 pn:=[]
 xe:=(mG,e,wpAny yK (A.deeper A8) (leaving A8 e) (fun _ s''=>CX outer H s E e s'') (fun e' s''=>CX outer H s E e' s'') s')
theorem xl5 {sc:Scope}{n:Nat}{x:Str} (h:GA):∃ c,(cellsFrom n sc.names []).lookup x=some c:=by
 have q:=PySem.W.cellsFrom_some sc.names n [] (.inl h);exact QE.mp q
theorem xpn {CX:CXT}{P:Program}{w:World}{K:Zd}{mg:fK}{base:Heap}{N ps:ai}{qual:Str}{scope:Scope}{f:Addr}{cd:Value}{A:Around}{outer:lS}{s s1:Shared}{H:Hp}{E:XK}{us:aQ}{vs:ag}
    (S:xq N ps scope) (hd:zlP) (e0:Env0 P w K mg base A outer s H) (hl:zB vs.length) (r:EZ)
    (x:InCallC s s.heap.objs.size (bindL (A8).kindOf SW fb) zlL (bindC (A8).kindOf SW fb) s1) :
    Inv (cxOf q0 CX P w K mg base N qual scope f cd A outer s H E) [] SH H s1:=by
  have hpl:ps.length<=N.length:=by show(ve,vz S.pre,J0); omega
  show(gQ,h1,tk,rfl,hk,x.done)
  have noA:∀ b:Addr,b∉(cxOf q0 CX P w K mg base N qual scope f cd A outer s H E).ex:=fun b z=>absurd (Lb zdW) ah;refine⟨⟨e0.mod,S.kind,rfl,rfl,bp,bJ y z c h1 h2,Km,fun y c _ h=>?_,hd,Around.frames_deeper e0.frames,zC rfl,zmH,e0.bs,e0.bsz,fun b _ _=>noA b,zmH,e0.funs,e0.frf⟩,
    rfl,e0.bare,Un.kept hk,(dI,x.toInCall.ns,fun i y v h1 h2 h3=>?_),fun y c h=>(fC,x.cell y c h),e0.hok.fresh (Zl _),aI y c h,(eF,absurd (show p∈([]:bc) from hp) ah),e0.hok.kept hk,?_⟩
  . exact name_of_addr x.apart (JN h1) (JN h2)
  . have hy:(zoH .cell)\/(zoH .free):=hy
    rcases hy with hy|hy
    . exact xl5 hy
    . show(iP,S.nofree _ (JN hy))
  . exact JJ (x.above y c (JN h))
  . have hi:i<vs.length:=by
      unfold start at h2;by_cases hi:i<vs.length
      . exact hi
      . rw[Js zau] at h2
        rw[QO] at h2;ext Lg h2
    have ha:aF vs v:=by
      unfold start at h2;rw[ZQ zau,Zf] at h2;cases e:vs[i]? with
      | none=>ext cE e h2
      | some a=>ext bB e h2 h2; rfl
    show(af,u,hu,rv,r.get ha);have hp:aF ps y:=by
      rw[<- S.pre,List.getElem?_take_of_lt aa]; exact h1
    show(ay,ndP,ps.Nodup,by rw[<- S.pre]; exact S.nd.sublist (Q8 _ _),ip u rv);rcases S.par y (Zm hp) with k|k
    . show(cH,⟨k,xjz ndP hp hu k⟩)
    . show(i5,c,xl5 (n:=hZ) k)
      show(Ai,⟨.inl k,c,e,?_⟩);have q:=x.cell y c e;show(bO,xjq ndP hp hu (by show zpZ≠_; rw[k]; decide),q,q)
  . exact e0.hok.fresh (JJ (x.above y c (JN h)))
  . unfold start
    show _=N.length;rw[Zs,Za,Wc];omega
theorem xos {CX:CXT}{P:Program}{w:World}{K:Zd}{mg:fK}{base:Heap}{k:Nat}{f:Addr}{name qual:Str}{params:Arguments}{body:BR}{scope:Scope}{dV kV doc pm cdv ct oc:Value}{an od:ig}
    {osl:xF}{N ps:ai}{sp:Sp} (lk:GK (Jw name qual params body scope dV kV doc pm an cdv ct)) (hcd:GZ) (S:xq N ps scope)
    (len:Gw)
    (hbody:∀(A:Around) (outer:lS) (s:Shared) (H:Hp) (vs:ag) (Q:VK) (E:XK),(zaV (WJ scope cdv))->ER ->
      (Mi (cxOf q0 CX P w K mg base N qual scope f cdv A outer s H E) body)) :
    FnOk q0 P w K mg base CX dk f (Jw name qual params body scope dV kV doc pm an cdv ct) ps sp:=by
  show(cR,len,fun A outer s H args us vs Q E hr e0 hb r hsp=>?_);have hl:=len _ _ _ _ hsp;have KX:ym:=e0.mod.kin.keeps (pV,(e0.bs b o e).1);have lim:s.heap.NoLimit:=e0.mod.nolimit.keeps (pV,(e0.bs b o e).1);have hkind:∀ y∈SW,(Vz .local)\/((Vz .cell)/\(gM ((zlL).lookup y.1))):=fun⟨n,v⟩ hy=>by
    rcases S.par n (zbB hy) with q|q
    . ext cH q
    . show(jy,q,PySem.W.cellsFrom_some _ _ _ (.inl q))
  refine codeAny_call_function hr.depth (KX _ _ lk) rfl S.co S.gen rfl (PySem.W.codeRec_of KX hcd) (hb _ _ _ _ ?_);refine wpAny_newFunctionEnv_cells S.kind hkind (cI env he s1 x);subst he;show(cR,lim.keeps x.toInCall.keep,codeAny_func ?_);show(af,t,ht,hq,hbody A outer s H vs Q E (hr.deeper _) hsp);have I:Inv (cxOf q0 CX P w K mg base N qual scope f cdv A outer s H E) [] SH H s1:=xpn S hr.hd e0 hl r x;refine Jk (ht [] s1 SH H _ I hq) (aI fl s' hs) fun e s' hs=>hs;have fin:∀{σ':St}{H':Hp}{v:V}{u:Value},(bb,Inv (cxOf q0 CX P w K mg base N qual scope f cdv A outer s H E) [] σ' H' s',kP,CP,CE outer P w H s Q u s') :=
    fun {σ' H' v u} J rv q=>⟨86,v,H',J.os,J.bare,J.base,J.hok,rv,q⟩
  cases fl with
  | ret u =>
    obtain⟨v,σ',H',J,rv,q⟩:103:=hs;exact fin J rv q
  | next =>
    show(gQ,σ',H',J,q,hs);exact fin (v:=V.non) (u:=Jl) J rfl q
  | brk =>
    ext zme
  | cont =>
    ext zme
section
variable {X:Cx}{x:Str}{p pos:Pos}{e:Expr}{es:List Expr}{t:TA}{id T:String}{r:List V->Hp->VK->Prop}
noncomputable def tCB (r:ag->tX) (t:TA):TE:=(xL,vs,r vs H1 Q)
theorem xaw (hc:Eu id r) (hg:rp) (hm:qP x) (hv:bootBuiltins x=some (.builtin id)) (ha:BL) (hn:HJ:=by decide) (hdb:mP:=by decide)
    (he:wS:=by rfl) (hpl:(yk).any (·.1)=false:=by rfl):uj BP ji (tCB r t):=by
  intro pins s Z H Q I h;refine Yg (xcs I hg hm hv ?_ hn hdb);exact PyProof.Rows.callWith_builtin1 (thn (ha pos pins s Z H _ I h) fun us s1 ⟨vs,H1,I1,r1,q1⟩=>hc pins s1 Z H1 vs us Q I1 r1 q1) he hpl
theorem xcw (hc:xcg X (eY T) r) (hg:rp) (hm:qP x) (hv:bootBuiltins x=some (eY T)) (ha:BL) (hn:HJ:=by decide) (hdb:mP:=by decide)
    (he:wS:=by rfl) (hpl:(yk).any (·.1)=false:=by rfl):uj BP ji (tCB r t):=by
  intro pins s Z H Q I h;refine Yg (xcs I hg hm hv ?_ hn hdb);exact Je (thn (ha pos pins s Z H _ I h) fun us s1 ⟨vs,H1,I1,r1,q1⟩=>hc pins s1 Z H1 vs us Q I1 r1 q1) he hpl
#check _
#check L2
namespace HT
open PySem PyProof.Rows
section
variable {prog:Program}{w:World}{A:Around}{E:Value->Shared->Prop}{s:Shared}
theorem cat_tup {t b:Addr}{vs ws:aQ}{Q:bj} (ht:IsTup s.heap t vs.toArray) (hb:IsTup s.heap b ws.toArray) (hv:vs≠[])
    (h1:ws=[]->Q zJ s) (h2:ws≠[]->Q eZ { s with heap:=(OD,"tuple",(vs++ws).toArray) })
    (hsz:(cV,vs.length+ws.length)):wpAny aS A (binaryOp .Add zJ dX) Q E s:=by
  obtain⟨⟨cls,dd,data,sl⟩,ho,hc,⟨n,hd⟩⟩:63:=id ht;obtain⟨⟨cls2,dd2,data2,sl2⟩,ho2,hc2,⟨n2,hd2⟩⟩:63:=id hb;simp only at hc hd hc2 hd2;subst hc hd hc2 hd2;have e:vs.toArray++ws.toArray=(vs++ws).toArray:=ah
  by_cases hw:ws=[]
  . exact concat_meets (dY ho) (dY ho2) noFill_tuple_add seq_tuple_add PySem.F.slot_tuple_add PySem.F.entry_tuple_add zlB
      (tuple_addW1 t b vs.toArray ws.toArray n n2 dd dd2 sl sl2 (by simpa using hv) (cM hw)) ⟨ho,ho2,h1 hw⟩
  . refine concat_meets (dY ho) (dY ho2) noFill_tuple_add seq_tuple_add PySem.F.slot_tuple_add PySem.F.entry_tuple_add zlB
      (tuple_addW2 t b vs.toArray ws.toArray n n2 dd dd2 sl sl2 (by simpa using hv) DO (nD Z7 Z7 hsz)) (ip ho ho2)
    rw[e];exact h2 hw
noncomputable def sIx (n d:Nat):ju->Nat
 | none=>d
 | gz=>U6
theorem sIx_none (n d:Nat):sIx n d none=d:=rfl
theorem sIx_nat (n d k:Nat):sIx n d (some pL)=min k n:=by
 show (iY,pL,0,(pL+gV).toNat,min (pL).toNat n)=min k n;rw[vQ,JM]
theorem xu2 (n d:Nat) (hd:d<=n) (o:ju):sIx n d o<=n:=by
 cases o with
 | none=>exact hd
 | some v =>
  show U6<=n;by_cases hv:v<0
  .rw [az hv]; omega
  .show(bI,aM hv,Nat.min_le_right _ _)
theorem xmz (v:Int) (n d:Nat):zkC=(dM,sIx n d gz):=by
 show zkC=(dM U6)
 by_cases hv:v<0
 .simp only [az hv]; omega
 .simp only [aM hv]; omega
theorem xnr (lo hi:ju) (n:Nat):ziY=(O4,(dM,sIx n n hi)):=by
 have h1:¬ (CS<0):=aa
 unfold Builtin.Slice.sliceAdjust;simp only[h1,if_false];refine Prod.ext ?_ ?_
 .cases lo with
  | none=>rfl
  | some v=>exact xmz v n 0
 .cases hi with
  | none=>rfl
  | some v=>exact xmz v n n
theorem xns (i j:Nat):Builtin.Slice.slicePlaces cG nM 1=j-i:=by
 unfold Builtin.Slice.slicePlaces;have h1:CS>0:=aa
 simp only[h1,if_true,Int.ediv_one];ext lQ
theorem xif {v:Value}{o:ju}{Q:eQ ju} (p:IsPart v o) (h:Q o s):wpAny aS A (Builtin.Slice.slicePartIndex v) Q E s:=by
 cases p with
 | none=>exact slicePart_none h
 | int i t=>exact slicePart_int h
theorem xho {sl:Addr}{vl vu:Value}{lo hi:ju}{n:Nat}{Q:(eQ,Int × Int × Nat)} (hs:Vi) (pl:zdb) (pu:zda)
    (h:Q (O4,1,sIx n n hi-sIx n 0 lo) s):wpAny aS A (Builtin.Slice.sliceApplied (.ref sl) (pure gV)) Q E s:=by
  show(bF,os,hos,hcs,hds,id hs);unfold Builtin.Slice.sliceApplied Builtin.Slice.sliceFields;refine Zc (Zc (Qn hos hds (x:=vl) rfl (Zc (Qn hos hds (x:=vu) rfl (Zc (Qn hos hds (x:=.none) rfl (Zk ?_)))))));refine Zc (slicePart_none ?_);show wpAny _ _ (cm (CS == 0) _ _) _ _ s;ext dB ap;show(bm,xif pl (Zc (xif pu (Zc (Zk ?_)))));show wpAny _ _ (match ziY with|(lo,hi)=>pure (lo,CS,Builtin.Slice.slicePlaces lo hi 1)) _ _ s;rw[xnr lo hi n];show wpAny _ _ (pure (O4,CS,Builtin.Slice.slicePlaces O4 (dM,sIx n n hi) 1)) _ _ s;rw[xns];exact Zk h
theorem xrw (xs:gL) (i k:Nat):((Z1 k).filterMap (pB m zlt)).toArray=((xs.toList.drop i).take k).toArray:=by
 have e:(pB m zlt)=fun m=>xs[i+m]?:=by
  funext m;have:(cG+(bA m)*1).toNat=i+m:=aa
  rw[this]
 rw[e];show(ve,pick_run xs i k,Q3);have e2:((jr,xs[x]?)∘(jr,i+x))=fun m=>xs[i+m]?:=rfl;rw[e2] at this;rw[this]
theorem getItem_tuple_cut {t sl:Addr}{items:gL}{vl vu:Value}{lo hi:ju}{Q:bj} (ht:IsTup s.heap t items) (hs:Vi) (pl:zdb) (pu:zda)
    (hw:¬ (xK=0/\Aq=items.size))
    (h:HH eZ (OD,"tuple",((UY).take (Aq-xK)).toArray))
    (hsz:zbr):wpAny aS A (getItem (.ref t) (.ref sl)) Q E s:=by
  have htake:sizeOk (.seq ((UY).take (Aq-xK)).toArray):=by
    show (cV,((UY).take (Aq-xK)).toArray.size);rw[Z7,J0,List.length_drop,JE];omega
  have hj:Aq<=items.size:=xu2 _ _ bp hi;show(bF,os,hos,hcs,hds,id hs);have hTs:Sn sl "slice":=⟨os,hos,hcs⟩
  unfold getItem
  try with_reducible refine ZW ?_
  first|ext sG|skip
  show(bm,wpAny_sequenceKey ht.typeIs ap ?_);refine Zc (J4 (name:=Z8 "__getitem__") ht.typeIs Qc
    (Jz Qc ht.typeIs entry_tuple_getitem ?_ (args_tuple_getitem _ _)))
  show wpAny _ _ (Builtin.Tuple.tupleItemsOf (.ref t)>>=_) _ _ s;show(bm,tupleItemsOf_ ht ?_);show(bm,Qw hTs ?_);rw[az ap];show(bm,xho hs pl pu ?_);have hno:¬ (zgH=true):=by
    intro q;rw[ZM,ZM] at q;have q1:(dM xK)=0:=Wo q.1.1;have q2:Aq-xK=items.size:=Wo q.2;exact hw ⟨aa,aa⟩
  show wpAny _ _ (cm zgH _ _) _ _ s;rw[aM hno,xrw]
  first
    | exact MI (JK (Zk Tc) htake)
    | exact MI (JK (Zc (Zk (Zk Tc))) htake)
    | exact Zc (MI (JK (Zk (Zk Tc)) htake))
    | exact Zc (MI (JK (Zk Tc) htake))
#check _
#check HT
namespace L2
open PySem PySem.Spec PyProof.Rows
variable {q0:Bool}
noncomputable abbrev TO:=St->(uy (mF ju))
noncomputable def PO (X:Cx) (e:cX Expr) (t:TO):Prop :=
 ∀(pins:List (Addr × Obj)) (s:Shared) (Z:St) (H:Hp) (Q:mF ju),aq->Cf ->
  wpAny aJ X.A (evalPart e X.env) (fun u s'=>∃ o H',sV/\IsPart u o/\Q o H') X.xe s
noncomputable def xs5:TO:=(FG,Q none H)
noncomputable def xwl (t:TE):TO:=(iO,Q,t Z H fun x H1=>∃ i,x=cB/\Q zK H1)
theorem xoh {ns:bK}:∀{us:aQ},Vals (ns.map V.int) us->IntsAre us ns:=by
 induction ns with
 | nil=>intro us r; show(bB,List.map_nil,r,r); ext gW
 | cons n ns ih =>
  intro us r;rw[Zo] at r;cases r with
  | cons r1 r2 =>
   ext i5 t r1;ext cZ;exact .cons n t (ih r2)
section
variable {X:Cx}{e:Expr}{te:TE}{lo hi:Option Expr}{tl th:TO}{pos p2:Pos}
theorem xeh:PO X none xs5:=by
 intro pins s Z H Q I h;rw[evalPart_none];exact Zk (bC none H I .none h)
theorem xee (h:tE):PO X (some e) (xwl te):=by
 intro pins s Z H Q I hw;rw[evalPart_some];show(kD,h pins s Z H _ I hw,fun u s1 ⟨x,H1,I1,r1,q1⟩=>?_);show(af,i,rfl,q,q1);ext kH r1;exact bC zK H1 I1 T9 q
noncomputable def SlR (X:Cx) (r:Hs):Prop :=
 ∀(pins:bc) (s:Shared) (Z:St) (H:Hp) (x:V) (v vl vu:Value) (lo hi:ju) (sl:Addr) (Q:VK),aq->tJ->Vi->zdb->zda->r x lo hi H Q ->
  ∃ T id,zlj/\s.TypeIs v T/\wpAny aJ X.A (getItem v (.ref sl)) lJ X.xe s
noncomputable def tSl (r:Hs) (te:TE) (tl th:TO):TE:=(iO,Q,te Z H fun x H1=>tl Z H1 fun l H2=>th Z H2 fun u H3=>r x l u H3 Q)
theorem xdv {r:Hs} (hr:SlR X r) (he:tE) (hl:PO X lo tl) (hu:PO X hi th):PE X (.Subscript e zpy pos) (tSl r te tl th):=by
 intro pins s Z H Q I h;refine Subscript_ (thn (he pins s Z H _ I h) fun v s1 ⟨x,H1,I1,r1,q1⟩=>?_);refine wpAny_Slice (thn (hl pins s1 Z H1 _ I1 q1) fun vl s2 ⟨l,H2,I2,pl,q2⟩=>thn (hu pins s2 Z H2 _ I2 q2) fun vu s3 ⟨u,H3,I3,pu,q3⟩=>?_);rw[evalPart_none];ext nB;have I4:cT H3 Uv:=I3.kept (t':=s3.toks) (wK ob Gj);obtain⟨T,id,hT,ht,hg⟩:83:=hr pins Uv Z H3 x v vl vu l u s3.heap.objs.size Q I4 r1 (Heap.IsSliceOf.new ..) pl pu q3;show wpAny aJ X.A (subscriptTail e zpy v zoI) lJ X.xe Uv;exact tail_any (ops:=[zoI,v]) ht hT hg (by with_unfolding_all rfl)
noncomputable def cutV (xs:ag) (lo hi:ju):ag:=(xs.drop (HT.sIx xs.length 0 lo)).take ((Gr xs.length)-NB)
theorem xhe (xs:ag) (lo hi:ju):zQ zcy xs.length:=by
 unfold cutV;rw[J0,List.length_drop];omega
noncomputable def rSlT (K:Zd):Hs:=fun x lo hi H Q=>∃ a xs,x=aA/\Ic /\
 ¬ (NB=0/\(Gr xs.length)=xs.length)/\∀ p,jc->Q cq (nE H p zcy)
theorem xu4:SlR X (rSlT X.K):=by
 intro pins s Z H x v vl vu lo hi sl Q I rx hs pl pu h;obtain⟨a,xs,rfl,hx,hw,q⟩:84:=h;ext fG;show(bF,its,r,ht,hz,qe hx);have hlen:its.toArray.size=xs.length:=av Z7 r.length.symm
 refine⟨83, "tuple",_,Qc.lookup,ht.typeIs,?_⟩;refine HT.getItem_tuple_cut ht hs pl pu (av hlen hw) ?_ (av hlen hz);rw[hlen];refine(UL,.tup (cutV xs lo hi),q _ xO);exact⟨zpz,_,(zkI).take ((Gr xs.length)-NB),IsTup.new _ _⟩
inductive xkh (K:Zd) (x:V) (y:V) (H:Hp) (Q:VK):Prop
 | mk (a b xs ys) (e_:x=aA) (r_:aR y dX Ic (au,SqT K H b ys,xs≠[],(cV,xs.length+ys.length),ys=[]->Q aA H,(ys≠[]->∀ p,jc->Q cq (nE H p (xs++ys)))))
theorem Vals.nil_iff {xs:ag}{us:aQ} (r:kL):us=[]↔xs=[]:=by
 cases r with
 | nil=>simp
 | cons _ _=>simp
theorem xi6:OpR X (binaryOp .Add) (xkh X.K):=by
 intro pins s Z H x y v u Q I rx ry h;obtain⟨a,b,xs,ys,rfl,rfl,ha,hb,hx,hz,q1,q2⟩:=h;ext fG;ext fX;show(yG,its,r1,p1,qe ha);show(yG,its2,r2,p2,qe hb);refine HT.cat_tup p1 p2 (aC,hx (r1.nil_iff.mp z)) (aC (cN,aA,H,I,q1 (r2.nil_iff.mp z))) l0 (by rw[<- r1.length,<- r2.length]; exact hz);refine(UL,.tup (xs++ys),q2 (fun w=>z (r2.nil_iff.mpr w)) _ xO);exact⟨av Zs hz,_,r1.append r2,IsTup.new _ _⟩
#check _
noncomputable def ixN (n:Nat) (i:Int):cX Nat:=if 0<=i then (zP hW i.toNat) else (zP,-gV<=i,(i+n).toNat)
noncomputable def atI {α:Type} (xs:b7) (i:Int):cX α:=(ixN xs.length i).bind fun j=>xs[j]?
theorem xnh {n:Nat}{i:Int}{j:Nat} (h:ixN n i=some j):(bE,seqIndex? i n=some j,j<n,-gV<=i,hW):=by
 unfold ixN at h;by_cases h0:0<=i
 .show(gH,az h0);by_cases h1:hW
  .show(gH,az h1);have e:i.toNat=j:=ZE.inj h;exact bR (cK,seqIndex_of h0 h1,e) aa aa h1
  .show(gH,aM h1); cases h
 .show(gH,aM h0);by_cases h1:-gV<=i
  .show(gH,az h1);have e:(i+n).toNat=j:=ZE.inj h;exact bR (cK,seqIndex_neg aa h1,e) aa h1 aa
  .show(gH,aM h1); cases h
theorem xiv {α:Type}{xs:b7}{i:Int}{v:α} (h:(wD,atI xs i)):∃ j,(au,seqIndex? i xs.length=some j,b9 xs v,j<xs.length,-bA xs.length<=i,zes):=by
 unfold atI at h;cases e:ixN xs.length i with
 | none=>ext cE e h
 | some j =>
  rw[e] at h;show(jY,h1,h2,h3,h4,xnh e);exact⟨65,j,h1,h,h2,h3,h4⟩
theorem xdu {α:Type}{xs:b7}{j:Nat}{v:α} (h:b9 xs v):(wD,atI xs nM):=by
 have hj:j<xs.length:=(Zi.mp h).1;have e:ixN xs.length nM=some j:=by
  unfold ixN;rw[LF,LF]; simp
 unfold atI; ext aB e h
theorem xr1 {α:Type} (xs:b7) (v:α):(wD,atI (xs++[v]) (-1)):=by
 have hl:(xs++[v]).length=zet:=ah
 have e:ixN (xs++[v]).length (-1)=some xs.length:=by
  unfold ixN;rw[hl,LQ,LF]
  congr 1
  omega
 unfold atI;rw[e];show dO (xs++[v]) xs.length v;simp
noncomputable def xsv (b:Expr):Prop:=∀ o i,subscripted b false o i=operate [o,i] (getItem o i)
noncomputable def IxR (X:Cx) (r:R2):Prop :=
 ∀(value slice:Expr) (pins:bc) (s:Shared) (Z:St) (H:Hp) (x y:V) (v u:Value) (Q:VK),aq->tJ->gS->r x y H Q ->
  subscripted slice false v u=operate [v,u] (getItem v u)->wpAny aJ X.A (subscriptTail value slice v u) lJ X.xe s
noncomputable def MtR (X:Cx) (id:String) (r:zef):Prop :=
 ∀(pins:List (Addr × Obj)) (s:Shared) (Z:St) (H:Hp) (x:V) (xs:List V) (v:Value) (us:List Value) (Q:VK),Inv X pins Z H s->RelV x v->Vals xs us->r x xs H Q ->
  wpAny aJ X.A (Bk id (v::us)) lJ X.xe s
section
variable {X:Cx}{a b:Expr}{ta tb:TE}{pos:Pos}
theorem xak {r:R2} (hr:IxR X r) (ha:o7) (hb:yH) (hs:xsv b):PE X (.Subscript a b pos) RV:=by
 intro pins s Z H Q I h;exact Subscript_ (binT ha hb I h fun v u s2 x y H2 I2 rx ry q=>hr a b pins s2 Z H2 x y v u Q I2 rx ry q (hs _ _))
inductive rIxL (K:Zd) (x:V) (y:V) (H:Hp) (Q:VK):Prop
 | mk (p xs i v) (e_:x=cq) (r_:zmi Rz)
inductive rIxT (K:Zd) (x:V) (y:V) (H:Hp) (Q:VK):Prop
 | mk (p xs i v) (e_:x=cq) (r_:zmi zdl)
inductive rIxS (x:V) (y:V) (H:Hp) (Q:VK):Prop
 | mk (z i c) (e_:x=.str z) (r_:(jI,y,cB,cV z.length,atI z.cps.toList i=some c,Q (.str ⟨#[c]⟩) H))
theorem xax:IxR X (rIxL X.K):=by
 intro value slice pins s Z H x y v u Q I rx ry h hs;obtain⟨p,xs,i,z,rfl,rfl,hq,he,q⟩:=h;ext fG;ext kH ry;ext yA r qO;obtain⟨j,h1,h2,h3,h4,h5⟩:65:=xiv he;ext zif;have fin:EP X pins Z Q w s:=wO z I rw'
 by_cases h0:0<=i
 .have hj:i.toNat=j:=by
   ext zne h5
  exact item_listR pl.isList h0 aa znu fin hs
 .have hj:(i+zps).toNat=j:=by
   ext ziM h4
  exact subscriptTail_builtinR (x:=w) pl.isList.typeIs slot_list_getitem.lookup
   (wpAny_getItem_list_neg (Q:=(mG,r,r=w/\EP X pins Z Q r s')) pl.isList aa (by rw[Z7]<;>omega) aa znu (eG fin)) hs
theorem xbl:IxR X (rIxT X.K):=by
 intro value slice pins s Z H x y v u Q I rx ry h hs;obtain⟨p,xs,i,z,rfl,rfl,hq,he,q⟩:=h;ext fG;ext kH ry;ext yA r FM;obtain⟨j,h1,h2,h3,h4,h5⟩:65:=xiv he;ext zif;have fin:EP X pins Z Q w s:=wO z I rw'
 exact subscriptTail_builtinR (x:=w) pl.typeIs slot_tuple_getitem.lookup
  (getItem_tuple (j:=j) (Q:=(mG,r,r=w/\EP X pins Z Q r s')) pl aa aa (by rw[Z7,<- hl]; exact h1) (by simpa using ew) (eG fin)) hs
theorem xuw:IxR X rIxS:=by
 intro value slice pins s Z H x y v u Q I rx ry h hs;obtain⟨z,i,c,rfl,rfl,hz,he,q⟩:=h;ext iN;ext fP;obtain⟨j,h1,h2,h3,h4,h5⟩:65:=xiv he;have hl:z.cps.toList.length=z.length:=cM Str.length
 rw[hl] at h1 h4 h5;have hn:=xeu;exact tail_any (typeIs_str s z t) slot_str_getitem.lookup (getItem_str (c:=c) (by
  have e1:rF (i < -(bA,2 ^ 63)) false:=decide_eq_false aa;have e2:rF (i>=2 ^ 63) false:=decide_eq_false aa;rw[e1,e2,Bool.or_false]) (by rw[h1]; simpa using h2) (wO,.str ⟨#[c]⟩,jz,gs)) hs
theorem xoq (its:aQ) (n j:Nat) (u:Value):JO (·.setIfInBounds j u) An=(eP,"list",.seq (its.set j u).toArray n):=by
 simp[JO]
theorem Inv.lst {pins:bc}{Z:St}{H:Hp}{s:Shared}{p:Addr}{xs:ag} (I:aq) (h:oR p) :
    (zbD,Bo/\(uG p An)/\xY):=by
  show(zch,I.hok p _ h);exact bC its n r e z
theorem Inv.lstUpd {pins:bc}{Z:St}{H:Hp}{s:Shared}{p:Addr}{xs ys:ag}{its its':aQ}{n n':Nat}{f:Obj->Obj} (I:aq) (h:oR p)
    (ho:uG p An) (hf:f An=zjW) (r:Vals ys its') (hz:Pq) (t:Nat) :
    cT (dN H p ys) { s with heap:=s.heap.update p f,toks:=t }:=by
  have e:(s.heap.update p f).get? p=some zjW:=by
    rw[JF f ho (by rw[hf]<;>rfl),hf]
  refine I.write (x:=p) (e:=p) (by rw[h]; trivial) gT (fun b u hb q=>(Y1 _ _ (Zx hb)).trans q) (fC e) ?_;show(aO,hz,bw its' n' r e)
noncomputable def xw9:bb V V V (uy Fz):=fun o i v H Q=>∃ p xs k j,(au,o=cq,i=.int k,oR p,ixN xs.length k=some j,Q zoZ)
theorem xfq:PSet X xw9:=by
 intro pins s Z H o i v ov iv u Q I ro ri rv h;obtain⟨p,xs,k,j,rfl,rfl,hp,hj,q⟩:125:=h;cases ro;ext kH ri;obtain⟨its,n,r,ho,hz⟩:83:=I.lst hp;show(jY,h1,h2,h3,h4,xnh hj);show(ae,hl,r.length,hn,xeu);have I':Inv X pins Z zoZ { s with heap:=s.heap.update p (JO (·.setIfInBounds j u)) } :=
  I.lstUpd hp ho (xoq its n j u) (r.set rv j) (av List.length_set hz) s.toks
 by_cases h0:0<=k
 .have hk:k.toNat=j:=by
   ext zne h4
  exact PySem.W.ki_setAt ho h0 aa (by rw[Z7,<- hl]; exact h4) znj
 .have hk:(k+zps).toNat=j:=by
   ext ziM h3
  exact PySem.W.ki_setBack ho aa (by rw[Z7,<- hl]; exact h3) aa znj
theorem xlz (lo hi:ju) (n:Nat):(aR,(WB).1,(dM,HT.sIx n 0 lo),(aW WB)=(dM,Gr n),(bS WB)=1):=by
 show(dc,?_,?_,rfl)
 .cases lo with
  | none=>simp[sliceBounds,HT.sIx]
  | some i =>
   ext zfM
   .simp only [h,if_true]<;>omega
   .ext zqO
 .cases hi with
  | none=>simp[sliceBounds,HT.sIx]
  | some i =>
   ext zfM
   .simp only [h,if_true]<;>omega
   .ext zqO
theorem xke (its:aQ) (lo hi:ju):slicePick its.toArray lo hi none=((its.drop (HT.sIx its.length 0 lo)).take ((Gr its.length)-HT.sIx its.length 0 lo)).toArray:=by
 show(fO,h1,h2,h3,xlz lo hi its.toArray.size);unfold slicePick;rw[h1,h2,h3];simp only[sliceRange_one,pick_run,Z7]<;>rfl
noncomputable def rSlL (K:Zd):Hs:=fun x lo hi H Q=>∃ a xs,(aR,x,aA,mW,∀ p,jc->Q cq (dN H p zcy))
theorem xe9:SlR X (rSlL X.K):=by
 intro pins s Z H x v vl vu lo hi sl Q I rx hs pl pu h;obtain⟨a,xs,rfl,hx,q⟩:83:=h;ext fG;show(bF,its,r,ht,hz,I.list hx);show(mE,hlen,r.length,⟨83, "list",_,slot_list_getitem.lookup,ht.isList.typeIs,?_⟩);refine wpAny_getItem_list_slice ht.isList hs pl pu .none ah ?_ (by rw[Z7]<;>omega);rw[xke,<- hlen];refine(UL,.lst (cutV xs lo hi),q _ xO);show(aO,zpz,(bw,_,0,(zkI).take ((Gr xs.length)-NB),iJ))
noncomputable def xec:Lq
 | .non=>true
 | rN=>true
 | pK=>true
 | kX=>true
 | _=>false
noncomputable def eqV:V->V->Bool
 | .non,.non=>true
 | .bl a,rM=>F1
 | .bl a,.int b=>(zdK a) == b
 | .int a,rM=>a == (uY 1 0)
 | .int a,.int b=>F1
 | .str a,CT=>F1
 | _,_=>false
theorem xv9 {A:Around}{s:Shared}{y x:V}{u v:Value} (ry:gS) (rx:tJ) (fy:xec y=true) (fx:zdr):Z0 A s u v (eqV y x):=by
 cases y with
 | non =>
  ext fX;cases x with
  | non=>ext fG; exact Z0.same _
  | bl b=>ext fG; exact Z0.none_bool b
  | int b=>ext iN; exact Z0.none_int b t
  | str b=>ext iN; exact Z0.none_str b t
  | _=>ext AW fx
 | bl a =>
  ext fX;cases x with
  | non=>ext fG; exact Z0.bool_none a
  | bl b=>ext fG; exact Z0.bool_bool a b
  | int b=>show(C0,Z0.bool_int a b t)
  | str b=>show(C0,Z0.bool_str a b t)
  | _=>ext AW fx
 | int a =>
  ext fP;cases x with
  | non=>ext fG; exact Z0.int_none a t'
  | bl b=>ext fG; exact Z0.int_bool a t' b
  | int b=>show(C0,Z0.int_int a t' b t)
  | str b=>show(C0,Z0.int_str a t' b t)
  | _=>ext AW fx
 | str a =>
  ext fP;cases x with
  | non=>ext fG; exact Z0.str_none a t'
  | bl b=>ext fG; exact Z0.str_bool a t' b
  | int b=>show(C0,Z0.str_int a t' b t)
  | str b=>show(C0,Z0.str_str a t' b t)
  | _=>ext AW fx
 | _=>ext AW fy
noncomputable def eqU (x:V) (u:Value):Bool:=match u with
 | .none=>eqV .non x
 | .bool b=>eqV (.bl b) x
 | .int i _=>eqV (.int i) x
 | .str z _=>eqV (.str z) x
 | _=>false
theorem xpp {x y:V}{u:Value} (r:gS) (f:xec y=true):eqU x u=eqV y x:=by
 cases y with
 | non=>ext hJ r
 | bl b=>ext hJ r
 | int i=>ext FD
 | str z=>ext FD
 | _=>ext AW f
theorem xe8 {x:V}:(PF,kL->zam->us.any (eqU x)=znQ)
 | _,_,.nil,_=>rfl
 | y::xs,u::us,vD,f=>by
  rw[Qm,ZM] at f;rw[Yq,Yq,xpp r f.1,xe8 t f.2]
theorem xet {A:Around}{s:Shared}{x:V}{v:Value} (rx:tJ) (fx:zdr):(PF,kL->zam->∀ u∈us,Z0 A s u v (eqU x u))
 | _,_,.nil,_=>fun u hu=>by cases hu
 | y::xs,u::us,vD,f=>fun u' hu=>by
  rw[Qm,ZM] at f;rcases dU hu with rfl|hu
  .show(bI,xpp r f.1,xv9 r rx f.1 fx)
  .exact xet rx fx t f.2 u' hu
noncomputable def inV (x:V) (xs:ag):Bool:=znQ
inductive rIn (K:Zd) (neg:Bool) (x:V) (y:V) (H:Hp) (Q:VK):Prop
 | mk (p xs) (e_:y=cq) (r_:bE (Rz\/zdl) zdr zam (rg (if neg then ! inV x xs else inV x xs)))
theorem xi7:mS .In (rIn X.K false):=by
 intro pins s Z H x y v u Q I rx ry h;obtain⟨p,xs,rfl,hq,fx,fs,q⟩:=h;ext fX;rcases hq with hq|hq
 .ext NQ qO;refine SeqAt.in_listAt (eqU x) pl.isList (FZ,xet rx fx r fs w DO) (yS ?_);ext MA Ty
 .ext NQ FM;refine SeqAt.in_tupleAt (eqU x) pl (FZ,xet rx fx r fs w DO) (yS ?_);ext MA Ty
theorem xf6:mS .NotIn (rIn X.K true):=by
 intro pins s Z H x y v u Q I rx ry h;obtain⟨p,xs,rfl,hq,fx,fs,q⟩:=h;ext fX;rcases hq with hq|hq
 .ext NQ qO;refine SeqAt.notIn_listAt (eqU x) pl.isList (FZ,xet rx fx r fs w DO) (yS ?_);ext MA Ty
 .ext NQ FM;refine SeqAt.notIn_tupleAt (eqU x) pl (FZ,xet rx fx r fs w DO) (yS ?_);ext MA Ty
theorem xcj:(zeI,∃ p ys,aR xs [cq] zjA (lW ys.length)):=by
 intro pins s Z H xs us Q I r h;obtain⟨p,ys,rfl,hq,q⟩:83:=h;ext Fa rx r;ext fG;have hn:=xeu;rcases hq with hq|hq
 .ext zpM qO;exact Calls.call_len_list pl.isList Nf zhG
 .ext zpM FM;exact len_tuple pl Nf zhG
theorem xll:(zeI,∃ z,aR xs [.str z] (cV z.length) (lW z.length)):=by
 intro pins s Z H xs us Q I r h;show(bF,z,rfl,hz,q,h);ext zlh;have hn:=xeu;exact len_str aa (Ba z.length)
theorem xkt:xcg X Sb (Ld,∃ p ys,(aR,xs,[cq],zjA,∀ l,jD->Q bQ zec)):=by
  intro pins s Z H xs us Q I r h;obtain⟨p,ys,rfl,hq,q⟩:83:=h;ext Fa rx r;ext fG;have fin:∀(its:aQ),Vals ys its->Pq->∀(h':Heap) (c':Nat),(∀ b o',s.heap.get? b=some o'->(Pf o')) ->
      (VA (zdH its.toArray))->EP X pins Z Q eZ gJ:=fun its r' hz h' c' kp e =>
    (cN,eZ,_,I.laid (t':=s.toks) kp bp (show xa6 X.prog X.w _ h' _ (.lst ys) from ⟨hz,bw its c' r' e⟩),q _ xO)
  rcases hq with hq|hq
  . ext yA r' qO
    ext zcU;obtain⟨o,ho,hc,⟨n,hd⟩⟩:63:=(pl.isList)
    exact call_list_seq p gT ho hc hd (fH,h',c',kp,fin its r' hz h' c' kp e) Nf
  . ext yA r' FM
    ext zcU;obtain⟨o,ho,hc,⟨n,hd⟩⟩:63:=pl;exact call_list_seq p Ca ho hc hd (fH,h',c',kp,fin its r' hz h' c' kp e) Nf
noncomputable def tyV (K:Zd) (T:String) (x:V) (H:Hp):Prop:=match x with
  | kX=>T="str"
  | pK=>T="int"
  | cq=>(T="list"/\∃ xs,Rz)\/(T="tuple"/\∃ o,(A6 p o)/\o.cls=zdw/\zeq) \/
      (T="dict"/\((∃ kvs,ES p)\/∃ kvs,oS p))\/(T="set"/\∃ S n,ax p (.set S n))
  | _=>False
theorem xu5 {pins:bc}{Z:St}{H:Hp}{s:Shared}{T:String}{x:V}{v:Value} (I:aq) (r:tJ) (ty:tyV X.K T x H) :
    s.TypeIs v T/\∀ a,v=aA->∃ ob,(zac ob)/\ob.dict=none:=by
  cases x with
  | str z =>
    ext kH r;cases (mh T "str" ty);show(aO,typeIs_str s z t,fun _ e=>nomatch e)
  | int i =>
    ext kH r;cases (mh T "int" ty);show(aO,typeIs_int s i t,fun _ e=>nomatch e)
  | ref p =>
    cases r;rcases ty with⟨rfl,xs,hq⟩|⟨rfl,o,hk,hc,hd⟩|⟨rfl,hk⟩|⟨rfl,S,n,hk⟩
    . obtain⟨its,_,pl,_⟩:63:=qO
      show(nW,pl.isList.typeIs,a,e);cases e;obtain⟨o,n,e,c,hd,_⟩:84:=pl;ext aE o e hd
    . show(nW,(qg,I.kIn p o hk,hc),a,e)
      show(Aa,e,o,I.kIn _ o hk,hd)
    . have z:∃ o,(uG p o)/\o.ExactDict:=by
        rcases hk with⟨kvs,hk⟩|⟨kvs,hk⟩
        . ext zgg
        . ext zgg
      ext af o e ex z;ext ziU
    . obtain⟨o,_,_,_,e,ex,_⟩:123:=I.hok p _ hk
      ext ziU
  | _=>exact Ya ty
noncomputable def tBM (K:Zd) (T:String) (r:zef) (to:TE) (t:TA):TE:=(iO,Q,to Z H fun x H1=>tyV K T x H1/\t Z H1 fun xs H2=>r x xs H2 Q)
variable {o e:Expr}{es:List Expr}{to:TE}{t:TA}{name:Str}{apos cpos:Pos}{T id:String}{r:V->List V->Hp->VK->Prop}
theorem xd8 (pa:PlainAttrs T) (slot:Slot T name id) (hty:typeOf (.builtin id)=pure (.type "method_descriptor")) (hm:MtR X id r) (ho:BO) (ha:BL)
    (hbase:Db name:=by rfl)
    (hfew:((Cy ji).all (fun x=>! aN)&&(MT cpos).all (fun x=>(aN).isSome)
      && (Uk ji))=true:=by rfl)
    (hline:Dm:=by rfl) (hs:wS:=by rfl) (hplain:(Cy es).any (·.1)=false:=by rfl) :
    PE X (Di name ji) (tBM X.K T r to t):=by
  intro pins s Z H Q I h;refine wpAny_Call_method_late hbase hfew hline rfl (thn (ho pins s Z H _ I h) fun v s1 ⟨x,H1,I1,r1,ty,q1⟩=>?_);show(vb,h1,h2,xu5 I1 r1 ty,⟨86,T,id,pa,slot,hty,h1,h2,?_⟩);have hA:=ha cpos pins s1 Z H1 _ I1 q1;rw[hs] at hA ⊢;refine Yc (by show (false||(Cy es).any (·.1))=false; rw[hplain]<;>rfl) (Wn ?_);exact thn hA fun us s2 ⟨vs,H2,I2,r2,q2⟩=>hm pins s2 Z H2 x vs v us Q I2 r1 r2 q2
#check _
noncomputable def MtM (X:Cx) (id:String) (r:zef):Prop :=
 ∀(pins:List (Addr × Obj)) (s:Shared) (Z:St) (H:Hp) (x:V) (xs:List V) (v:Value) (us:List Value) (Q:VK),Inv X pins Z H s->RelV x v->Vals xs us->r x xs H Q ->
  wpAny aJ X.A (Bk id (v::us)) lJ X.xe s
theorem Vals.one:∀{x:V}{us:aQ},Vals [x] us->∃ u,us=[u]/\nu
 | _,_,dJ r .nil=>c9 r
section
variable {X:Cx}{pins:List (Addr × Obj)}{Z:St}{H:Hp}{s:Shared}{l b:Addr}{xs ys zs:List V}
theorem Inv.lset {its its':aQ}{n:Nat}{f:gL->gL}{t':Nat} (I:aq) (hH:oR l)
    (e:uG l An) (hf:f its.toArray=its'.toArray) (hv:Vals ys its') (hz:Pq) :
    cT zec (Xg,s.heap.update l (JO f)):=by
  have q:=PySem.IsL.update e f;rw[hf] at q;refine I.write (x:=l) (e:=l) (av hH trivial) gT (fun b' u hb hu=>(Y1 s.heap (JO f) (Zx hb)).trans hu) (fC q) ?_;show(aO,hz,bw its' _ hv q)
theorem Inv.lnew {its:aQ}{t':Nat} (I:aq) (hv:Vals ys its) (hz:Pq) :
    cT (dN H s.heap.objs.size ys) (Xg,OD "list" its.toArray) :=
  I.laid zcI bp ⟨hz,bw its 0 hv iJ⟩
theorem Inv.fresh (I:aq):bz s.heap.objs.size:=xO
theorem Inv.lstM (I:aq) (hH:oR l):xY/\(zbD,Bo/\xs.length=its.length/\(uG l An)):=by
 show(zch,I.hok l _ hH);show(aO,z,bC its n r r.length e)
#check _
section
variable {X:Cx}
inductive xtt (x:V) (vs:ag) (H:Hp) (Q:VK):Prop
 | mk (l xs y) (e_:x=bQ) (r_:(jI,vs,[y],oR l,HK,Q .non (dN H l Lo)))
theorem xb0:MtM X "list.append" xtt:=by
 intro pins s Z H x vs v us Q I rx rv h;obtain⟨l,xs,y,rfl,rfl,hH,hz,q⟩:=h;ext fG;show(af,u,rfl,ru,rv.one)
 obtain⟨z,its,n,r,hl,e⟩:=I.lstM hH;refine call_meets F.slot_list_append (dY e) F.entry_list_append (F.args_list_append_2 _ _) (PySem.list_append l its.toArray n u (qM Z7)) (dQ e);refine(cN,.non,_,I.lset (its':=its++[u]) hH e ah (r.append (.cons ru .nil)) ?_,q);rw[Zs,ZY];omega
inductive rCat (x:V) (y:V) (H:Hp) (Q:VK):Prop
 | mk (l b xs zs) (e_:x=bQ) (r_:(au,y=dX,oR l,ax b (.lst zs),(cV,xs.length+zs.length),∀ p,jc->Q cq (dN H p (xs++zs))))
theorem xqk:OpR X (binaryOp .Add) rCat:=by
 intro pins s Z H x y v u Q I rx ry h;obtain⟨l,b,xs,zs,rfl,rfl,hH,hB,hz,q⟩:=h;ext fG;ext fX;obtain⟨z,its,n,r,hl,e⟩:=I.lstM hH;obtain⟨z2,its2,n2,r2,hl2,e2⟩:=I.lstM hB;refine PySem.P.add_list e e2 ?_ (by rw[Z7,Z7]; omega);have ea:its.toArray++its2.toArray=(its++its2).toArray:=ah
 rw[ea];exact(cN,.ref _,_,I.lnew (t':=s.toks) (r.append r2) Ls,q _ I.fresh)
#check _
section
variable {κ:Type} [DecidableEq κ]
noncomputable def valV (kvs:ie) (k:κ):bP:=(kvs.find? fun kv=>cC uB k).map (·.2)
noncomputable def putK (kvs:ie) (k:κ) (v:V):ie :=
 if (kvs.any DN)=true then kvs.map (fun kv=>GQ v) else kvs++[(k,v)]
theorem xbe {p:κ × V}{r:ie}{k:κ} (e:aK=k):valV mK k=some bW:=by simp[valV,Yl,e]
theorem xa4 {p:κ × V}{r:ie}{k:κ} (e:¬ aK=k):valV mK k=valV r k:=by simp[valV,Yl,e]
theorem xdr (k:κ):∀ kvs:ie,(kvs.any DN)=(o4).isSome
 | []=>rfl
 | mK=>by
  rw[Yq];ext E9
  .simp only [C7,decide_eq_true e,Bool.true_or,Option.isSome_some]
  .rw [C6,decide_eq_false e,Bool.false_or]; exact xdr k r
theorem xku (k j:κ) (y:V):∀ kvs:ie,valV (kvs.map fun kv=>GQ y) j=(Sq).map fun x=>if j=k then y else x
 | []=>rfl
 | mK=>by
  have ih:=xku k j y r;rw[Zo];by_cases h:aK=k
  .rw [az h];by_cases e:aK=j
   .rw [xbe (p:=(aK,y)) e,C7,Qu,if_pos (e.symm.trans h)]
   .rw [xa4 (p:=(aK,y)) e,C6,ih]
  .ext iA h;by_cases e:aK=j
   .rw [xbe (p:=p) e,C7,Qu,(jR,h (e.trans z))]
   .rw [xa4 (p:=p) e,C6,ih]
theorem xju (k j:κ) (y:V):∀ kvs:ie,Oj->valV (kvs++[(k,y)]) j=(Er,j=k,y,Sq)
 | [],_=>by
  by_cases e:k=j
  .show(bI,az e.symm,xbe (p:=(k,y)) e)
  .show(bI,(jR,e z.symm),xa4 (p:=(k,y)) e)
 | mK,hn=>by
  rw[List.cons_append];have hk:¬ aK=k:=(aC,by show(cE,xbe z,hn))
  rw[xa4 hk] at hn;have ih:=xju k j y r hn;by_cases e:aK=j
  .rw [C7,C7,(jR,hk (e.trans z))]
  .rw [C6,C6,ih]
theorem xcn (kvs:ie) (k j:κ) (y:V):valV zdd j=(Er,j=k,y,Sq):=by
 unfold putK;by_cases a:(kvs.any DN)=true
 .rw [if_pos a,xku];rw[xdr] at a;by_cases e:j=k
  .obtain ⟨x,hx⟩:=QE.mp a;rw[Gb,e,hx,Qu,cp]
  .ext iA e;cases Sq with
   | none=>rfl
   | some x=>rw[Qu,aM e]
 .rw [if_neg a];refine xju k j y kvs ?_;rw[xdr] at a;cases q:o4 with
  | none=>rfl
  | some x=>show(bO,q,a,(a rfl).elim)
theorem xbp (kvs:ie) (k:κ) (v:V):(zQ,yh,kvs.length+1):=by
 unfold putK;split
 .rw [Za]; omega
 .rw [Zs,ZL,List.length_nil]; omega
theorem xb2 {kvs:ie}{k:κ} (v:V) (h:Oj):yh=kvs++[(k,v)]:=by
 unfold putK;rw[xdr,h];exact if_neg ap
theorem RelO.isSome_eq {o:bP}{u:BG} (r:RelO o u):o.isSome=u.isSome:=by
 cases o with
 | none=>cases u with
  | none=>rfl
  | some _=>ext DW
 | some _=>cases u with
  | none=>ext DW
  | some _=>rfl
theorem RelO.getD {o:bP}{u:BG}{d:V}{d':Value} (r:RelO o u) (rd:RelV d d'):RelV (o.getD d) (u.getD d'):=by
 cases o with
 | none=>cases u with
  | none=>exact rd
  | some _=>ext DW
 | some _=>cases u with
  | none=>ext DW
  | some _=>exact r
theorem KV.val {kvs:ie}{vs:zd} (r:jW) (k:κ):RelO o4 (valueAt vs k):=by
 ext Uf
 induction r with
 | nil=>exact Jv
 | @cons p q ps qs h t ih =>
  obtain⟨h1,h2⟩:=h;ext E9
  .show(zhu,valueAt rG k,zoE)
  .show(zhJ,valueAt rG k,valueAt qs k,zoE)
theorem KV.any {kvs:ie}{vs:zd} (r:jW) (k:κ):(kvs.any DN)=vs.any fun kv=>cC uB k:=by
 ext Uf
 induction r with
 | nil=>rfl
 | cons h t ih=>rw[Yq,Yq,ih,h.1]
theorem KV.repl {kvs:ie}{vs:zd} (r:jW) (k:κ) {y:V}{u:Value} (ry:gS) :
    KV (kvs.map fun kv=>GQ y) (vs.map fun kv=>GQ u):=by
  unfold KV at r ⊢
  induction r with
  | nil=>ext gW
  | @cons p q ps qs h t ih =>
    rw[Zo,Zo];refine .cons ?_ ih;obtain⟨h1,h2⟩:=h;ext E9
    . rw[Gb,znx]; ext aO h1 ry
    . rw[aM e,(jR,e (h1.trans z))]; ext aO h1 h2
theorem KV.put {kvs:ie}{vs:zd} (r:jW) (k:κ) {y:V}{u:Value} (ry:gS):KV zdd (stored vs k u):=by
 unfold putK stored;rw[r.any k];by_cases e:(vs.any DN)=true
 .rw [az e,Gb]; exact r.repl k ry
 .rw [aM e,aM e]; exact Paired.snoc r (eG ry)
theorem KV.keys {kvs:ie}{vs:zd} (r:jW):kvs.map (·.1)=vs.map (·.1):=by
 ext Uf
 induction r with
 | nil=>rfl
 | cons h t ih=>rw[Zo,Zo,ih,h.1]
theorem KV.length {kvs:ie}{vs:zd} (r:jW):kvs.length=vs.length:=YJ r
#check _
theorem xdb {P:Program}{w:World}{k:Key}{u:Value} (r:RelV (kV k) u):(tV).is k u=true:=by
 cases k with
 | inl i=>show(i5,t,(yT,rR CO)); ext cZ; exact xmd P w i t
 | inr x=>show(i5,t,(yT (rR,Wp x t))); ext cZ; exact xme P w x t
theorem xj6 {P:Program}{w:World}:∀{ks:dW}{us:aQ},Vals (ks.map kV) us->ItemsAre tV ks us
 | [],_,r=>by show(bB,List.map_nil,r,r); ext gW
 | k::ks,_,r=>by
  rw[Zo] at r;cases r with
  | cons h t=>exact .cons (xdb h) (xj6 t)
noncomputable abbrev KT (H:Hp):bM dC qL:=Paired fun p q=>(aR,aK,q.1,ax (aW q) (.tup ((aK).map kV)),RelV bW (bS q))
theorem KT.val {H:Hp}{kvs:dC}{xs:qL} (r:EO) (k:dW):RelO o4 ((Sw).map (·.2)):=by
 induction r with
 | nil=>exact Jv
 | @cons p q ps qs h t ih =>
  obtain⟨h1,_,h2⟩:43:=h;ext E9
  .show(zhu,atKey rG k,zpW)
  .show(zhJ,atKey rG k,atKey qs k,zpW)
theorem KT.repl {H:Hp}{kvs:dC}{xs:qL} (r:EO) (k:dW) {y:V}{u:Value} (ry:gS) :
    KT H (kvs.map fun kv=>GQ y) (xs.map (putAt k u)):=by
  induction r with
  | nil=>ext gW
  | @cons p q ps qs h t ih =>
    rw[Zo,Zo];refine .cons ?_ ih;ext fO h1 h2 h3 h;unfold putAt;ext E9
    . rw[Gb,znx]; ext aE h1 h2 ry
    . rw[aM e,(jR,e (h1.trans z))]; ext aE h1 h2 h3
theorem KT.put {H:Hp}{kvs:dC}{xs:qL} (r:EO) (k:dW) {b:Addr}{y:V}{u:Value} (hb:GL) (ry:gS) :
    KT H zdd (storedH xs k b u):=by
  have e:(kvs.any DN)=(Sw).isSome:=by
    rw[xdr,(r.val k).isSome_eq,Q7]
  unfold putK storedH;rw[e];by_cases q:gM Sw
  . rw[az q,az q]; exact r.repl k ry
  . rw[aM q,aM q]; exact Paired.snoc r (Gs hb ry)
theorem KT.keeps {H H':Hp}{kvs:dC}{xs:qL} (r:EO) (ht:∀ b ys,(eR b ys)->(E6 (.tup ys))):KT H' kvs xs :=
 Paired.mapP r (tP zkA)
section
variable {P:Program}{w:World}{H:Hp}{h:Heap}{a:Addr}
theorem xsi {u:HO} (ok:lL) (e:Rd H a u):xa6 P w H h a u:=e.ok ok
theorem xd0 {kvs:aL} (ok:lL) (e:OL):UV :=
 show xa6 P w H h a ze from xsi ok e
theorem xfl {kvs:aL} (ok:lL) (e:F7):UV:=xd0 ok (.inl e)
theorem xdm {ks:dW} (ok:lL) (e:ax a (.tup (ks.map kV))):(XH).is h ks a:=by
 obtain⟨_,its,r,o,h1,h2,n,h3⟩:=(show xa6 P w H h a (.tup (ks.map kV)) from ok a _ e)
 exact⟨104,o,its.toArray,n,h1,h2,h3,(uT,xj6 r)⟩
theorem xe4 {kvs:dC} (ok:lL) (e:zaL):D4/\Gf /\
    zku:=by
  obtain⟨z,y,⟨xs,r,o,es,ep,h1,h2,h3,h4,h5⟩⟩:43:=(show xa6 P w H h a (.dT kvs) from xsi ok e)
  show(mJ,z,y,xs,r,⟨106,o,es,ep,h1,h2,h3,h4,tz,h5⟩);have all:∀{l:dC}{m:qL},KT H l m->∀ x∈m,(XH).is h aN cF:=by
    intro l m q
    induction q with
    | nil=>intro x hx; exact nomatch hx
    | @cons p q ps qs hq t ih =>
      intro x hx;rcases dU hx with e|hx
      . ext cZ
        exact xdm ok (dE,hq.1,aW hq)
      . exact ih x hx
  exact all r x hx
theorem xn4 {kvs:dC} (ok:lL) (e:oS a):D4/\Gf /\
    zku:=xe4 ok (.inl e)
#check _
noncomputable def DGet (H:Hp) (a:Addr) (y:V) (r:bP):Prop :=
 (∃ kvs k,OL/\y=kV k/\r=o4)\/∃ kvs k b,zaL/\(aR,y,dX,GL,r=o4)
noncomputable def DPut (H:Hp) (a:Addr) (y v:V) (H':Hp):Prop :=
 (∃ kvs k,(bE,F7,y=kV k,Hv,H'=(fA H a yh))) \/
 ∃ kvs k b,(au,oS a,y=dX,GL,Hv,H'=(j8 H a yh))
theorem DGet.k {H:Hp}{a:Addr}{kvs:aL}{k:Key} (e:F7):DGet H a qh o4:=.inl (cN,kvs,k,.inl e,rfl)
theorem DGet.t {H:Hp}{a b:Addr}{kvs:dC}{k:dW} (e:oS a) (eb:GL):DGet H a dX o4:=.inr ⟨104,kvs,k,b,.inl e,rfl,eb,rfl⟩
theorem DPut.k {H:Hp}{a:Addr}{kvs:aL}{k:Key}{v:V} (e:F7) (hl:Hv):DPut H a qh v (fA H a yh):=.inl ⟨84,kvs,k,e,rfl,hl,rfl⟩
theorem DPut.t {H:Hp}{a b:Addr}{kvs:dC}{k:dW}{v:V} (e:oS a) (eb:GL) (hl:Hv) :
    DPut H a dX v (j8 H a yh):=.inr ⟨105,kvs,k,b,e,rfl,eb,hl,rfl⟩
section
variable {X:Cx}{pins:List (Addr × Obj)}{Z:St}{H:Hp}{s:Shared}{a:Addr}{y v:V}{u r:Value}{o:Option V}{A:Around}{E:Value->Shared->Prop}
theorem Inv.big (I:aq):mU sysModules:=by
 have h:mainGlobals<s.heap.objs.size:=(I.mod.glob.keeps I.bk).lt;exact ZJ ap h
theorem xj2 {Q:bj} (hu:AG) (I:aq) (g:DGet H a y gz) (ry:gS) (h:(VP,RelV v w')) :
    wpAny aJ A (getItem aA u) Q E s:=by
  rcases g with⟨kvs,k,e,ey,l⟩|⟨kvs,k,b,e,ey,eb,l⟩
  . subst ey
    obtain⟨z,hd,⟨vs,rel,dd⟩⟩:43:=yp;show(af,w',hw,rw',RelO.some_of (v:=v) (o:=valueAt vs k) znh);exact wpAny_getItem_of CN dd.mapOf hw (h w' _ jz rw')
  . ext Io;obtain⟨z,hd,⟨xs,rel,dd⟩⟩:43:=Bt;obtain⟨w',hw,rw'⟩:62:=RelO.some_of (v:=v) (o:=(Sw).map (·.2)) znh;show(af,p,hp,hp2,Zh.mp hw);refine wpAny_getItem_heap (Yx hu) EC dd hp ?_;show(aB,hp2,h w' _ jz rw')
theorem d_in {Q:bj} (hu:AG) (I:aq) (g:HY) (ry:gS) (h:znW o.isSome) :
    wpAny aJ A (compareOp .In u aA) Q E s:=by
  rcases g with⟨kvs,k,e,ey,l⟩|⟨kvs,k,b,e,ey,eb,l⟩
  . subst ey
    obtain⟨z,hd,⟨vs,rel,dd⟩⟩:43:=yp;refine wpAny_in_of CN hd dd.mapOf ?_;ext OU Id
  . ext Io;obtain⟨z,hd,⟨xs,rel,dd⟩⟩:43:=Bt;refine wpAny_in_heap (Yx hu) EC hd dd ?_;ext je q Id Q7 q;ext OU q
theorem xt4 {Q:bj} (hu:AG) (I:aq) (g:HY) (ry:gS) (h:znW (! o.isSome)) :
    wpAny aJ A (compareOp .NotIn u aA) Q E s:=by
  rcases g with⟨kvs,k,e,ey,l⟩|⟨kvs,k,b,e,ey,eb,l⟩
  . subst ey
    obtain⟨z,hd,⟨vs,rel,dd⟩⟩:43:=yp;ext zpS hd;ext OU Id
  . ext Io;obtain⟨z,hd,⟨xs,rel,dd⟩⟩:43:=Bt;refine wpAny_notIn_heap (Yx hu) EC hd dd ?_;ext je q Id Q7 q;ext OU q
theorem xfc {h':Heap}{t':Nat}{ob:HO} (I:aq) (mu:Mut (H a)) (hs:Jn a s.heap h') (he:∃ q,Pe q) (new:xa6 X.prog X.w (d4 a ob) h' a ob) :
    cT (d4 a ob) Cj :=
  I.write (x:=a) (e:=a) mu gT (fun b q hb z=>(hs.2 b hb).trans z) he new
theorem xl8 {P:Program}{w:World}{H':Hp}{h':Heap}{kvs:aL}{vs:KR} (z:D4) (hd:Gf) (rel:jW) (dd:h'.DictOf tV a vs) :
    xa6 P w H' h' a ze:=⟨z,hd,vs,rel,dd⟩
theorem xj1 {H':Hp}{Q:vv} (hu:AG) (I:aq) (g:DPut H a y v H') (ry:gS) (rv:RelV v r) (h:PH sV) :
    wpAny aJ A (setItem aA u r) Q E s:=by
  rcases g with⟨kvs,k,e,ey,l,eH⟩|⟨kvs,k,b,e,ey,eb,l,eH⟩
  . subst ey eH
    obtain⟨z,hd,⟨vs,rel,dd⟩⟩:43:=xfl I.hok e;show(zfK,wpAny_setItem_pairs (hsz:=hz) CN dd NA);ext zfk
  . subst ey eH
    cases Xb;obtain⟨z,hd,⟨xs,rel,dd⟩⟩:43:=xn4 I.hok e;show(zgx,wpAny_setItem_heap (hsz:=hz) (Yx hu) EC dd NA);obtain⟨q,es,ep,hq,h2,h3,h4,_,h5⟩:106:=dd';refine xfc I BT hs SG ⟨hl,hd,_,(rel.put k eb rv).keeps (aI c ys ec),⟨105,q,es,ep,hq,h2,h3,h4,h5⟩⟩;show(ir,xd1 ec e gb,ec)
#check _
section
variable {X:Cx}{pins:List (Addr × Obj)}{Z:St}{H:Hp}{s:Shared}{a:Addr}{kvs:List (Key × V)}{k:Key}{u:Value}{A:Around}{E:Value->Shared->Prop}
theorem xxp {Q:bj} (I:aq) (e:OL) (h:∀ t s',(iz s')->Q (.int kvs.length t) s'):wpAny aJ A (Bk "len" fF) Q E s:=by
 obtain⟨z,hd,⟨vs,rel,dd⟩⟩:43:=yp;refine call_len_dict hd dd (by rw[<- rel.length]; rw[Wd] at z; omega) ?_;show(ja,rel.length,h _ _ jz)
#check _
noncomputable def NoSl (i:Expr):Prop:=∀ ov iv,subscripted i false ov iv=operate [ov,iv] (getItem ov iv)
theorem xs7 {prog:Program}{w:World}{A:Around}{E:bj}{s:Shared}{env:Env}{value slice:Expr}{pos:Pos}{T id:String}{Q:bj}
    (hl:zlj) (hs:NoSl slice)
    (h:wpAny aS A (eval value env) (fun o s₁=>wpAny aS A (eval slice env) (d0,s₂,s₂.TypeIs o T/\wpAny aS A (getItem o i) Q E s₂) E s₁) E s) :
    wpAny aS A (eval (.Subscript value slice pos) env) Q E s:=by
  refine Subscript_ (Jk h (fun o s₁ h₁=>Jk h₁ (aI i s₂ h₂) fun _ _ x=>x) fun _ _ x=>x);obtain⟨hT,h₂⟩:=h₂;unfold subscriptTail;ext lY;rw[getitemInPython_of_ne hT.not_modules];ext L3 hT hl;have fin:wpAny aS A (subscripted slice false o i) (fun r s₃=>wpAny aS A (letTemporaryGo value o r>>=fun _=>pure r) Q E s₃) E s₂:=by
    rw[hs o i];exact wpAny_operating (Jk h₂ (fun r s₃ h₃=>Zc (wpAny_letTemporaryGo (Zk h₃))) fun _ _ x=>x)
  first
    | exact Zk (Zc fin)
    | exact Zc (Zk (Zc fin))
    | exact Zc fin
theorem xmg {X:Cx}{pins:bc}{Z:St}{H:Hp}{s:Shared}{a:Addr}{y:V}{o:bP} (I:aq) (g:HY):s.TypeIs aA "dict":=by
 rcases g with⟨kvs,k,e,_,_⟩|⟨kvs,k,b,e,_,_,_⟩
 .ext zlp vs yp
 .ext zlp xs Bt
inductive xsy (x y:V) (H2:Hp) (Q:VK):Prop
 | mk (a v) (e_:x=aA) (r_:(K5 gz)/\Q v H2)
noncomputable def xxz (td ty:TE):TE:=(iO,Q,td Z H fun x H1=>(zbE,xsy x y H2 Q))
inductive xu9 (x y:V) (H2:Hp) (Q:VK):Prop
 | mk (a o) (e_:x=aA) (r_:(K5 o)/\Q (.bl o.isSome) H2)
noncomputable def tDIn (ty td:TE):TE:=Xe (zbA,xu9 x y H2 Q)
inductive xps (x y:V) (H2:Hp) (Q:VK):Prop
 | mk (a o) (e_:x=aA) (r_:(K5 o)/\Q (.bl (! o.isSome)) H2)
noncomputable def xtd (ty td:TE):TE:=Xe (zbA,xps x y H2 Q)
noncomputable def xxq (td ty tv:TE):TS:=(lU,tv Z H fun v H1=>(zbA,ty Z H2 fun y H3=>∃ a H4,(aR,x,aA,DPut H3 a y v H4,D.nx Z H4)))
noncomputable def xwv (td ty tv:TE) (rd:IZ):TS:=fun D Z H=>td Z H fun x H1=>ty Z H1 fun y H2=>∃ a v,x=aA/\(K5 gz) /\
 tv Z H2 fun y2 H3=>rd v y2 H3 fun z H4=>∃ H5,DPut H4 a y z H5/\D.nx Z H5
section
variable {X:Cx}{o i e value:Expr}{pos pos' tpos:Pos}{td ty tv:TE}
theorem xbj (hu:AA) (ho:BN) (hi:Fc) (hs:NoSl i):PE X (.Subscript o i pos) (xxz td ty):=by
 intro pins s Z H Q I h;refine xs7 PySem.F.slot_dict_getitem.lookup hs (thn (ho pins s Z H _ I h) fun u s1 ⟨x,H1,I1,rx,q1⟩=>thn (hi pins s1 Z H1 _ I1 q1) fun iv s2 ⟨y,H2,I2,ry,a,v,ex,g,q2⟩=>?_);ext rZ;show(aO,xmg I2 g,(zlS,bC v H2 I3 rw' q2))
theorem xf5 (hu:AA) (hi:Fc) (ho:BN):PC X .In i o (tDIn ty td):=by
 intro pins s Z H Q I h;show(kD,hi pins s Z H _ I h,fun iv s1 ⟨y,H1,I1,ry,q1⟩=>thn (ho pins s1 Z H1 _ I1 q1) fun u s2 ⟨x,H2,I2,rx,a,ov,ex,g,q2⟩=>?_);ext rZ;exact d_in hu I2 g ry fun s3 I3=>(cN,.bl ov.isSome,H2,I3,q2)
theorem xe1 (hu:AA) (hi:Fc) (ho:BN):PC X .NotIn i o (xtd ty td):=by
 intro pins s Z H Q I h;show(kD,hi pins s Z H _ I h,fun iv s1 ⟨y,H1,I1,ry,q1⟩=>thn (ho pins s1 Z H1 _ I1 q1) fun u s2 ⟨x,H2,I2,rx,a,ov,ex,g,q2⟩=>?_);ext rZ;exact xt4 hu I2 g ry fun s3 I3=>(cN,.bl (! ov.isSome),H2,I3,q2)
theorem xci (hu:AA) (ho:BN) (hi:Fc) (hv:zcx) (hs:Nw value zqJ) :
    Pd zqJ value (xxq td ty tv):=by
  intro pins s Z H D I h;refine wpAny_Assign_Subscript (thn (hv pins s Z H _ I h) fun r s1 ⟨v,H1,I1,rv,q1⟩=>thn (ho pins s1 Z H1 _ I1 q1) fun u s2 ⟨x,H2,I2,rx,q2⟩=>thn (hi pins s2 Z H2 _ I2 q2) fun iv s3 ⟨y,H3,I3,ry,a,H4,ex,g,q3⟩=>?_) hs;ext rZ;exact xj1 hu I3 g ry rv fun s4 I4=>bw Z H4 I4 q3
theorem xni {op:Operator}{rd:IZ} (hu:AA) (ho:BN) (hi:Fc) (hv:zcx) (hop:InOp X op rd)
    (ha:∀ ov iv new,augStore i ov iv new=(do holding [new,ov,iv] (setItem ov iv new); release [new,ov,iv] []; pure .next)):PS X (.AugAssign (.Subscript o i tpos) op value pos) (xwv td ty tv rd):=by
  intro pins s Z H D I h;refine wpAny_AugAssign_SubscriptAny (thn (ho pins s Z H _ I h) fun u s1 ⟨x,H1,I1,rx,q1⟩=>thn (hi pins s1 Z H1 _ I1 q1) fun iv s2 ⟨y,H2,I2,ry,a,v,ex,g,q2⟩=>?_) ha;ext rZ;refine (zlS,thn (hv pins s3 Z H2 _ I3 q2) fun w2 s4 ⟨y2,H3,I4,ry2,q3⟩=>thn (hop pins s4 Z H3 v y2 w' w2 _ I4 rw' ry2 q3) fun w3 s5 ⟨z,H4,I5,rz,H5,g5,q4⟩=>?_);exact xj1 hu I5 g5 ry rz fun s6 I6=>bw Z H5 I6 q4
#check _
theorem xhy {P:Program}{w:World}{H:Hp} (h:Heap) (hb:zoD):xa6 P w H zlA h.objs.size CG :=
 (zho,Heap.DictOf.new h)
theorem xlo {P:Program}{w:World}{H:Hp} (h:Heap) (hb:zoD):xa6 P w H zlA h.objs.size (.dT []) :=
 zho ⟨105,_,#[],0,iJ,Ry,rfl,rfl,J5⟩
noncomputable def xuz:TE:=(FG,∀ p,jc->Q cq (fA H p []))
noncomputable def xve:TE:=(FG,∀ p,jc->Q cq (j8 H p []))
section
variable {X:Cx}{pos:Pos}
theorem xdq:PE X (.Dict [] [] pos) xuz:=fun pins s Z H Q I h =>
 zfu CG (xhy s.heap I.big)
theorem xej:PE X (.Dict [] [] pos) xve:=fun pins s Z H Q I h =>
 (zfu,.dT [],xlo s.heap I.big)
#check _
noncomputable def xlp:IX->St->(uy (mF KZ))
 | [],_,H,Q=>Q [] H
 | (tk,tv)::r,Z,H,Q=>tk Z H fun x H1=>tv Z H1 fun y H2=>xlp r Z H2 fun ps H3=>Q ((x,y)::ps) H3
noncomputable abbrev VV:bM KZ (Ce Value):=Paired fun p q=>RelV aK q.1/\RelV bW q.2
noncomputable def PPs (X:Cx) (pos:Pos) (keys:zcc) (values:iF) (trs:IX):Prop :=
 ∀(pins:List (Addr × Obj)) (s:Shared) (Z:St) (H:Hp) (Q:mF KZ),aq->xlp trs Z H Q ->
  wpAny aJ X.A (evalPairs (pairTrees keys values X.env pos)) (mG,vs,∃ ps H',sV/\VV ps vs/\Q ps H') X.xe s
theorem xs2 {X:Cx}{pos:Pos}:PPs X pos [] [] []:=fun pins s Z H Q I h=>pairTrees_nil_walk (bC [] H I .nil h)
theorem xlr {X:Cx}{pos:Pos}{k v:Expr}{ks:zcc}{vs:iF}{tk tv:TE}{trs:IX} (hk:PE X k tk) (hv:PE X v tv) (hr:PPs X pos ks vs trs) :
    PPs X pos (Gm::ks) (v::vs) ((tk,tv)::trs):=fun pins s Z H Q I h =>
  pairTrees_cons_walk (thn (hk pins s Z H _ I h) fun u s1 ⟨x,H1,I1,rx,q1⟩=>thn (hv pins s1 Z H1 _ I1 q1) fun w2 s2 ⟨y,H2,I2,ry,q2⟩ =>
    thn (hr pins s2 Z H2 _ I2 q2) fun ws s3 ⟨ps,H3,I3,rel,q3⟩=>(bC,(x,y)::ps,H3,I3,dJ ⟨rx,ry⟩ rel,q3))
noncomputable def xev (kvs more:aL):aL:=more.foldl (fun acc kv=>putK acc uB kv.2) kvs
theorem KV.merge:∀{more:aL}{rs:KR}{kvs:aL}{vs:KR},KV more rs->jW->KV (xev kvs more) (merged vs rs):=by
 intro more rs kvs vs r;ext Uf
 induction r generalizing kvs vs with
 | nil=>intro q; exact q
 | @cons p q ps qs h t ih =>
  intro r0;have e:KV zbM (stored vs q.1 q.2):=by
   have:=r0.put aK h.2;show(ja,h.1,this)
  exact ih e
theorem xf2:∀(more kvs:aL),(zQ,xev kvs more,kvs.length+more.length)
 | [],kvs=>(sK,kvs.length,kvs.length+0)
 | mK,kvs=>by
  show(CV,xf2 r zbM,xbp kvs aK bW);show (xev zbM r).length<=_;rw[ZL]; omega
theorem xh2 {P:Program}{w:World}:∀{kvs:aL}{ws:Ce Value},VV (kvs.map fun kv=>(kV kv.1,kv.2)) ws->∃ rs,Carries tV ws rs/\KV kvs rs
 | [],_,r=>by show(bB,List.map_nil,r,r); show(aE,[],Jv,.nil)
 | p::kvs,_,r=>by
  rw[Zo] at r;cases r with
  | @cons a b as bs h t =>
   show(af,rs,c,q,xh2 (P:=P) (w:=w) t);obtain⟨b1,b2⟩:=b;show(aE,(aK,b2)::rs,(jB,xdb h.1,c),dJ (eG h.2) q)
noncomputable def xw3 (trs:IX):TE:=(iO,Q,∀ p,jc->xlp trs Z (fA H p []) fun ps H2=>H2 p=some (.dK [])/\∃ kvs:aL,(aR,ps,U9,kvs.length<=15,Q cq (fA H2 p (xev [] kvs))))
theorem xtb {X:Cx}{pos:Pos}{keys:zcc}{values:iF}{trs:IX} (h:PPs X pos keys values trs) (hall:keys.all (·.isSome)=true) (hl:keys.length=values.length) (h0:keys≠[])
    (h15:keys.length<=15):PE X (.Dict keys values pos) (xw3 trs):=by
  intro pins s Z H Q I q;show(ae,hn,I.hok.fresh (Zl s.heap.objs.size),I1,I.laid (a:=s.heap.objs.size) (o:=CG) (h':=Mw) (t':=s.toks) zcI bp (xhy s.heap I.big));refine wpAny_Dict_walk (knd:=lI) hall hl h0 h15 (thn (h pins _ Z _ _ I1 (q _ hn)) fun ws s2 ⟨ps,H2,I2,rel,e,kvs,ep,lk,q2⟩=>?_);subst ep;show(af,rs,c,rk,xh2 (P:=X.prog) (w:=X.w) rel);obtain⟨z,hd,⟨vs0,r0,dd⟩⟩:43:=xfl I2.hok e;cases r0;refine(bi,rs,c,dd,fun h' dd' hs=>cN eZ _ ?_ q2);have hz:(cV,(xev [] kvs).length):=by
    have h1:=xf2 kvs [];rw[List.length_nil] at h1;rw[Wd]; omega
  show(ki,he,∃ q,VA q,let ⟨q,_,_,hq,_⟩:=dd'; SG,xfc I2 BT hs he (xl8 hz hd (rk.merge .nil) dd'))
structure M1 (X:Cx) (o:Expr) (m:Str) (apos:Pos) (e:Expr) (cpos:Pos):Prop where
 base:Db m
 few:((Cy [e]).all (fun x=>! aN)&&(MT cpos).all (fun x=>(aN).isSome)
  && (Uk ([e]:iF)))=true
 line:Dm
 trees:(Cy [e])=[(false,ww)]
structure M2 (X:Cx) (o:Expr) (m:Str) (apos:Pos) (e f:Expr) (cpos:Pos):Prop where
 base:Db m
 few:((Cy [e,f]).all (fun x=>! aN)&&(MT cpos).all (fun x=>(aN).isSome)
  && (Uk ([e,f]:iF)))=true
 line:Dm
 trees:(Cy [e,f])=[wP ww,(wP,jx f)]
noncomputable def IsD (H:Hp) (a:Addr):Prop:=(∃ kvs,OL)\/∃ kvs,zaL
theorem xp6 {X:Cx}{pins:bc}{Z:St}{H:Hp}{s:Shared}{a:Addr} (I:aq) (d:IsD H a) :
    s.TypeIs aA "dict"/\(gZ,Zr a=dX,∃ ob,s.heap.get? b=some ob/\ob.dict=none)/\Gf:=by
  rcases d with⟨kvs,e⟩|⟨kvs,e⟩
  . ext zfb vs yp
  . ext zfb xs Bt
section
variable {X:Cx}{pins:List (Addr × Obj)}{Z:St}{H:Hp}{s:Shared}{a:Addr}{y d:V}{u r:Value}{o:Option V}{A:Around}{E:Value->Shared->Prop}
theorem xvh {Q:bj} (hu:AG) (I:aq) (g:HY) (ry:gS) (h:(VP,RelV (o.getD .non) w')) :
    wpAny aJ A (Bk "dict.get" [aA,u]) Q E s:=by
  rcases g with⟨kvs,k,e,ey,l⟩|⟨kvs,k,b,e,ey,eb,l⟩
  . subst ey
    obtain⟨z,hd,⟨vs,rel,dd⟩⟩:43:=yp;refine YT Yi dd.typeIs Qa zlX (meets_dict_get lI a CN hd) zmV;rw[l];exact (KE).getD rfl
  . ext Io;obtain⟨z,hd,⟨xs,rel,dd⟩⟩:43:=Bt;refine YT Yi dd.typeIs Qa zlX (meetsH_dict_get VY a b hd) zis;rw[l];exact (KE).getD rfl
theorem xvb {Q:bj} (hu:AG) (I:aq) (g:HY) (ry:gS) (rd:RelV d r) (h:(VP,RelV (o.getD d) w')) :
    wpAny aJ A (Bk "dict.get" [aA,u,r]) Q E s:=by
  rcases g with⟨kvs,k,e,ey,l⟩|⟨kvs,k,b,e,ey,eb,l⟩
  . subst ey
    obtain⟨z,hd,⟨vs,rel,dd⟩⟩:43:=yp;refine YT Yi dd.typeIs Qa zlf (meets_dict_get_default lI a CN hd r) zmV;rw[l];exact (KE).getD rd
  . ext Io;obtain⟨z,hd,⟨xs,rel,dd⟩⟩:43:=Bt;refine YT Yi dd.typeIs Qa zlf (meetsH_dict_get_default VY a b hd r) zis;rw[l];exact (KE).getD rd
#check _
noncomputable def xvw (td ty:TE):TE:=(zgX,∃ o,(K5 o)/\Q (o.getD .non) H2)
noncomputable def xu1 (td ty tx:TE):TE:=(zgX,tx Z H2 fun z H3=>∃ o,DGet H3 a y o/\Q (o.getD z) H3)
section
variable {X:Cx}{o e f:Expr}{apos cpos:Pos}{td ty tx:TE}
theorem xq1 (hu:AA) (ho:BN) (he:PE X e ty) (m:M1 X o "get" apos e cpos):PE X (Di "get" [e]) (xvw td ty):=by
 intro pins s Z H Q I h;refine wpAny_Call_method m.base m.few m.line Yt Yi PySem.F.type_dict_get (thn (ho pins s Z H _ I h) fun u s1 ⟨x,H1,I1,rx,a,ex,d,q1⟩=>?_);ext rZ;show(La,t1,t2,xp6 I1 d);ext fE t1 t2;rw[m.trees];refine Yc rfl (Wn (Yy (thn (he pins s1 Z H1 _ I1 q1) fun iv s2 ⟨y,H2,I2,ry,ov,g,q2⟩=>YZ ?_)));exact xvh hu I2 g ry fun w' s3 I3 rw'=>bC _ H2 I3 rw' q2
theorem xrh (hu:AA) (ho:BN) (he:PE X e ty) (hf:PE X f tx) (m:M2 X o "get" apos e f cpos):PE X (Di "get" [e,f]) (xu1 td ty tx):=by
 intro pins s Z H Q I h;refine wpAny_Call_method m.base m.few m.line Yt Yi PySem.F.type_dict_get (thn (ho pins s Z H _ I h) fun u s1 ⟨x,H1,I1,rx,a,ex,d,q1⟩=>?_);ext rZ;show(La,t1,t2,xp6 I1 d);ext fE t1 t2;rw[m.trees];refine Yc rfl (Wn (Yy (thn (he pins s1 Z H1 _ I1 q1) fun iv s2 ⟨y,H2,I2,ry,q2⟩ =>
  Yy (thn (hf pins s2 Z H2 _ I2 q2) fun fv s3 ⟨z,H3,I3,rz,ov,g,q3⟩=>YZ ?_))))
 exact xvb hu I3 g ry rz fun w' s4 I4 rw'=>bC _ H3 I4 rw' q3
#check _
#check L2
namespace Att
open PySem PySem.W PySem.Calls PyProof.Rows
theorem xid {P:Params}{h:Heap}:∀(ns:bK) (vs:aQ),WellAll P h vs (ns.map WData.int)->HR:=by
 intro ns
 induction ns with
 | nil =>
  intro vs w;show(bB,List.map_nil,w,w);ext gW
 | cons n ns ih =>
  intro vs w;rw[Zo] at w;cases w with
  | cons a b =>
   show(rQ,a,.cons _ _ (ih _ b))
theorem xqf {l:OpenLaw}{n:Nat} (hn:zbl) {P:Params}{h:Heap}{args:List WData}{vals:aQ}
    (hpre:l.row.toRowW.claim.pre args=true) (hwl:WellAll P h vals args) :
    ∃ a vs ns,(au,vals=[qi],args=[WData.list (ns.map WData.int)],kJ MV,HR,RG):=by
  have hsh:WShape.hasAll [] args [.list .int]=true:=(pre_splitW hpre).1;have hc:l.pre.holds [] { args:=args }=true:=(pre_splitW hpre).2;obtain⟨d,r,rfl,h1,h2⟩:83:=hasAllW_cons hsh;show(nZ,hasAllW_nil h2);show(af,xs,rfl,h3,hasW_list h1);show(ia,ns,items_int h3);have hlen:RG:=by
    unfold OpenLaw.pre at hc;have h4:(WTm.not (.lt (.lit (.int gV)) (.len (.arg 0)))).holds [] { args:=[.list (ns.map .int)] }=true:=by
      have h4:=(holds_andW hc).1;ext bO hn h4 h4
    have h5:=condW_of h4 (w_not (w_lt w_lit (w_len_list (w_arg rfl))));rw[Za] at h5;refine QK (bZ q);have q':gV<(dM ns.length):=aa
    first
      | (rw[uU q'] at h5; ext dy h5 ap)
      | (simp at h5; omega)
  cases hwl with
  | cons w1 w2 =>
    cases w2;cases w1 with
    | list ho hall=>exact⟨105,_,_,ns,rfl,rfl,ho,xid ns _ hall,hlen⟩
theorem xpt (l:OpenLaw) (args:List WData):l.row.toRowW.claim.post args Kb args=true :=
 postW_of (r:=l.row.toRowW) (X:=(true == true))
  (show WShape.has [] Kb .bool=true by first|rfl|decide|simp[WShape.has,WShape.arms,WShape.armsAll])
  (show (WTm.eq .res (.lit (.bool true))).value [] { args:=args,res:=some (.bool true),after:=args }=some (.bool (true == true)) from w_eq_bool (w_res rfl) w_lit) rfl
theorem attach_call {l:OpenLaw}{n:Nat}{q:Program}{loose:ai}{XP:zdn}{YP:zbp}{d:DefRec}
    (hn:zbl) (hdf:Xl)
    (call:∀(w:World) (s₀ s₁:Shared) (mg mb:fK) (fa:Addr) (o:Obj) (pm cd doc:Value) (a:Addr) (vs:aQ) (ns:bK),
      Ground q loose [] XP w s₀ mg mb s₁.heap->YP w s₁.heap ->
      s₁.heap.get? fa=some o->o.data=.func (docDef d.name d.params d.body d.scope pm cd doc)->s₁.heap.CodeRec cd d.name->zbU ->
      zlv->HR->RG->s₁.gens=#[] ->
      (Ug (model l.prog w))) :
    WalkO q loose XP YP l.row.toRowW d [] V4:=by
  intro w s₀ s₁ mg mb G Y fa o pm cd doc dV kV ho hd hcd hD hmg hg args vals as hpre hlay hrd hwl hlo;show(cQ,dV=.none,Dflts.none hD hdf);show(cQ,kV=.none,Dflts.noKw hD);obtain⟨a,vs,ns,rfl,rfl,hobj,hints,hlen⟩:105:=xqf hn hpre hwl;refine enter_call (Qx (call w s₀ s₁ mg mb fa o pm cd doc a vs ns G Y ho (fd_plain hd) hcd hmg hobj hints hlen hg) (aI r s' hq));show(jY,rfl,h2,h3,h4,hq);exact(bR,.inl ⟨105,Kb,Kb,[],rfl,o5,Kb,xpt l _,fun _=>⟨JU.nil,fun _ hm=>(nomatch hm)⟩⟩,h2,h3,h4)
section
variable {prog:Program}{w:World}{A:Around}{E:Value->Shared->Prop}{s:Shared}{K:Frag}
noncomputable def xx1 (h:Heap) (L d:Addr):bc:=(zca).filterMap fun a=>if a=L\/a=d then none else (h.get? a).map fun o=>(a,o)
#check _
#check Att
namespace L2
open PySem PySem.Spec PyProof.Rows
variable {q0:Bool}
theorem xjw:∀{vs:aQ}{ns:bK},HR->Vals (ns.map V.int) vs
 | _,_,.nil=>.nil
 | _,_,.cons n t h=>.cons (fR t) (xjw h)
noncomputable def Only (H:Hp):Prop:=∀ b,dz\/∃ o xs,ax b (.frz o (.lst xs))
theorem xrs {P:Program}{w:World}{K:Zd}{mg mb:fK}{CX:CXT}{k:Nat}{fa a:Addr}{fd:FuncData}{x:Str}{sp:Sp}{s₁:Shared}{vs:aQ}{ns:bK}
    (KX:K.In s₁.heap) (hns:s₁.heap.Ns mainGlobals mg) (hb:s₁.heap.Ns builtinsNs mb) (hbb:ziz) (hlim:s₁.heap.NoLimit) (hg:s₁.gens=#[])
    (ha:zlv) (hi:HR) (hl:cV ns.length) (hr:Room q0 k callerA)
    (F:(Mn,K.In base,FnOk q0 P w K mg base CX k fa fd [x] sp)) (hbind:Vc x)
    (hsp:∀ H:Hp,Only H->Rv->sp fF H zoT Hk)
    (hCX:∀ H e s',CX [] H s₁ Hk e s'->False) :
    Ug yK:=by
  show(ae,rv,xjw hi,lenV,hi.length)
  -- from an abstract heap in which nothing but the script may be tracked
  have core:∀ H:Hp,Only H->Rv->HOk P w H s₁.heap->(∀ b,H b≠none->b=a)->(H a≠none->K.lookup a=none) ->
      (Ug yK):=by
    intro H hO hS hok hA hK;show(bo,base_of,∀{b:Addr}{o:Obj},(znV,dz,(OM).get? b=some o),e,n,xrp e n);have noA:∀{b:Addr}{o:Obj}{es:kI}{ep:Nat},znV kN dz:=fun {b o es ep} e d=>by
      cases q:H b with
      | none=>rfl
      | some u =>
        show(mI,e',b,a,hA b (jX q));ext bB ha e e;have d':Data.seq vs.toArray _=Data.dict es ep:=d;cases d'
    have nsK:∀{b:Addr}{m:fK},s₁.heap.Ns b m->(OM).Ns b m:=fun {b m} ⟨o,es,ep,e,d,r⟩=>⟨103,o,es,ep,base_of e (noA e d),d,r⟩
    have hKb:K.In (hidT s₁.heap H):=fun b o e=>base_of (KX b o e) (by
      cases q:H b with
      | none=>rfl
      | some u =>
        show(mI,e',b,a,hA b (jX q));show(cE,hK (jX q),e))
    have hM:Mod K mg OM:=⟨hKb,nsK hns,⟨mb,nsK hb,hbb⟩,let ⟨mc,h1,h2⟩:=hlim; ⟨mc,nsK h1,h2⟩⟩
    have e0:Env0 P w K mg OM callerA [] s₁ H:=⟨rfl,hM,(pV,xt7 e),Nat.le_of_eq (xpz _ _),trivial,(nI,absurd (show zdW from hb) ah),hok,.of_eq hg⟩
    refine Qx ((F _ hKb (nsK hns)).run callerA [] s₁ H (nU fF) fF fF _ _ hr e0 (hbind s₁ aA) (dJ rfl .nil) (hsp H hO hS)) (aI r s' h);cases r with
    | error e=>exact (hCX H e s' h).elim
    | ok fl =>
      cases fl with
      | next=>exact Ya h
      | brk=>exact Ya h
      | cont=>exact Ya h
      | ret u =>
        obtain⟨v,H',os,bare,un,hok',r',q⟩:86:=h;ext mI q' v TR q;show(cQ,u=Ye true,r');refine(n6,OldK.of_keep (pV ?_),os,bare);cases q:H b with
        | none=>exact un.keep b o e q (by intro z; show(dy,Lb zdW,ah)) ah
        | some u =>
          rcases hO b with z|⟨ob,xs,z⟩
          . ext cE q z
          . have z2:=un.frzs b ob _ z
            obtain⟨e1,_⟩:=hok b _ z;obtain⟨e2,_⟩:=hok' b _ z2;ext bB e e1 e1;exact e2
  cases hk:K.lookup a with
  | some o =>
    -- the script is one of the module's own objects
    have e:=KX a o hk;ext bB ha e e;refine core fb (fun _=>gT) (.inr ⟨106,_,vs.toArray,_,hk,rfl,rfl,rfl,nD Z7 lenV hl,zav⟩) (fun b u z=>by show(uu,z',(none:cX HO),u,z); cases z') (fun b z=>absurd rfl z) (aC,absurd rfl z)
  | none =>
    refine core (fun b=>(zP,b=a,.frz MV (.lst (ns.map V.int)))) (bZ b) (.inl (.inr ⟨MV,cp⟩)) (aI b u z) (am b z) fun _=>hk
    . ext CA a
      . show(gX,(dI,_,az hb))
      . exact .inl (if_neg hb)
    . ext CA a
      . have z':=(az hb).symm.trans z
        cases z';subst hb;show(aE,ha,gE hl,bw vs _ rv ha)
      . have z':=(aM hb).symm.trans z
        cases z'
    . ext CA a
      . exact hb
      . exact absurd (if_neg hb) z
noncomputable abbrev KOf {K:Zd}{h:Heap} (_:K.In h):Zd:=K
theorem walk_of {l:PySem.W.OpenLaw}{n k:Nat}{q:Program}{loose:ai}{XP:zdn}{YP:zbp}{d:DefRec}{K:Params->Zd}{CX:World->CXT}{sp:World->Sp}{x:Str}
    (hn:zbl) (hn2:cV n) (hdf:Xl) (hr:Room q0 k callerA)
    (hY:(znt,(vj).In h))
    (F:∀(w:World) (mg:Str->Option Value) (fa:Addr) (h:Heap),(vj).In h->h.Ns mainGlobals mg->zbU ->
      ∃ fd:FuncData,(Vc x) /\
        (Mn,(vj).In base,FnOk q0 l.prog w vj mg base (CX w) k fa fd [x] (sp w)))
    (hsp:∀(w:World) (H:Hp) (a:Addr) (ns:bK),(bb,RG,Only H,SqL vj H a zdE,sp w fF H zoT Hk))
    (hCX:∀(w:World) (H:Hp) (s:Shared) (e:Value) (s':Shared),CX w [] H s Hk e s'->False) :
    PySem.W.WalkO q loose XP YP l.row.toRowW d [] V4:=by
  refine Att.attach_call hn hdf fun w s₀ s₁ mg mb fa o pm cd doc a vs ns G Y ho hd hcd hmg hobj hints hlen hg=>?_;have KX:=hY w _ Y;show(af,fd,hb,hF,F w mg fa _ KX G.T.g hmg);exact xrs KX G.T.g G.T.b G.T.builtins G.T.nolimit hg hobj hints (ZZ hlen hn2) hr hF hb (fun H hO hS=>hsp w H a ns hlen hO hS) fun H e s'=>hCX w H s₁ e s'
noncomputable def xav (s:Stmt) (j:Nat):Stmt:=match s with
 | .ClassDef _ _ _ body _ _ _ _ _ _ _=>body.getD j (.Pass zcs)
 | _=>.Pass zcs
noncomputable def xbt (s:Stmt):Arguments:=match s with
 | .FunctionDef _ a _ _ _ _ _ _ _ _=>a
 | _=>{ posonlyargs:=[],args:=[],vararg:=none,kwonlyargs:=[],kw_defaults:=[],kwarg:=none,defaults:=[] }
noncomputable def xbk (s:Stmt):BR:=match s with
 | .FunctionDef _ _ b _ _ _ _ _ _ _=>b
 | _=>[]
noncomputable def xl (s:Stmt):Scope:=match s with
 | .FunctionDef _ _ _ _ _ _ sc _ _ _=>sc
 | _=>{ kind:=.function,names:=[],isGenerator:=false,isCoroutine:=false }
noncomputable abbrev CX0:CXT:=fun _ _ _ _ _ _=>False
structure Fun (K:Zd) (x qual:Str) (st:Stmt) (f:Addr) (fd:FuncData):Prop where
 ex:∃(oc:Value) (od:ig) (kV doc pm:Value) (an:ig) (cdv ct:Value) (osl:xF),
  (aR,fd,Jw x qual mj jC jg .none kV doc pm an cdv ct,GK fd,GZ)
 kp:oM f
section
variable {P:Program}{w:World}{K:Zd}{mg:Str->Option Value}{base:Heap}
theorem Fun.ok {x qual:Str}{st:Stmt}{f:Addr}{fd:FuncData}{N ps:ai}{k:Nat}{sp:Sp} (F:Fun K x qual st f fd) (S:zcW) (len:Gw)
    (hbody:∀(cdv:Value) (A:Around) (outer:List Env) (s:Shared) (H:Hp) (vs:List V) (Q:VK) (E:XK),Room q0 k (A.deeper (envOfC qual (xl st) s.heap.objs.size f cdv))->ER ->
      (Mi,(cxOf q0 CX0 P w K mg base N qual jg f cdv A outer s H E).nox,jC)):FnOk q0 P w K mg base CX0 dk f fd ps sp:=by
  obtain⟨oc,od,kV,doc,⟨pm,an,cdv,ct,osl,rfl,lk,hcd⟩⟩:121:=(F.ex)
  show(UP,fun A outer s H vs Q E hr hsp=>?_,hbody cdv A outer s H vs Q E hr hsp)
theorem Fun.binds {x qual:Str}{st:Stmt}{f:Addr}{fd:FuncData}{ps:ai} (F:Fun K x qual st f fd)
    (h:(zhH,zhi (Jw x qual mj jC jg .none kV doc pm an cdv ct))):ba fd ps:=by
  obtain⟨oc,od,kV,doc,⟨pm,an,cdv,ct,osl,rfl,lk,hcd⟩⟩:121:=(F.ex)
  exact .all (h kV doc pm an cdv ct)
theorem fun_mk {x qual:Str}{st:Stmt}{f:Addr}{oc:Value}{od an:ig}{osl:xF}{kV doc pm cdv ct:Value} (l:GK (Jw x qual mj jC jg .none kV doc pm an cdv ct))
    (c:GZ) (k:oM f):Fun K x qual st f (Jw x qual mj jC jg .none kV doc pm an cdv ct):=zgm
#check _
theorem xat {A:Around}{k:Nat} (hr:Bq):AG:=JQ (Nat.add_le_add_left (ap:1<=64) _) hr.units
section
variable {X:Cx}
theorem pv (i:Nat) {x:Str}{pos:Pos} (hN:sW:=by rfl) (hv:Oq:=by first|exact Y9 rfl|exact QP (Y9 rfl)|exact QP (QP rfl)) (hd:mP:=by decide)
    (hcd:zlV:=by decide):PE X sM (tVar i):=xvi hN hv hd hcd
#check _
theorem iteF {A B:Prop} (h:B):cm false A B:=by
 ext pU Z4 h
theorem iteT {A B:Prop} (h:A):cm true A B:=by
 ext aB cp h
theorem ite2 {c A B:Prop} [Decidable c] (h1:c->A) (h2:¬ c->B):if c then A else B:=by
 by_cases h:c
 .rw [az h];exact h1 h
 .ext iA h;exact h2 h
noncomputable def Same (H H':Hp):Prop:=(mC,ax b o,H' b=some o)
theorem Same.refl (H:Hp):gG H:=fun _ _ h=>h
theorem Same.trans {H H1 H2:Hp} (a:gG H1) (b:m8):Lz:=fun c o h=>b c o (a c o h)
theorem Same.free {H H':Hp} (e:cL) {l:Addr} (h:H' l=Option.none):H l=Option.none:=by
 cases q:H l with
 | none=>rfl
 | some o =>
  show(cE,e l o q,h)
theorem Same.seq {K:Zd}{H H':Hp}{a:Addr}{xs:ag} (e:cL) (h:mW):SqL K H' a xs:=by
 rcases h with (h|⟨o,h⟩)|h
 .show(Tt,e _ _ h)
 .show(Ts,⟨o,e _ _ h⟩)
 .ext gX h
#check L2
namespace Srt
open PySem PySem.W PyProof.Rows
noncomputable abbrev CM:=BX (eQ yL)
noncomputable abbrev g (p:c8) (i:Nat):Nat:=p.getD i 0
structure Ord (n:Nat) (lt:BX Bool):Prop where
 irr:(CB,lt i i=false)
 tr:∀ i j k,hW->(bg,j<n,k<n,lt i j=true,lt j k=true,lt i k=true)
 tot:∀ i j,(bg,hW,j<n,i≠j,lt i j=false,lt j i=true)
noncomputable def Cmp (n:Nat) (lt:BX Bool) (cmp:CM) (s:Shared):Prop:=∀ i j,hW->j<n->∀ Q:yL,Q (lt i j) s->cmp i j Q s
theorem xc2 {α:Type}{cmp:CM}{a:α}{Q:eQ α}{s:Shared} (h:Q a s):KasT.kasWp cmp (.ret a) Q s:=h
theorem xgj {α:Type}{cmp:CM}{i j:Nat}{k:Bool->KasT α}{Q:eQ α}{s:Shared} (h:cmp i j (mG,c,KasT.kasWp cmp (k c) Q s') s):KasT.kasWp cmp (.ask i j k) Q s:=h
theorem xw7 {p:c8}{n:Nat}:kas_asc p 0 n=.ret n:=by unfold kas_asc; rfl
theorem xwb {p:c8}{f n:Nat}:kas_asc p (f+1) n=(zeb,p.getD n 0,p.getD (n-1) 0,.ret n,kas_asc p f eX):=fW kas_asc
theorem xxy {p:c8}{k:Nat}:kas_bin 0 p k=.ret p:=by unfold kas_bin; rfl
theorem xw6 {f:Nat}{p:c8}{k:Nat}:kas_bin (f+1) p k=(yE k 0 k).bind fun l=>kas_bin f (bubble p k (k-l)) dk:=fW kas_bin
theorem xsn {p:c8}{k l r:Nat}:(yE 0 l r)=.ret l:=by unfold kas_place; rfl
theorem xs0 {p:c8}{k f l r:Nat}:(yE (f+1) l r)=if l>=r then .ret l else (zeb,p.getD k 0,p.getD qN 0,yE f l qN,yE f (qN+1) r):=fW kas_place
theorem xvf {p:c8}{k l:Nat}:kas_desc 0 p k l=.ret (p,k,l):=by unfold kas_desc; rfl
theorem xuj {f:Nat}{p:c8}{k l:Nat}:kas_desc (f+1) p k l=(zeb,p.getD k 0,zbX,(Tw,l,kas_desc f (kas_rev p (k-(l+1)) k) dk 0,zeG 0),.ask zbX (p.getD k 0) fun d=>(cm,d,.ret (p,k,l),zeG (l+1))):=fW kas_desc
section
variable {n:Nat}{lt:Nat->Nat->Bool}{cmp:CM}{s:Shared}
structure Arr (n:Nat) (p:c8):Prop where
 sz:p.size=n
 lt:(CB,g p i<n)
 inj:∀ i j,(bb,hW,j<n,g p i=g p j,i=j)
 pm:p.Perm zce
theorem g_at {p:c8}{i:Nat}{v:Nat} (h:aF p v):g p i=v:=by
 show p.getD i 0=v;rw[Qy,h];rfl
theorem Arr.at {p:c8} (a:tR) {i:Nat} (h:hW):aF p (g p i):=by
 have z:i<p.size:=av a.sz h
 have e:(aF,p,p[i]):=Ju z;rw[e,g_at e]
noncomputable def Srtd (lt:BX Bool) (p:c8) (m:Nat):Prop:=∀ i j,i<j->j<m->(sL i j)=true
theorem xmw (o:Fo) {p:c8} (a:tR) {m:Nat} (hm:m<=n) (h:(Sl,1<=i,(sL (i-1) i)=true)):Srtd lt p m:=by
 intro i j hij hj;show(ED,d,rfl,∃ d,j=aH+d,j-aH)
 induction d with
 | zero=>exact h aH aa hj
 | succ d ih =>
  show(CV,ih aa aa,h (aH+(d+1)) aa hj);exact o.tr _ _ _ tw tw tw h1 h2
theorem xks (c:D7) {p:c8} (a:tR) {G:eQ Nat}:∀(f k:Nat),1<=k->k+f<=n ->
    (∀ m,(bg,k<=m,m<=k+f,(Sl,k<=i,(sL i (i-1))=false),m<k+f->(sL m (m-1))=true,G m s))->(lH (kas_asc p f k))
  | 0,k,h1,hf,hG=>by
    rw[xw7];exact xc2 (hG k bp aa Rp (d9 aa))
  | f+1,k,h1,hf,hG=>by
    rw[xwb];refine xgj (c _ _ SY PQ _ ?_);cases e:sL k (k-1) with
    | true =>
      exact xc2 (hG k bp aa Rp (fun _=>e))
    | false =>
      show lH (kas_asc p f dk);refine xks c a f dk aa aa fun m hm hm2 h3 h4=>hG m aa aa zct (fun h=>h4 aa);by_cases z:i=k
      . ext aB z e
      . exact h3 i aa hi2
theorem xmt (o:Fo) (c:D7) {p:c8} (a:tR) {G:(eQ,c8 × Nat × Nat)}:∀(f k:Nat),1<=k->k+f<=n ->
    (∀ m,(bb,k<=m,m<=k+f,(Sl,k<=i,(sL i (i-1))=true),G (p,m,0) s))->(lH (kas_desc f p k 0))
  | 0,k,h1,hf,hG=>by
    rw[xvf];exact xc2 (hG k bp aa Rp)
  | f+1,k,h1,hf,hG=>by
    rw[xuj];refine xgj (c _ _ SY PQ _ ?_);cases e:sL k (k-1) with
    | true =>
      show lH (zeG 0);refine xmt o c a f dk aa aa fun m hm hm2 h3=>hG m aa aa zct;by_cases z:i=k
      . ext aB z e
      . exact h3 i aa hi2
    | false =>
      refine xgj (c _ _ PQ SY _ ?_);show(jF,ne,g p k,g p (k-1),(d7,a.inj _ _ aa aa z))
      rw[(va,lt zbX (p.getD k 0),o.tot _ _ SY PQ ne e)];exact xc2 (hG k bp aa Rp)
theorem Arr.rev {p:c8} (a:tR) {k:Nat} (hk:k<=n):Arr n (kas_rev p 0 k)/\zgf:=by
 have ge:zgf:=fun i hi=>by
  have z:=getElem?_mirror_all (xs:=p) (i:=0) (j:=k) (av a.sz hk) i;by_cases c:i<k
  .rw [az c];rw[az ⟨fV,c⟩,(gg,0+k-1-i=LL),a.at (gg,LL<n)] at z;exact g_at z
  .ext iA c;show(RS,(lM,w,c w.2),a.at hi)
 refine⟨⟨cK kas_rev_size a.sz,SV,bJ i j hi hj e,(mirror_perm _ _ _ _).trans a.pm⟩,ge⟩
 .rw [Ch];split<;>exact tw
 .rw [Ch,ge j hj] at e;split at e<;>split at e<;>have:=a.inj _ _ aa aa e<;>omega
theorem xry (o:Fo) (c:D7) {p:c8} (a:tR) (h2:2<=n) {G:(eQ,Nat × c8)}
    (hG:∀ m p',(bg,1<=m,m<=n,Arr n p',Srtd lt p' m,G (m,p') s)):lH (kas_count n p):=by
  unfold kas_count;rw[KasT.kasWp_bind];have up:∀ q,Arr n q->∀ i,(bb,1<=i,hW,lt (g q i) (g q (i-1))=false,lt (g q (i-1)) (g q i)=true):=fun q b i h1 hi e =>
    o.tot _ _ (b.lt i hi) (b.lt (i-1) aa) (aC (d7,b.inj _ _ hi aa z)) e
  refine xks c a (n-1) 1 bp aa (bJ m hm hm2 h3 h4);have sm:Srtd lt p m:=xmw o a aa (hU,hi,hi2,up p a i hi aa (h3 i hi hi2));show lH (cm (m == n) _ _);by_cases e1:m=n
  . rw[az (by simpa using e1)]
    exact xc2 (hG m p hm aa a sm)
  . show(dB,(by simpa using e1))
    by_cases e2:m>1
    . rw[az e2]
      refine xgj (c _ _ (a.lt 0 aa) (a.lt (m-1) aa) _ ?_);rw[(va,lt (p.getD 0 0) (p.getD (m-1) 0),sm 0 (m-1) aa aa)];exact xc2 (hG m p hm aa a sm)
    . ext dB e2
      show(mI,m1,m,1,aa);have d1:=h4 aa;unfold kas_descPart;show(qj,KasT.kasWp_bind,xmt o c a (n-(1+1)) (1+1) aa aa (cI k hk hk2 h5));show lH (Tw,(0:Nat),_,kas_tail3 k n p);rw[if_neg (Yp 0)];unfold kas_tail3;rw[KasT.kasWp_bind];show(FY,ge,a.rev (k:=k) aa);refine xks c b (n-k) k aa aa fun m' hm' hm2' h6 _=>?_;refine xc2 (hG m' _ aa aa b (xmw o b aa zct));by_cases ik:i<k
      . rw[ge i aa,ge (i-1) aa,az ik,LF]
        have e3:k-1-(i-1)-1=LL:=aa
        by_cases z:k-1-(i-1)=1
        . have z':LL=0:=aa
          ext cY z z' d1
        . show(HD,h5 (k-1-(i-1)) aa aa,e3)
      . exact up _ b i hi aa (h6 i aa hi2)
theorem xhk (o:Fo) (c:D7) {p:c8} (a:tR) {k:Nat} (hk:k<n) (sk:Srtd lt p k) {G:eQ Nat}:∀(f l r:Nat),l<=r->r<=k->r-l<=f ->
    (∀ j,j<l->KP=false)->(∀ j,r<=j->j<k->KP=true) ->
    (∀ m,(bb,m<=k,(∀ j,j<m->KP=false),(∀ j,m<=j->j<k->KP=true),G m s))->(lH (yE f l r))
  | 0,l,r,h1,h2,h3,lo,hi,hG=>by
    ext ziD xsn
  | f+1,l,r,h1,h2,h3,lo,hi,hG=>by
    rw[xs0];by_cases e:l>=r
    . ext ziD Gb
    . ext dB e
      have m1:qN<r:=aa
      have m2:l<=qN:=aa
      refine xgj (c _ _ SZ tw _ ?_);cases e2:sL k qN with
      | true =>
        show lH (yE f l qN);refine xhk o c a hk sk f l _ m2 aa aa lo (aI j hj hj2) hG;by_cases z:j=qN
        . ext aB z e2
        . exact o.tr _ _ _ SZ tw tw e2 (sk _ _ aa hj2)
      | false =>
        show lH (yE f (qN+1) r);refine xhk o c a hk sk f _ r aa h2 aa (am j hj) hi hG;by_cases z:j=qN
        . ext aB z e2
        . cases e3:KP with
          | false=>rfl
          | true =>
            have:=o.tr _ _ _ SZ tw tw e3 (sk j qN aa aa);ext BB e2
theorem Arr.bub {p:c8} (a:tR) {k m:Nat} (hk:k<n) (hm:m<=k):Arr n Hl/\zfB:=by
 have ge:zfB:=fun i hi=>by
  show(Fn,getElem?_bubble (xs:=p) (src:=k) (av a.sz hk) (k-m) aa i,(gg,k-(k-m)=m));by_cases c:i=m
  .rw [az c];show(RS,zH,a.at hk)
  .ext iA c;rw[wp] at z;by_cases d:m<i/\i<=k
   .rw [az d];show(RS,az d,a.at (gg,i-1<n))
   .ext iA d;show(RS,aM d,a.at hi)
 refine⟨⟨cK bubble_size a.sz,SV,bJ i j hi hj e,(bubble_perm _ _ _).trans a.pm⟩,ge⟩
 .rw [Ch];split
  .exact a.lt _ hk
  .split<;>exact tw
 .rw [Ch,ge j hj] at e;split at e<;>(try split at e)<;>(try split at e)<;>(try split at e)<;>first|omega|(show(db,a.inj _ _ aa aa e))
theorem xp2 (o:Fo) (c:D7) {G:eQ c8}:∀(f k:Nat) (p:c8),(bg,k+f=n,tR,Srtd lt p k,(∀ p',Arr n p'->Srtd lt p' n->G p' s),lH (kas_bin f p k))
 | 0,k,p,h,a,sk,hG=>by
  rw[xxy];ext FF k n;exact xc2 (hG p a sk)
 | f+1,k,p,h,a,sk,hG=>by
  have hk:k<n:=aa
  rw[xw6,KasT.kasWp_bind];refine xhk o c a hk sk k 0 k fV bp aa (Ge aa) (fun j hj hj2=>aa) (cI m hm lo hi);show(FY,ge,a.bub hk hm);refine xp2 o c f dk _ aa b (cI i j hij hj) hG;have inS:∀ i,i<m->(sL i k)=true:=(d0,hi',o.tot _ _ SZ (a.lt i aa) (aC (d7,a.inj _ _ hk aa z)) (lo i hi'));have g1:∀ i,hW->i=m->g Hl i=g p k:=hU hi z (cK,Ch,az z)
  have g2:∀ i,(bb,hW,m<i,i<=k,g Hl i=g p (i-1)):=fun i hi z z2=>by rw[Ch,vQ,az ⟨z,z2⟩]
  have g3:(Sl,hW,g Hl i=g p i):=(hU,hi,z,by rw[Ch,vQ,vQ])
  by_cases j1:j=m
  .rw [g1 j aa j1,g3 i aa aa];exact inS i aa
  .by_cases i1:i=m
   .rw [g1 i aa i1,g2 j aa aa aa];exact hi (j-1) aa aa
   .by_cases j2:m<j
    .rw [g2 j aa j2 aa];by_cases i2:m<i
     .show(bI,g2 i aa i2 aa,sk _ _ aa aa)
     .rw [g3 i aa aa];by_cases z:i=j-1
      .omega
      .exact sk _ _ aa aa
    .rw [g3 j aa aa,g3 i aa aa];exact sk _ _ hij aa
theorem xpb:Arr n zce:=by
 have e:(CB,g zce i=i):=(lv,g_at (cK,List.getElem?_toArray,Yb hi));exact⟨ah,lv (av,e i hi,hi),fun i j hi hj z=>by show(tu,e i hi,e j hj),Array.Perm.refl _⟩
theorem sort_wp (o:Fo) (c:D7) (h2:2<=n) {G:eQ c8} (hG:∀ p,tR->Srtd lt p n->G p s):lH (kas_sort n):=by
 unfold kas_sort;show(qj,KasT.kasWp_bind,xry o c xpb h2 fun m p hm hm2 a sm=>?_);show lH (iY m n _ _);by_cases e:m<n
 .rw [az e];show(Ah,lH (kas_bin (n-max m 1) p (max m 1)),Nat.max_eq_left hm,xp2 o c (n-m) m p aa a sm hG)
 .ext iA e;ext FF m n;exact xc2 (hG p a sm)
#check _
#check Srt
namespace XL
open PySem
noncomputable def Xat (h:Heap) (e:Addr) (cls:Value) (od tb:ig):Prop :=
 ∃ oe vs,(IG e oe)/\oe.cls=cls/\oe.dict=od/\(Tv oe.data)/\1<vs.size /\
  ((tb=none/\(dO vs 1 Jl))\/∃ T oT ts,nJ tb T (au,dO vs 1 (.ref T),T≠e,IG T oT,oT.data=.fields ts,dO ts 3 Jl))
#check XL
namespace XL
open PySem PySem.W PySem.Calls PyProof.Rows Builtin Builtin.ObjectAttr
noncomputable def vErr:aQ:=[eY "ValueError",eY "Exception",eY "BaseException",eY "object"]
noncomputable def xgv:aQ->Bool
 | []=>false
 | .ref c::r=>xgv r||((.ref c::r:aQ) == vErr)
 | uz=>uz == vErr
noncomputable def xuf (K:Frag) (C:Addr):Bool:=(clsIn K C).any fun cd=>xgv cd.mro
theorem xhi:∀{l:aQ},xgv l=true->l.contains (eY "object")=true/\l.contains (eY "BaseException")=true/\l.isEmpty=false
 | [],e=>by cases e
 | uz,e=>by
  have last:(CZ (uz:aQ) vErr)->(uz).contains (eY "object")=true/\(uz).contains (eY "BaseException")=true/\(uz).isEmpty=false:=fun z=>by
   rw[Wo z];show(aE,aP,aP,rfl)
  cases v with
  | ref c =>
   rcases Bool.or_eq_true_iff.mp e with z|z
   .obtain ⟨a,b,_⟩:43:=xhi z;show(aE,zkr a,zkr b,rfl)
   .exact last z
  | _=>exact last e
structure XC (K:Frag) (C:Addr):Prop where
 over:xuf K C=true
 hd:hasDictIn K C=true
 sa:Xw "__setattr__" "object.__setattr__"
 ga:Xw "__getattribute__" "BaseException.__getattribute__"
 gh:findIn K jd "__getattr__"=some none
 ca:Xw "__class__" "object.__class__"
 cg:specialIn K VJ "__get__"=some (Bc "getset_descriptor.__get__")
 ct:(Lc,takesIn K (.builtin "object.__class__"))
section
variable {prog:Program}{w:World}{A:Around}{E:Value->Shared->Prop}{s:Shared}{K:Frag}{x C dx:Addr}{ox:Obj}{od:Option Obj}{name:Str}{v:Value}{R:Result->Shared->Prop}
theorem XC.mro (c:zF):∃ cd,clsIn K C=some cd/\xgv cd.mro=true/\cd.hasDict=true:=by
 show(af,cd,h1,h2,any_some c.over);show(af,cd',h3,h4,any_some c.hd);ext bB h1 h3 h3;exact bi cd h1 h2 h4
theorem XC.isObj (c:zF):(Lc,mroIn K C (.type "object")):=by
 show(yG,cd,h1,h2,c.mro)
 obtain⟨a,_,b⟩:43:=xhi h2;ext zmC
theorem XC.isExc (c:zF):(Lc,mroIn K C (.type "BaseException")):=by
 show(yG,cd,h1,h2,c.mro)
 obtain⟨_,a,b⟩:43:=xhi h2;ext zmC
theorem xtl (v:Value):bindSpecial (.builtin "BaseException.__getattribute__") v=pure (.builtin "BaseException.__getattribute__",[v]):=by
 have f:=PySem.F.attr_ValueError.ga.bind v;exact f
theorem xrl:plainId "BaseException.__getattribute__"=true:=PySem.F.attr_ValueError.ga.plain
theorem xu8 {Q:bj}{expr fill:Bool}{tk:Tok} (X:ym) (c:zF) (I:znX)
    (h:wpAny aS A.in1 (Builtin.«object.__getattribute__» (nU [nQ,zdc]))
      (mG,fin,match fin with|.done (.ret v)=>wpAny aS A (handedOut v) Q E s'|_=>False) uM s) :
    wpAny aS A (getAttrBy nQ zdc fill expr) Q E s:=by
  obtain⟨hh,g,d,t,os⟩:=s;have L0:=I.type (M:=aS);show(ae,L1,looks_findIn (M:=aS) X c.ga,L2,looks_findIn (M:=aS) X c.gh);have sub:Looks aS hh (isInstance nQ (.type "BaseException")) true:=I.type.andThen (looks_mroIn X c.isExc);have f2:(onTheHeap (Zr C)&&zjl == zlz)=false:=by
    rw[show zq zjl zlz from aP]; rfl
  show(rS,f3,expr&&onTheHeap (Qj "BaseException.__getattribute__"),by cases expr<;>rfl)
  unfold getAttrBy;refine ZW (Zc (L0.at (Zc (L1.at ?_))))
  dsimp only
  rw[f2];ext sj;unfold getAttrByItsOwn hookBefore;show(bm,L2.at (Zc (YI (ZW ?_))));unfold callGetattribute;rw[f3];ext sj;unfold boundAndCalled;rw[xtl];refine Zc (Zk (Ww (codeAny_call_builtin xrl PySem.F.entry_bexc_ga
    (@check_slot aS _ _ ⟨hh,g,d,t,os⟩ "BaseException.__getattribute__" "BaseException" "__getattribute__" nQ [zdc] [] _ aP aP sub (PySem.F.args_bexc_ga _ _) ?_))))
  refine Jk h (aI fin s' z) fun e s' z=>z.elim;rcases fin with (_|_|_|_)|_<;>first|exact z|exact z.elim
theorem xqt {Q:FS} (X:ym) (c:zF) (I:znX) (h:Q (aT C) oG) :
    wpAny aS A (getAttr? (.ref x) "__class__") Q E s:=by
  obtain⟨cd,h1,_,h2⟩:63:=(c.mro)
  have hf:findObj K C od "__class__"=some (.bind (.builtin "getset_descriptor.__get__") VJ):=by
    unfold findObj;rw[h1,QI,c.ca,QI];simp[c.cg,c.ct]
  unfold getAttr? getAttrBy?;refine Zc (wpAny_mkText (Zc (YI ?_)));refine xu8 (s:=oG) X c I ?_;show(ae,L0,I.type (M:=aS),L1,looks_find (M:=aS) X I hf);show(bm,Zk (Zc (Zk (Zc (L0.here (s:=oG) (Zc (L1.here (s:=oG) ?_)))))));show(wF,wpAny _ _ (holding [_] (call _ [_,nQ,jd])>>=ret) _ _ _,ZW (Ww (class_get (s:=oG) (ox:=ox) (od:=od) X I c.isObj ?_)));ext nB;show wpAny _ _ (handedOut (.ref C)) _ _ _;exact Zk (Zk h)
#check _
#check XL
namespace XL
open PySem
#check XL
namespace L2
open PySem PySem.Spec PyProof.Rows XL
variable {q0:Bool}
noncomputable def XO (e C:Addr) (od:ig):HO:=.ext fun h=>∃ ox vs,(IG e ox)/\zij
noncomputable def XD (dx:Addr) (fs:kK):HO:=.ext fun h=>O1/\∃ mA,R0/\GB/\QR mA (fs.map (·.1))
noncomputable def CXo (P:Program) (w:World):CXT:=fun outer H s E u s'=>∃ e C od H' T,u=.ref e/\s'.os=s.os/\O7/\Un (frs outer) [] H H' s.heap s'.heap/\HOk P w H' s'.heap /\
 (au,Xat s'.heap e jd od (some T),H' e=some (XO e C od),Ec T,H' T=none,E e C H')
section
variable {X:Cx}{pins:List (Addr × Obj)}{Z:St}{H:Hp}{s:Shared}{e C:Addr}{od tb:Option Addr}
theorem Inv.size_lt (I:aq) {b:Addr} (h:Ec b):bE dz AM (xV b) (HM b):=by
 refine(bR,I.hok.fresh h,l0,cI x c hc z,aI p hp z)
 .ext gH z;exact absurd I.lt (Nat.not_lt.mpr h)
 .obtain ⟨v,o,ho,_⟩:82:=I.cell x c hc;show(bO,z,ho,absurd (Zv ho) (Nat.not_lt.mpr h))
 .have g:=(I.pin p hp).1;show(bO,z,g,absurd (Zv g) (Nat.not_lt.mpr h))
theorem xp:xd5 (CXo X.prog X.w) X (fun _ _ _ _=>False):=fun pins Z H s u s' I h=>by
 obtain⟨e,C,od,H',⟨T,_,_,_,_,_,_,_,_,_,q⟩⟩:121:=h;exact q.elim
#check _
#check L2
namespace XL
open PySem PySem.W
#check XL
namespace L2
open PySem PySem.Spec PyProof.Rows XL
variable {q0:Bool}
section
variable {X:Cx}{pins:List (Addr × Obj)}{Z:St}{H:Hp}{s:Shared}{a C dx:Addr}{od:Option Addr}{fs:List (Str × V)}{f:Str}{v y:V}{u:Value}{A:Around}{E:Value->Shared->Prop}
theorem xwf (I:aq) (e:N4):∃ ox vs,(zac ox)/\zij:=(I.hok a _ e).1
theorem xsl (I:aq) (e:ax dx (XD dx fs)):O1/\∃ mA,s.heap.Ns1 dx mA/\GB/\QR mA (fs.map (·.1)):=(I.hok dx _ e).1
theorem xk7 {o:Obj}{vs:gL} (d:Tv o.data):PySem.W.notCls o=true:=by
 unfold PySem.W.notCls;rw[d]
#check _
#check L2
namespace XL
open PySem PySem.W
#check XL
namespace L2
open PySem PySem.Spec PyProof.Rows XL
variable {q0:Bool}
#check L2
namespace XL
open PySem PySem.W
theorem xov {K:Frag}{x C:Addr} (c:zF):KitX K nQ jd (d9,∃ ox od,InstAt h x ox C od) where
 ty:=fun _ _ _ ⟨_,_,I⟩=>I.type
 it:=fun _ _ X _=>by
  ext zpx
  ext zqH
  .rename_i c' d' cd' sl' ho
   intro A' Q' E' s' k q;unfold isType loadHead;exact Zc (wpAny_loadPart (k _ _ (X _ _ ho)) (Zk q))
  .cases hc
 ne:=fun h tp dd its n sl X htp=>by
  ext zpx
  refine Jh.mpr (bZ q);show(tQ,C,tp,Zr.inj (beq_iff_eq.mp q));ext zqH
  .rename_i c' d' cd' sl' ho
   have z:=(X _ _ ho).symm.trans htp;cases z
  .cases hc
 ca:=fun X ⟨ox,od,I⟩ k=>xqt X c I k
#check XL
namespace L2
open PySem PySem.Spec PyProof.Rows XL
variable {q0:Bool}
noncomputable def clsV:V->(cX Value)
 | .ty n=>some (eY n)
 | aA=>cP
 | _=>none
theorem xhq {c:V}{u cv:Value} (e:X0) (r:RelV c u):u=cv:=by
 cases c<;>first|(ext rQ e r)|cases e
noncomputable def xnp:ag->(cX aQ)
 | []=>some []
 | c::r=>(clsV c).bind fun a=>(xnp r).map (a::·)
theorem xj9:∀{cs:ag}{us cv:aQ},xnp cs=some cv->Vals cs us->us=cv
 | [],_,_,e,.nil=>by ext hJ e
 | c::r,_,_,e,dJ rc rr=>by
  show(af,a,e1,e2,Option.bind_eq_some_iff.mp e);ext qJ b e3 e2;rw[xhq e1 rc,xj9 e3 rr]
section
variable {X:Cx}{pins:List (Addr × Obj)}{Z:St}{H:Hp}{s:Shared}{A:Around}{E:Value->Shared->Prop}{Q:Value->Shared->Prop}
theorem xm1 {a C:Addr}{od:ig} (I:aq) (h:N4) (hd:∀ d,od=some d->∃ o,oB):∃ ox odx,PySem.W.InstAt s.heap a ox C odx:=by
 obtain⟨ox,vs,g,ce,oo,de⟩:84:=xwf I h;cases e:od with
 | none=>exact⟨ox,none,g,ce,xk7 de,by rw[oo,e]; trivial⟩
 | some d =>
  obtain⟨o,go⟩:=hd d e;exact⟨ox,some o,g,ce,xk7 de,nD oo e go⟩
#check _
inductive xxx (K:Zd) (xs:ag) (H:Hp) (Q:VK):Prop
 | mk (x c) (e_:xs=[x,c]) (r_:((∃ t cv b,(bE,TyOf K H x t,X0,Wh K t cv=some b,rg b))\/(∃ a C od cv b,aR x aA N4 (au,zhr,zF,X0,Wh K jd cv=some b,rg b))\/(∃ a C od p cs cv b,(au,x=aA,N4,zhr,zF,(au,c=cq,SqT K H p cs,xnp cs=some cv,PySem.W.kitAny K jd cv=some b,rg b)))))
section
variable {X:Cx}
theorem xd2:xcg X (.builtin "isinstance") (xxx X.K):=by
 intro pins s Z H us xs Q I r h;obtain⟨x,c,rfl,h⟩:=h;obtain⟨u,v,rfl,ru,rv⟩:83:=xkk r;rcases h with⟨t,cv,b,ty,ec,ek,q⟩|⟨a,C,od,cv,b,rfl,ha,hd,xc,ec,ek,q⟩|⟨a,C,od,p,cs,cv,b,rfl,ha,hd,xc,rfl,hp,ec,ek,q⟩
 .show(nZ,xhq ec rv);exact xql I ru ty ek VD
 .show(nZ,xhq ec rv);show(cQ,u=qi,ru);show(zfz,J8 (xov xc) I.kIn (xm1 I ha (am d e)) ek gb VD)
 .show(cQ,u=qi,ru);show(cQ,v=Zr p,rv);show(yG,its,vi,it,qe hp);show(nZ,xj9 ec vi);obtain⟨o,g,oc,⟨n,od'⟩⟩:63:=it;obtain⟨c1,d1,dt1,sl1⟩:=o
  dsimp only at oc od'
  subst oc od';show(zfz,PySem.W.kia_tup (xov xc) I.kIn (xm1 I ha (am d e)) g ek gb VD)
#check _
noncomputable def xdo (scope:Scope):ai:=(scope.names.filter fun x=>zdZ).map (·.1)
noncomputable def Cx.clo (X:Cx) (scope:Scope):Ra:=(tF).reverse.map fun n=>(n,(NL).getD 0)
theorem xin {env:Env}{f:Str->Addr}:∀(l:iL Str NameKind) (acc:Ra),(∀ x∈l,cU=.free->env.cells.lookup aN=some (f aN)) ->
    (forIn l acc fun x cs=>(if zdZ then do let c <- cellOf env aN; pure (YM ((aN,c)::cs)) else pure (YM cs):Sem (ForInStep Ra))) =
      pure ((((l.filter fun x=>zdZ).map (·.1)).reverse.map (lB (n,f n)))++acc)
  | [],acc,_=>rfl
  | x::r,acc,h=>by
    have ih:=fun a=>xin r a zed;rw[List.forIn_cons];by_cases q:cU=.free
    . have e:=h x Zn q
      have qb:CZ cU Wv:=fh q
      rw[az qb,List.filter_cons,az qb];have ec:cellOf env aN=pure (f aN):=by unfold cellOf; rw[e]
      rw[ec];simp only[pure_bind];rw[ih];simp
    . ext rL qb cU Wv zaP
      rw[aM (yx qb),List.filter_cons,aM (yx qb)];simp only[pure_bind];rw[ih]
theorem xo0 {X:Cx}{scope:Scope} (h:zpk):closureFor scope X.env=pure (X.clo scope):=by
 unfold closureFor;have z:=xin (env:=X.env) (f:=fun n=>(NL).getD 0) scope.names [] fun x hx hf=>by
  show(i5,c,h aN (Ze.mpr (b5 x (Fl,hx,cM hf))));rw[e];rfl
 rw[YL] at z;refine (bind_pure (m:=Sem) _).trans ?_;exact z
theorem xs8 {X:Cx}{scope:Scope}{n:Str}{c:Addr} (h:(Bs).lookup n=some c):n∈tF/\c=(NL).getD 0:=by
 have z:=JN h;unfold Cx.clo at z;ext pG y hy e z;injection e with e1 e2
 subst e1;show(aO,Qg.mp hy,e2.symm)
theorem xey {f:Str->Addr}{n:Str}:∀{l:ai},n∈l->(l.map fun y=>(y,f y)).lookup n=some (f n)
 | [],h=>Be
 | y::r,h=>by
  rw[Zo,Z5];by_cases q:n=y
  .subst q;simp
  .show(bI,show zq n y from zaP,xey ((LC).resolve_left q))
theorem xm5 {X:Cx}{scope:Scope}{n:Str}{c:Addr} (hn:n∈tF) (h:GC):(Bs).lookup n=some c:=by
 have z:=xey (f:=fun n=>(NL).getD 0) (Qg.mpr hn);unfold Cx.clo;rw[z,h];rfl
noncomputable def xdj:TT:=(FG,Q true H)
noncomputable def PIf (X:Cx) (ifs:iF) (t:TT):Prop :=
 ∀(pins:List (Addr × Obj)) (s:Shared) (Z:St) (H:Hp) (Q:vt),aq->Cf ->
  wpAny aJ X.A (zfs,isTrue c X.env (jx c)) PZ X.xe s
theorem xa2 {X:Cx}:PIf X [] xdj:=fun pins s Z H Q I h=>Zk ⟨H,I,h⟩
theorem xgy {X:Cx}{c:Expr}{t:TT} (hc:PT X c t):PIf X [c] t:=fun pins s Z H Q I h=>by
 rw[List.forIn_cons];ext lY;rw[cp];show(bm,(Jk (hc pins s Z H Q I h) (wK,s1,Zk ?_) (tP z)));exact Zk q
theorem xpo {env:Env}{scope:Scope} (nc:U7) (n:Str) (h:(Hg).names.lookup n=some .cell\/(Hg).names.lookup n=some .free):n∈tF:=by
 have key:∀ k,(Hg).names.lookup n=some k->(k=.cell\/k=.free)->n∈tF:=fun k e hk=>by
  show(af,y,hy,ey,Ze.mp (JN e));obtain⟨m,j⟩:=y
  dsimp only at ey
  split at ey
  .rename_i q
   injection ey with e1 e2
   subst e1;have:j=.free:=by
    simp only[ZM,beq_iff_eq] at q;exact q.1.1
   ext rE;exact Ze.mpr (dY,Fl hy ah)
  .injection ey with e1 e2
   subst e1 e2;rcases hk with z|z
   .show(dy,z,nc _ hy)
   .subst z;exact Ze.mpr (dY,Fl hy ah)
 rcases h with h|h
 .exact key _ h (.inl rfl)
 .exact key _ h (.inr rfl)
theorem xog {env:Env}{scope:Scope}{n:Str} (h:scope.names.lookup n=some .free):(Hg).names.lookup n=some .cell\/(Hg).names.lookup n=some .free:=by
  have key:∀(l:iL Str NameKind),l.lookup n=some .free->(zeV).lookup n=some .cell \/
      (zeV).lookup n=some .free:=fun l=>by
    induction l with
    | nil=>intro e; ext lw
    | cons y r ih =>
      intro e;obtain⟨m,k⟩:=y;rw[Zo];rw[Z5] at e;cases q:n == m with
      | true =>
        ext bB q e e
        dsimp only
        split
        . left; rw[Z5,q]
        . right; rw[Z5,q]
      | false =>
        rw[q] at e;have z:=ih e
        dsimp only
        split<;>(ext cY Z5 q z)
  exact key _ h
section
variable {P:Program}{w:World}{K:Zd}{mg:Str->Option Value}{base:Heap}
theorem Fun.okn {x qual:Str}{st:Stmt}{f:Addr}{fd:FuncData}{N ps:ai}{k:Nat}{sp:Sp} (F:Fun K x qual st f fd) (S:zcW) (len:Gw)
    (hbody:∀(cdv:Value) (A:Around) (outer:List Env) (s:Shared) (H:Hp) (vs:List V) (Q:VK) (E:XK),Room q0 k (A.deeper (envOfC qual (xl st) s.heap.objs.size f cdv))->ER ->
      (Mi,(cxOf q0 aU P w K mg base N qual jg f cdv A outer s H E).nox,jC)):FnOk q0 P w K mg base aU dk f fd ps sp:=by
  obtain⟨oc,od,kV,doc,⟨pm,an,cdv,ct,osl,rfl,lk,hcd⟩⟩:121:=(F.ex)
  show(UP,fun A outer s H vs Q E hr hsp=>?_,hbody cdv A outer s H vs Q E hr hsp)
#check _
#check L2
namespace L2
open PySem PySem.Spec PyProof.Rows XL
theorem ifP {b:Bool}{A B:Prop} (h:b=true) (q:A):cm b A B:=by
 show(aB,az h,q)
theorem ifN {b:Bool}{A B:Prop} (h:b=false) (q:B):cm b A B:=by
 show(pU,yx h,q)
section
variable {X:Cx}
theorem xjv:mS .LtE (KG,∃ i j,(aR,x,.str i,y=.str j,rg (!(cJ (j.cps.toList<i.cps.toList))))):=by
 intro pins s Z H x y v u Q I rx ry h;obtain⟨i,j,rfl,rfl,q⟩:83:=h;ext iN;ext fP;exact PySem.P.le_str (cW rfl)
#check _
#check L2
namespace L2
open PySem PySem.Spec PyProof.Rows
variable {q0:Bool}
section
variable {X:Cx}
theorem xm4:∀{us:aQ}{ys:ag},(Gn ys.length)->(∀(j:Nat) (y:V) (u:Value),Eh us u gS)->Vals ys us
 | [],[],_,_=>.nil
 | u::us,jH,hl,h=>dJ (h 0 y u rfl rfl) (xm4 (Nat.succ.inj hl) fun j y' u' e e'=>h hV y' u' e e')
#check _
structure FunD (K:Zd) (x qual:Str) (st:Stmt) (T f:Addr) (fd:FuncData):Prop where
 ex:∃(oc:Value) (od:ig) (kV doc pm:Value) (an:ig) (cdv ct:Value) (osl:xF),
  (aR,fd,Jw x qual mj jC jg (.ref T) kV doc pm an cdv ct,GK fd,GZ)
 kp:oM f
section
variable {P:Program}{w:World}{K:Zd}{mg:Str->Option Value}{base:Heap}
theorem FunD.okn {x qual:Str}{st:Stmt}{T f:Addr}{fd:FuncData}{N ps:ai}{k:Nat}{sp:Sp} (F:FunD K x qual st T f fd) (S:zcW) (len:Gw)
    (hbody:∀(cdv:Value) (A:Around) (outer:List Env) (s:Shared) (H:Hp) (vs:List V) (Q:VK) (E:XK),Room q0 k (A.deeper (envOfC qual (xl st) s.heap.objs.size f cdv))->ER ->
      (Mi,(cxOf q0 aU P w K mg base N qual jg f cdv A outer s H E).nox,jC)):FnOk q0 P w K mg base aU dk f fd ps sp:=by
  obtain⟨oc,od,kV,doc,⟨pm,an,cdv,ct,osl,rfl,lk,hcd⟩⟩:121:=(F.ex)
  show(UP,fun A outer s H vs Q E hr hsp=>?_,hbody cdv A outer s H vs Q E hr hsp)
theorem FunD.binds {x qual:Str}{st:Stmt}{T f:Addr}{fd:FuncData}{ps:ai}{o:Obj}{items:gL}{n:Nat}{ds:aQ} (F:FunD K x qual st T f fd) (ho:A6 T o) (hs:o.data=.seq items n) (m:Nat) (hm:(zB,m+ds.length))
    (h:∀(kV doc pm:Value) (an:Option Addr) (cdv ct:Value) (us:List Value),(Gn m) ->
      ∃ k,bindArgs (Jw x qual mj jC jg (.ref T) kV doc pm an cdv ct) (nU us)=seqItems? (.ref T)>>=k/\k (some items)=pure (ps.zip zE)):xw K fd ps ds:=by
  obtain⟨oc,od,kV,doc,⟨pm,an,cdv,ct,osl,rfl,lk,hcd⟩⟩:121:=(F.ex)
  intro s us hK hl;rw[Zs] at hl;show(af,k,h1,h2,h kV doc pm an cdv ct us aa);exact BindsTo.of_defaults rfl (hK _ _ ho) hs h1 h2
theorem xm7 {x qual:Str}{st:Stmt}{T f:Addr}{oc:Value}{od an:ig}{osl:xF}{kV doc pm cdv ct:Value} (l:GK (Jw x qual mj jC jg (.ref T) kV doc pm an cdv ct))
    (c:GZ) (k:oM f):FunD K x qual st T f (Jw x qual mj jC jg (.ref T) kV doc pm an cdv ct):=zgm
#check _
#check L2
namespace L2
open PySem PySem.Spec PyProof.Rows XL
variable {q0:Bool}
noncomputable abbrev Cx.blkG (X:Cx) (scope:Scope) (zs:ai) (ys:ai) (C:Addr) (ex:ao) (s:Shared) (H:Hp) (pn:bc):Cx where
 prog:=X.prog
 w:=X.w
 K:=X.K
 mg:=X.mg
 base:=X.base
 A:=X.A
 N:=zs++ys
 s₀:=s
 H₀:=H
 env:=compEnvC scope Bs C X.env
 outer:=X.stack
 stack:=X.stack
 ex:=ex
 fn:=fun _=>false
 calm:=X.calm
 pn:=pn
 xe:=uM
theorem xib {prog:Program}{w:World}{A:Around}{R:R7}{s:Shared}{elt target iter:Expr}{ifs:iF}{scope:Scope}{pos:Pos}{it acc:Value}{env:Env} (I:eQ Nat)
    (turn:∀ n s,I n s->wpAny aS A (pyNext it) (fun r s₁=>match r with
      | none=>R (.ok .next) s₁
      | gz=>wpAny aS A (letOwnedTupleGo target it v) (fun _ s₀=>wpAny aS A (assign target env v) (fun _ s₂ =>
          wpAny aS A (zfs,isTrue c env (eval c env)) (fun ok s₃ =>
            if ok=true then wpAny aS A (eval elt env) (fun x s₄ =>
              wpAny aS A (Bk "list.append" [acc,x]) (fun _ s₅=>(Tm,I m s₅)) DC s₄) DC s₃
            else (Tm,I m s₃)) DC s₂) DC s₀) DC s₁) DC s)
    (n:Nat) (h:I n s):codeAny aS A (.compLoop (U1 target) 0 it acc env) R s:=by
  refine codeAny_loop rfl I (aI n s hI) n h;show wpAny _ A ((compTurn (U1 target) 0 it acc env).onRaise (fun x=>do noteFrame x env; theTreesLotGoes x)) _ _ s;refine wpAny_noted ?_;rw[compTurn_list];show(bm,Wu (Zc (Jk (turn n s hI) (aI r s₁ h₁) fun _ _ h'=>h')));cases r with
  | none=>exact Zk h₁
  | some v =>
    show(bm,Jk h₁ (fun _ s₀ h₀=>XZ h₀ (fun _ s₂ h₂=>XZ h₂ (aI ok s₃ h₃))) fun _ _ h'=>h');cases ok with
    | false=>exact Zk (eG h₃)
    | true =>
      exact Zc (Zc (Jk h₃ (fun x s₄ h₄=>XZ h₄ (fun _ s₅ h₅=>Zk (Zk (eG h₅)))) fun _ _ h'=>h'))
structure BlkG (X:Cx) (scope:Scope) (zs:ai) (ys:ai) (fr:pi):Prop where
 kind:scope.kind=.function
 own:∀ x∈zs,scope.names.lookup x=some .local
 ncell:U7
 names:∀ y∈scope.names,y.2=.local->(Vz .local)
 free:∀ n∈tF,X.env.scope.names.lookup n=some .cell
 has:∀ n,((qw).names.lookup n=some .cell\/(qw).names.lookup n=some .free)->n∈tF
 slots:fr.map (jq,X.N[i]?)=ys.map some
 ysf:∀ y∈ys,y∈tF
 ysc:∀ y∈ys,(qw).names.lookup y=some .cell\/(qw).names.lookup y=some .free
 nd:X.N.Nodup
 ndb:AZ
noncomputable def blk0 (Z:St) (fr:pi) (n:Nat):St:=List.replicate n none++zly
section
variable {X:Cx}{pins:List (Addr × Obj)}{Z:St}{H:Hp}{s:Shared}{scope:Scope}{zs:List Str}{ys:List Str}{fr:List Nat}{fp:List Addr}
theorem BlkG.cells (B:xD) (I:aq):zpk:=(zt,I.ok.has n (.inl (B.free n hn)))
theorem BlkG.sub (B:xD) (I:aq) {n:Str}{c:Addr} (h:(Bs).lookup n=some c):GC:=by
 show(vK,b,xs8 h);show(i5,d,B.cells I n a);rw[e] at b;rw[b,e];rfl
theorem Inv.blkG {h1:Heap}{m1:fK}{t':Nat} (B:xD) (I:aq) (hf:MR) (hz:∀ b∈fp,(mU b)) (n1:h1.Ns s.heap.objs.size m1) (k1:mC fY zqd) :
    Inv (X.blkG scope zs ys s.heap.objs.size fp s H m7) [] NY H (Xg h1):=by
  have sub:∀ n c,(Bs).lookup n=some c->GC:=fun n c h=>B.sub I h;have cz:∀ n c,GC->(mU c):=fun n c e=>by
    obtain⟨v,o,ho,_⟩:82:=I.cell n c e;exact Zv ho
  have nfs:∀ b∈fp,b∉EK:=fun b hb z=>(zcm z).elim (aW zn) (zY zn);have fz:(gZ,b∈EK,mU b):=fun b hb=>by
    obtain⟨_,o,ho,_⟩:=I.stack.mem hb;exact Zv ho
  refine⟨⟨I.ok.mod,B.kind,I.ok.glob,I.ok.blt,bp,fun y z c h1 h2=>I.ok.inj y z c (sub y c h1) (sub z c h2),Km,(fun y c hy _=>nomatch hy),I.ok.hd,I.ok.frames,gT,nI ⟨?_,fun y c h=>(bS (bS zn)).1 y c (sub y c h)⟩,
      I.bs,ZZ I.ok.bsz I.sz,cI b o e hb,(nI,nfs b hb),I.stack,I.stkFree⟩,
    rfl,I.bare,Un.kept k1,⟨m1,n1,fun i y v e1 e2 e3=>?_⟩,aI y c h,xO,fun y c h=>I.freeC y c (sub y c h),iZ,I.hok.kept k1,?_⟩
  . show(i5,c,B.cells I y (B.has y hy))
    show(aO,c,xm5 (B.has y hy) e)
  . exact ZG (hz b hb)
  . rcases aW (bS zn) with z|z
    . exact I.ok.noex b o e z
    . show(yY,ZD (Zv zan) z)
  . have ln:(List.replicate zs.length (none:bP)).length=zs.length:=Wc
    by_cases lt:i<zs.length
    . have e2':aF NY gz:=e2
      unfold blk0 at e2';rw[ZQ (av ln lt),QO] at e2';ext Lg e2'
    . show(ED,k,rfl,∃ k,i=zs.length+k,i-zs.length)
      have e2':dO zly k gz:=by
        have z:(dO,NY,zs.length+k,gz):=e2;unfold blk0 at z;rw[Js (qM ln),ln] at z;simpa using z
      have e1':dO ys k y:=by
        have z:(dO,zs++ys,zs.length+k,y):=e1;rw[Js aa] at z;simpa using z
      rw[Zf] at e2';show(af,j,hj,ej,Zh.mp e2');have ev:b9 Z gz:=by
        cases q:Z[j]? with
        | none=>ext cE q ej
        | some w=>rw[q] at ej; exact congrArg some ej
      have eN:b9 X.N y:=by
        have z:=congrArg (fun l=>l[k]?) B.slots;simp only[Zf,hj,e1',Qu] at z;exact ZE.inj z
      have my:y∈ys:=Zm e1';show(BH,m,lk,I.loc)
      show(af,u,r,l,lk j y v eN ev (.inr (.inl zoM)));show(dc,u,r,.inr (dQ,B.ysc y my));rcases l with⟨kk,_⟩|⟨_,c,e,o,ho,hd⟩
      . have z:=zoM
        show(cE,show X.env.scope.names.lookup y=some .local from kk,z)
      . exact⟨c,xm5 (B.ysf y my) e,o,k1 c o ho,hd⟩
  . show(gQ,v,o,ho,hd,I.cell y c (sub y c h))
    exact(bw,v,o,k1 c o ho,hd)
  . have hp':p∈m7:=zat
    obtain⟨a1,a2,a3,a4,a5⟩:45:=I.pin p hp';exact(b8,k1 _ _ a1,a2,ZG (Zv a1),(aC,(dU (I.stkSub _ z)).elim a3 a4),a5)
  . have z:=congrArg Yd B.slots
    simp only[Za] at z;simp[blk0,z]
#check _
section
variable {X:Cx}{pins:List (Addr × Obj)}{Z:St}{H:Hp}{s:Shared}{scope:Scope}{zs:List Str}{ys:List Str}{fr:List Nat}{fp:List Addr}
theorem Inv.unblkG {C:Addr}{s':Shared}{h2:Heap}{σ':St}{H':Hp}{pl:bc} (I:aq) (hf:MR) (hC:Ec C) (J:Inv (X.blkG scope zs ys C fp s H m7) pl σ' H' s') (sb:Jn C s'.heap h2) :
    cT H' Xn:=by
  have kp:∀ b o,b≠C->s'.heap.get? b=some o->Xm:=fun b o nb g=>(sb.2 b nb).trans g;have old:(mC,fY,b≠C):=fun b o g=>ZG (ZD (Zv g) hC);have trk:(pW,H' b=some u,b≠C):=fun b u hb z=>by
    have f:H' C=none:=J.free;ext uw z f hb hb
  refine I.call' (s':=Xn) J.os (ch:=fp) ⟨fun b o e n hb hx=>kp b o (old b o e) (J.base.keep b o e n hb hx),fun b o e n hb hx=>?_,fun b o e n hx=>J.base.free b o e n hx,PP,J.base.tups,J.base.frzs,J.base.tbls⟩ (aI b u hb) J.bare gP
  . show(i4,sl,J.base.slot b o e n hb hx)
    show(aO,sl,kp b _ (old b o e) q)
  . show(i4,o',J.base.there b o e hx)
    show(aO,o',kp b o' (old b o e) q)
  . refine (J.hok b u hb).stay (cI c v hc q) (fun c q=>q) (Fp q)
    rcases hc with rfl|hc
    . exact kp c v (trk c u hb) q
    . exact kp c v (trk c _ hc) q
  . obtain⟨_,a1,_,a3,a4,a5⟩:46:=zn
    exact bR a3 a1 a4 a5
#check _
noncomputable def GOk (n:Nat) (g:TG):Prop:=∀ v Z H Q,g v Z H Q->g v Z H Mf
theorem xbc {i n:Nat} (h:hW):GOk n (xcd i):=fun v Z H Q q=>⟨q,ah,Ge (fW,Qp aa)⟩
noncomputable def xdy (J:It) (n:Nat) (g:TG) (Z:St) (fr:pi) (tc:TT) (te:TE) (l:Addr) (H1:Hp) (Q:VK):Prop:=∃ W:BX zi,(∃ m,W 0 m [] (oh H1 l))/\∀ i m xs H2,W i m xs H2 ->
 (J.stop i H2/\LT)\/(J.go i H2/\∀ v H3,J.yld i H2 v H3->g v (blk0 Z fr n) H3 fun σ' H3'=>tc σ' H3' fun b H4=>if b=true then
  (zhm (yR,m,W aH m' Lo (dN H5 l Lo))) else (yR,m,W aH m' xs H4))
noncomputable def xl7 (wi:TI) (n:Nat) (g:TG) (fr:pi) (tc:TT) (te:TE):TE:=(iO,Q,wi Z H fun J H1=>∀ l,uX->xdy J n g Z fr tc te l H1 Q)
section
variable {X:Cx}{scope:Scope}{zs:List Str}{ys:List Str}{fr:List Nat}{elt iter tg:Expr}{g:TG}{ifs:List Expr}{px pos:Pos}{wi:TI}{tc:TT}{te:TE}
theorem xic {pins:bc}{s:Shared}{Z:St}{H:Hp}{Q:VK}{U:cX (Value->Sem Unit)}{R:bj} (hc:iT) (B:xD) (hi:OY) (hg:∀ C ex s H pn,(∀ x∈zs,(qw).names.lookup x=some .local)->AZ->PG (X.blkG scope zs ys C ex s H pn) tg g) (gok:zbh)
    (hif:W1 (X.blkG scope zs ys C ex s H pn)) (he:Xd (X.blkG scope zs ys C ex s H pn)) (I:aq) (h:xl7 wi zs.length g fr tc te Z H Q)
    (fin:∀ C l H' s' m,(bE,xJ C,C≠X.env.locals,xV C,HM C)->(bg,H' C=none,s'.heap.Ns C m,(∀ h2,Jn C s'.heap h2->(cT H' Xn)),Q bQ H',compPost aJ X.A X.xe U R bQ C (.ok .next) s')) :
    wpAny aJ X.A (jx iter) (fun v s1=>wpAny aJ X.A (pyIter v) (fun it s2=>wpAny aJ X.A (newList []) (fun acc s3 =>
      wpAny aJ X.A (newFunctionEnv scope X.env.globals Bs [] X.env.qual none .none (some X.env)) (fun cenv s4 =>
        codeAny aJ X.A (.compStart FH 0 it acc { cenv with scope:=qw }) (compPost aJ X.A X.xe U R acc cenv.locals) s4) X.xe s3) X.xe s2) X.xe s1) X.xe s:=by
  show(kD,hi pins s Z H _ I h,zjB);obtain⟨it,fp,tn,J,⟨H2,rfl,I2,T,st2,f2,body⟩⟩:121:=h2;have hN:H2 s2.heap.objs.size=none:=I2.hok.fresh (Zl _);obtain⟨W,⟨m0,w0⟩,turn⟩:62:=body s2.heap.objs.size hN;refine JK ?_;generalize hs3:({ s2 with heap:=s2.heap.push (eP,"list",.seq ([]:aQ).toArray) }:Shared)=s3;have k3:(mC,s2.heap.get? b=some o,s3.heap.get? b=some o):=fun b o g=>dE hs3 CQ
  have I3:Inv X pins Z uC s3:=by
    show(ja,hs3,I2.laid (t':=s2.toks) (jG ui) bp ⟨fV,bw [] 0 .nil iJ⟩)
  have z2:∀ b∈fp,b<s2.heap.objs.size:=fun b hb=>by
    ext znE g
  have z3:∀ b∈fp,b<s3.heap.objs.size:=fun b hb=>by
    show(znE,k3 b o g)
  show(bo,f3,∀ b∈fp,FpOk X pins uC b,b,hb,⟨(av,xg (ZG (z2 b hb)),(f2 b hb).1),(f2 b hb).2⟩)
  show(cA,st3,tn 0 s3.heap,T.keep _ _ _ st2 fun b _ o g=>k3 b o g,wpAny_newFunctionEnv B.ncell (by intro y hy; simp at hy) (aI h1 n1 sb1) B.kind);show(dG,k4,(mC,s3.heap.get? b=some o,zqd),fun b o g=>sb1.extBut b o (ZG (Zv g)) CQ,I4,I3.blkG (t':=znp) B f3 z3 n1 k4);have st4:tn 0 h1:=T.keep _ _ _ st3 fun b _ o g=>k4 b o g;show(bo,own',∀ x∈zs,(qw).names.lookup x=some .local,x,hx,lookup_relabel_local (B.own x hx))
  -- the iterator's objects,through the loop
  have stat:(zpP,FpOk (X.blkG scope zs ys s3.heap.objs.size fp s3 uC m7) [] H' b):=fun hn b hb=>by
    obtain⟨_,a1,a2,a3,a4,a5⟩:46:=f3 b hb;exact⟨46,hn b hb,ZG (z3 b hb),(aC,(Zt.mp (I3.stkSub b z)).elim a1 a2),.inl hb,fun y c h=>a4 y c (B.sub I3 h),(eF,a5 p zat)⟩
  have loop:∀ s4:Shared,s4={ s3 with heap:=h1,toks:=znp } ->
      codeAny aJ X.A (.compLoop FH 0 qX xB (compEnvC scope Bs s3.heap.objs.size X.env))
        (compPost aJ X.A X.xe U R xB s3.heap.objs.size) s4:=by
    rintro s4 rfl;refine xib (mG n (zmX,X.blkG scope zs ys s3.heap.objs.size fp s3 uC m7,s',s'.heap,W i n xs H')) ?_ m0
      ⟨104,0,[],_,I4,st4,(nI,(f3 b hb).1),w0⟩
    rintro n s5 (⟨i,xs,H5,I5,st5,fr5,w5⟩:104);rcases turn i n xs H5 w5 with⟨stop,q⟩|⟨go,step⟩
    . show(A5,T.done (X.blkG scope zs ys s3.heap.objs.size fp s3 uC m7) rfl rfl rfl hc i [] s5 _ H5 uM I5 (stat fr5) st5 stop,(fun r s6 ⟨hr,I6⟩=>?_))
      subst hr;show(dL,m,hm,I6.loc)
      exact fin _ _ H5 s6 m ⟨I3.sz,(I3.size_lt (Zl _)).2⟩ I6.free hm (fun h2 sb=>I3.unblkG f3 bp I6 sb) q
    . show(A5,T.item (X.blkG scope zs ys s3.heap.objs.size fp s3 uC m7) rfl rfl rfl hc i [] s5 _ H5 uM I5 (stat fr5) st5 go,vy r s6 u hr h6)
      subst hr;show(A5,h6,(fun _ s7 ⟨y,H7,I7,r7,y7,st7,fr7⟩=>?_));have I7':=I7.pinned (stat fr7) (T.obj _ _ st7);show(A5,hg _ _ _ _ _ own' B.ndb _ s7 _ H7 y u _ I7' r7 (gok _ _ _ _ (step y H7 y7)),(fun _ s8 ⟨σ8,H8,I8,q8,l8,k8⟩=>?_));have back:∀{s9:Shared}{H9:Hp}{xs':ag},Inv (X.blkG scope zs ys s3.heap.objs.size fp s3 uC m7) ([]++xgg fp s7.heap) σ8 H9 s9->(yR,n,W aH m' xs' H9) ->
          (Tm (zmX,X.blkG scope zs ys s3.heap.objs.size fp s3 uC m7,s9,s9.heap,W i m xs H')):=fun {s9 H9 xs'} I9 ⟨m',lt,w9⟩=>by
        show(dc,m',lt,⟨104,aH,xs',H9,I9.unpinned.weak l8.symm (rT j v),T.keep _ _ _ st7 (fH,b,hb,o,(I9.pin (b,o) Nv).1),gP,w9⟩)
        . by_cases lj:j<zs.length
          . unfold blk0 at e
            rw[ZQ (av Wc lj),QO] at e;ext Lg e
          . show(aB,k8 j aa,e)
        show(af,o,e,d,T.obj _ _ st7 b hb);exact aW (I9.pin (b,o) Nv)
      show(A5,hif _ _ _ _ _ _ s8 _ H8 _ I8 q8,vy ok s9 H9 I9 q9);cases ok with
      | false =>
        rw[LQ] at q9 ⊢;exact back I9 q9
      | true =>
        rw[cp] at q9 ⊢;show(A5,he _ _ _ _ _ _ s9 _ H9 _ I9 q9,(fun ev s10 ⟨yv,H10,I10,r10,hl,len,w10⟩=>?_));refine Jk (xb0 (X:=X.blkG scope zs ys s3.heap.objs.size fp s3 uC m7) _ s10 _ H10 xB [yv] xB [ev] (jN,H',H'=(dN H10 s2.heap.objs.size (xs++[yv]))) I10 rfl (dJ r10 .nil) (uq,_,xs,yv,n6 hl len rfl))
          (fun _ s11 ⟨_,H11,I11,_,e11⟩=>?_) (tP z.elim)
        subst e11;exact back I11 w10
  exact codeAny_compStart_list (loop _ rfl) (T.self _ 0 _ _ _ st4 (loop _ rfl))
theorem xa7 (hc:iT) (B:xD) (hi:OY) (hg:∀ C ex s H pn,(∀ x∈zs,(qw).names.lookup x=some .local)->AZ->PG (X.blkG scope zs ys C ex s H pn) tg g) (gok:zbh) (hif:W1 (X.blkG scope zs ys C ex s H pn)) (he:Xd (X.blkG scope zs ys C ex s H pn))
    (hs:UI:=by ext Gp):PE X FH (xl7 wi zs.length g fr tc te):=by
  intro pins s Z H Q I h;show(qj,eval_ListComp,wpAny_comprehension_free (use:=none) rfl hs (xo0 (B.cells I)) B.kind B.names (xic hc B hi hg gok hif he I h fun C l H' s' m _ _ hm iv q=>?_));show(aE,m,hm,fun h2 sb=>(cN,bQ,H',iv h2 sb,q))
theorem xb6 {j:Nat}{y:Str}{py spos:Pos} (hc:iT) (B:xD) (hi:OY) (hg:∀ C ex s H pn,(∀ x∈zs,(qw).names.lookup x=some .local)->AZ->PG (X.blkG scope zs ys C ex s H pn) tg g) (gok:zbh) (hif:W1 (X.blkG scope zs ys C ex s H pn)) (he:Xd (X.blkG scope zs ys C ex s H pn))
    (hj:b9 X.N y) (hy:Loc X.env.scope y) (hf:X.fn y=true\/X.env.scope.names.lookup y=some .local:=by first|ext wf|ext zG|ext d8)
    (hsw:zbt FH (some IV) spos.line true:=by rfl)
    (hs:UI:=by ext Gp):PS X (.Assign [IV] FH spos) (tAsg (xl7 wi zs.length g fr tc te) (xcd j)):=by
  intro pins s Z H D I h;rw[exec_Assign_Name_used _ _ _ _ hsw];show(bm,Wu (Zc ?_));show wpAny _ _ (do let _ <- comprehension FH scope X.env _ (newList []) false (jx iter) (some (assign IV X.env))) _ _ s;refine Zc (Jk (wpAny_comprehension_free (use:=some (assign IV X.env)) (Q:=fun _ s'=>SP X pins D .next s') rfl hs (xo0 (B.cells I)) B.kind B.names
    (xic hc B hi hg gok hif he I h fun C l H' s' m hC hn hm iv q=>?_)) (fun _ s' z=>Zk (Zk z)) fun _ _ e=>e)
  show wpAny _ _ (assign IV X.env bQ) _ _ _;have J:sV:=iv s'.heap (.refl ..);refine wpAny_assign_Name (xjy (v:=V.ref l) J B.nd hj hy rfl (vy s2 J2 a sb ha) hf);have na:a≠C:=by
    rcases ha with z|z
    . rw[z]; exact Zx (aW hC)
    . exact (bS hC).1 _ _ z
  refine⟨m,?_,am h2 s3⟩
  . obtain⟨o,es,ep,g,r⟩:102:=hm
    exact(Bl,o,(sb.2 C (Zx na)).trans g,r)
  . exact(bw,_,H',J2.turned (t':=s2.toks) (fun b o nb g=>(s3.2 b nb).trans g) hn (aW hC) (.inr hC.1) (zY hC) (bS hC).2,q)
#check _
noncomputable def xln (scope sc0:Scope) (N0:ai) (zs:ai) (ys:ai) (fr:pi):Bool :=
 scope.kind == .function&&zs.all (fun x=>scope.names.lookup x == some .local)&&scope.names.all (fun y=>y.2 != .cell)&&scope.names.all (fun y=>y.2 != .local||scope.names.lookup y.1 == some .local) &&
 (tF).all (fun n=>sc0.names.lookup n == some .cell)&&fr.map (fun i=>N0[i]?) == ys.map some&&ys.all (fun y=>zpZ == some .free)&&(cJ N0.Nodup)&&(cJ AZ)
theorem xrd {X:Cx}{scope sc0:Scope}{N0:ai}{zs:ai}{ys:ai}{fr:pi} (chk:xln scope sc0 N0 zs ys fr=true) (es:X.env.scope=sc0) (eN:X.N=N0):xD:=by
 unfold xln at chk;simp only[ZM,beq_iff_eq,Ys,decide_eq_true_eq] at chk;obtain⟨⟨⟨⟨⟨⟨⟨⟨a1,a2⟩,a3⟩,a4⟩,a5⟩,a6⟩,a7⟩,a8⟩,a9⟩:=chk;show(ay,nc,U7,tZ (uT,a3 y hy),⟨a1,a2,nc,aI y hy hl,zt (av,es,a5 n hn),fun n h=>xpo nc n h,av eN a6,Km,(tZ,xog (a7 y hy)),av eN a8,a9⟩)
 .show(Fn,a4 y hy,hl);simpa using z
 .exact Ze.mpr (b5 (y,.free) (Fl,JN (a7 y hy),ah))
theorem xas {X:Cx}{scope sc0:Scope}{N0:ai}{zs:ai}{ys:ai}{fr:pi} (chk:xln scope sc0 N0 zs ys fr=true) (es:X.env.scope=sc0) (eN:X.N=N0) (_:X.stack=X.env::X.outer):xD:=xrd chk es eN
theorem xb7 {K:Zd}{m n:Nat}{t:TGs} (h:ziq):GOk n (gTup K m t):=fun v Z H Q q=>by
 obtain⟨a,xs,e,hs,hl,q⟩:=q;exact⟨a,xs,e,hs,hl,h _ _ _ _ q⟩
theorem xbv {n:Nat}:∀ vs Z H Q,gNil vs Z H Q->gNil vs Z H Mf:=fun vs Z H Q q=>by
 show(i4,e,xr7 q);ext cZ;ext wQ q iD
theorem xaa {i n:Nat} (hi:hW) {t:TGs} (h:ziq) :
    ∀ vs Z H Q,xn5 (xcd i) t vs Z H Q->xn5 (xcd i) t vs Z H Mf:=fun vs Z H Q q=>by
  show(gQ,v,r,rfl,q,xsg q);have z:=h _ _ _ _ q;show(bo,e2,∀(j:Nat),zbe oZ Z,j,hj,(fW,Qp aa))
  have e1:(oZ).length=Z.length:=ah
  have key:(BW (Xa,(oZ).length,∀ j,zbe σ' oZ))=(fun σ' (H':Hp)=>(Xa,Z.length,∀ j,zbe σ' Z)):=by
    funext σ' H';rw[e1];refine propext ⟨(znI,(c j hj).trans (e2 j hj)),(znI,(c j hj).trans (e2 j hj).symm)⟩
  ext bO key z z
theorem xc3 {J:It}{n:Nat}{g:TG}{Z:St}{fr:pi}{tc:TT}{te:TE}{l:Addr}{H1:Hp}{Q:VK} (len:Nat) (Pv:Nat->zi) (h0:Pv 0 [] (oh H1 l)) (hgo:∀ i xs H,i<len->Pv i xs H->J.go i H)
    (step:∀ i xs H2 v H3,i<len->Pv i xs H2->J.yld i H2 v H3->∀ N:zi,(∀ xs' H',Pv aH xs' H'->N xs' H')->g v (blk0 Z fr n) H3 fun σ' H3'=>tc σ' H3' fun b H4=>if b=true then
      (zhm,N Lo (dN H5 l Lo)) else N xs H4)
    (fin:∀ xs H2,Pv len xs H2->J.stop len H2/\LT):xdy J n g Z fr tc te l H1 Q:=by
  show(fE,fun i m xs H=>(aR,m,len-i,i<=len,Pv i xs H),SQ len);rintro i m xs H2 (⟨rfl,hi,p⟩:43);by_cases lt:i<len
  . show(jy,hgo i xs H2 lt p,fun v H3 y=>step i xs H2 v H3 lt p y (fun xs' H'=>(yR,len-i,(aR,m',len-aH,aH<=len,Pv aH xs' H'))) fun xs' H' q=>⟨64,_,aa,rfl,lt,q⟩)
  . ext tQ i len aa;show(cH,fin xs H2 p)
section
variable {X:Cx}{pins:List (Addr × Obj)}{Z:St}{H:Hp}{s:Shared}
theorem Inv.adopt {p:Addr}{o:HO} (I:aq) (n:jc) (h0:xJ p) (hL:p≠X.env.locals) (hC:xV p) (hp:∀ q∈m7,q.1≠p)
    (new:xa6 X.prog X.w (d4 p o) s.heap p o):cT (d4 p o) s:=by
  show(ay,ne,(pW,iH,b≠p),(jG,xb e n),⟨I.ok,I.os,I.bare,⟨I.base.keep,I.base.slot,bJ b ob e hn hx,I.base.there,LM,fH b ob u ?_,dh b ps ?_⟩,I.loc,I.cell,?_,rT x c,am q hq,vN,I.len⟩)
  . show(aB,xg (ZG (vX h0)),I.base.free b ob e hn hx)
  . have z:=I.base.tups b xs e
    show(ir,ne b _ z,z)
  . have z:=I.base.frzs b ob u e
    show(ir,ne b _ z,z)
  . show(mV,m,z,I.base.tbls b ps e,m,cS (ne b _ z) z)
  . show(rC,hL,I.free)
  . show(ir,hC x c e,PX)
  . show(fO,a1,a2,a3,I.pin q hq)
    show(aE,a1,(av,xg (hp q hq),a2),a3)
  . ext CA p
    . ext ul hb xj e;exact new
    . rw[xg hb] at e
      exact (zeg).stay Pk (fun c q=>cS (ne c _ q) q) (Fp,cS (ne c _ q) q)
theorem Inv.thaw {d:Addr}{o:Obj}{u:HO} (I:aq) (e:ax d K1) (nf:Ak):cT (d4 d u) s:=by
 have ne:∀ b v,(ax b v)->(∀ o' u',v≠.frz o' u')->b≠d:=fun b v h1 h2 z=>by
  subst z;ext bB e h1 h1;exact h2 _ _ rfl
 have ne0:(gZ,dz,b≠d):=fun b h1 z=>by
  subst z;ext cE e h1
 refine⟨I.ok,I.os,I.bare,⟨I.base.keep,I.base.slot,bJ b ob q hn hx,I.base.there,aI b xs q,cI b ob v q,aI b ps q⟩,I.loc,I.cell,?_,aI x c q,iZ,aI b v q,I.len⟩
 .have z:=I.base.free b ob q hn hx;show(aB,xg (ne0 b z),z)
 .have z:=I.base.tups b xs q;show(ir,ne b _ z Xo,z)
 .have z:=I.base.frzs b ob v q;have hb:b≠d:=fun w=>by
   subst w;exact nf _ _ q
  ext ir hb z
 .obtain ⟨m,z⟩:=I.base.tbls b ps q;show(aO,m,cS (ne b _ z Xo) z)
 .show(bI,xg (ne0 _ I.free),I.free)
 .rw [xg (ne0 _ (I.freeC x c q))];exact I.freeC x c q
 .obtain ⟨a1,a2,a3⟩:43:=SB;show(aE,a1,cS (ne0 _ a2) a2,a3)
 .have st:∀(a:Addr) (v:HO),xa6 X.prog X.w H s.heap a v->xa6 X.prog X.w (d4 d u) s.heap a v:=fun a v k =>
   k.stay Pk (fun c q=>zpv) (Fp zpv)
  ext CA d
  .ext ul hb xj q;obtain⟨g,ok⟩:=I.hok b _ e;exact st _ _ ok
  .rw [xg hb] at q;exact st _ _ (I.hok b v q)
theorem Inv.nofrz {d:Addr}{kvs:aL} (I:aq) (e:CF):Ak:=fun o' u' z=>by
 ext zjQ
theorem KV.get:∀{kvs:aL}{vs:KR}{i:Nat}{k:Key}{x:V},jW->h7->∃ u,(aF vs (k,u))/\nu
 | _,_,_,_,_,.nil,e=>yN
 | _,(_,_)::_,0,_,_,TU,e=>by
  ext Bx;ext zkY
  subst r1;exact c9 r2
 | _,_,aH,k,x,Fb,e=>by
  show(af,u,h1,h2,KV.get (i:=i) (k:=k) (x:=x) t uJ);ext aE u qx h2
theorem xlu {P:Program}{w:World}{k:Key}{u:Value} (h:(tV).is k u=true):RelV (kV k) u:=by
 rcases xbq (va,xfm k u,h) with⟨i,t,rfl,rfl⟩|⟨x,t,rfl,rfl⟩
 .exact fR t
 .exact fR t
theorem xd4 {d:Addr}{o:Obj}{kvs:aL}{ep:Nat} (I:aq) (e:V7) (hep:KA):∃ vs,jW/\s.heap.DictAt lI d vs ep:=by
 obtain⟨g,_,_,⟨vs,rel,o',es',ep',g',ex,hdat,hk,hp,hn⟩⟩:44:=I.hok d _ e;ext bB g g' g';obtain⟨es,he⟩:=hep;ext bB he hdat hdat;show(aE,vs,rel,⟨86,o,_,g,ex,he,hk,hp,hn⟩)
#check _
noncomputable def Iti (d:Addr) (o:Obj) (kvs:aL):It :=
 (MK,∃ p k x,h7/\(aR,v,cq,jc,H'=(iB H p qh x)))
theorem xn0 {P:Program}{w:World}{K:Zd}{elts:iF}{x1}{tpos:Pos} (d it:Addr) (o:Obj) (kvs:aL) (ep:Nat) (hep:KA) :
    Turn P w K r8 (Iti d o kvs) rW it (d0,h,∃ ok ov,IsItemIter h it d i kvs.length ep ok ov) where
  mem:=ah
  obj:=fun i h st b hb=>by
    ext sR;ext Ei;exact⟨_,st,fun v z=>by
      ext MW⟩
  keep:=fun i h h' ⟨ok,ov,st⟩ k=>⟨ok,ov,RB⟩
  item:=by
    intro X hP hw hK hc i pins s Z H E I hf st hg;ext iE;ext Ei;ext Dc lt;obtain⟨f0,f1,f2,f3,f4,f5⟩:46:=j0;ext Vf;rw[hl] at st;refine wpAny_pyNext_items_item st da hv fun key h' hkey hout ht hz hkp=>?_;ext iG zgY;have kk:NP NF:=(yu,(hsb.2 b hb).trans (hkp b o hb g));show(zM,zqh,I.turned (t':=s.toks) kk f0 f1 f3 f4 f5);ext Im ME;ext zih;show(ay,hp,(Mq,#[key,u]),(hsb.2 _ pne).trans ht,⟨85,eZ,N2 qh x,I1.adopt n0 I.sz nL nC nP (N1,[key,u],.cons (xlu hkey) (dJ ru .nil)),rfl,⟨104,_,k,x,hx,rfl,n0,rfl⟩,?_,gP⟩)
    . rw[<- hl] at hit'
      exact dI _ hit'
    . ext sR;ext rC pne f0
  done:=by
    intro X hP hw hK hc i pins s Z H E I hf st hg;ext iE;ext Ei;ext Dc le;obtain⟨f0,f1,f2,f3,f4,f5⟩:46:=j0;ext wU;show(bO,hl,st,wpAny_pyNext_items_end gO st da (uT Op) (Bb,I.turned (t':=s.toks) uH f0 f1 f3 f4 f5))
  self:=zgA
noncomputable def xu6 (X:Cx) (to:TE):TI:=zhU (Iti d ob kvs)
section
variable {X:Cx}{o:Expr}{to:TE}{elts:List Expr}{x1:_}{tpos apos cpos:Pos}
theorem xq7 (ho:BO) (hbase:Db "items":=by rfl) (hline:Dm:=by rfl) :
    PI X r8 (Di "items" []) (xu6 X to):=by
  intro pins s Z H R I h;show(zaX,ho pins s Z H _ I h,fun v s1 ⟨x,H1,I1,r1,q1⟩=>?_);obtain⟨d,kvs,e1,e,q⟩:83:=q1;ext Ip;obtain⟨z,hd,⟨vs,rel,dd⟩⟩:43:=Rw;obtain⟨ob,es,ep,g,ex,hdat,hk,hp,hn⟩:106:=id dd;refine⟨86, "dict", "dict.items",Yt,YS,PySem.F.type_dict_items,dd.typeIs,am a e2,zbL⟩
  . ext zaS
  refine YT YS dd.typeIs PySem.F.entry_dict_items zlY (meets_dict_items lI d hd) (dQ ⟨vs,dd⟩);show(cA,da,(XQ,"dict_items",#[dF]).DictAt lI d vs ep,⟨86,ob,es,CQ,ex,hdat,hk,hp,hn⟩,wpAny_pyIter_items (s:=Np) qH da ?_);ext zfH
  show(zR,oW,s2,Uq zdp);have I4:cT oW (NI,#[.none,EQ,dF,tN,OP,yQ,.none,.none]) :=
    WE
  have fin:PIE X pins Z r8 R xB (NI,#[.none,EQ,dF,tN,OP,yQ,.none,.none]):=by
    show(UT,⟨66,oW,rfl,I4,xn0 d _ ob kvs ep PN,ip .none .none,gP,q ob (I1.nofrz e)⟩)
    . ext wU
      show(Ah,IsItemIter _ _ d 0 kvs.length ep .none .none,hl,iJ)
    . ext X9
  exact fin
theorem xrq {pins:bc}{Z:St}{Q:VK}{u:Value}{s:Shared} (h:EP X pins Z (jN H2 zfU) u s):EP X pins Z Q u s:=by
 obtain⟨v,H2,I2,r2,⟨d,ob,u',e,nf,q⟩⟩:83:=h;exact(bC,v,_,I2.thaw e nf,r2,q)
theorem xi3 {e:Expr}{t:TE} (h:PE X e t):PE X e (iO,Q,t Z H fun v H2=>zfU):=fun pins s Z H Q I q =>
 thn (h pins s Z H _ I q) (tP,xrq z)
#check _
#check L2
namespace PySem.F
theorem xl_plain_dict_loop:plainId "dict.update.loop"=true:=aP
theorem xl_entry_dict_loop:entryFor table "dict.update.loop"=some Builtin.«dict.update.loop»:=entryFor_of_tree (by kernel_rfl)
theorem xl_list_nokeys:Ny "list" "keys" none:=U5
#check PySem.F
namespace L2
open PySem PySem.Spec PyProof.Rows XL
variable {q0:Bool}
theorem xpw {prog:Program}{w:World}{A:Around}{E:bj}{s:Shared}{a:Addr}{o:Obj}{xs:gL}{k:Nat}{Q:FS}
    (hx:znB) (hc:o.cls=Sb) (hdat:o.data=.seq xs k) (hd:zeq) (hA:xX)
    (h:∀ h' tk,(mC fY qv)->Q none Ci):wpAny aS A (getAttr? aA "keys") Q E s:=by
  ext zcO dat;simp only at hc hdat hd;subst hc hdat hd;ext xM d;have hT:∀ tk',(⟨hp,g,d,tk',os⟩:Shared).TypeIs aA "list":=fun _=>dY hx
  show(ae,f1,sub_AttributeError,f3,QF.lookup);show(ae,f4,QF.bind (.ref a),f5,am_list_getattr_none);unfold getAttr? getAttrBy? getAttrBy
  repeat (any_goals (first|ext d8|exact hT _|((with_reducible show wpAny _ _ (call (Qj "list.__getattribute__") _ _) _ _ _); refine call_meets QF (hT _) am_entry_list_getattribute (F.args_list_getattribute_2 _ _) (meets_getattribute_miss_list a xs k sl "keys" _ F.xl_list_nokeys aP zdx) ⟨hx,hA,cI h' tk' e hx'⟩)|wp_step))
  show(Gk,t',u',he,hx'.there)
  have hk:=hx'.of.keeps;show wpAny _ _ (getattributeRaised _ _ _ _ _ _ _) _ _ _;unfold getattributeRaised
  repeat (any_goals (first|ext d8|wp_step))
  exact h _ _ hk
section
variable {X:Cx}{pins:List (Addr × Obj)}{Z:St}{H:Hp}{s:Shared}{a:Addr}{y v:V}{u r:Value}{A:Around}{E:Value->Shared->Prop}
theorem xqe {H':Hp}{Q:vv} (hu:zcE) (I:aq) (g:DPut H a y v H') (ry:gS) (rv:RelV v r) (h:PH sV) :
    wpAny aJ A (dictSet a u r) Q E s:=by
  rcases g with⟨kvs,k,e,ey,l,eH⟩|⟨kvs,k,b,e,ey,eb,l,eH⟩
  . subst ey eH
    obtain⟨z,hd,⟨vs,rel,dd⟩⟩:43:=xfl I.hok e;show(zfK,wpAny_dictSet_pairs (hsz:=hz) CN dd NA);ext zfk
  . subst ey eH
    cases Xb;obtain⟨z,hd,⟨xs,rel,dd⟩⟩:43:=xn4 I.hok e;show(zgx,wpAny_dictSet_heap (hsz:=hz) (show (VY).room A from hu) EC dd NA);obtain⟨q,es,ep,hq,h2,h3,h4,_,h5⟩:106:=dd';refine xfc I BT hs SG ⟨hl,hd,_,(rel.put k eb rv).keeps (aI c ys ec),⟨105,q,es,ep,hq,h2,h3,h4,h5⟩⟩;show(ir,xd1 ec e gb,ec)
theorem DPut.stay {d b:Addr}{H':Hp}{o:HO} (g:DPut H d y v H') (e:ax b o) (n1:∀ kvs,o≠ze) (n2:∀ kvs,o≠.dT kvs):H' b=some o:=by
 rcases g with⟨kvs,k,e2,_,_,rfl⟩|⟨kvs,k,b2,e2,_,_,_,rfl⟩
 .show(bI,xg (xd1 e e2 (n1 _)),e)
 .show(bI,xg (xd1 e e2 (n2 _)),e)
theorem DPut.free {d b:Addr}{H':Hp} (g:DPut H d y v H') (e:dz):Bw:=by
 rcases g with⟨kvs,k,e2,_,_,rfl⟩|⟨kvs,k,b2,e2,_,_,_,rfl⟩
 .show(bI,kn (xb e2 e),e)
 .show(bI,kn (xb e2 e),e)
#check _
inductive xd7 (d:Addr):Hp->(mF KZ)
 | nil {H:Hp}:xd7 d H [] H
 | cons {H H1 H2:Hp}{y v:V}{r:KZ}:DPut H d y v H1->xd7 d H1 r H2->xd7 d H ((y,v)::r) H2
theorem xhb {X:Cx}{pins:bc}{Z:St}{A:Around}{R:R7} (hh:A.in1.handled=none) (hu:A.in1.units<cLine) {l it d:Addr} :
    ∀(ps:Em) (pre:ag) (j:Int) (H H2:Hp) (s:Shared),aq->(ax l (.lst (pre++(RR,.ref aK))))->V1->xd7 d H (ps.map (·.2)) H2 ->
      s.heap.IsListIter it l pre.length->FpOk X pins H it->(∀ s',(cT H2 s')->R (.ok (.ret .none)) s') ->
      codeAny aJ A (.builtin "dict.update.loop" (nU [dF,qX,rawInt j,.none])) R s
  | [],pre,j,H,H2,s,I,hl,hp,dp,st,fo,fin=>by
    cases dp;obtain⟨z,its,n,r,hl2,e⟩:=I.lstM hl;obtain⟨f0,f1,f2,f3,f4,f5⟩:46:=fo;ext zgL;show(wF,wpAny _ A.in1 (sr>>=_) _ _ s,Wa hh st (vW e gs) (by simp at hl2 ⊢; omega) (am h' eb));show wpAny _ A.in1 (Builtin.Dict.addKeywords d []>>=_) _ _ _;exact Zc (Zk (Zk (fin _ (I.turned (t':=s.toks) uH f0 f1 f3 f4 f5))))
  | (a,y,v)::ps,pre,j,H,H2,s,I,hl,hp,dp,st,fo,fin=>by
    have fo':=fo;obtain⟨f0,f1,f2,f3,f4,f5⟩:46:=fo;cases dp with
    | @cons _ H1 _ _ _ _ g dp =>
    obtain⟨z,its,n,r,hl2,e⟩:=I.lstM hl;show(af,u,hu1,ru,r.get (i:=pre.length) (x:=aA) ah);show(cQ,u=qi,ru);ext zgL;show(wF,wpAny _ A.in1 (sr>>=_) _ _ s,QT st (vW e gs) (x:=aA) (by simpa using hu1) (aI h' st' sb));show(zM,gJ,I.turned (t':=s.toks) (ux,(sb.2 b hb).trans e) f0 f1 f3 f4 f5);obtain⟨z2,ts,rt,ot,et,ct,nt,dt⟩:=I1.hok a _ (hp _ Zn);obtain⟨uk,uv,rfl,rk,rv⟩:83:=xkk rt;show wpAny _ A.in1 (holding fF _>>=_) _ _ _;ext Se;refine Zc (wpAny_tryCatch ?_);unfold Builtin.Dict.pairItems;show(bm,(Qw (T:="tuple") ⟨ot,et,ct⟩ ?_));rw[az ap];show(bm,Wf et dt (Zk ?_));show wpAny _ A.in1 (holding [uk,uv] (dictSet d uk uv)) _ _ _;have ob:∀ b∈rW,(Vy qv):=fun b hb=>by
      show(zhZ,id st')
    have I1':=I1.pinned (fp:=rW) (fun b hb=>by
      ext sR;exact fo') ob
    refine ZW (xqe hu I1' g rk rv (am s' I2));ext zlc;have fo2:FpOk X pins H1 it:=⟨46,g.free f0,f1,f2,f3,f4,f5⟩
    have st2:s'.heap.IsListIter it l (pre++[V.ref a]).length:=by
      rw[Zs];exact st'.at (zW,(I2.pin (it,o) (Z6 _ (Z6 _ (xdl ah e)))).1)
    refine xhb hh hu ps (pre++[V.ref a]) hV H1 H2 s' I2.unpinned ?_ (am p hp') dp st2 fo2 fin
    . have z:=g.stay hl N7 N7
      rw[z];simp
    . exact g.stay (hp p (Zj _ hp')) N7 N7
inductive xt3 (xs:ag) (H:Hp) (Q:VK):Prop
 | mk (l:Addr) (ps:Em) (e_:xs=[bQ]) (r_:(ax l (.lst (ps.map zbY)))/\V1/\∀ d,(bz d)->∃ e H2,(e=.dK []\/e=.dT [])/\xd7 d (d4 d e) (ps.map (·.2)) H2/\Q dF H2)
theorem xc8 {X:Cx} (hc:iT) (hu:X.A.units+3<cLine):xcg X Bu xt3:=by
 intro pins s Z H xs us Q I r h;obtain⟨l,ps,rfl,hl,hp,q⟩:=h;ext Xr l;refine callType_codes (Q₁:=zio Mw) F.kt_called_dict (F.kt_typeCall_dict_1 _) F.entry_dict_init (kt_code_dict_new _ yW) ?_;rintro obj s₁ ⟨rfl,rfl⟩;obtain⟨e,H2,he,dps,q2⟩:83:=q s.heap.objs.size I.fresh;have I1:cT znT { s with heap:=Mw }:=by
  refine I.laid (t':=s.toks) (jG ui) bp ?_;rcases he with rfl|rfl
  .exact xhy s.heap I.big
  .exact xlo s.heap I.big
 have hT:(Shared.mk Mw s.gens s.drawn s.toks s.os).TypeIs eZ "dict":=FU
 have nl:l≠s.heap.objs.size:=fun z=>by
  show(uw,z,I.fresh,hl,hl)
 show(uu,hl1,upd H s.heap.objs.size e l,.lst (ps.map zbY),cS nl hl)
 obtain⟨z,its,n,rr,hll,el⟩:=I1.lstM hl1;show(fE,hT,F.args_dict_init_2 _ _);unfold Builtin.«dict.__init__»;ext lY;unfold Builtin.Dict.selfAndRest;show(bm,Qd hT ?_);show wpAny _ _ (pure (s.heap.objs.size,[Zr l])) _ _ _;ext nB;show wpAny _ _ (Builtin.Dict.updateFrom "dict.__init__" s.heap.objs.size bQ [] .none) _ _ _;unfold Builtin.Dict.updateFrom;show(bm,Qw (T:="list") (dY el) ?_);rw[az ap];show(bm,xpw el rfl rfl rfl gO (aI h' tk hk));have I2:=I1.kept (h':=h') (t':=tk) hk;show wpAny _ _ (rule _>>=_) _ _ _;refine Zc (wpAny_rule ?_);show(bm,(YV (vW,hk _ _ el,gs) ?_));ext zlc;show(cA,I3,cT znT _,I2.kept (t':=tk) (h':=h'.push (eP,"list_iterator",.fields #[bQ,tN])) zo,xhb (A:=X.A.in1) gO (yD,X.A.units+1+1,cLine) ps [] 0 _ H2 _ I3 (by simpa using hl1) (am p hp') dps ?_ ?_ (am s' I'))
 .rw [ku (hp p hp') I.fresh];exact hp p hp'
 .exact qH
 .exact I2.fpOk (Zl _) (I2.hok.fresh (Zl _))
 .exact eG (cN,.ref _,H2,I',q2)
theorem xgn {X:Cx}{e:Expr}{t1 t2:TE} (h1:PE X e t1) (h2:PE X e t2):PE X e (iO,Q,t1 Z H Q\/t2 Z H Q):=fun pins s Z H Q I h=>h.elim (h1 pins s Z H Q I) (h2 pins s Z H Q I)
noncomputable def Itrs (lo d:Int) (n:Nat):It:=(zgW,.int (lo+cG*d))
theorem xmf {P:Program}{w:World}{K:Zd}{tg:Expr} (it:Addr) (lo d:Int) (n:Nat):Turn P w K tg zdU rW it (zig d) where
 mem:=ah
 obj:=fun i h st b hb=>by
  ext sR;exact⟨_,st,fun v z=>by
   ext MW⟩
 keep:=Ri RB
 item:=by
  intro X hP hw hK hc i pins s Z H E I hf st hg;ext iE;obtain⟨f0,f1,f2,f3,f4,f5⟩:46:=j0;show(zgz,d,W.item i s _ _ hg st fun v h' tk hv st' kk=>?_);show(zM,Ci,I.turned (ux,kk b o qy e) f0 f1 f3 f4 f5);exact(c9,xgr (s:=Ci) (n:="range_iterator") st' rfl rfl ap ⟨85,.int (lo+cG*d),H,I1,fR t,yW,st',Fe⟩)
 done:=by
  intro X hP hw hK hc i pins s Z H E I hf st hg;ext iE;obtain⟨f0,f1,f2,f3,f4,f5⟩:46:=j0;show(zhg,I.turned (t':=s.toks) uH f0 f1 f3 f4 f5)
 self:=zhn
theorem xff (a b:Int):Builtin.Range.rangeSize a b (-1)=(iY,b,a,a-b,0):=by
 unfold Builtin.Range.rangeSize;ext dB ap;simp only[Int.neg_neg,Int.ediv_one];ext lQ
theorem xn8 {a b:Int} (ha:-kY<=a) (ha':a<kY) (hb:-kY<=b) (hb':b<kY):Builtin.Range.small a b (-1)=true:=by
 unfold Builtin.Range.small;rw[xff];simp only[Builtin.Range.rangeFitsLong,ZM,Bool.or_eq_true,decide_eq_true_eq,beq_iff_eq,(sJ,¬ ((bA,-1)>0)),if_false];ext lQ
section
variable {X:Cx}{tg:Expr}
theorem xjk {pins:bc}{Z:St}{H:Hp}{s:Shared}{R:LB}{E:bj}{lo hi d:Int}{n:Nat}{t u v:Tok}{tk:Nat} (I:aq) (sm:Builtin.Range.small lo hi d=true) (sz:(V9 d)=n)
    (q:R zdU H):wpAny aJ X.A zpo zak E (rX,Ee d):=by
  refine wpAny_pyIter_range (IsRange.new ..) sm ?_;have I1:iz (rX,Ee d):=I.kept zo;refine⟨121,zaJ,[zaJ],_,_,⟨66,H,rfl,
    zdQ zo,xmf _ lo d n,?_,gP,q⟩⟩
  . have e1:lo+rq*d=lo:=ah
    have e2:(dM n)-rq=(V9 d):=jX sz
    show IsRangeIter _ _ (lo+rq*d) ((dM n)-rq) d;ext cY e1 e2 iJ
  . ext UM zaJ
noncomputable def xwz (ta:TA):TI:=(GN,∃ i j d:Int,ziE [cB,CL,.int d] ((d=1/\R (Itrs i 1 (fD j i)) H1)\/(d=-1/\R (Itrs i (-1) (fD i j)) H1)))
theorem xje {a b c:Expr}{ta:TA}{p pos:Pos} (hg:zdu) (hm:zds) (ha:PA X [a,b,c] ta) (hs:Ii [a,b,c] [wP EE,wP Bd,(wP,jx c)]:=by rfl) (hs2:Ii [b,c] [wP Bd,(wP,jx c)]:=by rfl) :
    WD [a,b,c] (xwz ta):=by
  intro pins s Z H R I h;show(VQ,(Je (thn (ha pos pins s Z H _ I h) fun us s1 ⟨vs,H1,I1,r1,q1⟩=>?_) (cK hs hs2) (fh hs2)));obtain⟨i,j,d,e,⟨q1,q2,q3,q4⟩,q⟩:103:=q1;ext cZ;cases r1 with
  | cons r rr =>
    cases rr with
    | cons r' rr =>
      cases rr with
      | cons r'' rr =>
        ext zpi;ext ia t'' r'';rcases q with⟨rfl,q⟩|⟨rfl,q⟩
        . exact call_range_3 ap (xjk I1 (small_one q1 q2 q3 q4) (Kf rangeSize_one) q) (Y9 (QU ap))
        . exact call_range_3 ap (xjk I1 (xn8 q1 q2 q3 q4) (Kf xff) q) (Y9 (QU ap))
#check _
theorem xg0 {xs:ag}{us:aQ} (r:kL) {j:Nat} (h:j<us.toArray.size):∃ x,(b9 xs x)/\RelV x us.toArray[j]:=by
 have hl:=r.length;have hj:j<xs.length:=HW h
 show(af,u,h1,h2,r.get (x:=xs[j]) C5);show(fE,xs[j],C5);have:us.toArray[j]=u:=by
  have z:=Zi.mp h1;obtain⟨z1,z2⟩:=z;simpa using z2
 ext aB this h2
theorem xgk {A:Around}{k:Nat} (hr:Bq):zeK 3:=d7 hr.un
theorem xb1 {A:Around}{k:Nat} (hr:Bq):zeK 20:=d7 hr.un
theorem xqa {X:Cx}:(zeI,∃ a kvs,aR xs fF F7 (lW kvs.length)):=by
 intro pins s Z H xs us Q I r h;obtain⟨a,kvs,rfl,e,q⟩:83:=h;ext Fa rx r;show(cQ,u=qi,rx);exact xxp I (.inl e) fun t s' I'=>(wO,pK,I',fR t)
inductive Ents (w:World):bM zcd aL
 | nil:Ents w [] []
 | cons {k:Key}{x:V}{key val:Value}{h:Int}{es:zcd}{kvs:aL} (hh:h=keyH w k) (hk:RelV (kV k) key) (hv:RelV x val) (r:Ents w es kvs):Ents w (⟨h,key,val⟩::es) ((k,x)::kvs)
noncomputable def xod (w:World) (K:Zd) (D:Addr) (kvs:aL):Prop:=(Ik D)/\∃(es:kI) (ep:Nat),(A6 D ⟨Bu,none,Sc,#[]⟩)/\Ents w es.toList kvs/\(kvs.map (·.1)).Nodup
theorem Ents.ok {P:Program}{w:World}{es:zcd}{kvs:aL} (h:Ents w es kvs):∃ vs,jW/\Pairs tV es vs/\∀ e∈es,∃ k,(tV).is k e.key=true/\e.hash=(tV).hash k:=by
 induction h with
 | nil=>exact(bi,[],.nil,.nil,fun e z=>nomatch z)
 | @cons k x key val h es kvs hh hk hv _ ih =>
  ext bF vs a b c ih;refine(bi,(k,val)::vs,dJ (eG hv) a,.cons (xdb hk) rfl b,am e he);rcases dU he with rfl|z
  .exact ⟨k,xdb hk,hh⟩
  .exact c e z
section
variable {X:Cx}{pins:List (Addr × Obj)}{Z:St}{H:Hp}{s:Shared}{D:Addr}{kvs:List (Key × V)}
theorem xri (I:aq) (g:xod X.w X.K D kvs):∃ vs,jW/\s.heap.DictOf lI D vs:=by
 obtain⟨_,es,ep,l,en,nd⟩:=g;show(bF,vs,a,b,c,en.ok (P:=X.prog));show(dc,vs,a,⟨106,_,es,ep,I.kIn _ _ l,Ry,rfl,fun e he=>c e (by simpa using he),b,?_⟩);show(ja,a.keys,nd)
noncomputable def tGIn (kvs:aL) (neg:Bool) (ty:TE):TE:=(Xe,∃ k:Key,y=qh/\Q (.bl (if neg then !(o4).isSome else (o4).isSome)) H1)
theorem xpj {i:Expr}{ty:TE}{x:Str}{p:Pos} (hi:Fc) (hg:rp) (hm:Ij (.ref D)) (g:xod X.w X.K D kvs) (hd:mP:=by decide):PC X .NotIn i BP (tGIn kvs true ty):=by
 intro pins s Z H Q I h;show(kD,hi pins s Z H _ I h,fun iv s1 ⟨y,H1,I1,ry,k,ey,q1⟩=>thn (xg8 (v:=.ref D) hg hm rfl hd pins s1 Z H1 (jN,H2,v=.ref D/\H2=H1) I1 yW) fun u s2 ⟨x,H2,I2,rx,e1,e2⟩=>?_);subst ey e1 e2;show(cQ,u=Zr D,rx);show(af,vs,rel,dd,xri I2 g);show(zpS,g.1);rw[<- Id];exact(cN,rN,_,I2.tok _,q1)
#check _
theorem xhc {ns:bK}{f:KY} (h:∀ j (l:j<ns.length),f j=ns[j]):∀ j,j<=ns.length->preSum f j=(S9).sum:=by
 intro j
 induction j with
 | zero=>ext Gp
 | succ j ih =>
  intro l;have l':j<ns.length:=l;show preSum f j+f j=_;rw[ih (JJ l'),h j l',ZS,Zb l',List.sum_append];simp
theorem xvj {ns:bK} (B:Int) (hb:∀ n∈ns,-B<=n/\n<=B) (h0:0<=B):-(ns.length*B)<=ns.sum/\ns.sum<=ns.length*B:=by
 induction ns with
 | nil=>simp
 | cons a r ih =>
  have:=ih (zt,hb n (Zj _ hn));have:=hb a Zn;rw[Jc,ZL];have e:(dM Kc)*B=r.length*B+B:=by rw[Int.natCast_add,Int.add_mul]; simp
  rw[e];omega
inductive xw8 (K:Zd) (xs:ag) (H:Hp) (Q:VK):Prop
 | mk (p:Addr) (ns:bK) (e_:xs=[cq]) (r_:SqL K H p zdE/\(ns.length<=1000/\∀ n∈ns,-1000000<=n/\n<=1000000)/\(lW ns.sum))
theorem xj4 {X:Cx} (hc:iT):xcg X (.builtin "sum") (xw8 X.K):=by
 intro pins s Z H xs us Q I r h;obtain⟨p,ns,rfl,hs,⟨hlen,hb⟩,q⟩:=h;ext Xr p;obtain⟨its,vi,⟨o,n,g,c,_,d⟩,_⟩:63:=I.list hs;have hi:IntsAre its ns:=xoh vi;ext zhq
 show(i5,zs,hi.allInts.items);have en:ns=zs.toList.map (·.1):=by rw[<- hi.numsOf,<- nums_intItems,<- e]
 rw[e] at il;have sz:zs.size=ns.length:=by rw[en,Za,JE]
 have hat:∀ j (l:j<ns.length),numAt zs j=ns[j]:=fun j l=>by
  rw[numAt_eq,<- en];simp[List.getD,l]
 have bd:∀ j,j<=ns.length->InLong (S9).sum:=fun j l=>by
  have:=xvj 1000000 (ns:=S9) (zt,hb n (Yo hn)) ap;have hl:(S9).length<=1000:=qM J0
  unfold InLong;omega
 refine sum_intList gO il (Ge,dQ ?_) (cI h' tk t' hk)
 .rw [hat j aa];have:=hb ns[j] (List.getElem_mem _);unfold InLong;omega
 .show(bI,xhc hat hV aa,bd _ aa)
 .refine (bC,pK,H,I.kept hk,fR t',?_);rw[sz,xhc hat _ bp,Jf];exact q
inductive xw0 (K:Zd) (xs:ag) (H:Hp) (Q:VK):Prop
 | mk (p:Addr) (bs:yM) (e_:xs=[cq]) (r_:SqL K H p (bs.map V.bl)/\Q (.bl (bs.all id)) H)
theorem xvy {bs:yM}:∀{us:aQ},Vals (bs.map V.bl) us->us=bs.map Ye:=by
 induction bs with
 | nil=>intro us h; ext hJ h
 | cons b r ih =>
  intro us h;cases h with
  | cons h1 h2 =>
   have:=ih h2;ext rE;ext nZ h1;rfl
theorem xou {bs:yM}:(zdv).all Xx=bs.all id:=by
 have h:(zdv).map Xx=bs:=by
  apply List.ext_getElem
  .simp
  .intro i h1 h2
   simp[List.getD,h2]
 calc _=((zdv).map (fun i=>bs.getD i true)).all id:=fh List.all_map
  _=_:=fW h
theorem xp1 {X:Cx} (hc:iT):xcg X (.builtin "all") (xw0 X.K):=by
 intro pins s Z H xs us Q I r h;obtain⟨p,bs,rfl,hs,q⟩:=h;ext Xr p;obtain⟨its,vi,⟨o,n,g,c,_,d⟩,_⟩:63:=I.list hs;ext zhq
 show(nZ,xvy vi);have hlt:mU p:=Zv g;refine call_all_walk (YV il ?_);refine jw ⟨105,_,_,Xx,rfl,Walks.list (A:=X.A.in1) gO _ p (ZG hlt) (bs.map Ye).toArray,⟨qH,il.push _⟩,?_,aI h' tk hk⟩
 .intro i v s' Q' E' hP hQ
  simp only[List.getElem?_toArray,Zf,Zh] at hP;ext kh b hb hP;have:bs.getD i true=b:=wJ List.getD hb
  rw[<- this];exact Zk hQ
 .rw [Z7,Za,xou];exact(cN,rN,H,I.kept (old_kept hk),q)
section
variable {X:Cx}{pins:List (Addr × Obj)}{Z:St}{H:Hp}{s:Shared}{h':Heap}
theorem Inv.turnedL {t':Nat}{ch:ao} (I:aq) (k:yZ CH fY qv) (hf:∀ b∈ch,FpOk X pins H b):iz Cj:=by
 have nit:pW iH CH:=fun b u e z=>by
  have:=(hf b z).1;ext cE this e
 refine I.step (g':=s.gens) (d':=s.drawn) (ch:=ch) gP (OT,k b o hc e) (OT ⟨o.slots,k b o hc e⟩) (fun _ _ _ _ n=>n)
  (Af hc ⟨o,k b o hc e⟩) (fun _ _ e=>e) Pj zmt (am m hm) vN I.bare
 .obtain ⟨f0,f1,f2,f3,f4,f5⟩:46:=zn;exact bR f3 f1 f4 f5
 .obtain ⟨o,es,ep,ho,r⟩:102:=hm;exact(Bl,o,k _ o (aC,(hf _ z).2.1 rfl) ho,r)
 .refine (zeg).stay (zbK q) Sy Ex;rcases hc with z|z
  .show(bI,z,nit b u e)
  .exact nit c _ z
#check _
theorem xo3 {a b:Nat} (h:a≠b):(a:Addr)≠(b:Addr):=h
noncomputable def Ite (K:Zd) (a:Addr):It :=
 (Nb,∃ xs x,mW/\vx,v,∃ p x,(∀ xs,mW->vx)/\(aR,v,cq,jc,H'=(iB H p cB x)),zmP)
theorem xpq {P:Program}{w:World}{K:Zd}{elts:iF}{x1}{tpos:Pos} (e it l:Addr) (hei:e≠it) :
    Turn P w K r8 (Ite K l) [e,it] e (zkt,h.IsListIter it l i) where
  mem:=ah
  obj:=fun i h st b hb=>by
    obtain⟨⟨old,he⟩,⟨o1,e1,c1,d1⟩⟩:=st;ext Dp;rcases hb with rfl|rfl
    . ext zhx
    . ext Vq
  keep:=fun i h h' ⟨⟨old,he⟩,h1⟩ k=>(zpH,h1.at fun o z=>k it ah o z)
  item:=by
    intro X hP hw hK hc i pins s Z H E I hf st hg;ext iE;ext gQ xs x hq hx hg;ext bF its rv p hz1 qO;show(af,u,hu,ru,rv.get hx);ext VS;refine wpAny_pyNext_enum_item he h1 p.isList (x:=u) (by simpa using hu) hei fun h' ho hit' hT hsz hk=>?_;show(iG,zhc Ud);have elt:mU e:=Zv he;ext XG e elt;have kk:(yZ,b∉[e,it],fY,NF):=fun b o hb g=>by
      ext My;exact (hs'.2 b hb.1).trans (hk b o hb.1 hb.2 g)
    show(zM,zqW Ud,I.turnedL kk hf);ext Im ME;have hp:(Mq,#[.int i s.toks,u]):=(hs'.2 _ pne).trans hT;refine⟨85,eZ,N2 cB x,I1.adopt n0 I.sz nL nC nP (N1,[.int i s.toks,u],.cons gs (.cons ru .nil)),rfl,
      ⟨84,_,x,fun zs hz=>(av,I.list_inj hz hq,hx),rfl,n0,rfl⟩,?_,gP⟩
    . show(aO,zoh,hit'.at fun o y=>(hs'.2 it (Zx hei)).trans y)
    . obtain⟨o,ho⟩:∃ o,s.heap.get? b=some o:=by
        ext bF o1 e1 c1 d1 h1;ext Dp;rcases hb with rfl|rfl
        . exact fC he
        . exact fC e1
      rw[xg (ZG (Zv ho))];exact (hf b hb).1
  done:=by
    intro X hP hw hK hc i pins s Z H E I hf st hg;ext iE;ext af xs hq hl hg;ext bF its rv p hz1 qO;have e1:=rv.length;ext VS;refine wpAny_pyNext_enum_end gO he h1 p.isList jQ fun h' hx=>znU (cI b o hb g)
    ext My;exact hx b o hb.2 g
  self:=zik
noncomputable def xwk (K:Zd) (ta:TA):TI:=(GN,∃ a xs,(aR,vs,fF,En,R (Ite K a) H1))
section
variable {X:Cx}{elts:List Expr}{x1:_}{tpos:Pos}
theorem xen {a:Expr}{ta:TA}{p pos:Pos} (hg:Gl X "enumerate") (hm:qP "enumerate") (ha:Iz) (hs:Iv:=by rfl) :
    zko (xwk X.K ta):=by
  intro pins s Z H R I h;show(zhF,ha pos pins s Z H _ I h,fun us s1 ⟨vs,H1,I1,r1,q1⟩=>?_);obtain⟨l,xs,e,hq,q⟩:83:=q1;ext ML l;ext bF its rv p1 hz1 Su;refine call_enumerate_list p1.isList (bJ h' he h1 hsz hk);refine Q6 (s:=NM) he ?_;show(ay,I2,cT H1 NM,I1.kept (t':=s1.toks) hk,znd ⟨66,H1,rfl,I2,xpq _ _ l (xo3 aa),⟨fC he,h1⟩,gP,q⟩);have hb':s1.heap.objs.size<=b:=by
    ext Dp;rcases hb with rfl|rfl
    . exact YF _ 1
    . exact Zl _
  exact I1.fpOk hb' (I1.hok.fresh hb')
#check _
theorem xhs {K:Zd}{a:Addr}{xs:ag}{g:TG}{tb:TS}{D:Ends}{Z:St}{H:Hp} (Pv:zg) (h0:B3) (hl:Et zdC mW)
    (hs:∀ i x p Z H,(bb,vx,jc,tM,g cq Z (iB H p cB x) Al)) (hd:OE xs.length) :
    ∃ W:Nat->Nat->St->Hp->Prop,(∃ m,W 0 m Z H)/\∀ i m Z H,yJ ->
      ((Ite K a).stop i H/\tK)\/((Ite K a).go i H/\(wY (yr,(Ite K a).yld i H x H',Z,H',wV))):=by
  ext zgT;rintro i m Z H (⟨rfl,hi,p⟩:43);ext Dn zes
  . ext zki
    obtain⟨r,x',e1,rfl,hr,rfl⟩:84:=y;exact hs i x' r Z H (e1 _ q) hr p
  . ext zhj
#check L2
namespace L2
open PySem PySem.Spec PyProof.Rows XL
noncomputable def tMid (t:TS):TS:=(lU,∃ Pv:kU,t { D with nx:=Pv } Z H/\∀ σ' H',Pv σ' H'->D.nx σ' H')
theorem xcc {X:Cx}{st:Stmt}{t:TS} (h:SU):PS X st (tMid t):=by
 intro pins s Z H D I q;ext af Pv q1 q2 q;show(kD,(h pins s Z H { D with nx:=Pv } I q1),aI fl s1 z);cases fl with
 | next =>
  show(gQ,σ',H',I',r,z);exact(bw,σ',H',I',q2 _ _ r)
 | _=>exact z
#check L2
namespace XL
open PySem PySem.W
#check XL
namespace L2
open PySem PySem.Spec PyProof.Rows XL
variable {q0:Bool}
#check L2
namespace L2
open PySem PySem.Spec PyProof.Rows XL
#check L2
namespace L2
open PySem PySem.Calls PyProof PyProof.Rows
noncomputable def eU (e:Lq) (u:Value):Bool:=match absV u with|some y=>e y|none=>false
theorem xon {e:Lq}{y:V}{u:Value} (r:gS):eU e u=e y:=by unfold eU; rw[r.abs]
theorem xlk {e:Lq}:(PF,kL->us.any (eU e)=xs.any e)
 | _,_,.nil=>rfl
 | y::xs,u::us,vD=>by rw[Yq,Yq,xon r,xlk t]
theorem xi5:(PF,kL->∀ u∈us,∃ y∈xs,gS)
 | _,_,.nil=>fun u hu=>nomatch hu
 | y::xs,u::us,vD=>fun u' hu=>by
  rcases dU hu with rfl|hu
  .exact ⟨y,Zn,r⟩
  .show(eE,z,h1,h2,xi5 t u' hu);show(aE,z,Zj _ h1,h2)
#check L2
namespace PySem.F
#check PySem.F
namespace L2
open PySem PySem.Spec PyProof.Rows XL
variable {q0:Bool}
#check L2
namespace L2
open PySem PySem.Spec PyProof.Rows XL PySem.W
variable {q0:Bool}
theorem xiw {prog:Program}{w:World}{A:Around}{E:bj}{s:Shared}{a:Addr}{vs:aQ}{n:Nat}{P:eQ PySem.Fin}
    (h:zjM) (h2:2<=vs.length) (h64:vs.length<64)
    (hk:∀ s':Shared,s'.heap=(((s.heap.update a (JO (jr,#[]))).push (seqObj "tuple" vs.toArray 0)).push (seqObj "list" #[] 0))->s'={ s with heap:=s'.heap } ->
      wpAny aS A zqM (fun κ s''=>s''=s'/\KasT.kasWp (kas_ask prog w A κ vs) (kas_sort vs.length) (fun p s3=>s3=s'/\(zgs Vl)) s'') uM s') :
    wpAny aS A zjO P E s:=by
  ext xM d;ext zdR
  repeat (any_goals (first|ext d8|wp_step))
  have z:¬ vs.toArray.toList.toArray.size>sizeLine:=by
    simp;exact JJ (ZJ h64 ap)
  ext dB z;generalize zqM=kk at hk ⊢
  repeat (any_goals (first|ext d8|wp_step))
  have hk':=hk (zji,((M4).push (seqObj "tuple" vs.toArray 0)).push (seqObj "list" #[] 0)) rfl rfl;show(A5,hk',aI κ s'' z);ext i4 e z;ext cZ;show wpAny _ _ (StateT.run (iY,vs.toArray.size,2,pure (),sortRuns') _>>=_) _ _ _;ext dB jQ;show(bm,(Jk (kat_run (E:=E) (Q:=(mG,st',∃ p:c8,(au,p.size=vs.length,arrOf st'=Q1 (kas_item (vs.toArray.zip vs.toArray)) p,failedOf st'=none,s'=_,P (.done (.ret .none)) (zji,sortedHeap hp a vs Vl)))) rfl h2 h64 (fun p st' s' hp' e f q'=>⟨65,p,hp',e,f,q'.1,q'.2⟩) q) (aI r s' z) (tP z)));obtain⟨u,st⟩:=r;obtain⟨p,psz,e,f,rfl,q'⟩:65:=z;have al:a<hp.objs.size:=Zv h;have g1:(((M4).push (seqObj "tuple" vs.toArray 0)).push (seqObj "list" #[] 0)).get? a=some Xh:=by
    refine Pu;rw[JF _ h rfl];have z:((0:Nat) == vs.length)=false:=by
      cases vs with
      | nil=>simp at h2
      | cons=>rfl
    simp[JO,z]
  have e2:(cm (((fun x=>#[]) vs.toArray:gL).size == vs.toArray.size) n eX)=eX:=by
    rw[if_neg];simp;omega
  simp only[e2,f];have e3:Q1 (fun x=>x.snd) (arrOf st)=Vl:=by
    rw[e,Array.map_map]
    congr 1
    funext i;show (kas_item (vs.toArray.zip vs.toArray) i).snd=_;unfold kas_item;by_cases c:i<vs.length
    . simp[Zb c,c]
    . simp[ZV Op,c]
  simp only[e3]
  repeat (any_goals (first|ext d8|wp_step))
  have e4:(JO (jr zot) Xh).data.pastItsLine=none:=by
    show (if (zot).size>sizeLine+1 then _ else none)=none;rw[if_neg];rw[Array.size_map,psz];have:zZ vs.length:=ZJ h64 ap;omega
  rw[e4];ext nB;rw[f];show wpAny _ _ (cm (eX != eX) _ _) _ _ _;rw[aM ah];exact Zk q'
theorem xf4 {prog:Program}{w:World}{A:Around}{E:bj}{s:Shared}{it d:Addr}{i ep:Nat}{o:Obj}{es:kI}{en:DictEntry}{Q:FS}
    (st:s.heap.IsKeyIter it d i es.size ep) (hd:oB) (hx:o.ExactDict) (hdat:kN) (hi:aF es en)
    (h:∀ h',h'.IsKeyIter it d aH es.size ep->zbo->Q (some en.key) gJ):wpAny aS A sr Q E s:=by
  ext zfo;obtain⟨⟨c,dct,dat,sl⟩,hit,ci,di⟩:63:=st;ext zfS
  repeat (any_goals (first|ext d8|(with_reducible ext Tl)|(with_reducible ext Tk)|(with_reducible ext AR)|(with_reducible ext AQ)|wp_step))
  have e1:(X6 cG)=some en:=by
    ext cY vQ JM hi
  rw[e1]
  repeat (any_goals (first|ext d8|(with_reducible ext Tl)|(with_reducible ext Tk)|(with_reducible ext AR)|(with_reducible ext AQ)|wp_step))
  show(iG,Zk (h _ ?_ (Jn.update _ _ _)));refine(vW,JF _ hit rfl,?_);rfl
theorem xhd {prog:Program}{w:World}{A:Around}{E:bj}{s:Shared}{it d:Addr}{ep:Nat}{o:Obj}{es:kI}{Q:FS}
    (hA:xX) (st:s.heap.IsKeyIter it d es.size es.size ep) (hd:oB) (hx:o.ExactDict) (hdat:kN)
    (h:zor):wpAny aS A sr Q E s:=by
  ext zfo;obtain⟨⟨c,dct,dat,sl⟩,hit,ci,di⟩:63:=st;ext zfS
  repeat (any_goals (first|ext d8|(with_reducible ext Tl)|(with_reducible ext Tk)|(with_reducible ext AR)|(with_reducible ext AQ)|wp_step))
  have e1:(if (es.size:Int)<0 then none else es[(es.size:Int).toNat]?)=none:=by
    rw[vQ,JM];simp
  rw[e1]
  repeat (any_goals (first|ext d8|(with_reducible ext Tl)|(with_reducible ext Tk)|(with_reducible ext AR)|(with_reducible ext AQ)|wp_step))
  ext zeY
theorem xlc {prog:Program}{w:World}{A:Around}{E:bj}{s:Shared}{d:Addr}{ep:Nat}{o:Obj}{es:kI}{Q:bj}
    (hs:F6) (hd:oB) (hx:o.ExactDict) (hdat:kN)
    (h:HH eZ At):wpAny aS A (Kg d) Q E s:=by
  have ti:X4:=qg hd hx.1
  ext zcO dat;ext fO x1 x2 x3 hx;simp only at x1 x2 x3 hdat;subst x1 x2 x3 hdat;refine wpAny_pyIter_slot ti QM ?_;refine Jz QM ti F.entry_dict_iter ?_ (F.args_dict_iter_1 _);ext xM dr;unfold Builtin.«dict.__iter__»
  repeat (any_goals (first|ext d8|(with_reducible refine Qd ti ?_)|(with_reducible refine Jt hd rfl ?_)|(with_reducible refine J7 hd rfl ?_)|wp_step))
  exact(c9,bC _ _ FU ZX.lookup h)
theorem xst {prog:Program}{w:World}{d:Addr}{ep:Nat}{o:Obj}{es:kI} (hs:F6) (hx:o.ExactDict) (hdat:kN) :
    KdlSrc prog w "dict" d d es.size (d0,v,∃ en,(aF es en)/\v=en.key) (d9 AB) where
  type:=fun s h=>qg h hx.1
  there:=fun h e=>⟨Zv e,Zv e⟩
  keep:=fun h h' e k=>k d gT o e
  notList:=ap
  notTuple:=ap
  hint:=fun A E s Q h q=>kdl_hint_dict (qg h hx.1) q
  iter:=fun A s hA h=>by
    show(mE,dl,Zv h,⟨(eP,"dict_keyiterator",.fields Pw),(d0,h,h.IsKeyIter s.heap.objs.size d i es.size ep/\AB),fun E Q q=>xlc hs h hx hdat q,?_,rB _ iJ rfl,Zg _ h⟩);have dn:d≠s.heap.objs.size:=ZG dl;exact {
      sub:=fun b hb=>by
        have e:b=s.heap.objs.size:=qy
        rw[e];simp
      frame:=Ri ⟨st.1.at (zW,k _ ah o e),k _ ah _ st.2⟩
      item:=fun i s' Q E hi st q=>by
        refine xf4 st.1 st.2 hx hdat (Ju hi) fun h' st' sb=>q _ h' s'.toks (dY,Ju hi) ⟨st',(sb.2 d dn).trans st.2⟩ (ux ?_);exact (sb.2 b qy).trans e
      done:=fun s' Q E st q=>by
        refine xhd hA st.1 st.2 hx hdat fun h' eb=>q h' s'.toks (ux ?_);exact eb b o qy e
      self:=fun i s' Q E st q=>Wi st.1 q }
noncomputable def xdk:Key->Key->Bool
 | .inl a,.inl b=>cJ (a<b)
 | .inr a,.inr b=>cJ (a.cps.toList<b.cps.toList)
 | _,_=>false
noncomputable def lexK:dW->dW->Bool
 | [],[]=>false
 | [],df=>true
 | df,[]=>false
 | pY,jH=>if x=y then lexK xs ys else xdk x y
noncomputable abbrev shp (k:dW):yM:=k.map Sum.isLeft
theorem xt5 {a b:Str} (h:a.cps.toList=b.cps.toList):a=b:=by
 cases a;cases b;simp at h;rw[h]
theorem xp0 (x:Key):xdk x x=false:=by
 cases x with
 | inl a=>simp[xdk]
 | inr a=>exact Wj.irrefl a.cps.toList
theorem xrx {x y z:Key} (h1:xdk x y=true) (h2:xdk y z=true):xdk x z=true:=by
 cases x<;>cases y<;>cases z<;>simp only[xdk,Zz] at h1 h2
 .show(ae,a,of_decide_eq_true h1,b,of_decide_eq_true h2);exact decide_eq_true (Int.lt_trans a b)
 .exact Wj.trans _ _ _ h1 h2
theorem xpx {x y:Key} (hs:x.isLeft=y.isLeft) (ne:x≠y) (h:xdk x y=false):xdk y x=true:=by
 cases x with
 | inl a =>
  cases y with
  | inl b =>
   have h':¬ a<b:=of_decide_eq_false h;have n':a≠b:=fun e=>ne (fW e);exact decide_eq_true (gg,b<a)
  | inr b=>cases hs
 | inr a =>
  cases y with
  | inl b=>cases hs
  | inr b =>
   cases e:xdk (.inr b) (.inr a) with
   | true=>rfl
   | false=>show(dy,(fW,xt5 (Wj.total _ _ h e)),ne)
theorem xk0:∀ x:dW,lexK x x=false
 | []=>rfl
 | pY=>by
  unfold lexK;rw[cp];exact xk0 xs
theorem xnj:∀{x y z:dW},(bg,shp x=shp y,shp y=shp z,lexK x y=true,lexK y z=true,lexK x z=true)
 | [],[],_,_,_,h,_=>ff
 | [],df,_,h,_,_,_=>ff
 | df,[],_,h,_,_,_=>ff
 | df,df,[],_,h,_,_=>ff
 | pY,jH,z::zs,h1,h2,h3,h4=>by
  simp only[shp,Zo,Qz.injEq] at h1 h2;unfold lexK at h3 h4 ⊢;by_cases xy:x=y
  .subst xy;rw[cp] at h3;by_cases yz:x=z
   .rw [az yz] at h4 ⊢;exact xnj h1.2 h2.2 h3 h4
   .rw [aM yz] at h4 ⊢;exact h4
  .rw [aM xy] at h3;by_cases yz:y=z
   .subst yz;ext pU xy h3
   .rw [aM yz] at h4;have h5:=xrx h3 h4;show(aB,(lM,e,by ext uw e xp0 h5 h5),h5)
theorem xla:∀{x y:dW},shp x=shp y->x≠y->lexK x y=false->lexK y x=true
 | [],[],_,h,_=>absurd rfl h
 | [],df,h,_,_=>ff
 | df,[],h,_,_=>ff
 | pY,jH,h1,h2,h3=>by
  ext XT h1;unfold lexK at h3 ⊢;by_cases xy:x=y
  .subst xy;rw[cp] at h3 ⊢;exact xla h1.2 (fun e=>h2 (fW e)) h3
  .rw [aM xy] at h3;show(aB,(lM,e,xy e.symm),xpx h1.1 xy h3)
theorem xk3 {prog:Program}{w:World}{A:Around}{s:Shared}{b:Bool}{Q:yL}:∀(xs ys:dW) (us vs:aQ) (i:Nat),(bg,shp xs=shp ys,Vals (xs.map kV) us,Vals (ys.map kV) vs,Q (lexK xs ys) s,KatLex prog w A b false Q (us.zip vs) i s)
 | [],[],_,_,i,_,.nil,.nil,q=>kat_nil q
 | [],df,_,_,_,h,_,_,_=>ff
 | df,[],_,_,_,h,_,_,_=>ff
 | pY,jH,_,_,i,h,dJ ru r,dJ rv r',q=>by
  ext XT h;unfold lexK at q;cases x with
  | inl a =>
   cases y with
   | inr c=>cases h.1
   | inl c =>
    ext kH ru;ext ia t' rv;refine kat_cons (wpAny_eqBool_int ?_);unfold KatGo;by_cases e:a=c
    .ext cZ;rw[cp] at q;show(aB,az ah,xk3 xs ys _ _ aH h.2 r r' q)
    .rw [(jR,e (Qh.inj z))] at q;ext dB uJ;cases (b&&i == 0) with
     | true=>exact oneLt_int q
     | false=>exact kat_one _ _ (lt_int q)
  | inr a =>
   cases y with
   | inl c=>cases h.1
   | inr c =>
    ext kH ru;ext ia t' rv;refine kat_cons (wpAny_eqBool_str ?_);unfold KatGo;by_cases e:a=c
    .ext cZ;rw[cp] at q;show(aB,az ah,xk3 xs ys _ _ aH h.2 r r' q)
    .rw [(jR,e (Jd.inj z))] at q;ext dB uJ;cases (b&&i == 0) with
     | true=>exact oneLt_str q
     | false=>exact kat_one _ _ (lt_str q)
theorem xkd {prog:Program}{w:World}{A:Around}{E:bj}{s:Shared}{a:Addr}{vs:aQ}{n:Nat}{P:eQ PySem.Fin}
    (h:zjM) (h2:vs.length<2) (q':zgs vs.toArray) :
    wpAny aS A zjO P E s:=by
  ext xM d;rcases vs with _|⟨v,_|⟨v',r⟩⟩
  . ext zdR
    repeat (any_goals (first|ext d8|wp_step))
    show wpAny _ _ (pure (PUnit.unit,(Rl,(Fs).zip #[],#[],7,none))) _ _ _;ext nB;have e3:Q1 (fun x=>x.snd) (arrOf (Rl,(Fs).zip #[],#[],7,none))=#[]:=by
      show Q1 (jr x.snd) ((Fs).zip #[])=#[];simp
    simp only[e3];have g1:(((M4).push (seqObj "tuple" #[] 0)).push (seqObj "list" #[] 0)).get? a=some (seqObj "list" #[] (n)):=by
      refine Pu;rw[JF _ h rfl];rfl
    show wpAny _ _ (seqEpoch a>>=_) _ _ _
    repeat (any_goals (first|ext d8|wp_step))
  . ext zdR
    repeat (any_goals (first|ext d8|wp_step))
    show wpAny _ _ (pure (PUnit.unit,(Rl,((#[v]:gL).zip #[v]),#[],7,none))) _ _ _;ext nB;have e3:Q1 (fun x=>x.snd) (arrOf (Rl,((#[v]:gL).zip #[v]),#[],7,none))=#[v]:=by
      show Q1 (jr x.snd) ((#[v]:gL).zip #[v])=#[v];simp
    simp only[e3];have g1:(((M4).push (seqObj "tuple" #[v] 0)).push (seqObj "list" #[] 0)).get? a=some Xh:=by
      refine Pu;rw[JF _ h rfl];rfl
    show wpAny _ _ (seqEpoch a>>=_) _ _ _
    repeat (any_goals (first|ext d8|wp_step))
  . simp at h2
    omega
theorem xge {α:Type} (f:α->Addr):∀(es:b7),Vals (es.map (jr,V.ref (f x))) zns
 | []=>.nil
 | x::r=>.cons rfl (xge f r)
theorem xuv {H:Hp}{kvs:dC}{es:qL} (h:KT H kvs es):(∀ x∈es,(ax cF (.tup ((aN).map kV))))/\es.map (·.1)=kvs.map (·.1):=by
 induction h with
 | nil=>show(aO,lG,rfl)
 | @cons p x kvs es hp r ih =>
  ext La e1 e2 hp;show(cR,Km,by rw[Zo,Zo,ih.2,e1]);rcases dU hy with rfl|z
  .rw [<- e1];exact e2
  .exact ih.1 y z
theorem xqp {P:Program}{w:World}{H:Hp}{h:Heap} (ok:lL) {b:Bool}{sh:yM}:∀(es:qL),(∀ x∈es,(ax cF (.tup ((aN).map kV))))->(∀ x∈es,shp aN=b::sh) ->
    ∃ fs,KatTups h (es.map fun x=>Zr cF) fs/\fs.length=es.length/\∀ v∈fs,(cm,b,∃ i t,v=CO,∃ i t,v=Wp i t)
  | [],_,_=>bi [] KatTups.nil rfl lG
  | x::es,h1,h2=>by
    show(bF,fs,k,l,m,xqp ok es (tZ,h1 y tU) (tZ,h2 y tU));obtain⟨z2,ts,rt,ot,et,ct,nt,dt⟩:=ok cF _ (h1 x Zn);have s1:=h2 x Zn;obtain⟨k1,a1,v1⟩:=x;cases k1 with
    | nil=>cases s1
    | cons k0 kr =>
      ext XT s1;simp only[Zo] at rt;cases rt with
      | @cons _ u _ us ru rr =>
        refine(bi,u::fs,KatTups.cons et ct dt ah k,cM l,am v hv);rcases dU hv with rfl|hv'
        . cases k0 with
          | inl i =>
            ext kH ru;rw[az (va b s1.1.symm)];show(aE,i,t,rfl)
          | inr i =>
            ext kH ru;show(dB,show ¬ b=true by rw[<- s1.1]; simp);show(aE,i,t,rfl)
        . exact m v hv'
theorem xjc {X:Cx}{pins:bc}{Z:St}{H:Hp}{s:Shared}{h1:Heap}{tk:Nat}{Q:VK}{sh:yM} (es':qL) (I1:iz (rX h1))
    (hl:es'.length<64) (km:∀ x∈es',(ax cF (.tup ((aN).map kV)))) (shE:zmW) (hpos:zek) (hnd:(List.map (jr x.fst) es').Nodup)
    (q:∀(l:Addr) (ts:Ez),jD->zkF->(ts.map (·.1)).Pairwise Nd->UK) :
    wpAny aJ X.A.in1 (newList (es'.map fun x=>Zr cF)>>=fun l=>holding [l] (call (.builtin "list.sort") [l] [])>>=fun _=>ret l) (mG,fin,∃ v,fin=Fin.done (Flow.ret v)/\EP X pins Z Q v s') X.xe (rX h1):=by
  have hz:cV es'.length:=JJ (ZJ hl ap);show(dG,vals,Vals (es'.map fun x=>V.ref cF) qp,xge (jr cF) es',I2,I1.lnew (t':=tk) vals (gE hz));show(bm,wpAny_newList ?_ (gE hz));have fr:bz h1.objs.size:=I1.fresh;have gl:(U3).get? h1.objs.size=some (seqObj "list" (qp).toArray 0):=iJ;show(vH,Jz slot_list_sort (dY gl) entry_list_sort ?_ (args_list_sort _));show(ae,J1,I2.lset (l:=h1.objs.size) (its:=qp) (its':=[]) (ys:=[]) (f:=SC) (t':=tk) xj gl rfl .nil fV,J2,J1.kept (t':=tk) (h':=(((U3).update h1.objs.size (JO SC)).push (seqObj "tuple" (qp).toArray 0)).push (seqObj "list" #[] 0)) (jG,Zg _ ui));obtain⟨z9,its9,n9,r9,hl9,e9⟩:=J2.lstM xj;have done:∀(ts:Ez),zkF->(ts.map (·.1)).Pairwise Nd ->
      EP X pins Z Q (.ref h1.objs.size) (rX,sortedHeap U3 h1.objs.size qp (WG).toArray):=by
    intro ts pm pw;have tl:ts.length=es'.length:=cK pm.length_eq Za
    have J3:=J2.lset (l:=h1.objs.size) (its:=its9) (its':=WG) (ys:=ts.map fun t=>V.ref t.2) (f:=fun _=>(WG).toArray) (t':=tk) xj e9 rfl (xge (fun t=>t.2) ts) (nD Za tl hz);rw[xed,xed] at J3;exact(cN,.ref h1.objs.size,_,J3,q _ ts fr pm pw)
  by_cases few:es'.length<2
  . refine xkd gl (gE few) (c9,Zk Cn)
    have:=done (es'.map fun x=>(aN,cF)) Tf ?_
    . ext bO Zw this this
    . match es',few with
      | [],_=>ext gW
      | [x],_=>exact List.pairwise_singleton _ _
      | _::df,h=>ext dy h ah
  . refine xiw gl Cl (gE hl) (aI s' es1 es2)
    obtain⟨b,sh0,rfl⟩:∃ b sh0,sh=b::sh0:=by
      cases sh with
      | nil=>simp at hpos
      | cons b r=>show(aE,b,r,rfl)
    rw[es1] at es2;subst es2;have km2:∀ x∈es',(i0 (d4 h1.objs.size (.lst (es'.map fun x=>V.ref cF))) h1.objs.size (.lst []) cF (.tup ((aN).map kV))):=fun x hx=>by
      rw[ku (km x hx) fr,ku (km x hx) fr];exact km x hx
    show(bF,fs,kt,fl,fm,xqp J2.hok es' km2 shE);show(cA,few',2<=es'.length,aa,kat_kind (T:=(cm,b,eY "int",eY "str")) kt aa (am v hv) (by cases b<;>rfl) Co)
    . have z:=fm v hv
      cases b with
      | true =>
        show(ziB,"int")
      | false =>
        show(ziB,"str")
    rw[Za];have eAt:∀ i,EB->(aF es' qo):=fun i hi=>by
      rw[Q4,Zb hi];rfl
    have eM:∀ i,EB->qo∈es':=(lv,Zm (eAt i hi));have vAt:∀ i,EB->(qp).getD i .none=.ref (aW qo):=fun i hi=>by
      rw[Q4,Zf,eAt i hi];rfl
    show(cA,shI,∀ i j,EB->j<es'.length->shp (qo).1=shp zlN,fun i j hi hj=>(cK,shE _ (eM i hi),shE _ (eM j hj)),Srt.sort_wp (lt:=(d0,j,lexK (qo).1 zlN)) ⟨(lv,xk0 _),fun i j k hi hj hk=>xnj PL (shI j k hj hk),fun i j hi hj ne=>xla PL fun e=>ne ?_⟩ (fun i j hi hj Q' q'=>?_) few' fun p arr srt=>(lX,Zk Cn))
    . have e1:(es'.map (·.1))[i]?=(es'.map (·.1))[j]?:=by rw[Zf,Zf,eAt i hi,eAt j hj]; exact congrArg some e
      exact (List.getElem?_inj (gE hi) hnd).mp e1
    . show wpAny _ _ (keyLt' _ ((qp).getD i .none) ((qp).getD j .none)) _ _ _
      rw[vAt i hi,vAt j hj];obtain⟨_,ti,ri,oi,ei,_,ni,di⟩:=J2.hok _ _ (km2 _ (eM i hi));obtain⟨_,tj,rj,oj,ej,_,nj,dj⟩:=J2.hok _ _ (km2 _ (eM j hj));have l1:=Vals.length ri;show(ae,l2,Vals.length rj,l3,vz PL);simp only[Za] at l1 l2 l3;refine kat_lt ei di ej dj ?_;show(aB,uR jQ,xk3 _ _ _ _ 0 PL ri rj q')
    have pl:∀ i∈p.toList,EB:=fun i hi=>by
      show(wz,(Array.Perm.mem_iff arr.pm).mp (Array.mem_toList_iff.mp hi))
    have:=done (p.toList.map fun i=>((qo).1,aW qo)) ?_ ?_
    . rw[Zw] at this
      have e2:(p.map (jq,(qp).getD i .none))=(p.toList.map ((fun t:dW × Addr=>Zr t.2)∘(jq ((qo).1,aW qo)))).toArray:=by
        rw[<- Array.toList_inj,Array.toList_map];exact JD (lv,vAt i (pl i hi))
      ext aB e2 this
    . have e3:(es'.map (jr (aN,cF)))=(Z1 es'.length).map fun i=>((qo).1,aW qo):=by
        refine YY (bZ i);by_cases c:EB
        . rw[Zf,eAt i c,Zf,Yb c]
          rfl
        . rw[ZV Cl,ZV jQ]
      show(qj,e3,Yr.map _ ?_);have:=Array.Perm.toList arr.pm;ext IR
    . rw[Zw,Ja,JB]
      intro i j hi hj hij;have z:=srt i j hij (by rw[<- arr.sz]; simpa using hj);have gi:Srt.g p i=p.toList[i]:=Srt.g_at (by rw[<- JG]; exact Zb hi);have gj:Srt.g p j=p.toList[j]:=Srt.g_at (by rw[<- JG]; exact Zb hj);ext tu gi gj
inductive xqy (xs:ag) (H:Hp) (Q:VK):Prop
 | mk (d:Addr) (kvs:dC) (sh:yM) (e_:xs=[dF]) (r_:(oS d)/\kvs.length<64/\(∀ p∈kvs,shp aK=sh)/\zek/\∀(l:Addr) (ts:Ez),jD->(∀ t∈ts,(ax t.2 (.tup (t.1.map kV))))->(ts.map (·.1)).Perm (kvs.map (·.1))->(ts.map (·.1)).Pairwise Nd->UK)
theorem xli {X:Cx} (hc:iT):Eu "sorted" xqy:=by
 intro pins s Z H xs us Q I r h;obtain⟨d,kvs,sh,rfl,hd,hl,hsh,hpos,q⟩:=h;ext zpa;obtain⟨z,hsys,⟨es',rel,dd⟩⟩:43:=xn4 I.hok hd;obtain⟨o,es,ep,ho,hx,hdat,hes,hkk,hnd⟩:106:=dd;have ln:=YJ rel;have esz:es.size=es'.length:=by rw[<- JE,hes,Za]
 show(zfa,wpAny _ _ zow _ _ _,(kdu_collect (xst hsys hx hdat) gO ho (by rw[esz,<- ln]; exact z) (bJ h1 tk acc keep items)));have acl:acc.toList=qp:=by
  refine YY (bZ j);obtain⟨i1,i2⟩:=items;by_cases c:j<es'.length
  .have c':j<acc.size:=nD i1 esz c
   have e:(b9,acc,acc[j]):=Ju c';show(af,en,he,hv,i2 j acc[j] e);rw[JG,e,hv];have he':b9 es.toList en:=av JG he
   rw[hes,Zf,Zb c] at he';rw[Zf,Zb c];have:=ZE.inj he';rw[<- this];rfl
  .rw [ZV (by rw[JE,i1,esz]; omega),ZV Cl]
 rw[acl];have I1:iz (rX h1):=I.kept keep;obtain⟨km,ke⟩:=xuv rel;have shE:zmW:=fun x hx=>by
  have m:aN∈kvs.map (·.1):=Oe ke Kq
  show(af,p,hp,e,Ze.mp m);rw[<- e];exact hsh p hp
 refine xjc es' I1 (dE ln hl) km shE hpos hnd fun l ts fr pm pw=>q l ts fr Kn ?_ pw
 .show(eE,x,hx,rfl,Ze.mp (pm.mem_iff.mp ht));exact km x hx
 .have:=pm.map (·.1);rw[Zw] at this;ext ja ke this
inductive xkr (xs:ag) (H:Hp) (Q:VK):Prop
 | mk (d:Addr) (ts0:Ez) (sh:yM) (e_:xs=[dF]) (r_:(ax d (.lst (ts0.map fun t=>.ref t.2)))/\ts0.length<64/\(∀ t∈ts0,(ax t.2 (.tup (t.1.map kV))))/\(∀ t∈ts0,shp t.1=sh)/\zek/\(ts0.map (·.1)).Nodup/\∀(l:Addr) (ts:Ez),jD->ts.Perm ts0->(ts.map (·.1)).Pairwise Nd->UK)
theorem xja {α:Type} (f:α->Addr):∀{es:b7}{us:aQ},Vals (es.map (jr,V.ref (f x))) us->us=zns
 | [],_,.nil=>rfl
 | x::es,_,dJ r rs=>by
  cases r;rw[xja f rs];rfl
theorem xk6 {X:Cx} (hc:iT):Eu "sorted" xkr:=by
 intro pins s Z H xs us Q I r h;obtain⟨d,ts0,sh,rfl,hd,hl,km,hsh,hpos,hnd,q⟩:=h;ext zpa;obtain⟨z,its,n,rv,hlen,el⟩:=I.lstM hd;have eits:=xja (fun t:dW × Addr=>t.2) rv;show(zfa,wpAny _ _ zow _ _ _,(wpAny_collect_seq d (T:="list") gT el rfl rfl (am h1 keep) (by rw[Z7,eits,Za]; exact JJ (ZJ hl ap))));have I1:iz { s with heap:=h1,toks:=s.toks }:=I.kept keep;have e0:its.toArray.toList=(zlb).map fun x=>Zr cF:=by
  rw[Zw,eits];rfl
 show(qj,e0,xjc zlb I1 (gE hl) tz tz hpos (av Zw hnd) fun l ts fr pm pw=>q l ts fr ?_ pw)
 .ext sT t ht hx;exact km t ht
 .ext sT t ht hx;exact hsh t ht
 .rw [Zw] at pm;have e1:ts0.map ((fun x:dW × zcL=>(aN,cF))∘fun t=>(t.1,t.2,Jl))=ts0:=YB _;ext bO e1 pm pm
theorem xmv {κ:Type} [Pn]:∀{kvs:ie}{k:κ}{v:V},(wD o4)->∃ i:Nat,Pp
 | [],k,v,h=>ff
 | mK,k,v,h=>by
  ext E9
  .ext gH C7;cases h;show(aO,0,by simp[<- e])
  .ext gH C6;show(mV,i,hi,xmv h,aH,zau)
#check L2
namespace L2
open PySem PySem.Spec PyProof.Rows XL PySem.W
inductive DV where
 | non
 | bl (b:Bool)
 | int (i:Int)
 | str (x:Str)
 | tup (xs:tT)
 | lst (xs:tT)
mutual
def dEq:DV->DV->Bool
 | .non,.non=>true
 | .bl a,.bl b=>a == b
 | .bl a,.int b=>(if a then 1 else 0) == b
 | .int a,.bl b=>a == (if b then 1 else 0)
 | .int a,.int b=>a == b
 | .str a,.str b=>a == b
 | .tup xs,.tup ys=>dEqs xs ys
 | .lst xs,.lst ys=>dEqs xs ys
 | _,_=>false
def dEqs:List DV->List DV->Bool
 | [],[]=>true
 | x::xs,y::ys=>dEq x y&&dEqs xs ys
 | _,_=>false
end
mutual
theorem xcf:∀ d,dEq d d=true
 | .non=>rfl
 | .bl _=>by simp[dEq]
 | .int _=>by simp[dEq]
 | .str _=>by simp[dEq]
 | .tup xs=>by simp only[dEq]; exact xd3 xs
 | .lst xs=>by simp only[dEq]; exact xd3 xs
theorem xd3:∀ xs,dEqs xs xs=true
 | []=>rfl
 | x::xs=>by simp only[dEqs,ZM]; exact⟨xcf x,xd3 xs⟩
end
mutual
def DV.pl:DV->Bool
 | .bl _=>false
 | .tup xs=>pls xs
 | .lst xs=>pls xs
 | _=>true
def pls:List DV->Bool
 | []=>true
 | x::xs=>x.pl&&pls xs
end
mutual
theorem xpd:∀{d e:DV},d.pl=true->e.pl=true->dEq d e=true->d=e
 | .non,.non,_,_,_=>rfl
 | .int a,.int b,_,_,h=>by simp only[dEq,beq_iff_eq] at h; rw[h]
 | .str a,.str b,_,_,h=>by simp only[dEq,beq_iff_eq] at h; rw[h]
 | .tup xs,.tup ys,p,q,h=>by
  simp only[dEq] at h;simp only[DV.pl] at p q;rw[xis p q h]
 | .lst xs,.lst ys,p,q,h=>by
  simp only[dEq] at h;simp only[DV.pl] at p q;rw[xis p q h]
 | .bl _,_,p,_,_=>by simp[DV.pl] at p
 | .non,.bl _,_,q,_=>by simp[DV.pl] at q
 | .int _,.bl _,_,q,_=>by simp[DV.pl] at q
 | .str _,.bl _,_,q,_=>by simp[DV.pl] at q
 | .tup _,.bl _,_,q,_=>by simp[DV.pl] at q
 | .lst _,.bl _,_,q,_=>by simp[DV.pl] at q
 | .non,.int _,_,_,h=>by simp[dEq] at h
 | .non,.str _,_,_,h=>by simp[dEq] at h
 | .non,.tup _,_,_,h=>by simp[dEq] at h
 | .non,.lst _,_,_,h=>by simp[dEq] at h
 | .int _,.non,_,_,h=>by simp[dEq] at h
 | .int _,.str _,_,_,h=>by simp[dEq] at h
 | .int _,.tup _,_,_,h=>by simp[dEq] at h
 | .int _,.lst _,_,_,h=>by simp[dEq] at h
 | .str _,.non,_,_,h=>by simp[dEq] at h
 | .str _,.int _,_,_,h=>by simp[dEq] at h
 | .str _,.tup _,_,_,h=>by simp[dEq] at h
 | .str _,.lst _,_,_,h=>by simp[dEq] at h
 | .tup _,.non,_,_,h=>by simp[dEq] at h
 | .tup _,.int _,_,_,h=>by simp[dEq] at h
 | .tup _,.str _,_,_,h=>by simp[dEq] at h
 | .tup _,.lst _,_,_,h=>by simp[dEq] at h
 | .lst _,.non,_,_,h=>by simp[dEq] at h
 | .lst _,.int _,_,_,h=>by simp[dEq] at h
 | .lst _,.str _,_,_,h=>by simp[dEq] at h
 | .lst _,.tup _,_,_,h=>by simp[dEq] at h
theorem xis:∀{xs ys:List DV},pls xs=true->pls ys=true->dEqs xs ys=true->xs=ys
 | [],[],_,_,_=>rfl
 | x::xs,y::ys,p,q,h=>by
  simp only[pls,ZM] at p q;simp only[dEqs,ZM] at h;rw[xpd p.1 q.1 h.1,xis p.2 q.2 h.2]
 | [],_::_,_,_,h=>by simp[dEqs] at h
 | _::_,[],_,_,h=>by simp[dEqs] at h
end
theorem xgu {d e:DV}{α:Type}{x y:α} [AX] (p:d.pl=true) (q:e.pl=true) (f:d=e↔x=y):dEq d e=(cC x y):=by
 by_cases c:x=y
 .rw [decide_eq_true c,f.mpr c];exact xcf _
 .rw [decide_eq_false c];cases z:FI with
  | false=>rfl
  | true=>exact absurd (f.mp (xpd p q z)) c
theorem xhl:∀{xs ys:tT}{e:Ky},(zoJ,e j=dEq x y)->((Z1 (min xs.length ys.length)).all e&&xs.length == ys.length)=dEqs xs ys
 | [],[],_,_=>rfl
 | [],df,_,_=>cM dEqs
 | df,[],_,_=>cM dEqs
 | pY,jH,e,h=>by
  show(ae,ih,xhl (xs:=xs) (ys:=ys) (e:=fun j=>e hV) (fun j a b ha hb=>h hV a b (by simpa using ha) qy),h0,h 0 x y rfl rfl);rw[ZL,ZL,(gg,min zet (ys.length+1)=min xs.length ys.length+1),Qb,Qm,List.all_map];show _=(dEq x y&&dEqs xs ys)
  rw[<- ih,h0];have z:((zet == ys.length+1):Bool)=(xs.length == ys.length):=by
   rw[Jg];simp
  rw[z,Bool.and_assoc];rfl
theorem xls:∀{xs ys:tT},xs.length≠ys.length->dEqs xs ys=false
 | [],[],h=>absurd rfl h
 | [],df,_=>rfl
 | df,[],_=>rfl
 | pY,jH,h=>by
  show (dEq x y&&dEqs xs ys)=false;rw[xls (xs:=xs) (ys:=ys) (aC,h (cM z))];exact Q2 _
inductive Dv (K:Zd) (H:Hp):Nat->(bM V DV)
 | non {n:Nat}:iQ n .non .non
 | bl {n:Nat}{b:Bool}:iQ n rM rM
 | int {n:Nat}{b:Int}:iQ n (.int b) (.int b)
 | str {n:Nat}{b:Str}:iQ n CT CT
 | tup {n:Nat}{a:Addr}{xs:ag}{ds:tT} (ha:Ic) (hl:zqR) (h:ziW):iQ eX aA (.tup ds)
 | lst {n:Nat}{a:Addr}{xs:ag}{ds:tT} (ha:mW) (hl:zqR) (h:ziW):iQ eX aA (.lst ds)
section
variable {X:Cx}{pins:List (Addr × Obj)}{Z:St}{H:Hp}{s:Shared}
theorem xjh {h:Heap}{a:Addr}{i j:gL} (p:h.IsTuple a i) (q:PlainL h a j):False:=by
 ext yG o e c p;ext L6 o' n e' c' q;ext bB e e' e';rw[c] at c';ext dy c' ap
theorem xqb {xs ys:tT} (h:zqS) (f:(zoJ,x=y)):xs=ys:=by
 refine YY (bZ j);by_cases c:j<xs.length
 .rw [Zb c,Zb aa,f j _ _ (Zb c) (Zb aa)]
 .rw [ZV aa,ZV aa]
theorem xld (I:aq) {n:Nat}{x:V}{d:DV} (h:Dv X.K H n x d):∀{m:Nat}{e:DV},(KJ x)->d=e:=by
 induction h with
 | non=>ext O9
 | bl=>ext O9
 | int=>ext O9
 | str=>ext O9
 | @tup n a xs ds ha hl h ih =>
  intro m e h2;cases h2 with
  | @tup m _ ys es hb kl k =>
   show(nZ,I.tuple_inj ha hb);refine congrArg DV.tup (xqb aa (bJ j d e h1 h2));have lt:j<xs.length:=by
    show(db,ft h1)
   exact ih j xs[j] d jh h1 zqp
  | @lst m _ ys es hb kl k =>
   show(zgj,qe ha,I.list hb)
 | @lst n a xs ds ha hl h ih =>
  intro m e h2;cases h2 with
  | @lst m _ ys es hb kl k =>
   show(nZ,I.list_inj ha hb);refine congrArg DV.lst (xqb aa (bJ j d e h1 h2));have lt:j<xs.length:=by
    show(db,ft h1)
   exact ih j xs[j] d jh h1 zqp
  | @tup m _ ys es hb kl k =>
   show(zgj,qe hb,I.list ha)
noncomputable def at2 (f:DV->DV->Bool) (ds es:tT) (j:Nat):Bool:=match ds[j]?,es[j]? with|some d,some e=>f d e|_,_=>false
theorem xh3 {f:DV->DV->Bool}{ds es:tT}{j:Nat}{d e:DV} (h:b9 ds d) (h2:b9 es e):at2 f ds es j=f d e:=by
 unfold at2;rw[h,h2]
theorem xki (I:aq) {n:Nat}{x:V}{d:DV} (h:Dv X.K H n x d):∀{m:Nat}{y:V}{e:DV},(KJ y)->∀{A:Around}{u v:Value},A.units+n+m<cLine->nu->RelV y v ->
    Z0 A s u v FI/\ZK A s u v FI/\Z9 A s u v (! FI):=by
  induction h with
  | @non n =>
    intro m y e h2 A u v hu rx ry;show(cQ,u=Jl,rx);cases h2 with
    | @non  =>
      show(D5,Z0.same _,ZK.none_none,Z9.none_none)
    | @bl _ b2 =>
      show(DF,Z0.none_bool _,ZK.none_bool _,Z9.none_bool _)
    | @int _ b2 =>
      show(oC,Z0.none_int _ _,ZK.none_int _ _,Z9.none_int _ _)
    | @str _ b2 =>
      show(oC,Z0.none_str _ _,ZK.none_str _ _,Z9.none_str _ _)
    | @tup m b ys es hb kl k =>
      show(HL,Z0.none_tuple t2 aa,ZK.none_tuple t2 aa,Z9.none_tuple t2 aa)
    | @lst m b ys es hb kl k =>
      show(Hq,Z0.none_list t2.isList aa,ZK.none_list t2.isList aa,Z9.none_list t2.isList aa)
  | @bl n b1 =>
    intro m y e h2 A u v hu rx ry;show(cQ,u=Ye _,rx);cases h2 with
    | @non  =>
      show(D5,Z0.bool_none _,ZK.bool_none _,Z9.bool_none _)
    | @bl _ b2 =>
      show(DF,Z0.bool_bool _ _,ZK.bool_bool _ _,Z9.bool_bool _ _)
    | @int _ b2 =>
      show(oC,Z0.bool_int _ _ _,ZK.bool_int _ _ _,Z9.bool_int _ _ _)
    | @str _ b2 =>
      show(oC,Z0.bool_str _ _ _,ZK.bool_str _ _ _,Z9.bool_str _ _ _)
    | @tup m b ys es hb kl k =>
      show(HL,Z0.bool_tuple _ t2 aa,ZK.bool_tuple _ t2 aa,Z9.bool_tuple _ t2 aa)
    | @lst m b ys es hb kl k =>
      show(Hq,Z0.bool_list _ t2.isList aa,ZK.bool_list _ t2.isList aa,Z9.bool_list _ t2.isList aa)
  | @int n b1 =>
    intro m y e h2 A u v hu rx ry;obtain⟨_,rfl⟩:=rx;cases h2 with
    | @non  =>
      show(D5,Z0.int_none _ _,ZK.int_none _ _,Z9.int_none _ _)
    | @bl _ b2 =>
      show(DF,Z0.int_bool _ _ _,ZK.int_bool _ _ _,Z9.int_bool _ _ _)
    | @int _ b2 =>
      show(oC,Z0.int_int _ _ _ _,ZK.int_int _ _ _ _,Z9.int_int _ _ _ _)
    | @str _ b2 =>
      show(oC,Z0.int_str _ _ _ _,ZK.int_str _ _ _ _,Z9.int_str _ _ _ _)
    | @tup m b ys es hb kl k =>
      show(HL,Z0.int_tuple _ _ t2 aa,ZK.int_tuple _ _ t2 aa,Z9.int_tuple _ _ t2 aa)
    | @lst m b ys es hb kl k =>
      show(Hq,Z0.int_list _ _ t2.isList aa,ZK.int_list _ _ t2.isList aa,Z9.int_list _ _ t2.isList aa)
  | @str n b1 =>
    intro m y e h2 A u v hu rx ry;obtain⟨_,rfl⟩:=rx;cases h2 with
    | @non  =>
      show(D5,Z0.str_none _ _,ZK.str_none _ _,Z9.str_none _ _)
    | @bl _ b2 =>
      show(DF,Z0.str_bool _ _ _,ZK.str_bool _ _ _,Z9.str_bool _ _ _)
    | @int _ b2 =>
      show(oC,Z0.str_int _ _ _ _,ZK.str_int _ _ _ _,Z9.str_int _ _ _ _)
    | @str _ b2 =>
      show(oC,Z0.str_str _ _ _ _,ZK.str_str _ _ _ _,Z9.str_str _ _ _ _)
    | @tup m b ys es hb kl k =>
      show(HL,Z0.str_tuple _ _ t2 aa,ZK.str_tuple _ _ t2 aa,Z9.str_tuple _ _ t2 aa)
    | @lst m b ys es hb kl k =>
      show(Hq,Z0.str_list _ _ t2.isList aa,ZK.str_list _ _ t2.isList aa,Z9.str_list _ _ t2.isList aa)
  | @tup n a xs ds ha hl h ih =>
    intro m y e h2 A u v hu rx ry;show(zhO,qe ha);cases h2 with
    | @non  =>
      show(D5,Z0.tuple_none t1 aa,ZK.tuple_none t1 aa,Z9.tuple_none t1 aa)
    | @bl _ b2 =>
      show(DF,Z0.tuple_bool _ t1 aa,ZK.tuple_bool _ t1 aa,Z9.tuple_bool _ t1 aa)
    | @int _ b2 =>
      show(oC,Z0.tuple_int _ _ t1 aa,ZK.tuple_int _ _ t1 aa,Z9.tuple_int _ _ t1 aa)
    | @str _ b2 =>
      show(oC,Z0.tuple_str _ _ t1 aa,ZK.tuple_str _ _ t1 aa,Z9.tuple_str _ _ t1 aa)
    | @tup m b ys es hb kl k =>
      obtain rfl:v=Zr _:=ry;obtain⟨its2,r2,t2,z2⟩:63:=qe hb;have l2:=r2.length;have step:∀(j:Nat) (h1:j<its.toArray.size) (h2:j<its2.toArray.size),Z0 A.in1 s its.toArray[j] its2.toArray[j] (at2 dEq ds es j):=fun j h1 h2=>by
        show(zeW,ih j x _ hx (Zb j1) (k j y _ hy (Zb j2)) (A:=A.in1) zkG rx ry)
      have all:=xhl (xs:=ds) (ys:=es) (e:=at2 dEq ds es) fun j x y h1 h2=>xh3 h1 h2;have both:ZK A s (.ref a) (.ref b) (dEqs ds es)/\Z9 A s (.ref a) (.ref b) (!dEqs ds es):=by
        show(ae,z1,ZK.tuples (A:=A) (e:=Ep) (zkn t1) zia aa step,z2,Z9.tuples (A:=A) (e:=Ep) (zkn t1) zia aa step);ext zfQ
        rw[e1,e2,all] at z1 z2;ext aO z1 z2
      simp only[dEq];refine⟨?_,both⟩;by_cases q:a=b
      . subst q
        have ed:DV.tup ds=DV.tup es:=xld I (Dv.tup ha hl h) (Dv.tup hb kl k);ext zgh
      . exact .of_refs q both.1
    | @lst m b ys es hb kl k =>
      show(Hq,Z0.tuple_list t1 t2.isList aa,ZK.tuple_list t1 t2.isList aa,Z9.tuple_list t1 t2.isList aa)
  | @lst n a xs ds ha hl h ih =>
    intro m y e h2 A u v hu rx ry;show(zhO,I.list ha);cases h2 with
    | @non  =>
      show(D5,Z0.list_none t1.isList aa,ZK.list_none t1.isList aa,Z9.list_none t1.isList aa)
    | @bl _ b2 =>
      show(DF,Z0.list_bool _ t1.isList aa,ZK.list_bool _ t1.isList aa,Z9.list_bool _ t1.isList aa)
    | @int _ b2 =>
      show(oC,Z0.list_int _ _ t1.isList aa,ZK.list_int _ _ t1.isList aa,Z9.list_int _ _ t1.isList aa)
    | @str _ b2 =>
      show(oC,Z0.list_str _ _ t1.isList aa,ZK.list_str _ _ t1.isList aa,Z9.list_str _ _ t1.isList aa)
    | @tup m b ys es hb kl k =>
      show(HL,Z0.list_tuple t1.isList t2 aa,ZK.list_tuple t1.isList t2 aa,Z9.list_tuple t1.isList t2 aa)
    | @lst m b ys es hb kl k =>
      obtain rfl:v=Zr _:=ry;obtain⟨its2,r2,t2,z2⟩:63:=I.list hb;have l2:=r2.length;have step:∀(j:Nat) (h1:j<its.toArray.size) (h2:j<its2.toArray.size),Z0 A.in1 s its.toArray[j] its2.toArray[j] (at2 dEq ds es j):=fun j h1 h2=>by
        show(zeW,ih j x _ hx (Zb j1) (k j y _ hy (Zb j2)) (A:=A.in1) zkG rx ry)
      have all:=xhl (xs:=ds) (ys:=es) (e:=at2 dEq ds es) fun j x y h1 h2=>xh3 h1 h2;have both:ZK A s (.ref a) (.ref b) (dEqs ds es)/\Z9 A s (.ref a) (.ref b) (!dEqs ds es):=by
        ext zfQ
        by_cases c:ds.length=es.length
        . show(ae,z1,ZK.lists (A:=A) (e:=Ep) t1.isList t2.isList aa aa step,z2,Z9.lists (A:=A) (e:=Ep) t1.isList t2.isList aa aa step);have all':(Z1 ds.length).all Ep=dEqs ds es:=by
            rw[<- all,c,Nat.min_self];simp
          rw[e1,all'] at z1 z2;ext aO z1 z2
        . rw[xls c]
          show(aO,ZK.lists_lengths (A:=A) t1.isList t2.isList zmh aa,Z9.lists_lengths (A:=A) t1.isList t2.isList zmh aa)
      simp only[dEq];refine⟨?_,both⟩;by_cases q:a=b
      . subst q
        have ed:DV.lst ds=DV.lst es:=xld I (Dv.lst ha hl h) (Dv.lst hb kl k);ext zgh
      . exact .of_refs q both.1
#check _
theorem Same.seqL {K:Zd}{H H':Hp}{a:Addr}{xs:ag} (s:cL) (h:mW):SqL K H' a xs:=by
 rcases h with (h|⟨ob,h⟩)|h
 .show(Tt,s _ _ h)
 .show(Ts,(wE,s _ _ h))
 .ext gX h
inductive rEqV (K:Zd) (x:V) (y:V) (H:Hp) (Q:VK):Prop
 | mk (n m:Nat) (d e:DV) (e_:SF) (r_:VU e FI)
inductive rNeV (K:Zd) (x:V) (y:V) (H:Hp) (Q:VK):Prop
 | mk (n m:Nat) (d e:DV) (e_:SF) (r_:VU e (! FI))
inductive rInV (K:Zd) (neg:Bool) (x:V) (y:V) (H:Hp) (Q:VK):Prop
 | mk (n m:Nat) (d:DV) (es:tT) (e_:SF) (r_:VU (.lst es) (if neg then ! znS else znS))
section
variable {X:Cx}
theorem xqs (hu:G0):OpR X (compareOp .Eq) (rEqV X.K):=by
 intro pins s Z H x y u v Q I rx ry h;obtain⟨n,m,d,e,h1,h2,hn,hm,q⟩:=h;exact (xki I h1 h2 (A:=X.A) aa rx ry).2.1 X.prog X.w X.xe _ (yS q)
theorem xf9 (hu:G0):OpR X (compareOp .NotEq) (rNeV X.K):=by
 intro pins s Z H x y u v Q I rx ry h;obtain⟨n,m,d,e,h1,h2,hn,hm,q⟩:=h;exact PySem.W.cmp_ofNotEq ((xki I h1 h2 (A:=X.A) aa rx ry).2.2 X.prog X.w X.xe _ (yS q))
theorem xle {α β:Type}{f:α->Bool}{g:β->Bool}:∀{xs:b7}{ys:List β},zqS->(∀(j:Nat) (x:α) (y:β),(zeP,ys,y,f x=g y))->xs.any f=ys.any g
 | [],[],_,_=>rfl
 | [],df,h,_=>ff
 | df,[],h,_=>ff
 | pY,jH,h,k=>by
  rw[Yq,Yq,k 0 x y rfl rfl,xle (xs:=xs) (ys:=ys) xT (FB,a,b,k hV a b qx AH)]
noncomputable def eOf (K:Zd) (H:Hp) (m:Nat) (d:DV) (z:V):Bool:=@dite Bool (∃ e,iQ m z e) (Classical.propDecidable _) (d9,dEq h.choose d) fun _=>false
theorem xh5 {pins:bc}{Z:St}{H:Hp}{s:Shared} (I:aq) {m:Nat}{d e:DV}{z:V} (h:KJ z):eOf X.K H m d z=dEq e d:=by
 unfold eOf;rw[dif_pos ⟨e,h⟩];have ex:∃ e,KJ z:=⟨e,h⟩
 rw[xld I ex.choose_spec h]
theorem xo9 (hu:G0):mS .In (rInV X.K false):=by
 intro pins s Z H x y v u Q I rx ry h;obtain⟨n,m,d,es,h1,h2,hn,hm,q⟩:=h;cases h2 with
 | @lst m a xs _ ha hl k =>
  cases ry;obtain⟨its,r,pl,hz⟩:63:=I.list ha;have get:∀ z∈xs,∃(j:Nat) (e:DV),xs[j]?=some z/\es[j]?=some e/\Dv X.K H m z e:=fun z hz=>by
   ext zfd
  refine SeqAt.in_listAt (eU Re) pl.isList (am w hw) (yS ?_)
  .show(zfC,xki I he h1 (A:=X.A.in1) zkc m2 rx)
  .ext zfe
theorem xgb (hu:G0):mS .NotIn (rInV X.K true):=by
 intro pins s Z H x y v u Q I rx ry h;obtain⟨n,m,d,es,h1,h2,hn,hm,q⟩:=h;cases h2 with
 | @lst m a xs _ ha hl k =>
  cases ry;obtain⟨its,r,pl,hz⟩:63:=I.list ha;have get:∀ z∈xs,∃(j:Nat) (e:DV),xs[j]?=some z/\es[j]?=some e/\Dv X.K H m z e:=fun z hz=>by
   ext zfd
  refine SeqAt.notIn_listAt (eU Re) pl.isList (am w hw) (yS ?_)
  .show(zfC,xki I he h1 (A:=X.A.in1) zkc m2 rx)
  .ext zfe
#check _
#check L2
namespace L2
open PySem PySem.Spec PyProof.Rows XL PySem.W
noncomputable def Tp (H H':Hp):Prop:=Gy
theorem Same.tp {H H':Hp} (s:cL):Tp H H':=(fS,s b _ e)
theorem Tp.trans {H H' H'':Hp} (s:Tp H H') (r:Tp H' H''):Tp H H'':=(fS,r b xs (s b xs e))
theorem xo5 {H:Hp}{l:Addr}{xs ys:ag} (h:oR l):Tp H zec:=fun b zs e=>by
 show(aB,xg (fun z=>tG h e),e)
section
variable {J:It}{n:Nat}{g:TG}{Z:St}{fr:List Nat}{tc:TT}{te:TE}{l:Addr}{H1:Hp}{Q:VK}
theorem xnk (len:Nat) (hlen:zZ len) (hl:uX) (x:Nat->V) (hgo:∀ i H,i<len->S8->J.go i H) (hy:∀ i H v H',(bb,i<len,S8,J.yld i H v H',H'=H/\v=x i)) (hst:∀ H,S8->J.stop len H)
    (p:Ky) (F:Nat->pP) (stab:Ml)
    (step:∀ i H2,i<len->m8->∀(N:V->Hp->Prop) (M:Hp->Prop),(∀ y H',Same H2 H'->p i=true->F i y H'->N y H')->zjx ->
      g (x i) Sa H2 zhk)
    (fin:(GD,((Z1 len).filter p).length,(∀(j:Nat) (y:V) (i:Nat),Eh ((Z1 len).filter p) i TL))):xdy J n g Z fr tc te l H1 Q:=by
  refine xc3 len (zoR,((Z1 i).filter p).length,∀(j:Nat) (y:V) (k:Nat),(Eh,(Z1 i).filter p,k,F k y H2)) ?_ ?_ ?_ ?_
  . refine(bR,vN,xj,rfl,fH j y k yN)
    show(aB,gY hl,e)
  . rintro i ys H2 lt ⟨s,_⟩
    exact hgo i H2 lt s
  . rintro i ys H2 v H3 lt (⟨s,el,ly,f⟩:44) yl N hN
    show(ia,rfl,hy i H2 v H3 lt s yl);refine step i H3 lt s _ _ (bJ y H' s' pt hf) (aI H' s' pf)
    . have el':=s' _ _ el
      have ylen:zZ ys.length:=by
        rw[ly];refine JQ (Yj _ _) ?_;rw[Jb];omega
      refine⟨el',ylen,hN _ _ (bR,vN,xj,?_,bJ j z k e1 e2)⟩
      . show(aB,gY hl,s' _ _ (s _ _ e))
      . rw[Y6,JS,Zs,Zs,ly,JY pt]
        rfl
      . rw[Y6,JS,JY pt] at e2
        by_cases c:j<ys.length
        . rw[ZQ c] at e1
          show(bO,ZQ aa,e2,stab _ _ _ _ ((Same.tp s').trans (xo5 el')) (f j z k e1 e2))
        . rw[Js aa] at e1 e2
          rw[<- ly] at e2;cases hj:j-ys.length with
          | zero =>
            rw[hj] at e1 e2;simp at e1 e2;subst e1 e2;exact stab _ _ _ _ (xo5 el') hf
          | succ m =>
            rw[hj] at e1;simp at e1
    . refine hN _ _ (bR,s.trans s',s' _ _ el,?_,bJ j z k e1 e2)
      . rw[Y6,JS,JZ (cM pf)]
        simpa using ly
      . rw[Y6,JS,JZ (cM pf)] at e2
        simp only[Qv,YL] at e2;exact stab _ _ _ _ (Same.tp s') (f j z k e1 e2)
  . rintro ys H2 (⟨s,el,ly,f⟩:44)
    show(aO,hst _ s,fin ys H2 s el ly f)
theorem xeb {K:Zd}{a:Addr}{xs:ag} (hs:En) (hlen:HK) (hl:uX) (p:Ky) (F:Nat->pP) (stab:Ml)
    (step:∀(i:Nat) (x:V) (H2:Hp),xs[i]?=some x->Same H1 H2->∀(N:V->Hp->Prop) (M:Hp->Prop),(∀ y H',Same H2 H'->p i=true->F i y H'->N y H')->zjx ->
      g x Sa H2 zhk)
    (fin:(GD,((Z1 xs.length).filter p).length,(∀(j:Nat) (y:V) (i:Nat),Eh ((Z1 xs.length).filter p) i TL))):xdy zb n g Z fr tc te l H1 Q:=by
  refine xnk xs.length hlen hl (jq,xs.getD i .non) (fun i H lt s=>(bw,xs,xs[i],Po,jh)) (fun i H v H' lt s y=>?_) (fun H s=>⟨xs,Po,bp⟩) p F stab (fun i H2 lt s N M h1 h2=>?_) fin
  . ext Cw f y
    have z:=f xs (Same.seqL s hs);show(cR,e,?_);simp[z]
  . show(ki,e,aF xs (xs.getD i .non),cM jh,step i _ H2 e s N M h1 h2)
theorem xhm {i:Nat}{x:V}{σ0:St}{H2:Hp}{N:pP}{M:Fz}{g:TG}{te:TE} (h:g x σ0 H2 zcf):g x σ0 H2 fun σ' H3=>xdj σ' H3 fun b H4=>(cm,b,zew,M H4):=by
 have e:(fun (σ':St) (H3:Hp)=>xdj σ' H3 fun b H4=>(cm,b,zew,M H4))=zcf:=by
  funext σ' H3;show (cm,true,zeB,M H3)=zeB;rw[cp]
 rw[e];exact h
theorem filter_all (m:Nat):(Z1 m).filter R8=Z1 m:=ah
theorem xba {K:Zd}{a:Addr}{xs:ag} (hs:En) (hlen:HK) (hl:uX) (F:Nat->pP) (stab:Ml)
    (step:zlR (zhv Uc))
    (fin:GD xs.length (Du TL)):xdy zb n g Z fr xdj te l H1 Q:=by
  refine xeb hs hlen hl R8 F stab (fun i x H2 hx s N M h1 h2=>xhm (i:=i) (step i x H2 hx s N zke)) (fun ys H2 s e ly f=>?_);rw[filter_all,Jb] at ly;refine fin ys H2 s e ly znG;rw[filter_all,Yb (d7,ft hy)]
#check _
theorem xg5 {α:Type}{f:α->V}:∀{as:b7}{ys:ag},(wa as.length)->(∀(i:Nat) (y:V) (a:α),(aF ys y)->(aF as a)->y=f a)->ys=as.map f
 | [],[],_,_=>rfl
 | [],df,h,_=>ff
 | df,[],h,_=>ff
 | a::as,jH,h,k=>by
  rw[Zo,k 0 y a rfl rfl,xg5 (as:=as) (ys:=ys) xT fun i y' a' h1 h2=>k aH y' a' qx AH]
theorem xnl {α:Type} (q:α->Bool):∀(as:b7) (p:Ky),zie->((Bh).filter p).filterMap (jq,as[i]?)=as.filter q
 | [],_,_=>rfl
 | a::as,p,h=>by
  have ih:=xnl q as (jq,p aH) (hU,b,hb,h aH b qy);rw[ZL,Qb];have e:((Bh).map Nat.succ).filter p=((Bh).filter (fun i=>p aH)).map Nat.succ:=by
   rw[QY];rfl
  have h0:=h 0 a rfl;by_cases c:q a=true
  .rw [JY (av h0 c),JY c,e,Jj];simp only[List.getElem?_cons_zero,Q3];rw[<- ih];rfl
  .rw [JZ (av h0 c),JZ c,e,Q3,<- ih];rfl
theorem xnb {α:Type} (q:α->Bool) {as:b7}{p:Ky} (h:zie):((Bh).filter p).length=(as.filter q).length/\∀ j i:Nat,(b9 ((Bh).filter p) i)->as[i]?=(as.filter q)[j]?:=by
 rw[<- xnl q as p h];have all:∀ i∈(Bh).filter p,∃ a,aF as a:=fun i hi=>by
  have:=ZT.mp (ZC.mp hi).1;show(aO,as[i],Zb this)
 generalize (Bh).filter p=is at all
 induction is with
 | nil=>show(aO,rfl,dh j i yN)
 | cons i is ih =>
  show(vK,ha,all i Zn);obtain⟨h1,h2⟩:=ih fun k hk=>all k (Zj _ hk)
  rw[Jj,ha];show(cR,cM h1,rT j k);cases j with
  | zero =>
   ext Bx;exact ha
  | succ m=>exact h2 m k uJ
#check L2
namespace XL
open PySem PySem.MeetsSeq PySem.MeetsSeq2 PySem.MeetsSeq3 PySem.SeqAt
open AutoSeq1 (wpAny_loadPart')
#check XL
namespace L2
open PySem PySem.Spec PyProof.Rows XL PySem.W
noncomputable def xpm:Expr->Bool
 | .Starred _ _=>false
 | _=>true
theorem xn9 {e:Expr}{es:iF}{env:Env} (h:xpm e=true):starEach ji env=(false,Sr)::starEach es env:=by
 cases e<;>first|rfl|cases h
theorem xbb {X:Cx}{e:Expr}{es:iF}{te:TE}{t:TA} (ha:tE) (hr:S2) (hn:xpm e=true):PA X ji (xsd te t):=xa ha hr (xn9 hn)
#check L2
namespace XL
open PySem L2
open PyProof.Rows (assign_Tuple)
section
variable {prog:Program}{w:World}{A:Around}{E:Value->Shared->Prop}
theorem xlj {it t:Addr}{its:gL} (ne:t≠it):∀(n i:Nat) (s:Shared) (Q:eQ aQ),s.heap.IsListIter it t i->zqL->i+n<=its.size ->
    (∀ h',h'.IsListIter it t (i+n)->zbo->Q ((its.toList.drop i).take n) gJ)->wpAny aS A (draw qX n) Q E s
  | 0,i,s,Q,hit,_,_,q=>by
    show wpAny _ _ (pure []) Q E s;exact Zk (uT,q s.heap hit (Jn.refl ..))
  | eX,i,s,Q,hit,ht,le,q=>by
    have lt:i<its.size:=aa
    show(wF,wpAny _ _ (sr>>=_) Q E s,QT hit ht (x:=its[i]) (cM lt) (aI h1 i1 s1));show(vH,xlj ne n aH _ _ i1 (ht.extBut s1.extBut ne) aa fun h2 i2 s2=>Zk ?_);have e:its.toList.drop i=its[i]::its.toList.drop aH:=wJ JC lt
    have z:=q h2 (av (gg,i+eX=aH+n) i2) (s1.trans s2);show(tu,e,List.take_succ_cons)
theorem xg9 {env:Env}{es:iF}{k}{pos:Pos}{t:Addr}{its:gL}{s:Shared}{Q:vv} (hh:xX) (ht:zqL)
    (hn:(zal).length=its.size) (hs:(zal).findIdx? (·.1)=none)
    (h:∀ h',We s.heap.objs.size s.heap h'->wpAny aS A (assignInOrder ((zal).map (·.2)) its.toList) Q E gJ) :
    wpAny aS A (assign zbb env zJ) Q E s:=by
  rw[assign_Tuple];refine Zc (Wu ?_);unfold unpack;rw[hn,hs];ext Se;have ne:t≠s.heap.objs.size:=by
    ext dL o e ht;exact ZG (Zv e)
  unfold unpackItems;ext lY;unfold notIterableAtAll;show(L3,ht.typeIs,slot_list_iter.lookup);ext nB;ext sj;show(vH,YV ht ?_);show(vH,xlj ne its.size 0 _ _ qH (ht.push _) aa (aI h1 i1 s1));rw[show List.take its.size (List.drop 0 its.toList)=its.toList by rw[List.drop_zero]; exact Jx ah];ext dB ah;have t1:h1.IsList t its:=(ht.push _).extBut s1.extBut ne;show(vH,Wa hh i1 t1 ah (am h2 e2));show(su,Option.isSome_none);exact Zk (h h2 (ux,e2 b o hb (s1.extBut b o hb ui)))
#check _
section
variable {X:Cx}{pos:Pos}
inductive xwc (K:Zd) (n:Nat) (t:TGs) (v:V) (Z:St) (H:Hp) (Q:kU):Prop
 | mk (a xs) (e_:v=aA) (r_:mW/\xs.length=n/\t xs Z H Q)
theorem xs1 {es:iF}{k:Nat}{t:TGs}{n:Nat} (hc:iT) (h:PGs X es t)
    (hn:(G5).length=n:=by rfl) (hst:(G5).findIdx? (·.1)=none:=by rfl):PG X zbb (xwc X.K n t):=by
  intro pins s Z H v u Q I r hw;obtain⟨a,xs,e1,hq,hl,hw⟩:=hw;subst e1;cases r;ext yA rv qO;refine xg9 gO pl.isList zlH hst (am h' hx);show(ki,I1,iz gJ,I.kept (t':=s.toks) (pV,hx b o (ZG (Zv e)) e),h pins _ Z H xs _ Q I1 zav hw)
#check _
#check XL
namespace L2
open PySem PySem.Spec PyProof.Rows XL PySem.W
#check L2
namespace L2
open PySem PySem.Spec PyProof.Rows XL PySem.W PySem.Builtin PySem.Builtin.Str
#check L2
namespace L2
open PySem PySem.Spec PyProof.Rows XL
open AutoSeq1 (wpAny_loadPart')
section
variable {prog:Program}{w:World}{A:Around}{E:Value->Shared->Prop}{s:Shared}
theorem xh9 {d:Addr}{o:Obj}{es:kI}{ep:Nat}{Q:bj} (hd:F6) (ho:oB) (hc:o.cls=Bu) (hdat:kN)
    (hQ:HH eZ At) :
    wpAny aS A (Kg d) Q E s:=by
  have hT:X4:=qg ho hc
  refine wpAny_pyIter_slot hT QM (Jz QM hT F.entry_dict_iter ?_ (F.args_dict_iter_1 _));unfold Builtin.«dict.__iter__»;ext lY;unfold Builtin.Dict.dictSlotNone;show(bm,Qd hT ?_);show wpAny _ _ (pure (Zr d)) _ _ s;ext nB;show wpAny _ _ (Builtin.Dict.showsAll d>>=_) _ _ s;unfold Builtin.Dict.showsAll;show(dB,av hd Z4);ext sG;show(bm,Jt ho hdat ?_);show(bm,J7 ho hdat ?_);show(bm,(JK (Zk (c9 ⟨83, "dict_keyiterator",_,FU,ZX.lookup,?_⟩))));simpa [rawInt] using hQ
#check _
theorem xfp (d:Addr) (hd:F6) (es:kI) (ep:Nat) (dct:ig) (sl:xF) :
    Meets (Builtin.«enumerate.__new__» (nU [eY "enumerate",dF])) (fun _ R s=>s.heap.get? d=some { cls:=Bu,dict:=dct,data:=Sc,slots:=sl } /\
      R (.ok (.ret (.ref (At).objs.size)))
        { s with heap:=(At).push (eP,"enumerate",.fields zjo) }) :=
  .of_wp fun prog w A R s h=>by
    ext xM dr; obtain⟨hl,h⟩:=h;have hsub:=sub_enumerate;have hI:∀{A':Around}{E':bj}{Q':bj},Q' (.ref hp.objs.size) (Rj,hp.push (eP,"dict_keyiterator",.fields Pw))->wpAny aS A' (Kg d) Q' E' (Rj hp):=fun q=>xh9 hd hl rfl rfl q
    wp_walk using Y4 hl
    refine wpAny_stack_any fun st=>Zk ?_;split
    . rename_i c _ _ _ _ _
      cases (c == YN "enumerate")
      . ext VO
      . ext VO
    . ext VO
section
variable {prog:Program}{w:World}{A:Around}{E:Value->Shared->Prop}{s:Shared}
theorem xf3 {d:Addr}{o:Obj}{es:kI}{ep:Nat}{Q:bj} (hd:F6) (ho:oB) (hc:o.cls=Bu) (hdat:kN)
    (h:∀ h',(zlG h')->h'.IsKeyIter s.heap.objs.size d 0 es.size ep->h'.objs.size=s.heap.objs.size+2 ->
      (mC fY qv)->Q (.ref hZ) gJ) :
    wpAny aS A zkZ Q E s:=by
  ext zcO dt
  replace hc:c=Bu:=hc
  replace hdat:dt=Sc:=hdat
  subst hc hdat;refine callType_new F.called_enumerate ap (F.typeCall_enumerate_1 _) (F.newCall_enumerate_1 _) (fun obj=>F.args_object_init_2 obj _) F.entry_enumerate_new
    (xfp d hd es ep dct sl) (dQ ho)
  have hz:(At).objs.size=hZ:=Yf ..;show _/\_;rw[hz];have he:IsEnum ((At).push
      zlQ) (s.heap.objs.size+1) s.heap.objs.size 0 .none:=by
    have:=Zu At
      (o:=zlQ) rfl
    rw[hz] at this; exact this
  refine⟨dY he,h _ he (vW,Zg _ iJ,rfl) (cK Yf hz) fun b o x=>Zg _ (Zg _ x)⟩
#check _
section
variable {prog:Program}{w:World}{K:Type} [DecidableEq K] {knd:KeyKind prog w K}{A:Around}{E:Value->Shared->Prop}{s:Shared}
theorem xhu {it d:Addr}{i ep:Nat}{kvs:Ce K}{k:K}{v:Value}{Q:bj} (hit:ziR)
    (hm:zmr) (hx:Pp)
    (hQ:∀ key h',(bb,zeJ key,h'.IsKeyIter it d aH kvs.length ep,zbo,Q key gJ)) :
    wpAny aS A zjn Q E s:=by
  show(bF,o,ho,hc,hd,id hit);obtain⟨od,es,hod,hcd,hdd,hk,hp,hn⟩:86:=id hm;unfold Builtin.SmallTypes.nextOf;refine Zc (J4 (name:=zcz) hit.typeIs ZX
    zkS)
  refine Zc (Zk ?_);refine Zc ?_;refine Zc ?_
  first|ext M8|ext M7
  ext zfi
  ext su hown;show wpAny _ _ WM _ _ s;show(dB,(show ¬ (CZ,Zr d,Jl) from Z4));ext ziL
  show(dB,jX hsz);ext zqN;ext dB ah;ext nB;have hlt:Bj:=by
    rcases YD i kvs.length with h|h
    . exact h
    . simp[ZV h] at hx
  have hlt':i<es.size:=av hsz hlt
  have hkey:(zeJ,es[i].key):=(hp.get? (e:=es[i]) (cM hlt') hx).1;show(zkO,Ju hlt');ext lY
  first|ext M8|ext M7
  show(bm,Yh hit.typeIs ?_);show(wF,wpAny _ _ (zmd 1) _ _ s,zmn);have hit':(s.heap.update it (Obj.mapFields (·.setIfInBounds 1 (rawInt (cG+1))))).IsKeyIter it d aH kvs.length ep :=
    (bi,_,JF _ ho (Obj.isFreed_of_fields (Obj.data_mapFields hd _)),(Obj.cls_mapFields ..).trans hc,by rw[Obj.data_mapFields hd]; simp[rawInt])
  ext Se;refine Zc (Yh (s:={ s with heap:=s.heap.update it (Obj.mapFields (·.setIfInBounds 1 (rawInt (cG+1)))) }) hit'.typeIs ?_);show wpAny _ _ (pure es[i].key) _ _ _;exact Zk (Zk (c9,Zk (hQ _ _ hkey hit' (Jn.update ..))))
theorem xez {it d:Addr}{i ep:Nat}{kvs:Ce K}{Q:bj} (hh:xX) (hit:ziR)
    (hm:zmr) (hx:kvs[i]?=none)
    (hE:∀ h' e,zbs->(∃ o,h'.get? e=some o/\o.cls=(eY "StopIteration"))->E (.ref e) gJ):wpAny aS A zjn Q E s:=by
  show(bF,o,ho,hc,hd,id hit);obtain⟨od,es,hod,hcd,hdd,hk,hp,hn⟩:86:=id hm;unfold Builtin.SmallTypes.nextOf;refine Zc (J4 (name:=zcz) hit.typeIs ZX
    zkS)
  refine Zc (Zk ?_);refine Zc ?_;refine Zc ?_
  first|ext M8|ext M7
  ext zfi
  ext su hown;show wpAny _ _ WM _ _ s;show(dB,(show ¬ (CZ,Zr d,Jl) from Z4));ext ziL
  show(dB,jX hsz);ext zqN;ext dB ah;ext nB;have hge:es.size<=i:=by rw[hsz]; simpa using hx
  show(zkO,Array.getElem?_eq_none hge);ext lY
  first|ext M8|ext M7
  show(wF,wpAny _ _ (setField qX 0 .none>>=_) _ _ s,zmn);show wpAny _ _ (newExc (.type "StopIteration") []>>=_) _ _ _;ext lY;simp only[newExc,newTuple];show(bm,JK ?_ zdx);refine Zc (m:=firstArgMember _ _) (wpAny_of_eq (a:=Jl) (by first|rfl|(simp only[firstArgMember]; rfl)) ?_);refine JK ?_ zdx;simp only[raiseNew];refine Zc (wpAny_handled ?_)
  first|rw[show A.in1.handled=none from hh]|rw[hh]
  show(bm,Zk (wpAny_throw ?_));exact hE _ _ (((Jn.update ..).extBut.push _).push _) FU
theorem xik (hh:xX) {it d:Addr} (hid:it≠d) {kvs:Ce K}{ep:Nat} :
    Draws prog w A it [it,d] kvs.length (d0,v,∃ k x,h7/\(zeJ v)) (d0,h,Vg/\h.DictAt knd d kvs ep) where
  live:=fun _ _ st=>let ⟨qg ho _,_⟩:=st; ⟨o,ho⟩
  frame:=fun _ _ _ st hk=>by
    obtain⟨⟨o,ho,r⟩,od,es,g,r2⟩:=st;show(aO,(qg,hk it ah o ho,r),(bw,od,es,hk d ah od g,r2))
  item:=fun i s Q E hi st hQ=>by
    obtain⟨st,da⟩:=st;show(zmT,hx,Zb hi)
    exact xhu st da hx fun key h' hkey hit' hs=>hQ key h' s.toks (bw k x hx hkey) ⟨hit',da.extBut hs.extBut (Zx hid)⟩ hs
  done:=fun s Q E st hE=>by
    obtain⟨st,da⟩:=st;exact xez hh st da ah fun h' e x y=>hE h' e x y
#check _
noncomputable def Itk (d:Addr) (o:Obj) (kvs:aL):It :=
 (MK,∃ p k x,h7/\(aR,v,cq,jc,H'=(iB H p cB qh)))
theorem KV.back:∀{kvs:aL}{vs:KR}{i:Nat}{k:Key}{u:Value},jW->(aF vs (k,u))->∃ x,h7
 | _,_,_,_,_,.nil,e=>yN
 | (_,x)::_,(_,_)::_,0,_,_,TU,e=>by
  simp at e;obtain⟨e1,e2⟩:=e;ext zkY
  show(aO,x,wJ r1 e1)
 | _,_,aH,k,u,Fb,e=>by
  show(mV,x,h,KV.back (i:=i) t uJ,x,xT)
theorem xn6 {P:Program}{w:World}{K:Zd}{elts:iF}{x1}{tpos:Pos} (e it d:Addr) (hei:e≠it) (hid:it≠d) (hed:e≠d) (o:Obj) (kvs:aL) (ep:Nat) (hep:KA) :
    Turn P w K r8 (Itk d o kvs) [e,it] e (zkt Vg) where
  mem:=ah
  obj:=fun i h st b hb=>by
    obtain⟨⟨old,he⟩,⟨o1,e1,c1,d1⟩⟩:=st;ext Dp;rcases hb with rfl|rfl
    . ext zhx
    . ext Vq
  keep:=fun i h h' ⟨⟨old,he⟩,⟨o1,e1,r⟩⟩ k=>zpH Nm
  item:=by
    intro X hP hw hK hc i pins s Z H E I hf st hg;ext zfP lt;refine wpAny_pyNext_enum_itemD (xik (A:=X.A.in1) gO hid) he ⟨h1,da⟩ aa hei (wJ hei hed) fun x h' tk px ho hst' hT hsz hk=>?_;ext gQ k u hv hkey px;obtain⟨y,hx⟩:=rel.back hv;show(iG,(zhc,tk+1));have elt:mU e:=Zv he;ext XG e elt;have kk:(yZ,b∉[e,it],fY,NF):=fun b o hb g=>by
      ext My;exact (hs'.2 b hb.1).trans (hk b o hb.1 hb.2 g)
    show(zM,(zqW,tk+1),I.turnedL kk hf);ext Im ME;have hp:(Mq,#[.int i tk,x]):=(hs'.2 _ pne).trans hT;refine⟨85,eZ,N2 cB qh,I1.adopt n0 I.sz nL nC nP (N1,[.int i tk,x],dJ gs (.cons (xlu hkey) .nil)),rfl,
      ⟨104,_,k,y,hx,rfl,n0,rfl⟩,?_,gP⟩
    . obtain⟨⟨o2,g2,r2⟩,_⟩:=hst'
      rw[<- hl] at r2;show(aO,zoh,⟨o2,(hs'.2 it (Zx hei)).trans g2,r2⟩)
    . obtain⟨o,ho⟩:∃ o,s.heap.get? b=some o:=by
        ext dL o1 e1 h1;ext Dp;rcases hb with rfl|rfl
        . exact fC he
        . exact fC e1
      rw[xg (ZG (Zv ho))];exact (hf b hb).1
  done:=by
    intro X hP hw hK hc i pins s Z H E I hf st hg;ext zfP le;have D:=xik (A:=X.A.in1) gO hid (knd:=lI) (kvs:=vs) (ep:=ep);have fin:∀ h',zbs->(none:BG)=none/\(iz gJ):=fun h' hx=>⟨rfl,I.turnedL (t':=s.toks) (fun b o hb g=>by
      ext My;exact hx b o hb.2 g) hf⟩
    have hT:Sn e "enumerate":=dY he
    unfold pyNext;refine Zc (YI (J4 (name:=zcz) hT F.slot_enumerate_next
      (Jz F.slot_enumerate_next hT F.entry_enumerate_next ?_ (F.args_enumerate_next_1 _))))
    show(wF,wpAny _ _ (field (.ref e) 2>>=_) _ _ _,Qn he rfl (x:=qX) rfl ?_);show(bm,xez gO h1 da jQ (cI h' x he' hx'));ext af o ho hc hx';show(bm,QH (T:="StopIteration") (b:=true) (qg ho hc) isSubtype_stop ?_);exact Zk (fin _ he')
  self:=zik
noncomputable def xv5 (ta:TA):TI:=(GN,∃ d kvs,vs=[dF]/\((H1 d=some (.dK kvs)/\∀ ob,R EA oW)\/∃ ob,H1 d=some fZ/\R EA H1))
section
variable {X:Cx}{elts:List Expr}{x1:_}{tpos:Pos}
theorem xq0 {a:Expr}{ta:TA}{p pos:Pos} (hg:Gl X "enumerate") (hm:qP "enumerate") (ha:Iz) (hs:Iv:=by rfl) :
    zko (xv5 ta):=by
  intro pins s Z H R I h;show(zhF,ha pos pins s Z H _ I h,fun us s1 ⟨vs,H1,I1,r1,q1⟩=>?_);ext gQ d kvs e q q1;ext ML d;have key:∀ H2 ob,(bb,zaM,cT H2 s1,R EA H2,wpAny aJ X.A zkZ (jN,s1,wpAny aJ X.A (pyIter v) (PIE X pins Z r8 R) X.xe s1) X.xe s1):=by
    intro H2 ob e2 I2 q2;obtain⟨z,hd,⟨vs,rel,dd⟩⟩:43:=xd0 I2.hok (.inr (wE e2));obtain⟨ob',es,ep,g,ex,hdat,hk,hp,hn⟩:106:=id dd;obtain⟨g2,_⟩:=I2.hok d _ e2;rw[g] at g2;show(mI,eo,ob',ob,ZE.inj g2);show(zmx,vs.length)
    refine xf3 hd g (by show(af,o3,g3,c3,dd.typeIs (s:=s1)); ext bB g g3 g3; exact c3) hdat (bJ h' he h1 hsz' hk');refine Q6 (s:=NM) he ?_;show(zR,H2,NM,I2.kept (t':=s1.toks) hk');have dlt:d<s1.heap.objs.size:=Zv g;rw[hsz,<- rel.length] at h1;refine znd ⟨66,H2,rfl,I3,xn6 zqX s1.heap.objs.size d (xo3 aa) (JT dlt) (JT (Nat.lt_succ_of_lt dlt)) ob' kvs ep PN,⟨fC he,h1⟩,gP,q2⟩;have hb':s1.heap.objs.size<=b:=by
      ext Dp;rcases hb with rfl|rfl
      . exact YF _ 1
      . exact Zl _
    exact I2.fpOk hb' (I2.hok.fresh hb')
  rcases q with⟨e,q⟩|⟨ob,e,q⟩
  . obtain⟨z,hd,⟨vs,rel,dd⟩⟩:43:=Rw
    obtain⟨ob,es,ep,g,ex,hdat,hk,hp,hn⟩:106:=id dd;exact key _ ob xj (Us HZ) (q ob)
  . exact key _ ob e I1 q
#check _
theorem xoy {d:Addr}{ob:Obj}{kvs:aL}{g:TG}{tb:TS}{D:Ends}{Z:St}{H:Hp} (Pv:zg) (h0:B3) (hl:Et Rf (ax d fZ))
    (hs:∀ i k x p Z H,(bb,h7,jc,tM,g cq Z (iB H p cB qh) Al)) (hd:OZ) :
    ∃ W:Nat->Nat->St->Hp->Prop,(∃ m,W 0 m Z H)/\∀ i m Z H,yJ ->
      ((EA).stop i H/\tK)\/((EA).go i H/\(wY (yr,(EA).yld i H x H',Z,H',wV))):=by
  ext Me;rintro i m Z H (⟨rfl,hi,p⟩:43);ext Dn Bj
  . ext Ni
    obtain⟨r,k,x',e1,rfl,hr,rfl⟩:104:=y;exact hs i k x' r Z H e1 hr p
  . show(Mo,⟨q,bp⟩)
noncomputable def Itw (d:Addr) (o:Obj) (kvs:aL):It :=
 (MK,H'=H/\∃ k,Pp)
theorem xmb {P:Program}{w:World}{K:Zd}{tg:Expr} (d it:Addr) (o:Obj) (kvs:aL) (ep:Nat) (hep:KA) :
    Turn P w K tg (Itw d o kvs) rW it (d0,h,h.IsValIter it d i kvs.length ep) where
  mem:=ah
  obj:=fun i h st b hb=>by
    ext Vx
  keep:=fun i h h' ⟨o1,e1,r⟩ k=>Nm
  item:=by
    intro X hP hw hK hc i pins s Z H E I hf st hg;ext iE;ext Dc lt;obtain⟨f0,f1,f2,f3,f4,f5⟩:46:=j0;ext Vf;rw[hl] at st;refine wpAny_pyNext_values_item st da hv (aI h' hit' hs);show(U8,xgr (s:=gJ) g2 c2 d2 ap ?_,I.turned (t':=s.toks) (yu,(hs.2 b hb).trans g) f0 f1 f3 f4 f5);rw[<- hl] at hit';exact⟨85,x,H,I1,ru,Gs k hx,hit',Fe⟩
  done:=by
    intro X hP hw hK hc i pins s Z H E I hf st hg;ext iE;ext Dc le;obtain⟨f0,f1,f2,f3,f4,f5⟩:46:=j0;ext wU;show(bO,hl,st,wpAny_pyNext_values_end gO st da (uT Op) (Bb,I.turned (t':=s.toks) uH f0 f1 f3 f4 f5))
  self:=fun A i s Q E st h=>wpAny_pyIter_valiter st h
noncomputable def xxv (X:Cx) (to:TE):TI:=zhU (Itw d ob kvs)
section
variable {X:Cx}{o:Expr}{to:TE}{tg:Expr}{apos cpos:Pos}
theorem xjp (ho:BO) (hbase:Db "values":=by rfl) (hline:Dm:=by rfl) :
    PI X tg (Di "values" []) (xxv X to):=by
  intro pins s Z H R I h;show(zaX,ho pins s Z H _ I h,fun v s1 ⟨x,H1,I1,r1,q1⟩=>?_);obtain⟨d,kvs,e1,e,q⟩:83:=q1;ext Ip;obtain⟨z,hd,⟨vs,rel,dd⟩⟩:43:=Rw;obtain⟨ob,es,ep,g,ex,hdat,hk,hp,hn⟩:106:=id dd;refine⟨86, "dict", "dict.values",Yt,PySem.F.slot_dict_values,PySem.F.type_dict_values,dd.typeIs,am a e2,zbL⟩
  . ext zaS
  refine YT PySem.F.slot_dict_values dd.typeIs PySem.F.entry_dict_values (PySem.F.args_dict_values_1 _) (meets_dict_values lI d hd) (dQ ⟨vs,dd⟩);show(cA,da,(XQ,"dict_values",#[dF]).DictAt lI d vs ep,⟨86,ob,es,CQ,ex,hdat,hk,hp,hn⟩,wpAny_pyIter_values (s:=WH) qH da ?_);have I2:cT H1 WH:=Ng;generalize hs2:(WH:Shared)=s2 at I2;have g2:zmy:=dE hs2 CQ
  show(zR,oW,s2,Uq zdp);have I4:cT oW zir :=
    WE
  have fin:PIE X pins Z tg R xB zir:=by
    show(UT,⟨66,oW,rfl,I4,xmb d _ ob kvs ep PN,?_,gP,q ob (I1.nofrz e)⟩)
    . ext wU
      show Heap.IsValIter _ _ d 0 kvs.length ep;rw[hl];exact qH
    . ext X9
  exact fin
#check _
#check L2
namespace L2
open PySem PySem.Spec PyProof.Rows XL
theorem xnv:Ny "list_reverseiterator" "__len__" none:=U5
theorem xq9:Ny "list_reverseiterator" "__length_hint__" (Bc "list_reverseiterator.__length_hint__"):=U5
section
variable {prog:Program}{w:World}{A:Around}{E:Value->Shared->Prop}{s:Shared}
theorem xrk {I l:Addr}{i:Int}{Q:yL} (hit:OA i) (h:S4):wpAny aS A (Builtin.List.listLengthHint (.ref I)) Q E s:=by
 unfold Builtin.List.listLengthHint;show(L3,hit.typeIs,xnv);show wpAny _ _ (specialOf (Zr I) (Z8 "__length_hint__")>>=_) _ _ _;show(L3,hit.typeIs,xq9);generalize hid:("list_reverseiterator.__length_hint__":String)=id0
 wp_delta
 rw[show splitId id0=some ("list_reverseiterator", "__length_hint__") from by subst hid; ext Fk];subst hid;show(bm,QH (T:="list_reverseiterator") (b:=true) hit.typeIs (by rw[isSubtype_type]; kernel_rfl) ?_);refine Qs (fun hab=>absurd hab ap) Tg;refine Qs Tg (fun hab=>absurd aP hab);refine Qs (fun hab=>absurd hab aP) Tg;exact Zk h
theorem xot {R:R7} (hh:xX) {I l:Addr}{items:gL} (hne:l≠I) (S:Addr) (hSI:S≠I) (hSl:S≠l) (res:Value) (c₀:Nat) (hit:OA zao) (hl:zpj)
    (hS:uG S (eP,"list",.seq #[] c₀)) (hn:zbr)
    (hR:∀ h' tk acc' c',(mC,b≠S,b≠I->fY->qv)->h'.get? S=some (zdH acc') ->
      zfW->R (.ok (.ret res)) Ci) :
    wpAny aS A.in1 (Vm (.ref S) res)
      (mG,fin,match fin with|.done f=>R (.ok f) s'|.again c'=>c'.quiet=true/\codeAny aS A c' R s') zoK s:=by
  show(dG,hSf,S∉[I,l],wJ hSI hSl,W,(Walks.listRev (prog:=prog) (w:=w) (A:=A.in1) hh I l hne items).toS);unfold Builtin.List.listExtendWith;show(bm,Qw hit.typeIs ?_);show(rS,h1,Builtin.List.listSameRef (.ref S) (.ref I),wJ Builtin.List.listSameRef hSI)
  show(znv,h2,"list")
  show(znv,h3,"tuple")
  simp only[h1,h2,h3,Bool.or_false,Zz,if_false];show(bm,wpAny_pyIter_revIter hit ?_);show(vH,xrk hit ?_);ext dB ap;have hit0:OA (zao-rq):=by simpa using hit
  refine Zk ⟨QC F.plain_extend_loop _,codeAny_extend_loopS W hn S hSf res items.size 0 _ #[] c₀ rfl fV ⟨fV,hit0,hl⟩ hS (ItemsOf.nil _) fun s' acc' c' hm hS' hacc=>?_⟩;show(qj,Moved.eq_with hm,hR s'.heap s'.toks acc' c' (fun b o hb hb2 e=>hm.heap b o (bZ hmem) e) hS' hacc);rcases dU hmem with e'|hmem
  . exact hb e'
  . exact hb2 (Zp.mp hmem)
theorem xkb {Q:bj} (hh:xX) {I l:Addr}{items:gL} (hne:l≠I) (hit:OA zao) (hl:zpj) (hn:zbr)
    (hQ:∀ h' tk acc' c',(∀ b o,b≠I->fY->qv) ->
      (VA (zdH acc'))->zfW->Q eZ Ci) :
    wpAny aS A (call (.type "list") [.ref I]) Q E s:=by
  refine callType_codes (Q₁:=zio zbk) F.called_list (F.typeCall_list_1 _) F.entry_list_init
    (code_list_new _ yW) (aI obj s₁ h₁)
  show(ia,rfl,h₁);have hS:(zbk).get? s.heap.objs.size=some (eP,"list",.seq #[]):=iJ;have iI:I<s.heap.objs.size:=Od hit
  show(ay,il,mU l,Od hl,(ip,dY hS,F.args_list_init_2 _ _));show wpAny _ _ (do let old <- Builtin.List.listItems (.ref s.heap.objs.size); Builtin.List.listUpdate eZ SC; letGo old.toList.reverse; Vm eZ .none) _ _ _;ext lY;unfold Builtin.List.listItems;show(bm,Wf hS rfl (Zk ?_));show wpAny _ _ (updateSeq s.heap.objs.size SC>>=fun _=>letGo (Fs).toList.reverse>>=fun _=>Vm eZ .none) _ _ _;show(bm,wpAny_updateSeq hS rfl ?_);have hS₂:=JF (JO (fun _=>Fs)) hS rfl;have oth:(mC,fY,((zbk).update s.heap.objs.size (JO (fun _=>Fs))).get? b=some o) :=
    (pV,(Y1 _ _ (JT (Zv e))).trans ui)
  refine Zc (wpAny_letGo ?_);refine xot (A:=A.in1) hh hne s.heap.objs.size (JT iI) (JT il) .none _ (hit.at (oth I)) (hl.at (oth l)) hS₂ hn fun h' tk acc' c' hk hS' hacc=>?_;show(aO,rfl,hQ h' tk acc' c' (ux,hk b o (ZG (Zv e)) hb (oth b o e)) hS' hacc)
#check _
noncomputable def xwe (K:Zd) (ta:TA):TE:=(zqF,∃ a xs,(aR,vs,fF,En,∀ l,uX->Q bQ (dN H1 l xs.reverse)))
section
variable {X:Cx}
theorem xn3 {a:Expr}{ta:TA}{p p2 pos pos2:Pos} (hc:iT) (hg:Gl X "list") (hm:qP "list") (hg2:Gl X "reversed") (hm2:qP "reversed") (ha:Iz)
    (hs:Iv:=by rfl) (hs3:(SR,[Au "reversed"],jx (Au "reversed")):=by rfl) :
    uj (.Name "list" p) [Au "reversed"] (xwe X.K ta):=by
  intro pins s Z H Q I h;refine Yg (xcs I hg hm PyProof.Rows.Boot.«list» ?_);refine Je ?_ (fh hs3) rfl;rw[hs3];show wpAny _ _ (ziQ "reversed") _ _ s;refine Yy ?_;refine Call_ (xcs I hg2 hm2 PyProof.Rows.Boot.«reversed» (Sm,ha pos2 pins s Z H _ I h,fun us s1 ⟨vs,H1,I1,r1,q1⟩=>?_));obtain⟨l,xs,e,hq,q⟩:83:=q1;ext ML l;ext Sk Su;have hlen:=rv.length;refine call_reversed_list p.isList ?_;refine YZ ?_;have I2:cT H1 zqe:=Ng;have hit:Heap.IsRevIter V2 s1.heap.objs.size l WN:=qH
  have hll:l<s1.heap.objs.size:=Od (p.isList)
  have hl2:(V2).IsList l its.toArray:=p.isList.at (zW ui);have f2:=I1.fpOk (Zl s1.heap.objs.size) NX;generalize hs2:(zqe:Shared)=s2 at I2;have hit':s2.heap.IsRevIter s1.heap.objs.size l WN:=dE hs2 hit
  show(cA,hl2',s2.heap.IsList l its.toArray,dE hs2 hl2,xkb gO (ZG hll) hit' hl2' WZ fun h' tk acc' c' hk hS' hacc=>?_);show(zR,H1,{ s2 with heap:=h',toks:=tk },I2.turned (t':=tk) (it:=s1.heap.objs.size) (ux,hk b o hb e) NX (aW f2) (aW (bS f2)) (zY (bS f2)) (bS (bS f2.2)));have z2:s1.heap.objs.size<s2.heap.objs.size:=Od hit'
  have e1:acc'.toList.length=xs.reverse.length:=by rw[List.length_reverse,hlen]; simpa using hacc.1
  show(Im,I2.size_lt (Zl s2.heap.objs.size));refine(cN,xB,_,I3.adopt n0 I2.sz nL nC nP (show xa6 X.prog X.w _ h' _ (.lst xs.reverse) from ⟨av List.length_reverse hz,(bw,acc'.toList,c',xm4 e1 (bJ j y u ey eu),by simpa using hS')⟩),q _ n0);have eu':b9 acc' u:=by simpa using eu
  have lt:j<xs.length:=by
    show(wz,ft ey)
  have h2:=hacc.2 j u eu';rw[List.getElem?_reverse lt] at ey;show(af,u',hu',ru',rv.get ey);have h2':(dO,its,its.length-1-j,u):=AH
  rw[<- hlen,hu'] at h2';ext rQ h2' ru'
#check _
noncomputable def Itkd (d:Addr) (o:Obj) (kvs:aL):It :=
 (MK,H'=H/\∃ k x,h7/\v=kV k)
theorem xpi {P:Program}{w:World}{K:Zd}{tg:Expr} (d it:Addr) (o:Obj) (kvs:aL) (ep:Nat) (hep:KA) :
    Turn P w K tg (Itkd d o kvs) rW it (d0 h Vg) where
  mem:=ah
  obj:=fun i h st b hb=>by
    ext Vx
  keep:=fun i h h' ⟨o1,e1,r⟩ k=>Nm
  item:=by
    intro X hP hw hK hc i pins s Z H E I hf st hg;ext iE;ext Dc lt;obtain⟨f0,f1,f2,f3,f4,f5⟩:46:=j0;ext Vf;rw[hl] at st;refine wpAny_pyNext_dict_item st da hv (bJ key h' hkey hit' hs);show(U8,xgr (s:=gJ) g2 c2 d2 ap ?_,I.turned (t':=s.toks) (yu,(hs.2 b hb).trans g) f0 f1 f3 f4 f5);rw[<- hl] at hit';exact⟨85,qh,H,I1,xlu hkey,(eG,bw k x hx rfl),hit',Fe⟩
  done:=by
    intro X hP hw hK hc i pins s Z H E I hf st hg;ext iE;ext Dc le;obtain⟨f0,f1,f2,f3,f4,f5⟩:46:=j0;ext wU;show(bO,hl,st,wpAny_pyNext_dict_end gO st da (uT Op) (Bb,I.turned (t':=s.toks) uH f0 f1 f3 f4 f5))
  self:=fun A i s Q E st h=>Wi st h
noncomputable def xxd (to:TE):TI:=(U0,H1 d=some (.dK kvs),∀ ob,R HU oW)
section
variable {X:Cx}{o:Expr}{to:TE}{tg:Expr}
theorem xnm (ho:BO):PI X tg o (xxd to):=by
 intro pins s Z H R I h;show(kD,ho pins s Z H _ I h,fun v s1 ⟨x,H1,I1,r1,q1⟩=>?_);obtain⟨d,kvs,e1,e,q⟩:83:=q1;ext Ip;obtain⟨z,hd,⟨vs,rel,dd⟩⟩:43:=Rw;obtain⟨ob,es,ep,g,ex,hdat,hk,hp,hn⟩:106:=id dd;have da:s1.heap.DictAt lI d vs ep:=⟨86,ob,es,g,ex,hdat,hk,hp,hn⟩
 refine wpAny_pyIter_dict hd da ?_;show(zR,oW,s1,Us HZ);have I4:cT oW (Og,"dict_keyiterator",#[dF,tN,OP,yQ]) :=
  znC
 show(UU,⟨66,oW,rfl,I4,xpi d _ ob kvs ep PN,?_,gP,q ob⟩)
 .ext wU;show Heap.IsKeyIter _ _ d 0 kvs.length ep;rw[hl];exact qH
 .show(UF,s1.heap.objs.size)
#check _
#check L2
namespace L2
open PySem PySem.Spec PyProof.Rows XL
open AutoSeq1 (wpAny_loadPart')
#check L2
namespace L2
open PySem PySem.Spec PyProof.Rows XL
#check L2
namespace L2
open PySem PySem.Spec PyProof.Rows XL PySem.W PySem.Builtin PySem.Builtin.Str
section
variable {J:It}{n:Nat}{g:TG}{Z:St}{fr:List Nat}{tc:TT}{te:TE}{l:Addr}{H1:Hp}{Q:VK}
theorem xh1 {K:Zd}{a:Addr}{xs:ag} (hs:En) (hlen:HK) (hl:uX) (F:Nat->zi) (F0:∀ H,S8->F 0 [] H) (stab:∀ i ys zs H H',(bb,ax l (.lst zs),Aw l,F i ys H,F i ys H'))
    (step:∀(i:Nat) (x:V) (ys:ag) H2,(bg,vx,m8,OF ys,F i ys H2,(zhv,F aH (ys++[y]) H')))
    (fin:(GD,xs.length,F xs.length ys H2)):xdy zb n g Z fr xdj te l H1 Q:=by
  refine xc3 xs.length (zoR,i,F i ys H2) ?_ ?_ ?_ ?_
  . have s0:Same H1 (oh H1 l):=fun b u e=>by
      show(aB,gY hl,e)
    exact(bR,s0,xj,rfl,F0 _ s0)
  . rintro i ys H2 lt ⟨s,_⟩
    exact(bw,xs,xs[i],Po,jh)
  . rintro i ys H2 v H3 lt (⟨s,el,ly,f⟩:44) ⟨rfl,yv⟩ N hN
    have hv:=yv xs (Same.seqL s hs);refine xhm (i:=i) (step i v ys H3 hv s el f _ (cI y H' s' f'));have el':=s' _ _ el;show(dc,el',aa,hN _ _ (bR,vN,xj,cM ly,stab _ _ _ _ _ el' vM f'))
    . show(aB,gY hl,s' _ _ (s _ _ e))
    . ext ir nb e
  . rintro ys H2 (⟨s,el,ly,f⟩:44)
    show(aO,⟨xs,Po,bp⟩,fin ys H2 s el ly f)
#check _
#check L2
namespace L2
open PySem PySem.Spec PyProof.Rows XL PySem.W
#check L2
namespace L2
open PySem PySem.Spec PyProof.Rows XL PySem.W PySem.Builtin PySem.Builtin.Str
#check L2
namespace L2
open PySem
noncomputable def th (a b:Int):Int:=reduceHash (Builtin.Tuple.tupleHashOf [hashInt a,hashInt b])
#check L2
namespace XL
open PySem PySem.Spec PyProof.Rows
noncomputable def xua (acc:ai) (x:Str):ai:=if acc.any (· == x)=true then acc else KM
#check XL
namespace L2
open PySem PySem.Spec PyProof.Rows XL
noncomputable def xx2 (xs:ai):Nat:=(xs.foldl xua []).length
#check L2
namespace XS
open PySem PySem.SetTable
noncomputable def Up (xs:c8):Prop:=∀ a b,a<b->b<xs.size->xs.getD a 0<xs.getD b 0
theorem xm2 {xs:c8}{k d e:Nat} (h:k<xs.size):xs.getD k d=xs.getD k e:=by
 simp[Qe,h]
theorem xhn {xs:c8}{j:Nat} (up:Up xs):∀(fuel lo hi:Nat),hi-lo<=fuel->lo<=hi->hi<=xs.size->(∀ k,k<lo->zeA<j)->(zma hi) ->
    (zmg WA)
  | 0,lo,hi,hf,hl,hs,h1,h2=>by
    ext zqs
  | fuel+1,lo,hi,hf,hl,hs,h1,h2=>by
    unfold below.go;by_cases c:lo<hi
    . rw[az c]
      have ml:yi<hi:=aa
      have mg:lo<=yi:=aa
      show (let mid:=yi; _)<=_/\_;simp only[];by_cases d:xs.getD yi j<j
      . rw[az d]
        refine xhn up fuel _ hi aa aa hs (am k hk) h2;rw[xm2 (e:=0) aa] at d;rcases YD k yi with z|z
        . exact ZJ (up k _ z aa) d
        . have:k=yi:=aa
          ext aB this d
      . ext dB d
        rw[xm2 (e:=0) aa] at d;refine xhn up fuel lo _ aa aa aa h1 (aI k hk ks);rcases YD yi k with z|z
        . exact JJ (JQ (QK d) (up _ k z ks))
        . have:k=yi:=aa
          rw[this];exact QK d
    . ext dB c
      ext zqs
theorem xh4 {xs:c8} (up:Up xs) (j:Nat):zmg IU :=
 xhn up xs.size 0 xs.size aa aa bp (fun k hk=>aa) zbd
theorem xq6 {xs:c8} (up:Up xs) {j i:Nat} (h:aF xs j):below xs j=i:=by
 show(i5,hi,YC.mp h);have g:xs.getD i 0=j:=by simp[Qe,hi,e]
 show(fO,b1,b2,b3,xh4 up j);rcases Nat.lt_trichotomy IU i with z|z|z
 .show(wc,b3 IU bp aa,up _ i z hi)
 .exact z
 .show(db,b2 i z)
theorem xj3 {t:SetTable} (up:I0) {j i:Nat}:(sv j)↔(aF t.place j):=by
 unfold slot;simp only[];constructor
 .intro h
  split at h
  .rename_i c
   cases h;exact Wo c
  .ext Lg h
 .intro h
  rw[xq6 up h,zks h]
theorem xia {t:SetTable} (up:I0) (dm:PR) {j:Nat} (h:∀ i:Nat,t.place[i]?≠some j):oP j:=by
 unfold slot;simp only[];rw[(lM,c,h _ (Wo c)),dm,if_neg];unfold has;simp
theorem xsu {t:SetTable} (up:I0) (dm:PR) (j:Nat):(oP j)\/∃ i,sv j:=by
 by_cases c:∃ i:Nat,aF t.place j
 .obtain ⟨i,hi⟩:=c;show(jy,i,(xj3 up).mpr hi)
 .show(cH,(xia up dm (d0,z,c ⟨i,z⟩)))
structure Ps where
 j:Nat
 more:Nat
 i:Nat
 pt:Nat
noncomputable def adv (mask:Nat) (p:Ps):Ps:=Tw p.more { p with j:=p.j+1,more:=p.more-1 } ⟨Nu,(yU Nu)-Nu,Nu,(leap mask p.i p.pt).2⟩
noncomputable def st0 (mask:Nat) (h:Int):Ps:=⟨lZ,(yU lZ)-lZ,lZ,zO⟩
noncomputable def way (mask:Nat) (h:Int):Nat->Ps
 | 0=>st0 mask h
 | eX=>zdX
noncomputable def toP (p:Ps):Probe:=⟨p.j,p.more,p.i,p.pt,none⟩
theorem xp9 (t:SetTable) (p:Ps):t.advance wH=toP (adv t.mask p):=by
 unfold advance adv;by_cases c:p.more>0
 .rw [az (show (wH).more>0 from c),zH];rfl
 .rw [aM (show ¬ (wH).more>0 from c),wp];rfl
noncomputable def rnd (mask:Nat) (h:Int):Nat->Nat × Nat
 | 0=>(lZ,zO)
 | r+1=>leap mask f8 AL
noncomputable def nAt (mask:Nat) (h:Int):Nat->Nat
 | 0=>0
 | r+1=>jU+Ac+1
theorem xiq (mask i:Nat):i<=(yU i)/\(yU i)-i<=9:=by
 unfold runEnd;ext lQ
theorem xiu {mask:Nat}{h:Int}{r:Nat} (e:zmQ) :
    ∀ k,k<=Ac->(vJ (jU+k))=⟨f8+k,LU-f8-k,f8,AL⟩
  | 0,_=>e
  | dk,hk=>by
    show adv mask (vJ (jU+k))=_;rw[xiu e k aa];unfold adv;rw[az (gg,LU-f8-k>0)];show Ps.mk _ _ _ _=_
    congr 1
theorem xiy (mask:Nat) (h:Int):∀ r,zmQ
 | 0=>rfl
 | r+1=>by
  have e:=xiy mask h r;show adv mask (vJ (jU+Ac))=_;rw[xiu e _ bp];unfold adv;rw[aM (gg,¬ LU-f8-Ac>0)];rfl
theorem xqj (mask:Nat) (h:Int):∀ r,jU<=10*r
 | 0=>bp
 | r+1=>by
  have:=xqj mask h r;have:=xiq mask f8;show jU+_+1<=_;omega
theorem xqm (mask:Nat) (h:Int) (r k:Nat) (hk:k<=Ac):(vJ (jU+k)).j=f8+k:=by
 rw[xiu (xiy mask h r) k hk]
theorem xr5 (mask:Nat) (h:Int):∀ r,AL=zO / 32 ^ r
 | 0=>(Nat.div_one _).symm
 | r+1=>by
  show AL / 32=_;rw[xr5 mask h r,Nat.div_div_eq_div_mul,Nat.pow_succ]
theorem pt_0 (mask:Nat) (h:Int) (r:Nat) (hr:13<=r):AL=0:=by
 rw[xr5];refine Nat.div_eq_of_lt ?_;have b:zO<nK:=by
  unfold bits;show(wc,Wz h (sJ,kd<nK),QZ h (sJ,(bA nK)≠0))
 refine ZD b (ZZ (sJ,nK<=32 ^ 13) (Nat.pow_le_pow_right ap hr))
noncomputable def lcg (mask:Nat):BX Nat
 | 0,i=>i
 | m+1,i=>(lcg mask m i*5+1) % mw
theorem xi1 (mask:Nat) (h:Int):∀ m,zpl=lcg mask m (rnd mask h 13).1
 | 0=>rfl
 | m+1=>by
  show (leap mask zpl (rnd mask h (13+m)).2).1=_;unfold leap;rw[pt_0 mask h (13+m) aa,xi1 mask h m];rfl
noncomputable def MkOk (mask:Nat):Prop:=mask=7\/mask=31
theorem cov7:zjw 8 7:=aP
theorem xxt:zjw 32 31:=aP
theorem xv1 (mask:Nat) (h:Int):∀ r,f8<mw
 | 0=>zle
 | r+1=>zle
theorem xmr {mask:Nat} (mk:Kv) (h:Int) (s:Nat) (hs:s<=mask):∃ r,r+1<EY/\f8=s:=by
 have l:=xv1 mask h 13;rcases mk with rfl|rfl
 .show(eE,m,hm,e,cov7 _ l s aa);ext zjz
 .show(eE,m,hm,e,xxt _ l s aa);ext zjz
theorem xts {mask:Nat} (mk:Kv) (h:Int) (s:Nat) (hs:s<=mask):∃ n,n<10*EY/\(nS).j=s:=by
 show(af,r,hr,e,xmr mk h s hs);have:=xqj mask h r;show(aE,jU,aa,av xiy e)
theorem xq3 {t:SetTable}{hashAt:KY}{h:Int}{f:Nat}{p:Ps} (z:oP p.j):(DX (f+1) wH)=some (.empty p.j none):=by
 unfold probe.go;rw[Lb (oP,(wH).j)];rfl
theorem xsz {t:SetTable}{hashAt:KY}{h:Int}{f i:Nat}{p:Ps} (z:sv p.j) (e:zcZ):(DX (f+1) wH)=some (.candidate p.j i (toP (adv t.mask p))):=by
 unfold probe.go;show(Li,Lb (sv,(wH).j));rw[zks e,xp9];rfl
theorem xtq {t:SetTable}{hashAt:KY}{h:Int}{f i:Nat}{p:Ps} (z:sv p.j) (e:hashAt i≠h):(DX (f+1) wH)=(DX f (toP (adv t.mask p))):=by
 conv=>lhs; unfold probe.go
 show(Li,Lb (sv,(wH).j));rw[(lM,q,e (Wo q)),xp9]
theorem xl6 {t:SetTable} (up:I0) (dm:PR) (hashAt:KY) (h:Int):∀(f n:Nat),(∃ m,n<=m/\m<n+f/\(oP np)) ->
    ∃ m,n<=m/\(∀ k,n<=k->k<m->∃ i,(sv,(vn k).j)/\hashAt i≠h) /\
      ((nJ (DX f (toP (vn n))) (.empty np none) (oP np)) \/
        ∃ i,(DX f (toP (vn n)))=some (.candidate np i (toP (vn (m+1))))/\(sv np)/\zcZ)
  | 0,n,⟨m,a,b,_⟩=>aa
  | f+1,n,⟨m,a,b,c⟩=>by
    rcases xsu up dm (vn n).j with z|⟨i,z⟩
    . exact(bi,n,bp,zbd,.inl ⟨xq3 z,z⟩)
    . by_cases e:zcZ
      . exact(bi,n,bp,zbd,.inr (bi,i,xsz z e,z,e))
      . have ne:n≠m:=fun q=>by ext Cv q z c
        show(bF,m',a',b',c',xl6 up dm hashAt h f eX (bi m aa aa c));refine(bi,m',aa,aI k h1 h2,?_)
        . rcases YD n k with y|y
          . exact b' k aa h2
          . ext FF k n;ext aE i z e
        . show(aB,xtq z e,c')
noncomputable abbrev Row:=Nat × zdF
structure Tab (t:SetTable) (es:vE) (L:K0):Prop where
 pl:t.place.toList=L.map (·.1)
 el:es.toList=L.map (·.2)
 srt:(L.map (·.1)).Pairwise (·<·)
 dm:PR
 mok:MkOk t.mask
 bd:∀ e∈L,e.1<=t.mask
 rc:∀ e∈L,∃ n,(way t.mask Gh n).j=e.1/\∀ m,m<n->(ET Gh m)∈L.map (·.1)
variable {t:SetTable}{es:Array (Int × Value)}{L:List Row}
theorem Tab.size (T:lN):t.place.size=L.length/\es.size=L.length:=by
 constructor
 .rw [<- JE,T.pl,Za]
 .rw [<- JE,T.el,Za]
theorem Tab.at_ (T:lN) (i:Nat):t.place[i]?=(L[i]?).map (·.1):=by
 rw[<- JG,T.pl,Zf]
theorem Tab.es_ (T:lN) (i:Nat):es[i]?=(L[i]?).map (·.2):=by
 rw[<- JG,T.el,Zf]
theorem xg6 {xs:c8}{k:Nat}{v:Nat} (h:dO xs k v):xs.getD k 0=v:=by
 show(i5,hk,YC.mp h);simp[Qe,hk,e]
theorem Tab.up (T:lN):I0:=by
 intro a b ab hb;rw[T7] at hb;have ha:a<L.length:=aa
 rw[xg6 (fQ,T.at_,Zb ha),xg6 (fQ,T.at_,Zb hb)];show(wz,JB.mp T.srt a b (gE ha) (gE hb) ab)
theorem Tab.live (T:lN) {j i:Nat}:(sv j)↔∃ e,(aF L e)/\e.1=j:=by
 rw[xj3 T.up,T.at_,Zh]
theorem Tab.free (T:lN) {j:Nat}:(oP j)↔j∉L.map (·.1):=by
 constructor
 .intro h z
  ext pG e he ej z;ext Nq;have:=T.live.mpr ⟨e,IT,ej⟩;ext BB h
 .intro h
  refine xia T.up T.dm (d0,z,h ?_);rw[T.at_,Zh] at z;ext af e he ej z;exact Ze.mpr ⟨e,Zm he,ej⟩
theorem Tab.some_free (T:lN) (lt:zaK) (h:Int):∃ n,n<Ol/\(oP,(vn n).j):=by
 refine YH (bZ c);have all:∀ s,s<=t.mask->s∈L.map (·.1):=fun s hs=>by
  refine YH l0;show(af,n,hn,e,xts T.mok h s hs);exact c ⟨n,hn,by rw[e]; exact T.free.mpr z⟩
 have:=List.nodup_range (n:=t.mask+1) |>.length_le_of_subset (l₂:=L.map (·.1)) (me,all s (d7,ZT.mp hs))
 rw[Jb,Za] at this;omega
theorem Tab.absent (T:lN) {h:Int}{m:Nat} (em:oP np) {P:Value->Prop} (seen:∀ k,k<m->∀ i e,(bb,(sv,(vn k).j),aF L e,Gh=h,¬ P (bS e))):∀ e∈L,Gh=h->¬ P (bS e):=by
 intro e he eh p;show(af,n,hn,hm,T.rc e he);rw[eh] at hn hm;have lt:n<m:=by
  rcases Nat.lt_trichotomy n m with z|z|z
  .exact z
  .rw [z] at hn;show(bO,hn,em,absurd (Ze.mpr (b5 e he)) (T.free.mp em))
  .exact absurd (hm m z) (T.free.mp em)
 ext Nq;show(ki,li,aF L e,IT,seen n lt i e (T.live.mpr ⟨e,li,hn.symm⟩) li eh p)
theorem xlg {α:Type} (xs:Array α) (p:Nat) (x:α) (hp:p<=xs.size):(insertAt xs p x).toList=xs.toList.take p++x::xs.toList.drop p:=by
 unfold insertAt;simp[Array.toList_extract,List.extract];exact Jx ah
theorem Tab.add (T:lN) {h:Int}{x:Value}{m:Nat} (em:oP np) (be:∀ k,k<m->(vn k).j∈L.map (·.1)) (jm:np<=t.mask) :
    ∃ L',L'.Perm ((np,h,x)::L)/\Tab (t.put np).1 (insertAt es (t.put np).2 (h,x)) L'/\(t.put np).1.mask=t.mask:=by
  generalize hj:np=j at *;have nj:=T.free.mp em;show(fO,b1,b2,b3,xh4 T.up j);have e2:(t.put j).2=zbi:=rfl;have em':(t.put j).1.mask=t.mask:=rfl;rw[e2];generalize hp:zbi=p at *;have pl:p<=L.length:=by ext bO T7 b1 b1
  have lo:∀ e∈Ub,e.1<j:=fun e he=>by
    ext Nq;rw[J0] at hi;show(HD,b2 i aa,ziV List.getElem_take)
  have hi:∀ e∈Ua,j<e.1:=fun e he=>by
    ext Nq;rw[List.length_drop] at hi;show(ve,b3 (p+i) aa (qM T7),ziV List.getElem_drop);refine Nat.lt_of_le_of_ne this (aC,nj ?_);show(Lf,z,(b5,e,Wl he))
  have pm:(zae).Perm ((j,h,x)::L):=by
    have:=(Qf (a:=(j,h,x)) (l₁:=Ub) (l₂:=Ua))
    rwa [Y7] at this
  refine bi zae pm ⟨?_,?_,?_,?_,T.mok,?_,?_⟩ em'
  . show (insertAt t.place zbi j).toList=_
    rw[hp,xlg _ _ _ b1,T.pl,Zq,Zo,Qk,Ql]
  . rw[xlg _ _ _ (av yX pl),T.el,Zq,Zo,Qk,Ql]
  . rw[Zq,Zo,List.pairwise_append,Wy]
    have sub1:((Ub).map (·.1)).Pairwise (·<·):=by rw[Qk]; exact T.srt.sublist (Q8 _ _)
    have sub2:((Ua).map (·.1)).Pairwise (·<·):=by rw[Ql]; exact T.srt.sublist (List.drop_sublist _ _)
    show(dc,sub1,⟨gP,sub2⟩,cI a ha b hb)
    . ext fL e he hb
      exact hi e he
    . ext fL e he ha
      rcases dU hb with rfl|hb
      . exact lo e he
      . ext fL e' he' hb
        exact ZJ (lo e he) (hi e' he')
  . show (if has t.dummies j then eraseAt t.dummies (below t.dummies j) else t.dummies)=#[]
    rw[T.dm,if_neg];unfold has;simp
  . intro e he
    rcases znl with rfl|he
    . exact jm
    . exact T.bd e he
  . intro e he
    have more:∀ s,s∈L.map (·.1)->s∈(zae).map (·.1):=fun s hs=>by
      ext fL e' he' hs;exact Ze.mpr (b5,e',pm.mem_iff.mpr (Zj _ he'))
    rcases znl with rfl|he
    . show(aE,m,hj,fun k hk=>more _ (be k hk))
    . show(af,n,a,b,T.rc e he)
      show(aE,n,a,fun k hk=>more _ (b k hk))
#check XS
namespace XS
open PySem PySem.SetTable
noncomputable abbrev Own:=Array (Option Nat)
noncomputable def xbx (o:Own) (j:Nat):Bool:=(zeh).isSome
theorem xjs (mask:Nat) (h:Int) (o:Own):∀(fuel r:Nat),(∃ r',r<=r'/\r'<r+fuel/\xbx o (rnd mask h r').1=false) ->
    ∃ n,(bE,jU<=n,layClean.free mask o fuel f8 AL=some (nS).j,xbx o (nS).j=false,∀ m,jU<=m->m<n->xbx o (vJ m).j=true)
  | 0,r,⟨r',a,b,_⟩=>aa
  | fuel+1,r,⟨r',a,b,c⟩=>by
    unfold layClean.free;have rl:=xiq mask f8;cases hf:(Ph).find? fun k=>(o.getD (f8+k) uf).isNone with
    | some k =>
      simp only[];obtain⟨hk,as,bs,e,nb⟩:=List.find?_eq_some_iff_append.mp hf;have kin:k∈Ph:=Zy hf;have kl:=ZT.mp kin;show(ay,hw,∀ m,m<=k->(vJ (jU+m)).j=f8+m,fun m hm=>xqm mask h r m aa,(lu,jU+k,aa,(fW,hw k bp),?_,aI m h1 h2))
      . rw[hw k bp]
        unfold xbx;revert hk;cases o.getD (f8+k) uf<;>simp
      . ext zoo
        rw[hw d aa];have din:d∈as:=by
          have al:as.length=k:=by
            have g:dO Ph as.length k:=jX e
            rw[Yb] at g
            . exact ZE.inj g
            . show(zcl,congrArg Yd e)
          have g:dO Ph d d:=Yb aa;rw[e,ZQ aa] at g;exact Zm g
        show(zid,nb d din)
    | none =>
      simp only[];have all:=J6.mp hf;have run:∀ d,d<=Ac->xbx o (f8+d)=true:=fun d hd=>by
        show(zid,all d (ZT.mpr aa))
      have ne:r≠r':=fun q=>by
        have:=run 0 fV;rw[Nat.add_zero,q,c] at this;cases this
      obtain⟨n,a1,a2,a3,a4⟩:64:=xjs mask h o fuel (r+1) (bi r' aa aa c);have nx:nAt mask h (r+1)=jU+Ac+1:=rfl;refine(lu,n,aa,a2,a3,aI m h1 h2);rcases YD m (nAt mask h (r+1)) with z|z
      . ext zoo
        show(aB,xqm mask h r d aa,run d aa)
      . exact a4 m z h2
structure Lay (mask:Nat) (hs:bK) (k:Nat) (o:Own):Prop where
 sz:o.size=mw
 own:∀ j i:Nat,(b9 o zK)->∃ h,i<k/\(aF hs h)/\∃ n,(nS).j=j/\∀ m,m<n->xbx o (vJ m).j=true
 has:∀ i:Nat,i<k->∃ j:Nat,b9 o zK
 inj:∀ j j' i:Nat,(b9 o zK)->(dO o j' zK)->j=j'
theorem xcy {o:Own}{j:Nat} (h:j<o.size) (d:cX Nat):b9 o (o.getD j d):=by
 rw[Ju h];simp[Qe,h]
theorem Lay.room {mask k:Nat}{hs:bK}{o:Own} (Y:Lay mask hs k o) (lt:k<=mask):∃ s,s<=mask/\xbx o s=false:=by
 refine YH (bZ c);have all:∀ s:Nat,s<mw->∃ i:Nat,dO o s zK:=fun s hs=>by
  show(jF,z,xbx o s,false,c ⟨s,aa,z⟩);have g:=xcy (o:=o) (j:=s) (av Y.sz hs) uf;unfold xbx at z;cases e:o.getD s uf with
  | none=>rw[e] at z; ext iP z
  | some i=>show(aO,i,cK g e)
 have nd:((Z1 mw).map fun s=>(o.getD s none).getD 0).Nodup:=by
  rw[YA,Ja];refine JU.imp_of_mem (Py,ne,ne ?_) List.nodup_range;obtain⟨i,hi⟩:=all a (ZT.mp ha);obtain⟨i',hi'⟩:=all b (ZT.mp hb);rw[Df ha] at hi;rw[Df hb] at hi';show(ae,e1,ZE.inj hi,e2,ZE.inj hi');rw[e1,e2] at e;ext tQ i i' e;refine Y.inj a b i ?_ ?_
  .rw [Df ha,e1]
  .rw [Df hb,e2]
 have:=nd.length_le_of_subset (l₂:=Z1 k) fun i hi=>by
  ext fL s hs' hi;obtain⟨i,hi⟩:=all s (ZT.mp hs');obtain⟨_,ik,_⟩:62:=Y.own s i hi;rw[Df hs'] at hi;rw[ZE.inj hi];exact ZT.mpr ik
 rw[Za,Jb,Jb] at this;omega
theorem Lay.more {mask k:Nat}{hs:bK}{o:Own} (mk:Kv) (Y:Lay mask hs k o) (lt:k<=mask) {h:Int} (hk:dO hs k h) :
    ∃ j,(nJ,layClean.free mask o EY lZ zO,j,Lay mask hs dk xG):=by
  show(af,s,sm,st,Y.room lt);show(af,r,hr,e,xmr mk h s sm);obtain⟨n,_,f1,f2,f3⟩:64:=xjs mask h o EY 0 (bi,r,fV,aa,av e st);generalize hj:(nS).j=j at *;have jl:j<o.size:=by
    refine YH (bZ c);unfold xbx at f2;show(cE,show zeh=some 0 by simp[Qe,c],f2)
  have oj:b9 o none:=by
    rw[xcy jl uf];unfold xbx at f2;revert f2;cases zeh<;>simp
  have new:b9 xG Gm:=cM jl
  show(bo,old,∀ j':Nat,j'≠j->xG[j']?=o[j']?,j',ne,Array.getElem?_setIfInBounds_ne (fun z=>ne z.symm));have sz:(xG).size=o.size:=ah
  have tk:∀ s,xbx o s=true->xbx xG s=true:=fun s hs=>by
    by_cases c:s=j
    . subst c
      unfold xbx;show(je,g,xcy (o:=o.setIfInBounds s Gm) (j:=s) (av sz jl) uf,new,g);rw[<- ZE.inj g];rfl
    . unfold xbx at *
      rw[Qy,old s c,<- Qy];exact hs
  refine⟨j,f1,⟨av sz Y.sz,aI j' i hi,SV,bJ a b i ha hb⟩⟩
  . by_cases c:j'=j
    . ext ul c new hi;exact(bi,h,QJ _,hk,⟨n,hj,fun m hm=>tk _ (f3 m fV hm)⟩)
    . rw[old j' c] at hi
      obtain⟨h',a,b,⟨n',d,q⟩⟩:63:=Y.own j' i hi;exact bi h' aa b ⟨n',d,fun m hm=>tk _ (q m hm)⟩
  . rcases YD i k with z|z
    . obtain⟨j',hj'⟩:=Y.has i z
      have ne:j'≠j:=fun q=>by ext uw q oj hj' hj'
      show(aO,j',(av,old j' ne,hj'))
    . have:i=k:=aa
      ext rE;ext aO j new
  . have key:∀ j' i:Nat,j'≠j->(dO xG j' zK)->i<k:=fun j' i ne hi=>by
      rw[old j' ne] at hi;obtain⟨_,a,_⟩:62:=Y.own j' i hi;exact a
    by_cases ca:a=j<;>by_cases cb:b=j
    . rw[ca,cb]
    . rw[ca,new] at ha
      cases ha;show(yY,key b k cb hb)
    . rw[cb,new] at hb
      cases hb;show(yY,key a k ca ha)
    . rw[old a ca] at ha
      show(bO,old b cb,hb,Y.inj a b i ha hb)
theorem Lay.nil {mask:Nat}{hs:bK}:Lay mask hs 0 (Array.replicate mw none):=by
 refine⟨ah,aI j i h,(d0,h,absurd h (Nat.not_lt_zero _)),cI a b i h⟩
 .show(gH,Array.getElem?_replicate);split at h<;>simp at h
 .show(gH,Array.getElem?_replicate);split at h<;>simp at h
theorem xtz {mask:Nat} (mk:Kv) (hs:Array Int) (le:hs.size<=mask):∃ o,(nJ,layClean mask hs,o,zdk hs.size o):=by
  unfold layClean;rw[<- Array.foldl_toList];have key:∀(n:Nat) (l:bK) (k:Nat) (o:Own),hs.toList.drop k=l->(zdk k o)->k+l.length=hs.size->∃ o',l.foldl (fun acc h=>do
      let (owner,k) <- acc
      let j <- layClean.free mask owner EY lZ zO
      pure (owner.setIfInBounds j Gm,dk)) (some (o,k))=some (o',hs.size)/\(zdk hs.size o'):=by
    intro _ l
    induction l with
    | nil =>
      intro k o _ Y e;rw[List.length_nil,Nat.add_zero] at e;ext cZ;ext wQ o Y
    | cons h l ih =>
      intro k o d Y e;rw[ZL] at e;have hk:dO hs.toList k h:=by
        have:=congrArg (·[0]?) d;ext IR
      show(af,j,f,Y',Y.more mk aa hk);show(af,o',q,Y2,ih dk xG (by rw[<- List.drop_drop,d]; rfl) Y' aa);show(dc,o',?_,Y2);rw[List.foldl_cons];rw[<- q]
      congr 1
      show (do let j <- layClean.free mask o EY lZ zO; pure (xG,dk))=_;rw[f];rfl
  show(af,o,q,Y,key 0 hs.toList 0 _ rfl Lay.nil ah);show(aE,o,fh q,Y)
theorem xml {mask i:Nat} (h:i<=mask):(yU i)<=mask:=by
 unfold runEnd;ext lQ
theorem xmk (mask:Nat) (h:Int):∀ n,(nS).j+(nS).more<=mask
 | 0=>by
  show lZ+((yU lZ)-lZ)<=mask;have:lZ<mw:=Nat.mod_lt (bits h) (Nat.succ_pos mask);show(wc,xiq mask lZ,xml (mask:=mask) (i:=lZ) aa)
 | eX=>by
  have ih:=xmk mask h n;show (zdX).j+(zdX).more<=mask;unfold adv;split
  .show (nS).j+1+((nS).more-1)<=mask;omega
  .show GG+((yU GG)-GG)<=mask;have l:GG<mw:=Nat.mod_lt _ (Nat.succ_pos mask);generalize GG=i at *;show(wc,xml (mask:=mask) (i:=i) aa,xiq mask i)
theorem xqi (mask:Nat) (h:Int) (n:Nat):(nS).j<=mask:=by
 show(db,xmk mask h n)
theorem xko {α β:Type}{f:zej}{g:α->β}:∀{l:b7},(∀ x∈l,f x=some (g x))->l.filterMap f=l.map g
 | [],_=>rfl
 | x::l,h=>by
  rw[Jj,h x gD,xko zed];rfl
theorem xxo {mask:Nat} (mok:Kv) (es:vE) (le:es.size<=mask) (finger moves:Nat) (led plain:Bool) :
    ∃ t' order L',laid mask finger moves led plain (es.map (·.1))=some (t',order)/\(L'.map (·.2)).Perm es.toList/\Tab t' (order.filterMap (es[·]?)) L'/\t'.mask=mask/\(aR,t'.led,led,t'.moves=moves,t'.plain=plain):=by
  obtain⟨o,eo,Y⟩:62:=xtz mok (es.map (·.1)) (av Array.size_map le);rw[Array.size_map] at Y;have live_mem:∀ j k,(j,k)∈((Z1 mw).filterMap fun j=>(PV).map (j,·))↔(b9 o Gm):=fun j k=>by
    rw[JR];constructor
    . ext qI a ha e
      rw[Zh] at e;ext af k' e1 e2 e;cases e2;rw[Df ha,e1]
    . intro e
      have jl:j<mw:=by
        show(ja,Y.sz,(YC.mp e).1)
      refine(ip,j,ZT.mpr jl);rw[xcy (av Y.sz jl) none] at e;rw[ZE.inj e];rfl
  have srt:(((Z1 mw).filterMap fun j=>(PV).map (j,·)).map (·.1)).Pairwise (·<·):=by
    rw[List.map_filterMap,List.pairwise_filterMap];refine List.pairwise_lt_range.imp fun {a b} ab x hx y hy=>?_;simp only[Option.map_map,Zh] at hx hy;obtain⟨_,_,rfl⟩:62:=hx;obtain⟨_,_,rfl⟩:62:=hy;exact ab
  have snd2:(((Z1 mw).filterMap fun j=>(PV).map (j,·)).map (·.2)).Nodup:=by
    rw[YA,Ja];have p1:=Ja.mp srt;refine JU.imp_of_mem (Py lt ?_) p1;obtain⟨j,k⟩:=a;obtain⟨j',k'⟩:=b;ext tQ k k' e;have:=Y.inj j j' k ((live_mem j k).mp ha) ((live_mem j' k).mp hb);have lt:j<j':=lt;omega
  generalize hl:((Z1 mw).filterMap fun j=>(PV).map (j,·))=live at *;have kl:∀ jk∈live,jk.2<es.size:=fun jk h=>by
    obtain⟨_,a,_⟩:62:=Y.own jk.1 jk.2 ((WT).mp h);exact a
  refine⟨106,{ mask,place:=(live.map (·.1)).toArray,dummies:=#[],finger,led,moves,plain },(live.map (·.2)).toArray,zhP,?_,?_,?_,rfl,rfl,yW⟩
  . unfold laid
    rw[eo];show some _=some _;rw[hl]
  . have pr:(live.map (·.2)).Perm (Z1 es.size):=by
      refine (List.perm_ext_iff_of_nodup snd2 List.nodup_range).mpr (bZ k);rw[ZT,Ze];constructor
      . show(qI,jk,h,rfl)
        exact kl jk h
      . intro h
        obtain⟨j,hj⟩:=Y.has k h;show(aE,(j,k),(live_mem j k).mpr hj,rfl)
    have e1:(zhP).map (·.2)=(live.map (·.2)).map fun k=>es.getD k KD:=by
      rw[Zw,Zw];rfl
    have e2:es.toList=(Z1 es.size).map fun k=>es.getD k KD:=by
      ext zlo;have h3:i<es.size:=qx
      simp[Qe,h3]
    rw[e1,e2];exact pr.map _
  . refine⟨?_,?_,?_,rfl,mok,am e he,am e he⟩
    . rw[Zw]
      rfl
    . rw[Zw,Array.toList_filterMap,List.toList_toArray,Q3]
      have:∀ jk∈live,((es[·]?)∘fun x:Nat × Nat=>cU) jk=some (es.getD jk.2 KD):=fun jk h=>by
        show es[jk.2]?=_;rw[Ju (kl jk h)];simp[Qe,kl jk h]
      rw[xko this];rfl
    . ext aB Zw srt
    . ext fL jk h he
      show(ve,(YC.mp ((WT).mp h)).1,Y.sz);show jk.1<=mask;omega
    . ext fL jk h he
      obtain⟨hh,a,b,⟨n,c,d⟩⟩:63:=Y.own jk.1 jk.2 ((WT).mp h);have eh:zoS=hh:=by
        rw[JG,Array.getElem?_map,Ju a] at b;have:=ZE.inj b;simp[Qe,a];exact this
      show ∃ n,(way mask zoS n).j=jk.1/\_;rw[eh];show(dc,n,c,am m hm);show(ae,tk,d m hm,wl,xqi mask hh m);show Oi∈_;unfold xbx at tk;have g:=xcy (o:=o) (j:=Oi) (qM Y.sz) uf;cases e:o.getD Oi uf with
      | none=>ext cE e tk
      | some k =>
        rw[e] at g;show(Lf,Zw,(b5,(Oi,k),(live_mem _ _).mpr g))
#check XS
namespace XS
open PySem PySem.Spec PySem.SetTable
section
variable {prog:Program}{w:World}{K:Type} [DecidableEq K] {knd:KeyKind prog w K}{A:Around}{E:Value->Shared->Prop}{s:Shared}
theorem xl9 (n:Nat) {v:Value} (h:Nn):ofAClassStatement n v=pure false:=by
 cases v with
 | ref a=>simp[carriedByValue] at h
 | _=>first|rfl|simp[ofAClassStatement]|(unfold ofAClassStatement; rfl)
theorem xji {ks:pT}{a:Addr}{Q:yL} (hk:o8 ks a) (h:S4):wpAny aS A (ofAClassStatement 8 aA) Q E s:=by
 have hT:=hk.typeIs;obtain⟨o,items,n,ho,hc,hd,hi⟩:104:=hk;unfold ofAClassStatement;show(bm,wpAny_typeOf_ref ho ?_);rw[hc];show wpAny _ _ ((cm,"tuple" == "tuple",pure true,isSubtype (.type "tuple") zdw)>>=_) _ _ s;rw[az ap];ext sG;ext su QD;show(bm,Wf ho hd ?_);simp only[];show(zmO,wpAny _ _ (forIn items _ _) _ _ s,wpAny_forIn_list _ (zkv,∀ v∈rest,Nn) _ ?_ ?_ _ _ (C1 hi.byValue))
 .rintro v rest r s' (⟨hr,rfl,hall⟩:43);rw[xl9 _ (hall v Zn)];ext sG;ext sj;exact Zk (C1 zlu)
 .ext zga
theorem xvs {ks:pT}{a:Addr}{Q:yL}{stored:aQ} (hk:o8 ks a) (hs:∀ y∈stored,VC) (h:S4):wpAny aS A (searchCouldBeSeen aA stored) Q E s:=by
 unfold searchCouldBeSeen;ext lY;refine wpAny_forIn_list _ (zkv,∀ y∈rest,VC) _ ?_ ?_ _ _ (C1 hs)
 .rintro y rest r s' (⟨hr,rfl,hall⟩:43);show(gQ,ks',b,rfl,hb,hall _ Zn);show(bo,nx,∀ u∈rest,∃ ks' b,u=dX/\(sP s'.heap ks' b),u,hu,hall u (Zj _ hu));simp only[];by_cases c:(F1||carriedByValue (.ref a)&&carriedByValue (.ref b))=true
  .rw [az c];exact Zk (C1 nx)
  .ext iA c;ext zld hk;ext zld hb;show(bm,xji hk ?_);ext sj;show(bm,xji hb ?_);ext sj;exact Zk (C1 nx)
 .ext zga
#check _
section
variable {prog:Program}{w:World}{K:Type} [DecidableEq K] {knd:KeyKind prog w K}{A:Around}{E:Value->Shared->Prop}{s:Shared}
noncomputable def xfn (es:vE) (i:Nat):Int:=(es[i]?.map (·.1)).getD 0
theorem xl4 {d a:Addr}{o:Obj}{es:vE}{ep:Nat}{t:SetTable}{L:K0}{k:pT}{Q:eQ SetFound} (T:lN) (ho:oB) (hd:GV) (hf:zpg)
    (hu:zcE) (hk:o8 k a) (keys:zgi)
    {n0:Nat} (he:oP (ET js n0)) (hn0:n0<Ol)
    (yes:(∃ e∈L,∃ b,(bS e)=dX/\(o8 k b))->Q (.there none) s)
    (no:∀ m,(oP (ET js m))->(∀ i,i<m->NT∈L.map (·.1))->(∀ e∈L,zkK)->Q (.free (ET js m) false) s) :
    ∀(fuel n:Nat) (stand:cX Probe),n0-n<fuel->n<=n0->stand.getD (t.probeStart (tupleKeyHash knd k))=(OS n)->(CB (UE NT)) ->
      wpAny aS A (setSearchFrom d aA js true fuel stand) Q E s
  | 0,n,stand,h,_,_,_=>aa
  | fuel+1,n,stand,hfu,hn,hst,past=>by
    unfold setSearchFrom;ext zaB;simp only[];have odd:t.gaveWay=false:=by
      unfold gaveWay;rcases T.mok with e|e<;>rw[e]<;>decide
    rw[odd];ext sj;show(bF,m,nm,pas,cse,xl6 T.up T.dm (xfn es) js Ol n (bi n0 hn aa he));have mn:m<=n0:=by
      refine QK l0;show(dL,i,e,pas n0 hn z);ext cE he e
    have seen:∀ i,i<m->(UE NT):=fun i hi=>by
      rcases YD i n with z|z
      . exact past i z
      . show(af,j,e1,e2,pas i z hi)
        show(af,e,e3,e4,T.live.mp e1);refine(bC,j,e,e1,e3,fun q=>absurd ?_ e2);unfold xfn;show(cY,T.es_,e3,q)
    have inL:∀ i,i<m->NT∈L.map (·.1):=fun i hi=>by
      show(L6,j,e,e1,e3,seen i hi);show(af,e',e4,e5,T.live.mp e1);exact Ze.mpr ⟨e',Zm e4,e5⟩
    rw[hst];have pr:∀ met,probe.go t (xfn es) js Ol (OS n)=some met->t.probe (xfn es) js (toP (way t.mask js n))=some met:=fun _ e=>e;rcases cse with⟨pe,emp⟩|⟨i,pc,liv,hi⟩
    . split
      . ext ziH pe;refine Zk (no m emp inL (bJ e hel b eb isk));obtain⟨k',b',h1,h2,h3⟩:83:=keys e hel;have:k'=k:=by
          ext bB eb h2 h2;exact h3.inj isk
        ext rE;exact T.absent emp (P:=fun v=>∃ b,v=dX/\(o8 k' b)) (fun i hi j e1 l1 l2 l3 ⟨b1,l4,l5⟩=>by
          obtain⟨j2,e2,x1,x2,x3⟩:83:=seen i hi;ext bB l1 x1 x1;ext bB l2 x2 x2;exact x3 l3 b1 l4 l5) e hel h1 ⟨b,eb,isk⟩
      . ext zpF pe
    . show(af,e,le,ej,T.live.mp liv)
      obtain⟨k',b,h1,h2,h3⟩:83:=keys e (Zm le);obtain⟨pp,hv,v⟩:=e;ext mI h2 v dX h2;have ei:aF es (hv,dX):=fQ T.es_ le
      have sm:t.sameMemory t.moves t.mask=some true:=by
        unfold sameMemory;rw[if_pos (beq_self_eq_true _)]
      show(jF,mne,m,n0,tG he liv)
      have nxt:k'≠k->∀ i',i'<m+1->(UE (ET js i')):=fun c i' hi'=>by
        rcases YD i' m with z|z
        . exact seen i' z
        . ext FF i' m;refine(bC,i,_,liv,le,fun _ b2 eb isk=>c ?_);have eb:Zr b=Zr b2:=eb;cases eb;exact h3.inj isk
      have stk:∀ y∈(List.map (fun x:zdF=>x.snd) (Array.filter (jr,x.fst == js) es).toList),VC:=fun y hy=>by
        ext fL x hx hy;rw[Array.toList_filter,T.el] at hx;show(fL,e',he',(ZC.mp hx).1);obtain⟨k2,b2,_,x2,x3⟩:83:=keys e' he';exact bw k2 b2 x2 x3
      split
      . ext ziH pc;refine Qs (fun _=>Zc (xvs hk stk ?_)) Tg
        . ext sj
          ext zfV
          . ext zfr
          . show(zeZ,xl4 T ho hd hf hu hk keys he hn0 yes no fuel (m+1) (some (OS (m+1))) aa aa rfl (nxt c))
        . skip
          ext zfV
          . ext zfr
          . show(zeZ,xl4 T ho hd hf hu hk keys he hn0 yes no fuel (m+1) (some (OS (m+1))) aa aa rfl (nxt c))
      . ext zpF pc
#check _
theorem Tab.plainly {t:SetTable}{es:vE}{L:K0} (T:lN) (b:Bool):Tab { t with plain:=b } es L:=⟨T.pl,T.el,T.srt,T.dm,T.mok,T.bd,T.rc⟩
theorem Tab.fits {t:SetTable}{es:vE}{L:K0} (T:lN) (le:zaK):zpg:=by
 unfold SetTable.fits fill;rw[T7,yX,T.dm];simp;exact le
section
variable {prog:Program}{w:World}{K:Type} [DecidableEq K] {knd:KeyKind prog w K}{A:Around}{E:Value->Shared->Prop}{s:Shared}
theorem xop (n:Nat) {v:Value} (h:Nn):∃ b,hashByValue n v=pure b:=by
 cases v with
 | ref a=>simp[carriedByValue] at h
 | _=>cases n<;>exact(fC,by unfold hashByValue; rfl)
theorem xk2 {ks:pT}{a:Addr}{Q:yL} (hk:o8 ks a) (h:∀ b,Q b s):wpAny aS A (hashByValue 8 aA) Q E s:=by
 have hT:=hk.typeIs;obtain⟨o,items,n,ho,hc,hd,hi⟩:104:=hk;unfold hashByValue;show(L3,hT,F.slot_tuple_hash.lookup);show wpAny _ _ (seqItems? (.ref a)>>=_) _ _ s;show(bm,Wf ho hd ?_);show(zmO,wpAny _ _ (forIn items _ _) _ _ s,wpAny_forIn_list _ (fun rest r s'=>s'=s/\∀ v∈rest,Nn) _ ?_ ?_ _ _ (eG hi.byValue))
 .rintro v rest r s' ⟨rfl,hall⟩;show(FY,eb,xop 7 (hall v Zn));rw[eb];ext sG;cases b with
  | true =>
   ext su QD;exact Zk (eG zlu)
  | false =>
   simp only[Bool.not_false,if_true];exact Zk (Zk (h _))
 .rintro ⟨r1,r2⟩ s' ⟨rfl,_⟩;cases r1 with
  | none=>exact Zk (h _)
  | some b=>exact Zk (h _)
theorem xj7 {h h':Heap}{ks:pT}{a d:Addr}{o:Obj}{es ep t} (x:sP h ks a) (ho:AB) (hd:GV) (hs:Jn d h h'):sP h' ks a:=by
 obtain⟨o',items,n,ho',hc,hd',hi⟩:104:=x;have hne:a≠d:=by
  rintro rfl;show(cQ,o'=o,ZE.inj (ho'.symm.trans ho));show(bO,hd,hd',nomatch hd')
 exact⟨104,o',items,n,(hs.2 a hne).trans ho',hc,hd',hi⟩
noncomputable def SetT (knd:KeyKind prog w K) (h:Heap) (d:Addr) (xs:yc):Prop:=∃ o es ep t L,AB/\o.ExactSet/\GV/\lN/\(L.map (·.2)).Perm (xs.map fun x=>(zdS aN,.ref cU))/\(∀ x∈xs,(sP h aN cU))/\((t.mask=7/\L.length<=4)\/(t.mask=31/\L.length<=18))
theorem SetT.nil {h:Heap}{d:Addr}{o:Obj}{ep fg mv:Nat}{led:Bool} (ho:AB) (hex:o.ExactSet) (hd:o.data=.set #[] ep (.fresh fg mv led)):vL h [] :=
 (gU,o,#[],ep,_,⟨66,[],ho,hex,hd,⟨rfl,rfl,JU.nil,rfl,gT,lG,lG⟩,Tf,⟨lG,rb fV⟩⟩)
theorem stored {h:Heap}{d:Addr}{o:Obj}{es:vE}{ep:Nat}{t:SetTable} (ho:AB) (hd:GV) (es':vE) (t':SetTable) :
    (h.update d (QQ es' t')).get? d=some { o with data:=.set es' (ep+1) t' }:=by
  show(HD,JF (QQ es' t') ho (fh zqr),zqr)
theorem xpk {d:Addr}{o:Obj}{es:vE}{ep:Nat}{t:SetTable}{L:K0}{Q:vv} (T:lN) (le:zaK) (l5:L.length=5) (ho:oB) (hd:GV)
    (h:∀ es' t' L',(L'.map (·.2)).Perm (L.map (·.2))->(bb,Tab t' es' L',t'.mask=31,L'.length=5,(HH,(),s.heap.update d (QQ es' t')))) :
    wpAny aS A (setRelay d (SetTable.grown 5)) Q E s:=by
  unfold setRelay;show(bm,Y8 ho hd (T.fits le) ?_);simp only[];have sa:SetTable.sizeAbove (SetTable.grown 5)=32:=ap
  rw[sa];have nl:¬ (32>sizeLine):=ap
  ext dB nl;obtain⟨t',order,L',e1,pm,T',mk,_⟩:105:=xxo (mask:=31) Ca es (by rw[yX,l5]; decide) t.finger (t.movedTo 31) t.led t.plain;have rl:t.relaid (es.map (·.1)) (SetTable.grown 5)=some (t',order):=by
    unfold relaid;ext aB sa e1
  rw[rl];have l':L'.length=5:=by
    ext zeN;rw[Za,T.el,Za,l5] at this;exact this
  have sz:(order.filterMap (es[·]?)).size=es.size:=by rw[T'.size.2,yX,l',l5]
  ext lY;show wpAny _ _ (if (order.filterMap (es[·]?)).size != es.size then _ else _) _ _ _;show(dB,jX sz);ext nB;have pm2:(L'.map (·.2)).Perm (L.map (·.2)):=by
    show(ja,T.el,pm)
  exact wpAny_storeSet_of ho hd (h _ _ L' pm2 T' mk l') (by rw[sz,yX,l5]; decide)
theorem add {d a:Addr}{k:pT}{xs:yc}{Q:yL} (hu:zcE) (S:vL s.heap xs) (hk:o8 k a) (small:xs.length<18)
    (yes:k∈xs.map (·.1)->S4) (no:k∉xs.map (·.1)->∀ h',Jn d s.heap h'->(vL h' zen)->Q true gJ) :
    wpAny aS A (setAddHashed d aA js) Q E s:=by
  obtain⟨o,es,ep,t,⟨L,ho,hex,hd,T,pm,ks,cap⟩⟩:121:=S;have ll:L.length=xs.length:=by
    ext zeN
    rwa [Za,Za] at this
  have le:L.length<=t.mask:=aa
  have lt:L.length<t.mask:=aa
  have hf:=T.fits le;unfold setAddHashed setAddHashedIn;refine ZW (Zc (Y8 ho hd hf ?_));simp only[];show(rS,nb,byScan aA es,rfl);rw[nb];ext sj;show(af,n0,hn0,he,T.some_free le (tupleKeyHash knd k));have keys:zgi:=fun e hel=>by
    have m:=pm.mem_iff.mp (Ze.mpr (b5 e hel));ext pG x hx ex m;refine(bC,aN,cU,?_,?_,ks x hx)
    . rw[<- ex]
    . rw[<- ex]
  have n100:n0<100000:=by
    refine ZD hn0 ?_;unfold turns;rcases T.mok with e|e<;>rw[e]<;>decide
  show(bm,(xl4 T ho hd hf hu hk keys he hn0 (bZ hy) (cI m em inL nk) 100000 0 none aa fV rfl (lv,absurd hi (Nat.not_lt_zero _))))
  . simp only[]
    refine Zk (yes ?_);obtain⟨e,hel,⟨b,eb,isk⟩⟩:62:=hy;have mm:=pm.mem_iff.mp (Ze.mpr (b5 e hel));ext pG x hx ex mm;have:cU=b:=by
      rw[<- ex] at eb;have eb:Zr cU=Zr b:=eb;injection eb
    show(je,kx,ks x hx,this,kx);show(Lf,isk.inj kx,Kq)
  . simp only[]
    have nin:k∉xs.map (·.1):=fun z=>by
      ext fL x hx z;have mm:=pm.mem_iff.mpr (Ze.mpr Kq);ext pG e hel ee mm;exact nk e hel cU (fW ee) (ks x hx)
    ext zaB;simp only[];show(bF,L',pm',T',mk',T.add (x:=aA) em inL (xqi _ _ _));generalize hput:t.put (ET js m)=tp at *;obtain⟨t1,p1⟩:=tp;simp only[] at *;have l1:L'.length=L.length+1:=by
      have:=pm'.length_eq
      rwa [ZL] at this
    have pm2:(L'.map (·.2)).Perm ((zen).map fun x=>(zdS aN,Zr cU)):=by
      rw[Zq];have q1:(L'.map (·.2)).Perm ((js,qi)::L.map (·.2)):=pm'.map fun x:Row=>cU;exact q1.trans ((pm.cons _).trans (List.perm_append_singleton _ _).symm)
    have kk:∀ h',Jn d s.heap h'->∀ x∈zen,(sP h' aN cU):=fun h' sb x hx=>by
      rcases TX with hx|hx
      . exact xj7 (ks x hx) ho hd sb
      . show(aB,Zp.mp hx,xj7 hk ho hd sb)
    generalize hes1:insertAt es p1 (js,qi)=es1 at *;have fin:∀ t2:SetTable,Tab t2 es1 L'->t2.mask=t.mask->wpAny aS A (do storeSet d es1 t2; if (! false&&t2.tooFull)=true then do setRelay d (grown (es.size+1)); pure true else pure true) Q E s:=fun t2 T2 m2=>by
      show(bm,(wpAny_storeSet_of ho hd ?_ (av,T2.size.2,ZZ (aa:_<=1000) ap)));show(ae,ho2,stored ho hd es1 t2,sb,Jn.update s.heap d (QQ es1 t2));have fl:t2.fill=L'.length:=by
        unfold fill;rw[T2.size.1,T2.dm];rfl
      by_cases c:t2.tooFull=true
      . rw[c]
        simp only[Bool.not_false,Bool.and_self,if_true];have c2:=c;unfold tooFull at c2;rw[fl,m2] at c2;have c2:=of_decide_eq_true c2;have l5:L'.length=5:=aa
        have e5:es.size+1=5:=qM yX
        rw[e5];show(bm,xpk T2 aa l5 ho2 rfl fun es' t' L2 p2 T3 m3 l3=>?_);have sb2:=sb.trans (Jn.update (s.heap.update d (QQ es1 t2)) d (QQ es' t'));exact Zk (no nin _ sb2 (ii es' _ t' ⟨66,L2,stored ho2 rfl es' t',hex,rfl,T3,p2.trans pm2,⟨kk _ sb2,.inr ⟨m3,aa⟩⟩⟩))
      . rw[Jh.mpr c]
        ext su Q2;refine Zk (no nin _ sb (ii es1 _ t2 ⟨66,L',ho2,hex,rfl,T2,pm2,(dQ,kk _ sb)⟩));have c2:¬ (t2.fill*5>=t2.mask*3):=(aC,c (decide_eq_true z));rw[fl,m2] at c2;rw[m2];omega
    refine Qs (fun _=>Zc (xk2 hk (bZ b))) (fun _=>Zc (Zk ?_))
    . cases b with
      | true=>exact fin t1 T' mk'
      | false=>exact fin _ (T'.plainly false) mk'
    . exact fin t1 T' mk'
#check _
#check XS
namespace XS
open PySem PySem.Spec PyProof.Rows
section
variable {K:Type} [DecidableEq K]
noncomputable def oneT (acc:yc) (x:pT × Addr):yc:=if aN∈acc.map (·.1) then acc else KM
noncomputable def xbf (ky:FQ) (ad:BQ) (i:Nat):yc:=((Z1 i).map fun j=>(ky j,ad j)).foldl oneT []
theorem xdi (ky:FQ) (ad:BQ) (i:Nat):zdh=oneT uW (ky i,ad i):=by
 unfold xbf;rw[Y6,Zq,Q9];rfl
theorem xe6 (ky:FQ) (ad:BQ):∀ i,∀ x∈uW,∃ j,j<i/\x=(ky j,ad j)
 | 0,x,h=>nomatch h
 | aH,x,h=>by
  rw[xdi] at h;unfold oneT at h;split at h
  .ext zjI
  .rcases Z3.mp h with h|h
   .ext zjI
   .exact ⟨i,aa,Zp.mp h⟩
theorem xh7 (ky:FQ) (ad:BQ):∀ i,(uW).length<=i
 | 0=>bp
 | aH=>by
  have ih:=xh7 ky ad i;rw[xdi];unfold oneT;split
  .omega
  .rw [Zs,ZY];omega
#check _
section
variable {pr:Program}{wd:World}{K:Type} [DecidableEq K] {knd:KeyKind pr wd K}
theorem SetT.move {h h':Heap}{d:Addr}{xs:yc} (S:vL h xs) (g:∀ o,AB->h'.get? d=some o) (ks:∀ x∈xs,(sP h' aN cU)):vL h' xs:=by
 obtain⟨o,es,ep,t,⟨L,ho,hex,hd,T,pm,_,cap⟩⟩:121:=S;exact gU o es ep t ⟨66,L,g o ho,hex,hd,T,pm,⟨ks,cap⟩⟩
theorem xhp {h h':Heap}{k:pT}{a:Addr} (x:sP h k a) (g:∀ o,(kJ o)->h'.get? a=some o):sP h' k a:=by
 obtain⟨o,items,n,ho,r⟩:102:=x;exact⟨102,o,items,n,g o ho,r⟩
variable {ar:Around}{R:Result->Shared->Prop}{it:Addr}{fp wr:List Addr}{G:Array GenState->Array GenState->Prop}{n:Nat}{P:Nat->Value->Prop}{St:Nat->Shared->Prop}
theorem xmh (wk:WalksS pr wd ar.in1 it fp wr G n P St) (d:Addr) (nd:d∉fp) (ky:FQ) (ad:BQ) (hv:∀ i v,P i v->v=zea) (far:(CB,ad i∉d::wr)) (hu:ar.in1.units<cLine) (small:n<=18) :
    ∀(k i:Nat) (s:Shared),n-i=k->i<=n->St i s->(vL s.heap uW)->zkp ->
      (∀ s2,Moved (d::wr) G s s2->(vL s2.heap (xbf ky ad n))->R (.ok (.ret .none)) s2) ->
      codeAny (model pr wd) ar (.builtin "set.update.loop" (nU [dF,.ref it])) R s:=by
  have nw:d∉wr:=(aC,nd (wk.sub _ z));show(bo,more,∀ b∈wr,b∈d::wr,b,z,Zj _ z);have kmv:∀{s s2:Shared},Moved (d::wr) G s s2->zkp->(VM s2.heap):=fun mv ks j hj=>xhp (ks j hj) (zW,mv.heap _ _ (far j hj) e);have smv:∀{s s2:Shared}{i:Nat},(bg,i<=n,Moved wr G s s2,VM s2.heap,vL s.heap uW,vL s2.heap uW):=fun hi mv ks S=>S.move (zW,mv.heap d _ nw e) fun x hx=>by
    show(kh,j,a,xe6 ky ad _ x hx);exact ks j aa
  intro k
  induction k with
  | zero =>
    intro i s ek le st so ks fin;show(cQ,i=n,aa)
    show(zfO,wk.done s _ _ st (am s2 mv));exact Zk (fin s2 zdf (smv bp mv zoO so))
  | succ k ih =>
    intro i s ek le st so ks fin;have lt:hW:=aa
    show(zfO,wk.item i s _ _ lt st (bJ v s2 pv st2 mv));show(nZ,hv i v pv);show(ae,ks2,zoO,so2,smv le mv ks2 so);show wpAny _ ar.in1 (holding [Zr (ad i)] (setAdd d zea)>>=_) _ _ s2;ext Se;unfold setAdd;refine ZW (Zc (wpAny_pyHash_tuple hu (ks2 i lt) ?_));show(cA,rm,(uW).length<18,(d7,xh7 ky ad i),add (s:={ s2 with toks:=s2.toks+((ky i).length+1) }) hu so2 (ks2 i lt) rm (bZ hin) (cI nin h2 sb so3))
    . have e1:zdh=uW:=by
        rw[xdi];exact if_pos hin
      show(zlx,ih aH _ aa lt (wk.frame _ s2 _ _ st2 (YF _ _) (fH b z o e)) (av e1 so2) ks2 (aI s3 mv3 so5));exact fin s3 (Moved.trans wk.gtrans ((zdf).then_heap (YF _ _) (Af z e)) mv3) so5
    . have e1:zdh=uW++[(ky i,ad i)]:=by
        rw[xdi];exact if_neg nin
      have ks3:VM h2:=fun j hj=>xhp (ks2 j hj) fun o e=>by
        show(aB,sb.2 _ (fun e2:ad j=d=>far j hj (e2▸Zn)),e)
      show(zlx,ih aH _ aa lt (wk.frame _ s2 _ _ st2 (YF _ _) (fH b z o ?_)) (av e1 so3) ks3 (aI s3 mv3 so5))
      . show(aB,sb.2 b (fun e2:b=d=>nd (e2▸z)),e)
      . refine fin s3 (Moved.trans wk.gtrans ((zdf).then_heap (YF _ _) (Af z ?_)) mv3) so5
        show(aB,sb.2 b (fun e2:b=d=>z (e2▸Zn)),e)
#check _
#check XS
namespace XS
open PySem PySem.Spec PyProof.Rows XL
section
variable {pr:Program}{wd:World}{K:Type} [DecidableEq K] {knd:KeyKind pr wd K}{ar:Around}{E:Value->Shared->Prop}{s:Shared}
theorem xij {l:Addr}{its:gL} (ky:FQ) (ad:BQ) {Q:bj} (hd:ar.handled=none) (hu:ar.in1.in1.in1.units<cLine) (hl:s.heap.IsList l its) (hi:∀(i:Nat) (v:Value),(aF its v)->v=zea) (hk:∀ i,i<its.size->(o8 (ky i) (ad i))) (small:its.size<=18)
    (h:∀(h2:Heap) (tk:Nat),zhf->(yZ (mU b) fY Xm)->Q eZ (rX h2)) :
    wpAny (model pr wd) ar (call (.type "set") [bQ]) Q E s:=by
  show(Gk,c0,tl0,mro0,YE.mro)
  show(ae,made0,YE.made,sub0,YE.sub);refine Ww (codeAny_of_tree ?_);show wpAny _ _ (callAny (.type "set") _) _ _ _;refine Zk ⟨Code.quiet_builtin _ aP,Qt F.entry_type_call ?_⟩;rw[Around.under_plain (weight_type_call_type "set" [bQ] []) rfl];have k1:=YE.notType;show(ae,k2,YE.canCreate,k3,F.typeCall_set_1 (.ref l))
  repeat (any_goals (first|ext d8|wp_step))
  refine Qx (code_set_new_1 bQ (E:=E) (Q₁:=fun ob s1=>∃ led:Bool,ob=eZ/\s1={ s with heap:=xW }) fun led=>b5 led rfl) (aI r s1 hr);cases r with
  | error e=>exact hr
  | ok fl =>
    cases fl with
    | ret ob =>
      show(kh,led,rfl,hr);have g0:(xW).get? s.heap.objs.size=some Uw:=iJ;have ty0:Shared.TypeIs { s with heap:=xW } eZ "set":=dY g0
      show(ae,li0,YE.init.lookup,bi0,YE.init.bind (.ref s.heap.objs.size))
      repeat (any_goals (first|ext d8|wp_step))
      refine Qx (codeAny_call_builtin (R:=wants (fun r s2=>r=.none/\∃ h2 tk,aR s2 (rX h2) zhf (yZ (mU b) fY Xm)) E) YE.init.plain F.entry_set_init (check_set_init_1 ty0 ?_)) (aI r2 s2 hr2)
      . obtain⟨ol,gl,cl,⟨nl,dl⟩⟩:63:=hl
        obtain⟨ocls,odict,odata,oslots⟩:=ol;simp only at cl dl;subst cl dl;have gl1:(xW).get? l=some (zqY odict its nl oslots):=Zg _ gl;show(ae,a1,F.sub_list_set,a2,F.sub_list_frozenset);show(rL,a3,YN "list",YN "dict",ap)
        have l1:(xW).IsList l its:=(vW,gl1,fR nl)
        unfold Builtin.«set.__init__» noKeywords Builtin.Frozenset.updateFrom;generalize ePI:pyIter=PI
        wp_walk
        subst ePI;refine YV l1 (Zc (wpAny_runValue ?_));have ll:mU l:=Zv gl;have h3:ar.in1.in1.in1.handled=none:=cM hd
        have n1:l≠(xW).objs.size:=by
          rw[Yf];exact ZG (ZD ll zcG)
        have n2:s.heap.objs.size∉[(xW).objs.size,l]:=by
          rw[Yf];simp only[Zt,Jq,or_false,not_or];show(aO,ZG (QJ _),JT ll)
        have kl:∀ i,i<its.size->(mU,ad i):=fun i hi'=>by
          obtain⟨o',_,_,ho',_⟩:102:=hk i hi';exact Zv ho'
        refine xmh (knd:=knd) ((Walks.list h3 _ l n1 its).toS) s.heap.objs.size n2 ky ad hi (am i hi') hu small (its.size-0) 0 _ aa fV ⟨qH,(l1.push _)⟩ ?hS (Ge,xhp (hk j hj) (zW,Zg _ ui)) ?hE
        . have:=kl i hi'
          rw[Yf];simp only[Zt,Jq,or_false,not_or];show(aO,ZG this,ZG (ZD this zcG))
        case hS =>
          have g1:((xW).push (eP,"list_iterator",.fields #[bQ,tN])).get? s.heap.objs.size=some Uw:=Zg _ g0;exact SetT.nil g1 Ry rfl
        case hE =>
          intro s3 mv so;obtain⟨hp3,gn3,dr3,tk3,os3⟩:=s3;show(cQ,gn3=s.gens,mv.gens);show(cQ,dr3=s.drawn,mv.drawn);show(cQ,os3=s.os,mv.os);refine Zk (Zk (eG,dA hp3 tk3 so (Af,lb,mv.heap b o ?_ (Zg _ ui))));rw[Yf];simp only[Zt,Jq,or_false,not_or];show(aO,ZG lb,ZG (ZD lb zcG))
      . cases r2 with
        | error e=>exact hr2
        | ok fl2 =>
          cases fl2 with
          | ret r =>
            obtain⟨rfl,h2,tk,rfl,so,kp⟩:=hr2
            repeat (any_goals (first|ext d8|wp_step))
            exact h _ _ so kp
          | _=>exact hr2.elim
    | _=>exact hr.elim
#check _
#check XS
namespace L2
open PySem PySem.Spec PyProof.Rows XL XS
section
variable {K:Type} [DecidableEq K]
noncomputable def oneK (acc:Cr) (x:pT):Cr:=if x∈acc then acc else KM
noncomputable def xdh (xs:Cr):Nat:=(xs.foldl oneK []).length
theorem xkz:∀(xs:yc) (acc:yc),(xs.foldl oneT acc).map (·.1)=(xs.map (·.1)).foldl oneK (acc.map (·.1))
 | [],acc=>rfl
 | x::r,acc=>by
  rw[List.foldl_cons,xkz r,Zo,List.foldl_cons]
  congr 1
  unfold oneT oneK;split
  .rfl
  .rw [Zq];rfl
theorem xn2 (xs:Cr) (ad:BQ):(zjy).length=xdh xs:=by
 unfold xdh;rw[<- Za (f:=(·.1)),show (zjy).map (·.1)=xs.foldl oneK [] from ?_];unfold xbf;rw[xkz,Zw]
 congr 1
 ext zlo;simp[Zb h2]
theorem xmj:∀(xs acc:Cr),(xs.foldl oneK acc).length=acc.length+xs.length↔(∀ x∈xs,x∉acc)/\xs.Nodup
 | [],acc=>ah
 | x::r,acc=>by
  have le:∀(xs acc:Cr),(zQ,xs.foldl oneK acc,acc.length+xs.length):=by
   intro xs
   induction xs with
   | nil=>intro acc; exact Zl _
   | cons x r ih =>
    intro acc;refine ZZ (ih _) ?_;rw[ZL];unfold oneK;split
    .omega
    .rw [Zs,ZY];omega
  show ((r.foldl oneK (oneK acc x)).length=_)↔_;rw[ZL,ZB];by_cases hx:x∈acc
  .rw [show oneK acc x=acc from az hx];constructor
   .intro z
    show(db,le r acc)
   .intro z
    exact absurd hx (z.1 x gD)
  .rw [show oneK acc x=KM from aM hx];have ih:=xmj r KM;rw[Zs,ZY] at ih;rw[(gg,acc.length+Kc=acc.length+1+r.length),ih];constructor
   .rintro ⟨h1,h2⟩;show(dc,Km,(aC,h1 x z (Z6 _ m6)),h2);rcases dU hy with rfl|hy
    .exact hx
    .exact (aC,h1 y hy (ZR _ z))
   .rintro (⟨h1,h2,h3⟩:43);show(cR,aI y hy z,h3);rcases Z3.mp z with z|z
    .exact h1 y tU z
    .rw [vO] at hy;exact h2 hy
theorem xnx {xs:Cr}:xdh xs=xs.length↔xs.Nodup:=by
 have:=xmj xs [];unfold xdh;ext IR
#check _
noncomputable def xq8 (K:Zd) (ta:TA):TE:=(zqF,∃(a:Addr) (qs:ao) (kss:List dW),vs=fF/\(au,SqL K H1 a Ie,qs.length=kss.length,(zpD,kss,H1 q=some (.tup (ks.map kV))),qs.length<=18,Q (.int (bA,xdh kss)) H1))
section
variable {X:Cx}
theorem xn7 {a:Expr}{ta:TA}{p p2 pos pos2:Pos} (hu:G0) (hc:iT) (hg:Gl X "len") (hm:qP "len") (hg2:Gl X "set") (hm2:qP "set") (ha:Iz)
    (hs:Iv:=by rfl) (hs3:(SR,[Au "set"],jx (Au "set")):=by rfl) :
    uj (.Name "len" p) [Au "set"] (xq8 X.K ta):=by
  intro pins s Z H Q I h;refine Yg (xcs I hg hm PyProof.Rows.Boot.«len» ?_);refine PyProof.Rows.callWith_builtin1 ?_ (fh hs3) rfl;rw[hs3];show wpAny _ _ (ziQ "set") _ _ s;refine Yy ?_;refine Call_ (xcs I hg2 hm2 PyProof.Rows.Boot.«set» (Sm,ha pos2 pins s Z H _ I h,fun us s1 ⟨vs,H1,I1,r1,q1⟩=>?_));obtain⟨l,qs,kss,e,hq,hlen2,hks,hx,q⟩:106:=q1;ext ML l;ext yA rv Su;show(je,hlen,rv.length,Za,hlen);have sz:its.toArray.size=qs.length:=cK Z7 hlen
  refine xij (knd:=lI) (jq,kss.getD i []) (jq,qs.getD i 0) gO ?hu pl.isList (rT i v) SV (av sz hx) (cI h2 tk so kp)
  case hu =>
    show X.A.units+1+1+1<cLine;omega
  . have e':aF its v:=uJ
    have lt:i<qs.length:=by
      show(db,ft e')
    show(af,v',hv',rv',rv.get (i:=i) (x:=V.ref C4) (fQ Zf jh));ext bB e' hv' hv';show(cQ,v=Zr C4,rv');simp[jh]
  . rw[sz] at hi
    have hi2:i<kss.length:=aa
    have:=xdm (P:=X.prog) (w:=X.w) I1.hok (hks i C4 kss[i] (Zb hi) (Zb hi2));have e1:kss.getD i []=kss[i]:=(cM,Zb hi2)
    have e2:qs.getD i 0=C4:=(cM,Zb hi)
    show IsTupleKey lI s1.heap (kss.getD i []) (qs.getD i 0);ext cY e1 e2 this
  refine YZ ?_;rw[sz,hlen2] at so;have I2:cT H1 { s1 with heap:=h2,toks:=tk }:=zdQ (pV,kp b o (Zv e) e);obtain⟨o,es,ep,t,⟨L,ho,hex,hd,T,pm,_,cap⟩⟩:121:=so;have ll:es.size=xdh kss:=by
    ext zeN;rw[Za,Za,xn2] at this;rw[yX,this]
  refine call_len_set ho hex hd (T.fits aa) ?_ (bC,.int (bA,xdh kss),H1,I2.tok _,⟨tk+1,fW ll⟩,q);rw[yX];omega
#check _
#check L2
namespace L2
open PySem PySem.Spec PyProof.Rows
#check L2
namespace L2
open PySem PySem.Spec PyProof.Rows XL PySem.W
theorem xkc {prog:Program}{w:World}{A:Around}{E:bj}{s:Shared}{it d:Addr}{i ep:Nat}{o:Obj}{es:kI}{en:DictEntry}{ok ov:Value}{Q:FS}
    (st:IsItemIter s.heap it d i es.size ep ok ov) (hd:oB) (hdat:kN) (hi:aF es en)
    (h:∀ h',(bg,IsItemIterOut h' it d aH es.size ep en.key en.val s.heap.objs.size,h'.get? s.heap.objs.size=some (PJ Hm),h'.objs.size=hZ,NP qv,Q (aT s.heap.objs.size) gJ)):wpAny aS A sr Q E s:=by
  ext zeT;show(cA,il,it<hp.objs.size,Zv st,Zc <| Zk <| Zc <| Zc <| Zc <| Yu hT <| Zk <| Zc <| wpAny_fieldsOf st rfl ?_)
  simp only[show Builtin.Dict_items.ownsTuple "dict_itemiterator"=true from ap,if_true];show wpAny _ _ WM _ _ _;show(dB,z6 Z4);refine Zc <| Zk <| Zc <| Jt hd hdat ?_
  ext dB ah;refine Zc <| Zk <| Zc <| J7 hd hdat ?_
  ext dB ah;ext nB;have e1:(X6 cG)=some en:=by
    ext cY vQ JM hi
  simp only[e1];refine Zc <| Zc <| Yu hT <| Zk <| Zc <| Yz hT ?_
  show wpAny _ _ (zmd 3) _ _ _;refine Zc <| YO st ah (aI h1 he1 hs1)
  have hs1:Jn it hp h1:=hs1;show(cA,T1,Shared.TypeIs (Rj h1) qX "dict_itemiterator",dY he1,Zc <| ZW <| Zc <| Yz T1 <| Zc <| Yz T1 ?_)
  show wpAny _ _ (Builtin.Dict_items.pairFromOwner qX 6 en.key en.val) _ _ _;unfold Builtin.Dict_items.pairFromOwner;refine Zc <| wpAny_newTuple ?_
  have he2:=Zg (PJ Hm) he1;have ht2:(GF).get? hp.objs.size=some (PJ Hm):=by
    show(ja,hs1.1,iJ)
  have hz2:(GF).objs.size=hp.objs.size+1:=cK Yf hs1.1
  have hk2:∀ b ob,b≠it->hp.get? b=some ob->(GF).get? b=some ob:=(fH,b,ob,nb,Zg _ (hs1.extBut b ob nb e));have z1:h1.objs.size=hp.objs.size:=hs1.1;show wpAny _ _ (Builtin.Dict_items.ownedTupleIsFree (.ref it)>>=_) _ _ (Rj GF);rw[z1];revert he2 ht2 hz2 hk2;generalize GF=h2;intro he2 ht2 hz2 hk2;clear hs1 T1 he1 z1;unfold Builtin.Dict_items.ownedTupleIsFree;refine Zc <| Zc <| Qn he2 rfl (x:=.none) rfl <| Zk ?_
  ext RJ;refine Zc <| Qn he2 rfl (x:=ok) rfl <| Zc <| Qn he2 rfl (x:=ov) rfl ?_
  refine Zc <| YO he2 ah (aI h3 he3 hs3)
  refine Zc <| YO he3 ah (aI h4 he4 hs4)
  refine Zc <| YO he4 ah (aI h5 he5 hs5)
  refine Zc <| YO he5 ah (aI h6 he6 hs6)
  have n1:=JT il;refine Zc <| wpAny_letGo <| Zk <| Zk (c9,Zk (h h6 he6 ?_ ?_ (fH b ob nb ?_)))
  . exact hs6.extBut _ _ n1 (hs5.extBut _ _ n1 (hs4.extBut _ _ n1 (hs3.extBut _ _ n1 ht2)))
  . exact hs6.1.trans (hs5.1.trans (hs4.1.trans (hs3.1.trans hz2)))
  . exact hs6.extBut b ob nb (hs5.extBut b ob nb (hs4.extBut b ob nb (hs3.extBut b ob nb (hk2 b ob nb e))))
theorem xly {prog:Program}{w:World}{A:Around}{E:bj}{s:Shared}{it d:Addr}{ep:Nat}{o:Obj}{es:kI}{ok ov:Value}{Q:FS}
    (hA:xX) (st:IsItemIter s.heap it d es.size es.size ep ok ov) (hd:oB) (hdat:kN)
    (h:zor):wpAny aS A sr Q E s:=by
  ext zeT;have st':=st;unfold IsItemIter at st';unfold Builtin.«dict_itemiterator.__next__»
  repeat (any_goals (first|ext d8|(with_reducible refine Yu hT ?_)|(with_reducible refine Yz hT ?_)|(with_reducible ext AR)|(with_reducible ext AQ)|wp_step))
  have e1:(if (es.size:Int)<0 then none else es[(es.size:Int).toNat]?)=none:=by
    rw[vQ,JM];simp
  rw[e1]
  repeat (any_goals (first|ext d8|(with_reducible refine Yu hT ?_)|(with_reducible refine Yz hT ?_)|(with_reducible ext AR)|(with_reducible ext AQ)|wp_step))
  ext zeY
theorem xp7 {prog:Program}{w:World}{A:Around}{E:bj}{s:Shared}{v d:Addr}{ep:Nat}{o:Obj}{es:kI}{Q:bj}
    (hv:uG v (eP,"dict_items",.fields #[dF])) (hd:oB) (hdat:kN)
    (h:HH eZ (NR,"dict_itemiterator",#[.none,EQ,dF,tN,Px,yQ,.none,.none])):wpAny aS A (Kg v) Q E s:=by
  have ti:Sn v "dict_items":=dY hv
  refine wpAny_pyIter_slot ti F.slot_dict_items_iter ?_;refine Jz F.slot_dict_items_iter ti F.entry_dict_items_iter ?_ (F.args_dict_items_iter_1 _);ext xM dr;unfold Builtin.«dict_items.__iter__»
  repeat (any_goals (first|ext d8|(with_reducible ext AR)|(with_reducible ext AQ)|wp_step))
  exact(c9,bC _ _ FU JW.lookup h)
theorem xl3 {prog:Program}{w:World} (d:Addr) (hd:F6) :
    MeetsIn prog w (Builtin.«dict.items» (nU [dF])) (fun _ R s=>X4 /\
      R (.ok (.ret (.ref s.heap.objs.size))) { s with heap:=(NR,"dict_items",#[dF]) }) :=
  .of_wp fun A R s ⟨ti,h⟩=>by
    unfold Builtin.«dict.items» Builtin.Dict.noArgs Builtin.Dict.showsAll;refine Zc <| Zc <| Qd ti ?_
    show wpAny _ _ (pure d) _ _ s;ext nB;show(pU,av hd Z4,Zc <| Zk <| Zc <| JK <| Zk (c9 h))
theorem xo7 {H:Hp}:∀{kvs:dC}{xs:qL}{i:Nat}{k:dW}{x:V},EO->h7->∃ q u,(aF xs (k,q,u))/\Dt/\nu
 | _,_,_,_,_,.nil,e=>yN
 | _,(k',q,u)::_,0,k,x,TU,e=>by
  ext Bx;ext fO r1 r2 r3 r
  dsimp only at r1 r2 r3
  subst r1;exact dA q u r2 r3
 | _,_,aH,k,x,Fb,e=>by
  obtain⟨q,u,h1,h2,h3⟩:83:=xo7 (i:=i) (k:=k) (x:=x) t uJ;exact bC q u qx h2 h3
section
variable {X:Cx}{pins:List (Addr × Obj)}{Z:St}{H:Hp}{s:Shared}
theorem xgw {d:Addr}{o:Obj}{kvs:dC}{es:kI}{ep:Nat} (I:aq) (e:V6) (hdat:kN) :
    (bE,oB,o.ExactDict,es.size=kvs.length,∀(i:Nat) k x,h7->∃ q en,(aF es en)/\(aR,en.key,cu,Dt,RelV x en.val)):=by
  obtain⟨g,_,_,⟨xs,rel,o',es',ep',g',ex,hdat',hes,hn⟩⟩:44:=I.hok d _ e;ext bB g g' g';ext bB hdat hdat' hdat';refine(bR,g,ex,?_,cI i k x hx)
  . rw[<- JE,hes,Za]
    exact (YJ rel).symm
  . obtain⟨q,u,h1,h2,h3⟩:83:=xo7 rel hx
    exact⟨84,q,_,by rw[<- JG,hes,Zf,h1]; rfl,rfl,h2,h3⟩
theorem Inv.nofrzT {d:Addr}{kvs:dC} (I:aq) (e:oS d):Ak:=fun o' u' z=>by
 ext zjQ
#check _
noncomputable def Itkt (d:Addr) (o:Obj) (kvs:dC):It :=
 (zmI,H'=H/\∃ k x q,h7/\v=cu/\Dt)
noncomputable def Itit (d:Addr) (o:Obj) (kvs:dC):It :=
 (zmI,∃ p k x q,(au,h7,Dt,v=cq,jc,H'=(iB H p cu x)))
theorem xom {P:Program}{w:World}{K:Zd}{tg:Expr} (d it:Addr) (o:Obj) (kvs:dC) (es:kI) (ep:Nat) (hdat:kN) :
    Turn P w K tg (Itkt d o kvs) rW it (d0,h,h.IsKeyIter it d i es.size ep) where
  mem:=ah
  obj:=fun i h st b hb=>by
    ext Vx
  keep:=fun i h h' ⟨o1,e1,r⟩ k=>Nm
  item:=by
    intro X hP hw hK hc i pins s Z H E I hf st hg;ext iE;ext Cw lt hg;ext Nh;obtain⟨f0,f1,f2,f3,f4,f5⟩:46:=j0;ext Uz
    obtain⟨qa,en,he,hk,hq,hr⟩:84:=f i k x hx;refine xf4 st g ex hdat he (aI h' hit' hs);show(U8,xgr (s:=gJ) g2 c2 d2 ap ?_,I.turned (t':=s.toks) (yu,(hs.2 b hb).trans g) f0 f1 f3 f4 f5);exact⟨85,LN,H,I1,fh hk,eG ⟨103,k,x,qa,hx,rfl,hq⟩,hit',Fe⟩
  done:=by
    intro X hP hw hK hc i pins s Z H E I hf st hg;ext iE;ext ia e hg;ext Nh;obtain⟨f0,f1,f2,f3,f4,f5⟩:46:=j0;rw[<- sz] at st;exact xhd gO st g ex hdat (Bb,I.turned (t':=s.toks) uH f0 f1 f3 f4 f5)
  self:=fun A i s Q E st h=>Wi st h
theorem xma {P:Program}{w:World}{K:Zd}{elts:iF}{x1}{tpos:Pos} (d it:Addr) (o:Obj) (kvs:dC) (es:kI) (ep:Nat) (hdat:kN) :
    Turn P w K r8 (Itit d o kvs) rW it (d0,h,∃ ok ov,IsItemIter h it d i es.size ep ok ov) where
  mem:=ah
  obj:=fun i h st b hb=>by
    ext sR;ext Ei;exact⟨_,st,fun v z=>by
      ext MW⟩
  keep:=fun i h h' ⟨ok,ov,st⟩ k=>⟨ok,ov,RB⟩
  item:=by
    intro X hP hw hK hc i pins s Z H E I hf st hg;ext iE;ext Ei;ext Cw lt hg;ext Nh;obtain⟨f0,f1,f2,f3,f4,f5⟩:46:=j0;ext Uz
    obtain⟨qa,en,he,hk,hq,hr⟩:84:=f i k x hx;refine xkc st g hdat he (bJ h' hout ht hz hkp);ext iG zgY;have kk:NP NF:=(yu,(hsb.2 b hb).trans (hkp b o hb g));show(zM,zqh,I.turned (t':=s.toks) kk f0 f1 f3 f4 f5);ext Im ME;ext zih;show(ay,hp,Mq Hm,(hsb.2 _ pne).trans ht,⟨85,eZ,N2 LN x,I1.adopt n0 I.sz nL nC nP (N1,[en.key,en.val],.cons (fh hk) (.cons hr .nil)),rfl,⟨125,_,k,x,qa,hx,hq,rfl,n0,rfl⟩,dI _ hit',gP⟩);ext sR;ext rC pne f0
  done:=by
    intro X hP hw hK hc i pins s Z H E I hf st hg;ext iE;ext Ei;ext ia e hg;ext Nh;obtain⟨f0,f1,f2,f3,f4,f5⟩:46:=j0;rw[<- sz] at st;exact xly gO st g hdat (Bb,I.turned (t':=s.toks) uH f0 f1 f3 f4 f5)
  self:=zgA
noncomputable def xu3 (X:Cx) (to:TE):TI:=zhT P8
noncomputable def xtg (X:Cx) (to:TE):TI:=zhT P7
section
variable {X:Cx}{o:Expr}{to:TE}{tg:Expr}{elts:List Expr}{x1:_}{tpos apos cpos:Pos}
theorem xq4 (ho:BO):PI X tg o (xu3 X to):=by
 intro pins s Z H R I h;show(kD,ho pins s Z H _ I h,fun v s1 ⟨x,H1,I1,r1,q1⟩=>?_);obtain⟨d,kvs,e1,e,q⟩:83:=q1;ext Ip;obtain⟨z,hd,⟨xs,rel,ob,es,ep,g,ex,hdat,hes,hn⟩⟩:43:=HZ;refine xlc hd g ex hdat ?_;show(zR,Ar,s1,(Us,(HZ).stay Pk (fun c q=>NU) (Fp NU)));have I4:cT Ar (Og "dict_keyiterator" Pw) :=
  znC
 show(UU,⟨66,Ar,rfl,I4,xom d _ ob kvs es ep hdat,qH,gP,q ob (I1.nofrzT e)⟩);show(UF,s1.heap.objs.size)
theorem xo8 (ho:BO) (hbase:Db "items":=by rfl) (hline:Dm:=by rfl) :
    PI X r8 (Di "items" []) (xtg X to):=by
  intro pins s Z H R I h;show(zaX,ho pins s Z H _ I h,fun v s1 ⟨x,H1,I1,r1,q1⟩=>?_);obtain⟨d,kvs,e1,e,q⟩:83:=q1;ext Ip;obtain⟨z,hd,⟨xs,rel,ob,es,ep,g,ex,hdat,hes,hn⟩⟩:43:=HZ;show(ay,ti,s1.TypeIs dF "dict",⟨ob,g,ex.1⟩,⟨86, "dict", "dict.items",Yt,YS,PySem.F.type_dict_items,ti,am a e2,zbL⟩)
  . ext zaS
  refine YT YS ti PySem.F.entry_dict_items zlY (xl3 d hd) (dQ ti);refine xp7 (s:=Np) iJ CQ hdat ?_;ext zfH
  show(zR,Ar,s2,(Uq,(zdp).stay Pk (fun c q=>NU) (Fp NU)));have I4:cT Ar (NI,#[.none,EQ,dF,tN,Px,yQ,.none,.none]) :=
    WE
  have fin:PIE X pins Z r8 R xB (NI,#[.none,EQ,dF,tN,Px,yQ,.none,.none]):=by
    show(UT,⟨66,Ar,rfl,I4,xma d _ ob kvs es ep hdat,⟨.none,.none,iJ⟩,gP,q ob (I1.nofrzT e)⟩);ext X9
  exact fin
noncomputable def xwn (X:Cx) (t:TS):TS:=(lU,t { D with nx:=(BW,∃ d ob u,H' d=some (.frz ob u)/\Ak/\D.nx σ' (upd H' d u)) } Z H)
theorem xmx {st:Stmt}{t:TS} (h:SU):PS X st (xwn X t):=by
 intro pins s Z H D I q;show(kD,h pins s Z H _ I q,aI fl s1 z);cases fl with
 | next =>
  obtain⟨σ',H',I',⟨d,ob,u,e,nf,r⟩⟩:82:=z;exact(bw,σ',_,I'.thaw e nf,r)
 | _=>exact z
#check _
section
variable {d:Addr}{ob:Obj}{kvs:List (List Key × V)}{g:TG}{tb:TS}{D:Ends}{Z:St}{H:Hp}
theorem xp8 (Pv:zg) (h0:B3) (hl:zjH)
    (hs:∀ i k x q Z H,(bb,h7,Dt,tM,g cu Z H Al)) (hd:OZ) :
    ∃ W:Nat->Nat->St->Hp->Prop,(∃ m,W 0 m Z H)/\∀ i m Z H,yJ ->
      ((P8).stop i H/\tK)\/((P8).go i H/\(wY (yr,(P8).yld i H x H',Z,H',wV))):=by
  ext Me;rintro i m Z H (⟨rfl,hi,p⟩:43);ext Dn Bj
  . ext Ni
    obtain⟨rfl,k,x',qa,e1,rfl,hr⟩:=y;exact hs i k x' qa Z H' e1 hr p
  . show(Mo,fR q)
theorem xno (Pv:zg) (h0:B3) (hl:zjH)
    (hs:∀ i k x q p Z H,(bg,h7,Dt,jc,tM,g cq Z (iB H p cu x) Al)) (hd:OZ) :
    ∃ W:Nat->Nat->St->Hp->Prop,(∃ m,W 0 m Z H)/\∀ i m Z H,yJ ->
      ((P7).stop i H/\tK)\/((P7).go i H/\(wY (yr,(P7).yld i H x H',Z,H',wV))):=by
  ext Me;rintro i m Z H (⟨rfl,hi,p⟩:43);ext Dn Bj
  . ext Ni
    obtain⟨pa,k,x',qa,e1,hr,rfl,hn,rfl⟩:125:=y;exact hs i k x' qa pa Z H e1 hr hn p
  . show(Mo,fR q)
#check _
#check L2
namespace L2
open PySem PySem.Spec PyProof.Rows XL PySem.W PySem.MeetsSeq3
#check L2
namespace L2
open PySem PySem.Spec PyProof.Rows XL PySem.W
theorem xqu {g:TG}{tb:TS}{D:Ends}{Z:St}{H:Hp}{d:Addr}{ob:Obj}{kvs:aL} (Pv:zg) (h0:B3) (hl:Et Rf (ax d fZ))
    (hs:∀ i k x Z H,h7->tM->g qh Z H Al) (hd:OZ) :
    ∃ W:Nat->Nat->St->Hp->Prop,(∃ m,W 0 m Z H)/\∀ i m Z H,yJ ->
      ((HU).stop i H/\tK)\/((HU).go i H/\(wY (yr,(HU).yld i H x H',Z,H',wV))):=by
  ext Me;rintro i m Z H (⟨rfl,hi,p⟩:43);ext Dn Bj
  . ext Ni
    obtain⟨rfl,k,x',e1,rfl⟩:=y;exact hs i k x' Z _ e1 p
  . show(Mo,⟨q,bp⟩)
#check L2
namespace L2
section
variable {D:Ends}{Z:St}{H:Hp}{i:Nat}{v:V}{N:St->Hp->Prop}{wi:TI}{g:TG}{a b u:TS}{c:TT}
theorem sq2 {t1 t2:TS} (k:let d:=D; G2 s Z t2):(tSeq t1 t2) D Z H:=k
theorem sq3 {t1 t2 t3:TS} (k:kR d D s Z (G2,u3,t3,tSeq t2 u3)):(tSeq t1 (tSeq t2 t3)) D Z H:=k
theorem sq4 {t1 t2 t3 t4:TS} (k:let d:=D; kR s Z u4 t4 (G2,u3,tSeq t3 u4,tSeq t2 u3)):(tSeq t1 (jZ t2 t3 t4)) D Z H:=k
theorem sq5 {t1 t2 t3 t4 t5:TS} (k:KF (kR,u5,t5,u4,tSeq t4 u5,(G2,u3,tSeq t3 u4,tSeq t2 u3))):(tSeq t1 (tSeq t2 (jZ t3 t4 t5))) D Z H:=k
theorem sq6 {t1 t2 t3 t4 t5 t6:TS} (k:Rm u6 t6 Uy):(tSeq t1 (jZ t2 t3 (jZ t4 t5 t6))) D Z H:=k
theorem sq7 {t1 t2 t3 t4 t5 t6 t7:TS} (k:KF (kR,u7,t7,u6,tSeq t6 u7,Uy)):(tSeq t1 (zoj t7)) D Z H:=k
theorem sq9 {t1 t2 t3 t4 t5 t6 t7 t8 t9:TS} (k:(KF,zgZ t9)):(tSeq t1 (zoj (jZ t7 t8 t9))) D Z H:=k
theorem sq11 {t1 t2 t3 t4 t5 t6 t7 t8 t9 t10 t11:TS} (k:(KF,zjg t11)):(tSeq t1 (tSeq t2 (jZ t3 t4 (jZ t5 t6 (jZ t7 t8 (jZ t9 t10 t11)))))) D Z H:=k
theorem sq12 {t1 t2 t3 t4 t5 t6 t7 t8 t9 t10 t11 t12:TS} (k:Rm u12 t12 (zjg,tSeq t11 u12)):(tSeq t1 (jZ t2 t3 (jZ t4 t5 (jZ t6 t7 (jZ t8 t9 (jZ t10 t11 t12)))))) D Z H:=k
theorem gn (k:N oZ H):xcd i v Z H N:=k
theorem nx {n r x y} (k:n Z H):Ends.nx ⟨n,r,x,y⟩ Z H:=k
theorem gx {n r x y} (k:n oZ H):xcd i v Z H (Ends.nx ⟨n,r,x,y⟩):=k
theorem fo (k:(Rm,b,b,tFor wi g b d s H)):tFor wi g b D Z H:=k
theorem fq (k:(kR,s,Z,b,b,tFor wi g b Hc s H)):tSeq (tFor wi g b) u D Z H:=k
theorem wo (k:(Rm,b,b,xgi c b d s H)):xgi c b D Z H:=k
theorem wq (k:(kR,s,Z,b,b,xgi c b Hc s H)):tSeq (xgi c b) u D Z H:=k
theorem io (k:KF (kR,a,a,b,b,tIfS c a b d s H)):tIfS c a b D Z H:=k
theorem iq (k:let s:=Z; (kR,a,a,b,b,tIfS c a b Hc s H)):tSeq (tIfS c a b) u D Z H:=k
#check _
#check L2
namespace L2
open PySem PySem.Spec PyProof.Rows XL
section
variable {X:Cx}{x:Str}{e:Expr}{te:TE}{pos pos':Pos}
theorem pS (i:Nat) (hN:X.N.Nodup) (he:tE) (hi:sW:=by rfl) (hx:AF:=by exact Y9 rfl) (hs:Nw e RI:=by rfl) (hf:Aj:=by first|ext wf|ext zG) :
    zlI:=xfa hN hi hx he hs hf
theorem pN (i:Nat) (hN:X.N.Nodup) (hi:sW:=by rfl) (hx:AF:=by exact Y9 rfl) (hf:Aj:=by first|ext wf|ext zG):PG X sM (xcd i):=xg3 hN hi hx hf
#check _
section
variable {X:Cx}{x:Str}{pos:Pos}{scope:Scope}{zs ys:List Str}
theorem pO (i:Nat) {C:Addr}{ex:ao}{s:Shared}{H:Hp}{pn:bc} (nd:AZ) (ow:∀ x∈zs,(qw).names.lookup x=some .local) (hi:aF (zs++ys) x:=by rfl) (hz:x∈zs:=by simp):PG (X.blkG scope zs ys C ex s H pn) sM (xcd i):=xg3 nd hi (Y9 (ow _ hz)) (QP (ow _ hz))
theorem pM (i:Nat) (hi:aF (zs++ys) x:=by rfl) (hz:x∈zs:=by simp):∀(C:Addr) (ex:ao) (s:Shared) (H:Hp) (pn:bc),(∀ x∈zs,(qw).names.lookup x=some .local)->AZ->PG (X.blkG scope zs ys C ex s H pn) sM (xcd i):=fun _ _ _ _ _ ow nd=>pO i nd ow hi hz
#check _
section
variable {X:Cx}{k k':Nat}{f C:Addr}{fd:FuncData}{ps:List Str}{sp:Sp}{x m:Str}{p pos apos:Pos}{e o:Expr}{es:List Expr}{ta:TE}{t:TA}{q0:Bool}
theorem pC (F:FnOk q0 X.prog X.w X.K X.mg X.base (CXo X.prog X.w) k f fd ps sp) (hr:Room q0 k' X.A) (hm:Ij Gd) (hk:Jy X.K Gd=true) (hb:xw X.K fd ps []) (ha:BL) (hl:k<=k':=by decide) (hg:rp:=by rfl)
    (hdb:mP:=by decide) (he:wS:=by rfl) (hpl:(yk).any (·.1)=false:=by rfl) :
    uj BP ji (xr8 sp [] (fun _ _ _ _=>False) t):=xtr F (hr.mono hl) hg hm hk hb .nil xp ha hdb he hpl
#check _
#check L2
namespace Geo
noncomputable def dn (y r:Int):Int:=(iY,y,r,1,-1)
noncomputable def upN (y r:Int):Nat:=(iY,y,r,fD r y,fD y r)
noncomputable def wayI (b:Bool):Int:=(uY,-1,1)
noncomputable def lvN (w x:Int) (b:Bool):Nat:=(uY,(x+1).toNat,(fD,w+2,x))
noncomputable def upL (x y r:Int):jT:=(Z1 (upN y r)).map (pB i (x,y+cG*dn y r))
noncomputable def lvL (w x:Int) (b:Bool) (r:Int):jT:=(Z1 (lvN w x b)).map (pB i (x+cG*wayI b,r))
noncomputable def cells (w x y:Int) (b:Bool) (r:Int):jT:=upL x y r++lvL w x b r
theorem xgd {x y r u v:Int}:(u,v)∈upL x y r↔u=x/\zcV:=by
 unfold upL upN dn;rw[Ze];constructor
 .ext UR
  subst e1;show(cR,rfl,?_);split at hi
  .rename_i h
   rw[az h] at e2;left; omega
  .rename_i h
   rw[aM h] at e2;right; omega
 .rintro ⟨rfl,h|h⟩
  .refine (ip,fD v y,?_)
   .rw [ZT,LF]; omega
   .rw [az aa];show(MF,v,y,v-y)
  .refine (ip,fD y v,?_)
   .rw [ZT,vQ]; omega
   .ext iA aa;show(MF,y,v,y-v)
theorem xul {w x r u v:Int}{b:Bool} (h1:1<=x) (h2:x<=w):(u,v)∈lvL w x b r↔zii:=by
 unfold lvL lvN wayI;rw[Ze];cases b with
 | true =>
  ext RJ;constructor
  .ext UR
   show(aE,e2.symm,aa,aa)
  .ext zpE x u;show(MF,x,u,x-u)
 | false =>
  ext sj;constructor
  .ext UR
   show(aE,e2.symm,aa,aa)
  .ext zpE u x;show(MF,u,x,u-x)
theorem xcl {w x y r u v:Int}{b:Bool} (h1:1<=x) (h2:x<=w):(u,v)∈cells w x y b r↔(u=x/\zcV)\/zii:=by
 unfold cells;rw[Z3,xgd,xul h1 h2]
noncomputable def btw (v a b:Int):Prop:=min a b<=v/\v<=max a b
instance (v a b:Int):Decidable (btw v a b):=inferInstanceAs (Decidable (_/\_))
noncomputable def meet (l m:jT):cX iW:=zmU
theorem xc0 {l m:jT}{p:Prop} [Decidable p] {d:iW} (h:∀ c,Ow l m p d):meet l m=(zP p d):=by
 unfold meet;by_cases hp:p
 .rw [az hp];obtain⟨h1,h2⟩:=(h d).mpr (fR hp);cases e:zmU with
  | none =>
   show(bO,J6,e,absurd (decide_eq_true h2) (e d h1))
  | some c =>
   show(ae,hm,QX e,hl,Zy e);rw[((h c).mp ⟨hl,AU hm⟩).2]
 .rw [aM hp,J6];intro c hc hd;exact hp ((h c).mp ⟨hc,AU hd⟩).1
theorem xlt {w xn yn rn xf yf rf:Int}{b:Bool} (n1:1<=xn) (n2:xn<=w) (f1:1<=xf) (f2:xf<=w) (hr:rn≠rf) (hx:zaC) (c:iW) :
    Ow XX XW Ro (xn,rf):=by
  obtain⟨u,v⟩:=c;rw[xcl n1 n2,xcl f1 f2,Qi.injEq];unfold btw;cases b<;>simp only[if_true,Zz,if_false] at hx ⊢<;>constructor
  . rintro ⟨h|h,h'|h'⟩<;>omega
  . ext zgS
    . ext jy e aa
    . show(cH,eG aa)
  . rintro ⟨h|h,h'|h'⟩<;>omega
  . ext zgS
    . ext jy e aa
    . show(cH,eG aa)
theorem xox {w xn yn rn xf yf rf:Int}{b:Bool} (n1:1<=xn) (n2:xn<=w) (f1:1<=xf) (f2:xf<=w) (hr:rn≠rf) (hx:zaC) :
    meet XX XW=(zP Ro (xn,rf)):=xc0 (xlt n1 n2 f1 f2 hr hx)
theorem xq5 {w xn yn rn xf yf rf:Int}{b:Bool} (n1:1<=xn) (n2:xn<=w) (f1:1<=xf) (f2:xf<=w) (hr:rn≠rf) (hx:zaC) :
    meet XW XX=(zP Ro (xn,rf)):=xc0 fun c=>(av,and_comm,xlt n1 n2 f1 f2 hr hx c)
theorem xpu {w x1 y1 r1 x2 y2 r2:Int} (a1:1<=x1) (a2:x1<=w) (b1:1<=x2) (b2:x2<=w) (hx:Lj) :
    meet Ay Dz=(iY x2 x1 (Er,uS,(x1,r2),zP yg (x2,r1)) none):=by
  have mem2:∀ u v,(u,v)∈cells w x2 y2 false r2↔(u=x2/\((y2<=v/\v<r2)\/(r2<v/\v<=y2)))\/(v=r2/\x2<=u/\u<=w+1):=fun u v=>by
    rw[xcl b1 b2]; simp
  have mem1:∀ u v,(u,v)∈cells w x1 y1 true r1↔(u=x1/\((y1<=v/\v<r1)\/(r1<v/\v<=y1)))\/(v=r1/\0<=u/\u<=x1):=fun u v=>by
    rw[xcl a1 a2]; simp
  by_cases hlt:x2<x1
  . rw[az hlt]
    by_cases e:r1=r2
    . ext zmp;unfold meet;show (Rr++OI).find? _=_;rw[YW];have hn:(Rr).find? (SN,cells w x2 y2 false r1)=none:=by
        show(zhK,(mem2 u v).mp (of_decide_eq_true hd))
      rw[hn];have hv:OI=(x1,r1)::(OI).tail:=by
        unfold lvL lvN;show(ED,n,hn,∃ n,(x1+1).toNat=eX,x1.toNat)
        simp only[if_true,hn,Qb,Zo,List.tail_cons];simp
      rw[hv,WK ((mem2 x1 r1).mpr (.inr E3))];rfl
    . by_cases hb:uS
      . have key:∀ c,Ow Rr Dz True (x1,r2):=by
          ext zja mem2
          . rintro ⟨h,h'|h'⟩<;>refine dQ trivial<;>omega
          . ext zim
        have z:=xc0 key;rw[az hb];unfold meet at z ⊢;show (Rr++OI).find? _=_;rw[YW,z];rfl
      . ext dB hb
        refine xc0 (p:=yg) (d:=(x2,r1)) ?_;ext IP;rw[mem1,mem2,Qi.injEq];unfold btw at hb ⊢;constructor
        . rintro ⟨h|h,h'|h'⟩<;>omega
        . rintro (⟨h,rfl,rfl⟩:43)
          show(cR,.inr E3,rb aa)
  . ext dB hlt
    have:=xc0 (l:=Ay) (m:=Dz) (p:=False) (d:=(0,0)) (by
      ext IP;rw[mem1,mem2];constructor
      . rintro ⟨h|h,h'|h'⟩<;>omega
      . rintro ⟨h,_⟩; exact h.elim)
    simpa using this
theorem xnt {w x1 y1 r1 x2 y2 r2:Int} (a1:1<=x1) (a2:x1<=w) (b1:1<=x2) (b2:x2<=w) (hx:Lj) :
    meet Dz Ay=(iY x2 x1 (Er,yg,(x2,r1),zP uS (x1,r2)) none):=by
  have mem2:∀ u v,(u,v)∈cells w x2 y2 false r2↔(u=x2/\((y2<=v/\v<r2)\/(r2<v/\v<=y2)))\/(v=r2/\x2<=u/\u<=w+1):=fun u v=>by
    rw[xcl b1 b2]; simp
  have mem1:∀ u v,(u,v)∈cells w x1 y1 true r1↔(u=x1/\((y1<=v/\v<r1)\/(r1<v/\v<=y1)))\/(v=r1/\0<=u/\u<=x1):=fun u v=>by
    rw[xcl a1 a2]; simp
  by_cases hlt:x2<x1
  . rw[az hlt]
    by_cases e:r1=r2
    . ext zmp;unfold meet;show (upL x2 y2 r1++zaf).find? _=_;rw[YW];have hn:(upL x2 y2 r1).find? (SN Ay)=none:=by
        show(zhK,(mem1 u v).mp (of_decide_eq_true hd))
      rw[hn];have hv:zaf=(x2,r1)::(zaf).tail:=by
        unfold lvL lvN;show(ED,n,hn,∃ n,(fD,w+2,x2)=eX,(fD,w+1,x2))
        simp only[Zz,if_false,hn,Qb,Zo,List.tail_cons];simp
      rw[hv,WK ((mem1 x2 r1).mpr (.inr E3))];rfl
    . by_cases hb:yg
      . have key:∀ c,(Ow,upL x2 y2 r2,Ay,True,(x2,r1)):=by
          ext zja mem1
          . rintro ⟨h,h'|h'⟩<;>refine dQ trivial<;>omega
          . ext zim
        have z:=xc0 key;rw[az hb];unfold meet at z ⊢;show (upL x2 y2 r2++lvL w x2 false r2).find? _=_;rw[YW,z];rfl
      . ext dB hb
        refine xc0 (p:=uS) (d:=(x1,r2)) ?_;ext IP;rw[mem2,mem1,Qi.injEq];unfold btw at hb ⊢;constructor
        . rintro ⟨h|h,h'|h'⟩<;>omega
        . rintro (⟨h,rfl,rfl⟩:43)
          show(cR,.inr E3,rb aa)
  . ext dB hlt
    have:=xc0 (l:=Dz) (m:=Ay) (p:=False) (d:=(0,0)) (by
      ext IP;rw[mem2,mem1];constructor
      . rintro ⟨h|h,h'|h'⟩<;>omega
      . rintro ⟨h,_⟩; exact h.elim)
    simpa using this
theorem meet_at {l m:jT}{i:Nat}{c:iW} (hc:aF l c) (no:∀ d∈l.take i,d∉m) (hm:c∈m):meet l m=some c:=by
 obtain⟨h,hi⟩:=Zi.mp hc;have e:zlm=l:=by
  rw[<- hi,List.getElem_cons_drop,Y7]
 have hn:(l.take i).find? (SN m)=none:=by
  rw[J6];ext ziN
 have z:(zlm).find? (SN m)=some c:=by
  rw[YW,hn,WK hm];rfl
 ext bO e z z
theorem meet_no {l m:jT} (no:∀ d∈l,d∉m):Lm l m:=by
 unfold meet;rw[J6];ext ziN
noncomputable def absI (a:Int):Int:=(iY,a,0,-a,a)
noncomputable def acr (w x:Int) (b:Bool):Int:=(uY,x,w+1-x)
theorem tri {a b c:Int}:(eW a c)<=(eW a b)+(eW b c):=by
 ext zkJ
theorem xfe {v a b:Int} (h:btw v a b):absI (a-b)=(eW a v)+(eW v b):=by
 unfold btw at h;ext zkJ
theorem xm8 {cn cf yn rn yf rf:Int} (hc:cn<cf) (hr:rn≠rf) (h:Ro) :
    zoW<zoX\/(zoW=zoX/\cn*(eW yn rn)+cf*(eW yf rf)<cn*(eW yn rf)+cf*(eW yf rn)):=by
  show(ae,e1,xfe h,e2,tri (a:=yf) (b:=rf) (c:=rn));by_cases c:absI (yf-rn)=(eW yf rf)+(eW rf rn)
  . show(Ai,dQ aa)
    rw[c,e1,Int.mul_add,Int.mul_add];have p:0<(eW rf rn):=by
      unfold absI;ext lQ
    show(db,Int.mul_lt_mul_of_pos_right hc p)
  . ext cH aa
theorem xqz (a b:Int):absI (a-b)=absI (b-a):=by
 unfold absI;ext AN
theorem ex_pair {w x1 y1 r1 x2 y2 r2:Int}{b1 b2:Bool} (a1:1<=x1) (a2:x1<=w) (c1:1<=x2) (c2:x2<=w) (hx:Lj) (hs:(b1,r1)≠(b2,r2)) (hm:meet G4 G3≠none) :
    zib<(IC+(eW y1 r1))+znn \/
    (b1=b2/\zib=(IC+(eW y1 r1))+znn /\
      IC*(eW y1 r1)+acr w x2 b2*(eW y2 r2)<acr w x1 b2*(eW y1 r2)+R9*(eW y2 r1)):=by
  by_cases hb:b1=b2
  . subst hb
    have hr:r1≠r2:=fun e=>hs (fW e);by_cases hn:if b1 then x1<x2 else x2<x1
    . rw[xox a1 a2 c1 c2 hr hn] at hm
      have hbt:uS:=by
        by_cases z:uS
        . exact z
        . ext DJ z
      have hc:IC<R9:=by
        unfold acr;ext xH b1 hn
      rcases xm8 (yf:=y2) hc hr hbt with z|⟨z,z2⟩
      . ext cH aa
      . show(gX,Gs aa z2)
    . have hf:if b1 then x2<x1 else x1<x2:=by
        ext xH b1 hn
      rw[xq5 c1 c2 a1 a2 (Zx hr) hf] at hm;have hbt:yg:=by
        by_cases z:yg
        . exact z
        . ext DJ z
      have hc:R9<IC:=by
        unfold acr;ext xH b1 hf
      rcases xm8 (yf:=y1) hc (Zx hr) hbt with z|⟨z,z2⟩
      . ext cH aa
      . ext gX E3
  . refine .inl ?_
    have t1:=tri (a:=y2) (b:=r2) (c:=r1);show(ae,t2,tri (a:=y1) (b:=r1) (c:=r2),n1,xqz r2 r1);cases b1 with
    | true =>
      cases b2 with
      | true=>ext iP hb
      | false =>
        rw[xpu a1 a2 c1 c2 hx] at hm;by_cases z:x2<x1
        . rw[if_pos z] at hm
          have ht:btw r2 y1 r1\/btw r1 y2 r2:=by
            by_cases z1:uS
            . ext cH z1
            . ext zpb
              . ext gX z2
              . ext DJ z2
          unfold acr;simp only[if_true,Zz,if_false];rcases ht with u|u
          . show(db,xfe u)
          . show(db,xfe u)
        . ext DJ z
    | false =>
      cases b2 with
      | false=>ext iP hb
      | true =>
        rw[xnt c1 c2 a1 a2 (Zx hx)] at hm;by_cases z:x1<x2
        . rw[if_pos z] at hm
          have ht:btw r2 y1 r1\/btw r1 y2 r2:=by
            by_cases z1:uS
            . ext cH z1
            . ext zpb
              . ext gX z2
              . ext DJ z2
          unfold acr;simp only[if_true,Zz,if_false];rcases ht with u|u
          . show(db,xfe u)
          . show(db,xfe u)
        . ext DJ z
#check Geo
namespace Drw
variable {S:Type}
#check Drw
namespace Kp
noncomputable def pc (n:Nat):Nat:=if h:n=0 then 0 else n % 2+pc (n / 2)
termination_by n
decreasing_by omega
noncomputable def subs {α:Type}:b7->List b7
 | []=>[[]]
 | a::l=>subs l++(subs l).map (a::·)
theorem subs_mem {α:Type}:∀{l S:b7},S∈subs l->(∀ a∈S,a∈l)/\S.length<=l.length
 | [],S,h=>by
  rw[Zp.mp h];ext aO lG bp
 | b::l,S,h=>by
  rcases Z3.mp h with h|h
  .have:=subs_mem h;show(aO,(zA,Zj _ (this.1 a ha)),Nat.le_succ_of_le this.2)
  .show(eE,S',hS,rfl,Ze.mp h);have:=subs_mem hS;show(cR,am a ha,Nat.succ_le_succ this.2);rcases dU ha with rfl|ha
   .exact gD
   .exact Zj _ (this.1 a ha)
theorem subs_nd {α:Type}:∀{l S:b7},l.Nodup->S∈subs l->S.Nodup
 | [],S,_,h=>by
  show(aB,Zp.mp h,J5)
 | b::l,S,nd,h=>by
  rw[ZB] at nd;rcases Z3.mp h with h|h
  .exact subs_nd gF h
  .show(eE,S',hS,rfl,Ze.mp h);exact ZB.mpr ⟨(aC,nd.1 ((subs_mem hS).1 _ z)),subs_nd gF hS⟩
theorem subs_all {α:Type} [AX]:∀{l:b7}{T:b7},(zah,a∈l,∃ S∈subs l,S.Perm T)
 | [],T,_,h=>by
  cases T with
  | nil=>show(aE,[],m6,Tf)
  | cons a T=>exact nomatch h a gD
 | b::l,T,nd,h=>by
  by_cases hb:b∈T
  .have p:=Wk hb;have nd':(b::T.erase b).Nodup:=p.nodup_iff.mp nd;rw[ZB] at nd';obtain⟨S,hS,pS⟩:62:=subs_all (l:=l) (T:=T.erase b) nd'.2 (fun a ha=>by
    rcases dU (h a (List.mem_of_mem_erase ha)) with rfl|z
    .show(dy,ha,nd'.1)
    .exact z)
   show(aE,b::S,Z6 _ (Ze.mpr (b5 S hS)),(pS.cons b).trans p.symm)
  .obtain ⟨S,hS,pS⟩:62:=subs_all (l:=l) (T:=T) nd (fun a ha=>by
    rcases Zt.mp (h a ha) with rfl|z
    .ext dy ha hb
    .exact z)
   show(aE,S,ZR _ hS,pS)
section
variable {N S:Type} [DecidableEq N] [DecidableEq S]
structure Mt (room:oU) (so:lP) (ho:m9):Prop where
 iff:∀ n s,zmq
 rm:zmv
theorem Mt.inj {room:oU}{so:lP}{ho:m9} (m:P9) {a b:N}{s:S} (ha:zbm) (hb:so b=some s):a=b:=by
 have x:=(m.iff a s).mp ha;show(bO,(m.iff b s).mp hb,x,(ZE.inj x).symm)
theorem xeo {so:lP}:∀{T:wt},(zah,∀ b∈T,∀ s,zbm->so b=some s->a=b,(zbS).Nodup)
 | [],_,_=>J5
 | a::T,nd,inj=>by
  rw[ZB] at nd;have ih:=xeo gF fun x hx y hy=>inj x zh y tU;rw[Jj];cases e:so a with
  | none=>exact ih
  | some s =>
   refine ZB.mpr ⟨l0,ih⟩;show(af,b,hb,eb,JR.mp z);rw[inj a gD b (Zj _ hb) s e eb] at nd;exact nd.1 hb
theorem xdc {so:lP}:∀{T:wt},zna->(zbS).length=T.length
 | [],_=>rfl
 | a::T,h=>by
  rw[Jj];cases e:so a with
  | none =>
   show(zby,h a gD)
  | some s =>
   show (s::zbS).length=_;rw[ZL,ZL,xdc XY]
noncomputable def tog (room:oU) (T:wt) (s:S):Bool:=T.any fun n=>cJ (s∈room n)
theorem hall {room:oU}{so:lP}{ho:m9} (m:P9) {ss:List S} (hr:GO) {T:wt} (nd:T.Nodup) (h:zna):T.length<=ss.countP (tog room T):=by
 rw[List.countP_eq_length_filter,<- xdc h];show(zar,xeo nd zjR,yO);show(af,n,hn,e,JR.mp hs);ext zfY hn
structure Crowd (room:oU) (so:lP) (name:N) (hs:wt):Prop where
 nd:(BZ).Nodup
 has:∀ h∈hs,(so h).isSome
 all:∀ c∈BZ,∀ s∈room c,∃ h∈hs,so h=some s
theorem Crowd.count {room:oU}{so:lP}{ho:m9} (m:P9) {name:N}{hs:wt} (c:Crowd room so name hs) {ss:List S} (nd:ss.Nodup) (hr:GO):ss.countP (tog room BZ)=hs.length:=by
 rw[List.countP_eq_length_filter];have ndh:=(ZB.mp c.nd).2;refine Nat.le_antisymm ?_ ?_
 .rw [<- xdc c.has];show(zar,JU.filter _ nd,am s hs');show(af,n,hn,e,J9.mp (ZC.mp hs').2);show(af,h,hh,e',c.all n hn s zqU);exact JR.mpr ⟨h,hh,e'⟩
 .rw [<- xdc c.has];show(zar,xeo ndh zjR,am s hs');show(af,n,hn,e,JR.mp hs');show(zfY,Zj _ hn)
theorem tog_perm {room:oU}{T T':wt} (p:T.Perm T') (s:S):tog room T s=tog room T' s:=by
 unfold tog;rw[Jg,J9,J9];constructor
 .ext qI n h e;show(aE,n,p.mem_iff.mp h,e)
 .ext qI n h e;show(aE,n,p.mem_iff.mpr h,e)
noncomputable def upd1 {α β:Type} [AX] (f:zej) (a:α) (b:β):zej:=aC (nh,z,a,some b,f z)
structure Hand (room:oU) (dom:N->Bool) (so:lP) (ho:m9) (wait:S):Prop where
 iff:(wM,s≠wait,zmq)
 rm:zmv
 no:∀ n,so n≠some wait
 dm:∀ n,(so n).isSome=dom n
theorem Mt.hand {room:oU}{so:lP}{ho:m9} (m:P9) {s:S} (h:Bv):zcP (lB,(so n).isSome) :=
 ⟨fun n s _=>m.iff n s,m.rm,fun n e=>(by show(cE,(m.iff n s).mp e,h)),o5⟩
theorem Hand.step {room:oU}{dom:N->Bool}{so:lP}{ho:m9}{s s1:S}{a:N} (g:zcP dom) (ra:CJ) (e:so a=some s1):Hand room dom (upd1 so a s) (upd1 ho s a) s1:=by
 show(hX,ne,s1,s,(aC,g.no a (z▸e)),⟨RW,RW,am n hx,bZ n⟩)
 .unfold upd1;by_cases h1:n=a
  .ext zpX
   .rw [az h2,h2];simp
   .ext iA h2;constructor
    .ext Na h2
    .intro z
     show(ve,(g.iff n x h2).mpr z,e);show(dy,(ZE.inj this).symm,hx)
  .ext iA h1;by_cases h2:x=s
   .subst h2;rw[cp];constructor
    .ext zpw
    .ext Na h1
   .ext iA h2;exact g.iff n x h2
 .ext W4
  .ext zkW
  .exact g.rm n x hx
 .ext W4
  .exact ne zaH
  .rename_i h1
   have x1:=(g.iff n s1 ne).mp hx;rw[(g.iff a s1 ne).mp e] at x1;exact h1 (ZE.inj x1).symm
 .unfold upd1;split
  .rename_i h1
   rw[h1,<- g.dm a,e];rfl
  .exact g.dm n
theorem Hand.last {room:oU}{dom:N->Bool}{so:lP}{ho:m9}{s:S}{a:N} (g:zcP dom) (ra:CJ) (e:CC a):Mt room (upd1 so a s) (upd1 ho s a)/\∀ n,(upd1 so a s n).isSome=((cC n a)||dom n):=by
 show(cR,⟨am n x,RW⟩,bZ n)
 .unfold upd1;by_cases h1:n=a
  .ext zpX
   .rw [az h2,h2];simp
   .ext iA h2;constructor
    .ext Na h2
    .intro z
     show(zby,(g.iff n x h2).mpr z)
  .ext iA h1;by_cases h2:x=s
   .subst h2;rw[cp];constructor
    .ext zpw
    .ext Na h1
   .ext iA h2;exact g.iff n x h2
 .ext W4
  .ext zkW
  .exact g.rm n x hx
 .unfold upd1;split
  .rename_i h1
   simp[h1]
  .rename_i h1
   rw[<- g.dm n];simp[h1]
#check _
inductive Rch {α:Type} (f:IB):bM α α
 | refl (a:α):Rch f a a
 | step {a b c:α}:Ks->f b=some c->S1
theorem Rch.trans {α:Type}{f:IB}{a b c:α} (h:Ks) (g:Rch f b c):S1:=by
 induction g with
 | refl=>exact h
 | step _ e ih=>exact .step ih e
theorem Rch.head {α:Type}{f:IB}{a b:α} (h:Ks):a=b\/∃ d,f a=some d/\Rch f d b:=by
 induction h with
 | refl=>ext wf
 | step g e ih =>
  rcases ih with rfl|⟨d,e1,g1⟩
  .show(gX,(dI,e,.refl _))
  .show(gX,⟨d,e1,.step g1 e⟩)
theorem Rch.lin {α:Type}{f:IB}{a b c:α} (h:Ks) (g:S1):Rch f b c\/Rch f c b:=by
 induction h with
 | refl=>ext cH g
 | step h e ih =>
  rcases ih with z|z
  .rcases z.head with rfl|⟨d,e1,g1⟩
   .show(gX,.step (.refl _) e)
   .rw [e] at e1;cases e1;ext cH g1
  .show(gX,.step z e)
theorem Rch.det {α:Type}{f:IB}{a b c:α} (h:Ks) (n1:f b=none) (g:S1) (n2:f c=none):b=c:=by
 rcases h.lin g with z|z
 .rcases z.head with e|⟨d,e1,_⟩
  .exact e
  .ext zS n1 e1
 .rcases z.head with e|⟨d,e1,_⟩
  .exact e.symm
  .ext zS n2 e1
inductive KS (N S:Type) where
 | ask (crowd:wt) (asked:m9) (i j:Nat)
 | hand (so:lP) (ho:m9) (asked:m9) (s:S)
 | out (crowd:wt)
 | fin (so:lP) (ho:m9)
section
variable {N S:Type} [DecidableEq N] [DecidableEq S]
noncomputable def kstep (room:oU) (so:lP) (ho:m9):KS N S->(cX (KS N S))
 | B2=>match crowd[i]? with
  | none=>some (.out crowd)
  | some a=>match ug[j]? with
   | none=>some (Ih aH 0)
   | some s=>match iK with
    | some _=>some (Ih i hV)
    | none=>match ho s with
     | none=>some zkH
     | some h=>some zkU
 | GX=>match iK with
  | none=>none
  | some a=>match so1 a with
   | none=>some (.fin zdA zdB)
   | some l=>some zqt
 | .out _=>none
 | .fin _ _=>none
variable {room:N->List S}{so so1:N->Option S}{ho ho1 asked:S->Option N}{crowd:List N}{i j:Nat}{a h:N}{s l:S}
theorem k_end (e:crowd[i]?=none):Ax B2 (.out crowd):=by
 simp only[kstep,e]
theorem k_next (e:yd) (e2:ug[j]?=none):Ax B2 (Ih aH 0):=by
 ext zcn
theorem k_old (e:yd) (e2:b9 ug s) (e3:asked s=some h):Ax B2 (Ih i hV):=by
 simp only[kstep,e,e2,e3]
theorem k_free (e:yd) (e2:b9 ug s) (e3:HG) (e4:Bv):Ax B2 zkH:=by
 simp only[kstep,e,e2,e3,e4]
theorem k_grow (e:yd) (e2:b9 ug s) (e3:HG) (e4:D2):Ax B2 zkU:=by
 simp only[kstep,e,e2,e3,e4]
theorem k_hand (e:oH) (e2:so1 a=some l):Ax GX zqt:=by
 ext zcn
theorem k_fin (e:oH) (e2:so1 a=none):Ax GX (.fin zdA zdB):=by
 ext zcn
#check _
#check Kp
namespace Geo
noncomputable def vr (v y r:Int):Prop:=zcV
noncomputable def hz (b:Bool) (u x:Int):Prop:=(cm,b,u<=x,x<=u)
noncomputable def Mc (x1 y1:Int) (b1:Bool) (r1 x2 y2:Int) (b2:Bool) (r2:Int):Prop:=(hz b2 x1 x2/\vr r2 y1 r1)\/(hz b1 x2 x1/\vr r1 y2 r2)\/(r1=r2/\(b1=b2\/hz b1 x2 x1))
theorem xmm {w x1 y1 r1 x2 y2 r2:Int}{b1 b2:Bool} (a1:1<=x1) (a2:x1<=w) (c1:1<=x2) (c2:x2<=w) (hx:Lj):(Lm G4 G3)↔¬ Mc x1 y1 b1 r1 x2 y2 b2 r2:=by
 have e:(Lm G4 G3)↔∀ u v,(u,v)∈G4->¬ (u,v)∈G3:=by
  unfold meet;rw[J6];show(aO,fun h u v m=>(uT,h (u,v) m),fun h c m=>by obtain⟨u,v⟩:=c; simpa using h u v m)
 rw[e];simp only[xcl a1 a2,xcl c1 c2];unfold Mc hz vr;constructor
 .rintro h (⟨k1,k2⟩|⟨k1,k2⟩|⟨k1,k2⟩)
  .refine h x1 r2 (rb k2) LO;ext xH b2 k1
  .refine h x2 r1 LO (rb k2);ext xH b1 k1
  .rcases k2 with k2|k2
   .subst k2;cases b1
    .ext zlU
    .ext zoa
   .by_cases z:b1=b2
    .subst z;cases b1
     .ext zlU
     .ext zoa
    .refine h x2 r1 LO zdD
     .ext xH b1 k2
     .cases b2<;>simp<;>omega
 .rintro h u v (⟨p1,p2⟩|⟨p1,p2⟩) (⟨q1,q2⟩|⟨q1,q2⟩)
  .omega
  .refine h (.inl (dQ ?_))
   .ext xH b2 q2
   .rw [<- q1];exact p2
  .refine h (.inr (.inl (dQ ?_)))
   .ext xH b1 p2
   .rw [<- p1];exact q2
  .refine h (.inr (.inr (dQ aa)));by_cases z:b1=b2
   .ext cH z
   .refine .inr ?_;cases b1<;>cases b2<;>simp at z p2 q2 ⊢<;>omega
noncomputable def Mono (n:Int) (m:B7):Prop:=∀ a b,(bb,0<=a,a<b,b<=n,m a<m b)
theorem Mono.lt {n:Int}{m:B7} (h:Mono n m) {a b:Int} (a0:0<=a) (an:a<=n) (b0:0<=b) (bn:b<=n):m a<m b↔a<b:=by
 constructor
 .intro k
  rcases Int.lt_trichotomy a b with z|z|z
  .exact z
  .rw [z] at k;omega
  .show(db,h b a b0 z an)
 .exact fun k=>h a b a0 k bn
theorem Mono.le {n:Int}{m:B7} (h:Mono n m) {a b:Int} (a0:0<=a) (an:a<=n) (b0:0<=b) (bn:b<=n):m a<=m b↔a<=b:=by
 show(db,h.lt b0 bn a0 an)
theorem Mono.inj {n:Int}{m:B7} (h:Mono n m) {a b:Int} (a0:0<=a) (an:a<=n) (b0:0<=b) (bn:b<=n):m a=m b↔a=b:=by
 show(CV,h.lt b0 bn a0 an,h.lt a0 an b0 bn);omega
theorem Mc.mono {w h:Int}{f g:B7} (mf:Mono w f) (mg:Mono h g) {x1 y1 r1 x2 y2 r2:Int}{b1 b2:Bool} (a1:1<=x1) (a2:x1<=w) (c1:1<=x2) (c2:x2<=w) (y11:1<=y1) (y12:y1<=h) (r11:1<=r1) (r12:r1<=h) (y21:1<=y2) (y22:y2<=h) (r21:1<=r2) (r22:r2<=h):Mc (f x1) (g y1) b1 (g r1) (f x2) (g y2) b2 (g r2)↔Mc x1 y1 b1 r1 x2 y2 b2 r2:=by
 have hz_:∀(b:Bool) {u x:Int},(bg,1<=u,u<=w,1<=x,x<=w,hz b (f u) (f x)↔hz b u x):=fun b u x u1 u2 x1 x2=>by
  unfold hz;cases b
  .simp only [Zz,if_false];exact mf.le aa x2 aa u2
  .simp only [if_true];exact mf.le aa u2 aa x2
 have vr_:∀{v y r:Int},1<=v->v<=h->(bg,1<=y,y<=h,1<=r,r<=h,vr (g v) (g y) (g r)↔vr v y r):=fun v1 v2 y1 y2 r1 r2=>by
  unfold vr;rw[mg.le aa y2 aa v2,mg.lt aa v2 aa r2,mg.lt aa r2 aa v2,mg.le aa v2 aa y2]
 unfold Mc;rw[hz_ b2 a1 a2 c1 c2,hz_ b1 c1 c2 a1 a2,vr_ r21 r22 y11 y12 r11 r12,vr_ r11 r12 y21 y22 r21 r22,mg.inj aa r12 aa r22]
theorem meet_mono {w h w':Int}{f g:B7} (mf:Mono w f) (mg:Mono h g) (fw:∀ x,1<=x->x<=w->1<=f x/\f x<=w') {x1 y1 r1 x2 y2 r2:Int}{b1 b2:Bool} (hx:Lj) (a1:1<=x1) (a2:x1<=w) (c1:1<=x2) (c2:x2<=w) (y11:1<=y1) (y12:y1<=h) (r11:1<=r1) (r12:r1<=h) (y21:1<=y2) (y22:y2<=h) (r21:1<=r2) (r22:r2<=h):(Lm (cells w' (f x1) (g y1) b1 (g r1)) (cells w' (f x2) (g y2) b2 (g r2)))↔(Lm G4 G3):=by
 rw[xmm a1 a2 c1 c2 hx,xmm (fw x1 a1 a2).1 (fw x1 a1 a2).2 (fw x2 c1 c2).1 (fw x2 c1 c2).2 (fun e=>hx ((mf.inj aa a2 aa c2).mp e)),Mc.mono mf mg a1 a2 c1 c2 y11 y12 r11 r12 y21 y22 r21 r22]
structure Marks (ns:bK) (n:Nat) (dbl:Bool):Prop where
 len:ns.length=eX
 z:dO ns 0 0
 st:∀(i:Nat) (a b:Int),(aF ns a)->(dO ns aH b)->(b=a+1\/b=a+2)/\(B8->b=a+2)
noncomputable def mrk (ns:bK) (i:Int):Int:=ns.getD i.toNat 0
theorem xtv (ns:bK) (i:Nat):mrk ns cG=ns.getD i 0:=by
 unfold mrk;rw[JM]
theorem xp4 {ns:bK}{i:Nat}{a:Int} (h:aF ns a):mrk ns cG=a:=by
 rw[xtv,Q4,h];rfl
theorem Marks.at_ {ns:bK}{n:Nat}{dbl:Bool} (m:Eb) {i:Nat} (h:i<=n):aF ns BM:=by
 have l:=m.len;obtain⟨a,ha⟩:∃ a,aF ns a:=(fC,Zb aa)
 rw[xp4 ha,ha]
theorem Marks.zero {ns:bK}{n:Nat}{dbl:Bool} (m:Eb):mrk ns 0=0:=xp4 (i:=0) m.z
theorem Marks.step {ns:bK}{n:Nat}{dbl:Bool} (m:Eb) {i:Nat} (h:hW):BM+1<=mrk ns (dM aH)/\mrk ns (dM aH)<=BM+2/\(B8->mrk ns (dM aH)=BM+2):=by
 have k:=m.st i _ _ (m.at_ (JJ h)) (m.at_ (i:=aH) h);refine⟨?_,?_,k.2⟩<;>rcases k.1 with z|z<;>omega
theorem Marks.up {ns:bK}{n:Nat}{dbl:Bool} (m:Eb):∀(d i:Nat),i+d<=n->BM+d<=mrk ns (dM,i+d)/\mrk ns (dM,i+d)<=BM+2*d/\(B8->mrk ns (dM,i+d)=BM+2*d)
 | 0,i,_=>⟨ah,ah,fun _=>ah⟩
 | d+1,i,h=>by
  show(fO,a,b,c,m.up d i aa);show(fO,a',b',c',m.step (i:=i+d) aa);have e:i+(d+1)=i+d+1:=aa
  rw[e];ext dc aa aa l0;rw[c' z,c z];omega
theorem Marks.mono {ns:bK}{n:Nat}{dbl:Bool} (m:Eb):Mono gV (mrk ns):=fun a b a0 lt bn=>by
 have k:=(m.up (fD b a) a.toNat aa).1;have e1:(dM a.toNat)=a:=aa
 have e2:(dM,a.toNat+(fD b a))=b:=aa
 rw[e1,e2] at k;omega
theorem Marks.two {ns:bK}{n:Nat} (m:Marks ns n true) {a:Int} (a0:0<=a) (an:a<=n):mrk ns a=2*a:=by
 have k:=(m.up a.toNat 0 aa).2.2 rfl;have e:(dM,0+a.toNat)=a:=aa
 rw[e] at k;have z:=m.zero;have z':mrk ns rq=0:=z;rw[z'] at k;omega
theorem Marks.bd {ns:bK}{n:Nat}{dbl:Bool} (m:Eb) {a:Int} (a0:0<=a) (an:a<=n):a<=mrk ns a/\mrk ns a<=2*a:=by
 have k:=m.up a.toNat 0 aa;have e:(dM,0+a.toNat)=a:=aa
 have z':mrk ns rq=0:=m.zero;rw[e,z'] at k;omega
#check Geo
namespace S92
open PySem L2 XL
theorem hmm {j k A}(r:L2.Room true k A)(h:j<=k:=by decide):L2.Room true j A:=r.mono h
noncomputable def top (i:Nat):Stmt:=PySem.Challenge.pw_rimnotes_k92_whole_stretched.main.body.getD i (.Pass zcs)
noncomputable abbrev s_at:Stmt:=j7 18 0
noncomputable abbrev s_ag:Stmt:=j7 19 1
noncomputable abbrev s_ab:Stmt:=j7 19 2
noncomputable abbrev s_s:Stmt:=j7 19 3
noncomputable abbrev s_aa:Stmt:=j7 20 1
noncomputable abbrev s_z:Stmt:=j7 20 2
noncomputable abbrev s_p:Stmt:=j7 20 3
noncomputable abbrev s_as:Stmt:=top 21
noncomputable abbrev s_av:Stmt:=top 23
noncomputable abbrev xew:Stmt:=top 25
noncomputable abbrev xfx:Stmt:=top 26
noncomputable abbrev xgz:Stmt:=top 27
noncomputable abbrev s_ax:Stmt:=top 28
noncomputable abbrev xe2:Stmt:=top 30
noncomputable abbrev s_ap:Stmt:=top 31
noncomputable abbrev xds:Stmt:=top 32
noncomputable abbrev s_ae:Stmt:=top 33
noncomputable abbrev xc9:Stmt:=top 34
noncomputable abbrev xe7:Stmt:=top 35
noncomputable abbrev s_ah:Stmt:=j7 37 0
noncomputable abbrev s_o:Stmt:=j7 37 1
noncomputable abbrev s_c:Stmt:=j7 37 2
noncomputable abbrev xfs:Stmt:=top 38
noncomputable abbrev xlb:Stmt:=top 39
noncomputable abbrev s_aw:Stmt:=top 40
noncomputable abbrev xgf:Stmt:=top 41
noncomputable abbrev s_al:Stmt:=j7 43 0
noncomputable abbrev s_w:Stmt:=j7 43 1
noncomputable abbrev s_u:Stmt:=j7 43 2
noncomputable abbrev s_t:Stmt:=j7 43 3
noncomputable abbrev s_g:Stmt:=j7 43 4
noncomputable abbrev xgp:Stmt:=top 44
noncomputable abbrev xg7:Stmt:=top 45
noncomputable abbrev xht:Stmt:=top 47
noncomputable abbrev s_ak:Stmt:=top 49
noncomputable abbrev s_az:Stmt:=top 50
noncomputable abbrev s_ai:Stmt:=oa 0
noncomputable abbrev s_b:Stmt:=oa 1
noncomputable abbrev s_k:Stmt:=oa 4
noncomputable abbrev s_i:Stmt:=oa 6
noncomputable abbrev s_q:Stmt:=oa 7
noncomputable abbrev s_j:Stmt:=oa 8
noncomputable abbrev s_v:Stmt:=oa 9
noncomputable abbrev s_n:Stmt:=oa 10
noncomputable abbrev s_h:Stmt:=oa 11
noncomputable abbrev s_d:Stmt:=oa 15
noncomputable abbrev s_l:Stmt:=oa 16
noncomputable abbrev s_f:Stmt:=oa 17
noncomputable abbrev s_e:Stmt:=oa 18
noncomputable abbrev s_ao:Stmt:=top 58
noncomputable abbrev s_m:Stmt:=top 59
noncomputable abbrev s_am:Stmt:=top 60
noncomputable abbrev s_an:Stmt:=top 61
noncomputable abbrev s_a1:Stmt:=top 62
noncomputable abbrev s_aq:Stmt:=top 63
noncomputable abbrev s_ar:Stmt:=top 64
noncomputable abbrev s_y:Stmt:=top 65
noncomputable abbrev s_au:Stmt:=top 66
noncomputable abbrev s_ay:Stmt:=top 67
noncomputable abbrev s_aj:Stmt:=top 68
noncomputable abbrev xoo:Stmt:=top 69
set_option genInjectivity false in
set_option genSizeOf false in
set_option genInjectivity false in
set_option genSizeOf false in
structure Adr where
 f_at:Addr
 d_at:FuncData
 f_ag:Addr
 d_ag:FuncData
 f_ab:Addr
 d_ab:FuncData
 f_s:Addr
 d_s:FuncData
 f_aa:Addr
 d_aa:FuncData
 f_z:Addr
 d_z:FuncData
 f_p:Addr
 d_p:FuncData
 f_as:Addr
 d_as:FuncData
 f_av:Addr
 d_av:FuncData
 f_meeting:Addr
 d_meeting:FuncData
 f_meetings:Addr
 d_meetings:FuncData
 f_total:Addr
 d_total:FuncData
 f_ax:Addr
 d_ax:FuncData
 f_upright:Addr
 d_upright:FuncData
 f_ap:Addr
 d_ap:FuncData
 f_exchangeable:Addr
 d_exchangeable:FuncData
 f_ae:Addr
 d_ae:FuncData
 f_exchanged:Addr
 d_exchanged:FuncData
 f_uncrossed:Addr
 d_uncrossed:FuncData
 f_ah:Addr
 d_ah:FuncData
 f_o:Addr
 d_o:FuncData
 f_c:Addr
 d_c:FuncData
 f_crowds:Addr
 d_crowds:FuncData
 f_fits:Addr
 d_fits:FuncData
 f_aw:Addr
 d_aw:FuncData
 f_kept:Addr
 d_kept:FuncData
 f_al:Addr
 d_al:FuncData
 f_w:Addr
 d_w:FuncData
 f_u:Addr
 d_u:FuncData
 f_t:Addr
 d_t:FuncData
 f_g:Addr
 d_g:FuncData
 f_least:Addr
 d_least:FuncData
 f_fault:Addr
 d_fault:FuncData
 f_answer:Addr
 d_answer:FuncData
 f_ak:Addr
 d_ak:FuncData
 f_az:Addr
 d_az:FuncData
 f_ai:Addr
 d_ai:FuncData
 f_b:Addr
 d_b:FuncData
 T_b:Addr
 f_k:Addr
 d_k:FuncData
 f_i:Addr
 d_i:FuncData
 f_q:Addr
 d_q:FuncData
 f_j:Addr
 d_j:FuncData
 f_v:Addr
 d_v:FuncData
 f_n:Addr
 d_n:FuncData
 f_h:Addr
 d_h:FuncData
 f_d:Addr
 d_d:FuncData
 f_l:Addr
 d_l:FuncData
 f_f:Addr
 d_f:FuncData
 f_e:Addr
 d_e:FuncData
 f_ao:Addr
 d_ao:FuncData
 f_m:Addr
 d_m:FuncData
 f_am:Addr
 d_am:FuncData
 f_an:Addr
 d_an:FuncData
 f_a1:Addr
 d_a1:FuncData
 f_aq:Addr
 d_aq:FuncData
 f_ar:Addr
 d_ar:FuncData
 f_y:Addr
 d_y:FuncData
 f_au:Addr
 d_au:FuncData
 f_ay:Addr
 d_ay:FuncData
 f_aj:Addr
 d_aj:FuncData
 f_law:Addr
 d_law:FuncData
 C_bh:Addr
 C_af:Addr
 C_x:Addr
 C_ac:Addr
 C_r:Addr
 C_a:Addr
 D_ad:Addr
structure Txt (w:World) (K:Zd) (mg:fK) (t:Adr):Prop where
 g_af:bX "LeftSide" t.C_af
 g_x:bX "RightSide" t.C_x
 g_ac:bX "Seating" t.C_ac
 g_r:bX "Prices" t.C_r
 g_a:bX "Picture" t.C_a
 F_at:Fun K "__init__" "Side.__init__" s_at t.f_at t.d_at
 b_at:ba t.d_at Os
 F_ag:Fun K "rim" "LeftSide.rim" s_ag t.f_ag t.d_ag
 b_ag:ba t.d_ag jv
 F_ab:Fun K "way" "LeftSide.way" s_ab t.f_ab t.d_ab
 b_ab:ba t.d_ab jv
 F_s:Fun K "across" "LeftSide.across" s_s t.f_s t.d_s
 b_s:ba t.d_s yb
 F_aa:Fun K "rim" "RightSide.rim" s_aa t.f_aa t.d_aa
 b_aa:ba t.d_aa jv
 F_z:Fun K "way" "RightSide.way" s_z t.f_z t.d_z
 b_z:ba t.d_z jv
 F_p:Fun K "across" "RightSide.across" s_p t.f_p t.d_p
 b_p:ba t.d_p yb
 g_as:bX "side_of" t.f_as
 F_as:Fun K "side_of" "side_of" s_as t.f_as t.d_as
 b_as:ba t.d_as On
 g_av:bX "cells_of" t.f_av
 F_av:Fun K "cells_of" "cells_of" s_av t.f_av t.d_av
 b_av:ba t.d_av Va
 g_meeting:bX "meeting" t.f_meeting
 F_meeting:Fun K "meeting" "meeting" xew t.f_meeting t.d_meeting
 b_meeting:ba t.d_meeting Dl
 g_meetings:bX "meetings" t.f_meetings
 F_meetings:Fun K "meetings" "meetings" xfx t.f_meetings t.d_meetings
 b_meetings:ba t.d_meetings iC
 g_total:bX "total" t.f_total
 F_total:Fun K "total" "total" xgz t.f_total t.d_total
 b_total:ba t.d_total iC
 g_ax:bX "is_giving" t.f_ax
 F_ax:Fun K "is_giving" "is_giving" s_ax t.f_ax t.d_ax
 b_ax:ba t.d_ax Vv
 g_upright:bX "upright" t.f_upright
 F_upright:Fun K "upright" "upright" xe2 t.f_upright t.d_upright
 b_upright:ba t.d_upright iC
 g_ap:bX "upright_of" t.f_ap
 F_ap:Fun K "upright_of" "upright_of" s_ap t.f_ap t.d_ap
 b_ap:ba t.d_ap zep
 g_exchangeable:bX "exchangeable" t.f_exchangeable
 F_exchangeable:Fun K "exchangeable" "exchangeable" xds t.f_exchangeable t.d_exchangeable
 b_exchangeable:ba t.d_exchangeable iC
 g_ae:bX "may_exchange" t.f_ae
 F_ae:Fun K "may_exchange" "may_exchange" s_ae t.f_ae t.d_ae
 b_ae:ba t.d_ae Dl
 g_exchanged:bX "exchanged" t.f_exchanged
 F_exchanged:Fun K "exchanged" "exchanged" xc9 t.f_exchanged t.d_exchanged
 b_exchanged:ba t.d_exchanged VW
 g_uncrossed:bX "uncrossed" t.f_uncrossed
 F_uncrossed:Fun K "uncrossed" "uncrossed" xe7 t.f_uncrossed t.d_uncrossed
 b_uncrossed:ba t.d_uncrossed iC
 F_ah:Fun K "__init__" "Seating.__init__" s_ah t.f_ah t.d_ah
 b_ah:ba t.d_ah jv
 F_o:Fun K "hand_on" "Seating.hand_on" s_o t.f_o t.d_o
 b_o:zU t.d_o "asked_by" "free_seat"
 F_c:Fun K "crowd_with" "Seating.crowd_with" s_c t.f_c t.d_c
 b_c:zU t.d_c "name" "rooms"
 g_crowds:bX "crowds" t.f_crowds
 F_crowds:Fun K "crowds" "crowds" xfs t.f_crowds t.d_crowds
 b_crowds:ba t.d_crowds oQ
 g_fits:bX "fits" t.f_fits
 F_fits:Fun K "fits" "fits" xlb t.f_fits t.d_fits
 b_fits:ba t.d_fits oQ
 g_aw:bX "left_out" t.f_aw
 F_aw:Fun K "left_out" "left_out" s_aw t.f_aw t.d_aw
 b_aw:ba t.d_aw mZ
 g_kept:bX "kept" t.f_kept
 F_kept:Fun K "kept" "kept" xgf t.f_kept t.d_kept
 b_kept:ba t.d_kept mZ
 F_al:Fun K "__init__" "Prices.__init__" s_al t.f_al t.d_al
 b_al:ba t.d_al G6
 F_w:Fun K "let_in" "Prices.let_in" s_w t.f_w t.d_w
 b_w:ba t.d_w jP
 F_u:Fun K "ask_on" "Prices.ask_on" s_u t.f_u t.d_u
 b_u:zU t.d_u "askers" "asked_by"
 F_t:Fun K "nearest" "Prices.nearest" s_t t.f_t t.d_t
 b_t:zU t.d_t "askers" "asked_by"
 F_g:Fun K "shift_prices" "Prices.shift_prices" s_g t.f_g t.d_g
 b_g:ba t.d_g U2
 g_least:bX "least" t.f_least
 F_least:Fun K "least" "least" xgp t.f_least t.d_least
 b_least:ba t.d_least oQ
 g_fault:bX "fault" t.f_fault
 F_fault:Fun K "fault" "fault" xg7 t.f_fault t.d_fault
 b_fault:ba t.d_fault UN
 g_answer:bX "answer" t.f_answer
 F_answer:Fun K "answer" "answer" xht t.f_answer t.d_answer
 b_answer:ba t.d_answer mZ
 g_ak:bX "is_whole" t.f_ak
 F_ak:Fun K "is_whole" "is_whole" s_ak t.f_ak t.d_ak
 b_ak:ba t.d_ak Nc
 g_az:bX "is_name" t.f_az
 F_az:Fun K "is_name" "is_name" s_az t.f_az t.d_az
 b_az:ba t.d_az Th
 F_ai:Fun K "__init__" "Picture.__init__" s_ai t.f_ai t.d_ai
 b_ai:zU t.d_ai "width" "height"
 F_b:FunD K "put" "Picture.put" s_b t.T_b t.f_b t.d_b
 b_b:ba t.d_b ["self", "name", "x", "y", "sides", "low", "high"]
 F_k:Fun K "open_seat" "Picture.open_seat" s_k t.f_k t.d_k
 b_k:zU t.d_k "side" "row"
 F_i:Fun K "points" "Picture.points" s_i t.f_i t.d_i
 b_i:ba t.d_i jv
 F_q:Fun K "seats" "Picture.seats" s_q t.f_q t.d_q
 b_q:ba t.d_q jv
 F_j:Fun K "place_of" "Picture.place_of" s_j t.f_j t.d_j
 b_j:ba t.d_j jP
 F_v:Fun K "may" "Picture.may" s_v t.f_v t.d_v
 b_v:ba t.d_v Dg
 F_n:Fun K "length" "Picture.length" s_n t.f_n t.d_n
 b_n:ba t.d_n Dg
 F_h:Fun K "seats_for" "Picture.seats_for" s_h t.f_h t.d_h
 b_h:ba t.d_h jP
 F_d:Fun K "check_name" "Picture.check_name" s_d t.f_d t.d_d
 b_d:ba t.d_d jP
 F_l:Fun K "check_cell" "Picture.check_cell" s_l t.f_l t.d_l
 b_l:zU t.d_l "x" "y"
 F_f:Fun K "check_lines" "Picture.check_lines" s_f t.f_f t.d_f
 b_f:ba t.d_f VZ
 F_e:Fun K "check_seat" "Picture.check_seat" s_e t.f_e t.d_e
 b_e:zU t.d_e "side" "row"
 g_ao:bX "_law_cell" t.f_ao
 F_ao:Fun K "_law_cell" "_law_cell" s_ao t.f_ao t.d_ao
 b_ao:ba t.d_ao M6
 g_m:bX "_law_mixed" t.f_m
 F_m:Fun K "_law_mixed" "_law_mixed" s_m t.f_m t.d_m
 b_m:ba t.d_m VG
 g_am:bX "_law_built" t.f_am
 F_am:Fun K "_law_built" "_law_built" s_am t.f_am t.d_am
 b_am:ba t.d_am Ur
 g_an:bX "_law_opened" t.f_an
 F_an:Fun K "_law_opened" "_law_opened" s_an t.f_an t.d_an
 b_an:ba t.d_an Vb
 g_a1:bX "_law_may" t.f_a1
 F_a1:Fun K "_law_may" "_law_may" s_a1 t.f_a1 t.d_a1
 b_a1:ba t.d_a1 Ut
 g_aq:bX "_law_given" t.f_aq
 F_aq:Fun K "_law_given" "_law_given" s_aq t.f_aq t.d_aq
 b_aq:ba t.d_aq UJ
 g_ar:bX "_law_marks" t.f_ar
 F_ar:Fun K "_law_marks" "_law_marks" s_ar t.f_ar t.d_ar
 b_ar:ba t.d_ar UQ
 g_y:bX "_law_stretched" t.f_y
 F_y:Fun K "_law_stretched" "_law_stretched" s_y t.f_y t.d_y
 b_y:ba t.d_y Ui
 g_au:bX "_law_named" t.f_au
 F_au:Fun K "_law_named" "_law_named" s_au t.f_au t.d_au
 b_au:ba t.d_au HI
 g_ay:bX "_law_alike" t.f_ay
 F_ay:Fun K "_law_alike" "_law_alike" s_ay t.f_ay t.d_ay
 b_ay:ba t.d_ay Uo
 g_aj:bX "_law_priced" t.f_aj
 F_aj:Fun K "_law_priced" "_law_priced" s_aj t.f_aj t.d_aj
 b_aj:ba t.d_aj UA
 g_law:bX "law" t.f_law
 F_law:Fun K "law" "law" xoo t.f_law t.d_law
 c_af:Cls K t.C_af
 k_af:Mk K t.C_af t.f_at
 m_ag:Meth K t.C_af "rim" t.f_ag
 m_ab:Meth K t.C_af "way" t.f_ab
 m_s:Meth K t.C_af "across" t.f_s
 c_x:Cls K t.C_x
 k_x:Mk K t.C_x t.f_at
 m_aa:Meth K t.C_x "rim" t.f_aa
 m_z:Meth K t.C_x "way" t.f_z
 m_p:Meth K t.C_x "across" t.f_p
 c_ac:Cls K t.C_ac
 k_ac:Mk K t.C_ac t.f_ah
 m_o:Meth K t.C_ac "hand_on" t.f_o
 m_c:Meth K t.C_ac "crowd_with" t.f_c
 c_r:Cls K t.C_r
 k_r:Mk K t.C_r t.f_al
 m_w:Meth K t.C_r "let_in" t.f_w
 m_u:Meth K t.C_r "ask_on" t.f_u
 m_t:Meth K t.C_r "nearest" t.f_t
 m_g:Meth K t.C_r "shift_prices" t.f_g
 c_a:Cls K t.C_a
 k_a:Mk K t.C_a t.f_ai
 m_b:o6 "put" t.f_b
 m_k:o6 "open_seat" t.f_k
 m_i:o6 "points" t.f_i
 m_q:o6 "seats" t.f_q
 m_j:o6 "place_of" t.f_j
 m_v:o6 "may" t.f_v
 m_n:o6 "length" t.f_n
 m_h:o6 "seats_for" t.f_h
 m_d:o6 "check_name" t.f_d
 m_l:o6 "check_cell" t.f_l
 m_f:o6 "check_lines" t.f_f
 m_e:o6 "check_seat" t.f_e
 cg:Ul
 ct:UC
 n_a8:uD t.C_x "width"
 n_a3:uD t.C_a "placed"
 n_a0:uD t.C_a "height"
 n_a2:uD t.C_a "width"
 n_a6:uD t.C_a "opened"
 n_a4:uD t.C_ac "holder_of"
 n_a5:uD t.C_ac "seat_of"
 n_a9:LW "lengths"
 n_bb:LW "own"
 n_bc:LW "rent"
 n_a7:LW "seating"
 n_ba:LW "picture"
 n_bf:uD t.C_af "width"
 n_abs:jA "abs"
 n_all:jA "all"
 n_bool:jA "bool"
 n_dict:jA "dict"
 n_enumerate:jA "enumerate"
 n_int:jA "int"
 n_isinstance:jA "isinstance"
 n_len:jA "len"
 n_list:jA "list"
 n_max:jA "max"
 n_min:jA "min"
 n_range:jA "range"
 n_reversed:jA "reversed"
 n_set:jA "set"
 n_sorted:jA "sorted"
 n_str:jA "str"
 n_sum:jA "sum"
 v_bg:WV "MOST_ROWS" 16
 v_bd:WV "MOST_COLUMNS" 30
 v_be:WV "MOST_POINTS" 12
 g_ad:bX "MIRRORED_SIDES" t.D_ad
 D_ad:xod w K t.D_ad [LR "left" "right",LR "right" "left",LR "both" "both"]
@[elab_as_elim] theorem xwy {α:Type}{P:B6}:Az 1 (∀ a0,P [a0])
 | [a0],_,h=>h a0
@[elab_as_elim] theorem xw5 {α:Type}{P:B6}:Az 2 (∀ a0 a1,P [a0,a1])
 | [a0,a1],_,h=>h a0 a1
@[elab_as_elim] theorem xws {α:Type}{P:B6}:Az 3 (∀ a0 a1 a2,P So)
 | So,_,h=>h a0 a1 a2
@[elab_as_elim] theorem xwg {α:Type}{P:B6}:Az 4 (∀ a0 a1 a2 a3,P PK)
 | PK,_,h=>h a0 a1 a2 a3
@[elab_as_elim] theorem xxw {α:Type}{P:B6}:Az 5 (∀ a0 a1 a2 a3 a4,P OG)
 | OG,_,h=>h a0 a1 a2 a3 a4
@[elab_as_elim] theorem xwa {α:Type}{P:B6}:Az 6 (∀ a0 a1 a2 a3 a4 a5,P NS)
 | NS,_,h=>h a0 a1 a2 a3 a4 a5
@[elab_as_elim] theorem xxl {α:Type}{P:B6}:Az 7 (∀ a0 a1 a2 a3 a4 a5 a6,P [a0,a1,a2,a3,a4,a5,a6])
 | [a0,a1,a2,a3,a4,a5,a6],_,h=>h a0 a1 a2 a3 a4 a5 a6
noncomputable def gI (K:Zd) (n:Str) (a:Addr):Prop:=XM n cP
noncomputable def gN (K:Zd) (n:Str):Prop:=XM n none
noncomputable def fN (K:Zd) (C:Addr) (n:Str):Prop:=Of n
noncomputable def fI (K:Zd) (C:Addr) (n:Str) (a:Addr):Prop:=A9 n cP
noncomputable def fB (K:Zd) (C:Addr) (n:Str) (b:String):Prop:=A9 n (some (.builtin b))
theorem bi_1 {K:Zd}{x q:Str}{st:Stmt}{f:Addr}{fd:FuncData}{p0:Str} (F:Fun K x q st f fd) (h:∀(kV doc pm:Value) (an:ig) (cdv ct:Value) (a0:Value),Dj (Jw x q mj jC jg .none kV doc pm an cdv ct) [a0] [p0]:=by ext Ab):ba fd [p0]:=F.binds fun a b c d e f us hl=>xwy us hl (h a b c d e f)
theorem bi_2 {K:Zd}{x q:Str}{st:Stmt}{f:Addr}{fd:FuncData}{p0 p1:Str} (F:Fun K x q st f fd) (h:∀(kV doc pm:Value) (an:ig) (cdv ct:Value) (a0 a1:Value),Dj (Jw x q mj jC jg .none kV doc pm an cdv ct) [a0,a1] [p0,p1]:=by ext Ab):ba fd [p0,p1]:=F.binds fun a b c d e f us hl=>xw5 us hl (h a b c d e f)
theorem bi_3 {K:Zd}{x q:Str}{st:Stmt}{f:Addr}{fd:FuncData}{p0 p1 p2:Str} (F:Fun K x q st f fd) (h:∀(kV doc pm:Value) (an:ig) (cdv ct:Value) (a0 a1 a2:Value),Dj (Jw x q mj jC jg .none kV doc pm an cdv ct) So [p0,p1,p2]:=by ext Ab):ba fd [p0,p1,p2]:=F.binds fun a b c d e f us hl=>xws us hl (h a b c d e f)
theorem bi_4 {K:Zd}{x q:Str}{st:Stmt}{f:Addr}{fd:FuncData}{p0 p1 p2 p3:Str} (F:Fun K x q st f fd) (h:∀(kV doc pm:Value) (an:ig) (cdv ct:Value) (a0 a1 a2 a3:Value),Dj (Jw x q mj jC jg .none kV doc pm an cdv ct) PK [p0,p1,p2,p3]:=by ext Ab):ba fd [p0,p1,p2,p3]:=F.binds fun a b c d e f us hl=>xwg us hl (h a b c d e f)
theorem bi_5 {K:Zd}{x q:Str}{st:Stmt}{f:Addr}{fd:FuncData}{p0 p1 p2 p3 p4:Str} (F:Fun K x q st f fd) (h:∀(kV doc pm:Value) (an:ig) (cdv ct:Value) (a0 a1 a2 a3 a4:Value),Dj (Jw x q mj jC jg .none kV doc pm an cdv ct) OG [p0,p1,p2,p3,p4]:=by ext Ab):ba fd [p0,p1,p2,p3,p4]:=F.binds fun a b c d e f us hl=>xxw us hl (h a b c d e f)
theorem bi_6 {K:Zd}{x q:Str}{st:Stmt}{f:Addr}{fd:FuncData}{p0 p1 p2 p3 p4 p5:Str} (F:Fun K x q st f fd) (h:∀(kV doc pm:Value) (an:ig) (cdv ct:Value) (a0 a1 a2 a3 a4 a5:Value),Dj (Jw x q mj jC jg .none kV doc pm an cdv ct) NS zqk:=by ext Ab):ba fd zqk:=F.binds fun a b c d e f us hl=>xwa us hl (h a b c d e f)
theorem txt_mk {w:World}{K:Zd}{h:Heap}{mg:fK} (X:K.In h) (G:h.Ns mainGlobals mg) {C_bh C_af C_x C_ac C_r C_a f_at f_ag f_ab f_s f_aa f_z f_p f_as f_av f_meeting f_meetings f_total f_ax f_upright f_ap f_exchangeable f_ae f_exchanged f_uncrossed f_ah f_o f_c f_crowds f_fits f_aw f_kept f_al f_w f_u f_t f_g f_least f_fault f_answer f_ak f_az f_ai f_b T_b f_k f_i f_q f_j f_v f_n f_h f_d f_l f_f f_e f_ao f_m f_am f_an f_a1 f_aq f_ar f_y f_au f_ay f_aj f_law:Addr}{d_at d_ag d_ab d_s d_aa d_z d_p d_as d_av d_meeting d_meetings d_total d_ax d_upright d_ap d_exchangeable d_ae d_exchanged d_uncrossed d_ah d_o d_c d_crowds d_fits d_aw d_kept d_al d_w d_u d_t d_g d_least d_fault d_answer d_ak d_az d_ai d_k d_i d_q d_j d_v d_n d_h d_d d_l d_f d_e d_ao d_m d_am d_an d_a1 d_aq d_ar d_y d_au d_ay d_aj d_law:FuncData}{oc_b kv_b dc_b pm_b cd_b ct_b:Value}{od_b an_b:ig}{sl_b:xF}{tk0_b:Tok}{tk1_b:Tok}{toc_b:Value}{tod_b:ig}{tn_b:Nat}{tsl_b:xF}{tkc_bg:Tok}{tkc_bd:Tok}{tkc_be:Tok}{D_ad:Addr}{ta0_ad tb0_ad:Tok}{ta1_ad tb1_ad:Tok}{ta2_ad tb2_ad:Tok}{ep_ad:Nat}
    (g_bh:gI K "Side" C_bh)
    (g_af:gI K "LeftSide" C_af)
    (g_x:gI K "RightSide" C_x)
    (g_ac:gI K "Seating" C_ac)
    (g_r:gI K "Prices" C_r)
    (g_a:gI K "Picture" C_a)
    (a_at:fI K C_bh "__init__" f_at)
    (F_at:Fun K "__init__" "Side.__init__" s_at f_at d_at)
    (i_at:dw f_at)
    (a_ag:fI K C_af "rim" f_ag)
    (F_ag:Fun K "rim" "LeftSide.rim" s_ag f_ag d_ag)
    (i_ag:dw f_ag)
    (a_ab:fI K C_af "way" f_ab)
    (F_ab:Fun K "way" "LeftSide.way" s_ab f_ab d_ab)
    (i_ab:dw f_ab)
    (a_s:fI K C_af "across" f_s)
    (F_s:Fun K "across" "LeftSide.across" s_s f_s d_s)
    (i_s:dw f_s)
    (a_aa:fI K C_x "rim" f_aa)
    (F_aa:Fun K "rim" "RightSide.rim" s_aa f_aa d_aa)
    (i_aa:dw f_aa)
    (a_z:fI K C_x "way" f_z)
    (F_z:Fun K "way" "RightSide.way" s_z f_z d_z)
    (i_z:dw f_z)
    (a_p:fI K C_x "across" f_p)
    (F_p:Fun K "across" "RightSide.across" s_p f_p d_p)
    (i_p:dw f_p)
    (a_as:gI K "side_of" f_as)
    (F_as:Fun K "side_of" "side_of" s_as f_as d_as)
    (a_av:gI K "cells_of" f_av)
    (F_av:Fun K "cells_of" "cells_of" s_av f_av d_av)
    (a_meeting:gI K "meeting" f_meeting)
    (F_meeting:Fun K "meeting" "meeting" xew f_meeting d_meeting)
    (a_meetings:gI K "meetings" f_meetings)
    (F_meetings:Fun K "meetings" "meetings" xfx f_meetings d_meetings)
    (a_total:gI K "total" f_total)
    (F_total:Fun K "total" "total" xgz f_total d_total)
    (a_ax:gI K "is_giving" f_ax)
    (F_ax:Fun K "is_giving" "is_giving" s_ax f_ax d_ax)
    (a_upright:gI K "upright" f_upright)
    (F_upright:Fun K "upright" "upright" xe2 f_upright d_upright)
    (a_ap:gI K "upright_of" f_ap)
    (F_ap:Fun K "upright_of" "upright_of" s_ap f_ap d_ap)
    (a_exchangeable:gI K "exchangeable" f_exchangeable)
    (F_exchangeable:Fun K "exchangeable" "exchangeable" xds f_exchangeable d_exchangeable)
    (a_ae:gI K "may_exchange" f_ae)
    (F_ae:Fun K "may_exchange" "may_exchange" s_ae f_ae d_ae)
    (a_exchanged:gI K "exchanged" f_exchanged)
    (F_exchanged:Fun K "exchanged" "exchanged" xc9 f_exchanged d_exchanged)
    (a_uncrossed:gI K "uncrossed" f_uncrossed)
    (F_uncrossed:Fun K "uncrossed" "uncrossed" xe7 f_uncrossed d_uncrossed)
    (a_ah:fI K C_ac "__init__" f_ah)
    (F_ah:Fun K "__init__" "Seating.__init__" s_ah f_ah d_ah)
    (i_ah:dw f_ah)
    (a_o:fI K C_ac "hand_on" f_o)
    (F_o:Fun K "hand_on" "Seating.hand_on" s_o f_o d_o)
    (i_o:dw f_o)
    (a_c:fI K C_ac "crowd_with" f_c)
    (F_c:Fun K "crowd_with" "Seating.crowd_with" s_c f_c d_c)
    (i_c:dw f_c)
    (a_crowds:gI K "crowds" f_crowds)
    (F_crowds:Fun K "crowds" "crowds" xfs f_crowds d_crowds)
    (a_fits:gI K "fits" f_fits)
    (F_fits:Fun K "fits" "fits" xlb f_fits d_fits)
    (a_aw:gI K "left_out" f_aw)
    (F_aw:Fun K "left_out" "left_out" s_aw f_aw d_aw)
    (a_kept:gI K "kept" f_kept)
    (F_kept:Fun K "kept" "kept" xgf f_kept d_kept)
    (a_al:fI K C_r "__init__" f_al)
    (F_al:Fun K "__init__" "Prices.__init__" s_al f_al d_al)
    (i_al:dw f_al)
    (a_w:fI K C_r "let_in" f_w)
    (F_w:Fun K "let_in" "Prices.let_in" s_w f_w d_w)
    (i_w:dw f_w)
    (a_u:fI K C_r "ask_on" f_u)
    (F_u:Fun K "ask_on" "Prices.ask_on" s_u f_u d_u)
    (i_u:dw f_u)
    (a_t:fI K C_r "nearest" f_t)
    (F_t:Fun K "nearest" "Prices.nearest" s_t f_t d_t)
    (i_t:dw f_t)
    (a_g:fI K C_r "shift_prices" f_g)
    (F_g:Fun K "shift_prices" "Prices.shift_prices" s_g f_g d_g)
    (i_g:dw f_g)
    (a_least:gI K "least" f_least)
    (F_least:Fun K "least" "least" xgp f_least d_least)
    (a_fault:gI K "fault" f_fault)
    (F_fault:Fun K "fault" "fault" xg7 f_fault d_fault)
    (a_answer:gI K "answer" f_answer)
    (F_answer:Fun K "answer" "answer" xht f_answer d_answer)
    (a_ak:gI K "is_whole" f_ak)
    (F_ak:Fun K "is_whole" "is_whole" s_ak f_ak d_ak)
    (a_az:gI K "is_name" f_az)
    (F_az:Fun K "is_name" "is_name" s_az f_az d_az)
    (a_ai:nX "__init__" f_ai)
    (F_ai:Fun K "__init__" "Picture.__init__" s_ai f_ai d_ai)
    (i_ai:dw f_ai)
    (a_b:nX "put" f_b)
    (l_b:A6 f_b ⟨oc_b,od_b,.func (Jw "put" "Picture.put" (xbt s_b) (xbk s_b) (xl s_b) (.ref T_b) kv_b dc_b pm_b an_b cd_b ct_b),sl_b⟩)
    (c_b:YU K cd_b "Picture.put"=true)
    (k_b:oM f_b)
    (i_b:dw f_b)
    (t_b:A6 T_b ⟨toc_b,tod_b,.seq #[.str "both" tk0_b,.int 1 tk1_b,.none] tn_b,tsl_b⟩)
    (a_k:nX "open_seat" f_k)
    (F_k:Fun K "open_seat" "Picture.open_seat" s_k f_k d_k)
    (i_k:dw f_k)
    (a_i:nX "points" f_i)
    (F_i:Fun K "points" "Picture.points" s_i f_i d_i)
    (i_i:dw f_i)
    (a_q:nX "seats" f_q)
    (F_q:Fun K "seats" "Picture.seats" s_q f_q d_q)
    (i_q:dw f_q)
    (a_j:nX "place_of" f_j)
    (F_j:Fun K "place_of" "Picture.place_of" s_j f_j d_j)
    (i_j:dw f_j)
    (a_v:nX "may" f_v)
    (F_v:Fun K "may" "Picture.may" s_v f_v d_v)
    (i_v:dw f_v)
    (a_n:nX "length" f_n)
    (F_n:Fun K "length" "Picture.length" s_n f_n d_n)
    (i_n:dw f_n)
    (a_h:nX "seats_for" f_h)
    (F_h:Fun K "seats_for" "Picture.seats_for" s_h f_h d_h)
    (i_h:dw f_h)
    (a_d:nX "check_name" f_d)
    (F_d:Fun K "check_name" "Picture.check_name" s_d f_d d_d)
    (i_d:dw f_d)
    (a_l:nX "check_cell" f_l)
    (F_l:Fun K "check_cell" "Picture.check_cell" s_l f_l d_l)
    (i_l:dw f_l)
    (a_f:nX "check_lines" f_f)
    (F_f:Fun K "check_lines" "Picture.check_lines" s_f f_f d_f)
    (i_f:dw f_f)
    (a_e:nX "check_seat" f_e)
    (F_e:Fun K "check_seat" "Picture.check_seat" s_e f_e d_e)
    (i_e:dw f_e)
    (a_ao:gI K "_law_cell" f_ao)
    (F_ao:Fun K "_law_cell" "_law_cell" s_ao f_ao d_ao)
    (a_m:gI K "_law_mixed" f_m)
    (F_m:Fun K "_law_mixed" "_law_mixed" s_m f_m d_m)
    (a_am:gI K "_law_built" f_am)
    (F_am:Fun K "_law_built" "_law_built" s_am f_am d_am)
    (a_an:gI K "_law_opened" f_an)
    (F_an:Fun K "_law_opened" "_law_opened" s_an f_an d_an)
    (a_a1:gI K "_law_may" f_a1)
    (F_a1:Fun K "_law_may" "_law_may" s_a1 f_a1 d_a1)
    (a_aq:gI K "_law_given" f_aq)
    (F_aq:Fun K "_law_given" "_law_given" s_aq f_aq d_aq)
    (a_ar:gI K "_law_marks" f_ar)
    (F_ar:Fun K "_law_marks" "_law_marks" s_ar f_ar d_ar)
    (a_y:gI K "_law_stretched" f_y)
    (F_y:Fun K "_law_stretched" "_law_stretched" s_y f_y d_y)
    (a_au:gI K "_law_named" f_au)
    (F_au:Fun K "_law_named" "_law_named" s_au f_au d_au)
    (a_ay:gI K "_law_alike" f_ay)
    (F_ay:Fun K "_law_alike" "_law_alike" s_ay f_ay d_ay)
    (a_aj:gI K "_law_priced" f_aj)
    (F_aj:Fun K "_law_priced" "_law_priced" s_aj f_aj d_aj)
    (a_law:gI K "law" f_law)
    (F_law:Fun K "law" "law" xoo f_law d_law)
    (kc_af:oM C_af)
    (pg_af:EJ C_af)
    (hd_af:K9 C_af)
    (po_af:K8 C_af)
    (sa_af:Gx C_af)
    (mk_af:K7 C_af)
    (a_LeftSide_init:fI K C_af "__init__" f_at)
    (kc_x:oM C_x)
    (pg_x:EJ C_x)
    (hd_x:K9 C_x)
    (po_x:K8 C_x)
    (sa_x:Gx C_x)
    (mk_x:K7 C_x)
    (a_RightSide_init:fI K C_x "__init__" f_at)
    (kc_ac:oM C_ac)
    (pg_ac:EJ C_ac)
    (hd_ac:K9 C_ac)
    (po_ac:K8 C_ac)
    (sa_ac:Gx C_ac)
    (mk_ac:K7 C_ac)
    (kc_r:oM C_r)
    (pg_r:EJ C_r)
    (hd_r:K9 C_r)
    (po_r:K8 C_r)
    (sa_r:Gx C_r)
    (mk_r:K7 C_r)
    (kc_a:oM C_a)
    (pg_a:EJ C_a)
    (hd_a:K9 C_a)
    (po_a:K8 C_a)
    (sa_a:Gx C_a)
    (mk_a:K7 C_a)
    (cg:Ul)
    (ct:UC)
    (n_a8:fN K C_x "width")
    (n_a3:fN K C_a "placed")
    (n_a0:fN K C_a "height")
    (n_a2:fN K C_a "width")
    (n_a6:fN K C_a "opened")
    (n_a4:fN K C_ac "holder_of")
    (n_a5:fN K C_ac "seat_of")
    (n_a9:fN K C_r "lengths")
    (n_bb:fN K C_r "own")
    (n_bc:fN K C_r "rent")
    (n_a7:fN K C_r "seating")
    (n_ba:fN K C_r "picture")
    (n_bf:fN K C_af "width")
    (n_abs:gN K "abs")
    (n_all:gN K "all")
    (n_bool:gN K "bool")
    (n_dict:gN K "dict")
    (n_enumerate:gN K "enumerate")
    (n_int:gN K "int")
    (n_isinstance:gN K "isinstance")
    (n_len:gN K "len")
    (n_list:gN K "list")
    (n_max:gN K "max")
    (n_min:gN K "min")
    (n_range:gN K "range")
    (n_reversed:gN K "reversed")
    (n_set:gN K "set")
    (n_sorted:gN K "sorted")
    (n_str:gN K "str")
    (n_sum:gN K "sum")
    (v_bg:zeH "MOST_ROWS" 16 tkc_bg)
    (v_bd:zeH "MOST_COLUMNS" 30 tkc_bd)
    (v_be:zeH "MOST_POINTS" 12 tkc_be)
    (g_ad:gI K "MIRRORED_SIDES" D_ad)
    (l_ad:A6 D_ad ⟨Bu,none,.dict #[⟨hashStr w "left",.str "left" ta0_ad,.str "right" tb0_ad⟩,⟨hashStr w "right",.str "right" ta1_ad,.str "left" tb1_ad⟩,⟨hashStr w "both",.str "both" ta2_ad,.str "both" tb2_ad⟩] ep_ad,#[]⟩)
    (ns_ad:Ik D_ad):∃ t,aX :=
  ⟨⟨f_at,_,f_ag,_,f_ab,_,f_s,_,f_aa,_,f_z,_,f_p,_,f_as,_,f_av,_,f_meeting,_,f_meetings,_,f_total,_,f_ax,_,f_upright,_,f_ap,_,f_exchangeable,_,f_ae,_,f_exchanged,_,f_uncrossed,_,f_ah,_,f_o,_,f_c,_,f_crowds,_,f_fits,_,f_aw,_,f_kept,_,f_al,_,f_w,_,f_u,_,f_t,_,f_g,_,f_least,_,f_fault,_,f_answer,_,f_ak,_,f_az,_,f_ai,_,f_b,_,T_b,f_k,_,f_i,_,f_q,_,f_j,_,f_v,_,f_n,_,f_h,_,f_d,_,f_l,_,f_f,_,f_e,_,f_ao,_,f_m,_,f_am,_,f_an,_,f_a1,_,f_aq,_,f_ar,_,f_y,_,f_au,_,f_ay,_,f_aj,_,f_law,_,C_bh,C_af,C_x,C_ac,C_r,C_a,D_ad⟩,⟨bV g_af,bV g_x,bV g_ac,bV g_r,bV g_a,F_at,bi_2 F_at,F_ag,bi_1 F_ag,F_ab,bi_1 F_ab,F_s,bi_2 F_s,F_aa,bi_1 F_aa,F_z,bi_1 F_z,F_p,bi_2 F_p,bV a_as,F_as,bi_2 F_as,bV a_av,F_av,bi_4 F_av,bV a_meeting,F_meeting,bi_3 F_meeting,bV a_meetings,F_meetings,bi_2 F_meetings,bV a_total,F_total,bi_2 F_total,bV a_ax,F_ax,bi_3 F_ax,bV a_upright,F_upright,bi_2 F_upright,bV a_ap,F_ap,bi_2 F_ap,bV a_exchangeable,F_exchangeable,bi_2 F_exchangeable,bV a_ae,F_ae,bi_3 F_ae,bV a_exchanged,F_exchanged,bi_3 F_exchanged,bV a_uncrossed,F_uncrossed,bi_2 F_uncrossed,F_ah,bi_1 F_ah,F_o,bi_3 F_o,F_c,bi_3 F_c,bV a_crowds,F_crowds,bi_2 F_crowds,bV a_fits,F_fits,bi_2 F_fits,bV a_aw,F_aw,bi_1 F_aw,bV a_kept,F_kept,bi_1 F_kept,F_al,bi_2 F_al,F_w,bi_2 F_w,F_u,bi_3 F_u,F_t,bi_3 F_t,F_g,bi_4 F_g,bV a_least,F_least,bi_2 F_least,bV a_fault,F_fault,bi_5 F_fault,bV a_answer,F_answer,bi_1 F_answer,bV a_ak,F_ak,bi_3 F_ak,bV a_az,F_az,bi_1 F_az,F_ai,bi_3 F_ai,zmF,(zmF).binds t_b rfl 7 rfl fun _ _ _ _ _ _ us hl=>xxl us hl fun _ _ _ _ _ _ _=>KW,F_k,bi_3 F_k,F_i,bi_1 F_i,F_q,bi_1 F_q,F_j,bi_2 F_j,F_v,bi_4 F_v,F_n,bi_4 F_n,F_h,bi_2 F_h,F_d,bi_2 F_d,F_l,bi_3 F_l,F_f,bi_4 F_f,F_e,bi_3 F_e,bV a_ao,F_ao,bi_2 F_ao,bV a_m,F_m,bi_2 F_m,bV a_am,F_am,bi_5 F_am,bV a_an,F_an,bi_2 F_an,bV a_a1,F_a1,bi_5 F_a1,bV a_aq,F_aq,bi_3 F_aq,bV a_ar,F_ar,bi_3 F_ar,bV a_y,F_y,bi_6 F_y,bV a_au,F_au,bi_1 F_au,bV a_ay,F_ay,bi_5 F_ay,bV a_aj,F_aj,bi_4 F_aj,bV a_law,F_law,⟨pg_af,hd_af,po_af,sa_af⟩,⟨mk_af,a_LeftSide_init,i_at,kc_af⟩,⟨a_ag,i_ag,F_ag.kp⟩,⟨a_ab,i_ab,F_ab.kp⟩,⟨a_s,i_s,F_s.kp⟩,⟨pg_x,hd_x,po_x,sa_x⟩,⟨mk_x,a_RightSide_init,i_at,kc_x⟩,⟨a_aa,i_aa,F_aa.kp⟩,⟨a_z,i_z,F_z.kp⟩,⟨a_p,i_p,F_p.kp⟩,⟨pg_ac,hd_ac,po_ac,sa_ac⟩,⟨mk_ac,a_ah,i_ah,kc_ac⟩,⟨a_o,i_o,F_o.kp⟩,⟨a_c,i_c,F_c.kp⟩,⟨pg_r,hd_r,po_r,sa_r⟩,⟨mk_r,a_al,i_al,kc_r⟩,⟨a_w,i_w,F_w.kp⟩,⟨a_u,i_u,F_u.kp⟩,⟨a_t,i_t,F_t.kp⟩,⟨a_g,i_g,F_g.kp⟩,⟨pg_a,hd_a,po_a,sa_a⟩,⟨mk_a,a_ai,i_ai,kc_a⟩,⟨a_b,i_b,k_b⟩,⟨a_k,i_k,F_k.kp⟩,⟨a_i,i_i,F_i.kp⟩,⟨a_q,i_q,F_q.kp⟩,⟨a_j,i_j,F_j.kp⟩,⟨a_v,i_v,F_v.kp⟩,⟨a_n,i_n,F_n.kp⟩,⟨a_h,i_h,F_h.kp⟩,⟨a_d,i_d,F_d.kp⟩,⟨a_l,i_l,F_l.kp⟩,⟨a_f,i_f,F_f.kp⟩,⟨a_e,i_e,F_e.kp⟩,cg,ct,n_a8,n_a3,n_a0,n_a2,n_a6,n_a4,n_a5,n_a9,n_bb,n_bc,n_a7,n_ba,n_bf,jL n_abs,jL n_all,jL n_bool,jL n_dict,jL n_enumerate,jL n_int,jL n_isinstance,jL n_len,jL n_list,jL n_max,jL n_min,jL n_range,jL n_reversed,jL n_set,jL n_sorted,jL n_str,jL n_sum,(fC,bV v_bg),(fC,bV v_bd),(fC,bV v_be),bV g_ad,⟨ns_ad,_,_,l_ad,zeC (zeC (zeC (.nil))),ap⟩⟩⟩
theorem mkS {N P:ai}{sc:Scope} (a:sc.kind=.function:=by rfl) (b:zqc:=by rfl) (c:zqb:=by rfl) (d:N.Nodup:=by ext Fk) (e:zqx:=by rfl) (f:∀ x∈P,Mx\/GA:=by ext Fk) (g:zka:=by ext Fk):xq N P sc:=⟨a,b,c,d,e,f,g⟩
theorem sc_at:bu Os Os s_at:=mkS
theorem sc_ag:Cb s_ag:=mkS
theorem sc_ab:Cb s_ab:=mkS
theorem sc_s:bu yb yb s_s:=mkS
theorem sc_aa:Cb s_aa:=mkS
theorem sc_z:Cb s_z:=mkS
theorem sc_p:bu yb yb s_p:=mkS
theorem sc_as:bu On On s_as:=mkS
theorem sc_av:bu ["picture", "name", "side", "row", "x", "y", "toward", "down", "upright", "level"] Va s_av:=mkS
theorem xby:bu ["picture", "one", "other", "name", "side", "row", "theirs", "cell"] Dl xew:=mkS
theorem xcu:bu ["picture", "pairs", "told", "number", "one", "other", "cell"] iC xfx:=mkS
theorem xqw:bu iC iC xgz:=mkS
theorem sc_ax:bu Mm Vv s_ax:=mkS
theorem xoa:bu iC iC xe2:=mkS
theorem sc_ap:bu ["picture", "pair", "name", "side", "row", "x", "y"] zep s_ap:=mkS
theorem xca:bu ["picture", "pairs", "number", "one", "other", "cell"] iC xds:=mkS
theorem sc_ae:bu ["picture", "one", "other", "name", "side", "row", "other_name", "other_side", "other_row"] Dl s_ae:=mkS
theorem xel:bu UO VW xc9:=mkS
theorem xbr:bu ["picture", "pairs", "now", "steps", "found", "name", "other", "cell"] iC xe7:=mkS
theorem sc_ah:Cb s_ah:=mkS
theorem sc_o:bu ["self", "asked_by", "free_seat", "seat", "name", "left_behind"] (kT "asked_by" "free_seat") s_o:=mkS
theorem sc_c:bu ["self", "name", "rooms", "crowd", "asked_by", "number", "asker", "seat"] (kT "name" "rooms") s_c:=mkS
theorem xdg:bu ["picture", "names", "rooms", "seating", "found", "name", "crowd"] oQ xfs:=mkS
theorem xna:bu ["picture", "names", "found"] oQ xlb:=mkS
theorem sc_aw:bu oQ mZ s_aw:=mkS
theorem xm9:bu (Fj "out") mZ xgf:=mkS
theorem sc_al:bu G6 G6 s_al:=mkS
theorem sc_w:bu zhp jP s_w:=mkS
theorem sc_u:zqD zgu s_u:=mkS
theorem sc_t:zqD ["self", "askers", "asked_by", "found", "asker", "seat", "length", "gap"] s_t:=mkS
theorem sc_g:bu zgu U2 s_g:=mkS
theorem xfv:bu zgn oQ xgp:=mkS
theorem xcp:bu ["picture", "names", "pairs", "own", "rent", "taken", "side", "row", "price", "name", "together", "length"] UN xg7:=mkS
theorem xde:bu ["picture", "pairs", "own", "rent", "apart", "steps"] mZ xht:=mkS
theorem sc_ak:bu Nc Nc s_ak:=mkS
theorem sc_az:bu Th Th s_az:=mkS
theorem sc_ai:bu zpf (kT "width" "height") s_ai:=mkS
theorem sc_b:bu ["self", "name", "x", "y", "sides", "low", "high", "highest"] ["self", "name", "x", "y", "sides", "low", "high"] s_b:=mkS
theorem sc_k:bu Om (kT "side" "row") s_k:=mkS
theorem sc_i:Cb s_i:=mkS
theorem sc_q:Cb s_q:=mkS
theorem sc_j:bu jP jP s_j:=mkS
theorem sc_v:bu ["self", "name", "side", "row", "x", "y", "sides", "low", "high"] Dg s_v:=mkS
theorem sc_n:bu ["self", "name", "side", "row", "x", "y"] Dg s_n:=mkS
theorem sc_h:bu jP jP s_h:=mkS
theorem sc_d:bu jP jP s_d:=mkS
theorem sc_l:bu (kT "x" "y") (kT "x" "y") s_l:=mkS
theorem sc_f:bu zht VZ s_f:=mkS
theorem sc_e:bu Om (kT "side" "row") s_e:=mkS
theorem sc_ao:bu M6 M6 s_ao:=mkS
theorem sc_m:bu ["_law_cell_here", "_law_k", "_law_number"] VG s_m:=mkS
theorem sc_am:bu ["_law_cell_here", "_law_most", "_law_wide", "_law_high", "_law_free", "_law_picture", "_law_points", "_law_first", "_law_k", "_law_x", "_law_y", "_law_number", "_law_low", "_law_point", "_law_name"] Ur s_am:=mkS
theorem sc_an:bu ["_law_picture", "_law_cell_here", "_law_seats", "_law_j", "_law_side", "_law_number", "_law_bits", "_law_row"] Vb s_an:=mkS
theorem sc_a1:bu ["_law_points", "_law_seats", "_law_name", "_law_side", "_law_row", "_law_point"] Ut s_a1:=mkS
theorem sc_aq:bu ["_law_points", "_law_seats", "_law_cell_here", "_law_pairs", "_law_taken", "_law_k", "_law_name", "_law_number", "_law_some", "_law_seat", "_law_turn"] UJ s_aq:=mkS
theorem sc_ar:bu ["_law_number", "_law_many", "_law_double", "_law_marks_here", "_law_k", "_law_step"] UQ s_ar:=mkS
theorem sc_y:bu ["_law_picture", "_law_points", "_law_seats", "_law_columns", "_law_rows", "_law_double", "_law_other", "_law_name", "_law_x", "_law_y", "_law_sides", "_law_low", "_law_high", "_law_side", "_law_row"] Ui s_y:=mkS
theorem sc_au:bu HI HI s_au:=mkS
theorem sc_ay:bu zfl Uo s_ay:=mkS
theorem sc_aj:bu ["_law_picture", "_law_other", "_law_rows", "_law_double", "_law_names", "_law_outs", "_law_pairs", "_law_own", "_law_rent", "_law_moved", "_law_dues", "_law_name", "_law_fees", "_law_side", "_law_row"] UA s_aj:=mkS
theorem xct:bu ["_law_script", "_law_picture", "_law_points", "_law_seats", "_law_number", "_law_double", "_law_columns", "_law_rows", "_law_other", "_law_before", "_law_k", "_law_pairs"] O6 xoo:=mkS
#check S92
namespace S92
open PySem L2 XL PyProof.Rows
theorem xdt {K:Zd}{v:Value}:Wh K v v=some true:=az ah
theorem xv {H H':Hp}{p:Addr}{o:HO} (s:cL) (hp:H' p=none):gG (L2.upd H' p o):=fun b u z=>by
 have z':=s b u z;show(aB,ku z' hp,z')
theorem su_e {H H':Hp}{p:Addr}{o:HO} (hp:jc) (e:L2.upd H p o=H'):cL:=e▸(cO hp)
theorem ug_e {H H':Hp}{p:Addr}{o:HO} (e:L2.upd H p o=H'):H' p=some o:=e▸xj
theorem xbo {n:Nat} (h:n<=1000):zZ n:=JQ h ap
theorem ne_f {H:Hp}{a b:Addr}{o u:HO} (h:KQ) (h':iH) (d:o≠u:=by exact gb):a≠b:=xd1 h h' d
theorem leS0:cV 0:=ap
theorem leS1:1<=sizeLine:=ap
theorem leS2:cV 2:=ap
theorem leS3:cV 3:=ap
theorem leS4:cV 4:=ap
theorem leS5:cV 5:=ap
theorem xr9 {H:Hp}{x dx:Addr}{a b c:HO} (hx:bz x) (hd:bz dx):gG (upd (upd (d4 dx a) x b) x c):=fun y o e=>by
 rw[FO,FO,gY hd];exact e
noncomputable def xam (b:Bool):Str:=uY "left" "right"
noncomputable def xeq (t:Adr) (H:Hp) (p:Addr) (b:Bool) (w:Int):Prop:=∃ dx,ax p (mH (uY t.C_af t.C_x) (zdT w))
inductive xvz (K:Zd) (vs:ag) (H:Hp) (Q:VK) (_:XK):Prop
 | mk (p C dx:Addr) (n:Int) (e_:vs=[cq,.int n]) (r_:(bE,ax p (mH C []),Lr,xem K C "width",Q .non (d4 p (mH C (zdT n)))))
inductive sp1 (v:V) (vs:ag) (H:Hp) (Q:VK) (_:XK):Prop
 | mk (p:V) (e_:vs=[p]) (r_:Q v H)
inductive xwo (vs:ag) (H:Hp) (Q:VK) (_:XK):Prop
 | mk (p:V) (x:V) (e_:vs=[p,x]) (r_:Q x H)
inductive xwx (t:Adr) (vs:ag) (H:Hp) (Q:VK) (_:XK):Prop
 | mk (p:Addr) (n:Int) (e_:vs=[cq]) (r_:xeq t H p false n/\(lW eX))
inductive xwu (t:Adr) (vs:ag) (H:Hp) (Q:VK) (_:XK):Prop
 | mk (p:Addr) (n x:Int) (e_:vs=[cq,.int x]) (r_:xeq t H p false n/\(lW (eX-x)))
inductive xr0 (t:Adr) (vs:ag) (H:Hp) (Q:VK) (_:XK):Prop
 | mk (b:Bool) (n:Int) (e_:vs=[rA,.int n]) (r_:∀ p H',(bb,jc,xeq t H' p b n,cL,Q cq H'))
section
variable {P:Program}{w:World}{K:Zd}{mg:Str->Option Value}{base:Heap}{t:Adr}
theorem ok_at (T:aX):FnOk true P w K mg base aU 1 t.f_at t.d_at Os (xvz K):=by
 refine T.F_at.okn (k:=0) sc_at (aY h) (fun cdv A outer s H vs Q E hr h=>?_)
 .obtain ⟨p,C,dx,n,rfl,_⟩:=h;rfl
 .obtain ⟨p,C,dx,n,rfl,h⟩:=h;show(i7,RK eJ);ext jY hp c na q h;exact⟨126,p,C,dx,[],rfl,hp,c,na,(oI 0),q⟩
theorem ok_ag (T:aX):FnOk true P w K mg base aU 1 t.f_ag t.d_ag jv (sp1 (.int 0)):=by
 refine T.F_ag.okn (k:=0) sc_ag (aY h) (fun cdv A outer s H vs Q E hr h=>?_)
 .ext Hf p
 .ext HP p;show(zV,xm);exact h
theorem ok_ab (T:aX):FnOk true P w K mg base aU 1 t.f_ab t.d_ab jv (sp1 (.int (-1))):=by
 refine T.F_ab.okn (k:=0) sc_ab (aY h) (fun cdv A outer s H vs Q E hr h=>?_)
 .ext Hf p
 .ext HP p;ext zV IS;show(wQ,1,h)
theorem ok_s (T:aX):FnOk true P w K mg base aU 1 t.f_s t.d_s yb (xwo):=by
 refine T.F_s.okn (k:=0) sc_s (aY h) (fun cdv A outer s H vs Q E hr h=>?_)
 .ext DL p x
 .ext Ek p x;show(i7,tf 1);exact h
theorem ok_z (T:aX):FnOk true P w K mg base aU 1 t.f_z t.d_z jv (sp1 (.int 1)):=by
 refine T.F_z.okn (k:=0) sc_z (aY h) (fun cdv A outer s H vs Q E hr h=>?_)
 .ext Hf p
 .ext HP p;show(zV,xm);exact h
theorem ok_aa (T:aX):FnOk true P w K mg base aU 1 t.f_aa t.d_aa jv (xwx t):=by
 refine T.F_aa.okn (k:=0) sc_aa (aY h) (fun cdv A outer s H vs Q E hr h=>?_)
 .ext DL p n
 .ext Ek p n;show(zV,zu bT);obtain⟨⟨dx,hp⟩,q⟩:=h;exact⟨p,t.C_x,dx,_,_,rfl,zbf hp q⟩
theorem ok_p (T:aX):FnOk true P w K mg base aU 1 t.f_p t.d_p yb (xwu t):=by
 refine T.F_p.okn (k:=0) sc_p (aY h) (fun cdv A outer s H vs Q E hr h=>?_)
 .ext Hn p n x
 .show(zbV,p,n,x,xr xek (zu bT) (pv 1));obtain⟨⟨dx,hp⟩,q⟩:=h;exact⟨p,t.C_x,dx,_,_,rfl,zbf hp q⟩
theorem ok_as (T:aX):FnOk true P w K mg base aU 3 t.f_as t.d_as On (xr0 t):=by
 refine T.F_as.okn (k:=2) sc_as (aY h) (fun cdv A outer s H vs Q E hr h=>?_)
 .ext DL b n
 .ext Ek b n;refine⟨_,xh (xan (xbg zlJ) (xh (xan (jO xdp bD (xbu)) (dH (xfb T.k_af (ok_at T) aZ rfl T.g_af T.b_at .nil xp iM)) (x9))
   (kO (jO xdp bD (xbu)) (dH (xfb T.k_x (ok_at T) aZ rfl T.g_x T.b_at .nil xp iM)))) (x9))
   wv,?_⟩
  refine sq2 ?_; intros; ext Ej; cases b with
  | true =>
   refine Bz ⟨104,_,_,true,kX,rfl,xdt,Oo⟩;ext AT; ext Ej; show(zgt,t.C_af,b8 xj T.c_af T.n_bf rfl zkL)
  | false =>
   show(bU,Bz ⟨104,_,_,true,kX,rfl,xdt,Oo⟩,lX ?_);refine ifN aP ?_;show(zgt,t.C_x,zbf xj zkL)
noncomputable def isNm (x:Str):Bool:=(cC x.length 1)&&(!(cJ (x.cps.toList<[97]))&&!(cJ ([122]<x.cps.toList)))
inductive xxu (vs:ag) (H:Hp) (Q:VK) (_:XK):Prop
 | mk (i lo hi:Int) (e_:vs=[cB,.int lo,.int hi]) (r_:lo<=i/\i<=hi/\(rg true))
inductive xxf (vs:ag) (H:Hp) (Q:VK) (_:XK):Prop
 | mk (x:Str) (e_:vs=[kc]) (r_:(qQ x)/\(rg true))
theorem xxn:(eO "a").cps.toList=[97]:=aP
theorem xxh:(eO "z").cps.toList=[122]:=aP
theorem ok_ak (T:aX):FnOk true P w K mg base aU 1 t.f_ak t.d_ak Nc (xxu):=by
 refine T.F_ak.okn (k:=0) sc_ak (aY h) (fun cdv A outer s H vs Q E hr h=>?_)
 .ext Hn i lo hi
 .show(zbV,i,lo,hi,xc1 (VT "int" T.n_int boot_int) (xc1 (xus (VT "bool" T.n_bool boot_bool)) (xei (xfu xg4 xg4 eJ bD iw))));ext fO c1 c2 q h;show(bU,Bz ⟨104,_,_,true,cB,rfl,xdt,Oo⟩,Bz ⟨104,_,_,false,cB,rfl,nR,(uq,false,rfl,true,iteT ?_)⟩);show(iG,lK c c)
  .refine ?_;show(Ah,Q (Tx (i<=hi)) H,uU c2,q)
  .ext GY c1 c
theorem ok_az (T:aX):FnOk true P w K mg base aU 1 t.f_az t.d_az Th (xxf):=by
 refine T.F_az.okn (k:=0) sc_az (aY h) (fun cdv A outer s H vs Q E hr h=>?_)
 .ext Hf x
 .ext HP x;show(zV,xc1 zlJ (xc1 (xb8 xdp (D6 xll pQ) (xm) rO) (xei (xfu xjv xjv (xbu) bD (xbu)))));ext i4 hn h;unfold isNm at hn;simp only[ZM,decide_eq_true_eq,QB,decide_eq_false_iff_not] at hn;ext fO l1 n1 n2 hn;show(bU,Bz ⟨104,_,_,true,kc,rfl,xdt,Oo⟩,dD 64 rfl (yx l1) Fy)
  .refine (dA,_,_,rfl,CW d)
   .refine kW _ rfl;show(cY,xxh,uR n2,q)
   .rw [xxn,uR n1] at d;ext iP d
  .show(GY,fh l1,c)
structure Pt where
 nm:Str
 x:Int
 y:Int
 sd:Str
 lo:Int
 hi:Int
noncomputable def ptV (p:Pt):ag:=[.int p.x,.int p.y,.str p.sd,.int p.lo,.int p.hi]
inductive Pl (H:Hp):bM aw aL
 | nil:Pl H [] []
 | cons {p:Pt}{q:Addr}{ps:aw}{kvs:aL} (h:OW p) (r:yq):Pl H (p::ps) ((Fg,cu)::kvs)
inductive PtsL (H:Hp):bM aw ao
 | nil:PtsL H [] []
 | cons {p:Pt}{q:Addr}{ps:aw}{qs:ao} (h:S7) (r:Ey):PtsL H (p::ps) rG
theorem xsk {Z:L2.St}{H:Hp}{A B:Fz} (h:A H):xdj Z H (fun b H4=>(cm,b,A H4,B H4)):=by
 show(Ah,(cm,true,A H,B H),cp,h)
theorem xnw {i:Nat}{v:V}{Z:L2.St}{H:Hp}{A B:mF L2.St} (h:A oZ H):xcd i v Z H (BW,xdj σ' H' fun b H4=>(cm,b,A σ' H4,B σ' H4)):=by
 show(Ah,(cm,true,A oZ H,B oZ H),cp,h)
noncomputable def Tups (H H':Hp):Prop:=Gy
theorem Pl.keep {H H':Hp} (s:kM) {ps:aw}{kvs:aL} (h:yq):Pl H' ps kvs:=by
 induction h with
 | nil=>ext gW
 | cons h _ ih=>ext AC
theorem PtsL.keep {H H':Hp} (s:kM) {ps:aw}{qs:ao} (h:Ey):PtsL H' ps qs:=by
 induction h with
 | nil=>ext gW
 | cons h _ ih=>ext AC
theorem Pl.len {H:Hp}{ps:aw}{kvs:aL} (h:yq):zbq:=by
 induction h with
 | nil=>rfl
 | cons _ _ ih=>ext oA
theorem PtsL.len {H:Hp}{ps:aw}{qs:ao} (h:Ey):zB qs.length:=by
 induction h with
 | nil=>rfl
 | cons _ _ ih=>ext oA
theorem Pl.find {H:Hp}{ps:aw}{kvs:aL} (h:yq) {nm:Str}{pt:Pt} (e:Ap):zdM (OW pt):=by
 induction h with
 | nil=>ext lw
 | @cons p q ps kvs h _ ih =>
  by_cases c:p.nm=nm
  .ext zkM
  .ext zfy
theorem Pl.no {H:Hp}{ps:aw}{kvs:aL} (h:yq) {nm:Str} (e:∀ p∈ps,Fd):Ct=none:=by
 induction h with
 | nil=>rfl
 | @cons p q ps kvs h _ ih =>
  ext zgb
theorem Pl.get {H:Hp}{ps:aw}{kvs:aL} (h:yq) {i:Nat}{k:Key}{x:V} (e:h7):zlk (OW p):=by
 induction h generalizing i with
 | nil=>ext lw
 | @cons p q ps kvs h _ ih =>
  cases i with
  | zero =>
   simp at e;exact⟨84,p,q,rfl,SD,e.2.symm,h⟩
  | succ j=>ext rh
theorem PtsL.get {H:Hp}{ps:aw}{qs:ao} (h:Ey) {i:Nat}{q:Addr} (e:BS):∃ p,(aF ps p)/\S7:=by
 induction h generalizing i with
 | nil=>ext lw
 | @cons p q' ps qs h _ ih =>
  cases i with
  | zero =>
   ext KL p
  | succ j=>ext rh
theorem Pl.snoc {H:Hp}{ps:aw}{kvs:aL} (h:yq) {p:Pt}{q:Addr} (e:OW p):Pl H Cg (kvs++[(Fg,cu)]):=by
 induction h with
 | nil=>ext Es
 | cons h _ ih=>ext yo
theorem PtsL.snoc {H:Hp}{ps:aw}{qs:ao} (h:Ey) {p:Pt}{q:Addr} (e:S7):PtsL H Cg Ll:=by
 induction h with
 | nil=>ext Es
 | cons h _ ih=>ext yo
noncomputable abbrev picF (w h:Int) (dp do_:Addr):kK:=[("width",.int w),("height",.int h),("placed",.ref dp),("opened",.ref do_)]
structure Pic (t:Adr) (H:Hp) (a dp do_:Addr) (w h:Int) (ps:aw):Prop where
 ins:∃ dx,ax a (mH t.C_a DZ)
 pl:∃ kvs,(ES dp)/\yq
 w1:1<=w
 w2:rH
 h1:1<=h
 h2:rJ
 len:zcF
theorem Same.tups {H H':Hp} (s:cL):kM:=(fS,s b _ e)
theorem Pic.same {t:Adr}{H H':Hp}{a dp do_:Addr}{w h:Int}{ps:aw} (s:cL) (p:Pic t H a dp do_ w h ps):Pic t H' a dp do_ w h ps :=
 ⟨let ⟨dx,e⟩:=p.ins; kZ qV,let ⟨kvs,e,q⟩:=p.pl; ⟨kvs,qV,q.keep (Same.tups s)⟩,p.w1,p.w2,p.h1,p.h2,p.len⟩
theorem xap {w h:Int}{dp do_:Addr}{m:Str} (e:((["width", "height", "placed", "opened"]:ai).all fun k=>!(m == k))=true):(DZ).lookup m=none:=by
 ext Vp;obtain⟨e1,e2,e3,e4,_⟩:45:=e;unfold picF;ext PB e1 zmz;show(PB,e2,[NZ,DA]);show(PB,e3,[DA]);rw[Z5,e4];rfl
theorem lkW {w h:Int}{dp do_:Addr}:(DZ).lookup (eO "width")=some (.int w):=by
 unfold picF;show(DP,"width")
theorem lkH {w h:Int}{dp do_:Addr}:(DZ).lookup (eO "height")=some (.int h):=by
 show(UZ,"height");show(DP,"height")
theorem lkP {w h:Int}{dp do_:Addr}:(DZ).lookup (eO "placed")=some (.ref dp):=by
 show(UZ,"placed");rw[Z5,He "placed" "height"];show Jm (eO "placed") [NZ,DA]=_;show(DP,"placed")
inductive xt8 (t:Adr) (vs:ag) (H:Hp) (Q:VK) (_:XK):Prop
 | mk (p dx:Addr) (w h:Int) (e_:vs=[cq,.int w,.int h]) (r_:(ax p zcB)/\(au,1<=w,rH,1<=h,rJ,∀ H' dp do_,(bz dp)->(lT,bz do_,Aw p,Pic t H' p dp do_ w h [],znz,.non)))
inductive spCN (t:Adr) (vs:ag) (H:Hp) (Q:VK) (_:XK):Prop
 | mk (a dp do_:Addr) (pw ph:Int) (ps:aw) (nm:Str) (pt:Pt) (e_:vs=[aA,vT]) (r_:(bE,Pic t H a dp do_ pw ph ps,FK,Ap,Q .non H))
inductive spCC (t:Adr) (vs:ag) (H:Hp) (Q:VK) (_:XK):Prop
 | mk (a dp do_:Addr) (pw ph:Int) (ps:aw) (x y:Int) (e_:vs=[aA,.int x,.int y]) (r_:Pic t H a dp do_ pw ph ps/\(au,1<=x,x<=pw,1<=y,y<=ph,Q .non H))
inductive xwj (t:Adr) (vs:ag) (H:Hp) (Q:VK) (_:XK):Prop
 | mk (a dp do_:Addr) (pw ph:Int) (ps:aw) (e_:vs=fF) (r_:Pic t H a dp do_ pw ph ps/\∀ H' l qs,(bb,cL,Mr,PtsL H' ps qs,Q bQ H'))
inductive spCL (t:Adr) (vs:ag) (H:Hp) (Q:VK) (_:XK):Prop
 | mk (a dp do_:Addr) (pw ph:Int) (ps:aw) (nm:Str) (x y:Int) (e_:vs=[aA,vT,.int x,.int y]) (r_:Pic t H a dp do_ pw ph ps/\(∀ p∈ps,Fd->p.x≠x/\p.y≠y)/\(y8 yP))
inductive spCS (t:Adr) (vs:ag) (H:Hp) (Q:VK) (_:XK):Prop
 | mk (a dp do_:Addr) (pw ph:Int) (ps:aw) (b:Bool) (r:Int) (e_:vs=[aA,rA,.int r]) (r_:(bE,Pic t H a dp do_ pw ph ps,1<=r,r<=ph,y8 yP))
inductive xxa (t:Adr) (vs:ag) (H:Hp) (Q:VK) (_:XK):Prop
 | mk (a dp do_:Addr) (pw ph:Int) (ps:aw) (nm:Str) (x y:Int) (sd:Str) (lo hi:Int) (hv:V) (e_:vs=[aA,vT,.int x,.int y,.str sd,.int lo,hv]) (r_:Pic t H a dp do_ pw ph ps/\(au,(hv=.non/\hi=ph)\/hv=.int hi,FK,1<=x,x<=pw,(au,1<=y,y<=ph,sd="left"\/sd="right"\/sd="both",1<=lo,(au,lo<=hi,hi<=ph,(∀ p∈ps,Fd/\p.x≠x/\p.y≠y),zdj,∀ H',(Aw dp)->Pic t H' a dp do_ pw ph (ps++[IH lo hi])->yP))))
inductive xwp (t:Adr) (vs:ag) (H:Hp) (Q:VK) (_:XK):Prop
 | mk (a dp do_:Addr) (pw ph:Int) (ps:aw) (nm:Str) (pt:Pt) (e_:vs=[aA,vT]) (r_:(bE,Pic t H a dp do_ pw ph ps,FK,Ap,∀ H' q,cL->(HF q (FE pt.x pt.y))->Q cu H'))
noncomputable def lenI (w x y:Int) (b:Bool) (r:Int):Int:=(uY,x,w+1-x)+(iY,y-r,0,-(y-r),y-r)
inductive xxr (t:Adr) (vs:ag) (H:Hp) (Q:VK) (_:XK):Prop
 | mk (a dp do_:Addr) (pw ph:Int) (ps:aw) (nm:Str) (pt:Pt) (b:Bool) (r:Int) (e_:zpJ) (r_:Pic t H a dp do_ pw ph ps/\(au,FK,Ap,1<=r,r<=ph,(y8,Q (.int (lenI pw pt.x pt.y b r)) H')))
theorem ok_ai (T:aX):FnOk true P w K mg base aU 2 t.f_ai t.d_ai zpf (xt8 t):=by
 refine T.F_ai.okn (k:=1) sc_ai (aY h) (fun cdv A outer s H vs Q E hr h=>?_)
 .obtain ⟨p,dx,pw,ph,rfl,_⟩:=h;rfl
 .obtain ⟨p,dx,pw,ph,rfl,h⟩:=h;refine⟨_,xh (SM (zcv (pC Cp hr T.g_ak T.F_ak.kp T.b_ak (Fm 1 (zbJ 30 T.v_bd.choose_spec))) (pC Cp hr T.g_ak T.F_ak.kp T.b_ak (Fm 2 (zbJ 16 T.v_bg.choose_spec)))) wv)
   (xh (LZ eJ)
   (xh (LZ iw)
   (xh TJ
   (RK (xej))))),?_⟩
  refine sq5 ?_; intros; obtain⟨hp,w1,w2,h1,h2,q⟩:46:=h;refine⟨pw,1,30,rfl,w1,w2,true,rfl,iteF ⟨ph,1,16,rfl,h1,h2,true,rfl,vS⟩⟩;show(bU,⟨126,p,_,dx,_,rfl,hp,T.c_a,T.n_a2,(oI 0),?_⟩,⟨126,p,_,dx,_,rfl,xj,T.c_a,T.n_a0,(oI 1),?_⟩);show(qj,xed,am dp hdp);show(hX,n1,p,dp,xb xj hdp,⟨126,p,_,dx,_,rfl,(cS n1 xj),T.c_a,T.n_a3,(oI 2),am do_ hdo⟩);have n2:p≠do_:=xb xj hdo;show(hX,n3,dp,do_,xb (av Cm xj) hdo,⟨126,p,_,dx,_,rfl,(cS n2 xj),T.c_a,T.n_a6,(oI 3),?_⟩);rw[Cm] at hdp;have hdo':bz do_:=by
   have z:=hdo;rw[kn n2,kn n3,kn n2] at z;exact z
  refine q _ dp do_ hdp hdo' vM ⟨kZ xj,⟨[],?_,.nil⟩,w1,w2,h1,h2,fV⟩ ?_
  .have c1:b≠dp:=xb e hdp;have c2:b≠do_:=fun z=>by
    subst z;rw[mD,xg c1,mD] at hdo;ext cE e hdo
   rw[mD,xg c2,mD,xg c1,mD];exact e
  .rw [Cm,xg n3,Cm];exact xj
  .show(bI,kn n2,xj)
theorem ok_d (T:aX):FnOk true P w K mg base aU 2 t.f_d t.d_d jP (spCN t):=by
 refine T.F_d.okn (k:=1) sc_d (aY h) (fun cdv A outer s H vs Q E hr h=>?_)
 .obtain ⟨a,dp,do_,pw,ph,ps,nm,pt,rfl,_⟩:=h;rfl
 .obtain ⟨a,dp,do_,pw,ph,ps,nm,pt,rfl,h⟩:=h;show(i7,kO (PW.pt (xdz (v0 (pC (ok_az T) hr T.g_az T.F_az.kp T.b_az iM)) (xc7 (xdn (xe1 kf eJ bT))))) wv);ext jY pic hn hf q h;ext Da dx;show(dL,q0,e,pl.find hf);exact(Xq,iteF ⟨a,_,dx,_,_,rfl,D3 ⟨dp,aT q0,rfl,(RL e),false,rfl,iteF q⟩⟩)
theorem ok_l (T:aX):FnOk true P w K mg base aU 2 t.f_l t.d_l (kT "x" "y") (spCC t):=by
 refine T.F_l.okn (k:=1) sc_l (aY h) (fun cdv A outer s H vs Q E hr h=>?_)
 .obtain ⟨a,dp,do_,pw,ph,ps,x,y,rfl,_⟩:=h;rfl
 .obtain ⟨a,dp,do_,pw,ph,ps,x,y,rfl,h⟩:=h;show(i7,kO (PW.pt (zcv (pC Cp hr T.g_ak T.F_ak.kp T.b_ak (Fm 1 bT)) (pC Cp hr T.g_ak T.F_ak.kp T.b_ak (Fm 2 bT)))) wv);obtain⟨pic,x1,x2,y1,y2,q⟩:46:=h;ext xC dx;exact⟨a,_,dx,_,_,rfl,qZ hp T.n_a2 lkW ⟨x,1,pw,rfl,x1,x2,true,rfl,iteF ⟨a,_,dx,_,_,rfl,D1 ⟨y,1,ph,rfl,y1,y2,true,rfl,iteF q⟩⟩⟩⟩
theorem ok_i (T:aX):FnOk true P w K mg base aU 1 t.f_i t.d_i jv (xwj t):=by
 refine T.F_i.okn (k:=0) sc_i (aY h) (fun cdv A outer s H vs Q E hr h=>?_)
 .obtain ⟨a,dp,do_,pw,ph,ps,rfl,_⟩:=h;rfl
 .obtain ⟨a,dp,do_,pw,ph,ps,rfl,h⟩:=h;show(i7,xk (xu (xi3 (xa7 rfl (xas (zs:=["name", "rest"]) (ys:=[]) (fr:=[]) (N0:=jv) (sc0:=xl s_i) aP rfl rfl rfl) (xq7 bT) Ma (xb7 G8) eB (U4 eJ)))));ext i4 pic h;ext Da dx;refine⟨a,_,dx,_,_,rfl,D3 (dA,dp,kvs,hk,cI ob nf l hl)⟩;have nl:l≠dp:=fun z=>by
   ext uw z xj hl hl
  show(cA,hl0,jD,zpK,xc3 kvs.length (hU,xs,H2,∃ qs:ao,xs=Ie/\(au,qs.length<=i,H2 dp=some fZ,(mT,dp,iH,H2 b=some u),Ln,PtsL H2 Td qs)) ?_ ?_ ?_ ?_)
  .refine ⟨66,[],rfl,bp,?_,vM,xj,by simpa using PtsL.nil⟩
   .show(bI,kn nl,xj)
   .rw [gY hl0,mD];exact e
  .rintro i xs H2 lt (⟨qs,_,_,hd,_⟩:64);ext aO hd lt
  .rintro i xs H2 v H3 lt (⟨qs,rfl,ql,hd,sm,hl2,pts⟩:66) ⟨p,k,x,hx,rfl,hpn,rfl⟩ N hN;obtain⟨pt,q0,hpt,rfl,rfl,hq0⟩:84:=pl.get hx;show(ay,e0,H2 q0=some (.tup (ptV pt)),sm _ _ (ne_f hq0 hk) hq0,eD p xj);refine xsk ?_;show(hX,n0,q0,p,xb e0 hpn,⟨(z6 leS1),fun p1 h1=>⟨p1,q0,_,ptV pt,rfl,⟨47,rfl,eA xj,eA ?_,ah,(zbH,1+5),gb,fun _ p2 h2=>?_⟩⟩⟩)
   .rw [ku (cS n0 e0) h1,xg n0];exact e0
   have up:(pW,H2 b=some u,(upd (nE zbg p1 [iX]) p2 (.tup ([iX]++ptV pt))) b=some u):=fun b u e=>by
    have c1:b≠p:=xb e hpn;have e1:pX H2 p (.tup [iX,.ref q0]):=cS c1 e
    have c2:b≠p1:=xb e1 h1;have e2:pX zbg p1 (.tup [iX]):=cS c2 e1
    show(aB,ku e2 h2,e2)
   have c3:l≠p2:=xb (show i0 zbg p1 (.tup [iX]) l G7 from by
    have c1:l≠p:=xb hl2 hpn;have e1:i0 H2 p (.tup [iX,.ref q0]) l G7:=cS c1 hl2
    show(aB,ku e1 h1,e1)) h2
   have tk:ps.take aH=Td++[pt]:=by
    rw[ZS,hpt];rfl
   show(ay,ll,zZ qs.length,zqw pl.len qs.length,⟨up _ _ hl2,gE ll,hN _ _ ⟨66,qs++[p2],ah,jQ,?_,vM,xj,?_⟩⟩)
   .show(bI,kn nl,up _ _ hd)
   .have e2:=up _ _ (sm b u nb e);show(aB,gY hl0,e2)
   .rw [tk];refine PtsL.snoc (PtsL.keep LM pts) ?_
    .have e2:=up _ _ e;show(aB,ua e2 (up _ _ hl2),e2)
    .show(bI,kn c3,xj)
  .rintro xs H2 (⟨qs,rfl,_,hd,sm,hl2,pts⟩:66);show(cR,⟨hd,bp⟩,⟨103,dp,ob,_,hd,nf,q _ l qs vN ?_ (PtsL.keep LM (by rw[pl.len,Jf] at pts; exact pts))⟩)
   .by_cases c:b=dp
    .ext ul c hk e;exact xj
    .show(bI,xg c,sm b u c e)
   .show(bI,xg nl,hl2)
   .show(bI,ua e hd,e)
theorem ok_f (T:aX):FnOk true P w K mg base aU 2 t.f_f t.d_f VZ (spCL t):=by
 refine T.F_f.okn (k:=1) sc_f (aY h) (fun cdv A outer s H vs Q E hr h=>?_)
 .obtain ⟨a,dp,do_,pw,ph,ps,nm,x,y,rfl,_⟩:=h;rfl
 .obtain ⟨a,dp,do_,pw,ph,ps,nm,x,y,rfl,h⟩:=h;refine⟨_,xh (xb6 rfl (xas (zs:=["other"]) (ys:=["name"]) (fr:=[1]) (N0:=zht) (sc0:=xl s_f) aP rfl rfl rfl) (xab (xbi bD T.c_a T.m_i (ok_i T) aZ T.b_i .nil xp)) jn jb (fun _ _ _ _ _=>xgy (jO xir As eJ)) Ou (j:=4) rfl pH)
   (xh (iS (z0 4) 5 sc_f.nd (kO (jO xdp (uK 5) iw) wv))
   (xk (iS (z0 4) 5 sc_f.nd (kO (jO xdp (uK 5) iu) wv)))),?_⟩
  refine sq3 ?_; intros; ext fO pic no q h;ext Da dx;refine⟨a,dx,_,rfl,hp,bL,a,dp,do_,pw,ph,ps,rfl,pic,fun H1 l1 qs s1 hl1 pt1=>um l1 hl1 l hl⟩;refine xc3 qs.length (hU,xs,H2,∃ os:ao,(au,xs=os.map V.ref,os.length<=i,m8,Ln,∀ o∈os,∃ p∈ps,Fd/\H1 o=some (.tup zez))) ?_ ?_ ?_ ?_
  .exact ⟨65,[],rfl,bp,cO hl,xj,fun o z=>nomatch z⟩
  .rintro i xs H2 lt (⟨os,_,_,s2,_⟩:64);exact(bw,_,.ref C4,Eo,cM lt)
  .rintro i xs H2 v H3 lt (⟨os,rfl,ol,s2,hl2,hos⟩:65) ⟨rfl,hv⟩ N hN;ext zcM Eo;ext qJ o ho hv';show(af,p,hpp,ep,pt1.get ho);refine dD o 0 _ (b8,rfl,eA (jp ep),rfl,rfl,Fy)
   .have cn:p.nm≠nm:=fun z=>by
     rw[z] at c;simp at c
    refine⟨hl2,(gE,zqw pt1.len os.length),hN _ _ ⟨65,os++[o],ah,jQ,?_,xj,?_⟩⟩
    .intro b u e
     by_cases cb:b=l
     .subst cb;ext cE e hl
     .show(bI,xg cb,s2 b u e)
    .intro o' ho'
     rcases Z3.mp ho' with z|z
     .exact hos o' z
     .have:=vO;ext rE;exact(bi,p,Zm hpp,cn,ep)
   .exact hN _ _ ⟨65,os,rfl,aa,s2,hl2,hos⟩
  .rintro xs H2 (⟨os,rfl,ol,s2,hl2,hos⟩:65);show(cR,dI Eo ah,?_);ext mN; have loop:∀(o:Addr),o∈os->∃ p∈ps,Fd/\H2 o=some (.tup zez):=fun o ho=>by
    show(bF,p,h1,h2,h3,hos o ho);exact(bi,p,h1,h2,jp h3)
   refine(oX,l,hl2,xbh (xs:=os.map V.ref) (Pv:=zfR) KW zgD ?_ ?_)
   .rintro i v Z _ hv (⟨v5,rfl,rfl⟩:62);ext zgO;refine dD o 1 _ (b8,rfl,eA m3,rfl,rfl,(c9,DK (aC,(no p m1 m2).1 (V.int.inj z)) KW))
   .ext zoN;refine nx ?_; refine fo ?_; intros; refine(oX,l,hl2,xbh (xs:=os.map V.ref) (Pv:=zfR) KW zgD ?_ ?_)
    .rintro i v Z _ hv (⟨v5,rfl,rfl⟩:62);ext zgO;refine dD o 2 _ (b8,rfl,eA m3,rfl,rfl,(c9,DK (aC,(no p m1 m2).2 (V.int.inj z)) KW))
    .ext zoN;exact q _ mX
theorem ok_e (T:aX):FnOk true P w K mg base aU 4 t.f_e t.d_e Om (spCS t):=by
 refine T.F_e.okn (k:=3) sc_e (aY h) (fun cdv A outer s H vs Q E hr h=>?_)
 .obtain ⟨a,dp,do_,pw,ph,ps,b,r,rfl,_⟩:=h;rfl
 .obtain ⟨a,dp,do_,pw,ph,ps,b,r,rfl,h⟩:=h;refine⟨_,xh (xay (pC FT hr T.g_as T.F_as.kp T.b_as (fM 1 bT)))
   (kO (v0 (pC Cp hr T.g_ak T.F_ak.kp T.b_ak (Fm 2 bT))) wv),?_⟩
  refine sq2 ?_; intros; ext jY pic r1 r2 q h;ext xC dx;refine⟨a,_,dx,_,_,rfl,qZ hp T.n_a2 lkW (rB,b,pw,bJ p H1 hp1 sd1 s1)⟩;exact⟨a,_,dx,_,_,rfl,Sj nF ⟨r,1,ph,rfl,r1,r2,true,rfl,iteF (q H1 s1)⟩⟩
theorem ok_b (T:aX):FnOk true P w K mg base aU 3 t.f_b t.d_b ["self", "name", "x", "y", "sides", "low", "high"] (xxa t):=by
 refine T.F_b.okn (k:=2) sc_b (aY h) (fun cdv A outer s H vs Q E hr h=>?_)
 .obtain ⟨a,dp,do_,pw,ph,ps,nm,x,y,sd,lo,hi,hv,rfl,_⟩:=h;rfl
 .obtain ⟨a,dp,do_,pw,ph,ps,nm,x,y,sd,lo,hi,hv,rfl,h⟩:=h;refine⟨_,xh (pS 7 sc_b.nd (xhr (pj xh6 6 (xb4)) bT (pv 6)))
   (xh (F4 (v0 (pC (ok_az T) hr T.g_az T.F_az.kp T.b_az iM)))
   (xh (xay (xae bD T.c_a T.m_l (ok_l T) aZ T.b_l .nil xp BY))
   (xh (F4 (PW.pt (xdz (v0 (zjq (fM 4 (xfd (v:=.ty "str") rfl T.n_str boot_str rfl)))) (xc7 (xdn (xpj jK rfl T.g_ad T.D_ad))))))
   (xh (SM (zcv (pC Cp hr T.g_ak T.F_ak.kp T.b_ak (Fm 5 bT)) (pC Cp hr T.g_ak T.F_ak.kp T.b_ak (dR 7 (fM 5 bT)))) wv)
   (xh (F4 (xdn (xf5 kf eJ bT)))
   (xh (F4 (jO xxi (D6 xqa (xa bT (xi))) (zbJ 12 T.v_be.choose_spec)))
   (xh (xay (xae bD T.c_a T.m_f (ok_f T) aZ T.b_f .nil xp (eS 1 2 3)))
   (xk (qY bT eJ (xad (dR 2 (dR 3 (eS 4 5 7))))))))))))),?_⟩
  refine sq9 ?_; intros; obtain⟨pic,hhv,hn,x1,x2,y1,⟨y2,hsd,l1,l2,l3,no,len,q⟩⟩:47:=h;ext Da dx;have hsd':gM (valV ([(Jd "left",V.str "right"),(Jd "right",V.str "left"),(Jd "both",V.str "both")]:aL) (Jd sd)):=by
   rcases hsd with rfl|rfl|rfl<;>decide +kernel
  rcases hhv with⟨rfl,e⟩|rfl
  .show(nZ,e.symm);show(bU,(lX,ifP nR ⟨a,_,dx,_,_,rfl,D1 ?_⟩),Xq vS);show(bU,⟨a,dx,_,rfl,hp,bL,a,dp,do_,pw,ph,ps,x,y,rfl,pic,x1,x2,y1,y2,?_⟩,Bz ⟨104,_,_,true,kX,rfl,xdt,zgM⟩);show(bU,⟨a,_,dx,_,_,rfl,D1 ⟨lo,1,ph,rfl,l1,aa,true,rfl,iteF ⟨a,_,dx,_,_,rfl,D1 ⟨ph,lo,ph,rfl,aa,aa,true,rfl,vS⟩⟩⟩⟩,⟨a,_,dx,_,_,rfl,D3 ⟨dp,none,rfl,(RL MC),false,rfl,vS⟩⟩);show(bU,⟨a,_,dx,_,_,rfl,zhC⟩,⟨a,dx,_,rfl,hp,bL,a,dp,do_,pw,ph,ps,nm,x,y,rfl,pic,znN,vh⟩);ext rD leS5 q1 hq1;have hp1:NO ph a zkx:=(av,C2 nF,nF)
   show(ay,hk1,NO ph dp ze,(av,C2 zl,zl),⟨a,_,dx,_,_,rfl,zfw⟩);rw[xb2 (.ref q1) MC];have nq:q1≠dp:=fun z=>by
    subst z;ext cE zl hq1
   refine q _ vM ⟨dQ dx,ziO ph,pic.w1,pic.w2,pic.h1,pic.h2,(av Zs len)⟩
   .rw [mD,C2 tI];exact tI
   .show(bI,ua hp1 hk1,hp1)
   .ext zkw
   .show(bI,xg nq,xj)
  .refine lX S0;refine Xq vS;show(bU,⟨a,dx,_,rfl,hp,bL,a,dp,do_,pw,ph,ps,x,y,rfl,pic,x1,x2,y1,y2,?_⟩,Bz ⟨104,_,_,true,kX,rfl,xdt,zgM⟩);show(bU,⟨a,_,dx,_,_,rfl,D1 ⟨lo,1,ph,rfl,l1,aa,true,rfl,iteF ⟨a,_,dx,_,_,rfl,D1 ⟨hi,lo,ph,rfl,aa,aa,true,rfl,vS⟩⟩⟩⟩,⟨a,_,dx,_,_,rfl,D3 ⟨dp,none,rfl,(RL MC),false,rfl,vS⟩⟩);show(bU,⟨a,_,dx,_,_,rfl,zhC⟩,⟨a,dx,_,rfl,hp,bL,a,dp,do_,pw,ph,ps,nm,x,y,rfl,pic,znN,vh⟩);ext rD leS5 q1 hq1;have hp1:NO hi a zkx:=(av,C2 nF,nF)
   show(ay,hk1,NO hi dp ze,(av,C2 zl,zl),⟨a,_,dx,_,_,rfl,zfw⟩);rw[xb2 (.ref q1) MC];have nq:q1≠dp:=fun z=>by
    subst z;ext cE zl hq1
   refine q _ vM ⟨dQ dx,ziO hi,pic.w1,pic.w2,pic.h1,pic.h2,(av Zs len)⟩
   .rw [mD,C2 tI];exact tI
   .show(bI,ua hp1 hk1,hp1)
   .ext zkw
   .show(bI,xg nq,xj)
theorem ok_j (T:aX):FnOk true P w K mg base aU 3 t.f_j t.d_j jP (xwp t):=by
 refine T.F_j.okn (k:=2) sc_j (aY h) (fun cdv A outer s H vs Q E hr h=>?_)
 .obtain ⟨a,dp,do_,pw,ph,ps,nm,pt,rfl,_⟩:=h;rfl
 .obtain ⟨a,dp,do_,pw,ph,ps,nm,pt,rfl,h⟩:=h;refine⟨_,xh (xay (xae bD T.c_a T.m_d (ok_d T) aZ T.b_d .nil xp iM))
   (dH (xdv xu4 (wg bT eJ) xeh (xee (xm)))),?_⟩
  refine sq2 ?_; intros; ext jY pic hn hf q h;ext Da dx;show(af,q0,e,hq0,pl.find hf);refine⟨a,dx,_,rfl,hp,bL,a,dp,do_,pw,ph,ps,nm,pt,rfl,pic,hn,hf,?_⟩;exact⟨a,_,dx,_,_,rfl,D3 ⟨dp,LP,rfl,(RL e),2,rfl,q0,ptV pt,rfl,eA hq0,(aC,absurd z.2 (by show ¬ ((2:Nat)=5); decide)),fun p hp'=>q _ p (cO hp') xj⟩⟩
theorem ok_n (T:aX):FnOk true P w K mg base aU 5 t.f_n t.d_n Dg (xxr t):=by
 refine T.F_n.okn (k:=4) sc_n (aY h) (fun cdv A outer s H vs Q E hr h=>?_)
 .obtain ⟨a,dp,do_,pw,ph,ps,nm,pt,b,r,rfl,_⟩:=h;rfl
 .obtain ⟨a,dp,do_,pw,ph,ps,nm,pt,b,r,rfl,h⟩:=h;refine⟨_,xh (Kk (xae bD T.c_a T.m_j (ok_j T) aZ T.b_j .nil xp iM) (gK 4 sc_n.nd 5))
   (xh (xay (xae bD T.c_a T.m_e (ok_e T) aZ T.b_e .nil xp BY))
   (dH (xr xa3 (xgn (xae (pC FT hr T.g_as T.F_as.kp T.b_as (fM 2 bT)) T.c_af T.m_s (ok_s T) aZ T.b_s .nil xp (jj 4)) (xae (pC FT hr T.g_as T.F_as.kp T.b_as (fM 2 bT)) T.c_x T.m_p (ok_p T) aZ T.b_p .nil xp (jj 4))) (zil on 3)))),?_⟩
  refine sq3 ?_; intros; obtain⟨pic,hn,hf,r1,r2,q⟩:46:=h;ext xC dx;show(bU,⟨a,dx,_,rfl,hp,bL,a,dp,do_,pw,ph,ps,nm,pt,rfl,pic,hn,hf,zkQ⟩,⟨a,dx,_,rfl,nF,bL,a,dp,do_,pw,ph,ps,b,r,rfl,Ck,r1,r2,am H2 s2⟩);cases b with
  | true =>
   refine .inl ⟨a,_,dx,_,_,rfl,C9 true⟩;ext IQ sd3;exact⟨p,ds,_,rfl,hs,MP,_,_,rfl,_,rfl,q H3 ((mX).trans s3)⟩
  | false =>
   show(Ai,⟨a,_,dx,_,_,rfl,C9 false⟩);show(IQ,id sd3);exact⟨p,ds,_,rfl,hs,MP,p,pw,_,rfl,sd3,_,rfl,q H3 ((mX).trans s3)⟩
inductive xa0 (H:Hp):bM jT ao
 | nil:xa0 H [] []
 | cons {c:iW}{q:Addr}{cs:jT}{qs:ao} (h:Nl) (r:Br):xa0 H (c::cs) rG
theorem xa0.keep {H H':Hp} (s:kM) {cs:jT}{qs:ao} (h:Br):xa0 H' cs qs:=by
 induction h with
 | nil=>ext gW
 | cons h _ ih=>ext AC
theorem xa0.len {H:Hp}{cs:jT}{qs:ao} (h:Br):XB:=by
 induction h with
 | nil=>rfl
 | cons _ _ ih=>ext oA
theorem xa0.get {H:Hp}{cs:jT}{qs:ao} (h:Br) {i:Nat}{q:Addr} (e:BS):∃ c,(aF cs c)/\Nl:=by
 induction h generalizing i with
 | nil=>ext lw
 | @cons c q' cs qs h _ ih =>
  cases i with
  | zero =>
   ext KL c
  | succ j=>ext rh
theorem xa0.append {H:Hp}{cs ds:jT}{qs rs:ao} (h:Br) (h':xa0 H ds rs):xa0 H (cs++ds) (qs++rs):=by
 induction h with
 | nil=>exact h'
 | cons h _ ih=>ext yo
theorem xa0.snoc {H:Hp}{cs:jT}{qs:ao} (h:Br) {c:iW}{q:Addr} (e:Nl):xa0 H (cs++[c]) Ll:=h.append (.cons e .nil)
theorem xce {Z:L2.St}{fr:pi}{te:TE}{l:Addr}{H1:Hp}{Q:VK}{lo d:Int}{n:Nat} (f:Nat->iW) (hl:uX) (hn:n<1000)
    (hte:∀(i:Nat) (H2:Hp) (R:VK),hW->(∀ p,H2 p=none->R cq (iB,H2,p,.int (f i).1,.int (f i).2))->te ((R5).set 0 (bv (lo+cG*d))) H2 R)
    (fin:∀(H2:Hp) (qs:ao),(bb,m8,H2 l=some (.lst (qs.map V.ref)),xa0 H2 ((Z1 n).map f) qs,LT)):xdy zdU 1 (xcd 0) Z fr xdj te l H1 Q:=by
  refine xc3 n (hU,xs,H2,∃ qs:ao,(au,xs=qs.map V.ref,qs.length<=i,m8,Ln,xa0 H2 ((Z1 i).map f) qs)) ?_ ?_ ?_ ?_
  . exact⟨65,[],rfl,bp,cO hl,xj,.nil⟩
  . rintro i xs H2 lt _
    exact lt
  . rintro i xs H2 v H3 lt (⟨qs,rfl,ql,s2,hl2,cl⟩:65) ⟨rfl,rfl⟩ N hN
    refine xnw ?_;refine hte i _ _ lt (eF ⟨?_,?_,hN _ _ ⟨65,qs++[p],ah,jQ,?_,xj,?_⟩⟩)
    . show(aB,ku hl2 hp,hl2)
    . show(aB,Za,JQ ql (ZJ lt (ZD hn ap)))
    . intro b u e
      have nb:b≠l:=xb e hl;show(cY,mD,ku Fv hp,Fv)
    . rw[Y6,Zq]
      refine xa0.snoc (xa0.keep LM cl) ?_
      . show(cY,ua e hl2,FP,e)
      . show(rC,xb hl2 hp,xj)
  . rintro xs H2 (⟨qs,rfl,_,s2,hl2,cl⟩:65)
    show(aO,bp,fin H2 qs s2 hl2 cl)
inductive xtx (t:Adr) (vs:ag) (H:Hp) (Q:VK) (_:XK):Prop
 | mk (a dp do_:Addr) (pw ph:Int) (ps:aw) (nm:Str) (pt:Pt) (b:Bool) (r:Int) (e_:zpJ) (r_:Pic t H a dp do_ pw ph ps/\FK/\(au,Ap,1<=r,r<=ph,(bE,1<=pt.x,pt.x<=pw,1<=pt.y,pt.y<=ph),∀ H' l qs,(lT,cL,Mr,xa0 H' (Geo.cells pw pt.x pt.y b r) qs,qs.length<100,bQ)))
theorem lno {m:Str}{v:V} (h:zq m (eO "width")):([("width",v)]:kK).lookup m=none:=by
 rw[Z5,h];rfl
theorem ok_av (T:aX):FnOk true P w K mg base aU 6 t.f_av t.d_av Va (xtx t):=by
 refine T.F_av.okn (k:=5) sc_av (aY h) (fun cdv A outer s H vs Q E hr h=>?_)
 .obtain ⟨a,dp,do_,pw,ph,ps,nm,pt,b,r,rfl,_⟩:=h;rfl
 .obtain ⟨a,dp,do_,pw,ph,ps,nm,pt,b,r,rfl,h⟩:=h;refine⟨_,xh (xay (xae bD T.c_a T.m_n (ok_n T) aZ T.b_n .nil xp (eS 1 2 3)))
   (xh (Kk (xae bD T.c_a T.m_j (ok_j T) aZ T.b_j .nil xp iM) (LV (xg3 (i:=4) sc_av.nd rfl (QP rfl)) (pN 5 sc_av.nd)))
   (xh (pS 6 sc_av.nd (pC FT hr T.g_as T.F_as.kp T.b_as (fM 2 bT)))
   (xh (pS 7 sc_av.nd (xhr (pj xkl 5 iu) (xm) IS))
   (xh (xb6 rfl (xas (zs:=["at"]) (ys:=["x"]) (fr:=[4]) (N0:=["picture", "name", "side", "row", "x", "y", "toward", "down", "upright", "level"]) (sc0:=xl s_av) aP rfl rfl rfl) (xje rfl T.n_range (eS 5 3 7)) jn jb eB (mR (fT 1 0)) (j:=8) rfl pH)
   (xh (xb6 rfl (xas (zs:=["at"]) (ys:=["row"]) (fr:=[3]) (N0:=["picture", "name", "side", "row", "x", "y", "toward", "down", "upright", "level"]) (sc0:=xl s_av) aP rfl rfl rfl) (xje rfl T.n_range (dR 4 (gu (xr xa3 (xgn (xbi lA T.c_af T.m_ag (ok_ag T) aZ T.b_ag .nil xp) (xbi lA T.c_x T.m_aa (ok_aa T) aZ T.b_aa .nil xp)) (xgn (xbi lA T.c_af T.m_ab (ok_ab T) aZ T.b_ab .nil xp) (xbi lA T.c_x T.m_z (ok_z T) aZ T.b_z .nil xp))) (xgn (xbi lA T.c_af T.m_ab (ok_ab T) aZ T.b_ab .nil xp) (xbi lA T.c_x T.m_z (ok_z T) aZ T.b_z .nil xp))))) jn jb eB (mR B5) (j:=9) rfl pH)
   (dH (xr xqk (pv 8) (pv 9)))))))),?_⟩
  refine sq7 ?_; intros; obtain⟨pic,hn,hf,r1,r2,⟨x1,x2,y1,y2⟩,q⟩:47:=h;obtain⟨⟨dx,hp⟩,_,w1,w2,h1,h2,_⟩:=CU;by_cases hd:pt.y<r<;>cases b
  .-- down right
   refine⟨a,dx,_,rfl,hp,bL,a,dp,do_,pw,ph,ps,nm,pt,false,r,rfl,pic,hn,hf,r1,r2,vh⟩;show(bU,⟨a,dx,_,rfl,nF,bL,a,dp,do_,pw,ph,ps,nm,pt,rfl,Ck,hn,hf,MO⟩,⟨a,_,dx,_,_,rfl,C9 false⟩);show(iG,ifP (decide_eq_true hd) ?_);refine⟨103,pt.y,r,1,rfl,xR,rb RZ⟩;show(L8,N6,t.C_x,false)
   show(Ai,⟨p,ds,_,rfl,hs4,pI,p,pw,rfl,sd4,.inr ⟨p,ds,_,rfl,hs4,pI,_,rfl,.inr ⟨p,ds,_,rfl,hs4,pI,_,rfl,pt.x,_,1,rfl,xR,rb RY⟩⟩⟩);refine xce (jq,yw 1) hl2 aa (K2 k E5) (SK hu5 cu5);have c1:xa0 H5 uE qs1:=by
    show(vm,uE,(Z1 (fD r pt.y)).map (pB i N6),(MB,az hd),No)
   have c2:xa0 H5 Dx qs2:=by
    have e:Dx=(znR).map (pB,i,yw 1):=by
     ext zhw
    rw[e];exact cu5
   show(ae,l1',c1.len,l2',c2.len);ext Md
   show(tY,b2,(Dx).length<33,Mj,(Sh,FC TZ hu5 (Mh 100) p6 hp6),q _ p6 TB (xv (((mX).trans s3).trans (s4.trans s5)) hp6) Sz ((RA).keep (Same.tups (cO hp6))) Ls)
  .-- down left
   refine⟨a,dx,_,rfl,hp,bL,a,dp,do_,pw,ph,ps,nm,pt,true,r,rfl,pic,hn,hf,r1,r2,vh⟩;show(bU,⟨a,dx,_,rfl,nF,bL,a,dp,do_,pw,ph,ps,nm,pt,rfl,Ck,hn,hf,MO⟩,⟨a,_,dx,_,_,rfl,C9 true⟩);show(iG,ifP (decide_eq_true hd) ?_);refine⟨103,pt.y,r,1,rfl,xR,rb RZ⟩;show(L8,N6,t.C_af,true)
   refine (.inl ⟨p,ds,_,rfl,hs4,pI,_,rfl,.inl ⟨p,ds,_,rfl,hs4,pI,_,rfl,.inl ⟨p,ds,_,rfl,hs4,pI,_,rfl,pt.x,_,(-1),rfl,xR,zC RY⟩⟩⟩);refine xce (jq,yw (-1)) hl2 aa (K2 k E5) (SK hu5 cu5);have c1:xa0 H5 uE qs1:=by
    show(vm,uE,(Z1 (fD r pt.y)).map (pB i N6),(MB,az hd),No)
   have c2:xa0 H5 Dy qs2:=by
    have e:Dy=(zpc).map (pB,i,yw (-1)):=by
     ext zhQ
    rw[e];exact cu5
   show(ae,l1',c1.len,l2',c2.len);ext Md
   show(tY,b2,(Dy).length<33,Mj,(Sh,FC TZ hu5 (Mh 100) p6 hp6),q _ p6 TB (xv (((mX).trans s3).trans (s4.trans s5)) hp6) Sz ((RA).keep (Same.tups (cO hp6))) Ls)
  .-- up right
   refine⟨a,dx,_,rfl,hp,bL,a,dp,do_,pw,ph,ps,nm,pt,false,r,rfl,pic,hn,hf,r1,r2,vh⟩;show(bU,⟨a,dx,_,rfl,nF,bL,a,dp,do_,pw,ph,ps,nm,pt,rfl,Ck,hn,hf,MO⟩,⟨a,_,dx,_,_,rfl,C9 false⟩);show(iG,DK hd (jB 1 ?_));refine⟨103,pt.y,r,(-1),rfl,xR,zC RZ⟩;show(L8,NC,t.C_x,false)
   show(Ai,⟨p,ds,_,rfl,hs4,pI,p,pw,rfl,sd4,.inr ⟨p,ds,_,rfl,hs4,pI,_,rfl,.inr ⟨p,ds,_,rfl,hs4,pI,_,rfl,pt.x,_,1,rfl,xR,rb RY⟩⟩⟩);refine xce (jq,yw 1) hl2 aa (K2 k E5) (SK hu5 cu5);have c1:xa0 H5 uE qs1:=by
    show(vm,uE,(Z1 (fD pt.y r)).map (pB i NC),(MB,aM hd),No)
   have c2:xa0 H5 Dx qs2:=by
    have e:Dx=(znR).map (pB,i,yw 1):=by
     ext zhw
    rw[e];exact cu5
   show(ae,l1',c1.len,l2',c2.len);ext Md
   show(tY,b2,(Dx).length<33,Mj,(Sh,FC TZ hu5 (Mh 100) p6 hp6),q _ p6 TB (xv (((mX).trans s3).trans (s4.trans s5)) hp6) Sz ((RA).keep (Same.tups (cO hp6))) Ls)
  .-- up left
   refine⟨a,dx,_,rfl,hp,bL,a,dp,do_,pw,ph,ps,nm,pt,true,r,rfl,pic,hn,hf,r1,r2,vh⟩;show(bU,⟨a,dx,_,rfl,nF,bL,a,dp,do_,pw,ph,ps,nm,pt,rfl,Ck,hn,hf,MO⟩,⟨a,_,dx,_,_,rfl,C9 true⟩);show(iG,DK hd (jB 1 ?_));refine⟨103,pt.y,r,(-1),rfl,xR,zC RZ⟩;show(L8,NC,t.C_af,true)
   refine (.inl ⟨p,ds,_,rfl,hs4,pI,_,rfl,.inl ⟨p,ds,_,rfl,hs4,pI,_,rfl,.inl ⟨p,ds,_,rfl,hs4,pI,_,rfl,pt.x,_,(-1),rfl,xR,zC RY⟩⟩⟩);refine xce (jq,yw (-1)) hl2 aa (K2 k E5) (SK hu5 cu5);have c1:xa0 H5 uE qs1:=by
    show(vm,uE,(Z1 (fD pt.y r)).map (pB i NC),(MB,aM hd),No)
   have c2:xa0 H5 Dy qs2:=by
    have e:Dy=(zpc).map (pB,i,yw (-1)):=by
     ext zhQ
    rw[e];exact cu5
   show(ae,l1',c1.len,l2',c2.len);ext Md
   show(tY,b2,(Dy).length<33,Mj,(Sh,FC TZ hu5 (Mh 100) p6 hp6),q _ p6 TB (xv (((mX).trans s3).trans (s4.trans s5)) hp6) Sz ((RA).keep (Same.tups (cO hp6))) Ls)
theorem xqn {K:Zd}{Z:L2.St}{fr:pi}{te:TE}{l l1:Addr}{H1:Hp}{Q:VK}{qs:ao} (hl1:H1 l1=some (.lst (qs.map V.ref))) (hl:uX) (hn:qs.length<1000)
    (hte:∀(q:Addr) (H2:Hp) (R:VK),(∀ p,H2 p=none->R cq (iB H2 p cu TR))->te ((R5).set 0 Gc) H2 R)
    (fin:∀(H2:Hp) (ws:Em),m8->H2 l=some (.lst (ws.map zbY))->ws.map (·.2)=zjk->zic->Q bQ H2) :
    xdy (Itl K l1) 1 (xcd 0) Z fr xdj te l H1 Q:=by
  refine xc3 qs.length (fun i xs H2=>∃ ws:Em,xs=znq/\ws.length<=i/\m8/\Ln/\ws.map (·.2)=(qs.take i).map (fun q=>(V.ref q,V.bl true))/\zic) ?_ ?_ ?_ ?_
  . exact⟨66,[],rfl,bp,cO hl,xj,ah,fun p z=>nomatch z⟩
  . rintro i xs H2 lt (⟨ws,_,_,s2,_⟩:64)
    exact(bw,_,.ref C4,Eo,cM lt)
  . rintro i xs H2 v H3 lt (⟨ws,rfl,wl,s2,hl2,he,hw⟩:66) ⟨rfl,hv⟩ N hN
    ext zcM Eo;ext qJ q hq hv';refine xnw ?_;refine hte q _ _ (eF ⟨?_,?_,hN _ _ ⟨66,ws++[(p,cu,TR)],ah,jQ,?_,xj,?_,?_⟩⟩)
    . show(aB,ku hl2 hp,hl2)
    . show(aB,Za,JQ wl (ZJ lt (ZD hn ap)))
    . intro b u e
      show(cY,gY hl,ku Fv hp,Fv)
    . rw[ZS,hq,Zq,he]
      simp
    . intro p' hp'
      rcases Z3.mp hp' with z|z
      . have e:=hw p' z
        show(cY,ua e hl2,FP,e)
      . have:=vO
        ext rE;show(rC,xb hl2 hp,xj)
  . rintro xs H2 (⟨ws,rfl,_,s2,hl2,he,hw⟩:66)
    rw[Jf] at he;show(aO,dI Eo ah,fin H2 ws s2 hl2 he hw)
noncomputable abbrev ck (c:iW):dW:=[.inl c.1,.inl c.2]
theorem xvm {c d:iW} (h:ck c=ck d):c=d:=by
 ext vK b c;obtain⟨a',b'⟩:=d;simp only[ck,Qz.injEq,Qh.injEq,and_true] at h;rw[h.1,h.2]
theorem xmi {d:Addr}{H:Hp}{cs:jT}{qs:ao} (cl:Br) (hd:bz d):∀(kvs0:dC),kvs0.length+cs.length<1000 ->
    ∃ kvs,xd7 d (j8 H d kvs0) zjk (j8 H d kvs)/\∀ c:iW,(gM (valV kvs (ck c)))↔c∈cs\/(gM (valV kvs0 (ck c))):=by
  induction cl with
  | nil=>exact fun kvs0 _=>⟨kvs0,.nil,fun c=>ah⟩
  | @cons c q cs qs h _ ih =>
    intro kvs0 hl;have hq:upd H d (.dT kvs0) q=some (.tup ((ck c).map kV)):=by
      show(aB,ku h hd,h)
    have hp:=DPut.t (k:=ck c) (v:=TR) (xj (H:=H) (a:=d) (o:=.dT kvs0)) hq (ZJ (HW hl:kvs0.length<1000) ap);rw[xed] at hp;have l2:=xbp kvs0 (ck c) (.bl true);show(af,kvs,dp,mem,ih (putK kvs0 (ck c) (.bl true)) (HW hl));show(dc,kvs,dJ hp dp,bZ c');rw[mem c',xcn];by_cases e:ck c'=ck c
    . have:=xvm e
      ext rE;simp
    . show(jF,ne,c',c,e (fW z))
      ext dB e;simp[ne]
noncomputable def xof (H:Hp) (o:cX iW) (v:V):Prop:=(Tn,o,none,∃ c q,o=some c/\v=cu/\Nl)
inductive xux (t:Adr) (vs:ag) (H:Hp) (Q:VK) (_:XK):Prop
 | mk (a dp do_:Addr) (pw ph:Int) (ps:aw) (o1 o2:Addr) (n1 n2:Str) (p1 p2:Pt) (b1 b2:Bool) (r1 r2:Int) (e_:vs=(vG aA o1 o2)) (r_:Pic t H a dp do_ pw ph ps/\(au,(eR o1 (Cd,.str n1,b1,r1)),(eR o2 (Cd,.str n2,b2,r2)),(bE,qQ n1,xZ (fun p=>cC p.nm n1) p1,1<=r1,(au,r1<=ph,1<=p1.x,p1.x<=pw,1<=p1.y,p1.y<=ph)),(bE,qQ n2,xZ (fun p=>cC p.nm n2) p2,1<=r2,(au,r2<=ph,1<=p2.x,p2.x<=pw,1<=p2.y,p2.y<=ph)),∀ H' v,cL->xof H' (Geo.meet zli VB) v->CP))
theorem xim (T:aX):FnOk true P w K mg base aU 7 t.f_meeting t.d_meeting Dl (xux t):=by
 refine T.F_meeting.okn (k:=6) xby (aY h) (fun cdv A outer s H vs Q E hr h=>?_)
 .obtain ⟨a,dp,do_,pw,ph,ps,o1,o2,n1,n2,p1,p2,b1,b2,r1,r2,rfl,_⟩:=h;rfl
 .obtain ⟨a,dp,do_,pw,ph,ps,o1,o2,n1,n2,p1,p2,b1,b2,r1,r2,rfl,h⟩:=h;refine⟨_,xh (Dw 2 3 xby.nd zoA)
   (xh (pS 6 xby.nd (Gu (xa7 rfl (xas (zs:=["cell"]) (ys:=[]) (fr:=[]) (N0:=["picture", "one", "other", "name", "side", "row", "theirs", "cell"]) (sc0:=xl xew) aP rfl rfl rfl) (xab (pC (ok_av T) hr T.g_av T.F_av.kp T.b_av (dR 0 (eS 3 4 5)))) jn jb eB (mR (fM 0 (xc4))))))
   (xh (Dw 1 3 xby.nd zoA)
   (xh (iS (xab (pC (ok_av T) hr T.g_av T.F_av.kp T.b_av (dR 0 (eS 3 4 5)))) 7 xby.nd (kO (xdn (xf5 kf om (pv 6))) (tf 7)))
   (dH (xb4))))),?_⟩
  refine sq5 ?_; intros; obtain⟨pic,ho1,ho2,⟨m1,f1,u1,v1,g1⟩,⟨m2,f2,u2,v2,g2⟩,q⟩:46:=h;show(bU,eD o2 ho2,⟨a,dp,do_,pw,ph,ps,n2,p2,b2,r2,rfl,⟨47,pic,m2,f2,u2,v2,g2,fun H1 l1 qs s1 hl1 cl1 ql1=>um l1 hl1 l hl⟩⟩);refine xqn hl1 hl aa (fun q H2 R k=>E5) fun H2 ws s2 hl2 he hw=>?_;refine⟨l,ws,rfl,hl2,hw,am d hd⟩;show(af,kvs,dps,mem,xmi (cl1.keep (Same.tups s2)) hd [] (by have:=cl1.len; simp; omega));show(Xi,_,he);show(ay,s3,gG (j8 H2 d kvs),xv (s1.trans s2) hd,eD o1 (qm ho1));ext M0; refine⟨a,dp,do_,pw,ph,ps,n1,p1,b1,r1,rfl,⟨47,nT s3,m1,f1,u1,v1,g1,fun H4 l4 qs4 s4 hl4 cl4 ql4=>oX l4 hl4 ?_⟩⟩;have hd4:H4 d=some (.dT kvs):=lD xj;refine xbh (xs:=qs4.map V.ref) (Pv:=fun i Z H5=>∃ v7:bP,Z=[cP,aT o1,aT o2,some (.str n1),some (za b1),bv r1,zI,v7]/\H4=H5 /\
   ∀ c∈(zli).take i,c∉VB) (kg _ rfl ah) (fun _ _ _ _ ⟨_,_,z,_⟩=>by rw[<- z]; exact SqL.of hl4) ?_ ?_
  .rintro i v Z _ hv (⟨v7,rfl,rfl,no⟩:63);ext M3; rw[Zf] at hv;ext qJ q7 hq7 hv;show(af,c,hc,hcq,cl4.get hq7);have mm:=mem c;refine⟨d,_,rfl,(Cc,ck c,hd4,hcq),_,rfl,ite2 l0 l0⟩
   .have hm:c∈VB:=by
     rcases mm.mp z with y|y
     .exact y
     .simp [valV] at y
    exact (q _ _ ID (.inr (cN,c,q7,Geo.meet_at hc no hm,hcq)))
   .refine (kg,_,rfl,am c' hc');rw[ZS,hc] at hc';rcases Z3.mp hc' with y|y
    .exact no c' y
    .have:c'=c:=by simpa using y
     ext rE;exact fun y=>z (mm.mpr (.inl y))
  .rintro Z _ (⟨v7,rfl,rfl,no⟩:63);rw[Za,cl4.len,Jf] at no;exact q _ _ ID (.inl (fR,Geo.meet_no no))
theorem lkO {w h:Int}{dp do_:Addr}:(DZ).lookup (eO "opened")=some (.ref do_):=by
 show(UZ,"opened");show(zlO,"height",[NZ,DA]);show(zlO,"placed",[DA]);show(DP,"opened")
noncomputable abbrev Seat:=IE
noncomputable def xt (s:Seat):dW:=[.inr (xam s.1),.inl dS]
noncomputable def xar (s:Seat):ag:=[za s.1,.int dS]
theorem xe3 {a b:Bool} (h:xam a=xam b):a=b:=by
 cases a<;>cases b<;>first|rfl|ext dy h aP
theorem xdf {s t:Seat} (h:xt s=xt t):s=t:=by
 simp only[xt,Qz.injEq,Jd.injEq,Qh.injEq] at h;exact Prod.ext (xe3 h.1) (aW h)
noncomputable def Sts (H:Hp) (do_:Addr) (ss:aj):Prop:=∃ kvs:dC,(oS do_)/\kvs.map (·.1)=Ku/\ss.Nodup/\ss.length<=32
theorem Sts.same {H H':Hp}{do_:Addr}{ss:aj} (s:cL) (h:sH):Sts H' do_ ss:=let ⟨k,e,r⟩:=h; ⟨k,qV,r⟩
theorem xpf {kvs:dC}{ss:aj} (e:kvs.map (·.1)=Ku) {s:Seat} (h:s∉ss):Hu=none:=by
 cases z:Hu with
 | none=>rfl
 | some v =>
  obtain⟨i,hi⟩:=xmv z;have m:iy∈kvs.map (·.1):=Ze.mpr (dY,Zm hi);rw[e] at m;ext pG t ht et m;show(dy,ht,(av,xdf et,h))
theorem xtn {kvs:dC}{ss:aj} (e:kvs.map (·.1)=Ku) {s:Seat} (h:uh):∃ v,wD Hu:=by
 cases z:Hu with
 | some v=>show(aO,v,rfl)
 | none =>
  have m:iy∈kvs.map (·.1):=by rw[e]; exact Ze.mpr (b5 s h)
  show(af,p,hp,ep,Ze.mp m);show(je,a,xdr (xt s) kvs,z,a);have:(kvs.any fun kv=>cJ (uB=xt s))=true:=J9.mpr ⟨p,hp,by simpa using ep⟩;ext cE this a
inductive xag (H:Hp):bM aj ao
 | nil:xag H [] []
 | cons {s:Seat}{q:Addr}{ss:aj}{qs:ao} (h:xE) (r:EH):xag H (s::ss) rG
theorem xag.keep {H H':Hp} (k:kM) {ss:aj}{qs:ao} (h:EH):xag H' ss qs:=by
 induction h with
 | nil=>ext gW
 | cons h _ ih=>exact .cons (k _ _ h) ih
theorem xag.len {H:Hp}{ss:aj}{qs:ao} (h:EH):qs.length=ss.length:=by
 induction h with
 | nil=>rfl
 | cons _ _ ih=>ext oA
noncomputable def xb9 (s t:Seat):Prop:=(s.1=true/\t.1=false)\/(s.1=t.1/\dS<t.2)
theorem xlx {s t:Seat} (h:lexK (xt s) (xt t)=true):xb9 s t:=by
 ext vK i s;ext FY j t;unfold xt at h;unfold lexK at h;by_cases e:xam a=xam b
 .show(gH,Ga e);unfold lexK at h;by_cases e2:i=j
  .show(gH,Ga e2);unfold lexK at h;cases h
  .show(gH,(jR,e2 (Qh.inj z)));show(jy,xe3 e,of_decide_eq_true h)
 .show(gH,(jR,e (Jd.inj z)));cases a<;>cases b
  .ext iP e
  .show(dy,h,(by show ¬ xdk (.inr (xam false)) (.inr (xam true))=true; ext Fk))
  .ext cH yW
  .ext iP e
noncomputable def unK:dW->Seat
 | [.inr s,.inl r]=>zeM s
 | _=>vC
theorem xfw (s:Seat):unK iy=s:=by
 ext FY r s;cases b
 .show (zeM (eO "right"))=_;rw[decide_eq_false aP]
 .show (zeM (eO "left"))=_;rw[decide_eq_true rfl]
inductive xuu (t:Adr) (vs:ag) (H:Hp) (Q:VK) (_:XK):Prop
 | mk (a dp do_:Addr) (pw ph:Int) (ps:aw) (ss:aj) (b:Bool) (r:Int) (e_:vs=[aA,rA,.int r]) (r_:Pic t H a dp do_ pw ph ps/\sH/\(au,1<=r,r<=ph,jf∉ss,ss.length<32,∀ H',(bb,eC do_ nA qz,Pic t H' a dp do_ pw ph ps,Sts H' do_ (ss++[jf]),yP)))
inductive xt2 (t:Adr) (vs:ag) (H:Hp) (Q:VK) (_:XK):Prop
 | mk (a dp do_:Addr) (pw ph:Int) (ps:aw) (ss:aj) (e_:vs=fF) (r_:Pic t H a dp do_ pw ph ps/\sH/\∀(l:Addr) (ss':aj) (qs:ao),(bg,jD,xag H ss' qs,ss'.Perm ss,ss'.Pairwise xb9,Q bQ (d4 l G7)))
theorem Pic.but {t:Adr}{H H':Hp}{a dp do_:Addr}{w h:Int}{ps:aw}{kvs:dC} (e:oS do_) (s:eC do_ nA qz) (p:Pic t H a dp do_ w h ps):Pic t H' a dp do_ w h ps :=
 ⟨let ⟨dx,x⟩:=p.ins; kZ XV,let ⟨k,x,q⟩:=p.pl; ⟨k,XV,q.keep fun b xs x=>XV⟩,p.w1,p.w2,p.h1,p.h2,p.len⟩
theorem ok_k (T:aX):FnOk true P w K mg base aU 5 t.f_k t.d_k Om (xuu t):=by
 refine T.F_k.okn (k:=4) sc_k (aY h) (fun cdv A outer s H vs Q E hr h=>?_)
 .obtain ⟨a,dp,do_,pw,ph,ps,ss,b,r,rfl,_⟩:=h;rfl
 .obtain ⟨a,dp,do_,pw,ph,ps,ss,b,r,rfl,h⟩:=h;refine⟨_,xh (xay (xae bD T.c_a T.m_e (ok_e T) aZ T.b_e .nil xp B4))
   (xh (F4 (xdn (xf5 kf (xad B4) bT)))
   (xk (qY bT (xad B4) (xc4)))),?_⟩
  refine sq3 ?_; intros; obtain⟨pic,st,r1,r2,no,len,q⟩:47:=h;ext xC dx;obtain⟨kvs,hk,ek,nd,l32⟩:64:=id st;refine⟨a,dx,_,rfl,hp,bL,a,dp,do_,pw,ph,ps,b,r,rfl,pic,r1,r2,vh⟩;ext kB q1 hq1;generalize eu:Gq H1 q1=H2;ext fJ s2 hq1 g2;show(ae,hk2,RT hk,hp2,RT hp);have n0:valV kvs (xt jf)=none:=xpf ek no;show(bU,⟨a,_,dx,_,_,rfl,zbx ⟨do_,none,rfl,(dE n0 (Cc,xt jf,hk2,g2)),false,rfl,vS⟩⟩,⟨a,_,dx,_,_,rfl,⟨46,hp2,T.c_a,T.n_a6,lkO,ng,am q3 hq3⟩⟩);generalize eu:Gq H2 q3=H3;ext fJ s3 hq3 g3;have kl:kvs.length=ss.length:=by
   show(wz,vz ek)
  refine(kW,do_,DPut.t (k:=xt jf) (qm hk2) g3 (zp kvs.length 33));have bt:eC do_ nA (rP H3 do_ (.dT (putK kvs (xt jf) (.bl true)))):=fun c u nc e=>by
   show(ir,nc,qm (s2 _ _ (s1 _ _ e)))
  refine q _ bt (Pic.but hk bt pic) ⟨64,_,xj,?_,?_,?_⟩
  .rw [xb2 _ n0,Zq,Zq,ek];rfl
  .rw [ZH];show(aE,nd,ah,fun x hx y hy=>(av,Zp.mp hy,fun e=>no (e▸hx)))
  .show(DY,ss.length,32)
theorem ok_q (T:aX):FnOk true P w K mg base aU 1 t.f_q t.d_q jv (xt2 t):=by
 refine T.F_q.okn (k:=0) sc_q (aY h) (fun cdv A outer s H vs Q E hr h=>?_)
 .obtain ⟨a,dp,do_,pw,ph,ps,ss,rfl,_⟩:=h;rfl
 .obtain ⟨a,dp,do_,pw,ph,ps,ss,rfl,h⟩:=h;show(zV,xaw (xli rfl) rfl T.n_sorted PyProof.Rows.Boot.«sorted» (xa bT (xi)));ext fO pic st q h;ext xC dx;obtain⟨kvs,hk,ek,nd,l32⟩:64:=id st;have kl:kvs.length=ss.length:=by
   show(wz,vz ek)
  refine⟨a,_,dx,_,_,rfl,qZ hp T.n_a6 lkO ⟨do_,kvs,[false,true],rfl,hk,aa,am p hp',ap,fun l ts fr tm pm pw'=>?_⟩⟩
  .have m:aK∈kvs.map (·.1):=Ze.mpr (b5 p hp');rw[ek] at m;show(BH,s,e,Ze.mp m);rw[<- e];rfl
  rw[ek] at pm;have back:∀ t∈ts,zol:=fun t ht=>by
   show(BH,s,e,Ze.mp (pm.mem_iff.mp (Ze.mpr (b5 t ht))));rw[<- e,xfw]
  have z:=q l ((ts.map (·.1)).map unK) (ts.map (·.2)) fr ?_ ?_ ?_
  .rw [Zw] at z;exact z
  .clear pm pw'
   induction ts with
   | nil=>ext gW
   | cons t ts ih =>
    show(zhl,(pE,tm x zh),(pE,back x zh))
  .have z2:=pm.map unK;have e2:(Ku).map unK=ss:=by
    rw[Zw,zkT];exact YB _
   ext bO e2 z2 z2
  .rw [Ja] at pw';rw[Zw,Ja];refine pw'.imp_of_mem fun {x y} hx hy hxy=>xlx ?_;show lexK (xt (unK aN)) (xt (unK y.1))=true;show(cY,back x hx,back y hy,hxy)
noncomputable def SsOk (h:Int) (ss:aj):Prop:=ss.Nodup/\HS/\∀ s∈ss,1<=dS/\dS<=h
theorem xag.get {H:Hp}{ss:aj}{qs:ao} (h:EH) {i:Nat}{q:Addr} (e:BS):∃ s,(aF ss s)/\xE:=by
 induction h generalizing i with
 | nil=>ext lw
 | @cons s q' ss qs h _ ih =>
  cases i with
  | zero =>
   ext KL s
  | succ j=>ext rh
theorem xqq {α β:Type}{f:α->β} (inj:∀ a b,f a=f b->a=b) {l:b7} (h:l.Nodup):(l.map f).Nodup:=by
 rw[List.nodup_iff_pairwise_ne,Ja];exact h.imp fun hne e=>hne (inj _ _ e)
theorem xag.snoc {H:Hp}{ss:aj}{qs:ao} (h:EH) {s:Seat}{q:Addr} (e:xE):xag H (ss++[s]) Ll:=by
 induction h with
 | nil=>ext Es
 | cons h _ ih=>ext yo
theorem xbz {α:Type}{R:bM α α} (as:∀ a b,R a b->¬ R b a):∀{l l':b7},(bb,l.Perm l',l.Pairwise R,l'.Pairwise R,l=l')
 | [],l',p,_,_=>(Yr.nil_eq p)
 | a::t,[],p,_,_=>absurd p.symm (by intro z; exact absurd (Yr.nil_eq z) ah)
 | a::t,b::t',p,h,h'=>by
  show(ae,h1,Wy.mp h,h2,Wy.mp h');by_cases e:a=b
  .ext cZ;rw[xbz as ((List.perm_cons a).mp p) h1.2 h2.2]
  .have ma:a∈t':=by
    have:=p.mem_iff.mp (Zn (a:=a) (l:=t));rcases dU this with z|z
    .ext dy z e
    .exact z
   have mb:b∈t:=by
    have:=p.mem_iff.mpr (Zn (a:=b) (l:=t'));rcases dU this with z|z
    .show(dy,z.symm,e)
    .exact z
   show(dy,h2.1 a ma,as _ _ (h1.1 b mb))
theorem xck (a b:Seat) (h:xb9 a b):¬ xb9 b a:=by
 rintro (⟨x,y⟩|⟨x,y⟩)<;>rcases h with⟨z,w⟩|⟨z,w⟩
 .ext zS x w
 .rw [x,y] at z; cases z
 .rw [z,w] at x; cases x
 .omega
noncomputable def xcm (s:Seat):DV:=.tup [za s.1,.int dS]
theorem xqo {s t:Seat}:xcm s=xcm t↔s=t:=by
 constructor
 .intro h
  unfold xcm at h;ext zfZ;exact Prod.ext (xe3 h.1) h.2
 .intro h
  rw[h]
theorem xro (s t:Seat):dEq (xcm s) (xcm t)=(cC s t):=xgu rfl rfl xqo
theorem xep (ss:aj) (s:Seat):(ss.map xcm).any (aC,dEq z (xcm s))=(cJ uh):=by
 ext OR
 .ext qI z hz e;ext fL t ht hz;rw[xro,decide_eq_true_iff] at e;exact e▸ht
 .intro h
  exact(dI,Ze.mpr (b5 s h),xcf _)
theorem xg1 {K:Zd}{H:Hp}{q:Addr}{s:Seat} (h:xE):iQ 1 cu (xcm s):=by
 ext zjV
 match j,h1,h2 with
 | 0,h1,h2=>ext zaA
 | 1,h1,h2=>ext Hb
 | j+2,h1,h2=>simp[xar] at h1
theorem xag.dv {K:Zd}{H:Hp}{ss:aj}{qs:ao} (h:EH) {l:Addr} (e:wW):iQ 2 bQ (.lst (ss.map xcm)):=by
 ext Uj;ext zeD;exact xg1 e'
theorem xag.pick {H:Hp}:zgF aj (∀(j:Nat) (y:V) (s:Seat),(Eh,ss,s,∃ q,y=cu/\xE)) IA
 | [],[],_,_=>jB [] .nil
 | [],df,h,_=>ff
 | df,[],h,_=>ff
 | s::ss,jH,h,k=>by
  show(af,q,e,hq,k 0 y s rfl rfl);show(af,rs,e2,r,xag.pick (ss:=ss) (ys:=ys) xT (FB,y,s,k hV y s qx AH))
  show(aE,q::rs,fQ e e2,dJ hq r)
theorem xky {α:Type} [AX]:∀{l m:b7},l.Nodup->(∀ x∈l,x∈m)->l.length<=m.length
 | [],m,_,_=>fV
 | a::l,m,nd,sub=>by
  obtain⟨h1,h2⟩:=ZB.mp nd;show(ae,ha,sub a Zn,z,xky (l:=l) (m:=m.erase a) h2 (pE,(Wm (fun e:x=a=>h1 (e▸hx))).mpr (sub x zh)));rw[List.length_erase_of_mem ha] at z;have:=List.length_pos_of_mem ha;rw[ZL];omega
noncomputable def ptD (p:Pt):DV:=.tup [BU,.int p.x,.int p.y,.str p.sd,.int p.lo,.int p.hi]
theorem xxc {K:Zd}{H:Hp}{q:Addr}{p:Pt} (h:S7):iQ 1 cu (ptD p):=by
 ext zjV
 match j,h1,h2 with
 | 0,h1,h2=>ext zaA
 | 1,h1,h2=>ext Hb
 | 2,h1,h2=>ext Hb
 | 3,h1,h2=>ext zaA
 | 4,h1,h2=>ext Hb
 | 5,h1,h2=>ext Hb
 | j+6,h1,h2=>simp[ptV] at h1
theorem PtsL.dv {K:Zd}{H:Hp}{ps:aw}{qs:ao} (h:Ey) {l:Addr} (e:wW):iQ 2 bQ (.lst (ps.map ptD)):=by
 ext Uj;ext zeD;exact xxc e'
structure PtOk (w h:Int) (p:Pt):Prop where
 nm:qQ p.nm
 x1:1<=p.x
 x2:p.x<=w
 y1:1<=p.y
 y2:p.y<=h
 sd:p.sd="left"\/p.sd="right"\/p.sd="both"
 l1:1<=p.lo
 l2:p.lo<=p.hi
 l3:p.hi<=h
structure xa8 (w h:Int) (ps:aw):Prop where
 ok:∀ p∈ps,PtOk w h p
 nn:(ps.map (·.nm)).Nodup
 nx:(ps.map (·.x)).Nodup
 ny:(ps.map (·.y)).Nodup
 le:zcF
theorem xc6 {α β:Type} (f:α->β) {ps:b7} (nd:(ps.map f).Nodup) {i:Nat} (hi:i<ps.length):∀ p∈Td,f p≠f ps[i]:=fun p hp e=>by
 have z:=nd;rw[<- Y7 i ps,JC hi,Zq,Zo,ZH] at z;exact z.2.2 _ vw _ Zn e
theorem xto {α β γ:Type}{f:α->β}{g:α->γ}{k:β->γ} (e:∀ a,g a=k (f a)) (inj:MQ) {l:b7} (h:(l.map f).Nodup):(l.map g).Nodup:=by
 have z:=xqq inj h;rw[Zw] at z;show(aB,(mh,g,k∘f,funext e),z)
theorem xfg {ps:aw} (nd:(ps.map (·.nm)).Nodup) {p:Pt} (hp:ub):xZ (fun q=>cC q.nm p.nm) p:=by
 induction ps with
 | nil=>simp at hp
 | cons a ps ih =>
  ext vg;rcases Lv with z|z
  .subst z;rw[JA ah]
  .have ne:¬ a.nm=p.nm:=fun y=>nd.1 (y▸Ze.mpr (b5 p z));show(aB,Y0 (by simpa using ne),ih gF z)
noncomputable def xa1 (p:Pt) (s:Seat):Bool:=((cC p.sd "both")||(cJ (p.sd=xam s.1)))&&((cJ (p.lo<=dS))&&(cJ (dS<=p.hi)))
theorem xig (sd w:Str):inV (.str sd) [.str "both",.str w]=((cC sd "both")||(cC sd w)):=by
 have e:∀ a b:Str,F1=(cC b a):=fun a b=>by
  ext zbG beq_iff_eq;exact eq_comm
 show (((eO "both") == sd)||((w == sd)||false))=_;rw[Bool.or_false,e,e]
noncomputable def xgh (s2:aj) (p:Pt) (i:Nat):Bool:=match s2[i]? with|some s=>Lk|none=>false
theorem xf7 {s2:aj}{p:Pt}{s:Seat}{i:Nat} (h:aF s2 s):xgh s2 p i=Lk:=by
 unfold xgh;rw[h]
inductive xv8 (t:Adr) (vs:ag) (H:Hp) (Q:VK) (_:XK):Prop
 | mk (a dp do_:Addr) (pw ph:Int) (ps:aw) (ss:aj) (pt:Pt) (b:Bool) (i:Int) (e_:vs=[aA,iX,rA,cB]) (r_:Pic t H a dp do_ pw ph ps/\sH/\(Ho,qQ pt.nm,Vh,1<=i,i<=ph,((ld (b,i) ss)&&xa1 pt (b,i))))
inductive xva (t:Adr) (vs:ag) (H:Hp) (Q:VK) (_:XK):Prop
 | mk (a dp do_:Addr) (pw ph:Int) (ps:aw) (ss:aj) (pt:Pt) (e_:vs=[aA,iX]) (r_:Pic t H a dp do_ pw ph ps/\(au,sH,SsOk ph ss,qQ pt.nm,Vh,∀(H':Hp) (l:Addr) (srt:aj) (rs:ao),cL->jD->(lT,Iy,DQ,zjm,xag H' XF rs,bQ)))
theorem ok_v (T:aX):FnOk true P w K mg base aU 5 t.f_v t.d_v Dg (xv8 t):=by
 refine T.F_v.okn (k:=4) sc_v (aY h) (fun cdv A outer s H vs Q E hr h=>?_)
 .obtain ⟨a,dp,do_,pw,ph,ps,ss,pt,b,i,rfl,_⟩:=h;rfl
 .obtain ⟨a,dp,do_,pw,ph,ps,ss,pt,b,i,rfl,h⟩:=h;refine⟨_,xh (xay (xae bD T.c_a T.m_d (ok_d T) aZ T.b_d .nil xp iM))
   (xh (xay (xae bD T.c_a T.m_e (ok_e T) aZ T.b_e .nil xp BY))
   (xh (OB (wg bT eJ) 4 sc_v.nd (xo (pN 5 sc_v.nd) (xo (pN 6 sc_v.nd) (gK 7 sc_v.nd 8))))
   (dH (xc1 (xvu (xf5 kf (xad BY) bT)) (xc1 (xb8 xi7 (pv 6) (xad (xa (xbu) (jj 2))) nR) (xei (xfu xg4 xg4 om iu (pv 8)))))))),?_⟩
  refine sq4 ?_; intros; obtain⟨pic,st,hn,hf,i1,i2,q⟩:47:=h;ext Da dx0;show(bU,⟨a,dx0,_,rfl,hp,bL,a,dp,do_,pw,ph,ps,pt.nm,pt,rfl,pic,hn,hf,?_⟩,⟨a,dx0,_,rfl,hp,bL,a,dp,do_,pw,ph,ps,b,i,rfl,pic,i1,i2,vh⟩);show(af,q0,e0,hq0,pl.find hf);show(Ag,hp1,nF,hk1,zl,⟨a,_,_,_,_,rfl,qZ hp1 T.n_a3 lkP ⟨dp,LP,rfl,(dE,e0,vF sZ hk1),q0,_,rfl,eA (jM hq0),rfl,?_⟩⟩);ext kB q1 hq1;generalize eu:iB H1 q1 rA cB=H2;ext fJ s2 hq1 g2;show(ae,hp2,jp hp1,s02,s1.trans s2);obtain⟨ko,hko,ek,nd,l32⟩:64:=id st;show(ae,hko2,s02 _ _ hko,qq,q);by_cases cin:(b,i)∈ss
  .obtain ⟨v,hv⟩:=xtn ek cin;refine⟨a,_,_,_,_,rfl,zbx ⟨do_,gz,rfl,(dE hv (Cc,xt (b,i),hko2,g2)),true,rfl,iteT ?_⟩⟩;ext kB q3 hq3;show(zkh,H2,qq H3 (s02.trans s3));rw[uU cin,JH] at z;ext zhY
   .ext MZ
    rw[c,JH] at z;show(iG,lK c2 c2)
    .rw [c2,JH] at z;exact z
    .ext zqA
   .ext MZ
    ext tu T0 JV
  .have n0:valV ko (xt (b,i))=none:=xpf ek cin;have z:=qq H2 s02;rw[uR cin,JV] at z;exact⟨a,_,_,_,_,rfl,zbx ⟨do_,none,rfl,(dE n0 (Cc,xt (b,i),hko2,g2)),false,rfl,iteF z⟩⟩
theorem ok_h (T:aX):FnOk true P w K mg base aU 6 t.f_h t.d_h jP (xva t):=by
 refine T.F_h.okn (k:=5) sc_h (aY h) (fun cdv A outer s H vs Q E hr h=>?_)
 .obtain ⟨a,dp,do_,pw,ph,ps,ss,pt,rfl,_⟩:=h;rfl
 .obtain ⟨a,dp,do_,pw,ph,ps,ss,pt,rfl,h⟩:=h;refine⟨_,xh (xay (xae bD T.c_a T.m_d (ok_d T) aZ T.b_d .nil xp iM))
   (dH (xa7 rfl (xas (zs:=["side", "row"]) (ys:=["name", "self"]) (fr:=[1,0]) (N0:=jP) (sc0:=xl s_h) aP rfl rfl rfl) (xab (xbi bD T.c_a T.m_q (ok_q T) aZ T.b_q .nil xp)) Ma (xb7 G8) (fun _ _ _ _ _=>xgy (xbg (xae iu T.c_a T.m_v (ok_v T) aZ T.b_v .nil xp (eS 2 0 1)))) (mR B5))),?_⟩
  refine sq2 ?_; intros; obtain⟨pic,st,sok,hn,hf,q⟩:46:=h;ext xC dx0;show(bU,⟨a,dx0,_,rfl,hp,bL,a,dp,do_,pw,ph,ps,pt.nm,pt,rfl,pic,hn,hf,?_⟩,⟨a,dx0,_,rfl,hp,bL,a,dp,do_,pw,ph,ps,ss,rfl,pic,st,fun l1 srt qs1 fr1 sl1 pm1 pw1=>?_⟩);show(GT,d4 l1 (.lst (qs1.map V.ref)),fr1);show(ae,sl1',sl1.keep (Same.tups s1),ql,sl1.len);show(tY,sl32,zbZ,(av,pm1.length_eq,aW sok),um l1 g1 l2 hl2,xeb (aV g1) (gE,zp qs1.length 33) hl2 (xgh srt pt) (wB,zaz (aF srt s)) (fun i y H H' tp ⟨s,q,e1,e2,e3⟩=>(bC,s,q,e1,e2,lC e3)) (fun i x H4 hx s4 N M hN hM=>?_) (fun ys H4 s4 el4 ly f4=>?_))
  .rw [Zf] at hx;ext Kj;show(af,s0,hs0,ep,sl1'.get ho);have s04:=s1.trans s4;have min:s0∈ss:=pm1.mem_iff.mp (Zm hs0);obtain⟨sr1,sr2⟩:=(rK).2 s0 min;show(bU,eD o (lD ep),⟨a,dx0,_,rfl,s04 _ _ hp,bL,a,dp,do_,pw,ph,ps,ss,pt,s0.1,s0.2,rfl,nT s04,st.same s04,hn,hf,sr1,sr2,am H5 s5⟩)
   .refine Fy
    .ext ziu;ext kB q6 hq6;exact hN _ _ (s5.trans (cO hq6)) (av,xf7 hs0,c) (cN s0 q6 hs0 xj)
    .ext ziu;exact hM _ s5 (by rw[xf7 hs0]; exact Jh.mpr c)
  .have fi:=xnb (xa1 pt) (as:=srt) (p:=xgh srt pt) (hU,s,hs,xf7 hs);rw[Za,ql] at ly f4;obtain⟨rs4,e4,sts4⟩:62:=xag.pick (H:=H4) (ss:=XF) (ys:=ys) (cK ly fi.1) (fun j y s hy hs=>by
    have hj:j<((Z1 srt.length).filter (xgh srt pt)).length:=by
     show(ja,ly,ft hy)
    obtain⟨s',q',h1,h2,h3⟩:83:=f4 j y _ hy C5;rw[fi.2 j _ C5,hs] at h1;ext Aa h1 q' h2 h3)
   subst e4;exact q H4 l2 srt rs4 (s1.trans s4) (s1.free hl2) pm1 pw1 el4 sts4
noncomputable def scD:V->DV
 | cB=>cB
 | rM=>rM
 | .str s=>.str s
 | _=>.non
noncomputable def scV:Lq
 | pK=>true
 | rN=>true
 | kX=>true
 | .non=>true
 | _=>false
theorem xx0 {K:Zd}{H:Hp}{v:V} (h:scV v=true):iQ 0 v (scD v):=by
 cases v with
 | int i=>exact .int
 | bl b=>exact .bl
 | str s=>exact .str
 | non=>exact .non
 | _=>cases h
theorem xk9 {K:Zd}{H:Hp}{xs:ag} (f:xs.all scV=true) (j:Nat) (x:V) (d:DV) (h1:b9 xs x) (h2:b9 (xs.map scD) d):iQ 0 x d:=by
 rw[Zf,h1] at h2;cases h2;exact xx0 (Ys.mp f x (Zm h1))
structure Dr (t:Adr) (H:Hp) (a dp do_:Addr) (w h:Nat) (ps:aw) (ss srt:aj):Prop where
 pic:Pic t H a dp do_ dP im ps
 sts:sH
 ok:sU
 pm:Iy
 lt:DQ
 nm:∀ p∈ps,(qQ p.nm)
theorem Dr.same {t:Adr}{H H':Hp}{a dp do_:Addr}{w h:Nat}{ps:aw}{ss srt:aj} (d:Dr t H a dp do_ w h ps ss srt) (s:cL):Dr t H' a dp do_ w h ps ss srt:=⟨Pic.same s d.pic,d.sts.same s,d.ok,d.pm,d.lt,d.nm⟩
theorem xpy {x d:Int} (h:0<d) (h2:d<=4294967296):-nK<x % d/\x % d<nK:=by
 show(ae,a,QZ x (gg,d≠0),b,Wz x h);ext aO aa aa
theorem xbm (x:Int) {d:Int} (h:0<d):0<=x % d/\x % d<d:=⟨QZ _ aa,Wz _ h⟩
inductive xut (K:Zd) (vs:ag) (H:Hp) (Q:VK) (_:XK):Prop
 | mk (a:Addr) (ns:bK) (k:Int) (e_:vs=[aA,.int k]) (r_:(bE,Rv,0<=k,k<kY,∀ c:Int,lW c))
noncomputable def abc:Str:="abcdefghijklmnopqrstuvwxyz"
theorem xs4:abc.cps.toList=(Z1 26).map (97+·):=aP
noncomputable def ltr (i:Int):Str:=⟨#[EW]⟩
theorem xs9 {i:Int} (h0:0<=i) (h1:i<26):atI abc.cps.toList i=some EW:=by
 show(ia,j,JI h0);have lt:j<26:=aa
 refine xdu ?_;rw[xs4,Zf,Yb lt];rfl
theorem xtw {i j:Int} (hi:0<=i) (hj:0<=j) (h:ltr i=ltr j):i=j:=by
 unfold ltr at h;show(zcl,congrArg (fun s:Str=>s.cps.toList) h)
theorem xra {i:Int} (h0:0<=i) (h1:i<26):qQ (ltr i):=by
 unfold isNm ltr;have g1:¬ ([EW]<[97]):=by rw[List.cons_lt_cons_iff]; rintro (z|⟨_,z⟩); omega; cases z
 have g2:¬ ([122]<[EW]):=by rw[List.cons_lt_cons_iff]; rintro (z|⟨_,z⟩); omega; cases z
 show ((cC 1 1)&&(!(cJ ([EW]<[97]))&&!(cJ ([122]<[EW]))))=true;rw[uR g1,uR g2];rfl
noncomputable def xx3:bK:=[1,3,5,7,9,11,15,17,19,21,23,25]
theorem ok_ao (T:aX):FnOk true P w K mg base aU 1 t.f_ao t.d_ao M6 (xut K):=by
 refine T.F_ao.okn (k:=0) sc_ao (aY h) (fun cdv A outer s H vs Q E hr h=>?_)
 .ext Hn a ns k
 .obtain ⟨a,ns,k,rfl,h⟩:=h;refine⟨_,xh (xan (pj xkl 1 (D6 xcj pQ)) (dH (xak xax bD eJ iD)) (x9))
   (dH (zu (IN 1))),?_⟩
  refine sq2 ?_; intros; ext Ej; ext jY hs k0 k1 q h;refine(dA,a,_,.inl hs,Cn);refine ite2 (bZ c) (bZ c)
  .have c':k<(bA ns.length):=DT
   show(ia,j,JI k0);have lt:j<ns.length:=aa
   exact dD a _ _ (n6,hs,xdu (fQ Zf jh),q _)
  .exact ⟨tW,q _⟩
noncomputable abbrev Pr:=Pt × IE
noncomputable def prV (p:Pr):ag:=Cd pD ij eI
inductive PrsL (H:Hp):bM aG ao
 | nil:PrsL H [] []
 | cons {p:Pr}{q:Addr}{ps:aG}{qs:ao} (h:AJ p) (r:sI):PrsL H (p::ps) rG
theorem PrsL.keep {H H':Hp} (s:kM) {ps:aG}{qs:ao} (h:sI):PrsL H' ps qs:=by
 induction h with
 | nil=>ext gW
 | cons h _ ih=>ext AC
theorem PrsL.len {H:Hp}{ps:aG}{qs:ao} (h:sI):zB qs.length:=by
 induction h with
 | nil=>rfl
 | cons _ _ ih=>ext oA
theorem PrsL.snoc {H:Hp}{ps:aG}{qs:ao} (h:sI) {p:Pr}{q:Addr} (e:AJ p):PrsL H Cg Ll:=by
 induction h with
 | nil=>ext Es
 | cons h _ ih=>ext yo
theorem PrsL.get {H:Hp}{ps:aG}{qs:ao} (h:sI) {i:Nat}{q:Addr} (e:BS):∃ p,(aF ps p)/\(AJ p):=by
 induction h generalizing i with
 | nil=>ext lw
 | @cons p q' ps qs h _ ih =>
  cases i with
  | zero =>
   ext KL p
  | succ j=>ext rh
structure PrOk (ps:aw) (w h:Int) (p:Pr):Prop where
 nm:qQ bH
 fd:zmR
 r1:1<=eI
 r2:eI<=h
 xy:(bE,1<=kE,kE<=w,1<=ou,ou<=h)
theorem xqr (qs:ao) (k:Nat):cutV (qs.map V.ref) (some (pL+1)) none=(qs.drop dk).map V.ref:=by
 unfold cutV;rw[(gg,(pL+1)=(dM dk)),HT.sIx_nat,HT.sIx_none,Za,<- Ql,<- Qk]
 congr 1
 by_cases c:dk<=qs.length
 .rw [zaq,Jx ah]
 .rw [Nat.min_eq_right aa,List.drop_length,QV aa];simp
theorem PrsL.drop {H:Hp}{ps:aG}{qs:ao} (h:sI) (k:Nat):PrsL H (ps.drop k) (qs.drop k):=by
 induction h generalizing k with
 | nil=>simpa using PrsL.nil
 | cons h r ih =>
  cases k with
  | zero=>exact .cons h r
  | succ k=>exact ih k
noncomputable def cel (w:Int) (p:Pr):jT:=Geo.cells w kE ou ij eI
noncomputable abbrev Tr:=Str × Str × iW
inductive TrL (H:Hp):bM j6 ao
 | nil:TrL H [] []
 | cons {p:Tr}{t q:Addr}{ps:j6}{ts:ao} (h:zlK) (hq:zmo) (r:R3):TrL H (p::ps) (t::ts)
theorem TrL.keep {H H':Hp} (s:kM) {ps:j6}{ts:ao} (h:R3):TrL H' ps ts:=by
 induction h with
 | nil=>ext gW
 | cons h hq _ ih=>ext zno
theorem TrL.len {H:Hp}{ps:j6}{ts:ao} (h:R3):zB ts.length:=by
 induction h with
 | nil=>rfl
 | cons _ _ _ ih=>ext oA
theorem TrL.snoc {H:Hp}{ps:j6}{ts:ao} (h:R3) {p:Tr}{t q:Addr} (e:zlK) (eq:zmo):TrL H Cg (ts++[t]):=by
 induction h with
 | nil=>exact .cons e eq .nil
 | cons h hq _ ih=>exact .cons h hq ih
noncomputable def xa9 (w:Int) (p:Pr):Int:=lenI w kE ou ij eI
theorem xqv {ps:aw}{w h:Int}{p:Pr} (o:PM) (hw:rH) (hh:rJ):-1000000<=xa9 w p/\xa9 w p<=1000000:=by
 obtain⟨_,_,r1,r2,x1,x2,y1,y2⟩:=o;unfold xa9 lenI;ext AN
inductive xtm (t:Adr) (vs:ag) (H:Hp) (Q:VK) (_:XK):Prop
 | mk (a dp do_ l:Addr) (pw ph:Int) (ps:aw) (prs:aG) (qs:ao) (e_:IY) (r_:(zjt,Pic t H a dp do_ pw ph ps,(prs.map (xa9 pw)).sum))
theorem xft (T:aX):FnOk true P w K mg base aU 6 t.f_total t.d_total iC (xtm t):=by
 refine T.F_total.okn (k:=5) xqw (aY h) (fun cdv A outer s H vs Q E hr h=>?_)
 .obtain ⟨a,dp,do_,l,pw,ph,ps,prs,qs,rfl,_⟩:=h;rfl
 .obtain ⟨a,dp,do_,l,pw,ph,ps,prs,qs,rfl,h⟩:=h;show(zgE,xa7 rfl (xas (zs:=GM) (ys:=mZ) (fr:=[0]) (N0:=iC) (sc0:=xl xgz) aP rfl rfl rfl) uc wR xU eB (fun _ _ _ _ _=>xae iu T.c_a T.m_n (ok_n T) aZ T.b_n .nil xp (eS 0 1 2)));obtain⟨pic,hl,pr,ok,len,q⟩:46:=h;obtain⟨⟨dx,hp⟩,_,w1,w2,h1,h2,_⟩:=CU;show(oO,l,hl,l1,hl1,xc3 qs.length (hU,zs,H2,zs=(((prs.take i).map (xa9 pw)).map V.int)/\Lz/\H2 l1=some (.lst zs)) ?_ ?_ ?_ ?_)
  .exact ⟨ah,cO hl1,xj⟩
  .rintro i zs H2 lt (⟨_,s2,_⟩:43);exact(bw,_,.ref C4,zdo,cM lt)
  .rintro i zs H2 v H3 lt (⟨rfl,s2,hl2⟩:43) ⟨rfl,hv⟩ N hN;ext zcM zdo;ext qJ o ho hv';show(af,p,hpp,ep,pr.get ho);show(mE,okp,ok p (Zm hpp),eD o (jp ep));refine xsk ?_;refine⟨a,dx,_,rfl,jp hp,bL,a,dp,do_,pw,ph,ps,bH,aK,ij,eI,rfl,nT s2,okp.nm,okp.fd,okp.r1,okp.r2,am H4 s4⟩;show(dc,lD hl2,?_,hN _ _ ⟨?_,vN,xj⟩)
   .rw [Za,Za,J0];exact ZJ (aa:min i prs.length<13) ap
   .rw [ZS,hpp,Zq,Zq];rfl
   .show(bI,gY hl1,lD (s2 b u e))
  .rintro zs H2 (⟨rfl,s2,hl2⟩:43);rw[pr.len,Jf] at hl2;refine⟨dI zdo ah,l1,prs.map (xa9 pw),rfl,aV hl2,⟨Cl,BK⟩,q _ s2⟩;ext fL p hp' hn;exact xqv (ok p hp') w2 h2
noncomputable def metF (w:Int) (p:Pr) (r:aG):j6:=r.filterMap fun p'=>(zqB).map fun c=>zbO
noncomputable def mets (w:Int):aG->j6
 | []=>[]
 | mK=>metF w p r++mets w r
theorem xsr {w:Int}{p:Pr}{r:aG}:zQ (metF w p r) r.length:=List.length_filterMap_le _ _
theorem xgx {w:Int}:∀{r:aG},(zQ,mets w r,r.length*r.length)
 | []=>bp
 | mK=>by
  show(CV,xsr (w:=w) (p:=p) (r:=r),xgx (w:=w) (r:=r));show (metF w p r++mets w r).length<=Kc*Kc;rw[Zs,Nat.succ_mul,Nat.mul_succ];omega
inductive xtp (t:Adr) (vs:ag) (H:Hp) (Q:VK) (_:XK):Prop
 | mk (a dp do_ l:Addr) (pw ph:Int) (ps:aw) (prs:aG) (qs:ao) (e_:IY) (r_:Pic t H a dp do_ pw ph ps/\(au,wW,uP,xI pw ph,Ed,∀ H' m ts,(zr,bz m,cL,H' m=some (.lst (ts.map V.ref)),TrL H' RX ts,m)))
theorem xhf (T:aX):FnOk true P w K mg base aU 9 t.f_meetings t.d_meetings iC (xtp t):=by
 refine T.F_meetings.okn (k:=8) xcu (aY h) (fun cdv A outer s H vs Q E hr h=>?_)
 .obtain ⟨a,dp,do_,l,pw,ph,ps,prs,qs,rfl,_⟩:=h;rfl
 .obtain ⟨a,dp,do_,l,pw,ph,ps,prs,qs,rfl,h⟩:=h;refine⟨_,xh (wN 2 xcu.nd (xi))
   (xh (xa5 ZA rfl (xen rfl T.n_enumerate iM) (xaq rfl (gK 3 xcu.nd 4)) (xk (xa5 ZA rfl (zjf iu) (pN 5 xcu.nd) (xh (pS 6 xcu.nd (pC (xim T) hr T.g_meeting T.F_meeting.kp T.b_meeting (eS 0 4 5)))
   (kO (KH 6) (uo (xd8 Jr Jp Jo xb0 iw (K6 (xa (uK 4) (xa (uK 5) (jj 6)))))))))))
   (tf 2)),?_⟩
  refine sq3 ?_; intros; obtain⟨pic,hl,pr,ok,len,q⟩:46:=h;show(nW,(by show cV 0; exact ZF _),tl,htl);ext mN; show(dG,s0,gG (oh H tl),cO htl,ml,xgx (w:=pw) (r:=prs));show(ay,ml2,prs.length*prs.length<=144,ZZ (Nat.mul_le_mul len len) ap,(kW,l,aV (s0 _ _ hl)))
  show(zgU,∃(v3 v4 v5 v6:bP) (acc:j6) (ts:ao),(jI,Z,[cP,j9,aT tl,v3,v4,v5,v6],Lz,H2 tl=some (.lst (ts.map V.ref)),TrL H2 acc ts/\acc++mets pw (prs.drop i)=RX),(jw ⟨85,[],[],rfl,s0,xj,.nil,rfl⟩),(fun _ _ _ _ ⟨_,_,_,_,_,_,_,z,_⟩=>aV (z _ _ hl)))
  .rintro i x p Z H2 hx hp (⟨v3,v4,v5,v6,⟨acc,ts,rfl,s2,ht,tr,ea⟩⟩:121);ext zeS;rw[xqr];have s4:Same H2 (upd XI p4 (.lst ((E1).map V.ref))):=sp.trans (cO hp4);have n4:tl≠p4:=xb (sp _ _ ht) hp4;have pr2:=pr.drop (i+1);have ed:prs.drop i=P1::prs.drop (i+1):=by
    have hi:=(Zi.mp hP1)
    obtain⟨h1,h2⟩:=hi;rw[JC h1,h2]
   rw[ed] at ea;refine⟨63,p4,rfl,⟨_,SqL.of xj⟩,?_⟩
   let Pv (j:Nat) (Z:L2.St) (H5:Hp):Prop:=∃(v5 v6:bP) (ac:j6) (t5:ao),Z=[cP,j9,aT tl,bv i,aT o,v5,v6]/\(au,FR,H5 p4=some (.lst ((E1).map V.ref)),H5 tl=some (.lst (t5.map V.ref)),TrL H5 ac t5,ac++(metF pw P1 ((sO).drop j)++mets pw (prs.drop aH))=RX)
   refine xbh (xs:=(E1).map V.ref) (Pv:=Pv)
    ⟨126,_,_,acc,ts,rfl,s2.trans s4,xj,lD ht,tr.keep (Same.tups s4),ea⟩ (fun _ _ _ _ ⟨_,_,_,_,_,_,z,_⟩=>aV z) ?_ ?_
   .rintro j x Z H5 hx (⟨v5,v6,ac,t5,rfl,s5,hp5,ht5,tr5,ea5⟩:126);ext MX; ext zfq;have ed2:(sO).drop j=P2::(sO).drop hV:=by
     ext VN hP2
    refine⟨a,dp,do_,pw,ph,ps,o,o2,FW,FV,P1.1,P2.1,aW P1,aW P2,bS P1,bS P2,rfl,⟨46,nT s5,dZ eP1,dZ eP2,zix,ziw,cI H6 v s6 mv⟩⟩;ext GI; have ef:metF pw P1 ((sO).drop j)=(match WQ with|some c=>[(FW,FV,c)]|none=>[])++metF pw P1 ((sO).drop hV):=by
     rw[ed2];unfold metF;rw[Jj];cases WQ<;>rfl
    rw[ef] at ea5;have mv':xof H6 WQ v:=mv;rcases mv' with⟨em,rfl⟩|⟨c,q6,em,rfl,hq6⟩
    .ext Oy S0;exact⟨126,_,_,ac,t5,rfl,Bp,kG hp5,Fu,zog,ea5⟩
    .ext Oy ST;have tl5:=tr5.len;have al:ac.length<145:=by
      show(zcl,vz ea5)
     refine⟨uN Fu,o,_,0,_,rfl,rfl,eA (s6 _ _ (s5 _ _ eP1)),rfl,o2,_,0,_,rfl,rfl,eA (s6 _ _ (s5 _ _ eP2)),rfl,vq,am p7 hp7⟩;show(ay,s7,Same H6 (Vw H6),cO hp7,uq tl _ _ (n6,Ew ht5,?_,?_))
     .show(Pc,t5.length,200)
     have up:∀ b u,b≠tl->H6 b=some u->(pX (Vw H6) tl (.lst (t5.map V.ref++[.ref p7]))):=fun b u nb e=>by
      show(ir,nb,s7 _ _ e)
     show(hX,nt,p7,tl,jJ Fu hp7,⟨126,_,_,ac++[(FW,FV,c)],t5++[p7],rfl,(jG,up _ _ (xb e htl) (s6 _ _ (s5 _ _ e))),up _ _ (Zx n4) (kG hp5),Sv,TrL.snoc (q:=q6) (TrL.keep (fS,up _ _ (eK Fu) e) zog) ?_ ?_,?_⟩)
     .show(bI,xg nt,xj)
     .exact up _ _ (ne_f hq6 Fu) hq6
     .rw [<- ea5];simp
   .rintro Z H5 (⟨v5,v6,ac,t5,rfl,s5,hp5,ht5,tr5,ea5⟩:126);refine jw ⟨85,ac,t5,rfl,s5,ht5,tr5,?_⟩;ext zgN
  .rintro Z H2 (⟨v3,v4,v5,v6,⟨acc,ts,rfl,s2,ht,tr,ea⟩⟩:121);ext zmK;have ea':acc=RX:=by
    rw[<- ea];simp[mets]
   show(bO,ea',tr,q _ tl ts htl s2 ht tr)
noncomputable def acrI (w:Int) (p:Pr):Int:=if ij then kE else w+1-kE
noncomputable def uprI (w:Int) (p:Pr):Int:=TQ*GH
theorem xvr {a b:Int} (a0:0<=a) (a1:a<=1000) (b0:0<=b) (b1:b<=1000):(pZ,a*b,1000000):=by
 show(cR,Int.mul_nonneg a0 b0,?_);have h1:=Int.mul_le_mul_of_nonneg_right a1 b0;have h2:1000*b<=1000*1000:=Int.mul_le_mul_of_nonneg_left b1 ap;exact Int.le_trans h1 h2
theorem xsw {ps:aw}{w h:Int}{p:Pr} (o:PM) (hw:rH) (hh:rJ):-1000000<=TN/\TN<=1000000:=by
 obtain⟨_,_,r1,r2,x1,x2,y1,y2⟩:=o;have z:=xvr (a:=TQ) (b:=GH) NG NG KC KC;unfold uprI;omega
inductive xuc (t:Adr) (vs:ag) (H:Hp) (Q:VK) (_:XK):Prop
 | mk (a dp do_ q0:Addr) (pw ph:Int) (ps:aw) (p:Pr) (e_:vs=[aA,.ref q0]) (r_:(bE,Pic t H a dp do_ pw ph ps,zer q0 p,PrOk ps pw ph p,(y8,Q (.int (uprI pw p)) H')))
inductive xxg (t:Adr) (vs:ag) (H:Hp) (Q:VK) (_:XK):Prop
 | mk (a dp do_ l:Addr) (pw ph:Int) (ps:aw) (prs:aG) (qs:ao) (e_:IY) (r_:(zjt,Pic t H a dp do_ pw ph ps,(prs.map (uprI pw)).sum))
noncomputable def mayB (ss:aj) (p:Pt) (s:Seat):Bool:=(cJ uh)&&Lk
noncomputable def excB (ss:aj) (p p':Pr):Bool:=zag&&mayB ss p'.1 bW
inductive xsm (t:Adr) (vs:ag) (H:Hp) (Q:VK) (_:XK):Prop
 | mk (a dp do_ o1 o2:Addr) (pw ph:Int) (ps:aw) (ss:aj) (p p':Pr) (e_:vs=(vG aA o1 o2)) (r_:Pic t H a dp do_ pw ph ps/\sH/\(Ho,zer o1 p,zer o2 p',PrOk ps pw ph p,PrOk ps pw ph p',excB ss p p'))
noncomputable def canO (w:Int) (ss:aj) (p p':Pr):cX iW:=if excB ss p p' then zqB else none
noncomputable def canF (w:Int) (ss:aj) (p:Pr) (r:aG):j6:=r.filterMap fun p'=>(zbQ).map fun c=>zbO
noncomputable def cans (w:Int) (ss:aj):aG->j6
 | []=>[]
 | mK=>canF w ss p r++cans w ss r
theorem xp5 {w:Int}{ss:aj}{p p':Pr}{r:aG}:canF w ss p (p'::r)=(match zbQ with|some c=>[zbO]|none=>[])++canF w ss p r:=by
 unfold canF;rw[Jj];cases zbQ<;>rfl
noncomputable def TrV (H:Hp) (o:cX Tr) (v:V):Prop:=(Tn,o,none,∃ c q qc,nJ o c (aR v cu (eR q [yB,.str (aW c),.ref qc]) (eR qc (FE,aW c.2,(bS c).2))))
inductive xun (t:Adr) (vs:ag) (H:Hp) (Q:VK) (_:XK):Prop
 | mk (a dp do_ l:Addr) (pw ph:Int) (ps:aw) (ss:aj) (prs:aG) (qs:ao) (e_:IY) (r_:Pic t H a dp do_ pw ph ps/\(au,sH,wW,uP,xI pw ph,∀ H' v,cL->TrV H' (Hy prs) v->CP))
theorem ok_ap (T:aX):FnOk true P w K mg base aU 6 t.f_ap t.d_ap zep (xuc t):=by
 refine T.F_ap.okn (k:=5) sc_ap (aY h) (fun cdv A outer s H vs Q E hr h=>?_)
 .obtain ⟨a,dp,do_,q0,pw,ph,ps,p,rfl,_⟩:=h;rfl
 .obtain ⟨a,dp,do_,q0,pw,ph,ps,p,rfl,h⟩:=h;refine⟨_,xh (Dw 1 2 sc_ap.nd (gK 3 sc_ap.nd 4))
   (xh (Kk (xae bD T.c_a T.m_j (ok_j T) aZ T.b_j .nil xp (jj 2)) (gK 5 sc_ap.nd 6))
   (dH (xr xbw (xgn (xae (pC FT hr T.g_as T.F_as.kp T.b_as (fM 3 bT)) T.c_af T.m_s (ok_s T) aZ T.b_s .nil xp F9) (xae (pC FT hr T.g_as T.F_as.kp T.b_as (fM 3 bT)) T.c_x T.m_p (ok_p T) aZ T.b_p .nil xp F9)) (zil lA 4)))),?_⟩
  refine sq3 ?_; intros; ext jY pic hq0 ok q h;ext xC dx0;show(bU,eD q0 hq0,⟨a,dx0,_,rfl,hp,bL,a,dp,do_,pw,ph,ps,bH,aK,rfl,pic,ok.nm,ok.fd,zkQ⟩);have hp1:=nF;obtain⟨_,_,r1,r2,x1,x2,y1,y2⟩:=id ok;show(ae,w2,pic.w2,h2,pic.h2);show(dG,sm,-nK<acrI pw p/\acrI pw p<nK,NG,qq,q);unfold uprI acrI at qq;unfold acrI at sm;cases hb:ij with
  | true =>
   rw[hb] at qq sm;refine .inl ⟨a,_,_,_,_,rfl,zhW true⟩;ext IQ sd3;exact⟨p3,ds,_,rfl,hs,MP,_,_,rfl,_,rfl,.inl sm,zqI⟩
  | false =>
   rw[hb] at qq sm;show(Ai,⟨a,_,_,_,_,rfl,zhW false⟩);show(IQ,id sd3);exact⟨p3,ds,_,rfl,hs,MP,p3,pw,_,rfl,sd3,_,rfl,.inl sm,zqI⟩
theorem xf1 (T:aX):FnOk true P w K mg base aU 7 t.f_upright t.d_upright iC (xxg t):=by
 refine T.F_upright.okn (k:=6) xoa (aY h) (fun cdv A outer s H vs Q E hr h=>?_)
 .obtain ⟨a,dp,do_,l,pw,ph,ps,prs,qs,rfl,_⟩:=h;rfl
 .obtain ⟨a,dp,do_,l,pw,ph,ps,prs,qs,rfl,h⟩:=h;show(zgE,xa7 rfl (xas (zs:=["pair"]) (ys:=mZ) (fr:=[0]) (N0:=iC) (sc0:=xl xe2) aP rfl rfl rfl) uc jn jb eB (fun _ _ _ _ _=>pC (ok_ap T) hr T.g_ap T.F_ap.kp T.b_ap (fT 1 0)));obtain⟨pic,hl,pr,ok,len,q⟩:46:=h;obtain⟨⟨dx,hp⟩,_,w1,w2,h1,h2,_⟩:=CU;refine(oX,l,hl,am l1 hl1);have ql:=pr.len;refine xba (aV hl) zov hl1 (wB,∃ p,Kd/\y=.int (uprI pw p)) (fun i y H H' tp h=>h) (fun i x H2 hx s2 N hN=>?_) (fun ys H2 s2 el ly f=>?_)
  .rw [Zf] at hx;ext Kj;show(af,p,hpp,ep,pr.get ho);have okp:=ok p (Zm hpp);exact⟨a,dp,do_,o,pw,ph,ps,p,rfl,(bR,nT s2,jp ep,okp,fun H4 s4=>lE s4 (b5 p hpp))⟩
  .have ey:ys=(prs.map (uprI pw)).map V.int:=by
    ext wy ql;refine YY (bZ i);by_cases c:i<ys.length
    .show(eE,p,h1,h2,f i _ (Zb c));rw[Zb c,Zf,Zf,h1,h2];rfl
    .rw [ZV aa,ZV jQ]
   subst ey;refine⟨l1,prs.map (uprI pw),rfl,aV el,⟨Cl,BK⟩,q _ s2⟩;ext fL p hp' hn;exact xsw (ok p hp') w2 h2
theorem ok_ae (T:aX):FnOk true P w K mg base aU 6 t.f_ae t.d_ae Dl (xsm t):=by
 refine T.F_ae.okn (k:=5) sc_ae (aY h) (fun cdv A outer s H vs Q E hr h=>?_)
 .obtain ⟨a,dp,do_,o1,o2,pw,ph,ps,ss,p,p',rfl,_⟩:=h;rfl
 .obtain ⟨a,dp,do_,o1,o2,pw,ph,ps,ss,p,p',rfl,h⟩:=h;refine⟨_,xh (Dw 1 3 sc_ae.nd (gK 4 sc_ae.nd 5))
   (xh (Dw 2 6 sc_ae.nd (gK 7 sc_ae.nd 8))
   (dH (xc1 (xae bD T.c_a T.m_v (ok_v T) aZ T.b_v .nil xp (eS 3 7 8)) (xei (xae bD T.c_a T.m_v (ok_v T) aZ T.b_v .nil xp (eS 6 4 5)))))),?_⟩
  refine sq3 ?_; intros; obtain⟨pic,st,e1,e2,k1,k2,q⟩:47:=h;ext xC dx0;refine eD o1 e1;show(bU,eD o2 e2,⟨a,dx0,_,rfl,hp,bL,a,dp,do_,pw,ph,ps,ss,aK,aW p',bS p',rfl,pic,st,k1.nm,k1.fd,k2.r1,k2.r2,vh⟩);show(iG,lK c c)
  .refine ⟨a,dx0,_,rfl,nF,bL,a,dp,do_,pw,ph,ps,ss,p'.1,ij,eI,rfl,Ck,st.same s1,k2.nm,k2.fd,k1.r1,k1.r2,am H2 s2⟩;have z:=q H2 (s1.trans s2);unfold excB at z;show(tu,va zag c,JH)
  .have z:=q H1 s1;unfold excB at z;show(tu,show zag=false from T0,JV)
theorem xcv (T:aX):FnOk true P w K mg base aU 8 t.f_exchangeable t.d_exchangeable iC (xun t):=by
 refine T.F_exchangeable.okn (k:=7) xca (aY h) (fun cdv A outer s H vs Q E hr h=>?_)
 .obtain ⟨a,dp,do_,l,pw,ph,ps,ss,prs,qs,rfl,_⟩:=h;rfl
 .obtain ⟨a,dp,do_,l,pw,ph,ps,ss,prs,qs,rfl,h⟩:=h;refine⟨_,xh (xa5 ZA rfl (xen rfl T.n_enumerate iM) (xaq rfl (gK 2 xca.nd 3)) (xk (xa5 ZA rfl (zjf iw) (pN 4 xca.nd) (xk (xan (xbg (pC (ok_ae T) hr T.g_ae T.F_ae.kp T.b_ae (eS 0 3 4))) (xh (pS 5 xca.nd (pC (xim T) hr T.g_meeting T.F_meeting.kp T.b_meeting (eS 0 3 4)))
   (kO (KH 5) (BC (xa (uK 3) (xa (uK 4) F9))))) (x9))))))
   (dH (xb4)),?_⟩
  refine sq2 ?_; intros; refine fq ?_; intros; obtain⟨pic,st,hl,pr,ok,q⟩:46:=h;refine(kW,l,aV hl)
  show(zgU,∃(v2 v3 v4 v5:bP),(aR,Z,[cP,j9,v2,v3,v4,v5],Lz,cans pw ss (prs.drop i)=cans pw ss prs),⟨123,_,_,_,_,rfl,jV,rfl⟩,(fun _ _ _ _ ⟨_,_,_,_,_,z,_⟩=>aV (z _ _ hl)))
  .rintro i x p Z H2 hx hp (⟨v2,v3,v4,v5,rfl,s2,ea⟩:123);ext zeS;rw[xqr];have s4:Same H2 (upd XI p4 (.lst ((E1).map V.ref))):=sp.trans (cO hp4);have pr2:=pr.drop (i+1);have ed:prs.drop i=P1::prs.drop (i+1):=by
    ext VN hP1
   rw[ed] at ea;refine⟨63,p4,rfl,⟨_,SqL.of xj⟩,?_⟩
   let Pv (j:Nat) (Z:L2.St) (H5:Hp):Prop:=∃(v4 v5:bP),(jI,Z,[cP,j9,bv i,aT o,v4,v5],FR,H5 p4=some (.lst ((E1).map V.ref)),canF pw ss P1 ((sO).drop j)++cans pw ss (prs.drop aH)=cans pw ss prs)
   refine xbh (xs:=(E1).map V.ref) (Pv:=Pv)
    ⟨84,_,_,rfl,s2.trans s4,xj,ea⟩ (fun _ _ _ _ ⟨_,_,_,_,z,_⟩=>aV z) ?_ ?_
   .rintro j x Z H5 hx (⟨v4,v5,rfl,s5,hp5,ea5⟩:84);ext M3; ext zfq;have ed2:(sO).drop j=P2::(sO).drop hV:=by
     ext VN hP2
    rw[ed2,xp5] at ea5;refine⟨a,dp,do_,o,o2,pw,ph,ps,ss,P1,P2,rfl,⟨47,nT s5,st.same s5,dZ eP1,dZ eP2,ok1,ok2,am H6 s6⟩⟩;show(iG,lK cx cx)
    .ext AT; have s56:=s5.trans s6;refine⟨a,dp,do_,pw,ph,ps,o,o2,FW,FV,P1.1,P2.1,aW P1,aW P2,bS P1,bS P2,rfl,⟨46,nT s56,s56 _ _ eP1,s56 _ _ eP2,zix,ziw,cI H7 v s7 mv⟩⟩;ext GI; have mv':xof H7 (canO pw ss P1 P2) v:=by
      unfold canO;ext cY cx cp mv
     rcases mv' with⟨em,rfl⟩|⟨c,q6,em,rfl,hq6⟩
     .ext Oy S0;exact⟨84,_,_,rfl,s56.trans s7,Ew hp5,ea5⟩
     .ext Oy ST;have s57:=s56.trans s7;refine(dD,o,0,_,vk (s57 _ _ eP1) ⟨o2,_,0,_,rfl,rfl,eA (s57 _ _ eP2),rfl,vq,am p7 hp7⟩);show(cA,s8,Same H7 (Vw H7),cO hp7,q _ _ (s57.trans s8) (.inr ⟨104,(FW,FV,c),p7,q6,?_,rfl,xj,s8 _ _ hq6⟩));rw[<- ea5];rfl
    .have em:canO pw ss P1 P2=none:=by
      unfold canO;rw[aM cx]
     rw[em] at ea5;exact⟨84,_,_,rfl,Bp,kG hp5,ea5⟩
   .rintro Z H5 (⟨v4,v5,rfl,s5,hp5,ea5⟩:84);refine⟨123,_,_,_,_,rfl,s5,?_⟩;ext zgN
  .rintro Z H2 (⟨v2,v3,v4,v5,rfl,s2,ea⟩:123);ext zmK;exact q _ _ s2 (.inl (fR,by rw[<- ea]; rfl))
inductive xvd (vs:ag) (H:Hp) (Q:VK) (_:XK):Prop
 | mk (c k:Int) (e_:vs=(FE c k)) (r_:0<=k/\∀ m:Int,0<=m->(lW m))
inductive Lp (H:Hp):bM aw aL
 | nil:Lp H [] []
 | cons {p:Pt}{q:Addr}{ps:aw}{kvs:aL} (h:AI p) (r:mY):Lp H (p::ps) ((Fg,cu)::kvs)
theorem Lp.same {H H':Hp} (s:cL) {ps:aw}{kvs:aL} (h:mY):vY H':=by
 induction h with
 | nil=>ext gW
 | cons h _ ih=>ext AC
theorem Lp.len {H:Hp}{ps:aw}{kvs:aL} (h:mY):zbq:=by
 induction h with
 | nil=>rfl
 | cons _ _ ih=>ext oA
theorem Lp.find {H:Hp}{ps:aw}{kvs:aL} (h:mY) {nm:Str}{pt:Pt} (e:Ap):zdM (AI pt):=by
 induction h with
 | nil=>ext lw
 | @cons p q ps kvs h _ ih =>
  by_cases c:p.nm=nm
  .ext zkM
  .ext zfy
theorem Lp.no {H:Hp}{ps:aw}{kvs:aL} (h:mY) {nm:Str} (e:∀ p∈ps,Fd):Ct=none:=by
 induction h with
 | nil=>rfl
 | @cons p q ps kvs h _ ih =>
  ext zgb
theorem Lp.get {H:Hp}{ps:aw}{kvs:aL} (h:mY) {i:Nat}{k:Key}{x:V} (e:h7):zlk (AI p):=by
 induction h generalizing i with
 | nil=>ext lw
 | @cons p q ps kvs h _ ih =>
  cases i with
  | zero =>
   simp at e;exact⟨84,p,q,rfl,SD,e.2.symm,h⟩
  | succ j=>ext rh
theorem Lp.snoc {H:Hp}{ps:aw}{kvs:aL} (h:mY) {p:Pt}{q:Addr} (e:AI p):Lp H Cg (kvs++[(Fg,cu)]):=by
 induction h with
 | nil=>ext Es
 | cons h _ ih=>ext yo
noncomputable def PD (H:Hp) (d:Addr) (ps:aw):Prop:=∃ kvs,Rd H d (.dK kvs)/\mY
theorem PD.same {H H':Hp}{d:Addr}{ps:aw} (s:cL) (h:PD H d ps):PD H' d ps:=by
 ext af kvs e l h;show(dc,kvs,?_,l.same s);rcases e with e|⟨o,e⟩
 .ext cH qV
 .ext jy o qV
theorem PD.get {H:Hp}{d:Addr}{ps:aw} (h:PD H d ps) {nm:Str}{pt:Pt} (e:Ap):∃ q,DGet H d vT Gc/\(AI pt):=by
 ext af kvs ed l h;show(af,q,h1,h2,l.find e);show(aE,q,.inl (cN kvs Cu ed h1.symm),h2)
inductive xv2 (K:Zd) (vs:ag) (H:Hp) (Q:VK) (_:XK):Prop
 | mk (d ls:Addr) (ps:aw) (ss:aj) (rs:ao) (pt:Pt) (b:Bool) (r:Int) (e_:vs=[dF,.ref ls,iX,rA,.int r]) (r_:(Ho,PD H d ps,Vh,Nr ls,IA,mayB ss pt jf))
theorem ok_m (T:aX):FnOk true P w K mg base aU 1 t.f_m t.d_m VG (xvd):=by
 refine T.F_m.okn (k:=0) sc_m (aY h) (fun cdv A outer s H vs Q E hr h=>?_)
 .ext DL c k
 .ext Ek c k;refine⟨_,xh (xan (jO xdp (pF bD) (xm)) (dH (xr xbd (xr xkv bD (Gi (IN 1))) (xr xuk (xm) (xm)))) (x9))
   (xh (zcR (xr xa3 bD (IN 1)))
   (xh (zcR (xr xa3 (xr xbw iw (xm)) (pv 1)))
   (xh (zcR (xr xbw iw (zu iw)))
   (dH (pF (xr xbw iw (zu iw))))))),?_⟩
  refine sq5 ?_; intros; ext Ej; ext i4 k0 h;show(mJ,iR 4,rfl,_,rfl,ite2 l0 l0)
  .refine b8 tW aa ⟨ap,ap,ap⟩ (iR,2 ^ (bA 40).toNat) ?_;exact q _ (QZ _ ap)
  show(fE,tW,iR 2147483647);show(fE,.inr uZ,iR 2147483647);show(fE,.inl (xpy ap ap),iR 2147483629);show(fE,.inl (xpy ap ap),iR 2147483587);exact q _ (B1).1
theorem ok_a1 (T:aX):FnOk true P w K mg base aU 1 t.f_a1 t.d_a1 Ut (xv2 K):=by
 refine T.F_a1.okn (k:=0) sc_a1 (aY h) (fun cdv A outer s H vs Q E hr h=>?_)
 .obtain ⟨d,ls,ps,ss,rs,pt,b,r,rfl,_⟩:=h;rfl
 .obtain ⟨d,ls,ps,ss,rs,pt,b,r,rfl,h⟩:=h;refine⟨_,xh (pS 5 sc_a1.nd (wg bD iw))
   (dH (xc1 (xb8 (xo9 (xb1 hr)) (xad (fT 3 4)) eJ nR) (xc1 (xb8 xi7 (jS 5 (xm)) (xad (xa (xbu) (jj 3))) nR) (xei (xfu xg4 xg4 (jS 5 (xm)) jK (jS 5 (xm))))))),?_⟩
  refine sq2 ?_; intros; obtain⟨pd,hf,hls,sl,q⟩:45:=h;show(af,q0,dg,hq0,pd.get hf);show(rV,d,_,dg,?_);ext kB q1 hq1;show(GT,Gq H q1,hq1);refine⟨1,2,xcm jf,ss.map xcm,xg1 (s:=jf) g1,(kS,(sl.keep (Same.tups s1)).dv (jM hls),Fy)⟩
  .rw [LQ,xep] at c;refine dD q0 2 _ (FC,aV (jM hq0),rfl,ng,q3,hq3);show(zkh,H1,q H3 (s1.trans s3));unfold mayB at z;rw[c,JH] at z;ext zhY
   .ext MZ
    rw[c,JH] at z;refine dD q0 3 _ (zls,CW c2)
    .rw [c2,JH] at z;exact(dD,q0,4,_,zls z)
    .ext zqA
   .ext MZ
    ext tu T0 JV
  .rw [LQ,xep] at c;have z:=q H1 s1;unfold mayB at z;ext tu T0 JV
theorem ltr7 {f:Int}{i k:Nat} (h:k<i) (hi:i<13):ltr ((f+7*pL) % 26)≠ltr XE:=fun e=>by
 have e':=xtw (B1).1 (B1).1 e;omega
theorem xnf {x:Int}{zs:bK}:inV (.int x) (zs.map V.int)=(ld x zs):=by
 unfold inV;ext OR
 .ext qI y hy e;ext fL z hz hy;have:z=x:=by simpa [eqV] using e
  exact this▸hz
 .intro h
  show(aE,.int x,Ze.mpr (b5 x h),cM eqV)
theorem xl1 (zs:bK):(zs.map V.int).all xec=true:=by
 rw[Ys];intro z hz;show(BH,i,rfl,Ze.mp hz);rfl
theorem xa8.snoc {w h:Int}{ps:aw} (o:xa8 w h ps) {p:Pt} (k:PtOk w h p) (n1:∀ q∈ps,q.nm≠p.nm) (n2:p.x∉ps.map (·.x)) (n3:p.y∉ps.map (·.y)) (l:zdj):xa8 w h Cg:=by
 show(mJ,am q hq,?_,?_,?_,av Zs l)
 .rcases Z3.mp hq with z|z
  .exact o.ok q z
  .ext bI vO k
 .show(MJ,o.nn);ext fL q hq ha;ext zdL;exact n1 q hq e
 .show(MJ,o.nx);ext zdL;exact n2 (e▸ha)
 .show(MJ,o.ny);ext zdL;exact n3 (e▸ha)
theorem xjt {Z:L2.St}{fr:pi}{te:TE}{l d:Addr}{H:Hp}{Q:VK}{ob:Obj}{kvs:aL}  (zs:ag) (hz:zs.length=kvs.length) (hd:CF) (hl:upd H d fZ l=none) (hn:kvs.length<1000)
    (hte:∀(i:Nat) (k:Key) (x z:V) (H2:Hp) (R:VK),(bg,h7,aF zs z,MU,R z H2,te ((R5).set 0 (some x)) H2 R))
    (fin:∀ H2,bb zaM (gG (fA H2 d kvs)) (i0 H2 d ze l (.lst zs)) LT):xdy (Itw d ob kvs) 1 (xcd 0) Z fr xdj te l (d4 d fZ) Q:=by
  have nl:l≠d:=fun z=>by
    ext uw z xj hl hl
  show(cA,hl0,jD,zpK,xc3 kvs.length (hU xs H2 (jI,xs,zs.take i,zaM,MU,Ln)) ?_ ?_ ?_ ?_)
  . refine bR ah ?_ vM xj
    . ext rC nl xj
    . show(cY,gY hl0,mD,e)
  . rintro i xs H2 lt (⟨_,h1,_⟩:43)
    ext aO h1 lt
  . rintro i xs H2 v H3 lt (⟨rfl,h1,k2,hl2⟩:44) ⟨rfl,k,hk⟩ N hN
    refine xnw ?_;show(cA,lz,i<zs.length,aa,hte i k v zs[i] _ _ hk (Zb lz) k2 ⟨hl2,?_,hN _ _ (bR ?_ ?_ vM xj)⟩)
    . show(aB,J0,(zp,min i zs.length,1000))
    . rw[ZS,Zb lz]
      rfl
    . ext rC nl h1
    . show(aB,gY hl0,k2 _ _ nb e)
  . rintro xs H2 (⟨rfl,h1,k2,hl2⟩:44)
    show(cR,⟨h1,bp⟩,fin _ h1 vN ?_)
    . by_cases c:b=d
      . subst c
        rw[xj,<- hd];exact e
      . show(ir,c,k2 _ _ c e)
    . rw[xg nl,hl2,<- hz,Jf]
theorem xvv (m:Int):∃ x:Str,(nJ,atI [V.str "both",V.str "both",V.str "left",V.str "right"] (m % 4),kc,x="left"\/x="right"\/x="both"):=by
 obtain⟨h0,h1⟩:=xbm m (sJ,kd<4);have:m % 4=0\/m % 4=1\/m % 4=2\/m % 4=3:=aa
 rcases this with e|e|e|e<;>rw[e]
 .ext zoy
 .ext zoy
 .exact jB "left" gT
 .exact (jB,"right",.inr (.inl rfl))
theorem Lp.keepL {H H':Hp} (s:∀ b xs,(oR b)->(E6 Lu)) {ps:aw}{kvs:aL} (h:mY):vY H':=by
 induction h with
 | nil=>ext gW
 | cons h _ ih=>ext AC
inductive xud (t:Adr) (vs:ag) (H:Hp) (Q:VK) (_:XK):Prop
 | mk (c:Int) (e_:vs=[.int c,.int 7,.int 14,.int 8,.bl false]) (r_:∀(H':Hp) (tp a dp do_ d:Addr) (w h:Int) (ps:aw) (kvs:aL),cL->(bg,(HF tp [aA,dF]),Pic t H' a dp do_ w h ps,znz,xa8 w h ps,(bg,ps.length<=7,H' d=some (.dK kvs),vY H',d≠dp,(zr,bz d,bz do_,w<=14,h<=8,tp))))
theorem ok_am (T:aX):FnOk true P w K mg base aU 5 t.f_am t.d_am Ur (xud t):=by
 refine T.F_am.okn (k:=4) sc_am (aY h) (fun cdv A outer s H vs Q E hr h=>?_)
 .ext Hf c
 .ext HP c;refine⟨_,xh (pS 5 sc_am.nd (xfb T.k_a (ok_ai T) aZ rfl T.g_a T.b_ai .nil xp (gu (Gi (xr xbd (pC pJ hr T.g_m T.F_m.kp T.b_m vp) (pv 2))) (Gi (xr xbd (pC pJ hr T.g_m T.F_m.kp T.b_m vp) (pv 3))))))
   (xh (pS 6 sc_am.nd (xdq))
   (xh (pS 7 sc_am.nd (pC pJ hr T.g_m T.F_m.kp T.b_m vp))
   (xh (xa5 ZA rfl (xjd rfl T.n_range (xa (xr xbd (pC pJ hr T.g_m T.F_m.kp T.b_m vp) (zu eJ)) (xi))) (pN 8 sc_am.nd) (xh (V0 9 (pC pJ hr T.g_m T.F_m.kp T.b_m X2))
   (xh (V0 10 (pC pJ hr T.g_m T.F_m.kp T.b_m X2))
   (xh (pS 11 sc_am.nd (pC pJ hr T.g_m T.F_m.kp T.b_m X2))
   (xh (V0 12 (Cz wI))
   (xh (wN 13 sc_am.nd (dR 9 (dR 10 (xa (xak xax (xb3 (xa (xbu) (xa (xbu) (gu (xbu) (xbu))))) (pF wI) iD) (fM 12 (xr xa3 (pv 12) (xr xbd (Cz wI) (qR 5))))))))
   (xh (xbn (xaw (xjm rfl) rfl T.n_min boot_min (gu Sx (qR 5))) N3)
   (xh (xcc (xan (PW.pt (xdz (xbg (pv 4)) (xc7 (jO xkj (pF (Cz wI)) (xm))))) (xh (xbn (xm) N3)
   (xk (xbn (qR 5) N3))) (x9)))
   (xh (xcc (xan (xbg (pv 4)) (xk (xbn (xbu) N3)) (x9)))
   (xk (xcc (xan (PW.pt (xfh (xac xf6 (pv 9) (xi3 (xa7 rfl (xas (zs:=["_law_one"]) (ys:=[]) (fr:=[]) (N0:=["_law_cell_here", "_law_most", "_law_wide", "_law_high", "_law_free", "_law_picture", "_law_points", "_law_first", "_law_k", "_law_x", "_law_y", "_law_number", "_law_low", "_law_point", "_law_name"]) (sc0:=xl s_am) aP rfl rfl rfl) (xjp (pv 6)) jn jb eB (fun _ _ _ _ _=>VF))) nR) (xeg (xac xf6 (pv 10) (xi3 (xa7 rfl (xas (zs:=["_law_one"]) (ys:=[]) (fr:=[]) (N0:=["_law_cell_here", "_law_most", "_law_wide", "_law_high", "_law_free", "_law_picture", "_law_points", "_law_first", "_law_k", "_law_x", "_law_y", "_law_number", "_law_low", "_law_point", "_law_name"]) (sc0:=xl s_am) aP rfl rfl rfl) (xjp (pv 6)) jn jb eB (fun _ _ _ _ _=>VF))) nR)))) (xh (pS 14 sc_am.nd (xak xuw (xbu) (pF (xr xa3 om (IN 8))) iD))
   (xh (xay (xae on T.c_a T.m_b (ok_b T) aZ T.b_b .nil xp (ya (pv 14) (pv 9) (ya (pv 10) Sx (ya Sx Sx (xi))))))
   (xk (qY lA (pv 14) (pv 13))))) (x9)))))))))))))
   (BC (fT 5 6))))),?_⟩
  refine sq5 ?_; intros; show(bU,⟨c,0,rfl,ap,fun m1 a1=>dQ (iR 14)⟩,⟨c,1,rfl,ap,fun m2 a2=>dQ (iR 8)⟩);show(ae,wb,xbm m1 (sJ,kd<14),hb,xbm m2 Kr);show(tH,w,ew,∃ w,w=1+m1 % 14)
  show(tH,ph,eh,∃ h,h=1+m2 % 8)
  ext Rg
  rw[<- ew,<- eh];have w1:1<=w:=aa
  have w2:w<=30:=aa
  have h1:1<=ph:=aa
  show(cA,h2,ph<=16,aa,fun a dx hx hdx ne=>⟨a,dx,w,ph,rfl,⟨46,xj,w1,w2,h1,h2,fun H5 dp do_ hdp5 hdo5 s6 pic5 hdt=>Co⟩⟩)
  refine gn ?_; refine sq4 ?_; intros; show(mM,k5,FR,s6 b u (xb e hx) (nD FO FA e));have up:(gZ,upd (upd H dx (.own a)) a zcB b=none,dz):=fun b z=>by
   cases e:H b with
   | none=>rfl
   | some u=>ext Rh FO
  show(ae,fdp,up _ hdp5,fdo,up _ hdo5);refine am l hl5;have fl:=k5.free hl5;have s5l:Same H5 (fA H5 l []):=cO hl5;have ldp:l≠dp:=fun z=>by
   show(dL,kv,e,pic5.pl)
   rw[<- z,hl5] at e;cases e
  refine⟨c,2,rfl,ap,am f f0⟩;ext mN; show(rV,c,3,ap,fun m3 a3=>⟨(iR,7+1),(lu,m3 % 8,rfl,?_,?_,?_)⟩)
  .show(db,xbm m3 Kr)
  .show(db,xbm m3 Kr)
  have nb:=xbm m3 Kr
  show(MN,∃(v8 v9 v10 v11 v12 v13 v14:bP) (ps:aw) (kvs:aL),(au,Z=[bv c,bv 7,Lx,bv 8,Hj,cP,j9,bv f,v8,v9,v10,v11,v12,v13,v14],gG H6,Pic t H6 a dp do_ w ph ps,zny,(au,H6 l=some (.dK kvs),vY H6,xa8 w ph ps,ps.length<=i,zgR i)))
  show(Ox,?_)
  .exact (jw,ii _ _ [] ⟨66,[],rfl,k5.trans s5l,nY s5l pic5,s5l _ _ hdt,xj,bR .nil ⟨O3,J5,J5,J5,fV⟩ bp O3⟩)
  .rintro i Z H6 hi (⟨v8,v9,v10,v11,⟨v12,v13,v14,ps,kvs,rfl,s7,pic6,hdt6,hl6,lp6,pok6,ple,pnm⟩⟩:121);refine gn ?_; refine sq9 ?_; intros; show(dG,hi',i<13,aa,ql,lp6.len);obtain⟨dx6,hp6⟩:=pic6.ins;show(bU,(zbv,fun mx mx0=>⟨a,_,_,_,_,rfl,⟨46,hp6,T.c_a,T.n_a2,lkW,(yD 0 w),?_⟩⟩),(zbv,fun my my0=>⟨a,_,_,_,_,rfl,⟨46,hp6,T.c_a,T.n_a0,lkH,(yD 0 ph),?_⟩⟩));show(ae,bx,xbm mx (gg,0<w),bY,xbm my (gg,0<ph));show(tH,x,ex,∃ x,x=1+mx % w)
   show(tH,y,ey,∃ y,y=1+my % ph)
   ext Rg
   rw[<- ex,<- ey];show(bU,(zbv,am nr n0),⟨uZ,a,_,_,_,_,rfl,hp6,T.c_a,T.n_a0,lkH,(yD 0 ph),?_⟩);have bl:=xbm (nr / 16) (gg,0<ph);show(tH,lo,elo,∃ lo,lo=1+nr / 16 % ph)
   ext Rg
   rw[<- elo];show(af,sd,esd,hsd,xvv nr);have bh:=xbm (nr / 300) (gg,0<ph);show(tH,hi0,ehi,∃ h,h=lo+nr / 300 % ph)
   ext rD leS4 q3 hq3;generalize eu:dN H6 q3 [zex,zex,.str "left",.str "right"]=H8;show(AV,s8,hq3,g8,hp8,s8 _ _ hp6);refine⟨(iR 4),q3,_,_,.str sd,rfl,rfl,aV g8,esd,uZ,a,_,_,_,_,rfl,hp8,T.c_a,T.n_a0,lkH,(yD 0 ph),(z6 leS5),am q hq9⟩
   ext Rg
   rw[<- ehi];generalize eu:dN H8 q (Ao lo hi0)=H9;ext fJ s9 hq9 g9;have s69:Same H6 H9:=s8.trans s9;have hp9:=s69 _ _ hp6;show(ay,fq,H6 q=none,s8.free hq9,dD q 4 _ (n6,aV g9,rfl,⟨a,_,_,_,_,rfl,hp9,T.c_a,T.n_a0,lkH,_,_,rfl,q,_,4,4,rfl,rfl,g9,rfl,?_⟩));show(tH,h9,eh9,∃ z:Int,z=(iY ph hi0 ph hi0))
   have keepq:∀(Hz:Hp) (o:HO),Same H6 Hz->Same H6 (upd Hz q o):=fun Hz o s b u e=>by
    show(aB,gY fq,qV)
   show(dG,g10,i0 H9 q (.lst Ka) q (.lst Ka),xj,s10,keepq H9 (.lst Ka) s69);rw[(mh,([V.int x,.int y,.str sd,.int lo,.int hi0].set 4 (V.int (iY ph hi0 ph hi0))),Ka,fh eh9)];revert g10 s10;generalize dN H9 q Ka=H10;intro g10 s10;have hp10:=s10 _ _ hp6
   show(wT,σ'=[D9,bv 7,Lx,bv 8,Hj,cP,j9,bv f,R6,bv x,bv y,Lw,bv lo,Gc,v14]/\∃ lo2 hi2,(au,1<=lo2,lo2<=hi2,hi2<=ph,H' q=some (.lst (Ao lo2 hi2)),Same H6 H'),?_)
   .ext qC; show(iG,iteF (uq,uZ,iR 4,_,lK cc cc))
    .ext AT; refine⟨125,q,_,3,3,rfl,rfl,g10,rfl,?_⟩;show(dG,g11,i0 H10 q (.lst (Ao 1 h9)) q (.lst (Ao 1 h9)),xj,hp11,keepq H10 (.lst (Ao 1 h9)) s10 _ _ hp6);refine⟨a,_,_,_,_,rfl,Sj hp11 ⟨126,q,_,4,4,rfl,rfl,g11,rfl,rfl,⟨85,1,ph,aa,aa,aa,xj,?_⟩⟩⟩;exact keepq _ _ (keepq _ _ s10)
    .exact eG ⟨85,lo,h9,aa,Kf eh9,Kf eh9,g10,s10⟩
   rintro σ' H11 ⟨rfl,lo2,hi2,q1,q2,q3',g11,s11⟩
   show(wT,σ'=[D9,bv 7,Lx,bv 8,Hj,cP,j9,bv f,R6,bv x,bv y,Lw,bv lo,Gc,v14]/\H11=H',(c9,iteF yW));rintro σ' _ ⟨rfl,rfl⟩;refine(dI,?_,tP z);ext qC; show(ae,hl11,s11 _ _ hl6,lp11,lp6.same s11);have pass:∀ HB,Same H11 HB->∃ v8 v9 v10 v11 v12 v13 v14' ps kvs,(au,[D9,bv 7,Lx,bv 8,Hj,cP,j9,bv f,R6,bv x,bv y,Lw,bv lo,Gc,v14]=[D9,bv 7,Lx,bv 8,Hj,cP,j9,bv f,v8,v9,v10,v11,v12,v13,v14'],gG HB,Pic t HB a dp do_ w ph ps,HB do_=some (.dT []),(au,HB l=some (.dK kvs),vY HB,xa8 w ph ps,ps.length<=aH,zgR aH)):=fun HB sB=>by
    have s6B:=s11.trans sB;exact(jw,ii _ _ ps ⟨66,kvs,rfl,s7.trans s6B,nY s6B pic6,zdi,s6B _ _ hl6,(bR,lp6.same s6B,pok6,aa,eF (RO,k,pnm p hp,⟨k,aa,h2⟩))⟩)
   refine(dA,l,kvs,hl11,cI ob nf lx hlx);refine xjt ((ps.map (·.x)).map V.int) (cM ql) hl11 hlx aa (fun i k v z H2 R h1 h2 k2 r=>?_) (fun H2 e2 sA elA=>⟨103,l,ob,_,e2,nf,?_⟩)
   .obtain ⟨p,o,e1,e2,rfl,e3⟩:84:=lp11.get h1;show(zfE,hl11,0)
   revert sA elA;generalize fA H2 l kvs=HA;intro sA elA;refine(Ki,lx,BA elA,xl1 _,Cn);refine ite2 (bZ cx) (bZ cx)
   .rw [cp,xnf] at cx;have nx:x∉ps.map (·.x):=by simpa using cx
    show(ae,hlA,sA _ _ hl11,lpA,lp11.same sA);refine(dA,l,kvs,hlA,cI ob nf ly hly);refine xjt ((ps.map (·.y)).map V.int) (cM ql) hlA hly aa (fun i k v z H2 R h1 h2 k2 r=>?_) (fun H2 e2 sB elB=>⟨103,l,ob,_,e2,nf,?_⟩)
    .obtain ⟨p,o,e1,e2,rfl,e3⟩:84:=lpA.get h1;show(zfE,hlA,1)
    revert sB elB;generalize fA H2 l kvs=HB;intro sB elB;refine(Ki,ly,BA elB,xl1 _,Cn);refine ite2 (bZ cy) (bZ cy)
    .ext AS; rw[cp,xnf] at cy;have ny:y∉ps.map (·.y):=by simpa using cy
     have sAB:=sA.trans sB;show(ae,s6B,s11.trans sAB,picB,nY s6B pic6);obtain⟨dxB,hpB⟩:=picB.ins;have gB:=sAB _ _ g11;show(tH,nm,enm,∃ nm,nm=ltr XE)
     show(ay,isn,FK,(av,enm,xra (B1).1 (B1).2),⟨tW,(iR 26),abc,_,_,rfl,rfl,aP,xs9 (B1).1 (B1).2,?_⟩);rw[mh (eO ⟨#[97+(XE).toNat]⟩) nm enm.symm];have nn:∀ q∈ps,q.nm≠nm:=fun q hq=>by
      show(af,k,hk,e,pnm q hq);rw[e,enm];exact ltr7 hk hi'
     show(ay,len,zdj,aa,⟨a,dxB,_,rfl,hpB,bL,q,_,2,_,rfl,rfl,aV gB,rfl,q,_,3,_,rfl,rfl,aV gB,rfl,q,_,4,_,rfl,rfl,aV gB,rfl,?_⟩);refine⟨a,dp,do_,w,ph,ps,nm,x,y,sd,lo2,hi2,pK,rfl,⟨47,picB,Ca,isn,aa,aa,aa,⟨47,aa,hsd,aa,aa,aa,eF ⟨nn p hp,fun e=>nx (e▸vw),fun e=>ny (e▸vw)⟩,⟨len,aI HC kC picC⟩⟩⟩⟩;show(dL,kv0,hk,picB.pl)
     show(mM,ndp,(pW,iH,b≠dp),xb e fdp);show(ae,hlC,kC _ _ ldp (s6B _ _ hl6),gC,kC _ _ (ne_f gB hk) gB);show(ay,lpC,vY HC,Lp.keepL (fS,kC _ _ (eK hk) e) (lp6.same s6B),(kW,l,y0 Cu hlC (zp kvs.length 13)));rw[xb2 _ (lpC.no nn)];have bt:∀ b u,b≠l->HC b=some u->(pX HC l (.dK HE)):=fun b u nb e=>by
      ext ir nb e
     have tL:Tups HC (fA HC l HE):=(fS,bt _ _ (eK hlC) e);have tl2:∀ b xs,HC b=some Lu->(i0 HC l (.dK HE) b Lu):=(fS,bt _ _ (eK hlC) e);have picL:Pic t (fA HC l HE) a dp do_ w ph (ps++[IH lo2 hi2]) :=
      ⟨let ⟨d,e⟩:=picC.ins; ⟨d,E0 hlC⟩,let ⟨k,e,q⟩:=picC.pl; ⟨k,bt _ _ (Zx ldp) e,q.keep tL⟩,picC.w1,picC.w2,picC.h1,picC.h2,picC.len⟩
     refine jw (ii,_,_,ps++[IH lo2 hi2],⟨66,HE,rfl,(jG,bt _ _ (xb e fl) (kC _ _ (ndp _ _ e) (s6B _ _ (s7 _ _ e)))),picL,?_,xj,bR ?_ ?_ ?_ ?_⟩)
     .have e:=kC _ _ (ne_f zdi hk) zdi;exact E0 hlC
     .exact Lp.snoc (p:=IH lo2 hi2) (Lp.keepL tl2 lpC) (tl2 _ _ gC)
     .exact xa8.snoc pok6 ⟨isn,(SO,1<=x),sK x w,(SO,1<=y),sK y ph,hsd,(SO,1<=lo2),sK lo2 hi2,sK hi2 ph⟩ nn nx ny len
     .show(DY,ps.length,aH)
     .ext C8
      rcases KU with z|z
      .show(eE,k,h1,h2,pnm p z);ext aE k aa h2
      .rw [vO];show(aE,i,aa,(dE,Int.zero_add cG,enm))
    .exact pass HB (sA.trans sB)
   .exact pass HA sA
  .rintro Z H6 (⟨v8,v9,v10,v11,⟨v12,v13,v14,ps,kvs,rfl,s7,pic6,hdt6,hl6,lp6,pok6,ple,pnm⟩⟩:121);ext kB tp htp;show(ki,s8,Same H6 (iB H6 tp aA bQ),cO htp,h _ tp a dp do_ l w ph ps kvs zee xj (nY s8 pic6) (s8 _ _ hdt6) pok6 aa (s8 _ _ hl6) (lp6.same s8) ldp fl fdo aa aa)
noncomputable def Bef (i j:Nat) (s:Seat):Prop:=(Rn s.1)<i\/((Rn s.1)=i/\dS<=j)
inductive xru (t:Adr) (vs:ag) (H:Hp) (Q:VK) (_:XK):Prop
 | mk (a dp do_:Addr) (pw ph c:Int) (ps:aw) (e_:vs=[aA,.int c]) (r_:Pic t H a dp do_ pw ph ps/\(ax do_ (.dT []))/\∀(H':Hp) (l:Addr) (ss:aj) (rs:ao),(bb,Aw do_,jD,Pic t H' a dp do_ pw ph ps,(lT,Sts H' do_ ss,SsOk ph ss,zjm,xag H' ss rs,bQ)))
theorem xth {a b:Int} (x y:Int) (k:Int) (h0:0<=k) (h1:k<4):∃ z:Int,atI [V.int a,V.int b,V.int x,V.int y] k=some (.int z):=by
 have:k=0\/k=1\/k=2\/k=3:=aa
 rcases this with e|e|e|e<;>rw[e]
 .exact eV rfl
 .exact fR b
 .exact fR x
 .exact fR y
theorem ok_an (T:aX):FnOk true P w K mg base aU 6 t.f_an t.d_an Vb (xru t):=by
 refine T.F_an.okn (k:=5) sc_an (aY h) (fun cdv A outer s H vs Q E hr h=>?_)
 .obtain ⟨a,dp,do_,pw,ph,c,ps,rfl,_⟩:=h;rfl
 .obtain ⟨a,dp,do_,pw,ph,c,ps,rfl,h⟩:=h;refine⟨_,xh (wN 2 sc_an.nd (xi))
   (xh (xa5 ZA rfl (xen rfl T.n_enumerate (xa (xb3 (gu (xbu) (xbu))) (xi))) (xaq rfl (gK 3 sc_an.nd 4)) (xh (pS 5 sc_an.nd (pC pJ hr T.g_m T.F_m.kp T.b_m (fT 1 3)))
   (xh (pS 6 sc_an.nd (xak xax (xb3 (xa (pF (Cz on)) (xa (pF (Cz on)) (gu (xm) (xm))))) (xaw (xi9 rfl) rfl T.n_max boot_max (gu (xm) (xr xek (pF on) (xm)))) iD))
   (xk (xa5 ZA rfl (xi8 rfl T.n_range (gu (xm) (zu bT))) (pN 7 sc_an.nd) (xk (xan (jO xdp (xr xv6 (xr xkv lA (xr xek om (xm))) (xm)) (xm)) (xh (xay (xae bD T.c_a T.m_k (ok_k T) aZ T.b_k .nil xp (fT 4 7)))
   (uo (xd8 Jr Jp Jo xb0 iw (K6 (fT 4 7))))) (x9))))))))
   (tf 2)),?_⟩
  refine sq3 ?_; intros; ext fO pic hdt q h;obtain⟨⟨dx,hp⟩,_,w1,w2,h1,h2,_⟩:=CU;show(nW,(by show cV 0; exact ZF _),l,hl);ext mN; show(ay,sl,gG (oh H l),cO hl,⟨ng,am e0 he0⟩);have se:Same (oh H l) (dN (oh H l) e0 MY):=cO he0;show(hX,nle,l,e0,xb xj he0,(kW,e0,aV xj));have Q0:=fun (b:Addr) (u:HO) (nb:b≠do_) (e:iH)=>e
  show(MN,∃(v3 v4 v5 v6 v7:bP) (ss:aj) (rs:ao),Z=[cP,bv c,j9,v3,v4,v5,v6,v7]/\(au,(mT,do_,iH,H6 b=some u),H6 e0=some (.lst MY),Pic t H6 a dp do_ pw ph ps,Sts H6 do_ ss,(au,SsOk ph ss,ss.length<=i*16,(∀ s∈ss,Bef i 0 s),H6 l=some (.lst (rs.map V.ref)),xag H6 ss rs)))
  refine xhs (xs:=MY) (Pv:=Pv) ?_ ?_ ?_ ?_
  .refine jw ⟨106,_,[],[],rfl,fun b u _ e=>se _ _ (sl _ _ e),xj,Pic.same se (Pic.same sl pic),(lu,[],se _ _ (sl _ _ hdt),rfl,J5,fV),(b8,⟨J5,fV,me (nomatch hs)⟩,fV,me (nomatch hs),se _ _ xj,.nil)⟩
  .rintro i Z H6 hi (⟨v3,v4,v5,v6,⟨v7,ss,rs,rfl,k6,he6,_⟩⟩:121);ext wA he6
  .rintro i x p Z H6 hx hp6 (⟨v3,v4,v5,v6,⟨v7,ss,rs,rfl,k6,he6,pic6,st6,sok6,sle,sbef,hl6,sts6⟩⟩:121);have hi:i<2:=by
    show(wz,ft hx)
   obtain⟨sb,esb,isb⟩:∃ sb:Bool,x=FN/\(Rn sb)=i:=by
    have:i=0\/i=1:=aa
    rcases this with e|e<;>subst e
    .exact b5 true zaH
    .exact b5 false zaH
   subst esb;show(GS,iB H6 p cB FN,hp6);refine eD p g7;ext AS; show(bU,⟨c,_,rfl,aa,am nr n0⟩,⟨46,uZ,(iR 65536),uZ,(iR 65536),(z6 leS4),am q4 hq4⟩)
   dsimp only
   generalize eu:dN H7 q4 [.int OH,.int OH,.int 65535,.int 0]=H8;show(AV,s8,hq4,g8,mb,xbm nr Kr);have ixb:0<=zkD/\zkD<4:=by
    ext lQ
   obtain⟨bits,ebits⟩:=xth (a:=OH) (b:=OH) 65535 0 _ ixb.1 ixb.2;show(cR,iR 8,bw _ _ rfl ⟨q4,_,_,.int bits,rfl,rfl,aV g8,ebits,?_⟩);ext zpq; have s68:Same H6 H8:=s7.trans s8;have pic8:=Pic.same s68 pic6;show(vb,dx8,hp8,pic8.ins,⟨a,_,_,_,_,rfl,Sj hp8 (dA,1,ph+1,bR ap ap aa aa,?_)⟩)
   let Pv (j:Nat) (Z:L2.St) (H9:Hp):Prop:=∃(v7:bP) (s9:aj) (rs9:ao),Z=[cP,bv c,j9,bv i,some FN,Lw,bv bits,v7]/\(au,(mT,do_,iH,H9 b=some u),H9 e0=some (.lst MY),Pic t H9 a dp do_ pw ph ps,Sts H9 do_ s9,(au,SsOk ph s9,s9.length<=i*16+j,(∀ s∈s9,Bef i j s),H9 l=some (.lst (rs9.map V.ref)),xag H9 s9 rs9))
   show(Ox,?_)
   .exact ⟨106,_,ss,rs,rfl,(vA,s68 _ _ (k6 b u nb e)),s68 _ _ he6,pic8,st6.same s68,(b8,sok6,aa,sbef,s68 _ _ hl6,sts6.keep (Same.tups s68))⟩
   .rintro j Z H9 hj (⟨v7,s9,rs9,rfl,k9,he9,pic9,st9,⟨sok9,sle9,sbef9,hl9,sts9⟩⟩:106);ext M3; have hj':nM<ph:=aa
    obtain⟨dx9,hp9⟩:=pic9.ins;show(mJ,(sK,kd,1+nM-1),rfl,_,rfl,lK cb cb)
    .ext AT; have nin:(sb,1+nM)∉s9:=fun hm=>by
      rcases sbef9 _ hm with z|⟨_,z⟩
      .dsimp only at z
       omega
      .dsimp only at z
       omega
     refine⟨a,dx9,_,rfl,hp9,bL,?_⟩;refine⟨a,dp,do_,pw,ph,ps,s9,sb,1+nM,rfl,⟨47,pic9,st9,aa,aa,nin,aa,cI HA kA picA stA⟩⟩;show(dL,kvs,hk,id st9);have hlA:=kA _ _ (ne_f hl9 hk) hl9;show(dc,uN hlA,ng,am r hr9)
     dsimp only
     generalize eu:Ae HA r FN (1+nM)=HB;ext fJ sB hr9 gB;show(ae,hlB,sB _ _ hlA,rl9,sts9.len);ext zbN l hlB
     .show(Pc,rs9.length,33)
     have bt:∀ b u,b≠l->HB b=some u->(pX HB l (.lst (rs9.map V.ref++[.ref r]))):=fun b u nb e=>by
      ext ir nb e
     have tA:Tups H9 HA:=(fS,kA _ _ (eK hk) e);show(ay,tL,Tups HB (dN HB l (rs9.map V.ref++[.ref r])),(fS,bt _ _ (eK hlB) e),⟨106,_,s9++[(sb,1+nM)],rs9++[r],rfl,(vA,bt _ _ (xb e hl) (sB _ _ (kA _ _ nb (k9 b u nb e)))),?_,?_,?_,b8 ?_ ?_ ?_ ?_ ?_⟩)
     .refine bt _ _ (Zx nle) (sB _ _ (kA _ _ (ne_f he9 hk) he9))
     .have picB:=Pic.same sB picA;exact⟨let ⟨d,e⟩:=picB.ins; ⟨d,E0 hlB⟩,let ⟨k,e,q⟩:=picB.pl; ⟨k,E0 hlB,q.keep tL⟩,picB.w1,picB.w2,picB.h1,picB.h2,picB.len⟩
     .show(eE,k2,e2,r2,stA.same sB);show(aE,k2,bt _ _ (ne_f e2 hlB) e2,r2)
     .obtain ⟨nd,le,rw9⟩:43:=sok9;show(dc,?_,?_,yO)
      .rw [ZH];show(aE,nd,ah,fun x hx y hy e=>nin zll)
      .show(DY,s9.length,32)
      .rcases Z3.mp hs with z|z
       .exact rw9 s z
       .rw [vO];show(aO,(SO,1<=1+nM),(sK,1+nM,ph))
     .show(DY,s9.length,i*16+hV)
     .intro s hs
      rcases Z3.mp hs with z|z
      .rcases sbef9 s z with y|⟨y1,y2⟩
       .ext cH y
       .ext jy y1 aa
      .rw [vO];show(jy,isb,(sK,1+nM,dM hV))
     .rw [xj,Zq];rfl
     .exact xag.snoc (sts9.keep (fS,tL _ _ (sB _ _ (tA _ _ e)))) (tL _ _ gB)
    .refine ⟨106,_,s9,rs9,rfl,k9,he9,pic9,st9,znb⟩;rcases sbef9 s hs with y|⟨y1,y2⟩
     .ext cH y
     .ext jy y1 aa
   .rintro Z H9 (⟨v7,s9,rs9,rfl,k9,he9,pic9,st9,⟨sok9,sle9,sbef9,hl9,sts9⟩⟩:106);refine jw ⟨106,_,s9,rs9,rfl,k9,he9,pic9,st9,znb⟩;rcases sbef9 s hs with y|⟨y1,y2⟩
    .ext cH aa
    .ext cH aa
  .rintro Z H6 (⟨v3,v4,v5,v6,⟨v7,ss,rs,rfl,k6,he6,pic6,st6,sok6,sle,sbef,hl6,sts6⟩⟩:121);exact (q H6 l ss rs k6 hl pic6 st6 sok6 hl6 sts6)
theorem xvl (qs:ao) {k:Nat} (c:k<=qs.length):cutV (qs.map V.ref) (some pL) none=(qs.drop k).map V.ref:=by
 unfold cutV;rw[HT.sIx_nat,HT.sIx_none,Za,<- Ql,<- Qk,zaq,Jx ah]
theorem xvx (qs:ao) {k:Nat} (c:k<=qs.length):cutV (qs.map V.ref) none (some pL)=(qs.take k).map V.ref:=by
 unfold cutV;rw[HT.sIx_nat,HT.sIx_none,Za,<- Ql,<- Qk,zaq];simp
theorem PrsL.append {H:Hp}{ps ps':aG}{qs qs':ao} (h:sI) (h':PrsL H ps' qs'):PrsL H (ps++ps') (qs++qs'):=by
 induction h with
 | nil=>exact h'
 | cons h _ ih=>ext yo
theorem PrsL.take {H:Hp}{ps:aG}{qs:ao} (h:sI) (k:Nat):PrsL H (ps.take k) (qs.take k):=by
 induction h generalizing k with
 | nil=>simpa using PrsL.nil
 | cons h r ih =>
  cases k with
  | zero=>ext gW
  | succ k=>exact .cons h (ih k)
theorem PrsL.rev {H:Hp}{ps:aG}{qs:ao} (h:sI):PrsL H ps.reverse qs.reverse:=by
 induction h with
 | nil=>ext gW
 | cons h r ih =>
  rw[List.reverse_cons,List.reverse_cons];exact ih.append (dJ h .nil)
theorem xj8 {α:Type} (l:b7) (k:Nat):(l.drop k++(l.take k).reverse).Perm l :=
 (List.perm_append_comm.trans ((zqV).append_right _)).trans (fW Y7)
theorem xta {ps:aw} (nd:(ps.map (·.nm)).Nodup) {p:Pt} (h:ub):xZ (aC,cC z.nm p.nm) p:=by
 induction ps with
 | nil=>cases h
 | cons q ps ih =>
  ext vg;rcases LC with rfl|z
  .exact JA ah
  .rw [Y0]
   .exact ih gF z
   .intro e
    exact nd.1 (Ze.mpr ⟨p,z,zmu⟩)
theorem xii {H:Hp}{ss:aj}:∀{ys:ag},(∀ y∈ys,(zaz uh))->∃ s8 rs8,ys=rs8.map V.ref/\xag H s8 rs8/\∀ s∈s8,uh
 | [],_=>(dA,[],[],.nil,fun s h=>nomatch h)
 | jH,h=>by
  obtain⟨s,q,h1,h2,h3⟩:83:=h y Zn;obtain⟨s8,rs8,e1,e2,e3⟩:83:=xii (ys:=ys) fun y' hy=>h y' tU
  refine(bC,s::s8,q::rs8,fQ e1 h2,dJ h3 e2,am s' hs');rcases dU hs' with rfl|z
  .exact h1
  .exact e3 _ z
noncomputable def xk8 (ss ts:aj) (pt:Pt) (i:Nat):Bool:=match ss[i]? with|some s=>zjU|none=>false
theorem xex {ss ts:aj}{pt:Pt}{i:Nat}{s:Seat} (h:aF ss s):xk8 ss ts pt i=zjU:=by
 unfold xk8;rw[h]
theorem xui {rs:ao}{m:Int} (h:0<rs.length):∃(j:Nat) (q:Addr),(b9 rs q)/\m % zcb=nM/\j<rs.length/\atI (rs.map V.ref) (m % zcb)=some cu:=by
 show(vK,b,xbm m (gg,kd<zcb));obtain⟨j,hj⟩:=JI a;rw[hj] at b ⊢;have lt:j<rs.length:=aa
 exact⟨84,j,rs[j],jh,rfl,lt,xdu (fQ Zf jh)⟩
inductive xss (vs:ag) (H:Hp) (Q:VK) (_:XK):Prop
 | mk (d ls:Addr) (c w h:Int) (ps:aw) (kvs:aL) (ss:aj) (rs:ao) (e_:vs=[dF,.ref ls,.int c]) (r_:(∃ ob,ax d fZ)/\mY/\zcF/\xa8 w h ps/\(Nr ls)/\IA/\SsOk h ss/\∀ ob H' l prs qs,Same (d4 d fZ) H'->Mr->PrsL H' prs qs->TD->Ed->(prs.map (·.1.nm)).Nodup->(prs.map (·.2)).Nodup->Q bQ H')
theorem ok_aq (T:aX):FnOk true P w K mg base aU 3 t.f_aq t.d_aq UJ (xss):=by
 refine T.F_aq.okn (k:=2) sc_aq (aY h) (fun cdv A outer s H vs Q E hr h=>?_)
 .obtain ⟨d,ls,c,w,h,ps,kvs,ss,rs,rfl,_⟩:=h;rfl
 .obtain ⟨d,ls,c,w,h,ps,kvs,ss,rs,rfl,h⟩:=h;refine⟨_,xh (wN 3 sc_aq.nd (xi))
   (xh (Hi 4 sc_aq.nd (xb3 (xi)))
   (xh (xa5 ZA rfl (xq0 rfl T.n_enumerate pQ) (xaq rfl (LV (pN 5 sc_aq.nd) (xg3 (i:=6) sc_aq.nd rfl (QP rfl)))) (xh (pS 7 sc_aq.nd (pC pJ hr T.g_m T.F_m.kp T.b_m (fM 2 (xr xa3 (xm) (pv 5)))))
   (xh (xb6 rfl (xas (zs:=["_law_seat"]) (ys:=["_law_taken", "_law_points", "_law_seats", "_law_name"]) (fr:=[4,0,1,6]) (N0:=["_law_points", "_law_seats", "_law_cell_here", "_law_pairs", "_law_taken", "_law_k", "_law_name", "_law_number", "_law_some", "_law_seat", "_law_turn"]) (sc0:=xl s_aq) aP rfl rfl rfl) uc jn jb (fun _ _ _ _ _=>xgy (PW.pt (xfh (zjr bD) (xeg (xbg (pC (ok_a1 T) hr T.g_a1 T.F_a1.kp T.b_a1 (dR 2 (dR 3 (dR 4 (gu As As)))))))))) Ou (j:=8) rfl pH)
   (xk (xcc (xan (PW.pt (xfh (pj Ia 8 (xb3 (xi))) (xeg (jO xkj (pF om) (xm))))) (xh (pS 9 sc_aq.nd (jS 8 (xr xbd (Cz om) (D6 xcj (jj 8)))))
   (xh (xay (xd8 Jr Jp Jo xb0 jK (jj 9)))
   (uo (xd8 Jr Jp Jo xb0 iu (K6 (dR 6 (gu (uK 9) (uK 9)))))))) (x9)))))))
   (xh (pS 10 sc_aq.nd (xr xbd (pC pJ hr T.g_m T.F_m.kp T.b_m (fM 2 (xm))) (zu zbn)))
   (dH (xr xqk (xdv xe9 (pv 3) (xee (pv 10)) xeh) (xn3 rfl rfl T.n_list rfl T.n_reversed (xa (xdv xe9 (pv 3) xeh (xee (pv 10))) (xi)))))))),?_⟩
  refine sq5 ?_; intros; obtain⟨hd,lp,p6,pok,hls,sl,⟨sok,q⟩⟩:47:=h;obtain⟨ob,hd⟩:=hd
  .show(ae,rl,sl.len,sl32,T5);show(nW,(by show cV 0; exact ZF _),lq,hlq);show(GT,oh H lq,hlq);show(nW,(by show cV 0; exact ZF _),lt,hlt);generalize eu:oh H1 lt=H2;ext mN; show(AV,s2,hlt,g2,hd2,RT hd);have nlt:lt≠lq:=jJ g1 hlt;have flt:bz lt:=s1.free hlt;show(jF,dq,lq,d,by ext Cv z hlq hd)
   show(hX,dt,lt,d,(aC,by ext Cv z flt hd),(bw,d,kvs,rfl,.inr (ip ob hd2)));show(tH,B0,eB0,∃ B0,B0=(d4 d fZ))
   have nq:B0 lq=none:=(nD,eB0,xg dq,hlq)
   have nt:B0 lt=none:=(nD,eB0,xg dt,flt)
   have b0:(mT,d,iH,B0 b=some u):=(vA,nD eB0 mD e)
   have hdB:B0 d=some fZ:=av eB0 xj
   show(dG,lpB,vY B0,Lp.keepL zpe lp,hlsB,b0 _ _ (ne_f hls hd) hls);have slB:xag B0 ss rs:=sl.keep zpe;have pdB:PD B0 d ps:=⟨kvs,.inr (wE hdB),lpB⟩
   have s3:Same B0 H2:=fun b u e=>by
    by_cases c:b=d
    .subst c;rw[hdB] at e;ext ja e hd2
    .rw [eB0,xg c] at e;exact s2 _ _ (s1 _ _ e)
   let Pv (i:Nat) (Z:L2.St) (H5:Hp):Prop:=∃(v5 v6 v7 v8 v9:bP) (prs:aG) (qs:ao) (ts:aj) (tq:ao),Z=[zI,zk,bv c,aT lq,aT lt,v5,v6,v7,v8,v9,none]/\Same B0 H5/\H5 lq=some (.lst (qs.map V.ref))/\PrsL H5 prs qs/\TD/\prs.length<=i/\H5 lt=some (.lst (tq.map V.ref))/\xag H5 ts tq/\ts.length<=i/\ts=prs.map (·.2)/\ts.Nodup/\(prs.map (·.1.nm)).Nodup/\(zkE i)
   refine xoy (Pv:=Pv) ?_ (fun _ _ _ _ ⟨_,_,_,_,_,_,_,_,_,_,z,_⟩=>z _ _ hdB) ?_ ?_
   .refine (jw,ii [] [] [] ⟨66,[],rfl,s3,?_,.nil,O3,⟨47,bp,?_,.nil,bp,rfl,J5,⟨J5,O3⟩⟩⟩)
    .exact jp g1
    .exact g2
   .rintro i k x p5 Z H5 hkx hp5 (⟨v5,v6,v7,v8,⟨v9,prs,qs,ts,tq,rfl,s5,hq5,pr5,ok5,le5,ht5,ts5,tl5,te5,tn5,nn5,ix5⟩⟩:121);obtain⟨pt,o,e1,rfl,rfl,e3⟩:84:=lpB.get hkx;show(ae,ilt,ft e1,mpt,Zm e1);show(ae,fd,xta pok.nn mpt,okp,zX mpt);show(ae,ql5,pr5.len,tl5',ts5.len);rw[show kV (Jd pt.nm)=V.str pt.nm from rfl];show(GR,iB H5 p5 cB iX,hp5);refine eD p5 g6;ext AS; show(rV,c,_,aa,am nr n0);have s56:=s5.trans s6;show(ae,hls6,s56 _ _ hlsB,sl6,slB.keep (Same.tups s56));show(ae,ts6,ts5.keep (Same.tups s6),ht6,Fu);show(oO,ls,hls6,l8,hl8,xeb (aV hls6) (gE,zp rs.length 33) hl8 (xk8 ss ts pt) (wB,zaz (aF ss s)) (fun i y H H' tp ⟨s,q,a1,a2,a3⟩=>(bC,s,q,a1,a2,lC a3)) (fun i x H7 hx s7 N M hN hM=>?_) (fun ys H7 s7 el7 ly f7=>?_))
    .rw [Zf] at hx;ext Kj;show(af,s0,hs0,es0,(sl6.keep (Same.tups s7)).get ho);have s67:=s56.trans s7;refine⟨1,2,xcm s0,ts.map xcm,xg1 es0,(kS,(zob).dv (s7 _ _ ht6),CW c1)⟩
     .rw [cp,xep] at c1;refine(dD,o,0,_,vk es0 ⟨o,_,1,_,rfl,rfl,eA es0,rfl,d,ls,ps,ss,rs,pt,s0.1,s0.2,rfl,pdB.same s67,fd,s67 _ _ hlsB,slB.keep (Same.tups s67),am H8 s8⟩);show(iG,lK c2 c2)
      .exact (hN _ _ s8 (by rw[xex hs0,c1,c2]; rfl) (cN,s0,o,hs0,s8 _ _ es0))
      .exact hM _ s8 (by rw[xex hs0,Jh.mpr c2,Q2])
     .rw [cp,xep] at c1;exact iteF (hM _ jV (by rw[xex hs0,Jh.mpr c1,JV]))
    obtain⟨s8,rs8,rfl,sl8,mem8'⟩:83:=xii (H:=H7) (ss:=ss.filter fun s=>cJ (s∉ts)) (ys:=ys) fun y hy=>by
     obtain⟨j,hj⟩:=List.mem_iff_getElem?.mp hy;show(je,lj,ft hj,ly,lj);obtain⟨s,q,a1,a2,a3⟩:83:=f7 j y _ hj (Zb lj);show(je,fr,(ZC.mp (Zm (Zb lj))).2,xex a1,fr);exact bC s q (Fl,Zm a1,(uT,(Bool.and_eq_true_iff.mp fr).1)) a2 a3
    show(bo,mem8,∀ s∈s8,uh,s,hs,(ZC.mp (mem8' s hs)).1);show(ae,rl8,sl8.len,s57,s56.trans s7);show(ae,hq7,Ew hq5,ht7,s7 _ _ ht6);show(ae,pr7,(zof).keep (Same.tups s7),ts7,zob);refine(dI,?_,tP z);ext qC; show(nW,(by show cV 0; exact ZF _),l9,hl9);generalize eu:oh H7 l9=H9;ext CY s9 hl9;show(ae,g9,ug_e eu,s59,s57.trans s9);have no:∀ Hx,Same H9 Hx->∃(w5 w6 w7 w8 w9:bP) (prs:aG) (qs:ao) (ts:aj) (tq:ao),[yF d,yF ls,D9,yF lq,yF lt,bv i,some iX,Lw,aT l8,v9,none]=[yF d,yF ls,D9,yF lq,yF lt,w5,w6,w7,w8,w9,none]/\Same B0 Hx/\Hx lq=some (.lst (qs.map V.ref))/\PrsL Hx prs qs/\TD/\prs.length<=aH/\Hx lt=some (.lst (tq.map V.ref))/\xag Hx ts tq/\ts.length<=aH/\ts=prs.map (·.2)/\ts.Nodup/\(prs.map (·.1.nm)).Nodup/\(zkE aH):=fun Hx sx =>
     (jw,ii prs qs ts ⟨66,tq,rfl,s59.trans sx,sx _ _ (s9 _ _ hq7),(zoe).keep (Same.tups sx),ok5,⟨47,aa,sx _ _ (s9 _ _ ht7),(zod).keep (Same.tups sx),aa,te5,tn5,⟨nn5,(eF,let ⟨k,a1,a2⟩:=ix5 p hp; ⟨k,aa,a2⟩)⟩⟩⟩)
    refine⟨2,1,.lst (s8.map xcm),.lst [],(zoc).dv (s9 _ _ el7),(kS,.lst (aV g9) rfl (FB,x,d,by simp at h1),CW c1)⟩
    .have n8:0<rs8.length:=by
      rcases Nat.eq_zero_or_pos rs8.length with z|z
      .rw [rl8] at z;show(je,e,List.eq_nil_of_length_eq_zero z,e,c1);ext dy c1 ap
      .exact z
     refine(rB,iR 7,_,lK c2 c2)
     .ext AS; obtain⟨j,qa,hja,_,_,atj⟩:84:=xui (m:=nr / 7) n8;show(af,sa,hsa,eqa,(zoc).get hja);have msa:=mem8 _ (Zm hsa);have fsa:sa∉ts:=of_decide_eq_true (ZC.mp (mem8' _ (Zm hsa))).2;obtain⟨sr1,sr2⟩:=(rK).2 sa msa;show(cR,uZ,⟨84,l8,_,rfl,BA (s9 _ _ el7),Cl,⟨l8,_,_,LN,rfl,rfl,aV (s9 _ _ el7),(gE atj),?_⟩⟩);show(Ag,ht9,s9 _ _ ht7,hq9,s9 _ _ hq7,⟨uN ht9,lt,_,_,rfl,rfl,ht9,?_,?_⟩)
      .show(Pc,tq.length,13)
      show(tO,bt,lt,H9 b=some u,pX H9 lt (.lst (tq.map V.ref++[.ref qa])),Kw)
      show(Ag,eqa2,bt _ _ (ne_f eqa ht9) eqa,hqA,bt _ _ (Zx nlt) hq9,⟨uN hqA,qa,_,0,_,rfl,rfl,eA eqa2,rfl,qa,_,1,_,rfl,rfl,eA eqa2,rfl,vq,am pb hpb⟩);have fpb:H9 pb=none:=by
       cases e:H9 pb with
       | none=>rfl
       | some u =>
        by_cases z:pb=lt
        .rw [z,xj] at hpb; cases hpb
        .rw [xg z,e] at hpb; cases hpb
      show(jF,nbt,lt,pb,by ext Cv z xj hpb)
      have nbq:lq≠pb:=xb hqA hpb;have sB:=EG zpu hpb;show(zbN,lq,sB _ _ hqA)
      .show(Pc,qs.length,13)
      have up:(pW,b≠lt,b≠lq->H9 b=some u->(pX zha lq (.lst (qs.map V.ref++[.ref pb])))):=fun b u n1 n2 e=>by
       show(ir,n2,sB _ _ (bt _ _ n1 e))
      show(ay,upT,Tups H9 (dN zha lq (qs.map V.ref++[.ref pb])),(fS,up _ _ (eK ht9) (eK hq9) e),jw (ii,prs++[(pt,sa)],qs++[pb],ts++[sa],⟨66,tq++[qa],rfl,(jG,up _ _ (xb e nt) (xb e nq) (s59 _ _ e)),?_,?_,iZ,⟨47,?_,?_,?_,?_,fQ te5 Zq,?_,⟨?_,iZ⟩⟩⟩))
      .rw [xj,Zq];rfl
      .refine PrsL.snoc ((zoe).keep upT) ?_;ext rC nbq xj
      .rcases KU with z|z
       .exact ok5 p z
       .rw [vO];exact⟨okp.nm,fd,sr1,sr2,bR okp.x1 okp.x2 okp.y1 okp.y2⟩
      .show(DY,prs.length,aH)
      .rw [xg nlt,xg nbt,xj,Zq];rfl
      .exact xag.snoc ((zod).keep upT) (upT _ _ eqa)
      .show(DY,ts.length,aH)
      .rw [ZH];show(dc,tn5,ah,bJ a ha b hb e);rw[Zp.mp hb] at e;ext cZ;exact fsa ha
      .ext MJ nn5;ext zT ha;have hb':b=pt.nm:=qy
       show(af,k,a1,a2,ix5 p hp);have z:=xc6 (·.nm) pok.nn ilt aK (Zm (av,List.getElem?_take_of_lt a1,a2));show(bB,Zb ilt,e1,e1);exact z (e.trans hb')
      .rcases KU with z|z
       .show(eE,k,a1,a2,ix5 p z);ext aE k aa a2
       .rw [vO];ext aE i aa e1
     .exact no _ jV
    .exact iteF (no _ jV)
   .rintro Z H5 (⟨v5,v6,v7,v8,⟨v9,prs,qs,ts,tq,rfl,s5,hq5,pr5,ok5,le5,ht5,ts5,tl5,te5,tn5,nn5,ix5⟩⟩:121);show(je,ql5,pr5.len,lp.len,le5);show(rV,c,0,ap,fun m m0=>⟨84,lq,_,rfl,BA hq5,(yD,kd,(bA,(Ie).length)+1),?_⟩)
    dsimp only
    obtain⟨a1,a2⟩:=xbm m (gg,kd<(bA,(Ie).length)+1);obtain⟨tn,htn⟩:=JI a1;rw[htn] at a2 ⊢;have tle:tn<=qs.length:=by
     rw[Za] at a2;omega
    refine(jB,bA tn,IO lq hq5 pa hpa);rw[xvl qs tle] at *;generalize eu:upd H5 pa (.lst ((qs.drop tn).map V.ref))=H6;show(AV,s6,hpa,g6,hq6,kG hq5);show(dc,bA tn,rfl,IO lq hq6 pb hpb);rw[xvx qs tle] at *;show(GS,upd H6 pb (.lst ((qs.take tn).map V.ref)),hpb);refine IO pb g7 pc hpc;rw[<- List.map_reverse] at *;generalize eu:upd H7 pc (.lst ((qs.take tn).reverse.map V.ref))=H8;ext CY s8 hpc;show(ae,g8,ug_e eu,s58,(EL).trans s8);show(ae,pm,xj8 prs tn,pq,xj8 qs tn);show(ae,plen,pm.length_eq,qlen,pq.length_eq);rw[Zs] at qlen;refine Ad pa pc rfl (FC,zeE g6,g8,?_,pd,hpd)
    .rw [Za,Za,qlen];exact ZZ (aa:qs.length<=12) ap
    rw[<- Zq];show(ae,s9,xv (o:=.lst ((zjb).map V.ref)) jV hpd,pr8,pr5.keep (Same.tups s58));refine q ob _ pd (prs.drop tn++(prs.take tn).reverse) zjb ?_ xj (((pr8.drop tn).append (pr8.take tn).rev).keep (Same.tups s9)) (eF,ok5 p (pm.mem_iff.mp hp)) aa ((pm.map _).nodup_iff.mpr nn5) ((pm.map _).nodup_iff.mpr (te5▸tn5));rw[<- eB0];exact (s5.trans s58).trans s9
noncomputable def exP (p1 p2 p:Pr):Pr:=(aK,(nh,bH,i8,p2.2,nh bH i9 p1.2 bW))
theorem xoj {p1 p2:Pr}{A:aG} (h:∀ p∈A,bH≠i8/\bH≠i9):A.map (exP p1 p2)=A:=by
 induction A with
 | nil=>rfl
 | cons p A ih =>
  rw[Zo,ih fun p' hp=>h p' (Zj _ hp)]
  congr 1
  show(vK,b,h p Zn);unfold exP;rw[if_neg a,aM b]
theorem xqg {prs A B C:aG}{p1 p2:Pr} (nd:(prs.map (·.1.nm)).Nodup) (e:prs=zpt):prs.map (exP p1 p2)=zit/\i8≠i9:=by
 ext cZ;rw[Zq,ZH] at nd;obtain⟨_,n2,n3⟩:43:=nd;rw[Zo,ZB,Zq,Zo,ZH] at n2;obtain⟨m1,_,m3,m4⟩:44:=n2;rw[ZB] at m3;show(hX,ne,i8,i9,(aC,m1 (jX z)),⟨?_,ne⟩);rw[Zq,Zo,Zq,Zo];rw[xoj (A:=A),xoj (A:=B),xoj (A:=C)]
 .unfold exP;rw[cp,if_neg (Zx ne),cp]
 .ext C8
  show(cR,(aC,m1 ?_),(aC,m3.1 ?_))
  .rw [<- z];exact Z6 _ (Zj _ vw)
  .rw [<- z];exact Ze.mpr BV
 .ext C8
  show(cR,(aC,m1 ?_),(aC,m4 _ vw _ Zn z));show(ja,z,ZR _ vw)
 .ext C8
  ext cR zqz zqz
theorem xi4 {w:Int}{ss:aj}{tr:Tr}:∀{prs:aG},tr∈cans w ss prs->(zgQ,tr=(i8,i9,c))
 | [],h=>ff
 | mK,h=>by
  rcases Z3.mp h with z|z
  .show(eE,p',hp',e,JR.mp z);show(af,c,hc,e2,Zh.mp e);show(Gk,B,C,e3,List.append_of_mem hp');exact gU [] p B p' (bC,C,c,fh e3,hc,e2.symm)
  .obtain ⟨A,p1,B,p2,⟨C,c,e,h1,h2⟩⟩:121:=xi4 z;exact(gU,p::A,p1,B,p2,bC C c wj h1 h2)
inductive Sd (H:Hp):bM aG aL
 | nil:Sd H [] []
 | cons {p:Pr}{t:Addr}{ps:aG}{kvs:aL} (h:qD t bW) (r:EM):Sd H (p::ps) ((.inr bH,zJ)::kvs)
theorem Sd.keep {H H':Hp} (s:kM) {ps:aG}{kvs:aL} (h:EM):Sd H' ps kvs:=by
 induction h with
 | nil=>ext gW
 | cons h _ ih=>ext AC
theorem Sd.len {H:Hp}{ps:aG}{kvs:aL} (h:EM):zbq:=by
 induction h with
 | nil=>rfl
 | cons _ _ ih=>ext oA
theorem Sd.keys {H:Hp}{ps:aG}{kvs:aL} (h:EM):kvs.map (·.1)=(RR,Jd bH):=by
 induction h with
 | nil=>rfl
 | cons _ _ ih=>ext oA
theorem Sd.get {H:Hp}{ps:aG}{kvs:aL} (h:EM) {i:Nat}{k:Key}{x:V} (e:h7):∃ p,(aF ps p)/\k=.inr bH:=by
 induction h generalizing i with
 | nil=>ext lw
 | @cons p q ps kvs h _ ih =>
  cases i with
  | zero =>
   simp at e;ext wQ p SD
  | succ j=>ext rh
theorem Sd.find {H:Hp}{ps:aG}{kvs:aL} (h:EM) (nd:(ps.map (·.1.nm)).Nodup) {p:Pr} (m:ub):∃ t,nJ (RU bH) zJ (qD t bW):=by
 induction h with
 | nil=>cases m
 | @cons p' t ps kvs h _ ih =>
  ext vg;rcases dU m with rfl|z
  .exact ⟨t,xbe rfl,h⟩
  .show(eE,t',h1,h2,ih gF z);show(dc,t',?_,h2);show(aB,(To,nd.1 (Ze.mpr ⟨p,z,(Jd.inj e).symm⟩)),h1)
theorem xhz {k:Key}:∀{kvs:aL},k∉kvs.map (·.1)->Oj
 | [],_=>rfl
 | kv::r,h=>by
  ext vK b kv;rw[(To,h (dE e Zn))];exact xhz (aC,h (Zj _ z))
theorem xjf {d:Addr}{H:Hp}:∀{kvs kv0:aL},((kv0++kvs).map (·.1)).Nodup->(kv0++kvs).length<1000->xd7 d (fA H d kv0) U9 (fA H d (kv0++kvs))
 | [],kv0,_,_=>by
  show(aB,YL,.nil)
 | kv::kvs,kv0,nd,hl=>by
  have fr:valV kv0 uB=none:=xhz fun z=>by
   rw[Zq,ZH] at nd;exact (gF).2 _ z _ Zn rfl
  have hp:=DPut.k (k:=uB) (v:=kv.2) (xj (H:=H) (a:=d) (o:=.dK kv0)) (ZJ (by rw[Zs] at hl; omega:kv0.length<1000) ap);rw[xed,xb2 _ fr] at hp;show(je,ih,xjf (d:=d) (H:=H) (kvs:=kvs) (kv0:=kv0++[kv]) (av QA nd) (av QA hl),QA,ih);exact .cons hp ih
theorem xsj {H:Hp}:∀{prs:aG}{ys:ag},(wa prs.length)->(∀(i:Nat) (y:V) (p:Pr),(aF ys y)->Kd->∃ q t,ziJ) ->
    ∃(ws:Em) (kvs:aL),ys=znq/\(∀ p∈ws,(eR aK [ij,eI]))/\ws.map (·.2)=U9/\Sd H prs kvs
  | [],[],_,_=>⟨84,[],[],rfl,fun p h=>(nomatch h),rfl,.nil⟩
  | [],df,h,_=>ff
  | df,[],h,_=>ff
  | p::prs,jH,hl,h=>by
    obtain⟨q,t,e1,e2,e3⟩:83:=h 0 y p rfl rfl;obtain⟨ws,kvs,a1,a2,a3,a4⟩:84:=xsj (prs:=prs) (ys:=ys) (Nat.succ.inj hl) fun i y' p' hy hp=>h aH y' p' hy hp
    refine⟨84,(q,pD,zJ)::ws,(.inr bH,zJ)::kvs,fQ e1 a1,am p' hp',by rw[Zo,Zo,a3]; rfl,dJ e3 a4⟩;rcases dU hp' with rfl|z
    . exact e2
    . exact a2 _ z
theorem PrsL.pick {H:Hp}:(zgF,aG,(∀(j:Nat) (y:V) (s:Pr),(Eh,ss,s,∃ q,y=cu/\(AJ s))),PrsL H ss rs)
 | [],[],_,_=>jB [] .nil
 | [],df,h,_=>ff
 | df,[],h,_=>ff
 | s::ss,jH,hl,h=>by
  show(af,q,e1,e2,h 0 y s rfl rfl);show(af,rs,e3,e4,PrsL.pick (ss:=ss) (ys:=ys) (Nat.succ.inj hl) fun j y' s' hy hs=>h hV y' s' hy hs)
  show(aE,q::rs,fQ e1 e3,dJ e2 e4)
noncomputable def xkg (kvs:aL) (i:Nat):V:=match kvs[i]? with|some kv=>kV kv.1|none=>.non
theorem xpr {Z:L2.St}{fr:pi}{te:TE}{l d:Addr}{H1:Hp}{Q:VK}{ob:Obj}{kvs:aL} (hd:H1 d=some fZ) (hl:uX) (hn:Hv) (F:Nat->pP) (stab:Ml)
    (step:∀(i:Nat) (k:Key) (x:V) (H2:Hp),h7->m8->∀(N:pP),(∀ y H',SI->Uc->N y H')->te ((R5).set 0 (some qh)) H2 N)
    (fin:GD kvs.length (Du TL)):xdy HU 1 (xcd 0) Z fr xdj te l H1 Q:=by
  refine xnk kvs.length hn hl (xkg kvs) (fun i H lt s=>⟨s _ _ hd,lt⟩) (fun i H v H' lt s y=>?_) (fun H s=>⟨s _ _ hd,bp⟩) R8 F stab (fun i H2 lt s N M h1 h2=>?_) (fun ys H2 s e ly f=>?_)
  . obtain⟨e,k,x,hk,hv⟩:=y
    show(cR,e,?_);unfold xkg;rw[hk,hv]
  . ext zmT hk jh
    have ek:xkg kvs i=qh:=by
      unfold xkg;rw[hk]
    show(aB,ek,xhm (i:=i) (step i k x H2 hk s N zke))
  . rw[L2.filter_all,Jb] at ly
    refine fin ys H2 s e ly znG;rw[L2.filter_all,Yb (d7,ft hy)]
inductive xwt (K:Zd) (vs:ag) (H:Hp) (Q:VK) (_:XK):Prop
 | mk (l:Addr) (prs:aG) (qs:ao) (p1 p2:Pr) (e_:vs=[bQ,.str i8,.str i9]) (r_:wW/\uP/\(prs.map (·.1.nm)).Nodup/\(au,Ed,p1∈prs,p2∈prs,i8≠i9,∀ H' l' qs',(zr,cL,bz l',H' l'=some (.lst (qs'.map V.ref)),PrsL H' DD qs',l')))
theorem xlq (T:aX):FnOk true P w K mg base aU 1 t.f_exchanged t.d_exchanged VW (xwt K):=by
 refine T.F_exchanged.okn (k:=0) xel (aY h) (fun cdv A outer s H vs Q E hr h=>?_)
 .obtain ⟨l,prs,qs,p1,p2,rfl,_⟩:=h;rfl
 .obtain ⟨l,prs,qs,p1,p2,rfl,h⟩:=h;refine⟨_,xh (Hi 3 xel.nd (Gu (xa7 rfl (xas (zs:=["each", "side", "row"]) (ys:=[]) (fr:=[]) (N0:=UO) (sc0:=xl xc9) aP rfl rfl rfl) (z0 0) wR xU eB (mR (dR 0 (K6 B4))))))
   (xh (Hi 4 xel.nd (xtb (xlr eJ iw (xlr iw eJ (xs2))) rfl rfl ah ap))
   (dH (xa7 rfl (xas (zs:=["each"]) (ys:=["seats", "giver"]) (fr:=[3,4]) (N0:=UO) (sc0:=xl xc9) aP rfl rfl rfl) (xnm (pv 3)) jn jb eB (U4 (yt 1 (xrh kf iw bD bD (rB rfl rfl rfl))))))),?_⟩
  refine sq3 ?_; intros; obtain⟨hl,pr,nd,len,m1,m2,⟨ne,q⟩⟩:47:=h;have ql:=pr.len;show(oO,l,hl,l1,hl1,xba (aV hl) zov hl1 (wB,∃ p q t,(aF prs p)/\ziJ) (fun i y H H' tp ⟨p,q,t,a1,a2,a3,a4⟩=>⟨104,p,q,t,a1,a2,lC a3,lC a4⟩) (fun i x H2 hx s2 N hN=>?_) (fun ys H1 s1 el1 ly f1=>?_))
  .rw [Zf] at hx;ext Kj;show(af,p,hpp,ep,(zbC s2).get ho);refine eD o ep;show(cR,ng,fun q1 hq1=>⟨ng,am q2 hq2⟩);show(ae,sa,EG [za ij,.int eI] hq1,sb,EG [pD,.ref q1] hq2);exact lE (sa.trans sb) ⟨104,p,q2,q1,hpp,rfl,xj,sb _ _ xj⟩
  ext wy ql;obtain⟨ws,kvs,rfl,w2,w3,sd1⟩:84:=xsj (H:=H1) (prs:=prs) (ys:=ys) ly fun i y p hy hp=>by
   obtain⟨p',q',t',a1,a2,a3,a4⟩:104:=f1 i y hy;ext bB hp a1 a1;exact bC q' t' a2 a3 a4
  have kl:=sd1.len;have knd:(kvs.map (·.1)).Nodup:=by
   show(aB,sd1.keys,xto (f:=fun p:Pr=>bH) (k:=Jd) o5 (fun _ _ e=>Jd.inj e) nd)
  show(bU,⟨l1,ws,rfl,el1,w2,am d hd⟩,bC CG _ gT (av,w3,xjf (kv0:=[]) knd jQ) ?_);rw[List.nil_append];generalize eu:fA H1 d kvs=H2;show(AV,s2,hd,g2,sd2,sd1.keep (Same.tups s2));refine fun gd hgd=>⟨xj,kg WL (by show 2<=15; decide) ?_⟩
  rw[xed];generalize eu:fA H2 gd (xev [] WL)=H3;ext fJ s3 hgd g3;show(ae,g23,qm g2,sd3,sd2.keep (Same.tups s3));show(hX,ngd,gd,d,(aC,tG g2 hgd),(dA,d,kvs,g23,aI ob l4 hl4));show(jF,nl4,l4,d,tG xj hl4)
  have hl43:H3 l4=none:=by rwa [xg nl4] at hl4
  show(tO,k4,d,H3 b=some u,pX H3 d fZ,Kw)
  show(cA,t4,Tups H3 (upd H3 d fZ),(fS,k4 _ _ (eK g23) e),xpr xj hl4 (zp kvs.length 13) (wB,∃ p q,Kd/\y=cu/\(AJ Ir)) (fun i y H H' tp ⟨p,q,a1,a2,a3⟩=>(bC,p,q,a1,a2,lC a3)) (fun i k x H5 hk s5 N hN=>?_) (fun ys H5 s5 el5 ly5 f5=>?_))
  .show(eE,p,hpp,rfl,sd3.get hk);show(ae,mp,Zm hpp,sd5,(sd3.keep t4).keep (Same.tups s5));show(ae,gd5,dZ (k4 _ _ ngd g3),d5,dZ (xj (H:=H3) (a:=d) (o:=fZ)));ext rD leS1 q1 hq1;have s6:=EG [pD] hq1;obtain⟨r,hr,ev,es⟩:∃ r∈prs,(valV (xev [] WL) (Jd bH)).getD pD=V.str (oy r)/\(Ir).2=r.2:=by
    show ∃ r∈prs,(valV (putK (putK [] (Jd i8) (V.str i9)) (Jd i9) (V.str i8)) (Jd bH)).getD pD=V.str (oy r)/\(Ir).2=r.2;rw[xcn,xcn];unfold exP;by_cases c1:bH=i8
    .refine (bi,p2,m2,?_,az c1);rw[(jR,ne (c1.symm.trans (Jd.inj z))),Ga c1];rfl
    .by_cases c2:bH=i9
     .refine bi p1 m1 ?_ (cK,aM c1,az c2);rw[Ga c2];rfl
     .refine bi p mp ?_ (cK,aM c1,aM c2);rw[(jR,c2 (Jd.inj z)),(jR,c1 (Jd.inj z))];rfl
   show(af,t,ht1,ht2,(sd5.keep (Same.tups s6)).find nd hr);refine(kg,gd,.inl (fC,.inl (kG gd5)),⟨_,(vF,.inr bH,kG gd5),d,zJ,rfl,?_,q1,t,_,_,rfl,rfl,eA xj,eA ht2,ah,vq,aC (by simp[xar] at z),fun _ q2 hq2=>?_⟩)
   .rw [show kV (Jd bH)=V.str bH from rfl,ev];show(cH,(cN,kvs,.inr (oy r),.inr (wE,kG d5),ht1.symm))
   .refine lE (s6.trans (cO hq2)) (cN p q2 hpp ?_);rw[xj];unfold prV;rw[(mh,(Ir).1,aK,rfl),(mh,(Ir).2,r.2,es)];rfl
  .obtain ⟨rs5,rfl,pr5⟩:62:=PrsL.pick (H:=H5) (ss:=DD) (ys:=ys) (by rw[ly5,kl,Za]) fun j y s hy hs=>by
    obtain⟨p,q',a1,a2,a3⟩:83:=f5 j y hy;rw[Zf,a1] at hs;ext Aa hs q' a2 a3
   have s03:=(mX).trans s3;refine q H5 l4 rs5 (jG,dZ (k4 _ _ (xb tI hd) (s03 _ _ e))) (s03.free hl43) el5 pr5
noncomputable def totI (w:Int) (prs:aG):Int:=(prs.map (xa9 w)).sum
noncomputable def upI (w:Int) (prs:aG):Int:=(prs.map (uprI w)).sum
noncomputable def nmF (n:Str) (p:Pr):Bool:=cC bH n
noncomputable def nxtP (w:Int) (ss:aj) (prs:aG):aG:=match W9 with
 | some tr=>match RN tr.1,RN (aW tr) with
  | some p1,some p2=>DD
  | _,_=>prs
 | none=>prs
noncomputable def itP (w:Int) (ss:aj) (prs:aG):Nat->aG
 | 0=>prs
 | dk=>Bg
noncomputable def trP (w:Int) (ss:aj) (prs:aG):Tr:=(W9).getD ("", "",0,0)
noncomputable def stP (w:Int) (ss:aj) (prs:aG) (k:Nat):Tr × iW:=(trP w ss sC,totI w (itP w ss prs dk),upI w (itP w ss prs dk))
structure GPr (ps:aw) (w h:Int) (prs:aG):Prop where
 ok:TD
 nn:(prs.map (·.1.nm)).Nodup
 ns:(prs.map (·.2)).Nodup
 le:Ed
theorem xg2 {prs:aG} (nd:(prs.map (·.1.nm)).Nodup) {p:Pr} (h:p∈prs):prs.find? (nmF bH)=some p:=by
 induction prs with
 | nil=>cases h
 | cons q ps ih =>
  ext vg;rcases LC with rfl|z
  .exact JA (cM nmF)
  .rw [Y0]
   .exact ih gF z
   .intro e
    exact nd.1 (Ze.mpr ⟨p,z,zmu⟩)
theorem x_ne {ps:aw} (nx:(ps.map (·.x)).Nodup):∀{p q:Pt},(bb,ub,q∈ps,p.nm≠q.nm,p.x≠q.x):=by
 induction ps with
 | nil=>intro p q h; cases h
 | cons r ps ih =>
  intro p q hp hq hn e;rw[Zo,ZB] at nx;rcases Lv with rfl|z
  .rcases dU hq with rfl|z2
   .exact hn rfl
   .exact nx.1 (Ze.mpr ⟨q,z2,e.symm⟩)
  .rcases dU hq with rfl|z2
   .exact nx.1 (Ze.mpr ⟨p,z,e⟩)
   .exact ih nx.2 z z2 hn e
theorem xs6 {ps:aw}{w h:Int}{p:Pr} (o:PM) (hw:rH) (hh:rJ):(pZ,xa9 w p,45):=by
 obtain⟨_,_,r1,r2,x1,x2,y1,y2⟩:=o;unfold xa9 lenI;ext AN
theorem xuh {ps:aw}{w h:Int}{p:Pr} (o:PM) (hw:rH) (hh:rJ):pZ TN 450:=by
 obtain⟨_,_,r1,r2,x1,x2,y1,y2⟩:=o;have a0:pZ TQ 30:=NG
 have b0:pZ GH 15:=KC
 unfold uprI;show(cR,Int.mul_nonneg a0.1 b0.1,?_);show(CV,Int.mul_le_mul_of_nonneg_right a0.2 b0.1,Int.mul_le_mul_of_nonneg_left b0.2 (sJ,kd<=30));exact Int.le_trans h1 h2
theorem xol {f:Pr->Int}{c:Int} (c0:0<=c):∀{prs:aG},(∀ p∈prs,(pZ,f p,c))->(pZ,(prs.map f).sum,c*(bA prs.length))
 | [],_=>ah
 | mK,h=>by
  show(CV,h p Zn,xol c0 (prs:=r) fun q hq=>h q (Zj _ hq));rw[Zo,Jc,ZL];rw[(gg,(dM Kc)=(bA r.length)+1),Int.mul_add,Int.mul_one];omega
theorem GPr.tot {ps:aw}{w h:Int}{prs:aG} (g:D8) (hw:rH) (hh:rJ):pZ yy 540:=by
 show(ae,z,xol (f:=xa9 w) (c:=45) ap (eF,xs6 (g.ok p hp) hw hh),l,g.le);unfold totI;omega
theorem GPr.up {ps:aw}{w h:Int}{prs:aG} (g:D8) (hw:rH) (hh:rJ):pZ Kt 5400:=by
 show(ae,z,xol (f:=uprI w) (c:=450) ap (eF,xuh (g.ok p hp) hw hh),l,g.le);unfold upI;omega
theorem xk5 {ps:aw}{w h:Int}{ss:aj}{prs:aG}{tr:Tr} (nx:(ps.map (·.x)).Nodup) (g:D8) (ht:W9=some tr) :
    ∃ A p1 B p2 C c,prs=A++p1::(B++p2::C)/\canO w ss p1 p2=some c/\tr=(i8,i9,c)/\i8≠i9/\uO=DD/\uO=zit/\GPr ps w h uO /\
      (totI w uO<yy\/(aR,aW p1,aW p2,totI w uO=yy,Kt<upI w uO)):=by
  obtain⟨A,p1,B,p2,⟨C,c,e,hc,et⟩⟩:121:=xi4 (List.mem_of_mem_head? ht);obtain⟨em,ne⟩:=xqg g.nn e;ext Vr prs
  show(ae,o1,g.ok p1 m1,o2,g.ok p2 m2);have en:uO=DD:=by
    unfold nxtP;rw[ht];subst et;show (match RN i8,RN i9 with
    | some p1,some p2=>DD
    | _,_=>prs)=_
    rw[xg2 g.nn m1,xg2 g.nn m2]
  have el:=en.trans em;have hm:(BD (cel w p1) w p2)≠none:=fun z=>by
    unfold canO at hc;rw[z] at hc;ext Lg hc
  have hx:p1.1.x≠p2.1.x:=x_ne nx (Zy o1.fd) (Zy o2.fd) ne;have hs:(aW p1,bS p1)≠(aW p2,bS p2):=fun z=>by
    have nn:=g.ns;rw[e,Zq,Zo,ZH,ZB] at nn;exact (aW nn).1 (jX,mh p1.2 p2.2 z)
  show(mE,key,Geo.ex_pair (y1:=p1.1.y) (y2:=p2.1.y) o1.xy.1 (aW o1.xy) o2.xy.1 (aW o2.xy) hx hs hm,gU A p1 B p2 ⟨86,C,c,e,hc,et,ne,en,ip el ⟨iZ,?_,?_,?_⟩⟩)
  . rw[el] at hp
    have old:∀ q,q∈A\/q∈B\/q∈C->q∈prs:=fun q hq=>by
      rw[e];simp only[Z3,Zt];rcases hq with z|z|z
      . ext cH z
      . show(gX,.inr (.inl z))
      . exact .inr (.inr (.inr (.inr z)))
    simp only[Z3,Zt] at hp;rcases hp with z|rfl|z|rfl|z
    . exact g.ok p (old p (.inl z))
    . exact⟨o1.nm,o1.fd,o2.r1,o2.r2,o1.xy⟩
    . exact g.ok p (old p (.inr (.inl z)))
    . exact⟨o2.nm,o2.fd,o1.r1,o1.r2,o2.xy⟩
    . exact g.ok p (old p (.inr (.inr z)))
  . show(je,nn,g.nn,e,nn);rw[el];simpa using nn
  . show(je,nn,g.ns,e,nn);rw[el];refine (Yr.nodup_iff ?_).mp nn;simp only[Zq,Zo];refine Yr.append_left _ ?_;exact ((Qf.cons p1.2).trans (Yr.swap _ _ _)).trans (Qf.symm.cons p2.2)
  . show(cY,en,Za,g.le)
  . have t0:yy=totI w A+(xa9 w p1+(totI w B+(xa9 w p2+totI w C))):=by
      unfold totI;rw[e];simp
    have t1:totI w uO=totI w A+(xa9 w II+(totI w B+(xa9 w IJ+totI w C))):=by
      unfold totI;rw[el];simp
    have u0:Kt=(Rk A p1 (Rk,B,p2,upI w C)):=by
      unfold upI;rw[e];simp
    have u1:upI w uO=(Rk A II (Rk,B,IJ,upI w C)):=by
      unfold upI;rw[el];simp
    have key2:(zoU<zoV)\/(aR,aW p1,aW p2,zoU=zoV,uprI w p1+uprI w p2<uprI w II+uprI w IJ):=key;rcases key2 with z|⟨z1,z2,z3⟩
    . ext cH aa
    . show(gX,⟨z1,aa,aa⟩)
noncomputable def muP (w:Int) (prs:aG):Nat:=(yy*6000+(6000-Kt)).toNat
inductive StL (H:Hp):bM IW ao
 | nil:StL H [] []
 | cons {p:Tr × iW}{t q:Addr}{ps:IW}{ts:ao} (h:zgG) (hq:zkq) (r:R1):StL H (p::ps) (t::ts)
theorem StL.keep {H H':Hp} (s:kM) {ps:IW}{ts:ao} (h:R1):StL H' ps ts:=by
 induction h with
 | nil=>ext gW
 | cons h hq _ ih=>ext zno
theorem StL.len {H:Hp}{ps:IW}{ts:ao} (h:R1):zB ts.length:=by
 induction h with
 | nil=>rfl
 | cons _ _ _ ih=>ext oA
theorem StL.snoc {H:Hp}{ps:IW}{ts:ao} (h:R1) {p:Tr × iW}{t q:Addr} (e:zgG) (eq:zkq):StL H Cg (ts++[t]):=by
 induction h with
 | nil=>exact .cons e eq .nil
 | cons h hq _ ih=>exact .cons h hq ih
inductive xwr (K:Zd) (t:Adr) (vs:ag) (H:Hp) (Q:VK) (_:XK):Prop
 | mk (a dp do_ l:Addr) (pw ph:Int) (ps:aw) (ss:aj) (prs:aG) (qs:ao) (e_:IY) (r_:Pic t H a dp do_ pw ph ps/\sH/\wW/\uP/\GPr ps pw ph prs/\(ps.map (·.x)).Nodup/\∀(H':Hp) (tp ln ls:Addr) (n:Nat) (qs' sq:ao),bb cL (bz ln) (HF tp [.ref ln,.ref ls]) (bg,H' ln=some (.lst (qs'.map V.ref)),PrsL H' (Kh n) qs',H' ls=some (.lst (sq.map V.ref)),StL H' ((Z1 n).map (stP pw ss prs)) sq,(zr,(∀ k<n,(Hy nN)≠none),(∀ k,GPr ps pw ph nN),cans pw ss (Kh n)=[],ln≠ls,tp)))
theorem xio {ps:aw}{w h:Int}{ss:aj}{prs:aG} (nx:(ps.map (·.x)).Nodup) (g:D8):∀ k,GPr ps w h sC
 | 0=>g
 | dk=>by
  have ih:=Xy;show GPr ps w h Bg;cases e:zpY with
  | none =>
   unfold nxtP;ext aB e ih
  | some tr =>
   obtain⟨_,_,_,_,⟨_,_,_,_,_,_,_,_,g',_⟩⟩:121:=xk5 nx ih e;exact g'
theorem xk4 (T:aX):FnOk true P w K mg base aU 9 t.f_uncrossed t.d_uncrossed iC (xwr K t):=by
 refine T.F_uncrossed.okn (k:=8) xbr (aY h) (fun cdv A outer s H vs Q E hr h=>?_)
 .obtain ⟨a,dp,do_,l,pw,ph,ps,ss,prs,qs,rfl,_⟩:=h;rfl
 .obtain ⟨a,dp,do_,l,pw,ph,ps,ss,prs,qs,rfl,h⟩:=h;refine⟨_,xh (pS 2 xbr.nd (xcw xkt rfl T.n_list boot_list iM))
   (xh (wN 3 xbr.nd (xi))
   (xh (pS 4 xbr.nd (pC (xcv T) hr T.g_exchangeable T.F_exchangeable.kp T.b_exchangeable yV))
   (xh (xfz ZA (KH 4) (xh (Dw 4 5 xbr.nd (gK 6 xbr.nd 7))
   (xh (pS 2 xbr.nd (pC (xlq T) hr T.g_exchanged T.F_exchanged.kp T.b_exchanged (eS 2 5 6)))
   (xh (xay (xd8 Jr Jp Jo xb0 iu (K6 (dR 5 (dR 6 (dR 7 (gu (pC (xft T) hr T.g_total T.F_total.kp T.b_total yV) (pC (xf1 T) hr T.g_upright T.F_upright.kp T.b_upright yV))))))))
   (xk (pS 4 xbr.nd (pC (xcv T) hr T.g_exchangeable T.F_exchangeable.kp T.b_exchangeable yV)))))))
   (BC BY)))),?_⟩
  refine sq5 ?_; intros; obtain⟨pic,st,hl,pr,g,nx,q⟩:47:=h;obtain⟨⟨dx0,hp⟩,_,w1,w2,h1,h2,_⟩:=CU;show(mE,gk,xio (ss:=ss) nx g,(dA,l,_,BA hl,am ln0 hln0));show(GT,d4 ln0 G7,hln0);show(nW,(by show cV 0; exact ZF _),ls,hls1);have fls:bz ls:=s1.free hls1;generalize eu:oh H1 ls=H2;ext CY s2 hls1;show(ae,g2,ug_e eu,s02,s1.trans s2);show(hX,nls,ln0,ls,xb g1 hls1,⟨a,dp,do_,ln0,pw,ph,ps,ss,prs,qs,rfl,⟨46,nT s02,st.same s02,jp g1,zbC s02,g.ok,cI H3 v s3 tv⟩⟩);ext zpr; have s03:=s02.trans s3;have mub:∀ k,muP pw nN<3300000:=fun k=>by
   show(ae,z1,(gk k).tot w2 h2,z2,(gk k).up w2 h2);unfold muP;omega
  refine(ip,fun m Z H5=>∃(k:Nat) (ln:Addr) (v v5 v6 v7:bP) (vf:V) (qs5 sq:ao),m=muP pw nN/\k+m<=muP pw prs/\Z=[cP,j9,Cq,zk,some vf,v5,v6,v7]/\(au,FR,bz ln,ln≠ls,H5 ln=some (.lst (qs5.map V.ref)),(au,PrsL H5 nN qs5,H5 ls=some (.lst (sq.map V.ref)),StL H5 ((Z1 k).map (stP pw ss prs)) sq,(∀ j<k,(Hy (Kh j))≠none),TrV H5 (Hy nN) vf)),(ii,0,ln0,none,ii _ _ v ⟨86,qs,[],rfl,(sK,0+muP pw prs,_),rfl,s03,hln0,⟨47,nls,s3 _ _ (s2 _ _ g1),zbC s03,qm g2,.nil,(Ge,absurd hj (Nat.not_lt_zero _)),tv⟩⟩));rintro m Z H5 (⟨k,ln,_,v5,⟨v6,v7,vf,qs5,sq,rfl,km,rfl,s5,fln,nln,hln,pr5,hls5,st5,hk5,tv5⟩⟩:121);have sl:=st5.len;rw[Za,Jb] at sl;have mb:=mub 0;rcases tv5 with⟨en,rfl⟩|⟨tr,qf,qc,et,rfl,hqf,hqc⟩
  .refine lX S0;ext kB tp htp;have s6:=EG [.ref ln,.ref ls] htp;exact q _ tp ln ls k qs5 sq Bp fln xj (kG hln) zof (kG hls5) (st5.keep (Same.tups s6)) hk5 gk (List.head?_eq_none_iff.mp en) nln
  .refine lX ST;obtain⟨A,p1,B,p2,⟨C,c,e,hc,et2,ne,en,el,g',dec⟩⟩:121:=xk5 nx (gk k) et;subst et2;ext Vr nN
   have mlt:muP pw j4<muP pw nN:=by
    show(ae,z1,(gk k).tot w2 h2,z2,(gk k).up w2 h2);show(ae,z3,(C3).tot w2 h2,z4,(C3).up w2 h2);have dec':totI pw j4<totI pw nN\/(aR,aW p1,aW p2,totI pw j4=totI pw nN,upI pw nN<upI pw j4):=dec;unfold muP;omega
   let Pm (σ':L2.St) (H9:Hp):Prop:=∃(ln:Addr) (v5 v6 v7:bP) (vf:V) (qs5 sq:ao),(au,σ'=[cP,j9,Cq,zk,some vf,v5,v6,v7],gG H9,bz ln,ln≠ls,(au,H9 ln=some (.lst (qs5.map V.ref)),PrsL H9 j4 qs5,H9 ls=some (.lst (sq.map V.ref)),StL H9 ((Z1 dk).map (stP pw ss prs)) sq,TrV H9 (Hy j4) vf))
   show(fE,Pm,?_)
   .rintro σ' H9 (⟨ln',v5,v6,v7,⟨vf,qs9,sq9,e1,e2,e3,e4,e5,e6,e7,e8,e9⟩⟩:121);refine dI mlt (gU,dk,ln',none,v5,gU v6 v7 vf qs9 ⟨66,sq9,rfl,aa,e1,e2,e3,⟨47,e4,e5,e6,e7,e8,am j hj,e9⟩⟩);by_cases cj:j=k
    .subst cj;ext aB et gb
    .exact hk5 j aa
   refine sq4 ?_; intros; show(bU,eD qf hqf,⟨ln,_,qs5,p1,p2,rfl,⟨47,hln,pr5,(gk k).nn,(gk k).le,m1,m2,⟨ne,fun H6 l6 qs6 s6 fl6 hl6 pr6=>?_⟩⟩⟩);rw[<- en] at pr6;have pr6':PrsL H6 j4 qs6:=pr6;have s06:=s5.trans s6;have fl6':bz l6:=s5.free fl6;show(hX,nl6,l6,ls,(aC,tG hls5 fl6),⟨uN (kG hls5),a,dp,do_,l6,pw,ph,ps,j4,qs6,rfl,nT s06,hl6,pr6',(C3).ok,(C3).le,am H7 s7⟩);have s07:=s06.trans s7;refine⟨a,dp,do_,l6,pw,ph,ps,j4,qs6,rfl,⟨46,nT s07,s7 _ _ hl6,znA,(C3).ok,(C3).le,am H8 s8⟩⟩;ext rD leS5 p9 hp9;have s58:=(EL).trans s8;show(ae,s9,EG (Vs,((j4).map (xa9 pw)).sum,((j4).map (uprI pw)).sum) hp9,hls8,s9 _ _ (s58 _ _ hls5));ext zbN ls hls8
   .rw [Za];exact ZJ (by have z:muP pw prs<3300000:=mb; omega:sq.length<3300000) ap
   have np9:p9≠ls:=jJ (s58 _ _ hls5) hp9;show(tH,HA,eHA,∃ HA,HA=(dN (nE H8 p9 (Vs,((j4).map (xa9 pw)).sum,((j4).map (uprI pw)).sum)) ls (sq.map V.ref++[.ref p9])))
   have kA:(mT,ls,H8 b=some u,HA b=some u):=fun b u nb e=>by
    show(cY,eHA,mD,s9 _ _ e)
   have tA:Tups H8 HA:=(fS,kA _ _ (eK (s58 _ _ hls5)) e);show(mM,s0A,gG HA,kA _ _ (xb e fls) (s8 _ _ (s07 _ _ e)));have gA:HA ls=some (.lst ((sq++[p9]).map V.ref)):=by
    rw[eHA,xj,Zq];rfl
   have gp:HA p9=some (.tup (Vs,((j4).map (xa9 pw)).sum,((j4).map (uprI pw)).sum)):=by
    show(cY,eHA,xg np9,xj)
   have hlA:=kA _ _ nl6 (zeE hl6);show(ae,prA,((znA).keep (Same.tups s8)).keep tA,stA,(st5.keep (Same.tups s58)).keep tA);rw[<- eHA];show(bU,⟨a,dp,do_,l6,pw,ph,ps,ss,j4,qs6,rfl,⟨46,nT s0A,st.same s0A,hlA,prA,(C3).ok,cI HB vB sB tvB⟩⟩,gU l6 _ _ _ ⟨106,vB,qs6,sq++[p9],rfl,s0A.trans sB,fl6',nl6,sB _ _ hlA,(bR,prA.keep (Same.tups sB),sB _ _ gA,?_,tvB)⟩);rw[Y6,Zq];refine StL.snoc (p:=stP pw ss prs k) (q:=qc) (stA.keep (Same.tups sB)) ?_ ?_
   .have etr:trP pw ss (itP pw ss prs k)=(p1.1.nm,p2.1.nm,c):=by
     unfold trP;rw[et];rfl
    unfold stP;rw[etr];exact sB _ _ gp
   .have etr:trP pw ss (itP pw ss prs k)=(p1.1.nm,p2.1.nm,c):=by
     unfold trP;rw[et];rfl
    unfold stP;rw[etr];exact sB _ _ (tA _ _ (s58 _ _ hqc))
noncomputable abbrev seF (d1 d2:Addr):kK:=[("seat_of",.ref d1),("holder_of",.ref d2)]
theorem lkSo {d1 d2:Addr}:(SS).lookup (eO "seat_of")=some (.ref d1):=by
 unfold seF;show(DP,"seat_of")
theorem lkHo {d1 d2:Addr}:(SS).lookup (eO "holder_of")=some (.ref d2):=by
 unfold seF;rw[Z5,He "holder_of" "seat_of"];show Jm (eO "holder_of") zni=_;show(DP,"holder_of")
theorem xkm {d1 d2:Addr}{m:Str} (e:((["seat_of", "holder_of"]:ai).all fun k=>!(m == k))=true):(SS).lookup m=none:=by
 ext Vp;ext La e1 e2 e;unfold seF;ext PB e1 zni;rw[Z5,e2];rfl
noncomputable def SoD (H:Hp) (d:Addr) (n:Nat) (so:bq):Prop:=∃ kvs:aL,CF/\kvs.length<=n/\∀ nm,((CC nm)->Ct=none)/\∀ s,so nm=some s->(zdM xE)
noncomputable def HoD (H:Hp) (d:Addr) (n:Nat) (ho:aD):Prop:=∃ kvs:dC,(oS d)/\kvs.length<=n/\∀ s,Hu=(ho s).map V.str
theorem SoD.keep {H H':Hp}{d:Addr}{n:Nat}{so:bq} (s:Rt) (tp:kM) (h:M9 d):SoD H' d n so:=by
 ext HQ;exact(bi,kvs,h _ e,l,fun nm=>⟨(f nm).1,(me,let ⟨q,a,b⟩:=(f nm).2 s hs; ⟨q,a,lC b⟩)⟩)
theorem HoD.keep {H H':Hp}{d:Addr}{n:Nat}{ho:aD} (s:Rs) (h:M9 d):HoD H' d n ho:=by
 ext af kvs e r s;show(aE,kvs,h _ e,r)
theorem HoD.le {H:Hp}{d:Addr}{n k:Nat}{ho:aD} (s:Rs) (h:n<=k):HoD H d k ho:=by
 ext zkR
theorem SoD.le {H:Hp}{d:Addr}{n k:Nat}{so:bq} (s:Rt) (h:n<=k):SoD H d k so:=by
 ext zkR
theorem HoD.get {H:Hp}{d:Addr}{n:Nat}{ho:aD} (s:Rs) {b:Addr}{c:Seat} (eb:qD b c):DGet H d dX ((ho c).map V.str):=by
 ext HQ;show(ja,f c,(Cc,xt c,e,eb))
theorem HoD.put {H:Hp}{d:Addr}{n:Nat}{ho:aD} (s:Rs) (hn:n<1000) {b:Addr}{c:Seat} (eb:qD b c) (x:Str) :
    (zfg,dX,kc,HoD H' d eX (Kp.upd1 ho c x)):=by
  ext HQ;refine⟨65,_,DPut.t (k:=xt c) e eb (xbo aa),bi _ xj ?_ l0,zmD,zky,zhX⟩
  . show(db,xbp kvs (xt c) (.str x))
  . ext zpQ c
    . rw[Ga zc,az zc]
      rfl
    . rw[(lM,y,zc (xdf y)),aM zc]
      exact f z
theorem SoD.put {H:Hp}{d:Addr}{n:Nat}{so:bq} (s:Rt) (hn:n<1000) {b:Addr}{c:Seat} (eb:qD b c) (x:Str) :
    (zfg,kc,dX,SoD H' d eX (Kp.upd1 so x c)):=by
  ext HQ;show(ay,tp,Tups H (fA H d (putK kvs wm dX)),zky,⟨65,_,y0 wm e (xbo aa),bi _ xj ?_ l0,zmD,tp,zhX⟩)
  . show(db,xbp kvs wm dX)
  . ext zpQ x
    . subst zc
      rw[cp,cp];show(aO,zaN,me (jB,b,by show(rQ,hs,lC eb)))
    . rw[(lM,y,zc (Jd.inj y)),aM zc]
      show(aO,(f z).1,(me,let ⟨q,a1,a2⟩:=(f z).2 s hs; ⟨q,a1,lC a2⟩))
theorem SoD.get {H:Hp}{d:Addr}{n:Nat}{so:bq} (s:Rt) (x:Str):((CC x)/\DGet H d kc none)\/∃ c q,so x=some c/\DGet H d kc Gc/\(ax q (.tup (xar c))):=by
 ext HQ;have g:=vF wm e;cases z:so x with
 | none =>
  rw[(f x).1 z] at g;show(cH,eG g)
 | some c =>
  show(af,q,e1,e2,(f x).2 c z);rw[e1] at g;show(gX,dA c q g e2)
structure Sg (t:Adr) (H:Hp) (p d1 d2:Addr) (n:Nat) (so:bq) (ho:aD):Prop where
 ins:∃ dx,ax p (mH t.C_ac SS)
 so:SoD H d1 n so
 ho:HoD H d2 n ho
theorem Sg.keep {t:Adr}{H H':Hp}{p d1 d2:Addr}{n:Nat}{so:bq}{ho:aD} (g:Sg t H p d1 d2 n so ho) {d:Addr} (h1:p≠d) (h2:d1≠d) (h3:d2≠d) (tp:kM) (k:Aw d):Sg t H' p d1 d2 n so ho :=
 (zmL,(kZ,k _ _ h1 e),g.so.keep tp (mB,k _ _ h2 e),(mB,k _ _ h3 e))
theorem Sg.same {t:Adr}{H H':Hp}{p d1 d2:Addr}{n:Nat}{so:bq}{ho:aD} (g:Sg t H p d1 d2 n so ho) (s:cL):Sg t H' p d1 d2 n so ho :=
 (zmL,kZ qV,g.so.keep (Same.tups s) (mB qV),mB qV)
theorem Sg.le {t:Adr}{H:Hp}{p d1 d2:Addr}{n k:Nat}{so:bq}{ho:aD} (g:Sg t H p d1 d2 n so ho) (h:n<=k):Sg t H p d1 d2 k so ho:=⟨g.ins,g.so.le h,g.ho.le h⟩
noncomputable def KB (H H':Hp) (d1 d2:Addr):Prop:=(pW,b≠d1,b≠d2->iH->H' b=some u)
inductive xqx (t:Adr) (vs:ag) (H:Hp) (Q:VK) (_:XK):Prop
 | mk (p dx:Addr) (e_:vs=[cq]) (r_:(ax p (mH t.C_ac []))/\∀ H' d1 d2,(lT,bz d1,bz d2,Aw p,Sg t H' p d1 d2 0 fb fb,.non))
structure xsa (room:fj) (so:bq) (asked:aD) (rk:Str->Nat) (name:Str):Prop where
 rm:∀ s a,oH->CJ
 no:∀ s a,oH->(CC a)->a=name
 up:∀ s a,oH->∀ s1,so a=some s1->∃ a1,asked s1=some a1/\rk a1<rk a
 le:∀ s a,oH->rk a<=20
inductive xv4 (t:Adr) (vs:ag) (H:Hp) (Q:VK) (_:XK):Prop
 | mk (p d1 d2 d3 q:Addr) (n m:Nat) (room:fj) (so:bq) (ho asked:aD) (rk:Str->Nat) (name a:Str) (s:Seat) (e_:vs=[cq,.ref d3,cu]) (r_:xE/\(au,Sg t H p d1 d2 n so ho,HoD H d3 m asked,d3≠d2,n<=600,(au,xS,Bv,oH,xsa room so asked rk name,∀ H' so' ho',PU->(gZ dz Bw)->(lT,Sg t H' p d1 d2 (n+30) so' ho',Oc,Ha (Iw||sF),xP sf XJ,.non))))
theorem ok_ah (T:aX):FnOk true P w K mg base aU 1 t.f_ah t.d_ah jv (xqx t):=by
 refine T.F_ah.okn (k:=0) sc_ah (aY h) (fun cdv A outer s H vs Q E hr h=>?_)
 .ext DL p dx
 .ext Ek p dx;refine⟨_,xh TJ
   (RK (xej)),?_⟩
  refine sq2 ?_; intros; ext i4 hp h;refine am d1 hd1;show(hX,n1,p,d1,xb hp hd1,⟨126,p,_,dx,_,rfl,(cS n1 hp),T.c_ac,T.n_a5,(oI 0),am d2 hd2⟩);have n2:p≠d2:=xb xj hd2;show(hX,n3,d1,d2,xb (av Cm xj) hd2,⟨126,p,_,dx,_,rfl,(cS n2 xj),T.c_ac,T.n_a4,(oI 1),?_⟩);have hd2':bz d2:=by
   have z:=hd2;show(tu,kn n2,kn n3)
  refine q _ d1 d2 hd1 hd2' vM ⟨kZ xj,(bi,[],?_,bp,fun nm=>⟨o5,fun s z=>(nomatch z)⟩),(bi,[],?_,bp,fun s=>rfl)⟩
  .rw [mD,gY hd2',mD,gY hd1];exact e
  .rw [Cm,xg n3,Cm];exact xj
  .show(bI,kn n2,xj)
theorem ok_o (T:aX):FnOk true P w K mg base aU 1 t.f_o t.d_o (kT "asked_by" "free_seat") (xv4 t):=by
 refine T.F_o.okn (k:=0) sc_o (aY h) (fun cdv A outer s H vs Q E hr h=>?_)
 .obtain ⟨p,d1,d2,d3,q0,n,m,room,so,ho,asked,rk,name,a0,s0,rfl,_⟩:=h;rfl
 .obtain ⟨p,d1,d2,d3,q0,n,m,room,so,ho,asked,rk,name,a0,s0,rfl,h⟩:=h;refine⟨_,xh (pS 3 sc_o.nd (pv 2))
   (xk (xfz ZA (KH 3) (xh (pS 4 sc_o.nd (yt 1 iu))
   (xh (pS 5 sc_o.nd (xq1 kf bT jK (rB rfl rfl rfl)))
   (xh (qY bT jK iu)
   (xh (qY bT iu jK)
   (xk (pS 3 sc_o.nd (pv 5))))))))),?_⟩
  refine sq2 ?_; intros; obtain⟨hq0,sg,had,n32,n600,mt,⟨hs0,as0,ch,q⟩⟩:47:=h;refine gx ?_; refine wo ?_; intros; show(fE,fun k Z H1=>∃ v3 v4 v5,(jI,Z,ziG,KB H H1 d1 d2,(gZ,dz,H1 b=none),((aR,v3,.non,k=0,(zmE,Sg t H1 p d1 d2 (n+30) so' ho',Iw||sF))\/∃(qs:Addr) (s:Seat) (a:Str) (so1:bq) (ho1:aD) (n1:Nat),(au,v3=.ref qs,H1 qs=some (.tup (xar s)),oH,k=rk a+1,(zfh,Sg t H1 p d1 d2 n1 so1 ho1,n+20,GX)))),⟨124,rk a0+1,_,_,_,rfl,fun b u _ _ e=>e,fun b e=>e,.inr (gU q0 s0 a0 so ⟨86,ho,n,rfl,hq0,as0,rfl,mt.hand hs0,(bR,iD,sg,(d7,ch.le _ _ as0),.refl _)⟩)⟩);rintro k Z H1 (⟨v3,v4,v5,rfl,kb,fr,cs⟩:104);refine lX ?_;rcases cs with⟨rfl,rfl,so',ho',sg',mt',dm',rc'⟩|⟨qs,s,a,so1,ho1,n1,rfl,hqs,asd,rfl,hand,low,sg1,nb,rc1⟩
  .exact ifN ap (q H1 so' ho' kb fr sg' mt' dm' rc')
  .refine ifP (fh zjG) (ip,(BW,∃ k',k'<rk a+1/\∃ v3 v4 v5,jI σ' ziG PU (gZ dz Bw) ((aR,v3,.non,k'=0,(zmE,Sg t H' p d1 d2 (n+30) so' ho',Iw||sF))\/∃(qs:Addr) (s:Seat) (a:Str) (so1:bq) (ho1:aD) (n1:Nat),(au,v3=.ref qs,H' qs=some (.tup (xar s)),oH,k'=rk a+1,(zfh,Sg t H' p d1 d2 n1 so1 ho1,n+20,GX)))),fun σ' H' z=>z);refine sq5 ?_; intros; obtain⟨dx1,hp1⟩:=sg1.ins;show(dL,ka,hka,id had);show(dL,k1,hk1,id sg1.so);show(dL,k2,hk2,id sg1.ho);show(dL,k10,hk10,id sg.so);show(dL,k20,hk20,id sg.ho);ext lg n31 d3 d1 hka hk10;ext lg n12 d1 d2 hk1 hk2;show(ae,had1,had.keep (H':=H1) (mB,kb _ _ n31 n32 e),gt,had1.get hqs);rw[asd] at gt;show(rV,d3,.str a,gt,?_);show(ae,lowa,low a bp,rma,ch.rm _ _ asd);ext lg np1 p d1 hp1 hk1;ext lg np2 p d2 hp1 hk2
   -- the two puts
   obtain⟨H2,dp2,so2,kk2,tp2,fr2⟩:65:=sg1.so.put aa hqs a;have hp2:=kk2 _ _ np1 hp1;show(ae,hqs2,tp2 _ _ hqs,ho2,sg1.ho.keep (H':=H2) (mB,kk2 _ _ (Zx n12) e));obtain⟨H3,dp3,ho3,kk3,tp3,fr3⟩:65:=ho2.put aa hqs2 a;show(ae,so3,so2.keep tp3 (mB,kk3 _ _ n12 e),hp3,kk3 _ _ np2 hp2);have kb3:KB H H3 d1 d2:=fun b u b1 b2 e=>kk3 _ _ b2 (kk2 _ _ b1 (kb _ _ b1 b2 e));show(bo,fr03,(gZ,dz,H3 b=none),b,e,fr3 _ (fr2 _ (fr _ e)));have sg3:Sg t H3 p d1 d2 (n1+1) (Kp.upd1 so1 a s) (Kp.upd1 ho1 s a):=⟨⟨dx1,hp3⟩,so3,ho3⟩
   rcases sg1.so.get a with⟨e0,g0⟩|⟨s1,q1,e1,g1,hq1⟩
   .refine ⟨p,_,dx1,_,_,rfl,WP (kg,d1,zox,ip none g0)⟩;show(bU,⟨p,_,dx1,_,_,rfl,zop⟩,⟨p,_,dx1,_,_,rfl,zhz⟩);have an:a=name:=ch.no _ _ asd (dE lowa e0);obtain⟨mt3,dm3⟩:=hand.last rma e0;show(aE,0,aa,⟨104,_,_,_,rfl,kb3,fr03,.inl (C1 ⟨84,_,_,sg3.le aa,mt3,(aC (cK,dm3 z,an)),.step rc1 (Kp.k_fin asd e0)⟩)⟩)
   .refine ⟨p,_,dx1,_,_,rfl,(WP,kg d1 zox (ip,aT q1,g1))⟩;show(bU,⟨p,_,dx1,_,_,rfl,zop⟩,⟨p,_,dx1,_,_,rfl,zhz⟩);show(af,a1,as1,lt,ch.up _ _ asd s1 (dE lowa e1));show(dc,rk a1+1,aa,⟨104,_,_,_,rfl,kb3,fr03,.inr (gU q1 s1 a1 _ ⟨86,_,n1+1,rfl,tp3 _ _ (tp2 _ _ hq1),as1,rfl,hand.step rma e1,(bR,gP,sg3,aa,.step rc1 (Kp.k_hand asd e1))⟩)⟩);show(jF,nba,b,a,by rw[z] at hb; omega)
    show Kp.upd1 so1 a s b=so b;unfold Kp.upd1;show(pU,nba,low b aa)
structure Bf (room:fj) (ho:aD) (name:Str) (crowd:ai) (al:aj) (asked:aD):Prop where
 cr:crowd.length=al.length+1
 c0:dO crowd 0 name
 hd:(zoi,∃ h,(dO crowd hV h)/\D2)
 nd:al.Nodup
 no:∀ s,F2->HG
 ak:(zoi,∃ k a,(bE,k<=j,F3,oH,CJ))
theorem xsb {α:Type}{l:b7} (nd:l.Nodup) {i j:Nat} (hi:i<l.length) (hj:j<l.length) (e:l[i]=l[j]):i=j:=by
 rcases Nat.lt_trichotomy i j with h|h|h
 .show(dy,e,JB.mp nd i j hi hj h)
 .exact h
 .show(dy,e.symm,JB.mp nd j i hj hi h)
section
variable {room:Str->List Seat}{so:Str->Option Seat}{ho asked:Seat->Option Str}{name:Str}{crowd:List Str}{al:List Seat}
theorem Bf.start:Bf room ho name [name] [] fb:=⟨rfl,rfl,dh j s yN,J5,iD,dh j s yN⟩
theorem Bf.at_ (b:Bf room ho name crowd al asked) (mt:xS) {k:Nat}{a:Str} (e:F3):(k=0/\a=name)\/∃ j s,aR k hV (b9 al s) zbm:=by
 cases k with
 | zero =>
  left;rw[b.c0] at e;show(aO,rfl,(ZE.inj e).symm)
 | succ j =>
  right;have lt:j<al.length:=by
   show(wc,zev,b.cr)
  show(af,h,e1,e2,b.hd j _ jh);ext bB e e1 e1;exact(dA,j,_,jh,(mt.iff _ _).mpr e2)
theorem Bf.inj (b:Bf room ho name crowd al asked) (mt:xS) (sn:tD) {k l:Nat}{a:Str} (e:F3) (e':dO crowd l a):k=l:=by
 rcases b.at_ mt e with⟨rfl,rfl⟩|⟨j,s,rfl,h1,h2⟩<;>rcases b.at_ mt e' with⟨rfl,h⟩|⟨j',s',rfl,h1',h2'⟩
 .rfl
 .ext zS sn h2'
 .rw [h,sn] at h2;cases h2
 .rw [h2] at h2';cases h2';obtain⟨x,hx⟩:=Zi.mp h1;obtain⟨y,hy⟩:=Zi.mp h1';show(db,xsb b.nd x y (cK hx hy))
theorem Bf.nodup (b:Bf room ho name crowd al asked) (mt:xS) (sn:tD):crowd.Nodup:=by
 refine JB.mpr fun i j hi hj lt e=>?_;show(db,b.inj mt sn (Zb hi) (by rw[e]; exact Zb hj))
theorem Bf.add (b:Bf room ho name crowd al asked) {i:Nat}{a h:Str}{s:Seat} (ea:yd) (ra:CJ) (ns:F2) (hh:D2):Bf room ho name BF nG uF:=by
 show(ae,cr,b.cr,il,ft ea);have lft:∀{k:Nat}{x:Str},(Fi x)->(dO BF k x):=fun {k x} e=>by
  show(aB,ZQ (Zi.mp e).1,e)
 refine⟨by rw[Zs,Zs,cr]; rfl,lft b.c0,rT j z,?_,am z nz,rT j z⟩
 .by_cases c:j<al.length
  .rw [ZQ c] at e;show(af,h',e1,e2,b.hd j z e);show(aE,h',lft e1,e2)
  .ext zfv;show(dc,h,?_,hh);rw[<- cr,Js (Zl _),Nat.sub_self];rfl
 .rw [ZH];show(aE,b.nd,ah,fun x hx y hy e=>ns zll)
 .unfold Kp.upd1;show(aB,(lM,e,nz (av,e,Z6 _ m6)),b.no z fun y=>nz (ZR _ y))
 .by_cases c:j<al.length
  .rw [ZQ c] at e;obtain⟨k,x,e1,e2,e3,e4⟩:84:=b.ak j z e;refine⟨84,k,x,e1,lft e2,?_,e4⟩;unfold Kp.upd1;show(aB,(lM,y,ns (by rw[<- y]; exact Zm e)),e3)
  .ext zfv;refine⟨84,i,a,aa,lft ea,?_,ra⟩;unfold Kp.upd1;rw[cp]
theorem Bf.chain (b:Bf room ho name crowd al asked) (mt:xS) (sn:tD) (c20:crowd.length<=20) {i:Nat}{a:Str}{s:Seat} (ea:yd) (ra:CJ) (ns:F2):xsa room so uF (aC,crowd.idxOf z) name:=by
 have ix:∀{k:Nat}{x:Str},(Fi x)->crowd.idxOf x=k:=fun {k x} e=>by
  show(ae,m,Zm e,lt,List.idxOf_lt_length_of_mem m);refine b.inj mt sn (a:=x) ?_ e;rw[jh,List.getElem_idxOf]
 have key:∀ s' a',(Iu a s')=some a'->s'∈room a'/\∃ k,Fi a':=fun s' a' e=>by
  ext zqG
  .rename_i h
   cases e;rw[h];ext aE ra i ea
  .by_cases h:s'∈al
   .obtain ⟨j,hj,ej⟩:=ZI h;obtain⟨k,x,e1,e2,e3,e4⟩:=b.ak j s' (og hj ej);ext bB e e3 e3;ext aE e4 k e2
   .rw [b.no s' h] at e;cases e
 refine⟨(dh,s',a',(key s' a' e).1),cI s' a' e z,bJ s' a' e s1 z,rT s' a'⟩
 .ext V8;rcases b.at_ mt ek with⟨_,h⟩|⟨j,s2,_,_,h⟩
  .exact h
  .ext gH z;cases h
 .ext V8;rcases b.at_ mt ek with⟨_,h⟩|⟨j,s2,rfl,hj,h⟩
  .rw [h,sn] at z;cases z
  .ext gH z;cases h;obtain⟨k2,a2,e1,e2,e3,_⟩:=b.ak j s1 hj;show(fE,a2,?_)
   .unfold Kp.upd1;show(aB,(lM,y,ns (by rw[<- y]; exact Zm hj)),e3)
   .show crowd.idxOf a2<crowd.idxOf a';rw[ix e2,ix ek];omega
 .ext V8;show crowd.idxOf a'<=20;rw[ix ek];show(db,ft ek)
theorem Bf.done (b:Bf room ho name crowd al asked) (mt:xS) (sn:tD) (all:∀(k:Nat) (a:Str),F3->∀ s∈ug,wx):∃ hs,crowd=BZ/\(zbz name):=by
 have nd:=b.nodup mt sn;cases crowd with
 | nil =>
  have:=b.c0;simp at this
 | cons x hs =>
  have e0:=b.c0;show(bB,List.getElem?_cons_zero,e0,e0);show(mJ,hs,rfl,nd,am h hh,cI c hc s hs')
  .obtain ⟨j,hj,ej⟩:=ZI hh;have e:dO BZ hV h:=by
    rw[List.getElem?_cons_succ,C5,ej]
   rcases b.at_ mt e with⟨z,_⟩|⟨_,s,_,_,z⟩
   .omega
   .rw [z];rfl
  .obtain ⟨k,hk,ek⟩:=ZI hc;have sal:=all k c (og hk ek) s hs';ext zcQ sal;obtain⟨h,e1,e2⟩:=zqP;rw[List.getElem?_cons_succ] at e1;show(aE,h,Zm e1,(mt.iff _ _).mpr e2)
#check _
noncomputable def RmD (H:Hp) (d:Addr) (names:ai) (room:fj):Prop:=∃ kvs:aL,CF/\∀ nm∈names,∃ l rs,Ct=some bQ/\(ax l (.lst (rs.map V.ref)))/\xag H (room nm) rs
inductive xsx (t:Adr) (vs:ag) (H:Hp) (Q:VK) (_:XK):Prop
 | mk (p d1 d2 rm:Addr) (n:Nat) (room:fj) (so:bq) (ho:aD) (names:ai) (name:Str) (e_:vs=[cq,Kz,.ref rm]) (r_:(bE,Sg t H p d1 d2 n so ho,n<=600,xS,(au,tD,RmD H rm names room,rm≠d1,(∀ z,sF->z∈names),(au,name∈names,uI,(∀ z,(room z).length<=32),(∀ H' l so' ho',(bg,PU,jD,H' l=some (.lst []),Sg t H' p d1 d2 (n+30) so' ho',(bb,Oc,Ha (Iw||sF),xP sf X5,Q bQ H'))),∀ H' l hs,cL->(lT,jD,H' l=some (.lst ((BZ).map V.str)),zbz name,Kp.Rch sf X5 (.out BZ),bQ)))))
noncomputable def ICr (t:Adr) (H:Hp) (p d1 d2 rm lc da:Addr) (n:Nat) (room:fj) (so:bq) (ho:aD) (name:Str) (i j:Nat) (crowd:ai) (al:aj) (asked:aD) (H1:Hp):Prop :=
 (gG H1)/\(au,H1 lc=some (.lst (crowd.map V.str)),HoD H1 da al.length asked,Bf room ho name crowd al asked,(∀(k:Nat) (a:Str),k<i->F3->∀ s∈ug,wx),Kp.Rch sf X5 B2)
theorem ok_c (T:aX):FnOk true P w K mg base aU 2 t.f_c t.d_c (kT "name" "rooms") (xsx t):=by
 refine T.F_c.okn (k:=1) sc_c (aY h) (fun cdv A outer s H vs Q E hr h=>?_)
 .obtain ⟨p,d1,d2,rm,n,room,so,ho,names,name,rfl,_⟩:=h;rfl
 .obtain ⟨p,d1,d2,rm,n,room,so,ho,names,name,rfl,h⟩:=h;refine⟨_,xh (wN 3 sc_c.nd iM)
   (xh (pS 4 sc_c.nd (xej))
   (xh (pS 5 sc_c.nd (xm))
   (xh (xfz ZA (pj xkl 5 zbn) (xh (pS 6 sc_c.nd (jS 3 on))
   (xh (xa5 ZA rfl (xab (yt 2 lA)) (pN 7 sc_c.nd) (xk (xan (xdn (xe1 kf om (pv 4))) (xh (qY jK om lA)
   (xh (xan (xdn (xe1 kf om bT)) (xh (xay (xae bD T.c_ac T.m_o (ok_o T) aZ T.b_o .nil xp (fT 4 7)))
   (xk (xu (xb3 (xi))))) (x9))
   (uo (xd8 Jr Jp Jo xb0 iu (xa (wg bT om) (xi)))))) (x9))))
   (xk (xvk (i:=5) sc_c.nd rfl pH (xm) xtj)))))
   (tf 3)))),?_⟩
  refine sq5 ?_; intros; obtain⟨sg,n600,mt,sn,rmd,nrm,dom,nin,n12,r32,qA,qB⟩:=h;ext rD leS1 lc hlc;show(GT,dN H lc [Kz],hlc);refine am da hda;generalize eu:j8 H1 da []=H2;ext fJ s2 hda g2;show(ae,fda,s1.free hda,s02,s1.trans s2);have ncd:lc≠da:=xb g1 hda;have cl12:∀{crowd:ai}{al:aj}{asked:aD},Bf room ho name crowd al asked->zaO:=fun {crowd al asked} b=>by
   refine ZZ ((b.nodup mt sn).length_le_of_subset (l₂:=names) tz) n12;obtain⟨k,hk,ek⟩:=ZI hx;rcases b.at_ mt (show Fi x by rw[Zb hk,ek]) with⟨_,e⟩|⟨j,s,_,_,e⟩
   .ext bI e nin
   .exact dom x wj
  refine(ip,fun m Z H3=>(zfG,m,Z,[aT p,some Kz,aT rm,zj,qW,bv cG,v6,v7],ICr t H p d1 d2 rm lc da n room so ho name i 0 crowd al asked H3),gU 13 0 [name] [] ⟨106,fb,_,_,rfl,fV,rfl,s02,jp g1,(bR,bi [] g2 bp o5,.start,fun k a z=>aa,.refl _)⟩);rintro m Z H3 ⟨i,crowd,al,asked,v6,v7,mi,il,rfl,s3,hlc3,had3,bf,cov,rc3⟩;have c12:=cl12 bf;refine(dA,lc,_,BA hlc3,CW y)
  .have ic:i<crowd.length:=by
    have z:=of_decide_eq_true y;rw[Za] at z;omega
   show(wT,yR m (zfG,m',σ',[aT p,some Kz,aT rm,zj,qW,bv cG,v6,v7],ICr t H p d1 d2 rm lc da n room so ho name i 0 crowd al asked H'),fun σ' H' z=>z);ext AS; obtain⟨a,ea⟩:∃ a,yd:=(fC,Zb ic)
   refine(dD,lc,_,.str a,(n6,aV hlc3,xdu (fQ Zf ea),?_));ext mN; have ain:a∈names:=by
    rcases bf.at_ mt ea with⟨_,e⟩|⟨j,s,_,_,e⟩
    .ext bI e nin
    .exact dom a wj
   obtain⟨kr,hkr,fr⟩:=id rmd;obtain⟨lr,rs,er,hlr,slr⟩:=fr a ain;show(je,gr,(vF,.inr a,qm hkr),er,gr);show(rV,rm,.ref lr,gr,oX lr (qm hlr) ?_);have rll:=slr.len
   let Pv (j:Nat) (Z:L2.St) (H4:Hp):Prop:=∃(crowd:ai) (al:aj) (asked:aD) (v7:bP),(bE,yd,(∀ s∈(ug).take j,wx),Z=[aT p,some Kz,aT rm,zj,qW,bv cG,some (.str a),v7],ICr t H p d1 d2 rm lc da n room so ho name i j crowd al asked H4)
   show(wX,rs.map V.ref,⟨126,crowd,al,asked,_,ea,(me,by show(bO,List.take_zero,hs,nomatch hs)),rfl,s3,hlc3,bR had3 bf cov rc3⟩)
   .rintro j Z H4 _ ⟨_,_,_,_,_,_,rfl,s4,_⟩;show(wA,lD hlr)
   .rintro j x Z H4 hx ⟨crowd,al,asked,v7,ea,tk,rfl,s4,hlc4,had4,bf,cov,rc4⟩;ext M3; ext sQ;obtain⟨qs,hqs,rfl⟩:=hx;obtain⟨s,hs,hsq⟩:=slr.get hqs;have hsq4:=lD hsq;have ra:CJ:=Zm hs;show(ae,c12,cl12 bf,cr,bf.cr);have tk1:∀ al':aj,(∀ z∈al,z∈al')->s∈al'->∀ z∈(ug).take hV,z∈al':=fun al' h1 h2 z hz=>by
     rw[ZS,hs] at hz;rcases Z3.mp hz with hz|hz
     .exact h1 _ (tk z hz)
     .have hz:z∈[s]:=hz;show(aB,Zp.mp hz,h2)
    refine⟨da,_,rfl,had4.get hsq4,_,rfl,lK y y⟩
    .ext AS; have ns:s∉al:=fun z=>by
      obtain⟨k,hk,ek⟩:=ZI z;obtain⟨_,x,_,_,e3,_⟩:=bf.ak k s (og hk ek);rw[e3] at y;ext dy y ah
     obtain⟨H5,dp5,had5,k5,tp5,fr5⟩:=had4.put aa hsq4 a;refine dA da H5 dp5 ?_;refine nx ?_; refine iq ?_; intros; have sg4:=sg.same s4;obtain⟨dx4,hp4⟩:=sg4.ins;obtain⟨kq1,hkq1,_⟩:=id sg.so;obtain⟨kq2,hkq2,_⟩:=id sg.ho;obtain⟨dxp,hpp⟩:=sg.ins;show(dG,sg5,Sg t H5 p d1 d2 n so ho,sg4.keep (d:=da) (xb hpp fda) (xb hkq1 fda) (xb hkq2 fda) tp5 k5,hp5,k5 _ _ (xb hpp fda) hp4);show(ae,hsq5,tp5 _ _ hsq4,hlc5,k5 _ _ ncd hlc4);show(ay,s5,FR,(wC,k5 _ _ (xb e fda) (s4 _ _ e)),⟨p,_,dx4,_,_,rfl,b8 hp5 T.c_ac T.n_a4 lkHo ⟨d2,_,rfl,sg5.ho.get hsq5,_,rfl,lK y2 y2⟩⟩)
     .ext AT; have hn:Bv:=by
       cases e:ho s with
       | none=>rfl
       | some h =>
        rw[e] at y2;ext dy y2 ah
      refine⟨p,dx4,_,rfl,hp5,xkm aP,p,d1,d2,da,qs,n,_,room,so,ho,_,_,name,a,s,rfl,hsq5,sg5,had5,jJ hkq2 fda,n600,mt,hn,WI,bf.chain mt sn aa ea ra ns,fun H6 so' ho' kb6 fr6 sg6 mt6 dm6 rc6=>?_⟩;ext rD leS0 l hl;have kb:KB H H6 d1 d2:=fun b u b1 b2 e=>kb6 _ _ b1 b2 (s5 _ _ e);have hl0:jD:=by
       cases e:H l with
       | none=>rfl
       | some u =>
        by_cases e1:l=d1
        .show(zon,sg6.so,e1)
        .by_cases e2:l=d2
         .show(zon,sg6.ho,e2)
         .show(zS,kb _ _ e1 e2 e,hl)
      exact qA _ l so' ho' (fun b u b1 b2 e=>(av,gY hl0,kb _ _ b1 b2 e)) hl0 xj (sg6.same (cO hl)) mt6 dm6 ((Kp.Rch.step rc4 (Kp.k_free ea hs (bf.no s ns) hn)).trans rc6)
     .obtain ⟨h,eh⟩:∃ h,D2:=by
       cases e:ho s with
       | none =>
        rw[e] at y2;ext iP y2
       | some h=>show(aO,h,rfl)
      have gh:=sg5.ho.get hsq5;rw[eh] at gh;refine⟨uN hlc5,p,_,dx4,_,_,rfl,hp5,T.c_ac,T.n_a4,lkHo,d2,.str h,rfl,gh,lc,_,_,rfl,rfl,hlc5,?_,?_⟩
      .rw [Za];ext L5
      show(ay,kl,(eC,lc,H5 c=some u,rP H5 lc (.lst (O8++[.str h]))),gR yI,⟨126,BF,nG,_,_,?_,tk1 _ (re,ZR _ hz) (Z6 _ m6),rfl,(wC,kl _ _ (xb e hlc) (s5 _ _ e)),Sv,(bR,?_,bf.add ea ra ns eh,fun k b hk eb z hz=>?_,.step rc4 (Kp.k_grow ea hs (bf.no s ns) eh))⟩)
      .show(bI,ZQ (ft ea),ea)
      .rw [Zs,ZY];exact had5.keep (mB,kl _ _ (Zx ncd) e)
      .have hkl:k<crowd.length:=by
        show(db,ft ea)
       show(bO,ZQ hkl,eb,ZR _ (cov k b hk eb z hz))
    .have sin:wx:=by
      by_cases z:wx
      .exact z
      .rw [bf.no s z] at y;ext iP y
     obtain⟨kk,hkk,ekk⟩:=ZI sin;obtain⟨_,xx,_,_,e3,_⟩:=bf.ak kk s (og hkk ekk);exact⟨126,crowd,al,asked,_,ea,tk1 al (re hz) sin,rfl,s4,hlc4,(bR,had4,bf,cov,.step rc4 (Kp.k_old ea hs e3))⟩
   .rintro Z H4 ⟨crowd,al,asked,v7,ea,tk,rfl,s4,hlc4,had4,bf,cov,rc4⟩;rw[Za,rll] at rc4;rw[Za,rll,Ta] at tk;have ic:=ft ea;show(mJ,_,rfl,m-1,aa,gU aH crowd al asked ⟨86,_,_,aa,aa,rfl,s4,hlc4,(bR,had4,bf,fun k b hk eb z hz=>?_,.step rc4 (Kp.k_next ea (ZV (Zl _))))⟩);by_cases c:k=i
    .ext ul c ea eb;exact tk z hz
    .exact cov k b aa eb z hz
  .have ic:i=crowd.length:=by
    by_cases z:i<crowd.length
    .ext GY Cl y
    .omega
   obtain⟨hs,ec,cw⟩:=bf.done mt sn fun k a e z hz=>cov k a (d7 zev) e z hz
   refine (qB H3 lc hs s3 hlc (dE ec hlc3) cw ?_);rw[<- ec];exact .step rc3 (Kp.k_end (ZV aa))
inductive Run (room:fj):ai->bq->(bM aD c7)
 | nil:Run room [] fb fb []
 | inn {ns:ai}{so so':bq}{ho ho':aD}{cs:c7}{nm:Str} (r:sw) (mt:Oc) (dm:Ha ((cC z nm)||sF)) (rc:xP sf zaR):Run room lR so' ho' cs
 | out {ns:ai}{so:bq}{ho:aD}{cs:c7}{nm:Str}{hs:ai} (r:sw) (c:zbz nm) (rc:zlr):pR room lR zcw
theorem Run.mt {room:fj}{ns:ai}{so:bq}{ho:aD}{cs:c7} (r:sw):xS:=by
 induction r with
 | nil=>ext aO zpN zpL
 | inn _ mt _ _ _=>exact mt
 | out _ _ _ ih=>exact ih
theorem Run.outs {room:fj}{ns:ai}{so:bq}{ho:aD}{cs:c7} (r:sw):(∀ z∈cs.map (·.1),z∈ns)/\cs.length<=ns.length:=by
 induction r with
 | nil=>ext aO lG bp
 | inn _ _ _ _ ih=>show(aO,(re,ZR _ (ih.1 z hz)),by rw[Zs]; show(db,ih.2))
 | out _ _ _ ih =>
  show(cR,vo,by rw[Zs,Zs]; have:=ih.2; simp; omega);rw[Zq] at hz;rcases Z3.mp hz with hz|hz
  .exact ZR _ (ih.1 z hz)
  .exact Z6 _ hz
theorem Run.dom {room:fj}{ns:ai}{so:bq}{ho:aD}{cs:c7} (r:sw) (nd:ns.Nodup):∀ z,sF=((ld z ns)&&! decide (z∈cs.map (·.1))):=by
 induction r with
 | nil=>intro z; rfl
 | @inn ns so so' ho ho' cs nm r mt dm rc ih =>
  intro z;ext L7;rw[dm z,ih nd.1 z];by_cases e:z=nm
  .ext cZ;have h1:z∉ns:=(d9,(gF).2 z h z m6 rfl);have h2:z∉cs.map (·.1):=(d9,h1 (r.outs.1 z h));simp[h2]
  .simp [e]
 | @out ns so ho cs nm hs r c rc ih =>
  intro z;ext L7;rw[ih nd.1 z];by_cases e:z=nm
  .ext cZ;have h1:z∉ns:=(d9,(gF).2 z h z m6 rfl);simp[h1]
  .rw [Zq];have e1:decide (z∈lR)=(ld z ns):=cM e
   have e2:decide (z∈cs.map (·.1)++[(nm,hs)].map (·.1))=decide (z∈cs.map (·.1)):=by
    rw[decide_eq_decide,Z3];show(aO,(d9,h.elim id (d9,absurd (Zp.mp h) e)),.inl)
   rw[e1,e2]
theorem Run.det {room:fj}{l:ai}{so:bq}{ho:aD}{cs:c7} (r:pR room l cs):∀{so2:bq}{ho2:aD}{cs2:c7},Run room l so2 ho2 cs2->(aR,so,so2,ho=ho2,cs=cs2):=by
 have inv:∀{l:ai}{so:bq}{ho:aD}{cs:c7},(pR room l cs)->(l=[]/\(aR,so,fb,ho=fb,cs=[]))\/(∃ ns nm so0 ho0,(aR,l,lR,Run room ns so0 ho0 cs,Kp.Rch (Kp.kstep room so0 ho0) zaR (.fin so ho)))\/∃ ns nm hs cs0,(jI,l,lR,pR room ns cs0,zlr,cs=cs0++[(nm,hs)]):=fun r=>by
  cases r with
  | nil=>show(cH,n6 rfl rfl rfl)
  | inn r mt dm rc=>exact .inr (.inl ⟨123,_,_,_,_,rfl,r,rc⟩)
  | out r c rc=>exact .inr (.inr ⟨124,_,_,_,_,rfl,r,rc,rfl⟩)
 induction r with
 | nil =>
  ext zcN;rcases inv r2 with⟨_,rfl,rfl,rfl⟩|⟨ns,nm,_,_,e,_⟩|⟨ns,nm,_,_,e,_⟩
  .exact Ry
  .show(dy,e.symm,ah)
  .show(dy,e.symm,ah)
 | @inn ns so so' ho ho' cs nm r mt dm rc ih =>
  ext zcN;rcases inv r2 with⟨e,_⟩|⟨ns2,nm2,so0,ho0,e,r0,rc0⟩|⟨ns2,nm2,hs,cs0,e,r0,rc0,_⟩
  .ext dy e ah
  .ext L9;injection z with z1 z2
   show(aE,z1,z2,rfl)
  .ext L9;cases z
 | @out ns so ho cs nm hs r c rc ih =>
  ext zcN;rcases inv r2 with⟨e,_⟩|⟨ns2,nm2,so0,ho0,e,r0,rc0⟩|⟨ns2,nm2,hs2,cs0,e,r0,rc0,rfl⟩
  .ext dy e ah
  .ext L9;cases z
  .ext L9;injection z with z1
   injection z1 with _ z2
   show(wQ,rfl,fW z2)
noncomputable def xao (ns:ai) (cs:c7):ai:=ns.filter fun z=>! decide (z∈cs.map (·.1))
theorem Run.gone {room:fj}{ns:ai}{so:bq}{ho:aD}{cs:c7} (r:sw) (nd:ns.Nodup):cs.map (·.1)=ns.filter fun z=>!(ld z BJ):=by
 have f1:(aC,!(ld z BJ))=fun z=>!((ld z ns)&&! decide (z∈cs.map (·.1))):=by
  funext z
  congr 1
  rw[Jg];unfold xao;simp[ZC]
 rw[f1];clear f1
 induction r with
 | nil=>rfl
 | @inn ns so so' ho ho' cs nm r mt dm rc ih =>
  show(Pa,(d9,(gF).2 nm h nm m6 rfl));have h2:nm∉cs.map (·.1):=(d9,h1 (r.outs.1 nm h));rw[JS,JZ (cM h2),Qv,YL];refine (ih nd.1).trans (YX vo);simp[hz]
 | @out ns so ho cs nm hs r c rc ih =>
  show(Pa,(d9,(gF).2 nm h nm m6 rfl));rw[JS,JY ah,Qv,Zq]
  congr 1
  refine (ih nd.1).trans (YX vo);have:z≠nm:=fun e=>h1 (e▸hz);simp[hz,this]
noncomputable def xaz (ps:aw) (srt:aj) (nm:Str):aj:=match Vn with
 | some p=>DH
 | none=>[]
theorem xoc {ps:aw}{srt:aj} (h:zbZ) (nm:Str):(xaz ps srt nm).length<=32:=by
 unfold xaz;split
 .exact ZZ (Yj _ _) h
 .exact ZF _
inductive CrL (H:Hp):bM c7 ao
 | nil:CrL H [] []
 | cons {c:Ff}{q:Addr}{cs:c7}{qs:ao} (h:ax q (.lst ((HX).map V.str))) (r:IF):CrL H (c::cs) rG
theorem CrL.len {H:Hp}{cs:c7}{qs:ao} (h:IF):XB:=by
 induction h with
 | nil=>rfl
 | cons _ _ ih=>ext oA
theorem CrL.snoc {H:Hp}{cs:c7}{qs:ao} (h:IF) {c:Ff}{q:Addr} (e:ax q (.lst ((HX).map V.str))):CrL H (cs++[c]) Ll:=by
 induction h with
 | nil=>ext Es
 | cons h _ ih=>ext yo
theorem CrL.get {H:Hp}{cs:c7}{qs:ao} (h:IF) {i:Nat}{q:Addr} (e:BS):∃ c,(aF cs c)/\(ax q (.lst ((HX).map V.str))):=by
 induction h generalizing i with
 | nil=>ext lw
 | @cons c q' cs qs h _ ih =>
  cases i with
  | zero =>
   ext KL c
  | succ j=>ext rh
theorem CrL.keep {H H':Hp}{cs:c7}{qs:ao} (h:IF) (k:∀ q∈qs,(M9 q)):CrL H' cs qs:=by
 induction h with
 | nil=>ext gW
 | cons h r ih=>exact .cons (k _ gD _ h) (ih fun q hq=>k q (Zj _ hq))
inductive xre (t:Adr) (vs:ag) (H:Hp) (Q:VK) (_:XK):Prop
 | mk (a ln dp do_:Addr) (w h:Nat) (ps:aw) (ss srt:aj) (names:ai) (e_:zbj) (r_:Dr t H a dp do_ w h ps ss srt/\(au Gz zas names.Nodup uI (zlw,CrL H' cs qs,(∀ q∈qs,(bz q)),pR sX names cs)))
theorem xtf {ps:aw}{nm:Str} (h:Xp):∃ p,(xZ (aC zdm) p)/\ub/\p.nm=nm:=by
 cases e:ps.find? (fun z=>zdm) with
 | none =>
  ext af p hp en h;show(GY,en,J6.mp e p hp)
 | some p=>exact(kg,p,Zy e,AU (QX (p:=fun z:Pt=>zdm) e))
noncomputable def FRm (l2:Addr) (ps:aw) (srt:aj) (names:ai) (i:Nat) (ys:ag) (H:Hp):Prop:=∃ L:(zD,Addr × Str × ao),(zfA,LG,ye,ax cF (.lst ((mq).2.map V.ref)),xag H (xaz ps srt LG) (mq).2)
theorem xm0 {d:Addr}:∀(L:Ra) {H:Hp}{kvs:aL},CF->zlM ->
    ∃ H2 kvs2,xd7 d H (uV (V.str aN,V.ref cU)) H2/\H2 d=some (.dK kvs2)/\MU/\((L.map (·.1)).Nodup->∀ x∈L,valV kvs2 (.inr aN)=some (.ref cU))/\∀ k,(∀ x∈L,k≠.inr aN)->valV kvs2 k=o4
  | [],H,kvs,e,_=>⟨85,H,kvs,.nil,e,Pj,tP (nomatch z),iD⟩
  | x::L,H,kvs,e,hn=>by
    rw[ZL] at hn;have lp:=xbp kvs (.inr aN) (.ref cU);obtain⟨H2,kvs2,dps,e2,k2,v2,o2⟩:85:=xm0 L (H:=fA H d (putK kvs (.inr aN) (.ref cU))) xj aa;refine⟨85,H2,kvs2,dJ (y0,.inr aN,e,xbo aa) dps,e2,fun b u nb eb=>k2 _ _ nb (cS nb eb),aI nd y hy,am k hk⟩
    . ext vg
      rcases dU hy with rfl|hy
      . rw[o2 _ (dh,z,hz,nd.1 (by rw[Jd.inj e]; exact Ze.mpr (b5 z hz))),xcn,cp]
      . exact v2 gF y hy
    . rw[o2 k (tZ,hk y tU),xcn,if_neg (hk x gD)]
theorem xjn (T:aX):FnOk true P w K mg base aU 7 t.f_crowds t.d_crowds oQ (xre t):=by
 refine T.F_crowds.okn (k:=6) xdg (aY h) (fun cdv A outer s H vs Q E hr h=>?_)
 .obtain ⟨a,ln,dp,do_,w',h',ps,ss,srt,names,rfl,_⟩:=h;rfl
 .obtain ⟨a,ln,dp,do_,w',h',ps,ss,srt,names,rfl,h⟩:=h;refine⟨_,xh (pS 2 xdg.nd (Gu (xa7 rfl (xas (zs:=["name"]) (ys:=mZ) (fr:=[0]) (N0:=["picture", "names", "rooms", "seating", "found", "name", "crowd"]) (sc0:=xl xfs) aP rfl rfl rfl) uc jn jb eB (mR (fM 0 (xae eJ T.c_a T.m_h (ok_h T) aZ T.b_h .nil xp pQ))))))
   (xh (pS 3 xdg.nd (xl0 T.k_ac (ok_ah T) aZ rfl T.g_ac T.b_ah .nil xp))
   (xh (wN 4 xdg.nd (xi))
   (xh (xa5 ZA rfl uc (pN 5 xdg.nd) (xh (pS 6 xdg.nd (xae iu T.c_ac T.m_c (ok_c T) aZ T.b_c .nil xp (fT 5 2)))
   (kO (xkn (pv 6) o5) (uo (xd8 Jr Jp Jo xb0 jK (jj 6))))))
   (tf 4)))),?_⟩
  refine sq5 ?_; intros; obtain⟨dr,hln,nps,nnd,n12,q⟩:46:=h;show(tY,s32,zbZ,MD,um ln hln l2 hl2,xh1 (aV hln) lF hl2 (FRm l2 ps srt names) zkj ?_ (fun i x ys H3 hx s3 el3 f3 N hN=>?_) (fun ys H3 s3 el3 ly3 f3=>?_))
  .rintro i ys zs H3 H4 hz4 k4 (⟨L,e1,e2,e3,e4⟩:64);refine lu L e1 e2 e3 tz;obtain⟨a1,a2,a3,a4,a5⟩:45:=e4 x hx;exact(b8,a1,a2,k4 _ _ a2 a3,k4 _ _ a1 a4,a5.keep (fS,k4 _ _ (eK hz4) e))
  .ext SJ;ext EF;show(bF,pt,hf,hpm,epn,xtf zaZ);subst epn;have dr3:=dr.same s3;show(HN,dx3,hp3,dr3.pic);refine⟨a,dx3,_,rfl,hp3,bL,a,dp,do_,w',h',ps,ss,pt,rfl,dr3.pic,dr3.sts,dr.ok,dr.nm _ hpm,hf,fun H4 l4 srt' rs4 s4 fl4 pm4 lt4 e4 sl4=>?_⟩;show(cQ,srt'=srt,xbz xck (pm4.trans dr.pm.symm) lt4 dr.lt);ext kB u hu;generalize eu:(iB,H4,u,iX,.ref l4)=H5;ext fJ s5 hu g5;show(cA,e34,∀ c u,H3 c=some u->O5,(wC,s5 _ _ (s4 _ _ e)),lE zel ?_);obtain⟨L,e1,e2,e3,e6⟩:64:=f3;refine(lu,L++[(u,l4,pt.nm,rs4)],fQ e1 Zq,fQ Zs e2,?_,tz)
   .rw [Zq,e3,ZS,hnm];rfl
   .rcases TX with hx|hx
    .obtain ⟨a1,a2,a3,a4,a5⟩:45:=e6 x hx;exact(b8,a1,a2,e34 _ _ a3,e34 _ _ a4,a5.keep (fS,e34 _ _ e))
    .rw [Zp.mp hx];refine(b8,jJ el3 fl4,jJ (lD el3) hu,g5,dZ e4,?_);have er:xaz ps srt' pt.nm=Xj:=by
      unfold xaz;rw[hf]
     show(Ah,xag H5 (xaz ps srt' pt.nm) rs4,er,sl4.keep (Same.tups s5))
  rw[Za] at f3;obtain⟨L,rfl,e2,e3,e4⟩:64:=f3;rw[Ta] at e3;refine⟨l2,uV (aN,V.str LG,V.ref cF),rfl,(av Zw el3),?_,am d hd⟩
  .ext C8
   ext fL x hx hp;exact zY (e4 x hx)
  have fd:bz d:=s3.free hd;obtain⟨H6,kvs6,dps,e6d,k6,v6,_⟩:85:=xm0 (d:=d) (uV (LG,cF)) (H:=fA H3 d []) xj (by rw[Za]; simp; omega);refine bC CG H6 gT ?_ ?_
  .rw [Zw] at dps ⊢;exact dps
  show(mM,k36,(pW,H3 b=some u,H6 b=some u),k6 _ _ (xb e hd) (av,gY hd,e));show(mM,s06,gG H6,k36 _ _ (s3 _ _ e));have rmd:RmD H6 d names sX:=⟨kvs6,e6d,fun nm hnm=>by
   rw[<- e3] at hnm;ext fL x hx hnm;obtain⟨a1,a2,a3,a4,a5⟩:45:=e4 x hx;refine(bC,cF,(mq).2,v6 ?_ (LG,cF) (Ze.mpr Kq),k36 _ _ a4,a5.keep (fS,k36 _ _ e));show(aB,Zw,e3▸nnd)⟩
  refine bJ p dx hp hdx ne;show(rV,p,dx,xj,fun H8 d1 d2 hd1 hd2 k8 sg8=>Co);have up:(gZ,upd (upd H6 dx (.own p)) p (mH t.C_ac []) b=none,H6 b=none):=fun b z=>by
   cases e:H6 b with
   | none=>rfl
   | some u=>ext Rh FP
  show(mM,s68,Same H6 H8,k8 b u (xb e hp) (nD FP FA e));show(ae,fd1,up _ hd1,fd2,up _ hd2);ext rD leS0 lf hlf;generalize eu:oh H8 lf=H9;ext mN; ext fJ s9 hlf g9;show(ae,s69,s68.trans s9,s09,s06.trans s69);have nd1:d≠d1:=xb e6d fd1;have nd2:d≠d2:=xb e6d fd2;have sg9:=sg8.same s9;show(dL,kz1,hkz1,id sg8.so);show(dL,kz2,hkz2,id sg8.ho);obtain⟨dxz,hpz⟩:=id sg8.ins;have nf1:lf≠d1:=jJ hkz1 hlf;have nf2:lf≠d2:=jJ hkz2 hlf;have nfp:lf≠p:=jJ hpz hlf;have flf:H6 lf=none:=s68.free hlf;have room32:=xoc (ps:=ps) s32;show(zL,ln,s09 _ _ hln)
  let Pv (i:Nat) (Z:L2.St) (H10:Hp):Prop:=∃(v5 v6:bP) (qs:ao) (cs:c7) (so:bq) (ho:aD),(jI,Z,[cP,Cq,zI,aT p,aT lf,v5,v6],Same H6 H10,H10 lf=some (.lst (qs.map V.ref)),(au,CrL H10 cs qs,(∀ q∈qs,(au,H6 q=none,q≠d1,q≠d2,q≠p,q≠lf)),cs.length<=i,Sg t H10 p d1 d2 (30*i) so ho,pR sX ye cs))
  show(zcS,(ii _ [] [] ⟨86,_,_,rfl,s69,g9,.nil,lG,⟨bp,sg9,.nil⟩⟩))
  .show(zjs,H10,s10,s10 _ _ (s06 _ _ hln))
  .rintro i x Z H10 hx (⟨v5,v6,qs,cs,⟨so,ho,rfl,s10,e10,cr10,fq,ci,sg10,run⟩⟩:121);ext MX; ext sQ;ext EF;have il:=ft hnm;obtain⟨dx10,hp10⟩:=sg10.ins;have tk1:names.take aH=ye++[nm]:=by
    rw[ZS,hnm];rfl
   have tnd:(names.take aH).Nodup:=(Q8 _ _).nodup nnd;have dm:=run.dom ((Q8 _ _).nodup nnd);have nni:nm∉ye:=fun z=>by
    rw[tk1,ZH] at tnd;exact tnd.2.2 nm z nm m6 rfl
   have sn:CC nm:=by
    have z:=dm nm;rw[uR nni,JV] at z;cases e:so nm with
    | none=>rfl
    | some s=>ext cE e z
   have rmd10:RmD H10 d names sX:=by
    show(af,kv,e,f,id rmd);show(aE,kv,s10 _ _ e,(re,let ⟨l,rs,b1,b2,b3⟩:=f z hz; (bC,l,rs,b1,s10 _ _ b2,b3.keep (Same.tups s10))))
   show(dL,kw1,hkw1,id sg10.so);show(dL,kw2,hkw2,id sg10.ho);refine⟨p,dx10,_,rfl,hp10,xkm aP,p,d1,d2,d,30*i,sX,so,ho,names,nm,rfl,sg10,aa,run.mt,sn,rmd10,nd1,vo,Zm hnm,n12,room32,?_,?_⟩
   .rw [dm z,ZM] at hz;exact Yo (of_decide_eq_true hz.1)
   .intro H11 l11 so' ho' kb fl11 e11 sg11 mt11 dm11 rc11
    ext GI; refine(dI,.inl (dY,aV e11),ifN ap ?_);show(ay,k11,(pW,H6 b=some u,H11 b=some u),(jG,kb _ _ (xb e fd1) (xb e fd2) (s10 _ _ e)),ii _ qs cs ⟨86,so',ho',rfl,k11,kb _ _ nf1 nf2 e10,cr10.keep (fH,z,hz,u,kb _ _ (aW (fq z hz)) (zY (fq z hz)) e),fq,(ip,aa,sg11.le aa)⟩);show(aB,tk1,.inn run mt11 dm11 rc11)
   .intro H11 l11 hs s11 fl11 e11 cw rc11
    refine(dI,.inl (dY,aV e11),ST);show(mE,e11f,s11 _ _ e10,⟨uN e11f,lf,_,_,rfl,rfl,e11f,?_,?_⟩)
    .rw [Za,cr10.len];ext L5
    have nl:l11≠lf:=jJ e10 fl11;have kl:(eC,lf,H11 c=some u,rP H11 lf (.lst (qs.map V.ref++[.ref l11]))):=gR yI
    show(ay,tl,Tups H11 (dN H11 lf (qs.map V.ref++[.ref l11])),(vZ,kl _ _ (eK e11f) e),(ii,_,qs++[l11],zcw,⟨86,so,ho,rfl,(wC,kl _ _ (xb e flf) (s11 _ _ (s10 _ _ e))),Sv,((cr10.keep (fH,z,hz,u,s11 _ _ e)).keep (fH,z,hz,u,kl _ _ (bS,(fq z hz).2).2 e)).snoc (kl _ _ nl e11),vo,(ip,Ob,((sg10.same s11).keep (d:=lf) (Zx nfp) (Zx nf1) (Zx nf2) tl kl).le aa)⟩))
    .rcases Z3.mp hz with hz|hz
     .exact fq z hz
     .rw [Zp.mp hz];exact(b8,s10.free fl11,jJ hkw1 fl11,jJ hkw2 fl11,jJ hp10 fl11,nl)
    .rw [tk1];exact .out run cw rc11
  .rintro Z H10 (⟨v5,v6,qs,cs,⟨so,ho,rfl,s10,e10,cr10,fq,ci,sg10,run⟩⟩:121);rw[Za,Ta] at run;exact (q H10 lf qs cs so ho (s06.trans s10) (s06.free flf) e10 cr10 (re,s06.free (fq z hz).1) run)
noncomputable def xah (ps:aw):ai:=ps.map (·.nm)
inductive OutL (H:Hp):bM c7 ao
 | nil:OutL H [] []
 | cons {c:Ff}{q l:Addr}{cs:c7}{qs:ao} (h:eR q [yB,bQ]) (hl:ax l (.lst (c.2.map V.str))) (r:zdt):OutL H (c::cs) rG
theorem OutL.len {H:Hp}{cs:c7}{qs:ao} (h:zdt):XB:=by
 induction h with
 | nil=>rfl
 | cons _ _ _ ih=>ext oA
theorem OutL.get {H:Hp}{cs:c7}{qs:ao} (h:zdt) {i:Nat}{q:Addr} (e:BS):∃ c l,(aF cs c)/\(eR q [yB,bQ])/\(ax l (.lst (c.2.map V.str))):=by
 induction h generalizing i with
 | nil=>ext lw
 | @cons c q' l cs qs h hl _ ih =>
  cases i with
  | zero =>
   ext Bx;exact dA c l h hl
  | succ j=>ext rh
noncomputable def FOu (H0:Hp) (l2:Addr) (cs:c7) (i:Nat) (ys:ag) (H:Hp):Prop:=∃ L:(zD,Addr × Ff),(zfA,mq,cs.take i,ax cF (.lst ((mq).2.map V.str)),H0 cF=none)
noncomputable def OutF (H0 H:Hp) (l:Addr) (cs:c7) (qs:ao):Prop:=∃ L:(zD,Addr × Ff),(aR,qs,uV aN,cs=(uV mq),∀ x∈L,(bE,H0 cF=none,cF≠l,Vo,ax cF (.lst ((mq).2.map V.str))))
theorem xph {H:Hp}:∀(L:(zD,Addr × Ff)),(∀ x∈L,Vo/\(ax cF (.lst ((mq).2.map V.str))))->OutL H (uV mq) (L.map (jr aN))
 | [],_=>.nil
 | x::L,h=>.cons (h x gD).1 (h x gD).2 (xph L zed)
inductive xuo (t:Adr) (vs:ag) (H:Hp) (Q:VK) (_:XK):Prop
 | mk (a dp do_:Addr) (w h:Nat) (ps:aw) (ss srt:aj) (e_:vs=fF) (r_:Dr t H a dp do_ w h ps ss srt/\(ue).Nodup/\(zlw,OutL H' cs qs,zcA,OutF H H' l cs qs))
inductive xv7 (t:Adr) (vs:ag) (H:Hp) (Q:VK) (_:XK):Prop
 | mk (a dp do_:Addr) (w h:Nat) (ps:aw) (ss srt:aj) (e_:vs=fF) (r_:Dr t H a dp do_ w h ps ss srt/\(ue).Nodup/\∀ H' l cs so ho,(lT,cL,jD,H' l=some (.lst ((sy).map V.str)),zcA,bQ))
theorem xxe {α:V}{xs:ag}:cutV (α::xs) (some 1) none=xs:=by
 unfold cutV;simp[HT.sIx]
theorem xug {a b:Str}:dEq (.str a) CT=(cC a b):=xgu rfl rfl ⟨(d9,DV.str.inj h),(d9,fW h)⟩
theorem ok_aw (T:aX):FnOk true P w K mg base aU 8 t.f_aw t.d_aw mZ (xuo t):=by
 refine T.F_aw.okn (k:=7) sc_aw (aY h) (fun cdv A outer s H vs Q E hr h=>?_)
 .obtain ⟨a,dp,do_,w',h',ps,ss,srt,rfl,_⟩:=h;rfl
 .obtain ⟨a,dp,do_,w',h',ps,ss,srt,rfl,h⟩:=h;refine⟨_,xh (xb6 rfl (xas (zs:=["point"]) (ys:=[]) (fr:=[]) (N0:=oQ) (sc0:=xl s_aw) aP rfl rfl rfl) (xab (xbi bD T.c_a T.m_i (ok_i T) aZ T.b_i .nil xp)) jn jb eB Ot (j:=1) rfl pH)
   (dH (xa7 rfl (xas (zs:=["crowd"]) (ys:=[]) (fr:=[]) (N0:=oQ) (sc0:=xl s_aw) aP rfl rfl rfl) (xab (pC (xjn T) hr T.g_crowds T.F_crowds.kp T.b_crowds B5)) jn jb eB (mR (gu VF (xdv (r:=rSlL K) xe9 bD (xee (xm)) xeh))))),?_⟩
  refine sq2 ?_; intros; ext fO dr nnd q h;have p12:=dr.pic.len;show(Il,dr.pic,⟨a,dx,_,rfl,hpi,bL,a,dp,do_,w',h',ps,rfl,dr.pic,fun H1 l1 ds s1 e1 pt1=>?_⟩);have dll:=pt1.len;show(oO,l1,e1,l2,hl2,xba LD lF hl2 zjC AE (fun i x H2 hx s2 N hN=>?_) (fun ys H2 s2 e2 ly fy=>?_))
  .ext qS;show(af,p,hp,hpq,pt1.get hqa);exact dD qa 0 BU (vk,jp hpq,lE jV BV)
  have ey:ys=(ue).map V.str:=by
   show(G1,(by rw[ly,Za,dll]; unfold xah; rw[Za]));show(kh,p,hp,fy i y hy);unfold xah at hb;rw[Zf,hp] at hb;ext hJ hb
  rw[ey] at e2;have s02:=s1.trans s2;refine⟨a,l2,dp,do_,w',h',ps,ss,srt,ue,rfl,⟨46,dr.same s02,e2,am nm hnm,nnd,by ext zeO p12,fun H3 l3 qs cs so ho s3 fl3 e3 cr3 fq3 run=>?_⟩⟩
  .show(eE,p,hp,e,Ze.mp hnm);ext aE p hp e
  ext zge
  show(ae,qcl,cr3.len,s03,s02.trans s3);show(oO,l3,e3,l4,hl4,xh1 (aV e3) lF hl4 (FOu H l4 cs) zkj ?_ (fun i x ys H5 hx s5 el5 f5 N hN=>?_) (fun ys H5 s5 el5 ly5 f5=>?_))
  .rintro i ys zs H5 H6 hz k6 (⟨L,b1,b2,b3,b4⟩:64);refine lu L b1 b2 b3 tz;obtain⟨a1,a2,a3,a4,a5⟩:45:=zf;exact(b8,a1,a2,k6 _ _ a2 a3,k6 _ _ a1 a4,a5)
  .ext qS;show(af,c,hc,hcq,cr3.get hqa);show(mE,hcq5,dZ hcq,dD qa 0 yB (n6,aV hcq5,xdu (j:=0) rfl,(jB,1,IO qa hcq5 lh hlh)));rw[Zo,xxe];show(GR,upd H5 lh (.lst (c.2.map V.str)),hlh);ext kB u hu;show(GS,(iB,H6,u,yB,.ref lh),hu);refine lE EL ?_;obtain⟨L,b1,b2,b3,b4⟩:64:=f5;refine(lu,L++[(u,lh,c)],fQ b1 Zq,fQ Zs b2,?_,tz)
   .rw [Zq,b3,ZS,hc];rfl
   .rcases TX with hx|hx
    .obtain ⟨a1,a2,a3,a4,a5⟩:45:=zf;exact(b8,a1,a2,Ew a3,Ew a4,a5)
    .rw [Zp.mp hx];exact(b8,jJ el5 hlh,jJ (kG el5) hu,g7,s7 _ _ g6,(Ib).free hlh)
  rw[Za] at f5;obtain⟨L,rfl,b2,b3,b4⟩:64:=f5;rw[qcl,Ta] at b3;have ol5:=xph L (pE ⟨zY zf,aW (bS zf)⟩)
  show(bO,b3,ol5,q H5 l4 (uV aN) cs so ho Ib (s03.free hl4) (fQ el5 Zw) ol5 run (kg,L,b3.symm,pE (bR,bS (bS zf),(zf).1,zY zf,aW (bS zf))))
theorem xix (T:aX):FnOk true P w K mg base aU 9 t.f_kept t.d_kept mZ (xv7 t):=by
 refine T.F_kept.okn (k:=8) xm9 (aY h) (fun cdv A outer s H vs Q E hr h=>?_)
 .obtain ⟨a,dp,do_,w',h',ps,ss,srt,rfl,_⟩:=h;rfl
 .obtain ⟨a,dp,do_,w',h',ps,ss,srt,rfl,h⟩:=h;refine⟨_,xh (Hi 1 xm9.nd (xa7 rfl (xas (zs:=["name", "holders"]) (ys:=[]) (fr:=[]) (N0:=Fj "out") (sc0:=xl xgf) aP rfl rfl rfl) (xab (pC (ok_aw T) hr T.g_aw T.F_aw.kp T.b_aw pQ)) Ma (xb7 G8) eB Ou))
   (dH (xa7 rfl (xas (zs:=["point"]) (ys:=["out"]) (fr:=[1]) (N0:=Fj "out") (sc0:=xl xgf) aP rfl rfl rfl) (xab (xbi bD T.c_a T.m_i (ok_i T) aZ T.b_i .nil xp)) jn jb (fun _ _ _ _ _=>xgy (zjr As)) Ot)),?_⟩
  refine sq2 ?_; intros; ext fO dr nnd q h;show(mE,p12,dr.pic.len,⟨a,dp,do_,w',h',ps,ss,srt,rfl,dr,nnd,fun H1 l1 qs cs so ho s1 fl1 e1 ol1 run _=>?_⟩);ext zge
  have qcl:=ol1.len;show(oO,l1,e1,l2,hl2,xba LD lF hl2 (fun i y _=>znO) AE (fun i x H2 hx s2 N hN=>?_) (fun ys H2 s2 e2 ly fy=>?_))
  .ext qS;show(L6,c,lh,hc,hcq,ol1.get hqa);exact(dD,qa,rfl,eA (jp hcq),lE jV (b5 c hc))
  have ey:ys=(cs.map (·.1)).map V.str:=by
   show(G1,(by rw[ly,Za,Za,qcl]));show(kh,c,hc,fy i y hy);rw[Zf,hc] at hb;ext hJ hb
  rw[ey] at e2;show(ae,s02,mX,dr2,dr.same s02);show(Il,dr2.pic,⟨a,dx,_,rfl,hpi,bL,a,dp,do_,w',h',ps,rfl,dr2.pic,fun H3 l3 ds s3 e3 pt3=>?_⟩);have dll:=pt3.len;show(ae,e23,qm e2,s03,s02.trans s3);refine(oX,l3,e3,am l4 hl4);have odv:∀{H5:Hp},Same H3 H5->Dv K H5 1 (.ref l2) (.lst ((cs.map (·.1)).map DV.str)):=fun {H5} s5=>.lst (aV (dZ e23)) ah fun j x d h1 h2=>by
   ext zfF
  have oin:∀ nm:Str,(((cs.map (·.1)).map DV.str).any (aC,dEq z (.str nm)))=decide (nm∈cs.map (·.1)):=fun nm=>by
   ext OR
   .ext qI d hd e;ext fL z hz hd;rw[xug] at e;ext ja zqU hz
   .intro hm
    exact(dI,Ze.mpr (dY hm),xcf _)
  refine xeb (aV e3) lF hl4 (fun i=>((ps[i]?).map fun p=>! decide (p.nm∈cs.map (·.1))).getD false) zjC AE (fun i x H5 hx s5 N M hN hM=>?_) (fun ys H5 s5 e5 ly fy=>?_)
  .ext qS;show(af,p,hp,hpq,pt3.get hqa);show(mE,hpq5,dZ hpq,(dD,qa,0,BU,vk hpq5 ⟨0,1,BU,_,.str,odv s5,ap,ap,_,rfl,lK y y⟩))
   .rw [cp,oin] at y;exact dD qa 0 BU (vk,hpq5,hN _ _ jV (av hp y) BV)
   .rw [cp,oin] at y;exact hM _ jV (by rw[hp]; exact Jh.mpr y)
  have fi:=xnb (fun p:Pt=>! decide (p.nm∈cs.map (·.1))) (as:=ps) (p:=fun i=>((ps[i]?).map fun p=>! decide (p.nm∈cs.map (·.1))).getD false) (hU,p,hp,fh hp);rw[Za,dll] at ly fy;have ek:sy=(ps.filter fun p=>! decide (p.nm∈cs.map (·.1))).map (·.nm):=by
   unfold xao xah;rw[QY];rfl
  have ey2:ys=(sy).map V.str:=by
   rw[ek];show(G1,(by rw[ly,Za,fi.1]));have hj:i<((Z1 ps.length).filter fun i=>((ps[i]?).map fun p=>! decide (p.nm∈cs.map (·.1))).getD false).length:=by
    show(ja,ly,ft hy)
   show(kh,p,hp,fy i y _ hy C5);rw[fi.2 i _ C5] at hp;rw[Zf,hp] at hb;ext hJ hb
  show(bO,ey2,e5,q H5 l4 cs so ho Ib (s03.free hl4) e5 run)
theorem Run.crowd {room:fj}{ns:ai}{so:bq}{ho:aD}{cs:c7} (r:sw) (nd:ns.Nodup):∀ c∈cs,∃ so0 ho0,Kp.Mt room so0 ho0/\Kp.Crowd room so0 c.1 c.2/\∀ z∈HX,z∈ns:=by
 induction r with
 | nil=>exact lG
 | inn _ _ _ _ ih =>
  intro c hc;ext L7;obtain⟨so0,ho0,a1,a2,a3⟩:83:=ih nd.1 c hc;ext zjS
 | @out ns so ho cs nm hs r cw rc ih =>
  intro c hc;ext L7;rcases Z3.mp hc with hc|hc
  .obtain ⟨so0,ho0,a1,a2,a3⟩:83:=ih nd.1 c hc;ext zjS
  .rw [Zp.mp hc];refine bC so ho r.mt cw vo;rcases dU hz with rfl|hz
   .exact Z6 _ m6
   .have k:=cw.has z hz;rw[r.dom nd.1 z,ZM] at k;exact ZR _ znZ
inductive xum (t:Adr) (vs:ag) (H:Hp) (Q:VK) (_:XK):Prop
 | mk (a ln dp do_:Addr) (w h:Nat) (ps:aw) (ss srt:aj) (names:ai) (e_:zbj) (r_:Dr t H a dp do_ w h ps ss srt/\(au,Gz,zas,names.Nodup,uI,∀ H' v cs so ho,bb cL (pR sX names cs) (Tn,cs,[],∃ l c r,cs=c::r/\(aR,v,bQ,jD,H' l=some (.lst ((HX).map V.str)))) CP))
theorem xub (T:aX):FnOk true P w K mg base aU 8 t.f_fits t.d_fits oQ (xum t):=by
 refine T.F_fits.okn (k:=7) xna (aY h) (fun cdv A outer s H vs Q E hr h=>?_)
 .obtain ⟨a,ln,dp,do_,w',h',ps,ss,srt,names,rfl,_⟩:=h;rfl
 .obtain ⟨a,ln,dp,do_,w',h',ps,ss,srt,names,rfl,h⟩:=h;refine⟨_,xh (pS 2 xna.nd (pC (xjn T) hr T.g_crowds T.F_crowds.kp T.b_crowds B5))
   (dH (xhr (xkn (pv 2) o5) (jS 2 (xm)) (xb4))),?_⟩
  refine sq2 ?_; intros; obtain⟨dr,hln,nps,nnd,n12,q⟩:46:=h;refine⟨a,ln,dp,do_,w',h',ps,ss,srt,names,rfl,⟨46,dr,hln,nps,nnd,n12,fun H1 l1 qs cs so ho s1 fl1 e1 cr1 fq1 run=>?_⟩⟩;show(i7,.inl (dY LD));cases cr1 with
  | nil=>exact ifN ap (q H1 .non [] so ho s1 run (rb rfl))
  | @cons c q0 cs qs h r =>
   refine ifP nR (dD l1 0 LP (n6,LD,xdu (j:=0) rfl,q H1 LP (c::cs) so ho s1 run (.inr ⟨104,q0,c,cs,rfl,rfl,fq1 q0 gD,h⟩)))
noncomputable def xes (f:mO) (g:Int):Bool:=match f with
 | none=>true
 | some y=>cJ (g<y.1)
noncomputable def look (own:bN) (rent:bG) (asked:aD) (a:Str) (f:mO) (x:IK):mO :=
 (cm,zkm,some (GP,a,aN),f)
noncomputable def xfr (lens:cD) (own:bN) (rent:bG) (asked:aD) (f:mO) (askers:ai):mO:=askers.foldl (fun f a=>(lens a).foldl (look own rent asked a) f) f
noncomputable def near (lens:cD) (own:bN) (rent:bG) (asked:aD) (askers:ai):mO:=xfr lens own rent asked none askers
structure Best (own:bN) (rent:bG) (asked:aD) (P:Ix) (f:mO):Prop where
 is_:∀ g a s,(K3 f a)->∃ l,P a (s,l)/\g=l-own a-zN/\HG
 le:∀ a x,P a x->asked aN=none->∃ y,f=some y/\y.1<=GP
theorem Best.congr {own:bN}{rent:bG}{asked:aD}{P P':Ix}{f:mO} (b:TC) (h:∀ a x,P a x↔P' a x):Pg P' f :=
 ⟨fH g a s (RO,l,b.is_ g a s e,⟨l,(h _ _).mp h1,h2⟩),fun a x p=>b.le a x ((h _ _).mpr p)⟩
theorem Best.look1 {own:bN}{rent:bG}{asked:aD}{P:Ix}{f:mO} (b:TC) (a:Str) (x:IK):WS (a'=a/\x'=x) (look own rent asked a f x):=by
 unfold look;by_cases c:zkm=true
 .rw [az c];rw[ZM] at c;obtain⟨c1,c2⟩:=c;show(cR,fH g a' s ?_,fun a' x' p z=>Cn)
  .cases e;exact(bi,cU,zC rfl,rfl,by simpa using c1)
  .rcases p with p|⟨rfl,rfl⟩
   .show(eE,y,e,h,b.le a' x' p z);rw[e] at c2;have c2:GP<y.1:=by simpa [xes] using c2
    show GP<=_;omega
   .exact YR _
 .ext iA c;show(cR,fH g a' s (RO,l,b.is_ g a' s e,⟨l,.inl h1,h2⟩),cI a' x' p z);rcases p with p|⟨rfl,rfl⟩
  .exact b.le a' x' p z
  .rw [z] at c;have c:¬ xes f zkl=true:=DT
   cases f with
   | none=>ext iP c
   | some y =>
    have c:¬ zkl<y.1:=by simpa [xes] using c
    ext wQ y aa
theorem Best.row {own:bN}{rent:bG}{asked:aD} (a:Str):∀(xs:uQ) {P:Ix}{f:mO},TC->(WS (a'=a/\x'∈xs) (xs.foldl (look own rent asked a) f))
 | [],P,f,b=>zgJ z.2
 | pY,P,f,b=>by
  refine (Best.row a xs (b.look1 a x)).congr (am a' x');constructor
  .rintro ((h|⟨h1,h2⟩)|⟨h1,h2⟩)
   .ext cH h
   .show(jy,h1,av h2 gD)
   .show(jy,h1,Zj _ h2)
  .rintro (h|⟨h1,h2⟩)
   .ext Tt h
   .rcases dU h2 with h2|h2
    .show(Ts,⟨h1,h2⟩)
    .ext jy h1 h2
theorem Best.allF {lens:cD}{own:bN}{rent:bG}{asked:aD}:∀(as:ai) {P:Ix}{f:mO},TC->(WS (a'∈as/\x'∈lens a') (xfr lens own rent asked f as))
 | [],P,f,b=>zgJ z.1
 | a::as,P,f,b=>by
  refine (Best.allF as (b.row a (lens a))).congr (am a' x');constructor
  .rintro ((h|⟨h1,h2⟩)|⟨h1,h2⟩)
   .ext cH h
   .show(jy,av h1 gD,av h1 h2)
   .show(jy,Zj _ h1,h2)
  .rintro (h|⟨h1,h2⟩)
   .ext Tt h
   .rcases dU h1 with h1|h1
    .show(Ts,⟨h1,dE h1 h2⟩)
    .ext jy h1 h2
theorem xjo (lens:cD) (own:bN) (rent:bG) (asked:aD) (as:ai):Pg (fun a x=>a∈as/\x∈lens a) (near lens own rent asked as) :=
 (Best.allF as (P:=uM) (f:=none) ⟨fH g a s (nomatch e),fun a x p=>p.elim⟩).congr fun a x=>⟨(d9,h.elim Ya id),.inr⟩
noncomputable def shO (own:bN) (askers:ai) (g:Int):bN:=(aC,if z∈askers then own z+g else own z)
noncomputable def shR (rent:bG) (asked:aD) (g:Int):bG:=aC (cm,(asked z).isSome,rent z-g,rent z)
noncomputable def setI (own:bN) (nm:Str) (v:Int):bN:=aC (nh,z,nm,v,own z)
noncomputable def xal (lens:cD):fj:=fun n=>(wu).map (·.1)
structure xda (lens:cD) (ss:aj):Prop where
 nd:∀ n,(yC).Nodup
 b:∀ n x,x∈wu->(pZ cU 46)
 ins:DR
 snd:ss.Nodup
theorem xda.one {lens:cD}{ss:aj} (h:yj) {n:Str}{s:Seat}{l l':Int} (h1:(s,l)∈wu) (h2:(s,l')∈wu):l=l':=by
 have nd:=h.nd n;unfold xal at nd;ext Pb h1;ext zcQ h2;have:i=j:=xsb nd (i:=i) (j:=j) (gE hi) (gE hj) (by rw[YG,YG,ei,ej]);ext rE;show(bO,ei,ej,(Qi.inj ej).2)
structure Fit (lens:cD) (names:ai) (so:bq) (ho:aD) (own:bN) (rent:bG):Prop where
 mt:w4
 dm:GW
 le:∀ n∈names,Vj
 eq:WR
 rl:zeu
 r0:WX
 o0:∀ n∈names,0<=wL
 ob:∀ n∈names,wL<=1200
structure Grow (lens:cD) (names:ai) (name:Str) (so:bq) (ho:aD) (crowd:ai) (al:aj) (asked:aD) (own:bN) (rent:bG):Prop where
 bf:Bf KN ho name crowd al asked
 le:LY Vj
 eq:WR
 rl:zeu
 r0:WX
 tr:zjN
 o0:(LY,0<=wL)
 ob:ziy
section
variable {lens:Str->List (Seat × Int)}{names:List Str}{name:Str}{so:Str->Option Seat}{ho:Seat->Option Str}{crowd:List Str}{al:List Seat}{asked:Seat->Option Str}{own:Str->Int}{rent:Seat->Int}{ss:List Seat}
theorem Fit.grow (f:Fit lens names so ho own rent) (lo:yj) (nn:name∉names):Grow lens names name so ho [name] [] fb (setI own name 0) rent:=by
 have ne:∀ n∈names,n≠name:=(dh,n,hn,nn (e▸hn));have so_in:wM (vc s) S5:=fun n s e=>by
  show(ve,f.dm n,e);ext zcp
 refine⟨Bf.start,cI n hn x hx,bJ n s e l hl,f.rl,f.r0,dh s a (nomatch e),BK,fun n hn _=>?_⟩
 .unfold setI;rcases Z3.mp hn with hn|hn
  .show(bI,if_neg (ne n hn),f.le n hn x hx)
  .rw [if_pos (Zp.mp hn)];show(wc,f.rl aN,(lo.b n x hx).1)
 .unfold setI;show(aB,if_neg (ne n (so_in n s e)),f.eq n s e l hl)
 .unfold setI;split
  .exact YR _
  .rename_i h
   rcases Z3.mp hn with hn|hn
   .exact f.o0 n hn
   .exact absurd (Zp.mp hn) h
 .unfold setI;show(aB,if_neg (ne n hn),f.ob n hn)
theorem Bf.in_ (b:Bf KN ho name crowd al asked) (mt:w4) (dm:GW) {a:Str} (h:a∈crowd):a∈zcJ:=by
 obtain⟨k,hk,e⟩:=ZI h;rcases b.at_ mt (k:=k) (a:=a) (og hk e) with⟨_,z⟩|⟨j,s,_,_,z⟩
 .exact Z6 _ (Zp.mpr z)
 .have:=dm a;show(bO,z,this,ZR _ (by ext zcp))
theorem Bf.ask (b:Bf KN ho name crowd al asked) (s:Seat):(gM iK)↔wx:=by
 constructor
 .intro h
  by_cases c:wx
  .exact c
  .show(gH,b.no s c);cases h
 .intro h
  obtain⟨j,hj,e⟩:=ZI h;obtain⟨k,a,_,_,e3,_⟩:=b.ak j s (og hj e);rw[e3];rfl
theorem Bf.asker (b:Bf KN ho name crowd al asked) {s:Seat}{a:Str} (e:oH):a∈crowd:=by
 have h:=(b.ask s).mp wj;ext X8;obtain⟨k,a',_,e2,e3,_⟩:=b.ak j s (og hj ej);ext bB e e3 e3;exact Zm e2
theorem Bf.both (b:Bf KN ho name crowd al asked) (mt:w4) (sn:tD) {n:Str}{s:Seat} (e:vc s):S6↔(gM iK):=by
 rw[b.ask s];constructor
 .intro h
  obtain⟨k,hk,ek⟩:=ZI h;rcases b.at_ mt (k:=k) (a:=n) (og hk ek) with⟨_,z⟩|⟨j,t,_,hj,z⟩
  .ext vd z sn
  .rw [e] at z;cases z;exact Zm hj
 .intro h
  ext X8;obtain⟨x,e1,e2⟩:=zqP;have:=(mt.iff x s).mpr e2;rw[mt.inj e this];exact Zm e1
structure Gap (lens:cD) (crowd:ai) (asked:aD) (own:bN) (rent:bG) (g:Int) (a:Str) (s:Seat):Prop where
 g0:0<=g
 ac:a∈crowd
 rm:s∈xal lens a
 na:HG
 eq:(XN,lens a,own a+g)
 mn:∀ b∈crowd,∀ x∈CK,asked aN=none->own b+g+rent aN<=cU
theorem Grow.gap (w:Grow lens names name so ho crowd al asked own rent) (lo:yj) (mt:w4) (dm:GW) {g:Int}{a:Str}{s:Seat} (e:SX):Gap lens crowd asked own rent g a s:=by
 ext zmc;obtain⟨l,⟨h1,h2⟩,h3,h4⟩:63:=B.is_ g a s e;refine⟨?_,h1,Ze.mpr (dY h2),h4,am l' hl',bJ b hb x hx z⟩
 .have:=w.le a (w.bf.in_ mt dm h1) (s,l) h2;have:own a+zN<=l:=this;omega
 .show(db,lo.one h2 hl')
 .show(eE,y,ey,hy,B.le b x ⟨hb,hx⟩ z);ext bB e ey ey;have hy:g<=cU-own b-rent aN:=hy;omega
structure Mid (lens:cD) (names:ai) (name:Str) (so:bq) (ho:aD) (crowd:ai) (asked:aD) (own:bN) (rent:bG):Prop where
 le:LY Vj
 eq:WR
 rl:zeu
 r0:WX
 tr:zjN
 o0:(LY,0<=wL)
 ob:ziy
theorem Grow.shift (w:Grow lens names name so ho crowd al asked own rent) (mt:w4) (sn:tD) {g:Int}{a:Str}{s:Seat} (p:Gap lens crowd asked own rent g a s):Mid lens names name so ho crowd uF oN oJ:=by
 show(mE,g0,p.g0,⟨cI n hn x hx,bJ n t e l hl,bZ t,Kn,bJ t b e l hl,BK,aI n hn hc⟩)
 .have base:=w.le n hn x hx;unfold shO shR;by_cases c1:S6<;>by_cases c2:gM (asked aN)
  .rw [az c1,az c2]; omega
  .rw [az c1,aM c2];show(db,p.mn n c1 x hx (by simpa using c2))
  .rw [aM c1,az c2]; omega
  .rw [aM c1,aM c2]; omega
 .show(ae,base,w.eq n t e l hl,iff,w.bf.both mt sn e);unfold shO shR;by_cases c1:S6
  .rw [az c1,if_pos (iff.mp c1)]; omega
  .rw [aM c1,(jR,c1 (iff.mpr z))]; exact base
 .have:=w.rl t;unfold shR;ext lQ
 .have z:¬ (gM (asked t)):=fun z=>by
   have h:=(w.bf.ask t).mp z;ext X8;obtain⟨x,_,e2⟩:=w.bf.hd j t (og hj ej);ext cE ht e2
  unfold shR;show(pU,z,w.r0 t ht)
 .ext zqG
  .rename_i h
   cases e;subst h;have:=p.eq l hl;unfold shO shR;rw[az p.ac,aM (av p.na Z4)];omega
  .have:=w.tr t b e l hl;unfold shO shR;rw[if_pos (w.bf.asker e),az wj];omega
 .have:=w.o0 n hn;unfold shO;ext lQ
 .unfold shO;show(pU,hc,w.ob n hn hc)
theorem Grow.more (w:Grow lens names name so ho crowd al asked own rent) (mt:w4) (sn:tD) {g:Int}{a h:Str}{s:Seat} (p:Gap lens crowd asked own rent g a s) (hh:D2):Grow lens names name so ho BF nG uF oN oJ:=by
 have m:=w.shift mt sn p;show(Pb,p.ac);have ns:s∉al:=fun z=>by
  have:=(w.bf.ask s).mpr z;show(BB,p.na)
 exact⟨w.bf.add (i:=i) IT p.rm ns hh,m.le,m.eq,m.rl,m.r0,m.tr,m.o0,fun n hn hc=>m.ob n hn (aC,hc (ZR _ z))⟩
theorem Grow.nearest (w:Grow lens names name so ho crowd al asked own rent) (lo:yj) (mt:w4) (dm:GW) (sn:tD) {so2:bq}{ho2:aD} (mt2:Kp.Mt (xal lens) so2 ho2) (all:LY (gM (so2 n))):∃ g a s,SX:=by
 cases e:Dh with
 | some y=>exact⟨101,y.1,aW y,bS y,rfl⟩
 | none =>
  ext zmc;have allin:∀(k:Nat) (a:Str),F3->∀ s∈xal lens a,wx:=fun k a ha s hs=>by
   ext fL x hx hs;rw[<- w.bf.ask];cases z:asked aN with
   | some _=>rfl
   | none =>
    show(dL,y,ey,B.le a x ⟨Zm ha,hx⟩ z);ext cE e ey
  show(af,hs,ec,cr,w.bf.done mt sn allin);show(ziT,cr.count mt lo.snd lo.ins,lo.ins,all a (w.bf.in_ mt dm (av ec ha)))
theorem xq2 {room:fj}{s0:Seat}{so':bq}{ho':aD} (h:xP sf NN):(∀ n t,so' n=some t->(vc t)\/X1)/\(zck (gM (ho' t))):=by
 have key:∀(x y:Kp.KS Str Seat),Kp.Rch sf x y->x=NN->(∃ so1 ho1 s1,(y=.hand so1 ho1 asked s1\/y=.fin so1 ho1)/\(∀ n t,so1 n=some t->(vc t)\/X1)/\(zck (gM (ho1 t)))):=by
  intro x y h
  induction h with
  | refl =>
   intro e;exact⟨103,so,ho,s0,.inl e,fun n t z=>.inl z,fun t z=>z⟩
  | step _ e ih =>
   intro ex;obtain⟨so1,ho1,s1,hy,p1,p2⟩:103:=ih ex;rcases hy with rfl|rfl
   .have put:∀ a,asked s1=some a->(∀ n t,Kp.upd1 so1 a s1 n=some t->(vc t)\/X1)/\(zck (gM (Kp.upd1 ho1 s1 a t))):=fun a ha=>by
     show(nW,aI n t z,t,z)
     .unfold Kp.upd1 at z;split at z
      .rename_i hn
       cases z;subst hn;ext gX ha
      .exact p1 n t z
     .unfold Kp.upd1;split
      .rfl
      .exact p2 t z
    cases ha:asked s1 with
    | none=>simp[Kp.kstep,ha] at e
    | some a =>
     cases hl:so1 a with
     | none =>
      show(bB,Kp.k_fin ha hl,e,e);exact⟨103,_,_,s1,Ca,(TW).1,(TW).2⟩
     | some l =>
      show(bB,Kp.k_hand ha hl,e,e);exact⟨103,_,_,l,gT,(TW).1,(TW).2⟩
   .simp [Kp.kstep] at e
 obtain⟨so1,ho1,s1,hy,p1,p2⟩:103:=key _ _ h rfl;rcases hy with e|e
 .cases e
 .cases e;ext aO p1 p2
theorem Grow.last (w:Grow lens names name so ho crowd al asked own rent) (lo:yj) (mt:w4) (sn:tD) (dm:GW) (c12:zaO) {g:Int}{a:Str}{s:Seat} (p:Gap lens crowd asked own rent g a s) (hs:Bv) {so':bq}{ho':aD} (mt':Kp.Mt (xal lens) so' ho') (dm':Ha (Iw||sF)) (rc:xP zmM (.hand so ho uF s)):Fit lens zcJ so' ho' oN oJ:=by
 have m:=w.shift mt sn p;obtain⟨h1,h2⟩:=xq2 rc
 -- how far the prices of the crowd lie apart
 have dist:∀(k:Nat) (b:Str),(Fi b)->(RP b)<=(RP name)+46*pL/\(RP name)<=(RP b)+46*pL:=by
  intro k
  induction k using Nat.strongRecOn with
  | ind k ih =>
   intro b hb;rcases w.bf.at_ mt hb with⟨rfl,rfl⟩|⟨j,t,rfl,hj,hso⟩
   .exact ⟨aa,aa⟩
   .obtain ⟨k0,a0,kj,e1,e2,e3⟩:=w.bf.ak j t hj;obtain⟨i1,i2⟩:=ih k0 aa a0 e1;obtain⟨x1,hx1,ex1⟩:=Ze.mp (mt.rm b t hso);obtain⟨x2,hx2,ex2⟩:=Ze.mp e3;have z1:=m.eq b t hso x1.2 (dE ex1 hx1);have nt:¬ t=s:=fun z=>by
     have:=(w.bf.ask t).mpr (Zm hj);show(uw,z,p.na,this,this)
    have z2:=m.tr t a0 (by unfold Kp.upd1; ext pU nt e2) x2.2 (dE ex2 hx2);show(ae,y1,lo.b b x1 hx1,y2,lo.b a0 x2 hx2);ext aO aa aa
 refine⟨mt',l0,m.le,bJ n t e l hl,m.rl,Kn,m.o0,BK⟩
 .rw [dm' z,dm z,Jg];simp only[Bool.or_eq_true,decide_eq_true_iff,Z3,Zp];exact or_comm
 .rcases h1 n t e with z|z
  .exact m.eq n t z l hl
  .exact m.tr t n z l hl
 .refine m.r0 t ?_;cases z:ho t with
  | none=>rfl
  | some _ =>
   have:=h2 t (fh z);ext BB ht
 .by_cases c:S6
  .obtain ⟨k,hk,ek⟩:=ZI c;show(Pb,p.ac);show(ae,d1,dist k n (og hk ek),d2,dist i a IT);obtain⟨x,hx,ex⟩:=Ze.mp p.rm;show(ae,z1,m.tr s a WI cU (dE ex hx),z2,m.r0 s hs);show(db,lo.b a x hx)
  .rcases Z3.mp hn with hn|hn
   .exact m.ob n hn c
   .show(dy,(by rw[Zp.mp hn]; exact Zm w.bf.c0),c)
#check _
inductive LS where
 | go (own:bN) (rent:bG) (asked:aD) (crowd:ai)
 | hand (own:bN) (rent:bG) (asked:aD) (s:Seat)
noncomputable def xd9 (lens:cD) (ho:aD):LS->(cX LS)
 | WC=>match Dh with
  | none=>none
  | some (g,a,s)=>match ho s with
   | some h=>some (.go oN oJ uF BF)
   | none=>some (.hand oN oJ uF s)
 | .hand _ _ _ _=>none
theorem a_go {lens:cD}{ho:aD}{own:bN}{rent:bG}{asked:aD}{crowd:ai}{g:Int}{a h:Str}{s:Seat} (e:SX) (e2:D2):xd9 lens ho WC=some (.go oN oJ uF BF):=by
 simp only[xd9,e,e2]
theorem xxs {lens:cD}{ho:aD}{own:bN}{rent:bG}{asked:aD}{crowd:ai}{g:Int}{a:Str}{s:Seat} (e:SX) (e2:Bv):xd9 lens ho WC=some (.hand oN oJ uF s):=by
 simp only[xd9,e,e2]
inductive LRun (lens:cD):bb ai bN bG (bM bq aD)
 | nil:LRun lens [] T6 T6 fb fb
 | snoc {ns:ai}{own own':bN}{rent rent':bG}{so so':bq}{ho ho' asked:aD}{nm:Str}{s:Seat} (r:LRun lens ns own rent so ho) (ra:zfL lens) (rk:xP zmM XJ) (f:Fit lens lR so' ho' own' rent'):LRun lens lR own' rent' so' ho'
theorem LRun.fit {lens:cD}{ns:ai}{own:bN}{rent:bG}{so:bq}{ho:aD} (r:LRun lens ns own rent so ho):Fit lens ns so ho own rent:=by
 cases r with
 | nil=>exact⟨⟨zpN,zpL⟩,aC rfl,X3,dh n s (nomatch e),fun s=>YR _,fun s _=>rfl,X3,X3⟩
 | snoc r ra rk f=>exact f
theorem xgc {Z:L2.St}{H:Hp}{K:zi} (h:K [] H):tNil Z H K:=h
theorem xil {k m:Str}{v:V}{r:kK} (e:CZ m k):(wD,Jm m ((k,v)::r)):=by
 rw[Z5,e]
theorem xcq {k m:Str}{v:V}{r:kK}{o:bP} (e:zq m k) (h:Jm m r=o):Jm m ((k,v)::r)=o:=by
 ext cY Z5 e h
noncomputable abbrev pzF (a dl d_o d_r p:Addr):kK:=[Ef,DE,OQ,("rent",.ref d_r),("seating",cq)]
theorem lkZp {a dl d_o d_r p:Addr}:(AD).lookup (eO "picture")=some aA:=xil aP
theorem lkZl {a dl d_o d_r p:Addr}:(AD).lookup (eO "lengths")=some (.ref dl):=xcq aP (xil aP)
theorem lkZo {a dl d_o d_r p:Addr}:(AD).lookup (eO "own")=some (.ref d_o):=WF
theorem lkZr {a dl d_o d_r p:Addr}:(AD).lookup (eO "rent")=some (.ref d_r):=xcq aP WF
theorem lkZs {a dl d_o d_r p:Addr}:(AD).lookup (eO "seating")=some (.ref p):=xcq aP (xcq aP WF)
theorem xf8 {a dl d_o d_r p:Addr}{m:Str} (e:((["picture", "lengths", "own", "rent", "seating"]:ai).all fun k=>!(m == k))=true):(AD).lookup m=none:=by
 ext Vp;obtain⟨e1,e2,e3,e4,e5,_⟩:46:=e;exact xcq e1 (xcq e2 (xcq e3 (xcq e4 (xcq e5 rfl))))
theorem valM {α κ:Type} [Pn] {k:α->κ} (inj:MQ) {f:α->V}{a:α}:∀{l:b7},a∈l->valV (l.map (lB (k n,f n))) (k a)=some (f a)
 | x::l,h=>by
  by_cases c:k x=k a
  .rw [Zo,xbe c,inj _ _ c]
  .rw [Zo,xa4 c];rcases LC with rfl|h
   .ext iP c
   .exact valM inj h
theorem xfi {α κ:Type} [Pn] {k:α->κ} (inj:MQ) {f:α->V}{a:α}:∀{l:b7},a∉l->valV (l.map (lB (k n,f n))) (k a)=none
 | [],_=>rfl
 | x::l,h=>by
  rw[Zt,not_or] at h;rw[Zo,xa4 (fun c=>h.1 (inj _ _ c).symm)];exact xfi inj h.2
theorem putM {α κ:Type} [Pn] [AX] {k:α->κ} (inj:MQ) {f:α->V}{a:α}{l:b7} (h:a∈l) (v:V):putK (zaT,f n) (k a) v=(zaT (nh,n,a,v,f n)):=by
 unfold putK;have e:((zaT,f n).any fun kv=>(cC,uB,k a))=true:=J9.mpr ⟨(k a,f a),Ze.mpr (b5 a h),decide_eq_true rfl⟩;rw[Gb,Zw];refine JD fun n _=>?_;show (if k n=k a then (k n,v) else (k n,f n))=_;by_cases c:n=a
 .rw [Ga c,zH]
 .rw [(jR,c (inj _ _ z)),wp]
theorem inrI (a b:Str) (h:(Jd a:Key)=Jd b):a=b:=Jd.inj h
theorem xd6 (a b:Seat) (h:xt a=xt b):a=b:=xdf h
noncomputable def OwD (H:Hp) (d:Addr) (names:ai) (own:bN):Prop:=ax d (.dK (names.map (lB ((.inr n:Key),V.int (own n)))))
noncomputable def RnD (H:Hp) (d:Addr) (ss:aj) (rent:bG):Prop:=ax d (.dT (ss.map fun s=>(iy,V.int (rent s))))
noncomputable def AkD (H:Hp) (d:Addr) (al:aj) (asked:aD):Prop:=ax d (DG (iy,V.str ((iK).getD (Z8 ""))))
noncomputable def LnT (xs:uQ):dC:=xs.map fun x=>(xt aN,V.int cU)
noncomputable def LnD (H:Hp) (d:Addr) (bad:ao) (names:ai) (lens:cD):Prop:=∃ kvs:aL,CF/\kvs.length<=names.length/\∀ nm∈names,∃ q,Ct=some cu/\(ax q (.dT (LnT (lens nm))))/\q∉bad
structure Pz (t:Adr) (H:Hp) (pz a dl d_o d_r p d1 d2:Addr) (n:Nat) (names:ai) (ss:aj) (lens:cD) (so:bq) (ho:aD) (own:bN) (rent:bG):Prop where
 ins:∃ dx,ax pz (y9 AD)
 sg:Sg t H p d1 d2 n so ho
 ow:zqq
 rn:RnD H d_r ss rent
 ln:LnD H dl [d_r,d2] names lens
 n1:d_r≠d2
 n2:d_o≠d1
 n3:d_o≠dl
 n4:dl≠d1
theorem Pz.same {t:Adr}{H H':Hp}{pz a dl d_o d_r p d1 d2:Addr}{n:Nat}{names:ai}{ss:aj}{lens:cD}{so:bq}{ho:aD}{own:bN}{rent:bG} (z:Pz t H pz a dl d_o d_r p d1 d2 n names ss lens so ho own rent) (s:cL):Pz t H' pz a dl d_o d_r p d1 d2 n names ss lens so ho own rent :=
 ⟨let ⟨dx,e⟩:=z.ins; kZ qV,z.sg.same s,s _ _ z.ow,s _ _ z.rn,let ⟨kvs,e,l,f⟩:=z.ln; (bi,kvs,qV,l,fun nm h=>let ⟨q,e1,e2,e3⟩:=f nm h; (bi,q,e1,s _ _ e2,e3)),z.n1,z.n2,z.n3,z.n4⟩
noncomputable def FndV (H:Hp) (v:V) (f:mO):Prop:=(Tn,f,none,∃(g:Int) (a:Str) (s:Seat) (q qs:Addr),nJ f (g,a,s) (aR v cu (eR q [.int g,.str a,.ref qs]) (qD qs s)))
theorem FndV.tp {H H':Hp}{v:V}{f:mO} (h:FndV H v f) (t:kM):FndV H' v f:=by
 rcases h with h|⟨g,a,s,q,qs,h1,h2,h3,h4⟩
 .ext cH h
 .show(gX,(gU g a s q (lu,qs,h1,h2,t _ _ h3,t _ _ h4)))
theorem AkD.get {H:Hp}{d:Addr}{al:aj}{asked:aD} (h:zaD) (ask:si) {b:Addr}{s:Seat} (hb:qD b s):DGet H d dX ((iK).map V.str):=by
 have g:=Cc iy h hb;cases e:iK with
 | none =>
  show(bO,xfi xd6 zjh,g,g)
 | some x =>
  rw[valM xd6 ((ask s).mp wj),e] at g;exact g
theorem OwD.get {H:Hp}{d:Addr}{names:ai}{own:bN} (h:OwD H d names own) {x:Str} (hx:x∈names):DGet H d kc (some (.int (own x))):=by
 have g:=vF wm h;show(bO,valM inrI hx,g,g)
theorem RnD.get {H:Hp}{d:Addr}{ss:aj}{rent:bG} (h:RnD H d ss rent) {s:Seat} (hs:uh) {b:Addr} (hb:qD b s):DGet H d dX (some (.int (rent s))):=by
 have g:=Cc iy h hb;show(bO,valM xd6 hs,g,g)
inductive xjj (t:Adr) (vs:ag) (H:Hp) (Q:VK) (_:XK):Prop
 | mk (pz la da a dl d_o d_r p d1 d2:Addr) (n:Nat) (names crowd:ai) (ss al:aj) (lens:cD) (so:bq) (ho asked:aD) (own:bN) (rent:bG) (e_:vs=(vG vR la da)) (r_:Pz t H pz a dl d_o d_r p d1 d2 n names ss lens so ho own rent/\(au,Dd,DM,si,EX,DR/\Uu/\zjJ))
theorem xoe {t:Adr}{H:Hp}{Q E}{pz la da a dl d_o d_r p d1 d2:Addr}{n:Nat}{names crowd:ai}{ss al:aj}{lens:cD}{so:bq}{ho asked:aD}{own:bN}{rent:bG} (hh:Pz t H pz a dl d_o d_r p d1 d2 n names ss lens so ho own rent/\Dd/\DM/\si/\EX/\DR /\
 Uu/\zjJ):xjj t (vG vR la da) H Q E:=⟨pz,la,da,a,dl,d_o,d_r,p,d1,d2,n,names,crowd,ss,al,lens,so,ho,asked,own,rent,rfl,hh⟩
theorem ok_t (T:aX):FnOk true P w K mg base aU 1 t.f_t t.d_t znr (xjj t):=by
 refine T.F_t.okn (k:=0) sc_t (aY h) (fun cdv A outer s H vs Q E hr h=>?_)
 .obtain ⟨pz,la,da,a,dl,d_o,d_r,p,d1,d2,n,names,crowd,ss,al,lens,so,ho,asked,own,rent,rfl,_⟩:=h;rfl
 .obtain ⟨pz,la,da,a,dl,d_o,d_r,p,d1,d2,n,names,crowd,ss,al,lens,so,ho,asked,own,rent,rfl,h⟩:=h;refine⟨_,xh (pS 3 sc_t.nd (xb4))
   (xh (xa5 ZA rfl uc (pN 4 sc_t.nd) (xk (xmx (xa5 ZA rfl (xo8 (wg bT jK)) (xaq rfl (gK 5 sc_t.nd 6)) (xh (pS 7 sc_t.nd (xr xek (xr xek lA (wg bT jK)) (wg bT on)))
   (kO (PW.pt (xfh (xdn (xe1 kf on (pv 2))) (xeg (PW.pt (xdz (pj xh6 3 (xb4)) (xc7 (pj xkl 7 (uK 3)))))))) (xk (pS 3 sc_t.nd (xad (eS 7 4 5))))))))))
   (tf 3)),?_⟩
  refine sq3 ?_; intros; obtain⟨z,hla,hda,ask,cin,rin,⟨nda,q⟩⟩:47:=h;ext zL la hla;refine xbh (xs:=O8) (Pv:=(hU,Z,H1,∃(v3:V) (v4 v5 v6 v7:bP),(aR,Z,[vU,zm,qW,some v3,v4,v5,v6,v7],gG H1,FndV H1 v3 (xfr lens own rent asked none Bi)))) ?_ ?_ ?_ ?_
  .exact jw (kg,_,jV,rb rfl)
  .rintro i Z H1 _ (⟨_,_,_,_,⟨_,rfl,s1,_⟩⟩:121);show(wA,jM hla)
  .rintro i x Z H1 hx (⟨v3,v4,v5,v6,⟨v7,rfl,s1,fv⟩⟩:121);ext sQ;ext kh b hb hx;show(ae,bin,cin b (Zm hb),z1,z.same s1);obtain⟨dx,hpz⟩:=z1.ins;obtain⟨kvs,hdl,_,f⟩:63:=(z1.ln)
   show(bF,qd,hv,hqd,nbad,f b bin);show(je,dg,(vF,.inr b,hdl),hv,dg);refine⟨pz,_,dx,_,_,rfl,we hpz T.n_a9 lkZl ⟨dl,.ref qd,rfl,dg,qd,_,rfl,hqd,am ob nf⟩⟩;rw[Zt,not_or] at nbad;have nr:d_r≠qd:=Zx nbad.1;have nd:da≠qd:=Zx (nda b bin qd ⟨kvs,by
    show(dL,k0,e0,z.ln)
    have:=jM e0;ext bB hdl this this;exact e0,hv⟩)
   show(cA,dT_ne,∀{c:Addr}{u:HO},H1 c=some u->(∀ k,u≠.dT k)->c≠qd,fun {c u} e n1=>xd1 e hqd (n1 _),xno (Pv:=fun j Z H3=>∃(v3:V) (v5 v6 v7:bP),(jI,Z,[vU,zm,qW,some v3,LK,v5,v6,v7],(eC,qd,H1 c=some u,H3 c=some u),H3 qd=some VE,FndV H3 v3 (((CK).take j).foldl (look own rent asked b) (xfr lens own rent asked none Bi)))) ?_ ?_ ?_ ?_)
   .refine ⟨124,_,_,_,_,rfl,gR yI,xj,fv.tp (vZ ?_)⟩;show(aB,xg (dT_ne e lG),e)
   .rintro j Z H3 _ (⟨_,_,_,_,rfl,_,e3,_⟩:124);exact e3
   .rintro j k x qk pa Z H3 hk hqk hpa (⟨v3,v5,v6,v7,rfl,k3,e3,fv3⟩:124);unfold LnT at hk;rw[Zf,Zh] at hk;ext af y hy hyk hk;cases hyk;generalize eu:(Ae,H3,pa,.ref qk,y.2)=H4;ext fJ s4 hpa g4;have hqk4:H4 qk=some (.tup (xar y.1)):=lD hqk;have ymem:y∈CK:=Zm hy;show(dG,k4,zhV,(gR,lD (k3 c u nc e)),hpz4,k4 _ _ (dT_ne hpz lG) hpz);have ow4:OwD H4 d_o names own:=k4 _ _ (dT_ne z1.ow lG) z1.ow;have rn4:RnD H4 d_r ss rent:=k4 _ _ nr z1.rn;show(dG,ak4,AkD H4 da al asked,k4 _ _ nd (jM hda),fv4,fv3.tp (Same.tups s4));show(ae,e4,lD e3,dgR,rn4.get (rin b y.1 (Ze.mpr (b5 y ymem))) hqk4);show(bU,eD pa g4,⟨pz,_,dx,_,_,rfl,RM hpz4 ⟨d_o,_,rfl,ow4.get bin,pz,_,dx,_,_,rfl,hpz4,T.c_r,T.n_bc,lkZr,d_r,_,rfl,dgR,?_⟩⟩);have tk:(CK).take hV=(CK).take j++[y]:=by
     rw[ZS,hy];rfl
    rw[tk,Q9];generalize ((CK).take j).foldl (look own rent asked b) (xfr lens own rent asked none Bi)=f0 at fv4;show _;refine⟨da,_,rfl,ak4.get ask hqk4,_,rfl,lK c1 c1⟩
    .have an:asked y.1=none:=by
      cases ea:zem with
      | none=>rfl
      | some w=>ext cE ea c1
     have stay:xes f0 Dk=false->∃(v3':V) (v5 v6 v7:bP),(jI,[vU,zm,qW,some v3,LK,aT qk,bv y.2,bv Dk],[vU,zm,qW,some v3',LK,v5,v6,v7],zhV,H4 qd=some VE,FndV H4 v3' ([y].foldl (look own rent asked b) f0)):=fun hb=>by
      refine⟨124,v3,_,_,_,rfl,k4,e4,?_⟩;show FndV H4 v3 (look own rent asked b f0 y);unfold look;show(pU,jX hb,fv4)
     have move:xes f0 Dk=true->∀ q5,H4 q5=none->∃(v3':V) (v5 v6 v7:bP),(jI,[vU,zm,qW,aT q5,LK,aT qk,bv y.2,bv Dk],[vU,zm,qW,some v3',LK,v5,v6,v7],(eC,qd,H1 c=some u,rP H4 q5 (.tup zpB)),i0 H4 q5 (.tup zpB) qd VE,FndV zkg v3' ([y].foldl (look own rent asked b) f0)):=fun hb q5 hq5=>by
      show(ay,s5,Same H4 zkg,cO hq5,⟨124,.ref q5,_,_,_,rfl,(gR,dZ (k4 c u nc e)),dZ e4,?_⟩);show FndV _ _ (look own rent asked b f0 y);unfold look;rw[az (fQ hb an)];exact .inr (ii _ _ q5 (lu,qk,rfl,rfl,xj,dZ hqk4))
     rcases fv4 with⟨rfl,rfl⟩|⟨g0,a0,s0,q0,qs0,rfl,rfl,hq0,hqs0⟩
     .refine (lX,ifP rfl (ifP rfl ?_));show(aO,vq,fun q5 hq5=>move rfl q5 hq5)
     .refine (lX,ifN (fW zjG) ?_);refine(dD,q0,0,.int g0,(vk,hq0,CW c2))
      .exact ⟨vq,fun q5 hq5=>move c2 q5 hq5⟩
      .exact stay (Jh.mpr c2)
    .refine ⟨124,v3,_,_,_,rfl,k4,e4,?_⟩;show FndV H4 v3 (look own rent asked b f0 y);unfold look;have an:(zem).isNone=false:=by
      cases ea:zem with
      | none=>rw[ea] at c1; ext iP c1
      | some w=>rfl
     show(pU,jX an,fv4)
   .rintro Z H3 (⟨v3,v5,v6,v7,rfl,k3,e3,fv3⟩:124);refine⟨103,qd,ob,_,e3,nf,gU v3 _ _ _ (kg,_,wC ?_,?_)⟩
    .have e1:=tI;by_cases c1:c=qd
     .ext ul c1 hqd e1;exact xj
     .show(bI,xg c1,k3 c u c1 e1)
    .have hl:(LnT (lens b)).length=(CK).length:=Za _;rw[hl,Jf] at fv3;rw[ZS,hb];show FndV _ _ (xfr lens own rent asked none (Bi++[b]));unfold xfr;show(qj,Q9,FndV.tp (H:=H3) fv3 (vZ ?_));show(aB,ua e e3,e)
  .rintro Z H1 (⟨v3,v4,v5,v6,⟨v7,rfl,s1,fv⟩⟩:121);rw[Za,Jf] at fv;exact (q H1 v3 s1 fv)
theorem xrt {own:bN}{as:ai}{b:Str}{g:Int} (nb:b∉as):shO own (as++[b]) g=(lB (nh,n,b,shO own as g b+g,shO own as g n)):=by
 funext n;unfold shO;by_cases c:n=b
 .ext zmf
 .ext iA c;by_cases d:n∈as
  .rw [az (ZR _ d),az d]
  .rw [jR ?_,aM d];rcases Z3.mp z with z|z
   .exact d z
   .exact c (Zp.mp z)
noncomputable def shS (rent:bG) (as:aj) (g:Int):bG:=(aC,if z∈as then rent z-g else rent z)
theorem xrr {rent:bG}{as:aj}{b:Seat}{g:Int} (nb:b∉as):(LX (as++[b]))=(lB (nh,n,b,shS rent as g b-g,shS rent as g n)):=by
 funext n;unfold shS;by_cases c:n=b
 .ext zmf
 .ext iA c;by_cases d:n∈as
  .rw [az (ZR _ d),az d]
  .rw [jR ?_,aM d];rcases Z3.mp z with z|z
   .exact d z
   .exact c (Zp.mp z)
theorem xtk {rent:bG}{al:aj}{asked:aD}{g:Int} (ask:si):(LX al)=oJ:=by
 funext z;unfold shS shR;by_cases c:z∈al
 .rw [zH,if_pos ((ask z).mpr c)]
 .rw [wp,(lM,y,c ((ask z).mp y))]
theorem xxm {own:bN}{g:Int}:shO own [] g=own:=by
 funext z;unfold shO;rw[(lM,y,nomatch y)]
theorem xw4 {rent:bG}{g:Int}:(LX [])=rent:=by
 funext z;unfold shS;rw[(lM,y,nomatch y)]
section
variable {t:Adr}{H H':Hp}{pz a dl d_o d_r p d1 d2:Addr}{n:Nat}{names:List Str}{ss:List Seat}{lens:Str->List (Seat × Int)}{so:Str->Option Seat}{ho:Seat->Option Str}{own own':Str->Int}{rent rent':Seat->Int}
theorem Pz.move (z:Pz t H pz a dl d_o d_r p d1 d2 n names ss lens so ho own rent) (k:Ms qz) (ow':OwD H' d_o names own') (rn':RnD H' d_r ss rent'):Pz t H' pz a dl d_o d_r p d1 d2 n names ss lens so ho own' rent':=by
 show(ae,o,z.ow,r,z.rn);unfold OwD at o;unfold RnD at r;have tp:kM:=(vZ,k _ _ (eK o) (eK r) e);ext zaa;obtain⟨dx2,hp⟩:=z.sg.ins;show(af,k1,hk1,f1,z.sg.so)
 show(af,k2,hk2,f2,z.sg.ho)
 show(bF,kl,hkl,ll,fl,z.ln)
 refine⟨(kZ,k _ _ (ne_f hpz o) (ne_f hpz r) hpz),⟨⟨dx2,k _ _ (ne_f hp o) (ne_f hp r) hp⟩,SoD.keep ⟨k1,hk1,f1⟩ tp (mB,k _ _ (Zx z.n2) (ne_f hk1 r) e),(Tq,⟨k2,hk2,f2⟩,k _ _ (ne_f hk2 o) (Zx z.n1) e)⟩,ow',rn',(zaU,k _ _ (Zx z.n3) (ne_f hkl r) hkl),z.n1,z.n2,z.n3,z.n4⟩;show(bF,q,e1,e2,e3,fl nm h);exact(bi,q,e1,k _ _ (ne_f e2 o) (fun y=>e3 (av y gD)) e2,e3)
#check _
noncomputable def xe0 (H:Hp) (dl da:Addr) (names:ai):Prop:=Uu
inductive xms (t:Adr) (vs:ag) (H:Hp) (Q:VK) (_:XK):Prop
 | mk (pz la da a dl d_o d_r p d1 d2:Addr) (n:Nat) (names crowd:ai) (ss al:aj) (lens:cD) (so:bq) (ho asked:aD) (own:bN) (rent:bG) (g:Int) (e_:vs=[vR,.ref la,.ref da,.int g]) (r_:Pz t H pz a dl d_o d_r p d1 d2 n names ss lens so ho own rent/\Dd/\(au,DM,si,EX,crowd.Nodup,al.Nodup/\(au,Rb,HS,uI,TH,∀ H',(Ms qz)->Pz t H' pz a dl d_o d_r p d1 d2 n names ss lens so ho oN oJ->yP)))
theorem xrg {t:Adr}{H:Hp}{Q E}{pz la da a dl d_o d_r p d1 d2:Addr}{n:Nat}{names crowd:ai}{ss al:aj}{lens:cD}{so:bq}{ho asked:aD}{own:bN}{rent:bG}{g:Int} (h:Pz t H pz a dl d_o d_r p d1 d2 n names ss lens so ho own rent/\Dd/\DM/\si/\EX/\crowd.Nodup/\al.Nodup/\Rb/\HS/\uI/\TH /\
 ∀ H',(Ms qz)->Pz t H' pz a dl d_o d_r p d1 d2 n names ss lens so ho oN oJ->yP):xms t [vR,.ref la,.ref da,.int g] H Q E:=⟨pz,la,da,a,dl,d_o,d_r,p,d1,d2,n,names,crowd,ss,al,lens,so,ho,asked,own,rent,g,rfl,h⟩
inductive xsc (t:Adr) (vs:ag) (H:Hp) (Q:VK) (_:XK):Prop
 | mk (pz la da a dl d_o d_r p d1 d2:Addr) (n:Nat) (names crowd:ai) (ss al:aj) (lens:cD) (so:bq) (ho asked:aD) (own:bN) (rent:bG) (g:Int) (b:Str) (s:Seat) (e_:vs=(vG vR la da)) (r_:(au,Pz t H pz a dl d_o d_r p d1 d2 n names ss lens so ho own rent,Dd,DM,si,(au EX crowd.Nodup al.Nodup Rb (au HS uI TH DR (au,zaj,da≠d2,K3 Dh b,F2,(zfN,Pz t H' pz a dl d_o d_r p d1 d2 n names ss lens so ho oN oJ))))))
theorem xo6 {t:Adr}{H:Hp}{Q E}{pz la da a dl d_o d_r p d1 d2:Addr}{n:Nat}{names crowd:ai}{ss al:aj}{lens:cD}{so:bq}{ho asked:aD}{own:bN}{rent:bG}{g:Int}{b:Str}{s:Seat} (hh:Pz t H pz a dl d_o d_r p d1 d2 n names ss lens so ho own rent/\Dd/\DM/\si/\EX/\crowd.Nodup/\al.Nodup/\Rb/\HS/\uI/\TH/\DR/\zaj/\da≠d2/\(K3 Dh b)/\F2 /\
 (zfN,Pz t H' pz a dl d_o d_r p d1 d2 n names ss lens so ho oN oJ)):xsc t (vG vR la da) H Q E:=⟨pz,la,da,a,dl,d_o,d_r,p,d1,d2,n,names,crowd,ss,al,lens,so,ho,asked,own,rent,g,b,s,rfl,hh⟩
theorem AkD.add {H:Hp}{d:Addr}{al:aj}{asked:aD} (h:zaD) {s:Seat}{b:Str} (ns:F2):upd H d (.dT (putK (Oz,V.str ((iK).getD (Z8 ""))) iy (.str b))) d=some (.dT ((nG).map (aC (xt z,V.str ((Iu b z).getD (Z8 "")))))):=by
 rw[xj,xb2 _ (xfi xd6 ns),Zq]
 congr 2
 have e1:(al.map fun s=>(iy,V.str ((iK).getD (Z8 ""))))=al.map fun z=>(xt z,V.str ((Iu b z).getD (Z8 ""))):=JD fun z hz=>by
  unfold Kp.upd1;rw[aM (fun y:z=s=>ns (dE y hz))]
 rw[e1]
 congr 1
 show [(iy,V.str b)]=[(iy,V.str ((Kp.upd1 asked s b s).getD (Z8 "")))]
 unfold Kp.upd1;rw[cp];rfl
theorem ok_g (T:aX):FnOk true P w K mg base aU 1 t.f_g t.d_g U2 (xms t):=by
 refine T.F_g.okn (k:=0) sc_g (aY h) (fun cdv A outer s H vs Q E hr h=>?_)
 .obtain ⟨pz,la,da,a,dl,d_o,d_r,p,d1,d2,n,names,crowd,ss,al,lens,so,ho,asked,own,rent,g,rfl,_⟩:=h;rfl
 .obtain ⟨pz,la,da,a,dl,d_o,d_r,p,d1,d2,n,names,crowd,ss,al,lens,so,ho,asked,own,rent,g,rfl,h⟩:=h;refine⟨_,xh (iS uc 4 sc_g.nd (xk (xni kf bT jK iu xur (by ext Ab))))
   (xk (xmx (iS (xq4 (pv 2)) 5 sc_g.nd (xk (xni kf bT on iu xvg (by ext Ab)))))),?_⟩
  refine sq2 ?_; intros; refine fq ?_; intros; obtain⟨z,hla,hda,ask,cin,cnd,⟨and_,ain,s32,n12,ndr,q⟩⟩:47:=h;show(ae,ow0,z.ow,rn0,z.rn);show(ay,BIG,(zco,n<=1000),(d9,JQ h ap),oX la hla ?_);ext lg nla la d_o hla ow0;ext lg nda da d_o hda ow0;ext zaa;ext lg npo pz d_o hpz ow0;ext lg npr pz d_r hpz rn0;ext lg nro d_r d_o rn0 ow0
  let Pv (i:Nat) (Z:L2.St) (H1:Hp):Prop:=∃(v4 v5:bP),(aR,Z,znH,(eC,d_o,nA,H1 c=some u),OwD H1 d_o names (shO own Bi g))
  show(wX,O8,?_)
  .exact (XR,nD List.take_zero xxm ow0)
  .show(VH,H1,k1,k1 _ _ nla hla)
  .rintro i x Z H1 hx (⟨v4,v5,rfl,k1,ow1⟩:83);ext sQ;ext kh b hb hx;have bin:=cin b (Zm hb);have nb:b∉Bi:=fun zz=>by
    show(i5,hi,Zi.mp hb);have:=xc6 id (ps:=crowd) (av YB cnd) hi b zz;exact this e.symm
   refine⟨pz,_,dx,_,_,rfl,(RM,k1 _ _ npo hpz,(dA,d_o,_,ow1.get bin,⟨_,_,rfl,rfl,_,(y0,.inr b,ow1,xA),?_⟩))⟩;refine(kW,_,gR (cS,nc,k1 c u nc e));rw[ZS,hb];show OwD _ d_o names (shO own (Bi++[b]) g);rw[xrt nb];unfold OwD;rw[xj,putM inrI bin]
   congr 3
   funext nn
   dsimp only
   by_cases c:nn=b
   .rw [zH,zH]
   .rw [wp,wp]
  .rintro Z H1 (⟨v4,v5,rfl,k1,ow1⟩:83);rw[Za,Jf] at ow1;have hda1:H1 da=some (DG (iy,V.str ((iK).getD (Z8 "")))):=k1 _ _ nda hda;show(ay,rn1,RnD H1 d_r ss rent,k1 _ _ nro rn0,(dA,da,_,hda1,am ob nf));ext lg npa pz da hpz hda;have noa:d_o≠da:=Zx nda
   let Pv (j:Nat) (Z:L2.St) (H2:Hp):Prop:=∃(v5:bP),(au,Z=znH,(UX,H2 c=some u),H2 da=some (.frz ob (DG (iy,V.str ((iK).getD (Z8 ""))))),OwD H2 d_o names oN,RnD H2 d_r ss (LX (al.take j)))
   refine xp8 (Pv:=Pv) ?_ ?_ ?_ ?_
   .refine ⟨65,_,rfl,fun c u n1 n2 n3 e=>(cS,n3,k1 c u n1 e),xj,?_,?_⟩
    .show upd H1 da _ d_o=_;ext ir noa ow1
    .rw [List.take_zero,xw4];show upd H1 da _ d_r=_;ext rC ndr rn1
   .rintro j Z H2 _ (⟨_,rfl,_,e2,_⟩:64);exact e2
   .rintro j k x qk Z H2 hk hqk (⟨v5,rfl,k2,e2,ow2,rn2⟩:65);rw[Zf,Zh] at hk;ext af s hs hsk hk;cases hsk;show(dG,hqk,H2 qk=some (.tup (xar s)),hqk,sin,ain s (Zm hs));have nb:s∉al.take j:=fun zz=>by
     show(i5,hi,Zi.mp hs);have:=xc6 id (ps:=al) (av YB and_) hi s zz;exact this e.symm
    refine⟨pz,_,dx,_,_,rfl,(we,k2 _ _ npo npr npa hpz,T.n_bc,lkZr,(dA,d_r,_,rn2.get sin hqk,⟨_,_,rfl,rfl,_,DPut.t (k:=iy) rn2 hqk xA,?_⟩))⟩;refine⟨65,_,rfl,fun c u n1 n2 n3 e=>(cS,n2,k2 c u n1 n2 n3 e),cS ndr e2,?_,?_⟩
    .show upd H2 d_r _ d_o=_;ext rC nro ow2
    .rw [ZS,hs];show RnD _ d_r ss (LX (al.take j++[s]));rw[xrr nb];unfold RnD;rw[xj,putM xd6 sin]
     congr 3
     funext nn
     dsimp only
     by_cases c:nn=s
     .rw [zH,zH]
     .rw [wp,wp]
   .rintro Z H2 (⟨v5,rfl,k2,e2,ow2,rn2⟩:65);rw[Za,Jf,xtk ask] at rn2;refine⟨103,da,ob,_,e2,nf,?_⟩;have fr:Ms (rP H2 da (DG (iy,V.str ((iK).getD (Z8 ""))))):=fun c u n1 n2 e=>by
     by_cases c1:c=da
     .ext ul c1 hda e;exact xj
     .show(bI,xg c1,k2 c u n1 n2 c1 e)
    refine q _ fr (z.move fr ?_ ?_)
    .show upd H2 da _ d_o=_;ext ir noa ow2
    .show upd H2 da _ d_r=_;ext rC ndr rn2
theorem ok_u (T:aX):FnOk true P w K mg base aU 2 t.f_u t.d_u znr (xsc t):=by
 refine T.F_u.okn (k:=1) sc_u (aY h) (fun cdv A outer s H vs Q E hr h=>?_)
 .obtain ⟨pz,la,da,a,dl,d_o,d_r,p,d1,d2,n,names,crowd,ss,al,lens,so,ho,asked,own,rent,g,b,s0,rfl,_⟩:=h;rfl
 .obtain ⟨pz,la,da,a,dl,d_o,d_r,p,d1,d2,n,names,crowd,ss,al,lens,so,ho,asked,own,rent,g,b,s0,rfl,h⟩:=h;refine⟨_,xh (OB (xae bD T.c_r T.m_t (ok_t T) aZ T.b_t .nil xp B4) 3 sc_u.nd (gK 4 sc_u.nd 5))
   (xh (xay (xae bD T.c_r T.m_g (ok_g T) aZ T.b_g .nil xp (eS 1 2 3)))
   (xh (qY iw on jK)
   (tf 5))),?_⟩
  refine sq4 ?_; intros; obtain⟨z,hla,hda,ask,cin,cnd,⟨and_,ain,s32,n12,ndr,rin,nln,nd2,nr,nal,q⟩⟩:47:=h;show(vb,dx,hpz,z.ins,⟨pz,dx,_,rfl,hpz,xf8 aP,?_⟩);ext Lh;refine xoe ⟨47,z,hla,hda,ask,cin,rin,⟨nln,cI H1 v s1 fv⟩⟩;rw[nr] at fv;rcases fv with⟨e,_⟩|⟨g',b',s',q1,qs,e,rfl,hq1,hqs⟩
  .cases e
  cases e;show(bU,eD q1 hq1,⟨pz,dx,_,rfl,jM hpz,xf8 aP,?_⟩);ext Lh;refine xrg ⟨47,z.same s1,jM hla,jM hda,ask,cin,cnd,⟨46,and_,ain,s32,n12,ndr,aI H2 k2 z2⟩⟩;show(ae,ow1,jM z.ow,rn1,jM z.rn);have hda1:H1 da=some (DG (iy,V.str ((iK).getD (Z8 "")))):=jM hda;show(dG,hda2,AkD H2 da al asked,k2 _ _ (ne_f hda1 ow1) ndr hda1,hqs2,k2 _ _ (ne_f hqs ow1) (ne_f hqs rn1) hqs);show(ay,al32,al.length<=32,ZZ (xky and_ ain) s32,(kW,da,DPut.t (k:=xt s0) hda2 hqs2 lF));have hda2':H2 da=some (DG (iy,V.str ((iK).getD (Z8 "")))):=hda2;have fr:UX (rP H2 da (.dT (putK (Oz,V.str ((iK).getD (Z8 ""))) (xt s0) (.str b)))):=fun c u n1 n2 n3 e=>by
   show(ir,n3,k2 c u n1 n2 tI)
  refine q _ qs fr (av,ua hqs2 hda2',hqs2) ?_ (hda2.add nal)
  -- the dict of those who asked is none of the prices'
  have fr2:(eC,da,H2 c=some u,(rP H2 da (.dT (putK (Oz,V.str ((iK).getD (Z8 ""))) (xt s0) (.str b))))):=fun c u n3 e=>by
   ext ir n3 e
  obtain⟨dx2,hpz2⟩:=z2.ins;obtain⟨dx3,hp2⟩:=z2.sg.ins;show(af,m1,hm1,f1,z2.sg.so)
  show(af,m2,hm2,f2,z2.sg.ho)
  show(bF,ml,hml,ll,fl,z2.ln)
  show(ae,ow2,z2.ow,rn2,z2.rn);show(ay,tp,Tups H2 (j8 H2 da (putK (Oz,V.str ((iK).getD (Z8 ""))) (xt s0) (.str b))),(vZ,fr2 _ _ (eK hda2') e),⟨⟨dx2,OV hpz2⟩,⟨⟨dx3,OV hp2⟩,SoD.keep ⟨m1,hm1,f1⟩ tp (mB,fr2 _ _ (ne_f hm1 hda2') e),(Tq,⟨m2,hm2,f2⟩,fr2 _ _ (Zx nd2) e)⟩,OV ow2,fr2 _ _ (Zx ndr) rn2,(bi,ml,OV hml,ll,am nm h),z2.n1,z2.n2,z2.n3,z2.n4⟩);show(bF,qq,e1,e2,e3,fl nm h);refine(bi,qq,e1,fr2 _ _ ?_ e2,e3);show(dL,k0,hk0,z.ln)
  have hk2:=k2 _ _ (Zx z.n3) (ne_f hk0 z.rn) (jM hk0);ext bB hml hk2 hk2;exact nln nm h qq ⟨ml,hk0,e1⟩
noncomputable def x8 (w:Nat) (ps:aw) (srt:aj) (nm:Str):uQ:=match Vn with
 | some p=>(DH).map fun s=>(s,Av)
 | none=>[]
theorem xer {w:Nat}{ps:aw}{srt:aj}:xal jt=sX:=by
 funext nm;unfold xal x8 xaz;cases Vn with
 | none=>rfl
 | some p =>
  show List.map _ (List.map _ _)=_;rw[Zw];exact YB _
theorem xmy {w h:Nat}{ps:aw}{ss srt:aj} (w30:rH) (h16:rJ) (pok:gc) (sok:sU) (pm:Iy):xda jt srt:=by
 show(ay,nd,srt.Nodup,pm.nodup_iff.mpr sok.1,⟨bZ n,RW,aI n s hs,nd⟩)
 .rw [xer];unfold xaz;split
  .exact JU.filter _ nd
  .exact J5
 .unfold x8 at hx;split at hx
  .rename_i p hf
   ext fL s hs hx;show(ae,pin,pok.ok p (Zy hf),sin,(rK).2 s (pm.mem_iff.mp (ZC.mp hs).1));have:=pin.x1;have:=pin.x2;have:=pin.y1;have:=pin.y2;have:=sin.1;have:=sin.2;show pZ Av 46;unfold lenI;ext AN
  .exact nomatch hx
 .rw [xer] at hs;unfold xaz at hs;split at hs
  .exact (ZC.mp hs).1
  .exact nomatch hs
theorem xiz {d:Addr}:∀(L:zD IK) {H:Hp}{kvs:dC},(oS d)->zpC->(L.map (·.2.1)).Nodup->(∀ x∈L,valV kvs (xt cF)=none)->zlM ->
    ∃ H2,xd7 d H znf H2/\H2 d=some (.dT (kvs++LnT (L.map (·.2))))/\MU
  | [],H,kvs,e,_,_,_,_=>(bi,H,.nil,by rw[e]; simp[LnT],Pj)
  | x::L,H,kvs,e,f,nd,nv,hn=>by
    rw[ZL] at hn;ext vg;have hx:=f x gD;have up:(mT,d,iH,upd H d (.dT WY) b=some u):=fun b u nb eb=>by
      ext ir nb eb
    have put:DPut H d (.ref aN) (.int mq) (j8 H d WY):=by
      have z:=DPut.t (k:=xt cF) (v:=.int mq) e hx (xbo aa);show(bO,xb2 _ (nv x gD),z,z)
    obtain⟨H2,dps,e2,k2⟩:63:=xiz L (H:=j8 H d WY) xj (tZ,up _ _ (ne_f (f y tU) e) (f y tU)) gF (fun y hy=>by
      have nk:¬ xt (aW y)=xt cF:=(aC,nd.1 (Oe,xd6 _ _ z,b5 y hy));have z:=xcn kvs (xt cF) (xt (aW y)) (.int mq);rw[xb2 _ (nv x gD),aM nk,nv y tU] at z;exact z) Ob
    refine(bi,H2,dJ put dps,?_,fun b u nb eb=>k2 _ _ nb (up _ _ nb eb));rw[e2,QA];rfl
theorem xhv {H:Hp}:∀{tgt:uQ}{ys:ag},(wa tgt.length)->(Du (Ux tgt)) ->
    ∃(ps:Em) (L:zD IK),ys=(RR,.ref aK)/\V1/\ps.map (·.2)=znf/\L.map (·.2)=tgt/\zpC
  | [],[],_,_=>⟨85,[],[],rfl,N5,rfl,rfl,N5⟩
  | [],df,h,_=>ff
  | df,[],h,_=>ff
  | x::tgt,jH,h,f=>by
    obtain⟨q,qs,s,l,rfl,h1,h2,h3⟩:124:=f 0 y rfl;obtain⟨ps,L,e1,e2,e3,e4,e5⟩:85:=xhv (tgt:=tgt) (ys:=ys) xT (fun i y hy=>by
      obtain⟨q,qs,s,l,a1,a2,a3,a4⟩:124:=zms;exact⟨124,q,qs,s,l,a1,a2,a3,by simpa using a4⟩)
    have h3:x=(s,l):=by simpa using h3
    refine⟨85,(q,.ref qs,.int l)::ps,(qs,s,l)::L,fh e1,iZ,by rw[Zo,Zo,e3],by rw[Zo,e4,h3],vo⟩
    . rcases Lv with rfl|hp
      . exact h1
      . exact e2 p hp
    . rcases dU hz with rfl|hz
      . exact h2
      . exact e5 z hz
inductive xrv (t:Adr) (vs:ag) (H:Hp) (Q:VK) (_:XK):Prop
 | mk (pz dx a dp do_:Addr) (w h:Nat) (ps:aw) (st srt:aj) (lens:cD) (e_:vs=[vR,aA]) (r_:(ax pz (y9 []))/\Dr t H a dp do_ w h ps st srt/\∀ H' dl d_o d_r p d1 d2,bg (bz dl) (bz d_o) (bz d_r) jc (lT,bz d1,bz d2,Aw pz,Pz t H' pz a dl d_o d_r p d1 d2 0 [] srt lens fb fb T6 T6,.non))
theorem ok_al (T:aX):FnOk true P w K mg base aU 4 t.f_al t.d_al G6 (xrv t):=by
 refine T.F_al.okn (k:=3) sc_al (aY h) (fun cdv A outer s H vs Q E hr h=>?_)
 .obtain ⟨pz,dx,a,dp,do_,w',h',ps,st,srt,lens,rfl,_⟩:=h;rfl
 .obtain ⟨pz,dx,a,dp,do_,w',h',ps,st,srt,lens,rfl,h⟩:=h;refine⟨_,xh (LZ eJ)
   (xh TJ
   (xh TJ
   (xh (LZ (Gu (xa7 rfl (xas (zs:=["seat"]) (ys:=[]) (fr:=[]) (N0:=G6) (sc0:=xl s_al) aP rfl rfl rfl) (xab (xbi eJ T.c_a T.m_q (ok_q T) aZ T.b_q .nil xp)) jn jb eB (mR vp))))
   (RK (xl0 T.k_ac (ok_ah T) aZ rfl T.g_ac T.b_ah .nil xp))))),?_⟩
  refine sq5 ?_; intros; ext fO hpz dr q h;refine⟨126,pz,_,dx,_,rfl,hpz,T.c_r,T.n_ba,(oI 0),?_⟩;show(tO,k1,pz,iH,upd H pz NK b=some u,Kw)
  show(uu,hz1,upd H pz NK pz,(y9 [("picture",aA)]),xj);have f1:(gZ,upd H pz NK b=none,dz):=fun b e=>by
   ext E8
   .ext vd c xj
   .ext Ue; exact e
  revert k1 hz1 f1;show bb _ _ _ _;generalize d4 pz NK=H1;intro k1 hz1 f1;refine am dl hdl;show(ay,s2,Same H1 El,cO hdl,⟨126,pz,_,dx,_,rfl,jp hz1,T.c_r,T.n_a9,(oI 1),?_⟩);have npl:pz≠dl:=xb hz1 hdl;show(tO,k3,pz,H1 b=some u,pX El pz Gv,cS nb Fv)
  have hz3:i0 El pz Gv pz (y9 [Ef,DE]):=xj;have gl3:i0 El pz Gv dl CG:=(av,kn npl,xj)
  have f3:(gZ,upd El pz Gv b=none,H1 b=none):=fun b e=>by
   ext E8
   .ext vd c xj
   .ext Ue; exact s2.free e
  revert k3 hz3 gl3 f3;show bg _ _ _ _ _;generalize upd El pz Gv=H3;intro k3 hz3 gl3 f3;refine am d_o hdo;show(ay,s4,Same H3 Ea,cO hdo,⟨126,pz,_,dx,_,rfl,lD hz3,T.c_r,T.n_bb,(oI 2),?_⟩);have npo:pz≠d_o:=xb hz3 hdo;have nol:d_o≠dl:=jJ gl3 hdo;show(tO,k5,pz,H3 b=some u,pX Ea pz GE,(cS,nb,s4 _ _ e))
  have hz5:i0 Ea pz GE pz (y9 [Ef,DE,OQ]):=xj;have go5:i0 Ea pz GE d_o CG:=(av,kn npo,xj)
  have f5:(gZ,upd Ea pz GE b=none,H3 b=none):=fun b e=>by
   ext E8
   .ext vd c xj
   .ext Ue; exact s4.free e
  revert k5 hz5 go5 f5;show bg _ _ _ _ _;generalize upd Ea pz GE=H5;intro k5 hz5 go5 f5;have gl5:=k5 _ _ (Zx npl) gl3;have k05:(mT,pz,iH,H5 b=some u):=(vA,k5 _ _ nb (k3 _ _ nb (k1 _ _ nb e)));obtain⟨⟨dxa,hpic⟩,⟨kp,hkp,plp⟩,w1,w2,h1,h2,le⟩:=id dr.pic;show(af,ko,hko,kr,id dr.sts);have nap:a≠pz:=fun z=>by
   rw[z,hpz] at hpic;have z2:=bS (HO.ins.inj (ZE.inj hpic));exact nomatch z2
  have kt:Tups H H5:=(fS,k05 _ _ (eK hpz) e);have pic5:Pic t H5 a dp do_ b6 j5 ps:=⟨⟨dxa,k05 _ _ nap hpic⟩,⟨kp,k05 _ _ (ne_f hkp hpz) hkp,plp.keep kt⟩,w1,w2,h1,h2,le⟩
  show(ay,sts5,Sts H5 do_ st,⟨ko,k05 _ _ (ne_f hko hpz) hko,kr⟩,⟨a,dxa,_,rfl,k05 _ _ nap hpic,bL,a,dp,do_,w',h',ps,st,rfl,pic5,sts5,fun l6 ss6 us hl6 sl6 pm lt=>?_⟩);show(cQ,ss6=srt,xbz xck (pm.trans dr.pm.symm) lt dr.lt);show(GR,upd H5 l6 (.lst (us.map V.ref)),hl6);show(ae,sl6',sl6.keep (Same.tups s6),usl,sl6.len);have s32:ss6.length<=32:=MD
  show(tY,snd,ss6.Nodup,dr.pm.nodup_iff.mpr dr.ok.1,um l6 g6 l7 hl7,xba (aV g6) lF hl7 (wB,Ux znP) (fun _ _ _ _ tp ⟨q,qs,s,l,z1,z2,z3,z4⟩=>⟨124,q,qs,s,l,z1,lC z2,lC z3,z4⟩) (fun i x H7 hx s7 N hN=>?_) (fun ys H7 s7 e7 ly fy=>?_))
  .ext qS;show(af,s,hs,hsq,sl6'.get hqa);ext kB q5 hq5;show(ki,s8,Same H7 (Ae H7 q5 LN 0),cO hq5,lE s8 ⟨124,q5,qa,s,0,rfl,xj,zeE hsq,fQ Zf hs⟩)
  ext wy usl;obtain⟨prs,L,rfl,hprs,ep,eL,hL⟩:85:=xhv (tgt:=znP) (cK ly Za) fy;refine⟨l7,prs,rfl,e7,hprs,am d_r hdr⟩;have L1:(L.map (·.2.1))=ss6:=by
   have:L.map (·.2.1)=(L.map (·.2)).map (·.1):=fh Zw
   rw[this,eL,Zw];exact YB _
  have ll:L.length=ss6.length:=by
   show(HD,vz L1,Za)
  have s8:Same H7 (j8 H7 d_r []):=cO hdr;show(bF,H8,dps,e8,k8,xiz (d:=d_r) L (H:=j8 H7 d_r []) (kvs:=[]) xj (pE,s8 _ _ (hL x hx)) (av L1 snd) iD jQ);ext Xi H8 ep;rw[eL] at e8;have rn8:H8 d_r=some (.dT (ss6.map fun s=>(iy,V.int 0))):=by
   rw[e8];unfold LnT;rw[Zw];rfl
  show(mM,s78,Same H7 H8,k8 _ _ (xb e hdr) (s8 _ _ e));have s58:Same H5 H8:=(EL).trans s78;show(ay,fdr5,H5 d_r=none,(EL).free hdr,⟨126,pz,_,dx,_,rfl,s58 _ _ hz5,T.c_r,T.n_bc,(oI 3),?_⟩);show(tO,k9,pz,H8 b=some u,pX H8 pz Mv,Kw)
  have hz9:i0 H8 pz Mv pz (y9 zlC):=xj;have f9:(gZ,upd H8 pz Mv b=none,H8 b=none):=fun b e=>by
   ext E8
   .ext vd c xj
   .ext Ue; exact e
  revert k9 hz9 f9;show bb _ _ _ _;generalize upd H8 pz Mv=H9;intro k9 hz9 f9;have npr:pz≠d_r:=xb hz5 fdr5;have gl9:=k9 _ _ (Zx npl) (s58 _ _ gl5);show(ae,go9,k9 _ _ (Zx npo) (s58 _ _ go5),gr9,k9 _ _ (Zx npr) rn8);refine bJ p dx2 hp hdx ne;show(rV,p,dx2,xj,fun H10 d1 d2 hd1 hd2 k10 sg10=>Co);have up:(gZ,upd (upd H9 dx2 (.own p)) p (.ins t.C_ac dx2 []) b=none,H9 b=none):=fun b z=>by
   cases e:H9 b with
   | none=>rfl
   | some u=>ext Rh FP
  show(mM,s910,Same H9 H10,k10 _ _ (xb e hp) (nD FP FA e));show(Ag,h91,up _ hd1,h92,up _ hd2,⟨126,pz,_,dx,_,rfl,s910 _ _ hz9,T.c_r,T.n_a7,(oI 4),?_⟩);show(tO,kF,pz,H10 b=some u,pX H10 pz zpA,Kw)
  have fr:(gZ,H9 b=none,dz):=fun b e=>by
   cases z:H b with
   | none=>rfl
   | some u =>
    ext E8
    .ext vd c hz9
    .rw [k9 _ _ c (s58 _ _ (k05 _ _ c z))] at e; cases e
  have fr5:(gZ,H5 b=none,dz):=fun b e=>by
   cases z:H b with
   | none=>rfl
   | some u =>
    ext E8
    .ext vd c hz5
    .rw [k05 _ _ c z] at e; cases e
  obtain⟨dx3,hp10⟩:=sg10.ins;show(af,m1,hm1,g1,sg10.so)
  show(af,m2,hm2,g2,sg10.ho)
  have gz10:=s910 _ _ hz9;have tpF:Tups H10 (upd H10 pz zpA):=(fS,kF _ _ (eK gz10) e);have npp:p≠pz:=jJ hz9 hp;refine q _ dl d_o d_r p d1 d2 (f1 _ hdl) (f1 _ (f3 _ hdo)) (fr5 _ fdr5) (fr _ hp) (fr _ h91) (fr _ h92) (vA,kF _ _ nb (s910 _ _ (k9 _ _ nb (s58 _ _ (k05 _ _ nb e))))) ?_;exact⟨kZ xj,⟨⟨dx3,kF _ _ npp hp10⟩,SoD.keep ⟨m1,hm1,g1⟩ tpF (mB,kF _ _ (ne_f hm1 gz10) e),(Tq,⟨m2,hm2,g2⟩,kF _ _ (ne_f hm2 gz10) e)⟩,zaF npo go9,zaF npr gr9,(bi,[],zaF npl gl9,bp,N5),(aC,tG h92 gr9),(aC,tG h91 go9),nol,(aC,tG h91 gl9)⟩
section
variable {t:Adr}{H H':Hp}{pz a dl d_o d_r p d1 d2:Addr}{n:Nat}{names:List Str}{ss:List Seat}{lens:Str->List (Seat × Int)}{so so':Str->Option Seat}{ho ho':Seat->Option Str}{own own':Str->Int}{rent rent':Seat->Int}
theorem Pz.keep1 (z:Pz t H pz a dl d_o d_r p d1 d2 n names ss lens so ho own rent) {x:Addr} (k:eC x nA qz) (tp:kM) (e0:pz≠x) (e1:p≠x) (e2:d1≠x) (e3:d2≠x) (e4:d_o≠x) (e5:d_r≠x) (e6:dl≠x) (e7:xe0 H dl x names):Pz t H' pz a dl d_o d_r p d1 d2 n names ss lens so ho own rent:=by
 show(zgk,⟨let ⟨dx,e⟩:=z.ins; (kZ,k _ _ e0 e),z.sg.keep e1 e2 e3 tp k,k _ _ e4 z.ow,k _ _ e5 z.rn,(zaU,k _ _ e6 hkl),z.n1,z.n2,z.n3,z.n4⟩,k _ _ (e7 nm h q ⟨kl,hkl,q1⟩) q2)
theorem Pz.keepL (z:Pz t H pz a dl d_o d_r p d1 d2 n names ss lens so ho own rent) {x:Addr}{xs:ag} (hx:oR x) (k:eC x nA qz):Pz t H' pz a dl d_o d_r p d1 d2 n names ss lens so ho own rent:=by
 obtain⟨dx,hz⟩:=z.ins;obtain⟨dx2,hp⟩:=z.sg.ins;ext zjv
 show(bF,kl,hkl,ll,fl,id z.ln);exact z.keep1 k (vZ,k _ _ (eK hx) e) (ne_f hz hx) (ne_f hp hx) (ne_f hk1 hx) (ne_f hk2 hx) (ne_f z.ow hx) (ne_f z.rn hx) (ne_f hkl hx) (fun nm h q ⟨kv,e1,e2⟩=>by
  show(yG,q',q1,q2,fl nm h);ext bB hkl e1 e1;ext bB q1 e2 e2;exact ne_f q2 hx)
theorem xe0.keep {da:Addr} (z:Pz t H pz a dl d_o d_r p d1 d2 n names ss lens so ho own rent) (h:zaj) (k:M9 dl):xe0 H' dl da names:=fun nm hn q ⟨kv,e1,e2⟩=>by
 show(dL,kl,hkl,z.ln)
 have:=k _ hkl;ext bB e1 this this;exact h nm hn q ⟨kv,hkl,e2⟩
theorem AkD.hod {d:Addr}{al:aj}{asked:aD} (h:zaD) (ask:si):HoD H d al.length asked:=by
 refine(bi,_,h,by rw[Za]; exact Zl _,bZ s);cases e:iK with
 | none=>exact xfi xd6 zjh
 | some x =>
  rw[valM xd6 ((ask s).mp wj),e];rfl
theorem Pz.hand (z:Pz t H pz a dl d_o d_r p d1 d2 n names ss lens so ho own rent) (k:PU) {m:Nat} (sg:Sg t H' p d1 d2 m so' ho'):Pz t H' pz a dl d_o d_r p d1 d2 m names ss lens so' ho' own rent:=by
 obtain⟨dx,hz⟩:=z.ins;ext zjv
 show(zgk,⟨(kZ,k _ _ (ne_f hz hk1) (ne_f hz hk2) hz),sg,k _ _ z.n2 (ne_f z.ow hk2) z.ow,k _ _ (ne_f z.rn hk1) z.n1 z.rn,(zaU,k _ _ z.n4 (ne_f hkl hk2) hkl),z.n1,z.n2,z.n3,z.n4⟩,k _ _ (ne_f q2 hk1) (fun y=>q3 (av,y,Zj _ gD)) q2)
#check _
noncomputable def F5 (H H':Hp) (dl d_o d_r d1 d2:Addr):Prop:=∀ c u,(bg,c≠dl,c≠d_o,c≠d_r,c≠d1,c≠d2->nA->qz)
inductive xne (t:Adr) (vs:ag) (H:Hp) (Q:VK) (_:XK):Prop
 | mk (pz a dl d_o d_r p d1 d2 dp do_:Addr) (n w h:Nat) (ns:ai) (ps:aw) (st srt:aj) (so:bq) (ho:aD) (own:bN) (rent:bG) (nm:Str) (e_:vs=[vR,vT]) (r_:Pz t H pz a dl d_o d_r p d1 d2 n ns srt jt so ho own rent/\(au,Dr t H a dp do_ w h ps st srt,gc,n<=500,ns.length<12,(au,zoC,nm∉ns,Fit jt ns so ho own rent,zfT,(zfn,F5 H H' dl d_o d_r d1 d2,Pz t H' pz a dl d_o d_r p d1 d2 (n+30) lR srt jt so' ho' own' rent',Fit jt lR so' ho' own' rent'))))
theorem xrc {t:Adr}{H:Hp}{Q E}{pz a dl d_o d_r p d1 d2 dp do_:Addr}{n w h:Nat}{ns:ai}{ps:aw}{st srt:aj}{so:bq}{ho:aD}{own:bN}{rent:bG}{nm:Str} (hh:Pz t H pz a dl d_o d_r p d1 d2 n ns srt jt so ho own rent/\Dr t H a dp do_ w h ps st srt/\gc/\n<=500/\ns.length<12/\zoC/\nm∉ns/\Fit jt ns so ho own rent/\zfT /\
 (zfn,F5 H H' dl d_o d_r d1 d2,Pz t H' pz a dl d_o d_r p d1 d2 (n+30) lR srt jt so' ho' own' rent',Fit jt lR so' ho' own' rent')):xne t [vR,vT] H Q E:=⟨pz,a,dl,d_o,d_r,p,d1,d2,dp,do_,n,w,h,ns,ps,st,srt,so,ho,own,rent,nm,rfl,hh⟩
theorem ok_w (T:aX):FnOk true P w K mg base aU 7 t.f_w t.d_w jP (xne t):=by
 refine T.F_w.okn (k:=6) sc_w (aY h) (fun cdv A outer s H vs Q E hr h=>?_)
 .obtain ⟨pz,a,dl,d_o,d_r,p,d1,d2,dp,do_,n,w',h',ns,ps,st,srt,so,ho,own,rent,nm,rfl,_⟩:=h;rfl
 .obtain ⟨pz,a,dl,d_o,d_r,p,d1,d2,dp,do_,n,w',h',ns,ps,st,srt,so,ho,own,rent,nm,rfl,h⟩:=h;refine⟨_,xh (qY bT eJ (Gu (xa7 rfl (xas (zs:=["side", "row"]) (ys:=["name", "self"]) (fr:=[1,0]) (N0:=zhp) (sc0:=xl s_w) aP rfl rfl rfl) (xab (xae bT T.c_a T.m_h (ok_h T) aZ T.b_h .nil xp iM)) Ma (xb7 G8) eB (mR (xa (xad B5) (xa (xae (zay,qR 3) T.c_a T.m_n (ok_n T) aZ T.b_n .nil xp (eS 2 0 1)) (xi)))))))
   (xh (qY bT eJ (xm))
   (xh (wN 2 sc_w.nd iM)
   (xh (pS 3 sc_w.nd (xej))
   (xh (pS 4 sc_w.nd (xae bD T.c_r T.m_u (ok_u T) aZ T.b_u .nil xp BY))
   (xh (xfz ZA (xdn (xf5 kf jK (xz bT rfl))) (xh (xay (xd8 Jr Jp Jo xb0 iw (xa (wg (xz bT rfl) jK) (xi))))
   (xk (pS 4 sc_w.nd (xae bD T.c_r T.m_u (ok_u T) aZ T.b_u .nil xp BY)))))
   (uo (xae bT T.c_ac T.m_o (ok_o T) aZ T.b_o .nil xp (fT 3 4)))))))),?_⟩
  refine sq7 ?_; intros; obtain⟨z,dr,pok,n500,n12,⟨pt,ptin,pte⟩,nnm,fit,⟨so2,ho2,mt2,all2⟩,q⟩:=h;subst pte;have BIG:(zco,n<=1000):=(d9,JQ h ap);have w30:w'<=30:=d7 dr.pic.w2
  show(dG,h16,h'<=16,d7 dr.pic.h2,lo,zlD);have s32:srt.length<=32:=MD
  ext zaa;show(HN,dxa,hpic,dr.pic);show(ae,hf,xfg pok.nn ptin,pnm,(pok.ok pt ptin).nm);have elen:x8 w' ps srt pt.nm=(XF).map fun s=>(s,zml):=by
   unfold x8;rw[hf]
  refine⟨pz,_,dx,_,_,rfl,we hpz T.n_ba lkZp ⟨a,dxa,_,rfl,hpic,bL,a,dp,do_,w',h',ps,st,pt,rfl,dr.pic,dr.sts,dr.ok,pnm,hf,fun H1 l1 srt' rs1 s1 fl1 pm1 lt1 e1 sl1=>?_⟩⟩;show(cQ,srt'=srt,xbz xck (pm1.trans dr.pm.symm) lt1 dr.lt);have rl1:=sl1.len;show(tY,fl32,(Xj).length<=32,ZZ (Yj _ _) s32,um l1 e1 l2 hl2,xba LD xA hl2 (wB,Ux XA) (fun _ _ _ _ tp ⟨q,qs,s,l,z1,z2,z3,z4⟩=>⟨124,q,qs,s,l,z1,lC z2,lC z3,z4⟩) (fun i x H2 hx s2 N hN=>?_) (fun ys H2 s2 e2 ly fy=>?_))
  .ext SJ;obtain⟨qa,hqa,rfl⟩:=hx;obtain⟨s,hs,hsq⟩:=sl1.get hqa;show(mE,sin,dr.ok.2.2 s (dr.pm.mem_iff.mp (ZC.mp (Zm hs)).1),eD qa (jp hsq));ext kB q3 hq3;generalize eu:(Ae,H2,q3,za s.1,dS)=H3;ext CY s3 hq3;show(ae,g3,ug_e eu,s03,(mX).trans s3);refine⟨pz,_,dx,_,_,rfl,(we,s03 _ _ hpz,T.n_ba,lkZp,⟨a,dxa,_,rfl,s03 _ _ hpic,bL,a,dp,do_,w',h',ps,pt.nm,pt,s.1,dS,rfl,nY s03 dr.pic,pnm,hf,sin.1,sin.2,am H4 s4⟩)⟩;ext kB q5 hq5;show(ki,s5,Same H4 (Ae,H4,q5,.ref q3,zml),cO hq5,lE ((ID).trans s5) ⟨124,q5,q3,s,_,rfl,xj,zeF g3,by rw[elen,Zf,hs]; rfl⟩)
  ext wy rl1;have lenl:(XA).length=(Xj).length:=cK elen Za
  obtain⟨prs,L,rfl,hprs,ep,eL,hL⟩:=xhv (tgt:=XA) (cK ly lenl) fy;refine⟨l2,prs,rfl,e2,hprs,am dq hdq⟩;have L1:(L.map (·.2.1))=xal sE pt.nm:=by
   have:L.map (·.2.1)=(L.map (·.2)).map (·.1):=fh Zw
   rw[this,eL];rfl
  have ll:L.length<=32:=by
   show(ve,vz eL,Za);omega
  have s3:Same H2 (j8 H2 dq []):=cO hdq;obtain⟨H3,dps,e3,k3⟩:=xiz (d:=dq) L (H:=j8 H2 dq []) (kvs:=[]) xj (pE,qm (hL x hx)) (by rw[L1]; exact lo.nd _) iD jQ;ext Xi H3 ep;rw[eL,List.nil_append] at e3;show(mM,s23,Same H2 H3,k3 _ _ (xb e hdq) (s3 _ _ e));have s03:gG H3:=(mX).trans s23;have fdq:bz dq:=(mX).free hdq;have z3:=z.same s03;obtain⟨kl,hkl,lkl,fkl⟩:=z3.ln;show(mE,hz3,s03 _ _ hpz,⟨pz,_,dx,_,_,rfl,we hz3 T.n_a9 lkZl (kW,dl,y0 sZ hkl (BIG aa))⟩)
  -- the heap with the new lengths
  have k4:(eC,dl,H3 c=some u,rP H3 dl GJ):=gR yI
  have e4:i0 H3 dl GJ dl GJ:=xj;have f4:∀ c,upd H3 dl GJ c=none->H3 c=none:=fun c e=>by
   by_cases y:c=dl
   .ext vd y xj
   .rw [xg y] at e; exact e
  revert k4 e4 f4;generalize fA H3 dl (putK kl sZ (.ref dq))=H4;intro k4 e4 f4;have hz4:=k4 _ _ (ne_f hz3 hkl) hz3;show(ay,ow4,OwD H4 d_o ns own,k4 _ _ z.n3 z3.ow,⟨pz,_,dx,_,_,rfl,RM hz4 (kW,d_o,y0 sZ ow4 xA)⟩);rw[xb2 _ (xfi inrI nnm)];have k5:(eC,d_o,H4 c=some u,rP H4 d_o (.dK Mb)):=gR yI
  have e5:OwD (fA H4 d_o Mb) d_o sN OO:=by
   unfold OwD;rw[xj,Zq]
   congr 3
   .refine JD tz;unfold setI;rw[aM (fun y:x=pt.nm=>nnm (dE y hx))]
   .show [((Jd pt.nm:Key),V.int 0)]=[(Jd pt.nm,V.int (setI own pt.nm 0 pt.nm))]
    unfold setI;rw[cp]
  have f5:∀ c,upd H4 d_o (.dK Mb) c=none->H4 c=none:=fun c e=>by
   by_cases y:c=d_o
   .ext vd y xj
   .rw [xg y] at e; exact e
  revert k5 e5 f5;generalize fA H4 d_o Mb=H5;intro k5 e5 f5
  -- the prices with the new one
  have rn3:=z3.rn;obtain⟨dx2,hp3⟩:=z3.sg.ins;obtain⟨m1,hm1,g1⟩:=z3.sg.so;obtain⟨m2,hm2,g2⟩:=z3.sg.ho;show(dG,k35,∀ c u,c≠dl->c≠d_o->H3 c=some u->O5,(zdI,k5 _ _ n2 (k4 _ _ n1 e)),ow3,z3.ow);unfold OwD at ow3;have tp35:Tups H3 H5:=(vZ,k35 _ _ (eK hkl) (eK ow3) e);show(dG,hkl5,H5 dl=some GJ,k5 _ _ (Zx z.n3) e4,edq5,Nj e3);have ndq:dq∉[d_r,d2]:=fun y=>by
   rcases dU y with y|y
   .rw [y,z.rn] at fdq; cases fdq
   .obtain ⟨m0,hm0,_⟩:=z.sg.ho;show(uw,Zp.mp y,hm0,fdq,fdq)
  have z5:Pz t H5 pz a dl d_o d_r p d1 d2 n sN srt' sE so ho OO rent:=by
   refine⟨(kZ,k5 _ _ (ne_f hz3 ow3) hz4),⟨⟨dx2,Nj hp3⟩,SoD.keep ⟨m1,hm1,g1⟩ tp35 (mB,k35 _ _ (Zx z.n4) (Zx z.n2) e),(Tq,⟨m2,hm2,g2⟩,k35 _ _ (ne_f hm2 hkl) (ne_f hm2 ow3) e)⟩,e5,Nj rn3,bi _ hkl5 ?_ tz,z.n1,z.n2,z.n3,z.n4⟩
   .have:=xbp kl sZ (.ref dq);rw[Zs,ZY];omega
   .rw [xcn];by_cases c:x=pt.nm
    .subst c;exact(bi,dq,fW cp,edq5,ndq)
    .rw [(lM,y,c (Jd.inj y))];rcases TX with hx|hx
     .obtain ⟨qq,q1,q2,q3⟩:=fkl x hx;exact(bi,qq,q1,Nj q2,q3)
     .exact absurd (Zp.mp hx) c
  have fr5:∀ c u,c≠dl->c≠d_o->nA->O5:=(zdI,k35 _ _ n1 n2 (s03 _ _ e));have lnin:∀ x∈sN,∀ qq,(∃ kvs,H5 dl=some (.dK kvs)/\(RU x)=some (.ref qq))->∃ u,H5 qq=some u:=fun x hx qq ⟨kv,y1,y2⟩=>by
   obtain⟨kl5,hk5,_,f⟩:=z5.ln;obtain⟨q',q1,q2,_⟩:=f x hx;ext bB hk5 y1 y1;ext bB q1 y2 y2;exact fC q2
  -- those who ask
  refine⟨(z6 leS1),am la hla⟩;show(GR,dN H5 la [iX],hla);refine am da hda;have nlda:la≠da:=xb g6 hda;show(GS,j8 H6 da [],hda);show(ae,z7,z5.same (s6.trans s7),g67,s7 _ _ g6);have NE:∀{c:Addr}{u:HO},H6 c=some u->c≠da:=fun {c u} e=>xb e hda;have ndr:da≠d_r:=Zx (NE (kG z5.rn));have nd2:da≠d2:=by
   obtain⟨m0,hm0,_⟩:=z5.sg.ho;exact Zx (NE (kG hm0))
  have nln7:xe0 H7 dl da sN:=fun x hx qq ⟨kv,y1,y2⟩=>by
   obtain⟨kl5,hk5,_⟩:=z5.ln;have y3:=Ew hk5;ext bB y1 y3 y3;obtain⟨u,hu⟩:=lnin x hx qq ⟨kv,hk5,y2⟩;exact NE (kG hu)
  show(ae,mt,fit.mt,dm,fit.dm);have sn:CC pt.nm:=by
   have:=dm pt.nm;rw[uR nnm] at this;ext IR
  have nsl:KI sN:=Ob
  have gw0:Grow sE ns pt.nm so ho [pt.nm] [] fb OO rent:=fit.grow lo nnm
  -- one step of asking
  have STEP:∀{crowd:ai}{al:aj}{asked:aD}{o1:bN}{r1:bG},Grow sE ns pt.nm so ho crowd al asked o1 r1->(zbI sN)/\(au crowd.Nodup al.Nodup (∀ s∈al,s∈srt') si zaO):=fun {crowd al asked o1 r1} gw=>by
   show(bo,c1,zbI sN,b,hb,gw.bf.in_ mt dm hb);have c2:=gw.bf.nodup mt sn;refine⟨46,c1,c2,gw.bf.nd,yO,gw.bf.ask,ZZ (xky c2 c1) nsl⟩;ext zcQ hs;obtain⟨_,_,_,_,_,e4⟩:=gw.bf.ak j s (og hj ej);exact lo.ins _ _ e4
  obtain⟨c1,c2,c3,c4,c5,c6⟩:=STEP gw0;obtain⟨g0,b0,t0,nr0⟩:=gw0.nearest lo mt dm sn mt2 all2;have gp0:=gw0.gap lo mt dm nr0;show(vb,dx7,hz7,z7.ins,⟨pz,dx7,_,rfl,hz7,xf8 aP,?_⟩);ext Lh;refine xo6 (crowd:=[pt.nm]) (al:=[]) (asked:=fb) ⟨47,z7,g67,g7,c5,c1,c2,⟨47,c3,c4,s32,nsl,ndr,lo.ins,(b8,nln7,nd2,nr0,zaN,fun H8 qs8 k8 hq8 z8 ak8=>?_)⟩⟩;ext zpr; show(lg,nlo,la,d_o,g67,z7.ow);show(lg,nlr,la,d_r,g67,z7.rn);obtain⟨kl7,hk7,_⟩:=z7.ln;ext lg ndl dl da hk7 g7;ext lg ndla dl la hk7 g67;show(hX,ndlr,dl,d_r,ne_f hk7 z7.rn,(ip,fun m Z H9=>(zft,Z=zmb/\(au,(zfX,H9 c=some u),H9 qs=some (.tup (xar s)),H9 la=some (.lst (crowd.map V.str)),AkD H9 da nG Hh,(zeX,Pz t H9 pz a dl d_o d_r p d1 d2 n sN srt' sE so ho (shO o1 crowd g) (shR r1 asked g),Grow sE ns pt.nm so ho crowd al asked o1 r1,m))),(ii,[pt.nm],[],_,ii _ g0 b0 ⟨86,t0,qs8,rfl,fun c u n1 n2 n3 _ e=>k8 c u n1 n2 n3 e,hq8,k8 _ _ nlo nlr nlda g67,ak8,(b8,z8,gw0,.refl _,nr0,rfl)⟩)));rintro m Z H9 ⟨crowd,al,asked,o1,r1,g,b,s,qs,rfl,k9,hqs,hl9,ak9,z9,gw,rc,nr,rfl⟩;obtain⟨dx9,hz9⟩:=z9.ins;obtain⟨dx9p,hp9⟩:=z9.sg.ins;show(ae,dgH,z9.sg.ho.get hqs,gp,gw.gap lo mt dm nr);have nal:s∉al:=fun y=>by
   have:=(gw.bf.ask s).mpr y;show(BB,gp.na)
  obtain⟨x1,x2,x3,x4,x5,x6⟩:=STEP gw;refine⟨pz,_,dx9,_,_,rfl,we hz9 T.n_a7 lkZs ⟨p,_,dx9p,_,_,rfl,hp9,T.c_ac,T.n_a4,lkHo,d2,_,rfl,dgH,_,rfl,?_⟩⟩;cases hs:ho s with
  | some x =>
   rw[hs] at dgH;have gw2:=gw.more mt sn gp hs;obtain⟨y1,y2,y3,y4,y5,y6⟩:=STEP gw2;obtain⟨g2',b2,t2,nr2⟩:=gw2.nearest lo mt dm sn mt2 all2;have gp2:=gw2.gap lo mt dm nr2;refine ifP rfl (ip,BW (yR,20-crowd.length,(zft,σ'=zmb/\(au,zfX qz,H' qs=some (.tup (xar s)),H' la=some (.lst (crowd.map V.str)),AkD H' da nG Hh,(zeX,Pz t H' pz a dl d_o d_r p d1 d2 n sN srt' sE so ho (shO o1 crowd g) (shR r1 asked g),Grow sE ns pt.nm so ho crowd al asked o1 r1,m')))),fun σ' H' y=>y);ext AT; refine⟨uN hl9,pz,_,dx9,_,_,rfl,hz9,T.c_r,T.n_a7,lkZs,p,_,dx9p,_,_,rfl,hp9,T.c_ac,T.n_a4,lkHo,d2,kc,rfl,dgH,la,_,_,rfl,rfl,hl9,xA,?_⟩;have k10:(eC,la,H9 c=some u,rP H9 la (.lst TF)):=gR yI
   have g10:i0 H9 la (.lst TF) la (.lst ((SA).map V.str)):=Sv
   have z10:=z9.keepL hl9 k10;have ak9':H9 da=some (.dT ((nG).map (aC (xt z,V.str ((Iu b z).getD (Z8 "")))))):=ak9;have ak10:AkD (dN H9 la TF) da nG Hh:=k10 _ _ (Zx nlda) ak9;revert k10 g10 z10 ak10;generalize dN H9 la TF=H10;intro k10 g10 z10 ak10;obtain⟨dx10,hz10⟩:=z10.ins;show(ay,nln10,xe0 H10 dl da sN,nln7.keep z7 (mB,k10 _ _ ndla (k9 _ _ (Zx z.n3) ndlr ndl ndla e)),⟨pz,dx10,_,rfl,hz10,xf8 aP,?_⟩);ext Lh;refine xo6 (crowd:=SA) (al:=nG) ⟨47,z10,g10,ak10,y5,y1,y2,⟨47,y3,y4,s32,nsl,ndr,lo.ins,⟨45,nln10,nd2,nr2,(fun y=>by
    have:=(gw2.bf.ask t2).mpr y;show(BB,gp2.na)),fun H11 qs11 k11 hq11 z11 ak11=>?_⟩⟩⟩
   show(dc,20-(SA).length,Ob,(gU,SA,nG,_,_,ii g2' b2 t2 ⟨66,qs11,rfl,fun c u n1 n2 n3 n4 e=>k11 _ _ n1 n2 n3 (k10 _ _ n4 (k9 _ _ n1 n2 n3 n4 e)),hq11,k11 _ _ nlo nlr nlda g10,ak11,(b8,z11,gw2,.step rc (a_go nr hs),nr2,rfl)⟩))
  | none =>
   rw[hs] at dgH;refine ifN rfl ?_;have ask2:∀ s',(gM (Iu b s'))↔s'∈nG:=fun s'=>by
    unfold Kp.upd1;by_cases c:s'=s
    .rw [az c];show(aO,fun _=>Z6 _ (Zp.mpr c),o5)
    .rw [wp,gw.bf.ask s',Z3];show(aO,.inl,fun y=>y.elim id fun y=>absurd (Zp.mp y) c)
   show(Pb,gp.ac);show(dG,ea,aF crowd b,IT,chn,gw.bf.chain mt sn aa ea gp.rm nal);refine⟨pz,_,dx9,_,_,rfl,we hz9 T.n_a7 lkZs ⟨p,dx9p,_,rfl,hp9,xkm aP,p,d1,d2,da,qs,n,(nG).length,xal (x8 w' ps srt'),so,ho,Hh,fun zz=>crowd.idxOf zz,pt.nm,b,s,rfl,hqs,z9.sg,ak9.hod ask2,nd2,aa,mt,hs,WI,chn,fun H12 so' ho' kb fr12 sg' mt' dm' rk=>?_⟩⟩;refine q H12 _ _ so' ho' _ s (fun c u n1 n2 n3 n4 n5 e=>?_) (z9.hand kb sg') (.step rc (xxs nr hs)) rk (gw.last lo mt sn dm x6 gp hs mt' dm' rk);show(ae,e5,fr5 _ _ n1 n2 e,e6,kG e5);exact kb _ _ n4 n5 (k9 _ _ n2 n3 (NE e6) (xb e5 hla) (s7 _ _ e6))
theorem Run.none {room:fj}{ss:aj} (snd:ss.Nodup) (hr:GO) {ns:ai}{so:bq}{ho:aD}{cs:c7} (r:sw) (nd:ns.Nodup) {so2:bq}{ho2:aD} (mt2:Kp.Mt room so2 ho2) (all:∀ z∈ns,zdz):cs=[]:=by
 cases cs with
 | nil=>rfl
 | cons c r' =>
  obtain⟨so0,ho0,mt0,cr,sub⟩:83:=r.crowd nd c gD;show(ziT,cr.count mt0 snd hr,hr,all a (sub a ha))
theorem xoz {H:Hp}{ps:aw}{so:bq}:∀{names:ai}{ys:ag},(wa names.length)->(Du,∃ q s pt,(zhI,so pt.nm=some s))->∃(prs:aG) (qs:ao),ys=qs.map V.ref/\uP/\prs.map (·.1.nm)=names/\zlT
 | [],[],_,_=>⟨84,[],[],rfl,.nil,rfl,N5⟩
 | [],df,h,_=>ff
 | df,[],h,_=>ff
 | nm::names,jH,h,f=>by
  obtain⟨q,s,pt,h1,h2,h3,rfl,h4⟩:105:=f 0 y rfl;obtain⟨prs,qs,e1,e2,e3,e4⟩:84:=xoz (names:=names) (ys:=ys) xT (fun i y hy=>by
   obtain⟨q,s,pt,a1,a2,a3,a4,a5⟩:105:=zms;exact⟨105,q,s,pt,by simpa using a1,a2,a3,a4,a5⟩)
  have h1:nm=pt.nm:=qx
  refine⟨84,(pt,s)::prs,rG,fh e1,dJ h4 e2,by rw[Zo,e3,h1],iZ⟩;rcases Lv with rfl|hp
  .exact ⟨h2,h3⟩
  .exact e4 p hp
inductive xso (t:Adr) (vs:ag) (H:Hp) (Q:VK) (_:XK):Prop
 | mk (a ln dp do_:Addr) (w h:Nat) (ps:aw) (st srt:aj) (names:ai) (e_:zbj) (r_:Dr t H a dp do_ w h ps st srt/\gc/\Gz/\zas/\names.Nodup/\uI/\(∃ so2 ho2,Kp.Mt sX so2 ho2/\∀ z∈names,zdz)/\∀ H' tp lp d_o d_r qs prs own rent so' ho',cL->(HF tp (vG,.ref lp,d_o,d_r))->H' lp=some (.lst (qs.map V.ref))->PrsL H' prs qs->prs.map (·.1.nm)=names->(bg,(∀ p∈prs,aK∈ps/\so' bH=some bW),OwD H' d_o names own,RnD H' d_r srt rent,LRun jt names own rent so' ho',zr (bz lp) (bz d_o) (bz d_r) (bz tp) tp))
theorem xkw (T:aX):FnOk true P w K mg base aU 9 t.f_least t.d_least oQ (xso t):=by
 refine T.F_least.okn (k:=8) xfv (aY h) (fun cdv A outer s H vs Q E hr h=>?_)
 .obtain ⟨a,ln,dp,do_,w',h',ps,st,srt,names,rfl,_⟩:=h;rfl
 .obtain ⟨a,ln,dp,do_,w',h',ps,st,srt,names,rfl,h⟩:=h;refine⟨_,xh (pS 2 xfv.nd (pC (xub T) hr T.g_fits T.F_fits.kp T.b_fits B5))
   (xh (F4 (KH 2))
   (xh (Hi 3 xfv.nd (xfb T.k_r (ok_al T) aZ rfl T.g_r T.b_al .nil xp pQ))
   (xh (iS uc 4 xfv.nd (uo (xae iu T.c_r T.m_w (ok_w T) aZ T.b_w .nil xp (jj 4))))
   (xh (xb6 rfl (xas (zs:=["name"]) (ys:=["prices"]) (fr:=[3]) (N0:=zgn) (sc0:=xl xgp) aP rfl rfl rfl) uc jn jb eB (U4 (wg (zay,xz (zay,qR 1) rfl) bD)) (j:=5) rfl pH)
   (BC (dR 5 (gu (qR 3) (qR 3)))))))),?_⟩
  refine sq6 ?_; intros; obtain⟨dr,pok,hln,nps,nnd,n12,⟨⟨so2,ho2,mt2,all2⟩,q⟩⟩:47:=h;have snd:srt.Nodup:=dr.pm.nodup_iff.mpr dr.ok.1;have hr:(wM,s∈zcY,s∈srt):=fun n s hs=>by
   unfold xaz at hs;split at hs
   .exact (ZC.mp hs).1
   .exact nomatch hs
  refine⟨a,ln,dp,do_,w',h',ps,st,srt,names,rfl,⟨46,dr,hln,nps,nnd,n12,fun H1 v cs so ho s1 run alt=>?_⟩⟩;show(nZ,run.none snd hr nnd mt2 all2);obtain rfl:v=.non:=by
   rcases alt with⟨_,e⟩|⟨_,_,_,e,_⟩
   .exact e
   .cases e
  refine(lX,ifN ap ?_);refine (bJ pz dx hpz hdx ne);have s2:Same H1 (upd (upd H1 dx (.own pz)) pz (y9 [])):=fun b u e=>by
   show(cY,gY hpz,FA,e)
  have s02:=s1.trans s2;refine⟨pz,dx,a,dp,do_,w',h',ps,st,srt,RE,rfl,xj,dr.same s02,fun H2 dl d_o d_r p d1 d2 f1 f2 f3 f4 f5 f6 k2 z2=>Co⟩;ext mN; show(mM,s12,m8,k2 _ _ (xb e hpz) Fv);have sH2:Lz:=s1.trans s12;show(ae,g1,s02.free f1,g2,s02.free f2);show(ae,g3,s02.free f3,g5,s02.free f5);show(ae,g6,s02.free f6,hln2,sH2 _ _ hln);ext zL ln hln2
  let Pv (i:Nat) (Z:L2.St) (H3:Hp):Prop:=∃(v4 v5:bP) (so:bq) (ho:aD) (own:bN) (rent:bG),(jI,Z,[cP,Cq,some .non,vU,v4,v5],gG H3,Pz t H3 pz a dl d_o d_r p d1 d2 (30*i) ye srt RE so ho own rent,LRun RE ye own rent so ho)
  show(zcS,?_)
  .exact jw ⟨84,_,_,rfl,sH2,z2,.nil⟩
  .show(zjs,H3,s3,qm hln)
  .rintro i x Z H3 hx (⟨v4,v5,so3,ho3,⟨own,rent,rfl,s3,z3,r3⟩⟩:121);ext sQ;ext EF;obtain⟨hi,ei⟩:=Zi.mp hnm;have nin:nm∉ye:=fun y=>by
    have:=xc6 id (ps:=names) (av YB nnd) hi nm y;exact this ei.symm
   have tk:names.take aH=ye++[nm]:=by
    rw[ZS,hnm];rfl
   show(vb,dx3,hz3,z3.ins,⟨pz,dx3,_,rfl,hz3,xf8 aP,?_⟩);ext Lh;refine xrc ⟨47,z3,dr.same s3,pok,aa,qM J0,zaZ,(bR,nin,r3.fit,(bw,so2,ho2,av xer mt2,fun zz hzz=>all2 zz (by rw[<- tk] at hzz; exact Yo hzz)),fun H4 own' rent' so' ho' asked s k4 z4 ra rk fit=>?_)⟩;refine ii _ so' ho' ⟨84,own',rent',rfl,(jG,k4 _ _ (xb e g1) (xb e g2) (xb e g3) (xb e g5) (xb e g6) (s3 _ _ e)),?_,?_⟩
   .rw [tk,Nat.mul_succ];exact z4
   .show(bI,tk,.snoc r3 ra rk fit)
  .rintro Z H3 (⟨v4,v5,so3,ho3,⟨own,rent,rfl,s3,z3,r3⟩⟩:121);rw[Za,Jf] at z3 r3;have hln3:=qm hln;obtain⟨dx3,hz3⟩:=z3.ins;obtain⟨dx3p,hp3⟩:=z3.sg.ins;have fit:=r3.fit;show(oO,ln,hln3,l4,hl4,xba (aV hln3) lF hl4 (wB,∃(q:Addr) (s:Seat) (pt:Pt),(zhI,so3 pt.nm=some s)) (fun _ _ _ _ tp ⟨q,s,pt,x1,x2,x3,x4,x5⟩=>⟨105,q,s,pt,x1,x2,x3,x4,lC x5⟩) (fun i x H4 hx s4 N hN=>?_) (fun ys H4 s4 e4 ly fy=>?_))
   .ext SJ;ext EF;ext kh pt ptin zaZ;have sm:gM (so3 pt.nm):=(cK,fit.dm,decide_eq_true (Zm hnm))
    rcases (z3.sg.same s4).so.get pt.nm with⟨e0,_⟩|⟨c,qq,ec,dg,hqq⟩
    .ext zS e0 sm
    ext rD leS1 p1 h1;generalize eu:nE H4 p1 [iX]=H5;ext fJ s5 h1 g5;have dg5:DGet H5 d1 iX (aT qq):=by
     obtain⟨kk,hk,_,fk⟩:63:=(z3.sg.same s4).so;show(af,q',a1,a2,(fk pt.nm).2 c ec);show(ae,g,vF sZ (dZ hk),g',vF sZ hk);rcases dg with⟨kv,k,r1,r2,r3⟩|⟨kv,k,b,_,r2,_⟩
     .have e1:k=sZ:=by
       cases k with
       | inl i=>cases r2
       | inr x=>exact congrArg Jd (V.str.inj r2).symm
      subst e1;rcases r1 with r1|⟨_,r1⟩
      .rw [hk] at r1;cases r1;ext aB r3 g
      .ext zS hk r1
     .cases r2
    refine⟨pz,_,dx3,_,_,rfl,(we,zeF hz3,T.n_a7,lkZs,⟨p,_,dx3p,_,_,rfl,zeF hp3,T.c_ac,T.n_a5,lkSo,d1,.ref qq,rfl,dg5,p1,qq,_,_,rfl,rfl,eA g5,eA (dZ hqq),ah,(zbH,1+2),gb,fun _ p2 h2=>?_⟩)⟩;exact lE (s5.trans (cO h2)) ⟨105,p2,c,pt,hnm,ptin,ec,rfl,xj⟩
   rw[Za] at ly;obtain⟨prs,qs,rfl,pl,en,al⟩:84:=xoz ly fy;have z4:=z3.same s4;show(vb,dx4,hz4,z4.ins,⟨pz,_,dx4,_,_,rfl,RM hz4 ⟨pz,_,dx4,_,_,rfl,hz4,T.c_r,T.n_bc,lkZr,vq,am tp htp⟩⟩);generalize eu:nE H4 tp (vG,.ref l4,d_o,d_r)=H5;ext fJ s5 htp g5;exact q H5 tp l4 d_o d_r qs prs own rent so3 ho3 ((ID).trans s5) g5 (dZ e4) (pl.keep (Same.tups s5)) en al (dZ z4.ow) (dZ z4.rn) r3 (s3.free hl4) g2 g3 ((ID).free htp)
theorem xfj {K:Zd}{H:Hp}{l:Addr}{nms:ai} (e:ax l (.lst (nms.map V.str))):iQ 1 bQ (.lst (nms.map DV.str)):=.lst (aV e) (cK Za Za) fun j x d h1 h2=>by
 ext zfF
theorem xi0:∀ l:ai,pls (l.map DV.str)=true
 | []=>rfl
 | _::r=>by
  show (true&&pls (r.map DV.str))=true;rw[xi0 r];rfl
theorem xsh (as bs:ai):dEq (.lst (as.map DV.str)) (.lst (bs.map DV.str))=(cC as bs):=xgu (x:=as) (y:=bs) (xi0 as) (xi0 bs) (by
 constructor
 .intro h
  injection h with h
  exact List.map_inj_right (dh,a,b,by injection e) |>.mp h
 .intro h
  rw[h])
noncomputable def prS (p:Pr):Seat:=(ij,eI)
noncomputable def gvB (ss:aj) (names:ai) (prs:aG):Bool:=(cJ VI)&&((cJ ((EI).Nodup))&&prs.all fun p=>Mu)
inductive xrn (t:Adr) (vs:ag) (H:Hp) (Q:VK) (_:XK):Prop
 | mk (a ln lp dp do_:Addr) (w h:Nat) (ps:aw) (st ss:aj) (names:ai) (prs:aG) (qs:ao) (e_:vs=(vG aA ln lp)) (r_:Dr t H a dp do_ w h ps st ss/\Gz/\(Ho Vu uP Ed (∀ p∈prs,(bE,qQ bH,zmR,1<=eI,eI<=im)) OK))
theorem xr3 {l:aj}:(l.map xt).Nodup↔l.Nodup:=by
 rw[YA,Ja];constructor
 .intro h
  exact h.imp fun ne e=>ne (fW e)
 .intro h
  exact JU.imp (fun ne e=>ne (xdf e)) h
theorem xmn {H:Hp}:∀{ys:ag}{prs:aG},(wa prs.length)->(∀(i:Nat) y,(aF ys y)->zhB)->∃ qs:ao,ys=qs.map V.ref/\qs.length=prs.length/\(zpD ((EI).map xt) (ax q (.tup (ks.map kV))))
 | [],[],_,_=>(kg,[],rfl,fun i q ks h=>Be)
 | jH,p::prs,l,f=>by
  obtain⟨qs,e,ql,k⟩:63:=xmn (H:=H) (ys:=ys) (prs:=prs) (by simpa using l) (fun i y h=>by
   obtain⟨p',qa,a,b,c⟩:83:=f aH y xT;exact(bC,p',qa,by simpa using a,b,c))
  obtain⟨p',qa,a,b,c⟩:83:=f 0 y rfl;have a:p=p':=by simpa using a
  subst a b;refine(bi,qa::qs,wj,cM ql,bJ i q ks h1 h2);cases i with
  | zero =>
   simp at h1 h2;subst h1 h2;exact c
  | succ j=>exact k j q ks qx AH
theorem ok_ax (T:aX):FnOk true P w K mg base aU 6 t.f_ax t.d_ax Vv (xrn t):=by
 refine T.F_ax.okn (k:=5) sc_ax (aY h) (fun cdv A outer s H vs Q E hr h=>?_)
 .obtain ⟨a,ln,lp,dp,do_,w',h',ps,st,ss,names,prs,qs,rfl,_⟩:=h;rfl
 .obtain ⟨a,ln,lp,dp,do_,w',h',ps,st,ss,names,prs,qs,rfl,h⟩:=h;refine⟨_,xh (xan (jO Ia (xa7 rfl (xas (zs:=GM) (ys:=[]) (fr:=[]) (N0:=Mm) (sc0:=xl s_ax) aP rfl rfl rfl) F8 wR xU eB Ou) eJ) (dH (xc4)) (x9))
   (xh (xb6 rfl (xas (zs:=GM) (ys:=[]) (fr:=[]) (N0:=Mm) (sc0:=xl s_ax) aP rfl rfl rfl) F8 wR xU eB (mR B4) (j:=3) rfl pH)
   (dH (xc1 (xb8 xdp (xn7 (xb1 hr) rfl rfl T.n_len rfl T.n_set (jj 3)) zbn rO) (xei (xaw (xp1 rfl) rfl T.n_all PyProof.Rows.Boot.«all» (xa (xa7 rfl (xas (zs:=GM) (ys:=mZ) (fr:=[0]) (N0:=Mm) (sc0:=xl s_ax) aP rfl rfl rfl) F8 wR xU eB (fun _ _ _ _ _=>xae iu T.c_a T.m_v (ok_v T) aZ T.b_v .nil xp (eS 0 1 2))) (xi))))))),?_⟩
  refine sq3 ?_; intros; ext Ej; obtain⟨dr,hln,hlp,pl,n12,ok,q⟩:47:=h;have qll:=pl.len;show(tY,BIG,(zco,n<=12),fun h=>xbo aa,um lp hlp l1 hl1,xba (aV hlp) xA hl1 (fun i y _=>∃ p,Kd/\y=pD) AE (fun i x H2 hx s2 N hN=>?_) (fun ys H2 s2 e2 ly fy=>?_))
  .ext VR;exact(dD,qa,rfl,eA (jp hpq),lE jV BV)
  have ey:ys=(A7 bH).map V.str:=by
   show(G1,(by rw[ly,Za,Za,qll]));show(kh,p,hp,fy i y hy);rw[Zf,hp] at hb;ext hJ hb
  rw[ey] at e2;show(Ag,hln2,jp hln,hlp2,jp hlp,(Ad,1,1,xfj e2,(kS,xfj hln2,Fy)))
  .rw [xsh] at c;have c:¬ VI:=DT
   have g:OK=false:=by
    unfold gvB;rw[decide_eq_false c];rfl
   show(bO,g,q,q _ s2)
  .rw [xsh] at c;show(tY,c,VI,DT,um lp hlp2 l3 hl3,xba (aV hlp2) xA hl3 (wB zhB) (fun _ _ _ _ tp ⟨p,qa,z1,z2,z3⟩=>(bC,p,qa,z1,z2,lC z3)) (fun i x H3 hx s3 N hN=>?_) (fun ys3 H3 s3 e3 ly3 fy3=>?_))
   .ext VR;refine(Ki,qa,eA (s3 _ _ (s2 _ _ hpq)),ng,am q5 hq5);exact lE (cO hq5) (cN p q5 hp xj)
   rw[Za,qll] at ly3;show(bF,as,rfl,al,ak,xmn ly3 fy3);refine⟨106,l3,as,(EI).map xt,rfl,aV e3,by rw[Za,Za,al],ak,aa,⟨84,l3,_,rfl,BA e3,rfl,?_⟩⟩;have nde:(decide (V.int (bA,xdh ((EI).map xt))=V.int (bA,(as.map V.ref).length)))=(cJ ((EI).Nodup)):=by
    rw[Jg,decide_eq_true_iff,decide_eq_true_iff,<- xr3,<- xnx,Za,Za,Za,al];constructor
    .intro h
     injection h with h
     omega
    .intro h
     rw[h]
   rw[nde];show(ae,s03,s2.trans s3,hlp3,qm hlp2);show(iG,lK nd nd)
   .have nd:=of_decide_eq_true nd;show(oO,lp,hlp3,l5,hl5,xba (aV hlp3) xA hl5 (fun i y _=>∃ p,(aF prs p)/\y=.bl Mu) AE (fun i x H4 hx s4 N hN=>?_) (fun ys5 H5 s5 e5 ly5 fy5=>?_))
    .ext VR;show(jY,k1,k2,k3,k4,ok p (Zm hp));show(ae,s04,s03.trans s4,dr4,dr.same s04);show(Il,dr4.pic,⟨qa,_,rfl,eA (s04 _ _ hpq),rfl,a,dx,_,rfl,hpi,bL,a,dp,do_,w',h',ps,st,aK,ij,eI,rfl,dr4.pic,dr4.sts,k1,k2,k3,k4,am H6 s6⟩);refine lE s6 (ip p hp);have e:decide ((ij,eI)∈st)=(ld,prS p,ss):=by
      ext zbG decide_eq_true_iff;exact dr.pm.mem_iff.symm
     rw[e];rfl
    have ey5:ys5=(A7 Mu).map V.bl:=by
     show(G1,(by rw[ly5,Za,Za,qll]));show(kh,p,hp,fy5 i y hy);rw[Zf,hp] at hb;ext hJ hb
    rw[ey5] at e5;show(rV,l5,_,aV e5,?_);have g:OK=(A7 Mu).all id:=by
     unfold gvB;rw[decide_eq_true c,uU nd,List.all_map];rfl
    show(ja,g,q _ Ib)
   .have g:OK=false:=by
     unfold gvB;rw[Jh.mpr nd];simp
    show(bO,g,q,q _ s03)
theorem xhj {ss:aj} (h:ss.Pairwise xb9):ss.Nodup:=h.imp fun {a b} z e=>by
 ext cZ;exact xck _ _ z z
noncomputable def prD (p:Pr):DV:=.tup (Cd pD ij eI)
theorem xwq {K:Zd}{H:Hp}{q:Addr}{p:Pr} (h:AJ p):iQ 1 cu (prD p):=.tup (SqT.of h) rfl (xk9 (xs:=prV p) rfl)
theorem PrsL.dv {K:Zd}{H:Hp}{ps:aG}{qs:ao} (h:sI) {l:Addr} (e:wW):iQ 2 bQ (.lst (ps.map prD)):=by
 ext Uj;ext zeD;exact xwq e'
inductive xkf (K:Zd) (vs:ag) (H:Hp) (Q:VK) (_:XK):Prop
 | mk (a:Addr) (ns:bK) (e_:vs=fF) (r_:Rv/\ns.length<=63/\∀ H',Q (.bl true) H')
noncomputable def okP (room:fj) (ss:aj) (keep:ai) (nm:Str):Bool:=(zpR).all fun S=>cJ (S.length+1<=ss.countP (Kp.tog room (nm::S)))
noncomputable def xdd (room:fj) (ss:aj) (keep:ai) (nm:Str):ai:=if okP room ss keep nm then keep++[nm] else keep
noncomputable def xdx (room:fj) (ss:aj) (ns:ai):ai:=ns.foldl (xdd room ss) []
theorem xgo (room:fj) (ss:aj) (ns:ai) (nm:Str):xdx room ss lR=xdd room ss zbT nm:=by
 unfold xdx;rw[Q9];rfl
theorem Run.keeps {room:fj}{ss:aj} (snd:ss.Nodup) (hr:GO) {ns:ai}{so:bq}{ho:aD}{cs:c7} (r:sw) (nd:ns.Nodup):xao ns cs=zbT:=by
 induction r with
 | nil=>rfl
 | @inn ns so so' ho ho' cs nm r mt dm rc ih =>
  show(Pa,(d9,(gF).2 nm h nm m6 rfl));have h2:nm∉cs.map (·.1):=(d9,h1 (r.outs.1 nm h));have e1:xao (ns++[nm]) cs=BJ++[nm]:=by
   unfold xao;rw[JS,JY (fh,uR h2),Qv]
  rw[e1,xgo,<- ih nd.1];unfold xdd;rw[if_pos];unfold okP;rw[Ys];intro S hS;have knd:(BJ).reverse.Nodup:=(zqV).nodup_iff.mpr (JU.filter _ nd.1);show(ae,sm,(Kp.subs_mem hS).1,snd',Kp.subs_nd knd hS);refine decide_eq_true (Kp.hall mt hr (T:=nm::S) (ZB.mpr ⟨l0,snd'⟩) (am a ha))
  .have:=Qg.mp (sm nm z);exact h1 (ZC.mp this).1
  .rw [dm a];rcases dU ha with rfl|ha
   .simp
   .have k:=ZC.mp (Qg.mp (sm a ha));rw[r.dom nd.1 a,decide_eq_true k.1,k.2];simp
 | @out ns so ho cs nm hs r c rc ih =>
  show(Pa,(d9,(gF).2 nm h nm m6 rfl));have e1:xao (ns++[nm]) zcw=BJ:=by
   unfold xao;rw[JS,JZ ah,Qv,YL];refine YX vo;have:z≠nm:=fun e=>h1 (e▸hz);simp[this]
  rw[e1,xgo,<- ih nd.1];unfold xdd;rw[if_neg];intro ok;unfold okP at ok;rw[Ys] at ok;obtain⟨S,hS,pS⟩:62:=Kp.subs_all (l:=(BJ).reverse) (ZB.mp c.nd).2 (fun a ha=>by
   have k:=c.has a ha;rw[r.dom nd.1 a,ZM] at k;exact Qg.mpr (ZC.mpr ⟨znZ,k.2⟩))
  have k:=of_decide_eq_true (ok S hS);have ec:ss.countP zqK=ss.countP (Kp.tog room (nm::hs)):=by
   congr 1
   funext s;exact Kp.tog_perm (pS.cons nm) s
  rw[ec,c.count r.mt snd hr,pS.length_eq] at k;omega
theorem xnc {ps:aw}{w h:Int}{ss:aj}{prs:aG} (nx:(ps.map (·.x)).Nodup) (g:D8):∀ k,(sC).map (·.1)=prs.map (·.1)/\((sC).map (·.2)).Perm (prs.map (·.2))/\totI w sC<=yy
 | 0=>(Gs,Tf,YR _)
 | dk=>by
  show(fO,i1,i2,i3,xnc (ss:=ss) nx g k);have gk:=Xy;show (Bg).map (·.1)=_/\((Bg).map (·.2)).Perm _/\totI w Bg<=_;cases e:zpY with
  | none =>
   have en:Bg=sC:=by
    unfold nxtP;rw[e]
   rw[en];ext aE i1 i2 i3
  | some tr =>
   obtain⟨A,p1,B,p2,⟨C,c,e0,hc,et,ne,en,el,g',dec⟩⟩:121:=xk5 nx gk e;show(fE,?_,?_)
   .rw [<- i1,el,e0];simp
   .refine Yr.trans ?_ i2;rw[el,e0];simp only[Zq,Zo];refine Yr.append_left _ ?_;exact ((Qf.cons p2.2).trans (Yr.swap _ _ _)).trans (Qf.symm.cons p1.2)
   .rcases dec with z|⟨_,z,_⟩<;>omega
noncomputable def xco (xs:uQ) (s:Seat):ju:=(xs.find? fun x=>cC aN s).map (·.2)
theorem xrb {xs:uQ}{s:Seat}:(xco xs s).isSome=decide (s∈xs.map (·.1)):=by
 unfold xco;rw[Q7,Jg,List.find?_isSome,decide_eq_true_iff,Ze];constructor
 .ext qI x h1 h2;show(aE,x,h1,AU h2)
 .ext qI x h1 h2;show(aE,x,h1,uU h2)
theorem xgl {xs:uQ}{s:Seat}{l:Int} (h:xco xs s=some l):(s,l)∈xs:=by
 unfold xco at h;show(af,x,h1,h2,Zh.mp h);have h3:=QX h1;have h3:aN=s:=AU h3;rw[<- h3,<- h2];exact Zy h1
theorem xmp {α:Type}{r:vP} (h:∀ a,r a<=0):∀ l:b7,zcC<=0
 | []=>YR _
 | a::l=>by
  rw[Zo,Jc];show(wc,h a,xmp h l)
theorem xsf {α:Type}{r:vP}:∀ l:b7,(∀ a∈l,r a=0)->zcC=0
 | [],_=>rfl
 | a::l,h=>by
  rw[Zo,Jc,h a gD,xsf l XY];rfl
theorem xlh {α:Type}{r:vP}{l m:b7} (p:l.Perm m):zcC=(m.map r).sum:=by
 induction p with
 | nil=>rfl
 | cons x _ ih=>rw[Zo,Zo,Jc,Jc,ih]
 | swap x y l=>simp only[Zo,Jc]; omega
 | trans _ _ h1 h2=>rw[h1,h2]
theorem xm6 {α:Type} [AX] {r:vP} (h:∀ a,r a<=0):∀{T ss:b7},(zah,a∈ss,(ss.map r).sum<=(T.map r).sum)
 | [],ss,_,_=>xmp h ss
 | x::T,ss,nd,sub=>by
  ext zqC;rw[xlh (Wk hx),Zo,Zo,Jc,Jc];show(db,xm6 h (T:=T) (ss:=ss.erase x) gF (zA,(Wm (fun e:a=x=>nd.1 (e▸ha))).mpr (sub a (Zj _ ha))))
theorem xpa {α:Type} [AX] {r:vP}:∀{T ss:b7},(bg,T.Nodup,ss.Nodup,(∀ a∈T,a∈ss),(∀ a∈ss,a∉T->r a=0),(ss.map r).sum=(T.map r).sum)
 | [],ss,_,_,_,z=>xsf ss (zA,z a ha zaN)
 | x::T,ss,nd,snd,sub,z=>by
  ext zqC;show(ae,pm,Wk hx,nd2,pm.nodup_iff.mp snd);rw[ZB] at nd2;rw[xlh pm,Zo,Zo,Jc,Jc];rw[xpa (T:=T) (ss:=ss.erase x) gF nd2.2 (zA,(Wm (fun e:a=x=>nd.1 (e▸ha))).mpr (sub a (Zj _ ha))) (fun a ha na=>z a (List.mem_of_mem_erase ha) (fun y=>by
   rcases dU y with y|y
   .rw [y] at ha; exact nd2.1 ha
   .exact na y))]
noncomputable def lenP (lens:cD) (p:Pr):Int:=(xco (lens bH) bW).getD 0
noncomputable def xcb (lens:cD) (prs:aG):Int:=(prs.map (lenP lens)).sum
noncomputable def gvL (lens:cD) (names:ai) (prs:aG):Bool:=decide (prs.map (·.1.nm)=names)&&(decide ((prs.map (·.2)).Nodup)&&prs.all fun p=>(ld,bW,xal lens bH))
theorem xgs {lens:cD}{names:ai}{prs:aG}:gvL lens names prs=true↔prs.map (·.1.nm)=names/\(prs.map (·.2)).Nodup/\zjZ:=by
 unfold gvL;rw[ZM,ZM,decide_eq_true_iff,decide_eq_true_iff,Ys];simp only[decide_eq_true_eq]
theorem xea {lens:cD}{n:Str}{s:Seat} (h:s∈yC):∃ l,xco (lens n) s=some l:=by
 have:=xrb (xs:=wu) (s:=s);rw[decide_eq_true (show s∈(wu).map (·.1) from h)] at this;exact QE.mp this
theorem xo4 {α:Type}{f g:vP}:∀{l:b7},(∀ a∈l,f a<=g a)->zcH<=Rc
 | [],_=>YR _
 | a::l,h=>by
  rw[Zo,Zo,Jc,Jc];show(wc,h a gD,xo4 (l:=l) XY)
theorem xh0 {α:Type}{f g:vP}:∀ l:b7,(l.map fun a=>f a+g a).sum=zcH+Rc
 | []=>rfl
 | a::l=>by
  rw[Zo,Zo,Zo,Jc,Jc,Jc,xh0 l];omega
section
variable {lens:Str->List (Seat × Int)}{names:List Str}{so:Str->Option Seat}{ho:Seat->Option Str}{own:Str->Int}{rent:Seat->Int}{ss:List Seat}
theorem xnd {prs:aG} (e:prs.map (·.1.nm)=names):(A7 CD).sum=NV:=by
 rw[<- e,Zw];rfl
theorem Fit.dual (f:Fit lens names so ho own rent) (lo:yj) {prs:aG} (g:gvL lens names prs=true):NV+zai<=Ev:=by
 show(fO,e,nd,al,xgs.mp g);have h1:(A7,CD+rent bW).sum<=Ev:=xo4 fun p hp=>by
  obtain⟨l,hl⟩:=xea (al p hp);have:=f.le bH (Oe e BV) (bW,l) (xgl hl);unfold lenP;ext aB hl this
 rw[xh0,xnd e] at h1;have h2:=xm6 f.rl nd (fun s hs=>by
  ext zT hs;exact lo.ins _ _ tS) (ss:=ss)
 rw[Zw] at h2;have h3:(prs.map (rent∘fun p=>bW)).sum=(A7,rent bW).sum:=rfl;omega
theorem Fit.tight (f:Fit lens names so ho own rent) (lo:yj) (nnd:names.Nodup) {prs:aG} (e:prs.map (·.1.nm)=names) (al:∀ p∈prs,zaw):gvL lens names prs=true/\xcb lens prs=NV+zai:=by
 have nd:(prs.map (·.2)).Nodup:=by
  rw[YA,JB];intro i j hi hj lt z;rw[Za] at hi hj;rw[YG,YG] at z;show(ae,a1,al _ (List.getElem_mem hi),a2,al _ (List.getElem_mem hj));rw[z] at a1;have:=f.mt.inj a1 a2;rw[<- e] at nnd;exact absurd this (by
   have y:=JB.mp nnd i j (gE hi) (gE hj) lt;rw[YG,YG] at y;exact y)
 show(ay,rm,zjZ,(eF,f.mt.rm _ _ tS),(dQ,xgs.mpr ⟨e,nd,rm⟩));have h1:Ev=(A7,CD+rent bW).sum:=by
  unfold xcb
  congr 1
  refine JD iZ;obtain⟨l,hl⟩:=xea (rm p hp);unfold lenP;show(aB,hl,(f.eq _ _ tS l (xgl hl)).symm)
 rw[h1,xh0,xnd e];have h2:=xpa (r:=rent) nd lo.snd (fun s hs=>by
  ext zT hs;exact lo.ins _ _ (rm p hp)) (fun s hs ns=>f.r0 s (by
  cases z:ho s with
  | none=>rfl
  | some n =>
   have y:=(f.mt.iff n s).mpr z;have nin:S5:=by
    show(ve,f.dm n,y);ext zcp
   rw[<- e] at nin;ext zT nin;show(bO,tS,y,absurd (Ze.mpr ⟨p,hp,ZE.inj y⟩) ns)))
 rw[h2,Zw];rfl
#check _
structure GvF (lens:cD) (names:ai) (f:Te):Prop where
 rm:∀ n∈names,f n∈yC
 inj:∀ a∈names,∀ b∈names,f a=f b->a=b
noncomputable def xc5 (lens:cD) (names:ai) (f:Te):Int:=(names.map fun n=>(xco (lens n) (f n)).getD 0).sum
structure xcx (lens:cD) (names:ai) (T:Int):Prop where
 has:∃ f,AK/\DS=T
 le:∀ f,AK->T<=DS
noncomputable def mkPr (f:Te) (n:Str):Pr:=(⟨n,0,0,n,0,0⟩,f n)
section
variable {lens lens':Str->List (Seat × Int)}{names names':List Str}{so:Str->Option Seat}{ho:Seat->Option Str}{own:Str->Int}{rent:Seat->Int}{ss:List Seat}{f:Str->Seat}{T T':Int}
theorem GvF.prs (g:AK) (nnd:names.Nodup):gvL lens names (names.map (mkPr f))=true/\xcb lens (names.map (mkPr f))=DS:=by
 show(cR,xgs.mpr ⟨?_,?_,iZ⟩,?_)
 .rw [Zw];exact YB _
 .rw [Zw,List.nodup_iff_pairwise_ne,Ja];exact JU.imp_of_mem (Py,ne,ne (g.inj a ha b hb e)) nnd
 .ext sT n hn hp;exact g.rm n hn
 .unfold xcb xc5;rw[Zw];rfl
theorem Fit.leastF (fit:Fit lens names so ho own rent) (lo:yj) (nnd:names.Nodup) {prs:aG} (e:prs.map (·.1.nm)=names) (al:∀ p∈prs,zaw):(IL Ev)/\xcb lens prs=NV+zai/\∃ f,AK/\DS=Ev/\∀ n∈names,f n∈prs.map (·.2):=by
 obtain⟨gv,tight⟩:=fit.tight lo nnd e al;have h1:∀ n∈names,∃ p∈prs,bH=n/\(vc bW):=fun n hn=>by
  rw[<- e] at hn;ext zT hn;exact bi p hp rfl tS
 have g:GvF lens names (fun n=>(so n).getD vC):=by
  show(cR,BK,bJ a ha b hb z)
  .obtain ⟨p,_,_,e1⟩:63:=h1 n hn;show(Ah,(so n).getD vC∈_,e1,fit.mt.rm _ _ e1)
  .obtain ⟨p,_,_,e1⟩:63:=h1 a ha;obtain⟨p',_,_,e2⟩:63:=h1 b hb;have z:(so a).getD vC=(so b).getD vC:=z;rw[e1,e2] at z;have z:bW=p'.2:=z;rw[z] at e1;exact fit.mt.inj e1 e2
 have c:xc5 lens names (fun n=>(so n).getD vC)=Ev:=by
  unfold xc5 xcb;rw[<- e,Zw];refine X7 iZ;show (xco (lens bH) ((so bH).getD vC)).getD 0=lenP lens p;rw[tS];rfl
 show(dc,⟨dI g c,am f2 g2⟩,tight,bi _ g c BK)
 .obtain ⟨y1,y2⟩:=g2.prs nnd;rw[tight,<- y2];exact fit.dual lo y1
 .obtain ⟨p,hp,_,e1⟩:63:=h1 n hn;show (so n).getD vC∈_;ext Lf e1 BV
theorem xcx.le_of (a:IL T) (b:xcx lens' names' T') (h:∀ f,AK->∃ g,GvF lens' names' g/\xc5 lens' names' g<=DS):T'<=T:=by
 show(af,f,g,e,a.has)
 show(af,f',g',le,h f g);show(db,b.le f' g')
#check _
section
variable {w:Nat}{h:Int}{ps ps':List Pt}{srt srt':List Seat}{names names':List Str}{f:Str->Seat}{T T':Int}
theorem xm3 (nd:(ps.map (·.nm)).Nodup) {p:Pt} (hp:ub):x8 w ps srt p.nm=(DH).map fun s=>(s,Av):=by
 unfold x8;rw[xfg nd hp]
theorem xhh (nd:(ps.map (·.nm)).Nodup) {p:Pt} (hp:ub) {s:Seat}:s∈xal jt p.nm↔s∈srt/\Lk=true:=by
 rw[xer];unfold xaz;show(aB,xfg nd hp,ZC)
theorem xup (nd:(ps.map (·.nm)).Nodup) {p:Pt} (hp:ub) {s:Seat} (hs:s∈xal jt p.nm):(xco (x8 w ps srt p.nm) s).getD 0=Av:=by
 obtain⟨l,hl⟩:=xea hs;have:=xgl hl;rw[xm3 nd hp] at this;show(BH,s',e,Ze.mp this);show(ae,e1,(Qi.inj e).1,e2,(Qi.inj e).2);rw[hl,<- e2,e1];rfl
#check _
theorem xag.keys {H:Hp}{ss:aj}{rs:ao} (h:IA):∃ ts:Ez,ts.map (·.2)=rs/\ts.map (·.1)=Ku/\∀ t∈ts,(ax t.2 (.tup (t.1.map kV))):=by
 induction h with
 | nil=>exact(kg,[],rfl,fun t ht=>(nomatch ht))
 | @cons s q ss qs h _ ih =>
  ext bF ts h1 h2 h3 ih;refine(bi,(iy,q)::ts,cM h1,cM h2,Kn);rcases dU ht with z|z
  .ext bI z h
  .exact h3 t z
theorem xmc {H:Hp}{m:Addr}{s2:aj}{rs:ao}{Q:VK} (hm:Nr m) (sts:xag H s2 rs) (nd:s2.Nodup) (len2:s2.length<=32)
    (q:∀(l:Addr) (srt:aj) (qs:ao),(bg,jD,xag H srt qs,srt.Perm s2,DQ,Q bQ (d4 l G7))):xkr [.ref m] H Q:=by
  show(bF,ts,e1,e2,e3,sts.keys)
  have lts:ts.length=s2.length:=by
    show(wz,vz e2)
  show(mJ,m,ts,[false,true],rfl,⟨47,?_,aa,e3,Kn,ap,?_,bJ l4 ts4 fr4 pm4 pw4⟩)
  . rw[hm,<- e1,Zw]
    rfl
  . show(BH,s,e,Ze.mp (zhS (b5 t ht)))
    rw[<- e];rfl
  . show(aB,e2,xqq (dh,a,b,xdf e) nd)
  . have back:∀ t∈ts4,zol:=fun t ht=>by
      show(BH,s,e,Ze.mp (zhS (b5,t,pm4.mem_iff.mp ht)));rw[<- e,xfw]
    have ep:((ts4.map (·.1)).map unK).Perm s2:=by
      have z:=(pm4.map (·.1)).map unK;have e4:(ts.map (·.1)).map unK=s2:=by
        rw[e2,Zw,zkT];exact YB _
      ext bO e4 z z
    have epw:((ts4.map (·.1)).map unK).Pairwise xb9:=by
      rw[Ja] at pw4;rw[Zw,Ja];refine pw4.imp_of_mem fun {x y} hx hy hxy=>xlx ?_;show lexK (xt (unK aN)) (xt (unK y.1))=true;show(cY,back x hx,back y hy,hxy)
    have st4:xag H ((ts4.map (·.1)).map unK) (ts4.map (·.2)):=by
      show(bo,tm,∀ t∈ts4,(ax t.2 (.tup (t.1.map kV))),t,ht,e3 t (pm4.mem_iff.mp ht));clear pm4 pw4 ep epw
      induction ts4 with
      | nil=>ext gW
      | cons t ts ih =>
        show(zhl,(pE,back x zh),(pE,tm x zh))
    have z:=q l4 _ _ fr4 st4 ep epw;ext bO Zw z z
noncomputable def strP (cs rs:bK) (p:Pt):Pt:=⟨p.nm,pk p.x,pA p.y,p.sd,pA p.lo,pA p.hi⟩
noncomputable def strS (rs:bK) (s:Seat):Seat:=(s.1,FL)
structure Stre (w h w' h':Nat) (cs rs:bK) (dbl:Bool):Prop where
 mc:Geo.Marks cs w dbl
 mr:Geo.Marks rs h dbl
 ew:b6=(pk dP)+Rq
 eh:j5=(pA im)
section
variable {w h w' h':Nat}{cs rs:List Int}{dbl:Bool}
theorem Stre.col (y:Stre w h w' h' cs rs dbl) {x:Int} (x1:1<=x) (x2:x<=w):1<=(pk x)/\(pk x)<=w':=by
 have a:=(y.mc.bd (a:=x) aa x2).1;show(ae,b,(y.mc.mono.le (a:=x) (b:=dP) aa x2 aa aa).mpr x2,e,y.ew);split at e<;>omega
theorem Stre.row (y:Stre w h w' h' cs rs dbl) {x:Int} (x1:1<=x) (x2:x<=h):1<=(pA x)/\(pA x)<=h':=by
 have a:=(y.mr.bd (a:=x) aa x2).1;show(ae,b,(y.mr.mono.le (a:=x) (b:=im) aa x2 aa aa).mpr x2,e,y.eh);omega
theorem Stre.pt (y:Stre w h w' h' cs rs dbl) {p:Pt} (o:zde):PtOk b6 j5 Ig:=by
 have l1:=o.l1;show(ae,l2,o.l2,l3,o.l3);exact⟨o.nm,(y.col o.x1 o.x2).1,(y.col o.x1 o.x2).2,(y.row o.y1 o.y2).1,(y.row o.y1 o.y2).2,o.sd,(y.row o.l1 aa).1,(zdq aa aa).mpr o.l2,(y.row aa o.l3).2⟩
theorem xor {α β:Type}{f:α->β}{g:β->β}{ps:b7} (nd:(ps.map f).Nodup) (inj:∀ a∈ps,∀ b∈ps,g (f a)=g (f b)->f a=f b):(RR,g (f p)).Nodup:=by
 rw[YA,Ja] at nd ⊢;exact nd.imp_of_mem (fH,ha,hb,ne,ne (inj _ ha _ hb e))
theorem Stre.pts (y:Stre w h w' h' cs rs dbl) {ps:aw} (o:gc):xa8 b6 j5 (ps.map Ke):=by
 show(mJ,iZ,?_,?_,?_,gE o.le)
 .ext sT q hq hp;exact y.pt (o.ok q hq)
 .show(bI,Zw,o.nn)
 .show(bI,Zw,xor (f:=fun p:Pt=>p.x) (g:=Geo.mrk cs) o.nx fun a ha b hb e=>(y.mc.mono.inj (d7,(S3).x1) (S3).x2 (d7,(Tb).x1) (Tb).x2).mp e)
 .show(bI,Zw,xor (f:=fun p:Pt=>p.y) (g:=Geo.mrk rs) o.ny fun a ha b hb e=>(y.mr.mono.inj (d7,(S3).y1) (S3).y2 (d7,(Tb).y1) (Tb).y2).mp e)
theorem Stre.want (y:Stre w h w' h' cs rs dbl) {p:Pt} (o:zde) {s:Seat} (s1:1<=dS) (s2:dS<=h):xa1 Ig (strS rs s)=Lk:=by
 have l1:=o.l1;show(ae,l2,o.l2,l3,o.l3);unfold xa1;show (_&&((cJ ((pA p.lo)<=FL))&&(cJ (FL<=(pA p.hi)))))=_;rw[zos (pA p.lo) FL (cJ (p.lo<=dS)) (zdq aa s2),zos FL (pA p.hi) (cJ (dS<=p.hi)) (zdq s2 l3)];rfl
theorem Stre.inj (y:Stre w h w' h' cs rs dbl) {s t:Seat} (s1:1<=dS) (s2:dS<=h) (t1:1<=t.2) (t2:t.2<=h) (e:strS rs s=strS rs t):s=t:=by
 ext vK i s;ext FY j t;show(ae,e1,(Qi.inj e).1,e2,(y.mr.mono.inj aa s2 aa t2).mp (Qi.inj e).2);exact Prod.ext e1 e2
theorem Stre.ss (y:Stre w h w' h' cs rs dbl) {ss:aj} (o:sU):SsOk j5 (ss.map (strS rs)):=by
 show(dc,?_,(gE,aW o),yO)
 .rw [YA,Ja];exact o.1.imp_of_mem (fH,ha,hb,ne,ne (y.inj (o.2.2 _ ha).1 (o.2.2 _ ha).2 (o.2.2 _ hb).1 (o.2.2 _ hb).2 e))
 .ext sT t ht hs;exact y.row (o.2.2 t ht).1 (o.2.2 t ht).2
theorem Stre.lt (y:Stre w h w' h' cs rs dbl) {srt:aj} (b:Ds im) (l:DQ):(xQ).Pairwise xb9:=by
 rw[Ja];refine l.imp_of_mem fun {s t} hs ht k=>?_;rcases k with k|⟨k1,k2⟩
 .ext cH k
 .show(jy,k1,y.mr.mono _ _ (d7 SE) k2 (b t ht).2)
theorem Stre.room (y:Stre w h w' h' cs rs dbl) {ps:aw} (o:gc) {srt:aj} (b:Ds im) (n:Str):xaz Xv xQ n=(zcY).map (strS rs):=by
 unfold xaz;rw[List.find?_map];show (match zhy with|some p=>(xQ).filter (xa1 p)|none=>[])=_;cases e:zla with
 | none=>rfl
 | some p =>
  have op:=o.ok p (Zy e);show (xQ).filter (xa1 (strP cs rs p))=(DH).map (strS rs);rw[QY];refine congrArg _ (YX yO);exact y.want op SE (b s hs).2
theorem xrm {room room':fj}{ss:aj}{φ:Seat->Seat} (e:∀ n,room' n=(room n).map φ) (sub:GO) (inj:zhh) (ns:ai):xdx room' (ss.map φ) ns=zbT:=by
 have tg:∀(T:ai),∀ s∈ss,Kp.tog room' T (φ s)=Kp.tog room T s:=fun T s hs=>by
  unfold Kp.tog;refine congrArg (fun f=>T.any f) (funext (lB,decide_eq_decide.mpr ?_));rw[e];show(cR,bZ k,zoq);ext pG t ht et k;show(ja,inj t (sub n t ht) s hs et,ht)
 have ok:∀ keep nm,okP room' (ss.map φ) keep nm=okP room ss keep nm:=fun keep nm=>by
  unfold okP;refine congrArg (fun f=>(zpR).all f) (funext (bZ S));rw[List.countP_map];rw[List.countP_congr (l:=ss) (p:=Kp.tog room' (nm::S)∘φ) (q:=zqK) fun s hs=>by
   show Kp.tog room' (nm::S) (φ s)=true↔_;rw[tg _ s hs]]
 unfold xdx;have st:xdd room' (ss.map φ)=xdd room ss:=funext fun keep=>funext fun nm=>by
  unfold xdd;rw[ok]
 rw[st]
theorem xit (ps:aw):xah Xv=xah ps:=by
 unfold xah;rw[Zw];rfl
theorem xfk {ps:aw}{srt:aj} (n:Str) (s:Seat) (k:s∈zcY):s∈srt:=by
 unfold xaz at k;split at k
 .exact (ZC.mp k).1
 .exact nomatch k
theorem Stre.kept (y:Stre w h w' h' cs rs dbl) {ps:aw} (o:gc) {srt:aj} (b:Ds im) (lt:DQ) {so so':bq}{ho ho':aD}{c c':c7} (r:pR sX ue c) (r':Run (xaz (ps.map Ke) xQ) (xah (ps.map Ke)) so' ho' c'):xao (xah (ps.map Ke)) c'=xao (xah ps) c:=by
 show(ae,nd,xhj lt,nd',xhj (y.lt b lt));rw[r.keeps nd xfk o.nn,r'.keeps nd' xfk (y.pts o).nn,xit];exact xrm (y.room o b) xfk (fun s hs t ht e=>y.inj SE (b s hs).2 (b t ht).1 (b t ht).2 e) _
#check _
theorem xt6 {w w':Int}{x y r:Int}{b:Bool} (e:w'=2*w+1):lenI w' (2*x) (2*y) b (2*r)=2*lenI w x y b r:=by
 unfold lenI;cases b<;>simp<;>omega
section
variable {w h w' h':Nat}{cs rs:List Int}
theorem Stre.two (y:Stre w h w' h' cs rs true):b6=2*w+1:=by
 have e:=y.ew;rw[cp,y.mc.two aa aa] at e;exact e
theorem Stre.len (y:Stre w h w' h' cs rs true) {p:Pt} (o:zde) {s:Seat} (s1:1<=dS) (s2:dS<=h):zje=2*Av:=by
 show lenI b6 (pk p.x) (pA p.y) s.1 FL=_;show(ae,x1,o.x1,y1,o.y1);rw[y.mc.two aa o.x2,y.mr.two aa o.y2,y.mr.two aa s2];exact xt6 y.two
theorem Stre.lens (y:Stre w h w' h' cs rs true) {ps:aw} (o:gc) {srt:aj} (b:Ds im) (n:Str):x8 w' Xv xQ n=(x8 w ps srt n).map fun x=>(strS rs aN,2*cU):=by
 unfold x8;rw[List.find?_map];show (match zhy with|some p=>((xQ).filter (xa1 p)).map fun s:Seat=>(s,lenI b6 p.x p.y s.1 dS)|none=>[])=_;cases e:zla with
 | none=>rfl
 | some p =>
  have op:=o.ok p (Zy e);show ((xQ).filter (xa1 Ig)).map _=((DH).map _).map _;rw[QY,Zw,Zw];have ef:srt.filter (xa1 (strP cs rs p)∘strS rs)=DH:=YX (me,y.want op SE (b s hs).2);rw[ef];refine JD yO;have ms:=(ZC.mp hs).1;show (Ti,zje)=(Ti,2*Av)
  rw[y.len op (b s ms).1 (b s ms).2]
#check _
theorem xcx.one {lens:cD}{names:ai}{T T':Int} (a:IL T) (b:IL T'):T=T':=by
 show(CV,a.le_of b znL,b.le_of a znL)
 omega
theorem xi2 {α:Type}{f g:vP}:(zmJ,2*g a,2*Rc)
 | [],_=>rfl
 | a::l,h=>by
  rw[Zo,Zo,Jc,Jc,h a Zn,xi2 (pE,h x zh)];omega
theorem xjr {φ:Seat->Seat}:∀{xs:uQ}{s:Seat},(∀ x∈xs,φ aN=φ s->aN=s)->xco (xs.map (jr (φ aN,2*cU))) (φ s)=(xco xs s).map (2*·)
 | [],_,_=>rfl
 | pY,s,h=>by
  have ih:=xjr (φ:=φ) (xs:=xs) (s:=s) (re,h z (Zj _ hz));unfold xco at ih ⊢;rw[Zo,Yl,Yl];by_cases z:aN=s
  .simp [z]
  .have z':¬ φ aN=φ s:=fun e=>z (h x Zn e);simp only[z,z',decide_false];exact ih
theorem xcx.dbl {lens lens':cD}{names:ai}{T:Int}{φ:Seat->Seat}{ss:aj} (e:∀ n,lens' n=(wu).map fun x=>(φ aN,2*cU)) (sub:DR) (inj:zhh) (a:IL T):xcx lens' names (2*T):=by
 have rm:∀ n,xal lens' n=(yC).map φ:=fun n=>by
  unfold xal;rw[e,Zw,Zw];rfl
 have la:(wM,s∈yC,(xco (lens' n) (φ s)).getD 0=2*(xco (lens n) s).getD 0):=fun n s hs=>by
  rw[e,xjr fun x hx k=>inj aN (sub n aN (Ze.mpr Kq)) s (sub n s hs) k];obtain⟨l,hl⟩:=xea hs;rw[hl];rfl
 show(bo,co,∀ f,AK->zkX=2*DS,f,g,xi2 (zt,la n (f n) (g.rm n hn)));constructor
 .show(eE,f,g,c,a.has)
  show(fE,(lB,φ (f n)),⟨(zt,by rw[rm]; exact Ze.mpr (b5,f n,g.rm n hn)),fun x hx z hz k=>g.inj x hx z hz (inj _ (sub x _ (g.rm x hx)) _ (sub z _ (g.rm z hz)) k)⟩);rw[co f g,c]
 .intro g hg
  have ex:∀ n,∃ s,S5->s∈yC/\φ s=g n:=fun n=>by
   by_cases k:S5
   .show(Fn,hg.rm n k,rm);ext pG s hs es z;show(aO,s,fun _=>⟨hs,es⟩)
   .exact ⟨vC,(aC,absurd z k)⟩
  let f:Te:=(lB,Classical.choose (ex n))
  show(bo,hf,∀ n∈names,f n∈yC/\φ (f n)=g n,n,hn,Classical.choose_spec (ex n) hn);have gf:AK:=⟨(zt,(hf n hn).1),fun x hx z hz k=>hg.inj x hx z hz (by rw[<- (hf x hx).2,<- (hf z hz).2,k])⟩
  show(ae,c1,a.le f gf,c2,co f gf);have c3:zkX=xc5 lens' names g:=congrArg List.sum (JD fun n hn=>by
   show (xco (lens' n) (φ (f n))).getD 0=_;rw[(hf n hn).2])
  omega
noncomputable def MayA (srt:aj) (prs:aG):Prop:=∀ p∈prs,bW∈srt/\xa1 aK bW=true
theorem xo1 {ps:aw}{w h:Int}{ss:aj}{prs:aG} (nx:(ps.map (·.x)).Nodup) (g:D8) (m:MayA ss prs):∀ k,MayA ss sC
 | 0=>m
 | dk=>by
  show(ae,ih,xo1 nx g m k,gk,Xy);show MayA ss Bg;generalize sC=cur at *;unfold nxtP;split
  .rename_i tr ht
   obtain⟨A,p1,B,p2,⟨C,c,e,cn,et⟩⟩:121:=xi4 (List.mem_of_head? ht);ext Vr cur
   have ex:excB ss p1 p2=true:=by
    unfold canO at cn;split at cn
    .ext d8
    .cases cn
   unfold excB mayB at ex;obtain⟨x1,x2⟩:=ZM _ _▸ex;obtain⟨x3,x4⟩:=ZM _ _▸x1;obtain⟨x5,x6⟩:=ZM _ _▸x2;subst et;have f1:cur.find? (nmF i8)=some p1:=xg2 gk.nn m1;have f2:cur.find? (nmF i9)=some p2:=xg2 gk.nn m2;simp only[f1,f2];rw[(xqg gk.nn e).1];ext C8;have mm:p∈A\/p=II\/p∈B\/p=IJ\/p∈C:=zat
   rcases mm with k|k|k|k|k
   .ext W3
   .rw [k];show(aO,AU x3,x4)
   .ext W3
   .rw [k];show(aO,AU x5,x6)
   .ext W3
  .exact ih
theorem xjb {w:Nat}{h:Int}{ps:aw}{srt:aj}{prs:aG} (nd:(ps.map (·.nm)).Nodup) (ok:xI dP h) (m:Rx):xcb jt prs=yy:=by
 unfold xcb totI;refine X7 iZ;have mp:=Zy (ok p hp).fd;unfold lenP;rw[xup nd mp ((xhh nd mp).mpr (m p hp))];rfl
inductive xw2 (t:Adr) (vs:ag) (H:Hp) (Q:VK) (_:XK):Prop
 | mk (a dp do_:Addr) (w h:Nat) (ps:aw) (ss srt:aj) (e_:vs=fF) (r_:(au,Dr t H a dp do_ w h ps ss srt,gc,rH,rJ,∀ H' tp ln T cs so ho,(zr,cL,(HF tp [.ref ln,.int T]),zcA,xcx jt sy T,tp)))
theorem xng {ps:aw}{cs:c7}:∀ nm∈sy,Xp:=fun nm hn=>by
 show(af,p,hp,e,Ze.mp (ZC.mp hn).1);ext aE p hp e
theorem xj0 {room:fj}{ns:ai}{so:bq}{ho:aD}{cs:c7} (r:sw) (nd:ns.Nodup):∀ z∈BJ,(gM (so z)):=fun z hz=>by
 have hz2:=ZC.mp hz;rw[r.dom nd,decide_eq_true hz2.1,JH];exact hz2.2
theorem xjl {w h:Nat}{ps:aw}{ss srt:aj}{names:ai}{prs:aG}{own:bN}{rent:bG}{so:bq}{ho:aD} (pok:gc) (sok:sU) (pm:Iy) (en:prs.map (·.1.nm)=names) (nnd:names.Nodup) (n12:uI) (al:zlT) (run:LRun jt names own rent so ho):OJ/\Rx:=by
 have mt:=run.fit.mt;have my:Rx:=fun p hp=>by
  obtain⟨a1,a2⟩:=tS;exact (xhh pok.nn a1).mp (mt.rm _ _ a2)
 refine⟨⟨iZ,av en nnd,?_,?_⟩,my⟩
 .obtain ⟨a1,a2⟩:=tS;show(ae,o,zX a1,b,(rK).2 bW (pm.mem_iff.mp (my p hp).1));exact⟨o.nm,xfg pok.nn a1,b.1,b.2,bR o.x1 o.x2 o.y1 o.y2⟩
 .rw [<- en] at nnd;rw[YA,Ja] at nnd ⊢;exact nnd.imp_of_mem (Py,ne,ne (mt.inj (s:=b.2) (e▸(al a ha).2) (al b hb).2))
 .show(ve,vz en,Za);omega
theorem xj5 (T:aX):FnOk true P w K mg base aU 10 t.f_answer t.d_answer mZ (xw2 t):=by
 refine T.F_answer.okn (k:=9) xde (aY h) (fun cdv A outer s H vs Q E hr h=>?_)
 .obtain ⟨a,dp,do_,w',h',ps,ss,srt,rfl,_⟩:=h;rfl
 .obtain ⟨a,dp,do_,w',h',ps,ss,srt,rfl,h⟩:=h;refine⟨_,xh (OB (pC (xkw T) hr T.g_least T.F_least.kp T.b_least (fM 0 (pC (xix T) hr T.g_kept T.F_kept.kp T.b_kept pQ))) 1 xde.nd (gK 2 xde.nd 3))
   (xh (Kk (pC (xk4 T) hr T.g_uncrossed T.F_uncrossed.kp T.b_uncrossed B5) (gK 4 xde.nd 5))
   (BC (fM 4 (pC (xft T) hr T.g_total T.F_total.kp T.b_total (fT 0 4))))),?_⟩
  refine sq3 ?_; intros; obtain⟨dr,pok,w30,h16,q⟩:45:=h;show(ay,nnd,(ue).Nodup,pok.nn,⟨a,dp,do_,w',h',ps,ss,srt,rfl,dr,nnd,fun H1 l1 cs so ho s1 f1 e1 run=>?_⟩);ext ziZ sy;have kl:KI sy:=by
   ext zmS
  refine⟨a,l1,dp,do_,w',h',ps,ss,srt,sy,rfl,⟨47,dr1,pok,e1,xng,knd,kl,⟨(bw,so,ho,run.mt,xj0 run nnd),fun H2 tp lp d_o d_r qs prs own rent so' ho' s2 htp hlp pl en al ow rn run2 _ _ _ _=>?_⟩⟩⟩;refine eD tp htp;have dr2:=dr1.same s2;obtain⟨gp,my⟩:=xjl pok dr.ok dr.pm en knd kl al run2;show(ay,mys,MayA ss prs,eF ⟨dr.pm.mem_iff.mp (my p hp).1,(my p hp).2⟩,⟨a,dp,do_,lp,w',h',ps,ss,prs,qs,rfl,⟨47,dr2.pic,dr2.sts,hlp,pl,gp,pok.nx,fun H3 tp3 ln ls n qs3 sq s3 f3 g3 e3 pr3 est stl ne okk cn nls=>?_⟩⟩);refine eD tp3 g3;have dr3:=dr2.same s3;refine⟨a,dp,do_,ln,w',h',ps,_,qs3,rfl,⟨46,dr3.pic,e3,pr3,(okk n).ok,(okk n).le,am H4 s4⟩⟩;ext kB qt hqt;have lo:=zlD;show(fO,k1,k2,k3,xnc (ss:=ss) pok.nx gp n);have myk:=xo1 pok.nx gp mys n;show(bo,mykr,MayA srt Hr,p,hp,⟨dr.pm.mem_iff.mpr (myk p hp).1,(myk p hp).2⟩)
  have enk:(Hr).map (·.1.nm)=sy:=by
   rw[<- en];have z:=congrArg (List.map fun p:Pt=>p.nm) k1;ext tu Zw Zw
  have gv:gvL RE sy Hr=true:=xgs.mpr ⟨enk,k2.nodup_iff.mpr gp.ns,(eF,(xhh pok.nn (Zy ((okk n).ok p hp).fd)).mpr (mykr p hp))⟩;have dual:=run2.fit.dual lo gv;show(La,lf,tight,run2.fit.leastF lo knd en (eF,(tS).2));rw[xjb pok.nn (okk n).ok mykr] at dual;rw[xjb pok.nn gp.ok my] at lf tight;have et:totI w' Hr=totI w' prs:=aa
  refine q _ qt ln (totI w' Hr) cs so ho (((mX).trans s3).trans (s4.trans (cO hqt))) xj run ?_;ext aB et lf
theorem xuq {a b:Str × IE}:DV.tup zkV=DV.tup (Cd,.str b.1,aW b,bS b)↔a=b:=by
 constructor
 .intro h
  ext zfZ;exact Prod.ext h.1 (Prod.ext (xe3 (aW h)) (bS h))
 .intro h
  rw[h]
noncomputable def k3D (a:Str × IE):DV:=.tup zkV
theorem xu0 (prs:aG) (a:Str × IE):(prs.map prD).any (aC,dEq z (k3D a))=(ld,a,prs.map fun p=>(bH,bW)):=by
 ext OR
 .ext qI z hz e;ext zT hz;have e:dEq (k3D (bH,bW)) (k3D a)=true:=e;unfold k3D at e;rw[xgu rfl rfl xuq,decide_eq_true_iff] at e;exact Ze.mpr ⟨p,hp,e⟩
 .intro h
  ext zT h;exact(dI,vw,xcf _)
inductive xtc (t:Adr) (vs:ag) (H:Hp) (Q:VK) (_:XK):Prop
 | mk (a ln lp d_o d_r dp do_:Addr) (w h:Nat) (ps:aw) (st srt:aj) (names:ai) (prs:aG) (qs:ao) (own:bN) (rent:bG) (e_:vs=[aA,.ref ln,.ref lp,.ref d_o,.ref d_r]) (r_:Dr t H a dp do_ w h ps st srt/\Gz/\Vu/\uP/\OJ/\Rx/\prs.map (·.1.nm)=names/\zqq/\RnD H d_r srt rent/\(∀ s∈srt,zN<=0/\(s∉prs.map (·.2)->rent s=0))/\(∀ p∈prs,∀ s∈srt,xa1 aK s=true->CD+zN<=lenI dP kE ou s.1 dS)/\(∀ p∈prs,CD+rent bW=xa9 dP p)/\(y8 yP))
theorem xrz (T:aX):FnOk true P w K mg base aU 7 t.f_fault t.d_fault UN (xtc t):=by
 refine T.F_fault.okn (k:=6) xcp (aY h) (fun cdv A outer s H vs Q E hr h=>?_)
 .obtain ⟨a,ln,lp,d_o,d_r,dp,do_,w',h',ps,st,srt,names,prs,qs,own,rent,rfl,_⟩:=h;rfl
 .obtain ⟨a,ln,lp,d_o,d_r,dp,do_,w',h',ps,st,srt,names,prs,qs,own,rent,rfl,h⟩:=h;refine⟨_,xh (xan (v0 (pC (ok_ax T) hr T.g_ax T.F_ax.kp T.b_ax (eS 0 1 2))) (BC (xa (xbu) (xi))) (x9))
   (xh (xb6 rfl (xas (zs:=GM) (ys:=[]) (fr:=[]) (N0:=["picture", "names", "pairs", "own", "rent", "taken", "side", "row", "price", "name", "together", "length"]) (sc0:=xl xg7) aP rfl rfl rfl) F8 wR xU eB (mR B4) (j:=5) rfl pH)
   (xh (xa5 ZA rfl (xab (xbi bD T.c_a T.m_q (ok_q T) aZ T.b_q .nil xp)) (xaq rfl (xo (pN 6 xcp.nd) (xo (pN 7 xcp.nd) (xaf)))) (xh (pS 8 xcp.nd zpd)
   (zjL (pj xkj 8 (xm)) (xfh (pj xir 8 (xm)) (xeg (xac (xgb (xb1 hr)) (xad (fT 6 7)) on nR))) (fT 6 7))))
   (xh (xa5 ZA rfl uc (pN 9 xcp.nd) (xk (xa5 ZA rfl (xab (xae bD T.c_a T.m_h (ok_h T) aZ T.b_h .nil xp (jj 9))) (xaq rfl (xo (pN 6 xcp.nd) (xo (pN 7 xcp.nd) (xaf)))) (xh (pS 10 xcp.nd (xr xa3 (yt 3 (pv 9)) zpd))
   (xh (pS 11 xcp.nd (xae bD T.c_a T.m_n (ok_n T) aZ T.b_n .nil xp (eS 9 6 7)))
   (zjL (pj xkj 10 wI) (xfh (pj xir 10 wI) (xeg (xac (xo9 (xb1 hr)) (xad (eS 9 6 7)) iw nR))) (eS 9 6 7)))))))
   (dH (xb4))))),?_⟩
  refine sq5 ?_; intros; ext Ej; obtain⟨dr,hln,hlp,pl,gp,my,⟨en,ow,rn,r0,le,eqp,q⟩⟩:47:=h;show(ae,p12,gp.le,qll,pl.len);show(ae,sok,dr.ok,s32,T5);have gvt:gvB srt names prs=true:=by
   unfold gvB;rw[uU en,uU (show (EI).Nodup from gp.ns),JH,JH,Ys];ext C8;show(cY,uU (show prS p∈srt from (my p hp).1),JH,(my p hp).2)
  refine⟨a,ln,lp,dp,do_,w',h',ps,st,srt,names,prs,qs,rfl,⟨47,dr,hln,hlp,pl,gp.le,eF (bR,(E2).nm,(E2).fd,(E2).r1,(E2).r2),fun H1 s1=>(c9,ifN (yx gvt) ?_)⟩⟩;show(ae,hlp1,jM hlp,pl1,OX s1);show(oO,lp,hlp1,lt,hlt,xba (aV hlp1) lF hlt (fun j y H5=>∃ q p,(aR,y,cu,b9 prs p,H5 q=some (.tup (xar bW)))) (fun j y H5 H6 tp ⟨q,s,e1,e2,e3⟩=>Nt) (fun j x H5 hx s5 N hN=>?_) (fun ys H2 s2 e2 ly fy=>?_))
  .ext qS;show(af,p,hp,hq,pl1.get hqa);exact(Ki,qa,RH,ng,Mz p)
  ext mN; ext wy qll;obtain⟨rs2,rfl,st2⟩:62:=xag.pick (H:=H2) (ss:=prs.map (·.2)) (ys:=ys) (cK ly Za) (fun j y p hy hp=>by
   obtain⟨q,s,e1,e2,e3⟩:83:=fy j y hy;ext VL)
  have s02:=s1.trans s2;show(ae,dr2,dr.same s02,pic2,dr2.pic);show(Il,pic2,⟨a,dx,_,rfl,hpi,bL,a,dp,do_,_,_,_,_,rfl,pic2,dr2.sts,fun l3 ss3 us3 hl3 sl3 pm3 lt3=>?_⟩);show(cQ,ss3=srt,xbz xck (pm3.trans dr.pm.symm) lt3 dr.lt);generalize eu:upd H2 l3 (.lst (us3.map V.ref))=H3;ext CY s3 hl3;show(ae,g3,ug_e eu,s03,s02.trans s3);ext zL l3 g3
  show(MM,∃(v6 v7 v8:bP),Z=[cP,Cq,vV,Fx,Fw,aT lt,v6,v7,v8,none,none,none]/\Same H3 H5)
  show(wX,us3.map V.ref,dD 102 _ _ jV)
  .rintro i Z H5 _ (⟨_,_,_,rfl,s5⟩:102);show(wA,dZ g3)
  .rintro i x Z H5 hx (⟨v6,v7,v8,rfl,s5⟩:102);ext sQ;ext Sf;show(NH,b,sl3.get hqa);show(ae,ms,Zm hs,s35,s3.trans s5);refine eD qa (s35 _ _ hsq);ext AT; ext kB kp hkp;show(GR,Gq H5 kp,hkp);have g6:H6 kp=some (.tup (xar jf)):=g6;have s06:=(Ib).trans s6;show(rV,d_r,_,RnD.get (s06 _ _ rn) ms g6,?_);ext GI; obtain⟨z1,z2⟩:=r0 jf ms;show(zjK,aa,dD 102 _ _ Bp);ext kB k2 hk2;show(GS,Gq H6 k2,hk2);have g7:H7 k2=some (.tup (xar jf)):=g7;have s27:=(s35.trans s6).trans s7;refine⟨1,2,xcm jf,_,xg1 g7,(kS,(st2.keep (Same.tups s27)).dv (s27 _ _ e2),(c9,ifN ?_ (dD,102,_,_,(Bp).trans s7)))⟩;rw[cp,xep];by_cases k:jf∈prs.map (·.2)
   .rw [decide_eq_true k];rfl
   .rw [z2 k] at c;ext dy c ap
  rintro Z H5 (⟨v6,v7,v8,rfl,s5⟩:102);ext M0; have s05:=s03.trans s5;show(zL,ln,s05 _ _ hln)
  show(MN,∃(v6 v7 v9 v10 v11:bP),Z=[cP,Cq,vV,Fx,Fw,aT lt,v6,v7,v8,v9,v10,v11]/\Same H5 H6)
  show(zcS,(jw,c9 jV))
  .rintro i Z H6 _ (⟨_,_,_,_,⟨_,rfl,s6⟩⟩:121);show(wA,s6 _ _ (s05 _ _ hln))
  .rintro i x Z H6 hx (⟨v6,v7,v9,v10,⟨v11,rfl,s6⟩⟩:121);ext zpq; ext sQ;ext EF;have mn:=Zm hnm;obtain⟨p,hp,rfl⟩:∃ p∈prs,bH=nm:=by
    rw[<- en] at mn;exact Ze.mp mn
   have okp:=E2;show(ae,s06,s05.trans s6,dr6,dr.same s06);refine⟨a,dx,_,rfl,(s3.trans Bp) _ _ hpi,bL,a,dp,do_,_,_,ps,st,aK,rfl,dr6.pic,dr6.sts,sok,okp.nm,okp.fd,fun H7 l7 srt7 rs7 s7 fl7 pm7 lt7 e7 sl7=>oX l7 e7 ?_⟩;show(cQ,srt7=ss3,xbz xck (pm7.trans dr.pm.symm) lt7 dr.lt)
   let Pv (i:Nat) (Z:L2.St) (H8:Hp):Prop:=∃(v6 v7 v10 v11:bP),Z=[cP,Cq,vV,Fx,Fw,aT lt,v6,v7,v8,some pD,v10,v11]/\Same H7 H8
   show(wX,rs7.map V.ref,⟨122,_,_,_,_,rfl,jV⟩)
   .rintro i Z H8 _ (⟨_,_,_,_,rfl,s8⟩:122);show(wA,s8 _ _ e7)
   .rintro i x Z H8 hx (⟨v6,v7,v10,v11,rfl,s8⟩:122);ext sQ;ext Sf;show(NH,b,sl7.get hqa);obtain⟨ms,wn⟩:=ZC.mp (Zm hs);show(ae,br,(rK).2 _ (dr.pm.mem_iff.mp ms),s08,(s06.trans s7).trans s8);refine eD qa (s8 _ _ hsq);ext AS; refine⟨d_o,_,rfl,OwD.get (s08 _ _ ow) mn,ng,am kp hkp⟩;generalize eu:Gq H8 kp=H9;ext fJ s9 hkp g9;have g9:H9 kp=some (.tup (xar jf)):=g9;have s09:=s08.trans s9;show(rV,d_r,_,RnD.get (s09 _ _ rn) ms g9,?_);have dr9:=dr.same s09;refine⟨a,dx,_,rfl,(s3.trans ((Bp).trans ((zee).trans s9))) _ _ hpi,bL,a,dp,do_,_,_,ps,bH,aK,b,r,rfl,dr9.pic,okp.nm,okp.fd,br.1,br.2,am H10 s10⟩;ext GI; have lep:=le p hp jf ms wn;show(zjK,(by have z:CD+rent jf<=lenI b6 kE ou b r:=lep; omega),⟨122,_,_,_,_,rfl,(s8.trans s9).trans s10⟩);ext rD leS3 k3 hk3;generalize eu:nE H10 k3 [pD,rA,.int r]=H11;ext CY s11 hk3;show(ae,g11,ug_e eu,s011,(s09.trans s10).trans s11);refine⟨1,2,k3D (bH,b,r),_,.tup (eA g11) rfl (xk9 (xs:=[pD,rA,.int r]) rfl),(kS,(OX s011).dv (s011 _ _ hlp),(c9,ifN ?_ ⟨122,_,_,_,_,rfl,((s8.trans s9).trans s10).trans s11⟩))⟩;rw[aM Z4,xu0];refine decide_eq_false (bZ k);ext pG p' hp' e' k;have en':=(Qi.inj e').1;show(ae,es',(Qi.inj e').2,ee,eqp p' hp');have e1:p'.1=aK:=by
     have z:=(gp.ok p' hp').fd;rw[en',okp.fd] at z;exact (ZE.inj z).symm
    have e2:CD+rent jf=lenI b6 kE ou b r:=by
     unfold xa9 at ee;rw[e1,es'] at ee;exact ee
    simp[e2] at c
   .rintro Z H8 (⟨v6,v7,v10,v11,rfl,s8⟩:122);exact jw (c9,(EL).trans s8)
  .rintro Z H6 (⟨_,_,_,_,⟨_,rfl,s6⟩⟩:121);exact q _ (s05.trans s6)
theorem xfy {ns:bK}{n:Nat}{dbl:Bool} (m:N8):atI (ns.map V.int) (-1)=some (zcj gV):=by
 have l:=m.len;have e1:ns.take eX=ns.take n++[Geo.mrk ns gV]:=by
  rw[ZS,m.at_ (Zl n)];rfl
 have e2:ns.take eX=ns:=Jx aa;have e:ns.map V.int=(ns.take n).map V.int++[zcj gV]:=by
  rw[<- congrArg (List.map V.int) e2,e1,Zq];rfl
 show(aB,e,xr1 _ _)
theorem xcz {ns:bK}{n:Nat}{dbl:Bool} (m:N8) {x:Int} (x0:0<=x) (xn:x<=n):atI (ns.map V.int) x=some (zcj x):=by
 show(ia,k,JI x0);have h:=m.at_ (i:=k) aa;refine xdu ?_;rw[Zf,h];rfl
theorem xnz {ns:bK}{n:Nat}{dbl:Bool} (m:N8) {st:Int} (h:st=1\/st=2) (hd:B8->st=2):Geo.Marks (ns++[Geo.mrk ns gV+st]) eX dbl:=by
 have l:=m.len;show(dc,fQ Zs l,(av,ZQ aa,m.z),bJ i a b ea eb);have bl:=ft eb;rw[Zs,ZY] at bl;rw[ZQ aa] at ea;by_cases z:aH<ns.length
 .rw [ZQ z] at eb;exact m.st i a b ea eb
 .ext mI ei i n aa;rw[Js aa,(gg,aH-ns.length=0)] at eb;rw[m.at_ (Zl _)] at ea;have e1:=ZE.inj ea;have e2:Geo.mrk ns cG+st=b:=ZE.inj eb;show(cR,aa,fun k=>(d7,hd k))
inductive xty (vs:ag) (H:Hp) (Q:VK) (_:XK):Prop
 | mk (nb:Int) (n:Nat) (dbl:Bool) (e_:vs=[.int nb,.int gV,.bl dbl]) (r_:n<=30/\∀(H':Hp) (l:Addr) (ns:bK),(lT,cL,jD,H' l=some (.lst (ns.map V.int)),N8,bQ))
noncomputable def trN (tr:Tr):ag:=[zei,.str (aW tr)]
inductive xt9 (vs:ag) (H:Hp) (Q:VK) (_:XK):Prop
 | mk (l:Addr) (trs:j6) (ts:ao) (e_:vs=[bQ]) (r_:(bE,ax l (.lst (ts.map V.ref)),zcX,trs.length<=200,∀(H':Hp) (l':Addr) (us:ao),cL->(zr,bz l',H' l'=some (.lst (us.map V.ref)),Gn trs.length,(UH,H' u=some (.tup (trN tr))),l')))
theorem xlw:∀{ys:ag},(Du,∃ u,y=.ref u)->∃ us:ao,ys=us.map V.ref
 | [],_=>fR []
 | jH,h=>by
  show(ia,u,h 0 y rfl);show(ia,us,xlw (ys:=ys) (dh,i,z,h aH z e))
  show(aO,u::us,rfl)
theorem TrL.getN {H:Hp}{trs:j6}{ts:ao} (h:zcX) {i:Nat}{q:Addr} (e:aF ts q):∃ tr c,(aF trs tr)/\(eR q [zei,.str (aW tr),.ref c]):=by
 induction h generalizing i with
 | nil=>ext lw
 | @cons p t c ps ts h hq r ih =>
  cases i with
  | zero =>
   ext Bx;exact bw p c rfl h
  | succ j=>ext rh
theorem TrL.lenN {H:Hp}{trs:j6}{ts:ao} (h:zcX):ts.length=trs.length:=by
 induction h with
 | nil=>rfl
 | cons _ _ _ ih=>ext oA
theorem ok_ar (T:aX):FnOk true P w K mg base aU 1 t.f_ar t.d_ar UQ (xty):=by
 refine T.F_ar.okn (k:=0) sc_ar (aY h) (fun cdv A outer s H vs Q E hr h=>?_)
 .ext Hn nb n dbl
 .obtain ⟨nb,n,dbl,rfl,h⟩:=h;refine⟨_,xh (wN 3 sc_ar.nd (xa (xm) (xi)))
   (xh (xa5 ZA rfl (xjd rfl T.n_range iM) (pN 4 sc_ar.nd) (xh (pS 5 sc_ar.nd (Gi (pF (xr xkv bD (pv 4)))))
   (xh (xcc (xan (xbg (pv 2)) (xk (pS 5 sc_ar.nd (xm))) (x9)))
   (uo (xd8 Jr Jp Jo xb0 iu (xa (xr xa3 (jS 3 IS) (pv 5)) (xi)))))))
   (tf 3)),?_⟩
  refine sq3 ?_; intros; ext i4 n30 h;ext rD leS1 l hl;generalize eu:dN H l [.int 0]=H1;ext mN; ext fJ s1 hl g1;refine lu gV rfl aa aa ?_
  show(MM,∃(v4 v5:bP) (ns:bK),(jI,Z,[Ly,bv gV,qF,j9,v4,v5],(mT,l,iH,H5 b=some u),H5 l=some (.lst (ns.map V.int)),Geo.Marks ns i dbl))
  show(Ox,⟨104,_,_,[0],rfl,fun b u _ e=>tI,g1,(C1,fun i a b e1 e2=>by simp at e2)⟩)
  .rintro i Z H5 hi (⟨v4,v5,ns,rfl,k5,e5,m5⟩:104);refine gn ?_; refine sq3 ?_; intros; have ml:=m5.len;show(fE,(sK,kd,0+cG),iR 2)
   show(wT,∃ st:Int,(bE,st=1\/st=2,B8->st=2,H5=H',σ'=[Ly,bv gV,qF,j9,R6,bv st]),?_)
   .show(V3,lu 2 Ca o5 rfl rfl,dD 64 ?_ (aC,absurd z c) rfl);have z:=xbm zph (sJ,kd<2)
    first|omega|(have z2:=Int.emod_two_eq zph; omega)
   rintro _ _ (⟨st,h1,h2,rfl,rfl⟩:64);refine⟨uN e5,_,rfl,l,_,_,.int (Geo.mrk ns cG),rfl,rfl,aV e5,xfy m5,l,_,_,rfl,rfl,e5,?_,?_⟩
   .rw [Za];ext L5
   refine⟨104,_,_,ns++[Geo.mrk ns cG+st],rfl,vA (cS,nb,k5 _ _ nb e),?_,xnz m5 h1 h2⟩;rw[xj,Zq];rfl
  .rintro Z H5 (⟨v4,v5,ns,rfl,k5,e5,m5⟩:104);show(bO,JM,m5,(q H5 l ns (jG,k5 _ _ (xb e hl) e) hl e5 m5))
theorem ok_au (T:aX):FnOk true P w K mg base aU 1 t.f_au t.d_au HI (xt9):=by
 refine T.F_au.okn (k:=0) sc_au (aY h) (fun cdv A outer s H vs Q E hr h=>?_)
 .ext Hn l trs ts
 .show(zbV,l,trs,ts,xa7 rfl (xas (zs:=zdy) (ys:=[]) (fr:=[]) (N0:=HI) (sc0:=xl s_au) aP rfl rfl rfl) (z0 0) jn jb eB (mR (gu As As)));ext jY hl tl t200 q h;have tll:=tl.lenN;show(oO,l,hl,l1,hl1,xba (aV hl) lF hl1 (fun j y H5=>∃ u tr,(aR,y,.ref u,b9 trs tr,H5 u=some (.tup (trN tr)))) (fun j y H5 H6 tp ⟨q,s,e1,e2,e3⟩=>Nt) (fun j x H5 hx s5 N hN=>?_) (fun ys H2 s2 e2 ly fy=>?_))
  .ext qS;show(gQ,tr,c,hp,hq,tl.getN hqa);exact(dD,qa,0,zei,vk (dZ hq) ⟨qa,_,1,.str (aW tr),rfl,rfl,RH,rfl,ng,Mz tr⟩)
  ext wy tll;show(ia,us,xlw (ys:=ys) (dh,i,y,let ⟨u,_,e1,_⟩:=fy i y e; ⟨u,e1⟩))
  have fu:(UH,H2 u=some (.tup (trN tr))):=fun i u e=>by
   obtain⟨u',tr,e1,h1,h2⟩:83:=fy i (.ref u) (fQ Zf e);ext Aa e1 tr h1 h2
  show(bO,Za,ly,q H2 l1 us s2 hl1 e2 ly fu)
theorem Lp.getS {H:Hp}{ps:aw}{kvs:aL} (h:mY) {i:Nat}{k:Key}{v:V} (e:Pp):∃ p q,(aF ps p)/\(aR,k,Fg,v=cu,AI p):=by
 induction h generalizing i with
 | nil=>ext lw
 | @cons p q ps kvs h r ih =>
  cases i with
  | zero =>
   simp at e;exact⟨84,p,q,rfl,SD,e.2.symm,h⟩
  | succ j=>ext rh
theorem Lp.findS {H:Hp}{ps:aw}{kvs:aL} (h:mY) (nd:(ps.map (·.nm)).Nodup) {p:Pt} (hp:ub):∃ q,nJ (RU p.nm) cu (AI p):=by
 induction h with
 | nil=>exact nomatch hp
 | @cons p' q ps kvs h r ih =>
  ext vg;rcases Lv with z|z
  .subst z;show(aE,q,xbe rfl,h)
  .have ne:p'.nm≠p.nm:=fun e=>nd.1 (e▸Ze.mpr (b5 p z));show(aB,(To,ne (Jd.inj e)),ih gF z)
inductive xqc (t:Adr) (vs:ag) (H:Hp) (Q:VK) (_:XK):Prop
 | mk (a0:V) (d ls lc lr:Addr) (w h w' h':Nat) (dbl:Bool) (ps:aw) (kvs:aL) (ss:aj) (rs:ao) (cs ws:bK) (e_:vs=[a0,dF,.ref ls,.ref lc,.ref lr,.bl dbl]) (r_:bE CF mY gc (au (Nr ls) IA sU (ax lc (.lst (cs.map V.int))) (au,Vt,Stre w h w' h' cs ws dbl,1<=w',w'<=30,1<=h'/\h'<=16/\∀(H':Hp) (b dp do_:Addr) (ob:Obj),(lT,eC d nA qz,H' d=some fZ,Pic t H' b dp do_ b6 j5 oF,Sts H' do_ oK,dX))))
theorem ok_y (T:aX):FnOk true P w K mg base aU 6 t.f_y t.d_y Ui (xqc t):=by
 refine T.F_y.okn (k:=5) sc_y (aY h) (fun cdv A outer s H vs Q E hr h=>?_)
 .obtain ⟨a0,d,ls,lc,lr,w',h',w2',h2',dbl,ps,kvs,ss,rs,cs,ws,rfl,_⟩:=h;rfl
 .obtain ⟨a0,d,ls,lc,lr,w',h',w2',h2',dbl,ps,kvs,ss,rs,cs,ws,rfl,h⟩:=h;refine⟨_,xh (pS 6 sc_y.nd (xfb T.k_a (ok_ai T) aZ rfl T.g_a T.b_ai .nil xp (gu (xr xa3 (jS 3 IS) (xcw xqh rfl T.n_int boot_int F9)) (jS 4 IS))))
   (xh (xa5 ZA rfl (xnm (pv 1)) (pN 7 sc_y.nd) (xh (xbn (yt 1 om) (xs1 rfl (xo (pN 8 sc_y.nd) (xo (pN 9 sc_y.nd) (xo (pN 10 sc_y.nd) (gK 11 sc_y.nd 12))))))
   (uo (xae lA T.c_a T.m_b (ok_b T) aZ T.b_b .nil xp (xbb om (ya (jS 3 (pv 8)) (jS 4 (pv 9)) (ya (pv 10) (jS 4 wI) (xbb (jS 4 (pv 12)) (xi) rfl))) rfl)))))
   (xh (DU F8 (gK 13 sc_y.nd 14) (uo (xae lA T.c_a T.m_k (ok_k T) aZ T.b_k .nil xp (fM 13 (jS 4 (pv 14))))))
   (tf 6))),?_⟩
  refine sq4 ?_; intros; obtain⟨hd,lp,pok,hls,sl,sok,⟨hlc,hlr,y,w1,w30,h1,h16,q⟩⟩:47:=h;show(ae,p12,pok.le,s32,T5);show(Ag,ew,y.ew,eh,y.eh,⟨_,rfl,lc,_,_,.int (pk b6),rfl,rfl,aV hlc,xfy y.mc,.inr ⟨_,rfl,_,rfl,lr,_,_,zw j5,rfl,rfl,aV hlr,xfy y.mr,?_⟩⟩);have e2:(pk b6)+Rq=j3:=ew.symm;have e3:(vI j5)=qT:=eh.symm;refine fun b dx hx hdx ne=>⟨b,dx,j3,qT,?_,⟨46,xj,aa,aa,aa,aa,fun H5 dp do_ hdp5 hdo5 s6 pic5 hdt=>Co⟩⟩
  .rw [<- e2,<- e3];cases dbl<;>rfl
  ext mN; have k5:FR:=(wC,s6 c u (xb e hx) (nD FO FA e));have up:∀ c,upd (upd H dx (.own b)) b zcB c=none->(bz c):=fun c z=>by
   cases e:H c with
   | none=>rfl
   | some u=>ext Rh FO
  have fdp:=up _ hdp5;show(Ag,fdo,up _ hdo5,kl,lp.len,(dA,d,kvs,k5 _ _ hd,bZ ob));have pic6:Pic t (upd H5 d fZ) b dp do_ j3 qT []:=by
   have bt:(eC,d,H5 c=some u,rP H5 d fZ):=gR yI
   have nd5:∀ c,(bz c)->c≠d:=(dh,c,z,by rw[e,hd] at z; cases z)
   exact⟨let ⟨dd,e⟩:=pic5.ins; ⟨dd,E0 (k5 _ _ hd)⟩,let ⟨k,e,r⟩:=pic5.pl; ⟨k,bt _ _ (nd5 _ fdp) e,r.keep (vZ,E0 (k5 _ _ hd))⟩,pic5.w1,pic5.w2,pic5.h1,pic5.h2,pic5.len⟩
  show(MN,∃(v7 v8 v9 v10 v11 v12:bP),(au,Z=[some a0,zI,zk,zj,nH,qF,nO,v7,v8,v9,v10,v11,v12,none,none],(eC,d,nA,H6 c=some u),H6 d=some fZ,Pic t H6 b dp do_ j3 qT ((Td).map (strP cs ws)),zny))
  refine xqu (Pv:=Pv) (jw ⟨85,_,_,rfl,gR (cS,nc,k5 _ _ e),xj,pic6,(av,xg (fun e=>by ext uw e hd fdo fdo),hdt)⟩) ?_ ?_ ?_
  .rintro i Z H6 _ (⟨_,_,_,_,⟨_,_,rfl,_,e6,_⟩⟩:121);exact e6
  .rintro i k x Z H6 hx6 (⟨v7,v8,v9,v10,⟨v11,v12,rfl,k6,e6,p6,d6⟩⟩:121);ext MX; obtain⟨p,qa,hp,rfl,rfl,hqa⟩:84:=lp.getS hx6;show(ae,mp,Zm hp,okp,pok.ok p mp);show(af,qb,hv,hqb,lp.findS pok.nn mp);have hqb6:=RQ hqb;show(ay,dg,DGet H6 d (kV (.inr p.nm)) (aT qb),.inl (cN,kvs,_,.inr (wE e6),hv.symm),⟨d,_,rfl,dg,qb,_,rfl,aV hqb6,rfl,?_⟩);ext HN dx6 hpi6 p6;show(ae,hlc6,RQ hlc,hlr6,RQ hlr);show(ae,x1,okp.x1,y1,okp.y1);show(ae,l1,okp.l1,l2,okp.l2);show(ae,l3,okp.l3,o',y.pt okp);refine⟨b,dx6,_,rfl,hpi6,bL,lc,_,_,.int (pk p.x),rfl,rfl,aV hlc6,xcz y.mc aa okp.x2,lr,_,_,zw p.y,rfl,rfl,aV hlr6,Fq okp.y2,lr,_,_,zw p.lo,rfl,rfl,aV hlr6,xcz y.mr aa aa,lr,_,_,zw p.hi,rfl,rfl,aV hlr6,Fq l3,?_⟩;show(ae,il,ft hp,pn,y.pts pok)
   refine⟨b,dp,do_,j3,qT,_,p.nm,_,_,p.sd,_,vI p.hi,_,rfl,⟨47,p6,Ca,okp.nm,o'.x1,o'.x2,o'.y1,⟨47,o'.y2,okp.sd,o'.l1,o'.l2,o'.l3,vo,⟨?_,aI H7 k7 p7⟩⟩⟩⟩
   .ext sT z' hz' hz;have mz:=Yo hz';have ek:ps[i]=p:=(Zi.mp hp).2;have t1:=Xu p.nm pok.nn;show(ae,t2,Xu p.x pok.nx,t3,Xu p.y pok.ny);rw[ek] at t1 t2 t3;have oz:=pok.ok z' mz;show(ae,zx,oz.x1,zy,oz.y1);show(aE,t1,fun e=>t2 ((y.mc.mono.inj aa oz.x2 aa okp.x2).mp e),fun e=>t3 ((y.mr.mono.inj aa oz.y2 aa okp.y2).mp e))
   .rw [Za,J0];omega
   have ndd:d≠dp:=fun e=>by
    ext Cv e hd fdp
   have ndo:do_≠dp:=by
    show(dL,kv,e,p6.pl)
    exact ne_f d6 e
   refine jw ⟨85,_,_,rfl,(gR,k7 _ _ (xb e fdp) (k6 _ _ nc e)),k7 _ _ ndd e6,?_,k7 _ _ ndo d6⟩;rw[ZS,hp,Zq];exact p7
  rintro Z H6 (⟨v7,v8,v9,v10,⟨v11,v12,rfl,k6,e6,p6,d6⟩⟩:121);ext M0; rw[kl,Jf] at p6;have hls6:=RQ hls;ext zL ls hls6
  let Pv (i:Nat) (Z:L2.St) (H7:Hp):Prop:=∃(v13 v14:bP),(au,Z=[some a0,zI,zk,zj,nH,qF,nO,v7,v8,v9,v10,v11,v12,v13,v14],(eC,d,nA,H7 c=some u),H7 d=some fZ,Pic t H7 b dp do_ j3 qT oF,Sts H7 do_ ((ss.take i).map (strS ws)))
  show(wX,rs.map V.ref,⟨85,_,_,rfl,k6,e6,p6,lu [] d6 rfl J5 fV⟩)
  .show(VH,H7,k7,k7 _ _ (ne_f hls hd) hls)
  .rintro i x Z H7 hx7 (⟨v13,v14,rfl,k7,e7,p7,st7⟩:85);rw[Zf,Zh] at hx7;ext kh qa hqa hx7;show(NH,sb,sl.get hqa);show(ae,ms,Zm hs,il,ft hs);obtain⟨r1,r2⟩:=(rK).2 _ ms;show(ae,hr',y.row r1 r2,hlr7,k7 _ _ (ne_f hlr hd) hlr);ext HN dx7 hpi7 p7;refine eD qa (k7 _ _ (ne_f hsq hd) hsq);show(bU,⟨b,dx7,_,rfl,hpi7,bL,lr,_,_,zw r,rfl,rfl,aV hlr7,Fq r2,?_⟩,⟨b,dp,do_,j3,qT,_,_,sb,vI r,rfl,⟨47,p7,st7,hr'.1,hr'.2,bZ hm,?_,cI H8 k8 p8 st8⟩⟩)
   .show(eE,z,hz,ez,Ze.mp hm);have mz:=Yo hz;show(ae,e,y.inj ((rK).2 z mz).1 ((rK).2 z mz).2 r1 r2 ez,nd,sok.1);rw[<- Y7 i ss,ZH] at nd;have md:CI∈ss.drop i:=by
     show(cY,JC il,(Zi.mp hs).2,Zn)
    exact (gF).2 z hz CI md e
   .rw [Za,J0];omega
   have ndd:d≠do_:=fun e=>by
    ext Cv e hd fdo
   refine⟨85,_,_,rfl,(gR,k8 _ _ (xb e fdo) (k7 _ _ nc e)),k8 _ _ ndd e7,p8,?_⟩;rw[ZS,hs,Zq];exact st8
  .rintro Z H7 (⟨v13,v14,rfl,k7,e7,p7,st7⟩:85);have rl:=sl.len;rw[Za,rl,Jf] at st7;exact (q H7 b dp do_ ob k7 e7 p7 st7)
noncomputable def strR (cs ws:bK) (p:Pr):Pr:=(strP cs ws aK,strS ws bW)
section
variable {w h w' h':Nat}{cs ws:List Int}{dbl:Bool}{ps:List Pt}{ss:List Seat}
theorem Stre.pr (y:Stre w h w' h' cs ws dbl) (pok:gc) {p:Pr} (o:Ht):PrOk oF b6 j5 qG:=by
 have mp:=Zy o.fd;show(ae,o',y.pt (zX mp),r',y.row o.r1 o.r2);exact⟨o.nm,xfg (y.pts pok).nn (Ze.mpr (b5 aK mp)),r'.1,r'.2,bR o'.x1 o'.x2 o'.y1 o'.y2⟩
theorem Stre.gpr (y:Stre w h w' h' cs ws dbl) (pok:gc) {prs:aG} (g:OJ):GPr oF b6 j5 qu:=by
 refine⟨iZ,?_,?_,gE g.le⟩
 .ext sT q hq hp;exact y.pr pok (g.ok q hq)
 .show(bI,Zw,g.nn)
 .show(bI,Zw,xor (f:=fun p:Pr=>bW) (g:=strS ws) g.ns fun a ha b hb e=>y.inj (g.ok a ha).r1 (g.ok a ha).r2 (g.ok b hb).r1 (g.ok b hb).r2 e)
theorem Stre.meet (y:Stre w h w' h' cs ws dbl) (pok:gc) {p q:Pr} (op:Ht) (oq:zba) (ne:bH≠(oy q)):(BD (cel b6 qG) b6 RF)=none↔(BD (cel dP p) dP q)=none:=by
 have xn:=x_ne pok.nx (Zy op.fd) (Zy oq.fd) ne;show(jY,a1,a2,a3,a4,op.xy)
 show(jY,b1,b2,b3,b4,oq.xy)
 exact Geo.meet_mono (w:=dP) (h:=im) (w':=b6) y.mc.mono y.mr.mono (fun x h1 h2=>y.col h1 h2) xn a1 a2 b1 b2 a3 a4 op.r1 op.r2 b3 b4 oq.r1 oq.r2
theorem Stre.may (y:Stre w h w' h' cs ws dbl) (pok:gc) (sok:sU) {p:Pt} (hp:ub) {s:Seat} (s1:1<=dS) (s2:dS<=im):(Xs oK p s)=mayB ss p s:=by
 unfold mayB;show(qj,y.want (pok.ok p hp) s1 s2,congrArg (fun b=>b&&_) (decide_eq_decide.mpr ⟨bZ k,zoq⟩));ext pG t ht e k;show(ja,y.inj ((rK).2 t ht).1 ((rK).2 t ht).2 s1 s2 e,ht)
theorem Stre.exc (y:Stre w h w' h' cs ws dbl) (pok:gc) (sok:sU) {p q:Pr} (op:Ht) (oq:zba):excB oK qG RF=excB ss p q:=by
 unfold excB;show ((Xs _ aK q.2)&&(Xs _ q.1 bW))=_;rw[y.may pok sok (Zy op.fd) oq.r1 oq.r2,y.may pok sok (Zy oq.fd) op.r1 op.r2]
theorem Stre.can (y:Stre w h w' h' cs ws dbl) (pok:gc) (sok:sU) {p q:Pr} (op:Ht) (oq:zba) (ne:bH≠(oy q)):canO b6 oK qG RF=none↔canO dP ss p q=none:=by
 unfold canO;rw[y.exc pok sok op oq];split
 .exact y.meet pok op oq ne
 .exact Iff.rfl
theorem xhx {f g:Pr->(cX iW)}{n:Str}:∀{r:aG},(∀ q∈r,g RF=none↔f q=none)->((N9).filterMap fun q=>(g q).map fun c=>((n,oy q,c):Tr)).map trN=(r.filterMap fun q=>(f q).map fun c=>((n,oy q,c):Tr)).map trN
 | [],_=>rfl
 | q::r,k=>by
  show(ae,ih,xhx (f:=f) (g:=g) (n:=n) (r:=r) (re,k z (Zj _ hz)),kq,k q Zn);rw[Zo,Jj,Jj];cases ef:f q with
  | none =>
   show(aB,kq.mpr ef,ih)
  | some c =>
   cases eg:g (strR cs ws q) with
   | none=>show(cE,kq.mp eg,ef)
   | some c' =>
    show trN _::_=trN _::_;rw[ih];rfl
theorem Stre.mets (y:Stre w h w' h' cs ws dbl) (pok:gc):∀{prs:aG},(xI dP im)->(prs.map (·.1.nm)).Nodup->(S92.mets b6 (prs.map EV)).map trN=(S92.mets dP prs).map trN
 | [],_,_=>rfl
 | mK,ok,nd=>by
  ext vg;have ih:=y.mets pok (prs:=r) zqQ gF;show (metF _ qG (r.map EV)++S92.mets _ N9).map trN=(metF _ p r++S92.mets _ r).map trN;rw[Zq,Zq,ih];refine congrArg (·++_) ?_;exact xhx (f:=fun q=>BD (cel dP p) dP q) (g:=fun q=>BD (cel b6 qG) b6 q) fun q hq=>y.meet pok (ok p Zn) (ok q (Zj _ hq)) fun e=>nd.1 (e▸Ze.mpr (b5 q hq))
theorem Stre.cans (y:Stre w h w' h' cs ws dbl) (pok:gc) (sok:sU):∀{prs:aG},(xI dP im)->(prs.map (·.1.nm)).Nodup->(S92.cans b6 oK (prs.map EV)).map trN=(S92.cans dP ss prs).map trN
 | [],_,_=>rfl
 | mK,ok,nd=>by
  ext vg;have ih:=y.cans pok sok (prs:=r) zqQ gF;show (canF _ _ qG N9++S92.cans _ _ N9).map trN=(canF _ _ p r++S92.cans _ _ r).map trN;rw[Zq,Zq,ih];refine congrArg (·++_) ?_;exact xhx (f:=fun q=>canO dP ss p q) (g:=fun q=>canO b6 oK qG q) fun q hq=>y.can pok sok (ok p Zn) (ok q (Zj _ hq)) fun e=>nd.1 (e▸Ze.mpr (b5 q hq))
theorem xpv {as bs:j6} (e:as.map trN=bs.map trN):(as.head?=none)=(bs.head?=none):=by
 cases as<;>cases bs<;>simp at e ⊢
#check _
section
variable {w h w' h':Nat}{cs ws:List Int}{ps:List Pt}
theorem Stre.tot (y:Stre w h w' h' cs ws true) (pok:gc) {prs:aG} (ok:xI dP im):((qu).map (xa9 b6)).sum=2*(prs.map (xa9 dP)).sum:=by
 rw[Zw];exact xi2 (eF,y.len (zX (Zy (ok p hp).fd)) (ok p hp).r1 (ok p hp).r2)
theorem xr4 {a b:Int}:(2*a)*(2*b)=4*(a*b):=by
 rw[Int.mul_assoc,Int.mul_left_comm a 2 b,<- Int.mul_assoc];rfl
theorem Stre.upr (y:Stre w h w' h' cs ws true) {p:Pr} (o:Ht):uprI b6 qG=4*uprI dP p:=by
 show(jY,a1,a2,a3,a4,o.xy)
 have r1:=o.r1;unfold uprI acrI;show (cm,ij,pk kE,b6+1-(pk kE))*(iY,zbc,0,-zbc,zbc)=_;rw[y.mc.two aa a2,y.mr.two aa a4,y.mr.two aa o.r2,y.two];show(cY,(mh,(cm,ij,2*kE,2*dP+1+1-2*kE),2*(cm,ij,kE,dP+1-kE),KC),(mh,(iY,zcu,0,-zcu,zcu),2*GH,by ext AN),xr4)
theorem xlf {α:Type}{f g:vP}:(zmJ,4*g a,4*Rc)
 | [],_=>rfl
 | a::l,h=>by
  rw[Zo,Zo,Jc,Jc,h a Zn,xlf (pE,h x zh)];omega
#check _
theorem xpg {K:Zd}{H:Hp}{l:Addr}{us:ao}{trs:j6} (e:ax l (.lst (us.map V.ref))) (ln:Gn trs.length) (f:UH (ax u (.tup (trN tr)))):iQ 2 bQ (.lst ((trs.map trN).map fun xs=>DV.tup (xs.map scD))):=by
 show(zjp,(by rw[Za,Za,Za,ln]));rw[Zf] at h2;ext qJ q hq h1;show(af,tr,hp,e',f j q hq);ext bB hp h2 h2;exact .tup (eA e') rfl (xk9 (xs:=trN tr) rfl)
inductive xsq (t:Adr) (vs:ag) (H:Hp) (Q:VK) (_:XK):Prop
 | mk (a b lp lr dp do_ dp2 do2:Addr) (w h w' h':Nat) (dbl:Bool) (ps:aw) (ss:aj) (prs:aG) (qs:ao) (cs ws:bK) (e_:vs=[aA,dX,.ref lp,.ref lr,.bl dbl]) (r_:(bE,Pic t H a dp do_ dP im ps,sH,Pic t H b dp2 do2 b6 j5 oF,(au,Sts H do2 oK,gc,sU,Stre w h w' h' cs ws dbl,Ho Vu uP OJ Vt true)))
theorem ok_ay (T:aX):FnOk true P w K mg base aU 10 t.f_ay t.d_ay Uo (xsq t):=by
 refine T.F_ay.okn (k:=9) sc_ay (aY h) (fun cdv A outer s H vs Q E hr h=>?_)
 .obtain ⟨a,b,lp,lr,dp,do_,dp2,do2,w',h',w2',h2',dbl,ps,ss,prs,qs,cs,ws,rfl,_⟩:=h;rfl
 .obtain ⟨a,b,lp,lr,dp,do_,dp2,do2,w',h',w2',h2',dbl,ps,ss,prs,qs,cs,ws,rfl,h⟩:=h;refine⟨_,xh (xb6 rfl (xas (zs:=ziK) (ys:=["_law_rows"]) (fr:=[3]) (N0:=zfl) (sc0:=xl s_ay) aP rfl rfl rfl) F8 wR xU eB zhb (j:=5) rfl pH)
   (xh (xN (jO Ia (pC (ok_au T) hr T.g_au T.F_au.kp T.b_au (xa (pC (xhf T) hr T.g_meetings T.F_meetings.kp T.b_meetings yV) (xi))) (pC (ok_au T) hr T.g_au T.F_au.kp T.b_au (xa (pC (xhf T) hr T.g_meetings T.F_meetings.kp T.b_meetings TM) (xi)))))
   (xh (xN (jO xir (xb8 xh6 (pC (xcv T) hr T.g_exchangeable T.F_exchangeable.kp T.b_exchangeable yV) (xb4) rO) (xb8 xh6 (pC (xcv T) hr T.g_exchangeable T.F_exchangeable.kp T.b_exchangeable TM) (xb4) rO)))
   (xh (xN (xb5 (xbg (pv 4))))
   (xh (xN (jO xir (pC (xft T) hr T.g_total T.F_total.kp T.b_total TM) (xr xbw (xm) (pC (xft T) hr T.g_total T.F_total.kp T.b_total yV))))
   (dH (xb8 xdp (pC (xf1 T) hr T.g_upright T.F_upright.kp T.b_upright TM) (xr xbw (xm) (pC (xf1 T) hr T.g_upright T.F_upright.kp T.b_upright yV)) rO)))))),?_⟩
  refine sq6 ?_; intros; obtain⟨pic,sts,pic2,sts2,pok,sok,⟨y,hlp,pl,gp,hlr,q⟩⟩:47:=h;have p12:=gp.le;show(ae,qll,pl.len,gp',y.gpr pok gp);show(oO,lp,hlp,lm,hlm,xba (aV hlp) lF hlm zfD (fun j y H5 H6 tp ⟨q,s,e1,e2,e3⟩=>Nt) (fun j x H5 hx s5 N hN=>?_) (fun ys H1 s1 e1 ly fy=>?_))
  .show(zgc,⟨qa,_,rfl,RH,rfl,lr,_,_,zw eI,rfl,rfl,aV (dZ hlr),Fq okp.r2,vq,Mz p⟩)
  ext wy qll;obtain⟨ms,rfl,pl'⟩:62:=PrsL.pick (H:=H1) (ss:=qu) (ys:=ys) (cK ly Za) (fun j y p hy hp=>by
   obtain⟨q,s,e1,e2,e3⟩:83:=fy j y hy;ext VL)
  have mle:(mets b6 prs).length<=200:=by
   have z:=xgx (w:=b6) (r:=prs);ext zgp
  have mle':zQ (mets j3 (prs.map EV)) 200:=by
   show(Fn,xgx (w:=j3) (r:=qu),Za);ext zgp
  have σ0:=[some (V.ref a),nO,vV,nH,qF,FX]
  show(wT,Same H1 H'/\σ'=Xz,?_)
  .ext qC; show(bU,⟨a,dp,do_,lp,b6,j5,ps,prs,qs,rfl,⟨46,Ck,jM hlp,OX s1,gp.ok,gp.le,fun H2 m2 ts2 f2 s2 e2 tl2=>?_⟩⟩,uq m2 _ ts2 (bR,e2,tl2,mle,fun H3 l3 us3 s3 f3 e3 l3' fu3=>?_));have s13:=s2.trans s3;show(bU,⟨b,dp2,do2,lm,j3,qT,oF,qu,ms,rfl,⟨46,Pic.same (s1.trans s13) pic2,s13 _ _ e1,OC s13,gp'.ok,gp'.le,fun H4 m4 ts4 f4 s4 e4 tl4=>?_⟩⟩,uq m4 _ ts4 (bR,e4,tl4,mle',fun H5 l5 us5 s5 f5 e5 l5' fu5=>?_));have s35:=s4.trans s5;refine(Ad,2,2,xpg (s35 _ _ e3) l3' (dh i u (RO,tr,fu3 i u e,⟨tr,h1,s35 _ _ h2⟩)),(kS,xpg e5 l5' fu5,(c9,ifN ?_ (fR,s13.trans s35))));rw[y.mets pok gp.ok gp.nn,xcf];rfl
  ext By H6 s6
  ext DB H6 Xz
  .ext qC; have s06:=s1.trans s6;refine⟨a,dp,do_,lp,b6,j5,ps,ss,prs,qs,rfl,⟨46,nT s06,sts.same s06,s06 _ _ hlp,OX s06,gp.ok,fun H7 v7 s7 t7=>Co⟩⟩;show(ae,s07,s06.trans s7,s17,s6.trans s7);refine⟨b,dp2,do2,lm,j3,qT,oF,oK,qu,ms,rfl,⟨46,nY s07 pic2,sts2.same s07,s17 _ _ e1,OC s17,gp'.ok,fun H8 v8 s8 t8=>(uq,rfl,rfl,_,ifN ?_ (fR zee))⟩⟩;have hh:=xpv (y.cans pok sok gp.ok gp.nn);have e7:decide (v7=V.non)=(cC,(cans b6 ss prs).head?,none):=by
    rcases t7 with⟨z,rfl⟩|⟨c,q1,q2,z,rfl,_⟩
    .rw [z];rfl
    .rw [z];rfl
   have e8:decide (v8=V.non)=(cC,(cans j3 oK (prs.map EV)).head?,none):=by
    rcases t8 with⟨z,rfl⟩|⟨c,q1,q2,z,rfl,_⟩
    .rw [z];rfl
    .rw [z];rfl
   rw[e7,e8];simp only[hh,decide_true,QD]
  ext By H9 s9;show(ae,s19,s6.trans s9,s09,s1.trans s19)
  show(wT,(aR,H9,H',B8,σ'=Xz),?_)
  .show(V3,q _ s09,b5 rfl ?_);cases dbl
   .ext iP c
   .rfl
  ext zom
  show(DB,H9,[cP,nO,vV,nH,O2,FX])
  .ext qC; show(bU,⟨b,dp2,do2,lm,j3,qT,oF,qu,ms,rfl,⟨46,nY s09 pic2,s19 _ _ e1,OC s19,gp'.ok,gp'.le,am H10 s10⟩⟩,⟨a,dp,do_,lp,b6,j5,ps,prs,qs,rfl,⟨46,Pic.same (s09.trans s10) pic,s10 _ _ (s09 _ _ hlp),pl.keep (Same.tups (s09.trans s10)),gp.ok,gp.le,fun H11 s11=>(uq,tW,rfl,_,ifN ?_ (fR,s10.trans s11))⟩⟩);rw[y.tot pok gp.ok];simp
  ext By H12 s12;show(ae,s112,s19.trans s12,s012,s09.trans s12);show(bU,⟨b,dp2,do2,lm,j3,qT,oF,qu,ms,rfl,⟨46,nY s012 pic2,s112 _ _ e1,OC s112,gp'.ok,gp'.le,am H13 s13⟩⟩,⟨a,dp,do_,lp,b6,j5,ps,prs,qs,rfl,⟨46,Pic.same (s012.trans s13) pic,s13 _ _ (s012 _ _ hlp),pl.keep (Same.tups (s012.trans s13)),gp.ok,gp.le,fun H14 s14=>jB tW ?_⟩⟩);have eu:((qu).map (uprI j3)).sum=4*(prs.map (uprI b6)).sum:=by
   rw[Zw];exact xlf (eF,y.upr (gp.ok p hp))
  rw[eu];simp only[decide_true];exact q _ (s012.trans (s13.trans s14))
noncomputable def xfo (ws:bK) (srt:aj) (rent:bG) (z:Seat):Int:=((srt.find? fun s=>cJ (strS ws s=z)).map fun s=>2*zN).getD 0
theorem xf0 {ws:bK}{srt:aj}{rent:bG} (inj:zhR) {s:Seat} (hs:s∈srt):xfo ws srt rent (strS ws s)=2*zN:=by
 have h:srt.find? zqa=some s:=by
  cases e:srt.find? (fun t=>cJ (Hw t s)) with
  | none=>show(GY,rfl,J6.mp e s hs)
  | some t =>
   have k:decide (Hw t s)=true:=QX (p:=zqa) e;rw[inj t (Zy e) s hs (of_decide_eq_true k)]
 unfold xfo;rw[h];rfl
theorem xjg {k:dW}:∀{kvs:dC},k∉kvs.map (·.1)->Oj
 | [],_=>rfl
 | kv::r,h=>by
  ext vK b kv;rw[(To,h (dE e Zn))];exact xjg (aC,h (Zj _ z))
theorem xkp {ys:ag}{cs:c7} (ln:wa cs.length) (f:Du znO):ys=(cs.map (·.1)).map V.str:=by
 refine YY (bZ i);rw[Zf,Zf];by_cases k:i<ys.length
 .show(eE,c,h1,h2,f i _ (Zb k));rw[Zb k,h1,h2];rfl
 .rw [ZV aa,ZV aa];rfl
inductive xr2 (t:Adr) (vs:ag) (H:Hp) (Q:VK) (_:XK):Prop
 | mk (a b lr dp do_ dp2 do2:Addr) (w h w' h':Nat) (dbl:Bool) (ps:aw) (ss srt:aj) (cs ws:bK) (e_:vs=[aA,dX,.ref lr,.bl dbl]) (r_:(bE,Dr t H a dp do_ w h ps ss srt,Dr t H b dp2 do2 w' h' oF oK zap,gc,(au,Stre w h w' h' cs ws dbl,rH,rJ,w'<=30,h'<=16/\Vt/\(y8,Q (.bl true) H'))))
theorem ok_aj (T:aX):FnOk true P w K mg base aU 11 t.f_aj t.d_aj UA (xr2 t):=by
 refine T.F_aj.okn (k:=10) sc_aj (aY h) (fun cdv A outer s H vs Q E hr h=>?_)
 .obtain ⟨a,b,lr,dp,do_,dp2,do2,w',h',w2',h2',dbl,ps,ss,srt,cs,ws,rfl,_⟩:=h;rfl
 .obtain ⟨a,b,lr,dp,do_,dp2,do2,w',h',w2',h2',dbl,ps,ss,srt,cs,ws,rfl,h⟩:=h;refine⟨_,xh (pS 4 sc_aj.nd (pC (xix T) hr T.g_kept T.F_kept.kp T.b_kept pQ))
   (xh (xb6 rfl (xas (zs:=zdy) (ys:=[]) (fr:=[]) (N0:=["_law_picture", "_law_other", "_law_rows", "_law_double", "_law_names", "_law_outs", "_law_pairs", "_law_own", "_law_rent", "_law_moved", "_law_dues", "_law_name", "_law_fees", "_law_side", "_law_row"]) (sc0:=xl s_aj) aP rfl rfl rfl) (xab (pC (ok_aw T) hr T.g_aw T.F_aw.kp T.b_aw pQ)) jn jb eB Ot (j:=5) rfl pH)
   (xh (xN (PW.pt (xdz (jO Ia (pC (xix T) hr T.g_kept T.F_kept.kp T.b_kept iM) jK) (xc7 (jO Ia (xa7 rfl (xas (zs:=zdy) (ys:=[]) (fr:=[]) (N0:=["_law_picture", "_law_other", "_law_rows", "_law_double", "_law_names", "_law_outs", "_law_pairs", "_law_own", "_law_rent", "_law_moved", "_law_dues", "_law_name", "_law_fees", "_law_side", "_law_row"]) (sc0:=xl s_aj) aP rfl rfl rfl) (xab (pC (ok_aw T) hr T.g_aw T.F_aw.kp T.b_aw iM)) jn jb eB Ot) on)))))
   (xh (xN (xb5 (xbg (pv 3))))
   (xh (OB (pC (xkw T) hr T.g_least T.F_least.kp T.b_least (fT 0 4)) 6 sc_aj.nd (gK 7 sc_aj.nd 8))
   (xh (xb6 rfl (xas (zs:=ziK) (ys:=["_law_rows"]) (fr:=[2]) (N0:=["_law_picture", "_law_other", "_law_rows", "_law_double", "_law_names", "_law_outs", "_law_pairs", "_law_own", "_law_rent", "_law_moved", "_law_dues", "_law_name", "_law_fees", "_law_side", "_law_row"]) (sc0:=xl s_aj) aP rfl rfl rfl) (z0 6) wR xU eB zhb (j:=9) rfl pH)
   (xh (pS 10 sc_aj.nd (xdq))
   (xh (iS (z0 4) 11 sc_aj.nd (xk (qY (pv 10) wI (xr xbw (xm) (yt 7 wI)))))
   (xh (pS 12 sc_aj.nd (xej))
   (xh (DU (xab (xbi bD T.c_a T.m_q (ok_q T) aZ T.b_q .nil xp)) (gK 13 sc_aj.nd 14) (xk (qY (pv 12) (xad (fM 13 (jS 2 (pv 14)))) (xr xbw (xm) (yt 8 (xad (fT 13 14)))))))
   (xh (xN (jO xef (pC (xrz T) hr T.g_fault T.F_fault.kp T.b_fault (dR 1 (dR 4 (eS 9 10 12)))) (xb4)))
   (dH (xb8 xdp (xak xbl (pC (xj5 T) hr T.g_answer T.F_answer.kp T.b_answer iM) (xm) iD) (xr xbw (xm) (xak xbl (pC (xj5 T) hr T.g_answer T.F_answer.kp T.b_answer pQ) (xm) iD)) rO)))))))))))),?_⟩
  refine sq12 ?_; intros; obtain⟨dr,dr',pok,y,w30,h16,⟨w30',h16',hlr,q⟩⟩:47:=h;have nnd:(ue).Nodup:=pok.nn;have pok':=y.pts pok;have nnd':(M5).Nodup:=pok'.nn;show(bo,bd,Ds j5,s,hs,dr.ok.2.2 s (dr.pm.mem_iff.mp hs));show(dG,inj,zhR,fun s hs t ht e=>y.inj (bd s hs).1 (bd s hs).2 (bd t ht).1 (bd t ht).2 e,p12,pok.le);refine⟨a,dp,do_,w',h',ps,ss,srt,rfl,dr,nnd,fun H1 l1 c1 so1 ho1 s1 f1 e1 run1=>?_⟩;ext ziZ uL;have kl:KI uL:=by
   ext zmS
  have cl12:∀{ns:ai}{c:c7}{room:fj}{so:bq}{ho:aD},(bb,pR room ns c,ns.Nodup,ns.length<=12,c.length<=12):=fun {ns c room so ho} r nd l=>by
   show(Fn,congrArg Yd (r.gone nd),Za);show(db,Yj (aC,!(ld,z,xao ns c)) ns)
  have nl:KI ue:=by
   ext zeO p12
  show(ay,nl',KI M5,av xit nl,⟨a,dp,do_,w',h',ps,ss,srt,rfl,dr1,nnd,fun H2 l2 qs2 c2 so2 ho2 s2 f2 e2 ol2 run2 of2=>um l2 e2 l3 hl3⟩);show(fO,rfl,rfl,rfl,run1.det run2);show(ae,c12,cl12 run1 nnd nl,oll,ol2.len);refine xba (aV e2) lF hl3 (zmG c1) AE (fun j x H5 hx s5 N hN=>?_) (fun ys H3 s3 e3 ly fy=>?_)
  .ext qS;show(L6,c,lc,hc,hq,ol2.get hqa);show(znk,dZ hq)
  ext wy oll;show(nZ,xkp ly fy);show(ae,s13,s2.trans s3,e13,s13 _ _ e1);have kep:∀{c so ho},(pR (xaz (ps.map (strP cs ws)) zap) M5 c)->xao M5 c=uL:=fun r=>y.kept pok bd dr.lt run1 r
  show(DB,H3,[cP,nO,nH,qF,LI,LH,none,none,none,none,none,none,none,none,none])
  .ext qC; show(mE,dr3,dr'.same (s1.trans s13),⟨b,dp2,do2,w2',h2',_,_,_,rfl,dr3,nnd',fun H4 l4 c4 so4 ho4 s4 f4 e4 run4=>?_⟩);show(bU,(Ad,1,1,xfj e4,(kS,xfj (lD e13),(c9,ifN (by rw[kep run4,xcf]; decide) ?_))),⟨b,dp2,do2,w2',h2',_,_,_,rfl,dr3.same s4,nnd',fun H5 l5 qs5 c5 so5 ho5 s5 f5 e5 ol5 run5 of5=>um l5 e5 l6 hl6⟩);show(ae,c12',cl12 run5 nnd' nl',oll',ol5.len);refine xba (aV e5) lF hl6 (zmG c5) AE (fun j x H7 hx s7 N hN=>?_) (fun ys H6 s6 e6 ly fy=>?_)
   .ext qS;show(L6,c,lc,hc,hq,ol5.get hqa);show(znk,s7 _ _ hq)
   ext wy oll';show(nZ,xkp ly fy);have s36:=(zel).trans s6;refine(Ad,1,1,xfj e6,(kS,xfj (s36 _ _ e3),(c9,ifN ?_ (fR s36))));rw[run5.gone nnd',kep run5,xit,run1.gone nnd,xcf];rfl
  ext By H7 s7;show(ae,s07,(s1.trans s13).trans s7,e17,s7 _ _ e13)
  show(wT,(aR,H7,H',B8,σ'=[cP,nO,nH,qF,LI,LH,none,none,none,none,none,none,none,none,none]),?_)
  .show(V3,q _ s07,b5 rfl ?_);cases dbl
   .ext iP c
   .rfl
  ext zom;have dr7:=dr.same s07;show(bU,⟨a,l1,dp,do_,w',h',ps,ss,srt,uL,rfl,⟨47,dr7,pok,e17,xng,knd,kl,⟨(bw,so1,ho1,run1.mt,xj0 run1 nnd),fun H8 tp lp d_o d_r qs prs own rent so' ho' s8 htp hlp pl en al ow rn lrun _ _ _ _=>?_⟩⟩⟩,eD tp htp);obtain⟨gp,my⟩:=xjl pok dr.ok dr.pm en knd kl al lrun;show(ae,gp',y.gpr pok gp,fit,lrun.fit);show(ae,pr12,gp.le,qll,pl.len);show(ae,s08,s07.trans s8,hlr8,s08 _ _ hlr);show(oO,lp,hlp,lm,hlm,xba (aV hlp) lF hlm zfD (fun j y H5 H6 tp ⟨q,s,e1,e2,e3⟩=>Nt) (fun j x H5 hx s5 N hN=>?_) (fun ys H9 s9 e9 ly9 fy9=>?_))
  .show(zgc,⟨qa,_,rfl,RH,rfl,lr,_,_,zw eI,rfl,rfl,aV (dZ hlr8),Fq okp.r2,vq,Mz p⟩)
  rw[Za,qll] at ly9;obtain⟨ms,rfl,pl'⟩:62:=PrsL.pick (H:=H9) (ss:=qu) (ys:=ys) (cK ly9 Za) (fun j y p hy hp=>by
   obtain⟨q,s,e1,e2,e3⟩:83:=fy9 j y hy;ext VL)
  have e19:=s9 _ _ (s8 _ _ e17);refine am du hdu;generalize eu:fA H9 du []=H10;ext mN; ext fJ s10 hdu g10;show(zL,l1,s10 _ _ e19)
  show(MM,∃(v11:bP),(aR,Z,[cP,nO,nH,O2,LI,LH,vV,Fx,Fw,FX,aT du,v11,none,none,none],Same H9 H5,OwD H5 du ((uL).take i) (lB,2*wL)))
  show(wX,(uL).map V.str,kg _ s10 g10)
  .rintro i Z H5 _ (⟨_,rfl,s5,_⟩:63);show(wA,dZ e19)
  .rintro i x Z H5 hx (⟨v11,rfl,s5,ow5⟩:63);ext sQ;ext EF;show(ae,mn,Zm hnm,il,ft hnm);refine⟨d_o,_,rfl,OwD.get (s5 _ _ (s9 _ _ ow)) mn,tW,(kW,du,y0 Cu ow5 ?_)⟩
   .rw [Za,J0];ext L5
   refine(kg,_,wC (av,gY hdu,s5 _ _ e),?_);have nw:nm∉(uL).take i:=fun k=>by
    have z:=xc6 (fun z:Str=>z) (av List.map_id' knd) il nm k;exact z (Zi.mp hnm).2.symm
   rw[xb2 _ (xhz (k:=Cu) (by
    rw[Zw];intro k;ext pG z hz ez k;cases ez;exact nw hz))]
   unfold OwD;rw[xj,ZS,hnm,Zq];rfl
  rintro Z H11 (⟨v11,rfl,s11,ow11⟩:63);rw[Za,Jf] at ow11;refine am fe hfe;generalize eu:j8 H11 fe []=H12;ext mN; ext fJ s12 hfe g12;show(ae,s912,s11.trans s12,s812,s9.trans s912);show(ae,s012,s08.trans s812,dr12,dr.same s012);show(Il,dr12.pic,⟨a,dx,_,rfl,hpi,bL,a,dp,do_,_,_,_,_,rfl,dr12.pic,dr12.sts,fun l13 ss13 us13 hl13 sl13 pm13 lt13=>?_⟩);show(cQ,ss13=srt,xbz xck (pm13.trans dr.pm.symm) lt13 dr.lt);generalize eu:upd H12 l13 (.lst (us13.map V.ref))=H13;ext fJ s13 hl13 g13;show(hX,f13,fe,l13,xb g12 hl13,oX l13 g13 ?_);have snd:=xhj dr.lt;have s32:ss13.length<=32:=MD
  show(MM,∃(v13 v14:bP),(aR,Z,[cP,nO,nH,O2,LI,LH,vV,Fx,Fw,FX,aT du,v11,aT fe,v13,v14],(eC,fe,H13 c=some u,H5 c=some u),RnD H5 fe ((ss13.take i).map (strS ws)) (xfo ws ss13 rent)))
  show(wX,us13.map V.ref,(XR,s13 _ _ g12))
  .show(VH,H5,k5,k5 _ _ (Zx f13) g13)
  .rintro i x Z H5 hx (⟨v13,v14,rfl,k5,rn5⟩:83);ext sQ;ext Sf;show(NH,sb,sl13.get hqa);show(ae,ms',Zm hs,il,ft hs);obtain⟨r1,r2⟩:=bd _ ms';show(ay,kk,zpV O5,(wC,k5 _ _ (xb e hfe) (s13 _ _ (s12 _ _ e))),eD qa (k5 _ _ (ne_f (s13 _ _ hsq) (s13 _ _ g12)) (s13 _ _ hsq)));ext kB k1 hk1;generalize eu:Ae H5 k1 FN r=H14;ext fJ s14 hk1 g14;show(ay,g14,H14 k1=some (.tup (xar CI)),g14,⟨d_r,_,rfl,RnD.get (zln rn) ms' g14,tW,lr,_,_,zw r,rfl,rfl,aV (zln hlr8),Fq r2,ng,am k2 hk2⟩);generalize eu:Ae H14 k2 FN (vI r)=H15;show(AV,s15,hk2,g15,rn15,s15 _ _ (s14 _ _ rn5));refine(kW,fe,DPut.t (k:=xt (strS ws CI)) rn15 g15 ?_)
   .rw [Za,Za,J0];ext L5
   refine(kW,_,gR (cS,nc,s15 _ _ (s14 _ _ (k5 _ _ nc e))));have nw:CI∉ss13.take i:=fun k=>by
    have z:=xc6 (fun z:Seat=>z) (av List.map_id' snd) il _ k;exact z (Zi.mp hs).2.symm
   rw[xb2 _ (xjg (by
    rw[Zw,Zw];intro k;ext pG z hz ez k;have e:=inj z (Yo hz) _ ms' (xdf ez);exact nw (e▸hz)))]
   unfold RnD;rw[xj,ZS,hs,Zq,Zq];show _=some (HO.dT (_++[(xt (strS ws CI),V.int (W5 CI))]));rw[xf0 inj ms']
  rintro Z H16 (⟨v13,v14,rfl,k16,rn16⟩:83);have usl:=sl13.len;rw[Za,usl,Jf] at rn16;have kk:(zpV,H16 c=some u):=(wC,k16 _ _ (xb e hfe) (s13 _ _ (s12 _ _ e)));have s1116:Same H11 H16:=kk;show(ae,s816,(s9.trans s11).trans s1116,s016,s08.trans s816);have my':MayA (ss13.map (strS ws)) (prs.map EV):=fun p hp=>by
   ext fL p0 hp0 hp;have o:=gp.ok p0 hp0;exact⟨Ze.mpr (dY zcr),by
    show(Ah,xa1 Ov (strS ws p0.2)=true,y.want (zX (Zy o.fd)) o.r1 o.r2,(my p0 hp0).2)⟩
  have ent:∀ p∈prs,∀ s∈ss13,xa1 aK s=true->(s,lenI b6 kE ou s.1 dS)∈x8 w' ps ss13 bH:=fun p hp s hs wn=>by
   show(Lf,xm3 pok.nn (Zy (E2).fd),(b5,s,Fl hs wn))
  show(DB,H16,[cP,nO,nH,O2,LI,LH,vV,Fx,Fw,FX,aT du,v11,aT fe,v13,v14])
  .ext qC; refine⟨b,l1,lm,du,fe,dp2,do2,w2',h2',_,_,ss13.map (strS ws),uL,qu,ms,(lB,2*wL),xfo ws ss13 rent,rfl,⟨47,dr'.same s016,kk _ _ (s11 _ _ e19),kk _ _ (s11 _ _ e9),pl'.keep (Same.tups (s11.trans s1116)),gp',my',⟨47,?_,kk _ _ ow11,rn16,yO,bJ p hp s hs wn,iZ,fun H17 s17=>(lX,ifN ap (fR s17))⟩⟩⟩
   .ext bI Zw en
   .ext sT z hz hs;rw[xf0 inj hz];have rl:=fit.rl z;show(cR,aa,bZ k);have:rent z=0:=fit.r0 z (by
     cases e:ho' z with
     | none=>rfl
     | some n =>
      show(ae,sn,(fit.mt.iff n z).mpr e,dm,fit.dm n);rw[sn] at dm;have mn:n∈uL:=of_decide_eq_true dm.symm;rw[<- en] at mn;ext zT mn;show(je,z2,(tS).2,sn,z2);refine absurd (Ze.mpr (ip qG vw)) k;show Hw bW z;rw[ZE.inj z2])
    omega
   .ext sT p0 hp0 hp;ext fL z hz hs;show(ae,o,gp.ok p0 hp0,mp,Zy o.fd);have wn:xa1 Ov (strS ws z)=true:=wn;rw[y.want (zX mp) (bd z hz).1 (bd z hz).2] at wn;have l:=fit.le LA (Oe en (b5 p0 hp0)) _ (ent p0 hp0 z hz wn);show 2*own LA+(W5 z)<=(ziv z);rw[xf0 inj hz,y.len (zX mp) (bd z hz).1 (bd z hz).2];have l:own LA+rent z<=lenI b6 p0.1.x p0.1.y z.1 z.2:=l;omega
   .ext sT p0 hp0 hp;have o:=gp.ok p0 hp0;show(ae,mp,Zy o.fd,l,fit.eq LA p0.2 (al p0 hp0).2 _ (ent p0 hp0 p0.2 zcr (my p0 hp0).2));show 2*own LA+(W5 p0.2)=(ziv p0.2);rw[xf0 inj zcr,y.len (zX mp) o.r1 o.r2,<- l];omega
  ext By H17 s17;have s017:=s016.trans s17;show(bU,⟨b,dp2,do2,w2',h2',_,_,_,rfl,(b8,dr'.same s017,pok',w30',h16',fun H18 tp18 ln18 T' c18 so18 ho18 s18 g18 run18 lf18=>(dD,tp18,1,.int T',vk g18 ?_))⟩,⟨a,dp,do_,w',h',ps,ss,ss13,rfl,(b8,dr.same (s017.trans s18),pok,w30,h16,fun H19 tp19 ln19 T c19 so19 ho19 s19 g19 run19 lf19=>(dD,tp19,1,.int T,⟨46,rfl,eA g19,rfl,tW,rfl,?_⟩))⟩);obtain⟨_,_,rfl⟩:43:=run1.det run19;rw[kep run18] at lf18;have eT:T'=2*T:=lf18.one (lf19.dbl (φ:=strS ws) (ss:=ss13) (y.lens pok bd) (fun n s k=>by
   rw[xer] at k;exact xfk n s k) inj)
  rw[eT];simp only[decide_true];exact q _ (s017.trans (s18.trans s19))
theorem xvt {ss:aj} (nd:ss.Nodup):∃ srt:aj,Iy/\DQ:=by
 let le:Seat->Seat->Bool:=fun a b=>(a.1&&! b.1)||((cC a.1 b.1)&&(cJ (a.2<=b.2)))
 have tr:∀ a b c:Seat,le a b=true->le b c=true->le a c=true:=fun a b c=>by
  ext Vd;obtain⟨c1,c2⟩:=c;cases a1<;>cases b1<;>cases c1<;>simp[le]<;>omega
 have tt:∀ a b:Seat,(le a b||le b a)=true:=fun a b=>by
  ext Vd;cases a1<;>cases b1<;>simp[le]<;>omega
 show(ae,pm,List.mergeSort_perm ss le,pw,List.pairwise_mergeSort tr tt ss);show(fE,ss.mergeSort le,pm);have nd':=pm.nodup_iff.mpr nd;refine (pw.and nd').imp fun {a b} k=>?_;obtain⟨k1,k2⟩:=k;ext Vd;unfold xb9;cases a1<;>cases b1<;>simp[le] at k1 k2 ⊢<;>omega
theorem xu7 (T:aX):FnOk true P w K mg base aU 12 t.f_law t.d_law O6 (xkf K):=by
 refine T.F_law.okn (k:=11) xct (aY h) (fun cdv A outer s H vs Q E hr h=>?_)
 .ext DL sc ns
 .ext Ek sc ns;refine⟨_,xh (Kk (pC (ok_am T) hr T.g_am T.F_am.kp T.b_am (xa (pC LE hr T.g_ao T.F_ao.kp T.b_ao vp) (xa (xm) (xa (xm) (gu (xm) (xc4)))))) (gK 1 xct.nd 2))
   (xh (pS 3 xct.nd (pC (ok_an T) hr T.g_an T.F_an.kp T.b_an (fM 1 (pC LE hr T.g_ao T.F_ao.kp T.b_ao vp))))
   (xh (pS 4 xct.nd (pC pJ hr T.g_m T.F_m.kp T.b_m (gu (pC LE hr T.g_ao T.F_ao.kp T.b_ao vp) (xm))))
   (xh (pS 5 xct.nd (xb8 xdp (pF jK) (xm) rO))
   (xh (pS 6 xct.nd (pC (ok_ar T) hr T.g_ar T.F_ar.kp T.b_ar (xa (Cz jK) (xa (qR 1) F9))))
   (xh (pS 7 xct.nd (pC (ok_ar T) hr T.g_ar T.F_ar.kp T.b_ar (xa (pC pJ hr T.g_m T.F_m.kp T.b_m (gu (pC LE hr T.g_ao T.F_ao.kp T.b_ao vp) (xm))) (xa (qR 1) F9))))
   (xh (pS 8 xct.nd (pC (ok_y T) hr T.g_y T.F_y.kp T.b_y (ya eJ iw (ya iu lA (ya om on (xi))))))
   (xh (pS 9 xct.nd (xbi eJ T.c_a T.m_i (ok_i T) aZ T.b_i .nil xp))
   (xh (xN (v0 (pC (ok_aj T) hr T.g_aj T.F_aj.kp T.b_aj (dR 1 (eS 8 7 5)))))
   (xh (xa5 ZA rfl (xi8 rfl T.n_range (gu (xm) (xaw (xi9 rfl) rfl T.n_max boot_max (gu (xm) (xaw (xjm rfl) rfl T.n_min boot_min (gu (D6 xcj pQ) (xm))))))) (pN 10 xct.nd) (xh (pS 11 xct.nd (pC (ok_aq T) hr T.g_aq T.F_aq.kp T.b_aq (dR 2 (fM 3 (pC LE hr T.g_ao T.F_ao.kp T.b_ao (fT 0 10))))))
   (xk (xcc (xan (v0 (pC (ok_ay T) hr T.g_ay T.F_ay.kp T.b_ay (dR 1 (dR 8 (eS 11 7 5))))) (dH (xc4)) (x9))))))
   (dH (xc1 (xb8 (xqs (xb1 hr)) (xbi eJ T.c_a T.m_i (ok_i T) aZ T.b_i .nil xp) (pv 9) rO) (xei (xb8 (xqs (xb1 hr)) (xbi eJ T.c_a T.m_q (ok_q T) aZ T.b_q .nil xp) (xaw (xk6 rfl) rfl T.n_sorted PyProof.Rows.Boot.«sorted» (jj 3)) rO))))))))))))),?_⟩
  refine sq11 ?_; intros; ext fO hs n63 q h;show(mJ,sc,ns,0,rfl,(kS,hs,fun c0=>(jB,c0,fun H1 tp a dp do_ d w h ps kvs s1 htp pic hdt pok p7 hd lp ndp fd fdo w14 h8=>eD tp htp)));have hs1:=Same.seqL s1 hs;show(ae,w1,pic.w1,h1,pic.h1);show(ia,wn,JI (gg,0<=w));show(ia,hn,JI (gg,0<=h));show(mJ,sc,ns,1,rfl,(kS,hs1,fun c1=>⟨a,dp,do_,wn,hn,c1,ps,rfl,pic,hdt,fun H3 ls ss rs k2 fls pic2 st2 sok hls sl=>?_⟩));show(dG,s03,gG H3,(jG,k2 _ _ (xb e fdo) tI),hd3,k2 _ _ (ne_f hd hdt) hd);have lp2:vY H3:=Lp.keepL (fS,k2 _ _ (eK hdt) e) lp;have hs3:=Same.seqL s03 hs;show(mJ,sc,ns,2,rfl,(kS,hs3,fun c2=>⟨c2,0,rfl,ap,am nb nb0⟩));show(fE,iR 3,rfl);generalize cJ (V.int (nb % 3)=V.int 1)=dbl;show(vb,dx,hp,pic2.ins,⟨uZ,a,_,_,_,_,rfl,hp,T.c_a,T.n_a2,lkW,_,wn,dbl,rfl,aa,fun H4 lc cs s4 flc hlc mc=>?_⟩);have hp4:=lD hp;show(mJ,sc,ns,2,rfl,(kS,Same.seqL (s03.trans s4) hs,fun c3=>⟨c3,1,rfl,ap,fun nb2 _=>⟨a,_,_,_,_,rfl,Sj hp4 ⟨_,hn,dbl,rfl,aa,fun H5 lr ws s5 flr hlr mr=>?_⟩⟩⟩));show(ae,mb,mc.bd (a:=bA wn) aa aa,mb',mr.bd (a:=LJ) aa aa);obtain⟨w2,ew⟩:∃ w2:Nat,(bA w2)=(pk (bA wn))+Rq:=⟨((pk (bA wn))+Rq).toNat,KC⟩
  show(ED,h2,eh,∃ h2:Nat,(bA h2)=(vI LJ),(vI LJ).toNat)
  have y:Stre wn hn w2 h2 cs ws dbl:=⟨mc,mr,ew,eh⟩
  have wb:1<=w2/\w2<=30:=by split at ew<;>omega
  have hb:1<=h2/\h2<=16:=aa
  show(ae,s35,zel,s05,s03.trans s35);show(ae,hd5,s35 _ _ hd3,lp5,lp2.same s35);show(Ag,hls5,s35 _ _ hls,sl5,sl.keep (Same.tups s35),⟨aA,d,ls,lc,lr,wn,hn,w2,h2,dbl,ps,kvs,ss,rs,cs,ws,rfl,⟨47,hd5,lp5,pok,hls5,sl5,sok,⟨47,dZ hlc,hlr,y,wb.1,wb.2,hb.1,⟨hb.2,fun H6 b dp2 do2 ob k6 hd6 pic6 st6=>?_⟩⟩⟩⟩);have kk:∀{Hx:Hp},(eC,d,H5 c=some u,Hx c=some u)->(au,Pic t Hx a dp do_ (bA wn) LJ ps,Sts Hx do_ ss,Hx ls=some (.lst (rs.map V.ref)),xag Hx ss rs,(vY Hx)/\Hx lr=some (.lst (ws.map V.int))/\(gG Hx)):=fun {Hx} k=>by
   show(ay,t5,Tups H5 Hx,zcT hd5,⟨47,?_,?_,k _ _ (ne_f hls5 hd5) hls5,sl5.keep t5,Lp.keepL (zcT hd5) lp5,k _ _ (ne_f hlr hd5) hlr,(jG,k _ _ (xb e fd) (s05 _ _ e))⟩)
   .obtain ⟨⟨dx,e1⟩,⟨kv,e2,e3⟩,r1,r2,r3,r4,r5⟩:=nY s35 pic2;exact⟨(kZ,k _ _ (ne_f e1 hd5) e1),⟨kv,k _ _ (Zx ndp) e2,e3.keep t5⟩,r1,r2,r3,r4,r5⟩
   .show(zoP,st2.same s35,hd5)
  have kb:∀{Hx:Hp},(eC,d,H6 c=some u,Hx c=some u)->Pic t Hx b dp2 do2 (bA w2) (bA h2) oF/\Sts Hx do2 oK:=fun {Hx} k=>by
   show(ay,t6,Tups H6 Hx,zcT hd6,dQ ?_)
   .obtain ⟨⟨dx,e1⟩,⟨kv,e2,e3⟩,r1,r2,r3,r4,r5⟩:=id pic6;exact⟨(kZ,k _ _ (ne_f e1 hd6) e1),⟨kv,k _ _ (ne_f e2 hd6) e2,e3.keep t6⟩,r1,r2,r3,r4,r5⟩
   .show(zoP,id st6,hd6)
  obtain⟨pa6,sa6,hls6,sl6,lp6,hlr6,s06⟩:47:=kk k6;show(vb,dx6,hp6,pa6.ins,⟨a,dx6,_,rfl,hp6,bL,a,dp,do_,_,_,_,rfl,pa6,fun H7 l7 ds s7 e7 pt7=>?_⟩);show(af,srt,pm,lt,xvt sok.1);show(bo,bd,Ds LJ,s,hs,(rK).2 s (pm.mem_iff.mp hs));have pok':=y.pts pok
  show(DB,H7,[aT sc,cP,zI,zk,Ly,qF,zj,nH,nO,aT l7,none,none])
  .ext qC; have dra:Dr t H7 a dp do_ wn hn ps ss srt:=⟨nY s7 pa6,sa6.same s7,sok,pm,lt,(eF,(pok.ok p hp).nm)⟩
   have drb:Dr t H7 b dp2 do2 w2 h2 oF oK zap:=⟨nY s7 pic6,st6.same s7,y.ss sok,pm.map _,y.lt bd lt,(eF,(pok'.ok p hp).nm)⟩
   exact⟨a,b,lr,dp,do_,dp2,do2,wn,hn,w2,h2,dbl,ps,ss,srt,cs,ws,rfl,⟨47,dra,drb,pok,y,aa,aa,(bR,wb.2,hb.2,s7 _ _ hlr6,fun H8 s8=>(c9,ifN ap (fR s8)))⟩⟩
  ext By H8 s8;ext M0; have s68:=s7.trans s8;refine(dA,sc,_,.inl (Same.seqL (s06.trans s68) hs),(bw,_,_,rfl,bw _ _ rfl (kW,3,bR ap ap ?_ ?_)))
  .rw [Za];ext AN
  .rw [Za];ext AN
  rw[Za]
  let Pv (i:Nat) (Z:L2.St) (H9:Hp):Prop:=∃(v10 v11:bP),(aR,Z,[aT sc,cP,zI,zk,Ly,qF,zj,nH,nO,aT l7,v10,v11],(eC,d,H8 c=some u,H9 c=some u),∃ ob,H9 d=some fZ)
  show(Ox,(XR (wE,s68 _ _ hd6)))
  .rintro i Z H9 hi (⟨v10,v11,rfl,k9,⟨ob9,hd9⟩⟩:83);ext MX; ext zeU;obtain⟨pa9,sa9,hls9,sl9,lp9,hlr9,s09⟩:47:=kk kx5;have ib:i<64:=by
    split at hi<;>split at hi<;>omega
   refine(uq,sc,ns,3+cG,(bR,Same.seqL s09 hs,aa,aa,fun c=>⟨d,ls,c,wn,hn,ps,kvs,ss,rs,rfl,⟨47,⟨ob9,hd9⟩,lp9,aa,pok,hls9,sl9,⟨sok,fun ob' H10 lq prs qs s10 hlq pr10 ok10 len10 nn10 ns10=>?_⟩⟩⟩));have k10:(eC,d,H9 c=some u,H10 c=some u):=(gR,s10 _ _ yI);have hd10:H10 d=some (.frz ob' (.dK kvs)):=s10 _ _ xj;obtain⟨pa10,sa10,hls10,sl10,lp10,hlr10,s010⟩:47:=kk (Hx:=H10) (gR,k10 _ _ nc (kx5 _ _ nc e))
   obtain⟨pb10,sb10⟩:=kb (Hx:=H10) (gR,k10 _ _ nc (kx _ _ nc e))
   show(DB,H10,[aT sc,cP,zI,zk,Ly,qF,zj,nH,nO,aT l7,bv (3+cG),aT lq])
   .ext qC; exact⟨a,b,lq,lr,dp,do_,dp2,do2,wn,hn,w2,h2,dbl,ps,ss,prs,qs,cs,ws,rfl,⟨47,pa10,sa10,pb10,sb10,pok,sok,⟨46,y,hlq,pr10,⟨ok10,nn10,ns10,len10⟩,hlr10,fun H11 s11=>(c9,ifN ap (fR s11))⟩⟩⟩
   ext By H11 s11;exact dA _ _ (gR,s11 _ _ (k10 _ _ nc (k9 _ _ nc e))) ⟨ob',s11 _ _ hd10⟩
  .rintro Z H9 (⟨v10,v11,rfl,k9,⟨ob9,hd9⟩⟩:83);ext zeU;obtain⟨pa9,sa9,hls9,sl9,lp9,hlr9,s09⟩:47:=kk kx5;have hd7:=s7 _ _ hd6;have t89:Tups H7 H9:=(vZ,k9 _ _ (eK hd7) (s8 _ _ e));show(vb,dx9,hp9,pa9.ins,⟨a,dx9,_,rfl,hp9,bL,a,dp,do_,_,_,_,rfl,pa9,fun H10 l10 ds10 s10 e10 pt10=>?_⟩);show(mE,e7x,s10 _ _ (k9 _ _ (ne_f e7 hd7) (s8 _ _ e7)),(Ad,2,2,pt10.dv e10,(kS,((pt7.keep t89).keep (Same.tups s10)).dv e7x,Cn)));rw[xcf];refine iteT ?_;have sa10:=sa9.same s10;refine⟨a,dx9,_,rfl,s10 _ _ hp9,bL,a,dp,do_,_,_,_,_,rfl,nY s10 pa9,sa10,fun l11 ss11 us11 hl11 sl11 pm11 lt11=>?_⟩;generalize eu:upd H10 l11 (.lst (us11.map V.ref))=H11;ext fJ s11 hl11 g11;unfold tNil;refine xmc (s11 _ _ (s10 _ _ hls9)) ((sl9.keep (Same.tups s10)).keep (Same.tups s11)) sok.1 T5 (fun l12 ss12 us12 hl12 sl12 pm12 lt12=>?_);show(mI,eqs,ss11,ss12,xbz xck (pm11.trans pm12.symm) lt11 lt12);generalize eu:upd H11 l12 (.lst (us12.map V.ref))=H12;ext fJ s12 hl12 g12;refine(Ad,2,2,((sl11.keep (Same.tups s11)).keep (Same.tups s12)).dv (s12 _ _ g11),(kS,(sl12.keep (Same.tups s12)).dv g12,?_));rw[xcf];exact q _
#check _
#check S92
-- the names of the twins of whole trees and heaps are xbx here,so that the head makes no such twins (they are what makes its compiled file large); see NOTE.md
namespace PySem.W.Fast
def tw17665341810579930362:=0
def tw8792389910972105739:=0
def tw15144044767544697970:=0
def tw13809104318576276967:=0
def tw15400373374041172870:=0
def tw7710850489499946828:=0
def tw1649993900165619975:=0
def tw5345375388209569143:=0
def tw9613899871219720225:=0
def tw7749990099183693964:=0
def tw2078824193691109755:=0
def tw8260127201355534150:=0
def tw9638302423011143021:=0
def tw6034463737533619388:=0
def tw2672848639175887141:=0
def tw17257570062690159320:=0
def tw9848372905617637826:=0
def tw12812038455758738265:=0
def tw13532282978047911048:=0
def tw1034756046857905464:=0
def tw16130257067728492493:=0
def tw8849267533983249836:=0
def tw3917810341807379718:=0
def tw16358772651193891327:=0
def tw11658897519000902929:=0
def tw8917278025665873199:=0
def tw11735782467467822962:=0
def tw15129657242320311976:=0
def tw11702027280685009349:=0
def tw449118564038641790:=0
def tw13033912997411051766:=0
def tw7965061355572171134:=0
def tw341639343974282047:=0
def tw16107518374204981654:=0
def tw586930019824726371:=0
def tw6739143571982382733:=0
def tw7138443529978837803:=0
def tw15167077468992304943:=0
def tw6273476604112748845:=0
def tw11745202705327431987:=0
def tw10069885219842539694:=0
def tw5106063987121428152:=0
def tw16698244642443310990:=0
def tw2686179273051986157:=0
def tw615208168766405285:=0
def tw1150896235466223504:=0
def tw7538640007967009570:=0
def tw3186330137987046167:=0
def tw11968428059663250424:=0
def tw13858246030316702346:=0
def tw6964701400547685721:=0
def tw1355891492482377832:=0
def tw17998693789293054206:=0
def tw17224895511794340105:=0
def tw1209163633070122168:=0
def tw4499252814357360248:=0
def tw16149383915115511933:=0
def tw8686654605572072624:=0
def tw16170671122642987453:=0
def tw7483127940878926237:=0
def tw2350485389258840825:=0
def tw4409982287986943891:=0
def tw11819234811532555495:=0
def tw10989930050260919276:=0
def tw14730637582863463578:=0
def tw12423108004004417451:=0
def tw2687009916530894524:=0
def tw7245189406789130722:=0
def tw42353455016737644:=0
def tw3612881187257159163:=0
def tw3407770824688538086:=0
def tw13795112058898063063:=0
def tw15574431785653346560:=0
def tw3603013232021884114:=0
def tw1815347143372952674:=0
def tw1436768562183910633:=0
def tw2719462457008805963:=0
def tw16659384035805624201:=0
def tw10031514532246736531:=0
def tw4775537326278148015:=0
def tw5422085011036922912:=0
def tw12396858503028528344:=0
def tw16900886557523997287:=0
def tw10121671508333578554:=0
def tw2352334679518097658:=0
def tw3304506203638616100:=0
def tw12664649530297646103:=0
def tw1810016534726164943:=0
def tw8596682204371610833:=0
def tw8971151183825109015:=0
def tw17666256304880528082:=0
def tw13424698675448622846:=0
def tw4273960836100769767:=0
def tw11383768854948438248:=0
def tw8362920510022326429:=0
def tw10535645678414528098:=0
def tw9211383872684559169:=0
def tw16177714032425464199:=0
def tw14719446004414739430:=0
def tw2802506068123486284:=0
def tw9585500585356807577:=0
def tw527173914666181289:=0
def tw539341304678814334:=0
def tw4250859600849106571:=0
def tw5516128343721054943:=0
def tw5569942061082815113:=0
def tw3295081353620926449:=0
def tw12208947269652859091:=0
def tw2269454104761620266:=0
def tw4312070777470245589:=0
def tw17786420371219982264:=0
def tw1708778999445832039:=0
def tw14976353616812430651:=0
def tw7290303711503093249:=0
def tw4881553262762644918:=0
def tw13325140944820482396:=0
def tw18157893216390454583:=0
def tw5339742725309272374:=0
def tw6365670975901048299:=0
def tw8969664132427665290:=0
def tw14635760733066236985:=0
def tw14427862810480512342:=0
def tw12930649942307040333:=0
def tw3189027943687835043:=0
def tw16825586979663102204:=0
def tw17008586622399736824:=0
def tw9218975906811073666:=0
def tw6947160541811120475:=0
def tw17845034121621652010:=0
def tw14486676275694661488:=0
def tw4170105538125482207:=0
def tw873545851137903872:=0
def tw14715740140691519901:=0
def tw15208958104740523231:=0
def tw13581652866091164046:=0
def tw16490976899182656736:=0
def tw10616693464193666255:=0
def tw6082073619364611631:=0
def tw11595083404823893998:=0
def tw6039744317085473434:=0
def tw13415738362309359543:=0
def tw3833967510638491663:=0
def tw10423167429580441894:=0
def tw12767982852221383196:=0
def tw3296119337582147541:=0
def tw10407597255802645761:=0
def tw5470025066745940532:=0
def tw7401828346388172265:=0
def tw2109295372689294337:=0
def tw17896695583998764219:=0
def tw4221478118302693163:=0
def tw14076572810967579765:=0
def tw15640926256968667087:=0
def tw8217743447343824928:=0
def tw5709878862574224947:=0
def tw16439498250355186202:=0
def tw5837993848961988576:=0
def tw15587537616690985922:=0
def tw12883297245373894999:=0
def tw5361248929537357915:=0
def tw13387308675090205493:=0
def tw5365125250246309684:=0
def tw1192646843209042321:=0
def tw16334373087958147661:=0
def tw2537672947690609644:=0
def tw573579922960211168:=0
def tw7076417164006120735:=0
def tw6392890778545983335:=0
def tw1494446103729870749:=0
def tw8296715118653417836:=0
def tw11304621209997700217:=0
def tw12641496835606606915:=0
def tw17211938788440920373:=0
def tw9455198957591097646:=0
def tw1336263411787036606:=0
def tw14327362203103050798:=0
def tw4640869451901862064:=0
def tw6795732132256330471:=0
def tw2443926875986543673:=0
def tw7728166962030862912:=0
def tw1265608604915564353:=0
def tw2867884744136119151:=0
def tw16449690953999910250:=0
def tw15870389173519551156:=0
def tw6763557979527680854:=0
def tw9542264665332568089:=0
def tw5375218905270818031:=0
def tw2760993776818450638:=0
def tw16996513507462264752:=0
def tw11916782904003192719:=0
def tw1502508116917032556:=0
def tw9617932127353894133:=0
def tw12946571036215589429:=0
def tw9252399553764853828:=0
def tw13741189583721486054:=0
def tw12386681264504559243:=0
def tw131097634631435078:=0
def tw6290304332039721450:=0
def tw7922761379810215785:=0
def tw7116482796492208600:=0
def tw1490357101569716026:=0
def tw13318000344780582434:=0
def tw13172436449847138721:=0
def tw14895343032778472061:=0
def tw18043216772209743935:=0
def tw2497188552551255705:=0
def tw15642787808991010200:=0
def tw4656128519878329158:=0
def tw10174160707597400370:=0
def tw8587129901727045282:=0
def tw18300648088728374787:=0
def tw8231676145380350864:=0
def tw10256676736972453767:=0
def tw17263661525896677488:=0
def tw4267020887157688609:=0
def tw12023181997969729283:=0
def tw5010065497207046421:=0
def tw17381295526568859417:=0
def tw16306540738982274486:=0
def tw14301685498472566694:=0
def tw8670642117709652701:=0
def tw14803984521614799318:=0
def tw5865564353010238519:=0
def tw15120267294777265770:=0
def tw2327583194215950532:=0
def tw8638419529363663438:=0
def tw17099872030744458187:=0
def tw14051447162747805940:=0
def tw5280199383640604885:=0
def tw4466281632109972187:=0
def tw5930163704577899543:=0
def tw10576227430419744320:=0
def tw8470593350776314020:=0
def tw15002443174720066968:=0
def tw13534184670579953357:=0
def tw2635699082162798159:=0
def tw12081289147429305451:=0
def tw8801894609672578040:=0
def tw11123755791037347794:=0
def tw580618394650406695:=0
def tw9063619818063000960:=0
def tw6977536941573905243:=0
def tw11010230001387456374:=0
def tw8573201383939018196:=0
def tw15235002427697771981:=0
def tw3995461381038820416:=0
def tw7259075976015471332:=0
def tw16876017753372238708:=0
def tw7047650433250286884:=0
def tw16834514569685474712:=0
def tw286179716563687930:=0
def tw5442678433709222503:=0
def tw12293118212383359121:=0
def tw6819101655573522147:=0
def tw10174963006853378169:=0
def tw9209651171591586490:=0
def tw15892409350037256502:=0
def tw12489717456900111748:=0
def tw16718905194243812969:=0
def tw15038117261275607380:=0
def tw2681920745717273422:=0
def tw14760287498237949450:=0
def tw16065294997450356363:=0
def tw2423969977634130693:=0
def tw12560321197741303520:=0
def tw8614009658642924151:=0
def tw15271818648094858962:=0
def tw6213327993671748958:=0
def tw16699493240256821526:=0
def tw2016741054301062748:=0
def tw11429314160524837736:=0
def tw10978642650982128668:=0
def tw16230523824886739737:=0
def tw15338009540454492123:=0
def tw2968620902992152752:=0
def tw17631043801315720824:=0
def tw2204182387580939543:=0
def tw17054553798698078807:=0
def tw12383817262450885431:=0
def tw12827341472513194343:=0
def tw7954435478896311348:=0
def tw14780249855115304088:=0
def tw3333540073227006074:=0
def tw17756198050601819278:=0
def tw5538784864589100618:=0
def tw2343797545332174717:=0
def tw16660178625179419017:=0
def tw4940088620088621057:=0
def tw5904537648193006497:=0
def tw699889612139369947:=0
def tw8488539482754590780:=0
def tw15882128528995314446:=0
def tw15285466568434654764:=0
def tw3743391346543092521:=0
def tw12782982214422392117:=0
def tw6154611286036384130:=0
def tw17828921731258282654:=0
def tw9985358244737037624:=0
def tw2743115429075878564:=0
def tw7991103968986450114:=0
def tw1823423070197360820:=0
def tw2845440947797212619:=0
def tw5414066956236126376:=0
def tw2201796695096514898:=0
def tw12337004901745806060:=0
def tw4298213523845764047:=0
def tw14191917192777323923:=0
def tw11731043130949170539:=0
def tw12736253497785654900:=0
def tw9503492611664043166:=0
def tw18440321430961344800:=0
def tw15938541662525398777:=0
def tw1256191553992428303:=0
def tw15598639521921984702:=0
def tw12848832285862880022:=0
def tw15637046410722845330:=0
def tw8720080699419197682:=0
def tw1977789597709899928:=0
def tw3471926886474414023:=0
def tw9480760634819890332:=0
def tw5886894097165045602:=0
def tw10598092286122099003:=0
def tw6449403938130005650:=0
def tw2119274108890328674:=0
def tw2949607664990786277:=0
def tw2640461171500408688:=0
def tw14411405321930014127:=0
def tw14436163722767322545:=0
def tw8549220693565824448:=0
def tw2363749289567375896:=0
def tw3658456581506321125:=0
def tw16335220593888871927:=0
def tw14450605075992605355:=0
def tw14714443420188772043:=0
def tw15273978086602496420:=0
def tw18429658219327264514:=0
def tw12105843074921648109:=0
def tw13847403573417809506:=0
def tw12760304644541350779:=0
def tw11374023869079744435:=0
def tw1234472080361052497:=0
def tw14441103317502904113:=0
def tw2236316629628407014:=0
def tw6539104349629140030:=0
def tw13016077523110196394:=0
def tw7085047469254339997:=0
def tw5845756285321726009:=0
def tw8645864045552961740:=0
def tw3869705228998597343:=0
def tw3217593267471583324:=0
def tw2851714159777352845:=0
def tw1898981204500042900:=0
def tw16243592161189233073:=0
def tw1426430530249348788:=0
def tw3488518857641298536:=0
def tw9660928366834141649:=0
def tw6149839295116758871:=0
def tw5482659271360113723:=0
def tw13387268297365910507:=0
def tw6942700158156646900:=0
def tw12382614005224680460:=0
def tw5618164965976072406:=0
def tw7310262126324212934:=0
def tw10030401692354399638:=0
def tw9697755818480972880:=0
def tw6456795720494425398:=0
def tw3268024674661980519:=0
def tw14098916112984272620:=0
def tw14608223194607167897:=0
def tw11599078553082418152:=0
def tw13120315686321526059:=0
def tw12438664171494565515:=0
def tw1980498351116040811:=0
def tw17354159619848464845:=0
def tw2837028974117828882:=0
def tw3534594370647898392:=0
def tw12358982074428964147:=0
def tw12568532373539670037:=0
def tw13004460511740605489:=0
def tw13792911116518229302:=0
def tw6934901339310983917:=0
def tw2136923448262889709:=0
def tw680958600249558021:=0
def tw6919019799302520183:=0
def tw17453405629286349099:=0
def tw12039220079300866051:=0
def tw15657888612919296987:=0
def tw15234467011761972310:=0
def tw12672820264068434631:=0
def tw7486842865711819888:=0
def tw12865357022065357392:=0
def tw7778868561448199640:=0
def tw13275002313955937868:=0
def tw13266410041739940701:=0
def tw1060818249664444475:=0
def tw15851085051716455510:=0
def tw9415452136251251813:=0
def tw16117545705065908046:=0
def tw14612126611217955029:=0
def tw17716578854555894308:=0
def tw4667582140086358702:=0
def tw16322221393649843389:=0
def tw15830797479159042665:=0
def tw11749396339895739394:=0
def tw17479893758160620459:=0
def tw9888323479019762768:=0
def tw12350127847298504835:=0
def tw14732322547239835130:=0
def tw17726714124978073649:=0
def tw149360680744222589:=0
def tw8307567276209471341:=0
def tw15023487846090440542:=0
def tw5913335061100818173:=0
def tw8224190535529971842:=0
def tw6208413478901109691:=0
def tw7612929540900300351:=0
def tw10046136285634889598:=0
def tw1855917360822504933:=0
def tw4885955517494984611:=0
def tw13999298514897396202:=0
def tw14037003279681551374:=0
def tw10106510544751652086:=0
def tw6244973020851433729:=0
def tw5522325632602781260:=0
def tw6736539168173210274:=0
def tw1957498115789810607:=0
def tw15491120647775334580:=0
def tw12790967742973175689:=0
def tw12005571514089222854:=0
def tw3310436608171010037:=0
def tw17200526886164205781:=0
def tw13128665243322953566:=0
def tw2166373955188932272:=0
def tw14776021071435119655:=0
def tw16548489858344219448:=0
def tw6168391534457014993:=0
def tw9685452217566721062:=0
def tw6026168197086241561:=0
def tw500087839049276343:=0
def tw8557269359285277198:=0
def tw1078538781496326634:=0
def tw7039737679425416158:=0
def tw6263181692677586057:=0
def tw627845902815996699:=0
def tw17392096273983988470:=0
def tw4526470480843499481:=0
def tw14706878677825988392:=0
def tw12286279882336903653:=0
def tw11603557151257009490:=0
def tw1881592362786334080:=0
def tw1760628728615176310:=0
def tw1542997890783829396:=0
def tw15526382738433540288:=0
def tw1190778060597381069:=0
def tw12784410996267456292:=0
def tw106811536394145974:=0
def tw14455813456331378548:=0
def tw9390120150423391289:=0
def tw12763147173637444876:=0
def tw7536451112544113666:=0
def tw16316679716918348187:=0
def tw5603277215784972447:=0
def tw14600715357508399063:=0
def tw8264955444123063444:=0
def tw1721384495556908142:=0
def tw10744307959996184329:=0
def tw3493170508378795841:=0
def tw14146039682524562186:=0
def tw15965725532064751786:=0
def tw1114600335591499951:=0
def tw2994270708303656156:=0
def tw14562531029654338352:=0
def tw1464453253952744962:=0
def tw2954392254829042265:=0
def tw15248206853295530756:=0
def tw11911598921254767642:=0
def tw17917937387884509538:=0
def tw3841127384771149623:=0
def tw953668224046980214:=0
def tw9589172125306192104:=0
def tw13920168885780575410:=0
def tw3339182043495101668:=0
def tw14507944853922895810:=0
def tw6267628031770641184:=0
def tw530135191635140086:=0
def tw6820211425729000988:=0
def tw3610051077878477463:=0
def tw1249809657386741624:=0
def tw11350197316349930368:=0
def tw4084355670706218380:=0
def tw7677503984869462330:=0
def tw5707023782776546375:=0
def tw5600821520386476432:=0
def tw4232034078274399353:=0
def tw13538246985260826123:=0
def tw11158298997237213143:=0
def tw13445480603945897772:=0
def tw8084526324838270330:=0
def tw497328278782049028:=0
def tw5610579520933530849:=0
def tw9096127581229303463:=0
def tw14263361791047923090:=0
def tw889167228535528083:=0
def tw17807777755433830413:=0
def tw16283844303631532679:=0
def tw1742772745763420000:=0
def tw11101839198612253060:=0
def tw4698838003211124601:=0
def tw6878742118813796974:=0
def tw4016488505326942225:=0
def tw3028306980625272726:=0
def tw13285190295334641750:=0
def tw13553592804134309052:=0
def tw2014252670559780224:=0
def tw4463700007998589758:=0
def tw10420981378551182325:=0
def tw15981638466953245802:=0
def tw7452307529777587611:=0
def tw4793423238125292067:=0
def tw6123994450200075366:=0
def tw8160496335150509776:=0
def tw8817014896126543226:=0
def tw6242356293397741212:=0
def tw5839673705448398382:=0
def tw4923263502177327848:=0
def tw10348140517430987249:=0
def tw18268482660850714633:=0
def tw15103676066072617846:=0
def tw9194471637260503789:=0
def tw11052655770691456404:=0
def tw1258680013568474662:=0
def tw2481926586896178539:=0
def tw3114048820422676496:=0
def tw15281618244175205973:=0
def tw3035497250772991700:=0
def tw17059508238218970501:=0
def tw13050793354017140478:=0
def tw3114695076727048671:=0
def tw14660592890405009600:=0
def tw3742376684947069076:=0
def tw13140976323508069574:=0
def tw15002076521917087283:=0
def tw17706467142408706871:=0
def tw5987959975122091280:=0
def tw15643614519946362390:=0
def tw9125535966209082431:=0
def tw2819523518993955450:=0
def tw2864988497435423901:=0
def tw3627998723941985844:=0
def tw6436383950365734098:=0
def tw13423507083936738623:=0
def tw1209778321745629333:=0
def tw9829717370069516296:=0
def tw2636866180150354604:=0
def tw9915979004625772296:=0
def tw12836855541221740441:=0
def tw8960262498801125972:=0
def tw12783750209995692301:=0
def tw12797370376940309976:=0
def tw4556649826479330216:=0
def tw868041893418161026:=0
def tw12926619358381672913:=0
def tw11275076474211087247:=0
def tw13586956514498217492:=0
def tw11492711784898329546:=0
def tw17908149080949620166:=0
def tw6134306250652939362:=0
def tw14777897906493180034:=0
def tw5665898163371589376:=0
def tw4002388325784699518:=0
def tw11960641708487405990:=0
def tw15184330660264360592:=0
def tw10210230713249090392:=0
def tw11745920232549361146:=0
def tw16111815293208856686:=0
def tw17050831864403113013:=0
def tw7175681783891215810:=0
def tw916248323219361611:=0
def tw9605609283090961651:=0
def tw6488495785918796637:=0
def tw3727941794380739104:=0
def tw10362494329296555462:=0
def tw11203531298458969085:=0
def tw8755696581233854785:=0
def tw4672980029852492368:=0
def tw5937421713517680852:=0
def tw9348373437116198776:=0
def tw3380963398213295125:=0
def tw7046145250449942038:=0
def tw11220850216769198440:=0
def tw5577879808423084373:=0
def tw18367677825691927174:=0
def tw849060522640339995:=0
def tw12784193068978725660:=0
def tw15387383806225561260:=0
def tw6666024686856009974:=0
def tw15285184239015733747:=0
def tw15470926430357834397:=0
def tw15165109576238568063:=0
def tw18045437060307584511:=0
def tw8682178864961591284:=0
def tw186848768146709321:=0
def tw13732522612917936598:=0
def tw15866343109986644027:=0
def tw3171578878138209641:=0
def tw66767046491052724:=0
def tw9998295984722599389:=0
def tw16285171803678385256:=0
def tw16524507680651930870:=0
def tw8305069491134307527:=0
def tw15499556686486697438:=0
def tw11326274027606721092:=0
def tw12030209031517803392:=0
def tw10382342502055761981:=0
def tw8898861945502044652:=0
def tw13948421910463873648:=0
def tw18441017733158779978:=0
def tw13546738917114484344:=0
def tw9715976056348746909:=0
def tw9271495840011947250:=0
def tw9096405484735354391:=0
def tw14461881782305488653:=0
def tw2655668598591955035:=0
def tw3808099858435168564:=0
def tw1226560257511604710:=0
def tw10305693562847544712:=0
def tw7924615097356972406:=0
def tw14502247691552750617:=0
def tw10448751358207684303:=0
def tw5223105873666780120:=0
def tw7277599886878123587:=0
def tw13008312119616498678:=0
def tw8361530396748371947:=0
def tw16395148791624378432:=0
def tw13577985865793513823:=0
def tw3947924126506696071:=0
def tw2207367273535621263:=0
def tw15604442528818351769:=0
def tw15895425606202607235:=0
def tw3239858286050648692:=0
def tw3272973068056879077:=0
def tw8455844279620915472:=0
def tw14175206247760701303:=0
def tw14629586955493030355:=0
def tw11262165529816673092:=0
def tw5037236277958003549:=0
def tw14023462292903809318:=0
def tw973538244223416918:=0
def tw4797275314790783363:=0
def tw6431520000219022801:=0
def tw17227416357343490081:=0
def tw16116319964549665831:=0
def tw6643104870785506902:=0
def tw8321673224190436429:=0
def tw8054553937902432997:=0
def tw16080669986038419511:=0
def tw11484547790482168523:=0
def tw9388568609384000249:=0
def tw7705438204090499202:=0
def tw8952932183512180790:=0
def tw5292081427402839375:=0
def tw8991465094531031770:=0
def tw18271586074283569705:=0
def tw1942053302992466474:=0
def tw15927049790228681902:=0
def tw5264689344027191294:=0
def tw13059791479160116801:=0
def tw9283427518713511274:=0
def tw4765488826814743096:=0
def tw8975304913475238867:=0
def tw7296092245900163171:=0
def tw18297898479052398366:=0
def tw2438588367398370532:=0
def tw9430546503583724669:=0
def tw11326703765994238018:=0
def tw12460771031104322467:=0
def tw14975165152231436911:=0
def tw6357112169896871976:=0
def tw11716207006681171956:=0
def tw4221068081390448327:=0
def tw11138950567444122853:=0
def tw4268070831346252763:=0
def tw12317358101253538563:=0
def tw6221257449817703628:=0
def tw12193245322656240561:=0
def tw13003742225684346835:=0
def tw6792449301007365507:=0
def tw1685052329749692556:=0
def tw15258023712492525385:=0
def tw1907409938110138798:=0
def tw11933345126241506228:=0
def tw2531993948714692141:=0
def tw10938429613508889876:=0
def tw12424309340008221265:=0
def tw10168193443331496462:=0
def tw15411026166871333005:=0
def tw18211017096796999683:=0
def tw14283149702346673742:=0
def tw10564344759313033353:=0
def tw14862176442161835658:=0
def tw8140307887818480730:=0
def tw715556800994062946:=0
def tw14989897668364147790:=0
def tw12707796480608753824:=0
def tw4315506124553789769:=0
def tw12468615600502047700:=0
def tw13008858332780669719:=0
def tw17409201411329100951:=0
def tw588256582203435198:=0
def tw15453951249303145791:=0
def tw6511242651223838255:=0
def tw18287560178022085591:=0
def tw5004262098723334142:=0
def tw5956722092522154105:=0
def tw13617319391946501757:=0
def tw2056405667437813457:=0
def tw774453918838058275:=0
def tw8240080864236177336:=0
def tw3474325040689770898:=0
def tw1774937005769013899:=0
def tw10377311437034362236:=0
def tw18371699477747544235:=0
def tw7493457883686283647:=0
def tw7606100249267981864:=0
def tw17456075939776112866:=0
def tw9467050006042108803:=0
def tw10872329646840863637:=0
def tw10740531156117748435:=0
def tw11366562462725358155:=0
def tw17870713095897377132:=0
def tw16986298563114282752:=0
def tw3273311709425815636:=0
def tw3783965898355797979:=0
def tw13957079301818392218:=0
def tw2497330434980800681:=0
def tw12983414592443488470:=0
def tw17323159589970205866:=0
def tw14728605386717694236:=0
def tw12754255995542602001:=0
def tw2295719043692493233:=0
def tw15278749986121541241:=0
def tw15771014198489750927:=0
def tw583886017475003020:=0
def tw11280735802949697047:=0
def tw9216415240054630581:=0
def tw4797983666132820175:=0
def tw2820660023309553608:=0
def tw8041736205299029387:=0
def tw16522402971784771853:=0
def tw8276286581064240621:=0
def tw9984408202057376398:=0
def tw8376656477579105216:=0
def tw15011582225670805416:=0
def tw2446460215822403966:=0
def tw4086871184461178371:=0
def tw8498371446800661704:=0
def tw3866553187086587743:=0
def tw9899234729318263453:=0
def tw14643581291997362161:=0
def tw9086644238633457940:=0
def tw12864162039950882771:=0
def tw17761990900688828985:=0
def tw15756176280180897117:=0
def tw17631782951595172337:=0
def tw13056201264219313143:=0
def tw17690908705461519126:=0
def tw9923027428831690127:=0
def tw12680762358463619095:=0
def tw13924176503859239608:=0
def tw3129695352533788457:=0
def tw6487197157461971955:=0
def tw7115755302480050849:=0
def tw16638696059104434520:=0
def tw16048146406546874207:=0
def tw18003132721658672401:=0
def tw11279032418194627414:=0
def tw14919290050291040464:=0
def tw14572176672718491047:=0
def tw11853417647951453379:=0
def tw13550107890160513351:=0
def tw9575463431551565001:=0
def tw3084091778390484276:=0
def tw15496565375657255749:=0
def tw16437173266926279059:=0
def tw14892822601410412427:=0
def tw17552780330259526159:=0
def tw11893623097845290569:=0
def tw12911169943454809258:=0
def tw17041560465227826601:=0
def tw6661053155635436883:=0
def tw8661467660417104246:=0
def tw5127421657217799394:=0
def tw13996765961015618177:=0
def tw6528897047748760423:=0
def tw17137030104564408828:=0
def tw10905576366084890373:=0
def tw7615598862784499600:=0
def tw11194831414309222621:=0
def tw1180710971145879575:=0
def tw3350822185267076574:=0
def tw6746012943886260987:=0
def tw10938119760854726777:=0
def tw8974701843172355221:=0
def tw2856234977022980910:=0
def tw14217783867756668911:=0
def tw4473171998597868545:=0
def tw5620581563656546780:=0
def tw593973524892981397:=0
def tw2197022250094902882:=0
def tw17678262728345822294:=0
def tw14027259407334497956:=0
def tw4908736210742355593:=0
def tw2358536744301254625:=0
def tw14634992247842919089:=0
def tw12586135217143843323:=0
def tw967003589536201545:=0
def tw2548553163709856938:=0
def tw13583380004378355062:=0
def tw17464412762629801162:=0
def tw18370014269769885911:=0
def tw2344941911114428849:=0
def tw14877601914014952617:=0
def tw294897973900268873:=0
def tw13183947276022578338:=0
def tw12002783306084221841:=0
def tw1963714530105042349:=0
def tw12092831785243139619:=0
def tw16410483246821495317:=0
def tw8576940827380316969:=0
def tw687374654652558783:=0
def tw9342332272698076644:=0
def tw14381231964467077922:=0
def tw13926985948927348591:=0
def tw12495232782876006922:=0
def tw8243395336874678006:=0
def tw15309342492083459328:=0
def tw8596204091276165190:=0
def tw11931783461670291911:=0
def tw12659389389487414362:=0
def tw2662514315597957463:=0
def tw13941061377173041333:=0
def tw14705545335977334722:=0
def tw6699721245326366290:=0
def tw16482158922130263333:=0
def tw16077606807846348303:=0
def tw1628974358461005953:=0
def tw16656045428668323918:=0
def tw934932125070517168:=0
def tw9863646126505638147:=0
def tw9756870155727814854:=0
def tw10453407088162029728:=0
def tw15899021235696266037:=0
def tw1916028173210287395:=0
def tw14821912044167183728:=0
def tw5505887365839614539:=0
#check PySem.W.Fast
namespace S92
open PySem L2 XL
theorem walk {l:PySem.W.OpenLaw}{q:Program}{loose:ai}{XP:zdn}{YP:zbp}{d:DefRec}{K:Params->Zd} (hn:l.most=some 63) (hdf:Xl)
    (hY:(znt,(vj).In h))
    (F:∀(w:World) (mg:Str->Option Value) (fa:Addr) (h:Heap),(vj).In h->h.Ns mainGlobals mg->zbU ->
      ∃ fd:FuncData,(Vc "_law_script")/\(Mn,(vj).In base,FnOk true l.prog w vj mg base zdg 12 fa fd O6 (xkf (K w.params)))) :
    PySem.W.WalkO q loose XP YP l.row.toRowW d [] V4 :=
  L2.walk_of (q0:=true) (n:=63) (k:=12) (x:="_law_script") (CX:=fun w=>zdg) (sp:=fun w=>xkf (K w.params)) hn ap hdf ⟨o5,ap,ap,rfl⟩ hY F (fun _ _ a ns hl _ hS=>⟨a,ns,rfl,hS,hl,o5⟩)
    fun w H s e s' z=>by obtain⟨_,_,_,_,_,_,_,_,_,_,_,_,_,_,q⟩:=z; exact q
theorem all_mk {l:PySem.W.OpenLaw}{w:World}{K:Zd}{h:Heap}{mg:fK}{fa:Addr} (hfa:bX "law" fa) (TT:∃ t,aX) :
    ∃ fd:FuncData,(∀(s:Shared) (v:Value),zey [v] [("_law_script",v)])/\(Mn,K.In base,FnOk true l.prog w K mg base zdg 12 fa fd O6 (xkf K)):=by
  obtain⟨t,T⟩:=TT;have e:=hfa.symm.trans T.g_law;cases e;show(dc,t.d_law,am s v,fun base _ _=>xu7 T);obtain⟨oc,od,kV,doc,pm,an,cdv,ct,osl,e,lk,hcd⟩:=T.F_law.ex;rw[e];exact .of_eq rfl
#check S92
open PySem PySem.W PyProof.Rows
end
set_option maxRecDepth 100000 in
set_option maxHeartbeats 0 in
theorem PySem.Challenge.cw_rimnotes_k92_whole_stretched_holds : PySem.Challenge.rw_rimnotes_k92_whole_stretched.Holds := by
 w_on; o_law; k_head; (case hw=>w_witness2)
 k_fill
 refine S92.walk (l:=PySem.Challenge.rw_rimnotes_k92_whole_stretched) rfl rfl (fun w h Y=>PySem.W.kIn_of Y) ?F
 case F =>
  intro w mg fa h KX G hmg
  refine S92.all_mk (h:=h) hmg ?TT
  refine' S92.txt_mk (w:=w) KX G ?g_bh ?g_af ?g_x ?g_ac ?g_r ?g_a ?a_at ?F_at ?i_at ?a_ag ?F_ag ?i_ag ?a_ab ?F_ab ?i_ab ?a_s ?F_s ?i_s ?a_aa ?F_aa ?i_aa ?a_z ?F_z ?i_z ?a_p ?F_p ?i_p ?a_as ?F_as ?a_av ?F_av ?a_meeting ?F_meeting ?a_meetings ?F_meetings ?a_total ?F_total ?a_ax ?F_ax ?a_upright ?F_upright ?a_ap ?F_ap ?a_exchangeable ?F_exchangeable ?a_ae ?F_ae ?a_exchanged ?F_exchanged ?a_uncrossed ?F_uncrossed ?a_ah ?F_ah ?i_ah ?a_o ?F_o ?i_o ?a_c ?F_c ?i_c ?a_crowds ?F_crowds ?a_fits ?F_fits ?a_aw ?F_aw ?a_kept ?F_kept ?a_al ?F_al ?i_al ?a_w ?F_w ?i_w ?a_u ?F_u ?i_u ?a_t ?F_t ?i_t ?a_g ?F_g ?i_g ?a_least ?F_least ?a_fault ?F_fault ?a_answer ?F_answer ?a_ak ?F_ak ?a_az ?F_az ?a_ai ?F_ai ?i_ai ?a_b ?l_b ?c_b ?k_b ?i_b ?t_b ?a_k ?F_k ?i_k ?a_i ?F_i ?i_i ?a_q ?F_q ?i_q ?a_j ?F_j ?i_j ?a_v ?F_v ?i_v ?a_n ?F_n ?i_n ?a_h ?F_h ?i_h ?a_d ?F_d ?i_d ?a_l ?F_l ?i_l ?a_f ?F_f ?i_f ?a_e ?F_e ?i_e ?a_ao ?F_ao ?a_m ?F_m ?a_am ?F_am ?a_an ?F_an ?a_a1 ?F_a1 ?a_aq ?F_aq ?a_ar ?F_ar ?a_y ?F_y ?a_au ?F_au ?a_ay ?F_ay ?a_aj ?F_aj ?a_law ?F_law ?kc_af ?pg_af ?hd_af ?po_af ?sa_af ?mk_af ?a_LeftSide_init ?kc_x ?pg_x ?hd_x ?po_x ?sa_x ?mk_x ?a_RightSide_init ?kc_ac ?pg_ac ?hd_ac ?po_ac ?sa_ac ?mk_ac ?kc_r ?pg_r ?hd_r ?po_r ?sa_r ?mk_r ?kc_a ?pg_a ?hd_a ?po_a ?sa_a ?mk_a ?cg ?ct ?n_a8 ?n_a3 ?n_a0 ?n_a2 ?n_a6 ?n_a4 ?n_a5 ?n_a9 ?n_bb ?n_bc ?n_a7 ?n_ba ?n_bf ?n_abs ?n_all ?n_bool ?n_dict ?n_enumerate ?n_int ?n_isinstance ?n_len ?n_list ?n_max ?n_min ?n_range ?n_reversed ?n_set ?n_sorted ?n_str ?n_sum ?v_bg ?v_bd ?v_be ?g_ad ?l_ad ?ns_ad
  case g_bh|g_af|g_x|g_ac|g_r|g_a|a_as|a_av|a_meeting|a_meetings|a_total|a_ax|a_upright|a_ap|a_exchangeable|a_ae|a_exchanged|a_uncrossed|a_crowds|a_fits|a_aw|a_kept|a_least|a_fault|a_answer|a_ak|a_az|a_ao|a_m|a_am|a_an|a_a1|a_aq|a_ar|a_y|a_au|a_ay|a_aj|a_law|g_ad=>delta S92.gI; k_is
  case a_at|a_ag|a_ab|a_s|a_aa|a_z|a_p|a_ah|a_o|a_c|a_al|a_w|a_u|a_t|a_g|a_ai|a_b|a_k|a_i|a_q|a_j|a_v|a_n|a_h|a_d|a_l|a_f|a_e|a_LeftSide_init|a_RightSide_init=>delta S92.fI; k_is
  case F_at|F_ag|F_ab|F_s|F_aa|F_z|F_p|F_as|F_av|F_meeting|F_meetings|F_total|F_ax|F_upright|F_ap|F_exchangeable|F_ae|F_exchanged|F_uncrossed|F_ah|F_o|F_c|F_crowds|F_fits|F_aw|F_kept|F_al|F_w|F_u|F_t|F_g|F_least|F_fault|F_answer|F_ak|F_az|F_ai|F_k|F_i|F_q|F_j|F_v|F_n|F_h|F_d|F_l|F_f|F_e|F_ao|F_m|F_am|F_an|F_a1|F_aq|F_ar|F_y|F_au|F_ay|F_aj|F_law=>exact L2.fun_mk (by k_is) (by k_is) (by k_is)
  case sa_af|sa_x|sa_ac|sa_r|sa_a=>delta S92.fB; k_is
  case n_a8|n_a3|n_a0|n_a2|n_a6|n_a4|n_a5|n_a9|n_bb|n_bc|n_a7|n_ba|n_bf=>delta S92.fN; k_is
  case n_abs|n_all|n_bool|n_dict|n_enumerate|n_int|n_isinstance|n_len|n_list|n_max|n_min|n_range|n_reversed|n_set|n_sorted|n_str|n_sum=>delta S92.gN; k_is
  case i_at|i_ag|i_ab|i_s|i_aa|i_z|i_p|i_ah|i_o|i_c|i_al|i_w|i_u|i_t|i_g|i_ai|l_b|c_b|k_b|i_b|t_b|i_k|i_i|i_q|i_j|i_v|i_n|i_h|i_d|i_l|i_f|i_e|kc_af|pg_af|hd_af|po_af|kc_x|pg_x|hd_x|po_x|kc_ac|pg_ac|hd_ac|po_ac|kc_r|pg_r|hd_r|po_r|kc_a|pg_a|hd_a|po_a|cg|ct|v_bg|v_bd|v_be=>k_is
  case mk_af|mk_x|mk_ac|mk_r|mk_a|l_ad=>first|k_is|kernel_rfl
  case ns_ad=>kernel_rfl
