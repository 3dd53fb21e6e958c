import PyProof.Rows.All
import Wide.All
import OpenK.AllK
import PySem.Challenge.RW_rimnotes_k54_whole_answers
set_option maxRecDepth 100000
set_option maxHeartbeats 4000000
set_option Elab.async false
set_option linter.all false
set_option genSizeOf false
set_option compiler.extract_closed false
open List renaming length_map→Za,getElem?_eq_getElem→Zb,getElem?_map→Zd,mem_map→Zg,mem_cons_of_mem→Zi,getElem?_eq_some_iff→Zl,mem_cons_self→Zm,mem_of_getElem?→Zn,map_cons→Zo,mem_singleton→Zp,map_append→Zq,length_append→Zr,mem_cons→Zu,mem_append→Zw,range→Zx,mem_filter→Zy,lookup_cons→Zz,map_map→Z0,mem_append_right→Z1,size_toArray→Z6,nodup_cons→Z8,mem_append_left→ZF,length_cons→ZG,nodup_append→ZL,getElem_of_mem→ZM,mem_range→ZS,take_add_one→ZT,pairwise_map→ZU,getElem?_append_left→ZV,length_range→ZX,length_filter_le→ZY,filter_cons_of_pos→Jd,filter_cons_of_neg→Je,length_singleton→Jg,take_length→Jh,mem_filterMap→Jl,mem_of_find?_eq_some→Jm,any_eq_true→Jp,getElem?_eq_none→Jt,pairwise_iff_getElem→Ju,lookup→Jv,getElem?_append_right→J4,sum_cons→J5,map_congr_left→JB,nodup_iff_pairwise_ne→JG,filterMap_cons→JI,range_succ→JM,not_mem_nil→JP,any_cons→JS,nodup_nil→JV,find?_cons_of_pos→JZ,length_take→Yd,find?_eq_none→Ye,filter_append→Yf,getElem?_replicate→Ym,getElem?_range→Yp,take_of_length_le→Yq,range_succ_eq_map→Yr,length→Ys,Pairwise→Yu,Nodup→Y3,map_id→Y8,countP_eq_length_filter→YJ,Perm→YK,length_replicate→YM,append_assoc→YO,idxOf_lt_length_of_mem→YQ,getElem_map→YX,all_eq_true→YY,drop_eq_getElem_cons→YZ,find?_cons→Qd,append_nil→Qe,pairwise_cons→Qh,replicate→Ql,find?_append→Qm,find?_cons_of_neg→Qp,perm_middle→Qy,getElem_mem→Qz,map_take→Q5,map_drop→Q6,all_cons→Q7,mem_of_mem_take→Q9,mem_iff_getElem→QA,getElem?_set_ne→QB,filter_sublist→QD,filterMap_map→QK,take_sublist→QS,foldl_append→QT,filter_congr→QU,ext_getElem?→QV,cons→Wb,filter_cons→Wf,append_inj'→Wg,getElem?_cons_succ→Wh,find?_some→Wq,filter_nil→Wr,filter_map→Ws,take_append_drop→Wu,mem_of_mem_drop→W4,mem_erase_of_ne→W5,getElem_idxOf→WG
open PySem renaming wpAny_bind→Zc,wpAny_pure→Zk,Spec→ZN,wpAny_dictEntries→ZO,wpAny_holding→ZZ,wpAny_mono→Ja,wpAny_dictEpoch→Jq,mem_of_lookup→Jy,wpAny_call_entry→Jz,wpAny_Call_Name_kw→JN,wpAny_callSpecial?_slot→JR,call_meetsIn→JU,wpAny_newObj_type→JW,codeAny_builtin→Ya,wpAny_truthy_bool→Yk,boot_len→Yv,wpAny_notOrdered_dict→Yw,wpAny_Call_method0_late→Y5,wpAny_typeNameOfWhole_itemiter→Y7,wpAny_typeNameOfWhole_valiter→YA,wpAny_typeNameOfWhole_keyiter→YB,tupleKind_room_in1→YD,wpAny_isOneOf_itemiter→YE,wpAny_passesOwn→YG,wpAny_loadPart'→YH,wpAny_attempt→YL,wpAny_setState_of→YN,codeAny_mono→YU,wpAny_isInstance→YW,evalArgs_none→Qb,plainId_quiet→Qc,wpAny_setField_rec→Qg,wpAny_isOneOf_valiter→Qr,wpAny_isOneOf_keyiter→Qs,wpAny_richCompare_same_room→QE,wpAny_field→QN,sizeLine_eq→QO,wpAny_pyIter_list→QP,wpAny_Call_method→QQ,wpAny_comprehension_free→QX,wpAny_forIn_list→Wc,wpAny_call→Wi,wpAny_typeOf→Wl,Within→Wm,wpAny_execs_nil→Wp,wpAny_pyIter_keyiter→W1,codeAny_call_builtin→W2,wpAny_raiseNew_none→W9,wpAny_standAt→WD
open PySem.Heap renaming get?_push_of_some→Ze,get?_push_size→Zt,lt_size→Zv,SameBut→Jn,get?_update_self→JJ,size_push→JL,get?_update_other→YF
open PySem.W renaming Frag→Zf,mg_of→Z4,isFn→ZK,findIn→ZR,mg_none_of→Jb,keepIn→J7,fnOf→JC,kia_one→JH,emptyDict→JX,plainGet→Yc,hasDictIn→Yl,instObj→Yz,plainOver→Y0,makesIn→YI,codeIn→Qk,nsIn→Wn,lookIn→Wx,kitOne→Wy,plainGet_of→WB,cmp_ofNotEq→WC,callWith_K→WF
open Option renaming map_eq_some_iff→Zh,some→ZH,map_some→Yb,isSome_map→QR,isSome_iff_exists→QZ,bind_some→Wd
open Nat renaming le_refl→Zj,lt_of_lt_of_le→Z5,ne_of_lt→ZD,lt_trans→ZI,le_trans→ZJ,zero_le→ZQ,lt_of_le_of_lt→Js,le_of_lt→J6,le_succ→JO,lt_irrefl→Yt,lt_or_ge→YV,ne_of_gt→Qj,lt_succ_self→Qw,le_add_right→Qx,not_lt→QJ,le_of_not_lt→We
open PySem.Value renaming ref→Zs,none→JE,bool→YC,int→YT,str→Qu,builtin→Q3,type→Wj,isStrOf_shape→WA
open Ne renaming symm→Z2
open PySem.SeqAt renaming EqAt→Z3,RcNeAt→ZA,RcAt→ZP
open Bool renaming false_ne_true→Z7,and_eq_true→Z9,false_eq_true→ZC,eq_false_iff→Ji,eq_iff_iff→Jr,true_and→JK,false_and→Yi,not_eq_true'→Qn,and_false→W0,not_true→WE
open PySem.PassesOwn renaming never→ZB
open PySem.Str renaming ofString→ZE,empty→W8
open Sum renaming inr→ZW,inl→Q2
open Array renaming length_toList→Jc,getElem?_eq_getElem→Jf,getElem?_toList→Jk,getElem?_eq_some_iff→YS,getD→Qv,getD_eq_getD_getElem?→QF,map→QH,mem_toList_iff→W6
open PySem.F renaming plainAttrs_list→Jj,plainAttrs_dict→J0,type_list_append→J9,slot_list_append→JA,called_set→JD,slot_dict_valueiterator_next→Yg,slot_dict_values→Yh,slot_dict_itemiterator_next→Yj,slot_dict_keyiterator_next→Yo,slot_dict_get→Yx,slot_dict_items→Qi,entry_dict_get→Qo,slot_dict_pop→Qt,slot_dict_ne→Q8,args_dict_values_1→QL,entry_dict_values→QM,type_dict_values→QY,slot_list_getattribute→Wa
open PyProof.Rows renaming callWith_type1→Jo,slot_tuple_getitem→Qq,callWith_builtin1→Q1,strKind→W3
open PySem.Calls renaming callWith_builtin→Jw,spliced_cons→JF,spliced_nil→JY,evalArgs_plain→YR,call_function_entry→Qa
open True renaming intro→Jx
open PySem.Spec renaming ltCps→J8
open PySem.Around renaming under_plainId→JQ
open PySem.Obj renaming mapSeq→JT,putSet→Wk
open False renaming elim→Yn
open Classical renaming byContradiction→Yy
open Int renaming toNat_natCast→Y1,eq_ofNat_of_zero_le→Y6,le_refl→Y9,emod_nonneg→Wt,mul_add→Wv,emod_lt_of_pos→WH
open PySem.Paired renaming length→Y4
open ForInStep renaming yield→Qf
open PySem.NameKind renaming free→Q4,cell→QW
open Or renaming inl→QC,inr→QI
open LawfulBEq renaming eq_of_beq→QG
open PyProof renaming noPylong_small→Wo
open PySem.Data renaming fields→Ww
open PySem.Builtin renaming sorted→Wz
open Prod renaming mk→W7
set_option hygiene false
namespace Ab
open Lean
abbrev Tb:=Std.HashMap Name (Array Name×Syntax)
def sub (p:Array Name) (a:Array Syntax) (b:Syntax):Syntax:=b.rewriteBottomUp fun s=>if s.isIdent then (match p.idxOf? s.getId with|some i=>a[i]!|none=>s) else s
def put (t:Tb) (n:Syntax) (a:Array Syntax):Option Syntax:=if n.isIdent then (match t.get? n.getId with|some (p,b)=>if p.size==a.size then some (sub p a b) else none|none=>none) else none
def par (b:Syntax):MacroM Syntax:=if b.isIdent then pure b else return (← `(($(⟨b⟩)))).raw
def tac (b:Syntax):MacroM Syntax:=match b.find? (·.isOfKind `Lean.Parser.Term.byTactic) with|some x=>return (← `(tactic|($(⟨x[1]⟩):tacticSeq))).raw|none=>return b
def pat (s:Syntax):Syntax:=if s.isOfKind `Lean.Parser.Tactic.rintroPat.one then s[0][0] else s
def step (t:Tb) (s:Syntax):MacroM Syntax:=do
 if s.isIdent then
  if let some b:=put t s #[] then return ←par b
  return s
 let k:=s.getKind
 if k==`Lean.Parser.Term.app then
  if let some b:=put t s[0] s[1].getArgs then return ←par b
 else if k==`Lean.Parser.Term.tuple then
  let a:=s[1]
  if let some b:=put t a[0] a[2].getSepArgs then return ←par b
 else if k==`Lean.Parser.Tactic.show then
  if (s[1].find? (·.isOfKind `Lean.Parser.Term.byTactic)).isSome&&(s[1].isOfKind `Lean.Parser.Term.paren||s[1].isOfKind `Lean.Parser.Term.byTactic) then return ←tac s[1]
 else if k==`Lean.Elab.Tactic.Ext.ext then
  let a:=s[1].getArgs.map pat
  if let some b:=a[0]? then
   if b.isIdent then
    if let some b:=put t b (a.extract 1 a.size) then return ←tac b
   else if (b.find? (·.isOfKind `Lean.Parser.Term.byTactic)).isSome then return ←tac b
 return s
def rp (p:Syntax):TSyntax `rintroPat:=⟨mkNode `Lean.Parser.Tactic.rintroPat.one #[if p[1].isNone&&p[0][0].getNumArgs==1 then p[0][0][0] else mkNode `Lean.Parser.Tactic.rcasesPat.paren #[mkAtom "(",p,mkAtom ")"]]⟩
def nm (c:String) (s:Syntax):Term:=mkIdent (.mkSimple (c++toString (s.isNatLit?.getD 0)))
def step2 (s:Syntax):MacroM Syntax:=do
 let k:=s.getKind
 if k==`Lean.Parser.Term.anonymousCtor then
  let a:=s[1].getSepArgs
  if let some n:=a[0]?.bind (·.isNatLit?) then
   if n>40 then
    let b:Array Term:=(a.extract 1 a.size).map (⟨·⟩)
    return (←`($(nm "n" a[0]!) $b*)).raw
 else if k==`Lean.Parser.Tactic.obtain then
  if (s[2][1].isNatLit?).isSome then
   let q:=s[1][0][0][0][1].getSepArgs.map rp
   let h:Term:=⟨s[3][1].getSepArgs[0]!⟩
   let f:=nm "i" s[2][1]
   return (←if h.raw.isIdent&&h.raw.getId.isAtomic then `(tactic|(revert $h:term;refine $f ?_;rintro $q*)) else `(tactic|(refine $f ?_ $h;rintro $q*))).raw
 else if k==`Lean.Parser.Tactic.rintro then
  let a:=s[1].getArgs
  if let some j:=a.findIdx? (fun p=>p.isOfKind `Lean.Parser.Tactic.rintroPat.binder&&(p[2][1].isNatLit?).isSome) then
   let f:=nm "i" a[j]![2][1]
   let q:=a[j]![1][0][0][1].getSepArgs.map rp++(a.extract (j+1) a.size).map (⟨·⟩)
   let p:Array (TSyntax `rintroPat):=(a.extract 0 j).map (⟨·⟩)
   return (←if j==0 then `(tactic|(refine $f ?_;rintro $q*)) else `(tactic|(rintro $p*;refine $f ?_;rintro $q*))).raw
 return s
end Ab
local macro_rules|`(mutual $cs* end)=>do
 let d:=cs[0]!.raw[1][3]
 unless d.isOfKind `Lean.Parser.Command.whereStructInst do Lean.Macro.throwUnsupported
 let mut t:Ab.Tb:={}
 let mut o:=#[]
 for f in d[1][0].getSepArgs do
  let f←f.rewriteBottomUpM (Ab.step t)
  t:=t.insert f[0][0].getId (f[1][0].getArgs.map (·.getId),f[1][2][2])
 for c in cs[1:] do
  if c.raw.isOfKind `Lean.Parser.Command.check then
   let e←if c.raw[1].isIdent then `(command|end $(⟨c.raw[1]⟩):ident) else `(command|end)
   o:=o.push e.raw
  else o:=o.push (←(←c.raw.rewriteBottomUpM (Ab.step t)).rewriteBottomUpM Ab.step2)
 return Lean.mkNullNode o
mutual
def a where
aa:=by omega
i4 a b:=List (a × b)
aK a b:=by rw[a];exact b
dc a:=Option a
cE a:=(a:Int)
aE a b:=(H a)=(some b)
bX a b:=a->(b->Prop)
ae a b c d:=by obtain⟨a,b,c⟩:62:=d
af a b c d:=by have a:=b;have c:=d
eT a b:=xg (pv a) b
au a b:=fun a b=>?_
bu a:=some (.ref a)
dX a b c:=(a[b]?)=(some c)
ao:=by decide
cq a b:=⟨_,a,b⟩
Gh a b c:=Inv X pins a b c
aD a b:=by ext aK a b
b8 a b:=(Gh Z a b)
ax a b c d e:=a/\(b/\(c/\(d/\e)))
ai:=List Str
ay a:=if_neg a
aA a:=fun z=>a
bv a b c d e:=⟨83,a,b,c,d,e⟩
ag:=List V
bg a:=((a).2).1
aC a:=if_pos a
aj:=by simp
aN:=p.1
fU a:=.type a
aB:=.ref a
aF a b:=(dX a i b)
df a b c:=fun a b e=>c
ba a b c d:=⟨63,a,b,c,d⟩
ia a:=(b8 H a)
BN:=by decide +kernel
aJ a b c:=by exact⟨a,b,c⟩
aP:=by ext BN
bC a b c d e:=fun a b c d e=>?_
av:=List Seat
dU a:=(bX a Shared)
gG a:=(eT a xi)
ap a b c d:=by have a:b:=c;refine d
aq:=(ia s)
bb a:=SqL.of a
gF a:=⟨_,a⟩
aw:=List Pt
bG a:=decide a
b6 a:=((a).2).2
bI a:=(H a)=none
bO a b c d e:=⟨45,a,b,c,d,e⟩
aM:=i+1
aL a b c:=fun a b c=>?_
az:=List Addr
bj a b c d e:=a->(b->(c->(d->e)))
eg a b:={ cls:=(fU a),data:=b }
bT a:=(cq rfl a)
cI a b c d:=⟨44,a,b,c,d⟩
aO a b:=by exact⟨a,b⟩
aX a:=some (.int a)
c8 a:=fun a=>?_
cS a:=a=false
bN a b:=by refine a;refine b
jS a b:=by obtain⟨a,rfl⟩:=b
fC:=fun _ _=>rfl
aG:=Seat->(dc Str)
zQ a:=(i4 Addr a)
aH:=model X.prog X.w
b9 a b c d e:=by obtain⟨a,b,c,d⟩:63:=e
cR a b c:=by refine⟨a,b,c⟩
aQ:=List Value
aI:=(i4 Key V)
aZ:=x.1
bc a b c d:=(a=b)/\(c/\d)
o9 a b c d:=(a≠b)->(c->d)
gK a:=Same H a
aT:=(dU Value)
cX a b:=by obtain rfl:a:=b
bZ a:=by have:=a;omega
b7:=.ref d
nG a:=(bX a Hp)
bz:=pv 0
dM a b:=by exact (absurd a b)
aR:=model prog w
dR a:=SqT.of a
d6:=List Key
aW:=(zQ Obj)
dw:=by subst e
bH:=.ref l
iN a b:=(eT a (gG b))
bQ a b:=(dX a j b)
bw a b c d e:=by have a:b:=(fun c d=>e)
kJ a b c d:=⟨a,_,b,c,rfl,d⟩
aS a b:=x0 K a b []
aU:=CXo P w
dk a b:=⟨a,b,rfl⟩
m8 a b:=by rw[<- a];exact b
bm a b c:=xw a b (xp c)
dC a:=⟨rfl,a⟩
aV:=Txt w K mg t
cA a b:=by rw[a,b]
bA a b c:=by rw[a] at b;cases c
dB a:=a<=sizeLine
bq a b c d:=a->(b->(c->d))
bE a b:=(aD,xj a,b)
aY a:=(bC vs H Q a h)
bo:=Zj _
lL a:=by refine(cq a ?_)
wv a:=x8 (pv a) rfl
br a:=by refine (Zc a)
cF a b c:=upd a b (.lst c)
iQ a b c:=(ba a rfl b c)
bD a b c d:=a/\(b/\(c/\d))
nu a:=by exact a
dE a b:=by refine⟨a,b⟩
uQ a b c:=⟨a,b,rfl,c⟩
eD a b c d:=(bv a b rfl c d)
fF a b c d e:=(upd a b c d)=(some e)
cL:=k+1
bi:=hmm hr
iy a b:=fun i a=>b
mL a b c d e:=let a:=b; (let c:=d; e)
fT a:=(a:Str)
cD a b c:=by rw[a,b];exact c
bn:=List Pr
d9 a b:=(bG,a=b)
cK:=(bg x)
gf:=(gF rfl)
bp:=Str->(dc Seat)
bF a:=by simp[a]
dD:=(cE i)
d8 a:=xm (xz a)
bK a b c d:=⟨82,a,b,c,d⟩
ez a b c:=upd a b (.tup c)
bB:=(wv 0)
cH a b:=by rw[a] at b;cases b
c9 a b:=by rw [a];exact b
cp:=(aN).nm
iW a:=by ext jS t a
lY a b:=.ins a dx b
gR:=(rnd mask h r).1
bJ a b:=by ext m8 a b
Gp a b:=(cS,a == b)
bW:=(aC rfl)
eR:=xan hr
cG:=(gK H')
dH:=x.2
cJ a b c:=by rw[a] at b;exact c
lq a b:=(a,.ref b)
dY a b c d:=(bv a b c rfl d)
cU a b c:=show (a=b) from c
i9 a b:=fun Z H a=>b
cu a b c d:=fun a b c d=>?_
cY a:=by exact (.inl a)
C0:=xaj _
cW:=.ref b
bS:=(dc V)
d4 a b:=.cons a b
cT:=List α
bP a b:=by show(aK,xj a,b)
dW a:=(cE (a:Nat))
cP a:=(cq a rfl)
bL:=Seat->Int
fh a:=by exact (.inr a)
lU a b c:=by show(ae,a,b,rfl,c)
bR:=Str->Int
bM:=xar aP
bV a b:=(mg a)=(some (.ref b))
jh a b c:=by show(af,a,su_e b eu,c,ug_e eu)
dG:=p.2
d7 a:=by rw[a];rfl
cM a b c:=if (a=true) then b else c
fD a b c:=by obtain⟨a,b,_⟩:62:=c
dQ a:=ne_f e a
yF:=(i4 Seat Int)
bU a:=Z4 X G a
cC a b c d:=by have a:b:=c;refine d
kU a:=(df b u a)
gH a b:=by show(cR,a,b,?_)
MF a b c:=xae a (pv b) c fC
b5:=_::_
gQ:=c.1
eC:=.ref q
dZ a b:=upd H a b
fe a b c:=upd a b (.dK c)
mT a b c d:=(bO a T.c_a b c d)
iS:=kv.1
dI a:=Zu.mp a
cO:=.int i
gZ a b:=(aE,a,.tup b)
sK a b c:=(cI rfl a b c)
uq a:=.str (xao a)
ff:=some v
lm a:=s1 _ _ a
eZ:=.inl rfl
jp a b c:=(iQ a (gF (bb b)) c)
f7:=(nu leS2)
gc:=Zt _ rfl
gT a:=((a).isSome)=true
fZ a b:=(eT,a,xg b xi)
cV:=(bu a)
im a:=eval a X.env
iG:=by split<;>omega
eB:=.ref p
uO:=(cE 0)
gO a b c:=fun i a b=>c
pY a c d:=∀ b u,(o9 b a c d)
cQ:=by assumption
gD:=.ref C
dJ:=(aA,nomatch z)
hX:=(b6 p)
cN:=Str->yF
eA:=xad ps
eK:=c.2
fM a b:=(a-b).toNat
iK a b:=xg a (xg b xi)
c7 a:=xaa (Same.refl _) a
jA a b:=⟨a,rfl,b⟩
dL a b c d:=by obtain ⟨a,b,c⟩:62:=d
dS a:=show a by omega
Fd a:=["picture", a]
dP a:=s5 _ _ a
cZ a:=(ZK K (.ref a))=true
fc a:=⟨a,rfl⟩
jf:=y.1
oU a:=.builtin a
dF a:=by rw[a]
gW a b c d:=if (a<b) then c else d
eX:=fun _=>none
iJ:=(aE b u)
dh:=(i4 Str ai)
jF a:=xj (Z2 a)
KK a:=itP pw ss prs a
du a:=xay I q a
i7 a:=⟨a,[]⟩
kN a b:=by rw[a,b];rfl
B3 a:=fun _ _ z=>a
qR:=by simpa using hb
jX a b:=["self", a, b]
dA:=(i4 d6 V)
wG a:=way mask h a
dy:=Array Nat
ud a c:=fun b a nb e=>c
eV a b:=absI (a-b)
eS a:=⟨a,?_⟩
fR a:=fun h=>a
dO a b c d e:=by have a:b:=c;have d:=e
jc a b:=by by_cases c:(a=b)
ie:=.ref s.heap.objs.size
i0:=I.tok _
fP:=ZQ _
sL a:=(bX Hp a)
eF:=i<n
dN:=(bI b)
nF:=e::es
kR a b:=xas (top a) b
jM a:=by cases a;rfl
tH a b:=show (a=true) from b
gu a b c d e:=⟨121,a,b,c,d,e⟩
qD:=List K
mS:=.ref it
jz a:=(df b xs a)
sF a:=(df b o a)
mR:=(nG St)
tN a b c:=IsTupleKey knd a b c
fY:=X.pn++pins
jV:=["self"]
ef:=by wp_step
eE:=j+1
fw:=pv 1
eQ:=(bu d)
o8:=Zs a
iw:=Zb lt
fA:=Str->(dc Value)
Bg a:=(aE,a,.dK kvs)
gg a:=by ext bZ a
gX a b c d:=by obtain⟨a,b,c⟩:43:=d
gq a b c:=(eT a (iN b c))
EA a:=starEach a X.env
iZ:=asked s
eJ:=xv s
sy:=(c8 c)
ut a b c:=by have e:(a=b):=c;ext dw
eG a b c:=by show(ae,a,b,rfl,Zg.mp c)
qQ:=.frz ob (.dK kvs)
fW a b:=(kJ a rfl (dR b) ?_)
fO:=[aB]
eI:=by exact .nil
h8 a:=s2 _ _ a
m7:=mask+1
ip:=(cE w')
fb:=(bu ls)
xT a b:=by exact (.cons a b)
hZ a b c d e:=(a=b)/\(c/\(d/\e))
MB a:=(lY t.C_p a)
fG a:=fun p hp=>a
wu a:=(MF xat a xo)
fH:=by rfl
eO:=by cases h
iU a c d:=fun b a c=>d
j9 a b:=fun v a=>b
fJ a b:=⟨a,b,?_⟩
fS:=by cases rx
je a c:=∀ b,(a->c)
iE a b d:=∀ c u,(o9 c a b d)
fV:=s.heap.objs.size+1
Af:=.int x
lK a c:=fun b o a e=>c
iO a b c:=by show(dE,a,au b c)
BB a b c:=(ZR K a b)=(some c)
eP:=xaw ao
nT:=tupleKeyHash knd k
jL a:=fun i=>a
Aj a:=a<sizeLine
iF a b c d e:=by obtain⟨a,b,c,d⟩:82:=e
eW:=fun _ _ _ _ _=>xa7
kq:=Same.refl _
iY:=(dc Int)
h7:=pv 3
fL a:=(aD Za a)
mW a:=xj (xk e a)
eY:=(i4 κ V)
ju:=p2.1.nm
jt:=p1.1.nm
i8:=by ext iW rx
jy a:=fun b hb=>a
fj:=pM 0
fK b:=⟨a,b⟩
j8 a:=fun x=>a
ou a:=by rw[a];omega
gM a:=by rw [a] at h
gL:=by cases ry
oA a b c d e:=by obtain⟨a,b,c,d⟩:44:=e
gE:=Zm ..
fQ a:=s6 _ _ a
jE:=(cE n)
fX:=X.calm=true
ja a b c d:=by have a:(b=c):=d;subst a
gJ:=P0 a
i6:=(bg p)
oE a b c d:=⟨121,_,a,b,c,d⟩
gy:=P0 a b
hV:=P0 a b c
gV:=P0 a b c d
jN:=(s.heap.get? b)=(some o)
ir a:=(Zl.mp a).1
kT a:=xal (pv a)
kD:=Same H1 H2
gU:=I.ok.hd hc
hJ:=RelV y u
fE b:=fun⟨a,h⟩=>b
DN a b c d e:=[a,.int b,.str c,.int d,.int e]
j0 a:=⟨a,aa⟩
iH a b:=by obtain⟨a,q⟩:=b
nI a b:=fun a s'=>b
gm a b:=fun (a:Nat)=>b
ii a:=some (.str a)
iT a:=s4 _ _ a
gP:=n+1
sw:=(cE w)
kB:=.inr pt.nm
gS:=Array Value
oQ:=(wG n)
f8:=by ext jS t' ry
ig:=xaf X.prog X.w
iD:=by simp;omega
Go a b:=⟨rfl,a,b⟩
ib a:=by rw [(ay a)]
iu:=(cE k)
iM:=(cE h')
xA:=id pic
j4 a:=by show(dM,rfl,a)
Of a b:=s1.heap.push (eg,a,.fields b)
jT:=Int × Int
hW a:=(uQ rfl _ a)
jD:=(uq b)
tY:=xbz scope
wQ a b:=(ba _ a rfl b)
kf:=(aF kvs (k,x))
gY:=(au b hb)
jU a b:=by obtain⟨a,e⟩:=b
qF:=by subst this
jZ a b c:=by have a:=b;rw[c] at a
ij:=List Nat
uN:=(cE h)
iP:=(bI l)
Ae:=bits h
j7 a b c d:=by ext b9 its a b c d
sv:=s∈ss
rZ:=(sL VK)
jv a b c:=xab a (pv b) c C0
iz a b c:=xab a b c C0
jY a:=xbl (xa2 a)
we a:=way t.mask h a
iC:=xaz (xad ps) cs
kE a b c d:=if (a=b) then c else d
iA a:={ s with heap:=a,toks:=tk }
iI:=List Int
iR:=pv 2
jJ:=P1 a
iL:=Str->av
kM a b c d e:=(bj,a,b,c,d,Q e H')
jC:=P1 a b
j3 a b c d e:=by have a:(b≠c):=(ne_f d e)
jx:=P1 a b c
jq:=P1 a b c d
wA:=(aE c u)
tD a:=(Gp a sysModules)
tP a b c:=by show(ae,a,b,rfl,Zh.mp c)
nH:=by simp at e
iB:=["self", "name"]
lE:=valV kvs k
LJ a:=runEnd mask a
jO:=o.data=(.dict es ep)
iX a b c:=xt (pN a b) (xt (pN c b) xa1)
mz:=⟨ao,ao⟩
Ay a b c:=.Call (.Attribute o a apos) b [] c
IS a b c:=(MB,putF (ZE a) b c)
Gq:={ cls:=(fU "set"),dict:=none,data:=.set (#[]) 0 (.fresh 0 0 led) }
mG a:=by rw[a];simp
CN a b:=a == (some b)
oS a b c d e:=⟨a,b,c,d,rfl,e⟩
lv:={ s with heap:=h' }
RS a b:=(ps.find? a)=(some b)
jK a:=s3 _ _ a
js:=(dc Addr)
m6:=(cE j)
jd:=pv 4
mQ:=(ay ao)
uo a:=.lst (ptV a)
i5:=(gG 1)
ki:=nAt mask h r
jw a b c d:=(ez a b [c,.int d])
j6:=xp st
jb a b:=by show(c9,xj a,b)
lS:=2 ^ 62
jj a:=by show (uO<a);decide
vU:=(sF,Ze _ e)
y8 a b c d:=(kJ a b _ (sK c rfl d))
qm a b:=(tN s.heap a b)
pT a b c d:=xbf ZB rfl a (pN b c) d
jg:=relabel scope X.env
jo:=xah w ps srt
jI:=nd.2
nK a b:=by rw[a];refine b
yw:=by simpa using e
nY a:=a<s.heap.objs.size
oX a c:=∀ b o,(a->c)
lZ a b c d e:=by refine⟨a,b,c,d,e⟩
xN a b:=∀ n s,(a->b)
lR:=.str x
oP:=.str z
jB a b c:=upd a b (.dT c)
oH:=.inr nm
qT:=by refine (io ?_);intros
jH a b:=by refine (thn a b)
lQ:=(b6 x)
rO a:=(isNm a)=true
w8:=s∈al
o6 a b:=(cA,Zb a,b)
BW:=(d8 xbs)
qu:=hf b hb
jG a b:=(a,V.str b)
jW a:=Q (.int a) H
jP:=fun _ z=>(nomatch z)
kH:=KV kvs vs
kc:=(cF H2 s2.heap.objs.size [])
jr:=by subst hP hw hK
r6 a:=ys.length=a
lW a b c d:=by have a:b:=c;exact d
xM:=.bl _
jQ:=Array DictEntry
uM:=(nG V)
ui:=.int 0 0
jR:=Lp H ps kvs
uc a b:=xm (xai a b x9)
ng a:=fun u e=>a
ku:=Vals xs us
lC a:=.inl (SqL.of a)
At:=(X.env.cells.lookup x)=(some c)
j5:=w<=30
tw:=itP w ss prs k
Im a b:=xac a rfl T.n_len Yv b
zcf a b:=backTo a (starEach b X.env)
sG a c:=∀ b u,(a->c)
o3 a b c d e:=⟨64,a,b,c,d,e⟩
o5 a b c d:=by refine a;have b:c:=d
rP a b c:=by obtain⟨a,b⟩:c:=gf
kI a b:=DGet.k (k:=a) b
mK:=List Env
kG:=List Expr
m5:=.ref x
UV:=s.toks+1
MA a:=(i4 a Value)
kZ:=pv 5
lP:=(bu l)
kP:=(bu ln)
kQ a:=(mg a)=none
Cu a:=(so a)=none
nJ:=P2 a
uL:=room a
qJ a b:=by show(aJ,a,rfl,b)
su:=(bI p)
mZ:=P2 a b
oG:=xaf P w
mJ:=P2 a b c
mE:=P2 a b c d
kL:=(dC rfl)
kh:=(i4 Int Int)
lg a:=Jb X G a
pk a:=by ext lL a;refine (sq2 ?_);intros
lN a b:=(eD a _ b ?_)
mq a:=if_neg (fun z=>a)
kg:=(Fd "pairs")
kW a b:=fI K C_a a b
kO:=(KK cL)
kS:=xbo st
kY a:=(kR 54 a)
Bq:=(H' b)=none
kX a b d:=(fF a b d c u)
pX:=upd H1 d qQ
tu:=s.heap.push Gq
qY:=(so z).isSome
zfv a b:=(H2 a)=(some (.lst b))
lH:=Tups H H'
rE a:=Pic.same a pic
vO:=eval e X.env
Mp:=(LJ gR)
lG:=(au p hp)
om a:=fun c u nc e=>a
qM a b:=by let Pm (σ':L2.St) (H':Hp):Prop:=a;ext gH Pm b
AT a:=by show(dM,tH false a,Z7)
nZ a b:=KasT.kasWp cmp a b s
kK:=hf it aj
v0:=xa3 ps srt
Dq a b:=(RS,fun p=>(d9 p.nm a),b)
m9 a:=⟨dx,a⟩
mj a b c d e:=by obtain⟨a,b⟩:=c;ext aO d e
oW a b c d:=by rw[a,b] at c;exact d
Ez a:=show a by decide
lA:=by simpa using this
rY:=.ref q0
lO a b:=by show(aK,ay a,b)
Gn a b:=(a == b)=true
me:=pv 6
zq a b c d e:=(ax,a,b,c,d,∀ H',e)
lM:=(aA ?_)
lD:=(i4 Str V)
qU a b:=(aE,a,.tup (xa5 b))
lX a b:=Z2 (xk a b)
mY:=(sb,r)
uK:=xm xbn
lw b:=(h.get? a)=(some b)
Hi a b:=s.heap.push (eg,a,.fields b)
mf a b c:=by show(fD,a,b,id c)
oJ a:=xu xba a xo
mP:=(lm hp)
zgD:=(B3 z.elim)
lF a b:=Meth K t.C_a a b
rN a:=fun σ' H'=>a
mI:=ns++[nm]
zgP a:=valV kvs (.inr a)
lI:=RelV v u
yU a:=(aE,a,.lst xs)
lT:=h<=16
Hr a b:=by rw [Zd,Zh] at hx;ext lU a b hx
D5:=("picture",aB)
DH:=(lq "lengths" dl)
lJ a:=fun D Z H=>a
qC a b c:=(a=(some b))/\c
rp a b:=by show (a<b);omega
nM a c d:=by have a:c:=(kU d)
Gg a:=by simp at a;omega
KO a b c:=show (Gp a b) from c
Fs a:=show a from r
nB a:=by obtain rfl:=a
rh a b c:=by rintro (⟨a,b,c⟩:62)
CF:=some k
mO:=List DV
CT a:=a=(some v)
mX:=.str _
mN:=(bu tp)
qj a:=(X.mg a)=none
mD:=.str pt.nm
za a:=(H' b)=(some a)
o4 a b:=(df a b ?_)
oz:=(dU Bool)
qz:=(gG 0)
nA a b c d:=by have a:(b≠c):=(aA d)
rM:=Q .non H'
nE:=(b,r)
By:=Zp.mpr rfl
ua a b:=[.int a,.int b]
BM:=.int ep 0
mw:=X.clo scope
oZ a:=(iK xo a)
mV a:=Q (.bl a) H
oO:=(KK k)
KJ a:=Zg.mpr (dk p a)
xE a:=pt.y+(d*a)
mh a b:=OpR X (compareOp a) b
RM:=Addr × Value
mo:=EP X pins Z Q
nD:=y::ys
zo:=(aD e Jx)
mU a:=fun s hs=>a
mr:=HOk P w H h
rL:=pyNext mS
uB a:=fun y hy=>a
oF:=al++[s]
uh:=Pv i Z H
mM:=Ae % m7
BO a b:=(DN Af y sd a b)
mC:=Tab t es L
zp a b:=∃ m',((m'<a)/\b)
mH a b c:=tSeq a (tSeq b c)
mF:=N->(dc S)
mB a:=(uQ,_,_,.inl a)
KF a b:=Run room a so ho b
tG a b:=lt (g p a) (g p b)
vW a:=by rw[a];decide
nU:=by simpa using h1
Cn a b c d:=by obtain⟨a,b,c⟩:81:=d
tF a c:=if b then a else c
ztq a:={ s1 with heap:=(Of,a,#[b7]) }
on a b c d:=by obtain⟨a,b,c,_⟩:63:=d
uJ:=some 0
nS:=.ref s2.heap.objs.size
pi a:=tp _ _ a
uY a:=by refine (.inr a)
ET:=(dc Value)
sE a b c:=(eT a (eT b c))
rX:=(bu da)
oY:=xj nb
nW:=by refine (sq2 ?_);intros
Ge:=rent s
qy:=ZY _ _
rW:=Zi _ hy
qL a:=(iy h a)
KI a:=(so n)=(some a)
qI a b:=(0<=a)/\(a<=b)
oI a b:=by show(fh,⟨a,b⟩)
yT a:=(aE,a,.dT kvs)
oN:=2 ^ 64
o7:=p::r
oM:=xb4 st
ug:=RelV x v
oC:=RelV x u
oK:=(Bg d)
sX:=Kp.kstep room so ho
zf:=Same H2 H'
nO:=(s.heap.get? d)=(some o)
qe a b c d:=by have a:((b == c)=false):=d
nR:=by rw[Za];exact (BIG aa)
oB:=(we m).j
re:=SqL K H a xs
vH a b:=(BB,.ref a,b,none)
oR a:=(Im xbb a)
tO:=by ext ut b it qR
uU a b:=by refine (Ja a b zgD)
nX a b c d e:=by refine(jp a b (au c d));refine e
Cj:=(zgP nm)
nQ:=(Gp x (fT "__debug__"))
qO:=es'.map (fun x=>(Zs cK))
oh:=s1.trans s2
oq:=Z.set i ff
pD:=(asked s)=(some a)
og:=N->(List S)
yx a:=by simp only[a,ZC,if_false]
nN:=(dc,Int × (Str × Seat))
CL a b:=xce a (xb7 b)
oy:=S->(dc N)
sW:=Geo.upL pt.x pt.y r
Cm a b:=by obtain⟨e,a⟩:=b
qr a b c:=by ext cD a b c
pU a b:=by show (a<=b);omega
qW a b:=by rw[z,a] at b;cases b
qH a:=by rw[a] at this
pW:=["picture"]
pA:={ s with toks:=UV }
pP:=fun _ _=>False
p5:=fun _=>rfl
zaw a:={ D with nx:=a,ct:=a,bk:=D.nx }
zi a b c:=by obtain⟨a,_,b⟩:62:=c
Gd a:=some (oU a)
uI:=.ref f
qx:=.int _
sO:=pv 7
ve:=P3 a
wS a b c d:=(bO a T.c_p b c d)
CZ:=own n
Ad:=lens n
uH:=P3 a b
uf:=P3 a b c
tS:=P3 a b c d
qE a:=xm (xam a)
uG:=Ze _ g
qw:=lno aP
qK:=ck c
pE a:=stl.keep (Same.tups a)
qv a:=(Zy.mp a).1
pI a:=(J7 K (.ref a))=true
qS:=(H' c)=(some u)
uA a:=xu xcg a xo
qi a:=(MF xa4 a xo)
qo:=A0->Prop
pR:=(Fd "names")
CD:=(B3 z)
rK:=(aF xs x)
pG a:=by show (a<1000);decide
Mo:=s _ _ h
qh:=(ud u ?_)
pK:=by refine (ZO hd hdat ?_)
pJ:=by refine (Jq hd hdat ?_)
pQ a:=(t.slot a)=.empty
Gc a:=xu xa0 xo a
pV:=(H1 l)=none
zP a:=fun x hx=>a
Fc:=(bQ ys y)
EU a b:=.hand a b asked s
qG a b:=(oE _ _ a b)
Fb:=p.nm≠nm
pL:=shO own crowd g
tq:=xah w' ps srt'
sP a b c:=by refine (xbi (xs:=a) (Pv:=Pv) b c ?_ ?_)
vo a:=by obtain⟨hp,g,a,tk,os⟩:=s
uz a:=fun z hz=>a
BQ a:=Nat->(Nat->a)
En a:=xbe (xai a BW x9)
sU:=by subst ex;show(cX,u=o8,rx)
Sm:=by have l2:=r2.length
qg:=PE X a ta
zy:=D.nx Z H
pB:=fun _ _ _ _ _ z=>z
pZ:=(bX A0 A1)
rg a b:=xbg eR (pv a) b fC
pF:=(jX "side" "row")
qp a b c:=xci eR a b c rfl
pH:=shR rent asked g
pj a b c:=by obtain⟨_,rfl⟩:=ry;ext aJ a b c
Gw a:=xac xbx rfl T.n_isinstance boot_isinstance a
HV a b c:=xch (v:=(.ty a)) rfl b c rfl
pq:=A0->(A1->(bX A2 A3))
Nd a:=by show(cX,v=(Zs _),ry);ext b9 its2 r2 t2 z2 a
yu:=by simpa using c
IE a b c:=if a then (some b) else c
yh a:=X.s₀.heap.objs.size<=a
Fa a:=show a from ry
sM a b c:=by have a:=b;refine c
G7 a:={ s with heap:=a,toks:=t' }
sN:=[it]
tT a b c d e:=fun a b ⟨c,d,e⟩=>?_
N2 a:=∀ b∈fp,(FpOk X pins a b)
uF:=.ref t
Ea a b:=(K.lookup a)=(some b)
xB a:=by exact (SqL.of a)
w6:=(cE 1)
rV:=(bu lo)
wP:=(bu pz)
E9:=.str p.nm
sr:=(ay c)
rT:=(ay aa)
uT a:=(bg,(a).2)
Bp:=(fU "list")
Bd:=i<kvs.length
wF a b c d:=by ext bN a b;ext bN c d
xD a:=xm (xbe a)
xL:=.bl b
Gb:=Ze _ q
uP a b c:=by ext bA a b b;exact c
vC:=(dB xs.length)
sD a:=by show(lL,d8 a)
rS:=s _ _ e
zfu:=Int × Value
sj:=(dW 0)
ux:=iteF ?_
rR:=al p hp
sJ:=x::xs
rG a c d e:=(pY a c (fF d a e b u))
rC:=(aF X.N x)
rD a b:=by rw[a,b] at z;exact z
rQ:=.dK kvs
si:=(wu 5)
sI:=g i j
vI:=by refine (Zc (Zk ?_))
r8:=Gl X x
E8 a:=(dX crowd k a)
w4:=(tD a)
LI a:=(iy,j,.int a)
FO:=Q bH H2
vg:=(X.env.cells.lookup n)=(some c)
rB:=(i4 d6 RM)
rA:=k _ _ eZ e
Br:=by simp at e;ext dw
yB a:=∀ x c,(At->(c≠a))
Sz a:=s2 _ _ (s1 _ _ a)
Mn a b c:=by rw[Zd] at a;ext tP b c a
sH:=q::qs
rJ:=(au x hx)
wz:=xa9 _ ao
vT:=(wQ gc rfl)
rq:=(au H1 s1)
qN:=es'.getD i ([],0,.none)
Kj a b:=(mT a T.n_a8 lkW b)
qP a b c d e:=by have a:=(su_e b eu);show(af,c,ug_e eu,d,e)
IP a b:=.ask crowd asked a b
rH:=(l+r) / 2
rF:=by ext Hr qa hqa
qV:=A0->(bX A1 A2)
Aq:=∀ o' u',((X.H₀ d)≠(some (.frz o' u')))
qZ:=Sts H do_ ss
qX a:=.inl (Go _ (bb a))
Ar:=by have hl:(kvs.length=vs.length):=rel.length
XY a b:=envOfC qual a s.heap.objs.size f b
VP a:=.ListComp elt [⟨a,iter,ifs,0⟩] scope pos
zsG a:=#[(.int lo t),(.int hi u),(.int a v)]
tz a:=decide_eq_false a
uX a c d:=by have a:c:=(ud u d)
uW a b c:=by show a;ext aK b c
uZ a:=(false,a)
IC:=∀ b∈fp,Bq
wE a b c:=DPut.k (k:=a) b c
vq:=∀ s,((gT iZ)↔w8)
tE a b:=by rintro _ a ⟨b,rfl⟩
uE:=List N
vx a b:=(s.heap.get? a)=(some b)
uS a b:=by show(aK,jF a,b)
zM:=(bu la)
wO:=.str nm
wN:=.str gQ
ur:=by refine (Zk ?_)
sV:=(h.get? b)=(some o)
yg b:=(s.heap.get? a)=(some b)
wy:=s1 _ _ e
sS a:=by ext lL a;refine (sq5 ?_);intros
sR a:=by ext lL a;refine (sq3 ?_);intros
vd:=kV k
uw:=(kU ?_)
zL:=(lm hk)
vp:=I.hok.fresh (Zj _)
vc:=v::r
tM:=Pl H ps kvs
CK a b c d:=(upd a b c d)=none
xR a:=(kN Zd a)
sZ:=names.length<=12
sY:=Kp.Mt room so ho
uR a:=(df c u a)
uy a:=(df c xs a)
tK:=ns++[pt.nm]
tJ:=.Name x pos
tf a:=(t.slot a)=(.live i)
tX:=PE X o to
xG:=by exact (Zv e)
tW:=PE X e te
tZ a:=(bT,ifN a ?_)
xK a b:=Dv K H n a b
UU:=F i y H'
sQ a:=(pY,a,iJ,(H' b)=(some u))
uD:=(uo p)
uj a b:=by rw [(aC a),(aC b)]
tR:=totI w prs
tV:=(Cu name)
zgC a b:=h1.push (eg,a,.seq b)
uu:=Arr n p
E7:=(lY C fs)
ue:=(d4 r t)
vy a:=(bT,ite2 (c8 a) (c8 a))
uV:=by ext AT hs
yj:=sIx items.size 0 lo
K6:=(zfv l ys)
Ly a b:=Zy.mpr ⟨a,b⟩
BP a b c d e:=(bO rfl a b c (au d e))
yP:=putK kvs k v
uC:=by exact (ih yw)
tU:=a.lt _ aa
tI:=xak H ss rs
tQ:=(KF ns cs)
OY a b:=ifN (decide_eq_false a) b
ID a b c:=xbc rfl (xt (pN a b) c)
D4 a:=(Hi "range" (zsG a))
sT a b:=by rw[Zd,Zh] at hx;ext lU a b hx
ym a b:=Kp.Rch a b (.fin so' ho')
Ey:=sp vs H Q E
yO:=btw r1 y2 r2
vN:=btw r2 y1 r1
KE:=xdh ps n s
Db:=near lens own rent asked crowd
yS a:=decide_eq_true a
Ct a:=a=ps.length
B2 a:=by ext Gg a
yR a:=by simpa using a
vM:=by simp at h
xJ a b:=⟨a,?_,b⟩
xP a b c d e:=⟨a,b,rfl,c,d,e⟩
FP a c d:=∀ b o,(a->(c->d))
Ac a b:=by have:=a;ext bZ b
K9 a:=show a by simp
wD a b c:=DGet.t (k:=a) b c
xF:=by intros;rfl
vz a:=fun _ _ _ _ _=>(xaq a)
wZ:=some i
wM:=.ref ln
wL:=.ref pz
Lx a b:=a=(some (g,b,s))
Ga:=(bg e)
FN:=(bg dH)
xS a b:=by show(aJ,a,b,rfl)
wp:=(dU Unit)
wY:=.inr x
wX:=ok_t T
wK:=Zp.mp z
xI:=Zb hj
yD a b c:=by show(bN,a,⟨f7,(au b c)⟩)
vV a:=(decide a)=true
wx:=Array zfu
wm:=(nG Bool)
wC a:=by show(dM,a,Yt _)
Gm a b:=Q (.bool a) b
Ab:=Q v H'
AV:=(i4 Str Value)
wa a b c d:=by have e:(a=b):=c;ext aK e d
xH:=toP p
K5:=rel.val k
wT:=by show(cY,rfl)
xC a b c d:=by ext jh a b c;refine d
wJ:=(uq sb)
zK a b c d:=(eD a _ b (au c d))
BV:=Hp->Prop
CY:=g p i
yk a b:=(i9,Q,t Z H (fun a H1=>b))
yQ a:=L.map (fun x=>a)
wW:=(wu 3)
y9 a b c:=by obtain⟨a,b⟩:=(Zl.mp c)
Aa a b:=by refine(jp a b ?_)
AM:=b≠X.env.locals
wV:=(kT 1)
vm:=(h.get? d)=(some o)
wj:=PE X o td
vS:=blk0 Z fr 1
ES:=⟨f7,k⟩
ED a b:=(EA a)=[(false,b)]
Mz a:=(CN a .cell)
wB a b c:=[a,.ref b,.ref c]
zan a:=(aE,a,.lst (rs.map V.ref))
vZ:=(b8 H' s')
wU:=n∈tY
wI:=(MA κ)
vG:=nxtP w ss prs
wR a:=Z5 (Zv e) a
xQ a:=(Ez,uO<a)
vR:=xbj ky ad i
Bo:=(ho s)=none
wt a:=(dY xM H I a)
Ao:=Mp-gR
F9:=(KI s)
vw:=Kp.upd1 asked s a
zex:=(X.fn x)=true
Sy a b:=(Same a H')/\(σ'=b)
z6:=xda ry
vF:=names.map own
vL:=srt.map rent
Ki:=Seat × Int
vX a b:=by rw [a,b] at e;cases e
vA a:=(way t.mask nT a).j
vK a b:=call (.builtin a) b
xO a b c:=by ext bw a b i hi c
wH a b:=SetT knd a d b
vj:=(Ay "values" [] cpos)
zJ:=(VP tg)
vt:=by simp only[ZC,if_false]
wg:=(au n hn)
wf:=(au z hz)
ww:=(iN 2 3)
yy:=(bT,ite2 sy sy)
vJ:=xby sw uN ps
vY:=K w.params
Mm a b:=(.inr a,.str b)
HN:=#[en.key,en.val]
vh a:=by obtain⟨⟨a,hp⟩,_,_⟩:=xA
zn:=(au y hy)
vQ:=(au l2 hl2)
Em:=eval a X.env
wc a:=xm (xz (pv a))
Rc:=(lq "own" d_o)
vP:=xc8 lens ss
Do:=("opened",V.ref do_)
vk:=(lK,hb,eb b o hb e)
vE:=strKind pr wd
vD a:=fun i h st b hb=>a
PQ a b:=Best own rent asked a b
zx:=T.size.2
AL:=(rnd mask h r).2
zI b c:=by obtain⟨a,b⟩:=c
LN a:=by rw[a];simp only[]
Ag a b:=by rw [a] at b;cases b
EC a b:=if a then b else 1
An a b:=by refine a;exact b
BA a b c:=by obtain⟨a,b,_⟩:43:=c
zO a:=(a-1).toNat
yt:=by simpa using h
yC:=(zs++ys).Nodup
zdx a:=∀ b∈crowd,(b∈a)
Ml:=.ref qs
z0:=.int w
zZ:=.int j
Ci:=(bu q0)
zH:=(bu lp)
Cl:=by refine (Zc ?_)
Ak a b c d:=by show(ae,a,b,c,Zg.mp d)
zG:=(dU ET)
Fq:=.inr rfl
F8:=P4 a b
zm:=model P w
Fp:=P4 a b c
ER:=P4 a b c d
yN:=names.take i
CW:=xbh e
Am:=xa6 e
ye:=(h'.get? b)=(some o)
zF:=(nG ag)
FM:=(dC aa)
DW:=(dB kvs.length)
zE:=α->Int
zY:=by show(fh,rfl)
KL a b c d:=(uQ a _ (cI b rfl c d))
zX:=(d7 e)
Al:=es[i]
zN a:=xu xa0 a xo
yE:=["self", "x"]
Ai a:=(jA rfl a)
Mj:=(jz ?_)
zW:=(Bg a)
FL:=Z1 _ By
zD:=b4 x hx
y0:=xek I.hok e
Mi a b:=[.str a,.ref b]
Aw:=upd H1 d (.frz ob (.dT kvs))
Ex:=blk0 Z fr n
zkW:=(X.env.scope.names.lookup x)=(some .local)
zh a b:=(bT,ifN a (fc b))
xZ:=by rw[Za];exact (xc3 aa)
Ck:=by ext xT h ih
zw:=by ext xT Mo ih
Ap a b c d e:=(pT a b c (uc d e))
T4:=.bl false
Ah a:=by ext qT;refine a
zC:=(rO nm)
xX a:=(i9,Q,ta Z H (fun x H1=>a))
yM:=by subst e1;cases r1
F7 a:=fun n hn=>a
zV:=p∈ps
zU:=XC K C
yi:=(X.A.units+1)<cLine
Fv a b:=by have:(a=b):=aa;ext qF
zT:=(yU l)
CJ a b:=(dY ie _ a b)
Ch:=(KJ hp)
yZ:=K.In s.heap
Bn:=frs X.stack
zB:=by rw[ZL] at nd
zt:=(iN 1 2)
Tf:=xax lens n
xW:=by refine (gx ?_);refine (fq ?_);intros
FK a:=.ok (.ret a)
Bx:=crowd++[h]
yL:=(aF crowd a)
zA:=Itl K a
zg a b:=TyOf K H a (fU b)
ze:=(Dq nm pt)
yY:=srt.Perm ss
zl a b c:=Ja a b (fun _ _ c=>c)
Cg:=vs++dvs
zS:=us++ds
zr:=(true,0)
yH a:=s7 _ _ (s6 _ _ a)
yr a b c d:=(kJ a 0 b (sK (dR c) rfl d))
LH a:=fun xs H Q=>a
yX:=Vals xs its
yW:=(zcf pos es)
Tl a:=kvs++[(lq a q)]
yp a:=(bv,.int a,H,i0,gf,q)
yG a:=fun h' eb=>(dC a)
Ip a:=∀ p∈fY,(aN≠a)
zR a b:=by ext ae a e1 e2 b
yd:=o.setIfInBounds j CF
yK:=xck lens prs
yb:=(aE,q,.tup (xa5 s))
Bc:=xde I.hok eb
yc:=(X.A.units+20)<cLine
zdT:=(Gh σ' H' s')
zd:=by rw[Zo,Z8] at nd
AA:=cells w x1 y1 true r1
Kr a:=by obtain⟨ds,hs⟩:=a
OX a:=fun _ _ _ _ _ ow nd=>a
yJ:=(i4 qD Addr)
zk:=PE X b tb
KD:=.Name y py
Bv a:=by ext cH a this
zb:=by show(jc,p.nm,nm)
My a:=xcw bz a rfl
xU:=(EA nF)=((false,vO)::(EA es))
yV:=(lo+hi) / 2
AN a:=(mT hp T.n_a9 lkP a)
yo:=relabel scope env
xV:=(Gn apos.endLine cpos.line)
ya:=BlkG X scope zs ys fr
Av:=sIx items.size items.size hi
xY:=Kp.Mt (xax lens) so ho
GU:=(y.2-(own b))-(rent jf)
yq:=(cI aa aa aa aa)
zj a b c:=kas_place p k a b c
yA a b c:=let d:=D; (mL s Z a b c)
Lw a b:=fun i H R _ a=>b
AD:=.Tuple elts x1 tpos
C4 a:=(attributeBase o a X.env (im o))=(im o)
yI:=mvP nm x y p
zcC:=tSeq t1 u2 d s H
As:=.Call (.Name "set" p2) [a] [] pos2
Cs a b c:=by ext cJ a b c
BL:=by ext nH
AJ:=by simpa using h2
Bz:=by by_cases e:(aN=k)
AS a:=s.heap.objs.size<=a
Cr a:=by by_cases hb:(b=a)
CG:=by intro _;rfl
Fo a b c d:=by obtain⟨a,b⟩:c:=(j0 d)
LK a:=by split at a<;>cases a
DG:=by simpa using hw
Io a b c:=by obtain⟨⟨a,b⟩,_⟩:=(id c)
BK:=List Bool
BJ:=List Stmt
Cf:=List qD
Ce:=.ref ls
BY a b:=(H' a)=(some b)
LG a:=a=(some true)
Cq a:=(H0 a)=none
Cd:=(ia s')
Mh:=.inl mz
CC:=(gG 5)
Cc:=ok_an T
Gk a b:=(bT (OY a b))
F6:=(aX w)
Cb:=(aX am)
Bb:=crowd.take i
Mg:=Zl.mp e
A6 a:=(X.mg x)=(some a)
CB:=lens b
Ca:=xk e hl
CA:=s∈uL
Ba:=Zx as.length
Ib b:=(h'.get? a)=(some b)
Cp a:=(d4 a .nil)
BI:=Nat->Addr
CV:=z∈U
Bm:=prs.drop aM
B9:=(jF n1)
Sk:=(fR,Js h ao)
Bu a:=bt _ _ (dQ a) e
CS a:=fun o e=>a
BH:=xb8 kvs k
Cz:=.dK []
Lv:=s _ _ hd
Cy:=b∉ch
Bl:=xfc I.hok e
BX a b:=Zg.mpr (dk a b)
A9:=qs.map V.ref
AQ:=(Aj kvs.length)
Lu:=(mW hdx)
CQ a:=by ext i8;exact a
B8:=(ou Za)
AU:=s.heap.push JX
PF:=crowd.map V.str
B7:=ge i hi
BG:=(fZ 0 xo)
A4:=ss.length<=32
Dk a:=(aE,a,.lst (qs.map V.ref))
Ls:=.int i t
CP a b c d e:=by show(ap,a,b≠c,aA d,e)
DL:=∃ t,(u=(YT i t))
Co a:=(zcf cpos a)
Bk:=xap H cs qs
A8:=nxtP w ss tw
AI:=(A.units+1)<cLine
Sj:=ns.map V.int
AF:=(ztq "dict_values")
Bj:=Room q0 k A
E6:=(au s hs)
XE:=(aE,d,.frz o (.dK kvs))
B1 a b c:=(y8 a 0 (dR b) c)
AW a b:=(En,PW.pt (CL a b))
CI a b:=(IE a b none)
HR a:=by show (dB a);decide
B6:=(G7 h')
Cw:=(N2 H)
B0 a:=(fe a d kvs)
CO a:=(gO y H a)
AZ:=cans w ss prs
BF:=PA X nF t
zrk:=I1.kept (t':=s1.toks) vU
SK:=xs.getD k 0
Lr:=.frz o u
Bt a:=fun b o hb g=>a
AH:=Loc X.env.scope x
AK a b c d e:=(zq,a,b,c,d,cG->(Q (.bl e) H'))
Bi:=s5.trans s6
BU:=name::hs
CH a b:=by ext af h1 a h2 b
B5:=(zan ls)
B4:=t Z H Q
BT:=(IP i j)
zck a:=by refine (xec a (bC i y b hy hb))
CU:=gk cL
Mx a:=fun i y _=>a
BS:=(iN 0 1)
Bh:=Vals dvs ds
T0:=xbv val i
EQ:=(Go aa aa)
AY:=PrOk ps w h p
AX:=(XY scope cd)
AC:=Array (Option Value)
Ew:=KT H kvs xs
Au:=(eg,"list",.seq its.toArray n)
Dm:=cells w x2 y2 false r2
AO:=x0 X.K fd ps ds
Cv:=zex\/zkW
zrj a b:=∃ N:mR,((∀ σ' H',((N σ' H')->a))/\b)
zrW a:=["_law_points", "_law_seats", a]
Nx:=∀{n:Nat},((n<=1000)->(Aj n))
Uq a:=.bl (decide a)
BR:=acc++[x]
zew:=names++[name]
BE:=(aF qs q)
A7:=eval b X.env
BZ a:=(bm jV jV a)
Eh:=PrsL H prs qs
Te:=start N vs
HU a:=by rw[Zd,a] at hb;ext jM hb
Os:=("placed",V.ref dp)
zav a b:=(Q σ' H')/\((σ'.length=a)/\b)
Bs a:=by have:=(congrArg Ys a)
AB:=BlkC X scope x ys fr
Ko a:=xu xc4 xo (pv a)
GT a b c d:=by rw[Zz,(KO (fT a) b aP)];show ((Jv (fT c) d)=_)
Ax:=["self", "name", "x", "y"]
AR a b c d:=(eD a kvs b (cu ob nf c d))
NM a b c d:=⟨(iy H a),fun i H b H'=>c,(iy H d)⟩
BD:=xaz ns cs
Be a b c:=⟨102,a,es,ep,b,c⟩
Dw a b c d e:=⟨a,1,b,_,c,(cI,xcy d,ao,ao,e)⟩
AG a b c:=xee (i:=a) b rfl (QI rfl) c
Bw:=xeh CX X E
Mf a b:=((u,v)∈a)↔b
Az a b:=(kstep room so ho a)=(some b)
BC:=PD H d ps
IB:=eOf X.K H m d
zdh a b:=((a<=v)/\(v<b))\/((b<v)/\(v<=a))
Eg:=at2 dEq ds es
A5 a:=Run v0 a so ho cs
AE:=pzF a dl d_o d_r p
D3 a:=of_decide_eq_true a
K8 a:=show a from rx
EO a:=by show a;omega
Kn a:=∃ σ' H',(zdT/\a)
EF a b c d:=∀ x H',(a->(g x b c d))
Sl:=by simp only[if_true]
Hh:={ s' with heap:=h2 }
DF:=fun _ _ _ _ _=>bz
PP a:=fun _ _ _ _ _=>(xd4 a)
zaJ:=∃ p∈ps,(p.nm=nm)
F4:=.ref T
Eo a b:=(h.get? a)=(some b)
F3:=(bu q)
FJ:=(bu l3)
Fn:=(bu d_r)
Fm:=(bu d_o)
FI:=.str cp
DY a b:=Q a { s with heap:=b }
F2:=(gG 3)
FH:=ok_aw T
Fl:=(bT rfl)
Ff a b:=by rw[a];exact (Zg.mpr b)
Ef a:=assignEach a X.env
F1:=(aX r)
FG:=(gK H5)
zug:=(h2.get? b)=(some o)
Gf a:=by refine(cq a CD)
FF:=(dC ?_)
Gi a b c d e:=(fF,a,b,.lst c,d,e)
zev a b:=by rw[a];exact (Ji.mpr b)
FZ:=QC rfl
UT:=L.take p
US:=L.drop p
E5:=Nat->Bool
FE:=Nat->qD
FD:=Nat->mR
ME a:=by refine (Zc (ZZ a))
Fk:=cT->Prop
Ev b:=(∃(a:A0),b)->C
Dz c:=(∃(a:A0) (b:A1),c)->C
Dg d:=(∃(a:A0) (b:A1) (c:A2),d)->C
C6 e:=(∃(a:A0) (b:A1) (c:A2) (d:A3),e)->C
EN:=qs.drop aM
Eu:=Sd H ps kvs
Fj:=Zw.mp hn
EM:=Vals vs us
PN a b c:=xbf ZB rfl a (xbc rfl b) c
IO:=rs.map V.ref
Gj a:=HT.sIx a a hi
Il:=(Aj xs.length)
FC:=(mW hp)
HQ a:=(aE,q,.tup (prV a))
E4:=Str × ai
E3:=(dk p hp)
K4:=old b o e
Me:=(k-1)-i
El a:=if_neg (fun y=>a)
Dn a:=scope.names.all (fun y=>a)
E2:=ss.map xv
KC:=ss.map xb5
EL a:=(r6,(a).length)
Ek:=(i4 d6 Addr)
FY a:=(Z8.mp a).2
zft:=(.inr n:Key)
Du a b c:=by ext rP a b c;dsimp only [rI0,iV]
DI a b:=(bT,ite2 (c8 a) (fun a=>b))
FB:=(rE s1)
IA a b:=(xs.foldl a b).length
FA:=(CT lE)
Dx a b:=.Call (.Name a p) b [] pos
Fz:=(xE m6)
FX a:=xai a uK x9
EK:=.bool true
D2:=DecidableEq α
EJ:=turns mask
OT:=(ztq "dict_items")
FW:=(yT a)
GQ:=by refine (gn ?_);refine (io ?_);intros
DM:=by exact ((Fs False).elim)
Ft:=by ext iW r;rfl
Km a:=(jA,true,iteF a)
Fu a b:=by show(qM,Sy a b,?_)
zgB:=te σ' H3 N
Dl:=Geo.lvL pw pt.x true r
Dj:=Geo.lvL pw pt.x false r
Et:=s3.trans s4
Kh:=s6.trans s7
Ik:=x≠"__name__"
Ej:=fun _ _ q=>q
Fy:=b::rest
Iz:=(bb (h8 hl1))
Ro a:=(eg,"tuple",.seq a)
Fx:=dEq d e
Fi:=(dZ a o)
FV:=(E8 a)
UR:=(k,x)::r
zdw a:=ty Z H1 (fun y H2=>a)
IN:=I1.hok d _ e
E1:=W i m Z H
PB:=AllBare s'.gens
TZ:=(bQ xs x)
Fh a:=(iE do_ wA a)
Pa:=by show(ae,u,rfl,rx,xcl r)
ztp a b:=["_law_width", "_law_points", a, b]
zgO a:=fr.map (fun i=>a)
FQ:=by ext jc b pz
EV a b:=by show(iO,nu leS1,a,b)
EI:=below xs j
E0:=(jy,(qu).1)
D1:=GPr ps w h prs
Es a:=(Yc K a W8)=true
DK a:=look own rent asked a
Td:=⟨q,hq⟩
EH:=97+i.toNat
FU:=s∉al
KA:=(zdx names)
Fe a b c d:=xbq (pv a) (ID b c d)
Er:=xak H ss qs
DU:=(ho s)=(some h)
D0:=(fe H3 d_o [])
EZ:=sub y c h
DB a:=by rw[(ay a)] at hm;ext j4 hm
GB:=(H' l)=(some (.lst (qs.map V.ref)))
EB a:=ite2 (c8 a) (c8 a)
Dy a:=.dT (al.map (fun s=>a))
Ee a:=∀ p,(su->(Q eB a))
IR a:=by have I2:(b8 H1 a):=zrk
D8 a:=by obtain⟨dx,a⟩:=z.ins
FT:=a == b
FS a:=fun w hw=>a
EY:=PE X i ty
Ep:=totI ip prs
Di:=(aE,b,.tup (k.map kV))
EG:=(gq 1 2 3)
DE:=(zrW "_law_names")
HM:=bubble p k (k-m)
DD:=fun kv=>(d9 iS k)
Ei:=by cases (cU u o8 rx)
PK:=by refine (Ze _ (Ze _ ?_))
Fw a:=fun _ H Q=>a
FR:=gQ::eK
zne a b:={ s2 with heap:=s2.heap.push (eg,a,.fields b) }
Hq a:=∀ z,(((so' z).isSome)=a)
Kq:=by rintro ⟨u,v⟩
EX:=.cons _ t
Ed:=(zQ,V × V)
Uo a c d:=(bD,a,tn i c,IC,d)
Fg:=Ord n lt
Dh:=(aE,q,.tup (k.map kV))
DX a b c:=by show(cX,v=JE,ry);ext aJ a b c
GG:=(aE,la,.lst (crowd.map V.str))
Dt a b c:=by show(cX,v=(YC _),ry);ext aJ a b c
Ec:=(fe H1 dl [])
DT a:=(mT hp T.n_a5 lkH a)
LM a b c:=fun j a b h1 h2=>c
HS a b c:=PS X (.Assign [a] b pos) c
DS:=PI X tg iter wi
Kg:=(p2.1,p1.2)
Kf:=(p1.1,p2.2)
C8:=["self", "name", "side", "row"]
Da:=fun σ2 H2=>(tb (zaw N) σ2 H2)
Dd:=["picture", "one", "other"]
zeu:=V.int (own n)
DJ a:=by rw[Zz,(tH,(fT a) == a,aP)]
D7 a b c:=PW X (.BoolOp a b pos) c
DO a b:=probe.go t hashAt h a b
zrV:=(cM,b,te σ' H4 N,M H4)
EE a b:=by refine (YG hp (thn a b))
C7 a:=xc9 (by rw[Y.sz];exact (ZS.mp a)) none
EW a:=fun x y H Q=>a
VL a b:=(i9,R,to Z H (fun x H1=>(∃ d kvs,(bc x b7 a b))))
zpZ a b:=∃ W:(BQ mR),((∃ m,a)/\(∀ i m Z H,b))
Df a:=(zrj (zp,m,W aM m' σ' H') a)
DR a:=fun _ _ _ H _ I h=>a
Eb a b:=by obtain ⟨a,b,rfl,h⟩:=h
XX a b:=by unfold pyNext;refine (Zc (YL (JR a b ?_)))
DA a:=by obtain ⟨a,rfl,_⟩:=h;rfl
D6 a:=by obtain ⟨a,rfl,h⟩:=h
DC a b:=by obtain ⟨a,b,rfl,_⟩:=h;rfl
G9 a b:=by generalize eu:a=H2;ext jh s2 b g2
Tk a:=(ba a aj fP h0)
Hy:=Kp.upd1 asked s b
G3:=(dH-(own a))-(rent aZ)
De:=(cS,behindInMarks op b)
Ol:=.hand so ho asked s0
M8:=[.str pt.sd,.int pt.lo,.int pt.hi]
zrU a b:=xt (pO a nd ow) (xt (pO b nd ow) xa1)
C5 a:=by ext Cm a hg;show(ae,vs,rel,da,xfs I e hep)
Hw:=AkD H da al asked
Ke a b:=⟨nm,x,y,sd,a,b⟩
zbh a b:=∀ l,(((s,l)∈a)->((b+Ge)=l))
Dp a b:=∀ ys H2,(bj kD K6 a b FO)
Dc a b:=(us:cT)->(us.length=a)->(b->(P us))
DQ:=picF w h dp do_
zaR a:=(mL,u3,a,u2,tSeq t2 u3,zcC)
DZ:=Cmp n lt cmp s
C9:=(DN Af pt.y pt.sd pt.lo pt.hi)
D9:=by ext Cn ok ov st st
DP:=itP w' ss prs n
zkr a:=by ext ja eb b a qR;exact (I3.fpOk (Zj _) (I3.hok.fresh (Zj _)))
C2 a:=(Kj (Sz hp) (uQ a pw (bC p H3 hp3 sd3 s3)))
C1:=notedBy aR A env (nI,e,R (.error e) s')
Ds:=xbk ao (xbk ao xd2)
C3 a:=by obtain⟨⟨a,hp⟩,⟨kvs,hk,pl⟩,_⟩:=xA
K3:=by ext iG
KH a:=by rw[a];ext iG
Um a b c:=if (a>0) then b else c
LF a:=show a from z
HL:=fun _ _ _=>False
La a b c d:=∀ h',(a->(b->(Q c d)))
NL a b c:={ cls:=Bp,dict:=a,data:=b,slots:=c }
Si:=(K5).isSome_eq
Mw a:=∀ n∈zew,a
Lq:=(eA).Nodup
Hv:=by simpa using hp
MD a b c d e:=by obtain⟨a,b,c,d,_⟩:83:=e
ST a b:=∀ H' v,(cG->(a->b))
Ia a:=(cans pw ss a).head?
Md:=some T4
Mc:=List β
Lo:=List Row
LE a:=Yu.filter _ a
Mb:=(bu l1)
Ma:=(bu l6)
L9:=(bu lu)
LL:=by refine (xgt ?_)
L8:=(ay c2)
PM a:=(h'.get? b)=(some a)
Ln:=(i4 V V)
L7:=ok_ay T
Id:=by refine (sq3 ?_);intros
Mv a:=rnd mask h a
L6:=(bb e1)
Oq a b:=by refine (Y3.length_le_of_subset a b)
KN a b c:=PE X (Ay a b cpos) c
L5:=(aX 20)
L4:=(aX 12)
SS a:=(sortedS a)=true
UQ:=l.take i
L3:=(gK H2)
LZ:=(nG It)
RL:=Ze _ (Ze _ e)
LD a:=(Yl K a)=true
LC a:=(Y0 K a)=true
LB a:=(YI K a)=true
Iy a b:=(aE,a,.tup (prV b))
Lm:=Nat->Int
Hn:=.lst (qs.map V.ref)
LY:=xp s_am
Ll:=s2 _ _ e
Ix:=(i4 Str Addr)
He a:=by ext lL a;refine (sq4 ?_);intros
HY:=(H1 c)=(some u)
Lk:=Nat->Str
LX:=Nat->uM
zgA:=(kU,Ze _ e)
LW:=(dI hp)
Hm:=["self", "picture"]
X6:=(oU "object.__class__")
LV:=.lst xs
Kd:=xct I.hok e
Sh:=.Name x pos'
LU:=(ou Zr)
Hl:=blk0 Z fr zs.length
Lj:=F i y H2
G6 a:=(pY,a,iJ,(H2 b)=(some u))
GX:=(Of,"dict_values",#[b7])
IM:=SqT K H a xs
Li:=(aE a o)
K2:=(aE a E7)
Mu a:=shS rent a g
Kc:=CrL H cs qs
Iw:=Itkd d ob kvs
LT:=Cls K C
K1:=(zfv l xs)
G2:=by subst ey;cases (Fa,u=(Zs b))
Kl a:=(decide a)=false
Ij:=(asked s)=none
GF:=(sc.names.lookup x)=(some .cell)
Kb:=.bool false
Ii:=DecidableEq κ
K0:=MkOk mask
Ms a:=(vH t.C_p a)
IL a b:=Kp.Crowd room so a b
Hu:=(jA,true,iteT ?_)
XB:=(aE,d,.frz o (.dT kvs))
Lc a:=by ext Br;ext qJ a h
LR:=xs++[y]
KZ:=upI w prs
Ih a b:=(H' a)=(some (.tup b))
IK:=PtsL H ps qs
IJ:=PrsL H ps qs
LA a:=canF w ss p a
Lh:=Pv 0 Z H
HK:=GvF lens names f
HJ:=xem lens names f
Ka:=acr w x1 b1
I0:=acr w x2 b1
Kz:=(BO lo h9)
G1 a b c:=by show(Nd,I.list hb);ext Sm;ext aJ a b c
GY a b c:=by show(Nd,I.tuple hb);ext Sm;ext aJ a b c
LQ:=ps++[p]
Mr a:=(aL h' a hs)
HI:=hidT s₁.heap H
Ky:=V->(V->rZ)
TY:=Zk (bT h)
HH:=(xN,s∈Tf,sv)
O8:=setI own pt.nm 0
NC:=#[b7,ui,(.int es.size 0),BM]
Kx:=Up t.place
IZ:=α->(dc α)
Lg:=(tG k j)
Hd:=names.any (fun n=>KE)
Iv:=IntsAre vs ns
LP:=(Tl oH)
Nc:=s.heap.push (eg,"dict",.dict (#[]))
KG a:=xm (xz (xaq a))
GP:=by refine (nx ?_);refine (fq ?_);intros
Kw:=(kN xl Zq)
HX:=valV kvs (xv s)
Ha a b c:=OpR X (binaryOp a) (rI b (LI c))
IQ a:=fun c q=>(bE a q)
Mq a:=fun y c h=>a
Iu:=SqL K H1 a xs
HZ a:=fun c xs q=>(bE a q)
MC a b:=by ext oA pic a b q h
HG:=fun b o e hx=>?_
GA a b:=(swapsWith a b pos.line X.env)=(pure false)
Ir:=by ext b9 kvs e l f s
Lf:=X.wish E
zfs:=Cj=(some eC)
Ul a:=a=(.fields vs)
LO:=xb1 p s
II:=xct I1.hok e
KM a:=by ext cJ a this this
zfr:=(gT,so2 z)
K7 a:=(kJ 102 _ _ a)
GE:=(aE,ln,.lst (names.map V.str))
Iq a b c d:=(jY (Gw (fZ a (HV b c d))))
KY:=PT X a tA
GI a:=PE X (.Call (.Name x p) nF [] pos) a
Sx a b:=xae xa4 (xb0 a) b fC
IH:=DGet H a y o
zce:=.ret (.bool true)
KW:=kvs[i]' aa
IG a b:=xaa (o:=(.tup a)) kq b
Lz b:=DGet H2 a y b
zgz a b:=BindsTo s fd (i7 a) b
Kk a:=(zpZ,W 0 m Z H,a)
zcJ a:=Room q0 k (A.deeper a)
GO:=Value->(Value->(Sem Value))
IF:=mv.mono more
Le:=xax lens
IY:=E9::(ptV p)
Ic a b:=by rw [Zr];show ((a+1)<=b);omega
Ht:={ D with nx:=u D }
HE a:=∀ Z H,((Pv a Z H)->zy)
Hk a b:=∀ w' s',(a->(b->(Q w' s')))
GD a b:=∀(j:Nat) (y:V) (i:Nat),(Fc->((bQ a i)->b))
Hg:={ p with x:=x,y:=y }
Hc:={ pt with x:=x,y:=y }
Kv:=(i4 TE TE)
Ku:=(i4 Tr jT)
IX:=(bX Str Ki)
KU:=(au a e2)
IW:=(au l1 hl1)
IV:=(d9 z name)
Tj a b:=MeetsIn prog w a b
zbg a b:=(Wn K mainGlobals a)=(some b)
OD:=fun p z=>(nomatch z)
Lb:=by show(xT,e,.nil)
GS:=[.str "left",.str "right"]
zdg:=[.str pt.nm,rY]
GM a b c:=(bindArgs a (i7 b))=(pure (List.zip c b))
Kt:=(o6 hi ei)
KR:=Cls X.K C
Hs:=s.TypeIs aB "dict"
NA:=(eg,"list",.seq vs.toArray)
KQ:=Rch f a b
Gy:=fun σ2 H2=>(tb (zaw,Pv aM) σ2 H2)
GL:=(leap mask ((oQ).i) ((oQ).pt)).1
Ld a b:=(bC j a b h1 h2)
Ig:=canO w ss p p'
HW:=(zgC "tuple" HN)
Gs:=fun _ _ _ _ _=>(xae (r:=(rIxT K)) xat bz xo fC)
Ks:=(aL y c h)
OC:=Kp.Mt room so' ho'
HF:=(uQ rfl rfl rfl)
zfP a c d:=by ext zck a;show(lU,c,d,fy i y hy)
IU a b:=Kp.upd1 asked s a b
GC:=∀ b xs,((gZ b xs)->(za,.tup xs))
KP a b:=xbq a (xbc rfl b)
HP a:=(mT hp2 T.n_bb lkO a)
Hf:=(Qk K cdv qual)=true
NG a b:=by ext ut i a aa;show(cY,⟨b,hd Z H p⟩)
Rn a:=fun w' s3 I3 rw'=>a
Py:=PrOk ps pw ph p
NR:=es.getD jk.2 (0,.none)
Ho b:=show b from (I.hok a _ ea)
Uk a:=∃ m,((m<n)/\a)
HD a:=∃ z,((aF a z)/\(y=oP))
GW a b c:=∀ C ex s H pn,(a->(b->(PG c tg g)))
GK:=∀ z,(qY=(decide (z∈names)))
G8 a b:=by generalize eu:a=H6;ext jh s6 b g6
Gz a:=fB K a "__setattr__" "object.__setattr__"
Nz a:=backToKw a (keywordEach [] X.env)
RR a:=fun i h h' st k=>a
Gu:=(IS,"lengths",.ref dl,[("picture",aB)])
GJ:=(IS,"own",.ref d_o,[D5,DH])
GZ:=by cases e2;show(aJ,ob,g,bg ex)
Ie:=Jw rfl (Qb ?_)
G5 a:=if (iS=k) then (iS,a) else kv
G4 a:=∀ C ex s H pn,(PE a elt te)
G0 a:=∀ C ex s H pn,(PIf a ifs tc)
Hb:=o.data=(.set es ep t)
GN:=lenI sw p.x p.y s.1 s.2
IT:=exP p1 p2 p
OG a b:=by refine (Y5 hbase hline (thn a b))
MK:=(rN (zav,Z.length,∀ i,((n<=i)->((σ'[i]?)=(Z[i]?)))))
GH:=∀ f,(RelO (fs.lookup f) (mA f))
Gx:=∀ vs H Q E,(Ey->(vs.length=ps.length))
Gv:=∀ i y H H',((Tp H H')->((F i y H)->UU))
zuf:=(Ww _)=(Data.cell v)
Hj:=prs.map (exP p1 p2)
GV a:=(Ea f ⟨oc,od,.func a,osl⟩)
Vf:=by obtain⟨⟨k,x⟩,q⟩:(∃ y,((kvs[i])=y)):=gf;have hx:kf:=(cA iw q)
GR:=.dK (putK kl kB (.ref dq))
Gr a:=xb2 (xdf rfl (xg1 hr)) rfl T.n_dict boot_dict (xg a xi)
M0 a b:=by rw[JL];simp only[Zu,JP,or_false,not_or];ext aO a b
UP:=T.size.1
Tc:=run.outs.2
OB:=by rw[Zr,Jg];omega
zfq:=(tu).objs.size
TX:=["thing"]
Px:=["_law_script"]
Sf:=["_law_one"]
Rb:=["_law_found"]
zbf:={ s with heap:=tu }
M4 a b:=∀(pins:aW) (s:Shared) (Z:St) (H:Hp) (Q:a),b
TW:=(T0).length
SJ:=fun _=>true
UO:=fun _=>0
Tb:=fun _=>(#[])
zfO a:=I1.kept (t':=tk) a
UX:=by unfold KV at r
Uj a b c:=by obtain⟨a,b,_,_⟩:63:=c
RK:=(x::ys).Nodup
TV:=∃ es,jO
RJ:=∀ p∈ps,Fb
PJ:=by split<;>split<;>omega
Ni a:=by unfold Geo.upL Geo.upN Geo.dn;rw[a,a]
MT:=by unfold Geo.lvL Geo.lvN;rw[Za,ZX];ext iG
Ob:=by unfold acrI;ext iG
Oe a b:=by generalize eu:a=H5;ext jh s5 b g5
OS:=∀ nm∈names,zaJ
Ui a b:=∀ z∈a,(z∈b)
RI:=∀ s∈al,sv
Ra:=List DictEntry
TU:=.inr p.nm
SI:=i<xs.length
Oj:=X.env.cells.lookup n
OA:=Str->(dc NameKind)
Ta:=prs.take i
zbe:=of_decide_eq_true e
Op a:=(bootBuiltins x)=(some a)
Oi:=(h1.get? b)=(some o)
UN:=(dR gz3)
Se:=s∈(room n)
P9:=(dB ys.length)
TR:=(nu leS3)
RH:=Zx kvs.length
UM:=Ji.mpr c
OR:=(i4 Str NameKind)
Pw:=(H3 c)=(some u)
Pu:=(dW,sIx n 0 lo)
S9:=loop _ rfl
S8:=I.pin p hp
RG:=A.units<cLine
TQ:=(im iter)
OQ:=["self", "width"]
TN:=Yq (Zj _)
TM:=ns.take j
P8:=A.handled=none
TL:=Same H1 H
UL:=Zw.mp hx
UK:=Zw.mp hz
Sw a b c:=by have a:(b<s.heap.objs.size):=c
Sv a b:=by rw[a,b] at z;exact (g_at z)
zdS:=prs.length<=12
TK:=Q false s
RF:=Mt room so ho
UJ:=b∉X.fs
zdf:=Jn.update _ _ _
Pg a:=(aE,q,.tup (ptV a))
TJ:=PE X e ty
Nb:=(sc.names.lookup x)=(some .local)
S7:=eval e env
SR a:=xdv lens names a
Sc:=ns.length<=n
RE:=TP X pins Z Q
UI:=.bl true
T9:=by refine (YB ti ?_)
T8:=by refine (Qs ti ?_)
T7:=by refine (YA ti ?_)
T6:=by refine (Qr ti ?_)
O7:=∃ t,(u=(Qu x t))
TH:=n∈crowd
UH:=acrI w p
UG:=uprI w p
Uh a:=(BB gD a none)
zue:=scope.names.lookup y
UF:=(MA Key)
Sb:=OutL H cs qs
RD:=Itkt d ob kvs
RC:=Itit d ob kvs
P7:=(om (bE nc e))
RB:=xah w' ps srt
Oo a b:=by exact (absurd (decide_eq_true a) b)
PL a:=(jz,bt _ _ (dQ a) e)
Sa:=xe8 (xbw hr)
R9:=xij (xbw hr)
TF:=(bE nb e)
UE:=(vW xcd)
Pq:=fs.length<=1000
UD:=(iN 0 2)
RA:=Room q0 k X.A
S6:=crowd++[x]
S5:=vs=[aB,bH]
OF a:=ZI (aa:kvs.length<a) ao
Rz:=(Dq pt.nm pt)
zet:=fun _ _ q=>Gb
TD:=PA X es t
R8:=I.cell x c e
Ry:=I.freeC x c e
zdv a:=tb Z H1 (fun y H2=>a)
Rm a:=fun c=>(bG,c∈a)
UC:=Sem Bool
Ug a:=by exact (.inl (.inl a))
Uf a:=by exact (.inl (.inr a))
Ny a:=(oX,(X.base.get? b)=(some o),a)
zeK a:=Zk (Zc (Zk (Zc a)))
R7:=neC b o e hx
Oa:=I.base.there b o e hx
UB:=hidT h H
zdR:=fun σ' H3=>zgB
SQ a:=(BB gD a (bu f))
PZ:=Same.seqL s hs
SH:=V->(ag->rZ)
N4:=(xN,s∈(room n),sv)
Xf:=#[b7,ui,(.int vs.length 0),BM]
TC:=I.list hq
TB:=I.lstM hH
S4:=fun _ q=>q
Oz:=fun _ q=>(nomatch q)
SO a b c:=by rw [Za];exact (ZI (a:b<c) ao)
Nq a:=Zc (m:=(Builtin.Tuple.tupleExact _)) a
Ti a:=(so a)=(some s)
S3:=(aD Zq xl)
Rx:=o.getD j none
Tz:=a.lt k hk
Ty:=a.lt k aa
S2:=SsOk uN ss
zdQ a b:=by refine (Call_ (xcr I hg hm a b))
Pp:=(pt.x+(dD*1),r)
Oy:=(pt.x+(dD*(-1)),r)
Ox:=(pt.x,pt.y+(dD*1))
N9:=(pt.x,pt.y+(dD*(-1)))
UA:=(My xd6)
Po:=⟨gD::us,kw⟩
OP:=(I.ok.bs b o e).1
Ue a:=congrArg not a
Ud a b:=HoD.keep a (ng b)
Uz:=Zp.mp hy
O6:=L.length<=t.mask
S1:=(w+1)-pt.x
NI:=["_law_script", "_law_k"]
Ou a:=pm.mem_iff.mp (Zg.mpr a)
Su a:=al.map (fun s=>a)
S0:=atKey xs k
NX:=cu4.keep (Same.tups s5)
R6:=SqL K H p xs
UW:=by rw [(xj c)] at e
R5:=k it aj _ st
SG:=PA X [a] ta
Rl a c d f g:=by show(bw,a,je (CK c pz d b) f,b,e,g)
O5:=Rd H a (.dK kvs)
SF:=putF f v fs
SZ:=xdi q e dJ
Rw:=KB H H' d1 d2
zcB:=.ask [nm] eX 0 0
Uy:=stat fr5
R4:=c1.append c2
Rv:=t.dummies=(#[])
Ux:=da≠d_r
zeJ:=by have hlen:=r'.length
SY:=(bX α β)
Uw:=put a ha
R3:=(dk rfl rfl)
Ru:=QJ.mpr (JO _)
SX:=valV kvs j
Rt:=a.lt (k-1) aa
N8:=HT.sIx xs.length 0 lo
Uc a:=(jv xft a xcx)
zfp:=upd1 ho1 s a
R1:=MayA srt prs
zfN a:=by show(j7,r,pl,hz,I.list a)
Tx:=(Lx Db a)
Pf a:=by show(jU,t,Fs a);ext jM e
MN:=(sG,(h.get? b)=(some u),(h'.get? b)=(some u))
R0:=Lp H' ps kvs
PY:=⟨ps,ss,l3⟩
Tg:=by rw [bW,xeu] at y
zfo:=upd1 so1 a s
Rk a:=seqObj "list" (#[]) a
Od a:=(zne "dict_itemiterator" a)
RZ:=SqL K H a Sj
N7:=fun h' dd' hs=>(h _ ?_)
Ss a:=shO own crowd g a
zdu a:=by show(ae,q0,a,hq0,pl.find hf)
VS:=I9.pin (b,o) (Z1 _ (Z1 _ (xcv hb e)))
On a:=by obtain ⟨its,r,pl,hz⟩:63:=a
zfM a:=tupleKeyHash knd a
Tw:=ps.zip us
O4:=srt.Pairwise xdb
OO:=(aa:vs.length<=i)
Ot a b c:=by show (nZ a G);refine b;by_cases z:c
Oh:=fun _ _ h=>(nomatch h)
SN a b:=∀ i,(a->((i<m)->b))
Uv:=PF++[lR]
NW:=(carriedByValue v)=true
Tv:=(dk x hx)
Xs:=(s2.heap.get? d)=(some ob)
Tu:=PS X st t
Ub a:=(xb9 o a)=true
Rs:=StrsAre us ss
Pn:=.inr (.inr rfl)
Tt:=Frs H kvs
Uu:=(PQ P f)
Re:=by obtain⟨h1,h2⟩:=h
Nh:=(eg,"dict_values",.fields (#[b7]))
SW:=xby w h ps
NH:=hp.update a (JT (j8,#[]))
SE:=h.Ns1 dx mA
Ts:=Rch f a c
M9:=by rw[Jr,Jp,decide_eq_true_iff];constructor
zjP a b:=by show(uY,⟨a,Pv aM,fun σ' H' p'=>(o3,b-aM,aa,rfl,hlt,p'),(aL x H' y)⟩)
Rr:=⟨es,hdat⟩
RQ a b c d:=SortSt.mk' general' a b c d
Pk:=X.env.scope=sc0
Ut:=qs1++qs2
Ow:=fun _ h=>(nomatch h)
Th a c:=fun b a q _ _ _=>c
PX:=fun _ _ _ e=>e
Rj a:=∀ s',(a->(Q () s'))
N6 a:=∃ xs,(a/\(k=(! xs.isEmpty)))
Ri a:=∀{xs:ag}{us:aQ},a
NQ:=by simp only[Z6]<;>omega
MZ a b:=∀ base:Heap,(a->((base.Ns mainGlobals mg)->b))
M7:=∀ y∈scope.names,(y.2≠.cell)
ON:=["word", "width"]
NK a:=∀ u,((aE a u)->((H' a)=(some u)))
OE:=by rintro _ _ ⟨rfl,rfl⟩
PV:=some (V.int c)
Sr a:=prs.find? (nmF a)
Xt a:=(scope.names.lookup jf)=(some a)
RY:=(bX Int Int)
Tq:=(au t ht)
Nk:=(aD dr.pm.length_eq (bg dr.ok))
zgy:=model pr wd
To:=(bT,Zk h)
Ng:=.tup (ptV { pt with x:=i,y:=j })
PU:=Zx ((Mp+1)-gR)
Tn:=ZD (Qw _)
SD:=StL H ps ts
Pj:=(cP (Ly hy aj))
SV:=(fM hi lo)
Pe a:=fr2 _ _ (ne_f a hda2') a
Us:=Itr lo n
O3:=s' _ _ (s _ _ e)
NP:=fun x y=>((lexK x y)=true)
NJ a:=by intro z;show(dM,(ZH.inj z).symm,a)
zaQ a:=by rw[<- z];exact (SqL.of a)
Np a b c:=by have:((cE (fM a b))=c):=aa;rw[this];congr 1;omega
Ur:=xfx r fs
Rh a b:=by rw[Zz,a];show ((Jv m b)=none)
Pd a b:=compEnvC scope a b X.env
Sq a b:=(wS a T.n_bh lkZo b)
RP a b c:=(totI w a)+((xbd w b)+c)
zdt a:=by rw[hs3];show a;refine (JF ?_)
VB:=(X.env.scope.names.lookup y)=(some .local)
N5 a b:=xb2 a rfl T.n_list boot_list b
NZ a:=(i9,R,ta Z H (fun vs H1=>a))
Nu:=Builtin.Dict.samePairs id a b
N3:=(leap mask p.i p.pt).1
M6:=by show(ae,u,rfl,ru,xcl r);show(cX,u=(Zs d),ru)
PR:=fun c v _ q=>q
MS:=fun _ _ _ _ _=>(xae (r:=(rIxL K)) xa4 bz xo fC)
SC:=(ED [a] Em)
SM a:=by exact(cq st (j9 z a))
Ua a b c:=((a=b)/\(v=.non))\/c
OM:=(so cp)=(some dG)
RX:=SoD H d n so
RW:=HoD H d n ho
zcI a:=by refine (JN (xcr I hg hm a ?_))
No a b:=OpR X (compareOp a) (rI0 (iy j (Uq b)))
Oc a:=xbq a (xfv (pv 13) xo xd7)
MQ a:=by refine(gu s1.heap.objs.size [s1.heap.objs.size] _ _ a)
SB:=(aL n x hx)
zau:=(ez H2 p [cO,.ref o])
O2:=lvL w x1 true r1
OL:=(FP (nY b) jN zug)
NY:=by obtain⟨i,hi,ei⟩:=(QA.mp he)
zcH a:=∀ b o,(o9 b it jN a)
OK:=10*(turns t.mask)
O1:=(collect b7)>>=_
OJ:=(gZ q (ua gQ eK))
zeI a:=⟨k,a,q.keep tL⟩
O0:=(nr / 8) % 65536
Nv a:=∀ c u,((c≠d_o)->(o9 c d_r wA a))
RV:=upL x1 y1 r1
PH:=by intro m e h;ext jM h
ND:=by rw [mQ,xik] at c;dsimp only at z
OW a b:=by show(lZ,a,_,_,rfl,sK b ?_ ?_)
So a:=by exact (hM _ kq (zev a y))
Vx:=by show(oA,n0,nL,nC,nP,I.size_lt (Zj s.heap.objs.size))
Nw:=∀ a b,(((k a)=(k b))->(a=b))
NV:=.Compare a [op] [b] pos
OI:=(way mask hh m).j
Tm:=seF d1 d2
T5:=by have BIG:Nx:=Sk
zcA a b:=by obtain⟨a,rfl,b⟩:=q1;cases r1
SU:=[a0,a1,a2]
Nr c:=by rw [Zq,ZL];show(cR,c,aj,bC a ha b hb e)
OV a b d e:=((c∈a)/\(c∈b))↔(d/\(c=e))
NU a:=∀(i:Nat) (y:V),((aF ys y)->a)
Rg c d:=fun {a b} ha hb c e=>d
NO:=["thing", "low", "high"]
MU:=["_law_width", "_law_point", "_law_side"]
Nj:=pl.no (nm:=nm) (fG,(no p hp).1)
Rf a b:=cans a ss (prs.drop b)
OH:=(p,w)::(P.zip vs)
zbC:=(gZ aZ (Mi FN cK))
RU:=(gO h h' aa)
M3:=(kN Zz (KO (fT "across") "width" aP))
Nn a:=A.under (.builtin "type.__call__" a)
SL a b:=Jo (thn a b) hs rfl
zog:=(je,(b6 e)=cW,¬ (qm k b))
RT:=btw rf yn rn
Og:=(IS "picture" aB [])
Ov:=(aE,a,XO a C od)
OU a b:=(bO rfl (dR a) rfl rfl b)
NT a:=k35 _ _ (ne_f a hkl) (ne_f a ow3) a
Na:=(IS,"rent",.ref d_r,[D5,DH,Rc])
M5:=fun σ' H3=>(tc σ' H3 (fun b H4=>zrV))
MX:=(gW,((aN).y)-hX,0,-(((aN).y)-hX),((aN).y)-hX)
RO a b c d:=by have a:(fF b pz c pz (MB d)):=xl
Sn a:=xm (xcw bz a rfl)
Om a b c:=(fF,H1,q1,.tup (BO lo a),b,c)
SA:=tOp r ta tb
RN a b:=(ba a b ll (au nm h))
zud a:=(bO hp1 T.c_ac T.n_bc lkSo a)
Nm a:=spliced ((false,a)::(backTo pos []))
zde:=Jn C s'.heap h2
Ph:=(bq V iY iY rZ)
MM a:=by show(cD,(K9,(its.toArray.any (eqU x))=(its.any (eqU x))),a,q)
U4 a:=by refine (Ya F.entry_set_update_loop ?_);show(nK,JQ F.plain_set_update_loop _,Zc (m:=rL) a)
X5 a b:=by rintro (⟨h,rfl,rfl⟩:43);ext dE a b
O9:=by have z':zuf:=z;cases z'
MW a:=by have a:(((eA).length)=ps.length):=(by unfold xad;rw[Za])
NN:=[.int GU,.str b,.ref qk]
Rq:=shI i j hi hj
zpY:=by exact(cq e1 (j9,k,by ext cH d1 k))
Pc a:=fun b o _ _ hc e _=>a
zpX:=[("height",V.int h),Os,Do]
Rp:=[a0,a1,a2,a3]
VH a:=∀ c u,(bj,c≠d_o,c≠d_r,c≠da,wA,a)
Pb a:=toP (way t.mask nT a)
NB:=tupleKind (xaf X.prog X.w)
MJ:=by have b1:(((sW).length)<17):=(by unfold Geo.upL Geo.upN;rw[Za,ZX];ext iG)
MV:=(ns.map (fun n=>(zft,zeu)))++[(kB,.int 0)]
Nt:=fun H2 q2 s2 hq2=>(fW q2 hq2)
zvl:=by simp only at ci di;subst ci di
MR:=(OX (xbc rfl (zrU 0 1):PG _ _ (gTup K 2 _)))
zat a b:=.of_wp (fun A R s ⟨a,h⟩=>b)
ML b:=(i9,Q,td Z H (fun x H1=>(∃ a,(bc,x,aB,IsD H1 a,zdw b))))
MP a b:=∃ t,((PSs a b t)/\(t { nx:=fun _ H'=>rM,rt:=Q } Te H))
MO:=∀ x,((foldedSetIterable iter X.env x)=(pure x))
MI:=by obtain ⟨rfl,e2⟩:=(Wg e rfl);cases e2;show(gX,rfl,rfl,rfl,ih r0);have z:=(rc.det rfl rc0 rfl)
ziQ a b:=fun (a,k)=>(if (((k == Q4)&&(env.scope.kind == .function))&&b) then (a,QW) else (a,k))
OZ:=[a0,a1,a2,a3,a4]
zas:=B.free y (B.ysf y my)
NS:=by show(oA,g,ex,sz,f,xhj I e hdat)
MH a:=(oS l1 l2 _ _ (BP,dP hu4,hu5,by rw[Za,Za];exact (J6 (ZI (aa:(qs1.length+qs2.length)<100) ao)),p6,a))
NF a:=by have q:=(hl i Z H hi p);by_cases hlt:a
MY a b c:=by rw[Zd,Zd,e1] at h2;cases h2;ext j3 no o a e3 b;exact c
zjW:=(mL,u5,tSeq t5 u6,u4,tSeq t4 u5,(zaR,tSeq t3 u4))
Nf:=fun a _ b _ s ha hb=>(m.inj ha hb)
Nl a:=by show(fD,o,g,T.obj 0 _ st2 b hb);exact (Zv a)
U7:=by refine (Qa kind_sorted plain_sorted entry_sorted (args_sorted1 _) ?_);unfold Wz
MG a b c:=by refine (xcj (jL a) hl1 aa (Lw k ES) (bC H4 qs1 s4 hu4 cu4));show(Kr,id sd3);have hs4:((H4 p)=(some (.ins b ds [("width",.int pw)]))):=(iT hs);have sd4:(xe0 t H4 p c pw):=⟨ds,hs4⟩
zgx a b:=List.getElem?_inj a b
zfL a:=Kp.filterMap_len a
zcz:=by simpa using q
XW:=by unfold Kp.upd1;rw[bW]
zcy:=(ZH.inj hx).symm
zfK:=by rw[list_sort_plain]
zed:=by injection e with e1 _
zds a:=∃(its:aQ) (n:Nat),a
zgN:=by have:=pm.length_eq
zaA a:={ s with heap:=h',toks:=a }
zes:=["_law_name"]
zfn:=! kvs.isEmpty
zdP:=(Zx n).toArray
zcd:=by simpa using hi
Xr:=∀ p∈ps,(gZ aN [i6,hX])
zcc:=by simpa using eu
zam:=by split<;>split<;>split<;>omega
zbB a b:=by generalize eu:a=H7;ext jh s7 b g7
zec:=by simpa using this.symm
zdO:=List (dc Expr)
zsF:=.ref s1.heap.objs.size
zcb:=.ref h1.objs.size
zca:=Nat.not_lt_zero _
zgw:=.str "both"
zfm:=(fU "tuple")
zgv:=(dU Result)
XA:=beq_eq_false_iff_ne.mpr h
zto:=(h''.get? b)=(some o)
zdN:=Zx h.objs.size
zer:=Zx nms.length
zdr a:=pr.keep (Same.tups a)
zdq a:=(List.of_mem_zip a).1
zbK a:=by ext lL a;refine (sq7 ?_);intros
zdd:=(H5 c)=(some u)
zdM:=.int es.size 0
zvk:=(d7 isSubtype_type)
zbd:=.lst (ss.map V.str)
zaI:=scope.names.lookup x
zgu:=(Fd "pair")
zgt:=o.dict=none
zeq:=ps.length<=12
zcx:=crowd.length<=12
zdL:=(aF kvs (k,v))
zgs:=xlb I.hok e
zfl:=os.map V.ref
zgr a b:=(H2 a)=(some (.dK b))
zfk:=Gl X "range"
zgq:=Value->Bool
zaH:=d.params.defaults=[]
zcw a b:=by rw[<- a];exact (Zg.mpr b)
zgp:=0<sh.length
zgo:=(Zs fV)::us
zeb a:=(jz,k4 _ _ (dQ a) e)
zbJ a b c:=by refine (xhw (xs:=a) (Pv:=Pv) b c ?_ ?_)
zfj:=xmn (xbw hr)
zcv:=fun y=>(nomatch y)
zgn:=s4.trans s5
zfi:=s03.trans s5
zfh:=(qj "range")
zgM a:=(A.units+a)<cLine
zgm:=tn i s.heap
zfg:=(xeb x)=true
zgl:=s07 _ _ hls
zgL a b c:=PE X (.BoolOp a b pos) c
zdc a b:=(xD,xai (PW.pt a) b x9)
XV:=I3.kept (t':=s1.toks) vU
zgk:=xs++[(k,a)]
zff a b:=(H' a)=(some (.lst b))
zbZ:=Vis X.env.scope x
zdp a:=xcf X (oU "sorted") a
zdb:=(Ct kvs.length)
zep:=(Yl K C)=true
zda:=below t.place j
X4:=scope.kind == .function
zeo:=(l.map r).sum
zcZ:=(bX World Heap)
zfe:=(bX fA Heap)
zgj:=α->(dc β)
zgi:=o.getD j uJ
zgh:=I.hok b u e
zen:=(C4 "values")
Xe:=["_law_cell_here", "_law_k"]
zeH a:=kvs.map (fun kv=>a)
zfd:=(d9 z.nm nm)
zfc:=SqT K H p xs
zgg:=(uB,h y rW)
zcu:=Rd H a (.dT kvs)
zcY:=xbg eR bB fw fC
zfb a b:=Lay mask hs.toList a b
zeG a:=by obtain⟨i,hi,ei⟩:=(ZM a)
XH a:=Builtin.Range.rangeSize lo hi a
zbA:=.ask [name] eX 0 0
zcG a:=PySem.W.methodObj uI a
X0 a:=JZ (by exact (decide_eq_true a))
zct:=(D4 d).objs.size
zcs:=(D4 1).objs.size
zcX:=y.2 != .local
zdK:=y.2 != .cell
Xz:=(s.heap.get? b)=(some ob)
zgf:=(cF H l [])
zfa:=(cF H1 l [])
zbz:=fun n h=>(nomatch h)
zcj a:=by ext pk a;refine (iq ?_);intros
zci a:=by ext pk a;refine (fq ?_);intros
V9:=(rp,((X.A.units+1)+m)+n,cLine)
zar:=(zP,back x (Zi _ hx))
zbc:=(zP,tm x (Zi _ hx))
zch a:=xcf X (oU "len") (LH a)
zea a:=by ext Pa;show(cX,u=(Zs a),rx)
zbb:=srt.filter (xb1 pt)
zbY:=(zgO,(Z[i]?).join)
zge:=putF f y fs
zfJ a:=bindL kindOf a m x
zfI a:=bindC kindOf a m x
zbI:=by show(zkr,s1.heap.objs.size)
zbH:=by show(zkr,s2.heap.objs.size)
zbj a:=s.heap.FunFrames X.base a
zba:=qs.length=cs.length
zaq:=∀ n∈tY,(∃ c,vg)
zeZ:=s6B _ _ hdt6
zem:=(bG,z∈ns)
zbX:=(xs.all xeb)=true
zfH a b c:=(iQ,a,.inl (gF,.inl b),c)
Xq a b:=pS a sc_as.nd (Gc,xu xba b (wv 5))
zcW:=(so a)=(some s)
zaZ:=(dI,I.stkSub b z)
zcr:=(H1 d)=(some qQ)
zgd:=adv mask oQ
zgc a b:=by ext iH t a;cases q;exact b
zcq:=ZJ I.ok.bsz I.sz
zgb:=pt.x+(e*dD)
WQ:=ps.find? (fun p=>(d9 p.nm nm))
V6 a:=by refine (Zk ⟨Qc F.plain_set_update_loop _,a⟩)
XU:=(zgC,"list",(qO).toArray)
zcV:=GOk zs.length g
Xy:=(Mz,sc0.names.lookup n)
zdJ:=p.getD (k-1) 0
zdI a b:=by show(Io,dx,a,(dr.same b).pic)
zdH:=Room q0 cL X.A
zah:=I.base.free b o e n hx
zbG a:=ps.Pairwise (fun p q=>a)
zgK a b c:=(zbg,a,some (.int b c))
zel:=cutV xs lo hi
zdZ:=by simp only[kstep,e,e2]
zbW:=q ob (I1.nofrz e)
XG a:=∀(E:aT) (Q:aT),((Gm true s)->a)
zga a b d e:=.ask a b (fun c=>(cM c d e))
zcU:=(l.map f).Nodup
zal a b c:=by generalize eu:(dZ a b)=H1;ext jh s1 c g1
zcT:=l.most=(some n)
zfZ:=(H6 q)=none
zfY:=rInV K true
zek:=PE X value tv
zgJ a:=s5 _ _ (s4 _ _ a)
zdG:=(bV d.name fa)
zej:=runEnd mask i
zdo a:=td Z H1 (fun x H2=>a)
zfG:=by show(cX,u=(Zs _),rx)
zfX:=(cF H l ys)
zcF a:=by show(sP,names.map V.str,a,?_)
zap a b:=OpR X (binaryOp a) (rI0 (LI b))
zbV:=xb8 kvs (.inr nm)
zbU:=(ZW a:Key)=(ZW b)
zdF a b:=⟨(nu leS5),(au a b)⟩
VY a:=(h''.get? s.heap.objs.size)=(some (Ro a))
zaG:=xg (xaq (iN 4 5)) xi
zei:=(ez H2 q3 M8)
zao:=ObjM s.heap x dx C mA
zeh:=cs++[(nm,hs)]
zdE:=.str (val i) t
zeg:=RelV (kV k) u
zbF:=by obtain⟨j,hj,ej⟩:=(ZM h)
XT:=xcs aP (xcs aP (xiv aP))
zaY:=xi2 (ss:=ss) nx g k
zbT:=xfe H dl da names
zaF:=Moved (d::wr) G s s2
zaE:=xah w' ps srt' pt.nm
zaD:=HOk X.prog X.w H' h'
Vl:=(LG,PySem.W.takesIn K (.builtin "object.__class__"))
U3:=(PySem.W.specialIn K X6 "__get__")=(some (Gd "getset_descriptor.__get__"))
zfW:=dH == .free
zfF:=by simp at hb;subst hb
zfE a:=if a then 1 else 0
zdD:=h.objs.size<=a
WL:={ cls:=.none,data:=.fields ps }
zby:=dG∈(xax lens cp)
Vn:=∀ b∈ch,(bD,(b∈X.ex)\/(yh b),AM,yB b,Ip b)
zeY:=[false,true]
VU a:={ s1 with heap:=(Of "dict_keyiterator" a) }
VA a:=∀(i j:Int) (t u:Tok) (s:Shared) (Q:aT) (E:aT),a
XR:=I3.kept (t':=s2.toks) vU
zbS:=(ss.map rent).sum
zfV:=∀ s,(Ge<=0)
WK:=∀ x∈Ad,((CZ+(rent aZ))<=dH)
VO a:=∀(i:Nat) (k:Key) (x:V) (H2:Hp),(kf->(kD->a))
zak:=by unfold upd1 at hx;split at hx
V2:=["_law_picture", "_law_cell_here"]
zfD a:=∃ p,((aF ps p)/\a)
zdn a b c:=fun _ _ _ _ ⟨_,_,a,b⟩=>c
zaP a:=∀ p∈prs,((aN∈ps)/\a)
Xi a:=by let Pv (i:Nat) (Z:L2.St) (H5:Hp):Prop:=a
zdY a:=∀ t,((gT,ho t)->a)
zfU:=.int (lo+i)
zfT:=(au q3 hq3)
zfS:=(aX,0+dD)
zeX:=CXo l.prog w
zgI:=by show(m8,ly,ir hy)
zaO a:=by refine (wpAny_pyIter_slot ti a ?_)
zeW:=(iK xbr xbr)
zaz a:=(i9,Q,ty Z H (fun y H1=>a))
zcp:=(eS ⟨vs,dd⟩)
zfR:=b∈([]:az)
zbx:=(fZ 0 (Gc (Ko 8)))
zrT a:=ZI ((gg pl.len):kvs.length<a) ao
zoE:=ys.all (fun y=>(CN zue .free))
zeV:=(ez H2 p zdg)
zeU:=putK kvs k y
zag:=kvs++[(xv cK,.int lQ)]
zcS:=(CT,atI xs i)
zbw:=(uB,xgd (a7 y hy))
zaN a:=by subst z;ext cJ a mu mu
zgH a:=seqObj "list" a 0
zco a b:=kF _ _ (Z2 a) (s910 _ _ b)
zeT:=(EU so1 ho1)
Xx:=by show (dB 0);exact (ZQ _)
zcn a b:=PE X (.Constant a j pos) b
zeS:=.str name tk
Xp:=["pairs", "name", "other"]
zaC:=srt'.filter (xb1 pt)
WP:=p.map (fun i=>(vs.getD i .none))
XQ:=.go own rent asked crowd
zeR a b:=.cons a (.cons b .nil)
zeQ:=(aL y hy hl)
zeF a:=pS 2 sc_t.nd (oJ a)
zcE a:=l.map (fun n=>(k n,a))
zeP:=IsPart vl lo
zeO:=IsPart vu hi
X3:=⟨o1,k it aj _ e1,r⟩
WX a:=∃ o,(a/\(∀ v,(o.data≠(.cell v))))
VC a:=by refine(gu s2.heap.objs.size [s2.heap.objs.size] _ _ a)
zaj:=by exact (ih p (by rw[e];simp[k]))
zaX a b:=(findIn K gD a)=(some (Gd b))
Vq:=Q bH (dZ,l,.lst (ts.map (fun t=>(.ref t.2))))
zbR:=lvL w x2 false r1
zaf:=(e=x)\/(aE,e,.own x)
zay a b c:=(PN,xe4 rfl T.n_enumerate a,b,c)
zae:=k b o (aA,hc (bF z)) e
XN:=(Gc,xu xba (uA h7) bB)
zdC:=putK kvs aN dG
WO:=(ztp "_law_seats" "_law_pairs")
Xd:=(ztp "_law_one" "_law_other")
zdB:=(bv v H I r h)
Xw:=fun f vs=>(PySem.call f vs)
zbv:=(asked t)=(some n)
zbu:=(clsV c)=(some cv)
zbt a b:=Zc (Ja a b (fun _ _ h'=>h'))
zqB:=xa6 (fun z=>(c (ZW.inj z)))
VX:=(CN,scope.names.lookup jf,.local)
Xo:=ps.filter (fun p=>(bG Fb))
zeE a:=(y8 q0 0 (bb hq) a)
Xm a:=∀ j,((j<n)->(tN,a,ky j,ad j))
zbQ:=mayB ss aN p'.2
XM:=sliceBounds lo hi none n
zaM a:=by show(zi,s,e,Zg.mp a);rw[<- e,xd1]
WW a:=(NM,XE/\Bd,v,a,XE/\(kvs.length<=i))
Vt a:=(VL,(H1 d)=(some (.dK kvs)),∀ ob,(Aq->(R a pX)))
V5:=by obtain⟨a1,a2⟩:=a;obtain⟨b1,b2⟩:=b
zeD:=by ext Mn hv q7 hq7
zeC c:=richCompare c aB cW
Xn:=∃ u,((h'.get? e)=(some u))
zri:=by rw[esz,<- ln];exact z
zcR a b:=(bO a T.c_w T.n_be rfl b)
zef:=(aL i hi hi2)
Xc:=.frz ob (.dT (LnT (lens b)))
zcQ a b:=(n<=j)->((a[j]?)=(b[j]?))
zai a:=by refine (xap.snoc (xap.keep Mj a) ?_)
zbs:=(jy,h b (Zi _ hb))
zcm:=AkD H d al asked
zfC a:=fun c u n1 n2 e=>a
zbP:=vs=[aB,jD,.int r]
VD:=DW/\(w4/\(∃ vs,(kH/\(h.DictOf oG a vs))))
zfB a:=fun j y s hy hs=>a
V1:=fun v s1 h1=>(thn h1 (aL itv s2 h2))
V0:=∀ H',(zf->(((p i)=false)->(M H')))
U8 b c:=by show(lW,he,∃ q,(Ib q),let ⟨q,_,_,hq,_⟩:=dd'; Td,xd3 I zo hs he (xiw b hd c dd'))
zax a:=Moved.trans wk.gtrans a mv3
zaW a b:=by show (¬ ((a:Nat)=b));decide
zdm a:=by have:=a;ext cH e this
zbE a b c:=⟨(HR 2),[a,b],c,(wQ hp gf)⟩
zeN a b:=fun r a ⟨hr,b⟩=>?_
Vs:=∀ h',((Heap.ExtBut it s.heap h')->(Q none lv))
zfA a:=∃ q,(qC Cj eC a)
V4 a:=∀(s:Shared) (u:Value),(zgz [u] [(a,u)])
U0 a:=∀(cdv:Value) (A:Around) (outer:mK) (s:Shared) (H:Hp) (vs:ag) (Q:VK) (E:XK),((zcJ (XY j6 cdv))->a)
zbi a:=by simp only[shp,Zo,Wb.injEq] at a
Xb:=∃ ks' b,((y=cW)/\(qm ks' b))
zbO a b c:=let ⟨a,h1,h2⟩:=b; ⟨a,c,h2⟩
Vu:=["_law_picture", "_law_points", "_law_seats"]
zad a b:=∃ tk,((mg a)=(some (.int b tk)))
zfz a b c:=by obtain ⟨a,b,c,rfl,_⟩:=h;rfl
zbr a:=by unfold picF;show(GT,a,"width",a,zpX)
XF:=by obtain ⟨_,k,ek⟩:=(key s' a' e)
zbq a b:=by generalize eu:a=H4;ext jh s4 b g4
zdX a:=by obtain ⟨s,_,rfl⟩:62:=a
zcP:=xms (B.cells I)
WI:=by refine (List.ext_getElem aj (aL i h1 h2))
zcO:=(aL s3 mv3 so5)
zeM:=(bm N ps st)
X9 a:=(ez H s.heap.objs.size [a,x])
zbN:=(gO p hp (d7 hp))
zdA:=Jn d s.heap h'
zgG a:=by obtain⟨l,hl⟩:=(xf4 a)
X8:=by ext fS;show(ae,u,rfl,ru,rv.one)
zac:=live_mem jk.1 jk.2
zcN:=nps nm (Zn hnm)
XJ:=ts.map (fun t=>(Zs t.2))
VR:=["self", "askers", "asked_by", "gap"]
Vv a:=by ext ut b a qR;exact (I1.fpOk (Zj _) (I1.hok.fresh (Zj _)))
zaV:=.Tuple [a,b] k2 pt2
zee:=⟨0,0,0,0⟩
zcl:=(tF,xn<xf,xf<xn)
WV:=by ext tO;ext b9 o1 e1 c1 d1 st;ext zpY
Vr a:=xac (xgm rfl) rfl T.n_sum (PyProof.Rows.Boot.«sum») a
zfQ:=Itrs lo d n
zbM:=UT++((j,h,x)::US)
zcD a:=by ext Ar;show a;rw[hl];exact vT
V8:=by ext Ar;ext Vf;show(ae,u,hv,ru,rel.get hx)
Vz:=by ext rh i hi e;rw[ZS] at hi;injection e with e1 e2
zcg a:=(a:PE _ _ (tFld K _ _))
zfy:=by have el':=(s' _ _ el)
Vm:=["_law_width", "_law_point", "_law_side", "_law_row"]
zab a b:=(PQ,fun a' x'=>((P a' x')\/a),b)
zgF a:=by rw[a,Lu,e] at z;cases z
zdl:=by show(ae,od,J,hl,I.look)
zdW:=by show(ae,m,hn,hl,I.loc)
zcM:=hm b _ q (aA z)
zbp:=cells w xn yn b rn
zbo:=cells w xf yf b rf
zfx a:=fun b u b1 b2 e=>a
VJ:=items.toList.drop (sIx items.size 0 lo)
zgE a:=.cons rfl gf gf a
zaU:=(f+(7*(0+dD))) % 26
zpC a:=∀ k,((a<=k)->((k<xs.size)->(j<=SK)))
zbn a b:=(PP,xab (r:=a) b bz fw fH)
V7 a b c:=by have e3:((QH (j8 x.snd) (arrOf a))=b):=c;simp only[e3]
WU a:=by have m1:(p1∈a):=(mG e);have m2:(p2∈a):=(mG e)
zbm:=(xN F9 (zbh Ad CZ))
zcL:=fun k h1 h2=>aa
zeB a:=Hand room a so ho s
VW:=(gW,v,0,(v+jE).toNat,min v.toNat n)
WT a b:=[.str jt,.str ju,.ref qc,.int a,.int b]
VG:=by show(iF,σ',H',I,q,h);exact(bK σ' H' I.unwish q)
zsE:=(xv (unK t.1))=t.1
Vd a:=by have e1:((gW,cE es.size,0,none,es[((cE es.size).toNat)]?)=none):=a;rw[e1]
zeA a:=by obtain⟨j,hj,ej⟩:=(ZM a)
zaB a b:=by refine(bv,.dT [],a,Fq,aD b dps,?_)
VF:=by exact (Zg.mpr (dk (y,.free) (Ly,Jy (a7 y hy),aj)))
zdz a:=fun c v hc a=>(k c v ?_ a)
zaT:=ps.map (mvP nm x y)
WM a:=by show(zfP,by rw[ly,Za,Za,a],c,hc);ext HU hc
Xa:=fun tk=>(dY,xL,H,I.tok tk,q)
zbl a b:=(run.ahead nnd c' a b hz').1
zaS:=by rw[<- Jc,hes,Za]
Xl a b:=if (iS=(.inr a)) then (lq iS b) else kv
zdk a:=by refine (xfb (Pv:=Pv) a ?_ ?_)
X2:=[(Mm jt ju),(Mm ju jt)]
Vb:={ s3 with heap:=s3.heap.push (eg,"slice",.fields (#[vl,vu,.none])) }
VN a:=I.laid (t':=s.toks) (o:=a) (iU ob q Gb) bo ?_
zez:=by intro so2 ho2 cs2 r2
XZ:=by simp only[Zu,JP,or_false] at hb
VZ:=["picture", "name", "side", "row"]
Ve:=["_law_picture", "_law_points", "_law_seats", "_law_number"]
Vi:=["_law_points", "_law_seats", "_law_names", "_law_outs"]
Xv:=xjj (st:=s_b) l_b c_b k_b
zdy a b:=xho (v:=(.int a)) rfl b gf
Vk:=∀ nm∈names,(∀ q,((∃ kvs,((Bg dl)/\zfs))->(q≠da)))
zbk:=s _ _ (ne_f x e) x
zbL:=PIE X pins Z tg R
zfw a:=(ax P1 P2 P3 P4 a)
zlH:=by ext dw;show(ae,u,rfl,ru,xcl r1);show(cX,u=(Zs l),ru)
zaL a:=(mL,u7,a,u6,tSeq t6 u7,zjW)
WN:=kvs.map (fun kv=>(kV iS,kv.2))
zey a:=by show(jZ,hv',hv _ a,Zd)
zdj a:=(oS nm rfl hn true a)
VE:=by obtain⟨hp,gs,dr,tk,os⟩:=s;ext gX at_ eq g g
ztn:=A++(p1::(B++(p2::C)))
X7:=by refine (JN (xhl I hg hm ?_ hdb))
VM a:=by have e1:((gW,dD,0,none,es[((dD).toNat)]?)=(some en)):=a
zbD a:=by exact(bT (bv _ _ (cP gc) a h))
zeL:=(zdh y r)
V3:=by have e':(¬ (q.1=k)):=(aA,e (h1.trans z))
WZ:=Geo.cells pw p2.x p2.y b2 r2
Vw:=["pairs", "name", "other", "seats", "giver"]
zcK:=f Ls (.int j u)
Xh:=by exact (hN _ _ kq (aD hz y) (dk z hz))
U5:=by rw[(cU,putF f v UR,(kE,k,f,(k,v)::r,(k,x)::(putF f v r)),rfl)];by_cases hk:(k=f)
VQ a b:=by have hb:(Gn g a):=(beq_iff_eq.mpr h);simp only[Jv,hb,b]
Xk a c:=by show(ae,o,e,d,T.obj _ _ a b hb);exact (bg c)
X1 a b:=by rw [ZL];show(aJ,a,aj,fun x hx y hy e=>b)
Vh a:=∀(N:uM) (M:BV),((∀ y H',(bq,zf,(p i)=true,UU,N y H'))->a)
WS:=(cU,unK∘xv,id,funext xd1)
Vj a b:=by refine (.cons ?_ (ih a b));have e:=(tm t Zm);rw[<- (back t Zm)] at e;exact e
WJ:=s.heap.IsSliceOf sl vl vu .none
zdV a:=by obtain⟨z,its,n,r,e⟩:=a
zdi a:=⟨Mh,c,_,rfl,aa,a⟩
Xg a:=by have:=a;ext oW JG ZU this this
WR:=by simp only[Q7,List.all_nil,Z9,Qn] at e
zaK:=by rintro i ys H2 lt ⟨s,_⟩
zaa:=∀ s,(Bo->((rent s)=0))
Vp a:=∃ j e,(((t.slot a)=(.live j))/\((bQ L e)/\((Ga=nT)->zog)))
Vo:=∀ n acc,((cellsFrom n scope.names acc)=((x,n)::acc))
U6:=["_law_cell_here", "_law_most", "_law_wide", "_law_high", "_law_free"]
U2:=["_law_picture", "_law_points", "_law_seats", "_law_names", "_law_amount"]
Va:=["_law_points", "_law_seats", "_law_name", "_law_side", "_law_row"]
zdU b:=[(bu sc),cV,eQ,fb,b]
VT a:=fun _ _ _ _ _=>(xu (r:=(xk5 K)) xg8 (xaq qz) a)
Vg a:=∃ q qs s l,(hZ y eC (gZ q [Ml,.int l]) (qU qs s) (aF a (s,l)))
U1 a:=(bG,((((a).length)+(([]:List Keyword).length))+(EC,([]:List Keyword).isEmpty,0))<30)
WY:=.Tuple [.Name x px,KD] kt pt
zjK a:=Kp.Rch a (.go (setI own nm 0) rent eX [nm]) (EU own' rent')
XI:=below.go xs j fuel lo hi
zpW:=[D5,DH,Rc,(lq "rent" d_r)]
Xj:=xjh w30 h16 pok dr.ok dr.pm
Vy a b:=by refine (xo6 lk hcd S len a);ext ae t h q b;show(aJ,t,h.nox,q)
zhY a:=I2.write (t':=s2.toks) (x:=d) (e:=d) zo eZ (fun b u _ q=>q) ⟨ob,g2⟩ ⟨g2,a⟩
zie a:=I1.write (t':=s1.toks) (x:=d) (e:=d) zo eZ (fun b u _ q=>q) ⟨ob,g⟩ ⟨g,a⟩
U9:=∀ h:Heap,((pushCells h scope.names)=(h.push (eg,"cell",.cell none)))
Xu:=⟨nm,x,y, "both",1,iM⟩
UZ:=by refine (W9 hA ?_);show(br,YW (cP gc) isSubtype_stop (Zk (h _ (ud o ?_))));ext PK;show(aK,YF _ _ (Z2 nb),e)
Vc a:=⟨a,(bK,acc.toList,c,xhf e1 (bC j y u ey eu),by simpa using hS')⟩
VI a b:=by show(b9,o2,g2,c2,d2,id hit');show(o5,bT a,I1,ia lv,b)
UY b:=codeAny b callerA (.call (.ref fa) (i7 fO)) (nI r (hZ,r,.ok zce,OldK s₁.heap s'.heap,s'.os=s₁.os,PB)) s₁
zuc d:=∃(a:A0) (b:A1) (c:A2),(hV/\d)
zpB e:=∃(a:A0) (b:A1) (c:A2) (d:A3),(gV/\e)
zub:=by simpa using I.len
zvj:={ s with heap:=Nc }
zme a:=∀(pins:aW) (s:Shared) (Z:St) (H:Hp) (Q:VK),a
zua a:=∃(o:Obj) (its:gS) (n:Nat),a
ztZ:={ s1 with heap:=h' }
znx a:=∀(w:World) (mg:fA) (fa:Addr) (h:Heap),a
zrh:=by injection ey with e1 e2;subst e1 e2
zsD a:=∀(j:Nat) (x y:DV),(TZ->(Fc->a))
zqA a:=by unfold acr;cases b1<;>simp at a ⊢<;>omega
zqz:=∀ a∈T,((so a).isSome)
zrS a:=∀(j:Nat) (s:Seat),((bQ al s)->a)
zsC:=.ref s3.heap.objs.size
zvi:=s3.heap.objs.size+1
zpA:=PySem.F.args_dict_items_1 _
ztm:=(cE its.toArray.size)
zvh:=(cS sc.isCoroutine)
zvg:=(cS sc.isGenerator)
zoD:=(X.s₀.heap.get? b)=(some o)
zpc:=PySem.F.args_tuple_add_2 _ _
zpz:=PySem.F.args_dict_get_2 _ _
zpV:=PySem.F.args_dict_ne_2 _ _
zvf:=I1.hok.fresh (Zj _)
ztY:=(dS,X.A.units<cLine)
zoC:=PySem.F.args_dict_get_3 _ _ _
ztl:=oa.data=(.dict es ep)
zpy:=(H1 s1.heap.objs.size)=none
zpx:=(Gp x (fT "__classdict__"))
ztk:=by refine (gx ?_);refine (io ?_);intros
ztj:=by refine (gx ?_);refine (wq ?_);intros
zti:=by refine (gn ?_);refine (fo ?_);intros
zsB:=by refine (gn ?_);refine (sq2 ?_);intros
zth:=names.map (fun n=>KE)
zpb:=h.push (eg,"dict",.dict (#[]))
zsA:=Qc plain_remove_loop _
znd a b:=(swapsWithSole a b pos.line X.env)=(pure false)
ztX:=scope.kind=.function
zpU a:=(h'.get? s.heap.objs.size)=(some a)
zji:=(sG,(s.heap.get? b)=(some u),(h'.get? b)=(some u))
zmd:=I7.pin (b,o) (Z1 _ (Z1 _ (xcv hb e)))
ztg a:=X.s₀.heap.FunFrames X.base a
zve:=standAt apos.atName
zmy:=Q3 "BaseException.__getattribute__"
zpa:=Q3 "object.__getattribute__"
zvd:=xs.length=ys.length
zvc:=xs.length=ds.length
zjh:=∀ n∈tY,((X.env.scope.names.lookup n)=(some .cell))
zrR:=sl6.keep (Same.tups s6)
ztW:=(dI,I3.stkSub b z)
zsz:=ZJ I.ok.bsz I.ok.above
zvb:=(mq,e (h1.trans z))
zsy:=(zgC "list" us.toArray)
ztf:=Yz C s.heap.objs.size
zjJ a:=xac (xgw rfl) rfl T.n_sorted (PyProof.Rows.Boot.«sorted») a
zjI a:=xac (xgl rfl) rfl T.n_sorted (PyProof.Rows.Boot.«sorted») a
zrQ a:=∀(E:aT) (Q:aT),((Gm false s)->a)
ztV:=by subst h1;rw[bW];by_cases h2:(x=s)
zqy:=fun _ s'=>(Kn,Q σ' H')
zpT:=(df b ps ⟨#[],(mG e)⟩)
zte:=(K.lookup a)=(some o)
zqx:=∃ t,(u=(Value.bytes b t))
zqw:=∃ t,(u=(Value.float b t))
zrg:=fun e=>(nx (e▸(KJ hp')))
zrf:=fun e=>(ny (e▸(KJ hp')))
zsx:=by simp[valueAt,Qd,e']
ztU:=by simp[atKey,Qd,e']
zva:=b.hd j s (o6 hj ej)
zuZ:=by simp only [h,if_false]<;>omega
zls:=by ext zvl;unfold Builtin.«dict_keyiterator.__next__»
zkV:=by ext zvl;unfold Builtin.«dict_valueiterator.__next__»
zhM b c e:=by refine b;ext sU;show(BA,t1,t2,xip I1 d);ext gH t1 t2;rw[m.trees];refine (Jw rfl (YR (JF (thn c e))));subst ey
zuY:=keyKind' vs.toArray
zoB:=Nat.mod_lt _ (Nat.succ_pos _)
ztd a:=PI X AD (Ay "items" [] cpos) a
zre:=if_pos (h1.symm.trans e)
zrd:=s.heap.Ns X.env.locals m
ztT:=s::(hs.filterMap so)
znw a:=s.heap.push (eg,"tuple",.seq ((a).toArray))
zrP:=⟨H,i0,(aD,xi0 r,q)⟩
zmo c:=(Tj,Builtin.«dict.__ne__» (i7 [aB,cW]),c)
znv a b:=by show a;refine (Zc (ZZ ?_));unfold setAdd;refine (ZZ (Zc b))
zof:=r.drop (HT.sIx xs.length 0 lo)
zpS:=by rw[e1,e2];simpa using c
ztc:=by cases rr;ext iW r;ext jS t' r'
ztS:=by simp at h1 h2;subst h1;subst h2
znK a:=by show(bZ,und.length_le_of_subset (l₂:=eA) (uz a))
zuX:=.UnaryOp .Not a pos
zuW:=.Subscript o i pos'
zoe:=.hand so ho (upd1 asked s a) s
zqv:=(xbv val its.size).length
zkI:=(iE,qd,(H1 c)=(some u),(H4 c)=(some u))
zqu:=fun i H lt s=>⟨Lv,lt⟩
zqt:=meets_dict_values ig d hd
ztR:=isTrue e X.env whole
zod:=.lst (ps.map (fun p=>(.ref aN)))
zuV:=fun n h=>(xjv nc n h)
zoA:=by rw[mQ];exact (Zc (zeK,al.pairs _ _ _ TY))
zjA:=(pY,e,(h.get? b)=(some u),(h'.get? b)=(some u))
zrc:=by exact(bK,_,.ref (qs[i]),Iz,bF lt)
zlG:=∀ p∈ps,(Fb->((p.x≠x)/\(p.y≠y)))
ztQ a:=by refine (wpAny_notIn_of z6 a dd.mapOf ?_)
zkd:=fun _ _ _ _ _ st h=>(wpAny_pyIter_rangeiter st h)
zuU:=qq H3 (s1.trans s3)
zrO:=InstAt s.heap x ox C od
zmx:=qs.map (fun q=>(V.ref q,V.bl true))
znc:=Builtin.«list.sort» { pos:=fO }
zrb:=by dsimp only at b;omega
zra:=by rw[hj];simpa using ew
ztP a:=by rw[xco];unfold Kp.upd1;by_cases zc:(z=a)
ztO:=s.toks+(knd.draws k)
zoZ:=by intro hm;exact(cq,Zg.mpr (cP hm),xcd _)
zsw:=sysModules<h.objs.size
znu:=∃ sl,(PM { o with slots:=sl })
zid a:=∀(pins:aW) (s:Shared) (Z:St) (H:Hp) (x y:V) (v u:Value) (Q:VK),(bq aq ug hJ a)
ztb:=fun v _=>(v=(.bl true))
zsv:=by simp only[Z6];omega
znt:=∀ y∈sc.names,(y.2≠.free)
zsu:=F9↔((ho s)=(some n))
zqZ a:=∀(w:World) (h:Heap),((YP w h)->a)
zkw a:=∀(kV doc pm:Value) (an:js) (cdv ct:Value) (us:aQ),a
zuT:=by unfold clsIn at hc;split at hc
zuS:=∀ y∈ys,(y∈tY)
zqs:=∀ x∈es',((shp aZ)=sh)
zjr a:=∀(j:Nat) (h1:(j<its.toArray.size)) (h2:(j<its2.toArray.size)),a
zpw a:=∀(i:Nat) (x:V) (H2:Hp),(rK->(kD->a))
zlh:=by unfold xb9;revert this;cases (o.getD (gR+d) uJ)<;>simp
zta a:=∀(id:String) (E:aT) (Q:oz),a
zpR:=∀ h∈hs,((so h).isSome)
ztN:=(cans w ss tw).head?
zst a:=by let Pv (i:Nat) (Z:L2.St) (H6:Hp):Prop:=a
zss a:=by let Pv (j:Nat) (Z:L2.St) (H9:Hp):Prop:=a
zuR:=by unfold Kp.upd1 at e;split at e
zsr:=∃ pt∈ps,(pt.nm=nm)
zsq:=some (assign KD X.env)
zrN a c:=((s₁.heap.get? b)=(some o))->(a->c)
zqY:=(dc,Value->(Sem Unit))
zqr:=(cq,dd.mapOf,h _ _ i0 ?_)
zpQ:=(aD,enm,xlj ((wz).1) ((wz).2))
zsZ:=(t.fits es.size)=true
zpP:=by ext dw;rw[(aC,by unfold btw;omega)]
zqX:=pr6'.keep (Same.tups s7)
zoY:=(s₁.heap.get? a)=(some NA)
zrM:=(dZ s.heap.objs.size e)
zuQ:=es.getD k (0,.none)
zuP:=(dI,I.stkSub _ z)
zmN:=decide_eq_false (fun z=>(nomatch z))
zrL:=es.any (fun z=>(dEq z d))
zsY:=(jX "width" "height")
zqW:=(jX "askers" "asked_by")
zuO a:=(i9,Q,ta Z H (fun vs H1=>a))
ztM:=(eS (bJ r.length z))
zrK:=check_set_init_1 ty0 ?_
zqV:=es.map (fun x=>(Zs (f x)))
zpv:=Obj.data_mapDictKeys hdat _
zuN:=.Attribute o f pos'
zrJ:=xs.any (fun y=>(eqV y x))
zuM:=(lK,hb,kk b o qR e)
znJ a:=by rw[List.contains_cons,a,Bool.or_true]
ztL:=fun n s=>⟨dJ,dJ⟩
zrI:=ps.map (fun p=>(.ref aN))
zpu:=(kvs.length+L.length)<=1000
zoX:=xae (r:=(rIxT K)) xat bz xo fC
zoz:=by refine (Zk (eS,Qc F.xl_plain_dict_loop _))
zoy a:=by show(br,wpAny_eqIsQuiet_tuple a ?_);ext yx WE
zjV:=(bv,.int ys.length,H,i0,⟨UV,(cA Z6 hlen)⟩,q)
zmM a:=(yk,xs,vC/\(∀ p,(((H1 p)=none)->(Q eB a))))
znb:=⟨I3.sz,(I3.size_lt (Zj _)).2⟩
zoW:=xs[((dD+((cE m)*1)).toNat)]?
zoV a:=xbq (pv a) (xfv (rg,1,pv 9) xo xd7)
zsX:=Zx (fM,pt.x,0+(-1))
zrH:=Zx (fM,(pw+1)+1,pt.x)
ztK:=(F7 (aD,es,a5 n hn))
zsW:=by rw[(ay z1)] at hm;by_cases z2:yO
ztJ:=fun n c h=>(B.sub I h)
zsp:=(iX 4 xca.nd 5)
zmL:=decide_eq_false (fun q=>(nomatch q))
zso a:=(aS a (jX "askers" "asked_by"))
zuL a b:=(bm a (jX "askers" "asked_by") b)
zjq a:=by refine (Ya F.xl_entry_dict_loop ?_);rw[(JQ F.xl_plain_dict_loop _)];show a
zoc a:=R (FK ie) { s with heap:=(Hi,a,#[b7]) }
znI:=(gZ q (ua,uT aN,(b6 aN).2))
zob:=(rp,((A.units+1)+n)+m,cLine)
zpO:=(Bg p)/\(k=(! kvs.isEmpty))
zoU:=(zne "dict_valueiterator" Xf)
ztI a:=by obtain ⟨its,r',pl,hz⟩:63:=a;ext zeJ
zkU:=by show(oA,n0,nL,nC,nP,I2.size_lt (Zj s2.heap.objs.size))
zqq:=h1.Ns s.heap.objs.size m1
zsn a:=opI (fun _ _ _ _ _ _ _ hc q=>a)
zqU:=s3.toks+(([]:AV).length)
zna:=∀ s a,(pD->(zbh,lens a,own a))
zox:=l.find? (fun c=>(bG,c∈m))
zpt:=(q0=true)->(A.handled=none)
zqT a b:=(y8 q0 a (bb,s3 _ _ (s1 _ _ hq0)) b)
zow:=ps.find? (fun p=>(d9 p.nm n))
zsV:=(cF,H,p,xs.set j v)
zns:=holding [ov] (getMethod ov m pl)
znH:=∀ j,((j<n)->(qm,ky j,ad j))
zrG:=ss6.map (fun s=>(s,uO))
ztH:=.Slice lo hi none p2
zkH a:=(VL,(H1 d)=(some (.dT kvs)),∀ ob,(Aq->(R a Aw)))
ztG:=by show(NG,xs.length,⟨xs,q,bo⟩)
zsU:=if (i<0) then (-i) else i
zoT a:=by rw[ek] at pm;show(bw,back,∀ t∈ts,zsE,t,ht,a)
zlr:=∀ vs Z H Q,((t vs Z H Q)->(t vs Z H MK))
znr:=funext (fun k=>(by congr 1;omega))
zsT:=(jp l1 hl1 (au l hl))
zpN:=f aM y (by simpa using hy)
zuK:=(gZ q [.str gQ,bH])
zuJ:=by rw[Z8] at nd;have hx:=(sub x gE)
zpM:=by have I3:(b8 pX s2):=(zhY,I2.hok d _ e)
zmn a:=by ext Kq;rw[xgq,a,W7.injEq];unfold btw at hb;constructor
zmK:=∀ i Z H,((i<=xs.length)->(uh->re))
ziK:=∀ i Z H,((i<=kvs.length)->(uh->(aE,d,.frz ob (.dT kvs))))
zmZ b:=fun A R s=>((yg (NL,none,.seq zs n,#[]))/\b)
zps a:=by show(Oq,a,au s hs');show(ae,n,hn,e,Jl.mp hs')
zuI:=by show(zjP,⟨q,hlt⟩,kvs.length)
zhE:=by unfold Geo.lvL Geo.lvN Geo.wayI;ext yx if_true;rw[(cU,(pt.x+1).toNat,(fM,pt.x,0+(-1)),aa)]
zhA:=by unfold Geo.lvL Geo.lvN Geo.wayI;ext yx if_true;rw[(cU (fM,pw+2,pt.x) (fM,(pw+1)+1,pt.x) aa)]
zqS:=(acr w x1 b2)+(eV y1 r2)
zqR:=(acr w x2 b2)+(eV y2 r2)
zlF:=(dB y.length)/\(k=((cE y.length) != 0))
zmw:=(dB y.size)/\(k=((cE y.size) != 0))
zsS:=(eV yn rn)+(eV yf rf)
zsR:=(eV yn rf)+(eV yf rn)
zsQ:=(xbd w p1)+(xbd w p2)
zsP:=(xbd w Kf)+(xbd w Kg)
zlq:=T.keep _ _ _ st2 (fun b _ o g=>(k3 b o g))
zlp:=T.keep _ _ _ st3 (fun b _ o g=>(k4 b o g))
zjH:=∃ so2 ho2,((Kp.Mt v0 so2 ho2)/\(∀ z∈names,zfr))
zir:=∃ so2 ho2,((Kp.Mt (xax (xah w ps srt)) so2 ho2)/\(∀ z∈mI,zfr))
zjg a:=by have hz:vC:=(bJ,Y4 rel,z);show(cC,hl,(dB,(yP).length),(gg,xbm kvs k v),a)
zif a:=by have hz:(dB vs.length):=(bJ rel.length z);show(cC,hl,(dB,(yP).length),(gg,xbm kvs k v),a)
zrF:=min xs.length ys.length
zuH:=s.heap.IsList l its
zqQ:=z.sameBut hs (cne y c e)
ztF:=by rwa [(xj nl)] at hl
zrE:=by rw[q] at ej;exact (congrArg some ej)
zrD:=fun p hp _=>((no p hp).2)
zoa:=ts.Perm (es'.map (j8 (aZ,cK)))
zqP:=Zu.mp (pm.mem_iff.mp he)
zsm:=(fs.lookup f)=(some v)
zov:=ts0.map (fun t=>(t.1,t.2,JE))
zpL:=.ins C s.heap.objs.size []
znq:=ta Z H (fun x H1=>(zdv,R x y H2))
zkv:=by rw[I.ok.glob];exact (I.mod.glob.keeps I.bk)
zrC:=[(uq s.1),.int s.2]
zpK a:=(PySem.W.takerIn K C a)=(some none)
zoS:=(fL,ZI (aa:qs.length<13) ao)
zsl:=QH (jL,vs.getD i JE) p
zqp:=by rw [(aC c),(mq,n1 (c.trans z.symm))]
zmv:=by rw [(JZ yu)] at e;cases e;show(aJ,q,xbh (dF c),h)
ztE:=fun n s z=>(nomatch z)
zsk:=by show(br,wpAny_seqItems ho hd ?_)
zkc:=(BB gD "__setattr__" (Gd "object.__setattr__"))
zqo:=xdr σ' H3 (fun b H4=>zrV)
zuG:=by rw [(Ji.mpr c2),Yi] at z;exact z
znp a:=by refine (JB (fun k _=>?_));show ((a,r)=_);congr 1;omega
ziy:=∀ i,(eF->((g (kas_rev p 0 k) i)=(if (i<k) then (g p Me) else CY)))
zsj a:=by exact (q _ _ a (.inl (fc,Geo.meet_no no)))
zmJ a:=wpAny_loadName_cell I.ok.kind hk hc hcell a
ztD:=(kE,g,f,some u,mA g)
ztC:=vs=[aB,wO,jD,.int r]
zuF:=(aA,n3 _ Ch _ aj z)
zjc b:=P (.done (.ret .none)) { s with heap:=sortedHeap s.heap a vs b }
zrB:=xgy rfl rfl T.n_list sO
zmc:=by obtain⟨_,o,ho,_⟩:=(I.stack.mem hb);exact (Zv ho)
zkj:=∀ d,((od=(some d))->(∃ fs,(aE,d,XD d fs)))
zoR:=Kp.Rch sX zcB (.out (nm::hs))
zou:=Geo.meet (cel w p) (cel w p')
zno a c:=(bD a GG Hw (ax vq KA crowd.Nodup al.Nodup c))
zuE:=ih nd.1 c hc h hh
zmb:=T.keep _ _ _ st7 (fun b hb o e=>((VS).1))
ziJ:=by ext IR OT;generalize hs2:(OT:Shared)=s2 at I2;have g2:Xs:=(bJ hs2 uG)
zis:=∃ d ob u,(((H2 d)=(some (.frz ob u)))/\(Aq/\(Q v (upd H2 d u))))
zix a:=by have r:=(m.rm n s e);exact (Zy.mpr ⟨hr n s r,Jp.mpr ⟨n,a,decide_eq_true r⟩⟩)
zuD b c:=⟨fun g a s e=>b,fun a x p=>c⟩
zpr:=(es'.getD j ([],0,.none)).1
zmY:=I9.unpinned.weak l8.symm (o4 j v)
zqn:=(wG ki)=⟨gR,Ao,gR,AL⟩
zsi:=by have:(n<=i):=hg;omega
zqO:=by rw[hk];exact(cq I' q)
zgX:=by rw [ZU] at pw';rw[Z0,ZU];refine (pw'.imp_of_mem (fun {x y} hx hy hxy=>(xhz ?_)));show ((lexK (xv (unK aZ)) (xv (unK jf)))=true);show(cD,back x hx,back y hy,hxy)
znG b:=show (s.heap.IsTuple a its.toArray) from b
zoQ:=∀ b o u,((aE b Lr)->(za Lr))
ztB a:=by unfold frs;ext cD JI hf a
zqN:=[("holder_of",V.ref d2)]
znF:=((asked aZ).isNone)&&(xev f G3)
ziX a:=∀(pins:aW) (s:Shared) (Z:St) (H:Hp) (D:Ends),(aq->((t D Z H)->a))
zqm:=∃ xs,(re/\(xs.length<=i))
zkG a:=show (t.1∈(s2.map xv)) by rw[<- e2];exact (Zg.mpr a)
zjz a:=∃ p ys,(bc,xs,[eB],(SqL X.K H p ys)\/(SqT X.K H p ys),a)
zoP a b:=by obtain ⟨_,_,⟨a,_,dd⟩⟩:43:=b;exact dd.typeIs
zkT:=by unfold blk0 at z;rw[(J4 (ou ln)),ln] at z;simpa using z
zsO a b:=fun {s9 H9 xs'} I9 ⟨m',lt,a⟩=>b
zjy a:=∀ p∈ps,(∃ k:Nat,((k<a)/\(p.nm=(ltr ((f+(7*iu)) % 26)))))
zlg:=(prs.map (fun p=>((own cp)+(rent dG)))).sum
zjU:=xic (xs:=ds) (ys:=es) (e:=Eg) (LM,x,y,xig h1 h2)
ztA a:=by rename_i hm;exact ((hm _ (pr _ a)).elim)
zot:=by rename_i h1;rw[h1,<- (ZH.inj hx)];exact ra
zkS:=∀ p∈ws,((H2 aN)=(some (.tup [i6,hX])))
zpJ a:=∀ c:jT,((gT,valV kvs (ck c))↔a)
zlf a b c:=∀{ss:a}{ys:ag},((r6 ss.length)->(b->(∃ rs:az,((ys=IO)/\c))))
ztz:=∀ x∈L,(qU aZ cK)
zuC:=(N.take P.length)=P
zpI a:=(a<=xs.size)/\((∀ k,((k<a)->(SK<j)))/\(zpC a))
zmI:=by show(aJ,13+m,by unfold turns;omega,cA xjd e)
zsN a:=(bT,ifP (decide_eq_true hd) a)
zuB:=by rw[JL];exact (ZD (Z5 ll (JO _)))
zki a:=by show(br,wpAny_newList ?_ a);have fr:(bI h1.objs.size):=I1.fresh
zqM:=by rw[l];exact (rel.val k)
zlE:=by show(iW,K8 DL);show(jS,t',(Fa,∃ t',(v=(YT j t'))))
zty:=(k=.cell)\/(k=.free)
zrA:=ob.data=(.dict es2 ep2)
ztx:=ZJ (xhs xs lo hi) hz
ztw:=(IS "seating" eB zpW)
zuA a b:=ZI (by show(Ac,a,pic.len):b<13) ao
znE:=(x'.2-(own a'))-(rent x'.1)
zmH:=xbj (jL,xs.getD i []) ad xs.length
zql a:=by refine (wpAny_execs_cons (thn a (aL f s1 q)))
zqk a b c:=⟨let ⟨dx,e⟩:=g.ins; a,b,g.ho.keep c⟩
zrz:=(zp,n,W aM m' xs' H9)
zpq a:=xac (xkt rfl) rfl T.n_min boot_min a
zpH a:=(iU ps q ⟨#[],by rw[a,q];simp⟩)
zqj:=Kp.kstep (xax lens) so ho
zmu:=fun h' tk k=>(bv,_,H,I.kept k,?_,q)
ztv:=UQ++(c::(l.drop aM))
znn:=by simp[List.eraseIdx_eq_take_drop_succ,Q5,Q6]
zry:=call (.type "set") [bH]
zjO:=SetT knd h2 s.heap.objs.size (xbj ky ad its.size)
znm:=(eg,"list",.seq its'.toArray n')
zqL:=(H' do_)=(some (.dT []))
zmX:=(yg,seqObj "list" vs.toArray n)
zuz:=Mod X.K X.mg X.base
zuy:=storeName X.env x u
zrx:=letOwnedTupleGo tg mS u
zsh:=by rw [(Je (bF c)),(Je (bF c))];exact ih
zlW:=(cU,(some (k,x)).toList,[(k,x)],rfl)
zqK:=(yQ (V.ref aZ,V.int lQ))
zmm a:=by ext Aa p4 xl;let Pv (j:Nat) (Z:L2.St) (H5:Hp):Prop:=a
znZ:=(gW,r-pt.y,0,-(r-pt.y),r-pt.y)
zux:=.hand zfo zfp asked l
zqi a:=Fc->((bQ ss s)->(∃ q,((y=eC)/\a)))
zsM a b:=(Ea a ⟨(fU "dict"),none,b,#[]⟩)
zqh a b:=by ext Cl;show a;rw[<- Array.forIn_toList];refine b
zmW b:=PE X (.Call (.Name "len" p) [As] [] pos) b
zku a b c:=(kM,a,b,(H' l)=(some (.lst (rs.map V.ref))),xak H' c rs,bH)
zuw:=by ext Fv lo hi;ext aJ hs h1 h2
zlD:=(AN (eD dp kvs hk (Gk (gg pl.len) ?_)))
zsg:=bt _ _ (ne_f hp hk) hp
zml:=srt.map (fun s=>(eJ,V.int (rent s)))
zmk:=Builtin.Slice.sliceAdjust lo hi 1 jE
zoO:=(Mx,∃ p,((aF ps p)/\(y=E9)))
zos:=lenI ip pt.x pt.y s.1 s.2
znl:=fun a xs ea=>(bE,ne_f ea e,ea)
zmG b c:=by refine (PySem.W.methodCall_KW (pl:=pl) (thn b c) ht);ext sU
zrw:=callAny (.type "set") _
znk:=upd H1 ls (.lst (rs1.map V.ref))
zpp:=ts.map (fun t=>(V.ref t.2))
zqJ:=ws.map (fun p=>(V.ref aN))
zmF a b:=∀ i,((i<a)->(∀ s,((s<a)->(∃ m,((m<a)/\((lcg b m i)=s))))))
zlC:=(Gw (fZ 0 (HV "int" T.n_int boot_int)))
zkR:=(Gw (fZ 0 (HV "bool" T.n_bool boot_bool)))
zlB:=(Gw (fZ 0 (HV "str" T.n_str boot_str)))
zjb a b:=xcf X (oU a) (LH,∃ i j,((xs=[cO,.int j])/\(jW,if b then j else i)))
zrv:=fun f g=>⟨f,g,Y9 _⟩
znY:=(Um,(nr % 8)-4,(nr % 8)-4,0)
zqg:=fun b z=>(absurd z (noA b))
znX:=(gW,v,0,max (v+jE) 0,min v jE)
znW:=(y8 o 0 (bb,k2 _ _ no e3) r)
zmV:=⟨_,xs,yv,rfl,(sK hl len rfl)⟩
ziq:=by show(ae,y,hy,ey,Zg.mp (Jy e));obtain⟨m,j⟩:=y;dsimp only at ey;split at ey
ziI:=codeAny zgy ar (.builtin "set.update.loop" (i7 [b7,mS])) R s
zqf a:=(NM,XB/\Bd,v,a,XB/\(i=kvs.length))
znj a:=wpAny_loadName_local I.ok.kind hk hn hm a
zpo a:=by show(b9,a,e1,e2,e3,l.ld);show(ae,rs,g1,g2,l.ll)
ziv:=by show(gH,fun i m Z H=>(bc,m,xs.length-i,i<=xs.length,uh),Tk xs.length)
zim:=by show(gH,fun i m Z H=>(bc,m,kvs.length-i,i<=kvs.length,uh),Tk kvs.length)
zsf:=(ST,FndV H' v Db,Ab)
zuv a:=(RR ⟨a,k _ aj _ st.2⟩)
zpn:=cellsFrom fV scope.names []
zse:=by have kl:(((iC).length)<=12):=(ZJ qy aa)
zlV a b c:=by rw[bW] at q9 ⊢;ext uU a b;refine c;subst e11;exact (back I11 w10)
zsd:=by rw[mQ] at q9 ⊢;exact (back I9 q9)
ziH:=by rw[(show (es=ds) by injection ed with z;exact z.symm),xef];exact (Z3.same _)
znV:=by have z:=(a4 y hy);rw[hl] at z;simpa using z
zpm:=k4 _ _ (ne_f hls3 hko) hls3
zuu a:=(fJ,.inl (xpt ao ao),jj a)
zor a b c:=((a&&((zgO,b[i]?) == (ys.map some)))&&zoE)&&(bG c)
zut:=kp _ _ (dQ h1) OD e
zlU a:=Z3 A.in1 s (its.toArray[j]) (its2.toArray[j]) a
zru a:=by have nfs:(∀ b∈fp,(b∉Bn)):=(iU hb z a)
zhJ:=R (FK .none) { s with heap:=s.heap.update a (JT (fun t=>(t.eraseIdxIfInBounds j))) }
zqI a:=by rw[(seqIndex_of h0 a)] at h1;exact (ZH.inj h1)
zlT a:=by rw[(seqIndex_neg aa a)] at h1;rw[Z6,<- hl];exact (ZH.inj h1)
zjT:=by have z:=(congrArg Ys B.slots);simp only[Za] at z;simp[blk0,z]
zmU:=by ext jZ q Si QR;rw[<- q,<- l];exact (h _ i0)
zrt:=by ext zcA d q;exact (Yk ⟨H1,I1,q⟩)
zsc:=(zud (eD d1 H2 dp2 ?_))
znU a b:=(zud (iQ,d1,.inl ⟨k1,.inl hk1⟩,fJ a b))
zrs:=by show(X5,?_,.inr FM);by_cases e:(v=rn)
zjf a b c:=by show(zcI,PyProof.Rows.Boot.«list»);refine (Jo ?_ (d7 hs3) rfl);ext zdt a;ext OG b c
zkt a:=(zat,al,Zc (xh5 al.ta (Zc (YW al.tb (b:=true) zvk a))))
ziS:=l.Pairwise (fun a b=>(cS,J8 b.cps.toList a.cps.toList))
zmj:=no q hq (fun y=>(n1 (c.trans y.symm)))
zus:=putSet_of es' t' hd
zmT a b c e:=⟨(eg,a,.fields NC),b,fun E Q q=>c,?_,(uQ _ gc rfl),e⟩
znT:=by rw[<- (ask s),e] at z;cases z
zma:=valV (l.map (fun n=>(k n,f n))) (k a)
zqH:=by show(bP,nc,(jK,s2 _ _ (s1 _ _ e)))
ztu a b:=by show(gM,aC h1);have e:(a=j):=(ZH.inj h);exact b
zlS a:=(nI,fin,∃ v,((fin=(Fin.done (Flow.ret v)))/\a))
zmi:=(F7,I.ok.has n (.inl (B.free n hn)))
zhh a:=by rw[(decide_eq_false c)];ext yx W0;rw[sm];ext Sl;ext LN liv;ext LN ei;refine (Zc (wpAny_isSame_ref_self ?_));ext vI;ext Sl;exact a
zpl:=(HS,Sh,e,tAsg te (xcn i))
ziP a b:=by obtain⟨its,_,t1,_⟩:63:=a;obtain⟨its2,_,t2,_⟩:63:=b;exact ((xkh t1 t2).elim)
zlR:=fun b o e n hx=>(J.base.free b o e n hx)
zkb:=(mT hp1 T.n_a9 lkP (lN dp (wE oH hk1 (zrT 12))))
ziO a:=by ext yD a q1 hq1;show(G9,jw H1 q1 jD r,hq1);show(af,hk2,Sz hk,hp2,Sz hp)
zhL a:=by have da:(s1.heap.DictAt ig d vs ep):=a;refine (wpAny_pyIter_dict hd da ?_);have I3:(b8 pX s1):=(zie IN)
zka:=by have I3:(b8 H1 { s2 with heap:=h',toks:=tk }):=(I2.kept hk')
zjx:=(typeLookup (.type T) "__getitem__")=(pure (Gd id))
zkq:=(bO hp2 T.c_ac T.n_ba lkHo (eD d2 H3 dp3 ?_))
zsb:=by show(Fo,d,rfl,∃ d,(m=(ki+d)),m-ki)
znS:=by show(iF,σ7,H7,I7,n7,q7);exact (again I7 n7)
zlo a c:=a->(g v Ex H3 (fun σ' H3'=>(tc σ' H3' (fun b H4=>c))))
zsL a b:=by obtain⟨sl,hL⟩:=(u.any ho I.free a);exact b
ziu a:=by subst hj;ext bA hi e1 e1;show(bA,List.getElem?_set_self hiσ,e2,e2);ext aJ u r a
zln a:=by have kp:(∀ b o,(o9,b,C,(s'.heap.get? b)=(some o),zug)):=a
znR:=⟨z.1,ht _ _ (bg z),(b6 z)⟩
zpG:=by obtain⟨_,_,_,q⟩:82:=hs;exact (Yn q)
zkQ:=show (s.heap.IsTuple b its2.toArray) from t2
zlA:=∀ x:Str,(Ik->((mb x)=(bootBuiltins x)))
zpk b c d:=⟨(cA b a.sz),(au i hi),(bC i j hi hj c),d⟩
zjN:=by have:((X.env.scope.names.lookup x)=(some .free)):=hk;ext Bv k
zqG:=by cases b<;>simp[behindInMarks,e1,e2]
zjS a:=by rename_i q;injection ey with e1 e2;subst e1;have:(j=.free):=a;ext qF
ztt a:=∀ p,(((H2 p)=none)->(R eB a))
zje a:=∀{P:ai}{vs:aQ}{i:Nat}{m:fA},(bq P.Nodup (aF P x) (aF vs v) a)
zhG a:=∀(pins:aW) (s:Shared) (Z:St) (H:Hp) (x:V) (xs:ag) (v:Value) (us:aQ) (Q:VK),(bq aq ug ku a)
zkF:=∀ y∈scope.names,((y.2=.cell)->(jf=x))
zjM:=∀ y∈scope.names,((y.2=.local)->(Xt .local))
zle:=by rw[<- hi.numsOf,<- nums_intItems,<- e]
zrr:=by obtain⟨⟨old,he⟩,h1⟩:=(id st)
zmt a:={ heap:=a,gens:=g,drawn:=d,toks:=tk,os:=os }
zmh a:=xhe (v:=e.1) (by rw[T.at_,(Zb aa),<- ei,a];rfl)
zlQ a:=by rename_i met hm;cases (hm.symm.trans (pr _ a));simp only[]
zms:=by rintro (⟨_,rfl,rfl⟩:43);show(aO,FM,.inr EQ)
zlP a:=∃ p q,(bD,aF ps p,k=(.inr p.nm),x=eC,a)
zkh a:=∀ H' l qs,(kM,cG,GB,xap H' a qs,qs.length<100,bH)
zmS:=fun _ _ _ _ ⟨_,_,z⟩=>(zaQ hl2)
zjw a:=∃ A p1 B p2 C c,(bc,prs,ztn,(canO w ss p1 p2)=(some c),a)
zlz:=∀ n∈names,((n∉crowd)->(CZ<=1200))
zrq a:=let ⟨k,e,q⟩:=pic1.pl; (zeI a)
zsK:=kmv (mv.mono more) ks
zly a:=by show(ae,w',hw,rw',RelO.some_of (v:=v) (o:=(valueAt vs k)) a)
zqe:=congrArg List.sum (JB lG)
znQ a:=by show(ap,ti,s1.TypeIs b7 "dict",⟨ob,g,ex.1⟩,a)
zja:=by show(m8,hs3,I2.laid (t':=s2.toks) zgA bo ⟨fP,(bK [] 0 .nil gc)⟩)
zpF a b:=by exact (call_range_3 ao (xkm I1 a b q) (QC (Wo ao)))
zsa a:=(iy,v,∃ en,((aF es en)/\(v=a)))
ziZ a:=(us.length=ps.length)->((bindArgs a (i7 us))=(pure (ps.zip us)))
zoq:=(bK,so,ho,run.mt,xgv run nnd)
zop:=by have e:(b=s.heap.objs.size):=qR;rw[e];simp
zoN a c:=(dY,zsF,a,I1.laid (t':=s1.toks) zgA bo ?_,c)
zmE a:=(cU (fT ⟨#[(97+((a).toNat))]⟩) nm enm.symm)
zur:=(cu H4 k4 pic4 st4)
zmD:=by show(fD,k1,hk1,z.sg.so);show(fD,k2,hk2,z.sg.ho)
zlm a b:=xac xlr rfl T.n_abs boot_abs (xg (xu xdd a (pv b)) xi)
zpj:=by have z:=zas;show(cH,show VB from kk,z)
zjR:=(j9,H',H'=(cF,H10,s2.heap.objs.size,xs++[yv]))
zrZ:=(jL,xs.getD i (ZE ""))
zoM:=live.map (fun jk=>(jk.1,NR))
ziN a b:=xu xa0 a (Sx,(oZ,xk8 xiy xo),xb2 xkl rfl T.n_int boot_int (xg b xi))
zoo:=.ask Bx (upd1 asked s a) i eE
ziY:=(b8 H' { s with heap:=h',gens:=g',drawn:=d',toks:=t' })
zts:=by intro z;exact (absurd z (g.no n))
zrY a b:=by rw[(dS,a=(b+1)),Wv,Int.mul_one,Int.add_assoc]
zkE:=by rw[e] at il;have sz:(zs.size=ns.length):=(by rw[en,Za,Jc])
zuq:=by subst c;rw[(aC FL),bW,(ay nb)]
zlx:=⟨kvs,.inl (s07 _ _ hd),lp.same s07⟩
zup a:=by rw[Zd] at e2';show(ae,j,hj,ej,Zh.mp a)
zqF a b:=(qL,IsRangeIter h it a (jE-(i:Nat)) b)
zkP a:=by ext tO;ext b9 o e c d a;show(aJ,o,e,(j9,z,by ext cH d z))
zpi:=PassesOwn aH X.A X.env X.xe
zmC:=fun h' eb=>(q h' s'.toks (lK hb ?_))
zil:=by have e1:(its.toArray.size=ds.length):=iD;have e2:(its2.toArray.size=es.length):=iD
zpE:=gok _ _ _ _ (step y H7 y7)
zhw:=by obtain⟨h1,h3⟩:=h1;obtain⟨h2,h4⟩:=h2;show(af,h1,of_decide_eq_false h1,h2,of_decide_eq_false h2)
zrp a:=by have ix:(dX,zs,(dW i).toNat,zs[i]):=a
zuo:=k j (xs[j]) e iw h2
zro:=[wP,zM,rX,(aX g),v4,v5]
zmR:=[(bu p),(bu d3),Ci,some v3,v4,v5]
zoL:=(Mx,∃ c,((aF cs c)/\(y=wN)))
zon:=by ext b9 kvs e l r s;exact(ba kvs e aa r)
zhD:=by rw[(decide_eq_true c)];simp only[Bool.and_self,if_true];exact (Zk (yes ⟨_,Zn le,b,rfl,c▸h3⟩))
ztr:=fun H s=>⟨Lv,bo⟩
zmB a:=by rw[(QB (Z2 hj))] at e2;ext ae u' r' q a;ext gH u' r'
zun:=by simp only at cl dl;subst cl dl
zjp:=(((dW yj) == 0)&&(w6 == 1))&&((Av-yj) == items.size)
ziw a:=∀ c u,((c≠d_o)->(bj,c≠d_r,c≠da,c≠la,(H7 c)=(some u),a))
zoK:=Geo.cells pw p1.x p1.y b1 r1
zrX a:=opI (fun i j _ _ _ _ _ hc q=>a)
ziW a:=by rw[(dS,(acc.length+(r.length+1))=((acc.length+1)+r.length)),a];constructor
zjm a:=by refine (ba its.toList r a ?_);have e:=r.length;simp only[Jc] at e;omega
zkg:=["self", "name", "askers", "asked_by", "seat"]
znP:=(lY,t.C_a,picF pw ph dp do_)
znD:=Geo.cells w ((aN).x) ((aN).y) i6 hX
zkp:=by show(iH,o',J.base.there b o e hx);show(aO,o',kp b o' K4 q)
zqd:=Kp.Rch sX Ol (EU so1 ho1)
znO:=(y8 o 1 (bb,k2 _ _ no e3) r)
zhT:=∀ i,(eF->((g HM i)=(kE,i,m,g p k,if ((m<i)/\(i<=k)) then (g p (i-1)) else CY)))
zhv a c:=by have old:(oX,jN,b≠C):=(iU,o,g,ZD (Z5 (Zv g) hC));show(cC,trk,(sG,(H' b)=(some u),b≠C),fun b u hb z=>a,c)
zrn:=(Rn (bv v _ I3 rw' q2))
zjG a c:=(Uk,∃ i xs H',(Uo,Inv a [] c H' s9,s9.heap,W i m xs H'))
zhI a:=by refine (JY ?_);rw[sz,a] at so;have I2:(b8 H1 { s1 with heap:=h2,toks:=tk }):=(zfO (sF,kp b o (Zv e) e))
zhz a b c d:=(ys=(L.map (fun x=>(V.ref aZ))))/\(bc,L.length,i,(L.map (j8 a))=b,∀ x∈L,(ax,cK≠l2,aZ≠l2,zbC,c,d))
zqE:=(bO sok9 aa E6 hl9 sts9)
zlw:=(bc y eC (gZ q [.str cp,uF]) (qU t dG))
zko:=by show(iO,⟨o,e,ex.1⟩,a,e2);cases e2;show(aJ,o,e,bg ex)
zjF a c:=(nI,n,∃ i xs H',(Uo,Inv a [] c H' s',s'.heap,W i n xs H'))
zrm:=(gO,y,hy,f i y i hy ?_)
zlZ a:=by show(dL,z,hz,rfl,key hx);refine(Dw 0 oP .str a (vy y))
zsJ:=by ext zdu e0;ext af hp1 mP hk1 zL
zll:=∀ z,((z∈zs)->(EqAt A.in1 s z y (f z)))
znC:=by show(zjP,(bK,xs,xs[i],q,bF hlt),xs.length)
ziV a:=sp (m5::Cg) (upd a x (lY C [])) (j9,H2,(v=.non)/\(Q m5 H2)) (E Z)
zhx a b c:=by show(b9,kv,h1,h2,h3,xga a (i:=i) (e:=b) (bF hi));obtain⟨q1,q2⟩:=(xka c (Zb (dS Bd)) h1);exact(ba _ (aD q1 h2) h3 q2)
zoJ a:=by ext iF v o ho hd a;exact(bK,v,o,k1 c o ho,hd)
zgZ:=by show(XX,st.typeIs,Yo);refine (Jz Yo st.typeIs F.entry_dict_keyiterator_next ?_ (F.args_dict_keyiterator_next_1 _));have ti:=st.typeIs;ext vo dr
zgY:=by show(XX,st.typeIs,Yg);refine (Jz Yg st.typeIs F.entry_dict_valueiterator_next ?_ (F.args_dict_valueiterator_next_1 _));have ti:=st.typeIs;ext vo dr
zmQ:=by rw[YY];intro z hz;show(zi,i,rfl,Zg.mp hz);rfl
zqc:=fun a u na ea=>(bE na ea)
zph a:=by refine (iQ _ rfl (au c' hc'));rw[ZT,a] at hc'
zmP a b:=by obtain ⟨kz,hkz,_⟩:62:=a;rw[<- b,hl] at hkz;cases hkz
zni:=by simp only[Z9,beq_iff_eq] at q;exact q.1.1
zld:=by simp only[Z9,beq_iff_eq,YY,decide_eq_true_eq] at chk
zkn a:=∀(N:uM),((∀ y H',(zf->(a->(N y H'))))->(g x Ex H2 zdR))
zjv a:=by unfold Kp.upd1;show(aK,if_neg (fun y=>(ns (by rw[<- y];exact (Zn a)))),e3)
zjE a c:=by have e':(q.1=k):=(h1.symm.trans e);have b:(a=(some q.2)):=c;ext cD CW b h2
zju a b:=(ax,a,b,o.data=(.seq its n),dB its.size,Vals xs its.toList)
zum:=(bC v s2 pv st2 mv)
zsI:=by show(af,s57,Kh,s07,s05.trans s57)
zul a:=q _ bt (Pic.but hk bt pic) a
zkD a b:=a/\(zq,Dk l,Eh,∀ p∈prs,Py,zdS,cG->(Q (.int b) H'))
zkm:=["self", "name", "x", "y", "others", "other"]
zom a:=by obtain⟨_,na,⟨va,ra,da⟩⟩:43:=(xct I.hok a)
zhS:=by show(af,a1,F.sub_list_set,a2,F.sub_list_frozenset);show(qe,a3,Wj "list",Wj "dict",ao)
zlc:=by show(cX,i=n,aa);show(U4,wk.done s _ _ st (au s2 mv))
zmr:=(fr.map (jL,X.N[i]?))=(ys.map some)
znN a:=fun rest r s'=>(bc,r.1,none,s'=s,a)
zkf:=by ext rh d hd e;ext eG z hz hd;rw[xqg] at e;ext m8 zbe hz
zhr a b:=by ext zlH;show(j7,rv,pl,hz,I1.list hq);show(jZ,hlen,rv.length,Za);have sz:(its.toArray.size=a):=(cA Z6 hlen);refine b
ziD a:=assignInOrder [fun v=>(bindName X.env y v),fun v=>(bindName X.env x v)] a
zic b c:=wpAny_Dict_empty (CJ,I.laid (a:=s.heap.objs.size) (o:=b) (t':=s.toks) zet bo c,h _ vp)
zmg:=l.map (ziQ m (Mz,env.kindOf m))
zjo a:=b.congr (fun a' x'=>⟨.inl,(fR,h.elim id (aA,nomatch a))⟩)
zho c:=by have both:((ZP A s aB cW (dEqs ds es))/\(ZA A s aB cW (!(dEqs ds es)))):=c;simp only[dEq];show(dE,?_,both);by_cases q:(a=b)
zlY:=by obtain⟨_,_,⟨_,_,o,_,_,e,_⟩⟩:43:=x;ext xG
zpD:=by have B:=(xkc lens own rent asked crowd)
zol:=fun H1 q1 s1 hq1=>(fW q1 hq1)
zjl a:=by refine (bT,ifP t1 ⟨1,2,xb5 mY,KC,xfr gz3,(cI,sl3.dv hls3,ao,ao,a)⟩)
zhW a:=by refine a;obtain⟨fs,hw⟩:=(hd d e);obtain⟨_,_,⟨o,_,_,go,_⟩,_⟩:=(xtl I hw);ext aO o go
ziC:=∀ b ps,((aE,b,.tbl ps)->(∃ more,(za,.tbl (ps++more))))
zlO:=by have:(x≠n):=(by rintro rfl;exact (h v Zm));simp[this]
zlN:=∀ name,((Wx name od)=(some (mA name)))
zok:=by obtain⟨mA,O,r,_,_,_⟩:65:=(xhd I.hok e)
zit a:=((IA a acc)=(acc.length+xs.length))↔((∀ x∈xs,(x∉acc))/\xs.Nodup)
zqb:=by unfold mroIn;rw[h1,Wd,(ay (vW b)),a]
zoI:=by obtain⟨ocls,odict,odata,oslots⟩:=ol
zpg:=by simp only[Zu,JP,or_false,not_or] at hb
ziG a b:=∀{s9:Shared}{H9:Hp}{xs':ag},((Inv a ([]++(xf3 fp s7.heap)) σ8 H9 s9)->b)
zjk:=fun _ _ _ _ _ ⟨ok,ov,st⟩ h=>(PySem.W.kcp_self st h)
zjL:=∀(j:Nat) (x:V) (d:DV),(TZ->((bQ ds d)->(xK x d)))
zio:=by rw[Zd,Zh] at h1 h2;ext lU z hz h1;ext lU z' hz' h2;show(uP,hz,hz',.str)
zkO:=∀(i:Nat) (a:α),((aF as a)->((p i)=(q a)))
zgS a:=by unfold Builtin.«set.__init__» noKeywords Builtin.Frozenset.updateFrom;generalize ePI:pyIter=PI;wp_walk;subst ePI;refine (QP l1 (Zc (wpAny_runValue ?_)));have ll:(nY l):=(Zv gl);have h3:(ar.in1.in1.in1.handled=none):=(bF hd);have n1:(l≠zfq):=a
zhy:=∀(l:Addr) (ss':ai),(bq,iP,ss'.Perm ss,SS ss',Q bH (dZ,l,.lst (ss'.map V.str)))
zoj:=[wP,(ii pt.nm),zM,rX,(bu qs)]
zsH:=by rintro Z _ (⟨v5,rfl,rfl⟩:62)
zkN:=by unfold xb1 at z;refine(KL,q3,.inr (SqT.of g3),rfl,yy)
zjD a b:=by revert sB elB;generalize a=HB;intro sB elB;refine(KL,ly,lC elB,xf5 _,b)
zjC a b:=by revert sA elA;generalize a=HA;intro sA elA;refine(KL,lx,lC elA,xf5 _,b)
zij a b c:=∃(i:Nat) (crowd:ai) (al:av) (asked:aG) (v6 v7:bS),(hZ,a+i,13,i<=crowd.length,b,c)
zmA a b c:=by rintro i Z a _ (⟨_,_,_,_,⟨_,_,rfl,b,_⟩⟩:121);ext xB c
znh a b c:=by rintro i Z a _ (⟨_,_,_,_,⟨_,rfl,b,_⟩⟩:121);ext xB c
zii a:=∀ H' qs,(kM,VH qS,(H' qs)=(some (.tup (xa5 s))),a,AkD H' da oF Hy,Ml)
zhn a b c:=∀ H' own' rent' so' ho' asked s,(a->(kM b (zjK,xel jo ho) (ym,Kp.kstep (xax (xah w ps srt)) so ho,EU so ho) c .non))
zhR a:=∃(crowd:ai) (al:av) (asked:aG) (o1:bR) (r1:bL) (g:Int) (b:Str) (s:Seat) (qs:Addr),a
zkC b c d:=by show(af,c1,b,c2,Kp.hall mt2 c cr.nd (fun a ha=>d));rw[c1,ZG] at c2;omega
zig:=by show(af,ln,rel.length,le,hp.length);have esz:(es.size=vs.length):=(by simpa using le)
zpf a:=by have ln:(((Ql a (none:bS)).length)=a):=YM;by_cases lt:(i<a)
zkl a b:=by have etr:((trP pw ss oO)=(jt,ju,c)):=a;unfold stP;show(aK,etr,sB _ _ b)
zuk:=(ax P0 P1 P2 P3 P4)
zrl:=(ax,gJ,jJ,nJ,ve,P4 a)
zuj:=(ax gy jC mZ uH F8)
zui:=(ax hV jx mJ uf Fp)
zuh:=(ax gV jq mE tS ER)
zpe:=(ax,jJ,nJ,ve,P4 a,P5 a)
zqa:=(ax,jC,mZ,uH,F8,P5 a b)
zpd:=(ax,jx,mJ,uf,Fp,P5 a b c)
zoi:=(ax,jq,mE,tS,ER,P5 a b c d)
zjQ a:=(ax,Dv K H m bH (.lst es),n<=9,m<=9,xeq es d j,a)
zoh:=h x _ hx (m9 xl) (xtj hx hdx)
zqD a b:=xd5 xi8 (pv a) (xep (xu xa0 b xo)) xeo
zmq:=by show(af,li0,JD.init.lookup,bi0,JD.init.bind ie)
zlM:=by ext bA ho ho' ho';exact⟨102,_,es',ep',hL,r'⟩
zlk:=(bD,(-lS)<=i,i<lS,(-lS)<=j,j<lS)
zhm:=by have hi:(IntsAre its ns):=(xie vi);have il:(s.heap.IsList p its.toArray):=(ba o g c ⟨n,d⟩);show(jU,zs,hi.allInts.items)
zjZ a:=by ext gX x1 x2 x3 a;simp only at x1 x2 x3 hdat;subst x1 x2 x3 hdat
zhu a:=by ext gL;ext zfN ha;show(bw,get,∀ z∈xs,(∃(j:Nat) (e:DV),((bQ xs z)/\((bQ es e)/\(Dv X.K H m z e)))),z,hz,a)
zlj:=(bc,ox.cls,gD,ox.dict=od,Ul ox.data)
zjt a:=by ext nK eval_ListComp a;show(aJ,m,hm,fun h2 sb=>(dY,bH,H',iv h2 sb,q))
zhV:=by have nw:(d∉wr):=(aA,nd (wk.sub _ z));show(bw,more,∀ b∈wr,(b∈(d::wr)),b,z,Zi _ z)
zjs:=by rw [(Qp yu)] at e;show(ae,q',h1,h2,ih e);show(aJ,q',aD zqB h1,h2)
ziM a:=by show(o5,(bT,wpAny_letOwnedTupleGo_items hout (aL h'' hit' hsb)),kk,zcH zto,a)
zmp a:=by have s2:=(su_e a eu);show(af,g2,ug_e eu,s02,s1.trans s2)
zkB a:=by rw[(aC z)] at hm;have ht:(vN\/yO):=a;unfold acr;ext yx if_true
zjY a:=te σ' H4 (fun y H5=>(((H5 l)=(some (.lst xs)))/\(Il/\a)))
zkM:=fun a ea=>(aD,xj (fun z=>(qW e ea)),ea)
zli:=names.map (ziQ n (Mz,env.kindOf n))
zmz:=[F6,eQ,(bu o1),(bu o2),(bu dd),v5]
zhg a b:=by ext Mn hd z' hz';rw[a];refine (decide_eq_false sy);subst c;ext y9 h1 h2 hz';obtain⟨h3,h4⟩:=Mg;exact (absurd (h2.trans h4.symm) b)
zng:=by exact(bv so0 ho0 a1 a2 (uz,ZF _ (a3 z hz)))
zoH:=fun u hu'=>(hall u (Zi _ hu'))
zlL:=by have f:((H' C)=none):=J.free;rw[z,f] at hb;cases hb
zjB a:=⟨fun i _=>eF,fun i H x H'=>((H'=H)/\(x=a)),fun i _=>(n<=i)⟩
znB a:=(Kj hp1 (uQ a pw (bC p3 H3 hp3 sd3 s3)))
zhl a b c:=by have ev:(bQ Z ff):=a;have eN:(bQ X.N y):=b;have my:(y∈ys):=(Zn e1');show(zi,m,lk,I.loc);ext ae u r l c;show(cR,u,r,.inr (eS,B.ysc y my))
zlK a:=by rw[a];exact (xc6 (hG l aa lo (fun j hj hj2=>(hi j aa hj2))))
zjd:=["self", "askers", "asked_by", "gap", "asker", "seat"]
zjX:=by ext GQ;ext Mn hx o2 ho2;show(ae,P2,hP2,eP2,pr2.get ho2)
zlJ:=by rintro (⟨h1,h2,h3⟩:43);show(dE,aL y hy z,h3)
ziA:=(OX (xbc rfl (xt (pO 0 nd ow) (zrU 1 2)):PG _ _ (gTup K 3 _)))
zlb:=(v=r)/\(tF,qI u x,(x<=u)/\(u<=(w+1)))
zla:=by ext Mn hv o ho;show(b9,p,m1,m2,m3,loop o (Zn ho))
zks:=by rw[Ye];intro d hd z;exact (no d hd (of_decide_eq_true z))
zlv:=A++((p1.1,p2.2)::(B++((p2.1,p1.2)::C)))
ziU:=["picture", "names", "crowd", "prices", "name", "pairs"]
zlX a:=(cq,xl,Pl.snoc (p:=(Ke lo a)) (pl.keep Mj) ?_)
zhX a b:=by show(uU,a,tT r s6 u hr h6);subst hr;ext uU h6 b;have I7':=(I7.pinned (stat fr7) (T.obj _ _ st7))
zhQ a b c:=by have e':(aF its v):=yw;have lt:(i<a):=b;show(ae,v',hv',rv',rv.get (i:=i) (x:=c) (xR iw));ext bA e' hv' hv'
ziT:=⟨(gu oc od kV doc (gu pm an cdv ct (iQ osl l c))),k⟩
zkL:=by have e':=wy;show(cD,xj (ne_f e' zL),xj (xk e' hq1),e')
zkK:=by rw[Zd,Zh] at ey;obtain⟨⟨k',y'⟩,ey,rfl⟩:62:=ey
znA a b:=by show(zdQ,boot_range,Jo (thn a b) (cA hs hs2) (d7 hs2))
zhj:=by ext bA e e' e';rw[d] at d';injection d' with d1 _;have:(its=its'):=(yR,congrArg Array.toList d1);ext qF;exact (r.inj r')
zhP a:=by ext U7;ext vI;show a;show(br,kdu_collect (xjf hsys hx hdat) gU ho zri (bC h1 tk acc keep items))
zlu:=⟨YD hu,(bv,k,xs,Bc,dd,h _ _ i0 ?_)⟩
znz a:=callWith pos f first (zcf pos a) (Nz pos)
zhp b c d e:=(bc,v3,.non,b=0,∃ so' ho',(bD c OC (Hq d) (ym sX Ol)))\/(∃(qs:Addr) (s:Seat) (a:Str) (so1:bp) (ho1:aG) (n1:Nat),e)
zke a:=⟨fP,beq_eq_false_iff_ne.mpr (Z2 (ZD hb)),[],.nil,a⟩
zny:=fun y H' s' f=>(h1 y H' s' rfl f)
znM:=fun _ _=>(oS 64 [] rfl rfl jP)
zhs b c e:=∃ H',(ax,DPut H d b c H',e,∀ a u,(o9,a,d,aE a u,(H' a)=(some u)),lH,∀ a,((bI a)->((H' a)=none)))
zkA a:=∀ v u s2 x y H2,(bj,b8 H2 s2,ug,hJ,R x y H2,a)
zhq a:=∀(X:Cx),(bj,X.prog=P,X.w=w,X.K=K,fX,∀(i:Nat) (pins:aW) (s:Shared) (Z:St) (H:Hp) (E:aT),a)
zkJ:=∃ xs,(Ew/\(h.DictOfH (tupleKind oG) a xs))
zlI:=by obtain⟨v,o,ho,_⟩:82:=(I.cell n c e);exact (Zv ho)
zoG:=by obtain⟨u,rfl,⟨t,rfl⟩⟩:62:=(xcl r)
zkz a:=∀{binds:AV}{m:fA},((∀ v,((x,v)∉binds))->(a=(m x)))
zih:=by simp only[sliceBounds,HT.sIx,Option.getD_none,(Ez,w6>0),if_true];by_cases h:(i<0)
ziF:=by obtain⟨_,_,⟨_,_,o,_,_,e,ex,_⟩⟩:43:=(I.hok p _ hk);ext aJ o e ex
zlt:=by rw [(yS,show ((s0.1,s0.2)∈ss) from min),JK] at c
zky:=by unfold blk0 at e;rw[(ZV (aD YM lj)),Ym] at e;ext LK e
zha a:=∀ C l H' s' m,((bD,yh C,C≠X.env.locals,yB C,Ip C)->(bj,(H' C)=none,s'.heap.Ns C m,∀ h2,(zde->(b8 H' Hh)),Q bH H',a))
znL:=(Walks.list h3 _ l n1 its).toS
zmf:=by rintro ⟨h1,h2⟩;show(cR,zn,(aA,h1 x z FL),h2)
ziL:=∀ e∈L,(∃ k' b,(bc,Ga,zfM k',(b6 e)=cW,qm k' b))
ziz:=by rintro ⟨r1,r2⟩ s' ⟨hr,rfl,_⟩;simp only at hr;subst hr;exact (Zk h)
zhC:=by unfold Builtin.Dict.samePairs;show(br,xfg na (Zc (xfg nb (Zc (ZO ga da (Zc (ZO gb db ?_)))))))
zoF:=xae (r:=(rIxT K)) xat h7 xo fC
zqC:=by rintro Z _ (⟨v7,rfl,rfl,no⟩:63)
zhb a:=by show(ae,x,hx,rx,xfz r1 h1);show(ae,y,hy,ry,xfz r2 h2);have j1:(j<ds.length):=(B2 h1);have j2:(j<es.length):=(B2 h2);show(aK,xig (Zb j1) (Zb j2),(a).1)
zkx a:=(ax,aF names pt.nm,pt∈ps,a,y=eC,(HQ (pt,s)))
zkZ:=by show(ae,w,ew,rw',r.get h2);show(af,hl,r.length,hn,xe2)
zkY:=by show(bN,(bT,Zk (h _ ?_ zdf)),(wQ,JJ _ hit rfl,?_));rfl
zjn:=(gZ t [.str ((aN).1),.str (bg aN),eC,.int i6,.int hX])
zia a:=by show(dL,z,m1,m2,xjm r w DG);obtain⟨j,e,_,_,he⟩:83:=(get z m1);show(cD,xha m2,xez I he,(a).1)
zhk:=by obtain⟨j,hj⟩:=(List.getElem?_of_mem hz);have lt:(j<es.length):=(bJ hl (ir hj));exact(bv,j,es[j],hj,iw,k j z _ hj iw)
zhU:=by show(iF,σ3,H3,I3,n3,q3);show(ae,m',hm,w3,hN σ3 H3 n3);show(aJ,m',hm,bK σ3 H3 I3 w3)
zhd a c d:=(ax,a,c,Kp.Rch (xel tq ho) (.go O8 rent eX [pt.nm]) (.go o1 r1 asked crowd),(Lx,near tq o1 r1 asked crowd,b),d=(20-crowd.length))
ziE a:=codeAny aH X.A (.compStart zJ 0 it acc { cenv with scope:=jg }) a s4
zik a:=by have e2':(aF a ff):=e2;unfold blk0 at e2';rw[(ZV (aD ln lt)),Ym] at e2';ext LK e2'
zhO c d e:=(ax,Kp.Hand room (aA qY) so1 ho1 s,(je,(rk b)<=(rk a),(so1 b)=(so b)),c,(n1+(rk a))<=d,e)
znf:=by have q:=(I.base.frzs d o' u' z);ext cH e q
zgW:=by have hT:(s.TypeIs mS "dict_itemiterator"):=(cP st);ext XX hT Yj;refine (Jz Yj hT F.entry_dict_itemiterator_next ?_ (F.args_dict_itemiterator_next_1 _));ext vo dr
zkX:=(Km ⟨.inr sd,rfl,false,(d7 hsd'),ux⟩)
zin:=(gO,Z,H3,∃ v5:bS,((Z=[cV,(ii nm),(aX x),(aX y),lP,v5])/\(H2=H3)))
zjj a b:=by have W:=(Walks.range (prog:=X.prog) (w:=X.w) gU it lo a n);refine b;ext iW hv
zhN:=by have jl:=((Mg).1);rw[Zr,Jg] at jl;show(Fv,j,al.length);rw[(J4 (Zj _)),Nat.sub_self] at e;cases e
zhK:=by ext LN ei;show(ME,wpAny_eqBool_tuple hu h3 hk ?_);show(br,YN ho hd hf ?_);by_cases c:(k'=k)
zhZ:=by have z:=(congrArg (fun l=>(l[k]?)) B.slots);simp only[Zd,hj,e1',Yb] at z;exact (ZH.inj z)
zgV a b:=by ext Mn hx o ho;show(ae,P1,hP1,eP1,pr.get ho);have a:=(ok P1 (Zn hP1));show(ap,sp,Same H2 zau,c7 hp,fW p xl);refine (fo ?_);intros;show(cR,dD+1,rfl,(zK b (bb,sp _ _ (s2 _ _ hl)) p4 hp4))
zhF a b:=forIn ifs true (fun c r=>(if (r=true) then do let ok <- (isTrue c a b); (pure (Qf ok)) else (pure (Qf r))))
zhB:=(ax,vx aN dG,bI aN,aN≠X.env.locals,aN∉X.fs,∀ v,(((dG).data)≠(.cell v)))
zhH:=by have c':(¬ ((ZW p.nm:Key)=(ZW nm))):=(aA,c (ZW.inj z));rw[(Jd yu),(Jd (by simpa using c'))];ext Ck
zht a:=by have I1:(ia { s with heap:=h'' }):=a;ext Vx;have itlt:(nY it):=(Zv st);have pne:(s.heap.objs.size≠it):=(Qj itlt)
ziR a b:=by show(b9,kl,hkl,ll,fl,z.ln);refine a;show(b9,q,q1,q2,q3,fl nm h);exact(ba q q1 b q3)
zib a:=a>>=(fun l=>((holding [l] (call (.builtin "list.sort") [l] []))>>=(fun _=>(ret l))))
zhi a c:=by obtain⟨_,hd,⟨a,_,dd⟩⟩:43:=c;show(cR,dd.typeIs,au b q,hd);cases q;obtain⟨ob,_,_,h1,h2,_⟩:103:=dd;show(aJ,ob,h1,bg h2)
zkk:=by obtain⟨_,a1,_,a3,a4,a5⟩:46:=qu;exact(cI a3 a1 a4 a5)
zhf:=by rw[rel.keys,Zd,h1,Yb] at hk2;have e3:(iS=(ZW x)):=(ZH.inj hk2);rw[e3] at h2;show(mj,t,et,WA (x:=x) (v:=en.key) h2,t,aD ev et)
ziB:=by rw[(xa6 (fun z=>(e p Zm (ZW.inj z))))];exact (ih (fun p' hp=>(e p' (Zi _ hp))))
zmO:=by show(dL,j,a,b,xfq ky ad i x h);ext aJ j aa b
zgR a:=by show(Cn,c0,tl0,mro0,JD.mro);show(af,made0,JD.made,sub0,JD.sub);refine (Wi (codeAny_of_tree ?_));show a;refine (Zk ⟨Code.quiet_builtin _ aP,Ya F.entry_type_call ?_⟩);rw[(Around.under_plain (weight_type_call_type "set" [bH] []) rfl)];have k1:=JD.notType;show(af,k2,JD.canCreate,k3,F.typeCall_set_1 bH)
zgQ a c d:=by have hN:((H2 s2.heap.objs.size)=none):=(I2.hok.fresh (Zj _));obtain⟨W,⟨m0,w0⟩,turn⟩:62:=(body s2.heap.objs.size hN);refine (JW ?_);generalize hs3:({ s2 with heap:=s2.heap.push (eg,"list",.seq (([]:aQ).toArray)) }:Shared)=s3;have k3:(oX,(s2.heap.get? b)=(some o),(s3.heap.get? b)=(some o)):=(iU o g (bJ hs3 uG));have I3:(b8 kc s3):=a;show(bw,z2,∀ b∈fp,(b<s2.heap.objs.size),b,hb,c);show(bw,z3,∀ b∈fp,(b<s3.heap.objs.size),b,hb,d);show(bw,f3,N2 kc,b,hb,⟨(aD,xj (ZD (z2 b hb)),(f2 b hb).1),(f2 b hb).2⟩)
zhe:=by refine (YU (code_set_new_1 bH (E:=E) (Q₁:=(fun ob s1=>(∃ led:Bool,((ob=ie)/\(s1=zbf))))) (fun led=>(dk led rfl))) (aL r s1 hr))
zgU a b:=by show(bw,mem2,∀ u v,(Mf,Dm,((u=x2)/\(zdh y2 r2))\/(bc,v,r2,x2<=u,u<=(w+1))),u,v,a);show(bw,mem1,∀ u v,(Mf,AA,((u=x1)/\(zdh y1 r1))\/(bc,v,r1,0<=u,u<=x1)),u,v,b);by_cases hlt:(x2<x1)
zhc:=by rw [(K9,(its.toArray.any (eU IB))=(its.any (eU IB))),(xlo r),(xlm (g:=(aA,dEq z d)) hl (fun j z e g1 g2=>(xez I (k j z e g1 g2))))];exact q
zgT:=by intro s3 mv so;obtain⟨hp3,gn3,dr3,tk3,os3⟩:=s3;show(cX,gn3=s.gens,mv.gens);show(cX,dr3=s.drawn,mv.drawn);show(cX,os3=s.os,mv.os);refine (Zk (Zk (dC (eD hp3 tk3 so (lK,lb,mv.heap b o ?_ RL)))));show(M0,ZD lb,ZD (Z5 lb (JO _)))
theorem n42  {P0 P1:Prop} (h0:P0) (h1:P1):P0/\P1:=⟨h0,h1⟩
theorem i42  {P0 P1:Prop}{C:Prop} (k:P0->P1->C):(P0/\P1)->C:=(fR,k h.1 h.2)
theorem n43  {P0 P1 P2:Prop} (h0:P0) (h1:P1) (h2:P2):P0/\P1/\P2:=⟨h0,n42 h1 h2⟩
theorem i43  {P0 P1 P2:Prop}{C:Prop} (k:bq P0 P1 P2 C):(P0/\P1/\P2)->C:=(fR,i42 (k h.1) h.2)
theorem n44  {P0 P1 P2 P3:Prop} (h0:P0) (h1:P1) (h2:P2) (h3:P3):bD P0 P1 P2 P3:=⟨h0,n43 h1 h2 h3⟩
theorem i44  {P0 P1 P2 P3:Prop}{C:Prop} (k:bj P0 P1 P2 P3 C):(bD P0 P1 P2 P3)->C:=(fR,i43 (k h.1) h.2)
theorem n45  {P0 P1 P2 P3 P4:Prop} (h0:P0) (h1:P1) (h2:P2) (h3:P3) (h4:P4):zuk:=⟨h0,n44 h1 h2 h3 h4⟩
theorem i45  {P0 P1 P2 P3 P4:Prop}{C:Prop} (k:P0->(bj P1 P2 P3 P4 C)):zuk->C:=(fR,i44 (k h.1) h.2)
theorem n46  {P0 P1 P2 P3 P4 P5:Prop} (h0:P0) (h1:P1) (h2:P2) (h3:P3) (h4:P4) (h5:P5):P0/\(zfw P5):=⟨h0,n45 h1 h2 h3 h4 h5⟩
theorem i46  {P0 P1 P2 P3 P4 P5:Prop}{C:Prop} (k:P0->P1->(bj P2 P3 P4 P5 C)):(P0/\(zfw P5))->C:=(fR,i45 (k h.1) h.2)
theorem n47  {P0 P1 P2 P3 P4 P5 P6:Prop} (h0:P0) (h1:P1) (h2:P2) (h3:P3) (h4:P4) (h5:P5) (h6:P6):P0/\P1/\(ax P2 P3 P4 P5 P6):=⟨h0,n46 h1 h2 h3 h4 h5 h6⟩
theorem i47  {P0 P1 P2 P3 P4 P5 P6:Prop}{C:Prop} (k:bq P0 P1 P2 (bj P3 P4 P5 P6 C)):(P0/\(zfw,P5/\P6))->C:=(fR,i46 (k h.1) h.2)
theorem n61 {A0:Type}{P0:qo} (a:A0) (h0:gJ):∃(a:A0),gJ:=fK h0
theorem i61 {A0:Type}{P0:qo}{C:Prop} (k:∀(a:A0),gJ->C):Ev gJ:=(fE,k a h)
theorem n62 {A0:Type}{P0 P1:qo} (a:A0) (h0:gJ) (h1:jJ):∃(a:A0),gJ/\jJ:=(fK,n42 h0 h1)
theorem i62 {A0:Type}{P0 P1:qo}{C:Prop} (k:∀(a:A0),gJ->jJ->C):(Ev,gJ/\jJ):=(fE,i42 (k a) h)
theorem n63 {A0:Type}{P0 P1 P2:qo} (a:A0) (h0:gJ) (h1:jJ) (h2:nJ):∃(a:A0),gJ/\jJ/\nJ:=(fK,n43 h0 h1 h2)
theorem i63 {A0:Type}{P0 P1 P2:qo}{C:Prop} (k:∀(a:A0),bq gJ jJ nJ C):(Ev,gJ/\jJ/\nJ):=(fE,i43 (k a) h)
theorem n64 {A0:Type}{P0 P1 P2 P3:qo} (a:A0) (h0:gJ) (h1:jJ) (h2:nJ) (h3:ve):∃(a:A0),bD gJ jJ nJ ve:=(fK,n44 h0 h1 h2 h3)
theorem i64 {A0:Type}{P0 P1 P2 P3:qo}{C:Prop} (k:∀(a:A0),bj gJ jJ nJ ve C):(Ev,bD gJ jJ nJ ve):=(fE,i44 (k a) h)
theorem n65 {A0:Type}{P0 P1 P2 P3 P4:qo} (a:A0) (h0:gJ) (h1:jJ) (h2:nJ) (h3:ve) (h4:P4 a):∃(a:A0),zrl:=(fK,n45 h0 h1 h2 h3 h4)
theorem i65 {A0:Type}{P0 P1 P2 P3 P4:qo}{C:Prop} (k:∀(a:A0),gJ->(bj,jJ,nJ,ve,P4 a,C)):Ev zrl:=(fE,i45 (k a) h)
theorem n66 {A0:Type}{P0 P1 P2 P3 P4 P5:qo} (a:A0) (h0:gJ) (h1:jJ) (h2:nJ) (h3:ve) (h4:P4 a) (h5:P5 a):∃(a:A0),gJ/\zpe:=(fK,n46 h0 h1 h2 h3 h4 h5)
theorem i66 {A0:Type}{P0 P1 P2 P3 P4 P5:qo}{C:Prop} (k:∀(a:A0),gJ->jJ->(bj,nJ,ve,P4 a,P5 a,C)):(Ev,gJ/\zpe):=(fE,i46 (k a) h)
theorem n81 {A0 A1:Type}{P0:pZ} (a:A0) (b:A1) (h0:gy):∃(a:A0) (b:A1),gy:=(fK,n61 b h0)
theorem i81 {A0 A1:Type}{P0:pZ}{C:Prop} (k:∀(a:A0) (b:A1),gy->C):Dz gy:=(fE,i61 (k a) h)
theorem n82 {A0 A1:Type}{P0 P1:pZ} (a:A0) (b:A1) (h0:gy) (h1:jC):∃(a:A0) (b:A1),gy/\jC:=(fK,n62 b h0 h1)
theorem i82 {A0 A1:Type}{P0 P1:pZ}{C:Prop} (k:∀(a:A0) (b:A1),gy->jC->C):(Dz,gy/\jC):=(fE,i62 (k a) h)
theorem n83 {A0 A1:Type}{P0 P1 P2:pZ} (a:A0) (b:A1) (h0:gy) (h1:jC) (h2:mZ):∃(a:A0) (b:A1),gy/\jC/\mZ:=(fK,n63 b h0 h1 h2)
theorem i83 {A0 A1:Type}{P0 P1 P2:pZ}{C:Prop} (k:∀(a:A0) (b:A1),bq gy jC mZ C):(Dz,gy/\jC/\mZ):=(fE,i63 (k a) h)
theorem n84 {A0 A1:Type}{P0 P1 P2 P3:pZ} (a:A0) (b:A1) (h0:gy) (h1:jC) (h2:mZ) (h3:uH):∃(a:A0) (b:A1),bD gy jC mZ uH:=(fK,n64 b h0 h1 h2 h3)
theorem i84 {A0 A1:Type}{P0 P1 P2 P3:pZ}{C:Prop} (k:∀(a:A0) (b:A1),bj gy jC mZ uH C):(Dz,bD gy jC mZ uH):=(fE,i64 (k a) h)
theorem n85 {A0 A1:Type}{P0 P1 P2 P3 P4:pZ} (a:A0) (b:A1) (h0:gy) (h1:jC) (h2:mZ) (h3:uH) (h4:F8):∃(a:A0) (b:A1),zuj:=(fK,n65 b h0 h1 h2 h3 h4)
theorem i85 {A0 A1:Type}{P0 P1 P2 P3 P4:pZ}{C:Prop} (k:∀(a:A0) (b:A1),gy->(bj jC mZ uH F8 C)):Dz zuj:=(fE,i65 (k a) h)
theorem n86 {A0 A1:Type}{P0 P1 P2 P3 P4 P5:pZ} (a:A0) (b:A1) (h0:gy) (h1:jC) (h2:mZ) (h3:uH) (h4:F8) (h5:P5 a b):∃(a:A0) (b:A1),gy/\zqa:=(fK,n66 b h0 h1 h2 h3 h4 h5)
theorem i86 {A0 A1:Type}{P0 P1 P2 P3 P4 P5:pZ}{C:Prop} (k:∀(a:A0) (b:A1),gy->jC->(bj,mZ,uH,F8,P5 a b,C)):(Dz,gy/\zqa):=(fE,i66 (k a) h)
theorem n101 {A0 A1 A2:Type}{P0:qV} (a:A0) (b:A1) (c:A2) (h0:hV):∃(a:A0) (b:A1) (c:A2),hV:=(fK,n81 b c h0)
theorem i101 {A0 A1 A2:Type}{P0:qV}{C:Prop} (k:∀(a:A0) (b:A1) (c:A2),hV->C):Dg hV:=(fE,i81 (k a) h)
theorem n102 {A0 A1 A2:Type}{P0 P1:qV} (a:A0) (b:A1) (c:A2) (h0:hV) (h1:jx):zuc jx:=(fK,n82 b c h0 h1)
theorem i102 {A0 A1 A2:Type}{P0 P1:qV}{C:Prop} (k:∀(a:A0) (b:A1) (c:A2),hV->jx->C):(Dg,hV/\jx):=(fE,i82 (k a) h)
theorem n103 {A0 A1 A2:Type}{P0 P1 P2:qV} (a:A0) (b:A1) (c:A2) (h0:hV) (h1:jx) (h2:mJ):∃(a:A0) (b:A1) (c:A2),hV/\jx/\mJ:=(fK,n83 b c h0 h1 h2)
theorem i103 {A0 A1 A2:Type}{P0 P1 P2:qV}{C:Prop} (k:∀(a:A0) (b:A1) (c:A2),bq hV jx mJ C):(Dg,hV/\jx/\mJ):=(fE,i83 (k a) h)
theorem n104 {A0 A1 A2:Type}{P0 P1 P2 P3:qV} (a:A0) (b:A1) (c:A2) (h0:hV) (h1:jx) (h2:mJ) (h3:uf):∃(a:A0) (b:A1) (c:A2),bD hV jx mJ uf:=(fK,n84 b c h0 h1 h2 h3)
theorem i104 {A0 A1 A2:Type}{P0 P1 P2 P3:A0->A1->A2->Prop}{C:Prop} (k:∀(a:A0) (b:A1) (c:A2),bj hV jx mJ uf C):(Dg,bD hV jx mJ uf):=(fE,i84 (k a) h)
theorem n105 {A0 A1 A2:Type}{P0 P1 P2 P3 P4:qV} (a:A0) (b:A1) (c:A2) (h0:hV) (h1:jx) (h2:mJ) (h3:uf) (h4:Fp):∃(a:A0) (b:A1) (c:A2),zui:=(fK,n85 b c h0 h1 h2 h3 h4)
theorem i105 {A0 A1 A2:Type}{P0 P1 P2 P3 P4:qV}{C:Prop} (k:∀(a:A0) (b:A1) (c:A2),hV->(bj jx mJ uf Fp C)):Dg zui:=(fE,i85 (k a) h)
theorem n106 {A0 A1 A2:Type}{P0 P1 P2 P3 P4 P5:qV} (a:A0) (b:A1) (c:A2) (h0:hV) (h1:jx) (h2:mJ) (h3:uf) (h4:Fp) (h5:P5 a b c):zuc zpd:=(fK,n86 b c h0 h1 h2 h3 h4 h5)
theorem i106 {A0 A1 A2:Type}{P0 P1 P2 P3 P4 P5:qV}{C:Prop} (k:∀(a:A0) (b:A1) (c:A2),hV->jx->(bj,mJ,uf,Fp,P5 a b c,C)):(Dg,hV/\zpd):=(fE,i86 (k a) h)
theorem n121 {A0 A1 A2 A3:Type}{P0:pq} (a:A0) (b:A1) (c:A2) (d:A3) (h0:gV):∃(a:A0) (b:A1) (c:A2) (d:A3),gV:=(fK,n101 b c d h0)
theorem i121 {A0 A1 A2 A3:Type}{P0:pq}{C:Prop} (k:∀(a:A0) (b:A1) (c:A2) (d:A3),gV->C):C6 gV:=(fE,i101 (k a) h)
theorem n122 {A0 A1 A2 A3:Type}{P0 P1:pq} (a:A0) (b:A1) (c:A2) (d:A3) (h0:gV) (h1:jq):zpB jq:=(fK,n102 b c d h0 h1)
theorem i122 {A0 A1 A2 A3:Type}{P0 P1:pq}{C:Prop} (k:∀(a:A0) (b:A1) (c:A2) (d:A3),gV->jq->C):(C6,gV/\jq):=(fE,i102 (k a) h)
theorem n123 {A0 A1 A2 A3:Type}{P0 P1 P2:pq} (a:A0) (b:A1) (c:A2) (d:A3) (h0:gV) (h1:jq) (h2:mE):∃(a:A0) (b:A1) (c:A2) (d:A3),gV/\jq/\mE:=(fK,n103 b c d h0 h1 h2)
theorem i123 {A0 A1 A2 A3:Type}{P0 P1 P2:pq}{C:Prop} (k:∀(a:A0) (b:A1) (c:A2) (d:A3),bq gV jq mE C):(C6,gV/\jq/\mE):=(fE,i103 (k a) h)
theorem n124 {A0 A1 A2 A3:Type}{P0 P1 P2 P3:pq} (a:A0) (b:A1) (c:A2) (d:A3) (h0:gV) (h1:jq) (h2:mE) (h3:tS):∃(a:A0) (b:A1) (c:A2) (d:A3),bD gV jq mE tS:=(fK,n104 b c d h0 h1 h2 h3)
theorem i124 {A0 A1 A2 A3:Type}{P0 P1 P2 P3:pq}{C:Prop} (k:∀(a:A0) (b:A1) (c:A2) (d:A3),bj gV jq mE tS C):(C6,bD gV jq mE tS):=(fE,i104 (k a) h)
theorem n125 {A0 A1 A2 A3:Type}{P0 P1 P2 P3 P4:pq} (a:A0) (b:A1) (c:A2) (d:A3) (h0:gV) (h1:jq) (h2:mE) (h3:tS) (h4:ER):∃(a:A0) (b:A1) (c:A2) (d:A3),zuh:=(fK,n105 b c d h0 h1 h2 h3 h4)
theorem i125 {A0 A1 A2 A3:Type}{P0 P1 P2 P3 P4:pq}{C:Prop} (k:∀(a:A0) (b:A1) (c:A2) (d:A3),gV->(bj jq mE tS ER C)):C6 zuh:=(fE,i105 (k a) h)
theorem n126 {A0 A1 A2 A3:Type}{P0 P1 P2 P3 P4 P5:pq} (a:A0) (b:A1) (c:A2) (d:A3) (h0:gV) (h1:jq) (h2:mE) (h3:tS) (h4:ER) (h5:P5 a b c d):zpB zoi:=(fK,n106 b c d h0 h1 h2 h3 h4 h5)
theorem i126 {A0 A1 A2 A3:Type}{P0 P1 P2 P3 P4 P5:pq}{C:Prop} (k:∀(a:A0) (b:A1) (c:A2) (d:A3),gV->jq->(bj,mE,tS,ER,P5 a b c d,C)):(C6,gV/\zoi):=(fE,i106 (k a) h)
namespace L2
open PySem PySem.Spec PyProof.Rows
variable {q0:Bool}
noncomputable abbrev Key:=Sum Int Str
noncomputable def xgb:Key->Value->Bool
 | .inl k,v=>Value.isInt k v
 | wY,v=>Value.isStrOf x v
noncomputable def keyH (w:World):Key->Int
 | .inl k=>hashInt k
 | wY=>hashStr w x
theorem xbt:∀{k:Key}{v:Value},xgb k v=true->(∃ i t,k=Q2 i/\v=YT i t)\/(∃ x t,k=ZW x/\v=Qu x t)
 | .inl i,v,h=>by
  show(jU,t,Value.isInt_shape (k:=i) (v:=v) h);show(cY,bK i t rfl e)
 | wY,v,h=>by
  show(jU,t,WA (x:=x) (v:=v) h);show(fh,bK x t rfl e)
theorem xru (i:Int) (t:Tok):xgb (.inl i) Ls=true:=by simp[xgb,Value.isInt]
theorem xrj (x:Str) (t:Tok):xgb (.inr x) (.str x t)=true:=by simp[xgb,Value.isStrOf]
theorem xxh (a b:Int):decide ((Q2 a:Key)=Q2 b)=FT:=by
 by_cases e:a=b
 .ext dw; simp
 .have h:¬ (Q2 a:Key)=Q2 b:=fun q=>e (Q2.inj q);show(aK,decide_eq_false h,(beq_eq_false_iff_ne.mpr e).symm)
theorem xwj (a b:Str):decide zbU=(d9 a b):=by
 by_cases e:a=b
 .ext dw; simp
 .have h:¬ zbU:=fun q=>e (ZW.inj q);rw[decide_eq_false h,decide_eq_false e]
theorem xv1 (a:Int) (b:Str):Kl ((Q2 a:Key)=ZW b):=zmL
theorem xwf (a:Str) (b:Int):Kl ((ZW a:Key)=Q2 b):=zmL
noncomputable def xaf (prog:Program) (w:World):PySem.KeyKind prog w Key where
 is:=xgb
 hash:=keyH w
 inj:=fun v a b ha hb=>by
  rcases xbt ha with⟨i,t,rfl,rfl⟩|⟨x,t,rfl,rfl⟩
  .rcases xbt hb with⟨j,u,rfl,e⟩|⟨y,u,rfl,e⟩
   .ext zed; rw[e1]
   .exact nomatch e
  .rcases xbt hb with⟨j,u,rfl,e⟩|⟨y,u,rfl,e⟩
   .exact nomatch e
   .ext zed; rw[e1]
 byValue:=fun k v h=>by
  rcases xbt h with⟨i,t,rfl,rfl⟩|⟨x,t,rfl,rfl⟩<;>rfl
 pyHash:=fun hv h=>by
  rcases xbt hv with⟨i,t,rfl,rfl⟩|⟨x,t,rfl,rfl⟩
  .exact wpAny_pyHash_int h
  .exact wpAny_pyHash_str h
 eqBool:=fun hu hv h=>by
  rcases xbt hu with⟨i,t,rfl,rfl⟩|⟨x,t,rfl,rfl⟩
  .rcases xbt hv with⟨j,u,rfl,rfl⟩|⟨y,u,rfl,rfl⟩
   .ext gM xxh; exact wpAny_eqBool_int h
   .ext gM xv1; exact Z3.int_str i t y u _ _ _ _ h
  .rcases xbt hv with⟨j,u,rfl,rfl⟩|⟨y,u,rfl,rfl⟩
   .ext gM xwf; exact Z3.str_int x t j u _ _ _ _ h
   .ext gM xwj; exact wpAny_eqBool_str h
 «strs»:=fun k x t v h=>by
  rcases xbt h with⟨i,u,rfl,e⟩|⟨y,u,rfl,e⟩
  .exact nomatch e
  .ext zed
   subst e1;cases v<;>rfl
theorem xm1 (prog:Program) (w:World) (i:Int) (t:Tok):(xaf prog w).is (.inl i) Ls=true:=xru i t
theorem xm6 (prog:Program) (w:World) (x:Str) (t:Tok):(xaf prog w).is (.inr x) (.str x t)=true:=xrj x t
inductive V where
 | non|bl (b:Bool)|int (i:Int)|str (x:Str)|byt (b:Array UInt8)|flt (b:UInt64)|ref (a:Addr)|ty (n:String)
 deriving DecidableEq
noncomputable def RelV:bX V Value
 | .non,u=>u=JE
 | xL,u=>u=YC b
 | cO,u=>DL
 | lR,u=>O7
 | .byt b,u=>zqx
 | .flt b,u=>zqw
 | aB,u=>u=o8
 | .ty n,u=>u=Wj n
noncomputable abbrev Vals:bX ag aQ:=Paired RelV
theorem Vals.length {xs:ag}{us:aQ} (r:ku):xs.length=us.length:=Y4 r
theorem Vals.get:∀{xs:ag}{us:aQ}{i:Nat}{x:V},ku->rK->∃ u,(aF us u)/\oC
 | _,_,_,_,.nil,e=>BL
 | _,_,0,_,d4 r _,e=>by ext Br; exact bT r
 | _,_,aM,x,EX,e=>by
  show(ae,u,h1,h2,Vals.get (i:=i) (x:=x) t yw);ext aJ u nU h2
theorem Vals.set {x:V}{u:Value} (r:oC):∀{xs:ag}{us:aQ} (i:Nat),ku->Vals (xs.set i x) (us.set i u)
 | _,_,_,.nil=>.nil
 | _,_,0,EX=>ue
 | _,_,aM,d4 q t=>d4 q (Vals.set r i t)
theorem Vals.append:∀{xs ys:ag}{us ws:aQ},ku->Vals ys ws->Vals (xs++ys) (us++ws)
 | _,_,_,_,.nil,s=>s
 | _,_,_,_,ue,s=>.cons r (Vals.append t s)
theorem Vals.take:∀{xs:ag}{us:aQ} (n:Nat),ku->Vals (xs.take n) (us.take n)
 | _,_,0,_=>.nil
 | _,_,_+1,.nil=>.nil
 | _,_,gP,ue=>.cons r (Vals.take n t)
theorem Vals.drop:∀{xs:ag}{us:aQ} (n:Nat),ku->Vals (xs.drop n) (us.drop n)
 | _,_,0,r=>r
 | _,_,_+1,.nil=>.nil
 | _,_,gP,EX=>Vals.drop n t
noncomputable def RelO:bX bS ET
 | ff,some u=>lI
 | none,none=>True
 | _,_=>False
noncomputable def KV {κ:Type}:bX eY wI:=Paired fun (p:κ × V) (q:κ × Value)=>aN=q.1/\RelV dG q.2
noncomputable def kV:Key->V
 | .inl i=>cO
 | wY=>lR
inductive HO where
 /-- a list -/
 | lst (xs:ag)
 /-- a tuple (never changes) -/
 | tup (xs:ag)
 /-- a dict whose keys are ints and texts; one whose keys are tuples of ints and texts (the empty one is both) -/
 | dK (kvs:aI)|dT (kvs:dA)
 /-- a set of ints: its members,its size -/
 | set (S:Int->Bool) (n:Nat)
 /-- an instance of the class at C,its dict at dx,its attributes -/
 | ins (C dx:Addr) (fs:lD)
 /-- the dict of the instance at x -/
 | own (x:Addr)
 /-- the dict of an exception -/
 | xd (fs:lD)
 /-- a bound method,f of x -/
 | met (f x:Addr)
 /-- a range object lo,lo+1,.. below hi -/
 | rng (lo hi:Int)
 /-- a thing that is known to the object (the script; a dict while a loop walks it): read,never written while it is so -/
 | frz (o:Obj) (u:HO)
 /-- a code object's table -/
 | tbl (ps:gS)
 /-- any other thing,by what is true of its one object (a def of one's own: SetO a S n:=HO.ext fun h=>..) -/
 | ext (φ:Heap->Prop)
noncomputable abbrev Hp:=Addr->(dc HO)
noncomputable def upd (H:Hp) (a:Addr) (o:HO):Hp:=fun b=>(kE,b,a,some o,H b)
theorem xl {H:Hp}{a:Addr}{o:HO}:fF H a o a o:=by unfold upd; rw[bW]
theorem xj {H:Hp}{a b:Addr}{o:HO} (h:b≠a):upd H a o b=H b:=by unfold upd; rw[ay h]
theorem xdo {H:Hp}{a:Addr}{o u:HO}:upd Fi a u=(dZ a u):=by
 funext b; unfold upd; split<;>rfl
theorem xdi {H:Hp}{a b:Addr}{o u:HO} (h:Li) (h':iJ) (d:o≠u):a≠b:=by
 intro e; ext dw; show(cJ,h,h',d (ZH.inj h'))
theorem xk {H:Hp}{a b:Addr}{o:HO} (h:Li) (h':dN):a≠b:=by
 intro e; ext dw; ext cH h h'
section
variable (P:Program) (w:World)
noncomputable def xa8 (H:Hp) (h:Heap) (a:Addr):HO->Prop
  | LV=>vC/\(zds,yX/\(lw Au))
  | .tup xs=>vC/\∃ its:aQ,yX/\IsTup h a its.toArray
  | rQ=>VD
  | .dT kvs=>DW/\w4/\∃ xs:rB,
      Paired (fun (p:d6 × V) (q:d6 × RM)=>(bc,aN,q.1,aE (bg q) (.tup ((aN).map kV)),RelV dG (b6 q))) kvs xs /\
      ∃ o es ep,(lw o)/\o.ExactDict/\jO/\es.toList=xs.map (entryOfKey (tupleKind oG))/\(xs.map (·.1)).Nodup
  | .set S n=>h.SetOf (intKind P w) a S n
  | E7=>(aE dx (.own a))/\Pq/\dx≠a/\(lw (Yz C dx)) /\
      ∃ mA,SE/\GH/\Wm mA (fs.map (·.1))
  | .own _=>∃ o,lw o
  | .xd fs=>∃ mA,h.Ns1 a mA/\GH
  | .rng lo hi=>∃ t u v,lw (eg,"range",.fields (zsG 1))
  | Lr=>(lw o)/\xa8 H h a u
  | .tbl ps=>lw WL
  | .met f x=>lw (zcG m5)
  | .ext φ=>φ h/\(∃ o,lw o)/\∀ h1 h2:Heap,φ h1->(∀ o,h1.get? a=some o->h2.get? a=some o)->φ h2
noncomputable def HOk (H:Hp) (h:Heap):Prop:=∀ a o,Li->xa8 P w H h a o
#check _
section
variable {P:Program}{w:World}{H H':Hp}{h h':Heap}{a:Addr}{o:HO}
theorem xa8.lt (x:xa8 P w H h a o):a<h.objs.size:=by
 cases o with
 | lst xs=>obtain⟨_,_,_,_,e⟩:=x; ext xG
 | tup xs=>obtain⟨_,_,_,p⟩:=x; exact p.lt
 | dK kvs=>ext zlY
 | dT kvs=>ext zlY
 | set S n=>obtain⟨o,_,_,_,e,_⟩:122:=x; ext xG
 | ins C dx fs=>obtain⟨_,_,_,e,_⟩:45:=x; ext xG
 | own y=>obtain⟨_,e⟩:=x; ext xG
 | xd fs=>obtain⟨_,⟨_,_,_,e,_⟩,_⟩:62:=x; ext xG
 | rng lo hi=>obtain⟨_,_,_,e⟩:101:=x; ext xG
 | frz ob u=>obtain⟨e,_⟩:=x; ext xG
 | tbl ps=>exact Zv (show lw _ from x)
 | met f y=>exact Zv (show lw _ from x)
 | ext φ=>obtain⟨_,⟨_,e⟩,_⟩:43:=x; ext xG
theorem Paired.mapP {α β:Type}{F G:SY}:∀{l₁:cT}{l₂:Mc},Paired F l₁ l₂->(∀ a b,F a b->G a b)->Paired G l₁ l₂
 | _,_,.nil,_=>.nil
 | _,_,ue,f=>.cons (f _ _ r) (Paired.mapP t f)
theorem xa8.stay (x:xa8 P w H h a o) (k:∀ b u,(b=a\/(aE b (.own a)))->h.get? b=some u->h'.get? b=some u)
    (ho:je (aE b (.own a)) (za (.own a))) (ht:GC):xa8 P w H' h' a o:=by
  induction o with
  | lst xs=>ext zdV x; show(aO,z,bK its n r rA)
  | tup xs=>obtain⟨z,its,r,ob,e,c⟩:=x; exact⟨z,its,r,ob,rA,c⟩
  | dK kvs=>obtain⟨z,y,⟨vs,r,ob,es,ep,e,c⟩⟩:43:=x; exact⟨z,y,vs,r,Be ob rA c⟩
  | dT kvs =>
    obtain⟨z,y,⟨xs,r,ob,es,ep,e,c⟩⟩:43:=x;exact⟨z,y,xs,Paired.mapP r fun p q z=>znR,Be ob rA c⟩
  | set S n=>obtain⟨ob,es,ep,t,e,c⟩:122:=x; exact⟨122,ob,es,ep,t,rA,c⟩
  | ins C dx fs =>
    obtain⟨d,z,ne,e,⟨mA,⟨od,es,ep,e2,c⟩,r⟩⟩:45:=x;exact(bO,ho _ d,z,ne,rA,⟨mA,(Be,od,k _ _ (.inr d) e2,c),r⟩)
  | own y=>ext jU ob x; ext aO ob rA
  | xd fs=>obtain⟨mA,⟨od,es,ep,e,c⟩,r⟩:62:=x; show(aJ,mA,Be od rA c,r)
  | rng lo hi=>obtain⟨t,u,v,e⟩:101:=x; exact⟨101,t,u,v,rA⟩
  | frz ob u ih=>ext iH e x; show(aO,rA,ih q)
  | tbl ps =>
    have e:lw WL:=x;show Ib WL;exact k a _ eZ e
  | met f y =>
    have e:lw (zcG (.ref y)):=x;show Ib (zcG (.ref y));exact k a _ eZ e
  | ext φ=>obtain⟨p,⟨o,e⟩,st⟩:43:=x; show(aJ,st _ _ p fun o q=>k _ _ eZ q,⟨o,rA⟩,st)
theorem HOk.lt (x:mr) (e:Li):a<h.objs.size:=(x a o e).lt
theorem HOk.fresh (x:mr) (e:zdD):bI a:=by
 cases q:H a with
 | none=>rfl
 | some u=>show(wC,Z5 (x.lt q) e)
theorem HOk.kept (x:mr) (k:MN):HOk P w H h':=fun a o e =>
 (x a o e).stay (fun b u _ q=>k b u q) S4 Ej
theorem HOk.laid (x:mr) (k:MN) (hp:zdD) (new:xa8 P w Fi h' a o):HOk P w Fi h':=fun b u e=>by
 have hn:=x.fresh hp;ext Cr a
 .subst hb; ext uP xl e new
 .rw [xj hb] at e;exact (x b u e).stay (fun c v _ q=>k c v q) (IQ (xk q hn)) (HZ (xk q hn))
#check _
noncomputable def Rd (H:Hp) (a:Addr) (u:HO):Prop:=(aE a u)\/∃ o,aE a Lr
theorem Rd.ok {P:Program}{w:World}{H:Hp}{h:Heap}{a:Addr}{u:HO} (r:Rd H a u) (x:mr):xa8 P w H h a u:=by
 rcases r with r|⟨o,r⟩
 .exact x a u r
 .obtain ⟨_,q⟩:=x a _ r;exact q
noncomputable def Mut:(dc HO)->Prop
 | some (.lst _)=>True
 | some (.dK _)=>True
 | some (.dT _)=>True
 | some (.set _ _)=>True
 | some (.ins _ _ _)=>True
 | some (.ext _)=>True
 | _=>False
section
variable {P:Program}{w:World}{H:Hp}{h h':Heap}{x e:Addr}{o':HO}
theorem HOk.write (ok:mr) (mu:Mut (H x)) (he:zaf) (k:zjA) (heo:Xn)
    (new:xa8 P w (dZ x o') h' x o'):HOk P w (dZ x o') h':=fun b u q=>by
  have nown:∀ c y,(aE c (.own y))->c≠x:=fun c y r z=>zaN r
  have ntup:∀ c xs,(gZ c xs)->c≠x:=fun c xs r z=>zaN r
  ext Cr x
  . subst hb; ext uP xl q new
  . rw[xj hb] at q
    by_cases hbe:b=e
    . have q':aE b (.own x):=by
        rcases he with z|z
        . exact absurd (hbe.trans z) hb
        . ext aK hbe z
      ext bA q q' q';show(mj,v,hv,heo,v,aD hbe hv)
    . refine (ok b u q).stay (zdz r) (fun c r=>bE (nown c b r) r) fun c xs r=>bE (ntup c xs r) r
      rcases hc with rfl|hc
      . exact hbe
      . rintro rfl
        rcases he with z|z
        . exact nown c b hc z
        . ext bA hc z z; exact hb rfl
#check _
structure Un (fs ex:az) (H H':Hp) (h h':Heap):Prop where
 keep:∀ b o,(bj,sV,dN,b∉fs,b∉ex,ye)
 slot:∀ b o,(bj,sV,dN,b∈fs,b∉ex,znu)
 free:∀ b o,(bq,sV,dN,b∉ex,Bq)
 there:(FP,sV,b∉ex,∃ o',PM o')
 tups:GC
 frzs:zoQ
 tbls:ziC
section
variable {fs fs' ex ex':List Addr}{H H1 H2:Hp}{h h1 h2 h':Heap}{a x e:Addr}{o:HO}
theorem Un.any (u:Un fs ex H H1 h h1) {b:Addr}{ob:Obj} (q:h.get? b=some ob) (n:dN) (hx:b∉ex):∃ sl,h1.get? b=some { ob with slots:=sl }:=by
 by_cases hb:b∈fs
 .exact u.slot b ob q n hb hx
 .exact ⟨ob.slots,u.keep b ob q n hb hx⟩
theorem Un.kept (k:MN):Un fs ex H H h h' :=
 ⟨(Th,ob,k b ob q),Th ob ⟨ob.slots,k b ob q⟩,fun _ _ _ n _=>n,fun b ob q _=>⟨ob,k b ob q⟩,Ej,fun _ _ _ q=>q,fun _ ps q=>⟨#[],mG q⟩⟩
theorem Un.refl:Un fs ex H H h h:=Un.kept Ej
theorem Un.laid (k:MN) (hp:zdD) (hn:bI a):Un fs ex H Fi h h' where
 keep:=(Th,u,k b u q)
 slot:=Th u ⟨u.slots,k b u q⟩
 free:=fun b u q n _=>(aD,xj (ZD (Z5 (Zv q) hp)),n)
 there:=fun b u q _=>⟨u,k b u q⟩
 tups:=(iU,xs,q,bE (xk q hn) q)
 frzs:=fun b u xs q=>bE (xk q hn) q
 tbls:=(zpH,xj (xk q hn))
theorem Un.write (mu:Mut (H x)) (he:zaf) (k:zjA) (heo:Xn):Un fs ex H (dZ x o) h h':=by
 have hx:(je,dN,b≠x):=(iU,n,z,zaN n)
 have hb:(je,dN,b≠e):=fun b n z=>by
  subst z;rcases he with r|r
  .exact hx b n r
  .ext Ag n r
 have hm:∀ b u,iJ->¬ Mut (some u)->b≠x:=fun b u q nm z=>by subst z; rw[q] at mu; exact nm mu
 refine⟨fun b u q n _ _=>k b u (hb b n) q,fun b u q n _ _=>⟨u.slots,k b u (hb b n) q⟩,fun b u q n _=>bE (hx b n) n,fun b u q _=>?_,
  (iU,xs,q,bE zcM q),fun b u xs q=>bE zcM q,(zpH,xj zcM)⟩
 by_cases hbe:b=e
 .subst hbe; exact heo
 .exact ⟨u,k b u hbe q⟩
#check _
noncomputable def trk (h:Heap) (H:Hp):az:=(zdN).filter fun a=>(H a).isSome
noncomputable def hidT (h:Heap) (H:Hp):Heap:=PySem.W.hideAll h (trk h H)
theorem xq3 (h:Heap) (H:Hp):(UB).objs.size=h.objs.size:=PySem.W.hideAll_size _ _
theorem xs5 {h:Heap}{H:Hp}{b:Addr}{o:Obj} (e:sV) (n:dN):(UB).get? b=some o :=
 PySem.W.hideAll_get _ e fun hm=>by
  have q:gT (H b):=(Zy.mp hm).2;rw[n] at q; simp at q
theorem xvl {h:Heap}{H:Hp}{b:Addr}{o:Obj} (e:(UB).get? b=some o):sV/\dN:=by
 show(ap,e',sV,PySem.W.of_hideAll (trk h H) e,eS e');cases q:H b with
 | none=>rfl
 | some x =>
  have hm:b∈trk h H:=Zy.mpr ⟨ZS.mpr (Zv e'),bF q⟩;have z:(UB).get? b=none:=PySem.W.hideAll_none (trk h H) hm;ext cH z e
noncomputable def xvj (g h:Heap) (L:Addr):aW:=(zdN).filterMap fun a=>if a=L\/(gT (g.get? a)) then none else (h.get? a).map fun o=>(a,o)
noncomputable def rest (g h:Heap) (L d:Addr):aW:=(xvj g h L).filter fun p=>bG (aN≠d)
structure Mod (K:Zf) (mg:fA) (base:Heap):Prop where
 kin:K.In base
 glob:base.Ns mainGlobals mg
 blt:∃ mb,base.Ns builtinsNs mb/\zlA
 nolimit:base.NoLimit
structure Cx where
 prog:Program
 w:World
 K:Zf
 mg:fA
 base:Heap
 A:Around
 N:ai
 s₀:Shared
 H₀:Hp
 env:Env
 outer:mK
 stack:mK
 ex:az
 fn:Str->Bool
 calm:Bool
 pn:aW
 xe:aT
noncomputable def frs (l:mK):az:=l.filterMap (·.frame)
noncomputable abbrev Cx.fs (X:Cx):az:=frs X.outer
noncomputable def Vis (sc:Scope) (x:Str):Prop:=Nb\/GF\/sc.names.lookup x=some .free
noncomputable def Loc (sc:Scope) (x:Str):Prop:=Nb\/GF
noncomputable def Look (env:Env) (h:Heap) (m:fA) (x:Str) (u:Value):Prop :=
 (env.kindOf x=some .local/\m x=some u)\/((env.kindOf x=some .cell\/env.kindOf x=some .free)/\∃ c,env.cells.lookup x=some c/\h.IsCell c (some u))
structure Cx.Ok (X:Cx):Prop where
 mod:zuz
 kind:X.env.scope.kind=.function
 glob:X.env.globals=mainGlobals
 blt:X.env.builtins=builtinsNs
 above:yh X.env.locals
 inj:∀ x y c,At->X.env.cells.lookup y=some c->x=y
 has:∀ x,(X.env.kindOf x=some .cell\/X.env.kindOf x=some .free)->∃ c,At
 cab:∀ x c,zex->At->(yh c)
 hd:fX->X.A.handled=none
 frames:X.A.frames=some X.stack
 stk:X.stack=X.outer\/(X.stack=X.env::X.outer/\X.env.frame=some X.env.locals)
 exf:∀ b∈X.ex,AM/\(yB b)
 bs:(Ny,zoD/\X.H₀ b=none)
 bsz:X.base.objs.size<=X.s₀.heap.objs.size
 noex:(Ny,b∉X.ex)
 exfs:∀ b∈X.ex,UJ
 funs:ztg X.outer
 frf:∀ b∈X.fs,X.H₀ b=none
structure Inv (X:Cx) (pins:aW) (Z:List bS) (H:Hp) (s:Shared):Prop where
 ok:X.Ok
 os:s.os=X.s₀.os
 bare:AllBare s.gens
 base:Un X.fs X.ex X.H₀ H X.s₀.heap s.heap
 loc:∃ m,zrd/\∀(i:Nat) (x:Str) (v:V),(bq,rC,aF Z ff,zbZ,∃ u,lI/\Look X.env s.heap m x u)
 cell:∀ x c,At->∃ v,s.heap.IsCell c v
 free:bI X.env.locals
 freeC:∀ x c,At->(bI c)
 pin:∀ p∈fY,zhB
 hok:HOk X.prog X.w H s.heap
 len:Z.length=X.N.length
section
variable {X:Cx}{pins:List (Addr × Obj)}{Z:List (Option V)}{H H':Hp}{s:Shared}{h':Heap}
theorem Cx.Ok.nofr (ok:X.Ok) {b:Addr}{o:Obj} (e:X.base.get? b=some o):UJ:=fun hb=>by
 show(zdm,(ok.funs.mem hb).1)
theorem Inv.bs (I:aq):(Ny,jN/\dN):=fun b o e =>
 ⟨I.base.keep b o OP (I.ok.bs b o e).2 (I.ok.nofr e) (I.ok.noex b o e),I.base.free b o OP (I.ok.bs b o e).2 (I.ok.noex b o e)⟩
theorem Inv.bk (I:aq):Ny jN:=(sF,(I.bs b o e).1)
theorem Inv.mod (I:aq):zuz:=I.ok.mod
theorem Inv.kIn (I:aq):X.K.In s.heap:=I.ok.mod.kin.keeps I.bk
theorem Inv.fr (I:aq):∃ m,Fr X.base X.env.locals s.heap m :=
 let ⟨m,hn,_⟩:=I.loc
 ⟨m,hn,I.bk,zsz⟩
theorem Inv.lt (I:aq):nY X.env.locals:=let ⟨_,hn,_⟩:=I.loc; hn.lt
theorem Inv.sz (I:aq):yh s.heap.objs.size:=ZJ I.ok.above (J6 I.lt)
theorem Inv.nofs (I:aq) {a:Addr} (h:AS a):a∉X.fs:=fun hb=>by
 obtain⟨_,o,ho,_⟩:=I.ok.funs.mem hb;show(wC,Z5 (Zv ho) (ZJ I.sz h))
theorem Inv.cne (I:aq):yB X.env.locals:=fun x c e z=>by
 ext iF v o ho hd R8;obtain⟨m,⟨o',es,ep,ho',hd',_⟩,_⟩:62:=(I.loc)
 rw[z,ho'] at ho; cases ho; ext cH hd' hd
theorem Inv.funs (I:aq):zbj X.outer:=by
 have all:∀(l:mK),(∀ b∈frs l,b∈X.fs)->(ztg l)->(zbj l):=by
  intro l
  induction l with
  | nil=>intro _ _; trivial
  | cons env r ih =>
   intro hs hl;obtain⟨hk,⟨L,o,hf,hn,ho,hd⟩,hr⟩:43:=hl;have hL:L∈X.fs:=hs L (ztB Zm);show(jU,sl,I.base.slot L o ho (I.ok.frf L hL) hL (aA,I.ok.exfs L z hL))
   show(aJ,hk,⟨84,L,_,hf,hn,e,hd⟩,ih (jy,hs b (ztB,Zi _ hb)) hr)
 exact all X.outer (fun _ hb=>hb) I.ok.funs
theorem Inv.stack (I:aq):zbj X.stack:=by
 rcases I.ok.stk with e|⟨e,hf⟩
 .show(c9,e,I.funs)
 .rw [e];show(fD,m,hn,I.loc)
  refine .cons (vW I.ok.kind) hf hn ?_ I.funs;exact Heap.get?_none_of_le zsz
theorem Inv.stkSub (I:aq):∀ b∈Bn,b∈X.env.locals::X.fs:=fun b hb=>by
 rcases I.ok.stk with e|⟨e,hf⟩
 .rw [e] at hb; exact Zi _ hb
 .rw [e] at hb;unfold frs at hb;ext oW JI hf hb hb
theorem Inv.stkFree (I:aq):∀ b∈Bn,dN:=fun b hb=>by
 rcases dI (I.stkSub b hb) with e|hb
 .show(c9,e,I.free)
 .obtain ⟨_,o,ho,_⟩:=I.ok.funs.mem hb;exact I.base.free b o ho (I.ok.frf b hb) (aA,I.ok.exfs b z hb)
theorem Inv.step {g':Array GenState}{t':Nat}{d':Drawn}{ch:az} (I:aq)
    (hch:Vn)
    (keep:oX AM (bj UJ Cy jN dN ye))
    (slot:oX AM (bj,b∈X.fs,Cy,jN,dN,znu)) (free:∀ b o,bq Cy jN dN Bq)
    (there:(FP,Cy,jN,∃ o',PM o'))
    (tups:GC) (frzs:zoQ) (tbls:ziC)
    (ns:∀ m,zrd->h'.Ns X.env.locals m) (hok:zaD) (hg:AllBare g') :
    ziY:=by
  have neL:(oX,X.s₀.heap.get? b=some o,AM):=(sF,ZD (wR I.ok.above));have neC:(FP,zoD,b∉X.ex,Cy):=fun b o e hx hb=>by
    rcases (hch b hb).1 with z|z
    . exact hx z
    . show(wC,wR z)
  have cellK:∀ x c,At->∀ v,s.heap.IsCell c v->h'.IsCell c v:=fun x c e v ⟨o,ho,hd⟩=>by
    have nch:c∉ch:=(aA,(b6 (hch c z)).1 x c e rfl);by_cases hc:c∈X.fs
    . show(iH,sl,slot c o (I.cne x c e) hc nch ho Ry)
      exact cq q hd
    . show(aJ,o,keep c o (I.cne x c e) hc nch ho Ry,hd)
  refine⟨I.ok,I.os,hg,⟨fun b o e n hb hx=>?_,fun b o e n hb hx=>?_,bC b o e n hx,HG,(jz,tups b xs (I.base.tups b xs e)),(lK,xs,frzs b o xs (I.base.frzs b o xs e)),df b ps ?_⟩,?_,o4 x c,?_,o4 x c,lG,hok,I.len⟩
  . exact keep b o (neL b o e) hb R7 (I.base.keep b o e n hb hx) zah
  . obtain⟨sl,e1⟩:=I.base.slot b o e n hb hx
    show(mj,sl',e2,slot b _ (neL b o e) hb R7 e1 zah,sl',e2)
  . obtain⟨o',e1⟩:=Oa
    exact free b o' R7 e1 zah
  . obtain⟨o',e1⟩:=Oa
    exact there b o' R7 e1
  . obtain⟨m1,e1⟩:=I.base.tbls b ps e
    show(mj,m2,e2,tbls b _ e1,m1++m2,cA e2 Array.append_assoc)
  . ext zdW
    show(cR,m,ns m hn,fun i x v e1 e2 e3=>?_);show(ae,u,r,l,hl i x v e1 e2 e3);ext gH u r;rcases l with l|⟨k,c,e,z⟩
    . ext cY l
    . show(fh,⟨k,c,e,cellK x c e _ z⟩)
  . show(mj,v,z,R8,v,cellK x c e v z)
  . obtain⟨m,⟨o,_,_,ho,_⟩,_⟩:62:=(I.loc)
    exact free _ o (aA,(hch _ z).2.1 rfl) ho I.free
  . ext iF v o ho hd R8
    exact free c o (aA,(b6 (hch c z)).1 x c e rfl) ho Ry
  . obtain⟨e,n,ne,nf,d⟩:45:=S8
    have nch:aN∉ch:=(aA,(b6 (hch aN z)).2 p hp rfl);exact(bO,keep aN dG ne nf nch e n,free aN dG nch e n,ne,nf,d)
theorem Inv.un {t':Nat} (I:aq) (u:Un X.fs [] H H' s.heap h') (hok:zaD):b8 H' B6:=by
 obtain⟨m,⟨o,es,ep,ho,r⟩,_⟩:62:=id I.loc;obtain⟨sl,hL⟩:=u.any ho I.free aj;exact I.step (g':=s.gens) (d':=s.drawn) (ch:=[]) jP (fun b o _ hb _ e n=>u.keep b o e n hb aj) (fun b o _ hb _ e n=>u.slot b o e n hb aj) (fun b o _ e n=>u.free b o e n aj) (fun b o _ e=>u.there b o e aj) u.tups u.frzs u.tbls (fun m' hm=>by
  obtain⟨o',es',ep',ho',r'⟩:102:=hm;ext zlM) hok I.bare
theorem Inv.call {g':Array GenState}{t':Nat}{d':Drawn}{ch:az} (I:aq) (u:Un Bn ch H H' s.heap h') (hok:zaD) (hg:AllBare g')
    (hch:Vn) :
    ziY:=by
  obtain⟨m,⟨o,es,ep,ho,r⟩,_⟩:62:=id I.loc;obtain⟨sl,hL⟩:=u.any ho I.free (aA,(hch _ z).2.1 rfl)
  exact I.step (ch:=ch) hch (fun b o hL hb hc e n=>u.keep b o e n (aA,(zaZ).elim hL hb) hc) (fun b o _ _ hc e n=>u.any e n hc) (fun b o hc e n=>u.free b o e n hc) (lK,hc,u.there b o e hc) u.tups u.frzs u.tbls (fun m' hm=>by
    obtain⟨o',es',ep',ho',r'⟩:102:=hm;ext zlM) hok hg
theorem Inv.turned {t':Nat}{it:Addr} (I:aq) (k:zcH ye) (hn:bI it) (hL:it≠X.env.locals)
    (h1:it∈X.ex\/(yh it)) (h2:yB it) (h3:Ip it):ia B6:=by
  have nit:(sG,iJ,b≠it):=fun b u e z=>qW hn e
  refine I.step (g':=s.gens) (d':=s.drawn) (ch:=sN) gY (Pc zae) (Pc ⟨o.slots,zae⟩) (fun _ _ _ _ n=>n)
    (lK hc ⟨o,zae⟩) (fun _ _ e=>e) PX zpT (au m hm) uw I.bare
  . ext tO;exact cI h1 hL h2 h3
  . obtain⟨o,es,ep,ho,r⟩:102:=hm
    exact(Be,o,k _ o (Z2 hL) ho,r)
  . refine (zgh).stay (zdz q) S4 Ej
    rcases hc with z|z
    . show(aK,z,nit b u e)
    . exact nit c _ z
theorem Inv.tok (I:aq) (t:Nat):ia { s with toks:=t }:=I.un (h':=s.heap) (t':=t) Un.refl I.hok
theorem Inv.kept {t':Nat} (I:aq) (k:zji):ia B6:=I.un (Un.kept k) (I.hok.kept k)
theorem Inv.laid {a:Addr}{o:HO}{t':Nat} (I:aq) (k:zji) (hp:AS a) (new:xa8 X.prog X.w Fi h' a o) :
    b8 Fi B6:=I.un (Un.laid k hp (I.hok.fresh hp)) (I.hok.laid k hp new)
theorem Inv.write {x e:Addr}{o:HO}{t':Nat} (I:aq) (mu:Mut (H x)) (he:zaf) (k:(pY,e,s.heap.get? b=some u,h'.get? b=some u)) (heo:Xn)
    (new:xa8 X.prog X.w (dZ x o) h' x o):b8 (dZ x o) B6:=I.un (Un.write mu he k heo) (I.hok.write mu he k heo new)
theorem Inv.weak {σ':List bS} (I:aq) (hl:σ'.length=Z.length) (w:∀(i:Nat) v,(aF σ' ff)->(aF Z ff)):Gh σ' H s :=
 ⟨I.ok,I.os,I.bare,I.base,let ⟨m,hn,hl'⟩:=I.loc; ⟨m,hn,fun i x v e1 e2 e3=>hl' i x v e1 (w i v e2) e3⟩,I.cell,I.free,I.freeC,I.pin,I.hok,hl.trans I.len⟩
theorem Inv.pins_of {pins':aW} (I:aq) (h:∀ p∈pins',zhB):Inv X pins' Z H s :=
 ⟨I.ok,I.os,I.bare,I.base,I.loc,I.cell,I.free,I.freeC,(fG,(Zw.mp hp).elim (aA,I.pin p (ZF _ z)) (h p)),I.hok,I.len⟩
theorem xlh {N:ai} (hN:N.Nodup) {i j:Nat}{x:Str} (a:aF N x) (b:bQ N x):i=j:=by
 obtain⟨h1,e1⟩:=Zl.mp a;obtain⟨h2,e2⟩:=Zl.mp b;exact (List.getElem_inj hN).mp (e1.trans e2.symm)
theorem xks {M:Model}{A:Around}{E:aT}{i:Nat}{x:Str}{v:V}{u:Value}{Q:wp} (I:aq) (hN:X.N.Nodup) (hi:rC) (hx:AH) (r:lI)
    (h:∀ s',(Gh oq H s')->(∃ a,Jn a s.heap s'.heap/\(a=X.env.locals\/X.env.cells.lookup x=some a))->Q () s') (hf:Cv:=by first|ext wT|ext zY|ext cQ):wpAny M A zuy Q E s:=by
  show(ae,m,hn,hl,id I.loc);have hcls:(X.env.scope.kind == .class||(X.env.scope.kind == .module&&X.env.locals != X.env.globals))=false:=d7 I.ok.kind
  show(dO,hiσ,i<Z.length,(aD,I.len,ir hi),cne,I.cne);have tracked:∀{a:Addr}{h':Heap},(∃ o,(yg o)/\(bI a))->Jn a s.heap h'->HOk X.prog X.w H h':=fun {a h'} ha hs b ob e=>by
    obtain⟨_,_,hfree⟩:62:=ha;refine (I.hok b ob e).stay (fun c w' hc q=>(hs.2 c ?_).trans q) S4 Ej;rintro rfl;rcases hc with rfl|hc
    . ext cH hfree e
    . ext cH hfree hc
  rcases hx with hk|hk
  . refine wpAny_storeName_local hk hn (Mr hn') hcls
    obtain⟨oL,_,_,hoL,_⟩:102:=id hn;refine h _ ⟨I.ok,I.os,I.bare,⟨fun b o e n hb hx=>?_,fun b o e n hb hx=>?_,I.base.free,HG,I.base.tups,I.base.frzs,I.base.tbls⟩,(cq,hn',fun j y v' e1 e2 e3=>?_),o4 y c,I.free,I.freeC,lG,tracked ⟨oL,hoL,I.free⟩ hs,zub⟩ (cq hs eZ)
    . exact (hs.2 b (ZD (wR I.ok.above))).trans (I.base.keep b o e n hb hx)
    . show(mj,sl,e1,I.base.slot b o e n hb hx,sl,(hs.2 b (ZD (wR I.ok.above))).trans e1)
    . show(mj,o',e1,Oa,o',(hs.2 b (ZD (wR I.ok.above))).trans e1)
    . by_cases hj:j=i
      . show(ziu,.inl ⟨hk,aj⟩)
      . show(zmB,hl j y v' e1 e2 e3);rcases q with⟨k,e⟩|⟨k,c,e,z⟩
        . refine .inl (eS k)
          have:y≠x:=fun e=>hj (xlh hN e1 (e▸hi));simp[this,e]
        . show(fh,⟨k,c,e,zqQ⟩)
    . show(mj,w',z,I.cell y c e,w',zqQ)
    . obtain⟨e,n,ne,nf,d⟩:45:=S8
      exact(bO,(hs.2 aN ne).trans e,n,ne,nf,d)
  . have hfn:zex:=by
      rcases hf with z|z
      . exact z
      . ext cH z hk
    obtain⟨c,hc⟩:=I.ok.has x (.inl hk);obtain⟨w',z⟩:=I.cell x c hc;refine wpAny_storeName_cell I.ok.kind hk hc z (Mr hc');show(ae,oc,hoc,hocd,id z);refine h lv ⟨I.ok,I.os,I.bare,⟨fun b o e n hb hx=>?_,fun b o e n hb hx=>?_,I.base.free,HG,I.base.tups,I.base.frzs,I.base.tbls⟩,⟨m,hn.sameBut hs (Z2 (cne x c hc)),fun j y v' e1 e2 e3=>?_⟩,o4 y c',I.free,I.freeC,lG,tracked ⟨oc,hoc,I.freeC x c hc⟩ hs,zub⟩ ⟨c,hs,.inr hc⟩
    . exact (hs.2 b (ZD (wR (I.ok.cab x c hfn hc)))).trans (I.base.keep b o e n hb hx)
    . show(mj,sl,e1,I.base.slot b o e n hb hx,sl,(hs.2 b (ZD (wR (I.ok.cab x c hfn hc)))).trans e1)
    . show(mj,o',e1,Oa,o',(hs.2 b (ZD (wR (I.ok.cab x c hfn hc)))).trans e1)
    . by_cases hj:j=i
      . show(ziu,.inr ⟨.inl hk,c,hc,hc'⟩)
      . show(zmB,hl j y v' e1 e2 e3);rcases q with q|⟨k,c',e,z'⟩
        . ext cY q
        . show(uY,⟨k,c',e,z'.sameBut hs ?_⟩)
          rintro rfl;exact hj (xlh hN e1 (I.ok.inj _ _ _ e hc▸hi))
    . by_cases hcc:c'=c
      . subst hcc; exact gF hc'
      . show(mj,w2,z2,I.cell y c' e,w2,z2.sameBut hs hcc)
    . obtain⟨e,n,ne,nf,d⟩:45:=S8
      refine(bO,(hs.2 aN ?_).trans e,n,ne,nf,d);intro q;rw[q,hoc] at e;have q':oc=dG:=ZH.inj e;exact d w' (bJ q' hocd)
theorem xey {M:Model}{A:Around}{E:aT}{i:Nat}{x:Str}{v:V}{u:Value}{Q:wp} (I:aq) (hN:X.N.Nodup) (hi:rC) (hx:AH) (r:lI)
    (h:Rj (Gh oq H s')) (hf:Cv:=by first|ext wT|ext zY|ext cQ):wpAny M A zuy Q E s :=
  xks I hN hi hx r (fun s' I' _=>h s' I') hf
theorem Inv.call' {s':Shared}{ch:az} (I:aq) (ho:s'.os=s.os) (u:Un Bn ch H H' s.heap s'.heap) (hok:HOk X.prog X.w H' s'.heap) (hg:PB)
    (hch:Vn):vZ:=by
  obtain⟨h',g',d',t',o'⟩:=s';show(ut,o',s.os,ho);exact I.call (g':=g') (t':=t') (d':=d') u hok hg hch
#check _
noncomputable abbrev XK:=Addr->(nG Addr)
noncomputable abbrev St:=List bS
noncomputable abbrev VK:=uM
noncomputable abbrev TE:=St->rZ
noncomputable abbrev TT:=St->(sL wm)
noncomputable abbrev TA:=St->(sL zF)
structure Ends where
 nx:mR
 rt:VK
 bk:mR:=pP
 ct:mR:=pP
noncomputable abbrev TS:=Ends->mR
noncomputable def EP (X:Cx) (pins:aW) (Z:St) (Q:VK) (u:Value) (s':Shared):Prop:=∃ v H',vZ/\lI/\Ab
noncomputable def TP (X:Cx) (pins:aW) (Z:St) (Q:wm) (b:Bool) (s':Shared):Prop:=∃ H',vZ/\Q b H'
noncomputable def AP (X:Cx) (pins:aW) (Z:St) (Q:zF) (us:aQ) (s':Shared):Prop:=∃ vs H',vZ/\EM/\Q vs H'
noncomputable def SP (X:Cx) (pins:aW) (D:Ends) (f:Flow) (s':Shared):Prop :=
 match f with
 | .next=>(Kn,D.nx σ' H')
 | .brk=>(Kn,D.bk σ' H')
 | .cont=>(Kn,D.ct σ' H')
 | .ret u=>∃ v σ' H',zdT/\lI/\D.rt v H'
noncomputable def PE (X:Cx) (e:Expr) (t:TE):Prop :=
 (zme,aq->B4->wpAny aH X.A vO mo X.xe s)
noncomputable def PT (X:Cx) (e:Expr) (t:TT):Prop :=
 (M4,wm,aq->B4->wpAny aH X.A (isTrue e X.env vO) RE X.xe s)
noncomputable def PW (X:Cx) (e:Expr) (t:TT):Prop :=
 ∀(whole:Sem Value) (pins:aW) (s:Shared) (Z:St) (H:Hp) (Q:wm),aq->B4->wpAny aH X.A ztR RE X.xe s
theorem PW.pt {X:Cx}{e:Expr}{t:TT} (h:PW X e t):PT X e t:=h _
noncomputable def PA (X:Cx) (es:kG) (t:TA):Prop :=
 ∀(pos:Pos) (pins:aW) (s:Shared) (Z:St) (H:Hp) (Q:zF),aq->B4->wpAny aH X.A (spliced yW) (AP X pins Z Q) X.xe s
noncomputable def PS (X:Cx) (st:Stmt) (t:TS):Prop :=
 (ziX,wpAny aH X.A (exec st X.env) (SP X pins D) X.xe s)
noncomputable def PSs (X:Cx) (st:BJ) (t:TS):Prop :=
 (ziX,wpAny aH X.A (execs st X.env) (SP X pins D) X.xe s)
theorem thn {α:Type}{t:Sem α}{Q Q':dU α}{M:Model}{A:Around}{E:aT}{s:Shared} (h:wpAny M A t Q E s) (hQ:∀ a s,Q a s->Q' a s):wpAny M A t Q' E s:=zl h hQ x
section
variable {X:Cx}
theorem bin {a b:Expr}{ta tb:TE} (ha:qg) (hb:zk) {pins:aW}{s:Shared}{Z:St}{H:Hp}{R:V->uM} (I:aq) (h:znq)
    {α:Type}{Q:dU α}{f:Value->Value->Sem α}
    (hf:(zkA,wpAny aH X.A (f v u) Q X.xe s2)) :
    wpAny aH X.A Em (j9,s₁,wpAny aH X.A A7 (fun u s₂=>wpAny aH X.A (f v u) Q X.xe s₂) X.xe s₁) X.xe s:=by
  show(jH,ha pins s Z H _ I h,fun v s1 ⟨x,H1,I1,r1,q1⟩=>?_);show(jH,hb pins s1 Z H1 _ I1 q1,fun u s2 ⟨y,H2,I2,r2,q2⟩=>?_);exact hf v u s2 x y H2 I2 r1 r2 q2
@[reducible] def oV:(bX,Option (Option V),V->Prop)
 | some ff,k=>k v
 | _,_=>False
theorem xyq:∀{o:Option (Option V)}{k:V->Prop},oV o k->∃ v,(qC,o,ff,k v)
 | some ff,_,h=>jA v h
@[reducible] def iV:V->V->RY->Prop
 | cO,zZ,k=>k i j
 | _,_,_=>False
theorem xo2:∀{x y:V}{k:RY},iV x y k->∃ i j,(bc,x,cO,y=zZ,k i j)
 | cO,zZ,_,h=>eD i j rfl h
@[reducible] def lV:bX ag (bX V ag)
 | vc,k=>k v r
 | [],_=>False
theorem xtr:∀{l:ag}{k:bX V ag},lV l k->∃ v r,l=vc/\k v r
 | vc,_,h=>bK v r rfl h
@[reducible] def nV:bX ag Prop
 | [],p=>p
 | b5,_=>False
theorem xth:∀{l:ag}{p:Prop},nV l p->l=[]/\p
 | [],_,h=>dC h
@[reducible] def tVar (i:Nat) (Z:St) (H:Hp) (Q:VK):Prop:=oV Z[i]? fun v=>Q v H
@[reducible] def tC (v:V):TE:=(Fw,Q v H)
theorem xxf {i:Nat}{x:Str}{pos:Pos} (hN:rC) (hv:zbZ) (hd:nQ:=by decide) (hcd:zpx:=by decide):PE X tJ (tVar i):=by
 intro pins s Z H Q I h;show(ae,v,e,h,xyq h);ext zdW
 show(ae,u,r,l,hl i x v hN e hv);have fin:EP X pins Z Q u s:=zdB
 rcases l with⟨hk,hm⟩|⟨hk,c,hc,hcell⟩
 .exact wpAny_Name (znj fin) hd
 .rcases hk with hk|hk
  .exact wpAny_Name (zmJ fin) hd
  .exact wpAny_Name (wpAny_loadName_free I.ok.kind hk hc hcell fin hcd) hd
theorem xo {i j pos}:zcn cO (tC (.int i)):=(DR,wpAny_Constant_int (bv cO H i0 gf h))
theorem xbs {b j pos}:zcn (.bool b) (tC (.bl b)):=(DR,Constant_bool (dY xL H I h))
theorem xcx {j pos}:PE X (.Constant .none j pos) (tC .non):=(DR,Constant_none (dY .non H I h))
theorem xbr {x j pos}:zcn lR (tC (.str x)):=(DR,Calls.Constant_str (bv lR H i0 gf h))
noncomputable def Gl (X:Cx) (x:Str):Prop:=X.env.kindOf x=some .globalImplicit
theorem xhl {E:aT}{pins:aW}{s:Shared}{Z:St}{H:Hp}{x:Str}{u:Value}{pos:Pos}{Q:aT} (I:aq) (hg:r8) (hm:A6 u) (h:Q u s)
    (hd:nQ:=by decide):wpAny aH X.A (im tJ) Q E s :=
  Calls.Name_function_global I.ok.kind hg (Calls.loadGlobal_global zkv hm h) hd
theorem xcr {E:aT}{pins:aW}{s:Shared}{Z:St}{H:Hp}{x:Str}{u:Value}{pos:Pos}{Q:aT} (I:aq) (hg:r8) (hm:qj x) (hv:Op u) (h:Q u s)
    (hn:Ik:=by decide) (hd:nQ:=by decide):wpAny aH X.A (im tJ) Q E s:=by
  show(ae,mb,h1,h2,I.mod.blt)
  exact Calls.Name_function_global I.ok.kind hg (Calls.loadGlobal_builtin zkv hm (by rw[I.ok.blt]; exact h1.keeps I.bk) ((h2 x hn).trans hv) h) hd
theorem xho {x:Str}{v:V}{u:Value}{pos:Pos} (hg:r8) (hm:A6 u) (r:lI) (hd:nQ:=by decide):PE X tJ (tC v) :=
 (DR,xhl I hg hm zdB hd)
theorem xch {x:Str}{v:V}{u:Value}{pos:Pos} (hg:r8) (hm:qj x) (hv:Op u) (r:lI) (hn:Ik:=by decide) (hd:nQ:=by decide):PE X tJ (tC v) :=
 (DR,xcr I hg hm hv zdB hn hd)
variable {a b:Expr}{ta tb:TE}{pos:Pos}
noncomputable def PC (X:Cx) (op:CmpOp) (a b:Expr) (t:TE):Prop :=
 ∀(pins:List (Addr × Obj)) (s:Shared) (Z:St) (H:Hp) (Q:VK),aq->B4 ->
  wpAny aH X.A Em (j9,s₁,wpAny aH X.A A7 (fun u s₂=>wpAny aH X.A (compareOp op v u) mo X.xe s₂) X.xe s₁) X.xe s
theorem xlp (b:Expr) {op:CmpOp} (h:op≠.In) (h2:op≠.NotIn):De:=by
 show(qe,e1,op,CmpOp.In,by cases op<;>first|rfl|ext j4 h)
 show(qe,e2,op,CmpOp.NotIn,by cases op<;>first|rfl|ext j4 h2)
 ext zqG
inductive tB_i (x:V) (H1:Hp) (Q:wm):Prop
 | mk (c) (e_:x=.bl c) (r_:Q c H1)
noncomputable def tB (t:TE):TT:=(i9,Q,t Z H fun x H1=>tB_i x H1 Q)
theorem xv9 {op:CmpOp}{t:TE} (h:PC X op a b t) (h1:De:=by first|exact xlp _ ao ao|rfl):PE X NV t:=fun pins s Z H Q I hw=>wpAny_Compare1 (h pins s Z H Q I hw) h1
theorem xcz {op:CmpOp}{t:TE} (h:PC X op a b t) (h1:De:=by first|exact xlp _ ao ao|rfl):PT X NV (tB t):=by
 intro pins s Z H Q I hw;refine wpAny_isTrue_Compare1 (thn (h pins s Z H _ I hw) fun v s1 h1=>thn h1 fun u s2 h2=>thn h2 fun c s3 ⟨x,H1,I1,r1,q1⟩=>?_) h1;ext zrt
theorem xa2 {e:Expr}{t:TE} (h:PE X e t) (he:∀ whole,ztR=(do let v <- whole; standAt e.pos; holding [v] (truthy v)):=by ext CG):PT X e (tB t):=by
 intro pins s Z H Q I hw;refine isTrue_plain (thn (h pins s Z H _ I hw) fun v s1 ⟨x,H1,I1,r1,q1⟩=>?_) (he _);ext zrt
variable {tA tB':TT}{rest:List Expr}
noncomputable def tAnd (t u:TT):TT:=yk c (cM,c,u Z H1 Q,Q false H1)
noncomputable def tOr (t u:TT):TT:=yk c (cM,c,Q true H1,u Z H1 Q)
noncomputable def tNot (t:TT):TT:=(yk,c,Q (! c) H1)
theorem xf1 (ha:KY):D7 .And [a] tA:=by
 intro wh pins s Z H Q I h;refine isTrue_and (thn (ha pins s Z H Q I h) (df c s1 ?_));cases c with
 | true=>exact isTrue_and_nil e
 | false=>exact e
theorem xb7 (ha:KY):D7 .Or [a] tA:=by
 intro wh pins s Z H Q I h;refine isTrue_or (thn (ha pins s Z H Q I h) (df c s1 ?_));cases c with
 | false=>exact isTrue_or_nil e
 | true=>exact e
theorem xe6 (ha:KY) (hb:D7 .And Fy tB'):D7 .And (a::Fy) (tAnd tA tB'):=by
 intro wh pins s Z H Q I h;refine isTrue_and (thn (ha pins s Z H _ I h) (tT c s1 H1 I1 q1));cases c with
 | true=>exact hb wh pins s1 Z H1 Q I1 q1
 | false=>ext aJ H1 I1 q1
theorem xce (ha:KY) (hb:D7 .Or Fy tB'):D7 .Or (a::Fy) (tOr tA tB'):=by
 intro wh pins s Z H Q I h;refine isTrue_or (thn (ha pins s Z H _ I h) (tT c s1 H1 I1 q1));cases c with
 | true=>ext aJ H1 I1 q1
 | false=>exact hb wh pins s1 Z H1 Q I1 q1
theorem xbl (ha:KY):PT X zuX (tNot tA):=by
 intro pins s Z H Q I h;exact isTrue_not (ha pins s Z H (fun c H1=>Q (! c) H1) I h)
inductive xvb (tb:TE) (Z:St) (x:V) (H1:Hp) (Q:VK):Prop
 | mk (c) (e_:x=.bl c) (r_:(cM,c,tb Z H1 Q,Q (.bl false) H1))
noncomputable def xyy (ta tb:TE):TE:=(xX,xvb tb Z x H1 Q)
inductive xvf (x:V) (H1:Hp) (Q:VK):Prop
 | mk (c) (e_:x=.bl c) (r_:Q (.bl (! c)) H1)
noncomputable def xy7 (ta:TE):TE:=(xX,xvf x H1 Q)
theorem xes {op}{t:TE} (h:PE X a t):zgL op [a] t:=fun pins s Z H Q I hw=>BoolOp_one (h pins s Z H Q I hw)
theorem xc7 (ha:qg) (hb:zgL .And Fy tb):zgL .And (a::Fy) (xyy ta tb):=by
 intro pins s Z H Q I h;refine BoolOp_and (thn (ha pins s Z H _ I h) fun v s1 ⟨x,H1,I1,r1,q1⟩=>?_);ext zcA c q1;refine Yk ?_;cases c with
 | true=>exact hb pins s1 Z H1 Q I1 q1
 | false=>exact dY T4 H1 I1 q1
theorem xqt (ha:qg):PE X zuX (xy7 ta):=by
 intro pins s Z H Q I h;refine UnaryOp_ (thn (ha pins s Z H _ I h) fun v s1 ⟨x,H1,I1,r1,q1⟩=>?_);ext zcA c q1;exact not_of (Yk (dY,.bl (! c),H1,I1,q1))
noncomputable def tIf (t:TT) (ta tb:TE):TE:=yk c (cM,c,ta Z H1 Q,tb Z H1 Q)
theorem xib {c:Expr} (hc:PT X c tA) (ha:qg) (hb:zk):PE X (.IfExp c a b pos) (tIf tA ta tb):=by
 intro pins s Z H Q I h;refine wpAny_IfExp (thn (hc pins s Z H _ I h) (tT d s1 H1 I1 q1));cases d with
 | true=>exact ha pins s1 Z H1 Q I1 q1
 | false=>exact hb pins s1 Z H1 Q I1 q1
#check _
noncomputable def SqL (K:Zf) (H:Hp) (a:Addr) (xs:ag):Prop :=
 Rd H a (.lst xs) \/
  (zua,zte/\(zju,o.cls=Bp,zgt))
noncomputable def SqT (K:Zf) (H:Hp) (a:Addr) (xs:ag):Prop :=
 Rd H a (.tup xs) \/
  (zua (zju,zte,o.cls=zfm))
noncomputable def absV:Value->(dc V)
 | .none=>some .non
 | .bool b=>some xL
 | .int i _=>aX i
 | .str x _=>ii x
 | .bytes b _=>some (.byt b)
 | .float b _=>some (.flt b)
 | aB=>cV
 | fU n=>some (.ty n)
 | _=>none
theorem RelV.abs {x:V}{u:Value} (r:oC):absV u=some x:=by
 cases x with
 | non=>ext jM r
 | bl _=>ext jM r
 | int _=>ext Ft
 | str _=>ext Ft
 | byt _=>ext Ft
 | flt _=>ext Ft
 | ref _=>ext jM r
 | ty _=>ext jM r
theorem RelV.inj {x y:V}{u:Value} (r:oC) (q:hJ):x=y:=ZH.inj (r.abs.symm.trans q.abs)
theorem Vals.inj:∀{xs ys:ag}{us:aQ},ku->Vals ys us->xs=ys
 | _,_,_,.nil,.nil=>rfl
 | _,_,_,ue,d4 r' t'=>(cA,r.inj r',Vals.inj t t')
section
variable {X:Cx}{pins:List (Addr × Obj)}{Z:St}{H:Hp}{s:Shared}{a:Addr}{xs ys:List V}
theorem SqL.of {K:Zf} (h:yU a):re:=.inl (.inl h)
theorem SqT.of {K:Zf} (h:gZ a xs):IM:=.inl (.inl h)
theorem Inv.list (I:aq) (h:SqL X.K H a xs):∃ its:aQ,yX/\PlainL s.heap a its.toArray/\vC:=by
 rcases h with h|⟨o,its,n,hk,hc,hd,hs,hz,r⟩
 .obtain ⟨z,its,n,r,e⟩:=h.ok I.hok;exact ba its r ⟨84,_,n,e,rfl,rfl,rfl⟩ z
 .show(zjm,⟨84,o,n,I.kIn a o hk,hc,hd,by simpa using hs⟩)
theorem Inv.tuple (I:aq) (h:SqT X.K H a xs):∃ its:aQ,yX/\IsTup s.heap a its.toArray/\vC:=by
 rcases h with h|⟨o,its,n,hk,hc,hs,hz,r⟩
 .obtain ⟨z,its,r,p⟩:=h.ok I.hok;exact ba its r p z
 .show(zjm,(ba,o,I.kIn a o hk,hc,⟨n,by simpa using hs⟩))
theorem Inv.list_inj (I:aq) (h:SqL X.K H a xs) (h':SqL X.K H a ys):xs=ys:=by
 obtain⟨its,r,⟨o,n,e,_,_,d⟩,_⟩:63:=I.list h;obtain⟨its',r',⟨o',n',e',_,_,d'⟩,_⟩:63:=I.list h';ext zhj
theorem Inv.tuple_inj (I:aq) (h:SqT X.K H a xs) (h':SqT X.K H a ys):xs=ys:=by
 obtain⟨its,r,⟨o,e,_,n,d⟩,_⟩:63:=I.tuple h;obtain⟨its',r',⟨o',e',_,n',d'⟩,_⟩:63:=I.tuple h';ext zhj
#check _
noncomputable abbrev Cx.wish (X:Cx) (E:aT):Cx:={ X with xe:=E }
noncomputable abbrev Cx.nox (X:Cx):Cx:=X.wish pP
theorem Cx.Ok.wish {X:Cx} (ok:X.Ok) (E:aT):(Lf).Ok :=
 ⟨ok.mod,ok.kind,ok.glob,ok.blt,ok.above,ok.inj,ok.has,ok.cab,ok.hd,ok.frames,ok.stk,ok.exf,ok.bs,ok.bsz,ok.noex,ok.exfs,ok.funs,ok.frf⟩
theorem Cx.Ok.unwish {X:Cx}{E:aT} (ok:(Lf).Ok):X.Ok :=
 ⟨ok.mod,ok.kind,ok.glob,ok.blt,ok.above,ok.inj,ok.has,ok.cab,ok.hd,ok.frames,ok.stk,ok.exf,ok.bs,ok.bsz,ok.noex,ok.exfs,ok.funs,ok.frf⟩
section
variable {X:Cx}{pins:List (Addr × Obj)}{Z:St}{H:Hp}{s:Shared}{E:Value->Shared->Prop}
theorem Inv.wish (I:aq) (E:aT):Inv Lf pins Z H s:=⟨I.ok.wish E,I.os,I.bare,I.base,I.loc,I.cell,I.free,I.freeC,I.pin,I.hok,I.len⟩
theorem Inv.unwish (I:Inv Lf pins Z H s):aq:=⟨I.ok.unwish,I.os,I.bare,I.base,I.loc,I.cell,I.free,I.freeC,I.pin,I.hok,I.len⟩
theorem SP.unwish {D:Ends}{f:Flow}{s':Shared} (h:SP Lf pins D f s'):SP X pins D f s':=by
 cases f with
 | next=>ext VG
 | brk=>ext VG
 | cont=>ext VG
 | ret u=>obtain⟨v,σ',H',I,r,q⟩:103:=h; exact⟨103,v,σ',H',I.unwish,r,q⟩
theorem PSs.nox {st:BJ}{t:TS} (h:PSs X.nox st t):PSs X st t:=fun pins s Z H D I hw =>
 Ja (h pins s Z H D (I.wish _) hw) (fun _ _ q=>q.unwish) (B3,Yn z)
#check _
section
variable {X:Cx}{st:Stmt}{rest:List Stmt}{t u:TS}{e:Expr}{te:TE}{pos:Pos}
noncomputable def xx6:TS:=lJ zy
noncomputable def tSeq (t u:TS):TS:=(lJ,t Ht Z H)
theorem x9:PSs X [] xx6:=fun _ _ Z H _ I h=>Wp (bK Z H I h)
theorem xh (h1:Tu) (h2:PSs X rest u):PSs X (st::rest) (tSeq t u):=by
 intro pins s Z H D I h;show(zql,h1 pins s Z H Ht I h);cases f with
 | next =>
  show(iF,σ',H',I',q,q);exact h2 pins s1 σ' H' D I' q
 | ret v=>exact q
 | brk=>exact q
 | cont=>exact q
theorem xm (h1:Tu):PSs X [st] t:=by
 intro pins s Z H D I h;show(zql,h1 pins s Z H D I h);cases f with
 | next=>exact Wp q
 | ret v=>exact q
 | brk=>exact q
 | cont=>exact q
theorem Inv.quiet {pins:aW}{Z:St}{H:Hp}{s:Shared} (I:aq):interactive X.env=false:=by simp[interactive,I.ok.kind]
noncomputable def xyj (te:TE):TS:=(lJ,te Z H fun _ H1=>D.nx Z H1)
theorem xam (he:tW) (hs:GA e none:=by rfl):PS X (.Expr e pos) (xyj te):=by
 intro pins s Z H D I h;exact wpAny_Expr_any (thn (he pins s Z H _ I h) fun v s1 ⟨x,H1,I1,r1,q1⟩=>bK Z H1 I1 q1) I.quiet hs
noncomputable def tRet (te:TE):TS:=(lJ,te Z H D.rt)
theorem xz (he:tW):PS X (.Return (some e) pos) (tRet te):=by
 intro pins s Z H D I h;exact wpAny_Return_some (thn (he pins s Z H _ I h) fun v s1 ⟨x,H1,I1,r1,q1⟩=>⟨103,x,Z,H1,I1,r1,q1⟩)
noncomputable def tIfS (c:TT) (t u:TS):TS:=(lJ,c Z H fun b H1=>(cM,b,t D Z H1,u D Z H1))
theorem xai {c:Expr}{a b:BJ}{tc:TT} (hc:PT X c tc) (ha:PSs X a t) (hb:PSs X b u):PS X (.If c a b pos) (tIfS tc t u):=by
 intro pins s Z H D I h;refine wpAny_If (thn (hc pins s Z H _ I h) (tT d s1 H1 I1 q1));cases d with
 | true=>exact ha pins s1 Z H1 D I1 q1
 | false=>exact hb pins s1 Z H1 D I1 q1
noncomputable def xws:TS:=HL
theorem xbn:PS X st xws:=fun _ _ _ _ _ _ h=>h.elim
#check _
noncomputable abbrev TG:=V->St->(sL mR)
noncomputable abbrev TGs:=ag->St->(sL mR)
noncomputable def PG (X:Cx) (target:Expr) (t:TG):Prop :=
 ∀(pins:aW) (s:Shared) (Z:St) (H:Hp) (v:V) (u:Value) (Q:mR),aq->lI->t v Z H Q ->
  wpAny aH X.A (assign target X.env u) zqy X.xe s
noncomputable def PGs (X:Cx) (ts:kG) (t:TGs):Prop :=
 ∀(pins:aW) (s:Shared) (Z:St) (H:Hp) (vs:ag) (us:aQ) (Q:mR),aq->EM->t vs Z H Q ->
  wpAny aH X.A (assignInOrder ((Ef ts).map (·.2)) us) zqy X.xe s
noncomputable abbrev TSet:=bq V V V (sL BV)
noncomputable def PSet (X:Cx) (t:TSet):Prop :=
 ∀(pins:aW) (s:Shared) (Z:St) (H:Hp) (o i v:V) (ov iv u:Value) (Q:BV),aq->RelV o ov->RelV i iv->lI->t o i v H Q ->
  wpAny aH X.A (setItem ov iv u) (fun _ s'=>∃ H',vZ/\Q H') X.xe s
noncomputable abbrev TIp:=Ky
noncomputable def PIp (X:Cx) (op:Operator) (t:TIp):Prop :=
 ∀(pins:List (Addr × Obj)) (s:Shared) (Z:St) (H:Hp) (x y:V) (v u:Value) (Q:VK),Inv X pins Z H s->RelV x v->RelV y u->t x y H Q ->
  wpAny aH X.A (inplaceOp op v u) mo X.xe s
section
variable {X:Cx}{pos:Pos}
@[reducible] def xcn (i:Nat):TG:=fun v Z H Q=>Q oq H
theorem xg9 {i:Nat}{x:Str} (hN:X.N.Nodup) (hi:rC) (hx:AH) (hf:Cv:=by first|ext wT|ext zY|ext cQ):PG X tJ (xcn i):=by
 intro pins s Z H v u Q I r h;exact wpAny_assign_Name (xey I hN hi hx r (fun s' I'=>bK _ H I' h) hf)
@[reducible] def gNil:TGs:=fun vs Z H Q=>nV vs (Q Z H)
@[reducible] def xoh (t:TG) (u:TGs) (vs:ag) (Z:St) (H:Hp) (Q:mR):Prop:=lV vs (j9,r,t v Z H (rN,u r σ' H' Q))
theorem xa1:PGs X [] gNil:=by
 intro pins s Z H vs us Q I r h;show(Cm,h,xth h);ext dw;cases r;exact assignInOrder_nil (bK Z H I h)
theorem xt {e:Expr}{es:kG}{t:TG}{u:TGs} (h1:PG X e t) (h2:PGs X es u)
    (hs:(Ef nF).map (·.2)=assign e X.env::(Ef es).map (·.2):=by rfl):PGs X nF (xoh t u):=by
  intro pins s Z H vs us Q I r h;show(iF,v,vr,e1,h,xtr h);subst e1;cases r with
  | cons r rr =>
    rw[hs];refine assignInOrder_cons (thn (h1 pins s Z H _ _ _ I r h) fun _ s1 ⟨σ1,H1,I1,q1⟩=>?_);exact h2 pins s1 σ1 H1 _ _ Q I1 rr q1
inductive gTup (K:Zf) (n:Nat) (t:TGs) (v:V) (Z:St) (H:Hp) (Q:mR):Prop
 | mk (a xs) (e_:v=aB) (r_:IM/\xs.length=n/\t xs Z H Q)
theorem xbc {es:kG}{k:Nat}{t:TGs}{n:Nat} (hc:fX) (h:PGs X es t)
    (hn:(Ef es).length=n:=by rfl) (hst:(Ef es).findIdx? (·.1)=none:=by rfl):PG X (.Tuple es k pos) (gTup X.K n t):=by
  intro pins s Z H v u Q I r hw;obtain⟨a,xs,e1,hq,hl,hw⟩:=hw;subst e1;cases r;show(j7,rv,ht,hz,I.tuple hq);refine assign_Tuple_tuple gU ht (by simp[hn,<- hl,rv.length]) hst (au h' hx);show(lW,I1,ia lv,I.kept (t':=s.toks) (sF,hx b o (ZD (Zv e)) e),h pins _ Z H xs _ Q I1 (by simpa using rv) hw)
noncomputable def gSub (to ti:TE) (t:TSet):TG:=fun v Z H Q=>to Z H fun o H1=>ti Z H1 fun i H2=>t o i v H2 fun H3=>Q Z H3
theorem xfv {o i:Expr}{to ti:TE}{t:TSet} (ho:tX) (hi:PE X i ti) (hs:PSet X t)
    (ha:∀ v,assign (.Subscript o i pos) X.env v=(do
      let ov <- holding [v] (eval o X.env)
      let iv <- holding [v,ov] (eval i X.env)
      standAt pos
      holding [v,ov,iv] (setItem ov iv v)
      release [v,ov,iv] []):=by ext CG):PG X (.Subscript o i pos) (gSub to ti t):=by
  intro pins s Z H v u Q I r h;rw[ha];show(ME,(thn (ho pins s Z H _ I h) fun ov s1 ⟨x,H1,I1,r1,q1⟩=>?_));show(ME,(thn (hi pins s1 Z H1 _ I1 q1) fun iv s2 ⟨y,H2,I2,r2,q2⟩=>?_));refine Zc (WD (Zc (ZZ (thn (hs pins s2 Z H2 x y v ov iv u _ I2 r1 r2 r q2) fun _ s3 ⟨H3,I3,q3⟩=>?_))));exact wpAny_release (bK Z H3 I3 q3)
noncomputable def tAsg (te:TE) (g:TG):TS:=(lJ,te Z H fun x H1=>g x Z H1 D.nx)
theorem xbq {tg e:Expr}{te:TE}{g:TG} (he:tW) (hg:PG X tg g) (hs:znd [tg] e:=by rfl) (hw:swappedStores [tg] e X.env=pure none:=by rfl)
    (h1:(Ef [tg]).map (·.2)=[assign tg X.env]:=by rfl):HS tg e (tAsg te g):=by
  intro pins s Z H D I h;refine wpAny_Assign_stores (thn (he pins s Z H _ I h) fun v s1 ⟨x,H1,I1,r1,q1⟩=>?_) hs hw;show(aK,h1,thn (hg pins s1 Z H1 x v _ I1 r1 q1) fun _ s2 q=>q)
theorem xee {i:Nat}{x:Str}{e:Expr}{te:TE}{pos':Pos} (hN:X.N.Nodup) (hi:rC) (hx:AH) (he:tW) (hs:GA e (some Sh):=by rfl) (hf:Cv:=by first|ext wT|ext zY|ext cQ) :
    zpl:=by
  intro pins s Z H D I h;refine wpAny_Assign_Name (thn (he pins s Z H _ I h) fun v s1 ⟨y,H1,I1,r1,q1⟩=>?_) hs;exact xey I1 hN hi hx r1 (fun s2 I2=>bK _ H1 I2 q1) hf
noncomputable def tPar (i j:Nat) (ta:TA):TS:=(lJ,ta Z H fun vs H1=>∃ v w,vs=[v,w]/\D.nx ((oq).set j (some w)) H1)
theorem xwq {i j:Nat}{x y:Str}{a b:Expr}{ta:TA}{px py pt:Pos}{kt k2 pt2} (hc:fX) (hN:X.N.Nodup) (hi:rC) (hj:bQ X.N y) (hij:i≠j)
    (hx:zkW) (hy:VB) (ha:PA X [a,b] ta)
    (hw:swappedStores [WY] zaV X.env=pure (some [x,y]))
    (hs:znd [WY] zaV:=by rfl) :
    HS WY zaV (tPar i j ta):=by
  intro pins s Z H D I h;rw[exec_Assign_arm];refine Zc (WD ?_);rw[hs];ext vI;rw[ay ao];refine Zc (Tuple_ (thn (ha _ pins s Z H _ I h) fun us s1 ⟨vs,H1,I1,r1,q1⟩=>?_));ext iF v w e1 q1 q1;subst e1;obtain⟨u1,u2,rfl,rv,rw'⟩:∃ u1 u2,(bc,us,[u1,u2],RelV v u1,RelV w u2):=by
    cases r1 with
    | cons p q =>
      cases q with
      | cons p' q' =>
        cases q';exact eD _ _ p p'
  refine JW ?_ (HR 2);show(IR,{ s1 with heap:=s1.heap.push (eg,"tuple",.seq [u1,u2].toArray) });rw[hw];ext vI;show wpAny aH X.A (do rule "assign.swapped-stores"; let items <- unpackItems zsF 2 none; ziD items.reverse; pure Flow.next) _ _ _;show(br,(wpAny_rule (Zc (unpackItems_tuple (items:=#[u1,u2]) gU (IsTup.new s1.heap _) (au h' hx')))));have I3:=I2.kept (h':=h') (t':=s1.toks) (sF,hx' b o (ZD (Zv e)) e);show wpAny _ _ ((ziD [u2,u1])>>=fun _=>pure Flow.next) _ _ _;show(br,assignInOrder_cons (wpAny_bindName (xey I3 hN hj (.inl hy) rw' (au s2 I4) (.inr hy))));refine assignInOrder_cons (wpAny_bindName (xey I4 hN hi (.inl hx) rv (fun s3 I5=>assignInOrder_nil (Zk ?_)) (.inr hx)));rw[List.set_comm _ _ (Z2 hij)] at I5;exact bK _ H1 I5 q1
noncomputable def tAug (i:Nat) (te:TE) (ti:TIp):TS:=(lJ,∃ x,(aF Z (some x))/\te Z H fun y H1=>ti x y H1 fun z H2=>D.nx (Z.set i (some z)) H2)
theorem xvs {i:Nat}{x:Str}{e:Expr}{te:TE}{op:Operator}{ti:TIp}{pos':Pos} (hN:X.N.Nodup) (hi:rC) (hx:AH) (he:tW) (ho:PIp X op ti) (hf:Cv:=by first|ext wT|ext zY|ext cQ) :
    PS X (.AugAssign Sh op e pos) (tAug i te ti):=by
  intro pins s Z H D I h;ext ae v e1 h h;ext zdW
  have vis:Vis X.env.scope x:=by rcases hx with k|k; exact .inl k; exact .inr (.inl k)
  show(ae,u,r,l,hl i x v hi e1 vis);refine wpAny_AugAssign_Name ?_;have go:wpAny aH X.A vO (fun w s₂=>wpAny aH X.A (inplaceOp op u w) (fun r s₃=>wpAny aH X.A (storeName X.env x r) (fun _=>SP X pins D .next) X.xe s₃) X.xe s₂) X.xe s:=by
    show(jH,he pins s Z H _ I h,fun w s1 ⟨y,H1,I1,r1,q1⟩=>?_);show(jH,ho pins s1 Z H1 v y u w _ I1 r r1 q1,fun z s2 ⟨zv,H2,I2,r2,q2⟩=>?_);exact xey I2 hN hi hx r2 (fun s3 I3=>bK _ H2 I3 q2) hf
  rcases l with⟨hk,hm⟩|⟨hk,c,hc,hcell⟩
  . exact znj go
  . rcases hk with hk|hk
    . exact zmJ go
    . rcases hx with k|k
      . ext zjN
      . ext zjN
#check _
section
variable {X:Cx}{pos:Pos}
noncomputable def xg0 (c:TT) (tb:TS):TS:=fun D Z H=>∃ W:FD,(∃ m,W m Z H)/\∀ m Z H,W m Z H ->
 c Z H fun b H1=>(cM,b,(zrj,(zp,m,W m' σ' H'),tb (zaw N) Z H1),D.nx Z H1)
theorem xe5 {c:Expr}{body:BJ}{tc:TT}{tb:TS} (hp:zpi) (hc:PT X c tc) (hb:PSs X body tb):PS X (.While c body [] pos) (xg0 tc tb):=by
 intro pins s Z H D I h;obtain⟨W,⟨m0,w0⟩,turn⟩:62:=h;refine wpAny_While (codeAny_whileLoop (nI n (Kn,W n σ' H')) ?_ m0 (bK Z H I w0));rintro n s1 (⟨σ1,H1,I1,w1⟩:82);show(EE,hc pins s1 σ1 H1 _ I1 (turn n σ1 H1 w1),tT b s2 H2 I2 q2);cases b with
 | true =>
  ext ae N hN q2 q2;show(nK,bW,YG hp (thn (hb pins s2 σ1 H2 _ I2 q2) (aL f s3 q3)));cases f with
  | next =>
   ext zhU
  | cont =>
   ext zhU
  | brk=>exact q3
  | ret v=>exact q3
 | false =>
  rw[ay Z7];exact Wp (bK σ1 H2 I2 q2)
#check _
structure It where
 go:nG Nat
 yld:Nat->Hp->uM
 stop:nG Nat
noncomputable def FpOk (X:Cx) (pins:aW) (H:Hp) (b:Addr):Prop :=
 dN/\(ax AM UJ (b∈X.ex\/(yh b)) (yB b) (Ip b))
theorem Inv.fpOk {X:Cx}{pins:aW}{Z:St}{H H':Hp}{s:Shared}{b:Addr} (I:aq) (hb:AS b) (hn:Bq):FpOk X pins H' b:=by
 refine⟨46,hn,Qj (Z5 I.lt hb),I.nofs hb,.inr (ZJ I.sz hb),cu x c e z,aL p hp z⟩
 .obtain ⟨v,q⟩:=R8;show(wC,Z5 q.lt (aD z hb))
 .show(wC,Z5 (Zv (I.pin p hp).1) (aD z hb))
structure Turn (P:Program) (w:World) (K:Zf) (tg:Expr) (J:It) (fp:az) (it:Addr) (tn:bX Nat Heap):Prop where
 mem:it∈fp
 obj:∀ i h,tn i h->∀ b∈fp,(WX sV)
 keep:∀ i h h',tn i h->(∀ b∈fp,∀ o,sV->ye)->tn i h'
 item:∀(X:Cx),X.prog=P->X.w=w->X.K=K->X.calm=true->∀(i:Nat) (pins:List (Addr × Obj)) (s:Shared) (Z:St) (H:Hp) (E:Value->Shared->Prop),aq->Cw->zgm->J.go i H ->
  wpAny zm X.A rL (fun r s1=>∃ u,r=some u /\
   wpAny zm X.A zrx (fun _ s2=>∃ x H',(ax,b8 H' s2,oC,J.yld i H x H',tn aM s2.heap,IC)) E s1) E s
 done:∀(X:Cx),X.prog=P->X.w=w->X.K=K->X.calm=true->∀(i:Nat) (pins:List (Addr × Obj)) (s:Shared) (Z:St) (H:Hp) (E:Value->Shared->Prop),aq->Cw->zgm->J.stop i H ->
  wpAny zm X.A rL (fun r s1=>r=none/\(ia s1)) E s
 self:∀(A:Around) (i:Nat) (s:Shared) (Q:aT) (E:aT),zgm->Q mS s->wpAny zm A (pyIter mS) Q E s
noncomputable abbrev TI:=St->(sL LZ)
noncomputable def PIE (X:Cx) (pins:aW) (Z:St) (tg:Expr) (R:LZ) (itv:Value) (s2:Shared):Prop :=
 ∃(it:Addr) (fp:az) (tn:bX Nat Heap) (J:It) (H':Hp),itv=mS/\(ax,b8 H' s2,Turn X.prog X.w X.K tg J fp it tn,tn 0 s2.heap,N2 H',R J H')
noncomputable def PI (X:Cx) (tg iter:Expr) (wi:TI):Prop :=
 ∀(pins:aW) (s:Shared) (Z:St) (H:Hp) (R:LZ),aq->wi Z H R ->
  wpAny aH X.A TQ (j9,s1,wpAny aH X.A (pyIter v) zbL X.xe s1) X.xe s
theorem xg6 {M:Model}{A:Around}{E:aT}{s:Shared}{tg:Expr}{it:Addr}{u:Value}{o:Obj}{n:String}{vs:gS}{Q:wp} (ho:vx it o) (hc:o.cls=(fU n)) (hd:Ul o.data)
    (hn:["enumerate", "zip", "dict_itemiterator", "dict_reverseitemiterator", "odict_iterator", "itertools.zip_longest", "itertools.pairwise"].contains n=false) (hQ:Q () s):wpAny M A zrx Q E s:=by
  unfold letOwnedTupleGo;cases tg<;>first
    | exact Zk hQ
    | (cases u<;>first
        | exact Zk hQ
        | (show(br,wpAny_load ho ?_)
           rw[hc,hd];show wpAny M A (cM (["enumerate", "zip", "dict_itemiterator", "dict_reverseitemiterator", "odict_iterator", "itertools.zip_longest", "itertools.pairwise"].contains n&&(CN,vs[0]?,rawInt _)) _ _) Q E s;rw[ay (by intro h; rw[hn,Yi] at h; cases h)];exact Zk hQ))
noncomputable def Itl (K:Zf) (a:Addr):It :=
 (NM,∃ xs x,re/\rK,x,H'=H/\∀ xs,re->rK,zqm)
noncomputable def Itr (lo:Int) (n:Nat):It:=zjB zfU
theorem xp4 {P:Program}{w:World}{K:Zf}{tg:Expr} (a it:Addr):Turn P w K tg zA sN it (qL,h.IsListIter it a i) where
 mem:=aj
 obj:=fun i h st b hb=>by
  ext zkP st
 keep:=(RR,st.at (CS,k it aj o e))
 item:=by
  intro X hP hw hK hc i pins s Z H E I hf st hg;ext jr;ext iF xs x hq hx hg;show(j7,rv,p,hz,I.list hq);show(ae,u,hu,ru,rv.get hx);obtain⟨f0,f1,f2,f3,f4,f5⟩:46:=kK;refine wpAny_pyNext_list_item st p.isList (x:=u) (by simpa using hu) (aL h' st' sb);have I1:ia lv:=I.turned (t':=s.toks) (lK,hb,(sb.2 b hb).trans e) f0 f1 f3 f4 f5;show(b9,o,e,c,d,id st');show(qJ,u,xg6 (s:=lv) e c d ao ⟨85,x,H,I1,ru,(dC,fun ys hy=>(aD,I.list_inj hy hq,hx)),st',E0⟩)
 done:=by
  intro X hP hw hK hc i pins s Z H E I hf st hg;ext jr;ext ae xs hq hx hg;show(j7,rv,p,hz,I.list hq);obtain⟨f0,f1,f2,f3,f4,f5⟩:46:=kK;have hl:=rv.length;exact wpAny_pyNext_list_end gU st p.isList iD (yG,I.turned (t':=s.toks) vk f0 f1 f3 f4 f5)
 self:=fun _ _ _ _ _ st h=>wpAny_pyIter_listiter st h
theorem xo4 {P:Program}{w:World}{K:Zf}{tg:Expr} (it:Addr) (lo:Int) (n:Nat):Turn P w K tg Us sN it (zqF (lo+(i:Nat)*1) 1) where
 mem:=aj
 obj:=fun i h st b hb=>by
  ext tO;exact⟨_,st,fun v z=>by
   ext O9⟩
 keep:=RR R5
 item:=by
  intro X hP hw hK hc i pins s Z H E I hf st hg;ext jr;obtain⟨f0,f1,f2,f3,f4,f5⟩:46:=kK;show(zjj,1,W.item i s _ _ hg st fun v h' tk hv st' kk=>?_);show(ap,I1,ia (iA h'),I.turned zuM f0 f1 f3 f4 f5,(bT,xg6 (s:=iA h') (n:="range_iterator") st' rfl rfl ao ⟨85,zfU,H,I1,eS t,kL,st',E0⟩));rw[Int.mul_one]
 done:=by
  intro X hP hw hK hc i pins s Z H E I hf st hg;ext jr;obtain⟨f0,f1,f2,f3,f4,f5⟩:46:=kK;exact wpAny_pyNext_range_end gU st zsi (yG,I.turned (t':=s.toks) vk f0 f1 f3 f4 f5)
 self:=zkd
section
variable {X:Cx}{tg:Expr}
noncomputable def xto (K:Zf) (tl:TE):TI:=(i9,R,tl Z H fun x H1=>∃ a,(bc,x,aB,(∃ xs,Iu),R zA H1))
theorem xal {l:Expr}{tl:TE} (hl:PE X l tl):PI X tg l (xto X.K tl):=by
 intro pins s Z H R I h;show(jH,hl pins s Z H _ I h,fun v s1 ⟨x,H1,I1,r1,q1⟩=>?_);obtain⟨a,e,⟨xs,hq⟩,q⟩:63:=q1;ext dw;cases r1;show(j7,rv,p,hz,I1.list hq);refine QP p.isList ?_;show(MQ,⟨66,H1,rfl,zrk,xp4 a _,vT,gY,q⟩);show(Vv,s1.heap.objs.size)
theorem xlq {pins:aW}{Z:St}{H:Hp}{s:Shared}{R:LZ}{E:aT}{lo hi:Int}{t u v:Tok}{tk:Nat} (I:aq) (h1:-lS<=lo) (h2:lo<lS) (h3:-lS<=hi) (h4:hi<lS)
    (q:R (Itr lo SV) H):wpAny aH X.A (pyIter ie) zbL E (iA,D4 1):=by
  refine wpAny_pyIter_range (IsRange.new ..) (small_one h1 h2 h3 h4) ?_;have I1:ia (iA,D4 1):=I.kept vU;refine⟨121,zcs,[zcs],_,_,⟨66,H,rfl,
    zfO vU,xo4 _ lo SV,?_,gY,q⟩⟩
  . have e1:lo+sj*1=lo:=aj
    have e2:(dW SV)-sj=(XH 1):=KH rangeSize_one
    show IsRangeIter _ _ (lo+sj*1) ((dW SV)-sj) 1;ext cD e1 e2 gc
  . ext Vv zcs
noncomputable def xx3 (ta:TA):TI:=(NZ,∃ j:Int,(hZ,vs,[zZ],-lS<=j,j<lS,R (Itr 0 j.toNat) H1))
noncomputable def xy2 (ta:TA):TI:=(NZ,∃ i j:Int,(bc,vs,[cO,.int j],zlk,R (Itr i (fM j i)) H1))
theorem xj8 {a:Expr}{ta:TA}{p pos:Pos} (hg:zfk) (hm:zfh) (ha:SG) (hs:SC:=by rfl):PI X tg (Dx "range" [a]) (xx3 ta):=by
 intro pins s Z H R I h;show(zdQ,boot_range,(SL,ha pos pins s Z H _ I h,fun us s1 ⟨vs,H1,I1,r1,q1⟩=>?_));obtain⟨j,e,q1,q2,q⟩:64:=q1;ext dw;cases r1 with
 | cons r rr =>
  cases rr;ext iW r;exact call_range_1 (xlq I1 aa aa q1 q2 zcz)
theorem xjs {a b:Expr}{ta:TA}{p pos:Pos} (hg:zfk) (hm:zfh) (ha:PA X [a,b] ta) (hs:(EA [a,b])=[uZ Em,uZ A7]:=by rfl) (hs2:ED [b] A7:=by rfl) :
    PI X tg (Dx "range" [a,b]) (xy2 ta):=by
  intro pins s Z H R I h;show(znA,ha pos pins s Z H _ I h,fun us s1 ⟨vs,H1,I1,r1,q1⟩=>?_);obtain⟨i,j,e,⟨q1,q2,q3,q4⟩,q⟩:83:=q1;ext dw;cases r1 with
  | cons r rr =>
    cases rr with
    | cons r' rr =>
      ext ztc;exact call_range_2 (xlq I1 q1 q2 q3 q4 q)
noncomputable def tFor (wi:TI) (g:TG) (tb:TS):TS:=fun D Z H=>wi Z H fun J H1=>∃ W:Nat->Nat->St->Hp->Prop,(∃ m,W 0 m Z H1)/\∀ i m Z H,E1 ->
 (J.stop i H/\zy)\/(J.go i H/\(Df (EF,J.yld i H x H',Z,H',Da)))
noncomputable def xf3 (fp:az) (h:Heap):aW:=fp.filterMap fun b=>(h.get? b).map fun o=>(b,o)
theorem xcv {fp:az}{h:Heap}{b:Addr}{o:Obj} (hb:b∈fp) (e:sV):(b,o)∈xf3 fp h:=Jl.mpr ⟨b,hb,zX⟩
theorem xrt {fp:az}{h:Heap}{p:Addr × Obj} (hp:p∈xf3 fp h):aN∈fp/\(Eo aN dG):=by
 show(ae,b,hb,e,Jl.mp hp);cases q:h.get? b with
 | none=>ext cH q e
 | some o =>
  rw[q] at e;show(ja,e',(b,o),p,ZH.inj e);ext aO hb q
theorem Inv.pinned {pins:aW}{Z:St}{H:Hp}{s:Shared}{fp:az} (I:aq) (hf:Cw) (ho:∀ b∈fp,(WX jN)):Inv X (pins++xf3 fp s.heap) Z H s :=
 I.pins_of fun p hp=>(Zw.mp hp).elim (aA,I.pin p (Z1 _ z)) fun z=>by
  show(jU,hb,xrt z);obtain⟨f0,f1,f2,_⟩:44:=hf aN hb;show(ae,o,e',d,ho aN hb);ext bA e e' e';exact bO e f0 f1 f2 d
theorem Inv.unpinned {pins pl:aW}{Z:St}{H:Hp}{s:Shared} (I:Inv X (pins++pl) Z H s):aq:=I.pins_of (fG,I.pin p (Z1 _ (ZF _ hp)))
theorem xbf {iter:Expr}{body:BJ}{wi:TI}{g:TG}{tb:TS}{pos:Pos} (hp:zpi) (hc:fX) (hi:DS) (hg:PG X tg g) (hb:PSs X body tb)
    (hs:MO:=by ext CG):PS X (.For tg iter body [] pos) (tFor wi g tb):=by
  intro pins s Z H D I h;refine wpAny_For (thn (hi pins s Z H _ I h) V1) hs;obtain⟨it,fp,tn,J,⟨H2,e,I2,T,st2,f2,W,⟨m0,w0⟩,turn⟩⟩:121:=h2;ext dw
  -- what stays true of the iterator's objects through the loop
  show(cC,stat,∀{H':Hp},IC->(N2 H'),fun hn b hb=>⟨hn b hb,(f2 b hb).2⟩,codeAny_forLoop_any (nI,n,∃ i σ' H',(Uo,zdT,s'.heap,W i n σ' H')) ?_ m0 ⟨104,0,Z,H2,I2,st2,(jy,(f2 b hb).1),w0⟩);rintro n s3 (⟨i,σ3,H3,I3,st3,fr3,w3⟩:104);rcases turn i n σ3 H3 w3 with⟨stop,qn⟩|⟨go,N,hN,step⟩
  . show(EE,T.done X rfl rfl rfl hc i pins s3 σ3 H3 X.xe I3 (stat fr3) st3 stop,zeN s4 I4)
    subst hr;exact Wp (bK σ3 H3 I4 qn)
  . show(EE,T.item X rfl rfl rfl hc i pins s3 σ3 H3 X.xe I3 (stat fr3) st3 go,tT r s4 u hr h4)
    subst hr;show(EE,h4,fun _ s5 ⟨x,H5,I5,r5,y5,st5,fr5⟩=>?_);have I5':=I5.pinned (stat fr5) (T.obj _ _ st5);show(EE,hg _ s5 σ3 H5 x u _ I5' r5 (step x H5 y5),fun _ s6 ⟨σ6,H6,I6,q6⟩=>?_);show(EE,hb _ s6 σ6 H6 _ I6 q6,aL f s7 q7);have again:∀{σ7:St}{H7:Hp},Inv X (pins++xf3 fp s5.heap) σ7 H7 s7->N σ7 H7->(Uk,∃ i σ' H',(Uo,Gh σ' H' s7,s7.heap,W i m σ' H')):=fun {σ7 H7} I7 n7=>by
      show(ae,m',hm,w7,hN σ7 H7 n7);show(cR,m',hm,⟨104,aM,σ7,H7,I7.unpinned,T.keep _ _ _ st5 fun b hb o e=>(zmd).1,gY,w7⟩);ext Xk st5 zmd
    cases f with
    | next=>ext znS
    | cont=>ext znS
    | brk=>show(iF,σ7,H7,I7,q7,q7); exact bK σ7 H7 I7.unpinned q7
    | ret v=>obtain⟨x7,σ7,H7,I7,r7,q7⟩:103:=q7; exact⟨103,x7,σ7,H7,I7.unpinned,r7,q7⟩
#check _
theorem xbi {K:Zf}{a:Addr}{xs:ag}{g:TG}{tb:TS}{D:Ends}{Z:St}{H:Hp} (Pv:FD) (h0:Lh) (hl:zmK)
    (hs:∀ i x Z H,rK->uh->g x Z H Gy) (hd:HE xs.length) :
    ∃ W:Nat->Nat->St->Hp->Prop,(∃ m,W 0 m Z H)/\∀ i m Z H,E1 ->
      ((zA).stop i H/\zy)\/((zA).go i H/\(Df (EF,(zA).yld i H x H',Z,H',Da))):=by
  ext ziv;rintro i m Z H (⟨rfl,hi,p⟩:43);ext NF SI
  . ext znC
    ext Cm y y;ext dw;exact hs i x Z _ (y xs q) p
  . ext ztG
theorem xfb {lo:Int}{n:Nat}{g:TG}{tb:TS}{D:Ends}{Z:St}{H:Hp} (Pv:FD) (h0:Lh)
    (hs:∀ i Z H,eF->uh->g zfU Z H Gy) (hd:HE n) :
    ∃ W:Nat->Nat->St->Hp->Prop,(∃ m,W 0 m Z H)/\∀ i m Z H,E1 ->
      ((Us).stop i H/\zy)\/((Us).go i H/\(Df (EF,(Us).yld i H x H',Z,H',Da))):=by
  show(gH,fun i m Z H=>(bc,m,n-i,i<=n,uh),Tk n);rintro i m Z H (⟨rfl,hi,p⟩:43);by_cases hlt:eF
  . show(uY,⟨hlt,Pv aM,fun σ' H' p'=>(o3,n-aM,aa,rfl,hlt,p'),aL x H' y⟩)
    ext Cm y y;subst e y;exact hs i Z _ hlt p
  . ext NG n bo
noncomputable abbrev R2:=Ky
noncomputable def OpR (X:Cx) (f:GO) (r:R2):Prop :=
 ∀(pins:List (Addr × Obj)) (s:Shared) (Z:St) (H:Hp) (x y:V) (v u:Value) (Q:VK),Inv X pins Z H s->RelV x v->RelV y u->r x y H Q ->
  wpAny aH X.A (f v u) mo X.xe s
noncomputable def UnR (X:Cx) (f:Value->Sem Value) (r:V->rZ):Prop :=
 ∀(pins:aW) (s:Shared) (Z:St) (H:Hp) (x:V) (v:Value) (Q:VK),aq->ug->r x H Q ->
  wpAny aH X.A (f v) mo X.xe s
noncomputable def xcf (X:Cx) (f:Value) (r:ag->rZ):Prop :=
 ∀(pins:aW) (s:Shared) (Z:St) (H:Hp) (xs:ag) (us:aQ) (Q:VK),aq->ku->r xs H Q ->
  wpAny aH X.A (call f us) mo X.xe s
noncomputable def TruR (X:Cx) (r:V->(sL wm)):Prop :=
 ∀(pins:aW) (s:Shared) (Z:St) (H:Hp) (x:V) (v:Value) (Q:wm),aq->ug->r x H Q ->
  wpAny aH X.A (truthy v) RE X.xe s
noncomputable def tOp (r:R2) (ta tb:TE):TE:=xX (zdv,r x y H2 Q)
noncomputable def tUn (r:V->rZ) (ta:TE):TE:=(xX,r x H1 Q)
@[reducible] def rI (C:RY) (g:Int->Int->V) (x:V) (y:V) (H:Hp) (Q:VK):Prop:=iV x y (iy,j,C i j/\Q sI H)
@[reducible] def rI0 (g:Int->Int->V) (x:V) (y:V) (H:Hp) (Q:VK):Prop:=iV x y (iy,j,Q sI H)
noncomputable def rU (g:Int->V):V->rZ:=fun x H Q=>∃ i,x=cO/\Q (g i) H
section
variable {X:Cx}{a b c:Expr}{ta tb tc:TE}{pos:Pos}
theorem binT (ha:qg) (hb:zk) {pins:aW}{s:Shared}{Z:St}{H:Hp}{R:V->uM} (I:aq)
    (h:znq) {Q:aT}{f:GO}
    (hf:(zkA,wpAny aH X.A (f v u) Q X.xe s2)) :
    wpAny aH X.A Em (j9,s₁,wpAny aH X.A A7 (fun u s₂=>wpAny aH X.A (f v u) Q X.xe s₂) X.xe s₁) X.xe s:=by
  show(jH,ha pins s Z H _ I h,fun v s1 ⟨x,H1,I1,r1,q1⟩=>?_);show(jH,hb pins s1 Z H1 _ I1 q1,fun u s2 ⟨y,H2,I2,r2,q2⟩=>?_);exact hf v u s2 x y H2 I2 r1 r2 q2
theorem xu {op:Operator}{r:R2} (ho:OpR X (binaryOp op) r) (ha:qg) (hb:zk):PE X (.BinOp a op b pos) SA:=by
 intro pins s Z H Q I h;exact wpAny_BinOp (binT ha hb I h fun v u s2 x y H2 I2 rx ry q=>ho pins s2 Z H2 x y v u Q I2 rx ry q)
theorem xk8 {op:UnaryOp}{r:V->rZ} (ho:UnR X (unaryOp op) r) (ha:qg):PE X (.UnaryOp op a pos) (tUn r ta):=by
 intro pins s Z H Q I h;exact UnaryOp_ (thn (ha pins s Z H _ I h) fun v s1 ⟨x,H1,I1,r1,q1⟩=>ho pins s1 Z H1 x v Q I1 r1 q1)
theorem opI {f:GO}{C:RY}{g:Int->Int->Int}
    (rule:(VA,C i j->Q (.int sI s.toks) pA->wpAny aH X.A zcK Q E s)) :
    OpR X f (rI C (LI sI)):=by
  intro pins s Z H x y v u Q I rx ry h;obtain⟨i,j,rfl,rfl,hc,q⟩:84:=xo2 h;ext i8;ext f8;exact rule i j t t' s _ _ hc (yp sI)
theorem opI0 {f:GO}{g:Int->Int->Int}
    (rule:(VA,Q (.int sI s.toks) pA->wpAny aH X.A zcK Q E s)) :
    OpR X f (rI0 (LI sI)):=by
  intro pins s Z H x y v u Q I rx ry h;obtain⟨i,j,rfl,rfl,q⟩:83:=xo2 h;ext i8;ext f8;exact rule i j t t' s _ _ (yp sI)
theorem opB0 {f:GO}{g:Int->Int->Bool}
    (rule:(VA,(Gm sI s)->wpAny aH X.A zcK Q E s)) :
    OpR X f (rI0 (iy,j,.bl sI)):=by
  intro pins s Z H x y v u Q I rx ry h;obtain⟨i,j,rfl,rfl,q⟩:83:=xo2 h;ext i8;ext f8;exact rule i j t t' s _ _ (dY,.bl sI,H,I,q)
noncomputable def CDiv (i j:Int):Prop:=0<j/\j<1073741824
noncomputable def CPow (i j:Int):Prop:=0<=j/\j<=1000000/\i.natAbs<oN
noncomputable def CMul (i j:Int):Prop:=(-oN<i/\i<oN)\/(-oN<j/\j<oN)
theorem CMul.ok {i j:Int} (h:CMul i j):IntMulOk i j:=by
 rcases h with⟨h1,h2⟩|⟨h1,h2⟩
 .exact .of_left (intBits_le_64 h1 h2)
 .exact .of_right (intBits_le_64 h1 h2)
theorem xo1 (k:Nat):uO<=2 ^ k:=by
 rw[two_pow_cast];exact Int.natCast_nonneg _
theorem xa0:zap .Add (i+j):=opI0 fun _ _ _ _ _ _ _ q=>add_int q
theorem xdd:zap .Sub (i-j):=opI0 fun _ _ _ _ _ _ _ q=>sub_int q
theorem xc4:Ha .Mult CMul (i*j):=(zsn,mul_int q hc.ok)
theorem xcg:Ha .FloorDiv CDiv (i / j):=opI fun i j _ _ _ _ _ hc q=>by
 have h1:uO<j:=hc.1;have h2:j<1073741824:=hc.2;exact floordiv_int aa (aD,Int.fdiv_eq_ediv_of_nonneg i aa,q) (.inl (Wo aa))
theorem xba:Ha .Mod (fun _ j=>0<j) (i % j):=opI fun i j _ _ _ _ _ hc q=>by
 have h1:uO<j:=hc;exact mod_int' aa (aD,Int.fmod_eq_emod_of_nonneg i aa,q)
theorem xwp:Ha .Pow CPow (i ^ j.toNat):=(zsn,pow_int_small hc.1 (bg hc) (b6 hc) q)
theorem xrk:Ha .RShift (fun _ j=>0<=j) (i / 2 ^ j.toNat):=opI fun i j _ _ _ _ _ hc q =>
 rshift_int hc (aD,Int.fdiv_eq_ediv_of_nonneg i (xo1 _),q)
theorem xvv:zap .BitAnd (Builtin.bitAnd i j):=opI0 fun _ _ _ _ _ _ _ q=>and_int q
theorem xuh:OpR X (inplaceOp .Add) (rI0 (LI (i+j))):=opI0 fun _ _ _ _ _ _ _ q=>iadd_int q
theorem unI {f:Value->Sem Value}{g:Int->Int}
    (rule:∀(i:Int) (t:Tok) (s:Shared) (Q:aT) (E:aT),Q (.int (g i) s.toks) pA->wpAny aH X.A (f Ls) Q E s) :
    UnR X f (rU (jL,.int (g i))):=by
  intro pins s Z H x v Q I rx h;show(ae,i,rfl,q,h);show(CQ,rule i t s _ _ (bv,.int (g i),H,i0,gf,q))
theorem xiy:UnR X (unaryOp .USub) (rU (jL,.int (-i))):=unI fun _ _ _ _ _ q=>neg_int q
#check _
noncomputable def scal:V->V->Bool
 | .non,.non=>true|.non,qx=>true|qx,.non=>true|.non,xM=>true|xM,.non=>true|.non,mX=>true|mX,.non=>true
 | qx,qx=>true|xM,xM=>true|mX,mX=>true|.byt _,.byt _=>true
 | qx,mX=>true|mX,qx=>true|xM,mX=>true|mX,xM=>true
 | _,_=>false
noncomputable def rEq:R2:=(EW,scal x y=true/\Q (Uq (x=y)) H)
noncomputable def rNe:R2:=(EW,scal x y=true/\(mV (!(d9 x y))))
theorem xob {i j:Int}:decide (V.int i=V.int j)=(i == j):=by
 rw[Jr];simp
theorem xrw {i j:Bool}:decide (V.bl i=V.bl j)=(i == j):=by
 rw[Jr];simp
theorem xn1 {i j:Str}:decide (V.str i=V.str j)=(i == j):=by
 rw[Jr];simp
theorem xnw {i j:Array UInt8}:decide (V.byt i=V.byt j)=(i.toList == j.toList):=by
 rw[Jr];cases i;cases j;simp
section
variable {X:Cx}{a b c:Expr}{ta tb tc:TE}{pos:Pos}
theorem xay {pins:aW}{Z:St}{H:Hp}{s:Shared}{Q:VK}{k k':Bool} (I:aq) (q:mV k) (e:k=k'):EP X pins Z Q (.bool k') s:=by
 ext dw;exact(dY,.bl k,H,I,q)
theorem xc2:mh .Eq rEq:=by
 intro pins s Z H x y v u Q I rx ry h;ext iH hs h;cases x with
 | non =>
  ext fS;cases y with
  | non=>ext gL; exact PySem.EqNone.eq_none_none (du aj)
  | bl j=>ext gL; exact PySem.EqNone.eq_none_bool (du aj)
  | int j=>ext f8; exact PySem.EqNone.eq_none_int (du aj)
  | str j=>ext f8; exact PySem.EqNone.eq_none_str (du aj)
  | _=>ext uV
 | bl i =>
  ext fS;cases y with
  | non=>ext gL; exact PySem.EqNone.eq_bool_none (du aj)
  | bl j=>ext gL; exact eq_bool (du xrw)
  | str j=>ext f8; exact PySem.EqMixed.eq_bool_str (du aj)
  | _=>ext uV
 | int i =>
  ext i8;cases y with
  | non=>ext gL; exact PySem.EqNone.eq_int_none (du aj)
  | int j=>ext f8; exact eq_int (du xob)
  | str j=>ext f8; exact PySem.EqMixed.eq_int_str (du aj)
  | _=>ext uV
 | str i =>
  ext i8;cases y with
  | non=>ext gL; exact PySem.EqNone.eq_str_none (du aj)
  | bl j=>ext gL; exact PySem.EqMixed.eq_str_bool (du aj)
  | int j=>ext f8; exact PySem.EqMixed.eq_str_int (du aj)
  | str j=>ext f8; exact eq_str (du xn1)
  | _=>ext uV
 | byt i =>
  ext i8;cases y with
  | byt j=>ext f8; exact PySem.W.eq_bytes (du xnw)
  | _=>ext uV
 | _=>cases y<;>exact absurd (tH false hs) Z7
theorem xff:mh .NotEq rNe:=by
 intro pins s Z H x y v u Q I rx ry h;ext iH hs h;cases x with
 | non =>
  ext fS;cases y with
  | non=>ext gL; exact PySem.EqNone.ne_none_none (du aj)
  | bl j=>ext gL; exact PySem.EqNone.ne_none_bool (du aj)
  | int j=>ext f8; exact PySem.EqNone.ne_none_int (du aj)
  | str j=>ext f8; exact PySem.EqNone.ne_none_str (du aj)
  | _=>ext uV
 | bl i =>
  ext fS;cases y with
  | non=>ext gL; exact PySem.EqNone.ne_bool_none (du aj)
  | bl j=>ext gL; exact ne_bool (du (Ue xrw))
  | str j=>ext f8; exact PySem.EqMixed.ne_bool_str (du aj)
  | _=>ext uV
 | int i =>
  ext i8;cases y with
  | non=>ext gL; exact PySem.EqNone.ne_int_none (du aj)
  | int j=>ext f8; exact ne_int (du (Ue xob))
  | str j=>ext f8; exact PySem.EqMixed.ne_int_str (du aj)
  | _=>ext uV
 | str i =>
  ext i8;cases y with
  | non=>ext gL; exact PySem.EqNone.ne_str_none (du aj)
  | bl j=>ext gL; exact PySem.EqMixed.ne_str_bool (du aj)
  | int j=>ext f8; exact PySem.EqMixed.ne_str_int (du aj)
  | str j=>ext f8; exact ne_str (du (Ue xn1))
  | _=>ext uV
 | byt i =>
  ext i8;cases y with
  | byt j=>ext f8; exact PySem.W.ne_bytes (du (Ue xnw))
  | _=>ext uV
 | _=>cases y<;>exact absurd (tH false hs) Z7
theorem xfk:No .Lt (i<j):=opB0 fun _ _ _ _ _ _ _ q=>lt_int q
theorem xhg:No .LtE (i<=j):=opB0 fun _ _ _ _ _ _ _ q=>le_int q
theorem xlc:No .Gt (j<i):=opB0 fun _ _ _ _ _ _ _ q=>gt_int q
theorem xy0:No .GtE (j<=i):=opB0 fun _ _ _ _ _ _ _ q=>ge_int q
theorem xp7:mh .Is (EW,y=.non/\Q (Uq (x=.non)) H):=by
 intro pins s Z H x y v u Q I rx ry h;show(iH,rfl,h);ext gL;refine is_none_gen (du ?_);cases x<;>first
  | (ext jM rx)
  | (ext i8; rfl)
theorem xft:mh .IsNot (EW,y=.non/\(mV (!(d9 x .non)))):=by
 intro pins s Z H x y v u Q I rx ry h;show(iH,rfl,h);ext gL;refine isnot_none_gen (du ?_);cases x<;>first
  | (ext jM rx)
  | (ext i8; rfl)
noncomputable def isObj:HO->Bool
 | .lst _=>true
 | .ins _ _ _=>true
 | _=>false
theorem xaj (b:Expr) {op:CmpOp} (h:op≠.In:=by decide) (h2:op≠.NotIn:=by decide):De:=by
 show(qe,e1,op,CmpOp.In,by cases op<;>first|rfl|ext j4 h)
 show(qe,e2,op,CmpOp.NotIn,by cases op<;>first|rfl|ext j4 h2)
 ext zqG
theorem xc0 {op:CmpOp}{r:R2} (ho:mh op r) (ha:qg) (hb:zk) (hm:De):PE X NV SA:=by
 intro pins s Z H Q I h;exact wpAny_Compare1 (binT ha hb I h fun v u s2 x y H2 I2 rx ry q=>ho pins s2 Z H2 x y v u Q I2 rx ry q) hm
inductive xur (x:V) (H':Hp) (Q:wm):Prop
 | mk (k) (e_:x=.bl k) (r_:Q k H')
noncomputable def xyr (t:TE):TT:=(i9,Q,t Z H fun x H'=>xur x H' Q)
theorem xab {op:CmpOp}{r:R2} (ho:mh op r) (ha:qg) (hb:zk) (hm:De):PT X NV (xyr SA):=by
 intro pins s Z H Q I h;refine wpAny_isTrue_Compare1 (thn (ha pins s Z H _ I h) fun v s1 ⟨x,H1,I1,r1,q1⟩=>thn (hb pins s1 Z H1 _ I1 q1) fun u s2 ⟨y,H2,I2,r2,q2⟩ =>
  thn (ho pins s2 Z H2 x y v u _ I2 r1 r2 q2) fun c s3 ⟨z,H3,I3,r3,k,e,q3⟩=>?_) hm
 ext dw;cases r3;exact Yk ⟨H3,I3,q3⟩
noncomputable def xw3 (r r':R2) (ta tb tc:TE):TE:=fun Z H Q=>ta Z H fun x H1=>tb Z H1 fun y H2=>r x y H2 fun z H3=>∃ k,z=.bl k /\
 (cM,k,tc Z H3 fun w' H4=>r' y w' H4 Q,Q (.bl false) H3)
theorem xgf {op op':CmpOp}{r r':R2} (ho:mh op r) (ho':mh op' r') (ha:qg) (hb:zk) (hc:PE X c tc)
    (hm:(cS,lastMarks [op,op'] [b,c]):=by with_unfolding_all rfl):PE X (.Compare a [op,op'] [b,c] pos) (xw3 r r' ta tb tc):=by
  intro pins s Z H Q I h;refine Compare_chain (thn (ha pins s Z H _ I h) fun v s1 ⟨x,H1,I1,r1,q1⟩=>chain_link (thn (hb pins s1 Z H1 _ I1 q1) fun u s2 ⟨y,H2,I2,r2,q2⟩ =>
    thn (ho pins s2 Z H2 x y v u _ I2 r1 r2 q2) fun d s3 ⟨z,H3,I3,r3,k,e,q3⟩=>?_)) hm
  ext dw;cases r3;refine Yk ?_;cases k with
  | false=>exact ite_ff (dY T4 H3 I3 q3)
  | true=>exact ite_tt (chain_last (thn (hc pins s3 Z H3 _ I3 q3) fun w' s4 ⟨z',H4,I4,r4,q4⟩=>ho' pins s4 Z H4 y z' u w' Q I4 r2 r4 q4))
noncomputable def TruV (K:Zf) (x:V) (H:Hp) (k:Bool):Prop :=
 match x with
 | .non=>cS k
 | xL=>k=b
 | cO=>k=(i != 0)
 | .str y=>zlF
 | .byt y=>zmw
 | eB=>(N6 R6)\/(N6 zfc)\/∃ kvs,zpO
 | _=>False
theorem xo0 {κ:Type}{kvs:eY}{vs:wI} (r:kH):(! vs.isEmpty)=zfn:=by
 cases r<;>rfl
theorem xi0 {xs:ag}{its:aQ} (r:yX):(! its.toArray.isEmpty)=! xs.isEmpty:=by
 cases r<;>simp
theorem xe2:(sizeLine:Nat)<2 ^ 63:=vW QO
theorem xwn:TruR X (fun x H Q=>∃ k,TruV X.K x H k/\Q k H):=by
 intro pins s Z H x v Q I rx h;ext ae k e q h;have hl:=xe2;have hs:sizeLine=16777216:=QO;cases x with
 | non =>
  ext fS;show(ja,e',k,false,e);exact truthy_none ⟨H,I,q⟩
 | bl b =>
  ext fS;ext ja e' k b e;exact Yk ⟨H,I,q⟩
 | int i =>
  ext i8;show(ja,e',k,i != 0,e);exact PySem.P.truthy_int ⟨H,I,q⟩
 | str y =>
  ext i8;obtain⟨hy,e'⟩:zlF:=e;subst e';exact PySem.P.truthy_str aa ⟨H,i0,q⟩
 | byt y =>
  ext i8;obtain⟨hy,e'⟩:zmw:=e;subst e';exact PySem.W.truthy_bytes aa ⟨H,i0,q⟩
 | ref p =>
  ext fS;have e':(N6,SqL X.K H p xs)\/(N6,SqT X.K H p xs)\/∃ kvs,zpO:=e;rcases e' with⟨xs,hx,e'⟩|⟨xs,hx,e'⟩|⟨kvs,hx,e'⟩
  .subst e';ext zfN hx;have hlen:=r.length;exact wpAny_truthy_list pl.isList zsv zrP
  .subst e';show(j7,r,pl,hz,I.tuple hx);have hlen:=r.length;exact truthy_tuple pl zsv zrP
  .subst e';obtain⟨hz,hS,vs,r,m⟩:DW/\(tD p)/\∃ vs,kH/\s.heap.DictOf ig p vs:=I.hok p _ hx;have hlen:kvs.length=vs.length:=Y4 r;exact wpAny_truthy_dict hS m aa ⟨H,i0,(aD,xo0 r,q)⟩
 | _=>exact (show False from e).elim
theorem xmv (ha:qg) (he:∀ whole,isTrue a X.env whole=(do let v <- whole; standAt a.pos; holding [v] (truthy v))) :
    PT X a (i9,Q,ta Z H fun x H'=>∃ k,TruV X.K x H' k/\Q k H'):=by
  intro pins s Z H Q I h;exact isTrue_plain (thn (ha pins s Z H _ I h) fun v s1 ⟨x,H1,I1,r1,q1⟩=>xwn pins s1 Z H1 x v Q I1 r1 q1) (he _)
theorem xcl {x:V}{us:aQ} (r:Vals [x] us):∃ u,us=[u]/\oC:=by
 cases r with
 | cons r1 r2=>cases r2; exact bT r1
theorem xk4 {x y:V}{us:aQ} (r:Vals [x,y] us):∃ u w',(bc,us,[u,w'],oC,RelV y w'):=by
 cases r with
 | cons r1 r2 =>
  cases r2 with
  | cons r3 r4=>cases r4; exact eD _ _ r1 r3
theorem xlr:xcf X (oU "abs") (LH,∃ i,xs=[cO]/\(jW zsU)):=by
 intro pins s Z H xs us Q I r h;show(ae,i,rfl,q,h);ext zoG;exact call_abs_int fun u tk=>yp zsU
theorem xrv (hc:fX):(zjb,"max",j>i):=by
 intro pins s Z H xs us Q I r h;show(iF,i,j,rfl,q,h);obtain⟨u,w',rfl,⟨t,rfl⟩,⟨t',rfl⟩⟩:83:=xk4 r;refine max_two_ints (I.ok.hd hc) zmu
 by_cases hj:j>i
 .ext uj hj hj; exact gf
 .rw [ay hj,ay hj]; exact gf
theorem xkt (hc:fX):(zjb,"min",j<i):=by
 intro pins s Z H xs us Q I r h;show(iF,i,j,rfl,q,h);obtain⟨u,w',rfl,⟨t,rfl⟩,⟨t',rfl⟩⟩:83:=xk4 r;refine min_two_ints (I.ok.hd hc) zmu
 by_cases hj:j<i
 .ext uj hj hj; exact gf
 .rw [ay hj,ay hj]; exact gf
theorem xkl:xcf X (fU "int") (LH,(∃ i,xs=[cO]/\(jW i))\/∃ k,xs=[.bl k]/\(jW (zfE k))):=by
 intro pins s Z H xs us Q I r h;rcases h with⟨i,rfl,q⟩|⟨k,rfl,q⟩
 .obtain ⟨u,rfl,⟨t,rfl⟩⟩:62:=xcl r;exact call_int_int (bv cO H I gf q)
 .show(dL,u,rfl,r1,xcl r);cases r1;exact call_int_bool (yp (zfE k))
#check _
structure ObjM (h:Heap) (x dx C:Addr) (mA:fA):Prop where
 obj:h.get? x=some (Yz C dx)
 ns:SE
 ne:dx≠x
theorem xrq {h:Heap}{dx:Addr}{mA:fA} (n:SE):∃ od,(Eo dx od)/\zlN:=by
 obtain⟨o,es,ep,ho,hd,hk,_,hm⟩:105:=n;show(cR,o,ho,c8 name);have e:=hm name;unfold nsFind findBy at e;rw[<- Array.find?_toList] at e;unfold Wx;rw[hd]
 dsimp only
 split
 .rename_i y q
  rw[q] at e;exact congrArg some e
 .rename_i q
  rw[q] at e;have a:es.toList.any (·.refKey)=false:=by
   rw[List.any_eq_false];intro y hy;show(Cn,z,t,hkey,hk y (W6.mp hy));simp[DictEntry.refKey,hkey]
  have a':¬ es.toList.any (·.refKey)=true:=aD a Z7
  show(lO,a',congrArg some e)
theorem ObjM.look {h:Heap}{x dx C:Addr}{mA:fA} (I:ObjM h x dx C mA):∃ od,PySem.W.InstAt h x (Yz C dx) C (some od)/\zlN :=
 let ⟨od,ho,hl⟩:=xrq I.ns
 ⟨od,uQ I.obj rfl ho,hl⟩
section
variable {prog:Program}{w:World}{A:Around}{E:Value->Shared->Prop}{s:Shared}{K:Zf}{x dx C f:Addr}{mA:Str->Option Value}{name:Str}{v:Value}
theorem xud {expr:Bool}{Q:aT} (X:yZ) (I:zao) (hg:Yc K C name=true) (hh:zep)
    (ha:Uh name) (hv:mA name=some v) (hv':PySem.W.handedIn v=true) (h:Q v pA) :
    wpAny aR A (getAttr m5 name expr) Q E s:=by
  ext zdl
  exact PySem.W.get_value X J (WB hg).1 (PySem.W.findObj_own hh ha rfl (cA hl hv)) hv' h
theorem xsy {pl:UC}{Q:(dU,Value × aQ)} (X:yZ) (I:zao) (hg:Yc K C name=true)
    (hf:SQ name) (ht:cZ f) (hv:mA name=none) (h:Q (uI,[m5]) s) :
    wpAny aR A (getMethod m5 name pl) Q E s:=by
  ext zdl
  exact PySem.W.method_fn X J (WB hg).1 (WB hg).2 hf (beq_iff_eq.mp ht) (by show (Wx name od).map (·.isSome)=some false; rw[hl,hv]; rfl) h
theorem xtx {ns:ai}{Q:wp} (X:yZ) (I:zao)
    (hs:zkc) (hp:Y0 K C=true) (ht:zpK name) (hh:zep)
    (hw:Wm mA ns) (hsz:dB ns.length)
    (h:(La,ObjM h' x dx C (fun y=>(kE,y,name,ff,mA y)),Jn dx s.heap h',(),(zaA,s.toks+2))) :
    wpAny aR A (setAttr m5 name v) Q E s:=by
  ext zdl
  refine PySem.W.set_plain X J hs (PySem.W.osa_open (s:=pA) (r:=none) X J hp ht (c8 b));show(ae,cd,hc,hd',PySem.W.any_some hh);have hx:s.heap.get? x=some ⟨gD,some dx,.plain,#[]⟩:=I.obj;refine Zc (Zk (Zc (Zc (wpAny_loadPart hx (Zc (PySem.W.Looks.here (s:=pA) (PySem.W.looks_clsIn X hc) ?_))))));show(nK,hd',Zk (a:=some dx) (Zc (Zk (Zc ?_))));refine wpAny_nsSet1 (s:=pA) I.ns (aL h' hn2 hs2);obtain⟨oD,esD,epD,hoD,hdD,hcD⟩:103:=hn2.count (Wm.cons name v hw);show(br,wpAny_lookBehind hoD (by rw[hdD]; exact pastItsLine_dict (ZJ hcD (ou ZG))) ?_);exact Zk (h _ ⟨(hs2.2 _ (Z2 I.ne)).trans I.obj,hn2,I.ne⟩ hs2)
theorem xsx {R:zgv}{vs:aQ}{kw:AV} (X:yZ) (hm:YI K C=true)
    (hi:SQ "__init__") (hf:PySem.W.typeIn K uI=some (fU "function"))
    (h:codeAny aR (Nn ⟨gD::vs,kw⟩) (.call uI ⟨.ref fV::vs,kw⟩) (PySem.W.InitBack fV R)
      { s with heap:=(AU).push (Yz C s.heap.objs.size) }) :
    codeAny aR A (.call gD ⟨vs,kw⟩) R s:=by
  obtain⟨hh,g,d,t,os⟩:=s;exact PySem.W.make_core (PySem.W.makes_of X hm) (PySem.W.looks_findIn X hi) (fun self=>PySem.W.bind_fn X self hf) eZ h
#check _
noncomputable def putF (f:Str) (v:V):lD->lD
 | []=>[(f,v)]
 | (g,x)::r=>(kE,g,f,(g,v)::r,(g,x)::putF f v r)
theorem xhq (f g:Str) (v:V):∀ fs:lD,(SF).lookup g=(kE,g,f,ff,fs.lookup g)
 | []=>by
  show Jv g [(f,v)]=_;by_cases h:g=f
  .show(VQ,f,aC h)
  .ext qe hb g f XA;simp only[Jv,hb,ay h]
 | UR=>by
  have ih:=xhq f g v r;ext U5
  .rw [aC hk];by_cases h:g=k
   .show(VQ,k,if_pos (h.trans hk))
   .ext qe hb g k XA;simp only[Jv,hb,ay (fun e:g=f=>h (e.trans hk.symm))]
  .ext ib hk;by_cases h:g=k
   .show(VQ,k,ay (fun e:g=f=>hk (h.symm.trans e)))
   .ext qe hb g k XA;simp only[Jv,hb];exact ih
theorem xgn (f:Str) (v:V):∀ fs:lD,f∈(SF).map (·.1)/\∀ g,g∈fs.map (·.1)->g∈(SF).map (·.1)
 | []=>⟨bF putF,fun g h=>vM⟩
 | UR=>by
  obtain⟨i1,i2⟩:=xgn f v r;ext U5
  .rw [aC hk];subst hk;show(aO,aj,fun g h=>yt)
  .ext ib hk;show(iO,?_,g,h)
   .show(c9,Zo,Zi _ i1)
   .rw [Zo] at h ⊢;rcases Zu.mp h with e|e
    .exact Zu.mpr (.inl e)
    .exact Zi _ (i2 g e)
theorem xhr (f:Str) (v:V):∀ fs:lD,(SF).length<=fs.length+1
 | []=>bF putF
 | UR=>by
  have ih:=xhr f v r;ext U5
  .rw [aC hk,ZG,ZG]; omega
  .rw [ay hk,ZG,ZG]; omega
theorem RelO.some_of {v:V}{o:ET} (r:RelO ff o):∃ u,qC o u lI:=by
 cases o with
 | none=>ext DM
 | some u=>ext qJ u r
theorem RelO.none_of {o:ET} (r:RelO none o):o=none:=by
 cases o with
 | none=>rfl
 | some u=>ext DM
theorem xqy {v:V}{u:Value} (r:lI):PySem.W.handedIn u=true:=by
 cases v with
 | non=>show(jM,cU u JE r)
 | bl b=>show(jM,(Fs,u=YC b))
 | int i=>ext Pf DL
 | str x=>ext Pf O7
 | byt b=>ext Pf zqx
 | flt b=>ext Pf zqw
 | ref a=>show(jM,cU u o8 r)
 | ty n=>show(jM,(Fs,u=Wj n))
section
variable {P:Program}{w:World}{H H':Hp}{h h':Heap}{a C dx:Addr}{fs fs':List (Str × V)}
theorem xhd (hok:mr) (e:K2):∃ mA,ObjM h a dx C mA/\GH/\Wm mA (fs.map (·.1))/\Pq/\(aE dx (.own a)):=by
 obtain⟨d,z,ne,ob,⟨mA,n,r,q⟩⟩:45:=(show xa8 P w H h a E7 from hok a _ e)
 exact⟨65,mA,⟨ob,n,ne⟩,r,q,z,d⟩
#check _
structure Cls (K:Zf) (C:Addr):Prop where
 pg:Es C
 hd:zep
 po:Y0 K C=true
 sa:zkc
theorem Cls.get {K:Zf}{C:Addr} (c:LT) (f:Str):Yc K C f=true:=c.pg
noncomputable def xe7 (K:Zf) (C:Addr) (f:Str):Prop:=Uh f
theorem xe7.taker {K:Zf}{C:Addr}{f:Str} (n:xe7 K C f):zpK f:=by
 unfold PySem.W.takerIn;rw[show Uh f from n];rfl
structure Meth (K:Zf) (C:Addr) (m:Str) (f:Addr):Prop where
 at_:SQ m
 fn:cZ f
 kp:pI f
section
variable {X:Cx}{pins:List (Addr × Obj)}{Z:St}{H:Hp}{s:Shared}{a C dx:Addr}{fs:List (Str × V)}{f:Str}{v:V}{A:Around}{E:Value->Shared->Prop}
theorem xok {b:Bool}{Q:aT} (I:aq) (e:K2) (c:KR) (n:xe7 X.K C f) (l:zsm)
    (h:∀ u s',Cd->lI->Q u s'):wpAny aH A (getAttr aB f b) Q E s:=by
  ext zok;show(ae,u,hu,ru,RelO.some_of (v:=v) (o:=mA f) (by rw[<- l]; exact r f));exact xud I.kIn O (c.get f) c.hd n hu (xqy ru) (h u _ i0 ru)
theorem xi6 {m:Str}{g:Addr}{pl:UC}{Q:(dU,Value × aQ)} (I:aq) (e:K2) (c:KR) (k:Meth X.K C m g) (l:fs.lookup m=none)
    (h:Q (.ref g,fO) s):wpAny aH A (getMethod aB m pl) Q E s:=by
  ext zok;have hn:mA m=none:=RelO.none_of (by rw[<- l]; exact r m);exact xsy I.kIn O (c.get m) k.at_ k.fn hn h
theorem xo9 {y:V}{u:Value}{Q:wp} (I:aq) (e:K2) (c:KR) (n:xe7 X.K C f) (hl:fs.length<1000) (ry:hJ)
    (h:Rj (b8 (dZ a (lY C zge)) s')):wpAny aH A (setAttr aB f u) Q E s:=by
  obtain⟨mA,O,r,wi,_,ho⟩:65:=xhd I.hok e;have hz:(fs.map (·.1)).length<=sizeLine:=by rw[Za,QO]; omega
  refine xtx I.kIn O c.sa c.po n.taker c.hd wi hz fun h' O' sb=>h _ ?_;show(cC,hd,∃ o,h'.get? dx=some o,let ⟨o,_,_,e',_⟩:=O'.ns; ⟨o,e'⟩,I.write (x:=a) (e:=dx) zo (.inr ho) (fun b q hb z=>(sb.2 b hb).trans z) hd ?_);refine(bO,bE O.ne ho,?_,O.ne,O'.obj,(ba,_,O'.ns,c8 g,au g hg))
  . show(bZ,xhr f y fs)
  . show RelO ((zge).lookup g) ztD
    rw[xhq];by_cases q:g=f
    . show(cD,aC q,aC q,ry)
    . rw[ay q,ay q]; exact r g
  . by_cases q:g=f
    . show(aK,q,(xgn f y fs).1)
    . refine (xgn f y fs).2 g (wi g (aA,hg ?_))
      show ztD=none;ext lO q z
theorem Inv.made (I:aq):Inv X pins Z (upd (upd H s.heap.objs.size (.own fV)) fV zpL)
    { s with heap:=(AU).push (Yz C s.heap.objs.size) }:=by
  have e1:(AU).get? s.heap.objs.size=some JX:=Zt s.heap rfl;have e2:((AU).push (Yz C s.heap.objs.size)).get? fV=some ztf:=by
    have:=Zt AU (o:=ztf) rfl
    rwa [JL] at this
  show(dO,e3,(AU).Ns s.heap.objs.size eX,⟨104,JX,#[],_,e1,rfl,(fun e he=>absurd he aj),p5⟩,I1,I.laid (a:=s.heap.objs.size) (o:=.own fV) (h':=AU) (t':=s.toks) (iU u q Gb) bo (gF e1));refine I1.laid (a:=fV) (o:=zpL) (t':=s.toks) (iU u q Gb) (Nat.le_of_eq (JL _ _)) ?_;show(ap,ne,s.heap.objs.size≠fV,Tn,bO (cA,xj ne,xl) fP ne e2 (ba,eX,(Heap.Ns1.of_empty e3).at fun o q=>Gb,fun _=>Jx,fun y hy=>absurd rfl hy))
theorem xt5 {prog:Program}{w:World}{env:Env}{e:Expr}{f:Str}{pos:Pos}{s:Shared}{Q:aT} (hb:attributeBase e f env S7=S7)
    (h:wpAny aR A S7 (fun o s₁=>wpAny aR A (getAttr o f true) Q E s₁) E s):wpAny aR A (eval (.Attribute e f pos) env) Q E s :=
  Attribute_any_ h (cA arm_eval_Attribute hb)
#check _
inductive xwc (K:Zf) (f:Str) (x:V) (H1:Hp) (Q:VK):Prop
 | mk (a C dx fs v) (e_:x=aB) (r_:(ax,H1 a=some E7,LT,xe7 K C f,zsm,Q v H1))
noncomputable def tFld (K:Zf) (ta:TE) (f:Str):TE:=(xX,xwc K f x H1 Q)
noncomputable def sFld (K:Zf) (ta tv:TE) (f:Str):TS:=fun D Z H=>tv Z H fun y H1=>ta Z H1 fun x H2=>∃ a C dx fs,x=aB/\H2 a=some E7/\LT/\xe7 K C f/\fs.length<1000 /\
 D.nx Z (upd H2 a (lY C zge))
noncomputable def InOp (X:Cx) (op:Operator) (rd:Ky):Prop :=
 ∀(pins:aW) (s:Shared) (Z:St) (H:Hp) (x y:V) (u v:Value) (Q:VK),(bj,aq,oC,RelV y v,rd x y H Q,wpAny aH X.A (inplaceOp op u v) mo X.xe s)
section
variable {X:Cx}{o e value:Expr}{f:Str}{pos pos' tpos:Pos}{ta tv:TE}
theorem x8 (he:PE X e ta) (hb:attributeBase e f X.env vO=vO):PE X (.Attribute e f pos) (tFld X.K ta f):=by
 intro pins s Z H Q I h;refine xt5 hb (thn (he pins s Z H _ I h) fun u s1 ⟨x,H1,I1,rx,a,C,dx,fs,v,ex,ea,c,n,l,q⟩=>?_);ext sU;exact xok I1 ea c n l fun u' s2 I2 ru=>bv v H1 I2 ru q
theorem xcw (ha:PE X o ta) (hv:zek) (hs:GA value (some zuN)):HS zuN value (sFld X.K ta tv f):=by
 intro pins s Z H D I h;refine plainObj_wpAny_Assign_Attribute (thn (hv pins s Z H _ I h) fun u s1 ⟨y,H1,I1,ry,q⟩=>thn (ha pins s1 Z H1 _ I1 q) fun ov s2 ⟨x,H2,I2,rx,a,C,dx,fs,ex,ea,c,n,l,q2⟩=>?_) hs;subst ex;show(cX,ov=o8,rx);exact xo9 I2 ea c n l ry fun s3 I3=>bK Z _ I3 q2
inductive rAdd (x:V) (y:V) (H:Hp) (Q:VK):Prop
 | mk (i j) (e_:x=cO) (r_:y=zZ/\(jW (i+j)))
inductive rSub (x:V) (y:V) (H:Hp) (Q:VK):Prop
 | mk (i j) (e_:x=cO) (r_:y=zZ/\(jW (i-j)))
theorem xwa:InOp X .Add rAdd:=by
 rintro pins s Z H x y u v Q I rx ry ⟨i,j,rfl,rfl,q⟩;ext zlE
 exact PyProof.Rows.iadd_int (yp (i+j))
theorem xwi:InOp X .Sub rSub:=by
 rintro pins s Z H x y u v Q I rx ry ⟨i,j,rfl,rfl,q⟩;ext zlE
 exact PyProof.Rows.isub_int (yp (i-j))
#check _
section
variable {X:Cx}{pins:List (Addr × Obj)}{Z:St}{H:Hp}{s:Shared}{A:Around}{E:Value->Shared->Prop}{Q:Value->Shared->Prop}{c:Value}{b:Bool}
inductive TyOf (K:Zf) (H:Hp):bX V Value where
  | non:zg .non "NoneType"
  | bl (x:Bool):zg (.bl x) "bool"
  | int (i:Int):zg cO "int"
  | str (x:Str):zg lR "str"
  | flt (x:UInt64):zg (.flt x) "float"
  | lst {a:Addr}{xs:ag} (e:yU a):TyOf K H aB Bp
  | frz {a:Addr}{o:Obj}{xs:ag} (e:aE a (.frz o (.lst xs))):TyOf K H aB Bp
  | tup {a:Addr}{xs:ag} (e:gZ a xs):zg aB "tuple"
  | dK {a:Addr}{kvs:aI} (e:zW):zg aB "dict"
  | dT {a:Addr}{kvs:dA} (e:FW):zg aB "dict"
  | ins {a C dx:Addr}{fs:lD} (e:K2) (cl:LT) (ha:BB gD "__class__" (Gd "object.__class__"))
      (hn:U3) (htk:Vl)
      (hm:(LG,PySem.W.mroIn K C (.type "object"))):TyOf K H aB gD
theorem xqd {x:V}{u t:Value} (I:aq) (rx:oC) (ty:TyOf X.K H x t) (e:Wy X.K t c=some b) (h:∀ tk,Gm b { s with toks:=tk }) :
    wpAny aH A (vK "isinstance" [u,c]) Q E s:=by
  cases ty with
  | non=>cases (cU u JE rx); exact JH PySem.W.kitx_none I.kIn Jx e dJ h
  | bl y=>cases (K8,u=YC y); exact JH PySem.W.kitx_bool I.kIn Jx e dJ h
  | int i=>show(zgc,K8 DL,JH PySem.W.kitx_int I.kIn Jx e dJ h)
  | str y=>show(zgc,(K8,∃ t,u=Qu y t),JH PySem.W.kitx_str I.kIn Jx e dJ h)
  | flt y=>show(zgc,(K8,∃ t,u=Value.float y t),JH PySem.W.kitx_float I.kIn Jx e dJ h)
  | @lst a xs ea =>
    ext Ei;obtain⟨_,_,n,_,h1⟩:=(Ho,xa8 X.prog X.w H s.heap a LV)
    exact JH PySem.W.kitx_list I.kIn (cP h1) e dJ h
  | @frz a ob xs ea =>
    ext Ei;obtain⟨_,_,⟨_,n,_,h1⟩⟩:43:=(Ho,xa8 X.prog X.w H s.heap a (.frz ob (.lst xs)))
    exact JH PySem.W.kitx_list I.kIn (cP h1) e dJ h
  | @tup a xs ea =>
    ext Ei;obtain⟨_,_,_,p⟩:=(Ho,xa8 X.prog X.w H s.heap a (.tup xs))
    ext on o h1 h2 p;exact JH PySem.W.kitx_tuple I.kIn ⟨o,h1,h2⟩ e dJ h
  | @dK a kvs ea =>
    ext Ei;obtain⟨_,_,⟨vs,_,p⟩⟩:43:=(Ho,xa8 X.prog X.w H s.heap a rQ)
    obtain⟨o,es,ep,h1,h2,_⟩:103:=p;exact JH PySem.W.kitx_dict I.kIn ⟨o,h1,h2.1⟩ e dJ h
  | @dT a kvs ea =>
    ext Ei;obtain⟨_,_,⟨xs,_,o,es,ep,h1,h2,_⟩⟩:43:=(Ho,xa8 X.prog X.w H s.heap a (.dT kvs))
    exact JH PySem.W.kitx_dict I.kIn ⟨o,h1,h2.1⟩ e dJ h
  | @ins a C dx fs ea cl ha hn htk hm =>
    ext Ei;show(fD,mA,O,xhd I.hok ea);show(fD,od,J,O.look)
    exact JH (PySem.W.kitx_own (cl.get _) cl.hd ha hn htk hm) I.kIn J e dJ h
#check _
structure Room (q0:Bool) (k:Nat) (A:Around):Prop where
 hd:zpt
 dp:A.depth+3*k+5<recursionLimit
 un:A.units+16*k+200<cLine
 gd:A.guards=some []
theorem Room.mono {j k:Nat}{A:Around} (r:Bj) (h:j<=k):Room q0 j A:=⟨r.hd,gg r.dp,gg r.un,r.gd⟩
theorem Room.deeper {k:Nat}{A:Around} (r:Room q0 cL A) (env:Env):zcJ env :=
 ⟨r.hd,by have:=r.dp; show A.depth+1+3*k+5<_; omega,by have:=r.un; show A.units+3+16*k+200<_; omega,r.gd⟩
theorem xov {A:Around}{C:Addr}{us:aQ}{kw:AV}:(Nn Po).depth=A.depth+1:=by
 first|rfl|simp[Around.under,Code.weight,Code.isCreation,Code.isGuard,Code.isCaller,Code.frames,Code.isFrame,guardIds]
theorem xo7 {A:Around}{C:Addr}{us:aQ}{kw:AV}:(Nn Po).units=A.units+1:=by
 first|rfl|simp[Around.under,Code.cUnits,Code.frames,Code.isFrame]
theorem Room.make {k:Nat}{A:Around} (r:Room q0 cL A) (C:Addr) (us:aQ) (kw:AV):Room q0 k (A.under (.builtin "type.__call__" Po)) :=
 ⟨r.hd,by have:=r.dp; rw[xov]; omega,by have:=r.un; rw[xo7]; omega,by first|exact r.gd|(simpa [Around.under,Code.guards,Code.isGuard,guardIds,pushGuards] using r.gd)⟩
theorem Room.depth {k:Nat}{A:Around} (r:Bj):A.depth<recursionLimit:=gg r.dp
theorem Room.units {k:Nat}{A:Around} (r:Bj):zgM 64:=gg r.un
noncomputable def tNil:TA:=(Fw,Q [] H)
@[reducible] def xtm (ta:TE) (tr:TA):TA:=(xX,tr Z H1 fun xs H2=>Q sJ H2)
section
variable {X:Cx}{e:Expr}{es:List Expr}{te:TE}{t:TA}{pos:Pos}
theorem xi:PA X [] tNil:=fun _ _ _ _ H Q I h=>JY (bv [] H I .nil h)
theorem xg (ha:tW) (hr:TD) (hs:xU:=by rfl):PA X nF (xtm te t):=by
 intro pos pins s Z H Q I h;rw[hs];show wpAny _ _ (spliced ((false,vO)::yW)) _ _ s;refine JF (thn (ha pins s Z H _ I h) fun u s1 ⟨x,H1,I1,r1,q1⟩=>?_);exact thn (hr pos pins s1 Z H1 _ I1 q1) fun us s2 ⟨xs,H2,I2,r2,q2⟩=>(bv,sJ,H2,I2,d4 r1 r2,q2)
noncomputable def tTup (t:TA):TE:=zmM (ez H1 p xs)
noncomputable def tLst (t:TA):TE:=zmM (cF H1 p xs)
theorem xaq {x1} (h:TD):PE X (.Tuple es x1 pos) (tTup t):=by
 intro pins s Z H Q I hq;refine wpAny_Tuple_spliced (thn (h pos pins s Z H _ I hq) fun us s1 ⟨xs,H1,I1,r,z,q⟩=>ztM);show(ap,hf,zpy,zvf,(zoN,ez H1 s1.heap.objs.size xs,q _ hf));exact⟨z,us,r,wQ gc gf⟩
theorem xb0 (h:TD):PE X (.List es pos) (tLst t):=by
 intro pins s Z H Q I hq;refine wpAny_List_spliced (thn (h pos pins s Z H _ I hq) fun us s1 ⟨xs,H1,I1,r,z,q⟩=>ztM);show(ap,hf,zpy,zvf,(zoN,cF H1 s1.heap.objs.size xs,q _ hf));show(aO,z,bK us 0 r gc)
#check _
noncomputable abbrev Sp:=ag->Hp->(bX VK XK)
noncomputable abbrev CXT:=bj mK Hp Shared XK aT
structure Env0 (P:Program) (w:World) (K:Zf) (mg:fA) (base:Heap) (A:Around) (outer:mK) (s:Shared) (H:Hp):Prop where
 frames:A.frames=some outer
 mod:Mod K mg base
 bs:(oX,base.get? b=some o,jN/\dN)
 bsz:base.objs.size<=s.heap.objs.size
 funs:s.heap.FunFrames base outer
 frf:∀ b∈frs outer,dN
 hok:HOk P w H s.heap
 bare:AllBare s.gens
noncomputable def CE (outer:mK) (P:Program) (w:World) (H:Hp) (s:Shared) (Q:VK) (u:Value) (s':Shared):Prop :=
 ∃ v H',s'.os=s.os/\(ax,PB,Un (frs outer) [] H H' s.heap s'.heap,HOk P w H' s'.heap,lI,Ab)
noncomputable def CR (CX:CXT) (outer:mK) (P:Program) (w:World) (H:Hp) (s:Shared) (Q:VK) (E:XK) (r:Result) (s':Shared):Prop :=
 match r with
 | FK u=>CE outer P w H s Q u s'
 | .ok _=>False
 | .error e=>CX outer H s E e s'
structure FnOk (q0:Bool) (P:Program) (w:World) (K:Zf) (mg:fA) (base:Heap) (CX:CXT) (k:Nat) (f:Addr) (fd:FuncData) (ps:ai) (sp:Sp):Prop where
 len:Gx
 run:∀(A:Around) (outer:mK) (s:Shared) (H:Hp) (args:Args) (us:aQ) (vs:ag) (Q:VK) (E:XK),Bj->Env0 P w K mg base A outer s H->BindsTo s fd args Tw->EM->Ey ->
  codeAny zm A (.call uI args) (CR CX outer P w H s Q E) s
theorem Env0.make {P:Program}{w:World}{K:Zf}{mg:fA}{base:Heap}{A:Around}{outer:mK}{s:Shared}{H:Hp} (e:Env0 P w K mg base A outer s H) (C:Addr) (us:aQ) (kw:AV) :
    Env0 P w K mg base (Nn Po) outer s H:=⟨by first|exact e.frames|(simpa [Around.under,Code.envs,Code.isFrame,pushEnvs] using e.frames),e.mod,e.bs,e.bsz,e.funs,e.frf,e.hok,e.bare⟩
section
variable {X:Cx}{pins:List (Addr × Obj)}{Z:St}{H:Hp}{s s':Shared}
theorem Inv.env0 (I:aq):Env0 X.prog X.w X.K X.mg X.base X.A X.stack s H :=
 ⟨I.ok.frames,I.ok.mod,I.bs,zcq,I.stack,I.stkFree,I.hok,I.bare⟩
theorem Inv.after {Q:VK}{u:Value} (I:aq) (h:CE X.stack X.prog X.w H s Q u s'):EP X pins Z Q u s':=by
 obtain⟨v,H',os,bare,un,hok,r,q⟩:86:=h;obtain⟨hh,g,d,t,os'⟩:=s';show(cX,os'=s.os,os);exact(bv,v,H',I.call (h':=hh) (g':=g) (d':=d) (t':=t) (ch:=[]) un hok bare (fun b z=>absurd z aj),r,q)
#check _
noncomputable def xtb (sp:Sp) (dvs:ag) (E:St->XK) (t:TA):TE:=(yk,vs,sp Cg H1 Q (E Z))
inductive xuk (C:Addr) (m:Str) (sp:Sp) (dvs:ag) (E:St->XK) (t:TA) (Z:St) (x:V) (H1:Hp) (Q:VK):Prop
 | mk (a dx fs) (e_:x=aB) (r_:H1 a=some E7/\fs.lookup m=none/\t Z H1 fun vs H2=>sp (x::Cg) H2 Q (E Z))
noncomputable def xtc (C:Addr) (m:Str) (sp:Sp) (dvs:ag) (E:St->XK) (ta:TE) (t:TA):TE:=(xX,xuk C m sp dvs E t Z x H1 Q)
noncomputable def xtf (C:Addr) (sp:Sp) (dvs:ag) (E:St->XK) (t:TA):TE:=fun Z H Q=>t Z H fun vs H1=>∀ x dx,H1 x=none->H1 dx=none->dx≠x ->
 (ziV (upd H1 dx (.own x)))
noncomputable def x0 (K:Zf) (fd:FuncData) (ps:ai) (ds:aQ):Prop :=
 ∀(s:Shared) (us:aQ),yZ->(Ct,(zS).length)->(zgz us (ps.zip zS))
theorem x0.all {K:Zf}{fd:FuncData}{ps:ai} (h:∀ us:aQ,ziZ fd):aS fd ps:=fun s us _ hl=>by
 rw[Qe] at hl ⊢;exact .of_eq (h us hl)
noncomputable def xeh (CX:CXT) (X:Cx) (E:St->XK):Prop:=∀(pins:aW) (Z:St) (H:Hp) (s:Shared) (e:Value) (s':Shared),aq->CX X.stack H s (E Z) e s'->X.xe e s'
section
variable {X:Cx}{CX:CXT}{k:Nat}{f C:Addr}{fd:FuncData}{ps:List Str}{sp:Sp}{dvs:List V}{ds:List Value}{E:St->XK}{x m:Str}{p pos apos:Pos}{e o:Expr}{es:List Expr}{ta:TE}{t:TA}
theorem xmt {pins:aW}{Z:St}{H:Hp}{s:Shared}{Q:VK}{us:aQ}{vs:ag} (F:FnOk q0 X.prog X.w X.K X.mg X.base CX k f fd ps sp) (hr:RA) (hb:AO) (hd:Bh) (hx:Bw)
    (I:aq) (r:EM) (h:sp Cg H Q (E Z)):wpAny aH X.A (call uI us) mo X.xe s:=by
  have r2:Vals Cg zS:=r.append hd;have hl:(zS).length=ps.length:=(bJ,r2.length,F.len _ _ _ _ h)
  refine Wi (YU (F.run X.A X.stack s H (i7 us) zS Cg Q (E Z) hr I.env0 (hb s us I.kIn hl) r2 h) (aL r s' hq));cases r with
  | error e=>exact hx pins Z H s e s' I hq
  | ok fl =>
    cases fl with
    | ret u=>exact I.after hq
    | next=>exact Yn hq
    | brk=>exact Yn hq
    | cont=>exact Yn hq
theorem xut (F:FnOk q0 X.prog X.w X.K X.mg X.base CX k f fd ps sp) (hr:RA) (hg:r8) (hm:A6 uI) (hk:J7 X.K uI=true) (hb:AO) (hd:Bh) (hx:Bw)
    (ha:BF) (hdb:nQ:=by decide) (he:xU:=by rfl) (hpl:(yW).any (·.1)=false:=by rfl) :
    GI (xtb sp dvs E t):=by
  intro pins s Z H Q I h;ext X7;show(An,WF (h₀:=X.base) I.ok.mod.kin hk (thn (ha pos pins s Z H _ I h) fun us s1 ⟨vs,H1,I1,r,q⟩=>eS I1.kIn) he hpl,xmt F hr hb hd hx I1 r q)
theorem xag {pl:UC} (he:PE X o ta) (c:KR) (hm:Meth X.K C m f) (F:FnOk q0 X.prog X.w X.K X.mg X.base CX k f fd ps sp) (hr:RA) (hb:AO) (hd:Bh) (hx:Bw) (ha:BF)
    (hst:xU:=by rfl) (hpl:(yW).any (·.1)=false:=by rfl)
    (ht:(im (Ay m nF pos))=(do
      let ov <- im o
      zve
      let (f,first) <- zns
      znz nF):=by rfl) :
    PE X (Ay m nF pos) (xtc C m sp dvs E ta t):=by
  intro pins s Z H Q I h;show(zmG,he pins s Z H _ I h,fun u s1 ⟨x,H1,I1,rx,a,dx,fs,ex,ea,l,q⟩=>?_);refine xi6 I1 ea c hm l ?_;show(An,WF (first:=fO) (h₀:=X.base) I.ok.mod.kin hm.kp (thn (ha pos pins s1 Z H1 _ I1 q) fun us s2 ⟨vs,H2,I2,r,q2⟩=>eS I2.kIn) hst hpl,xmt (us:=aB::us) (vs:=aB::vs) F hr hb hd hx I2 (d4 rfl r) q2)
theorem xcc {pl:UC} (he:PE X o ta) (c:KR) (hm:Meth X.K C m f) (F:FnOk q0 X.prog X.w X.K X.mg X.base CX k f fd ps sp) (hr:RA) (hb:AO) (hd:Bh) (hx:Bw)
    (ht:(im (Ay m [] pos))=(do
      let ov <- im o
      zve
      let (f,first) <- zns
      znz []):=by rfl) :
    PE X (Ay m [] pos) (xtc C m sp dvs E ta tNil):=by
  intro pins s Z H Q I h;show(zmG,he pins s Z H _ I h,fun u s1 ⟨x,H1,I1,rx,a,dx,fs,ex,ea,l,q⟩=>?_);show(An,xi6 I1 ea c hm l ?_,PySem.W.callWith_K0 (first:=fO) I1.kIn hm.kp (xmt (us:=fO) (vs:=fO) F hr hb hd hx I1 (Cp rfl) q))
structure Mk (K:Zf) (C f:Addr):Prop where
 makes:YI K C=true
 init:SQ "__init__"
 fn:cZ f
 kp:pI C
theorem xlg {pins:aW}{Z:St}{H:Hp}{s:Shared}{Q:VK}{us:aQ}{vs:ag} (M:Mk X.K C f) (F:FnOk q0 X.prog X.w X.K X.mg X.base CX k f fd ps sp) (hr:zdH) (hb:AO) (hd:Bh)
    (hx:Bw) (I:aq) (r:EM)
    (h:∀ x dx,(bq,bI x,bI dx,dx≠x,ziV (upd H dx (.own x)))) :
    wpAny aH X.A (call gD us) mo X.xe s:=by
  show(af,hq,h fV s.heap.objs.size (I.hok.fresh (JO _)) vp Tn,I2,Inv.made (C:=C) I);have r2:Vals (V.ref fV::Cg) (Zs fV::zS):=.cons rfl (r.append hd);have hl:(zgo++ds).length=ps.length:=by
    have e:=r2.length;show(cJ,F.len _ _ _ _ hq,e,e.symm)
  refine Wi (xsx (f:=f) I.kIn M.makes M.init (beq_iff_eq.mp M.fn) (YU (F.run _ X.stack _ _ (i7 zgo) (Zs fV::zS) _ _ (E Z) (hr.make C us [])
    (I2.env0.make C us []) (hb _ zgo I2.kIn hl) r2 hq) (aL r s' hq')))
  cases r with
  | error e=>exact hx pins Z _ _ e s' I2 hq'
  | ok fl =>
    cases fl with
    | ret u =>
      obtain⟨v,H',I3,rv,ev,q3⟩:84:=I2.after hq';subst ev;show(aO,rv,(dY,V.ref fV,H',I3,q3))
    | next=>exact Yn hq'
    | brk=>exact Yn hq'
    | cont=>exact Yn hq'
theorem xhk (M:Mk X.K C f) (F:FnOk q0 X.prog X.w X.K X.mg X.base CX k f fd ps sp) (hr:zdH) (hg:r8) (hm:A6 gD) (hb:AO) (hd:Bh) (hx:Bw)
    (ha:BF) (hdb:nQ:=by decide) (he:xU:=by rfl) (hpl:(yW).any (·.1)=false:=by rfl) :
    GI (xtf C sp dvs E t):=by
  intro pins s Z H Q I h;ext X7;show(An,WF (h₀:=X.base) I.ok.mod.kin M.kp (thn (ha pos pins s Z H _ I h) fun us s1 ⟨vs,H1,I1,r,q⟩=>eS I1.kIn) he hpl,xlg M F hr hb hd hx I1 r q)
theorem xmo (M:Mk X.K C f) (F:FnOk q0 X.prog X.w X.K X.mg X.base CX k f fd ps sp) (hr:zdH) (hg:r8) (hm:A6 gD) (hb:AO) (hd:Bh) (hx:Bw)
    (hdb:nQ:=by decide):PE X (.Call (.Name x p) [] [] pos) (xtf C sp dvs E tNil):=by
  intro pins s Z H Q I h;ext X7;exact PySem.W.callWith_K0 I.kIn M.kp (xlg (us:=[]) M F hr hb hd hx I .nil h)
#check _
structure xw (N P:ai) (sc:Scope):Prop where
 kind:sc.kind=.function
 co:zvh
 gen:zvg
 nd:N.Nodup
 pre:zuC
 par:∀ x∈P,Nb\/GF
 nofree:znt
theorem xkn {kindOf:OA}{x:Str}:zkz (zfJ binds)
 | [],_,_=>rfl
 | (n,v)::r,m,h=>by
  unfold bindL;rw[xkn (FS,h w (Zi _ hw))];split
  .ext zlO
  .rfl
theorem xjw {kindOf:OA}{x:Str}:zkz (zfI binds)
 | [],_,_=>rfl
 | (n,v)::r,m,h=>by
  unfold bindC;rw[xjw (FS,h w (Zi _ hw))];split
  .rfl
  .ext zlO
theorem xko {kindOf:OA}{x:Str}{v:Value}:∀{P:List Str}{vs:List Value}{i:Nat}{m:Str->Option Value},P.Nodup->P[i]?=some x->vs[i]?=some v->kindOf x=some .local ->
    (CT (zfJ (P.zip vs)))
  | [],_,_,_,_,h,_,_=>vM
  | b5,[],_,_,_,_,h,_=>vM
  | p::P,w::vs,0,m,nd,h1,h2,hk=>by
    ext ztS;show bindL kindOf OH m p=_;unfold bindL;rw[xkn (j9,hv,(Z8.mp nd).1 (zdq hv)),aC hk];simp
  | p::P,w::vs,aM,m,nd,h1,h2,hk=>by
    show (zfJ OH)=_;unfold bindL;exact xko (i:=i) (FY nd) nU AJ hk
theorem xkd {kindOf:OA}{x:Str}{v:Value}:∀{P:List Str}{vs:List Value}{i:Nat}{m:Str->Option Value},P.Nodup->P[i]?=some x->vs[i]?=some v->kindOf x≠some .local ->
    (CT (zfI (P.zip vs)))
  | [],_,_,_,_,h,_,_=>vM
  | b5,[],_,_,_,_,h,_=>vM
  | p::P,w::vs,0,m,nd,h1,h2,hk=>by
    ext ztS;show bindC kindOf OH m p=_;unfold bindC;rw[xjw (j9,hv,(Z8.mp nd).1 (zdq hv)),ay hk];simp
  | p::P,w::vs,aM,m,nd,h1,h2,hk=>by
    show (zfI OH)=_;unfold bindC;exact xkd (i:=i) (FY nd) nU AJ hk
noncomputable def start (N:ai) (vs:ag):St:=vs.map some++Ql (N.length-vs.length) none
noncomputable def cxOf (q0:Bool) (CX:CXT) (P:Program) (w:World) (K:Zf) (mg:fA) (base:Heap) (N:ai) (qual:Str) (scope:Scope) (f:Addr) (cd:Value) (A:Around) (outer:mK) (s:Shared) (H:Hp) (E:XK):Cx where
 prog:=P
 w:=w
 K:=K
 mg:=mg
 base:=base
 A:=A.deeper AX
 N:=N
 s₀:=s
 H₀:=H
 env:=AX
 outer:=outer
 stack:=AX::outer
 ex:=[]
 calm:=q0
 fn:=SJ
 pn:=[]
 xe:=(nI,e,wpAny zm (A.deeper AX) (leaving AX e) (fun _ s''=>CX outer H s E e s'') (fun e' s''=>CX outer H s E e' s'') s')
theorem xmy {sc:Scope}{n:Nat}{x:Str} (h:GF):∃ c,(cellsFrom n sc.names []).lookup x=some c:=by
 have q:=PySem.W.cellsFrom_some sc.names n [] (.inl h);exact QZ.mp q
theorem xpv {CX:CXT}{P:Program}{w:World}{K:Zf}{mg:fA}{base:Heap}{N ps:ai}{qual:Str}{scope:Scope}{f:Addr}{cd:Value}{A:Around}{outer:mK}{s s1:Shared}{H:Hp}{E:XK}{us:aQ}{vs:ag}
    (S:xw N ps scope) (hd:zpt) (e0:Env0 P w K mg base A outer s H) (hl:Ct vs.length) (r:EM)
    (x:InCallC s s.heap.objs.size (bindL (AX).kindOf Tw eX) zpn (bindC (AX).kindOf Tw eX) s1) :
    Inv (cxOf q0 CX P w K mg base N qual scope f cd A outer s H E) [] Te H s1:=by
  have hpl:ps.length<=N.length:=by show(Bs,S.pre); ext qH Yd; omega
  show(iF,h1,tk,rfl,hk,x.done)
  have noA:∀ b:Addr,b∉(cxOf q0 CX P w K mg base N qual scope f cd A outer s H E).ex:=fun b z=>absurd (LF zfR) aj;refine⟨⟨e0.mod,S.kind,rfl,rfl,bo,bC y z c h1 h2,zn,fun y c _ h=>?_,hd,Around.frames_deeper e0.frames,.inr kL,zqg,e0.bs,e0.bsz,fun b _ _=>noA b,zqg,e0.funs,e0.frf⟩,
    rfl,e0.bare,Un.kept hk,(cq,x.toInCall.ns,fun i y v h1 h2 h3=>?_),Mq (gF,x.cell y c h),e0.hok.fresh (Zj _),Ks,(fG,absurd (show p∈([]:aW) from hp) aj),e0.hok.kept hk,?_⟩
  . exact name_of_addr x.apart (Jy h1) (Jy h2)
  . have hy:scope.names.lookup y=some .cell\/scope.names.lookup y=some .free:=hy
    rcases hy with hy|hy
    . exact xmy hy
    . show(j4,S.nofree _ (Jy hy))
  . exact J6 (x.above y c (Jy h))
  . have hi:i<vs.length:=by
      unfold start at h2;by_cases hi:i<vs.length
      . exact hi
      . rw[J4 zcd] at h2
        rw[Ym] at h2;ext LK h2
    have ha:aF vs v:=by
      unfold start at h2;rw[ZV zcd,Zd] at h2;cases e:vs[i]? with
      | none=>ext cH e h2
      | some a=>ext bA e h2 h2; rfl
    show(ae,u,hu,rv,r.get ha);have hp:aF ps y:=by
      rw[<- S.pre,List.getElem?_take_of_lt aa]; exact h1
    show(ap,ndP,ps.Nodup,by rw[<- S.pre]; exact S.nd.sublist (QS _ _),fJ u rv);rcases S.par y (Zn hp) with k|k
    . show(cY,⟨k,xko ndP hp hu k⟩)
    . show(jU,c,xmy (n:=fV) k)
      show(uY,⟨.inl k,c,e,?_⟩);have q:=x.cell y c e;show(cJ,xkd ndP hp hu (by show zue≠_; rw[k]; decide),q,q)
  . exact e0.hok.fresh (J6 (x.above y c (Jy h)))
  . unfold start
    show _=N.length;rw[Zr,Za,YM];omega
theorem xo6 {CX:CXT}{P:Program}{w:World}{K:Zf}{mg:fA}{base:Heap}{k:Nat}{f:Addr}{name qual:Str}{params:Arguments}{body:BJ}{scope:Scope}{dV kV doc pm cdv ct oc:Value}{an od:js}
    {osl:AC}{N ps:ai}{sp:Sp} (lk:GV (JC name qual params body scope dV kV doc pm an cdv ct)) (hcd:Hf) (S:xw N ps scope)
    (len:Gx)
    (hbody:∀(A:Around) (outer:mK) (s:Shared) (H:Hp) (vs:ag) (Q:VK) (E:XK),(zcJ (XY scope cdv))->Ey ->
      (MP (cxOf q0 CX P w K mg base N qual scope f cdv A outer s H E) body)) :
    FnOk q0 P w K mg base CX cL f (JC name qual params body scope dV kV doc pm an cdv ct) ps sp:=by
  show(dE,len,fun A outer s H args us vs Q E hr e0 hb r hsp=>?_);have hl:=len _ _ _ _ hsp;have KX:yZ:=e0.mod.kin.keeps (sF,(e0.bs b o e).1);have lim:s.heap.NoLimit:=e0.mod.nolimit.keeps (sF,(e0.bs b o e).1);have hkind:∀ y∈Tw,(Xt .local)\/((Xt .cell)/\(gT ((zpn).lookup jf))):=fun⟨n,v⟩ hy=>by
    rcases S.par n (zdq hy) with q|q
    . ext cY q
    . show(oI,q,PySem.W.cellsFrom_some _ _ _ (.inl q))
  refine codeAny_call_function hr.depth (KX _ _ lk) rfl S.co S.gen rfl (PySem.W.codeRec_of KX hcd) (hb _ _ _ _ ?_);refine wpAny_newFunctionEnv_cells S.kind hkind (cu env he s1 x);subst he;show(dE,lim.keeps x.toInCall.keep,codeAny_func ?_);show(ae,t,ht,hq,hbody A outer s H vs Q E (hr.deeper _) hsp);have I:Inv (cxOf q0 CX P w K mg base N qual scope f cdv A outer s H E) [] Te H s1:=xpv S hr.hd e0 hl r x;refine Ja (ht [] s1 Te H _ I hq) (aL fl s' hs) fun e s' hs=>hs;have fin:∀{σ':St}{H':Hp}{v:V}{u:Value},(bq,Inv (cxOf q0 CX P w K mg base N qual scope f cdv A outer s H E) [] σ' H' s',lI,Ab,CE outer P w H s Q u s') :=
    fun {σ' H' v u} J rv q=>⟨86,v,H',J.os,J.bare,J.base,J.hok,rv,q⟩
  cases fl with
  | ret u =>
    obtain⟨v,σ',H',J,rv,q⟩:103:=hs;exact fin J rv q
  | next =>
    show(iF,σ',H',J,q,hs);exact fin (v:=V.non) (u:=JE) J rfl q
  | brk =>
    ext zpG
  | cont =>
    ext zpG
section
variable {X:Cx}{x:Str}{p pos:Pos}{e:Expr}{es:List Expr}{t:TA}{id T:String}{r:List V->Hp->VK->Prop}
noncomputable def tCB (r:ag->rZ) (t:TA):TE:=(yk,vs,r vs H1 Q)
theorem xac (hc:xcf X (oU id) r) (hg:r8) (hm:qj x) (hv:Op (oU id)) (ha:BF) (hn:Ik:=by decide) (hdb:nQ:=by decide)
    (he:xU:=by rfl) (hpl:(yW).any (·.1)=false:=by rfl):GI (tCB r t):=by
  intro pins s Z H Q I h;refine JN (xcr I hg hm hv ?_ hn hdb);exact Q1 (thn (ha pos pins s Z H _ I h) fun us s1 ⟨vs,H1,I1,r1,q1⟩=>hc pins s1 Z H1 vs us Q I1 r1 q1) he hpl
theorem xb2 (hc:xcf X (fU T) r) (hg:r8) (hm:qj x) (hv:Op (fU T)) (ha:BF) (hn:Ik:=by decide) (hdb:nQ:=by decide)
    (he:xU:=by rfl) (hpl:(yW).any (·.1)=false:=by rfl):GI (tCB r t):=by
  intro pins s Z H Q I h;refine JN (xcr I hg hm hv ?_ hn hdb);exact Jo (thn (ha pos pins s Z H _ I h) fun us s1 ⟨vs,H1,I1,r1,q1⟩=>hc pins s1 Z H1 vs us Q I1 r1 q1) he hpl
#check _
#check L2
namespace HT
open PySem PyProof.Rows
section
variable {prog:Program}{w:World}{A:Around}{E:Value->Shared->Prop}{s:Shared}
theorem cat_tup {t b:Addr}{vs ws:aQ}{Q:aT} (ht:IsTup s.heap t vs.toArray) (hb:IsTup s.heap b ws.toArray) (hv:vs≠[])
    (h1:ws=[]->Q uF s) (h2:ws≠[]->Q ie { s with heap:=znw (vs++ws) })
    (hsz:(dB,vs.length+ws.length)):wpAny aR A (binaryOp .Add uF cW) Q E s:=by
  obtain⟨⟨cls,dd,data,sl⟩,ho,hc,⟨n,hd⟩⟩:63:=id ht;obtain⟨⟨cls2,dd2,data2,sl2⟩,ho2,hc2,⟨n2,hd2⟩⟩:63:=id hb;simp only at hc hd hc2 hd2;subst hc hd hc2 hd2;have e:vs.toArray++ws.toArray=(vs++ws).toArray:=aj
  by_cases hw:ws=[]
  . exact concat_meets (cP ho) (cP ho2) noFill_tuple_add seq_tuple_add PySem.F.slot_tuple_add PySem.F.entry_tuple_add zpc
      (tuple_addW1 t b vs.toArray ws.toArray n n2 dd dd2 sl sl2 (by simpa using hv) (bF hw)) ⟨ho,ho2,h1 hw⟩
  . refine concat_meets (cP ho) (cP ho2) noFill_tuple_add seq_tuple_add PySem.F.slot_tuple_add PySem.F.entry_tuple_add zpc
      (tuple_addW2 t b vs.toArray ws.toArray n n2 dd dd2 sl sl2 (by simpa using hv) DG (qr Z6 Z6 hsz)) (fJ ho ho2)
    rw[e];exact h2 hw
noncomputable def sIx (n d:Nat):iY->Nat
 | none=>d
 | ff=>VW
theorem sIx_none (n d:Nat):sIx n d none=d:=rfl
theorem sIx_nat (n d k:Nat):sIx n d (some iu)=min k n:=by
 show (gW,iu,0,(iu+jE).toNat,min (iu).toNat n)=min k n;rw[rT,Y1]
theorem xv4 (n d:Nat) (hd:d<=n) (o:iY):sIx n d o<=n:=by
 cases o with
 | none=>exact hd
 | some v =>
  show VW<=n;by_cases hv:v<0
  .rw [aC hv]; omega
  .show(c9,ay hv,Nat.min_le_right _ _)
theorem xn4 (v:Int) (n d:Nat):znX=(dW,sIx n d ff):=by
 show znX=(dW VW)
 by_cases hv:v<0
 .simp only [aC hv]; omega
 .simp only [ay hv]; omega
theorem xoj (lo hi:iY) (n:Nat):zmk=(Pu,(dW,sIx n n hi)):=by
 have h1:¬ (w6<0):=aa
 unfold Builtin.Slice.sliceAdjust;simp only[h1,if_false];refine Prod.ext ?_ ?_
 .cases lo with
  | none=>rfl
  | some v=>exact xn4 v n 0
 .cases hi with
  | none=>rfl
  | some v=>exact xn4 v n n
theorem xog (i j:Nat):Builtin.Slice.slicePlaces dD m6 1=j-i:=by
 unfold Builtin.Slice.slicePlaces;have h1:w6>0:=aa
 simp only[h1,if_true,Int.ediv_one];ext iG
theorem xis {v:Value}{o:iY}{Q:dU iY} (p:IsPart v o) (h:Q o s):wpAny aR A (Builtin.Slice.slicePartIndex v) Q E s:=by
 cases p with
 | none=>exact slicePart_none h
 | int i t=>exact slicePart_int h
theorem xh0 {sl:Addr}{vl vu:Value}{lo hi:iY}{n:Nat}{Q:(dU,Int × Int × Nat)} (hs:WJ) (pl:zeP) (pu:zeO)
    (h:Q (Pu,1,sIx n n hi-sIx n 0 lo) s):wpAny aR A (Builtin.Slice.sliceApplied (.ref sl) (pure jE)) Q E s:=by
  show(b9,os,hos,hcs,hds,id hs);unfold Builtin.Slice.sliceApplied Builtin.Slice.sliceFields;refine Zc (Zc (QN hos hds (x:=vl) rfl (Zc (QN hos hds (x:=vu) rfl (Zc (QN hos hds (x:=.none) rfl (Zk ?_)))))));refine Zc (slicePart_none ?_);show wpAny _ _ (cM (w6 == 0) _ _) _ _ s;rw[ay ao];show(br,xis pl (Zc (xis pu (Zc (Zk ?_)))));show wpAny _ _ (match zmk with|(lo,hi)=>pure (lo,w6,Builtin.Slice.slicePlaces lo hi 1)) _ _ s;rw[xoj lo hi n];show wpAny _ _ (pure (Pu,w6,Builtin.Slice.slicePlaces Pu (dW,sIx n n hi) 1)) _ _ s;rw[xog];exact Zk h
theorem xst (xs:gS) (i k:Nat):((Zx k).filterMap (gm m zoW)).toArray=((xs.toList.drop i).take k).toArray:=by
 have e:(gm m zoW)=fun m=>xs[i+m]?:=by
  funext m;have:(dD+(cE m)*1).toNat=i+m:=aa
  rw[this]
 rw[e];have:=pick_run xs i k;ext qH QK;have e2:((j8,xs[x]?)∘(j8,i+x))=fun m=>xs[i+m]?:=rfl;ext qH e2;rw[this]
theorem getItem_tuple_cut {t sl:Addr}{items:gS}{vl vu:Value}{lo hi:iY}{Q:aT} (ht:IsTup s.heap t items) (hs:WJ) (pl:zeP) (pu:zeO)
    (hw:¬ (yj=0/\Av=items.size))
    (h:(DY,ie,znw ((VJ).take (Av-yj))))
    (hsz:dB items.size):wpAny aR A (getItem uF (.ref sl)) Q E s:=by
  have htake:sizeOk (.seq ((VJ).take (Av-yj)).toArray):=by
    show (dB,((VJ).take (Av-yj)).toArray.size);rw[Z6,Yd,List.length_drop,Jc];omega
  have hj:Av<=items.size:=xv4 _ _ bo hi;show(b9,os,hos,hcs,hds,id hs);have hTs:s.TypeIs (.ref sl) "slice":=⟨os,hos,hcs⟩
  unfold getItem
  try with_reducible refine ZZ ?_
  first|ext vI|skip
  show(br,wpAny_sequenceKey ht.typeIs ao ?_);refine Zc (JR (name:=ZE "__getitem__") ht.typeIs Qq
    (Jz Qq ht.typeIs entry_tuple_getitem ?_ (args_tuple_getitem _ _)))
  show wpAny _ _ (Builtin.Tuple.tupleItemsOf uF>>=_) _ _ s;show(br,tupleItemsOf_ ht ?_);show(br,Wl hTs ?_);rw[aC ao];show(br,xh0 hs pl pu ?_);have hno:¬ (zjp=true):=by
    intro q;rw[Z9,Z9] at q;have q1:(dW yj)=0:=QG q.1.1;have q2:Av-yj=items.size:=QG q.2;exact hw (j0 aa)
  show wpAny _ _ (cM zjp _ _) _ _ s;rw[ay hno,xst]
  first
    | exact Nq (JW (Zk To) htake)
    | exact Nq (JW (Zc (Zk (Zk To))) htake)
    | exact Zc (Nq (JW (Zk (Zk To)) htake))
    | exact Zc (Nq (JW (Zk To) htake))
#check _
#check HT
namespace L2
open PySem PySem.Spec PyProof.Rows
variable {q0:Bool}
noncomputable abbrev TO:=St->(sL (nG iY))
noncomputable def PO (X:Cx) (e:dc Expr) (t:TO):Prop :=
 ∀(pins:List (Addr × Obj)) (s:Shared) (Z:St) (H:Hp) (Q:nG iY),aq->B4 ->
  wpAny aH X.A (evalPart e X.env) (nI,u,∃ o H',vZ/\IsPart u o/\Q o H') X.xe s
noncomputable def xty:TO:=(Fw,Q none H)
noncomputable def xyf (t:TE):TO:=(i9,Q,t Z H fun x H1=>∃ i,x=cO/\Q wZ H1)
theorem xie {ns:iI}:∀{us:aQ},Vals (ns.map V.int) us->IntsAre us ns:=by
 induction ns with
 | nil=>intro us r; show(bA,List.map_nil,r,r); ext eI
 | cons n ns ih =>
  intro us r;rw[Zo] at r;cases r with
  | cons r1 r2 =>
   ext jU t r1;ext dw;exact .cons n t (ih r2)
section
variable {X:Cx}{e:Expr}{te:TE}{lo hi:Option Expr}{tl th:TO}{pos p2:Pos}
theorem xeo:PO X none xty:=by
 intro pins s Z H Q I h;rw[evalPart_none];exact Zk (bv none H I .none h)
theorem xep (h:tW):PO X (some e) (xyf te):=by
 intro pins s Z H Q I hw;rw[evalPart_some];show(jH,h pins s Z H _ I hw,fun u s1 ⟨x,H1,I1,r1,q1⟩=>?_);show(ae,i,rfl,q,q1);ext iW r1;exact bv wZ H1 I1 Ls q
noncomputable def SlR (X:Cx) (r:Ph):Prop :=
 ∀(pins:aW) (s:Shared) (Z:St) (H:Hp) (x:V) (v vl vu:Value) (lo hi:iY) (sl:Addr) (Q:VK),aq->ug->WJ->zeP->zeO->r x lo hi H Q ->
  ∃ T id,zjx/\s.TypeIs v T/\wpAny aH X.A (getItem v (.ref sl)) mo X.xe s
noncomputable def tSl (r:V->iY->iY->rZ) (te:TE) (tl th:TO):TE:=(i9,Q,te Z H fun x H1=>tl Z H1 fun l H2=>th Z H2 fun u H3=>r x l u H3 Q)
theorem xd5 {r:Ph} (hr:SlR X r) (he:tW) (hl:PO X lo tl) (hu:PO X hi th):PE X (.Subscript e ztH pos) (tSl r te tl th):=by
 intro pins s Z H Q I h;refine Subscript_ (thn (he pins s Z H _ I h) fun v s1 ⟨x,H1,I1,r1,q1⟩=>?_);refine wpAny_Slice (thn (hl pins s1 Z H1 _ I1 q1) fun vl s2 ⟨l,H2,I2,pl,q2⟩=>thn (hu pins s2 Z H2 _ I2 q2) fun vu s3 ⟨u,H3,I3,pu,q3⟩=>?_);rw[evalPart_none];ext ur;have I4:b8 H3 Vb:=I3.kept (t':=s3.toks) (iU ob q Gb);obtain⟨T,id,hT,ht,hg⟩:83:=hr pins Vb Z H3 x v vl vu l u s3.heap.objs.size Q I4 r1 (Heap.IsSliceOf.new ..) pl pu q3;show wpAny aH X.A (subscriptTail e ztH v zsC) mo X.xe Vb;exact tail_any (ops:=[zsC,v]) ht hT hg (by with_unfolding_all rfl)
noncomputable def cutV (xs:ag) (lo hi:iY):ag:=(xs.drop (HT.sIx xs.length 0 lo)).take ((Gj xs.length)-N8)
theorem xhs (xs:ag) (lo hi:iY):(zel).length<=xs.length:=by
 unfold cutV;rw[Yd,List.length_drop];omega
noncomputable def rSlT (K:Zf):Ph:=fun x lo hi H Q=>∃ a xs,x=aB/\IM /\
 ¬ (N8=0/\(Gj xs.length)=xs.length)/\(Ee (ez H p zel))
theorem xmw:SlR X (rSlT X.K):=by
 intro pins s Z H x v vl vu lo hi sl Q I rx hs pl pu h;obtain⟨a,xs,rfl,hx,hw,q⟩:84:=h;ext fS;show(j7,r,ht,hz,I.tuple hx);have hlen:its.toArray.size=xs.length:=aD Z6 r.length.symm
 refine⟨83, "tuple",_,Qq.lookup,ht.typeIs,?_⟩;refine HT.getItem_tuple_cut ht hs pl pu (aD hlen hw) ?_ (aD hlen hz);rw[hlen];refine(CJ,(VN,.tup (cutV xs lo hi)),q _ vp);exact⟨ztx,_,(zof).take ((Gj xs.length)-N8),IsTup.new _ _⟩
inductive xk5 (K:Zf) (x:V) (y:V) (H:Hp) (Q:VK):Prop
 | mk (a b xs ys) (e_:x=aB) (r_:bc y cW IM (ax,SqT K H b ys,xs≠[],(dB,xs.length+ys.length),ys=[]->Q aB H,ys≠[]->(Ee (ez H p (xs++ys)))))
theorem Vals.nil_iff {xs:ag}{us:aQ} (r:ku):us=[]↔xs=[]:=by
 cases r with
 | nil=>simp
 | cons _ _=>simp
theorem xg8:OpR X (binaryOp .Add) (xk5 X.K):=by
 intro pins s Z H x y v u Q I rx ry h;obtain⟨a,b,xs,ys,rfl,rfl,ha,hb,hx,hz,q1,q2⟩:=h;ext fS;ext gL;show(on,its,r1,p1,I.tuple ha);show(on,its2,r2,p2,I.tuple hb);refine HT.cat_tup p1 p2 (aA,hx (r1.nil_iff.mp z)) (aA (dY,aB,H,I,q1 (r2.nil_iff.mp z))) lM (by rw[<- r1.length,<- r2.length]; exact hz);refine(CJ,(VN,.tup (xs++ys)),q2 (fun w=>z (r2.nil_iff.mpr w)) _ vp);exact⟨aD Zr hz,_,r1.append r2,IsTup.new _ _⟩
#check _
noncomputable def ixN (n:Nat) (i:Int):dc Nat:=if 0<=i then (CI eF i.toNat) else (CI,-jE<=i,(i+n).toNat)
noncomputable def atI {α:Type} (xs:cT) (i:Int):dc α:=(ixN xs.length i).bind fun j=>xs[j]?
theorem xn9 {n:Nat}{i:Int}{j:Nat} (h:ixN n i=some j):(bD,seqIndex? i n=some j,j<n,-jE<=i,eF):=by
 unfold ixN at h;by_cases h0:0<=i
 .show(gM,aC h0);by_cases h1:eF
  .show(ztu,i.toNat,cI (cA,seqIndex_of h0 h1,e) aa aa h1)
  .show(gM,ay h1); cases h
 .show(gM,ay h0);by_cases h1:-jE<=i
  .show(ztu,(i+n).toNat,cI (cA,seqIndex_neg aa h1,e) aa h1 aa)
  .show(gM,ay h1); cases h
theorem xjn {α:Type}{xs:cT}{i:Int}{v:α} (h:zcS):∃ j,(ax,seqIndex? i xs.length=some j,bQ xs v,j<xs.length,-cE xs.length<=i,SI):=by
 unfold atI at h;cases e:ixN xs.length i with
 | none=>ext cH e h
 | some j =>
  rw[e] at h;show(oA,h1,h2,h3,h4,xn9 e);exact⟨65,j,h1,h,h2,h3,h4⟩
theorem xea {α:Type}{xs:cT}{j:Nat}{v:α} (h:bQ xs v):(CT,atI xs m6):=by
 have hj:j<xs.length:=(Zl.mp h).1;have e:ixN xs.length m6=some j:=by
  unfold ixN;rw[aC aa,aC aa]; simp
 unfold atI; ext aK e h
noncomputable def xvi (b:Expr):Prop:=∀ o i,subscripted b false o i=operate [o,i] (getItem o i)
noncomputable def IxR (X:Cx) (r:R2):Prop :=
 ∀(value slice:Expr) (pins:aW) (s:Shared) (Z:St) (H:Hp) (x y:V) (v u:Value) (Q:VK),aq->ug->hJ->r x y H Q ->
  subscripted slice false v u=operate [v,u] (getItem v u)->wpAny aH X.A (subscriptTail value slice v u) mo X.xe s
noncomputable def MtR (X:Cx) (id:String) (r:SH):Prop :=
 ∀(pins:List (Addr × Obj)) (s:Shared) (Z:St) (H:Hp) (x:V) (xs:List V) (v:Value) (us:List Value) (Q:VK),Inv X pins Z H s->RelV x v->Vals xs us->r x xs H Q ->
  wpAny aH X.A (vK id (v::us)) mo X.xe s
section
variable {X:Cx}{a b:Expr}{ta tb:TE}{pos:Pos}
theorem xae {r:R2} (hr:IxR X r) (ha:qg) (hb:zk) (hs:xvi b):PE X (.Subscript a b pos) SA:=by
 intro pins s Z H Q I h;exact Subscript_ (binT ha hb I h fun v u s2 x y H2 I2 rx ry q=>hr a b pins s2 Z H2 x y v u Q I2 rx ry q (hs _ _))
inductive rIxL (K:Zf) (x:V) (y:V) (H:Hp) (Q:VK):Prop
 | mk (p xs i v) (e_:x=eB) (r_:(hZ,y,cO,R6,zcS,Q v H))
inductive rIxT (K:Zf) (x:V) (y:V) (H:Hp) (Q:VK):Prop
 | mk (p xs i v) (e_:x=eB) (r_:(hZ,y,cO,zfc,zcS,Q v H))
inductive rIxS (x:V) (y:V) (H:Hp) (Q:VK):Prop
 | mk (z i c) (e_:x=oP) (r_:(hZ,y,cO,dB z.length,atI z.cps.toList i=some c,Q (.str ⟨#[c]⟩) H))
theorem xa4:IxR X (rIxL X.K):=by
 intro value slice pins s Z H x y v u Q I rx ry h hs;obtain⟨p,xs,i,z,rfl,rfl,hq,he,q⟩:=h;ext fS;ext iW ry;ext zfN hq;obtain⟨j,h1,h2,h3,h4,h5⟩:65:=xjn he;ext zkZ;have fin:EP X pins Z Q w s:=bv z H I rw' q
 by_cases h0:0<=i
 .have hj:i.toNat=j:=by
   ext zqI h5
  exact item_listR pl.isList h0 aa zra fin hs
 .have hj:(i+ztm).toNat=j:=by
   ext zlT h4
  exact subscriptTail_builtinR (x:=w) pl.isList.typeIs slot_list_getitem.lookup
   (wpAny_getItem_list_neg (Q:=(nI,r,r=w/\EP X pins Z Q r s')) pl.isList aa (by rw[Z6]<;>omega) aa zra (dC fin)) hs
theorem xat:IxR X (rIxT X.K):=by
 intro value slice pins s Z H x y v u Q I rx ry h hs;obtain⟨p,xs,i,z,rfl,rfl,hq,he,q⟩:=h;ext fS;ext iW ry;show(j7,r,pl,hz,I.tuple hq);obtain⟨j,h1,h2,h3,h4,h5⟩:65:=xjn he;ext zkZ;have fin:EP X pins Z Q w s:=bv z H I rw' q
 exact subscriptTail_builtinR (x:=w) pl.typeIs slot_tuple_getitem.lookup
  (getItem_tuple (j:=j) (Q:=(nI,r,r=w/\EP X pins Z Q r s')) pl aa aa (by rw[Z6,<- hl]; exact h1) (by simpa using ew) (dC fin)) hs
theorem xrr:IxR X rIxS:=by
 intro value slice pins s Z H x y v u Q I rx ry h hs;obtain⟨z,i,c,rfl,rfl,hz,he,q⟩:=h;ext i8;ext f8;obtain⟨j,h1,h2,h3,h4,h5⟩:65:=xjn he;have hl:z.cps.toList.length=z.length:=bF Str.length
 rw[hl] at h1 h4 h5;have hn:=xe2;exact tail_any (typeIs_str s z t) slot_str_getitem.lookup (getItem_str (c:=c) (by
  have e1:Kl (i < -(cE,2 ^ 63)):=decide_eq_false aa;have e2:Kl (i>=2 ^ 63):=decide_eq_false aa;rw[e1,e2,Bool.or_false]) (by rw[h1]; simpa using h2) (bv,.str ⟨#[c]⟩,H,i0,gf,q)) hs
theorem xpm (its:aQ) (n j:Nat) (u:Value):JT (·.setIfInBounds j u) Au=(eg,"list",.seq (its.set j u).toArray n):=by
 simp[JT]
theorem Inv.lst {pins:aW}{Z:St}{H:Hp}{s:Shared}{p:Addr}{xs:ag} (I:aq) (h:yU p) :
    (zds,yX/\(vx p Au)/\vC):=by
  show(zdV,I.hok p _ h);exact bv its n r e z
theorem Inv.lstUpd {pins:aW}{Z:St}{H:Hp}{s:Shared}{p:Addr}{xs ys:ag}{its its':aQ}{n n':Nat}{f:Obj->Obj} (I:aq) (h:yU p)
    (ho:vx p Au) (hf:f Au=znm) (r:Vals ys its') (hz:P9) (t:Nat) :
    b8 (cF H p ys) { s with heap:=s.heap.update p f,toks:=t }:=by
  have e:(s.heap.update p f).get? p=some znm:=by
    rw[JJ f ho (by rw[hf]<;>rfl),hf]
  refine I.write (x:=p) (e:=p) (by rw[h]; trivial) eZ (fun b u hb q=>(YF _ _ (Z2 hb)).trans q) (gF e) ?_;show(aO,hz,bK its' n' r e)
noncomputable def xyw:bq V V V (sL BV):=fun o i v H Q=>∃ p xs k j,(ax,o=eB,i=.int k,yU p,ixN xs.length k=some j,Q zsV)
theorem xd7:PSet X xyw:=by
 intro pins s Z H o i v ov iv u Q I ro ri rv h;obtain⟨p,xs,k,j,rfl,rfl,hp,hj,q⟩:125:=h;cases ro;ext iW ri;obtain⟨its,n,r,ho,hz⟩:83:=I.lst hp;show(oA,h1,h2,h3,h4,xn9 hj);show(af,hl,r.length,hn,xe2);have I':Inv X pins Z zsV { s with heap:=s.heap.update p (JT (·.setIfInBounds j u)) } :=
  I.lstUpd hp ho (xpm its n j u) (r.set rv j) (aD List.length_set hz) s.toks
 by_cases h0:0<=k
 .have hk:k.toNat=j:=by
   ext zqI h4
  exact PySem.W.ki_setAt ho h0 aa (by rw[Z6,<- hl]; exact h4) zqO
 .have hk:(k+ztm).toNat=j:=by
   ext zlT h3
  exact PySem.W.ki_setBack ho aa (by rw[Z6,<- hl]; exact h3) aa zqO
theorem xl5 (lo hi:iY) (n:Nat):(bc,(XM).1,(dW,HT.sIx n 0 lo),(bg XM)=(dW,Gj n),(b6 XM)=1):=by
 show(cR,?_,?_,rfl)
 .cases lo with
  | none=>simp[sliceBounds,HT.sIx]
  | some i =>
   ext zih
   .simp only [h,if_true]<;>omega
   .ext zuZ
 .cases hi with
  | none=>simp[sliceBounds,HT.sIx]
  | some i =>
   ext zih
   .simp only [h,if_true]<;>omega
   .ext zuZ
theorem xkx (its:aQ) (lo hi:iY):slicePick its.toArray lo hi none=((its.drop (HT.sIx its.length 0 lo)).take ((Gj its.length)-HT.sIx its.length 0 lo)).toArray:=by
 show(gX,h1,h2,h3,xl5 lo hi its.toArray.size);unfold slicePick;rw[h1,h2,h3];simp only[sliceRange_one,pick_run,Z6]<;>rfl
noncomputable def rSlL (K:Zf):Ph:=fun x lo hi H Q=>∃ a xs,bc x aB re (Ee (cF H p zel))
theorem xi8:SlR X (rSlL X.K):=by
 intro pins s Z H x v vl vu lo hi sl Q I rx hs pl pu h;obtain⟨a,xs,rfl,hx,q⟩:83:=h;ext fS;show(j7,r,ht,hz,I.list hx);show(sM,hlen,r.length,⟨83, "list",_,slot_list_getitem.lookup,ht.isList.typeIs,?_⟩);refine wpAny_getItem_list_slice ht.isList hs pl pu .none aj ?_ (by rw[Z6]<;>omega);rw[xkx,<- hlen];refine(CJ,(VN,.lst (cutV xs lo hi)),q _ vp);show(aO,ztx,(bK,_,0,(zof).take ((Gj xs.length)-N8),gc))
noncomputable def xeb:V->Bool
 | .non=>true
 | xM=>true
 | qx=>true
 | mX=>true
 | _=>false
noncomputable def eqV:V->V->Bool
 | .non,.non=>true
 | .bl a,xL=>FT
 | .bl a,.int b=>(zfE a) == b
 | .int a,xL=>a == (tF 1 0)
 | .int a,.int b=>FT
 | .str a,.str b=>FT
 | _,_=>false
theorem xw0 {A:Around}{s:Shared}{y x:V}{u v:Value} (ry:hJ) (rx:ug) (fy:xeb y=true) (fx:zfg):Z3 A s u v (eqV y x):=by
 cases y with
 | non =>
  ext gL;cases x with
  | non=>ext fS; exact Z3.same _
  | bl b=>ext fS; exact Z3.none_bool b
  | int b=>ext i8; exact Z3.none_int b t
  | str b=>ext i8; exact Z3.none_str b t
  | _=>ext AT fx
 | bl a =>
  ext gL;cases x with
  | non=>ext fS; exact Z3.bool_none a
  | bl b=>ext fS; exact Z3.bool_bool a b
  | int b=>show(CQ,Z3.bool_int a b t)
  | str b=>show(CQ,Z3.bool_str a b t)
  | _=>ext AT fx
 | int a =>
  ext f8;cases x with
  | non=>ext fS; exact Z3.int_none a t'
  | bl b=>ext fS; exact Z3.int_bool a t' b
  | int b=>show(CQ,Z3.int_int a t' b t)
  | str b=>show(CQ,Z3.int_str a t' b t)
  | _=>ext AT fx
 | str a =>
  ext f8;cases x with
  | non=>ext fS; exact Z3.str_none a t'
  | bl b=>ext fS; exact Z3.str_bool a t' b
  | int b=>show(CQ,Z3.str_int a t' b t)
  | str b=>show(CQ,Z3.str_str a t' b t)
  | _=>ext AT fx
 | _=>ext AT fy
noncomputable def eqU (x:V) (u:Value):Bool:=match u with
 | .none=>eqV .non x
 | .bool b=>eqV (.bl b) x
 | .int i _=>eqV (.int i) x
 | .str z _=>eqV (.str z) x
 | _=>false
theorem xqh {x y:V}{u:Value} (r:hJ) (f:xeb y=true):eqU x u=eqV y x:=by
 cases y with
 | non=>ext jM r
 | bl b=>ext jM r
 | int i=>ext Ft
 | str z=>ext Ft
 | _=>ext AT f
theorem xfx {x:V}:(Ri,ku->zbX->us.any (eqU x)=zrJ)
 | _,_,.nil,_=>rfl
 | y::xs,u::us,ue,f=>by
  rw[Q7,Z9] at f;rw[JS,JS,xqh r f.1,xfx t f.2]
theorem xe3 {A:Around}{s:Shared}{x:V}{v:Value} (rx:ug) (fx:zfg):(Ri,ku->zbX->∀ u∈us,Z3 A s u v (eqU x u))
 | _,_,.nil,_=>fun u hu=>by cases hu
 | y::xs,u::us,ue,f=>fun u' hu=>by
  rw[Q7,Z9] at f;rcases dI hu with rfl|hu
  .show(c9,xqh r f.1,xw0 r rx f.1 fx)
  .exact xe3 rx fx t f.2 u' hu
noncomputable def inV (x:V) (xs:ag):Bool:=zrJ
inductive rIn (K:Zf) (neg:Bool) (x:V) (y:V) (H:Hp) (Q:VK):Prop
 | mk (p xs) (e_:y=eB) (r_:bD (R6\/zfc) zfg zbX (mV (if neg then ! inV x xs else inV x xs)))
theorem xfj:mh .In (rIn X.K false):=by
 intro pins s Z H x y v u Q I rx ry h;obtain⟨p,xs,rfl,hq,fx,fs,q⟩:=h;ext gL;rcases hq with hq|hq
 .ext On TC;refine SeqAt.in_listAt (eqU x) pl.isList (FS,xe3 rx fx r fs w DG) (wt ?_);ext MM Ur
 .show(On,I.tuple hq);refine SeqAt.in_tupleAt (eqU x) pl (FS,xe3 rx fx r fs w DG) (wt ?_);ext MM Ur
theorem xdx:mh .NotIn (rIn X.K true):=by
 intro pins s Z H x y v u Q I rx ry h;obtain⟨p,xs,rfl,hq,fx,fs,q⟩:=h;ext gL;rcases hq with hq|hq
 .ext On TC;refine SeqAt.notIn_listAt (eqU x) pl.isList (FS,xe3 rx fx r fs w DG) (wt ?_);ext MM Ur
 .show(On,I.tuple hq);refine SeqAt.notIn_tupleAt (eqU x) pl (FS,xe3 rx fx r fs w DG) (wt ?_);ext MM Ur
theorem xbb:(zch,zjz (jW ys.length)):=by
 intro pins s Z H xs us Q I r h;obtain⟨p,ys,rfl,hq,q⟩:83:=h;ext Pa;ext fS;have hn:=xe2;rcases hq with hq|hq
 .ext ztI TC;exact Calls.call_len_list pl.isList NQ zjV
 .show(ztI,I.tuple hq);exact len_tuple pl NQ zjV
theorem xlv:(zch,∃ z,bc xs [oP] (dB z.length) (jW z.length)):=by
 intro pins s Z H xs us Q I r h;show(b9,z,rfl,hz,q,h);ext zoG;have hn:=xe2;exact len_str aa (yp z.length)
theorem xgk:xcf X Bp (LH (zjz,∀ l,iP->Q bH zfX)):=by
  intro pins s Z H xs us Q I r h;obtain⟨p,ys,rfl,hq,q⟩:83:=h;ext Pa;ext fS;have fin:∀(its:aQ),Vals ys its->P9->∀(h':Heap) (c':Nat),(∀ b o',s.heap.get? b=some o'->(PM o')) ->
      (zpU (NL,none,.seq its.toArray c',#[]))->EP X pins Z Q ie lv:=fun its r' hz h' c' kp e =>
    (CJ,I.laid (t':=s.toks) kp bo (show xa8 X.prog X.w _ h' _ (.lst ys) from ⟨hz,bK its c' r' e⟩),q _ vp)
  rcases hq with hq|hq
  . show(j7,r',pl,hz,I.list hq)
    ext zeJ;obtain⟨o,ho,hc,⟨n,hd⟩⟩:63:=(pl.isList)
    exact call_list_seq p eZ ho hc hd (fun h' c' kp e=>fin its r' hz h' c' kp e) NQ
  . show(j7,r',pl,hz,I.tuple hq)
    ext zeJ;obtain⟨o,ho,hc,⟨n,hd⟩⟩:63:=pl;exact call_list_seq p Fq ho hc hd (fun h' c' kp e=>fin its r' hz h' c' kp e) NQ
noncomputable def tyV (K:Zf) (T:String) (x:V) (H:Hp):Prop:=match x with
  | mX=>T="str"
  | qx=>T="int"
  | eB=>(T="list"/\∃ xs,R6)\/(T="tuple"/\∃ o,(Ea p o)/\o.cls=zfm/\zgt) \/
      (T="dict"/\((∃ kvs,Bg p)\/∃ kvs,yT p))\/(T="set"/\∃ S n,aE p (.set S n))
  | _=>False
theorem xw8 {pins:aW}{Z:St}{H:Hp}{s:Shared}{T:String}{x:V}{v:Value} (I:aq) (r:ug) (ty:tyV X.K T x H) :
    s.TypeIs v T/\∀ a,v=aB->∃ ob,(yg ob)/\ob.dict=none:=by
  cases x with
  | str z =>
    ext iW r;cases (cU T "str" ty);show(aO,typeIs_str s z t,fun _ e=>nomatch e)
  | int i =>
    ext iW r;cases (cU T "int" ty);show(aO,typeIs_int s i t,fun _ e=>nomatch e)
  | ref p =>
    cases r;rcases ty with⟨rfl,xs,hq⟩|⟨rfl,o,hk,hc,hd⟩|⟨rfl,hk⟩|⟨rfl,S,n,hk⟩
    . obtain⟨its,_,pl,_⟩:63:=TC
      show(iO,pl.isList.typeIs,a,e);cases e;obtain⟨o,n,e,c,hd,_⟩:84:=pl;ext aJ o e hd
    . show(iO,⟨o,I.kIn p o hk,hc⟩,a,e)
      cases e;show(aJ,o,I.kIn _ o hk,hd)
    . have z:∃ o,(vx p o)/\o.ExactDict:=by
        rcases hk with⟨kvs,hk⟩|⟨kvs,hk⟩
        . ext ziF
        . ext ziF
      ext ae o e ex z;ext zko
    . obtain⟨o,_,_,_,e,ex,_⟩:123:=I.hok p _ hk
      ext zko
  | _=>exact Yn ty
noncomputable def tBM (K:Zf) (T:String) (r:SH) (to:TE) (t:TA):TE:=(i9,Q,to Z H fun x H1=>tyV K T x H1/\t Z H1 fun xs H2=>r x xs H2 Q)
variable {o e:Expr}{es:List Expr}{to:TE}{t:TA}{name:Str}{apos cpos:Pos}{T id:String}{r:V->List V->Hp->VK->Prop}
theorem xdw (pa:PlainAttrs T) (slot:Slot T name id) (hty:typeOf (oU id)=pure (.type "method_descriptor")) (hm:MtR X id r) (ho:tX) (ha:BF)
    (hbase:C4 name:=by rfl)
    (hfew:((Co nF).all (fun x=>! aZ)&&(Nz cpos).all (fun x=>(aZ).isSome)
      && (U1 nF))=true:=by rfl)
    (hline:xV:=by rfl) (hs:xU:=by rfl) (hplain:(Co es).any (·.1)=false:=by rfl) :
    KN name nF (tBM X.K T r to t):=by
  intro pins s Z H Q I h;refine wpAny_Call_method_late hbase hfew hline rfl (thn (ho pins s Z H _ I h) fun v s1 ⟨x,H1,I1,r1,ty,q1⟩=>?_);obtain⟨h1,h2⟩:=xw8 I1 r1 ty;refine⟨86,T,id,pa,slot,hty,h1,h2,?_⟩;have hA:=ha cpos pins s1 Z H1 _ I1 q1;rw[hs] at hA ⊢;refine Jw (by show (false||(Co es).any (·.1))=false; rw[hplain]<;>rfl) (YR ?_);exact thn hA fun us s2 ⟨vs,H2,I2,r2,q2⟩=>hm pins s2 Z H2 x vs v us Q I2 r1 r2 q2
#check _
noncomputable def MtM (X:Cx) (id:String) (r:SH):Prop :=
 ∀(pins:List (Addr × Obj)) (s:Shared) (Z:St) (H:Hp) (x:V) (xs:List V) (v:Value) (us:List Value) (Q:VK),Inv X pins Z H s->RelV x v->Vals xs us->r x xs H Q ->
  wpAny aH X.A (vK id (v::us)) mo X.xe s
theorem Vals.one:∀{x:V}{us:aQ},Vals [x] us->∃ u,us=[u]/\oC
 | _,_,d4 r .nil=>bT r
theorem Vals.eraseIdx:∀{xs:ag}{us:aQ} (i:Nat),ku->Vals (xs.eraseIdx i) (us.eraseIdx i)
 | _,_,_,.nil=>.nil
 | _,_,0,EX=>t
 | _,_,aM,ue=>.cons r (Vals.eraseIdx i t)
theorem xkp {α:Type}:∀(l:cT) (i:Nat),(l.eraseIdx i).length<=l.length
 | [],_=>bo
 | b5,0=>JO _
 | _::r,aM=>Nat.succ_le_succ (xkp r i)
section
variable {X:Cx}{pins:List (Addr × Obj)}{Z:St}{H:Hp}{s:Shared}{l b:Addr}{xs ys zs:List V}
theorem Inv.lset {its its':aQ}{n:Nat}{f:gS->gS}{t':Nat} (I:aq) (hH:zT)
    (e:vx l Au) (hf:f its.toArray=its'.toArray) (hv:Vals ys its') (hz:P9) :
    b8 zfX (G7,s.heap.update l (JT f)):=by
  show(jZ,q,PySem.IsL.update e f,hf);refine I.write (x:=l) (e:=l) (aD hH trivial) eZ (fun b' u hb hu=>(YF s.heap (JT f) (Z2 hb)).trans hu) (gF q) ?_;show(aO,hz,bK its' _ hv q)
theorem Inv.lnew {its:aQ}{t':Nat} (I:aq) (hv:Vals ys its) (hz:P9) :
    b8 (cF H s.heap.objs.size ys) (G7,s.heap.push (eg,"list",.seq its.toArray)) :=
  I.laid zet bo ⟨hz,bK its 0 hv gc⟩
theorem Inv.fresh (I:aq):bI s.heap.objs.size:=vp
theorem Inv.lstM (I:aq) (hH:zT):vC/\(zds,yX/\xs.length=its.length/\(vx l Au)):=by
 show(zdV,I.hok l _ hH);show(aO,z,bv its n r r.length e)
#check _
section
variable {X:Cx}
inductive xvh (x:V) (vs:ag) (H:Hp) (Q:VK):Prop
 | mk (l xs y) (e_:x=bH) (r_:(hZ,vs,[y],zT,Il,Q .non (cF H l LR)))
theorem xcb:MtM X "list.append" xvh:=by
 intro pins s Z H x vs v us Q I rx rv h;obtain⟨l,xs,y,rfl,rfl,hH,hz,q⟩:=h;ext X8
 obtain⟨z,its,n,r,hl,e⟩:=TB;refine call_meets F.slot_list_append (cP e) F.entry_list_append (F.args_list_append_2 _ _) (PySem.list_append l its.toArray n u (ou Z6)) (eS e);refine(dY,.non,_,I.lset (its':=its++[u]) hH e aj (r.append (Cp ru)) ?_,q);rw[Zr,Jg];omega
inductive rCat (x:V) (y:V) (H:Hp) (Q:VK):Prop
 | mk (l b xs zs) (e_:x=bH) (r_:(ax,y=cW,zT,aE b (.lst zs),(dB,xs.length+zs.length),Ee (cF H p (xs++zs))))
theorem xfw:OpR X (binaryOp .Add) rCat:=by
 intro pins s Z H x y v u Q I rx ry h;obtain⟨l,b,xs,zs,rfl,rfl,hH,hB,hz,q⟩:=h;ext fS;ext gL;obtain⟨z,its,n,r,hl,e⟩:=TB;obtain⟨z2,its2,n2,r2,hl2,e2⟩:=I.lstM hB;refine PySem.P.add_list e e2 ?_ (by rw[Z6,Z6]; omega);have ea:its.toArray++its2.toArray=(its++its2).toArray:=aj
 rw[ea];exact(dY,.ref _,_,I.lnew (t':=s.toks) (r.append r2) LU,q _ I.fresh)
#check _
section
variable {κ:Type} [DecidableEq κ]
noncomputable def valV (kvs:eY) (k:κ):bS:=(kvs.find? fun kv=>d9 iS k).map (·.2)
noncomputable def putK (kvs:eY) (k:κ) (v:V):eY :=
 if (kvs.any DD)=true then (zeH,G5 v) else kvs++[(k,v)]
noncomputable def xb8 (kvs:eY) (k:κ):eY:=kvs.filter fun kv=>bG (iS≠k)
theorem xbh {p:κ × V}{r:eY}{k:κ} (e:aN=k):valV o7 k=some dG:=by simp[valV,Qd,e]
theorem xa6 {p:κ × V}{r:eY}{k:κ} (e:¬ aN=k):valV o7 k=valV r k:=by simp[valV,Qd,e]
theorem xdj (k:κ):∀ kvs:eY,(kvs.any DD)=(lE).isSome
 | []=>rfl
 | o7=>by
  rw[JS];ext Bz
  .simp only [CW,decide_eq_true e,Bool.true_or,Option.isSome_some]
  .rw [Am,decide_eq_false e,Bool.false_or]; exact xdj k r
theorem xlt (k j:κ) (y:V):∀ kvs:eY,valV (kvs.map fun kv=>G5 y) j=(SX).map fun x=>if j=k then y else x
 | []=>rfl
 | o7=>by
  have ih:=xlt k j y r;rw[Zo];by_cases h:aN=k
  .rw [aC h];by_cases e:aN=j
   .rw [xbh (p:=(aN,y)) e,CW,Yb,if_pos (e.symm.trans h)]
   .rw [xa6 (p:=(aN,y)) e,Am,ih]
  .ext ib h;by_cases e:aN=j
   .rw [xbh (p:=p) e,CW,Yb,(mq,h (e.trans z))]
   .rw [xa6 (p:=p) e,Am,ih]
theorem xj6 (k j:κ) (y:V):∀ kvs:eY,lE=none->valV (kvs++[(k,y)]) j=(IE,j=k,y,SX)
 | [],_=>by
  by_cases e:k=j
  .show(c9,aC e.symm,xbh (p:=(k,y)) e)
  .show(c9,if_neg (fun z=>e z.symm),xa6 (p:=(k,y)) e)
 | o7,hn=>by
  rw[List.cons_append];have hk:¬ aN=k:=(aA,by show(cH,xbh z,hn))
  rw[xa6 hk] at hn;have ih:=xj6 k j y r hn;by_cases e:aN=j
  .rw [CW,CW,(mq,hk (e.trans z))]
  .rw [Am,Am,ih]
theorem xco (kvs:eY) (k j:κ) (y:V):valV zeU j=(IE,j=k,y,SX):=by
 unfold putK;by_cases a:(kvs.any DD)=true
 .rw [if_pos a,xlt];rw[xdj] at a;by_cases e:j=k
  .obtain ⟨x,hx⟩:=QZ.mp a;rw[aC e,e,hx,Yb,bW]
  .ext ib e;cases SX with
   | none=>rfl
   | some x=>rw[Yb,ay e]
 .rw [if_neg a];refine xj6 k j y kvs ?_;rw[xdj] at a;cases q:lE with
  | none=>rfl
  | some x=>show(cJ,q,a,(a rfl).elim)
theorem xbm (kvs:eY) (k:κ) (v:V):(yP).length<=kvs.length+1:=by
 unfold putK;split
 .rw [Za]; omega
 .rw [Zr,ZG,List.length_nil]; omega
theorem xcp {kvs:eY}{k:κ} (v:V) (h:lE=none):yP=kvs++[(k,v)]:=by
 unfold putK;rw[xdj,h];exact if_neg ao
theorem RelO.isSome_eq {o:bS}{u:ET} (r:RelO o u):o.isSome=u.isSome:=by
 cases o with
 | none=>cases u with
  | none=>rfl
  | some _=>ext DM
 | some _=>cases u with
  | none=>ext DM
  | some _=>rfl
theorem RelO.getD {o:bS}{u:ET}{d:V}{d':Value} (r:RelO o u) (rd:RelV d d'):RelV (o.getD d) (u.getD d'):=by
 cases o with
 | none=>cases u with
  | none=>exact rd
  | some _=>ext DM
 | some _=>cases u with
  | none=>ext DM
  | some _=>exact r
theorem KV.val {kvs:eY}{vs:wI} (r:kH) (k:κ):RelO lE (valueAt vs k):=by
 ext UX
 induction r with
 | nil=>exact Jx
 | @cons p q ps qs h t ih =>
  ext Re;ext Bz
  .show(zjE,valueAt sH k,zsx)
  .ext V3;have b:valueAt sH k=valueAt qs k:=zsx
   ext cD Am b ih
theorem KV.any {kvs:eY}{vs:wI} (r:kH) (k:κ):(kvs.any DD)=vs.any fun kv=>d9 iS k:=by
 ext UX
 induction r with
 | nil=>rfl
 | cons h t ih=>rw[JS,JS,ih,h.1]
theorem KV.repl {kvs:eY}{vs:wI} (r:kH) (k:κ) {y:V}{u:Value} (ry:hJ) :
    KV (kvs.map fun kv=>G5 y) (vs.map fun kv=>G5 u):=by
  unfold KV at r ⊢
  induction r with
  | nil=>ext eI
  | @cons p q ps qs h t ih =>
    rw[Zo,Zo];refine .cons ?_ ih;ext Re;ext Bz
    . rw[aC e,zre]; ext aO h1 ry
    . rw[ay e,zvb]; ext aO h1 h2
theorem KV.put {kvs:eY}{vs:wI} (r:kH) (k:κ) {y:V}{u:Value} (ry:hJ):KV zeU (stored vs k u):=by
 unfold putK stored;rw[r.any k];by_cases e:(vs.any DD)=true
 .ext uj e e; exact r.repl k ry
 .rw [ay e,ay e]; exact Paired.snoc r (dC ry)
theorem KV.drop {kvs:eY}{vs:wI} (r:kH) (k:κ):KV BH (without vs k):=by
 unfold KV at r ⊢;unfold xb8 without
 induction r with
 | nil=>ext eI
 | @cons p q ps qs h t ih =>
  ext Re;rw[Wf,Wf];ext Bz
  .have a:¬ (vV (aN≠k)):=bF e
   have b:¬ (vV (q.1≠k)):=(bF,h1.symm.trans e)
   show(cD,if_neg a,ay b,ih)
  .ext V3;have a:vV (aN≠k):=bF e
   have b:vV (q.1≠k):=bF e'
   rw[if_pos a,aC b]; show(xT,⟨h1,h2⟩,ih)
theorem KV.keys {kvs:eY}{vs:wI} (r:kH):kvs.map (·.1)=vs.map (·.1):=by
 ext UX
 induction r with
 | nil=>rfl
 | cons h t ih=>rw[Zo,Zo,ih,h.1]
theorem KV.length {kvs:eY}{vs:wI} (r:kH):kvs.length=vs.length:=Y4 r
theorem xlf (kvs:eY) (k:κ):(BH).length<=kvs.length:=qy
#check _
theorem xda {P:Program}{w:World}{k:Key}{u:Value} (r:zeg):(oG).is k u=true:=by
 cases k with
 | inl i=>show(jU,t,Fs DL); ext dw; exact xm1 P w i t
 | inr x=>show(jU,t,Fs O7); ext dw; exact xm6 P w x t
theorem xj9 {P:Program}{w:World}:∀{ks:d6}{us:aQ},Vals (ks.map kV) us->ItemsAre oG ks us
 | [],_,r=>by show(bA,List.map_nil,r,r); ext eI
 | k::ks,_,r=>by
  rw[Zo] at r;cases r with
  | cons h t=>exact .cons (xda h) (xj9 t)
noncomputable abbrev KT (H:Hp):bX dA rB:=Paired fun p q=>(bc,aN,q.1,aE (bg q) (.tup ((aN).map kV)),RelV dG (b6 q))
theorem KT.val {H:Hp}{kvs:dA}{xs:rB} (r:Ew) (k:d6):RelO lE ((S0).map (·.2)):=by
 induction r with
 | nil=>exact Jx
 | @cons p q ps qs h t ih =>
  obtain⟨h1,_,h2⟩:43:=h;ext Bz
  .show(zjE,atKey sH k,ztU)
  .ext V3;have b:atKey sH k=atKey qs k:=ztU
   ext cD Am b ih
theorem KT.repl {H:Hp}{kvs:dA}{xs:rB} (r:Ew) (k:d6) {y:V}{u:Value} (ry:hJ) :
    KT H (zeH,G5 y) (xs.map (putAt k u)):=by
  induction r with
  | nil=>ext eI
  | @cons p q ps qs h t ih =>
    rw[Zo,Zo];refine .cons ?_ ih;ext gX h1 h2 h3 h;unfold putAt;ext Bz
    . rw[aC e,zre]; ext aJ h1 h2 ry
    . rw[ay e,zvb]; ext aJ h1 h2 h3
theorem KT.put {H:Hp}{kvs:dA}{xs:rB} (r:Ew) (k:d6) {b:Addr}{y:V}{u:Value} (hb:Di) (ry:hJ) :
    KT H zeU (storedH xs k b u):=by
  have e:(kvs.any DD)=(S0).isSome:=by
    rw[xdj,(r.val k).isSome_eq,QR]
  unfold putK storedH;rw[e];by_cases q:gT S0
  . rw[aC q,aC q]; exact r.repl k ry
  . rw[ay q,ay q]; exact Paired.snoc r (Go hb ry)
theorem KT.keeps {H H':Hp}{kvs:dA}{xs:rB} (r:Ew) (ht:∀ b ys,(gZ b ys)->(za (.tup ys))):KT H' kvs xs :=
 Paired.mapP r (B3 znR)
section
variable {P:Program}{w:World}{H:Hp}{h:Heap}{a:Addr}
theorem xti {u:HO} (ok:mr) (e:Rd H a u):xa8 P w H h a u:=e.ok ok
theorem xek {kvs:aI} (ok:mr) (e:O5):VD :=
 show xa8 P w H h a rQ from xti ok e
theorem xct {kvs:aI} (ok:mr) (e:zW):VD:=xek ok (.inl e)
theorem xde {ks:d6} (ok:mr) (e:aE a (.tup (ks.map kV))):(tupleKind oG).is h ks a:=by
 obtain⟨_,its,r,o,h1,h2,n,h3⟩:=(show xa8 P w H h a (.tup (ks.map kV)) from ok a _ e)
 exact⟨104,o,its.toArray,n,h1,h2,h3,(yR,xj9 r)⟩
theorem xfc {kvs:dA} (ok:mr) (e:zcu):DW/\w4 /\
    zkJ:=by
  obtain⟨z,y,⟨xs,r,o,es,ep,h1,h2,h3,h4,h5⟩⟩:43:=(show xa8 P w H h a (.dT kvs) from xti ok e)
  show(lZ,z,y,xs,r,⟨106,o,es,ep,h1,h2,h3,h4,rJ,h5⟩);have all:∀{l:dA}{m:rB},KT H l m->∀ x∈m,(tupleKind oG).is h aZ cK:=by
    intro l m q
    induction q with
    | nil=>intro x hx; exact nomatch hx
    | @cons p q ps qs hq t ih =>
      intro x hx;rcases dI hx with e|hx
      . ext dw
        exact xde ok (bJ,hq.1,bg hq)
      . exact ih x hx
  exact all r x hx
theorem xlb {kvs:dA} (ok:mr) (e:FW):DW/\w4 /\
    zkJ:=xfc ok (.inl e)
#check _
noncomputable def DGet (H:Hp) (a:Addr) (y:V) (r:bS):Prop :=
 (∃ kvs k,O5/\y=kV k/\r=lE)\/∃ kvs k b,zcu/\(bc,y,cW,Di,r=lE)
noncomputable def DPut (H:Hp) (a:Addr) (y v:V) (H':Hp):Prop :=
 (∃ kvs k,(bD,zW,y=kV k,AQ,H'=(fe H a yP))) \/
 ∃ kvs k b,(ax,FW,y=cW,Di,AQ,H'=(jB H a yP))
theorem DGet.k {H:Hp}{a:Addr}{kvs:aI}{k:Key} (e:zW):DGet H a vd lE:=.inl (dY,kvs,k,.inl e,rfl)
theorem DGet.t {H:Hp}{a b:Addr}{kvs:dA}{k:d6} (e:FW) (eb:Di):DGet H a cW lE:=.inr ⟨104,kvs,k,b,.inl e,rfl,eb,rfl⟩
theorem DPut.k {H:Hp}{a:Addr}{kvs:aI}{k:Key}{v:V} (e:zW) (hl:AQ):DPut H a vd v (fe H a yP):=.inl ⟨84,kvs,k,e,rfl,hl,rfl⟩
theorem DPut.t {H:Hp}{a b:Addr}{kvs:dA}{k:d6}{v:V} (e:FW) (eb:Di) (hl:AQ) :
    DPut H a cW v (jB H a yP):=.inr ⟨105,kvs,k,b,e,rfl,eb,hl,rfl⟩
section
variable {X:Cx}{pins:List (Addr × Obj)}{Z:St}{H:Hp}{s:Shared}{a:Addr}{y v:V}{u r:Value}{o:Option V}{A:Around}{E:Value->Shared->Prop}
theorem Inv.big (I:aq):nY sysModules:=by
 show(Sw,h,mainGlobals,(I.mod.glob.keeps I.bk).lt);exact ZI ao h
theorem xkq {Q:aT} (hu:AI) (I:aq) (g:DGet H a y ff) (ry:hJ) (h:(Hk,Cd,RelV v w')) :
    wpAny aH A (getItem aB u) Q E s:=by
  rcases g with⟨kvs,k,e,ey,l⟩|⟨kvs,k,b,e,ey,eb,l⟩
  . subst ey
    obtain⟨z,hd,⟨vs,rel,dd⟩⟩:43:=y0;ext zly zqM;exact wpAny_getItem_of z6 dd.mapOf hw (h w' _ i0 rw')
  . ext G2;obtain⟨z,hd,⟨xs,rel,dd⟩⟩:43:=Bl;obtain⟨w',hw,rw'⟩:62:=RelO.some_of (v:=v) (o:=(S0).map (·.2)) zqM;show(ae,p,hp,hp2,Zh.mp hw);refine wpAny_getItem_heap (YD hu) Bc dd hp ?_;show(aK,hp2,h w' _ i0 rw')
theorem d_in {Q:aT} (hu:AI) (I:aq) (g:IH) (ry:hJ) (h:∀ s',Cd->(Gm o.isSome s')) :
    wpAny aH A (compareOp .In u aB) Q E s:=by
  rcases g with⟨kvs,k,e,ey,l⟩|⟨kvs,k,b,e,ey,eb,l⟩
  . subst ey
    obtain⟨z,hd,⟨vs,rel,dd⟩⟩:43:=y0;refine wpAny_in_of z6 hd dd.mapOf ?_;rw[<- Si,<- l];exact h _ i0
  . ext G2;obtain⟨z,hd,⟨xs,rel,dd⟩⟩:43:=Bl;refine wpAny_in_heap (YD hu) Bc hd dd ?_;ext zmU
theorem xux {Q:aT} (hu:AI) (I:aq) (g:IH) (ry:hJ) (h:∀ s',Cd->(Gm (! o.isSome) s')) :
    wpAny aH A (compareOp .NotIn u aB) Q E s:=by
  rcases g with⟨kvs,k,e,ey,l⟩|⟨kvs,k,b,e,ey,eb,l⟩
  . subst ey
    obtain⟨z,hd,⟨vs,rel,dd⟩⟩:43:=y0;ext ztQ hd;rw[<- Si,<- l];exact h _ i0
  . ext G2;obtain⟨z,hd,⟨xs,rel,dd⟩⟩:43:=Bl;refine wpAny_notIn_heap (YD hu) Bc hd dd ?_;ext zmU
theorem xd3 {h':Heap}{t':Nat}{ob:HO} (I:aq) (mu:Mut (H a)) (hs:Jn a s.heap h') (he:∃ q,Ib q) (new:xa8 X.prog X.w (dZ a ob) h' a ob) :
    b8 (dZ a ob) B6 :=
  I.write (x:=a) (e:=a) mu eZ (fun b q hb z=>(hs.2 b hb).trans z) he new
theorem xiw {P:Program}{w:World}{H':Hp}{h':Heap}{kvs:aI}{vs:UF} (z:DW) (hd:w4) (rel:kH) (dd:h'.DictOf oG a vs) :
    xa8 P w H' h' a rQ:=⟨z,hd,vs,rel,dd⟩
theorem xku {H':Hp}{Q:wp} (hu:AI) (I:aq) (g:DPut H a y v H') (ry:hJ) (rv:RelV v r) (h:Rj vZ) :
    wpAny aH A (setItem aB u r) Q E s:=by
  rcases g with⟨kvs,k,e,ey,l,eH⟩|⟨kvs,k,b,e,ey,eb,l,eH⟩
  . subst ey eH
    obtain⟨z,hd,⟨vs,rel,dd⟩⟩:43:=Kd;show(zif,wpAny_setItem_pairs (hsz:=hz) z6 dd N7);show(U8,hl,rel.put k rv)
  . subst ey eH
    cases (Fa,u=Zs b);obtain⟨z,hd,⟨xs,rel,dd⟩⟩:43:=zgs;show(zjg,wpAny_setItem_heap (hsz:=hz) (YD hu) Bc dd N7);obtain⟨q,es,ep,hq,h2,h3,h4,_,h5⟩:106:=dd';refine xd3 I zo hs Td ⟨hl,hd,_,(rel.put k eb rv).keeps (aL c ys ec),⟨105,q,es,ep,hq,h2,h3,h4,h5⟩⟩;show(bP,xdi ec e dJ,ec)
#check _
section
variable {X:Cx}{pins:List (Addr × Obj)}{Z:St}{H:Hp}{s:Shared}{a:Addr}{kvs:List (Key × V)}{k:Key}{u:Value}{A:Around}{E:Value->Shared->Prop}
theorem xyi {v:V}{more:aQ}{Q:aT} (I:aq) (e:zW) (ry:zeg) (l:FA) (hm:more=[]\/∃ x,more=[x])
    (h:(Hk,b8 (fe H a BH) s',RelV v w')):wpAny aH A (vK "dict.pop" (aB::u::more)) Q E s:=by
  obtain⟨z,hd,⟨vs,rel,dd⟩⟩:43:=Kd;show(zly,(by rw[<- l]; exact rel.val k));have hp:gT (keyPart u):=by
    cases k with
    | inl i=>show(iH,t,Fa DL); subst q; rfl
    | inr x=>show(iH,t,Fa O7); subst q; rfl
  have ha:argsOk "dict.pop" (i7,aB::u::more):=by
    rcases hm with q|⟨x,q⟩
    . subst q; exact PySem.F.args_dict_pop_2 _ _
    . subst q; exact PySem.F.args_dict_pop_3 _ _ _
  refine JU Qt dd.typeIs PySem.F.entry_dict_pop ha (meets_dict_pop_there ig a z6 more hm hp)
    ⟨84,vs,w',dd,bJ rel.length z,hw,fun h' dd' hs=>h w' _ ?_ rw'⟩
  show(U8,ZJ (xlf kvs k) z,rel.drop k)
theorem xxq {Q:aT} (I:aq) (e:O5) (h:∀ t s',Cd->Q (.int kvs.length t) s'):wpAny aH A (vK "len" fO) Q E s:=by
 obtain⟨z,hd,⟨vs,rel,dd⟩⟩:43:=y0;refine call_len_dict hd dd (by rw[<- rel.length]; rw[QO] at z; omega) ?_;show(m8,rel.length,h _ _ i0)
#check _
noncomputable def NoSl (i:Expr):Prop:=∀ ov iv,subscripted i false ov iv=operate [ov,iv] (getItem ov iv)
theorem xtw {prog:Program}{w:World}{A:Around}{E:aT}{s:Shared}{env:Env}{value slice:Expr}{pos:Pos}{T id:String}{Q:aT}
    (hl:zjx) (hs:NoSl slice)
    (h:wpAny aR A (eval value env) (fun o s₁=>wpAny aR A (eval slice env) (iy,s₂,s₂.TypeIs o T/\wpAny aR A (getItem o i) Q E s₂) E s₁) E s) :
    wpAny aR A (eval (.Subscript value slice pos) env) Q E s:=by
  refine Subscript_ (zl h (fun o s₁ h₁=>zl h₁ (aL i s₂ h₂) x) x);obtain⟨hT,h₂⟩:=h₂;unfold subscriptTail;ext Cl;rw[getitemInPython_of_ne hT.not_modules];show(br,wpAny_specialOf hT hl ?_);have fin:wpAny aR A (subscripted slice false o i) (fun r s₃=>wpAny aR A (letTemporaryGo value o r>>=fun _=>pure r) Q E s₃) E s₂:=by
    rw[hs o i];exact wpAny_operating (zl h₂ (fun r s₃ h₃=>Zc (wpAny_letTemporaryGo (Zk h₃))) x)
  first
    | exact Zk (Zc fin)
    | exact Zc (Zk (Zc fin))
    | exact Zc fin
theorem xm8 {X:Cx}{pins:aW}{Z:St}{H:Hp}{s:Shared}{a:Addr}{y:V}{o:bS} (I:aq) (g:IH):Hs:=by
 rcases g with⟨kvs,k,e,_,_⟩|⟨kvs,k,b,e,_,_,_⟩
 .ext zoP vs y0
 .ext zoP xs Bl
inductive xva (x y:V) (H2:Hp) (Q:VK):Prop
 | mk (a v) (e_:x=aB) (r_:(Lz ff)/\Q v H2)
noncomputable def xym (td ty:TE):TE:=(i9,Q,td Z H fun x H1=>(zdw,xva x y H2 Q))
inductive xv3 (x y:V) (H2:Hp) (Q:VK):Prop
 | mk (a o) (e_:x=aB) (r_:(Lz o)/\Q (.bl o.isSome) H2)
noncomputable def tDIn (ty td:TE):TE:=zaz (zdo,xv3 x y H2 Q)
inductive xq7 (x y:V) (H2:Hp) (Q:VK):Prop
 | mk (a o) (e_:x=aB) (r_:(Lz o)/\Q (.bl (! o.isSome)) H2)
noncomputable def xue (ty td:TE):TE:=zaz (zdo,xq7 x y H2 Q)
noncomputable def xyv (td ty tv:TE):TS:=(lJ,tv Z H fun v H1=>(zdo,ty Z H2 fun y H3=>∃ a H4,(bc,x,aB,DPut H3 a y v H4,D.nx Z H4)))
noncomputable def xyc (td ty tv:TE) (rd:Ky):TS:=fun D Z H=>td Z H fun x H1=>ty Z H1 fun y H2=>∃ a v,x=aB/\(Lz ff) /\
 tv Z H2 fun y2 H3=>rd v y2 H3 fun z H4=>∃ H5,DPut H4 a y z H5/\D.nx Z H5
section
variable {X:Cx}{o i e value:Expr}{pos pos' tpos:Pos}{td ty tv:TE}
theorem xbg (hu:yi) (ho:wj) (hi:EY) (hs:NoSl i):PE X (.Subscript o i pos) (xym td ty):=by
 intro pins s Z H Q I h;refine xtw PySem.F.slot_dict_getitem.lookup hs (thn (ho pins s Z H _ I h) fun u s1 ⟨x,H1,I1,rx,q1⟩=>thn (hi pins s1 Z H1 _ I1 q1) fun iv s2 ⟨y,H2,I2,ry,a,v,ex,g,q2⟩=>?_);ext sU;show(aO,xm8 I2 g,xkq hu I2 g ry (Rn,bv v H2 I3 rw' q2))
theorem xf0 (hu:yi) (hi:EY) (ho:wj):PC X .In i o (tDIn ty td):=by
 intro pins s Z H Q I h;show(jH,hi pins s Z H _ I h,fun iv s1 ⟨y,H1,I1,ry,q1⟩=>thn (ho pins s1 Z H1 _ I1 q1) fun u s2 ⟨x,H2,I2,rx,a,ov,ex,g,q2⟩=>?_);ext sU;exact d_in hu I2 g ry fun s3 I3=>(dY,.bl ov.isSome,H2,I3,q2)
theorem xdk (hu:yi) (hi:EY) (ho:wj):PC X .NotIn i o (xue ty td):=by
 intro pins s Z H Q I h;show(jH,hi pins s Z H _ I h,fun iv s1 ⟨y,H1,I1,ry,q1⟩=>thn (ho pins s1 Z H1 _ I1 q1) fun u s2 ⟨x,H2,I2,rx,a,ov,ex,g,q2⟩=>?_);ext sU;exact xux hu I2 g ry fun s3 I3=>(dY,.bl (! ov.isSome),H2,I3,q2)
theorem xci (hu:yi) (ho:wj) (hi:EY) (hv:zek) (hs:GA value (some zuW)) :
    HS zuW value (xyv td ty tv):=by
  intro pins s Z H D I h;refine wpAny_Assign_Subscript (thn (hv pins s Z H _ I h) fun r s1 ⟨v,H1,I1,rv,q1⟩=>thn (ho pins s1 Z H1 _ I1 q1) fun u s2 ⟨x,H2,I2,rx,q2⟩=>thn (hi pins s2 Z H2 _ I2 q2) fun iv s3 ⟨y,H3,I3,ry,a,H4,ex,g,q3⟩=>?_) hs;ext sU;exact xku hu I3 g ry rv fun s4 I4=>bK Z H4 I4 q3
theorem xnk {op:Operator}{rd:Ky} (hu:yi) (ho:wj) (hi:EY) (hv:zek) (hop:InOp X op rd)
    (ha:∀ ov iv new,augStore i ov iv new=(do holding [new,ov,iv] (setItem ov iv new); release [new,ov,iv] []; pure .next)):PS X (.AugAssign (.Subscript o i tpos) op value pos) (xyc td ty tv rd):=by
  intro pins s Z H D I h;refine wpAny_AugAssign_SubscriptAny (thn (ho pins s Z H _ I h) fun u s1 ⟨x,H1,I1,rx,q1⟩=>thn (hi pins s1 Z H1 _ I1 q1) fun iv s2 ⟨y,H2,I2,ry,a,v,ex,g,q2⟩=>?_) ha;ext sU;show(An,xkq hu I2 g ry (Rn,thn (hv pins s3 Z H2 _ I3 q2) fun w2 s4 ⟨y2,H3,I4,ry2,q3⟩=>thn (hop pins s4 Z H3 v y2 w' w2 _ I4 rw' ry2 q3) fun w3 s5 ⟨z,H4,I5,rz,H5,g5,q4⟩=>?_),xku hu I5 g5 ry rz fun s6 I6=>bK Z H5 I6 q4)
#check _
theorem xhx {P:Program}{w:World}{H:Hp} (h:Heap) (hb:zsw):xa8 P w H zpb h.objs.size Cz :=
 (zke,Heap.DictOf.new h)
theorem xmf {P:Program}{w:World}{H:Hp} (h:Heap) (hb:zsw):xa8 P w H zpb h.objs.size (.dT []) :=
 zke ⟨105,_,#[],0,gc,R3,rfl,rfl,JV⟩
noncomputable def xwo:TE:=(Fw,Ee (fe H p []))
noncomputable def xvr:TE:=(Fw,Ee (jB H p []))
section
variable {X:Cx}{pos:Pos}
theorem xd6:PE X (.Dict [] [] pos) xwo:=fun pins s Z H Q I h =>
 zic Cz (xhx s.heap I.big)
theorem xex:PE X (.Dict [] [] pos) xvr:=fun pins s Z H Q I h =>
 (zic,.dT [],xmf s.heap I.big)
#check _
noncomputable def xld:Kv->St->(sL (nG Ln))
 | [],_,H,Q=>Q [] H
 | (tk,tv)::r,Z,H,Q=>tk Z H fun x H1=>tv Z H1 fun y H2=>xld r Z H2 fun ps H3=>Q ((x,y)::ps) H3
noncomputable abbrev VV:bX Ln (MA Value):=Paired fun p q=>RelV aN q.1/\RelV dG q.2
noncomputable def PPs (X:Cx) (pos:Pos) (keys:zdO) (values:kG) (trs:Kv):Prop :=
 ∀(pins:List (Addr × Obj)) (s:Shared) (Z:St) (H:Hp) (Q:nG Ln),aq->xld trs Z H Q ->
  wpAny aH X.A (evalPairs (pairTrees keys values X.env pos)) (nI,vs,∃ ps H',vZ/\VV ps vs/\Q ps H') X.xe s
theorem xuq {X:Cx}{pos:Pos}:PPs X pos [] [] []:=fun pins s Z H Q I h=>pairTrees_nil_walk (bv [] H I .nil h)
theorem xl6 {X:Cx}{pos:Pos}{k v:Expr}{ks:zdO}{vs:kG}{tk tv:TE}{trs:Kv} (hk:PE X k tk) (hv:PE X v tv) (hr:PPs X pos ks vs trs) :
    PPs X pos (CF::ks) (v::vs) ((tk,tv)::trs):=fun pins s Z H Q I h =>
  pairTrees_cons_walk (thn (hk pins s Z H _ I h) fun u s1 ⟨x,H1,I1,rx,q1⟩=>thn (hv pins s1 Z H1 _ I1 q1) fun w2 s2 ⟨y,H2,I2,ry,q2⟩ =>
    thn (hr pins s2 Z H2 _ I2 q2) fun ws s3 ⟨ps,H3,I3,rel,q3⟩=>(bv,(x,y)::ps,H3,I3,d4 ⟨rx,ry⟩ rel,q3))
noncomputable def xew (kvs more:aI):aI:=more.foldl (fun acc kv=>putK acc iS kv.2) kvs
theorem KV.merge:∀{more:aI}{rs:UF}{kvs:aI}{vs:UF},KV more rs->kH->KV (xew kvs more) (merged vs rs):=by
 intro more rs kvs vs r;ext UX
 induction r generalizing kvs vs with
 | nil=>intro q; exact q
 | @cons p q ps qs h t ih =>
  intro r0;have e:KV zdC (stored vs q.1 q.2):=by
   have:=r0.put aN h.2;show(m8,h.1,this)
  exact ih e
theorem xgh:∀(more kvs:aI),(xew kvs more).length<=kvs.length+more.length
 | [],kvs=>(pU,kvs.length,kvs.length+0)
 | o7,kvs=>by
  show(CH,xgh r zdC,xbm kvs aN dG);show (xew zdC r).length<=_;rw[ZG]; omega
theorem xix {P:Program}{w:World}:∀{kvs:aI}{ws:MA Value},VV (kvs.map fun kv=>(kV iS,kv.2)) ws->∃ rs,Carries oG ws rs/\KV kvs rs
 | [],_,r=>by show(bA,List.map_nil,r,r); show(aJ,[],Jx,.nil)
 | p::kvs,_,r=>by
  rw[Zo] at r;cases r with
  | @cons a b as bs h t =>
   show(ae,rs,c,q,xix (P:=P) (w:=w) t);obtain⟨b1,b2⟩:=b;show(aJ,(aN,b2)::rs,(jA,xda h.1,c),d4 (dC h.2) q)
noncomputable def xxl (trs:Kv):TE:=(i9,Q,∀ p,su->xld trs Z (fe H p []) fun ps H2=>(zgr p [])/\∃ kvs:aI,(bc,ps,WN,kvs.length<=15,Q eB (fe H2 p (xew [] kvs))))
theorem xt9 {X:Cx}{pos:Pos}{keys:zdO}{values:kG}{trs:Kv} (h:PPs X pos keys values trs) (hall:keys.all (·.isSome)=true) (hl:keys.length=values.length) (h0:keys≠[])
    (h15:keys.length<=15):PE X (.Dict keys values pos) (xxl trs):=by
  intro pins s Z H Q I q;show(af,hn,I.hok.fresh (Zj s.heap.objs.size),I1,I.laid (a:=s.heap.objs.size) (o:=Cz) (h':=Nc) (t':=s.toks) zet bo (xhx s.heap I.big));refine wpAny_Dict_walk (knd:=ig) hall hl h0 h15 (thn (h pins _ Z _ _ I1 (q _ hn)) fun ws s2 ⟨ps,H2,I2,rel,e,kvs,ep,lk,q2⟩=>?_);subst ep;show(ae,rs,c,rk,xix (P:=X.prog) (w:=X.w) rel);obtain⟨z,hd,⟨vs0,r0,dd⟩⟩:43:=xct I2.hok e;cases r0;refine(ba,rs,c,dd,fun h' dd' hs=>CJ ?_ q2);have hz:(dB,(xew [] kvs).length):=by
    have h1:=xgh kvs [];rw[List.length_nil] at h1;rw[QO]; omega
  show(lW,he,∃ q,zpU q,let ⟨q,_,_,hq,_⟩:=dd'; Td,xd3 I2 zo hs he (xiw hz hd (rk.merge .nil) dd'))
structure M1 (X:Cx) (o:Expr) (m:Str) (apos:Pos) (e:Expr) (cpos:Pos):Prop where
 base:C4 m
 few:((Co [e]).all (fun x=>! aZ)&&(Nz cpos).all (fun x=>(aZ).isSome)
  && (U1 ([e]:kG)))=true
 line:xV
 trees:(Co [e])=[(false,vO)]
structure M2 (X:Cx) (o:Expr) (m:Str) (apos:Pos) (e f:Expr) (cpos:Pos):Prop where
 base:C4 m
 few:((Co [e,f]).all (fun x=>! aZ)&&(Nz cpos).all (fun x=>(aZ).isSome)
  && (U1 ([e,f]:kG)))=true
 line:xV
 trees:(Co [e,f])=[uZ vO,(uZ,im f)]
noncomputable def IsD (H:Hp) (a:Addr):Prop:=(∃ kvs,O5)\/∃ kvs,zcu
theorem xip {X:Cx}{pins:aW}{Z:St}{H:Hp}{s:Shared}{a:Addr} (I:aq) (d:IsD H a) :
    Hs/\(je,Zs a=cW,∃ ob,Xz/\ob.dict=none)/\w4:=by
  rcases d with⟨kvs,e⟩|⟨kvs,e⟩
  . ext zhi vs y0
  . ext zhi xs Bl
section
variable {X:Cx}{pins:List (Addr × Obj)}{Z:St}{H:Hp}{s:Shared}{a:Addr}{y d:V}{u r:Value}{o:Option V}{A:Around}{E:Value->Shared->Prop}
theorem xxi {Q:aT} (hu:AI) (I:aq) (g:IH) (ry:hJ) (h:(Hk,Cd,RelV (o.getD .non) w')) :
    wpAny aH A (vK "dict.get" [aB,u]) Q E s:=by
  rcases g with⟨kvs,k,e,ey,l⟩|⟨kvs,k,b,e,ey,eb,l⟩
  . subst ey
    obtain⟨z,hd,⟨vs,rel,dd⟩⟩:43:=y0;refine JU Yx dd.typeIs Qo zpz (meets_dict_get ig a z6 hd) zqr;rw[l];exact (K5).getD rfl
  . ext G2;obtain⟨z,hd,⟨xs,rel,dd⟩⟩:43:=Bl;refine JU Yx dd.typeIs Qo zpz (meetsH_dict_get NB a b hd) zlu;rw[l];exact (K5).getD rfl
theorem xxg {Q:aT} (hu:AI) (I:aq) (g:IH) (ry:hJ) (rd:RelV d r) (h:(Hk,Cd,RelV (o.getD d) w')) :
    wpAny aH A (vK "dict.get" [aB,u,r]) Q E s:=by
  rcases g with⟨kvs,k,e,ey,l⟩|⟨kvs,k,b,e,ey,eb,l⟩
  . subst ey
    obtain⟨z,hd,⟨vs,rel,dd⟩⟩:43:=y0;refine JU Yx dd.typeIs Qo zoC (meets_dict_get_default ig a z6 hd r) zqr;rw[l];exact (K5).getD rd
  . ext G2;obtain⟨z,hd,⟨xs,rel,dd⟩⟩:43:=Bl;refine JU Yx dd.typeIs Qo zoC (meetsH_dict_get_default NB a b hd r) zlu;rw[l];exact (K5).getD rd
#check _
noncomputable def xxa (td ty:TE):TE:=(ML,∃ o,(Lz o)/\Q (o.getD .non) H2)
noncomputable def xwm (td ty tx:TE):TE:=(ML,tx Z H2 fun z H3=>∃ o,DGet H3 a y o/\Q (o.getD z) H3)
noncomputable def xwl (td ty:TE):TE:=(ML,∃ kvs k v,(bD,zgr a kvs,y=kV k,FA,Q v (fe H2 a BH)))
section
variable {X:Cx}{o e f:Expr}{apos cpos:Pos}{td ty tx:TE}
theorem xsp (hu:yi) (ho:wj) (he:TJ) (m:M1 X o "get" apos e cpos):KN "get" [e] (xxa td ty):=by
 intro pins s Z H Q I h;refine QQ m.base m.few m.line J0 Yx PySem.F.type_dict_get (thn (ho pins s Z H _ I h) fun u s1 ⟨x,H1,I1,rx,a,ex,d,q1⟩=>?_);ext sU;show(BA,t1,t2,xip I1 d);ext gH t1 t2;rw[m.trees];refine Jw rfl (YR (JF (thn (he pins s1 Z H1 _ I1 q1) fun iv s2 ⟨y,H2,I2,ry,ov,g,q2⟩=>JY ?_)));exact xxi hu I2 g ry (Rn,bv _ H2 I3 rw' q2)
theorem xr2 (hu:yi) (ho:wj) (he:TJ) (hf:PE X f tx) (m:M2 X o "get" apos e f cpos):KN "get" [e,f] (xwm td ty tx):=by
 intro pins s Z H Q I h;refine QQ m.base m.few m.line J0 Yx PySem.F.type_dict_get (thn (ho pins s Z H _ I h) fun u s1 ⟨x,H1,I1,rx,a,ex,d,q1⟩=>?_);ext sU;show(BA,t1,t2,xip I1 d);ext gH t1 t2;rw[m.trees];refine Jw rfl (YR (JF (thn (he pins s1 Z H1 _ I1 q1) fun iv s2 ⟨y,H2,I2,ry,q2⟩ =>
  JF (thn (hf pins s2 Z H2 _ I2 q2) fun fv s3 ⟨z,H3,I3,rz,ov,g,q3⟩=>JY ?_))))
 exact xxg hu I3 g ry rz fun w' s4 I4 rw'=>bv _ H3 I4 rw' q3
theorem xl1 (ho:wj) (he:TJ) (m:M1 X o "pop" apos e cpos):KN "pop" [e] (xwl td ty):=by
 intro pins s Z H Q I h;show(zhM,QQ m.base m.few m.line J0 Qt PySem.F.type_dict_pop (thn (ho pins s Z H _ I h) fun u s1 ⟨x,H1,I1,rx,a,ex,d,q1⟩=>?_),he pins s1 Z H1 _ I1 q1,fun iv s2 ⟨y,H2,I2,ry,kvs,k,v,ea,ey,l,q2⟩=>JY ?_);exact xyi I2 ea ry l eZ zrn
#check _
#check L2
namespace Att
open PySem PySem.W PySem.Calls PyProof.Rows
theorem xil {P:Params}{h:Heap}:∀(ns:iI) (vs:aQ),WellAll P h vs (ns.map WData.int)->Iv:=by
 intro ns
 induction ns with
 | nil =>
  intro vs w;show(bA,List.map_nil,w,w);ext eI
 | cons n ns ih =>
  intro vs w;rw[Zo] at w;cases w with
  | cons a b =>
   cases a;exact .cons _ _ (ih _ b)
theorem xqm {l:OpenLaw}{n:Nat} (hn:zcT) {P:Params}{h:Heap}{args:List WData}{vals:aQ}
    (hpre:l.row.toRowW.claim.pre args=true) (hwl:WellAll P h vals args) :
    ∃ a vs ns,(ax,vals=[o8],args=[WData.list (ns.map WData.int)],lw NA,Iv,Sc):=by
  have hsh:WShape.hasAll [] args [.list .int]=true:=(pre_splitW hpre).1;have hc:l.pre.holds [] { args:=args }=true:=(pre_splitW hpre).2;obtain⟨d,r,rfl,h1,h2⟩:83:=hasAllW_cons hsh;show(nB,hasAllW_nil h2);show(ae,xs,rfl,h3,hasW_list h1);show(jS,ns,items_int h3);have hlen:Sc:=by
    unfold OpenLaw.pre at hc;have h4:(WTm.not (.lt (.lit (.int jE)) (.len (.arg 0)))).holds [] { args:=[.list (ns.map .int)] }=true:=by
      have h4:=(holds_andW hc).1;ext cJ hn h4 h4
    have h5:=condW_of h4 (w_not (w_lt w_lit (w_len_list (w_arg rfl))));rw[Za] at h5;refine We (c8 q);have q':jE<(dW ns.length):=aa
    first
      | (rw[yS q'] at h5; ext dM h5 ao)
      | (ext Gg h5)
  cases hwl with
  | cons w1 w2 =>
    cases w2;cases w1 with
    | list ho hall=>exact⟨105,_,_,ns,rfl,rfl,ho,xil ns _ hall,hlen⟩
theorem xqn (l:OpenLaw) (args:List WData):l.row.toRowW.claim.post args EK args=true :=
 postW_of (r:=l.row.toRowW) (X:=(true == true))
  (show WShape.has [] EK .bool=true by first|rfl|decide|simp[WShape.has,WShape.arms,WShape.armsAll])
  (show (WTm.eq .res (.lit (.bool true))).value [] { args:=args,res:=some EK,after:=args }=some (.bool (true == true)) from w_eq_bool (w_res rfl) w_lit) rfl
theorem attach_call {l:OpenLaw}{n:Nat}{q:Program}{loose:ai}{XP:zfe}{YP:zcZ}{d:DefRec}
    (hn:zcT) (hdf:zaH)
    (call:∀(w:World) (s₀ s₁:Shared) (mg mb:fA) (fa:Addr) (o:Obj) (pm cd doc:Value) (a:Addr) (vs:aQ) (ns:iI),
      Ground q loose [] XP w s₀ mg mb s₁.heap->YP w s₁.heap ->
      s₁.heap.get? fa=some o->o.data=.func (docDef d.name d.params d.body d.scope pm cd doc)->s₁.heap.CodeRec cd d.name->zdG ->
      zoY->Iv->Sc->s₁.gens=#[] ->
      (UY (model l.prog w))) :
    WalkO q loose XP YP l.row.toRowW d [] Xw:=by
  intro w s₀ s₁ mg mb G Y fa o pm cd doc dV kV ho hd hcd hD hmg hg args vals as hpre hlay hrd hwl hlo;show(cX,dV=.none,Dflts.none hD hdf);show(cX,kV=.none,Dflts.noKw hD);obtain⟨a,vs,ns,rfl,rfl,hobj,hints,hlen⟩:105:=xqm hn hpre hwl;refine enter_call (YU (call w s₀ s₁ mg mb fa o pm cd doc a vs ns G Y ho (fd_plain hd) hcd hmg hobj hints hlen hg) (aL r s' hq));show(oA,rfl,h2,h3,h4,hq);exact(cI,.inl ⟨105,EK,EK,[],rfl,p5,EK,xqn l _,fun _=>⟨Yu.nil,fun _ hm=>(nomatch hm)⟩⟩,h2,h3,h4)
section
variable {prog:Program}{w:World}{A:Around}{E:Value->Shared->Prop}{s:Shared}{K:Frag}
noncomputable def xzb (h:Heap) (L d:Addr):aW:=(zdN).filterMap fun a=>if a=L\/a=d then none else (h.get? a).map fun o=>(a,o)
#check _
#check Att
namespace L2
open PySem PySem.Spec PyProof.Rows
variable {q0:Bool}
theorem xj7:∀{vs:aQ}{ns:iI},Iv->Vals (ns.map V.int) vs
 | _,_,.nil=>.nil
 | _,_,.cons n t h=>.cons (fc t) (xj7 h)
noncomputable def Only (H:Hp):Prop:=∀ b,dN\/∃ o xs,aE b (.frz o (.lst xs))
theorem xr6 {P:Program}{w:World}{K:Zf}{mg mb:fA}{CX:CXT}{k:Nat}{fa a:Addr}{fd:FuncData}{x:Str}{sp:Sp}{s₁:Shared}{vs:aQ}{ns:iI}
    (KX:K.In s₁.heap) (hns:s₁.heap.Ns mainGlobals mg) (hb:s₁.heap.Ns builtinsNs mb) (hbb:zlA) (hlim:s₁.heap.NoLimit) (hg:s₁.gens=#[])
    (ha:zoY) (hi:Iv) (hl:dB ns.length) (hr:Room q0 k callerA)
    (F:(MZ,K.In base,FnOk q0 P w K mg base CX k fa fd [x] sp)) (hbind:V4 x)
    (hsp:∀ H:Hp,Only H->RZ->sp fO H ztb HL)
    (hCX:∀ H e s',CX [] H s₁ HL e s'->False) :
    UY zm:=by
  show(af,rv,xj7 hi,lenV,hi.length)
  -- from an abstract heap in which nothing but the script may be tracked
  have core:∀ H:Hp,Only H->RZ->HOk P w H s₁.heap->(∀ b,H b≠none->b=a)->(H a≠none->K.lookup a=none) ->
      (UY zm):=by
    intro H hO hS hok hA hK;show(bw,base_of,∀{b:Addr}{o:Obj},(zrN,dN,(HI).get? b=some o),e,n,xs5 e n);have noA:∀{b:Addr}{o:Obj}{es:jQ}{ep:Nat},zrN jO dN:=fun {b o es ep} e d=>by
      cases q:H b with
      | none=>rfl
      | some u =>
        show(ja,e',b,a,hA b (mG q));ext bA ha e e;have d':Data.seq vs.toArray _=Data.dict es ep:=d;cases d'
    have nsK:∀{b:Addr}{m:fA},s₁.heap.Ns b m->(HI).Ns b m:=fun {b m} ⟨o,es,ep,e,d,r⟩=>⟨103,o,es,ep,base_of e (noA e d),d,r⟩
    have hKb:K.In HI:=fun b o e=>base_of (KX b o e) (by
      cases q:H b with
      | none=>rfl
      | some u =>
        show(ja,e',b,a,hA b (mG q));show(cH,hK (mG q),e))
    have hM:Mod K mg HI:=⟨hKb,nsK hns,⟨mb,nsK hb,hbb⟩,let ⟨mc,h1,h2⟩:=hlim; ⟨mc,nsK h1,h2⟩⟩
    have e0:Env0 P w K mg HI callerA [] s₁ H:=⟨rfl,hM,(sF,xvl e),Nat.le_of_eq (xq3 _ _),trivial,(jy,absurd (show zfR from hb) aj),hok,.of_eq hg⟩
    refine YU ((F _ hKb (nsK hns)).run callerA [] s₁ H (i7 fO) fO fO _ _ hr e0 (hbind s₁ aB) (Cp rfl) (hsp H hO hS)) (aL r s' h);cases r with
    | error e=>exact (hCX H e s' h).elim
    | ok fl =>
      cases fl with
      | next=>exact Yn h
      | brk=>exact Yn h
      | cont=>exact Yn h
      | ret u =>
        obtain⟨v,H',os,bare,un,hok',r',q⟩:86:=h;ext ja q' v UI q;show(cX,u=YC true,r');refine(sK,OldK.of_keep (sF ?_),os,bare);cases q:H b with
        | none=>exact un.keep b o e q (by intro z; show(dM,LF zfR,aj)) aj
        | some u =>
          rcases hO b with z|⟨ob,xs,z⟩
          . ext cH q z
          . have z2:=un.frzs b ob _ z
            obtain⟨e1,_⟩:=hok b _ z;obtain⟨e2,_⟩:=hok' b _ z2;ext bA e e1 e1;exact e2
  cases hk:K.lookup a with
  | some o =>
    -- the script is one of the module's own objects
    have e:=KX a o hk;ext bA ha e e;refine core eX (fun _=>eZ) (.inr ⟨106,_,vs.toArray,_,hk,rfl,rfl,rfl,qr Z6 lenV hl,by simpa using rv⟩) (iU,u,z,by have z':(none:dc HO)=some u:=z; cases z') (fun b z=>absurd rfl z) (aA,absurd rfl z)
  | none =>
    refine core (fun b=>(kE,b,a,some (.frz NA (.lst (ns.map V.int))),none)) (c8 b) (.inl (.inr ⟨NA,bW⟩)) (aL b u z) (au b z) fun _=>hk
    . ext Cr a
      . show(fh,(cq,_,aC hb))
      . exact .inl (if_neg hb)
    . ext Cr a
      . have z':=(aC hb).symm.trans z
        cases z';subst hb;show(aJ,ha,fL hl,bK vs _ rv ha)
      . have z':=(ay hb).symm.trans z
        cases z'
    . ext Cr a
      . exact hb
      . exact absurd (if_neg hb) z
noncomputable abbrev KOf {K:Zf}{h:Heap} (_:K.In h):Zf:=K
theorem walk_of {l:PySem.W.OpenLaw}{n k:Nat}{q:Program}{loose:ai}{XP:zfe}{YP:zcZ}{d:DefRec}{K:Params->Zf}{CX:World->CXT}{sp:World->Sp}{x:Str}
    (hn:zcT) (hn2:dB n) (hdf:zaH) (hr:Room q0 k callerA)
    (hY:(zqZ,(vY).In h))
    (F:∀(w:World) (mg:Str->Option Value) (fa:Addr) (h:Heap),(vY).In h->h.Ns mainGlobals mg->zdG ->
      ∃ fd:FuncData,(V4 x) /\
        (MZ,(vY).In base,FnOk q0 l.prog w vY mg base (CX w) k fa fd [x] (sp w)))
    (hsp:∀(w:World) (H:Hp) (a:Addr) (ns:iI),(bq,Sc,Only H,SqL vY H a Sj,sp w fO H ztb HL))
    (hCX:∀(w:World) (H:Hp) (s:Shared) (e:Value) (s':Shared),CX w [] H s HL e s'->False) :
    PySem.W.WalkO q loose XP YP l.row.toRowW d [] Xw:=by
  refine Att.attach_call hn hdf fun w s₀ s₁ mg mb fa o pm cd doc a vs ns G Y ho hd hcd hmg hobj hints hlen hg=>?_;have KX:=hY w _ Y;show(ae,fd,hb,hF,F w mg fa _ KX G.T.g hmg);exact xr6 KX G.T.g G.T.b G.T.builtins G.T.nolimit hg hobj hints (ZJ hlen hn2) hr hF hb (fun H hO hS=>hsp w H a ns hlen hO hS) fun H e s'=>hCX w H s₁ e s'
noncomputable def xas (s:Stmt) (j:Nat):Stmt:=match s with
 | .ClassDef _ _ _ body _ _ _ _ _ _ _=>body.getD j (.Pass zee)
 | _=>.Pass zee
noncomputable def xb4 (s:Stmt):Arguments:=match s with
 | .FunctionDef _ a _ _ _ _ _ _ _ _=>a
 | _=>{ posonlyargs:=[],args:=[],vararg:=none,kwonlyargs:=[],kw_defaults:=[],kwarg:=none,defaults:=[] }
noncomputable def xbo (s:Stmt):BJ:=match s with
 | .FunctionDef _ _ b _ _ _ _ _ _ _=>b
 | _=>[]
noncomputable def xp (s:Stmt):Scope:=match s with
 | .FunctionDef _ _ _ _ _ _ sc _ _ _=>sc
 | _=>{ kind:=.function,names:=[],isGenerator:=false,isCoroutine:=false }
noncomputable abbrev CX0:CXT:=fun _ _ _ _ _ _=>False
structure Fun (K:Zf) (x qual:Str) (st:Stmt) (f:Addr) (fd:FuncData):Prop where
 ex:∃(oc:Value) (od:js) (kV doc pm:Value) (an:js) (cdv ct:Value) (osl:AC),
  (bc,fd,JC x qual oM kS j6 .none kV doc pm an cdv ct,GV fd,Hf)
 kp:pI f
section
variable {P:Program}{w:World}{K:Zf}{mg:Str->Option Value}{base:Heap}
theorem Fun.ok {x qual:Str}{st:Stmt}{f:Addr}{fd:FuncData}{N ps:ai}{k:Nat}{sp:Sp} (F:Fun K x qual st f fd) (S:zeM) (len:Gx)
    (hbody:∀(cdv:Value) (A:Around) (outer:List Env) (s:Shared) (H:Hp) (vs:List V) (Q:VK) (E:XK),Room q0 k (A.deeper (envOfC qual (xp st) s.heap.objs.size f cdv))->Ey ->
      (MP,(cxOf q0 CX0 P w K mg base N qual j6 f cdv A outer s H E).nox,kS)):FnOk q0 P w K mg base CX0 cL f fd ps sp:=by
  obtain⟨oc,od,kV,doc,⟨pm,an,cdv,ct,osl,rfl,lk,hcd⟩⟩:121:=(F.ex)
  show(Vy,fun A outer s H vs Q E hr hsp=>?_,hbody cdv A outer s H vs Q E hr hsp)
theorem Fun.binds {x qual:Str}{st:Stmt}{f:Addr}{fd:FuncData}{ps:ai} (F:Fun K x qual st f fd)
    (h:(zkw,ziZ (JC x qual oM kS j6 .none kV doc pm an cdv ct))):aS fd ps:=by
  obtain⟨oc,od,kV,doc,⟨pm,an,cdv,ct,osl,rfl,lk,hcd⟩⟩:121:=(F.ex)
  exact .all (h kV doc pm an cdv ct)
theorem fun_mk {x qual:Str}{st:Stmt}{f:Addr}{oc:Value}{od an:js}{osl:AC}{kV doc pm cdv ct:Value} (l:GV (JC x qual oM kS j6 .none kV doc pm an cdv ct))
    (c:Hf) (k:pI f):Fun K x qual st f (JC x qual oM kS j6 .none kV doc pm an cdv ct):=ziT
#check _
theorem xan {A:Around}{k:Nat} (hr:Bj):AI:=Js (Nat.add_le_add_left (ao:1<=64) _) hr.units
section
variable {X:Cx}
theorem pv (i:Nat) {x:Str}{pos:Pos} (hN:rC:=by rfl) (hv:zbZ:=by first|exact QC rfl|exact QI (QC rfl)|exact QI (QI rfl)) (hd:nQ:=by decide)
    (hcd:zpx:=by decide):PE X tJ (tVar i):=xxf hN hv hd hcd
#check _
theorem iteF {A B:Prop} (h:B):cM false A B:=by
 ext lO Z7 h
theorem iteT {A B:Prop} (h:A):cM true A B:=by
 ext aK bW h
theorem ite2 {c A B:Prop} [Decidable c] (h1:c->A) (h2:¬ c->B):if c then A else B:=by
 by_cases h:c
 .rw [aC h];exact h1 h
 .ext ib h;exact h2 h
noncomputable def Same (H H':Hp):Prop:=(oX,aE b o,H' b=some o)
theorem Same.refl (H:Hp):gK H:=fun _ _ h=>h
theorem Same.trans {H H1 H2:Hp} (a:gK H1) (b:kD):L3:=fun c o h=>b c o (a c o h)
theorem Same.free {H H':Hp} (e:cG) {l:Addr} (h:H' l=Option.none):H l=Option.none:=by
 cases q:H l with
 | none=>rfl
 | some o =>
  show(cH,e l o q,h)
theorem Same.seq {K:Zf}{H H':Hp}{a:Addr}{xs:ag} (e:cG) (h:re):SqL K H' a xs:=by
 rcases h with (h|⟨o,h⟩)|h
 .show(Ug,e _ _ h)
 .show(Uf,⟨o,e _ _ h⟩)
 .ext fh h
#check L2
namespace Srt
open PySem PySem.W PyProof.Rows
noncomputable abbrev CM:=BQ (dU oz)
noncomputable abbrev g (p:dy) (i:Nat):Nat:=p.getD i 0
structure Ord (n:Nat) (lt:BQ Bool):Prop where
 irr:∀ i,eF->(cS,lt i i)
 tr:∀ i j k,eF->(bj,j<n,k<n,lt i j=true,lt j k=true,lt i k=true)
 tot:∀ i j,(bj,eF,j<n,i≠j,(cS,lt i j),lt j i=true)
noncomputable def Cmp (n:Nat) (lt:BQ Bool) (cmp:CM) (s:Shared):Prop:=∀ i j,eF->j<n->∀ Q:oz,Q (lt i j) s->cmp i j Q s
theorem xc6 {α:Type}{cmp:CM}{a:α}{Q:dU α}{s:Shared} (h:Q a s):nZ (.ret a) Q:=h
theorem xgi {α:Type}{cmp:CM}{i j:Nat}{k:Bool->KasT α}{Q:dU α}{s:Shared} (h:cmp i j (nI,c,KasT.kasWp cmp (k c) Q s') s):nZ (.ask i j k) Q:=h
theorem xys {p:dy}{n:Nat}:kas_asc p 0 n=.ret n:=by unfold kas_asc; rfl
theorem xy1 {p:dy}{f n:Nat}:kas_asc p (f+1) n=(zga,p.getD n 0,p.getD (n-1) 0,.ret n,kas_asc p f gP):=dF kas_asc
theorem xxo {p:dy}{k:Nat}:kas_bin 0 p k=.ret p:=by unfold kas_bin; rfl
theorem xy6 {f:Nat}{p:dy}{k:Nat}:kas_bin (f+1) p k=(zj k 0 k).bind fun l=>kas_bin f (bubble p k (k-l)) cL:=dF kas_bin
theorem xub {p:dy}{k l r:Nat}:(zj 0 l r)=.ret l:=by unfold kas_place; rfl
theorem xt0 {p:dy}{k f l r:Nat}:(zj (f+1) l r)=if l>=r then .ret l else (zga,p.getD k 0,p.getD rH 0,zj f l rH,zj f (rH+1) r):=dF kas_place
theorem xv7 {p:dy}{k l:Nat}:kas_desc 0 p k l=.ret (p,k,l):=by unfold kas_desc; rfl
theorem xwd {f:Nat}{p:dy}{k l:Nat}:kas_desc (f+1) p k l=(zga,p.getD k 0,zdJ,(Um,l,kas_desc f (kas_rev p (k-(l+1)) k) cL 0,kas_desc f p cL 0),.ask zdJ (p.getD k 0) fun d=>(cM,d,.ret (p,k,l),kas_desc f p cL (l+1))):=dF kas_desc
section
variable {n:Nat}{lt:Nat->Nat->Bool}{cmp:CM}{s:Shared}
structure Arr (n:Nat) (p:dy):Prop where
 sz:p.size=n
 lt:∀ i,eF->CY<n
 inj:∀ i j,(bq,eF,j<n,CY=g p j,i=j)
 pm:p.Perm zdP
theorem g_at {p:dy}{i:Nat}{v:Nat} (h:aF p v):CY=v:=by
 show p.getD i 0=v;rw[QF,h];rfl
theorem Arr.at {p:dy} (a:uu) {i:Nat} (h:eF):aF p CY:=by
 have z:i<p.size:=aD a.sz h
 have e:(aF,p,p[i]):=Jf z;rw[e,g_at e]
noncomputable def Srtd (lt:BQ Bool) (p:dy) (m:Nat):Prop:=∀ i j,i<j->j<m->(tG i j)=true
theorem xnv (o:Fg) {p:dy} (a:uu) {m:Nat} (hm:m<=n) (h:(SN,1<=i,(tG (i-1) i)=true)):Srtd lt p m:=by
 intro i j hij hj;show(Fo,d,rfl,∃ d,j=aM+d,j-aM)
 induction d with
 | zero=>exact h aM aa hj
 | succ d ih =>
  show(CH,ih aa aa,h (aM+(d+1)) aa hj);exact o.tr _ _ _ tU tU tU h1 h2
theorem xmu (c:DZ) {p:dy} (a:uu) {G:dU Nat}:∀(f k:Nat),1<=k->k+f<=n ->
    (∀ m,(bj,k<=m,m<=k+f,(SN,k<=i,cS (tG i (i-1))),m<k+f->(tG m (m-1))=true,G m s))->(nZ (kas_asc p f k) G)
  | 0,k,h1,hf,hG=>by
    rw[xys];exact xc6 (hG k bo aa RU (fR aa))
  | f+1,k,h1,hf,hG=>by
    rw[xy1];refine xgi (c _ _ Ty Rt _ ?_);cases e:tG k (k-1) with
    | true =>
      exact xc6 (hG k bo aa RU (fun _=>e))
    | false =>
      show(Ot,kas_asc p f cL,xmu c a f cL aa aa fun m hm hm2 h3 h4=>hG m aa aa zef (fun h=>h4 aa),i=k)
      . ext aK z e
      . exact h3 i aa hi2
theorem xnm (o:Fg) (c:DZ) {p:dy} (a:uu) {G:(dU,dy × Nat × Nat)}:∀(f k:Nat),1<=k->k+f<=n ->
    (∀ m,(bq,k<=m,m<=k+f,(SN,k<=i,(tG i (i-1))=true),G (p,m,0) s))->(nZ (kas_desc f p k 0) G)
  | 0,k,h1,hf,hG=>by
    rw[xv7];exact xc6 (hG k bo aa RU)
  | f+1,k,h1,hf,hG=>by
    rw[xwd];refine xgi (c _ _ Ty Rt _ ?_);cases e:tG k (k-1) with
    | true =>
      show(Ot,kas_desc f p cL 0,xnm o c a f cL aa aa fun m hm hm2 h3=>hG m aa aa zef,i=k)
      . ext aK z e
      . exact h3 i aa hi2
    | false =>
      refine xgi (c _ _ Rt Ty _ ?_);show(nA,ne,g p k,g p (k-1),(gg,a.inj _ _ aa aa z))
      rw[(tH,lt zdJ (p.getD k 0),o.tot _ _ Ty Rt ne e)];exact xc6 (hG k bo aa RU)
theorem Arr.rev {p:dy} (a:uu) {k:Nat} (hk:k<=n):Arr n (kas_rev p 0 k)/\ziy:=by
 have ge:ziy:=fun i hi=>by
  have z:=getElem?_mirror_all (xs:=p) (i:=0) (j:=k) (aD a.sz hk) i;by_cases c:i<k
  .rw [aC c];rw[aC ⟨fP,c⟩,(dS,0+k-1-i=Me),a.at (dS,Me<n)] at z;exact g_at z
  .ext ib c;show(Sv,if_neg (fun w=>c w.2),a.at hi)
 refine⟨(zpk,kas_rev_size,e,(mirror_perm _ _ _ _).trans a.pm),ge⟩
 .rw [B7];split<;>exact tU
 .rw [B7,ge j hj] at e;split at e<;>split at e<;>have:=a.inj _ _ aa aa e<;>omega
theorem xs0 (o:Fg) (c:DZ) {p:dy} (a:uu) (h2:2<=n) {G:(dU,Nat × dy)}
    (hG:∀ m p',(bj,1<=m,m<=n,Arr n p',Srtd lt p' m,G (m,p') s)):nZ (kas_count n p) G:=by
  unfold kas_count;rw[KasT.kasWp_bind];have up:∀ q,Arr n q->∀ i,(bq,1<=i,eF,(cS,lt (g q i) (g q (i-1))),lt (g q (i-1)) (g q i)=true):=fun q b i h1 hi e =>
    o.tot _ _ (b.lt i hi) (b.lt (i-1) aa) (aA (gg,b.inj _ _ hi aa z)) e
  refine xmu c a (n-1) 1 bo aa (bC m hm hm2 h3 h4);have sm:Srtd lt p m:=xnv o a aa (gO,hi,hi2,up p a i hi aa (h3 i hi hi2));show nZ (cM (m == n) _ _) G;by_cases e1:m=n
  . rw[aC (by simpa using e1)]
    exact xc6 (hG m p hm aa a sm)
  . rw[ay (by simpa using e1)]
    by_cases e2:m>1
    . rw[aC e2]
      refine xgi (c _ _ (a.lt 0 aa) (a.lt (m-1) aa) _ ?_);rw[(tH,lt (p.getD 0 0) (p.getD (m-1) 0),sm 0 (m-1) aa aa)];exact xc6 (hG m p hm aa a sm)
    . rw[ay e2]
      show(ja,m1,m,1,aa);have d1:=h4 aa;unfold kas_descPart;show(nK,KasT.kasWp_bind,xnm o c a (n-(1+1)) (1+1) aa aa (cu k hk hk2 h5));show nZ (Um,(0:Nat),_,kas_tail3 k n p) G;rw[if_neg (Yt 0)];unfold kas_tail3;rw[KasT.kasWp_bind];obtain⟨b,ge⟩:=a.rev (k:=k) aa;refine xmu c b (n-k) k aa aa fun m' hm' hm2' h6 _=>?_;refine xc6 (hG m' _ aa aa b (xnv o b aa zef));by_cases ik:i<k
      . rw[ge i aa,ge (i-1) aa,aC ik,aC aa]
        have e3:k-1-(i-1)-1=Me:=aa
        by_cases z:k-1-(i-1)=1
        . have z':Me=0:=aa
          ext cD z z' d1
        . have:=h5 (k-1-(i-1)) aa aa
          ext KM e3
      . exact up _ b i hi aa (h6 i aa hi2)
theorem xh1 (o:Fg) (c:DZ) {p:dy} (a:uu) {k:Nat} (hk:k<n) (sk:Srtd lt p k) {G:dU Nat}:∀(f l r:Nat),l<=r->r<=k->r-l<=f ->
    (∀ j,j<l->(cS Lg))->(∀ j,r<=j->j<k->Lg=true) ->
    (∀ m,(bq,m<=k,(∀ j,j<m->(cS Lg)),(∀ j,m<=j->j<k->Lg=true),G m s))->(nZ (zj f l r) G)
  | 0,l,r,h1,h2,h3,lo,hi,hG=>by
    ext zlK xub
  | f+1,l,r,h1,h2,h3,lo,hi,hG=>by
    rw[xt0];by_cases e:l>=r
    . show(zlK,aC e)
    . rw[ay e]
      have m1:rH<r:=aa
      have m2:l<=rH:=aa
      refine xgi (c _ _ Tz tU _ ?_);cases e2:tG k rH with
      | true =>
        show(Ot,zj f l rH,xh1 o c a hk sk f l _ m2 aa aa lo (aL j hj hj2) hG,j=rH)
        . ext aK z e2
        . exact o.tr _ _ _ Tz tU tU e2 (sk _ _ aa hj2)
      | false =>
        show(Ot,zj f (rH+1) r,xh1 o c a hk sk f _ r aa h2 aa (au j hj) hi hG,j=rH)
        . ext aK z e2
        . cases e3:Lg with
          | false=>rfl
          | true =>
            have:=o.tr _ _ _ Tz tU tU e3 (sk j rH aa aa);ext Bv e2
theorem Arr.bub {p:dy} (a:uu) {k m:Nat} (hk:k<n) (hm:m<=k):Arr n HM/\zhT:=by
 have ge:zhT:=fun i hi=>by
  have z:=getElem?_bubble (xs:=p) (src:=k) (aD a.sz hk) (k-m) aa i;rw[(dS,k-(k-m)=m)] at z;ext jc i m
  .rw [aC c];show(Sv,aC c,a.at hk)
  .ext ib c;rw[sr] at z;by_cases d:m<i/\i<=k
   .rw [aC d];show(Sv,aC d,a.at (dS,i-1<n))
   .ext ib d;show(Sv,ay d,a.at hi)
 refine⟨(zpk,bubble_size,e,(bubble_perm _ _ _).trans a.pm),ge⟩
 .rw [B7];split
  .exact a.lt _ hk
  .split<;>exact tU
 .rw [B7,ge j hj] at e;split at e<;>(try split at e)<;>(try split at e)<;>(try split at e)<;>first|omega|(show(bZ,a.inj _ _ aa aa e))
theorem xqb (o:Fg) (c:DZ) {G:dU dy}:∀(f k:Nat) (p:dy),(bj,k+f=n,uu,Srtd lt p k,(∀ p',Arr n p'->Srtd lt p' n->G p' s),nZ (kas_bin f p k) G)
 | 0,k,p,h,a,sk,hG=>by
  rw[xxo];ext Fv k n;exact xc6 (hG p a sk)
 | f+1,k,p,h,a,sk,hG=>by
  have hk:k<n:=aa
  rw[xy6,KasT.kasWp_bind];refine xh1 o c a hk sk k 0 k fP bo aa (fun j hj=>aa) (fun j hj hj2=>aa) (cu m hm lo hi);obtain⟨b,ge⟩:=a.bub hk hm;refine xqb o c f cL _ aa b (cu i j hij hj) hG;show(bw,inS,∀ i,i<m->(tG i k)=true,i,hi',o.tot _ _ Tz (a.lt i aa) (aA (gg,a.inj _ _ hk aa z)) (lo i hi'));have g1:∀ i,eF->i=m->g HM i=g p k:=gO hi z (cA,B7,aC z)
  have g2:∀ i,(bq,eF,m<i,i<=k,g HM i=g p (i-1)):=fun i hi z z2=>by rw[B7,rT,aC ⟨z,z2⟩]
  have g3:(SN,eF,g HM i=CY):=(gO,hi,z,by rw[B7,rT,rT])
  by_cases j1:j=m
  .rw [g1 j aa j1,g3 i aa aa];exact inS i aa
  .by_cases i1:i=m
   .rw [g1 i aa i1,g2 j aa aa aa];exact hi (j-1) aa aa
   .by_cases j2:m<j
    .rw [g2 j aa j2 aa];by_cases i2:m<i
     .show(c9,g2 i aa i2 aa,sk _ _ aa aa)
     .rw [g3 i aa aa];by_cases z:i=j-1
      .omega
      .exact sk _ _ aa aa
    .rw [g3 j aa aa,g3 i aa aa];exact sk _ _ hij aa
theorem xq0:Arr n zdP:=by
 show(xO,e,∀ i,eF->g zdP i=i,g_at (cA,List.getElem?_toArray,Yp hi));exact⟨aj,iy hi (aD,e i hi,hi),fun i j hi hj z=>by show(rD,e i hi,e j hj),Array.Perm.refl _⟩
theorem sort_wp (o:Fg) (c:DZ) (h2:2<=n) {G:dU dy} (hG:∀ p,uu->Srtd lt p n->G p s):nZ (kas_sort n) G:=by
 unfold kas_sort;show(nK,KasT.kasWp_bind,xs0 o c xq0 h2 fun m p hm hm2 a sm=>?_);show nZ (gW m n _ _) G;by_cases e:m<n
 .rw [aC e];show(uW,nZ (kas_bin (n-max m 1) p (max m 1)) G,Nat.max_eq_left hm,xqb o c (n-m) m p aa a sm hG)
 .ext ib e;ext Fv m n;exact xc6 (hG p a sm)
#check _
#check Srt
namespace XL
open PySem
noncomputable def Xat (h:Heap) (e:Addr) (cls:Value) (od tb:js):Prop :=
 ∃ oe vs,(Eo e oe)/\oe.cls=cls/\oe.dict=od/\(Ul oe.data)/\1<vs.size /\
  ((tb=none/\(dX vs 1 JE))\/∃ T oT ts,qC tb T (ax,dX vs 1 F4,T≠e,Eo T oT,oT.data=.fields ts,dX ts 3 JE))
#check XL
namespace XL
open PySem PySem.W PySem.Calls PyProof.Rows Builtin Builtin.ObjectAttr
noncomputable def vErr:aQ:=[fU "ValueError",fU "Exception",fU "BaseException",fU "object"]
noncomputable def xhc:aQ->Bool
 | []=>false
 | .ref c::r=>xhc r||((.ref c::r:aQ) == vErr)
 | vc=>vc == vErr
noncomputable def xui (K:Frag) (C:Addr):Bool:=(clsIn K C).any fun cd=>xhc cd.mro
theorem xia:∀{l:aQ},xhc l=true->l.contains (fU "object")=true/\l.contains (fU "BaseException")=true/\(cS l.isEmpty)
 | [],e=>by cases e
 | vc,e=>by
  have last:(Gn (vc:aQ) vErr)->(vc).contains (fU "object")=true/\(vc).contains (fU "BaseException")=true/\(cS,(vc).isEmpty):=fun z=>by
   rw[QG z];ext xS aP aP
  cases v with
  | ref c =>
   rcases Bool.or_eq_true_iff.mp e with z|z
   .obtain ⟨a,b,_⟩:43:=xia z;show(xS,znJ a,znJ b)
   .exact last z
  | _=>exact last e
structure XC (K:Frag) (C:Addr):Prop where
 over:xui K C=true
 hd:hasDictIn K C=true
 sa:zaX "__setattr__" "object.__setattr__"
 ga:zaX "__getattribute__" "BaseException.__getattribute__"
 gh:findIn K gD "__getattr__"=some none
 ca:zaX "__class__" "object.__class__"
 cg:specialIn K X6 "__get__"=some (Gd "getset_descriptor.__get__")
 ct:(LG,takesIn K (.builtin "object.__class__"))
section
variable {prog:Program}{w:World}{A:Around}{E:Value->Shared->Prop}{s:Shared}{K:Frag}{x C dx:Addr}{ox:Obj}{od:Option Obj}{name:Str}{v:Value}{R:Result->Shared->Prop}
theorem XC.mro (c:zU):∃ cd,clsIn K C=some cd/\xhc cd.mro=true/\cd.hasDict=true:=by
 show(ae,cd,h1,h2,any_some c.over);show(ae,cd',h3,h4,any_some c.hd);ext bA h1 h3 h3;exact ba cd h1 h2 h4
theorem XC.isObj (c:zU):(LG,mroIn K C (.type "object")):=by
 show(on,cd,h1,h2,c.mro)
 obtain⟨a,_,b⟩:43:=xia h2;ext zqb
theorem XC.isExc (c:zU):(LG,mroIn K C (.type "BaseException")):=by
 show(on,cd,h1,h2,c.mro)
 obtain⟨_,a,b⟩:43:=xia h2;ext zqb
theorem xt4 (v:Value):bindSpecial (.builtin "BaseException.__getattribute__") v=pure (oU "BaseException.__getattribute__",[v]):=by
 have f:=PySem.F.attr_ValueError.ga.bind v;exact f
theorem xsz:plainId "BaseException.__getattribute__"=true:=PySem.F.attr_ValueError.ga.plain
theorem xw4 {Q:aT}{expr fill:Bool}{tk:Tok} (X:yZ) (c:zU) (I:zrO)
    (h:wpAny aR A.in1 (Builtin.«object.__getattribute__» (i7 [m5,zeS]))
      (nI,fin,match fin with|.done (.ret v)=>wpAny aR A (handedOut v) Q E s'|_=>False) pP s) :
    wpAny aR A (getAttrBy m5 zeS fill expr) Q E s:=by
  obtain⟨hh,g,d,t,os⟩:=s;have L0:=I.type (M:=aR);show(af,L1,looks_findIn (M:=aR) X c.ga,L2,looks_findIn (M:=aR) X c.gh);have sub:Looks aR hh (isInstance m5 (.type "BaseException")) true:=I.type.andThen (looks_mroIn X c.isExc);have f2:(onTheHeap (Zs C)&&zmy == zpa)=false:=by
    rw[KO zmy zpa aP]; rfl
  have f3:(expr&&onTheHeap (Q3 "BaseException.__getattribute__"))=false:=by cases expr<;>rfl
  unfold getAttrBy;refine ZZ (Zc (L0.at (Zc (L1.at ?_))))
  dsimp only
  rw[f2];ext vt;unfold getAttrByItsOwn hookBefore;show(br,L2.at (Zc (YL (ZZ ?_))));unfold callGetattribute;rw[f3];ext vt;unfold boundAndCalled;rw[xt4];refine Zc (Zk (Wi (W2 xsz PySem.F.entry_bexc_ga
    (@check_slot aR _ _ ⟨hh,g,d,t,os⟩ "BaseException.__getattribute__" "BaseException" "__getattribute__" m5 [zeS] [] _ aP aP sub (PySem.F.args_bexc_ga _ _) ?_))))
  refine Ja h (aL fin s' z) fun e s' z=>z.elim;rcases fin with (_|_|_|_)|_<;>first|exact z|exact z.elim
theorem xss {Q:zG} (X:yZ) (c:zU) (I:zrO) (h:Q (bu C) pA) :
    wpAny aR A (getAttr? m5 "__class__") Q E s:=by
  obtain⟨cd,h1,_,h2⟩:63:=(c.mro)
  have hf:findObj K C od "__class__"=some (.bind (.builtin "getset_descriptor.__get__") X6):=by
    unfold findObj;rw[h1,Wd,c.ca,Wd];simp[c.cg,c.ct]
  unfold getAttr? getAttrBy?;refine Zc (wpAny_mkText (Zc (YL ?_)));refine xw4 (s:=pA) X c I ?_;show(af,L0,I.type (M:=aR),L1,looks_find (M:=aR) X I hf);show(br,zeK (L0.here (s:=pA) (Zc (L1.here (s:=pA) ?_))));show wpAny _ _ (holding [_] (call _ [_,m5,gD])>>=ret) _ _ _;show(br,ZZ (Wi (class_get (s:=pA) (ox:=ox) (od:=od) X I c.isObj ?_)));ext ur;show wpAny _ _ (handedOut gD) _ _ _;exact Zk (Zk h)
#check _
#check XL
namespace XL
open PySem
#check XL
namespace L2
open PySem PySem.Spec PyProof.Rows XL
variable {q0:Bool}
noncomputable def XO (e C:Addr) (od:js):HO:=.ext fun h=>∃ ox vs,(Eo e ox)/\zlj
noncomputable def XD (dx:Addr) (fs:lD):HO:=.ext fun h=>Pq/\∃ mA,SE/\GH/\Wm mA (fs.map (·.1))
noncomputable def CXo (P:Program) (w:World):CXT:=fun outer H s E u s'=>∃ e C od H' T,u=.ref e/\s'.os=s.os/\PB/\Un (frs outer) [] H H' s.heap s'.heap/\HOk P w H' s'.heap /\
 (ax,Xat s'.heap e gD od (some T),BY e (XO e C od),AS T,H' T=none,E e C H')
section
variable {X:Cx}{pins:List (Addr × Obj)}{Z:St}{H:Hp}{s:Shared}{e C:Addr}{od tb:Option Addr}
theorem Inv.size_lt (I:aq) {b:Addr} (h:AS b):bD dN AM (yB b) (Ip b):=by
 refine(cI,I.hok.fresh h,lM,cu x c hc z,aL p hp z)
 .ext gM z;exact absurd I.lt (QJ.mpr h)
 .obtain ⟨v,o,ho,_⟩:82:=I.cell x c hc;show(cJ,z,ho,absurd (Zv ho) (QJ.mpr h))
 .have g:=(I.pin p hp).1;show(cJ,z,g,absurd (Zv g) (QJ.mpr h))
theorem xq:xeh (CXo X.prog X.w) X (fun _ _ _ _=>False):=fun pins Z H s u s' I h=>by
 obtain⟨e,C,od,H',⟨T,_,_,_,_,_,_,_,_,_,q⟩⟩:121:=h;exact q.elim
#check _
#check L2
namespace XL
open PySem PySem.W
#check XL
namespace L2
open PySem PySem.Spec PyProof.Rows XL
variable {q0:Bool}
section
variable {X:Cx}{pins:List (Addr × Obj)}{Z:St}{H:Hp}{s:Shared}{a C dx:Addr}{od:Option Addr}{fs:List (Str × V)}{f:Str}{v y:V}{u:Value}{A:Around}{E:Value->Shared->Prop}
theorem xyt (I:aq) (e:Ov):∃ ox vs,(yg ox)/\zlj:=(I.hok a _ e).1
theorem xtl (I:aq) (e:aE dx (XD dx fs)):Pq/\∃ mA,s.heap.Ns1 dx mA/\GH/\Wm mA (fs.map (·.1)):=(I.hok dx _ e).1
theorem xmg {o:Obj}{vs:gS} (d:Ul o.data):PySem.W.notCls o=true:=by
 unfold PySem.W.notCls;rw[d]
#check _
#check L2
namespace XL
open PySem PySem.W
#check XL
namespace L2
open PySem PySem.Spec PyProof.Rows XL
variable {q0:Bool}
#check L2
namespace XL
open PySem PySem.W
theorem xql {K:Frag}{x C:Addr} (c:zU):KitX K m5 gD (fR,∃ ox od,InstAt h x ox C od) where
 ty:=fun _ _ _ ⟨_,_,I⟩=>I.type
 it:=fun _ _ X _=>by
  show(Uj,cd,hc,c.mro)
  ext zuT
  .rename_i c' d' cd' sl' ho
   intro A' Q' E' s' k q;unfold isType loadHead;exact Zc (wpAny_loadPart (k _ _ (X _ _ ho)) (Zk q))
  .cases hc
 ne:=fun h tp dd its n sl X htp=>by
  show(Uj,cd,hc,c.mro)
  refine Ji.mpr (c8 q);show(ut,C,tp,Zs.inj (beq_iff_eq.mp q));ext zuT
  .rename_i c' d' cd' sl' ho
   have z:=(X _ _ ho).symm.trans htp;cases z
  .cases hc
 ca:=fun X ⟨ox,od,I⟩ k=>xss X c I k
#check XL
namespace L2
open PySem PySem.Spec PyProof.Rows XL
variable {q0:Bool}
noncomputable def clsV:V->(dc Value)
 | .ty n=>some (fU n)
 | aB=>cV
 | _=>none
theorem xh8 {c:V}{u cv:Value} (e:zbu) (r:RelV c u):u=cv:=by
 cases c<;>first|(cases e; exact r)|cases e
noncomputable def xpd:ag->(dc aQ)
 | []=>some []
 | c::r=>(clsV c).bind fun a=>(xpd r).map (a::·)
theorem xj0:∀{cs:ag}{us cv:aQ},xpd cs=some cv->Vals cs us->us=cv
 | [],_,_,e,.nil=>by ext jM e
 | c::r,_,_,e,d4 rc rr=>by
  show(ae,a,e1,e2,Option.bind_eq_some_iff.mp e);ext tP b e3 e2;rw[xh8 e1 rc,xj0 e3 rr]
section
variable {X:Cx}{pins:List (Addr × Obj)}{Z:St}{H:Hp}{s:Shared}{A:Around}{E:Value->Shared->Prop}{Q:Value->Shared->Prop}
theorem xnr {a C:Addr}{od:js} (I:aq) (h:Ov) (hd:∀ d,od=some d->∃ o,nO):∃ ox odx,PySem.W.InstAt s.heap a ox C odx:=by
 obtain⟨ox,vs,g,ce,oo,de⟩:84:=xyt I h;cases e:od with
 | none=>exact⟨ox,none,g,ce,xmg de,by rw[oo,e]; trivial⟩
 | some d =>
  obtain⟨o,go⟩:=hd d e;exact⟨ox,some o,g,ce,xmg de,qr oo e go⟩
#check _
inductive xyh (K:Zf) (xs:ag) (H:Hp) (Q:VK):Prop
 | mk (x c) (e_:xs=[x,c]) (r_:((∃ t cv b,(bD,TyOf K H x t,zbu,Wy K t cv=some b,mV b))\/(∃ a C od cv b,bc x aB Ov (ax,zkj,zU,zbu,Wy K gD cv=some b,mV b))\/(∃ a C od p cs cv b,(ax,x=aB,Ov,zkj,zU,(ax,c=eB,SqT K H p cs,xpd cs=some cv,PySem.W.kitAny K gD cv=some b,mV b)))))
section
variable {X:Cx}
theorem xbx:xcf X (oU "isinstance") (xyh X.K):=by
 intro pins s Z H us xs Q I r h;obtain⟨x,c,rfl,h⟩:=h;obtain⟨u,v,rfl,ru,rv⟩:83:=xk4 r;rcases h with⟨t,cv,b,ty,ec,ek,q⟩|⟨a,C,od,cv,b,rfl,ha,hd,xc,ec,ek,q⟩|⟨a,C,od,p,cs,cv,b,rfl,ha,hd,xc,rfl,hp,ec,ek,q⟩
 .show(nB,xh8 ec rv);exact xqd I ru ty ek Xa
 .show(nB,xh8 ec rv);show(cX,u=o8,ru);show(zhW,JH (xql xc) I.kIn (xnr I ha (au d e)) ek dJ Xa)
 .show(cX,u=o8,ru);show(cX,v=Zs p,rv);show(on,its,vi,it,I.tuple hp);show(nB,xj0 ec vi);obtain⟨o,g,oc,⟨n,od'⟩⟩:63:=it;obtain⟨c1,d1,dt1,sl1⟩:=o
  dsimp only at oc od'
  subst oc od';show(zhW,PySem.W.kia_tup (xql xc) I.kIn (xnr I ha (au d e)) g ek dJ Xa)
#check _
noncomputable def xbz (scope:Scope):ai:=(scope.names.filter fun x=>zfW).map (·.1)
noncomputable def Cx.clo (X:Cx) (scope:Scope):Ix:=(tY).reverse.map fun n=>(n,(Oj).getD 0)
theorem xiu {env:Env}{f:Str->Addr}:∀(l:OR) (acc:Ix),(∀ x∈l,dH=.free->env.cells.lookup aZ=some (f aZ)) ->
    (forIn l acc fun x cs=>(if zfW then do let c <- cellOf env aZ; pure (Qf ((aZ,c)::cs)) else pure (Qf cs):Sem (ForInStep Ix))) =
      pure ((((l.filter fun x=>zfW).map (·.1)).reverse.map fun n=>(n,f n))++acc)
  | [],acc,_=>rfl
  | x::r,acc,h=>by
    have ih:=fun a=>xiu r a zgg;rw[List.forIn_cons];by_cases q:dH=.free
    . have e:=h x Zm q
      have qb:Gn dH Q4:=d7 q
      rw[aC qb,Wf,aC qb];have ec:cellOf env aZ=pure (f aZ):=by unfold cellOf; rw[e]
      rw[ec];simp only[pure_bind];rw[ih];simp
    . ext qe qb dH Q4 zcz
      rw[ay (vW qb),Wf,ay (vW qb)];simp only[pure_bind];rw[ih]
theorem xms {X:Cx}{scope:Scope} (h:zaq):closureFor scope X.env=pure (X.clo scope):=by
 unfold closureFor;have z:=xiu (env:=X.env) (f:=fun n=>(Oj).getD 0) scope.names [] fun x hx hf=>by
  show(jU,c,h aZ (Zg.mpr (dk x (Ly,hx,bF hf))));rw[e];rfl
 rw[Qe] at z;refine (bind_pure (m:=Sem) _).trans ?_;exact z
theorem xns {X:Cx}{scope:Scope}{n:Str}{c:Addr} (h:(mw).lookup n=some c):wU/\c=(Oj).getD 0:=by
 have z:=Jy h;unfold Cx.clo at z;show(ae,y,hy,e,Zg.mp z);injection e with e1 e2
 subst e1;show(aO,List.mem_reverse.mp hy,e2.symm)
theorem xfh {f:Str->Addr}{n:Str}:∀{l:ai},n∈l->(l.map fun y=>(y,f y)).lookup n=some (f n)
 | [],h=>vM
 | y::r,h=>by
  rw[Zo,Zz];by_cases q:n=y
  .subst q;simp
  .show(c9,KO n y zcz,xfh ((Zu.mp h).resolve_left q))
theorem xjr {X:Cx}{scope:Scope}{n:Str}{c:Addr} (hn:wU) (h:vg):(mw).lookup n=some c:=by
 have z:=xfh (f:=fun n=>(Oj).getD 0) (List.mem_reverse.mpr hn);unfold Cx.clo;rw[z,h];rfl
noncomputable def xdr:TT:=(Fw,Q true H)
noncomputable def PIf (X:Cx) (ifs:kG) (t:TT):Prop :=
 ∀(pins:List (Addr × Obj)) (s:Shared) (Z:St) (H:Hp) (Q:wm),aq->B4 ->
  wpAny aH X.A (zhF X.env (im c)) RE X.xe s
theorem xa7 {X:Cx}:PIf X [] xdr:=fun pins s Z H Q I h=>Zk ⟨H,I,h⟩
theorem xd4 {X:Cx}{c:Expr}{t:TT} (hc:PT X c t):PIf X [c] t:=fun pins s Z H Q I h=>by
 rw[List.forIn_cons];ext Cl;rw[bW];show(br,(Ja (hc pins s Z H Q I h) (iU,s1,q,Zk ?_) CD));exact Zk q
theorem xjv {env:Env}{scope:Scope} (nc:M7) (n:Str) (h:(yo).names.lookup n=some .cell\/(yo).names.lookup n=some .free):wU:=by
 have key:∀ k,(yo).names.lookup n=some k->zty->wU:=fun k e hk=>by
  ext ziq
  .rename_i q
   injection ey with e1 e2
   subst e1;have:j=.free:=by
    ext zni
   subst this;exact Zg.mpr Pj
  .ext zrh;rcases hk with z|z
   .show(dM,z,nc _ hy)
   .subst z;exact Zg.mpr Pj
 rcases h with h|h
 .exact key _ h (.inl rfl)
 .exact key _ h (.inr rfl)
theorem xgd {env:Env}{scope:Scope}{n:Str} (h:scope.names.lookup n=some .free):(yo).names.lookup n=some .cell\/(yo).names.lookup n=some .free:=by
  have key:∀(l:OR),l.lookup n=some .free->(zmg).lookup n=some .cell \/
      (zmg).lookup n=some .free:=fun l=>by
    induction l with
    | nil=>intro e; ext nH
    | cons y r ih =>
      intro e;obtain⟨m,k⟩:=y;rw[Zo];rw[Zz] at e;cases q:n == m with
      | true =>
        ext bA q e e
        dsimp only
        split
        . left; rw[Zz,q]
        . right; rw[Zz,q]
      | false =>
        rw[q] at e;have z:=ih e
        dsimp only
        split<;>(ext cD Zz q z)
  exact key _ h
section
variable {P:Program}{w:World}{K:Zf}{mg:Str->Option Value}{base:Heap}
theorem Fun.okn {x qual:Str}{st:Stmt}{f:Addr}{fd:FuncData}{N ps:ai}{k:Nat}{sp:Sp} (F:Fun K x qual st f fd) (S:zeM) (len:Gx)
    (hbody:∀(cdv:Value) (A:Around) (outer:List Env) (s:Shared) (H:Hp) (vs:List V) (Q:VK) (E:XK),Room q0 k (A.deeper (envOfC qual (xp st) s.heap.objs.size f cdv))->Ey ->
      (MP,(cxOf q0 aU P w K mg base N qual j6 f cdv A outer s H E).nox,kS)):FnOk q0 P w K mg base aU cL f fd ps sp:=by
  obtain⟨oc,od,kV,doc,⟨pm,an,cdv,ct,osl,rfl,lk,hcd⟩⟩:121:=(F.ex)
  show(Vy,fun A outer s H vs Q E hr hsp=>?_,hbody cdv A outer s H vs Q E hr hsp)
#check _
#check L2
namespace L2
open PySem PySem.Spec PyProof.Rows XL
theorem ifP {b:Bool}{A B:Prop} (h:b=true) (q:A):cM b A B:=by
 show(aK,aC h,q)
theorem ifN {b:Bool}{A B:Prop} (h:cS b) (q:B):cM b A B:=by
 show(lO,vW h,q)
section
variable {X:Cx}
theorem xjy:mh .LtE (EW,∃ i j,(bc,x,.str i,y=.str j,mV (!(bG (j.cps.toList<i.cps.toList))))):=by
 intro pins s Z H x y v u Q I rx ry h;obtain⟨i,j,rfl,rfl,q⟩:83:=h;ext i8;ext f8;exact PySem.P.le_str (du rfl)
#check _
#check L2
namespace L2
open PySem PySem.Spec PyProof.Rows
variable {q0:Bool}
section
variable {X:Cx}
theorem xhf:∀{us:aQ}{ys:ag},us.length=ys.length->(∀(j:Nat) (y:V) (u:Value),Fc->(bQ us u)->hJ)->Vals ys us
 | [],[],_,_=>.nil
 | u::us,nD,hl,h=>d4 (h 0 y u rfl rfl) (xhf (Nat.succ.inj hl) fun j y' u' e e'=>h eE y' u' e e')
#check _
structure FunD (K:Zf) (x qual:Str) (st:Stmt) (T f:Addr) (fd:FuncData):Prop where
 ex:∃(oc:Value) (od:js) (kV doc pm:Value) (an:js) (cdv ct:Value) (osl:AC),
  (bc,fd,JC x qual oM kS j6 F4 kV doc pm an cdv ct,GV fd,Hf)
 kp:pI f
section
variable {P:Program}{w:World}{K:Zf}{mg:Str->Option Value}{base:Heap}
theorem FunD.okn {x qual:Str}{st:Stmt}{T f:Addr}{fd:FuncData}{N ps:ai}{k:Nat}{sp:Sp} (F:FunD K x qual st T f fd) (S:zeM) (len:Gx)
    (hbody:∀(cdv:Value) (A:Around) (outer:List Env) (s:Shared) (H:Hp) (vs:List V) (Q:VK) (E:XK),Room q0 k (A.deeper (envOfC qual (xp st) s.heap.objs.size f cdv))->Ey ->
      (MP,(cxOf q0 aU P w K mg base N qual j6 f cdv A outer s H E).nox,kS)):FnOk q0 P w K mg base aU cL f fd ps sp:=by
  obtain⟨oc,od,kV,doc,⟨pm,an,cdv,ct,osl,rfl,lk,hcd⟩⟩:121:=(F.ex)
  show(Vy,fun A outer s H vs Q E hr hsp=>?_,hbody cdv A outer s H vs Q E hr hsp)
theorem FunD.binds {x qual:Str}{st:Stmt}{T f:Addr}{fd:FuncData}{ps:ai}{o:Obj}{items:gS}{n:Nat}{ds:aQ} (F:FunD K x qual st T f fd) (ho:Ea T o) (hs:o.data=.seq items n) (m:Nat) (hm:(Ct,m+ds.length))
    (h:∀(kV doc pm:Value) (an:Option Addr) (cdv ct:Value) (us:List Value),us.length=m ->
      ∃ k,bindArgs (JC x qual oM kS j6 F4 kV doc pm an cdv ct) (i7 us)=seqItems? F4>>=k/\k (some items)=pure (ps.zip zS)):x0 K fd ps ds:=by
  obtain⟨oc,od,kV,doc,⟨pm,an,cdv,ct,osl,rfl,lk,hcd⟩⟩:121:=(F.ex)
  intro s us hK hl;rw[Zr] at hl;show(ae,k,h1,h2,h kV doc pm an cdv ct us aa);exact BindsTo.of_defaults rfl (hK _ _ ho) hs h1 h2
theorem xjj {x qual:Str}{st:Stmt}{T f:Addr}{oc:Value}{od an:js}{osl:AC}{kV doc pm cdv ct:Value} (l:GV (JC x qual oM kS j6 F4 kV doc pm an cdv ct))
    (c:Hf) (k:pI f):FunD K x qual st T f (JC x qual oM kS j6 F4 kV doc pm an cdv ct):=ziT
#check _
#check L2
namespace L2
open PySem PySem.Spec PyProof.Rows XL
variable {q0:Bool}
noncomputable abbrev Cx.blkG (X:Cx) (scope:Scope) (zs:ai) (ys:ai) (C:Addr) (ex:az) (s:Shared) (H:Hp) (pn:aW):Cx where
 prog:=X.prog
 w:=X.w
 K:=X.K
 mg:=X.mg
 base:=X.base
 A:=X.A
 N:=zs++ys
 s₀:=s
 H₀:=H
 env:=Pd mw C
 outer:=X.stack
 stack:=X.stack
 ex:=ex
 fn:=fun _=>false
 calm:=X.calm
 pn:=pn
 xe:=pP
theorem xe9 {prog:Program}{w:World}{A:Around}{R:zgv}{s:Shared}{elt target iter:Expr}{ifs:kG}{scope:Scope}{pos:Pos}{it acc:Value}{env:Env} (I:dU Nat)
    (turn:∀ n s,I n s->wpAny aR A (pyNext it) (fun r s₁=>match r with
      | none=>R (.ok .next) s₁
      | ff=>wpAny aR A (letOwnedTupleGo target it v) (fun _ s₀=>wpAny aR A (assign target env v) (fun _ s₂ =>
          wpAny aR A (zhF env (eval c env)) (fun ok s₃ =>
            if ok=true then wpAny aR A (eval elt env) (fun x s₄ =>
              wpAny aR A (vK "list.append" [acc,x]) (fun _ s₅=>(Uk,I m s₅)) C1 s₄) C1 s₃
            else (Uk,I m s₃)) C1 s₂) C1 s₀) C1 s₁) C1 s)
    (n:Nat) (h:I n s):codeAny aR A (.compLoop (VP target) 0 it acc env) R s:=by
  refine codeAny_loop rfl I (aL n s hI) n h;show wpAny _ A ((compTurn (VP target) 0 it acc env).onRaise (fun x=>do noteFrame x env; theTreesLotGoes x)) _ _ s;refine wpAny_noted ?_;rw[compTurn_list];show(br,WD (Zc (zl (turn n s hI) (aL r s₁ h₁) h')));cases r with
  | none=>exact Zk h₁
  | some v =>
    show(br,zl h₁ (fun _ s₀ h₀=>zbt h₀ (fun _ s₂ h₂=>zbt h₂ (aL ok s₃ h₃))) h');cases ok with
    | false=>exact Zk (dC h₃)
    | true =>
      exact Zc (Zc (zl h₃ (fun x s₄ h₄=>zbt h₄ (fun _ s₅ h₅=>Zk (Zk (dC h₅)))) h'))
structure BlkG (X:Cx) (scope:Scope) (zs:ai) (ys:ai) (fr:ij):Prop where
 kind:ztX
 own:∀ x∈zs,scope.names.lookup x=some .local
 ncell:M7
 names:zjM
 free:zjh
 has:∀ n,((jg).names.lookup n=some .cell\/(jg).names.lookup n=some .free)->wU
 slots:zmr
 ysf:zuS
 ysc:∀ y∈ys,(jg).names.lookup y=some .cell\/(jg).names.lookup y=some .free
 nd:X.N.Nodup
 ndb:yC
noncomputable def blk0 (Z:St) (fr:ij) (n:Nat):St:=Ql n none++zbY
section
variable {X:Cx}{pins:List (Addr × Obj)}{Z:St}{H:Hp}{s:Shared}{scope:Scope}{zs:List Str}{ys:List Str}{fr:List Nat}{fp:List Addr}
theorem BlkG.cells (B:ya) (I:aq):zaq:=zmi
theorem BlkG.sub (B:ya) (I:aq) {n:Str}{c:Addr} (h:(mw).lookup n=some c):vg:=by
 show(zI,b,xns h);show(jU,d,B.cells I n a);rw[e] at b;rw[b,e];rfl
theorem Inv.blkG {h1:Heap}{m1:fA}{t':Nat} (B:ya) (I:aq) (hf:Cw) (hz:∀ b∈fp,(nY b)) (n1:zqq) (k1:oX jN Oi) :
    Inv (X.blkG scope zs ys s.heap.objs.size fp s H fY) [] Hl H (G7 h1):=by
  have sub:∀ n c,(mw).lookup n=some c->vg:=ztJ;have cz:∀ n c,vg->(nY c):=fun n c e=>by
    ext zlI
  show(zru,(zaZ).elim (bg qu) (uT qu));have fz:(je,b∈Bn,nY b):=fun b hb=>by
    ext zmc
  refine⟨⟨I.ok.mod,B.kind,I.ok.glob,I.ok.blt,bo,fun y z c h1 h2=>I.ok.inj y z c (sub y c h1) (sub z c h2),zn,(fun y c hy _=>nomatch hy),I.ok.hd,I.ok.frames,eZ,jy ⟨?_,(Mq,(b6 (b6 qu)).1 y c EZ)⟩,
      I.bs,zcq,fun b o e hb=>?_,(jy,nfs b hb),I.stack,I.stkFree⟩,
    rfl,I.bare,Un.kept k1,⟨m1,n1,fun i y v e1 e2 e3=>?_⟩,Ks,vp,(Mq,I.freeC y c EZ),lG,I.hok.kept k1,?_⟩
  . show(jU,c,B.cells I y (B.has y hy))
    show(aO,c,xjr (B.has y hy) e)
  . exact ZD (hz b hb)
  . rcases bg (b6 qu) with z|z
    . exact I.ok.noex b o e z
    . show(wC,Z5 (Zv OP) z)
  . show(zpf,zs.length)
    . ext zik Hl
    . show(Fo,k,rfl,∃ k,i=zs.length+k,i-zs.length)
      have e2':dX zbY k ff:=by
        have z:(dX,Hl,zs.length+k,ff):=e2;ext zkT
      have e1':dX ys k y:=by
        have z:(dX,zs++ys,zs.length+k,y):=e1;rw[J4 aa] at z;simpa using z
      ext zup e2';have ev:Z[j]?=some (some v):=by
        cases q:Z[j]? with
        | none=>ext cH q ej
        | some w=>ext zrE
      have eN:X.N[j]?=some y:=by
        ext zhZ
      have my:y∈ys:=Zn e1';obtain⟨m,_,lk⟩:62:=(I.loc)
      obtain⟨u,r,l⟩:62:=lk j y v eN ev (.inr (.inl zas));refine⟨u,r,.inr ⟨B.ysc y my,?_⟩⟩;rcases l with⟨kk,_⟩|⟨_,c,e,o,ho,hd⟩
      . ext zpj
      . exact⟨c,xjr (B.ysf y my) e,o,k1 c o ho,hd⟩
  . show(zoJ,I.cell y c EZ)
  . have hp':p∈fY:=Hv
    obtain⟨a1,a2,a3,a4,a5⟩:45:=I.pin p hp';exact(bO,k1 _ _ a1,a2,ZD (Zv a1),(aA,(zuP).elim a3 a4),a5)
  . ext zjT
#check _
section
variable {X:Cx}{pins:List (Addr × Obj)}{Z:St}{H:Hp}{s:Shared}{scope:Scope}{zs:List Str}{ys:List Str}{fr:List Nat}{fp:List Addr}
theorem Inv.unblkG {C:Addr}{s':Shared}{h2:Heap}{σ':St}{H':Hp}{pl:aW} (I:aq) (hf:Cw) (hC:AS C) (J:Inv (X.blkG scope zs ys C fp s H fY) pl σ' H' s') (sb:zde) :
    b8 H' Hh:=by
  show(zln,fun b o nb g=>(sb.2 b nb).trans g);have old:∀ b o,s.heap.get? b=some o->b≠C:=fun b o g=>ZD (Z5 (Zv g) hC);have trk:∀ b u,H' b=some u->b≠C:=fun b u hb z=>by
    ext zlL
  refine I.call' (s':=Hh) J.os (ch:=fp) ⟨fun b o e n hb hx=>kp b o K4 (J.base.keep b o e n hb hx),fun b o e n hb hx=>?_,zlR,HG,J.base.tups,J.base.frzs,J.base.tbls⟩ (aL b u hb) J.bare gY
  . show(iH,sl,J.base.slot b o e n hb hx)
    show(aO,sl,kp b _ K4 q)
  . ext zkp
  . refine (J.hok b u hb).stay (cu c v hc q) (fun c q=>q) fun c xs q=>q
    rcases hc with rfl|hc
    . exact kp c v (trk c u hb) q
    . exact kp c v (trk c _ hc) q
  . ext zkk
#check _
noncomputable def GOk (n:Nat) (g:TG):Prop:=∀ v Z H Q,g v Z H Q->g v Z H MK
theorem xaw {i n:Nat} (h:eF):GOk n (xcn i):=fun v Z H Q q=>⟨q,aj,fun j hj=>(dF,QB aa)⟩
noncomputable def xdg (J:It) (n:Nat) (g:TG) (Z:St) (fr:ij) (tc:TT) (te:TE) (l:Addr) (H1:Hp) (Q:VK):Prop:=∃ W:BQ zF,(∃ m,W 0 m [] zfa)/\∀ i m xs H2,W i m xs H2 ->
 (J.stop i H2/\FO)\/(J.go i H2/\∀ v H3,J.yld i H2 v H3->g v (blk0 Z fr n) H3 fun σ' H3'=>tc σ' H3' fun b H4=>if b=true then
  (zjY (zp,m,W aM m' LR (cF H5 l LR))) else (zp,m,W aM m' xs H4))
noncomputable def xgu (wi:TI) (n:Nat) (g:TG) (fr:ij) (tc:TT) (te:TE):TE:=(i9,Q,wi Z H fun J H1=>∀ l,pV->xdg J n g Z fr tc te l H1 Q)
section
variable {X:Cx}{scope:Scope}{zs:List Str}{ys:List Str}{fr:List Nat}{elt iter tg:Expr}{g:TG}{ifs:List Expr}{px pos:Pos}{wi:TI}{tc:TT}{te:TE}
theorem xid {pins:aW}{s:Shared}{Z:St}{H:Hp}{Q:VK}{U:zqY}{R:aT} (hc:fX) (B:ya) (hi:DS) (hg:GW (∀ x∈zs,(jg).names.lookup x=some .local) yC (X.blkG scope zs ys C ex s H pn)) (gok:zcV)
    (hif:G0 (X.blkG scope zs ys C ex s H pn)) (he:G4 (X.blkG scope zs ys C ex s H pn)) (I:aq) (h:xgu wi zs.length g fr tc te Z H Q)
    (fin:(zha,compPost aH X.A X.xe U R bH C (.ok .next) s')) :
    wpAny aH X.A TQ (fun v s1=>wpAny aH X.A (pyIter v) (fun it s2=>wpAny aH X.A (newList []) (fun acc s3 =>
      wpAny aH X.A (newFunctionEnv scope X.env.globals mw [] X.env.qual none .none (some X.env)) (fun cenv s4 =>
        ziE (compPost aH X.A X.xe U R acc cenv.locals)) X.xe s3) X.xe s2) X.xe s1) X.xe s:=by
  show(jH,hi pins s Z H _ I h,V1);obtain⟨it,fp,tn,J,⟨H2,rfl,I2,T,st2,f2,body⟩⟩:121:=h2;have hN:H2 s2.heap.objs.size=none:=I2.hok.fresh (Zj _);obtain⟨W,⟨m0,w0⟩,turn⟩:62:=body s2.heap.objs.size hN;refine JW ?_;generalize hs3:({ s2 with heap:=s2.heap.push { cls:=.type "list",data:=.seq ([]:List Value).toArray } }:Shared)=s3;have k3:∀ b o,s2.heap.get? b=some o->s3.heap.get? b=some o:=fun b o g=>by rw[<- hs3]; exact Ze _ g
  have I3:Inv X pins Z (upd H2 s2.heap.objs.size (.lst [])) s3:=by
    ext zja
  have z2:∀ b∈fp,b<s2.heap.objs.size:=fun b hb=>by
    ext Nl g
  have z3:∀ b∈fp,b<s3.heap.objs.size:=fun b hb=>by
    show(Nl,k3 b o g)
  have f3:∀ b∈fp,FpOk X pins (upd H2 s2.heap.objs.size (.lst [])) b:=fun b hb=>⟨by rw[xj (ZD (z2 b hb))]; exact (f2 b hb).1,(f2 b hb).2⟩
  show(cC,st3,tn 0 s3.heap,zlq,wpAny_newFunctionEnv B.ncell (by intro y hy; simp at hy) (aL h1 n1 sb1) B.kind);show(dO,k4,(oX,s3.heap.get? b=some o,Oi),(iU,o,g,sb1.extBut b o (ZD (Zv g)) uG),I4,I3.blkG (t':=zqU) B f3 z3 n1 k4);have st4:tn 0 h1:=zlp;show(bw,own',∀ x∈zs,(jg).names.lookup x=some .local,x,hx,lookup_relabel_local (B.own x hx))
  -- the iterator's objects,through the loop
  have stat:∀{H':Hp},IC->∀ b∈fp,FpOk (X.blkG scope zs ys s3.heap.objs.size fp s3 kc fY) [] H' b:=fun hn b hb=>by
    obtain⟨_,a1,a2,a3,a4,a5⟩:46:=f3 b hb;exact⟨46,hn b hb,ZD (z3 b hb),(aA,(ztW).elim a1 a2),.inl hb,(Mq,a4 y c (B.sub I3 h)),(fG,a5 p Hv)⟩
  have loop:∀ s4:Shared,s4={ s3 with heap:=h1,toks:=zqU } ->
      codeAny aH X.A (.compLoop zJ 0 mS nS (Pd mw s3.heap.objs.size))
        (compPost aH X.A X.xe U R nS s3.heap.objs.size) s4:=by
    rintro s4 rfl;refine xe9 (zjF (X.blkG scope zs ys s3.heap.objs.size fp s3 kc fY) Hl) ?_ m0
      ⟨104,0,[],_,I4,st4,(jy,(f3 b hb).1),w0⟩
    rintro n s5 (⟨i,xs,H5,I5,st5,fr5,w5⟩:104);rcases turn i n xs H5 w5 with⟨stop,q⟩|⟨go,step⟩
    . show(uU,T.done (X.blkG scope zs ys s3.heap.objs.size fp s3 kc fY) rfl rfl rfl hc i [] s5 _ H5 pP I5 Uy st5 stop,zeN s6 I6)
      subst hr;show(fD,m,hm,I6.loc)
      exact fin _ _ H5 s6 m znb I6.free hm (fun h2 sb=>I3.unblkG f3 bo I6 sb) q
    . show(zhX,T.item (X.blkG scope zs ys s3.heap.objs.size fp s3 kc fY) rfl rfl rfl hc i [] s5 _ H5 pP I5 Uy st5 go,(fun _ s7 ⟨y,H7,I7,r7,y7,st7,fr7⟩=>?_));show(uU,hg _ _ _ _ _ own' B.ndb _ s7 _ H7 y u _ I7' r7 zpE,(fun _ s8 ⟨σ8,H8,I8,q8,l8,k8⟩=>?_));have back:∀{s9:Shared}{H9:Hp}{xs':List V},Inv (X.blkG scope zs ys s3.heap.objs.size fp s3 kc fY) ([]++xf3 fp s7.heap) σ8 H9 s9->zrz ->
          (zjG (X.blkG scope zs ys s3.heap.objs.size fp s3 kc fY) Hl):=fun {s9 H9 xs'} I9 ⟨m',lt,w9⟩=>by
        show(cR,m',lt,⟨104,aM,xs',H9,zmY,zmb,gY,w9⟩)
        . by_cases lj:j<zs.length
          . ext zky
          . show(aK,k8 j aa,e)
        ext Xk st7 VS
      show(uU,hif _ _ _ _ _ _ s8 _ H8 _ I8 q8,tT ok s9 H9 I9 q9);cases ok with
      | false =>
        ext zsd
      | true =>
        rw[if_pos rfl] at q9 ⊢;refine Ja (he _ _ _ _ _ _ s9 _ H9 _ I9 q9) (fun ev s10 ⟨yv,H10,I10,r10,hl,len,w10⟩=>?_) fun _ _ z=>z.elim;refine Ja (xcb (X:=X.blkG scope zs ys s3.heap.objs.size fp s3 kc fY) _ s10 _ H10 nS [yv] nS [ev] zjR I10 rfl (Cp r10) zmV)
          (fun _ s11 ⟨_,H11,I11,_,e11⟩=>?_) zgD
        subst e11;exact back I11 w10
  exact codeAny_compStart_list S9 (T.self _ 0 _ _ _ st4 S9)
theorem xav (hc:fX) (B:ya) (hi:DS) (hg:GW (∀ x∈zs,(jg).names.lookup x=some .local) yC (X.blkG scope zs ys C ex s H pn)) (gok:zcV) (hif:G0 (X.blkG scope zs ys C ex s H pn)) (he:G4 (X.blkG scope zs ys C ex s H pn))
    (hs:MO:=by ext CG):PE X zJ (xgu wi zs.length g fr tc te):=by
  intro pins s Z H Q I h;show(zjt,QX (use:=none) rfl hs zcP B.kind B.names (xid hc B hi hg gok hif he I h fun C l H' s' m _ _ hm iv q=>?_))
theorem xe1 {j:Nat}{y:Str}{py spos:Pos} (hc:fX) (B:ya) (hi:DS) (hg:GW (∀ x∈zs,(jg).names.lookup x=some .local) yC (X.blkG scope zs ys C ex s H pn)) (gok:zcV) (hif:G0 (X.blkG scope zs ys C ex s H pn)) (he:G4 (X.blkG scope zs ys C ex s H pn))
    (hj:bQ X.N y) (hy:Loc X.env.scope y) (hf:X.fn y=true\/VB:=by first|ext wT|ext zY|ext cQ)
    (hsw:swapsWith zJ (some KD) spos.line X.env=pure true:=by rfl)
    (hs:MO:=by ext CG):PS X (.Assign [KD] zJ spos) (tAsg (xgu wi zs.length g fr tc te) (xcn j)):=by
  intro pins s Z H D I h;rw[exec_Assign_Name_used _ _ _ _ hsw];show(br,WD (Zc ?_));show wpAny _ _ (do let _ <- comprehension zJ scope X.env _ (newList []) false TQ zsq) _ _ s;refine Zc (Ja (QX (use:=zsq) (Q:=fun _ s'=>SP X pins D .next s') rfl hs zcP B.kind B.names
    (xid hc B hi hg gok hif he I h fun C l H' s' m hC hn hm iv q=>?_)) (fun _ s' z=>Zk (Zk z)) fun _ _ e=>e)
  show wpAny _ _ (assign KD X.env bH) _ _ _;have J:b8 H' s':=iv s'.heap (.refl ..);refine wpAny_assign_Name (xks (v:=V.ref l) J B.nd hj hy rfl (tT s2 J2 a sb ha) hf);have na:a≠C:=by
    rcases ha with z|z
    . rw[z]; exact Z2 (bg hC)
    . exact (b6 hC).1 _ _ z
  refine(xJ,m,au h2 s3)
  . obtain⟨o,es,ep,g,r⟩:102:=hm
    exact(Be,o,(sb.2 C (Z2 na)).trans g,r)
  . exact(bK,_,H',J2.turned (t':=s2.toks) (fun b o nb g=>(s3.2 b nb).trans g) hn (bg hC) (.inr hC.1) (uT hC) (b6 hC).2,q)
#check _
noncomputable def xlk (scope sc0:Scope) (N0:ai) (zs:ai) (ys:ai) (fr:ij):Bool :=
 X4&&zs.all (fun x=>CN zaI .local)&&(Dn zdK)&&(Dn,zcX||VX) &&
 (tY).all (fun n=>Xy)&&(zgO,N0[i]?) == ys.map some&&zoE&&(bG N0.Nodup)&&(bG yC)
theorem xr7 {X:Cx}{scope sc0:Scope}{N0:ai}{zs:ai}{ys:ai}{fr:ij} (chk:xlk scope sc0 N0 zs ys fr=true) (es:Pk) (eN:X.N=N0):ya:=by
 unfold xlk at chk;ext zld;obtain⟨⟨⟨⟨⟨⟨⟨⟨a1,a2⟩,a3⟩,a4⟩,a5⟩,a6⟩,a7⟩,a8⟩,a9⟩:=chk;show(ap,nc,M7,uB (yR,a3 y hy),⟨a1,a2,nc,zeQ,ztK,zuV,aD eN a6,zn,zbw,aD eN a8,a9⟩)
 .ext znV
 .ext VF
theorem xau {X:Cx}{scope sc0:Scope}{N0:ai}{zs:ai}{ys:ai}{fr:ij} (chk:xlk scope sc0 N0 zs ys fr=true) (es:Pk) (eN:X.N=N0) (_:X.stack=X.env::X.outer):ya:=xr7 chk es eN
theorem xer {K:Zf}{m n:Nat}{t:TGs} (h:zlr):GOk n (gTup K m t):=fun v Z H Q q=>by
 obtain⟨a,xs,e,hs,hl,q⟩:=q;exact⟨a,xs,e,hs,hl,h _ _ _ _ q⟩
theorem xd2 {n:Nat}:∀ vs Z H Q,gNil vs Z H Q->gNil vs Z H MK:=fun vs Z H Q q=>by
 show(iH,e,xth q);ext dw;ext qJ q fC
theorem xbk {i n:Nat} (hi:eF) {t:TGs} (h:zlr) :
    ∀ vs Z H Q,xoh (xcn i) t vs Z H Q->xoh (xcn i) t vs Z H MK:=fun vs Z H Q q=>by
  show(iF,v,r,rfl,q,xtr q);have z:=h _ _ _ _ q;show(bw,e2,∀(j:Nat),zcQ oq Z,j,hj,(dF,QB aa))
  have e1:(oq).length=Z.length:=aj
  have key:(rN (zav,(oq).length,∀ j,zcQ σ' oq))=(fun σ' (H':Hp)=>(zav,Z.length,∀ j,zcQ σ' Z)):=by
    funext σ' H';rw[e1];refine propext ⟨fun⟨a,b,c⟩=>⟨a,b,fun j hj=>(c j hj).trans (e2 j hj)⟩,fun⟨a,b,c⟩=>⟨a,b,fun j hj=>(c j hj).trans (e2 j hj).symm⟩⟩
  ext cJ key z z
theorem xcu {J:It}{n:Nat}{g:TG}{Z:St}{fr:ij}{tc:TT}{te:TE}{l:Addr}{H1:Hp}{Q:VK} (len:Nat) (Pv:Nat->zF) (h0:Pv 0 [] zfa) (hgo:∀ i xs H,i<len->Pv i xs H->J.go i H)
    (step:∀ i xs H2 v H3,i<len->Pv i xs H2->J.yld i H2 v H3->∀ N:zF,(∀ xs' H',Pv aM xs' H'->N xs' H')->g v (blk0 Z fr n) H3 fun σ' H3'=>tc σ' H3' fun b H4=>if b=true then
      (zjY,N LR (cF H5 l LR)) else N xs H4)
    (fin:∀ xs H2,Pv len xs H2->J.stop len H2/\FO):xdg J n g Z fr tc te l H1 Q:=by
  show(gH,fun i m xs H=>(bc,m,len-i,i<=len,Pv i xs H),Tk len);rintro i m xs H2 (⟨rfl,hi,p⟩:43);by_cases lt:i<len
  . show(oI,hgo i xs H2 lt p,fun v H3 y=>step i xs H2 v H3 lt p y (fun xs' H'=>(zp,len-i,(bc,m',len-aM,aM<=len,Pv aM xs' H'))) fun xs' H' q=>⟨64,_,aa,rfl,lt,q⟩)
  . ext ut i len aa;show(cY,fin xs H2 p)
section
variable {X:Cx}{pins:List (Addr × Obj)}{Z:St}{H:Hp}{s:Shared}
theorem Inv.adopt {p:Addr}{o:HO} (I:aq) (n:su) (h0:yh p) (hL:p≠X.env.locals) (hC:yB p) (hp:∀ q∈fY,q.1≠p)
    (new:xa8 X.prog X.w (dZ p o) s.heap p o):b8 (dZ p o) s:=by
  show(ap,ne,(sG,iJ,b≠p),(kU,xk e n),⟨I.ok,I.os,I.bare,⟨I.base.keep,I.base.slot,bC b ob e hn hx,I.base.there,Mj,fun b ob u e=>?_,df b ps ?_⟩,I.loc,I.cell,?_,o4 x c,au q hq,uw,I.len⟩)
  . show(aK,xj (ZD (wR h0)),I.base.free b ob e hn hx)
  . have z:=I.base.tups b xs e
    show(bP,ne b _ z,z)
  . have z:=I.base.frzs b ob u e
    show(bP,ne b _ z,z)
  . show(mj,m,z,I.base.tbls b ps e,m,bE (ne b _ z) z)
  . show(uS,hL,I.free)
  . show(bP,hC x c e,Ry)
  . show(gX,a1,a2,a3,I.pin q hq)
    show(aJ,a1,bE (hp q hq) a2,a3)
  . ext Cr p
    . subst hb
      ext uP xl e new
    . rw[xj hb] at e
      exact (zgh).stay PR (IQ (ne c _ q)) (HZ (ne c _ q))
theorem Inv.thaw {d:Addr}{o:Obj}{u:HO} (I:aq) (e:aE d Lr) (nf:Aq):b8 (dZ d u) s:=by
 have ne:∀ b v,(aE b v)->(∀ o' u',v≠.frz o' u')->b≠d:=fun b v h1 h2 z=>by
  subst z;ext bA e h1 h1;exact h2 _ _ rfl
 have ne0:(je,dN,b≠d):=fun b h1 z=>by
  subst z;ext cH e h1
 refine⟨I.ok,I.os,I.bare,⟨I.base.keep,I.base.slot,bC b ob q hn hx,I.base.there,aL b xs q,fun b ob v q=>?_,aL b ps q⟩,I.loc,I.cell,?_,aL x c q,lG,aL b v q,I.len⟩
 .have z:=I.base.free b ob q hn hx;show(bP,ne0 b z,z)
 .have z:=I.base.tups b xs q;show(bP,ne b _ z Oh,z)
 .have z:=I.base.frzs b ob v q;have hb:b≠d:=fun w=>by
   subst w;exact nf _ _ q
  ext bP hb z
 .obtain ⟨m,z⟩:=I.base.tbls b ps q;show(aO,m,bE (ne b _ z Oh) z)
 .show(jb,ne0 _ I.free,I.free)
 .rw [xj (ne0 _ (I.freeC x c q))];exact I.freeC x c q
 .obtain ⟨a1,a2,a3⟩:43:=S8;show(aJ,a1,bE (ne0 _ a2) a2,a3)
 .have st:∀(a:Addr) (v:HO),xa8 X.prog X.w H s.heap a v->xa8 X.prog X.w (dZ d u) s.heap a v:=fun a v k =>
   k.stay PR (IQ (ne c _ q Oh)) (HZ (ne c _ q Oh))
  ext Cr d
  .subst hb;ext bA xl q q;obtain⟨g,ok⟩:=I.hok b _ e;exact st _ _ ok
  .rw [xj hb] at q;exact st _ _ (I.hok b v q)
theorem Inv.nofrz {d:Addr}{kvs:aI} (I:aq) (e:oK):Aq:=fun o' u' z=>by
 ext znf
theorem KV.get:∀{kvs:aI}{vs:UF}{i:Nat}{k:Key}{x:V},kH->kf->∃ u,(aF vs (k,u))/\oC
 | _,_,_,_,_,.nil,e=>BL
 | _,(_,_)::_,0,_,_,d4 r _,e=>by
  ext Br;obtain⟨r1,r2⟩:=r
  dsimp only at r1 r2
  subst r1;exact bT r2
 | _,_,aM,k,x,EX,e=>by
  show(ae,u,h1,h2,KV.get (i:=i) (k:=k) (x:=x) t yw);ext aJ u nU h2
theorem xq8 {P:Program}{w:World}{k:Key}{u:Value} (h:(oG).is k u=true):zeg:=by
 rcases xbt (tH,xgb k u,h) with⟨i,t,rfl,rfl⟩|⟨x,t,rfl,rfl⟩
 .exact fc t
 .exact fc t
theorem xfs {d:Addr}{o:Obj}{kvs:aI}{ep:Nat} (I:aq) (e:XE) (hep:TV):∃ vs,kH/\s.heap.DictAt ig d vs ep:=by
 obtain⟨g,_,_,⟨vs,rel,o',es',ep',g',ex,hdat,hk,hp,hn⟩⟩:44:=I.hok d _ e;ext bA g g' g';obtain⟨es,he⟩:=hep;ext bA he hdat hdat;show(aJ,vs,rel,⟨86,o,_,g,ex,he,hk,hp,hn⟩)
#check _
noncomputable def Iti (d:Addr) (o:Obj) (kvs:aI):It :=
 (WW,∃ p k x,kf/\(bc,v,eB,su,H'=(ez H p [vd,x])))
theorem xoe {P:Program}{w:World}{K:Zf}{elts:kG}{x1}{tpos:Pos} (d it:Addr) (o:Obj) (kvs:aI) (ep:Nat) (hep:TV) :
    Turn P w K AD (Iti d o kvs) sN it (qL,∃ ok ov,IsItemIter h it d i kvs.length ep ok ov) where
  mem:=aj
  obj:=fun i h st b hb=>by
    ext tO;ext D9;exact⟨_,st,fun v z=>by
      ext O9⟩
  keep:=fun i h h' ⟨ok,ov,st⟩ k=>⟨ok,ov,R5⟩
  item:=by
    intro X hP hw hK hc i pins s Z H E I hf st hg;ext jr;ext D9;ext C5 lt;obtain⟨f0,f1,f2,f3,f4,f5⟩:46:=kK;ext V8;rw[hl] at st;refine wpAny_pyNext_items_item st da hv fun key h' hkey hout ht hz hkp=>?_;show(ziM,(Bt,(hsb.2 b hb).trans (hkp b o hb g)));show(zht,I.turned (t':=s.toks) kk f0 f1 f3 f4 f5);show(ap,hp,(VY,#[key,u]),(hsb.2 _ pne).trans ht,⟨85,ie,X9 vd,I1.adopt n0 I.sz nL nC nP (zbE,key,u,.cons (xq8 hkey) (Cp ru)),rfl,⟨104,_,k,x,hx,rfl,n0,rfl⟩,?_,gY⟩)
    . rw[<- hl] at hit'
      exact cq _ hit'
    . ext tO;ext uS pne f0
  done:=by
    intro X hP hw hK hc i pins s Z H E I hf st hg;ext jr;ext D9;ext C5 le;obtain⟨f0,f1,f2,f3,f4,f5⟩:46:=kK;ext Ar;show(cJ,hl,st,wpAny_pyNext_items_end gU st da (yR OO) (yG,I.turned (t':=s.toks) vk f0 f1 f3 f4 f5))
  self:=zjk
noncomputable def xw5 (X:Cx) (to:TE):TI:=Vt (Iti d ob kvs)
section
variable {X:Cx}{o:Expr}{to:TE}{elts:List Expr}{x1:_}{tpos apos cpos:Pos}
theorem xr1 (ho:tX) (hbase:C4 "items":=by rfl) (hline:xV:=by rfl) :
    ztd (xw5 X to):=by
  intro pins s Z H R I h;show(OG,ho pins s Z H _ I h,fun v s1 ⟨x,H1,I1,r1,q1⟩=>?_);obtain⟨d,kvs,e1,e,q⟩:83:=q1;ext yM;obtain⟨z,hd,⟨vs,rel,dd⟩⟩:43:=II;obtain⟨ob,es,ep,g,ex,hdat,hk,hp,hn⟩:106:=id dd;refine⟨86, "dict", "dict.items",J0,Qi,PySem.F.type_dict_items,dd.typeIs,KU,Ie⟩
  . ext GZ
  refine JU Qi dd.typeIs PySem.F.entry_dict_items zpA (meets_dict_items ig d hd) zcp;show(cC,da,(Of,"dict_items",#[b7]).DictAt ig d vs ep,⟨86,ob,es,uG,ex,hdat,hk,hp,hn⟩,wpAny_pyIter_items (s:=OT) vT da ?_);ext ziJ
  ext zpM;have I4:b8 pX (Od,#[.none,Kb,b7,ui,.int vs.length 0,BM,.none,.none]) :=
    XR
  have fin:PIE X pins Z AD R nS (Od,#[.none,Kb,b7,ui,.int vs.length 0,BM,.none,.none]):=by
    show(VC,⟨66,pX,rfl,I4,xoe d _ ob kvs ep Rr,fJ .none .none,gY,zbW⟩)
    . ext Ar
      show(uW,IsItemIter _ _ d 0 kvs.length ep .none .none,hl,gc)
    . ext zbH
  exact fin
theorem xsa {pins:aW}{Z:St}{Q:VK}{u:Value}{s:Shared} (h:EP X pins Z (j9 H2 zis) u s):EP X pins Z Q u s:=by
 obtain⟨v,H2,I2,r2,⟨d,ob,u',e,nf,q⟩⟩:83:=h;exact(bv,v,_,I2.thaw e nf,r2,q)
theorem xd9 {e:Expr}{t:TE} (h:PE X e t):PE X e (i9,Q,t Z H fun v H2=>zis):=fun pins s Z H Q I q =>
 thn (h pins s Z H _ I q) (B3,xsa z)
#check _
#check L2
namespace PySem.F
theorem xl_plain_dict_loop:plainId "dict.update.loop"=true:=aP
theorem xl_entry_dict_loop:entryFor table "dict.update.loop"=some Builtin.«dict.update.loop»:=entryFor_of_tree (by kernel_rfl)
theorem xl_list_nokeys:typeLookup (.type "list") "keys"=pure none:=by rw[typeLookup_type,builtinLookup_eq_fast]; kernel_rfl
#check PySem.F
namespace L2
open PySem PySem.Spec PyProof.Rows XL
variable {q0:Bool}
theorem xq4 {prog:Program}{w:World}{A:Around}{E:aT}{s:Shared}{a:Addr}{o:Obj}{xs:gS}{k:Nat}{Q:zG}
    (hx:yg o) (hc:o.cls=Bp) (hdat:o.data=.seq xs k) (hd:zgt) (hA:P8)
    (h:∀ h' tk,(oX jN ye)->Q none (iA h')):wpAny aR A (getAttr? aB "keys") Q E s:=by
  obtain⟨c,dct,dat,sl⟩:=o;simp only at hc hdat hd;subst hc hdat hd;ext vo d;have hT:∀ tk',(⟨hp,g,d,tk',os⟩:Shared).TypeIs aB "list":=fun _=>cP hx
  show(af,f1,sub_AttributeError,f3,Wa.lookup);show(af,f4,Wa.bind aB,f5,am_list_getattr_none);unfold getAttr? getAttrBy? getAttrBy
  repeat (any_goals (first|ext cQ|exact hT _|((with_reducible show wpAny _ _ (call (Q3 "list.__getattribute__") _ _) _ _ _); refine call_meets Wa (hT _) am_entry_list_getattribute (F.args_list_getattribute_2 _ _) (meets_getattribute_miss_list a xs k sl "keys" _ F.xl_list_nokeys aP (by size_fits)) ⟨hx,hA,cu h' tk' e hx'⟩)|ext ef))
  show(Cn,t',u',he,hx'.there)
  have hk:=hx'.of.keeps;show wpAny _ _ (getattributeRaised _ _ _ _ _ _ _) _ _ _;unfold getattributeRaised
  repeat (any_goals (first|ext cQ|ext ef))
  exact h _ _ hk
section
variable {X:Cx}{pins:List (Addr × Obj)}{Z:St}{H:Hp}{s:Shared}{a:Addr}{y v:V}{u r:Value}{A:Around}{E:Value->Shared->Prop}
theorem xp1 {H':Hp}{Q:wp} (hu:RG) (I:aq) (g:DPut H a y v H') (ry:hJ) (rv:RelV v r) (h:Rj vZ) :
    wpAny aH A (dictSet a u r) Q E s:=by
  rcases g with⟨kvs,k,e,ey,l,eH⟩|⟨kvs,k,b,e,ey,eb,l,eH⟩
  . subst ey eH
    obtain⟨z,hd,⟨vs,rel,dd⟩⟩:43:=Kd;show(zif,wpAny_dictSet_pairs (hsz:=hz) z6 dd N7);show(U8,hl,rel.put k rv)
  . subst ey eH
    cases (Fa,u=Zs b);obtain⟨z,hd,⟨xs,rel,dd⟩⟩:43:=zgs;show(zjg,wpAny_dictSet_heap (hsz:=hz) (show (NB).room A from hu) Bc dd N7);obtain⟨q,es,ep,hq,h2,h3,h4,_,h5⟩:106:=dd';refine xd3 I zo hs Td ⟨hl,hd,_,(rel.put k eb rv).keeps (aL c ys ec),⟨105,q,es,ep,hq,h2,h3,h4,h5⟩⟩;show(bP,xdi ec e dJ,ec)
theorem DPut.stay {d b:Addr}{H':Hp}{o:HO} (g:DPut H d y v H') (e:aE b o) (n1:∀ kvs,o≠rQ) (n2:∀ kvs,o≠.dT kvs):H' b=some o:=by
 rcases g with⟨kvs,k,e2,_,_,rfl⟩|⟨kvs,k,b2,e2,_,_,_,rfl⟩
 .show(jb,xdi e e2 (n1 _),e)
 .show(jb,xdi e e2 (n2 _),e)
theorem DPut.free {d b:Addr}{H':Hp} (g:DPut H d y v H') (e:dN):Bq:=by
 rcases g with⟨kvs,k,e2,_,_,rfl⟩|⟨kvs,k,b2,e2,_,_,_,rfl⟩
 .show(c9,jF (xk e2 e),e)
 .show(c9,jF (xk e2 e),e)
#check _
inductive xej (d:Addr):Hp->(nG Ln)
 | nil {H:Hp}:xej d H [] H
 | cons {H H1 H2:Hp}{y v:V}{r:Ln}:DPut H d y v H1->xej d H1 r H2->xej d H ((y,v)::r) H2
theorem xht {X:Cx}{pins:aW}{Z:St}{A:Around}{R:zgv} (hh:A.in1.handled=none) (hu:A.in1.units<cLine) {l it d:Addr} :
    ∀(ps:Ed) (pre:ag) (j:Int) (H H2:Hp) (s:Shared),aq->(aE l (.lst (pre++zrI)))->Xr->xej d H (ps.map (·.2)) H2 ->
      s.heap.IsListIter it l pre.length->FpOk X pins H it->(∀ s',(b8 H2 s')->R (FK .none) s') ->
      codeAny aH A (.builtin "dict.update.loop" (i7 [b7,mS,rawInt j,.none])) R s
  | [],pre,j,H,H2,s,I,hl,hp,dp,st,fo,fin=>by
    cases dp;obtain⟨z,its,n,r,hl2,e⟩:=I.lstM hl;obtain⟨f0,f1,f2,f3,f4,f5⟩:46:=fo;show(zjq,wpAny _ A.in1 (rL>>=_) _ _ s);show(br,wpAny_pyNext_list_end hh st (wQ e gf) (by simp at hl2 ⊢; omega) (au h' eb));show wpAny _ A.in1 (Builtin.Dict.addKeywords d []>>=_) _ _ _;exact Zc (Zk (Zk (fin _ (I.turned (t':=s.toks) vk f0 f1 f3 f4 f5))))
  | (a,y,v)::ps,pre,j,H,H2,s,I,hl,hp,dp,st,fo,fin=>by
    have fo':=fo;obtain⟨f0,f1,f2,f3,f4,f5⟩:46:=fo;cases dp with
    | @cons _ H1 _ _ _ _ g dp =>
    obtain⟨z,its,n,r,hl2,e⟩:=I.lstM hl;show(ae,u,hu1,ru,r.get (i:=pre.length) (x:=aB) aj);show(cX,u=o8,ru);show(zjq,wpAny _ A.in1 (rL>>=_) _ _ s);show(br,wpAny_pyNext_list_item st (wQ e gf) (x:=aB) (by simpa using hu1) (aL h' st' sb));have I1:ia lv:=I.turned (t':=s.toks) (lK,hb,(sb.2 b hb).trans e) f0 f1 f3 f4 f5;obtain⟨z2,ts,rt,ot,et,ct,nt,dt⟩:=I1.hok a _ (hp _ Zm);obtain⟨uk,uv,rfl,rk,rv⟩:83:=xk4 rt;show wpAny _ A.in1 (holding fO _>>=_) _ _ _;refine Zc (ZZ ?_);refine Zc (wpAny_tryCatch ?_);unfold Builtin.Dict.pairItems;show(br,(Wl (T:="tuple") ⟨ot,et,ct⟩ ?_));rw[aC ao];show(br,wpAny_seqItems et dt (Zk ?_));show wpAny _ A.in1 (holding [uk,uv] (dictSet d uk uv)) _ _ _;have ob:∀ b∈sN,(WX ye):=fun b hb=>by
      show(zkP,id st')
    have I1':=I1.pinned (fp:=sN) (fun b hb=>by
      ext tO;exact fo') ob
    refine ZZ (xp1 hu I1' g rk rv (au s' I2));ext zoz;have fo2:FpOk X pins H1 it:=⟨46,g.free f0,f1,f2,f3,f4,f5⟩
    have st2:s'.heap.IsListIter it l (pre++[V.ref a]).length:=by
      rw[Zr];exact st'.at (CS,(I2.pin (it,o) (Z1 _ (Z1 _ (xcv aj e)))).1)
    refine xht hh hu ps (pre++[V.ref a]) eE H1 H2 s' I2.unpinned ?_ (au p hp') dp st2 fo2 fin
    . have z:=g.stay hl Oz Oz
      rw[z];simp
    . exact g.stay (hp p (Zi _ hp')) Oz Oz
inductive xuv (xs:ag) (H:Hp) (Q:VK):Prop
 | mk (l:Addr) (ps:Ed) (e_:xs=[bH]) (r_:(aE l zod)/\Xr/\∀ d,(bI d)->∃ e H2,(e=.dK []\/e=.dT [])/\xej d (dZ d e) (ps.map (·.2)) H2/\Q b7 H2)
theorem xdf {X:Cx} (hc:fX) (hu:X.A.units+3<cLine):xcf X (fU "dict") xuv:=by
 intro pins s Z H xs us Q I r h;obtain⟨l,ps,rfl,hl,hp,q⟩:=h;ext zea l;refine callType_codes (Q₁:=fun obj s₁=>obj=ie/\s₁=zvj) F.kt_called_dict (F.kt_typeCall_dict_1 _) F.entry_dict_init (kt_code_dict_new _ kL) ?_;rintro obj s₁ ⟨rfl,rfl⟩;obtain⟨e,H2,he,dps,q2⟩:83:=q s.heap.objs.size I.fresh;have I1:b8 zrM zvj:=by
  refine I.laid (t':=s.toks) zgA bo ?_;rcases he with rfl|rfl
  .exact xhx s.heap I.big
  .exact xmf s.heap I.big
 have hT:(Shared.mk Nc s.gens s.drawn s.toks s.os).TypeIs ie "dict":=cP gc
 have nl:l≠s.heap.objs.size:=fun z=>by
  rw[z,I.fresh] at hl;cases hl
 have hl1:fF H s.heap.objs.size e l zod:=bE nl hl
 obtain⟨z,its,n,rr,hll,el⟩:=I1.lstM hl1;show(gH,hT,F.args_dict_init_2 _ _);unfold Builtin.«dict.__init__»;ext Cl;unfold Builtin.Dict.selfAndRest;show(br,Yw hT ?_);show wpAny _ _ (pure (s.heap.objs.size,[Zs l])) _ _ _;ext ur;show wpAny _ _ (Builtin.Dict.updateFrom "dict.__init__" s.heap.objs.size bH [] .none) _ _ _;unfold Builtin.Dict.updateFrom;show(br,Wl (T:="list") (cP el) ?_);rw[aC ao];show(br,xq4 el rfl rfl rfl gU (aL h' tk hk));have I2:=I1.kept (h':=h') (t':=tk) hk;show wpAny _ _ (rule _>>=_) _ _ _;refine Zc (wpAny_rule ?_);show(br,(QP (wQ,hk _ _ el,gf) ?_));ext zoz;show(cC,I3,b8 zrM _,I2.kept (t':=tk) (h':=h'.push (eg,"list_iterator",.fields #[bH,ui])) vU,xht (A:=X.A.in1) gU (rp,X.A.units+1+1,cLine) ps [] 0 _ H2 _ I3 (by simpa using hl1) (au p hp') dps ?_ ?_ (au s' I'))
 .rw [xj (xk (hp p hp') I.fresh)];exact hp p hp'
 .exact vT
 .exact I2.fpOk (Zj _) (I2.hok.fresh (Zj _))
 .exact dC (dY,.ref _,H2,I',q2)
theorem xgp {X:Cx}{e:Expr}{t1 t2:TE} (h1:PE X e t1) (h2:PE X e t2):PE X e (i9,Q,t1 Z H Q\/t2 Z H Q):=fun pins s Z H Q I h=>h.elim (h1 pins s Z H Q I) (h2 pins s Z H Q I)
noncomputable def Itrs (lo d:Int) (n:Nat):It:=(zjB,.int (lo+dD*d))
theorem xm5 {P:Program}{w:World}{K:Zf}{tg:Expr} (it:Addr) (lo d:Int) (n:Nat):Turn P w K tg zfQ sN it (zqF (lo+(i:Nat)*d) d) where
 mem:=aj
 obj:=fun i h st b hb=>by
  ext tO;exact⟨_,st,fun v z=>by
   ext O9⟩
 keep:=RR R5
 item:=by
  intro X hP hw hK hc i pins s Z H E I hf st hg;ext jr;obtain⟨f0,f1,f2,f3,f4,f5⟩:46:=kK;show(zjj,d,W.item i s _ _ hg st fun v h' tk hv st' kk=>?_);have I1:ia (iA h'):=I.turned zuM f0 f1 f3 f4 f5;exact(bT,xg6 (s:=iA h') (n:="range_iterator") st' rfl rfl ao ⟨85,.int (lo+dD*d),H,I1,fc t,kL,st',E0⟩)
 done:=by
  intro X hP hw hK hc i pins s Z H E I hf st hg;ext jr;obtain⟨f0,f1,f2,f3,f4,f5⟩:46:=kK;exact wpAny_pyNext_range_end gU st zsi (yG,I.turned (t':=s.toks) vk f0 f1 f3 f4 f5)
 self:=zkd
theorem xf2 (a b:Int):Builtin.Range.rangeSize a b (-1)=(gW,b,a,a-b,0):=by
 unfold Builtin.Range.rangeSize;rw[ay ao];simp only[Int.neg_neg,Int.ediv_one];ext iG
theorem xpf {a b:Int} (ha:-lS<=a) (ha':a<lS) (hb:-lS<=b) (hb':b<lS):Builtin.Range.small a b (-1)=true:=by
 unfold Builtin.Range.small;rw[xf2];simp only[Builtin.Range.rangeFitsLong,Z9,Bool.or_eq_true,decide_eq_true_eq,beq_iff_eq,(Ez,¬ ((cE,-1)>0)),if_false];ext iG
section
variable {X:Cx}{tg:Expr}
theorem xkm {pins:aW}{Z:St}{H:Hp}{s:Shared}{R:LZ}{E:aT}{lo hi d:Int}{n:Nat}{t u v:Tok}{tk:Nat} (I:aq) (sm:Builtin.Range.small lo hi d=true) (sz:(XH d)=n)
    (q:R zfQ H):wpAny aH X.A (pyIter ie) zbL E (iA,D4 d):=by
  refine wpAny_pyIter_range (IsRange.new ..) sm ?_;have I1:ia (iA,D4 d):=I.kept vU;refine⟨121,zct,[zct],_,_,⟨66,H,rfl,
    zfO vU,xm5 _ lo d n,?_,gY,q⟩⟩
  . have e1:lo+sj*d=lo:=aj
    have e2:(dW n)-sj=(XH d):=mG sz
    show IsRangeIter _ _ (lo+sj*d) ((dW n)-sj) d;ext cD e1 e2 gc
  . ext Vv zct
noncomputable def xye (ta:TA):TI:=(NZ,∃ i j d:Int,bc vs [cO,zZ,.int d] zlk ((d=1/\R (Itrs i 1 (fM j i)) H1)\/(d=-1/\R (Itrs i (-1) (fM i j)) H1)))
theorem xkk {a b c:Expr}{ta:TA}{p pos:Pos} (hg:zfk) (hm:zfh) (ha:PA X [a,b,c] ta) (hs:(EA [a,b,c])=[uZ Em,uZ A7,(uZ,im c)]:=by rfl) (hs2:(EA [b,c])=[uZ A7,(uZ,im c)]:=by rfl) :
    PI X tg (Dx "range" [a,b,c]) (xye ta):=by
  intro pins s Z H R I h;show(znA,ha pos pins s Z H _ I h,fun us s1 ⟨vs,H1,I1,r1,q1⟩=>?_);obtain⟨i,j,d,e,⟨q1,q2,q3,q4⟩,q⟩:103:=q1;ext dw;cases r1 with
  | cons r rr =>
    cases rr with
    | cons r' rr =>
      cases rr with
      | cons r'' rr =>
        ext ztc;ext jS t'' r'';rcases q with⟨rfl,q⟩|⟨rfl,q⟩
        . show(zpF,small_one q1 q2 q3 q4,KH rangeSize_one)
        . show(zpF,xpf q1 q2 q3 q4,KH xf2)
#check _
theorem xfz {xs:ag}{us:aQ} (r:ku) {j:Nat} (h:j<us.toArray.size):∃ x,TZ/\RelV x us.toArray[j]:=by
 have hl:=r.length;have hj:j<xs.length:=B2 h
 show(ae,u,h1,h2,r.get (x:=xs[j]) xI);show(gH,xs[j],xI);have:us.toArray[j]=u:=by
  have z:=Zl.mp h1;obtain⟨z1,z2⟩:=z;simpa using z2
 ext aK this h2
theorem xg1 {A:Around}{k:Nat} (hr:Bj):zgM 3:=gg hr.un
theorem xbw {A:Around}{k:Nat} (hr:Bj):zgM 20:=gg hr.un
theorem xg2 {X:Cx}:(zch,∃ a kvs,bc xs fO zW (jW kvs.length)):=by
 intro pins s Z H xs us Q I r h;obtain⟨a,kvs,rfl,e,q⟩:83:=h;ext Pa;show(cX,u=o8,rx);exact xxq I (.inl e) fun t s' I'=>(bv,qx,H,I',fc t,q)
inductive Ents (w:World):bX Ra aI
 | nil:Ents w [] []
 | cons {k:Key}{x:V}{key val:Value}{h:Int}{es:Ra}{kvs:aI} (hh:h=keyH w k) (hk:RelV (kV k) key) (hv:RelV x val) (r:Ents w es kvs):Ents w (⟨h,key,val⟩::es) ((k,x)::kvs)
noncomputable def xoy (w:World) (K:Zf) (D:Addr) (kvs:aI):Prop:=(tD D)/\∃(es:jQ) (ep:Nat),(zsM,D,.dict es ep)/\Ents w es.toList kvs/\(kvs.map (·.1)).Nodup
theorem Ents.ok {P:Program}{w:World}{es:Ra}{kvs:aI} (h:Ents w es kvs):∃ vs,kH/\Pairs oG es vs/\∀ e∈es,∃ k,(oG).is k e.key=true/\e.hash=(oG).hash k:=by
 induction h with
 | nil=>exact(ba,[],.nil,.nil,fun e z=>nomatch z)
 | @cons k x key val h es kvs hh hk hv _ ih =>
  ext b9 vs a b c ih;refine(ba,(k,val)::vs,d4 (dC hv) a,.cons (xda hk) rfl b,au e he);rcases dI he with rfl|z
  .exact ⟨k,xda hk,hh⟩
  .exact c e z
section
variable {X:Cx}{pins:List (Addr × Obj)}{Z:St}{H:Hp}{s:Shared}{D:Addr}{kvs:List (Key × V)}
theorem xr5 (I:aq) (g:xoy X.w X.K D kvs):∃ vs,kH/\s.heap.DictOf ig D vs:=by
 obtain⟨_,es,ep,l,en,nd⟩:=g;show(b9,vs,a,b,c,en.ok (P:=X.prog));show(cR,vs,a,⟨106,_,es,ep,I.kIn _ _ l,R3,rfl,fun e he=>c e (by simpa using he),b,?_⟩);show(m8,a.keys,nd)
noncomputable def tGIn (kvs:aI) (neg:Bool) (ty:TE):TE:=(zaz,∃ k:Key,y=vd/\Q (.bl (if neg then !(lE).isSome else (lE).isSome)) H1)
theorem xqs {i:Expr}{ty:TE}{x:Str}{p:Pos} (hi:EY) (hg:r8) (hm:A6 (.ref D)) (g:xoy X.w X.K D kvs) (hd:nQ:=by decide):PC X .NotIn i (.Name x p) (tGIn kvs true ty):=by
 intro pins s Z H Q I h;show(jH,hi pins s Z H _ I h,fun iv s1 ⟨y,H1,I1,ry,k,ey,q1⟩=>thn (xho (v:=.ref D) hg hm rfl hd pins s1 Z H1 (j9,H2,v=.ref D/\H2=H1) I1 kL) fun u s2 ⟨x,H2,I2,rx,e1,e2⟩=>?_);subst ey e1 e2;show(cX,u=Zs D,rx);show(ae,vs,rel,dd,xr5 I2 g);show(ztQ,g.1);rw[<- Si];exact(dY,xM,_,I2.tok _,q1)
#check _
theorem xhu {ns:iI}{f:Lm} (h:∀ j (l:j<ns.length),f j=ns[j]):∀ j,j<=ns.length->preSum f j=(TM).sum:=by
 intro j
 induction j with
 | zero=>ext CG
 | succ j ih =>
  intro l;have l':j<ns.length:=l;show preSum f j+f j=_;rw[ih (J6 l'),h j l',ZT,Zb l',List.sum_append];simp
theorem xwb {ns:iI} (B:Int) (hb:∀ n∈ns,-B<=n/\n<=B) (h0:0<=B):-(ns.length*B)<=ns.sum/\ns.sum<=ns.length*B:=by
 induction ns with
 | nil=>simp
 | cons a r ih =>
  have:=ih (F7,hb n (Zi _ hn));have:=hb a Zm;rw[J5,ZG];have e:(dW,r.length+1)*B=r.length*B+B:=by rw[Int.natCast_add,Int.add_mul]; simp
  rw[e];omega
inductive xx2 (K:Zf) (xs:ag) (H:Hp) (Q:VK):Prop
 | mk (p:Addr) (ns:iI) (e_:xs=[eB]) (r_:SqL K H p Sj/\(ns.length<=1000/\∀ n∈ns,-1000000<=n/\n<=1000000)/\(jW ns.sum))
theorem xgm {X:Cx} (hc:fX):xcf X (oU "sum") (xx2 X.K):=by
 intro pins s Z H xs us Q I r h;obtain⟨p,ns,rfl,hs,⟨hlen,hb⟩,q⟩:=h;ext zea p;obtain⟨its,vi,⟨o,n,g,c,_,d⟩,_⟩:63:=I.list hs;ext zhm;have en:ns=zs.toList.map (·.1):=zle
 ext zkE
 have hat:∀ j (l:j<ns.length),numAt zs j=ns[j]:=fun j l=>by
  rw[numAt_eq,<- en];simp[List.getD,l]
 have bd:∀ j,j<=ns.length->InLong (TM).sum:=fun j l=>by
  have:=xwb 1000000 (ns:=TM) (F7,hb n (Q9 hn)) ao;have hl:(TM).length<=1000:=ou Yd
  unfold InLong;omega
 refine sum_intList gU il (fun j hj=>eS ?_) (cu h' tk t' hk)
 .rw [hat j aa];have:=hb ns[j] (Qz _);unfold InLong;omega
 .show(c9,xhu hat eE aa,bd _ aa)
 .refine (bv,qx,H,I.kept hk,fc t',?_);rw[sz,xhu hat _ bo,Jh];exact q
section
variable {X:Cx}{pins:List (Addr × Obj)}{Z:St}{H:Hp}{s:Shared}{h':Heap}
theorem Inv.turnedL {t':Nat}{ch:az} (I:aq) (k:FP Cy jN ye) (hf:∀ b∈ch,FpOk X pins H b):ia B6:=by
 have nit:sG iJ Cy:=fun b u e z=>by
  have:=(hf b z).1;ext cH this e
 refine I.step (g':=s.gens) (d':=s.drawn) (ch:=ch) gY (Pc,k b o hc e) (Pc ⟨o.slots,k b o hc e⟩) (fun _ _ _ _ n=>n)
  (lK hc ⟨o,k b o hc e⟩) (fun _ _ e=>e) PX zpT (au m hm) uw I.bare
 .obtain ⟨f0,f1,f2,f3,f4,f5⟩:46:=qu;exact cI f3 f1 f4 f5
 .obtain ⟨o,es,ep,ho,r⟩:102:=hm;exact(Be,o,k _ o (aA,(hf _ z).2.1 rfl) ho,r)
 .refine (zgh).stay (zdz q) S4 Ej;rcases hc with z|z
  .show(c9,z,nit b u e)
  .exact nit c _ z
#check _
theorem xxb {a b:Nat} (h:a≠b):(a:Addr)≠(b:Addr):=h
noncomputable def Ite (K:Zf) (a:Addr):It :=
 (NM,∃ xs x,re/\rK,v,∃ p x,(∀ xs,re->rK)/\(bc,v,eB,su,H'=(ez H p [cO,x])),zqm)
theorem xpu {P:Program}{w:World}{K:Zf}{elts:kG}{x1}{tpos:Pos} (e it l:Addr) (hei:e≠it) :
    Turn P w K AD (Ite K l) [e,it] e (qL,(∃ old,IsEnum h e it i old)/\h.IsListIter it l i) where
  mem:=aj
  obj:=fun i h st b hb=>by
    obtain⟨⟨old,he⟩,⟨o1,e1,c1,d1⟩⟩:=st;ext XZ;rcases hb with rfl|rfl
    . exact cq he (j9,k,by have k':zuf:=k; cases k')
    . ext zpY
  keep:=fun i h h' ⟨⟨old,he⟩,h1⟩ k=>⟨⟨old,k e aj _ he⟩,h1.at fun o z=>k it aj o z⟩
  item:=by
    intro X hP hw hK hc i pins s Z H E I hf st hg;ext jr;ext iF xs x hq hx hg;show(j7,rv,p,hz1,I.list hq);show(ae,u,hu,ru,rv.get hx);ext zrr;refine wpAny_pyNext_enum_item he h1 p.isList (x:=u) (by simpa using hu) hei fun h' ho hit' hT hsz hk=>?_;refine(bT,wpAny_letOwnedTupleGo_enum (s:=zaA UV) ho (aL h'' he' hs'));have elt:nY e:=Zv he;have pne:s.heap.objs.size≠e:=Qj elt;have kk:(FP,b∉[e,it],jN,zto):=fun b o hb g=>by
      ext zpg;exact (hs'.2 b hb.1).trans (hk b o hb.1 hb.2 g)
    have I1:ia { s with heap:=h'',toks:=UV }:=I.turnedL kk hf;ext Vx;have hp:(VY,#[.int i s.toks,u]):=(hs'.2 _ pne).trans hT;refine⟨85,ie,X9 cO,I1.adopt n0 I.sz nL nC nP (zbE,.int i s.toks,u,zeR gf ru),rfl,
      ⟨84,_,x,fun zs hz=>(aD,I.list_inj hz hq,hx),rfl,n0,rfl⟩,?_,gY⟩
    . show(aO,(gF,by simpa using he'),hit'.at fun o y=>(hs'.2 it (Z2 hei)).trans y)
    . obtain⟨o,ho⟩:∃ o,jN:=by
        ext b9 o1 e1 c1 d1 h1;ext XZ;rcases hb with rfl|rfl
        . exact gF he
        . exact gF e1
      show(bP,ZD (Zv ho),(qu).1)
  done:=by
    intro X hP hw hK hc i pins s Z H E I hf st hg;ext jr;ext ae xs hq hl hg;show(j7,rv,p,hz1,I.list hq);have e1:=rv.length;ext zrr;refine wpAny_pyNext_enum_end gU he h1 p.isList iD fun h' hx=>(dC,I.turnedL (t':=s.toks) (Bt ?_) hf)
    ext zpg;exact hx b o hb.2 g
  self:=fun _ _ _ _ _ ⟨gF st,_⟩ h=>wpAny_pyIter_enum st h
noncomputable def xxu (K:Zf) (ta:TA):TI:=(NZ,∃ a xs,(bc,vs,fO,Iu,R (Ite K a) H1))
section
variable {X:Cx}{elts:List Expr}{x1:_}{tpos:Pos}
theorem xe4 {a:Expr}{ta:TA}{p pos:Pos} (hg:Gl X "enumerate") (hm:qj "enumerate") (ha:SG) (hs:SC:=by rfl) :
    PI X AD (Dx "enumerate" [a]) (xxu X.K ta):=by
  intro pins s Z H R I h;show(zdQ,PyProof.Rows.Boot.«enumerate»,(SL,ha pos pins s Z H _ I h,fun us s1 ⟨vs,H1,I1,r1,q1⟩=>?_));obtain⟨l,xs,e,hq,q⟩:83:=q1;ext zlH;show(j7,rv,p1,hz1,I1.list hq);refine call_enumerate_list p1.isList (bC h' he h1 hsz hk);refine wpAny_pyIter_enum (s:=ztZ) he ?_;show(ap,I2,b8 H1 ztZ,I1.kept (t':=s1.toks) hk,oE [s1.heap.objs.size+1,s1.heap.objs.size] _ _ ⟨66,H1,rfl,I2,xpu _ _ l (xxb aa),⟨gF he,h1⟩,gY,q⟩);have hb':s1.heap.objs.size<=b:=by
    ext XZ;rcases hb with rfl|rfl
    . exact Qx _ 1
    . exact Zj _
  exact I1.fpOk hb' (I1.hok.fresh hb')
#check _
theorem xhw {K:Zf}{a:Addr}{xs:ag}{g:TG}{tb:TS}{D:Ends}{Z:St}{H:Hp} (Pv:FD) (h0:Lh) (hl:zmK)
    (hs:∀ i x p Z H,rK->su->uh->g eB Z (ez H p [cO,x]) Gy) (hd:HE xs.length) :
    ∃ W:Nat->Nat->St->Hp->Prop,(∃ m,W 0 m Z H)/\∀ i m Z H,E1 ->
      ((Ite K a).stop i H/\zy)\/((Ite K a).go i H/\(Df (EF,(Ite K a).yld i H x H',Z,H',Da))):=by
  ext ziv;rintro i m Z H (⟨rfl,hi,p⟩:43);ext NF SI
  . ext znC
    obtain⟨r,x',e1,rfl,hr,rfl⟩:84:=y;exact hs i x' r Z H (e1 _ q) hr p
  . ext ztG
#check L2
namespace L2
open PySem PySem.Spec PyProof.Rows XL
noncomputable def tMid (t:TS):TS:=(lJ,∃ Pv:mR,t { D with nx:=Pv } Z H/\∀ σ' H',Pv σ' H'->D.nx σ' H')
theorem xbe {X:Cx}{st:Stmt}{t:TS} (h:Tu):PS X st (tMid t):=by
 intro pins s Z H D I q;ext ae Pv q1 q2 q;show(jH,(h pins s Z H { D with nx:=Pv } I q1),aL fl s1 z);cases fl with
 | next =>
  show(iF,σ',H',I',r,z);exact(bK,σ',H',I',q2 _ _ r)
 | _=>exact z
#check L2
namespace XL
open PySem PySem.W
#check XL
namespace L2
open PySem PySem.Spec PyProof.Rows XL
variable {q0:Bool}
#check L2
namespace L2
open PySem PySem.Spec PyProof.Rows XL
#check L2
namespace L2
open PySem PySem.Calls PyProof PyProof.Rows
noncomputable def eU (e:V->Bool) (u:Value):Bool:=match absV u with|some y=>e y|none=>false
theorem xha {e:V->Bool}{y:V}{u:Value} (r:hJ):eU e u=e y:=by unfold eU; rw[r.abs]
theorem xlo {e:V->Bool}:(Ri,ku->us.any (eU e)=xs.any e)
 | _,_,.nil=>rfl
 | y::xs,u::us,ue=>by rw[JS,JS,xha r,xlo t]
theorem xjm:(Ri,ku->∀ u∈us,∃ y∈xs,hJ)
 | _,_,.nil=>fun u hu=>nomatch hu
 | y::xs,u::us,ue=>fun u' hu=>by
  rcases dI hu with rfl|hu
  .exact ⟨y,Zm,r⟩
  .show(dL,z,h1,h2,xjm t u' hu);show(aJ,z,Zi _ h1,h2)
#check L2
namespace PySem.F
#check PySem.F
namespace L2
open PySem PySem.Spec PyProof.Rows XL
variable {q0:Bool}
#check L2
namespace L2
open PySem PySem.Spec PyProof.Rows XL PySem.W
variable {q0:Bool}
theorem xja {prog:Program}{w:World}{A:Around}{E:aT}{s:Shared}{a:Addr}{vs:aQ}{n:Nat}{P:dU PySem.Fin}
    (h:zmX) (h2:2<=vs.length) (h64:vs.length<64)
    (hk:∀ s':Shared,s'.heap=(((s.heap.update a (JT (j8,#[]))).push (seqObj "tuple" vs.toArray 0)).push (zgH,#[]))->s'={ s with heap:=s'.heap } ->
      wpAny aR A zuY (fun κ s''=>s''=s'/\KasT.kasWp (kas_ask prog w A κ vs) (kas_sort vs.length) (fun p s3=>s3=s'/\(zjc WP)) s'') pP s') :
    wpAny aR A znc P E s:=by
  ext vo d;ext zfK
  repeat (any_goals (first|ext cQ|ext ef))
  have z:¬ vs.toArray.toList.toArray.size>sizeLine:=by
    simp;exact J6 (ZI h64 ao)
  rw[ay z];generalize zuY=kk at hk ⊢
  repeat (any_goals (first|ext cQ|ext ef))
  have hk':=hk (zmt,((NH).push (seqObj "tuple" vs.toArray 0)).push (seqObj "list" #[] 0)) rfl rfl;show(uU,hk',aL κ s'' z);ext iH e z;ext dw;show wpAny _ _ (StateT.run (gW,vs.toArray.size,2,pure (),sortRuns') _>>=_) _ _ _;rw[ay iD];show(br,(Ja (kat_run (E:=E) (Q:=(nI,st',∃ p:dy,(ax,p.size=vs.length,arrOf st'=QH (kas_item (vs.toArray.zip vs.toArray)) p,failedOf st'=none,s'=_,P (.done (.ret .none)) (zmt,sortedHeap hp a vs WP)))) rfl h2 h64 (fun p st' s' hp' e f q'=>⟨65,p,hp',e,f,q'.1,q'.2⟩) q) (aL r s' z) CD));obtain⟨u,st⟩:=r;obtain⟨p,psz,e,f,rfl,q'⟩:65:=z;have al:a<hp.objs.size:=Zv h;have g1:(((NH).push (seqObj "tuple" vs.toArray 0)).push (seqObj "list" #[] 0)).get? a=some (Rk gP):=by
    ext PK;rw[JJ _ h rfl];have z:((0:Nat) == vs.length)=false:=by
      cases vs with
      | nil=>simp at h2
      | cons=>rfl
    simp[JT,z]
  have e2:(cM (((fun x=>#[]) vs.toArray:gS).size == vs.toArray.size) n gP)=gP:=by
    rw[if_neg];simp;omega
  simp only[e2,f];have e3:QH (fun x=>x.snd) (arrOf st)=WP:=by
    rw[e,Array.map_map]
    congr 1
    funext i;show (kas_item (vs.toArray.zip vs.toArray) i).snd=_;unfold kas_item;by_cases c:i<vs.length
    . simp[Zb c,c]
    . simp[Jt OO,c]
  simp only[e3]
  repeat (any_goals (first|ext cQ|ext ef))
  have e4:(JT (j8 zsl) (Rk gP)).data.pastItsLine=none:=by
    show (if (zsl).size>sizeLine+1 then _ else none)=none;rw[if_neg];rw[Array.size_map,psz];have:Aj vs.length:=ZI h64 ao;omega
  rw[e4];ext ur;rw[f];show wpAny _ _ (cM (gP != gP) _ _) _ _ _;rw[ay aj];exact Zk q'
theorem xgo {prog:Program}{w:World}{A:Around}{E:aT}{s:Shared}{it d:Addr}{i ep:Nat}{o:Obj}{es:jQ}{en:DictEntry}{Q:zG}
    (st:s.heap.IsKeyIter it d i es.size ep) (hd:nO) (hx:o.ExactDict) (hdat:jO) (hi:aF es en)
    (h:(La,h'.IsKeyIter it d aM es.size ep,Jn it s.heap h',some en.key,lv)):wpAny aR A rL Q E s:=by
  ext zgZ;obtain⟨⟨c,dct,dat,sl⟩,hit,ci,di⟩:63:=st;ext zls
  repeat (any_goals (first|ext cQ|(with_reducible ext T9)|(with_reducible ext T8)|(with_reducible ext pK)|(with_reducible ext pJ)|ext ef))
  have e1:(if (i:Int)<0 then none else es[(i:Int).toNat]?)=some en:=by
    ext cD rT Y1 hi
  rw[e1]
  repeat (any_goals (first|ext cQ|(with_reducible ext T9)|(with_reducible ext T8)|(with_reducible ext pK)|(with_reducible ext pJ)|ext ef))
  ext zkY
theorem xhp {prog:Program}{w:World}{A:Around}{E:aT}{s:Shared}{it d:Addr}{ep:Nat}{o:Obj}{es:jQ}{Q:zG}
    (hA:P8) (st:s.heap.IsKeyIter it d es.size es.size ep) (hd:nO) (hx:o.ExactDict) (hdat:jO)
    (h:Vs):wpAny aR A rL Q E s:=by
  ext zgZ;obtain⟨⟨c,dct,dat,sl⟩,hit,ci,di⟩:63:=st;ext zls
  repeat (any_goals (first|ext cQ|(with_reducible ext T9)|(with_reducible ext T8)|(with_reducible ext pK)|(with_reducible ext pJ)|ext ef))
  have e1:(if (es.size:Int)<0 then none else es[(es.size:Int).toNat]?)=none:=by
    rw[rT,Y1];simp
  rw[e1]
  repeat (any_goals (first|ext cQ|(with_reducible ext T9)|(with_reducible ext T8)|(with_reducible ext pK)|(with_reducible ext pJ)|ext ef))
  ext UZ
theorem xly {prog:Program}{w:World}{A:Around}{E:aT}{s:Shared}{d:Addr}{ep:Nat}{o:Obj}{es:jQ}{Q:aT}
    (hs:tD d) (hd:nO) (hx:o.ExactDict) (hdat:jO)
    (h:(DY,ie,Hi "dict_keyiterator" NC)):wpAny aR A (pyIter b7) Q E s:=by
  have ti:s.TypeIs b7 "dict":=⟨o,hd,hx.1⟩
  obtain⟨c,dct,dat,sl⟩:=o;ext zjZ hx;show(zaO,F.slot_dict_iter);refine Jz F.slot_dict_iter ti F.entry_dict_iter ?_ (F.args_dict_iter_1 _);ext vo dr;unfold Builtin.«dict.__iter__»
  repeat (any_goals (first|ext cQ|(with_reducible refine Yw ti ?_)|(with_reducible refine ZO hd rfl ?_)|(with_reducible refine Jq hd rfl ?_)|ext ef))
  show(zbD,Yo.lookup)
theorem xjf {prog:Program}{w:World}{d:Addr}{ep:Nat}{o:Obj}{es:jQ} (hs:tD d) (hx:o.ExactDict) (hdat:jO) :
    KdlSrc prog w "dict" d d es.size (zsa en.key) (fR vm) where
  type:=fun s h=>⟨o,h,hx.1⟩
  there:=fun h e=>⟨Zv e,Zv e⟩
  keep:=fun h h' e k=>k d eZ o e
  notList:=ao
  notTuple:=ao
  hint:=fun A E s Q h q=>kdl_hint_dict ⟨o,h,hx.1⟩ q
  iter:=fun A s hA h=>by
    show(sM,dl,Zv h,(zmT,"dict_keyiterator",(qL,h.IsKeyIter s.heap.objs.size d i es.size ep/\vm),xly hs h hx hdat q,Ze _ h));have dn:d≠s.heap.objs.size:=ZD dl;exact {
      sub:=fun b hb=>by
        ext zop
      frame:=(zuv,st.1.at (CS,k _ aj o e))
      item:=fun i s' Q E hi st q=>by
        refine xgo st.1 st.2 hx hdat (Jf hi) fun h' st' sb=>q _ h' s'.toks (cP,Jf hi) ⟨st',(sb.2 d dn).trans st.2⟩ (lK hb ?_);exact (sb.2 b qR).trans e
      done:=fun s' Q E st q=>by
        show(An,xhp hA st.1 st.2 hx hdat zmC,eb b o qR e)
      self:=fun i s' Q E st q=>W1 st.1 q }
noncomputable def xds:Key->Key->Bool
 | .inl a,.inl b=>bG (a<b)
 | .inr a,.inr b=>bG (a.cps.toList<b.cps.toList)
 | _,_=>false
noncomputable def lexK:d6->d6->Bool
 | [],[]=>false
 | [],b5=>true
 | b5,[]=>false
 | sJ,nD=>if x=y then lexK xs ys else xds x y
noncomputable abbrev shp (k:d6):BK:=k.map Sum.isLeft
theorem xu3 {a b:Str} (h:a.cps.toList=b.cps.toList):a=b:=by
 cases a;cases b;simp at h;rw[h]
theorem xrh (x:Key):(cS,xds x x):=by
 cases x with
 | inl a=>simp[xds]
 | inr a=>exact W3.irrefl a.cps.toList
theorem xs4 {x y z:Key} (h1:xds x y=true) (h2:xds y z=true):xds x z=true:=by
 cases x<;>cases y<;>cases z<;>simp only[xds,ZC] at h1 h2
 .show(af,a,of_decide_eq_true h1,b,of_decide_eq_true h2);exact decide_eq_true (Int.lt_trans a b)
 .exact W3.trans _ _ _ h1 h2
theorem xqf {x y:Key} (hs:x.isLeft=y.isLeft) (ne:x≠y) (h:(cS,xds x y)):xds y x=true:=by
 cases x with
 | inl a =>
  cases y with
  | inl b =>
   have h':¬ a<b:=of_decide_eq_false h;have n':a≠b:=fun e=>ne (dF e);exact decide_eq_true (dS,b<a)
  | inr b=>cases hs
 | inr a =>
  cases y with
  | inl b=>cases hs
  | inr b =>
   cases e:xds (.inr b) (.inr a) with
   | true=>rfl
   | false=>show(dM,(dF,xu3 (W3.total _ _ h e)),ne)
theorem xl7:∀ x:d6,(cS,lexK x x)
 | []=>rfl
 | sJ=>by
  unfold lexK;rw[bW];exact xl7 xs
theorem xnu:∀{x y z:d6},(bj,shp x=shp y,shp y=shp z,lexK x y=true,lexK y z=true,lexK x z=true)
 | [],[],_,_,_,h,_=>eO
 | [],b5,_,h,_,_,_=>eO
 | b5,[],_,h,_,_,_=>eO
 | b5,b5,[],_,h,_,_=>eO
 | sJ,nD,z::zs,h1,h2,h3,h4=>by
  simp only[shp,Zo,Wb.injEq] at h1 h2;unfold lexK at h3 h4 ⊢;by_cases xy:x=y
  .subst xy;rw[bW] at h3;by_cases yz:x=z
   .rw [aC yz] at h4 ⊢;exact xnu h1.2 h2.2 h3 h4
   .rw [ay yz] at h4 ⊢;exact h4
  .rw [ay xy] at h3;by_cases yz:y=z
   .subst yz;ext lO xy h3
   .rw [ay yz] at h4;have h5:=xs4 h3 h4;show(aK,if_neg (fun e=>by rw[e,xrh] at h5; cases h5),h5)
theorem xmp:∀{x y:d6},shp x=shp y->(o9,x,y,(cS,lexK x y),lexK y x=true)
 | [],[],_,h,_=>absurd rfl h
 | [],b5,h,_,_=>eO
 | b5,[],h,_,_=>eO
 | sJ,nD,h1,h2,h3=>by
  ext zbi h1;unfold lexK at h3 ⊢;by_cases xy:x=y
  .subst xy;rw[bW] at h3 ⊢;exact xmp h1.2 (fun e=>h2 (dF e)) h3
  .rw [ay xy] at h3;show(aK,if_neg (fun e=>xy e.symm),xqf h1.1 xy h3)
theorem xl0 {prog:Program}{w:World}{A:Around}{s:Shared}{b:Bool}{Q:oz}:∀(xs ys:d6) (us vs:aQ) (i:Nat),(bj,shp xs=shp ys,Vals (xs.map kV) us,Vals (ys.map kV) vs,Q (lexK xs ys) s,KatLex prog w A b false Q (us.zip vs) i s)
 | [],[],_,_,i,_,.nil,.nil,q=>kat_nil q
 | [],b5,_,_,_,h,_,_,_=>eO
 | b5,[],_,_,_,h,_,_,_=>eO
 | sJ,nD,_,_,i,h,d4 ru r,d4 rv r',q=>by
  ext zbi h;unfold lexK at q;cases x with
  | inl a =>
   cases y with
   | inr c=>cases h.1
   | inl c =>
    ext iW ru;ext jS t' rv;refine kat_cons (wpAny_eqBool_int ?_);unfold KatGo;by_cases e:a=c
    .ext dw;rw[bW] at q;show(aK,aC aj,xl0 xs ys _ _ aM h.2 r r' q)
    .rw [(mq,e (Q2.inj z))] at q;rw[ay yw];cases (b&&i == 0) with
     | true=>exact oneLt_int q
     | false=>exact kat_one _ _ (lt_int q)
  | inr a =>
   cases y with
   | inl c=>cases h.1
   | inr c =>
    ext iW ru;ext jS t' rv;refine kat_cons (wpAny_eqBool_str ?_);unfold KatGo;by_cases e:a=c
    .ext dw;rw[bW] at q;show(aK,aC aj,xl0 xs ys _ _ aM h.2 r r' q)
    .rw [(mq,e (ZW.inj z))] at q;rw[ay yw];cases (b&&i == 0) with
     | true=>exact oneLt_str q
     | false=>exact kat_one _ _ (lt_str q)
theorem xk3 {prog:Program}{w:World}{A:Around}{E:aT}{s:Shared}{a:Addr}{vs:aQ}{n:Nat}{P:dU PySem.Fin}
    (h:zmX) (h2:vs.length<2) (q':zjc vs.toArray) :
    wpAny aR A znc P E s:=by
  ext vo d;rcases vs with _|⟨v,_|⟨v',r⟩⟩
  . ext zfK
    repeat (any_goals (first|ext cQ|ext ef))
    show wpAny _ _ (pure (PUnit.unit,(RQ,((#[]:gS).zip #[]),#[],7,none))) _ _ _;ext ur;have e3:QH (fun x=>x.snd) (arrOf (RQ,((#[]:gS).zip #[]),#[],7,none))=#[]:=by
      show QH (j8 x.snd) ((#[]:gS).zip #[])=#[];simp
    simp only[e3];have g1:(((NH).push (seqObj "tuple" #[] 0)).push (seqObj "list" #[] 0)).get? a=some (Rk (n)):=by
      ext PK;rw[JJ _ h rfl];rfl
    show wpAny _ _ (seqEpoch a>>=_) _ _ _
    repeat (any_goals (first|ext cQ|ext ef))
  . ext zfK
    repeat (any_goals (first|ext cQ|ext ef))
    show wpAny _ _ (pure (PUnit.unit,(RQ,((#[v]:gS).zip #[v]),#[],7,none))) _ _ _;ext ur;have e3:QH (fun x=>x.snd) (arrOf (RQ,((#[v]:gS).zip #[v]),#[],7,none))=#[v]:=by
      show QH (j8 x.snd) ((#[v]:gS).zip #[v])=#[v];simp
    simp only[e3];have g1:(((NH).push (seqObj "tuple" #[v] 0)).push (seqObj "list" #[] 0)).get? a=some (Rk gP):=by
      ext PK;rw[JJ _ h rfl];rfl
    show wpAny _ _ (seqEpoch a>>=_) _ _ _
    repeat (any_goals (first|ext cQ|ext ef))
  . ext Gg h2
theorem xgs {α:Type} (f:α->Addr):∀(es:cT),Vals (es.map (j8,V.ref (f x))) zqV
 | []=>.nil
 | x::r=>.cons rfl (xgs f r)
theorem xq1 {H:Hp}{kvs:dA}{es:rB} (h:KT H kvs es):(∀ x∈es,(aE cK (.tup ((aZ).map kV))))/\es.map (·.1)=kvs.map (·.1):=by
 induction h with
 | nil=>show(aO,jP,rfl)
 | @cons p x kvs es hp r ih =>
  ext BA e1 e2 hp;show(dE,zn,by rw[Zo,Zo,ih.2,e1]);rcases dI hy with rfl|z
  .rw [<- e1];exact e2
  .exact ih.1 y z
theorem xp9 {P:Program}{w:World}{H:Hp}{h:Heap} (ok:mr) {b:Bool}{sh:BK}:∀(es:rB),(∀ x∈es,(aE cK (.tup ((aZ).map kV))))->(∀ x∈es,shp aZ=b::sh) ->
    ∃ fs,KatTups h (es.map fun x=>Zs cK) fs/\fs.length=es.length/\∀ v∈fs,(cM,b,∃ i t,v=YT i t,∃ i t,v=Qu i t)
  | [],_,_=>ba [] KatTups.nil rfl jP
  | x::es,h1,h2=>by
    show(b9,fs,k,l,m,xp9 ok es (uB,h1 y rW) (uB,h2 y rW));obtain⟨z2,ts,rt,ot,et,ct,nt,dt⟩:=ok cK _ (h1 x Zm);have s1:=h2 x Zm;obtain⟨k1,a1,v1⟩:=x;cases k1 with
    | nil=>cases s1
    | cons k0 kr =>
      ext zbi s1;simp only[Zo] at rt;cases rt with
      | @cons _ u _ us ru rr =>
        refine(ba,u::fs,KatTups.cons et ct dt aj k,bF l,au v hv);rcases dI hv with rfl|hv'
        . cases k0 with
          | inl i =>
            ext iW ru;rw[aC (tH b s1.1.symm)];ext xS i t
          | inr i =>
            ext iW ru;rw[ay (show ¬ b=true by rw[<- s1.1]; simp)];ext xS i t
        . exact m v hv'
theorem xkw {X:Cx}{pins:aW}{Z:St}{H:Hp}{s:Shared}{h1:Heap}{tk:Nat}{Q:VK}{sh:BK} (es':rB) (I1:ia (iA h1))
    (hl:es'.length<64) (km:∀ x∈es',(aE cK (.tup ((aZ).map kV)))) (shE:zqs) (hpos:zgp) (hnd:(List.map (j8 x.fst) es').Nodup)
    (q:∀(l:Addr) (ts:Ek),iP->zoa->(ts.map (·.1)).Pairwise NP->Vq) :
    wpAny aH X.A.in1 (zib,newList (es'.map fun x=>Zs cK)) (zlS,EP X pins Z Q v s') X.xe (iA h1):=by
  have hz:dB es'.length:=J6 (ZI hl ao);show(dO,vals,Vals (es'.map fun x=>V.ref cK) qO,xgs (j8 cK) es',I2,I1.lnew (t':=tk) vals (fL hz));show(zki,fL hz);have gl:(XU).get? h1.objs.size=some (zgH,(qO).toArray):=gc;show(ME,Jz slot_list_sort (cP gl) entry_list_sort ?_ (args_list_sort _));show(af,J1,I2.lset (l:=h1.objs.size) (its:=qO) (its':=[]) (ys:=[]) (f:=Tb) (t':=tk) xl gl rfl .nil fP,J2,J1.kept (t':=tk) (h':=(((XU).update h1.objs.size (JT Tb)).push (seqObj "tuple" (qO).toArray 0)).push (seqObj "list" #[] 0)) (kU RL));obtain⟨z9,its9,n9,r9,hl9,e9⟩:=J2.lstM xl;have done:∀(ts:Ek),zoa->(ts.map (·.1)).Pairwise NP ->
      EP X pins Z Q zcb (iA,sortedHeap XU h1.objs.size qO (XJ).toArray):=by
    intro ts pm pw;have tl:ts.length=es'.length:=cA pm.length_eq Za
    have J3:=J2.lset (l:=h1.objs.size) (its:=its9) (its':=XJ) (ys:=zpp) (f:=fun _=>(XJ).toArray) (t':=tk) xl e9 rfl (xgs (fun t=>t.2) ts) (qr Za tl hz);rw[xdo,xdo] at J3;exact(dY,zcb,_,J3,q _ ts fr pm pw)
  by_cases few:es'.length<2
  . refine xk3 gl (fL few) (bT,Zk (bT ?_))
    have:=done (es'.map fun x=>(aZ,cK)) (YK.refl _) ?_
    . ext KM Z0
    . match es',few with
      | [],_=>ext eI
      | [x],_=>exact List.pairwise_singleton _ _
      | _::b5,h=>ext dM h aj
  . refine xja gl B8 (fL hl) (aL s' es1 es2)
    obtain⟨b,sh0,rfl⟩:∃ b sh0,sh=b::sh0:=by
      cases sh with
      | nil=>simp at hpos
      | cons b r=>ext xS b r
    rw[es1] at es2;subst es2;have km2:∀ x∈es',(Gi (dZ h1.objs.size (.lst (es'.map fun x=>V.ref cK))) h1.objs.size [] cK (.tup ((aZ).map kV))):=fun x hx=>by
      rw[xj (xk (km x hx) fr),xj (xk (km x hx) fr)];exact km x hx
    show(b9,fs,kt,fl,fm,xp9 J2.hok es' km2 shE);show(cC,few',2<=es'.length,aa,kat_kind (T:=(cM,b,fU "int",fU "str")) kt aa (au v hv) (by cases b<;>rfl) FF)
    . have z:=fm v hv
      cases b with
      | true =>
        show(Cn,i,t,rfl,z);exact fun A Q E s _ q=>Wl (T:="int") rfl q
      | false =>
        show(Cn,i,t,rfl,z);exact fun A Q E s _ q=>Wl (T:="str") rfl q
    rw[Za];have eAt:∀ i,i<es'.length->(aF es' qN):=fun i hi=>by
      rw[List.getD_eq_getElem?_getD,Zb hi];rfl
    show(xO,eM,∀ i,i<es'.length->qN∈es',Zn (eAt i hi));have vAt:∀ i,i<es'.length->(qO).getD i .none=.ref (bg qN):=fun i hi=>by
      rw[List.getD_eq_getElem?_getD,Zd,eAt i hi];rfl
    show(cC,shI,∀ i j,i<es'.length->j<es'.length->shp (qN).1=shp zpr,fun i j hi hj=>(cA,shE _ (eM i hi),shE _ (eM j hj)),Srt.sort_wp (lt:=(iy,j,lexK (qN).1 zpr)) ⟨(iy,hi,xl7 _),fun i j k hi hj hk=>xnu Rq (shI j k hj hk),fun i j hi hj ne=>xmp Rq fun e=>ne ?_⟩ (fun i j hi hj Q' q'=>?_) few' fun p arr srt=>(hW,Zk (bT ?_)))
    . have e1:(es'.map (·.1))[i]?=(es'.map (·.1))[j]?:=by rw[Zd,Zd,eAt i hi,eAt j hj]; exact congrArg some e
      exact (zgx (fL hi) hnd).mp e1
    . show wpAny _ _ (keyLt' _ ((qO).getD i .none) ((qO).getD j .none)) _ _ _
      rw[vAt i hi,vAt j hj];obtain⟨_,ti,ri,oi,ei,_,ni,di⟩:=J2.hok _ _ (km2 _ (eM i hi));obtain⟨_,tj,rj,oj,ej,_,nj,dj⟩:=J2.hok _ _ (km2 _ (eM j hj));have l1:=Vals.length ri;show(af,l2,Vals.length rj,l3,congrArg Ys Rq);simp only[Za] at l1 l2 l3;refine kat_lt ei di ej dj ?_;show(aK,tz iD,xl0 _ _ _ _ 0 Rq ri rj q')
    have pl:∀ i∈p.toList,i<es'.length:=fun i hi=>by
      have:=(Array.Perm.mem_iff arr.pm).mp (W6.mp hi);ext lA
    have:=done (p.toList.map fun i=>((qN).1,bg qN)) ?_ ?_
    . ext qH Z0
      have e2:(p.map (jL,(qO).getD i .none))=(p.toList.map ((fun t:d6 × Addr=>Zs t.2)∘(jL ((qN).1,bg qN)))).toArray:=by
        rw[<- Array.toList_inj,Array.toList_map];exact JB (iy,hi,vAt i (pl i hi))
      ext aK e2 this
    . have e3:(es'.map (j8 (aZ,cK)))=(Zx es'.length).map fun i=>((qN).1,bg qN):=by
        refine QV (c8 i);by_cases c:i<es'.length
        . rw[Zd,eAt i c,Zd,Yp c]
          rfl
        . rw[Jt B8,Jt iD]
      show(nK,e3,YK.map _ ?_);have:=Array.Perm.toList arr.pm;ext lA
    . rw[Z0,ZU,Ju]
      intro i j hi hj hij;have z:=srt i j hij (by rw[<- arr.sz]; simpa using hj);have gi:Srt.g p i=p.toList[i]:=Srt.g_at (by rw[<- Jk]; exact Zb hi);have gj:Srt.g p j=p.toList[j]:=Srt.g_at (by rw[<- Jk]; exact Zb hj);ext rD gi gj
inductive xs2 (xs:ag) (H:Hp) (Q:VK):Prop
 | mk (d:Addr) (kvs:dA) (sh:BK) (e_:xs=[b7]) (r_:(yT d)/\kvs.length<64/\(∀ p∈kvs,shp aN=sh)/\zgp/\∀(l:Addr) (ts:Ek),iP->(∀ t∈ts,(aE t.2 (.tup (t.1.map kV))))->(ts.map (·.1)).Perm (kvs.map (·.1))->(ts.map (·.1)).Pairwise NP->Vq)
theorem xgw {X:Cx} (hc:fX):zdp xs2:=by
 intro pins s Z H xs us Q I r h;obtain⟨d,kvs,sh,rfl,hd,hl,hsh,hpos,q⟩:=h;ext M6;obtain⟨z,hsys,⟨es',rel,dd⟩⟩:43:=xlb I.hok hd;obtain⟨o,es,ep,ho,hx,hdat,hes,hkk,hnd⟩:106:=dd;have ln:=Y4 rel;have esz:es.size=es'.length:=zaS
 show(zhP,wpAny _ _ O1 _ _ _);have acl:acc.toList=qO:=by
  refine QV (c8 j);obtain⟨i1,i2⟩:=items;by_cases c:j<es'.length
  .have c':j<acc.size:=qr i1 esz c
   have e:(bQ,acc,acc[j]):=Jf c';show(ae,en,he,hv,i2 j acc[j] e);rw[Jk,e,hv];have he':bQ es.toList en:=aD Jk he
   rw[hes,Zd,Zb c] at he';rw[Zd,Zb c];have:=ZH.inj he';rw[<- this];rfl
  .rw [Jt (by rw[Jc,i1,esz]; omega),Jt B8]
 rw[acl];have I1:ia (iA h1):=I.kept keep;obtain⟨km,ke⟩:=xq1 rel;have shE:zqs:=fun x hx=>by
  have m:aZ∈kvs.map (·.1):=zcw ke Tv
  show(ae,p,hp,e,Zg.mp m);rw[<- e];exact hsh p hp
 refine xkw es' I1 (bJ ln hl) km shE hpos hnd fun l ts fr pm pw=>q l ts fr Tq ?_ pw
 .show(dL,x,hx,rfl,Zg.mp (pm.mem_iff.mp ht));exact km x hx
 .have:=pm.map (·.1);ext qH Z0;ext m8 ke this
inductive xme (xs:ag) (H:Hp) (Q:VK):Prop
 | mk (d:Addr) (ts0:Ek) (sh:BK) (e_:xs=[b7]) (r_:(aE d (.lst (ts0.map fun t=>.ref t.2)))/\ts0.length<64/\(∀ t∈ts0,(aE t.2 (.tup (t.1.map kV))))/\(∀ t∈ts0,shp t.1=sh)/\zgp/\(ts0.map (·.1)).Nodup/\∀(l:Addr) (ts:Ek),iP->ts.Perm ts0->(ts.map (·.1)).Pairwise NP->Vq)
theorem xju {α:Type} (f:α->Addr):∀{es:cT}{us:aQ},Vals (es.map (j8,V.ref (f x))) us->us=zqV
 | [],_,.nil=>rfl
 | x::es,_,d4 r rs=>by
  cases r;rw[xju f rs];rfl
theorem xl8 {X:Cx} (hc:fX):zdp xme:=by
 intro pins s Z H xs us Q I r h;obtain⟨d,ts0,sh,rfl,hd,hl,km,hsh,hpos,hnd,q⟩:=h;ext M6;obtain⟨z,its,n,rv,hlen,el⟩:=I.lstM hd;have eits:=xju (fun t:d6 × Addr=>t.2) rv;ext U7;ext vI;show wpAny _ _ O1 _ _ _;show(br,(wpAny_collect_seq d (T:="list") eZ el rfl rfl (au h1 keep) (by rw[Z6,eits,Za]; exact J6 (ZI hl ao))));have I1:ia { s with heap:=h1,toks:=s.toks }:=I.kept keep;have e0:its.toArray.toList=(zov).map fun x=>Zs cK:=by
  rw[Z0,eits];rfl
 show(nK,e0,xkw zov I1 (fL hl) rJ rJ hpos (aD Z0 hnd) fun l ts fr pm pw=>q l ts fr ?_ pw)
 .show(dL,t,ht,rfl,Zg.mp hx);exact km t ht
 .show(dL,t,ht,rfl,Zg.mp hx);exact hsh t ht
 .rw [Z0] at pm;have e1:ts0.map ((fun x:d6 × RM=>(aZ,cK))∘fun t=>(t.1,t.2,JE))=ts0:=Y8 _;ext cJ e1 pm pm
theorem xmj {prog:Program}{w:World}{K:Type} [DecidableEq K] {knd:HeapKind prog w K}{A:Around}{E:aT}{s:Shared}{d a b:Addr}{xs:i4 K RM}{k:K}{v:Value}{i:Nat}{Q:dU (dc DictEntry)}
    (hr:knd.room A) (hk:knd.is s.heap k a) (dd:Heap.DictOfH knd s.heap d xs) (hi:aF xs (k,b,v)) (hz:vC)
    (h:(La,Heap.DictOfH knd h' d (xs.eraseIdx i),zdA,(some (entryOfKey knd (k,b,v))),zaA ztO)):wpAny aR A (Builtin.Dict.takeOut d aB) Q E s:=by
  obtain⟨o,es,ep,ho,hx,hdat,hes,hkk,hnd⟩:106:=dd;have esz:es.size=xs.length:=zaS
  unfold Builtin.Dict.takeOut;refine ZZ (Zc (knd.pyHash hr hk ?_));show(br,(wpAny_dictFind_heap (s:={ s with toks:=ztO }) hr hk ho hdat hes hkk hnd (fun no=>absurd hi (no i (b,v))) (aL j p hj)));have ji:j=i:=by
    have e1:(xs.map (·.1))[j]?=(xs.map (·.1))[i]?:=by rw[Zd,Zd,hj,hi]; rfl
    exact (zgx (fL,ir hj) hnd).mp e1
  subst ji;show(br,ZO ho hdat ?_);have e:=entry_at hes j;rw[hi] at e;rw[e];show(br,(wpAny_updateDictKeys ho hdat (Zk (h _ ?_ zdf)) (aD esz hz) (gg,size_eraseIdxIfInBounds_le es j)));refine⟨106,_,_,_,JJ _ ho (Obj.isFreed_of_dict zpv),hx.mapDictKeys _,zpv,?_,au x hx',?_⟩
  . have e2:(es.eraseIdxIfInBounds j).toList=es.toList.eraseIdx j:=aj
    rw[e2,hes];ext znn
  . exact knd.keeps (hkk x (List.mem_of_mem_eraseIdx hx')) ho hdat zdf
  . exact Y3.sublist (List.Sublist.map _ (List.eraseIdx_sublist _ _)) hnd
theorem Paired.erase {α β:Type}{F:SY}{l₁:cT}{l₂:Mc} (h:Paired F l₁ l₂):∀ i,Paired F (l₁.eraseIdx i) (l₂.eraseIdx i):=by
 induction h with
 | nil=>exact jL .nil
 | cons r t ih =>
  intro i;cases i with
  | zero=>exact t
  | succ i=>exact .cons r (ih i)
theorem Paired.at_ {α β:Type}{F:SY}{l₁:cT}{l₂:Mc} (h:Paired F l₁ l₂):∀{i:Nat}{x:α},(aF l₁ x)->∃ y,(aF l₂ y)/\F x y:=by
 induction h with
 | nil=>intro i x e; ext nH
 | @cons a b l₁ l₂ r t ih =>
  intro i x e;cases i with
  | zero =>
   ext Br;ext qJ b r
  | succ i=>ext uC
theorem xi4 {κ:Type} [Ii]:∀{kvs:eY}{i:Nat}{k:κ}{v:V},(kvs.map (·.1)).Nodup->zdL->BH=kvs.eraseIdx i
 | [],i,k,v,_,h=>vM
 | o7,0,k,v,nd,h=>by
  simp at h;subst h;ext zd;show List.filter _ _=r;rw[Je aj];refine List.filter_eq_self.mpr (au q hq);have:q.1≠k:=fun e=>nd.1 (e▸(BX q hq));ext lA
 | o7,aM,k,v,nd,h=>by
  ext zd;have h':aF r (k,v):=yt
  have ne:aN≠k:=fun e=>nd.1 (by rw[e]; exact Zg.mpr (dk,(k,v),Zn h'));show List.filter _ _=p::r.eraseIdx i;rw[Jd (by simpa using ne)];have:=xi4 jI h';unfold xb8 at this;rw[this]
theorem xjq {κ:Type} [Ii]:∀{kvs:eY}{k:κ}{v:V},FA->∃ i:Nat,zdL
 | [],k,v,h=>eO
 | o7,k,v,h=>by
  ext Bz
  .ext gM CW;cases h;show(aO,0,by simp[<- e])
  .ext gM Am;show(mj,i,hi,xjq h,aM,zcd)
theorem xv2 {X:Cx}{pins:aW}{Z:St}{H:Hp}{s:Shared}{A:Around}{E:aT}{a b:Addr}{kvs:dA}{k:d6}{v:V}{Q:aT} (hu:A.in1.units<cLine) (I:aq) (e:FW) (eb:Di) (l:FA)
    (h:(Hk,b8 (jB H a BH) s',RelV v w')):wpAny aH A (vK "dict.pop" [aB,cW]) Q E s:=by
  obtain⟨z,hd,⟨xs,rel,dd⟩⟩:43:=zgs;obtain⟨km,ke⟩:=xq1 rel;have ln:=Y4 rel;obtain⟨i,hi⟩:=xjq l;obtain⟨x,hx,rx⟩:∃ x,rK/\(bc,((k,v):d6 × V).1,aZ,aE cK (.tup (k.map kV)),RelV v lQ):=L2.Paired.at_ rel hi;obtain⟨k',b',w'⟩:=x;obtain⟨ek,_,rw'⟩:43:=rx;simp only at ek;subst ek;have dd0:=dd;obtain⟨o,es,ep,ho,hxd,hdat,hes,hkk,hnd⟩:106:=dd;have ndk:(kvs.map (·.1)).Nodup:=bJ ke hnd
  refine Jz Qt ⟨o,ho,hxd.1⟩ PySem.F.entry_dict_pop ?_ (PySem.F.args_dict_pop_2 _ _);have ti:s.TypeIs aB "dict":=⟨o,ho,hxd.1⟩
  unfold Builtin.«dict.pop»;have esz:es.isEmpty=false:=by
    have:es.size=xs.length:=zaS
    have:SI:=ir hx;rw[Array.isEmpty_eq_false_iff_exists_mem];show(aO,es[i]' aa,aj)
  obtain⟨c0,d0,dat0,sl0⟩:=o;ext zjZ hxd
  repeat (any_goals (first|ext cQ|(with_reducible refine Yw ti ?_)|(with_reducible refine ZO ho rfl ?_)|((with_reducible show wpAny _ _ (Builtin.Dict.takeOut _ _) _ _ _); refine xmj (show (NB).room A.in1 from hu) Bc dd0 hx (bJ ln z) (Mr dd'))|ext ef))
  refine(bT,h w' _ ?_ rw');have dd2:=dd';obtain⟨o',es',ep',ho',hx',hd',he',hk',hn'⟩:106:=dd2;refine xd3 I zo hs ⟨o',ho'⟩ ?_;show(lZ,ZJ (xlf kvs k) z,hd,xs.eraseIdx i,?_,⟨105,o',es',ep',ho',hx',hd',he',hn'⟩);rw[xi4 ndk hi];refine Paired.mapP (L2.Paired.erase rel i) fun p q zz=>(xJ,zz.1,b6 zz)
  show(bP,xdi (bg zz) e dJ,bg zz)
noncomputable def xwe (td ty:TE):TE:=(ML,∃ kvs k b v,(ax,H2 a=some (.dT kvs),y=cW,H2 b=some (.tup (k.map kV)),FA,Q v (jB H2 a BH)))
section
variable {X:Cx}{o e:Expr}{td ty:TE}{apos cpos:Pos}
theorem xsm (hu:yi) (ho:wj) (he:TJ) (m:M1 X o "pop" apos e cpos):KN "pop" [e] (xwe td ty):=by
 intro pins s Z H Q I h;show(zhM,QQ m.base m.few m.line J0 Qt PySem.F.type_dict_pop (thn (ho pins s Z H _ I h) fun u s1 ⟨x,H1,I1,rx,a,ex,d,q1⟩=>?_),he pins s1 Z H1 _ I1 q1,fun iv s2 ⟨y,H2,I2,ry,kvs,k,b,v,ea,ey,eb,l,q2⟩=>JY ?_);show(cX,iv=Zs b,ry);exact xv2 hu I2 ea eb l zrn
#check _
#check L2
namespace L2
open PySem PySem.Spec PyProof.Rows XL PySem.W
inductive DV where
 | non
 | bl (b:Bool)
 | int (i:Int)
 | str (x:Str)
 | tup (xs:mO)
 | lst (xs:mO)
mutual
def dEq:DV->DV->Bool
 | .non,.non=>true
 | .bl a,.bl b=>a == b
 | .bl a,.int b=>(if a then 1 else 0) == b
 | .int a,.bl b=>a == (if b then 1 else 0)
 | .int a,.int b=>a == b
 | .str a,.str b=>a == b
 | .tup xs,.tup ys=>dEqs xs ys
 | .lst xs,.lst ys=>dEqs xs ys
 | _,_=>false
def dEqs:List DV->List DV->Bool
 | [],[]=>true
 | x::xs,y::ys=>dEq x y&&dEqs xs ys
 | _,_=>false
end
mutual
theorem xcd:∀ d,dEq d d=true
 | .non=>rfl
 | .bl _=>by simp[dEq]
 | .int _=>by simp[dEq]
 | .str _=>by simp[dEq]
 | .tup xs=>by simp only[dEq]; exact xef xs
 | .lst xs=>by simp only[dEq]; exact xef xs
theorem xef:∀ xs,dEqs xs xs=true
 | []=>rfl
 | x::xs=>by simp only[dEqs,Z9]; exact⟨xcd x,xef xs⟩
end
mutual
def DV.pl:DV->Bool
 | .bl _=>false
 | .tup xs=>pls xs
 | .lst xs=>pls xs
 | _=>true
def pls:List DV->Bool
 | []=>true
 | x::xs=>x.pl&&pls xs
end
mutual
theorem xrs:∀{d e:DV},d.pl=true->e.pl=true->dEq d e=true->d=e
 | .non,.non,_,_,_=>rfl
 | .int a,.int b,_,_,h=>by simp only[dEq,beq_iff_eq] at h; rw[h]
 | .str a,.str b,_,_,h=>by simp only[dEq,beq_iff_eq] at h; rw[h]
 | .tup xs,.tup ys,p,q,h=>by
  simp only[dEq] at h;simp only[DV.pl] at p q;rw[xje p q h]
 | .lst xs,.lst ys,p,q,h=>by
  simp only[dEq] at h;simp only[DV.pl] at p q;rw[xje p q h]
 | .bl _,_,p,_,_=>by simp[DV.pl] at p
 | .non,.bl _,_,q,_=>by simp[DV.pl] at q
 | .int _,.bl _,_,q,_=>by simp[DV.pl] at q
 | .str _,.bl _,_,q,_=>by simp[DV.pl] at q
 | .tup _,.bl _,_,q,_=>by simp[DV.pl] at q
 | .lst _,.bl _,_,q,_=>by simp[DV.pl] at q
 | .non,.int _,_,_,h=>by simp[dEq] at h
 | .non,.str _,_,_,h=>by simp[dEq] at h
 | .non,.tup _,_,_,h=>by simp[dEq] at h
 | .non,.lst _,_,_,h=>by simp[dEq] at h
 | .int _,.non,_,_,h=>by simp[dEq] at h
 | .int _,.str _,_,_,h=>by simp[dEq] at h
 | .int _,.tup _,_,_,h=>by simp[dEq] at h
 | .int _,.lst _,_,_,h=>by simp[dEq] at h
 | .str _,.non,_,_,h=>by simp[dEq] at h
 | .str _,.int _,_,_,h=>by simp[dEq] at h
 | .str _,.tup _,_,_,h=>by simp[dEq] at h
 | .str _,.lst _,_,_,h=>by simp[dEq] at h
 | .tup _,.non,_,_,h=>by simp[dEq] at h
 | .tup _,.int _,_,_,h=>by simp[dEq] at h
 | .tup _,.str _,_,_,h=>by simp[dEq] at h
 | .tup _,.lst _,_,_,h=>by simp[dEq] at h
 | .lst _,.non,_,_,h=>by simp[dEq] at h
 | .lst _,.int _,_,_,h=>by simp[dEq] at h
 | .lst _,.str _,_,_,h=>by simp[dEq] at h
 | .lst _,.tup _,_,_,h=>by simp[dEq] at h
theorem xje:∀{xs ys:List DV},pls xs=true->pls ys=true->dEqs xs ys=true->xs=ys
 | [],[],_,_,_=>rfl
 | x::xs,y::ys,p,q,h=>by
  simp only[pls,Z9] at p q;simp only[dEqs,Z9] at h;rw[xrs p.1 q.1 h.1,xje p.2 q.2 h.2]
 | [],_::_,_,_,h=>by simp[dEqs] at h
 | _::_,[],_,_,h=>by simp[dEqs] at h
end
theorem xi9 {d e:DV}{α:Type}{x y:α} [D2] (p:d.pl=true) (q:e.pl=true) (f:d=e↔x=y):Fx=decide (x=y):=by
 by_cases c:x=y
 .rw [decide_eq_true c,f.mpr c];exact xcd _
 .rw [decide_eq_false c];cases z:Fx with
  | false=>rfl
  | true=>exact absurd (f.mp (xrs p q z)) c
theorem xic:∀{xs ys:mO}{e:E5},(zsD,e j=dEq x y)->((Zx zrF).all e&&xs.length == ys.length)=dEqs xs ys
 | [],[],_,_=>rfl
 | [],b5,_,_=>bF dEqs
 | b5,[],_,_=>bF dEqs
 | sJ,nD,e,h=>by
  show(af,ih,xic (xs:=xs) (ys:=ys) (e:=fun j=>e eE) (fun j a b ha hb=>h eE a b (by simpa using ha) qR),h0,h 0 x y rfl rfl);rw[ZG,ZG,(dS,min (xs.length+1) (ys.length+1)=zrF+1),Yr,Q7,List.all_map];show _=(dEq x y&&dEqs xs ys)
  rw[<- ih,h0];have z:((xs.length+1 == ys.length+1):Bool)=(xs.length == ys.length):=by
   rw[Jr];simp
  rw[z,Bool.and_assoc];rfl
theorem xli:∀{xs ys:mO},xs.length≠ys.length->(cS,dEqs xs ys)
 | [],[],h=>absurd rfl h
 | [],b5,_=>rfl
 | b5,[],_=>rfl
 | sJ,nD,h=>by
  show cS (dEq x y&&dEqs xs ys);rw[xli (xs:=xs) (ys:=ys) (aA,h (bF z))];exact W0 _
inductive Dv (K:Zf) (H:Hp):Nat->(bX V DV)
 | non {n:Nat}:xK .non .non
 | bl {n:Nat}{b:Bool}:xK xL xL
 | int {n:Nat}{b:Int}:xK (.int b) (.int b)
 | str {n:Nat}{b:Str}:xK (.str b) (.str b)
 | tup {n:Nat}{a:Addr}{xs:ag}{ds:mO} (ha:IM) (hl:zvc) (h:zjL):Dv K H gP aB (.tup ds)
 | lst {n:Nat}{a:Addr}{xs:ag}{ds:mO} (ha:re) (hl:zvc) (h:zjL):Dv K H gP aB (.lst ds)
section
variable {X:Cx}{pins:List (Addr × Obj)}{Z:St}{H:Hp}{s:Shared}
theorem xkh {h:Heap}{a:Addr}{i j:gS} (p:h.IsTuple a i) (q:PlainL h a j):False:=by
 ext on o e c p;ext MD o' n e' c' q;ext bA e e' e';rw[c] at c';ext dM c' ao
theorem xq2 {xs ys:mO} (h:zvd) (f:(zsD,x=y)):xs=ys:=by
 refine QV (c8 j);by_cases c:j<xs.length
 .rw [Zb c,Zb aa,f j _ _ (Zb c) (Zb aa)]
 .rw [Jt aa,Jt aa]
theorem xl2 (I:aq) {n:Nat}{x:V}{d:DV} (h:Dv X.K H n x d):∀{m:Nat}{e:DV},Dv X.K H m x e->d=e:=by
 induction h with
 | non=>ext PH
 | bl=>ext PH
 | int=>ext PH
 | str=>ext PH
 | @tup n a xs ds ha hl h ih =>
  intro m e h2;cases h2 with
  | @tup m _ ys es hb kl k =>
   show(nB,I.tuple_inj ha hb);refine congrArg DV.tup (xq2 aa (Ld d e));have lt:j<xs.length:=by
    show(bZ,ir h1)
   exact ih j xs[j] d iw h1 zuo
  | @lst m _ ys es hb kl k =>
   show(ziP,I.tuple ha,I.list hb)
 | @lst n a xs ds ha hl h ih =>
  intro m e h2;cases h2 with
  | @lst m _ ys es hb kl k =>
   show(nB,I.list_inj ha hb);refine congrArg DV.lst (xq2 aa (Ld d e));have lt:j<xs.length:=by
    show(bZ,ir h1)
   exact ih j xs[j] d iw h1 zuo
  | @tup m _ ys es hb kl k =>
   show(ziP,I.tuple hb,I.list ha)
noncomputable def at2 (f:DV->DV->Bool) (ds es:mO) (j:Nat):Bool:=match ds[j]?,es[j]? with|some d,some e=>f d e|_,_=>false
theorem xig {f:DV->DV->Bool}{ds es:mO}{j:Nat}{d e:DV} (h:bQ ds d) (h2:bQ es e):at2 f ds es j=f d e:=by
 unfold at2;rw[h,h2]
theorem xla (I:aq) {n:Nat}{x:V}{d:DV} (h:Dv X.K H n x d):∀{m:Nat}{y:V}{e:DV},Dv X.K H m y e->∀{A:Around}{u v:Value},A.units+n+m<cLine->oC->RelV y v ->
    Z3 A s u v Fx/\ZP A s u v Fx/\ZA A s u v (! Fx):=by
  induction h with
  | @non n =>
    intro m y e h2 A u v hu rx ry;show(cX,u=JE,rx);cases h2 with
    | @non  =>
      show(DX,Z3.same _,ZP.none_none,ZA.none_none)
    | @bl _ b2 =>
      show(Dt,Z3.none_bool _,ZP.none_bool _,ZA.none_bool _)
    | @int _ b2 =>
      show(pj,Z3.none_int _ _,ZP.none_int _ _,ZA.none_int _ _)
    | @str _ b2 =>
      show(pj,Z3.none_str _ _,ZP.none_str _ _,ZA.none_str _ _)
    | @tup m b ys es hb kl k =>
      show(GY,Z3.none_tuple t2 aa,ZP.none_tuple t2 aa,ZA.none_tuple t2 aa)
    | @lst m b ys es hb kl k =>
      show(G1,Z3.none_list t2.isList aa,ZP.none_list t2.isList aa,ZA.none_list t2.isList aa)
  | @bl n b1 =>
    intro m y e h2 A u v hu rx ry;show(cX,u=YC _,rx);cases h2 with
    | @non  =>
      show(DX,Z3.bool_none _,ZP.bool_none _,ZA.bool_none _)
    | @bl _ b2 =>
      show(Dt,Z3.bool_bool _ _,ZP.bool_bool _ _,ZA.bool_bool _ _)
    | @int _ b2 =>
      show(pj,Z3.bool_int _ _ _,ZP.bool_int _ _ _,ZA.bool_int _ _ _)
    | @str _ b2 =>
      show(pj,Z3.bool_str _ _ _,ZP.bool_str _ _ _,ZA.bool_str _ _ _)
    | @tup m b ys es hb kl k =>
      show(GY,Z3.bool_tuple _ t2 aa,ZP.bool_tuple _ t2 aa,ZA.bool_tuple _ t2 aa)
    | @lst m b ys es hb kl k =>
      show(G1,Z3.bool_list _ t2.isList aa,ZP.bool_list _ t2.isList aa,ZA.bool_list _ t2.isList aa)
  | @int n b1 =>
    intro m y e h2 A u v hu rx ry;obtain⟨_,rfl⟩:=rx;cases h2 with
    | @non  =>
      show(DX,Z3.int_none _ _,ZP.int_none _ _,ZA.int_none _ _)
    | @bl _ b2 =>
      show(Dt,Z3.int_bool _ _ _,ZP.int_bool _ _ _,ZA.int_bool _ _ _)
    | @int _ b2 =>
      show(pj,Z3.int_int _ _ _ _,ZP.int_int _ _ _ _,ZA.int_int _ _ _ _)
    | @str _ b2 =>
      show(pj,Z3.int_str _ _ _ _,ZP.int_str _ _ _ _,ZA.int_str _ _ _ _)
    | @tup m b ys es hb kl k =>
      show(GY,Z3.int_tuple _ _ t2 aa,ZP.int_tuple _ _ t2 aa,ZA.int_tuple _ _ t2 aa)
    | @lst m b ys es hb kl k =>
      show(G1,Z3.int_list _ _ t2.isList aa,ZP.int_list _ _ t2.isList aa,ZA.int_list _ _ t2.isList aa)
  | @str n b1 =>
    intro m y e h2 A u v hu rx ry;obtain⟨_,rfl⟩:=rx;cases h2 with
    | @non  =>
      show(DX,Z3.str_none _ _,ZP.str_none _ _,ZA.str_none _ _)
    | @bl _ b2 =>
      show(Dt,Z3.str_bool _ _ _,ZP.str_bool _ _ _,ZA.str_bool _ _ _)
    | @int _ b2 =>
      show(pj,Z3.str_int _ _ _ _,ZP.str_int _ _ _ _,ZA.str_int _ _ _ _)
    | @str _ b2 =>
      show(pj,Z3.str_str _ _ _ _,ZP.str_str _ _ _ _,ZA.str_str _ _ _ _)
    | @tup m b ys es hb kl k =>
      show(GY,Z3.str_tuple _ _ t2 aa,ZP.str_tuple _ _ t2 aa,ZA.str_tuple _ _ t2 aa)
    | @lst m b ys es hb kl k =>
      show(G1,Z3.str_list _ _ t2.isList aa,ZP.str_list _ _ t2.isList aa,ZA.str_list _ _ t2.isList aa)
  | @tup n a xs ds ha hl h ih =>
    intro m y e h2 A u v hu rx ry;ext zfG;show(j7,r1,t1,z1,I.tuple ha);have l1:=r1.length;cases h2 with
    | @non  =>
      show(DX,Z3.tuple_none t1 aa,ZP.tuple_none t1 aa,ZA.tuple_none t1 aa)
    | @bl _ b2 =>
      show(Dt,Z3.tuple_bool _ t1 aa,ZP.tuple_bool _ t1 aa,ZA.tuple_bool _ t1 aa)
    | @int _ b2 =>
      show(pj,Z3.tuple_int _ _ t1 aa,ZP.tuple_int _ _ t1 aa,ZA.tuple_int _ _ t1 aa)
    | @str _ b2 =>
      show(pj,Z3.tuple_str _ _ t1 aa,ZP.tuple_str _ _ t1 aa,ZA.tuple_str _ _ t1 aa)
    | @tup m b ys es hb kl k =>
      show(Nd,I.tuple hb);ext Sm;have step:(zjr,zlU (at2 dEq ds es j)):=fun j h1 h2=>by
        show(zhb,ih j x _ hx (Zb j1) (k j y _ hy (Zb j2)) (A:=A.in1) zob rx ry)
      have all:=zjU;have both:ZP A s (.ref a) (.ref b) (dEqs ds es)/\ZA A s (.ref a) (.ref b) (!dEqs ds es):=by
        show(af,z1,ZP.tuples (A:=A) (e:=Eg) (znG t1) zkQ aa step,z2,ZA.tuples (A:=A) (e:=Eg) (znG t1) zkQ aa step);ext zil
        rw[e1,e2,all] at z1 z2;ext aO z1 z2
      simp only[dEq];refine⟨?_,both⟩;by_cases q:a=b
      . subst q
        have ed:DV.tup ds=DV.tup es:=xl2 I (Dv.tup ha hl h) (Dv.tup hb kl k);ext ziH
      . exact .of_refs q both.1
    | @lst m b ys es hb kl k =>
      show(G1,Z3.tuple_list t1 t2.isList aa,ZP.tuple_list t1 t2.isList aa,ZA.tuple_list t1 t2.isList aa)
  | @lst n a xs ds ha hl h ih =>
    intro m y e h2 A u v hu rx ry;ext zfG;show(j7,r1,t1,z1,I.list ha);have l1:=r1.length;cases h2 with
    | @non  =>
      show(DX,Z3.list_none t1.isList aa,ZP.list_none t1.isList aa,ZA.list_none t1.isList aa)
    | @bl _ b2 =>
      show(Dt,Z3.list_bool _ t1.isList aa,ZP.list_bool _ t1.isList aa,ZA.list_bool _ t1.isList aa)
    | @int _ b2 =>
      show(pj,Z3.list_int _ _ t1.isList aa,ZP.list_int _ _ t1.isList aa,ZA.list_int _ _ t1.isList aa)
    | @str _ b2 =>
      show(pj,Z3.list_str _ _ t1.isList aa,ZP.list_str _ _ t1.isList aa,ZA.list_str _ _ t1.isList aa)
    | @tup m b ys es hb kl k =>
      show(GY,Z3.list_tuple t1.isList t2 aa,ZP.list_tuple t1.isList t2 aa,ZA.list_tuple t1.isList t2 aa)
    | @lst m b ys es hb kl k =>
      show(Nd,I.list hb);ext Sm;have step:(zjr,zlU (at2 dEq ds es j)):=fun j h1 h2=>by
        show(zhb,ih j x _ hx (Zb j1) (k j y _ hy (Zb j2)) (A:=A.in1) zob rx ry)
      have all:=zjU;have both:ZP A s (.ref a) (.ref b) (dEqs ds es)/\ZA A s (.ref a) (.ref b) (!dEqs ds es):=by
        ext zil
        show(jc,ds.length,es.length)
        . show(af,z1,ZP.lists (A:=A) (e:=Eg) t1.isList t2.isList aa aa step,z2,ZA.lists (A:=A) (e:=Eg) t1.isList t2.isList aa aa step);have all':(Zx ds.length).all Eg=dEqs ds es:=by
            rw[<- all,c,Nat.min_self];simp
          rw[e1,all'] at z1 z2;ext aO z1 z2
        . rw[xli c]
          show(aO,ZP.lists_lengths (A:=A) t1.isList t2.isList zpS aa,ZA.lists_lengths (A:=A) t1.isList t2.isList zpS aa)
      simp only[dEq];refine⟨?_,both⟩;by_cases q:a=b
      . subst q
        have ed:DV.lst ds=DV.lst es:=xl2 I (Dv.lst ha hl h) (Dv.lst hb kl k);ext ziH
      . exact .of_refs q both.1
#check _
theorem Same.seqL {K:Zf}{H H':Hp}{a:Addr}{xs:ag} (s:cG) (h:re):SqL K H' a xs:=by
 rcases h with (h|⟨ob,h⟩)|h
 .ext Ug Mo
 .show(Uf,⟨ob,Mo⟩)
 .ext fh h
inductive rNeV (K:Zf) (x:V) (y:V) (H:Hp) (Q:VK):Prop
 | mk (n m:Nat) (d e:DV) (e_:xK x d) (r_:(bD,Dv K H m y e,n<=9,m<=9,mV (! Fx)))
inductive rInV (K:Zf) (neg:Bool) (x:V) (y:V) (H:Hp) (Q:VK):Prop
 | mk (n m:Nat) (d:DV) (es:mO) (e_:xK x d) (r_:(bD,Dv K H m y (.lst es),n<=9,m<=9,mV (if neg then ! zrL else zrL)))
section
variable {X:Cx}
theorem xij (hu:yc):OpR X (compareOp .NotEq) (rNeV X.K):=by
 intro pins s Z H x y u v Q I rx ry h;obtain⟨n,m,d,e,h1,h2,hn,hm,q⟩:=h;exact WC ((xla I h1 h2 (A:=X.A) aa rx ry).2.2 X.prog X.w X.xe _ (wt q))
theorem xlm {α β:Type}{f:α->Bool}{g:β->Bool}:∀{xs:cT}{ys:Mc},zvd->(∀(j:Nat) (x:α) (y:β),TZ->Fc->f x=g y)->xs.any f=ys.any g
 | [],[],_,_=>rfl
 | [],b5,h,_=>eO
 | b5,[],h,_=>eO
 | sJ,nD,h,k=>by
  rw[JS,JS,k 0 x y rfl rfl,xlm (xs:=xs) (ys:=ys) yt (LM,a,b,k eE a b nU AJ)]
noncomputable def eOf (K:Zf) (H:Hp) (m:Nat) (d:DV) (z:V):Bool:=@dite Bool (∃ e,Dv K H m z e) (Classical.propDecidable _) (fR,dEq h.choose d) fun _=>false
theorem xez {pins:aW}{Z:St}{H:Hp}{s:Shared} (I:aq) {m:Nat}{d e:DV}{z:V} (h:Dv X.K H m z e):eOf X.K H m d z=dEq e d:=by
 unfold eOf;rw[dif_pos ⟨e,h⟩];have ex:∃ e,Dv X.K H m z e:=⟨e,h⟩
 rw[xl2 I ex.choose_spec h]
theorem xmn (hu:yc):mh .In (rInV X.K false):=by
 intro pins s Z H x y v u Q I rx ry h;obtain⟨n,m,d,es,h1,h2,hn,hm,q⟩:=h;cases h2 with
 | @lst m a xs _ ha hl k =>
  cases ry;obtain⟨its,r,pl,hz⟩:63:=I.list ha;have get:∀ z∈xs,∃(j:Nat) (e:DV),xs[j]?=some z/\es[j]?=some e/\Dv X.K H m z e:=fun z hz=>by
   ext zhk
  refine SeqAt.in_listAt (eU IB) pl.isList (au w hw) (wt ?_)
  .show(zia,xla I he h1 (A:=X.A.in1) V9 m2 rx)
  .ext zhc
theorem xe8 (hu:yc):mh .NotIn (rInV X.K true):=by
 intro pins s Z H x y v u Q I rx ry h;obtain⟨n,m,d,es,h1,h2,hn,hm,q⟩:=h;cases h2 with
 | @lst m a xs _ ha hl k =>
  cases ry;obtain⟨its,r,pl,hz⟩:63:=I.list ha;have get:∀ z∈xs,∃(j:Nat) (e:DV),xs[j]?=some z/\es[j]?=some e/\Dv X.K H m z e:=fun z hz=>by
   ext zhk
  refine SeqAt.notIn_listAt (eU IB) pl.isList (au w hw) (wt ?_)
  .show(zia,xla I he h1 (A:=X.A.in1) V9 m2 rx)
  .ext zhc
#check _
#check L2
namespace L2
open PySem PySem.Spec PyProof.Rows XL PySem.W
noncomputable def Tp (H H':Hp):Prop:=GC
theorem Same.tp {H H':Hp} (s:cG):Tp H H':=(jz,s b _ e)
theorem Tp.trans {H H' H'':Hp} (s:Tp H H') (r:Tp H' H''):Tp H H'':=(jz,r b xs (s b xs e))
theorem xp6 {H:Hp}{l:Addr}{xs ys:ag} (h:zT):Tp H zfX:=fun b zs e=>by
 show(aK,xj (fun z=>qW h e),e)
section
variable {J:It}{n:Nat}{g:TG}{Z:St}{fr:List Nat}{tc:TT}{te:TE}{l:Addr}{H1:Hp}{Q:VK}
theorem xi7 (len:Nat) (hlen:Aj len) (hl:pV) (x:Nat->V) (hgo:∀ i H,i<len->TL->J.go i H) (hy:∀ i H v H',(bq,i<len,TL,J.yld i H v H',H'=H/\v=x i)) (hst:∀ H,TL->J.stop len H)
    (p:E5) (F:LX) (stab:Gv)
    (step:∀ i H2,i<len->kD->∀(N:V->Hp->Prop) (M:Hp->Prop),(∀ y H',Same H2 H'->p i=true->F i y H'->N y H')->V0 ->
      g (x i) Ex H2 M5)
    (fin:Dp (EL ((Zx len).filter p)) (GD ((Zx len).filter p) Lj)):xdg J n g Z fr tc te l H1 Q:=by
  refine xcu len (gO ys H2 (bD,kD,K6,EL ((Zx i).filter p),∀(j:Nat) (y:V) (k:Nat),Fc->(bQ ((Zx i).filter p) k)->F k y H2)) ?_ ?_ ?_ ?_
  . refine(cI,uw,xl,rfl,fun j y k e=>BL)
    ext bP Ca e
  . ext zaK
    exact hgo i H2 lt s
  . rintro i ys H2 v H3 lt (⟨s,el,ly,f⟩:44) yl N hN
    show(jS,rfl,hy i H2 v H3 lt s yl);refine step i H3 lt s _ _ (bC y H' s' pt hf) (aL H' s' pf)
    . ext zfy
      have ylen:Aj ys.length:=by
        rw[ly];refine Js qy ?_;rw[ZX];omega
      refine⟨el',ylen,hN _ _ (cI,uw,xl,?_,bC j z k e1 e2)⟩
      . ext bP Ca O3
      . rw[JM,Yf,Zr,Zr,ly,Jd pt]
        rfl
      . rw[JM,Yf,Jd pt] at e2
        by_cases c:j<ys.length
        . rw[ZV c] at e1
          show(cJ,ZV aa,e2,stab _ _ _ _ ((Same.tp s').trans (xp6 el')) (f j z k e1 e2))
        . rw[J4 aa] at e1 e2
          rw[<- ly] at e2;cases hj:j-ys.length with
          | zero =>
            rw[hj] at e1 e2;simp at e1 e2;subst e1 e2;exact stab _ _ _ _ (xp6 el') hf
          | succ m =>
            rw[hj] at e1;simp at e1
    . refine hN _ _ (cI,s.trans s',s' _ _ el,?_,bC j z k e1 e2)
      . rw[JM,Yf,Je (bF pf)]
        simpa using ly
      . rw[JM,Yf,Je (bF pf)] at e2
        simp only[Wr,Qe] at e2;exact stab _ _ _ _ (Same.tp s') (f j z k e1 e2)
  . rintro ys H2 (⟨s,el,ly,f⟩:44)
    show(aO,hst _ s,fin ys H2 s el ly f)
theorem xdu {K:Zf}{a:Addr}{xs:ag} (hs:Iu) (hlen:Il) (hl:pV) (p:E5) (F:LX) (stab:Gv)
    (step:∀(i:Nat) (x:V) (H2:Hp),xs[i]?=some x->Same H1 H2->∀(N:V->Hp->Prop) (M:Hp->Prop),(∀ y H',Same H2 H'->p i=true->F i y H'->N y H')->V0 ->
      g x Ex H2 M5)
    (fin:Dp (EL ((Zx xs.length).filter p)) (GD ((Zx xs.length).filter p) Lj)):xdg zA n g Z fr tc te l H1 Q:=by
  refine xi7 xs.length hlen hl (jL,xs.getD i .non) (fun i H lt s=>(bK,xs,xs[i],PZ,iw)) (fun i H v H' lt s y=>?_) (fun H s=>⟨xs,PZ,bo⟩) p F stab (fun i H2 lt s N M h1 h2=>?_) fin
  . ext Cm f y
    have z:=f xs (Same.seqL s hs);show(dE,e,?_);simp[z]
  . show(lW,e,aF xs (xs.getD i .non),bF iw,step i _ H2 e s N M h1 h2)
theorem xh9 {i:Nat}{x:V}{σ0:St}{H2:Hp}{N:uM}{M:BV}{g:TG}{te:TE} (h:g x σ0 H2 zdR):g x σ0 H2 fun σ' H3=>zqo:=by
 have e:(fun (σ':St) (H3:Hp)=>zqo)=zdR:=by
  funext σ' H3;show (cM,true,zgB,M H3)=zgB;rw[bW]
 rw[e];exact h
theorem filter_all (m:Nat):(Zx m).filter SJ=Zx m:=aj
theorem xbp {K:Zf}{a:Addr}{xs:ag} (hs:Iu) (hlen:Il) (hl:pV) (F:LX) (stab:Gv)
    (step:zpw (zkn UU))
    (fin:Dp (r6 xs.length) (NU Lj)):xdg zA n g Z fr xdr te l H1 Q:=by
  refine xdu hs hlen hl SJ F stab (fun i x H2 hx s N M h1 h2=>xh9 (i:=i) (step i x H2 hx s N zny)) (fun ys H2 s e ly f=>?_);rw[filter_all,ZX] at ly;refine fin ys H2 s e ly zrm;rw[filter_all,Yp (gg,ir hy)]
#check _
theorem xec {α:Type}{f:α->V}:∀{as:cT}{ys:ag},(r6 as.length)->(∀(i:Nat) (y:V) (a:α),(aF ys y)->(aF as a)->y=f a)->ys=as.map f
 | [],[],_,_=>rfl
 | [],b5,h,_=>eO
 | b5,[],h,_=>eO
 | a::as,nD,h,k=>by
  rw[Zo,k 0 y a rfl rfl,xec (as:=as) (ys:=ys) yt fun i y' a' h1 h2=>k aM y' a' nU AJ]
theorem xn0 {α:Type} (q:α->Bool):∀(as:cT) (p:E5),zkO->((Ba).filter p).filterMap (jL,as[i]?)=as.filter q
 | [],_,_=>rfl
 | a::as,p,h=>by
  have ih:=xn0 q as (fun i=>p aM) (gO,b,hb,h aM b qR);rw[ZG,Yr];have e:((Ba).map Nat.succ).filter p=((Ba).filter (fun i=>p aM)).map Nat.succ:=by
   rw[Ws];rfl
  have h0:=h 0 a rfl;by_cases c:q a=true
  .rw [Jd (aD h0 c),Jd c,e,JI];simp only[List.getElem?_cons_zero,QK];rw[<- ih];rfl
  .rw [Je (aD h0 c),Je c,e,QK,<- ih];rfl
theorem xhn {α:Type} (q:α->Bool) {as:cT}{p:E5} (h:zkO):((Ba).filter p).length=(as.filter q).length/\∀ j i:Nat,(bQ ((Ba).filter p) i)->as[i]?=(as.filter q)[j]?:=by
 rw[<- xn0 q as p h];have all:∀ i∈(Ba).filter p,∃ a,aF as a:=fun i hi=>by
  have:=ZS.mp (qv hi);show(aO,as[i],Zb this)
 generalize (Ba).filter p=is at all
 induction is with
 | nil=>show(aO,rfl,df j i BL)
 | cons i is ih =>
  show(zI,ha,all i Zm);obtain⟨h1,h2⟩:=ih fun k hk=>all k (Zi _ hk)
  rw[JI,ha];show(dE,bF h1,o4 j k);cases j with
  | zero =>
   ext Br;exact ha
  | succ m=>exact h2 m k yw
#check L2
namespace XL
open PySem PySem.MeetsSeq PySem.MeetsSeq2 PySem.MeetsSeq3 PySem.SeqAt
open AutoSeq1 (wpAny_loadPart')
theorem xot (a:Addr) (zs:gS) (n:Nat) (y:Value) (f:zgq) (j:Nat) (lt:j<zs.size) (yes:f zs[j]=true) (few:dB zs.size) (k:Nat) :
    ∀ i:Nat,j-i=k->i<=j->(∀ m (hm:m<zs.size),i<=m->m<j->f zs[m]=false)->Meets (Builtin.«list.remove.loop» (i7 [aB,y,rawInt i]))
      (fun A R s=>(s.heap.get? a=some { cls:=.type "list",dict:=none,data:=.seq zs n,slots:=#[] })/\zll /\
        zhJ):=by
  induction k with
  | zero =>
    intro i ek le no prog w A R s g;ext VE;show(cX,i=j,aa)
    wp_walk using
      YH at_
    show(zrp,bF lt)
    rw[ix];refine Zc
      (eq _ (Array.getElem_mem lt) prog w _ _ ?_)
    rw[yes];have few':(zs.eraseIdxIfInBounds i).size<=sizeLine+1 :=
      ZJ (size_erased zs _) (Nat.le_succ_of_le few)
    wp_walk using
      (wpAny_updateSeq at_ rfl (hz:=few) (_hz':=few')),YH at_
    simpa using g
  | succ k ih =>
    intro i ek le no prog w A R s g;ext VE;have il:i<zs.size:=aa
    wp_walk using
      YH at_
    show(zrp,bF il)
    have ic:(dD+1)=(dW aM):=aa
    rw[ix];refine Zc
      (eq _ (Array.getElem_mem il) prog w _ _ ?_)
    rw[no i il bo aa]
    wp_walk
    rw[ic];exact⟨zsA,Ya entry_remove_loop (by
      show(aK,JQ plain_remove_loop _,ih aM aa aa (fun m hm h1 h2=>no m hm aa h2) prog w A R _ ⟨at_,eq,g⟩))⟩
theorem xya (a:Addr) (zs:gS) (n:Nat) (y:Value) (f:zgq) (j:Nat) (lt:j<zs.size) (yes:f zs[j]=true) (no:∀ m (hm:m<zs.size),m<j->f zs[m]=false) (few:dB zs.size) :
    Meets (Builtin.«list.remove» (i7 [aB,y]))
      (fun A R s=>(s.heap.get? a=some { cls:=.type "list",dict:=none,data:=.seq zs n,slots:=#[] })/\zll /\
        zhJ):=by
  intro prog w A R s g;ext VE
  wp_walk using
    YH at_
  exact⟨zsA,Ya entry_remove_loop (by
    show(aK,JQ plain_remove_loop _,xot a zs n y f j lt yes few _ 0 rfl fP (fun m hm _ h2=>no m hm h2) prog w A R _ ⟨at_,eq,g⟩))⟩
#check XL
namespace L2
open PySem PySem.Spec PyProof.Rows XL PySem.W
noncomputable def xre:Expr->Bool
 | .Starred _ _=>false
 | _=>true
theorem xpg {e:Expr}{es:kG}{env:Env} (h:xre e=true):starEach nF env=(false,S7)::starEach es env:=by
 cases e<;>first|rfl|cases h
theorem xd8 {X:Cx}{e:Expr}{es:kG}{te:TE}{t:TA} (ha:tW) (hr:TD) (hn:xre e=true):PA X nF (xtm te t):=xg ha hr (xpg hn)
noncomputable def xeq (es:mO) (d:DV) (j:Nat):Prop:=(∃ e,(bQ es e)/\dEq e d=true)/\∀(i:Nat) (e:DV),i<j->(aF es e)->(cS,dEq e d)
noncomputable def xup (K:Zf):SH:=fun x vs H Q=>∃(l:Addr) (xs:ag) (y:V) (n m:Nat) (d:DV) (es:mO) (j:Nat),(ax,x=bH,vs=[y],zT,xK y d,(zjQ,Q .non (dZ l (.lst (xs.eraseIdx j)))))
inductive xul (K:Zf) (x:V) (vs:ag) (H:Hp) (Q:VK):Prop
 | mk (l:Addr) (xs:ag) (y:V) (n m:Nat) (d:DV) (es:mO) (j:Nat) (e_:x=bH) (r_:hZ vs [y] zT (xK y d) (zjQ (jW j)))
section
variable {X:Cx}
theorem xlu {pins:aW}{s:Shared}{Z:St}{H:Hp}{l:Addr}{xs:ag}{its:aQ}{y:V}{u:Value}{n m:Nat}{d:DV}{es:mO}{j:Nat} (hu:yc) (I:aq) (hH:zT) (r:yX) (ru:hJ) (h1:Dv X.K H n y d) (h2:Dv X.K H m bH (.lst es)) (hn:n<=9) (hm:m<=9) (fa:xeq es d j) :
    ∃(f:zgq) (lt:j<its.toArray.size),f its.toArray[j]=true/\(∀ k (hk:k<its.toArray.size),k<j->f its.toArray[k]=false)/\∀ z,z∈its.toArray->Z3 X.A.in1 s z u (f z):=by
  cases h2 with
  | @lst m _ zs _ ha hl k =>
    show(nB,I.list_inj ha (SqL.of hH));obtain⟨⟨e,he,ee⟩,no⟩:=fa;have len:=r.length;have jl:j<es.length:=ir he;have at_:∀(i:Nat) (h:i<its.toArray.size),∃(z:V) (e:DV),(aF es e)/\RelV z its.toArray[i]/\Dv X.K H m z e:=fun i h=>by
      show(ae,z,hz,rz,xfz r h);have il:i<es.length:=B2 h
      exact⟨z,Al,Zb il,rz,k i z _ hz (Zb il)⟩
    refine⟨eU IB,iD,?_,?_,?_⟩
    . obtain⟨z,e',h3,rz,dz⟩:83:=at_ j iD
      rw[xha rz,xez I dz];ext uP he h3 ee
    . intro i hi lt
      obtain⟨z,e',h3,rz,dz⟩:83:=at_ i hi;show(cD,xha rz,xez I dz,no i e' lt h3)
    . intro z hz
      obtain⟨i,hi,rfl⟩:=Array.mem_iff_getElem.mp hz;obtain⟨z,e',h3,rz,dz⟩:83:=at_ i hi;show(cD,xha rz,xez I dz,(xla I dz h1 (A:=X.A.in1) V9 rz ru).1)
theorem xon (hu:yc):MtM X "list.remove" (xup X.K):=by
 intro pins s Z H x vs v us Q I rx rv h;obtain⟨l,xs,y,n,⟨m,d,es,j,rfl,rfl,hH,h1,h2,hn,hm,fa,q⟩⟩:121:=h;ext X8
 obtain⟨z,its,n',r,hl,e⟩:=TB;obtain⟨f,lt,yes,no,eq⟩:=xlu hu I hH r ru h1 h2 hn hm fa;refine call_meets F.slot_list_remove (cP e) F.entry_list_remove (F.args_list_remove_2 _ _)
  (xya l its.toArray n' u f j lt yes no (ou Z6)) (fJ e eq)
 refine(dY,.non,_,I.lset (its':=its.eraseIdx j) hH e ?_ (r.eraseIdx j) ?_,q)
 .show its.toArray.eraseIdxIfInBounds j=(its.eraseIdx j).toArray;rw[List.eraseIdxIfInBounds_toArray]
 .show(bZ,xkp xs j)
theorem xkr (hu:yc):MtM X "list.index" (xul X.K):=by
 intro pins s Z H x vs v us Q I rx rv h;obtain⟨l,xs,y,n,m,d,es,j,rfl,rfl,hH,h1,h2,hn,hm,fa,q⟩:=h;ext X8
 obtain⟨z,its,n',r,hl,e⟩:=TB;obtain⟨f,lt,yes,no,eq⟩:=xlu hu I hH r ru h1 h2 hn hm fa;rw[QO] at z;refine call_meets F.slot_list_index (cP e) F.entry_list_index (F.args_list_index_2 _ _)
  (SeqAt.list_indexAt l its.toArray n' none #[] u f j lt (B2 lt) yes no) (fJ e eq)
 exact yp j
#check _
#check L2
namespace XL
open PySem L2
open PyProof.Rows (assign_Tuple)
#check XL
namespace L2
open PySem PySem.Spec PyProof.Rows XL PySem.W
#check L2
namespace L2
open PySem PySem.Spec PyProof.Rows XL PySem.W PySem.Builtin PySem.Builtin.Str
#check L2
namespace L2
open PySem PySem.Spec PyProof.Rows XL
open AutoSeq1 (wpAny_loadPart')
noncomputable def Itw (d:Addr) (o:Obj) (kvs:aI):It :=
 (WW,H'=H/\∃ k,zdL)
theorem xm3 {P:Program}{w:World}{K:Zf}{tg:Expr} (d it:Addr) (o:Obj) (kvs:aI) (ep:Nat) (hep:TV) :
    Turn P w K tg (Itw d o kvs) sN it (qL,h.IsValIter it d i kvs.length ep) where
  mem:=aj
  obj:=fun i h st b hb=>by
    ext WV
  keep:=fun i h h' ⟨o1,e1,r⟩ k=>X3
  item:=by
    intro X hP hw hK hc i pins s Z H E I hf st hg;ext jr;ext C5 lt;obtain⟨f0,f1,f2,f3,f4,f5⟩:46:=kK;ext V8;rw[hl] at st;refine wpAny_pyNext_values_item st da hv (Mr hit');show(VI,xg6 (s:=lv) g2 c2 d2 ao ?_,I.turned (t':=s.toks) (Bt,(hs.2 b hb).trans g) f0 f1 f3 f4 f5);rw[<- hl] at hit';exact⟨85,x,H,I1,ru,Go k hx,hit',E0⟩
  done:=by
    intro X hP hw hK hc i pins s Z H E I hf st hg;ext jr;ext C5 le;obtain⟨f0,f1,f2,f3,f4,f5⟩:46:=kK;ext Ar;show(cJ,hl,st,wpAny_pyNext_values_end gU st da (yR OO) (yG,I.turned (t':=s.toks) vk f0 f1 f3 f4 f5))
  self:=fun A i s Q E st h=>wpAny_pyIter_valiter st h
noncomputable def xyn (X:Cx) (to:TE):TI:=Vt (Itw d ob kvs)
section
variable {X:Cx}{o:Expr}{to:TE}{tg:Expr}{apos cpos:Pos}
theorem xfm (ho:tX) (hbase:zen:=by rfl) (hline:xV:=by rfl) :
    PI X tg vj (xyn X to):=by
  intro pins s Z H R I h;show(OG,ho pins s Z H _ I h,fun v s1 ⟨x,H1,I1,r1,q1⟩=>?_);obtain⟨d,kvs,e1,e,q⟩:83:=q1;ext yM;obtain⟨z,hd,⟨vs,rel,dd⟩⟩:43:=II;obtain⟨ob,es,ep,g,ex,hdat,hk,hp,hn⟩:106:=id dd;refine⟨86, "dict", "dict.values",J0,Yh,QY,dd.typeIs,KU,Ie⟩
  . ext GZ
  refine JU Yh dd.typeIs QM (QL _) zqt zcp;show(cC,da,(GX).DictAt ig d vs ep,⟨86,ob,es,uG,ex,hdat,hk,hp,hn⟩,wpAny_pyIter_values (s:=AF) vT da ?_);ext IR AF;generalize hs2:(AF:Shared)=s2 at I2;have g2:Xs:=bJ hs2 uG
  ext zpM;have I4:b8 pX zoU :=
    XR
  have fin:PIE X pins Z tg R nS zoU:=by
    show(VC,⟨66,pX,rfl,I4,xm3 d _ ob kvs ep Rr,?_,gY,zbW⟩)
    . show(zcD,Heap.IsValIter _ _ d 0 kvs.length ep)
    . ext zbH
  exact fin
#check _
#check L2
namespace L2
open PySem PySem.Spec PyProof.Rows XL
noncomputable def Itkd (d:Addr) (o:Obj) (kvs:aI):It :=
 (WW,H'=H/\∃ k x,kf/\v=kV k)
theorem xj4 {P:Program}{w:World}{K:Zf}{tg:Expr} (d it:Addr) (o:Obj) (kvs:aI) (ep:Nat) (hep:TV) :
    Turn P w K tg (Itkd d o kvs) sN it (qL,h.IsKeyIter it d i kvs.length ep) where
  mem:=aj
  obj:=fun i h st b hb=>by
    ext WV
  keep:=fun i h h' ⟨o1,e1,r⟩ k=>X3
  item:=by
    intro X hP hw hK hc i pins s Z H E I hf st hg;ext jr;ext C5 lt;obtain⟨f0,f1,f2,f3,f4,f5⟩:46:=kK;ext V8;rw[hl] at st;refine wpAny_pyNext_dict_item st da hv (bC key h' hkey hit' hs);show(VI,xg6 (s:=lv) g2 c2 d2 ao ?_,I.turned (t':=s.toks) (Bt,(hs.2 b hb).trans g) f0 f1 f3 f4 f5);rw[<- hl] at hit';exact⟨85,vd,H,I1,xq8 hkey,(dC,bK k x hx rfl),hit',E0⟩
  done:=by
    intro X hP hw hK hc i pins s Z H E I hf st hg;ext jr;ext C5 le;obtain⟨f0,f1,f2,f3,f4,f5⟩:46:=kK;ext Ar;show(cJ,hl,st,wpAny_pyNext_dict_end gU st da (yR OO) (yG,I.turned (t':=s.toks) vk f0 f1 f3 f4 f5))
  self:=fun A i s Q E st h=>W1 st h
noncomputable def xyo (to:TE):TI:=(VL,H1 d=some (.dK kvs),∀ ob,R Iw pX)
section
variable {X:Cx}{o:Expr}{to:TE}{tg:Expr}
theorem xtz (ho:tX):PI X tg o (xyo to):=by
 intro pins s Z H R I h;show(jH,ho pins s Z H _ I h,fun v s1 ⟨x,H1,I1,r1,q1⟩=>?_);obtain⟨d,kvs,e1,e,q⟩:83:=q1;ext yM;obtain⟨z,hd,⟨vs,rel,dd⟩⟩:43:=II;obtain⟨ob,es,ep,g,ex,hdat,hk,hp,hn⟩:106:=id dd;show(zhL,⟨86,ob,es,g,ex,hdat,hk,hp,hn⟩);have I4:b8 pX (VU Xf) :=
  XV
 show(MQ,⟨66,pX,rfl,I4,xj4 d _ ob kvs ep Rr,?_,gY,q ob⟩)
 .show(zcD,Heap.IsKeyIter _ _ d 0 kvs.length ep)
 .ext zbI
#check _
#check L2
namespace L2
open PySem PySem.Spec PyProof.Rows XL
open AutoSeq1 (wpAny_loadPart')
#check L2
namespace L2
open PySem PySem.Spec PyProof.Rows XL
#check L2
namespace L2
open PySem PySem.Spec PyProof.Rows XL PySem.W PySem.Builtin PySem.Builtin.Str
section
variable {J:It}{n:Nat}{g:TG}{Z:St}{fr:List Nat}{tc:TT}{te:TE}{l:Addr}{H1:Hp}{Q:VK}
theorem xi3 {K:Zf}{a:Addr}{xs:ag} (hs:Iu) (hlen:Il) (hl:pV) (F:Nat->zF) (F0:∀ H,TL->F 0 [] H) (stab:∀ i ys zs H H',(bq,aE l (.lst zs),sQ l,F i ys H,F i ys H'))
    (step:∀(i:Nat) (x:V) (ys:ag) H2,(bj,rK,kD,K6,F i ys H2,(zkn,F aM (ys++[y]) H')))
    (fin:(Dp,r6 xs.length,F xs.length ys H2)):xdg zA n g Z fr xdr te l H1 Q:=by
  refine xcu xs.length (gO ys H2 (bD,kD,K6,r6 i,F i ys H2)) ?_ ?_ ?_ ?_
  . have s0:Same H1 zfa:=fun b u e=>by
      ext bP Ca e
    exact(cI,s0,xl,rfl,F0 _ s0)
  . ext zaK
    exact(bK,xs,xs[i],PZ,iw)
  . rintro i ys H2 v H3 lt (⟨s,el,ly,f⟩:44) ⟨rfl,yv⟩ N hN
    have hv:=yv xs (Same.seqL s hs);refine xh9 (i:=i) (step i v ys H3 hv s el f _ (cu y H' s' f'));ext zfy;show(cR,el',aa,hN _ _ (cI,uw,xl,bF ly,stab _ _ _ _ _ el' qh f'))
    . ext bP Ca O3
    . ext bP nb e
  . rintro ys H2 (⟨s,el,ly,f⟩:44)
    show(aO,⟨xs,PZ,bo⟩,fin ys H2 s el ly f)
#check _
#check L2
namespace L2
open PySem PySem.Spec PyProof.Rows XL PySem.W
#check L2
namespace L2
open PySem PySem.Spec PyProof.Rows XL PySem.W PySem.Builtin PySem.Builtin.Str
#check L2
namespace L2
open PySem
noncomputable def th (a b:Int):Int:=reduceHash (Builtin.Tuple.tupleHashOf [hashInt a,hashInt b])
#check L2
namespace XL
open PySem PySem.Spec PyProof.Rows
noncomputable def xb3 (acc:ai) (x:Str):ai:=if acc.any (· == x)=true then acc else BR
noncomputable def xbv (val:Lk) (i:Nat):ai:=((Zx i).map val).foldl xb3 []
theorem xfn (val:Lk) (i:Nat):xbv val aM=xb3 T0 (val i):=by
 unfold xbv;rw[JM,Zq,QT];rfl
theorem xnb (acc:ai) (v k:Str):(xb3 acc v).any (· == k)=(acc.any (· == k)||(d9 k v)):=by
 unfold xb3;split
 .rename_i h
  by_cases e:k=v
  .rw [e,h];simp
  .simp [e]
 .rw [List.any_append];by_cases e:k=v
  .ext dw;simp
  .show(qe,ne,v,k,beq_eq_false_iff_ne.mpr fun z=>e z.symm);simp[ne,e]
theorem xfp (acc:ai) (v:Str):(xb3 acc v).length=if acc.any (· == v) then acc.length else acc.length+1:=by
 unfold xb3;split<;>simp
theorem xjt (val:Lk):∀ i,TW<=i
 | 0=>bo
 | aM=>by
  have ih:=xjt val i;rw[xfn,xfp];ext iG
section
variable {pr:Program}{wd:World}{ar:Around}{R:Result->Shared->Prop}{it:Addr}{fp wr:List Addr}{G:Array GenState->Array GenState->Prop}{n:Nat}{P:Nat->Value->Prop}{St:Nat->Shared->Prop}
theorem xow (wk:WalksS pr wd ar.in1 it fp wr G n P St) (d:Addr) (nd:d∉fp) (val:Lk) (hv:∀ i v,P i v->∃ t,v=zdE) (small:gP<scanBound) :
    ∀(k i:Nat) (s:Shared),n-i=k->i<=n->St i s->s.heap.SetOf vE d (fun z=>(T0).any (· == z)) TW ->
      (∀ s2,zaF->s2.heap.SetOf vE d (fun z=>(xbv val n).any (· == z)) (xbv val n).length->R (FK .none) s2) ->
      ziI:=by
  ext zhV;intro k
  induction k with
  | zero =>
    intro i s ek le st so fin;ext zlc;refine Zk (fin s2 IF ?_);obtain⟨o,es,ep,t,ho,rest⟩:122:=so;exact⟨122,o,es,ep,t,mv.heap d _ nw ho,rest⟩
  | succ k ih =>
    intro i s ek le st so fin;have lt:eF:=aa
    show(U4,wk.item i s _ _ lt st zum);show(iW,hv i v pv);have so2:s2.heap.SetOf vE d (fun z=>(T0).any (· == z)) TW:=by
      obtain⟨o,es,ep,tb,ho,rest⟩:122:=so;exact⟨122,o,es,ep,tb,mv.heap d _ nw ho,rest⟩
    show(znv,wpAny _ ar.in1 (holding [Qu (val i) t] (setAdd d zdE)>>=_) _ _ s2,(vE).pyHash (k:=val i) (strKind_is _ _ _ _) ?_);show(cC,room,TW+1<scanBound,(gg,xjt val i),wpAny_setAddHashed_of (knd:=vE) (s:={ s2 with toks:=s2.toks+1 }) (strKind_is _ _ _ _) rfl so2 room (aL h2 sb so3));have so4:h2.SetOf vE d (fun z=>(xbv val aM).any (· == z)) (xbv val aM).length:=SetOf_congr so3 (aA,cA xfn xnb) (cA xfn xfp);show(V6,ih aM _ aa lt (wk.frame _ s2 _ _ st2 (JO _) fun b z o e=>?_) so4 zcO)
    . show(aK,sb.2 b (fun e2:b=d=>nd (e2▸z)),e)
    . refine fin s3 (zax ((IF).then_heap (JO _) (lK z ?_))) so5
      show(aK,sb.2 b (fun e2:b=d=>z (e2▸Zm)),e)
#check _
section
variable {pr:Program}{wd:World}{ar:Around}{E:Value->Shared->Prop}{s:Shared}
theorem xjl {l:Addr}{its:gS}{val:Lk}{Q:aT} (hd:ar.handled=none) (hl:zuH) (hi:∀(i:Nat) (v:Value),(aF its v)->∃ t,v=zdE) (small:its.size+1<scanBound)
    (h:∀(h2:Heap) (tk:Nat),h2.SetOf vE s.heap.objs.size (fun z=>(xbv val its.size).any (· == z)) zqv->OL->Q ie (iA h2)) :
    wpAny zgy ar zry Q E s:=by
  show(zgR,wpAny _ _ zrw _ _ _)
  repeat (any_goals (first|ext cQ|ext ef))
  ext zhe;cases r with
  | error e=>exact hr
  | ok fl =>
    cases fl with
    | ret ob =>
      show(lU,led,rfl,hr);have g0:(tu).get? s.heap.objs.size=some Gq:=gc;have ty0:Shared.TypeIs zbf ie "set":=cP g0
      ext zmq
      repeat (any_goals (first|ext cQ|ext ef))
      refine YU (W2 (R:=wants (fun r s2=>r=.none/\∃ h2 tk,s2=(iA h2)/\h2.SetOf vE s.heap.objs.size (fun z=>(xbv val its.size).any (· == z)) zqv/\OL) E) JD.init.plain F.entry_set_init zrK) (aL r2 s2 hr2)
      . obtain⟨ol,gl,cl,⟨nl,dl⟩⟩:63:=hl
        ext zoI;ext zun;have gl1:(tu).get? l=some (NL,odict,.seq its nl,oslots):=Ze _ gl;ext zhS
        have l1:(tu).IsList l its:=(wQ,gl1,fc nl)
        unfold Builtin.«set.__init__» noKeywords Builtin.Frozenset.updateFrom;generalize ePI:pyIter=PI
        wp_walk
        subst ePI;refine QP l1 (Zc (wpAny_runValue ?_));have ll:l<s.heap.objs.size:=Zv gl;have h3:ar.in1.in1.in1.handled=none:=by simp[hd]
        have n1:l≠(s.heap.push { cls:=.type "set",dict:=none,data:=.set #[] 0 (.fresh 0 0 led) }).objs.size:=by
          ext zuB
        have n2:s.heap.objs.size∉[zfq,l]:=by
          show(M0,Tn,Qj ll)
        refine xow znL s.heap.objs.size n2 val hi small (its.size-0) 0 _ aa fP ⟨vT,(l1.push _)⟩ ?hS ?hE
        case hS =>
          have g1:((tu).push (eg,"list_iterator",.fields #[bH,ui])).get? s.heap.objs.size=some Gq:=Ze _ g0;exact SetOf_congr ((setObjOf_fresh (knd:=vE) led).setOf g1 (by unfold scanBound; omega)) p5 rfl
        case hE =>
          ext zgT
      . cases r2 with
        | error e=>exact hr2
        | ok fl2 =>
          cases fl2 with
          | ret r =>
            obtain⟨rfl,h2,tk,rfl,so,kp⟩:=hr2
            repeat (any_goals (first|ext cQ|ext ef))
            exact h _ _ so kp
          | _=>exact hr2.elim
    | _=>exact hr.elim
#check _
#check XL
namespace L2
open PySem PySem.Spec PyProof.Rows XL
theorem xp3 (xs:ai):xbv zrZ xs.length=xs.foldl xb3 []:=by
 unfold xbv
 congr 1
 ext WI;simp[Zb h2]
theorem xit:∀(xs acc:ai),zit xb3
 | [],acc=>aj
 | x::r,acc=>by
  have le:∀(xs acc:ai),(IA xb3 acc)<=acc.length+xs.length:=by
   intro xs
   induction xs with
   | nil=>intro acc; exact Zj _
   | cons x r ih =>
    intro acc;refine ZJ (ih _) ?_;rw[xfp,ZG];ext iG
  show ((r.foldl xb3 (xb3 acc x)).length=_)↔_;rw[ZG,Z8];by_cases h:acc.any (· == x)=true
  .have hx:x∈acc:=by
    show(ae,y,hy,e,Jp.mp h);show(m8,QG e,hy)
   have e:xb3 acc x=acc:=aC h;rw[e];constructor
   .intro z
    show(bZ,le r acc)
   .intro z
    exact absurd hx (z.1 x gE)
  .have hx:x∉acc:=(aA,h (Jp.mpr ⟨x,z,beq_self_eq_true x⟩));have e:xb3 acc x=BR:=ay h;rw[e];have ih:=xit r BR;rw[Zr,Jg] at ih;ext ziW ih
   .ext zmf;rcases dI hy with rfl|hy
    .exact hx
    .exact (aA,h1 y hy (ZF _ z))
   .ext zlJ;rcases Zw.mp z with z|z
    .exact h1 y rW z
    .rw [wK] at hy;exact h2 hy
noncomputable def xir (xs:ai):Nat:=IA xb3 []
theorem xpn {xs:ai} (h:xs.Nodup):xir xs=xs.length:=by
 have:=(xit xs []).mpr ⟨B3 (nomatch z),h⟩;unfold xir;ext lA
noncomputable def xvg (K:Zf) (ta:TA):TE:=(zuO,∃ a xs,(hZ,vs,fO,SqL K H1 a (xs.map V.str),xs.length<=1000,Q (.int (cE,xir xs)) H1))
section
variable {X:Cx}
theorem xpy {a:Expr}{ta:TA}{p p2 pos pos2:Pos} (hc:fX) (hg:Gl X "len") (hm:qj "len") (hg2:Gl X "set") (hm2:qj "set") (ha:SG)
    (hs:SC:=by rfl) (hs3:(ED,[As],im As):=by rfl) :
    zmW (xvg X.K ta):=by
  intro pins s Z H Q I h;show(zcI,PyProof.Rows.Boot.«len»);refine Q1 ?_ (d7 hs3) rfl;show(zdt,wpAny _ _ (Nm,im As) _ _ s);refine Call_ (xcr I hg2 hm2 PyProof.Rows.Boot.«set» (SL,ha pos2 pins s Z H _ I h,fun us s1 ⟨vs,H1,I1,r1,q1⟩=>?_));obtain⟨l,xs,e,hq,hx,q⟩:84:=q1;show(zhr,xs.length,xjl gU pl.isList (val:=zrZ) (o4 i v) (by rw[sz]; unfold scanBound; omega) (cu h2 tk so kp))
  . have e':its[i]?=some v:=by simpa using e
    have lt:i<xs.length:=by
      show(bZ,ir e')
    obtain⟨v',hv',rv'⟩:62:=rv.get (i:=i) (x:=V.str xs[i]) (by rw[Zd,Zb lt]; rfl);rw[e'] at hv';cases hv';ext iW rv';show(aO,t,bF iw)
  ext zhI xp3;obtain⟨o,es,ep,tb,ho,ex,hd,_,_,⟨sb,ft,en⟩⟩:126:=so;refine call_len_set ho ex hd ft ?_ (bv,.int (cE,xir xs),H1,I2.tok _,⟨tk+1,d7 en⟩,q);unfold scanBound at sb;omega
#check _
#check L2
namespace XS
open PySem PySem.SetTable
noncomputable def Up (xs:dy):Prop:=∀ a b,a<b->b<xs.size->xs.getD a 0<xs.getD b 0
theorem xnt {xs:dy}{k d e:Nat} (h:k<xs.size):xs.getD k d=xs.getD k e:=by
 simp[Qv,h]
theorem xhy {xs:dy}{j:Nat} (up:Up xs):∀(fuel lo hi:Nat),hi-lo<=fuel->lo<=hi->hi<=xs.size->(∀ k,k<lo->SK<j)->(zpC hi) ->
    (zpI XI)
  | 0,lo,hi,hf,hl,hs,h1,h2=>by
    ext zuw
  | fuel+1,lo,hi,hf,hl,hs,h1,h2=>by
    unfold below.go;by_cases c:lo<hi
    . rw[aC c]
      have ml:yV<hi:=aa
      have mg:lo<=yV:=aa
      show (let mid:=yV; _)<=_/\_;simp only[];by_cases d:xs.getD yV j<j
      . show(nK,aC d,xhy up fuel _ hi aa aa hs (au k hk) h2);rw[xnt (e:=0) aa] at d;rcases YV k yV with z|z
        . exact ZI (up k _ z aa) d
        . have:k=yV:=aa
          ext aK this d
      . rw[ay d]
        rw[xnt (e:=0) aa] at d;refine xhy up fuel lo _ aa aa aa h1 (aL k hk ks);rcases YV yV k with z|z
        . exact J6 (Js (We d) (up _ k z ks))
        . have:k=yV:=aa
          rw[this];exact We d
    . rw[ay c]
      ext zuw
theorem xii {xs:dy} (up:Up xs) (j:Nat):zpI EI :=
 xhy up xs.size 0 xs.size aa aa bo (fun k hk=>aa) zcL
theorem xr8 {xs:dy} (up:Up xs) {j i:Nat} (h:aF xs j):EI=i:=by
 show(jU,hi,YS.mp h);have g:xs.getD i 0=j:=by simp[Qv,hi,e]
 show(gX,b1,b2,b3,xii up j);rcases Nat.lt_trichotomy EI i with z|z|z
 .show(Ac,b3 EI bo aa,up _ i z hi)
 .exact z
 .show(bZ,b2 i z)
theorem xj5 {t:SetTable} (up:Kx) {j i:Nat}:(tf j)↔(aF t.place j):=by
 unfold slot;simp only[];constructor
 .intro h
  split at h
  .rename_i c
   cases h;exact QG c
  .ext LK h
 .intro h
  rw[xr8 up h,aC (by rw[h]; exact beq_self_eq_true _)]
theorem xiq {t:SetTable} (up:Kx) (dm:Rv) {j:Nat} (h:∀ i:Nat,t.place[i]?≠some j):pQ j:=by
 unfold slot;simp only[];rw[if_neg fun c=>h _ (QG c),dm,if_neg];unfold has;simp
theorem xug {t:SetTable} (up:Kx) (dm:Rv) (j:Nat):(pQ j)\/∃ i,tf j:=by
 by_cases c:∃ i:Nat,aF t.place j
 .obtain ⟨i,hi⟩:=c;show(oI,i,(xj5 up).mpr hi)
 .show(cY,(xiq up dm (iy,z,c ⟨i,z⟩)))
structure Ps where
 j:Nat
 more:Nat
 i:Nat
 pt:Nat
noncomputable def adv (mask:Nat) (p:Ps):Ps:=Um p.more { p with j:=p.j+1,more:=p.more-1 } ⟨N3,(LJ N3)-N3,N3,(leap mask p.i p.pt).2⟩
noncomputable def st0 (mask:Nat) (h:Int):Ps:=⟨mM,(LJ mM)-mM,mM,Ae⟩
noncomputable def way (mask:Nat) (h:Int):Nat->Ps
 | 0=>st0 mask h
 | gP=>zgd
noncomputable def toP (p:Ps):Probe:=⟨p.j,p.more,p.i,p.pt,none⟩
theorem xq5 (t:SetTable) (p:Ps):t.advance xH=toP (adv t.mask p):=by
 unfold advance adv;by_cases c:p.more>0
 .show(uj,show (xH).more>0 from c,c);rfl
 .rw [ay (show ¬ (xH).more>0 from c),sr];rfl
noncomputable def rnd (mask:Nat) (h:Int):Nat->Nat × Nat
 | 0=>(mM,Ae)
 | r+1=>leap mask gR AL
noncomputable def nAt (mask:Nat) (h:Int):Nat->Nat
 | 0=>0
 | r+1=>ki+Ao+1
theorem xio (mask i:Nat):i<=zej/\zej-i<=9:=by
 unfold runEnd;ext iG
theorem xjc {mask:Nat}{h:Int}{r:Nat} (e:zqn) :
    ∀ k,k<=Ao->(wG (ki+k))=⟨gR+k,Mp-gR-k,gR,AL⟩
  | 0,_=>e
  | cL,hk=>by
    show adv mask (wG (ki+k))=_;rw[xjc e k aa];unfold adv;rw[aC (dS,Mp-gR-k>0)];show Ps.mk _ _ _ _=_
    congr 1
theorem xjo (mask:Nat) (h:Int):∀ r,zqn
 | 0=>rfl
 | r+1=>by
  have e:=xjo mask h r;show adv mask (wG (ki+Ao))=_;rw[xjc e _ bo];unfold adv;rw[ay (dS,¬ Mp-gR-Ao>0)];rfl
theorem xro (mask:Nat) (h:Int):∀ r,ki<=10*r
 | 0=>bo
 | r+1=>by
  have:=xro mask h r;have:=xio mask gR;show ki+_+1<=_;omega
theorem xq6 (mask:Nat) (h:Int) (r k:Nat) (hk:k<=Ao):(wG (ki+k)).j=gR+k:=by
 rw[xjc (xjo mask h r) k hk]
theorem xta (mask:Nat) (h:Int):∀ r,AL=Ae / 32 ^ r
 | 0=>(Nat.div_one _).symm
 | r+1=>by
  show AL / 32=_;rw[xta mask h r,Nat.div_div_eq_div_mul,Nat.pow_succ]
theorem pt_0 (mask:Nat) (h:Int) (r:Nat) (hr:13<=r):AL=0:=by
 rw[xta];refine Nat.div_eq_of_lt ?_;have b:Ae<oN:=by
  unfold bits;have:=WH h (xQ oN);show(bZ,Wt h (Ez,(cE oN)≠0))
 refine Z5 b (ZJ (Ez,oN<=32 ^ 13) (Nat.pow_le_pow_right ao hr))
noncomputable def lcg (mask:Nat):BQ Nat
 | 0,i=>i
 | m+1,i=>(lcg mask m i*5+1) % m7
theorem xjd (mask:Nat) (h:Int):∀ m,(Mv (13+m)).1=lcg mask m (Mv 13).1
 | 0=>rfl
 | m+1=>by
  show (leap mask (Mv (13+m)).1 (Mv (13+m)).2).1=_;unfold leap;rw[pt_0 mask h (13+m) aa,xjd mask h m];rfl
noncomputable def MkOk (mask:Nat):Prop:=mask=7\/mask=31
theorem cov7:zmF 8 7:=aP
theorem xxy:zmF 32 31:=aP
theorem xvn (mask:Nat) (h:Int):∀ r,gR<m7
 | 0=>zoB
 | r+1=>zoB
theorem xoc {mask:Nat} (mk:K0) (h:Int) (s:Nat) (hs:s<=mask):∃ r,r+1<EJ/\gR=s:=by
 have l:=xvn mask h 13;rcases mk with rfl|rfl
 .show(dL,m,hm,e,cov7 _ l s aa);ext zmI
 .show(dL,m,hm,e,xxy _ l s aa);ext zmI
theorem xvk {mask:Nat} (mk:K0) (h:Int) (s:Nat) (hs:s<=mask):∃ n,n<10*EJ/\(oQ).j=s:=by
 show(ae,r,hr,e,xoc mk h s hs);have:=xro mask h r;show(aJ,ki,aa,aD xjo e)
theorem xsk {t:SetTable}{hashAt:Lm}{h:Int}{f:Nat}{p:Ps} (z:pQ p.j):(DO (f+1) xH)=some (.empty p.j none):=by
 unfold probe.go;rw[LF (pQ,(xH).j)];rfl
theorem xt6 {t:SetTable}{hashAt:Lm}{h:Int}{f i:Nat}{p:Ps} (z:tf p.j) (e:hashAt i=h):(DO (f+1) xH)=some (.candidate p.j i (toP (adv t.mask p))):=by
 unfold probe.go;show(LN,LF (tf,(xH).j));rw[aC (by rw[e]; exact beq_self_eq_true _),xq5];rfl
theorem xu1 {t:SetTable}{hashAt:Lm}{h:Int}{f i:Nat}{p:Ps} (z:tf p.j) (e:hashAt i≠h):(DO (f+1) xH)=(DO f (toP (adv t.mask p))):=by
 conv=>lhs; unfold probe.go
 show(LN,LF (tf,(xH).j));rw[if_neg (fun q=>e (QG q)),xq5]
theorem xlx {t:SetTable} (up:Kx) (dm:Rv) (hashAt:Lm) (h:Int):∀(f n:Nat),(∃ m,n<=m/\m<n+f/\(pQ oB)) ->
    ∃ m,n<=m/\(∀ k,n<=k->k<m->∃ i,(tf,(we k).j)/\hashAt i≠h) /\
      ((qC (DO f (toP (we n))) (.empty oB none) (pQ oB)) \/
        ∃ i,(DO f (toP (we n)))=some (.candidate oB i (toP (we (m+1))))/\(tf oB)/\hashAt i=h)
  | 0,n,⟨m,a,b,_⟩=>aa
  | f+1,n,⟨m,a,b,c⟩=>by
    rcases xug up dm (we n).j with z|⟨i,z⟩
    . exact(ba,n,bo,zcL,.inl ⟨xsk z,z⟩)
    . by_cases e:hashAt i=h
      . exact(ba,n,bo,zcL,.inr (ba,i,xt6 z e,z,e))
      . have ne:n≠m:=fun q=>by rw[<- q,z] at c; cases c
        show(b9,m',a',b',c',xlx up dm hashAt h f gP (ba m aa aa c));refine(ba,m',aa,aL k h1 h2,?_)
        . rcases YV n k with y|y
          . exact b' k aa h2
          . ext Fv k n;ext aJ i z e
        . show(aK,xu1 z e,c')
noncomputable abbrev Row:=Nat × zfu
structure Tab (t:SetTable) (es:wx) (L:Lo):Prop where
 pl:t.place.toList=L.map (·.1)
 el:es.toList=L.map (·.2)
 srt:(L.map (·.1)).Pairwise (·<·)
 dm:Rv
 mok:MkOk t.mask
 bd:∀ e∈L,e.1<=t.mask
 rc:∀ e∈L,∃ n,(way t.mask Ga n).j=e.1/\∀ m,m<n->(way t.mask Ga m).j∈L.map (·.1)
variable {t:SetTable}{es:Array (Int × Value)}{L:List Row}
theorem Tab.size (T:mC):t.place.size=L.length/\es.size=L.length:=by
 constructor
 .rw [<- Jc,T.pl,Za]
 .rw [<- Jc,T.el,Za]
theorem Tab.at_ (T:mC) (i:Nat):t.place[i]?=(L[i]?).map (·.1):=by
 rw[<- Jk,T.pl,Zd]
theorem Tab.es_ (T:mC) (i:Nat):es[i]?=(L[i]?).map (·.2):=by
 rw[<- Jk,T.el,Zd]
theorem xhe {xs:dy}{k:Nat}{v:Nat} (h:dX xs k v):SK=v:=by
 show(jU,hk,YS.mp h);simp[Qv,hk,e]
theorem Tab.up (T:mC):Kx:=by
 intro a b ab hb;rw[UP] at hb;have ha:a<L.length:=aa
 rw[xhe (kN,T.at_,Zb ha),xhe (kN,T.at_,Zb hb)];have:=Ju.mp T.srt a b (fL ha) (fL hb) ab;ext lA
theorem Tab.live (T:mC) {j i:Nat}:(tf j)↔∃ e,(aF L e)/\e.1=j:=by
 rw[xj5 T.up,T.at_,Zh]
theorem Tab.free (T:mC) {j:Nat}:(pQ j)↔j∉L.map (·.1):=by
 constructor
 .intro h z
  ext Ak e he ej z;ext NY;have:=T.live.mpr ⟨e,Kt,ej⟩;ext Bv h
 .intro h
  refine xiq T.up T.dm (iy,z,h ?_);rw[T.at_,Zh] at z;ext ae e he ej z;exact Zg.mpr ⟨e,Zn he,ej⟩
theorem Tab.some_free (T:mC) (lt:O6) (h:Int):∃ n,n<OK/\(pQ,(we n).j):=by
 refine Yy sy;have all:∀ s,s<=t.mask->s∈L.map (·.1):=fun s hs=>by
  refine Yy lM;show(ae,n,hn,e,xvk T.mok h s hs);exact c ⟨n,hn,by rw[e]; exact T.free.mpr z⟩
 have:=List.nodup_range (n:=t.mask+1) |>.length_le_of_subset (l₂:=L.map (·.1)) (mU,all s (gg,ZS.mp hs))
 rw[ZX,Za] at this;omega
theorem Tab.absent (T:mC) {h:Int}{m:Nat} (em:pQ oB) {P:Value->Prop} (seen:∀ k,k<m->∀ i e,(bq,(tf,(we k).j),aF L e,Ga=h,¬ P (b6 e))):∀ e∈L,Ga=h->¬ P (b6 e):=by
 intro e he eh p;show(ae,n,hn,hm,T.rc e he);rw[eh] at hn hm;have lt:n<m:=by
  rcases Nat.lt_trichotomy n m with z|z|z
  .exact z
  .rw [z] at hn;show(cJ,hn,em,absurd (Zg.mpr (dk e he)) (T.free.mp em))
  .exact absurd (hm m z) (T.free.mp em)
 ext NY;show(lW,li,aF L e,Kt,seen n lt i e (T.live.mpr ⟨e,li,hn.symm⟩) li eh p)
theorem xl9 {α:Type} (xs:Array α) (p:Nat) (x:α) (hp:p<=xs.size):(insertAt xs p x).toList=xs.toList.take p++x::xs.toList.drop p:=by
 unfold insertAt;simp[Array.toList_extract,List.extract];exact Yq aj
theorem Tab.add (T:mC) {h:Int}{x:Value}{m:Nat} (em:pQ oB) (be:∀ k,k<m->(we k).j∈L.map (·.1)) (jm:oB<=t.mask) :
    ∃ L',L'.Perm ((oB,h,x)::L)/\Tab (t.put oB).1 (insertAt es (t.put oB).2 (h,x)) L'/\(t.put oB).1.mask=t.mask:=by
  generalize hj:oB=j at *;have nj:=T.free.mp em;show(gX,b1,b2,b3,xii T.up j);have e2:(t.put j).2=zda:=rfl;have em':(t.put j).1.mask=t.mask:=rfl;rw[e2];generalize hp:zda=p at *;have pl:p<=L.length:=Cs UP b1 b1
  have lo:∀ e∈UT,e.1<j:=fun e he=>by
    ext NY;rw[Yd] at hi;have:=b2 i aa;show(KM,zmh List.getElem_take)
  have hi:∀ e∈US,j<e.1:=fun e he=>by
    ext NY;rw[List.length_drop] at hi;have:=b3 (p+i) aa (ou UP);show(qH,zmh List.getElem_drop);refine Nat.lt_of_le_of_ne this (aA,nj ?_);show(Ff,z,(dk,e,W4 he))
  have pm:(zbM).Perm ((j,h,x)::L):=by
    have:=(Qy (a:=(j,h,x)) (l₁:=UT) (l₂:=US))
    rwa [Wu] at this
  refine ba zbM pm ⟨?_,?_,?_,?_,T.mok,?_,?_⟩ em'
  . show (insertAt t.place zda j).toList=_
    rw[hp,xl9 _ _ _ b1,T.pl,Zq,Zo,Q5,Q6]
  . rw[xl9 _ _ _ (aD zx pl),T.el,Zq,Zo,Q5,Q6]
  . rw[Zq,Zo,List.pairwise_append,Qh]
    have sub1:((UT).map (·.1)).Pairwise (·<·):=by rw[Q5]; exact T.srt.sublist (QS _ _)
    have sub2:((US).map (·.1)).Pairwise (·<·):=by rw[Q6]; exact T.srt.sublist (List.drop_sublist _ _)
    show(cR,sub1,⟨gY,sub2⟩,cu a ha b hb)
    . ext eG e he hb
      exact hi e he
    . ext eG e he ha
      rcases dI hb with rfl|hb
      . exact lo e he
      . ext eG e' he' hb
        exact ZI (lo e he) (hi e' he')
  . show (if has t.dummies j then eraseAt t.dummies (below t.dummies j) else t.dummies)=#[]
    rw[T.dm,if_neg];unfold has;simp
  . intro e he
    rcases zqP with rfl|he
    . exact jm
    . exact T.bd e he
  . intro e he
    have more:∀ s,s∈L.map (·.1)->s∈(zbM).map (·.1):=fun s hs=>by
      ext eG e' he' hs;exact Zg.mpr (dk,e',pm.mem_iff.mpr (Zi _ he'))
    rcases zqP with rfl|he
    . show(aJ,m,hj,fun k hk=>more _ (be k hk))
    . show(ae,n,a,b,T.rc e he)
      show(aJ,n,a,fun k hk=>more _ (b k hk))
#check XS
namespace XS
open PySem PySem.SetTable
noncomputable abbrev Own:=Array (Option Nat)
noncomputable def xb9 (o:Own) (j:Nat):Bool:=(zgi).isSome
theorem xj2 (mask:Nat) (h:Int) (o:Own):∀(fuel r:Nat),(∃ r',r<=r'/\r'<r+fuel/\(cS,xb9 o (Mv r').1)) ->
    ∃ n,(bD,ki<=n,layClean.free mask o fuel gR AL=some (oQ).j,(cS,xb9 o (oQ).j),∀ m,ki<=m->m<n->(Ub,(wG m).j))
  | 0,r,⟨r',a,b,_⟩=>aa
  | fuel+1,r,⟨r',a,b,c⟩=>by
    unfold layClean.free;have rl:=xio mask gR;cases hf:(PU).find? fun k=>(o.getD (gR+k) uJ).isNone with
    | some k =>
      simp only[];obtain⟨hk,as,bs,e,nb⟩:=List.find?_eq_some_iff_append.mp hf;have kin:k∈PU:=Jm hf;have kl:=ZS.mp kin;show(ap,hw,∀ m,m<=k->(wG (ki+m)).j=gR+m,fun m hm=>xq6 mask h r m aa,(o3,ki+k,aa,(dF,hw k bo),?_,aL m h1 h2))
      . rw[hw k bo]
        unfold xb9;revert hk;cases o.getD (gR+k) uJ<;>simp
      . ext zsb
        rw[hw d aa];have din:d∈as:=by
          have al:as.length=k:=by
            have g:dX PU as.length k:=mG e
            rw[Yp] at g
            . exact ZH.inj g
            . have:=congrArg Ys e
              ext Gg this
          have g:dX PU d d:=Yp aa;rw[e,ZV aa] at g;exact Zn g
        have:=nb d din;ext zlh
    | none =>
      simp only[];have all:=Ye.mp hf;have run:∀ d,d<=Ao->(Ub (gR+d)):=fun d hd=>by
        have:=all d (ZS.mpr aa);ext zlh
      have ne:r≠r':=fun q=>by
        have:=run 0 fP;rw[Nat.add_zero,q,c] at this;cases this
      obtain⟨n,a1,a2,a3,a4⟩:64:=xj2 mask h o fuel (r+1) (ba r' aa aa c);have nx:nAt mask h (r+1)=ki+Ao+1:=rfl;refine(o3,n,aa,a2,a3,aL m h1 h2);rcases YV m (nAt mask h (r+1)) with z|z
      . ext zsb
        show(aK,xq6 mask h r d aa,run d aa)
      . exact a4 m z h2
structure Lay (mask:Nat) (hs:iI) (k:Nat) (o:Own):Prop where
 sz:o.size=m7
 own:∀ j i:Nat,(bQ o wZ)->∃ h,i<k/\(aF hs h)/\∃ n,(oQ).j=j/\∀ m,m<n->(Ub,(wG m).j)
 has:∀ i:Nat,i<k->∃ j:Nat,bQ o wZ
 inj:∀ j j' i:Nat,(bQ o wZ)->(dX o j' wZ)->j=j'
theorem xc9 {o:Own}{j:Nat} (h:j<o.size) (d:dc Nat):bQ o (o.getD j d):=by
 rw[Jf h];simp[Qv,h]
theorem Lay.room {mask k:Nat}{hs:iI}{o:Own} (Y:Lay mask hs k o) (lt:k<=mask):∃ s,s<=mask/\(cS,xb9 o s):=by
 refine Yy sy;have all:∀ s:Nat,s<m7->∃ i:Nat,dX o s wZ:=fun s hs=>by
  have z:xb9 o s≠false:=(aA,c ⟨s,aa,z⟩);have g:=xc9 (o:=o) (j:=s) (aD Y.sz hs) uJ;unfold xb9 at z;cases e:o.getD s uJ with
  | none=>rw[e] at z; ext j4 z
  | some i=>show(aO,i,cA g e)
 have nd:((Zx m7).map fun s=>(o.getD s none).getD 0).Nodup:=by
  rw[Y3,ZU];refine Yu.imp_of_mem (Rg,ne,ne ?_) List.nodup_range;obtain⟨i,hi⟩:=all a (ZS.mp ha);obtain⟨i',hi'⟩:=all b (ZS.mp hb);rw[C7 ha] at hi;rw[C7 hb] at hi';show(af,e1,ZH.inj hi,e2,ZH.inj hi');rw[e1,e2] at e;ext ut i i' e;refine Y.inj a b i ?_ ?_
  .rw [C7 ha,e1]
  .rw [C7 hb,e2]
 have:=nd.length_le_of_subset (l₂:=Zx k) fun i hi=>by
  ext eG s hs' hi;obtain⟨i,hi⟩:=all s (ZS.mp hs');obtain⟨_,ik,_⟩:62:=Y.own s i hi;rw[C7 hs'] at hi;rw[ZH.inj hi];exact ZS.mpr ik
 rw[Za,ZX,ZX] at this;omega
theorem Lay.more {mask k:Nat}{hs:iI}{o:Own} (mk:K0) (Y:Lay mask hs k o) (lt:k<=mask) {h:Int} (hk:dX hs k h) :
    ∃ j,(qC,layClean.free mask o EJ mM Ae,j,Lay mask hs cL yd):=by
  show(ae,s,sm,st,Y.room lt);show(ae,r,hr,e,xoc mk h s sm);obtain⟨n,_,f1,f2,f3⟩:64:=xj2 mask h o EJ 0 (ba,r,fP,aa,aD e st);generalize hj:(oQ).j=j at *;have jl:j<o.size:=by
    refine Yy sy;unfold xb9 at f2;show(cH,show zgi=some 0 by simp[Qv,c],f2)
  have oj:bQ o none:=by
    rw[xc9 jl uJ];unfold xb9 at f2;revert f2;cases zgi<;>simp
  have new:bQ yd CF:=bF jl
  show(bw,old,∀ j':Nat,j'≠j->yd[j']?=o[j']?,j',ne,Array.getElem?_setIfInBounds_ne (fun z=>ne z.symm));have sz:(yd).size=o.size:=aj
  have tk:∀ s,(Ub s)->xb9 yd s=true:=fun s hs=>by
    ext jc s j
    . subst c
      unfold xb9;show(jZ,g,xc9 (o:=o.setIfInBounds s CF) (j:=s) (aD sz jl) uJ,new);rw[<- ZH.inj g];rfl
    . unfold xb9 at *
      rw[QF,old s c,<- QF];exact hs
  refine⟨j,f1,⟨aD sz Y.sz,aL j' i hi,au i hi,bC a b i ha hb⟩⟩
  . ext jc j' j
    . subst c
      ext bA new hi hi;exact(ba,h,Qw _,hk,⟨n,hj,fun m hm=>tk _ (f3 m fP hm)⟩)
    . rw[old j' c] at hi
      obtain⟨h',a,b,⟨n',d,q⟩⟩:63:=Y.own j' i hi;exact ba h' aa b ⟨n',d,fun m hm=>tk _ (q m hm)⟩
  . rcases YV i k with z|z
    . obtain⟨j',hj'⟩:=Y.has i z
      have ne:j'≠j:=fun q=>by rw[q,oj] at hj'; cases hj'
      show(aO,j',(aD,old j' ne,hj'))
    . have:i=k:=aa
      ext qF;ext aO j new
  . have key:∀ j' i:Nat,(o9,j',j,dX yd j' wZ,i<k):=fun j' i ne hi=>by
      rw[old j' ne] at hi;obtain⟨_,a,_⟩:62:=Y.own j' i hi;exact a
    by_cases ca:a=j<;>by_cases cb:b=j
    . rw[ca,cb]
    . rw[ca,new] at ha
      cases ha;show(wC,key b k cb hb)
    . rw[cb,new] at hb
      cases hb;show(wC,key a k ca ha)
    . rw[old a ca] at ha
      show(cJ,old b cb,hb,Y.inj a b i ha hb)
theorem Lay.nil {mask:Nat}{hs:iI}:Lay mask hs 0 (Array.replicate m7 none):=by
 refine⟨aj,aL j i h,(qL,absurd h zca),cu a b i h⟩
 .show(gM,Array.getElem?_replicate);split at h<;>simp at h
 .show(gM,Array.getElem?_replicate);split at h<;>simp at h
theorem xuy {mask:Nat} (mk:K0) (hs:Array Int) (le:hs.size<=mask):∃ o,(qC,layClean mask hs,o,zfb hs.size o):=by
  unfold layClean;rw[<- Array.foldl_toList];have key:∀(n:Nat) (l:iI) (k:Nat) (o:Own),hs.toList.drop k=l->(zfb k o)->k+l.length=hs.size->∃ o',l.foldl (fun acc h=>do
      let (owner,k) <- acc
      let j <- layClean.free mask owner EJ mM Ae
      pure (owner.setIfInBounds j CF,cL)) (some (o,k))=some (o',hs.size)/\(zfb hs.size o'):=by
    intro _ l
    induction l with
    | nil =>
      intro k o _ Y e;rw[List.length_nil,Nat.add_zero] at e;ext dw;ext qJ o Y
    | cons h l ih =>
      intro k o d Y e;rw[ZG] at e;have hk:dX hs.toList k h:=by
        have:=congrArg (·[0]?) d;ext lA
      show(ae,j,f,Y',Y.more mk aa hk);show(ae,o',q,Y2,ih cL yd (by rw[<- List.drop_drop,d]; rfl) Y' aa);show(cR,o',?_,Y2);rw[List.foldl_cons];rw[<- q]
      congr 1
      show (do let j <- layClean.free mask o EJ mM Ae; pure (yd,cL))=_;rw[f];rfl
  show(ae,o,q,Y,key 0 hs.toList 0 _ rfl Lay.nil aj);show(aJ,o,d7 q,Y)
theorem xnj {mask i:Nat} (h:i<=mask):zej<=mask:=by
 unfold runEnd;ext iG
theorem xn5 (mask:Nat) (h:Int):∀ n,(oQ).j+(oQ).more<=mask
 | 0=>by
  show mM+((LJ mM)-mM)<=mask;have:mM<m7:=Nat.mod_lt (bits h) (Nat.succ_pos mask);show(Ac,xio mask mM,xnj (mask:=mask) (i:=mM) aa)
 | gP=>by
  have ih:=xn5 mask h n;show (zgd).j+(zgd).more<=mask;unfold adv;split
  .show (oQ).j+1+((oQ).more-1)<=mask;omega
  .show GL+((LJ GL)-GL)<=mask;have l:GL<m7:=Nat.mod_lt _ (Nat.succ_pos mask);generalize GL=i at *;show(Ac,xnj (mask:=mask) (i:=i) aa,xio mask i)
theorem xqo (mask:Nat) (h:Int) (n:Nat):(oQ).j<=mask:=by
 show(bZ,xn5 mask h n)
theorem xmq {α β:Type}{f:zgj}{g:α->β}:∀{l:cT},(∀ x∈l,f x=some (g x))->l.filterMap f=l.map g
 | [],_=>rfl
 | x::l,h=>by
  rw[JI,h x gE,xmq zgg];rfl
theorem xx4 {mask:Nat} (mok:K0) (es:wx) (le:es.size<=mask) (finger moves:Nat) (led plain:Bool) :
    ∃ t' order L',laid mask finger moves led plain (es.map (·.1))=some (t',order)/\(L'.map (·.2)).Perm es.toList/\Tab t' (order.filterMap (es[·]?)) L'/\t'.mask=mask/\(bc,t'.led,led,t'.moves=moves,t'.plain=plain):=by
  obtain⟨o,eo,Y⟩:62:=xuy mok (es.map (·.1)) (aD Array.size_map le);rw[Array.size_map] at Y;have live_mem:∀ j k,(j,k)∈((Zx m7).filterMap fun j=>(Rx).map (j,·))↔(bQ o CF):=fun j k=>by
    rw[Jl];constructor
    . ext rh a ha e
      rw[Zh] at e;ext zR k' e;cases e2;rw[C7 ha,e1]
    . intro e
      have jl:j<m7:=by
        show(m8,Y.sz,(YS.mp e).1)
      refine(fJ,j,ZS.mpr jl);rw[xc9 (aD Y.sz jl) none] at e;rw[ZH.inj e];rfl
  have srt:(((Zx m7).filterMap fun j=>(Rx).map (j,·)).map (·.1)).Pairwise (·<·):=by
    rw[List.map_filterMap,List.pairwise_filterMap];refine List.pairwise_lt_range.imp fun {a b} ab x hx y hy=>?_;simp only[Option.map_map,Zh] at hx hy;obtain⟨_,_,rfl⟩:62:=hx;obtain⟨_,_,rfl⟩:62:=hy;exact ab
  have snd2:(((Zx m7).filterMap fun j=>(Rx).map (j,·)).map (·.2)).Nodup:=by
    rw[Y3,ZU];have p1:=ZU.mp srt;refine Yu.imp_of_mem (Rg lt ?_) p1;obtain⟨j,k⟩:=a;obtain⟨j',k'⟩:=b;ext ut k k' e;have:=Y.inj j j' k ((live_mem j k).mp ha) ((live_mem j' k).mp hb);have lt:j<j':=lt;omega
  generalize hl:((Zx m7).filterMap fun j=>(Rx).map (j,·))=live at *;have kl:∀ jk∈live,jk.2<es.size:=fun jk h=>by
    obtain⟨_,a,_⟩:62:=Y.own jk.1 jk.2 ((zac).mp h);exact a
  refine⟨106,{ mask,place:=(live.map (·.1)).toArray,dummies:=#[],finger,led,moves,plain },(live.map (·.2)).toArray,zoM,?_,?_,?_,rfl,rfl,kL⟩
  . unfold laid
    rw[eo];show some _=some _;rw[hl]
  . have pr:(live.map (·.2)).Perm (Zx es.size):=by
      refine (List.perm_ext_iff_of_nodup snd2 List.nodup_range).mpr (c8 k);rw[ZS,Zg];constructor
      . show(rh,jk,h,rfl)
        exact kl jk h
      . intro h
        obtain⟨j,hj⟩:=Y.has k h;show(xS,(j,k),(live_mem j k).mpr hj)
    have e1:(zoM).map (·.2)=(live.map (·.2)).map fun k=>zuQ:=by
      rw[Z0,Z0];rfl
    have e2:es.toList=(Zx es.size).map fun k=>zuQ:=by
      ext WI;have h3:i<es.size:=nU
      simp[Qv,h3]
    rw[e1,e2];exact pr.map _
  . refine⟨?_,?_,?_,rfl,mok,au e he,au e he⟩
    . rw[Z0]
      rfl
    . rw[Z0,Array.toList_filterMap,List.toList_toArray,QK]
      have:∀ jk∈live,((es[·]?)∘fun x:Nat × Nat=>dH) jk=some NR:=fun jk h=>by
        show es[jk.2]?=_;rw[Jf (kl jk h)];simp[Qv,kl jk h]
      rw[xmq this];rfl
    . ext aK Z0 srt
    . ext eG jk h he
      have:=(YS.mp ((zac).mp h)).1;show(qH,Y.sz);show jk.1<=mask;omega
    . ext eG jk h he
      obtain⟨hh,a,b,⟨n,c,d⟩⟩:63:=Y.own jk.1 jk.2 ((zac).mp h);have eh:(NR).1=hh:=by
        rw[Jk,Array.getElem?_map,Jf a] at b;have:=ZH.inj b;simp[Qv,a];exact this
      show ∃ n,(way mask (NR).1 n).j=jk.1/\_;rw[eh];show(cR,n,c,au m hm);show(af,tk,d m hm,wl,xqo mask hh m);show OI∈_;unfold xb9 at tk;have g:=xc9 (o:=o) (j:=OI) (ou Y.sz) uJ;cases e:o.getD OI uJ with
      | none=>ext cH e tk
      | some k =>
        rw[e] at g;show(Ff,Z0,(dk,(OI,k),(live_mem _ _).mpr g))
#check XS
namespace XS
open PySem PySem.Spec PySem.SetTable
section
variable {prog:Program}{w:World}{K:Type} [DecidableEq K] {knd:KeyKind prog w K}{A:Around}{E:Value->Shared->Prop}{s:Shared}
theorem xm4 (n:Nat) {v:Value} (h:NW):ofAClassStatement n v=pure false:=by
 cases v with
 | ref a=>simp[carriedByValue] at h
 | _=>first|rfl|simp[ofAClassStatement]|(unfold ofAClassStatement; rfl)
theorem xki {ks:qD}{a:Addr}{Q:oz} (hk:qm ks a) (h:TK):wpAny aR A (ofAClassStatement 8 aB) Q E s:=by
 have hT:=hk.typeIs;obtain⟨o,items,n,ho,hc,hd,hi⟩:104:=hk;unfold ofAClassStatement;show(br,wpAny_typeOf_ref ho ?_);rw[hc];show wpAny _ _ ((cM,"tuple" == "tuple",pure true,isSubtype (.type "tuple") zfm)>>=_) _ _ s;rw[aC ao];ext vI;ext yx WE;ext zsk;simp only[];show(zqh,wpAny _ _ (forIn items _ _) _ _ s,Wc _ (znN,∀ v∈rest,NW) _ ?_ ?_ _ _ (Ai hi.byValue))
 .rintro v rest r s' (⟨hr,rfl,hall⟩:43);rw[xm4 _ (hall v Zm)];ext vI;ext vt;exact Zk (Ai zoH)
 .ext ziz
theorem xwv {ks:qD}{a:Addr}{Q:oz}{stored:aQ} (hk:qm ks a) (hs:∀ y∈stored,Xb) (h:TK):wpAny aR A (searchCouldBeSeen aB stored) Q E s:=by
 unfold searchCouldBeSeen;ext Cl;refine Wc _ (znN,∀ y∈rest,Xb) _ ?_ ?_ _ _ (Ai hs)
 .rintro y rest r s' (⟨hr,rfl,hall⟩:43);show(iF,ks',b,rfl,hb,hall _ Zm);show(bw,nx,∀ u∈rest,∃ ks' b,u=cW/\(tN s'.heap ks' b),u,hu,hall u (Zi _ hu));simp only[];by_cases c:(FT||carriedByValue aB&&carriedByValue cW)=true
  .rw [aC c];exact Zk (Ai nx)
  .ext ib c;ext zoy hk;ext zoy hb;show(br,xki hk ?_);ext vt;show(br,xki hb ?_);ext vt;exact Zk (Ai nx)
 .ext ziz
#check _
section
variable {prog:Program}{w:World}{K:Type} [DecidableEq K] {knd:KeyKind prog w K}{A:Around}{E:Value->Shared->Prop}{s:Shared}
noncomputable def xgg (es:wx) (i:Nat):Int:=(es[i]?.map (·.1)).getD 0
theorem xmd {d a:Addr}{o:Obj}{es:wx}{ep:Nat}{t:SetTable}{L:Lo}{k:qD}{Q:dU SetFound} (T:mC) (ho:nO) (hd:Hb) (hf:zsZ)
    (hu:RG) (hk:qm k a) (keys:ziL)
    {n0:Nat} (he:pQ (vA n0)) (hn0:n0<OK)
    (yes:(∃ e∈L,∃ b,(b6 e)=cW/\(qm k b))->Q (.there none) s)
    (no:∀ m,(pQ (vA m))->(∀ i,i<m->(vA i)∈L.map (·.1))->(∀ e∈L,zog)->Q (.free (vA m) false) s) :
    ∀(fuel n:Nat) (stand:dc Probe),n0-n<fuel->n<=n0->stand.getD (t.probeStart nT)=(Pb n)->(∀ i,eF->(Vp (vA i))) ->
      wpAny aR A (setSearchFrom d aB nT true fuel stand) Q E s
  | 0,n,stand,h,_,_,_=>aa
  | fuel+1,n,stand,hfu,hn,hst,past=>by
    unfold setSearchFrom;show(br,YN ho hd hf ?_);simp only[];have odd:t.gaveWay=false:=by
      unfold gaveWay;rcases T.mok with e|e<;>rw[e]<;>decide
    rw[odd];ext vt;show(b9,m,nm,pas,cse,xlx T.up T.dm (xgg es) nT OK n (ba n0 hn aa he));have mn:m<=n0:=by
      refine We lM;show(fD,i,e,pas n0 hn z);ext cH he e
    have seen:∀ i,i<m->(Vp (vA i)):=fun i hi=>by
      rcases YV i n with z|z
      . exact past i z
      . show(zR,j,pas i z hi)
        show(ae,e,e3,e4,T.live.mp e1);refine(bv,j,e,e1,e3,fun q=>absurd ?_ e2);unfold xgg;show(cD,T.es_,e3,q)
    have inL:∀ i,i<m->(vA i)∈L.map (·.1):=fun i hi=>by
      show(MD,j,e,e1,e3,seen i hi);show(ae,e',e4,e5,T.live.mp e1);exact Zg.mpr ⟨e',Zn e4,e5⟩
    rw[hst];have pr:∀ met,probe.go t (xgg es) nT OK (Pb n)=some met->t.probe (xgg es) nT (toP (way t.mask nT n))=some met:=fun _ e=>e;rcases cse with⟨pe,emp⟩|⟨i,pc,liv,hi⟩
    . split
      . ext zlQ pe;refine Zk (no m emp inL (bC e hel b eb isk));obtain⟨k',b',h1,h2,h3⟩:83:=keys e hel;have:k'=k:=by
          ext bA eb h2 h2;exact h3.inj isk
        ext qF;exact T.absent emp (P:=fun v=>∃ b,v=cW/\(qm k' b)) (fun i hi j e1 l1 l2 l3 ⟨b1,l4,l5⟩=>by
          obtain⟨j2,e2,x1,x2,x3⟩:83:=seen i hi;ext bA l1 x1 x1;ext bA l2 x2 x2;exact x3 l3 b1 l4 l5) e hel h1 ⟨b,eb,isk⟩
      . ext ztA pe
    . show(ae,e,le,ej,T.live.mp liv)
      obtain⟨k',b,h1,h2,h3⟩:83:=keys e (Zn le);obtain⟨pp,hv,v⟩:=e;ext ja h2 v cW h2;have ei:aF es (lq hv b):=kN T.es_ le
      have sm:t.sameMemory t.moves t.mask=some true:=by
        unfold sameMemory;rw[if_pos (beq_self_eq_true _)]
      show(nA,mne,m,n0,qW he liv)
      have nxt:k'≠k->∀ i',i'<m+1->(Vp (vA i')):=fun c i' hi'=>by
        rcases YV i' m with z|z
        . exact seen i' z
        . ext Fv i' m;show(o5,(bv,i,_,liv,le,fun _ b2 eb isk=>c ?_),eb,Zs b=Zs b2,eb);cases eb;exact h3.inj isk
      have stk:∀ y∈(List.map (fun x:zfu=>x.snd) (Array.filter (j8,x.fst == nT) es).toList),Xb:=fun y hy=>by
        ext eG x hx hy;rw[Array.toList_filter,T.el] at hx;show(eG,e',he',qv hx);obtain⟨k2,b2,_,x2,x3⟩:83:=keys e' he';exact bK k2 b2 x2 x3
      split
      . ext zlQ pc;refine wpAny_ite_split (fun _=>Zc (xwv hk stk ?_)) (fun _=>?_)
        . ext vt
          ext zhK
          . ext zhD
          . show(zhh,xmd T ho hd hf hu hk keys he hn0 yes no fuel (m+1) (some (Pb (m+1))) aa aa rfl (nxt c))
        . skip
          ext zhK
          . ext zhD
          . show(zhh,xmd T ho hd hf hu hk keys he hn0 yes no fuel (m+1) (some (Pb (m+1))) aa aa rfl (nxt c))
      . ext ztA pc
#check _
theorem Tab.plainly {t:SetTable}{es:wx}{L:Lo} (T:mC) (b:Bool):Tab { t with plain:=b } es L:=⟨T.pl,T.el,T.srt,T.dm,T.mok,T.bd,T.rc⟩
theorem Tab.fits {t:SetTable}{es:wx}{L:Lo} (T:mC) (le:O6):zsZ:=by
 unfold SetTable.fits fill;rw[UP,zx,T.dm];simp;exact le
section
variable {prog:Program}{w:World}{K:Type} [DecidableEq K] {knd:KeyKind prog w K}{A:Around}{E:Value->Shared->Prop}{s:Shared}
theorem xpi (n:Nat) {v:Value} (h:NW):∃ b,hashByValue n v=pure b:=by
 cases v with
 | ref a=>simp[carriedByValue] at h
 | _=>cases n<;>exact(gF,by unfold hashByValue; rfl)
theorem xmh {ks:qD}{a:Addr}{Q:oz} (hk:qm ks a) (h:∀ b,Q b s):wpAny aR A (hashByValue 8 aB) Q E s:=by
 have hT:=hk.typeIs;obtain⟨o,items,n,ho,hc,hd,hi⟩:104:=hk;unfold hashByValue;show(br,wpAny_specialOf hT F.slot_tuple_hash.lookup ?_);show wpAny _ _ (seqItems? aB>>=_) _ _ s;ext zsk;show(zqh,wpAny _ _ (forIn items _ _) _ _ s,Wc _ (fun rest r s'=>s'=s/\∀ v∈rest,NW) _ ?_ ?_ _ _ (dC hi.byValue))
 .rintro v rest r s' ⟨rfl,hall⟩;obtain⟨b,eb⟩:=xpi 7 (hall v Zm);rw[eb];ext vI;cases b with
  | true =>
   ext yx WE;exact Zk (dC zoH)
  | false =>
   simp only[Bool.not_false,if_true];exact Zk (Zk (h _))
 .rintro ⟨r1,r2⟩ s' ⟨rfl,_⟩;cases r1 with
  | none=>exact Zk (h _)
  | some b=>exact Zk (h _)
theorem xkj {h h':Heap}{ks:qD}{a d:Addr}{o:Obj}{es ep t} (x:tN h ks a) (ho:vm) (hd:Hb) (hs:Jn d h h'):tN h' ks a:=by
 obtain⟨o',items,n,ho',hc,hd',hi⟩:104:=x;have hne:a≠d:=by
  rintro rfl;show(cX,o'=o,ZH.inj (ho'.symm.trans ho));show(cJ,hd,hd',nomatch hd')
 exact⟨104,o',items,n,(hs.2 a hne).trans ho',hc,hd',hi⟩
noncomputable def SetT (knd:KeyKind prog w K) (h:Heap) (d:Addr) (xs:yJ):Prop:=∃ o es ep t L,vm/\o.ExactSet/\Hb/\mC/\(L.map (·.2)).Perm (xs.map fun x=>(lq,zfM aZ,dH))/\(∀ x∈xs,(tN h aZ dH))/\((t.mask=7/\L.length<=4)\/(t.mask=31/\L.length<=18))
theorem SetT.nil {h:Heap}{d:Addr}{o:Obj}{ep fg mv:Nat}{led:Bool} (ho:vm) (hex:o.ExactSet) (hd:o.data=.set #[] ep (.fresh fg mv led)):wH h [] :=
 (gu,o,#[],ep,_,⟨66,[],ho,hex,hd,⟨rfl,rfl,Yu.nil,rfl,eZ,jP,jP⟩,YK.refl _,⟨jP,.inl (dC fP)⟩⟩)
theorem stored {h:Heap}{d:Addr}{o:Obj}{es:wx}{ep:Nat}{t:SetTable} (ho:vm) (hd:Hb) (es':wx) (t':SetTable) :
    (h.update d (Wk es' t')).get? d=some { o with data:=.set es' (ep+1) t' }:=by
  have:=JJ (Wk es' t') ho (d7 zus);ext KM zus
theorem xpr {d:Addr}{o:Obj}{es:wx}{ep:Nat}{t:SetTable}{L:Lo}{Q:wp} (T:mC) (le:O6) (l5:L.length=5) (ho:nO) (hd:Hb)
    (h:∀ es' t' L',(L'.map (·.2)).Perm (L.map (·.2))->(bq,Tab t' es' L',t'.mask=31,L'.length=5,(DY,(),s.heap.update d (Wk es' t')))) :
    wpAny aR A (setRelay d (SetTable.grown 5)) Q E s:=by
  unfold setRelay;show(br,YN ho hd (T.fits le) ?_);simp only[];have sa:SetTable.sizeAbove (SetTable.grown 5)=32:=ao
  rw[sa];have nl:¬ (32>sizeLine):=ao
  rw[ay nl];obtain⟨t',order,L',e1,pm,T',mk,_⟩:105:=xx4 (mask:=31) Fq es (by rw[zx,l5]; decide) t.finger (t.movedTo 31) t.led t.plain;have rl:t.relaid (es.map (·.1)) (SetTable.grown 5)=some (t',order):=by
    unfold relaid;ext aK sa e1
  rw[rl];have l':L'.length=5:=by
    ext zgN;rw[Za,T.el,Za,l5] at this;exact this
  have sz:(order.filterMap (es[·]?)).size=es.size:=by rw[T'.size.2,zx,l',l5]
  ext Cl;show wpAny _ _ (if (order.filterMap (es[·]?)).size != es.size then _ else _) _ _ _;rw[ay (mG sz)];ext ur;have pm2:(L'.map (·.2)).Perm (L.map (·.2)):=by
    show(m8,T.el,pm)
  exact wpAny_storeSet_of ho hd (h _ _ L' pm2 T' mk l') (by rw[sz,zx,l5]; decide)
theorem add {d a:Addr}{k:qD}{xs:yJ}{Q:oz} (hu:RG) (S:wH s.heap xs) (hk:qm k a) (small:xs.length<18)
    (yes:k∈xs.map (·.1)->TK) (no:k∉xs.map (·.1)->(La zdA (wH h' zgk) true lv)) :
    wpAny aR A (setAddHashed d aB nT) Q E s:=by
  obtain⟨o,es,ep,t,⟨L,ho,hex,hd,T,pm,ks,cap⟩⟩:121:=S;have ll:L.length=xs.length:=by
    ext zgN
    rwa [Za,Za] at this
  have le:O6:=aa
  have lt:L.length<t.mask:=aa
  have hf:=T.fits le;unfold setAddHashed setAddHashedIn;refine ZZ (Zc (YN ho hd hf ?_));simp only[];have nb:byScan aB es=false:=rfl;rw[nb];ext vt;show(ae,n0,hn0,he,T.some_free le (tupleKeyHash knd k));have keys:ziL:=fun e hel=>by
    have m:=Ou (dk e hel);ext Ak x hx ex m;refine(bv,aZ,dH,?_,?_,ks x hx)
    . rw[<- ex]
    . rw[<- ex]
  have n100:n0<100000:=by
    refine Z5 hn0 ?_;unfold turns;rcases T.mok with e|e<;>rw[e]<;>decide
  show(br,(xmd T ho hd hf hu hk keys he hn0 (c8 hy) (cu m em inL nk) 100000 0 none aa fP rfl (iy,hi,absurd hi zca)))
  . simp only[]
    refine Zk (yes ?_);obtain⟨e,hel,⟨b,eb,isk⟩⟩:62:=hy;have mm:=Ou (dk e hel);ext Ak x hx ex mm;have:dH=b:=by
      rw[<- ex] at eb;have eb:Zs dH=Zs b:=eb;injection eb
    show(jZ,kx,ks x hx,this);show(Ff,isk.inj kx,Tv)
  . simp only[]
    have nin:k∉xs.map (·.1):=fun z=>by
      ext eG x hx z;have mm:=pm.mem_iff.mpr (Zg.mpr Tv);ext Ak e hel ee mm;exact nk e hel dH (dF ee) (ks x hx)
    show(br,YN ho hd hf ?_);simp only[];show(b9,L',pm',T',mk',T.add (x:=aB) em inL (xqo _ _ _));generalize hput:t.put (vA m)=tp at *;obtain⟨t1,p1⟩:=tp;simp only[] at *;have l1:L'.length=L.length+1:=by
      have:=pm'.length_eq
      rwa [ZG] at this
    have pm2:(L'.map (·.2)).Perm ((zgk).map fun x=>(zfM aZ,Zs dH)):=by
      rw[Zq];have q1:(L'.map (·.2)).Perm ((nT,o8)::L.map (·.2)):=pm'.map fun x:Row=>dH;exact q1.trans ((pm.cons _).trans (List.perm_append_singleton _ _).symm)
    have kk:∀ h',zdA->∀ x∈zgk,(tN h' aZ dH):=fun h' sb x hx=>by
      rcases UL with hx|hx
      . exact xkj (ks x hx) ho hd sb
      . show(aK,Zp.mp hx,xkj hk ho hd sb)
    generalize hes1:insertAt es p1 (nT,o8)=es1 at *;have fin:∀ t2:SetTable,Tab t2 es1 L'->t2.mask=t.mask->wpAny aR A (do storeSet d es1 t2; if (! false&&t2.tooFull)=true then do setRelay d (grown (es.size+1)); pure true else pure true) Q E s:=fun t2 T2 m2=>by
      show(br,(wpAny_storeSet_of ho hd ?_ (aD,T2.size.2,ZJ (aa:_<=1000) ao)));show(af,ho2,stored ho hd es1 t2,sb,Jn.update s.heap d (Wk es1 t2));have fl:t2.fill=L'.length:=by
        unfold fill;rw[T2.size.1,T2.dm];rfl
      by_cases c:t2.tooFull=true
      . rw[c]
        simp only[Bool.not_false,Bool.and_self,if_true];have c2:=c;unfold tooFull at c2;rw[fl,m2] at c2;have c2:=of_decide_eq_true c2;have l5:L'.length=5:=aa
        have e5:es.size+1=5:=ou zx
        rw[e5];show(br,xpr T2 aa l5 ho2 rfl fun es' t' L2 p2 T3 m3 l3=>?_);have sb2:=sb.trans (Jn.update (s.heap.update d (Wk es1 t2)) d (Wk es' t'));exact Zk (no nin _ sb2 (oE es' _ t' ⟨66,L2,stored ho2 rfl es' t',hex,rfl,T3,p2.trans pm2,⟨kk _ sb2,.inr (j0 m3)⟩⟩))
      . rw[Ji.mpr c]
        ext yx W0;refine Zk (no nin _ sb (oE es1 _ t2 ⟨66,L',ho2,hex,rfl,T2,pm2,(eS,kk _ sb)⟩));have c2:¬ (t2.fill*5>=t2.mask*3):=(aA,c (decide_eq_true z));rw[fl,m2] at c2;rw[m2];omega
    refine wpAny_ite_split (fun _=>Zc (xmh hk (c8 b))) (fun _=>Zc (Zk ?_))
    . cases b with
      | true=>exact fin t1 T' mk'
      | false=>exact fin _ (T'.plainly false) mk'
    . exact fin t1 T' mk'
#check _
#check XS
namespace XS
open PySem PySem.Spec PyProof.Rows
section
variable {K:Type} [DecidableEq K]
noncomputable def oneT (acc:yJ) (x:qD × Addr):yJ:=if aZ∈acc.map (·.1) then acc else BR
noncomputable def xbj (ky:FE) (ad:BI) (i:Nat):yJ:=((Zx i).map fun j=>(ky j,ad j)).foldl oneT []
theorem xdt (ky:FE) (ad:BI) (i:Nat):xbj ky ad aM=oneT vR (ky i,ad i):=by
 unfold xbj;rw[JM,Zq,QT];rfl
theorem xfq (ky:FE) (ad:BI):∀ i,∀ x∈vR,∃ j,j<i/\x=(ky j,ad j)
 | 0,x,h=>nomatch h
 | aM,x,h=>by
  rw[xdt] at h;unfold oneT at h;split at h
  .ext zmO
  .rcases Zw.mp h with h|h
   .ext zmO
   .exact ⟨i,aa,Zp.mp h⟩
theorem xih (ky:FE) (ad:BI):∀ i,(vR).length<=i
 | 0=>bo
 | aM=>by
  have ih:=xih ky ad i;rw[xdt];unfold oneT;split
  .omega
  .rw [Zr,Jg];omega
#check _
section
variable {pr:Program}{wd:World}{K:Type} [DecidableEq K] {knd:KeyKind pr wd K}
theorem SetT.move {h h':Heap}{d:Addr}{xs:yJ} (S:wH h xs) (g:∀ o,vm->h'.get? d=some o) (ks:∀ x∈xs,(tN h' aZ dH)):wH h' xs:=by
 obtain⟨o,es,ep,t,⟨L,ho,hex,hd,T,pm,_,cap⟩⟩:121:=S;exact gu o es ep t ⟨66,L,g o ho,hex,hd,T,pm,⟨ks,cap⟩⟩
theorem xh3 {h h':Heap}{k:qD}{a:Addr} (x:tN h k a) (g:∀ o,(lw o)->(Ib o)):tN h' k a:=by
 obtain⟨o,items,n,ho,r⟩:102:=x;exact⟨102,o,items,n,g o ho,r⟩
variable {ar:Around}{R:Result->Shared->Prop}{it:Addr}{fp wr:List Addr}{G:Array GenState->Array GenState->Prop}{n:Nat}{P:Nat->Value->Prop}{St:Nat->Shared->Prop}
theorem xm2 (wk:WalksS pr wd ar.in1 it fp wr G n P St) (d:Addr) (nd:d∉fp) (ky:FE) (ad:BI) (hv:∀ i v,P i v->v=.ref (ad i)) (far:∀ i,eF->ad i∉d::wr) (hu:ar.in1.units<cLine) (small:n<=18) :
    ∀(k i:Nat) (s:Shared),n-i=k->i<=n->St i s->(wH s.heap vR)->znH ->
      (∀ s2,zaF->(wH s2.heap (xbj ky ad n))->R (FK .none) s2) ->
      ziI:=by
  ext zhV;have kmv:∀{s s2:Shared},zaF->znH->(Xm s2.heap):=fun mv ks j hj=>xh3 (ks j hj) (CS,mv.heap _ _ (far j hj) e);have smv:∀{s s2:Shared}{i:Nat},(bj,i<=n,Moved wr G s s2,Xm s2.heap,wH s.heap vR,wH s2.heap vR):=fun hi mv ks S=>S.move (CS,mv.heap d _ nw e) fun x hx=>by
    show(lU,j,a,xfq ky ad _ x hx);exact ks j aa
  intro k
  induction k with
  | zero =>
    intro i s ek le st so ks fin;ext zlc;exact Zk (fin s2 IF (smv bo mv zsK so))
  | succ k ih =>
    intro i s ek le st so ks fin;have lt:eF:=aa
    show(U4,wk.item i s _ _ lt st zum);show(nB,hv i v pv);show(af,ks2,zsK,so2,smv le mv ks2 so);show(znv,wpAny _ ar.in1 (holding [Zs (ad i)] (setAdd d (.ref (ad i)))>>=_) _ _ s2,wpAny_pyHash_tuple hu (ks2 i lt) ?_);show(cC,rm,(vR).length<18,(gg,xih ky ad i),add (s:={ s2 with toks:=s2.toks+((ky i).length+1) }) hu so2 (ks2 i lt) rm (c8 hin) (cu nin h2 sb so3))
    . have e1:xbj ky ad aM=vR:=by
        rw[xdt];exact if_pos hin
      show(V6,ih aM _ aa lt (wk.frame _ s2 _ _ st2 (Qx _ _) fun b z o e=>e) (aD e1 so2) ks2 zcO);exact fin s3 (zax ((IF).then_heap (Qx _ _) (lK z e))) so5
    . have e1:xbj ky ad aM=vR++[(ky i,ad i)]:=by
        rw[xdt];exact if_neg nin
      have ks3:Xm h2:=fun j hj=>xh3 (ks2 j hj) fun o e=>by
        show(aK,sb.2 _ (fun e2:ad j=d=>far j hj (e2▸Zm)),e)
      show(V6,ih aM _ aa lt (wk.frame _ s2 _ _ st2 (Qx _ _) fun b z o e=>?_) (aD e1 so3) ks3 zcO)
      . show(aK,sb.2 b (fun e2:b=d=>nd (e2▸z)),e)
      . refine fin s3 (zax ((IF).then_heap (Qx _ _) (lK z ?_))) so5
        show(aK,sb.2 b (fun e2:b=d=>z (e2▸Zm)),e)
#check _
#check XS
namespace XS
open PySem PySem.Spec PyProof.Rows XL
section
variable {pr:Program}{wd:World}{K:Type} [DecidableEq K] {knd:KeyKind pr wd K}{ar:Around}{E:Value->Shared->Prop}{s:Shared}
theorem xif {l:Addr}{its:gS} (ky:FE) (ad:BI) {Q:aT} (hd:ar.handled=none) (hu:ar.in1.in1.in1.units<cLine) (hl:zuH) (hi:∀(i:Nat) (v:Value),(aF its v)->v=.ref (ad i)) (hk:∀ i,i<its.size->(qm (ky i) (ad i))) (small:its.size<=18)
    (h:∀(h2:Heap) (tk:Nat),zjO->OL->Q ie (iA h2)) :
    wpAny zgy ar zry Q E s:=by
  show(zgR,wpAny _ _ zrw _ _ _)
  repeat (any_goals (first|ext cQ|ext ef))
  ext zhe;cases r with
  | error e=>exact hr
  | ok fl =>
    cases fl with
    | ret ob =>
      show(lU,led,rfl,hr);have g0:(tu).get? s.heap.objs.size=some Gq:=gc;have ty0:Shared.TypeIs zbf ie "set":=cP g0
      ext zmq
      repeat (any_goals (first|ext cQ|ext ef))
      refine YU (W2 (R:=wants (fun r s2=>r=.none/\∃ h2 tk,bc s2 (iA h2) zjO OL) E) JD.init.plain F.entry_set_init zrK) (aL r2 s2 hr2)
      . obtain⟨ol,gl,cl,⟨nl,dl⟩⟩:63:=hl
        ext zoI;ext zun;have gl1:(tu).get? l=some (NL,odict,.seq its nl,oslots):=Ze _ gl;ext zhS
        have l1:(tu).IsList l its:=(wQ,gl1,fc nl)
        unfold Builtin.«set.__init__» noKeywords Builtin.Frozenset.updateFrom;generalize ePI:pyIter=PI
        wp_walk
        subst ePI;refine QP l1 (Zc (wpAny_runValue ?_));have ll:l<s.heap.objs.size:=Zv gl;have h3:ar.in1.in1.in1.handled=none:=by simp[hd]
        have n1:l≠(s.heap.push { cls:=.type "set",dict:=none,data:=.set #[] 0 (.fresh 0 0 led) }).objs.size:=by
          ext zuB
        have n2:s.heap.objs.size∉[zfq,l]:=by
          show(M0,Tn,Qj ll)
        have kl:∀ i,i<its.size->(nY,ad i):=fun i hi'=>by
          obtain⟨o',_,_,ho',_⟩:102:=hk i hi';exact Zv ho'
        refine xm2 (knd:=knd) znL s.heap.objs.size n2 ky ad hi (au i hi') hu small (its.size-0) 0 _ aa fP ⟨vT,(l1.push _)⟩ ?hS (fun j hj=>xh3 (hk j hj) (CS RL)) ?hE
        . have:=kl i hi'
          show(M0,ZD this,ZD (Z5 this (JO _)))
        case hS =>
          have g1:((tu).push (eg,"list_iterator",.fields #[bH,ui])).get? s.heap.objs.size=some Gq:=Ze _ g0;exact SetT.nil g1 R3 rfl
        case hE =>
          ext zgT
      . cases r2 with
        | error e=>exact hr2
        | ok fl2 =>
          cases fl2 with
          | ret r =>
            obtain⟨rfl,h2,tk,rfl,so,kp⟩:=hr2
            repeat (any_goals (first|ext cQ|ext ef))
            exact h _ _ so kp
          | _=>exact hr2.elim
    | _=>exact hr.elim
#check _
#check XS
namespace L2
open PySem PySem.Spec PyProof.Rows XL XS
section
variable {K:Type} [DecidableEq K]
noncomputable def oneK (acc:Cf) (x:qD):Cf:=if x∈acc then acc else BR
noncomputable def xdz (xs:Cf):Nat:=IA oneK []
theorem xmz:∀(xs:yJ) (acc:yJ),(xs.foldl oneT acc).map (·.1)=(xs.map (·.1)).foldl oneK (acc.map (·.1))
 | [],acc=>rfl
 | x::r,acc=>by
  rw[List.foldl_cons,xmz r,Zo,List.foldl_cons]
  congr 1
  unfold oneT oneK;split
  .rfl
  .rw [Zq];rfl
theorem xpk (xs:Cf) (ad:BI):(zmH).length=xdz xs:=by
 unfold xdz;rw[<- Za (f:=(·.1)),show (zmH).map (·.1)=xs.foldl oneK [] from ?_];unfold xbj;rw[xmz,Z0]
 congr 1
 ext WI;simp[Zb h2]
theorem xnh:∀(xs acc:Cf),zit oneK
 | [],acc=>aj
 | x::r,acc=>by
  have le:∀(xs acc:Cf),(IA oneK acc)<=acc.length+xs.length:=by
   intro xs
   induction xs with
   | nil=>intro acc; exact Zj _
   | cons x r ih =>
    intro acc;refine ZJ (ih _) ?_;rw[ZG];unfold oneK;split
    .omega
    .rw [Zr,Jg];omega
  show ((r.foldl oneK (oneK acc x)).length=_)↔_;rw[ZG,Z8];by_cases hx:x∈acc
  .rw [(cU,oneK acc x,acc,aC hx)];constructor
   .intro z
    show(bZ,le r acc)
   .intro z
    exact absurd hx (z.1 x gE)
  .rw [(cU,oneK acc x,BR,ay hx)];have ih:=xnh r BR;rw[Zr,Jg] at ih;ext ziW ih
   .ext zmf;rcases dI hy with rfl|hy
    .exact hx
    .exact (aA,h1 y hy (ZF _ z))
   .ext zlJ;rcases Zw.mp z with z|z
    .exact h1 y rW z
    .rw [wK] at hy;exact h2 hy
theorem xou {xs:Cf}:xdz xs=xs.length↔xs.Nodup:=by
 have:=xnh xs [];unfold xdz;ext lA
#check _
noncomputable def xs1 (K:Zf) (ta:TA):TE:=(zuO,∃(a:Addr) (qs:az) (kss:List d6),vs=fO/\(ax,SqL K H1 a A9,qs.length=kss.length,(∀(i:Nat) q ks,BE->(aF kss ks)->H1 q=some (.tup (ks.map kV))),qs.length<=18,Q (.int (cE,xdz kss)) H1))
section
variable {X:Cx}
theorem xpa {a:Expr}{ta:TA}{p p2 pos pos2:Pos} (hu:yc) (hc:fX) (hg:Gl X "len") (hm:qj "len") (hg2:Gl X "set") (hm2:qj "set") (ha:SG)
    (hs:SC:=by rfl) (hs3:(ED,[As],im As):=by rfl) :
    zmW (xs1 X.K ta):=by
  intro pins s Z H Q I h;show(zcI,PyProof.Rows.Boot.«len»);refine Q1 ?_ (d7 hs3) rfl;show(zdt,wpAny _ _ (Nm,im As) _ _ s);refine Call_ (xcr I hg2 hm2 PyProof.Rows.Boot.«set» (SL,ha pos2 pins s Z H _ I h,fun us s1 ⟨vs,H1,I1,r1,q1⟩=>?_));obtain⟨l,qs,kss,e,hq,hlen2,hks,hx,q⟩:106:=q1;show(zhr,qs.length,xif (knd:=ig) (jL,kss.getD i []) (jL,qs.getD i 0) gU ?hu pl.isList (o4 i v) (au i hi) (aD sz hx) (cu h2 tk so kp))
  case hu =>
    show X.A.units+1+1+1<cLine;omega
  . have e':its[i]?=some v:=by simpa using e
    have lt:i<qs.length:=by
      show(bZ,ir e')
    obtain⟨v',hv',rv'⟩:62:=rv.get (i:=i) (x:=V.ref qs[i]) (by rw[Zd,Zb lt]; rfl);rw[e'] at hv';cases hv';show(cX,v=Zs qs[i],rv');simp[iw]
  . rw[sz] at hi
    have hi2:i<kss.length:=aa
    have:=xde (P:=X.prog) (w:=X.w) I1.hok (hks i qs[i] kss[i] (Zb hi) (Zb hi2));have e1:kss.getD i []=kss[i]:=(bF,Zb hi2)
    have e2:qs.getD i 0=qs[i]:=(bF,Zb hi)
    show IsTupleKey ig s1.heap (kss.getD i []) (qs.getD i 0);ext cD e1 e2 this
  ext zhI hlen2;obtain⟨o,es,ep,t,⟨L,ho,hex,hd,T,pm,_,cap⟩⟩:121:=so;have ll:es.size=xdz kss:=by
    ext zgN;rw[Za,Za,xpk] at this;rw[zx,this]
  refine call_len_set ho hex hd (T.fits aa) ?_ (bv,.int (cE,xdz kss),H1,I2.tok _,⟨tk+1,dF ll⟩,q);rw[zx];omega
#check _
#check L2
namespace L2
open PySem PySem.Spec PyProof.Rows
#check L2
namespace L2
open PySem PySem.Spec PyProof.Rows XL PySem.W
theorem xk2 {prog:Program}{w:World}{A:Around}{E:aT}{s:Shared}{it d:Addr}{i ep:Nat}{o:Obj}{es:jQ}{en:DictEntry}{ok ov:Value}{Q:zG}
    (st:IsItemIter s.heap it d i es.size ep ok ov) (hd:nO) (hdat:jO) (hi:aF es en)
    (h:∀ h',(bj,IsItemIterOut h' it d aM es.size ep en.key en.val s.heap.objs.size,h'.get? s.heap.objs.size=some (Ro HN),h'.objs.size=fV,zcH ye,Q (bu s.heap.objs.size) lv)):wpAny aR A rL Q E s:=by
  ext zgW;have il:it<hp.objs.size:=Zv st;refine Zc <| Zk <| Zc <| Zc <| Zc <| Y7 hT <| Zk <| Zc <| wpAny_fieldsOf st rfl ?_
  simp only[show Builtin.Dict_items.ownsTuple "dict_itemiterator"=true from ao,if_true];show wpAny _ _ (cM (Zs d == JE) _ _) _ _ _;rw[ay (nu Z7)];refine Zc <| Zk <| Zc <| ZO hd hdat ?_
  rw[ay aj];refine Zc <| Zk <| Zc <| Jq hd hdat ?_
  rw[ay aj];ext ur;have e1:(if (i:Int)<0 then none else es[(i:Int).toNat]?)=some en:=by
    ext cD rT Y1 hi
  simp only[e1];refine Zc <| Zc <| Y7 hT <| Zk <| Zc <| YE hT ?_
  show wpAny _ _ (setField mS 3 (rawInt (dD+1))>>=_) _ _ _;refine Zc <| Qg st aj (aL h1 he1 hs1)
  have hs1:Jn it hp h1:=hs1;show(cC,T1,Shared.TypeIs ⟨h1,g,dr,tk,os⟩ mS "dict_itemiterator",cP he1,Zc <| ZZ <| Zc <| YE T1 <| Zc <| YE T1 ?_)
  show wpAny _ _ (Builtin.Dict_items.pairFromOwner mS 6 en.key en.val) _ _ _;unfold Builtin.Dict_items.pairFromOwner;refine Zc <| wpAny_newTuple ?_
  have he2:=Ze (Ro HN) he1;have ht2:(HW).get? hp.objs.size=some (Ro HN):=by
    show(m8,hs1.1,gc)
  have hz2:(HW).objs.size=hp.objs.size+1:=cA JL hs1.1
  have hk2:∀ b ob,(o9,b,it,hp.get? b=some ob,(HW).get? b=some ob):=(ud,ob,Ze _ (hs1.extBut b ob nb e));have z1:h1.objs.size=hp.objs.size:=hs1.1;show wpAny _ _ (Builtin.Dict_items.ownedTupleIsFree mS>>=_) _ _ ⟨HW,g,dr,tk,os⟩;rw[z1];revert he2 ht2 hz2 hk2;generalize HW=h2;intro he2 ht2 hz2 hk2;clear hs1 T1 he1 z1;unfold Builtin.Dict_items.ownedTupleIsFree;refine Zc <| Zc <| QN he2 rfl (x:=.none) rfl <| Zk ?_
  ext Sl;refine Zc <| QN he2 rfl (x:=ok) rfl <| Zc <| QN he2 rfl (x:=ov) rfl ?_
  refine Zc <| Qg he2 aj (aL h3 he3 hs3)
  refine Zc <| Qg he3 aj (aL h4 he4 hs4)
  refine Zc <| Qg he4 aj (aL h5 he5 hs5)
  refine Zc <| Qg he5 aj (aL h6 he6 hs6)
  have n1:=Qj il;refine Zc <| wpAny_letGo <| Zk <| Zk (bT,Zk (h h6 he6 ?_ ?_ (ud ob ?_)))
  . exact hs6.extBut _ _ n1 (hs5.extBut _ _ n1 (hs4.extBut _ _ n1 (hs3.extBut _ _ n1 ht2)))
  . exact hs6.1.trans (hs5.1.trans (hs4.1.trans (hs3.1.trans hz2)))
  . exact hs6.extBut b ob nb (hs5.extBut b ob nb (hs4.extBut b ob nb (hs3.extBut b ob nb (hk2 b ob nb e))))
theorem xlz {prog:Program}{w:World}{A:Around}{E:aT}{s:Shared}{it d:Addr}{ep:Nat}{o:Obj}{es:jQ}{ok ov:Value}{Q:zG}
    (hA:P8) (st:IsItemIter s.heap it d es.size es.size ep ok ov) (hd:nO) (hdat:jO)
    (h:Vs):wpAny aR A rL Q E s:=by
  ext zgW;have st':=st;unfold IsItemIter at st';unfold Builtin.«dict_itemiterator.__next__»
  repeat (any_goals (first|ext cQ|(with_reducible refine Y7 hT ?_)|(with_reducible refine YE hT ?_)|(with_reducible ext pK)|(with_reducible ext pJ)|ext ef))
  have e1:(if (es.size:Int)<0 then none else es[(es.size:Int).toNat]?)=none:=by
    rw[rT,Y1];simp
  rw[e1]
  repeat (any_goals (first|ext cQ|(with_reducible refine Y7 hT ?_)|(with_reducible refine YE hT ?_)|(with_reducible ext pK)|(with_reducible ext pJ)|ext ef))
  ext UZ
theorem xqw {prog:Program}{w:World}{A:Around}{E:aT}{s:Shared}{v d:Addr}{ep:Nat}{o:Obj}{es:jQ}{Q:aT}
    (hv:vx v (eg,"dict_items",.fields #[b7])) (hd:nO) (hdat:jO)
    (h:DY ie (Hi,"dict_itemiterator",#[.none,Kb,b7,ui,zdM,BM,.none,.none])):wpAny aR A (pyIter (.ref v)) Q E s:=by
  have ti:s.TypeIs (.ref v) "dict_items":=cP hv
  show(zaO,F.slot_dict_items_iter);refine Jz F.slot_dict_items_iter ti F.entry_dict_items_iter ?_ (F.args_dict_items_iter_1 _);ext vo dr;unfold Builtin.«dict_items.__iter__»
  repeat (any_goals (first|ext cQ|(with_reducible ext pK)|(with_reducible ext pJ)|ext ef))
  show(zbD,Yj.lookup)
theorem xle {prog:Program}{w:World} (d:Addr) (hd:tD d) :
    MeetsIn prog w (Builtin.«dict.items» (i7 [b7])) (fun _ R s=>s.TypeIs b7 "dict" /\
      (zoc "dict_items")) :=
  .of_wp fun A R s ⟨ti,h⟩=>by
    unfold Builtin.«dict.items» Builtin.Dict.noArgs Builtin.Dict.showsAll;refine Zc <| Zc <| Yw ti ?_
    show wpAny _ _ (pure d) _ _ s;ext ur;show(lO,aD hd Z7,Zc <| Zk <| Zc <| JW <| TY)
theorem xl3 {H:Hp}:∀{kvs:dA}{xs:rB}{i:Nat}{k:d6}{x:V},Ew->kf->∃ q u,(aF xs (k,q,u))/\Dh/\oC
 | _,_,_,_,_,.nil,e=>BL
 | _,(k',q,u)::_,0,k,x,d4 r _,e=>by
  ext Br;ext gX r1 r2 r3 r
  dsimp only at r1 r2 r3
  subst r1;exact eD q u r2 r3
 | _,_,aM,k,x,EX,e=>by
  obtain⟨q,u,h1,h2,h3⟩:83:=xl3 (i:=i) (k:=k) (x:=x) t yw;exact bv q u nU h2 h3
section
variable {X:Cx}{pins:List (Addr × Obj)}{Z:St}{H:Hp}{s:Shared}
theorem xhj {d:Addr}{o:Obj}{kvs:dA}{es:jQ}{ep:Nat} (I:aq) (e:XB) (hdat:jO) :
    (bD,nO,o.ExactDict,es.size=kvs.length,∀(i:Nat) k x,kf->∃ q en,(aF es en)/\(bc,en.key,eC,Dh,RelV x en.val)):=by
  obtain⟨g,_,_,⟨xs,rel,o',es',ep',g',ex,hdat',hes,hn⟩⟩:44:=I.hok d _ e;ext bA g g' g';ext bA hdat hdat' hdat';refine(cI,g,ex,?_,cu i k x hx)
  . rw[<- Jc,hes,Za]
    exact (Y4 rel).symm
  . obtain⟨q,u,h1,h2,h3⟩:83:=xl3 rel hx
    exact⟨84,q,_,by rw[<- Jk,hes,Zd,h1]; rfl,rfl,h2,h3⟩
theorem Inv.nofrzT {d:Addr}{kvs:dA} (I:aq) (e:yT d):Aq:=fun o' u' z=>by
 ext znf
#check _
noncomputable def Itkt (d:Addr) (o:Obj) (kvs:dA):It :=
 (zqf,H'=H/\∃ k x q,kf/\v=eC/\Dh)
noncomputable def Itit (d:Addr) (o:Obj) (kvs:dA):It :=
 (zqf,∃ p k x q,(ax,kf,Dh,v=eB,su,H'=(ez H p [eC,x])))
theorem xo5 {P:Program}{w:World}{K:Zf}{tg:Expr} (d it:Addr) (o:Obj) (kvs:dA) (es:jQ) (ep:Nat) (hdat:jO) :
    Turn P w K tg (Itkt d o kvs) sN it (qL,h.IsKeyIter it d i es.size ep) where
  mem:=aj
  obj:=fun i h st b hb=>by
    ext WV
  keep:=fun i h h' ⟨o1,e1,r⟩ k=>X3
  item:=by
    intro X hP hw hK hc i pins s Z H E I hf st hg;ext jr;ext Cm lt hg;ext NS;obtain⟨f0,f1,f2,f3,f4,f5⟩:46:=kK;ext Vf
    obtain⟨qa,en,he,hk,hq,hr⟩:84:=f i k x hx;refine xgo st g ex hdat he (Mr hit');show(VI,xg6 (s:=lv) g2 c2 d2 ao ?_,I.turned (t':=s.toks) (Bt,(hs.2 b hb).trans g) f0 f1 f3 f4 f5);exact⟨85,.ref qa,H,I1,d7 hk,dC ⟨103,k,x,qa,hx,rfl,hq⟩,hit',E0⟩
  done:=by
    intro X hP hw hK hc i pins s Z H E I hf st hg;ext jr;ext jS e hg;ext NS;obtain⟨f0,f1,f2,f3,f4,f5⟩:46:=kK;rw[<- sz] at st;exact xhp gU st g ex hdat (yG,I.turned (t':=s.toks) vk f0 f1 f3 f4 f5)
  self:=fun A i s Q E st h=>W1 st h
theorem xnd {P:Program}{w:World}{K:Zf}{elts:kG}{x1}{tpos:Pos} (d it:Addr) (o:Obj) (kvs:dA) (es:jQ) (ep:Nat) (hdat:jO) :
    Turn P w K AD (Itit d o kvs) sN it (qL,∃ ok ov,IsItemIter h it d i es.size ep ok ov) where
  mem:=aj
  obj:=fun i h st b hb=>by
    ext tO;ext D9;exact⟨_,st,fun v z=>by
      ext O9⟩
  keep:=fun i h h' ⟨ok,ov,st⟩ k=>⟨ok,ov,R5⟩
  item:=by
    intro X hP hw hK hc i pins s Z H E I hf st hg;ext jr;ext D9;ext Cm lt hg;ext NS;obtain⟨f0,f1,f2,f3,f4,f5⟩:46:=kK;ext Vf
    obtain⟨qa,en,he,hk,hq,hr⟩:84:=f i k x hx;refine xk2 st g hdat he (bC h' hout ht hz hkp);show(ziM,(Bt,(hsb.2 b hb).trans (hkp b o hb g)));show(zht,I.turned (t':=s.toks) kk f0 f1 f3 f4 f5);show(ap,hp,VY HN,(hsb.2 _ pne).trans ht,⟨85,ie,(X9,.ref qa),I1.adopt n0 I.sz nL nC nP (zbE,en.key,en.val,zeR (d7 hk) hr),rfl,⟨125,_,k,x,qa,hx,hq,rfl,n0,rfl⟩,cq _ hit',gY⟩);ext tO;ext uS pne f0
  done:=by
    intro X hP hw hK hc i pins s Z H E I hf st hg;ext jr;ext D9;ext jS e hg;ext NS;obtain⟨f0,f1,f2,f3,f4,f5⟩:46:=kK;rw[<- sz] at st;exact xlz gU st g hdat (yG,I.turned (t':=s.toks) vk f0 f1 f3 f4 f5)
  self:=zjk
noncomputable def xw7 (X:Cx) (to:TE):TI:=zkH RD
noncomputable def xu0 (X:Cx) (to:TE):TI:=zkH RC
section
variable {X:Cx}{o:Expr}{to:TE}{tg:Expr}{elts:List Expr}{x1:_}{tpos apos cpos:Pos}
theorem xs6 (ho:tX):PI X tg o (xw7 X to):=by
 intro pins s Z H R I h;show(jH,ho pins s Z H _ I h,fun v s1 ⟨x,H1,I1,r1,q1⟩=>?_);obtain⟨d,kvs,e1,e,q⟩:83:=q1;ext yM;obtain⟨z,hd,⟨xs,rel,ob,es,ep,g,ex,hdat,hes,hn⟩⟩:43:=IN;refine xly hd g ex hdat ?_;have I3:b8 Aw s1:=(zie,(IN).stay PR (IQ SZ) (HZ SZ));have I4:b8 Aw (VU NC) :=
  XV
 show(MQ,⟨66,Aw,rfl,I4,xo5 d _ ob kvs es ep hdat,vT,gY,q ob (I1.nofrzT e)⟩);ext zbI
theorem xrn (ho:tX) (hbase:C4 "items":=by rfl) (hline:xV:=by rfl) :
    ztd (xu0 X to):=by
  intro pins s Z H R I h;show(OG,ho pins s Z H _ I h,fun v s1 ⟨x,H1,I1,r1,q1⟩=>?_);obtain⟨d,kvs,e1,e,q⟩:83:=q1;ext yM;obtain⟨z,hd,⟨xs,rel,ob,es,ep,g,ex,hdat,hes,hn⟩⟩:43:=IN;show(znQ,⟨86, "dict", "dict.items",J0,Qi,PySem.F.type_dict_items,ti,KU,Ie⟩)
  . ext GZ
  refine JU Qi ti PySem.F.entry_dict_items zpA (xle d hd) (eS ti);refine xqw (s:=OT) gc uG hdat ?_;ext ziJ
  have I3:b8 Aw s2:=(zhY,(I2.hok d _ e).stay PR (IQ SZ) (HZ SZ));have I4:b8 Aw (Od,#[.none,Kb,b7,ui,zdM,BM,.none,.none]) :=
    XR
  have fin:PIE X pins Z AD R nS (Od,#[.none,Kb,b7,ui,zdM,BM,.none,.none]):=by
    show(VC,⟨66,Aw,rfl,I4,xnd d _ ob kvs es ep hdat,⟨.none,.none,gc⟩,gY,q ob (I1.nofrzT e)⟩);ext zbH
  exact fin
noncomputable def xy3 (X:Cx) (t:TS):TS:=(lJ,t { D with nx:=(rN,∃ d ob u,H' d=some (.frz ob u)/\Aq/\D.nx σ' (upd H' d u)) } Z H)
theorem xn6 {st:Stmt}{t:TS} (h:Tu):PS X st (xy3 X t):=by
 intro pins s Z H D I q;show(jH,h pins s Z H _ I q,aL fl s1 z);cases fl with
 | next =>
  obtain⟨σ',H',I',⟨d,ob,u,e,nf,r⟩⟩:82:=z;exact(bK,σ',_,I'.thaw e nf,r)
 | _=>exact z
#check _
section
variable {d:Addr}{ob:Obj}{kvs:List (List Key × V)}{g:TG}{tb:TS}{D:Ends}{Z:St}{H:Hp}
theorem xpx (Pv:FD) (h0:Lh) (hl:ziK)
    (hs:∀ i k x q Z H,(bq,kf,Dh,uh,g eC Z H Gy)) (hd:HE kvs.length) :
    ∃ W:Nat->Nat->St->Hp->Prop,(∃ m,W 0 m Z H)/\∀ i m Z H,E1 ->
      ((RD).stop i H/\zy)\/((RD).go i H/\(Df (EF,(RD).yld i H x H',Z,H',Da))):=by
  ext zim;rintro i m Z H (⟨rfl,hi,p⟩:43);ext NF Bd
  . ext zuI
    obtain⟨rfl,k,x',qa,e1,rfl,hr⟩:=y;exact hs i k x' qa Z H' e1 hr p
  . show(NG,kvs.length,fc q)
theorem xo8 (Pv:FD) (h0:Lh) (hl:ziK)
    (hs:∀ i k x q p Z H,(bj,kf,Dh,su,uh,g eB Z (ez H p [eC,x]) Gy)) (hd:HE kvs.length) :
    ∃ W:Nat->Nat->St->Hp->Prop,(∃ m,W 0 m Z H)/\∀ i m Z H,E1 ->
      ((RC).stop i H/\zy)\/((RC).go i H/\(Df (EF,(RC).yld i H x H',Z,H',Da))):=by
  ext zim;rintro i m Z H (⟨rfl,hi,p⟩:43);ext NF Bd
  . ext zuI
    obtain⟨pa,k,x',qa,e1,hr,rfl,hn,rfl⟩:125:=y;exact hs i k x' qa pa Z H e1 hr hn p
  . show(NG,kvs.length,fc q)
#check _
noncomputable def xwy (to:TE):TE:=fun Z H Q=>to Z H fun x H1=>∃ d kvs,x=b7/\H1 d=some (.dK kvs)/\∀ l,pV->Q bH (upd H1 l (.lst (kvs.map (·.2))))
section
variable {X:Cx}{o:Expr}{to:TE}{apos cpos p pos:Pos}
theorem xna (hc:fX) (hg:Gl X "list") (hm:qj "list") (ho:tX) (hbase:zen:=by rfl) (hline:xV:=by rfl)
    (hs3:(ED,[vj],im vj):=by rfl) :
    PE X (Dx "list" [vj]) (xwy to):=by
  intro pins s Z H Q I h;show(zjf,wpAny _ _ (Nm,im vj) _ _ s,ho pins s Z H _ I h,fun v s1 ⟨x,H1,I1,r1,q1⟩=>?_);obtain⟨d,kvs,e1,e,q⟩:83:=q1;ext yM;obtain⟨z,hd,⟨vs,rel,dd⟩⟩:43:=II;obtain⟨ob,es,ep,g,ex,hdat,hk,hp,hn⟩:106:=id dd;refine⟨86, "dict", "dict.values",J0,Yh,QY,dd.typeIs,KU,Ie⟩
  . ext GZ
  refine JU Yh dd.typeIs QM (QL _) zqt zcp;refine JY ?_;have da:(GX).DictAt ig d vs ep:=⟨86,ob,es,uG,ex,hdat,hk,hp,hn⟩
  have vv:(GX).IsValuesView s1.heap.objs.size d:=vT
  ext IR AF;generalize hs2:(AF:Shared)=s2 at I2;have da2:s2.heap.DictAt ig d vs ep:=bJ hs2 da
  have vv2:s2.heap.IsValuesView s1.heap.objs.size d:=bJ hs2 vv
  ext Ar;refine kdl_call (kdl_values (kvs:=vs) (ep:=ep)) gU ⟨vv2,da2⟩ (bJ hl z) fun h' tk acc c hk' hS' hacc=>?_;ext zka;ext zkU;have e1:acc.toList.length=(kvs.map (·.2)).length:=by rw[Za,hl]; simpa using hacc.1
  refine⟨83,nS,_,I3.adopt n0 I2.sz nL nC nP (show xa8 X.prog X.w _ h' _ (.lst (kvs.map (·.2))) from (Vc,fL z)),rfl,q _ n0⟩;have eu':bQ acc u:=zcc
  obtain⟨k,hv⟩:=hacc.2 j u eu';ext zkK;show(ae,u',hu',ru',rel.get ey);ext uP hv hu' ru'
#check _
theorem xmb {prog:Program}{w:World}{A:Around}{E:aT}{s:Shared}{it d:Addr}{i ep:Nat}{o:Obj}{es:jQ}{en:DictEntry}{Q:zG}
    (st:s.heap.IsValIter it d i es.size ep) (hd:nO) (hdat:jO) (hi:aF es en)
    (h:(La,h'.IsValIter it d aM es.size ep,Jn it s.heap h',some en.val,lv)):wpAny aR A rL Q E s:=by
  ext zgY;obtain⟨⟨c,dct,dat,sl⟩,hit,ci,di⟩:63:=st;ext zkV
  repeat (any_goals (first|ext cQ|(with_reducible ext T7)|(with_reducible ext T6)|(with_reducible ext pK)|(with_reducible ext pJ)|ext ef))
  have e1:(if (i:Int)<0 then none else es[(i:Int).toNat]?)=some en:=by
    ext cD rT Y1 hi
  rw[e1]
  repeat (any_goals (first|ext cQ|(with_reducible ext T7)|(with_reducible ext T6)|(with_reducible ext pK)|(with_reducible ext pJ)|ext ef))
  ext zkY
theorem xm0 {prog:Program}{w:World}{A:Around}{E:aT}{s:Shared}{it d:Addr}{ep:Nat}{o:Obj}{es:jQ}{Q:zG}
    (hA:P8) (st:s.heap.IsValIter it d es.size es.size ep) (hd:nO) (hdat:jO)
    (h:Vs):wpAny aR A rL Q E s:=by
  ext zgY;obtain⟨⟨c,dct,dat,sl⟩,hit,ci,di⟩:63:=st;ext zkV
  repeat (any_goals (first|ext cQ|(with_reducible ext T7)|(with_reducible ext T6)|(with_reducible ext pK)|(with_reducible ext pJ)|ext ef))
  have e1:(if (es.size:Int)<0 then none else es[(es.size:Int).toNat]?)=none:=by
    rw[rT,Y1];simp
  rw[e1]
  repeat (any_goals (first|ext cQ|(with_reducible ext T7)|(with_reducible ext T6)|(with_reducible ext pK)|(with_reducible ext pJ)|ext ef))
  ext UZ
theorem xse {prog:Program}{w:World}{A:Around}{E:aT}{s:Shared}{v d:Addr}{ep:Nat}{o:Obj}{es:jQ}{Q:aT}
    (hv:vx v Nh) (hd:nO) (hdat:jO)
    (h:(DY,ie,Hi "dict_valueiterator" NC)):wpAny aR A (pyIter (.ref v)) Q E s:=by
  have ti:s.TypeIs (.ref v) "dict_values":=cP hv
  show(zaO,F.slot_dict_values_iter);refine Jz F.slot_dict_values_iter ti F.entry_dict_values_iter ?_ (F.args_dict_values_iter_1 _);ext vo dr;unfold Builtin.«dict_values.__iter__»
  repeat (any_goals (first|ext cQ|(with_reducible ext pK)|(with_reducible ext pJ)|ext ef))
  show(zbD,Yg.lookup)
theorem xkz {prog:Program}{w:World} (d:Addr) (hd:tD d) :
    MeetsIn prog w (Builtin.«dict.values» (i7 [b7])) (fun _ R s=>s.TypeIs b7 "dict" /\
      (zoc "dict_values")) :=
  .of_wp fun A R s ⟨ti,h⟩=>by
    ext Cl;unfold Builtin.Dict.noArgs;refine Zc <| Yw ti ?_
    show wpAny _ _ (pure d) _ _ s;ext ur;show wpAny _ _ (Builtin.Dict.showsAll d>>=_) _ _ s;unfold Builtin.Dict.showsAll;show(lO,aD hd Z7,Zc <| Zk <| Zc <| JW <| TY)
theorem xsh {prog:Program}{w:World}{r d:Addr}{ep:Nat}{o:Obj}{es:jQ} (hdat:jO) :
    KdlSrc prog w "dict_values" r d es.size (zsa en.val) (fR,(Eo r Nh)/\vm) where
  type:=fun s h=>cP h.1
  there:=fun h e=>⟨Zv e.1,Zv e.2⟩
  keep:=fun h h' e k=>⟨k r eZ _ e.1,k d Fq o e.2⟩
  notList:=ao
  notTuple:=ao
  hint:=fun A E s Q h q=>kdl_hint_values (cP h.1) q
  iter:=fun A s hA h=>by
    have dl:=Zv h.2;refine(zmT,"dict_valueiterator",(qL,h.IsValIter s.heap.objs.size d i es.size ep/\vm),xse h.1 h.2 hdat q,Ze _ h.2);have dn:d≠s.heap.objs.size:=ZD dl;exact {
      sub:=fun b hb=>by
        ext zop
      frame:=(zuv,let ⟨o1,e1,r1⟩:=st.1; ⟨o1,k _ aj _ e1,r1⟩)
      item:=fun i s' Q E hi st q=>by
        refine xmb st.1 st.2 hdat (Jf hi) fun h' st' sb=>q _ h' s'.toks (cP,Jf hi) ⟨st',(sb.2 d dn).trans st.2⟩ (lK hb ?_);exact (sb.2 b qR).trans e
      done:=fun s' Q E st q=>by
        show(An,xm0 hA st.1 st.2 hdat zmC,eb b o qR e)
      self:=fun i s' Q E st q=>wpAny_pyIter_valiter st.1 q }
noncomputable def xuw (to:TE):TE:=fun Z H Q=>to Z H fun x H1=>∃ d kvs,x=b7/\H1 d=some (.dT kvs)/\∀ l,pV->Q bH (upd H1 l (.lst (kvs.map (·.2))))
section
variable {X:Cx}{o:Expr}{to:TE}{apos cpos p pos:Pos}
theorem xgy (hc:fX) (hg:Gl X "list") (hm:qj "list") (ho:tX) (hbase:zen:=by rfl) (hline:xV:=by rfl)
    (hs3:(ED,[vj],im vj):=by rfl) :
    PE X (Dx "list" [vj]) (xuw to):=by
  intro pins s Z H Q I h;show(zjf,wpAny _ _ (Nm,im vj) _ _ s,ho pins s Z H _ I h,fun v s1 ⟨x,H1,I1,r1,q1⟩=>?_);obtain⟨d,kvs,e1,e,q⟩:83:=q1;ext yM;obtain⟨z,hd,⟨xs,rel,ob,es,ep,g,ex,hdat,hes,hn⟩⟩:43:=IN;show(znQ,⟨86, "dict", "dict.values",J0,Yh,QY,ti,KU,Ie⟩)
  . ext GZ
  refine JU Yh ti QM (QL _) (xkz d hd) (eS ti);refine JY ?_;ext IR AF;have g2:(GX).get? d=some ob:=uG;have v2:(GX).get? s1.heap.objs.size=some Nh:=gc;generalize hs2:(AF:Shared)=s2 at I2;have g3:Xs:=bJ hs2 g2
  have v3:s2.heap.get? s1.heap.objs.size=some Nh:=bJ hs2 v2
  have ln:=Y4 rel;have esz:es.size=kvs.length:=by rw[<- Jc,hes,Za,ln]
  refine kdl_call (xsh (r:=s1.heap.objs.size) hdat) gU ⟨v3,g3⟩ (aD esz z) fun h' tk acc c hk' hS' hacc=>?_;ext zka;ext zkU;have e1:acc.toList.length=(kvs.map (·.2)).length:=by rw[Za,<- esz]; simpa using hacc.1
  refine⟨83,nS,_,I3.adopt n0 I2.sz nL nC nP (show xa8 X.prog X.w _ h' _ (.lst (kvs.map (·.2))) from (Vc,fL z)),rfl,q _ n0⟩;have eu':bQ acc u:=zcc
  show(ae,en,he,hv,hacc.2 j u eu');ext zkK;obtain⟨qa,u',hu',_,ru'⟩:83:=xl3 rel ey;rw[<- Jk,hes,Zd,hu'] at he;cases he;ext aK hv ru'
#check _
section
variable {prog:Program}{w:World}{A:Around}{E:Value->Shared->Prop}{s:Shared}{a b:Addr}{oa ob:Obj}{es es2:Array DictEntry}{ep ep2:Nat}
theorem xrd {M:Model}{β:Type}{n:Nat}{f:Nat->β->Sem (ForInStep β)}{b0:β}{Q:dU β} (turn:∀ i,eF->∀ R:(dU,ForInStep β),R (.yield b0) s->wpAny M A (f i b0) R E s) (q:Q b0 s):wpAny M A (forIn [:n] b0 f) Q E s:=by
 rw[Std.Legacy.Range.forIn_eq_forIn_range',show ([:n]:Std.Legacy.Range).size=n by simp[Std.Legacy.Range.size]];refine Wc _ (fun rs c t=>(bc,c,b0,t=s,∀ x∈rs,x<n)) _ (bC x rs c t h) (aL c t h) _ _ (Ai rJ)
 .obtain ⟨rfl,rfl,lt⟩:43:=h;exact turn x (lt x gE) _ (Ai (uB,lt y rW))
 .obtain ⟨rfl,rfl,_⟩:43:=h;exact q
 .have:=List.mem_range'.mp hx;ext ae k hk e this;show x<n;have e:x=0+1*k:=e;omega
theorem xfg {Q:wp} (n:w4) (q:Q () s):wpAny aR A (Builtin.Dict.showsAll a) Q E s:=by
 rw[Builtin.Dict.showsAll,ay (bF n)];exact Zk q
theorem xpb {id:String}{Q:oz} (ga:yg oa) (da:ztl) (gb:Xz) (db:zrA) (na:w4) (nb:tD b) (sz:es.size=es2.size)
    (find:∀(i:Nat) (hi:i<es.size) (R:dU (dc Nat)),R wZ s->wpAny aR A (dictFind b (Al).key (Al).hash) R E s)
    (val:∀(i:Nat) (h1:i<es.size) (h2:i<es2.size) (R:oz),R true s->wpAny aR A (eqBool (Al).val es2[i].val) R E s)
    (q:Q true s):wpAny aR A Nu Q E s:=by
  ext zhC;rw[ay (bF sz)];show(br,Jq ga da (Zc (xrd (cu i hi R hR) (Zk q))));have hi2:i<es2.size:=aa
  show(br,ZO ga da ?_);rw[Jf hi];show(br,ZZ (Zc (find i hi _ (Zc (ZO gb db ?_)))));rw[Jf hi2];refine ZZ (val i hi hi2 _ ?_);rw[ay ao];show(br,Jq ga da ?_);rw[ay aj];exact Zk hR
structure xk6 (prog:Program) (w:World) (A:Around) (s:Shared) (a b:Addr):Prop where
 ta:Hs
 tb:s.TypeIs cW "dict"
 pairs:(zta,Q true s->wpAny aR A Nu Q E s)
theorem xh5 {nm:String}{Q:(dU,Value × Value)} (h:Hs) (q:Q (lq aB b) s):wpAny aR A (Builtin.Dict.dictSlotArgs nm (i7 [aB,cW])) Q E s:=by
 rw[Builtin.Dict.dictSlotArgs];exact Zc (Yw h (show wpAny _ _ (pure _) _ _ s from Zk q))
theorem xk0:Tj (Builtin.«dict.__eq__» (i7 [aB,cW])) (fun A R s=>xk6 prog w A.in1 s a b/\R (.ok zce) s) :=
 .of_wp fun A R s ⟨al,h⟩=>Zc (xh5 al.ta (Zc (YW al.tb (b:=true) (by rw[isSubtype_type]; rfl) (by
  ext zoA))))
theorem xk1:zmo (fun A R s=>xk6 prog w A.in1 s a b/\R (.ok (.ret (.bool false))) s) :=
 .of_wp fun A R s ⟨al,h⟩=>Zc (xh5 al.ta (Zc (YW al.tb (b:=true) (by rw[isSubtype_type]; rfl) (by
  ext zoA))))
#check _
section
variable {X:Cx}{pins:List (Addr × Obj)}{Z:St}{H:Hp}{s:Shared}{a b:Addr}{A:Around}
theorem xga {prog:Program}{w:World}{K:Type} [DecidableEq K] {knd:KeyKind prog w K}{es:Ra}{vs:MA K} (h:Pairs knd es vs):∀{i:Nat}{e:DictEntry},(aF es e)->∃ kv,(aF vs kv)/\knd.is iS e.key=true/\e.val=kv.2:=by
 induction h with
 | nil=>intro i e h; simp at h
 | cons h1 h2 _ ih =>
  intro i e he;cases i with
  | zero =>
   simp at he;subst he;exact iQ _ h1 h2
  | succ i=>exact ih (by simpa using he)
theorem xka {α β:Type}{R:SY}{xs:cT}{ys:Mc} (h:Paired R xs ys):∀{i:Nat}{x:α}{y:β},rK->(aF ys y)->R x y:=by
 induction h with
 | nil=>intro i x y h; simp at h
 | cons h _ ih =>
  intro i x y h1 h2;cases i with
  | zero =>
   simp at h1 h2;subst h1 h2;exact h
  | succ i=>exact ih nU AJ
theorem xyb {α β:Type}{f:α->β}{l:cT} (nd:zcU) {i j:Nat}{x y:α} (hi:aF l x) (hj:bQ l y) (e:f x=f y):i=j:=by
 have h1:i<(l.map f).length:=(fL,ir hi)
 refine (zgx h1 nd).mp ?_;rw[Zd,Zd,hi,hj,Yb,Yb,e]
theorem xum (I:aq) {kvs:aI} (ea:zW) (eb:Bg b) (iv:∀ kv∈kvs,∃ n:Int,kv.2=.int n):xk6 X.prog X.w A s a b:=by
 ext zom ea;obtain⟨_,nb,⟨vb,rb,db⟩⟩:43:=xct I.hok eb;obtain⟨oa,es,ep,ga,xa,ha,ka,pa,nda⟩:106:=id da;obtain⟨ob,es2,ep2,gb,xb,hb,kb,pb,ndb⟩:106:=id db;have la:es.size=kvs.length:=by
  have:=pa.length;have:=ra.length;simp at *;omega
 have lb:es2.size=kvs.length:=by
  have:=pb.length;have:=rb.length;simp at *;omega
 have at1:∀(i:Nat) (hi:i<es.size),∃ v,(ig).is (KW).1 (Al).key=true/\(Al).val=v/\RelV (KW).2 v:=fun i hi=>by
  ext zhx pa Al ra
 have at2:∀(i:Nat) (hi:i<es2.size),∃ v,(ig).is (KW).1 es2[i].key=true/\es2[i].val=v/\RelV (KW).2 v:=fun i hi=>by
  show(zhx,pb,es2[i],rb)
 have nk:(kvs.map (·.1)).Nodup:=aD rb.keys ndb
 show(cR,⟨oa,ga,xa.1⟩,⟨ob,gb,xb.1⟩,fun id E Q h=>xpb ga ha gb hb na nb aa (cu i hi R hR) (bC i h1 h2 R hR) h)
 .obtain ⟨v,k1,_,_⟩:63:=at1 i hi;show(ae,k',k2,hh,ka Al (Array.getElem_mem hi));show(nB,(ig).inj _ _ _ k1 k2);show(nK,hh,wpAny_dictFind_of k1 gb hb kb ?_);have:(es2.findIdx? fun e=>(ig).is (KW).1 e.key)=some i:=by
   rw[Array.findIdx?_eq_some_iff_getElem];show(Uj,v2,k3,at2 i aa);show(cR,aa,k3,aL j hj z);show(Uj,v4,k4,at2 j aa);have e:=(ig).inj _ _ _ z k4;show(bZ,xyb (f:=fun p:Key × V=>aN) nk (Zb (dS Bd)) (Zb (dS,j<kvs.length)) e)
  ext aK this hR
 .obtain ⟨v,_,e1,r1⟩:63:=at1 i h1;obtain⟨v2,_,e2,r2⟩:63:=at2 i h2;obtain⟨n,en⟩:=iv _ (Qz (dS Bd));rw[en] at r1 r2;ext jS t1 r1;ext jS t2 r2;rw[e1,e2];have z:=Z3.int_int (A:=A) (s:=s) n t1 n t2 X.prog X.w E R;exact z (by simpa using hR)
noncomputable def Yes (prog:Program) (w:World) (A:Around) (s:Shared) (y x:Value):Prop:=(∀(E:aT) (Q:oz),Q true s->wpAny aR A (eqBool y x) Q E s) /\
 (XG,wpAny aR A (richCompare .Eq y x) Q E s)/\(zrQ,wpAny aR A (richCompare .NotEq y x) Q E s)
theorem xsn {prog:Program}{w:World} (h:(XG,wpAny aR A (zeC .Eq) Q E s)) (E:aT) (Q:oz) (q:Q true s):wpAny aR A (eqBool aB cW) Q E s:=by
 ext jc a b
 .subst c;exact Z3.same _ prog w E Q q
 .have nb:¬ (Gn,o8,Zs b):=(aA,c (Zs.inj (QG z)));rw[eqBool];exact ZZ (by rw[ay nb]; exact Zc (h E _ (Yk q)))
theorem xsq {prog:Program}{w:World} (al:xk6 prog w A.in1 s a b) (hu:RG):Yes prog w A s aB cW:=by
 have h1:(XG,wpAny aR A (zeC .Eq) Q E s):=fun E Q q =>
  QE al.ta al.tb PySem.F.slot_dict_eq (JU PySem.F.slot_dict_eq al.ta PySem.F.entry_dict_eq (PySem.F.args_dict_eq_2 _ _) xk0 ⟨al,dJ,q⟩) hu
 have h2:(zrQ,wpAny aR A (zeC .NotEq) Q E s):=fun E Q q =>
  QE al.ta al.tb Q8 (JU Q8 al.ta PySem.F.entry_dict_ne zpV xk1 ⟨al,dJ,q⟩) hu
 show(aJ,xsn h1,h1,h2)
#check _
theorem xed:∀{us:aQ}{ss:ai},Rs->Vals (ss.map V.str) us
 | _,_,.nil=>.nil
 | _,_,.cons y t h=>.cons (fc t) (xed h)
theorem xi5:∀{ss:ai}{us:aQ},Vals (ss.map V.str) us->Rs
 | [],_,.nil=>.nil
 | x::ss,_,d4 r rs=>by
  ext iW r;exact .cons x t (xi5 rs)
theorem xiz {X:Cx}{pins:aW}{Z:St}{H:Hp}{s:Shared}{h1:Heap}{tk:Nat}{Q:VK}{us:aQ}{ss:ai} (I1:ia (iA h1)) (hS:Rs) (few:us.length<64)
    (q:zhy) :
    wpAny aH X.A.in1 (zib,newList us) (zlS,EP X pins Z Q v s') X.xe (iA h1):=by
  have sz:dB us.length:=J6 (ZI few ao);show(jZ,ln,(xed hS).length,Za);have I2:=I1.lnew (t':=tk) (xed hS) (qr Za ln sz);ext zki sz;have gl:(zsy).get? h1.objs.size=some (zgH us.toArray):=gc;show(ME,Jz slot_list_sort (cP gl) entry_list_sort (list_sort_treeK strKind_oneLt gl hS.keysOf (fun v₁ v₂ r e=>keyKind_strs (bJ e hS)) few (aL st a1 a2)) (args_list_sort _));show(b9,ss',b1,b2,b3,sorted_out_str hS a1 a2);refine(bT,Zk (bT ?_));show(af,J1,I2.lset (l:=h1.objs.size) (its:=us) (its':=[]) (ys:=[]) (f:=Tb) (t':=tk) xl gl rfl .nil fP,J2,J1.kept (t':=tk) (h':=(((zsy).update h1.objs.size (JT Tb)).push (seqObj "tuple" us.toArray 0)).push (seqObj "list" #[] 0)) (kU RL));obtain⟨z9,its9,n9,r9,hl9,e9⟩:=J2.lstM xl;have l':ss'.length=ss.length:=b2.length_eq;have J3:=J2.lset (l:=h1.objs.size) (its:=its9) (its':=((arrOf st).map (·.2)).toList) (ys:=ss'.map V.str) (f:=fun _=>(arrOf st).map (·.2)) (t':=tk) xl e9 (show (arrOf st).map (·.2)=_ from (Array.toArray_toList ..).symm) (xed b1) (by rw[Za,l',ln]; exact sz);rw[xdo,xdo] at J3;exact(dY,zcb,_,J3,q _ ss' fr b2 b3)
theorem xng:∀{us:aQ}{ss:ai},us.length=ss.length->(∀(i:Nat) (v:Value) (x:Str),(aF us v)->(aF ss x)->∃ t,v=Qu x t)->Rs
 | [],[],_,_=>.nil
 | [],b5,h,_=>eO
 | b5,[],h,_=>eO
 | u::us,x::ss,h,f=>by
  show(iW,f 0 u x rfl rfl);exact .cons x t (xng yt fun i v y h1 h2=>f aM v y nU AJ)
inductive xr0 (xs:ag) (H:Hp) (Q:VK):Prop
 | mk (d:Addr) (ss:ai) (e_:xs=[b7]) (r_:((aE d zbd)\/∃ kvs:aI,oK/\kvs.map (·.1)=ss.map ZW)/\ss.length<64/\zhy)
theorem xgl {X:Cx} (hc:fX):zdp xr0:=by
 intro pins s Z H xs us Q I r h;obtain⟨d,ss,rfl,alt,hl,q⟩:=h;ext M6;rcases alt with e|⟨kvs,e,ek⟩
 .obtain ⟨z,its,n,r1,hL,el⟩:=I.lstM e;show(jZ,ln,r1.length,Za);ext U7;refine Zc (Zk (show wpAny _ _ O1 _ _ _ from Zc (wpAny_collect_seq d (T:="list") eZ el rfl rfl (au h1 keep) (by rw[Z6,<- ln]; exact J6 (ZI hl ao)))));exact xiz (us:=its) (I.kept keep) (xi5 r1) aa q
 .obtain ⟨z,hsys,⟨vs,rel,o,es,ep,ho,hx,hdat,hk,hp,hn⟩⟩:43:=Kd;ext zig
  show(zhP,wpAny _ _ O1 _ _ _);have hs:StrsAre acc.toList ss:=by
   refine xng (by rw[Jc,items.1,esz,<- ln,<- Za (f:=(·.1)) (as:=kvs),ek,Za]) (bC i v x hv hx);have hv':aF acc v:=bJ Jk hv
   show(ae,en,he,ev,items.2 i v hv');show(on,kv,h1,h2,xga hp (i:=i) (e:=en) (aD Jk he));have hk2:(kvs.map (·.1))[i]?=some (ZW x):=by rw[ek,Zd,hx]; rfl
   ext zhf
  exact xiz (I.kept keep) hs (qr,(xed hs).length.symm,Za,hl) q
#check L2
namespace L2
open PySem PySem.Spec PyProof.Rows XL PySem.W PySem.MeetsSeq3
#check L2
namespace L2
open PySem PySem.Spec PyProof.Rows XL PySem.W
noncomputable def xvu (X:Cx) (to:TE):TI:=Vt Iw
section
variable {X:Cx}{o:Expr}{to:TE}{tg:Expr}
theorem xmk (ho:tX):PI X tg o (xvu X to):=by
 intro pins s Z H R I h;show(jH,ho pins s Z H _ I h,fun v s1 ⟨x,H1,I1,r1,q1⟩=>?_);obtain⟨d,kvs,e1,e,q⟩:83:=q1;ext yM;obtain⟨z,hd,⟨vs,rel,dd⟩⟩:43:=II;obtain⟨ob,es,ep,g,ex,hdat,hk,hp,hn⟩:106:=id dd;show(zhL,⟨86,ob,es,g,ex,hdat,hk,hp,hn⟩);have I4:b8 pX (VU Xf) :=
  XV
 show(MQ,⟨66,pX,rfl,I4,xj4 d _ ob kvs ep Rr,?_,gY,zbW⟩)
 .show(zcD,Heap.IsKeyIter _ _ d 0 kvs.length ep)
 .ext zbI
#check _
theorem xge {Z:L2.St}{fr:ij}{n:Nat}{g:TG}{te:TE}{l d:Addr}{H1:Hp}{Q:VK}{ob:Obj}{kvs:aI}{tc:TT} (hd:zcr) (hlen:AQ) (hl:pV) (q:Key × V->Bool)
    (step:∀(i:Nat) (k:Key) (x:V) (H2:Hp),kvs[i]?=some (k,x)->Same H1 H2->∀(N:uM) (M:BV),(∀ H',zf->q (k,x)=true->N (kV k) H')->(∀ H',zf->q (k,x)=false->M H') ->
      g vd Ex H2 M5)
    (fin:∀ H2,kD->H2 l=some (.lst ((kvs.filter q).map fun kx=>kV kx.1))->FO):xdg Iw n g Z fr tc te l H1 Q:=by
  refine xcu kvs.length (gO,ys,H2,kD/\K6/\ys=((kvs.take i).filter q).map fun kx=>kV kx.1) ?_ ?_ ?_ ?_
  . show(xS,(kU,bE Ca e),xl)
  . ext zaK
    ext aO Lv lt
  . rintro i ys H2 v H3 lt (⟨s,el,ey⟩:43) ⟨rfl,k,x,ex,rfl⟩ N hN
    have ly:ys.length<=i:=by
      rw[ey,Za];refine ZJ qy ?_;rw[Yd];omega
    refine step i k x _ ex s _ _ (aL H' s' qt) (aL H' s' qf)
    . ext zfy
      show(cR,el',aa,hN _ _ (fJ uw xl))
      . ext bP Ca O3
      . rw[ey,ZT,ex,Yf,Zq,zlW,Jd qt]
        rfl
    . refine hN _ _ (fJ,kU O3,s' _ _ el)
      rw[ey,ZT,ex,Yf,zlW,Je (vW qf)];rw[Wr,Qe]
  . rintro ys H2 (⟨s,el,ey⟩:43)
    rw[Jh] at ey;show(aO,⟨Lv,bo⟩,fin H2 s (ey▸el))
#check L2
namespace L2
section
variable {D:Ends}{Z:St}{H:Hp}{i:Nat}{v:V}{N:St->Hp->Prop}{wi:TI}{g:TG}{a b u:TS}{c:TT}
theorem sq2 {t1 t2:TS} (k:yA u2 t2 zcC):(tSeq t1 t2) D Z H:=k
theorem sq3 {t1 t2 t3:TS} (k:(mL,d,D,s,Z,zaR t3)):(tSeq t1 (tSeq t2 t3)) D Z H:=k
theorem sq4 {t1 t2 t3 t4:TS} (k:yA u4 t4 (zaR,tSeq t3 u4)):(tSeq t1 (mH t2 t3 t4)) D Z H:=k
theorem sq5 {t1 t2 t3 t4 t5:TS} (k:yA u5 t5 (mL,u4,tSeq t4 u5,u3,tSeq t3 u4,let u2:=tSeq t2 u3; zcC)):(tSeq t1 (tSeq t2 (mH t3 t4 t5))) D Z H:=k
theorem sq6 {t1 t2 t3 t4 t5 t6:TS} (k:yA u6 t6 zjW):(tSeq t1 (mH t2 t3 (mH t4 t5 t6))) D Z H:=k
theorem sq7 {t1 t2 t3 t4 t5 t6 t7:TS} (k:(mL,d,D,s,Z,zaL t7)):(tSeq t1 (tSeq t2 (mH t3 t4 (mH t5 t6 t7)))) D Z H:=k
theorem sq9 {t1 t2 t3 t4 t5 t6 t7 t8 t9:TS} (k:(yA,u9,t9,let u8:=tSeq t8 u9; (zaL,tSeq t7 u8))):(tSeq t1 (tSeq t2 (mH t3 t4 (mH t5 t6 (mH t7 t8 t9))))) D Z H:=k
theorem sq12 {t1 t2 t3 t4 t5 t6 t7 t8 t9 t10 t11 t12:TS} (k:yA u12 t12 (mL,u11,tSeq t11 u12,u10,tSeq t10 u11,(mL,u9,tSeq t9 u10,u8,tSeq t8 u9,(zaL,tSeq t7 u8)))):(tSeq t1 (mH t2 t3 (mH t4 t5 (mH t6 t7 (mH t8 t9 (mH t10 t11 t12)))))) D Z H:=k
theorem gn (k:N oq H):xcn i v Z H N:=k
theorem nx {n r x y} (k:n Z H):Ends.nx ⟨n,r,x,y⟩ Z H:=k
theorem gx {n r x y} (k:n oq H):xcn i v Z H (Ends.nx ⟨n,r,x,y⟩):=k
theorem fo (k:(yA,b,b,tFor wi g b d s H)):tFor wi g b D Z H:=k
theorem fq (k:(mL,s,Z,b,b,tFor wi g b Ht s H)):tSeq (tFor wi g b) u D Z H:=k
theorem wo (k:(yA,b,b,xg0 c b d s H)):xg0 c b D Z H:=k
theorem wq (k:(mL,s,Z,b,b,xg0 c b Ht s H)):tSeq (xg0 c b) u D Z H:=k
theorem io (k:mL d D s Z (mL,a,a,b,b,tIfS c a b d s H)):tIfS c a b D Z H:=k
theorem iq (k:let s:=Z; (mL,a,a,b,b,tIfS c a b Ht s H)):tSeq (tIfS c a b) u D Z H:=k
#check _
#check L2
namespace L2
open PySem PySem.Spec PyProof.Rows XL
section
variable {X:Cx}{x:Str}{e:Expr}{te:TE}{pos pos':Pos}
theorem pS (i:Nat) (hN:X.N.Nodup) (he:tW) (hi:rC:=by rfl) (hx:AH:=by exact QC rfl) (hs:GA e (some Sh):=by rfl) (hf:Cv:=by first|ext wT|ext zY) :
    zpl:=xee hN hi hx he hs hf
theorem pN (i:Nat) (hN:X.N.Nodup) (hi:rC:=by rfl) (hx:AH:=by exact QC rfl) (hf:Cv:=by first|ext wT|ext zY):PG X tJ (xcn i):=xg9 hN hi hx hf
#check _
section
variable {X:Cx}{x:Str}{pos:Pos}{scope:Scope}{zs ys:List Str}
theorem pO (i:Nat) {C:Addr}{ex:az}{s:Shared}{H:Hp}{pn:aW} (nd:yC) (ow:∀ x∈zs,(jg).names.lookup x=some .local) (hi:aF (zs++ys) x:=by rfl) (hz:x∈zs:=by simp):PG (X.blkG scope zs ys C ex s H pn) tJ (xcn i):=xg9 nd hi (QC (ow _ hz)) (QI (ow _ hz))
theorem pM (i:Nat) (hi:aF (zs++ys) x:=by rfl) (hz:x∈zs:=by simp):∀(C:Addr) (ex:az) (s:Shared) (H:Hp) (pn:aW),(∀ x∈zs,(jg).names.lookup x=some .local)->yC->PG (X.blkG scope zs ys C ex s H pn) tJ (xcn i):=(OX,pO i nd ow hi hz)
#check _
section
variable {X:Cx}{k k':Nat}{f C:Addr}{fd:FuncData}{ps:List Str}{sp:Sp}{x m:Str}{p pos apos:Pos}{e o:Expr}{es:List Expr}{ta:TE}{t:TA}{q0:Bool}
theorem pC (F:FnOk q0 X.prog X.w X.K X.mg X.base (CXo X.prog X.w) k f fd ps sp) (hr:Room q0 k' X.A) (hm:A6 uI) (hk:J7 X.K uI=true) (hb:x0 X.K fd ps []) (ha:BF) (hl:k<=k':=by decide) (hg:r8:=by rfl)
    (hdb:nQ:=by decide) (he:xU:=by rfl) (hpl:(yW).any (·.1)=false:=by rfl) :
    GI (xtb sp [] (fun _ _ _ _=>False) t):=xut F (hr.mono hl) hg hm hk hb .nil xq ha hdb he hpl
#check _
#check L2
namespace L2
open PySem PySem.Spec PyProof.Rows XL
variable {q0:Bool}
noncomputable abbrev Cx.blkC (X:Cx) (scope:Scope) (x:Str) (ys:ai) (C:Addr) (ex:az) (s:Shared) (H:Hp) (pn:aW):Cx where
 prog:=X.prog
 w:=X.w
 K:=X.K
 mg:=X.mg
 base:=X.base
 A:=X.A
 N:=x::ys
 s₀:=s
 H₀:=H
 env:=Pd ((x,C+1)::mw) C
 outer:=X.stack
 stack:=X.stack
 ex:=ex
 fn:=fun y=>d9 y x
 calm:=X.calm
 pn:=pn
 xe:=pP
structure BlkC (X:Cx) (scope:Scope) (x:Str) (ys:ai) (fr:ij):Prop where
 kind:ztX
 own:(jg).names.lookup x=some .cell
 cf:Vo
 pc:U9
 names:zjM
 xnf:x∉tY
 free:zjh
 has:∀ n,((jg).names.lookup n=some .cell\/(jg).names.lookup n=some .free)->n=x\/wU
 slots:zmr
 ysf:zuS
 ysc:∀ y∈ys,(jg).names.lookup y=some .cell\/(jg).names.lookup y=some .free
 nd:X.N.Nodup
 ndb:RK
theorem xor {M:Model}{A:Around}{E:aT}{s:Shared}{scope:Scope}{globals:Addr}{closure:Ix}{qual:Str}{env0:Env}{Q:dU Env}{x:Str}
    (cf:Vo) (pc:U9)
    (hQ:(DY,(newEnv scope s.heap.objs.size globals ((x,fV)::closure) qual none .none (some env0) builtinsNs),(Nc).push (eg,"cell",.cell none))) :
    wpAny M A (newFunctionEnv scope globals closure [] qual none .none (some env0)) Q E s:=by
  simp only[newFunctionEnv,Option.isSome_some,if_true];refine Zc (wpAny_alloc ?_);show(br,(wpAny_layCells _ (fun name kind cells=>by cases hkc:kind == QW<;>simp[hkc]) _ _ _ _ ?_));rw[cf,pc,JL];simp only[List.forIn_nil];exact Zc (Zk (Zk hQ))
section
variable {X:Cx}{pins:List (Addr × Obj)}{Z:St}{H:Hp}{s:Shared}{scope:Scope}{x:Str}{ys:List Str}{fr:List Nat}{fp:List Addr}
theorem BlkC.cells (B:AB) (I:aq):zaq:=zmi
theorem BlkC.sub (B:AB) (I:aq) {C:Addr}{n:Str}{c:Addr} (h:((x,C)::mw).lookup n=some c):(n=x/\c=C)\/vg:=by
 rw[Zz] at h;cases e:n == x with
 | true=>ext bA e h h; show(cY,(fc,beq_iff_eq.mp e))
 | false =>
  rw[e] at h;show(zI,b,xns h);obtain⟨d,e2⟩:=B.cells I n a;rw[e2] at b;refine .inr ?_;rw[b,e2];rfl
theorem BlkC.get (B:AB) {C:Addr}{n:Str}{c:Addr} (hn:wU) (h:vg):((x,C)::mw).lookup n=some c:=by
 have ne:(n == x)=false:=by
  rw[beq_eq_false_iff_ne];intro e;exact B.xnf (e▸hn)
 rw[Zz,ne];exact xjr hn h
theorem Inv.blkC {h1:Heap}{m1:fA}{t':Nat} (B:AB) (I:aq) (hf:Cw) (hz:∀ b∈fp,(nY b)) (n1:zqq) (k1:oX jN Oi) (c1:h1.IsCell fV none) :
    Inv (X.blkC scope x ys s.heap.objs.size fp s H fY) [] vS H (G7 h1):=by
  have sub:∀ n c,((x,fV)::mw).lookup n=some c->(n=x/\c=fV)\/vg:=ztJ;have sx:((x,fV)::mw).lookup x=some fV:=cA Zz beq_self_eq_true
  have cz:∀ n c,vg->(nY c):=fun n c e=>by
    ext zlI
  show(zru,(zaZ).elim (bg qu) (uT qu));have fz:(je,b∈Bn,nY b):=fun b hb=>by
    ext zmc
  refine⟨⟨I.ok.mod,B.kind,I.ok.glob,I.ok.blt,bo,bC y z c h1 h2,zn,cu y c hy hl,I.ok.hd,I.ok.frames,eZ,jy ⟨?_,Ks⟩,
      I.bs,zcq,fun b o e hb=>?_,(jy,nfs b hb),I.stack,I.stkFree⟩,
    rfl,I.bare,Un.kept k1,⟨m1,n1,fun i y v e1 e2 e3=>?_⟩,Ks,vp,Ks,lG,I.hok.kept k1,?_⟩
  . rcases sub y c h1 with⟨e1,e2⟩|e1<;>rcases sub z c h2 with⟨e3,e4⟩|e3
    . rw[e1,e3]
    . show(Sw,q,c,cz z c e3)
      rw[e2] at q;ext dM q Ru
    . show(Sw,q,c,cz y c e1)
      rw[e4] at q;ext dM q Ru
    . exact I.ok.inj y z c e1 e3
  . rcases B.has y hy with e|e
    . exact(gF,aD e sx)
    . show(mj,c,ec,B.cells I y e,c,B.get e ec)
  . have e:y=x:=D3 hy
    rw[e] at hl;have z:=sx.symm.trans hl;cases z;exact JO _
  . exact ZD (hz b hb)
  . rcases EZ with⟨_,e⟩|e
    . intro q
      show(Sw,q2,b,hz b hb);rw[<- q,e] at q2;ext dM q2 Ru
    . exact (b6 (b6 qu)).1 y c e
  . rcases bg (b6 qu) with z|z
    . exact I.ok.noex b o e z
    . show(wC,Z5 (Zv OP) z)
  . show(zpf,1)
    . ext zik vS
    . show(Fo,k,rfl,∃ k,i=1+k,i-1)
      have e2':dX zbY k ff:=by
        have z:(dX,vS,1+k,ff):=e2;ext zkT
      have e1':dX ys k y:=by
        have z:(dX,(x::ys),1+k,y):=e1;show(rD,Nat.add_comm,Wh)
      ext zup e2';have ev:Z[j]?=some (some v):=by
        cases q:Z[j]? with
        | none=>ext cH q ej
        | some w=>ext zrE
      have eN:X.N[j]?=some y:=by
        ext zhZ
      have my:y∈ys:=Zn e1';obtain⟨m,_,lk⟩:62:=(I.loc)
      obtain⟨u,r,l⟩:62:=lk j y v eN ev (.inr (.inl zas));refine⟨u,r,.inr ⟨B.ysc y my,?_⟩⟩;rcases l with⟨kk,_⟩|⟨_,c,e,o,ho,hd⟩
      . ext zpj
      . exact⟨c,B.get (B.ysf y my) e,o,k1 c o ho,hd⟩
  . rcases EZ with⟨_,e⟩|e
    . exact(gF,e▸c1)
    . show(zoJ,I.cell y c e)
  . rcases EZ with⟨_,e⟩|e
    . show(aK,e,I.hok.fresh (JO _))
    . exact I.freeC y c e
  . have hp':p∈fY:=Hv
    obtain⟨a1,a2,a3,a4,a5⟩:45:=I.pin p hp';exact(bO,k1 _ _ a1,a2,ZD (Zv a1),(aA,(zuP).elim a3 a4),a5)
  . ext zjT
#check _
section
variable {X:Cx}{pins:List (Addr × Obj)}{Z:St}{H:Hp}{s:Shared}{scope:Scope}{x:Str}{ys:List Str}{fr:List Nat}{fp:List Addr}
theorem Inv.unblkC {C:Addr}{s':Shared}{h2:Heap}{σ':St}{H':Hp}{pl:aW} (I:aq) (hf:Cw) (hC:AS C) (J:Inv (X.blkC scope x ys C fp s H fY) pl σ' H' s') (sb:zde) :
    b8 H' Hh:=by
  show(zln,fun b o nb g=>(sb.2 b nb).trans g);have old:∀ b o,s.heap.get? b=some o->b≠C:=fun b o g=>ZD (Z5 (Zv g) hC);have trk:∀ b u,H' b=some u->b≠C:=fun b u hb z=>by
    ext zlL
  refine I.call' (s':=Hh) J.os (ch:=fp) ⟨fun b o e n hb hx=>kp b o K4 (J.base.keep b o e n hb hx),fun b o e n hb hx=>?_,zlR,HG,J.base.tups,J.base.frzs,J.base.tbls⟩ (aL b u hb) J.bare gY
  . show(iH,sl,J.base.slot b o e n hb hx)
    show(aO,sl,kp b _ K4 q)
  . ext zkp
  . refine (J.hok b u hb).stay (cu c v hc q) (fun c q=>q) fun c xs q=>q
    rcases hc with rfl|hc
    . exact kp c v (trk c u hb) q
    . exact kp c v (trk c _ hc) q
  . ext zkk
#check _
section
variable {X:Cx}{scope:Scope}{x:Str}{ys:List Str}{fr:List Nat}{elt iter tg:Expr}{g:TG}{ifs:List Expr}{px pos:Pos}{wi:TI}{tc:TT}{te:TE}
theorem xpc {pins:aW}{s:Shared}{Z:St}{H:Hp}{Q:VK}{U:zqY}{R:aT} (hc:fX) (B:AB) (hi:DS) (hg:(GW,(jg).names.lookup x=some .cell,RK,X.blkC scope x ys C ex s H pn)) (gok:GOk 1 g)
    (hif:G0 (X.blkC scope x ys C ex s H pn)) (he:G4 (X.blkC scope x ys C ex s H pn)) (I:aq) (h:xgu wi 1 g fr tc te Z H Q)
    (fin:(zha,compPost aH X.A X.xe U R bH C (.ok .next) s')) :
    wpAny aH X.A TQ (fun v s1=>wpAny aH X.A (pyIter v) (fun it s2=>wpAny aH X.A (newList []) (fun acc s3 =>
      wpAny aH X.A (newFunctionEnv scope X.env.globals mw [] X.env.qual none .none (some X.env)) (fun cenv s4 =>
        ziE (compPost aH X.A X.xe U R acc cenv.locals)) X.xe s3) X.xe s2) X.xe s1) X.xe s:=by
  show(jH,hi pins s Z H _ I h,V1);obtain⟨it,fp,tn,J,⟨H2,rfl,I2,T,st2,f2,body⟩⟩:121:=h2;have hN:H2 s2.heap.objs.size=none:=I2.hok.fresh (Zj _);obtain⟨W,⟨m0,w0⟩,turn⟩:62:=body s2.heap.objs.size hN;refine JW ?_;generalize hs3:({ s2 with heap:=s2.heap.push { cls:=.type "list",data:=.seq ([]:List Value).toArray } }:Shared)=s3;have k3:∀ b o,s2.heap.get? b=some o->s3.heap.get? b=some o:=fun b o g=>by rw[<- hs3]; exact Ze _ g
  have I3:Inv X pins Z (upd H2 s2.heap.objs.size (.lst [])) s3:=by
    ext zja
  have z2:∀ b∈fp,b<s2.heap.objs.size:=fun b hb=>by
    ext Nl g
  have z3:∀ b∈fp,b<s3.heap.objs.size:=fun b hb=>by
    show(Nl,k3 b o g)
  have f3:∀ b∈fp,FpOk X pins (upd H2 s2.heap.objs.size (.lst [])) b:=fun b hb=>⟨by rw[xj (ZD (z2 b hb))]; exact (f2 b hb).1,(f2 b hb).2⟩
  have st3:tn 0 s3.heap:=zlq;refine xor B.cf B.pc ?_;generalize hh1:(s3.heap.push (eg,"dict",.dict #[])).push (eg,"cell",.cell none)=h1;have k4:(oX,s3.heap.get? b=some o,Oi):=iU o g (bJ,hh1,Ze _ uG)
  have n1:h1.Ns s3.heap.objs.size eX:=by rw[<- hh1]; exact (Heap.Ns.new s3.heap (.type "dict")).keeps vU
  have c1:h1.IsCell zvi none:=by
    rw[<- hh1,<- JL s3.heap (eg,"dict",.dict #[])];exact cP gc
  have I4:=I3.blkC (t':=s3.toks) B f3 z3 n1 k4 c1;show(dO,st4,tn 0 h1,zlp,own',B.own)
  -- the iterator's objects,through the loop
  have stat:∀{H':Hp},IC->∀ b∈fp,FpOk (X.blkC scope x ys s3.heap.objs.size fp s3 kc fY) [] H' b:=fun hn b hb=>by
    obtain⟨_,a1,a2,a3,a4,a5⟩:46:=f3 b hb;exact⟨46,hn b hb,ZD (z3 b hb),(aA,(ztW).elim a1 a2),.inl hb,(Mq,(B.sub I3 h).elim (fun z q=>absurd (z3 b hb) (by rw[<- q,z.2]; exact Ru)) (aA,a4 y c z)),(fG,a5 p Hv)⟩
  have loop:∀ s4:Shared,s4={ s3 with heap:=h1 } ->
      codeAny aH X.A (.compLoop zJ 0 mS nS (Pd ((x,zvi)::mw) s3.heap.objs.size))
        (compPost aH X.A X.xe U R nS s3.heap.objs.size) s4:=by
    rintro s4 rfl;refine xe9 (zjF (X.blkC scope x ys s3.heap.objs.size fp s3 kc fY) vS) ?_ m0
      ⟨104,0,[],_,I4,st4,(jy,(f3 b hb).1),w0⟩
    rintro n s5 (⟨i,xs,H5,I5,st5,fr5,w5⟩:104);rcases turn i n xs H5 w5 with⟨stop,q⟩|⟨go,step⟩
    . show(uU,T.done (X.blkC scope x ys s3.heap.objs.size fp s3 kc fY) rfl rfl rfl hc i [] s5 _ H5 pP I5 Uy st5 stop,zeN s6 I6)
      subst hr;show(fD,m,hm,I6.loc)
      exact fin _ _ H5 s6 m znb I6.free hm (fun h2 sb=>I3.unblkC f3 bo I6 sb) q
    . show(zhX,T.item (X.blkC scope x ys s3.heap.objs.size fp s3 kc fY) rfl rfl rfl hc i [] s5 _ H5 pP I5 Uy st5 go,(fun _ s7 ⟨y,H7,I7,r7,y7,st7,fr7⟩=>?_));show(uU,hg _ _ _ _ _ own' B.ndb _ s7 _ H7 y u _ I7' r7 zpE,(fun _ s8 ⟨σ8,H8,I8,q8,l8,k8⟩=>?_));have back:∀{s9:Shared}{H9:Hp}{xs':List V},Inv (X.blkC scope x ys s3.heap.objs.size fp s3 kc fY) ([]++xf3 fp s7.heap) σ8 H9 s9->zrz ->
          (zjG (X.blkC scope x ys s3.heap.objs.size fp s3 kc fY) vS):=fun {s9 H9 xs'} I9 ⟨m',lt,w9⟩=>by
        show(cR,m',lt,⟨104,aM,xs',H9,zmY,zmb,gY,w9⟩)
        . by_cases lj:j<1
          . ext zky
          . show(aK,k8 j aa,e)
        ext Xk st7 VS
      show(uU,hif _ _ _ _ _ _ s8 _ H8 _ I8 q8,tT ok s9 H9 I9 q9);cases ok with
      | false =>
        ext zsd
      | true =>
        rw[if_pos rfl] at q9 ⊢;refine Ja (he _ _ _ _ _ _ s9 _ H9 _ I9 q9) (fun ev s10 ⟨yv,H10,I10,r10,hl,len,w10⟩=>?_) fun _ _ z=>z.elim;refine Ja (xcb (X:=X.blkC scope x ys s3.heap.objs.size fp s3 kc fY) _ s10 _ H10 nS [yv] nS [ev] zjR I10 rfl (Cp r10) zmV)
          (fun _ s11 ⟨_,H11,I11,_,e11⟩=>?_) zgD
        subst e11;exact back I11 w10
  exact codeAny_compStart_list S9 (T.self _ 0 _ _ _ st4 S9)
theorem xsd (hc:fX) (B:AB) (hi:DS) (hg:(GW,(jg).names.lookup x=some .cell,RK,X.blkC scope x ys C ex s H pn)) (gok:GOk 1 g) (hif:G0 (X.blkC scope x ys C ex s H pn)) (he:G4 (X.blkC scope x ys C ex s H pn))
    (hs:MO:=by ext CG):PE X zJ (xgu wi 1 g fr tc te):=by
  intro pins s Z H Q I h;show(zjt,QX (use:=none) rfl hs zcP B.kind B.names (xpc hc B hi hg gok hif he I h fun C l H' s' m _ _ hm iv q=>?_))
#check _
theorem xom {env:Env}{scope:Scope}{x:Str} (nc:zkF) (n:Str) (h:(yo).names.lookup n=some .cell\/(yo).names.lookup n=some .free):n=x\/wU:=by
 have key:∀ k,(yo).names.lookup n=some k->zty->n=x\/wU:=fun k e hk=>by
  ext ziq
  .rename_i q
   injection ey with e1 e2
   subst e1;have:j=.free:=by
    ext zni
   subst this;exact .inr (Zg.mpr Pj)
  .ext zrh;rcases hk with z|z
   .show(cY,nc _ hy z)
   .subst z;exact .inr (Zg.mpr Pj)
 exact h.elim (fun e=>key _ e (.inl rfl)) (fun e=>key _ e (.inr rfl))
theorem xc1 {env:Env}:∀{names:OR}{x:Str},names.lookup x=some .cell ->
    (zli).lookup x=some .cell
  | [],_,h=>vM
  | (n,k)::r,x,h=>by
    rw[Zz] at h;rw[Zo]
    dsimp only
    cases e:x == n with
    | true =>
      ext bA e h h;rw[ay aj,Zz,e]
    | false =>
      rw[e] at h;split<;>(rw[Zz,e]; exact xc1 h)
noncomputable def xp5 (scope sc0:Scope) (N0:ai) (x:Str) (ys:ai) (fr:ij):Bool :=
 X4&&(Mz zaI)&&(Dn,zdK||jf == x)&&(Dn,zcX||VX) &&
 (tY).all (fun n=>Xy)&&fr.map (fun i=>N0[i]?) == ys.map some&&ys.all (fun y=>scope.names.lookup y == some .free)&&decide N0.Nodup&&(bG RK)&&(bG (x∉tY))
theorem xuc {X:Cx}{scope sc0:Scope}{N0:ai}{x:Str}{ys:ai}{fr:ij} (chk:xp5 scope sc0 N0 x ys fr=true) (es:Pk) (eN:X.N=N0) (cf:Vo:=by ext xF) (pc:U9:=by ext xF):AB:=by
 unfold xp5 at chk;ext zld;obtain⟨⟨⟨⟨⟨⟨⟨⟨⟨a1,a2⟩,a3⟩,a4⟩,a5⟩,a6⟩,a7⟩,a8⟩,a9⟩,b1⟩:=chk;have nc:zkF:=fun y hy z=>by
  show(jZ,q,a3 y hy,z);simpa using q
 refine⟨a1,xc1 a2,cf,pc,zeQ,b1,ztK,fun n h=>xom nc n h,aD eN a6,zn,zbw,aD eN a8,a9⟩
 .ext znV
 .ext VF
theorem xdy {env:Env} (hk:env.scope.kind=.function):∀{names:OR}{x:Str},names.lookup x=some .free->env.kindOf x=some .cell ->
    (zli).lookup x=some .cell
  | [],_,h,_=>vM
  | (n,k)::r,x,h,hc=>by
    rw[Zz] at h;rw[Zo]
    dsimp only
    cases e:x == n with
    | true =>
      ext bA e h h;have en:=beq_iff_eq.mp e;subst en;rw[aC (by simp[hk,hc]),Zz,e]
    | false =>
      rw[e] at h;split<;>(show(cD,Zz,e,xdy hk h hc))
noncomputable def xrp (scope sc1 sc0:Scope) (x:Str) (N1:ai) (zs:ai) (ys:ai) (fr:ij):Bool :=
 X4&&zs.all (fun x=>CN zaI .local)&&(Dn zdK)&&(Dn,zcX||VX) &&
 (tY).all (fun n=>n == x||((CN,sc1.names.lookup n,.free)&&Xy))&&fr.map (fun i=>N1[i]?) == ys.map some&&ys.all (fun y=>scope.names.lookup y == some .free)&&decide N1.Nodup&&(bG yC)&&(sc0.kind == .function)&&(Mz,sc1.names.lookup x)
theorem xrx {X:Cx}{scope sc1 sc0:Scope}{x:Str}{ys1 zs ys:ai}{fr:ij}{C:Addr}{ex:az}{s:Shared}{H:Hp}{pn:aW} (chk:xrp scope sc1 sc0 x (x::ys1) zs ys fr=true) (es:Pk):BlkG (X.blkC sc1 x ys1 C ex s H pn) scope zs ys fr:=by
 unfold xrp at chk;simp only[Z9,beq_iff_eq,YY,decide_eq_true_eq,Bool.or_eq_true] at chk;obtain⟨⟨⟨⟨⟨⟨⟨⟨⟨⟨a1,a2⟩,a3⟩,a4⟩,a5⟩,a6⟩,a7⟩,a8⟩,a9⟩,b1⟩,b2⟩:=chk;show(ap,nc,M7,uB (yR,a3 y hy),⟨a1,a2,nc,zeQ,wg,zuV,a6,zn,zbw,a8,a9⟩)
 .rcases a4 y hy with z|z
  .rw [hl] at z;simp at z
  .exact z
 .show (relabel sc1 X.env).names.lookup n=some .cell;rcases a5 n hn with z|⟨z1,z2⟩
  .rw [z];exact xc1 b2
  .exact xdy (aD es b1) z1 (by unfold Env.kindOf; ext aK es z2)
 .ext VF
#check L2
namespace L2
open PySem PySem.Spec PyProof.Rows XL PySem.W
section
variable {prog:Program}{w:World}{A:Around}{s:Shared}{a b:Addr}{E:Value->Shared->Prop}
theorem xox {oa ob:Obj}{es es2:jQ}{ep ep2:Nat}{id:String}{Q:oz} (ga:yg oa) (da:ztl) (gb:Xz) (db:zrA) (na:w4) (nb:tD b) (sz:es.size≠es2.size) (q:TK):wpAny aR A Nu Q E s:=by
 ext zhC;rw[aC (bF sz)];exact Zc (wpAny_rule (Zk q))
theorem xjp:zmo (fun A R s=>(bD,Hs,s.TypeIs cW "dict",(zta,Q false s->wpAny aR A.in1 Nu Q E s),R (.ok zce) s)) :=
 .of_wp fun A R s ⟨ta,tb,al,h⟩=>Zc (xh5 ta (Zc (YW tb (b:=true) zvk (by
  rw[mQ];exact Zc (zeK (al _ _ _ TY))))))
#check _
section
variable {X:Cx}
noncomputable def xx8:R2:=(EW,∃ d e kvs,(ax,x=b7,y=.ref e,oK,aE e (.dK []),mV zfn))
theorem xt8 (hu:yc):mh .NotEq xx8:=by
 intro pins s Z H x y u v Q I rx ry h;obtain⟨d,e,kvs,rfl,rfl,ed,ee,q⟩:105:=h;ext zfG;show(cX,v=Zs _,ry);cases kvs with
 | nil=>exact WC ((xsq (xum I ed ee jP) ztY).2.2 X.xe _ (wt q))
 | cons kv r =>
  ext zom ed;obtain⟨_,nb,⟨vb,rb,db⟩⟩:43:=xct I.hok ee;obtain⟨oa,es,ep,ga,xa,ha,ka,pa,nda⟩:106:=id da;obtain⟨ob,es2,ep2,gb,xb,hb,kb,pb,ndb⟩:106:=id db;show(af,la,pa.length,la2,ra.length);show(af,lb,pb.length,lb2,rb.length);have sz:es.size≠es2.size:=by
   simp at la la2 lb lb2;omega
  exact WC (QE da.typeIs db.typeIs Q8 (JU Q8 da.typeIs PySem.F.entry_dict_ne zpV xjp (bO,da.typeIs,db.typeIs,fun id E Q q=>xox ga ha gb hb na nb sz q,dJ,wt q)) ztY)
inductive xwz (xs:ag) (H:Hp) (Q:VK):Prop
 | mk (d:Addr) (kvs:aI) (ss:ai) (e_:xs=[b7]) (r_:oK/\kvs.map (·.1)=ss.map ZW/\∀ l:Addr,iP->Q bH (dZ l zbd))
theorem xim (hc:fX):xcf X Bp xwz:=by
 intro pins s Z H xs us Q I r h;obtain⟨d,kvs,ss,rfl,e,ek,q⟩:=h;ext M6;obtain⟨z,hsys,⟨vs,rel,o,es,ep,ho,hx,hdat,hk,hp,hn⟩⟩:43:=Kd;ext zig
 have lk:kvs.length=ss.length:=by
  have z:=congrArg Ys ek;ext rD Za Za
 refine kdl_call (xjf hsys hx hdat) gU ho zri fun h' tk acc c hk' hS' hacc=>?_;have I3:ia (iA h'):=I.kept hk';ext Vx;have e1:acc.toList.length=(ss.map V.str).length:=by
  rw[Za,Jc,hacc.1];omega
 show(o5,(CJ,I3.adopt n0 I.sz nL nC nP (show xa8 X.prog X.w _ h' _ zbd from (Vc,by rw[Za,<- lk]; exact z)),q _ n0),eu',bQ acc u,zcc)
 show(ae,en,he,ev,hacc.2 j u eu');rw[Zd,Zh] at ey;ext lU x ex ey;show(on,kv,h1,h2,xga hp (i:=j) (e:=en) (aD Jk he));have hk2:(kvs.map (·.1))[j]?=some (ZW x):=by rw[ek,Zd,ex]; rfl
 ext zhf
inductive xxm (K:Zf) (xs:ag) (H:Hp) (Q:VK):Prop
 | mk (p:Addr) (ns:iI) (e_:xs=[eB]) (r_:SqL K H p Sj/\0<ns.length/\∀ m∈ns,(jW m))
theorem xrm (hc:fX):xcf X (oU "max") (xxm X.K):=by
 intro pins s Z H xs us Q I r h;obtain⟨p,ns,rfl,hs,l0,q⟩:=h;ext zea p;obtain⟨its,vi,⟨o,n,g,c,_,d⟩,_⟩:63:=I.list hs;ext zhm;have en:ns=zs.toList.map (·.1):=zle
 ext zkE
 refine max_intList gU il aa (bC v h' tk hv hk);unfold intItems at hv;rw[Array.getElem?_map,Zh] at hv;ext lU p2 hp2 hv;refine(bv,.int p2.1,H,I.kept hk,fc p2.2,q _ ?_);show(Ff,en,(dk,p2,W6.mpr (Array.mem_of_getElem? hp2)))
#check _
#check L2
namespace Geo
noncomputable def dn (y r:Int):Int:=(gW,y,r,1,-1)
noncomputable def upN (y r:Int):Nat:=(gW,y,r,fM r y,fM y r)
noncomputable def wayI (b:Bool):Int:=(tF,-1,1)
noncomputable def lvN (w x:Int) (b:Bool):Nat:=(tF,(x+1).toNat,(fM,w+2,x))
noncomputable def upL (x y r:Int):kh:=(Zx (upN y r)).map (gm i (x,y+dD*dn y r))
noncomputable def lvL (w x:Int) (b:Bool) (r:Int):kh:=(Zx (lvN w x b)).map (gm i (x+dD*wayI b,r))
noncomputable def cells (w x y:Int) (b:Bool) (r:Int):kh:=upL x y r++lvL w x b r
theorem xgq {x y r u v:Int}:(Mf,upL x y r,u=x/\zeL):=by
 unfold upL upN dn;rw[Zg];constructor
 .ext Vz
  subst e1;refine FF;split at hi
  .rename_i h
   rw[aC h] at e2;left; omega
  .rename_i h
   rw[ay h] at e2;right; omega
 .rintro ⟨rfl,h|h⟩
  .refine (fJ,fM v y,?_)
   .rw [ZS,aC aa]; omega
   .rw [aC aa];show(Np,v,y,v-y)
  .refine (fJ,fM y v,?_)
   .rw [ZS,rT]; omega
   .ext ib aa;show(Np,y,v,y-v)
theorem xvw {w x r u v:Int}{b:Bool} (h1:1<=x) (h2:x<=w):(Mf,lvL w x b r,zlb):=by
 unfold lvL lvN wayI;rw[Zg];cases b with
 | true =>
  ext Sl;constructor
  .ext Vz
   show(aJ,e2.symm,aa,aa)
  .rintro ⟨rfl,h⟩;show(gH,fM x u,ou ZS);show(Np,x,u,x-u)
 | false =>
  ext vt;constructor
  .ext Vz
   show(aJ,e2.symm,aa,aa)
  .rintro ⟨rfl,h⟩;show(gH,fM u x,ou ZS);show(Np,u,x,u-x)
theorem xdp {w x y r u v:Int}{b:Bool} (h1:1<=x) (h2:x<=w):(Mf,cells w x y b r,(u=x/\zeL)\/zlb):=by
 unfold cells;rw[Zw,xgq,xvw h1 h2]
noncomputable def btw (v a b:Int):Prop:=min a b<=v/\v<=max a b
instance (v a b:Int):Decidable (btw v a b):=inferInstanceAs (Decidable (_/\_))
noncomputable def meet (l m:kh):dc jT:=zox
theorem xc5 {l m:kh}{p:Prop} [Decidable p] {d:jT} (h:∀ c,OV l m p d):meet l m=(CI p d):=by
 unfold meet;by_cases hp:p
 .rw [aC hp];obtain⟨h1,h2⟩:=(h d).mpr (fc hp);cases e:zox with
  | none =>
   show(cJ,Ye,e,absurd (decide_eq_true h2) (e d h1))
  | some c =>
   show(af,hm,Wq e,hl,Jm e);rw[((h c).mp ⟨hl,of_decide_eq_true hm⟩).2]
 .rw [ay hp,Ye];intro c hc hd;exact hp ((h c).mp ⟨hc,of_decide_eq_true hd⟩).1
theorem xml {w xn yn rn xf yf rf:Int}{b:Bool} (n1:1<=xn) (n2:xn<=w) (f1:1<=xf) (f2:xf<=w) (hr:rn≠rf) (hx:zcl) (c:jT) :
    OV zbp zbo RT (xn,rf):=by
  obtain⟨u,v⟩:=c;rw[xdp n1 n2,xdp f1 f2,W7.injEq];unfold btw;cases b<;>simp only[if_true,ZC,if_false] at hx ⊢<;>constructor
  . rintro ⟨h|h,h'|h'⟩<;>omega
  . ext zrs
    . show(fh,j0 e)
    . ext cY FM
  . rintro ⟨h|h,h'|h'⟩<;>omega
  . ext zrs
    . show(fh,j0 e)
    . ext cY FM
theorem xra {w xn yn rn xf yf rf:Int}{b:Bool} (n1:1<=xn) (n2:xn<=w) (f1:1<=xf) (f2:xf<=w) (hr:rn≠rf) (hx:zcl) :
    meet zbp zbo=(CI RT (xn,rf)):=xc5 (xml n1 n2 f1 f2 hr hx)
theorem xr9 {w xn yn rn xf yf rf:Int}{b:Bool} (n1:1<=xn) (n2:xn<=w) (f1:1<=xf) (f2:xf<=w) (hr:rn≠rf) (hx:zcl) :
    meet zbo zbp=(CI RT (xn,rf)):=xc5 fun c=>(aD,and_comm,xml n1 n2 f1 f2 hr hx c)
theorem xqz {w x1 y1 r1 x2 y2 r2:Int} (a1:1<=x1) (a2:x1<=w) (b1:1<=x2) (b2:x2<=w) (hx:x1≠x2) :
    meet AA Dm=(gW x2 x1 (IE,vN,(x1,r2),CI yO (x2,r1)) none):=by
  have mem2:∀ u v,(u,v)∈cells w x2 y2 false r2↔(u=x2/\((y2<=v/\v<r2)\/(r2<v/\v<=y2)))\/(v=r2/\x2<=u/\u<=w+1):=fun u v=>by
    rw[xdp b1 b2]; simp
  have mem1:∀ u v,(u,v)∈cells w x1 y1 true r1↔(u=x1/\((y1<=v/\v<r1)\/(r1<v/\v<=y1)))\/(v=r1/\0<=u/\u<=x1):=fun u v=>by
    rw[xdp a1 a2]; simp
  by_cases hlt:x2<x1
  . rw[aC hlt]
    by_cases e:r1=r2
    . ext zpP;unfold meet;show (RV++O2).find? _=_;rw[Qm];have hn:(RV).find? (Rm,cells w x2 y2 false r1)=none:=by
        rw[Ye];rintro ⟨u,v⟩ hc hd;show(CH,xgq.mp hc,(mem2 u v).mp (of_decide_eq_true hd));omega
      rw[hn];have hv:O2=(x1,r1)::(O2).tail:=by
        unfold lvL lvN;show(Fo,n,hn,∃ n,(x1+1).toNat=gP,x1.toNat)
        simp only[if_true,hn,Yr,Zo,List.tail_cons];simp
      rw[hv,X0 ((mem2 x1 r1).mpr (.inr EQ))];rfl
    . by_cases hb:vN
      . have key:∀ c,OV RV Dm True (x1,r2):=by
          ext zmn mem2
          . rintro ⟨h,h'|h'⟩<;>refine eS trivial<;>omega
          . ext zms
        have z:=xc5 key;rw[aC hb];unfold meet at z ⊢;show (RV++O2).find? _=_;rw[Qm,z];rfl
      . rw[ay hb]
        refine xc5 (p:=yO) (d:=(x2,r1)) ?_;ext Kq;rw[mem1,mem2,W7.injEq];unfold btw at hb ⊢;constructor
        . rintro ⟨h|h,h'|h'⟩<;>omega
        . show(X5,.inr EQ,.inl FM)
  . rw[ay hlt]
    have:=xc5 (l:=AA) (m:=Dm) (p:=False) (d:=(0,0)) (by
      ext Kq;rw[mem1,mem2];constructor
      . rintro ⟨h|h,h'|h'⟩<;>omega
      . rintro ⟨h,_⟩; exact h.elim)
    ext lA
theorem xop {w x1 y1 r1 x2 y2 r2:Int} (a1:1<=x1) (a2:x1<=w) (b1:1<=x2) (b2:x2<=w) (hx:x1≠x2) :
    meet Dm AA=(gW x2 x1 (IE,yO,(x2,r1),CI vN (x1,r2)) none):=by
  have mem2:∀ u v,(u,v)∈cells w x2 y2 false r2↔(u=x2/\((y2<=v/\v<r2)\/(r2<v/\v<=y2)))\/(v=r2/\x2<=u/\u<=w+1):=fun u v=>by
    rw[xdp b1 b2]; simp
  have mem1:∀ u v,(u,v)∈cells w x1 y1 true r1↔(u=x1/\((y1<=v/\v<r1)\/(r1<v/\v<=y1)))\/(v=r1/\0<=u/\u<=x1):=fun u v=>by
    rw[xdp a1 a2]; simp
  by_cases hlt:x2<x1
  . rw[aC hlt]
    by_cases e:r1=r2
    . ext zpP;unfold meet;show (upL x2 y2 r1++zbR).find? _=_;rw[Qm];have hn:(upL x2 y2 r1).find? (Rm AA)=none:=by
        rw[Ye];rintro ⟨u,v⟩ hc hd;show(CH,xgq.mp hc,(mem1 u v).mp (of_decide_eq_true hd));omega
      rw[hn];have hv:zbR=(x2,r1)::(zbR).tail:=by
        unfold lvL lvN;show(Fo,n,hn,∃ n,(fM,w+2,x2)=gP,(fM,w+1,x2))
        simp only[ZC,if_false,hn,Yr,Zo,List.tail_cons];simp
      rw[hv,X0 ((mem1 x2 r1).mpr (.inr EQ))];rfl
    . by_cases hb:yO
      . have key:∀ c,(OV,upL x2 y2 r2,AA,True,(x2,r1)):=by
          ext zmn mem1
          . rintro ⟨h,h'|h'⟩<;>refine eS trivial<;>omega
          . ext zms
        have z:=xc5 key;rw[aC hb];unfold meet at z ⊢;show (upL x2 y2 r2++lvL w x2 false r2).find? _=_;rw[Qm,z];rfl
      . rw[ay hb]
        refine xc5 (p:=vN) (d:=(x1,r2)) ?_;ext Kq;rw[mem2,mem1,W7.injEq];unfold btw at hb ⊢;constructor
        . rintro ⟨h|h,h'|h'⟩<;>omega
        . show(X5,.inr EQ,.inl FM)
  . rw[ay hlt]
    have:=xc5 (l:=Dm) (m:=AA) (p:=False) (d:=(0,0)) (by
      ext Kq;rw[mem2,mem1];constructor
      . rintro ⟨h|h,h'|h'⟩<;>omega
      . rintro ⟨h,_⟩; exact h.elim)
    ext lA
theorem meet_at {l m:kh}{i:Nat}{c:jT} (hc:aF l c) (no:∀ d∈UQ,d∉m) (hm:c∈m):meet l m=some c:=by
 obtain⟨h,hi⟩:=Zl.mp hc;have e:ztv=l:=by
  rw[<- hi,List.getElem_cons_drop,Wu]
 have hn:(UQ).find? (Rm m)=none:=by
  ext zks
 have z:(ztv).find? (Rm m)=some c:=by
  rw[Qm,hn,X0 hm];rfl
 ext cJ e z z
theorem meet_no {l m:kh} (no:∀ d∈l,d∉m):meet l m=none:=by
 unfold meet;ext zks
noncomputable def absI (a:Int):Int:=(gW,a,0,-a,a)
noncomputable def acr (w x:Int) (b:Bool):Int:=(tF,x,w+1-x)
theorem tri {a b c:Int}:(eV a c)<=(eV a b)+(eV b c):=by
 unfold absI;ext zam
theorem xfu {v a b:Int} (h:btw v a b):absI (a-b)=(eV a v)+(eV v b):=by
 unfold btw at h;unfold absI;ext zam
theorem xne {cn cf yn rn yf rf:Int} (hc:cn<cf) (hr:rn≠rf) (h:RT) :
    zsR<zsS\/(zsR=zsS/\cn*(eV yn rn)+cf*(eV yf rf)<cn*(eV yn rf)+cf*(eV yf rn)):=by
  show(af,e1,xfu h,e2,tri (a:=yf) (b:=rf) (c:=rn));by_cases c:absI (yf-rn)=(eV yf rf)+(eV rf rn)
  . show(uY,eS aa)
    rw[c,e1,Wv,Wv];have p:0<(eV rf rn):=by
      unfold absI;ext iG
    show(bZ,Int.mul_lt_mul_of_pos_right hc p)
  . ext cY aa
theorem xs8 (a b:Int):absI (a-b)=absI (b-a):=by
 unfold absI;ext PJ
theorem ex_pair {w x1 y1 r1 x2 y2 r2:Int}{b1 b2:Bool} (a1:1<=x1) (a2:x1<=w) (c1:1<=x2) (c2:x2<=w) (hx:x1≠x2) (hs:(b1,r1)≠(b2,r2)) (hm:meet (cells w x1 y1 b1 r1) (cells w x2 y2 b2 r2)≠none) :
    zqS+(I0+(eV y2 r1))<(Ka+(eV y1 r1))+zqR \/
    (b1=b2/\zqS+(I0+(eV y2 r1))=(Ka+(eV y1 r1))+zqR /\
      Ka*(eV y1 r1)+acr w x2 b2*(eV y2 r2)<acr w x1 b2*(eV y1 r2)+I0*(eV y2 r1)):=by
  by_cases hb:b1=b2
  . subst hb
    have hr:r1≠r2:=fun e=>hs (dF e);by_cases hn:if b1 then x1<x2 else x2<x1
    . rw[xra a1 a2 c1 c2 hr hn] at hm
      have hbt:vN:=by
        by_cases z:vN
        . exact z
        . ext DB z
      have hc:Ka<I0:=by
        ext zqA hn
      rcases xne (yf:=y2) hc hr hbt with z|⟨z,z2⟩
      . ext cY aa
      . show(fh,Go aa z2)
    . have hf:if b1 then x2<x1 else x1<x2:=by
        cases b1<;>simp at hn ⊢<;>omega
      rw[xr9 c1 c2 a1 a2 (Z2 hr) hf] at hm;have hbt:yO:=by
        by_cases z:yO
        . exact z
        . ext DB z
      have hc:I0<Ka:=by
        ext zqA hf
      rcases xne (yf:=y1) hc (Z2 hr) hbt with z|⟨z,z2⟩
      . ext cY aa
      . ext fh EQ
  . refine .inl ?_
    have t1:=tri (a:=y2) (b:=r2) (c:=r1);show(af,t2,tri (a:=y1) (b:=r1) (c:=r2),n1,xs8 r2 r1);cases b1 with
    | true =>
      cases b2 with
      | true=>ext j4 hb
      | false =>
        rw[xqz a1 a2 c1 c2 hx] at hm;by_cases z:x2<x1
        . rw[if_pos z] at hm
          have ht:btw r2 y1 r1\/btw r1 y2 r2:=by
            by_cases z1:vN
            . ext cY z1
            . ext zsW
              . ext fh z2
              . ext DB z2
          unfold acr;simp only[if_true,ZC,if_false];rcases ht with u|u
          . show(bZ,xfu u)
          . show(bZ,xfu u)
        . ext DB z
    | false =>
      cases b2 with
      | false=>ext j4 hb
      | true =>
        rw[xop c1 c2 a1 a2 (Z2 hx)] at hm;by_cases z:x1<x2
        . rw[if_pos z] at hm
          have ht:btw r2 y1 r1\/btw r1 y2 r2:=by
            by_cases z1:vN
            . ext cY z1
            . ext zsW
              . ext fh z2
              . ext DB z2
          unfold acr;simp only[if_true,ZC,if_false];rcases ht with u|u
          . show(bZ,xfu u)
          . show(bZ,xfu u)
        . ext DB z
#check Geo
namespace Drw
variable {S:Type}
#check Drw
namespace Kp
noncomputable def pc (n:Nat):Nat:=if h:n=0 then 0 else n % 2+pc (n / 2)
termination_by n
decreasing_by omega
section
variable {N S:Type} [DecidableEq N] [DecidableEq S]
structure Mt (room:og) (so:mF) (ho:oy):Prop where
 iff:∀ n s,zsu
 rm:xN F9 Se
theorem Mt.inj {room:og}{so:mF}{ho:oy} (m:RF) {a b:N}{s:S} (ha:zcW) (hb:so b=some s):a=b:=by
 have x:=(m.iff a s).mp ha;show(cJ,(m.iff b s).mp hb,x,(ZH.inj x).symm)
theorem filterMap_nd {so:mF}:∀{T:uE},T.Nodup->(∀ a∈T,∀ b∈T,∀ s,zcW->so b=some s->a=b)->(T.filterMap so).Nodup
 | [],_,_=>JV
 | a::T,nd,inj=>by
  rw[Z8] at nd;have ih:=filterMap_nd jI fun x hx y hy=>inj x (Zi _ hx) y rW;rw[JI];cases e:so a with
  | none=>exact ih
  | some s =>
   refine Z8.mpr ⟨lM,ih⟩;show(ae,b,hb,eb,Jl.mp z);rw[inj a gE b (Zi _ hb) s e eb] at nd;exact nd.1 hb
theorem filterMap_len {so:mF}:∀{T:uE},zqz->(T.filterMap so).length=T.length
 | [],_=>rfl
 | a::T,h=>by
  rw[JI];cases e:so a with
  | none =>
   show(zdm,h a gE)
  | some s =>
   show (s::T.filterMap so).length=_;rw[ZG,ZG,filterMap_len zbs]
noncomputable def tog (room:og) (T:uE) (s:S):Bool:=T.any fun n=>bG Se
theorem hall {room:og}{so:mF}{ho:oy} (m:RF) {ss:List S} (hr:N4) {T:uE} (nd:T.Nodup) (h:zqz):T.length<=ss.countP (tog room T):=by
 rw[YJ,<- filterMap_len h];show(Oq,filterMap_nd nd Nf,E6);show(ae,n,hn,e,Jl.mp hs);ext zix hn
structure Crowd (room:og) (so:mF) (name:N) (hs:uE):Prop where
 nd:(BU).Nodup
 has:zpR
 all:∀ c∈BU,∀ s∈room c,∃ h∈hs,(Ti h)
theorem Crowd.count {room:og}{so:mF}{ho:oy} (m:RF) {name:N}{hs:uE} (c:Crowd room so name hs) {ss:List S} (nd:ss.Nodup) (hr:N4):ss.countP (tog room BU)=hs.length:=by
 rw[YJ];have ndh:=FY c.nd;refine Nat.le_antisymm ?_ ?_
 .rw [<- filterMap_len c.has];show(Oq,LE nd,au s hs');show(ae,n,hn,e,Jp.mp (Zy.mp hs').2);show(ae,h,hh,e',c.all n hn s zbe);exact Jl.mpr ⟨h,hh,e'⟩
 .rw [<- filterMap_len c.has];show(zps,filterMap_nd ndh Nf);show(zix,Zi _ hn)
theorem tog_perm {room:og}{T T':uE} (p:T.Perm T') (s:S):tog room T s=tog room T' s:=by
 unfold tog;rw[Jr,Jp,Jp];constructor
 .ext rh n h e;show(aJ,n,p.mem_iff.mp h,e)
 .ext rh n h e;show(aJ,n,p.mem_iff.mpr h,e)
noncomputable def upd1 {α β:Type} [D2] (f:zgj) (a:α) (b:β):zgj:=aA (kE,z,a,some b,f z)
structure Hand (room:og) (dom:N->Bool) (so:mF) (ho:oy) (wait:S):Prop where
 iff:(xN,s≠wait,zsu)
 rm:xN F9 Se
 no:∀ n,so n≠some wait
 dm:∀ n,(so n).isSome=dom n
theorem Mt.hand {room:og}{so:mF}{ho:oy} (m:RF) {s:S} (h:Bo):zeB (fun n=>(so n).isSome) :=
 ⟨fun n s _=>m.iff n s,m.rm,fun n e=>(by show(cH,(m.iff n s).mp e,h)),p5⟩
theorem Hand.step {room:og}{dom:N->Bool}{so:mF}{ho:oy}{s s1:S}{a:N} (g:zeB dom) (ra:CA) (e:so a=some s1):Hand room dom (upd1 so a s) (upd1 ho s a) s1:=by
 show(CP,ne,s1,s,g.no a (z▸e),⟨SB,SB,au n hx,c8 n⟩)
 .unfold upd1;by_cases h1:n=a
  .ext ztV
   .rw [aC h2,h2];simp
   .ext ib h2;constructor
    .ext NJ h2
    .intro z
     have:=(g.iff n x h2).mpr z;rw[e] at this;show(dM,(ZH.inj this).symm,hx)
  .ext ib h1;by_cases h2:x=s
   .subst h2;rw[bW];constructor
    .ext zts
    .ext NJ h1
   .ext ib h2;exact g.iff n x h2
 .ext zak
  .ext zot
  .exact g.rm n x hx
 .ext zak
  .exact ne zcy
  .rename_i h1
   have x1:=(g.iff n s1 ne).mp hx;rw[(g.iff a s1 ne).mp e] at x1;exact h1 (ZH.inj x1).symm
 .unfold upd1;split
  .rename_i h1
   rw[h1,<- g.dm a,e];rfl
  .exact g.dm n
theorem Hand.last {room:og}{dom:N->Bool}{so:mF}{ho:oy}{s:S}{a:N} (g:zeB dom) (ra:CA) (e:Cu a):Mt room (upd1 so a s) (upd1 ho s a)/\∀ n,(upd1 so a s n).isSome=((d9 n a)||dom n):=by
 show(dE,⟨au n x,SB⟩,c8 n)
 .unfold upd1;by_cases h1:n=a
  .ext ztV
   .rw [aC h2,h2];simp
   .ext ib h2;constructor
    .ext NJ h2
    .intro z
     show(zdm,(g.iff n x h2).mpr z)
  .ext ib h1;by_cases h2:x=s
   .subst h2;rw[bW];constructor
    .ext zts
    .ext NJ h1
   .ext ib h2;exact g.iff n x h2
 .ext zak
  .ext zot
  .exact g.rm n x hx
 .unfold upd1;split
  .rename_i h1
   simp[h1]
  .rename_i h1
   rw[<- g.dm n];simp[h1]
#check _
inductive Rch {α:Type} (f:IZ):bX α α
 | refl (a:α):Rch f a a
 | step {a b c:α}:KQ->f b=some c->Ts
theorem Rch.trans {α:Type}{f:IZ}{a b c:α} (h:KQ) (g:Rch f b c):Ts:=by
 induction g with
 | refl=>exact h
 | step _ e ih=>exact .step ih e
theorem Rch.head {α:Type}{f:IZ}{a b:α} (h:KQ):a=b\/∃ d,f a=some d/\Rch f d b:=by
 induction h with
 | refl=>ext wT
 | step g e ih =>
  rcases ih with rfl|⟨d,e1,g1⟩
  .show(fh,(cq,e,.refl _))
  .show(fh,⟨d,e1,.step g1 e⟩)
theorem Rch.lin {α:Type}{f:IZ}{a b c:α} (h:KQ) (g:Ts):Rch f b c\/Rch f c b:=by
 induction h with
 | refl=>ext cY g
 | step h e ih =>
  rcases ih with z|z
  .rcases z.head with rfl|⟨d,e1,g1⟩
   .show(fh,.step (.refl _) e)
   .rw [e] at e1;cases e1;ext cY g1
  .show(fh,.step z e)
theorem Rch.det {α:Type}{f:IZ}{a b c:α} (h:KQ) (n1:f b=none) (g:Ts) (n2:f c=none):b=c:=by
 rcases h.lin g with z|z
 .rcases z.head with e|⟨d,e1,_⟩
  .exact e
  .ext Ag n1 e1
 .rcases z.head with e|⟨d,e1,_⟩
  .exact e.symm
  .ext Ag n2 e1
inductive KS (N S:Type) where
 | ask (crowd:uE) (asked:oy) (i j:Nat)
 | hand (so:mF) (ho:oy) (asked:oy) (s:S)
 | out (crowd:uE)
 | fin (so:mF) (ho:oy)
section
variable {N S:Type} [DecidableEq N] [DecidableEq S]
noncomputable def kstep (room:og) (so:mF) (ho:oy):KS N S->(dc (KS N S))
 | BT=>match crowd[i]? with
  | none=>some (.out crowd)
  | some a=>match uL[j]? with
   | none=>some (IP aM 0)
   | some s=>match iZ with
    | some _=>some (IP i eE)
    | none=>match ho s with
     | none=>some zoe
     | some h=>some zoo
 | zeT=>match iZ with
  | none=>none
  | some a=>match so1 a with
   | none=>some (.fin zfo zfp)
   | some l=>some zux
 | .out _=>none
 | .fin _ _=>none
variable {room:N->List S}{so so1:N->Option S}{ho ho1 asked:S->Option N}{crowd:List N}{i j:Nat}{a h:N}{s l:S}
theorem k_end (e:crowd[i]?=none):Az BT (.out crowd):=by
 simp only[kstep,e]
theorem k_next (e:yL) (e2:uL[j]?=none):Az BT (IP aM 0):=by
 ext zdZ
theorem k_old (e:yL) (e2:bQ uL s) (e3:asked s=some h):Az BT (IP i eE):=by
 simp only[kstep,e,e2,e3]
theorem k_free (e:yL) (e2:bQ uL s) (e3:Ij) (e4:Bo):Az BT zoe:=by
 simp only[kstep,e,e2,e3,e4]
theorem k_grow (e:yL) (e2:bQ uL s) (e3:Ij) (e4:DU):Az BT zoo:=by
 simp only[kstep,e,e2,e3,e4]
theorem k_hand (e:pD) (e2:so1 a=some l):Az zeT zux:=by
 ext zdZ
theorem k_fin (e:pD) (e2:so1 a=none):Az zeT (.fin zfo zfp):=by
 ext zdZ
#check _
#check Kp
namespace Geo
noncomputable def vr (v y r:Int):Prop:=zeL
noncomputable def hz (b:Bool) (u x:Int):Prop:=(cM,b,u<=x,x<=u)
#check Geo
namespace S54
open PySem L2 XL
theorem hmm {j k A}(r:L2.Room true k A)(h:j<=k:=by decide):L2.Room true j A:=r.mono h
noncomputable def top (i:Nat):Stmt:=PySem.Challenge.pw_rimnotes_k54_whole_answers.main.body.getD i (.Pass zee)
noncomputable abbrev s_ax:Stmt:=kR 19 0
noncomputable abbrev s_ai:Stmt:=kR 20 1
noncomputable abbrev s_ab:Stmt:=kR 20 2
noncomputable abbrev s_r:Stmt:=kR 20 3
noncomputable abbrev s_aa:Stmt:=kR 21 1
noncomputable abbrev s_x:Stmt:=kR 21 2
noncomputable abbrev s_m:Stmt:=kR 21 3
noncomputable abbrev s_aw:Stmt:=top 22
noncomputable abbrev s_az:Stmt:=top 24
noncomputable abbrev xfi:Stmt:=top 26
noncomputable abbrev xhm:Stmt:=top 27
noncomputable abbrev xfl:Stmt:=top 29
noncomputable abbrev s_au:Stmt:=top 30
noncomputable abbrev xd0:Stmt:=top 31
noncomputable abbrev s_ae:Stmt:=top 32
noncomputable abbrev xdc:Stmt:=top 33
noncomputable abbrev xfo:Stmt:=top 34
noncomputable abbrev s_al:Stmt:=kR 36 0
noncomputable abbrev s_l:Stmt:=kR 36 1
noncomputable abbrev s_f:Stmt:=kR 36 2
noncomputable abbrev xf7:Stmt:=top 37
noncomputable abbrev xln:Stmt:=top 38
noncomputable abbrev s_a3:Stmt:=top 39
noncomputable abbrev xgx:Stmt:=top 40
noncomputable abbrev s_ar:Stmt:=kR 42 0
noncomputable abbrev s_v:Stmt:=kR 42 1
noncomputable abbrev s_u:Stmt:=kR 42 2
noncomputable abbrev s_s:Stmt:=kR 42 3
noncomputable abbrev s_g:Stmt:=kR 42 4
noncomputable abbrev xhh:Stmt:=top 43
noncomputable abbrev xh6:Stmt:=top 45
noncomputable abbrev s_an:Stmt:=top 47
noncomputable abbrev s_a6:Stmt:=top 48
noncomputable abbrev s_ap:Stmt:=kY 0
noncomputable abbrev s_b:Stmt:=kY 1
noncomputable abbrev s_aj:Stmt:=kY 2
noncomputable abbrev s_ak:Stmt:=kY 3
noncomputable abbrev s_k:Stmt:=kY 4
noncomputable abbrev s_n:Stmt:=kY 5
noncomputable abbrev s_q:Stmt:=kY 6
noncomputable abbrev s_y:Stmt:=kY 7
noncomputable abbrev s_j:Stmt:=kY 8
noncomputable abbrev s_z:Stmt:=kY 9
noncomputable abbrev s_o:Stmt:=kY 10
noncomputable abbrev s_i:Stmt:=kY 11
noncomputable abbrev s_c:Stmt:=kY 15
noncomputable abbrev s_h:Stmt:=kY 16
noncomputable abbrev s_e:Stmt:=kY 17
noncomputable abbrev s_d:Stmt:=kY 18
noncomputable abbrev s_a4:Stmt:=top 56
noncomputable abbrev s_t:Stmt:=top 57
noncomputable abbrev s_as:Stmt:=top 58
noncomputable abbrev s_at:Stmt:=top 59
noncomputable abbrev s_ay:Stmt:=top 60
noncomputable abbrev s_a0:Stmt:=top 61
noncomputable abbrev s_ao:Stmt:=top 62
noncomputable abbrev s_a7:Stmt:=top 63
noncomputable abbrev s_a1:Stmt:=top 64
noncomputable abbrev s_af:Stmt:=top 65
noncomputable abbrev s_av:Stmt:=top 66
noncomputable abbrev s_aq:Stmt:=top 67
noncomputable abbrev s_a2:Stmt:=top 68
noncomputable abbrev s_am:Stmt:=top 69
noncomputable abbrev s_ah:Stmt:=top 70
noncomputable abbrev xoz:Stmt:=top 71
set_option genInjectivity false in
set_option genSizeOf false in
set_option genInjectivity false in
set_option genSizeOf false in
structure Adr where
 f_ax:Addr
 d_ax:FuncData
 f_ai:Addr
 d_ai:FuncData
 f_ab:Addr
 d_ab:FuncData
 f_r:Addr
 d_r:FuncData
 f_aa:Addr
 d_aa:FuncData
 f_x:Addr
 d_x:FuncData
 f_m:Addr
 d_m:FuncData
 f_aw:Addr
 d_aw:FuncData
 f_az:Addr
 d_az:FuncData
 f_meeting:Addr
 d_meeting:FuncData
 f_total:Addr
 d_total:FuncData
 f_upright:Addr
 d_upright:FuncData
 f_au:Addr
 d_au:FuncData
 f_exchangeable:Addr
 d_exchangeable:FuncData
 f_ae:Addr
 d_ae:FuncData
 f_exchanged:Addr
 d_exchanged:FuncData
 f_uncrossed:Addr
 d_uncrossed:FuncData
 f_al:Addr
 d_al:FuncData
 f_l:Addr
 d_l:FuncData
 f_f:Addr
 d_f:FuncData
 f_crowds:Addr
 d_crowds:FuncData
 f_fits:Addr
 d_fits:FuncData
 f_a3:Addr
 d_a3:FuncData
 f_kept:Addr
 d_kept:FuncData
 f_ar:Addr
 d_ar:FuncData
 f_v:Addr
 d_v:FuncData
 f_u:Addr
 d_u:FuncData
 f_s:Addr
 d_s:FuncData
 f_g:Addr
 d_g:FuncData
 f_least:Addr
 d_least:FuncData
 f_answer:Addr
 d_answer:FuncData
 f_an:Addr
 d_an:FuncData
 f_a6:Addr
 d_a6:FuncData
 f_ap:Addr
 d_ap:FuncData
 f_b:Addr
 d_b:FuncData
 T_b:Addr
 f_aj:Addr
 d_aj:FuncData
 f_ak:Addr
 d_ak:FuncData
 f_k:Addr
 d_k:FuncData
 f_n:Addr
 d_n:FuncData
 f_q:Addr
 d_q:FuncData
 f_y:Addr
 d_y:FuncData
 f_j:Addr
 d_j:FuncData
 f_z:Addr
 d_z:FuncData
 f_o:Addr
 d_o:FuncData
 f_i:Addr
 d_i:FuncData
 f_c:Addr
 d_c:FuncData
 f_h:Addr
 d_h:FuncData
 f_e:Addr
 d_e:FuncData
 f_d:Addr
 d_d:FuncData
 f_a4:Addr
 d_a4:FuncData
 f_t:Addr
 d_t:FuncData
 f_as:Addr
 d_as:FuncData
 f_at:Addr
 d_at:FuncData
 f_ay:Addr
 d_ay:FuncData
 f_a0:Addr
 d_a0:FuncData
 f_ao:Addr
 d_ao:FuncData
 f_a7:Addr
 d_a7:FuncData
 f_a1:Addr
 d_a1:FuncData
 f_af:Addr
 d_af:FuncData
 f_av:Addr
 d_av:FuncData
 f_aq:Addr
 d_aq:FuncData
 f_a2:Addr
 d_a2:FuncData
 f_am:Addr
 d_am:FuncData
 f_ah:Addr
 d_ah:FuncData
 f_law:Addr
 d_law:FuncData
 C_bo:Addr
 C_ag:Addr
 C_w:Addr
 C_ac:Addr
 C_p:Addr
 C_a:Addr
 D_ad:Addr
structure Txt (w:World) (K:Zf) (mg:fA) (t:Adr):Prop where
 g_ag:bV "LeftSide" t.C_ag
 g_w:bV "RightSide" t.C_w
 g_ac:bV "Seating" t.C_ac
 g_p:bV "Prices" t.C_p
 g_a:bV "Picture" t.C_a
 F_ax:Fun K "__init__" "Side.__init__" s_ax t.f_ax t.d_ax
 b_ax:aS t.d_ax OQ
 F_ai:Fun K "rim" "LeftSide.rim" s_ai t.f_ai t.d_ai
 b_ai:aS t.d_ai jV
 F_ab:Fun K "way" "LeftSide.way" s_ab t.f_ab t.d_ab
 b_ab:aS t.d_ab jV
 F_r:Fun K "across" "LeftSide.across" s_r t.f_r t.d_r
 b_r:aS t.d_r yE
 F_aa:Fun K "rim" "RightSide.rim" s_aa t.f_aa t.d_aa
 b_aa:aS t.d_aa jV
 F_x:Fun K "way" "RightSide.way" s_x t.f_x t.d_x
 b_x:aS t.d_x jV
 F_m:Fun K "across" "RightSide.across" s_m t.f_m t.d_m
 b_m:aS t.d_m yE
 g_aw:bV "side_of" t.f_aw
 F_aw:Fun K "side_of" "side_of" s_aw t.f_aw t.d_aw
 b_aw:aS t.d_aw ON
 g_az:bV "cells_of" t.f_az
 F_az:Fun K "cells_of" "cells_of" s_az t.f_az t.d_az
 b_az:aS t.d_az VZ
 g_meeting:bV "meeting" t.f_meeting
 F_meeting:Fun K "meeting" "meeting" xfi t.f_meeting t.d_meeting
 b_meeting:aS t.d_meeting Dd
 g_total:bV "total" t.f_total
 F_total:Fun K "total" "total" xhm t.f_total t.d_total
 b_total:aS t.d_total kg
 g_upright:bV "upright" t.f_upright
 F_upright:Fun K "upright" "upright" xfl t.f_upright t.d_upright
 b_upright:aS t.d_upright kg
 g_au:bV "upright_of" t.f_au
 F_au:Fun K "upright_of" "upright_of" s_au t.f_au t.d_au
 b_au:aS t.d_au zgu
 g_exchangeable:bV "exchangeable" t.f_exchangeable
 F_exchangeable:Fun K "exchangeable" "exchangeable" xd0 t.f_exchangeable t.d_exchangeable
 b_exchangeable:aS t.d_exchangeable kg
 g_ae:bV "may_exchange" t.f_ae
 F_ae:Fun K "may_exchange" "may_exchange" s_ae t.f_ae t.d_ae
 b_ae:aS t.d_ae Dd
 g_exchanged:bV "exchanged" t.f_exchanged
 F_exchanged:Fun K "exchanged" "exchanged" xdc t.f_exchanged t.d_exchanged
 b_exchanged:aS t.d_exchanged Xp
 g_uncrossed:bV "uncrossed" t.f_uncrossed
 F_uncrossed:Fun K "uncrossed" "uncrossed" xfo t.f_uncrossed t.d_uncrossed
 b_uncrossed:aS t.d_uncrossed kg
 F_al:Fun K "__init__" "Seating.__init__" s_al t.f_al t.d_al
 b_al:aS t.d_al jV
 F_l:Fun K "hand_on" "Seating.hand_on" s_l t.f_l t.d_l
 b_l:aS t.d_l (jX "asked_by" "free_seat")
 F_f:Fun K "crowd_with" "Seating.crowd_with" s_f t.f_f t.d_f
 b_f:aS t.d_f (jX "name" "rooms")
 g_crowds:bV "crowds" t.f_crowds
 F_crowds:Fun K "crowds" "crowds" xf7 t.f_crowds t.d_crowds
 b_crowds:aS t.d_crowds pR
 g_fits:bV "fits" t.f_fits
 F_fits:Fun K "fits" "fits" xln t.f_fits t.d_fits
 b_fits:aS t.d_fits pR
 g_a3:bV "left_out" t.f_a3
 F_a3:Fun K "left_out" "left_out" s_a3 t.f_a3 t.d_a3
 b_a3:aS t.d_a3 pW
 g_kept:bV "kept" t.f_kept
 F_kept:Fun K "kept" "kept" xgx t.f_kept t.d_kept
 b_kept:aS t.d_kept pW
 F_ar:Fun K "__init__" "Prices.__init__" s_ar t.f_ar t.d_ar
 b_ar:aS t.d_ar Hm
 F_v:Fun K "let_in" "Prices.let_in" s_v t.f_v t.d_v
 b_v:aS t.d_v iB
 F_u:Fun K "ask_on" "Prices.ask_on" s_u t.f_u t.d_u
 b_u:zso t.d_u
 F_s:Fun K "nearest" "Prices.nearest" s_s t.f_s t.d_s
 b_s:zso t.d_s
 F_g:Fun K "shift_prices" "Prices.shift_prices" s_g t.f_g t.d_g
 b_g:aS t.d_g VR
 g_least:bV "least" t.f_least
 F_least:Fun K "least" "least" xhh t.f_least t.d_least
 b_least:aS t.d_least pR
 g_answer:bV "answer" t.f_answer
 F_answer:Fun K "answer" "answer" xh6 t.f_answer t.d_answer
 b_answer:aS t.d_answer pW
 g_an:bV "is_whole" t.f_an
 F_an:Fun K "is_whole" "is_whole" s_an t.f_an t.d_an
 b_an:aS t.d_an NO
 g_a6:bV "is_name" t.f_a6
 F_a6:Fun K "is_name" "is_name" s_a6 t.f_a6 t.d_a6
 b_a6:aS t.d_a6 TX
 F_ap:Fun K "__init__" "Picture.__init__" s_ap t.f_ap t.d_ap
 b_ap:aS t.d_ap (jX "width" "height")
 F_b:FunD K "put" "Picture.put" s_b t.T_b t.f_b t.d_b
 b_bn:∃ ds,Vals [zgw,.int 1,.non] ds/\x0 K t.d_b ["self", "name", "x", "y", "sides", "low", "high"] ds
 b_b:aS t.d_b ["self", "name", "x", "y", "sides", "low", "high"]
 F_aj:Fun K "take" "Picture.take" s_aj t.f_aj t.d_aj
 b_aj:aS t.d_aj iB
 F_ak:Fun K "move" "Picture.move" s_ak t.f_ak t.d_ak
 b_ak:aS t.d_ak Ax
 F_k:Fun K "open_seat" "Picture.open_seat" s_k t.f_k t.d_k
 b_k:aS t.d_k pF
 F_n:Fun K "shut_seat" "Picture.shut_seat" s_n t.f_n t.d_n
 b_n:aS t.d_n pF
 F_q:Fun K "points" "Picture.points" s_q t.f_q t.d_q
 b_q:aS t.d_q jV
 F_y:Fun K "seats" "Picture.seats" s_y t.f_y t.d_y
 b_y:aS t.d_y jV
 F_j:Fun K "place_of" "Picture.place_of" s_j t.f_j t.d_j
 b_j:aS t.d_j iB
 F_z:Fun K "may" "Picture.may" s_z t.f_z t.d_z
 b_z:aS t.d_z C8
 F_o:Fun K "length" "Picture.length" s_o t.f_o t.d_o
 b_o:aS t.d_o C8
 F_i:Fun K "seats_for" "Picture.seats_for" s_i t.f_i t.d_i
 b_i:aS t.d_i iB
 F_c:Fun K "check_name" "Picture.check_name" s_c t.f_c t.d_c
 b_c:aS t.d_c iB
 F_h:Fun K "check_cell" "Picture.check_cell" s_h t.f_h t.d_h
 b_h:aS t.d_h (jX "x" "y")
 F_e:Fun K "check_lines" "Picture.check_lines" s_e t.f_e t.d_e
 b_e:aS t.d_e Ax
 F_d:Fun K "check_seat" "Picture.check_seat" s_d t.f_d t.d_d
 b_d:aS t.d_d pF
 g_a4:bV "_law_cell" t.f_a4
 F_a4:Fun K "_law_cell" "_law_cell" s_a4 t.f_a4 t.d_a4
 b_a4:aS t.d_a4 NI
 g_t:bV "_law_mixed" t.f_t
 F_t:Fun K "_law_mixed" "_law_mixed" s_t t.f_t t.d_t
 b_t:aS t.d_t Xe
 g_as:bV "_law_built" t.f_as
 F_as:Fun K "_law_built" "_law_built" s_as t.f_as t.d_as
 b_as:aS t.d_as U6
 g_at:bV "_law_opened" t.f_at
 F_at:Fun K "_law_opened" "_law_opened" s_at t.f_at t.d_at
 b_at:aS t.d_at V2
 g_ay:bV "_law_may" t.f_ay
 F_ay:Fun K "_law_may" "_law_may" s_ay t.f_ay t.d_ay
 b_ay:aS t.d_ay Va
 g_a0:bV "_law_across" t.f_a0
 F_a0:Fun K "_law_across" "_law_across" s_a0 t.f_a0 t.d_a0
 b_a0:aS t.d_a0 MU
 g_ao:bV "_law_cells" t.f_ao
 F_ao:Fun K "_law_cells" "_law_cells" s_ao t.f_ao t.d_ao
 b_ao:aS t.d_ao Vm
 g_a7:bV "_law_met" t.f_a7
 F_a7:Fun K "_law_met" "_law_met" s_a7 t.f_a7 t.d_a7
 b_a7:aS t.d_a7 Xd
 g_a1:bV "_law_whole" t.f_a1
 F_a1:Fun K "_law_whole" "_law_whole" s_a1 t.f_a1 t.d_a1
 b_a1:aS t.d_a1 Rb
 g_af:bV "_law_seats_of" t.f_af
 F_af:Fun K "_law_seats_of" "_law_seats_of" s_af t.f_af t.d_af
 b_af:aS t.d_af DE
 g_av:bV "_law_holds" t.f_av
 F_av:Fun K "_law_holds" "_law_holds" s_av t.f_av t.d_av
 b_av:aS t.d_av Vi
 g_aq:bV "_law_priced" t.f_aq
 F_aq:Fun K "_law_priced" "_law_priced" s_aq t.f_aq t.d_aq
 b_aq:aS t.d_aq U2
 g_a2:bV "_law_apart" t.f_a2
 F_a2:Fun K "_law_apart" "_law_apart" s_a2 t.f_a2 t.d_a2
 b_a2:aS t.d_a2 WO
 g_am:bV "_law_right" t.f_am
 F_am:Fun K "_law_right" "_law_right" s_am t.f_am t.d_am
 b_am:aS t.d_am Vu
 g_ah:bV "_law_changed" t.f_ah
 F_ah:Fun K "_law_changed" "_law_changed" s_ah t.f_ah t.d_ah
 b_ah:aS t.d_ah Ve
 g_law:bV "law" t.f_law
 F_law:Fun K "law" "law" xoz t.f_law t.d_law
 c_ag:Cls K t.C_ag
 k_ag:Mk K t.C_ag t.f_ax
 m_ai:Meth K t.C_ag "rim" t.f_ai
 m_ab:Meth K t.C_ag "way" t.f_ab
 m_r:Meth K t.C_ag "across" t.f_r
 c_w:Cls K t.C_w
 k_w:Mk K t.C_w t.f_ax
 m_aa:Meth K t.C_w "rim" t.f_aa
 m_x:Meth K t.C_w "way" t.f_x
 m_m:Meth K t.C_w "across" t.f_m
 c_ac:Cls K t.C_ac
 k_ac:Mk K t.C_ac t.f_al
 m_l:Meth K t.C_ac "hand_on" t.f_l
 m_f:Meth K t.C_ac "crowd_with" t.f_f
 c_p:Cls K t.C_p
 k_p:Mk K t.C_p t.f_ar
 m_v:Meth K t.C_p "let_in" t.f_v
 m_u:Meth K t.C_p "ask_on" t.f_u
 m_s:Meth K t.C_p "nearest" t.f_s
 m_g:Meth K t.C_p "shift_prices" t.f_g
 c_a:Cls K t.C_a
 k_a:Mk K t.C_a t.f_ap
 m_b:lF "put" t.f_b
 m_aj:lF "take" t.f_aj
 m_ak:lF "move" t.f_ak
 m_k:lF "open_seat" t.f_k
 m_n:lF "shut_seat" t.f_n
 m_q:lF "points" t.f_q
 m_y:lF "seats" t.f_y
 m_j:lF "place_of" t.f_j
 m_z:lF "may" t.f_z
 m_o:lF "length" t.f_o
 m_i:lF "seats_for" t.f_i
 m_c:lF "check_name" t.f_c
 m_h:lF "check_cell" t.f_h
 m_e:lF "check_lines" t.f_e
 m_d:lF "check_seat" t.f_d
 cg:U3
 ct:Vl
 n_be:vH t.C_w "width"
 n_a9:vH t.C_a "placed"
 n_a5:vH t.C_a "height"
 n_a8:vH t.C_a "width"
 n_bb:vH t.C_a "opened"
 n_ba:vH t.C_ac "holder_of"
 n_bc:vH t.C_ac "seat_of"
 n_bf:Ms "lengths"
 n_bh:Ms "own"
 n_bi:Ms "rent"
 n_bd:Ms "seating"
 n_bg:Ms "picture"
 n_bl:vH t.C_ag "width"
 n_abs:kQ "abs"
 n_bool:kQ "bool"
 n_dict:kQ "dict"
 n_enumerate:kQ "enumerate"
 n_int:kQ "int"
 n_isinstance:kQ "isinstance"
 n_len:kQ "len"
 n_list:kQ "list"
 n_max:kQ "max"
 n_min:kQ "min"
 n_range:kQ "range"
 n_set:kQ "set"
 n_sorted:kQ "sorted"
 n_str:kQ "str"
 n_sum:kQ "sum"
 n_tuple:kQ "tuple"
 v_bm:zad "MOST_ROWS" 16
 v_bj:zad "MOST_COLUMNS" 30
 v_bk:zad "MOST_POINTS" 12
 g_ad:bV "MIRRORED_SIDES" t.D_ad
 D_ad:xoy w K t.D_ad [Mm "left" "right",Mm "right" "left",Mm "both" "both"]
@[elab_as_elim] theorem xxv {α:Type}{P:Fk}:Dc 1 (∀ a0,P [a0])
 | [a0],_,h=>h a0
@[elab_as_elim] theorem xx7 {α:Type}{P:Fk}:Dc 2 (∀ a0 a1,P [a0,a1])
 | [a0,a1],_,h=>h a0 a1
@[elab_as_elim] theorem xxt {α:Type}{P:Fk}:Dc 3 (∀ a0 a1 a2,P SU)
 | SU,_,h=>h a0 a1 a2
@[elab_as_elim] theorem xtq {α:Type}{P:Fk}:Dc 4 (∀ a0 a1 a2 a3,P Rp)
 | Rp,_,h=>h a0 a1 a2 a3
@[elab_as_elim] theorem xy5 {α:Type}{P:Fk}:Dc 5 (∀ a0 a1 a2 a3 a4,P OZ)
 | OZ,_,h=>h a0 a1 a2 a3 a4
@[elab_as_elim] theorem xy9 {α:Type}{P:Fk}:Dc 7 (∀ a0 a1 a2 a3 a4 a5 a6,P [a0,a1,a2,a3,a4,a5,a6])
 | [a0,a1,a2,a3,a4,a5,a6],_,h=>h a0 a1 a2 a3 a4 a5 a6
noncomputable def gI (K:Zf) (n:Str) (a:Addr):Prop:=zbg n cV
noncomputable def gN (K:Zf) (n:Str):Prop:=zbg n none
noncomputable def fN (K:Zf) (C:Addr) (n:Str):Prop:=Uh n
noncomputable def fI (K:Zf) (C:Addr) (n:Str) (a:Addr):Prop:=BB gD n cV
noncomputable def fB (K:Zf) (C:Addr) (n:Str) (b:String):Prop:=BB gD n (some (.builtin b))
theorem bi_1 {K:Zf}{x q:Str}{st:Stmt}{f:Addr}{fd:FuncData}{p0:Str} (F:Fun K x q st f fd) (h:∀(kV doc pm:Value) (an:js) (cdv ct:Value) (a0:Value),GM (JC x q oM kS j6 .none kV doc pm an cdv ct) [a0] [p0]:=by ext xF):aS fd [p0]:=F.binds fun a b c d e f us hl=>xxv us hl (h a b c d e f)
theorem bi_2 {K:Zf}{x q:Str}{st:Stmt}{f:Addr}{fd:FuncData}{p0 p1:Str} (F:Fun K x q st f fd) (h:∀(kV doc pm:Value) (an:js) (cdv ct:Value) (a0 a1:Value),GM (JC x q oM kS j6 .none kV doc pm an cdv ct) [a0,a1] [p0,p1]:=by ext xF):aS fd [p0,p1]:=F.binds fun a b c d e f us hl=>xx7 us hl (h a b c d e f)
theorem bi_3 {K:Zf}{x q:Str}{st:Stmt}{f:Addr}{fd:FuncData}{p0 p1 p2:Str} (F:Fun K x q st f fd) (h:∀(kV doc pm:Value) (an:js) (cdv ct:Value) (a0 a1 a2:Value),GM (JC x q oM kS j6 .none kV doc pm an cdv ct) SU [p0,p1,p2]:=by ext xF):aS fd [p0,p1,p2]:=F.binds fun a b c d e f us hl=>xxt us hl (h a b c d e f)
theorem bi_4 {K:Zf}{x q:Str}{st:Stmt}{f:Addr}{fd:FuncData}{p0 p1 p2 p3:Str} (F:Fun K x q st f fd) (h:∀(kV doc pm:Value) (an:js) (cdv ct:Value) (a0 a1 a2 a3:Value),GM (JC x q oM kS j6 .none kV doc pm an cdv ct) Rp [p0,p1,p2,p3]:=by ext xF):aS fd [p0,p1,p2,p3]:=F.binds fun a b c d e f us hl=>xtq us hl (h a b c d e f)
theorem bi_5 {K:Zf}{x q:Str}{st:Stmt}{f:Addr}{fd:FuncData}{p0 p1 p2 p3 p4:Str} (F:Fun K x q st f fd) (h:∀(kV doc pm:Value) (an:js) (cdv ct:Value) (a0 a1 a2 a3 a4:Value),GM (JC x q oM kS j6 .none kV doc pm an cdv ct) OZ [p0,p1,p2,p3,p4]:=by ext xF):aS fd [p0,p1,p2,p3,p4]:=F.binds fun a b c d e f us hl=>xy5 us hl (h a b c d e f)
theorem txt_mk {w:World}{K:Zf}{h:Heap}{mg:fA} (X:K.In h) (G:h.Ns mainGlobals mg) {C_bo C_ag C_w C_ac C_p C_a f_ax f_ai f_ab f_r f_aa f_x f_m f_aw f_az f_meeting f_total f_upright f_au f_exchangeable f_ae f_exchanged f_uncrossed f_al f_l f_f f_crowds f_fits f_a3 f_kept f_ar f_v f_u f_s f_g f_least f_answer f_an f_a6 f_ap f_b T_b f_aj f_ak f_k f_n f_q f_y f_j f_z f_o f_i f_c f_h f_e f_d f_a4 f_t f_as f_at f_ay f_a0 f_ao f_a7 f_a1 f_af f_av f_aq f_a2 f_am f_ah f_law:Addr}{d_ax d_ai d_ab d_r d_aa d_x d_m d_aw d_az d_meeting d_total d_upright d_au d_exchangeable d_ae d_exchanged d_uncrossed d_al d_l d_f d_crowds d_fits d_a3 d_kept d_ar d_v d_u d_s d_g d_least d_answer d_an d_a6 d_ap d_aj d_ak d_k d_n d_q d_y d_j d_z d_o d_i d_c d_h d_e d_d d_a4 d_t d_as d_at d_ay d_a0 d_ao d_a7 d_a1 d_af d_av d_aq d_a2 d_am d_ah d_law:FuncData}{oc_b kv_b dc_b pm_b cd_b ct_b:Value}{od_b an_b:js}{sl_b:AC}{tk0_b:Tok}{tk1_b:Tok}{toc_b:Value}{tod_b:js}{tn_b:Nat}{tsl_b:AC}{tkc_bm:Tok}{tkc_bj:Tok}{tkc_bk:Tok}{D_ad:Addr}{ta0_ad tb0_ad:Tok}{ta1_ad tb1_ad:Tok}{ta2_ad tb2_ad:Tok}{ep_ad:Nat}
    (g_bo:gI K "Side" C_bo)
    (g_ag:gI K "LeftSide" C_ag)
    (g_w:gI K "RightSide" C_w)
    (g_ac:gI K "Seating" C_ac)
    (g_p:gI K "Prices" C_p)
    (g_a:gI K "Picture" C_a)
    (a_ax:fI K C_bo "__init__" f_ax)
    (F_ax:Fun K "__init__" "Side.__init__" s_ax f_ax d_ax)
    (i_ax:cZ f_ax)
    (a_ai:fI K C_ag "rim" f_ai)
    (F_ai:Fun K "rim" "LeftSide.rim" s_ai f_ai d_ai)
    (i_ai:cZ f_ai)
    (a_ab:fI K C_ag "way" f_ab)
    (F_ab:Fun K "way" "LeftSide.way" s_ab f_ab d_ab)
    (i_ab:cZ f_ab)
    (a_r:fI K C_ag "across" f_r)
    (F_r:Fun K "across" "LeftSide.across" s_r f_r d_r)
    (i_r:cZ f_r)
    (a_aa:fI K C_w "rim" f_aa)
    (F_aa:Fun K "rim" "RightSide.rim" s_aa f_aa d_aa)
    (i_aa:cZ f_aa)
    (a_x:fI K C_w "way" f_x)
    (F_x:Fun K "way" "RightSide.way" s_x f_x d_x)
    (i_x:cZ f_x)
    (a_m:fI K C_w "across" f_m)
    (F_m:Fun K "across" "RightSide.across" s_m f_m d_m)
    (i_m:cZ f_m)
    (a_aw:gI K "side_of" f_aw)
    (F_aw:Fun K "side_of" "side_of" s_aw f_aw d_aw)
    (a_az:gI K "cells_of" f_az)
    (F_az:Fun K "cells_of" "cells_of" s_az f_az d_az)
    (a_meeting:gI K "meeting" f_meeting)
    (F_meeting:Fun K "meeting" "meeting" xfi f_meeting d_meeting)
    (a_total:gI K "total" f_total)
    (F_total:Fun K "total" "total" xhm f_total d_total)
    (a_upright:gI K "upright" f_upright)
    (F_upright:Fun K "upright" "upright" xfl f_upright d_upright)
    (a_au:gI K "upright_of" f_au)
    (F_au:Fun K "upright_of" "upright_of" s_au f_au d_au)
    (a_exchangeable:gI K "exchangeable" f_exchangeable)
    (F_exchangeable:Fun K "exchangeable" "exchangeable" xd0 f_exchangeable d_exchangeable)
    (a_ae:gI K "may_exchange" f_ae)
    (F_ae:Fun K "may_exchange" "may_exchange" s_ae f_ae d_ae)
    (a_exchanged:gI K "exchanged" f_exchanged)
    (F_exchanged:Fun K "exchanged" "exchanged" xdc f_exchanged d_exchanged)
    (a_uncrossed:gI K "uncrossed" f_uncrossed)
    (F_uncrossed:Fun K "uncrossed" "uncrossed" xfo f_uncrossed d_uncrossed)
    (a_al:fI K C_ac "__init__" f_al)
    (F_al:Fun K "__init__" "Seating.__init__" s_al f_al d_al)
    (i_al:cZ f_al)
    (a_l:fI K C_ac "hand_on" f_l)
    (F_l:Fun K "hand_on" "Seating.hand_on" s_l f_l d_l)
    (i_l:cZ f_l)
    (a_f:fI K C_ac "crowd_with" f_f)
    (F_f:Fun K "crowd_with" "Seating.crowd_with" s_f f_f d_f)
    (i_f:cZ f_f)
    (a_crowds:gI K "crowds" f_crowds)
    (F_crowds:Fun K "crowds" "crowds" xf7 f_crowds d_crowds)
    (a_fits:gI K "fits" f_fits)
    (F_fits:Fun K "fits" "fits" xln f_fits d_fits)
    (a_a3:gI K "left_out" f_a3)
    (F_a3:Fun K "left_out" "left_out" s_a3 f_a3 d_a3)
    (a_kept:gI K "kept" f_kept)
    (F_kept:Fun K "kept" "kept" xgx f_kept d_kept)
    (a_ar:fI K C_p "__init__" f_ar)
    (F_ar:Fun K "__init__" "Prices.__init__" s_ar f_ar d_ar)
    (i_ar:cZ f_ar)
    (a_v:fI K C_p "let_in" f_v)
    (F_v:Fun K "let_in" "Prices.let_in" s_v f_v d_v)
    (i_v:cZ f_v)
    (a_u:fI K C_p "ask_on" f_u)
    (F_u:Fun K "ask_on" "Prices.ask_on" s_u f_u d_u)
    (i_u:cZ f_u)
    (a_s:fI K C_p "nearest" f_s)
    (F_s:Fun K "nearest" "Prices.nearest" s_s f_s d_s)
    (i_s:cZ f_s)
    (a_g:fI K C_p "shift_prices" f_g)
    (F_g:Fun K "shift_prices" "Prices.shift_prices" s_g f_g d_g)
    (i_g:cZ f_g)
    (a_least:gI K "least" f_least)
    (F_least:Fun K "least" "least" xhh f_least d_least)
    (a_answer:gI K "answer" f_answer)
    (F_answer:Fun K "answer" "answer" xh6 f_answer d_answer)
    (a_an:gI K "is_whole" f_an)
    (F_an:Fun K "is_whole" "is_whole" s_an f_an d_an)
    (a_a6:gI K "is_name" f_a6)
    (F_a6:Fun K "is_name" "is_name" s_a6 f_a6 d_a6)
    (a_ap:kW "__init__" f_ap)
    (F_ap:Fun K "__init__" "Picture.__init__" s_ap f_ap d_ap)
    (i_ap:cZ f_ap)
    (a_b:kW "put" f_b)
    (l_b:Ea f_b ⟨oc_b,od_b,.func (JC "put" "Picture.put" (xb4 s_b) (xbo s_b) (xp s_b) (.ref T_b) kv_b dc_b pm_b an_b cd_b ct_b),sl_b⟩)
    (c_b:Qk K cd_b "Picture.put"=true)
    (k_b:pI f_b)
    (i_b:cZ f_b)
    (t_b:Ea T_b ⟨toc_b,tod_b,.seq #[.str "both" tk0_b,.int 1 tk1_b,.none] tn_b,tsl_b⟩)
    (a_aj:kW "take" f_aj)
    (F_aj:Fun K "take" "Picture.take" s_aj f_aj d_aj)
    (i_aj:cZ f_aj)
    (a_ak:kW "move" f_ak)
    (F_ak:Fun K "move" "Picture.move" s_ak f_ak d_ak)
    (i_ak:cZ f_ak)
    (a_k:kW "open_seat" f_k)
    (F_k:Fun K "open_seat" "Picture.open_seat" s_k f_k d_k)
    (i_k:cZ f_k)
    (a_n:kW "shut_seat" f_n)
    (F_n:Fun K "shut_seat" "Picture.shut_seat" s_n f_n d_n)
    (i_n:cZ f_n)
    (a_q:kW "points" f_q)
    (F_q:Fun K "points" "Picture.points" s_q f_q d_q)
    (i_q:cZ f_q)
    (a_y:kW "seats" f_y)
    (F_y:Fun K "seats" "Picture.seats" s_y f_y d_y)
    (i_y:cZ f_y)
    (a_j:kW "place_of" f_j)
    (F_j:Fun K "place_of" "Picture.place_of" s_j f_j d_j)
    (i_j:cZ f_j)
    (a_z:kW "may" f_z)
    (F_z:Fun K "may" "Picture.may" s_z f_z d_z)
    (i_z:cZ f_z)
    (a_o:kW "length" f_o)
    (F_o:Fun K "length" "Picture.length" s_o f_o d_o)
    (i_o:cZ f_o)
    (a_i:kW "seats_for" f_i)
    (F_i:Fun K "seats_for" "Picture.seats_for" s_i f_i d_i)
    (i_i:cZ f_i)
    (a_c:kW "check_name" f_c)
    (F_c:Fun K "check_name" "Picture.check_name" s_c f_c d_c)
    (i_c:cZ f_c)
    (a_h:kW "check_cell" f_h)
    (F_h:Fun K "check_cell" "Picture.check_cell" s_h f_h d_h)
    (i_h:cZ f_h)
    (a_e:kW "check_lines" f_e)
    (F_e:Fun K "check_lines" "Picture.check_lines" s_e f_e d_e)
    (i_e:cZ f_e)
    (a_d:kW "check_seat" f_d)
    (F_d:Fun K "check_seat" "Picture.check_seat" s_d f_d d_d)
    (i_d:cZ f_d)
    (a_a4:gI K "_law_cell" f_a4)
    (F_a4:Fun K "_law_cell" "_law_cell" s_a4 f_a4 d_a4)
    (a_t:gI K "_law_mixed" f_t)
    (F_t:Fun K "_law_mixed" "_law_mixed" s_t f_t d_t)
    (a_as:gI K "_law_built" f_as)
    (F_as:Fun K "_law_built" "_law_built" s_as f_as d_as)
    (a_at:gI K "_law_opened" f_at)
    (F_at:Fun K "_law_opened" "_law_opened" s_at f_at d_at)
    (a_ay:gI K "_law_may" f_ay)
    (F_ay:Fun K "_law_may" "_law_may" s_ay f_ay d_ay)
    (a_a0:gI K "_law_across" f_a0)
    (F_a0:Fun K "_law_across" "_law_across" s_a0 f_a0 d_a0)
    (a_ao:gI K "_law_cells" f_ao)
    (F_ao:Fun K "_law_cells" "_law_cells" s_ao f_ao d_ao)
    (a_a7:gI K "_law_met" f_a7)
    (F_a7:Fun K "_law_met" "_law_met" s_a7 f_a7 d_a7)
    (a_a1:gI K "_law_whole" f_a1)
    (F_a1:Fun K "_law_whole" "_law_whole" s_a1 f_a1 d_a1)
    (a_af:gI K "_law_seats_of" f_af)
    (F_af:Fun K "_law_seats_of" "_law_seats_of" s_af f_af d_af)
    (a_av:gI K "_law_holds" f_av)
    (F_av:Fun K "_law_holds" "_law_holds" s_av f_av d_av)
    (a_aq:gI K "_law_priced" f_aq)
    (F_aq:Fun K "_law_priced" "_law_priced" s_aq f_aq d_aq)
    (a_a2:gI K "_law_apart" f_a2)
    (F_a2:Fun K "_law_apart" "_law_apart" s_a2 f_a2 d_a2)
    (a_am:gI K "_law_right" f_am)
    (F_am:Fun K "_law_right" "_law_right" s_am f_am d_am)
    (a_ah:gI K "_law_changed" f_ah)
    (F_ah:Fun K "_law_changed" "_law_changed" s_ah f_ah d_ah)
    (a_law:gI K "law" f_law)
    (F_law:Fun K "law" "law" xoz f_law d_law)
    (kc_ag:pI C_ag)
    (pg_ag:Es C_ag)
    (hd_ag:LD C_ag)
    (po_ag:LC C_ag)
    (sa_ag:Gz C_ag)
    (mk_ag:LB C_ag)
    (a_LeftSide_init:fI K C_ag "__init__" f_ax)
    (kc_w:pI C_w)
    (pg_w:Es C_w)
    (hd_w:LD C_w)
    (po_w:LC C_w)
    (sa_w:Gz C_w)
    (mk_w:LB C_w)
    (a_RightSide_init:fI K C_w "__init__" f_ax)
    (kc_ac:pI C_ac)
    (pg_ac:Es C_ac)
    (hd_ac:LD C_ac)
    (po_ac:LC C_ac)
    (sa_ac:Gz C_ac)
    (mk_ac:LB C_ac)
    (kc_p:pI C_p)
    (pg_p:Es C_p)
    (hd_p:LD C_p)
    (po_p:LC C_p)
    (sa_p:Gz C_p)
    (mk_p:LB C_p)
    (kc_a:pI C_a)
    (pg_a:Es C_a)
    (hd_a:LD C_a)
    (po_a:LC C_a)
    (sa_a:Gz C_a)
    (mk_a:LB C_a)
    (cg:U3)
    (ct:Vl)
    (n_be:fN K C_w "width")
    (n_a9:fN K C_a "placed")
    (n_a5:fN K C_a "height")
    (n_a8:fN K C_a "width")
    (n_bb:fN K C_a "opened")
    (n_ba:fN K C_ac "holder_of")
    (n_bc:fN K C_ac "seat_of")
    (n_bf:fN K C_p "lengths")
    (n_bh:fN K C_p "own")
    (n_bi:fN K C_p "rent")
    (n_bd:fN K C_p "seating")
    (n_bg:fN K C_p "picture")
    (n_bl:fN K C_ag "width")
    (n_abs:gN K "abs")
    (n_bool:gN K "bool")
    (n_dict:gN K "dict")
    (n_enumerate:gN K "enumerate")
    (n_int:gN K "int")
    (n_isinstance:gN K "isinstance")
    (n_len:gN K "len")
    (n_list:gN K "list")
    (n_max:gN K "max")
    (n_min:gN K "min")
    (n_range:gN K "range")
    (n_set:gN K "set")
    (n_sorted:gN K "sorted")
    (n_str:gN K "str")
    (n_sum:gN K "sum")
    (n_tuple:gN K "tuple")
    (v_bm:zgK "MOST_ROWS" 16 tkc_bm)
    (v_bj:zgK "MOST_COLUMNS" 30 tkc_bj)
    (v_bk:zgK "MOST_POINTS" 12 tkc_bk)
    (g_ad:gI K "MIRRORED_SIDES" D_ad)
    (l_ad:(zsM,D_ad,.dict #[⟨hashStr w "left",.str "left" ta0_ad,.str "right" tb0_ad⟩,⟨hashStr w "right",.str "right" ta1_ad,.str "left" tb1_ad⟩,⟨hashStr w "both",.str "both" ta2_ad,.str "both" tb2_ad⟩] ep_ad))
    (ns_ad:tD D_ad):∃ t,aV :=
  ⟨⟨f_ax,_,f_ai,_,f_ab,_,f_r,_,f_aa,_,f_x,_,f_m,_,f_aw,_,f_az,_,f_meeting,_,f_total,_,f_upright,_,f_au,_,f_exchangeable,_,f_ae,_,f_exchanged,_,f_uncrossed,_,f_al,_,f_l,_,f_f,_,f_crowds,_,f_fits,_,f_a3,_,f_kept,_,f_ar,_,f_v,_,f_u,_,f_s,_,f_g,_,f_least,_,f_answer,_,f_an,_,f_a6,_,f_ap,_,f_b,_,T_b,f_aj,_,f_ak,_,f_k,_,f_n,_,f_q,_,f_y,_,f_j,_,f_z,_,f_o,_,f_i,_,f_c,_,f_h,_,f_e,_,f_d,_,f_a4,_,f_t,_,f_as,_,f_at,_,f_ay,_,f_a0,_,f_ao,_,f_a7,_,f_a1,_,f_af,_,f_av,_,f_aq,_,f_a2,_,f_am,_,f_ah,_,f_law,_,C_bo,C_ag,C_w,C_ac,C_p,C_a,D_ad⟩,⟨bU g_ag,bU g_w,bU g_ac,bU g_p,bU g_a,F_ax,bi_2 F_ax,F_ai,bi_1 F_ai,F_ab,bi_1 F_ab,F_r,bi_2 F_r,F_aa,bi_1 F_aa,F_x,bi_1 F_x,F_m,bi_2 F_m,bU a_aw,F_aw,bi_2 F_aw,bU a_az,F_az,bi_4 F_az,bU a_meeting,F_meeting,bi_3 F_meeting,bU a_total,F_total,bi_2 F_total,bU a_upright,F_upright,bi_2 F_upright,bU a_au,F_au,bi_2 F_au,bU a_exchangeable,F_exchangeable,bi_2 F_exchangeable,bU a_ae,F_ae,bi_3 F_ae,bU a_exchanged,F_exchanged,bi_3 F_exchanged,bU a_uncrossed,F_uncrossed,bi_2 F_uncrossed,F_al,bi_1 F_al,F_l,bi_3 F_l,F_f,bi_3 F_f,bU a_crowds,F_crowds,bi_2 F_crowds,bU a_fits,F_fits,bi_2 F_fits,bU a_a3,F_a3,bi_1 F_a3,bU a_kept,F_kept,bi_1 F_kept,F_ar,bi_2 F_ar,F_v,bi_2 F_v,F_u,bi_3 F_u,F_s,bi_3 F_s,F_g,bi_4 F_g,bU a_least,F_least,bi_2 F_least,bU a_answer,F_answer,bi_1 F_answer,bU a_an,F_an,bi_3 F_an,bU a_a6,F_a6,bi_1 F_a6,F_ap,bi_3 F_ap,Xv,(cq,d4 gf (zeR gf (rfl)),(Xv).binds t_b rfl 4 rfl fun _ _ _ _ _ _ us hl=>xtq us hl fun _ _ _ _=>Fl),(Xv).binds t_b rfl 7 rfl fun _ _ _ _ _ _ us hl=>xy9 us hl fun _ _ _ _ _ _ _=>Fl,F_aj,bi_2 F_aj,F_ak,bi_4 F_ak,F_k,bi_3 F_k,F_n,bi_3 F_n,F_q,bi_1 F_q,F_y,bi_1 F_y,F_j,bi_2 F_j,F_z,bi_4 F_z,F_o,bi_4 F_o,F_i,bi_2 F_i,F_c,bi_2 F_c,F_h,bi_3 F_h,F_e,bi_4 F_e,F_d,bi_3 F_d,bU a_a4,F_a4,bi_2 F_a4,bU a_t,F_t,bi_2 F_t,bU a_as,F_as,bi_5 F_as,bU a_at,F_at,bi_2 F_at,bU a_ay,F_ay,bi_5 F_ay,bU a_a0,F_a0,bi_3 F_a0,bU a_ao,F_ao,bi_4 F_ao,bU a_a7,F_a7,bi_4 F_a7,bU a_a1,F_a1,bi_1 F_a1,bU a_af,F_af,bi_3 F_af,bU a_av,F_av,bi_4 F_av,bU a_aq,F_aq,bi_5 F_aq,bU a_a2,F_a2,bi_4 F_a2,bU a_am,F_am,bi_3 F_am,bU a_ah,F_ah,bi_4 F_ah,bU a_law,F_law,⟨pg_ag,hd_ag,po_ag,sa_ag⟩,⟨mk_ag,a_LeftSide_init,i_ax,kc_ag⟩,⟨a_ai,i_ai,F_ai.kp⟩,⟨a_ab,i_ab,F_ab.kp⟩,⟨a_r,i_r,F_r.kp⟩,⟨pg_w,hd_w,po_w,sa_w⟩,⟨mk_w,a_RightSide_init,i_ax,kc_w⟩,⟨a_aa,i_aa,F_aa.kp⟩,⟨a_x,i_x,F_x.kp⟩,⟨a_m,i_m,F_m.kp⟩,⟨pg_ac,hd_ac,po_ac,sa_ac⟩,⟨mk_ac,a_al,i_al,kc_ac⟩,⟨a_l,i_l,F_l.kp⟩,⟨a_f,i_f,F_f.kp⟩,⟨pg_p,hd_p,po_p,sa_p⟩,⟨mk_p,a_ar,i_ar,kc_p⟩,⟨a_v,i_v,F_v.kp⟩,⟨a_u,i_u,F_u.kp⟩,⟨a_s,i_s,F_s.kp⟩,⟨a_g,i_g,F_g.kp⟩,⟨pg_a,hd_a,po_a,sa_a⟩,⟨mk_a,a_ap,i_ap,kc_a⟩,⟨a_b,i_b,k_b⟩,⟨a_aj,i_aj,F_aj.kp⟩,⟨a_ak,i_ak,F_ak.kp⟩,⟨a_k,i_k,F_k.kp⟩,⟨a_n,i_n,F_n.kp⟩,⟨a_q,i_q,F_q.kp⟩,⟨a_y,i_y,F_y.kp⟩,⟨a_j,i_j,F_j.kp⟩,⟨a_z,i_z,F_z.kp⟩,⟨a_o,i_o,F_o.kp⟩,⟨a_i,i_i,F_i.kp⟩,⟨a_c,i_c,F_c.kp⟩,⟨a_h,i_h,F_h.kp⟩,⟨a_e,i_e,F_e.kp⟩,⟨a_d,i_d,F_d.kp⟩,cg,ct,n_be,n_a9,n_a5,n_a8,n_bb,n_ba,n_bc,n_bf,n_bh,n_bi,n_bd,n_bg,n_bl,lg n_abs,lg n_bool,lg n_dict,lg n_enumerate,lg n_int,lg n_isinstance,lg n_len,lg n_list,lg n_max,lg n_min,lg n_range,lg n_set,lg n_sorted,lg n_str,lg n_sum,lg n_tuple,(gF,bU v_bm),(gF,bU v_bj),(gF,bU v_bk),bU g_ad,⟨ns_ad,_,_,l_ad,zgE (zgE (zgE (.nil))),ao⟩⟩⟩
theorem mkS {N P:ai}{sc:Scope} (a:sc.kind=.function:=by rfl) (b:zvh:=by rfl) (c:zvg:=by rfl) (d:N.Nodup:=by ext BN) (e:zuC:=by rfl) (f:∀ x∈P,Nb\/GF:=by ext BN) (g:znt:=by ext BN):xw N P sc:=⟨a,b,c,d,e,f,g⟩
theorem sc_ax:bm OQ OQ s_ax:=mkS
theorem sc_ai:BZ s_ai:=mkS
theorem sc_ab:BZ s_ab:=mkS
theorem sc_r:bm yE yE s_r:=mkS
theorem sc_aa:BZ s_aa:=mkS
theorem sc_x:BZ s_x:=mkS
theorem sc_m:bm yE yE s_m:=mkS
theorem sc_aw:bm ON ON s_aw:=mkS
theorem sc_az:bm ["picture", "name", "side", "row", "x", "y", "toward", "down", "upright", "level"] VZ s_az:=mkS
theorem xca:bm ["picture", "one", "other", "name", "side", "row", "theirs", "cell"] Dd xfi:=mkS
theorem xs3:bm kg kg xhm:=mkS
theorem xo3:bm kg kg xfl:=mkS
theorem sc_au:bm ["picture", "pair", "name", "side", "row", "x", "y"] zgu s_au:=mkS
theorem xcm:bm ["picture", "pairs", "number", "one", "other", "cell"] kg xd0:=mkS
theorem sc_ae:bm ["picture", "one", "other", "name", "side", "row", "other_name", "other_side", "other_row"] Dd s_ae:=mkS
theorem xet:bm Vw Xp xdc:=mkS
theorem xbu:bm ["picture", "pairs", "now", "steps", "found", "name", "other", "cell"] kg xfo:=mkS
theorem sc_al:BZ s_al:=mkS
theorem sc_l:bm ["self", "asked_by", "free_seat", "seat", "name", "left_behind"] (jX "asked_by" "free_seat") s_l:=mkS
theorem sc_f:bm ["self", "name", "rooms", "crowd", "asked_by", "number", "asker", "seat"] (jX "name" "rooms") s_f:=mkS
theorem xdq:bm ["picture", "names", "rooms", "seating", "found", "name", "crowd"] pR xf7:=mkS
theorem xn7:bm ["picture", "names", "found"] pR xln:=mkS
theorem sc_a3:bm pR pW s_a3:=mkS
theorem xod:bm (Fd "out") pW xgx:=mkS
theorem sc_ar:bm Hm Hm s_ar:=mkS
theorem sc_v:bm zkg iB s_v:=mkS
theorem sc_u:zuL zjd s_u:=mkS
theorem sc_s:zuL ["self", "askers", "asked_by", "found", "asker", "seat", "length", "gap"] s_s:=mkS
theorem sc_g:bm zjd VR s_g:=mkS
theorem xf9:bm ziU pR xhh:=mkS
theorem xdl:bm ["picture", "pairs", "own", "rent", "apart", "steps"] pW xh6:=mkS
theorem sc_an:bm NO NO s_an:=mkS
theorem sc_a6:bm TX TX s_a6:=mkS
theorem sc_ap:bm zsY (jX "width" "height") s_ap:=mkS
theorem sc_b:bm ["self", "name", "x", "y", "sides", "low", "high", "highest"] ["self", "name", "x", "y", "sides", "low", "high"] s_b:=mkS
theorem sc_aj:bm iB iB s_aj:=mkS
theorem sc_ak:bm Ax Ax s_ak:=mkS
theorem sc_k:bm pF pF s_k:=mkS
theorem sc_n:bm pF pF s_n:=mkS
theorem sc_q:BZ s_q:=mkS
theorem sc_y:BZ s_y:=mkS
theorem sc_j:bm iB iB s_j:=mkS
theorem sc_z:bm ["self", "name", "side", "row", "x", "y", "sides", "low", "high"] C8 s_z:=mkS
theorem sc_o:bm ["self", "name", "side", "row", "x", "y"] C8 s_o:=mkS
theorem sc_i:bm iB iB s_i:=mkS
theorem sc_c:bm iB iB s_c:=mkS
theorem sc_h:bm (jX "x" "y") (jX "x" "y") s_h:=mkS
theorem sc_e:bm zkm Ax s_e:=mkS
theorem sc_d:bm pF pF s_d:=mkS
theorem sc_a4:bm NI NI s_a4:=mkS
theorem sc_t:bm ["_law_cell_here", "_law_k", "_law_number"] Xe s_t:=mkS
theorem sc_as:bm ["_law_cell_here", "_law_most", "_law_wide", "_law_high", "_law_free", "_law_picture", "_law_points", "_law_first", "_law_k", "_law_x", "_law_y", "_law_number", "_law_low", "_law_point", "_law_name"] U6 s_as:=mkS
theorem sc_at:bm ["_law_picture", "_law_cell_here", "_law_seats", "_law_j", "_law_side", "_law_number", "_law_bits", "_law_row"] V2 s_at:=mkS
theorem sc_ay:bm ["_law_points", "_law_seats", "_law_name", "_law_side", "_law_row", "_law_point"] Va s_ay:=mkS
theorem sc_a0:bm MU MU s_a0:=mkS
theorem sc_ao:bm ["_law_width", "_law_point", "_law_side", "_law_row", "_law_x", "_law_y", "_law_found", "_law_k"] Vm s_ao:=mkS
theorem sc_a7:bm ["_law_width", "_law_points", "_law_one", "_law_other", "_law_there", "_law_place"] Xd s_a7:=mkS
theorem sc_a1:bm Rb Rb s_a1:=mkS
theorem sc_af:bm DE DE s_af:=mkS
theorem sc_av:bm ["_law_points", "_law_seats", "_law_names", "_law_outs", "_law_order", "_law_union", "_law_name", "_law_holders", "_law_holder"] Vi s_av:=mkS
theorem sc_aq:bm ["_law_picture", "_law_points", "_law_seats", "_law_names", "_law_amount", "_law_found", "_law_own", "_law_rent", "_law_prices", "_law_name", "_law_side", "_law_row", "_law_long"] U2 s_aq:=mkS
theorem sc_a2:bm ["_law_width", "_law_points", "_law_seats", "_law_pairs", "_law_k", "_law_one", "_law_other"] WO s_a2:=mkS
theorem sc_am:bm ["_law_picture", "_law_points", "_law_seats", "_law_told", "_law_pairs", "_law_outs", "_law_names", "_law_amount", "_law_name", "_law_side", "_law_row"] Vu s_am:=mkS
theorem sc_ah:bm ["_law_picture", "_law_points", "_law_seats", "_law_number", "_law_way", "_law_seat", "_law_x", "_law_y", "_law_free", "_law_name"] Ve s_ah:=mkS
theorem xg3:bm ["_law_script", "_law_picture", "_law_points", "_law_seats", "_law_k"] Px xoz:=mkS
#check S54
namespace S54
open PySem L2 XL PyProof.Rows
theorem xb6 {K:Zf}{v:Value}:Wy K v v=some true:=aC aj
theorem xaa {H H':Hp}{p:Addr}{o:HO} (s:cG) (hp:H' p=none):gK (L2.upd H' p o):=fun b u z=>by
 have z':=s b u z;show(bP,xk z' hp,z')
theorem su_e {H H':Hp}{p:Addr}{o:HO} (hp:su) (e:L2.upd H p o=H'):cG:=e▸(c7 hp)
theorem ug_e {H H':Hp}{p:Addr}{o:HO} (e:L2.upd H p o=H'):BY p o:=e▸xl
theorem xxw {n:Nat} (h:n<=1000):dB n:=ZJ h ao
theorem xc3 {n:Nat} (h:n<=1000):Aj n:=Js h ao
theorem ne_f {H:Hp}{a b:Addr}{o u:HO} (h:Li) (h':iJ) (d:o≠u:=by exact dJ):a≠b:=xdi h h' d
theorem leS0:dB 0:=ao
theorem leS1:1<=sizeLine:=ao
theorem leS2:dB 2:=ao
theorem leS3:dB 3:=ao
theorem leS4:dB 4:=ao
theorem leS5:dB 5:=ao
theorem xtj {H:Hp}{x dx:Addr}{a b c:HO} (hx:bI x) (hd:bI dx):gK (upd (upd (dZ dx a) x b) x c):=fun y o e=>by
 rw[mW hx,mW hx,mW hd];exact e
noncomputable def xao (b:Bool):Str:=tF "left" "right"
noncomputable def xe0 (t:Adr) (H:Hp) (p:Addr) (b:Bool) (w:Int):Prop:=∃ dx,aE p (lY (tF t.C_ag t.C_w) [("width",z0)])
inductive xw9 (K:Zf) (vs:ag) (H:Hp) (Q:VK) (_:XK):Prop
 | mk (p C dx:Addr) (n:Int) (e_:vs=[eB,.int n]) (r_:(bD,aE p (lY C []),LT,xe7 K C "width",Q .non (dZ p (lY C [("width",.int n)]))))
inductive sp1 (v:V) (vs:ag) (H:Hp) (Q:VK) (_:XK):Prop
 | mk (p:V) (e_:vs=[p]) (r_:Q v H)
inductive xy8 (vs:ag) (H:Hp) (Q:VK) (_:XK):Prop
 | mk (p:V) (x:V) (e_:vs=[p,x]) (r_:Q x H)
inductive xxx (t:Adr) (vs:ag) (H:Hp) (Q:VK) (_:XK):Prop
 | mk (p:Addr) (n:Int) (e_:vs=[eB]) (r_:xe0 t H p false n/\(jW gP))
inductive xyg (t:Adr) (vs:ag) (H:Hp) (Q:VK) (_:XK):Prop
 | mk (p:Addr) (n x:Int) (e_:vs=[eB,.int x]) (r_:xe0 t H p false n/\(jW (gP-x)))
inductive xsv (t:Adr) (vs:ag) (H:Hp) (Q:VK) (_:XK):Prop
 | mk (b:Bool) (n:Int) (e_:vs=[jD,.int n]) (r_:∀ p H',(bq,su,xe0 t H' p b n,cG,Q eB H'))
section
variable {P:Program}{w:World}{K:Zf}{mg:Str->Option Value}{base:Heap}{t:Adr}
theorem ok_ax (T:aV):FnOk true P w K mg base aU 1 t.f_ax t.d_ax OQ (xw9 K):=by
 refine T.F_ax.okn (k:=0) sc_ax (aY E) (fun cdv A outer s H vs Q E hr h=>?_)
 .obtain ⟨p,C,dx,n,rfl,_⟩:=h;rfl
 .obtain ⟨p,C,dx,n,rfl,h⟩:=h;show(lL,Sn fw);ext oA hp c na q h;exact⟨126,p,C,dx,[],rfl,hp,c,na,(pG 0),q⟩
theorem ok_ai (T:aV):FnOk true P w K mg base aU 1 t.f_ai t.d_ai jV (sp1 (.int 0)):=by
 refine T.F_ai.okn (k:=0) sc_ai (aY E) (fun cdv A outer s H vs Q E hr h=>?_)
 .ext DA p
 .ext D6 p;show(sD,xo);exact h
theorem ok_ab (T:aV):FnOk true P w K mg base aU 1 t.f_ab t.d_ab jV (sp1 (.int (-1))):=by
 refine T.F_ab.okn (k:=0) sc_ab (aY E) (fun cdv A outer s H vs Q E hr h=>?_)
 .ext DA p
 .ext D6 p;show(sD,xk8 xiy (xo));show(qJ,1,h)
theorem ok_r (T:aV):FnOk true P w K mg base aU 1 t.f_r t.d_r yE (xy8):=by
 refine T.F_r.okn (k:=0) sc_r (aY E) (fun cdv A outer s H vs Q E hr h=>?_)
 .ext DC p x
 .ext Eb p x;show(lL,wc 1);exact h
theorem ok_x (T:aV):FnOk true P w K mg base aU 1 t.f_x t.d_x jV (sp1 (.int 1)):=by
 refine T.F_x.okn (k:=0) sc_x (aY E) (fun cdv A outer s H vs Q E hr h=>?_)
 .ext DA p
 .ext D6 p;show(sD,xo);exact h
theorem ok_aa (T:aV):FnOk true P w K mg base aU 1 t.f_aa t.d_aa jV (xxx t):=by
 refine T.F_aa.okn (k:=0) sc_aa (aY E) (fun cdv A outer s H vs Q E hr h=>?_)
 .ext DC p n
 .ext Eb p n;show(sD,zN bB);obtain⟨⟨dx,hp⟩,q⟩:=h;exact⟨p,t.C_w,dx,_,_,rfl,zcR hp q⟩
theorem ok_m (T:aV):FnOk true P w K mg base aU 1 t.f_m t.d_m yE (xyg t):=by
 refine T.F_m.okn (k:=0) sc_m (aY E) (fun cdv A outer s H vs Q E hr h=>?_)
 .ext zfz p n x
 .obtain ⟨p,n,x,rfl,h⟩:=h;show(sD,xu xdd (zN bB) (pv 1));obtain⟨⟨dx,hp⟩,q⟩:=h;exact⟨p,t.C_w,dx,_,_,rfl,zcR hp q⟩
theorem ok_aw (T:aV):FnOk true P w K mg base aU 3 t.f_aw t.d_aw ON (xsv t):=by
 refine T.F_aw.okn (k:=2) sc_aw (aY E) (fun cdv A outer s H vs Q E hr h=>?_)
 .ext DC b n
 .ext Eb b n;refine⟨_,xh (xai (xa2 zlB) (xh (xai (jv xc2 0 (xbr)) (d8 (xhk T.k_ag (ok_ax T) bi rfl T.g_ag T.b_ax .nil xq i5)) (x9))
   (uc (jv xc2 0 (xbr)) (d8 (xhk T.k_w (ok_ax T) bi rfl T.g_w T.b_ax .nil xq i5)))) (x9))
   uK,?_⟩
  refine sq2 ?_; intros; refine iq ?_; intros; cases b with
  | true =>
   refine mB ⟨104,_,_,true,mX,rfl,xb6,Hu⟩;ext nW; refine iq ?_; intros; refine hW ?_;refine ifP aP ?_;exact (fun x dx hx hdx ne=>(oS,x,t.C_ag,dx,n,bO xl T.c_ag T.n_bl rfl zoh))
  | false =>
   show(bN,mB ⟨104,_,_,true,mX,rfl,xb6,Hu⟩,hW ?_);refine ifN aP ?_;refine hW ?_;refine ifP aP ?_;exact (fun x dx hx hdx ne=>(oS,x,t.C_w,dx,n,zcR xl zoh))
noncomputable def isNm (x:Str):Bool:=(d9 x.length 1)&&(!(bG (x.cps.toList<[97]))&&!(bG ([122]<x.cps.toList)))
inductive xyz (vs:ag) (H:Hp) (Q:VK) (_:XK):Prop
 | mk (i lo hi:Int) (e_:vs=[cO,.int lo,.int hi]) (r_:lo<=i/\i<=hi/\(mV true))
inductive xx0 (vs:ag) (H:Hp) (Q:VK) (_:XK):Prop
 | mk (x:Str) (e_:vs=[lR]) (r_:(rO x)/\(mV true))
theorem xx5:(fT "a").cps.toList=[97]:=aP
theorem xxz:(fT "z").cps.toList=[122]:=aP
theorem ok_an (T:aV):FnOk true P w K mg base aU 1 t.f_an t.d_an NO (xyz):=by
 refine T.F_an.okn (k:=0) sc_an (aY E) (fun cdv A outer s H vs Q E hr h=>?_)
 .ext zfz i lo hi
 .obtain ⟨i,lo,hi,rfl,h⟩:=h;show(sD,xc7 zlC (xc7 (xqt zkR) (xes (xgf xhg xhg fw bz iR))));ext gX c1 c2 q h;refine mB ⟨104,_,_,true,cO,rfl,xb6,Hu⟩;show(bN,mB ⟨104,_,_,false,cO,rfl,fH,⟨false,rfl,true,rfl,iteT ?_⟩⟩,yy)
  .refine ?_;show(uW,Q (Uq (i<=hi)) H,yS c2,q)
  .ext Oo c1 c
theorem ok_a6 (T:aV):FnOk true P w K mg base aU 1 t.f_a6 t.d_a6 TX (xx0):=by
 refine T.F_a6.okn (k:=0) sc_a6 (aY E) (fun cdv A outer s H vs Q E hr h=>?_)
 .ext DA x
 .ext D6 x;show(sD,xc7 zlB (xc7 (xc0 xc2 (Im xlv qz) (xo) C0) (xes (xgf xjy xjy (xbr) bz (xbr)))));ext iH hn h;unfold isNm at hn;simp only[Z9,decide_eq_true_eq,Qn,decide_eq_false_iff_not] at hn;ext gX l1 n1 n2 hn;show(bN,mB ⟨104,_,_,true,lR,rfl,xb6,Hu⟩,kJ 64 rfl (vW l1) yy)
  .refine (eD,_,_,rfl,vy d)
   .refine lN _ rfl;show(cD,xxz,tz n2,q)
   .rw [xx5,tz n1] at d;ext j4 d
  .show(Oo,d7 l1,c)
structure Pt where
 nm:Str
 x:Int
 y:Int
 sd:Str
 lo:Int
 hi:Int
noncomputable def ptV (p:Pt):ag:=(DN,.int p.x,p.y,p.sd,p.lo,p.hi)
inductive Pl (H:Hp):bX aw aI
 | nil:Pl H [] []
 | cons {p:Pt}{q:Addr}{ps:aw}{kvs:aI} (h:Pg p) (r:tM):Pl H (p::ps) ((TU,eC)::kvs)
inductive PtsL (H:Hp):bX aw az
 | nil:PtsL H [] []
 | cons {p:Pt}{q:Addr}{ps:aw}{qs:az} (h:gZ q IY) (r:IK):PtsL H (p::ps) sH
theorem xtd {Z:L2.St}{H:Hp}{A B:BV} (h:A H):xdr Z H (fun b H4=>(cM,b,A H4,B H4)):=by
 show(uW,(cM,true,A H,B H),bW,h)
theorem xoq {i:Nat}{v:V}{Z:L2.St}{H:Hp}{A B:nG L2.St} (h:A oq H):xcn i v Z H (rN,xdr σ' H' fun b H4=>(cM,b,A σ' H4,B σ' H4)):=by
 show(uW,(cM,true,A oq H,B oq H),bW,h)
noncomputable def Tups (H H':Hp):Prop:=GC
theorem Pl.keep {H H':Hp} (s:lH) {ps:aw}{kvs:aI} (h:tM):Pl H' ps kvs:=by
 induction h with
 | nil=>ext eI
 | cons h _ ih=>ext zw
theorem PtsL.keep {H H':Hp} (s:lH) {ps:aw}{qs:az} (h:IK):PtsL H' ps qs:=by
 induction h with
 | nil=>ext eI
 | cons h _ ih=>ext zw
theorem Pl.len {H:Hp}{ps:aw}{kvs:aI} (h:tM):zdb:=by
 induction h with
 | nil=>rfl
 | cons _ _ ih=>simp[ih]
theorem PtsL.len {H:Hp}{ps:aw}{qs:az} (h:IK):Ct qs.length:=by
 induction h with
 | nil=>rfl
 | cons _ _ ih=>simp[ih]
theorem Pl.find {H:Hp}{ps:aw}{kvs:aI} (h:tM) {nm:Str}{pt:Pt} (e:ze):zfA (Pg pt):=by
 induction h with
 | nil=>ext nH
 | @cons p q ps kvs h _ ih =>
  ext zb
  .ext zmv
  .ext zjs
theorem Pl.no {H:Hp}{ps:aw}{kvs:aI} (h:tM) {nm:Str} (e:RJ):Cj=none:=by
 induction h with
 | nil=>rfl
 | @cons p q ps kvs h _ ih =>
  ext ziB
theorem Pl.get {H:Hp}{ps:aw}{kvs:aI} (h:tM) {i:Nat}{k:Key}{x:V} (e:kf):zlP (Pg p):=by
 induction h generalizing i with
 | nil=>ext nH
 | @cons p q ps kvs h _ ih =>
  cases i with
  | zero =>
   simp at e;exact⟨84,p,q,rfl,e.1.symm,e.2.symm,h⟩
  | succ j=>ext uC
theorem PtsL.get {H:Hp}{ps:aw}{qs:az} (h:IK) {i:Nat}{q:Addr} (e:BE):zfD (gZ q IY):=by
 induction h generalizing i with
 | nil=>ext nH
 | @cons p q' ps qs h _ ih =>
  cases i with
  | zero =>
   ext Lc p
  | succ j=>ext uC
theorem Pl.snoc {H:Hp}{ps:aw}{kvs:aI} (h:tM) {p:Pt}{q:Addr} (e:Pg p):Pl H LQ (Tl TU):=by
 induction h with
 | nil=>ext Lb
 | cons h _ ih=>ext Ck
theorem PtsL.snoc {H:Hp}{ps:aw}{qs:az} (h:IK) {p:Pt}{q:Addr} (e:gZ q IY):PtsL H LQ (qs++[q]):=by
 induction h with
 | nil=>ext Lb
 | cons h _ ih=>ext Ck
noncomputable abbrev picF (w h:Int) (dp do_:Addr):lD:=[("width",z0),("height",.int h),lq "placed" dp,lq "opened" do_]
structure Pic (t:Adr) (H:Hp) (a dp do_:Addr) (w h:Int) (ps:aw):Prop where
 ins:∃ dx,aE a (lY t.C_a DQ)
 pl:∃ kvs,(Bg dp)/\tM
 w1:1<=w
 w2:j5
 h1:1<=h
 h2:lT
 len:zeq
theorem Same.tups {H H':Hp} (s:cG):lH:=(jz,s b _ e)
theorem Pic.same {t:Adr}{H H':Hp}{a dp do_:Addr}{w h:Int}{ps:aw} (s:cG) (p:Pic t H a dp do_ w h ps):Pic t H' a dp do_ w h ps :=
 ⟨let ⟨dx,e⟩:=p.ins; m9 rS,let ⟨kvs,e,q⟩:=p.pl; ⟨kvs,rS,q.keep (Same.tups s)⟩,p.w1,p.w2,p.h1,p.h2,p.len⟩
theorem xar {w h:Int}{dp do_:Addr}{m:Str} (e:((["width", "height", "placed", "opened"]:ai).all fun k=>!(m == k))=true):(DQ).lookup m=none:=by
 ext WR;obtain⟨e1,e2,e3,e4,_⟩:45:=e;unfold picF;ext Rh e1 zpX;show(Rh,e2,[Os,Do]);show(Rh,e3,[Do]);rw[Zz,e4];rfl
theorem lkW {w h:Int}{dp do_:Addr}:(DQ).lookup (fT "width")=some z0:=by
 unfold picF;show(DJ,"width")
theorem lkH {w h:Int}{dp do_:Addr}:(DQ).lookup (fT "height")=some (.int h):=by
 show(zbr,"height");show(DJ,"height")
theorem lkP {w h:Int}{dp do_:Addr}:(DQ).lookup (fT "placed")=some (.ref dp):=by
 show(zbr,"placed");show(GT,"placed","height","placed",[Os,Do]);show(DJ,"placed")
inductive xus (t:Adr) (vs:ag) (H:Hp) (Q:VK) (_:XK):Prop
 | mk (p dx:Addr) (w h:Int) (e_:vs=[eB,z0,.int h]) (r_:(aE p (lY t.C_a []))/\(ax,1<=w,j5,1<=h,lT,∀ H' dp do_,(bI dp)->(kM,bI do_,sQ p,Pic t H' p dp do_ w h [],zqL,.non)))
inductive spCN (t:Adr) (vs:ag) (H:Hp) (Q:VK) (_:XK):Prop
 | mk (a dp do_:Addr) (pw ph:Int) (ps:aw) (nm:Str) (pt:Pt) (e_:vs=[aB,wO]) (r_:(bD,Pic t H a dp do_ pw ph ps,zC,ze,Q .non H))
inductive spCC (t:Adr) (vs:ag) (H:Hp) (Q:VK) (_:XK):Prop
 | mk (a dp do_:Addr) (pw ph:Int) (ps:aw) (x y:Int) (e_:vs=[aB,Af,.int y]) (r_:Pic t H a dp do_ pw ph ps/\(ax,1<=x,x<=pw,1<=y,y<=ph,Q .non H))
inductive xyk (t:Adr) (vs:ag) (H:Hp) (Q:VK) (_:XK):Prop
 | mk (a dp do_:Addr) (pw ph:Int) (ps:aw) (e_:vs=fO) (r_:Pic t H a dp do_ pw ph ps/\∀ H' l qs,(bq,cG,GB,PtsL H' ps qs,Q bH H'))
inductive spCL (t:Adr) (vs:ag) (H:Hp) (Q:VK) (_:XK):Prop
 | mk (a dp do_:Addr) (pw ph:Int) (ps:aw) (nm:Str) (x y:Int) (e_:vs=[aB,wO,Af,.int y]) (r_:Pic t H a dp do_ pw ph ps/\zlG/\∀ H',cG->rM)
inductive spCS (t:Adr) (vs:ag) (H:Hp) (Q:VK) (_:XK):Prop
 | mk (a dp do_:Addr) (pw ph:Int) (ps:aw) (b:Bool) (r:Int) (e_:zbP) (r_:(bD,Pic t H a dp do_ pw ph ps,1<=r,r<=ph,∀ H',cG->rM))
inductive xxr (t:Adr) (vs:ag) (H:Hp) (Q:VK) (_:XK):Prop
 | mk (a dp do_:Addr) (pw ph:Int) (ps:aw) (nm:Str) (x y:Int) (sd:Str) (lo hi:Int) (hv:V) (e_:vs=[aB,wO,Af,.int y,.str sd,.int lo,hv]) (r_:Pic t H a dp do_ pw ph ps/\(ax,(hv=.non/\hi=ph)\/hv=.int hi,zC,1<=x,x<=pw,(ax,1<=y,y<=ph,sd="left"\/sd="right"\/sd="both",1<=lo,(zq,lo<=hi,hi<=ph,(∀ p∈ps,Fb/\p.x≠x/\p.y≠y),ps.length<12,(sQ dp)->Pic t H' a dp do_ pw ph (ps++[Ke lo hi])->rM))))
inductive xx1 (t:Adr) (vs:ag) (H:Hp) (Q:VK) (_:XK):Prop
 | mk (a dp do_:Addr) (pw ph:Int) (ps:aw) (nm:Str) (pt:Pt) (e_:vs=[aB,wO]) (r_:(bD,Pic t H a dp do_ pw ph ps,zC,ze,∀ H' q,cG->(Ih q (ua pt.x pt.y))->Q eC H'))
noncomputable def lenI (w x y:Int) (b:Bool) (r:Int):Int:=(tF,x,w+1-x)+(gW,y-r,0,-(y-r),y-r)
inductive xyd (t:Adr) (vs:ag) (H:Hp) (Q:VK) (_:XK):Prop
 | mk (a dp do_:Addr) (pw ph:Int) (ps:aw) (nm:Str) (pt:Pt) (b:Bool) (r:Int) (e_:ztC) (r_:Pic t H a dp do_ pw ph ps/\(zq,zC,ze,1<=r,r<=ph,cG->Q (.int (lenI pw pt.x pt.y b r)) H'))
theorem ok_ap (T:aV):FnOk true P w K mg base aU 2 t.f_ap t.d_ap zsY (xus t):=by
 refine T.F_ap.okn (k:=1) sc_ap (aY E) (fun cdv A outer s H vs Q E hr h=>?_)
 .obtain ⟨p,dx,pw,ph,rfl,_⟩:=h;rfl
 .obtain ⟨p,dx,pw,ph,rfl,h⟩:=h;refine⟨_,xh (xai (PW.pt (CL (jY (pC Cc hr T.g_an T.F_an.kp T.b_an (eT 1 (oZ (zdy 30 T.v_bj.choose_spec))))) (jY (pC Cc hr T.g_an T.F_an.kp T.b_an (eT 2 (oZ (zdy 16 T.v_bm.choose_spec))))))) uK (x9))
   (xh (My fw)
   (xh (My iR)
   (xh UA
   (Sn (xex))))),?_⟩
  refine sq5 ?_; intros; obtain⟨hp,w1,w2,h1,h2,q⟩:46:=h;refine⟨pw,1,30,rfl,w1,w2,true,rfl,iteF ⟨ph,1,16,rfl,h1,h2,true,rfl,ux⟩⟩;show(bN,⟨126,p,_,dx,_,rfl,hp,T.c_a,T.n_a8,(pG 0),?_⟩,⟨126,p,_,dx,_,rfl,xl,T.c_a,T.n_a5,(pG 1),?_⟩);show(nK,xdo,au dp hdp);show(ap,n1,p≠dp,xk xl hdp,⟨126,p,_,dx,_,rfl,(bE n1 xl),T.c_a,T.n_a9,(pG 2),au do_ hdo⟩);have n2:p≠do_:=xk xl hdo;show(ap,n3,dp≠do_,xk (aD B9 xl) hdo,⟨126,p,_,dx,_,rfl,(bE n2 xl),T.c_a,T.n_bb,(pG 3),?_⟩);rw[B9] at hdp;have hdo':bI do_:=by
   have z:=hdo;rw[jF n2,jF n3,jF n2] at z;exact z
  refine q _ dp do_ hdp hdo' qh ⟨m9 xl,xJ [] .nil,w1,w2,h1,h2,fP⟩ ?_
  .have c1:b≠dp:=xk e hdp;have c2:b≠do_:=fun z=>by
    subst z;rw[oY,xj c1,oY] at hdo;ext cH e hdo
   rw[oY,xj c2,oY,xj c1,oY];exact e
  .rw [B9,xj n3,B9];exact xl
  .show(c9,jF n2,xl)
theorem ok_c (T:aV):FnOk true P w K mg base aU 2 t.f_c t.d_c iB (spCN t):=by
 refine T.F_c.okn (k:=1) sc_c (aY E) (fun cdv A outer s H vs Q E hr h=>?_)
 .obtain ⟨a,dp,do_,pw,ph,ps,nm,pt,rfl,_⟩:=h;rfl
 .obtain ⟨a,dp,do_,pw,ph,ps,nm,pt,rfl,h⟩:=h;show(lL,uc (PW.pt (xce (jY (pC (ok_a6 T) hr T.g_a6 T.F_a6.kp T.b_a6 i5)) (xb7 (xcz (xdk eR fw bB))))) uK);ext MC hn hf;ext C3 dx;show(fD,q0,e,pl.find hf);exact(zdj,iteF ⟨a,_,dx,_,_,rfl,AN ⟨dp,Ci,rfl,(bJ,e,kI oH hk),false,rfl,iteF q⟩⟩)
theorem ok_h (T:aV):FnOk true P w K mg base aU 2 t.f_h t.d_h (jX "x" "y") (spCC t):=by
 refine T.F_h.okn (k:=1) sc_h (aY E) (fun cdv A outer s H vs Q E hr h=>?_)
 .obtain ⟨a,dp,do_,pw,ph,ps,x,y,rfl,_⟩:=h;rfl
 .obtain ⟨a,dp,do_,pw,ph,ps,x,y,rfl,h⟩:=h;show(lL,uc (PW.pt (CL (jY (pC Cc hr T.g_an T.F_an.kp T.b_an (eT 1 (oZ bB)))) (jY (pC Cc hr T.g_an T.F_an.kp T.b_an (eT 2 (oZ bB)))))) uK);obtain⟨pic,x1,x2,y1,y2,q⟩:46:=h;ext vh dx;exact⟨a,_,dx,_,_,rfl,mT hp T.n_a8 lkW ⟨x,1,pw,rfl,x1,x2,true,rfl,iteF ⟨a,_,dx,_,_,rfl,DT ⟨y,1,ph,rfl,y1,y2,true,rfl,iteF q⟩⟩⟩⟩
theorem ok_q (T:aV):FnOk true P w K mg base aU 1 t.f_q t.d_q jV (xyk t):=by
 refine T.F_q.okn (k:=0) sc_q (aY E) (fun cdv A outer s H vs Q E hr h=>?_)
 .obtain ⟨a,dp,do_,pw,ph,ps,rfl,_⟩:=h;rfl
 .obtain ⟨a,dp,do_,pw,ph,ps,rfl,h⟩:=h;show(lL,xm (xz (xd9 (xav rfl (xau (zs:=["name", "rest"]) (ys:=[]) (fr:=[]) (N0:=jV) (sc0:=xp s_q) aP rfl rfl rfl) (xr1 bB) MR (xer Ds) eW (VT fw)))));ext iH pic h;ext C3 dx;refine⟨a,_,dx,_,_,rfl,(AN,AR dp hk l hl)⟩;have nl:l≠dp:=fun z=>by
   rw[z,xl] at hl;cases hl
  show(cC,hl0,iP,ztF,xcu kvs.length (gO,xs,H2,∃ qs:az,xs=A9/\(ax,qs.length<=i,H2 dp=some qQ,G6 dp,K1,PtsL H2 (ps.take i) qs)) ?_ ?_ ?_ ?_)
  .refine ⟨66,[],rfl,bo,?_,qh,xl,by simpa using PtsL.nil⟩
   .show(c9,jF nl,xl)
   .rw [mW hl0,oY];exact e
  .rintro i xs H2 lt (⟨qs,_,_,hd,_⟩:64);ext aO hd lt
  .rintro i xs H2 v H3 lt (⟨qs,rfl,ql,hd,sm,hl2,pts⟩:66) ⟨p,k,x,hx,rfl,hpn,rfl⟩ N hN;obtain⟨pt,q0,hpt,rfl,rfl,hq0⟩:84:=pl.get hx;show(ap,e0,H2 q0=some (.tup (ptV pt)),sm _ _ (ne_f hq0 hk) hq0,fW p xl);refine xtd ?_;show(ap,n0,q0≠p,xk e0 hpn,⟨(nu leS1),fun p1 h1=>(oS,p1,q0,_,ptV pt,⟨47,rfl,dR xl,dR ?_,aj,(HR,1+5),dJ,fun _ p2 h2=>?_⟩)⟩)
   .rw [xj (xk (bE n0 e0) h1),xj n0];exact e0
   have up:(sG,H2 b=some u,(upd (ez zeV p1 [mD]) p2 (.tup ([mD]++ptV pt))) b=some u):=fun b u e=>by
    have c1:b≠p:=xk e hpn;have e1:fF H2 p (.tup zdg) b u:=bE c1 e
    have c2:b≠p1:=xk e1 h1;have e2:fF zeV p1 (.tup [mD]) b u:=bE c2 e1
    show(bP,xk e2 h2,e2)
   have c3:l≠p2:=xk (show fF zeV p1 (.tup [mD]) l Hn from by
    have c1:l≠p:=xk hl2 hpn;have e1:fF H2 p (.tup zdg) l Hn:=bE c1 hl2
    show(bP,xk e1 h1,e1)) h2
   have tk:ps.take aM=ps.take i++[pt]:=by
    rw[ZT,hpt];rfl
   show(ap,ll,Aj qs.length,zuA pl.len qs.length,⟨up _ _ hl2,fL ll,hN _ _ ⟨66,qs++[p2],aj,iD,?_,qh,xl,?_⟩⟩)
   .show(c9,jF nl,up _ _ hd)
   .have e2:=up _ _ (sm b u nb e);show(bP,xk e hl0,e2)
   .rw [tk];refine PtsL.snoc (PtsL.keep Mj pts) ?_
    .have e2:=up _ _ e;show(bP,ne_f e2 (up _ _ hl2),e2)
    .show(c9,jF c3,xl)
  .rintro xs H2 (⟨qs,rfl,_,hd,sm,hl2,pts⟩:66);show(dE,⟨hd,bo⟩,⟨103,dp,ob,_,hd,nf,q _ l qs uw ?_ (PtsL.keep Mj (by show(oW,pl.len,Jh,pts,pts)))⟩)
   .ext jc b dp
    .subst c;ext uP hk e xl
    .show(jb,c,sm b u c e)
   .ext jb nl hl2
   .show(jb,dQ hd,e)
theorem ok_e (T:aV):FnOk true P w K mg base aU 2 t.f_e t.d_e Ax (spCL t):=by
 refine T.F_e.okn (k:=1) sc_e (aY E) (fun cdv A outer s H vs Q E hr h=>?_)
 .obtain ⟨a,dp,do_,pw,ph,ps,nm,x,y,rfl,_⟩:=h;rfl
 .obtain ⟨a,dp,do_,pw,ph,ps,nm,x,y,rfl,h⟩:=h;refine⟨_,xh (xe1 rfl (xau (zs:=["other"]) (ys:=["name"]) (fr:=[1]) (N0:=zkm) (sc0:=xp s_e) aP rfl rfl rfl) (xal (xcc bz T.c_a T.m_q (ok_q T) bi T.b_q .nil xq)) fj eP (PP (iz xff zoX fw)) DF (j:=4) rfl FZ)
   (xh (Ap (kT 4) 5 sc_e.nd (iz xc2 si iR) uK)
   (xm (Ap (kT 4) 5 sc_e.nd (iz xc2 si h7) uK))),?_⟩
  refine sq3 ?_; intros; ext gX pic no q h;ext C3 dx;refine⟨a,dx,_,rfl,hp,bM,a,dp,do_,pw,ph,ps,rfl,pic,fun H1 l1 qs s1 hl1 pt1=>zsT⟩;refine xcu qs.length (gO,xs,H2,∃ os:az,(ax,xs=os.map V.ref,os.length<=i,kD,K1,∀ o∈os,∃ p∈ps,Fb/\H1 o=some (.tup IY))) ?_ ?_ ?_ ?_
  .exact ⟨65,[],rfl,bo,c7 hl,xl,fun o z=>nomatch z⟩
  .rintro i xs H2 lt (⟨os,_,_,s2,_⟩:64);ext zrc
  .rintro i xs H2 v H3 lt (⟨os,rfl,ol,s2,hl2,hos⟩:65) ⟨rfl,hv⟩ N hN;ext zey Iz;ext tP o ho hv';show(ae,p,hpp,ep,pt1.get ho);refine(kJ,o,0,_,OU (h8 ep) yy)
   .have cn:p.nm≠nm:=fun z=>by
     rw[z] at c;simp at c
    refine⟨hl2,(fL,zuA pt1.len os.length),hN _ _ ⟨65,os++[o],aj,iD,?_,xl,?_⟩⟩
    .intro b u e
     by_cases cb:b=l
     .subst cb;ext cH e hl
     .show(jb,cb,s2 b u e)
    .intro o' ho'
     rcases Zw.mp ho' with z|z
     .exact hos o' z
     .have:=wK;ext qF;exact(ba,p,Zn hpp,cn,ep)
   .exact hN _ _ ⟨65,os,rfl,aa,s2,hl2,hos⟩
  .rintro xs H2 (⟨os,rfl,ol,s2,hl2,hos⟩:65);show(dE,cq Iz aj,?_);ext xW; have loop:∀(o:Addr),o∈os->∃ p∈ps,Fb/\H2 o=some (.tup IY):=fun o ho=>by
    show(b9,p,h1,h2,h3,hos o ho);exact(ba,p,h1,h2,h8 h3)
   refine(jp,l,hl2,xbi (xs:=zfl) (Pv:=zin) Fl zmS ?_ ?_)
   .rintro i v Z _ hv (⟨v5,rfl,rfl⟩:62);ext zla;refine kJ o 1 _ (OU,m3,Gk (aA,(no p m1 m2).1 (V.int.inj z)) Fl)
   .ext zsH;refine nx ?_; refine fo ?_; intros; refine(jp,l,hl2,xbi (xs:=zfl) (Pv:=zin) Fl zmS ?_ ?_)
    .rintro i v Z _ hv (⟨v5,rfl,rfl⟩:62);ext zla;refine kJ o 2 _ (OU,m3,Gk (aA,(no p m1 m2).2 (V.int.inj z)) Fl)
    .ext zsH;exact q _ oh
theorem ok_d (T:aV):FnOk true P w K mg base aU 4 t.f_d t.d_d pF (spCS t):=by
 refine T.F_d.okn (k:=3) sc_d (aY E) (fun cdv A outer s H vs Q E hr h=>?_)
 .obtain ⟨a,dp,do_,pw,ph,ps,b,r,rfl,_⟩:=h;rfl
 .obtain ⟨a,dp,do_,pw,ph,ps,b,r,rfl,h⟩:=h;refine⟨_,xh (xam (pC FH hr T.g_aw T.F_aw.kp T.b_aw (fZ 1 bB)))
   (uc (jY (pC Cc hr T.g_an T.F_an.kp T.b_an (eT 2 (oZ bB)))) uK),?_⟩
  refine sq2 ?_; intros; ext MC r1 r2;ext vh dx;refine⟨a,_,dx,_,_,rfl,mT hp T.n_a8 lkW (uQ,b,pw,bC p H1 hp1 sd1 s1)⟩;exact⟨a,_,dx,_,_,rfl,mT mP T.n_a5 lkH ⟨r,1,ph,rfl,r1,r2,true,rfl,iteF (q H1 s1)⟩⟩
theorem ok_b (T:aV):FnOk true P w K mg base aU 3 t.f_b t.d_b ["self", "name", "x", "y", "sides", "low", "high"] (xxr t):=by
 refine T.F_b.okn (k:=2) sc_b (aY E) (fun cdv A outer s H vs Q E hr h=>?_)
 .obtain ⟨a,dp,do_,pw,ph,ps,nm,x,y,sd,lo,hi,hv,rfl,_⟩:=h;rfl
 .obtain ⟨a,dp,do_,pw,ph,ps,nm,x,y,sd,lo,hi,hv,rfl,h⟩:=h;refine⟨_,xh (pS 7 sc_b.nd (xib (jv xp7 6 (xcx)) bB (pv 6)))
   (xh (FX (jY (pC (ok_a6 T) hr T.g_a6 T.F_a6.kp T.b_a6 i5)))
   (xh (xam (xag bz T.c_a T.m_h (ok_h T) bi T.b_h .nil xq ww))
   (xh (xai (PW.pt (xce (Iq 4 "str" T.n_str boot_str) (xb7 (xcz (xqs jd rfl T.g_ad T.D_ad))))) uK (x9))
   (xh (xai (PW.pt (CL (jY (pC Cc hr T.g_an T.F_an.kp T.b_an (eT 5 (oZ bB)))) (jY (pC Cc hr T.g_an T.F_an.kp T.b_an (eT 7 (fZ 5 bB)))))) uK (x9))
   (xh (FX (xcz (xf0 eR fw bB)))
   (xh (FX (iz xy0 (Im xg2 (xg bB (xi))) (zdy 12 T.v_bk.choose_spec)))
   (xh (xam (xag bz T.c_a T.m_e (ok_e T) bi T.b_e .nil xq EG))
   (xm (qp bB fw (xaq (sE 2 3 (gq 4 5 7)))))))))))),?_⟩
  refine sq9 ?_; intros; obtain⟨pic,hhv,hn,x1,x2,y1,⟨y2,hsd,l1,l2,l3,no,len,q⟩⟩:47:=h;ext C3 dx;have hsd':gT (valV ([(jG,ZW "left","right"),(jG,ZW "right","left"),(jG,ZW "both","both")]:aI) (ZW sd)):=by
   rcases hsd with rfl|rfl|rfl<;>decide +kernel
  rcases hhv with⟨rfl,e⟩|rfl
  .show(nB,e.symm);refine(hW,ifP fH ⟨a,_,dx,_,_,rfl,DT ?_⟩);show(bN,zdj ux,⟨a,dx,_,rfl,hp,bM,a,dp,do_,pw,ph,ps,x,y,rfl,pic,x1,x2,y1,y2,?_⟩);show(wF,mB ⟨104,_,_,true,mX,rfl,xb6,zkX⟩,⟨a,_,dx,_,_,rfl,DT ⟨lo,1,ph,rfl,l1,aa,true,rfl,iteF ⟨a,_,dx,_,_,rfl,DT ⟨ph,lo,ph,rfl,aa,aa,true,rfl,ux⟩⟩⟩⟩,⟨a,_,dx,_,_,rfl,AN ⟨dp,none,rfl,(bJ,Nj,kI oH hk),false,rfl,ux⟩⟩,⟨a,_,dx,_,_,rfl,zlD⟩);show(bN,⟨a,dx,_,rfl,hp,bM,a,dp,do_,pw,ph,ps,nm,x,y,rfl,pic,zrD,rq⟩,zdF q1 hq1);have hp1:Om ph a znP:=bE (xk mP hq1) mP
   show(ap,hk1,Om ph dp rQ,bE (xk zL hq1) zL,⟨a,_,dx,_,_,rfl,zkb⟩);rw[xcp (.ref q1) Nj];have nq:q1≠dp:=fun z=>by
    subst z;ext cH zL hq1
   refine q _ qh ⟨eS dx,zlX ph,pic.w1,pic.w2,pic.h1,pic.h2,(aD Zr len)⟩
   .rw [oY,xj (xk wy hq1)];exact wy
   .show(jb,ne_f hp1 hk1,hp1)
   .ext zkL
   .ext jb nq xl
  .refine (hW,ifN fH ?_);refine zdj ux;show(bN,⟨a,dx,_,rfl,hp,bM,a,dp,do_,pw,ph,ps,x,y,rfl,pic,x1,x2,y1,y2,?_⟩,mB ⟨104,_,_,true,mX,rfl,xb6,zkX⟩);refine⟨a,_,dx,_,_,rfl,DT ⟨lo,1,ph,rfl,l1,aa,true,rfl,iteF ⟨a,_,dx,_,_,rfl,DT ⟨hi,lo,ph,rfl,aa,aa,true,rfl,ux⟩⟩⟩⟩;show(wF,⟨a,_,dx,_,_,rfl,AN ⟨dp,none,rfl,(bJ,Nj,kI oH hk),false,rfl,ux⟩⟩,⟨a,_,dx,_,_,rfl,zlD⟩,⟨a,dx,_,rfl,hp,bM,a,dp,do_,pw,ph,ps,nm,x,y,rfl,pic,zrD,rq⟩,zdF q1 hq1);have hp1:Om hi a znP:=bE (xk mP hq1) mP
   show(ap,hk1,Om hi dp rQ,bE (xk zL hq1) zL,⟨a,_,dx,_,_,rfl,zkb⟩);rw[xcp (.ref q1) Nj];have nq:q1≠dp:=fun z=>by
    subst z;ext cH zL hq1
   refine q _ qh ⟨eS dx,zlX hi,pic.w1,pic.w2,pic.h1,pic.h2,(aD Zr len)⟩
   .rw [oY,xj (xk wy hq1)];exact wy
   .show(jb,ne_f hp1 hk1,hp1)
   .ext zkL
   .ext jb nq xl
theorem ok_j (T:aV):FnOk true P w K mg base aU 3 t.f_j t.d_j iB (xx1 t):=by
 refine T.F_j.okn (k:=2) sc_j (aY E) (fun cdv A outer s H vs Q E hr h=>?_)
 .obtain ⟨a,dp,do_,pw,ph,ps,nm,pt,rfl,_⟩:=h;rfl
 .obtain ⟨a,dp,do_,pw,ph,ps,nm,pt,rfl,h⟩:=h;refine⟨_,xh (xam (xag bz T.c_a T.m_c (ok_c T) bi T.b_c .nil xq i5))
   (d8 (xd5 xmw zcY xeo (xep (xo)))),?_⟩
  refine sq2 ?_; intros; ext MC hn hf;ext C3 dx;ext zdu e;refine⟨a,dx,_,rfl,hp,bM,a,dp,do_,pw,ph,ps,nm,pt,rfl,pic,hn,hf,?_⟩;exact⟨a,_,dx,_,_,rfl,AN ⟨dp,rY,rfl,(bJ,e,kI oH hk),2,rfl,q0,ptV pt,rfl,dR hq0,(aA,absurd z.2 (zaW 2 5)),fun p hp'=>q _ p (c7 hp') xl⟩⟩
theorem ok_o (T:aV):FnOk true P w K mg base aU 5 t.f_o t.d_o C8 (xyd t):=by
 refine T.F_o.okn (k:=4) sc_o (aY E) (fun cdv A outer s H vs Q E hr h=>?_)
 .obtain ⟨a,dp,do_,pw,ph,ps,nm,pt,b,r,rfl,_⟩:=h;rfl
 .obtain ⟨a,dp,do_,pw,ph,ps,nm,pt,b,r,rfl,h⟩:=h;refine⟨_,xh (KP (xag bz T.c_a T.m_j (ok_j T) bi T.b_j .nil xq i5) (iX 4 sc_o.nd 5))
   (xh (xam (xag bz T.c_a T.m_d (ok_d T) bi T.b_d .nil xq ww))
   (d8 (xu xa0 (xgp (xag (pC FH hr T.g_aw T.F_aw.kp T.b_aw (fZ 2 bB)) T.c_ag T.m_r (ok_r T) bi T.b_r .nil xq (gG 4)) (xag (pC FH hr T.g_aw T.F_aw.kp T.b_aw (fZ 2 bB)) T.c_w T.m_m (ok_m T) bi T.b_m .nil xq (gG 4))) (zlm kZ 3)))),?_⟩
  refine sq3 ?_; intros; obtain⟨pic,hn,hf,r1,r2,q⟩:46:=h;ext vh dx;show(bN,⟨a,dx,_,rfl,hp,bM,a,dp,do_,pw,ph,ps,nm,pt,rfl,pic,hn,hf,zol⟩,⟨a,dx,_,rfl,mP,bM,a,dp,do_,pw,ph,ps,b,r,rfl,FB,r1,r2,au H2 s2⟩);cases b with
  | true =>
   refine .inl ⟨a,_,dx,_,_,rfl,C2 true⟩;ext Kr sd3;exact⟨p,ds,_,rfl,hs,M3,_,_,rfl,_,rfl,q H3 ((oh).trans s3)⟩
  | false =>
   show(uY,⟨a,_,dx,_,_,rfl,C2 false⟩);show(Kr,id sd3);exact⟨p,ds,_,rfl,hs,M3,p,pw,_,rfl,sd3,_,rfl,q H3 ((oh).trans s3)⟩
inductive xap (H:Hp):bX kh az
 | nil:xap H [] []
 | cons {c:jT}{q:Addr}{cs:kh}{qs:az} (h:OJ) (r:Bk):xap H (c::cs) sH
theorem xap.keep {H H':Hp} (s:lH) {cs:kh}{qs:az} (h:Bk):xap H' cs qs:=by
 induction h with
 | nil=>ext eI
 | cons h _ ih=>ext zw
theorem xap.len {H:Hp}{cs:kh}{qs:az} (h:Bk):zba:=by
 induction h with
 | nil=>rfl
 | cons _ _ ih=>simp[ih]
theorem xap.get {H:Hp}{cs:kh}{qs:az} (h:Bk) {i:Nat}{q:Addr} (e:BE):∃ c,(aF cs c)/\OJ:=by
 induction h generalizing i with
 | nil=>ext nH
 | @cons c q' cs qs h _ ih =>
  cases i with
  | zero =>
   ext Lc c
  | succ j=>ext uC
theorem xap.append {H:Hp}{cs ds:kh}{qs rs:az} (h:Bk) (h':xap H ds rs):xap H (cs++ds) (qs++rs):=by
 induction h with
 | nil=>exact h'
 | cons h _ ih=>ext Ck
theorem xap.snoc {H:Hp}{cs:kh}{qs:az} (h:Bk) {c:jT}{q:Addr} (e:OJ):xap H (cs++[c]) (qs++[q]):=h.append (.cons e .nil)
theorem xcj {Z:L2.St}{fr:ij}{te:TE}{l:Addr}{H1:Hp}{Q:VK}{lo d:Int}{n:Nat} (f:Nat->jT) (hl:pV) (hn:n<1000)
    (hte:∀(i:Nat) (H2:Hp) (R:VK),eF->(ztt (jw,H2,p,.int (f i).1,(f i).2))->te ((vS).set 0 (aX (lo+dD*d))) H2 R)
    (fin:∀(H2:Hp) (qs:az),(bq,kD,H2 l=some (.lst (qs.map V.ref)),xap H2 ((Zx n).map f) qs,FO)):xdg zfQ 1 (xcn 0) Z fr xdr te l H1 Q:=by
  refine xcu n (gO,xs,H2,∃ qs:az,(ax,xs=qs.map V.ref,qs.length<=i,kD,K1,xap H2 ((Zx i).map f) qs)) ?_ ?_ ?_ ?_
  . exact⟨65,[],rfl,bo,c7 hl,xl,.nil⟩
  . rintro i xs H2 lt _
    exact lt
  . rintro i xs H2 v H3 lt (⟨qs,rfl,ql,s2,hl2,cl⟩:65) ⟨rfl,rfl⟩ N hN
    refine xoq ?_;refine hte i _ _ lt (fG (xJ,?_,hN _ _ ⟨65,qs++[p],aj,iD,?_,xl,?_⟩))
    . show(bP,xk hl2 hp,hl2)
    . show(aK,Za,Js ql (ZI lt (Z5 hn ao)))
    . intro b u e
      have nb:b≠l:=Ca;show(cD,oY,xj (xk Ll hp),Ll)
    . rw[JM,Zq]
      ext zai cl
      . show(cD,xj (dQ hl2),FC,e)
      . show(uS,xk hl2 hp,xl)
  . rintro xs H2 (⟨qs,rfl,_,s2,hl2,cl⟩:65)
    show(aO,bo,fin H2 qs s2 hl2 cl)
inductive xt1 (t:Adr) (vs:ag) (H:Hp) (Q:VK) (_:XK):Prop
 | mk (a dp do_:Addr) (pw ph:Int) (ps:aw) (nm:Str) (pt:Pt) (b:Bool) (r:Int) (e_:ztC) (r_:Pic t H a dp do_ pw ph ps/\zC/\(ax,ze,1<=r,r<=ph,(bD,1<=pt.x,pt.x<=pw,1<=pt.y,pt.y<=ph),zkh (Geo.cells pw pt.x pt.y b r)))
theorem lno {m:Str}{v:V} (h:Gp m (fT "width")):([("width",v)]:lD).lookup m=none:=by
 rw[Zz,h];rfl
theorem ok_az (T:aV):FnOk true P w K mg base aU 6 t.f_az t.d_az VZ (xt1 t):=by
 refine T.F_az.okn (k:=5) sc_az (aY E) (fun cdv A outer s H vs Q E hr h=>?_)
 .obtain ⟨a,dp,do_,pw,ph,ps,nm,pt,b,r,rfl,_⟩:=h;rfl
 .obtain ⟨a,dp,do_,pw,ph,ps,nm,pt,b,r,rfl,h⟩:=h;refine⟨_,xh (xam (xag bz T.c_a T.m_o (ok_o T) bi T.b_o .nil xq EG))
   (xh (KP (xag bz T.c_a T.m_j (ok_j T) bi T.b_j .nil xq i5) (xt (xg9 (i:=4) sc_az.nd rfl (QI rfl)) (xt (pN 5 sc_az.nd) (xa1))))
   (xh (pS 6 sc_az.nd (pC FH hr T.g_aw T.F_aw.kp T.b_aw (fZ 2 bB)))
   (xh (pS 7 sc_az.nd (xib (jv xfk 5 h7) (xo) (xk8 xiy (xo))))
   (xh (xe1 rfl (xau (zs:=["at"]) (ys:=["x"]) (fr:=[4]) (N0:=["picture", "name", "side", "row", "x", "y", "toward", "down", "upright", "level"]) (sc0:=xp s_az) aP rfl rfl rfl) (xkk rfl T.n_range (gq 5 3 7)) fj eP eW (vz (iN 1 0)) (j:=8) rfl FZ)
   (xh (xe1 rfl (xau (zs:=["at"]) (ys:=["row"]) (fr:=[3]) (N0:=["picture", "name", "side", "row", "x", "y", "toward", "down", "upright", "level"]) (sc0:=xp s_az) aP rfl rfl rfl) (xkk rfl T.n_range (eT 4 (iK (xu xa0 (xgp (xcc me T.c_ag T.m_ai (ok_ai T) bi T.b_ai .nil xq) (xcc me T.c_w T.m_aa (ok_aa T) bi T.b_aa .nil xq)) (xgp (xcc me T.c_ag T.m_ab (ok_ab T) bi T.b_ab .nil xq) (xcc me T.c_w T.m_x (ok_x T) bi T.b_x .nil xq))) (xgp (xcc me T.c_ag T.m_ab (ok_ab T) bi T.b_ab .nil xq) (xcc me T.c_w T.m_x (ok_x T) bi T.b_x .nil xq))))) fj eP eW (vz BS) (j:=9) rfl FZ)
   (d8 (xu xfw (pv 8) (pv 9)))))))),?_⟩
  refine sq7 ?_; intros; obtain⟨pic,hn,hf,r1,r2,⟨x1,x2,y1,y2⟩,q⟩:47:=h;obtain⟨⟨dx,hp⟩,_,w1,w2,h1,h2,_⟩:=xA;by_cases hd:pt.y<r<;>cases b
  .-- down right
   refine⟨a,dx,_,rfl,hp,bM,a,dp,do_,pw,ph,ps,nm,pt,false,r,rfl,pic,hn,hf,r1,r2,rq⟩;show(wF,⟨a,dx,_,rfl,mP,bM,a,dp,do_,pw,ph,ps,nm,pt,rfl,FB,hn,hf,Nt⟩,⟨a,_,dx,_,_,rfl,C2 false⟩,zsN ?_,⟨103,pt.y,r,1,rfl,yq,.inl (dC IW)⟩);show(MG,Ox,t.C_w,false)
   show(uY,⟨p,ds,_,rfl,hs4,qw,p,pw,rfl,sd4,.inr ⟨p,ds,_,rfl,hs4,qw,_,rfl,.inr ⟨p,ds,_,rfl,hs4,qw,_,rfl,pt.x,_,1,rfl,yq,.inl (dC vQ)⟩⟩⟩);refine xcj (jL Pp) hl2 aa (Lw k ES) (bC H5 qs2 s5 hu5 cu5);have c1:xap H5 sW qs1:=by
    show(wa,sW,(Zx (fM r pt.y)).map (gm i Ox),(Ni,aC hd),NX)
   have c2:xap H5 Dj qs2:=by
    have e:Dj=(zrH).map (gm i Pp):=by
     ext zhA
    rw[e];exact cu5
   show(af,l1',c1.len,l2',c2.len);ext MJ
   show(ap,b2,(Dj).length<33,MT,MH hp6);refine q _ p6 Ut (xaa (((oh).trans s3).trans (s4.trans s5)) hp6) S3 ((R4).keep (Same.tups (c7 hp6))) LU
  .-- down left
   refine⟨a,dx,_,rfl,hp,bM,a,dp,do_,pw,ph,ps,nm,pt,true,r,rfl,pic,hn,hf,r1,r2,rq⟩;show(wF,⟨a,dx,_,rfl,mP,bM,a,dp,do_,pw,ph,ps,nm,pt,rfl,FB,hn,hf,Nt⟩,⟨a,_,dx,_,_,rfl,C2 true⟩,zsN ?_,⟨103,pt.y,r,1,rfl,yq,.inl (dC IW)⟩);show(MG,Ox,t.C_ag,true)
   refine (.inl ⟨p,ds,_,rfl,hs4,qw,_,rfl,.inl ⟨p,ds,_,rfl,hs4,qw,_,rfl,.inl ⟨p,ds,_,rfl,hs4,qw,_,rfl,pt.x,_,(-1),rfl,yq,.inr (dC vQ)⟩⟩⟩);refine xcj (jL Oy) hl2 aa (Lw k ES) (bC H5 qs2 s5 hu5 cu5);have c1:xap H5 sW qs1:=by
    show(wa,sW,(Zx (fM r pt.y)).map (gm i Ox),(Ni,aC hd),NX)
   have c2:xap H5 Dl qs2:=by
    have e:Dl=(zsX).map (gm i Oy):=by
     ext zhE
    rw[e];exact cu5
   show(af,l1',c1.len,l2',c2.len);ext MJ
   show(ap,b2,(Dl).length<33,MT,MH hp6);refine q _ p6 Ut (xaa (((oh).trans s3).trans (s4.trans s5)) hp6) S3 ((R4).keep (Same.tups (c7 hp6))) LU
  .-- up right
   refine⟨a,dx,_,rfl,hp,bM,a,dp,do_,pw,ph,ps,nm,pt,false,r,rfl,pic,hn,hf,r1,r2,rq⟩;show(wF,⟨a,dx,_,rfl,mP,bM,a,dp,do_,pw,ph,ps,nm,pt,rfl,FB,hn,hf,Nt⟩,⟨a,_,dx,_,_,rfl,C2 false⟩,Gk hd (jA 1 ?_),⟨103,pt.y,r,(-1),rfl,yq,.inr (dC IW)⟩);show(MG,N9,t.C_w,false)
   show(uY,⟨p,ds,_,rfl,hs4,qw,p,pw,rfl,sd4,.inr ⟨p,ds,_,rfl,hs4,qw,_,rfl,.inr ⟨p,ds,_,rfl,hs4,qw,_,rfl,pt.x,_,1,rfl,yq,.inl (dC vQ)⟩⟩⟩);refine xcj (jL Pp) hl2 aa (Lw k ES) (bC H5 qs2 s5 hu5 cu5);have c1:xap H5 sW qs1:=by
    show(wa,sW,(Zx (fM pt.y r)).map (gm i N9),(Ni,ay hd),NX)
   have c2:xap H5 Dj qs2:=by
    have e:Dj=(zrH).map (gm i Pp):=by
     ext zhA
    rw[e];exact cu5
   show(af,l1',c1.len,l2',c2.len);ext MJ
   show(ap,b2,(Dj).length<33,MT,MH hp6);refine q _ p6 Ut (xaa (((oh).trans s3).trans (s4.trans s5)) hp6) S3 ((R4).keep (Same.tups (c7 hp6))) LU
  .-- up left
   refine⟨a,dx,_,rfl,hp,bM,a,dp,do_,pw,ph,ps,nm,pt,true,r,rfl,pic,hn,hf,r1,r2,rq⟩;show(wF,⟨a,dx,_,rfl,mP,bM,a,dp,do_,pw,ph,ps,nm,pt,rfl,FB,hn,hf,Nt⟩,⟨a,_,dx,_,_,rfl,C2 true⟩,Gk hd (jA 1 ?_),⟨103,pt.y,r,(-1),rfl,yq,.inr (dC IW)⟩);show(MG,N9,t.C_ag,true)
   refine (.inl ⟨p,ds,_,rfl,hs4,qw,_,rfl,.inl ⟨p,ds,_,rfl,hs4,qw,_,rfl,.inl ⟨p,ds,_,rfl,hs4,qw,_,rfl,pt.x,_,(-1),rfl,yq,.inr (dC vQ)⟩⟩⟩);refine xcj (jL Oy) hl2 aa (Lw k ES) (bC H5 qs2 s5 hu5 cu5);have c1:xap H5 sW qs1:=by
    show(wa,sW,(Zx (fM pt.y r)).map (gm i N9),(Ni,ay hd),NX)
   have c2:xap H5 Dl qs2:=by
    have e:Dl=(zsX).map (gm i Oy):=by
     ext zhE
    rw[e];exact cu5
   show(af,l1',c1.len,l2',c2.len);ext MJ
   show(ap,b2,(Dl).length<33,MT,MH hp6);refine q _ p6 Ut (xaa (((oh).trans s3).trans (s4.trans s5)) hp6) S3 ((R4).keep (Same.tups (c7 hp6))) LU
theorem xqk {K:Zf}{Z:L2.St}{fr:ij}{te:TE}{l l1:Addr}{H1:Hp}{Q:VK}{qs:az} (hl1:H1 l1=some (.lst (qs.map V.ref))) (hl:pV) (hn:qs.length<1000)
    (hte:∀(q:Addr) (H2:Hp) (R:VK),(ztt (ez H2 p [eC,UI]))->te ((vS).set 0 F3) H2 R)
    (fin:∀(H2:Hp) (ws:Ed),kD->H2 l=some (.lst (ws.map fun p=>.ref aN))->ws.map (·.2)=zmx->zkS->Q bH H2) :
    xdg (Itl K l1) 1 (xcn 0) Z fr xdr te l H1 Q:=by
  refine xcu qs.length (fun i xs H2=>∃ ws:Ed,xs=zqJ/\ws.length<=i/\kD/\K1/\ws.map (·.2)=(qs.take i).map (fun q=>(V.ref q,V.bl true))/\zkS) ?_ ?_ ?_ ?_
  . exact⟨66,[],rfl,bo,c7 hl,xl,aj,OD⟩
  . rintro i xs H2 lt (⟨ws,_,_,s2,_⟩:64)
    ext zrc
  . rintro i xs H2 v H3 lt (⟨ws,rfl,wl,s2,hl2,he,hw⟩:66) ⟨rfl,hv⟩ N hN
    ext zey Iz;ext tP q hq hv';refine xoq ?_;refine hte q _ _ (fG (xJ,?_,hN _ _ ⟨66,ws++[(p,eC,UI)],aj,iD,?_,xl,?_,?_⟩))
    . show(bP,xk hl2 hp,hl2)
    . show(aK,Za,Js wl (ZI lt (Z5 hn ao)))
    . intro b u e
      show(cD,mW hl,xj (xk Ll hp),Ll)
    . rw[ZT,hq,Zq,he]
      simp
    . intro p' hp'
      rcases Zw.mp hp' with z|z
      . have e:=hw p' z
        show(cD,xj (dQ hl2),FC,e)
      . have:=wK
        ext qF;show(uS,xk hl2 hp,xl)
  . rintro xs H2 (⟨ws,rfl,_,s2,hl2,he,hw⟩:66)
    rw[Jh] at he;show(aO,cq Iz aj,fin H2 ws s2 hl2 he hw)
noncomputable abbrev ck (c:jT):d6:=[.inl gQ,.inl eK]
theorem xpz {c d:jT} (h:ck c=ck d):c=d:=by
 ext zI b c;obtain⟨a',b'⟩:=d;simp only[ck,Wb.injEq,Q2.injEq,and_true] at h;rw[h.1,h.2]
theorem xm9 {d:Addr}{H:Hp}{cs:kh}{qs:az} (cl:Bk) (hd:bI d):∀(kvs0:dA),kvs0.length+cs.length<1000 ->
    ∃ kvs,xej d (jB H d kvs0) zmx (jB H d kvs)/\(zpJ,c∈cs\/(gT (valV kvs0 (ck c)))):=by
  induction cl with
  | nil=>exact fun kvs0 _=>⟨kvs0,.nil,fun c=>aj⟩
  | @cons c q cs qs h _ ih =>
    intro kvs0 hl;have hq:fF H d (.dT kvs0) q (.tup ((qK).map kV)):=by
      show(bP,xk h hd,h)
    have hp:=DPut.t (k:=qK) (v:=UI) (xl (H:=H) (a:=d) (o:=.dT kvs0)) hq (ZI (B2 hl:kvs0.length<1000) ao);rw[xdo] at hp;have l2:=xbm kvs0 qK (.bl true);show(ae,kvs,dp,mem,ih (putK kvs0 qK (.bl true)) (B2 hl));show(cR,kvs,d4 hp dp,c8 c');rw[mem c',xco];by_cases e:ck c'=qK
    . have:=xpz e
      ext qF;simp
    . have ne:c'≠c:=(aA,e (dF z))
      rw[ay e];simp[ne]
noncomputable def xof (H:Hp) (o:dc jT) (v:V):Prop:=(Ua,o,none,∃ c q,o=some c/\v=eC/\OJ)
inductive xw2 (t:Adr) (vs:ag) (H:Hp) (Q:VK) (_:XK):Prop
 | mk (a dp do_:Addr) (pw ph:Int) (ps:aw) (o1 o2:Addr) (n1 n2:Str) (p1 p2:Pt) (b1 b2:Bool) (r1 r2:Int) (e_:vs=(wB aB o1 o2)) (r_:Pic t H a dp do_ pw ph ps/\(ax (gZ o1 [.str n1,uq b1,.int r1]) (gZ o2 [.str n2,uq b2,.int r2]) (bD,rO n1,Dq n1 p1,1<=r1,(ax,r1<=ph,1<=p1.x,p1.x<=pw,1<=p1.y,p1.y<=ph)) (bD,rO n2,Dq n2 p2,1<=r2,(ax,r2<=ph,1<=p2.x,p2.x<=pw,1<=p2.y,p2.y<=ph)) (ST,xof H' (Geo.meet zoK WZ) v,Ab)))
theorem xpl (T:aV):FnOk true P w K mg base aU 7 t.f_meeting t.d_meeting Dd (xw2 t):=by
 refine T.F_meeting.okn (k:=6) xca (aY E) (fun cdv A outer s H vs Q E hr h=>?_)
 .obtain ⟨a,dp,do_,pw,ph,ps,o1,o2,n1,n2,p1,p2,b1,b2,r1,r2,rfl,_⟩:=h;rfl
 .obtain ⟨a,dp,do_,pw,ph,ps,o1,o2,n1,n2,p1,p2,b1,b2,r1,r2,rfl,h⟩:=h;refine⟨_,xh (Fe 2 3 xca.nd zsp)
   (xh (pS 6 xca.nd (Gr (xav rfl (xau (zs:=["cell"]) (ys:=[]) (fr:=[]) (N0:=["picture", "one", "other", "name", "side", "row", "theirs", "cell"]) (sc0:=xp xfi) aP rfl rfl rfl) (xal (pC (ok_az T) hr T.g_az T.F_az.kp T.b_az (eT 0 (gq 3 4 5)))) fj eP eW (vz (fZ 0 (xbs))))))
   (xh (Fe 1 3 xca.nd zsp)
   (xh (Ap (xal (pC (ok_az T) hr T.g_az T.F_az.kp T.b_az (eT 0 (gq 3 4 5)))) 7 xca.nd (xcz (xf0 eR sO (pv 6))) (wc 7))
   (d8 (xcx))))),?_⟩
  refine sq5 ?_; intros; obtain⟨pic,ho1,ho2,⟨m1,f1,u1,v1,g1⟩,⟨m2,f2,u2,v2,g2⟩,q⟩:46:=h;show(bN,fW o2 ho2,⟨a,dp,do_,pw,ph,ps,n2,p2,b2,r2,rfl,⟨47,pic,m2,f2,u2,v2,g2,fun H1 l1 qs s1 hl1 cl1 ql1=>zsT⟩⟩);refine xqk hl1 hl aa (fun q H2 R k=>ES) fun H2 ws s2 hl2 he hw=>?_;refine(xP,l,ws,hl2,hw,au d hd);show(ae,kvs,dps,mem,xm9 (cl1.keep (Same.tups s2)) hd [] (by have:=cl1.len; simp; omega));show(zaB,_,he);show(ap,s3,gK (jB H2 d kvs),xaa (s1.trans s2) hd,fW o1 (jK ho1));ext GP; refine⟨a,dp,do_,pw,ph,ps,n1,p1,b1,r1,rfl,⟨47,rE s3,m1,f1,u1,v1,g1,fun H4 l4 qs4 s4 hl4 cl4 ql4=>jp l4 hl4 ?_⟩⟩;have hd4:H4 d=some (.dT kvs):=iT xl;refine xbi (xs:=qs4.map V.ref) (Pv:=fun i Z H5=>∃ v7:bS,Z=[cV,bu o1,bu o2,ii n1,some (uq b1),aX r1,eQ,v7]/\H4=H5 /\
   ∀ c∈(zoK).take i,c∉WZ) (iQ _ rfl aj) (zdn,z,_,zaQ hl4) ?_ ?_
  .rintro i v Z _ hv (⟨v7,rfl,rfl,no⟩:63);ext GQ; ext zeD;show(ae,c,hc,hcq,cl4.get hq7);have mm:=mem c;refine⟨d,_,rfl,wD qK hd4 hcq,_,rfl,ite2 lM lM⟩
   .have hm:c∈WZ:=by
     rcases mm.mp z with y|y
     .exact y
     .simp [valV] at y
    exact (q _ _ Et (.inr (dY,c,q7,Geo.meet_at hc no hm,hcq)))
   .ext zph hc;rcases Zw.mp hc' with y|y
    .exact no c' y
    .have:c'=c:=by simpa using y
     ext qF;exact fun y=>z (mm.mpr (.inl y))
  .ext zqC;rw[Za,cl4.len,Jh] at no;ext zsj Et
theorem lkO {w h:Int}{dp do_:Addr}:(DQ).lookup (fT "opened")=some (.ref do_):=by
 show(zbr,"opened");show(GT,"opened","height","opened",[Os,Do]);show(GT,"opened","placed","opened",[Do]);show(DJ,"opened")
noncomputable abbrev Seat:=Bool × Int
noncomputable def xv (s:Seat):d6:=[.inr (xao s.1),.inl s.2]
noncomputable def xa5 (s:Seat):ag:=zrC
theorem xg5 {a b:Bool} (h:xao a=xao b):a=b:=by
 cases a<;>cases b<;>first|rfl|ext dM h aP
theorem xdm {s t:Seat} (h:xv s=xv t):s=t:=by
 simp only[xv,Wb.injEq,ZW.injEq,Q2.injEq] at h;exact Prod.ext (xg5 h.1) (bg h)
noncomputable def Sts (H:Hp) (do_:Addr) (ss:av):Prop:=∃ kvs:dA,(yT do_)/\kvs.map (·.1)=E2/\ss.Nodup/\ss.length<=32
theorem Sts.same {H H':Hp}{do_:Addr}{ss:av} (s:cG) (h:qZ):Sts H' do_ ss:=let ⟨k,e,r⟩:=h; ⟨k,rS,r⟩
theorem xrl {kvs:dA}{ss:av} (e:kvs.map (·.1)=E2) {s:Seat} (h:s∉ss):HX=none:=by
 cases z:HX with
 | none=>rfl
 | some v =>
  obtain⟨i,hi⟩:=xjq z;have m:eJ∈kvs.map (·.1):=Zg.mpr (cP,Zn hi);rw[e] at m;ext Ak t ht et m;show(dM,ht,(aD,xdm et,h))
theorem xnl {kvs:dA}{ss:av} (e:kvs.map (·.1)=E2) {s:Seat} (h:sv):∃ v,CT HX:=by
 cases z:HX with
 | some v=>show(aO,v,rfl)
 | none =>
  have m:eJ∈kvs.map (·.1):=by rw[e]; exact Zg.mpr (dk s h)
  show(ae,p,hp,ep,Zg.mp m);show(jZ,a,xdj (xv s) kvs,z);have:(kvs.any fun kv=>bG (iS=xv s))=true:=Jp.mpr ⟨p,hp,by simpa using ep⟩;ext cH this a
inductive xak (H:Hp):bX av az
 | nil:xak H [] []
 | cons {s:Seat}{q:Addr}{ss:av}{qs:az} (h:yb) (r:Er):xak H (s::ss) sH
theorem xak.keep {H H':Hp} (k:lH) {ss:av}{qs:az} (h:Er):xak H' ss qs:=by
 induction h with
 | nil=>ext eI
 | cons h _ ih=>show(xT,k _ _ h,ih)
theorem xak.len {H:Hp}{ss:av}{qs:az} (h:Er):qs.length=ss.length:=by
 induction h with
 | nil=>rfl
 | cons _ _ ih=>simp[ih]
noncomputable def xdb (s t:Seat):Prop:=(s.1=true/\(cS t.1))\/(s.1=t.1/\s.2<t.2)
theorem xhz {s t:Seat} (h:lexK (xv s) (xv t)=true):xdb s t:=by
 ext zI i s;obtain⟨b,j⟩:=t;unfold xv at h;unfold lexK at h;by_cases e:xao a=xao b
 .show(gM,aC (dF e));unfold lexK at h;by_cases e2:i=j
  .show(gM,aC (dF e2));unfold lexK at h;cases h
  .show(gM,(mq,e2 (Q2.inj z)));show(oI,xg5 e,of_decide_eq_true h)
 .show(gM,(mq,e (ZW.inj z)));cases a<;>cases b
  .ext j4 e
  .show(dM,h,(by show ¬ xds (.inr (xao false)) (.inr (xao true))=true; ext BN))
  .ext cY kL
  .ext j4 e
noncomputable def unK:d6->Seat
 | [.inr s,.inl r]=>(d9 s "left",r)
 | _=>zr
theorem xd1 (s:Seat):unK eJ=s:=by
 obtain⟨b,r⟩:=s;cases b
 .show (d9 (fT "right") "left",r)=_;rw[decide_eq_false aP]
 .show (d9 (fT "left") "left",r)=_;rw[decide_eq_true rfl]
theorem xq9 {kvs:dA}{ss:av} (e:kvs.map (·.1)=E2) {s:Seat}:(xb8 kvs (xv s)).map (·.1)=(ss.filter fun t=>bG (t≠s)).map xv:=by
 have h1:(xb8 kvs (xv s)).map (·.1)=(kvs.map (·.1)).filter fun k=>bG (k≠eJ):=by
  unfold xb8;rw[Ws];rfl
 rw[h1,e,Ws]
 congr 1
 refine QU fun t _=>?_;show decide (xv t≠eJ)=(bG (t≠s));ext jc t s
 .subst c;simp
 .show(nA,c',xv t,eJ,c (xdm z));simp[c,c']
inductive xwx (t:Adr) (vs:ag) (H:Hp) (Q:VK) (_:XK):Prop
 | mk (a dp do_:Addr) (pw ph:Int) (ps:aw) (ss:av) (b:Bool) (r:Int) (e_:zbP) (r_:Pic t H a dp do_ pw ph ps/\qZ/\(zq,1<=r,r<=ph,nE∉ss,ss.length<32,(bq,Fh qS,Pic t H' a dp do_ pw ph ps,Sts H' do_ (ss++[nE]),rM)))
inductive xwt (t:Adr) (vs:ag) (H:Hp) (Q:VK) (_:XK):Prop
 | mk (a dp do_:Addr) (pw ph:Int) (ps:aw) (ss:av) (b:Bool) (r:Int) (e_:zbP) (r_:Pic t H a dp do_ pw ph ps/\(zq,qZ,1<=r,r<=ph,nE∈ss,(bq,Fh qS,Pic t H' a dp do_ pw ph ps,Sts H' do_ (ss.filter fun s=>bG (s≠nE)),rM)))
inductive xvd (t:Adr) (vs:ag) (H:Hp) (Q:VK) (_:XK):Prop
 | mk (a dp do_:Addr) (pw ph:Int) (ps:aw) (ss:av) (e_:vs=fO) (r_:Pic t H a dp do_ pw ph ps/\qZ/\∀(l:Addr) (ss':av) (qs:az),(bj,iP,xak H ss' qs,ss'.Perm ss,ss'.Pairwise xdb,Q bH (dZ l Hn)))
theorem Pic.but {t:Adr}{H H':Hp}{a dp do_:Addr}{w h:Int}{ps:aw}{kvs:dA} (e:yT do_) (s:Fh qS) (p:Pic t H a dp do_ w h ps):Pic t H' a dp do_ w h ps :=
 ⟨let ⟨dx,x⟩:=p.ins; m9 zbk,let ⟨k,x,q⟩:=p.pl; ⟨k,zbk,q.keep (iU xs x zbk)⟩,p.w1,p.w2,p.h1,p.h2,p.len⟩
theorem ok_k (T:aV):FnOk true P w K mg base aU 5 t.f_k t.d_k pF (xwx t):=by
 refine T.F_k.okn (k:=4) sc_k (aY E) (fun cdv A outer s H vs Q E hr h=>?_)
 .obtain ⟨a,dp,do_,pw,ph,ps,ss,b,r,rfl,_⟩:=h;rfl
 .obtain ⟨a,dp,do_,pw,ph,ps,ss,b,r,rfl,h⟩:=h;refine⟨_,xh (xam (xag bz T.c_a T.m_d (ok_d T) bi T.b_d .nil xq zt))
   (xh (FX (xcz (xf0 eR (xaq zt) bB)))
   (xm (qp bB (xaq zt) (xbs)))),?_⟩
  refine sq3 ?_; intros; obtain⟨pic,st,r1,r2,no,len,q⟩:47:=h;ext vh dx;obtain⟨kvs,hk,ek,nd,l32⟩:64:=id st;show(ziO,⟨a,dx,_,rfl,hp,bM,a,dp,do_,pw,ph,ps,b,r,rfl,pic,r1,r2,rq⟩);have n0:valV kvs (xv nE)=none:=xrl ek no;show(bN,⟨a,_,dx,_,_,rfl,HP ⟨do_,none,rfl,(bJ n0 (wD,xv nE,hk2,g2)),false,rfl,ux⟩⟩,⟨a,_,dx,_,_,rfl,⟨46,hp2,T.c_a,T.n_bb,lkO,f7,zfT⟩⟩);generalize eu:jw H2 q3 jD r=H3;ext jh s3 hq3 g3;have kl:kvs.length=ss.length:=by
   ext Bs ek;ext lA
  refine(lN,do_,DPut.t (k:=xv nE) (jK hk2) g3 (OF 33));have bt:Fh (kX H3 do_ (.dT (putK kvs (xv nE) (.bl true)))):=fun c u nc e=>by
   ext zqH
  refine zul ⟨64,_,xl,?_,?_,?_⟩
  .rw [xcp _ n0,Zq,Zq,ek];rfl
  .rw [ZL];show(aJ,nd,aj,fun x hx y hy=>(aD,Uz,fun e=>no (e▸hx)))
  .show(Ic,ss.length,32)
theorem ok_n (T:aV):FnOk true P w K mg base aU 5 t.f_n t.d_n pF (xwt t):=by
 refine T.F_n.okn (k:=4) sc_n (aY E) (fun cdv A outer s H vs Q E hr h=>?_)
 .obtain ⟨a,dp,do_,pw,ph,ps,ss,b,r,rfl,_⟩:=h;rfl
 .obtain ⟨a,dp,do_,pw,ph,ps,ss,b,r,rfl,h⟩:=h;refine⟨_,xh (xam (xag bz T.c_a T.m_d (ok_d T) bi T.b_d .nil xq zt))
   (xh (FX (xcz (xdk eR (xaq zt) bB)))
   (qE (xsm eR bB (xaq zt) HF))),?_⟩
  refine sq3 ?_; intros; obtain⟨pic,st,r1,r2,yes,q⟩:46:=h;ext vh dx;obtain⟨kvs,hk,ek,nd,l32⟩:64:=id st;obtain⟨v,hv⟩:=xnl ek yes;show(ziO,⟨a,dx,_,rfl,hp,bM,a,dp,do_,pw,ph,ps,b,r,rfl,pic,r1,r2,rq⟩);show(bN,⟨a,_,dx,_,_,rfl,HP ⟨do_,ff,rfl,(bJ hv (wD,xv nE,hk2,g2)),false,rfl,ux⟩⟩,⟨a,_,dx,_,_,rfl,HP (o3,do_,rfl,.inr (gF,.inl hk2),f7,zfT)⟩);generalize eu:jw H2 q3 jD r=H3;show(xC,s3,hq3,g3,⟨125,kvs,xv nE,q3,v,jK hk2,rfl,g3,hv,?_⟩);have bt:Fh (kX H3 do_ (.dT (xb8 kvs (xv nE)))):=fun c u nc e=>by
   ext zqH
  refine zul ⟨64,_,xl,?_,nd.filter _,ZJ qy l32⟩;exact xq9 ek
theorem ok_y (T:aV):FnOk true P w K mg base aU 1 t.f_y t.d_y jV (xvd t):=by
 refine T.F_y.okn (k:=0) sc_y (aY E) (fun cdv A outer s H vs Q E hr h=>?_)
 .obtain ⟨a,dp,do_,pw,ph,ps,ss,rfl,_⟩:=h;rfl
 .obtain ⟨a,dp,do_,pw,ph,ps,ss,rfl,h⟩:=h;show(sD,zjJ (xg bB (xi)));ext gX pic st q h;ext vh dx;obtain⟨kvs,hk,ek,nd,l32⟩:64:=id st;have kl:kvs.length=ss.length:=by
   ext Bs ek;ext lA
  refine⟨a,_,dx,_,_,rfl,mT hp T.n_bb lkO ⟨do_,kvs,zeY,rfl,hk,aa,au p hp',ao,fun l ts fr tm pm pw'=>?_⟩⟩
  .have m:aN∈kvs.map (·.1):=KJ hp';rw[ek] at m;show(zi,s,e,Zg.mp m);rw[<- e];rfl
  rw[ek] at pm;have back:∀ t∈ts,xv (unK t.1)=t.1:=fun t ht=>by
   show(zaM,Ou (dk t ht))
  have z:=q l ((ts.map (·.1)).map unK) (ts.map (·.2)) fr ?_ ?_ ?_
  .rw [Z0] at z;exact z
  .clear pm pw'
   induction ts with
   | nil=>ext eI
   | cons t ts ih =>
    ext Vj zbc zar
  .have z2:=pm.map unK;have e2:(E2).map unK=ss:=by
    rw[Z0,WS];exact Y8 _
   ext cJ e2 z2 z2
  .ext zgX
noncomputable def SsOk (h:Int) (ss:av):Prop:=ss.Nodup/\A4/\∀ s∈ss,1<=s.2/\s.2<=h
theorem xak.get {H:Hp}{ss:av}{qs:az} (h:Er) {i:Nat}{q:Addr} (e:BE):∃ s,(aF ss s)/\yb:=by
 induction h generalizing i with
 | nil=>ext nH
 | @cons s q' ss qs h _ ih =>
  cases i with
  | zero =>
   ext Lc s
  | succ j=>ext uC
theorem xrb {α β:Type}{f:α->β} (inj:∀ a b,f a=f b->a=b) {l:cT} (h:l.Nodup):zcU:=by
 rw[JG,ZU];exact h.imp fun hne e=>hne (inj _ _ e)
theorem xak.snoc {H:Hp}{ss:av}{qs:az} (h:Er) {s:Seat}{q:Addr} (e:yb):xak H (ss++[s]) (qs++[q]):=by
 induction h with
 | nil=>ext Lb
 | cons h _ ih=>ext Ck
theorem xcq {α:Type}{R:bX α α} (as:∀ a b,R a b->¬ R b a):∀{l l':cT},(bq,l.Perm l',l.Pairwise R,l'.Pairwise R,l=l')
 | [],l',p,_,_=>(YK.nil_eq p)
 | a::t,[],p,_,_=>absurd p.symm (by intro z; exact absurd (YK.nil_eq z) aj)
 | a::t,b::t',p,h,h'=>by
  show(af,h1,Qh.mp h,h2,Qh.mp h');by_cases e:a=b
  .ext dw;rw[xcq as ((List.perm_cons a).mp p) h1.2 h2.2]
  .have ma:a∈t':=by
    have:=p.mem_iff.mp (Zm (a:=a) (l:=t));rcases dI this with z|z
    .ext dM z e
    .exact z
   have mb:b∈t:=by
    have:=p.mem_iff.mpr (Zm (a:=b) (l:=t'));rcases dI this with z|z
    .show(dM,z.symm,e)
    .exact z
   show(dM,h2.1 a ma,as _ _ (h1.1 b mb))
theorem xeg (a b:Seat) (h:xdb a b):¬ xdb b a:=by
 rintro (⟨x,y⟩|⟨x,y⟩)<;>rcases h with⟨z,w⟩|⟨z,w⟩
 .ext Ag x w
 .rw [x,y] at z; cases z
 .rw [z,w] at x; cases x
 .omega
noncomputable def xb5 (s:Seat):DV:=.tup zrC
theorem xrc {s t:Seat}:xb5 s=xb5 t↔s=t:=by
 constructor
 .intro h
  unfold xb5 at h;simp only[DV.tup.injEq,Wb.injEq,DV.str.injEq,DV.int.injEq,and_true] at h;exact Prod.ext (xg5 h.1) h.2
 .intro h
  rw[h]
theorem xmx (s t:Seat):dEq (xb5 s) (xb5 t)=decide (s=t):=xi9 rfl rfl xrc
theorem xgc (ss:av) (s:Seat):(KC).any (aA,dEq z (xb5 s))=(bG sv):=by
 ext M9
 .ext rh z hz e;ext eG t ht hz;show(oW,xmx,decide_eq_true_iff,e,e▸ht)
 .intro h
  exact(cq,BX s h,xcd _)
theorem xfr {K:Zf}{H:Hp}{q:Addr}{s:Seat} (h:yb):Dv K H 1 eC (xb5 s):=by
 refine .tup (SqT.of h) rfl (Ld x d)
 match j,h1,h2 with
 | 0,h1,h2=>cases h1; cases h2; exact .str
 | 1,h1,h2=>cases h1; cases h2; exact .int
 | j+2,h1,h2=>simp[xa5] at h1
theorem xak.dv {K:Zf}{H:Hp}{ss:av}{qs:az} (h:Er) {l:Addr} (e:Dk l):Dv K H 2 bH (.lst (ss.map xb5)):=by
 refine .lst (bb e) (by rw[Za,Za,h.len]) (Ld x d);rw[Zd] at h1 h2;ext tP q hq h1;ext tP p hp h2;show(ae,p',hp',e',h.get hq);ext bA hp hp' hp';exact xfr e'
theorem xak.pick {H:Hp}:zlf av (∀(j:Nat) (y:V) (s:Seat),zqi yb) tI
 | [],[],_,_=>jA [] .nil
 | [],b5,h,_=>eO
 | b5,[],h,_=>eO
 | s::ss,nD,h,k=>by
  show(ae,q,e,hq,k 0 y s rfl rfl);show(ae,rs,e2,r,xak.pick (ss:=ss) (ys:=ys) yt (LM,y,s,k eE y s nU AJ))
  show(aJ,q::rs,kN e e2,d4 hq r)
theorem xin {α:Type} [D2]:∀{l m:cT},l.Nodup->(∀ x∈l,x∈m)->l.length<=m.length
 | [],m,_,_=>fP
 | a::l,m,nd,sub=>by
  obtain⟨h1,h2⟩:=Z8.mp nd;show(af,ha,sub a Zm,z,xin (l:=l) (m:=m.erase a) h2 (zP,(W5 (fun e:x=a=>h1 (e▸hx))).mpr (sub x (Zi _ hx))));rw[List.length_erase_of_mem ha] at z;have:=List.length_pos_of_mem ha;rw[ZG];omega
theorem xos {h:Int}{ss:av} (h16:lT) (o:SsOk h ss) (l:32<=ss.length) (s:Seat) (r1:1<=s.2) (r2:s.2<=h):sv:=by
 by_cases c:sv
 .exact c
 have all:∀ x∈s::ss,x∈((Zx 16).map fun i:Nat=>(true,dD+1))++(Zx 16).map fun i:Nat=>(uZ,dD+1):=fun x hx=>by
  have b:1<=dH/\dH<=h:=by
   rcases dI hx with z|z
   .rw [z]; ext aO r1 r2
   .exact o.2.2 x z
  obtain⟨xb,xr⟩:=x;have i1:(zO xr)∈Zx 16:=ZS.mpr zrb;have i2:(cE,zO xr)+1=xr:=zrb
  rw[Zw];cases xb
  .exact .inr (Zg.mpr (cq,i1,dF i2))
  .exact .inl (Zg.mpr (cq,i1,dF i2))
 have z:=xin (Z8.mpr ⟨c,o.1⟩) all;ext Gg z
structure PtOk (w h:Int) (p:Pt):Prop where
 nm:rO p.nm
 x1:1<=p.x
 x2:p.x<=w
 y1:1<=p.y
 y2:p.y<=h
 sd:p.sd="left"\/p.sd="right"\/p.sd="both"
 l1:1<=p.lo
 l2:p.lo<=p.hi
 l3:p.hi<=h
structure xby (w h:Int) (ps:aw):Prop where
 ok:∀ p∈ps,PtOk w h p
 nn:(ps.map (·.nm)).Nodup
 nx:(ps.map (·.x)).Nodup
 ny:(ps.map (·.y)).Nodup
 le:zeq
theorem xji {α β:Type} (f:α->β) {ps:cT} (nd:(ps.map f).Nodup) {i:Nat} (hi:i<ps.length):∀ p∈ps.take i,f p≠f ps[i]:=fun p hp e=>by
 have z:=nd;rw[<- Wu i ps,YZ hi,Zq,Zo,ZL] at z;exact z.2.2 _ Ch _ Zm e
theorem xu7 {α β γ:Type}{f:α->β}{g:α->γ}{k:β->γ} (e:∀ a,g a=k (f a)) (inj:Nw) {l:cT} (h:zcU):(l.map g).Nodup:=by
 have z:=xrb inj h;rw[Z0] at z;show(aK,(cU,g,k∘f,funext e),z)
theorem xdn {ps:aw} (nd:(ps.map (·.nm)).Nodup) {p:Pt} (hp:zV):RS (fun q=>d9 q.nm p.nm) p:=by
 induction ps with
 | nil=>simp at hp
 | cons a ps ih =>
  ext zd;rcases LW with z|z
  .subst z;rw[JZ aj]
  .have ne:¬ a.nm=p.nm:=fun y=>nd.1 (y▸(KJ z));show(aK,Qp (by simpa using ne),ih jI z)
theorem xby.filt {w h:Int}{ps:aw} (o:SW) (f:Pt->Bool):xby w h (ps.filter f) :=
 ⟨(fG,o.ok p (qv hp)),o.nn.sublist (QD.map _),o.nx.sublist (QD.map _),o.ny.sublist (QD.map _),ZJ qy o.le⟩
noncomputable def xb1 (p:Pt) (s:Seat):Bool:=((d9 p.sd "both")||(bG (p.sd=xao s.1)))&&((bG (p.lo<=s.2))&&(bG (s.2<=p.hi)))
theorem xik (sd w:Str):inV (.str sd) [.str "both",.str w]=((d9 sd "both")||(d9 sd w)):=by
 have e:∀ a b:Str,FT=decide (b=a):=fun a b=>by
  rw[Jr,beq_iff_eq,decide_eq_true_iff];exact eq_comm
 show (((fT "both") == sd)||((w == sd)||false))=_;rw[Bool.or_false,e,e]
noncomputable def xg4 (s2:av) (p:Pt) (i:Nat):Bool:=match s2[i]? with|some s=>LO|none=>false
theorem xgj {s2:av}{p:Pt}{s:Seat}{i:Nat} (h:aF s2 s):xg4 s2 p i=LO:=by
 unfold xg4;rw[h]
inductive xvo (t:Adr) (vs:ag) (H:Hp) (Q:VK) (_:XK):Prop
 | mk (a dp do_:Addr) (pw ph:Int) (ps:aw) (ss:av) (pt:Pt) (b:Bool) (i:Int) (e_:vs=[aB,mD,jD,cO]) (r_:Pic t H a dp do_ pw ph ps/\qZ/\(AK,rO pt.nm,Rz,1<=i,i<=ph,((bG ((b,i)∈ss))&&xb1 pt (b,i))))
inductive xxj (t:Adr) (vs:ag) (H:Hp) (Q:VK) (_:XK):Prop
 | mk (a dp do_:Addr) (pw ph:Int) (ps:aw) (ss:av) (pt:Pt) (e_:vs=[aB,mD]) (r_:Pic t H a dp do_ pw ph ps/\(ax,qZ,SsOk ph ss,rO pt.nm,Rz,∀(H':Hp) (l:Addr) (srt:av) (rs:az),cG->iP->(zku yY O4 zbb)))
theorem ok_z (T:aV):FnOk true P w K mg base aU 5 t.f_z t.d_z C8 (xvo t):=by
 refine T.F_z.okn (k:=4) sc_z (aY E) (fun cdv A outer s H vs Q E hr h=>?_)
 .obtain ⟨a,dp,do_,pw,ph,ps,ss,pt,b,i,rfl,_⟩:=h;rfl
 .obtain ⟨a,dp,do_,pw,ph,ps,ss,pt,b,i,rfl,h⟩:=h;refine⟨_,xh (xam (xag bz T.c_a T.m_c (ok_c T) bi T.b_c .nil xq i5))
   (xh (xam (xag bz T.c_a T.m_d (ok_d T) bi T.b_d .nil xq ww))
   (xh (xbq zcY (ID 4 sc_z.nd (xt (pN 5 sc_z.nd) (xt (pN 6 sc_z.nd) (iX 7 sc_z.nd 8)))))
   (d8 (xc7 (xv9 (xf0 eR (xaq ww) bB)) (xc7 (xc0 xfj (pv 6) (xaq (xg (xbr) (gG 2))) fH) (xes (xgf xhg xhg sO h7 (pv 8)))))))),?_⟩
  refine sq4 ?_; intros; obtain⟨pic,st,hn,hf,i1,i2,q⟩:47:=h;ext C3 dx0;show(bN,⟨a,dx0,_,rfl,hp,bM,a,dp,do_,pw,ph,ps,pt.nm,pt,rfl,pic,hn,hf,?_⟩,⟨a,dx0,_,rfl,hp,bM,a,dp,do_,pw,ph,ps,b,i,rfl,pic,i1,i2,rq⟩);ext zsJ;show(yD,⟨a,_,_,_,_,rfl,mT hp1 T.n_a9 lkP ⟨dp,rY,rfl,(bJ,e0,kI kB hk1),q0,_,rfl,dR (lm hq0),rfl,?_⟩⟩,q1,hq1);show(G9,jw H1 q1 jD i,hq1);show(af,hp2,h8 hp1,s02,s1.trans s2);obtain⟨ko,hko,ek,nd,l32⟩:64:=id st;show(af,hko2,s02 _ _ hko,qq,q);by_cases cin:(b,i)∈ss
  .obtain ⟨v,hv⟩:=xnl ek cin;show(yD,⟨a,_,_,_,_,rfl,HP ⟨do_,ff,rfl,(bJ hv (wD,xv (b,i),hko2,g2)),true,rfl,iteT ?_⟩⟩,q3,hq3);generalize eu:ez H2 q3 [.str "both",jD]=H3;show(qP,s3,hq3,g3,z,qq H3 (s02.trans s3));rw[yS cin,JK] at z;ext zkN
   .ext ND
    rw[c,JK] at z;refine vy c2
    .rw [c2,JK] at z;exact z
    .ext zuG
   .ext ND
    ext rD UM Yi
  .have n0:valV ko (xv (b,i))=none:=xrl ek cin;have z:=qq H2 s02;rw[tz cin,Yi] at z;exact⟨a,_,_,_,_,rfl,HP ⟨do_,none,rfl,(bJ n0 (wD,xv (b,i),hko2,g2)),false,rfl,iteF z⟩⟩
theorem ok_i (T:aV):FnOk true P w K mg base aU 6 t.f_i t.d_i iB (xxj t):=by
 refine T.F_i.okn (k:=5) sc_i (aY E) (fun cdv A outer s H vs Q E hr h=>?_)
 .obtain ⟨a,dp,do_,pw,ph,ps,ss,pt,rfl,_⟩:=h;rfl
 .obtain ⟨a,dp,do_,pw,ph,ps,ss,pt,rfl,h⟩:=h;refine⟨_,xh (xam (xag bz T.c_a T.m_c (ok_c T) bi T.b_c .nil xq i5))
   (d8 (xav rfl (xau (zs:=["side", "row"]) (ys:=["name", "self"]) (fr:=[1,0]) (N0:=iB) (sc0:=xp s_i) aP rfl rfl rfl) (xal (xcc bz T.c_a T.m_y (ok_y T) bi T.b_y .nil xq)) MR (xer Ds) (fun _ _ _ _ _=>xd4 (xa2 (xag h7 T.c_a T.m_z (ok_z T) bi T.b_z .nil xq (gq 2 0 1)))) (vz BS))),?_⟩
  refine sq2 ?_; intros; obtain⟨pic,st,sok,hn,hf,q⟩:46:=h;ext vh dx0;show(bN,⟨a,dx0,_,rfl,hp,bM,a,dp,do_,pw,ph,ps,pt.nm,pt,rfl,pic,hn,hf,?_⟩,⟨a,dx0,_,rfl,hp,bM,a,dp,do_,pw,ph,ps,ss,rfl,pic,st,fun l1 srt qs1 fr1 sl1 pm1 pw1=>?_⟩);show(zal,l1,.lst (qs1.map V.ref),fr1);show(af,sl1',sl1.keep (Same.tups s1),ql,sl1.len);show(ap,sl32,srt.length<=32,(aD,pm1.length_eq,bg sok),jp l1 g1 vQ);refine xdu (bb g1) (fL,ZI (aa:qs1.length<33) ao) hl2 (xg4 srt pt) (CO,∃ s q,(aF srt s)/\y=eC/\yb) (fun i y H H' tp ⟨s,q,e1,e2,e3⟩=>(bv,s,q,e1,e2,pi e3)) (fun i x H4 hx s4 N M hN hM=>?_) (fun ys H4 s4 el4 ly f4=>?_)
  .rw [Zd] at hx;ext tP o ho hx;show(ae,s0,hs0,ep,sl1'.get ho);have s04:=s1.trans s4;have min:s0∈ss:=pm1.mem_iff.mp (Zn hs0);obtain⟨sr1,sr2⟩:=sok.2.2 s0 min;show(bN,fW o (iT ep),⟨a,dx0,_,rfl,s04 _ _ hp,bM,a,dp,do_,pw,ph,ps,ss,pt,s0.1,s0.2,rfl,rE s04,st.same s04,hn,hf,sr1,sr2,au H5 s5⟩)
   .refine yy
    .ext zlt;ext iO f7 q6 hq6;exact hN _ _ (s5.trans (c7 hq6)) (aD,xgj hs0,c) (dY s0 q6 hs0 xl)
    .ext zlt;exact hM _ s5 (zev,xgj hs0,c)
  .have fi:=xhn (xb1 pt) (as:=srt) (p:=xg4 srt pt) (gO,s,hs,xgj hs);rw[Za,ql] at ly f4;obtain⟨rs4,e4,sts4⟩:62:=xak.pick (H:=H4) (ss:=zbb) (ys:=ys) (cA ly fi.1) (fun j y s hy hs=>by
    have hj:j<((Zx srt.length).filter (xg4 srt pt)).length:=by
     ext zgI
    obtain⟨s',q',h1,h2,h3⟩:83:=f4 j y _ hy xI;rw[fi.2 j _ xI,hs] at h1;cases h1;ext aJ q' h2 h3)
   subst e4;exact q H4 l2 srt rs4 (s1.trans s4) (s1.free hl2) pm1 pw1 el4 sts4
structure Dr (t:Adr) (H:Hp) (a dp do_:Addr) (w h:Nat) (ps:aw) (ss srt:av):Prop where
 pic:Pic t H a dp do_ sw uN ps
 sts:qZ
 ok:S2
 pm:yY
 lt:O4
 nm:∀ p∈ps,(rO p.nm)
theorem Dr.same {t:Adr}{H H':Hp}{a dp do_:Addr}{w h:Nat}{ps:aw}{ss srt:av} (d:Dr t H a dp do_ w h ps ss srt) (s:cG):Dr t H' a dp do_ w h ps ss srt:=⟨Pic.same s d.pic,d.sts.same s,d.ok,d.pm,d.lt,d.nm⟩
theorem Pl.drop {H:Hp}{ps:aw}{kvs:aI} (h:tM) (nm:Str):Pl H Xo zbV:=by
 induction h with
 | nil=>ext eI
 | @cons p q ps kvs h r ih =>
  unfold xb8 at ih ⊢;ext zb
  .ext zsh
  .ext zhH
inductive xxe (t:Adr) (vs:ag) (H:Hp) (Q:VK) (_:XK):Prop
 | mk (a dp do_:Addr) (pw ph:Int) (ps:aw) (nm:Str) (pt:Pt) (e_:vs=[aB,wO]) (r_:(bD,Pic t H a dp do_ pw ph ps,zC,ze,∀ H',(sQ dp)->Pic t H' a dp do_ pw ph Xo->rM))
theorem ok_aj (T:aV):FnOk true P w K mg base aU 4 t.f_aj t.d_aj iB (xxe t):=by
 refine T.F_aj.okn (k:=3) sc_aj (aY E) (fun cdv A outer s H vs Q E hr h=>?_)
 .obtain ⟨a,dp,do_,pw,ph,ps,nm,pt,rfl,_⟩:=h;rfl
 .obtain ⟨a,dp,do_,pw,ph,ps,nm,pt,rfl,h⟩:=h;refine⟨_,xh (xam (xag bz T.c_a T.m_c (ok_c T) bi T.b_c .nil xq i5))
   (qE (xl1 bB fw HF)),?_⟩
  refine sq2 ?_; intros; ext MC hn hf;obtain⟨⟨dx,hp⟩,⟨kvs,hk,pl⟩,w1,w2,h1,h2,le⟩:=xA;ext zdu e;show(bN,⟨a,dx,_,rfl,hp,bM,a,dp,do_,pw,ph,ps,nm,pt,rfl,pic,hn,hf,?_⟩,⟨a,_,dx,_,_,rfl,(AN,zfH dp hk ⟨104,kvs,oH,rY,hk,rfl,e,?_⟩)⟩);have bt:rG dp iJ H (.dK zbV):=fun b u nb e=>by
   ext bP nb e
  refine q _ bt ⟨m9 zsg,(cq,xl,(pl.drop nm).keep (PL hk)),w1,w2,h1,h2,ZJ qy le⟩
noncomputable def mvP (nm:Str) (x y:Int) (p:Pt):Pt:=kE p.nm nm Hg p
theorem Pl.mv {H H':Hp}{nm:Str}{x y:Int}{q1:Addr}{ps:aw}{kvs:aI} (h:tM) (tp:lH) (hq:∀ p∈ps,p.nm=nm->H' q1=some (.tup (ptV Hg))):Pl H' zaT (kvs.map fun kv=>Xl nm q1):=by
 induction h with
 | nil=>ext eI
 | @cons p q ps kvs h r ih =>
  have ih':=ih fun p' hp'=>hq p' (Zi _ hp');rw[Zo,Zo];ext zb
  .rw [aC (dF c),(cU,yI,Hg,aC c)];show(xT,hq p Zm c,ih')
  .rw [(mq,c (ZW.inj z)),cU yI p sr];show(xT,pi h,ih')
theorem xrg {ps:aw} (nd:(ps.map (·.nm)).Nodup) {p q:Pt} (hp:zV) (hq:q∈ps) (e:p.nm=q.nm):p=q:=by
 induction ps with
 | nil=>exact (nomatch hp)
 | cons a ps ih =>
  ext zd;rcases LW with z|z<;>rcases dI hq with z2|z2
  .rw [z,z2]
  .exact absurd (Zg.mpr ⟨q,z2,by rw[<- e,z]⟩) nd.1
  .exact absurd (Zg.mpr ⟨p,z,cA e z2⟩) nd.1
  .exact ih jI z z2
inductive xxd (t:Adr) (vs:ag) (H:Hp) (Q:VK) (_:XK):Prop
 | mk (a dp do_:Addr) (pw ph:Int) (ps:aw) (pt:Pt) (i j:Int) (e_:vs=[aB,mD,cO,zZ]) (r_:Pic t H a dp do_ pw ph ps/\(ps.map (·.nm)).Nodup/\(bD,rO pt.nm,Rz,1<=i,(zq,i<=pw,1<=j,j<=ph,(∀ p∈ps,p.nm≠pt.nm->p.x≠i/\p.y≠j),(sQ dp)->Pic t H' a dp do_ pw ph (ps.map (mvP pt.nm i j))->rM)))
theorem ok_ak (T:aV):FnOk true P w K mg base aU 4 t.f_ak t.d_ak Ax (xxd t):=by
 refine T.F_ak.okn (k:=3) sc_ak (aY E) (fun cdv A outer s H vs Q E hr h=>?_)
 .obtain ⟨a,dp,do_,pw,ph,ps,pt,i,j,rfl,_⟩:=h;rfl
 .obtain ⟨a,dp,do_,pw,ph,ps,pt,i,j,rfl,h⟩:=h;refine⟨_,xh (xam (xag bz T.c_a T.m_c (ok_c T) bi T.b_c .nil xq i5))
   (xh (xam (xag bz T.c_a T.m_h (ok_h T) bi T.b_h .nil xq ww))
   (xh (xam (xag bz T.c_a T.m_e (ok_e T) bi T.b_e .nil xq EG))
   (xm (qp bB fw (xu xg8 (xaq ww) (xd5 xmw zcY (xep (xo)) xeo)))))),?_⟩
  refine sq4 ?_; intros; obtain⟨pic,nd,hn,hf,i1,i2,⟨j1,j2,un,q⟩⟩:47:=h;obtain⟨⟨dx0,hp⟩,⟨kvs,hk,pl⟩,w1,w2,h1,h2,le⟩:=xA;have hpt:=Jm hf;show(bN,⟨a,dx0,_,rfl,hp,bM,a,dp,do_,pw,ph,ps,pt.nm,pt,rfl,pic,hn,hf,?_⟩,⟨a,dx0,_,rfl,hp,bM,a,dp,do_,pw,ph,ps,i,j,rfl,pic,i1,i2,j1,j2,?_⟩);refine⟨a,dx0,_,rfl,hp,bM,a,dp,do_,pw,ph,ps,pt.nm,i,j,rfl,pic,un,rq⟩;ext zsJ;ext iO f7 q1 hq1;generalize eu:jw H1 q1 cO j=H2;show(qP,s2,hq1,g2,hp2,h8 hp1);show(af,hk2,h8 hk1,hq2,Sz hq0);show(o5,⟨a,_,_,_,_,rfl,mT hp2 T.n_a9 lkP ⟨dp,rY,rfl,(bJ,e0,kI kB hk2),2,rfl,q0,ptV pt,rfl,dR hq2,(aA,absurd z.1 (zaW 2 0)),zfT⟩⟩,s3,Same H2 zei,c7 hq3);show(ap,g3,fF H2 q3 (.tup M8) q3 (.tup M8),xl,oS q1 q3 _ M8 ⟨47,rfl,dR (jK g2),dR g3,aj,(HR,2+3),dJ,fun _ q4 hq4=>?_⟩);have s4:=s3.trans (xaa (o:=Ng) kq hq4);have g4:fF zei q4 Ng q4 Ng:=xl;change _ at g4;show(af,hp4,iT hp2,hk4,iT hk2);refine⟨a,_,_,_,_,rfl,mT hp4 T.n_a9 lkP (lN,dp,wE kB hk4 (zrT 13))⟩;have ek:putK kvs kB (.ref q4)=(zeH,Xl pt.nm q4):=by
   unfold putK;rw[xdj,e0];rfl
  rw[ek];have s04:=s1.trans (s2.trans s4);have bt:rG dp iJ (upd zei q4 Ng) (.dK (kvs.map fun kv=>Xl pt.nm q4)):=fun b u nb e=>by
   show(bP,nb,s04 _ _ e)
  refine q _ bt ⟨⟨dx0,zsg⟩,(cq,xl,pl.mv (PL hk) (aL p hp' ep)),w1,w2,h1,h2,fL le⟩;show(cD,xrg nd hp' hpt ep,jF (xk (jK hk2) hq4),g4)
theorem xpt {x d:Int} (h:0<d) (h2:d<=4294967296):-oN<x % d/\x % d<oN:=by
 show(af,a,Wt x (dS,d≠0),b,WH x h);ext aO aa aa
theorem xa9 (x:Int) {d:Int} (h:0<d):0<=x % d/\x % d<d:=⟨Wt _ aa,WH _ h⟩
inductive xwk (K:Zf) (vs:ag) (H:Hp) (Q:VK) (_:XK):Prop
 | mk (a:Addr) (ns:iI) (k:Int) (e_:vs=[aB,.int k]) (r_:(bD,RZ,0<=k,k<lS,∀ c:Int,jW c))
inductive xvc (vs:ag) (H:Hp) (Q:VK) (_:XK):Prop
 | mk (i:Int) (e_:vs=[cO]) (r_:mV true)
noncomputable def abc:Str:="abcdefghijklmnopqrstuvwxyz"
theorem xuo:abc.cps.toList=(Zx 26).map (97+·):=aP
noncomputable def ltr (i:Int):Str:=⟨#[EH]⟩
theorem xn2 {i:Int} (h0:0<=i) (h1:i<26):atI abc.cps.toList i=some EH:=by
 show(jS,j,Y6 h0);have lt:j<26:=aa
 refine xea ?_;rw[xuo,Zd,Yp lt];rfl
theorem xu6 {i j:Int} (hi:0<=i) (hj:0<=j) (h:ltr i=ltr j):i=j:=by
 unfold ltr at h;have:=congrArg (fun s:Str=>s.cps.toList) h;ext Gg this
theorem xlj {i:Int} (h0:0<=i) (h1:i<26):rO (ltr i):=by
 unfold isNm ltr;have g1:¬ ([EH]<[97]):=by rw[List.cons_lt_cons_iff]; rintro (z|⟨_,z⟩); omega; cases z
 have g2:¬ ([122]<[EH]):=by rw[List.cons_lt_cons_iff]; rintro (z|⟨_,z⟩); omega; cases z
 show ((d9 1 1)&&(!(bG ([EH]<[97]))&&!(bG ([122]<[EH]))))=true;rw[tz g1,tz g2];rfl
noncomputable def xzc:iI:=[1,3,5,7,9,11,15,17,19,21,23,25]
theorem ok_a4 (T:aV):FnOk true P w K mg base aU 1 t.f_a4 t.d_a4 NI (xwk K):=by
 refine T.F_a4.okn (k:=0) sc_a4 (aY E) (fun cdv A outer s H vs Q E hr h=>?_)
 .ext zfz a ns k
 .obtain ⟨a,ns,k,rfl,h⟩:=h;refine⟨_,xh (xai (jv xfk 1 (oR qz)) (d8 (MF xa4 0 fw)) (x9))
   (d8 (zN (Ko 1))),?_⟩
  refine sq2 ?_; intros; refine iq ?_; intros; ext oA hs k0 k1 q h;refine(eD,a,_,.inl hs,bT ?_);refine ite2 sy sy
  .have c':k<(cE ns.length):=yu
   show(jS,j,Y6 k0);have lt:j<ns.length:=aa
   exact kJ a _ _ (sK,hs,xea (xR iw),q _)
  .exact ⟨Mh,q _⟩
theorem ok_a1 (T:aV):FnOk true P w K mg base aU 1 t.f_a1 t.d_a1 Rb (xvc):=by
 refine T.F_a1.okn (k:=0) sc_a1 (aY E) (fun cdv A outer s H vs Q E hr h=>?_)
 .ext DA i
 .ext D6 i;show(bN,(cq,d8 (xc7 zlC (xes (xqt zkR))),?_),mB ⟨104,_,_,true,cO,rfl,xb6,Hu⟩);exact mB ⟨104,_,_,false,cO,rfl,fH,jA false h⟩
noncomputable abbrev Pr:=Pt × Bool × Int
noncomputable def prV (p:Pr):ag:=[.str cp,uq i6,.int hX]
inductive PrsL (H:Hp):bX bn az
 | nil:PrsL H [] []
 | cons {p:Pr}{q:Addr}{ps:bn}{qs:az} (h:HQ p) (r:IJ):PrsL H (p::ps) sH
theorem PrsL.keep {H H':Hp} (s:lH) {ps:bn}{qs:az} (h:IJ):PrsL H' ps qs:=by
 induction h with
 | nil=>ext eI
 | cons h _ ih=>ext zw
theorem PrsL.len {H:Hp}{ps:bn}{qs:az} (h:IJ):Ct qs.length:=by
 induction h with
 | nil=>rfl
 | cons _ _ ih=>simp[ih]
theorem PrsL.get {H:Hp}{ps:bn}{qs:az} (h:IJ) {i:Nat}{q:Addr} (e:BE):zfD (HQ p):=by
 induction h generalizing i with
 | nil=>ext nH
 | @cons p q' ps qs h _ ih =>
  cases i with
  | zero =>
   ext Lc p
  | succ j=>ext uC
structure PrOk (ps:aw) (w h:Int) (p:Pr):Prop where
 nm:rO cp
 fd:RS (aA,d9 z.nm cp) aN
 r1:1<=hX
 r2:hX<=h
 xy:(bD,1<=(aN).x,(aN).x<=w,1<=(aN).y,(aN).y<=h)
theorem xri (qs:az) (k:Nat):cutV (qs.map V.ref) (some (iu+1)) none=(qs.drop cL).map V.ref:=by
 unfold cutV;rw[(dS,(iu+1)=(dW cL)),HT.sIx_nat,HT.sIx_none,Za,<- Q6,<- Q5]
 congr 1
 by_cases c:cL<=qs.length
 .rw [Nat.min_eq_left c,Yq aj]
 .rw [Nat.min_eq_right aa,List.drop_length,List.drop_of_length_le aa];simp
theorem PrsL.drop {H:Hp}{ps:bn}{qs:az} (h:IJ) (k:Nat):PrsL H (ps.drop k) (qs.drop k):=by
 induction h generalizing k with
 | nil=>simpa using PrsL.nil
 | cons h r ih =>
  cases k with
  | zero=>ext xT h r
  | succ k=>exact ih k
noncomputable def cel (w:Int) (p:Pr):kh:=znD
noncomputable abbrev Tr:=Str × Str × jT
noncomputable def xbd (w:Int) (p:Pr):Int:=lenI w (aN).x (aN).y i6 hX
theorem xs7 {ps:aw}{w h:Int}{p:Pr} (o:AY) (hw:j5) (hh:lT):-1000000<=xbd w p/\xbd w p<=1000000:=by
 obtain⟨_,_,r1,r2,x1,x2,y1,y2⟩:=o;unfold xbd lenI;ext PJ
inductive xve (t:Adr) (vs:ag) (H:Hp) (Q:VK) (_:XK):Prop
 | mk (a dp do_ l:Addr) (pw ph:Int) (ps:aw) (prs:bn) (qs:az) (e_:S5) (r_:(zkD,Pic t H a dp do_ pw ph ps,(prs.map (xbd pw)).sum))
theorem xll (T:aV):FnOk true P w K mg base aU 6 t.f_total t.d_total kg (xve t):=by
 refine T.F_total.okn (k:=5) xs3 (aY E) (fun cdv A outer s H vs Q E hr h=>?_)
 .obtain ⟨a,dp,do_,l,pw,ph,ps,prs,qs,rfl,_⟩:=h;rfl
 .obtain ⟨a,dp,do_,l,pw,ph,ps,prs,qs,rfl,h⟩:=h;show(sD,(Vr (xg (xav rfl (xau (zs:=["name", "side", "row"]) (ys:=pW) (fr:=[0]) (N0:=kg) (sc0:=xp xhm) aP rfl rfl rfl) wV ziA (xer (xbk ao Ds)) eW (fun _ _ _ _ _=>xag h7 T.c_a T.m_o (ok_o T) bi T.b_o .nil xq (gq 0 1 2))) (xi))));obtain⟨pic,hl,pr,ok,len,q⟩:46:=h;obtain⟨⟨dx,hp⟩,_,w1,w2,h1,h2,_⟩:=xA;show(nX,l,hl,l1,hl1,xcu qs.length (gO,zs,H2,zs=(((Ta).map (xbd pw)).map V.int)/\L3/\(zfv l1 zs)) ?_ ?_ ?_ ?_)
  .exact ⟨aj,c7 hl1,xl⟩
  .rintro i zs H2 lt (⟨_,s2,_⟩:43);exact(bK,_,.ref qs[i],bb (h8 hl),bF lt)
  .rintro i zs H2 v H3 lt (⟨rfl,s2,hl2⟩:43) ⟨rfl,hv⟩ N hN;show(zey,bb (h8 hl));ext tP o ho hv';show(ae,p,hpp,ep,pr.get ho);show(sM,okp,ok p (Zn hpp),fW o (h8 ep));refine xtd ?_;show(bN,⟨a,dx,_,rfl,h8 hp,bM,a,dp,do_,pw,ph,ps,cp,aN,i6,hX,rfl,rE s2,okp.nm,okp.fd,okp.r1,okp.r2,au H4 s4⟩,(xJ,iT hl2,hN _ _ ⟨?_,uw,xl⟩))
   .rw [Za,Za,Yd];exact ZI (aa:min i prs.length<13) ao
   .rw [ZT,hpp,Zq,Zq];rfl
   .show(c9,mW hl1,iT (s2 b u e))
  .rintro zs H2 (⟨rfl,s2,hl2⟩:43);rw[pr.len,Jh] at hl2;refine⟨(cq,bb (h8 hl),aj),l1,prs.map (xbd pw),rfl,bb hl2,⟨B8,wg⟩,q _ s2⟩;ext eG p hp' hn;exact xs7 (ok p hp') w2 h2
noncomputable def acrI (w:Int) (p:Pr):Int:=if i6 then (aN).x else w+1-(aN).x
noncomputable def uprI (w:Int) (p:Pr):Int:=UH*MX
theorem xw1 {a b:Int} (a0:0<=a) (a1:a<=1000) (b0:0<=b) (b1:b<=1000):(qI,a*b,1000000):=by
 show(dE,Int.mul_nonneg a0 b0,?_);have h1:=Int.mul_le_mul_of_nonneg_right a1 b0;have h2:1000*b<=1000*1000:=Int.mul_le_mul_of_nonneg_left b1 ao;exact Int.le_trans h1 h2
theorem xuj {ps:aw}{w h:Int}{p:Pr} (o:AY) (hw:j5) (hh:lT):-1000000<=UG/\UG<=1000000:=by
 obtain⟨_,_,r1,r2,x1,x2,y1,y2⟩:=o;have z:=xw1 (a:=UH) (b:=MX) Ob Ob K3 K3;unfold uprI;omega
inductive xt7 (t:Adr) (vs:ag) (H:Hp) (Q:VK) (_:XK):Prop
 | mk (a dp do_ q0:Addr) (pw ph:Int) (ps:aw) (p:Pr) (e_:vs=[aB,rY]) (r_:(bD,Pic t H a dp do_ pw ph ps,Iy q0 p,Py,∀ H',cG->Q (.int (uprI pw p)) H'))
inductive xza (t:Adr) (vs:ag) (H:Hp) (Q:VK) (_:XK):Prop
 | mk (a dp do_ l:Addr) (pw ph:Int) (ps:aw) (prs:bn) (qs:az) (e_:S5) (r_:(zkD,Pic t H a dp do_ pw ph ps,(prs.map (uprI pw)).sum))
noncomputable def mayB (ss:av) (p:Pt) (s:Seat):Bool:=(bG sv)&&LO
noncomputable def excB (ss:av) (p p':Pr):Bool:=zbQ&&mayB ss p'.1 dG
inductive xu4 (t:Adr) (vs:ag) (H:Hp) (Q:VK) (_:XK):Prop
 | mk (a dp do_ o1 o2:Addr) (pw ph:Int) (ps:aw) (ss:av) (p p':Pr) (e_:vs=(wB aB o1 o2)) (r_:Pic t H a dp do_ pw ph ps/\qZ/\(AK,Iy o1 p,Iy o2 p',Py,PrOk ps pw ph p',excB ss p p'))
noncomputable def canO (w:Int) (ss:av) (p p':Pr):dc jT:=if excB ss p p' then zou else none
noncomputable def canF (w:Int) (ss:av) (p:Pr) (r:bn):List Tr:=r.filterMap fun p'=>(Ig).map fun c=>(cp,p'.1.nm,c)
noncomputable def cans (w:Int) (ss:av):bn->List Tr
 | []=>[]
 | o7=>(LA r)++cans w ss r
theorem xpq {w:Int}{ss:av}{p p':Pr}{r:bn}:(LA (p'::r))=(match Ig with|some c=>[(cp,p'.1.nm,c)]|none=>[])++(LA r):=by
 unfold canF;rw[JI];cases Ig<;>rfl
noncomputable def TrV (H:Hp) (o:dc Tr) (v:V):Prop:=(Ua,o,none,∃ c q qc,qC o c (bc v eC (gZ q [wN,.str (bg c),.ref qc]) (gZ qc (ua,bg eK,(b6 c).2))))
inductive xvx (t:Adr) (vs:ag) (H:Hp) (Q:VK) (_:XK):Prop
 | mk (a dp do_ l:Addr) (pw ph:Int) (ps:aw) (ss:av) (prs:bn) (qs:az) (e_:S5) (r_:Pic t H a dp do_ pw ph ps/\(ax qZ (Dk l) Eh (∀ p∈prs,Py) (ST,TrV H' (Ia prs) v,Ab)))
theorem ok_au (T:aV):FnOk true P w K mg base aU 6 t.f_au t.d_au zgu (xt7 t):=by
 refine T.F_au.okn (k:=5) sc_au (aY E) (fun cdv A outer s H vs Q E hr h=>?_)
 .obtain ⟨a,dp,do_,q0,pw,ph,ps,p,rfl,_⟩:=h;rfl
 .obtain ⟨a,dp,do_,q0,pw,ph,ps,p,rfl,h⟩:=h;refine⟨_,xh (Fe 1 2 sc_au.nd (iX 3 sc_au.nd 4))
   (xh (KP (xag bz T.c_a T.m_j (ok_j T) bi T.b_j .nil xq (gG 2)) (iX 5 sc_au.nd 6))
   (d8 (xu xc4 (xgp (xag (pC FH hr T.g_aw T.F_aw.kp T.b_aw (fZ 3 bB)) T.c_ag T.m_r (ok_r T) bi T.b_r .nil xq CC) (xag (pC FH hr T.g_aw T.F_aw.kp T.b_aw (fZ 3 bB)) T.c_w T.m_m (ok_m T) bi T.b_m .nil xq CC)) (zlm me 4)))),?_⟩
  refine sq3 ?_; intros; ext MC hq0 ok;ext vh dx0;show(bN,fW q0 hq0,⟨a,dx0,_,rfl,hp,bM,a,dp,do_,pw,ph,ps,cp,aN,rfl,pic,ok.nm,ok.fd,zol⟩);have hp1:=mP;obtain⟨_,_,r1,r2,x1,x2,y1,y2⟩:=id ok;show(af,w2,pic.w2,h2,pic.h2);show(dO,sm,-oN<acrI pw p/\acrI pw p<oN,Ob,qq,q);unfold uprI acrI at qq;unfold acrI at sm;cases hb:i6 with
  | true =>
   rw[hb] at qq sm;refine .inl ⟨a,_,_,_,_,rfl,znB true⟩;ext Kr sd3;exact⟨p3,ds,_,rfl,hs,M3,_,_,rfl,_,rfl,.inl sm,zuU⟩
  | false =>
   rw[hb] at qq sm;show(uY,⟨a,_,_,_,_,rfl,znB false⟩);show(Kr,id sd3);exact⟨p3,ds,_,rfl,hs,M3,p3,pw,_,rfl,sd3,_,rfl,.inl sm,zuU⟩
theorem xol (T:aV):FnOk true P w K mg base aU 7 t.f_upright t.d_upright kg (xza t):=by
 refine T.F_upright.okn (k:=6) xo3 (aY E) (fun cdv A outer s H vs Q E hr h=>?_)
 .obtain ⟨a,dp,do_,l,pw,ph,ps,prs,qs,rfl,_⟩:=h;rfl
 .obtain ⟨a,dp,do_,l,pw,ph,ps,prs,qs,rfl,h⟩:=h;show(sD,Vr (xg (xav rfl (xau (zs:=["pair"]) (ys:=pW) (fr:=[0]) (N0:=kg) (sc0:=xp xfl) aP rfl rfl rfl) wV fj eP eW (fun _ _ _ _ _=>pC (ok_au T) hr T.g_au T.F_au.kp T.b_au (iN 1 0))) (xi)));obtain⟨pic,hl,pr,ok,len,q⟩:46:=h;obtain⟨⟨dx,hp⟩,_,w1,w2,h1,h2,_⟩:=xA;refine(jp,l,hl,au l1 hl1);have ql:=pr.len;refine xbp (bb hl) zoS hl1 (CO,∃ p,(aF prs p)/\y=.int (uprI pw p)) (fun i y H H' tp h=>h) (fun i x H2 hx s2 N hN=>?_) (fun ys H2 s2 el ly f=>?_)
  .rw [Zd] at hx;ext tP o ho hx;show(ae,p,hpp,ep,pr.get ho);have okp:=ok p (Zn hpp);exact⟨a,dp,do_,o,pw,ph,ps,p,rfl,(cI,rE s2,h8 ep,okp,fun H4 s4=>hN _ _ s4 (dk p hpp))⟩
  .have ey:ys=(prs.map (uprI pw)).map V.int:=by
    rw[Za,ql] at ly;refine QV (c8 i);by_cases c:i<ys.length
    .show(dL,p,h1,h2,f i _ (Zb c));rw[Zb c,Zd,Zd,h1,h2];rfl
    .rw [Jt aa,Jt iD]
   subst ey;refine(xP,l1,prs.map (uprI pw),bb el,⟨B8,wg⟩,q _ s2);ext eG p hp' hn;exact xuj (ok p hp') w2 h2
theorem ok_ae (T:aV):FnOk true P w K mg base aU 6 t.f_ae t.d_ae Dd (xu4 t):=by
 refine T.F_ae.okn (k:=5) sc_ae (aY E) (fun cdv A outer s H vs Q E hr h=>?_)
 .obtain ⟨a,dp,do_,o1,o2,pw,ph,ps,ss,p,p',rfl,_⟩:=h;rfl
 .obtain ⟨a,dp,do_,o1,o2,pw,ph,ps,ss,p,p',rfl,h⟩:=h;refine⟨_,xh (Fe 1 3 sc_ae.nd (iX 4 sc_ae.nd 5))
   (xh (Fe 2 6 sc_ae.nd (iX 7 sc_ae.nd 8))
   (d8 (xc7 (xag bz T.c_a T.m_z (ok_z T) bi T.b_z .nil xq (gq 3 7 8)) (xes (xag bz T.c_a T.m_z (ok_z T) bi T.b_z .nil xq (gq 6 4 5)))))),?_⟩
  refine sq3 ?_; intros; obtain⟨pic,st,e1,e2,k1,k2,q⟩:47:=h;ext vh dx0;show(wF,fW o1 e1,fW o2 e2,⟨a,dx0,_,rfl,hp,bM,a,dp,do_,pw,ph,ps,ss,aN,bg p',b6 p',rfl,pic,st,k1.nm,k1.fd,k2.r1,k2.r2,rq⟩,yy)
  .refine ⟨a,dx0,_,rfl,mP,bM,a,dp,do_,pw,ph,ps,ss,p'.1,i6,hX,rfl,FB,st.same s1,k2.nm,k2.fd,k1.r1,k1.r2,au H2 s2⟩;have z:=q H2 (s1.trans s2);unfold excB at z;show(rD,tH zbQ c,JK)
  .have z:=q H1 s1;unfold excB at z;show(rD,show cS zbQ from UM,Yi)
theorem xfa (T:aV):FnOk true P w K mg base aU 8 t.f_exchangeable t.d_exchangeable kg (xvx t):=by
 refine T.F_exchangeable.okn (k:=7) xcm (aY E) (fun cdv A outer s H vs Q E hr h=>?_)
 .obtain ⟨a,dp,do_,l,pw,ph,ps,ss,prs,qs,rfl,_⟩:=h;rfl
 .obtain ⟨a,dp,do_,l,pw,ph,ps,ss,prs,qs,rfl,h⟩:=h;refine⟨_,xh (xbf ZB rfl (xe4 rfl T.n_enumerate i5) (xbc rfl (iX 2 xcm.nd 3)) (xm (xbf ZB rfl (xal (zqD 1 iR)) (pN 4 xcm.nd) (xm (xai (xa2 (pC (ok_ae T) hr T.g_ae T.F_ae.kp T.b_ae (gq 0 3 4))) (xh (pS 5 xcm.nd (pC (xpl T) hr T.g_meeting T.F_meeting.kp T.b_meeting (gq 0 3 4)))
   (uc (Uc 5) (KG (xg wW (xg (wu 4) CC))))) (x9))))))
   (d8 (xcx)),?_⟩
  refine sq2 ?_; intros; refine fq ?_; intros; obtain⟨pic,st,hl,pr,ok,q⟩:46:=h;refine(lN,l,bb hl)
  let Pv (i:Nat) (Z:L2.St) (H2:Hp):Prop:=∃(v2 v3 v4 v5:bS),(bc,Z,[cV,lP,v2,v3,v4,v5],L3,(Rf pw i)=cans pw ss prs)
  show(zbJ,A9,⟨123,_,_,_,_,rfl,kq,rfl⟩,(fun _ _ _ _ ⟨_,_,_,_,_,z,_⟩=>bb (z _ _ hl)))
  .rintro i x p Z H2 hx hp (⟨v2,v3,v4,v5,rfl,s2,ea⟩:123);ext zgV ok1 l;rw[xri];have s4:Same H2 (upd zau p4 (.lst ((EN).map V.ref))):=sp.trans (c7 hp4);have pr2:=pr.drop aM;have ed:prs.drop i=P1::Bm:=by
    ext y9 h1 h2 hP1
    rw[YZ h1,h2]
   rw[ed] at ea;show(zmm,∃(v4 v5:bS),(hZ,Z,[cV,lP,aX i,bu o,v4,v5],FG,H5 p4=some (.lst ((EN).map V.ref)),canF pw ss P1 ((Bm).drop j)++(Rf pw aM)=cans pw ss prs))
   refine xbi (xs:=(EN).map V.ref) (Pv:=Pv)
    ⟨84,_,_,rfl,s2.trans s4,xl,ea⟩ (fun _ _ _ _ ⟨_,_,_,_,z,_⟩=>bb z) ?_ ?_
   .rintro j x Z H5 hx (⟨v4,v5,rfl,s5,hp5,ea5⟩:84);ext zjX;have ok2:=ok P2 (W4 (Zn hP2));have ed2:(Bm).drop j=P2::(Bm).drop eE:=by
     ext y9 h1 h2 hP2;rw[YZ h1,h2]
    rw[ed2,xpq] at ea5;show(bN,⟨a,dp,do_,o,o2,pw,ph,ps,ss,P1,P2,rfl,⟨47,rE s5,st.same s5,dP eP1,dP eP2,ok1,ok2,au H6 s6⟩⟩,vy cx)
    .ext nW; have s56:=s5.trans s6;refine⟨a,dp,do_,pw,ph,ps,o,o2,P1.1.nm,P2.1.nm,P1.1,P2.1,bg P1,bg P2,b6 P1,b6 P2,rfl,⟨46,rE s56,s56 _ _ eP1,s56 _ _ eP2,bO ok1.nm ok1.fd ok1.r1 ok1.r2 ok1.xy,bO ok2.nm ok2.fd ok2.r1 ok2.r2 ok2.xy,cu H7 v s7 mv⟩⟩;ext ztk; have mv':xof H7 (canO pw ss P1 P2) v:=by
      unfold canO;ext cD cx bW mv
     rcases mv' with⟨em,rfl⟩|⟨c,q6,em,rfl,hq6⟩
     .rw [em] at ea5;refine(hW,ifN fH ?_);exact⟨84,_,_,rfl,s56.trans s7,yH hp5,ea5⟩
     .rw [em] at ea5;refine(hW,ifP fH ?_);have s57:=s56.trans s7;refine B1 o (s57 _ _ eP1) ⟨o2,_,0,_,rfl,rfl,dR (s57 _ _ eP2),rfl,TR,au p7 hp7⟩;show(cC,s8,Same H7 (ez H7 p7 [.str P1.1.nm,.str P2.1.nm,.ref q6]),c7 hp7,q _ _ (s57.trans s8) (.inr ⟨104,(P1.1.nm,P2.1.nm,c),p7,q6,?_,rfl,xl,s8 _ _ hq6⟩));rw[<- ea5];rfl
    .have em:canO pw ss P1 P2=none:=by
      unfold canO;rw[ay cx]
     rw[em] at ea5;exact⟨84,_,_,rfl,Bi,fQ hp5,ea5⟩
   .rintro Z H5 (⟨v4,v5,rfl,s5,hp5,ea5⟩:84);refine⟨123,_,_,_,_,rfl,s5,?_⟩;show(oW,Za,List.drop_of_length_le (l:=Bm) (by rw[pr2.len]; exact Zj _),ea5,ea5)
  .rintro Z H2 (⟨v2,v3,v4,v5,rfl,s2,ea⟩:123);rw[Za,pr.len,List.drop_length] at ea;exact q _ _ s2 (.inl (fc,by rw[<- ea]; rfl))
theorem xwh {x y r s:Int}{n:Nat} (hn:jE=(gW,r-y,0,-(r-y),r-y)) (hs:s=(gW,r,y,-1,1)) :
    (Zx gP).map (gm k (x,y+s*(0+iu)))=Geo.upL x y r++[(x,r)]:=by
  have e:Geo.upL x y r=(Zx n).map (gm k (x,y+s*(0+iu))):=by
    unfold Geo.upL;have hu:Geo.upN y r=n:=by unfold Geo.upN; split<;>split at hn<;>omega
    rw[hu];refine JB (au k hk);rw[ZS] at hk;have hd:Geo.dn y r=s:=by unfold Geo.dn; rw[hs]; split<;>split<;>(try rfl)<;>(split at hn<;>omega)
    rw[hd,Int.zero_add,Int.mul_comm]
  rw[JM,Zq,<- e];have h2:y+s*(0+jE)=r:=by
    rw[hs,Int.zero_add];split<;>split at hn<;>omega
  show _++[(x,y+s*(0+jE))]=_;rw[h2]
theorem xsb {w x r:Int} (h1:1<=x):Geo.lvL w x true r=(x,r)::(Zx (zO,x+1)).map (gm k (x-(1+iu),r)):=by
 unfold Geo.lvL Geo.lvN Geo.wayI;rw[bW,bW,(cU,(x+1).toNat,(zO,x+1)+1,aa),Yr,Zo,Z0]
 congr 1
 .simp
 .show(znp,x+(dW cL)*-1)
theorem xqa {w x r:Int} (h1:x<=w):Geo.lvL w x false r=(x,r)::(Zx (zO,w+2-x)).map (gm k (x+(1+iu),r)):=by
 unfold Geo.lvL Geo.lvN Geo.wayI;rw[ay Z7,ay Z7,(cU,(fM,w+2,x),(zO,w+2-x)+1,aa),Yr,Zo,Z0]
 congr 1
 .simp
 .show(znp,x+(dW cL)*1)
inductive xww (vs:ag) (H:Hp) (Q:VK) (_:XK):Prop
 | mk (c k:Int) (e_:vs=(ua c k)) (r_:0<=k/\∀ m:Int,0<=m->(jW m))
inductive Lp (H:Hp):bX aw aI
 | nil:Lp H [] []
 | cons {p:Pt}{q:Addr}{ps:aw}{kvs:aI} (h:aE q uD) (r:jR):Lp H (p::ps) ((TU,eC)::kvs)
theorem Lp.same {H H':Hp} (s:cG) {ps:aw}{kvs:aI} (h:jR):R0:=by
 induction h with
 | nil=>ext eI
 | cons h _ ih=>ext zw
theorem Lp.len {H:Hp}{ps:aw}{kvs:aI} (h:jR):zdb:=by
 induction h with
 | nil=>rfl
 | cons _ _ ih=>simp[ih]
theorem Lp.find {H:Hp}{ps:aw}{kvs:aI} (h:jR) {nm:Str}{pt:Pt} (e:ze):zfA (aE q (uo pt)):=by
 induction h with
 | nil=>ext nH
 | @cons p q ps kvs h _ ih =>
  ext zb
  .ext zmv
  .ext zjs
theorem Lp.no {H:Hp}{ps:aw}{kvs:aI} (h:jR) {nm:Str} (e:RJ):Cj=none:=by
 induction h with
 | nil=>rfl
 | @cons p q ps kvs h _ ih =>
  ext ziB
theorem Lp.get {H:Hp}{ps:aw}{kvs:aI} (h:jR) {i:Nat}{k:Key}{x:V} (e:kf):zlP (aE q uD):=by
 induction h generalizing i with
 | nil=>ext nH
 | @cons p q ps kvs h _ ih =>
  cases i with
  | zero =>
   simp at e;exact⟨84,p,q,rfl,e.1.symm,e.2.symm,h⟩
  | succ j=>ext uC
theorem Lp.snoc {H:Hp}{ps:aw}{kvs:aI} (h:jR) {p:Pt}{q:Addr} (e:aE q uD):Lp H LQ (Tl TU):=by
 induction h with
 | nil=>ext Lb
 | cons h _ ih=>ext Ck
noncomputable def PD (H:Hp) (d:Addr) (ps:aw):Prop:=∃ kvs,Rd H d (.dK kvs)/\jR
theorem PD.same {H H':Hp}{d:Addr}{ps:aw} (s:cG) (h:BC):PD H' d ps:=by
 ext ae kvs e l h;show(cR,kvs,?_,l.same s);rcases e with e|⟨o,e⟩
 .ext cY rS
 .ext oI o rS
theorem PD.get {H:Hp}{d:Addr}{ps:aw} (h:BC) {nm:Str}{pt:Pt} (e:ze):∃ q,DGet H d wO F3/\(aE q (uo pt)):=by
 ext ae kvs ed l h;show(ae,q,h1,h2,l.find e);show(aJ,q,.inl (dY kvs oH ed h1.symm),h2)
inductive xvp (K:Zf) (vs:ag) (H:Hp) (Q:VK) (_:XK):Prop
 | mk (d ls:Addr) (ps:aw) (ss:av) (rs:az) (pt:Pt) (b:Bool) (r:Int) (e_:vs=[b7,Ce,mD,jD,.int r]) (r_:AK BC Rz B5 tI (mayB ss pt nE))
inductive xry (vs:ag) (H:Hp) (Q:VK) (_:XK):Prop
 | mk (q0:Addr) (w:Int) (pt:Pt) (b:Bool) (e_:vs=[z0,rY,jD]) (r_:(aE q0 (uo pt))/\(jW (tF pt.x S1)))
inductive xv0 (vs:ag) (H:Hp) (Q:VK) (_:XK):Prop
 | mk (q0:Addr) (w r:Int) (pt:Pt) (b:Bool) (e_:vs=[z0,rY,jD,.int r]) (r_:ax (aE q0 (uo pt)) (1<=pt.x/\pt.x<=w/\j5) (1<=pt.y/\pt.y<=16) (1<=r/\r<=16) (zkh (Geo.cells w pt.x pt.y b r)))
theorem ok_t (T:aV):FnOk true P w K mg base aU 1 t.f_t t.d_t Xe (xww):=by
 refine T.F_t.okn (k:=0) sc_t (aY E) (fun cdv A outer s H vs Q E hr h=>?_)
 .ext DC c k
 .ext Eb c k;refine⟨_,xh (xai (iz xc2 (oJ bz) (xo)) (d8 (xu xba (xu xrk bz (Gc (Ko 1))) (xu xwp (xo) (xo)))) (x9))
   (xh (zeF (xu xa0 bz (Ko 1)))
   (xh (zeF (xu xa0 (xu xc4 iR (xo)) (pv 1)))
   (xh (zeF (xu xc4 iR (zN iR)))
   (d8 (oJ (xu xc4 iR (zN iR))))))),?_⟩
  refine sq5 ?_; intros; refine iq ?_; intros; ext iH k0 h;show(lZ,jj 4,rfl,_,rfl,ite2 lM lM)
  .show(An,bO Mh aa ⟨ao,ao,ao⟩ (jj,2 ^ (cE 40).toNat) ?_,q _ (Wt _ ao))
  show(wF,fJ Mh (jj 2147483647),(fJ,.inr mz,jj 2147483647),zuu 2147483629,zuu 2147483587);exact q _ (wz).1
theorem ok_ay (T:aV):FnOk true P w K mg base aU 1 t.f_ay t.d_ay Va (xvp K):=by
 refine T.F_ay.okn (k:=0) sc_ay (aY E) (fun cdv A outer s H vs Q E hr h=>?_)
 .obtain ⟨d,ls,ps,ss,rs,pt,b,r,rfl,_⟩:=h;rfl
 .obtain ⟨d,ls,ps,ss,rs,pt,b,r,rfl,h⟩:=h;refine⟨_,xh (pS 5 sc_ay.nd (rg 0 iR))
   (d8 (xc7 (xc0 zfj (xaq (iN 3 4)) fw fH) (xc7 (xc0 xfj (qi 5) (xaq (xg (xbr) F2)) fH) (xes (xgf xhg xhg (qi 5) jd (qi 5)))))),?_⟩
  refine sq2 ?_; intros; obtain⟨pd,hf,hls,sl,q⟩:45:=h;show(ae,q0,dg,hq0,pd.get hf);show(yD,⟨d,_,rfl,dg,?_⟩,q1,hq1);generalize eu:jw H q1 jD r=H1;show(xC,s1,hq1,g1,⟨1,2,xb5 nE,KC,xfr (s:=nE) g1,(cI,(sl.keep (Same.tups s1)).dv (lm hls),ao,ao,yy)⟩)
  .rw [mQ,xgc] at c;refine kJ q0 2 _ (BP,bb (lm hq0),rfl,f7,q3,hq3);generalize eu:ez H1 q3 [.str "both",jD]=H3;show(qP,s3,hq3,g3,z,q H3 (s1.trans s3));unfold mayB at z;rw[c,JK] at z;ext zkN
   .ext ND
    rw[c,JK] at z;refine(zqT,3,vy c2)
    .rw [c2,JK] at z;exact zqT 4 z
    .ext zuG
   .ext ND
    ext rD UM Yi
  .rw [mQ,xgc] at c;have z:=q H1 s1;unfold mayB at z;ext rD UM Yi
theorem ok_a0 (T:aV):FnOk true P w K mg base aU 1 t.f_a0 t.d_a0 MU (xry):=by
 refine T.F_a0.okn (k:=0) sc_a0 (aY E) (fun cdv A outer s H vs Q E hr h=>?_)
 .obtain ⟨q0,w,pt,b,rfl,_⟩:=h;rfl
 .obtain ⟨q0,w,pt,b,rfl,h⟩:=h;refine⟨_,xh (xai (jv xc2 2 (xbr)) (d8 (qi 1)) (x9))
   (d8 (xu xdd (zN bz) (qi 1))),?_⟩
  refine sq2 ?_; intros; refine iq ?_; intros; ext iH hq h;cases b with
  | true=>exact(hW,ifP aP (zeE q))
  | false=>exact(hW,ifN aP (zeE q))
theorem xpo {c:Bool}{d:Int} (h:d=(EC,c,-1)):atI [V.int 1,V.int (-1)] (cM c 1 0)=some (.int d):=by
 subst h;cases c<;>rfl
theorem ok_ao (T:aV):FnOk true P w K mg base aU 2 t.f_ao t.d_ao Vm (xv0):=by
 refine T.F_ao.okn (k:=1) sc_ao (aY E) (fun cdv A outer s H vs Q E hr h=>?_)
 .obtain ⟨q0,w,r,pt,b,rfl,_⟩:=h;rfl
 .obtain ⟨q0,w,r,pt,b,rfl,h⟩:=h;refine⟨_,xh (xwq (i:=4) (j:=5) rfl sc_ao.nd rfl rfl ao rfl rfl (iK (qi 1) (qi 1)) rfl)
   (xh (pS 6 sc_ao.nd (xb0 zaG))
   (xh (xe5 ZB (jv xff 5 h7) (xh (pS 5 sc_ao.nd (ziN kZ (xc0 xfk (pv 3) kZ C0)))
   (qE (xdw Jj JA J9 xcb me zaG))))
   (xh (xbf ZB rfl (xj8 rfl T.n_range (xg (pC (ok_a0 T) hr T.g_a0 T.F_a0.kp T.b_a0 (gq 0 1 2)) (xi))) (pN 7 sc_ao.nd) (xh (pS 4 sc_ao.nd (ziN jd (xc0 xc2 (pv 2) (xbr) C0)))
   (qE (xdw Jj JA J9 xcb me zaG))))
   (wc 6)))),?_⟩
  refine sq5 ?_; intros; obtain⟨hq,⟨x1,x2,w2⟩,⟨y1,y2⟩,⟨r1,r2⟩,q⟩:45:=h;show(yD,zeE ⟨q0,_,1,_,rfl,rfl,bb hq,rfl,_,_,rfl,?_⟩,qb,hqb);show(G9,(jw,H,qb,.int pt.x,pt.y),hqb);ext EV l hl;have s3:Same H2 (cF H2 l [.ref qb]):=c7 hl;have nl:iP:=s2.free hl;show(rP,d,hd,∃ d:Int,d=(gW,r,pt.y,-1,1))
  obtain⟨n,hn⟩:∃ n:Nat,jE=znZ:=⟨(znZ).toNat,K3⟩
  show(ap,n16,n<17,by split at hn<;>omega,(fJ,fun m Z H4=>∃(j:Nat) (qs:az),m=n-j/\(ax,j<=n,Z=[F6,Ci,some jD,F1,aX pt.x,aX Fz,lP,none],(pY,l,iJ,H4 b=some u),H4 l=some (.lst (qs.map V.ref)),xap H4 ((Zx eE).map (gm k (pt.x,xE (0+iu)))) qs),⟨106,n,0,[qb],rfl,fP,?_,fun c u _ e=>s3 _ _ (s2 _ _ e),xl,Cp ?_⟩))
  .rw [(K9,(xE sj)=pt.y)];rfl
  .rw [xj (xk g2 hl)];show(uW,_=some (HO.tup (ua pt.x (xE (0+sj)))),(K9,(xE (0+sj))=pt.y),g2)
  rintro m Z H4 (⟨j,qs,rfl,hj,rfl,k4,hl4,cl4⟩:86);have ql:=cl4.len;rw[Za,ZX] at ql;refine(hW,ite2 sy sy)
  .have c':Fz≠r:=yu
   have jn:j<n:=by
    rcases YV j n with z|z
    .exact z
    .ext ut j n aa;exfalso;apply c';rw[hd];split<;>split at hn<;>omega
   have hc:(gW r Fz (cE,-1) 1)=d:=by
    rw[hd];split<;>split<;>split at hn<;>omega
   show(gH,(rN,∃(j':Nat) (qs:az),(ax,j'=eE,σ'=[F6,Ci,some jD,F1,aX pt.x,aX (xE (cE j')),lP,none],sQ l,GB,xap H' ((Zx (j'+1)).map (gm k (pt.x,xE (0+iu)))) qs)),?_)
   .rintro σ' H' (⟨j',qs',rfl,e1,e2,e3,e4⟩:85);show(aJ,n-eE,aa,⟨86,eE,qs',rfl,jn,e1,e2,e3,e4⟩)
   refine iQ 1 f7 vQ;show(Oe,cF H4 l2 (ua 1 (-1)),hl2);show(uY,⟨_,rfl,l2,_,_,.int d,rfl,rfl,bb g5,xpo (hc.symm.trans aj),?_⟩);show(cR,qX (dP hl4),f7,au p6 hp6);generalize eu:(jw,H5,p6,.int pt.x,Fz+d)=H6;show(qP,s6,hp6,g6,hl6,s6 _ _ (s5 _ _ hl4));ext OW l hl6
   .show(SO,aa,qs.length,100)
   have ej:Fz+d=(xE (dW eE)):=by
    show(zrY,dW eE,m6)
   rw[ej] at g6;refine⟨85,eE,qs++[p6],rfl,by rw[<- ej]; rfl,qh,Kw,?_⟩
   .show(jb,nb,s6 _ _ (s5 _ _ (k4 _ _ nb e)))
   .rw [JM,Zq];ext zai cl4
    .show(jb,dQ hl4,s6 _ _ (s5 _ _ e))
    .rw [xj (ne_f g6 hl6)];show(uW,_=some (HO.tup (ua pt.x (xE (0+(dW eE))))),Int.zero_add,g6)
  .have c':Fz=r:=by
    have:=c;ext lA
   have jn:j=n:=by
    rw[hd] at c';split at c'<;>split at hn<;>omega
   subst jn;rw[xwh (s:=d) hn hd] at cl4;rw[c'];refine⟨q0,w,pt,b,rfl,k4 _ _ (aA,qW nl hq) hq,⟨64,_,rfl,?_,?_,?_⟩⟩
   .ext iG
   .ext iG
   show(rP,e,he,∃ e:Int,e=(EC,bG (V.str (xao b)=V.str "left"),-1))
   show(cC,ub,(cM b pt.x S1).toNat<31,K3,xfb (Pv:=(gO,Z,H5,∃(v7:bS) (qs:az),(ax,Z=[F6,Ci,some jD,F1,aX zgb,F1,lP,v7],(pY,l,iJ,H5 b=some u),H5 l=some (.lst (qs.map V.ref)),xap H5 (sW++[(pt.x,r)]++(Zx i).map (gm k (pt.x+e*(1+iu),r))) qs,qs.length<=eE+i))) ?_ ?_ ?_)
   .exact ⟨85,none,qs,aj,k4,hl4,by simpa using cl4,aa⟩
   .rintro i Z H5 hi (⟨v7,qs5,rfl,k5,hl5,cl5,ql5⟩:85);refine iQ 1 f7 vQ;show(G8,cF H5 l2 (ua 1 (-1)),hl2);show(bN,(dC,.inr ⟨_,rfl,l2,_,_,.int e,rfl,rfl,bb g6,xpo he,?_⟩),⟨qX (fQ hl5),f7,au p6 hp6⟩);generalize eu:(jw,H6,p6,.int (zgb+e),r)=H7;show(qP,s7,hp6,g7,hl7,yH hl5);ext OW l hl7
    .show(SO,aa,qs5.length,100)
    have ej:zgb+e=pt.x+e*(dW aM):=by
     show(zrY,dW aM,dD)
    rw[ej] at g7;refine⟨85,_,qs5++[p6],by rw[<- ej]; rfl,qh,Kw,?_,iD⟩
    .show(jb,nb,yH (k5 _ _ nb e))
    .rw [JM,Zq,<- YO];ext zai cl5
     .show(jb,dQ hl5,s7 _ _ (s6 _ _ e))
     .rw [xj (ne_f g7 hl7)];show(uW,_=some (HO.tup (ua (pt.x+e*(1+dD)) r)),(dS,(1+dD)=(dW aM)),g7)
   .rintro Z H5 (⟨v7,qs5,rfl,k5,hl5,cl5,ql5⟩:85);refine (q H5 l qs5 (kU,k5 _ _ (xk e nl) e) hl5 ?_ aa);unfold Geo.cells;rw[YO,List.singleton_append] at cl5;cases b with
    | true =>
     rw[xsb x1];show(ja,e1,e,-1,by rw[he]; ext BN);show(cD,cU (gm k (pt.x-(1+iu),r)) (gm k (pt.x+-1*(1+iu),r)) znr,show (zO,pt.x+1)=(cM true pt.x S1).toNat by rw[bW]; omega,cl5)
    | false =>
     rw[xqa x2];show(ja,e1,e,1,by rw[he]; ext BN);show(cD,cU (gm k (pt.x+(1+iu),r)) (gm k (pt.x+1*(1+iu),r)) znr,show (zO,w+2-pt.x)=(cM false pt.x S1).toNat by rw[mQ]; omega,cl5)
inductive xv6 (vs:ag) (H:Hp) (Q:VK) (_:XK):Prop
 | mk (d o1 o2:Addr) (w h:Int) (ps:aw) (p p':Pr) (e_:vs=[z0,b7,.ref o1,.ref o2]) (r_:bD BC (Iy o1 p) (Iy o2 p') (ax,AY,PrOk ps w h p',j5,lT,(ST,xof H' zou v,Ab)))
theorem xky {α:Type} (f:zE) {l:cT}{i:Nat}{x:α} (h:aF l x):((l.take aM).map f).sum=((UQ).map f).sum+f x:=by
 rw[ZT,h,Zq,List.sum_append];simp
theorem ok_a7 (T:aV):FnOk true P w K mg base aU 3 t.f_a7 t.d_a7 Xd (xv6):=by
 refine T.F_a7.okn (k:=2) sc_a7 (aY E) (fun cdv A outer s H vs Q E hr h=>?_)
 .obtain ⟨d,o1,o2,w,h,ps,p,p',rfl,_⟩:=h;rfl
 .obtain ⟨d,o1,o2,w,h,ps,p,p',rfl,h⟩:=h;refine⟨_,xh (pS 4 sc_a7.nd (xex))
   (xh (pT (xal (pC (ok_ao T) hr T.g_ao T.F_ao.kp T.b_ao (eT 0 (xg (rg 1 wW) (iK wW wW))))) 5 sc_a7.nd (xm (qp jd kZ (xbs))))
   (xh (Ap (xal (pC (ok_ao T) hr T.g_ao T.F_ao.kp T.b_ao (eT 0 (xg (rg 1 (wu 2)) (iK (wu 2) (wu 2)))))) 5 sc_a7.nd (xcz (xf0 eR kZ (pv 4))) (wc 5))
   (d8 (xcx)))),?_⟩
  refine sq4 ?_; intros; obtain⟨pd,e1,e2,k1,k2,w2,⟨h2,q⟩⟩:47:=h;refine au dd hdd;generalize eu:jB H dd []=H0;ext xW; ext jh s0 hdd g0;show(ae,q1,dg1,hq1,(pd.same s0).get k2.fd);show(oA,x1,x2,y1,y2,k2.xy)
  show(af,kr1,k2.r1,kr2,k2.r2);refine B1 o2 (s0 _ _ e2) ⟨d,_,rfl,dg1,o2,_,1,_,rfl,rfl,dR (s0 _ _ e2),rfl,o2,_,2,_,rfl,rfl,dR (s0 _ _ e2),rfl,q1,w,b6 p',p'.1,bg p',rfl,hq1,⟨x1,x2,w2⟩,j0 y1,j0 kr1,fun H1 l1 qs1 s1 hl1 cl1 ql1=>jp l1 hl1 ?_⟩;have g1:=lm g0
  show(Xi,∃(v5:bS) (kvs:dA),(ax,Z=zmz,(pY,dd,H1 b=some u,H5 b=some u),H5 dd=some (.dT kvs),kvs.length<=i,(zpJ,c∈(Geo.cells w p'.1.x p'.1.y (bg p') (b6 p')).take i)))
  show(sP,qs1.map V.ref,⟨85,_,[],rfl,fun b u _ e=>e,g1,bo,fun c=>bF valV⟩,(fun _ _ _ _ ⟨_,_,_,z,_⟩=>bb (z _ _ (ne_f hl1 g1) hl1)))
  .rintro i v Z H5 hv (⟨v5,kvs,rfl,k5,hd5,kl,mem⟩:85);ext zeD;show(ae,c,hc,hcq,cl1.get hq7);have hi:=ir hq7;show(dO,hcq5,H5 q7=some (.tup ((qK).map kV)),k5 _ _ (ne_f hcq g1) hcq,l2,xbm kvs qK (.bl true));refine(eD,dd,_,DPut.t (k:=qK) hd5 hcq5 (OF 1000),⟨85,_,putK kvs qK (.bl true),rfl,qh,xl,aa,c8 c'⟩)
   .show(jb,nb,k5 _ _ nb e)
   .rw [xco,ZT,hc,Zw];by_cases e:ck c'=qK
    .have:=xpz e;ext qF;simp
    .have ne:c'≠c:=(aA,e (dF z));rw[ay e,mem c'];simp[ne]
  .rintro Z H5 (⟨v5,kvs,rfl,k5,hd5,kl,mem⟩:85);ext GP; rw[Za,cl1.len,Jh] at mem;show(nM,s5,FG,k5 _ _ (xk e hdd) (s1 _ _ (s0 _ _ e)));show(ae,q2,dg2,hq2,(pd.same s5).get k1.fd);show(oA,x3,x4,y3,y4,k1.xy)
   show(af,kr3,k1.r1,kr4,k1.r2);refine B1 o1 (dP e1) ⟨d,_,rfl,dg2,o1,_,1,_,rfl,rfl,dR (dP e1),rfl,o1,_,2,_,rfl,rfl,dR (dP e1),rfl,q2,w,hX,aN,i6,rfl,hq2,⟨x3,x4,w2⟩,j0 y3,j0 kr3,fun H6 l6 qs6 s6 hl6 cl6 ql6=>jp l6 hl6 ?_⟩;have hd6:=fQ hd5
   let Pv (i:Nat) (Z:L2.St) (H7:Hp):Prop:=∃ v5:bS,(bc,Z,zmz,H6=H7,∀ c∈(cel w p).take i,c∉cel w p')
   show(sP,qs6.map V.ref,iQ _ rfl aj,(zdn,z,_,zaQ hl6))
   .rintro i v Z _ hv (⟨v7,rfl,rfl,no⟩:63);ext GQ; ext zeD;show(ae,c,hc,hcq,cl6.get hq7);refine⟨dd,_,rfl,wD qK hd6 hcq,_,rfl,ite2 lM lM⟩
    .exact (q _ _ Bi (.inr (dY,c,q7,Geo.meet_at hc no ((mem c).mp z),hcq)))
    .show(zph,show aF (cel w p) c from hc);rcases Zw.mp hc' with y|y
     .exact no c' y
     .have:c'=c:=by simpa using y
      ext qF;exact fun y=>z ((mem c').mpr y)
   .ext zqC;rw[Za,cl6.len,(cU,znD,cel w p,rfl),Jh] at no;ext zsj Bi
theorem ltr7 {f:Int}{i k:Nat} (h:k<i) (hi:i<13):ltr ((f+7*iu) % 26)≠ltr zaU:=fun e=>by
 have e':=xu6 (wz).1 (wz).1 e;omega
theorem xg7 {x:Int}{zs:iI}:inV (.int x) (zs.map V.int)=decide (x∈zs):=by
 unfold inV;ext M9
 .ext rh y hy e;ext eG z hz hy;have:z=x:=by simpa [eqV] using e
  exact this▸hz
 .intro h
  show(aJ,Af,BX x h,bF eqV)
theorem xf5 (zs:iI):(zs.map V.int).all xeb=true:=by
 ext zmQ
theorem xby.snoc {w h:Int}{ps:aw} (o:SW) {p:Pt} (k:PtOk w h p) (n1:∀ q∈ps,q.nm≠p.nm) (n2:p.x∉ps.map (·.x)) (n3:p.y∉ps.map (·.y)) (l:ps.length<12):xby w h LQ:=by
 show(lZ,au q hq,?_,?_,?_,aD Zr l)
 .rcases Zw.mp hq with z|z
  .exact o.ok q z
  .ext c9 wK k
 .show(Nr,o.nn);ext eG q hq ha;ext zfF;exact n1 q hq e
 .show(Nr,o.nx);ext zfF;exact n2 (e▸ha)
 .show(Nr,o.ny);ext zfF;exact n3 (e▸ha)
theorem xfd {Z:L2.St}{fr:ij}{te:TE}{l d:Addr}{H:Hp}{Q:VK}{ob:Obj}{kvs:aI}  (zs:ag) (hz:zs.length=kvs.length) (hd:oK) (hl:CK H d qQ l) (hn:kvs.length<1000)
    (hte:∀(i:Nat) (k:Key) (x z:V) (H2:Hp) (R:VK),(bj,kf,aF zs z,G6 d,R z H2,te ((vS).set 0 (some x)) H2 R))
    (fin:∀ H2,(bq,H2 d=some qQ,gK (B0 H2),fF H2 d rQ l (.lst zs),FO)):xdg (Itw d ob kvs) 1 (xcn 0) Z fr xdr te l (dZ d qQ) Q:=by
  have nl:l≠d:=fun z=>by
    rw[z,xl] at hl;cases hl
  show(cC,hl0,iP,ztF,xcu kvs.length (gO xs H2 (hZ,xs,zs.take i,H2 d=some qQ,G6 d,K1)) ?_ ?_ ?_ ?_)
  . refine cI aj ?_ qh xl
    . ext uS nl xl
    . show(cD,mW hl0,oY,e)
  . rintro i xs H2 lt (⟨_,h1,_⟩:43)
    ext aO h1 lt
  . rintro i xs H2 v H3 lt (⟨rfl,h1,k2,hl2⟩:44) ⟨rfl,k,hk⟩ N hN
    refine xoq ?_;show(cC,lz,i<zs.length,aa,hte i k v zs[i] _ _ hk (Zb lz) k2 (xJ,hl2,hN _ _ (cI ?_ ?_ qh xl)))
    . show(aK,Yd,ZI (aa:min i zs.length<1000) ao)
    . rw[ZT,Zb lz]
      rfl
    . ext uS nl h1
    . show(bP,xk e hl0,k2 _ _ nb e)
  . rintro xs H2 (⟨rfl,h1,k2,hl2⟩:44)
    show(dE,⟨h1,bo⟩,fin _ h1 uw ?_)
    . ext jc b d
      . subst c
        rw[xl,<- hd];exact e
      . show(bP,c,k2 _ _ c e)
    . rw[xj nl,hl2,<- hz,Jh]
theorem xvy (m:Int):∃ x:Str,(qC,atI [V.str "both",V.str "both",V.str "left",V.str "right"] (m % 4),lR,x="left"\/x="right"\/x="both"):=by
 obtain⟨h0,h1⟩:=xa9 m (xQ 4);have:m % 4=0\/m % 4=1\/m % 4=2\/m % 4=3:=aa
 rcases this with e|e|e|e<;>rw[e]
 .exact jA "both" Pn
 .exact jA "both" Pn
 .exact jA "left" eZ
 .exact (jA,"right",.inr (.inl rfl))
theorem Lp.keepL {H H':Hp} (s:∀ b xs,(yU b)->(za LV)) {ps:aw}{kvs:aI} (h:jR):R0:=by
 induction h with
 | nil=>ext eI
 | cons h _ ih=>ext zw
noncomputable def Frs (H:Hp) (kvs:aI):Prop:=(kvs.map (·.2)).Nodup/\∀ kv∈kvs,∀ q,kv.2=eC->(bI q)
theorem Frs.snoc {H H6:Hp}{ps:aw}{kvs:aI} (f:Tt) (l:Lp H6 ps kvs) (s:gK H6) {q:Addr} (fq:zfZ) (k:Key):Frs H (Tl k):=by
 have no:∀ kv∈kvs,kv.2≠eC:=fun kv hm e=>by
  obtain⟨i,hi⟩:=List.mem_iff_getElem?.mp hm;obtain⟨p,q',_,_,e2,e3⟩:84:=l.get (k:=iS) (x:=kv.2) hi;ext bA e2 e e;ext cH fq e3
 refine⟨?_,cu kv hk q' e⟩
 .show(Nr,f.1);ext eG kv hk ha;show(oW,List.map_singleton,Zp,hb,no kv hk (e.trans hb))
 .rcases Zw.mp hk with z|z
  .exact f.2 kv z q' e
  .rw [wK] at e;cases e;exact s.free fq
inductive xtu (t:Adr) (vs:ag) (H:Hp) (Q:VK) (_:XK):Prop
 | mk (c:Int) (e_:vs=[.int c,.int 8,.int 20,.int 12,T4]) (r_:∀(H':Hp) (tp a dp do_ d:Addr) (w h:Int) (ps:aw) (kvs:aI),cG->(bj,(Ih tp [aB,b7]),Pic t H' a dp do_ w h ps,zqL,SW,(bj,ps.length<=8,H' d=some (.dK kvs),R0,d≠dp,kM (bI d) (bI do_) (bI dp) Tt (.ref tp))))
theorem ok_as (T:aV):FnOk true P w K mg base aU 5 t.f_as t.d_as U6 (xtu t):=by
 refine T.F_as.okn (k:=4) sc_as (aY E) (fun cdv A outer s H vs Q E hr h=>?_)
 .ext DA c
 .ext D6 c;refine⟨_,xh (pS 5 sc_as.nd (xhk T.k_a (ok_ap T) bi rfl T.g_a T.b_ap .nil xq (iK (Gc (xu xba (pC wX hr T.g_t T.F_t.kp T.b_t BG) (pv 2))) (Gc (xu xba (pC wX hr T.g_t T.F_t.kp T.b_t BG) (pv 3))))))
   (xh (pS 6 sc_as.nd (xd6))
   (xh (pS 7 sc_as.nd (pC wX hr T.g_t T.F_t.kp T.b_t BG))
   (xh (xbf ZB rfl (xj8 rfl T.n_range (xg (xu xba (pC wX hr T.g_t T.F_t.kp T.b_t BG) (zN fw)) (xi))) (pN 8 sc_as.nd) (xh (Xq 9 (pC wX hr T.g_t T.F_t.kp T.b_t zbx))
   (xh (Xq 10 (pC wX hr T.g_t T.F_t.kp T.b_t zbx))
   (xh (pS 11 sc_as.nd (pC wX hr T.g_t T.F_t.kp T.b_t zbx))
   (xh (Xq 12 (uA (pv 11)))
   (xh (pS 13 sc_as.nd (xb0 (sE 9 10 (xg (Sx (xg (xbr) (xg (xbr) zeW)) (oJ (pv 11))) (fZ 12 (xu xa0 (pv 12) (xu xba (uA (pv 11)) (wv 5))))))))
   (xh (Oc (zpq (iK (qi 13) (wv 5))))
   (xh (xbe (xai (PW.pt (CL (xa2 (pv 4)) (iz xlc (oJ (uA (pv 11))) (xo)))) (xh (Oc (xo))
   (xm (Oc (wv 5)))) (x9)))
   (xh (xbe (xai (xa2 (pv 4)) (xm (Oc (xbr))) (x9)))
   (xm (xbe (xai (PW.pt (xe6 (xab xdx (pv 9) (xd9 (xav rfl (xau (zs:=Sf) (ys:=[]) (fr:=[]) (N0:=["_law_cell_here", "_law_most", "_law_wide", "_law_high", "_law_free", "_law_picture", "_law_points", "_law_first", "_law_k", "_law_x", "_law_y", "_law_number", "_law_low", "_law_point", "_law_name"]) (sc0:=xp s_as) aP rfl rfl rfl) (xfm (pv 6)) fj eP eW MS)) fH) (xf1 (xab xdx (pv 10) (xd9 (xav rfl (xau (zs:=Sf) (ys:=[]) (fr:=[]) (N0:=["_law_cell_here", "_law_most", "_law_wide", "_law_high", "_law_free", "_law_picture", "_law_points", "_law_first", "_law_k", "_law_x", "_law_y", "_law_number", "_law_low", "_law_point", "_law_name"]) (sc0:=xp s_as) aP rfl rfl rfl) (xfm (pv 6)) fj eP eW MS)) fH)))) (xh (pS 14 sc_as.nd (xae xrr (xbr) (oJ (xu xa0 sO (Ko 8))) fC))
   (xh (xam (xag kZ T.c_a T.m_b (ok_b T) bi T.b_b .nil xq (xd8 (pv 14) (xd8 (pv 9) (xd8 (pv 10) (xd8 (qi 13) (xd8 (qi 13) (xd8 (qi 13) (xi) rfl) rfl) rfl) rfl) rfl) rfl)))
   (xm (qp me (pv 14) (pv 13))))) (x9)))))))))))))
   (KG (iN 5 6))))),?_⟩
  refine sq5 ?_; intros; show(bN,⟨c,0,rfl,ao,fun m1 a1=>eS (jj 20)⟩,⟨c,1,rfl,ao,fun m2 a2=>eS (jj 12)⟩);show(af,wb,xa9 m1 (xQ 20),hb,xa9 m2 (xQ 12));show(rP,w,ew,∃ w,w=1+m1 % 20)
  show(Du,ph,eh,∃ h,h=1+m2 % 12)
  rw[<- ew,<- eh];have w1:1<=w:=aa
  have w2:j5:=aa
  have h1:1<=ph:=aa
  show(cC,h2,ph<=16,aa,fun a dx hx hdx ne=>oS a dx w ph ⟨46,xl,w1,w2,h1,h2,fun H5 dp do_ hdp5 hdo5 s6 pic5 hdt=>FF⟩)
  refine gn ?_; refine sq4 ?_; intros; show(nM,k5,FG,s6 b u (xk e hx) (qr,mW hx,Lu,e));have up:je (CK (upd H dx (.own a)) a (lY t.C_a []) b) dN:=fun b z=>by
   cases e:H b with
   | none=>rfl
   | some u=>show(zgF,mW hx)
  show(af,fdp,up _ hdp5,fdo,up _ hdo5);refine au l hl5;have fl:=k5.free hl5;have s5l:Same H5 (fe H5 l []):=c7 hl5;have ldp:l≠dp:=fun z=>by
   show(fD,kv,e,pic5.pl)
   rw[<- z,hl5] at e;cases e
  refine⟨c,2,rfl,ao,au f f0⟩;ext xW; show(lZ,c,3,rfl,ao,fun m3 a3=>⟨(jj,8+1),(o3,m3 % 9,rfl,?_,?_,?_)⟩)
  .show(bZ,xa9 m3 (xQ 9))
  .show(bZ,xa9 m3 (xQ 9))
  have nb:=xa9 m3 (xQ 9)
  show(zst,∃(v8 v9 v10 v11 v12 v13 v14:bS) (ps:aw) (kvs:aI),Z=[aX c,aX 8,L5,L4,Md,cV,lP,aX f,v8,v9,v10,v11,v12,v13,v14]/\(ax,gK H6,Pic t H6 a dp do_ w ph ps,H6 do_=some (.dT []),H6 l=some (.dK kvs),(ax,Lp H6 ps kvs,Tt,xby w ph ps,ps.length<=i,zjy i)))
  show(zdk,?_)
  .exact (qG,_,qG [] ⟨66,[],rfl,k5.trans s5l,Pic.same s5l pic5,s5l _ _ hdt,xl,(bO,.nil,⟨JV,jP⟩,⟨fG (nomatch hp),JV,JV,JV,fP⟩,bo,fG (nomatch hp))⟩)
  .rintro i Z H6 hi (⟨v8,v9,v10,v11,⟨v12,v13,v14,ps,kvs,rfl,s7,pic6,hdt6,hl6,lp6,fr6,pok6,ple,pnm⟩⟩:121);refine gn ?_; refine sq9 ?_; intros; show(dO,hi',i<13,aa,ql,lp6.len);obtain⟨dx6,hp6⟩:=pic6.ins;show(bN,(zdi,fun mx mx0=>⟨a,_,_,_,_,rfl,⟨46,hp6,T.c_a,T.n_a8,lkW,(rp 0 w),?_⟩⟩),(zdi,fun my my0=>⟨a,_,_,_,_,rfl,⟨46,hp6,T.c_a,T.n_a5,lkH,(rp 0 ph),?_⟩⟩));show(af,bx,xa9 mx (dS,0<w),bY,xa9 my (dS,0<ph));show(rP,x,ex,∃ x,x=1+mx % w)
   show(Du,y,ey,∃ y,y=1+my % ph)
   rw[<- ex,<- ey];show(bN,(zdi,au nr n0),⟨mz,a,_,_,_,_,rfl,hp6,T.c_a,T.n_a5,lkH,(rp 0 ph),?_⟩);have bl:=xa9 (nr / 16) (dS,0<ph);show(Du,lo,elo,∃ lo,lo=1+nr / 16 % ph)
   rw[<- elo];show(ae,sd,esd,hsd,xvy nr);have bh:=xa9 (nr / 300) (dS,0<ph);show(rP,hi0,ehi,∃ h,h=lo+nr / 300 % ph)
   show(iO,nu leS4,q3,hq3);generalize eu:cF H6 q3 [zgw,zgw,.str "left",.str "right"]=H8;show(qP,s8,hq3,g8,hp8,s8 _ _ hp6);refine⟨(jj 4),q3,_,_,.str sd,rfl,rfl,bb g8,esd,mz,a,_,_,_,_,rfl,hp8,T.c_a,T.n_a5,lkH,(rp 0 ph),(nu leS5),au q hq9⟩
   dsimp only [rI0,iV]
   rw[<- ehi];generalize eu:cF H8 q (BO lo hi0)=H9;ext jh s9 hq9 g9;have s69:Same H6 H9:=s8.trans s9;have hp9:=s69 _ _ hp6;show(ap,fq,zfZ,s8.free hq9,(y8,q,4,bb g9,⟨a,_,_,_,_,rfl,hp9,T.c_a,T.n_a5,lkH,_,_,rfl,q,_,4,4,rfl,rfl,g9,rfl,?_⟩));show(rP,h9,eh9,∃ z:Int,z=(gW ph hi0 ph hi0))
   have keepq:∀(Hz:Hp) (o:HO),Same H6 Hz->Same H6 (upd Hz q o):=fun Hz o s b u e=>by
    show(bP,xk e fq,rS)
   show(dO,g10,Gi H9 q Kz q (.lst Kz),xl,s10,keepq H9 (.lst Kz) s69);rw[(cU,((DN,V.int x,y,sd,lo,hi0).set 4 (V.int (gW ph hi0 ph hi0))),Kz,d7 eh9)];revert g10 s10;generalize cF H9 q Kz=H10;intro g10 s10;have hp10:=s10 _ _ hp6
   show(qM,σ'=[PV,aX 8,L5,L4,Md,cV,lP,aX f,zfS,aX x,aX y,aX nr,aX lo,F3,v14]/\∃ lo2 hi2,(ax,1<=lo2,lo2<=hi2,hi2<=ph,zff q (BO lo2 hi2),Same H6 H'),?_)
   .show(Ah,(bT,iteF ⟨mz,(jj 4),_,rfl,EB cc⟩))
    .ext nW; refine⟨125,q,_,3,3,rfl,rfl,g10,rfl,?_⟩;show(dO,g11,Gi H10 q (BO 1 h9) q (.lst (BO 1 h9)),xl,hp11,keepq H10 (.lst (BO 1 h9)) s10 _ _ hp6);refine⟨a,_,_,_,_,rfl,mT hp11 T.n_a5 lkH ⟨126,q,_,4,4,rfl,rfl,g11,rfl,rfl,⟨85,1,ph,aa,aa,aa,xl,?_⟩⟩⟩;exact keepq _ _ (keepq _ _ s10)
    .exact dC ⟨85,lo,h9,aa,KH eh9,KH eh9,g10,s10⟩
   rintro σ' H11 ⟨rfl,lo2,hi2,q1,q2,q3',g11,s11⟩
   show(qM,σ'=[PV,aX 8,L5,L4,Md,cV,lP,aX f,zfS,aX x,aX y,aX nr,aX lo,F3,v14]/\H11=H',(bT,iteF kL));rintro σ' _ ⟨rfl,rfl⟩;show(Gf,?_);ext qT; show(af,hl11,s11 _ _ hl6,lp11,lp6.same s11);have pass:∀ HB,Same H11 HB->∃ v8 v9 v10 v11 v12 v13 v14' ps kvs,[PV,aX 8,L5,L4,Md,cV,lP,aX f,zfS,aX x,aX y,aX nr,aX lo,F3,v14]=[PV,aX 8,L5,L4,Md,cV,lP,aX f,v8,v9,v10,v11,v12,v13,v14']/\(ax,gK HB,Pic t HB a dp do_ w ph ps,HB do_=some (.dT []),HB l=some (.dK kvs),(ax,Lp HB ps kvs,Tt,xby w ph ps,ps.length<=aM,zjy aM)):=fun HB sB=>by
    have s6B:=s11.trans sB;exact(qG,_,qG ps ⟨66,kvs,rfl,s7.trans s6B,Pic.same s6B pic6,zeZ,s6B _ _ hl6,(bO,lp6.same s6B,fr6,pok6,aa,fG (zbO,k,pnm p hp,aa))⟩)
   refine AR l hl11 lx hlx;refine xfd ((ps.map (·.x)).map V.int) (bF ql) hl11 hlx aa (fun i k v z H2 R h1 h2 k2 r=>?_) (fun H2 e2 sA elA=>⟨103,l,ob,_,e2,nf,?_⟩)
   .obtain ⟨p,o,e1,e2,rfl,e3⟩:84:=lp11.get h1;ext MY l hl11 znW
   show(zjC,fe H2 l kvs,bT ?_);refine ite2 (c8 cx) (c8 cx)
   .rw [bW,xg7] at cx;have nx:x∉ps.map (·.x):=by simpa using cx
    show(af,hlA,sA _ _ hl11,lpA,lp11.same sA);refine AR l hlA ly hly;refine xfd ((ps.map (·.y)).map V.int) (bF ql) hlA hly aa (fun i k v z H2 R h1 h2 k2 r=>?_) (fun H2 e2 sB elB=>⟨103,l,ob,_,e2,nf,?_⟩)
    .obtain ⟨p,o,e1,e2,rfl,e3⟩:84:=lpA.get h1;ext MY l hlA znO
    show(zjD,fe H2 l kvs,bT ?_);refine ite2 (c8 cy) (c8 cy)
    .ext Id; rw[bW,xg7] at cy;have ny:y∉ps.map (·.y):=by simpa using cy
     have sAB:=sA.trans sB;show(af,s6B,s11.trans sAB,picB,Pic.same s6B pic6);obtain⟨dxB,hpB⟩:=picB.ins;have gB:=sAB _ _ g11;show(rP,nm,enm,∃ nm,nm=ltr zaU)
     show(ap,isn,zC,zpQ,⟨Mh,(jj 26),abc,_,_,rfl,rfl,aP,xn2 (wz).1 (wz).2,?_⟩);rw[zmE zaU];have nn:∀ q∈ps,q.nm≠nm:=fun q hq=>by
      show(ae,k,hk,e,pnm q hq);rw[e,enm];exact ltr7 hk hi'
     show(ap,len,ps.length<12,aa,⟨a,dxB,_,rfl,hpB,bM,q,_,2,_,rfl,rfl,bb gB,rfl,q,_,3,_,rfl,rfl,bb gB,rfl,q,_,4,_,rfl,rfl,bb gB,rfl,?_⟩);refine⟨a,dp,do_,w,ph,ps,nm,x,y,sd,lo2,hi2,qx,rfl,⟨47,picB,Fq,isn,aa,aa,aa,⟨47,aa,hsd,aa,aa,aa,fG ⟨nn p hp,fun e=>nx (e▸Ch),fun e=>ny (e▸Ch)⟩,⟨len,aL HC kC picC⟩⟩⟩⟩;show(fD,kv0,hk,picB.pl)
     show(nM,ndp,(sG,iJ,b≠dp),xk e fdp);show(af,hlC,kC _ _ ldp (s6B _ _ hl6),gC,kC _ _ (ne_f gB hk) gB);show(ap,lpC,Lp HC ps kvs,Lp.keepL (jz,kC _ _ (dQ hk) e) (lp6.same s6B),(lN,l,wE oH hlC (OF 13)));rw[xcp _ (lpC.no nn)];have bt:(rG,l,HC b=some u,HC,.dK LP):=fun b u nb e=>by
      ext bP nb e
     have tL:Tups HC (fe HC l LP):=(jz,bt _ _ (dQ hlC) e);have tl2:∀ b xs,HC b=some LV->(fF HC l (.dK LP) b LV):=PL hlC;have picL:Pic t (fe HC l LP) a dp do_ w ph (ps++[Ke lo2 hi2]) :=
      ⟨let ⟨d,e⟩:=picC.ins; ⟨d,Bu hlC⟩,let ⟨k,e,q⟩:=picC.pl; (zeI,bt _ _ (Z2 ldp) e),picC.w1,picC.w2,picC.h1,picC.h2,picC.len⟩
     refine qG _ (qG,ps++[Ke lo2 hi2],⟨66,LP,rfl,(kU,bt _ _ (xk e fl) (kC _ _ (ndp _ _ e) (s6B _ _ (s7 _ _ e)))),picL,?_,xl,(bO,?_,fr6.snoc lp6 s7 fq _,?_,?_,?_)⟩)
     .have e:=kC _ _ (ne_f zeZ hk) zeZ;exact Bu hlC
     .exact Lp.snoc (p:=Ke lo2 hi2) (Lp.keepL tl2 lpC) (tl2 _ _ gC)
     .exact xby.snoc pok6 ⟨isn,(EO,1<=x),pU x w,(EO,1<=y),pU y ph,hsd,(EO,1<=lo2),pU lo2 hi2,pU hi2 ph⟩ nn nx ny len
     .show(Ic,ps.length,aM)
     .intro p hp
      rcases Zw.mp hp with z|z
      .show(dL,k,h1,h2,pnm p z);ext aJ k aa h2
      .rw [wK];show(aJ,i,aa,(bJ,Int.zero_add dD,enm))
    .exact pass HB (sA.trans sB)
   .exact pass HA sA
  .rintro Z H6 (⟨v8,v9,v10,v11,⟨v12,v13,v14,ps,kvs,rfl,s7,pic6,hdt6,hl6,lp6,fr6,pok6,ple,pnm⟩⟩:121);ext iO f7 tp htp;show(lW,s8,Same H6 (ez H6 tp [aB,bH]),c7 htp,h _ tp a dp do_ l w ph ps kvs (s7.trans s8) xl (Pic.same s8 pic6) (s8 _ _ hdt6) pok6 aa (s8 _ _ hl6) (lp6.same s8) ldp fl fdo fdp fr6)
noncomputable def Bef (i j:Nat) (s:Seat):Prop:=(EC s.1 0)<i\/((EC s.1 0)=i/\s.2<=j)
inductive xsu (t:Adr) (vs:ag) (H:Hp) (Q:VK) (_:XK):Prop
 | mk (a dp do_:Addr) (pw ph c:Int) (ps:aw) (e_:vs=[aB,.int c]) (r_:Pic t H a dp do_ pw ph ps/\(aE do_ (.dT []))/\∀(H':Hp) (l:Addr) (ss:av) (rs:az),(bq,sQ do_,iP,Pic t H' a dp do_ pw ph ps,(zku,Sts H' do_ ss,SsOk ph ss,ss)))
theorem xuu {a b:Int} (x y:Int) (k:Int) (h0:0<=k) (h1:k<4):∃ z:Int,atI [V.int a,V.int b,V.int x,V.int y] k=some (.int z):=by
 have:k=0\/k=1\/k=2\/k=3:=aa
 rcases this with e|e|e|e<;>rw[e]
 .exact fc a
 .exact fc b
 .exact fc x
 .exact fc y
theorem ok_at (T:aV):FnOk true P w K mg base aU 6 t.f_at t.d_at V2 (xsu t):=by
 refine T.F_at.okn (k:=5) sc_at (aY E) (fun cdv A outer s H vs Q E hr h=>?_)
 .obtain ⟨a,dp,do_,pw,ph,c,ps,rfl,_⟩:=h;rfl
 .obtain ⟨a,dp,do_,pw,ph,c,ps,rfl,h⟩:=h;refine⟨_,xh (pS 2 sc_at.nd (xb0 (xi)))
   (xh (xbf ZB rfl (xe4 rfl T.n_enumerate (xg (xb0 zeW) (xi))) (xbc rfl (iX 3 sc_at.nd 4)) (xh (pS 5 sc_at.nd (pC wX hr T.g_t T.F_t.kp T.b_t (iN 1 3)))
   (xh (pS 6 sc_at.nd (Sx (xg (oJ (uA kZ)) (xg (oJ (uA kZ)) (oZ (xo)))) (xac (xrv rfl) rfl T.n_max boot_max (oZ (xu xdd (oJ kZ) (xo))))))
   (xm (xbf ZB rfl (xjs rfl T.n_range (oZ (zN bB))) (pN 7 sc_at.nd) (xm (xai (iz xc2 (xu xvv (xu xrk me (xu xdd sO (xo))) (xo)) (xo)) (xh (xam (xag bz T.c_a T.m_k (ok_k T) bi T.b_k .nil xq (iN 4 7)))
   (qE (xdw Jj JA J9 xcb iR (xg (xaq (iN 4 7)) (xi))))) (x9))))))))
   (wc 2)),?_⟩
  refine sq3 ?_; intros; ext gX pic hdt q h;obtain⟨⟨dx,hp⟩,_,w1,w2,h1,h2,_⟩:=xA;ext iO Xx l hl;ext xW; show(ap,sl,gK zgf,c7 hl,⟨f7,au e0 he0⟩);have se:Same zgf (cF zgf e0 GS):=c7 he0;show(ap,nle,l≠e0,xk xl he0,(lN,e0,bb xl));have Q0:=fun (b:Addr) (u:HO) (nb:b≠do_) (e:iJ)=>e
  show(zst,∃(v3 v4 v5 v6 v7:bS) (ss:av) (rs:az),Z=[cV,aX c,lP,v3,v4,v5,v6,v7]/\(ax,(pY,do_,iJ,H6 b=some u),H6 e0=some (.lst GS),Pic t H6 a dp do_ pw ph ps,Sts H6 do_ ss,(ax,SsOk ph ss,ss.length<=i*16,(∀ s∈ss,Bef i 0 s),H6 l=some (.lst (rs.map V.ref)),xak H6 ss rs)))
  show(zbJ,GS,?_,?_)
  .refine qG _ ⟨106,_,[],[],rfl,fun b u _ e=>se _ _ (sl _ _ e),xl,Pic.same se (Pic.same sl pic),(o3,[],se _ _ (sl _ _ hdt),rfl,JV,fP),(bO,⟨JV,fP,mU (nomatch hs)⟩,fP,mU (nomatch hs),se _ _ xl,.nil)⟩
  .rintro i Z H6 hi (⟨v3,v4,v5,v6,⟨v7,ss,rs,rfl,k6,he6,_⟩⟩:121);ext xB he6
  .rintro i x p Z H6 hx hp6 (⟨v3,v4,v5,v6,⟨v7,ss,rs,rfl,k6,he6,pic6,st6,sok6,sle,sbef,hl6,sts6⟩⟩:121);have hi:i<2:=by
    have:=ir hx;ext lA
   obtain⟨sb,esb,isb⟩:∃ sb:Bool,x=wJ/\(EC sb 0)=i:=by
    have:i=0\/i=1:=aa
    rcases this with e|e<;>subst e
    .exact dk true zcy
    .exact dk false zcy
   subst esb;generalize eu:ez H6 p [cO,wJ]=H7;show(xC,s7,hp6,g7,fW p g7);ext Id; show(bN,⟨c,_,rfl,aa,au nr n0⟩,⟨46,mz,(jj 65536),mz,(jj 65536),(nu leS4),au q4 hq4⟩)
   dsimp only
   generalize eu:cF H7 q4 [.int O0,.int O0,.int 65535,.int 0]=H8;show(qP,s8,hq4,g8,mb,xa9 nr (xQ 8));have ixb:0<=znY/\znY<4:=by
    ext iG
   obtain⟨bits,ebits⟩:=xuu (a:=O0) (b:=O0) 65535 0 _ ixb.1 ixb.2;show(dE,jj 8,bK _ _ rfl ⟨q4,_,_,.int bits,rfl,rfl,bb g8,ebits,?_⟩);ext zti; have s68:Same H6 H8:=s7.trans s8;have pic8:=Pic.same s68 pic6;obtain⟨dx8,hp8⟩:=pic8.ins;refine⟨a,_,_,_,_,rfl,mT hp8 T.n_a5 lkH (eD,1,ph+1,cI ao ao aa aa,?_)⟩
   show(zss,∃(v7:bS) (s9:av) (rs9:az),Z=[cV,aX c,lP,aX i,some wJ,aX nr,aX bits,v7]/\(ax,(pY,do_,iJ,H9 b=some u),H9 e0=some (.lst GS),Pic t H9 a dp do_ pw ph ps,Sts H9 do_ s9,(ax,SsOk ph s9,s9.length<=i*16+j,(∀ s∈s9,Bef i j s),H9 l=some (.lst (rs9.map V.ref)),xak H9 s9 rs9)))
   show(zdk,?_)
   .exact ⟨106,_,ss,rs,rfl,(ud,u,s68 _ _ (k6 b u nb e)),s68 _ _ he6,pic8,st6.same s68,(bO,sok6,aa,sbef,s68 _ _ hl6,sts6.keep (Same.tups s68))⟩
   .rintro j Z H9 hj (⟨v7,s9,rs9,rfl,k9,he9,pic9,st9,⟨sok9,sle9,sbef9,hl9,sts9⟩⟩:106);ext GQ; have hj':m6<ph:=aa
    obtain⟨dx9,hp9⟩:=pic9.ins;show(lZ,(pU,uO,1+m6-1),rfl,_,rfl,EB cb)
    .ext nW; have nin:(sb,1+m6)∉s9:=fun hm=>by
      rcases sbef9 _ hm with z|⟨_,z⟩
      .dsimp only at z
       omega
      .dsimp only at z
       omega
     refine⟨a,dx9,_,rfl,hp9,bM,?_⟩;refine⟨a,dp,do_,pw,ph,ps,s9,sb,1+m6,rfl,⟨47,pic9,st9,aa,aa,nin,aa,cu HA kA picA stA⟩⟩;ext mf kvs hk st9;have hlA:=kA _ _ (ne_f hl9 hk) hl9;show(cR,qX hlA,f7,au r hr9)
     dsimp only
     generalize eu:jw HA r wJ (1+m6)=HB;ext jh sB hr9 gB;show(af,hlB,sB _ _ hlA,rl9,sts9.len);ext OW l hlB
     .show(SO,aa,rs9.length,33)
     have bt:(rG,l,HB b=some u,HB,.lst (rs9.map V.ref++[.ref r])):=fun b u nb e=>by
      ext bP nb e
     have tA:Tups H9 HA:=(jz,kA _ _ (dQ hk) e);show(ap,tL,Tups HB (cF HB l (rs9.map V.ref++[.ref r])),PL hlB,⟨106,_,s9++[(sb,1+m6)],rs9++[r],rfl,(ud,u,bt _ _ (xk e hl) (sB _ _ (kA _ _ nb (k9 b u nb e)))),?_,?_,?_,bO ?_ ?_ ?_ ?_ ?_⟩)
     .refine bt _ _ (Z2 nle) (sB _ _ (kA _ _ (ne_f he9 hk) he9))
     .have picB:=Pic.same sB picA;exact⟨let ⟨d,e⟩:=picB.ins; ⟨d,Bu hlB⟩,let ⟨k,e,q⟩:=picB.pl; (zeI,Bu hlB),picB.w1,picB.w2,picB.h1,picB.h2,picB.len⟩
     .show(dL,k2,e2,r2,stA.same sB);show(aJ,k2,bt _ _ (ne_f e2 hlB) e2,r2)
     .obtain ⟨nd,le,rw9⟩:43:=sok9;show(cR,?_,?_,E6)
      .show(X1,nd,nin (Cs,Uz,e,e▸hx))
      .show(Ic,s9.length,32)
      .rcases Zw.mp hs with z|z
       .exact rw9 s z
       .rw [wK];show(aO,(EO,1<=1+m6),(pU,1+m6,ph))
     .show(Ic,s9.length,i*16+eE)
     .intro s hs
      rcases Zw.mp hs with z|z
      .rcases sbef9 s z with y|⟨y1,y2⟩
       .ext cY y
       .show(fh,j0 y1)
      .rw [wK];show(oI,isb,(pU,1+m6,dW eE))
     .rw [xl,Zq];rfl
     .exact xak.snoc (sts9.keep (jz,tL _ _ (sB _ _ (tA _ _ e)))) (tL _ _ gB)
    .refine ⟨106,_,s9,rs9,rfl,k9,he9,pic9,st9,zqE⟩;rcases sbef9 s hs with y|⟨y1,y2⟩
     .ext cY y
     .show(fh,j0 y1)
   .rintro Z H9 (⟨v7,s9,rs9,rfl,k9,he9,pic9,st9,⟨sok9,sle9,sbef9,hl9,sts9⟩⟩:106);refine qG _ ⟨106,_,s9,rs9,rfl,k9,he9,pic9,st9,zqE⟩;rcases sbef9 s hs with y|⟨y1,y2⟩
    .ext cY aa
    .ext cY aa
  .rintro Z H6 (⟨v3,v4,v5,v6,⟨v7,ss,rs,rfl,k6,he6,pic6,st6,sok6,sle,sbef,hl6,sts6⟩⟩:121);exact (q H6 l ss rs k6 hl pic6 st6 sok6 hl6 sts6)
noncomputable def exP (p1 p2 p:Pr):Pr:=(aN,(kE,cp,jt,p2.2,kE cp ju p1.2 dG))
theorem xoo {p1 p2:Pr}{A:bn} (h:∀ p∈A,cp≠jt/\cp≠ju):A.map (exP p1 p2)=A:=by
 induction A with
 | nil=>rfl
 | cons p A ih =>
  rw[Zo,ih fun p' hp=>h p' (Zi _ hp)]
  congr 1
  show(zI,b,h p Zm);unfold exP;rw[if_neg a,ay b]
theorem xrf {prs A B C:bn}{p1 p2:Pr} (nd:(prs.map (·.1.nm)).Nodup) (e:prs=ztn):prs.map (exP p1 p2)=zlv/\jt≠ju:=by
 ext dw;rw[Zq,ZL] at nd;obtain⟨_,n2,n3⟩:43:=nd;rw[Zo,Z8,Zq,Zo,ZL] at n2;obtain⟨m1,_,m3,m4⟩:44:=n2;rw[Z8] at m3;show(ap,ne,jt≠ju,(aA,m1 (mG z)),⟨?_,ne⟩);rw[Zq,Zo,Zq,Zo];rw[xoo (A:=A),xoo (A:=B),xoo (A:=C)]
 .unfold exP;rw[bW,if_neg (Z2 ne),bW]
 .intro p hp
  show(dE,(aA,m1 ?_),(aA,m3.1 ?_))
  .rw [<- z];exact Z1 _ (Zi _ Ch)
  .rw [<- z];exact Zg.mpr E3
 .intro p hp
  show(dE,(aA,m1 ?_),(aA,m4 _ Ch _ Zm z));show(m8,z,ZF _ Ch)
 .intro p hp
  ext dE zuF zuF
theorem xjk {w:Int}{ss:av}{tr:Tr}:∀{prs:bn},tr∈AZ->(zjw,tr=(jt,ju,c))
 | [],h=>eO
 | o7,h=>by
  rcases Zw.mp h with z|z
  .show(dL,p',hp',e,Jl.mp z);show(ae,c,hc,e2,Zh.mp e);show(Cn,B,C,e3,List.append_of_mem hp');exact gu [] p B p' (bv,C,c,d7 e3,hc,e2.symm)
  .obtain ⟨A,p1,B,p2,⟨C,c,e,h1,h2⟩⟩:121:=xjk z;exact(gu,p::A,p1,B,p2,bv C c zX h1 h2)
inductive Sd (H:Hp):bX bn aI
 | nil:Sd H [] []
 | cons {p:Pr}{t:Addr}{ps:bn}{kvs:aI} (h:qU t dG) (r:Eu):Sd H (p::ps) ((.inr cp,uF)::kvs)
theorem Sd.keep {H H':Hp} (s:lH) {ps:bn}{kvs:aI} (h:Eu):Sd H' ps kvs:=by
 induction h with
 | nil=>ext eI
 | cons h _ ih=>ext zw
theorem Sd.len {H:Hp}{ps:bn}{kvs:aI} (h:Eu):zdb:=by
 induction h with
 | nil=>rfl
 | cons _ _ ih=>simp[ih]
theorem Sd.keys {H:Hp}{ps:bn}{kvs:aI} (h:Eu):kvs.map (·.1)=ps.map (fun p=>ZW cp):=by
 induction h with
 | nil=>rfl
 | cons _ _ ih=>simp[ih]
theorem Sd.get {H:Hp}{ps:bn}{kvs:aI} (h:Eu) {i:Nat}{k:Key}{x:V} (e:kf):(zfD,k=.inr cp):=by
 induction h generalizing i with
 | nil=>ext nH
 | @cons p q ps kvs h _ ih =>
  cases i with
  | zero =>
   simp at e;show(qJ,p,e.1.symm)
  | succ j=>ext uC
theorem Sd.find {H:Hp}{ps:bn}{kvs:aI} (h:Eu) (nd:(ps.map (·.1.nm)).Nodup) {p:Pr} (m:zV):∃ t,qC (zgP cp) uF (qU t dG):=by
 induction h with
 | nil=>cases m
 | @cons p' t ps kvs h _ ih =>
  ext zd;rcases dI m with rfl|z
  .exact ⟨t,xbh rfl,h⟩
  .show(dL,t',h1,h2,ih jI z);show(cR,t',?_,h2);show(aK,xa6 (fun e=>nd.1 (Zg.mpr ⟨p,z,(ZW.inj e).symm⟩)),h1)
theorem xlw {k:Key}:∀{kvs:aI},k∉kvs.map (·.1)->lE=none
 | [],_=>rfl
 | kv::r,h=>by
  ext zI b kv;rw[xa6 (fun e=>h (bJ e Zm))];exact xlw (aA,h (Zi _ z))
theorem xke {d:Addr}{H:Hp}:∀{kvs kv0:aI},((kv0++kvs).map (·.1)).Nodup->(kv0++kvs).length<1000->xej d (fe H d kv0) WN (fe H d (kv0++kvs))
 | [],kv0,_,_=>by
  show(aK,Qe,.nil)
 | kv::kvs,kv0,nd,hl=>by
  have fr:valV kv0 iS=none:=xlw fun z=>by
   show(oW,Zq,ZL,nd,(jI).2 _ z _ Zm rfl)
  have hp:=DPut.k (k:=iS) (v:=kv.2) (xl (H:=H) (a:=d) (o:=.dK kv0)) (ZI (by rw[Zr] at hl; omega:kv0.length<1000) ao);rw[xdo,xcp _ fr] at hp;show(jZ,ih,xke (d:=d) (H:=H) (kvs:=kvs) (kv0:=kv0++[kv]) (aD YO nd) (aD YO hl),YO);ext xT hp ih
theorem xtt {H:Hp}:∀{prs:bn}{ys:ag},(r6 prs.length)->(∀(i:Nat) (y:V) (p:Pr),(aF ys y)->(aF prs p)->∃ q t,zlw) ->
    ∃(ws:Ed) (kvs:aI),ys=zqJ/\(∀ p∈ws,(gZ aN [i6,hX]))/\ws.map (·.2)=WN/\Sd H prs kvs
  | [],[],_,_=>⟨84,[],[],rfl,fun p h=>(nomatch h),rfl,.nil⟩
  | [],b5,h,_=>eO
  | b5,[],h,_=>eO
  | p::prs,nD,hl,h=>by
    obtain⟨q,t,e1,e2,e3⟩:83:=h 0 y p rfl rfl;obtain⟨ws,kvs,a1,a2,a3,a4⟩:84:=xtt (prs:=prs) (ys:=ys) (Nat.succ.inj hl) fun i y' p' hy hp=>h aM y' p' hy hp
    refine⟨84,(q,FI,uF)::ws,(.inr cp,uF)::kvs,kN e1 a1,au p' hp',by rw[Zo,Zo,a3]; rfl,d4 e3 a4⟩;rcases dI hp' with rfl|z
    . exact e2
    . exact a2 _ z
theorem PrsL.pick {H:Hp}:(zlf,bn,(∀(j:Nat) (y:V) (s:Pr),zqi (HQ s)),PrsL H ss rs)
 | [],[],_,_=>jA [] .nil
 | [],b5,h,_=>eO
 | b5,[],h,_=>eO
 | s::ss,nD,hl,h=>by
  show(zR,q,h 0 y s rfl rfl);show(ae,rs,e3,e4,PrsL.pick (ss:=ss) (ys:=ys) (Nat.succ.inj hl) fun j y' s' hy hs=>h eE y' s' hy hs)
  show(aJ,q::rs,kN e1 e3,d4 e2 e4)
noncomputable def xk9 (kvs:aI) (i:Nat):V:=match kvs[i]? with|some kv=>kV iS|none=>.non
theorem xqr {Z:L2.St}{fr:ij}{te:TE}{l d:Addr}{H1:Hp}{Q:VK}{ob:Obj}{kvs:aI} (hd:zcr) (hl:pV) (hn:AQ) (F:LX) (stab:Gv)
    (step:(VO,∀(N:uM),(∀ y H',zf->UU->N y H')->te ((vS).set 0 (some vd)) H2 N))
    (fin:Dp (r6 kvs.length) (NU Lj)):xdg Iw 1 (xcn 0) Z fr xdr te l H1 Q:=by
  refine xi7 kvs.length hn hl (xk9 kvs) zqu (fun i H v H' lt s y=>?_) ztr SJ F stab (fun i H2 lt s N M h1 h2=>?_) (fun ys H2 s e ly f=>?_)
  . obtain⟨e,k,x,hk,hv⟩:=y
    show(dE,e,?_);unfold xk9;rw[hk,hv]
  . obtain⟨⟨k,x⟩,hk⟩:∃ y,aF kvs y:=gF iw
    have ek:xk9 kvs i=vd:=by
      unfold xk9;rw[hk]
    show(aK,ek,xh9 (i:=i) (step i k x H2 hk s N zny))
  . rw[L2.filter_all,ZX] at ly
    refine fin ys H2 s e ly zrm;rw[L2.filter_all,Yp (gg,ir hy)]
inductive xxs (K:Zf) (vs:ag) (H:Hp) (Q:VK) (_:XK):Prop
 | mk (l:Addr) (prs:bn) (qs:az) (p1 p2:Pr) (e_:vs=[bH,.str jt,.str ju]) (r_:(Dk l)/\Eh/\(prs.map (·.1.nm)).Nodup/\(ax,zdS,p1∈prs,p2∈prs,jt≠ju,∀ H' l' qs',(kM,cG,bI l',H' l'=some (.lst (qs'.map V.ref)),PrsL H' Hj qs',.ref l')))
theorem xmc (T:aV):FnOk true P w K mg base aU 1 t.f_exchanged t.d_exchanged Xp (xxs K):=by
 refine T.F_exchanged.okn (k:=0) xet (aY E) (fun cdv A outer s H vs Q E hr h=>?_)
 .obtain ⟨l,prs,qs,p1,p2,rfl,_⟩:=h;rfl
 .obtain ⟨l,prs,qs,p1,p2,rfl,h⟩:=h;refine⟨_,xh (AG 3 xet.nd (Gr (xav rfl (xau (zs:=["each", "side", "row"]) (ys:=[]) (fr:=[]) (N0:=Vw) (sc0:=xp xdc) aP rfl rfl rfl) (kT 0) ziA (xer (xbk ao Ds)) eW (vz (eT 0 (xg (xaq zt) (xi)))))))
   (xh (AG 4 xet.nd (xt9 (xl6 fw iR (xl6 iR fw (xuq))) rfl rfl aj ao))
   (d8 (xav rfl (xau (zs:=["each"]) (ys:=["seats", "giver"]) (fr:=[3,4]) (N0:=Vw) (sc0:=xp xdc) aP rfl rfl rfl) (xtz (pv 3)) fj eP eW (VT (rg 1 (xr2 eR iR bz bz HF)))))),?_⟩
  refine sq3 ?_; intros; obtain⟨hl,pr,nd,len,m1,m2,⟨ne,q⟩⟩:47:=h;have ql:=pr.len;show(nX,l,hl,l1,hl1,xbp (bb hl) zoS hl1 (CO,∃ p q t,(aF prs p)/\zlw) (fun i y H H' tp ⟨p,q,t,a1,a2,a3,a4⟩=>⟨104,p,q,t,a1,a2,pi a3,pi a4⟩) (fun i x H2 hx s2 N hN=>?_) (fun ys H1 s1 el1 ly f1=>?_))
  .rw [Zd] at hx;ext tP o ho hx;show(ae,p,hpp,ep,(zdr s2).get ho);show(bN,fW o ep,⟨f7,fun q1 hq1=>⟨f7,au q2 hq2⟩⟩);show(af,sa,IG [uq i6,.int hX] hq1,sb,IG (Mi cp q1) hq2);exact hN _ _ (sa.trans sb) ⟨104,p,q2,q1,hpp,rfl,xl,sb _ _ xl⟩
  rw[Za,ql] at ly;obtain⟨ws,kvs,rfl,w2,w3,sd1⟩:84:=xtt (H:=H1) (prs:=prs) (ys:=ys) ly fun i y p hy hp=>by
   obtain⟨p',q',t',a1,a2,a3,a4⟩:104:=f1 i y hy;ext bA hp a1 a1;exact bv q' t' a2 a3 a4
  have kl:=sd1.len;have knd:(kvs.map (·.1)).Nodup:=by
   show(aK,sd1.keys,xu7 (f:=fun p:Pr=>cp) (k:=ZW) p5 (fun _ _ e=>ZW.inj e) nd)
  show(bN,(xP,l1,ws,el1,w2,au d hd),bv Cz _ eZ (aD,w3,xke (kv0:=[]) knd iD) ?_);rw[List.nil_append];generalize eu:B0 H1=H2;show(qP,s2,hd,g2,sd2,sd1.keep (Same.tups s2));refine fun gd hgd=>⟨xl,iQ X2 (by show 2<=15; decide) ?_⟩
  rw[xdo];generalize eu:fe H2 gd (xew [] X2)=H3;ext jh s3 hgd g3;show(af,g23,jK g2,sd3,sd2.keep (Same.tups s3));show(CP,ngd,gd,d,qW g2 hgd,(eD,d,kvs,g23,aL ob l4 hl4));show(nA,nl4,l4,d,qW xl hl4)
  have hl43:H3 l4=none:=by rwa [xj nl4] at hl4
  show(uX,k4,(rG,d,H3 b=some u,H3,qQ),TF)
  show(cC,t4,Tups H3 (upd H3 d qQ),zeb g23,xqr xl hl4 (OF 13) (CO,∃ p q,(aF prs p)/\y=eC/\(HQ IT)) (fun i y H H' tp ⟨p,q,a1,a2,a3⟩=>(bv,p,q,a1,a2,pi a3)) (fun i k x H5 hk s5 N hN=>?_) (fun ys H5 s5 el5 ly5 f5=>?_))
  .show(dL,p,hpp,rfl,sd3.get hk);show(af,mp,Zn hpp,sd5,(sd3.keep t4).keep (Same.tups s5));show(af,gd5,dP (k4 _ _ ngd g3),d5,dP (xl (H:=H3) (a:=d) (o:=qQ)));ext EV q1 hq1;have s6:=IG [FI] hq1;obtain⟨r,hr,ev,es⟩:∃ r∈prs,(valV (xew [] X2) (ZW cp)).getD FI=V.str r.1.nm/\(IT).2=r.2:=by
    show ∃ r∈prs,(valV (putK (putK [] (ZW jt) (V.str ju)) (ZW ju) (V.str jt)) (ZW cp)).getD FI=V.str r.1.nm/\(IT).2=r.2;rw[xco,xco];unfold exP;by_cases c1:cp=jt
    .refine (ba,p2,m2,?_,aC c1);rw[if_neg (fun z=>ne (c1.symm.trans (ZW.inj z))),aC (dF c1)];rfl
    .by_cases c2:cp=ju
     .refine ba p1 m1 ?_ (cA,ay c1,aC c2);rw[aC (dF c2)];rfl
     .refine ba p mp ?_ (cA,ay c1,L8);rw[(mq,c2 (ZW.inj z)),(mq,c1 (ZW.inj z))];rfl
   show(ae,t,ht1,ht2,(sd5.keep (Same.tups s6)).find nd hr);refine zfH gd (fQ gd5) ⟨_,(kI,.inr cp,fQ gd5),d,uF,rfl,?_,q1,t,_,_,rfl,rfl,dR xl,dR ht2,aj,TR,aA (by simp[xa5] at z),fun _ q2 hq2=>?_⟩
   .rw [show kV (ZW cp)=V.str cp from rfl,ev];show(cY,(dY,kvs,.inr r.1.nm,.inr ⟨ob,fQ d5⟩,ht1.symm))
   .refine hN _ _ (s6.trans (c7 hq2)) (dY p q2 hpp ?_);rw[xl];unfold prV;rw[(cU,(IT).1,aN,rfl),(cU,(IT).2,r.2,es)];rfl
  .obtain ⟨rs5,rfl,pr5⟩:62:=PrsL.pick (H:=H5) (ss:=Hj) (ys:=ys) (by rw[ly5,kl,Za]) fun j y s hy hs=>by
    obtain⟨p,q',a1,a2,a3⟩:83:=f5 j y hy;rw[Zd,a1] at hs;cases hs;ext aJ q' a2 a3
   have s03:=(oh).trans s3;refine q H5 l4 rs5 (kU,dP (k4 _ _ (xk wy hd) (s03 _ _ e))) (s03.free hl43) el5 pr5
noncomputable def totI (w:Int) (prs:bn):Int:=(prs.map (xbd w)).sum
noncomputable def upI (w:Int) (prs:bn):Int:=(prs.map (uprI w)).sum
noncomputable def nmF (n:Str) (p:Pr):Bool:=d9 cp n
noncomputable def nxtP (w:Int) (ss:av) (prs:bn):bn:=match (AZ).head? with
 | some tr=>match Sr tr.1,Sr (bg tr) with
  | some p1,some p2=>Hj
  | _,_=>prs
 | none=>prs
noncomputable def itP (w:Int) (ss:av) (prs:bn):Nat->bn
 | 0=>prs
 | cL=>A8
noncomputable def trP (w:Int) (ss:av) (prs:bn):Tr:=((AZ).head?).getD ("", "",0,0)
noncomputable def stP (w:Int) (ss:av) (prs:bn) (k:Nat):Tr × jT:=(trP w ss tw,totI w (itP w ss prs cL),upI w (itP w ss prs cL))
structure GPr (ps:aw) (w h:Int) (prs:bn):Prop where
 ok:∀ p∈prs,AY
 nn:(prs.map (·.1.nm)).Nodup
 ns:(prs.map (·.2)).Nodup
 le:zdS
theorem xhb {prs:bn} (nd:(prs.map (·.1.nm)).Nodup) {p:Pr} (h:p∈prs):prs.find? (nmF cp)=some p:=by
 induction prs with
 | nil=>cases h
 | cons q ps ih =>
  ext zd;rcases Zu.mp h with rfl|z
  .exact JZ (bF nmF)
  .rw [Qp]
   .exact ih jI z
   .intro e
    exact nd.1 (Zg.mpr ⟨p,z,(of_decide_eq_true e).symm⟩)
theorem x_ne {ps:aw} (nx:(ps.map (·.x)).Nodup):∀{p q:Pt},(bq,zV,q∈ps,p.nm≠q.nm,p.x≠q.x):=by
 induction ps with
 | nil=>intro p q h; cases h
 | cons r ps ih =>
  intro p q hp hq hn e;rw[Zo,Z8] at nx;rcases LW with rfl|z
  .rcases dI hq with rfl|z2
   .exact hn rfl
   .exact nx.1 (Zg.mpr ⟨q,z2,e.symm⟩)
  .rcases dI hq with rfl|z2
   .exact nx.1 (Zg.mpr ⟨p,z,e⟩)
   .exact ih nx.2 z z2 hn e
theorem xu2 {ps:aw}{w h:Int}{p:Pr} (o:AY) (hw:j5) (hh:lT):(qI,xbd w p,45):=by
 obtain⟨_,_,r1,r2,x1,x2,y1,y2⟩:=o;unfold xbd lenI;ext PJ
theorem xxc {ps:aw}{w h:Int}{p:Pr} (o:AY) (hw:j5) (hh:lT):qI UG 450:=by
 obtain⟨_,_,r1,r2,x1,x2,y1,y2⟩:=o;have a0:qI UH 30:=Ob
 have b0:qI MX 15:=K3
 unfold uprI;show(dE,Int.mul_nonneg a0.1 b0.1,?_);show(CH,Int.mul_le_mul_of_nonneg_right a0.2 b0.1,Int.mul_le_mul_of_nonneg_left b0.2 (Ez,uO<=30));exact Int.le_trans h1 h2
theorem xpj {f:Pr->Int}{c:Int} (c0:0<=c):∀{prs:bn},(∀ p∈prs,(qI,f p,c))->(qI,(prs.map f).sum,c*(cE prs.length))
 | [],_=>aj
 | o7,h=>by
  show(CH,h p Zm,xpj c0 (prs:=r) fun q hq=>h q (Zi _ hq));rw[Zo,J5,ZG];rw[(dS,(dW,r.length+1)=(cE r.length)+1),Wv,Int.mul_one];omega
theorem GPr.tot {ps:aw}{w h:Int}{prs:bn} (g:D1) (hw:j5) (hh:lT):qI tR 540:=by
 show(af,z,xpj (f:=xbd w) (c:=45) ao (fG,xu2 (g.ok p hp) hw hh),l,g.le);unfold totI;omega
theorem GPr.up {ps:aw}{w h:Int}{prs:bn} (g:D1) (hw:j5) (hh:lT):qI KZ 5400:=by
 show(af,z,xpj (f:=uprI w) (c:=450) ao (fG,xxc (g.ok p hp) hw hh),l,g.le);unfold upI;omega
theorem xl4 {ps:aw}{w h:Int}{ss:av}{prs:bn}{tr:Tr} (nx:(ps.map (·.x)).Nodup) (g:D1) (ht:(AZ).head?=some tr) :
    ∃ A p1 B p2 C c,prs=A++p1::(B++p2::C)/\canO w ss p1 p2=some c/\tr=(jt,ju,c)/\jt≠ju/\vG=prs.map (exP p1 p2)/\vG=zlv/\GPr ps w h vG /\
      (totI w vG<tR\/(bc,bg p1,bg p2,totI w vG=tR,KZ<upI w vG)):=by
  obtain⟨A,p1,B,p2,⟨C,c,e,hc,et⟩⟩:121:=xjk (List.mem_of_mem_head? ht);obtain⟨em,ne⟩:=xrf g.nn e;ext WU prs
  show(af,o1,g.ok p1 m1,o2,g.ok p2 m2);have en:vG=Hj:=by
    unfold nxtP;rw[ht];subst et;show (match Sr jt,Sr ju with
    | some p1,some p2=>Hj
    | _,_=>prs)=_
    rw[xhb g.nn m1,xhb g.nn m2]
  have el:=en.trans em;have hm:Geo.meet (cel w p1) (cel w p2)≠none:=fun z=>by
    unfold canO at hc;rw[z] at hc;ext LK hc
  have hx:p1.1.x≠p2.1.x:=x_ne nx (Jm o1.fd) (Jm o2.fd) ne;have hs:(bg p1,b6 p1)≠(bg p2,b6 p2):=fun z=>by
    have nn:=g.ns;rw[e,Zq,Zo,ZL,Z8] at nn;exact (bg nn).1 (mG,cU p1.2 p2.2 z)
  show(sM,key,Geo.ex_pair (y1:=p1.1.y) (y2:=p2.1.y) o1.xy.1 (bg o1.xy) o2.xy.1 (bg o2.xy) hx hs hm,gu A p1 B p2 ⟨86,C,c,e,hc,et,ne,en,fJ el ⟨lG,?_,?_,?_⟩⟩)
  . rw[el] at hp
    have old:∀ q,q∈A\/q∈B\/q∈C->q∈prs:=fun q hq=>by
      rw[e];simp only[Zw,Zu];rcases hq with z|z|z
      . ext cY z
      . show(fh,.inr (.inl z))
      . exact .inr (.inr (.inr (.inr z)))
    simp only[Zw,Zu] at hp;rcases hp with z|rfl|z|rfl|z
    . exact g.ok p (old p (.inl z))
    . exact⟨o1.nm,o1.fd,o2.r1,o2.r2,o1.xy⟩
    . exact g.ok p (old p (.inr (.inl z)))
    . exact⟨o2.nm,o2.fd,o1.r1,o1.r2,o2.xy⟩
    . exact g.ok p (old p (.inr (.inr z)))
  . show(jZ,nn,g.nn,e);rw[el];simpa using nn
  . show(jZ,nn,g.ns,e);rw[el];refine (YK.nodup_iff ?_).mp nn;simp only[Zq,Zo];refine YK.append_left _ ?_;exact ((Qy.cons p1.2).trans (YK.swap _ _ _)).trans (Qy.symm.cons p2.2)
  . show(cD,en,Za,g.le)
  . have t0:tR=(RP A p1 (RP,B,p2,totI w C)):=by
      unfold totI;rw[e];simp
    have t1:totI w vG=(RP A Kf (RP,B,Kg,totI w C)):=by
      unfold totI;rw[el];simp
    have u0:KZ=upI w A+(uprI w p1+(upI w B+(uprI w p2+upI w C))):=by
      unfold upI;rw[e];simp
    have u1:upI w vG=upI w A+(uprI w Kf+(upI w B+(uprI w Kg+upI w C))):=by
      unfold upI;rw[el];simp
    have key2:(zsP<zsQ)\/(bc,bg p1,bg p2,zsP=zsQ,uprI w p1+uprI w p2<uprI w Kf+uprI w Kg):=key;rcases key2 with z|⟨z1,z2,z3⟩
    . ext cY aa
    . show(fh,⟨z1,aa,aa⟩)
noncomputable def muP (w:Int) (prs:bn):Nat:=(tR*6000+(6000-KZ)).toNat
inductive StL (H:Hp):bX Ku az
 | nil:StL H [] []
 | cons {p:Tr × jT}{t q:Addr}{ps:Ku}{ts:az} (h:zjn) (hq:znI) (r:SD):StL H (p::ps) (t::ts)
theorem StL.keep {H H':Hp} (s:lH) {ps:Ku}{ts:az} (h:SD):StL H' ps ts:=by
 induction h with
 | nil=>ext eI
 | cons h hq _ ih=>exact .cons Mo (s _ _ hq) ih
theorem StL.len {H:Hp}{ps:Ku}{ts:az} (h:SD):Ct ts.length:=by
 induction h with
 | nil=>rfl
 | cons _ _ _ ih=>simp[ih]
theorem StL.snoc {H:Hp}{ps:Ku}{ts:az} (h:SD) {p:Tr × jT}{t q:Addr} (e:zjn) (eq:znI):StL H LQ (ts++[t]):=by
 induction h with
 | nil=>exact .cons e eq .nil
 | cons h hq _ ih=>exact .cons h hq ih
inductive xx9 (K:Zf) (t:Adr) (vs:ag) (H:Hp) (Q:VK) (_:XK):Prop
 | mk (a dp do_ l:Addr) (pw ph:Int) (ps:aw) (ss:av) (prs:bn) (qs:az) (e_:S5) (r_:Pic t H a dp do_ pw ph ps/\qZ/\(Dk l)/\Eh/\GPr ps pw ph prs/\(ps.map (·.x)).Nodup/\∀(H':Hp) (tp ln ls:Addr) (n:Nat) (qs' sq:az),bq cG (bI ln) (Ih tp [wM,Ce]) (bj,H' ln=some (.lst (qs'.map V.ref)),PrsL H' (KK n) qs',H' ls=some (.lst (sq.map V.ref)),StL H' ((Zx n).map (stP pw ss prs)) sq,(kM,(∀ k<n,(Ia oO)≠none),(∀ k,GPr ps pw ph oO),cans pw ss (KK n)=[],ln≠ls,.ref tp)))
theorem xi2 {ps:aw}{w h:Int}{ss:av}{prs:bn} (nx:(ps.map (·.x)).Nodup) (g:D1):∀ k,GPr ps w h tw
 | 0=>g
 | cL=>by
  have ih:=zaY;show GPr ps w h A8;cases e:ztN with
  | none =>
   unfold nxtP;ext aK e ih
  | some tr =>
   obtain⟨_,_,_,_,⟨_,_,_,_,_,_,_,_,g',_⟩⟩:121:=xl4 nx ih e;exact g'
theorem xmi (T:aV):FnOk true P w K mg base aU 9 t.f_uncrossed t.d_uncrossed kg (xx9 K t):=by
 refine T.F_uncrossed.okn (k:=8) xbu (aY E) (fun cdv A outer s H vs Q E hr h=>?_)
 .obtain ⟨a,dp,do_,l,pw,ph,ps,ss,prs,qs,rfl,_⟩:=h;rfl
 .obtain ⟨a,dp,do_,l,pw,ph,ps,ss,prs,qs,rfl,h⟩:=h;refine⟨_,xh (pS 2 xbu.nd (N5 xgk i5))
   (xh (pS 3 xbu.nd (xb0 (xi)))
   (xh (pS 4 xbu.nd (pC (xfa T) hr T.g_exchangeable T.F_exchangeable.kp T.b_exchangeable UD))
   (xh (xe5 ZB (Uc 4) (xh (Fe 4 5 xbu.nd (iX 6 xbu.nd 7))
   (xh (pS 2 xbu.nd (pC (xmc T) hr T.g_exchanged T.F_exchanged.kp T.b_exchanged (gq 2 5 6)))
   (xh (xam (xdw Jj JA J9 xcb h7 (xg (xaq (eT 5 (sE 6 7 (iK (pC (xll T) hr T.g_total T.F_total.kp T.b_total UD) (pC (xol T) hr T.g_upright T.F_upright.kp T.b_upright UD))))) (xi))))
   (xm (pS 4 xbu.nd (pC (xfa T) hr T.g_exchangeable T.F_exchangeable.kp T.b_exchangeable UD)))))))
   (KG ww)))),?_⟩
  refine sq5 ?_; intros; obtain⟨pic,st,hl,pr,g,nx,q⟩:47:=h;obtain⟨⟨dx0,hp⟩,_,w1,w2,h1,h2,_⟩:=xA;show(sM,gk,xi2 (ss:=ss) nx g,(zK,l,lC hl,ln0,hln0));ext zal ln0 Hn hln0;ext iO Xx ls hls1;have fls:bI ls:=s1.free hls1;generalize eu:cF H1 ls []=H2;ext zmp hls1;show(ap,nls,ln0≠ls,xk g1 hls1,⟨a,dp,do_,ln0,pw,ph,ps,ss,prs,qs,rfl,⟨46,rE s02,st.same s02,h8 g1,zdr s02,g.ok,cu H3 v s3 tv⟩⟩);ext ztj; have s03:=s02.trans s3;have mub:∀ k,muP pw oO<3300000:=fun k=>by
   show(af,z1,(gk k).tot w2 h2,z2,(gk k).up w2 h2);unfold muP;omega
  refine(fJ,fun m Z H5=>∃(k:Nat) (ln:Addr) (v v5 v6 v7:bS) (vf:V) (qs5 sq:az),(hZ,m,muP pw oO,k+m<=muP pw prs,Z=[cV,lP,kP,fb,some vf,v5,v6,v7],(ax,FG,bI ln,ln≠ls,H5 ln=some (.lst (qs5.map V.ref)),(ax,PrsL H5 oO qs5,H5 ls=some (.lst (sq.map V.ref)),StL H5 ((Zx k).map (stP pw ss prs)) sq,(∀ j<k,(Ia (KK j))≠none),TrV H5 (Ia oO) vf))),(oE,0,ln0,none,qG v ⟨86,qs,[],rfl,(pU,0+muP pw prs,_),rfl,s03,hln0,⟨47,nls,s3 _ _ (s2 _ _ g1),zdr s03,jK g2,.nil,fun j hj=>absurd hj zca,tv⟩⟩));rintro m Z H5 (⟨k,ln,_,v5,⟨v6,v7,vf,qs5,sq,rfl,km,rfl,s5,fln,nln,hln,pr5,hls5,st5,hk5,tv5⟩⟩:121);have sl:=st5.len;rw[Za,ZX] at sl;have mb:=mub 0;rcases tv5 with⟨en,rfl⟩|⟨tr,qf,qc,et,rfl,hqf,hqc⟩
  .refine (hW,ifN fH ?_);ext iO f7 tp htp;have s6:=IG [wM,Ce] htp;exact q _ tp ln ls k qs5 sq Bi fln xl (fQ hln) (pr5.keep (Same.tups s6)) (fQ hls5) (st5.keep (Same.tups s6)) hk5 gk (List.head?_eq_none_iff.mp en) nln
  .refine (hW,ifP fH ?_);obtain⟨A,p1,B,p2,⟨C,c,e,hc,et2,ne,en,el,g',dec⟩⟩:121:=xl4 nx (gk k) et;subst et2;ext WU oO
   have mlt:muP pw kO<muP pw oO:=by
    show(af,z1,(gk k).tot w2 h2,z2,(gk k).up w2 h2);show(af,z3,(CU).tot w2 h2,z4,(CU).up w2 h2);have dec':totI pw kO<totI pw oO\/(bc,bg p1,bg p2,totI pw kO=totI pw oO,upI pw oO<upI pw kO):=dec;unfold muP;omega
   let Pm (σ':L2.St) (H9:Hp):Prop:=∃(ln:Addr) (v5 v6 v7:bS) (vf:V) (qs5 sq:az),(hZ,σ',[cV,lP,kP,fb,some vf,v5,v6,v7],gK H9,bI ln,ln≠ls/\(ax,H9 ln=some (.lst (qs5.map V.ref)),PrsL H9 kO qs5,H9 ls=some (.lst (sq.map V.ref)),StL H9 ((Zx cL).map (stP pw ss prs)) sq,TrV H9 (Ia kO) vf))
   show(gH,Pm,?_)
   .rintro σ' H9 (⟨ln',v5,v6,v7,⟨vf,qs9,sq9,e1,e2,e3,e4,e5,e6,e7,e8,e9⟩⟩:121);refine cq mlt (gu,cL,ln',none,v5,gu v6 v7 vf qs9 ⟨66,sq9,rfl,aa,e1,e2,e3,⟨47,e4,e5,e6,e7,e8,au j hj,e9⟩⟩);by_cases cj:j=k
    .subst cj;ext aK et dJ
    .exact hk5 j aa
   refine sq4 ?_; intros; show(bN,fW qf hqf,⟨ln,_,qs5,p1,p2,rfl,⟨47,hln,pr5,(gk k).nn,(gk k).le,m1,m2,⟨ne,fun H6 l6 qs6 s6 fl6 hl6 pr6=>?_⟩⟩⟩);rw[<- en] at pr6;have pr6':PrsL H6 kO qs6:=pr6;have s06:=s5.trans s6;have fl6':bI l6:=s5.free fl6;show(CP,nl6,l6,ls,qW hls5 fl6,⟨qX (fQ hls5),a,dp,do_,l6,pw,ph,ps,kO,qs6,rfl,rE s06,hl6,pr6',(CU).ok,(CU).le,au H7 s7⟩);have s07:=s06.trans s7;show(bN,⟨a,dp,do_,l6,pw,ph,ps,kO,qs6,rfl,⟨46,rE s07,s7 _ _ hl6,zqX,(CU).ok,(CU).le,au H8 s8⟩⟩,zdF p9 hp9);have s58:=(Kh).trans s8;show(af,s9,IG (WT,((kO).map (xbd pw)).sum,((kO).map (uprI pw)).sum) hp9,hls8,s9 _ _ (s58 _ _ hls5));ext OW ls hls8
   .show(SO,by have z:muP pw prs<3300000:=mb; omega,sq.length,3300000)
   have np9:p9≠ls:=lX (s58 _ _ hls5) hp9;show(rP,HA,eHA,∃ HA,HA=(cF (ez H8 p9 (WT,((kO).map (xbd pw)).sum,((kO).map (uprI pw)).sum)) ls (sq.map V.ref++[.ref p9])))
   have kA:(pY,ls,H8 b=some u,HA b=some u):=fun b u nb e=>by
    show(cD,eHA,oY,s9 _ _ e)
   have tA:Tups H8 HA:=(jz,kA _ _ (dQ (s58 _ _ hls5)) e);show(nM,s0A,gK HA,kA _ _ (xk e fls) (s8 _ _ (s07 _ _ e)));have gA:HA ls=some (.lst ((sq++[p9]).map V.ref)):=by
    rw[eHA,xl,Zq];rfl
   have gp:HA p9=some (.tup (WT,((kO).map (xbd pw)).sum,((kO).map (uprI pw)).sum)):=by
    show(cD,eHA,xj np9,xl)
   have hlA:=kA _ _ nl6 (s8 _ _ (s7 _ _ hl6));show(af,prA,((zqX).keep (Same.tups s8)).keep tA,stA,(st5.keep (Same.tups s58)).keep tA);rw[<- eHA];show(bN,⟨a,dp,do_,l6,pw,ph,ps,ss,kO,qs6,rfl,⟨46,rE s0A,st.same s0A,hlA,prA,(CU).ok,cu HB vB sB tvB⟩⟩,gu l6 _ _ _ ⟨106,vB,qs6,sq++[p9],rfl,s0A.trans sB,fl6',nl6,sB _ _ hlA,(cI,prA.keep (Same.tups sB),sB _ _ gA,?_,tvB)⟩);rw[JM,Zq];refine StL.snoc (p:=stP pw ss prs k) (q:=qc) (stA.keep (Same.tups sB)) ?_ ?_
   .have etr:trP pw ss (itP pw ss prs k)=(p1.1.nm,p2.1.nm,c):=by
     unfold trP;rw[et];rfl
    unfold stP;rw[etr];exact sB _ _ gp
   .have etr:trP pw ss (itP pw ss prs k)=(p1.1.nm,p2.1.nm,c):=by
     unfold trP;rw[et];rfl
    unfold stP;rw[etr];exact sB _ _ (tA _ _ (s58 _ _ hqc))
noncomputable abbrev seF (d1 d2:Addr):lD:=[lq "seat_of" d1,lq "holder_of" d2]
theorem lkSo {d1 d2:Addr}:(Tm).lookup (fT "seat_of")=some (.ref d1):=by
 unfold seF;show(DJ,"seat_of")
theorem lkHo {d1 d2:Addr}:(Tm).lookup (fT "holder_of")=some (.ref d2):=by
 unfold seF;show(GT,"holder_of","seat_of","holder_of",zqN);show(DJ,"holder_of")
theorem xmm {d1 d2:Addr}{m:Str} (e:((["seat_of", "holder_of"]:ai).all fun k=>!(m == k))=true):(Tm).lookup m=none:=by
 ext WR;ext BA e1 e2 e;unfold seF;ext Rh e1 zqN;rw[Zz,e2];rfl
noncomputable def SoD (H:Hp) (d:Addr) (n:Nat) (so:bp):Prop:=∃ kvs:aI,oK/\kvs.length<=n/\∀ nm,((Cu nm)->Cj=none)/\∀ s,(Ti nm)->(zfA yb)
noncomputable def HoD (H:Hp) (d:Addr) (n:Nat) (ho:aG):Prop:=∃ kvs:dA,(yT d)/\kvs.length<=n/\∀ s,HX=(ho s).map V.str
theorem SoD.keep {H H':Hp}{d:Addr}{n:Nat}{so:bp} (s:RX) (tp:lH) (h:NK d):SoD H' d n so:=by
 ext Ir;exact(ba,kvs,h _ e,l,fun nm=>⟨(f nm).1,(mU,let ⟨q,a,b⟩:=(f nm).2 s hs; ⟨q,a,pi b⟩)⟩)
theorem HoD.keep {H H':Hp}{d:Addr}{n:Nat}{ho:aG} (s:RW) (h:NK d):HoD H' d n ho:=by
 ext ae kvs e r s;show(aJ,kvs,h _ e,r)
theorem HoD.le {H:Hp}{d:Addr}{n k:Nat}{ho:aG} (s:RW) (h:n<=k):HoD H d k ho:=by
 ext zon
theorem SoD.le {H:Hp}{d:Addr}{n k:Nat}{so:bp} (s:RX) (h:n<=k):SoD H d k so:=by
 ext zon
theorem HoD.get {H:Hp}{d:Addr}{n:Nat}{ho:aG} (s:RW) {b:Addr}{c:Seat} (eb:qU b c):DGet H d cW ((ho c).map V.str):=by
 ext Ir;show(m8,f c,(wD,xv c,e,eb))
theorem HoD.put {H:Hp}{d:Addr}{n:Nat}{ho:aG} (s:RW) (hn:n<1000) {b:Addr}{c:Seat} (eb:qU b c) (x:Str) :
    (zhs,cW,lR,HoD H' d gP (Kp.upd1 ho c x)):=by
  ext Ir;refine⟨65,_,DPut.t (k:=xv c) e eb (xc3 aa),ba _ xl ?_ lM,zqc,znl,zkM⟩
  . show(bZ,xbm kvs (xv c) (.str x))
  . ext ztP c
    . rw[aC (dF zc),aC zc]
      rfl
    . rw[(El,zc (xdm y)),ay zc]
      exact f z
theorem SoD.put {H:Hp}{d:Addr}{n:Nat}{so:bp} (s:RX) (hn:n<1000) {b:Addr}{c:Seat} (eb:qU b c) (x:Str) :
    (zhs,lR,cW,SoD H' d gP (Kp.upd1 so x c)):=by
  ext Ir;show(ap,tp,Tups H (fe H d (putK kvs wY cW)),znl,⟨65,_,wE wY e (xc3 aa),ba _ xl ?_ lM,zqc,tp,zkM⟩)
  . show(bZ,xbm kvs wY cW)
  . ext ztP x
    . subst zc
      rw[bW,bW];show(aO,zcv,mU (jA,b,by cases hs; exact tp _ _ eb))
    . rw[(El,zc (ZW.inj y)),ay zc]
      show(aO,(f z).1,(mU,let ⟨q,a1,a2⟩:=(f z).2 s hs; ⟨q,a1,pi a2⟩))
theorem SoD.get {H:Hp}{d:Addr}{n:Nat}{so:bp} (s:RX) (x:Str):((Cu x)/\DGet H d lR none)\/∃ c q,so x=some c/\DGet H d lR F3/\(aE q (.tup (xa5 c))):=by
 ext Ir;have g:=kI wY e;cases z:so x with
 | none =>
  rw[(f x).1 z] at g;show(cY,dC g)
 | some c =>
  show(zR,q,(f x).2 c z);rw[e1] at g;show(fh,eD c q g e2)
structure Sg (t:Adr) (H:Hp) (p d1 d2:Addr) (n:Nat) (so:bp) (ho:aG):Prop where
 ins:∃ dx,aE p (lY t.C_ac Tm)
 so:SoD H d1 n so
 ho:HoD H d2 n ho
theorem Sg.keep {t:Adr}{H H':Hp}{p d1 d2:Addr}{n:Nat}{so:bp}{ho:aG} (g:Sg t H p d1 d2 n so ho) {d:Addr} (h1:p≠d) (h2:d1≠d) (h3:d2≠d) (tp:lH) (k:sQ d):Sg t H' p d1 d2 n so ho :=
 (zqk,(m9,k _ _ h1 e),g.so.keep tp (ng,k _ _ h2 e),(ng,k _ _ h3 e))
theorem Sg.same {t:Adr}{H H':Hp}{p d1 d2:Addr}{n:Nat}{so:bp}{ho:aG} (g:Sg t H p d1 d2 n so ho) (s:cG):Sg t H' p d1 d2 n so ho :=
 (zqk,m9 rS,g.so.keep (Same.tups s) (ng rS),ng rS)
theorem Sg.le {t:Adr}{H:Hp}{p d1 d2:Addr}{n k:Nat}{so:bp}{ho:aG} (g:Sg t H p d1 d2 n so ho) (h:n<=k):Sg t H p d1 d2 k so ho:=⟨g.ins,g.so.le h,g.ho.le h⟩
noncomputable def KB (H H':Hp) (d1 d2:Addr):Prop:=(sG,b≠d1,(o9,b,d2,iJ,H' b=some u))
inductive xsc (t:Adr) (vs:ag) (H:Hp) (Q:VK) (_:XK):Prop
 | mk (p dx:Addr) (e_:vs=[eB]) (r_:(aE p (lY t.C_ac []))/\∀ H' d1 d2,(kM,bI d1,bI d2,sQ p,Sg t H' p d1 d2 0 eX eX,.non))
structure xtk (room:iL) (so:bp) (asked:aG) (rk:Str->Nat) (name:Str):Prop where
 rm:∀ s a,pD->CA
 no:∀ s a,pD->(Cu a)->a=name
 up:∀ s a,pD->∀ s1,so a=some s1->∃ a1,asked s1=some a1/\rk a1<rk a
 le:∀ s a,pD->rk a<=20
inductive xwr (t:Adr) (vs:ag) (H:Hp) (Q:VK) (_:XK):Prop
 | mk (p d1 d2 d3 q:Addr) (n m:Nat) (room:iL) (so:bp) (ho asked:aG) (rk:Str->Nat) (name a:Str) (s:Seat) (e_:vs=[eB,.ref d3,eC]) (r_:yb/\(ax,Sg t H p d1 d2 n so ho,HoD H d3 m asked,d3≠d2,n<=600,(ax,sY,Bo,pD,xtk room so asked rk name,∀ H' so' ho',Rw->(je dN Bq)->(kM,Sg t H' p d1 d2 (n+30) so' ho',OC,Hq (IV||qY),ym sX (EU so ho),.non))))
theorem ok_al (T:aV):FnOk true P w K mg base aU 1 t.f_al t.d_al jV (xsc t):=by
 refine T.F_al.okn (k:=0) sc_al (aY E) (fun cdv A outer s H vs Q E hr h=>?_)
 .ext DC p dx
 .ext Eb p dx;refine⟨_,xh UA
   (Sn (xex)),?_⟩
  refine sq2 ?_; intros; ext iH hp h;refine au d1 hd1;show(ap,n1,p≠d1,xk hp hd1,⟨126,p,_,dx,_,rfl,(bE n1 hp),T.c_ac,T.n_bc,(pG 0),au d2 hd2⟩);have n2:p≠d2:=xk xl hd2;show(ap,n3,d1≠d2,xk (aD B9 xl) hd2,⟨126,p,_,dx,_,rfl,(bE n2 xl),T.c_ac,T.n_ba,(pG 1),?_⟩);have hd2':bI d2:=by
   have z:=hd2;show(rD,jF n2,jF n3)
  refine q _ d1 d2 hd1 hd2' qh ⟨m9 xl,(ba,[],?_,bo,fun nm=>⟨p5,fun s z=>(nomatch z)⟩),(ba,[],?_,bo,fun s=>rfl)⟩
  .rw [oY,mW hd2',oY,mW hd1];exact e
  .rw [B9,xj n3,B9];exact xl
  .show(c9,jF n2,xl)
theorem ok_l (T:aV):FnOk true P w K mg base aU 1 t.f_l t.d_l (jX "asked_by" "free_seat") (xwr t):=by
 refine T.F_l.okn (k:=0) sc_l (aY E) (fun cdv A outer s H vs Q E hr h=>?_)
 .obtain ⟨p,d1,d2,d3,q0,n,m,room,so,ho,asked,rk,name,a0,s0,rfl,_⟩:=h;rfl
 .obtain ⟨p,d1,d2,d3,q0,n,m,room,so,ho,asked,rk,name,a0,s0,rfl,h⟩:=h;refine⟨_,xh (pS 3 sc_l.nd (pv 2))
   (xm (xe5 ZB (Uc 3) (xh (pS 4 sc_l.nd (rg 1 h7))
   (xh (pS 5 sc_l.nd (xsp eR bB jd HF))
   (xh (qp bB jd h7)
   (xh (qp bB h7 jd)
   (xm (pS 3 sc_l.nd (pv 5))))))))),?_⟩
  refine sq2 ?_; intros; obtain⟨hq0,sg,had,n32,n600,mt,⟨hs0,as0,ch,q⟩⟩:47:=h;refine gx ?_; refine wo ?_; intros; show(gH,fun k Z H1=>∃ v3 v4 v5,(hZ,Z,zmR,KB H H1 d1 d2,(je,dN,H1 b=none),(zhp,k,Sg t H1 p d1 d2 (n+30) so' ho',IV||qY,(ax,v3=Ml,H1 qs=some (.tup (xa5 s)),pD,k=rk a+1,(zhO,Sg t H1 p d1 d2 n1 so1 ho1,n+20,zqd)))),⟨124,rk a0+1,_,_,_,rfl,fun b u _ _ e=>e,fun b e=>e,.inr (gu q0 s0 a0 so ⟨86,ho,n,rfl,hq0,as0,rfl,mt.hand hs0,(cI,fC,sg,(gg,ch.le _ _ as0),.refl _)⟩)⟩);rintro k Z H1 (⟨v3,v4,v5,rfl,kb,fr,cs⟩:104);refine hW ?_;rcases cs with⟨rfl,rfl,so',ho',sg',mt',dm',rc'⟩|⟨qs,s,a,so1,ho1,n1,rfl,hqs,asd,rfl,hand,low,sg1,nb,rc1⟩
  .exact ifN ao (q H1 so' ho' kb fr sg' mt' dm' rc')
  .refine ifP (d7 zmN) (fJ,(rN,∃ k',k'<rk a+1/\∃ v3 v4 v5,hZ σ' zmR Rw (je dN Bq) (zhp,k',Sg t H' p d1 d2 (n+30) so' ho',IV||qY,(ax,v3=Ml,H' qs=some (.tup (xa5 s)),pD,k'=rk a+1,(zhO,Sg t H' p d1 d2 n1 so1 ho1,n+20,zqd)))),fun σ' H' z=>z);refine sq5 ?_; intros; obtain⟨dx1,hp1⟩:=sg1.ins;ext mf ka hka had;show(mf,k1,hk1,sg1.so);show(mf,k2,hk2,sg1.ho);show(mf,k10,hk10,sg.so);show(mf,k20,hk20,sg.ho);ext j3 n31 d3 d1 hka hk10;ext j3 n12 d1 d2 hk1 hk2;show(af,had1,had.keep (H':=H1) (ng,kb _ _ n31 n32 e),gt,had1.get hqs);rw[asd] at gt;show(lZ,d3,.str a,rfl,gt,?_);show(af,lowa,low a bo,rma,ch.rm _ _ asd);ext j3 np1 p d1 hp1 hk1;ext j3 np2 p d2 hp1 hk2
   -- the two puts
   obtain⟨H2,dp2,so2,kk2,tp2,fr2⟩:65:=sg1.so.put aa hqs a;have hp2:=kk2 _ _ np1 hp1;show(af,hqs2,tp2 _ _ hqs,ho2,sg1.ho.keep (H':=H2) (ng,kk2 _ _ (Z2 n12) e));obtain⟨H3,dp3,ho3,kk3,tp3,fr3⟩:65:=ho2.put aa hqs2 a;show(af,so3,so2.keep tp3 (ng,kk3 _ _ n12 e),hp3,kk3 _ _ np2 hp2);have kb3:KB H H3 d1 d2:=(zfx,kk3 _ _ b2 (kk2 _ _ b1 (kb _ _ b1 b2 e)));show(bw,fr03,(je,dN,H3 b=none),b,e,fr3 _ (fr2 _ (fr _ e)));have sg3:Sg t H3 p d1 d2 (n1+1) (Kp.upd1 so1 a s) (Kp.upd1 ho1 s a):=⟨⟨dx1,hp3⟩,so3,ho3⟩
   rcases sg1.so.get a with⟨e0,g0⟩|⟨s1,q1,e1,g1,hq1⟩
   .refine ⟨p,_,dx1,_,_,rfl,znU none g0⟩;show(bN,⟨p,_,dx1,_,_,rfl,zsc⟩,⟨p,_,dx1,_,_,rfl,zkq⟩);have an:a=name:=ch.no _ _ asd (bJ lowa e0);obtain⟨mt3,dm3⟩:=hand.last rma e0;show(aJ,0,aa,⟨104,_,_,_,rfl,kb3,fr03,.inl (Ai ⟨84,_,_,sg3.le aa,mt3,(aA (cA,dm3 z,an)),.step rc1 (Kp.k_fin asd e0)⟩)⟩)
   .refine ⟨p,_,dx1,_,_,rfl,(znU,bu q1,g1)⟩;show(bN,⟨p,_,dx1,_,_,rfl,zsc⟩,⟨p,_,dx1,_,_,rfl,zkq⟩);show(ae,a1,as1,lt,ch.up _ _ asd s1 (bJ lowa e1));show(cR,rk a1+1,aa,⟨104,_,_,_,rfl,kb3,fr03,.inr (gu q1 s1 a1 _ ⟨86,_,n1+1,rfl,tp3 _ _ (tp2 _ _ hq1),as1,rfl,hand.step rma e1,(cI,gY,sg3,aa,.step rc1 (Kp.k_hand asd e1))⟩)⟩);show(nA,nba,b,a,by rw[z] at hb; omega)
    show Kp.upd1 so1 a s b=so b;unfold Kp.upd1;show(lO,nba,low b aa)
structure Bf (room:iL) (ho:aG) (name:Str) (crowd:ai) (al:av) (asked:aG):Prop where
 cr:crowd.length=al.length+1
 c0:dX crowd 0 name
 hd:(zrS,∃ h,(dX crowd eE h)/\DU)
 nd:al.Nodup
 no:∀ s,FU->Ij
 ak:(zrS,∃ k a,(bD,k<=j,FV,pD,CA))
theorem xtn {α:Type}{l:cT} (nd:l.Nodup) {i j:Nat} (hi:i<l.length) (hj:j<l.length) (e:l[i]=l[j]):i=j:=by
 rcases Nat.lt_trichotomy i j with h|h|h
 .show(dM,e,Ju.mp nd i j hi hj h)
 .exact h
 .show(dM,e.symm,Ju.mp nd j i hj hi h)
section
variable {room:Str->List Seat}{so:Str->Option Seat}{ho asked:Seat->Option Str}{name:Str}{crowd:List Str}{al:List Seat}
theorem Bf.start:Bf room ho name [name] [] eX:=⟨rfl,rfl,df j s BL,JV,fC,df j s BL⟩
theorem Bf.at_ (b:Bf room ho name crowd al asked) (mt:sY) {k:Nat}{a:Str} (e:FV):(k=0/\a=name)\/∃ j s,bc k eE (bQ al s) zcW:=by
 cases k with
 | zero =>
  left;rw[b.c0] at e;show(aO,rfl,(ZH.inj e).symm)
 | succ j =>
  right;have lt:j<al.length:=by
   show(Ac,(Mg).1,b.cr)
  show(zR,h,b.hd j _ iw);ext bA e e1 e1;exact(eD,j,_,iw,(mt.iff _ _).mpr e2)
theorem Bf.inj (b:Bf room ho name crowd al asked) (mt:sY) (sn:tV) {k l:Nat}{a:Str} (e:FV) (e':dX crowd l a):k=l:=by
 rcases b.at_ mt e with⟨rfl,rfl⟩|⟨j,s,rfl,h1,h2⟩<;>rcases b.at_ mt e' with⟨rfl,h⟩|⟨j',s',rfl,h1',h2'⟩
 .rfl
 .ext Ag sn h2'
 .rw [h,sn] at h2;cases h2
 .rw [h2] at h2';cases h2';ext y9 x hx h1;ext y9 y hy h1';show(bZ,xtn b.nd x y (cA hx hy))
theorem Bf.nodup (b:Bf room ho name crowd al asked) (mt:sY) (sn:tV):crowd.Nodup:=by
 refine Ju.mpr fun i j hi hj lt e=>?_;show(bZ,b.inj mt sn (Zb hi) (by rw[e]; exact Zb hj))
theorem Bf.add (b:Bf room ho name crowd al asked) {i:Nat}{a h:Str}{s:Seat} (ea:yL) (ra:CA) (ns:FU) (hh:DU):Bf room ho name Bx oF vw:=by
 show(af,cr,b.cr,il,ir ea);have lft:∀{k:Nat}{x:Str},(E8 x)->(dX Bx k x):=fun {k x} e=>by
  show(aK,ZV (Mg).1,e)
 refine⟨by rw[Zr,Zr,cr]; rfl,lft b.c0,o4 j z,?_,au z nz,o4 j z⟩
 .by_cases c:j<al.length
  .rw [ZV c] at e;show(zR,h',b.hd j z e);show(aJ,h',lft e1,e2)
  .ext zhN;show(cR,h,?_,hh);rw[<- cr,J4 (Zj _),Nat.sub_self];rfl
 .show(X1,b.nd,ns (Cs,Uz,e,e▸hx))
 .unfold Kp.upd1;show(aK,if_neg (fun e=>nz (aD e FL)),b.no z fun y=>nz (ZF _ y))
 .by_cases c:j<al.length
  .rw [ZV c] at e;obtain⟨k,x,e1,e2,e3,e4⟩:84:=b.ak j z e;refine⟨84,k,x,e1,lft e2,?_,e4⟩;ext zjv e
  .ext zhN;refine⟨84,i,a,aa,lft ea,?_,ra⟩;unfold Kp.upd1;rw[bW]
theorem Bf.chain (b:Bf room ho name crowd al asked) (mt:sY) (sn:tV) (c20:crowd.length<=20) {i:Nat}{a:Str}{s:Seat} (ea:yL) (ra:CA) (ns:FU):xtk room so vw (aA,crowd.idxOf z) name:=by
 have ix:∀{k:Nat}{x:Str},(E8 x)->crowd.idxOf x=k:=fun {k x} e=>by
  show(af,m,Zn e,lt,YQ m);refine b.inj mt sn (a:=x) ?_ e;rw[iw,WG]
 have key:∀ s' a',(IU a s')=some a'->s'∈room a'/\∃ k,E8 a':=fun s' a' e=>by
  ext zuR
  .rename_i h
   cases e;rw[h];ext aJ ra i ea
  .by_cases h:s'∈al
   .obtain ⟨j,hj,ej⟩:=ZM h;obtain⟨k,x,e1,e2,e3,e4⟩:84:=b.ak j s' (o6 hj ej);ext bA e e3 e3;ext aJ e4 k e2
   .rw [b.no s' h] at e;cases e
 refine⟨(df,s',a',(key s' a' e).1),cu s' a' e z,bC s' a' e s1 z,o4 s' a'⟩
 .ext XF;rcases b.at_ mt ek with⟨_,h⟩|⟨j,s2,_,_,h⟩
  .exact h
  .ext gM z;cases h
 .ext XF;rcases b.at_ mt ek with⟨_,h⟩|⟨j,s2,rfl,hj,h⟩
  .rw [h,sn] at z;cases z
  .ext gM z;cases h;obtain⟨k2,a2,e1,e2,e3,_⟩:84:=b.ak j s1 hj;show(gH,a2,?_)
   .ext zjv hj
   .show crowd.idxOf a2<crowd.idxOf a';rw[ix e2,ix ek];omega
 .ext XF;show crowd.idxOf a'<=20;rw[ix ek];show(bZ,ir ek)
theorem Bf.done (b:Bf room ho name crowd al asked) (mt:sY) (sn:tV) (all:∀(k:Nat) (a:Str),FV->∀ s∈uL,w8):∃ hs,crowd=BU/\(IL name hs):=by
 have nd:=b.nodup mt sn;cases crowd with
 | nil =>
  have:=b.c0;simp at this
 | cons x hs =>
  have e0:=b.c0;show(bA,List.getElem?_cons_zero,e0,e0);show(lZ,hs,rfl,nd,au h hh,cu c hc s hs')
  .obtain ⟨j,hj,ej⟩:=ZM hh;have e:dX BU eE h:=by
    rw[Wh,xI,ej]
   rcases b.at_ mt e with⟨z,_⟩|⟨_,s,_,_,z⟩
   .omega
   .rw [z];rfl
  .obtain ⟨k,hk,ek⟩:=ZM hc;have sal:=all k c (o6 hk ek) s hs';ext zeA sal;ext zR h zva;rw[Wh] at e1;show(aJ,h,Zn e1,(mt.iff _ _).mpr e2)
#check _
noncomputable def RmD (H:Hp) (d:Addr) (names:ai) (room:iL):Prop:=∃ kvs:aI,oK/\∀ nm∈names,∃ l rs,Cj=some bH/\(zan l)/\xak H (room nm) rs
inductive xuf (t:Adr) (vs:ag) (H:Hp) (Q:VK) (_:XK):Prop
 | mk (p d1 d2 rm:Addr) (n:Nat) (room:iL) (so:bp) (ho:aG) (names:ai) (name:Str) (e_:vs=[eB,.str name,.ref rm]) (r_:(bD,Sg t H p d1 d2 n so ho,n<=600,sY,(ax,tV,RmD H rm names room,rm≠d1,(∀ z,qY->z∈names),(ax,name∈names,sZ,(∀ z,(room z).length<=32),(∀ H' l so' ho',bq Rw iP (zff l []) (kM,Sg t H' p d1 d2 (n+30) so' ho',OC,Hq (IV||qY),ym sX zbA,bH)),∀ H' l hs,cG->(kM,iP,BY l (.lst ((BU).map V.str)),IL name hs,Kp.Rch sX zbA (.out BU),bH)))))
noncomputable def ICr (t:Adr) (H:Hp) (p d1 d2 rm lc da:Addr) (n:Nat) (room:iL) (so:bp) (ho:aG) (name:Str) (i j:Nat) (crowd:ai) (al:av) (asked:aG) (H1:Hp):Prop :=
 (gK H1)/\(ax,H1 lc=some (.lst (crowd.map V.str)),HoD H1 da al.length asked,Bf room ho name crowd al asked,(∀(k:Nat) (a:Str),k<i->FV->∀ s∈uL,w8),Kp.Rch sX zbA BT)
theorem ok_f (T:aV):FnOk true P w K mg base aU 2 t.f_f t.d_f (jX "name" "rooms") (xuf t):=by
 refine T.F_f.okn (k:=1) sc_f (aY E) (fun cdv A outer s H vs Q E hr h=>?_)
 .obtain ⟨p,d1,d2,rm,n,room,so,ho,names,name,rfl,_⟩:=h;rfl
 .obtain ⟨p,d1,d2,rm,n,room,so,ho,names,name,rfl,h⟩:=h;refine⟨_,xh (pS 3 sc_f.nd (xb0 i5))
   (xh (pS 4 sc_f.nd (xex))
   (xh (pS 5 sc_f.nd (xo))
   (xh (xe5 ZB (jv xfk 5 (oR F2)) (xh (pS 6 sc_f.nd (MF xa4 3 kZ))
   (xh (xbf ZB rfl (xal (rg 2 me)) (pN 7 sc_f.nd) (xm (xai (xcz (xdk eR sO (pv 4))) (xh (qp jd sO me)
   (xh (xai (xcz (xdk eR sO bB)) (xh (xam (xag bz T.c_ac T.m_l (ok_l T) bi T.b_l .nil xq (iN 4 7)))
   (xm (xz (xb0 (xi))))) (x9))
   (qE (xdw Jj JA J9 xcb h7 (xg (xbg eR bB sO fC) (xi)))))) (x9))))
   (xm (xvs (i:=5) sc_f.nd rfl FZ (xo) xuh)))))
   (wc 3)))),?_⟩
  refine sq5 ?_; intros; obtain⟨sg,n600,mt,sn,rmd,nrm,⟨dom,nin,n12,r32,qA,qB⟩⟩:47:=h;ext EV lc hlc;generalize eu:cF H lc [.str name]=H1;ext jh s1 hlc g1;refine au da hda;show(G9,jB H1 da [],hda);show(af,fda,s1.free hda,s02,s1.trans s2);have ncd:lc≠da:=xk g1 hda;have cl12:∀{crowd:ai}{al:av}{asked:aG},Bf room ho name crowd al asked->zcx:=fun {crowd al asked} b=>by
   refine ZJ ((b.nodup mt sn).length_le_of_subset (l₂:=names) rJ) n12;obtain⟨k,hk,ek⟩:=ZM hx;rcases b.at_ mt (show E8 x by rw[Zb hk,ek]) with⟨_,e⟩|⟨j,s,_,_,e⟩
   .ext c9 e nin
   .exact dom x zX
  refine(fJ,fun m Z H3=>(zij,m,Z=[bu p,ii name,bu rm,bu lc,rX,aX dD,v6,v7],ICr t H p d1 d2 rm lc da n room so ho name i 0 crowd al asked H3),gu 13 0 [name] [] ⟨106,eX,_,_,rfl,fP,rfl,s02,h8 g1,(cI,ba [] g2 bo p5,.start,fun k a z=>aa,.refl _)⟩);rintro m Z H3 (⟨i,crowd,al,asked,⟨v6,v7,mi,il,rfl,s3,hlc3,had3,bf,cov,rc3⟩⟩:121);have c12:=cl12 bf;refine(eD,lc,_,lC hlc3,vy y)
  .have ic:i<crowd.length:=by
    have z:=of_decide_eq_true y;rw[Za] at z;omega
   show(qM,zp m (zij,m',σ'=[bu p,ii name,bu rm,bu lc,rX,aX dD,v6,v7],ICr t H p d1 d2 rm lc da n room so ho name i 0 crowd al asked H'),fun σ' H' z=>z);ext Id; obtain⟨a,ea⟩:∃ a,yL:=(gF,Zb ic)
   refine(kJ,lc,_,.str a,(sK,bb hlc3,xea (xR ea),?_));ext xW; have ain:a∈names:=by
    rcases bf.at_ mt ea with⟨_,e⟩|⟨j,s,_,_,e⟩
    .ext c9 e nin
    .exact dom a zX
   show(ae,kr,hkr,fr,id rmd);obtain⟨lr,rs,er,hlr,slr⟩:83:=fr a ain;show(jZ,gr,(kI,.inr a,jK hkr),er);show(lZ,rm,.ref lr,rfl,gr,jp lr (jK hlr) ?_);have rll:=slr.len
   let Pv (j:Nat) (Z:L2.St) (H4:Hp):Prop:=∃(crowd:ai) (al:av) (asked:aG) (v7:bS),(bD,yL,(∀ s∈(uL).take j,w8),Z=[bu p,ii name,bu rm,bu lc,rX,aX dD,some (.str a),v7],ICr t H p d1 d2 rm lc da n room so ho name i j crowd al asked H4)
   show(sP,IO,⟨126,crowd,al,asked,_,ea,(mU (Cs,List.take_zero,hs,nomatch hs)),rfl,s3,hlc3,cI had3 bf cov rc3⟩,?_)
   .rintro j Z H4 _ (⟨_,_,_,_,_,_,rfl,s4,_⟩:125);show(xB,iT hlr)
   .rintro j x Z H4 hx (⟨crowd,al,asked,v7,ea,tk,rfl,s4,hlc4,⟨had4,bf,cov,rc4⟩⟩:126);ext GQ; ext sT qs hqs;show(ae,s,hs,hsq,slr.get hqs);have hsq4:=iT hsq;have ra:CA:=Zn hs;show(af,c12,cl12 bf,cr,bf.cr);have tk1:∀ al':av,(∀ z∈al,z∈al')->s∈al'->(Ui,(uL).take eE,al'):=fun al' h1 h2 z hz=>by
     rw[ZT,hs] at hz;rcases UK with hz|hz
     .exact h1 _ (tk z hz)
     .have hz:z∈[s]:=hz;show(aK,Zp.mp hz,h2)
    refine⟨da,_,rfl,had4.get hsq4,_,rfl,EB y⟩
    .ext Id; have ns:s∉al:=fun z=>by
      obtain⟨k,hk,ek⟩:=ZM z;obtain⟨_,x,_,_,e3,_⟩:84:=bf.ak k s (o6 hk ek);rw[e3] at y;ext dM y aj
     obtain⟨H5,dp5,had5,k5,tp5,fr5⟩:65:=had4.put aa hsq4 a;refine eD da H5 dp5 ?_;refine nx ?_; refine iq ?_; intros; have sg4:=sg.same s4;obtain⟨dx4,hp4⟩:=sg4.ins;show(mf,kq1,hkq1,sg.so);show(mf,kq2,hkq2,sg.ho);obtain⟨dxp,hpp⟩:=sg.ins;show(dO,sg5,Sg t H5 p d1 d2 n so ho,sg4.keep (d:=da) (xk hpp fda) (xk hkq1 fda) (xk hkq2 fda) tp5 k5,hp5,k5 _ _ (xk hpp fda) hp4);show(af,hsq5,tp5 _ _ hsq4,hlc5,k5 _ _ ncd hlc4);show(ap,s5,FG,(uR,k5 _ _ (xk e fda) (s4 _ _ e)),⟨p,_,dx4,_,_,rfl,bO hp5 T.c_ac T.n_ba lkHo ⟨d2,_,rfl,sg5.ho.get hsq5,_,rfl,EB y2⟩⟩)
     .ext nW; have hn:Bo:=by
       cases e:ho s with
       | none=>rfl
       | some h =>
        rw[e] at y2;ext dM y2 aj
      refine⟨p,dx4,_,rfl,hp5,xmm aP,p,d1,d2,da,qs,n,_,room,so,ho,_,_,name,a,s,rfl,hsq5,sg5,had5,lX hkq2 fda,n600,mt,hn,XW,bf.chain mt sn aa ea ra ns,fun H6 so' ho' kb6 fr6 sg6 mt6 dm6 rc6=>?_⟩;show(iO,nu leS0,l,hl);have kb:KB H H6 d1 d2:=(zfx,kb6 _ _ b1 b2 (s5 _ _ e));have hl0:iP:=by
       cases e:H l with
       | none=>rfl
       | some u =>
        by_cases e1:l=d1
        .show(zmP,sg6.so,e1)
        .by_cases e2:l=d2
         .show(zmP,sg6.ho,e2)
         .show(Ag,kb _ _ e1 e2 e,hl)
      exact qA _ l so' ho' (zfx (bE,xk e hl0,kb _ _ b1 b2 e)) hl0 xl (sg6.same (c7 hl)) mt6 dm6 ((Kp.Rch.step rc4 (Kp.k_free ea hs (bf.no s ns) hn)).trans rc6)
     .obtain ⟨h,eh⟩:∃ h,DU:=by
       cases e:ho s with
       | none =>
        rw[e] at y2;ext j4 y2
       | some h=>show(aO,h,rfl)
      have gh:=sg5.ho.get hsq5;rw[eh] at gh;refine⟨qX hlc5,p,_,dx4,_,_,rfl,hp5,T.c_ac,T.n_ba,lkHo,d2,.str h,rfl,gh,lc,_,_,rfl,rfl,hlc5,?_,?_⟩
      .rw [Za];exact xc3 aa
      show(ap,kl,(iE,lc,H5 c=some u,kX H5 lc (.lst (PF++[.str h]))),P7,⟨126,Bx,oF,_,_,?_,tk1 _ (uz,ZF _ hz) FL,rfl,(uR,kl _ _ (xk e hlc) (s5 _ _ e)),Kw,(cI,?_,bf.add ea ra ns eh,fun k b hk eb z hz=>?_,.step rc4 (Kp.k_grow ea hs (bf.no s ns) eh))⟩)
      .show(c9,ZV (ir ea),ea)
      .rw [Zr,Jg];exact had5.keep (ng,kl _ _ (Z2 ncd) e)
      .have hkl:k<crowd.length:=by
        show(bZ,ir ea)
       show(cJ,ZV hkl,eb,ZF _ (cov k b hk eb z hz))
    .have sin:w8:=by
      by_cases z:w8
      .exact z
      .rw [bf.no s z] at y;ext j4 y
     obtain⟨kk,hkk,ekk⟩:=ZM sin;obtain⟨_,xx,_,_,e3,_⟩:84:=bf.ak kk s (o6 hkk ekk);exact⟨126,crowd,al,asked,_,ea,tk1 al (uz hz) sin,rfl,s4,hlc4,(cI,had4,bf,cov,.step rc4 (Kp.k_old ea hs e3))⟩
   .rintro Z H4 (⟨crowd,al,asked,v7,ea,tk,rfl,s4,hlc4,⟨had4,bf,cov,rc4⟩⟩:126);rw[Za,rll] at rc4;rw[Za,rll,TN] at tk;have ic:=ir ea;show(lZ,_,rfl,m-1,aa,gu aM crowd al asked ⟨86,_,_,aa,aa,rfl,s4,hlc4,(cI,had4,bf,fun k b hk eb z hz=>?_,.step rc4 (Kp.k_next ea (Jt (Zj _))))⟩);ext jc k i
    .subst c;ext bA ea eb eb;exact tk z hz
    .exact cov k b aa eb z hz
  .have ic:i=crowd.length:=by
    by_cases z:i<crowd.length
    .ext Oo B8 y
    .omega
   show(ae,hs,ec,cw,bf.done mt sn fun k a e z hz=>cov k a (gg,(Mg).1) e z hz)
   refine (qB H3 lc hs s3 hlc (bJ ec hlc3) cw ?_);rw[<- ec];exact .step rc3 (Kp.k_end (Jt aa))
inductive Run (room:iL):ai->bp->(bX aG dh)
 | nil:Run room [] eX eX []
 | inn {ns:ai}{so so':bp}{ho ho':aG}{cs:dh}{nm:Str} (r:tQ) (mt:OC) (dm:Hq ((d9 z nm)||qY)) (rc:ym sX zcB):Run room mI so' ho' cs
 | out {ns:ai}{so:bp}{ho:aG}{cs:dh}{nm:Str}{hs:ai} (r:tQ) (c:IL nm hs) (rc:zoR):KF mI zeh
theorem Run.mt {room:iL}{ns:ai}{so:bp}{ho:aG}{cs:dh} (r:tQ):sY:=by
 induction r with
 | nil=>ext aO ztL ztE
 | inn _ mt _ _ _=>exact mt
 | out _ _ _ ih=>exact ih
theorem Run.outs {room:iL}{ns:ai}{so:bp}{ho:aG}{cs:dh} (r:tQ):(∀ z∈cs.map (·.1),z∈ns)/\cs.length<=ns.length:=by
 induction r with
 | nil=>ext aO jP bo
 | inn _ _ _ _ ih=>show(aO,(uz,ZF _ (ih.1 z hz)),by rw[Zr]; show(bZ,ih.2))
 | out _ _ _ ih =>
  show(dE,wf,by rw[Zr,Zr]; have:=ih.2; simp; omega);rw[Zq] at hz;rcases UK with hz|hz
  .exact ZF _ (ih.1 z hz)
  .exact Z1 _ hz
theorem Run.dom {room:iL}{ns:ai}{so:bp}{ho:aG}{cs:dh} (r:tQ) (nd:ns.Nodup):∀ z,qY=(zem&&! decide (z∈cs.map (·.1))):=by
 induction r with
 | nil=>intro z; rfl
 | @inn ns so so' ho ho' cs nm r mt dm rc ih =>
  intro z;ext zB;rw[dm z,ih nd.1 z];by_cases e:z=nm
  .ext dw;have h1:z∉ns:=(fR,(jI).2 z h z By rfl);have h2:z∉cs.map (·.1):=fun h=>h1 (r.outs.1 z h);simp[h2]
  .simp [e]
 | @out ns so ho cs nm hs r c rc ih =>
  intro z;ext zB;rw[ih nd.1 z];by_cases e:z=nm
  .ext dw;have h1:z∉ns:=(fR,(jI).2 z h z By rfl);simp[h1]
  .rw [Zq];have e1:decide (z∈mI)=zem:=bF e
   have e2:decide (z∈cs.map (·.1)++[(nm,hs)].map (·.1))=decide (z∈cs.map (·.1)):=by
    rw[decide_eq_decide,Zw];show(aO,(fR,h.elim id (fR,absurd (Zp.mp h) e)),.inl)
   rw[e1,e2]
theorem Run.det {room:iL}{l:ai}{so:bp}{ho:aG}{cs:dh} (r:KF l cs):∀{so2:bp}{ho2:aG}{cs2:dh},Run room l so2 ho2 cs2->(bc,so,so2,ho=ho2,cs=cs2):=by
 have inv:∀{l:ai}{so:bp}{ho:aG}{cs:dh},(KF l cs)->(l=[]/\(bc,so,eX,ho=eX,cs=[]))\/(∃ ns nm so0 ho0,(bc,l,mI,Run room ns so0 ho0 cs,Kp.Rch (Kp.kstep room so0 ho0) zcB (.fin so ho)))\/∃ ns nm hs cs0,(hZ,l,mI,KF ns cs0,zoR,cs=cs0++[(nm,hs)]):=fun r=>by
  cases r with
  | nil=>show(cY,sK rfl rfl rfl)
  | inn r mt dm rc=>exact .inr (.inl ⟨123,_,_,_,_,rfl,r,rc⟩)
  | out r c rc=>exact .inr (.inr ⟨124,_,_,_,_,rfl,r,rc,rfl⟩)
 induction r with
 | nil =>
  ext zez;rcases inv r2 with⟨_,rfl,rfl,rfl⟩|⟨ns,nm,_,_,e,_⟩|⟨ns,nm,_,_,e,_⟩
  .exact R3
  .show(dM,e.symm,aj)
  .show(dM,e.symm,aj)
 | @inn ns so so' ho ho' cs nm r mt dm rc ih =>
  ext zez;rcases inv r2 with⟨e,_⟩|⟨ns2,nm2,so0,ho0,e,r0,rc0⟩|⟨ns2,nm2,hs,cs0,e,r0,rc0,_⟩
  .ext dM e aj
  .ext MI;injection z with z1 z2
   ext xS z1 z2
  .ext MI;cases z
 | @out ns so ho cs nm hs r c rc ih =>
  ext zez;rcases inv r2 with⟨e,_⟩|⟨ns2,nm2,so0,ho0,e,r0,rc0⟩|⟨ns2,nm2,hs2,cs0,e,r0,rc0,rfl⟩
  .ext dM e aj
  .ext MI;cases z
  .ext MI;injection z with z1
   injection z1 with _ z2
   show(qJ,rfl,dF z2)
noncomputable def xaz (ns:ai) (cs:dh):ai:=ns.filter fun z=>! decide (z∈cs.map (·.1))
theorem Run.gone {room:iL}{ns:ai}{so:bp}{ho:aG}{cs:dh} (r:tQ) (nd:ns.Nodup):cs.map (·.1)=ns.filter fun z=>!(bG (z∈BD)):=by
 have f1:(aA,!(bG (z∈BD)))=fun z=>!(zem&&! decide (z∈cs.map (·.1))):=by
  funext z
  congr 1
  rw[Jr];unfold xaz;simp[Zy]
 rw[f1];clear f1
 induction r with
 | nil=>rfl
 | @inn ns so so' ho ho' cs nm r mt dm rc ih =>
  ext zB;have h1:nm∉ns:=(fR,(jI).2 nm h nm By rfl);have h2:nm∉cs.map (·.1):=fun h=>h1 (r.outs.1 nm h);rw[Yf,Je (bF h2),Wr,Qe];refine (ih nd.1).trans (QU wf);simp[hz]
 | @out ns so ho cs nm hs r c rc ih =>
  ext zB;have h1:nm∉ns:=(fR,(jI).2 nm h nm By rfl);rw[Yf,Jd aj,Wr,Zq]
  congr 1
  refine (ih nd.1).trans (QU wf);have:z≠nm:=fun e=>h1 (e▸hz);simp[hz,this]
noncomputable def xa3 (ps:aw) (srt:av) (nm:Str):av:=match WQ with
 | some p=>srt.filter (xb1 p)
 | none=>[]
theorem xoi {ps:aw}{srt:av} (h:srt.length<=32) (nm:Str):(xa3 ps srt nm).length<=32:=by
 unfold xa3;split
 .exact ZJ qy h
 .exact ZQ _
inductive CrL (H:Hp):bX dh az
 | nil:CrL H [] []
 | cons {c:E4}{q:Addr}{cs:dh}{qs:az} (h:aE q (.lst ((FR).map V.str))) (r:Kc):CrL H (c::cs) sH
theorem CrL.len {H:Hp}{cs:dh}{qs:az} (h:Kc):zba:=by
 induction h with
 | nil=>rfl
 | cons _ _ ih=>simp[ih]
theorem CrL.snoc {H:Hp}{cs:dh}{qs:az} (h:Kc) {c:E4}{q:Addr} (e:aE q (.lst ((FR).map V.str))):CrL H (cs++[c]) (qs++[q]):=by
 induction h with
 | nil=>ext Lb
 | cons h _ ih=>ext Ck
theorem CrL.get {H:Hp}{cs:dh}{qs:az} (h:Kc) {i:Nat}{q:Addr} (e:BE):∃ c,(aF cs c)/\(aE q (.lst ((FR).map V.str))):=by
 induction h generalizing i with
 | nil=>ext nH
 | @cons c q' cs qs h _ ih =>
  cases i with
  | zero =>
   ext Lc c
  | succ j=>ext uC
theorem CrL.keep {H H':Hp}{cs:dh}{qs:az} (h:Kc) (k:∀ q∈qs,(NK q)):CrL H' cs qs:=by
 induction h with
 | nil=>ext eI
 | cons h r ih=>exact .cons (k _ gE _ h) (ih fun q hq=>k q (Zi _ hq))
inductive xsi (t:Adr) (vs:ag) (H:Hp) (Q:VK) (_:XK):Prop
 | mk (a ln dp do_:Addr) (w h:Nat) (ps:aw) (ss srt:av) (names:ai) (e_:vs=[aB,wM]) (r_:Dr t H a dp do_ w h ps ss srt/\(ax,GE,OS,names.Nodup,sZ,∀ H' l qs cs so ho,cG->iP->(kM,GB,CrL H' cs qs,(∀ q∈qs,(bI q)),A5 names,bH)))
theorem xt2 {ps:aw}{nm:Str} (h:zaJ):∃ p,(RS (aA zfd) p)/\zV/\p.nm=nm:=by
 cases e:ps.find? (fun z=>zfd) with
 | none =>
  ext ae p hp en h;show(Oo,en,Ye.mp e p hp)
 | some p=>exact(iQ,p,Jm e,D3 (Wq (p:=fun z:Pt=>zfd) e))
noncomputable def FRm (l2:Addr) (ps:aw) (srt:av) (names:ai) (i:Nat) (ys:ag) (H:Hp):Prop:=∃ L:(zQ,Addr × Str × az),(zhz,FN,yN,aE cK (.lst ((lQ).2.map V.ref)),xak H (xa3 ps srt FN) (lQ).2)
theorem xn8 {d:Addr}:∀(L:Ix) {H:Hp}{kvs:aI},oK->zpu ->
    ∃ H2 kvs2,xej d H (yQ (V.str aZ,V.ref dH)) H2/\(zgr d kvs2)/\(G6 d)/\((L.map (·.1)).Nodup->∀ x∈L,valV kvs2 (.inr aZ)=some (.ref dH))/\∀ k,(∀ x∈L,k≠.inr aZ)->valV kvs2 k=lE
  | [],H,kvs,e,_=>⟨85,H,kvs,.nil,e,PX,B3 (nomatch z),fC⟩
  | x::L,H,kvs,e,hn=>by
    rw[ZG] at hn;have lp:=xbm kvs (.inr aZ) (.ref dH);obtain⟨H2,kvs2,dps,e2,k2,v2,o2⟩:85:=xn8 L (H:=fe H d (putK kvs (.inr aZ) (.ref dH))) xl aa;refine⟨85,H2,kvs2,d4 (wE,.inr aZ,e,xc3 aa) dps,e2,fun b u nb eb=>k2 _ _ nb (bE nb eb),aL nd y hy,au k hk⟩
    . ext zd
      rcases dI hy with rfl|hy
      . rw[o2 _ (df,z,hz,nd.1 (by rw[ZW.inj e]; exact Zg.mpr (dk z hz))),xco,bW]
      . exact v2 jI y hy
    . rw[o2 k (uB,hk y rW),xco,ay (hk x gE)]
theorem xjx (T:aV):FnOk true P w K mg base aU 7 t.f_crowds t.d_crowds pR (xsi t):=by
 refine T.F_crowds.okn (k:=6) xdq (aY E) (fun cdv A outer s H vs Q E hr h=>?_)
 .obtain ⟨a,ln,dp,do_,w',h',ps,ss,srt,names,rfl,_⟩:=h;rfl
 .obtain ⟨a,ln,dp,do_,w',h',ps,ss,srt,names,rfl,h⟩:=h;refine⟨_,xh (pS 2 xdq.nd (Gr (xav rfl (xau (zs:=["name"]) (ys:=pW) (fr:=[0]) (N0:=["picture", "names", "rooms", "seating", "found", "name", "crowd"]) (sc0:=xp xf7) aP rfl rfl rfl) wV fj eP eW (vz (fZ 0 (xag fw T.c_a T.m_i (ok_i T) bi T.b_i .nil xq qz))))))
   (xh (pS 3 xdq.nd (xmo T.k_ac (ok_al T) bi rfl T.g_ac T.b_al .nil xq))
   (xh (pS 4 xdq.nd (xb0 (xi)))
   (xh (xbf ZB rfl wV (pN 5 xdq.nd) (xh (pS 6 xdq.nd (xag h7 T.c_ac T.m_f (ok_f T) bi T.b_f .nil xq (iN 5 2)))
   (uc (xmv (pv 6) p5) (qE (xdw Jj JA J9 xcb jd (gG 6))))))
   (wc 4)))),?_⟩
  refine sq5 ?_; intros; obtain⟨dr,hln,nps,nnd,n12,q⟩:46:=h;show(ap,s32,srt.length<=32,Nk,jp ln hln vQ);refine xi3 (bb hln) xZ hl2 (FRm l2 ps srt names) znM ?_ (fun i x ys H3 hx s3 el3 f3 N hN=>?_) (fun ys H3 s3 el3 ly3 f3=>?_)
  .rintro i ys zs H3 H4 hz4 k4 (⟨L,e1,e2,e3,e4⟩:64);refine o3 L e1 e2 e3 rJ;obtain⟨a1,a2,a3,a4,a5⟩:45:=e4 x hx;exact(bO,a1,a2,k4 _ _ a2 a3,k4 _ _ a1 a4,a5.keep (zeb hz4))
  .ext Hr nm hnm;show(b9,pt,hf,hpm,epn,xt2 zcN);subst epn;have dr3:=dr.same s3;show(Io,dx3,hp3,dr3.pic);refine⟨a,dx3,_,rfl,hp3,bM,a,dp,do_,w',h',ps,ss,pt,rfl,dr3.pic,dr3.sts,dr.ok,dr.nm _ hpm,hf,fun H4 l4 srt' rs4 s4 fl4 pm4 lt4 e4 sl4=>?_⟩;show(cX,srt'=srt,xcq xeg (pm4.trans dr.pm.symm) lt4 dr.lt);ext iO f7 u hu;show(Oe,ez H4 u (Mi pt.nm l4),hu);show(cC,e34,∀ c u,Pw->zdd,(uR,s5 _ _ (s4 _ _ e)),hN _ _ zgn ?_);obtain⟨L,e1,e2,e3,e6⟩:64:=f3;refine(o3,L++[(u,l4,pt.nm,rs4)],kN e1 Zq,kN Zr e2,?_,rJ)
   .rw [Zq,e3,ZT,hnm];rfl
   .rcases UL with hx|hx
    .obtain ⟨a1,a2,a3,a4,a5⟩:45:=e6 x hx;exact(bO,a1,a2,e34 _ _ a3,e34 _ _ a4,a5.keep (jz,e34 _ _ e))
    .rw [Zp.mp hx];refine(bO,lX el3 fl4,lX (iT el3) hu,g5,dP e4,?_);have er:xa3 ps srt' pt.nm=zaC:=by
      unfold xa3;rw[hf]
     show(uW,xak H5 (xa3 ps srt' pt.nm) rs4,er,sl4.keep (Same.tups s5))
  rw[Za] at f3;obtain⟨L,rfl,e2,e3,e4⟩:64:=f3;rw[TN] at e3;refine(xP,l2,yQ (aZ,V.str FN,V.ref cK),aD Z0 el3,?_,au d hd)
  .intro p hp
   ext eG x hx hp;exact uT (e4 x hx)
  have fd:bI d:=s3.free hd;obtain⟨H6,kvs6,dps,e6d,k6,v6,_⟩:85:=xn8 (d:=d) (yQ (FN,cK)) (H:=fe H3 d []) xl (by rw[Za]; simp; omega);refine bv Cz H6 eZ ?_ ?_
  .rw [Z0] at dps ⊢;exact dps
  show(nM,k36,(sG,H3 b=some u,H6 b=some u),k6 _ _ (xk e hd) (bE (xk e hd) e));show(nM,s06,gK H6,k36 _ _ (s3 _ _ e));have rmd:RmD H6 d names v0:=⟨kvs6,e6d,fun nm hnm=>by
   rw[<- e3] at hnm;ext eG x hx hnm;obtain⟨a1,a2,a3,a4,a5⟩:45:=e4 x hx;refine(bv,cK,(lQ).2,v6 ?_ (FN,cK) (Zg.mpr Tv),k36 _ _ a4,a5.keep (jz,k36 _ _ e));show(aK,Z0,e3▸nnd)⟩
  refine bC p dx hp hdx ne;show(lZ,p,dx,rfl,xl,fun H8 d1 d2 hd1 hd2 k8 sg8=>FF);have up:(je,CK (upd H6 dx (.own p)) p (lY t.C_ac []) b,H6 b=none):=fun b z=>by
   cases e:H6 b with
   | none=>rfl
   | some u=>ext zgF FC
  show(nM,s68,Same H6 H8,k8 b u (xk e hp) (qr FC Lu e));show(af,fd1,up _ hd1,fd2,up _ hd2);show(iO,nu leS0,lf,hlf);generalize eu:cF H8 lf []=H9;ext xW; ext jh s9 hlf g9;show(af,s69,s68.trans s9,s09,s06.trans s69);have nd1:d≠d1:=xk e6d fd1;have nd2:d≠d2:=xk e6d fd2;have sg9:=sg8.same s9;show(mf,kz1,hkz1,sg8.so);show(mf,kz2,hkz2,sg8.ho);obtain⟨dxz,hpz⟩:=id sg8.ins;have nf1:lf≠d1:=lX hkz1 hlf;have nf2:lf≠d2:=lX hkz2 hlf;have nfp:lf≠p:=lX hpz hlf;have flf:H6 lf=none:=s68.free hlf;have room32:=xoi (ps:=ps) s32;show(Aa,ln,s09 _ _ hln)
  let Pv (i:Nat) (Z:L2.St) (H10:Hp):Prop:=∃(v5 v6:bS) (qs:az) (cs:dh) (so:bp) (ho:aG),(hZ,Z,[cV,kP,eQ,bu p,bu lf,v5,v6],Same H6 H10,H10 lf=some (.lst (qs.map V.ref)),(ax,CrL H10 cs qs,(∀ q∈qs,(ax,zfZ,q≠d1,q≠d2,q≠p,q≠lf)),cs.length<=i,Sg t H10 p d1 d2 (30*i) so ho,A5 yN))
  show(zcF,(oE _ [] [] ⟨86,_,_,rfl,s69,g9,.nil,jP,⟨bo,sg9,.nil⟩⟩))
  .show(zmA,H10,s10,s10 _ _ (s06 _ _ hln))
  .rintro i x Z H10 hx (⟨v5,v6,qs,cs,⟨so,ho,rfl,s10,e10,cr10,fq,ci,sg10,run⟩⟩:121);ext zsB; ext sT nm hnm;have il:=ir hnm;obtain⟨dx10,hp10⟩:=sg10.ins;have tk1:names.take aM=yN++[nm]:=by
    rw[ZT,hnm];rfl
   have tnd:(names.take aM).Nodup:=(QS _ _).nodup nnd;have dm:=run.dom ((QS _ _).nodup nnd);have nni:nm∉yN:=fun z=>by
    show(oW,tk1,ZL,tnd,tnd.2.2 nm z nm By rfl)
   have sn:Cu nm:=by
    have z:=dm nm;rw[tz nni,Yi] at z;cases e:so nm with
    | none=>rfl
    | some s=>ext cH e z
   have rmd10:RmD H10 d names v0:=by
    show(ae,kv,e,f,id rmd);show(aJ,kv,s10 _ _ e,(uz,let ⟨l,rs,b1,b2,b3⟩:=f z hz; (bv,l,rs,b1,s10 _ _ b2,b3.keep (Same.tups s10))))
   show(mf,kw1,hkw1,sg10.so);show(mf,kw2,hkw2,sg10.ho);refine⟨p,dx10,_,rfl,hp10,xmm aP,p,d1,d2,d,30*i,v0,so,ho,names,nm,rfl,sg10,aa,run.mt,sn,rmd10,nd1,wf,Zn hnm,n12,room32,?_,?_⟩
   .rw [dm z,Z9] at hz;exact Q9 (of_decide_eq_true hz.1)
   .intro H11 l11 so' ho' kb fl11 e11 sg11 mt11 dm11 rc11
    ext ztk; refine(cq,.inl (cP,bb e11),ifN ao ?_);show(ap,k11,(sG,H6 b=some u,H11 b=some u),(kU,kb _ _ (xk e fd1) (xk e fd2) (s10 _ _ e)),oE _ qs cs ⟨86,so',ho',rfl,k11,kb _ _ nf1 nf2 e10,cr10.keep (fun z hz u e=>kb _ _ (bg (fq z hz)) (uT (fq z hz)) e),fq,(fJ,aa,sg11.le aa)⟩);show(aK,tk1,.inn run mt11 dm11 rc11)
   .intro H11 l11 hs s11 fl11 e11 cw rc11
    refine(cq,.inl (cP,bb e11),ifP fH ?_);show(sM,e11f,s11 _ _ e10,⟨qX e11f,lf,_,_,rfl,rfl,e11f,?_,?_⟩)
    .rw [Za,cr10.len];exact xc3 aa
    have nl:l11≠lf:=lX e10 fl11;have kl:(iE,lf,H11 c=some u,kX H11 lf (.lst (A9++[.ref l11]))):=(om,bE nc e)
    show(ap,tl,Tups H11 (cF H11 lf (A9++[.ref l11])),(uy,kl _ _ (dQ e11f) e),(oE,_,qs++[l11],zeh,⟨86,so,ho,rfl,(uR,kl _ _ (xk e flf) (s11 _ _ (s10 _ _ e))),Kw,((cr10.keep (fun z hz u e=>s11 _ _ e)).keep (fun z hz u e=>kl _ _ (b6 (b6 (fq z hz))) e)).snoc (kl _ _ nl e11),wf,(fJ,OB,((sg10.same s11).keep (d:=lf) (Z2 nfp) (Z2 nf1) (Z2 nf2) tl kl).le aa)⟩))
    .rcases UK with hz|hz
     .exact fq z hz
     .rw [Zp.mp hz];exact(bO,s10.free fl11,lX hkw1 fl11,lX hkw2 fl11,lX hp10 fl11,nl)
    .rw [tk1];exact .out run cw rc11
  .rintro Z H10 (⟨v5,v6,qs,cs,⟨so,ho,rfl,s10,e10,cr10,fq,ci,sg10,run⟩⟩:121);show(oW,Za,TN,run,(q H10 lf qs cs so ho (s06.trans s10) (s06.free flf) e10 cr10 (uz,s06.free (fq z hz).1) run))
noncomputable def xad (ps:aw):ai:=ps.map (·.nm)
inductive OutL (H:Hp):bX dh az
 | nil:OutL H [] []
 | cons {c:E4}{q l:Addr}{cs:dh}{qs:az} (h:zuK) (hl:aE l (.lst ((eK).map V.str))) (r:Sb):OutL H (c::cs) sH
theorem OutL.len {H:Hp}{cs:dh}{qs:az} (h:Sb):zba:=by
 induction h with
 | nil=>rfl
 | cons _ _ _ ih=>simp[ih]
theorem OutL.keep {H H':Hp} (s:cG) {cs:dh}{qs:az} (h:Sb):OutL H' cs qs:=by
 induction h with
 | nil=>ext eI
 | cons h hl _ ih=>exact .cons Mo (s _ _ hl) ih
theorem OutL.get {H:Hp}{cs:dh}{qs:az} (h:Sb) {i:Nat}{q:Addr} (e:BE):∃ c l,(aF cs c)/\zuK/\(aE l (.lst ((eK).map V.str))):=by
 induction h generalizing i with
 | nil=>ext nH
 | @cons c q' l cs qs h hl _ ih =>
  cases i with
  | zero =>
   ext Br;exact eD c l h hl
  | succ j=>ext uC
noncomputable def FOu (H0:Hp) (l2:Addr) (cs:dh) (i:Nat) (ys:ag) (H:Hp):Prop:=∃ L:(zQ,Addr × E4),(zhz,lQ,cs.take i,aE cK (.lst ((lQ).2.map V.str)),Cq cK)
noncomputable def OutF (H0 H:Hp) (l:Addr) (cs:dh) (qs:az):Prop:=∃ L:(zQ,Addr × E4),(bc,qs,yQ aZ,cs=(yQ lQ),∀ x∈L,(bD,Cq cK,cK≠l,zbC,aE cK (.lst ((lQ).2.map V.str))))
theorem xqq {H:Hp}:∀(L:(zQ,Addr × E4)),(∀ x∈L,zbC/\(aE cK (.lst ((lQ).2.map V.str))))->OutL H (yQ lQ) (L.map (j8 aZ))
 | [],_=>.nil
 | x::L,h=>.cons (h x gE).1 (h x gE).2 (xqq L zgg)
inductive xwu (t:Adr) (vs:ag) (H:Hp) (Q:VK) (_:XK):Prop
 | mk (a dp do_:Addr) (w h:Nat) (ps:aw) (ss srt:av) (e_:vs=fO) (r_:Dr t H a dp do_ w h ps ss srt/\Lq/\∀ H' l qs cs so ho,(bj,cG,iP,GB,OutL H' cs qs,(A5 eA)->OutF H H' l cs qs->Q bH H'))
inductive xv8 (t:Adr) (vs:ag) (H:Hp) (Q:VK) (_:XK):Prop
 | mk (a dp do_:Addr) (w h:Nat) (ps:aw) (ss srt:av) (e_:vs=fO) (r_:Dr t H a dp do_ w h ps ss srt/\Lq/\∀ H' l cs so ho,kM cG iP (BY l (.lst ((iC).map V.str))) (A5 eA) bH)
theorem xxn {α:V}{xs:ag}:cutV (α::xs) (some 1) none=xs:=by
 unfold cutV;simp[HT.sIx]
theorem xqg {a b:Str}:dEq (.str a) (.str b)=decide (a=b):=xi9 rfl rfl ⟨(fR,DV.str.inj h),(fR,dF h)⟩
theorem ok_a3 (T:aV):FnOk true P w K mg base aU 8 t.f_a3 t.d_a3 pW (xwu t):=by
 refine T.F_a3.okn (k:=7) sc_a3 (aY E) (fun cdv A outer s H vs Q E hr h=>?_)
 .obtain ⟨a,dp,do_,w',h',ps,ss,srt,rfl,_⟩:=h;rfl
 .obtain ⟨a,dp,do_,w',h',ps,ss,srt,rfl,h⟩:=h;refine⟨_,xh (xe1 rfl (xau (zs:=["point"]) (ys:=[]) (fr:=[]) (N0:=pR) (sc0:=xp s_a3) aP rfl rfl rfl) (xal (xcc bz T.c_a T.m_q (ok_q T) bi T.b_q .nil xq)) fj eP eW Gs (j:=1) rfl FZ)
   (d8 (xav rfl (xau (zs:=["crowd"]) (ys:=[]) (fr:=[]) (N0:=pR) (sc0:=xp s_a3) aP rfl rfl rfl) (xal (pC (xjx T) hr T.g_crowds T.F_crowds.kp T.b_crowds BS)) fj eP eW (vz (iK (xae (r:=rIxL K) xa4 bz (xo) fC) (xd5 (r:=rSlL K) xi8 bz (xep (xo)) xeo))))),?_⟩
  refine sq2 ?_; intros; ext gX dr nnd q h;have p12:=dr.pic.len;show(Io,dx,hpi,dr.pic);refine⟨a,dx,_,rfl,hpi,bM,a,dp,do_,w',h',ps,rfl,dr.pic,fun H1 l1 ds s1 e1 pt1=>?_⟩;have dll:=pt1.len;show(nX,l1,e1,l2,hl2,xbp L6 xZ hl2 zoO pB (fun i x H2 hx s2 N hN=>?_) (fun ys H2 s2 e2 ly fy=>?_))
  .ext rF;show(ae,p,hp,hpq,pt1.get hqa);exact(yr,qa,E9,h8 hpq,hN _ _ kq E3)
  have ey:ys=(eA).map V.str:=by
   show(zfP,(by rw[ly,Za,dll]; unfold xad; rw[Za]),p,hp);unfold xad at hb;ext HU hp
  rw[ey] at e2;have s02:=s1.trans s2;refine⟨a,l2,dp,do_,w',h',ps,ss,srt,eA,rfl,⟨46,dr.same s02,e2,au nm hnm,nnd,by unfold xad; ext aK Za p12,fun H3 l3 qs cs so ho s3 fl3 e3 cr3 fq3 run=>?_⟩⟩
  .show(dL,p,hp,e,Zg.mp hnm);ext aJ p hp e
  have ol:=Tc;ext MW nl
  show(af,qcl,cr3.len,s03,s02.trans s3);show(nX,l3,e3,l4,hl4,xi3 (bb e3) xZ hl4 (FOu H l4 cs) znM ?_ (fun i x ys H5 hx s5 el5 f5 N hN=>?_) (fun ys H5 s5 el5 ly5 f5=>?_))
  .rintro i ys zs H5 H6 hz k6 (⟨L,b1,b2,b3,b4⟩:64);refine o3 L b1 b2 b3 rJ;obtain⟨a1,a2,a3,a4,a5⟩:45:=zD;exact(bO,a1,a2,k6 _ _ a2 a3,k6 _ _ a1 a4,a5)
  .ext rF;show(ae,c,hc,hcq,cr3.get hqa);show(sM,hcq5,dP hcq,kJ qa 0 wN (sK,bb hcq5,xea (j:=0) rfl,jA 1 (zK,qa,bb hcq5,lh,hlh)));rw[Zo,xxn];show(G8,upd H5 lh (.lst ((eK).map V.str)),hlh);ext iO f7 u hu;show(zbB,ez H6 u (Mi gQ lh),hu);refine hN _ _ Kh ?_;obtain⟨L,b1,b2,b3,b4⟩:64:=f5;refine(o3,L++[(u,lh,c)],kN b1 Zq,kN Zr b2,?_,rJ)
   .rw [Zq,b3,ZT,hc];rfl
   .rcases UL with hx|hx
    .obtain ⟨a1,a2,a3,a4,a5⟩:45:=zD;exact(bO,a1,a2,yH a3,yH a4,a5)
    .rw [Zp.mp hx];exact(bO,lX el5 hlh,lX (fQ el5) hu,g7,s7 _ _ g6,(zfi).free hlh)
  rw[Za] at f5;obtain⟨L,rfl,b2,b3,b4⟩:64:=f5;rw[qcl,TN] at b3;have ol5:=xqq L (zP ⟨uT zD,bg (b6 zD)⟩)
  show(cJ,b3,ol5,q H5 l4 (yQ aZ) cs so ho zfi (s03.free hl4) (kN el5 Z0) ol5 run (iQ,L,b3.symm,zP (cI,(b6,(zD).2).2,(zD).1,uT zD,bg (b6 zD))))
theorem xu8 (T:aV):FnOk true P w K mg base aU 9 t.f_kept t.d_kept pW (xv8 t):=by
 refine T.F_kept.okn (k:=8) xod (aY E) (fun cdv A outer s H vs Q E hr h=>?_)
 .obtain ⟨a,dp,do_,w',h',ps,ss,srt,rfl,_⟩:=h;rfl
 .obtain ⟨a,dp,do_,w',h',ps,ss,srt,rfl,h⟩:=h;refine⟨_,xh (AG 1 xod.nd (xav rfl (xau (zs:=["name", "holders"]) (ys:=[]) (fr:=[]) (N0:=Fd "out") (sc0:=xp xgx) aP rfl rfl rfl) (xal (pC (ok_a3 T) hr T.g_a3 T.F_a3.kp T.b_a3 qz)) MR (xer Ds) eW DF))
   (d8 (xav rfl (xau (zs:=["point"]) (ys:=["out"]) (fr:=[1]) (N0:=Fd "out") (sc0:=xp xgx) aP rfl rfl rfl) (xal (xcc bz T.c_a T.m_q (ok_q T) bi T.b_q .nil xq)) fj eP (PP (xab (r:=zfY) Sa zoX fw fH)) Gs)),?_⟩
  refine sq2 ?_; intros; ext gX dr nnd q h;show(sM,p12,dr.pic.len,⟨a,dp,do_,w',h',ps,ss,srt,rfl,dr,nnd,fun H1 l1 qs cs so ho s1 fl1 e1 ol1 run _=>?_⟩);have ol:=Tc;ext MW nl
  have qcl:=ol1.len;show(nX,l1,e1,l2,hl2,xbp L6 xZ hl2 zoL pB (fun i x H2 hx s2 N hN=>?_) (fun ys H2 s2 e2 ly fy=>?_))
  .ext rF;show(MD,c,lh,hc,hcq,ol1.get hqa);exact(kJ,qa,rfl,dR (h8 hcq),hN _ _ kq (dk c hc))
  have ey:ys=(cs.map (·.1)).map V.str:=by
   ext WM qcl
  rw[ey] at e2;show(af,s02,oh,dr2,dr.same s02);show(Io,dx,hpi,dr2.pic);refine⟨a,dx,_,rfl,hpi,bM,a,dp,do_,w',h',ps,rfl,dr2.pic,fun H3 l3 ds s3 e3 pt3=>?_⟩;have dll:=pt3.len;show(af,e23,jK e2,s03,s02.trans s3);refine(jp,l3,e3,au l4 hl4);have odv:∀{H5:Hp},Same H3 H5->Dv K H5 1 (.ref l2) (.lst ((cs.map (·.1)).map DV.str)):=fun {H5} s5=>.lst (bb (dP e23)) aj fun j x d h1 h2=>by
   ext zio
  have oin:∀ nm:Str,(((cs.map (·.1)).map DV.str).any (aA,dEq z (.str nm)))=decide (nm∈cs.map (·.1)):=fun nm=>by
   ext M9
   .ext zkf
   .ext zoZ
  refine xdu (bb e3) xZ hl4 (fun i=>((ps[i]?).map fun p=>! decide (p.nm∈cs.map (·.1))).getD false) zoO pB (fun i x H5 hx s5 N M hN hM=>?_) (fun ys H5 s5 e5 ly fy=>?_)
  .ext rF;show(ae,p,hp,hpq,pt3.get hqa);show(sM,hpq5,dP hpq,yr qa E9 hpq5 ⟨0,1,E9,_,.str,odv s5,ao,ao,_,rfl,EB y⟩)
   .rw [bW,oin] at y;exact(yr,qa,E9,hpq5,hN _ _ kq (aD hp y) E3)
   .rw [bW,oin] at y;ext So hp
  have fi:=xhn (fun p:Pt=>! decide (p.nm∈cs.map (·.1))) (as:=ps) (p:=fun i=>((ps[i]?).map fun p=>! decide (p.nm∈cs.map (·.1))).getD false) zbN;rw[Za,dll] at ly fy;have ek:iC=(ps.filter fun p=>! decide (p.nm∈cs.map (·.1))).map (·.nm):=by
   unfold xaz xad;rw[Ws];rfl
  have ey2:ys=(iC).map V.str:=by
   rw[ek];show(zck,(by rw[ly,Za,fi.1]));have hj:i<((Zx ps.length).filter fun i=>((ps[i]?).map fun p=>! decide (p.nm∈cs.map (·.1))).getD false).length:=by
    ext zgI
   show(lU,p,hp,fy i y _ hy xI);rw[fi.2 i _ xI] at hp;ext HU hp
  show(cJ,ey2,e5,q H5 l4 cs so ho zfi (s03.free hl4) e5 run)
theorem Run.crowd {room:iL}{ns:ai}{so:bp}{ho:aG}{cs:dh} (r:tQ) (nd:ns.Nodup):∀ c∈cs,∃ so0 ho0,Kp.Mt room so0 ho0/\Kp.Crowd room so0 gQ eK/\(Ui FR ns):=by
 induction r with
 | nil=>exact jP
 | inn _ _ _ _ ih =>
  intro c hc;ext zB;obtain⟨so0,ho0,a1,a2,a3⟩:83:=ih nd.1 c hc;ext zng
 | @out ns so ho cs nm hs r cw rc ih =>
  intro c hc;ext zB;rcases Zw.mp hc with hc|hc
  .obtain ⟨so0,ho0,a1,a2,a3⟩:83:=ih nd.1 c hc;ext zng
  .rw [Zp.mp hc];refine bv so ho r.mt cw wf;rcases dI hz with rfl|hz
   .exact FL
   .have k:=cw.has z hz;show(oW,r.dom nd.1 z,Z9,k,ZF _ (of_decide_eq_true k.1))
theorem Run.ahead {room:iL}{ns:ai}{so:bp}{ho:aG}{cs:dh} (r:tQ) (nd:ns.Nodup):∀ c∈cs,∀ h∈eK,h∈BD/\ns.idxOf h<ns.idxOf gQ:=by
 have ix:∀{ns:ai}{nm h:Str},h∈ns->(mI).idxOf h=ns.idxOf h:=fun {ns nm h} m=>(cA,List.idxOf_append,aC m)
 induction r with
 | nil=>exact jP
 | @inn ns so so' ho ho' cs nm r mt dm rc ih =>
  intro c hc h hh;ext zB;obtain⟨a1,a2⟩:=zuE;have m1:=qv a1;have m2:gQ∈ns:=r.outs.1 _ (BX c hc);rw[ix m1,ix m2];show(aO,(Ly,ZF _ m1,(Zy.mp a1).2),a2)
 | @out ns so ho cs nm hs r cw rc ih =>
  intro c hc h hh;ext zB;have h1:nm∉ns:=(fR,(jI).2 nm h nm By rfl);have up:∀ z,z∈BD->z∈xaz mI zeh:=fun z hz=>by
   have k:=Zy.mp hz;refine Zy.mpr (eS,ZF _ k.1);have ne:z≠nm:=fun e=>h1 (e▸k.1);have k2:=k.2;rw[Zq];simp only[Qn,decide_eq_false_iff_not] at k2 ⊢;intro m;rcases Zw.mp m with m|m
   .exact k2 m
   .exact ne (Zp.mp m)
  rcases Zw.mp hc with hc|hc
  .obtain ⟨a1,a2⟩:=zuE;have m1:=qv a1;have m2:gQ∈ns:=r.outs.1 _ (BX c hc);rw[ix m1,ix m2];show(aO,up h a1,a2)
  .have hc:=Zp.mp hc;subst hc;have k:=cw.has h hh;rw[r.dom nd.1 h,Z9] at k;have m1:=of_decide_eq_true k.1;show(dE,up h (Zy.mpr ⟨m1,k.2⟩),?_);rw[ix m1,List.idxOf_append,ay h1];show(bZ,YQ m1)
inductive xxk (t:Adr) (vs:ag) (H:Hp) (Q:VK) (_:XK):Prop
 | mk (a ln dp do_:Addr) (w h:Nat) (ps:aw) (ss srt:av) (names:ai) (e_:vs=[aB,wM]) (r_:Dr t H a dp do_ w h ps ss srt/\(ax,GE,OS,names.Nodup,sZ,∀ H' v cs so ho,bq cG (A5 names) (Ua,cs,[],∃ l c r,cs=c::r/\(bc v bH iP (BY l (.lst ((FR).map V.str))))) Ab))
theorem xvm (T:aV):FnOk true P w K mg base aU 8 t.f_fits t.d_fits pR (xxk t):=by
 refine T.F_fits.okn (k:=7) xn7 (aY E) (fun cdv A outer s H vs Q E hr h=>?_)
 .obtain ⟨a,ln,dp,do_,w',h',ps,ss,srt,names,rfl,_⟩:=h;rfl
 .obtain ⟨a,ln,dp,do_,w',h',ps,ss,srt,names,rfl,h⟩:=h;refine⟨_,xh (pS 2 xn7.nd (pC (xjx T) hr T.g_crowds T.F_crowds.kp T.b_crowds BS))
   (d8 (xib (xmv (pv 2) p5) (qi 2) (xcx))),?_⟩
  refine sq2 ?_; intros; obtain⟨dr,hln,nps,nnd,n12,q⟩:46:=h;show(bN,⟨a,ln,dp,do_,w',h',ps,ss,srt,names,rfl,⟨46,dr,hln,nps,nnd,n12,fun H1 l1 qs cs so ho s1 fl1 e1 cr1 fq1 run=>?_⟩⟩,(cq,.inl (cP L6),?_));cases cr1 with
  | nil=>exact ifN ao (q H1 .non [] so ho s1 run (.inl kL))
  | @cons c q0 cs qs h r =>
   refine ifP fH (kJ l1 0 rY (sK,L6,xea (j:=0) rfl,q H1 rY (c::cs) so ho s1 run (.inr ⟨104,q0,c,cs,rfl,rfl,fq1 q0 gE,h⟩)))
noncomputable def xev (f:nN) (g:Int):Bool:=match f with
 | none=>true
 | some y=>bG (g<jf)
noncomputable def look (own:bR) (rent:bL) (asked:aG) (a:Str) (f:nN) (x:Ki):nN :=
 (cM,znF,some (G3,a,aZ),f)
noncomputable def xf6 (lens:cN) (own:bR) (rent:bL) (asked:aG) (f:nN) (askers:ai):nN:=askers.foldl (fun f a=>(lens a).foldl (DK a) f) f
noncomputable def near (lens:cN) (own:bR) (rent:bL) (asked:aG) (askers:ai):nN:=xf6 lens own rent asked none askers
structure Best (own:bR) (rent:bL) (asked:aG) (P:IX) (f:nN):Prop where
 is_:∀ g a s,(Lx f a)->∃ l,P a (s,l)/\g=l-own a-Ge/\Ij
 le:∀ a x,P a x->asked aZ=none->∃ y,f=some y/\jf<=G3
theorem Best.congr {own:bR}{rent:bL}{asked:aG}{P P':IX}{f:nN} (b:Uu) (h:∀ a x,P a x↔P' a x):PQ P' f :=
 (zuD,(zbO,l,b.is_ g a s e,(h _ _).mp h1),b.le a x ((h _ _).mpr p))
theorem Best.look1 {own:bR}{rent:bL}{asked:aG}{P:IX}{f:nN} (b:Uu) (a:Str) (x:Ki):zab (a'=a/\x'=x) (look own rent asked a f x):=by
 unfold look;by_cases c:znF=true
 .rw [aC c];rw[Z9] at c;obtain⟨c1,c2⟩:=c;show(dE,cu g a' s e,fun a' x' p z=>bT ?_)
  .cases e;exact(ba,dH,.inr kL,rfl,by simpa using c1)
  .rcases p with p|⟨rfl,rfl⟩
   .show(dL,y,e,h,b.le a' x' p z);rw[e] at c2;have c2:G3<jf:=by simpa [xev] using c2
    show G3<=_;omega
   .exact Y9 _
 .ext ib c;show(dE,fun g a' s e=>(zbO,l,b.is_ g a' s e,.inl h1),cu a' x' p z);rcases p with p|⟨rfl,rfl⟩
  .exact b.le a' x' p z
  .rw [z] at c;have c:¬ xev f znE=true:=yu
   cases f with
   | none=>ext j4 c
   | some y =>
    have c:¬ znE<jf:=by simpa [xev] using c
    ext qJ y aa
theorem Best.row {own:bR}{rent:bL}{asked:aG} (a:Str):∀(xs:yF) {P:IX}{f:nN},Uu->(zab (a'=a/\x'∈xs) (xs.foldl (DK a) f))
 | [],P,f,b=>zjo z.2
 | sJ,P,f,b=>by
  refine (Best.row a xs (b.look1 a x)).congr (au a' x');constructor
  .rintro ((h|⟨h1,h2⟩)|⟨h1,h2⟩)
   .ext cY h
   .show(oI,h1,aD h2 gE)
   .show(oI,h1,Zi _ h2)
  .rintro (h|⟨h1,h2⟩)
   .ext Ug h
   .rcases dI h2 with h2|h2
    .show(Uf,⟨h1,h2⟩)
    .ext oI h1 h2
theorem Best.allF {lens:cN}{own:bR}{rent:bL}{asked:aG}:∀(as:ai) {P:IX}{f:nN},Uu->(zab (a'∈as/\x'∈lens a') (xf6 lens own rent asked f as))
 | [],P,f,b=>zjo z.1
 | a::as,P,f,b=>by
  refine (Best.allF as (b.row a (lens a))).congr (au a' x');constructor
  .rintro ((h|⟨h1,h2⟩)|⟨h1,h2⟩)
   .ext cY h
   .show(oI,aD h1 gE,aD h1 h2)
   .show(oI,Zi _ h1,h2)
  .rintro (h|⟨h1,h2⟩)
   .ext Ug h
   .rcases dI h1 with h1|h1
    .show(Uf,⟨h1,bJ h1 h2⟩)
    .ext oI h1 h2
theorem xkc (lens:cN) (own:bR) (rent:bL) (asked:aG) (as:ai):PQ (fun a x=>a∈as/\x∈lens a) (near lens own rent asked as) :=
 (Best.allF as (P:=pP) (f:=none) (zuD (nomatch e) p.elim)).congr fun a x=>⟨(fR,h.elim Yn id),.inr⟩
noncomputable def shO (own:bR) (askers:ai) (g:Int):bR:=(aA,if z∈askers then own z+g else own z)
noncomputable def shR (rent:bL) (asked:aG) (g:Int):bL:=aA (cM,(asked z).isSome,rent z-g,rent z)
noncomputable def setI (own:bR) (nm:Str) (v:Int):bR:=aA (kE,z,nm,v,own z)
noncomputable def xax (lens:cN):iL:=fun n=>(Ad).map (·.1)
structure xc8 (lens:cN) (ss:av):Prop where
 nd:∀ n,(Tf).Nodup
 b:∀ n x,x∈Ad->(qI dH 46)
 ins:HH
 snd:ss.Nodup
theorem xc8.one {lens:cN}{ss:av} (h:vP) {n:Str}{s:Seat}{l l':Int} (h1:(s,l)∈Ad) (h2:(s,l')∈Ad):l=l':=by
 have nd:=h.nd n;unfold xax at nd;obtain⟨i,hi,ei⟩:=ZM h1;ext zeA h2;have:i=j:=xtn nd (i:=i) (j:=j) (fL hi) (fL hj) (by rw[YX,YX,ei,ej]);ext qF;show(cJ,ei,ej,(W7.inj ej).2)
structure Fit (lens:cN) (names:ai) (so:bp) (ho:aG) (own:bR) (rent:bL):Prop where
 mt:xY
 dm:GK
 le:∀ n∈names,WK
 eq:zbm
 rl:zfV
 r0:zaa
 o0:∀ n∈names,0<=CZ
 ob:∀ n∈names,CZ<=1200
structure Grow (lens:cN) (names:ai) (name:Str) (so:bp) (ho:aG) (crowd:ai) (al:av) (asked:aG) (own:bR) (rent:bL):Prop where
 bf:Bf Le ho name crowd al asked
 le:Mw WK
 eq:zbm
 rl:zfV
 r0:zaa
 tr:zna
 o0:(Mw,0<=CZ)
 ob:zlz
section
variable {lens:Str->List (Seat × Int)}{names:List Str}{name:Str}{so:Str->Option Seat}{ho:Seat->Option Str}{crowd:List Str}{al:List Seat}{asked:Seat->Option Str}{own:Str->Int}{rent:Seat->Int}{ss:List Seat}
theorem Fit.grow (f:Fit lens names so ho own rent) (lo:vP) (nn:name∉names):Grow lens names name so ho [name] [] eX (setI own name 0) rent:=by
 have ne:∀ n∈names,n≠name:=(df,n,hn,nn (e▸hn));have so_in:(xN,F9,n∈names):=fun n s e=>by
  have:=f.dm n;rw[e] at this;ext zec
 refine⟨Bf.start,cu n hn x hx,bC n s e l hl,f.rl,f.r0,df s a (nomatch e),wg,fun n hn _=>?_⟩
 .unfold setI;rcases Fj with hn|hn
  .show(c9,ay (ne n hn),f.le n hn x hx)
  .rw [if_pos (Zp.mp hn)];have:=f.rl aZ;show(bZ,(lo.b n x hx).1)
 .unfold setI;show(lO,ne n (so_in n s e),f.eq n s e l hl)
 .unfold setI;split
  .exact Y9 _
  .rename_i h
   rcases Fj with hn|hn
   .exact f.o0 n hn
   .exact absurd (Zp.mp hn) h
 .unfold setI;show(lO,ne n hn,f.ob n hn)
theorem Bf.in_ (b:Bf Le ho name crowd al asked) (mt:xY) (dm:GK) {a:Str} (h:a∈crowd):a∈zew:=by
 obtain⟨k,hk,e⟩:=ZM h;rcases b.at_ mt (k:=k) (a:=a) (o6 hk e) with⟨_,z⟩|⟨j,s,_,_,z⟩
 .exact Z1 _ (Zp.mpr z)
 .have:=dm a;show(cJ,z,this,ZF _ (by ext zec))
theorem Bf.ask (b:Bf Le ho name crowd al asked) (s:Seat):(gT iZ)↔w8:=by
 constructor
 .intro h
  by_cases c:w8
  .exact c
  .show(gM,b.no s c);cases h
 .intro h
  obtain⟨j,hj,e⟩:=ZM h;obtain⟨k,a,_,_,e3,_⟩:84:=b.ak j s (o6 hj e);rw[e3];rfl
theorem Bf.asker (b:Bf Le ho name crowd al asked) {s:Seat}{a:Str} (e:pD):a∈crowd:=by
 have h:=(b.ask s).mp zX;ext zbF;obtain⟨k,a',_,e2,e3,_⟩:84:=b.ak j s (o6 hj ej);ext bA e e3 e3;exact Zn e2
theorem Bf.both (b:Bf Le ho name crowd al asked) (mt:xY) (sn:tV) {n:Str}{s:Seat} (e:F9):TH↔(gT iZ):=by
 rw[b.ask s];constructor
 .intro h
  obtain⟨k,hk,ek⟩:=ZM h;rcases b.at_ mt (k:=k) (a:=n) (o6 hk ek) with⟨_,z⟩|⟨j,t,_,hj,z⟩
  .ext vX z sn
  .rw [e] at z;cases z;exact Zn hj
 .intro h
  ext zbF;ext zR x zva;have:=(mt.iff x s).mpr e2;rw[mt.inj e this];exact Zn e1
structure Gap (lens:cN) (crowd:ai) (asked:aG) (own:bR) (rent:bL) (g:Int) (a:Str) (s:Seat):Prop where
 g0:0<=g
 ac:a∈crowd
 rm:s∈xax lens a
 na:Ij
 eq:(zbh,lens a,own a+g)
 mn:∀ b∈crowd,∀ x∈CB,asked aZ=none->own b+g+rent aZ<=dH
theorem Grow.gap (w:Grow lens names name so ho crowd al asked own rent) (lo:vP) (mt:xY) (dm:GK) {g:Int}{a:Str}{s:Seat} (e:Tx):Gap lens crowd asked own rent g a s:=by
 ext zpD;obtain⟨l,⟨h1,h2⟩,h3,h4⟩:63:=B.is_ g a s e;refine⟨?_,h1,Zg.mpr (cP h2),h4,au l' hl',bC b hb x hx z⟩
 .have:=w.le a (w.bf.in_ mt dm h1) (s,l) h2;have:own a+Ge<=l:=this;omega
 .show(bZ,lo.one h2 hl')
 .show(dL,y,ey,hy,B.le b x ⟨hb,hx⟩ z);ext bA e ey ey;have hy:g<=dH-own b-rent aZ:=hy;omega
structure Mid (lens:cN) (names:ai) (name:Str) (so:bp) (ho:aG) (crowd:ai) (asked:aG) (own:bR) (rent:bL):Prop where
 le:Mw WK
 eq:zbm
 rl:zfV
 r0:zaa
 tr:zna
 o0:(Mw,0<=CZ)
 ob:zlz
theorem Grow.shift (w:Grow lens names name so ho crowd al asked own rent) (mt:xY) (sn:tV) {g:Int}{a:Str}{s:Seat} (p:Gap lens crowd asked own rent g a s):Mid lens names name so ho crowd vw pL pH:=by
 show(sM,g0,p.g0,⟨cu n hn x hx,bC n t e l hl,c8 t,Tq,bC t b e l hl,wg,aL n hn hc⟩)
 .have base:=w.le n hn x hx;unfold shO shR;by_cases c1:TH<;>by_cases c2:gT (asked aZ)
  .ext uj c1 c2; omega
  .rw [aC c1,L8];show(bZ,p.mn n c1 x hx (by simpa using c2))
  .rw [ay c1,aC c2]; omega
  .rw [ay c1,L8]; omega
 .show(af,base,w.eq n t e l hl,iff,w.bf.both mt sn e);unfold shO shR;by_cases c1:TH
  .rw [aC c1,if_pos (iff.mp c1)]; omega
  .rw [ay c1,(mq,c1 (iff.mpr z))]; exact base
 .have:=w.rl t;unfold shR;ext iG
 .have z:¬ (gT (asked t)):=fun z=>by
   have h:=(w.bf.ask t).mp z;ext zbF;show(zi,x,e2,w.bf.hd j t (o6 hj ej));ext cH ht e2
  unfold shR;show(lO,z,w.r0 t ht)
 .ext zuR
  .rename_i h
   cases e;subst h;have:=p.eq l hl;unfold shO shR;rw[aC p.ac,ay (aD p.na Z7)];omega
  .have:=w.tr t b e l hl;unfold shO shR;rw[if_pos (w.bf.asker e),aC zX];omega
 .have:=w.o0 n hn;unfold shO;ext iG
 .unfold shO;show(lO,hc,w.ob n hn hc)
theorem Grow.more (w:Grow lens names name so ho crowd al asked own rent) (mt:xY) (sn:tV) {g:Int}{a h:Str}{s:Seat} (p:Gap lens crowd asked own rent g a s) (hh:DU):Grow lens names name so ho Bx oF vw pL pH:=by
 have m:=w.shift mt sn p;show(zeG,p.ac);have ns:s∉al:=fun z=>by
  have:=(w.bf.ask s).mpr z;show(Bv,p.na)
 exact⟨w.bf.add (i:=i) Kt p.rm ns hh,m.le,m.eq,m.rl,m.r0,m.tr,m.o0,fun n hn hc=>m.ob n hn (aA,hc (ZF _ z))⟩
theorem Grow.nearest (w:Grow lens names name so ho crowd al asked own rent) (lo:vP) (mt:xY) (dm:GK) (sn:tV) {so2:bp}{ho2:aG} (mt2:Kp.Mt (xax lens) so2 ho2) (all:Mw (gT (so2 n))):∃ g a s,Tx:=by
 cases e:Db with
 | some y=>exact⟨101,jf,bg y,b6 y,rfl⟩
 | none =>
  ext zpD;have allin:∀(k:Nat) (a:Str),FV->∀ s∈xax lens a,w8:=fun k a ha s hs=>by
   ext eG x hx hs;rw[<- w.bf.ask];cases z:asked aZ with
   | some _=>rfl
   | none =>
    show(fD,y,ey,B.le a x ⟨Zn ha,hx⟩ z);ext cH e ey
  show(ae,hs,ec,cr,w.bf.done mt sn allin);show(zkC,cr.count mt lo.snd lo.ins,lo.ins,all a (w.bf.in_ mt dm (aD ec ha)))
theorem xso {room:iL}{s0:Seat}{so':bp}{ho':aG} (h:ym sX Ol):(∀ n t,so' n=some t->(KI t)\/zbv)/\(zdY (gT (ho' t))):=by
 have key:∀(x y:Kp.KS Str Seat),Kp.Rch sX x y->x=Ol->(∃ so1 ho1 s1,(y=.hand so1 ho1 asked s1\/y=.fin so1 ho1)/\(∀ n t,so1 n=some t->(KI t)\/zbv)/\(zdY (gT (ho1 t)))):=by
  intro x y h
  induction h with
  | refl =>
   intro e;exact⟨103,so,ho,s0,.inl e,fun n t z=>.inl z,fun t z=>z⟩
  | step _ e ih =>
   intro ex;obtain⟨so1,ho1,s1,hy,p1,p2⟩:103:=ih ex;rcases hy with rfl|rfl
   .have put:∀ a,asked s1=some a->(∀ n t,Kp.upd1 so1 a s1 n=some t->(KI t)\/zbv)/\(zdY (gT (Kp.upd1 ho1 s1 a t))):=fun a ha=>by
     show(iO,aL n t z,t,z)
     .unfold Kp.upd1 at z;split at z
      .rename_i hn
       cases z;subst hn;ext fh ha
      .exact p1 n t z
     .unfold Kp.upd1;split
      .rfl
      .exact p2 t z
    cases ha:asked s1 with
    | none=>simp[Kp.kstep,ha] at e
    | some a =>
     cases hl:so1 a with
     | none =>
      show(bA,Kp.k_fin ha hl,e,e);exact⟨103,_,_,s1,Fq,(Uw).1,(Uw).2⟩
     | some l =>
      show(bA,Kp.k_hand ha hl,e,e);exact⟨103,_,_,l,eZ,(Uw).1,(Uw).2⟩
   .simp [Kp.kstep] at e
 obtain⟨so1,ho1,s1,hy,p1,p2⟩:103:=key _ _ h rfl;rcases hy with e|e
 .cases e
 .cases e;ext aO p1 p2
theorem Grow.last (w:Grow lens names name so ho crowd al asked own rent) (lo:vP) (mt:xY) (sn:tV) (dm:GK) (c12:zcx) {g:Int}{a:Str}{s:Seat} (p:Gap lens crowd asked own rent g a s) (hs:Bo) {so':bp}{ho':aG} (mt':Kp.Mt (xax lens) so' ho') (dm':Hq (IV||qY)) (rc:ym zqj (.hand so ho vw s)):Fit lens zew so' ho' pL pH:=by
 have m:=w.shift mt sn p;obtain⟨h1,h2⟩:=xso rc
 -- how far the prices of the crowd lie apart
 have dist:∀(k:Nat) (b:Str),(E8 b)->(Ss b)<=(Ss name)+46*iu/\(Ss name)<=(Ss b)+46*iu:=by
  intro k
  induction k using Nat.strongRecOn with
  | ind k ih =>
   intro b hb;rcases w.bf.at_ mt hb with⟨rfl,rfl⟩|⟨j,t,rfl,hj,hso⟩
   .exact j0 aa
   .obtain ⟨k0,a0,kj,e1,e2,e3⟩:84:=w.bf.ak j t hj;obtain⟨i1,i2⟩:=ih k0 aa a0 e1;show(Ak,x1,hx1,ex1,mt.rm b t hso);ext Ak x2 hx2 ex2 e3;have z1:=m.eq b t hso x1.2 (bJ ex1 hx1);have nt:¬ t=s:=fun z=>by
     have:=(w.bf.ask t).mpr (Zn hj);rw[z,p.na] at this;cases this
    have z2:=m.tr t a0 (by unfold Kp.upd1; ext lO nt e2) x2.2 (bJ ex2 hx2);show(af,y1,lo.b b x1 hx1,y2,lo.b a0 x2 hx2);ext aO aa aa
 refine⟨mt',lM,m.le,bC n t e l hl,m.rl,Tq,m.o0,wg⟩
 .rw [dm' z,dm z,Jr];simp only[Bool.or_eq_true,decide_eq_true_iff,Zw,Zp];exact or_comm
 .rcases h1 n t e with z|z
  .exact m.eq n t z l hl
  .exact m.tr t n z l hl
 .refine m.r0 t ?_;cases z:ho t with
  | none=>rfl
  | some _ =>
   have:=h2 t (d7 z);ext Bv ht
 .by_cases c:TH
  .obtain ⟨k,hk,ek⟩:=ZM c;show(zeG,p.ac);show(af,d1,dist k n (o6 hk ek),d2,dist i a Kt);show(Ak,x,hx,ex,p.rm);show(af,z1,m.tr s a XW dH (bJ ex hx),z2,m.r0 s hs);show(bZ,lo.b a x hx)
  .rcases Fj with hn|hn
   .exact m.ob n hn c
   .show(dM,(by rw[Zp.mp hn]; exact Zn w.bf.c0),c)
#check _
inductive LS where
 | go (own:bR) (rent:bL) (asked:aG) (crowd:ai)
 | hand (own:bR) (rent:bL) (asked:aG) (s:Seat)
noncomputable def xel (lens:cN) (ho:aG):LS->(dc LS)
 | XQ=>match Db with
  | none=>none
  | some (g,a,s)=>match ho s with
   | some h=>some (.go pL pH vw Bx)
   | none=>some (.hand pL pH vw s)
 | .hand _ _ _ _=>none
theorem a_go {lens:cN}{ho:aG}{own:bR}{rent:bL}{asked:aG}{crowd:ai}{g:Int}{a h:Str}{s:Seat} (e:Tx) (e2:DU):xel lens ho XQ=some (.go pL pH vw Bx):=by
 simp only[xel,e,e2]
theorem xyu {lens:cN}{ho:aG}{own:bR}{rent:bL}{asked:aG}{crowd:ai}{g:Int}{a:Str}{s:Seat} (e:Tx) (e2:Bo):xel lens ho XQ=some (.hand pL pH vw s):=by
 simp only[xel,e,e2]
inductive LRun (lens:cN):bq ai bR bL (bX bp aG)
 | nil:LRun lens [] UO UO eX eX
 | snoc {ns:ai}{own own':bR}{rent rent':bL}{so so':bp}{ho ho' asked:aG}{nm:Str}{s:Seat} (r:LRun lens ns own rent so ho) (ra:zjK (xel lens ho)) (rk:ym zqj (EU so ho)) (f:Fit lens mI so' ho' own' rent'):LRun lens mI own' rent' so' ho'
theorem LRun.fit {lens:cN}{ns:ai}{own:bR}{rent:bL}{so:bp}{ho:aG} (r:LRun lens ns own rent so ho):Fit lens ns so ho own rent:=by
 cases r with
 | nil=>exact⟨⟨ztL,ztE⟩,aA rfl,zbz,df n s (nomatch e),fun s=>Y9 _,fun s _=>rfl,zbz,zbz⟩
 | snoc r ra rk f=>exact f
theorem xgt {Z:L2.St}{H:Hp}{K:zF} (h:K [] H):tNil Z H K:=h
theorem xiv {k m:Str}{v:V}{r:lD} (e:Gn m k):(CT,Jv m ((k,v)::r)):=by
 rw[Zz,e]
theorem xcs {k m:Str}{v:V}{r:lD}{o:bS} (e:Gp m k) (h:Jv m r=o):Jv m ((k,v)::r)=o:=by
 ext cD Zz e h
noncomputable abbrev pzF (a dl d_o d_r p:Addr):lD:=[D5,DH,Rc,lq "rent" d_r,lq "seating" p]
theorem lkZp {a dl d_o d_r p:Addr}:(AE).lookup (fT "picture")=some aB:=xiv aP
theorem lkZl {a dl d_o d_r p:Addr}:(AE).lookup (fT "lengths")=some (.ref dl):=xcs aP (xiv aP)
theorem lkZo {a dl d_o d_r p:Addr}:(AE).lookup (fT "own")=some (.ref d_o):=XT
theorem lkZr {a dl d_o d_r p:Addr}:(AE).lookup (fT "rent")=some (.ref d_r):=xcs aP XT
theorem lkZs {a dl d_o d_r p:Addr}:(AE).lookup (fT "seating")=some (.ref p):=xcs aP (xcs aP XT)
theorem xgz {a dl d_o d_r p:Addr}{m:Str} (e:((["picture", "lengths", "own", "rent", "seating"]:ai).all fun k=>!(m == k))=true):(AE).lookup m=none:=by
 ext WR;obtain⟨e1,e2,e3,e4,e5,_⟩:46:=e;exact xcs e1 (xcs e2 (xcs e3 (xcs e4 (xcs e5 rfl))))
theorem valM {α κ:Type} [Ii] {k:α->κ} (inj:Nw) {f:α->V}{a:α}:∀{l:cT},a∈l->zma=some (f a)
 | x::l,h=>by
  by_cases c:k x=k a
  .rw [Zo,xbh c,inj _ _ c]
  .rw [Zo,xa6 c];rcases Zu.mp h with rfl|h
   .ext j4 c
   .exact valM inj h
theorem xfy {α κ:Type} [Ii] {k:α->κ} (inj:Nw) {f:α->V}{a:α}:∀{l:cT},a∉l->zma=none
 | [],_=>rfl
 | x::l,h=>by
  rw[Zu,not_or] at h;rw[Zo,xa6 (fun c=>h.1 (inj _ _ c).symm)];exact xfy inj h.2
theorem putM {α κ:Type} [Ii] [D2] {k:α->κ} (inj:Nw) {f:α->V}{a:α}{l:cT} (h:a∈l) (v:V):putK (zcE,f n) (k a) v=(zcE (kE,n,a,v,f n)):=by
 unfold putK;have e:((zcE,f n).any fun kv=>(d9,iS,k a))=true:=Jp.mpr ⟨(k a,f a),BX a h,decide_eq_true rfl⟩;rw[aC e,Z0];refine JB fun n _=>?_;show (if k n=k a then (k n,v) else (k n,f n))=_;ext jc n a
 .show(uj,dF c,c)
 .rw [if_neg (fun z=>c (inj _ _ z)),sr]
theorem inrI (a b:Str) (h:zbU):a=b:=ZW.inj h
theorem xei (a b:Seat) (h:xv a=xv b):a=b:=xdm h
noncomputable def OwD (H:Hp) (d:Addr) (names:ai) (own:bR):Prop:=aE d (.dK (names.map fun n=>(zft,zeu)))
noncomputable def RnD (H:Hp) (d:Addr) (ss:av) (rent:bL):Prop:=aE d (.dT (ss.map fun s=>(eJ,V.int (rent s))))
noncomputable def AkD (H:Hp) (d:Addr) (al:av) (asked:aG):Prop:=aE d (Dy,jG eJ ((iZ).getD (ZE "")))
noncomputable def LnT (xs:yF):dA:=xs.map fun x=>(xv aZ,V.int dH)
noncomputable def LnD (H:Hp) (d:Addr) (bad:az) (names:ai) (lens:cN):Prop:=∃ kvs:aI,oK/\kvs.length<=names.length/\∀ nm∈names,∃ q,zfs/\(aE q (.dT (LnT (lens nm))))/\q∉bad
structure Pz (t:Adr) (H:Hp) (pz a dl d_o d_r p d1 d2:Addr) (n:Nat) (names:ai) (ss:av) (lens:cN) (so:bp) (ho:aG) (own:bR) (rent:bL):Prop where
 ins:∃ dx,aE pz (MB AE)
 sg:Sg t H p d1 d2 n so ho
 ow:OwD H d_o names own
 rn:RnD H d_r ss rent
 ln:LnD H dl [d_r,d2] names lens
 n1:d_r≠d2
 n2:d_o≠d1
 n3:d_o≠dl
 n4:dl≠d1
theorem Pz.same {t:Adr}{H H':Hp}{pz a dl d_o d_r p d1 d2:Addr}{n:Nat}{names:ai}{ss:av}{lens:cN}{so:bp}{ho:aG}{own:bR}{rent:bL} (z:Pz t H pz a dl d_o d_r p d1 d2 n names ss lens so ho own rent) (s:cG):Pz t H' pz a dl d_o d_r p d1 d2 n names ss lens so ho own rent :=
 ⟨let ⟨dx,e⟩:=z.ins; m9 rS,z.sg.same s,s _ _ z.ow,s _ _ z.rn,let ⟨kvs,e,l,f⟩:=z.ln; (ba,kvs,rS,l,fun nm h=>let ⟨q,e1,e2,e3⟩:=f nm h; (ba,q,e1,s _ _ e2,e3)),z.n1,z.n2,z.n3,z.n4⟩
noncomputable def FndV (H:Hp) (v:V) (f:nN):Prop:=(Ua,f,none,∃(g:Int) (a:Str) (s:Seat) (q qs:Addr),qC f (g,a,s) (bc v eC (gZ q [.int g,.str a,.ref qs]) (qU qs s)))
theorem FndV.tp {H H':Hp}{v:V}{f:nN} (h:FndV H v f) (t:lH):FndV H' v f:=by
 rcases h with h|⟨g,a,s,q,qs,h1,h2,h3,h4⟩
 .ext cY h
 .show(fh,(gu g a s q (o3,qs,h1,h2,t _ _ h3,t _ _ h4)))
theorem AkD.get {H:Hp}{d:Addr}{al:av}{asked:aG} (h:zcm) (ask:vq) {b:Addr}{s:Seat} (hb:qU b s):DGet H d cW ((iZ).map V.str):=by
 have g:=wD eJ h hb;cases e:iZ with
 | none =>
  show(cJ,xfy xei (aA znT),g,g)
 | some x =>
  show(oW,valM xei ((ask s).mp zX),e,g,g)
theorem OwD.get {H:Hp}{d:Addr}{names:ai}{own:bR} (h:OwD H d names own) {x:Str} (hx:x∈names):DGet H d lR (some (.int (own x))):=by
 have g:=kI wY h;show(cJ,valM inrI hx,g,g)
theorem RnD.get {H:Hp}{d:Addr}{ss:av}{rent:bL} (h:RnD H d ss rent) {s:Seat} (hs:sv) {b:Addr} (hb:qU b s):DGet H d cW (some (.int (rent s))):=by
 have g:=wD eJ h hb;show(cJ,valM xei hs,g,g)
inductive xkb (t:Adr) (vs:ag) (H:Hp) (Q:VK) (_:XK):Prop
 | mk (pz la da a dl d_o d_r p d1 d2:Addr) (n:Nat) (names crowd:ai) (ss al:av) (lens:cN) (so:bp) (ho asked:aG) (own:bR) (rent:bL) (e_:vs=(wB wL la da)) (r_:(bD,Pz t H pz a dl d_o d_r p d1 d2 n names ss lens so ho own rent,GG,Hw,ax vq KA HH Vk zsf))
theorem xpe {t:Adr}{H:Hp}{Q E}{pz la da a dl d_o d_r p d1 d2:Addr}{n:Nat}{names crowd:ai}{ss al:av}{lens:cN}{so:bp}{ho asked:aG}{own:bR}{rent:bL} (hh:Pz t H pz a dl d_o d_r p d1 d2 n names ss lens so ho own rent/\GG/\Hw/\vq/\KA/\HH /\
 Vk/\zsf):xkb t (wB wL la da) H Q E:=⟨pz,la,da,a,dl,d_o,d_r,p,d1,d2,n,names,crowd,ss,al,lens,so,ho,asked,own,rent,rfl,hh⟩
theorem ok_s (T:aV):FnOk true P w K mg base aU 1 t.f_s t.d_s zqW (xkb t):=by
 refine T.F_s.okn (k:=0) sc_s (aY E) (fun cdv A outer s H vs Q E hr h=>?_)
 .obtain ⟨pz,la,da,a,dl,d_o,d_r,p,d1,d2,n,names,crowd,ss,al,lens,so,ho,asked,own,rent,rfl,_⟩:=h;rfl
 .obtain ⟨pz,la,da,a,dl,d_o,d_r,p,d1,d2,n,names,crowd,ss,al,lens,so,ho,asked,own,rent,rfl,h⟩:=h;refine⟨_,xh (pS 3 sc_s.nd (xcx))
   (xh (xbf ZB rfl wV (pN 4 sc_s.nd) (xm (xn6 (xbf ZB rfl (xrn (xbg eR bB jd fC)) (xbc rfl (iX 5 sc_s.nd 6)) (xh (pS 7 sc_s.nd (xu xdd (xu xdd me (xbg eR bB jd fC)) (xbg eR bB kZ fC)))
   (uc (PW.pt (xe6 (xcz (xdk eR kZ (pv 2))) (xf1 (PW.pt (CL (jv xp7 3 (xcx)) (jv xfk 7 wW)))))) (xm (pS 3 sc_s.nd (xaq (gq 7 4 5))))))))))
   (wc 3)),?_⟩
  refine sq3 ?_; intros; obtain⟨z,hla,hda,ask,cin,rin,⟨nda,q⟩⟩:47:=h;ext Aa la hla;refine xbi (xs:=PF) (Pv:=(gO,Z,H1,∃(v3:V) (v4 v5 v6 v7:bS),(bc,Z,[wP,zM,rX,some v3,v4,v5,v6,v7],gK H1,FndV H1 v3 (xf6 lens own rent asked none Bb)))) ?_ ?_ ?_ ?_
  .exact qG _ (iQ,_,kq,.inl kL)
  .show(znh,H1,s1,lm hla)
  .rintro i x Z H1 hx (⟨v3,v4,v5,v6,⟨v7,rfl,s1,fv⟩⟩:121);ext sT b hb;show(af,bin,cin b (Zn hb),z1,z.same s1);obtain⟨dx,hpz⟩:=z1.ins;obtain⟨kvs,hdl,_,f⟩:63:=(z1.ln)
   show(b9,qd,hv,hqd,nbad,f b bin);show(jZ,dg,(kI,.inr b,hdl),hv);refine⟨pz,_,dx,_,_,rfl,wS hpz T.n_bf lkZl ⟨dl,.ref qd,rfl,dg,qd,_,rfl,hqd,au ob nf⟩⟩;rw[Zu,not_or] at nbad;have nr:d_r≠qd:=Z2 nbad.1;have nd:da≠qd:=Z2 (nda b bin qd ⟨kvs,by
    show(fD,k0,e0,z.ln)
    have:=lm e0;ext uP hdl this e0,hv⟩)
   show(cC,dT_ne,∀{c:Addr}{u:HO},HY->(∀ k,u≠.dT k)->c≠qd,fun {c u} e n1=>xdi e hqd (n1 _),xo8 (Pv:=fun j Z H3=>∃(v3:V) (v5 v6 v7:bS),(hZ,Z,[wP,zM,rX,some v3,ii b,v5,v6,v7],(iE,qd,H1 c=some u,Pw),H3 qd=some Xc,FndV H3 v3 (((CB).take j).foldl (DK b) (xf6 lens own rent asked none Bb)))) ?_ ?_ ?_ ?_)
   .refine ⟨124,_,_,_,_,rfl,P7,xl,fv.tp (uy ?_)⟩;show(bP,dT_ne e jP,e)
   .rintro j Z H3 _ (⟨_,_,_,_,rfl,_,e3,_⟩:124);exact e3
   .rintro j k x qk pa Z H3 hk hqk hpa (⟨v3,v5,v6,v7,rfl,k3,e3,fv3⟩:124);unfold LnT at hk;rw[Zd,Zh] at hk;ext ae y hy hyk hk;cases hyk;show(zbq,(jw,H3,pa,.ref qk,y.2),hpa);have hqk4:H4 qk=some (.tup (xa5 jf)):=iT hqk;have ymem:y∈CB:=Zn hy;show(dO,k4,zkI,(om,iT (k3 c u nc e)),hpz4,k4 _ _ (dT_ne hpz jP) hpz);have ow4:OwD H4 d_o names own:=k4 _ _ (dT_ne z1.ow jP) z1.ow;have rn4:RnD H4 d_r ss rent:=k4 _ _ nr z1.rn;show(dO,ak4,AkD H4 da al asked,k4 _ _ nd (lm hda),fv4,fv3.tp (Same.tups s4));show(af,e4,iT e3,dgR,rn4.get (rin b jf (Zg.mpr (dk y ymem))) hqk4);show(bN,fW pa g4,⟨pz,_,dx,_,_,rfl,Sq hpz4 ⟨d_o,_,rfl,ow4.get bin,pz,_,dx,_,_,rfl,hpz4,T.c_p,T.n_bi,lkZr,d_r,_,rfl,dgR,?_⟩⟩);have tk:(CB).take eE=(CB).take j++[y]:=by
     rw[ZT,hy];rfl
    rw[tk,QT];generalize ((CB).take j).foldl (DK b) (xf6 lens own rent asked none Bb)=f0 at fv4;show _;refine⟨da,_,rfl,ak4.get ask hqk4,_,rfl,EB c1⟩
    .have an:asked jf=none:=by
      cases ea:asked jf with
      | none=>rfl
      | some w=>ext cH ea c1
     have stay:(cS,xev f0 GU)->∃(v3':V) (v5 v6 v7:bS),(hZ,[wP,zM,rX,some v3,ii b,bu qk,aX y.2,aX GU],[wP,zM,rX,some v3',ii b,v5,v6,v7],zkI,H4 qd=some Xc,FndV H4 v3' ([y].foldl (DK b) f0)):=fun hb=>by
      refine⟨124,v3,_,_,_,rfl,k4,e4,?_⟩;show FndV H4 v3 (look own rent asked b f0 y);unfold look;show(lO,mG hb,fv4)
     have move:xev f0 GU=true->∀ q5,H4 q5=none->∃(v3':V) (v5 v6 v7:bS),(hZ,[wP,zM,rX,bu q5,ii b,bu qk,aX y.2,aX GU],[wP,zM,rX,some v3',ii b,v5,v6,v7],(iE,qd,H1 c=some u,kX H4 q5 (.tup NN)),fF H4 q5 (.tup NN) qd Xc,FndV (ez H4 q5 NN) v3' ([y].foldl (DK b) f0)):=fun hb q5 hq5=>by
      show(ap,s5,Same H4 (ez H4 q5 NN),c7 hq5,⟨124,.ref q5,_,_,_,rfl,(om,dP (k4 c u nc e)),dP e4,?_⟩);show FndV _ _ (look own rent asked b f0 y);unfold look;rw[aC (kN hb an)];exact .inr (qG q5 (o3,qk,rfl,rfl,xl,dP hqk4))
     rcases fv4 with⟨rfl,rfl⟩|⟨g0,a0,s0,q0,qs0,rfl,rfl,hq0,hqs0⟩
     .refine (hW,ifP rfl (ifP rfl ?_));show(aO,TR,fun q5 hq5=>move rfl q5 hq5)
     .refine (hW,ifN (dF zmN) ?_);refine(yr,q0,.int g0,hq0,vy c2)
      .exact ⟨(nu leS3),fun q5 hq5=>move c2 q5 hq5⟩
      .exact stay (Ji.mpr c2)
    .refine ⟨124,v3,_,_,_,rfl,k4,e4,?_⟩;show FndV H4 v3 (look own rent asked b f0 y);unfold look;have an:(asked jf).isNone=false:=by
      cases ea:asked jf with
      | none=>rw[ea] at c1; ext j4 c1
      | some w=>rfl
     show(lO,mG an,fv4)
   .rintro Z H3 (⟨v3,v5,v6,v7,rfl,k3,e3,fv3⟩:124);refine⟨103,qd,ob,_,e3,nf,gu v3 _ _ _ (iQ,_,uR ?_,?_)⟩
    .have e1:=wy;by_cases c1:c=qd
     .subst c1;ext uP hqd e1 xl
     .show(jb,c1,k3 c u c1 e1)
    .have hl:(LnT (lens b)).length=(CB).length:=Za _;rw[hl,Jh] at fv3;rw[ZT,hb];show FndV _ _ (xf6 lens own rent asked none (Bb++[b]));unfold xf6;show(nK,QT,FndV.tp (H:=H3) fv3 (uy ?_));show(bP,dQ e3,e)
  .rintro Z H1 (⟨v3,v4,v5,v6,⟨v7,rfl,s1,fv⟩⟩:121);rw[Za,Jh] at fv;exact (q H1 v3 s1 fv)
theorem xrz {own:bR}{as:ai}{b:Str}{g:Int} (nb:b∉as):shO own (as++[b]) g=fun n=>(kE,n,b,shO own as g b+g,shO own as g n):=by
 funext n;unfold shO;ext jc n b
 .ext zuq
 .ext ib c;by_cases d:n∈as
  .show(uj,ZF _ d,d)
  .rw [mq ?_,ay d];rcases Zw.mp z with z|z
   .exact d z
   .exact c (Zp.mp z)
noncomputable def shS (rent:bL) (as:av) (g:Int):bL:=(aA,if z∈as then rent z-g else rent z)
theorem xsf {rent:bL}{as:av}{b:Seat}{g:Int} (nb:b∉as):(Mu (as++[b]))=fun n=>(kE,n,b,shS rent as g b-g,shS rent as g n):=by
 funext n;unfold shS;ext jc n b
 .ext zuq
 .ext ib c;by_cases d:n∈as
  .show(uj,ZF _ d,d)
  .rw [mq ?_,ay d];rcases Zw.mp z with z|z
   .exact d z
   .exact c (Zp.mp z)
theorem xu9 {rent:bL}{al:av}{asked:aG}{g:Int} (ask:vq):(Mu al)=pH:=by
 funext z;unfold shS shR;by_cases c:z∈al
 .rw [aC c,if_pos ((ask z).mpr c)]
 .rw [sr,(El,c ((ask z).mp y))]
theorem xyl {own:bR}{g:Int}:shO own [] g=own:=by
 funext z;unfold shO;rw[(El,nomatch y)]
theorem xy4 {rent:bL}{g:Int}:(Mu [])=rent:=by
 funext z;unfold shS;rw[(El,nomatch y)]
section
variable {t:Adr}{H H':Hp}{pz a dl d_o d_r p d1 d2:Addr}{n:Nat}{names:List Str}{ss:List Seat}{lens:Str->List (Seat × Int)}{so:Str->Option Seat}{ho:Seat->Option Str}{own own':Str->Int}{rent rent':Seat->Int}
theorem Pz.move (z:Pz t H pz a dl d_o d_r p d1 d2 n names ss lens so ho own rent) (k:Nv qS) (ow':OwD H' d_o names own') (rn':RnD H' d_r ss rent'):Pz t H' pz a dl d_o d_r p d1 d2 n names ss lens so ho own' rent':=by
 show(af,o,z.ow,r,z.rn);unfold OwD at o;unfold RnD at r;have tp:lH:=(uy,k _ _ (dQ o) (dQ r) e);ext D8 hpz;obtain⟨dx2,hp⟩:=z.sg.ins;show(ae,k1,hk1,f1,z.sg.so)
 show(ae,k2,hk2,f2,z.sg.ho)
 show(b9,kl,hkl,ll,fl,z.ln)
 refine⟨(m9,k _ _ (ne_f hpz o) (ne_f hpz r) hpz),⟨⟨dx2,k _ _ (ne_f hp o) (ne_f hp r) hp⟩,SoD.keep ⟨k1,hk1,f1⟩ tp (ng,k _ _ (Z2 z.n2) (ne_f hk1 r) e),(Ud,⟨k2,hk2,f2⟩,k _ _ (ne_f hk2 o) (Z2 z.n1) e)⟩,ow',rn',(RN,kl,k _ _ (Z2 z.n3) (ne_f hkl r) hkl),z.n1,z.n2,z.n3,z.n4⟩;show(b9,q,e1,e2,e3,fl nm h);exact(ba,q,e1,k _ _ (ne_f e2 o) (fun y=>e3 (aD y gE)) e2,e3)
#check _
noncomputable def xfe (H:Hp) (dl da:Addr) (names:ai):Prop:=Vk
inductive xnx (t:Adr) (vs:ag) (H:Hp) (Q:VK) (_:XK):Prop
 | mk (pz la da a dl d_o d_r p d1 d2:Addr) (n:Nat) (names crowd:ai) (ss al:av) (lens:cN) (so:bp) (ho asked:aG) (own:bR) (rent:bL) (g:Int) (e_:vs=[wL,.ref la,.ref da,.int g]) (r_:(zno,Pz t H pz a dl d_o d_r p d1 d2 n names ss lens so ho own rent,(zq,RI,A4,sZ,Ux,(Nv qS)->Pz t H' pz a dl d_o d_r p d1 d2 n names ss lens so ho pL pH->rM)))
theorem xsw {t:Adr}{H:Hp}{Q E}{pz la da a dl d_o d_r p d1 d2:Addr}{n:Nat}{names crowd:ai}{ss al:av}{lens:cN}{so:bp}{ho asked:aG}{own:bR}{rent:bL}{g:Int} (h:Pz t H pz a dl d_o d_r p d1 d2 n names ss lens so ho own rent/\GG/\Hw/\vq/\KA/\crowd.Nodup/\al.Nodup/\RI/\A4/\sZ/\Ux /\
 ∀ H',(Nv qS)->Pz t H' pz a dl d_o d_r p d1 d2 n names ss lens so ho pL pH->rM):xnx t [wL,.ref la,.ref da,.int g] H Q E:=⟨pz,la,da,a,dl,d_o,d_r,p,d1,d2,n,names,crowd,ss,al,lens,so,ho,asked,own,rent,g,rfl,h⟩
inductive xtg (t:Adr) (vs:ag) (H:Hp) (Q:VK) (_:XK):Prop
 | mk (pz la da a dl d_o d_r p d1 d2:Addr) (n:Nat) (names crowd:ai) (ss al:av) (lens:cN) (so:bp) (ho asked:aG) (own:bR) (rent:bL) (g:Int) (b:Str) (s:Seat) (e_:vs=(wB wL la da)) (r_:(ax,Pz t H pz a dl d_o d_r p d1 d2 n names ss lens so ho own rent,GG,Hw,vq,(ax KA crowd.Nodup al.Nodup RI (ax A4 sZ Ux HH (ax,zbT,da≠d2,Lx Db b,FU,(zii,Pz t H' pz a dl d_o d_r p d1 d2 n names ss lens so ho pL pH))))))
theorem xqp {t:Adr}{H:Hp}{Q E}{pz la da a dl d_o d_r p d1 d2:Addr}{n:Nat}{names crowd:ai}{ss al:av}{lens:cN}{so:bp}{ho asked:aG}{own:bR}{rent:bL}{g:Int}{b:Str}{s:Seat} (hh:Pz t H pz a dl d_o d_r p d1 d2 n names ss lens so ho own rent/\H la=some (.lst (crowd.map V.str))/\AkD H da al asked/\(∀ s,(asked s).isSome=true↔s∈al)/\(∀ b∈crowd,b∈names)/\crowd.Nodup/\al.Nodup/\RI/\A4/\sZ/\Ux/\HH/\zbT/\da≠d2/\(Lx Db b)/\FU /\
 (zii,Pz t H' pz a dl d_o d_r p d1 d2 n names ss lens so ho pL pH)):xtg t (wB wL la da) H Q E:=⟨pz,la,da,a,dl,d_o,d_r,p,d1,d2,n,names,crowd,ss,al,lens,so,ho,asked,own,rent,g,b,s,rfl,hh⟩
theorem AkD.add {H:Hp}{d:Addr}{al:av}{asked:aG} (h:zcm) {s:Seat}{b:Str} (ns:FU):fF H d (.dT (putK (Su,jG eJ ((iZ).getD (ZE ""))) eJ (.str b))) d (.dT ((oF).map (aA (jG,xv z,(IU b z).getD (ZE ""))))):=by
 rw[xl,xcp _ (xfy xei ns),Zq]
 congr 2
 have e1:(al.map fun s=>jG eJ ((iZ).getD (ZE "")))=al.map fun z=>(jG,xv z,(IU b z).getD (ZE "")):=JB fun z hz=>by
  unfold Kp.upd1;rw[ay (fun y:z=s=>ns (bJ y hz))]
 rw[e1]
 congr 1
 show [(eJ,V.str b)]=[jG eJ ((Kp.upd1 asked s b s).getD (ZE ""))]
 unfold Kp.upd1;rw[bW];rfl
theorem ok_g (T:aV):FnOk true P w K mg base aU 1 t.f_g t.d_g VR (xnx t):=by
 refine T.F_g.okn (k:=0) sc_g (aY E) (fun cdv A outer s H vs Q E hr h=>?_)
 .obtain ⟨pz,la,da,a,dl,d_o,d_r,p,d1,d2,n,names,crowd,ss,al,lens,so,ho,asked,own,rent,g,rfl,_⟩:=h;rfl
 .obtain ⟨pz,la,da,a,dl,d_o,d_r,p,d1,d2,n,names,crowd,ss,al,lens,so,ho,asked,own,rent,g,rfl,h⟩:=h;refine⟨_,xh (pT wV 4 sc_g.nd (xm (xnk eR bB jd h7 xwa (by ext xF))))
   (xm (xn6 (pT (xs6 (pv 2)) 5 sc_g.nd (xm (xnk eR bB kZ h7 xwi (by ext xF)))))),?_⟩
  refine sq2 ?_; intros; refine fq ?_; intros; obtain⟨z,hla,hda,ask,cin,cnd,⟨and_,ain,s32,n12,ndr,q⟩⟩:47:=h;show(af,ow0,z.ow,rn0,z.rn);show(ap,BIG,Nx,Sk,jp la hla ?_);ext j3 nla la d_o hla ow0;ext j3 nda da d_o hda ow0;ext D8 hpz;ext j3 npo pz d_o hpz ow0;ext j3 npr pz d_r hpz rn0;ext j3 nro d_r d_o rn0 ow0
  let Pv (i:Nat) (Z:L2.St) (H1:Hp):Prop:=∃(v4 v5:bS),(bc,Z,zro,iE d_o wA HY,OwD H1 d_o names (shO own Bb g))
  show(sP,PF,?_,?_)
  .exact (eD,_,_,fun c u _ e=>e,qr List.take_zero xyl ow0)
  .rintro i Z H1 _ (⟨_,_,rfl,k1,_⟩:83);show(xB,k1 _ _ nla hla)
  .rintro i x Z H1 hx (⟨v4,v5,rfl,k1,ow1⟩:83);ext sT b hb;have bin:=cin b (Zn hb);have nb:b∉Bb:=fun zz=>by
    show(jU,hi,Zl.mp hb);have:=xji id (ps:=crowd) (aD Y8 cnd) hi b zz;exact this e.symm
   refine⟨pz,_,dx,_,_,rfl,(Sq,k1 _ _ npo hpz,(eD,d_o,_,ow1.get bin,⟨_,_,rfl,rfl,_,(wE,.inr b,ow1,nR),?_⟩))⟩;refine(lN,_,om (bE,nc,k1 c u nc e));rw[ZT,hb];show OwD _ d_o names (shO own (Bb++[b]) g);rw[xrz nb];unfold OwD;rw[xl,putM inrI bin]
   congr 3
   funext nn
   dsimp only
   ext jc nn b
   .ext uj c c
   .rw [sr,sr]
  .rintro Z H1 (⟨v4,v5,rfl,k1,ow1⟩:83);rw[Za,Jh] at ow1;have hda1:H1 da=some (Dy,jG eJ ((iZ).getD (ZE ""))):=k1 _ _ nda hda;show(ap,rn1,RnD H1 d_r ss rent,k1 _ _ nro rn0,zK da hda1 ob nf);ext j3 npa pz da hpz hda;have noa:d_o≠da:=Z2 nda
   let Pv (j:Nat) (Z:L2.St) (H2:Hp):Prop:=∃(v5:bS),(ax,Z=zro,(VH,H2 c=some u),H2 da=some (.frz ob (Dy,jG eJ ((iZ).getD (ZE "")))),OwD H2 d_o names pL,RnD H2 d_r ss (Mu (al.take j)))
   refine xpx (Pv:=Pv) ?_ ?_ ?_ ?_
   .refine ⟨65,_,rfl,fun c u n1 n2 n3 e=>(bE,n3,k1 c u n1 e),xl,?_,?_⟩
    .show upd H1 da _ d_o=_;ext bP noa ow1
    .rw [List.take_zero,xy4];show upd H1 da _ d_r=_;ext uS ndr rn1
   .rintro j Z H2 _ (⟨_,rfl,_,e2,_⟩:64);exact e2
   .rintro j k x qk Z H2 hk hqk (⟨v5,rfl,k2,e2,ow2,rn2⟩:65);rw[Zd,Zh] at hk;ext ae s hs hsk hk;cases hsk;show(dO,hqk,H2 qk=some (.tup (xa5 s)),hqk,sin,ain s (Zn hs));have nb:s∉al.take j:=fun zz=>by
     ext y9 hi e hs;have:=xji id (ps:=al) (aD Y8 and_) hi s zz;exact this e.symm
    refine⟨pz,_,dx,_,_,rfl,(wS,k2 _ _ npo npr npa hpz,T.n_bi,lkZr,(eD,d_r,_,rn2.get sin hqk,⟨_,_,rfl,rfl,_,DPut.t (k:=eJ) rn2 hqk nR,?_⟩))⟩;refine⟨65,_,rfl,fun c u n1 n2 n3 e=>(bE,n2,k2 c u n1 n2 n3 e),bE ndr e2,?_,?_⟩
    .show upd H2 d_r _ d_o=_;ext uS nro ow2
    .rw [ZT,hs];show RnD _ d_r ss (Mu (al.take j++[s]));rw[xsf nb];unfold RnD;rw[xl,putM xei sin]
     congr 3
     funext nn
     dsimp only
     ext jc nn s
     .ext uj c c
     .rw [sr,sr]
   .rintro Z H2 (⟨v5,rfl,k2,e2,ow2,rn2⟩:65);rw[Za,Jh,xu9 ask] at rn2;refine⟨103,da,ob,_,e2,nf,?_⟩;have fr:Nv (kX H2 da (Dy,jG eJ ((iZ).getD (ZE "")))):=fun c u n1 n2 e=>by
     by_cases c1:c=da
     .subst c1;ext uP hda e xl
     .show(jb,c1,k2 c u n1 n2 c1 e)
    refine q _ fr (z.move fr ?_ ?_)
    .show upd H2 da _ d_o=_;ext bP noa ow2
    .show upd H2 da _ d_r=_;ext uS ndr rn2
theorem ok_u (T:aV):FnOk true P w K mg base aU 2 t.f_u t.d_u zqW (xtg t):=by
 refine T.F_u.okn (k:=1) sc_u (aY E) (fun cdv A outer s H vs Q E hr h=>?_)
 .obtain ⟨pz,la,da,a,dl,d_o,d_r,p,d1,d2,n,names,crowd,ss,al,lens,so,ho,asked,own,rent,g,b,s0,rfl,_⟩:=h;rfl
 .obtain ⟨pz,la,da,a,dl,d_o,d_r,p,d1,d2,n,names,crowd,ss,al,lens,so,ho,asked,own,rent,g,b,s0,rfl,h⟩:=h;refine⟨_,xh (xbq (xag bz T.c_p T.m_s (ok_s T) bi T.b_s .nil xq zt) (ID 3 sc_u.nd (iX 4 sc_u.nd 5)))
   (xh (xam (xag bz T.c_p T.m_g (ok_g T) bi T.b_g .nil xq EG))
   (xh (qp iR kZ jd)
   (wc 5))),?_⟩
  refine sq4 ?_; intros; obtain⟨z,hla,hda,ask,cin,cnd,⟨and_,ain,s32,n12,ndr,rin,nln,nd2,nr,nal,q⟩⟩:47:=h;ext D8 hpz;refine⟨pz,dx,_,rfl,hpz,xgz aP,?_⟩;ext LL;refine xpe ⟨47,z,hla,hda,ask,cin,rin,⟨nln,cu H1 v s1 fv⟩⟩;rw[nr] at fv;rcases fv with⟨e,_⟩|⟨g',b',s',q1,qs,e,rfl,hq1,hqs⟩
  .cases e
  cases e;show(bN,fW q1 hq1,⟨pz,dx,_,rfl,lm hpz,xgz aP,?_⟩);ext LL;refine xsw ⟨47,z.same s1,lm hla,lm hda,ask,cin,cnd,⟨46,and_,ain,s32,n12,ndr,aL H2 k2 z2⟩⟩;show(af,ow1,lm z.ow,rn1,lm z.rn);have hda1:H1 da=some (Dy,jG eJ ((iZ).getD (ZE ""))):=lm hda;show(dO,hda2,AkD H2 da al asked,k2 _ _ (ne_f hda1 ow1) ndr hda1,hqs2,k2 _ _ (ne_f hqs ow1) (ne_f hqs rn1) hqs);show(ap,al32,al.length<=32,ZJ (xin and_ ain) s32,(lN,da,DPut.t (k:=xv s0) hda2 hqs2 xZ));have hda2':H2 da=some (Dy,jG eJ ((iZ).getD (ZE ""))):=hda2;have fr:VH (kX H2 da (.dT (putK (Su,jG eJ ((iZ).getD (ZE ""))) (xv s0) (.str b)))):=fun c u n1 n2 n3 e=>by
   show(bP,n3,k2 c u n1 n2 wy)
  refine q _ qs fr (bE (ne_f hqs2 hda2') hqs2) ?_ (hda2.add nal)
  -- the dict of those who asked is none of the prices'
  have fr2:(iE,da,H2 c=some u,(kX H2 da (.dT (putK (Su,jG eJ ((iZ).getD (ZE ""))) (xv s0) (.str b))))):=fun c u n3 e=>by
   ext bP n3 e
  obtain⟨dx2,hpz2⟩:=z2.ins;obtain⟨dx3,hp2⟩:=z2.sg.ins;show(ae,m1,hm1,f1,z2.sg.so)
  show(ae,m2,hm2,f2,z2.sg.ho)
  show(b9,ml,hml,ll,fl,z2.ln)
  show(af,ow2,z2.ow,rn2,z2.rn);show(ap,tp,Tups H2 (jB H2 da (putK (Su,jG eJ ((iZ).getD (ZE ""))) (xv s0) (.str b))),(uy,fr2 _ _ (dQ hda2') e),⟨⟨dx2,Pe hpz2⟩,⟨⟨dx3,Pe hp2⟩,SoD.keep ⟨m1,hm1,f1⟩ tp (ng,fr2 _ _ (ne_f hm1 hda2') e),(Ud,⟨m2,hm2,f2⟩,fr2 _ _ (Z2 nd2) e)⟩,Pe ow2,fr2 _ _ (Z2 ndr) rn2,(RN,ml,Pe hml),z2.n1,z2.n2,z2.n3,z2.n4⟩);show(b9,qq,e1,e2,e3,fl nm h);refine(ba,qq,e1,fr2 _ _ ?_ e2,e3);show(fD,k0,hk0,z.ln)
  have hk2:=k2 _ _ (Z2 z.n3) (ne_f hk0 z.rn) (lm hk0);ext bA hml hk2 hk2;exact nln nm h qq ⟨ml,hk0,e1⟩
noncomputable def xah (w:Nat) (ps:aw) (srt:av) (nm:Str):yF:=match WQ with
 | some p=>(srt.filter (xb1 p)).map fun s=>(s,GN)
 | none=>[]
theorem xf8 {w:Nat}{ps:aw}{srt:av}:xax jo=v0:=by
 funext nm;unfold xax xah xa3;cases WQ with
 | none=>rfl
 | some p =>
  show List.map _ (List.map _ _)=_;rw[Z0];exact Y8 _
theorem xjh {w h:Nat}{ps:aw}{ss srt:av} (w30:j5) (h16:lT) (pok:vJ) (sok:S2) (pm:yY):xc8 jo srt:=by
 show(ap,nd,srt.Nodup,pm.nodup_iff.mpr sok.1,⟨c8 n,SB,aL n s hs,nd⟩)
 .rw [xf8];unfold xa3;split
  .exact LE nd
  .exact JV
 .unfold xah at hx;split at hx
  .rename_i p hf
   ext eG s hs hx;show(af,pin,pok.ok p (Jm hf),sin,sok.2.2 s (pm.mem_iff.mp (qv hs)));have:=pin.x1;have:=pin.x2;have:=pin.y1;have:=pin.y2;have:=sin.1;have:=sin.2;show qI GN 46;unfold lenI;ext PJ
  .exact nomatch hx
 .rw [xf8] at hs;unfold xa3 at hs;split at hs
  .exact qv hs
  .exact nomatch hs
theorem xjg {d:Addr}:∀(L:zQ Ki) {H:Hp}{kvs:dA},(yT d)->ztz->(L.map (·.2.1)).Nodup->(∀ x∈L,valV kvs (xv cK)=none)->zpu ->
    ∃ H2,xej d H zqK H2/\H2 d=some (.dT (kvs++LnT (L.map (·.2))))/\(G6 d)
  | [],H,kvs,e,_,_,_,_=>(ba,H,.nil,by rw[e]; simp[LnT],PX)
  | x::L,H,kvs,e,f,nd,nv,hn=>by
    rw[ZG] at hn;ext zd;have hx:=f x gE;have up:rG d iJ H (.dT zag):=fun b u nb eb=>by
      ext bP nb eb
    have put:DPut H d (.ref aZ) (.int lQ) (jB H d zag):=by
      have z:=DPut.t (k:=xv cK) (v:=.int lQ) e hx (xc3 aa);show(cJ,xcp _ (nv x gE),z,z)
    obtain⟨H2,dps,e2,k2⟩:63:=xjg L (H:=jB H d zag) xl (uB,up _ _ (ne_f (f y rW) e) (f y rW)) jI (fun y hy=>by
      have nk:¬ xv (bg y)=xv cK:=(aA,nd.1 (zcw,xei _ _ z,dk y hy));have z:=xco kvs (xv cK) (xv (bg y)) (.int lQ);rw[xcp _ (nv x gE),ay nk,nv y rW] at z;exact z) OB
    refine(ba,H2,d4 put dps,?_,fun b u nb eb=>k2 _ _ nb (up _ _ nb eb));rw[e2,YO];rfl
theorem xh7 {H:Hp}:∀{tgt:yF}{ys:ag},(r6 tgt.length)->(NU (Vg tgt)) ->
    ∃(ps:Ed) (L:zQ Ki),ys=zrI/\Xr/\ps.map (·.2)=zqK/\L.map (·.2)=tgt/\ztz
  | [],[],_,_=>⟨85,[],[],rfl,Ow,rfl,rfl,Ow⟩
  | [],b5,h,_=>eO
  | b5,[],h,_=>eO
  | x::tgt,nD,h,f=>by
    obtain⟨q,qs,s,l,rfl,h1,h2,h3⟩:124:=f 0 y rfl;obtain⟨ps,L,e1,e2,e3,e4,e5⟩:85:=xh7 (tgt:=tgt) (ys:=ys) yt (fun i y hy=>by
      obtain⟨q,qs,s,l,a1,a2,a3,a4⟩:124:=zpN;exact⟨124,q,qs,s,l,a1,a2,a3,by simpa using a4⟩)
    have h3:x=(s,l):=by simpa using h3
    refine⟨85,(q,Ml,.int l)::ps,(qs,s,l)::L,d7 e1,lG,by rw[Zo,Zo,e3],by rw[Zo,e4,h3],wf⟩
    . rcases LW with rfl|hp
      . exact h1
      . exact e2 p hp
    . rcases dI hz with rfl|hz
      . exact h2
      . exact e5 z hz
inductive xsl (t:Adr) (vs:ag) (H:Hp) (Q:VK) (_:XK):Prop
 | mk (pz dx a dp do_:Addr) (w h:Nat) (ps:aw) (st srt:av) (lens:cN) (e_:vs=[wL,aB]) (r_:(aE pz (MB []))/\Dr t H a dp do_ w h ps st srt/\∀ H' dl d_o d_r p d1 d2,bj (bI dl) (bI d_o) (bI d_r) su (kM,bI d1,bI d2,sQ pz,Pz t H' pz a dl d_o d_r p d1 d2 0 [] srt lens eX eX UO UO,.non))
theorem ok_ar (T:aV):FnOk true P w K mg base aU 4 t.f_ar t.d_ar Hm (xsl t):=by
 refine T.F_ar.okn (k:=3) sc_ar (aY E) (fun cdv A outer s H vs Q E hr h=>?_)
 .obtain ⟨pz,dx,a,dp,do_,w',h',ps,st,srt,lens,rfl,_⟩:=h;rfl
 .obtain ⟨pz,dx,a,dp,do_,w',h',ps,st,srt,lens,rfl,h⟩:=h;refine⟨_,xh (My fw)
   (xh UA
   (xh UA
   (xh (My (Gr (xav rfl (xau (zs:=["seat"]) (ys:=[]) (fr:=[]) (N0:=Hm) (sc0:=xp s_ar) aP rfl rfl rfl) (xal (xcc fw T.c_a T.m_y (ok_y T) bi T.b_y .nil xq)) fj eP eW (vz BG))))
   (Sn (xmo T.k_ac (ok_al T) bi rfl T.g_ac T.b_al .nil xq))))),?_⟩
  refine sq5 ?_; intros; ext gX hpz dr q h;show(o5,⟨126,pz,_,dx,_,rfl,hpz,T.c_p,T.n_bg,(pG 0),?_⟩,k1,rG pz iJ H Og,ud u TF)
  show(RO,hz1,H,Og,[("picture",aB)]);have f1:∀ b,upd H pz Og b=none->dN:=fun b e=>by
   ext FQ
   .ext vX c xl
   .ext UW; exact e
  revert k1 hz1 f1;show bq _ _ _ _;generalize dZ pz Og=H1;intro k1 hz1 f1;refine au dl hdl;show(ap,s2,Same H1 Ec,c7 hdl,⟨126,pz,_,dx,_,rfl,h8 hz1,T.c_p,T.n_bf,(pG 1),?_⟩);have npl:pz≠dl:=xk hz1 hdl;show(uX,k3,(rG,pz,H1 b=some u,Ec,Gu),bE nb Ll)
  show(RO,hz3,Ec,Gu,[D5,DH]);have gl3:fF Ec pz Gu dl Cz:=(aD,jF npl,xl)
  have f3:∀ b,upd Ec pz Gu b=none->H1 b=none:=fun b e=>by
   ext FQ
   .ext vX c xl
   .ext UW; exact s2.free e
  revert k3 hz3 gl3 f3;show bj _ _ _ _ _;generalize upd Ec pz Gu=H3;intro k3 hz3 gl3 f3;refine au d_o hdo;show(ap,s4,Same H3 D0,c7 hdo,⟨126,pz,_,dx,_,rfl,iT hz3,T.c_p,T.n_bh,(pG 2),?_⟩);have npo:pz≠d_o:=xk hz3 hdo;have nol:d_o≠dl:=lX gl3 hdo;show(uX,k5,(rG,pz,H3 b=some u,D0,GJ),(bE,nb,s4 _ _ e))
  show(RO,hz5,D0,GJ,[D5,DH,Rc]);have go5:fF D0 pz GJ d_o Cz:=(aD,jF npo,xl)
  have f5:∀ b,upd D0 pz GJ b=none->H3 b=none:=fun b e=>by
   ext FQ
   .ext vX c xl
   .ext UW; exact s4.free e
  revert k5 hz5 go5 f5;show bj _ _ _ _ _;generalize upd D0 pz GJ=H5;intro k5 hz5 go5 f5;have gl5:=k5 _ _ (Z2 npl) gl3;show(uX,k05,(pY,pz,iJ,H5 b=some u),k5 _ _ nb (k3 _ _ nb (k1 _ _ nb e)));obtain⟨⟨dxa,hpic⟩,⟨kp,hkp,plp⟩,w1,w2,h1,h2,le⟩:=id dr.pic;show(ae,ko,hko,kr,id dr.sts);have nap:a≠pz:=fun z=>by
   rw[z,hpz] at hpic;have z2:=b6 (HO.ins.inj (ZH.inj hpic));exact nomatch z2
  have kt:Tups H H5:=(jz,k05 _ _ (dQ hpz) e);have pic5:Pic t H5 a dp do_ ip iM ps:=⟨⟨dxa,k05 _ _ nap hpic⟩,⟨kp,k05 _ _ (ne_f hkp hpz) hkp,plp.keep kt⟩,w1,w2,h1,h2,le⟩
  show(ap,sts5,Sts H5 do_ st,⟨ko,k05 _ _ (ne_f hko hpz) hko,kr⟩,⟨a,dxa,_,rfl,k05 _ _ nap hpic,bM,a,dp,do_,w',h',ps,st,rfl,pic5,sts5,fun l6 ss6 us hl6 sl6 pm lt=>?_⟩);show(cX,ss6=srt,xcq xeg (pm.trans dr.pm.symm) lt dr.lt);show(G8,upd H5 l6 (.lst (us.map V.ref)),hl6);show(af,sl6',zrR,usl,sl6.len);have s32:ss6.length<=32:=Nk
  show(ap,snd,ss6.Nodup,dr.pm.nodup_iff.mpr dr.ok.1,(jp,l6,g6,au l7 hl7));refine xbp (bb g6) xZ hl7 (CO,Vg zrG) (fun _ _ _ _ tp ⟨q,qs,s,l,z1,z2,z3,z4⟩=>⟨124,q,qs,s,l,z1,pi z2,pi z3,z4⟩) (fun i x H7 hx s7 N hN=>?_) (fun ys H7 s7 e7 ly fy=>?_)
  .ext rF;show(ae,s,hs,hsq,sl6'.get hqa);ext iO f7 q5 hq5;show(lW,s8,Same H7 (jw,H7,q5,.ref qa,0),c7 hq5,hN _ _ s8 ⟨124,q5,qa,s,0,rfl,xl,s8 _ _ (s7 _ _ hsq),xR hs⟩)
  rw[Za,usl] at ly;obtain⟨prs,L,rfl,hprs,ep,eL,hL⟩:85:=xh7 (tgt:=zrG) (cA ly Za) fy;refine(xP,l7,prs,e7,hprs,au d_r hdr);have L1:(L.map (·.2.1))=ss6:=by
   have:L.map (·.2.1)=(L.map (·.2)).map (·.1):=d7 Z0
   rw[this,eL,Z0];exact Y8 _
  have ll:L.length=ss6.length:=by
   ext Bs L1;ext KM Za
  have s8:Same H7 (jB H7 d_r []):=c7 hdr;show(b9,H8,dps,e8,k8,xjg (d:=d_r) L (H:=jB H7 d_r []) (kvs:=[]) xl (zP,s8 _ _ (hL x hx)) (aD L1 snd) fC iD);ext zaB H8 ep;rw[eL] at e8;have rn8:H8 d_r=some (.dT (ss6.map fun s=>(eJ,V.int 0))):=by
   rw[e8];unfold LnT;rw[Z0];rfl
  show(nM,s78,Same H7 H8,k8 _ _ (xk e hdr) (s8 _ _ e));have s58:Same H5 H8:=(Kh).trans s78;show(ap,fdr5,H5 d_r=none,(Kh).free hdr,⟨126,pz,_,dx,_,rfl,s58 _ _ hz5,T.c_p,T.n_bi,(pG 3),?_⟩);show(uX,k9,(rG,pz,H8 b=some u,H8,Na),TF)
  ext RO hz9 H8 Na zpW;have f9:∀ b,upd H8 pz Na b=none->H8 b=none:=fun b e=>by
   ext FQ
   .ext vX c xl
   .ext UW; exact e
  revert k9 hz9 f9;show bq _ _ _ _;generalize upd H8 pz Na=H9;intro k9 hz9 f9;have npr:pz≠d_r:=xk hz5 fdr5;have gl9:=k9 _ _ (Z2 npl) (s58 _ _ gl5);show(af,go9,k9 _ _ (Z2 npo) (s58 _ _ go5),gr9,k9 _ _ (Z2 npr) rn8);refine bC p dx2 hp hdx ne;show(lZ,p,dx2,rfl,xl,fun H10 d1 d2 hd1 hd2 k10 sg10=>FF);have up:(je,CK (upd H9 dx2 (.own p)) p (.ins t.C_ac dx2 []) b,H9 b=none):=fun b z=>by
   cases e:H9 b with
   | none=>rfl
   | some u=>ext zgF FC
  show(nM,s910,Same H9 H10,k10 _ _ (xk e hp) (qr FC Lu e));show(af,h91,up _ hd1,h92,up _ hd2);show(o5,⟨126,pz,_,dx,_,rfl,s910 _ _ hz9,T.c_p,T.n_bd,(pG 4),?_⟩,kF,(rG,pz,H10 b=some u,H10,ztw),ud u TF)
  have fr:(je,H9 b=none,dN):=fun b e=>by
   cases z:H b with
   | none=>rfl
   | some u =>
    ext FQ
    .ext vX c hz9
    .rw [k9 _ _ c (s58 _ _ (k05 _ _ c z))] at e; cases e
  have fr5:(je,H5 b=none,dN):=fun b e=>by
   cases z:H b with
   | none=>rfl
   | some u =>
    ext FQ
    .ext vX c hz5
    .rw [k05 _ _ c z] at e; cases e
  obtain⟨dx3,hp10⟩:=sg10.ins;show(ae,m1,hm1,g1,sg10.so)
  show(ae,m2,hm2,g2,sg10.ho)
  have gz10:=s910 _ _ hz9;have tpF:Tups H10 (upd H10 pz ztw):=(jz,kF _ _ (dQ gz10) e);have npp:p≠pz:=lX hz9 hp;refine q _ dl d_o d_r p d1 d2 (f1 _ hdl) (f1 _ (f3 _ hdo)) (fr5 _ fdr5) (fr _ hp) (fr _ h91) (fr _ h92) (ud,u,kF _ _ nb (s910 _ _ (k9 _ _ nb (s58 _ _ (k05 _ _ nb e))))) ?_;exact⟨m9 xl,⟨⟨dx3,kF _ _ npp hp10⟩,SoD.keep ⟨m1,hm1,g1⟩ tpF (ng,kF _ _ (ne_f hm1 gz10) e),(Ud,⟨m2,hm2,g2⟩,kF _ _ (ne_f hm2 gz10) e)⟩,zco npo go9,zco npr gr9,(ba,[],zco npl gl9,bo,Ow),(aA,qW h92 gr9),(aA,qW h91 go9),nol,(aA,qW h91 gl9)⟩
section
variable {t:Adr}{H H':Hp}{pz a dl d_o d_r p d1 d2:Addr}{n:Nat}{names:List Str}{ss:List Seat}{lens:Str->List (Seat × Int)}{so so':Str->Option Seat}{ho ho':Seat->Option Str}{own own':Str->Int}{rent rent':Seat->Int}
theorem Pz.keep1 (z:Pz t H pz a dl d_o d_r p d1 d2 n names ss lens so ho own rent) {x:Addr} (k:iE x wA qS) (tp:lH) (e0:pz≠x) (e1:p≠x) (e2:d1≠x) (e3:d2≠x) (e4:d_o≠x) (e5:d_r≠x) (e6:dl≠x) (e7:xfe H dl x names):Pz t H' pz a dl d_o d_r p d1 d2 n names ss lens so ho own rent:=by
 show(ziR,⟨let ⟨dx,e⟩:=z.ins; (m9,k _ _ e0 e),z.sg.keep e1 e2 e3 tp k,k _ _ e4 z.ow,k _ _ e5 z.rn,(RN,kl,k _ _ e6 hkl),z.n1,z.n2,z.n3,z.n4⟩,k _ _ (e7 nm h q ⟨kl,hkl,q1⟩) q2)
theorem Pz.keepL (z:Pz t H pz a dl d_o d_r p d1 d2 n names ss lens so ho own rent) {x:Addr}{xs:ag} (hx:yU x) (k:iE x wA qS):Pz t H' pz a dl d_o d_r p d1 d2 n names ss lens so ho own rent:=by
 ext D8 hz;obtain⟨dx2,hp⟩:=z.sg.ins;ext zmD
 show(b9,kl,hkl,ll,fl,id z.ln);exact z.keep1 k (uy,k _ _ (dQ hx) e) (ne_f hz hx) (ne_f hp hx) (ne_f hk1 hx) (ne_f hk2 hx) (ne_f z.ow hx) (ne_f z.rn hx) (ne_f hkl hx) (fun nm h q ⟨kv,e1,e2⟩=>by
  show(on,q',q1,q2,fl nm h);ext bA hkl e1 e1;ext bA q1 e2 e2;exact ne_f q2 hx)
theorem xfe.keep {da:Addr} (z:Pz t H pz a dl d_o d_r p d1 d2 n names ss lens so ho own rent) (h:zbT) (k:NK dl):xfe H' dl da names:=fun nm hn q ⟨kv,e1,e2⟩=>by
 show(fD,kl,hkl,z.ln)
 have:=k _ hkl;ext bA e1 this this;exact h nm hn q ⟨kv,hkl,e2⟩
theorem AkD.hod {d:Addr}{al:av}{asked:aG} (h:zcm) (ask:vq):HoD H d al.length asked:=by
 refine(ba,_,h,by rw[Za]; exact Zj _,c8 s);cases e:iZ with
 | none=>exact xfy xei (aA znT)
 | some x =>
  rw[valM xei ((ask s).mp zX),e];rfl
theorem Pz.hand (z:Pz t H pz a dl d_o d_r p d1 d2 n names ss lens so ho own rent) (k:Rw) {m:Nat} (sg:Sg t H' p d1 d2 m so' ho'):Pz t H' pz a dl d_o d_r p d1 d2 m names ss lens so' ho' own rent:=by
 ext D8 hz;ext zmD
 show(ziR,⟨(m9,k _ _ (ne_f hz hk1) (ne_f hz hk2) hz),sg,k _ _ z.n2 (ne_f z.ow hk2) z.ow,k _ _ (ne_f z.rn hk1) z.n1 z.rn,(RN,kl,k _ _ z.n4 (ne_f hkl hk2) hkl),z.n1,z.n2,z.n3,z.n4⟩,k _ _ (ne_f q2 hk1) (fun y=>q3 (aD,y,Zi _ gE)) q2)
#check _
noncomputable def F5 (H H':Hp) (dl d_o d_r d1 d2:Addr):Prop:=(iE,dl,c≠d_o,(bj,c≠d_r,c≠d1,c≠d2,wA,qS))
inductive xnn (t:Adr) (vs:ag) (H:Hp) (Q:VK) (_:XK):Prop
 | mk (pz a dl d_o d_r p d1 d2 dp do_:Addr) (n w h:Nat) (ns:ai) (ps:aw) (st srt:av) (so:bp) (ho:aG) (own:bR) (rent:bL) (nm:Str) (e_:vs=[wL,wO]) (r_:Pz t H pz a dl d_o d_r p d1 d2 n ns srt jo so ho own rent/\(ax,Dr t H a dp do_ w h ps st srt,vJ,n<=500,ns.length<12,(ax,zsr,nm∉ns,Fit jo ns so ho own rent,zir,(zhn,F5 H H' dl d_o d_r d1 d2,Pz t H' pz a dl d_o d_r p d1 d2 (n+30) mI srt jo so' ho' own' rent',Fit jo mI so' ho' own' rent'))))
theorem xr3 {t:Adr}{H:Hp}{Q E}{pz a dl d_o d_r p d1 d2 dp do_:Addr}{n w h:Nat}{ns:ai}{ps:aw}{st srt:av}{so:bp}{ho:aG}{own:bR}{rent:bL}{nm:Str} (hh:Pz t H pz a dl d_o d_r p d1 d2 n ns srt jo so ho own rent/\Dr t H a dp do_ w h ps st srt/\vJ/\n<=500/\ns.length<12/\zsr/\nm∉ns/\Fit jo ns so ho own rent/\zir /\
 (zhn,F5 H H' dl d_o d_r d1 d2,Pz t H' pz a dl d_o d_r p d1 d2 (n+30) mI srt jo so' ho' own' rent',Fit jo mI so' ho' own' rent')):xnn t [wL,wO] H Q E:=⟨pz,a,dl,d_o,d_r,p,d1,d2,dp,do_,n,w,h,ns,ps,st,srt,so,ho,own,rent,nm,rfl,hh⟩
theorem ok_v (T:aV):FnOk true P w K mg base aU 7 t.f_v t.d_v iB (xnn t):=by
 refine T.F_v.okn (k:=6) sc_v (aY E) (fun cdv A outer s H vs Q E hr h=>?_)
 .obtain ⟨pz,a,dl,d_o,d_r,p,d1,d2,dp,do_,n,w',h',ns,ps,st,srt,so,ho,own,rent,nm,rfl,_⟩:=h;rfl
 .obtain ⟨pz,a,dl,d_o,d_r,p,d1,d2,dp,do_,n,w',h',ns,ps,st,srt,so,ho,own,rent,nm,rfl,h⟩:=h;refine⟨_,xh (qp bB fw (Gr (xav rfl (xau (zs:=["side", "row"]) (ys:=["name", "self"]) (fr:=[1,0]) (N0:=zkg) (sc0:=xp s_v) aP rfl rfl rfl) (xal (xag bB T.c_a T.m_i (ok_i T) bi T.b_i .nil xq i5)) MR (xer Ds) eW (vz (xg (xaq BS) (xg (xag (zcg,wv 3) T.c_a T.m_o (ok_o T) bi T.b_o .nil xq (gq 2 0 1)) (xi)))))))
   (xh (qp bB fw (xo))
   (xh (pS 2 sc_v.nd (xb0 i5))
   (xh (pS 3 sc_v.nd (xex))
   (xh (pS 4 sc_v.nd (xag bz T.c_p T.m_u (ok_u T) bi T.b_u .nil xq ww))
   (xh (xe5 ZB (xcz (xf0 eR jd (x8 bB rfl))) (xh (xam (xdw Jj JA J9 xcb iR (xg (xbg eR (x8 bB rfl) jd fC) (xi))))
   (xm (pS 4 sc_v.nd (xag bz T.c_p T.m_u (ok_u T) bi T.b_u .nil xq ww)))))
   (qE (xag bB T.c_ac T.m_l (ok_l T) bi T.b_l .nil xq (iN 3 4)))))))),?_⟩
  refine sq7 ?_; intros; obtain⟨z,dr,pok,n500,n12,⟨pt,ptin,pte⟩,⟨nnm,fit,⟨so2,ho2,mt2,all2⟩,q⟩⟩:47:=h;subst pte;ext T5;have w30:w'<=30:=gg dr.pic.w2
  show(dO,h16,h'<=16,gg dr.pic.h2,lo,Xj);have s32:srt.length<=32:=Nk
  ext D8 hpz;show(Io,dxa,hpic,dr.pic);show(af,hf,xdn pok.nn ptin,pnm,(pok.ok pt ptin).nm);have elen:xah w' ps srt pt.nm=(zbb).map fun s=>(s,zos):=by
   unfold xah;rw[hf]
  refine⟨pz,_,dx,_,_,rfl,wS hpz T.n_bg lkZp ⟨a,dxa,_,rfl,hpic,bM,a,dp,do_,w',h',ps,st,pt,rfl,dr.pic,dr.sts,dr.ok,pnm,hf,fun H1 l1 srt' rs1 s1 fl1 pm1 lt1 e1 sl1=>?_⟩⟩;show(cX,srt'=srt,xcq xeg (pm1.trans dr.pm.symm) lt1 dr.lt);have rl1:=sl1.len;show(ap,fl32,(zaC).length<=32,ZJ qy s32,jp l1 e1 vQ);refine xbp L6 nR hl2 (CO,Vg zaE) (fun _ _ _ _ tp ⟨q,qs,s,l,z1,z2,z3,z4⟩=>⟨124,q,qs,s,l,z1,pi z2,pi z3,z4⟩) (fun i x H2 hx s2 N hN=>?_) (fun ys H2 s2 e2 ly fy=>?_)
  .ext rF;show(ae,s,hs,hsq,sl1.get hqa);have sin:=dr.ok.2.2 s (dr.pm.mem_iff.mp (Zy.mp (Zn hs)).1);show(yD,fW qa (h8 hsq),q3,hq3);generalize eu:(jw,H2,q3,uq s.1,s.2)=H3;have s3:=su_e hq3 eu;show(af,g3,ug_e eu,s03,(oh).trans s3);show(yD,⟨pz,_,dx,_,_,rfl,(wS,s03 _ _ hpz,T.n_bg,lkZp,⟨a,dxa,_,rfl,s03 _ _ hpic,bM,a,dp,do_,w',h',ps,pt.nm,pt,s.1,s.2,rfl,Pic.same s03 dr.pic,pnm,hf,sin.1,sin.2,au H4 s4⟩)⟩,q5,hq5);show(lW,s5,Same H4 (jw,H4,q5,.ref q3,zos),c7 hq5,hN _ _ ((Et).trans s5) ⟨124,q5,q3,s,_,rfl,xl,zgJ g3,by rw[elen,Zd,hs]; rfl⟩)
  rw[Za,rl1] at ly;have lenl:(zaE).length=(zaC).length:=cA elen Za
  obtain⟨prs,L,rfl,hprs,ep,eL,hL⟩:85:=xh7 (tgt:=zaE) (cA ly lenl) fy;refine(xP,l2,prs,e2,hprs,au dq hdq);have L1:(L.map (·.2.1))=xax tq pt.nm:=by
   have:L.map (·.2.1)=(L.map (·.2)).map (·.1):=d7 Z0
   rw[this,eL];rfl
  have ll:L.length<=32:=by
   ext Bs eL;ext qH Za;omega
  have s3:Same H2 (jB H2 dq []):=c7 hdq;show(b9,H3,dps,e3,k3,xjg (d:=dq) L (H:=jB H2 dq []) (kvs:=[]) xl (zP,jK (hL x hx)) (by rw[L1]; exact lo.nd _) fC iD);ext zaB H3 ep;rw[eL,List.nil_append] at e3;show(nM,s23,Same H2 H3,k3 _ _ (xk e hdq) (s3 _ _ e));have s03:gK H3:=(oh).trans s23;have fdq:bI dq:=(oh).free hdq;have z3:=z.same s03;show(b9,kl,hkl,lkl,fkl,z3.ln)
  have hz3:=s03 _ _ hpz;show(o5,⟨pz,_,dx,_,_,rfl,wS hz3 T.n_bf lkZl (lN,dl,wE kB hkl (BIG aa))⟩,k4,(iE,dl,H3 c=some u,kX H3 dl GR),P7)
  have e4:fF H3 dl GR dl GR:=xl;have f4:∀ c,(CK H3 dl GR c)->H3 c=none:=fun c e=>by
   by_cases y:c=dl
   .ext vX y xl
   .rw [xj y] at e; exact e
  revert k4 e4 f4;generalize fe H3 dl (putK kl kB (.ref dq))=H4;intro k4 e4 f4;have hz4:=k4 _ _ (ne_f hz3 hkl) hz3;show(ap,ow4,OwD H4 d_o ns own,k4 _ _ z.n3 z3.ow,⟨pz,_,dx,_,_,rfl,Sq hz4 (lN,d_o,wE kB ow4 nR)⟩);rw[xcp _ (xfy inrI nnm)];have k5:(iE,d_o,H4 c=some u,kX H4 d_o (.dK MV)):=(om,bE nc e)
  have e5:OwD (fe H4 d_o MV) d_o tK O8:=by
   unfold OwD;rw[xl,Zq]
   congr 3
   .refine JB rJ;unfold setI;rw[ay (fun y:x=pt.nm=>nnm (bJ y hx))]
   .show [((ZW pt.nm:Key),V.int 0)]=[(ZW pt.nm,V.int (setI own pt.nm 0 pt.nm))]
    unfold setI;rw[bW]
  have f5:∀ c,(CK H4 d_o (.dK MV) c)->H4 c=none:=fun c e=>by
   by_cases y:c=d_o
   .ext vX y xl
   .rw [xj y] at e; exact e
  revert k5 e5 f5;generalize fe H4 d_o MV=H5;intro k5 e5 f5
  -- the prices with the new one
  have rn3:=z3.rn;obtain⟨dx2,hp3⟩:=z3.sg.ins;show(ae,m1,hm1,g1,z3.sg.so)
  show(ae,m2,hm2,g2,z3.sg.ho)
  show(dO,k35,∀ c u,c≠dl->(o9 c d_o Pw zdd),(zfC,k5 _ _ n2 (k4 _ _ n1 e)),ow3,z3.ow);unfold OwD at ow3;have tp35:Tups H3 H5:=(uy,k35 _ _ (dQ hkl) (dQ ow3) e);show(dO,hkl5,H5 dl=some GR,k5 _ _ (Z2 z.n3) e4,edq5,NT e3);have ndq:dq∉[d_r,d2]:=fun y=>by
   rcases dI y with y|y
   .rw [y,z.rn] at fdq; cases fdq
   .obtain ⟨m0,hm0,_⟩:62:=(z.sg.ho)
    rw[Zp.mp y,hm0] at fdq;cases fdq
  have z5:Pz t H5 pz a dl d_o d_r p d1 d2 n tK srt' tq so ho O8 rent:=by
   refine⟨(m9,k5 _ _ (ne_f hz3 ow3) hz4),⟨⟨dx2,NT hp3⟩,SoD.keep ⟨m1,hm1,g1⟩ tp35 (ng,k35 _ _ (Z2 z.n4) (Z2 z.n2) e),(Ud,⟨m2,hm2,g2⟩,k35 _ _ (ne_f hm2 hkl) (ne_f hm2 ow3) e)⟩,e5,NT rn3,ba _ hkl5 ?_ rJ,z.n1,z.n2,z.n3,z.n4⟩
   .have:=xbm kl kB (.ref dq);rw[Zr,Jg];omega
   .rw [xco];by_cases c:x=pt.nm
    .subst c;exact(ba,dq,dF bW,edq5,ndq)
    .rw [(El,c (ZW.inj y))];rcases UL with hx|hx
     .obtain ⟨qq,q1,q2,q3⟩:63:=fkl x hx;exact(ba,qq,q1,NT q2,q3)
     .exact absurd (Zp.mp hx) c
  have fr5:∀ c u,c≠dl->(o9 c d_o wA zdd):=(zfC,k35 _ _ n1 n2 (s03 _ _ e));have lnin:∀ x∈tK,∀ qq,(∃ kvs,H5 dl=some (.dK kvs)/\(zgP x)=some (.ref qq))->∃ u,H5 qq=some u:=fun x hx qq ⟨kv,y1,y2⟩=>by
   obtain⟨kl5,hk5,_,f⟩:63:=(z5.ln)
   show(on,q',q1,q2,f x hx);ext bA hk5 y1 y1;ext bA q1 y2 y2;exact gF q2
  -- those who ask
  refine⟨(nu leS1),au la hla⟩;show(G8,cF H5 la [mD],hla);refine au da hda;have nlda:la≠da:=xk g6 hda;show(zbB,jB H6 da [],hda);show(af,z7,z5.same (s6.trans s7),g67,s7 _ _ g6);have NE:∀{c:Addr}{u:HO},H6 c=some u->c≠da:=fun {c u} e=>xk e hda;have ndr:da≠d_r:=Z2 (NE (fQ z5.rn));have nd2:da≠d2:=by
   show(fD,m0,hm0,z5.sg.ho)
   exact Z2 (NE (fQ hm0))
  have nln7:xfe H7 dl da tK:=fun x hx qq ⟨kv,y1,y2⟩=>by
   show(fD,kl5,hk5,z5.ln)
   have y3:=yH hk5;ext bA y1 y3 y3;obtain⟨u,hu⟩:=lnin x hx qq ⟨kv,hk5,y2⟩;exact NE (fQ hu)
  show(af,mt,fit.mt,dm,fit.dm);have sn:Cu pt.nm:=by
   have:=dm pt.nm;show(qH,tz nnm);ext lA
  have nsl:(tK).length<=12:=OB
  have gw0:Grow tq ns pt.nm so ho [pt.nm] [] eX O8 rent:=fit.grow lo nnm
  -- one step of asking
  have STEP:∀{crowd:ai}{al:av}{asked:aG}{o1:bR}{r1:bL},Grow tq ns pt.nm so ho crowd al asked o1 r1->(zdx tK)/\(ax crowd.Nodup al.Nodup (∀ s∈al,s∈srt') vq zcx):=fun {crowd al asked o1 r1} gw=>by
   show(bw,c1,zdx tK,b,hb,gw.bf.in_ mt dm hb);have c2:=gw.bf.nodup mt sn;refine⟨46,c1,c2,gw.bf.nd,E6,gw.bf.ask,ZJ (xin c2 c1) nsl⟩;ext zeA hs;obtain⟨_,_,_,_,_,e4⟩:84:=gw.bf.ak j s (o6 hj ej);exact lo.ins _ _ e4
  obtain⟨c1,c2,c3,c4,c5,c6⟩:46:=STEP gw0;obtain⟨g0,b0,t0,nr0⟩:101:=gw0.nearest lo mt dm sn mt2 all2;have gp0:=gw0.gap lo mt dm nr0;obtain⟨dx7,hz7⟩:=z7.ins;refine⟨pz,dx7,_,rfl,hz7,xgz aP,?_⟩;ext LL;refine xqp (crowd:=[pt.nm]) (al:=[]) (asked:=eX) ⟨47,z7,g67,g7,c5,c1,c2,⟨47,c3,c4,s32,nsl,ndr,lo.ins,(bO,nln7,nd2,nr0,zcv,fun H8 qs8 k8 hq8 z8 ak8=>?_)⟩⟩;ext ztj; show(j3,nlo,la,d_o,g67,z7.ow);show(j3,nlr,la,d_r,g67,z7.rn);show(fD,kl7,hk7,z7.ln)
  ext j3 ndl dl da hk7 g7;ext j3 ndla dl la hk7 g67;show(ap,ndlr,dl≠d_r,ne_f hk7 z7.rn,(fJ,fun m Z H9=>(zhR,Z=zoj/\(ax,(ziw,H9 c=some u),H9 qs=some (.tup (xa5 s)),H9 la=some (.lst (crowd.map V.str)),AkD H9 da oF Hy,(zhd,Pz t H9 pz a dl d_o d_r p d1 d2 n tK srt' tq so ho (shO o1 crowd g) (shR r1 asked g),Grow tq ns pt.nm so ho crowd al asked o1 r1,m))),(oE,[pt.nm],[],_,oE _ g0 b0 ⟨86,t0,qs8,rfl,fun c u n1 n2 n3 _ e=>k8 c u n1 n2 n3 e,hq8,k8 _ _ nlo nlr nlda g67,ak8,(bO,z8,gw0,.refl _,nr0,rfl)⟩)));rintro m Z H9 (⟨crowd,al,asked,o1,⟨r1,g,b,s,qs,rfl,k9,hqs,hl9,ak9,z9,gw,rc,nr,rfl⟩⟩:121);obtain⟨dx9,hz9⟩:=z9.ins;obtain⟨dx9p,hp9⟩:=z9.sg.ins;show(af,dgH,z9.sg.ho.get hqs,gp,gw.gap lo mt dm nr);have nal:s∉al:=fun y=>by
   have:=(gw.bf.ask s).mpr y;show(Bv,gp.na)
  obtain⟨x1,x2,x3,x4,x5,x6⟩:46:=STEP gw;refine⟨pz,_,dx9,_,_,rfl,wS hz9 T.n_bd lkZs ⟨p,_,dx9p,_,_,rfl,hp9,T.c_ac,T.n_ba,lkHo,d2,_,rfl,dgH,_,rfl,?_⟩⟩;cases hs:ho s with
  | some x =>
   rw[hs] at dgH;have gw2:=gw.more mt sn gp hs;obtain⟨y1,y2,y3,y4,y5,y6⟩:46:=STEP gw2;obtain⟨g2',b2,t2,nr2⟩:101:=gw2.nearest lo mt dm sn mt2 all2;have gp2:=gw2.gap lo mt dm nr2;refine ifP rfl (fJ,rN (zp,20-crowd.length,(zhR,σ'=zoj/\(ax,ziw qS,H' qs=some (.tup (xa5 s)),BY la (.lst (crowd.map V.str)),AkD H' da oF Hy,(zhd,Pz t H' pz a dl d_o d_r p d1 d2 n tK srt' tq so ho (shO o1 crowd g) (shR r1 asked g),Grow tq ns pt.nm so ho crowd al asked o1 r1,m')))),fun σ' H' y=>y);ext nW; show(o5,⟨qX hl9,pz,_,dx9,_,_,rfl,hz9,T.c_p,T.n_bd,lkZs,p,_,dx9p,_,_,rfl,hp9,T.c_ac,T.n_ba,lkHo,d2,lR,rfl,dgH,la,_,_,rfl,rfl,hl9,nR,?_⟩,k10,(iE,la,H9 c=some u,kX H9 la (.lst Uv)),P7)
   have g10:Gi H9 la Uv la (.lst ((S6).map V.str)):=Kw
   have z10:=z9.keepL hl9 k10;have ak9':H9 da=some (.dT ((oF).map (aA (jG,xv z,(IU b z).getD (ZE ""))))):=ak9;have ak10:AkD (cF H9 la Uv) da oF Hy:=k10 _ _ (Z2 nlda) ak9;revert k10 g10 z10 ak10;generalize cF H9 la Uv=H10;intro k10 g10 z10 ak10;obtain⟨dx10,hz10⟩:=z10.ins;show(ap,nln10,xfe H10 dl da tK,nln7.keep z7 (ng,k10 _ _ ndla (k9 _ _ (Z2 z.n3) ndlr ndl ndla e)),⟨pz,dx10,_,rfl,hz10,xgz aP,?_⟩);ext LL;refine xqp (crowd:=S6) (al:=oF) ⟨47,z10,g10,ak10,y5,y1,y2,⟨47,y3,y4,s32,nsl,ndr,lo.ins,⟨45,nln10,nd2,nr2,(fun y=>by
    have:=(gw2.bf.ask t2).mpr y;show(Bv,gp2.na)),fun H11 qs11 k11 hq11 z11 ak11=>?_⟩⟩⟩
   show(cR,20-(S6).length,OB,(gu,S6,oF,_,_,oE g2' b2 t2 ⟨66,qs11,rfl,fun c u n1 n2 n3 n4 e=>k11 _ _ n1 n2 n3 (k10 _ _ n4 (k9 _ _ n1 n2 n3 n4 e)),hq11,k11 _ _ nlo nlr nlda g10,ak11,(bO,z11,gw2,.step rc (a_go nr hs),nr2,rfl)⟩))
  | none =>
   rw[hs] at dgH;refine ifN rfl ?_;have ask2:∀ s',(gT (IU b s'))↔s'∈oF:=fun s'=>by
    unfold Kp.upd1;ext jc s' s
    .rw [aC c];show(aO,fun _=>Z1 _ (Zp.mpr c),p5)
    .rw [sr,gw.bf.ask s',Zw];show(aO,.inl,fun y=>y.elim id fun y=>absurd (Zp.mp y) c)
   show(zeG,gp.ac);show(dO,ea,aF crowd b,Kt,chn,gw.bf.chain mt sn aa ea gp.rm nal);refine⟨pz,_,dx9,_,_,rfl,wS hz9 T.n_bd lkZs ⟨p,dx9p,_,rfl,hp9,xmm aP,p,d1,d2,da,qs,n,(oF).length,xax (xah w' ps srt'),so,ho,Hy,fun zz=>crowd.idxOf zz,pt.nm,b,s,rfl,hqs,z9.sg,ak9.hod ask2,nd2,aa,mt,hs,XW,chn,fun H12 so' ho' kb fr12 sg' mt' dm' rk=>?_⟩⟩;refine q H12 _ _ so' ho' _ s (fun c u n1 n2 n3 n4 n5 e=>?_) (z9.hand kb sg') (.step rc (xyu nr hs)) rk (gw.last lo mt sn dm x6 gp hs mt' dm' rk);show(af,e5,fr5 _ _ n1 n2 e,e6,fQ e5);exact kb _ _ n4 n5 (k9 _ _ n2 n3 (NE e6) (xk e5 hla) (s7 _ _ e6))
theorem Run.none {room:iL}{ss:av} (snd:ss.Nodup) (hr:N4) {ns:ai}{so:bp}{ho:aG}{cs:dh} (r:tQ) (nd:ns.Nodup) {so2:bp}{ho2:aG} (mt2:Kp.Mt room so2 ho2) (all:∀ z∈ns,zfr):cs=[]:=by
 cases cs with
 | nil=>rfl
 | cons c r' =>
  obtain⟨so0,ho0,mt0,cr,sub⟩:83:=r.crowd nd c gE;show(zkC,cr.count mt0 snd hr,hr,all a (sub a ha))
theorem xqx {H:Hp}{ps:aw}{so:bp}:∀{names:ai}{ys:ag},(r6 names.length)->(NU,∃ q s pt,zkx (Ti pt.nm))->∃(prs:bn) (qs:az),ys=qs.map V.ref/\Eh/\prs.map (·.1.nm)=names/\(zaP OM)
 | [],[],_,_=>⟨84,[],[],rfl,.nil,rfl,Ow⟩
 | [],b5,h,_=>eO
 | b5,[],h,_=>eO
 | nm::names,nD,h,f=>by
  obtain⟨q,s,pt,h1,h2,h3,rfl,h4⟩:105:=f 0 y rfl;obtain⟨prs,qs,e1,e2,e3,e4⟩:84:=xqx (names:=names) (ys:=ys) yt (fun i y hy=>by
   obtain⟨q,s,pt,a1,a2,a3,a4,a5⟩:105:=zpN;exact⟨105,q,s,pt,by simpa using a1,a2,a3,a4,a5⟩)
  have h1:nm=pt.nm:=nU
  refine⟨84,(pt,s)::prs,sH,d7 e1,d4 h4 e2,by rw[Zo,e3,h1],lG⟩;rcases LW with rfl|hp
  .exact ⟨h2,h3⟩
  .exact e4 p hp
inductive xtv (t:Adr) (vs:ag) (H:Hp) (Q:VK) (_:XK):Prop
 | mk (a ln dp do_:Addr) (w h:Nat) (ps:aw) (st srt:av) (names:ai) (e_:vs=[aB,wM]) (r_:Dr t H a dp do_ w h ps st srt/\vJ/\GE/\OS/\names.Nodup/\sZ/\zjH/\∀ H' tp lp d_o d_r qs prs own rent so' ho',cG->(Ih tp (wB,.ref lp,d_o,d_r))->H' lp=some (.lst (qs.map V.ref))->PrsL H' prs qs->prs.map (·.1.nm)=names->(bj,(zaP,so' cp=some dG),OwD H' d_o names own,RnD H' d_r srt rent,LRun jo names own rent so' ho',kM (bI lp) (bI d_o) (bI d_r) (bI tp) (.ref tp)))
theorem xmr (T:aV):FnOk true P w K mg base aU 9 t.f_least t.d_least pR (xtv t):=by
 refine T.F_least.okn (k:=8) xf9 (aY E) (fun cdv A outer s H vs Q E hr h=>?_)
 .obtain ⟨a,ln,dp,do_,w',h',ps,st,srt,names,rfl,_⟩:=h;rfl
 .obtain ⟨a,ln,dp,do_,w',h',ps,st,srt,names,rfl,h⟩:=h;refine⟨_,xh (pS 2 xf9.nd (pC (xvm T) hr T.g_fits T.F_fits.kp T.b_fits BS))
   (xh (FX (Uc 2))
   (xh (AG 3 xf9.nd (xhk T.k_p (ok_ar T) bi rfl T.g_p T.b_ar .nil xq qz))
   (xh (pT wV 4 xf9.nd (qE (xag h7 T.c_p T.m_v (ok_v T) bi T.b_v .nil xq (gG 4))))
   (xh (xe1 rfl (xau (zs:=["name"]) (ys:=["prices"]) (fr:=[3]) (N0:=ziU) (sc0:=xp xhh) aP rfl rfl rfl) wV fj eP eW (VT (xbg eR (zcg,x8 (zcg,wv 1) rfl) bz fC)) (j:=5) rfl FZ)
   (KG (eT 5 (iK (wv 3) (wv 3)))))))),?_⟩
  refine sq6 ?_; intros; obtain⟨dr,pok,hln,nps,nnd,n12,⟨⟨so2,ho2,mt2,all2⟩,q⟩⟩:47:=h;have snd:srt.Nodup:=dr.pm.nodup_iff.mpr dr.ok.1;have hr:(xN,s∈xa3 ps srt n,s∈srt):=fun n s hs=>by
   unfold xa3 at hs;split at hs
   .exact qv hs
   .exact nomatch hs
  refine⟨a,ln,dp,do_,w',h',ps,st,srt,names,rfl,⟨46,dr,hln,nps,nnd,n12,fun H1 v cs so ho s1 run alt=>?_⟩⟩;show(nB,run.none snd hr nnd mt2 all2);obtain rfl:v=.non:=by
   rcases alt with⟨_,e⟩|⟨_,_,_,e,_⟩
   .exact e
   .cases e
  refine(hW,ifN ao ?_);refine (bC pz dx hpz hdx ne);have s2:Same H1 (upd (upd H1 dx (.own pz)) pz (MB [])):=fun b u e=>by
   show(cD,mW hpz,Lu,e)
  have s02:=s1.trans s2;refine⟨pz,dx,a,dp,do_,w',h',ps,st,srt,RB,rfl,xl,dr.same s02,fun H2 dl d_o d_r p d1 d2 f1 f2 f3 f4 f5 f6 k2 z2=>FF⟩;ext xW; show(nM,s12,kD,k2 _ _ (xk e hpz) (s2 _ _ e));have sH2:L3:=s1.trans s12;show(af,g1,s02.free f1,g2,s02.free f2);show(af,g3,s02.free f3,g5,s02.free f5);show(af,g6,s02.free f6,hln2,sH2 _ _ hln);ext Aa ln hln2
  let Pv (i:Nat) (Z:L2.St) (H3:Hp):Prop:=∃(v4 v5:bS) (so:bp) (ho:aG) (own:bR) (rent:bL),(hZ,Z,[cV,kP,some .non,wP,v4,v5],gK H3,Pz t H3 pz a dl d_o d_r p d1 d2 (30*i) yN srt RB so ho own rent,LRun RB yN own rent so ho)
  show(zcF,?_)
  .exact qG _ ⟨84,_,_,rfl,sH2,z2,.nil⟩
  .show(zmA,H3,s3,jK hln)
  .rintro i x Z H3 hx (⟨v4,v5,so3,ho3,⟨own,rent,rfl,s3,z3,r3⟩⟩:121);ext sT nm hnm;ext y9 hi ei hnm;have nin:nm∉yN:=fun y=>by
    have:=xji id (ps:=names) (aD Y8 nnd) hi nm y;exact this ei.symm
   have tk:names.take aM=yN++[nm]:=by
    rw[ZT,hnm];rfl
   obtain⟨dx3,hz3⟩:=z3.ins;refine⟨pz,dx3,_,rfl,hz3,xgz aP,?_⟩;ext LL;refine xr3 ⟨47,z3,dr.same s3,pok,aa,ou Yd,zcN,(cI,nin,r3.fit,(bK,so2,ho2,aD xf8 mt2,fun zz hzz=>all2 zz (by rw[<- tk] at hzz; exact Q9 hzz)),fun H4 own' rent' so' ho' asked s k4 z4 ra rk fit=>?_)⟩;refine oE _ so' ho' ⟨84,own',rent',rfl,(kU,k4 _ _ (xk e g1) (xk e g2) (xk e g3) (xk e g5) (xk e g6) (s3 _ _ e)),?_,?_⟩
   .rw [tk,Nat.mul_succ];exact z4
   .show(c9,tk,.snoc r3 ra rk fit)
  .rintro Z H3 (⟨v4,v5,so3,ho3,⟨own,rent,rfl,s3,z3,r3⟩⟩:121);rw[Za,Jh] at z3 r3;have hln3:=jK hln;obtain⟨dx3,hz3⟩:=z3.ins;obtain⟨dx3p,hp3⟩:=z3.sg.ins;have fit:=r3.fit;show(nX,ln,hln3,l4,hl4,xbp (bb hln3) xZ hl4 (CO,∃(q:Addr) (s:Seat) (pt:Pt),(zkx,so3 pt.nm=some s)) (fun _ _ _ _ tp ⟨q,s,pt,x1,x2,x3,x4,x5⟩=>⟨105,q,s,pt,x1,x2,x3,x4,pi x5⟩) (fun i x H4 hx s4 N hN=>?_) (fun ys H4 s4 e4 ly fy=>?_))
   .ext Hr nm hnm;ext lU pt ptin zcN;have sm:gT (so3 pt.nm):=(cA,fit.dm,decide_eq_true (Zn hnm))
    rcases (z3.sg.same s4).so.get pt.nm with⟨e0,_⟩|⟨c,qq,ec,dg,hqq⟩
    .ext Ag e0 sm
    ext EV p1 h1;show(Oe,ez H4 p1 [mD],h1);have dg5:DGet H5 d1 mD (bu qq):=by
     obtain⟨kk,hk,_,fk⟩:63:=(z3.sg.same s4).so;show(ae,q',a1,a2,(fk pt.nm).2 c ec);show(af,g,kI kB (dP hk),g',kI kB hk);rcases dg with⟨kv,k,r1,r2,r3⟩|⟨kv,k,b,_,r2,_⟩
     .have e1:k=kB:=by
       cases k with
       | inl i=>cases r2
       | inr x=>exact congrArg ZW (V.str.inj r2).symm
      subst e1;rcases r1 with r1|⟨_,r1⟩
      .rw [hk] at r1;cases r1;ext aK r3 g
      .ext Ag hk r1
     .cases r2
    refine⟨pz,_,dx3,_,_,rfl,(wS,zgJ hz3,T.n_bd,lkZs,⟨p,_,dx3p,_,_,rfl,zgJ hp3,T.c_ac,T.n_bc,lkSo,d1,.ref qq,rfl,dg5,p1,qq,_,_,rfl,rfl,dR g5,dR (dP hqq),aj,(HR,1+2),dJ,fun _ p2 h2=>?_⟩)⟩;exact hN _ _ (s5.trans (c7 h2)) ⟨105,p2,c,pt,hnm,ptin,ec,rfl,xl⟩
   rw[Za] at ly;obtain⟨prs,qs,rfl,pl,en,al⟩:84:=xqx ly fy;have z4:=z3.same s4;obtain⟨dx4,hz4⟩:=z4.ins;refine⟨pz,_,dx4,_,_,rfl,Sq hz4 ⟨pz,_,dx4,_,_,rfl,hz4,T.c_p,T.n_bi,lkZr,TR,au tp htp⟩⟩;show(Oe,ez H4 tp (wB,.ref l4,d_o,d_r),htp);exact q H5 tp l4 d_o d_r qs prs own rent so3 ho3 ((Et).trans s5) g5 (dP e4) (pl.keep (Same.tups s5)) en al (dP z4.ow) (dP z4.rn) r3 (s3.free hl4) g2 g3 ((Et).free htp)
inductive xk7 (K:Zf) (vs:ag) (H:Hp) (Q:VK) (_:XK):Prop
 | mk (a:Addr) (ns:iI) (e_:vs=fO) (r_:RZ/\ns.length<=63/\∀ H',Q (.bl true) H')
theorem xni {ps:aw}{w h:Int}{ss:av}{prs:bn} (nx:(ps.map (·.x)).Nodup) (g:D1):∀ k,(tw).map (·.1)=prs.map (·.1)/\((tw).map (·.2)).Perm (prs.map (·.2))/\totI w tw<=tR
 | 0=>(Go,YK.refl _,Y9 _)
 | cL=>by
  show(gX,i1,i2,i3,xni (ss:=ss) nx g k);have gk:=zaY;show (A8).map (·.1)=_/\((A8).map (·.2)).Perm _/\totI w A8<=_;cases e:ztN with
  | none =>
   have en:A8=tw:=by
    unfold nxtP;rw[e]
   rw[en];ext aJ i1 i2 i3
  | some tr =>
   obtain⟨A,p1,B,p2,⟨C,c,e0,hc,et,ne,en,el,g',dec⟩⟩:121:=xl4 nx gk e;show(gH,?_,?_)
   .rw [<- i1,el,e0];simp
   .refine YK.trans ?_ i2;rw[el,e0];simp only[Zq,Zo];refine YK.append_left _ ?_;exact ((Qy.cons p2.2).trans (YK.swap _ _ _)).trans (Qy.symm.cons p1.2)
   .rcases dec with z|⟨_,z,_⟩<;>omega
noncomputable def xen (xs:yF) (s:Seat):iY:=(xs.find? fun x=>d9 aZ s).map (·.2)
theorem xs9 {xs:yF}{s:Seat}:(xen xs s).isSome=decide (s∈xs.map (·.1)):=by
 unfold xen;rw[QR,Jr,List.find?_isSome,decide_eq_true_iff,Zg];constructor
 .ext rh x h1 h2;show(aJ,x,h1,D3 h2)
 .ext rh x h1 h2;show(aJ,x,h1,yS h2)
theorem xgr {xs:yF}{s:Seat}{l:Int} (h:xen xs s=some l):(s,l)∈xs:=by
 unfold xen at h;show(ae,x,h1,h2,Zh.mp h);have h3:=Wq h1;have h3:aZ=s:=D3 h3;rw[<- h3,<- h2];exact Jm h1
theorem xnq {α:Type}{r:zE} (h:∀ a,r a<=0):∀ l:cT,zeo<=0
 | []=>Y9 _
 | a::l=>by
  rw[Zo,J5];show(Ac,h a,xnq h l)
theorem xtp {α:Type}{r:zE}:∀ l:cT,(∀ a∈l,r a=0)->zeo=0
 | [],_=>rfl
 | a::l,h=>by
  rw[Zo,J5,h a gE,xtp l zbs];rfl
theorem xma {α:Type}{r:zE}{l m:cT} (p:l.Perm m):zeo=(m.map r).sum:=by
 induction p with
 | nil=>rfl
 | cons x _ ih=>rw[Zo,Zo,J5,J5,ih]
 | swap x y l=>simp only[Zo,J5]; omega
 | trans _ _ h1 h2=>rw[h1,h2]
theorem xnp {α:Type} [D2] {r:zE} (h:∀ a,r a<=0):∀{T ss:cT},T.Nodup->(∀ a∈T,a∈ss)->(ss.map r).sum<=(T.map r).sum
 | [],ss,_,_=>xnq h ss
 | x::T,ss,nd,sub=>by
  ext zuJ;rw[xma (List.perm_cons_erase hx),Zo,Zo,J5,J5];show(bZ,xnp h (T:=T) (ss:=ss.erase x) jI (fun a ha=>(W5 (fun e:a=x=>nd.1 (e▸ha))).mpr (sub a (Zi _ ha))))
theorem xpp {α:Type} [D2] {r:zE}:∀{T ss:cT},(bj,T.Nodup,ss.Nodup,(∀ a∈T,a∈ss),(∀ a∈ss,a∉T->r a=0),(ss.map r).sum=(T.map r).sum)
 | [],ss,_,_,_,z=>xtp ss fun a ha=>z a ha zcv
 | x::T,ss,nd,snd,sub,z=>by
  ext zuJ;show(af,pm,List.perm_cons_erase hx,nd2,pm.nodup_iff.mp snd);rw[Z8] at nd2;rw[xma pm,Zo,Zo,J5,J5];rw[xpp (T:=T) (ss:=ss.erase x) jI nd2.2 (fun a ha=>(W5 (fun e:a=x=>nd.1 (e▸ha))).mpr (sub a (Zi _ ha))) (fun a ha na=>z a (List.mem_of_mem_erase ha) (fun y=>by
   rcases dI y with y|y
   .rw [y] at ha; exact nd2.1 ha
   .exact na y))]
noncomputable def lenP (lens:cN) (p:Pr):Int:=(xen (lens cp) dG).getD 0
noncomputable def xck (lens:cN) (prs:bn):Int:=(prs.map (lenP lens)).sum
noncomputable def gvL (lens:cN) (names:ai) (prs:bn):Bool:=decide (prs.map (·.1.nm)=names)&&(decide ((prs.map (·.2)).Nodup)&&prs.all fun p=>bG zby)
theorem xhi {lens:cN}{names:ai}{prs:bn}:gvL lens names prs=true↔prs.map (·.1.nm)=names/\(prs.map (·.2)).Nodup/\∀ p∈prs,zby:=by
 unfold gvL;rw[Z9,Z9,decide_eq_true_iff,decide_eq_true_iff,YY];simp only[decide_eq_true_eq]
theorem xf4 {lens:cN}{n:Str}{s:Seat} (h:s∈Tf):∃ l,xen (lens n) s=some l:=by
 have:=xs9 (xs:=Ad) (s:=s);rw[decide_eq_true (show s∈(Ad).map (·.1) from h)] at this;exact QZ.mp this
theorem xp8 {α:Type}{f g:zE}:∀{l:cT},(∀ a∈l,f a<=g a)->(l.map f).sum<=(l.map g).sum
 | [],_=>Y9 _
 | a::l,h=>by
  rw[Zo,Zo,J5,J5];show(Ac,h a gE,xp8 (l:=l) zbs)
theorem xh4 {α:Type}{f g:zE}:∀ l:cT,(l.map fun a=>f a+g a).sum=(l.map f).sum+(l.map g).sum
 | []=>rfl
 | a::l=>by
  rw[Zo,Zo,Zo,J5,J5,J5,xh4 l];omega
section
variable {lens:Str->List (Seat × Int)}{names:List Str}{so:Str->Option Seat}{ho:Seat->Option Str}{own:Str->Int}{rent:Seat->Int}{ss:List Seat}
theorem xny {prs:bn} (e:prs.map (·.1.nm)=names):(prs.map fun p=>own cp).sum=(vF).sum:=by
 rw[<- e,Z0];rfl
theorem Fit.dual (f:Fit lens names so ho own rent) (lo:vP) {prs:bn} (g:gvL lens names prs=true):(vF).sum+zbS<=yK:=by
 show(gX,e,nd,al,xhi.mp g);have h1:zlg<=yK:=xp8 fun p hp=>by
  ext zgG rR;have:=f.le cp (zcw e E3) (dG,l) (xgr hl);unfold lenP;ext aK hl this
 rw[xh4,xny e] at h1;have h2:=xnp f.rl nd (fun s hs=>by
  ext eG p hp hs;exact lo.ins _ _ rR) (ss:=ss)
 rw[Z0] at h2;have h3:(prs.map (rent∘fun p=>dG)).sum=(prs.map fun p=>rent dG).sum:=rfl;omega
theorem Fit.tight (f:Fit lens names so ho own rent) (lo:vP) (nnd:names.Nodup) {prs:bn} (e:prs.map (·.1.nm)=names) (al:∀ p∈prs,OM):gvL lens names prs=true/\yK=(vF).sum+zbS:=by
 have nd:(prs.map (·.2)).Nodup:=by
  rw[Y3,Ju];intro i j hi hj lt z;rw[Za] at hi hj;rw[YX,YX] at z;show(af,a1,al _ (Qz hi),a2,al _ (Qz hj));rw[z] at a1;have:=f.mt.inj a1 a2;rw[<- e] at nnd;exact absurd this (by
   have y:=Ju.mp nnd i j (fL hi) (fL hj) lt;ext oW YX YX y y)
 show(ap,rm,∀ p∈prs,zby,(fG,f.mt.rm _ _ rR),(eS,xhi.mpr ⟨e,nd,rm⟩));have h1:yK=zlg:=by
  unfold xck
  congr 1
  refine JB lG;show(zgG,rm p hp);unfold lenP;show(aK,hl,(f.eq _ _ rR l (xgr hl)).symm)
 rw[h1,xh4,xny e];have h2:=xpp (r:=rent) nd lo.snd (fun s hs=>by
  ext eG p hp hs;exact lo.ins _ _ (rm p hp)) (fun s hs ns=>f.r0 s (by
  cases z:ho s with
  | none=>rfl
  | some n =>
   have y:=(f.mt.iff n s).mpr z;have nin:n∈names:=by
    have:=f.dm n;ext qH y;ext zec
   rw[<- e] at nin;ext eG p hp nin;show(cJ,rR,y,absurd (Zg.mpr ⟨p,hp,ZH.inj y⟩) ns)))
 rw[h2,Z0];rfl
#check _
theorem xcy {K:Zf}{H:Hp}{l:Addr}{nms:ai} (e:aE l (.lst (nms.map V.str))):Dv K H 1 bH (.lst (nms.map DV.str)):=.lst (bb e) (cA Za Za) fun j x d h1 h2=>by
 ext zio
structure GvF (lens:cN) (names:ai) (f:Str->Seat):Prop where
 rm:∀ n∈names,f n∈Tf
 inj:∀ a∈names,∀ b∈names,f a=f b->a=b
noncomputable def xem (lens:cN) (names:ai) (f:Str->Seat):Int:=(names.map fun n=>(xen (lens n) (f n)).getD 0).sum
structure xdv (lens:cN) (names:ai) (T:Int):Prop where
 has:∃ f,HK/\HJ=T
 le:∀ f,HK->T<=HJ
noncomputable def mkPr (f:Str->Seat) (n:Str):Pr:=(⟨n,0,0,n,0,0⟩,f n)
section
variable {lens lens':Str->List (Seat × Int)}{names names':List Str}{so:Str->Option Seat}{ho:Seat->Option Str}{own:Str->Int}{rent:Seat->Int}{ss:List Seat}{f:Str->Seat}{T T':Int}
theorem GvF.prs (g:HK) (nnd:names.Nodup):gvL lens names (names.map (mkPr f))=true/\xck lens (names.map (mkPr f))=HJ:=by
 show(dE,xhi.mpr (xJ ?_ lG),?_)
 .rw [Z0];exact Y8 _
 .rw [Z0,JG,ZU];exact Yu.imp_of_mem (Rg,ne,ne (g.inj a ha b hb e)) nnd
 .show(dL,n,hn,rfl,Zg.mp hp);exact g.rm n hn
 .unfold xck xem;rw[Z0];rfl
theorem Fit.leastF (fit:Fit lens names so ho own rent) (lo:vP) (nnd:names.Nodup) {prs:bn} (e:prs.map (·.1.nm)=names) (al:∀ p∈prs,OM):(SR yK)/\yK=(vF).sum+zbS/\∃ f,HK/\HJ=yK/\∀ n∈names,f n∈prs.map (·.2):=by
 obtain⟨gv,tight⟩:=fit.tight lo nnd e al;have h1:∀ n∈names,∃ p∈prs,cp=n/\(KI dG):=fun n hn=>by
  rw[<- e] at hn;ext eG p hp hn;exact ba p hp rfl rR
 have g:GvF lens names (fun n=>(so n).getD zr):=by
  show(dE,wg,bC a ha b hb z)
  .obtain ⟨p,_,_,e1⟩:63:=h1 n hn;show(uW,(so n).getD zr∈_,e1,fit.mt.rm _ _ e1)
  .obtain ⟨p,_,_,e1⟩:63:=h1 a ha;obtain⟨p',_,_,e2⟩:63:=h1 b hb;have z:(so a).getD zr=(so b).getD zr:=z;rw[e1,e2] at z;have z:dG=p'.2:=z;rw[z] at e1;exact fit.mt.inj e1 e2
 have c:xem lens names (fun n=>(so n).getD zr)=yK:=by
  unfold xem xck;rw[<- e,Z0];refine zqe;show (xen (lens cp) ((so cp).getD zr)).getD 0=lenP lens p;rw[rR];rfl
 show(cR,⟨cq g c,au f2 g2⟩,tight,ba _ g c wg)
 .obtain ⟨y1,y2⟩:=g2.prs nnd;rw[tight,<- y2];exact fit.dual lo y1
 .obtain ⟨p,hp,_,e1⟩:63:=h1 n hn;show (so n).getD zr∈_;ext Ff e1 E3
theorem xdv.le_of (a:SR T) (b:xdv lens' names' T') (h:∀ f,HK->∃ g,GvF lens' names' g/\xem lens' names' g<=HJ):T'<=T:=by
 show(ae,f,g,e,a.has)
 show(ae,f',g',le,h f g);show(bZ,b.le f' g')
#check _
section
variable {w:Nat}{h:Int}{ps ps':List Pt}{srt srt':List Seat}{names names':List Str}{f:Str->Seat}{T T':Int}
theorem xoa (nd:(ps.map (·.nm)).Nodup) {p:Pt} (hp:zV):xah w ps srt p.nm=(srt.filter (xb1 p)).map fun s=>(s,GN):=by
 unfold xah;rw[xdn nd hp]
theorem xhv (nd:(ps.map (·.nm)).Nodup) {p:Pt} (hp:zV) {s:Seat}:s∈xax jo p.nm↔s∈srt/\LO=true:=by
 rw[xf8];unfold xa3;show(aK,xdn nd hp,Zy)
theorem xv5 (nd:(ps.map (·.nm)).Nodup) {p:Pt} (hp:zV) {s:Seat} (hs:s∈xax jo p.nm):(xen (xah w ps srt p.nm) s).getD 0=GN:=by
 ext zgG hs;have:=xgr hl;show(qH,xoa nd hp);show(zi,s',e,Zg.mp this);show(af,e1,(W7.inj e).1,e2,(W7.inj e).2);rw[hl,<- e2,e1];rfl
#check _
theorem xak.keys {H:Hp}{ss:av}{rs:az} (h:tI):∃ ts:Ek,ts.map (·.2)=rs/\ts.map (·.1)=E2/\∀ t∈ts,(aE t.2 (.tup (t.1.map kV))):=by
 induction h with
 | nil=>exact(iQ,[],rfl,fun t ht=>(nomatch ht))
 | @cons s q ss qs h _ ih =>
  ext b9 ts h1 h2 h3 ih;refine(ba,(eJ,q)::ts,bF h1,bF h2,au t ht);rcases dI ht with z|z
  .ext c9 z h
  .exact h3 t z
theorem xm7 {H:Hp}{m:Addr}{s2:av}{rs:az}{Q:VK} (hm:zan m) (sts:xak H s2 rs) (nd:s2.Nodup) (len2:s2.length<=32)
    (q:∀(l:Addr) (srt:av) (qs:az),(bj,iP,xak H srt qs,srt.Perm s2,O4,Q bH (dZ l Hn))):xme [.ref m] H Q:=by
  show(b9,ts,e1,e2,e3,sts.keys)
  have lts:ts.length=s2.length:=by
    ext Bs e2;ext lA
  show(lZ,m,ts,zeY,rfl,⟨47,?_,aa,e3,Tq,ao,?_,bC l4 ts4 fr4 pm4 pw4⟩)
  . rw[hm,<- e1,Z0]
    rfl
  . show(zi,s,e,Zg.mp (zkG (dk t ht)))
    rw[<- e];rfl
  . show(aK,e2,xrb (df,a,b,xdm e) nd)
  . have back:∀ t∈ts4,zsE:=fun t ht=>by
      show(zaM,(zkG (dk,t,pm4.mem_iff.mp ht)))
    have ep:((ts4.map (·.1)).map unK).Perm s2:=by
      have z:=(pm4.map (·.1)).map unK;have e4:(ts.map (·.1)).map unK=s2:=by
        rw[e2,Z0,WS];exact Y8 _
      ext cJ e4 z z
    have epw:((ts4.map (·.1)).map unK).Pairwise xdb:=by
      rw[ZU] at pw4;rw[Z0,ZU];refine pw4.imp_of_mem fun {x y} hx hy hxy=>xhz ?_;show lexK (xv (unK aZ)) (xv (unK jf))=true;show(cD,back x hx,back y hy,hxy)
    have st4:xak H ((ts4.map (·.1)).map unK) (ts4.map (·.2)):=by
      show(bw,tm,∀ t∈ts4,(aE t.2 (.tup (t.1.map kV))),t,ht,e3 t (pm4.mem_iff.mp ht));clear pm4 pw4 ep epw
      induction ts4 with
      | nil=>ext eI
      | cons t ts ih =>
        ext Vj zar zbc
    have z:=q l4 _ _ fr4 st4 ep epw;ext cJ Z0 z z
noncomputable def MayA (srt:av) (prs:bn):Prop:=∀ p∈prs,dG∈srt/\xb1 aN dG=true
theorem xp2 {ps:aw}{w h:Int}{ss:av}{prs:bn} (nx:(ps.map (·.x)).Nodup) (g:D1) (m:MayA ss prs):∀ k,MayA ss tw
 | 0=>m
 | cL=>by
  show(af,ih,xp2 nx g m k,gk,zaY);show MayA ss A8;generalize tw=cur at *;unfold nxtP;split
  .rename_i tr ht
   obtain⟨A,p1,B,p2,⟨C,c,e,cn,et⟩⟩:121:=xjk (List.mem_of_head? ht);ext WU cur
   have ex:excB ss p1 p2=true:=by
    unfold canO at cn;split at cn
    .ext cQ
    .cases cn
   unfold excB mayB at ex;obtain⟨x1,x2⟩:=Z9 _ _▸ex;obtain⟨x3,x4⟩:=Z9 _ _▸x1;obtain⟨x5,x6⟩:=Z9 _ _▸x2;subst et;have f1:cur.find? (nmF jt)=some p1:=xhb gk.nn m1;have f2:cur.find? (nmF ju)=some p2:=xhb gk.nn m2;simp only[f1,f2];rw[(xrf gk.nn e).1];intro p hp;have mm:p∈A\/p=Kf\/p∈B\/p=Kg\/p∈C:=Hv
   rcases mm with k|k|k|k|k
   .ext zaj
   .rw [k];show(aO,D3 x3,x4)
   .ext zaj
   .rw [k];show(aO,D3 x5,x6)
   .ext zaj
  .exact ih
theorem xj1 {w:Nat}{h:Int}{ps:aw}{srt:av}{prs:bn} (nd:(ps.map (·.nm)).Nodup) (ok:∀ p∈prs,PrOk ps sw h p) (m:R1):xck jo prs=tR:=by
 unfold xck totI;refine zqe;have mp:=Jm (ok p hp).fd;unfold lenP;rw[xv5 nd mp ((xhv nd mp).mpr (m p hp))];rfl
inductive xyp (t:Adr) (vs:ag) (H:Hp) (Q:VK) (_:XK):Prop
 | mk (a dp do_:Addr) (w h:Nat) (ps:aw) (ss srt:av) (e_:vs=fO) (r_:Dr t H a dp do_ w h ps ss srt/\vJ/\j5/\lT/\∀ H' tp ln qs prs cs so ho,cG->(Ih tp [wM,.int tR])->H' ln=some (.lst (qs.map V.ref))->PrsL H' prs qs->(A5 eA)->xdv jo iC tR->prs.map (·.1.nm)=iC->(bq,GPr ps sw uN prs,R1,cans sw ss prs=[],Q (.ref tp) H'))
theorem xnz {ps:aw}{cs:dh}:∀ nm∈iC,zaJ:=fun nm hn=>by
 show(ae,p,hp,e,Zg.mp (qv hn));ext aJ p hp e
theorem xgv {room:iL}{ns:ai}{so:bp}{ho:aG}{cs:dh} (r:tQ) (nd:ns.Nodup):∀ z∈BD,(gT (so z)):=fun z hz=>by
 have hz2:=Zy.mp hz;rw[r.dom nd,decide_eq_true hz2.1,JK];exact hz2.2
theorem xqc {w h:Nat}{ps:aw}{ss srt:av}{names:ai}{prs:bn}{own:bR}{rent:bL}{so:bp}{ho:aG} (pok:vJ) (sok:S2) (pm:yY) (en:prs.map (·.1.nm)=names) (nnd:names.Nodup) (n12:sZ) (al:zaP OM) (run:LRun jo names own rent so ho):GPr ps sw uN prs/\R1:=by
 have mt:=run.fit.mt;have my:R1:=fun p hp=>by
  obtain⟨a1,a2⟩:=rR;exact (xhv pok.nn a1).mp (mt.rm _ _ a2)
 refine⟨⟨lG,aD en nnd,?_,?_⟩,my⟩
 .obtain ⟨a1,a2⟩:=rR;show(af,o,pok.ok _ a1,b,sok.2.2 dG (pm.mem_iff.mp (my p hp).1));exact⟨o.nm,xdn pok.nn a1,b.1,b.2,cI o.x1 o.x2 o.y1 o.y2⟩
 .rw [<- en] at nnd;rw[Y3,ZU] at nnd ⊢;exact nnd.imp_of_mem (Rg,ne,ne (mt.inj (s:=b.2) (e▸(al a ha).2) (al b hb).2))
 .ext Bs en;ext qH Za;omega
theorem xqj (T:aV):FnOk true P w K mg base aU 10 t.f_answer t.d_answer pW (xyp t):=by
 refine T.F_answer.okn (k:=9) xdl (aY E) (fun cdv A outer s H vs Q E hr h=>?_)
 .obtain ⟨a,dp,do_,w',h',ps,ss,srt,rfl,_⟩:=h;rfl
 .obtain ⟨a,dp,do_,w',h',ps,ss,srt,rfl,h⟩:=h;refine⟨_,xh (xbq (pC (xmr T) hr T.g_least T.F_least.kp T.b_least (fZ 0 (pC (xu8 T) hr T.g_kept T.F_kept.kp T.b_kept qz))) (ID 1 xdl.nd (iX 2 xdl.nd 3)))
   (xh (KP (pC (xmi T) hr T.g_uncrossed T.F_uncrossed.kp T.b_uncrossed BS) (iX 4 xdl.nd 5))
   (KG (fZ 4 (pC (xll T) hr T.g_total T.F_total.kp T.b_total (iN 0 4))))),?_⟩
  refine sq3 ?_; intros; obtain⟨dr,pok,w30,h16,q⟩:45:=h;show(ap,nnd,Lq,pok.nn,⟨a,dp,do_,w',h',ps,ss,srt,rfl,dr,nnd,fun H1 l1 cs so ho s1 f1 e1 run=>?_⟩);have dr1:=dr.same s1;have knd:(iC).Nodup:=LE nnd;have kl:(iC).length<=12:=by
   refine ZJ qy ?_;unfold xad;show(aK,Za,pok.le)
  refine⟨a,l1,dp,do_,w',h',ps,ss,srt,iC,rfl,⟨47,dr1,pok,e1,xnz,knd,kl,⟨zoq,fun H2 tp lp d_o d_r qs prs own rent so' ho' s2 htp hlp pl en al ow rn run2 _ _ _ _=>?_⟩⟩⟩;refine fW tp htp;have dr2:=dr1.same s2;obtain⟨gp,my⟩:=xqc pok dr.ok dr.pm en knd kl al run2;show(ap,mys,MayA ss prs,fG ⟨dr.pm.mem_iff.mp (my p hp).1,(my p hp).2⟩,⟨a,dp,do_,lp,w',h',ps,ss,prs,qs,rfl,⟨47,dr2.pic,dr2.sts,hlp,pl,gp,pok.nx,fun H3 tp3 ln ls n qs3 sq s3 f3 g3 e3 pr3 est stl ne okk cn nls=>?_⟩⟩);refine fW tp3 g3;have dr3:=dr2.same s3;show(yD,⟨a,dp,do_,ln,w',h',ps,_,qs3,rfl,⟨46,dr3.pic,e3,pr3,(okk n).ok,(okk n).le,au H4 s4⟩⟩,qt,hqt);have lo:=Xj;show(gX,k1,k2,k3,xni (ss:=ss) pok.nx gp n);have myk:=xp2 pok.nx gp mys n;show(bw,mykr,MayA srt DP,p,hp,⟨dr.pm.mem_iff.mpr (myk p hp).1,(myk p hp).2⟩)
  have enk:(DP).map (·.1.nm)=iC:=by
   rw[<- en];have z:=congrArg (List.map fun p:Pt=>p.nm) k1;ext rD Z0 Z0
  have gv:gvL RB iC DP=true:=xhi.mpr ⟨enk,k2.nodup_iff.mpr gp.ns,(fG,(xhv pok.nn (Jm ((okk n).ok p hp).fd)).mpr (mykr p hp))⟩;have dual:=run2.fit.dual lo gv;show(BA,lf,tight,run2.fit.leastF lo knd en (fG,(rR).2));rw[xj1 pok.nn (okk n).ok mykr] at dual;rw[xj1 pok.nn gp.ok my] at lf tight;have et:totI w' DP=totI w' prs:=aa
  have sf:Same H3 (jw H4 qt wM (totI w' DP)):=s4.trans (c7 hqt);refine q _ qt ln qs3 DP cs so ho (((oh).trans s3).trans sf) xl (sf _ _ e3) (pr3.keep (Same.tups sf)) run ?_ enk (okk n) mykr cn;ext aK et lf
theorem xjb {N S:Type} [DecidableEq N] [DecidableEq S] {room:og}{T:uE}{s:S}:Kp.tog room T s=true↔∃ n∈T,Se:=by
 unfold Kp.tog;rw[Jp];show(aO,fun⟨n,h,e⟩=>⟨n,h,zbe⟩,fun⟨n,h,e⟩=>⟨n,h,decide_eq_true e⟩)
theorem xqv {room:iL}{so0 so:bp}{ho0 ho:aG} (m0:Kp.Mt room so0 ho0) (m:sY) {nm:Str}{hs:ai} (c:Kp.Crowd room so0 nm hs) (has:zpR):IL nm hs:=by
 have ndh:=FY c.nd;show(cR,c.nd,has,cu x hx s hs');show(ae,h0,hh0,e0,c.all x hx s hs');refine Yy (c8 no);have sub:(Ui,ztT,hs.filterMap so0):=fun z hz=>by
  rcases dI hz with rfl|hz
  .exact Jl.mpr ⟨h0,hh0,e0⟩
  .show(dL,h,hh,e,Jl.mp hz);show(ae,h',hh',e',c.all h (Zi _ hh) z (m.rm h z e));exact Jl.mpr ⟨h',hh',e'⟩
 have nd:(ztT).Nodup:=Z8.mpr ⟨fun z=>by
  show(ae,h,hh,e,Jl.mp z);exact no ⟨h,hh,e⟩,Kp.filterMap_nd ndh Nf⟩
 have le:=Y3.length_le_of_subset nd sub;rw[ZG,zfL has,zfL c.has] at le;omega
theorem xph {room:iL}{so:bp}{ho:aG} (m:sY) {cs:dh} (h:∀ c∈cs,(IL gQ eK)) {U:ai} (nd:U.Nodup) (hU:∀ z,CV↔∃ c∈cs,z∈eK) {ss:av} (nds:ss.Nodup) (hr:N4):ss.countP (Kp.tog room (U++cs.map (·.1)))=U.length:=by
 have has:∀ z∈U,qY:=fun z hz=>by
  show(ae,c,hc,hz,(hU z).mp hz);exact (h c hc).has z hz
 have all:∀ z∈U++cs.map (·.1),∀ s∈room z,∃ u∈U,(Ti u):=fun z hz s hs=>by
  obtain⟨c,hc,hz⟩:∃ c∈cs,z∈FR:=by
   rcases UK with hz|hz
   .show(dL,c,hc,hz,(hU z).mp hz);show(aJ,c,hc,Zi _ hz)
   .show(dL,c,hc,rfl,Zg.mp hz);ext aJ c hc gE
  show(ae,u,hu,e,(h c hc).all z hz s hs);show(aJ,u,(hU u).mpr ⟨c,hc,hu⟩,e)
 rw[YJ,<- zfL has];refine Nat.le_antisymm ?_ ?_
 .show(Oq,LE nds,au s hs');show(ae,n,hn,e,xjb.mp (Zy.mp hs').2);show(ae,u,hu,e',all n hn s e);exact Jl.mpr ⟨u,hu,e'⟩
 .show(zps,Kp.filterMap_nd nd Nf);have r:=m.rm n s e;exact Zy.mpr ⟨hr n s r,xjb.mpr ⟨n,ZF _ hn,r⟩⟩
noncomputable def xdh (ps:aw) (n:Str) (s:Seat):Bool:=((zow).map fun p=>LO).getD false
theorem xpw {ps:aw}{srt:av}{s:Seat} (hs:s∈srt) (T:ai):(T.any fun n=>KE)=Kp.tog v0 T s:=by
 rw[Jr,xjb,Jp];refine exists_congr fun n=>and_congr_right fun _=>?_;unfold xdh xa3;cases e:zow with
 | none=>ext aO dJ dJ
 | some p=>show(aO,(aA,Zy.mpr ⟨hs,z⟩),(aA,(Zy.mp z).2))
theorem xls {ps:aw}{ss srt:av} (pm:yY) (T:ai):(ss.countP fun s=>T.any fun n=>KE)=ss.countP (Kp.tog v0 T) :=
 List.countP_congr (mU (dF,xpw (pm.mem_iff.mpr hs)))
theorem xn3 {ps:aw}{ss srt:av} (pm:yY) (n:Str) (s:Seat) (h:s∈xa3 ps srt n):sv:=by
 unfold xa3 at h;split at h
 .exact pm.mem_iff.mp (Zy.mp h).1
 .cases h
theorem xsj {zs:ai} (nd:zs.Nodup) {k:Nat}{z:Str} (e:dX zs k z):xeq (zs.map DV.str) oP k:=by
 show(dE,⟨oP,xR e,xcd _⟩,cu i d lt hd);show(zhg,xi9 (d:=.str z') (e:=oP) rfl rfl (K9,DV.str z'=DV.str z↔z'=z),Ju.mp nd i k h1 h3 lt)
theorem xeu (nms:ai) (nm:Str):((nms.map DV.str).any (aA,dEq z (.str nm)))=(bG (nm∈nms)):=by
 ext M9
 .ext zkf
 .ext zoZ
theorem xps {nms:ai}{f:Str->Bool}{ys:ag} (ly:EL ((zer).filter fun i=>((nms[i]?).map f).getD false)) (fy:GD ((zer).filter fun i=>((nms[i]?).map f).getD false) (HD nms)):ys=(nms.filter f).map V.str:=by
 have fi:=xhn f (as:=nms) (p:=fun i=>((nms[i]?).map f).getD false) zbN;show(zck,cA ly fi.1);have hj:i<((zer).filter fun i=>((nms[i]?).map f).getD false).length:=by
  ext zgI
 show(lU,z,hz,fy i y _ hy xI);rw[fi.2 i _ xI,hb] at hz;ext jM hz
theorem xkg {zs:ai} (nd:zs.Nodup) {z:Str} (h:z∈zs):xeq (zs.map DV.str) oP (zs.idxOf z):=by
 have lt:=YQ h;exact xsj nd (cA iw WG)
theorem xqu:∀{a b:ij},(cS,J8 a b)->(cS,J8 b a)->a=b
 | [],[],_,_=>rfl
 | [],b5,h,_=>nomatch h
 | b5,[],_,h=>nomatch h
 | a::r,b::t,h1,h2=>by
  unfold J8 at h1 h2;rw[Bool.or_eq_false_iff] at h1 h2;ext zhw;ext ut a b aa;rw[beq_self_eq_true,JK] at h3 h4;rw[xqu h3 h4]
theorem xte:∀{a b c:ij},(cS,J8 b a)->(cS,J8 c b)->(cS,J8 c a)
 | [],_,[],_,_=>rfl
 | [],_,b5,_,_=>rfl
 | b5,[],_,h,_=>nomatch h
 | b5,b5,[],_,h=>nomatch h
 | a::r,b::t,c::u,h1,h2=>by
  unfold J8 at h1 h2 ⊢;rw[Bool.or_eq_false_iff] at h1 h2 ⊢;ext zhw;show(dE,decide_eq_false aa,?_);by_cases e:c=a
  .ext dw;ext ja e2 b c aa;rw[beq_self_eq_true,JK] at h3 h4 ⊢;exact xte h3 h4
  .rw [beq_eq_false_iff_ne.mpr e,Yi]
theorem xkv:∀{p:Str}{l:ai},risingS p l=true->(∀ x∈l,(cS,J8 x.cps.toList p.cps.toList))/\ziS
 | _,[],_=>⟨jP,.nil⟩
 | p,x::r,h=>by
  unfold risingS at h;rw[Z9] at h;ext Re;obtain⟨i1,i2⟩:=xkv h2;have h1:J8 x.cps.toList p.cps.toList=false:=nU
  show(dE,E6,Qh.mpr ⟨i1,i2⟩);rcases dI hs with rfl|hs
  .exact h1
  .exact xte h1 (i1 s hs)
theorem xi1 {l:ai} (h:SS l):ziS:=by
 cases l with
 | nil=>ext eI
 | cons x r=>exact Qh.mpr (xkv h)
theorem xnc {a b:ai} (p:a.Perm b) (nd:a.Nodup) (ha:SS a) (hb:SS b):a=b:=by
 refine xcq (R:=fun x y:Str=>J8 y.cps.toList x.cps.toList=false/\x≠y) (fun x y h1 h2=>h1.2 ?_) p ((xi1 ha).and nd) ((xi1 hb).and (p.nodup_iff.mp nd));have e:=xqu h2.1 h1.1;obtain⟨⟨cx⟩⟩:=x;obtain⟨⟨cy⟩⟩:=y;exact congrArg (aA,Str.mk (Array.mk z)) e
theorem Lp.keys {H:Hp}{ps:aw}{kvs:aI} (h:jR):kvs.map (·.1)=(eA).map ZW:=by
 induction h with
 | nil=>rfl
 | cons _ _ ih =>
  rw[Zo,ih];rfl
theorem xqe (bs:BK):inV (.bl true) (bs.map V.bl)=bs.any id:=by
 induction bs with
 | nil=>rfl
 | cons b r ih =>
  rw[Zo];unfold inV at ih ⊢;rw[JS,JS,ih];cases b<;>rfl
theorem xkf (bs:BK):(bs.map V.bl).all xeb=true:=by
 ext zmQ
inductive xp0 (K:Zf) (vs:ag) (H:Hp) (Q:VK) (_:XK):Prop
 | mk (d ls ln:Addr) (ps:aw) (ss:av) (rs:az) (names:ai) (e_:vs=(wB b7 ls ln)) (r_:bD BC B5 tI (ax,A4,GE,names.length<=24,(∀ n∈names,∃ p,Dq n p),∀(H':Hp) (l:Addr) (ys:ag),(bq,cG,zff l ys,(r6,ss.countP (fun s=>Hd)),Q bH H')))
inductive xun (vs:ag) (H:Hp) (Q:VK) (_:XK):Prop
 | mk (d ls ln lo:Addr) (kvs:aI) (ps:aw) (ss srt:av) (rs os:az) (cs:dh) (so:bp) (ho:aG) (e_:vs=[b7,Ce,wM,.ref lo]) (r_:oK/\(ax jR Lq zeq B5 (ax tI ss.Nodup A4 (aE ln (.lst ((iC).map V.str))) (AK,aE lo (.lst (os.map V.ref)),OutL H cs os,A5 eA,yY,true))))
theorem ok_af (T:aV):FnOk true P w K mg base aU 2 t.f_af t.d_af DE (xp0 K):=by
 refine T.F_af.okn (k:=1) sc_af (aY E) (fun cdv A outer s H vs Q E hr h=>?_)
 .obtain ⟨d,ls,ln,ps,ss,rs,names,rfl,_⟩:=h;rfl
 .obtain ⟨d,ls,ln,ps,ss,rs,names,rfl,h⟩:=h;show(sD,(xsd rfl (xuc (x:="_law_seat") (ys:=DE) (fr:=[0,1,2]) (N0:=DE) (sc0:=xp s_af) aP rfl rfl) wV (OX,xg9 (i:=0) nd rfl (QI ow) (QC aj)) eP (PP (xab (r:=rIn K false) xfj (xbs) (xav rfl (xrx (zs:=zes) (ys:=zrW "_law_seat") (fr:=[1,2,0]) (sc0:=xp s_af) aP rfl) (kT 3:L2.PI _ _ _ (xto K _)) fj eP eW (fun _ _ _ _ _=>pC L7 hr T.g_ay T.F_ay.kp T.b_ay (eT 1 (sE 2 0 (iK zoF zoF))))) fH)) DF));obtain⟨pd,hls,stl,s32,hln,n24,⟨nin,q⟩⟩:47:=h;show(dO,BIG,Nx,Sk,rl,stl.len);show(nX,ls,hls,l1,hl1,xdu (bb hls) nR hl1 (fun i=>((ss[i]?).map fun s=>Hd).getD false) (fun _ _ _=>True) pB (fun i x H2 hx s2 N M hN hM=>?_) (fun ys H2 s2 e2 ly _=>?_))
  .ext rF;show(ae,s,hs,hsq,stl.get hqa);have ms:=Zn hs;show(nX,ln,h8 hln,l2,hl2,xbp (bb (h8 hln)) nR hl2 (fun j y _=>∃ n,(bQ names n)/\y=.bl KE) pB (fun j x H3 hx s3 N hN=>?_) (fun ys H3 s3 e3 ly fy=>?_))
   .ext Hr n hn;obtain⟨pt,hf⟩:=nin n (Zn hn);have en:pt.nm=n:=(yR,Wq hf)
    show(af,s03,s2.trans s3,q3,s03 _ _ hsq);refine B1 qa q3 ⟨qa,_,1,_,rfl,rfl,dR q3,rfl,d,ls,ps,ss,rs,pt,s.1,s.2,?_,pd.same s03,?_,s03 _ _ hls,pE s03,fun H4 s4=>hN _ _ s4 (fJ n hn)⟩
    .rw [en];rfl
    .ext c9 en hf
    .unfold xdh mayB;rw[hf,show vV ((s.1,s.2)∈ss) from yS ms,JK];rfl
   have ey:ys=(zth).map V.bl:=by
    refine xec (by rw[ly,Za,Za]) (bC j y b hy hb);show(lU,n,hn,fy j y hy);ext HU hn
   subst ey;have ea:(zth).any id=Hd:=by
    rw[List.any_map];rfl
   refine(KL,l2,lC e3,xkf _,yy)
   .rw [mQ,xqe,ea] at c;exact (hN _ _ s3 (aD hs c) trivial)
   .rw [mQ,xqe,ea] at c;exact hM _ s3 (zev hs c)
  have fi:=xhn (fun s:Seat=>Hd) (as:=ss) (p:=fun i=>((ss[i]?).map fun s=>Hd).getD false) zbN;rw[Za,rl,fi.1,<- YJ] at ly;exact q H2 l1 ys s2 e2 ly
theorem ok_av (T:aV):FnOk true P w K mg base aU 3 t.f_av t.d_av Vi (xun):=by
 refine T.F_av.okn (k:=2) sc_av (aY E) (fun cdv A outer s H vs Q E hr h=>?_)
 .obtain ⟨d,ls,ln,lo,kvs,ps,ss,srt,rs,os,cs,so,ho,rfl,_⟩:=h;rfl
 .obtain ⟨d,ls,ln,lo,kvs,ps,ss,srt,rs,os,cs,so,ho,rfl,h⟩:=h;refine⟨_,xh (pS 4 sc_av.nd (N5 (xim rfl) qz))
   (xh (AG 5 sc_av.nd (xb0 (xi)))
   (xh (xbf ZB rfl (kT 3) (xbc rfl (iX 6 sc_av.nd 7)) (xh (AW (Iq 7 "list" T.n_list boot_list) (iz xff (xpy rfl rfl T.n_len rfl T.n_set (gG 7)) (oR (gG 7))))
   (xh (pT (kT 7) 8 sc_av.nd (zdc (CL (xab Sa (pv 8) iR fH) (iz xlc (xdw Jj PySem.F.slot_list_index PySem.F.type_list_index (xkr (xbw hr)) jd (gG 8)) (xdw Jj PySem.F.slot_list_index PySem.F.type_list_index (xkr (xbw hr)) jd (gG 6)))) BW))
   (xh (En (iz xff (oR (xg (pC (ok_af T) hr T.g_af T.F_af.kp T.b_af (eT 0 (fZ 1 (xu xfw sO (xb0 (gG 6)))))) (xi))) (oR (gG 7))))
   (xm (AG 5 sc_av.nd (xu xfw kZ (xav rfl (xau (zs:=["_law_holder"]) (ys:=["_law_union"]) (fr:=[5]) (N0:=["_law_points", "_law_seats", "_law_names", "_law_outs", "_law_order", "_law_union", "_law_name", "_law_holders", "_law_holder"]) (sc0:=xp s_av) aP rfl rfl rfl) (kT 7) fj eP (zbn zfY Sa) DF))))))))
   (d8 (xc0 xc2 (oR (xg (pC (ok_af T) hr T.g_af T.F_af.kp T.b_af (eT 0 (fZ 1 (xu xfw kZ (xav rfl (xau (zs:=["_law_row"]) (ys:=[]) (fr:=[]) (N0:=["_law_points", "_law_seats", "_law_names", "_law_outs", "_law_order", "_law_union", "_law_name", "_law_holders", "_law_holder"]) (sc0:=xp s_av) aP rfl rfl rfl) (kT 3) fj eP eW Gs))))) (xi))) (oR CC) C0)))),?_⟩
  refine sq4 ?_; intros; obtain⟨hd,lp,nnd,p12,hls,stl,⟨snd,s32,hln,hlo,ol,run,pm,q⟩⟩:47:=h;ext T5;ext MW nn
  have oll:=ol.len;have fnd:∀ z∈eA,∃ p,Dq z p:=fun z hz=>by
   ext eG p hp hz;show(aO,p,xdn nnd hp)
  show(bw,kin,Ui iC eA,z,hz,qv hz);ext zse;have cl:cs.length<=12:=by
   ext bZ Tc
  have crw:∀ c∈cs,Kp.Crowd v0 so gQ eK/\(eK).length<=12:=fun c hc=>by
   obtain⟨so0,ho0,a1,a2,a3⟩:83:=run.crowd nnd c hc;show(dE,xqv a1 run.mt a2 fun h hh=>xgv run nnd h (run.ahead nnd c hc h hh).1,?_);show(bZ,(FY a2.nd).length_le_of_subset (l₂:=eA) (uz,a3 z (Zi _ hz)))
  refine⟨d,kvs,eA,rfl,hd,lp.keys,IW⟩;show(zal,l1,.lst ((eA).map V.str),hl1);ext iO Xx lu hlu;generalize eu:cF H1 lu []=H2;ext xW; ext zmp hlu;show(Aa,lo,s02 _ _ hlo)
  show(Xi,∃(lu:Addr) (U:ai) (v6 v7 v8:bS),(ax,Z=[eQ,fb,kP,rV,Mb,L9,v6,v7,v8],Same H1 H5,H5 lu=some (.lst (U.map V.str)),U.Nodup,(∀ z,CV↔∃ c∈cs.take i,z∈eK)))
  show(sP,zfl,(oE [] _ _ ⟨65,_,rfl,s2,g2,JV,aA aj⟩),?_)
  .show(znh,H5,s5,s5 _ _ (s1 _ _ hlo))
  .rintro i x Z H5 hx (⟨lu,U,v6,v7,⟨v8,rfl,s5,hU,und,um⟩⟩:121);ext sT qa hqa;obtain⟨c,lh,hc,hcq,hcl⟩:83:=ol.get hqa;have s05:=s1.trans s5;show(af,hcl5,s05 _ _ hcl,hln5,s05 _ _ hln);show(af,g15,dP g1,cm,Zn hc);obtain⟨cw,h12⟩:=crw c cm;show(af,nh,FY cw.nd,ah,run.ahead nnd c cm);have c1:gQ∈eA:=run.outs.1 _ (BX c cm);have ul:U.length<=12:=by
    have:=und.length_le_of_subset (l₂:=xad ps) fun z hz=>by
     show(ae,c',hc',hz',(um z).mp hz);exact kin z (zbl (Q9 hc') z)
    omega
   refine fW qa (s05 _ _ hcq);refine sq4 ?_; intros; show(gH,(rN,H5=H'/\σ'=[eQ,fb,kP,rV,Mb,L9,ii gQ,bu lh,v8]),mB ⟨104,_,_,true,.lst hcl5,rfl,xb6,Km ⟨84,lh,eK,rfl,bb hcl5,aa,⟨84,lh,_,rfl,lC hcl5,rfl,(bT,ifN (by rw[xpn nh,Za]; simp) kL)⟩⟩⟩);ext OE;ext GP; ext Aa lh hcl5
   let Pv (j:Nat) (Z:L2.St) (H6:Hp):Prop:=H5=H6/\∃ v8:bS,Z=[eQ,fb,kP,rV,Mb,L9,ii gQ,bu lh,v8]
   show(sP,(eK).map V.str,dk rfl _,?_)
   .rintro j Z _ _ ⟨rfl,_,rfl⟩;ext xB hcl5
   .rintro j x Z _ hx ⟨rfl,v8,rfl⟩;ext sT z hz;obtain⟨z1,z2⟩:=ah z (Zn hz)
    show(qM,H5=H'/\σ'=[eQ,fb,kP,rV,Mb,L9,ii gQ,bu lh,ii z],?_)
    .show(Ah,(Dw,0,oP,.str,hln5,tZ (by rw[bW,xeu,yS z1]; decide)));show(bN,⟨qX g15,l1,_,oP,0,1,oP,_,_,rfl,rfl,g15,.str,xcy g15,ao,ao,xkg nnd (kin z z1),?_⟩,⟨qX g15,l1,_,wN,0,1,wN,_,_,rfl,rfl,g15,.str,xcy g15,ao,ao,xkg nnd c1,?_⟩);exact(bT,OY aa kL)
    ext OE;show(xS,rfl,_)
   rintro Z _ ⟨rfl,v8,rfl⟩
   show(Fu,H5,[eQ,fb,kP,rV,Mb,L9,ii gQ,bu lh,v8])
   .ext qT; ext EV l4 hl4;generalize eu:cF H5 l4 [wN]=H6;show(xC,s6,hl4,g6,oS lh l4 _ _ (BP,fQ hcl5,g6,?_,l5,hl5))
    .show(c9,Za,J6 (BIG iD))
    have ea:(eK).map V.str++[V.str gQ]=(eK++[gQ]).map V.str:=d7 Zq
    rw[ea];show(zbB,upd H6 l5 (.lst ((eK++[gQ]).map V.str)),hl5);ext zsI;refine⟨d,ls,l5,ps,ss,rs,eK++[gQ],rfl,⟨47,zlx,zgl,pE s07,s32,g7,by rw[Zr]; simp; omega,⟨(F7,fnd n ?_),fun H8 l8 ys s8 e8 ly=>(eD,l8,_,lC e8,⟨84,lh,_,rfl,lC (s8 _ _ (s57 _ _ hcl5)),rfl,(zh,?_,s57.trans s8)⟩)⟩⟩⟩
    .rcases Fj with y|y
     .exact kin n (ah n y).1
     .show(c9,Zp.mp y,c1)
    .rw [ly,xls pm,Za,List.countP_congr fun s _=>(dF,Kp.tog_perm (List.perm_append_singleton gQ eK) s),cw.count run.mt snd (xn3 pm)];simp
   ext tE H6 s6;have s06:=s05.trans s6;show(af,hU6,fQ hU,hcl6,fQ hcl5);show(nX,lh,hcl6,l9,hl9,xdu (bb hcl6) nR hl9 (fun i=>((eK[i]?).map fun z=>!(bG CV)).getD false) (Mx,HD eK) pB (fun i x H7 hx s7 N M hN hM=>?_) (fun ys H7 s7 e7 ly fy=>?_))
   .ext Hr z hz;refine(Dw,0,oP,.str,s7 _ _ hU6,vy y)
    .ext Tg;ext Xh
    .ext Tg;ext So hz
   show(nB,xps (nms:=eK) (f:=(aA,!(bG CV))) (Cs Za ly ly) (Cs Za fy fy));have fl:=ZY (aA,!(bG CV)) eK;refine oS lu l9 _ _ (BP,s7 _ _ hU6,e7,(qr,Za,Za,J6 (BIG aa)),l10,hl10);rw[<- Zq];refine(gu,l10,U++(eK).filter fun z=>!(bG CV),_,_,⟨65,_,rfl,((Bi).trans s7).trans (c7 hl10),xl,?_,lM⟩)
   .rw [ZL];show(cR,und,nh.filter _,bC a ha b hb e);have:=(Zy.mp hb).2;rw[<- e] at this;simp[ha] at this
   .rw [ZT,hc,Zw,Zy];constructor
    .rintro (k|k)
     .show(dL,c',h1,h2,(um z).mp k);show(aJ,c',ZF _ h1,h2)
     .exact ⟨c,FL,k.1⟩
    .ext rh c' h1 h2;by_cases zu:CV
     .ext cY zu
     .rcases Zw.mp h1 with k|k
      .exact absurd ((um z).mpr ⟨c',k,h2⟩) zu
      .rw [(cU,c',c,Zp.mp k)] at h2;show(oI,h2,bF zu)
  rintro Z H5 (⟨lu,U,v6,v7,⟨v8,rfl,s5,hU,und,um⟩⟩:121);rw[Za,oll,Jh] at um;have s05:=s1.trans s5;have ul:U.length<=12:=by
   have:=und.length_le_of_subset (l₂:=xad ps) fun z hz=>by
    show(ae,c',hc',hz',(um z).mp hz);exact kin z (zbl hc' z)
   omega
  have hlo5:=s05 _ _ hlo;show(nX,lo,hlo5,l6,hl6,xbp (bb hlo5) nR hl6 zoL pB (fun i x H6 hx s6 N hN=>?_) (fun ys H6 s6 e6 ly fy=>?_))
  .ext rF;show(MD,c,lc,hc,hcq,ol.get hqa);exact(yr,qa,wN,s6 _ _ (s05 _ _ hcq),hN _ _ kq (dk c hc))
  have ey:ys=(cs.map (·.1)).map V.str:=by
   ext WM oll
  subst ey;refine oS lu l6 _ _ (BP,fQ hU,e6,by rw[Za,Za,Za]; exact J6 (BIG aa),l7,hl7);rw[<- Zq];generalize eu:upd H6 l7 (.lst ((U++cs.map (·.1)).map V.str))=H7;ext jh s7 hl7 g7;ext zsI;refine⟨d,ls,l7,ps,ss,rs,U++cs.map (·.1),rfl,⟨47,zlx,zgl,pE s07,s32,g7,by rw[Zr,Za]; omega,⟨(F7,fnd n ?_),fun H8 l8 ys s8 e8 ly=>(eD,l8,_,lC e8,⟨84,lu,_,rfl,lC (s8 _ _ (s57 _ _ hU)),rfl,?_⟩)⟩⟩⟩
  .rcases Fj with y|y
   .show(dL,c',hc',hz',(um n).mp y);exact kin n (zbl hc' n)
   .exact run.outs.1 n y
  .have e:vV (V.int (cE ys.length)=V.int (cE,(U.map V.str).length)):=decide_eq_true (by rw[ly,xls pm,xph run.mt (fun c hc=>(crw c hc).1) und um snd (xn3 pm),Za]);show(aK,e,q H8 (s07.trans s8))
theorem xdv.one {lens:cN}{names:ai}{T T':Int} (a:SR T) (b:SR T'):T=T':=by
 show(CH,a.le_of b zrv,b.le_of a zrv)
 omega
theorem xu5 {lens:cN}{names:ai}{ss:av}{so:bp}{ho:aG}{own:bR}{rent:bL} (f:Fit lens names so ho own rent) (lo:vP) (s:Seat):-1200<=Ge/\Ge<=0:=by
 have rl:=f.rl s;cases e:ho s with
 | none =>
  show(bZ,f.r0 s e)
 | some n =>
  show(af,sn,(f.mt.iff n s).mpr e,dm,f.dm n);rw[sn] at dm;have ob:=f.ob n (of_decide_eq_true dm.symm);obtain⟨⟨s',l⟩,hx,rfl⟩:62:=Zg.mp (f.mt.rm n s sn);have:=f.eq n s' sn l hx;have:=(lo.b n _ hx).1
  dsimp only at *
  omega
theorem xno {w x y:Int}{b:Bool}{r:Int} (x1:1<=x) (x2:x<=w):(cE,(Geo.cells w x y b r).length)=lenI w x y b r+1:=by
 unfold Geo.cells Geo.upL Geo.upN Geo.lvL Geo.lvN lenI;rw[Zr,Za,ZX,Za,ZX];ext zam
theorem xwg (n:Nat):(cS,inV (.bl false) ((Ql n true).map V.bl)):=by
 induction n with
 | zero=>rfl
 | succ n ih =>
  rw[List.replicate_succ,Zo];unfold inV at ih ⊢;rw[JS,ih];rfl
inductive xsg (t:Adr) (vs:ag) (H:Hp) (Q:VK) (_:XK):Prop
 | mk (a d ls ln dp do_:Addr) (w h:Nat) (ps:aw) (ss srt:av) (rs:az) (names:ai) (am:Int) (e_:vs=[aB,b7,Ce,wM,.int am]) (r_:(ax,Dr t H a dp do_ w h ps ss srt,vJ,j5,lT,BC/\(ax B5 tI GE OS (AK,names.Nodup,sZ,zjH,xdv jo names am,true))))
theorem ok_aq (T:aV):FnOk true P w K mg base aU 10 t.f_aq t.d_aq U2 (xsg t):=by
 refine T.F_aq.okn (k:=9) sc_aq (aY E) (fun cdv A outer s H vs Q E hr h=>?_)
 .obtain ⟨a,d,ls,ln,dp,do_,w',h',ps,ss,srt,rs,names,am,rfl,_⟩:=h;rfl
 .obtain ⟨a,d,ls,ln,dp,do_,w',h',ps,ss,srt,rs,names,am,rfl,h⟩:=h;refine⟨_,xh (pS 5 sc_aq.nd (pC (xmr T) hr T.g_least T.F_least.kp T.b_least (fZ 0 (N5 xgk F2))))
   (xh (AW (Iq 5 "tuple" T.n_tuple boot_tuple) (iz xff (oR CC) (xo)))
   (xh (pS 6 sc_aq.nd si)
   (xh (pS 7 sc_aq.nd si)
   (xh (AW (iz R9 (zjI (gG 6)) (zjI F2)) (iz R9 (zjJ (gG 7)) (xac (xl8 rfl) rfl T.n_sorted PyProof.Rows.Boot.«sorted» (gG 2))))
   (xh (pS 8 sc_aq.nd (xu xfw (xna rfl rfl T.n_list me) zrB))
   (xh (AW (xab xfj (xbs) (xav rfl (xau (zs:=["_law_price"]) (ys:=[]) (fr:=[]) (N0:=["_law_picture", "_law_points", "_law_seats", "_law_names", "_law_amount", "_law_found", "_law_own", "_law_rent", "_law_prices", "_law_name", "_law_side", "_law_row", "_law_long"]) (sc0:=xp s_aq) aP rfl rfl rfl) (kT 8) fj eP eW (fun _ _ _ _ _=>pC (ok_a1 T) hr T.g_a1 T.F_a1.kp T.b_a1 qz)) fH) (iz xlc (xac (xrm rfl) rfl T.n_max boot_max (xg (xu xfw zrB (xb0 (xg (xo) (xi)))) (xi))) (xo)))
   (xh (xbf ZB rfl (kT 3) (pN 9 sc_aq.nd) (xm (xbf ZB rfl (kT 2) (xbc rfl (iX 10 sc_aq.nd 11)) (xm (xbe (xai (xa2 (pC L7 hr T.g_ay T.F_ay.kp T.b_ay (sE 1 2 (gq 9 10 11)))) (xh (pS 12 sc_aq.nd (xu xdd (oR (xg (pC (ok_ao T) hr T.g_ao T.F_ao.kp T.b_ao (xg bB (xg (rg 1 (pv 9)) (iN 10 11)))) (xi))) (xo)))
   (xD (xai (iz xlc (xu xa0 (rg 6 (pv 9)) (rg 7 (xaq (iN 10 11)))) (pv 12)) BW (x9)))) (x9)))))))
   (d8 (xc0 xc2 (pv 4) (Vr (gG 8)) C0))))))))),?_⟩
  refine sq9 ?_; intros; obtain⟨dr,pok,w30,h16,pd,hls,⟨stl,hln,nin,nnd,n12,mt2,lfT,q⟩⟩:47:=h;ext T5;show(ap,s32,srt.length<=32,Nk,(zK,ln,lC hln,l0,hl0));generalize eu:dZ l0 (.lst (names.map V.str))=H1;show(xC,s1,hl0,g1,⟨a,l0,dp,do_,w',h',ps,ss,srt,names,rfl,⟨47,dr.same s1,pok,g1,nin,nnd,n12,⟨mt2,fun H2 tp lp d_o d_r qs prs own rent so ho s2 htp hlp pl en al ow rn run _ _ _ _=>?_⟩⟩⟩);have s02:=s1.trans s2;ext af how ow hrn rn;unfold OwD at how;unfold RnD at hrn;show(af,fit,run.fit,lo,Xj);show(BA,lf,tight,fit.leastF lo nnd en (fG,(rR).2))
  show(qM,H2=H'/\σ'=[cV,eQ,fb,kP,Cb,mN,none,none,none,none,none,none,none],mB ⟨104,_,_,true,.tup htp,rfl,xb6,Km ⟨84,tp,_,rfl,.inr (SqT.of htp),rfl,(bT,ifN aj kL)⟩⟩);ext OE;show(bN,(y8,tp,1,dR htp,?_),(y8,tp,2,dR htp,?_))
  show(qM,zf/\σ'=[cV,eQ,fb,kP,Cb,mN,Fm,Fn,none,none,none,none,none],?_)
  .show(Ah,(xP,d_o,names,.inr (cq,how,d7 Z0),aa,bC l1 n1 hl1 pm1 so1));generalize eu:upd H2 l1 (.lst (n1.map V.str))=H3;show(xC,s3,hl1,g3,(xP,ln,names,.inl (s3 _ _ (s02 _ _ hln)),aa,bC l2 n2 hl2 pm2 so2));show(zbq,upd H3 l2 (.lst (n2.map V.str)),hl2);show(ja,e12,n1,n2,xnc (pm1.trans pm2.symm) (pm1.nodup_iff.mpr nnd) so1 so2);refine(Dw,1,_,xcy (iT g3),g4,tZ UE);have s24:=s3.trans s4;have ek:(zml).map (·.1)=srt.map xv:=by
    rw[Z0];rfl
   show(lZ,d_r,_,zeY,rfl,(bO,s24 _ _ hrn,B8,lG,ao,fun l3 ts hl3 tm pm pw'=>?_))
   .show(zdX,Zg.mp hp);rfl
   rw[ek] at pm;have back:∀ t∈ts,xv (unK t.1)=t.1:=fun t ht=>by
    show(zaM,Ou (dk t ht))
   have sl3:xak H4 ((ts.map (·.1)).map unK) (ts.map (·.2)):=by
    clear pm pw'
    induction ts with
    | nil=>ext eI
    | cons t ts ih =>
     ext Vj zbc zar
   have es:(ts.map (·.1)).map unK=srt:=by
    refine xcq xeg ?_ ?_ dr.lt
    .have z2:=pm.map unK;have e2:(srt.map xv).map unK=srt:=by
      rw[Z0,WS];exact Y8 _
     ext cJ e2 z2 z2
    .ext zgX
   rw[es] at sl3;rw[show zpp=(ts.map (·.2)).map V.ref by rw[Z0]; rfl];generalize eu:upd H4 l3 (.lst ((ts.map (·.2)).map V.ref))=H5;ext jh s5 hl3 g5;show(af,s25,s24.trans s5,s05,s02.trans s25);unfold tNil;refine xm7 (s05 _ _ hls) (pE s05) dr.ok.1 (bg dr.ok) (fun l6 ss6 us6 hl6 sl6 pm6 lt6=>?_);show(cX,ss6=srt,xcq xeg (pm6.trans dr.pm.symm) lt6 dr.lt);show(G8,upd H5 l6 (.lst (us6.map V.ref)),hl6);exact⟨2,2,_,_,(sl3.keep (Same.tups (s5.trans s6))).dv (fQ g5),(cI,(zrR).dv g6,ao,ao,(zh,UE,s25.trans s6))⟩
  ext tE H3 s3;refine(zK,d_o,jK how,l4,hl4);rw[show (names.map fun n=>(zft,zeu)).map (·.2)=(vF).map V.int by rw[Z0,Z0]; rfl];show(zbq,upd H3 l4 (.lst ((vF).map V.int)),hl4);have er:(zml).map (·.2)=(vL).map V.int:=kN Z0 Z0
  refine(zK,d_r,(s3.trans s4) _ _ hrn,l5,hl5);rw[er];generalize eu:upd H4 l5 (.lst ((vL).map V.int))=H5;show(xC,s5,hl5,g5,oS l4 l5 _ _ (BP,dP g4,g5,by simp only[Za]; exact xxw aa,l6,hl6));rw[<- Zq];generalize eu:upd H5 l6 (.lst ((vF++vL).map V.int))=H6;show(qP,s6,hl6,g6,s26,(Et).trans (s5.trans s6))
  show(Fu,H6,[cV,eQ,fb,kP,Cb,mN,Fm,Fn,Ma,none,none,none,none])
  .ext qT; show(nX,l6,g6,l7,hl7,xbp (bb g6) (by simp only[Za,Zr]; exact BIG aa) hl7 (fun _ y _=>y=.bl true) pB (fun i x H7 hx s7 N hN=>?_) (fun ys H7 s7 e7 ly fy=>?_))
   .rw [Zd,Zh] at hx;show(zi,n,rfl,hx);show(qJ,n,hN _ _ kq rfl)
   have ey:ys=(Ql ys.length true).map V.bl:=by
    refine xec aj (bC j y b hy hb);rw[fy j y hy];rw[Ym] at hb;split at hb
    .ext jM hb
    .cases hb
   rw[ey] at e7;refine(KL,l7,lC e7,xkf _,tZ (cA mQ xwg));have s27:=s26.trans s7;refine(zK,d_r,s27 _ _ hrn,l8,hl8);rw[er];generalize eu:upd H7 l8 (.lst ((vL).map V.int))=H8;ext jh s8 hl8 g8;ext EV l9 hl9;generalize eu:cF H8 l9 [.int 0]=H9;show(xC,s9,hl9,g9,oS l8 l9 _ _ (BP,s9 _ _ g8,g9,by simp only[Za]; exact ZJ (iD:_<=1000) ao,l10,hl10));rw[show (vL).map V.int++[V.int 0]=(vL++[0]).map V.int by rw[Zq]; rfl];generalize eu:upd H9 l10 (.lst ((vL++[0]).map V.int))=H10;show(xC,s10,hl10,g10,⟨l10,_,rfl,bb g10,aj,fun m hm=>Gk ?_ (fc,(s7.trans s8).trans (s9.trans s10))⟩);rcases Zw.mp hm with k|k
   .show(zdX,Zg.mp k);show(bZ,fit.rl s)
   .rw [Zp.mp k];decide
  ext tE H7 s7;ext GP; have s27:=s26.trans s7;show(af,s07,s02.trans s27,g67,s7 _ _ g6);show(Aa,ln,s07 _ _ hln)
  let Pv (i:Nat) (Z:L2.St) (H8:Hp):Prop:=∃ v9 v10 v11 v12:bS,Z=[cV,eQ,fb,kP,Cb,mN,Fm,Fn,Ma,v9,v10,v11,v12]/\Same H7 H8
  show(zcF,⟨122,_,_,_,_,rfl,kq⟩)
  .rintro i Z H8 _ (⟨_,_,_,_,rfl,s8⟩:122);show(xB,s8 _ _ (s07 _ _ hln))
  .rintro i x Z H8 hx (⟨v9,v10,v11,v12,rfl,s8⟩:122);ext zti; ext sT nm hnm;have mn:=Zn hnm;show(lU,p,hp,nin nm mn);show(af,po,pok.ok p hp,hf,xdn pok.nn hp);show(af,px1,po.x1,px2,po.x2);show(af,py1,po.y1,py2,po.y2);show(Aa,ls,s8 _ _ (s07 _ _ hls))
   show(zss,∃ v10 v11 v12:bS,Z=[cV,eQ,fb,kP,Cb,mN,Fm,Fn,Ma,ii p.nm,v10,v11,v12]/\Same H7 H9)
   show(sP,IO,K7 s8,?_)
   .rintro j Z H9 _ (⟨_,_,_,rfl,s9⟩:102);show(xB,s9 _ _ (s07 _ _ hls))
   .rintro j x Z H9 hx (⟨v10,v11,v12,rfl,s9⟩:102);ext sT qa hqa;obtain⟨⟨sb,r⟩,hs,hsq⟩:62:=stl.get hqa;have ms:=Zn hs;obtain⟨r1,r2⟩:1<=r/\r<=iM:=dr.ok.2.2 _ ms;have s09:=s07.trans s9;refine fW qa (s09 _ _ hsq)
    show(qM,∃ v12:bS,Sy H7 [cV,eQ,fb,kP,Cb,mN,Fm,Fn,Ma,ii p.nm,some wJ,F1,v12],?_)
    .show(Ah,⟨d,ls,ps,ss,rs,p,sb,r,rfl,(bO,pd.same s09,hf,s09 _ _ hls,pE s09,fun HA sA=>(bT,ite2 sy (fun c=>(cP,s9.trans sA))))⟩);ext nW; have s0A:=s09.trans sA;ext zdI hpA s0A;show(ae,q1,dg1,hq1,(pd.same s0A).get hf);refine⟨a,_,_,_,_,rfl,Kj hpA ⟨d,_,rfl,dg1,q1,ip,r,p,sb,rfl,hq1,⟨px1,px2,aa⟩,j0 py1,j0 r1,fun HB lB qB sB hlB cB qlB=>(lN,lB,lC hlB)⟩⟩;have sAB:=sA.trans sB;show(af,s7B,s9.trans sAB,s2B,s27.trans s7B)
     let Pm (σ':L2.St) (H':Hp):Prop:=∃ v12:bS,Sy H7 [cV,eQ,fb,kP,Cb,mN,Fm,Fn,Ma,ii p.nm,some wJ,F1,v12]
     show(cR,Pm,?_,CD);show(Ah,⟨d_o,_,rfl,OwD.get (s2B _ _ ow) mn,f7,au k1 hk1⟩);generalize eu:jw HB k1 wJ r=HC;ext jh sC hk1 gC;show(ap,ms',mY∈srt,dr.pm.mem_iff.mpr ms,⟨d_r,_,rfl,RnD.get (s:=mY) (sC _ _ (s2B _ _ rn)) ms' gC,_,rfl,OY ?_ (cP,s7B.trans sC)⟩);have wn:xb1 p mY=true:=by
      unfold mayB at c;ext cJ Z9 c eK
     have l:=fit.le p.nm mn (mY,lenI ip p.x p.y sb r) (by
      show(Ff,xoa pok.nn hp,(dk,mY,Ly ms' wn)))
     have cln:=xno (y:=p.y) (b:=sb) (r:=r) px1 px2;rw[Za,cB.len]
     dsimp only at l
     omega
    rintro _ HA (⟨v12',sA,rfl⟩:62);exact K7 sA
   rintro Z H9 (⟨v10,v11,v12,rfl,s9⟩:102);exact⟨122,_,_,_,_,rfl,s9⟩
  rintro Z H8 (⟨v9,v10,v11,v12,rfl,s8⟩:122);refine(uQ,l6,vF++vL,(cI,bb (s8 _ _ g67),⟨by simp only[Zr,Za]; omega,wg⟩,rfl,?_))
  .rcases Fj with k|k
   .show(dL,z,hz,rfl,Zg.mp k);show(Ac,fit.o0 z hz,fit.ob z hz)
   .show(zdX,Zg.mp k);show(bZ,xu5 fit lo s)
  have e:vV (V.int am=V.int (vF++vL).sum):=decide_eq_true (by rw[List.sum_append,<- tight,lfT.one lf]);show(aK,e,q _ (s07.trans s8))
theorem xge {Z:L2.St}{n:Nat}{g:TG}{fr:ij}{tc:TT}{te:TE}{l d:Addr}{H1:Hp}{Q:VK}{ob:Obj}{kvs:aI} (hd:zcr) (hlen:AQ) (hl:pV) (p:E5) (F:LX) (stab:Gv)
    (step:∀(i:Nat) (k:Key) (x:V) (H2:Hp),kvs[i]?=some (k,x)->Same H1 H2->∀(N:V->Hp->Prop) (M:Hp->Prop),(∀ y H',Same H2 H'->p i=true->F i y H'->N y H')->V0 ->
      g vd Ex H2 M5)
    (fin:Dp (EL ((RH).filter p)) (GD ((RH).filter p) Lj)):xdg Iw n g Z fr tc te l H1 Q:=by
  refine xi7 kvs.length hlen hl (fun i=>((kvs[i]?).map fun kv=>kV iS).getD .non) zqu (fun i H v H' lt s y=>?_) ztr p F stab (fun i H2 lt s N M h1 h2=>?_) fin
  . obtain⟨e,k,x,hx,rfl⟩:=y
    show(aO,e,d7 hx)
  . obtain⟨k,x⟩:Key × V:=kvs[i]
    show(af,e,iw,z,step i (kvs[i]).1 (kvs[i]).2 H2 e s N M h1 h2);ext aK e z
theorem xj3 {H H2:Hp}{d:Addr}{ob:Obj}{kvs:aI} (hd:oK) (s:Same (dZ d qQ) H2):gK (B0 H2):=fun b u e=>by
 ext jc b d
 .subst c;rw[xl,<- hd];exact e
 .show(jb,c,s _ _ (bE c e))
theorem xjz {w:Int}{ss:av}:∀{prs:bn},AZ=[]->∀ k,(Rf w k)=[]
 | [],_,k=>d7 List.drop_nil
 | b5,h,0=>h
 | o7,h,cL=>xjz (prs:=r) (List.append_eq_nil_iff.mp (cU,(LA r)++cans w ss r,[],h)).2 k
theorem xvq {w:Int}{ss:av}{prs:bn} (h:AZ=[]) {i j:Nat}{p p':Pr} (h1:aF prs p) (h2:bQ Bm p'):Ig=none:=by
 have z:=xjz h i;ext y9 l1 l2 h1;rw[YZ l1,l2] at z;show(af,y,(List.append_eq_nil_iff.mp (cU,(LA Bm)++(Rf w aM),[],z)).1,x,List.filterMap_eq_nil_iff.mp y p' (Zn h2));cases e:Ig with
 | none=>rfl
 | some c =>
  ext cH e x
inductive xt3 (K:Zf) (vs:ag) (H:Hp) (Q:VK) (_:XK):Prop
 | mk (d ls lp:Addr) (w h:Int) (ps:aw) (ss:av) (rs:az) (prs:bn) (qs:az) (e_:vs=[z0,b7,Ce,.ref lp]) (r_:BC/\(ax B5 tI (Dk lp) Eh (AK,(∀ p∈prs,AY),j5,lT,AZ=[],true)))
theorem xsr (ns:ai) (cs:dh):(ns.filter (aA,bG (z∈BD)))=BD:=by
 conv=>rhs; unfold xaz
 refine QU wf;rw[Jr,decide_eq_true_iff];show(aO,fun k=>(Zy.mp k).2,fun k=>Zy.mpr ⟨hz,k⟩)
inductive xuz (t:Adr) (vs:ag) (H:Hp) (Q:VK) (_:XK):Prop
 | mk (a d ls dp do_:Addr) (w h:Nat) (kvs:aI) (ps:aw) (ss srt:av) (rs:az) (e_:vs=[aB,b7,.ref ls]) (r_:(ax,Dr t H a dp do_ w h ps ss srt,vJ,j5,lT,AK oK jR B5 tI true))
theorem ok_a2 (T:aV):FnOk true P w K mg base aU 4 t.f_a2 t.d_a2 WO (xt3 K):=by
 refine T.F_a2.okn (k:=3) sc_a2 (aY E) (fun cdv A outer s H vs Q E hr h=>?_)
 .obtain ⟨d,ls,lp,w,h,ps,ss,rs,prs,qs,rfl,_⟩:=h;rfl
 .obtain ⟨d,ls,lp,w,h,ps,ss,rs,prs,qs,rfl,h⟩:=h;refine⟨_,xh (zay F2 (iX 4 sc_a2.nd 5) (xm (Ap (xal (zqD 3 jd)) 6 sc_a2.nd (xa2 (pC L7 hr T.g_ay T.F_ay.kp T.b_ay (sE 1 2 (xg si (iK (wu 6) (wu 6)))))) (uc (xa2 (pC L7 hr T.g_ay T.F_ay.kp T.b_ay (sE 1 2 (xg (wu 6) (iK si si))))) (uc (iz xft (pC (ok_a7 T) hr T.g_a7 T.F_a7.kp T.b_a7 (eT 0 (gq 1 5 6))) (xcx)) BW)))))
   BW,?_⟩
  refine sq2 ?_; intros; refine fq ?_; intros; obtain⟨pd,hls,stl,hl,pr,ok,⟨w30,h16,cn,q⟩⟩:47:=h;refine(lN,lp,bb hl)
  let Pv (i:Nat) (Z:L2.St) (H2:Hp):Prop:=∃(v4 v5 v6:bS),Z=[F6,eQ,fb,zH,v4,v5,v6]/\L3
  show(zbJ,A9,K7 kq,(fun _ _ _ _ ⟨_,_,_,_,z⟩=>bb (z _ _ hl)))
  .rintro i x p Z H2 hx hp (⟨v4,v5,v6,rfl,s2⟩:102);ext zgV k1 lp;rw[xri];have s4:Same H2 (upd zau p4 (.lst ((EN).map V.ref))):=sp.trans (c7 hp4);have pr2:=pr.drop aM;show(zmm,∃(v6:bS),(bc,Z,[F6,eQ,fb,zH,aX i,bu o,v6],FG,H5 p4=some (.lst ((EN).map V.ref))))
   show(sP,(EN).map V.ref,(iQ,_,s2.trans s4,xl),(zdn,_,z,bb z))
   .rintro j x Z H5 hx (⟨v6,rfl,s5,hp5⟩:63);ext zjX;show(af,k2,ok P2 (W4 (Zn hP2)),no,xvq cn hP1 hP2);show(af,e1,dP eP1,e2,dP eP2);refine B1 o e1 ⟨o2,_,1,_,rfl,rfl,dR e2,rfl,o2,_,2,_,rfl,rfl,dR e2,rfl,d,ls,ps,ss,rs,P1.1,bg P2,b6 P2,rfl,pd.same s5,k1.fd,dP hls,pE s5,fun H6 s6=>DI c1 (iQ,_,Bi,fQ hp5)⟩;ext qT; have s06:=s5.trans s6;show(af,e1,fQ e1,e2,fQ e2);refine B1 o2 e2 ⟨o,_,1,_,rfl,rfl,dR e1,rfl,o,_,2,_,rfl,rfl,dR e1,rfl,d,ls,ps,ss,rs,P2.1,bg P1,b6 P1,rfl,pd.same s06,k2.fd,s06 _ _ hls,pE s06,fun H7 s7=>DI c2 (iQ,_,s06.trans s7,yH hp5)⟩;ext qT; have s07:=s06.trans s7;refine⟨d,o,o2,w,h,ps,P1,P2,rfl,⟨47,pd.same s07,s7 _ _ e1,s7 _ _ e2,k1,k2,w30,⟨h16,cu H8 v s8 mv⟩⟩⟩;have ex:excB ss P1 P2=true:=by
     unfold excB;rw[Z9];ext aO c1 c2
    unfold canO at no;rw[ex,bW] at no;rw[no] at mv;rcases mv with⟨_,rfl⟩|⟨c,q6,em,_⟩
    .exact (hW,ifN fH (iQ,_,s07.trans s8,s8 _ _ (yH hp5)))
    .cases em
   .rintro Z H5 (⟨v6,rfl,s5,hp5⟩:63);exact K7 s5
  .rintro Z H2 (⟨v4,v5,v6,rfl,s2⟩:102);exact q H2 s2
theorem ok_am (T:aV):FnOk true P w K mg base aU 11 t.f_am t.d_am Vu (xuz t):=by
 refine T.F_am.okn (k:=10) sc_am (aY E) (fun cdv A outer s H vs Q E hr h=>?_)
 .obtain ⟨a,d,ls,dp,do_,w',h',kvs,ps,ss,srt,rs,rfl,_⟩:=h;rfl
 .obtain ⟨a,d,ls,dp,do_,w',h',kvs,ps,ss,srt,rs,rfl,h⟩:=h;refine⟨_,xh (pS 3 sc_am.nd (pC (xqj T) hr T.g_answer T.F_answer.kp T.b_answer qz))
   (xh (En (PW.pt (xce (Iq 3 "tuple" T.n_tuple boot_tuple) (xce (iz xff (oR F2) (xo)) (xce (jY (Gw (iK wW (HV "list" T.n_list boot_list)))) (xb7 (jY (pC (ok_a1 T) hr T.g_a1 T.F_a1.kp T.b_a1 (xg wW (xi))))))))))
   (xh (pS 4 sc_am.nd wW)
   (xh (pS 5 sc_am.nd (pC (ok_a3 T) hr T.g_a3 T.F_a3.kp T.b_a3 qz))
   (xh (AG 6 sc_am.nd (xav rfl (xau (zs:=["_law_pair"]) (ys:=[]) (fr:=[]) (N0:=["_law_picture", "_law_points", "_law_seats", "_law_told", "_law_pairs", "_law_outs", "_law_names", "_law_amount", "_law_name", "_law_side", "_law_row"]) (sc0:=LY) aP rfl rfl rfl) (kT 4) fj eP eW Gs))
   (xh (pS 7 sc_am.nd (xo))
   (xh (xbf ZB rfl (kT 4) (ID 8 sc_am.nd (iX 9 sc_am.nd 10)) (xh (En (jY (pC L7 hr T.g_ay T.F_ay.kp T.b_ay (sE 1 2 (gq 8 9 10)))))
   (xm (pS 7 sc_am.nd (xu xdd (xu xa0 sO (oR (xg (pC (ok_ao T) hr T.g_ao T.F_ao.kp T.b_ao (xg bB (xg (rg 1 (pv 8)) (iN 9 10)))) (xi)))) (xo))))))
   (xh (AW (jv xff 7 wW) (iz xff (xpa (xbw hr) rfl rfl T.n_len rfl T.n_set (xg (xav rfl (xau (zs:=["_law_pair"]) (ys:=[]) (fr:=[]) (N0:=["_law_picture", "_law_points", "_law_seats", "_law_told", "_law_pairs", "_law_outs", "_law_names", "_law_amount", "_law_name", "_law_side", "_law_row"]) (sc0:=LY) aP rfl rfl rfl) (kT 4) fj eP eW (fun _ _ _ _ _=>xd5 (r:=rSlT K) xmw bz (xep (xo)) xeo)) (xi))) (oR (gG 4))))
   (xh (AW (jv R9 6 (xd9 (xav rfl (xau (zs:=zes) (ys:=["_law_names"]) (fr:=[6]) (N0:=["_law_picture", "_law_points", "_law_seats", "_law_told", "_law_pairs", "_law_outs", "_law_names", "_law_amount", "_law_name", "_law_side", "_law_row"]) (sc0:=LY) aP rfl rfl rfl) (xmk (pv 1)) fj eP (zbn,rInV K false,zfj) DF))) (Iq 5 "list" T.n_list boot_list))
   (xh (En (iz R9 (xav rfl (xau (zs:=["_law_row"]) (ys:=[]) (fr:=[]) (N0:=["_law_picture", "_law_points", "_law_seats", "_law_told", "_law_pairs", "_law_outs", "_law_names", "_law_amount", "_law_name", "_law_side", "_law_row"]) (sc0:=LY) aP rfl rfl rfl) (kT 5) fj eP eW Gs) (xd9 (xav rfl (xau (zs:=zes) (ys:=["_law_names"]) (fr:=[6]) (N0:=["_law_picture", "_law_points", "_law_seats", "_law_told", "_law_pairs", "_law_outs", "_law_names", "_law_amount", "_law_name", "_law_side", "_law_row"]) (sc0:=LY) aP rfl rfl rfl) (xmk (pv 1)) fj eP (zbn zfY Sa) DF))))
   (xh (AW (jY (pC (ok_av T) hr T.g_av T.F_av.kp T.b_av (eT 1 (gq 2 6 5)))) (jY (pC (ok_aq T) hr T.g_aq T.F_aq.kp T.b_aq (sE 0 1 (gq 2 6 7)))))
   (d8 (pC (ok_a2 T) hr T.g_a2 T.F_a2.kp T.b_a2 (xg bB (gq 1 2 4)))))))))))))),?_⟩
  refine sq12 ?_; intros; obtain⟨dr,pok,w30,h16,hd,lp0,⟨hls,stl,q⟩⟩:47:=h;ext T5;show(dO,nnd,Lq,pok.nn,p12,pok.le);ext MW nl
  have kvl:=lp0.len;show(ap,pdO,∀{Hx:Hp},(gK Hx)->PD Hx d ps,fun s=>⟨kvs,.inl Lv,lp0.same s⟩,⟨a,dp,do_,w',h',ps,ss,srt,rfl,(bO,dr,pok,w30,h16,fun H1 tp lp qs prs cs so ho s1 htp hlp pl run lf en gp my cn=>?_)⟩);show(af,pr12,gp.le,qll,pl.len);have knd:(iC).Nodup:=LE nnd;ext zse
  show(qM,H1=H'/\σ'=[cV,eQ,fb,mN,none,none,none,none,none,none,none],mB ⟨104,_,_,true,.tup htp,rfl,xb6,Km ⟨84,tp,_,rfl,.inr (SqT.of htp),rfl,(bT,ifN aj (yr,tp,.ref lp,htp,mB ⟨104,_,_,true,.lst hlp,rfl,xb6,Km (kJ tp 1 qx (sK,dR htp,rfl,⟨_,rfl,_,rfl,ifN ao kL⟩))⟩))⟩⟩);ext OE;show(bN,B1 tp htp ?_,⟨a,dp,do_,w',h',ps,ss,srt,rfl,dr.same s1,nnd,fun H2 lo os cs2 so2 ho2 s2 flo e2 ol run2 of2=>?_⟩);show(gX,rfl,rfl,rfl,run.det run2);have s02:=s1.trans s2;show(af,oll,ol.len,cl,Tc);show(nX,lp,h8 hlp,l3,hl3,xbp (bb (h8 hlp)) nR hl3 (fun j v _=>∃ p,(bQ prs p)/\v=FI) pB (fun j x H5 hx s5 N hN=>?_) (fun ys H3 s3 e3 ly fy=>?_))
  .ext rF;show(ae,p,hp,hq,pl.get hqa);exact(yr,qa,FI,s5 _ _ (s2 _ _ hq),hN _ _ kq E3)
  have ey:ys=(iC).map V.str:=by
   rw[<- en];show(zfP,(by rw[ly,Za,Za,qll]),p,hp);ext HU hp
  subst ey;show(af,s13,s2.trans s3,s03,s1.trans s13);show(af,hlp3,s13 _ _ hlp,htp3,s13 _ _ htp);show(af,e2,jK e2,pl3,pl.keep (Same.tups s13));have ol3:∀{i:Nat}{q:Addr},(aF os q)->∃ c lc,(aF cs c)/\H3 q=some (.tup (Mi gQ lc)):=fun h=>by
   show(MD,c,lc,a1,a2,ol.get h);exact(bK,c,lc,a1,jK a2)
  refine jp lp hlp3 ?_
  let Pv (i:Nat) (Z:L2.St) (H4:Hp):Prop:=∃ v8 v9 v10:bS,Z=[cV,eQ,fb,mN,zH,rV,FJ,(aX,((Ta).map (xbd ip)).sum),v8,v9,v10]/\Same H3 H4
  show(sP,A9,K7 kq,?_)
  .rintro i Z H4 _ (⟨_,_,_,rfl,s4⟩:102);show(xB,iT hlp3)
  .rintro i x Z H4 hx (⟨v8,v9,v10,rfl,s4⟩:102);ext sT qa hqa;show(ae,p,hp,hq,pl3.get hqa);have okp:=gp.ok p (Zn hp);show(oA,x1,x2,y1,y2,okp.xy)
   have r1:=okp.r1;show(af,r2,okp.r2,s04,s03.trans s4);refine fW qa (iT hq);ext nW; show(gH,(rN,Sy H3 [cV,eQ,fb,mN,zH,rV,FJ,(aX,((Ta).map (xbd ip)).sum),ii cp,some (uq i6),aX hX]),⟨d,ls,ps,ss,rs,aN,i6,hX,rfl,(bO,pdO s04,okp.fd,s04 _ _ hls,pE s04,fun H5 s5=>zh ?_ zgn)⟩)
   .obtain ⟨m1,m2⟩:=my p (Zn hp);unfold mayB;rw[show vV ((i6,hX)∈ss) from decide_eq_true (dr.pm.mem_iff.mp m1),(tH,xb1 aN (i6,hX),m2)];rfl
   ext tE H5 s5;have s05:=s03.trans s5;ext zdI hp5 s05;show(ae,q1,dg1,hq1,(pdO s05).get okp.fd);refine⟨a,_,_,_,_,rfl,Kj hp5 ⟨d,_,rfl,dg1,q1,ip,hX,aN,i6,rfl,hq1,⟨x1,x2,aa⟩,j0 y1,j0 r1,fun H6 l6 q6 s6 hl6 c6 ql6=>(lN,l6,lC hl6)⟩⟩;have ea:((Ta).map (xbd ip)).sum+(cE,(q6.map V.ref).length)-1=((prs.take aM).map (xbd ip)).sum:=by
    rw[xky _ hp,Za,c6.len];have:=xno (y:=(aN).y) (b:=i6) (r:=hX) x1 x2;unfold xbd;omega
   exact⟨102,_,_,_,by rw[<- ea]; rfl,Bi⟩
  rintro Z H4 (⟨v8,v9,v10,rfl,s4⟩:102);rw[Za,qll,Jh,(cU,(prs.map (xbd ip)).sum,Ep,rfl)];show(af,hlp4,iT hlp3,pl4,pl3.keep (Same.tups s4))
  show(Fu,H4,[cV,eQ,fb,mN,zH,rV,FJ,aX Ep,v8,v9,v10])
  .ext qT; show(bN,kJ tp 1 _ (OU,iT htp3,tZ aj),(jp,lp,hlp4,au l5 hl5));refine xbp (bb hlp4) nR hl5 (fun j v H5=>∃ q p,(bc,v,eC,bQ prs p,H5 q=some (.tup (xa5 dG)))) (fun j y H5 H6 tp ⟨q,s,e1,e2,e3⟩=>(bv,q,s,e1,e2,pi e3)) (fun j x H5 hx s5 N hN=>?_) (fun ys H5 s5 e5 ly fy=>?_)
   .ext rF;show(ae,p,hp,hq,pl4.get hqa);show(qJ,1,⟨84,qa,prV p,rfl,dR (dP hq),(aA,absurd z.1 (zaW 1 0)),fun u hu=>hN _ _ (c7 hu) (eD u p hp xl)⟩)
   rw[Za,qll] at ly;obtain⟨us,rfl,sl5⟩:62:=xak.pick (H:=H5) (ss:=prs.map (·.2)) (ys:=ys) (cA ly Za) (fun j y s hy hs=>by
    obtain⟨q,p,e1,e2,e3⟩:83:=fy j y hy;rw[Zd,e2] at hs;cases hs;ext aJ q e1 e3)
   show(jZ,ul,sl5.len,Za);refine⟨106,l5,us,(prs.map (·.2)).map xv,rfl,bb e5,by rw[ul,Za,Za],Ld q ks,aa,⟨84,lp,_,rfl,lC (dP hlp4),rfl,zh ?_ s5⟩⟩
   .show(dL,s,hs,hsq,sl5.get h1);rw[Zd,hs] at h2;cases h2;exact hsq
   .rw [xou.mpr (by
     have ns:=gp.ns;rw[Y3,ZU] at ns ⊢;rw[ZU];exact ns.imp fun ne e=>ne (xdm e)),Za,Za,Za,qll]
    simp
  ext tE H5 s5;show(af,s35,zgn,s05,s03.trans s35);show(af,hd5,s05 _ _ hd,e35,s35 _ _ e3);ext j3 n3d l3 d e35 hd5;have lpk:=lp0.keys;have flt:∀(f:Str->Bool) {ys:ag},(EL ((RH).filter fun i=>((eA[i]?).map f).getD false))->(GD ((RH).filter fun i=>((eA[i]?).map f).getD false) (HD eA))->ys=((eA).filter f).map V.str:=fun f ys h1 h2=>by
   rw[kvl,<- nl] at h1 h2;exact xps h1 h2
  have key:∀{i:Nat}{k:Key}{x:V},kf->∃ z,(aF eA z)/\k=.inr z:=fun {i k x} h=>by
   have z:(kvs.map (·.1))[i]?=CF:=xR h
   rw[lpk,Zd,Zh] at z;ext ae y h1 h2 z;show(aJ,y,h1,h2.symm)
  show(Fu,H5,[cV,eQ,fb,mN,zH,rV,FJ,aX Ep,v8,v9,v10])
  .show(Ah,AR d hd5 l6 hl6);refine xge xl (BIG aa) hl6 (fun i=>((eA[i]?).map fun z=>bG (z∈iC)).getD false) (Mx,HD eA) pB (fun i k x H6 hx s6 N M hN hM=>?_) (fun ys H6 s6 e6 ly fy=>?_)
   .show(zlZ,fQ (bE n3d e35))
    .rw [mQ,xeu] at y;ext Xh
    .rw [mQ,xeu] at y;ext So hz
   show(nB,flt _ ly fy);have n6:l6≠d:=fun z=>by
    rw[z,xl] at hl6;cases hl6
   refine⟨103,d,ob,_,fQ xl,nf,?_⟩;have s56:=xj3 hd5 s6;rw[xsr] at e6;have e6:fF H6 d rQ l6 (.lst ((iC).map V.str)):=bE n6 e6
   revert s56 e6;generalize B0 H6=H7;intro s56 e6;refine(Dw,1,_,xcy (s56 _ _ e35),e6,tZ UE);exact mB ⟨104,_,_,true,.lst (s56 _ _ (s35 _ _ e2)),rfl,xb6,(jA,true,ifN ao (fc s56))⟩
  ext tE H6 s6;have s36:=s35.trans s6;show(af,s06,s03.trans s36,hd6,s06 _ _ hd)
  show(Fu,H6,[cV,eQ,fb,mN,zH,rV,FJ,aX Ep,v8,v9,v10])
  .ext qT; show(nX,lo,s36 _ _ e2,l7,hl7,xbp (bb (s36 _ _ e2)) nR hl7 (fun j v _=>∃ c,(bQ cs c)/\v=wN) pB (fun j x H7 hx s7 N hN=>?_) (fun ys H7 s7 e7 ly fy=>?_))
   .ext rF;show(iF,c,lc,hc,hq,ol3 hqa);exact(yr,qa,wN,s7 _ _ (s36 _ _ hq),hN _ _ kq (dk c hc))
   have ey:ys=(cs.map (·.1)).map V.str:=by
    ext WM oll
   subst ey;show(af,hd7,s7 _ _ hd6,e37,s7 _ _ (s36 _ _ e3));refine AR d hd7 l8 hl8;refine xge xl (BIG aa) hl8 (fun i=>((eA[i]?).map fun z=>!(bG (z∈iC))).getD false) (Mx,HD eA) pB (fun i k x H8 hx s8 N M hN hM=>?_) (fun ys H8 s8 e8 ly fy=>?_)
   .show(zlZ,s8 _ _ (bE n3d e37))
    .ext Tg;ext Xh
    .ext Tg;ext So hz
   show(nB,flt _ ly fy);have n8:l8≠d:=fun z=>by
    rw[z,xl] at hl8;cases hl8
   refine⟨103,d,ob,_,s8 _ _ xl,nf,?_⟩;have s78:=xj3 hd7 s8;rw[<- run.gone nnd] at e8;have e8:upd H8 d rQ l8=some (.lst ((cs.map (·.1)).map V.str)):=bE n8 e8
   revert s78 e8;generalize B0 H8=H9;intro s78 e8;exact(Dw,1,_,xcy (s78 _ _ e7),e8,(zh,UE,s7.trans s78))
  ext tE H7 s7;show(af,s37,s36.trans s7,s07,s03.trans s37)
  show(Fu,H7,[cV,eQ,fb,mN,zH,rV,FJ,aX Ep,v8,v9,v10])
  .show(Ah,⟨d,ls,l3,lo,kvs,ps,ss,srt,rs,os,cs,so,ho,rfl,⟨47,s07 _ _ hd,lp0.same s07,nnd,p12,zgl,pE s07,⟨47,dr.ok.1,bg dr.ok,s37 _ _ e3,s37 _ _ e2,?_,run,⟨dr.pm,fun H8 s8=>tZ ao⟩⟩⟩⟩)
   .exact ol.keep (s3.trans s37)
   have s08:=s07.trans s8;exact⟨a,d,ls,l3,dp,do_,w',h',ps,ss,srt,rs,iC,Ep,rfl,⟨47,dr.same s08,pok,w30,h16,pdO s08,s08 _ _ hls,⟨47,pE s08,s8 _ _ (s37 _ _ e3),xnz,knd,kl,zoq,⟨lf,fun H9 s9=>(zh,ao,s8.trans s9)⟩⟩⟩⟩
  ext tE H8 s8;have s08:=s07.trans s8;ext zdI hp8 s08;have s38:=s37.trans s8;exact⟨a,_,_,_,_,rfl,Kj hp8 ⟨d,ls,lp,ip,iM,ps,ss,rs,prs,qs,rfl,pdO s08,s08 _ _ hls,pE s08,s38 _ _ hlp3,pl3.keep (Same.tups s38),gp.ok,aa,aa,cn,fun H9 s9=>q _ (s08.trans s9)⟩⟩
theorem xvt {nm:Str}{x y:Int} (p:Pt):(yI).nm=p.nm:=by
 unfold mvP;split<;>rfl
theorem xyx {w h:Int}{ps:aw} (o:SW) {nm:Str}{x y:Int} (x1:1<=x) (x2:x<=w) (y1:1<=y) (y2:y<=h) (no:zlG):xby w h (ps.map (mvP nm x y)):=by
 have pwn:(zbG,p.nm≠q.nm):=Xg o.nn
 have pwx:(zbG,p.x≠q.x):=Xg o.nx
 show(ap,pwy,(zbG,p.y≠q.y),Xg o.ny,⟨lG,?_,?_,?_,fL o.le⟩)
 .show(dL,p',hp',rfl,Zg.mp hp);have k:=o.ok p' hp';unfold mvP;split
  .exact ⟨k.nm,x1,x2,y1,y2,k.sd,k.l1,k.l2,k.l3⟩
  .exact k
 .rw [Z0,(cU,((fun p:Pt=>p.nm)∘mvP nm x y),fun p=>p.nm,funext xvt)];exact o.nn
 .rw [Z0,JG,ZU];refine (pwn.and pwx).imp_of_mem fun {p q} hp hq ⟨n1,n2⟩=>?_;show (yI).x≠(mvP nm x y q).x;unfold mvP;ext zb
  .ext zqp;exact (aA,(zmj).1 z.symm)
  .ext ib c;by_cases c2:q.nm=nm
   .show(c9,aC c2,(no p hp c).1)
   .ext c9 L8 n2
 .rw [Z0,JG,ZU];refine (pwn.and pwy).imp_of_mem fun {p q} hp hq ⟨n1,n2⟩=>?_;show (yI).y≠(mvP nm x y q).y;unfold mvP;ext zb
  .ext zqp;exact (aA,(zmj).2 z.symm)
  .ext ib c;by_cases c2:q.nm=nm
   .show(c9,aC c2,(no p hp c).2)
   .ext c9 L8 n2
theorem xxp (n:Int):∃ b:Bool,atI [V.str "left",V.str "right"] (n % 2)=some jD:=by
 obtain⟨h0,h1⟩:=xa9 n (xQ 2);have:n % 2=0\/n % 2=1:=aa
 rcases this with e|e<;>rw[e]
 .exact fc true
 .exact fc false
theorem xua {ns:ai}{m:Int}{n:Nat} (e:n=ns.length) (h:0<n):∃ z∈ns,atI (ns.map V.str) (m % jE)=some oP:=by
 show(zI,b,xa9 m (dS,uO<jE));obtain⟨j,hj⟩:=Y6 a;rw[hj] at b ⊢;have lt:j<ns.length:=aa
 show(aJ,ns[j],Qz lt,xea (xR iw))
theorem xr4 {ss:av} (nd:ss.Nodup) {s:Seat} (h:sv):xeq KC (xb5 s) (ss.idxOf s):=by
 have lt:=YQ h;show(ap,e,(dX,ss,ss.idxOf s,s),cA iw WG,⟨⟨xb5 s,xR e,xcd _⟩,cu i d lt hd⟩);show(zhg,xmx,Ju.mp nd i _ h1 h3 lt)
theorem xak.rm {H:Hp}{ss:av}{rs:az} (h:tI) (nd:ss.Nodup) (s:Seat):xak H (ss.filter fun x=>bG (x≠s)) (rs.eraseIdx (ss.idxOf s)):=by
 induction h with
 | nil=>ext eI
 | @cons s0 q ss rs h r ih =>
  rw[Z8] at nd;ext jc s0 s
  .subst c;rw[Je aj,List.idxOf_cons_self,List.eraseIdx_cons_zero,List.filter_eq_self.mpr (by intro x hx; simp; intro e; exact nd.1 (e▸hx))];exact r
  .rw [Jd yu,List.idxOf_cons,KO s0 s yu,cond_false,List.eraseIdx_cons_succ];exact .cons h (ih jI)
theorem Lp.keepP {H H':Hp} (s:∀ b p,(aE b uD)->(za uD)) {ps:aw}{kvs:aI} (h:jR):R0:=by
 induction h with
 | nil=>ext eI
 | cons h _ ih=>ext zw
theorem Lp.drop {H:Hp}{ps:aw}{kvs:aI} (h:jR) (nm:Str):Lp H Xo zbV:=by
 induction h with
 | nil=>ext eI
 | @cons p q ps kvs h r ih =>
  unfold xb8 at ih ⊢;ext zb
  .ext zsh
  .ext zhH
theorem xh2 {k:Key}{v:V}:∀{kvs:aI},FA->v∈kvs.map (·.2)
 | [],h=>nomatch h
 | (k',v')::r,h=>by
  by_cases c:k'=k
  .show(gM,xbh c);cases h;exact Zm
  .show(gM,xa6 c);exact Zi _ (xh2 h)
theorem Lp.mv {H H':Hp}{nm:Str}{x y:Int}{q:Addr} (k:∀ b p,o9 b q (aE b uD) (za uD)) {ps:aw}{kvs:aI} (h:jR) (nd:(ps.map (·.nm)).Nodup) (fr:(kvs.map (·.2)).Nodup) (hv:zfs) (hq:∀ p∈ps,p.nm=nm->(BY q (uo Hg))):Lp H' zaT kvs:=by
 have rest:∀{ps:aw}{kvs:aI},jR->RJ->V.ref q∉kvs.map (·.2)->Lp H' zaT kvs:=fun {ps kvs} h=>by
  induction h with
  | nil=>exact fun _ _=>.nil
  | @cons p q' ps kvs h r ih =>
   intro n1 n2;rw[Zo,(cU,yI,p,ay (n1 p Zm))];refine .cons (k _ _ (fun e=>n2 (aD e Zm)) h) (ih (fun p' hp=>n1 p' (Zi _ hp)) (aA,n2 (Zi _ z)))
 induction h with
 | nil=>cases hv
 | @cons p q' ps kvs h r ih =>
  rw[Zo,Z8] at nd fr;rw[Zo];ext zb
  .rw [xbh (dF c)] at hv;cases hv;show(aK,(cU,yI,Hg,aC c),d4 (hq p Zm c) (rest r (df,p',hp,nd.1 (Zg.mpr ⟨p',hp,e.trans c.symm⟩)) fr.1))
  .rw [zqB] at hv;show(aK,cU yI p sr,d4 (k _ _ (fun e=>fr.1 (by rw[e]; exact xh2 hv)) h) (ih jI fr.2 hv fun p' hp=>hq p' (Zi _ hp)))
theorem xts {rs:az}{p:Pt}:HO.lst (rs.map V.ref)≠HO.lst (ptV p):=fun e=>by
 injection e with e
 cases rs with
 | nil=>cases e
 | cons a r =>
  injection e with e _
  cases e
structure LSt (t:Adr) (H0 H:Hp) (a dp do_ d ls:Addr) (w h:Nat) (ps:aw) (ss:av):Prop where
 s:Same H0 H
 pic:Pic t H a dp do_ sw uN ps
 sts:qZ
 ok:S2
 pok:vJ
 p9:ps.length<=9
 b:j5/\h<=16
 ld:∃ kvs,oK/\jR/\Frs H0 kvs
 ll:∃ rs,B5/\tI
 ne:d≠dp
 fr:bD (Cq dp) (Cq do_) (Cq d) (Cq ls)
section
variable {t:Adr}{H0 H H1 H3:Hp}{a dp do_ d ls:Addr}{w h:Nat}{ps ps1:List Pt}{ss ss1:List Seat}
theorem LSt.same (l:LSt t H0 H a dp do_ d ls w h ps ss) (s:gK H1):LSt t H0 H1 a dp do_ d ls w h ps ss :=
 ⟨l.s.trans s,Pic.same s l.pic,l.sts.same s,l.ok,l.pok,l.p9,l.b,let ⟨k,e1,e2,e3⟩:=l.ld; (ba,k,s _ _ e1,e2.same s,e3),let ⟨r,e1,e2⟩:=l.ll; ⟨r,s _ _ e1,e2.keep (Same.tups s)⟩,l.ne,l.fr⟩
theorem LSt.seats (l:LSt t H0 H a dp do_ d ls w h ps ss) (k1:Fh HY) (pic1:Pic t H1 a dp do_ sw uN ps) (st1:Sts H1 do_ ss1) (ok1:SsOk uN ss1) {rs1:az} (sl1:xak H1 ss1 rs1):LSt t H0 znk a dp do_ d ls w h ps ss1:=by
 show(oA,f1,f2,f3,f4,l.fr)
 ext zpo kvs
 show(mf,ko,hko,l.sts);have h1:=k1 _ _ (ne_f g1 hko) g1;have bt:(iE,ls,H1 c=some u,kX H1 ls (.lst (rs1.map V.ref))):=fun c u nc e=>by
  ext bP nc e
 show(ap,tL,Tups H1 znk,(uy,Bu h1),⟨(uR,bt _ _ (xk e f4) (k1 _ _ (xk e f2) (l.s _ _ e))),⟨let ⟨d,e⟩:=pic1.ins; ⟨d,Bu h1⟩,(zrq,Bu h1),pic1.w1,pic1.w2,pic1.h1,pic1.h2,pic1.len⟩,?_,ok1,l.pok,l.p9,l.b,(ba,kvs,?_,Lp.keepP (df c p ?_) e2,e3),⟨rs1,xl,sl1.keep tL⟩,l.ne,l.fr⟩)
 .ext dL k2 y1 y2 st1;show(aJ,k2,bt _ _ (ne_f y1 h1) y1,y2)
 .have y:=k1 _ _ (ne_f e1 hko) e1;exact bt _ _ (ne_f y h1) y
 .have y:=k1 _ _ (dQ hko) e;exact bt _ _ (xdi y h1 (aA,xts z.symm)) y
theorem LSt.pts (l:LSt t H0 H a dp do_ d ls w h ps ss) (k1:iE dp wA HY) (pic1:Pic t H1 a dp do_ sw uN ps1) (kp:∀ c u,(bq,c≠d,(∀ p,u≠uD),HY,Pw)) (s3:Same H0 H3) {kvs:aI} (hd:H3 d=some (.dK kvs)) (lp:Lp H3 ps1 kvs) (fr:Frs H0 kvs) (pok:xby sw uN ps1) (p9:ps1.length<=9):LSt t H0 H3 a dp do_ d ls w h ps1 ss:=by
 ext zpo kv0
 show(fD,kd,hkd,l.pic.pl)
 have h1:=k1 _ _ l.ne e1;have t1:Tups H H1:=(uy,k1 _ _ (dQ hkd) e);show(ap,tL,Tups H1 H3,uy zut,⟨s3,⟨let ⟨x,e⟩:=pic1.ins; ⟨x,zut⟩,(zrq,kp _ _ (Z2 l.ne) OD e),pic1.w1,pic1.w2,pic1.h1,pic1.h2,pic1.len⟩,?_,l.ok,pok,p9,l.b,ba kvs hd lp fr,⟨rs,?_,(g2.keep t1).keep tL⟩,l.ne,l.fr⟩)
 .show(dL,k2,y1,y2,l.sts)
  have y:=k1 _ _ (ne_f y1 hkd) y1;show(aJ,k2,kp _ _ (ne_f y h1) OD y,y2)
 .have y:=k1 _ _ (ne_f g1 hkd) g1;exact kp _ _ (ne_f y h1) (fun p=>xts) y
#check _
inductive xqi (t:Adr) (vs:ag) (H:Hp) (Q:VK) (_:XK):Prop
 | mk (H0:Hp) (a dp do_ d ls:Addr) (w h:Nat) (ps:aw) (ss:av) (nb:Int) (e_:vs=[aB,b7,Ce,.int nb]) (r_:LSt t H0 H a dp do_ d ls w h ps ss/\∀ H' ps' ss',LSt t H0 H' a dp do_ d ls w h ps' ss'->rM)
theorem ok_ah (T:aV):FnOk true P w K mg base aU 7 t.f_ah t.d_ah Ve (xqi t):=by
 refine T.F_ah.okn (k:=6) sc_ah (aY E) (fun cdv A outer s H vs Q E hr h=>?_)
 .obtain ⟨H0,a,dp,do_,d,ls,w',h',ps,ss,nb,rfl,_⟩:=h;rfl
 .obtain ⟨H0,a,dp,do_,d,ls,w',h',ps,ss,nb,rfl,h⟩:=h;refine⟨_,xh (pS 4 sc_ah.nd (oJ h7))
   (xh (pS 5 sc_ah.nd (xaq (iK (Sx zeW (oJ (uA h7))) XN)))
   (xh (pS 6 sc_ah.nd XN)
   (xh (pS 7 sc_ah.nd XN)
   (xh (xbe (pS 8 sc_ah.nd (xc7 (xc0 xdx (pv 6) (xd9 (xav rfl (xau (zs:=Sf) (ys:=[]) (fr:=[]) (N0:=["_law_picture", "_law_points", "_law_seats", "_law_number", "_law_way", "_law_seat", "_law_x", "_law_y", "_law_free", "_law_name"]) (sc0:=xp s_ah) aP rfl rfl rfl) (xfm (pv 1)) fj eP eW MS)) fH) (xes (xc0 xdx (pv 7) (xd9 (xav rfl (xau (zs:=Sf) (ys:=[]) (fr:=[]) (N0:=["_law_picture", "_law_points", "_law_seats", "_law_number", "_law_way", "_law_seat", "_law_x", "_law_y", "_law_free", "_law_name"]) (sc0:=xp s_ah) aP rfl rfl rfl) (xfm (pv 1)) fj eP eW MS)) fH)))))
   (xh (pS 9 sc_ah.nd (xae xrr (xbr) (oJ (uA h7)) fC))
   (xm (xbe (xai (PW.pt (xe6 (jv xfk 4 (xo)) (xf1 (xab zfj (pv 5) iR fH)))) (xh (xam (xag bz T.c_a T.m_n (ok_n T) bi T.b_n .nil xq (iK si si)))
   (qE (xdw Jj PySem.F.slot_list_remove PySem.F.type_list_remove (xon (xbw hr)) iR CC))) (xm (xbe (xai (jv xfk 4 (xo)) (xh (xam (xag bz T.c_a T.m_k (ok_k T) bi T.b_k .nil xq (iK si si)))
   (qE (xdw Jj JA J9 xcb iR CC))) (xm (xbe (xai (PW.pt (xe6 (jv xc2 4 (xo)) (xf1 (jv (xt8 (xbw hr)) 1 (xd6))))) (xh (pS 9 sc_ah.nd (xae xa4 (N5 (xim rfl) i5) (xu xba (uA h7) (Im xg2 i5)) fC))
   (xm (xbe (xai (iz xc2 (oJ (uA h7)) (xo)) (xh (xam (xag bz T.c_a T.m_aj (ok_aj T) bi T.b_aj .nil xq (gG 9)))
   (qE (xl1 fw (pv 9) HF))) (xm (xbe (xai (xa2 (pv 8)) (xh (xam (xag bz T.c_a T.m_ak (ok_ak T) bi T.b_ak .nil xq (gq 9 6 7)))
   (xh (zoV 6)
   (xm (zoV 7)))) (x9)))))))) (xm (xbe (xai (PW.pt (xe6 (jv xc2 4 (xo)) (xe6 (xa2 (pv 8)) (xe6 (xcz (xdk eR (pv 9) (pv 1))) (xf1 (iz xfk (Im xg2 i5) (xo))))))) (xh (xam (xag bz T.c_a T.m_b (ok_b T) bi T.b_bn.choose_spec.2 T.b_bn.choose_spec.1 xq (gq 9 6 7)))
   (xm (qp fw (pv 9) (xb0 (sE 6 7 (xg (xbr) (oZ bB))))))) (x9)))))))))))))))))),?_⟩
  refine sq7 ?_; intros; ext iH l0 h;obtain⟨⟨dx,hp⟩,_,w1,w2,h1,h2,_⟩:=id l0.pic;show(b9,kvs,hd,lp,fr0,l0.ld)
  show(ae,rs,hls,stl,l0.ll)
  obtain⟨b20,b12⟩:=l0.b;have pok:=l0.pok;show(af,p9,l0.p9,kvl,lp.len);show(af,rl,stl.len,s32,bg l0.ok);show(ap,BIG,Nx,Sk,eS (jj 4));show(Du,way,ew,∃ z,z=nb % 4)
  rw[<- ew];refine gn ?_; refine sq6 ?_; intros; obtain⟨sb,esb⟩:=xxp (nb / 4);ext iO f7 q0 hq0;generalize eu:cF H q0 GS=H1;ext qP s1 hq0 g1 hp1 mP;refine⟨mz,(jj 2),q0,_,_,wJ,rfl,rfl,bb g1,esb,mz,a,_,_,_,_,rfl,hp1,T.c_a,T.n_a5,lkH,(rp 0 iM),f7,wf⟩;have rb:=xa9 (nb / 8) (dS,0<iM);show(Du,r,er,∃ r,r=1+nb / 8 % iM)
  rw[<- er];have r1:1<=r:=aa
  have r2:r<=iM:=aa
  show(G9,jw H1 z wJ r,hz);show(af,s02,s1.trans s2,hp2,s02 _ _ hp);show(ap,gz,H2 z=some (.tup (xa5 mY)),g2,⟨mz,a,_,_,_,_,rfl,hp2,T.c_a,T.n_a8,lkW,(rp 0 ip),?_⟩);refine⟨mz,a,_,_,_,_,rfl,hp2,T.c_a,T.n_a5,lkH,(rp 0 iM),?_⟩;show(af,bx,xa9 (nb / 128) (dS,0<ip),bY,xa9 (nb / 4096) (dS,0<iM));show(rP,x,ex,∃ x,x=1+nb / 128 % ip)
  show(Du,y,ey,∃ y,y=1+nb / 4096 % iM)
  rw[<- ex,<- ey];show(af,hd2,s02 _ _ hd,lp2,lp.same s02)
  let Pm (σ':L2.St) (H':Hp):Prop:=∃ fr:Bool,zf/\(fr=true->x∉ps.map (·.x)/\y∉ps.map (·.y))/\σ'=[cV,eQ,fb,aX nb,aX way,bu z,aX x,aX y,some (.bl fr),none]
  show(gH,Pm,?_)
  .refine AR d hd2 lx hlx;refine xfd ((ps.map (·.x)).map V.int) (bF kvl) hd2 hlx aa (fun i k v z H2 R h1 h2 k2 r=>?_) (fun H3 e3 sA elA=>⟨103,d,ob,_,e3,nf,?_⟩)
   .obtain ⟨p,o,e1,e2,rfl,e3⟩:84:=lp2.get h1;ext MY d hd2 znW
   show(zjC,B0 H3,(DI,cx,ba false sA dJ rfl));rw[bW,xg7] at cx;have nx:x∉ps.map (·.x):=by simpa using cx
   show(af,hdA,sA _ _ hd2,lpA,lp2.same sA);refine AR d hdA ly hly;refine xfd ((ps.map (·.y)).map V.int) (bF kvl) hdA hly aa (fun i k v z H2 R h1 h2 k2 r=>?_) (fun H3 e3 sB elB=>⟨103,d,ob,_,e3,nf,?_⟩)
   .obtain ⟨p,o,e1,e2,rfl,e3⟩:84:=lpA.get h1;ext MY d hdA znO
   show(zjD,B0 H3,(ba,_,sA.trans sB,(aA,eS nx),rfl));rw[bW,xg7] at z;simpa using z
  rintro _ H3 (⟨fr,s3,free,rfl⟩:63);have s03:=s02.trans s3;show(rP,nm,enm,∃ nm,nm=ltr (nb / 65536 % 26))
  show(ap,isn,zC,zpQ,⟨mz,(jj 26),abc,_,_,rfl,rfl,aP,xn2 (wz).1 (wz).2,?_⟩);rw[zmE (nb / 65536 % 26)];have l3:=l0.same s03;show(af,hls3,s03 _ _ hls,sl3,pE s03);show(af,hd3,s03 _ _ hd,lp3,lp.same s03);show(af,hp3,s03 _ _ hp,gz3,jK gz);clear hp1 hp2 hd2 lp2 s02 hz gz g1 hq0;show(cR,(rN,∃ ps' ss',LSt t H0 H' a dp do_ d ls w' h' ps' ss'),?_,fun σ' H' ⟨ps',ss',st'⟩=>q H' ps' ss' st');ext qT; by_cases c1:way<2
  .have t1:vV (way<2):=decide_eq_true c1;by_cases c2:mY∈ss
   .show(zjl,(bT,ifP (by rw[mQ,xgc,yS c2]) ?_));ext nW; refine⟨a,dx,_,rfl,hp3,bM,z,_,0,_,rfl,rfl,UN,rfl,z,_,1,_,rfl,rfl,UN,rfl,a,dp,do_,ip,iM,ps,ss,sb,r,rfl,l3.pic,l3.sts,r1,r2,c2,zur⟩;show(mf,ko,hko,l3.sts);have t34:Tups H3 H4:=(jz,k4 _ _ (dQ hko) e);show(af,hls4,zpm,sl4,sl3.keep t34);show(dE,qX hls4,(gu,ls,_,.ref z,1,⟨126,2,xb5 mY,KC,ss.idxOf mY,rfl,rfl,hls4,xfr (t34 _ _ gz3),sl4.dv hls4,(cI,ao,ao,xr4 l0.ok.1 c2,?_)⟩));rw[show (IO).eraseIdx (ss.idxOf mY)=(rs.eraseIdx (ss.idxOf mY)).map V.ref by ext znn];show(aJ,ps,_,l3.seats k4 pic4 st4 ⟨l0.ok.1.filter _,ZJ qy s32,(mU,l0.ok.2.2 s (qv hs))⟩ (sl4.rm l0.ok.1 _))
   .show(zjl,tZ (by rw[mQ,xgc,tz c2]));show(Gf,(bT,ifP t1 ?_));ext nW; have hrow:ss.length<32:=by
     by_cases c32:ss.length<32
     .exact c32
     .show(dM,xos aa l0.ok aa mY r1 r2,c2)
    refine⟨a,dx,_,rfl,hp3,bM,z,_,0,_,rfl,rfl,UN,rfl,z,_,1,_,rfl,rfl,UN,rfl,a,dp,do_,ip,iM,ps,ss,sb,r,rfl,l3.pic,l3.sts,r1,r2,c2,hrow,zur⟩;show(mf,ko,hko,l3.sts);show(dO,t34,Tups H3 H4,zeb hko,hls4,zpm);refine⟨qX hls4,ls,_,_,rfl,rfl,hls4,nR,?_⟩;rw[show IO++[V.ref z]=(rs++[z]).map V.ref by rw[Zq]; rfl];show(cR,ps,ss++[mY],l3.seats k4 pic4 st4 (xJ ?_ E6) ((sl3.keep t34).snoc (t34 _ _ gz3)))
    .show(X1,l0.ok.1,c2 (Cs,Uz,e,e▸hx))
    .show(Ic,ss.length,32)
    .rcases Zw.mp hs with y|y
     .exact l0.ok.2.2 s y
     .rw [Zp.mp y];ext aO r1 r2
  .show(ap,t1,Kl (way<2),tz c1,tZ t1);show(Gf,tZ t1);by_cases c2:way=2
   .subst c2;show(Gf,(hW,ifP ao (au e0 he0)));generalize eu:fe H3 e0 []=H4;have s4:=su_e he0 eu;show(af,g4,ug_e eu,l4,l3.same s4);show(af,s04,s03.trans s4,hd4,iT hd3);cases ek:kvs with
    | nil =>
     rw[ek] at hd4;show(bN,⟨105,d,e0,_,rfl,rfl,hd4,g4,tZ rfl⟩,cq ?_ CD);ext qT; exact(hW,ifN ao ⟨ps,ss,l4⟩)
    | cons kv0 kvr =>
     have kn:kvs≠[]:=aD ek dJ
     have ke:zfn=true:=d7 ek
     clear ek;refine⟨105,d,e0,kvs,rfl,rfl,hd4,g4,(bT,ifP ke ?_)⟩;ext nW; refine⟨d,kvs,eA,rfl,hd4,lp.keys,au l5 hl5⟩;generalize eu:upd H4 l5 (.lst ((eA).map V.str))=H5;have s5:=su_e hl5 eu;show(af,g5,ug_e eu,l5',l4.same s5);show(af,s05,s04.trans s5,hd5,dP hd4);show(af,lp5,lp.same s05,hp5,s05 _ _ hp);have kpos:0<kvs.length:=List.length_pos_iff.mpr kn;show(ae,nm2,min,at2,xua (ns:=eA) (m:=nb / 65536) (n:=kvs.length) (by unfold xad; ext aK Za kvl) kpos);ext eG pt hpt min;show(af,hf,xdn pok.nn hpt,po,pok.ok pt hpt);show(dE,mz,⟨84,d,kvs,rfl,hd5,(rp uO (cE kvs.length)),⟨l5,_,_,mD,rfl,rfl,bb g5,at2,?_⟩⟩);show(ae,q0,ev,hq0,lp5.find hf);show(fD,kd,hkd,l5'.pic.pl)
     show(Gf,(cI,mz,jj 2,rfl,vy c3))
     .ext nW; refine⟨a,dx,_,rfl,hp5,bM,a,dp,do_,ip,iM,ps,pt.nm,pt,rfl,l5'.pic,po.nm,hf,aL H6 k6 pic6⟩;show(sM,hd6,k6 _ _ l0.ne hd5,zfH d hd6 ⟨104,kvs,kB,rY,hd6,rfl,ev,?_⟩);have kp:(iE,d,H6 c=some u,kX H6 d (.dK (xb8 kvs (.inr pt.nm)))):=fun c u nc e=>by
       ext bP nc e
      refine(cq,ss,l5'.pts k6 pic6 (fun c u nc _ e=>kp c u nc e) (uR,kp _ _ (xk e (uT l0.fr)) (k6 _ _ (xk e l0.fr.1) (l5'.s _ _ e))) xl ((lp5.drop pt.nm).keepP (df c p ?_)) ⟨?_,fun kv hk=>fr0.2 kv (qv hk)⟩ (pok.filt _) (ZJ qy p9))
      .have y:=k6 _ _ (dQ hkd) e;exact kp _ _ (ne_f y hd6) y
      .exact fr0.1.sublist (QD.map _)
     .refine cq ?_ CD;show(Ah,DI c4 ⟨ps,ss,l5'⟩);ext Id; obtain⟨nx,ny⟩:=free c4;show(ap,un,∀ p∈ps,p.nm≠pt.nm->p.x≠x/\p.y≠y,fun p hp' _=>⟨zrg,zrf⟩,⟨a,dx,_,rfl,hp5,bM,a,dp,do_,ip,iM,ps,pt,x,y,rfl,l5'.pic,pok.nn,po.nm,hf,aa,aa,aa,aa,un,aL H6 k6 pic6⟩);show(af,hd6,k6 _ _ l0.ne hd5,hq6,k6 _ _ (ne_f hq0 hkd) hq0);ext j3 nqd q0 d hq6 hd6;show(ap,dg6,DGet H6 d mD Ci,(bJ,ev,kI kB hd6),⟨d,_,rfl,dg6,⟨125,q0,_,0,0,rfl,rfl,hq6,rfl,?_⟩⟩);have g7:Gi H6 q0 C9 q0 (.lst C9):=xl;have hd7:Gi H6 q0 C9 d rQ:=(aD,jF nqd,hd6)
      have k7:(iE,q0,H6 c=some u,kX H6 q0 (.lst C9)):=fun c u nc e=>by
       ext bP nc e
      rw[cU ((ptV pt).set 0 Af) C9 rfl];revert g7 hd7 k7;generalize cF H6 q0 C9=H7;intro g7 hd7 k7;show(ap,dg7,DGet H7 d mD Ci,(bJ,ev,kI kB hd7),⟨d,_,rfl,dg7,⟨125,q0,_,1,1,rfl,rfl,g7,rfl,?_⟩⟩);rw[show (((DN,V.int x,pt.y,pt.sd,pt.lo,pt.hi):ag).set 1 (.int y))=ptV Hc from rfl];have k8:(iE,q0,H6 c=some u,kX H7 q0 (uo Hc)):=fun c u nc e=>by
       show(bP,nc,k7 _ _ nc e)
      have g8:fF H7 q0 (uo Hc) q0 (uo Hc):=xl;revert k8 g8;generalize upd H7 q0 (uo Hc)=H8;intro k8 g8;have fq:Cq q0:=by
       show(ae,kv,hk,e,Zg.mp (xh2 ev));exact fr0.2 kv hk q0 e
      refine(cq,ss,l5'.pts k6 pic6 (fun c u nc np e=>k8 c u (aA,np pt (by show(oW,z,hq6,e,(ZH.inj e).symm))) e) (uR,k8 _ _ (xk e fq) (k6 _ _ (xk e l0.fr.1) (l5'.s _ _ e))) (k8 _ _ (Z2 nqd) hd6) (Lp.mv (nm:=pt.nm) (x:=x) (y:=y) (fun c p nc e=>k8 _ _ nc (k6 _ _ (dQ hkd) e)) lp5 pok.nn fr0.1 ev (o4 p hp')) fr0 (xyx pok aa aa aa aa un) (fL p9));show(aK,xrg pok.nn hp' hpt e,g8)
   .refine (cq,hW (OY,fun e=>c2 (V.int.inj e),?_),CD);show(Gf,?_);show(wF,(hW,ite2 (c8 c3) (fun c3=>PY)),DI c4 PY,⟨d,_,rfl,kI oH hd3,_,rfl,ite2 (c8 c5) (fun c5=>PY)⟩,(eD,d,kvs,hd3,DI c6 PY));ext nW; obtain⟨nx,ny⟩:=free c4;have vn:Cj=none:=by simpa using c5
    have nn:RJ:=fun p hp' e=>by
     show(fD,q1,e1,lp.find (xdn pok.nn hp'));rw[e,vn] at e1;cases e1
    have c6:=of_decide_eq_true c6;refine⟨a,dx,_,rfl,hp3,bM,a,dp,do_,ip,iM,ps,nm,x,y, "both",1,iM,.non,rfl,l3.pic,.inl kL,isn,aa,aa,aa,aa,Pn,ao,aa,Y9 _,fun p hp'=>⟨nn p hp',zrg,zrf⟩,aa,aL H4 k4 pic4⟩;show(fD,kd,hkd,l3.pic.pl)
    show(af,hp4,k4 _ _ (ne_f hp3 hkd) hp3,hd4,k4 _ _ l0.ne hd3);refine⟨a,_,_,_,_,rfl,⟨46,hp4,T.c_a,T.n_a5,lkH,(nu leS5),au q5 hq5⟩⟩;generalize eu:cF H4 q5 (DN Af y "both" 1 iM)=H5;show(qP,s5,hq5,g5,hd5,dP hd4);refine(lN,d,wE oH hd5 (BIG aa));rw[xcp _ vn];have kp:(iE,d,H5 c=some u,kX H5 d (.dK (kvs++[lq oH q5]))):=fun c u nc e=>by
     ext bP nc e
    have lk:∀ c p,H5 c=some uD->(fF H5 d (.dK (kvs++[lq oH q5])) c uD):=(df,c,p,kp _ _ (dQ hd5) e);have lp4:Lp H4 ps kvs:=lp3.keepP (df,c,p,k4 _ _ (dQ hkd) e);show(ap,s04,Same H0 H4,(uR,k4 _ _ (xk e l0.fr.1) (l3.s _ _ e)),⟨ps++[Xu],ss,l3.pts k4 pic4 (fun c u nc _ e=>kp _ _ nc (s5 _ _ e)) (uR,kp _ _ (xk e (uT l0.fr)) (s5 _ _ (s04 _ _ e))) xl (((lp4.same s5).keepP lk).snoc (p:=Xu) (lk _ Xu g5)) (fr0.snoc lp4 s04 hq5 _) (pok.snoc ⟨isn,(EO,1<=x),pU x ip,(EO,1<=y),pU y iM,Pn,by show w6<=1; decide,pU w6 iM,Y9 _⟩ nn nx ny aa) (by rw[Zr]; show ps.length+1<=9; omega)⟩)
theorem xw6 {ss:av} (nd:ss.Nodup):∃ srt:av,yY/\O4:=by
 let le:Seat->Seat->Bool:=fun a b=>(a.1&&! b.1)||((d9 a.1 b.1)&&(bG (a.2<=b.2)))
 have tr:∀ a b c:Seat,le a b=true->le b c=true->le a c=true:=fun a b c=>by
  ext V5;obtain⟨c1,c2⟩:=c;cases a1<;>cases b1<;>cases c1<;>simp[le]<;>omega
 have tt:∀ a b:Seat,(le a b||le b a)=true:=fun a b=>by
  ext V5;cases a1<;>cases b1<;>simp[le]<;>omega
 show(af,pm,List.mergeSort_perm ss le,pw,List.pairwise_mergeSort tr tt ss);show(gH,ss.mergeSort le,pm);have nd':=pm.nodup_iff.mpr nd;refine (pw.and nd').imp fun {a b} k=>?_;obtain⟨k1,k2⟩:=k;ext V5;unfold xdb;cases a1<;>cases b1<;>simp[le] at k1 k2 ⊢<;>omega
theorem LSt.dr {t:Adr}{H0 H:Hp}{a dp do_ d ls:Addr}{w h:Nat}{ps:aw}{ss:av} (l:LSt t H0 H a dp do_ d ls w h ps ss):∃ srt,Dr t H a dp do_ w h ps ss srt:=by
 show(ae,srt,pm,lt,xw6 l.ok.1);exact⟨srt,l.pic,l.sts,l.ok,pm,lt,(fG,(l.pok.ok p hp).nm)⟩
theorem xvz (T:aV):FnOk true P w K mg base aU 12 t.f_law t.d_law Px (xk7 K):=by
 refine T.F_law.okn (k:=11) xg3 (aY E) (fun cdv A outer s H vs Q E hr h=>?_)
 .ext DC sc ns
 .ext Eb sc ns;refine⟨_,xh (KP (pC (ok_as T) hr T.g_as T.F_as.kp T.b_as (xg (pC (ok_a4 T) hr T.g_a4 T.F_a4.kp T.b_a4 BG) (xg (xo) (xg (xo) (oZ (xbs)))))) (iX 1 xg3.nd 2))
   (xh (pS 3 xg3.nd (pC (ok_at T) hr T.g_at T.F_at.kp T.b_at (fZ 1 (pC (ok_a4 T) hr T.g_a4 T.F_a4.kp T.b_a4 BG))))
   (xh (En (jY (pC (ok_am T) hr T.g_am T.F_am.kp T.b_am EG)))
   (xh (xbf ZB rfl (xjs rfl T.n_range (oZ (zpq (iK (oR qz) (xo))))) (pN 4 xg3.nd) (xh (xam (pC (ok_ah T) hr T.g_ah T.F_ah.kp T.b_ah (sE 1 2 (fZ 3 (pC wX hr T.g_t T.F_t.kp T.b_t (iK (MF xa4 0 jd) (xo)))))))
   (xD (xai (jY (pC (ok_am T) hr T.g_am T.F_am.kp T.b_am EG)) BW (x9)))))
   BW))),?_⟩
  refine sq5 ?_; intros; ext gX hs n63 q h;refine⟨sc,ns,0,rfl,hs,ao,ao,fun c0=>(jA,c0,fun H1 tp a dp do_ d w h ps kvs s1 htp pic hdt pok p8 hd lp ndp fd fdo fdp fr=>fW tp htp)⟩;have hs1:=Same.seqL s1 hs;show(af,w1,pic.w1,h1,pic.h1);show(af,w2,pic.w2,h2,pic.h2);show(jS,wn,Y6 (dS,0<=w));show(jS,hn,Y6 (dS,0<=h));show(o5,⟨sc,ns,1,rfl,hs1,ao,ao,fun c1=>⟨a,dp,do_,wn,hn,c1,ps,rfl,pic,hdt,fun H3 ls ss rs k2 fls pic2 st2 sok hls sl=>?_⟩⟩,l3,LSt t H H3 a dp do_ d ls wn hn ps ss,⟨(kU,k2 _ _ (xk e fdo) wy),pic2,st2,sok,pok,aa,j0 aa,⟨kvs,k2 _ _ (ne_f hd hdt) hd,Lp.keepL (jz,k2 _ _ (dQ hdt) e) lp,fr⟩,⟨rs,hls,sl⟩,ndp,fdp,fdo,fd,s1.free fls⟩)
  clear hd lp fr pic pok pic2 st2 sok hls sl k2 htp hdt
  show(qM,LSt t H H' a dp do_ d ls wn hn ps ss/\σ'=(zdU none),?_)
  .ext qT; obtain⟨srt,dr⟩:=l3.dr;show(on,kvs,hd,lp,l3.ld)
   show(ae,rs,hls,sl,l3.ll)
   exact⟨a,d,ls,dp,do_,wn,hn,kvs,ps,ss,srt,rs,rfl,dr,l3.pok,l3.b.1,l3.b.2,hd,lp,hls,sl,fun H4 s4=>(zh,ao,l3.same s4)⟩
  ext tE H4 l4;ext GP; refine⟨sc,_,rfl,.inl (Same.seqL l4.s hs),_,_,rfl,2,_,rfl,⟨ao,ao,?_,?_⟩,?_⟩
  .rw [Za];ext iG
  .rw [Za];ext iG
  rw[Za]
  show(Xi,∃ ps ss,LSt t H H5 a dp do_ d ls wn hn ps ss/\∃ v4:bS,Z=(zdU v4))
  show(zdk,⟨ps,ss,l4,_,rfl⟩)
  .rintro i Z H5 hi (⟨ps,ss,l5,⟨v4,rfl⟩⟩:82);ext zsB; have il:2+i<ns.length:=by
    split at hi<;>omega
   have hat:atI (ns.map V.int) (2+dD)=some (.int ns[2+i]):=by
    rw[(dS,2+dD=(dW,2+i))];exact xea (xR,Zb il)
   refine⟨sc,_,_,.int ns[2+i],rfl,rfl,Same.seqL l5.s hs,hat,ns[2+i],0,rfl,ao,fun m m0=>⟨H,a,dp,do_,d,ls,wn,hn,ps,ss,m,rfl,l5,cu H6 ps6 ss6 l6⟩⟩
   show(qM,LSt t H H' a dp do_ d ls wn hn ps6 ss6/\σ'=(zdU,aX (2+dD)),?_)
   .obtain ⟨srt,dr⟩:=l6.dr;show(on,kvs,hd,lp,l6.ld)
    show(ae,rs,hls,sl,l6.ll)
    exact⟨a,d,ls,dp,do_,wn,hn,kvs,ps6,ss6,srt,rs,rfl,dr,l6.pok,l6.b.1,l6.b.2,hd,lp,hls,sl,fun H7 s7=>(zh,ao,l6.same s7)⟩
   ext tE H7 l7;exact⟨ps6,ss6,l7,_,rfl⟩
  .rintro Z H5 (⟨ps,ss,l5,⟨v4,rfl⟩⟩:82);exact q _
#check _
#check S54
-- the names of the twins of whole trees and heaps are xb9 here,so that the head makes no such twins (they are what makes its compiled file large); see NOTE.md
namespace PySem.W.Fast
def tw17135596910185299271:=Nat
def tw12534447680854872619:=Nat
def tw13823509456282468861:=Nat
def tw177542121633442919:=Nat
def tw5264507781440304822:=Nat
def tw18004778162948364487:=Nat
def tw12288650836273284773:=Nat
def tw9212839314674958885:=Nat
def tw11198949258035209965:=Nat
def tw4113940113891449718:=Nat
def tw15914662496059098135:=Nat
def tw17407436856086482339:=Nat
def tw11790413495159412733:=Nat
def tw8051829606420774072:=Nat
def tw6136751075551387534:=Nat
def tw5923488508995801820:=Nat
def tw4727136019334096367:=Nat
def tw18091487700198087529:=Nat
def tw1072853512284977395:=Nat
def tw7438864661245009727:=Nat
def tw5285558378166367847:=Nat
def tw735042167609751431:=Nat
def tw1889789121891387905:=Nat
def tw14951847580184191735:=Nat
def tw4588352189387014776:=Nat
def tw13888832902900591150:=Nat
def tw3131903825547839980:=Nat
def tw13886707710499978243:=Nat
def tw1310791419400217467:=Nat
def tw17440061654523538916:=Nat
def tw8370736084261990118:=Nat
def tw16339242742006052927:=Nat
def tw5727539069706710315:=Nat
def tw14933465405649456614:=Nat
def tw10137731106527917532:=Nat
def tw2455103682179418155:=Nat
def tw8072939314082411300:=Nat
def tw17519767399854478127:=Nat
def tw4321262874244954694:=Nat
def tw3038446212979891997:=Nat
def tw17096151702092081199:=Nat
def tw4125417197025007640:=Nat
def tw15427226428977757160:=Nat
def tw4285847089558298725:=Nat
def tw5831044860251544220:=Nat
def tw16060377174494348556:=Nat
def tw4553055992889276705:=Nat
def tw5042772693931988568:=Nat
def tw2539631520734961794:=Nat
def tw3252406224296197664:=Nat
def tw1979458034827888442:=Nat
def tw10141380643653269981:=Nat
def tw14746673221149357823:=Nat
def tw12738407749254108639:=Nat
def tw10900045099317443785:=Nat
def tw14974066975726084196:=Nat
def tw502625157151809557:=Nat
def tw18429609438378117298:=Nat
def tw9416314437742812717:=Nat
def tw1196015506710535491:=Nat
def tw17459874875496915137:=Nat
def tw8793886808369487811:=Nat
def tw777255138659535379:=Nat
def tw18324401832122244776:=Nat
def tw18241521048304232113:=Nat
def tw12241212984717491967:=Nat
def tw18152410686232367097:=Nat
def tw4421811450890885924:=Nat
def tw17548366894516691320:=Nat
def tw4394310571131334939:=Nat
def tw18120831554503146744:=Nat
def tw8692513467182553598:=Nat
def tw9395311218537546457:=Nat
def tw8753587223237759807:=Nat
def tw14324943555085704509:=Nat
def tw6071658773916372446:=Nat
def tw4320786626902632807:=Nat
def tw17529814927834307180:=Nat
def tw2967113899538068210:=Nat
def tw826855214401564573:=Nat
def tw10775532283708685158:=Nat
def tw18063413087683677108:=Nat
def tw13739002281769347659:=Nat
def tw16013138669771134840:=Nat
def tw16638823143435089321:=Nat
def tw11016142374041872732:=Nat
def tw4722778364666967901:=Nat
def tw18322170119902685897:=Nat
def tw6685481784394118497:=Nat
def tw13769267571787341503:=Nat
def tw6672509869768417057:=Nat
def tw14163674271107894176:=Nat
def tw10039587866979086043:=Nat
def tw16437099022688615949:=Nat
def tw12594888656704943906:=Nat
def tw13098270709854774287:=Nat
def tw5383305300924601874:=Nat
def tw15233609866489776900:=Nat
def tw11737269683567638650:=Nat
def tw7666854370476422937:=Nat
def tw10523897332805649163:=Nat
def tw10743258372242889288:=Nat
def tw6106359224335601612:=Nat
def tw14223644189846550608:=Nat
def tw16095896600853693457:=Nat
def tw16028144742179050103:=Nat
def tw100163838240804667:=Nat
def tw1570931775375358659:=Nat
def tw4918689850799193799:=Nat
def tw736897613776419674:=Nat
def tw9590376324420022463:=Nat
def tw12193103311667620106:=Nat
def tw6510416365247431279:=Nat
def tw17896041477139331615:=Nat
def tw4856004138934107302:=Nat
def tw10395089743619410051:=Nat
def tw12671559111762750533:=Nat
def tw3622229458445227330:=Nat
def tw15181899404513095183:=Nat
def tw15080504107428912626:=Nat
def tw8866418629841291437:=Nat
def tw17673590703755905458:=Nat
def tw17569857156359230576:=Nat
def tw16640045752271548127:=Nat
def tw12490913206725881900:=Nat
def tw14834004825843436768:=Nat
def tw11887403279978007209:=Nat
def tw14768298298290443451:=Nat
def tw8317657780108180420:=Nat
def tw8226222520921268973:=Nat
def tw10578546711932042007:=Nat
def tw6154027226615997803:=Nat
def tw7813681898965235990:=Nat
def tw6190931041395787901:=Nat
def tw2353278508421208813:=Nat
def tw6427934679686453718:=Nat
def tw11212636052976540887:=Nat
def tw10350299242387200890:=Nat
def tw15489025527511740151:=Nat
def tw10776317229400534930:=Nat
def tw8991870518196819348:=Nat
def tw13951009239843476561:=Nat
def tw18416241188940176769:=Nat
def tw6210118407311296214:=Nat
def tw17978206981754105023:=Nat
def tw1033659359198146369:=Nat
def tw9870770012353505007:=Nat
def tw11191485737265756230:=Nat
def tw11260410693940707255:=Nat
def tw235259480993925176:=Nat
def tw5137469297936307001:=Nat
def tw15017453367289023790:=Nat
def tw3976661858896848717:=Nat
def tw10682811163596574405:=Nat
def tw12067216795490202157:=Nat
def tw17087548991185207535:=Nat
def tw7085397560630080520:=Nat
def tw9963848693368645203:=Nat
def tw18319003758873079598:=Nat
def tw9196935616135359139:=Nat
def tw6547101669939409143:=Nat
def tw8285590719023018344:=Nat
def tw2617896559221556744:=Nat
def tw12263276085655503080:=Nat
def tw6968097245576537654:=Nat
def tw17384966282471972212:=Nat
def tw10895129578416650954:=Nat
def tw11965668854195361415:=Nat
def tw1067387584602161803:=Nat
def tw12291150439875199891:=Nat
def tw4140988577067253376:=Nat
def tw15785641850829224998:=Nat
def tw16933447181073636890:=Nat
def tw13142283402604724175:=Nat
def tw2855221983394013238:=Nat
def tw15310802222166633293:=Nat
def tw7149870727872372174:=Nat
def tw10734626410881231968:=Nat
def tw12040871799749039896:=Nat
def tw2477827369100252809:=Nat
def tw16583383756379900469:=Nat
def tw15334573475957170367:=Nat
def tw10420477860454624753:=Nat
def tw11524245762982174660:=Nat
def tw2181700255799099176:=Nat
def tw9737938280844706205:=Nat
def tw13929726814618521726:=Nat
def tw2836162037851759036:=Nat
def tw12976867704009615477:=Nat
def tw120562286330051869:=Nat
def tw11282732482490259819:=Nat
def tw13057476445716347592:=Nat
def tw2466245119610403840:=Nat
def tw12371506940262164246:=Nat
def tw2772636299471883060:=Nat
def tw9576342113626696008:=Nat
def tw12103799111834595567:=Nat
def tw14352960179012900675:=Nat
def tw2885266114382460314:=Nat
def tw2430906524498583757:=Nat
def tw16449063598406881218:=Nat
def tw8566665334957668038:=Nat
def tw892316382002988287:=Nat
def tw9334475758655523796:=Nat
def tw15057785624631020032:=Nat
def tw7698919465915406741:=Nat
def tw14665968176728856686:=Nat
def tw5231222196822468726:=Nat
def tw11021763041398843654:=Nat
def tw12803412313177171044:=Nat
def tw10108747565592157277:=Nat
def tw7781150652197305192:=Nat
def tw15107915904705370322:=Nat
def tw15841204636599008186:=Nat
def tw17020516015009688721:=Nat
def tw9890651316662544484:=Nat
def tw16530243179404349672:=Nat
def tw976386044090442559:=Nat
def tw9031545556658514861:=Nat
def tw9205757560060436897:=Nat
def tw10962920477548370175:=Nat
def tw12657874926441358116:=Nat
def tw10718939739143413755:=Nat
def tw8986049448349330119:=Nat
def tw15654536996847328669:=Nat
def tw14315996932086540050:=Nat
def tw3753262355435610022:=Nat
def tw3125160438222113726:=Nat
def tw2335148385780183984:=Nat
def tw7898211451610767780:=Nat
def tw13507249135313032196:=Nat
def tw1880237851226704210:=Nat
def tw15058074478052633078:=Nat
def tw2764580415737214553:=Nat
def tw15187097758576625781:=Nat
def tw14070726614555984385:=Nat
def tw9879663167093766335:=Nat
def tw6333868474191536840:=Nat
def tw6775193524296191394:=Nat
def tw1285967151560887457:=Nat
def tw12437652328672538840:=Nat
def tw1461119567286989550:=Nat
def tw16475119030822179794:=Nat
def tw16420025027474373821:=Nat
def tw8363808299952689841:=Nat
def tw9059449935689659334:=Nat
def tw11093621336437145060:=Nat
def tw9263778839680708466:=Nat
def tw2436581537116403778:=Nat
def tw8597391063719031478:=Nat
def tw1588864005377099726:=Nat
def tw8464239198916977199:=Nat
def tw6562371578540023411:=Nat
def tw445535648956231498:=Nat
def tw10089851621947137035:=Nat
def tw4486498735496852801:=Nat
def tw3713426169750099194:=Nat
def tw10238051223705458792:=Nat
def tw12381568227539819359:=Nat
def tw9086970710296642056:=Nat
def tw14909035007474231706:=Nat
def tw10523285588782209626:=Nat
def tw3108918180909288869:=Nat
def tw11769381613261033500:=Nat
def tw15121078631268457808:=Nat
def tw4645516862142808288:=Nat
def tw4251659506405145082:=Nat
def tw4117700856026327498:=Nat
def tw9544225271738244733:=Nat
def tw14936657882685358518:=Nat
def tw12451512885942628548:=Nat
def tw8589863377915114323:=Nat
def tw11221959435969711426:=Nat
def tw12913540632940500576:=Nat
def tw7881656598625802398:=Nat
def tw11560408780042072114:=Nat
def tw15731355608567570003:=Nat
def tw9095862542141961290:=Nat
def tw9150234086891771887:=Nat
def tw4541532529785119710:=Nat
def tw14920711861452005287:=Nat
def tw15659495028097674853:=Nat
def tw4759164808424394424:=Nat
def tw5507854930967698236:=Nat
def tw17236591839290473256:=Nat
def tw107645759146326566:=Nat
def tw5688444057455057175:=Nat
def tw2381215740832032610:=Nat
def tw2750404117541355790:=Nat
def tw12385583734155264237:=Nat
def tw9448046375769406559:=Nat
def tw1737708658354416569:=Nat
def tw6694665169324861761:=Nat
def tw6810002352756648601:=Nat
def tw4664402150818876862:=Nat
def tw4703357342711705364:=Nat
def tw10953117346271619665:=Nat
def tw11444450044559954987:=Nat
def tw4457170501049507570:=Nat
def tw15971819898136129666:=Nat
def tw12684168196761632794:=Nat
def tw5476531032066065011:=Nat
def tw5011071686356345084:=Nat
def tw5665346173115313118:=Nat
def tw17796505483919201215:=Nat
def tw16163633377016653421:=Nat
def tw10079015463932011897:=Nat
def tw2356911144876829671:=Nat
def tw12430477435949192914:=Nat
def tw291187103711067418:=Nat
def tw335646765062242247:=Nat
def tw16906799962194538004:=Nat
def tw8567283218174566616:=Nat
def tw7159438143761508713:=Nat
def tw14402438517112962351:=Nat
def tw14773142385611950814:=Nat
def tw14637571675314544712:=Nat
def tw14944318665221202875:=Nat
def tw17766220283310259932:=Nat
def tw1448662637981728493:=Nat
def tw227654296917651854:=Nat
def tw13481391669134612378:=Nat
def tw10341751185971739868:=Nat
def tw1276218182266876264:=Nat
def tw16219981900246979899:=Nat
def tw7578313583692146734:=Nat
def tw17229648662799259900:=Nat
def tw14709931686017362863:=Nat
def tw14751310083231259549:=Nat
def tw14382805457945496387:=Nat
def tw12382288896582911741:=Nat
def tw8147407450965389301:=Nat
def tw8618349789469535199:=Nat
def tw11454769720690127160:=Nat
def tw8133448990358482660:=Nat
def tw5319086013518270596:=Nat
def tw2751085639893466339:=Nat
def tw3194449411826245839:=Nat
def tw16235244821409179895:=Nat
def tw16021390399737718760:=Nat
def tw17409327495539735190:=Nat
def tw17105473076369983958:=Nat
def tw3035911593692807727:=Nat
def tw3551007359102799105:=Nat
def tw12794267525178339993:=Nat
def tw7273184305588109188:=Nat
def tw1583210564139627919:=Nat
def tw8126325939404692953:=Nat
def tw10064393055253901084:=Nat
def tw4474044044157278506:=Nat
def tw14949328537413061664:=Nat
def tw7304630246576552915:=Nat
def tw12760837345467364352:=Nat
def tw10722158945029900282:=Nat
def tw1140104530658323856:=Nat
def tw12261163337692863929:=Nat
def tw8620091361008371080:=Nat
def tw16639505826408175715:=Nat
def tw9337434565977156961:=Nat
def tw12570533251131015377:=Nat
def tw10214147306915864572:=Nat
def tw13397591819728504072:=Nat
def tw14949339732250315260:=Nat
def tw14441902726398732969:=Nat
def tw2422476103015331625:=Nat
def tw11341148342159756371:=Nat
def tw10686277865833887812:=Nat
def tw6489483615233522994:=Nat
def tw147992414869973184:=Nat
def tw18011897356305787040:=Nat
def tw10852815742532729040:=Nat
def tw14474699361454333147:=Nat
def tw7966360081694292077:=Nat
def tw8731822055131869860:=Nat
def tw11841281437084968966:=Nat
def tw2661771960741353116:=Nat
def tw11727095715016396977:=Nat
def tw14004601634178913605:=Nat
def tw14580638389438363532:=Nat
def tw2395153562900413928:=Nat
def tw15905716110829034569:=Nat
def tw6531276535693887641:=Nat
def tw15776496318853289206:=Nat
def tw13631160116505048136:=Nat
def tw3820659905244128830:=Nat
def tw8598162288940427143:=Nat
def tw315473568298351950:=Nat
def tw2051609019738542329:=Nat
def tw11306467602234997647:=Nat
def tw7810151111560658152:=Nat
def tw13447024850683261563:=Nat
def tw14304573771553468919:=Nat
def tw2957902426881382708:=Nat
def tw17630148174971404155:=Nat
def tw13280274081827249477:=Nat
def tw15482525301992620968:=Nat
def tw507394794096499533:=Nat
def tw16131101164389451889:=Nat
def tw11175115760523262856:=Nat
def tw17933764436005812407:=Nat
def tw12199711407692770112:=Nat
def tw8337241242215839288:=Nat
def tw13359914898468358940:=Nat
def tw4976973969067065249:=Nat
def tw12264566196369959942:=Nat
def tw7829295175631695759:=Nat
def tw4202985021864192479:=Nat
def tw12472961956668184152:=Nat
def tw15941978241720100746:=Nat
def tw15323183408674275448:=Nat
def tw18081736483054234388:=Nat
def tw4974661822167247606:=Nat
def tw11837438337566431294:=Nat
def tw10762369376866346472:=Nat
def tw4059073688108672528:=Nat
def tw8898423118882546853:=Nat
def tw5545691904325525236:=Nat
def tw1454117300077914975:=Nat
def tw8582160634610391786:=Nat
def tw13732162567608497085:=Nat
def tw13630566271352081792:=Nat
def tw16716297540786301053:=Nat
def tw16926672538667614762:=Nat
def tw5558697404571829587:=Nat
def tw733531149158370154:=Nat
def tw13409033850328477414:=Nat
def tw40843025053251727:=Nat
def tw7925390496111331008:=Nat
def tw17977616218818240410:=Nat
def tw4493516078060790012:=Nat
def tw6552874884838157645:=Nat
def tw10261598327795577428:=Nat
def tw13591934393806334117:=Nat
def tw7421066485951578330:=Nat
def tw9246368754077933332:=Nat
def tw5267073505428453663:=Nat
def tw3568682496291445722:=Nat
def tw6968643589901347224:=Nat
def tw6923892887143951990:=Nat
def tw9684654747410154640:=Nat
def tw2853074529822545571:=Nat
def tw7749215821758930557:=Nat
def tw13278378930007759752:=Nat
def tw9516070306627717034:=Nat
def tw58713156098839244:=Nat
def tw5699339602694443466:=Nat
def tw990157513933513043:=Nat
def tw16513744461586534970:=Nat
def tw66798886509193738:=Nat
def tw17602741965182611506:=Nat
def tw11762153293493838371:=Nat
def tw10838745840105521009:=Nat
def tw5460247356340568233:=Nat
def tw1926980340579562461:=Nat
def tw791164136114228187:=Nat
def tw16503745735963838546:=Nat
def tw15580675275406258800:=Nat
def tw5494698670722183682:=Nat
def tw8617717012512575641:=Nat
def tw17253482493675136074:=Nat
def tw2253343775285777470:=Nat
def tw15301740633690335020:=Nat
def tw14761730162636063938:=Nat
def tw14120264722962884409:=Nat
def tw7103884659222507480:=Nat
def tw12581021941102709932:=Nat
def tw18403290898523757679:=Nat
def tw6461722558576878279:=Nat
def tw17598596409230032016:=Nat
def tw11796471723562317035:=Nat
def tw17315194057722395617:=Nat
def tw7653043648791955553:=Nat
def tw12835151247205361719:=Nat
def tw17757736901338773234:=Nat
def tw1771852403865915461:=Nat
def tw14110294384520791893:=Nat
def tw12112589957656825548:=Nat
def tw13225069317407603588:=Nat
def tw8865281357189298482:=Nat
def tw16842182240885480437:=Nat
def tw16059888395015889375:=Nat
def tw13082218682132437370:=Nat
def tw3113937666985238089:=Nat
def tw9355436962960177998:=Nat
def tw6655449298580229430:=Nat
def tw8888263725531491322:=Nat
def tw2389987348114709895:=Nat
def tw10783918489834408989:=Nat
def tw6212249702806755238:=Nat
def tw12923361727875758491:=Nat
def tw3920161510024174278:=Nat
def tw11229046521310466184:=Nat
def tw3904238341699133873:=Nat
def tw2515675558681158621:=Nat
def tw17848102465800571645:=Nat
def tw296435534281504277:=Nat
def tw4956252753760722711:=Nat
def tw16386436488300240654:=Nat
def tw12170382819331869463:=Nat
def tw10740219606504463226:=Nat
def tw8920013144269895808:=Nat
def tw10023362753631474582:=Nat
def tw11665748348368083233:=Nat
def tw4759738302896959539:=Nat
def tw8346714659871138809:=Nat
def tw7138354000258741759:=Nat
def tw17616460582672718022:=Nat
def tw11743024106049562962:=Nat
def tw15885610905596400067:=Nat
def tw5826108845021265233:=Nat
def tw2388745374434944641:=Nat
def tw858387806256000984:=Nat
def tw13763005477876004717:=Nat
def tw17490928631087806139:=Nat
def tw1836640550622331129:=Nat
def tw1785126828866130549:=Nat
def tw3411457588023995192:=Nat
def tw7343467370845430034:=Nat
def tw4441949663666144887:=Nat
def tw12023324603985894618:=Nat
def tw10564443532124970632:=Nat
def tw12302594487737200326:=Nat
def tw14999471043942053169:=Nat
def tw11158100155361537901:=Nat
def tw4565278060929722918:=Nat
def tw13238267889569502556:=Nat
def tw14406292685651971663:=Nat
def tw6346070031290153727:=Nat
def tw8457421102812661878:=Nat
def tw10037758908907298806:=Nat
def tw9874330177007494629:=Nat
def tw12851882574072521854:=Nat
def tw1216791220849344667:=Nat
def tw6639491746375404387:=Nat
def tw6239298202628084814:=Nat
def tw1196063806827878984:=Nat
def tw11300394625149057991:=Nat
def tw685528797232181947:=Nat
def tw10746746231865694923:=Nat
def tw18346931843289539370:=Nat
def tw1371791931878745280:=Nat
def tw18398870400188873307:=Nat
def tw5806697851787865924:=Nat
def tw10286813180310553103:=Nat
def tw1641892993096218343:=Nat
def tw6127406022509353137:=Nat
def tw12817196590216928947:=Nat
def tw14713393751924815575:=Nat
def tw12526521094466135568:=Nat
def tw8624069320586043161:=Nat
def tw7377101757842386830:=Nat
def tw4133736779225882889:=Nat
def tw10546857773942556604:=Nat
def tw2982789721214344085:=Nat
def tw5891647297505162984:=Nat
def tw5405699420081298422:=Nat
def tw14311037200186798470:=Nat
def tw1699803515510395991:=Nat
def tw13973054318523086266:=Nat
def tw7425930481507642445:=Nat
def tw5207741742880849569:=Nat
def tw3515817975305660304:=Nat
def tw2752348871280340752:=Nat
def tw16171855687141324639:=Nat
def tw2021117981247028099:=Nat
def tw3661679236444140298:=Nat
def tw16549826820346282479:=Nat
def tw17238087481563792740:=Nat
def tw15390486561285400875:=Nat
def tw13488684516131765945:=Nat
def tw3745411412871778787:=Nat
def tw9507246730186448599:=Nat
def tw12084180722922981723:=Nat
def tw17936313673532818799:=Nat
def tw14182572633911911669:=Nat
def tw8881577326436685416:=Nat
def tw7847655459226377621:=Nat
def tw13132581772378226977:=Nat
def tw9695078716313048870:=Nat
def tw9990853807926808838:=Nat
def tw16084876876155608925:=Nat
def tw14834649608149026778:=Nat
def tw3052523581985988532:=Nat
def tw6800054551934338108:=Nat
def tw15645284138131662490:=Nat
def tw15036171243669672463:=Nat
def tw13859050330173874862:=Nat
def tw11941477523076966789:=Nat
def tw7205671772724805419:=Nat
def tw11834899402210629166:=Nat
def tw13263018455371929116:=Nat
def tw5751035266825727338:=Nat
def tw12810155380725222426:=Nat
def tw7704841770123464087:=Nat
def tw1896867398187151865:=Nat
def tw11491763175752368205:=Nat
def tw2870349725602328287:=Nat
def tw17199212763389468048:=Nat
def tw10772432194921396686:=Nat
def tw1642531593375665:=Nat
def tw14524209509623925111:=Nat
def tw10022038194114031646:=Nat
def tw10563241500398737451:=Nat
def tw8275841916359318206:=Nat
def tw15975524814427170152:=Nat
def tw7182154196901993638:=Nat
def tw297614795898225659:=Nat
def tw15321729401922343068:=Nat
def tw15144957257832716917:=Nat
def tw10079895766651365287:=Nat
def tw11398694801226746524:=Nat
def tw7407467444447866954:=Nat
def tw14955794631800680046:=Nat
def tw3344060081539813845:=Nat
def tw16925757697682714393:=Nat
def tw6612177787975265781:=Nat
def tw2757909430023429613:=Nat
def tw11025707591627710151:=Nat
def tw2178876512065189557:=Nat
def tw9140114185665480826:=Nat
def tw2053413910667930279:=Nat
def tw842572202559777898:=Nat
def tw12848293105614485040:=Nat
def tw9173097021529608911:=Nat
def tw17220899232287155747:=Nat
def tw11534064782630474104:=Nat
def tw723804046517912884:=Nat
def tw1280783924283980242:=Nat
def tw16506666227755158874:=Nat
def tw9386886677473886522:=Nat
def tw13285720106706502633:=Nat
def tw9325780169891693581:=Nat
def tw6756828071160222168:=Nat
def tw12366453323751945172:=Nat
def tw838941950048579217:=Nat
def tw15664724935420845948:=Nat
def tw2047307377379884137:=Nat
def tw4752037744529053514:=Nat
def tw5899904363196078653:=Nat
def tw1711883584645105486:=Nat
def tw11502541427087681421:=Nat
def tw15367396651261644253:=Nat
def tw7379731750756696609:=Nat
def tw14997586896459260945:=Nat
def tw6840887693433872655:=Nat
def tw6130741990927498343:=Nat
def tw17449645765963486341:=Nat
def tw15628636477771331533:=Nat
def tw4674213955439836805:=Nat
def tw2760055941218847636:=Nat
def tw9231546945743522278:=Nat
def tw192788246280411042:=Nat
def tw9586448169422754445:=Nat
def tw15348408012682499392:=Nat
def tw12214573932108050300:=Nat
def tw3591852566932637727:=Nat
def tw5189726410772111144:=Nat
def tw10490836383981166929:=Nat
def tw16225734161942540651:=Nat
def tw16104515180019944048:=Nat
def tw3517344263584470156:=Nat
def tw7833182448310503953:=Nat
def tw17377735912693039160:=Nat
def tw17447169677225209484:=Nat
def tw6953376218826213342:=Nat
def tw4946755277790920521:=Nat
def tw11602440033860115196:=Nat
def tw840583454869814013:=Nat
def tw2592424743981225579:=Nat
def tw6839894819385602603:=Nat
def tw9966773648251855494:=Nat
def tw7619465486603520607:=Nat
def tw6891395861621233981:=Nat
def tw2306463067194670526:=Nat
def tw911880339789919218:=Nat
def tw10561561949272241102:=Nat
def tw14271719605429254775:=Nat
def tw11764127535361651496:=Nat
def tw4212729566659738133:=Nat
def tw14076741444173516668:=Nat
def tw17264714554910952213:=Nat
def tw12533862977482068419:=Nat
def tw10463354815904516786:=Nat
def tw9892291076971730354:=Nat
def tw3742089741924273226:=Nat
def tw6087620440974973009:=Nat
def tw162642910936283870:=Nat
def tw2598065396646783067:=Nat
def tw2515593889910893981:=Nat
def tw16541065456346050694:=Nat
def tw3235527183258688570:=Nat
def tw10500125447697430472:=Nat
def tw10230417823086753666:=Nat
def tw7913570016722421009:=Nat
def tw14932725619651664451:=Nat
def tw12662957387932462576:=Nat
def tw16417344405210123579:=Nat
def tw77034811393949964:=Nat
def tw13664834308882232087:=Nat
def tw16207141724623643531:=Nat
def tw10495073672388358146:=Nat
def tw5905357953089520412:=Nat
def tw9385188110458128235:=Nat
def tw10680553856560662099:=Nat
def tw15808366460525333890:=Nat
def tw5548107510825075391:=Nat
def tw11191245301512087723:=Nat
def tw13809755111333313346:=Nat
def tw403299611899922738:=Nat
def tw16026668960305057820:=Nat
def tw4332947665081828712:=Nat
def tw12736794668082085210:=Nat
def tw3583051912189384640:=Nat
def tw17867898392941193761:=Nat
def tw12131061016322717600:=Nat
def tw2979679992977811020:=Nat
def tw5062848845031712769:=Nat
def tw11736134788572730609:=Nat
def tw13030817420918477233:=Nat
def tw6009046484520294312:=Nat
def tw6656954923257772215:=Nat
def tw16473650259007919729:=Nat
def tw6656939315322195134:=Nat
def tw7081379504529600725:=Nat
def tw17234358461541823995:=Nat
def tw4059879315784417469:=Nat
def tw6633473406584862830:=Nat
def tw11548848073355605195:=Nat
def tw1287425401059938017:=Nat
def tw3704429355017765955:=Nat
def tw15690730512740928335:=Nat
def tw7814396532581550180:=Nat
def tw3745355600703512269:=Nat
def tw14660613363050912803:=Nat
def tw18027639898047884540:=Nat
def tw6247423709609862833:=Nat
def tw7613198240766419043:=Nat
def tw18147764707949622146:=Nat
def tw7508743981609627110:=Nat
def tw538779602846296518:=Nat
def tw11067914356681593130:=Nat
def tw17201903422097174617:=Nat
def tw2288995256178390373:=Nat
def tw10585544296035493866:=Nat
def tw4571152317320648137:=Nat
def tw15609122110950680587:=Nat
def tw10774119119872833582:=Nat
def tw5283094136152932680:=Nat
def tw5060065149762490653:=Nat
def tw13485774555687312125:=Nat
def tw1382234601319042632:=Nat
def tw16353396117296037322:=Nat
def tw7217937828741868528:=Nat
def tw10897194332203458336:=Nat
def tw3011705714169129316:=Nat
def tw3477889114623625704:=Nat
def tw9525863052676182817:=Nat
def tw9423449961784401942:=Nat
def tw14833869588975525296:=Nat
def tw13620663754210505881:=Nat
def tw11815387855820709374:=Nat
def tw6775789353871478527:=Nat
def tw2323095353458229079:=Nat
def tw17641149834818410591:=Nat
def tw9386132369995932651:=Nat
def tw13859480416920329086:=Nat
def tw16934966921310113466:=Nat
def tw15160223479913919974:=Nat
def tw12412240432945846788:=Nat
def tw13203387325933304450:=Nat
def tw3517161356560180207:=Nat
def tw16939041945888900853:=Nat
def tw5652703152088205161:=Nat
def tw6035531762459585172:=Nat
def tw6284987189832675389:=Nat
def tw13001766178786727193:=Nat
def tw16428097393351381254:=Nat
def tw14095307713337417321:=Nat
def tw1965268243540149094:=Nat
def tw10042146380806173086:=Nat
def tw387075063288229387:=Nat
def tw5630126277726482233:=Nat
def tw13893542267406418854:=Nat
def tw14193338421670955092:=Nat
def tw3732811680621843580:=Nat
def tw5341508077810266361:=Nat
def tw8824076164216612130:=Nat
def tw11443421295550563238:=Nat
def tw5620392958027287486:=Nat
def tw13099848126489721353:=Nat
def tw3433866847993758687:=Nat
def tw2301108567074885047:=Nat
def tw548553470259603555:=Nat
def tw17704840703881818394:=Nat
def tw4218717943100240417:=Nat
def tw5416304801477138070:=Nat
def tw17903648376386069064:=Nat
def tw15755302102811946471:=Nat
def tw7430486942656934844:=Nat
def tw8329751668028009053:=Nat
def tw1623679880309830416:=Nat
def tw13256236604351213443:=Nat
def tw12205734933502348156:=Nat
def tw9911584776071279744:=Nat
def tw11129237612629152704:=Nat
def tw17210107177817257969:=Nat
def tw7189500741147086477:=Nat
def tw3100011078011122542:=Nat
def tw3137473276191804861:=Nat
def tw12124692097721452360:=Nat
def tw15366224500394108113:=Nat
def tw11521920747411780141:=Nat
def tw18366803861131964542:=Nat
def tw11356219244146506258:=Nat
def tw8101914934789417234:=Nat
def tw11611424598651732837:=Nat
def tw17649588813680122456:=Nat
def tw6156840000690190377:=Nat
def tw12322573482558323452:=Nat
def tw6585769506114855319:=Nat
def tw14251392653727852778:=Nat
def tw10505626336561773429:=Nat
def tw6514845474264996965:=Nat
def tw13624770714799443022:=Nat
def tw6543713011893292172:=Nat
def tw14809050349827912312:=Nat
def tw5382945955899219280:=Nat
def tw3833314764637453802:=Nat
def tw8359367084720924207:=Nat
def tw3226851560376381210:=Nat
def tw8194506812835888468:=Nat
def tw11774423120882697905:=Nat
def tw9627721069182302785:=Nat
def tw16062935511073347028:=Nat
def tw2876407374005374445:=Nat
def tw12357046735690305357:=Nat
def tw15411963797283914403:=Nat
def tw16161532677967506615:=Nat
def tw13328504125611067278:=Nat
def tw7846089667530213405:=Nat
def tw7228670097666853625:=Nat
def tw6459182333393692533:=Nat
def tw3738600664618510433:=Nat
def tw6302221812828549390:=Nat
def tw16703640866127953207:=Nat
def tw16044327259687311008:=Nat
def tw10647335060394097316:=Nat
def tw1416200219809602738:=Nat
def tw4513710002907084303:=Nat
def tw4274344655397791650:=Nat
def tw10301498277764260885:=Nat
def tw13797534151943417023:=Nat
def tw11203905485811956485:=Nat
def tw15233802903774227407:=Nat
def tw3220922248149257320:=Nat
def tw15919869593204811720:=Nat
def tw7229521633344844668:=Nat
def tw1420513633048539916:=Nat
def tw2167627295535468131:=Nat
def tw15453014888877243376:=Nat
def tw10395602078950568188:=Nat
def tw17389444065728707956:=Nat
def tw292396279759158084:=Nat
def tw10484986222830695209:=Nat
def tw12691162493857802108:=Nat
def tw15473605391223127232:=Nat
def tw2271579786125832923:=Nat
def tw12195615111784660489:=Nat
def tw6874003078228252119:=Nat
def tw3245775564441343921:=Nat
def tw6299708026417872957:=Nat
def tw4501599791589221121:=Nat
def tw13095055827420112711:=Nat
def tw5244145054634640757:=Nat
def tw17288080398022409436:=Nat
def tw3755110166333787761:=Nat
def tw5083078952618398680:=Nat
def tw1523576775339662094:=Nat
def tw2080097591997401201:=Nat
def tw7008028664146345020:=Nat
def tw375381384285635985:=Nat
def tw5784185536322413251:=Nat
def tw13531738164121490593:=Nat
def tw5044373302979952127:=Nat
def tw13325628842395195240:=Nat
def tw8394362933698072934:=Nat
def tw7114951635089049938:=Nat
#check PySem.W.Fast
namespace S54
open PySem L2 XL
theorem walk {l:PySem.W.OpenLaw}{q:Program}{loose:ai}{XP:zfe}{YP:zcZ}{d:DefRec}{K:Params->Zf} (hn:l.most=some 63) (hdf:zaH)
    (hY:(zqZ,(vY).In h))
    (F:∀(w:World) (mg:Str->Option Value) (fa:Addr) (h:Heap),(vY).In h->h.Ns mainGlobals mg->zdG ->
      ∃ fd:FuncData,(V4 "_law_script")/\(MZ,(vY).In base,FnOk true l.prog w vY mg base zeX 12 fa fd Px (xk7 (K w.params)))) :
    PySem.W.WalkO q loose XP YP l.row.toRowW d [] Xw :=
  L2.walk_of (q0:=true) (n:=63) (k:=12) (x:="_law_script") (CX:=fun w=>zeX) (sp:=fun w=>xk7 (K w.params)) hn ao hdf ⟨p5,ao,ao,rfl⟩ hY F (fun _ _ a ns hl _ hS=>xP a ns hS hl p5)
    fun w H s e s' z=>by obtain⟨_,_,_,_,_,_,_,_,_,_,_,_,_,_,q⟩:=z; exact q
theorem all_mk {l:PySem.W.OpenLaw}{w:World}{K:Zf}{h:Heap}{mg:fA}{fa:Addr} (hfa:bV "law" fa) (TT:∃ t,aV) :
    ∃ fd:FuncData,(∀(s:Shared) (v:Value),zgz [v] [("_law_script",v)])/\(MZ,K.In base,FnOk true l.prog w K mg base zeX 12 fa fd Px (xk7 K)):=by
  obtain⟨t,T⟩:=TT;have e:=hfa.symm.trans T.g_law;cases e;show(cR,t.d_law,au s v,fun base _ _=>xvz T);obtain⟨oc,od,kV,doc,pm,an,cdv,ct,osl,e,lk,hcd⟩:=T.F_law.ex;rw[e];exact .of_eq rfl
#check S54
open PySem PySem.W PyProof.Rows
end
set_option maxRecDepth 100000 in
set_option maxHeartbeats 0 in
theorem PySem.Challenge.cw_rimnotes_k54_whole_answers_holds : PySem.Challenge.rw_rimnotes_k54_whole_answers.Holds := by
 w_on; o_law; k_head; (case hw=>w_witness2)
 k_fill
 refine S54.walk (l:=PySem.Challenge.rw_rimnotes_k54_whole_answers) rfl rfl (fun w h Y=>PySem.W.kIn_of Y) ?F
 case F =>
  intro w mg fa h KX G hmg
  refine S54.all_mk (h:=h) hmg ?TT
  refine' S54.txt_mk (w:=w) KX G ?g_bo ?g_ag ?g_w ?g_ac ?g_p ?g_a ?a_ax ?F_ax ?i_ax ?a_ai ?F_ai ?i_ai ?a_ab ?F_ab ?i_ab ?a_r ?F_r ?i_r ?a_aa ?F_aa ?i_aa ?a_x ?F_x ?i_x ?a_m ?F_m ?i_m ?a_aw ?F_aw ?a_az ?F_az ?a_meeting ?F_meeting ?a_total ?F_total ?a_upright ?F_upright ?a_au ?F_au ?a_exchangeable ?F_exchangeable ?a_ae ?F_ae ?a_exchanged ?F_exchanged ?a_uncrossed ?F_uncrossed ?a_al ?F_al ?i_al ?a_l ?F_l ?i_l ?a_f ?F_f ?i_f ?a_crowds ?F_crowds ?a_fits ?F_fits ?a_a3 ?F_a3 ?a_kept ?F_kept ?a_ar ?F_ar ?i_ar ?a_v ?F_v ?i_v ?a_u ?F_u ?i_u ?a_s ?F_s ?i_s ?a_g ?F_g ?i_g ?a_least ?F_least ?a_answer ?F_answer ?a_an ?F_an ?a_a6 ?F_a6 ?a_ap ?F_ap ?i_ap ?a_b ?l_b ?c_b ?k_b ?i_b ?t_b ?a_aj ?F_aj ?i_aj ?a_ak ?F_ak ?i_ak ?a_k ?F_k ?i_k ?a_n ?F_n ?i_n ?a_q ?F_q ?i_q ?a_y ?F_y ?i_y ?a_j ?F_j ?i_j ?a_z ?F_z ?i_z ?a_o ?F_o ?i_o ?a_i ?F_i ?i_i ?a_c ?F_c ?i_c ?a_h ?F_h ?i_h ?a_e ?F_e ?i_e ?a_d ?F_d ?i_d ?a_a4 ?F_a4 ?a_t ?F_t ?a_as ?F_as ?a_at ?F_at ?a_ay ?F_ay ?a_a0 ?F_a0 ?a_ao ?F_ao ?a_a7 ?F_a7 ?a_a1 ?F_a1 ?a_af ?F_af ?a_av ?F_av ?a_aq ?F_aq ?a_a2 ?F_a2 ?a_am ?F_am ?a_ah ?F_ah ?a_law ?F_law ?kc_ag ?pg_ag ?hd_ag ?po_ag ?sa_ag ?mk_ag ?a_LeftSide_init ?kc_w ?pg_w ?hd_w ?po_w ?sa_w ?mk_w ?a_RightSide_init ?kc_ac ?pg_ac ?hd_ac ?po_ac ?sa_ac ?mk_ac ?kc_p ?pg_p ?hd_p ?po_p ?sa_p ?mk_p ?kc_a ?pg_a ?hd_a ?po_a ?sa_a ?mk_a ?cg ?ct ?n_be ?n_a9 ?n_a5 ?n_a8 ?n_bb ?n_ba ?n_bc ?n_bf ?n_bh ?n_bi ?n_bd ?n_bg ?n_bl ?n_abs ?n_bool ?n_dict ?n_enumerate ?n_int ?n_isinstance ?n_len ?n_list ?n_max ?n_min ?n_range ?n_set ?n_sorted ?n_str ?n_sum ?n_tuple ?v_bm ?v_bj ?v_bk ?g_ad ?l_ad ?ns_ad
  case g_bo|g_ag|g_w|g_ac|g_p|g_a|a_aw|a_az|a_meeting|a_total|a_upright|a_au|a_exchangeable|a_ae|a_exchanged|a_uncrossed|a_crowds|a_fits|a_a3|a_kept|a_least|a_answer|a_an|a_a6|a_a4|a_t|a_as|a_at|a_ay|a_a0|a_ao|a_a7|a_a1|a_af|a_av|a_aq|a_a2|a_am|a_ah|a_law|g_ad=>delta S54.gI; k_is
  case a_ax|a_ai|a_ab|a_r|a_aa|a_x|a_m|a_al|a_l|a_f|a_ar|a_v|a_u|a_s|a_g|a_ap|a_b|a_aj|a_ak|a_k|a_n|a_q|a_y|a_j|a_z|a_o|a_i|a_c|a_h|a_e|a_d|a_LeftSide_init|a_RightSide_init=>delta S54.fI; k_is
  case F_ax|F_ai|F_ab|F_r|F_aa|F_x|F_m|F_aw|F_az|F_meeting|F_total|F_upright|F_au|F_exchangeable|F_ae|F_exchanged|F_uncrossed|F_al|F_l|F_f|F_crowds|F_fits|F_a3|F_kept|F_ar|F_v|F_u|F_s|F_g|F_least|F_answer|F_an|F_a6|F_ap|F_aj|F_ak|F_k|F_n|F_q|F_y|F_j|F_z|F_o|F_i|F_c|F_h|F_e|F_d|F_a4|F_t|F_as|F_at|F_ay|F_a0|F_ao|F_a7|F_a1|F_af|F_av|F_aq|F_a2|F_am|F_ah|F_law=>exact L2.fun_mk (by k_is) (by k_is) (by k_is)
  case sa_ag|sa_w|sa_ac|sa_p|sa_a=>delta S54.fB; k_is
  case n_be|n_a9|n_a5|n_a8|n_bb|n_ba|n_bc|n_bf|n_bh|n_bi|n_bd|n_bg|n_bl=>delta S54.fN; k_is
  case n_abs|n_bool|n_dict|n_enumerate|n_int|n_isinstance|n_len|n_list|n_max|n_min|n_range|n_set|n_sorted|n_str|n_sum|n_tuple=>delta S54.gN; k_is
  case i_ax|i_ai|i_ab|i_r|i_aa|i_x|i_m|i_al|i_l|i_f|i_ar|i_v|i_u|i_s|i_g|i_ap|l_b|c_b|k_b|i_b|t_b|i_aj|i_ak|i_k|i_n|i_q|i_y|i_j|i_z|i_o|i_i|i_c|i_h|i_e|i_d|kc_ag|pg_ag|hd_ag|po_ag|kc_w|pg_w|hd_w|po_w|kc_ac|pg_ac|hd_ac|po_ac|kc_p|pg_p|hd_p|po_p|kc_a|pg_a|hd_a|po_a|cg|ct|v_bm|v_bj|v_bk=>k_is
  case mk_ag|mk_w|mk_ac|mk_p|mk_a|l_ad=>first|k_is|kernel_rfl
  case ns_ad=>kernel_rfl
