import PyProof.Rows.All
import Wide.All
import OpenK.AllK
import PySem.Challenge.RW_rimnotes_k83_whole_seats_that_stay
set_option maxRecDepth 100000
set_option maxHeartbeats 4000000
set_option Elab.async false
set_option linter.all false
set_option genSizeOf false
set_option compiler.extract_closed false
open List renaming length_map→Za,getElem?_eq_getElem→Zb,getElem?_map→Zc,mem_map→Zf,getElem?_eq_some_iff→Zh,mem_cons_of_mem→Zi,mem_of_getElem?→Zk,mem_cons_self→Zm,mem_singleton→Zn,map_cons→Zp,mem_cons→Zq,length_append→Zr,map_append→Zt,range→Zu,mem_append→Zv,lookup_cons→Zy,mem_filter→Zz,mem_append_right→Z4,nodup_cons→Z5,length_cons→Z6,map_map→Z8,size_toArray→ZA,nodup_append→ZB,mem_of_find?_eq_some→ZC,mem_append_left→ZH,mem_range→ZJ,getElem_of_mem→ZM,take_add_one→ZR,filter_cons_of_pos→ZT,filter_cons_of_neg→ZU,length_range→ZW,length_singleton→ZX,length_filter_le→ZY,pairwise_map→ZZ,getElem?_append_left→Jc,Pairwise→Je,lookup→Jf,take_length→Jg,getElem?_eq_none→Jh,pairwise_iff_getElem→Jj,length_take→Jn,any_eq_true→Jo,nodup_iff_pairwise_ne→Jq,sum_cons→Jr,take_of_length_le→Ju,getElem?_append_right→J0,getElem?_range→J8,filterMap_cons→J9,find?_eq_none→JA,Perm→JB,getElem_mem→JD,all_eq_true→JE,Nodup→JH,map_congr_left→JN,mem_of_mem_erase→JO,mem_filterMap→JQ,filter_append→JR,find?_cons_of_pos→Ya,length→Yb,not_mem_nil→Yc,getElem_map→Yd,nodup_nil→Yf,pairwise_cons→Yg,take_append_drop→Yj,drop_eq_getElem_cons→Yl,range_succ→Yo,mem_iff_getElem→Yr,map_take→Yv,map_drop→Yw,any_cons→Yx,eraseIdx_eq_take_drop_succ→Y0,mem_reverse→Y1,countP_eq_length_filter→YC,getD_eq_getElem?_getD→YM,all_cons→YR,find?_some→YT,find?_cons→YU,append_nil→YV,map_id→YY,foldl_append→Qe,range_succ_eq_map→Qi,find?_cons_of_neg→Qj,perm_middle→Qq,nodup_range→Qr,countP_cons→Qs,getElem?_set_ne→Qx,map_eq_nil_iff→Qz,filterMap_map→Q6,take_sublist→QA,ext_getElem?→QB,append_assoc→QC,cons→QH,filter_cons→QL,append_inj'→QM,length_eq_zero_iff→QN,getElem?_replicate→QO,nil_append→QW,filter_map→QX,length_replicate→QY,perm_cons_erase→Wg,mem_of_mem_take→Wh,mem_erase_of_ne→Wi,getElem?_of_mem→Wj,filter_sublist→Wm,filter_eq_self→Wn
open PySem.W renaming Frag→Zd,mg_of→Zw,isFn→Z3,findIn→ZL,mg_none_of→Jd,keepIn→Jl,fnOf→Jw,kia_one→J5,plainGet→JC,hasDictIn→JJ,emptyDict→JK,plainOver→JV,makesIn→Ym,instObj→Yn,codeIn→YJ,nsIn→QS,lookIn→Wc,kitOne→Wd,plainGet_of→Wl,callWith_K→Wt
open Option renaming map_eq_some_iff→Ze,some→ZO,isSome_map→Yq,map_some→Qy,isSome_iff_exists→QD,bind_some→QI,map→Ws
open PySem renaming wpAny_bind→Zg,wpAny_pure→Zo,Spec→ZN,wpAny_mono→Ji,wpAny_dictEntries→Jx,wpAny_holding→J4,wpAny_truthy_bool→JI,mem_of_lookup→JM,wpAny_call_entry→JP,boot_len→JT,wpAny_dictEpoch→JY,wpAny_callSpecial?_slot→Y3,wpAny_typeNameOfWhole_itemiter→Y4,wpAny_typeNameOfWhole_keyiter→Y5,wpAny_Call_Name_kw→Y6,tupleKind_room_in1→Y7,wpAny_isOneOf_itemiter→Y8,wpAny_passesOwn→Y9,wpAny_loadPart'→YA,codeAny_builtin→YB,wpAny_setState_of→YF,wpAny_newObj_type→YG,wpAny_setField_rec→YX,call_meetsIn→Qc,wpAny_notOrdered_dict→Ql,wpAny_isOneOf_keyiter→Qm,wpAny_attempt→Qu,plainId_quiet→Qv,codeAny_mono→Q0,wpAny_field→Q7,wpAny_pyIter_list→Q8,wpAny_Call_method→Q9,wpAny_typeOf→QQ,Within→QR,wpAny_execs_nil→QV,sizeLine_eq→QZ,wpAny_pyIter_keyiter→We,wpAny_call→Wq,call_meets→Wr
open PySem.Heap renaming get?_push_of_some→Zj,get?_push_size→Zx,lt_size→Z0,SameBut→Jt,get?_update_self→Yk,size_push→YK,get?_update_other→QU
open Nat renaming le_refl→Zl,lt_of_lt_of_le→ZG,le_trans→ZK,lt_trans→ZQ,ne_of_lt→ZS,zero_le→ZV,lt_of_le_of_lt→Jz,le_of_lt→JS,lt_or_ge→Yp,lt_irrefl→Yu,not_lt_zero→YS,le_add_right→Qp,ne_of_gt→Q1,lt_succ_self→QJ,le_of_not_lt→QK,le_succ→Wa
open PySem.Value renaming ref→Zs,none→JG,bool→Ye,int→YO,builtin→Qw,str→QF
open PySem.SeqAt renaming EqAt→Z1,RcNeAt→ZD,RcAt→ZP
open Ne renaming symm→Z2
open Bool renaming and_eq_true→Z7,false_ne_true→ZE,false_eq_true→ZI,eq_false_iff→Ja,eq_iff_iff→Jk,true_and→YE,false_and→Qd,not_eq_true'→Qg,and_false→Q5,not_true→Wp
open PySem.Str renaming ofString→Z9,empty→QG
open PySem.PassesOwn renaming never→ZF
open Sum renaming inr→Jb,inl→Qt
open Array renaming length_toList→Jm,getElem?_toList→Jv,getElem?_eq_getElem→J7,getElem?_eq_some_iff→YN,getD→Qo,getD_eq_getD_getElem?→Q3,map→Q4
open PySem.F renaming plainAttrs_list→Jp,slot_dict_itemiterator_next→JU,plainAttrs_dict→JW,slot_dict_keyiterator_next→JZ,slot_dict_get→Yi,type_list_append→Yy,slot_list_append→Yz,called_set→YQ,slot_dict_items→Qa,entry_dict_get→Qh,slot_dict_pop→Qn,slot_list_getattribute→QE
open True renaming intro→Js
open Int renaming eq_ofNat_of_zero_le→Jy,le_refl→YZ,toNat_natCast→Qf,zero_add→Q2,emod_lt_of_pos→Wu
open Classical renaming byContradiction→J6
open PyProof.Rows renaming callWith_type1→JF,slot_tuple_getitem→Qk,strKind→Wf
open PySem.Calls renaming callWith_builtin→JL,spliced_cons→Yh,spliced_nil→YH,evalArgs_plain→YL
open False renaming elim→JX
open PySem.Around renaming under_plainId→Ys
open PySem.Obj renaming mapSeq→Yt,putSet→QP
open PySem.Paired renaming length→YD
open Or renaming inl→YI,inr→Qb
open ForInStep renaming yield→YW
open PyProof renaming noPylong_small→QT
open PySem.Data renaming fields→Wb
open LawfulBEq renaming eq_of_beq→Wk
open PySem.NameKind renaming free→Wo
set_option hygiene false
namespace Ab
open Lean
abbrev Tb:=Std.HashMap Name (Array Name×Syntax)
def sub (p:Array Name) (a:Array Syntax) (b:Syntax):Syntax:=b.rewriteBottomUp fun s=>if s.isIdent then (match p.idxOf? s.getId with|some i=>a[i]!|none=>s) else s
def put (t:Tb) (n:Syntax) (a:Array Syntax):Option Syntax:=if n.isIdent then (match t.get? n.getId with|some (p,b)=>if p.size==a.size then some (sub p a b) else none|none=>none) else none
def par (b:Syntax):MacroM Syntax:=if b.isIdent then pure b else return (← `(($(⟨b⟩)))).raw
def tac (b:Syntax):MacroM Syntax:=match b.find? (·.isOfKind `Lean.Parser.Term.byTactic) with|some x=>return (← `(tactic|($(⟨x[1]⟩):tacticSeq))).raw|none=>return b
def pat (s:Syntax):Syntax:=if s.isOfKind `Lean.Parser.Tactic.rintroPat.one then s[0][0] else s
def step (t:Tb) (s:Syntax):MacroM Syntax:=do
 if s.isIdent then
  if let some b:=put t s #[] then return ←par b
  return s
 let k:=s.getKind
 if k==`Lean.Parser.Term.app then
  if let some b:=put t s[0] s[1].getArgs then return ←par b
 else if k==`Lean.Parser.Term.tuple then
  let a:=s[1]
  if let some b:=put t a[0] a[2].getSepArgs then return ←par b
 else if k==`Lean.Parser.Tactic.show then
  if (s[1].find? (·.isOfKind `Lean.Parser.Term.byTactic)).isSome&&(s[1].isOfKind `Lean.Parser.Term.paren||s[1].isOfKind `Lean.Parser.Term.byTactic) then return ←tac s[1]
 else if k==`Lean.Elab.Tactic.Ext.ext then
  let a:=s[1].getArgs.map pat
  if let some b:=a[0]? then
   if b.isIdent then
    if let some b:=put t b (a.extract 1 a.size) then return ←tac b
   else if (b.find? (·.isOfKind `Lean.Parser.Term.byTactic)).isSome then return ←tac b
 return s
def rp (p:Syntax):TSyntax `rintroPat:=⟨mkNode `Lean.Parser.Tactic.rintroPat.one #[if p[1].isNone&&p[0][0].getNumArgs==1 then p[0][0][0] else mkNode `Lean.Parser.Tactic.rcasesPat.paren #[mkAtom "(",p,mkAtom ")"]]⟩
def nm (c:String) (s:Syntax):Term:=mkIdent (.mkSimple (c++toString (s.isNatLit?.getD 0)))
def step2 (s:Syntax):MacroM Syntax:=do
 let k:=s.getKind
 if k==`Lean.Parser.Term.anonymousCtor then
  let a:=s[1].getSepArgs
  if let some n:=a[0]?.bind (·.isNatLit?) then
   if n>40 then
    let b:Array Term:=(a.extract 1 a.size).map (⟨·⟩)
    return (←`($(nm "n" a[0]!) $b*)).raw
 else if k==`Lean.Parser.Tactic.obtain then
  if (s[2][1].isNatLit?).isSome then
   let q:=s[1][0][0][0][1].getSepArgs.map rp
   let h:Term:=⟨s[3][1].getSepArgs[0]!⟩
   let f:=nm "i" s[2][1]
   return (←if h.raw.isIdent&&h.raw.getId.isAtomic then `(tactic|(revert $h:term;refine $f ?_;rintro $q*)) else `(tactic|(refine $f ?_ $h;rintro $q*))).raw
 else if k==`Lean.Parser.Tactic.rintro then
  let a:=s[1].getArgs
  if let some j:=a.findIdx? (fun p=>p.isOfKind `Lean.Parser.Tactic.rintroPat.binder&&(p[2][1].isNatLit?).isSome) then
   let f:=nm "i" a[j]![2][1]
   let q:=a[j]![1][0][0][1].getSepArgs.map rp++(a.extract (j+1) a.size).map (⟨·⟩)
   let p:Array (TSyntax `rintroPat):=(a.extract 0 j).map (⟨·⟩)
   return (←if j==0 then `(tactic|(refine $f ?_;rintro $q*)) else `(tactic|(rintro $p*;refine $f ?_;rintro $q*))).raw
 return s
end Ab
local macro_rules|`(mutual $cs* end)=>do
 let d:=cs[0]!.raw[1][3]
 unless d.isOfKind `Lean.Parser.Command.whereStructInst do Lean.Macro.throwUnsupported
 let mut t:Ab.Tb:={}
 let mut o:=#[]
 for f in d[1][0].getSepArgs do
  let f←f.rewriteBottomUpM (Ab.step t)
  t:=t.insert f[0][0].getId (f[1][0].getArgs.map (·.getId),f[1][2][2])
 for c in cs[1:] do
  if c.raw.isOfKind `Lean.Parser.Command.check then
   let e←if c.raw[1].isIdent then `(command|end $(⟨c.raw[1]⟩):ident) else `(command|end)
   o:=o.push e.raw
  else o:=o.push ((←(←c.raw.rewriteBottomUpM (Ab.step t)).rewriteBottomUpM Ab.step2).rewriteBottomUp (·.setInfo .none))
 return Lean.mkNullNode o
mutual
def a where
ae a b:=a=(some b)
aa:=by omega
cV a:=(a:Int)
fQ a b:=List (a × b)
aD a b:=by rw[a];exact b
dG a:=Option a
ag a b c d:=by obtain⟨a,b,c⟩:62:=d
lX a b:=xa (pv a) b
au:=by decide
aq a b:=fun a b=>?_
ah a b c d:=by have a:=b;have c:=d
bE a b:=a->(b->Prop)
aB a:=some (.ref a)
eY a b c:=(ae,a[b]?,c)
cI a b:=⟨_,a,b⟩
aj a:=fun z=>a
aJ:=p.1
Ln:=by decide +kernel
aK:=by ext Ln
aT a b:=(ae,H a,b)
aA a b:=by ext aD a b
GA a b c:=Inv X pins a b c
az a:=if_neg a
af:=List V
ay a b c d e:=a/\(b/\(c/\(d/\e)))
cT a b:=(GA Z a b)
ai:=List Seat
am:=List Str
bc a:=((a).2).1
aZ a b c d e:=⟨83,a,b,c,d,e⟩
ap:=by simp
aN a:=if_pos a
bL a b c d:=⟨63,a,b,c,d⟩
fD a:=(lX a xg)
ba a b:=(eY a i b)
bN a b c d e:=fun a b c d e=>?_
aE a b c:=by exact⟨a,b,c⟩
nK a:=(cT H a)
aW a:=SqL.of a
ao:=List Pt
cP a:=decide a
aI a b c:=fun a b c=>?_
fb a b c d e:=⟨a,_,b,c,d,e⟩
av a b c d:=by have a:b:=c;refine d
b8 a:=((a).2).2
cA a b c d e:=⟨45,a,b,c,d,e⟩
bq:=.ref a
bu a:=(H a)=none
ax:=(nK s)
aw:=List Addr
cH a:=fun a=>?_
cm a:=SqT.of a
bg a b c d e:=a->(b->(c->(d->e)))
bw a b:=by refine a;refine b
eE a:=⟨_,a⟩
eQ a:=(bE a Shared)
aQ:=pv 0
gF a b c:=fun a b e=>c
bW a b c d:=⟨44,a,b,c,d⟩
aP:=List α
aX:=i+1
gK:=fun _ _=>rfl
gX a:=Same H a
aU:=(aJ).nm
aC:=hmm hr
aR a b c d:=a/\(b/\(c/\d))
aO a b:=by exact⟨a,b⟩
fG a b c d:=fun a b c e=>d
cQ a b:=a=(.ref b)
bZ a b:=by exact (absurd a b)
aG:=Seat->(dG Str)
aF:=List Pr
fC a b:=(lX a (fD b))
d6 a b:=by obtain⟨a,rfl⟩:=b
aV a b:=x0 K a b []
aH:=CXo P w
bF a b c d e:=by obtain⟨a,b,c,d⟩:63:=e
bi a b c:=xt a b (xm c)
aL:=Txt w K mg t
iN a:=by exact a
bn:=x.1
cN a:=(cI rfl a)
lF a:=by refine(cI a ?_)
aM a:=(bN vs H Q E a)
iu a:=((a).1).nm
zT a:=(fQ Addr a)
cy a:=by have:=a;omega
bH a:=some (.int a)
bb a b c d:=a->(b->(c->d))
ii a b:=by obtain rfl:a:=b
jw a b c d:=(fb a b c rfl d)
aY:=List Value
nG a:=(bE a Hp)
du a:=(a:Str)
aS:=model X.prog X.w
bY a:=⟨rfl,a⟩
iT a:=s1 _ _ a
cW:=by subst e
kK a b:=Q (.ref a) b
bo:=x9 (pv 0) rfl
bG a b c:=by rw[a] at b;cases c
jP a b c d e:=let a:=b; (let c:=d; e)
eD:=List Key
bp:=(zT Obj)
bj a b c d e:=by have a:b:=(fun c d=>e)
cZ a:=a<=sizeLine
iY a b:={ cls:=.type a,data:=b }
cE a b:=⟨a,b,rfl⟩
db a:=xl (xz a)
fW a b:=xj (xi a b)
d9 a b c:=by refine⟨a,b,c⟩
dF a:=s2 _ _ a
bB:=(gX H')
bO:=p.2
bR a b:=by rw[a,b]
dI a b:=by refine⟨a,b⟩
bv:=Zl _
cC a b:=(eY a j b)
dU a b:=(cP,a=b)
bA:=(eQ Value)
lW a b:=.ins a dx b
bz:=model prog w
jp a b:=by rw[<- a];exact b
cU:=k+1
gB a b c:=(bL a rfl b c)
fA a b c:=upd a b (.tup c)
br:=xan aK
iF:=["self"]
gC:=xag _
cF a b c:=by rw[a] at b;cases c
cM:=(bc x)
bC:=Str->(dG Seat)
cD a b c:=by rw[a,b];exact c
dH a b:=fun i a=>b
gU a b c:=by show(ag,a,b,rfl,c)
bD:=(fQ Key V)
dk:=x.2
f8:=(rnd mask h r).1
bM a b c d:=(a=b)/\(c/\d)
bQ a b c d:=⟨82,a,b,c,d⟩
bV a b c:=by rw[a] at b;exact c
cJ a:=by refine (Zg a)
fU:=xau hr
dO:=(b8 p)
dQ:=xu ps
mW a b c:=⟨a,b,rfl,c⟩
cB a:=s5 _ _ a
cS a b:=(aA,xj a,b)
sN:=(fQ Seat Int)
bK a b:=(mg a)=(aB b)
cL:=(cV i)
cR:=(iN leS2)
bI a:=Zw X G a
uo a b:=ite2 (cH a) b
bP a:=xw (Same.refl _) a
b6 a:=by simp[a]
nN a b:=[a,.int b]
j8 a b:=(H a)=(some (.tup b))
bJ a:=(Z3 K (.ref a))=true
bX a b c d:=fun a b c d=>?_
fw a b c:=upd a b (.lst c)
F6 a b:=(a == b)=false
fF a b c:=fun i a b=>c
iU a b:=(a,.ref b)
dR a:=by exact (.inl a)
tU a:=.str (xao a)
eB:=s.2
m7:=(cV 0)
bT:=pv 1
cc:=(dG V)
bS:=Seat->Int
jQ a b:=xak (top a) b
eF a:=by exact (.inr a)
bU:=Str->Int
eR:=(eE rfl)
cq a b:=by rw [a];exact b
jf a b:=["self", a, b]
cO a:=s4 _ _ a
cp:=(aN rfl)
cY a b:=by ext jp a b
j4 a b:=[a,.ref b]
rW a b c:=by show(ii,a=(Zs b),c)
cu a b c:=if (a=true) then b else c
mU a b c d:=(cA a T.c_a b c d)
b9:=Str->sN
pd a b c:=by show(ah,a,su_e b eu,c,ug_e eu)
eS a:=by rw[a];rfl
kI:=(cV w)
eG a:=by rw[a]
BX a:=["picture", a]
cG a b c d e:=by have a:b:=c;have d:=e
cK a b c d:=by have a:b:=c;refine d
pH a c d:=∀ b u,((b≠a)->(c->d))
iB a b c:=by obtain⟨a,b,_⟩:62:=c
lJ a b c d e:=(ae,upd a b c d,e)
ib:=(cV h)
fL a:=((a).isSome)=true
dw:=(aj,nomatch z)
oZ a:=(fW e a)
cX:=xai (xu ps) cs
eJ a:=Zq.mp a
jb a b c d:=by obtain⟨a,b,c⟩:43:=d
df:=pv 4
eO a b:=upd H a b
fO:=.inl rfl
kC a:=fun Z H Q=>a
dS a:=s3 _ _ a
fX a b:=by show(d9,a,b,?_)
kW a b:=(jw a rfl (cm b) ?_)
uB:=(cV j)
gP a:=(cV (a:Nat))
gZ a b:=(aI a b e)
nF a:=(kK a H')
fP a b c:=(aZ a _ rfl b c)
d7 a b:=by rw[a,b];rfl
eV a b:=⟨a,rfl,b⟩
jG a:=by cases a;rfl
iK a b c d e:=⟨121,a,b,c,d,e⟩
gz:=(cV w')
dP a:=(cI a rfl)
fS a b c:=upd a b (.dK c)
iO a b:=(cP,a∈b)
eI a b:=absI (a-b)
hZ a b:=xa a (xa b xg)
kP a:=xj (Z2 a)
dc:=_::_
KL a:=itP pw ss prs a
vP a b:=show (a=true) from b
fe:=fun _=>none
gV a b:=(a-b).toNat
wC a:=way mask h a
dy:=Array Nat
jI:=.lst (qs.map V.ref)
rK a b:=(uo a (cH b))
dX a:=fun p hp=>a
dA a:=xa5 I q a
lq a:=by rw[a];omega
dD:=List Int
ja a b:=(lX,a,xa b xg)
dC:=(fQ eD V)
dE:=(bu b)
f7:=i<n
jd:=(aT b u)
dW a b c:=by show(ag,a,b,rfl,Zf.mp c)
dB:=(fQ Str am)
nB:=e::es
iR:=kv.1
dJ:=Zm ..
dL a:=s6 _ _ a
iI:=I.tok _
dN:=(aB a)
eA:=x8 s
mT:=(nG St)
sV a b c:=IsTupleKey knd a b c
lB:=by split<;>omega
ir a b:=by by_cases c:(a=b)
gS a b:=(ae,H' a,b)
i6:=Same.refl _
dY:=.int i
gR a:=(Zh.mp a).1
xK a:=Vals a us
dM a:=fun x hx=>a
gq:=Zx _ rfl
fE a:=fun h=>a
fc:=by cases rx
d4 a:=by rw [(az a)]
j0:=[bq]
vm:=by simpa using hb
dZ:=by assumption
kE:=(cm hq)
iH:=asked s
fH:=Str->(dG Value)
qz a:=(gF b u a)
h9 a b c:=by show(dI,a,aq b c)
yo a b c:=(ae,ZL K (.ref a) b,c)
eW a:=⟨a,?_⟩
gO a:=by ext cy a
fR a b c:=show (a=b) from c
d8 a b c:=by have a:=b;refine c
jA a:=(false,a)
m6:=mask+1
fV a:=(aA Za a)
iG:=(iT hp)
mw a b:=(aT,a,.tup (xat b))
wB a:=(lW t.C_t a)
kR a b c d:=cells w a b c d
tW a b c:=by have e:(a=b):=c;ext cW
fK:=⟨au,au⟩
h7 a b c:=⟨a,(aq b c)⟩
fj a b c d:=by obtain ⟨a,b,c⟩:62:=d
eC:=fun _ _ _ _ _=>xbb
fM a:=some (.str a)
m5:=(bc p)
gf:=Int × Int
tK a:=(fG b u nb a)
iA a:=(fb 121 _ _ _ a)
yk a:=xaf xaw (pv a) xo gK
fJ a b d:=∀ c u,((c≠a)->(b->d))
hV:=tupleKeyHash knd k
eZ b:=⟨a,b⟩
jT a:=⟨a,[]⟩
eX a b:=⟨a,b,?_⟩
lz a b c d:=if (a<b) then c else d
gY a c:=∀ b,(a->c)
ju:=.ref d
iM:=(cV n)
fZ:=pv 3
iQ:=ZV _
jO:=(dG Int)
nD a b c:=by have a:(b=false):=c
eP:=(fQ κ V)
ij:=Zb lt
jh:=(iu p2)
jg:=(iu p1)
lE:=by ext d6 t rx
iw a b c d:=(gB a (eE (aW b)) (aq c d))
iW a b c:=Dv K H a b c
Au a b c d:=⟨a,b,c,rfl,d⟩
ft:=by cases h
kS a b:=fun v a=>b
fh a:=show a by omega
gG a b c d:=by exact(bL a b c d)
ip a b:=by show(aD,xj a,b)
fY:=P0 a
gc:=.str pt.nm
xJ a b c:=(bW rfl a b c)
fT:=P0 a b
iP a:=by show(bZ,rfl,a)
gm:=P0 a b c
gb:=P0 a b c d
mF a b c:=by show(ag,a,b,rfl,Ze.mp c)
jZ:=1+uB
j6:=["self", "name"]
w4 a:=xaj (pv a)
gg:=RelV y u
ff b:=fun⟨a,h⟩=>b
xA:=by subst this
gE:=by cases ry
uF a:=a<sizeLine
jz a b c d e:=⟨64,a,b,c,d,e⟩
ie a b c:=by have a:=b;rw[c] at a
rV:=List K
gH:=j+1
gQ:=(cV h')
uA:=id pic
nh a c:=(fG b o a c)
lD a:=eval a X.env
i0 a b:=xaf xa1 (pv a) b gK
jy:=(b,r)
lS:=(tU b)
iL:=2 ^ 62
oN:=(wC n)
zj a:=runEnd mask a
iE:=by ext d6 t' ry
ze a b:=Run a b so ho cs
gJ a b c:=xp (pN a b) (xp (pN c b) xam)
gD:=nd.2
mf a:=fun x=>a
j3 a:=fun y=>a
FB a b:=by obtain⟨dx,a⟩:=b
hX a b:=by obtain⟨a,q⟩:=b
lA a:=by rw[a];simp
hJ a:=by rw [a] at h
oh a:=some (some a)
gu:=Str->ai
gL:=Array Value
wZ a:=(gF b o a)
hR a:=by ext lF a;refine (sq2 ?_);intros
j7 a:=by show (m7<a);decide
tt:=(bE Hp VK)
kZ:=Same H1 H2
tV a b:=(bW a au au b)
oz:=(fC 1 2)
lT a:=⟨dx,a⟩
iZ:=by simp;omega
nH a b:=fun a s'=>b
jN a b c d e:=by obtain⟨a,b,c,d⟩:82:=e
gW:=pv 2
Ai:=bits h
gT:=xbr aK
rT:=s∈ss
oH a:=xv xa3 a xo
oY a:=(j8 q a)
sv a b:=(fw a b [])
gM a:=.inl (SqL.of a)
jC a b:=xar a b xad
yt:=("picture",bq)
vX a:=way t.mask h a
hW:=xab w ps srt
jF:=nd.1
xH a b:=congrArg a b
kf a b c d:=if (a=b) then c else d
mQ a:=fun _ _ z=>a
wI a b:=fun (a:Nat)=>b
ig:=by exact .nil
iS a:=tp _ _ a
jK:=s.heap.objs.size+1
zp:=s.toks+1
iD:=(dG Addr)
kG a b c:=(lX a (fC b c))
nM a b:=hN _ _ a b
si a b:=by exact (.cons a b)
jE:=P1 a
ia:=(fD 1)
jt a b c d e:=(bg a b c d (nF e))
js:=P1 a b
jc:=P1 a b c
i8:=P1 a b c d
jH:=(ae,s.heap.get? b,o)
iJ a b c d:=(fA a b (nN c d))
wL a:=xv xbj a xo
kn:=Q .non H'
oG a:=fun b hb=>a
jD a b c:=xv a b (pv c)
sK a b c:=xa7 a (xa7 b c rfl) rfl
h8 a:=fun s hs=>a
on a b c:=xac a (pv b) c gC
pb:=(jf "side" "row")
mN a b:=by obtain⟨a,e⟩:=b
jr:=by rfl
kq a b c d e:=by obtain⟨a,b,c,d⟩:44:=e
sP a:=show a by decide
iX:=n+1
jq:=(cV k)
pX:=.inr pt.nm
jx a b c d e:=(a=b)/\(c/\(d/\e))
i4:=nAt mask h r
C4 a:=(cN (rK a a))
og a:=(isNm a)=true
jj a:=(gF b xs a)
iz:=(fQ Int Int)
iy:=(BX "pairs")
zN a b:=by refine' (xa a b rfl)
sF a:=(H a)=(some (.dK kvs))
je a:=(mW rfl _ a)
p5 a b:=(sV s.heap a b)
lM a b:=(yo a b none)
C9 a:=by ext rW u a rx
zd:=(cE p hp)
jM:=I.ok.hd hc
iC:=(aq b hb)
n6:=X.pn++pins
Ik a b:=xaq a rfl T.n_len JT b
kO a b c d:=by have a:b:=c;exact d
uj a b:=by have a:=(su_e b eu)
jo a b:=by refine a;refine b
xG a b:=∀ n s,(a->b)
lR:=.str x
mS:=.str nm
kL a b c d:=(aZ a b c rfl d)
jS:=(aN c)
jn a b c:=upd a b (.dT c)
i7:=(fQ Str V)
lQ:=(b8 x)
vy a b:=(H a)=(some (.lst b))
oQ:=Zb hj
jv a b c d e:=by have a:(b≠c):=(ne_f d e)
wW:=s∈al
jB a b:=(a,V.str b)
tQ:=(aT c u)
kN:=xm st
uE a:=xax lens a
lC:=(cQ x a)
lP:=(yk 1)
nW a b c d:=xbe ZF rfl a (pN b c) d
pY a:=Pic.same a pic
i5:=s1.trans s2
pZ a:=(fG c u nc a)
jJ:=fun _ z=>(nomatch z)
ki:=KV kvs vs
i9:=by subst hP hw hK
mh a b c:=by rw[a,b,c]
jL:=by simpa using c
GC a b:=⟨rfl,a,b⟩
vp:=by simpa using e
j5 a b:=by rw[Za,a] at b
AF a:={ s with heap:=h',toks:=a }
Fz a b:=DGet.k (k:=a) b
oO a b:=by show(aD,az a,b)
qy:=.int x
rS:=(bu p)
jX a b:=by refine (thn a b)
mV a:=by show(lF,db a)
kH:=(iT e)
jU a b:=fI K C_a a b
jW a:=(jQ 62 a)
ng a:=fun u e=>a
kB:=ns++[nm]
kh:=Tups H H'
jY:=pM 0
qS:=itP w ss prs k
jV:=h<=16
jR:=xbk au
om a b c:=tSeq a (tSeq b c)
zaZ a b:=backTo a (starEach b X.env)
IM a b:=(cA rfl a rfl rfl b)
lL a:=⟨a,rfl⟩
oX a:=fun i=>a
nZ a b c:=by rintro (⟨a,b,c⟩:62)
mM:=List Env
kg:=List Expr
lU:=.bl _
rR:=.int y
CL a:=(so a)=none
nJ:=P2 a
uz:=room a
mZ:=P2 a b
mL:=P2 a b c
mI:=P2 a b c d
kJ a b c d:=by have a:(b≠c):=(aj d)
np a b:=(0<=a)/\(a<=b)
j9 a b:=Meth K t.C_a a b
lZ a b c:=by show(iB,a,b,id c)
kD:=(KL cU)
lI:=(xK xs)
Ci a b c:=[.str a,b,.int c]
pW:=valV kvs k
zP a b:=(bL _ a rfl b)
kX:=PrsL H prs qs
vW:=xas ps srt
MC:=(zj f8)
lv:=(aq p hp)
vK:=eval e X.env
OK a b c:=(wB,putF (Z9 a) (.ref b) c)
nU:=(ba kvs (k,x))
Bp a b:=(starEach a X.env)=b
AB:=(ae,X.env.cells.lookup x,c)
kM:=w<=30
kQ a b:=Z2 (xi a b)
A9 a:=by show(bZ,vP false a,ZE)
pJ a b:=KasT.kasWp cmp a b s
lu a b:=xl (xar a b xad)
ku:=hf it ap
me a:=fun c=>a
zS a:=ys.length=a
T5 a b c:=show (F6 a b) from c
LO a:=show a from r
Aw a b c d e:=⟨a,b,c,d,rfl,e⟩
nR:={ s with heap:=h' }
pV:=fun _=>rfl
rY a b:=a=(decide b)
qJ a:=s8 _ _ a
mE:=X.calm=true
lO:=.str _
lH:=(aB ln)
lK a:=(mg a)=none
lG:=(aj ?_)
lY a b c d e:=by have a:(b=c):=d;refine e
se a b:=by show(aE,a,rfl,b)
Ga a b c d:=(cA a T.c_au b c d)
wV:=(nG V)
l9 a:=Jd X G a
r8 a b c:=(1<=a)/\(b<=c)
ug a b c:=(aZ a _ b rfl c)
mY:=xl xbu
kY b:=(ae,h.get? a,b)
kU a:=by show (a<1000);decide
lN:=xbv st
kT:=o.data=(.dict es ep)
Ij a b:=(H2 a)=(some (.lst b))
ED a:=valV kvs (.inr a)
sM:=(so z).isSome
oF a:=fun y hy=>a
mG a:=(Ik xa2 (fD a))
DW:=(iU "lengths" dl)
nA:=hn5.1
oW a c d:=by have a:c:=(qz d)
uI a c:=∀ b u,(a->c)
pA a:=fun _ _ _ _ _=>(xah a)
uX:=.ref s.heap.objs.size
mX:=.ref l
nI:=pv 6
oM:=(bu l)
m9 a b c:=by show(bw,kW a b,c)
tT a:=.tup (xat a)
nE a:=(aV a iF)
mr a:=(Jl K (.ref a))=true
mq a:=by ext lF a;refine (sq3 ?_);intros
yV:=Zn.mpr rfl
Bs a:=(F6 a sysModules)
C3 a b:=(j4,.str a,b)
oI:=(KL k)
mP a:=Q (.int a) H
wy:=(cQ y q)
mB:=xab w' ps srt
pU:=(ba prs p)
vO:=(wZ,Zj _ e)
nu:=y::ys
mK:=RelV v u
qQ a b:=OpR X (compareOp a) b
vt a b:=(H' a)=(some (.tup b))
mz:=EP X pins Z Q
Dk:=(s,l)
oE:=al++[s]
mD:=HOk P w H h
tP:=Pv i Z H
xN:=by rw [Zc,Ze] at hx;ext gU qa hqa hx
mR:=Ai % m6
sQ:=by show(FB,hp,k.ins)
mC:=xbt kI ib ps
mH:=Tab t es L
mJ:=N->(dG S)
mO a:=fun D Z H=>a
sR a b:=lt (g p a) (g p b)
Ao a:=⟨a,aa⟩
qi a b c:=by ext cD a b c
vQ a:=by rw[a];decide
Es a b c:=if a then (some b) else c
pI a:=a<s.heap.objs.size
pR a b:=by have:=a;rw[b] at this
nY:=["picture"]
ET:=by simpa using this
oC:=List DV
yw a:=some (.builtin a)
oU a:=s7 _ _ a
rQ:=(cV 1)
rC:=(aB da)
wg a b c d e:=(ay,a,b,c,d,∀ H',e)
uP a b c d:=(aZ a b rfl c d)
qj a b c d e:=by ext av a b c d;refine e
pE:=by refine (io ?_);intros
Ah:=lens n
oP a:=xl (xap a)
rJ a b:=xj (ne_f a b)
rP:=ZY _ _
CC:=c≠d_o
oy:=(bY rfl)
qm a:=(Zz.mp a).1
oS:=p::r
oB a b:=pS a sc_y.nd b
nT a b:=(gB a (eE (aW b)) ?_)
zM:=hf b hb
yc a:=(H a)=(some (.dT kvs))
Oo a b:=s.heap.push (iY,a,.fields b)
tO:=RelV x v
ou:=RelV x u
rF a:=Q (.bl a) H
BL:=(H' b)=none
sE:=Kp.kstep room so ho
zaD a:=(aT,a,.tup (k.map kV))
vJ:=xcu (xbg hr)
CF a b:=ZQ (aa:a<b) au
wc:=p.nm≠nm
zdB:=Addr × Value
oq:=(vX m).j
qW:=SqL K H a xs
sX:=by ext tW b it vm
xI a b c:=(iK a b _ _ c)
nQ:=(F6 x (du "__debug__"))
nS:=fun _ _ _ _ _ z=>z
wK a:=xct (xb3 a)
oa:=PE X a ta
oA a:=(bi iF iF a)
Ch a:=tog room a s
oR a b:=by ext jb a b q h
pq:=(ae,asked s,a)
nX:=N->(List S)
yj a:=by simp only[a,ZI,if_false]
nO:=(dG,Int × (Str × Seat))
n8:=S->(dG N)
pK a b c d e:=by obtain⟨a,b⟩:=c;ext aO d e
vV a b:=by show (a<b);omega
Gy a b c d:=by obtain⟨a,b,c⟩:81:=d
vN a c:=if b then a else c
uM a b c d:=by rw[a,b] at c;exact d
o7:={ s with toks:=zp }
XB a:={ D with nx:=a,ct:=a,bk:=D.nx }
qG a:=by obtain rfl:=a
rH a b:=(ae,H2 a,b)
uy:=.ref b
rO:=.ref x
tJ a:=Je.filter _ a
Ax a:=by refine (.inr a)
qx:=.int _
qw a b c:=(lX a (hZ b c))
qv:=(aB d)
uS:=P3 a
wN a b c d:=(cA a T.c_t b c d)
qF:=xj nb
uf:=xaz P w
qu:=lno aK
ux:=P3 a b
Dj:=own n
pG:=xaz X.prog X.w
tN:=P3 a b c
tf:=P3 a b c d
pD:=Array DictEntry
zL:=(iT hk)
uC a b c:=by ext bG a b b;exact c
uK:=.bl b
qh:=(db xc2)
Gx a:=xv xba a xo
vE:=(ae,H' c,u)
uJ:=(k,v)
qo a b:=fI K C_au a b
qH a:=(jQ 52 a)
qr:=2 ^ 64
pP:=(BX "names")
qR:=prs.length<=12
su a b:=(fP a b ?_)
rB:=s _ _ e
qg:=A0->Prop
zK:=(lq Za)
pQ a b c:=by obtain⟨a,b⟩:=(Zh.mp c)
qp:=xca st
qE:=x::xs
sI:=xab w' ps srt'
qD a c d:=(lJ a c d b u)
qC a b d:=(lJ a b d c u)
xF a c:=fun b a q=>c
qI a:=by ext zN xo a
o8 a:=(pH a jd (ae,H' b,u))
KG:=Same H2 H'
wU a b:=(Fz,.inr a,b)
p8:=(fC 0 1)
uD a:=(fF y H a)
Fa a b:=.hand a b asked s
pB:=shO own crowd g
zb:=(aA e Js)
sD:=es'.map (fun x=>(Zs cM))
qT:=by subst ex;ext C9 a
R5:=by have l2:=r2.length
Ag:=prs[k]
zo:=D.nx Z H
Fn a b:=(T5 (du a) b aK)
pk:=Z.set i (some v)
wA a:=fun i y _=>a
B8 a b:=∃ m',((m'<a)/\b)
Cb a:=Nat->(Nat->a)
pL a:=(t.slot a)=.empty
pT:=(bE A0 A1)
pj:=shR rent asked g
o5 a b c:=by obtain⟨_,rfl⟩:=ry;ext aE a b c
vc:=Geo.upL pt.x pt.y r
o4:=fun _ _ _ _ _ ow nd=>(xav rfl (xp (pO 0 nd ow) (xp (pO 1 nd ow) (xp (pO 2 nd ow) xam))):PG _ _ (gTup K 3 _))
pF:=A0->(bE A1 A2)
o6:=A0->(A1->(bE A2 A3))
Ny a:=by show(rW,v,_,ry);ext bF its2 r2 t2 z2 a
uY a:=by refine (xdc a (bN i y b hy hb))
o9:=Gvn H lg prs qs h
qU a:=decide_eq_false a
sj a:=dr.same a
sJ a b:=by rw[z,a] at b;cases b
qP:=by simpa using h1
rX a c:=∀ b o,(a->c)
ui a b:=by have:=a;ext cy b
sw:=[it]
rp:=List Nat
E6:=(dG Value)
wH:=(aB pz)
TD:=.str p.nm
zJ:=.str sd
rN a b c d:=by show(ag,a,b,c,Zf.mp d)
tR a:=by refine(cI rfl a)
wY a b c:=vs=[a,b,.int c]
vx:=(cZ xs.length)
wG:=Zi _ hy
xE:=x∈K
rM:=YI rfl
Gw:=Zj _ q
zen:=Int × Value
Di:=Z[i]?
C2 a b:=(nN,.int a,b)
rE a b:=by show(eF,⟨a,b⟩)
sr:=by simp at e
qX a b:=Meth K t.C_au a b
ue:=iteF ?_
DP:=I.hok.fresh (Zl _)
wx:=.int 0 0
tI:=(ba xs x)
Fl a:=(eY crowd k a)
rq a b c:=[a,.ref b,.ref c]
qN:=by rw[Za];exact (xb7 aa)
qM:=by rw[Za];exact (BIG aa)
Ca a:=fun σ' H'=>a
uO a:=(xH Yb a)
sy:=by refine (gx ?_);refine (fq ?_);intros
ro:=(ja 0 xo)
tH:=xdx scope
No a b:=(ae,ps.find? (fun p=>(dU p.nm a)),b)
B6:=(lW C fs)
rL:=Gl X x
uh a:=fun z hz=>a
yP a b:=(way t.mask a b).j
rb:=k _ _ fO e
BR:=keepN N ns
rA a c d f g:=by have a:(pH c d f):=(tK g)
qZ:=(fQ eD zdB)
BM:=by simp at e;ext cW
rZ:=q::qs
rh:=(aq x hx)
rg:=(aq z hz)
AT a b c d e:=(ae,K.lookup a,⟨b,c,d,e⟩)
qY:=(aq H1 s1)
uU:=es'.getD i ([],0,.none)
qO:=relabel scope X.env
rG a b:=xbm fU a b gK
rD a b c:=xcs fU a b c rfl
IL a b:=.ask crowd asked a b
re:=(l+r) / 2
qL:=["self", "name", "x", "y"]
qV:=Sts H do_ ss
OU:=1+((c1' / 8) % m)
qK:=xbw (xaa au (xaa au (xaa au xbl)))
W3 a b:=envOfC qual a s.heap.objs.size f b
zpH a:=#[(.int lo t),(.int hi u),(.int a v)]
tS a b:=by obtain⟨e,a⟩:=b
Gz a b:=by ext cF a b b
sA a:={ s with heap:=a,toks:=tk }
tu a b c d:=by obtain⟨a,b,c,_⟩:63:=d
A7 a b:=by rw[a,b,decide_eq_true_iff]
ww:=(dQ).Nodup
vd:=∀ s,((fL iH)↔wW)
vq a b c:=by obtain⟨⟨a,b⟩,_⟩:=(id c)
uw:=List N
F4 a b:=(ae a (g,b,s))
uN a:=s58 _ _ a
wX a:=by exact (SqL.of a)
uR:=pv 5
w8 a b c d e:=by ext ah a b c d;refine e
ud:=(aB sc)
zI:=(aB la)
zi a:=(X.mg a)=none
uu:=(az c)
uc:=(az aa)
wF:=(az au)
ub:=ok_ae T
CZ:=(bc e)
Af:=(fD 0)
Fk:=.inr p.nm
zu a b c d:=by ext bw a b;ext bw c d
ut:=some v
ua:=(gX H2)
tG:=(iN leS3)
tZ:=(bY ?_)
sG:=(ae,h.get? b,o)
uQ:=v::r
ur:=(eS e)
sZ:=(ba X.N x)
sU:=ns++[pt.nm]
uL a b c d:=by show(nD,a,b == c,d)
uq:=(w4 1)
w6:=by exact (Z0 e)
tF:=PE X e te
sT:=.Name x pos
UH:=F i y H'
LN a:=(dH,j,.int a)
sC:=(ae,s.heap.get? d,o)
sY:=totI w prs
tE:=(CL name)
tY:=Arr n p
sS:=Pl H ps kvs
uG:=by ext A9 hs
Li:=(kK l H2)
zH:=(ED nm)
xX:=sIx items.size 0 lo
xD:=m % 4
uH a b:=(wI i (a,b))
yD:=putK kvs k v
sx:=(jw qd 0 _ (IM kE (cN,ifN aK ?_)))
yp a:=∀ x c,(AB->(c≠a))
tD:=a.lt _ aa
tM:=(fC 2 3)
sW a:=xl (xz (xah a))
sL a b:=TyOf K H a (.type b)
vo:=pyNext (.ref it)
tX:=xa0 p s
sO:=[true,false]
Xu a:=by let Pm (σ':L2.St) (H':Hp):Prop:=a
tw a:=xl (xz (pv a))
wv:=(C4 c)
Eg a:=(Oo "range" (zpH a))
sH a:=(Ga hp T.n_bs hlkP a)
yb a b:=Kp.Rch a b (.fin so' ho')
ER:=sp vs H Q E
yC:=btw r1 y2 r2
vI:=btw r2 y1 r1
yi a b c d:=(Au sc ns a (tV,b,fun c=>d))
Dw:=near lens own rent asked crowd
UR:={ cls:=.type "set",dict:=none,data:=.set (#[]) 0 (.fresh 0 0 led) }
wT:=hn10.1
yG a:=decide_eq_true a
vv a:=of_decide_eq_true a
LI a b:=by rw[a,b];omega
AI a:=X.s₀.heap.objs.size<=a
Av a b c d e:=⟨a,b,rfl,c,d,e⟩
vw:=fun _ _=>False
we a b c d e:=fun a b ⟨c,d,e⟩=>?_
vk:=fun _ _ _ _ _=>aQ
zt a b c:=DPut.k (k:=a) b c
Cg a b c:=DGet.t (k:=a) b c
Gv:=.ref C
wS:=.ref p
CY:=(aB q)
Ae:=(aB l)
wD:=by refine (Zo ?_)
An a:=(bc,(a).2)
FY:=(bc dk)
wu:=.inr rfl
Bi a b:=(H a)=(some (.own b))
AV:=b≠X.env.locals
wj a:=(JJ K a)=true
xC:=vs=j0
wp:=Array zen
Ad:=(iu r)
wR:=(bH c)
wb:=(nG Bool)
uW a:=by ext lF a;refine (sq4 ?_);intros
Lh:=rel.val k
vb:=["self", "picture"]
C1 a b:=by show(dR,⟨a,b⟩)
wP:=by show(dR,rfl)
Be:=(fQ Str Value)
CB:=(tU m5)
yF a:=L.map (fun x=>a)
Fx:=(oZ hdx)
yE a b:=s.TypeIs (.ref a) b
vn:=names.length<=12
wQ:=(gP 0)
Dh:=g p i
wM a b c d:=(upd a b c d)=none
zai a b:=s1.heap.push (iY,a,.fields b)
yd a b:=(kC,t Z H (fun a H1=>b))
B5:=.int ep 0
Gu a:=cans w ss a
Dg:=nm::C
vH:=qs.map V.ref
xB:=g i j
F3 a b:=∀ i,((i<a)->b)
CK a:=∀ i,(f7->a)
TJ:=by rw[Zc,Ze] at hx
wn:=(gZ b u)
wa:=I.list hq
Ac:=YO i t
v0:=PE X o td
vU:=(cT H' s')
vD:=nxtP w ss prs
vC:=(fQ κ Value)
vM:=(H1 l)=none
BU a b:=by ext bF its a pl hz b
vL:=xbn ky ad i
BK:=(ho s)=none
zR b:=fun a ha=>b
wz b:=vs=(j4 bq b)
Bn:=(ae,so n,s)
vj:=Kp.upd1 asked s a
za:=(vy l xs)
Fy a b:=a/\(y=(.str b))
E5:=⟨cR,k⟩
wm a b:=xv xa3 (wL a) b
zdA:=(X.fn x)=true
vZ:=.cons r t
AJ a:=by obtain⟨hp,g,a,tk,os⟩:=s
Kh:=Seat × Int
vR a b:=by rw [a,b] at e;cases e
vG a b:=call (.builtin a) b
wO:=by exact (ih vp)
wE a b:=SetT knd a d b
vF:=(ze room ns)
DJ:=by rw[Zc,hp] at hb;ext jG hb
Ab:=xdf ry
Aa a b:=by have I1:(nK a):=b
vh:=by simp only[ZI,if_false]
T4 a b:=(xJ (cm a) rfl b)
uZ:=Array (Option Value)
vS:=by rw[Zp,Z5] at nd
Kg a b:=xw (o:=(.tup a)) i6 b
yQ a:=xch w h ps ss a
vT:=K w.params
MB a b:=(.inr a,.str b)
At:=MC-f8
HN:=#[en.key,en.val]
uV a:=by obtain⟨⟨a,hp⟩,_,_⟩:=uA
vY:=PE X b tb
FX a:=xcf aQ a rfl
PY:=(iU "own" d_o)
yH a b c d:=by show(ii,a=srt,xbz xci b c d)
DK:=("opened",V.ref do_)
uT:=(sv H2 s2.heap.objs.size)
wJ a:=ZG (Z0 e) a
KK a:=xaf xaw a xo gK
vg a:=by rw[Zy,(vP,(du a) == a,aK)]
va:=(nh,hb,eb b o hb e)
N1 a b c:=.lst (aW a) b (fun j x d h1 h2=>c)
ve a b c:=xc4 (i:=a) b rfl (Qb rfl) c
vA a:=.inl (GC _ (aW a))
yW a b:=xcd (xar a b xad)
vz a:=fun i h st b hb=>a
D3 a b:=Best own rent asked a b
xL:=∀ o' u',((X.H₀ d)≠(some (.frz o' u')))
zbC:=tSeq t1 u2 d s H
zn:=T.size.2
AU:=(rnd mask h r).2
zQ a:=a=ps.length
Er a:=by simp at a;omega
BD a:=by simpa using a
LV a:=by rw[a];simp only[]
Ak a b:=by rw [a] at b;cases b
Kf a b:=if a then b else kv
zr a c d:=∀ b o,(a->(c->d))
Al a:=by have:=a;ext ET
BW a b c:=by obtain⟨a,b,_⟩:43:=c
yh:=by simpa using h
AH a b:=∀ p∈prs,(PrOk ps a b p)
zcn a:=∀ b∈crowd,(b∈a)
zh a:=(cV,(a).length)
As a b:=by show(aD,kP a,b)
z6:=b=true
y9:=JB.refl _
y8:=model P w
y0:=(eQ Unit)
Df:=Zb aa
Gs:=P4 a b
zq a:=by show(bZ,a,Yu _)
zg a:=(JV K a)=true
zf a:=(Ym K a)=true
Fw:=P4 a b c
E4:=P4 a b c d
De:=xbo e
Ar:=xbh e
BO a:=(decide a)=true
zG:=(nG af)
S4 a:=(du ⟨#[a]⟩)
yZ:=ps.take i
D8:=(cZ kvs.length)
ya:=(ae,h'.get? b,o)
xS a:=by ext lF a;refine (sq5 ?_);intros
Aq:=toP p
zF:=al p hp
Ap a b:=by ext cJ a;show b
DU b:=(ae,s.heap.get? a,b)
zm:=Zq.mp hx
B7 a b:=by have z:=a;rw[b] at z
yU:=ss6.take j
yu:=["self", "x"]
z0:=by show(eF,rfl)
CW:=Q v H'
zE:=(oZ hp)
zZ:=xah oz
Am a:=fun o e=>a
zD:=(gR hy)
zC:=b4 x hx
Fv:=(cQ y b)
yg:=Kp.Mt room so ho
Fj:=(ba ps p)
yN:=xeu I.hok e
Fm a b:=(aZ a H b rfl q)
zB:=Zn.mp y
yB:=by simp at h
zY:=(oh v)
zA:=(w+1)-x
yY a b:=by rw[a,b] at z;exact z
IK:=ns.map V.int
zX:=p∈ps
xU a:=(kC,ta Z H (fun x H1=>a))
TC:=Sem Value
Km a:=xac xb0 a xa4 gC
xP:=upd H1 d (.frz ob (.dK kvs))
xO:=upd H1 d (.frz ob (.dT kvs))
Bd:=s.heap.push UR
yr:=DecidableEq α
zW:=XC K C
xW:=(X.A.units+1)<cLine
FA a b:=by have:(a=b):=aa;ext xA
zy:=by rw[ZB] at nd
Gr:=(Bs a)
Aj a b:=(Es a b none)
zO a b:=(aZ a H I b h)
yM:=K.In s.heap
yA:=(ba crowd a)
BQ:=crowd++[h]
zx:=Itl K a
yT:=by ext mF o ho hx
zw:=aP->Nat
yS:=(ze vW dQ)
CA:=vs++dvs
zV:=us++ds
ES a b c d e:=(jw a _ b (xJ (aW c) d e))
yL:=Vals xs its
yK:=(zaZ pos es)
Eh a:=by ext Xu a;show(fX,Pm,?_)
yy:=mvP nm x y p
zl:=(true,0)
zU a b:=by ext ag a e1 e2 b
B4:=(ba qs q)
xQ:=o.setIfInBounds j (some k)
Br a:=fun h' eb=>(bY a)
zcQ:=(GA σ' H' s')
Kn a:=by obtain⟨ds,hs⟩:=a
IB a:=if a then 0 else 1
Bk a:=if a then 1 else 0
zk:=xbd _ au
yx:=(fQ rV Addr)
EC:=eval a X.env
yO a b:=xbm fU (pv a) b gK
yJ:=xdk lens ss
yR:=(gV hi lo)
AY a:=(mU hp T.n_bp lkP a)
yI:=(lo+hi) / 2
EQ:=(p2.1,p1.2)
EO:=(p1.1,p2.2)
xZ:=fun e=>(absurd e aK)
xM:=(Bp,nB,(jA vK)::(starEach es X.env))
GU a b:=(uo,a,fun a=>(iA (fb 102 _ _ b rfl)))
AC:=sIx items.size items.size hi
BA:=xdl I.hok eb
xR:=Kp.Mt (xax lens) so ho
GX:=(y.2-(own b))-(rent y.1)
ye:=(bW aa aa aa aa)
yX a b c:=kas_place p k a b c
yq a b:=by obtain ⟨a,b,rfl,h⟩:=h
ym a b c:=let d:=D; (jP s Z a b c)
xY a b:=by obtain ⟨a,b,rfl,_⟩:=h;rfl
AE a b:=by generalize eu:a=H6;ext pd s6 b g6
OH:=prs0.map (nowP ps)
xV:=.Tuple elts x1 tpos
Kl a:=fun i H R _ k=>a
Vs a:=.ListComp elt [⟨a,iter,ifs,0⟩] scope pos
xT:=BlkG X scope zs ys fr
BT a b c d:=by obtain⟨a,b⟩:=c;refine d
B9 a:=by rw[a];constructor
BS:=by by_cases e:(aJ=k)
C0 a b:=((a).length)<=b
RH a b:=show (∃ t,(u=a)) from b
CJ a:=by by_cases hb:(b=a)
C8 a:=by have:=a;ext xA
AW a b:=by have:=a;ext cF b this this
A4:=["_law_script"]
IQ a b:=by obtain⟨_,_,rfl⟩:a:=b
Iy:=∀ b∈fp,BL
ID:=by simp only[if_true]
BV a b c:=by obtain⟨a,_,b⟩:62:=c
Bc:=(zs++ys).Nodup
B3:=List Bool
B2:=List Stmt
FW:=.ref it
Cf a:=some (.dK a)
Gq:=(cV m)
CI a:=(Ch a)=true
Cz:=(aB hd)
F2:=by refine (Zg ?_)
Cy:=ok_at T
CV:=ok_h T
Gp:=(aN e)
CH a:=(aN (eG a))
Cw:=(nK s')
Bg:=by refine (iq ?_);intros
CU:=.inr x
B1:=(eQ Bool)
Cv:=(cN ?_)
CT:=(bH w)
Cu:=(bH ph)
CS:=s∈uz
Bz:=names.take i
By:=crowd.take i
CQ:=lens b
CP:=(dF e)
UG:=(dF hpq)
Ct:=α->Int
MA:=Zi _ hb
Bx:=Zu as.length
IA b:=(ae,h'.get? a,b)
Cs:=(cB g4)
Dd:=(b,o)
B0:=Nat->Addr
Fi a:=((a).length)<=12
Cr:=(kP n1)
Dc:=qs[i]
Db:=xs[j]
Cq:=(tK ?_)
AS a b c:=xbe ZF rfl a (xav rfl b) c
CO:=b∉ch
FV:=Z4 _ yV
BZ:=xcr kvs k
C7 a:=by ext lE;exact a
BJ:=xfr I.hok e
Mz:=.lst []
Go:=.dK []
Bw:=by simp at e
FU:=(lT xk)
Ep a:=prs.map (fun p=>a)
Cp:=ge i hi
Co:=(og nm)
CN:=(sF a)
BI:=X.clo scope
EN a b c:=by rw[Zc,Ze] at a;ext gU b c a
AO:=(ae,h.get? d,o)
Cn:=(pY s1)
Cm:=(AF t')
Fh:=(aT l jI)
CG a:=(zaZ cpos a)
Pq:=crowd.map V.str
Bv:=nxtP w ss qS
Bb:=s.heap.push JK
SF a:=("width",.int a)
BH:=xa9 H cs qs
AN:=(A.units+1)<cLine
Ke:=blk0 Z fr n
C6 a:=(fA H p a)
EE:=by refine (Zg (Zo ?_))
A6:=by refine (Jx hd hdat ?_)
A5:=by refine (JY hd hdat ?_)
C5 a:=(gF c u a)
BG:=Room q0 k A
Cl:=dEq d e
Lg:=(cC xs x)
Ck:=(Gx bo)
W2:=lenI gz p.x p.y s.1 eB
HR a:=by show (cZ a);decide
CD a b c d:=by refine⟨a,b,rfl,c,d⟩
D0 a:=(aT,q,.tup (prV a))
BY:=PA X nB t
AM:=Loc X.env.scope x
Da:=gk cU
AX a:=(t.slot a)=(.live i)
BC a:=(JC K a QG)=true
SE a b:=putK kvs a (.ref b)
Cd:=by rw [Zc] at hx
TB:=(ba ys y)
zdz:=(cQ (b8 e) b)
Bh a b:=by refine (Ji a b (mQ z.elim))
LH:=.frz o u
EB:=MayA srt prs
AL:=prs.map (nowP ps)
Cj:=t Z H Q
Bj a:=∀ p,(rS->(kK p a))
Bm:=List (List K)
AR a:=(aZ,.int a,H,iI,eR,q)
UF:=(IL i j)
Tz:=(0,.none)
Il a:=∀ p∈n6,(aJ≠a)
T0 a:=.bl (decide a)
BF:=(zP gq rfl)
AG:=(X.A.units+20)<cLine
Bl:=(W3 scope cd)
EM:=KT H kvs xs
AQ:=by show(ag,u,rfl,rx,xc3 r)
AD a b c:=by refine (xbp (xs:=a) (Pv:=Pv) b c ?_ ?_)
AZ:=x0 X.K fd ps ds
Az:=zdA\/(ae,X.env.scope.names.lookup x,.local)
Cc:=name::hs
zow a b:=∃ N:mT,((∀ σ' H',((N σ' H')->a))/\b)
DR a b:=ifN (decide_eq_false a) b
zdy:=names++[name]
Bu:=eval b X.env
BE:=Vals dvs ds
Bq a b c d:=xp (pN a b) (xp (pN c b) d)
Bt:=xb6 lens prs
BN a:=(mW,_,_,.inl a)
SZ:=start N vs
Bo a b:=xcq X (.builtin a) b
AA a b:=.Call (.Attribute o a apos) b [] cpos
Ov:=("placed",V.ref dp)
Lf a b:=(okN a b nm)=true
Ba:=(pZ (cS nc e))
A8 a b c:=(cC ys y)->((cC a b)->c)
XA a b:=(Q σ' H')/\((σ'.length=a)/\b)
X3:=by cases (show (u=(Zs b)) from ry)
RG a:=kstep room so ho a
BB a b c:=⟨102,a,es,ep,b,c⟩
EF a b:=(Au (j7 a) rfl _ b)
BP:=xen CX X E
Ix:=eOf X.K H m d
Eo:=at2 dEq ds es
X2 a:=(jP,u3,a,u2,tSeq t2 u3,zbC)
Ay a:=xbi (xco rfl (xe6 hr)) rfl T.n_dict boot_dict (xa a xg)
AK:=pzF a dl d_o d_r p
F9 b c:=by obtain⟨a,b⟩:=c
F8 a c:=by obtain⟨b,a⟩:=c
EU a b:=by show (a<=b);omega
DT:=by simpa using h2
Ef a:=s.heap.objs.size<=a
Kk a:=∃ σ' H',(zcQ/\a)
EX a b c d:=∀ x H',(a->(g x b c d))
HY a:=fun _ _ _ _ _=>(xdq a)
FT:=.ref hd
FS:=.ref q0
DH:=.ref s2.heap.objs.size
FR:=.ref pz
Ee:=(cV xs.length)
Gn:=.int j
FQ:=.int lo
F7 a b:=by exact (congrArg a b)
FP:=ok_a6 T
Gm:=ok_n T
Ea:=by refine (sq2 ?_);intros
R4:=i<kvs.length
zem:=.type "list"
FO:=(eQ E6)
FN:=Zn.mp z
LG:=(cN rfl)
FM:=(dF g1)
Fu a:=(lW t.C_au a)
DZ a:=pl.keep (Same.tups a)
UE:=L.take p
UD:=L.drop p
E3:=(tU s.1)
Gk:=2 ^ 63
Fg:=Nat->Bool
FL:=Nat->mT
FK:=Nat->rV
Gj:=(eG e)
EL b:=(∃(a:A0),b)->C
DO c:=(∃(a:A0) (b:A1),c)->C
DA d:=(∃(a:A0) (b:A1) (c:A2),d)->C
Dp e:=(∃(a:A0) (b:A1) (c:A2) (d:A3),e)->C
My:=(oZ hx)
FJ:=(eJ hp)
FI:=(eJ hy)
FH:=(dS g2)
LF:=Hp->Prop
Ft:=aP->Prop
PX:=.int es.size 0
FG:=(xK vs)
GB a:=HT.sIx a a hi
Gi:=(w4 2)
Ff:=Str × am
Ii:=(uF xs.length)
EA:=PrsL H ps qs
Mx:=pt∈ps
Mw:=(k-1)-i
Le:=Zf.mpr zd
GZ a b:=(ae,ps.find? (aj (dU z.nm a)),b)
Ld:=(gZ b xs)
EW a b:=by show(ag,p,hp,a,Zf.mp b)
Ez:=s03.trans s4
UC:=.int i t
Ht a b:=by rw[<- a];exact (Zf.mpr b)
EK:=Sd H ps kvs
EJ:=s5.trans s6
Ey:=s05.trans s6
E7 a:=by exact (.inl (.inr a))
FF:=b::rest
F1:=by ext si h ih
DS:=fun kv=>(dU iR k)
E2:=turns mask
Gh a:=(gF c xs a)
Gg:=(yc a)
Lc:=(gS l jI)
Fs:=(mw q s)
Gf:=(zaD b)
Ge:=(zaD q)
Ih:=x≠"__name__"
D1:=by exact ((LO False).elim)
DG:=Geo.lvL pw pt.x true r
DD:=Geo.lvL pw pt.x false r
Ex:=fun _ _ q=>q
Rj a:=(iY,"tuple",.seq a)
E8:=by ext d6 t r;rfl
Fq:=(eO a o)
Gd:=(Fl a)
zcm a:=ty Z H1 (fun y H2=>a)
zfv:=te σ' H3 N
Fe:=W i m Z H
EI:=frs X.stack
Pp:=AllBare s'.gens
EH:=srt.Perm ss
Ew:=vs=[.ref hd]
GT:=(ae,X.env.cells.lookup n,c)
Gc:=s∉al
En:=(aW (dF hl1))
zfu:=xs.getD k 0
zeC a:=by show(mN,t,(LO,∃ t,(u=a)))
Fb a b:=by ext TJ;ext gU a b hx
Nw:=by ext xN;show(ag,p,hp,hpq,pl.get hqa)
E1:=(No nm pt)
DY a:=look own rent asked a
SY:=⟨q,hq⟩
Et a b c:=by obtain⟨a,rfl⟩:b:=(Ao c)
KF:=(zcn names)
FE:=ps++[p]
FZ:=by ext ir b pz
Em:=(ae,ho s,h)
Fd:=(oG,(zM).1)
DQ a:=by rw[(az a)] at hm;ext iP hm
FD:=(Vs tg)
Gb:=a == b
LM a:=Q (.int a) H'
E0:=(bR oQ ej)
EG:=xa8 H ss qs
IP a:=o.getD a (some 0)
Ty:=(mw t bO)
DN:=gvL lens names prs
Ed:=(fS H3 d_o [])
DM a:=.dT (al.map (fun s=>a))
Fp a:=fun c xs q=>a
DC:=["name", "side", "row"]
HM:=bubble p k (k-m)
EZ:=97+i.toNat
FC a:=fun _ H Q=>a
Hm a:=∀ z,(((so' z).isSome)=a)
DB a b c d:=xb5 (pv a) (xav rfl (xp (pN b c) d))
Fc:=PE X i ty
El:=(zT,V × V)
Ev:=PtsL H ps qs
Fo:=Ord n lt
Ej a b c d e:=by ext uj a b;show(ah,c,ug_e eu,d,e)
GN:=(aT,la,.lst (crowd.map V.str))
D7 a:=(mU hp T.n_bq lkH a)
Dt:=["self", "name", "side", "row"]
Ek:=(fS H1 dl [])
HX a:=xac xb0 (oH a) xo gC
DX:=!(iO (b,jZ) srt)
DI:=by cases (show (u=(Zs a)) from rx)
Ec:=GPr ps w h prs
Du:=fun σ2 H2=>(tb (XB N) σ2 H2)
Dx:=["picture", "one", "other"]
NP a b c d:=⟨(dH H a),fun i H b H'=>c,(dH H d)⟩
Oz a:=(N1,a,rfl,by simp at h1)
MZ:={ s1 with heap:=(zai,"dict_items",#[ju]) }
E9 a b:=xb5 a (xav rfl b)
DF:=(dk-(own a))-(rent bn)
D2 a b:=probe.go t hashAt h a b
Ds a:=xc7 (by rw[Y.sz];exact (ZJ.mp a)) none
EV a b:=by refine (Y9 hp (thn a b))
znj a b:=∃ W:(Cb mT),((∃ m,a)/\(∀ i m Z H,b))
Dz a:=(zow (B8,m,W aX m' σ' H') a)
D6 a:=fun _ _ _ H _ I h=>a
DE a b:=by generalize eu:a=H4;ext pd s4 b g4
Dn a:=fB K a "__setattr__" "object.__setattr__"
S3 a:=(bL a ap iQ h0)
HC:=Kp.upd1 asked s b
Eu a:=xl (xcf aQ a rfl)
NC:=(Ci,pt.sd,.int pt.lo,pt.hi)
Dy:=(behindInMarks op b)=false
EY:=mvP nm x y
GJ:=by have hl:(kvs.length=vs.length):=rel.length
Oh:=.hand so ho asked s0
Hz:=AkD H da al asked
D9 a b c:=by show(ii,v=JG,ry);ext aE a b c
Xm a b:=∀ l,((Dk∈a)->((b+(rent s))=l))
GI a b c:=∀ S:aP,(S.Nodup->((∀ x∈S,a)->(b<=(N c))))
D5:=picF w h dp do_
Eb:=Cmp n lt cmp s
D4:=itP w' ss prs n
Ei:=by ext Gy ok ov st st
Dl a:=(mU (dF iG) T.n_br lkW (mW a pw (bN p H3 hp3 sd3 s3)))
Dm:=notedBy bz A env (nH,e,R (.error e) s')
Dq a b:=∀ ys H2,(bg kZ (Ij l ys) (zS a) b Li)
Do a:=by obtain⟨⟨a,hp⟩,⟨kvs,hk,pl⟩,_⟩:=uA
DL a b c:=by show(ii,v=(Ye _),ry);ext aE a b c
HL:=(ZO.inj hx).symm
LL a:=show a from z
HK:=fun _ _ _=>False
Kd:=fun _=>true
Nv:=∀ b∈fp,(FpOk X pins H b)
Hy:=by simpa using hi
LQ a:=by split at a<;>cases a
OT:=by simpa using hw
R3:=(Lh).isSome_eq
Mv a b c d:=by obtain⟨a,b,_,c⟩:63:=d
MH a:=∀ n∈zdy,a
XZ:=∃ p∈ps,(p.nm=nm)
KE a b:=∀ p∈prs,(a/\b)
HW a:=(cans pw ss a).head?
Im a b:=by unfold Kp.upd1;ext oO a b
LE:=List Row
Mu:=.ref ln
IC a:=by exact (decide_eq_true a)
zft:=X.A.units+1
KD:=S.length+1
Ms:=.refl _
Mr:=(aB ly)
Mq:=(aB lb)
Mp:=(aB lx)
Mo:=.int hi
LU:=by refine (xgk ?_)
Mn:=(az c1)
Mm:=(az c2)
Ml:=ok_av T
Mj:=(aN c2)
Mi:=(aN aa)
RF a:=(ae,h'.get? b,a)
Mh:=(aW e1)
LD:=(fQ V V)
Mg:=(gX H5)
Mf:=(iu Ag)
Me:=(bH OU)
IJ:=s∈(room n)
Md:=(nG It)
LC:=xa bo xg
Ha:=(ae,X.base.get? b,o)
LB:=Nat->Int
MK:=by ext d6 t ru
LA:=Zv.mp hx
UB:=(bP hq5)
Mc:=(cO e3)
Mb:=Nat->wV
Ma:=(oZ hl)
Lb:=Ju (Zl _)
L9:=(lq Zr)
Lz:=(cQ x l)
Ly:=(fC 0 2)
Kc:=prs.drop aX
zfs:=(gO pl.len)
L8:=V->Bool
LT:=by ext lE;ext iE
II:=rs.map V.ref
HV:=(uF kvs.length)
KC:=(mf x.snd)
Ig:=(j3,nomatch y)
Lx:=Zv.mp hz
Lw:=F i y H2
Lv:=[.ref p]
MG a:=(lM t.C_t a)
L7 a b:=Zf.mpr (cE a b)
IH:=SqT K H a xs
KA:=I.tuple hq
Kb:=s3.trans s4
L6:=(AF tk)
Lu:=(aT a o)
La:=(aT a B6)
Kz:=(aT lp jI)
K9:=PE X o to
MF a:=shS rent a g
Ie:=DecidableEq κ
KO:=by subst ey;ext X3
Iw:=ss.length<=32
Id:=srt.length<=32
L5:=Cls K C
KN a:=by exact (.inl (.inl a))
Ka:=CrL H cs qs
Ou:=blk0 Z fr zs.length
Ic:=(asked s)=none
Ib:=by show(si,s _ _ h,ih)
K8:=(Ij l xs)
K7:=MkOk mask
K6:=(ae pW v)
Ll a b:=by show(h9,iN leS0,a,b)
I0:=.bool false
G3:=lenI kI p.x p.y s.1 eB
Lm a:=by ext BM;ext se a h
zfr:=te σ' H4 N
K5:=upI w prs
Ls:=Pv 0 Z H
HJ:=GvF lens names f
HI:=xet lens names f
WK:=(aT,d,.frz o (.dK kvs))
WJ:=(aT,d,.frz o (.dT kvs))
IZ:=acr w x1 b1
Sv:=acr w x2 b1
Ky:=V->(V->tt)
IY:=V->(af->tt)
G6 a b c:=by show(Ny,I.list hb);ext R5;ext aE a b c
G5 a b c:=by show(Ny,I.tuple hb);ext R5;ext aE a b c
K4:=Rch f a b
L4:=.dK kvs
K3:=I.lstM hH
K2:=ss.map x8
HH:=srt.Pairwise xbx
IO a:=al.map (fun s=>a)
L3:=xs++[y]
Kj a:=(ug,uX,a,q _ DP)
Hg:=(xG,s∈(uE n),rT)
HQ a:=k1 _ _ (ne_f hp a) hp
O7:=setI own pt.nm 0
Kx:=Up t.place
Kw:=.bool true
Tx:=(aq d hd)
K1:=(aq s hs)
IX:=α->(dG α)
LR a:=by show(cq,kP a,xk)
Lr:=(sR k j)
zfq a b:=((a).length)+((b).length)
IN a:=prs.find? (nmF a)
GR:=(ae,sc.names.lookup x,.cell)
Iv:=IntsAre vs ns
MJ:=by ext ip nb e
HU:=valV kvs (x8 s)
RE a:=(on,vJ,a,xb2 xg)
K0:=hnF pa lg
Iu:=fun s=>(s,W2)
Ir:=SqL K H1 a xs
KJ a:=fun b o hb g=>a
Lj a:=fun x y H Q=>a
Ip:=by ext bF kvs e l f s
Lq:=X.wish E
V8:=.builtin "object.__class__"
G1:=xbw (xaa au (xaa au xbl))
IW:=prs.map prS
LZ:=jy∉ss
Ia a b:=by have:=a;ext bV b this this
TZ a:=a=(.fields vs)
LK a:=Int->(Int->a)
KZ:=(aq n hn)
ME a:=(bi j6 j6 a)
IV:=(dU z name)
Kv:=below xs j
Ku:=x=(.int i)
G4 a:=ps.find? (fun p=>(dU p.nm a))
Ho a b c d:=(nW,xdt rfl T.n_range a,b,c,d)
SX:=(iW n x d)
KY:=PT X a tA
GQ a:=PE X (.Call (.Name x p) nB [] pos) a
IG:=DGet H a y o
KW:=xai ns cs
Hs:=Value->(Value->TC)
Hj:=(kR x2 y2 false r2)
LJ b:=DGet H2 a y b
G2 a b:=k35 _ _ (ne_f a hkl) (ne_f a ow3) b
Ki a:=(znj,W 0 m Z H,a)
zbG a:=Room q0 k (A.deeper a)
He:=⟨nm,x,y,sd,lo,hi⟩
Lp:=xax lens
LY:=rn≠rf
Hr:=fun _ h=>(nomatch h)
Px:=by refine (Zj _ (Zj _ ?_))
LX:=(xn,rf)
IF:=c.1::c.2
IU:=TD::(ptV p)
HE a:=by have:=a;simp at this;omega
Hq:={ D with nx:=u D }
HD a:=∀ Z H,((Pv a Z H)->zo)
LW a b:=((u,v)∈a)↔b
Hi a b:=∀ w' s',(a->(b->(Q w' s')))
GY a b:=(us:aP)->(us.length=a)->(b->(P us))
KI a:=o.cls=(.type a)
KU:=.cons _ t
Kt:=(fQ TE TE)
Ks:=(fQ Tr gf)
KR:=(aq y hy)
Kr:=(aq H4 s4)
IT:=(bE Str Kh)
G9:=(aj,by simp[xat] at z)
Lo:=acc++[x]
MD a:=(bi pb pb a)
Lk a b:=by exact (pS a sc_a4.nd b)
KH a:=(X.mg x)=(aB a)
LP a b:=by ext dI fK a;exact b
KQ:=kV kv.1
KM:=by show(ir,p.nm,nm)
GM:=(aT,ln,.lst (names.map V.str))
MI a b c:=(z=a)\/((z=b)\/c)
KP:=Cls X.K C
PK a b c:=PS X (.Assign [a] b pos) c
HZ a b:=by rw[Zy,a];show ((Jf m b)=none)
Hx:=relabel scope env
GL:=(apos.endLine == cpos.line)=true
NB:=(iY,"list",.seq vs.toArray)
Iq:=(bR,Zb hi,ei)
GH:=fun σ2 H2=>(tb (XB,Pv aX) σ2 H2)
GW:=(leap mask ((oN).i) ((oN).pt)).1
Kq:=(LI Zr ZX)
GV:=h1.push (iY,"tuple",.seq HN)
GP:=(aA dr.pm.length_eq (bc dr.ok))
OG:=Kp.Mt room so' ho'
HP a:=(mU hp2 T.n_bu lkO a)
HG:=(bW au au aa aa)
Hf:=(YJ K cdv qual)=true
IS a b:=Kp.upd1 asked s a b
Hl b:=show b from (I.hok a _ ea)
RD a:=by show(cJ,YF ho hd a ?_)
HF:=(mW rfl rfl rfl)
Ko:=(kG 1 2 3)
M8 a b:=(swapsWith a b pos.line X.env)=(pure false)
Ri a:=fun w' s3 I3 rw'=>a
V3:=xaf (r:=(rIxT K)) xaw aQ xo gK
GS:=∀ b xs,((j8 b xs)->(vt b xs))
G0:=∀ z,(rY,sM,z∈names)
GG:=["_law_name", "_law_side", "_law_row"]
Hu a:=by obtain ⟨a,rfl,_⟩:=h;rfl
Io a:=by obtain ⟨a,rfl,h⟩:=h
Hc a b:=by generalize eu:a=H3;ext pd s3 b g3
Oe a b:=by generalize eu:a=H2;ext pd s2 b g2
Hb a b:=by generalize eu:a=H5;ext pd s5 b g5
Hw:=(fF p hp (eS hp))
zjY a:=xaq xej rfl T.n_isinstance boot_isinstance a
IE:=btw rf yn rn
Nx a:=backToKw a (keywordEach [] X.env)
Hh a:=by have s02:=(s1.trans s2);refine a
Hv:=1+((m0 / 6) % ph)
GD:=fun _ _ _ _ _ ow nd=>(xav rfl (xp (pO 0 nd ow) (xp (pO 1 nd ow) xam)):PG _ _ (gTup K 2 _))
G8:=(OK "lengths" dl [yt])
G7:=(OK "own" d_o [yt,DW])
Iz a:=fun i h h' st k=>a
IR:=exP p1 p2 p
GK a:=(attributeBase o a X.env (lD o))=(lD o)
GO:=∀ f,(RelO (fs.lookup f) (mA f))
GF:=∀ vs H Q E,(ER->(vs.length=ps.length))
GE:=∀ i y H H',((Tp H H')->((F i y H)->UH))
HS:=(bb V jO jO tt)
Hd:=o.data=(.set es ep t)
Hk a:=(AT,f,oc,od,.func a,osl)
zlI a:=(jP,u5,a,u4,tSeq t4 u5,(X2,tSeq t3 u4))
MS:=(Ca (XA,Z.length,∀ i,((n<=i)->((σ'[i]?)=Di))))
U0 a b:=by show(Ax,⟨a,Pv aX,fun σ' H' p'=>(jz,b-aX,aa,rfl,hlt,p'),(aI x H' y)⟩)
UA:=T.size.1
Tw:=by ext lB
SD a:=by cases a<;>rfl
zsv:=by unfold xu;rw[Za]
Tv:=["thing"]
OF:=["_law_cell_here"]
M6 a b:=∀(pins:bp) (s:Shared) (Z:St) (H:Hp) (Q:a),b
Uz:=fun _=>0
Xe a b c:={ cls:=zem,dict:=a,data:=b,slots:=c }
UJ:=by unfold KV at r
O0 a:=∀(i:Nat) (y:V),(TB->a)
Pw:=by split<;>split<;>omega
Ng a:=by unfold Geo.upL Geo.upN Geo.dn;rw[a,a]
MX:=by unfold Geo.lvL Geo.lvN;rw[Za,ZW];ext lB
Ob:=by unfold acrI;ext lB
Ry:=∀ s∈al,rT
O9:=by unfold mvP;split<;>rfl
TY a b:=(ae,h.get? a,b)
Rh a b:=(ae,s.heap.get? a,b)
TX a:=(xcb o a)=true
R1:=.str "right"
Su:=.str "both"
R0:=(cP,x∈A)
PZ:=by refine (sq3 ?_);intros
Uy:=(bu do_)
Ux:=(cm hsq)
Ss:=i<xs.length
Og:=X.env.cells.lookup n
Tu:=id dr.pic
OE:=Str->(dG NameKind)
Tt:=(cN,Zo h)
Uw:=ZO.inj e
zah:=of_decide_eq_true e
On a b:=by show(cy,(xbd (c / a) (sP,m7<b)).1)
PJ a b:=by rw[a];exact (Ja.mpr b)
SW:=I.pin p hp
Uv:=(cB hl2)
Ts:=ns.take j
OS:=["self", "width"]
Po:=(gP,sIx n 0 lo)
Of:=.lst (nms.map V.str)
Tq:=Same H1 H
RZ:=(fE,Jz h au)
zfp:=(qz,Zj _ e)
Uu:=α->Bool
Ut:=b∉X.fs
Rx:=Mt room so ho
OR:=.frz ob (.dK kvs)
SC a:=xdg lens names a
PV:=fun p=>(.ref aJ)
Us:=Zv.mp hn
Ur:=asked bn
Sa a b:=by rw[a,b] at z;exact (g_at z)
To:=PE X e ty
SV:=(aq p hp')
SU:=eval e env
Rw:=TP X pins Z Q
ST:=⟨#[c]⟩
Sr:=⟨#[ch]⟩
Uq:=Sem Bool
Sq:=s2.trans s3
TW a:=((a).length)<=32
PU:=(fQ Key Value)
PR:=Same.seqL s hs
OJ a b:=.Call (.Name a p) b [] pos
RY:=s03.trans s5
SB a:=(decide a)=false
R9 a:=fr.map (fun i=>a)
OD:=srt.filter (xa0 p)
Uo:=(vQ xce)
Tn:=n∈crowd
zlb:=(yw "getset_descriptor.__get__")
Um:=(cQ v q)
Ul:=acrI w p
Uk:=uprI w p
Rv:=Room q0 k X.A
zfo:=(al p hp).2
So:=(no p hp).2
Uj:=V.int OU
SS:=crowd++[x]
Tm:=(cS nb e)
NK:=by refine (gn ?_);refine (io ?_);intros
Sx:=by subst e1;cases r1
zdx:=fun _ _ q=>Gw
Pe a:=(aT,q,.tup (ptV a))
Tl:=PA X es t
zcl a:=tb Z H1 (fun y H2=>a)
RX:=I.cell x c e
Ru:=I.freeC x c e
OQ:=Vis X.env.scope x
Sn:=putF f v fs
Ot:=.Attribute o m apos
zel:=V.str "both"
O6:=(aA (fW q hn) q)
Ui:=put a ha
TV a:=by exact (.inr (.inr a))
Sm:=pt.x+(cL*1)
Sl:=pt.y+(cL*1)
PQ:=pt.x+(cL*(-1))
PP:=pt.y+(cL*(-1))
TH:=by refine (Y5 ti ?_)
TF:=by refine (Qm ti ?_)
Tk:=Rch f a c
Uh:=Zn.mp hy
Pn:=fs.length<=1000
RW:=neC b o e hx
Oa:=I.base.there b o e hx
Tj:=(yP hV i)
N6:=(xG,s∈(room n),rT)
Ug:=(FX xe8)
Oy a b c:=by show (pJ a G);refine b;by_cases z:c
SR:=fun _ q=>q
OC:=fun _ q=>(nomatch q)
SQ:=(aA Zt xk)
Rg a:=kvs.map (fun kv=>a)
Ti:=a.lt k hk
Th:=a.lt k aa
Uf:=hidT h H
O5:=hidT s₁.heap H
zcP:=fun σ' H3=>zfv
N5:=xv xba xo (oH (wL aQ))
Tg:=ZU (b6 c)
Rf a b c d e:=(wg,a,b,c,d,bB->(Q (.bl e) H'))
PH a:=by obtain⟨i,hi,ei⟩:=(ZM a)
Ph:=⟨Gv::us,kw⟩
zfn:=(Zh.mp e).1
TU a b:=HoD.keep a (ng b)
Sk:=s6.trans s7
RV:=ps.length<12
Re a:=∀ s',(a->(Q () s'))
SO:=(ba es en)
Tf:=(ba cs c)
SN:=atKey xs k
RU:=SqL K H p xs
UI:=by rw [(xj c)] at e
O4:=Rd H a (.dK kvs)
Rt:=KB H H' d1 d2
zbB:=.ask [nm] fe 0 0
zeB a:=tupleKeyHash knd a
Rs:=t.dummies=(#[])
S0:=by rw[this];congr 1
Ue:=da≠d_r
zdG:=by have hlen:=r'.length
W1:=I1.kept (t':=s1.toks) vO
Nl a:=Zg (m:=(Builtin.Tuple.tupleExact _)) a
TR a:=(ae (RG UF) a)
PF a b:=xcq X a (fun xs H Q=>b)
NX:=(carriedByValue v)=true
Om a b:=by show(cy,(xbd (c / a) (sP,m7<b)).2)
Te:=(cE x hx)
Ol a b:=(ae,findIn K (.ref C) a,b)
OP:=(eV,true,iteT ?_)
Rr:=a.lt (k-1) aa
Sw:=by show(FB,hpz,z.ins)
N9:=HT.sIx xs.length 0 lo
zek:=upd1 ho1 s a
TQ a:=(on xf0 a xc0)
Td:=(F4 Dw a)
RT:=I1.hok d _ e
TN a:=by ext zeC a;ext jG e
MY:=(uI (ae,h.get? b,u) (ae,h'.get? b,u))
RS:=k it ap _ st
Pd a:=l.countP (tog room a)
RR:=SqL K H a IK
zej:=upd1 so1 a s
N4:=(fV (CF qs.length 13))
Rc a:=seqObj "list" (#[]) a
Nu:=∀{n:Nat},((n<=1000)->(uF n))
R8 a:=shO own crowd g a
N8:=fun h' dd' hs=>(h _ ?_)
VL:=s.heap.push (iY,"dict",.dict (#[]))
Tc:=ps.zip us
RQ:=c1.append c2
XY:=fun _ _ h=>(nomatch h)
RP:=bO∈(uE aU)
TM a b:=by rw [ZB];ext aE a ap b
SA a b:=∀ i,(a->((i<m)->b))
SM:=s25 _ _ e2
Tb:=(aq i hi)
Ud:=Pq++[lR]
SL:=vs=[bq,mS]
M7 a:=(kK s.heap.objs.size { s with heap:=a })
RO:=(cE rfl rfl)
Rb a:=k10 _ _ (ne_f a hko) a
zei:=(fL,so2 z)
Rq:=o.getD j none
RN:=(eY prs k p)
Ta:=PS X st t
SK:=(GC aa aa)
Rp:=(bR,Zb hk,ek)
Uc:=(D3 P f)
Pg:=(ae,so aU,bO)
O8:=by have s03:=(s02.trans s3)
SJ:=xbt w h ps
Ra a:=(jC (Km lP) (db a))
NM:=hp.update a (Yt (mf,#[]))
Sj:=h.Ns1 dx mA
NA:=(prs.map (fun p=>aU))=names
Sz a b:=xar (PW.pt a) b xad
N3:=Z4 _ (Z4 _ (xd0 hb e))
Ro:=(bX b o e hx)
OO:=(iw l1 e1 l2 hl2)
PN:=fun c v _ q=>q
Wx a b c:=(zjY (ja,0,xf1 (v:=(.ty a)) rfl b c rfl))
zca:=(zlI,tSeq t5 u6)
OZ a b c d:=xb5 a (xav rfl (xp (pN b c) d))
RC a b c d:=SortSt.mk' general' a b c d
Nr a:=(ae,sc.names.lookup x,.local)\/a
RB a:=by show (a=_);rw[hn]
Ub:=qs1++qs2
S2 a c:=fun b a q _ _ _=>c
PM:=fun _ _ _ e=>e
P9 a b c:=⟨a,rfl,(eE (aW b)),c⟩
S9:=!(m == k)
XG a:=∃ xs,(a/\(k=(! xs.isEmpty)))
zck a:=fun _ _ _ _ _ st h=>a
P8 a:=∀{xs:af}{us:aY},a
NS:=by simp only[ZA]<;>omega
M5 a b:=∀ base:Heap,(a->((base.Ns mainGlobals mg)->b))
Os:=(names.map own).sum
PD a:=by rw [<- a];exact (Zf.mpr zd)
Nh:=pl.no (nm:=nm) (dX,(no p hp).1)
Nn a:=by let Pv (i:Nat) (Z:L2.St) (H2:Hp):Prop:=a
Od a:=∀ u,((aT a u)->(ae,H' a,u))
Si:=(aq q3 hq3)
zfm:=(aq q5 hq5)
Sh:=(aq p6 hp6)
RM:=(bE Int Int)
Nm:=(iY,"list",.seq its.toArray n)
Pc a:=fr2 _ _ (ne_f a hda2') a
S8:=ih nd.1
R7 a:=(cY a (wU nm hk))
Sf:=(kW tp htp)
Ua:=(rK y y)
zcO:=(gS qs (tT s))
zqy:=(gY,zdz,¬ (p5 k b))
T9:=y=(kV k)
T8:=xcz xs s
NH a b c:=(bindArgs a (jT b))=(pure (List.zip c b))
Se:=StL H ps ts
T7:=Itr lo n
T6:=(C4 y)
zcj a b:=(a="left")\/((a="right")\/b)
PB a:=(mU hp T.n_br lkW a)
NO a:=by intro z;show(bZ,(ZO.inj z).symm,a)
zaz a:=(lz,a,0,none,es[((a).toNat)]?)
zbF a:=R (.ok (.ret .none)) a
S7:=(qQ op r)
Rn:=PrOk ps w h p
Na:=(jw qd 0 _ (IM kE (cN,ifP aK ?_)))
SI:=valV kvs j
R6 a b:=(wN a T.n_b1 lkZo b)
RA a b c:=(totI w a)+((xbq w b)+c)
zov a b:=xbi a rfl T.n_list boot_list (xa b xg)
NF:=by show(aD,e,cu4.keep (Same.tups s5))
Pf:=PI X tg iter wi
N2:=(leap mask p.i p.pt).1
Oq:=(cS,xdd q e dw,q)
NG a:=fun Z H R=>(ta Z H (fun vs H1=>a))
S6:=exP p1 p2
O3:=fun _ q7 hq7=>?_
RL:=SoD H d n so
RK:=HoD H d n ho
Sy a:=by exact(cI st (kS z a))
Nk a b:=OpR X (compareOp a) (rI0 (dH j (T0 b)))
NZ:=by obtain⟨i,hi,ei⟩:=(Yr.mp he)
zag:=tupleKind (xaz P w)
NJ:=tupleKind (xaz X.prog X.w)
Sc:=(aI n x hx)
OI:=by show(h9,iN leS1,q6,hq6)
SH:=(SE Fk dq)
M0 a:=by refine(xI s1.heap.objs.size [s1.heap.objs.size] a)
ON:=10*(turns t.mask)
Nf:=.tup (ptV { pt with x:=i,y:=j })
N7:=(oY (C2 c.1 c.2))
Oc a b c:=OpR X (binaryOp a) (rI b (LN c))
Ow:=by ext A7 Jk Jo;constructor
ND:=by exact (eV,"both",.inr (.inr rfl))
NW:=.Compare a [op] [b] pos
Pu:=by intro m e h;ext jG h
TL a b c:=((a=b)/\(v=.non))\/c
Nt:=∀ a b,(((k a)=(k b))->(a=b))
Oj a:=∀ b o,((b≠it)->(jH->a))
Rz a b:=(bL a b ll (aq nm h))
Pb a:=by rw[Q2];exact (xb9 (d7 Zc a))
OY a:=k7 _ _ (ne_f a hk) (qJ a)
zfl a b:=(jw qa 0 TD (T4 a b))
OM:=(way mask hh m).j
MU a b:=fun Z H R=>(to Z H (fun x H1=>(∃ d kvs,((cQ x d)/\(a/\b)))))
NN a:=∀ c u,(bb,CC,c≠d_r,tQ,a)
NY:=by show(ag,vs,rel,da,xiq I e hep)
S5:=seF d1 d2
TK a:=∃ m,((m<n)/\a)
Ox a b:=by obtain⟨a,rfl,b⟩:=q1;cases r1
W8:=(((pw+1)+1)-pt.x).toNat
OX a b d e:=((c∈a)/\(c∈b))↔(d/\(c=e))
SG:=[a0,a1,a2]
MQ a:={ s2 with heap:=s2.heap.push (iY,"dict_itemiterator",.fields a) }
P7 c d:=fun {a b} ha hb c e=>d
NR:=["thing", "low", "high"]
Py a b c:=by obtain ⟨a,b,c,rfl,_⟩:=h;rfl
Nj a:=A.under (.builtin "type.__call__" a)
S1 a b:=(bN H5 qs2 s5 a b)
PL:=Zu ((MC+1)-f8)
zay:=(j8 bn (C3 FY cM))
RJ:=(fF h h' aa)
Nq:=(d7 Zy (Fn "across" "width"))
NU:=by ext fc;show(ag,u,rfl,ru,rv.one)
O2:=gvB ss names prs
Nd:=(wB,putF (Z9 "picture") bq [])
OB:=(aT,a,XO a C od)
MV a:=by ext tW b a vm;exact (I1.fpOk (Zl _) (I1.hok.fresh (Zl _)))
NI:=(OK "rent" d_r [yt,DW,PY])
OL:=(p,w)::(P.zip vs)
OA:=(kR x1 y1 true r1)
M3:=(lz,((aJ).y)-dO,0,-(((aJ).y)-dO),((aJ).y)-dO)
M4:=["picture", "names", "pairs", "seats"]
Xd a:=(cA hp1 T.c_ak T.n_bv lkSo a)
Sb:=tOp r ta tb
O1:=lvL w x1 true r1
NQ:=[.int GX,.str b,.ref qk]
MT b:=(kC,td Z H (fun x H1=>(∃ a,(lC/\((IsD H1 a)/\(zcm b))))))
Rm:=shI i j hi hj
MN a b:=(Aw l1 l2 _ _ (cA,rfl,cB hu4,hu5,by rw[Za,Za];exact (JS (CF,qs1.length+qs2.length,a)),b))
Nc:=(iO,prS p,ss)&&(xa0 aJ (prS p))
NV:=.ins t.C_au dx (hnP a')
Nb:=by have z':((Wb _)=(Data.cell v)):=z;cases z'
RI:=upL x1 y1 r1
OW a:=by refine (xc5 (Pv:=Pv) a ?_ ?_)
Pa a:=fun b o _ _ hc e _=>a
zni:=[("height",V.int h),Ov,DK]
Rl:=[a0,a1,a2,a3]
VN a:=∀ c u,(bg,CC,c≠d_r,c≠da,tQ,a)
Op:=prs.map (exP p1 p2)
OV a:=by show(ag,q0,a,hq0,pl.find hf)
MP:=by have b1:(((vc).length)<17):=(by unfold Geo.upL Geo.upN;rw[Za,ZW];ext lB)
Oi a:=[qy,rR,zJ,.int lo,.int a]
MR a:=by have eb:(b=a):=vm;subst eb;exact (I3.fpOk (Zl _) (I3.hok.fresh (Zl _)))
UY:=by obtain⟨⟨k,x⟩,q⟩:(∃ y,((kvs[i])=y)):=eR;have hx:nU:=(bR ij q)
MW a b:=∃ t,((PSs a b t)/\(t { nx:=fun _ H'=>kn,rt:=Q } SZ H))
Np:=fun H2 q2 s2 hq2=>(kW q2 hq2)
Ni:=by simp only[YR,List.all_nil,Z7,Qg] at e
MO:=(ns.map (fun n=>((.inr n:Key),V.int (own n))))++[(pX,.int 0)]
M9:=.Call (.Name "set" p2) [a] [] pos2
NT:=by show(kq,g,ex,sz,f,xg7 I e hdat)
NL a:=by have q:=(hl i Z H hi p);by_cases hlt:a
Nz:=xhd w30 h16 pok dr.ok dr.pm
MM:=by obtain ⟨rfl,e2⟩:=(QM e rfl);cases e2;show(jb,rfl,rfl,rfl,ih r0);have z:=(rc.det rfl rc0 rfl)
ML a b c:=by refine (xck (fun i=>(pt.x,a)) hl1 aa (Kl E5) (bN H4 qs1 s4 hu4 cu4));show(Kn,id sd3);have hs4:(ae,H4 p,.ins b ds [(SF pw)]):=(cO hs);have sd4:(xe4 t H4 p c pw):=⟨ds,hs4⟩
zeA a:=JH.mem_erase_iff a
W0:=by unfold Kp.upd1;rw[cp]
zez:=by rw[list_sort_plain]
zcY:=by injection e with e1 _
zci a:=∃(its:aY) (n:Nat),a
zfJ:=by have:=pm.length_eq
XF a:={ s with heap:=a,toks:=t' }
Xz:=["_law_picture_here"]
zey a:=I1.kept (t':=tk) a
zbA:=by simpa using q
zcN:=(Zu n).toArray
zaY:=by simpa using e1
zbZ:=(l.map f).Nodup
zaX:=by simpa using hp
XX:={ s' with heap:=h2 }
WC:=∀ p∈ps,(j8 aJ [m5,dO])
zeh:=∀ x∈C,xE
Xc a b c:=by revert nd;refine (xgd (P:=(fun ns=>a)) b c ns)
zaW:=fun _ _ _ _ _=>V3
zaV:=∀ nm∈names,XZ
zcX:=by simpa using this.symm
zcM:=List DictEntry
zfk:=.str "come"
WI:=beq_eq_false_iff_ne.mpr h
zaU a b:=by refine (JH.length_le_of_subset a b)
zeg:=.type "dict"
zfj:=(eQ Result)
zfi a:=by have a:=(of_decide_eq_true a)
zcL:=(cZ ys.length)
zax:=(ae,h2.get? b,o)
V7:=(ae,X.s₀.heap.get? b,o)
zaf:=(ae,h''.get? b,o)
zfh a b:=(aT,a,.tup (prV b))
zch a:=(List.of_mem_zip a).1
zaC a:=by ext lF a;refine (sq6 ?_);intros
zcK:=Zu h.objs.size
zef:=Zu bs.length
zae:=.lst (sq.map V.ref)
zdw:=Zj _ (Zj _ e)
zex a:=assignEach a X.env
zdv:=ls.eraseIdx k
zdu:=(ae,H5 c,u)
zdt:=(fQ Str Addr)
zfg:=(BX "pair")
zds:=A.units<cLine
zbz:=crowd.length<=12
Xl:=.lst (crowd.map V.str)
zff:=o.dict=none
zcJ:=A.handled=none
zby:=.int vs.length 0
zfe:=Value->Bool
zbY:=Jt.update _ _ _
zdr:=us4.map V.ref
zfd:=xg9 I.hok e
zfc:=xkn I.hok e
zfb a b:=(H2 a)=(some (.dK b))
zad:=.lst (zs.map V.int)
zbe a:=by ext hR a;refine (fq ?_);intros
zee:=ls.map V.int
WP:=by refine (gx ?_);refine (io ?_);intros
zbd a:=(pH a jd (ae,H2 b,u))
zed:=ns.length<=n
zec:=Gl X "range"
XW:=d.params.defaults=[]
zfa:=(Zs jK)::us
zeb:=OutL H cs qs
zeZ:=blk0 Z fr 1
zeY:=s4.trans s5
zfI a:=new.filter (aj a)
zea:=(fQ eD Addr)
zeX:=asked y.1
zdZ:=(xfi x)=true
zbX a b:=s.heap.push (iY,a,.seq b)
zfH a:=(A.units+a)<cLine
zfG a b c:=PE X (.BoolOp a b pos) c
zac:=assignEach es X.env
zdq:=Itkt d ob kvs
zdp:=Itit d ob kvs
zeW:=ss'.Perm ss
zdY:=(zi "range")
XV:=(t.slot j)=(.live i)
zeV:=xs++[(k,a)]
zdX:=(aW (dF hl))
zdo:=(No pt.nm pt)
zdn:=(l.map r).sum
zbW:=(bE World Heap)
zdW:=(bE fH Heap)
zeU:=α->(dG β)
zeT:=k1 _ _ nb e
zeS:=I.hok b u e
zdV:=SqT K H p xs
zbx:=Rd H a (.dT kvs)
zdU a b:=Lay mask hs.toList a b
zaw:=.ask [name] fe 0 0
zaT:=(I.ok.bs b o e).1
zbw:=L.length<=t.mask
zbv:=(Eg d).objs.size
zbu:=(Eg 1).objs.size
zdm:=(lW t.C_a [])
zpd:=sl6.keep (Same.tups s6)
zab:=srt.filter (xa0 pt)
XU:=srt'.filter (xa0 pt)
zeR:=totI kI prs
zbV:=List (Option V)
zav:=List (Option Expr)
zeQ:=(oF,h y wG)
XT:=(fA H2 p (j4 gc q0))
Xy:=(vV,(zft+m)+n,cLine)
Xx:=prs.filter (mvB prs0)
zeP:=(fw H l ys)
zcI:=(KK (i0 2 df))
zcH:=(KK (i0 2 fZ))
zew a:=bindL kindOf a m x
zev a:=bindC kindOf a m x
WO a:=Builtin.Range.rangeSize lo hi a
zaS a b:=PW X (.BoolOp .And a pos) b
zbt a b:=PW X (.BoolOp .Or a pos) b
zaR:=(Ci "unbar" lS r)
zbU:=(Ci "bar" lS r)
zao a:=s.heap.FunFrames X.base a
zaa:=qs.length=cs.length
zaQ:=(aa:vs.length<=i)
zbT a b c d:=["picture", "pairs", a, b, c, d]
zcG:=(Gu prs).head?
zdl:=(ae,so a,s)
zeO:=PA X [a] ta
zcF:=(fJ do_ tQ vE)
zcE:=p.getD (k-1) 0
zcD:=Room q0 cU X.A
zeN:=(Lf N keep)
zaB a:=ps.Pairwise (fun p q=>a)
zdk:=cutV xs lo hi
zcW:=by simp only[kstep,e,e2]
V6:=by rw[rangeSize_one];ext lB
zdT:=ss.length<32
zbS:=20-crowd.length
VE:=["_law_lengths_here", "_law_pairs"]
zbc a:=Zq.mp (pm.mem_iff.mp a)
zdj:=(ae l.most n)
zdS:=CXo l.prog w
zdi:=PE X value tv
zaP:=(xs.all xfi)=true
Xt a b c:=(db,xdi (xdb xb0 a b gC) (xe9 c))
zcC:=(bK d.name fa)
Xs a:=PySem.W.methodObj (.ref f) a
zbR:=absurd z (YS _)
zcg a:=td Z H1 (fun x H2=>a)
zau:=fun n h=>(nomatch h)
zcf a:=Kp.Crowd room so a hs
VX:=["picture", "names", "pairs"]
zeM:=.ref (ad i)
zeL:=xa8 H ss rs
zeK a b:=(yi,4,s9.seqL hs,a,b)
zbs:=(N Dg)<=C.length
U8:=fun σ' H3=>(tc σ' H3 (fun b H4=>(cu,b,zfr,M H4)))
Xw a b:=OpR X (binaryOp a) (rI0 (LN b))
zce a b c:=by show(bj,a,F3 es'.length b,i,hi,c)
zaO:=(Jb a:Key)=(Jb b)
VM a:=(ae,h''.get? s.heap.objs.size,Rj a)
zfF a:=kas_desc f p cU a
Xk:=I.base.free b o e n hx
zdF:=by obtain⟨h1,h2⟩:=h
zcV a:=Zq.mp (I.stkSub b a)
WZ:=ts.map (fun t=>(Zs t.2))
zbr:=FpOk X pins H' b
Ww a:=by refine (Call_ (xd8 I hg hm boot_range a))
XR:=xab w' ps srt' pt.nm
Xv:=ObjM s.heap x dx C mA
zbb:=by show(IQ,43,run'.det run2)
zcB a c:=⟨a,c,k.pok,k.b,k.ne⟩
VS:=I.size_lt (Zl s.heap.objs.size)
zan a:=ifP (decide_eq_true a) ?_
zdh:=(fA H2 q3 NC)
zcA:=putK kvs aJ bO
zdg:=RelV (kV k) u
zaA:=by obtain⟨j,hj,ej⟩:=(ZM h)
zdf:=cs++[(nm,hs)]
XQ:=HOk X.prog X.w H' h'
WY:=xcw aK (xcw aK (xis aK))
zcz:=#[ju,wx,PX,B5]
Xr a b c:=by generalize eu:(eO a b)=H1;ext pd s1 c g1
X9:=xiz (ss:=ss) nx g k
zaN:=xfn H dl da names
Vi:=(ae,PySem.W.specialIn K V8 "__get__",zlb)
UW:=(ae,PySem.W.takesIn K (.builtin "object.__class__"),true)
zdR:=mv.mono more
Xj:=apply_ite (Ws (mir w))
zcy:=T.filterMap so
zeJ:=dk == .free
zeu:=by simp at hb;subst hb
zcx:=h.objs.size<=a
VR:={ cls:=.none,data:=.fields ps }
U3:=∀ b∈ch,(aR,(b∈X.ex)\/(AI b),AV,yp b,Il b)
zeI:=(k-1)-(i-1)
Vf a:=∀(i j:Int) (t u:Tok) (s:Shared) (Q:bA) (E:bA),a
VD:=∀ y∈scope.names,(y.2≠.cell)
zaM:=(ss.map rent).sum
zaL:=∀ s,((rent s)<=0)
VQ:=∀ x∈Ah,((Dj+(rent bn))<=dk)
Xq:=by unfold upd1 at hx;split at hx
XN:={ p with x:=x,y:=y }
WH:=∀ p∈prs,(r8 dO dO ib)
VZ a:=by generalize eu:(sv a e5)=H5;ext uj s5 he5
zcU a:=∀ t,((fL,ho t)->a)
WE a:=∀ H' b,(bB->(a->(Q (.bl b) H')))
Wv a:=(ae,scope.names.lookup y.1,a)
zcw:=bs.getD i true
zaK:=(bH,1+(c4 % 5))
zam a:=(fA H s.heap.objs.size a)
zbq:=xai (xu ps') cs'
zfE a:=by rw[Zc,a] at hs;cases hs
WX:=fun x y=>((lexK x y)=true)
zeH:=adv mask oN
zal a:=(kC,ty Z H (fun y H1=>a))
zeG:=b∈([]:aw)
zet a b c:=by ext nD g a b;show(bV,g,q,q _ c)
zdQ:=putK kvs k y
zak a:=ps.find? (aj (dU z.nm a))
X1 a:=by subst z;ext bV a mu mu
V2:=(pA (lX,0,xa (xah oz) xg))
zeF:=putF f y fs
zbQ:=below t.place j
zbE a:=⟨cR,fun q1 hq1=>a⟩
zbp:=(vN,xn<xf,xf<xn)
zaJ:=o.getD j (some 0)
zdP:=(Fa so1 ho1)
zbo:=GPr ps kI ib prs
zdO:=.str name tk
WG:=by show (cZ 0);exact (ZV _)
zbn a b:=kF _ _ (Z2 a) (s910 _ _ b)
zcv:=(aI h' st' sb)
zbm a b:=PE X (.Constant a j pos) b
zdN:=IsPart vu hi
WN a:=cs.filter (fun b=>(cP,b≠a))
WW:=.go own rent asked crowd
VY a:=∃ o,(a/\(∀ v,(o.data≠(.cell v))))
Xp:=by exact (ih p (by rw[e];simp[k]))
Vv:=h1.push (iY,"list",.seq ((sD).toArray))
Vy a:=by show(Eh,∃ v5 v6 v7 v8 v9 v10 v11:cc,(KG/\(σ'=a)))
zbP:=GOk zs.length g
Xi:=kvs++[(x8 cM,.int lQ)]
zcu:=canO w ss p p'
zbl:=(iw l hl l1 hl1)
U4:=["_law_picture_here", "_law_cell_here", "_law_most"]
UZ:=["_law_picture_here", "_law_lengths_here", "_law_pairs"]
zcT a:=by exact (nM,sa.trans sb,a)
zct:=(h7 cR q2 hq2)
Xh:=k b o (aj,hc (b6 z)) e
zbk:=!(iO (S4 c) nms)
zbj:=!(iO (S4 ch) dQ)
W7:=(wA,∃ p,(Fy Fj p.nm))
zde a b:=xei (wK a) (xdh (wK b))
WF:=fun f vs=>(PySem.call f vs)
zfD a:=⟨rfl,_,a,rfl⟩
zbi:=(ae,asked t,n)
zbh:=(ae,clsV c,cv)
X8 a b:=by show(hX,t,RH a rx);cases q;exact b
VC:=(lz,v,0,(v+iM).toNat,min v.toNat n)
zat:=(Bp [a] [(jA EC)])
WV a b:=fun kv=>(Kf,iR=(.inr a),iU iR b)
zdM:=(wY bq lS r)
V9 a:=∀ j,((j<n)->(sV,a,ky j,ad j))
zaI:=(valV kvs k)=none
WU:=sliceBounds lo hi none n
U5:=by show(uY,by rw[ly,Za,Za,qll]);show(gU,p,hp,fy i y hy);ext DJ
zdd a b:=(ES,lp,.ref oK,a,atk,b)
WB:=.dK (putK kl pX (.ref dq))
zqx:=A++(p1::(B++(p2::C)))
zdL:=IsPart vl lo
WT:=∃ u,(ae,h'.get? e,u)
Vz:=[.str (Z9 "left"),.str (Z9 "right")]
V5 c:=by rw [Zt,ZB];show(d9,c,ap,bN a ha b hb e)
U7:=["_law_cell_here", "_law_size_here", "_law_many"]
zdc:=(aI i hi hi2)
zbg a b:=(cA a T.c_ac T.n_bx rfl b)
zfC:=by refine (.cons ?_ ih)
zas a b:=Zg (Ji a b (fun _ _ h'=>h'))
X7 a:=((-1000000)<=a)/\(a<=1000000)
VB:=by refine (ZK rP ?_);unfold xu;show(aD,Za,pok.le)
V1:=.frz ob (.dT (LnT (lens b)))
zbf:=AkD H d al asked
zeE:=(oG,h b MA)
zes a:=fun b u b1 b2 e=>a
Vr:=["width", "height", "points", "seats"]
Vk:=D8/\(Gr/\(∃ vs,(ki/\(h.DictOf uf a vs))))
zer a:=fun i y p hy hp=>a
zeq a:=fun j y s hy hs=>a
UO b c:=by show(kO,he,∃ q,(IA q),let ⟨q,_,_,hq,_⟩:=dd'; SY,xeb I zb hs he (xig b hd c dd'))
WS:=fun tk=>(Fm,uK,I.tok tk)
zlp:=if s.1 then p.x else ((gz+1)-p.x)
zfB a:=((dU a "left"),r)
zcd a:=by have:=a;ext cF e this this
zaH a b:=⟨(HR 2),a,b,(zP hp eR)⟩
Va a:=∀(s:Shared) (u:Value),(BindsTo s fd (jT [u]) [(a,u)])
UM a:=∀(cdv:Value) (A:Around) (outer:mM) (s:Shared) (H:Hp) (vs:af) (Q:VK) (E:XK),((zbG (W3 kN cdv))->a)
zaj a:=by simp only[shp,Zp,QH.injEq] at a
WR:=∃ ks' b,(Fv/\(p5 ks' b))
WA:=["pairs", "name", "other"]
Wz:=["before", "now", "seats"]
U1:=["_law_lengths_here", "_law_names_here", "_law_pairs"]
XM a b:=∃ tk,(ae,mg a,.int b tk)
Vq a:=by unfold picF;rw[Zy,(Fn a "width")];show ((Jf (du a) zni)=_)
WM:=by obtain ⟨_,k,ek⟩:=(key s' a' e)
zar a b:=by generalize eu:a=H7;ext pd s7 b g7
zdK:=(hashAt i)=h
zbO:=(aI H1 k1 pic1)
zdJ:=(bi N ps st)
zfA a:=by obtain⟨l,hl⟩:=(xd5 a)
zdI:=(h7 zK n hn)
zcs:=Jt d s.heap h'
zbN:=nps nm (Zk hnm)
zcr:=cans kI ss prs
zba a:=(a:PE _ _ (tFld K _ _))
Vu:=["self", "askers", "asked_by", "gap"]
zaG:=UE++((j,h,x)::UD)
Xb a b c:=(QS K mainGlobals a)=(oh,.int b c)
zdb:=⟨0,0,0,0⟩
Xg:=live_mem jk.1 jk.2
zeD:=Itrs lo d n
zcq:=fun c u _ e=>e
XJ:=putK kl pX (.ref dq)
Ve:=by ext nZ i hi e;rw[ZJ] at hi;injection e with e1 e2
zdH:=(Cg eA h hb)
X6:=(Kg (C3 aU q1) hq2)
VI a b c d:=⟨fun i _=>a,fun i H b H'=>((H'=H)/\c),fun i _=>d⟩
Xf:=∀ s,(BK->((rent s)=0))
zbM:=(kR xn yn b rn)
zbL:=(kR xf yf b rf)
XI:=Aft ps ss xs ps' ss'
zaF:=mayB ss aJ p'.2
zbK:=fun k h1 h2=>aa
zfz a:=by rw[a,Fx,e] at z;cases z
VH:=["picture", "name", "side", "row"]
zcc:=by show(ag,od,J,hl,I.look)
zcS:=by show(ag,m,hn,hl,I.loc)
zep a:=fun c u n1 n2 e=>a
Vp:=items.toList.drop (sIx items.size 0 lo)
XE a:=∀ C ex s H pn,(PE a elt te)
Xo a:=∀ C ex s H pn,(PIf a ifs tc)
zda:=(aA,no wf,e8)
zbJ:=hm b _ q (aj z)
zaq:=(xG Bn (Xm Ah Dj))
VW a:=by have m1:(p1∈a):=(lA e);have m2:(p2∈a):=(lA e)
X0:=by have knd:((cX).Nodup):=(tJ nnd)
zbD a:=[.str "shift",a,qy,rR]
UQ:=(fR,putF f v ((k,x)::r),(kf,k,f,uJ::r,(k,x)::(putF f v r)),rfl)
zdE a:=Hand room a so ho s
Xn a:=by obtain⟨h0,h1⟩:=(xbd m (sP,m7<a))
VU a b:=[.str jg,.str jh,.ref qc,.int a,.int b]
Vm:=by show(jN,σ',H',I,q,h);exact(bQ σ' H' I.unwish q)
Vh a b:=by have hb:((g == a)=true):=(beq_iff_eq.mpr h);simp only[Jf,hb,b]
Vo:=∀ p∈ps,(wc/\((p.x≠x)/\(p.y≠y)))
Xa a:=by show(ah,sa,Kg (nN CB dO) hq1,sb,a)
XH:=k _ _ (ne_f eb e) eb
W6:=(jw tp 0 _ (T4 htp ?_))
UX a:=by show(mV,xaq (xgm rfl) rfl T.n_sum (PyProof.Rows.Boot.«sum») (xa a xg))
zrq:=by exact(cI e1 (kS k (Gz d1 k)))
zcp a:=fun c v hc a=>(k c v ?_ a)
X5:=ps.map (mvP nm x y)
Vb a:=(zov,xeo rfl,xbi xfu rfl T.n_range boot_range a)
Vt a b:=⟨1,1,_,Mz,a,(tV (Oz g5) (cN (GU c3 b)))⟩
zcZ a b:=a->((qs'=qs)/\(prs'=b))
zfy a:=.cons rfl eR eR a
X4:=by rw[<- Jm,hes,Za]
VG a c:=∀ b u,(bg,b≠hd,b≠dp,b≠do_,a,c)
W5:=[(MB jg jh),(MB jh jg)]
UP:={ s3 with heap:=s3.heap.push (iY,"slice",.fields (#[vl,vu,.none])) }
Vx a:=I.laid (t':=s.toks) (o:=a) (xF ob Gw) bv ?_
zdD:=by intro so2 ho2 cs2 r2
W4:=by simp only[Zq,Yc,or_false] at hb
VF:=∀ H',(KG->(((p i)=false)->(M H')))
zco a b:=xg5 (v:=(.int a)) rfl b eR
zap:=s _ _ (ne_f x e) x
zaE:=PIE X pins Z tg R
zfx a:=xc1 _ a hi p' hp'
zla:=(bb,KG,(p i)=true,UH,N y H')
zdC a:=by show(ie,hv',hv _ a,Zc)
zcb a:=(Aw nm rfl hn true a)
Vj a:=by ext sX;ext bF o e c d a;show(aE,o,e,kS z (Gz d z))
VA a:=(uD,∃ p q t,(aR a wy (oY (C3 aU t)) Ty))
Vl:=by obtain⟨hp,gs,dr,tk,os⟩:=s;ext jb at_ eq g g
UU a:=(cP,((zfq a ([]:List Keyword))+(IB,([]:List Keyword).isEmpty))<30)
zeo a:=fun x hx y hy e=>a
zfw a:=Gvn a lg prs qs h
W9:=by refine (Y6 (xhl I hg hm ?_ hdb))
Vn a b:=xaq xhv rfl T.n_abs boot_abs (xa (jD xd7 a b) xg)
WD:=by have nl:(((dQ).length)=ps.length):=zsv
V0:=Geo.cells pw p2.x p2.y b2 r2
Vc:=["pairs", "name", "other", "seats", "giver"]
Wy a b:=(aR,iW m y a,n<=9,m<=9,rF b)
VJ:=by have e':(¬ (q.1=k)):=(aj,e (h1.trans z))
VO:=((y<=v)/\(v<r))\/((r<v)/\(v<=y))
zbI:=f UC (.int j u)
zbH:=(e=x)\/(Bi e x)
VT a:=⟨(bQ,so,ho,run.mt,xgz run nnd),a⟩
VP:=s.heap.IsSliceOf sl vl vu .none
zcR a:=by obtain⟨z,its,n,r,e⟩:=a
U9:=∀ x,((foldedSetIterable iter X.env x)=(pure x))
V4 a:=by have:=a;ext uM Jq ZZ this this
zmS a:=∀ k,((a<=k)->((k<xs.size)->(j<=zfu)))
U6 a:=∃ j e,(((t.slot a)=(.live j))/\((cC L e)/\((CZ=hV)->zqy)))
UN:=["_law_lengths_here", "_law_names_here", "_law_pairs", "_law_seats", "_law_k"]
Vw a:=fun _ _ _ _ _=>(xv (r:=(xks K)) xey (xah Af) a)
UV:=∀ nm∈names,(∀ q,((∃ kvs,((sF dl)/\(zH=CY)))->(q≠da)))
U2 a:=∃ q qs s l,(aR wy (oY (nN,.ref qs,l)) (mw qs s) (ba a Dk))
UT a:=by show(aD,sd1.keys,xje (f:=(fun p:Pr=>aU)) (k:=Jb) pV (fun _ _ e=>(Jb.inj e)) a)
WL a:=tSeq t2 (om t3 t4 (om t5 t6 a))
zhR a:=Kp.Rch a (.go (setI own nm 0) rent fe [nm]) (Fa own' rent')
WQ:=below.go xs j fuel lo hi
znh:=[yt,DW,PY,(iU "rent" d_r)]
Vd a b:=by refine (xn3 lk hcd S len a);ext ag t h q b;show(aE,t,h.nox,q)
Vg:=fun b u n1 n2 _ e=>(k2 _ _ n1 (k1 _ _ n2 e))
US a:=by rw[Zc,Ze] at h1 h2;ext gU z hz h1;ext gU z' hz' h2;ext uC hz hz' a
UL a b c:=by ext sQ;obtain⟨⟨dx2,hpa⟩,⟨kd,hkd,_⟩,_⟩:=(id k.dr.pic);refine a;obtain⟨k',g'⟩:=(k.pts g k1 pic1 b);exact c
UK b:=codeAny b callerA (.call (.ref fa) (jT j0)) (nH r (aR,r=(.ok (.ret (.bool true))),OldK s₁.heap s'.heap,s'.os=s₁.os,Pp)) s₁
zrp d:=∃(a:A0) (b:A1) (c:A2),(gm/\d)
zmR e:=∃(a:A0) (b:A1) (c:A2) (d:A3),(gb/\e)
zro:=by simpa using I.len
zrn:={ s with heap:=h'' }
zsu:={ s with heap:=Bd }
zst:={ s with heap:=VL }
zjD a:=∀(pins:bp) (s:Shared) (Z:St) (H:Hp) (Q:VK),a
zrm a:=∃(o:Obj) (its:gL) (n:Nat),a
zrl a b:=PySem.W.methodCall_KW (pl:=pl) a b
zkZ a:=∀(w:World) (mg:fH) (fa:Addr) (h:Heap),a
zrk:={ s1 with heap:=h' }
zma a:=∀(j:Nat) (x y:DV),(Lg->((cC ys y)->a))
zlH:=by unfold absI;split<;>split<;>split<;>omega
znQ a:=by unfold acr;cases b1<;>simp at a ⊢<;>omega
znP:=∀ a∈T,((so a).isSome)
zng a:=∃ v5 v6 v7 v8 v9 v10 v11 v12:cc,a
zpG:=∀ z∈zs,(r8 z z sz)
zpc a:=∀(j:Nat) (s:Seat),((cC al s)->a)
zmQ:=PySem.F.args_dict_items_1 _
zss:=List.reverse_perm _
zqw:=.type "BaseException"
zmq:=PySem.F.args_tuple_add_2 _ _
zmP:=PySem.F.args_dict_get_2 _ _
zrj:=sc.isCoroutine=false
zri:=sc.isGenerator=false
zpF:=Zu x.cps.toList.length
zsr:=.lst (rs.map V.ref)
zrh:=.lst (qs'.map V.ref)
zrg:=.lst (qs5.map V.ref)
zsq:=I1.hok.fresh (Zl _)
zsp:=Nat.min_eq_right aa
zlZ:=PySem.F.args_dict_get_3 _ _ _
zpE:=x.cps.toList.length<=i
zrf:=scope.names.lookup y
zqv:=by refine (gx ?_);refine (wq ?_);intros
zmO:=(H1 s1.heap.objs.size)=none
zmN:=(F6 x (du "__classdict__"))
zqu:=by refine (gn ?_);refine (fo ?_);intros
zpD:=by refine (gn ?_);refine (sq4 ?_);intros
zpb a:=abc.cps.toList.filter (fun c=>a)
zkt a:={ s1 with heap:=(zai "dict_keyiterator" a) }
zpa:=sd1.keep (Same.tups s2)
zoZ:=sl4.keep (Same.tups s5)
zre a:=(ae,scope.names.lookup y,a)
zqt:=x.cps.toList.getD i 0
zso:=(ba x.cps.toList c)
zou:=I3.kept (t':=s1.toks) vO
zot a:=(ae,h'.get? s.heap.objs.size,a)
zpC:=Qv plain_remove_loop _
zmp:=Qv F.plain_set_update_loop _
ziq:=(uI (ae,s.heap.get? b,u) (ae,h'.get? b,u))
zmo:=h.push (iY,"dict",.dict (#[]))
zqs a:=X.s₀.heap.FunFrames X.base a
zjX:=Qw "BaseException.__getattribute__"
zmn:=Qw "object.__getattribute__"
zsn:=xs.length=ys.length
zsm:=xs.length=ds.length
zsl:=["name", "holders"]
zoY:=(ae,bootBuiltins x,u)
zpB:=(az (aj,e (Jb.inj z)))
zqr:=Yn C s.heap.objs.size
zmM:=∀ v,(((bO).data)≠(.cell v))
zqq:=(rnd mask h (13+m)).1
zsk:=standAt apos.atName
zoX:=Int.lt_or_gt_of_ne this
zpA:=sysModules<h.objs.size
zsj a:=(aT,a,.lst (rs.map V.ref))
zsi:=(ae,K.lookup a,o)
zqp:=by refine (nx ?_);refine (fq ?_);intros
zlG:=pyIter (.ref s.heap.objs.size)
zpz:=ZK I.ok.bsz I.ok.above
zos:=(yo C "__init__" (aB f))
zpy:=by simp[valueAt,YU,e']
zrd:=by simp[atKey,YU,e']
zsh:=∀ x∈BR,(x∈ns)
zlF:=∀ x∈BR,(x∈(keepN N' ns))
zrc a:=(eO,l,.lst (xs.eraseIdx a))
znO a:=s.heap.IsKeyIter it d a es.size ep
zsg:=by simp only [h,if_false]<;>omega
zjj:=∀ p∈ps,(wc->((p.x≠x)/\(p.y≠y)))
zhO:=∀ p∈ps,((p.nm≠pt.nm)->((p.x≠x)/\(p.y≠y)))
zkY:=(zck,wpAny_pyIter_rangeiter st h)
zgi b c e:=by refine b;ext qT;show(BW,t1,t2,xix I1 d);ext fX t1 t2;rw[m.trees];refine (JL rfl (YL (Yh (thn c e))));subst ey
zsf:=keyKind' vs.toArray
zrb a:=by rw[xcg];unfold Kp.upd1;by_cases zc:(z=a)
znN:=fun _ s'=>(Kk,Q σ' H')
zqo:=∀ n∈tH,(∃ c,GT)
znM:=["_law_script", "_law_k"]
zlY:=Nat.mod_lt _ (Nat.succ_pos _)
zoW:=of_decide_eq_true k.1
zor:=(ae,s.heap.get? aJ,bO)
zqn:=(wA,∃ p,(Fy pU aU))
zjW:=(fJ qd (ae,H1 c,u) (ae,H4 c,u))
zoV:=⟨H,iI,(aA,xiu r,q)⟩
zoq:=s.heap.Ns X.env.locals m
zpx:=(canO gz ss q Pk)=none
zlE:=r.drop (HT.sIx xs.length 0 lo)
zkX a b:=by refine (SeqAt.in_listAt a pl.isList b (aZ lU H I rfl ?_))
zoU:=by cases rr;ext d6 t r;ext d6 t' r'
zop a:=∀(N:wV) (M:LF),((∀ y H',zla)->a)
zoT a:=by rintro ⟨u,v⟩;rw[a,mem2,Prod.mk.injEq]
zse:=.UnaryOp .Not a pos
zsd:=.Subscript o i pos'
zlD:=.hand so ho (upd1 asked s a) s
zoS a:=run2.fit.leastF lo knd a (dX zfo)
znf:=f aX y (by simpa using hy)
zra:=isTrue e X.env whole
ziG:=(pH e (ae,h.get? b,u) (ae,h'.get? b,u))
zoo:=(GI,x∈BR,S.length,S)
zlC:=prs0.find? (fun r=>(dU Ad aU))
zqZ a:=by refine (wpAny_notIn_of Ab a dd.mapOf ?_)
zsc:=qq H3 (s1.trans s3)
zoR:=InstAt s.heap x ox C od
zpw a:=(ae,mroIn K C (.type a),true)
zjV:=qs.map (fun q=>(V.ref q,V.bl true))
zkG:=Builtin.«list.sort» { pos:=j0 }
zmL:=by unfold xu;ext aD Za p12
zon:=by rw[hj];simpa using ew
znL:=by rw[Jo];simp only[decide_eq_true_iff]
zmm a:=by rw[List.map_id''];exact a;exact pV
zsb a:=by rw[xk,a];congr 3;funext nn;dsimp only
zqY:=s.toks+(knd.draws k)
zoQ:=(canF w ss p r)++(Gu r)
zml:=by intro hm;exact(cI,Zf.mpr (dP hm),xce _)
zkW:=∃ sl,(RF { o with slots:=sl })
zpv a:=by refine a;refine (gx ?_);refine (iq ?_);intros
zgA a:=∀(pins:bp) (s:Shared) (Z:St) (H:Hp) (x y:V) (v u:Value) (Q:VK),(bb ax tO gg a)
zqX a:=∀{H':Hp},(Iy->(∀ b∈fp,a))
zpu:=by simp only[ZA];omega
zkV:=∀ y∈sc.names,(y.2≠.free)
zom a:=∀(w:World) (h:Heap),((YP w h)->a)
ziz a:=∀(kV doc pm:Value) (an:iD) (cdv ct:Value) (us:aY),a
zsa:=by unfold clsIn at hc;split at hc
zol:=by dsimp only at b;omega
znK a c d e:=∃ i xs H',(aR,Inv a [] Ou H' c,tn i d,Iy,e)
zok:=I3.kept (t':=s2.toks) vO
znJ:=∀ x∈es',((shp bn)=sh)
zhI a:=∀(j:Nat) (h1:(j<its.toArray.size)) (h2:(j<its2.toArray.size)),a
zmK a:=∀(i:Nat) (x:V) (H2:Hp),(tI->(kZ->a))
zlo:=["_law_hand", "_law_deed_here"]
zqW:=(k.pok.ok pt hpt).nm
zrZ:=by unfold Kp.upd1 at e;split at e
zmJ a b c:=∀ H' l qs cs so ho,(bB->(oM->(jt Lc a b c l)))
zpt a:=by let Pv (j:Nat) (Z:L2.St) (H2:Hp):Prop:=a
zps:=∃ pt∈ps,(pt.nm=nm)
zrY a c:=(ae,s₁.heap.get? b,o)->(a->c)
zkU:=some (toP (way t.mask hV (m+1)))
znI:=(cI,dd.mapOf,h _ _ iI ?_)
zqm:=(t.fits es.size)=true
zne:=(gF b ps ⟨#[],(lA e)⟩)
zoj:=pr6'.keep (Same.tups s7)
znd:=(ae,s₁.heap.get? a,NB)
zql:=(jf "width" "height")
zoi:=(jf "askers" "asked_by")
zrX:=(jf "before" "out")
zqV:=(eW (cY r.length z))
zmI:=Obj.data_mapDictKeys hdat _
zlX a:=(mh List.contains_cons a Bool.or_true)
zoP:=by rw [Zc,Ze] at hx;ext gU nm hnm hx
zrW:=es.any (aj,dEq z d)
zlB:=p.map (fun i=>(vs.getD i .none))
zoh:=es'.map (fun x=>(bn,cM))
zrV:=.Attribute o f pos'
zrU:=fun k=>(es.getD k Tz)
zrT a b:=by rw[KasT.kasWp_bind];refine a;show (pJ b G)
zqU:=fun n s=>⟨dw,dw⟩
zrS:=(oX,bs.getD i true)
zrR:=(nh,hb,kk b o vm e)
zkT:=ta Z H (fun x H1=>(zcl,R x y H2))
zlW a:=by show(cJ,wpAny_eqIsQuiet_tuple a ?_);ext yj Wp
zqk:=fun i=>((uU).1,(bc uU))
znH:=l.find? (fun c=>(iO c m))
zks a:=(yd,xs,vx/\(∀ p,(((H1 p)=none)->(kK p a))))
zic:=(aZ,.int ys.length,H,iI,⟨zp,(bR ZA hlen)⟩,q)
zpr:=(N (e::Ce))<=Ce.length
znG:=by exact (Zf.mpr (dP,Zz.mpr ⟨hy,ap⟩))
zqj:=by rw[(az z1)] at hm;by_cases z2:yC
zmH a b:=by rw[Zy,(Fn "opened" a)];show ((Jf (du "opened") b)=_)
zog:=s3.toks+(([]:Be).length)
zlV:=by refine (Zo (eW,Qv F.xl_plain_dict_loop _))
zpq:=(gJ 4 xcc.nd 5)
zpp a:=by subst e';ext BU r a;have hlen:=r.length
zoO:=⟨o1,k it ap _ e1,r⟩
zkS a:=by refine(xI s2.heap.objs.size [s2.heap.objs.size] a)
zpo a:=(aV a (jf "askers" "asked_by"))
zrQ a b:=(bi a (jf "askers" "asked_by") b)
zqi:=Zu (gV,pt.x,0+(-1))
zmG:=(q0=true)->(A.handled=none)
zlU:=(oY (C2,An aJ,(b8 aJ).2))
zrP:=(fA H2 p (j4 dY o))
zlA:=(vV,((A.units+1)+n)+m,cLine)
zoN:=by exact (eV,"right",.inr (.inl rfl))
zpn:=ss.countP (tog room T)
zlT:=.Compare a [op,op'] [b,c] pos
zof:=z.sameBut hs (cne y c e)
zqh a:=(cT (eO s.heap.objs.size e) a)
zkr:=decide_eq_false (fun q=>(nomatch q))
znF:=(i0,3,xv xa3 df (mG 3))
zoe:=fun kv=>(Kf,iR=k,(iR,y))
zln:=∀ j,((j<n)->(p5,ky j,ad j))
zkq:=by show(gU,p,hp,fy i y hy);unfold xu at hb;ext DJ
zqT:=.Slice lo hi none p2
ziP:=by show(tW,i,xs.length,aa);show(C1,⟨xs,q,bv⟩,hd Z H p)
zjI:=by show(tW,i,kvs.length,aa);show(C1,lL q,hd Z H p)
zmF:=.dK (putK kvs Fk (.ref dq))
zqg:=A++(EO::(B++(EQ::C)))
zrO:=by show(U0,⟨q,hlt⟩,kvs.length)
znE a:=g.pl.keep (jj,kc _ _ (ne_f e a) e)
zjU a:=(XG a)\/(∃ kvs,((sF p)/\(k=(! kvs.isEmpty))))
zqS:=by subst h1;rw[cp];by_cases h2:(x=s)
ziZ:=∀ vs Z H Q,((t vs Z H Q)->(t vs Z H MS))
zmE:=(Ep,(own aU)+(rent bO)).sum
zkF:=∀ s a,(pq->(Xm,lens a,own a))
zrN:=(aA (fW iG hq1) iG)
zrM:=(aA (fW zL hq1) zL)
zqf:=.inr (bY (aq l1 hl1))
zqe:=.inr (bY (aq l2 hl2))
zqd:=.inl (bY (aq l1 hl1))
zqc:=.inl (bY (aq l2 hl2))
znc:=.ins C s.heap.objs.size []
zhH a:=by refine (YB F.xl_entry_dict_loop ?_);rw[(Ys F.xl_plain_dict_loop _)];show a
zod a:=Jo.mpr ⟨n,a,decide_eq_true r⟩
zio:=(yo C "__setattr__" (yw "object.__setattr__"))
zkR:=holding [ov] (getMethod ov m pl)
zkp:=∀ i Z H,((i<=xs.length)->(tP->qW))
zhc:=∀ i Z H,((i<=kvs.length)->(tP->(aT,d,.frz ob (.dT kvs))))
znb a:=(NP,WK/\R4,v,a,WK/\(kvs.length<=i))
zqb:=by rw [wF,xif] at c;dsimp only at z
zge:=by unfold Geo.lvL Geo.lvN Geo.wayI;ext yj if_true;rw[(fR,(pt.x+1).toNat,(gV,pt.x,0+(-1)),aa)]
zoM a:=by exact(jw qa rfl (cm a) (nM i6 (cE c hc)))
zna:=(gJ 6 sc_a4.nd 7)
zju:=by exact (absurd (Zf.mpr ⟨q,z2,by rw[<- e,z]⟩) jF)
zkE:=by exact (absurd (Zf.mpr ⟨p,z,(bR e z2)⟩) jF)
zoc:=(acr w x2 b2)+(eI y2 r2)
zji:=(cZ y.length)/\(k=((cV y.length) != 0))
zjT:=(cZ y.size)/\(k=((cV y.size) != 0))
zqa:=(eI yn rn)+(eI yf rf)
zpZ:=(eI yn rf)+(eI yf rn)
zpY:=(xbq w p1)+(xbq w p2)
zpX:=(xbq w EO)+(xbq w EQ)
zjC:=by ext dW p0 hp0 hp;rw[xhb] at hn;exact (xne nnd hn)
zqR a:=by obtain ⟨its,r',pl,hz⟩:63:=a;ext zdG
ziY a:=xgb (nb / a) (xs:=(rs.map V.int)) (aj,rn (Qz.mp z))
ziX a:=xgb (nb / a) (xs:=(cs.map V.int)) (aj,cn (Qz.mp z))
zhx a:=by have hz:vx:=(cY,YD rel,z);show(cK,hl,(cZ,(yD).length),(gO,xbs kvs k v),a)
zgD a:=by have hz:(cZ vs.length):=(cY rel.length z);show(cK,hl,(cZ,(yD).length),(gO,xbs kvs k v),a)
zqQ:=by rw[Gp,(if_pos (h1.symm.trans e))]
zrL:=(ae,H6 u,tT jy)
zqP:=(ae,fs.lookup f,v)
ziy:=by rw[I.ok.glob];exact (I.mod.glob.keeps I.bk)
zob a:=(ae,PySem.W.takerIn K C a,none)
zkQ:=prs.all (fun p=>(iO bO (uE aU)))
zmZ:=ps.filter (fun p=>(cP wc))
zpm:=Q4 (oX,vs.getD i JG) p
zqO:=fun n s z=>(nomatch z)
zoL:=ss6.map (fun s=>(s,m7))
zmD:=cellsFrom jK scope.names []
znD:=⟨xmv _,(aj (lA xm2))⟩
zpl:=by show(cJ,wpAny_seqItems ho hd ?_)
zjS:=(pH ls (ae,H1 b,u) (ae,H2 b,u))
zqN:=vs=[bq,mS,lS,.int r]
zko a:=wpAny_loadName_cell I.ok.kind hk hc hcell a
zmk:=(M8,e,some (.Name x pos'))
zpW:=(gvB srt cX prs)=true
zqM:=(kf,g,f,some u,mA g)
zqL:=(fb 64 rfl zK zK ?_)
zjH a:=(aR,y=(.int i),a,(ae,atI xs i,v),Q v H)
zqK:=(excB ss Pj Pk)=true
ziO:=∀ d,((ae od d)->(∃ fs,(aT,d,XD d fs)))
zmj:=Kp.Rch sE zbB (.out (nm::hs))
zkP a c:=(aR a GN Hz (ay vd KF crowd.Nodup al.Nodup c))
zjR:=(AY (uP dp kvs hk (cN (DR zfs ?_))))
zkn:=fun v s1 h1=>(thn h1 (aI itv s2 h2))
zgP:=∃ so2 ho2,((Kp.Mt (xax (xab w ps srt)) so2 ho2)/\(∀ z∈kB,zei))
zhu b:=P (.done (.ret .none)) { s with heap:=sortedHeap s.heap a vs b }
zmC:=(es'.getD j ([],0,.none)).1
znC a:=Srt.g_at (by rw[<- Jv];exact (Zb a))
zhG a:=b.congr (fun a' x'=>⟨.inl,(fE,h.elim id (aj,nomatch a))⟩)
znB:=(wC i4)=⟨f8,At,f8,AU⟩
zkm:=(SqL X.K H p ys)\/(SqT X.K H p ys)
zhW b c:=b\/(∃(qs:Addr) (s:Seat) (a:Str) (so1:bC) (ho1:aG) (n1:Nat),c)
zmY:=by rw[e1,e2];simpa using c
zpV:=if (i<0) then (-i) else i
zpU a:=if a then (keep++[nm]) else keep
zlm b:=show (s.heap.IsTuple a its.toArray) from b
zjQ:=∀ b o u,((aT b LH)->(ae,H' b,LH))
zkl a:=by refine a;show(yH,ss6,pm6.trans dr.pm.symm,lt6,dr.lt)
zjB a:=by have:=a;unfold xcb;revert this;cases (IP,f8+d)<;>simp
zqJ a:=by unfold frs;ext cD J9 hf a
zpT a:=(!(cP,a<[97]))&&(!(cP,[122]<a))
zho a:=∀(pins:bp) (s:Shared) (Z:St) (H:Hp) (D:Ends),(ax->((t D Z H)->a))
znA:=∃ xs,(qW/\(xs.length<=i))
zpS:=fun v _=>(v=(.bl true))
zoK:=fun s:Str=>s.cps.toList
zmi a b:=by obtain ⟨_,_,⟨a,_,dd⟩⟩:43:=b;exact dd.typeIs
zhe:=xh6 (xs:=ds) (ys:=es) (e:=Eo) (fun j x y h1 h2=>(xit h1 h2))
zqI a:=by rename_i hm;exact ((hm _ (pr _ a)).elim)
zqH a b:=by rintro ⟨rfl,h⟩;show(fX,gV a b,lq ZJ)
zqG a b:=∀(i:Nat) q ks,(B4->((ba a ks)->b))
zqF:=∀ x∈L,(mw bn cM)
zhn:=fun _ _ _ _ _ _ us hl=>(xsp us hl (fun _ _ _ _ _ _ _=>LG))
ziN:=∀ p∈ws,((H2 aJ)=(some (.tup [m5,dO])))
zhC a b c:=∀{ss:a}{ys:af},((zS ss.length)->(b->(∃ rs:aw,((ys=(rs.map V.ref))/\c))))
zll:=∀ n x,((x∈Ah)->(np dk 46))
zlS a:=∀{α:Type}{zs:aP} (hz:(i<zs.length)),a
zpk:=xaj (xb2 (hZ xa4 xa4))
zmX a:=(a<=xs.size)/\((∀ k,((k<a)->(zfu<j)))/\(zmS a))
zrK:=(N.take P.length)=P
zoJ a:=some (HO.dT (_++[(eA,V.int a)]))
zpj:=(Jl X.K (.ref f))=true
zkk:=by show(aE,13+m,by unfold turns;omega,bR xjc e)
zmh:=by refine (List.ext_getElem ap (aI i h1 h2))
zpR a b:=by refine (wpAny_ite_split (fun _=>a) (fun _=>b))
zkj:=(H q)=(some (.dT (LnT (lens nm))))
zoa:=by rw[l];exact (rel.val k)
zoI a:=by have snd:a:=(dr.pm.nodup_iff.mpr dr.ok.1)
zlk:=(x'.2-(own a'))-(rent x'.1)
zlj:=(wI,m,xs[((cL+(Gq*1)).toNat)]?)
zrJ a b:=ZQ (by show(ui,a,pic.len):b<13) au
zqE:=ZK (xhp xs lo hi) hz
zht a:=(us.length=ps.length)->((bindArgs a (jT us))=(pure (ps.zip us)))
zqD:=by intro z;exact (absurd z (g.no n))
zkO:=some (assign (.Name y py) X.env)
zki:=xbn (oX,xs.getD i []) ad xs.length
znz a:=by refine (wpAny_execs_cons (thn a (aI f s1 q)))
zrI:=(OK "seating" p znh)
zmg:=(l.take i)++(c::(l.drop aX))
zhV:=(kK l (eO,l,.lst (ts.map (fun t=>(.ref t.2)))))
zkN:=(lastMarks [op,op'] [b,c])=false
zmW:=lenI gz pt.x pt.y s.1 eB
zrH:=storeName X.env x u
zmB:=(kvs.length+L.length)<=1000
zrG:=(n1+(rk a))<=(n+20)
zny:=by ext sX;ext bF o1 e1 c1 d1 st;ext zrq
zmV a:=∀ p,(((H2 p)=none)->(R (.ref p) a))
znZ a:=(xF ps ⟨#[],by rw[a,q];simp⟩)
znx:=Kp.kstep (xax lens) so ho
zrF:=by subst c;rw[(aN FV),cp,(az nb)]
zhU:=SetT knd h2 s.heap.objs.size (xbn ky ad its.size)
zmA a:=by rw [jS,(az (aj,n1 (c.trans z.symm)))];exact a
zli:=JL rfl (PySem.evalArgs_none ?_)
zkh:=xb2 (xa xa4 (xa xa4 (hZ xa4 xa4)))
zrE:=Mod X.K X.mg X.base
znY:=(yF (V.ref bn,V.int lQ))
zrD:=.hand zej zek asked l
znX a b c:=(F3,a,∀ s,(b->(∃ m,((m<a)/\((lcg c m i)=s)))))
zib:=by ext xN;show(ag,p,hp,hpq,pt1.get hqa);exact(zfl UG (nM i6 zd))
zgT a b:=by show ((its.toArray.eraseIdxIfInBounds a)=((b).toArray));rw[List.eraseIdxIfInBounds_toArray]
zlh:=ss.countP (Kp.tog room (nm::S))
zkD:=(DU,seqObj "list" vs.toArray n)
zoH a b:=(fF ys H2 (aR kZ (Ij l ys) (zS a) b))
zrC:=by ext FA lo hi;ext aE hs h1 h2
znw a b c:=⟨let ⟨dx,e⟩:=g.ins; a,b,g.ho.keep c⟩
znv a b:=by ext F2;show a;rw[<- Array.forIn_toList];refine b
zjG:=Builtin.Slice.sliceAdjust lo hi 1 iM
zoG:=letOwnedTupleGo tg FW u
znW:=l.map (fun n=>(k n,f n))
zlg:=by ext Nw;exact(jw qa rfl (cm UG) (nM i6 zd))
zlR:=by ext GJ;ext UY;show(ag,u,hv,ru,rel.get hx)
zpQ:=(es.getD jk.2 Tz).1
zhb:=by rw[(show (es=ds) by injection ed with z;exact z.symm),xek];exact (Z1.same _)
zoF:=fun f g=>⟨f,g,YZ _⟩
znu:=fun b z=>(absurd z (noA b))
zlz:=(lz,v,0,max (v+iM) 0,min v iM)
zjA:=pl10.keep (Same.tups (s11.trans s12))
zhg:=(CK,(g (kas_rev p 0 k) i)=(if (i<k) then (g p Mw) else Dh))
zkM a:=wpAny_loadName_local I.ok.kind hk hn hm a
zjz a b c:=by obtain⟨k0,k1⟩:=(xbd m a);obtain⟨j,hj⟩:=(Jy k0);have jl:(j<b):=c
zgV:=by show(fX,fun i m Z H=>(bM,m,xs.length-i,i<=xs.length,tP),S3 xs.length)
zgN:=by show(fX,fun i m Z H=>(bM,m,kvs.length-i,i<=kvs.length,tP),S3 kvs.length)
zrB a b c:=.seq (#[(.str "both" a),(.int 1 b),.none]) c
zjy:=valV (l.map (fun n=>(k n,f n))) (k a)
zlQ a:=(cI,xk,Pl.snoc (p:=a) (pl.keep Ld) ?_)
zgz a:=by refine (YB F.entry_set_update_loop ?_);rw[(Ys F.plain_set_update_loop _)];refine (Zg (m:=vo) a)
zjF:=(wI,k,V.str (ltr ((c+(s*jq)) % 26)))
zoE:=(fF,y,hy,f i y i hy ?_)
zjt a:=Z1 A.in1 s (its.toArray[j]) (its2.toArray[j]) a
zly a:=by show(pR,uO z,Za);simp at this;rw[<- a,this];rfl
znt a:=(NP,WJ/\R4,v,a,WJ/\(i=kvs.length))
zmz:=(Wx "str" T.n_str boot_str)
zgt:=(zbF { s with heap:=s.heap.update a (Yt (fun t=>(t.eraseIdxIfInBounds j))) })
zkC:=∀ H' v,(bB->((FndV H' v Dw)->CW))
znV:=by ext dW p0 hp0 hp;exact (rows p0 hp0)
zpi:=(Xd (uP d1 H2 dp2 ?_))
zkL:=no q hq (j3,n1 (c.trans y.symm))
zrA:=putSet_of es' t' hd
zlx:=⟨z.1,ht _ _ (bc z),(b8 z)⟩
zin:=∀ h',((Heap.ExtBut it s.heap h')->(Q none nR))
zkg:=ts.Perm (es'.map (fun x=>(bn,cM)))
zlP a b:=by refine (wpAny_Call_method0_late hbase hline (thn a b))
zqC a b:=by show(hJ,aN h1);have e:(a=j):=(ZO.inj h);exact b
zjP a:=by have e1:((zaz (cV es.size))=none):=a;rw[e1]
zkK a:=(yW,PW.pt (xc9 (HX bT) (xcv (RE 3))),a)
zfT a:=by rw[(decide_eq_false c)];ext yj Q5;rw[sm];ext ID;ext LV liv;ext LV ei;refine (Zg (wpAny_isSame_ref_self ?_));ext EE;ext ID;exact a
zjO a b:=(HY,xac (r:=(rInV K true)) (xgo (xbg hr)) a b jr)
zhd a b:=by obtain⟨its,_,t1,_⟩:63:=a;obtain⟨its2,_,t2,_⟩:63:=b;exact ((xkc t1 t2).elim)
zjx:=(PK,.Name x pos',e,tAsg te (xcp i))
zlO:=fun H1 q1 s1 hq1=>(kW q1 hq1)
zhs:=∃ d ob u,((rH,d,.frz ob u)/\(xL/\(Q v (upd H2 d u))))
zpP:=B.free y (B.ysf y my)
zkB:=by ext ie q R3 Yq;rw[<- q,<- l];exact (h _ iI)
zhN:=(typeLookup (.type T) "__getitem__")=(pure (yw id))
ziv:=(cA hp2 T.c_ak T.n_bt lkHo (uP d2 H3 dp3 ?_))
zgy:=(mU hp1 T.n_bp lkP (su dp (zt,.inr nm,hk1,ZQ (zfs:kvs.length<12) au)))
zia a:=by exact (wpAny_pyNext_range_end jM st (by have:(n<=i):=hg;omega) (Br a))
zgG:=by show(bw,Av l1 ws el1 w2 Tx,(aZ Go _ fO (aA,w3,xfl (kv0:=[]) knd iZ) ?_));rw[QW]
zlw:=by show(jN,σ7,H7,I7,n7,q7);exact (again I7 n7)
ziW a c:=a->(g v Ke H3 (fun σ' H3'=>(tc σ' H3' (fun b H4=>c))))
zpO a b:=by obtain⟨sl,hL⟩:=(u.any ho I.free a);exact b
zgU a:=by subst hj;ext bG hi e1 e1;show(bG,List.getElem?_set_self hiσ,e2,e2);ext aE u r a
zim:=by have il:(s.heap.IsList p its.toArray):=(bL o g c ⟨n,d⟩)
zkA b:=fun A R s=>((DU (Xe,none,.seq zs n,#[]))/\b)
ziM:=((acr w x1 b2)+(eI y1 r2))+(Sv+(eI y2 r1))
zmU:=by obtain⟨_,_,_,q⟩:82:=hs;exact (JX q)
ziL:=show (s.heap.IsTuple b its2.toArray) from t2
zpN:=by refine (congrArg List.sum (JN lv))
zjh:=∀ x:Str,(Ih->((mb x)=(bootBuiltins x)))
zpM a:=by have:(aU∈cX):=(Ht a zd);exact (qm this)
zhf:=by have:(ae,X.env.scope.names.lookup x,.free):=hk;ext cF k this this
zlf:=fun _ _=>(jz [] rfl rfl rfl jJ)
znU:=by cases b<;>simp[behindInMarks,e1,e2]
zhw a:=∀{P:am}{vs:aY}{i:Nat}{m:fH},(bb P.Nodup (ba P x) (ba vs v) a)
zgg a:=∀(pins:bp) (s:Shared) (Z:St) (H:Hp) (x:V) (xs:af) (v:Value) (us:aY) (Q:VK),(bb ax tO lI a)
zqB:=by obtain⟨cd,hc,_,_⟩:63:=c.mro
zmf d:=fun⟨a,b,c⟩=>⟨a,b,fun j hj=>d⟩
zkz:=∃ es,(More N BR (keepN N' ns) es)
zoD:=by obtain⟨⟨old,he⟩,h1⟩:=(id st)
zjN a:={ heap:=a,gens:=g,drawn:=d,toks:=tk,os:=os }
ziF:=∀(j:Nat) (x:V) (d:DV),(Lg->((cC ds d)->SX))
zjM:=(aj,by rw[<- (ask s),e] at z;cases z)
zky a:=xha (v:=e.1) (by rw[T.at_,Df,<- ei,a];rfl)
zjs a:=by rename_i met hm;cases (hm.symm.trans (pr _ a));simp only[]
zlN:=by rename_i h1;rw[h1,<- (ZO.inj hx)];exact ra
zmy a b:=∀ x∈L,(ay,cM≠l2,bn≠l2,zay,a,b)
zgY:=["_law_cell_here", "_law_many", "_law_letters", "_law_step"]
zns:=xhk (st:=s_g) l_g c_g k_g
znr:=xhk (st:=s_b) l_b c_b k_b
zhB:=fun _ _ _ _ ⟨_,_,z⟩=>(by rw[<- z];exact (SqL.of hl2))
zii a:=∃ A p1 B p2 C c,(bM prs zqx (ae,canO w ss p1 p2,c) a)
zqA a b:=let ⟨l,h1,h2⟩:=a; ⟨l,b,h2⟩
znq a b:=∃ so' ho',(aR a OG (Hm b) (yb sE Oh))
zjg:=∀ n∈names,((n∉crowd)->(Dj<=1200))
zih:=∃ p qa,(pU/\((cQ y qa)/\(j8,qa,xat (prS p))))
zig:=∀ H' tp xs,(bb bB (vt tp xs) (yQ xs) (nF tp))
zpL:=kmv (mv.mono more) ks
zjf a:=by show(ag,w',hw,rw',RelO.some_of (v:=v) (o:=(valueAt vs k)) a)
zkf a c:=(ay a za (vy b zs) (cZ,xs.length+zs.length) c)
zhM a b:=(ay,a,b,o.data=(.seq its n),cZ its.size,Vals xs its.toList)
ziE:=live.map (fun jk=>(jk.1,es.getD jk.2 Tz))
zme a:=(fG,p,hp',ne,ne (eG,xox a hp' hpt e))
zke:=by ext cW;show(ag,u,rfl,ru,xc3 r1);ext rW u l ru
znp:=k15 _ _ (ne_f hpi g1) hpi
zrz:=(bX H1 k1 pic1 st1)
zkd:=by show(iB,k1,hk1,z.sg.so);show(iB,k2,hk2,z.sg.ho)
zjr:=(gY,(rk b)<=(rk a),(so1 b)=(so b))
zlM:=.ask BQ (upd1 asked s a) i gH
zkx a:=by show(C9,_);ext bF its r1 t1 z1 a;have l1:=r1.length
zhr:=(cT H' { s with heap:=h',gens:=g',drawn:=d',toks:=t' })
zpK:=by ext sQ;show(ag,ko,hko,r,k.dr.sts)
zjL:=fun a ea=>(cS (aj (sJ e ea)) ea)
zjq a:=by ext pE;show(bw,EF 8 (GU c1 a),h7 (iN leS0) e5 he5)
zry a:=q _ bt (Pic.but hk bt pic) a
zgL:=by have e1:(its.toArray.size=ds.length):=iZ;have e2:(its2.toArray.size=es.length):=iZ
zkc a:=by rw[(Qx (Z2 hj))] at e2;ext ag u' r' q a;ext fX u' r'
zmx:=PassesOwn aS X.A X.env X.xe
zje a:=(bg,c≠d_r,c≠da,c≠la,(ae,H7 c,u),a)
zoC:=[wH,zI,rC,(bH g),v4,v5]
zjp:=[(aB p),(aB d3),(aB q0),some v3,v4,v5]
zmw:=by ext bF kvs e l r s;ext gG kvs e aa r
zlv:=(lW,t.C_a,picF pw ph dp do_)
zph:=by have e':(b=a):=(hA b (lA q));subst e'
zmd:=Geo.cells pw p1.x p1.y b1 r1
zlu:=fun a xs ea=>(aA (rJ ea e) ea)
zno:=fun a u na ea=>(cS na ea)
zhA a:=by refine (bL its.toList r a ?_);have e:=r.length;simp only[Jm] at e;omega
zil:=["self", "name", "askers", "asked_by", "seat"]
znn:=Kp.Rch sE Oh (Fa so1 ho1)
zlt:=Kp.Hand room (aj sM) so1 ho1 s
zgC:=(CK,(g HM i)=(kf,i,m,g p k,if ((m<i)/\(i<=k)) then (g p (i-1)) else Dh))
zha a:=by show(uY,by rw[ly,Za,Za,a]);show(gU,c,hc,fy i y hy);rw[Zc,hc] at hb;ext jG hb
zoB:=(Ri (aZ v _ I3 rw' q2))
zle:=by show(U0,(bQ,xs,xs[i],q,b6 hlt),xs.length)
zpg a:=opI (fun i j _ _ _ _ _ hc q=>a)
zoA a:=by have ix:(eY,zs,(gP i).toNat,zs[i]):=a
ziT:=(v=r)/\(vN,np u x,(x<=u)/\(u<=(w+1)))
zjo a b:=(aR,ys=(L.map (fun x=>(V.ref bn))),L.length=i,a,b)
zgS:=by show(cD,show ((its.toArray.any (eqU x))=(its.any (eqU x))) by simp,xi7 r fs,q)
ziu:=by show(h9,⟨o,e,ex.1⟩,a,e2);cases e2;show(aE,o,e,bc ex)
zhL a:=by rw [xe7] at c;exact (hN _ _ a (by rw[hpp];exact (em.trans c)) (cE p hpp))
znT a b:=a/\(wg,Fh,kX,AH pw ph,qR,bB->(LM b))
zhm a:=sp (rO::CA) (upd a x (lW C [])) (kS,H2,(v=.non)/\(kK x H2)) (E Z)
zgK:=by unfold Geo.lvL Geo.lvN Geo.wayI;ext yj if_true;rw[(fR (gV,pw+2,pt.x) W8 aa)]
zpJ:=small_one h1 h2 h3 h4
zjd:=by rw[Z7,Z7,decide_eq_true_iff,decide_eq_true_iff,JE]
zkw a b:=by obtain ⟨kz,hkz,_⟩:62:=a;rw[<- b,hl] at hkz;cases hkz
zit a:=∀(N:wV),((∀ y H',(KG->(a->(N y H'))))->(g x Ke H2 zcP))
zhZ a c:=by have e':(q.1=k):=(h1.symm.trans e);have b:(ae a q.2):=c;ext cD De b h2
ziV:=(aR,(-iL)<=i,i<iL,(-iL)<=j,j<iL)
znS:=by show(bF,pt,hpt,at_,lp,name (nem c3))
zpf:=xch.unbar b r o1 o2 o3
zhY a c:=(kL,.ref s1.heap.objs.size,a,I1.laid (t':=s1.toks) zfp bv ?_,c)
zis:=["self", "name", "x", "y", "others", "other"]
zoz:=(aZ p qa z1 z2 (iS z3))
zgX:=by show(AE,upd H5 l6 (.lst (us.map V.ref)),hl6);show(ah,sl6',zpd,usl,sl6.len)
zgJ a:=by generalize eu:(fA H8 q6 [.str a])=H6;ext uj s6 hq6;show(ah,g6,ug_e eu,s86,s8.trans s6)
zls a:=fun rest r s'=>(bM,r.1,none,s'=s,a)
ziS:=by show(ag,w,ew,rw',r.get h2);show(ah,hl,r.length,hn,xf3)
zgM a:=by show(bw,a,h7 cR q1 hq1);show(Oe,iJ H1 q1 lS r,hq1);show(ah,hk2,dF zL,hp2,dF iG)
zgs b c:=wpAny_Dict_empty (ug,uX,I.laid (a:=s.heap.objs.size) (o:=b) (t':=s.toks) zdx bv c,h _ DP)
zfX c:=by have both:((ZP A s bq uy (dEqs ds es))/\(ZD A s bq uy (!(dEqs ds es)))):=c;simp only[dEq];show(dI,?_,both);by_cases q:(a=b)
zkv:=(lz,p.y-eB,0,-(p.y-eB),p.y-eB)+zlp
zjw:=by obtain⟨_,_,⟨_,_,o,_,_,e,_⟩⟩:43:=x;ext w6
zmT:=by have B:=(xjv lens own rent asked crowd)
zgw a:=by have qll:=pl.len;show(qj,BIG,∀{n:Nat},((n<=12)->(uF n)),fun h=>(xb7 aa),iw lp hlp l1 hl1,a)
zgr a:=by refine a;obtain⟨fs,hw⟩:=(hd d e);obtain⟨_,_,⟨o,_,_,go,_⟩,_⟩:=(xsj I hw);ext aO o go
zgk:=∀ b ps,(((H b)=(some (.tbl ps)))->(∃ more,((H' b)=(some (.tbl (ps++more))))))
zjn:=by have:(x≠n):=(by rintro rfl;exact (h v Zm));simp[this]
ziD a:=∀ v u s2 x y H2,(bg,cT H2 s2,tO,gg,R x y H2,a)
zhF a b:=∀ whole,(a=(do let v <- whole; (standAt b); (holding [v] (truthy v))))
zlr:=∃ xs,(EM/\(h.DictOfH zag a xs))
ziR a:=∃ od,(a/\(∀ name,((Wc name od)=(some (mA name)))))
zlL:=by obtain⟨mA,O,r,_,_,_⟩:65:=(xg4 I.hok e)
ziC a:=∀{binds:Be}{m:fH},((∀ v,((x,v)∉binds))->(a=(m x)))
znm:=by unfold mroIn;rw[h1,QI,(az (vQ b)),a]
zmv:=by simp only[Zq,Yc,or_false,not_or] at hb
zhz:=fun _ _ _ _ _ ⟨ok,ov,st⟩ h=>(PySem.W.kcp_self st h)
ziK:=∀(i:Nat) (a:α),((ba as a)->((p i)=(q a)))
zhT:=∀ e∈L,(∃ k' b,(bM CZ (zeB k') zdz (p5 k' b)))
zgj:=["_law_picture_here", "_law_cell_here", "_law_shut", "_law_row", "_law_some"]
zlK:=[wH,(fM pt.nm),zI,rC,(aB qs)]
zpI:=by rintro Z _ (⟨v5,rfl,rfl⟩:62)
zgI a b c:=∃(i:Nat) (crowd:am) (al:ai) (asked:aG) (v6 v7:cc),(jx,a+i,13,i<=crowd.length,b,c)
zkb a b c:=by rintro i Z a _ (⟨_,_,_,_,⟨_,_,rfl,b,_⟩⟩:121);ext wX c
zjc a:=∀ H' qs,(jt,VN vE,zcO,a,AkD H' da oE HC,qs)
zfW a b c:=∀ H' own' rent' so' ho' asked s,(a->(bg b (zhR,xes hW ho) (yb,Kp.kstep (xax (xab w ps srt)) so ho,Fa so ho) c kn))
zgm a:=∃(crowd:am) (al:ai) (asked:aG) (o1:bU) (r1:bS) (g:Int) (b:Str) (s:Seat) (qs:Addr),a
zhX a:=∀ s∈st,((1<=eB)/\((eB<=uB)\/((eB=jZ)/\((IB s.1)<a))))
zjE b c d:=by show(ah,c1,b,c2,Kp.hall mt2 c cr.nd (zR d));rw[c1,Z6] at c2;omega
zrx:=(aj,n3 _ Le _ ap z)
zjm a b:=by have etr:((trP pw ss oI)=(jg,jh,c)):=a;unfold stP;ext aD etr b
zrw:=(ay P0 P1 P2 P3 P4)
zrv:=(ay P1 P2 P3 P4 P5)
zru:=(ay P2 P3 P4 P5 P6)
zoy:=(ay,fY,jE,nJ,uS,P4 a)
zrt:=(ay fT js mZ ux Gs)
zrs:=(ay gm jc mL tN Fw)
zrr:=(ay gb i8 mI tf E4)
zmu:=(ay,jE,nJ,uS,P4 a,P5 a)
znl:=(ay,js,mZ,ux,Gs,P5 a b)
zmt:=(ay,jc,mL,tN,Fw,P5 a b c)
zlJ:=(ay,i8,mI,tf,E4,P5 a b c d)
zkJ a:=(ay (ba names pt.nm) Mx a wy (D0 (pt,s)))
zhE:=by show(d6,t,RH Ac rx);show(d6,t',show (∃ t',(v=(YO j t'))) from ry)
zif a:=by ext jb x1 x2 x3 a;simp only at x1 x2 x3 hdat;subst x1 x2 x3 hdat
zfY a:=by ext gE;show(BU,r,I.list ha);show(bj,get,∀ z∈xs,(∃(j:Nat) (e:DV),((cC xs z)/\((cC es e)/\(Dv X.K H m z e)))),z,hz,a)
zpe a b:=by ext mV a;obtain⟨⟨dx,hp⟩,q⟩:=h;exact b
zkI:=by exact(aZ so0 ho0 a1 a2 (uh,ZH _ (a3 z hz)))
ziB a:=by rw[(aN z)] at hm;have ht:(vI\/yC):=a;unfold acr;ext yj if_true
zix:=by ext sQ;show(vq,dx2,hpa,k.dr.pic);show(lZ,ko,hko,k.dr.sts)
zie a:=te σ' H4 (fun y H5=>(((H5 l)=(some (.lst xs)))/\(Ii/\a)))
zgR:=by rw [(aN h2)];exact(aZ,.int k,H,I.kept k',eR,q k aa aa aa (.inr (.inr rfl)))
ziQ a:=(dH,h,IsRangeIter h it (lo+((i:Nat)*a)) (iM-(i:Nat)) a)
zqz:=(cS,ne c _ q XY,q)
ziJ a:=(mU hp1 T.n_br lkW (mW a pw (bN p3 H3 hp3 sd3 s3)))
znR:=h x _ hx FU (xse hx hdx)
zld a:=callWith pos f first (zaZ pos a) (Nx pos)
zjl a:=by rw[a];exact (xda (hG l aa lo (fun j hj hj2=>(hi j aa hj2))))
zmc:=fun u hu'=>(hall u (Zi _ hu'))
zhQ:=wpAny_letOwnedTupleGo_items hout (aI h'' hit' hsb)
zgh:=by rw[(decide_eq_true c)];simp only[Bool.and_self,if_true];exact (Zo (yes (Au,_,Zk le,b,c▸h3)))
zfL:=by have hT:(yE it "dict_itemiterator"):=(dP st);unfold pyNext;refine (Zg (Qu (Y3 hT JU ?_)));refine (JP JU hT F.entry_dict_itemiterator_next ?_ (F.args_dict_itemiterator_next_1 _));ext AJ dr
zhv:=["self", "askers", "asked_by", "gap", "asker", "seat"]
zhK:=(eV,true,iteF ⟨.inr sd,rfl,false,(eS hsd'),ue⟩)
ziU:=∀ z,((z∈zs)->(EqAt A.in1 s z y (f z)))
zhl:=["picture", "names", "crowd", "prices", "name", "pairs"]
ziI a:=(nW (w4 4) 5 sc_e.nd (lu,xac xb0 (yk 5) a gC,mY))
zhJ:=by rw[Zc] at hv;ext mF o ho hv;show(bF,p,m1,m2,m3,loop o (Zk ho))
zgd:=by obtain⟨j,hj⟩:=(Wj hz);have lt:(j<es.length):=(cY hl (gR hj));exact(aZ,j,es[j],hj,ij,k j z _ hj ij)
zms a b:=by show(bF,o2,g2,c2,d2,id hit');ext tR a;ext Aa nR b
zjv a:=by rw [xe7] at c;exact (hM _ a (aA,hpp,em.trans (Ja.mpr c)))
zfM:=by unfold pyNext;refine (Zg (Qu (Y3 st.typeIs JZ ?_)));refine (JP JZ st.typeIs F.entry_dict_keyiterator_next ?_ (F.args_dict_keyiterator_next_1 _));have ti:=st.typeIs;ext AJ dr
ziw:=by rw[JA];intro d hd z;exact (no d hd (of_decide_eq_true z))
ziA a b:=⟨a,an.gv (kp _ _ (ne_f hln b) hln) (pl2.keep tp2),an⟩
zka:=by have e':=kH;show(cD,rJ e' zL,fW e' hq1,e')
zgQ:=by simp only at ci di;subst ci di;unfold Builtin.«dict_keyiterator.__next__»
zfV:=by ext bG e e' e';rw[d] at d';injection d' with d1 _;have:(its=its'):=(BD (xH Array.toList d1));ext xA;exact (r.inj r')
zfZ:=by have I2:(cT H1 MZ):=W1;generalize hs2:(MZ:Shared)=s2 at I2;have g2:(ae,s2.heap.get? d,ob):=(cY,hs2,Zj _ g)
zjK a:=by ext EN gj u hu;obtain⟨⟨b,r⟩,hs,hsq⟩:62:=a
zlq:=by ext bG hp a1 a1;exact(aZ q' t' a2 a3 a4)
zhy:=by have itlt:(pI it):=(Z0 st);have pne:(s.heap.objs.size≠it):=(Q1 itlt)
zfS:=by refine (.lst (aW e) (mh Za Za h.len) (bN j x d h1 h2));rw[Zc] at h1 h2;ext mF q hq h1;ext mF p hp h2;show(ag,p',hp',e',h.get hq)
zjb:=⟨Y7 hu,(aZ,k,xs,BA,dd,h _ _ iI ?_)⟩
zhk:=⟨(iK oc od kV doc (iK pm an cdv ct (gB osl l c))),k⟩
zik a:=⟨iQ,beq_eq_false_iff_ne.mpr (Z2 (ZS hb)),[],.nil,a⟩
zhP:=(2*jZ)+(Bk (BO,(V.str (xao sb))=(V.str "left")))
zlc:=fun y H' s' f=>(h1 y H' s' rfl f)
zgc b c e:=∃ H',(ay,DPut H d b c H',e,∀ a u,((a≠d)->((aT a u)->(ae,H' a,u))),kh,∀ a,((bu a)->((H' a)=none)))
zfR a:=∀(X:Cx),(bg,X.prog=P,X.w=w,X.K=K,mE,∀(i:Nat) (pins:bp) (s:Shared) (Z:St) (H:Hp) (E:bA),(bb,ax,Nv,tn i s.heap,a))
zmb:=by obtain⟨u,rfl,⟨t,rfl⟩⟩:62:=(xc3 r)
zgH:=by simp only[sliceBounds,HT.sIx,Option.getD_none,(sP,rQ>0),if_true];by_cases h:(i<0)
zgZ:=by obtain⟨_,_,⟨_,_,o,_,_,e,ex,_⟩⟩:43:=(I.hok p _ hk);ext aE o e ex
zja:=by rw [(yG,show ((s0.1,s0.2)∈ss) from min),YE] at c
zid a:=∃ ox vs,(aR,a,cQ ox.cls C,ox.dict=od,TZ ox.data)
zgu a:=I2.write (t':=s2.toks) (x:=d) (e:=d) zb fO (fun b u _ q=>q) ⟨ob,g2⟩ ⟨g2,a⟩
zgx a:=I1.write (t':=s1.toks) (x:=d) (e:=d) zb fO (fun b u _ q=>q) ⟨ob,g⟩ ⟨g,a⟩
zgW:=by rintro ⟨r1,r2⟩ s' ⟨hr,rfl,_⟩;simp only at hr;subst hr;exact (Zo h)
zir a:=by unfold cutV;rw[a,HT.sIx_nat,HT.sIx_none,Za,<- Yw,<- Yv];congr 1
zhj a b:=∃ x:Str,(((atI [V.str "left",a,b,zel] xD)=(fM x))/\(zcj,x,x="both"))
ziH:=fun b u n1 _ n3 e=>(k2 _ _ n1 (k1 _ _ n3 e))
zfQ a:=by show(ag,x,hx,rx,xfv r1 h1);show(ag,y,hy,ry,xfv r2 h2);have j1:(j<ds.length):=(Er h1);have j2:(j<es.length):=(Er h2);show(aD,xit (Zb j1) (Zb j2),(a).1)
zgb a:=by show(ah,f,pfd p hp a,o,pok.ok _ (ZC f));exact⟨o.nm,f,(prow p hp).1,(prow p hp).2,(bW o.x1 o.x2 o.y1 o.y2)⟩
zjJ:=by ext bG ho ho' ho';exact(fb 102 es' ep' hL r')
zgF:=(jP,u9,tSeq t9 u10,u8,tSeq t8 u9,(jP,u7,tSeq t7 u8,u6,tSeq t6 u7,zca))
zhi:=(j8 t [.str ((aJ).1),.str (bc aJ),.ref q,.int m5,.int dO])
zfP:=by refine (wpAny_raiseNew_none hA ?_);show(cJ,wpAny_isInstance (dP gq) isSubtype_stop (Zo (h _ (fG b o nb ?_))));ext Px;show(aD,QU _ _ (Z2 nb),e)
zjZ:=(cu,Kp.tog (xas ps ss') S t,1,0)
zgq:=by show(jN,σ3,H3,I3,n3,q3);show(ag,m',hm,w3,hN σ3 H3 n3);show(aE,m',hm,bQ σ3 H3 I3 w3)
zga a c d:=(ay,a,c,Kp.Rch (xes sI ho) (.go O7 rent fe [pt.nm]) (.go o1 r1 asked crowd),(F4,near sI o1 r1 asked crowd,b),d)
zhD:=(((gP xX) == 0)&&(rQ == 1))&&((AC-xX) == items.size)
zkH:=by have q:=(I.base.frzs d o' u' z);ext cF e q q
znk a b:=by show(B7,xc1 (fun p:Pt=>a) b il r hr,pi);exact (z e)
zhh a:=by ext bj my EB p hp a;have gp:(GPr ps gz gQ prs):=⟨ok,(aA g1 knd),g2,l12⟩
zhq a b:=by have W:=(Walks.range (prog:=X.prog) (w:=X.w) jM it lo a n);refine b;ext d6 t hv
zgE:=by ext Nw;refine(mW qa _ (bW (cm (dS UG)) rfl cR zfm));exact (nM UB (kL p q5 hp xk))
zgo:=by rw[ey] at e2;show(w8,hln2,dF hln,hlp2,dF hlp,⟨1,1,_,_,xcm e2,(tV,xcm hln2,wv)⟩)
zgl:=by have jl:=zfn;rw[Zr,ZX] at jl;show(FA,j,al.length);rw[(J0 (Zl _)),Nat.sub_self] at e;cases e
zij:=by ext nZ d hd e;ext dW z hz hd;rw[xom] at e;ext jp zah hz
zgp:=by ext LV ei;refine (Zg (J4 (wpAny_eqBool_tuple hu h3 hk ?_)));ext RD hf;by_cases c:(k'=k)
zgf a b:=forIn ifs true (fun c r=>(if (r=true) then do let ok <- (isTrue c a b); (pure (YW ok)) else (pure (YW r))))
zgv a:=by show(fj,z,m1,m2,xjk r w OT);obtain⟨j,e,_,_,he⟩:83:=(get z m1);show(cD,xho m2,xff I he,(a).1)
zjk a:=by show(Gy,i,t,rfl,z);exact (fun A Q E s _ q=>(QQ (T:=a) rfl q))
zhS a b:=by refine(je ?_);refine (ifP aK ?_);exact (fun x dx hx hdx ne=>(Aw x a dx n b))
zgO:=(fF,Z,H3,∃ v5:cc,((Z=[dN,(fM nm),(bH x),(bH y),Ae,v5])/\(H2=H3)))
zhp a b:=by show(bF,kl,hkl,ll,fl,z.ln);refine a;show(bF,q,q1,q2,q3,fl nm h);ext gG q q1 b q3
zmr a:=by rw[JH,Jj];intro i j hi hj a z;rw[Za] at hi hj
zgB c d:=by refine (fun a dx hx hdx ne=>(Aw a dx w ph c));ext sy;show(oW,k5,d,s6 b u (xi e hx) (qi My Fx e))
zfU a c:=by obtain⟨_,hd,⟨a,_,dd⟩⟩:43:=c;show(d9,dd.typeIs,aq b q,hd);cases q;obtain⟨ob,_,_,h1,h2,_⟩:103:=dd;show(aE,ob,h1,bc h2)
zgn:=(bL,kvs,rB,l,fun nm h=>(let ⟨q,e1,e2,e3⟩:=(f nm h); (bL,q,e1,s _ _ e2,e3)))
zfK a b:=by show(cG,nnd,ww,pok.nn,pl,pl0.now (ps:=ps));show(bj,prow,∀ p∈OH,(r8 dO dO gQ),p,hp,a);have pfd:(∀ p∈OH,((aU∈dQ)->(GZ aU aJ))):=(fun p hp hn=>b);have l12:(Fi OH):=(fV l12);revert pl prow pfd l12 q;generalize OH=prs;intro q pl prow pfd l12
zox a:=by show(iB,o,g,T.obj 0 _ st2 b hb);exact (Z0 a)
zku:=by show(fj,j,a,b,xft ky ad i x h);ext aE j aa b
zfO:=by rw [(show ((its.toArray.any (eU Ix))=(its.any (eU Ix))) by simp),(xkt r),(xlh (g:=(aj,dEq z d)) hl (fun j z e g1 g2=>(xff I (k j z e g1 g2))))];exact q
zfN:=l.map (fun (m,k)=>(if (((k == Wo)&&(env.scope.kind == .function))&&((env.kindOf m) == (some .cell))) then (m,NameKind.cell) else (m,k)))
theorem n42  {P0 P1:Prop} (h0:P0) (h1:P1):P0/\P1:=⟨h0,h1⟩
theorem i42  {P0 P1:Prop}{C:Prop} (k:P0->P1->C):(P0/\P1)->C:=(fE,k h.1 h.2)
theorem n43  {P0 P1 P2:Prop} (h0:P0) (h1:P1) (h2:P2):P0/\P1/\P2:=⟨h0,n42 h1 h2⟩
theorem i43  {P0 P1 P2:Prop}{C:Prop} (k:bb P0 P1 P2 C):(P0/\P1/\P2)->C:=(fE,i42 (k h.1) h.2)
theorem n44  {P0 P1 P2 P3:Prop} (h0:P0) (h1:P1) (h2:P2) (h3:P3):aR P0 P1 P2 P3:=⟨h0,n43 h1 h2 h3⟩
theorem i44  {P0 P1 P2 P3:Prop}{C:Prop} (k:bg P0 P1 P2 P3 C):(aR P0 P1 P2 P3)->C:=(fE,i43 (k h.1) h.2)
theorem n45  {P0 P1 P2 P3 P4:Prop} (h0:P0) (h1:P1) (h2:P2) (h3:P3) (h4:P4):zrw:=⟨h0,n44 h1 h2 h3 h4⟩
theorem i45  {P0 P1 P2 P3 P4:Prop}{C:Prop} (k:P0->(bg P1 P2 P3 P4 C)):zrw->C:=(fE,i44 (k h.1) h.2)
theorem n46  {P0 P1 P2 P3 P4 P5:Prop} (h0:P0) (h1:P1) (h2:P2) (h3:P3) (h4:P4) (h5:P5):P0/\zrv:=⟨h0,n45 h1 h2 h3 h4 h5⟩
theorem i46  {P0 P1 P2 P3 P4 P5:Prop}{C:Prop} (k:P0->P1->(bg P2 P3 P4 P5 C)):(P0/\zrv)->C:=(fE,i45 (k h.1) h.2)
theorem n47  {P0 P1 P2 P3 P4 P5 P6:Prop} (h0:P0) (h1:P1) (h2:P2) (h3:P3) (h4:P4) (h5:P5) (h6:P6):P0/\P1/\zru:=⟨h0,n46 h1 h2 h3 h4 h5 h6⟩
theorem i47  {P0 P1 P2 P3 P4 P5 P6:Prop}{C:Prop} (k:bb P0 P1 P2 (bg P3 P4 P5 P6 C)):(P0/\P1/\zru)->C:=(fE,i46 (k h.1) h.2)
theorem n61 {A0:Type}{P0:qg} (a:A0) (h0:fY):∃(a:A0),fY:=eZ h0
theorem i61 {A0:Type}{P0:qg}{C:Prop} (k:∀(a:A0),fY->C):EL fY:=(ff,k a h)
theorem n62 {A0:Type}{P0 P1:qg} (a:A0) (h0:fY) (h1:jE):∃(a:A0),fY/\jE:=(eZ,n42 h0 h1)
theorem i62 {A0:Type}{P0 P1:qg}{C:Prop} (k:∀(a:A0),fY->jE->C):(EL,fY/\jE):=(ff,i42 (k a) h)
theorem n63 {A0:Type}{P0 P1 P2:qg} (a:A0) (h0:fY) (h1:jE) (h2:nJ):∃(a:A0),fY/\jE/\nJ:=(eZ,n43 h0 h1 h2)
theorem i63 {A0:Type}{P0 P1 P2:qg}{C:Prop} (k:∀(a:A0),bb fY jE nJ C):(EL,fY/\jE/\nJ):=(ff,i43 (k a) h)
theorem n64 {A0:Type}{P0 P1 P2 P3:qg} (a:A0) (h0:fY) (h1:jE) (h2:nJ) (h3:uS):∃(a:A0),aR fY jE nJ uS:=(eZ,n44 h0 h1 h2 h3)
theorem i64 {A0:Type}{P0 P1 P2 P3:qg}{C:Prop} (k:∀(a:A0),(bb,fY,jE,nJ,uS->C)):(EL,aR fY jE nJ uS):=(ff,i44 (k a) h)
theorem n65 {A0:Type}{P0 P1 P2 P3 P4:qg} (a:A0) (h0:fY) (h1:jE) (h2:nJ) (h3:uS) (h4:P4 a):∃(a:A0),zoy:=(eZ,n45 h0 h1 h2 h3 h4)
theorem i65 {A0:Type}{P0 P1 P2 P3 P4:qg}{C:Prop} (k:∀(a:A0),fY->(bg,jE,nJ,uS,P4 a,C)):EL zoy:=(ff,i45 (k a) h)
theorem n66 {A0:Type}{P0 P1 P2 P3 P4 P5:qg} (a:A0) (h0:fY) (h1:jE) (h2:nJ) (h3:uS) (h4:P4 a) (h5:P5 a):∃(a:A0),fY/\zmu:=(eZ,n46 h0 h1 h2 h3 h4 h5)
theorem i66 {A0:Type}{P0 P1 P2 P3 P4 P5:qg}{C:Prop} (k:∀(a:A0),fY->jE->(bg,nJ,uS,P4 a,P5 a,C)):(EL,fY/\zmu):=(ff,i46 (k a) h)
theorem n81 {A0 A1:Type}{P0:pT} (a:A0) (b:A1) (h0:fT):∃(a:A0) (b:A1),fT:=(eZ,n61 b h0)
theorem i81 {A0 A1:Type}{P0:pT}{C:Prop} (k:∀(a:A0) (b:A1),fT->C):DO fT:=(ff,i61 (k a) h)
theorem n82 {A0 A1:Type}{P0 P1:pT} (a:A0) (b:A1) (h0:fT) (h1:js):∃(a:A0) (b:A1),fT/\js:=(eZ,n62 b h0 h1)
theorem i82 {A0 A1:Type}{P0 P1:pT}{C:Prop} (k:∀(a:A0) (b:A1),fT->js->C):(DO,fT/\js):=(ff,i62 (k a) h)
theorem n83 {A0 A1:Type}{P0 P1 P2:pT} (a:A0) (b:A1) (h0:fT) (h1:js) (h2:mZ):∃(a:A0) (b:A1),fT/\js/\mZ:=(eZ,n63 b h0 h1 h2)
theorem i83 {A0 A1:Type}{P0 P1 P2:pT}{C:Prop} (k:∀(a:A0) (b:A1),bb fT js mZ C):(DO,fT/\js/\mZ):=(ff,i63 (k a) h)
theorem n84 {A0 A1:Type}{P0 P1 P2 P3:pT} (a:A0) (b:A1) (h0:fT) (h1:js) (h2:mZ) (h3:ux):∃(a:A0) (b:A1),aR fT js mZ ux:=(eZ,n64 b h0 h1 h2 h3)
theorem i84 {A0 A1:Type}{P0 P1 P2 P3:pT}{C:Prop} (k:∀(a:A0) (b:A1),bg fT js mZ ux C):(DO,aR fT js mZ ux):=(ff,i64 (k a) h)
theorem n85 {A0 A1:Type}{P0 P1 P2 P3 P4:pT} (a:A0) (b:A1) (h0:fT) (h1:js) (h2:mZ) (h3:ux) (h4:Gs):∃(a:A0) (b:A1),zrt:=(eZ,n65 b h0 h1 h2 h3 h4)
theorem i85 {A0 A1:Type}{P0 P1 P2 P3 P4:pT}{C:Prop} (k:∀(a:A0) (b:A1),(bg,fT,js,mZ,ux,Gs->C)):DO zrt:=(ff,i65 (k a) h)
theorem n86 {A0 A1:Type}{P0 P1 P2 P3 P4 P5:pT} (a:A0) (b:A1) (h0:fT) (h1:js) (h2:mZ) (h3:ux) (h4:Gs) (h5:P5 a b):∃(a:A0) (b:A1),fT/\znl:=(eZ,n66 b h0 h1 h2 h3 h4 h5)
theorem i86 {A0 A1:Type}{P0 P1 P2 P3 P4 P5:pT}{C:Prop} (k:∀(a:A0) (b:A1),fT->js->(bg,mZ,ux,Gs,P5 a b,C)):(DO,fT/\znl):=(ff,i66 (k a) h)
theorem n101 {A0 A1 A2:Type}{P0:pF} (a:A0) (b:A1) (c:A2) (h0:gm):∃(a:A0) (b:A1) (c:A2),gm:=(eZ,n81 b c h0)
theorem i101 {A0 A1 A2:Type}{P0:pF}{C:Prop} (k:∀(a:A0) (b:A1) (c:A2),gm->C):DA gm:=(ff,i81 (k a) h)
theorem n102 {A0 A1 A2:Type}{P0 P1:pF} (a:A0) (b:A1) (c:A2) (h0:gm) (h1:jc):zrp jc:=(eZ,n82 b c h0 h1)
theorem i102 {A0 A1 A2:Type}{P0 P1:pF}{C:Prop} (k:∀(a:A0) (b:A1) (c:A2),gm->jc->C):(DA,gm/\jc):=(ff,i82 (k a) h)
theorem n103 {A0 A1 A2:Type}{P0 P1 P2:pF} (a:A0) (b:A1) (c:A2) (h0:gm) (h1:jc) (h2:mL):∃(a:A0) (b:A1) (c:A2),gm/\jc/\mL:=(eZ,n83 b c h0 h1 h2)
theorem i103 {A0 A1 A2:Type}{P0 P1 P2:pF}{C:Prop} (k:∀(a:A0) (b:A1) (c:A2),bb gm jc mL C):(DA,gm/\jc/\mL):=(ff,i83 (k a) h)
theorem n104 {A0 A1 A2:Type}{P0 P1 P2 P3:pF} (a:A0) (b:A1) (c:A2) (h0:gm) (h1:jc) (h2:mL) (h3:tN):∃(a:A0) (b:A1) (c:A2),aR gm jc mL tN:=(eZ,n84 b c h0 h1 h2 h3)
theorem i104 {A0 A1 A2:Type}{P0 P1 P2 P3:pF}{C:Prop} (k:∀(a:A0) (b:A1) (c:A2),bg gm jc mL tN C):(DA,aR gm jc mL tN):=(ff,i84 (k a) h)
theorem n105 {A0 A1 A2:Type}{P0 P1 P2 P3 P4:pF} (a:A0) (b:A1) (c:A2) (h0:gm) (h1:jc) (h2:mL) (h3:tN) (h4:Fw):∃(a:A0) (b:A1) (c:A2),zrs:=(eZ,n85 b c h0 h1 h2 h3 h4)
theorem i105 {A0 A1 A2:Type}{P0 P1 P2 P3 P4:pF}{C:Prop} (k:∀(a:A0) (b:A1) (c:A2),gm->(bg jc mL tN Fw C)):DA zrs:=(ff,i85 (k a) h)
theorem n106 {A0 A1 A2:Type}{P0 P1 P2 P3 P4 P5:pF} (a:A0) (b:A1) (c:A2) (h0:gm) (h1:jc) (h2:mL) (h3:tN) (h4:Fw) (h5:P5 a b c):zrp zmt:=(eZ,n86 b c h0 h1 h2 h3 h4 h5)
theorem i106 {A0 A1 A2:Type}{P0 P1 P2 P3 P4 P5:pF}{C:Prop} (k:∀(a:A0) (b:A1) (c:A2),gm->jc->(bg,mL,tN,Fw,P5 a b c,C)):(DA,gm/\zmt):=(ff,i86 (k a) h)
theorem n121 {A0 A1 A2 A3:Type}{P0:o6} (a:A0) (b:A1) (c:A2) (d:A3) (h0:gb):∃(a:A0) (b:A1) (c:A2) (d:A3),gb:=(eZ,n101 b c d h0)
theorem i121 {A0 A1 A2 A3:Type}{P0:o6}{C:Prop} (k:∀(a:A0) (b:A1) (c:A2) (d:A3),gb->C):Dp gb:=(ff,i101 (k a) h)
theorem n122 {A0 A1 A2 A3:Type}{P0 P1:o6} (a:A0) (b:A1) (c:A2) (d:A3) (h0:gb) (h1:i8):zmR i8:=(eZ,n102 b c d h0 h1)
theorem i122 {A0 A1 A2 A3:Type}{P0 P1:o6}{C:Prop} (k:∀(a:A0) (b:A1) (c:A2) (d:A3),gb->i8->C):(Dp,gb/\i8):=(ff,i102 (k a) h)
theorem n123 {A0 A1 A2 A3:Type}{P0 P1 P2:o6} (a:A0) (b:A1) (c:A2) (d:A3) (h0:gb) (h1:i8) (h2:mI):∃(a:A0) (b:A1) (c:A2) (d:A3),gb/\i8/\mI:=(eZ,n103 b c d h0 h1 h2)
theorem i123 {A0 A1 A2 A3:Type}{P0 P1 P2:o6}{C:Prop} (k:∀(a:A0) (b:A1) (c:A2) (d:A3),bb gb i8 mI C):(Dp,gb/\i8/\mI):=(ff,i103 (k a) h)
theorem n124 {A0 A1 A2 A3:Type}{P0 P1 P2 P3:o6} (a:A0) (b:A1) (c:A2) (d:A3) (h0:gb) (h1:i8) (h2:mI) (h3:tf):∃(a:A0) (b:A1) (c:A2) (d:A3),aR gb i8 mI tf:=(eZ,n104 b c d h0 h1 h2 h3)
theorem i124 {A0 A1 A2 A3:Type}{P0 P1 P2 P3:o6}{C:Prop} (k:∀(a:A0) (b:A1) (c:A2) (d:A3),bg gb i8 mI tf C):(Dp,aR gb i8 mI tf):=(ff,i104 (k a) h)
theorem n125 {A0 A1 A2 A3:Type}{P0 P1 P2 P3 P4:o6} (a:A0) (b:A1) (c:A2) (d:A3) (h0:gb) (h1:i8) (h2:mI) (h3:tf) (h4:E4):∃(a:A0) (b:A1) (c:A2) (d:A3),zrr:=(eZ,n105 b c d h0 h1 h2 h3 h4)
theorem i125 {A0 A1 A2 A3:Type}{P0 P1 P2 P3 P4:o6}{C:Prop} (k:∀(a:A0) (b:A1) (c:A2) (d:A3),(bg,gb,i8,mI,tf,E4->C)):Dp zrr:=(ff,i105 (k a) h)
theorem n126 {A0 A1 A2 A3:Type}{P0 P1 P2 P3 P4 P5:o6} (a:A0) (b:A1) (c:A2) (d:A3) (h0:gb) (h1:i8) (h2:mI) (h3:tf) (h4:E4) (h5:P5 a b c d):zmR zlJ:=(eZ,n106 b c d h0 h1 h2 h3 h4 h5)
theorem i126 {A0 A1 A2 A3:Type}{P0 P1 P2 P3 P4 P5:o6}{C:Prop} (k:∀(a:A0) (b:A1) (c:A2) (d:A3),gb->i8->(bg,mI,tf,E4,P5 a b c d,C)):(Dp,gb/\zlJ):=(ff,i106 (k a) h)
namespace L2
open PySem PySem.Spec PyProof.Rows
variable {q0:Bool}
noncomputable abbrev Key:=Sum Int Str
noncomputable def xf7:Key->Value->Bool
 | .inl k,v=>Value.isInt k v
 | CU,v=>Value.isStrOf x v
noncomputable def keyH (w:World):Key->Int
 | .inl k=>hashInt k
 | CU=>hashStr w x
theorem xby:∀{k:Key}{v:Value},xf7 k v=true->(∃ i t,k=Qt i/\v=Ac)\/(∃ x t,k=Jb x/\v=QF x t)
 | .inl i,v,h=>by
  show(mN,t,Value.isInt_shape (k:=i) (v:=v) h);show(dR,bQ i t rfl e)
 | CU,v,h=>by
  show(mN,t,Value.isStrOf_shape (x:=x) (v:=v) h);show(eF,bQ x t rfl e)
theorem xp1 (i:Int) (t:Tok):xf7 (.inl i) UC=true:=by simp[xf7,Value.isInt]
theorem xqm (x:Str) (t:Tok):xf7 (.inr x) (.str x t)=true:=by simp[xf7,Value.isStrOf]
theorem xw6 (a b:Int):decide ((Qt a:Key)=Qt b)=Gb:=by
 by_cases e:a=b
 .ext cW; simp
 .have h:¬ (Qt a:Key)=Qt b:=fun q=>e (Qt.inj q);show(aD,decide_eq_false h,(beq_eq_false_iff_ne.mpr e).symm)
theorem xu8 (a b:Str):rY (cP zaO) (a=b):=by
 by_cases e:a=b
 .ext cW; simp
 .have h:¬ zaO:=fun q=>e (Jb.inj q);rw[decide_eq_false h,decide_eq_false e]
theorem xvl (a:Int) (b:Str):SB ((Qt a:Key)=Jb b):=zkr
theorem xw9 (a:Str) (b:Int):SB ((Jb a:Key)=Qt b):=zkr
noncomputable def xaz (prog:Program) (w:World):PySem.KeyKind prog w Key where
 is:=xf7
 hash:=keyH w
 inj:=fun v a b ha hb=>by
  rcases xby ha with⟨i,t,rfl,rfl⟩|⟨x,t,rfl,rfl⟩
  .rcases xby hb with⟨j,u,rfl,e⟩|⟨y,u,rfl,e⟩
   .ext zcY; rw[e1]
   .exact nomatch e
  .rcases xby hb with⟨j,u,rfl,e⟩|⟨y,u,rfl,e⟩
   .exact nomatch e
   .ext zcY; rw[e1]
 byValue:=fun k v h=>by
  rcases xby h with⟨i,t,rfl,rfl⟩|⟨x,t,rfl,rfl⟩<;>rfl
 pyHash:=fun hv h=>by
  rcases xby hv with⟨i,t,rfl,rfl⟩|⟨x,t,rfl,rfl⟩
  .exact wpAny_pyHash_int h
  .exact wpAny_pyHash_str h
 eqBool:=fun hu hv h=>by
  rcases xby hu with⟨i,t,rfl,rfl⟩|⟨x,t,rfl,rfl⟩
  .rcases xby hv with⟨j,u,rfl,rfl⟩|⟨y,u,rfl,rfl⟩
   .ext hJ xw6; exact wpAny_eqBool_int h
   .ext hJ xvl; exact Z1.int_str i t y u _ _ _ _ h
  .rcases xby hv with⟨j,u,rfl,rfl⟩|⟨y,u,rfl,rfl⟩
   .ext hJ xw9; exact Z1.str_int x t j u _ _ _ _ h
   .ext hJ xu8; exact wpAny_eqBool_str h
 «strs»:=fun k x t v h=>by
  rcases xby h with⟨i,u,rfl,e⟩|⟨y,u,rfl,e⟩
  .exact nomatch e
  .ext zcY
   subst e1;cases v<;>rfl
theorem xmf (prog:Program) (w:World) (i:Int) (t:Tok):(xaz prog w).is (.inl i) UC=true:=xp1 i t
theorem xmb (prog:Program) (w:World) (x:Str) (t:Tok):(xaz prog w).is (.inr x) (.str x t)=true:=xqm x t
inductive V where
 | non|bl (b:Bool)|int (i:Int)|str (x:Str)|byt (b:Array UInt8)|flt (b:UInt64)|ref (a:Addr)|ty (n:String)
 deriving DecidableEq
noncomputable def RelV:bE V Value
 | .non,u=>u=JG
 | uK,u=>u=Ye b
 | dY,u=>∃ t,u=Ac
 | lR,u=>∃ t,u=QF x t
 | .byt b,u=>∃ t,u=Value.bytes b t
 | .flt b,u=>∃ t,u=Value.float b t
 | bq,u=>u=Zs a
 | .ty n,u=>u=Value.type n
noncomputable abbrev Vals:bE af aY:=Paired RelV
theorem Vals.length {xs:af}{us:aY} (r:lI):xs.length=us.length:=YD r
theorem Vals.get:∀{xs:af}{us:aY}{i:Nat}{x:V},lI->tI->∃ u,(ba us u)/\ou
 | _,_,_,_,.nil,e=>Bw
 | _,_,0,_,.cons r _,e=>by ext BM; exact cN r
 | _,_,aX,x,KU,e=>by
  show(ag,u,h1,h2,Vals.get (i:=i) (x:=x) t vp);ext aE u qP h2
theorem Vals.append:∀{xs ys:af}{us ws:aY},lI->Vals ys ws->Vals (xs++ys) (us++ws)
 | _,_,_,_,.nil,s=>s
 | _,_,_,_,vZ,s=>.cons r (Vals.append t s)
theorem Vals.take:∀{xs:af}{us:aY} (n:Nat),lI->Vals (xs.take n) (us.take n)
 | _,_,0,_=>.nil
 | _,_,_+1,.nil=>.nil
 | _,_,iX,vZ=>.cons r (Vals.take n t)
theorem Vals.drop:∀{xs:af}{us:aY} (n:Nat),lI->Vals (xs.drop n) (us.drop n)
 | _,_,0,r=>r
 | _,_,_+1,.nil=>.nil
 | _,_,iX,KU=>Vals.drop n t
noncomputable def RelO:bE cc E6
 | ut,some u=>mK
 | none,none=>True
 | _,_=>False
noncomputable def KV {κ:Type}:bE eP vC:=Paired fun (p:κ × V) (q:κ × Value)=>aJ=q.1/\RelV bO q.2
noncomputable def kV:Key->V
 | .inl i=>dY
 | CU=>lR
inductive HO where
 /-- a list -/
 | lst (xs:af)
 /-- a tuple (never changes) -/
 | tup (xs:af)
 /-- a dict whose keys are ints and texts; one whose keys are tuples of ints and texts (the empty one is both) -/
 | dK (kvs:bD)|dT (kvs:dC)
 /-- a set of ints: its members,its size -/
 | set (S:Int->Bool) (n:Nat)
 /-- an instance of the class at C,its dict at dx,its attributes -/
 | ins (C dx:Addr) (fs:i7)
 /-- the dict of the instance at x -/
 | own (x:Addr)
 /-- the dict of an exception -/
 | xd (fs:i7)
 /-- a bound method,f of x -/
 | met (f x:Addr)
 /-- a range object lo,lo+1,.. below hi -/
 | rng (lo hi:Int)
 /-- a thing that is known to the object (the script; a dict while a loop walks it): read,never written while it is so -/
 | frz (o:Obj) (u:HO)
 /-- a code object's table -/
 | tbl (ps:gL)
 /-- any other thing,by what is true of its one object (a def of one's own: SetO a S n:=HO.ext fun h=>..) -/
 | ext (φ:Heap->Prop)
noncomputable abbrev Hp:=Addr->(dG HO)
noncomputable def upd (H:Hp) (a:Addr) (o:HO):Hp:=fun b=>(kf,b,a,some o,H b)
theorem xk {H:Hp}{a:Addr}{o:HO}:(ae,upd H a o a,o):=by unfold upd; rw[cp]
theorem xj {H:Hp}{a b:Addr}{o:HO} (h:b≠a):upd H a o b=H b:=by unfold upd; rw[az h]
theorem xez {H:Hp}{a:Addr}{o u:HO}:upd Fq a u=(eO a u):=by
 funext b; unfold upd; split<;>rfl
theorem xdd {H:Hp}{a b:Addr}{o u:HO} (h:Lu) (h':jd) (d:o≠u):a≠b:=by
 intro e; ext cW; rw[h] at h'; exact d (ZO.inj h')
theorem xi {H:Hp}{a b:Addr}{o:HO} (h:Lu) (h':dE):a≠b:=by
 intro e; ext cW; ext cF h h' h'
section
variable (P:Program) (w:World)
noncomputable def xbc (H:Hp) (h:Heap) (a:Addr):HO->Prop
  | .lst xs=>vx/\(zci,yL/\(kY Nm))
  | .tup xs=>vx/\∃ its:aY,yL/\IsTup h a its.toArray
  | L4=>Vk
  | .dT kvs=>D8/\Gr/\∃ xs:qZ,
      Paired (fun (p:eD × V) (q:eD × zdB)=>(bM,aJ,q.1,aT (bc q) (.tup ((aJ).map kV)),RelV bO (b8 q))) kvs xs /\
      ∃ o es ep,(kY o)/\o.ExactDict/\kT/\es.toList=xs.map (entryOfKey (tupleKind uf))/\(xs.map (·.1)).Nodup
  | .set S n=>h.SetOf (intKind P w) a S n
  | B6=>(Bi dx a)/\Pn/\dx≠a/\(kY (Yn C dx)) /\
      ∃ mA,Sj/\GO/\QR mA (fs.map (·.1))
  | .own _=>∃ o,kY o
  | .xd fs=>∃ mA,h.Ns1 a mA/\GO
  | .rng lo hi=>∃ t u v,kY (iY,"range",.fields (zpH 1))
  | LH=>(kY o)/\xbc H h a u
  | .tbl ps=>kY VR
  | .met f x=>kY (Xs rO)
  | .ext φ=>φ h/\(∃ o,kY o)/\∀ h1 h2:Heap,φ h1->(∀ o,(ae,h1.get? a,o)->(ae,h2.get? a,o))->φ h2
noncomputable def HOk (H:Hp) (h:Heap):Prop:=∀ a o,Lu->xbc P w H h a o
#check _
section
variable {P:Program}{w:World}{H H':Hp}{h h':Heap}{a:Addr}{o:HO}
theorem xbc.lt (x:xbc P w H h a o):a<h.objs.size:=by
 cases o with
 | lst xs=>obtain⟨_,_,_,_,e⟩:=x; ext w6
 | tup xs=>obtain⟨_,_,_,p⟩:=x; exact p.lt
 | dK kvs=>ext zjw
 | dT kvs=>ext zjw
 | set S n=>obtain⟨o,_,_,_,e,_⟩:122:=x; ext w6
 | ins C dx fs=>obtain⟨_,_,_,e,_⟩:45:=x; ext w6
 | own y=>obtain⟨_,e⟩:=x; ext w6
 | xd fs=>obtain⟨_,⟨_,_,_,e,_⟩,_⟩:62:=x; ext w6
 | rng lo hi=>obtain⟨_,_,_,e⟩:101:=x; ext w6
 | frz ob u=>obtain⟨e,_⟩:=x; ext w6
 | tbl ps=>exact Z0 (show kY _ from x)
 | met f y=>exact Z0 (show kY _ from x)
 | ext φ=>obtain⟨_,⟨_,e⟩,_⟩:43:=x; ext w6
theorem Paired.mapP {α β:Type}{F G:bE α β}:∀{l₁:aP}{l₂:List β},Paired F l₁ l₂->(∀ a b,F a b->G a b)->Paired G l₁ l₂
 | _,_,.nil,_=>.nil
 | _,_,vZ,f=>.cons (f _ _ r) (Paired.mapP t f)
theorem xbc.stay (x:xbc P w H h a o) (k:∀ b u,(b=a\/(Bi b a))->(ae,h.get? b,u)->(ae,h'.get? b,u))
    (ho:(gY,Bi b a,H' b=some (.own a))) (ht:GS):xbc P w H' h' a o:=by
  induction o with
  | lst xs=>ext zcR x; show(aO,z,bQ its n r rb)
  | tup xs=>obtain⟨z,its,r,ob,e,c⟩:=x; exact⟨z,its,r,ob,rb,c⟩
  | dK kvs=>obtain⟨z,y,⟨vs,r,ob,es,ep,e,c⟩⟩:43:=x; exact⟨z,y,vs,r,BB ob rb c⟩
  | dT kvs =>
    obtain⟨z,y,⟨xs,r,ob,es,ep,e,c⟩⟩:43:=x;exact⟨z,y,xs,Paired.mapP r fun p q z=>zlx,BB ob rb c⟩
  | set S n=>obtain⟨ob,es,ep,t,e,c⟩:122:=x; exact⟨122,ob,es,ep,t,rb,c⟩
  | ins C dx fs =>
    obtain⟨d,z,ne,e,⟨mA,⟨od,es,ep,e2,c⟩,r⟩⟩:45:=x;exact(cA,ho _ d,z,ne,rb,⟨mA,(BB,od,k _ _ (.inr d) e2,c),r⟩)
  | own y=>ext mN ob x; ext aO ob rb
  | xd fs=>obtain⟨mA,⟨od,es,ep,e,c⟩,r⟩:62:=x; show(aE,mA,BB od rb c,r)
  | rng lo hi=>obtain⟨t,u,v,e⟩:101:=x; exact⟨101,t,u,v,rb⟩
  | frz ob u ih=>ext hX e x; show(aO,rb,ih q)
  | tbl ps =>
    have e:kY VR:=x;show IA VR;exact k a _ fO e
  | met f y =>
    have e:kY (Xs (.ref y)):=x;show IA (Xs (.ref y));exact k a _ fO e
  | ext φ=>obtain⟨p,⟨o,e⟩,st⟩:43:=x; show(aE,st _ _ p fun o q=>k _ _ fO q,⟨o,rb⟩,st)
theorem HOk.lt (x:mD) (e:Lu):a<h.objs.size:=(x a o e).lt
theorem HOk.fresh (x:mD) (e:zcx):bu a:=by
 cases q:H a with
 | none=>rfl
 | some u=>show(zq,ZG (x.lt q) e)
theorem HOk.kept (x:mD) (k:MY):HOk P w H h':=fun a o e =>
 (x a o e).stay (fun b u _ q=>k b u q) SR Ex
theorem HOk.laid (x:mD) (k:MY) (hp:zcx) (new:xbc P w Fq h' a o):HOk P w Fq h':=fun b u e=>by
 have hn:=x.fresh hp;ext CJ a
 .subst hb; ext uC xk e new
 .rw [xj hb] at e;exact (x b u e).stay (fun c v _ q=>k c v q) (fun c q=>O6) (Fp O6)
#check _
noncomputable def Rd (H:Hp) (a:Addr) (u:HO):Prop:=(aT a u)\/∃ o,aT a LH
theorem Rd.ok {P:Program}{w:World}{H:Hp}{h:Heap}{a:Addr}{u:HO} (r:Rd H a u) (x:mD):xbc P w H h a u:=by
 rcases r with r|⟨o,r⟩
 .exact x a u r
 .obtain ⟨_,q⟩:=x a _ r;exact q
noncomputable def Mut:(dG HO)->Prop
 | some (.lst _)=>True
 | Cf _=>True
 | some (.dT _)=>True
 | some (.set _ _)=>True
 | some (.ins _ _ _)=>True
 | some (.ext _)=>True
 | _=>False
section
variable {P:Program}{w:World}{H:Hp}{h h':Heap}{x e:Addr}{o':HO}
theorem HOk.write (ok:mD) (mu:Mut (H x)) (he:zbH) (k:ziG) (heo:WT)
    (new:xbc P w (eO x o') h' x o'):HOk P w (eO x o') h':=fun b u q=>by
  have nown:∀ c y,(Bi c y)->c≠x:=fun c y r z=>X1 r
  have ntup:∀ c xs,(j8 c xs)->c≠x:=fun c xs r z=>X1 r
  ext CJ x
  . subst hb; ext uC xk q new
  . rw[xj hb] at q
    by_cases hbe:b=e
    . have q':Bi b x:=by
        rcases he with z|z
        . exact absurd (hbe.trans z) hb
        . ext aD hbe z
      ext bG q q' q';show(pK,v,hv,heo,v,aA hbe hv)
    . refine (ok b u q).stay (zcp r) (fun c r=>cS (nown c b r) r) fun c xs r=>cS (ntup c xs r) r
      rcases hc with rfl|hc
      . exact hbe
      . rintro rfl
        rcases he with z|z
        . exact nown c b hc z
        . ext bG hc z z; exact hb rfl
#check _
structure Un (fs ex:aw) (H H':Hp) (h h':Heap):Prop where
 keep:∀ b o,(bg,sG,dE,b∉fs,b∉ex,ya)
 slot:∀ b o,(bg,sG,dE,b∈fs,b∉ex,zkW)
 free:∀ b o,(bb,sG,dE,b∉ex,BL)
 there:(zr,sG,b∉ex,∃ o',RF o')
 tups:GS
 frzs:zjQ
 tbls:zgk
section
variable {fs fs' ex ex':List Addr}{H H1 H2:Hp}{h h1 h2 h':Heap}{a x e:Addr}{o:HO}
theorem Un.any (u:Un fs ex H H1 h h1) {b:Addr}{ob:Obj} (q:(ae,h.get? b,ob)) (n:dE) (hx:b∉ex):∃ sl,(ae,h1.get? b,{ ob with slots:=sl }):=by
 by_cases hb:b∈fs
 .exact u.slot b ob q n hb hx
 .exact ⟨ob.slots,u.keep b ob q n hb hx⟩
theorem Un.kept (k:MY):Un fs ex H H h h' :=
 ⟨(S2,ob,k b ob q),S2 ob ⟨ob.slots,k b ob q⟩,fun _ _ _ n _=>n,fun b ob q _=>⟨ob,k b ob q⟩,Ex,fun _ _ _ q=>q,fun _ ps q=>⟨#[],lA q⟩⟩
theorem Un.refl:Un fs ex H H h h:=Un.kept Ex
theorem Un.laid (k:MY) (hp:zcx) (hn:bu a):Un fs ex H Fq h h' where
 keep:=(S2,u,k b u q)
 slot:=S2 u ⟨u.slots,k b u q⟩
 free:=fun b u q n _=>(aA,xj (ZS (ZG (Z0 q) hp)),n)
 there:=fun b u q _=>⟨u,k b u q⟩
 tups:=xF xs O6
 frzs:=fun b u xs q=>O6
 tbls:=(znZ,fW q hn)
theorem Un.write (mu:Mut (H x)) (he:zbH) (k:ziG) (heo:WT):Un fs ex H (eO x o) h h':=by
 have hx:(gY,dE,b≠x):=fun b n z=>X1 n
 have hb:(gY,dE,b≠e):=fun b n z=>by
  subst z;rcases he with r|r
  .exact hx b n r
  .ext Ak n r
 have hm:∀ b u,jd->¬ Mut (some u)->b≠x:=fun b u q nm z=>by subst z; rw[q] at mu; exact nm mu
 refine⟨fun b u q n _ _=>k b u (hb b n) q,fun b u q n _ _=>⟨u.slots,k b u (hb b n) q⟩,fun b u q n _=>(aA,xj (hx b n),n),fun b u q _=>?_,
  (xF,xs,cS zbJ q),fun b u xs q=>cS zbJ q,(znZ,xj zbJ)⟩
 by_cases hbe:b=e
 .subst hbe; exact heo
 .exact ⟨u,k b u hbe q⟩
#check _
noncomputable def trk (h:Heap) (H:Hp):aw:=(zcK).filter fun a=>(H a).isSome
noncomputable def hidT (h:Heap) (H:Hp):Heap:=PySem.W.hideAll h (trk h H)
theorem xpv (h:Heap) (H:Hp):(Uf).objs.size=h.objs.size:=PySem.W.hideAll_size _ _
theorem xrm {h:Heap}{H:Hp}{b:Addr}{o:Obj} (e:sG) (n:dE):(ae,(Uf).get? b,o) :=
 PySem.W.hideAll_get _ e fun hm=>by
  have q:fL (H b):=(Zz.mp hm).2;rw[n] at q; simp at q
theorem xuh {h:Heap}{H:Hp}{b:Addr}{o:Obj} (e:(ae,(Uf).get? b,o)):sG/\dE:=by
 show(av,e',sG,PySem.W.of_hideAll (trk h H) e,eW e');cases q:H b with
 | none=>rfl
 | some x =>
  have hm:b∈trk h H:=Zz.mpr ⟨ZJ.mpr (Z0 e'),b6 q⟩;have z:(Uf).get? b=none:=PySem.W.hideAll_none (trk h H) hm;ext cF z e e
noncomputable def xuf (g h:Heap) (L:Addr):bp:=(zcK).filterMap fun a=>if a=L\/(fL (g.get? a)) then none else (h.get? a).map fun o=>(a,o)
noncomputable def rest (g h:Heap) (L d:Addr):bp:=(xuf g h L).filter fun p=>cP (aJ≠d)
structure Mod (K:Zd) (mg:fH) (base:Heap):Prop where
 kin:K.In base
 glob:base.Ns mainGlobals mg
 blt:∃ mb,base.Ns builtinsNs mb/\zjh
 nolimit:base.NoLimit
structure Cx where
 prog:Program
 w:World
 K:Zd
 mg:fH
 base:Heap
 A:Around
 N:am
 s₀:Shared
 H₀:Hp
 env:Env
 outer:mM
 stack:mM
 ex:aw
 fn:Str->Bool
 calm:Bool
 pn:bp
 xe:bA
noncomputable def frs (l:mM):aw:=l.filterMap (·.frame)
noncomputable abbrev Cx.fs (X:Cx):aw:=frs X.outer
noncomputable def Vis (sc:Scope) (x:Str):Prop:=(Nr,GR\/(ae,sc.names.lookup x,.free))
noncomputable def Loc (sc:Scope) (x:Str):Prop:=Nr GR
noncomputable def Look (env:Env) (h:Heap) (m:fH) (x:Str) (u:Value):Prop :=
 ((ae,env.kindOf x,.local)/\(ae,m x,u))\/(((ae,env.kindOf x,.cell)\/(ae,env.kindOf x,.free))/\∃ c,(ae,env.cells.lookup x,c)/\h.IsCell c (some u))
structure Cx.Ok (X:Cx):Prop where
 mod:zrE
 kind:X.env.scope.kind=.function
 glob:X.env.globals=mainGlobals
 blt:X.env.builtins=builtinsNs
 above:AI X.env.locals
 inj:∀ x y c,AB->(ae,X.env.cells.lookup y,c)->x=y
 has:∀ x,((ae,X.env.kindOf x,.cell)\/(ae,X.env.kindOf x,.free))->∃ c,AB
 cab:∀ x c,zdA->AB->X.s₀.heap.objs.size<=c
 hd:mE->X.A.handled=none
 frames:ae X.A.frames X.stack
 stk:X.stack=X.outer\/(X.stack=X.env::X.outer/\(ae X.env.frame X.env.locals))
 exf:∀ b∈X.ex,AV/\(yp b)
 bs:∀ b o,Ha->V7/\X.H₀ b=none
 bsz:X.base.objs.size<=X.s₀.heap.objs.size
 noex:(rX,Ha,b∉X.ex)
 exfs:∀ b∈X.ex,Ut
 funs:zqs X.outer
 frf:∀ b∈X.fs,X.H₀ b=none
structure Inv (X:Cx) (pins:bp) (Z:zbV) (H:Hp) (s:Shared):Prop where
 ok:X.Ok
 os:s.os=X.s₀.os
 bare:AllBare s.gens
 base:Un X.fs X.ex X.H₀ H X.s₀.heap s.heap
 loc:∃ m,zoq/\∀(i:Nat) (x:Str) (v:V),(bb,sZ,Di=(oh v),OQ,∃ u,mK/\Look X.env s.heap m x u)
 cell:∀ x c,AB->∃ v,s.heap.IsCell c v
 free:bu X.env.locals
 freeC:∀ x c,AB->(bu c)
 pin:∀ p∈n6,(ay,zor,bu aJ,aJ≠X.env.locals,aJ∉X.fs,zmM)
 hok:HOk X.prog X.w H s.heap
 len:Z.length=X.N.length
section
variable {X:Cx}{pins:List (Addr × Obj)}{Z:List (Option V)}{H H':Hp}{s:Shared}{h':Heap}
theorem Cx.Ok.nofr (ok:X.Ok) {b:Addr}{o:Obj} (e:Ha):Ut:=fun hb=>by
 show(zcd,(ok.funs.mem hb).1)
theorem Inv.bs (I:ax):∀ b o,Ha->jH/\dE:=fun b o e =>
 ⟨I.base.keep b o zaT (I.ok.bs b o e).2 (I.ok.nofr e) (I.ok.noex b o e),I.base.free b o zaT (I.ok.bs b o e).2 (I.ok.noex b o e)⟩
theorem Inv.bk (I:ax):rX Ha jH:=(wZ,(I.bs b o e).1)
theorem Inv.mod (I:ax):zrE:=I.ok.mod
theorem Inv.kIn (I:ax):X.K.In s.heap:=I.ok.mod.kin.keeps I.bk
theorem Inv.fr (I:ax):∃ m,Fr X.base X.env.locals s.heap m :=
 let ⟨m,hn,_⟩:=I.loc
 ⟨m,hn,I.bk,zpz⟩
theorem Inv.lt (I:ax):pI X.env.locals:=let ⟨_,hn,_⟩:=I.loc; hn.lt
theorem Inv.sz (I:ax):AI s.heap.objs.size:=ZK I.ok.above (JS I.lt)
theorem Inv.nofs (I:ax) {a:Addr} (h:Ef a):a∉X.fs:=fun hb=>by
 obtain⟨_,o,ho,_⟩:=I.ok.funs.mem hb;show(zq,ZG (Z0 ho) (ZK I.sz h))
theorem Inv.cne (I:ax):yp X.env.locals:=fun x c e z=>by
 ext jN v o ho hd RX;obtain⟨m,⟨o',es,ep,ho',hd',_⟩,_⟩:62:=(I.loc)
 rw[z,ho'] at ho; cases ho; ext cF hd' hd hd
theorem Inv.funs (I:ax):zao X.outer:=by
 have all:∀(l:mM),(∀ b∈frs l,b∈X.fs)->(zqs l)->(zao l):=by
  intro l
  induction l with
  | nil=>intro _ _; trivial
  | cons env r ih =>
   intro hs hl;obtain⟨hk,⟨L,o,hf,hn,ho,hd⟩,hr⟩:43:=hl;have hL:L∈X.fs:=hs L (zqJ Zm);show(mN,sl,I.base.slot L o ho (I.ok.frf L hL) hL (aj,I.ok.exfs L z hL))
   show(aE,hk,⟨84,L,_,hf,hn,e,hd⟩,ih (oG,hs b (zqJ MA)) hr)
 exact all X.outer (fun _ hb=>hb) I.ok.funs
theorem Inv.stack (I:ax):zao X.stack:=by
 rcases I.ok.stk with e|⟨e,hf⟩
 .show(cq,e,I.funs)
 .rw [e];show(iB,m,hn,I.loc)
  refine .cons (vQ I.ok.kind) hf hn ?_ I.funs;exact Heap.get?_none_of_le zpz
theorem Inv.stkSub (I:ax):∀ b∈EI,b∈X.env.locals::X.fs:=fun b hb=>by
 rcases I.ok.stk with e|⟨e,hf⟩
 .rw [e] at hb; exact MA
 .rw [e] at hb;unfold frs at hb;ext uM J9 hf hb hb
theorem Inv.stkFree (I:ax):∀ b∈EI,dE:=fun b hb=>by
 rcases zcV hb with e|hb
 .show(cq,e,I.free)
 .obtain ⟨_,o,ho,_⟩:=I.ok.funs.mem hb;exact I.base.free b o ho (I.ok.frf b hb) (aj,I.ok.exfs b z hb)
theorem Inv.step {g':Array GenState}{t':Nat}{d':Drawn}{ch:aw} (I:ax)
    (hch:U3)
    (keep:rX AV (bg Ut CO jH dE ya))
    (slot:rX AV (bg,b∈X.fs,CO,jH,dE,zkW)) (free:(zr,CO,jH,dE->BL))
    (there:(zr,CO,jH,∃ o',RF o'))
    (tups:GS) (frzs:zjQ) (tbls:zgk)
    (ns:∀ m,zoq->h'.Ns X.env.locals m) (hok:XQ) (hg:AllBare g') :
    zhr:=by
  have neL:rX V7 AV:=(wZ,ZS (wJ I.ok.above));have neC:(zr,V7,b∉X.ex,CO):=fun b o e hx hb=>by
    rcases (hch b hb).1 with z|z
    . exact hx z
    . show(zq,wJ z)
  have cellK:∀ x c,AB->∀ v,s.heap.IsCell c v->h'.IsCell c v:=fun x c e v ⟨o,ho,hd⟩=>by
    have nch:c∉ch:=(aj,(b8 (hch c z)).1 x c e rfl);by_cases hc:c∈X.fs
    . show(hX,sl,slot c o (I.cne x c e) hc nch ho Ru)
      exact cI q hd
    . show(aE,o,keep c o (I.cne x c e) hc nch ho Ru,hd)
  refine⟨I.ok,I.os,hg,⟨fun b o e n hb hx=>?_,fun b o e n hb hx=>?_,bN b o e n hx,Ro,(jj,tups b xs (I.base.tups b xs e)),(nh,xs,frzs b o xs (I.base.frzs b o xs e)),gZ b ps⟩,?_,gZ x c,?_,gZ x c,lv,hok,I.len⟩
  . exact keep b o (neL b o e) hb RW (I.base.keep b o e n hb hx) Xk
  . obtain⟨sl,e1⟩:=I.base.slot b o e n hb hx
    show(pK,sl',e2,slot b _ (neL b o e) hb RW e1 Xk,sl',e2)
  . obtain⟨o',e1⟩:=Oa
    exact free b o' RW e1 Xk
  . obtain⟨o',e1⟩:=Oa
    exact there b o' RW e1
  . obtain⟨m1,e1⟩:=I.base.tbls b ps e
    show(pK,m2,e2,tbls b _ e1,m1++m2,bR e2 Array.append_assoc)
  . ext zcS
    show(d9,m,ns m hn,fun i x v e1 e2 e3=>?_);show(ag,u,r,l,hl i x v e1 e2 e3);ext fX u r;rcases l with l|⟨k,c,e,z⟩
    . ext dR l
    . show(eF,⟨k,c,e,cellK x c e _ z⟩)
  . show(pK,v,z,RX,v,cellK x c e v z)
  . obtain⟨m,⟨o,_,_,ho,_⟩,_⟩:62:=(I.loc)
    exact free _ o (aj,(hch _ z).2.1 rfl) ho I.free
  . ext jN v o ho hd RX
    exact free c o (aj,(b8 (hch c z)).1 x c e rfl) ho Ru
  . obtain⟨e,n,ne,nf,d⟩:45:=SW
    have nch:aJ∉ch:=(aj,(b8 (hch aJ z)).2 p hp rfl);exact(cA,keep aJ bO ne nf nch e n,free aJ bO nch e n,ne,nf,d)
theorem Inv.un {t':Nat} (I:ax) (u:Un X.fs [] H H' s.heap h') (hok:XQ):cT H' Cm:=by
 obtain⟨m,⟨o,es,ep,ho,r⟩,_⟩:62:=id I.loc;obtain⟨sl,hL⟩:=u.any ho I.free ap;exact I.step (g':=s.gens) (d':=s.drawn) (ch:=[]) jJ (fun b o _ hb _ e n=>u.keep b o e n hb ap) (fun b o _ hb _ e n=>u.slot b o e n hb ap) (fun b o _ e n=>u.free b o e n ap) (fun b o _ e=>u.there b o e ap) u.tups u.frzs u.tbls (fun m' hm=>by
  obtain⟨o',es',ep',ho',r'⟩:102:=hm;ext zjJ) hok I.bare
theorem Inv.call {g':Array GenState}{t':Nat}{d':Drawn}{ch:aw} (I:ax) (u:Un EI ch H H' s.heap h') (hok:XQ) (hg:AllBare g')
    (hch:U3) :
    zhr:=by
  obtain⟨m,⟨o,es,ep,ho,r⟩,_⟩:62:=id I.loc;obtain⟨sl,hL⟩:=u.any ho I.free (aj,(hch _ z).2.1 rfl)
  exact I.step (ch:=ch) hch (fun b o hL hb hc e n=>u.keep b o e n (aj,(zcV z).elim hL hb) hc) (fun b o _ _ hc e n=>u.any e n hc) (fun b o hc e n=>u.free b o e n hc) (nh,hc,u.there b o e hc) u.tups u.frzs u.tbls (fun m' hm=>by
    obtain⟨o',es',ep',ho',r'⟩:102:=hm;ext zjJ) hok hg
theorem Inv.turned {t':Nat}{it:Addr} (I:ax) (k:Oj ya) (hn:bu it) (hL:it≠X.env.locals)
    (h1:it∈X.ex\/(AI it)) (h2:yp it) (h3:Il it):nK Cm:=by
  have nit:(uI,jd,b≠it):=fun b u e z=>by rw[z,hn] at e; cases e
  refine I.step (g':=s.gens) (d':=s.drawn) (ch:=sw) iC (Pa Xh) (Pa ⟨o.slots,Xh⟩) (fun _ _ _ _ n=>n)
    (nh hc ⟨o,Xh⟩) (fun _ _ e=>e) PM zne (aq m hm) wn I.bare
  . ext sX;exact bW h1 hL h2 h3
  . obtain⟨o,es,ep,ho,r⟩:102:=hm
    exact(BB,o,k _ o (Z2 hL) ho,r)
  . refine (zeS).stay (zcp q) SR Ex
    rcases hc with z|z
    . show(aD,z,nit b u e)
    . exact nit c _ z
theorem Inv.tok (I:ax) (t:Nat):nK { s with toks:=t }:=I.un (h':=s.heap) (t':=t) Un.refl I.hok
theorem Inv.kept {t':Nat} (I:ax) (k:ziq):nK Cm:=I.un (Un.kept k) (I.hok.kept k)
theorem Inv.laid {a:Addr}{o:HO}{t':Nat} (I:ax) (k:ziq) (hp:Ef a) (new:xbc X.prog X.w Fq h' a o) :
    cT Fq Cm:=I.un (Un.laid k hp (I.hok.fresh hp)) (I.hok.laid k hp new)
theorem Inv.write {x e:Addr}{o:HO}{t':Nat} (I:ax) (mu:Mut (H x)) (he:zbH) (k:pH e (ae,s.heap.get? b,u) (ae,h'.get? b,u)) (heo:WT)
    (new:xbc X.prog X.w (eO x o) h' x o):cT (eO x o) Cm:=I.un (Un.write mu he k heo) (I.hok.write mu he k heo new)
theorem Inv.weak {σ':zbV} (I:ax) (hl:σ'.length=Z.length) (w:∀(i:Nat) v,σ'[i]?=(oh v)->Di=zY):GA σ' H s :=
 ⟨I.ok,I.os,I.bare,I.base,let ⟨m,hn,hl'⟩:=I.loc; ⟨m,hn,fun i x v e1 e2 e3=>hl' i x v e1 (w i v e2) e3⟩,I.cell,I.free,I.freeC,I.pin,I.hok,hl.trans I.len⟩
theorem Inv.pins_of {pins':bp} (I:ax) (h:∀ p∈pins',(aR,zor,bu aJ,aJ≠X.env.locals,aJ∉X.fs/\zmM)):Inv X pins' Z H s :=
 ⟨I.ok,I.os,I.bare,I.base,I.loc,I.cell,I.free,I.freeC,(dX,(Zv.mp hp).elim (aj,I.pin p (ZH _ z)) (h p)),I.hok,I.len⟩
theorem xk7 {N:am} (hN:N.Nodup) {i j:Nat}{x:Str} (a:ba N x) (b:cC N x):i=j:=by
 obtain⟨h1,e1⟩:=Zh.mp a;obtain⟨h2,e2⟩:=Zh.mp b;exact (List.getElem_inj hN).mp (e1.trans e2.symm)
theorem xjs {M:Model}{A:Around}{E:bA}{i:Nat}{x:Str}{v:V}{u:Value}{Q:y0} (I:ax) (hN:X.N.Nodup) (hi:sZ) (hx:AM) (r:mK)
    (h:∀ s',(GA pk H s')->(∃ a,Jt a s.heap s'.heap/\(a=X.env.locals\/(ae,X.env.cells.lookup x,a)))->Q () s') (hf:Az:=by first|ext wP|ext z0|ext dZ):wpAny M A zrH Q E s:=by
  show(ag,m,hn,hl,id I.loc);show(nD,hcls,X.env.scope.kind == .class||(X.env.scope.kind == .module&&X.env.locals != X.env.globals),eS I.ok.kind)
  show(cG,hiσ,i<Z.length,(aA,I.len,gR hi),cne,I.cne);have tracked:∀{a:Addr}{h':Heap},(∃ o,(DU o)/\(bu a))->Jt a s.heap h'->HOk X.prog X.w H h':=fun {a h'} ha hs b ob e=>by
    obtain⟨_,_,hfree⟩:62:=ha;refine (I.hok b ob e).stay (fun c w' hc q=>(hs.2 c ?_).trans q) SR Ex;rintro rfl;rcases hc with rfl|hc
    . ext cF hfree e e
    . ext cF hfree hc hc
  rcases hx with hk|hk
  . refine wpAny_storeName_local hk hn (aI h' hn' hs) hcls
    obtain⟨oL,_,_,hoL,_⟩:102:=id hn;refine h _ ⟨I.ok,I.os,I.bare,⟨fun b o e n hb hx=>?_,fun b o e n hb hx=>?_,I.base.free,Ro,I.base.tups,I.base.frzs,I.base.tbls⟩,(cI,hn',fun j y v' e1 e2 e3=>?_),gZ y c,I.free,I.freeC,lv,tracked ⟨oL,hoL,I.free⟩ hs,zro⟩ (cI hs fO)
    . exact (hs.2 b (ZS (wJ I.ok.above))).trans (I.base.keep b o e n hb hx)
    . show(pK,sl,e1,I.base.slot b o e n hb hx,sl,(hs.2 b (ZS (wJ I.ok.above))).trans e1)
    . show(pK,o',e1,Oa,o',(hs.2 b (ZS (wJ I.ok.above))).trans e1)
    . by_cases hj:j=i
      . show(zgU,.inl ⟨hk,ap⟩)
      . show(zkc,hl j y v' e1 e2 e3);rcases q with⟨k,e⟩|⟨k,c,e,z⟩
        . refine .inl (eW k)
          have:y≠x:=fun e=>hj (xk7 hN e1 (e▸hi));simp[this,e]
        . show(eF,⟨k,c,e,zof⟩)
    . show(pK,w',z,I.cell y c e,w',zof)
    . obtain⟨e,n,ne,nf,d⟩:45:=SW
      exact(cA,(hs.2 aJ ne).trans e,n,ne,nf,d)
  . have hfn:zdA:=by
      rcases hf with z|z
      . exact z
      . ext cF z hk hk
    obtain⟨c,hc⟩:=I.ok.has x (.inl hk);obtain⟨w',z⟩:=I.cell x c hc;refine wpAny_storeName_cell I.ok.kind hk hc z (aI h' hc' hs);show(ag,oc,hoc,hocd,id z);refine h nR ⟨I.ok,I.os,I.bare,⟨fun b o e n hb hx=>?_,fun b o e n hb hx=>?_,I.base.free,Ro,I.base.tups,I.base.frzs,I.base.tbls⟩,⟨m,hn.sameBut hs (Z2 (cne x c hc)),fun j y v' e1 e2 e3=>?_⟩,gZ y c',I.free,I.freeC,lv,tracked ⟨oc,hoc,I.freeC x c hc⟩ hs,zro⟩ ⟨c,hs,.inr hc⟩
    . exact (hs.2 b (ZS (wJ (I.ok.cab x c hfn hc)))).trans (I.base.keep b o e n hb hx)
    . show(pK,sl,e1,I.base.slot b o e n hb hx,sl,(hs.2 b (ZS (wJ (I.ok.cab x c hfn hc)))).trans e1)
    . show(pK,o',e1,Oa,o',(hs.2 b (ZS (wJ (I.ok.cab x c hfn hc)))).trans e1)
    . by_cases hj:j=i
      . show(zgU,.inr ⟨.inl hk,c,hc,hc'⟩)
      . show(zkc,hl j y v' e1 e2 e3);rcases q with q|⟨k,c',e,z'⟩
        . ext dR q
        . show(Ax,⟨k,c',e,z'.sameBut hs ?_⟩)
          rintro rfl;exact hj (xk7 hN e1 (I.ok.inj _ _ _ e hc▸hi))
    . by_cases hcc:c'=c
      . subst hcc; exact eE hc'
      . show(pK,w2,z2,I.cell y c' e,w2,z2.sameBut hs hcc)
    . obtain⟨e,n,ne,nf,d⟩:45:=SW
      refine(cA,(hs.2 aJ ?_).trans e,n,ne,nf,d);intro q;rw[q,hoc] at e;have q':oc=bO:=Uw;exact d w' (cY q' hocd)
theorem xhy {M:Model}{A:Around}{E:bA}{i:Nat}{x:Str}{v:V}{u:Value}{Q:y0} (I:ax) (hN:X.N.Nodup) (hi:sZ) (hx:AM) (r:mK)
    (h:Re (GA pk H s')) (hf:Az:=by first|ext wP|ext z0|ext dZ):wpAny M A zrH Q E s :=
  xjs I hN hi hx r (fun s' I' _=>h s' I') hf
theorem Inv.call' {s':Shared}{ch:aw} (I:ax) (ho:s'.os=s.os) (u:Un EI ch H H' s.heap s'.heap) (hok:HOk X.prog X.w H' s'.heap) (hg:Pp)
    (hch:U3):vU:=by
  obtain⟨h',g',d',t',o'⟩:=s';show(tW,o',s.os,ho);exact I.call (g':=g') (t':=t') (d':=d') u hok hg hch
#check _
noncomputable abbrev XK:=Addr->(nG Addr)
noncomputable abbrev St:=zbV
noncomputable abbrev VK:=wV
noncomputable abbrev TE:=St->tt
noncomputable abbrev TT:=St->(bE Hp wb)
noncomputable abbrev TA:=St->(bE Hp zG)
structure Ends where
 nx:mT
 rt:VK
 bk:mT:=vw
 ct:mT:=vw
noncomputable abbrev TS:=Ends->mT
noncomputable def EP (X:Cx) (pins:bp) (Z:St) (Q:VK) (u:Value) (s':Shared):Prop:=∃ v H',vU/\mK/\CW
noncomputable def TP (X:Cx) (pins:bp) (Z:St) (Q:wb) (b:Bool) (s':Shared):Prop:=∃ H',vU/\Q b H'
noncomputable def AP (X:Cx) (pins:bp) (Z:St) (Q:zG) (us:aY) (s':Shared):Prop:=∃ vs H',vU/\FG/\Q vs H'
noncomputable def SP (X:Cx) (pins:bp) (D:Ends) (f:Flow) (s':Shared):Prop :=
 match f with
 | .next=>(Kk,D.nx σ' H')
 | .brk=>(Kk,D.bk σ' H')
 | .cont=>(Kk,D.ct σ' H')
 | .ret u=>∃ v σ' H',zcQ/\mK/\D.rt v H'
noncomputable def PE (X:Cx) (e:Expr) (t:TE):Prop :=
 (zjD,ax->Cj->wpAny aS X.A vK mz X.xe s)
noncomputable def PT (X:Cx) (e:Expr) (t:TT):Prop :=
 (M6,wb,ax->Cj->wpAny aS X.A (isTrue e X.env vK) Rw X.xe s)
noncomputable def PW (X:Cx) (e:Expr) (t:TT):Prop :=
 ∀(whole:TC) (pins:bp) (s:Shared) (Z:St) (H:Hp) (Q:wb),ax->Cj->wpAny aS X.A zra Rw X.xe s
theorem PW.pt {X:Cx}{e:Expr}{t:TT} (h:PW X e t):PT X e t:=h _
noncomputable def PA (X:Cx) (es:kg) (t:TA):Prop :=
 ∀(pos:Pos) (pins:bp) (s:Shared) (Z:St) (H:Hp) (Q:zG),ax->Cj->wpAny aS X.A (spliced yK) (AP X pins Z Q) X.xe s
noncomputable def PS (X:Cx) (st:Stmt) (t:TS):Prop :=
 (zho,wpAny aS X.A (exec st X.env) (SP X pins D) X.xe s)
noncomputable def PSs (X:Cx) (st:B2) (t:TS):Prop :=
 (zho,wpAny aS X.A (execs st X.env) (SP X pins D) X.xe s)
theorem thn {α:Type}{t:Sem α}{Q Q':eQ α}{M:Model}{A:Around}{E:bA}{s:Shared} (h:wpAny M A t Q E s) (hQ:∀ a s,Q a s->Q' a s):wpAny M A t Q' E s:=Ji h hQ fun _ _ x=>x
section
variable {X:Cx}
theorem bin {a b:Expr}{ta tb:TE} (ha:oa) (hb:vY) {pins:bp}{s:Shared}{Z:St}{H:Hp}{R:V->wV} (I:ax) (h:zkT)
    {α:Type}{Q:eQ α}{f:Value->Value->Sem α}
    (hf:(ziD,wpAny aS X.A (f v u) Q X.xe s2)) :
    wpAny aS X.A EC (kS,s₁,wpAny aS X.A Bu (fun u s₂=>wpAny aS X.A (f v u) Q X.xe s₂) X.xe s₁) X.xe s:=by
  show(jX,ha pins s Z H _ I h,fun v s1 ⟨x,H1,I1,r1,q1⟩=>?_);show(jX,hb pins s1 Z H1 _ I1 q1,fun u s2 ⟨y,H2,I2,r2,q2⟩=>?_);exact hf v u s2 x y H2 I2 r1 r2 q2
@[reducible] def oV:(bE,Option (Option V),V->Prop)
 | zY,k=>k v
 | _,_=>False
theorem xyd:∀{o:Option (Option V)}{k:V->Prop},oV o k->∃ v,o=zY/\k v
 | zY,_,h=>eV v h
@[reducible] def iV:V->(bE V RM)
 | dY,Gn,k=>k i j
 | _,_,_=>False
theorem xoa {x y:V}{k:RM} (h:iV x y k):∃ i j,Ku/\y=.int j/\k i j:=by
 cases x with
 | int i =>
  cases y with
  | int j=>exact Au i j rfl h
  | _=>exact h.elim
 | _=>exact h.elim
@[reducible] def lV:bE af (bE V af)
 | uQ,k=>k v r
 | [],_=>False
theorem xsa:∀{l:af}{k:bE V af},lV l k->∃ v r,l=uQ/\k v r
 | uQ,_,h=>bQ v r rfl h
@[reducible] def nV:bE af Prop
 | [],p=>p
 | dc,_=>False
theorem xsg:∀{l:af}{p:Prop},nV l p->l=[]/\p
 | [],_,h=>bY h
@[reducible] def tVar (i:Nat) (Z:St) (H:Hp) (Q:VK):Prop:=oV Di fun v=>Q v H
@[reducible] def tC (v:V):TE:=(FC,Q v H)
theorem xv8 {i:Nat}{x:Str}{pos:Pos} (hN:sZ) (hv:OQ) (hd:nQ:=by decide) (hcd:zmN:=by decide):PE X sT (tVar i):=by
 intro pins s Z H Q I h;show(ag,v,e,h,xyd h);ext zcS
 show(ag,u,r,l,hl i x v hN e hv);have fin:EP X pins Z Q u s:=zO v r
 rcases l with⟨hk,hm⟩|⟨hk,c,hc,hcell⟩
 .exact wpAny_Name (zkM fin) hd
 .rcases hk with hk|hk
  .exact wpAny_Name (zko fin) hd
  .exact wpAny_Name (wpAny_loadName_free I.ok.kind hk hc hcell fin hcd) hd
theorem xo {i j pos}:zbm dY (tC (.int i)):=(D6,wpAny_Constant_int (aZ dY H iI eR h))
theorem xc2 {b j pos}:zbm (.bool b) (tC (.bl b)):=(D6,Constant_bool (zO uK rfl))
theorem xc0 {j pos}:PE X (.Constant .none j pos) (tC .non):=(D6,Constant_none (zO .non rfl))
theorem xa4 {x j pos}:zbm lR (tC (.str x)):=(D6,Calls.Constant_str (aZ lR H iI eR h))
noncomputable def Gl (X:Cx) (x:Str):Prop:=(ae,X.env.kindOf x,.globalImplicit)
theorem xhl {E:bA}{pins:bp}{s:Shared}{Z:St}{H:Hp}{x:Str}{u:Value}{pos:Pos}{Q:bA} (I:ax) (hg:rL) (hm:(ae,X.mg x,u)) (h:Q u s)
    (hd:nQ:=by decide):wpAny aS X.A (lD sT) Q E s :=
  Calls.Name_function_global I.ok.kind hg (Calls.loadGlobal_global ziy hm h) hd
theorem xd8 {E:bA}{pins:bp}{s:Shared}{Z:St}{H:Hp}{x:Str}{u:Value}{pos:Pos}{Q:bA} (I:ax) (hg:rL) (hm:zi x) (hv:zoY) (h:Q u s)
    (hn:Ih:=by decide) (hd:nQ:=by decide):wpAny aS X.A (lD sT) Q E s:=by
  show(ag,mb,h1,h2,I.mod.blt)
  exact Calls.Name_function_global I.ok.kind hg (Calls.loadGlobal_builtin ziy hm (by rw[I.ok.blt]; exact h1.keeps I.bk) ((h2 x hn).trans hv) h) hd
theorem xg5 {x:Str}{v:V}{u:Value}{pos:Pos} (hg:rL) (hm:(ae,X.mg x,u)) (r:mK) (hd:nQ:=by decide):PE X sT (tC v) :=
 (D6,xhl I hg hm (zO v r) hd)
theorem xf1 {x:Str}{v:V}{u:Value}{pos:Pos} (hg:rL) (hm:zi x) (hv:zoY) (r:mK) (hn:Ih:=by decide) (hd:nQ:=by decide):PE X sT (tC v) :=
 (D6,xd8 I hg hm hv (zO v r) hn hd)
variable {a b:Expr}{ta tb:TE}{pos:Pos}
noncomputable def PC (X:Cx) (op:CmpOp) (a b:Expr) (t:TE):Prop :=
 ∀(pins:List (Addr × Obj)) (s:Shared) (Z:St) (H:Hp) (Q:VK),ax->Cj ->
  wpAny aS X.A EC (kS,s₁,wpAny aS X.A Bu (fun u s₂=>wpAny aS X.A (compareOp op v u) mz X.xe s₂) X.xe s₁) X.xe s
theorem xlu (b:Expr) {op:CmpOp} (h:op≠.In) (h2:op≠.NotIn):Dy:=by
 show(uL,e1,op,CmpOp.In,by cases op<;>first|rfl|ext iP h)
 show(uL,e2,op,CmpOp.NotIn,by cases op<;>first|rfl|ext iP h2)
 ext znU
inductive tB_i (x:V) (H1:Hp) (Q:wb):Prop
 | mk (c) (e_:x=.bl c) (r_:Q c H1)
noncomputable def tB (t:TE):TT:=(kC,t Z H fun x H1=>tB_i x H1 Q)
theorem xvp {op:CmpOp}{t:TE} (h:PC X op a b t) (h1:Dy:=by first|exact xlu _ au au|rfl):PE X NW t:=fun pins s Z H Q I hw=>wpAny_Compare1 (h pins s Z H Q I hw) h1
theorem xcj {op:CmpOp}{t:TE} (h:PC X op a b t) (h1:Dy:=by first|exact xlu _ au au|rfl):PT X NW (tB t):=by
 intro pins s Z H Q I hw;refine wpAny_isTrue_Compare1 (thn (h pins s Z H _ I hw) fun v s1 h1=>thn h1 fun u s2 h2=>thn h2 fun c s3 ⟨x,H1,I1,r1,q1⟩=>?_) h1;ext Ox d q;exact JI ⟨H1,I1,q⟩
theorem xb3 {e:Expr}{t:TE} (h:PE X e t) (he:zhF zra e.pos:=by intro _; rfl):PT X e (tB t):=by
 intro pins s Z H Q I hw;refine isTrue_plain (thn (h pins s Z H _ I hw) fun v s1 ⟨x,H1,I1,r1,q1⟩=>?_) (he _);ext Ox d q;exact JI ⟨H1,I1,q⟩
variable {tA tB':TT}{rest:List Expr}
noncomputable def tAnd (t u:TT):TT:=yd c (cu,c,u Z H1 Q,Q false H1)
noncomputable def tOr (t u:TT):TT:=yd c (cu,c,Q true H1,u Z H1 Q)
noncomputable def tNot (t:TT):TT:=(yd,c,Q (! c) H1)
theorem xcv (ha:KY):zaS [a] tA:=by
 intro wh pins s Z H Q I h;refine isTrue_and (thn (ha pins s Z H Q I h) (gZ c s1));cases c with
 | true=>exact isTrue_and_nil e
 | false=>exact e
theorem xdh (ha:KY):zbt [a] tA:=by
 intro wh pins s Z H Q I h;refine isTrue_or (thn (ha pins s Z H Q I h) (gZ c s1));cases c with
 | false=>exact isTrue_or_nil e
 | true=>exact e
theorem xc9 (ha:KY) (hb:zaS FF tB'):zaS (a::FF) (tAnd tA tB'):=by
 intro wh pins s Z H Q I h;refine isTrue_and (thn (ha pins s Z H _ I h) (we c s1 H1 I1 q1));cases c with
 | true=>exact hb wh pins s1 Z H1 Q I1 q1
 | false=>ext aE H1 I1 q1
theorem xei (ha:KY) (hb:zbt FF tB'):zbt (a::FF) (tOr tA tB'):=by
 intro wh pins s Z H Q I h;refine isTrue_or (thn (ha pins s Z H _ I h) (we c s1 H1 I1 q1));cases c with
 | true=>ext aE H1 I1 q1
 | false=>exact hb wh pins s1 Z H1 Q I1 q1
theorem xct (ha:KY):PT X zse (tNot tA):=by
 intro pins s Z H Q I h;exact isTrue_not (ha pins s Z H (fun c H1=>Q (! c) H1) I h)
inductive xt3 (tb:TE) (Z:St) (x:V) (H1:Hp) (Q:VK):Prop
 | mk (c) (e_:x=.bl c) (r_:(cu,c,tb Z H1 Q,Q (.bl false) H1))
noncomputable def xyx (ta tb:TE):TE:=(xU,xt3 tb Z x H1 Q)
inductive xto (x:V) (H1:Hp) (Q:VK):Prop
 | mk (c) (e_:x=.bl c) (r_:Q (.bl (! c)) H1)
noncomputable def xyt (ta:TE):TE:=(xU,xto x H1 Q)
theorem xe9 {op}{t:TE} (h:PE X a t):zfG op [a] t:=fun pins s Z H Q I hw=>BoolOp_one (h pins s Z H Q I hw)
theorem xdi (ha:oa) (hb:zfG .And FF tb):zfG .And (a::FF) (xyx ta tb):=by
 intro pins s Z H Q I h;refine BoolOp_and (thn (ha pins s Z H _ I h) fun v s1 ⟨x,H1,I1,r1,q1⟩=>?_);ext Ox c q1;refine JI ?_;cases c with
 | true=>exact hb pins s1 Z H1 Q I1 q1
 | false=>exact(kL,.bl false,H1,I1,q1)
theorem xv4 (ha:oa):PE X zse (xyt ta):=by
 intro pins s Z H Q I h;refine UnaryOp_ (thn (ha pins s Z H _ I h) fun v s1 ⟨x,H1,I1,r1,q1⟩=>?_);ext Ox c q1;exact not_of (JI (kL,.bl (! c),H1,I1,q1))
noncomputable def tIf (t:TT) (ta tb:TE):TE:=yd c (cu,c,ta Z H1 Q,tb Z H1 Q)
theorem xia {c:Expr} (hc:PT X c tA) (ha:oa) (hb:vY):PE X (.IfExp c a b pos) (tIf tA ta tb):=by
 intro pins s Z H Q I h;refine wpAny_IfExp (thn (hc pins s Z H _ I h) (we d s1 H1 I1 q1));cases d with
 | true=>exact ha pins s1 Z H1 Q I1 q1
 | false=>exact hb pins s1 Z H1 Q I1 q1
#check _
noncomputable def SqL (K:Zd) (H:Hp) (a:Addr) (xs:af):Prop :=
 Rd H a (.lst xs) \/
  (zrm,zsi/\(zhM (KI "list") zff))
noncomputable def SqT (K:Zd) (H:Hp) (a:Addr) (xs:af):Prop :=
 Rd H a (.tup xs) \/
  (zrm,zhM zsi (KI "tuple"))
noncomputable def absV:Value->(dG V)
 | .none=>some .non
 | .bool b=>some (.bl b)
 | .int i _=>bH i
 | .str x _=>fM x
 | .bytes b _=>some (.byt b)
 | .float b _=>some (.flt b)
 | bq=>dN
 | .type n=>some (.ty n)
 | _=>none
theorem RelV.abs {x:V}{u:Value} (r:ou):(ae,absV u,x):=by
 cases x with
 | non=>ext jG r
 | bl _=>ext jG r
 | int _=>ext E8
 | str _=>ext E8
 | byt _=>ext E8
 | flt _=>ext E8
 | ref _=>ext jG r
 | ty _=>ext jG r
theorem RelV.inj {x y:V}{u:Value} (r:ou) (q:gg):x=y:=ZO.inj (r.abs.symm.trans q.abs)
theorem Vals.inj:∀{xs ys:af}{us:aY},lI->(xK ys)->xs=ys
 | _,_,_,.nil,.nil=>rfl
 | _,_,_,vZ,.cons r' t'=>(bR,r.inj r',Vals.inj t t')
section
variable {X:Cx}{pins:List (Addr × Obj)}{Z:St}{H:Hp}{s:Shared}{a:Addr}{xs ys:List V}
theorem SqL.of {K:Zd} (h:vy a xs):qW:=.inl (.inl h)
theorem SqT.of {K:Zd} (h:j8 a xs):IH:=.inl (.inl h)
theorem Inv.list (I:ax) (h:SqL X.K H a xs):∃ its:aY,yL/\PlainL s.heap a its.toArray/\vx:=by
 rcases h with h|⟨o,its,n,hk,hc,hd,hs,hz,r⟩
 .obtain ⟨z,its,n,r,e⟩:=h.ok I.hok;show(gG,its,r,⟨84,_,n,e,rfl,rfl,rfl⟩,z)
 .show(zhA,⟨84,o,n,I.kIn a o hk,hc,hd,by simpa using hs⟩)
theorem Inv.tuple (I:ax) (h:SqT X.K H a xs):∃ its:aY,yL/\IsTup s.heap a its.toArray/\vx:=by
 rcases h with h|⟨o,its,n,hk,hc,hs,hz,r⟩
 .obtain ⟨z,its,r,p⟩:=h.ok I.hok;ext gG its r p z
 .show(zhA,(bL,o,I.kIn a o hk,hc,⟨n,by simpa using hs⟩))
theorem Inv.list_inj (I:ax) (h:SqL X.K H a xs) (h':SqL X.K H a ys):xs=ys:=by
 obtain⟨its,r,⟨o,n,e,_,_,d⟩,_⟩:63:=I.list h;obtain⟨its',r',⟨o',n',e',_,_,d'⟩,_⟩:63:=I.list h';ext zfV
theorem Inv.tuple_inj (I:ax) (h:SqT X.K H a xs) (h':SqT X.K H a ys):xs=ys:=by
 obtain⟨its,r,⟨o,e,_,n,d⟩,_⟩:63:=I.tuple h;obtain⟨its',r',⟨o',e',_,n',d'⟩,_⟩:63:=I.tuple h';ext zfV
#check _
noncomputable abbrev Cx.wish (X:Cx) (E:bA):Cx:={ X with xe:=E }
noncomputable abbrev Cx.nox (X:Cx):Cx:=X.wish vw
theorem Cx.Ok.wish {X:Cx} (ok:X.Ok) (E:bA):(Lq).Ok :=
 ⟨ok.mod,ok.kind,ok.glob,ok.blt,ok.above,ok.inj,ok.has,ok.cab,ok.hd,ok.frames,ok.stk,ok.exf,ok.bs,ok.bsz,ok.noex,ok.exfs,ok.funs,ok.frf⟩
theorem Cx.Ok.unwish {X:Cx}{E:bA} (ok:(Lq).Ok):X.Ok :=
 ⟨ok.mod,ok.kind,ok.glob,ok.blt,ok.above,ok.inj,ok.has,ok.cab,ok.hd,ok.frames,ok.stk,ok.exf,ok.bs,ok.bsz,ok.noex,ok.exfs,ok.funs,ok.frf⟩
section
variable {X:Cx}{pins:List (Addr × Obj)}{Z:St}{H:Hp}{s:Shared}{E:Value->Shared->Prop}
theorem Inv.wish (I:ax) (E:bA):Inv Lq pins Z H s:=⟨I.ok.wish E,I.os,I.bare,I.base,I.loc,I.cell,I.free,I.freeC,I.pin,I.hok,I.len⟩
theorem Inv.unwish (I:Inv Lq pins Z H s):ax:=⟨I.ok.unwish,I.os,I.bare,I.base,I.loc,I.cell,I.free,I.freeC,I.pin,I.hok,I.len⟩
theorem SP.unwish {D:Ends}{f:Flow}{s':Shared} (h:SP Lq pins D f s'):SP X pins D f s':=by
 cases f with
 | next=>ext Vm
 | brk=>ext Vm
 | cont=>ext Vm
 | ret u=>obtain⟨v,σ',H',I,r,q⟩:103:=h; exact⟨103,v,σ',H',I.unwish,r,q⟩
theorem PSs.nox {st:B2}{t:TS} (h:PSs X.nox st t):PSs X st t:=fun pins s Z H D I hw =>
 Ji (h pins s Z H D (I.wish _) hw) (fun _ _ q=>q.unwish) (mQ,JX z)
#check _
section
variable {X:Cx}{st:Stmt}{rest:List Stmt}{t u:TS}{e:Expr}{te:TE}{pos:Pos}
noncomputable def xxl:TS:=mO zo
noncomputable def tSeq (t u:TS):TS:=(mO,t Hq Z H)
theorem xad:PSs X [] xxl:=fun _ _ Z H _ I h=>QV (bQ Z H I h)
theorem xh (h1:Ta) (h2:PSs X rest u):PSs X (st::rest) (tSeq t u):=by
 intro pins s Z H D I h;show(znz,h1 pins s Z H Hq I h);cases f with
 | next =>
  show(jN,σ',H',I',q,q);exact h2 pins s1 σ' H' D I' q
 | ret v=>exact q
 | brk=>exact q
 | cont=>exact q
theorem xl (h1:Ta):PSs X [st] t:=by
 intro pins s Z H D I h;show(znz,h1 pins s Z H D I h);cases f with
 | next=>exact QV q
 | ret v=>exact q
 | brk=>exact q
 | cont=>exact q
theorem Inv.quiet {pins:bp}{Z:St}{H:Hp}{s:Shared} (I:ax):interactive X.env=false:=by simp[interactive,I.ok.kind]
noncomputable def xxh (te:TE):TS:=(mO,te Z H fun _ H1=>D.nx Z H1)
theorem xap (he:tF) (hs:M8 e none:=by rfl):PS X (.Expr e pos) (xxh te):=by
 intro pins s Z H D I h;exact wpAny_Expr_any (thn (he pins s Z H _ I h) fun v s1 ⟨x,H1,I1,r1,q1⟩=>bQ Z H1 I1 q1) I.quiet hs
noncomputable def tRet (te:TE):TS:=(mO,te Z H D.rt)
theorem xz (he:tF):PS X (.Return (some e) pos) (tRet te):=by
 intro pins s Z H D I h;exact wpAny_Return_some (thn (he pins s Z H _ I h) fun v s1 ⟨x,H1,I1,r1,q1⟩=>⟨103,x,Z,H1,I1,r1,q1⟩)
noncomputable def tIfS (c:TT) (t u:TS):TS:=(mO,c Z H fun b H1=>(cu,b,t D Z H1,u D Z H1))
theorem xar {c:Expr}{a b:B2}{tc:TT} (hc:PT X c tc) (ha:PSs X a t) (hb:PSs X b u):PS X (.If c a b pos) (tIfS tc t u):=by
 intro pins s Z H D I h;refine wpAny_If (thn (hc pins s Z H _ I h) (we d s1 H1 I1 q1));cases d with
 | true=>exact ha pins s1 Z H1 D I1 q1
 | false=>exact hb pins s1 Z H1 D I1 q1
noncomputable def xvx:TS:=HK
theorem xbu:PS X st xvx:=fun _ _ _ _ _ _ h=>h.elim
#check _
noncomputable abbrev TG:=V->St->(bE Hp mT)
noncomputable abbrev TGs:=af->St->(bE Hp mT)
noncomputable def PG (X:Cx) (target:Expr) (t:TG):Prop :=
 ∀(pins:bp) (s:Shared) (Z:St) (H:Hp) (v:V) (u:Value) (Q:mT),ax->mK->t v Z H Q ->
  wpAny aS X.A (assign target X.env u) znN X.xe s
noncomputable def PGs (X:Cx) (ts:kg) (t:TGs):Prop :=
 ∀(pins:bp) (s:Shared) (Z:St) (H:Hp) (vs:af) (us:aY) (Q:mT),ax->FG->t vs Z H Q ->
  wpAny aS X.A (assignInOrder ((zex ts).map (·.2)) us) znN X.xe s
noncomputable abbrev TIp:=Ky
noncomputable def PIp (X:Cx) (op:Operator) (t:TIp):Prop :=
 ∀(pins:List (Addr × Obj)) (s:Shared) (Z:St) (H:Hp) (x y:V) (v u:Value) (Q:VK),Inv X pins Z H s->RelV x v->RelV y u->t x y H Q ->
  wpAny aS X.A (inplaceOp op v u) mz X.xe s
section
variable {X:Cx}{pos:Pos}
@[reducible] def xcp (i:Nat):TG:=fun v Z H Q=>Q pk H
theorem xg8 {i:Nat}{x:Str} (hN:X.N.Nodup) (hi:sZ) (hx:AM) (hf:Az:=by first|ext wP|ext z0|ext dZ):PG X sT (xcp i):=by
 intro pins s Z H v u Q I r h;exact wpAny_assign_Name (xhy I hN hi hx r (fun s' I'=>bQ _ H I' h) hf)
@[reducible] def gNil:TGs:=fun vs Z H Q=>nV vs (Q Z H)
@[reducible] def xn7 (t:TG) (u:TGs) (vs:af) (Z:St) (H:Hp) (Q:mT):Prop:=lV vs (kS,r,t v Z H (Ca,u r σ' H' Q))
theorem xam:PGs X [] gNil:=by
 intro pins s Z H vs us Q I r h;show(tS,h,xsg h);ext cW;cases r;exact assignInOrder_nil (bQ Z H I h)
theorem xp {e:Expr}{es:kg}{t:TG}{u:TGs} (h1:PG X e t) (h2:PGs X es u)
    (hs:(zex nB).map (·.2)=assign e X.env::(zac).map (·.2):=by rfl):PGs X nB (xn7 t u):=by
  intro pins s Z H vs us Q I r h;show(jN,v,vr,e1,h,xsa h);subst e1;cases r with
  | cons r rr =>
    rw[hs];refine assignInOrder_cons (thn (h1 pins s Z H _ _ _ I r h) fun _ s1 ⟨σ1,H1,I1,q1⟩=>?_);exact h2 pins s1 σ1 H1 _ _ Q I1 rr q1
inductive gTup (K:Zd) (n:Nat) (t:TGs) (v:V) (Z:St) (H:Hp) (Q:mT):Prop
 | mk (a xs) (e_:cQ v a) (r_:IH/\xs.length=n/\t xs Z H Q)
theorem xav {es:kg}{k:Nat}{t:TGs}{n:Nat} (hc:mE) (h:PGs X es t)
    (hn:(zac).length=n:=by rfl) (hst:(zac).findIdx? (·.1)=none:=by rfl):PG X (.Tuple es k pos) (gTup X.K n t):=by
  intro pins s Z H v u Q I r hw;obtain⟨a,xs,e1,hq,hl,hw⟩:=hw;subst e1;cases r;ext bF its rv ht hz KA;refine assign_Tuple_tuple jM ht (by simp[hn,<- hl,rv.length]) hst (aq h' hx);show(kO,I1,nK nR,I.kept (t':=s.toks) (wZ,hx b o (ZS (Z0 e)) e),h pins _ Z H xs _ Q I1 (by simpa using rv) hw)
noncomputable def tAsg (te:TE) (g:TG):TS:=(mO,te Z H fun x H1=>g x Z H1 D.nx)
theorem xb5 {tg e:Expr}{te:TE}{g:TG} (he:tF) (hg:PG X tg g) (hs:swapsWithSole [tg] e pos.line X.env=pure false:=by rfl) (hw:swappedStores [tg] e X.env=pure none:=by rfl)
    (h1:(zex [tg]).map (·.2)=[assign tg X.env]:=by rfl):PK tg e (tAsg te g):=by
  intro pins s Z H D I h;refine wpAny_Assign_stores (thn (he pins s Z H _ I h) fun v s1 ⟨x,H1,I1,r1,q1⟩=>?_) hs hw;show(aD,h1,thn (hg pins s1 Z H1 x v _ I1 r1 q1) fun _ s2 q=>q)
theorem xc4 {i:Nat}{x:Str}{e:Expr}{te:TE}{pos':Pos} (hN:X.N.Nodup) (hi:sZ) (hx:AM) (he:tF) (hs:zmk:=by rfl) (hf:Az:=by first|ext wP|ext z0|ext dZ) :
    zjx:=by
  intro pins s Z H D I h;refine wpAny_Assign_Name (thn (he pins s Z H _ I h) fun v s1 ⟨y,H1,I1,r1,q1⟩=>?_) hs;exact xhy I1 hN hi hx r1 (fun s2 I2=>bQ _ H1 I2 q1) hf
noncomputable def tAug (i:Nat) (te:TE) (ti:TIp):TS:=(mO,∃ x,Di=(oh x)/\te Z H fun y H1=>ti x y H1 fun z H2=>D.nx (Z.set i (some z)) H2)
theorem xwp {i:Nat}{x:Str}{e:Expr}{te:TE}{op:Operator}{ti:TIp}{pos':Pos} (hN:X.N.Nodup) (hi:sZ) (hx:AM) (he:tF) (ho:PIp X op ti) (hf:Az:=by first|ext wP|ext z0|ext dZ) :
    PS X (.AugAssign (.Name x pos') op e pos) (tAug i te ti):=by
  intro pins s Z H D I h;ext ag v e1 h h;ext zcS
  have vis:OQ:=by rcases hx with k|k; exact .inl k; exact .inr (.inl k)
  show(ag,u,r,l,hl i x v hi e1 vis);refine wpAny_AugAssign_Name ?_;have go:wpAny aS X.A vK (fun w s₂=>wpAny aS X.A (inplaceOp op u w) (fun r s₃=>wpAny aS X.A (storeName X.env x r) (fun _=>SP X pins D .next) X.xe s₃) X.xe s₂) X.xe s:=by
    show(jX,he pins s Z H _ I h,fun w s1 ⟨y,H1,I1,r1,q1⟩=>?_);show(jX,ho pins s1 Z H1 v y u w _ I1 r r1 q1,fun z s2 ⟨zv,H2,I2,r2,q2⟩=>?_);exact xhy I2 hN hi hx r2 (fun s3 I3=>bQ _ H2 I3 q2) hf
  rcases l with⟨hk,hm⟩|⟨hk,c,hc,hcell⟩
  . exact zkM go
  . rcases hk with hk|hk
    . exact zko go
    . rcases hx with k|k
      . ext zhf
      . ext zhf
#check _
section
variable {X:Cx}{pos:Pos}
noncomputable def xgi (c:TT) (tb:TS):TS:=fun D Z H=>∃ W:FL,(∃ m,W m Z H)/\∀ m Z H,W m Z H ->
 c Z H fun b H1=>(cu,b,(zow,(B8,m,W m' σ' H'),tb (XB N) Z H1),D.nx Z H1)
theorem xga {c:Expr}{body:B2}{tc:TT}{tb:TS} (hp:zmx) (hc:PT X c tc) (hb:PSs X body tb):PS X (.While c body [] pos) (xgi tc tb):=by
 intro pins s Z H D I h;obtain⟨W,⟨m0,w0⟩,turn⟩:62:=h;refine wpAny_While (codeAny_whileLoop (nH n (Kk,W n σ' H')) ?_ m0 (bQ Z H I w0));rintro n s1 (⟨σ1,H1,I1,w1⟩:82);show(EV,hc pins s1 σ1 H1 _ I1 (turn n σ1 H1 w1),we b s2 H2 I2 q2);cases b with
 | true =>
  ext ag N hN q2 q2;rw[cp];refine Y9 hp (thn (hb pins s2 σ1 H2 _ I2 q2) (aI f s3 q3));cases f with
  | next =>
   ext zgq
  | cont =>
   ext zgq
  | brk=>exact q3
  | ret v=>exact q3
 | false =>
  rw[az ZE];exact QV (bQ σ1 H2 I2 q2)
#check _
structure It where
 go:nG Nat
 yld:bb Nat Hp V LF
 stop:nG Nat
noncomputable def FpOk (X:Cx) (pins:bp) (H:Hp) (b:Addr):Prop :=
 dE/\(ay AV Ut (b∈X.ex\/(AI b)) (yp b) (Il b))
theorem Inv.fpOk {X:Cx}{pins:bp}{Z:St}{H H':Hp}{s:Shared}{b:Addr} (I:ax) (hb:Ef b) (hn:BL):zbr:=by
 refine⟨46,hn,Q1 (ZG I.lt hb),I.nofs hb,.inr (ZK I.sz hb),bX x c e z,aI p hp z⟩
 .obtain ⟨v,q⟩:=RX;show(zq,ZG q.lt (aA z hb))
 .show(zq,ZG (Z0 (I.pin p hp).1) (aA z hb))
structure Turn (P:Program) (w:World) (K:Zd) (tg:Expr) (J:It) (fp:aw) (it:Addr) (tn:bE Nat Heap):Prop where
 mem:it∈fp
 obj:∀ i h,tn i h->∀ b∈fp,(VY sG)
 keep:∀ i h h',tn i h->(∀ b∈fp,∀ o,sG->ya)->tn i h'
 item:∀(X:Cx),X.prog=P->X.w=w->X.K=K->X.calm=true->∀(i:Nat) (pins:List (Addr × Obj)) (s:Shared) (Z:St) (H:Hp) (E:Value->Shared->Prop),Inv X pins Z H s->(∀ b∈fp,FpOk X pins H b)->tn i s.heap->J.go i H ->
  wpAny y8 X.A vo (fun r s1=>∃ u,(ae r u) /\
   wpAny y8 X.A zoG (fun _ s2=>∃ x H',(ay,cT H' s2,ou,J.yld i H x H',tn aX s2.heap,Iy)) E s1) E s
 done:∀(X:Cx),X.prog=P->X.w=w->X.K=K->X.calm=true->∀(i:Nat) (pins:List (Addr × Obj)) (s:Shared) (Z:St) (H:Hp) (E:Value->Shared->Prop),Inv X pins Z H s->(∀ b∈fp,FpOk X pins H b)->tn i s.heap->J.stop i H ->
  wpAny y8 X.A vo (fun r s1=>r=none/\(nK s1)) E s
 self:∀(A:Around) (i:Nat) (s:Shared) (Q:bA) (E:bA),tn i s.heap->(kK it s)->wpAny y8 A (pyIter (.ref it)) Q E s
noncomputable abbrev TI:=St->(bE Hp Md)
noncomputable def PIE (X:Cx) (pins:bp) (Z:St) (tg:Expr) (R:Md) (itv:Value) (s2:Shared):Prop :=
 ∃(it:Addr) (fp:aw) (tn:bE Nat Heap) (J:It) (H':Hp),(cQ itv it)/\(ay,cT H' s2,Turn X.prog X.w X.K tg J fp it tn,tn 0 s2.heap,(∀ b∈fp,zbr),R J H')
noncomputable def PI (X:Cx) (tg iter:Expr) (wi:TI):Prop :=
 ∀(pins:bp) (s:Shared) (Z:St) (H:Hp) (R:Md),ax->wi Z H R ->
  wpAny aS X.A (lD iter) (kS,s1,wpAny aS X.A (pyIter v) zaE X.xe s1) X.xe s
theorem xhi {M:Model}{A:Around}{E:bA}{s:Shared}{tg:Expr}{it:Addr}{u:Value}{o:Obj}{n:String}{vs:gL}{Q:y0} (ho:(ae,s.heap.get? it,o)) (hc:KI n) (hd:TZ o.data)
    (hn:["enumerate", "zip", "dict_itemiterator", "dict_reverseitemiterator", "odict_iterator", "itertools.zip_longest", "itertools.pairwise"].contains n=false) (hQ:Q () s):wpAny M A zoG Q E s:=by
  unfold letOwnedTupleGo;cases tg<;>first
    | exact Zo hQ
    | (cases u<;>first
        | exact Zo hQ
        | (show(cJ,wpAny_load ho ?_)
           rw[hc,hd];show wpAny M A (cu (["enumerate", "zip", "dict_itemiterator", "dict_reverseitemiterator", "odict_iterator", "itertools.zip_longest", "itertools.pairwise"].contains n&&vs[0]? == some (rawInt _)) _ _) Q E s;rw[az (by intro h; rw[hn,Qd] at h; cases h)];exact Zo hQ))
noncomputable def Itl (K:Zd) (a:Addr):It :=
 (NP,∃ xs x,qW/\tI,x,H'=H/\∀ xs,qW->tI,znA)
noncomputable def Itr (lo:Int) (n:Nat):It:=(VI,f7,x,x=.int (lo+i),n<=i)
theorem xp7 {P:Program}{w:World}{K:Zd}{tg:Expr} (a it:Addr):Turn P w K tg zx sw it (dH,h,h.IsListIter it a i) where
 mem:=ap
 obj:=fun i h st b hb=>by
  ext Vj st
 keep:=(Iz,st.at (Am,k it ap o e))
 item:=by
  intro X hP hw hK hc i pins s Z H E I hf st hg;ext i9;ext jN xs x hq hx hg;ext bF its rv p hz wa;show(ag,u,hu,ru,rv.get hx);obtain⟨f0,f1,f2,f3,f4,f5⟩:46:=ku;refine wpAny_pyNext_list_item st p.isList (x:=u) (by simpa using hu) zcv;show(Aa,nR,I.turned (t':=s.toks) (nh,hb,(sb.2 b hb).trans e) f0 f1 f3 f4 f5);show(bF,o,e,c,d,id st');show(se,u,xhi (s:=nR) e c d au ⟨85,x,H,I1,ru,(bY,fun ys hy=>(aA,I.list_inj hy hq,hx)),st',Fd⟩)
 done:=by
  intro X hP hw hK hc i pins s Z H E I hf st hg;ext i9;ext ag xs hq hx hg;ext bF its rv p hz wa;obtain⟨f0,f1,f2,f3,f4,f5⟩:46:=ku;have hl:=rv.length;exact wpAny_pyNext_list_end jM st p.isList iZ (Br,I.turned (t':=s.toks) va f0 f1 f3 f4 f5)
 self:=(zck,wpAny_pyIter_listiter st h)
theorem xn1 {P:Program}{w:World}{K:Zd}{tg:Expr} (it:Addr) (lo:Int) (n:Nat):Turn P w K tg T7 sw it (ziQ 1) where
 mem:=ap
 obj:=fun i h st b hb=>by
  ext sX;exact⟨_,st,fun v z=>by
   ext Nb⟩
 keep:=Iz RS
 item:=by
  intro X hP hw hK hc i pins s Z H E I hf st hg;ext i9;obtain⟨f0,f1,f2,f3,f4,f5⟩:46:=ku;show(zhq,1,W.item i s _ _ hg st fun v h' tk hv st' kk=>?_);show(av,I1,nK L6,I.turned zrR f0 f1 f3 f4 f5,(cN,xhi (s:=L6) (n:="range_iterator") st' rfl rfl au ⟨85,.int (lo+i),H,I1,eW t,oy,st',Fd⟩));rw[Int.mul_one]
 done:=by
  intro X hP hw hK hc i pins s Z H E I hf st hg;ext i9;obtain⟨f0,f1,f2,f3,f4,f5⟩:46:=ku;show(zia,I.turned (t':=s.toks) va f0 f1 f3 f4 f5)
 self:=zkY
section
variable {X:Cx}{tg:Expr}
noncomputable def xyw (K:Zd) (tl:TE):TI:=fun Z H R=>tl Z H fun x H1=>∃ a,lC/\(∃ xs,Ir)/\R zx H1
theorem xaj {l:Expr}{tl:TE} (hl:PE X l tl):PI X tg l (xyw X.K tl):=by
 intro pins s Z H R I h;show(jX,hl pins s Z H _ I h,fun v s1 ⟨x,H1,I1,r1,q1⟩=>?_);obtain⟨a,e,⟨xs,hq⟩,q⟩:63:=q1;ext cW;cases r1;show(bF,its,rv,p,hz,I1.list hq);refine Q8 p.isList ?_;show(M0,⟨66,H1,rfl,W1,xp7 a _,BF,iC,q⟩);show(MV,s1.heap.objs.size)
theorem xl8 {pins:bp}{Z:St}{H:Hp}{s:Shared}{R:Md}{E:bA}{lo hi:Int}{t u v:Tok}{tk:Nat} (I:ax) (h1:-iL<=lo) (h2:lo<iL) (h3:-iL<=hi) (h4:hi<iL)
    (q:R (Itr lo yR) H):wpAny aS X.A zlG zaE E (sA,Eg 1):=by
  refine wpAny_pyIter_range (IsRange.new ..) zpJ ?_;have I1:nK (sA,Eg 1):=I.kept vO;refine⟨121,zbu,[zbu],_,_,⟨66,H,rfl,
    zey vO,xn1 _ lo yR,?_,iC,q⟩⟩
  . have e1:lo+wQ*1=lo:=ap
    have e2:(gP yR)-wQ=(WO 1):=V6
    show IsRangeIter _ _ (lo+wQ*1) ((gP yR)-wQ) 1;ext cD e1 e2 gq
  . ext MV zbu
noncomputable def xx8 (ta:TA):TI:=(NG,∃ j:Int,(jx,vs,[Gn],-iL<=j,j<iL,R (Itr 0 j.toNat) H1))
noncomputable def xyz (ta:TA):TI:=(NG,∃ i j:Int,vs=(nN dY j)/\ziV/\R (Itr i (gV j i)) H1)
theorem xdt {a:Expr}{ta:TA}{p pos:Pos} (hg:zec) (hm:zdY) (ha:zeO) (hs:zat:=by rfl):PI X tg (OJ "range" [a]) (xx8 ta):=by
 intro pins s Z H R I h;show(Ww,(JF (thn (ha pos pins s Z H _ I h) fun us s1 ⟨vs,H1,I1,r1,q1⟩=>?_) hs rfl));obtain⟨j,e,q1,q2,q⟩:64:=q1;ext cW;cases r1 with
 | cons r rr =>
  cases rr;ext d6 t r;exact call_range_1 (xl8 I1 aa aa q1 q2 zbA)
theorem xj0 {a b:Expr}{ta:TA}{p pos:Pos} (hg:zec) (hm:zdY) (ha:PA X [a,b] ta) (hs:Bp [a,b] [jA EC,jA Bu]:=by rfl) (hs2:Bp [b] [jA Bu]:=by rfl) :
    PI X tg (OJ "range" [a,b]) (xyz ta):=by
  intro pins s Z H R I h;show(Ww,(JF (thn (ha pos pins s Z H _ I h) fun us s1 ⟨vs,H1,I1,r1,q1⟩=>?_) (bR hs hs2) (eS hs2)));obtain⟨i,j,e,⟨q1,q2,q3,q4⟩,q⟩:83:=q1;ext cW;cases r1 with
  | cons r rr =>
    cases rr with
    | cons r' rr =>
      ext zoU;exact call_range_2 (xl8 I1 q1 q2 q3 q4 q)
noncomputable def tFor (wi:TI) (g:TG) (tb:TS):TS:=fun D Z H=>wi Z H fun J H1=>∃ W:Nat->Nat->St->Hp->Prop,(∃ m,W 0 m Z H1)/\∀ i m Z H,Fe ->
 (J.stop i H/\zo)\/(J.go i H/\(Dz (EX,J.yld i H x H',Z,H',Du)))
noncomputable def xg1 (fp:aw) (h:Heap):bp:=fp.filterMap fun b=>(h.get? b).map fun o=>Dd
theorem xd0 {fp:aw}{h:Heap}{b:Addr}{o:Obj} (hb:b∈fp) (e:sG):Dd∈xg1 fp h:=JQ.mpr ⟨b,hb,ur⟩
theorem xqg {fp:aw}{h:Heap}{p:Addr × Obj} (hp:p∈xg1 fp h):aJ∈fp/\(ae,h.get? aJ,bO):=by
 show(ag,b,hb,e,JQ.mp hp);cases q:h.get? b with
 | none=>ext cF q e e
 | some o =>
  rw[q] at e;have e':Dd=p:=Uw;subst e';ext aO hb q
theorem Inv.pinned {pins:bp}{Z:St}{H:Hp}{s:Shared}{fp:aw} (I:ax) (hf:Nv) (ho:∀ b∈fp,(VY jH)):Inv X (pins++xg1 fp s.heap) Z H s :=
 I.pins_of fun p hp=>(Zv.mp hp).elim (aj,I.pin p (Z4 _ z)) fun z=>by
  show(mN,hb,xqg z);obtain⟨f0,f1,f2,_⟩:44:=hf aJ hb;show(ag,o,e',d,ho aJ hb);ext bG e e' e';exact cA e f0 f1 f2 d
theorem Inv.unpinned {pins pl:bp}{Z:St}{H:Hp}{s:Shared} (I:Inv X (pins++pl) Z H s):ax:=I.pins_of (dX,I.pin p (Z4 _ (ZH _ hp)))
theorem xbe {iter:Expr}{body:B2}{wi:TI}{g:TG}{tb:TS}{pos:Pos} (hp:zmx) (hc:mE) (hi:Pf) (hg:PG X tg g) (hb:PSs X body tb)
    (hs:U9:=by intro _; rfl):PS X (.For tg iter body [] pos) (tFor wi g tb):=by
  intro pins s Z H D I h;refine wpAny_For (thn (hi pins s Z H _ I h) zkn) hs;obtain⟨it,fp,tn,J,⟨H2,e,I2,T,st2,f2,W,⟨m0,w0⟩,turn⟩⟩:121:=h2;ext cW
  -- what stays true of the iterator's objects through the loop
  show(cK,stat,zqX zbr,fun hn b hb=>⟨hn b hb,(f2 b hb).2⟩,codeAny_forLoop_any (nH,n,∃ i σ' H',(aR,zcQ,tn i s'.heap,Iy,W i n σ' H')) ?_ m0 ⟨104,0,Z,H2,I2,st2,(oG,(f2 b hb).1),w0⟩);rintro n s3 (⟨i,σ3,H3,I3,st3,fr3,w3⟩:104);rcases turn i n σ3 H3 w3 with⟨stop,qn⟩|⟨go,N,hN,step⟩
  . show(EV,T.done X rfl rfl rfl hc i pins s3 σ3 H3 X.xe I3 (stat fr3) st3 stop,fun r s4 ⟨hr,I4⟩=>?_)
    subst hr;exact QV (bQ σ3 H3 I4 qn)
  . show(EV,T.item X rfl rfl rfl hc i pins s3 σ3 H3 X.xe I3 (stat fr3) st3 go,we r s4 u hr h4)
    subst hr;show(EV,h4,fun _ s5 ⟨x,H5,I5,r5,y5,st5,fr5⟩=>?_);have I5':=I5.pinned (stat fr5) (T.obj _ _ st5);show(EV,hg _ s5 σ3 H5 x u _ I5' r5 (step x H5 y5),fun _ s6 ⟨σ6,H6,I6,q6⟩=>?_);show(EV,hb _ s6 σ6 H6 _ I6 q6,aI f s7 q7);have again:∀{σ7:St}{H7:Hp},Inv X (pins++xg1 fp s5.heap) σ7 H7 s7->N σ7 H7->(TK,∃ i σ' H',(aR,GA σ' H' s7,tn i s7.heap,Iy,W i m σ' H')):=fun {σ7 H7} I7 n7=>by
      show(ag,m',hm,w7,hN σ7 H7 n7);show(d9,m',hm,⟨104,aX,σ7,H7,I7.unpinned,T.keep _ _ _ st5 (fG,b,hb,o,(I7.pin Dd N3).1),iC,w7⟩);show(ag,o,e,d,T.obj _ _ st5 b hb);exact bc (I7.pin Dd N3)
    cases f with
    | next=>ext zlw
    | cont=>ext zlw
    | brk=>show(jN,σ7,H7,I7,q7,q7); exact bQ σ7 H7 I7.unpinned q7
    | ret v=>obtain⟨x7,σ7,H7,I7,r7,q7⟩:103:=q7; exact⟨103,x7,σ7,H7,I7.unpinned,r7,q7⟩
#check _
theorem xbp {K:Zd}{a:Addr}{xs:af}{g:TG}{tb:TS}{D:Ends}{Z:St}{H:Hp} (Pv:FL) (h0:Ls) (hl:zkp)
    (hs:∀ i x Z H,tI->tP->g x Z H GH) (hd:HD xs.length) :
    ∃ W:Nat->Nat->St->Hp->Prop,(∃ m,W 0 m Z H)/\∀ i m Z H,Fe ->
      ((zx).stop i H/\zo)\/((zx).go i H/\(Dz (EX,(zx).yld i H x H',Z,H',Du))):=by
  ext zgV;rintro i m Z H (⟨rfl,hi,p⟩:43);ext NL Ss
  . ext zle
    ext tS y y;ext cW;exact hs i x Z _ (y xs q) p
  . ext ziP
theorem xc5 {lo:Int}{n:Nat}{g:TG}{tb:TS}{D:Ends}{Z:St}{H:Hp} (Pv:FL) (h0:Ls)
    (hs:∀ i Z H,f7->tP->g (.int (lo+i)) Z H GH) (hd:HD n) :
    ∃ W:Nat->Nat->St->Hp->Prop,(∃ m,W 0 m Z H)/\∀ i m Z H,Fe ->
      ((T7).stop i H/\zo)\/((T7).go i H/\(Dz (EX,(T7).yld i H x H',Z,H',Du))):=by
  show(fX,fun i m Z H=>(bM,m,n-i,i<=n,tP),S3 n);rintro i m Z H (⟨rfl,hi,p⟩:43);by_cases hlt:f7
  . ext U0 hlt n
    ext tS y y;subst e y;exact hs i Z _ hlt p
  . ext tW i n aa;show(C1,bv,hd Z H p)
noncomputable abbrev R2:=Ky
noncomputable def OpR (X:Cx) (f:Hs) (r:R2):Prop :=
 ∀(pins:List (Addr × Obj)) (s:Shared) (Z:St) (H:Hp) (x y:V) (v u:Value) (Q:VK),Inv X pins Z H s->RelV x v->RelV y u->r x y H Q ->
  wpAny aS X.A (f v u) mz X.xe s
noncomputable def UnR (X:Cx) (f:Value->TC) (r:V->tt):Prop :=
 ∀(pins:bp) (s:Shared) (Z:St) (H:Hp) (x:V) (v:Value) (Q:VK),ax->tO->r x H Q ->
  wpAny aS X.A (f v) mz X.xe s
noncomputable def xcq (X:Cx) (f:Value) (r:af->tt):Prop :=
 ∀(pins:bp) (s:Shared) (Z:St) (H:Hp) (xs:af) (us:aY) (Q:VK),ax->lI->r xs H Q ->
  wpAny aS X.A (call f us) mz X.xe s
noncomputable def TruR (X:Cx) (r:V->(bE Hp wb)):Prop :=
 ∀(pins:bp) (s:Shared) (Z:St) (H:Hp) (x:V) (v:Value) (Q:wb),ax->tO->r x H Q ->
  wpAny aS X.A (truthy v) Rw X.xe s
noncomputable def tOp (r:R2) (ta tb:TE):TE:=xU (zcl,r x y H2 Q)
noncomputable def tUn (r:V->tt) (ta:TE):TE:=(xU,r x H1 Q)
@[reducible] def rI (C:RM) (g:LK V) (x:V) (y:V) (H:Hp) (Q:VK):Prop:=iV x y (dH,j,C i j/\Q xB H)
@[reducible] def rI0 (g:LK V) (x:V) (y:V) (H:Hp) (Q:VK):Prop:=iV x y (dH,j,Q xB H)
noncomputable def rU (g:Int->V):V->tt:=fun x H Q=>∃ i,Ku/\Q (g i) H
section
variable {X:Cx}{a b c:Expr}{ta tb tc:TE}{pos:Pos}
theorem binT (ha:oa) (hb:vY) {pins:bp}{s:Shared}{Z:St}{H:Hp}{R:V->wV} (I:ax)
    (h:zkT) {Q:bA}{f:Hs}
    (hf:(ziD,wpAny aS X.A (f v u) Q X.xe s2)) :
    wpAny aS X.A EC (kS,s₁,wpAny aS X.A Bu (fun u s₂=>wpAny aS X.A (f v u) Q X.xe s₂) X.xe s₁) X.xe s:=by
  show(jX,ha pins s Z H _ I h,fun v s1 ⟨x,H1,I1,r1,q1⟩=>?_);show(jX,hb pins s1 Z H1 _ I1 q1,fun u s2 ⟨y,H2,I2,r2,q2⟩=>?_);exact hf v u s2 x y H2 I2 r1 r2 q2
theorem xv {op:Operator}{r:R2} (ho:OpR X (binaryOp op) r) (ha:oa) (hb:vY):PE X (.BinOp a op b pos) Sb:=by
 intro pins s Z H Q I h;exact wpAny_BinOp (binT ha hb I h fun v u s2 x y H2 I2 rx ry q=>ho pins s2 Z H2 x y v u Q I2 rx ry q)
theorem xsi {op:UnaryOp}{r:V->tt} (ho:UnR X (unaryOp op) r) (ha:oa):PE X (.UnaryOp op a pos) (tUn r ta):=by
 intro pins s Z H Q I h;exact UnaryOp_ (thn (ha pins s Z H _ I h) fun v s1 ⟨x,H1,I1,r1,q1⟩=>ho pins s1 Z H1 x v Q I1 r1 q1)
theorem opI {f:Hs}{C:RM}{g:LK Int}
    (rule:(Vf,C i j->Q (.int xB s.toks) o7->wpAny aS X.A zbI Q E s)) :
    OpR X f (rI C (LN xB)):=by
  intro pins s Z H x y v u Q I rx ry h;obtain⟨i,j,rfl,rfl,hc,q⟩:84:=xoa h;ext LT;exact rule i j t t' s _ _ hc (AR xB)
theorem opI0 {f:Hs}{g:LK Int}
    (rule:(Vf,Q (.int xB s.toks) o7->wpAny aS X.A zbI Q E s)) :
    OpR X f (rI0 (LN xB)):=by
  intro pins s Z H x y v u Q I rx ry h;obtain⟨i,j,rfl,rfl,q⟩:83:=xoa h;ext LT;exact rule i j t t' s _ _ (AR xB)
theorem opB0 {f:Hs}{g:LK Bool}
    (rule:(Vf,Q (.bool xB) s->wpAny aS X.A zbI Q E s)) :
    OpR X f (rI0 (dH,j,.bl (g i j))):=by
  intro pins s Z H x y v u Q I rx ry h;obtain⟨i,j,rfl,rfl,q⟩:83:=xoa h;ext LT;exact rule i j t t' s _ _ (Fm,.bl (g i j),I)
noncomputable def CDiv (i j:Int):Prop:=0<j/\j<1073741824
noncomputable def CMul (i j:Int):Prop:=(-qr<i/\i<qr)\/(-qr<j/\j<qr)
theorem CMul.ok {i j:Int} (h:CMul i j):IntMulOk i j:=by
 rcases h with⟨h1,h2⟩|⟨h1,h2⟩
 .exact .of_left (intBits_le_64 h1 h2)
 .exact .of_right (intBits_le_64 h1 h2)
theorem xnp (k:Nat):m7<=2 ^ k:=by
 rw[two_pow_cast];exact Int.natCast_nonneg _
theorem xba:Xw .Add (i+j):=opI0 fun _ _ _ _ _ _ _ q=>add_int q
theorem xd7:Xw .Sub (i-j):=opI0 fun _ _ _ _ _ _ _ q=>sub_int q
theorem xdz:Oc .Mult CMul (i*j):=opI fun _ _ _ _ _ _ _ hc q=>mul_int q hc.ok
theorem xbj:Oc .FloorDiv CDiv (i / j):=opI fun i j _ _ _ _ _ hc q=>by
 have h1:m7<j:=hc.1;have h2:j<1073741824:=hc.2;exact floordiv_int aa (aA,Int.fdiv_eq_ediv_of_nonneg i aa,q) (.inl (QT aa))
theorem xa3:Oc .Mod (fun _ j=>0<j) (i % j):=opI fun i j _ _ _ _ _ hc q=>by
 have h1:m7<j:=hc;exact mod_int' aa (aA,Int.fmod_eq_emod_of_nonneg i aa,q)
theorem xwz:Oc .RShift (fun _ j=>0<=j) (i / 2 ^ j.toNat):=opI fun i j _ _ _ _ _ hc q =>
 rshift_int hc (aA,Int.fdiv_eq_ediv_of_nonneg i (xnp _),q)
theorem xvi:Xw .BitAnd (Builtin.bitAnd i j):=opI0 fun _ _ _ _ _ _ _ q=>and_int q
theorem xuj:OpR X (inplaceOp .Add) (rI0 (LN (i+j))):=opI0 fun _ _ _ _ _ _ _ q=>iadd_int q
theorem unI {f:Value->TC}{g:Int->Int}
    (rule:∀(i:Int) (t:Tok) (s:Shared) (Q:bA) (E:bA),Q (.int (g i) s.toks) o7->wpAny aS X.A (f (.int i t)) Q E s) :
    UnR X f (rU (oX,.int (g i))):=by
  intro pins s Z H x v Q I rx h;show(ag,i,rfl,q,h);show(C7,rule i t s _ _ (aZ,.int (g i),H,iI,eR,q))
theorem xop:UnR X (unaryOp .USub) (rU (oX,.int (-i))):=unI fun _ _ _ _ _ q=>neg_int q
#check _
noncomputable def scal:V->V->Bool
 | .non,.non=>true|.non,qx=>true|qx,.non=>true|.non,lU=>true|lU,.non=>true|.non,lO=>true|lO,.non=>true
 | qx,qx=>true|lU,lU=>true|lO,lO=>true|.byt _,.byt _=>true
 | qx,lO=>true|lO,qx=>true|lU,lO=>true|lO,lU=>true
 | _,_=>false
noncomputable def rEq:R2:=(Lj,scal x y=true/\Q (T0 (x=y)) H)
noncomputable def rNe:R2:=(Lj,scal x y=true/\(rF (!(dU x y))))
theorem xmp {i j:Int}:decide (V.int i=V.int j)=(i == j):=by
 rw[Jk];simp
theorem xph {i j:Bool}:decide (V.bl i=V.bl j)=(i == j):=by
 rw[Jk];simp
theorem xmh {i j:Str}:decide (V.str i=V.str j)=(i == j):=by
 rw[Jk];simp
theorem xnc {i j:Array UInt8}:decide (V.byt i=V.byt j)=(i.toList == j.toList):=by
 rw[Jk];cases i;cases j;simp
section
variable {X:Cx}{a b c:Expr}{ta tb tc:TE}{pos:Pos}
theorem xa5 {pins:bp}{Z:St}{H:Hp}{s:Shared}{Q:VK}{k k':Bool} (I:ax) (q:rF k) (e:k=k'):EP X pins Z Q (.bool k') s:=by
 ext cW;exact(Fm,.bl k,I)
theorem xb0:qQ .Eq rEq:=by
 intro pins s Z H x y v u Q I rx ry h;ext hX hs h;cases x with
 | non =>
  ext fc;cases y with
  | non=>ext gE; exact PySem.EqNone.eq_none_none (dA ap)
  | bl j=>ext gE; exact PySem.EqNone.eq_none_bool (dA ap)
  | int j=>ext iE; exact PySem.EqNone.eq_none_int (dA ap)
  | str j=>ext iE; exact PySem.EqNone.eq_none_str (dA ap)
  | _=>ext uG
 | bl i =>
  ext fc;cases y with
  | non=>ext gE; exact PySem.EqNone.eq_bool_none (dA ap)
  | bl j=>ext gE; exact eq_bool (dA xph)
  | str j=>ext iE; exact PySem.EqMixed.eq_bool_str (dA ap)
  | _=>ext uG
 | int i =>
  ext lE;cases y with
  | non=>ext gE; exact PySem.EqNone.eq_int_none (dA ap)
  | int j=>ext iE; exact eq_int (dA xmp)
  | str j=>ext iE; exact PySem.EqMixed.eq_int_str (dA ap)
  | _=>ext uG
 | str i =>
  ext lE;cases y with
  | non=>ext gE; exact PySem.EqNone.eq_str_none (dA ap)
  | bl j=>ext gE; exact PySem.EqMixed.eq_str_bool (dA ap)
  | int j=>ext iE; exact PySem.EqMixed.eq_str_int (dA ap)
  | str j=>ext iE; exact eq_str (dA xmh)
  | _=>ext uG
 | byt i =>
  ext lE;cases y with
  | byt j=>ext iE; exact PySem.W.eq_bytes (dA xnc)
  | _=>ext uG
 | _=>cases y<;>exact absurd (vP false hs) ZE
theorem xsl:qQ .NotEq rNe:=by
 intro pins s Z H x y v u Q I rx ry h;ext hX hs h;cases x with
 | non =>
  ext fc;cases y with
  | non=>ext gE; exact PySem.EqNone.ne_none_none (dA ap)
  | bl j=>ext gE; exact PySem.EqNone.ne_none_bool (dA ap)
  | int j=>ext iE; exact PySem.EqNone.ne_none_int (dA ap)
  | str j=>ext iE; exact PySem.EqNone.ne_none_str (dA ap)
  | _=>ext uG
 | bl i =>
  ext fc;cases y with
  | non=>ext gE; exact PySem.EqNone.ne_bool_none (dA ap)
  | bl j=>ext gE; exact ne_bool (dA (xH not xph))
  | str j=>ext iE; exact PySem.EqMixed.ne_bool_str (dA ap)
  | _=>ext uG
 | int i =>
  ext lE;cases y with
  | non=>ext gE; exact PySem.EqNone.ne_int_none (dA ap)
  | int j=>ext iE; exact ne_int (dA (xH not xmp))
  | str j=>ext iE; exact PySem.EqMixed.ne_int_str (dA ap)
  | _=>ext uG
 | str i =>
  ext lE;cases y with
  | non=>ext gE; exact PySem.EqNone.ne_str_none (dA ap)
  | bl j=>ext gE; exact PySem.EqMixed.ne_str_bool (dA ap)
  | int j=>ext iE; exact PySem.EqMixed.ne_str_int (dA ap)
  | str j=>ext iE; exact ne_str (dA (xH not xmh))
  | _=>ext uG
 | byt i =>
  ext lE;cases y with
  | byt j=>ext iE; exact PySem.W.ne_bytes (dA (xH not xnc))
  | _=>ext uG
 | _=>cases y<;>exact absurd (vP false hs) ZE
theorem xf8:Nk .Lt (i<j):=opB0 fun _ _ _ _ _ _ _ q=>lt_int q
theorem xg2:Nk .LtE (i<=j):=opB0 fun _ _ _ _ _ _ _ q=>le_int q
theorem xyu:Nk .Gt (j<i):=opB0 fun _ _ _ _ _ _ _ q=>gt_int q
theorem xxw:Nk .GtE (j<=i):=opB0 fun _ _ _ _ _ _ _ q=>ge_int q
theorem xl1:qQ .Is (Lj,y=.non/\Q (T0 (x=.non)) H):=by
 intro pins s Z H x y v u Q I rx ry h;show(hX,rfl,h);ext gE;refine is_none_gen (dA ?_);cases x<;>first
  | (ext jG rx)
  | (ext lE; rfl)
theorem xf0:qQ .IsNot (Lj,y=.non/\(rF (!(dU x .non)))):=by
 intro pins s Z H x y v u Q I rx ry h;show(hX,rfl,h);ext gE;refine isnot_none_gen (dA ?_);cases x<;>first
  | (ext jG rx)
  | (ext lE; rfl)
noncomputable def isObj:HO->Bool
 | .lst _=>true
 | .ins _ _ _=>true
 | _=>false
theorem xag (b:Expr) {op:CmpOp} (h:op≠.In:=by decide) (h2:op≠.NotIn:=by decide):Dy:=by
 show(uL,e1,op,CmpOp.In,by cases op<;>first|rfl|ext iP h)
 show(uL,e2,op,CmpOp.NotIn,by cases op<;>first|rfl|ext iP h2)
 ext znU
theorem xdb {op:CmpOp}{r:R2} (ho:S7) (ha:oa) (hb:vY) (hm:Dy):PE X NW Sb:=by
 intro pins s Z H Q I h;exact wpAny_Compare1 (binT ha hb I h fun v u s2 x y H2 I2 rx ry q=>ho pins s2 Z H2 x y v u Q I2 rx ry q) hm
inductive xtf (x:V) (H':Hp) (Q:wb):Prop
 | mk (k) (e_:x=.bl k) (r_:Q k H')
noncomputable def xss (t:TE):TT:=(kC,t Z H fun x H'=>xtf x H' Q)
theorem xac {op:CmpOp}{r:R2} (ho:S7) (ha:oa) (hb:vY) (hm:Dy):PT X NW (xss Sb):=by
 intro pins s Z H Q I h;refine wpAny_isTrue_Compare1 (thn (ha pins s Z H _ I h) fun v s1 ⟨x,H1,I1,r1,q1⟩=>thn (hb pins s1 Z H1 _ I1 q1) fun u s2 ⟨y,H2,I2,r2,q2⟩ =>
  thn (ho pins s2 Z H2 x y v u _ I2 r1 r2 q2) fun c s3 ⟨z,H3,I3,r3,k,e,q3⟩=>?_) hm
 ext cW;cases r3;exact JI ⟨H3,I3,q3⟩
noncomputable def xpd (r r':R2) (ta tb tc:TE):TE:=fun Z H Q=>ta Z H fun x H1=>tb Z H1 fun y H2=>r x y H2 fun z H3=>∃ k,z=.bl k /\
 (cu,k,tc Z H3 fun w' H4=>r' y w' H4 Q,Q (.bl false) H3)
theorem xh1 {op op':CmpOp}{r r':R2} (ho:S7) (ho':qQ op' r') (ha:oa) (hb:vY) (hc:PE X c tc)
    (hm:zkN:=by with_unfolding_all rfl):PE X zlT (xpd r r' ta tb tc):=by
  intro pins s Z H Q I h;refine Compare_chain (thn (ha pins s Z H _ I h) fun v s1 ⟨x,H1,I1,r1,q1⟩=>chain_link (thn (hb pins s1 Z H1 _ I1 q1) fun u s2 ⟨y,H2,I2,r2,q2⟩ =>
    thn (ho pins s2 Z H2 x y v u _ I2 r1 r2 q2) fun d s3 ⟨z,H3,I3,r3,k,e,q3⟩=>?_)) hm
  ext cW;cases r3;refine JI ?_;cases k with
  | false=>exact ite_ff (kL,.bl false,H3,I3,q3)
  | true=>exact ite_tt (chain_last (thn (hc pins s3 Z H3 _ I3 q3) fun w' s4 ⟨z',H4,I4,r4,q4⟩=>ho' pins s4 Z H4 y z' u w' Q I4 r2 r4 q4))
theorem xr3 {op op':CmpOp}{r r':R2} (ho:S7) (ho':qQ op' r') (ha:oa) (hb:vY) (hc:PE X c tc)
    (hm:zkN:=by with_unfolding_all rfl):PT X zlT (xss (xpd r r' ta tb tc)):=by
  intro pins s Z H Q I h;refine isTrue_chain (thn (ha pins s Z H _ I h) fun v s1 ⟨x,H1,I1,r1,q1⟩=>test_link (thn (hb pins s1 Z H1 _ I1 q1) fun u s2 ⟨y,H2,I2,r2,q2⟩ =>
    thn (ho pins s2 Z H2 x y v u _ I2 r1 r2 q2) fun d s3 ⟨z,H3,I3,r3,k,e,q3⟩=>?_)) hm
  ext cW;cases r3;refine JI ?_;cases k with
  | false =>
    obtain⟨k',e',q'⟩:=q3;cases e';exact ite_ff ⟨H3,I3,q'⟩
  | true =>
    refine ite_tt (test_last (thn (hc pins s3 Z H3 _ I3 q3) fun w' s4 ⟨z',H4,I4,r4,q4⟩=>thn (ho' pins s4 Z H4 y z' u w' _ I4 r2 r4 q4) fun d' s5 ⟨z2,H5,I5,r5,k2,e2,q5⟩=>?_));subst e2;cases r5;exact JI ⟨H5,I5,q5⟩
noncomputable def TruV (K:Zd) (x:V) (H:Hp) (k:Bool):Prop :=
 match x with
 | .non=>k=false
 | uK=>k=b
 | dY=>k=(i != 0)
 | .str y=>zji
 | .byt y=>zjT
 | wS=>(XG RU)\/(zjU zdV)
 | _=>False
theorem xns {κ:Type}{kvs:eP}{vs:vC} (r:ki):(! vs.isEmpty)=! kvs.isEmpty:=by
 cases r<;>rfl
theorem xiu {xs:af}{its:aY} (r:yL):(! its.toArray.isEmpty)=! xs.isEmpty:=by
 cases r<;>simp
theorem xf3:(sizeLine:Nat)<Gk:=vQ QZ
theorem xvo:TruR X (fun x H Q=>∃ k,TruV X.K x H k/\Q k H):=by
 intro pins s Z H x v Q I rx h;ext ag k e q h;have hl:=xf3;have hs:sizeLine=16777216:=QZ;cases x with
 | non =>
  ext fc;ext nD e' k e;subst e';exact truthy_none ⟨H,I,q⟩
 | bl b =>
  ext fc;have e':k=b:=e;subst e';exact JI ⟨H,I,q⟩
 | int i =>
  ext lE;have e':k=(i != 0):=e;subst e';exact PySem.P.truthy_int ⟨H,I,q⟩
 | str y =>
  ext lE;obtain⟨hy,e'⟩:zji:=e;subst e';exact PySem.P.truthy_str aa ⟨H,iI,q⟩
 | byt y =>
  ext lE;obtain⟨hy,e'⟩:zjT:=e;subst e';exact PySem.W.truthy_bytes aa ⟨H,iI,q⟩
 | ref p =>
  ext fc;have e':(XG,SqL X.K H p xs)\/(zjU,SqT X.K H p xs):=e;rcases e' with⟨xs,hx,e'⟩|⟨xs,hx,e'⟩|⟨kvs,hx,e'⟩
  .show(zpp,I.list hx);exact wpAny_truthy_list pl.isList zpu zoV
  .show(zpp,I.tuple hx);exact truthy_tuple pl zpu zoV
  .subst e';obtain⟨hz,hS,vs,r,m⟩:D8/\(Bs p)/\∃ vs,ki/\s.heap.DictOf pG p vs:=I.hok p _ hx;have hlen:kvs.length=vs.length:=YD r;exact wpAny_truthy_dict hS m aa ⟨H,iI,(aA,xns r,q)⟩
 | _=>exact (show False from e).elim
theorem xlf (ha:oa) (he:(zhF,isTrue a X.env whole,a.pos)) :
    PT X a (kC,ta Z H fun x H'=>∃ k,TruV X.K x H' k/\Q k H'):=by
  intro pins s Z H Q I h;exact isTrue_plain (thn (ha pins s Z H _ I h) fun v s1 ⟨x,H1,I1,r1,q1⟩=>xvo pins s1 Z H1 x v Q I1 r1 q1) (he _)
theorem xc3 {x:V}{us:aY} (r:xK [x]):∃ u,us=[u]/\ou:=by
 cases r with
 | cons r1 r2=>cases r2; exact cN r1
theorem xn8 {x y:V}{us:aY} (r:xK [x,y]):∃ u w',(bM,us,[u,w'],ou,RelV y w'):=by
 cases r with
 | cons r1 r2 =>
  cases r2 with
  | cons r3 r4=>cases r4; exact fP _ r1 r3
theorem xhv:Bo "abs" (fun xs H Q=>∃ i,xs=[dY]/\(mP zpV)):=by
 intro pins s Z H xs us Q I r h;show(ag,i,rfl,q,h);ext zmb;exact call_abs_int fun u tk=>AR zpV
theorem xqn:(PF,.type "int",(∃ i,xs=[dY]/\(mP i))\/∃ k,xs=[.bl k]/\(mP (Bk k))):=by
 intro pins s Z H xs us Q I r h;rcases h with⟨i,rfl,q⟩|⟨k,rfl,q⟩
 .obtain ⟨u,rfl,⟨t,rfl⟩⟩:62:=xc3 r;exact call_int_int (aZ dY H I eR q)
 .show(fj,u,rfl,r1,xc3 r);cases r1;exact call_int_bool (AR (Bk k))
#check _
structure ObjM (h:Heap) (x dx C:Addr) (mA:fH):Prop where
 obj:(ae,h.get? x,Yn C dx)
 ns:Sj
 ne:dx≠x
theorem xpy {h:Heap}{dx:Addr}{mA:fH} (n:Sj):ziR (TY dx od):=by
 obtain⟨o,es,ep,ho,hd,hk,_,hm⟩:105:=n;show(d9,o,ho,cH name);have e:=hm name;unfold nsFind findBy at e;rw[<- Array.find?_toList] at e;unfold Wc;rw[hd]
 dsimp only
 split
 .rename_i y q
  rw[q] at e;ext F7 some e
 .rename_i q
  rw[q] at e;have a:es.toList.any (·.refKey)=false:=by
   rw[List.any_eq_false];intro y hy;show(Gy,z,t,hkey,hk y (Array.mem_toList_iff.mp hy));simp[DictEntry.refKey,hkey]
  have a':¬ es.toList.any (·.refKey)=true:=aA a ZE
  show(oO,a',congrArg some e)
theorem ObjM.look {h:Heap}{x dx C:Addr}{mA:fH} (I:ObjM h x dx C mA):(ziR,PySem.W.InstAt h x (Yn C dx) C (some od)) :=
 let ⟨od,ho,hl⟩:=xpy I.ns
 ⟨od,mW I.obj rfl ho,hl⟩
section
variable {prog:Program}{w:World}{A:Around}{E:Value->Shared->Prop}{s:Shared}{K:Zd}{x dx C f:Addr}{mA:Str->Option Value}{name:Str}{v:Value}
theorem xt1 {expr:Bool}{Q:bA} (X:yM) (I:Xv) (hg:JC K C name=true) (hh:wj C)
    (ha:lM C name) (hv:(ae,mA name,v)) (hv':PySem.W.handedIn v=true) (h:Q v o7) :
    wpAny bz A (getAttr rO name expr) Q E s:=by
  ext zcc
  exact PySem.W.get_value X J (Wl hg).1 (PySem.W.findObj_own hh ha rfl (bR hl hv)) hv' h
theorem xr2 {pl:Uq}{Q:(eQ,Value × aY)} (X:yM) (I:Xv) (hg:JC K C name=true)
    (hf:yo C name (aB f)) (ht:bJ f) (hv:mA name=none) (h:Q (.ref f,[.ref x]) s) :
    wpAny bz A (getMethod rO name pl) Q E s:=by
  ext zcc
  exact PySem.W.method_fn X J (Wl hg).1 (Wl hg).2 hf (beq_iff_eq.mp ht) (by show (Wc name od).map (·.isSome)=some false; rw[hl,hv]; rfl) h
theorem xup {ns:am}{Q:y0} (X:yM) (I:Xv)
    (hs:zio) (hp:zg C) (ht:zob name) (hh:wj C)
    (hw:QR mA ns) (hsz:cZ ns.length)
    (h:∀ h',ObjM h' x dx C (j3 (kf,y,name,ut,mA y))->Jt dx s.heap h'->Q () (AF,s.toks+2)) :
    wpAny bz A (setAttr rO name v) Q E s:=by
  ext zcc
  refine PySem.W.set_plain X J hs (PySem.W.osa_open (s:=o7) (r:=none) X J hp ht (cH b));show(ag,cd,hc,hd',PySem.W.any_some hh);show(cK,hx,(ae,s.heap.get? x,⟨Gv,some dx,.plain,#[]⟩),I.obj,Zg (Zo (Zg (Zg (wpAny_loadPart hx (Zg (PySem.W.Looks.here (s:=o7) (PySem.W.looks_clsIn X hc) ?_)))))));rw[hd'];refine Zo (a:=some dx) (Zg (Zo (Zg ?_)));refine wpAny_nsSet1 (s:=o7) I.ns (aI h' hn2 hs2);obtain⟨oD,esD,epD,hoD,hdD,hcD⟩:103:=hn2.count (QR.cons name v hw);show(cJ,wpAny_lookBehind hoD (by rw[hdD]; exact pastItsLine_dict (ZK hcD (lq Z6))) ?_);exact Zo (h _ ⟨(hs2.2 _ (Z2 I.ne)).trans I.obj,hn2,I.ne⟩ hs2)
theorem xrz {R:zfj}{vs:aY}{kw:Be} (X:yM) (hm:zf C)
    (hi:zos) (hf:PySem.W.typeIn K (.ref f)=some (.type "function"))
    (h:codeAny bz (Nj ⟨Gv::vs,kw⟩) (.call (.ref f) ⟨.ref jK::vs,kw⟩) (PySem.W.InitBack jK R)
      { s with heap:=(Bb).push (Yn C s.heap.objs.size) }) :
    codeAny bz A (.call (.ref C) ⟨vs,kw⟩) R s:=by
  obtain⟨hh,g,d,t,os⟩:=s;exact PySem.W.make_core (PySem.W.makes_of X hm) (PySem.W.looks_findIn X hi) (fun self=>PySem.W.bind_fn X self hf) fO h
#check _
noncomputable def putF (f:Str) (v:V):i7->i7
 | []=>[(f,v)]
 | (g,x)::r=>(kf,g,f,(g,v)::r,(g,x)::putF f v r)
theorem xht (f g:Str) (v:V):∀ fs:i7,(Sn).lookup g=(kf,g,f,ut,fs.lookup g)
 | []=>by
  show Jf g [(f,v)]=_;by_cases h:g=f
  .show(Vh,f,aN h)
  .ext uL hb g f WI;simp only[Jf,hb,az h]
 | (k,x)::r=>by
  have ih:=xht f g v r;rw[UQ];by_cases hk:k=f
  .rw [aN hk];by_cases h:g=k
   .show(Vh,k,if_pos (h.trans hk))
   .ext uL hb g k WI;simp only[Jf,hb,az (fun e:g=f=>h (e.trans hk.symm))]
  .ext d4 hk;by_cases h:g=k
   .show(Vh,k,az (fun e:g=f=>hk (h.symm.trans e)))
   .ext uL hb g k WI;simp only[Jf,hb];exact ih
theorem xgy (f:Str) (v:V):∀ fs:i7,f∈(Sn).map (·.1)/\∀ g,g∈fs.map (·.1)->g∈(Sn).map (·.1)
 | []=>⟨b6 putF,fun g h=>yB⟩
 | (k,x)::r=>by
  obtain⟨i1,i2⟩:=xgy f v r;rw[UQ];by_cases hk:k=f
  .rw [aN hk];subst hk;show(aO,ap,fun g h=>yh)
  .ext d4 hk;show(h9,?_,g,h)
   .show(cq,Zp,Zi _ i1)
   .rw [Zp] at h ⊢;rcases Zq.mp h with e|e
    .exact Zq.mpr (.inl e)
    .exact Zi _ (i2 g e)
theorem xhr (f:Str) (v:V):∀ fs:i7,(C0,Sn,fs.length+1)
 | []=>b6 putF
 | (k,x)::r=>by
  have ih:=xhr f v r;rw[UQ];by_cases hk:k=f
  .rw [aN hk,Z6,Z6]; omega
  .rw [az hk,Z6,Z6]; omega
theorem RelO.some_of {v:V}{o:E6} (r:RelO (some v) o):∃ u,(ae o u)/\mK:=by
 cases o with
 | none=>ext D1
 | some u=>ext se u r
theorem RelO.none_of {o:E6} (r:RelO none o):o=none:=by
 cases o with
 | none=>rfl
 | some u=>ext D1
theorem xpn {v:V}{u:Value} (r:mK):PySem.W.handedIn u=true:=by
 cases v with
 | non=>show(jG,fR u JG r)
 | bl b=>show(jG,(LO,u=Ye b))
 | int i=>ext TN Ac
 | str x=>show(TN,QF x t)
 | byt b=>show(TN,Value.bytes b t)
 | flt b=>show(TN,Value.float b t)
 | ref a=>show(jG,(LO,u=Zs a))
 | ty n=>show(jG,(LO,u=Value.type n))
section
variable {P:Program}{w:World}{H H':Hp}{h h':Heap}{a C dx:Addr}{fs fs':List (Str × V)}
theorem xg4 (hok:mD) (e:La):∃ mA,ObjM h a dx C mA/\GO/\QR mA (fs.map (·.1))/\Pn/\(Bi dx a):=by
 obtain⟨d,z,ne,ob,⟨mA,n,r,q⟩⟩:45:=(show xbc P w H h a B6 from hok a _ e)
 exact⟨65,mA,⟨ob,n,ne⟩,r,q,z,d⟩
#check _
structure Cls (K:Zd) (C:Addr):Prop where
 pg:BC C
 hd:wj C
 po:zg C
 sa:zio
theorem Cls.get {K:Zd}{C:Addr} (c:L5) (f:Str):JC K C f=true:=c.pg
noncomputable def xe5 (K:Zd) (C:Addr) (f:Str):Prop:=lM C f
theorem xe5.taker {K:Zd}{C:Addr}{f:Str} (n:xe5 K C f):zob f:=by
 unfold PySem.W.takerIn;rw[show lM C f from n];rfl
structure Meth (K:Zd) (C:Addr) (m:Str) (f:Addr):Prop where
 at_:yo C m (aB f)
 fn:bJ f
 kp:mr f
section
variable {X:Cx}{pins:List (Addr × Obj)}{Z:St}{H:Hp}{s:Shared}{a C dx:Addr}{fs:List (Str × V)}{f:Str}{v:V}{A:Around}{E:Value->Shared->Prop}
theorem xnl {b:Bool}{Q:bA} (I:ax) (e:La) (c:KP) (n:xe5 X.K C f) (l:zqP)
    (h:∀ u s',Cw->mK->Q u s'):wpAny aS A (getAttr bq f b) Q E s:=by
  ext zlL;show(ag,u,hu,ru,RelO.some_of (v:=v) (o:=mA f) (by rw[<- l]; exact r f));exact xt1 I.kIn O (c.get f) c.hd n hu (xpn ru) (h u _ iI ru)
theorem xiv {m:Str}{g:Addr}{pl:Uq}{Q:(eQ,Value × aY)} (I:ax) (e:La) (c:KP) (k:Meth X.K C m g) (l:fs.lookup m=none)
    (h:Q (.ref g,j0) s):wpAny aS A (getMethod bq m pl) Q E s:=by
  ext zlL;have hn:mA m=none:=RelO.none_of (by rw[<- l]; exact r m);exact xr2 I.kIn O (c.get m) k.at_ k.fn hn h
theorem xnz {y:V}{u:Value}{Q:y0} (I:ax) (e:La) (c:KP) (n:xe5 X.K C f) (hl:fs.length<1000) (ry:gg)
    (h:Re (cT (eO a (lW C zeF)) s')):wpAny aS A (setAttr bq f u) Q E s:=by
  obtain⟨mA,O,r,wi,_,ho⟩:65:=xg4 I.hok e;have hz:(fs.map (·.1)).length<=sizeLine:=LI Za QZ
  refine xup I.kIn O c.sa c.po n.taker c.hd wi hz fun h' O' sb=>h _ ?_;show(cK,hd,∃ o,(ae,h'.get? dx,o),let ⟨o,_,_,e',_⟩:=O'.ns; ⟨o,e'⟩,I.write (x:=a) (e:=dx) zb (.inr ho) (fun b q hb z=>(sb.2 b hb).trans z) hd ?_);refine(cA,cS O.ne ho,?_,O.ne,O'.obj,(bL,_,O'.ns,cH g,aq g hg))
  . show(cy,xhr f y fs)
  . show RelO ((zeF).lookup g) zqM
    rw[xht];by_cases q:g=f
    . show(cD,aN q,aN q,ry)
    . rw[az q,az q]; exact r g
  . by_cases q:g=f
    . show(aD,q,(xgy f y fs).1)
    . refine (xgy f y fs).2 g (wi g (aj,hg ?_))
      show zqM=none;ext oO q z
theorem Inv.made (I:ax):Inv X pins Z (upd (upd H s.heap.objs.size (.own jK)) jK znc)
    { s with heap:=(Bb).push (Yn C s.heap.objs.size) }:=by
  have e1:(ae,(Bb).get? s.heap.objs.size,JK):=Zx s.heap rfl;have e2:(ae,((Bb).push (Yn C s.heap.objs.size)).get? jK,zqr):=by
    have:=Zx Bb (o:=zqr) rfl
    rwa [YK] at this
  show(cG,e3,(Bb).Ns s.heap.objs.size fe,⟨104,JK,#[],_,e1,rfl,(fun e he=>absurd he ap),pV⟩,I1,I.laid (a:=s.heap.objs.size) (o:=.own jK) (h':=Bb) (t':=s.toks) (xF u Gw) bv (eE e1));refine I1.laid (a:=jK) (o:=znc) (t':=s.toks) (xF u Gw) (Nat.le_of_eq (YK _ _)) ?_;show(av,ne,s.heap.objs.size≠jK,ZS (QJ _),cA (bR,xj ne,xk) iQ ne e2 (bL,fe,(Heap.Ns1.of_empty e3).at fun o q=>Gw,fun _=>Js,(oF,absurd rfl hy)))
theorem xsz {prog:Program}{w:World}{env:Env}{e:Expr}{f:Str}{pos:Pos}{s:Shared}{Q:bA} (hb:attributeBase e f env SU=SU)
    (h:wpAny bz A SU (fun o s₁=>wpAny bz A (getAttr o f true) Q E s₁) E s):wpAny bz A (eval (.Attribute e f pos) env) Q E s :=
  Attribute_any_ h (bR arm_eval_Attribute hb)
#check _
inductive xwd (K:Zd) (f:Str) (x:V) (H1:Hp) (Q:VK):Prop
 | mk (a C dx fs v) (e_:lC) (r_:(ay,(ae,H1 a,B6),L5,xe5 K C f,zqP,Q v H1))
noncomputable def tFld (K:Zd) (ta:TE) (f:Str):TE:=(xU,xwd K f x H1 Q)
noncomputable def sFld (K:Zd) (ta tv:TE) (f:Str):TS:=fun D Z H=>tv Z H fun y H1=>ta Z H1 fun x H2=>∃ a C dx fs,lC/\(ae,H2 a,B6)/\L5/\xe5 K C f/\fs.length<1000 /\
 D.nx Z (upd H2 a (lW C zeF))
noncomputable def InOp (X:Cx) (op:Operator) (rd:Ky):Prop :=
 ∀(pins:bp) (s:Shared) (Z:St) (H:Hp) (x y:V) (u v:Value) (Q:VK),(bg,ax,ou,RelV y v,rd x y H Q,wpAny aS X.A (inplaceOp op u v) mz X.xe s)
section
variable {X:Cx}{o e value:Expr}{f:Str}{pos pos' tpos:Pos}{ta tv:TE}
theorem x9 (he:PE X e ta) (hb:attributeBase e f X.env vK=vK):PE X (.Attribute e f pos) (tFld X.K ta f):=by
 intro pins s Z H Q I h;refine xsz hb (thn (he pins s Z H _ I h) fun u s1 ⟨x,H1,I1,rx,a,C,dx,fs,v,ex,ea,c,n,l,q⟩=>?_);ext qT;exact xnl I1 ea c n l fun u' s2 I2 ru=>aZ v H1 I2 ru q
theorem xcf (ha:PE X o ta) (hv:zdi) (hs:M8 value (some zrV)):PK zrV value (sFld X.K ta tv f):=by
 intro pins s Z H D I h;refine plainObj_wpAny_Assign_Attribute (thn (hv pins s Z H _ I h) fun u s1 ⟨y,H1,I1,ry,q⟩=>thn (ha pins s1 Z H1 _ I1 q) fun ov s2 ⟨x,H2,I2,rx,a,C,dx,fs,ex,ea,c,n,l,q2⟩=>?_) hs;subst ex;ext rW ov a rx;exact xnz I2 ea c n l ry fun s3 I3=>bQ Z _ I3 q2
inductive rAdd (x:V) (y:V) (H:Hp) (Q:VK):Prop
 | mk (i j) (e_:Ku) (r_:y=.int j/\(mP (i+j)))
inductive rSub (x:V) (y:V) (H:Hp) (Q:VK):Prop
 | mk (i j) (e_:Ku) (r_:y=.int j/\(mP (i-j)))
theorem xw8:InOp X .Add rAdd:=by
 rintro pins s Z H x y u v Q I rx ry ⟨i,j,rfl,rfl,q⟩;ext zhE
 exact PyProof.Rows.iadd_int (AR (i+j))
theorem xw2:InOp X .Sub rSub:=by
 rintro pins s Z H x y u v Q I rx ry ⟨i,j,rfl,rfl,q⟩;ext zhE
 exact PyProof.Rows.isub_int (AR (i-j))
#check _
section
variable {X:Cx}{pins:List (Addr × Obj)}{Z:St}{H:Hp}{s:Shared}{A:Around}{E:Value->Shared->Prop}{Q:Value->Shared->Prop}{c:Value}{b:Bool}
inductive TyOf (K:Zd) (H:Hp):bE V Value where
  | non:sL .non "NoneType"
  | bl (x:Bool):sL (.bl x) "bool"
  | int (i:Int):sL dY "int"
  | str (x:Str):sL lR "str"
  | flt (x:UInt64):sL (.flt x) "float"
  | lst {a:Addr}{xs:af} (e:vy a xs):sL bq "list"
  | frz {a:Addr}{o:Obj}{xs:af} (e:aT a (.frz o (.lst xs))):sL bq "list"
  | tup {a:Addr}{xs:af} (e:j8 a xs):sL bq "tuple"
  | dK {a:Addr}{kvs:bD} (e:CN):sL bq "dict"
  | dT {a:Addr}{kvs:dC} (e:Gg):sL bq "dict"
  | ins {a C dx:Addr}{fs:i7} (e:La) (cl:L5) (ha:yo C "__class__" (yw "object.__class__"))
      (hn:Vi) (htk:UW)
      (hm:(ae,PySem.W.mroIn K C (.type "object"),true)):TyOf K H bq Gv
theorem xqj {x:V}{u t:Value} (I:ax) (rx:ou) (ty:TyOf X.K H x t) (e:(ae,Wd X.K t c,b)) (h:∀ tk,Q (.bool b) { s with toks:=tk }) :
    wpAny aS A (vG "isinstance" [u,c]) Q E s:=by
  cases ty with
  | non=>cases (fR u JG rx); exact J5 PySem.W.kitx_none I.kIn Js e dw h
  | bl y=>cases (show u=Ye y from rx); exact J5 PySem.W.kitx_bool I.kIn Js e dw h
  | int i=>show(X8,Ac,J5 PySem.W.kitx_int I.kIn Js e dw h)
  | str y=>show(X8,QF y t,J5 PySem.W.kitx_str I.kIn Js e dw h)
  | flt y=>show(X8,Value.float y t,J5 PySem.W.kitx_float I.kIn Js e dw h)
  | @lst a xs ea =>
    ext DI;obtain⟨_,_,n,_,h1⟩:=(Hl,xbc X.prog X.w H s.heap a (.lst xs))
    exact J5 PySem.W.kitx_list I.kIn (dP h1) e dw h
  | @frz a ob xs ea =>
    ext DI;obtain⟨_,_,⟨_,n,_,h1⟩⟩:43:=(Hl,xbc X.prog X.w H s.heap a (.frz ob (.lst xs)))
    exact J5 PySem.W.kitx_list I.kIn (dP h1) e dw h
  | @tup a xs ea =>
    ext DI;obtain⟨_,_,_,p⟩:=(Hl,xbc X.prog X.w H s.heap a (.tup xs))
    ext tu o h1 h2 p;exact J5 PySem.W.kitx_tuple I.kIn ⟨o,h1,h2⟩ e dw h
  | @dK a kvs ea =>
    ext DI;obtain⟨_,_,⟨vs,_,p⟩⟩:43:=(Hl,xbc X.prog X.w H s.heap a L4)
    obtain⟨o,es,ep,h1,h2,_⟩:103:=p;exact J5 PySem.W.kitx_dict I.kIn ⟨o,h1,h2.1⟩ e dw h
  | @dT a kvs ea =>
    ext DI;obtain⟨_,_,⟨xs,_,o,es,ep,h1,h2,_⟩⟩:43:=(Hl,xbc X.prog X.w H s.heap a (.dT kvs))
    exact J5 PySem.W.kitx_dict I.kIn ⟨o,h1,h2.1⟩ e dw h
  | @ins a C dx fs ea cl ha hn htk hm =>
    ext DI;show(iB,mA,O,xg4 I.hok ea);show(iB,od,J,O.look)
    exact J5 (PySem.W.kitx_own (cl.get _) cl.hd ha hn htk hm) I.kIn J e dw h
#check _
structure Room (q0:Bool) (k:Nat) (A:Around):Prop where
 hd:zmG
 dp:A.depth+3*k+5<recursionLimit
 un:A.units+16*k+200<cLine
 gd:ae A.guards []
theorem Room.mono {j k:Nat}{A:Around} (r:BG) (h:j<=k):Room q0 j A:=⟨r.hd,gO r.dp,gO r.un,r.gd⟩
theorem Room.deeper {k:Nat}{A:Around} (r:Room q0 cU A) (env:Env):zbG env :=
 ⟨r.hd,by have:=r.dp; show A.depth+1+3*k+5<_; omega,by have:=r.un; show A.units+3+16*k+200<_; omega,r.gd⟩
theorem xny {A:Around}{C:Addr}{us:aY}{kw:Be}:(Nj Ph).depth=A.depth+1:=by
 first|rfl|simp[Around.under,Code.weight,Code.isCreation,Code.isGuard,Code.isCaller,Code.frames,Code.isFrame,guardIds]
theorem xnr {A:Around}{C:Addr}{us:aY}{kw:Be}:(Nj Ph).units=A.units+1:=by
 first|rfl|simp[Around.under,Code.cUnits,Code.frames,Code.isFrame]
theorem Room.make {k:Nat}{A:Around} (r:Room q0 cU A) (C:Addr) (us:aY) (kw:Be):Room q0 k (A.under (.builtin "type.__call__" Ph)) :=
 ⟨r.hd,by have:=r.dp; rw[xny]; omega,by have:=r.un; rw[xnr]; omega,by first|exact r.gd|(simpa [Around.under,Code.guards,Code.isGuard,guardIds,pushGuards] using r.gd)⟩
theorem Room.depth {k:Nat}{A:Around} (r:BG):A.depth<recursionLimit:=gO r.dp
theorem Room.units {k:Nat}{A:Around} (r:BG):zfH 64:=gO r.un
noncomputable def tNil:TA:=(FC,Q [] H)
@[reducible] def xsn (ta:TE) (tr:TA):TA:=(xU,tr Z H1 fun xs H2=>Q qE H2)
section
variable {X:Cx}{e:Expr}{es:List Expr}{te:TE}{t:TA}{pos:Pos}
theorem xg:PA X [] tNil:=fun _ _ _ _ H Q I h=>YH (zO [] .nil)
theorem xa (ha:tF) (hr:Tl) (hs:xM:=by rfl):PA X nB (xsn te t):=by
 intro pos pins s Z H Q I h;rw[hs];show wpAny _ _ (spliced ((jA vK)::yK)) _ _ s;refine Yh (thn (ha pins s Z H _ I h) fun u s1 ⟨x,H1,I1,r1,q1⟩=>?_);exact thn (hr pos pins s1 Z H1 _ I1 q1) fun us s2 ⟨xs,H2,I2,r2,q2⟩=>(aZ,qE,H2,I2,.cons r1 r2,q2)
noncomputable def tTup (t:TA):TE:=zks (fA H1 p xs)
noncomputable def tLst (t:TA):TE:=zks (fw H1 p xs)
theorem xah {x1} (h:Tl):PE X (.Tuple es x1 pos) (tTup t):=by
 intro pins s Z H Q I hq;refine wpAny_Tuple_spliced (thn (h pos pins s Z H _ I hq) fun us s1 ⟨xs,H1,I1,r,z,q⟩=>zqV);show(av,hf,zmO,zsq,(zhY,fA H1 s1.heap.objs.size xs,q _ hf));exact⟨z,us,r,zP gq eR⟩
theorem xb2 (h:Tl):PE X (.List es pos) (tLst t):=by
 intro pins s Z H Q I hq;refine wpAny_List_spliced (thn (h pos pins s Z H _ I hq) fun us s1 ⟨xs,H1,I1,r,z,q⟩=>zqV);show(av,hf,zmO,zsq,(zhY,fw H1 s1.heap.objs.size xs,q _ hf));show(aO,z,bQ us 0 r gq)
#check _
noncomputable abbrev Sp:=af->Hp->(bE VK XK)
noncomputable abbrev CXT:=bg mM Hp Shared XK bA
structure Env0 (P:Program) (w:World) (K:Zd) (mg:fH) (base:Heap) (A:Around) (outer:mM) (s:Shared) (H:Hp):Prop where
 frames:ae A.frames outer
 mod:Mod K mg base
 bs:∀ b o,(ae,base.get? b,o)->jH/\dE
 bsz:base.objs.size<=s.heap.objs.size
 funs:s.heap.FunFrames base outer
 frf:∀ b∈frs outer,dE
 hok:HOk P w H s.heap
 bare:AllBare s.gens
noncomputable def CE (outer:mM) (P:Program) (w:World) (H:Hp) (s:Shared) (Q:VK) (u:Value) (s':Shared):Prop :=
 ∃ v H',bM s'.os s.os Pp (aR,Un (frs outer) [] H H' s.heap s'.heap,HOk P w H' s'.heap,mK,CW)
noncomputable def CR (CX:CXT) (outer:mM) (P:Program) (w:World) (H:Hp) (s:Shared) (Q:VK) (E:XK) (r:Result) (s':Shared):Prop :=
 match r with
 | .ok (.ret u)=>CE outer P w H s Q u s'
 | .ok _=>False
 | .error e=>CX outer H s E e s'
structure FnOk (q0:Bool) (P:Program) (w:World) (K:Zd) (mg:fH) (base:Heap) (CX:CXT) (k:Nat) (f:Addr) (fd:FuncData) (ps:am) (sp:Sp):Prop where
 len:GF
 run:∀(A:Around) (outer:mM) (s:Shared) (H:Hp) (args:Args) (us:aY) (vs:af) (Q:VK) (E:XK),BG->Env0 P w K mg base A outer s H->BindsTo s fd args Tc->FG->ER ->
  codeAny y8 A (.call (.ref f) args) (CR CX outer P w H s Q E) s
theorem Env0.make {P:Program}{w:World}{K:Zd}{mg:fH}{base:Heap}{A:Around}{outer:mM}{s:Shared}{H:Hp} (e:Env0 P w K mg base A outer s H) (C:Addr) (us:aY) (kw:Be) :
    Env0 P w K mg base (Nj Ph) outer s H:=⟨by first|exact e.frames|(simpa [Around.under,Code.envs,Code.isFrame,pushEnvs] using e.frames),e.mod,e.bs,e.bsz,e.funs,e.frf,e.hok,e.bare⟩
section
variable {X:Cx}{pins:List (Addr × Obj)}{Z:St}{H:Hp}{s s':Shared}
theorem Inv.env0 (I:ax):Env0 X.prog X.w X.K X.mg X.base X.A X.stack s H :=
 ⟨I.ok.frames,I.ok.mod,I.bs,ZK I.ok.bsz I.sz,I.stack,I.stkFree,I.hok,I.bare⟩
theorem Inv.after {Q:VK}{u:Value} (I:ax) (h:CE X.stack X.prog X.w H s Q u s'):EP X pins Z Q u s':=by
 obtain⟨v,H',os,bare,un,hok,r,q⟩:86:=h;obtain⟨hh,g,d,t,os'⟩:=s';show(ii,os'=s.os,os);exact(aZ,v,H',I.call (h':=hh) (g':=g) (d':=d) (t':=t) (ch:=[]) un hok bare (fun b z=>absurd z ap),r,q)
#check _
noncomputable def xsh (sp:Sp) (dvs:af) (E:St->XK) (t:TA):TE:=(yd,vs,sp CA H1 Q (E Z))
inductive xs4 (C:Addr) (m:Str) (sp:Sp) (dvs:af) (E:St->XK) (t:TA) (Z:St) (x:V) (H1:Hp) (Q:VK):Prop
 | mk (a dx fs) (e_:lC) (r_:(ae,H1 a,B6)/\fs.lookup m=none/\t Z H1 fun vs H2=>sp (x::CA) H2 Q (E Z))
noncomputable def xsc (C:Addr) (m:Str) (sp:Sp) (dvs:af) (E:St->XK) (ta:TE) (t:TA):TE:=(xU,xs4 C m sp dvs E t Z x H1 Q)
noncomputable def xsq (C:Addr) (sp:Sp) (dvs:af) (E:St->XK) (t:TA):TE:=fun Z H Q=>t Z H fun vs H1=>∀ x dx,H1 x=none->H1 dx=none->dx≠x ->
 (zhm (upd H1 dx (.own x)))
noncomputable def x0 (K:Zd) (fd:FuncData) (ps:am) (ds:aY):Prop :=
 ∀(s:Shared) (us:aY),yM->(zQ,(zV).length)->BindsTo s fd (jT us) (ps.zip zV)
theorem x0.all {K:Zd}{fd:FuncData}{ps:am} (h:∀ us:aY,zht fd):aV fd ps:=fun s us _ hl=>by
 rw[YV] at hl ⊢;exact .of_eq (h us hl)
noncomputable def xen (CX:CXT) (X:Cx) (E:St->XK):Prop:=∀(pins:bp) (Z:St) (H:Hp) (s:Shared) (e:Value) (s':Shared),ax->CX X.stack H s (E Z) e s'->X.xe e s'
section
variable {X:Cx}{CX:CXT}{k:Nat}{f C:Addr}{fd:FuncData}{ps:List Str}{sp:Sp}{dvs:List V}{ds:List Value}{E:St->XK}{x m:Str}{p pos apos:Pos}{e o:Expr}{es:List Expr}{ta:TE}{t:TA}
theorem xk1 {pins:bp}{Z:St}{H:Hp}{s:Shared}{Q:VK}{us:aY}{vs:af} (F:FnOk q0 X.prog X.w X.K X.mg X.base CX k f fd ps sp) (hr:Rv) (hb:AZ) (hd:BE) (hx:BP)
    (I:ax) (r:FG) (h:sp CA H Q (E Z)):wpAny aS X.A (call (.ref f) us) mz X.xe s:=by
  have r2:Vals CA zV:=r.append hd;have hl:(zV).length=ps.length:=(cY,r2.length,F.len _ _ _ _ h)
  refine Wq (Q0 (F.run X.A X.stack s H (jT us) zV CA Q (E Z) hr I.env0 (hb s us I.kIn hl) r2 h) (aI r s' hq));cases r with
  | error e=>exact hx pins Z H s e s' I hq
  | ok fl =>
    cases fl with
    | ret u=>exact I.after hq
    | next=>exact JX hq
    | brk=>exact JX hq
    | cont=>exact JX hq
theorem xtt (F:FnOk q0 X.prog X.w X.K X.mg X.base CX k f fd ps sp) (hr:Rv) (hg:rL) (hm:KH f) (hk:zpj) (hb:AZ) (hd:BE) (hx:BP)
    (ha:BY) (hdb:nQ:=by decide) (he:xM:=by rfl) (hpl:(yK).any (·.1)=false:=by rfl) :
    GQ (xsh sp dvs E t):=by
  intro pins s Z H Q I h;ext W9;refine Wt (h₀:=X.base) I.ok.mod.kin hk (thn (ha pos pins s Z H _ I h) fun us s1 ⟨vs,H1,I1,r,q⟩=>eW I1.kIn) he hpl;exact xk1 F hr hb hd hx I1 r q
theorem xae {pl:Uq} (he:PE X o ta) (c:KP) (hm:Meth X.K C m f) (F:FnOk q0 X.prog X.w X.K X.mg X.base CX k f fd ps sp) (hr:Rv) (hb:AZ) (hd:BE) (hx:BP) (ha:BY)
    (hst:xM:=by rfl) (hpl:(yK).any (·.1)=false:=by rfl)
    (ht:eval (.Call Ot nB [] pos) X.env=(do
      let ov <- lD o
      zsk
      let (f,first) <- zkR
      zld nB):=by rfl) :
    PE X (.Call Ot nB [] pos) (xsc C m sp dvs E ta t):=by
  intro pins s Z H Q I h;refine zrl (thn (he pins s Z H _ I h) fun u s1 ⟨x,H1,I1,rx,a,dx,fs,ex,ea,l,q⟩=>?_) ht;ext qT;refine xiv I1 ea c hm l ?_;refine Wt (first:=j0) (h₀:=X.base) I.ok.mod.kin hm.kp (thn (ha pos pins s1 Z H1 _ I1 q) fun us s2 ⟨vs,H2,I2,r,q2⟩=>eW I2.kIn) hst hpl;exact xk1 (us:=bq::us) (vs:=bq::vs) F hr hb hd hx I2 (.cons rfl r) q2
theorem xal {pl:Uq} (he:PE X o ta) (c:KP) (hm:Meth X.K C m f) (F:FnOk q0 X.prog X.w X.K X.mg X.base CX k f fd ps sp) (hr:Rv) (hb:AZ) (hd:BE) (hx:BP)
    (ht:eval (.Call Ot [] [] pos) X.env=(do
      let ov <- lD o
      zsk
      let (f,first) <- zkR
      zld []):=by rfl) :
    PE X (.Call Ot [] [] pos) (xsc C m sp dvs E ta tNil):=by
  intro pins s Z H Q I h;refine zrl (thn (he pins s Z H _ I h) fun u s1 ⟨x,H1,I1,rx,a,dx,fs,ex,ea,l,q⟩=>?_) ht;ext qT;refine xiv I1 ea c hm l ?_;exact PySem.W.callWith_K0 (first:=j0) I1.kIn hm.kp (xk1 (us:=j0) (vs:=j0) F hr hb hd hx I1 (.cons rfl .nil) q)
structure Mk (K:Zd) (C f:Addr):Prop where
 makes:zf C
 init:zos
 fn:bJ f
 kp:mr C
theorem xlo {pins:bp}{Z:St}{H:Hp}{s:Shared}{Q:VK}{us:aY}{vs:af} (M:Mk X.K C f) (F:FnOk q0 X.prog X.w X.K X.mg X.base CX k f fd ps sp) (hr:zcD) (hb:AZ) (hd:BE)
    (hx:BP) (I:ax) (r:FG)
    (h:∀ x dx,(bb,bu x,bu dx,dx≠x,zhm (upd H dx (.own x)))) :
    wpAny aS X.A (call (.ref C) us) mz X.xe s:=by
  show(ah,hq,h jK s.heap.objs.size (I.hok.fresh (Wa _)) DP (ZS (QJ _)),I2,Inv.made (C:=C) I);have r2:Vals (V.ref jK::CA) (Zs jK::zV):=.cons rfl (r.append hd);have hl:(zfa++ds).length=ps.length:=by
    have e:=r2.length;show(bV,F.len _ _ _ _ hq,e,e.symm)
  refine Wq (xrz (f:=f) I.kIn M.makes M.init (beq_iff_eq.mp M.fn) (Q0 (F.run _ X.stack _ _ (jT zfa) (Zs jK::zV) _ _ (E Z) (hr.make C us [])
    (I2.env0.make C us []) (hb _ zfa I2.kIn hl) r2 hq) (aI r s' hq')))
  cases r with
  | error e=>exact hx pins Z _ _ e s' I2 hq'
  | ok fl =>
    cases fl with
    | ret u =>
      obtain⟨v,H',I3,rv,ev,q3⟩:84:=I2.after hq';subst ev;show(aO,rv,(kL,V.ref jK,H',I3,q3))
    | next=>exact JX hq'
    | brk=>exact JX hq'
    | cont=>exact JX hq'
theorem xex (M:Mk X.K C f) (F:FnOk q0 X.prog X.w X.K X.mg X.base CX k f fd ps sp) (hr:zcD) (hg:rL) (hm:KH C) (hb:AZ) (hd:BE) (hx:BP)
    (ha:BY) (hdb:nQ:=by decide) (he:xM:=by rfl) (hpl:(yK).any (·.1)=false:=by rfl) :
    GQ (xsq C sp dvs E t):=by
  intro pins s Z H Q I h;ext W9;refine Wt (h₀:=X.base) I.ok.mod.kin M.kp (thn (ha pos pins s Z H _ I h) fun us s1 ⟨vs,H1,I1,r,q⟩=>eW I1.kIn) he hpl;exact xlo M F hr hb hd hx I1 r q
theorem xlk (M:Mk X.K C f) (F:FnOk q0 X.prog X.w X.K X.mg X.base CX k f fd ps sp) (hr:zcD) (hg:rL) (hm:KH C) (hb:AZ) (hd:BE) (hx:BP)
    (hdb:nQ:=by decide):PE X (.Call (.Name x p) [] [] pos) (xsq C sp dvs E tNil):=by
  intro pins s Z H Q I h;ext W9;exact PySem.W.callWith_K0 I.kIn M.kp (xlo (us:=[]) M F hr hb hd hx I .nil h)
#check _
structure xt (N P:am) (sc:Scope):Prop where
 kind:sc.kind=.function
 co:zrj
 gen:zri
 nd:N.Nodup
 pre:zrK
 par:∀ x∈P,(Nr GR)
 nofree:zkV
theorem xj7 {kindOf:OE}{x:Str}:ziC (zew binds)
 | [],_,_=>rfl
 | (n,v)::r,m,h=>by
  unfold bindL;rw[xj7 fun w hw=>h w (Zi _ hw)];split
  .ext zjn
  .rfl
theorem xki {kindOf:OE}{x:Str}:ziC (zev binds)
 | [],_,_=>rfl
 | (n,v)::r,m,h=>by
  unfold bindC;rw[xki fun w hw=>h w (Zi _ hw)];split
  .rfl
  .ext zjn
theorem xj6 {kindOf:OE}{x:Str}{v:Value}:∀{P:List Str}{vs:List Value}{i:Nat}{m:Str->Option Value},P.Nodup->P[i]?=some x->vs[i]?=some v->(ae,kindOf x,.local) ->
    (ae (zew (P.zip vs)) v)
  | [],_,_,_,_,h,_,_=>yB
  | dc,[],_,_,_,_,h,_=>yB
  | p::P,w::vs,0,m,nd,h1,h2,hk=>by
    simp at h1 h2; subst h1; subst h2;show bindL kindOf OL m p=_;unfold bindL;rw[xj7 (kS,hv,(Z5.mp nd).1 (zch hv)),aN hk];simp
  | p::P,w::vs,aX,m,nd,h1,h2,hk=>by
    show (zew OL)=_;unfold bindL;exact xj6 (i:=i) (Z5.mp nd).2 qP DT hk
theorem xj9 {kindOf:OE}{x:Str}{v:Value}:∀{P:List Str}{vs:List Value}{i:Nat}{m:Str->Option Value},P.Nodup->P[i]?=some x->vs[i]?=some v->kindOf x≠some .local ->
    (ae (zev (P.zip vs)) v)
  | [],_,_,_,_,h,_,_=>yB
  | dc,[],_,_,_,_,h,_=>yB
  | p::P,w::vs,0,m,nd,h1,h2,hk=>by
    simp at h1 h2; subst h1; subst h2;show bindC kindOf OL m p=_;unfold bindC;rw[xki (kS,hv,(Z5.mp nd).1 (zch hv)),az hk];simp
  | p::P,w::vs,aX,m,nd,h1,h2,hk=>by
    show (zev OL)=_;unfold bindC;exact xj9 (i:=i) (Z5.mp nd).2 qP DT hk
noncomputable def start (N:am) (vs:af):St:=vs.map some++List.replicate (N.length-vs.length) none
noncomputable def cxOf (q0:Bool) (CX:CXT) (P:Program) (w:World) (K:Zd) (mg:fH) (base:Heap) (N:am) (qual:Str) (scope:Scope) (f:Addr) (cd:Value) (A:Around) (outer:mM) (s:Shared) (H:Hp) (E:XK):Cx where
 prog:=P
 w:=w
 K:=K
 mg:=mg
 base:=base
 A:=A.deeper Bl
 N:=N
 s₀:=s
 H₀:=H
 env:=Bl
 outer:=outer
 stack:=Bl::outer
 ex:=[]
 calm:=q0
 fn:=Kd
 pn:=[]
 xe:=(nH,e,wpAny y8 (A.deeper Bl) (leaving Bl e) (fun _ s''=>CX outer H s E e s'') (fun e' s''=>CX outer H s E e' s'') s')
theorem xlx {sc:Scope}{n:Nat}{x:Str} (h:GR):∃ c,(ae,(cellsFrom n sc.names []).lookup x,c):=by
 have q:=PySem.W.cellsFrom_some sc.names n [] (.inl h);exact QD.mp q
theorem xqb {CX:CXT}{P:Program}{w:World}{K:Zd}{mg:fH}{base:Heap}{N ps:am}{qual:Str}{scope:Scope}{f:Addr}{cd:Value}{A:Around}{outer:mM}{s s1:Shared}{H:Hp}{E:XK}{us:aY}{vs:af}
    (S:xt N ps scope) (hd:zmG) (e0:Env0 P w K mg base A outer s H) (hl:zQ vs.length) (r:FG)
    (x:InCallC s s.heap.objs.size (bindL (Bl).kindOf Tc fe) zmD (bindC (Bl).kindOf Tc fe) s1) :
    Inv (cxOf q0 CX P w K mg base N qual scope f cd A outer s H E) [] SZ H s1:=by
  have hpl:ps.length<=N.length:=by show(pR,uO S.pre,Jn); omega
  show(jN,h1,tk,rfl,hk,x.done)
  have noA:∀ b:Addr,b∉(cxOf q0 CX P w K mg base N qual scope f cd A outer s H E).ex:=fun b z=>absurd (LL zeG) ap;refine⟨⟨e0.mod,S.kind,rfl,rfl,bv,bN y z c h1 h2,KR,fun y c _ h=>?_,hd,Around.frames_deeper e0.frames,.inr oy,znu,e0.bs,e0.bsz,fun b _ _=>noA b,znu,e0.funs,e0.frf⟩,
    rfl,e0.bare,Un.kept hk,(cI,x.toInCall.ns,fun i y v h1 h2 h3=>?_),fun y c h=>(eE,x.cell y c h),e0.hok.fresh (Zl _),aI y c h,(dX,absurd (show p∈([]:bp) from hp) ap),e0.hok.kept hk,?_⟩
  . exact name_of_addr x.apart (JM h1) (JM h2)
  . have hy:(zre .cell)\/(zre .free):=hy
    rcases hy with hy|hy
    . exact xlx hy
    . show(iP,S.nofree _ (JM hy))
  . exact JS (x.above y c (JM h))
  . have hi:i<vs.length:=by
      unfold start at h2;by_cases hi:i<vs.length
      . exact hi
      . rw[J0 Hy] at h2
        rw[QO] at h2;ext LQ h2
    have ha:ba vs v:=by
      unfold start at h2;rw[Jc Hy,Zc] at h2;cases e:vs[i]? with
      | none=>ext cF e h2 h2
      | some a=>ext bG e h2 h2; rfl
    show(ag,u,hu,rv,r.get ha);have hp:ba ps y:=by
      rw[<- S.pre,List.getElem?_take_of_lt aa]; exact h1
    show(av,ndP,ps.Nodup,by rw[<- S.pre]; exact S.nd.sublist (QA _ _),eX u rv);rcases S.par y (Zk hp) with k|k
    . show(C1,k,xj6 ndP hp hu k)
    . show(mN,c,xlx (n:=jK) k)
      show(Ax,⟨.inl k,c,e,?_⟩);have q:=x.cell y c e;show(bV,xj9 ndP hp hu (by show zrf≠_; rw[k]; decide),q,q)
  . exact e0.hok.fresh (JS (x.above y c (JM h)))
  . unfold start
    show _=N.length;rw[Zr,Za,QY];omega
theorem xn3 {CX:CXT}{P:Program}{w:World}{K:Zd}{mg:fH}{base:Heap}{k:Nat}{f:Addr}{name qual:Str}{params:Arguments}{body:B2}{scope:Scope}{dV kV doc pm cdv ct oc:Value}{an od:iD}
    {osl:uZ}{N ps:am}{sp:Sp} (lk:Hk (Jw name qual params body scope dV kV doc pm an cdv ct)) (hcd:Hf) (S:xt N ps scope)
    (len:GF)
    (hbody:∀(A:Around) (outer:mM) (s:Shared) (H:Hp) (vs:af) (Q:VK) (E:XK),(zbG (W3 scope cdv))->ER ->
      (MW (cxOf q0 CX P w K mg base N qual scope f cdv A outer s H E) body)) :
    FnOk q0 P w K mg base CX cU f (Jw name qual params body scope dV kV doc pm an cdv ct) ps sp:=by
  show(dI,len,fun A outer s H args us vs Q E hr e0 hb r hsp=>?_);have hl:=len _ _ _ _ hsp;have KX:yM:=e0.mod.kin.keeps (wZ,(e0.bs b o e).1);have lim:s.heap.NoLimit:=e0.mod.nolimit.keeps (wZ,(e0.bs b o e).1);have hkind:∀ y∈Tc,(Wv .local)\/((Wv .cell)/\(fL ((zmD).lookup y.1))):=fun⟨n,v⟩ hy=>by
    rcases S.par n (zch hy) with q|q
    . ext dR q
    . show(rE,q,PySem.W.cellsFrom_some _ _ _ (.inl q))
  refine codeAny_call_function hr.depth (KX _ _ lk) rfl S.co S.gen rfl (PySem.W.codeRec_of KX hcd) (hb _ _ _ _ ?_);refine wpAny_newFunctionEnv_cells S.kind hkind (bX env he s1 x);subst he;show(dI,lim.keeps x.toInCall.keep,codeAny_func ?_);show(ag,t,ht,hq,hbody A outer s H vs Q E (hr.deeper _) hsp);have I:Inv (cxOf q0 CX P w K mg base N qual scope f cdv A outer s H E) [] SZ H s1:=xqb S hr.hd e0 hl r x;refine Ji (ht [] s1 SZ H _ I hq) (aI fl s' hs) fun e s' hs=>hs;have fin:∀{σ':St}{H':Hp}{v:V}{u:Value},(bb,Inv (cxOf q0 CX P w K mg base N qual scope f cdv A outer s H E) [] σ' H' s',mK,CW,CE outer P w H s Q u s') :=
    fun {σ' H' v u} J rv q=>⟨86,v,H',J.os,J.bare,J.base,J.hok,rv,q⟩
  cases fl with
  | ret u =>
    obtain⟨v,σ',H',J,rv,q⟩:103:=hs;exact fin J rv q
  | next =>
    show(jN,σ',H',J,q,hs);exact fin (v:=V.non) (u:=JG) J rfl q
  | brk =>
    ext zmU
  | cont =>
    ext zmU
section
variable {X:Cx}{x:Str}{p pos:Pos}{e:Expr}{es:List Expr}{t:TA}{id T:String}{r:List V->Hp->VK->Prop}
noncomputable def tCB (r:af->tt) (t:TA):TE:=(yd,vs,r vs H1 Q)
theorem xaq (hc:Bo id r) (hg:rL) (hm:zi x) (hv:bootBuiltins x=some (.builtin id)) (ha:BY) (hn:Ih:=by decide) (hdb:nQ:=by decide)
    (he:xM:=by rfl) (hpl:(yK).any (·.1)=false:=by rfl):GQ (tCB r t):=by
  intro pins s Z H Q I h;refine Y6 (xd8 I hg hm hv ?_ hn hdb);exact PyProof.Rows.callWith_builtin1 (thn (ha pos pins s Z H _ I h) fun us s1 ⟨vs,H1,I1,r1,q1⟩=>hc pins s1 Z H1 vs us Q I1 r1 q1) he hpl
theorem xbi (hc:xcq X (.type T) r) (hg:rL) (hm:zi x) (hv:bootBuiltins x=some (.type T)) (ha:BY) (hn:Ih:=by decide) (hdb:nQ:=by decide)
    (he:xM:=by rfl) (hpl:(yK).any (·.1)=false:=by rfl):GQ (tCB r t):=by
  intro pins s Z H Q I h;refine Y6 (xd8 I hg hm hv ?_ hn hdb);exact JF (thn (ha pos pins s Z H _ I h) fun us s1 ⟨vs,H1,I1,r1,q1⟩=>hc pins s1 Z H1 vs us Q I1 r1 q1) he hpl
#check _
#check L2
namespace HT
open PySem PyProof.Rows
section
variable {prog:Program}{w:World}{A:Around}{E:Value->Shared->Prop}{s:Shared}
theorem cat_tup {t b:Addr}{vs ws:aY}{Q:bA} (ht:IsTup s.heap t vs.toArray) (hb:IsTup s.heap b ws.toArray) (hv:vs≠[])
    (h1:ws=[]->(kK t s)) (h2:ws≠[]->(M7 (zbX,"tuple",(vs++ws).toArray)))
    (hsz:(cZ,vs.length+ws.length)):wpAny bz A (binaryOp .Add (.ref t) (.ref b)) Q E s:=by
  obtain⟨⟨cls,dd,data,sl⟩,ho,hc,⟨n,hd⟩⟩:63:=id ht;obtain⟨⟨cls2,dd2,data2,sl2⟩,ho2,hc2,⟨n2,hd2⟩⟩:63:=id hb;simp only at hc hd hc2 hd2;subst hc hd hc2 hd2;have e:vs.toArray++ws.toArray=(vs++ws).toArray:=ap
  by_cases hw:ws=[]
  . exact concat_meets (dP ho) (dP ho2) noFill_tuple_add seq_tuple_add PySem.F.slot_tuple_add PySem.F.entry_tuple_add zmq
      (tuple_addW1 t b vs.toArray ws.toArray n n2 dd dd2 sl sl2 (by simpa using hv) (b6 hw)) ⟨ho,ho2,h1 hw⟩
  . refine concat_meets (dP ho) (dP ho2) noFill_tuple_add seq_tuple_add PySem.F.slot_tuple_add PySem.F.entry_tuple_add zmq
      (tuple_addW2 t b vs.toArray ws.toArray n n2 dd dd2 sl sl2 (by simpa using hv) OT (qi ZA ZA hsz)) (eX ho ho2)
    rw[e];exact h2 hw
noncomputable def sIx (n d:Nat):jO->Nat
 | none=>d
 | ut=>VC
theorem sIx_none (n d:Nat):sIx n d none=d:=rfl
theorem sIx_nat (n d k:Nat):sIx n d (some jq)=min k n:=by
 show (lz,jq,0,(jq+iM).toNat,min (jq).toNat n)=min k n;rw[uc,Qf]
theorem xwl (n d:Nat) (hd:d<=n) (o:jO):sIx n d o<=n:=by
 cases o with
 | none=>exact hd
 | some v =>
  show VC<=n;by_cases hv:v<0
  .rw [aN hv]; omega
  .show(cq,az hv,Nat.min_le_right _ _)
theorem xmw (v:Int) (n d:Nat):zlz=(gP,sIx n d (some v)):=by
 show zlz=(gP VC)
 by_cases hv:v<0
 .simp only [aN hv]; omega
 .simp only [az hv]; omega
theorem xnk (lo hi:jO) (n:Nat):zjG=(Po,(gP,sIx n n hi)):=by
 have h1:¬ (rQ<0):=aa
 unfold Builtin.Slice.sliceAdjust;simp only[h1,if_false];refine Prod.ext ?_ ?_
 .cases lo with
  | none=>rfl
  | some v=>exact xmw v n 0
 .cases hi with
  | none=>rfl
  | some v=>exact xmw v n n
theorem xn5 (i j:Nat):Builtin.Slice.slicePlaces cL uB 1=j-i:=by
 unfold Builtin.Slice.slicePlaces;have h1:rQ>0:=aa
 simp only[h1,if_true,Int.ediv_one];ext lB
theorem xip {v:Value}{o:jO}{Q:eQ jO} (p:IsPart v o) (h:Q o s):wpAny bz A (Builtin.Slice.slicePartIndex v) Q E s:=by
 cases p with
 | none=>exact slicePart_none h
 | int i t=>exact slicePart_int h
theorem xh7 {sl:Addr}{vl vu:Value}{lo hi:jO}{n:Nat}{Q:(eQ,Int × Int × Nat)} (hs:VP) (pl:zdL) (pu:zdN)
    (h:Q (Po,1,sIx n n hi-sIx n 0 lo) s):wpAny bz A (Builtin.Slice.sliceApplied (.ref sl) (pure iM)) Q E s:=by
  show(bF,os,hos,hcs,hds,id hs);unfold Builtin.Slice.sliceApplied Builtin.Slice.sliceFields;refine Zg (Zg (Q7 hos hds (x:=vl) rfl (Zg (Q7 hos hds (x:=vu) rfl (Zg (Q7 hos hds (x:=.none) rfl (Zo ?_)))))));refine Zg (slicePart_none ?_);show wpAny _ _ (cu (rQ == 0) _ _) _ _ s;rw[az au];show(Ap,xip pl (Zg (xip pu (Zg (Zo ?_)))),wpAny _ _ (match zjG with|(lo,hi)=>pure (lo,rQ,Builtin.Slice.slicePlaces lo hi 1)) _ _ s);rw[xnk lo hi n];show wpAny _ _ (pure (Po,rQ,Builtin.Slice.slicePlaces Po (gP,sIx n n hi) 1)) _ _ s;rw[xn5];exact Zo h
theorem xry (xs:gL) (i k:Nat):((Zu k).filterMap zlj).toArray=((xs.toList.drop i).take k).toArray:=by
 have e:zlj=fun m=>xs[i+m]?:=by
  funext m;have:(cL+Gq*1).toNat=i+m:=aa
  rw[this]
 rw[e];show(pR,pick_run xs i k,Q6);have e2:((mf,xs[x]?)∘(mf,i+x))=fun m=>xs[i+m]?:=rfl;rw[e2] at this;rw[this]
theorem getItem_tuple_cut {t sl:Addr}{items:gL}{vl vu:Value}{lo hi:jO}{Q:bA} (ht:IsTup s.heap t items) (hs:VP) (pl:zdL) (pu:zdN)
    (hw:¬ (xX=0/\AC=items.size))
    (h:M7 (zbX,"tuple",((Vp).take (AC-xX)).toArray))
    (hsz:cZ items.size):wpAny bz A (getItem (.ref t) (.ref sl)) Q E s:=by
  have htake:sizeOk (.seq ((Vp).take (AC-xX)).toArray):=by
    show (cZ,((Vp).take (AC-xX)).toArray.size);rw[ZA,Jn,List.length_drop,Jm];omega
  have hj:AC<=items.size:=xwl _ _ bv hi;show(bF,os,hos,hcs,hds,id hs);have hTs:yE sl "slice":=⟨os,hos,hcs⟩
  unfold getItem
  try with_reducible refine J4 ?_
  first|ext EE|skip
  show(cJ,wpAny_sequenceKey ht.typeIs au ?_);refine Zg (Y3 (name:=Z9 "__getitem__") ht.typeIs Qk
    (JP Qk ht.typeIs entry_tuple_getitem ?_ (args_tuple_getitem _ _)))
  show wpAny _ _ (Builtin.Tuple.tupleItemsOf (.ref t)>>=_) _ _ s;show(cJ,tupleItemsOf_ ht ?_);show(cJ,QQ hTs ?_);rw[aN au];show(cJ,xh7 hs pl pu ?_);have hno:¬ (zhD=true):=by
    intro q;rw[Z7,Z7] at q;have q1:(gP xX)=0:=Wk q.1.1;have q2:AC-xX=items.size:=Wk q.2;exact hw (Ao aa)
  show wpAny _ _ (cu zhD _ _) _ _ s;rw[az hno,xry]
  first
    | exact Nl (YG (Zo Tt) htake)
    | exact Nl (YG (Zg (Zo (Zo Tt))) htake)
    | exact Zg (Nl (YG (Zo (Zo Tt)) htake))
    | exact Zg (Nl (YG (Zo Tt) htake))
#check _
#check HT
namespace L2
open PySem PySem.Spec PyProof.Rows
variable {q0:Bool}
noncomputable abbrev TO:=St->(bE Hp (nG jO))
noncomputable def PO (X:Cx) (e:dG Expr) (t:TO):Prop :=
 ∀(pins:List (Addr × Obj)) (s:Shared) (Z:St) (H:Hp) (Q:nG jO),ax->Cj ->
  wpAny aS X.A (evalPart e X.env) (nH,u,∃ o H',vU/\IsPart u o/\Q o H') X.xe s
noncomputable def xsv:TO:=(FC,Q none H)
noncomputable def xxv (t:TE):TO:=(kC,t Z H fun x H1=>∃ i,Ku/\Q (some i) H1)
theorem xnv {ns:dD}:∀{us:aY},Vals (ns.map V.int) us->IntsAre us ns:=by
 induction ns with
 | nil=>intro us r; show(bG,List.map_nil,r,r); ext ig
 | cons n ns ih =>
  intro us r;rw[Zp] at r;cases r with
  | cons r1 r2 =>
   ext mN t r1;ext cW;exact .cons n t (ih r2)
section
variable {X:Cx}{e:Expr}{te:TE}{lo hi:Option Expr}{tl th:TO}{pos p2:Pos}
theorem xfz:PO X none xsv:=by
 intro pins s Z H Q I h;rw[evalPart_none];exact Zo (zO none .none)
theorem xee (h:tF):PO X (some e) (xxv te):=by
 intro pins s Z H Q I hw;rw[evalPart_some];show(jX,h pins s Z H _ I hw,fun u s1 ⟨x,H1,I1,r1,q1⟩=>?_);show(ag,i,rfl,q,q1);ext d6 t r1;exact(aZ,some i,H1,I1,UC,q)
noncomputable def SlR (X:Cx) (r:HS):Prop :=
 ∀(pins:bp) (s:Shared) (Z:St) (H:Hp) (x:V) (v vl vu:Value) (lo hi:jO) (sl:Addr) (Q:VK),ax->tO->VP->zdL->zdN->r x lo hi H Q ->
  ∃ T id,zhN/\s.TypeIs v T/\wpAny aS X.A (getItem v (.ref sl)) mz X.xe s
noncomputable def tSl (r:HS) (te:TE) (tl th:TO):TE:=(kC,te Z H fun x H1=>tl Z H1 fun l H2=>th Z H2 fun u H3=>r x l u H3 Q)
theorem xed {r:HS} (hr:SlR X r) (he:tF) (hl:PO X lo tl) (hu:PO X hi th):PE X (.Subscript e zqT pos) (tSl r te tl th):=by
 intro pins s Z H Q I h;refine Subscript_ (thn (he pins s Z H _ I h) fun v s1 ⟨x,H1,I1,r1,q1⟩=>?_);refine wpAny_Slice (thn (hl pins s1 Z H1 _ I1 q1) fun vl s2 ⟨l,H2,I2,pl,q2⟩=>thn (hu pins s2 Z H2 _ I2 q2) fun vu s3 ⟨u,H3,I3,pu,q3⟩=>?_);rw[evalPart_none];ext wD;have I4:cT H3 UP:=I3.kept (t':=s3.toks) (xF ob Gw);obtain⟨T,id,hT,ht,hg⟩:83:=hr pins UP Z H3 x v vl vu l u s3.heap.objs.size Q I4 r1 (Heap.IsSliceOf.new ..) pl pu q3;show wpAny aS X.A (subscriptTail e zqT v (.ref s3.heap.objs.size)) mz X.xe UP;exact tail_any (ops:=[.ref s3.heap.objs.size,v]) ht hT hg (by with_unfolding_all rfl)
noncomputable def cutV (xs:af) (lo hi:jO):af:=(xs.drop (HT.sIx xs.length 0 lo)).take ((GB xs.length)-N9)
theorem xhp (xs:af) (lo hi:jO):C0 zdk xs.length:=by
 unfold cutV;rw[Jn,List.length_drop];omega
noncomputable def rSlT (K:Zd):HS:=fun x lo hi H Q=>∃ a xs,lC/\IH /\
 ¬ (N9=0/\(GB xs.length)=xs.length)/\(Bj (C6 zdk))
theorem xow:SlR X (rSlT X.K):=by
 intro pins s Z H x v vl vu lo hi sl Q I rx hs pl pu h;obtain⟨a,xs,rfl,hx,hw,q⟩:84:=h;ext fc;show(bF,its,r,ht,hz,I.tuple hx);have hlen:its.toArray.size=xs.length:=aA ZA r.length.symm
 show(jo,⟨83, "tuple",_,Qk.lookup,ht.typeIs,?_⟩,HT.getItem_tuple_cut ht hs pl pu (aA hlen hw) ?_ (aA hlen hz));rw[hlen];refine Kj (Vx,.tup (cutV xs lo hi));exact⟨zqE,_,(zlE).take ((GB xs.length)-N9),IsTup.new _ _⟩
inductive xks (K:Zd) (x:V) (y:V) (H:Hp) (Q:VK):Prop
 | mk (a b xs ys) (e_:lC) (r_:Fv/\IH/\(ay,SqT K H b ys,xs≠[],(cZ,xs.length+ys.length),ys=[]->(kK a H),ys≠[]->(Bj (C6 (xs++ys)))))
theorem Vals.nil_iff {xs:af}{us:aY} (r:lI):us=[]↔xs=[]:=by
 cases r with
 | nil=>simp
 | cons _ _=>simp
theorem xey:OpR X (binaryOp .Add) (xks X.K):=by
 intro pins s Z H x y v u Q I rx ry h;obtain⟨a,b,xs,ys,rfl,rfl,ha,hb,hx,hz,q1,q2⟩:=h;ext fc;ext gE;show(tu,its,r1,p1,I.tuple ha);show(tu,its2,r2,p2,I.tuple hb);refine HT.cat_tup p1 p2 (aj,hx (r1.nil_iff.mp z)) (aj (aZ,bq,H,I,rfl,q1 (r2.nil_iff.mp z))) lG (by rw[<- r1.length,<- r2.length]; exact hz);refine(ug,uX,(Vx,.tup (xs++ys)),q2 (fun w=>z (r2.nil_iff.mpr w)) _ DP);exact⟨aA Zr hz,_,r1.append r2,IsTup.new _ _⟩
#check _
noncomputable def ixN (n:Nat) (i:Int):dG Nat:=if 0<=i then (Aj f7 i.toNat) else (Aj,-iM<=i,(i+n).toNat)
noncomputable def atI {α:Type} (xs:aP) (i:Int):dG α:=(ixN xs.length i).bind fun j=>xs[j]?
theorem xsy {n:Nat}{i:Int}{j:Nat} (h:(ae,ixN n i,j)):(ae,seqIndex? i n,j)/\j<n/\-iM<=i/\f7:=by
 unfold ixN at h;by_cases h0:0<=i
 .show(hJ,aN h0);by_cases h1:f7
  .show(zqC,i.toNat,bW (bR,seqIndex_of h0 h1,e) aa aa h1)
  .show(hJ,az h1); cases h
 .show(hJ,az h0);by_cases h1:-iM<=i
  .show(zqC,(i+n).toNat,bW (bR,seqIndex_neg aa h1,e) aa h1 aa)
  .show(hJ,az h1); cases h
theorem xjn {α:Type}{xs:aP}{i:Int}{v:α} (h:(ae,atI xs i,v)):∃ j,(ay,(ae,seqIndex? i xs.length,j),cC xs v,j<xs.length,-Ee<=i,Ss):=by
 unfold atI at h;cases e:ixN xs.length i with
 | none=>ext cF e h h
 | some j =>
  rw[e] at h;show(kq,h1,h2,h3,h4,xsy e);exact⟨65,j,h1,h,h2,h3,h4⟩
theorem xb9 {α:Type}{xs:aP}{j:Nat}{v:α} (h:cC xs v):(ae,atI xs uB,v):=by
 have hj:j<xs.length:=(Zh.mp h).1;have e:(ae,ixN xs.length uB,j):=by
  unfold ixN;rw[Mi,Mi]; simp
 unfold atI; ext aD e h
noncomputable def xut (b:Expr):Prop:=∀ o i,subscripted b false o i=operate [o,i] (getItem o i)
noncomputable def IxR (X:Cx) (r:R2):Prop :=
 ∀(value slice:Expr) (pins:bp) (s:Shared) (Z:St) (H:Hp) (x y:V) (v u:Value) (Q:VK),ax->tO->gg->r x y H Q ->
  subscripted slice false v u=operate [v,u] (getItem v u)->wpAny aS X.A (subscriptTail value slice v u) mz X.xe s
noncomputable def MtR (X:Cx) (id:String) (r:IY):Prop :=
 ∀(pins:List (Addr × Obj)) (s:Shared) (Z:St) (H:Hp) (x:V) (xs:List V) (v:Value) (us:List Value) (Q:VK),Inv X pins Z H s->RelV x v->Vals xs us->r x xs H Q ->
  wpAny aS X.A (vG id (v::us)) mz X.xe s
section
variable {X:Cx}{a b:Expr}{ta tb:TE}{pos:Pos}
theorem xaf {r:R2} (hr:IxR X r) (ha:oa) (hb:vY) (hs:xut b):PE X (.Subscript a b pos) Sb:=by
 intro pins s Z H Q I h;exact Subscript_ (binT ha hb I h fun v u s2 x y H2 I2 rx ry q=>hr a b pins s2 Z H2 x y v u Q I2 rx ry q (hs _ _))
inductive rIxL (K:Zd) (x:V) (y:V) (H:Hp) (Q:VK):Prop
 | mk (p xs i v) (e_:cQ x p) (r_:zjH RU)
inductive rIxT (K:Zd) (x:V) (y:V) (H:Hp) (Q:VK):Prop
 | mk (p xs i v) (e_:cQ x p) (r_:zjH zdV)
inductive rIxS (x:V) (y:V) (H:Hp) (Q:VK):Prop
 | mk (z i c) (e_:x=.str z) (r_:(aR,y=.int i,cZ z.length,(ae,atI z.cps.toList i,c),Q (.str ST) H))
theorem xa1:IxR X (rIxL X.K):=by
 intro value slice pins s Z H x y v u Q I rx ry h hs;obtain⟨p,xs,i,z,rfl,rfl,hq,he,q⟩:=h;ext fc;ext d6 t ry;ext BU r wa;obtain⟨j,h1,h2,h3,h4,h5⟩:65:=xjn he;ext ziS;have fin:EP X pins Z Q w s:=aZ z H I rw' q
 by_cases h0:0<=i
 .have hj:i.toNat=j:=by
   rw[seqIndex_of h0 h5] at h1;exact ZO.inj h1
  exact item_listR pl.isList h0 aa zon fin hs
 .have hj:(i+(cV its.toArray.size)).toNat=j:=by
   rw[seqIndex_neg aa h4] at h1;rw[ZA,<- hl];exact ZO.inj h1
  exact subscriptTail_builtinR (x:=w) pl.isList.typeIs slot_list_getitem.lookup
   (wpAny_getItem_list_neg (Q:=(nH,r,r=w/\EP X pins Z Q r s')) pl.isList aa (by rw[ZA]<;>omega) aa zon (bY fin)) hs
theorem xaw:IxR X (rIxT X.K):=by
 intro value slice pins s Z H x y v u Q I rx ry h hs;obtain⟨p,xs,i,z,rfl,rfl,hq,he,q⟩:=h;ext fc;ext d6 t ry;ext BU r KA;obtain⟨j,h1,h2,h3,h4,h5⟩:65:=xjn he;ext ziS;have fin:EP X pins Z Q w s:=aZ z H I rw' q
 exact subscriptTail_builtinR (x:=w) pl.typeIs slot_tuple_getitem.lookup
  (getItem_tuple (j:=j) (Q:=(nH,r,r=w/\EP X pins Z Q r s')) pl aa aa (by rw[ZA,<- hl]; exact h1) (by simpa using ew) (bY fin)) hs
theorem xvg:IxR X rIxS:=by
 intro value slice pins s Z H x y v u Q I rx ry h hs;obtain⟨z,i,c,rfl,rfl,hz,he,q⟩:=h;ext LT;obtain⟨j,h1,h2,h3,h4,h5⟩:65:=xjn he;have hl:z.cps.toList.length=z.length:=b6 Str.length
 rw[hl] at h1 h4 h5;have hn:=xf3;exact tail_any (typeIs_str s z t) slot_str_getitem.lookup (getItem_str (c:=c) (by
  have e1:SB (i < -cV Gk):=decide_eq_false aa;have e2:SB (i>=Gk):=decide_eq_false aa;rw[e1,e2,Bool.or_false]) (by rw[h1]; simpa using h2) (aZ,.str ST,H,iI,eR,q)) hs
theorem Inv.lst {pins:bp}{Z:St}{H:Hp}{s:Shared}{p:Addr}{xs:af} (I:ax) (h:vy p xs) :
    (zci,yL/\(Rh p Nm)/\vx):=by
  show(zcR,I.hok p _ h);exact aZ its n r e z
theorem xku (lo hi:jO) (n:Nat):(bM,(WU).1,(gP,HT.sIx n 0 lo),(bc WU)=(gP,GB n),(b8 WU)=1):=by
 refine cE ?_ ?_
 .cases lo with
  | none=>simp[sliceBounds,HT.sIx]
  | some i =>
   ext zgH
   .simp only [h,if_true]<;>omega
   .ext zsg
 .cases hi with
  | none=>simp[sliceBounds,HT.sIx]
  | some i =>
   ext zgH
   .simp only [h,if_true]<;>omega
   .ext zsg
theorem xkl (its:aY) (lo hi:jO):slicePick its.toArray lo hi none=((its.drop (HT.sIx its.length 0 lo)).take ((GB its.length)-HT.sIx its.length 0 lo)).toArray:=by
 show(jb,h1,h2,h3,xku lo hi its.toArray.size);unfold slicePick;rw[h1,h2,h3];simp only[sliceRange_one,pick_run,ZA]<;>rfl
noncomputable def rSlL (K:Zd):HS:=fun x lo hi H Q=>∃ a xs,lC/\qW/\(Bj (fw H p zdk))
theorem xg3:SlR X (rSlL X.K):=by
 intro pins s Z H x v vl vu lo hi sl Q I rx hs pl pu h;obtain⟨a,xs,rfl,hx,q⟩:83:=h;ext fc;show(bF,its,r,ht,hz,I.list hx);show(d8,hlen,r.length,⟨83, "list",_,slot_list_getitem.lookup,ht.isList.typeIs,?_⟩);refine wpAny_getItem_list_slice ht.isList hs pl pu .none ap ?_ (by rw[ZA]<;>omega);rw[xkl,<- hlen];refine Kj (Vx,.lst (cutV xs lo hi));show(aO,zqE,(bQ,_,0,(zlE).take ((GB xs.length)-N9),gq))
noncomputable def xfi:L8
 | .non=>true
 | lU=>true
 | qx=>true
 | lO=>true
 | _=>false
noncomputable def eqV:V->V->Bool
 | .non,.non=>true
 | .bl a,uK=>Gb
 | .bl a,.int b=>(Bk a) == b
 | .int a,uK=>a == (vN 1 0)
 | .int a,.int b=>Gb
 | .str a,.str b=>Gb
 | _,_=>false
theorem xwf {A:Around}{s:Shared}{y x:V}{u v:Value} (ry:gg) (rx:tO) (fy:xfi y=true) (fx:zdZ):Z1 A s u v (eqV y x):=by
 cases y with
 | non =>
  ext gE;cases x with
  | non=>ext fc; exact Z1.same _
  | bl b=>ext fc; exact Z1.none_bool b
  | int b=>ext lE; exact Z1.none_int b t
  | str b=>ext lE; exact Z1.none_str b t
  | _=>ext A9 fx
 | bl a =>
  ext gE;cases x with
  | non=>ext fc; exact Z1.bool_none a
  | bl b=>ext fc; exact Z1.bool_bool a b
  | int b=>show(C7,Z1.bool_int a b t)
  | str b=>show(C7,Z1.bool_str a b t)
  | _=>ext A9 fx
 | int a =>
  ext iE;cases x with
  | non=>ext fc; exact Z1.int_none a t'
  | bl b=>ext fc; exact Z1.int_bool a t' b
  | int b=>show(C7,Z1.int_int a t' b t)
  | str b=>show(C7,Z1.int_str a t' b t)
  | _=>ext A9 fx
 | str a =>
  ext iE;cases x with
  | non=>ext fc; exact Z1.str_none a t'
  | bl b=>ext fc; exact Z1.str_bool a t' b
  | int b=>show(C7,Z1.str_int a t' b t)
  | str b=>show(C7,Z1.str_str a t' b t)
  | _=>ext A9 fx
 | _=>ext A9 fy
noncomputable def eqU (x:V) (u:Value):Bool:=match u with
 | .none=>eqV .non x
 | .bool b=>eqV (.bl b) x
 | .int i _=>eqV (.int i) x
 | .str z _=>eqV (.str z) x
 | _=>false
theorem xqf {x y:V}{u:Value} (r:gg) (f:xfi y=true):eqU x u=eqV y x:=by
 cases y with
 | non=>ext jG r
 | bl b=>ext jG r
 | int i=>ext E8
 | str z=>ext E8
 | _=>ext A9 f
theorem xi7 {x:V}:(P8,lI->zaP->us.any (eqU x)=xs.any (j3,eqV y x))
 | _,_,.nil,_=>rfl
 | y::xs,u::us,vZ,f=>by
  rw[YR,Z7] at f;rw[Yx,Yx,xqf r f.1,xi7 t f.2]
theorem xh9 {A:Around}{s:Shared}{x:V}{v:Value} (rx:tO) (fx:zdZ):(P8,lI->zaP->∀ u∈us,Z1 A s u v (eqU x u))
 | _,_,.nil,_=>fun u hu=>by cases hu
 | y::xs,u::us,vZ,f=>fun u' hu=>by
  rw[YR,Z7] at f;rcases eJ hu with rfl|hu
  .show(cq,xqf r f.1,xwf r rx f.1 fx)
  .exact xh9 rx fx t f.2 u' hu
noncomputable def inV (x:V) (xs:af):Bool:=xs.any fun y=>eqV y x
inductive rIn (K:Zd) (neg:Bool) (x:V) (y:V) (H:Hp) (Q:VK):Prop
 | mk (p xs) (e_:cQ y p) (r_:aR (RU\/zdV) zdZ zaP (rF (if neg then ! inV x xs else inV x xs)))
theorem xkj:qQ .In (rIn X.K false):=by
 intro pins s Z H x y v u Q I rx ry h;obtain⟨p,xs,rfl,hq,fx,fs,q⟩:=h;ext gE;rcases hq with hq|hq
 .obtain ⟨its,r,pl,hz⟩:63:=wa;show(zkX,eqU x,fun w hw=>xh9 rx fx r fs w OT);ext zgS
 .obtain ⟨its,r,pl,hz⟩:63:=KA;refine SeqAt.in_tupleAt (eqU x) pl (fun w hw=>xh9 rx fx r fs w OT) (aZ lU H I rfl ?_);ext zgS
theorem xa2:Bo "len" (fun xs H Q=>∃ p ys,bM xs Lv zkm (mP ys.length)):=by
 intro pins s Z H xs us Q I r h;obtain⟨p,ys,rfl,hq,q⟩:83:=h;ext AQ;ext fc;have hn:=xf3;rcases hq with hq|hq
 .ext zqR wa;exact Calls.call_len_list pl.isList NS zic
 .ext zqR KA;exact len_tuple pl NS zic
theorem xlj:Bo "len" (fun xs H Q=>∃ z,bM xs [.str z] (cZ z.length) (mP z.length)):=by
 intro pins s Z H xs us Q I r h;show(bF,z,rfl,hz,q,h);ext zmb;have hn:=xf3;exact len_str aa (AR z.length)
theorem xgw:(PF,zem,∃ p ys,(bM,xs,Lv,zkm,∀ l,oM->(kK l zeP))):=by
  intro pins s Z H xs us Q I r h;obtain⟨p,ys,rfl,hq,q⟩:83:=h;ext AQ;ext fc;have fin:∀(its:aY),Vals ys its->zcL->∀(h':Heap) (c':Nat),(∀ b o',(ae,s.heap.get? b,o')->(RF o')) ->
      (zot (Xe,none,.seq its.toArray c',#[]))->EP X pins Z Q uX nR:=fun its r' hz h' c' kp e =>
    (Kj,I.laid (t':=s.toks) kp bv (show xbc X.prog X.w _ h' _ (.lst ys) from ⟨hz,bQ its c' r' e⟩))
  rcases hq with hq|hq
  . ext BU r' wa
    ext zdG;obtain⟨o,ho,hc,⟨n,hd⟩⟩:63:=(pl.isList)
    exact call_list_seq p fO ho hc hd (fG,h',c',kp,fin its r' hz h' c' kp e) NS
  . ext BU r' KA
    ext zdG;obtain⟨o,ho,hc,⟨n,hd⟩⟩:63:=pl;exact call_list_seq p wu ho hc hd (fG,h',c',kp,fin its r' hz h' c' kp e) NS
noncomputable def tyV (K:Zd) (T:String) (x:V) (H:Hp):Prop:=match x with
  | lO=>T="str"
  | qx=>T="int"
  | wS=>(T="list"/\∃ xs,RU)\/(T="tuple"/\∃ o,(ae,K.lookup p,o)/\(KI "tuple")/\zff) \/
      (T="dict"/\((∃ kvs,sF p)\/∃ kvs,yc p))\/(T="set"/\∃ S n,aT p (.set S n))
  | _=>False
theorem xvq {pins:bp}{Z:St}{H:Hp}{s:Shared}{T:String}{x:V}{v:Value} (I:ax) (r:tO) (ty:tyV X.K T x H) :
    s.TypeIs v T/\∀ a,(cQ v a)->∃ ob,(DU ob)/\ob.dict=none:=by
  cases x with
  | str z =>
    ext d6 t r;cases (fR T "str" ty);show(aO,typeIs_str s z t,fun _ e=>nomatch e)
  | int i =>
    ext d6 t r;cases (fR T "int" ty);show(aO,typeIs_int s i t,fun _ e=>nomatch e)
  | ref p =>
    cases r;rcases ty with⟨rfl,xs,hq⟩|⟨rfl,o,hk,hc,hd⟩|⟨rfl,hk⟩|⟨rfl,S,n,hk⟩
    . obtain⟨its,_,pl,_⟩:63:=wa
      show(h9,pl.isList.typeIs,a,e);cases e;obtain⟨o,n,e,c,hd,_⟩:84:=pl;ext aE o e hd
    . show(h9,⟨o,I.kIn p o hk,hc⟩,a,e)
      cases e;show(aE,o,I.kIn _ o hk,hd)
    . have z:∃ o,(ae,s.heap.get? p,o)/\o.ExactDict:=by
        rcases hk with⟨kvs,hk⟩|⟨kvs,hk⟩
        . ext zgZ
        . ext zgZ
      ext ag o e ex z;ext ziu
    . obtain⟨o,_,_,_,e,ex,_⟩:123:=I.hok p _ hk
      ext ziu
  | _=>exact JX ty
noncomputable def tBM (K:Zd) (T:String) (r:IY) (to:TE) (t:TA):TE:=(kC,to Z H fun x H1=>tyV K T x H1/\t Z H1 fun xs H2=>r x xs H2 Q)
variable {o e:Expr}{es:List Expr}{to:TE}{t:TA}{name:Str}{apos cpos:Pos}{T id:String}{r:V->List V->Hp->VK->Prop}
theorem xev (pa:PlainAttrs T) (slot:Slot T name id) (hty:typeOf (.builtin id)=pure (.type "method_descriptor")) (hm:MtR X id r) (ho:K9) (ha:BY)
    (hbase:GK name:=by rfl)
    (hfew:((CG nB).all (fun x=>! bn)&&(Nx cpos).all (fun x=>(bn).isSome)
      && (UU nB))=true:=by rfl)
    (hline:GL:=by rfl) (hs:xM:=by rfl) (hplain:(CG es).any (·.1)=false:=by rfl) :
    PE X (AA name nB) (tBM X.K T r to t):=by
  intro pins s Z H Q I h;refine wpAny_Call_method_late hbase hfew hline rfl (thn (ho pins s Z H _ I h) fun v s1 ⟨x,H1,I1,r1,ty,q1⟩=>?_);show(BT,h1,h2,xvq I1 r1 ty,⟨86,T,id,pa,slot,hty,h1,h2,?_⟩);have hA:=ha cpos pins s1 Z H1 _ I1 q1;rw[hs] at hA ⊢;refine JL (by show (false||(CG es).any (·.1))=false; rw[hplain]<;>rfl) (YL ?_);exact thn hA fun us s2 ⟨vs,H2,I2,r2,q2⟩=>hm pins s2 Z H2 x vs v us Q I2 r1 r2 q2
#check _
noncomputable def MtM (X:Cx) (id:String) (r:IY):Prop :=
 ∀(pins:List (Addr × Obj)) (s:Shared) (Z:St) (H:Hp) (x:V) (xs:List V) (v:Value) (us:List Value) (Q:VK),Inv X pins Z H s->RelV x v->Vals xs us->r x xs H Q ->
  wpAny aS X.A (vG id (v::us)) mz X.xe s
theorem Vals.one {x:V}{us:aY} (h:xK [x]):∃ u,us=[u]/\ou:=by
 cases h with
 | cons r q =>
  cases q;exact cN r
theorem Vals.eraseIdx:∀{xs:af}{us:aY} (i:Nat),lI->Vals (xs.eraseIdx i) (us.eraseIdx i)
 | _,_,_,.nil=>.nil
 | _,_,0,KU=>t
 | _,_,aX,vZ=>.cons r (Vals.eraseIdx i t)
theorem xc6 {α:Type}:∀(l:aP) (i:Nat),C0 (l.eraseIdx i) l.length
 | [],_=>bv
 | dc,0=>Wa _
 | _::r,aX=>Nat.succ_le_succ (xc6 r i)
section
variable {X:Cx}{pins:List (Addr × Obj)}{Z:St}{H:Hp}{s:Shared}{l b:Addr}{xs ys zs:List V}
theorem Inv.lset {its its':aY}{n:Nat}{f:gL->gL}{t':Nat} (I:ax) (hH:za)
    (e:Rh l Nm) (hf:f its.toArray=its'.toArray) (hv:Vals ys its') (hz:zcL) :
    cT zeP (XF,s.heap.update l (Yt f)):=by
  show(ie,q,PySem.IsL.update e f,hf);refine I.write (x:=l) (e:=l) (aA hH trivial) fO (fun b' u hb hu=>(QU s.heap (Yt f) (Z2 hb)).trans hu) (eE q) ?_;show(aO,hz,bQ its' _ hv q)
theorem Inv.lnew {its:aY}{t':Nat} (I:ax) (hv:Vals ys its) (hz:zcL) :
    cT (fw H s.heap.objs.size ys) (XF,zbX "list" its.toArray) :=
  I.laid zdx bv ⟨hz,bQ its 0 hv gq⟩
theorem Inv.fresh (I:ax):bu s.heap.objs.size:=DP
theorem Inv.lstM (I:ax) (hH:za):vx/\(zci,yL/\xs.length=its.length/\(Rh l Nm)):=by
 show(zcR,I.hok l _ hH);show(aO,z,aZ its n r r.length e)
theorem xrj {n:Nat} (h:cZ n):Builtin.List.listTooLong n=false:=by
 unfold Builtin.List.listTooLong;exact decide_eq_false aa
#check _
section
variable {X:Cx}
inductive xs1 (x:V) (vs:af) (H:Hp) (Q:VK):Prop
 | mk (l xs y) (e_:Lz) (r_:(jx,vs,[y],za,Ii,Q .non (fw H l L3)))
theorem xdr:MtM X "list.append" xs1:=by
 intro pins s Z H x vs v us Q I rx rv h;obtain⟨l,xs,y,rfl,rfl,hH,hz,q⟩:=h;ext NU
 obtain⟨z,its,n,r,hl,e⟩:=K3;refine Wr F.slot_list_append (dP e) F.entry_list_append (F.args_list_append_2 _ _) (PySem.list_append l its.toArray n u (lq ZA)) (eW e);refine(ug,.non,I.lset (its':=its++[u]) hH e ap (r.append (.cons ru .nil)) ?_,q);rw[Zr,ZX];omega
inductive xtw (x:V) (vs:af) (H:Hp) (Q:VK):Prop
 | mk (l b xs zs) (e_:Lz) (r_:(zkf,vs=[.ref b],Q .non (fw H l (xs++zs))))
theorem xoj:MtM X "list.extend" xtw:=by
 intro pins s Z H x vs v us Q I rx rv h;obtain⟨l,b,xs,zs,rfl,rfl,hH,hB,hz,q⟩:=h;ext NU
 cases ru;obtain⟨z,its,n,r,hl,e⟩:=K3;obtain⟨z2,its2,n2,r2,hl2,e2⟩:=I.lstM hB;have hsz:(cZ,its.toArray.size+its2.toArray.size):=LI ZA ZA
 have hlong:¬ (! its.toArray.isEmpty&&Builtin.List.listTooLong (its.toArray.size+its2.toArray.size))=true:=by
  show(cD,xrj hsz,Q5,ZE)
 refine Wr F.slot_list_extend (dP e) F.entry_list_extend (F.args_list_extend_2 _ _)
  (AutoSeq1.list_extend_list_list_0 l its.toArray n b its2.toArray n2 hlong (lq ZA) aa) (eX e e2)
 refine(ug,.non,I.lset (its':=its++its2) hH e ap (r.append r2) ?_,q);rw[Zr];omega
noncomputable def xu3:IY:=fun x vs H Q=>∃ l xs i k y,(aR,Lz,vs=[dY],za,(ay,-Gk<=i,i<Gk,(ae,seqIndex? i xs.length,k),eY xs k y,Q y (zrc k)))
theorem xq5:MtM X "list.pop" xu3:=by
 intro pins s Z H x vs v us Q I rx rv h;obtain⟨l,xs,i,k,⟨y,rfl,rfl,hH,h1,h2,hk,hy,q⟩⟩:121:=h;ext NU
 ext MK;obtain⟨z,its,n,r,hl,e⟩:=K3;show(ag,w,hw,rw',r.get hy);refine Wr F.slot_list_pop (dP e) F.entry_list_pop (F.args_list_pop_2 _ _)
  (MeetsSeq.list_pop_at l its.toArray n i t k w (fitsIndex_both h1 h2) (by rw[ZA,<- hl]; exact hk) (cY Jv hw) (lq ZA)) (eW e)
 refine(aZ,y,_,I.lset (its':=its.eraseIdx k) hH e ?_ (r.eraseIdx k) ?_,rw',q)
 .show(zgT,k,its.eraseIdx k)
 .show(cy,xc6 xs k)
inductive rCat (x:V) (y:V) (H:Hp) (Q:VK):Prop
 | mk (l b xs zs) (e_:Lz) (r_:zkf Fv (Bj (fw H p (xs++zs))))
theorem xwu:OpR X (binaryOp .Add) rCat:=by
 intro pins s Z H x y v u Q I rx ry h;obtain⟨l,b,xs,zs,rfl,rfl,hH,hB,hz,q⟩:=h;ext fc;ext gE;obtain⟨z,its,n,r,hl,e⟩:=K3;obtain⟨z2,its2,n2,r2,hl2,e2⟩:=I.lstM hB;refine PySem.P.add_list e e2 ?_ (LI ZA ZA);have ea:its.toArray++its2.toArray=(its++its2).toArray:=ap
 rw[ea];exact(ug,.ref _,I.lnew (t':=s.toks) (r.append r2) L9,q _ I.fresh)
#check _
section
variable {κ:Type} [DecidableEq κ]
noncomputable def valV (kvs:eP) (k:κ):cc:=(kvs.find? fun kv=>dU iR k).map (·.2)
noncomputable def putK (kvs:eP) (k:κ) (v:V):eP :=
 if (kvs.any DS)=true then Rg (Kf,iR=k,(iR,v)) else kvs++[uJ]
noncomputable def xcr (kvs:eP) (k:κ):eP:=kvs.filter fun kv=>cP (iR≠k)
theorem xbo {p:κ × V}{r:eP}{k:κ} (e:aJ=k):(ae,valV oS k,bO):=by simp[valV,YU,e]
theorem xbh {p:κ × V}{r:eP}{k:κ} (e:¬ aJ=k):valV oS k=valV r k:=by simp[valV,YU,e]
theorem xdn (k:κ):∀ kvs:eP,(kvs.any DS)=(pW).isSome
 | []=>rfl
 | oS=>by
  rw[Yx];ext BS
  .simp only [De,decide_eq_true e,Bool.true_or,Option.isSome_some]
  .rw [Ar,decide_eq_false e,Bool.false_or]; exact xdn k r
theorem xl6 (k j:κ) (y:V):∀ kvs:eP,valV (kvs.map zoe) j=(SI).map (mf,if j=k then y else x)
 | []=>rfl
 | oS=>by
  have ih:=xl6 k j y r;rw[Zp];by_cases h:aJ=k
  .rw [aN h];by_cases e:aJ=j
   .rw [xbo (p:=(aJ,y)) e,De,Qy,if_pos (e.symm.trans h)]
   .rw [xbh (p:=(aJ,y)) e,Ar,ih]
  .ext d4 h;by_cases e:aJ=j
   .rw [xbo (p:=p) e,De,Qy,az (aj,h (e.trans z))]
   .rw [xbh (p:=p) e,Ar,ih]
theorem xjy (k j:κ) (y:V):∀ kvs:eP,zaI->valV (kvs++[(k,y)]) j=(Es,j=k,y,SI)
 | [],_=>by
  by_cases e:k=j
  .show(cq,aN e.symm,xbo (p:=(k,y)) e)
  .show(cq,az (aj,e z.symm),xbh (p:=(k,y)) e)
 | oS,hn=>by
  rw[List.cons_append];have hk:¬ aJ=k:=aj (Gz,xbo z,hn)
  rw[xbh hk] at hn;have ih:=xjy k j y r hn;by_cases e:aJ=j
  .rw [De,De,az (aj,hk (e.trans z))]
  .rw [Ar,Ar,ih]
theorem xcg (kvs:eP) (k j:κ) (y:V):valV zdQ j=(Es,j=k,y,SI):=by
 unfold putK;by_cases a:(kvs.any DS)=true
 .rw [if_pos a,xl6];rw[xdn] at a;by_cases e:j=k
  .obtain ⟨x,hx⟩:=QD.mp a;rw[Gp,e,hx,Qy,cp]
  .ext d4 e;cases SI with
   | none=>rfl
   | some x=>rw[Qy,az e]
 .rw [if_neg a];refine xjy k j y kvs ?_;rw[xdn] at a;cases q:pW with
  | none=>rfl
  | some x=>show(bV,q,a,(a rfl).elim)
theorem xbs (kvs:eP) (k:κ) (v:V):(C0,yD,kvs.length+1):=by
 unfold putK;split
 .rw [Za]; omega
 .rw [Zr,Z6,List.length_nil]; omega
theorem xcx {kvs:eP}{k:κ} (v:V) (h:zaI):yD=kvs++[uJ]:=by
 unfold putK;rw[xdn,h];exact if_neg au
theorem RelO.isSome_eq {o:cc}{u:E6} (r:RelO o u):o.isSome=u.isSome:=by
 cases o with
 | none=>cases u with
  | none=>rfl
  | some _=>ext D1
 | some _=>cases u with
  | none=>ext D1
  | some _=>rfl
theorem RelO.getD {o:cc}{u:E6}{d:V}{d':Value} (r:RelO o u) (rd:RelV d d'):RelV (o.getD d) (u.getD d'):=by
 cases o with
 | none=>cases u with
  | none=>exact rd
  | some _=>ext D1
 | some _=>cases u with
  | none=>ext D1
  | some _=>exact r
theorem KV.val {kvs:eP}{vs:vC} (r:ki) (k:κ):RelO pW (valueAt vs k):=by
 ext UJ
 induction r with
 | nil=>exact Js
 | @cons p q ps qs h t ih =>
  ext zdF;ext BS
  .show(zhZ,valueAt rZ k,zpy)
  .ext VJ;have b:valueAt rZ k=valueAt qs k:=zpy
   ext cD Ar b ih
theorem KV.any {kvs:eP}{vs:vC} (r:ki) (k:κ):(kvs.any fun kv=>dU iR k)=vs.any DS:=by
 ext UJ
 induction r with
 | nil=>rfl
 | cons h t ih=>rw[Yx,Yx,ih,h.1]
theorem KV.repl {kvs:eP}{vs:vC} (r:ki) (k:κ) {y:V}{u:Value} (ry:gg) :
    KV (kvs.map zoe) (vs.map fun kv=>(Kf,iR=k,(iR,u))):=by
  unfold KV at r ⊢
  induction r with
  | nil=>ext ig
  | @cons p q ps qs h t ih =>
    rw[Zp,Zp];ext zfC;ext zdF;ext BS
    . ext zqQ; ext aO h1 ry
    . rw[az e,az (aj,e (h1.trans z))]; ext aO h1 h2
theorem KV.put {kvs:eP}{vs:vC} (r:ki) (k:κ) {y:V}{u:Value} (ry:gg):KV zdQ (stored vs k u):=by
 unfold putK stored;rw[r.any k];by_cases e:(vs.any DS)=true
 .rw [Gp,Gp]; exact r.repl k ry
 .rw [az e,az e]; exact Paired.snoc r (bY ry)
theorem KV.drop {kvs:eP}{vs:vC} (r:ki) (k:κ):KV BZ (without vs k):=by
 unfold KV at r ⊢;unfold xcr without
 induction r with
 | nil=>ext ig
 | @cons p q ps qs h t ih =>
  ext zdF;rw[QL,QL];ext BS
  .have a:¬ (BO (aJ≠k)):=b6 e
   have b:¬ (BO (q.1≠k)):=(b6,h1.symm.trans e)
   show(cD,if_neg a,az b,ih)
  .ext VJ;have a:BO (aJ≠k):=b6 e
   have b:BO (q.1≠k):=b6 e'
   rw[if_pos a,aN b]; show(si,⟨h1,h2⟩,ih)
theorem KV.keys {kvs:eP}{vs:vC} (r:ki):kvs.map (·.1)=vs.map (·.1):=by
 ext UJ
 induction r with
 | nil=>rfl
 | cons h t ih=>rw[Zp,Zp,ih,h.1]
theorem KV.length {kvs:eP}{vs:vC} (r:ki):kvs.length=vs.length:=YD r
theorem xk3 (kvs:eP) (k:κ):C0 BZ kvs.length:=rP
#check _
theorem xdf {P:Program}{w:World}{k:Key}{u:Value} (r:zdg):(uf).is k u=true:=by
 cases k with
 | inl i=>ext zeC Ac; ext cW; exact xmf P w i t
 | inr x=>show(zeC,QF x t); ext cW; exact xmb P w x t
theorem xjx {P:Program}{w:World}:∀{ks:eD}{us:aY},Vals (ks.map kV) us->ItemsAre uf ks us
 | [],_,r=>by show(bG,List.map_nil,r,r); ext ig
 | k::ks,_,r=>by
  rw[Zp] at r;cases r with
  | cons h t=>exact .cons (xdf h) (xjx t)
noncomputable abbrev KT (H:Hp):bE dC qZ:=Paired fun p q=>(bM,aJ,q.1,aT (bc q) (.tup ((aJ).map kV)),RelV bO (b8 q))
theorem KT.val {H:Hp}{kvs:dC}{xs:qZ} (r:EM) (k:eD):RelO pW ((SN).map (·.2)):=by
 induction r with
 | nil=>exact Js
 | @cons p q ps qs h t ih =>
  obtain⟨h1,_,h2⟩:43:=h;ext BS
  .show(zhZ,atKey rZ k,zrd)
  .ext VJ;have b:atKey rZ k=atKey qs k:=zrd
   ext cD Ar b ih
theorem KT.repl {H:Hp}{kvs:dC}{xs:qZ} (r:EM) (k:eD) {y:V}{u:Value} (ry:gg) :
    KT H (Rg (Kf,iR=k,(iR,y))) (xs.map (putAt k u)):=by
  induction r with
  | nil=>ext ig
  | @cons p q ps qs h t ih =>
    rw[Zp,Zp];ext zfC;ext jb h1 h2 h3 h;unfold putAt;ext BS
    . ext zqQ; ext aE h1 h2 ry
    . rw[az e,az (aj,e (h1.trans z))]; ext aE h1 h2 h3
theorem KT.put {H:Hp}{kvs:dC}{xs:qZ} (r:EM) (k:eD) {b:Addr}{y:V}{u:Value} (hb:Gf) (ry:gg) :
    KT H zdQ (storedH xs k b u):=by
  have e:(kvs.any DS)=(SN).isSome:=by
    rw[xdn,(r.val k).isSome_eq,Yq]
  unfold putK storedH;rw[e];by_cases q:fL SN
  . rw[aN q,aN q]; exact r.repl k ry
  . rw[az q,az q]; exact Paired.snoc r (GC hb ry)
theorem KT.keeps {H H':Hp}{kvs:dC}{xs:qZ} (r:EM) (ht:∀ b ys,(j8 b ys)->(vt b ys)):KT H' kvs xs :=
 Paired.mapP r (mQ zlx)
section
variable {P:Program}{w:World}{H:Hp}{h:Heap}{a:Addr}
theorem xso {u:HO} (ok:mD) (e:Rd H a u):xbc P w H h a u:=e.ok ok
theorem xeu {kvs:bD} (ok:mD) (e:O4):Vk :=
 show xbc P w H h a L4 from xso ok e
theorem xg9 {kvs:bD} (ok:mD) (e:CN):Vk:=xeu ok (.inl e)
theorem xdl {ks:eD} (ok:mD) (e:aT a (.tup (ks.map kV))):(zag).is h ks a:=by
 obtain⟨_,its,r,o,h1,h2,n,h3⟩:=(show xbc P w H h a (.tup (ks.map kV)) from ok a _ e)
 exact⟨104,o,its.toArray,n,h1,h2,h3,(BD,xjx r)⟩
theorem xfr {kvs:dC} (ok:mD) (e:zbx):D8/\Gr /\
    zlr:=by
  obtain⟨z,y,⟨xs,r,o,es,ep,h1,h2,h3,h4,h5⟩⟩:43:=(show xbc P w H h a (.dT kvs) from xso ok e)
  refine⟨z,y,xs,r,⟨106,o,es,ep,h1,h2,h3,h4,rh,h5⟩⟩;have all:∀{l:dC}{m:qZ},KT H l m->∀ x∈m,(zag).is h bn cM:=by
    intro l m q
    induction q with
    | nil=>intro x hx; exact nomatch hx
    | @cons p q ps qs hq t ih =>
      intro x hx;rcases zm with e|hx
      . ext cW
        exact xdl ok (cY,hq.1,bc hq)
      . exact ih x hx
  exact all r x hx
theorem xkn {kvs:dC} (ok:mD) (e:Gg):D8/\Gr /\
    zlr:=xfr ok (.inl e)
#check _
noncomputable def DGet (H:Hp) (a:Addr) (y:V) (r:cc):Prop :=
 (∃ kvs k,O4/\T9/\r=pW)\/∃ kvs k b,(aR,zbx,Fv,Gf,r=pW)
noncomputable def DPut (H:Hp) (a:Addr) (y v:V) (H':Hp):Prop :=
 (∃ kvs k,(aR,CN,T9,HV,H'=(fS H a yD))) \/
 ∃ kvs k b,(ay,Gg,Fv,Gf,HV,H'=(jn H a yD))
theorem DGet.k {H:Hp}{a:Addr}{kvs:bD}{k:Key} (e:CN):DGet H a (kV k) pW:=.inl (kL,kvs,k,.inl e,rfl)
theorem DGet.t {H:Hp}{a b:Addr}{kvs:dC}{k:eD} (e:Gg) (eb:Gf):DGet H a uy pW:=.inr ⟨104,kvs,k,b,.inl e,rfl,eb,rfl⟩
theorem DPut.k {H:Hp}{a:Addr}{kvs:bD}{k:Key}{v:V} (e:CN) (hl:HV):DPut H a (kV k) v (fS H a yD):=.inl ⟨84,kvs,k,e,rfl,hl,rfl⟩
theorem DPut.t {H:Hp}{a b:Addr}{kvs:dC}{k:eD}{v:V} (e:Gg) (eb:Gf) (hl:HV) :
    DPut H a uy v (jn H a yD):=.inr ⟨105,kvs,k,b,e,rfl,eb,hl,rfl⟩
section
variable {X:Cx}{pins:List (Addr × Obj)}{Z:St}{H:Hp}{s:Shared}{a:Addr}{y v:V}{u r:Value}{o:Option V}{A:Around}{E:Value->Shared->Prop}
theorem Inv.big (I:ax):pI sysModules:=by
 have h:mainGlobals<s.heap.objs.size:=(I.mod.glob.keeps I.bk).lt;exact ZQ au h
theorem xjt {Q:bA} (hu:AN) (I:ax) (g:DGet H a y ut) (ry:gg) (h:(Hi,Cw,RelV v w')) :
    wpAny aS A (getItem (.ref a) u) Q E s:=by
  rcases g with⟨kvs,k,e,ey,l⟩|⟨kvs,k,b,e,ey,eb,l⟩
  . subst ey
    obtain⟨z,hd,⟨vs,rel,dd⟩⟩:43:=yN;ext zjf zoa;exact wpAny_getItem_of Ab dd.mapOf hw (h w' _ iI rw')
  . ext KO;obtain⟨z,hd,⟨xs,rel,dd⟩⟩:43:=BJ;obtain⟨w',hw,rw'⟩:62:=RelO.some_of (v:=v) (o:=(SN).map (·.2)) zoa;show(ag,p,hp,hp2,Ze.mp hw);refine wpAny_getItem_heap (Y7 hu) BA dd hp ?_;show(aD,hp2,h w' _ iI rw')
theorem d_in {Q:bA} (hu:AN) (I:ax) (g:IG) (ry:gg) (h:∀ s',Cw->Q (.bool o.isSome) s') :
    wpAny aS A (compareOp .In u bq) Q E s:=by
  rcases g with⟨kvs,k,e,ey,l⟩|⟨kvs,k,b,e,ey,eb,l⟩
  . subst ey
    obtain⟨z,hd,⟨vs,rel,dd⟩⟩:43:=yN;refine wpAny_in_of Ab hd dd.mapOf ?_;rw[<- R3,<- l];exact h _ iI
  . ext KO;obtain⟨z,hd,⟨xs,rel,dd⟩⟩:43:=BJ;refine wpAny_in_heap (Y7 hu) BA hd dd ?_;ext zkB
theorem xs2 {Q:bA} (hu:AN) (I:ax) (g:IG) (ry:gg) (h:∀ s',Cw->Q (.bool (! o.isSome)) s') :
    wpAny aS A (compareOp .NotIn u bq) Q E s:=by
  rcases g with⟨kvs,k,e,ey,l⟩|⟨kvs,k,b,e,ey,eb,l⟩
  . subst ey
    obtain⟨z,hd,⟨vs,rel,dd⟩⟩:43:=yN;ext zqZ hd;rw[<- R3,<- l];exact h _ iI
  . ext KO;obtain⟨z,hd,⟨xs,rel,dd⟩⟩:43:=BJ;refine wpAny_notIn_heap (Y7 hu) BA hd dd ?_;ext zkB
theorem xeb {h':Heap}{t':Nat}{ob:HO} (I:ax) (mu:Mut (H a)) (hs:Jt a s.heap h') (he:∃ q,IA q) (new:xbc X.prog X.w (eO a ob) h' a ob) :
    cT (eO a ob) Cm :=
  I.write (x:=a) (e:=a) mu fO (fun b q hb z=>(hs.2 b hb).trans z) he new
theorem xig {P:Program}{w:World}{H':Hp}{h':Heap}{kvs:bD}{vs:PU} (z:D8) (hd:Gr) (rel:ki) (dd:h'.DictOf uf a vs) :
    xbc P w H' h' a L4:=⟨z,hd,vs,rel,dd⟩
theorem xjr {H':Hp}{Q:y0} (hu:AN) (I:ax) (g:DPut H a y v H') (ry:gg) (rv:RelV v r) (h:Re vU) :
    wpAny aS A (setItem bq u r) Q E s:=by
  rcases g with⟨kvs,k,e,ey,l,eH⟩|⟨kvs,k,b,e,ey,eb,l,eH⟩
  . subst ey eH
    obtain⟨z,hd,⟨vs,rel,dd⟩⟩:43:=zfd;show(zgD,wpAny_setItem_pairs (hsz:=hz) Ab dd N8);show(UO,hl,rel.put k rv)
  . subst ey eH
    ext X3;obtain⟨z,hd,⟨xs,rel,dd⟩⟩:43:=zfc;show(zhx,wpAny_setItem_heap (hsz:=hz) (Y7 hu) BA dd N8);obtain⟨q,es,ep,hq,h2,h3,h4,_,h5⟩:106:=dd';refine xeb I zb hs SY ⟨hl,hd,_,(rel.put k eb rv).keeps (aI c ys ec),⟨105,q,es,ep,hq,h2,h3,h4,h5⟩⟩;show(ip,xdd ec e dw,ec)
#check _
section
variable {X:Cx}{pins:List (Addr × Obj)}{Z:St}{H:Hp}{s:Shared}{a:Addr}{kvs:List (Key × V)}{k:Key}{u:Value}{A:Around}{E:Value->Shared->Prop}
theorem xxm {v:V}{more:aY}{Q:bA} (I:ax) (e:CN) (ry:zdg) (l:K6) (hm:more=[]\/∃ x,more=[x])
    (h:(Hi,cT (fS H a BZ) s',RelV v w')):wpAny aS A (vG "dict.pop" (bq::u::more)) Q E s:=by
  obtain⟨z,hd,⟨vs,rel,dd⟩⟩:43:=zfd;show(zjf,(by rw[<- l]; exact rel.val k));have hp:fL (keyPart u):=by
    cases k with
    | inl i=>show(hX,t,RH Ac ry); subst q; rfl
    | inr x=>show(hX,t,(RH,QF x t,ry)); subst q; rfl
  have ha:argsOk "dict.pop" (jT,bq::u::more):=by
    rcases hm with q|⟨x,q⟩
    . subst q; exact PySem.F.args_dict_pop_2 _ _
    . subst q; exact PySem.F.args_dict_pop_3 _ _ _
  refine Qc Qn dd.typeIs PySem.F.entry_dict_pop ha (meets_dict_pop_there pG a Ab more hm hp)
    ⟨84,vs,w',dd,cY rel.length z,hw,fun h' dd' hs=>h w' _ ?_ rw'⟩
  show(UO,ZK (xk3 kvs k) z,rel.drop k)
theorem xx4 {Q:bA} (I:ax) (e:O4) (h:∀ t s',Cw->Q (.int kvs.length t) s'):wpAny aS A (vG "len" j0) Q E s:=by
 obtain⟨z,hd,⟨vs,rel,dd⟩⟩:43:=yN;refine call_len_dict hd dd (by rw[<- rel.length]; rw[QZ] at z; omega) ?_;show(jp,rel.length,h _ _ iI)
#check _
noncomputable def NoSl (i:Expr):Prop:=∀ ov iv,subscripted i false ov iv=operate [ov,iv] (getItem ov iv)
theorem xtx {prog:Program}{w:World}{A:Around}{E:bA}{s:Shared}{env:Env}{value slice:Expr}{pos:Pos}{T id:String}{Q:bA}
    (hl:zhN) (hs:NoSl slice)
    (h:wpAny bz A (eval value env) (fun o s₁=>wpAny bz A (eval slice env) (dH,s₂,s₂.TypeIs o T/\wpAny bz A (getItem o i) Q E s₂) E s₁) E s) :
    wpAny bz A (eval (.Subscript value slice pos) env) Q E s:=by
  refine Subscript_ (Ji h (fun o s₁ h₁=>Ji h₁ (aI i s₂ h₂) fun _ _ x=>x) fun _ _ x=>x);obtain⟨hT,h₂⟩:=h₂;unfold subscriptTail;ext F2;rw[getitemInPython_of_ne hT.not_modules];show(cJ,wpAny_specialOf hT hl ?_);have fin:wpAny bz A (subscripted slice false o i) (fun r s₃=>wpAny bz A (letTemporaryGo value o r>>=fun _=>pure r) Q E s₃) E s₂:=by
    rw[hs o i];exact wpAny_operating (Ji h₂ (fun r s₃ h₃=>Zg (wpAny_letTemporaryGo (Zo h₃))) fun _ _ x=>x)
  first
    | exact Zo (Zg fin)
    | exact Zg (Zo (Zg fin))
    | exact Zg fin
theorem xma {X:Cx}{pins:bp}{Z:St}{H:Hp}{s:Shared}{a:Addr}{y:V}{o:cc} (I:ax) (g:IG):yE a "dict":=by
 rcases g with⟨kvs,k,e,_,_⟩|⟨kvs,k,b,e,_,_,_⟩
 .ext zmi vs yN
 .ext zmi xs BJ
inductive xs6 (x y:V) (H2:Hp) (Q:VK):Prop
 | mk (a v) (e_:lC) (r_:(LJ ut)/\Q v H2)
noncomputable def xxy (td ty:TE):TE:=(kC,td Z H fun x H1=>(zcm,xs6 x y H2 Q))
inductive xwe (x y:V) (H2:Hp) (Q:VK):Prop
 | mk (a o) (e_:lC) (r_:(LJ o)/\Q (.bl o.isSome) H2)
noncomputable def tDIn (ty td:TE):TE:=zal (zcg,xwe x y H2 Q)
inductive xpi (x y:V) (H2:Hp) (Q:VK):Prop
 | mk (a o) (e_:lC) (r_:(LJ o)/\Q (.bl (! o.isSome)) H2)
noncomputable def xsx (ty td:TE):TE:=zal (zcg,xpi x y H2 Q)
noncomputable def xyn (td ty tv:TE):TS:=(mO,tv Z H fun v H1=>(zcg,ty Z H2 fun y H3=>∃ a H4,lC/\DPut H3 a y v H4/\D.nx Z H4))
noncomputable def xyg (td ty tv:TE) (rd:Ky):TS:=fun D Z H=>td Z H fun x H1=>ty Z H1 fun y H2=>∃ a v,lC/\(LJ ut) /\
 tv Z H2 fun y2 H3=>rd v y2 H3 fun z H4=>∃ H5,DPut H4 a y z H5/\D.nx Z H5
section
variable {X:Cx}{o i e value:Expr}{pos pos' tpos:Pos}{td ty tv:TE}
theorem xbm (hu:xW) (ho:v0) (hi:Fc) (hs:NoSl i):PE X (.Subscript o i pos) (xxy td ty):=by
 intro pins s Z H Q I h;refine xtx PySem.F.slot_dict_getitem.lookup hs (thn (ho pins s Z H _ I h) fun u s1 ⟨x,H1,I1,rx,q1⟩=>thn (hi pins s1 Z H1 _ I1 q1) fun iv s2 ⟨y,H2,I2,ry,a,v,ex,g,q2⟩=>?_);ext qT;show(aO,xma I2 g,xjt hu I2 g ry (Ri,aZ v H2 I3 rw' q2))
theorem xel (hu:xW) (hi:Fc) (ho:v0):PC X .In i o (tDIn ty td):=by
 intro pins s Z H Q I h;show(jX,hi pins s Z H _ I h,fun iv s1 ⟨y,H1,I1,ry,q1⟩=>thn (ho pins s1 Z H1 _ I1 q1) fun u s2 ⟨x,H2,I2,rx,a,ov,ex,g,q2⟩=>?_);ext qT;exact d_in hu I2 g ry fun s3 I3=>(kL,.bl ov.isSome,H2,I3,q2)
theorem xds (hu:xW) (hi:Fc) (ho:v0):PC X .NotIn i o (xsx ty td):=by
 intro pins s Z H Q I h;show(jX,hi pins s Z H _ I h,fun iv s1 ⟨y,H1,I1,ry,q1⟩=>thn (ho pins s1 Z H1 _ I1 q1) fun u s2 ⟨x,H2,I2,rx,a,ov,ex,g,q2⟩=>?_);ext qT;exact xs2 hu I2 g ry fun s3 I3=>(kL,.bl (! ov.isSome),H2,I3,q2)
theorem xcs (hu:xW) (ho:v0) (hi:Fc) (hv:zdi) (hs:M8 value (some zsd)) :
    PK zsd value (xyn td ty tv):=by
  intro pins s Z H D I h;refine wpAny_Assign_Subscript (thn (hv pins s Z H _ I h) fun r s1 ⟨v,H1,I1,rv,q1⟩=>thn (ho pins s1 Z H1 _ I1 q1) fun u s2 ⟨x,H2,I2,rx,q2⟩=>thn (hi pins s2 Z H2 _ I2 q2) fun iv s3 ⟨y,H3,I3,ry,a,H4,ex,g,q3⟩=>?_) hs;ext qT;exact xjr hu I3 g ry rv fun s4 I4=>bQ Z H4 I4 q3
theorem xm4 {op:Operator}{rd:Ky} (hu:xW) (ho:v0) (hi:Fc) (hv:zdi) (hop:InOp X op rd)
    (ha:∀ ov iv new,augStore i ov iv new=(do holding [new,ov,iv] (setItem ov iv new); release [new,ov,iv] []; pure .next)):PS X (.AugAssign (.Subscript o i tpos) op value pos) (xyg td ty tv rd):=by
  intro pins s Z H D I h;refine wpAny_AugAssign_SubscriptAny (thn (ho pins s Z H _ I h) fun u s1 ⟨x,H1,I1,rx,q1⟩=>thn (hi pins s1 Z H1 _ I1 q1) fun iv s2 ⟨y,H2,I2,ry,a,v,ex,g,q2⟩=>?_) ha;ext qT;refine xjt hu I2 g ry (Ri,thn (hv pins s3 Z H2 _ I3 q2) fun w2 s4 ⟨y2,H3,I4,ry2,q3⟩=>thn (hop pins s4 Z H3 v y2 w' w2 _ I4 rw' ry2 q3) fun w3 s5 ⟨z,H4,I5,rz,H5,g5,q4⟩=>?_);exact xjr hu I5 g5 ry rz fun s6 I6=>bQ Z H5 I6 q4
#check _
theorem xh8 {P:Program}{w:World}{H:Hp} (h:Heap) (hb:zpA):xbc P w H zmo h.objs.size Go :=
 (zik,Heap.DictOf.new h)
theorem xk9 {P:Program}{w:World}{H:Hp} (h:Heap) (hb:zpA):xbc P w H zmo h.objs.size (.dT []) :=
 zik ⟨105,_,#[],0,gq,RO,rfl,rfl,Yf⟩
noncomputable def xv2:TE:=(FC,Bj (fS H p []))
noncomputable def xwc:TE:=(FC,Bj (jn H p []))
section
variable {X:Cx}{pos:Pos}
theorem xe8:PE X (.Dict [] [] pos) xv2:=fun pins s Z H Q I h =>
 zgs Go (xh8 s.heap I.big)
theorem xfb:PE X (.Dict [] [] pos) xwc:=fun pins s Z H Q I h =>
 (zgs,.dT [],xk9 s.heap I.big)
#check _
noncomputable def xlg:Kt->St->(bE Hp (nG LD))
 | [],_,H,Q=>Q [] H
 | (tk,tv)::r,Z,H,Q=>tk Z H fun x H1=>tv Z H1 fun y H2=>xlg r Z H2 fun ps H3=>Q ((x,y)::ps) H3
noncomputable abbrev VV:bE LD (fQ Value Value):=Paired fun p q=>RelV aJ q.1/\RelV bO q.2
noncomputable def PPs (X:Cx) (pos:Pos) (keys:zav) (values:kg) (trs:Kt):Prop :=
 ∀(pins:List (Addr × Obj)) (s:Shared) (Z:St) (H:Hp) (Q:nG LD),ax->xlg trs Z H Q ->
  wpAny aS X.A (evalPairs (pairTrees keys values X.env pos)) (nH,vs,∃ ps H',vU/\VV ps vs/\Q ps H') X.xe s
theorem xu0 {X:Cx}{pos:Pos}:PPs X pos [] [] []:=fun pins s Z H Q I h=>pairTrees_nil_walk (zO [] .nil)
theorem xln {X:Cx}{pos:Pos}{k v:Expr}{ks:zav}{vs:kg}{tk tv:TE}{trs:Kt} (hk:PE X k tk) (hv:PE X v tv) (hr:PPs X pos ks vs trs) :
    PPs X pos (some k::ks) (v::vs) ((tk,tv)::trs):=fun pins s Z H Q I h =>
  pairTrees_cons_walk (thn (hk pins s Z H _ I h) fun u s1 ⟨x,H1,I1,rx,q1⟩=>thn (hv pins s1 Z H1 _ I1 q1) fun w2 s2 ⟨y,H2,I2,ry,q2⟩ =>
    thn (hr pins s2 Z H2 _ I2 q2) fun ws s3 ⟨ps,H3,I3,rel,q3⟩=>(aZ,(x,y)::ps,H3,I3,.cons ⟨rx,ry⟩ rel,q3))
noncomputable def xfa (kvs more:bD):bD:=more.foldl (fun acc kv=>putK acc iR kv.2) kvs
theorem KV.merge:∀{more:bD}{rs:PU}{kvs:bD}{vs:PU},KV more rs->ki->KV (xfa kvs more) (merged vs rs):=by
 intro more rs kvs vs r;ext UJ
 induction r generalizing kvs vs with
 | nil=>intro q; exact q
 | @cons p q ps qs h t ih =>
  intro r0;have e:KV zcA (stored vs q.1 q.2):=by
   have:=r0.put aJ h.2;show(jp,h.1,this)
  exact ih e
theorem xgg:∀(more kvs:bD),(C0,xfa kvs more,kvs.length+more.length)
 | [],kvs=>(EU,kvs.length,kvs.length+0)
 | oS,kvs=>by
  show(ah,h1,xgg r zcA,h2,xbs kvs aJ bO);show (xfa zcA r).length<=_;rw[Z6]; omega
theorem xil {P:Program}{w:World}:∀{kvs:bD}{ws:fQ Value Value},VV (kvs.map fun kv=>(KQ,kv.2)) ws->∃ rs,Carries uf ws rs/\KV kvs rs
 | [],_,r=>by show(bG,List.map_nil,r,r); show(aE,[],Js,.nil)
 | p::kvs,_,r=>by
  rw[Zp] at r;cases r with
  | @cons a b as bs h t =>
   show(ag,rs,c,q,xil (P:=P) (w:=w) t);obtain⟨b1,b2⟩:=b;show(aE,(aJ,b2)::rs,(eV,xdf h.1,c),.cons (bY h.2) q)
noncomputable def xyp (trs:Kt):TE:=(kC,∀ p,rS->xlg trs Z (fS H p []) fun ps H2=>(zfb p [])/\∃ kvs:bD,ps=kvs.map (fun kv=>(KQ,kv.2))/\kvs.length<=15/\(kK p (fS H2 p (xfa [] kvs))))
theorem xta {X:Cx}{pos:Pos}{keys:zav}{values:kg}{trs:Kt} (h:PPs X pos keys values trs) (hall:keys.all (·.isSome)=true) (hl:keys.length=values.length) (h0:keys≠[])
    (h15:keys.length<=15):PE X (.Dict keys values pos) (xyp trs):=by
  intro pins s Z H Q I q;show(ah,hn,I.hok.fresh (Zl s.heap.objs.size),I1,I.laid (a:=s.heap.objs.size) (o:=Go) (h':=VL) (t':=s.toks) zdx bv (xh8 s.heap I.big));refine wpAny_Dict_walk (knd:=pG) hall hl h0 h15 (thn (h pins _ Z _ _ I1 (q _ hn)) fun ws s2 ⟨ps,H2,I2,rel,e,kvs,ep,lk,q2⟩=>?_);subst ep;show(ag,rs,c,rk,xil (P:=X.prog) (w:=X.w) rel);obtain⟨z,hd,⟨vs0,r0,dd⟩⟩:43:=xg9 I2.hok e;cases r0;refine(bL,rs,c,dd,fun h' dd' hs=>ug uX ?_ q2);have hz:(cZ,(xfa [] kvs).length):=by
    show(ie,h1,xgg kvs [],List.length_nil);rw[QZ]; omega
  show(kO,he,∃ q,zot q,let ⟨q,_,_,hq,_⟩:=dd'; SY,xeb I2 zb hs he (xig hz hd (rk.merge .nil) dd'))
structure M1 (X:Cx) (o:Expr) (m:Str) (apos:Pos) (e:Expr) (cpos:Pos):Prop where
 base:GK m
 few:((CG [e]).all (fun x=>! bn)&&(Nx cpos).all (fun x=>(bn).isSome)
  && (UU ([e]:kg)))=true
 line:GL
 trees:(CG [e])=[jA vK]
structure M2 (X:Cx) (o:Expr) (m:Str) (apos:Pos) (e f:Expr) (cpos:Pos):Prop where
 base:GK m
 few:((CG [e,f]).all (fun x=>! bn)&&(Nx cpos).all (fun x=>(bn).isSome)
  && (UU ([e,f]:kg)))=true
 line:GL
 trees:(CG [e,f])=[jA vK,(jA,lD f)]
noncomputable def IsD (H:Hp) (a:Addr):Prop:=(∃ kvs,O4)\/∃ kvs,zbx
theorem xix {X:Cx}{pins:bp}{Z:St}{H:Hp}{s:Shared}{a:Addr} (I:ax) (d:IsD H a) :
    (yE a "dict")/\(gY,(cQ,Zs a,b),∃ ob,(ae,s.heap.get? b,ob)/\ob.dict=none)/\Gr:=by
  rcases d with⟨kvs,e⟩|⟨kvs,e⟩
  . ext zfU vs yN
  . ext zfU xs BJ
section
variable {X:Cx}{pins:List (Addr × Obj)}{Z:St}{H:Hp}{s:Shared}{a:Addr}{y d:V}{u r:Value}{o:Option V}{A:Around}{E:Value->Shared->Prop}
theorem xwh {Q:bA} (hu:AN) (I:ax) (g:IG) (ry:gg) (h:(Hi,Cw,RelV (o.getD .non) w')) :
    wpAny aS A (vG "dict.get" [bq,u]) Q E s:=by
  rcases g with⟨kvs,k,e,ey,l⟩|⟨kvs,k,b,e,ey,eb,l⟩
  . subst ey
    obtain⟨z,hd,⟨vs,rel,dd⟩⟩:43:=yN;refine Qc Yi dd.typeIs Qh zmP (meets_dict_get pG a Ab hd) znI;rw[l];exact (Lh).getD rfl
  . ext KO;obtain⟨z,hd,⟨xs,rel,dd⟩⟩:43:=BJ;refine Qc Yi dd.typeIs Qh zmP (meetsH_dict_get NJ a b hd) zjb;rw[l];exact (Lh).getD rfl
theorem xvr {Q:bA} (hu:AN) (I:ax) (g:IG) (ry:gg) (rd:RelV d r) (h:(Hi,Cw,RelV (o.getD d) w')) :
    wpAny aS A (vG "dict.get" [bq,u,r]) Q E s:=by
  rcases g with⟨kvs,k,e,ey,l⟩|⟨kvs,k,b,e,ey,eb,l⟩
  . subst ey
    obtain⟨z,hd,⟨vs,rel,dd⟩⟩:43:=yN;refine Qc Yi dd.typeIs Qh zlZ (meets_dict_get_default pG a Ab hd r) znI;rw[l];exact (Lh).getD rd
  . ext KO;obtain⟨z,hd,⟨xs,rel,dd⟩⟩:43:=BJ;refine Qc Yi dd.typeIs Qh zlZ (meetsH_dict_get_default NJ a b hd r) zjb;rw[l];exact (Lh).getD rd
#check _
noncomputable def xwx (td ty:TE):TE:=(MT,∃ o,(LJ o)/\Q (o.getD .non) H2)
noncomputable def xvh (td ty tx:TE):TE:=(MT,tx Z H2 fun z H3=>∃ o,DGet H3 a y o/\Q (o.getD z) H3)
noncomputable def xvw (td ty:TE):TE:=(MT,∃ kvs k v,(aR,zfb a kvs,T9,K6,Q v (fS H2 a BZ)))
section
variable {X:Cx}{o e f:Expr}{apos cpos:Pos}{td ty tx:TE}
theorem xqv (hu:xW) (ho:v0) (he:To) (m:M1 X o "get" apos e cpos):PE X (AA "get" [e]) (xwx td ty):=by
 intro pins s Z H Q I h;refine Q9 m.base m.few m.line JW Yi PySem.F.type_dict_get (thn (ho pins s Z H _ I h) fun u s1 ⟨x,H1,I1,rx,a,ex,d,q1⟩=>?_);ext qT;show(BW,t1,t2,xix I1 d);ext fX t1 t2;rw[m.trees];refine JL rfl (YL (Yh (thn (he pins s1 Z H1 _ I1 q1) fun iv s2 ⟨y,H2,I2,ry,ov,g,q2⟩=>YH ?_)));exact xwh hu I2 g ry (Ri,aZ _ H2 I3 rw' q2)
theorem xlc (hu:xW) (ho:v0) (he:To) (hf:PE X f tx) (m:M2 X o "get" apos e f cpos):PE X (AA "get" [e,f]) (xvh td ty tx):=by
 intro pins s Z H Q I h;refine Q9 m.base m.few m.line JW Yi PySem.F.type_dict_get (thn (ho pins s Z H _ I h) fun u s1 ⟨x,H1,I1,rx,a,ex,d,q1⟩=>?_);ext qT;show(BW,t1,t2,xix I1 d);ext fX t1 t2;rw[m.trees];refine JL rfl (YL (Yh (thn (he pins s1 Z H1 _ I1 q1) fun iv s2 ⟨y,H2,I2,ry,q2⟩ =>
  Yh (thn (hf pins s2 Z H2 _ I2 q2) fun fv s3 ⟨z,H3,I3,rz,ov,g,q3⟩=>YH ?_))))
 exact xvr hu I3 g ry rz fun w' s4 I4 rw'=>aZ _ H3 I4 rw' q3
theorem xq2 (ho:v0) (he:To) (m:M1 X o "pop" apos e cpos):PE X (AA "pop" [e]) (xvw td ty):=by
 intro pins s Z H Q I h;show(zgi,Q9 m.base m.few m.line JW Qn PySem.F.type_dict_pop (thn (ho pins s Z H _ I h) fun u s1 ⟨x,H1,I1,rx,a,ex,d,q1⟩=>?_),he pins s1 Z H1 _ I1 q1,fun iv s2 ⟨y,H2,I2,ry,kvs,k,v,ea,ey,l,q2⟩=>YH ?_);exact xxm I2 ea ry l fO zoB
#check _
#check L2
namespace Att
open PySem PySem.W PySem.Calls PyProof.Rows
theorem xi2 {P:Params}{h:Heap}:∀(ns:dD) (vs:aY),WellAll P h vs (ns.map WData.int)->Iv:=by
 intro ns
 induction ns with
 | nil =>
  intro vs w;show(bG,List.map_nil,w,w);ext ig
 | cons n ns ih =>
  intro vs w;rw[Zp] at w;cases w with
  | cons a b =>
   cases a;exact .cons _ _ (ih _ b)
theorem xoq {l:OpenLaw}{n:Nat} (hn:zdj) {P:Params}{h:Heap}{args:List WData}{vals:aY}
    (hpre:l.row.toRowW.claim.pre args=true) (hwl:WellAll P h vals args) :
    ∃ a vs ns,(ay,vals=[Zs a],args=[WData.list (ns.map WData.int)],kY NB,Iv,zed):=by
  have hsh:WShape.hasAll [] args [.list .int]=true:=(pre_splitW hpre).1;have hc:l.pre.holds [] { args:=args }=true:=(pre_splitW hpre).2;obtain⟨d,r,rfl,h1,h2⟩:83:=hasAllW_cons hsh;show(qG,hasAllW_nil h2);show(ag,xs,rfl,h3,hasW_list h1);show(d6,ns,items_int h3);have hlen:ns.length<=n:=by
    unfold OpenLaw.pre at hc;have h4:(WTm.not (.lt (.lit (.int iM)) (.len (.arg 0)))).holds [] { args:=[.list (ns.map .int)] }=true:=by
      have h4:=(holds_andW hc).1;ext bV hn h4 h4
    have h5:=condW_of h4 (w_not (w_lt w_lit (w_len_list (w_arg rfl))));rw[Za] at h5;refine QK (cH q);have q':iM<(gP ns.length):=aa
    first
      | (rw[yG q'] at h5; ext bZ h5 au)
      | (simp at h5; omega)
  cases hwl with
  | cons w1 w2 =>
    cases w2;cases w1 with
    | list ho hall=>exact⟨105,_,_,ns,rfl,rfl,ho,xi2 ns _ hall,hlen⟩
theorem xp3 (l:OpenLaw) (args:List WData):l.row.toRowW.claim.post args Kw args=true :=
 postW_of (r:=l.row.toRowW) (X:=(true == true))
  (show WShape.has [] Kw .bool=true by first|rfl|decide|simp[WShape.has,WShape.arms,WShape.armsAll])
  (show (WTm.eq .res (.lit (.bool true))).value [] { args:=args,res:=some (.bool true),after:=args }=some (.bool (true == true)) from w_eq_bool (w_res rfl) w_lit) rfl
theorem attach_call {l:OpenLaw}{n:Nat}{q:Program}{loose:am}{XP:zdW}{YP:zbW}{d:DefRec}
    (hn:zdj) (hdf:XW)
    (call:∀(w:World) (s₀ s₁:Shared) (mg mb:fH) (fa:Addr) (o:Obj) (pm cd doc:Value) (a:Addr) (vs:aY) (ns:dD),
      Ground q loose [] XP w s₀ mg mb s₁.heap->YP w s₁.heap ->
      (ae,s₁.heap.get? fa,o)->o.data=.func (docDef d.name d.params d.body d.scope pm cd doc)->s₁.heap.CodeRec cd d.name->zcC ->
      znd->Iv->zed->s₁.gens=#[] ->
      (UK (model l.prog w))) :
    WalkO q loose XP YP l.row.toRowW d [] WF:=by
  intro w s₀ s₁ mg mb G Y fa o pm cd doc dV kV ho hd hcd hD hmg hg args vals as hpre hlay hrd hwl hlo;show(ii,dV=.none,Dflts.none hD hdf);show(ii,kV=.none,Dflts.noKw hD);obtain⟨a,vs,ns,rfl,rfl,hobj,hints,hlen⟩:105:=xoq hn hpre hwl;refine enter_call (Q0 (call w s₀ s₁ mg mb fa o pm cd doc a vs ns G Y ho (fd_plain hd) hcd hmg hobj hints hlen hg) (aI r s' hq));show(kq,rfl,h2,h3,h4,hq);exact(bW,.inl ⟨105,Kw,Kw,[],rfl,pV,Kw,xp3 l _,fun _=>⟨Je.nil,fun _ hm=>(nomatch hm)⟩⟩,h2,h3,h4)
section
variable {prog:Program}{w:World}{A:Around}{E:Value->Shared->Prop}{s:Shared}{K:Frag}
noncomputable def xy0 (h:Heap) (L d:Addr):bp:=(zcK).filterMap fun a=>if a=L\/a=d then none else (h.get? a).map fun o=>(a,o)
#check _
#check Att
namespace L2
open PySem PySem.Spec PyProof.Rows
variable {q0:Bool}
theorem xjw:∀{vs:aY}{ns:dD},Iv->Vals (ns.map V.int) vs
 | _,_,.nil=>.nil
 | _,_,.cons n t h=>.cons (lL t) (xjw h)
noncomputable def Only (H:Hp):Prop:=∀ b,dE\/∃ o xs,aT b (.frz o (.lst xs))
theorem xri {P:Program}{w:World}{K:Zd}{mg mb:fH}{CX:CXT}{k:Nat}{fa a:Addr}{fd:FuncData}{x:Str}{sp:Sp}{s₁:Shared}{vs:aY}{ns:dD}
    (KX:K.In s₁.heap) (hns:s₁.heap.Ns mainGlobals mg) (hb:s₁.heap.Ns builtinsNs mb) (hbb:zjh) (hlim:s₁.heap.NoLimit) (hg:s₁.gens=#[])
    (ha:znd) (hi:Iv) (hl:cZ ns.length) (hr:Room q0 k callerA)
    (F:(M5,K.In base,FnOk q0 P w K mg base CX k fa fd [x] sp)) (hbind:Va x)
    (hsp:∀ H:Hp,Only H->RR->sp j0 H zpS HK)
    (hCX:∀ H e s',CX [] H s₁ HK e s'->False) :
    UK y8:=by
  show(ah,rv,xjw hi,lenV,hi.length)
  -- from an abstract heap in which nothing but the script may be tracked
  have core:∀ H:Hp,Only H->RR->HOk P w H s₁.heap->(∀ b,H b≠none->b=a)->(H a≠none->K.lookup a=none) ->
      (UK y8):=by
    intro H hO hS hok hA hK;show(bj,base_of,∀{b:Addr}{o:Obj},zrY dE (ae,(O5).get? b,o),e,n,xrm e n);have noA:∀{b:Addr}{o:Obj}{es:pD}{ep:Nat},zrY kT dE:=fun {b o es ep} e d=>by
      cases q:H b with
      | none=>rfl
      | some u =>
        ext zph;ext bG ha e e;have d':Data.seq vs.toArray _=Data.dict es ep:=d;cases d'
    have nsK:∀{b:Addr}{m:fH},s₁.heap.Ns b m->(O5).Ns b m:=fun {b m} ⟨o,es,ep,e,d,r⟩=>⟨103,o,es,ep,base_of e (noA e d),d,r⟩
    have hKb:K.In (hidT s₁.heap H):=fun b o e=>base_of (KX b o e) (by
      cases q:H b with
      | none=>rfl
      | some u =>
        ext zph;show(cF,hK (lA q),e,e))
    have hM:Mod K mg O5:=⟨hKb,nsK hns,⟨mb,nsK hb,hbb⟩,let ⟨mc,h1,h2⟩:=hlim; ⟨mc,nsK h1,h2⟩⟩
    have e0:Env0 P w K mg O5 callerA [] s₁ H:=⟨rfl,hM,(wZ,xuh e),Nat.le_of_eq (xpv _ _),trivial,(oG,absurd (show zeG from hb) ap),hok,.of_eq hg⟩
    refine Q0 ((F _ hKb (nsK hns)).run callerA [] s₁ H (jT j0) j0 j0 _ _ hr e0 (hbind s₁ bq) (.cons rfl .nil) (hsp H hO hS)) (aI r s' h);cases r with
    | error e=>exact (hCX H e s' h).elim
    | ok fl =>
      cases fl with
      | next=>exact JX h
      | brk=>exact JX h
      | cont=>exact JX h
      | ret u =>
        obtain⟨v,H',os,bare,un,hok',r',q⟩:86:=h;have q':v=.bl true:=q;subst q';show(ii,u=Ye true,r');refine(xJ,OldK.of_keep (gZ b o),os,bare);cases q:H b with
        | none=>exact un.keep b o e q (by intro z; show(bZ,LL zeG,ap)) ap
        | some u =>
          rcases hO b with z|⟨ob,xs,z⟩
          . ext cF q z z
          . have z2:=un.frzs b ob _ z
            obtain⟨e1,_⟩:=hok b _ z;obtain⟨e2,_⟩:=hok' b _ z2;ext uC e e1 e2
  cases hk:K.lookup a with
  | some o =>
    -- the script is one of the module's own objects
    have e:=KX a o hk;ext bG ha e e;refine core fe (fun _=>fO) (.inr ⟨106,_,vs.toArray,_,hk,rfl,rfl,rfl,qi ZA lenV hl,by simpa using rv⟩) (fun b u z=>by have z':ae (none:dG HO) u:=z; cases z') (fun b z=>absurd rfl z) (aj,absurd rfl z)
  | none =>
    refine core (fun b=>(kf,b,a,some (.frz NB (.lst (ns.map V.int))),none)) (cH b) (.inl (.inr ⟨NB,cp⟩)) (aI b u z) (aq b z) fun _=>hk
    . ext CJ a
      . show(eF,(cI,_,aN hb))
      . exact .inl (if_neg hb)
    . ext CJ a
      . have z':=(aN hb).symm.trans z
        cases z';subst hb;show(aE,ha,fV hl,bQ vs _ rv ha)
      . have z':=(az hb).symm.trans z
        cases z'
    . ext CJ a
      . exact hb
      . exact absurd (if_neg hb) z
noncomputable abbrev KOf {K:Zd}{h:Heap} (_:K.In h):Zd:=K
theorem walk_of {l:PySem.W.OpenLaw}{n k:Nat}{q:Program}{loose:am}{XP:zdW}{YP:zbW}{d:DefRec}{K:Params->Zd}{CX:World->CXT}{sp:World->Sp}{x:Str}
    (hn:zdj) (hn2:cZ n) (hdf:XW) (hr:Room q0 k callerA)
    (hY:(zom,(vT).In h))
    (F:∀(w:World) (mg:Str->Option Value) (fa:Addr) (h:Heap),(vT).In h->h.Ns mainGlobals mg->zcC ->
      ∃ fd:FuncData,(Va x) /\
        (M5,(vT).In base,FnOk q0 l.prog w vT mg base (CX w) k fa fd [x] (sp w)))
    (hsp:∀(w:World) (H:Hp) (a:Addr) (ns:dD),(bb,zed,Only H,SqL vT H a IK,sp w j0 H zpS HK))
    (hCX:∀(w:World) (H:Hp) (s:Shared) (e:Value) (s':Shared),CX w [] H s HK e s'->False) :
    PySem.W.WalkO q loose XP YP l.row.toRowW d [] WF:=by
  refine Att.attach_call hn hdf fun w s₀ s₁ mg mb fa o pm cd doc a vs ns G Y ho hd hcd hmg hobj hints hlen hg=>?_;have KX:=hY w _ Y;show(ag,fd,hb,hF,F w mg fa _ KX G.T.g hmg);exact xri KX G.T.g G.T.b G.T.builtins G.T.nolimit hg hobj hints (ZK hlen hn2) hr hF hb (fun H hO hS=>hsp w H a ns hlen hO hS) fun H e s'=>hCX w H s₁ e s'
noncomputable def xak (s:Stmt) (j:Nat):Stmt:=match s with
 | .ClassDef _ _ _ body _ _ _ _ _ _ _=>body.getD j (.Pass zdb)
 | _=>.Pass zdb
noncomputable def xca (s:Stmt):Arguments:=match s with
 | .FunctionDef _ a _ _ _ _ _ _ _ _=>a
 | _=>{ posonlyargs:=[],args:=[],vararg:=none,kwonlyargs:=[],kw_defaults:=[],kwarg:=none,defaults:=[] }
noncomputable def xbv (s:Stmt):B2:=match s with
 | .FunctionDef _ _ b _ _ _ _ _ _ _=>b
 | _=>[]
noncomputable def xm (s:Stmt):Scope:=match s with
 | .FunctionDef _ _ _ _ _ _ sc _ _ _=>sc
 | _=>{ kind:=.function,names:=[],isGenerator:=false,isCoroutine:=false }
noncomputable abbrev CX0:CXT:=fun _ _ _ _ _ _=>False
structure Fun (K:Zd) (x qual:Str) (st:Stmt) (f:Addr) (fd:FuncData):Prop where
 ex:∃(oc:Value) (od:iD) (kV doc pm:Value) (an:iD) (cdv ct:Value) (osl:uZ),
  (bM,fd,Jw x qual qp lN kN .none kV doc pm an cdv ct,Hk fd,Hf)
 kp:mr f
section
variable {P:Program}{w:World}{K:Zd}{mg:Str->Option Value}{base:Heap}
theorem Fun.ok {x qual:Str}{st:Stmt}{f:Addr}{fd:FuncData}{N ps:am}{k:Nat}{sp:Sp} (F:Fun K x qual st f fd) (S:zdJ) (len:GF)
    (hbody:∀(cdv:Value) (A:Around) (outer:List Env) (s:Shared) (H:Hp) (vs:List V) (Q:VK) (E:XK),Room q0 k (A.deeper (envOfC qual (xm st) s.heap.objs.size f cdv))->ER ->
      (MW,(cxOf q0 CX0 P w K mg base N qual kN f cdv A outer s H E).nox,lN)):FnOk q0 P w K mg base CX0 cU f fd ps sp:=by
  obtain⟨oc,od,kV,doc,⟨pm,an,cdv,ct,osl,rfl,lk,hcd⟩⟩:121:=(F.ex)
  show(Vd,fun A outer s H vs Q E hr hsp=>?_,hbody cdv A outer s H vs Q E hr hsp)
theorem Fun.binds {x qual:Str}{st:Stmt}{f:Addr}{fd:FuncData}{ps:am} (F:Fun K x qual st f fd)
    (h:(ziz,zht (Jw x qual qp lN kN .none kV doc pm an cdv ct))):aV fd ps:=by
  obtain⟨oc,od,kV,doc,⟨pm,an,cdv,ct,osl,rfl,lk,hcd⟩⟩:121:=(F.ex)
  exact .all (h kV doc pm an cdv ct)
theorem fun_mk {x qual:Str}{st:Stmt}{f:Addr}{oc:Value}{od an:iD}{osl:uZ}{kV doc pm cdv ct:Value} (l:Hk (Jw x qual qp lN kN .none kV doc pm an cdv ct))
    (c:Hf) (k:mr f):Fun K x qual st f (Jw x qual qp lN kN .none kV doc pm an cdv ct):=zhk
#check _
theorem xau {A:Around}{k:Nat} (hr:BG):AN:=Jz (Nat.add_le_add_left (au:1<=64) _) hr.units
section
variable {X:Cx}
theorem pv (i:Nat) {x:Str}{pos:Pos} (hN:sZ:=by rfl) (hv:OQ:=by first|exact YI rfl|exact Qb (YI rfl)|exact Qb (Qb rfl)) (hd:nQ:=by decide)
    (hcd:zmN:=by decide):PE X sT (tVar i):=xv8 hN hv hd hcd
#check _
theorem iteF {A B:Prop} (h:B):cu false A B:=by
 ext oO ZE h
theorem iteT {A B:Prop} (h:A):cu true A B:=by
 ext aD cp h
theorem ite2 {c A B:Prop} [Decidable c] (h1:c->A) (h2:¬ c->B):if c then A else B:=by
 by_cases h:c
 .rw [aN h];exact h1 h
 .ext d4 h;exact h2 h
noncomputable def Same (H H':Hp):Prop:=rX (aT b o) (ae,H' b,o)
theorem Same.refl (H:Hp):gX H:=fun _ _ h=>h
theorem Same.trans {H H1 H2:Hp} (a:gX H1) (b:kZ):ua:=fun c o h=>b c o (a c o h)
theorem Same.free {H H':Hp} (e:bB) {l:Addr} (h:H' l=Option.none):H l=Option.none:=by
 cases q:H l with
 | none=>rfl
 | some o =>
  show(cF,e l o q,h,h)
theorem Same.seq {K:Zd}{H H':Hp}{a:Addr}{xs:af} (e:bB) (h:qW):SqL K H' a xs:=by
 rcases h with (h|⟨o,h⟩)|h
 .show(KN,e _ _ h)
 .show(E7,⟨o,e _ _ h⟩)
 .ext eF h
#check L2
namespace Srt
open PySem PySem.W PyProof.Rows
noncomputable abbrev CM:=Cb (eQ B1)
noncomputable abbrev g (p:dy) (i:Nat):Nat:=p.getD i 0
structure Ord (n:Nat) (lt:Cb Bool):Prop where
 irr:(CK,lt i i=false)
 tr:∀ i j k,f7->(bg,j<n,k<n,lt i j=true,lt j k=true,lt i k=true)
 tot:∀ i j,(bg,f7,j<n,i≠j,lt i j=false,lt j i=true)
noncomputable def Cmp (n:Nat) (lt:Cb Bool) (cmp:CM) (s:Shared):Prop:=∀ i j,f7->j<n->∀ Q:B1,Q (lt i j) s->cmp i j Q s
theorem xda {α:Type}{cmp:CM}{a:α}{Q:eQ α}{s:Shared} (h:Q a s):pJ (.ret a) Q:=h
theorem xgu {α:Type}{cmp:CM}{i j:Nat}{k:Bool->KasT α}{Q:eQ α}{s:Shared} (h:cmp i j (nH,c,KasT.kasWp cmp (k c) Q s') s):pJ (.ask i j k) Q:=h
theorem xxu {p:dy}{n:Nat}:kas_asc p 0 n=.ret n:=by unfold kas_asc; rfl
theorem xyi {p:dy}{f n:Nat}:kas_asc p (f+1) n=.ask (p.getD n 0) (p.getD (n-1) 0) (me (cu,c,.ret n,kas_asc p f iX)):=eG kas_asc
theorem xxp {p:dy}{k:Nat}:kas_bin 0 p k=.ret p:=by unfold kas_bin; rfl
theorem xyr {f:Nat}{p:dy}{k:Nat}:kas_bin (f+1) p k=(yX k 0 k).bind fun l=>kas_bin f (bubble p k (k-l)) cU:=eG kas_bin
theorem xuw {p:dy}{k l r:Nat}:(yX 0 l r)=.ret l:=by unfold kas_place; rfl
theorem xtb {p:dy}{k f l r:Nat}:(yX (f+1) l r)=if l>=r then .ret l else .ask (p.getD k 0) (p.getD re 0) (me (cu,c,yX f l re,yX f (re+1) r)):=eG kas_place
theorem xvy {p:dy}{k l:Nat}:kas_desc 0 p k l=.ret (p,k,l):=by unfold kas_desc; rfl
theorem xu1 {f:Nat}{p:dy}{k l:Nat}:kas_desc (f+1) p k l=.ask (p.getD k 0) zcE (me (cu,c,if l>0 then kas_desc f (kas_rev p (k-(l+1)) k) cU 0 else zfF 0,.ask zcE (p.getD k 0) fun d=>(cu,d,.ret (p,k,l),zfF (l+1)))):=eG kas_desc
section
variable {n:Nat}{lt:Nat->Nat->Bool}{cmp:CM}{s:Shared}
structure Arr (n:Nat) (p:dy):Prop where
 sz:p.size=n
 lt:(CK,Dh<n)
 inj:∀ i j,(bb,f7,j<n,Dh=g p j,i=j)
 pm:p.Perm zcN
theorem g_at {p:dy}{i:Nat}{v:Nat} (h:ba p v):Dh=v:=by
 show p.getD i 0=v;rw[Q3,h];rfl
theorem Arr.at {p:dy} (a:tY) {i:Nat} (h:f7):ba p Dh:=by
 have z:i<p.size:=aA a.sz h
 have e:(ba,p,p[i]):=J7 z;rw[e,g_at e]
noncomputable def Srtd (lt:Cb Bool) (p:dy) (m:Nat):Prop:=∀ i j,i<j->j<m->(sR i j)=true
theorem xml (o:Fo) {p:dy} (a:tY) {m:Nat} (hm:m<=n) (h:(SA,1<=i,(sR (i-1) i)=true)):Srtd lt p m:=by
 intro i j hij hj;show(Et,d,∃ d,j=aX+d,j-aX)
 induction d with
 | zero=>exact h aX aa hj
 | succ d ih =>
  show(ah,h1,ih aa aa,h2,h (aX+(d+1)) aa hj);exact o.tr _ _ _ tD tD tD h1 h2
theorem xlp (c:Eb) {p:dy} (a:tY) {G:eQ Nat}:∀(f k:Nat),1<=k->k+f<=n ->
    (∀ m,(bg,k<=m,m<=k+f,(SA,k<=i,(sR i (i-1))=false),m<k+f->(sR m (m-1))=true,G m s))->(pJ (kas_asc p f k) G)
  | 0,k,h1,hf,hG=>by
    rw[xxu];exact xda (hG k bv aa RJ (fE aa))
  | f+1,k,h1,hf,hG=>by
    rw[xyi];refine xgu (c _ _ Th Rr _ ?_);cases e:sR k (k-1) with
    | true =>
      exact xda (hG k bv aa RJ (fun _=>e))
    | false =>
      show(Oy,kas_asc p f cU,xlp c a f cU aa aa fun m hm hm2 h3 h4=>hG m aa aa zdc (fun h=>h4 aa),i=k)
      . ext aD z e
      . exact h3 i aa hi2
theorem xmz (o:Fo) (c:Eb) {p:dy} (a:tY) {G:(eQ,dy × Nat × Nat)}:∀(f k:Nat),1<=k->k+f<=n ->
    (∀ m,(bb,k<=m,m<=k+f,(SA,k<=i,(sR i (i-1))=true),G (p,m,0) s))->(pJ (kas_desc f p k 0) G)
  | 0,k,h1,hf,hG=>by
    rw[xvy];exact xda (hG k bv aa RJ)
  | f+1,k,h1,hf,hG=>by
    rw[xu1];refine xgu (c _ _ Th Rr _ ?_);cases e:sR k (k-1) with
    | true =>
      show(Oy,zfF 0,xmz o c a f cU aa aa fun m hm hm2 h3=>hG m aa aa zdc,i=k)
      . ext aD z e
      . exact h3 i aa hi2
    | false =>
      refine xgu (c _ _ Rr Th _ ?_);show(kJ,ne,g p k,g p (k-1),(gO,a.inj _ _ aa aa z))
      rw[(vP,lt zcE (p.getD k 0),o.tot _ _ Th Rr ne e)];exact xda (hG k bv aa RJ)
theorem Arr.rev {p:dy} (a:tY) {k:Nat} (hk:k<=n):Arr n (kas_rev p 0 k)/\zhg:=by
 have ge:zhg:=fun i hi=>by
  have z:=getElem?_mirror_all (xs:=p) (i:=0) (j:=k) (aA a.sz hk) i;by_cases c:i<k
  .rw [jS];rw[aN ⟨iQ,c⟩,(fh,0+k-1-i=Mw),a.at (fh,Mw<n)] at z;exact g_at z
  .ext d4 c;show(Sa,az (fun w=>c w.2),a.at hi)
 refine⟨⟨bR kas_rev_size a.sz,Tb,bN i j hi hj e,(mirror_perm _ _ _ _).trans a.pm⟩,ge⟩
 .rw [Cp];split<;>exact tD
 .rw [Cp,ge j hj] at e;split at e<;>split at e<;>have:=a.inj _ _ aa aa e<;>omega
theorem xqt (o:Fo) (c:Eb) {p:dy} (a:tY) (h2:2<=n) {G:(eQ,Nat × dy)}
    (hG:∀ m p',(bg,1<=m,m<=n,Arr n p',Srtd lt p' m,G (m,p') s)):pJ (kas_count n p) G:=by
  unfold kas_count;rw[KasT.kasWp_bind];have up:∀ q,Arr n q->∀ i,(bb,1<=i,f7,lt (g q i) (g q (i-1))=false,lt (g q (i-1)) (g q i)=true):=fun q b i h1 hi e =>
    o.tot _ _ (b.lt i hi) (b.lt (i-1) aa) (aj (gO,b.inj _ _ hi aa z)) e
  refine xlp c a (n-1) 1 bv aa (bN m hm hm2 h3 h4);have sm:Srtd lt p m:=xml o a aa (fF,hi,hi2,up p a i hi aa (h3 i hi hi2));show pJ (cu (m == n) _ _) G;by_cases e1:m=n
  . rw[aN zaY]
    exact xda (hG m p hm aa a sm)
  . rw[az zaY]
    by_cases e2:m>1
    . rw[aN e2]
      refine xgu (c _ _ (a.lt 0 aa) (a.lt (m-1) aa) _ ?_);rw[(vP,lt (p.getD 0 0) (p.getD (m-1) 0),sm 0 (m-1) aa aa)];exact xda (hG m p hm aa a sm)
    . rw[az e2]
      have m1:m=1:=aa
      subst m1;have d1:=h4 aa;unfold kas_descPart;show(zrT,xmz o c a (n-(1+1)) (1+1) aa aa (bX k hk hk2 h5),(if (0:Nat)>0 then _ else kas_tail3 k n p));rw[if_neg (Yu 0)];unfold kas_tail3;rw[KasT.kasWp_bind];show(F8,ge,a.rev (k:=k) aa);refine xlp c b (n-k) k aa aa fun m' hm' hm2' h6 _=>?_;refine xda (hG m' _ aa aa b (xml o b aa zdc));by_cases ik:i<k
      . rw[ge i aa,ge (i-1) aa,aN ik,Mi]
        have e3:zeI-1=Mw:=aa
        by_cases z:zeI=1
        . have z':Mw=0:=aa
          ext cD z z' d1
        . show(Ia,h5 zeI aa aa,e3)
      . exact up _ b i hi aa (h6 i aa hi2)
theorem xid (o:Fo) (c:Eb) {p:dy} (a:tY) {k:Nat} (hk:k<n) (sk:Srtd lt p k) {G:eQ Nat}:∀(f l r:Nat),l<=r->r<=k->r-l<=f ->
    (∀ j,j<l->Lr=false)->(∀ j,r<=j->j<k->Lr=true) ->
    (∀ m,(bb,m<=k,(∀ j,j<m->Lr=false),(∀ j,m<=j->j<k->Lr=true),G m s))->(pJ (yX f l r) G)
  | 0,l,r,h1,h2,h3,lo,hi,hG=>by
    ext zjl xuw
  | f+1,l,r,h1,h2,h3,lo,hi,hG=>by
    rw[xtb];by_cases e:l>=r
    . ext zjl Gp
    . rw[az e]
      have m1:re<r:=aa
      have m2:l<=re:=aa
      refine xgu (c _ _ Ti tD _ ?_);cases e2:sR k re with
      | true =>
        show(Oy,yX f l re,xid o c a hk sk f l _ m2 aa aa lo (aI j hj hj2) hG,j=re)
        . ext aD z e2
        . exact o.tr _ _ _ Ti tD tD e2 (sk _ _ aa hj2)
      | false =>
        show(Oy,yX f (re+1) r,xid o c a hk sk f _ r aa h2 aa (aq j hj) hi hG,j=re)
        . ext aD z e2
        . cases e3:Lr with
          | false=>rfl
          | true =>
            show(AW,o.tr _ _ _ Ti tD tD e3 (sk j re aa aa),e2)
theorem Arr.bub {p:dy} (a:tY) {k m:Nat} (hk:k<n) (hm:m<=k):Arr n HM/\zgC:=by
 have ge:zgC:=fun i hi=>by
  show(B7,getElem?_bubble (xs:=p) (src:=k) (aA a.sz hk) (k-m) aa i,(fh,k-(k-m)=m));ext ir i m
  .rw [jS];show(Sa,jS,a.at hk)
  .ext d4 c;rw[uu] at z;by_cases d:m<i/\i<=k
   .rw [aN d];show(Sa,aN d,a.at (fh,i-1<n))
   .ext d4 d;show(Sa,az d,a.at hi)
 refine⟨⟨bR bubble_size a.sz,Tb,bN i j hi hj e,(bubble_perm _ _ _).trans a.pm⟩,ge⟩
 .rw [Cp];split
  .exact a.lt _ hk
  .split<;>exact tD
 .rw [Cp,ge j hj] at e;split at e<;>(try split at e)<;>(try split at e)<;>(try split at e)<;>first|omega|(show(cy,a.inj _ _ aa aa e))
theorem xov (o:Fo) (c:Eb) {G:eQ dy}:∀(f k:Nat) (p:dy),(bg,k+f=n,tY,Srtd lt p k,(∀ p',Arr n p'->Srtd lt p' n->G p' s),pJ (kas_bin f p k) G)
 | 0,k,p,h,a,sk,hG=>by
  rw[xxp];ext FA k n;exact xda (hG p a sk)
 | f+1,k,p,h,a,sk,hG=>by
  have hk:k<n:=aa
  rw[xyr,KasT.kasWp_bind];refine xid o c a hk sk k 0 k iQ bv aa (fun j hj=>aa) (fun j hj hj2=>aa) (bX m hm lo hi);show(F8,ge,a.bub hk hm);refine xov o c f cU _ aa b (bX i j hij hj) hG;show(bj,inS,(F3,m,(sR i k)=true),i,hi',o.tot _ _ Ti (a.lt i aa) (aj (gO,a.inj _ _ hk aa z)) (lo i hi'));have g1:∀ i,f7->i=m->g HM i=g p k:=fF hi z (bR,Cp,aN z)
  have g2:∀ i,(bb,f7,m<i,i<=k,g HM i=g p (i-1)):=fun i hi z z2=>(mh,Cp,uc,aN ⟨z,z2⟩)
  have g3:(SA,f7,g HM i=Dh):=(fF,hi,z,mh Cp uc uc)
  by_cases j1:j=m
  .rw [g1 j aa j1,g3 i aa aa];exact inS i aa
  .by_cases i1:i=m
   .rw [g1 i aa i1,g2 j aa aa aa];exact hi (j-1) aa aa
   .by_cases j2:m<j
    .rw [g2 j aa j2 aa];by_cases i2:m<i
     .show(cq,g2 i aa i2 aa,sk _ _ aa aa)
     .rw [g3 i aa aa];by_cases z:i=j-1
      .omega
      .exact sk _ _ aa aa
    .rw [g3 j aa aa,g3 i aa aa];exact sk _ _ hij aa
theorem xoo:Arr n zcN:=by
 show(bj,e,(CK,g zcN i=i),i,hi,g_at (bR,List.getElem?_toArray,J8 hi));exact⟨ap,dH hi (aA,e i hi,hi),fun i j hi hj z=>by show(yY,e i hi,e j hj),Array.Perm.refl _⟩
theorem sort_wp (o:Fo) (c:Eb) (h2:2<=n) {G:eQ dy} (hG:∀ p,tY->Srtd lt p n->G p s):pJ (kas_sort n) G:=by
 unfold kas_sort;show(zrT,xqt o c xoo h2 fun m p hm hm2 a sm=>?_,lz m n _ _);by_cases e:m<n
 .rw [aN e];show pJ (kas_bin (n-max m 1) p (max m 1)) G;show(aD,Nat.max_eq_left hm,xov o c (n-m) m p aa a sm hG)
 .ext d4 e;ext FA m n;exact xda (hG p a sm)
#check _
#check Srt
namespace XL
open PySem
noncomputable def Xat (h:Heap) (e:Addr) (cls:Value) (od tb:iD):Prop :=
 ∃ oe vs,(TY e oe)/\oe.cls=cls/\oe.dict=od/\(TZ oe.data)/\1<vs.size /\
  ((tb=none/\(eY vs 1 JG))\/∃ T oT ts,(ae tb T)/\(ay,vs[1]?=(aB T),T≠e,TY T oT,oT.data=.fields ts,eY ts 3 JG))
#check XL
namespace XL
open PySem PySem.W PySem.Calls PyProof.Rows Builtin Builtin.ObjectAttr
noncomputable def vErr:aY:=[.type "ValueError",.type "Exception",zqw,.type "object"]
noncomputable def xhm:aY->Bool
 | []=>false
 | .ref c::r=>xhm r||((.ref c::r:aY) == vErr)
 | uQ=>uQ == vErr
noncomputable def xt7 (K:Frag) (C:Addr):Bool:=(clsIn K C).any fun cd=>xhm cd.mro
theorem xic:∀{l:aY},xhm l=true->l.contains (.type "object")=true/\l.contains (.type "BaseException")=true/\l.isEmpty=false
 | [],e=>by cases e
 | uQ,e=>by
  have last:((uQ:aY) == vErr)=true->(uQ).contains (.type "object")=true/\(uQ).contains (.type "BaseException")=true/\(uQ).isEmpty=false:=fun z=>by
   rw[Wk z];show(aE,aK,aK,rfl)
  cases v with
  | ref c =>
   rcases Bool.or_eq_true_iff.mp e with z|z
   .obtain ⟨a,b,_⟩:43:=xic z;show(aE,zlX a,zlX b,rfl)
   .exact last z
  | _=>exact last e
structure XC (K:Frag) (C:Addr):Prop where
 over:xt7 K C=true
 hd:hasDictIn K C=true
 sa:Ol "__setattr__" (yw "object.__setattr__")
 ga:Ol "__getattribute__" (yw "BaseException.__getattribute__")
 gh:Ol "__getattr__" none
 ca:Ol "__class__" (yw "object.__class__")
 cg:(ae,specialIn K V8 "__get__",zlb)
 ct:(ae,takesIn K (.builtin "object.__class__"),true)
section
variable {prog:Program}{w:World}{A:Around}{E:Value->Shared->Prop}{s:Shared}{K:Frag}{x C dx:Addr}{ox:Obj}{od:Option Obj}{name:Str}{v:Value}{R:Result->Shared->Prop}
theorem XC.mro (c:zW):∃ cd,(ae,clsIn K C,cd)/\xhm cd.mro=true/\cd.hasDict=true:=by
 show(ag,cd,h1,h2,any_some c.over);show(ag,cd',h3,h4,any_some c.hd);ext bG h1 h3 h3;ext gG cd h1 h2 h4
theorem XC.isObj (c:zW):zpw "object":=by
 show(tu,cd,h1,h2,c.mro)
 obtain⟨a,_,b⟩:43:=xic h2;ext znm
theorem XC.isExc (c:zW):zpw "BaseException":=by
 show(tu,cd,h1,h2,c.mro)
 obtain⟨_,a,b⟩:43:=xic h2;ext znm
theorem xt5 (v:Value):bindSpecial (.builtin "BaseException.__getattribute__") v=pure (.builtin "BaseException.__getattribute__",[v]):=by
 have f:=PySem.F.attr_ValueError.ga.bind v;exact f
theorem xqy:plainId "BaseException.__getattribute__"=true:=PySem.F.attr_ValueError.ga.plain
theorem xw7 {Q:bA}{expr fill:Bool}{tk:Tok} (X:yM) (c:zW) (I:zoR)
    (h:wpAny bz A.in1 (Builtin.«object.__getattribute__» (jT [rO,zdO]))
      (nH,fin,match fin with|.done (.ret v)=>wpAny bz A (handedOut v) Q E s'|_=>False) vw s) :
    wpAny bz A (getAttrBy rO zdO fill expr) Q E s:=by
  obtain⟨hh,g,d,t,os⟩:=s;have L0:=I.type (M:=bz);show(ah,L1,looks_findIn (M:=bz) X c.ga,L2,looks_findIn (M:=bz) X c.gh);have sub:Looks bz hh (isInstance (.ref x) zqw) true:=I.type.andThen (looks_mroIn X c.isExc);have f2:(onTheHeap (Zs C)&&zjX == zmn)=false:=by
    rw[T5 zjX zmn aK]; rfl
  show(nD,f3,expr&&onTheHeap (Qw "BaseException.__getattribute__"),SD expr)
  unfold getAttrBy;refine J4 (Zg (L0.at (Zg (L1.at ?_))))
  dsimp only
  rw[f2];ext vh;unfold getAttrByItsOwn hookBefore;show(cJ,L2.at (Zg (Qu (J4 ?_))));unfold callGetattribute;rw[f3];ext vh;unfold boundAndCalled;rw[xt5];refine Zg (Zo (Wq (codeAny_call_builtin xqy PySem.F.entry_bexc_ga
    (@check_slot bz _ _ ⟨hh,g,d,t,os⟩ "BaseException.__getattribute__" "BaseException" "__getattribute__" rO [zdO] [] _ aK aK sub (PySem.F.args_bexc_ga _ _) ?_))))
  refine Ji h (aI fin s' z) fun e s' z=>z.elim;rcases fin with (_|_|_|_)|_<;>first|exact z|exact z.elim
theorem xrx {Q:FO} (X:yM) (c:zW) (I:zoR) (h:Q (aB C) o7) :
    wpAny bz A (getAttr? (.ref x) "__class__") Q E s:=by
  show(Mv,cd,h1,h2,c.mro)
  have hf:(ae,findObj K C od "__class__",.bind (.builtin "getset_descriptor.__get__") V8):=by
    unfold findObj;rw[h1,QI,c.ca,QI];simp[c.cg,c.ct]
  unfold getAttr? getAttrBy?;refine Zg (wpAny_mkText (Zg (Qu ?_)));refine xw7 (s:=o7) X c I ?_;show(ah,L0,I.type (M:=bz),L1,looks_find (M:=bz) X I hf);show(Ap,Zo (Zg (Zo (Zg (L0.here (s:=o7) (Zg (L1.here (s:=o7) ?_)))))),wpAny _ _ (holding [_] (call _ [_,rO,.ref C])>>=ret) _ _ _);show(cJ,J4 (Wq (class_get (s:=o7) (ox:=ox) (od:=od) X I c.isObj ?_)));ext wD;show wpAny _ _ (handedOut (.ref C)) _ _ _;exact Zo (Zo h)
#check _
#check XL
namespace XL
open PySem
#check XL
namespace L2
open PySem PySem.Spec PyProof.Rows XL
variable {q0:Bool}
noncomputable def XO (e C:Addr) (od:iD):HO:=.ext fun h=>zid (TY e ox)
noncomputable def XD (dx:Addr) (fs:i7):HO:=.ext fun h=>Pn/\∃ mA,Sj/\GO/\QR mA (fs.map (·.1))
noncomputable def CXo (P:Program) (w:World):CXT:=fun outer H s E u s'=>∃ e C od H' T,(cQ u e)/\s'.os=s.os/\Pp/\Un (frs outer) [] H H' s.heap s'.heap/\HOk P w H' s'.heap /\
 (ay,Xat s'.heap e Gv od (some T),gS e (XO e C od),Ef T,H' T=none,E e C H')
section
variable {X:Cx}{pins:List (Addr × Obj)}{Z:St}{H:Hp}{s:Shared}{e C:Addr}{od tb:Option Addr}
theorem Inv.size_lt (I:ax) {b:Addr} (h:Ef b):aR dE AV (yp b) (Il b):=by
 refine(bW,I.hok.fresh h,lG,bX x c hc z,aI p hp z)
 .ext hJ z;exact absurd I.lt (Nat.not_lt.mpr h)
 .obtain ⟨v,o,ho,_⟩:82:=I.cell x c hc;show(bV,z,ho,absurd (Z0 ho) (Nat.not_lt.mpr h))
 .have g:=(I.pin p hp).1;show(bV,z,g,absurd (Z0 g) (Nat.not_lt.mpr h))
theorem xq:xen (CXo X.prog X.w) X (fun _ _ _ _=>False):=fun pins Z H s u s' I h=>by
 obtain⟨e,C,od,H',⟨T,_,_,_,_,_,_,_,_,_,q⟩⟩:121:=h;exact q.elim
#check _
#check L2
namespace XL
open PySem PySem.W
#check XL
namespace L2
open PySem PySem.Spec PyProof.Rows XL
variable {q0:Bool}
section
variable {X:Cx}{pins:List (Addr × Obj)}{Z:St}{H:Hp}{s:Shared}{a C dx:Addr}{od:Option Addr}{fs:List (Str × V)}{f:Str}{v y:V}{u:Value}{A:Around}{E:Value->Shared->Prop}
theorem xyl (I:ax) (e:OB):zid (DU ox):=(I.hok a _ e).1
theorem xsj (I:ax) (e:aT dx (XD dx fs)):Pn/\∃ mA,s.heap.Ns1 dx mA/\GO/\QR mA (fs.map (·.1)):=(I.hok dx _ e).1
theorem xl3 {o:Obj}{vs:gL} (d:TZ o.data):PySem.W.notCls o=true:=by
 unfold PySem.W.notCls;rw[d]
#check _
#check L2
namespace XL
open PySem PySem.W
#check XL
namespace L2
open PySem PySem.Spec PyProof.Rows XL
variable {q0:Bool}
#check L2
namespace XL
open PySem PySem.W
theorem xqi {K:Frag}{x C:Addr} (c:zW):KitX K rO Gv (fE,∃ ox od,InstAt h x ox C od) where
 ty:=fun _ _ _ ⟨_,_,I⟩=>I.type
 it:=fun _ _ X _=>by
  ext zqB
  ext zsa
  .rename_i c' d' cd' sl' ho
   intro A' Q' E' s' k q;unfold isType loadHead;exact Zg (wpAny_loadPart (k _ _ (X _ _ ho)) (Zo q))
  .cases hc
 ne:=fun h tp dd its n sl X htp=>by
  ext zqB
  refine Ja.mpr (cH q);show(tW,C,tp,Zs.inj (beq_iff_eq.mp q));ext zsa
  .rename_i c' d' cd' sl' ho
   have z:=(X _ _ ho).symm.trans htp;cases z
  .cases hc
 ca:=fun X ⟨ox,od,I⟩ k=>xrx X c I k
#check XL
namespace L2
open PySem PySem.Spec PyProof.Rows XL
variable {q0:Bool}
noncomputable def clsV:V->(dG Value)
 | .ty n=>some (.type n)
 | bq=>dN
 | _=>none
theorem xh2 {c:V}{u cv:Value} (e:zbh) (r:RelV c u):u=cv:=by
 cases c<;>first|(cases e; exact r)|cases e
noncomputable def xnh:af->Option (List Value)
 | []=>some []
 | c::r=>(clsV c).bind fun a=>(xnh r).map (a::·)
theorem xj2:∀{cs:af}{us cv:aY},(ae,xnh cs,cv)->(xK cs)->us=cv
 | [],_,_,e,.nil=>by ext jG e
 | c::r,_,_,e,.cons rc rr=>by
  show(ag,a,e1,e2,Option.bind_eq_some_iff.mp e);ext mF b e3 e2;rw[xh2 e1 rc,xj2 e3 rr]
section
variable {X:Cx}{pins:List (Addr × Obj)}{Z:St}{H:Hp}{s:Shared}{A:Around}{E:Value->Shared->Prop}{Q:Value->Shared->Prop}
theorem xmk {a C:Addr}{od:iD} (I:ax) (h:OB) (hd:∀ d,(ae od d)->∃ o,sC):∃ ox odx,PySem.W.InstAt s.heap a ox C odx:=by
 obtain⟨ox,vs,g,ce,oo,de⟩:84:=xyl I h;cases e:od with
 | none=>exact⟨ox,none,g,ce,xl3 de,by rw[oo,e]; trivial⟩
 | some d =>
  obtain⟨o,go⟩:=hd d e;exact⟨ox,some o,g,ce,xl3 de,qi oo e go⟩
#check _
inductive xyk (K:Zd) (xs:af) (H:Hp) (Q:VK):Prop
 | mk (x c) (e_:xs=[x,c]) (r_:((∃ t cv b,(aR,TyOf K H x t,zbh,(ae,Wd K t cv,b),rF b))\/(∃ a C od cv b,lC/\OB/\(ay ziO zW zbh (ae,Wd K (.ref C) cv,b) (rF b)))\/(∃ a C od p cs cv b,ay lC OB ziO zW (ay,cQ c p,SqT K H p cs,(ae,xnh cs,cv),(ae,PySem.W.kitAny K (.ref C) cv,b),rF b))))
section
variable {X:Cx}
theorem xej:xcq X (.builtin "isinstance") (xyk X.K):=by
 intro pins s Z H us xs Q I r h;obtain⟨x,c,rfl,h⟩:=h;obtain⟨u,v,rfl,ru,rv⟩:83:=xn8 r;rcases h with⟨t,cv,b,ty,ec,ek,q⟩|⟨a,C,od,cv,b,rfl,ha,hd,xc,ec,ek,q⟩|⟨a,C,od,p,cs,cv,b,rfl,ha,hd,xc,rfl,hp,ec,ek,q⟩
 .show(qG,xh2 ec rv);exact xqj I ru ty ek WS
 .show(qG,xh2 ec rv);ext rW u a ru;show(zgr,J5 (xqi xc) I.kIn (xmk I ha (aq d e)) ek dw WS)
 .ext rW u a ru;ext rW v p rv;show(tu,its,vi,it,I.tuple hp);show(qG,xj2 ec vi);obtain⟨o,g,oc,⟨n,od'⟩⟩:63:=it;obtain⟨c1,d1,dt1,sl1⟩:=o
  dsimp only at oc od'
  subst oc od';show(zgr,PySem.W.kia_tup (xqi xc) I.kIn (xmk I ha (aq d e)) g ek dw WS)
#check _
noncomputable def xdx (scope:Scope):am:=(scope.names.filter fun x=>zeJ).map (·.1)
noncomputable def Cx.clo (X:Cx) (scope:Scope):zdt:=(tH).reverse.map fun n=>(n,(Og).getD 0)
theorem xio {env:Env}{f:Str->Addr}:∀(l:fQ Str NameKind) (acc:zdt),(∀ x∈l,dk=.free->env.cells.lookup bn=some (f bn)) ->
    (forIn l acc fun x cs=>(if zeJ then do let c <- cellOf env bn; pure (YW ((bn,c)::cs)) else pure (YW cs):Sem (ForInStep (List (Str × Addr))))) =
      pure ((((l.filter fun x=>zeJ).map (·.1)).reverse.map fun n=>(n,f n))++acc)
  | [],acc,_=>rfl
  | x::r,acc,h=>by
    have ih:=fun a=>xio r a zeQ;rw[List.forIn_cons];by_cases q:dk=.free
    . have e:=h x Zm q
      have qb:(dk == Wo)=true:=eS q
      rw[aN qb,QL,aN qb];have ec:cellOf env bn=pure (f bn):=by unfold cellOf; rw[e]
      rw[ec];simp only[pure_bind];rw[ih];simp
    . ext uL qb dk Wo zbA
      rw[az (vQ qb),QL,az (vQ qb)];simp only[pure_bind];rw[ih]
theorem xp8 {X:Cx}{scope:Scope} (h:zqo):closureFor scope X.env=pure (X.clo scope):=by
 unfold closureFor;have z:=xio (env:=X.env) (f:=fun n=>(Og).getD 0) scope.names [] fun x hx hf=>by
  show(mN,c,h bn (Zf.mpr (cE,x,Zz.mpr ⟨hx,b6 hf⟩)));rw[e];rfl
 rw[YV] at z;refine (bind_pure (m:=Sem) _).trans ?_;exact z
theorem xs5 {X:Cx}{scope:Scope}{n:Str}{c:Addr} (h:(ae,(BI).lookup n,c)):n∈tH/\c=(Og).getD 0:=by
 have z:=JM h;unfold Cx.clo at z;ext rN y hy e z;injection e with e1 e2
 subst e1;show(aO,Y1.mp hy,e2.symm)
theorem xfj {f:Str->Addr}{n:Str}:∀{l:am},n∈l->(l.map fun y=>(y,f y)).lookup n=some (f n)
 | [],h=>yB
 | y::r,h=>by
  rw[Zp,Zy];by_cases q:n=y
  .subst q;simp
  .rw [T5 n y zbA];exact xfj ((Zq.mp h).resolve_left q)
theorem xmq {X:Cx}{scope:Scope}{n:Str}{c:Addr} (hn:n∈tH) (h:GT):(ae,(BI).lookup n,c):=by
 have z:=xfj (f:=fun n=>(Og).getD 0) (Y1.mpr hn);unfold Cx.clo;rw[z,h];rfl
noncomputable def xeg:TT:=(FC,Q true H)
noncomputable def PIf (X:Cx) (ifs:kg) (t:TT):Prop :=
 ∀(pins:List (Addr × Obj)) (s:Shared) (Z:St) (H:Hp) (Q:wb),ax->Cj ->
  wpAny aS X.A (zgf X.env (lD c)) Rw X.xe s
theorem xbb {X:Cx}:PIf X [] xeg:=fun pins s Z H Q I h=>Zo ⟨H,I,h⟩
theorem xdq {X:Cx}{c:Expr}{t:TT} (hc:PT X c t):PIf X [c] t:=fun pins s Z H Q I h=>by
 rw[List.forIn_cons];ext F2;rw[cp];show(cJ,(Ji (hc pins s Z H Q I h) (xF,s1,Zo ?_) (mQ z)));exact Zo q
theorem xpg {env:Env}{scope:Scope} (nc:VD) (n:Str) (h:(ae,(Hx).names.lookup n,.cell)\/(ae,(Hx).names.lookup n,.free)):n∈tH:=by
 have key:∀ k,(ae,(Hx).names.lookup n,k)->(k=.cell\/k=.free)->n∈tH:=fun k e hk=>by
  show(ag,y,hy,ey,Zf.mp (JM e));obtain⟨m,j⟩:=y
  dsimp only at ey
  split at ey
  .rename_i q
   injection ey with e1 e2
   subst e1;have:j=.free:=by
    simp only[Z7,beq_iff_eq] at q;exact q.1.1
   ext xA;ext znG
  .injection ey with e1 e2
   subst e1 e2;rcases hk with z|z
   .show(bZ,z,nc _ hy)
   .subst z;ext znG
 rcases h with h|h
 .exact key _ h (.inl rfl)
 .exact key _ h (.inr rfl)
theorem xog {env:Env}{scope:Scope}{n:Str} (h:(ae,scope.names.lookup n,.free)):(ae,(Hx).names.lookup n,.cell)\/(ae,(Hx).names.lookup n,.free):=by
  have key:∀(l:fQ Str NameKind),(ae,l.lookup n,.free)->(ae,(zfN).lookup n,.cell) \/
      (ae,(zfN).lookup n,.free):=fun l=>by
    induction l with
    | nil=>intro e; ext sr
    | cons y r ih =>
      intro e;obtain⟨m,k⟩:=y;rw[Zp];rw[Zy] at e;cases q:n == m with
      | true =>
        ext bG q e e
        dsimp only
        split
        . left; rw[Zy,q]
        . right; rw[Zy,q]
      | false =>
        rw[q] at e;have z:=ih e
        dsimp only
        split<;>(ext cD Zy q z)
  exact key _ h
section
variable {P:Program}{w:World}{K:Zd}{mg:Str->Option Value}{base:Heap}
theorem Fun.okn {x qual:Str}{st:Stmt}{f:Addr}{fd:FuncData}{N ps:am}{k:Nat}{sp:Sp} (F:Fun K x qual st f fd) (S:zdJ) (len:GF)
    (hbody:∀(cdv:Value) (A:Around) (outer:List Env) (s:Shared) (H:Hp) (vs:List V) (Q:VK) (E:XK),Room q0 k (A.deeper (envOfC qual (xm st) s.heap.objs.size f cdv))->ER ->
      (MW,(cxOf q0 aH P w K mg base N qual kN f cdv A outer s H E).nox,lN)):FnOk q0 P w K mg base aH cU f fd ps sp:=by
  obtain⟨oc,od,kV,doc,⟨pm,an,cdv,ct,osl,rfl,lk,hcd⟩⟩:121:=(F.ex)
  show(Vd,fun A outer s H vs Q E hr hsp=>?_,hbody cdv A outer s H vs Q E hr hsp)
#check _
#check L2
namespace L2
open PySem PySem.Spec PyProof.Rows XL
theorem ifP {b:Bool}{A B:Prop} (h:z6) (q:A):cu b A B:=by
 show(aD,aN h,q)
theorem ifN {b:Bool}{A B:Prop} (h:b=false) (q:B):cu b A B:=by
 show(oO,vQ h,q)
noncomputable def sgn (c:Nat):V:=.str ST
noncomputable def Its (x:Str):It:=(VI,i<x.cps.toList.length,v,∃ c,zso/\v=sgn c,zpE)
theorem xti {h h':Heap}{it:Addr}{ty:String}{x:Str}{t:Tok}{i:Nat} (y:h.IsStrIter it ty x t i) (k:∀ o,(ae,h.get? it,o)->(ae,h'.get? it,o)):h'.IsStrIter it ty x t i:=by
 ext ag o ho r y;show(aE,o,k o ho,r)
theorem xqr {P:Program}{w:World}{K:Zd}{tg:Expr}{x:Str} (t:Tok) (it:Addr):Turn P w K tg (Its x) sw it (dH,h,h.IsStrIter it "str_ascii_iterator" x t i) where
 mem:=ap
 obj:=fun i h st b hb=>by
  ext Vj st
 keep:=(Iz,xti st (Am,k it ap o e))
 item:=by
  intro X hP hw hK hc i pins s Z H E I hf st hg;ext i9;have lt:i<x.cps.toList.length:=hg;have ex:ba x.cps (x.cps.toList[i]):=ap
  obtain⟨f0,f1,f2,f3,f4,f5⟩:46:=ku;refine wpAny_pyNext_ascii_item st ex zcv;show(Aa,AF zp,I.turned (t':=zp) (nh,hb,(sb.2 b hb).trans e) f0 f1 f3 f4 f5);show(bF,o,e,c,d,id st');exact(cN,xhi (s:=AF zp) e c d au ⟨85,sgn (x.cps.toList[i]),H,I1,eR,zfD ap,st',Fd⟩)
 done:=by
  intro X hP hw hK hc i pins s Z H E I hf st hg;ext i9;have ge:zpE:=hg;obtain⟨f0,f1,f2,f3,f4,f5⟩:46:=ku;exact wpAny_pyNext_ascii_end jM st (by simpa using ge) (Br,I.turned (t':=s.toks) va f0 f1 f3 f4 f5)
 self:=(zck,wpAny_pyIter_striter_ascii st h)
noncomputable def iStr (tl:TE):TI:=fun Z H R=>tl Z H fun v H1=>∃ x:Str,v=.str x/\x.cps.all (·<128)=true/\R (Its x) H1
theorem xwb {X:Cx}{tg l:Expr}{tl:TE} (hl:PE X l tl):PI X tg l (iStr tl):=by
 intro pins s Z H R I h;show(jX,hl pins s Z H _ I h,fun v s1 ⟨y,H1,I1,r1,x,e,ha,q⟩=>?_);ext cW;ext d6 t r1;refine wpAny_pyIter_ascii ha ?_;show(M0,⟨66,H1,rfl,W1,xqr t _,BF,iC,q⟩);show(MV,s1.heap.objs.size)
section
variable {X:Cx}
theorem xkb:qQ .LtE (Lj,∃ i j,x=.str i/\y=.str j/\(rF (!(cP (j.cps.toList<i.cps.toList))))):=by
 intro pins s Z H x y v u Q I rx ry h;obtain⟨i,j,rfl,rfl,q⟩:83:=h;ext LT;exact PySem.P.le_str (xa5 I q rfl)
theorem xfu:(PF,.type "range",∃ i j,xs=(nN dY j)/\(Bj (eO p (.rng i j)))):=by
 intro pins s Z H xs us Q I r h;show(jN,i,j,rfl,q,h);obtain⟨u,w',rfl,⟨t,rfl⟩,⟨t',rfl⟩⟩:83:=xn8 r;refine call_range_2 (Kj,I.laid (t':=zp) vO bv (show xbc X.prog X.w _ _ _ (.rng i j) from ⟨101,_,_,_,gq⟩))
#check _
#check L2
namespace L2
open PySem PySem.Spec PyProof.Rows
variable {q0:Bool}
section
variable {X:Cx}
theorem xmo:∀{us:aY}{ys:af},us.length=ys.length->(∀(j:Nat) (y:V) (u:Value),A8 us u gg)->(xK ys)
 | [],[],_,_=>.nil
 | u::us,nu,hl,h=>.cons (h 0 y u rfl rfl) (xmo (Nat.succ.inj hl) fun j y' u' e e'=>h gH y' u' e e')
noncomputable def rngL (lo hi:Int):af:=(Zu yR).map (wI,i,V.int (lo+cL))
theorem xeo (hc:mE):xcq X zem (fun xs H Q=>∃ p lo hi,xs=Lv/\(aT p (.rng lo hi))/\(aR,-iL<=lo,lo<iL,-iL<=hi,hi<iL)/\yR<=1000 /\
    ∀ l,oM->(kK l (fw H l (rngL lo hi)))):=by
  intro pins s Z H xs us Q I r h;obtain⟨p,lo,hi,rfl,hp,⟨h1,h2,h3,h4⟩,hn,q⟩:105:=h;ext AQ;ext fc;obtain⟨t1,t2,t3,g⟩:101:=(show xbc X.prog X.w H s.heap p (.rng lo hi) from I.hok p _ hp)
  refine call_list_range jM g zpJ (n:=yR) V6 (ZK hn au) fun h' tk acc' c' kp e it=>?_;show(lY,len,acc'.toList.length,(rngL lo hi).length,by rw[rngL,Za,ZW]; exact it.1,(Kj,I.laid (t':=tk) kp bv (show xbc X.prog X.w _ h' _ (.lst (rngL lo hi)) from ⟨?_,(bQ,acc'.toList,c',xmo len (bN j y u ey eu),vp)⟩)))
  . rw[rngL,Za,ZW]
    exact ZK hn au
  . have eu':cC acc' u:=by simpa using eu
    obtain⟨t,e2⟩:=it.2 j u eu';have lt:j<yR:=by
      have:=gR ey;simpa [rngL] using this
    rw[rngL,Zc,J8 lt] at ey;cases ey;show(aO,t,bR e2 Int.mul_one)
#check _
structure FunD (K:Zd) (x qual:Str) (st:Stmt) (T f:Addr) (fd:FuncData):Prop where
 ex:∃(oc:Value) (od:iD) (kV doc pm:Value) (an:iD) (cdv ct:Value) (osl:uZ),
  (bM,fd,Jw x qual qp lN kN (.ref T) kV doc pm an cdv ct,Hk fd,Hf)
 kp:mr f
section
variable {P:Program}{w:World}{K:Zd}{mg:Str->Option Value}{base:Heap}
theorem FunD.okn {x qual:Str}{st:Stmt}{T f:Addr}{fd:FuncData}{N ps:am}{k:Nat}{sp:Sp} (F:FunD K x qual st T f fd) (S:zdJ) (len:GF)
    (hbody:∀(cdv:Value) (A:Around) (outer:List Env) (s:Shared) (H:Hp) (vs:List V) (Q:VK) (E:XK),Room q0 k (A.deeper (envOfC qual (xm st) s.heap.objs.size f cdv))->ER ->
      (MW,(cxOf q0 aH P w K mg base N qual kN f cdv A outer s H E).nox,lN)):FnOk q0 P w K mg base aH cU f fd ps sp:=by
  obtain⟨oc,od,kV,doc,⟨pm,an,cdv,ct,osl,rfl,lk,hcd⟩⟩:121:=(F.ex)
  show(Vd,fun A outer s H vs Q E hr hsp=>?_,hbody cdv A outer s H vs Q E hr hsp)
theorem FunD.binds {x qual:Str}{st:Stmt}{T f:Addr}{fd:FuncData}{ps:am}{o:Obj}{items:gL}{n:Nat}{ds:aY} (F:FunD K x qual st T f fd) (ho:(ae,K.lookup T,o)) (hs:o.data=.seq items n) (m:Nat) (hm:(zQ,m+ds.length))
    (h:∀(kV doc pm:Value) (an:Option Addr) (cdv ct:Value) (us:List Value),us.length=m ->
      ∃ k,bindArgs (Jw x qual qp lN kN (.ref T) kV doc pm an cdv ct) (jT us)=seqItems? (.ref T)>>=k/\k (some items)=pure (ps.zip zV)):x0 K fd ps ds:=by
  obtain⟨oc,od,kV,doc,⟨pm,an,cdv,ct,osl,rfl,lk,hcd⟩⟩:121:=(F.ex)
  intro s us hK hl;rw[Zr] at hl;show(ag,k,h1,h2,h kV doc pm an cdv ct us aa);exact BindsTo.of_defaults rfl (hK _ _ ho) hs h1 h2
theorem xhk {x qual:Str}{st:Stmt}{T f:Addr}{oc:Value}{od an:iD}{osl:uZ}{kV doc pm cdv ct:Value} (l:Hk (Jw x qual qp lN kN (.ref T) kV doc pm an cdv ct))
    (c:Hf) (k:mr f):FunD K x qual st T f (Jw x qual qp lN kN (.ref T) kV doc pm an cdv ct):=zhk
#check _
#check L2
namespace L2
open PySem PySem.Spec PyProof.Rows XL
variable {q0:Bool}
noncomputable abbrev Cx.blkG (X:Cx) (scope:Scope) (zs:am) (ys:am) (C:Addr) (ex:aw) (s:Shared) (H:Hp) (pn:bp):Cx where
 prog:=X.prog
 w:=X.w
 K:=X.K
 mg:=X.mg
 base:=X.base
 A:=X.A
 N:=zs++ys
 s₀:=s
 H₀:=H
 env:=compEnvC scope BI C X.env
 outer:=X.stack
 stack:=X.stack
 ex:=ex
 fn:=fun _=>false
 calm:=X.calm
 pn:=pn
 xe:=vw
theorem xi1 {prog:Program}{w:World}{A:Around}{R:zfj}{s:Shared}{elt target iter:Expr}{ifs:kg}{scope:Scope}{pos:Pos}{it acc:Value}{env:Env} (I:eQ Nat)
    (turn:∀ n s,I n s->wpAny bz A (pyNext it) (fun r s₁=>match r with
      | none=>R (.ok .next) s₁
      | ut=>wpAny bz A (letOwnedTupleGo target it v) (fun _ s₀=>wpAny bz A (assign target env v) (fun _ s₂ =>
          wpAny bz A (zgf env (eval c env)) (fun ok s₃ =>
            if ok=true then wpAny bz A (eval elt env) (fun x s₄ =>
              wpAny bz A (vG "list.append" [acc,x]) (fun _ s₅=>(TK,I m s₅)) Dm s₄) Dm s₃
            else (TK,I m s₃)) Dm s₂) Dm s₀) Dm s₁) Dm s)
    (n:Nat) (h:I n s):codeAny bz A (.compLoop (Vs target) 0 it acc env) R s:=by
  refine codeAny_loop rfl I (aI n s hI) n h;show wpAny _ A ((compTurn (Vs target) 0 it acc env).onRaise (fun x=>do noteFrame x env; theTreesLotGoes x)) _ _ s;refine wpAny_noted ?_;rw[compTurn_list];show(cJ,wpAny_standAt (Zg (Ji (turn n s hI) (aI r s₁ h₁) fun _ _ h'=>h')));cases r with
  | none=>exact Zo h₁
  | some v =>
    show(cJ,Ji h₁ (fun _ s₀ h₀=>zas h₀ (fun _ s₂ h₂=>zas h₂ (aI ok s₃ h₃))) fun _ _ h'=>h');cases ok with
    | false=>exact Zo (bY h₃)
    | true =>
      exact Zg (Zg (Ji h₃ (fun x s₄ h₄=>zas h₄ (fun _ s₅ h₅=>Zo (Zo (bY h₅)))) fun _ _ h'=>h'))
structure BlkG (X:Cx) (scope:Scope) (zs:am) (ys:am) (fr:rp):Prop where
 kind:scope.kind=.function
 own:∀ x∈zs,(ae,scope.names.lookup x,.local)
 ncell:VD
 names:∀ y∈scope.names,y.2=.local->(Wv .local)
 free:∀ n∈tH,(ae,X.env.scope.names.lookup n,.cell)
 has:∀ n,((ae,(qO).names.lookup n,.cell)\/(ae,(qO).names.lookup n,.free))->n∈tH
 slots:(R9,X.N[i]?)=ys.map some
 ysf:∀ y∈ys,y∈tH
 ysc:∀ y∈ys,(ae,(qO).names.lookup y,.cell)\/(ae,(qO).names.lookup y,.free)
 nd:X.N.Nodup
 ndb:Bc
noncomputable def blk0 (Z:St) (fr:rp) (n:Nat):St:=List.replicate n none++(R9,(Di).join)
section
variable {X:Cx}{pins:List (Addr × Obj)}{Z:St}{H:Hp}{s:Shared}{scope:Scope}{zs:List Str}{ys:List Str}{fr:List Nat}{fp:List Addr}
theorem BlkG.cells (B:xT) (I:ax):zqo:=fun n hn=>I.ok.has n (.inl (B.free n hn))
theorem BlkG.sub (B:xT) (I:ax) {n:Str}{c:Addr} (h:(ae,(BI).lookup n,c)):GT:=by
 show(F9,b,xs5 h);show(mN,d,B.cells I n a);rw[e] at b;rw[b,e];rfl
theorem Inv.blkG {h1:Heap}{m1:fH}{t':Nat} (B:xT) (I:ax) (hf:Nv) (hz:∀ b∈fp,(pI b)) (n1:h1.Ns s.heap.objs.size m1) (k1:rX jH (ae,h1.get? b,o)) :
    Inv (X.blkG scope zs ys s.heap.objs.size fp s H n6) [] Ou H (XF h1):=by
  have sub:∀ n c,(ae,(BI).lookup n,c)->GT:=fun n c h=>B.sub I h;have cz:∀ n c,GT->(pI c):=fun n c e=>by
    obtain⟨v,o,ho,_⟩:82:=I.cell n c e;exact Z0 ho
  have nfs:∀ b∈fp,b∉EI:=fun b hb z=>(zcV z).elim (bc zM) (An zM);have fz:(gY,b∈EI,pI b):=fun b hb=>by
    obtain⟨_,o,ho,_⟩:=I.stack.mem hb;exact Z0 ho
  refine⟨⟨I.ok.mod,B.kind,I.ok.glob,I.ok.blt,bv,fun y z c h1 h2=>I.ok.inj y z c (sub y c h1) (sub z c h2),KR,(fun y c hy _=>nomatch hy),I.ok.hd,I.ok.frames,fO,oG ⟨?_,fun y c h=>(b8 (b8 zM)).1 y c (sub y c h)⟩,
      I.bs,ZK I.ok.bsz I.sz,bX b o e hb,(oG,nfs b hb),I.stack,I.stkFree⟩,
    rfl,I.bare,Un.kept k1,⟨m1,n1,fun i y v e1 e2 e3=>?_⟩,aI y c h,DP,fun y c h=>I.freeC y c (sub y c h),lv,I.hok.kept k1,?_⟩
  . show(mN,c,B.cells I y (B.has y hy))
    show(aO,c,xmq (B.has y hy) e)
  . exact ZS (hz b hb)
  . rcases bc (b8 zM) with z|z
    . exact I.ok.noex b o e z
    . show(zq,ZG (Z0 zaT) z)
  . have ln:(List.replicate zs.length (none:cc)).length=zs.length:=QY
    by_cases lt:i<zs.length
    . have e2':Ou[i]?=zY:=e2
      unfold blk0 at e2';rw[Jc (aA ln lt),QO] at e2';ext LQ e2'
    . show(Et,k,∃ k,i=zs.length+k,i-zs.length)
      have e2':(R9,(Di).join)[k]?=zY:=by
        have z:Ou[zs.length+k]?=zY:=e2;unfold blk0 at z;rw[J0 (lq ln),ln] at z;simpa using z
      have e1':eY ys k y:=by
        have z:(eY,zs++ys,zs.length+k,y):=e1;rw[J0 aa] at z;simpa using z
      rw[Zc] at e2';show(ag,j,hj,ej,Ze.mp e2');have ev:Z[j]?=zY:=by
        cases q:Z[j]? with
        | none=>ext cF q ej ej
        | some w=>rw[q] at ej; ext F7 some ej
      have eN:cC X.N y:=by
        have z:=xH (fun l=>l[k]?) B.slots;simp only[Zc,hj,e1',Qy] at z;exact ZO.inj z
      have my:y∈ys:=Zk e1';show(BV,m,lk,I.loc)
      show(ag,u,r,l,lk j y v eN ev (.inr (.inl zpP)));show(d9,u,r,.inr (eW,B.ysc y my));rcases l with⟨kk,_⟩|⟨_,c,e,o,ho,hd⟩
      . have z:=zpP
        show(cF,show (ae,X.env.scope.names.lookup y,.local) from kk,z,z)
      . exact⟨c,xmq (B.ysf y my) e,o,k1 c o ho,hd⟩
  . show(jN,v,o,ho,hd,I.cell y c (sub y c h))
    exact(bQ,v,o,k1 c o ho,hd)
  . have hp':p∈n6:=zaX
    obtain⟨a1,a2,a3,a4,a5⟩:45:=I.pin p hp';exact(cA,k1 _ _ a1,a2,ZS (Z0 a1),(aj,(eJ (I.stkSub _ z)).elim a3 a4),a5)
  . have z:=uO B.slots
    simp only[Za] at z;simp[blk0,z]
#check _
section
variable {X:Cx}{pins:List (Addr × Obj)}{Z:St}{H:Hp}{s:Shared}{scope:Scope}{zs:List Str}{ys:List Str}{fr:List Nat}{fp:List Addr}
theorem Inv.unblkG {C:Addr}{s':Shared}{h2:Heap}{σ':St}{H':Hp}{pl:bp} (I:ax) (hf:Nv) (hC:Ef C) (J:Inv (X.blkG scope zs ys C fp s H n6) pl σ' H' s') (sb:Jt C s'.heap h2) :
    cT H' XX:=by
  have kp:∀ b o,b≠C->(ae,s'.heap.get? b,o)->zax:=fun b o nb g=>(sb.2 b nb).trans g;have old:(rX,jH,b≠C):=fun b o g=>ZS (ZG (Z0 g) hC);have trk:(uI,(ae,H' b,u),b≠C):=fun b u hb z=>by
    have f:H' C=none:=J.free;rw[z,f] at hb;cases hb
  refine I.call' (s':=XX) J.os (ch:=fp) ⟨fun b o e n hb hx=>kp b o (old b o e) (J.base.keep b o e n hb hx),fun b o e n hb hx=>?_,fun b o e n hx=>J.base.free b o e n hx,Ro,J.base.tups,J.base.frzs,J.base.tbls⟩ (aI b u hb) J.bare iC
  . show(hX,sl,J.base.slot b o e n hb hx)
    show(aO,sl,kp b _ (old b o e) q)
  . show(hX,o',J.base.there b o e hx)
    show(aO,o',kp b o' (old b o e) q)
  . refine (J.hok b u hb).stay (bX c v hc q) (fun c q=>q) (Fp q)
    rcases hc with rfl|hc
    . exact kp c v (trk c u hb) q
    . exact kp c v (trk c _ hc) q
  . obtain⟨_,a1,_,a3,a4,a5⟩:46:=zM
    exact bW a3 a1 a4 a5
#check _
noncomputable def GOk (n:Nat) (g:TG):Prop:=∀ v Z H Q,g v Z H Q->g v Z H MS
theorem xbk {i n:Nat} (h:f7):GOk n (xcp i):=fun v Z H Q q=>⟨q,ap,fun j hj=>(eG,Qx aa)⟩
noncomputable def xeh (J:It) (n:Nat) (g:TG) (Z:St) (fr:rp) (tc:TT) (te:TE) (l:Addr) (H1:Hp) (Q:VK):Prop:=∃ W:Cb zG,(∃ m,W 0 m [] (sv H1 l))/\∀ i m xs H2,W i m xs H2 ->
 (J.stop i H2/\Li)\/(J.go i H2/\∀ v H3,J.yld i H2 v H3->g v (blk0 Z fr n) H3 fun σ' H3'=>tc σ' H3' fun b H4=>if z6 then
  (zie (B8,m,W aX m' L3 (fw H5 l L3))) else (B8,m,W aX m' xs H4))
noncomputable def xl7 (wi:TI) (n:Nat) (g:TG) (fr:rp) (tc:TT) (te:TE):TE:=(kC,wi Z H fun J H1=>∀ l,vM->xeh J n g Z fr tc te l H1 Q)
section
variable {X:Cx}{scope:Scope}{zs:List Str}{ys:List Str}{fr:List Nat}{elt iter tg:Expr}{g:TG}{ifs:List Expr}{px pos:Pos}{wi:TI}{tc:TT}{te:TE}
theorem xiy {pins:bp}{s:Shared}{Z:St}{H:Hp}{Q:VK}{U:dG (Value->Sem Unit)}{R:bA} (hc:mE) (B:xT) (hi:Pf) (hg:∀ C ex s H pn,(∀ x∈zs,(ae,(qO).names.lookup x,.local))->Bc->PG (X.blkG scope zs ys C ex s H pn) tg g) (gok:zbP)
    (hif:Xo (X.blkG scope zs ys C ex s H pn)) (he:XE (X.blkG scope zs ys C ex s H pn)) (I:ax) (h:xl7 wi zs.length g fr tc te Z H Q)
    (fin:∀ C l H' s' m,(aR,AI C,C≠X.env.locals,yp C,Il C)->(bg,H' C=none,s'.heap.Ns C m,(∀ h2,Jt C s'.heap h2->(cT H' XX)),nF l,compPost aS X.A X.xe U R mX C (.ok .next) s')) :
    wpAny aS X.A (lD iter) (fun v s1=>wpAny aS X.A (pyIter v) (fun it s2=>wpAny aS X.A (newList []) (fun acc s3 =>
      wpAny aS X.A (newFunctionEnv scope X.env.globals BI [] X.env.qual none .none (some X.env)) (fun cenv s4 =>
        codeAny aS X.A (.compStart FD 0 it acc { cenv with scope:=qO }) (compPost aS X.A X.xe U R acc cenv.locals) s4) X.xe s3) X.xe s2) X.xe s1) X.xe s:=by
  show(jX,hi pins s Z H _ I h,zkn);obtain⟨it,fp,tn,J,⟨H2,rfl,I2,T,st2,f2,body⟩⟩:121:=h2;have hN:H2 s2.heap.objs.size=none:=I2.hok.fresh (Zl _);obtain⟨W,⟨m0,w0⟩,turn⟩:62:=body s2.heap.objs.size hN;refine YG ?_;generalize hs3:({ s2 with heap:=s2.heap.push (iY,"list",.seq ([]:aY).toArray) }:Shared)=s3;have k3:rX (ae,s2.heap.get? b,o) (ae,s3.heap.get? b,o):=fun b o g=>(cY,hs3,Zj _ g)
  have I3:cT uT s3:=by
    show(jp,hs3,I2.laid (t':=s2.toks) zfp bv ⟨iQ,bQ [] 0 .nil gq⟩)
  have z2:∀ b∈fp,b<s2.heap.objs.size:=fun b hb=>by
    ext zox g
  have z3:∀ b∈fp,b<s3.heap.objs.size:=fun b hb=>by
    show(zox,k3 b o g)
  show(bj,f3,∀ b∈fp,FpOk X pins uT b,b,hb,⟨(aA,xj (ZS (z2 b hb)),(f2 b hb).1),(f2 b hb).2⟩)
  show(cK,st3,tn 0 s3.heap,T.keep _ _ _ st2 fun b _ o g=>k3 b o g,wpAny_newFunctionEnv B.ncell (by intro y hy; simp at hy) (aI h1 n1 sb1) B.kind);show(cG,k4,rX (ae,s3.heap.get? b,o) (ae,h1.get? b,o),fun b o g=>sb1.extBut b o (ZS (Z0 g)) (Zj _ g),I4,I3.blkG (t':=zog) B f3 z3 n1 k4);have st4:tn 0 h1:=T.keep _ _ _ st3 fun b _ o g=>k4 b o g;show(bj,own',∀ x∈zs,(ae,(qO).names.lookup x,.local),x,hx,lookup_relabel_local (B.own x hx))
  -- the iterator's objects,through the loop
  have stat:(zqX,FpOk (X.blkG scope zs ys s3.heap.objs.size fp s3 uT n6) [] H' b):=fun hn b hb=>by
    obtain⟨_,a1,a2,a3,a4,a5⟩:46:=f3 b hb;exact⟨46,hn b hb,ZS (z3 b hb),(aj,(Zq.mp (I3.stkSub b z)).elim a1 a2),.inl hb,fun y c h=>a4 y c (B.sub I3 h),(dX,a5 p zaX)⟩
  have loop:∀ s4:Shared,s4={ s3 with heap:=h1,toks:=zog } ->
      codeAny aS X.A (.compLoop FD 0 FW DH (compEnvC scope BI s3.heap.objs.size X.env))
        (compPost aS X.A X.xe U R DH s3.heap.objs.size) s4:=by
    rintro s4 rfl;refine xi1 (nH n (znK,X.blkG scope zs ys s3.heap.objs.size fp s3 uT n6,s',s'.heap,W i n xs H')) ?_ m0
      ⟨104,0,[],_,I4,st4,(oG,(f3 b hb).1),w0⟩
    rintro n s5 (⟨i,xs,H5,I5,st5,fr5,w5⟩:104);rcases turn i n xs H5 w5 with⟨stop,q⟩|⟨go,step⟩
    . show(Bh,T.done (X.blkG scope zs ys s3.heap.objs.size fp s3 uT n6) rfl rfl rfl hc i [] s5 _ H5 vw I5 (stat fr5) st5 stop,(fun r s6 ⟨hr,I6⟩=>?_))
      subst hr;show(iB,m,hm,I6.loc)
      exact fin _ _ H5 s6 m ⟨I3.sz,(I3.size_lt (Zl _)).2⟩ I6.free hm (fun h2 sb=>I3.unblkG f3 bv I6 sb) q
    . show(Bh,T.item (X.blkG scope zs ys s3.heap.objs.size fp s3 uT n6) rfl rfl rfl hc i [] s5 _ H5 vw I5 (stat fr5) st5 go,we r s6 u hr h6)
      subst hr;show(Bh,h6,(fun _ s7 ⟨y,H7,I7,r7,y7,st7,fr7⟩=>?_));have I7':=I7.pinned (stat fr7) (T.obj _ _ st7);show(Bh,hg _ _ _ _ _ own' B.ndb _ s7 _ H7 y u _ I7' r7 (gok _ _ _ _ (step y H7 y7)),(fun _ s8 ⟨σ8,H8,I8,q8,l8,k8⟩=>?_));have back:∀{s9:Shared}{H9:Hp}{xs':af},Inv (X.blkG scope zs ys s3.heap.objs.size fp s3 uT n6) ([]++xg1 fp s7.heap) σ8 H9 s9->(B8,n,W aX m' xs' H9) ->
          (TK (znK,X.blkG scope zs ys s3.heap.objs.size fp s3 uT n6,s9,s9.heap,W i m xs H')):=fun {s9 H9 xs'} I9 ⟨m',lt,w9⟩=>by
        show(d9,m',lt,⟨104,aX,xs',H9,I9.unpinned.weak l8.symm (gZ j v),T.keep _ _ _ st7 (fG,b,hb,o,(I9.pin Dd N3).1),iC,w9⟩)
        . by_cases lj:j<zs.length
          . unfold blk0 at e
            rw[Jc (aA QY lj),QO] at e;ext LQ e
          . show(aD,k8 j aa,e)
        show(ag,o,e,d,T.obj _ _ st7 b hb);exact bc (I9.pin Dd N3)
      show(Bh,hif _ _ _ _ _ _ s8 _ H8 _ I8 q8,we ok s9 H9 I9 q9);cases ok with
      | false =>
        rw[wF] at q9 ⊢;exact back I9 q9
      | true =>
        rw[cp] at q9 ⊢;show(Bh,he _ _ _ _ _ _ s9 _ H9 _ I9 q9,(fun ev s10 ⟨yv,H10,I10,r10,hl,len,w10⟩=>?_));refine Ji (xdr (X:=X.blkG scope zs ys s3.heap.objs.size fp s3 uT n6) _ s10 _ H10 DH [yv] DH [ev] (kS,H',H'=(fw H10 s2.heap.objs.size (xs++[yv]))) I10 rfl (.cons r10 .nil) (Au,_,xs,yv,xJ hl len rfl))
          (fun _ s11 ⟨_,H11,I11,_,e11⟩=>?_) (mQ z.elim)
        subst e11;exact back I11 w10
  exact codeAny_compStart_list (loop _ rfl) (T.self _ 0 _ _ _ st4 (loop _ rfl))
theorem xa6 (hc:mE) (B:xT) (hi:Pf) (hg:∀ C ex s H pn,(∀ x∈zs,(ae,(qO).names.lookup x,.local))->Bc->PG (X.blkG scope zs ys C ex s H pn) tg g) (gok:zbP) (hif:Xo (X.blkG scope zs ys C ex s H pn)) (he:XE (X.blkG scope zs ys C ex s H pn))
    (hs:U9:=by intro _; rfl):PE X FD (xl7 wi zs.length g fr tc te):=by
  intro pins s Z H Q I h;rw[eval_ListComp];refine wpAny_comprehension_free (use:=none) rfl hs (xp8 (B.cells I)) B.kind B.names (xiy hc B hi hg gok hif he I h fun C l H' s' m _ _ hm iv q=>?_);show(aE,m,hm,fun h2 sb=>(kL,mX,H',iv h2 sb,q))
theorem xcn {j:Nat}{y:Str}{py spos:Pos} (hc:mE) (B:xT) (hi:Pf) (hg:∀ C ex s H pn,(∀ x∈zs,(ae,(qO).names.lookup x,.local))->Bc->PG (X.blkG scope zs ys C ex s H pn) tg g) (gok:zbP) (hif:Xo (X.blkG scope zs ys C ex s H pn)) (he:XE (X.blkG scope zs ys C ex s H pn))
    (hj:cC X.N y) (hy:Loc X.env.scope y) (hf:X.fn y=true\/(ae,X.env.scope.names.lookup y,.local):=by first|ext wP|ext z0|ext dZ)
    (hsw:swapsWith FD (some (.Name y py)) spos.line X.env=pure true:=by rfl)
    (hs:U9:=by intro _; rfl):PS X (.Assign [.Name y py] FD spos) (tAsg (xl7 wi zs.length g fr tc te) (xcp j)):=by
  intro pins s Z H D I h;rw[exec_Assign_Name_used _ _ _ _ hsw];show(Ap,wpAny_standAt (Zg ?_),wpAny _ _ (do let _ <- comprehension FD scope X.env _ (newList []) false (lD iter) zkO) _ _ s);refine Zg (Ji (wpAny_comprehension_free (use:=zkO) (Q:=fun _ s'=>SP X pins D .next s') rfl hs (xp8 (B.cells I)) B.kind B.names
    (xiy hc B hi hg gok hif he I h fun C l H' s' m hC hn hm iv q=>?_)) (fun _ s' z=>Zo (Zo z)) fun _ _ e=>e)
  show wpAny _ _ (assign (.Name y py) X.env (.ref l)) _ _ _;have J:vU:=iv s'.heap (.refl ..);refine wpAny_assign_Name (xjs (v:=V.ref l) J B.nd hj hy rfl (we s2 J2 a sb ha) hf);have na:a≠C:=by
    rcases ha with z|z
    . rw[z]; exact Z2 (bc hC)
    . exact (b8 hC).1 _ _ z
  refine⟨m,?_,aq h2 s3⟩
  . obtain⟨o,es,ep,g,r⟩:102:=hm
    exact(BB,o,(sb.2 C (Z2 na)).trans g,r)
  . exact(bQ,_,H',J2.turned (t':=s2.toks) (fun b o nb g=>(s3.2 b nb).trans g) hn (bc hC) (.inr hC.1) (An hC) (b8 hC).2,q)
#check _
noncomputable def xlz (scope sc0:Scope) (N0:am) (zs:am) (ys:am) (fr:rp):Bool :=
 scope.kind == .function&&zs.all (fun x=>scope.names.lookup x == some .local)&&scope.names.all (fun y=>y.2 != .cell)&&scope.names.all (fun y=>y.2 != .local||scope.names.lookup y.1 == some .local) &&
 (tH).all (fun n=>sc0.names.lookup n == some .cell)&&(R9,N0[i]?) == ys.map some&&ys.all (fun y=>zrf == some .free)&&(cP N0.Nodup)&&(cP Bc)
theorem xr9 {X:Cx}{scope sc0:Scope}{N0:am}{zs:am}{ys:am}{fr:rp} (chk:xlz scope sc0 N0 zs ys fr=true) (es:X.env.scope=sc0) (eN:X.N=N0):xT:=by
 unfold xlz at chk;simp only[Z7,beq_iff_eq,JE,decide_eq_true_eq] at chk;obtain⟨⟨⟨⟨⟨⟨⟨⟨a1,a2⟩,a3⟩,a4⟩,a5⟩,a6⟩,a7⟩,a8⟩,a9⟩:=chk;show(av,nc,VD,oF (BD,a3 y hy),⟨a1,a2,nc,aI y hy hl,fun n hn=>(aA,es,a5 n hn),fun n h=>xpg nc n h,aA eN a6,KR,(oF,xog (a7 y hy)),aA eN a8,a9⟩)
 .show(B7,a4 y hy,hl);simpa using z
 .exact Zf.mpr (cE,(y,.free),Zz.mpr ⟨JM (a7 y hy),ap⟩)
theorem xay {X:Cx}{scope sc0:Scope}{N0:am}{zs:am}{ys:am}{fr:rp} (chk:xlz scope sc0 N0 zs ys fr=true) (es:X.env.scope=sc0) (eN:X.N=N0) (_:X.stack=X.env::X.outer):xT:=xr9 chk es eN
theorem xbw {K:Zd}{m n:Nat}{t:TGs} (h:ziZ):GOk n (gTup K m t):=fun v Z H Q q=>by
 obtain⟨a,xs,e,hs,hl,q⟩:=q;exact⟨a,xs,e,hs,hl,h _ _ _ _ q⟩
theorem xbl {n:Nat}:∀ vs Z H Q,gNil vs Z H Q->gNil vs Z H MS:=fun vs Z H Q q=>by
 obtain⟨e,q⟩:=xsg q;ext cW;ext se q gK
theorem xaa {i n:Nat} (hi:f7) {t:TGs} (h:ziZ) :
    ∀ vs Z H Q,xn7 (xcp i) t vs Z H Q->xn7 (xcp i) t vs Z H MS:=fun vs Z H Q q=>by
  show(jN,v,r,rfl,q,xsa q);have z:=h _ _ _ _ q;show(bj,e2,∀(j:Nat),n<=j->pk[j]?=Z[j]?,j,hj,(eG,Qx aa))
  have e1:(pk).length=Z.length:=ap
  have key:(Ca (XA,(pk).length,∀ j,n<=j->σ'[j]?=pk[j]?))=(fun σ' (H':Hp)=>(XA,Z.length,∀ j,n<=j->σ'[j]?=Z[j]?)):=by
    funext σ' H';rw[e1];refine propext ⟨(zmf,(c j hj).trans (e2 j hj)),(zmf,(c j hj).trans (e2 j hj).symm)⟩
  ext bV key z z
theorem xc8 {J:It}{n:Nat}{g:TG}{Z:St}{fr:rp}{tc:TT}{te:TE}{l:Addr}{H1:Hp}{Q:VK} (len:Nat) (Pv:Nat->zG) (h0:Pv 0 [] (sv H1 l)) (hgo:∀ i xs H,i<len->Pv i xs H->J.go i H)
    (step:∀ i xs H2 v H3,i<len->Pv i xs H2->J.yld i H2 v H3->∀ N:zG,(∀ xs' H',Pv aX xs' H'->N xs' H')->g v (blk0 Z fr n) H3 fun σ' H3'=>tc σ' H3' fun b H4=>if z6 then
      (zie,N L3 (fw H5 l L3)) else N xs H4)
    (fin:∀ xs H2,Pv len xs H2->J.stop len H2/\Li):xeh J n g Z fr tc te l H1 Q:=by
  show(fX,fun i m xs H=>(bM,m,len-i,i<=len,Pv i xs H),S3 len);rintro i m xs H2 (⟨rfl,hi,p⟩:43);by_cases lt:i<len
  . show(rE,hgo i xs H2 lt p,fun v H3 y=>step i xs H2 v H3 lt p y (fun xs' H'=>∃ m',(aR,m'<len-i,m'=len-aX,aX<=len,Pv aX xs' H')) fun xs' H' q=>fb 64 aa rfl lt q)
  . ext tW i len aa;show(dR,fin xs H2 p)
section
variable {X:Cx}{pins:List (Addr × Obj)}{Z:St}{H:Hp}{s:Shared}
theorem Inv.adopt {p:Addr}{o:HO} (I:ax) (n:rS) (h0:AI p) (hL:p≠X.env.locals) (hC:yp p) (hp:∀ q∈n6,q.1≠p)
    (new:xbc X.prog X.w (eO p o) s.heap p o):cT (eO p o) s:=by
  show(av,ne,(uI,jd,b≠p),(qz,xi e n),⟨I.ok,I.os,I.bare,⟨I.base.keep,I.base.slot,bN b ob e hn hx,I.base.there,Ld,fG b ob u ?_,gZ b ps⟩,I.loc,I.cell,?_,gZ x c,aq q hq,wn,I.len⟩)
  . show(aD,xj (ZS (wJ h0)),I.base.free b ob e hn hx)
  . have z:=I.base.tups b xs e
    show(ip,ne b _ z,z)
  . have z:=I.base.frzs b ob u e
    show(ip,ne b _ z,z)
  . show(pK,m,z,I.base.tbls b ps e,m,cS (ne b _ z) z)
  . show(As,hL,I.free)
  . show(ip,hC x c e,Ru)
  . show(jb,a1,a2,a3,I.pin q hq)
    show(aE,a1,(aA,xj (hp q hq),a2),a3)
  . ext CJ p
    . subst hb
      ext uC xk e new
    . rw[xj hb] at e
      exact (zeS).stay PN (fun c q=>cS (ne c _ q) q) (Fp,cS (ne c _ q) q)
theorem Inv.thaw {d:Addr}{o:Obj}{u:HO} (I:ax) (e:aT d LH) (nf:xL):cT (eO d u) s:=by
 have ne:∀ b v,(aT b v)->(∀ o' u',v≠.frz o' u')->b≠d:=fun b v h1 h2 z=>by
  subst z;ext bG e h1 h1;exact h2 _ _ rfl
 have ne0:(gY,dE,b≠d):=fun b h1 z=>by
  subst z;ext cF e h1 h1
 refine⟨I.ok,I.os,I.bare,⟨I.base.keep,I.base.slot,bN b ob q hn hx,I.base.there,aI b xs q,bX b ob v q,aI b ps q⟩,I.loc,I.cell,?_,aI x c q,lv,aI b v q,I.len⟩
 .have z:=I.base.free b ob q hn hx;show(aD,xj (ne0 b z),z)
 .have z:=I.base.tups b xs q;show(ip,ne b _ z XY,z)
 .have z:=I.base.frzs b ob v q;have hb:b≠d:=fun w=>by
   subst w;exact nf _ _ q
  ext ip hb z
 .obtain ⟨m,z⟩:=I.base.tbls b ps q;show(aO,m,cS (ne b _ z XY) z)
 .show(cq,xj (ne0 _ I.free),I.free)
 .rw [xj (ne0 _ (I.freeC x c q))];exact I.freeC x c q
 .obtain ⟨a1,a2,a3⟩:43:=SW;show(aE,a1,cS (ne0 _ a2) a2,a3)
 .have st:∀(a:Addr) (v:HO),xbc X.prog X.w H s.heap a v->xbc X.prog X.w (eO d u) s.heap a v:=fun a v k =>
   k.stay PN (fun c q=>zqz) (Fp zqz)
  ext CJ d
  .subst hb;ext bG xk q q;obtain⟨g,ok⟩:=I.hok b _ e;exact st _ _ ok
  .rw [xj hb] at q;exact st _ _ (I.hok b v q)
theorem Inv.nofrz {d:Addr}{kvs:bD} (I:ax) (e:sF d):xL:=fun o' u' z=>by
 ext zkH
theorem KV.get:∀{kvs:bD}{vs:PU}{i:Nat}{k:Key}{x:V},ki->nU->∃ u,(ba vs (k,u))/\ou
 | _,_,_,_,_,.nil,e=>Bw
 | _,(_,_)::_,0,_,_,.cons r _,e=>by
  ext BM;obtain⟨r1,r2⟩:=r
  dsimp only at r1 r2
  subst r1;exact cN r2
 | _,_,aX,k,x,KU,e=>by
  show(ag,u,h1,h2,KV.get (i:=i) (k:=k) (x:=x) t vp);ext aE u qP h2
theorem xp0 {P:Program}{w:World}{k:Key}{u:Value} (h:(uf).is k u=true):zdg:=by
 rcases xby (vP,xf7 k u,h) with⟨i,t,rfl,rfl⟩|⟨x,t,rfl,rfl⟩
 .exact lL t
 .exact lL t
theorem xiq {d:Addr}{o:Obj}{kvs:bD}{ep:Nat} (I:ax) (e:WK) (hep:∃ es,kT):∃ vs,ki/\s.heap.DictAt pG d vs ep:=by
 obtain⟨g,_,_,⟨vs,rel,o',es',ep',g',ex,hdat,hk,hp,hn⟩⟩:44:=I.hok d _ e;ext bG g g' g';obtain⟨es,he⟩:=hep;ext bG he hdat hdat;show(aE,vs,rel,⟨86,o,_,g,ex,he,hk,hp,hn⟩)
#check _
noncomputable def Iti (d:Addr) (o:Obj) (kvs:bD):It :=
 (znb,∃ p k x,(aR,nU,cQ v p,rS,H'=(C6 [kV k,x])))
theorem xod {P:Program}{w:World}{K:Zd}{elts:kg}{x1}{tpos:Pos} (d it:Addr) (o:Obj) (kvs:bD) (ep:Nat) (hep:∃ es,kT) :
    Turn P w K xV (Iti d o kvs) sw it (dH,h,∃ ok ov,IsItemIter h it d i kvs.length ep ok ov) where
  mem:=ap
  obj:=fun i h st b hb=>by
    ext sX;ext Ei;exact⟨_,st,fun v z=>by
      ext Nb⟩
  keep:=fun i h h' ⟨ok,ov,st⟩ k=>⟨ok,ov,RS⟩
  item:=by
    intro X hP hw hK hc i pins s Z H E I hf st hg;ext i9;ext Ei;ext tS lt hg;ext NY;obtain⟨f0,f1,f2,f3,f4,f5⟩:46:=ku;ext zlR;rw[hl] at st;refine wpAny_pyNext_items_item st da hv fun key h' hkey hout ht hz hkp=>?_;ext tR zhQ;have kk:Oj zaf:=(KJ,(hsb.2 b hb).trans (hkp b o hb g));show(Aa,zrn,I.turned (t':=s.toks) kk f0 f1 f3 f4 f5);ext kq n0 nL nC nP VS;ext zhy;show(av,hp,(VM,#[key,u]),(hsb.2 _ pne).trans ht,⟨85,uX,zam [kV k,x],I1.adopt n0 I.sz nL nC nP (zaH,[key,u],.cons (xp0 hkey) (.cons ru .nil)),rfl,⟨104,_,k,x,hx,rfl,n0,rfl⟩,?_,iC⟩)
    . rw[<- hl] at hit'
      exact cI _ hit'
    . ext sX;ext As pne f0
  done:=by
    intro X hP hw hK hc i pins s Z H E I hf st hg;ext i9;ext Ei;ext tS le hg;ext NY;obtain⟨f0,f1,f2,f3,f4,f5⟩:46:=ku;ext GJ;show(bV,hl,st,wpAny_pyNext_items_end jM st da (BD zaQ) (Br,I.turned (t':=s.toks) va f0 f1 f3 f4 f5))
  self:=zhz
noncomputable def xwj (X:Cx) (to:TE):TI:=(MU,H1 d=some (.dK kvs),∀ ob,xL->R (Iti d ob kvs) xP)
section
variable {X:Cx}{o:Expr}{to:TE}{elts:List Expr}{x1:_}{tpos apos cpos:Pos}
theorem xq4 (ho:K9) (hbase:GK "items":=by rfl) (hline:GL:=by rfl) :
    PI X xV (AA "items" []) (xwj X to):=by
  intro pins s Z H R I h;show(zlP,ho pins s Z H _ I h,fun v s1 ⟨x,H1,I1,r1,q1⟩=>?_);obtain⟨d,kvs,e1,e,q⟩:83:=q1;ext Sx;obtain⟨z,hd,⟨vs,rel,dd⟩⟩:43:=xg9 I1.hok e;obtain⟨ob,es,ep,g,ex,hdat,hk,hp,hn⟩:106:=id dd;refine⟨86, "dict", "dict.items",JW,Qa,PySem.F.type_dict_items,dd.typeIs,aq a e2,zli⟩
  . cases e2
    show(aE,ob,g,bc ex)
  refine Qc Qa dd.typeIs PySem.F.entry_dict_items zmQ (meets_dict_items pG d hd) (eW ⟨vs,dd⟩);show(cK,da,(zai,"dict_items",#[ju]).DictAt pG d vs ep,⟨86,ob,es,Zj _ g,ex,hdat,hk,hp,hn⟩,wpAny_pyIter_items (s:=MZ) BF da ?_);ext zfZ
  have I3:cT xP s2:=(zgu,I2.hok d _ e);have I4:cT xP (MQ,#[.none,I0,ju,wx,zby,B5,.none,.none]) :=
    zok
  have fin:PIE X pins Z xV R DH (MQ,#[.none,I0,ju,wx,zby,B5,.none,.none]):=by
    show(zkS,⟨66,xP,rfl,I4,xod d _ ob kvs ep ⟨es,hdat⟩,eX .none .none,iC,q ob (I1.nofrz e)⟩)
    . ext GJ
      show IsItemIter _ _ d 0 kvs.length ep .none .none;ext aD hl gq
    . show(MR,s2.heap.objs.size)
  exact fin
theorem xr6 {pins:bp}{Z:St}{Q:VK}{u:Value}{s:Shared} (h:EP X pins Z (kS H2 zhs) u s):EP X pins Z Q u s:=by
 obtain⟨v,H2,I2,r2,⟨d,ob,u',e,nf,q⟩⟩:83:=h;exact(aZ,v,_,I2.thaw e nf,r2,q)
theorem xtn {e:Expr}{t:TE} (h:PE X e t):PE X e (kC,t Z H fun v H2=>zhs):=fun pins s Z H Q I q =>
 thn (h pins s Z H _ I q) (mQ,xr6 z)
#check _
#check L2
namespace PySem.F
theorem xl_plain_dict_loop:plainId "dict.update.loop"=true:=aK
theorem xl_entry_dict_loop:(ae,entryFor table "dict.update.loop",Builtin.«dict.update.loop»):=entryFor_of_tree (by kernel_rfl)
theorem xl_list_nokeys:typeLookup (.type "list") "keys"=pure none:=by rw[typeLookup_type,builtinLookup_eq_fast]; kernel_rfl
#check PySem.F
namespace L2
open PySem PySem.Spec PyProof.Rows XL
variable {q0:Bool}
theorem xp5 {prog:Program}{w:World}{A:Around}{E:bA}{s:Shared}{a:Addr}{o:Obj}{xs:gL}{k:Nat}{Q:FO}
    (hx:DU o) (hc:KI "list") (hdat:o.data=.seq xs k) (hd:zff) (hA:zcJ)
    (h:∀ h' tk,(rX jH ya)->Q none L6):wpAny bz A (getAttr? (.ref a) "keys") Q E s:=by
  obtain⟨c,dct,dat,sl⟩:=o;simp only at hc hdat hd;subst hc hdat hd;ext AJ d;have hT:∀ tk',(⟨hp,g,d,tk',os⟩:Shared).TypeIs (.ref a) "list":=fun _=>dP hx
  show(ah,f1,sub_AttributeError,f3,QE.lookup);show(ah,f4,QE.bind (.ref a),f5,am_list_getattr_none);unfold getAttr? getAttrBy? getAttrBy
  repeat (any_goals (first|ext dZ|exact hT _|((with_reducible show wpAny _ _ (call (Qw "list.__getattribute__") _ _) _ _ _); refine Wr QE (hT _) am_entry_list_getattribute (F.args_list_getattribute_2 _ _) (meets_getattribute_miss_list a xs k sl "keys" _ F.xl_list_nokeys aK (by size_fits)) ⟨hx,hA,bX h' tk' e hx'⟩)|wp_step))
  show(Gy,t',u',he,hx'.there)
  have hk:=hx'.of.keeps;show wpAny _ _ (getattributeRaised _ _ _ _ _ _ _) _ _ _;unfold getattributeRaised
  repeat (any_goals (first|ext dZ|wp_step))
  exact h _ _ hk
section
variable {X:Cx}{pins:List (Addr × Obj)}{Z:St}{H:Hp}{s:Shared}{a:Addr}{y v:V}{u r:Value}{A:Around}{E:Value->Shared->Prop}
theorem xpo {H':Hp}{Q:y0} (hu:zds) (I:ax) (g:DPut H a y v H') (ry:gg) (rv:RelV v r) (h:Re vU) :
    wpAny aS A (dictSet a u r) Q E s:=by
  rcases g with⟨kvs,k,e,ey,l,eH⟩|⟨kvs,k,b,e,ey,eb,l,eH⟩
  . subst ey eH
    obtain⟨z,hd,⟨vs,rel,dd⟩⟩:43:=zfd;show(zgD,wpAny_dictSet_pairs (hsz:=hz) Ab dd N8);show(UO,hl,rel.put k rv)
  . subst ey eH
    ext X3;obtain⟨z,hd,⟨xs,rel,dd⟩⟩:43:=zfc;show(zhx,wpAny_dictSet_heap (hsz:=hz) (show (NJ).room A from hu) BA dd N8);obtain⟨q,es,ep,hq,h2,h3,h4,_,h5⟩:106:=dd';refine xeb I zb hs SY ⟨hl,hd,_,(rel.put k eb rv).keeps (aI c ys ec),⟨105,q,es,ep,hq,h2,h3,h4,h5⟩⟩;show(ip,xdd ec e dw,ec)
theorem DPut.stay {d b:Addr}{H':Hp}{o:HO} (g:DPut H d y v H') (e:aT b o) (n1:∀ kvs,o≠L4) (n2:∀ kvs,o≠.dT kvs):(ae,H' b,o):=by
 rcases g with⟨kvs,k,e2,_,_,rfl⟩|⟨kvs,k,b2,e2,_,_,_,rfl⟩
 .show(cq,xj (xdd e e2 (n1 _)),e)
 .show(cq,xj (xdd e e2 (n2 _)),e)
theorem DPut.free {d b:Addr}{H':Hp} (g:DPut H d y v H') (e:dE):BL:=by
 rcases g with⟨kvs,k,e2,_,_,rfl⟩|⟨kvs,k,b2,e2,_,_,_,rfl⟩
 .show(cq,kP (xi e2 e),e)
 .show(cq,kP (xi e2 e),e)
#check _
inductive xep (d:Addr):Hp->(nG LD)
 | nil {H:Hp}:xep d H [] H
 | cons {H H1 H2:Hp}{y v:V}{r:LD}:DPut H d y v H1->xep d H1 r H2->xep d H ((y,v)::r) H2
theorem xhq {X:Cx}{pins:bp}{Z:St}{A:Around}{R:zfj} (hh:A.in1.handled=none) (hu:A.in1.units<cLine) {l it d:Addr} :
    ∀(ps:El) (pre:af) (j:Int) (H H2:Hp) (s:Shared),ax->(vy l (pre++ps.map fun p=>.ref aJ))->WC->xep d H (ps.map (·.2)) H2 ->
      s.heap.IsListIter it l pre.length->FpOk X pins H it->(∀ s',(cT H2 s')->(zbF s')) ->
      codeAny aS A (.builtin "dict.update.loop" (jT [ju,FW,rawInt j,.none])) R s
  | [],pre,j,H,H2,s,I,hl,hp,dp,st,fo,fin=>by
    cases dp;obtain⟨z,its,n,r,hl2,e⟩:=I.lstM hl;obtain⟨f0,f1,f2,f3,f4,f5⟩:46:=fo;show(zhH,wpAny _ A.in1 (vo>>=_) _ _ s);show(Ap,wpAny_pyNext_list_end hh st (zP e eR) (by simp at hl2 ⊢; omega) (aq h' eb),wpAny _ A.in1 (Builtin.Dict.addKeywords d []>>=_) _ _ _);exact Zg (Zo (Zo (fin _ (I.turned (t':=s.toks) va f0 f1 f3 f4 f5))))
  | (a,y,v)::ps,pre,j,H,H2,s,I,hl,hp,dp,st,fo,fin=>by
    have fo':=fo;obtain⟨f0,f1,f2,f3,f4,f5⟩:46:=fo;cases dp with
    | @cons _ H1 _ _ _ _ g dp =>
    obtain⟨z,its,n,r,hl2,e⟩:=I.lstM hl;show(ag,u,hu1,ru,r.get (i:=pre.length) (x:=bq) ap);ext rW u a ru;show(zhH,wpAny _ A.in1 (vo>>=_) _ _ s);show(cJ,wpAny_pyNext_list_item st (zP e eR) (x:=bq) (by simpa using hu1) zcv);show(Aa,nR,I.turned (t':=s.toks) (nh,hb,(sb.2 b hb).trans e) f0 f1 f3 f4 f5);obtain⟨z2,ts,rt,ot,et,ct,nt,dt⟩:=I1.hok a _ (hp _ Zm);obtain⟨uk,uv,rfl,rk,rv⟩:83:=xn8 rt;show wpAny _ A.in1 (holding j0 _>>=_) _ _ _;refine Zg (J4 ?_);refine Zg (wpAny_tryCatch ?_);unfold Builtin.Dict.pairItems;show(cJ,(QQ (T:="tuple") ⟨ot,et,ct⟩ ?_));rw[aN au];show(Ap,wpAny_seqItems et dt (Zo ?_),wpAny _ A.in1 (holding [uk,uv] (dictSet d uk uv)) _ _ _);have ob:∀ b∈sw,(VY ya):=fun b hb=>by
      show(Vj,id st')
    have I1':=I1.pinned (fp:=sw) (fun b hb=>by
      ext sX;exact fo') ob
    refine J4 (xpo hu I1' g rk rv (aq s' I2));ext zlV;have fo2:FpOk X pins H1 it:=⟨46,g.free f0,f1,f2,f3,f4,f5⟩
    have st2:s'.heap.IsListIter it l (pre++[V.ref a]).length:=by
      rw[Zr];exact st'.at (Am,(I2.pin (it,o) (Z4 _ (Z4 _ (xd0 ap e)))).1)
    refine xhq hh hu ps (pre++[V.ref a]) gH H1 H2 s' I2.unpinned ?_ SV dp st2 fo2 fin
    . have z:=g.stay hl OC OC
      rw[z];simp
    . exact g.stay (hp p (Zi _ hp')) OC OC
inductive xul (xs:af) (H:Hp) (Q:VK):Prop
 | mk (l:Addr) (ps:El) (e_:xs=[.ref l]) (r_:(aT l (.lst (ps.map PV)))/\WC/\∀ d,(bu d)->∃ e H2,(e=.dK []\/e=.dT [])/\xep d (eO d e) (ps.map (·.2)) H2/\(kK d H2))
theorem xco {X:Cx} (hc:mE) (hu:X.A.units+3<cLine):xcq X zeg xul:=by
 intro pins s Z H xs us Q I r h;obtain⟨l,ps,rfl,hl,hp,q⟩:=h;ext AQ;ext C9 l;refine callType_codes (Q₁:=fun obj s₁=>(cQ obj s.heap.objs.size)/\s₁=zst) F.kt_called_dict (F.kt_typeCall_dict_1 _) F.entry_dict_init (kt_code_dict_new _ oy) ?_;rintro obj s₁ ⟨rfl,rfl⟩;obtain⟨e,H2,he,dps,q2⟩:83:=q s.heap.objs.size I.fresh;have I1:zqh zst:=by
  refine I.laid (t':=s.toks) zfp bv ?_;rcases he with rfl|rfl
  .exact xh8 s.heap I.big
  .exact xk9 s.heap I.big
 have hT:(Shared.mk VL s.gens s.drawn s.toks s.os).TypeIs (.ref s.heap.objs.size) "dict":=dP gq
 have nl:l≠s.heap.objs.size:=fun z=>by
  rw[z,I.fresh] at hl;cases hl
 have hl1:(ae,upd H s.heap.objs.size e l,.lst (ps.map PV)):=cS nl hl
 obtain⟨z,its,n,rr,hll,el⟩:=I1.lstM hl1;show(fX,hT,F.args_dict_init_2 _ _);unfold Builtin.«dict.__init__»;ext F2;unfold Builtin.Dict.selfAndRest;show(cJ,Ql hT ?_);show wpAny _ _ (pure (s.heap.objs.size,[Zs l])) _ _ _;ext wD;show wpAny _ _ (Builtin.Dict.updateFrom "dict.__init__" s.heap.objs.size mX [] .none) _ _ _;unfold Builtin.Dict.updateFrom;show(cJ,QQ (T:="list") (dP el) ?_);rw[aN au];show(cJ,xp5 el rfl rfl rfl jM (aI h' tk hk));have I2:=I1.kept (h':=h') (t':=tk) hk;show wpAny _ _ (rule _>>=_) _ _ _;refine Zg (wpAny_rule ?_);show(cJ,(Q8 (zP,hk _ _ el,eR) ?_));ext zlV;show(cK,I3,zqh _,I2.kept (t':=tk) (h':=h'.push (iY,"list_iterator",.fields #[mX,wx])) vO,xhq (A:=X.A.in1) jM (vV,zft+1,cLine) ps [] 0 _ H2 _ I3 (by simpa using hl1) SV dps ?_ ?_ (aq s' I'))
 .rw [fW (hp p hp') I.fresh];exact hp p hp'
 .exact BF
 .exact I2.fpOk (Zl _) (I2.hok.fresh (Zl _))
 .exact bY (kL,.ref _,H2,I',q2)
theorem xgq {X:Cx}{e:Expr}{t1 t2:TE} (h1:PE X e t1) (h2:PE X e t2):PE X e (kC,t1 Z H Q\/t2 Z H Q):=fun pins s Z H Q I h=>h.elim (h1 pins s Z H Q I) (h2 pins s Z H Q I)
noncomputable def Itrs (lo d:Int) (n:Nat):It:=(VI,f7,x,x=.int (lo+cL*d),n<=i)
theorem xmc {P:Program}{w:World}{K:Zd}{tg:Expr} (it:Addr) (lo d:Int) (n:Nat):Turn P w K tg zeD sw it (ziQ d) where
 mem:=ap
 obj:=fun i h st b hb=>by
  ext sX;exact⟨_,st,fun v z=>by
   ext Nb⟩
 keep:=Iz RS
 item:=by
  intro X hP hw hK hc i pins s Z H E I hf st hg;ext i9;obtain⟨f0,f1,f2,f3,f4,f5⟩:46:=ku;show(zhq,d,W.item i s _ _ hg st fun v h' tk hv st' kk=>?_);show(Aa,L6,I.turned zrR f0 f1 f3 f4 f5);exact(cN,xhi (s:=L6) (n:="range_iterator") st' rfl rfl au ⟨85,.int (lo+cL*d),H,I1,lL t,oy,st',Fd⟩)
 done:=by
  intro X hP hw hK hc i pins s Z H E I hf st hg;ext i9;obtain⟨f0,f1,f2,f3,f4,f5⟩:46:=ku;show(zia,I.turned (t':=s.toks) va f0 f1 f3 f4 f5)
 self:=zkY
theorem xfx (a b:Int):Builtin.Range.rangeSize a b (-1)=(lz,b,a,a-b,0):=by
 unfold Builtin.Range.rangeSize;rw[az au];simp only[Int.neg_neg,Int.ediv_one];ext lB
theorem xni {a b:Int} (ha:-iL<=a) (ha':a<iL) (hb:-iL<=b) (hb':b<iL):Builtin.Range.small a b (-1)=true:=by
 unfold Builtin.Range.small;rw[xfx];simp only[Builtin.Range.rangeFitsLong,Z7,Bool.or_eq_true,decide_eq_true_eq,beq_iff_eq,(sP,¬ ((cV,-1)>0)),if_false];ext lB
section
variable {X:Cx}{tg:Expr}
theorem xj5 {pins:bp}{Z:St}{H:Hp}{s:Shared}{R:Md}{E:bA}{lo hi d:Int}{n:Nat}{t u v:Tok}{tk:Nat} (I:ax) (sm:Builtin.Range.small lo hi d=true) (sz:(WO d)=n)
    (q:R zeD H):wpAny aS X.A zlG zaE E (sA,Eg d):=by
  refine wpAny_pyIter_range (IsRange.new ..) sm ?_;have I1:nK (sA,Eg d):=I.kept vO;refine⟨121,zbv,[zbv],_,_,⟨66,H,rfl,
    zey vO,xmc _ lo d n,?_,iC,q⟩⟩
  . have e1:lo+wQ*d=lo:=ap
    have e2:(gP n)-wQ=(WO d):=lA sz
    show IsRangeIter _ _ (lo+wQ*d) ((gP n)-wQ) d;ext cD e1 e2 gq
  . ext MV zbv
noncomputable def xxa (ta:TA):TI:=(NG,∃ i j d:Int,(wY dY Gn d)/\ziV/\((d=1/\R (Itrs i 1 (gV j i)) H1)\/(d=-1/\R (Itrs i (-1) (gV i j)) H1)))
theorem xka {a b c:Expr}{ta:TA}{p pos:Pos} (hg:zec) (hm:zdY) (ha:PA X [a,b,c] ta) (hs:Bp [a,b,c] [jA EC,jA Bu,(jA,lD c)]:=by rfl) (hs2:Bp [b,c] [jA Bu,(jA,lD c)]:=by rfl) :
    PI X tg (OJ "range" [a,b,c]) (xxa ta):=by
  intro pins s Z H R I h;show(Ww,(JF (thn (ha pos pins s Z H _ I h) fun us s1 ⟨vs,H1,I1,r1,q1⟩=>?_) (bR hs hs2) (eS hs2)));obtain⟨i,j,d,e,⟨q1,q2,q3,q4⟩,q⟩:103:=q1;ext cW;cases r1 with
  | cons r rr =>
    cases rr with
    | cons r' rr =>
      cases rr with
      | cons r'' rr =>
        ext zoU;ext d6 t'' r'';rcases q with⟨rfl,q⟩|⟨rfl,q⟩
        . exact call_range_3 au (xj5 I1 (small_one q1 q2 q3 q4) V6 q) (YI (QT au))
        . exact call_range_3 au (xj5 I1 (xni q1 q2 q3 q4) (by rw[xfx]; ext lB) q) (YI (QT au))
#check _
theorem xfv {xs:af}{us:aY} (r:lI) {j:Nat} (h:j<us.toArray.size):∃ x,Lg/\RelV x us.toArray[j]:=by
 have hl:=r.length;have hj:j<xs.length:=Er h
 show(ag,u,h1,h2,r.get (x:=Db) oQ);ext fX Db oQ;have:us.toArray[j]=u:=by
  have z:=Zh.mp h1;obtain⟨z1,z2⟩:=z;simpa using z2
 ext aD this h2
theorem xe6 {A:Around}{k:Nat} (hr:BG):zfH 3:=gO hr.un
theorem xbg {A:Around}{k:Nat} (hr:BG):zfH 20:=gO hr.un
theorem xpw {X:Cx}:Bo "len" (fun xs H Q=>∃ a kvs,bM xs j0 CN (mP kvs.length)):=by
 intro pins s Z H xs us Q I r h;obtain⟨a,kvs,rfl,e,q⟩:83:=h;ext AQ;ext C9 a;exact xx4 I (.inl e) fun t s' I'=>(aZ,qx,H,I',lL t,q)
inductive Ents (w:World):bE zcM bD
 | nil:Ents w [] []
 | cons {k:Key}{x:V}{key val:Value}{h:Int}{es:zcM}{kvs:bD} (hh:h=keyH w k) (hk:RelV (kV k) key) (hv:RelV x val) (r:Ents w es kvs):Ents w (⟨h,key,val⟩::es) ((k,x)::kvs)
noncomputable def xnq (w:World) (K:Zd) (D:Addr) (kvs:bD):Prop:=(Bs D)/\∃(es:pD) (ep:Nat),(AT,D,zeg,none,.dict es ep,#[])/\Ents w es.toList kvs/\(kvs.map (·.1)).Nodup
theorem Ents.ok {P:Program}{w:World}{es:zcM}{kvs:bD} (h:Ents w es kvs):∃ vs,ki/\Pairs uf es vs/\∀ e∈es,∃ k,(uf).is k e.key=true/\e.hash=(uf).hash k:=by
 induction h with
 | nil=>show(gG,[],.nil,.nil,fun e z=>nomatch z)
 | @cons k x key val h es kvs hh hk hv _ ih =>
  ext bF vs a b c ih;refine(bL,(k,val)::vs,.cons (bY hv) a,.cons (xdf hk) rfl b,aq e he);rcases eJ he with rfl|z
  .exact ⟨k,xdf hk,hh⟩
  .exact c e z
section
variable {X:Cx}{pins:List (Addr × Obj)}{Z:St}{H:Hp}{s:Shared}{D:Addr}{kvs:List (Key × V)}
theorem xqu (I:ax) (g:xnq X.w X.K D kvs):∃ vs,ki/\s.heap.DictOf pG D vs:=by
 obtain⟨_,es,ep,l,en,nd⟩:=g;show(bF,vs,a,b,c,en.ok (P:=X.prog));show(d9,vs,a,⟨106,_,es,ep,I.kIn _ _ l,RO,rfl,fun e he=>c e (by simpa using he),b,?_⟩);show(jp,a.keys,nd)
noncomputable def tGIn (kvs:bD) (neg:Bool) (ty:TE):TE:=(zal,∃ k:Key,T9/\Q (.bl (if neg then !(pW).isSome else (pW).isSome)) H1)
theorem xpj {i:Expr}{ty:TE}{x:Str}{p:Pos} (hi:Fc) (hg:rL) (hm:KH D) (g:xnq X.w X.K D kvs) (hd:nQ:=by decide):PC X .NotIn i (.Name x p) (tGIn kvs true ty):=by
 intro pins s Z H Q I h;show(jX,hi pins s Z H _ I h,fun iv s1 ⟨y,H1,I1,ry,k,ey,q1⟩=>thn (xg5 (v:=.ref D) hg hm rfl hd pins s1 Z H1 (kS,H2,(cQ v D)/\H2=H1) I1 oy) fun u s2 ⟨x,H2,I2,rx,e1,e2⟩=>?_);subst ey e1 e2;ext C9 D;show(ag,vs,rel,dd,xqu I2 g);show(zqZ,g.1);rw[<- R3];exact(ug,lU,I2.tok _,q1)
#check _
theorem xhs {ns:dD}{f:LB} (h:∀ j (l:j<ns.length),f j=ns[j]):∀ j,j<=ns.length->preSum f j=(Ts).sum:=by
 intro j
 induction j with
 | zero=>intro _; rfl
 | succ j ih =>
  intro l;have l':j<ns.length:=l;show preSum f j+f j=_;rw[ih (JS l'),h j l',ZR,Zb l',List.sum_append];simp
theorem xvk {ns:dD} (B:Int) (hb:∀ n∈ns,-B<=n/\n<=B) (h0:0<=B):-(ns.length*B)<=ns.sum/\ns.sum<=ns.length*B:=by
 induction ns with
 | nil=>simp
 | cons a r ih =>
  have:=ih fun n hn=>hb n (Zi _ hn);have:=hb a Zm;rw[Jr,Z6];have e:(gP,r.length+1)*B=r.length*B+B:=by rw[Int.natCast_add,Int.add_mul]; simp
  rw[e];omega
inductive xyv (K:Zd) (xs:af) (H:Hp) (Q:VK):Prop
 | mk (p:Addr) (ns:dD) (e_:xs=Lv) (r_:SqL K H p IK/\(ns.length<=1000/\∀ n∈ns,-1000000<=n/\n<=1000000)/\(mP ns.sum))
theorem xgm {X:Cx} (hc:mE):xcq X (.builtin "sum") (xyv X.K):=by
 intro pins s Z H xs us Q I r h;obtain⟨p,ns,rfl,hs,⟨hlen,hb⟩,q⟩:=h;ext AQ;ext C9 p;obtain⟨its,vi,⟨o,n,g,c,_,d⟩,_⟩:63:=I.list hs;have hi:IntsAre its ns:=xnv vi;ext zim
 show(mN,zs,hi.allInts.items);have en:ns=zs.toList.map (·.1):=by rw[<- hi.numsOf,<- nums_intItems,<- e]
 rw[e] at il;have sz:zs.size=ns.length:=mh en Za Jm
 have hat:∀ j (l:j<ns.length),numAt zs j=ns[j]:=fun j l=>by
  rw[numAt_eq,<- en];simp[List.getD,l]
 have bd:∀ j,j<=ns.length->InLong (Ts).sum:=fun j l=>by
  have:=xvk 1000000 (ns:=Ts) (fun n hn=>hb n (Wh hn)) au;have hl:(Ts).length<=1000:=lq Jn
  unfold InLong;omega
 refine sum_intList jM il (fun j hj=>eW ?_) (bX h' tk t' hk)
 .rw [hat j aa];have:=hb ns[j] (JD _);unfold InLong;omega
 .show(cq,xhs hat gH aa,bd _ aa)
 .refine (aZ,qx,H,I.kept hk,lL t',?_);rw[sz,xhs hat _ bv,Jg];exact q
inductive xxi (K:Zd) (xs:af) (H:Hp) (Q:VK):Prop
 | mk (p:Addr) (bs:B3) (e_:xs=Lv) (r_:SqL K H p (bs.map V.bl)/\Q (.bl (bs.all id)) H)
theorem xvs {bs:B3}:∀{us:aY},Vals (bs.map V.bl) us->us=bs.map Ye:=by
 induction bs with
 | nil=>intro us h; ext jG h
 | cons b r ih =>
  intro us h;cases h with
  | cons h1 h2 =>
   show(C8,ih h2);ext qG h1;rfl
theorem xqd {bs:B3}:(zef).all (fun i=>zcw)=bs.all id:=by
 have h:(zef).map zrS=bs:=by
  apply List.ext_getElem
  .simp
  .intro i h1 h2
   simp[List.getD,h2]
 calc _=((zef).map (fun i=>zcw)).all id:=eS List.all_map
  _=_:=eG h
theorem xo1 {X:Cx} (hc:mE):xcq X (.builtin "all") (xxi X.K):=by
 intro pins s Z H xs us Q I r h;obtain⟨p,bs,rfl,hs,q⟩:=h;ext AQ;ext C9 p;obtain⟨its,vi,⟨o,n,g,c,_,d⟩,_⟩:63:=I.list hs;ext zim
 show(qG,xvs vi);have hlt:pI p:=Z0 g;refine call_all_walk (Q8 il ?_);refine iA ⟨105,_,_,zrS,rfl,Walks.list (A:=X.A.in1) jM _ p (ZS hlt) (bs.map Ye).toArray,⟨BF,il.push _⟩,?_,aI h' tk hk⟩
 .intro i v s' Q' E' hP hQ
  simp only[List.getElem?_toArray,Zc,Ze] at hP;ext gU b hb hP;have:zcw=b:=by simp[List.getD,hb]
  rw[<- this];exact Zo hQ
 .rw [ZA,Za,xqd];exact(Fm,lU,I.kept (old_kept hk))
section
variable {X:Cx}{pins:List (Addr × Obj)}{Z:St}{H:Hp}{s:Shared}{h':Heap}
theorem Inv.turnedL {t':Nat}{ch:aw} (I:ax) (k:zr CO jH ya) (hf:∀ b∈ch,FpOk X pins H b):nK Cm:=by
 have nit:uI jd CO:=fun b u e z=>by
  have:=(hf b z).1;ext cF this e e
 refine I.step (g':=s.gens) (d':=s.drawn) (ch:=ch) iC (Pa,k b o hc e) (Pa ⟨o.slots,k b o hc e⟩) (fun _ _ _ _ n=>n)
  (nh hc ⟨o,k b o hc e⟩) (fun _ _ e=>e) PM zne (aq m hm) wn I.bare
 .obtain ⟨f0,f1,f2,f3,f4,f5⟩:46:=zM;exact bW f3 f1 f4 f5
 .obtain ⟨o,es,ep,ho,r⟩:102:=hm;exact(BB,o,k _ o (aj,(hf _ z).2.1 rfl) ho,r)
 .refine (zeS).stay (zcp q) SR Ex;rcases hc with z|z
  .rw [z]; exact nit b u e
  .exact nit c _ z
#check _
theorem xvc {a b:Nat} (h:a≠b):(a:Addr)≠(b:Addr):=h
noncomputable def Ite (K:Zd) (a:Addr):It :=
 (NP,∃ xs x,qW/\tI,v,∃ p x,(∀ xs,qW->tI)/\(cQ v p)/\rS/\H'=(C6 [dY,x]),znA)
theorem xpa {P:Program}{w:World}{K:Zd}{elts:kg}{x1}{tpos:Pos} (e it l:Addr) (hei:e≠it) :
    Turn P w K xV (Ite K l) [e,it] e (dH,h,(∃ old,IsEnum h e it i old)/\h.IsListIter it l i) where
  mem:=ap
  obj:=fun i h st b hb=>by
    obtain⟨⟨old,he⟩,⟨o1,e1,c1,d1⟩⟩:=st;ext W4;rcases hb with rfl|rfl
    . exact cI he (kS,k,by have k':Wb _=Data.cell v:=k; cases k')
    . ext zrq
  keep:=fun i h h' ⟨⟨old,he⟩,h1⟩ k=>⟨⟨old,k e ap _ he⟩,h1.at fun o z=>k it ap o z⟩
  item:=by
    intro X hP hw hK hc i pins s Z H E I hf st hg;ext i9;ext jN xs x hq hx hg;ext bF its rv p hz1 wa;show(ag,u,hu,ru,rv.get hx);ext zoD;refine wpAny_pyNext_enum_item he h1 p.isList (x:=u) (by simpa using hu) hei fun h' ho hit' hT hsz hk=>?_;show(tR,wpAny_letOwnedTupleGo_enum (s:=AF zp) ho (aI h'' he' hs'));have elt:pI e:=Z0 he;have pne:s.heap.objs.size≠e:=Q1 elt;have kk:(zr,b∉[e,it],jH,zaf):=fun b o hb g=>by
      ext zmv;exact (hs'.2 b hb.1).trans (hk b o hb.1 hb.2 g)
    show(Aa,{ s with heap:=h'',toks:=zp },I.turnedL kk hf);ext kq n0 nL nC nP VS;have hp:(VM,#[.int i s.toks,u]):=(hs'.2 _ pne).trans hT;refine⟨85,uX,zam [dY,x],I1.adopt n0 I.sz nL nC nP (zaH,[.int i s.toks,u],.cons eR (.cons ru .nil)),rfl,
      ⟨84,_,x,fun zs hz=>(aA,I.list_inj hz hq,hx),rfl,n0,rfl⟩,?_,iC⟩
    . show(aO,(eE,by simpa using he'),hit'.at fun o y=>(hs'.2 it (Z2 hei)).trans y)
    . obtain⟨o,ho⟩:∃ o,jH:=by
        ext bF o1 e1 c1 d1 h1;ext W4;rcases hb with rfl|rfl
        . exact eE he
        . exact eE e1
      show(ip,ZS (Z0 ho),(zM).1)
  done:=by
    intro X hP hw hK hc i pins s Z H E I hf st hg;ext i9;ext ag xs hq hl hg;ext bF its rv p hz1 wa;have e1:=rv.length;ext zoD;refine wpAny_pyNext_enum_end jM he h1 p.isList iZ fun h' hx=>(bY,I.turnedL (t':=s.toks) (bX b o hb g) hf)
    ext zmv;exact hx b o hb.2 g
  self:=fun _ _ _ _ _ ⟨eE st,_⟩ h=>wpAny_pyIter_enum st h
noncomputable def xxx (K:Zd) (ta:TA):TI:=(NG,∃ a xs,xC/\Ir/\R (Ite K a) H1)
section
variable {X:Cx}{elts:List Expr}{x1:_}{tpos:Pos}
theorem xl2 {a:Expr}{ta:TA}{p pos:Pos} (hg:Gl X "enumerate") (hm:zi "enumerate") (ha:zeO) (hs:zat:=by rfl) :
    PI X xV (OJ "enumerate" [a]) (xxx X.K ta):=by
  intro pins s Z H R I h;refine Call_ (xd8 I hg hm PyProof.Rows.Boot.«enumerate» (JF (thn (ha pos pins s Z H _ I h) fun us s1 ⟨vs,H1,I1,r1,q1⟩=>?_) hs rfl));obtain⟨l,xs,e,hq,q⟩:83:=q1;ext zke;show(bF,its,rv,p1,hz1,I1.list hq);refine call_enumerate_list p1.isList (bN h' he h1 hsz hk);refine wpAny_pyIter_enum (s:=zrk) he ?_;show(av,I2,cT H1 zrk,I1.kept (t':=s1.toks) hk,fb 121 [s1.heap.objs.size+1,s1.heap.objs.size] _ _ ⟨66,H1,rfl,I2,xpa _ _ l (xvc aa),⟨eE he,h1⟩,iC,q⟩);have hb':s1.heap.objs.size<=b:=by
    ext W4;rcases hb with rfl|rfl
    . exact Qp _ 1
    . exact Zl _
  exact I1.fpOk hb' (I1.hok.fresh hb')
#check _
theorem xq1 {K:Zd}{a:Addr}{xs:af}{g:TG}{tb:TS}{D:Ends}{Z:St}{H:Hp} (Pv:FL) (h0:Ls) (hl:zkp)
    (hs:∀ i x p Z H,(bb,tI,rS,tP,g wS Z (C6 [dY,x]) GH)) (hd:HD xs.length) :
    ∃ W:Nat->Nat->St->Hp->Prop,(∃ m,W 0 m Z H)/\∀ i m Z H,Fe ->
      ((Ite K a).stop i H/\zo)\/((Ite K a).go i H/\(Dz (EX,(Ite K a).yld i H x H',Z,H',Du))):=by
  ext zgV;rintro i m Z H (⟨rfl,hi,p⟩:43);ext NL Ss
  . ext zle
    obtain⟨r,x',e1,rfl,hr,rfl⟩:84:=y;exact hs i x' r Z H (e1 _ q) hr p
  . ext ziP
#check L2
namespace L2
open PySem PySem.Spec PyProof.Rows XL
noncomputable def tMid (t:TS):TS:=(mO,∃ Pv:mT,t { D with nx:=Pv } Z H/\∀ σ' H',Pv σ' H'->D.nx σ' H')
theorem xcd {X:Cx}{st:Stmt}{t:TS} (h:Ta):PS X st (tMid t):=by
 intro pins s Z H D I q;ext ag Pv q1 q2 q;show(jX,(h pins s Z H { D with nx:=Pv } I q1),aI fl s1 z);cases fl with
 | next =>
  show(jN,σ',H',I',r,z);exact(bQ,σ',H',I',q2 _ _ r)
 | _=>exact z
#check L2
namespace XL
open PySem PySem.W
#check XL
namespace L2
open PySem PySem.Spec PyProof.Rows XL
variable {q0:Bool}
#check L2
namespace L2
open PySem PySem.Spec PyProof.Rows XL
#check L2
namespace L2
open PySem PySem.Calls PyProof PyProof.Rows
theorem xxs {x y z:V}{us:aY} (r:xK [x,y,z]):∃ u v w,(jx,us,[u,v,w],ou,RelV y v,RelV z w):=by
 cases r with
 | cons r1 r2 =>
  cases r2 with
  | cons r3 r4 =>
   cases r4 with
   | cons r5 r6=>cases r6; exact⟨104,_,_,_,rfl,r1,r3,r5⟩
theorem xqe {X:Cx} (hc:mE):Bo "min" (fun xs H Q=>∃ i j k:Int,xs=[dY,Gn,.int k]/\∀ m:Int,(bg,m<=i,m<=j,m<=k,m=i\/m=j\/m=k,mP m)):=by
 intro pins s Z H xs us Q I r h;obtain⟨i,j,k,rfl,q⟩:102:=h;obtain⟨u,v,w',rfl,⟨t,rfl⟩,⟨t',rfl⟩,⟨t2,rfl⟩⟩:104:=xxs r;refine min_three_ints (I.ok.hd hc) (aI h' tk k');by_cases h1:j<i
 .rw [aN h1];by_cases h2:k<j
  .ext zgR
  .ext d4 h2;exact(aZ,Gn,H,I.kept k',eR,q j aa aa aa (.inr (.inl rfl)))
 .ext d4 h1;by_cases h2:k<i
  .ext zgR
  .ext d4 h2;exact(aZ,dY,H,I.kept k',eR,q i aa aa aa fO)
noncomputable def eU (e:L8) (u:Value):Bool:=match absV u with|some y=>e y|none=>false
theorem xho {e:L8}{y:V}{u:Value} (r:gg):eU e u=e y:=by unfold eU; rw[r.abs]
theorem xkt {e:L8}:(P8,lI->us.any (eU e)=xs.any e)
 | _,_,.nil=>rfl
 | y::xs,u::us,vZ=>by rw[Yx,Yx,xho r,xkt t]
theorem xjk:(P8,lI->∀ u∈us,∃ y∈xs,gg)
 | _,_,.nil=>fun u hu=>nomatch hu
 | y::xs,u::us,vZ=>fun u' hu=>by
  rcases eJ hu with rfl|hu
  .exact ⟨y,Zm,r⟩
  .show(fj,z,h1,h2,xjk t u' hu);show(aE,z,Zi _ h1,h2)
#check L2
namespace PySem.F
#check PySem.F
namespace L2
open PySem PySem.Spec PyProof.Rows XL
variable {q0:Bool}
#check L2
namespace L2
open PySem PySem.Spec PyProof.Rows XL PySem.W
variable {q0:Bool}
theorem xi8 {prog:Program}{w:World}{A:Around}{E:bA}{s:Shared}{a:Addr}{vs:aY}{n:Nat}{P:eQ PySem.Fin}
    (h:zkD) (h2:2<=vs.length) (h64:vs.length<64)
    (hk:∀ s':Shared,s'.heap=(((s.heap.update a (Yt (mf,#[]))).push (seqObj "tuple" vs.toArray 0)).push (seqObj "list" #[] 0))->s'={ s with heap:=s'.heap } ->
      wpAny bz A zsf (fun κ s''=>s''=s'/\KasT.kasWp (kas_ask prog w A κ vs) (kas_sort vs.length) (fun p s3=>s3=s'/\(zhu zlB)) s'') vw s') :
    wpAny bz A zkG P E s:=by
  ext AJ d;ext zez
  repeat (any_goals (first|ext dZ|wp_step))
  have z:¬ vs.toArray.toList.toArray.size>sizeLine:=by
    simp;exact JS (ZQ h64 au)
  rw[az z];generalize zsf=kk at hk ⊢
  repeat (any_goals (first|ext dZ|wp_step))
  have hk':=hk (zjN,((NM).push (seqObj "tuple" vs.toArray 0)).push (seqObj "list" #[] 0)) rfl rfl;show(Bh,hk',aI κ s'' z);ext hX e z;ext cW;show wpAny _ _ (StateT.run (lz,vs.toArray.size,2,pure (),sortRuns') _>>=_) _ _ _;rw[az iZ];show(cJ,(Ji (kat_run (E:=E) (Q:=(nH,st',∃ p:dy,(ay,p.size=vs.length,arrOf st'=Q4 (kas_item (vs.toArray.zip vs.toArray)) p,failedOf st'=none,s'=_,P (.done (.ret .none)) (zjN,sortedHeap hp a vs zlB)))) rfl h2 h64 (fun p st' s' hp' e f q'=>⟨65,p,hp',e,f,q'.1,q'.2⟩) q) (aI r s' z) (mQ z)));obtain⟨u,st⟩:=r;obtain⟨p,psz,e,f,rfl,q'⟩:65:=z;have al:a<hp.objs.size:=Z0 h;have g1:(ae,(((NM).push (seqObj "tuple" vs.toArray 0)).push (seqObj "list" #[] 0)).get? a,Rc iX):=by
    ext Px;rw[Yk _ h rfl];have z:((0:Nat) == vs.length)=false:=by
      cases vs with
      | nil=>simp at h2
      | cons=>rfl
    simp[Yt,z]
  have e2:(cu (((fun x=>#[]) vs.toArray:gL).size == vs.toArray.size) n iX)=iX:=by
    rw[if_neg];simp;omega
  simp only[e2,f];have e3:Q4 KC (arrOf st)=p.map (oX,vs.getD i .none):=by
    rw[e,Array.map_map]
    congr 1
    funext i;show (kas_item (vs.toArray.zip vs.toArray) i).snd=_;unfold kas_item;by_cases c:i<vs.length
    . simp[Zb c,c]
    . simp[Jh zaQ,c]
  simp only[e3]
  repeat (any_goals (first|ext dZ|wp_step))
  have e4:(Yt (mf zpm) (Rc iX)).data.pastItsLine=none:=by
    show (if (zpm).size>sizeLine+1 then _ else none)=none;rw[if_neg];rw[Array.size_map,psz];have:uF vs.length:=ZQ h64 au;omega
  rw[e4];ext wD;rw[f];show wpAny _ _ (cu (iX != iX) _ _) _ _ _;rw[az ap];exact Zo q'
theorem xgp {prog:Program}{w:World}{A:Around}{E:bA}{s:Shared}{it d:Addr}{i ep:Nat}{o:Obj}{es:pD}{en:DictEntry}{Q:FO}
    (st:znO i) (hd:sC) (hx:o.ExactDict) (hdat:kT) (hi:SO)
    (h:∀ h',h'.IsKeyIter it d aX es.size ep->Jt it s.heap h'->Q (some en.key) nR):wpAny bz A vo Q E s:=by
  ext zfM;obtain⟨⟨c,dct,dat,sl⟩,hit,ci,di⟩:63:=st;ext zgQ
  repeat (any_goals (first|ext dZ|(with_reducible ext TH)|(with_reducible ext TF)|(with_reducible ext A6)|(with_reducible ext A5)|wp_step))
  have e1:ae (zaz cL) en:=by
    ext cD uc Qf hi
  rw[e1]
  repeat (any_goals (first|ext dZ|(with_reducible ext TH)|(with_reducible ext TF)|(with_reducible ext A6)|(with_reducible ext A5)|wp_step))
  show(bw,(cN,Zo (h _ ?_ zbY)),(zP,Yk _ hit rfl,?_));rfl
theorem xhu {prog:Program}{w:World}{A:Around}{E:bA}{s:Shared}{it d:Addr}{ep:Nat}{o:Obj}{es:pD}{Q:FO}
    (hA:zcJ) (st:znO es.size) (hd:sC) (hx:o.ExactDict) (hdat:kT)
    (h:zin):wpAny bz A vo Q E s:=by
  ext zfM;obtain⟨⟨c,dct,dat,sl⟩,hit,ci,di⟩:63:=st;ext zgQ
  repeat (any_goals (first|ext dZ|(with_reducible ext TH)|(with_reducible ext TF)|(with_reducible ext A6)|(with_reducible ext A5)|wp_step))
  have e1:(if (es.size:Int)<0 then none else es[(es.size:Int).toNat]?)=none:=by
    rw[uc,Qf];simp
  rw[e1]
  repeat (any_goals (first|ext dZ|(with_reducible ext TH)|(with_reducible ext TF)|(with_reducible ext A6)|(with_reducible ext A5)|wp_step))
  ext zfP
theorem xl5 {prog:Program}{w:World}{A:Around}{E:bA}{s:Shared}{d:Addr}{ep:Nat}{o:Obj}{es:pD}{Q:bA}
    (hs:Bs d) (hd:sC) (hx:o.ExactDict) (hdat:kT)
    (h:(M7,Oo "dict_keyiterator" zcz)):wpAny bz A (pyIter (.ref d)) Q E s:=by
  have ti:yE d "dict":=⟨o,hd,hx.1⟩
  obtain⟨c,dct,dat,sl⟩:=o;ext zif hx;refine wpAny_pyIter_slot ti F.slot_dict_iter ?_;refine JP F.slot_dict_iter ti F.entry_dict_iter ?_ (F.args_dict_iter_1 _);ext AJ dr;unfold Builtin.«dict.__iter__»
  repeat (any_goals (first|ext dZ|(with_reducible refine Ql ti ?_)|(with_reducible refine Jx hd rfl ?_)|(with_reducible refine JY hd rfl ?_)|wp_step))
  exact cN (aZ,_,_,dP gq,JZ.lookup,h)
theorem xtl {prog:Program}{w:World}{d:Addr}{ep:Nat}{o:Obj}{es:pD} (hs:Bs d) (hx:o.ExactDict) (hdat:kT) :
    KdlSrc prog w "dict" d d es.size (dH,v,∃ en,SO/\v=en.key) (fE AO) where
  type:=fun s h=>⟨o,h,hx.1⟩
  there:=fun h e=>⟨Z0 e,Z0 e⟩
  keep:=fun h h' e k=>k d fO o e
  notList:=au
  notTuple:=au
  hint:=fun A E s Q h q=>kdl_hint_dict ⟨o,h,hx.1⟩ q
  iter:=fun A s hA h=>by
    show(d8,dl,Z0 h,⟨(iY,"dict_keyiterator",.fields zcz),(dH,h,h.IsKeyIter s.heap.objs.size d i es.size ep/\AO),fun E Q q=>xl5 hs h hx hdat q,?_,mW _ gq rfl,Zj _ h⟩);have dn:d≠s.heap.objs.size:=ZS dl;exact {
      sub:=fun b hb=>by
        have e:b=s.heap.objs.size:=vm
        rw[e];simp
      frame:=Iz ⟨st.1.at (Am,k _ ap o e),k _ ap _ st.2⟩
      item:=fun i s' Q E hi st q=>by
        refine xgp st.1 st.2 hx hdat (J7 hi) fun h' st' sb=>q _ h' s'.toks (dP,J7 hi) ⟨st',(sb.2 d dn).trans st.2⟩ (nh hb ?_);exact (sb.2 b vm).trans e
      done:=fun s' Q E st q=>by
        refine xhu hA st.1 st.2 hx hdat fun h' eb=>q h' s'.toks (nh hb ?_);exact eb b o vm e
      self:=fun i s' Q E st q=>We st.1 q }
noncomputable def xdy:Key->Key->Bool
 | .inl a,.inl b=>cP (a<b)
 | .inr a,.inr b=>cP (a.cps.toList<b.cps.toList)
 | _,_=>false
noncomputable def lexK:eD->eD->Bool
 | [],[]=>false
 | [],dc=>true
 | dc,[]=>false
 | qE,nu=>if x=y then lexK xs ys else xdy x y
noncomputable abbrev shp (k:eD):B3:=k.map Sum.isLeft
theorem xte {a b:Str} (h:a.cps.toList=b.cps.toList):a=b:=by
 cases a;cases b;simp at h;rw[h]
theorem xo6 (x:Key):xdy x x=false:=by
 cases x with
 | inl a=>simp[xdy]
 | inr a=>exact Wf.irrefl a.cps.toList
theorem xrv {x y z:Key} (h1:xdy x y=true) (h2:xdy y z=true):xdy x z=true:=by
 cases x<;>cases y<;>cases z<;>simp only[xdy,ZI] at h1 h2
 .show(ah,a,vv h1,b,of_decide_eq_true h2);show(IC,Int.lt_trans a b)
 .exact Wf.trans _ _ _ h1 h2
theorem xpk {x y:Key} (hs:x.isLeft=y.isLeft) (ne:x≠y) (h:xdy x y=false):xdy y x=true:=by
 cases x with
 | inl a =>
  cases y with
  | inl b =>
   have h':¬ a<b:=of_decide_eq_false h;have n':a≠b:=fun e=>ne Gj;show(IC,(fh,b<a))
  | inr b=>cases hs
 | inr a =>
  cases y with
  | inl b=>cases hs
  | inr b =>
   cases e:xdy (.inr b) (.inr a) with
   | true=>rfl
   | false=>show(bZ,(eG,xte (Wf.total _ _ h e)),ne)
theorem xl0:∀ x:eD,lexK x x=false
 | []=>rfl
 | qE=>by
  unfold lexK;rw[cp];exact xl0 xs
theorem xna:∀{x y z:eD},(bg,shp x=shp y,shp y=shp z,lexK x y=true,lexK y z=true,lexK x z=true)
 | [],[],_,_,_,h,_=>ft
 | [],dc,_,h,_,_,_=>ft
 | dc,[],_,h,_,_,_=>ft
 | dc,dc,[],_,h,_,_=>ft
 | qE,nu,z::zs,h1,h2,h3,h4=>by
  simp only[shp,Zp,QH.injEq] at h1 h2;unfold lexK at h3 h4 ⊢;by_cases xy:x=y
  .subst xy;rw[cp] at h3;by_cases yz:x=z
   .rw [aN yz] at h4 ⊢;exact xna h1.2 h2.2 h3 h4
   .rw [az yz] at h4 ⊢;exact h4
  .rw [az xy] at h3;by_cases yz:y=z
   .subst yz;ext oO xy h3
   .rw [az yz] at h4;have h5:=xrv h3 h4;show(oO,(fun e=>by rw[e,xo6] at h5; cases h5),h5)
theorem xld:∀{x y:eD},(bb,shp x=shp y,x≠y,lexK x y=false,lexK y x=true)
 | [],[],_,h,_=>absurd rfl h
 | [],dc,h,_,_=>ft
 | dc,[],h,_,_=>ft
 | qE,nu,h1,h2,h3=>by
  ext zaj h1;unfold lexK at h3 ⊢;by_cases xy:x=y
  .subst xy;rw[cp] at h3 ⊢;exact xld h1.2 (fun e=>h2 Gj) h3
  .rw [az xy] at h3;show(oO,fun e=>xy e.symm,xpk h1.1 xy h3)
theorem xly {prog:Program}{w:World}{A:Around}{s:Shared}{b:Bool}{Q:B1}:∀(xs ys:eD) (us vs:aY) (i:Nat),(bg,shp xs=shp ys,Vals (xs.map kV) us,Vals (ys.map kV) vs,Q (lexK xs ys) s,KatLex prog w A b false Q (us.zip vs) i s)
 | [],[],_,_,i,_,.nil,.nil,q=>kat_nil q
 | [],dc,_,_,_,h,_,_,_=>ft
 | dc,[],_,_,_,h,_,_,_=>ft
 | qE,nu,_,_,i,h,.cons ru r,.cons rv r',q=>by
  ext zaj h;unfold lexK at q;cases x with
  | inl a =>
   cases y with
   | inr c=>cases h.1
   | inl c =>
    ext MK;ext d6 t' rv;refine kat_cons (wpAny_eqBool_int ?_);unfold KatGo;by_cases e:a=c
    .ext cW;rw[cp] at q;show(aD,aN ap,xly xs ys _ _ aX h.2 r r' q)
    .rw [az (aj,e (Qt.inj z))] at q;rw[az vp];cases (b&&i == 0) with
     | true=>exact oneLt_int q
     | false=>exact kat_one _ _ (lt_int q)
  | inr a =>
   cases y with
   | inl c=>cases h.1
   | inr c =>
    ext MK;ext d6 t' rv;refine kat_cons (wpAny_eqBool_str ?_);unfold KatGo;by_cases e:a=c
    .ext cW;rw[cp] at q;show(aD,aN ap,xly xs ys _ _ aX h.2 r r' q)
    .rw [zpB] at q;rw[az vp];cases (b&&i == 0) with
     | true=>exact oneLt_str q
     | false=>exact kat_one _ _ (lt_str q)
theorem xkm {prog:Program}{w:World}{A:Around}{E:bA}{s:Shared}{a:Addr}{vs:aY}{n:Nat}{P:eQ PySem.Fin}
    (h:zkD) (h2:vs.length<2) (q':zhu vs.toArray) :
    wpAny bz A zkG P E s:=by
  ext AJ d;rcases vs with _|⟨v,_|⟨v',r⟩⟩
  . ext zez
    repeat (any_goals (first|ext dZ|wp_step))
    show wpAny _ _ (pure (PUnit.unit,(RC,((#[]:gL).zip #[]),#[],7,none))) _ _ _;ext wD;have e3:Q4 KC (arrOf (RC,((#[]:gL).zip #[]),#[],7,none))=#[]:=by
      show Q4 KC ((#[]:gL).zip #[])=#[];simp
    simp only[e3];have g1:(ae,(((NM).push (seqObj "tuple" #[] 0)).push (seqObj "list" #[] 0)).get? a,Rc (n)):=by
      ext Px;rw[Yk _ h rfl];rfl
    show wpAny _ _ (seqEpoch a>>=_) _ _ _
    repeat (any_goals (first|ext dZ|wp_step))
  . ext zez
    repeat (any_goals (first|ext dZ|wp_step))
    show wpAny _ _ (pure (PUnit.unit,(RC,((#[v]:gL).zip #[v]),#[],7,none))) _ _ _;ext wD;have e3:Q4 KC (arrOf (RC,((#[v]:gL).zip #[v]),#[],7,none))=#[v]:=by
      show Q4 KC ((#[v]:gL).zip #[v])=#[v];simp
    simp only[e3];have g1:(ae,(((NM).push (seqObj "tuple" #[v] 0)).push (seqObj "list" #[] 0)).get? a,Rc iX):=by
      ext Px;rw[Yk _ h rfl];rfl
    show wpAny _ _ (seqEpoch a>>=_) _ _ _
    repeat (any_goals (first|ext dZ|wp_step))
  . simp at h2
    omega
theorem xgj {α:Type} (f:α->Addr):∀(es:aP),Vals (es.map (mf,V.ref (f x))) (es.map fun x=>Zs (f x))
 | []=>.nil
 | x::r=>.cons rfl (xgj f r)
theorem xou {H:Hp}{kvs:dC}{es:qZ} (h:KT H kvs es):(∀ x∈es,(aT cM (.tup ((bn).map kV))))/\es.map (·.1)=kvs.map (·.1):=by
 induction h with
 | nil=>show(aO,jJ,rfl)
 | @cons p x kvs es hp r ih =>
  ext BW e1 e2 hp;show(dI,KR,by rw[Zp,Zp,ih.2,e1]);rcases FI with rfl|z
  .rw [<- e1];exact e2
  .exact ih.1 y z
theorem xos {P:Program}{w:World}{H:Hp}{h:Heap} (ok:mD) {b:Bool}{sh:B3}:∀(es:qZ),(∀ x∈es,(aT cM (.tup ((bn).map kV))))->(∀ x∈es,shp bn=b::sh) ->
    ∃ fs,KatTups h (es.map fun x=>Zs cM) fs/\fs.length=es.length/\∀ v∈fs,(cu,b,∃ i t,v=Ac,∃ i t,v=QF i t)
  | [],_,_=>bL [] KatTups.nil rfl jJ
  | x::es,h1,h2=>by
    show(bF,fs,k,l,m,xos ok es (oF,h1 y wG) (oF,h2 y wG));obtain⟨z2,ts,rt,ot,et,ct,nt,dt⟩:=ok cM _ (h1 x Zm);have s1:=h2 x Zm;obtain⟨k1,a1,v1⟩:=x;cases k1 with
    | nil=>cases s1
    | cons k0 kr =>
      ext zaj s1;simp only[Zp] at rt;cases rt with
      | @cons _ u _ us ru rr =>
        refine(bL,u::fs,KatTups.cons et ct dt ap k,b6 l,aq v hv);rcases eJ hv with rfl|hv'
        . cases k0 with
          | inl i =>
            ext MK;rw[aN (vP b s1.1.symm)];show(aE,i,t,rfl)
          | inr i =>
            ext MK;rw[az (show ¬ z6 by rw[<- s1.1]; simp)];show(aE,i,t,rfl)
        . exact m v hv'
theorem xpu {X:Cx}{pins:bp}{Z:St}{H:Hp}{s:Shared}{h1:Heap}{tk:Nat}{Q:VK}{sh:B3} (es':qZ) (I1:nK (sA h1))
    (hl:es'.length<64) (km:∀ x∈es',(aT cM (.tup ((bn).map kV)))) (shE:znJ) (hpos:0<sh.length) (hnd:(List.map (mf x.fst) es').Nodup)
    (q:∀(l:Addr) (ts:zea),oM->zkg->(ts.map (·.1)).Pairwise WX->zhV) :
    wpAny aS X.A.in1 (newList (es'.map fun x=>Zs cM)>>=fun l=>holding [l] (call (.builtin "list.sort") [l] [])>>=fun _=>ret l) (nH,fin,∃ v,fin=Fin.done (Flow.ret v)/\EP X pins Z Q v s') X.xe (sA h1):=by
  have hz:cZ es'.length:=JS (ZQ hl au);show(cG,vals,Vals (es'.map fun x=>V.ref cM) sD,xgj (mf cM) es',I2,I1.lnew (t':=tk) vals (fV hz));show(cJ,wpAny_newList ?_ (fV hz));have fr:bu h1.objs.size:=I1.fresh;show(cK,gl,(ae,(Vv).get? h1.objs.size,seqObj "list" (sD).toArray 0),gq,Zg (J4 (JP slot_list_sort (dP gl) entry_list_sort ?_ (args_list_sort _))));show(ah,J1,I2.lset (l:=h1.objs.size) (its:=sD) (its':=[]) (ys:=[]) (f:=fun _=>#[]) (t':=tk) xk gl rfl .nil iQ,J2,J1.kept (t':=tk) (h':=(((Vv).update h1.objs.size (Yt fun _=>#[])).push (seqObj "tuple" (sD).toArray 0)).push (seqObj "list" #[] 0)) (qz zdw));obtain⟨z9,its9,n9,r9,hl9,e9⟩:=J2.lstM xk;have done:∀(ts:zea),zkg->(ts.map (·.1)).Pairwise WX ->
      EP X pins Z Q (.ref h1.objs.size) (sA,sortedHeap Vv h1.objs.size sD (WZ).toArray):=by
    intro ts pm pw;have tl:ts.length=es'.length:=bR pm.length_eq Za
    have J3:=J2.lset (l:=h1.objs.size) (its:=its9) (its':=WZ) (ys:=ts.map fun t=>V.ref t.2) (f:=fun _=>(WZ).toArray) (t':=tk) xk e9 rfl (xgj (fun t=>t.2) ts) (qi Za tl hz);rw[xez,xez] at J3;exact(ug,.ref h1.objs.size,J3,q _ ts fr pm pw)
  by_cases few:es'.length<2
  . refine xkm gl (fV few) (cN,Zo Cv)
    have:=done zoh y9 ?_
    . ext bV Z8 this this
    . match es',few with
      | [],_=>ext ig
      | [x],_=>exact List.pairwise_singleton _ _
      | _::dc,h=>ext bZ h ap
  . refine xi8 gl zK (fV hl) (aI s' es1 es2)
    obtain⟨b,sh0,rfl⟩:∃ b sh0,sh=b::sh0:=by
      cases sh with
      | nil=>simp at hpos
      | cons b r=>show(aE,b,r,rfl)
    rw[es1] at es2;subst es2;have km2:∀ x∈es',(lJ (eO h1.objs.size (.lst (es'.map fun x=>V.ref cM))) h1.objs.size Mz cM (.tup ((bn).map kV))):=fun x hx=>by
      rw[fW (km x hx) fr,fW (km x hx) fr];exact km x hx
    show(bF,fs,kt,fl,fm,xos J2.hok es' km2 shE);show(cK,few',2<=es'.length,aa,kat_kind (T:=(cu,b,.type "int",.type "str")) kt aa (aq v hv) (SD b) tZ)
    . have z:=fm v hv
      cases b with
      | true =>
        show(zjk,"int")
      | false =>
        show(zjk,"str")
    rw[Za];have eAt:∀ i,i<es'.length->(ba es' uU):=fun i hi=>by
      rw[YM,Zb hi];rfl
    show(zce,eM,uU∈es',Zk (eAt i hi));have vAt:∀ i,i<es'.length->(cQ,(sD).getD i .none,bc uU):=fun i hi=>by
      rw[YM,Zc,eAt i hi];rfl
    show(cK,shI,∀ i j,i<es'.length->j<es'.length->shp (uU).1=shp zmC,fun i j hi hj=>(bR,shE _ (eM i hi),shE _ (eM j hj)),Srt.sort_wp (lt:=(dH,j,lexK (uU).1 zmC)) ⟨(dH,hi,xl0 _),fun i j k hi hj hk=>xna Rm (shI j k hj hk),fun i j hi hj ne=>xld Rm fun e=>ne ?_⟩ (fun i j hi hj Q' q'=>?_) few' fun p arr srt=>(je,Zo Cv))
    . have e1:(es'.map (·.1))[i]?=(es'.map (·.1))[j]?:=by rw[Zc,Zc,eAt i hi,eAt j hj]; ext F7 some e
      exact (List.getElem?_inj (fV hi) hnd).mp e1
    . show wpAny _ _ (keyLt' _ ((sD).getD i .none) ((sD).getD j .none)) _ _ _
      rw[vAt i hi,vAt j hj];obtain⟨_,ti,ri,oi,ei,_,ni,di⟩:=J2.hok _ _ (km2 _ (eM i hi));obtain⟨_,tj,rj,oj,ej,_,nj,dj⟩:=J2.hok _ _ (km2 _ (eM j hj));have l1:=Vals.length ri;show(ah,l2,Vals.length rj,l3,uO Rm);simp only[Za] at l1 l2 l3;refine kat_lt ei di ej dj ?_;show(aD,qU iZ,xly _ _ _ _ 0 Rm ri rj q')
    have pl:∀ i∈p.toList,i<es'.length:=fun i hi=>by
      show(Al,(Array.Perm.mem_iff arr.pm).mp (Array.mem_toList_iff.mp hi))
    have:=done (p.toList.map fun i=>((uU).1,bc uU)) ?_ ?_
    . rw[Z8] at this
      have e2:(p.map (oX,(sD).getD i .none))=(p.toList.map ((fun t:eD × Addr=>Zs t.2)∘zqk)).toArray:=by
        rw[<- Array.toList_inj,Array.toList_map];exact JN (dH,hi,vAt i (pl i hi))
      ext aD e2 this
    . have e3:zoh=(Zu es'.length).map zqk:=by
        refine QB (cH i);by_cases c:i<es'.length
        . rw[Zc,eAt i c,Zc,J8 c]
          rfl
        . rw[Jh zK,Jh iZ]
      rw[e3];refine JB.map _ ?_;show(Al,Array.Perm.toList arr.pm)
    . rw[Z8,ZZ,Jj]
      intro i j hi hj hij;have z:=srt i j hij (by rw[<- arr.sz]; simpa using hj);have gi:Srt.g p i=p.toList[i]:=znC hi;have gj:Srt.g p j=p.toList[j]:=znC hj;ext yY gi gj
inductive xr1 (xs:af) (H:Hp) (Q:VK):Prop
 | mk (d:Addr) (kvs:dC) (sh:B3) (e_:xs=[ju]) (r_:(yc d)/\kvs.length<64/\(∀ p∈kvs,shp aJ=sh)/\0<sh.length/\∀(l:Addr) (ts:zea),oM->(∀ t∈ts,(aT t.2 (.tup (t.1.map kV))))->(ts.map (·.1)).Perm (kvs.map (·.1))->(ts.map (·.1)).Pairwise WX->zhV)
theorem xlq {X:Cx} (hc:mE):Bo "sorted" xr1:=by
 intro pins s Z H xs us Q I r h;obtain⟨d,kvs,sh,rfl,hd,hl,hsh,hpos,q⟩:=h;show(ag,u,rfl,ru,xc3 r);ext rW u d ru;obtain⟨z,hsys,⟨es',rel,dd⟩⟩:43:=xkn I.hok hd;obtain⟨o,es,ep,ho,hx,hdat,hes,hkk,hnd⟩:106:=dd;have ln:=YD rel;have esz:es.size=es'.length:=X4
 refine Calls.call_function_entry kind_sorted plain_sorted entry_sorted (args_sorted1 _) ?_;unfold Builtin.sorted;ext EE;show wpAny _ _ (collect (.ref d)>>=_) _ _ _;show(cJ,(kdu_collect (xtl hsys hx hdat) jM ho (by rw[esz,<- ln]; exact z) (bN h1 tk acc keep items)));have acl:acc.toList=es'.map fun x=>Zs cM:=by
  refine QB (cH j);obtain⟨i1,i2⟩:=items;by_cases c:j<es'.length
  .have c':j<acc.size:=qi i1 esz c
   have e:(cC,acc,acc[j]):=J7 c';show(ag,en,he,hv,i2 j acc[j] e);rw[Jv,e,hv];have he':cC es.toList en:=aA Jv he
   rw[hes,Zc,Zb c] at he';rw[Zc,Zb c];have:=ZO.inj he';rw[<- this];rfl
  .rw [Jh (by rw[Jm,i1,esz]; omega),Jh zK]
 rw[acl];have I1:nK (sA h1):=I.kept keep;obtain⟨km,ke⟩:=xou rel;have shE:znJ:=fun x hx=>by
  have m:bn∈kvs.map (·.1):=Ht ke Te
  ext EW e m;rw[<- e];exact hsh p hp
 refine xpu es' I1 (cY ln hl) km shE hpos hnd fun l ts fr pm pw=>q l ts fr (aq t ht) ?_ pw
 .show(fj,x,hx,rfl,Zf.mp (pm.mem_iff.mp ht));exact km x hx
 .have:=pm.map (·.1);rw[Z8] at this;ext jp ke this
theorem xlt {prog:Program}{w:World}{K:Type} [DecidableEq K] {knd:HeapKind prog w K}{A:Around}{E:bA}{s:Shared}{d a b:Addr}{xs:fQ K zdB}{k:K}{v:Value}{i:Nat}{Q:eQ (dG DictEntry)}
    (hr:knd.room A) (hk:knd.is s.heap k a) (dd:Heap.DictOfH knd s.heap d xs) (hi:ba xs (k,b,v)) (hz:vx)
    (h:∀ h',Heap.DictOfH knd h' d (xs.eraseIdx i)->zcs->Q (some (entryOfKey knd (k,b,v))) (AF zqY)):wpAny bz A (Builtin.Dict.takeOut d bq) Q E s:=by
  obtain⟨o,es,ep,ho,hx,hdat,hes,hkk,hnd⟩:106:=dd;have esz:es.size=xs.length:=X4
  unfold Builtin.Dict.takeOut;refine J4 (Zg (knd.pyHash hr hk ?_));show(cJ,(wpAny_dictFind_heap (s:={ s with toks:=zqY }) hr hk ho hdat hes hkk hnd (fun no=>absurd hi (no i (b,v))) (aI j p hj)));have ji:j=i:=by
    have e1:(xs.map (·.1))[j]?=(xs.map (·.1))[i]?:=by rw[Zc,Zc,hj,hi]; rfl
    exact (List.getElem?_inj (fV,gR hj) hnd).mp e1
  subst ji;show(cJ,Jx ho hdat ?_);show(ie,e,entry_at hes j,hi);rw[e];show(cJ,(wpAny_updateDictKeys ho hdat (Zo (h _ ?_ zbY)) (aA esz hz) (gO,size_eraseIdxIfInBounds_le es j)));refine⟨106,_,_,_,Yk _ ho (Obj.isFreed_of_dict zmI),hx.mapDictKeys _,zmI,?_,aq x hx',?_⟩
  . have e2:(es.eraseIdxIfInBounds j).toList=es.toList.eraseIdx j:=ap
    rw[e2,hes];simp[Y0,Yv,Yw]
  . exact knd.keeps (hkk x (List.mem_of_mem_eraseIdx hx')) ho hdat zbY
  . exact JH.sublist (List.Sublist.map _ (List.eraseIdx_sublist _ _)) hnd
theorem Paired.erase {α β:Type}{F:bE α β}{l₁:aP}{l₂:List β} (h:Paired F l₁ l₂):∀ i,Paired F (l₁.eraseIdx i) (l₂.eraseIdx i):=by
 induction h with
 | nil=>exact oX .nil
 | cons r t ih =>
  intro i;cases i with
  | zero=>exact t
  | succ i=>exact .cons r (ih i)
theorem Paired.at_ {α β:Type}{F:bE α β}{l₁:aP}{l₂:List β} (h:Paired F l₁ l₂):∀{i:Nat}{x:α},(ba l₁ x)->∃ y,(ba l₂ y)/\F x y:=by
 induction h with
 | nil=>intro i x e; ext sr
 | @cons a b l₁ l₂ r t ih =>
  intro i x e;cases i with
  | zero =>
   ext BM;ext se b r
  | succ i=>ext wO
theorem xim {κ:Type} [Ie]:∀{kvs:eP}{i:Nat}{k:κ}{v:V},(kvs.map (·.1)).Nodup->(ba kvs uJ)->BZ=kvs.eraseIdx i
 | [],i,k,v,_,h=>yB
 | oS,0,k,v,nd,h=>by
  simp at h;subst h;ext vS;show List.filter _ _=r;rw[ZU ap];refine Wn.mpr (aq q hq);have:q.1≠k:=fun e=>nd.1 (e▸(L7 q hq));ext ET
 | oS,aX,k,v,nd,h=>by
  ext vS;have h':ba r uJ:=yh
  have ne:aJ≠k:=fun e=>nd.1 (by rw[e]; exact Zf.mpr (cE,uJ,Zk h'));show List.filter _ _=p::r.eraseIdx i;rw[ZT (by simpa using ne)];have:=xim gD h';unfold xcr at this;rw[this]
theorem xja {κ:Type} [Ie]:∀{kvs:eP}{k:κ}{v:V},K6->∃ i:Nat,ba kvs uJ
 | [],k,v,h=>ft
 | oS,k,v,h=>by
  ext BS
  .ext hJ De;cases h;show(aO,0,by simp[<- e])
  .ext hJ Ar;show(pK,i,hi,xja h,aX,Hy)
theorem xwr {X:Cx}{pins:bp}{Z:St}{H:Hp}{s:Shared}{A:Around}{E:bA}{a b:Addr}{kvs:dC}{k:eD}{v:V}{Q:bA} (hu:A.in1.units<cLine) (I:ax) (e:Gg) (eb:Gf) (l:K6)
    (h:(Hi,cT (jn H a BZ) s',RelV v w')):wpAny aS A (vG "dict.pop" (j4 bq b)) Q E s:=by
  obtain⟨z,hd,⟨xs,rel,dd⟩⟩:43:=zfc;obtain⟨km,ke⟩:=xou rel;have ln:=YD rel;obtain⟨i,hi⟩:=xja l;obtain⟨x,hx,rx⟩:∃ x,(aR,tI,(uJ:eD × V).1=bn,zaD cM,RelV v lQ):=L2.Paired.at_ rel hi;obtain⟨k',b',w'⟩:=x;obtain⟨ek,_,rw'⟩:43:=rx;simp only at ek;subst ek;have dd0:=dd;obtain⟨o,es,ep,ho,hxd,hdat,hes,hkk,hnd⟩:106:=dd;have ndk:(kvs.map (·.1)).Nodup:=cY ke hnd
  refine JP Qn ⟨o,ho,hxd.1⟩ PySem.F.entry_dict_pop ?_ (PySem.F.args_dict_pop_2 _ _);have ti:yE a "dict":=⟨o,ho,hxd.1⟩
  unfold Builtin.«dict.pop»;have esz:es.isEmpty=false:=by
    have:es.size=xs.length:=X4
    have:Ss:=gR hx;rw[Array.isEmpty_eq_false_iff_exists_mem];show(aO,es[i]' aa,ap)
  obtain⟨c0,d0,dat0,sl0⟩:=o;ext zif hxd
  repeat (any_goals (first|ext dZ|(with_reducible refine Ql ti ?_)|(with_reducible refine Jx ho rfl ?_)|((with_reducible show wpAny _ _ (Builtin.Dict.takeOut _ _) _ _ _); refine xlt (show (NJ).room A.in1 from hu) BA dd0 hx (cY ln z) (aI h' dd' hs))|wp_step))
  show(tR,h w' _ ?_ rw');have dd2:=dd';obtain⟨o',es',ep',ho',hx',hd',he',hk',hn'⟩:106:=dd2;refine xeb I zb hs ⟨o',ho'⟩ ?_;refine⟨ZK (xk3 kvs k) z,hd,xs.eraseIdx i,?_,⟨105,o',es',ep',ho',hx',hd',he',hn'⟩⟩;rw[xim ndk hi];refine Paired.mapP (L2.Paired.erase rel i) fun p q zz=>⟨zz.1,?_,b8 zz⟩
  show(ip,xdd (bc zz) e dw,bc zz)
noncomputable def xvm (td ty:TE):TE:=(MT,∃ kvs k b v,(ay,H2 a=some (.dT kvs),Fv,(ae,H2 b,.tup (k.map kV)),K6,Q v (jn H2 a BZ)))
section
variable {X:Cx}{o e:Expr}{td ty:TE}{apos cpos:Pos}
theorem xrd (hu:xW) (ho:v0) (he:To) (m:M1 X o "pop" apos e cpos):PE X (AA "pop" [e]) (xvm td ty):=by
 intro pins s Z H Q I h;show(zgi,Q9 m.base m.few m.line JW Qn PySem.F.type_dict_pop (thn (ho pins s Z H _ I h) fun u s1 ⟨x,H1,I1,rx,a,ex,d,q1⟩=>?_),he pins s1 Z H1 _ I1 q1,fun iv s2 ⟨y,H2,I2,ry,kvs,k,b,v,ea,ey,eb,l,q2⟩=>YH ?_);ext rW iv b ry;exact xwr hu I2 ea eb l zoB
#check _
#check L2
namespace L2
open PySem PySem.Spec PyProof.Rows XL PySem.W
inductive DV where
 | non
 | bl (b:Bool)
 | int (i:Int)
 | str (x:Str)
 | tup (xs:oC)
 | lst (xs:oC)
mutual
def dEq:DV->DV->Bool
 | .non,.non=>true
 | .bl a,.bl b=>a == b
 | .bl a,.int b=>(if a then 1 else 0) == b
 | .int a,.bl b=>a == (if b then 1 else 0)
 | .int a,.int b=>a == b
 | .str a,.str b=>a == b
 | .tup xs,.tup ys=>dEqs xs ys
 | .lst xs,.lst ys=>dEqs xs ys
 | _,_=>false
def dEqs:List DV->List DV->Bool
 | [],[]=>true
 | x::xs,y::ys=>dEq x y&&dEqs xs ys
 | _,_=>false
end
mutual
theorem xce:∀ d,dEq d d=true
 | .non=>rfl
 | .bl _=>by simp[dEq]
 | .int _=>by simp[dEq]
 | .str _=>by simp[dEq]
 | .tup xs=>by simp only[dEq]; exact xek xs
 | .lst xs=>by simp only[dEq]; exact xek xs
theorem xek:∀ xs,dEqs xs xs=true
 | []=>rfl
 | x::xs=>by simp only[dEqs,Z7]; exact⟨xce x,xek xs⟩
end
mutual
def DV.pl:DV->Bool
 | .bl _=>false
 | .tup xs=>pls xs
 | .lst xs=>pls xs
 | _=>true
def pls:List DV->Bool
 | []=>true
 | x::xs=>x.pl&&pls xs
end
mutual
theorem xk6:∀{d e:DV},d.pl=true->e.pl=true->dEq d e=true->d=e
 | .non,.non,_,_,_=>rfl
 | .int a,.int b,_,_,h=>by simp only[dEq,beq_iff_eq] at h; rw[h]
 | .str a,.str b,_,_,h=>by simp only[dEq,beq_iff_eq] at h; rw[h]
 | .tup xs,.tup ys,p,q,h=>by
  simp only[dEq] at h;simp only[DV.pl] at p q;rw[xjl p q h]
 | .lst xs,.lst ys,p,q,h=>by
  simp only[dEq] at h;simp only[DV.pl] at p q;rw[xjl p q h]
 | .bl _,_,p,_,_=>by simp[DV.pl] at p
 | .non,.bl _,_,q,_=>by simp[DV.pl] at q
 | .int _,.bl _,_,q,_=>by simp[DV.pl] at q
 | .str _,.bl _,_,q,_=>by simp[DV.pl] at q
 | .tup _,.bl _,_,q,_=>by simp[DV.pl] at q
 | .lst _,.bl _,_,q,_=>by simp[DV.pl] at q
 | .non,.int _,_,_,h=>by simp[dEq] at h
 | .non,.str _,_,_,h=>by simp[dEq] at h
 | .non,.tup _,_,_,h=>by simp[dEq] at h
 | .non,.lst _,_,_,h=>by simp[dEq] at h
 | .int _,.non,_,_,h=>by simp[dEq] at h
 | .int _,.str _,_,_,h=>by simp[dEq] at h
 | .int _,.tup _,_,_,h=>by simp[dEq] at h
 | .int _,.lst _,_,_,h=>by simp[dEq] at h
 | .str _,.non,_,_,h=>by simp[dEq] at h
 | .str _,.int _,_,_,h=>by simp[dEq] at h
 | .str _,.tup _,_,_,h=>by simp[dEq] at h
 | .str _,.lst _,_,_,h=>by simp[dEq] at h
 | .tup _,.non,_,_,h=>by simp[dEq] at h
 | .tup _,.int _,_,_,h=>by simp[dEq] at h
 | .tup _,.str _,_,_,h=>by simp[dEq] at h
 | .tup _,.lst _,_,_,h=>by simp[dEq] at h
 | .lst _,.non,_,_,h=>by simp[dEq] at h
 | .lst _,.int _,_,_,h=>by simp[dEq] at h
 | .lst _,.str _,_,_,h=>by simp[dEq] at h
 | .lst _,.tup _,_,_,h=>by simp[dEq] at h
theorem xjl:∀{xs ys:List DV},pls xs=true->pls ys=true->dEqs xs ys=true->xs=ys
 | [],[],_,_,_=>rfl
 | x::xs,y::ys,p,q,h=>by
  simp only[pls,Z7] at p q;simp only[dEqs,Z7] at h;rw[xk6 p.1 q.1 h.1,xjl p.2 q.2 h.2]
 | [],_::_,_,_,h=>by simp[dEqs] at h
 | _::_,[],_,_,h=>by simp[dEqs] at h
end
theorem xhg {d e:DV}{α:Type}{x y:α} [yr] (p:d.pl=true) (q:e.pl=true) (f:d=e↔x=y):rY Cl (x=y):=by
 ext ir x y
 .rw [decide_eq_true c,f.mpr c];exact xce _
 .rw [decide_eq_false c];cases z:Cl with
  | false=>rfl
  | true=>exact absurd (f.mp (xk6 p q z)) c
theorem xh6:∀{xs ys:oC}{e:Fg},(zma,e j=dEq x y)->((Zu (min xs.length ys.length)).all e&&xs.length == ys.length)=dEqs xs ys
 | [],[],_,_=>rfl
 | [],dc,_,_=>b6 dEqs
 | dc,[],_,_=>b6 dEqs
 | qE,nu,e,h=>by
  show(ah,ih,xh6 (xs:=xs) (ys:=ys) (e:=fun j=>e gH) (fun j a b ha hb=>h gH a b (by simpa using ha) vm),h0,h 0 x y rfl rfl);rw[Z6,Z6,(fh,min (xs.length+1) (ys.length+1)=min xs.length ys.length+1),Qi,YR,List.all_map];show _=(dEq x y&&dEqs xs ys)
  rw[<- ih,h0];have z:((xs.length+1 == ys.length+1):Bool)=(xs.length == ys.length):=by
   rw[Jk];simp
  rw[z,Bool.and_assoc];rfl
theorem xl4:∀{xs ys:oC},xs.length≠ys.length->dEqs xs ys=false
 | [],[],h=>absurd rfl h
 | [],dc,_=>rfl
 | dc,[],_=>rfl
 | qE,nu,h=>by
  show (dEq x y&&dEqs xs ys)=false;rw[xl4 (xs:=xs) (ys:=ys) (aj,h (b6 z))];exact Q5 _
inductive Dv (K:Zd) (H:Hp):Nat->(bE V DV)
 | non {n:Nat}:iW n .non .non
 | bl {n:Nat}{b:Bool}:iW n uK uK
 | int {n:Nat}{b:Int}:iW n (.int b) (.int b)
 | str {n:Nat}{b:Str}:iW n (.str b) (.str b)
 | tup {n:Nat}{a:Addr}{xs:af}{ds:oC} (ha:IH) (hl:zsm) (h:ziF):iW iX bq (.tup ds)
 | lst {n:Nat}{a:Addr}{xs:af}{ds:oC} (ha:qW) (hl:zsm) (h:ziF):iW iX bq (.lst ds)
section
variable {X:Cx}{pins:List (Addr × Obj)}{Z:St}{H:Hp}{s:Shared}
theorem xkc {h:Heap}{a:Addr}{i j:gL} (p:h.IsTuple a i) (q:PlainL h a j):False:=by
 ext tu o e c p;obtain⟨o',n,e',c',_⟩:83:=q;ext bG e e' e';rw[c] at c';ext bZ c' au
theorem xqa {xs ys:oC} (h:zsn) (f:(zma,x=y)):xs=ys:=by
 refine QB (cH j);by_cases c:j<xs.length
 .rw [Zb c,Df,f j _ _ (Zb c) Df]
 .rw [Jh aa,Jh aa]
theorem xkz (I:ax) {n:Nat}{x:V}{d:DV} (h:Dv X.K H n x d):∀{m:Nat}{e:DV},Dv X.K H m x e->d=e:=by
 induction h with
 | non=>ext Pu
 | bl=>ext Pu
 | int=>ext Pu
 | str=>ext Pu
 | @tup n a xs ds ha hl h ih =>
  intro m e h2;cases h2 with
  | @tup m _ ys es hb kl k =>
   show(qG,I.tuple_inj ha hb);refine congrArg DV.tup (xqa aa (bN j d e h1 h2));have lt:j<xs.length:=by
    show(cy,gR h1)
   exact ih j Db d ij h1 (k j Db e ij h2)
  | @lst m _ ys es hb kl k =>
   show(zhd,I.tuple ha,I.list hb)
 | @lst n a xs ds ha hl h ih =>
  intro m e h2;cases h2 with
  | @lst m _ ys es hb kl k =>
   show(qG,I.list_inj ha hb);refine congrArg DV.lst (xqa aa (bN j d e h1 h2));have lt:j<xs.length:=by
    show(cy,gR h1)
   exact ih j Db d ij h1 (k j Db e ij h2)
  | @tup m _ ys es hb kl k =>
   show(zhd,I.tuple hb,I.list ha)
noncomputable def at2 (f:DV->DV->Bool) (ds es:oC) (j:Nat):Bool:=match ds[j]?,es[j]? with|some d,some e=>f d e|_,_=>false
theorem xit {f:DV->DV->Bool}{ds es:oC}{j:Nat}{d e:DV} (h:cC ds d) (h2:cC es e):at2 f ds es j=f d e:=by
 unfold at2;rw[h,h2]
theorem xik (I:ax) {n:Nat}{x:V}{d:DV} (h:Dv X.K H n x d):∀{m:Nat}{y:V}{e:DV},Dv X.K H m y e->∀{A:Around}{u v:Value},A.units+n+m<cLine->ou->RelV y v ->
    Z1 A s u v Cl/\ZP A s u v Cl/\ZD A s u v (! Cl):=by
  induction h with
  | @non n =>
    intro m y e h2 A u v hu rx ry;show(ii,u=JG,rx);cases h2 with
    | @non  =>
      show(D9,Z1.same _,ZP.none_none,ZD.none_none)
    | @bl _ b2 =>
      show(DL,Z1.none_bool _,ZP.none_bool _,ZD.none_bool _)
    | @int _ b2 =>
      show(o5,Z1.none_int _ _,ZP.none_int _ _,ZD.none_int _ _)
    | @str _ b2 =>
      show(o5,Z1.none_str _ _,ZP.none_str _ _,ZD.none_str _ _)
    | @tup m b ys es hb kl k =>
      show(G5,Z1.none_tuple t2 aa,ZP.none_tuple t2 aa,ZD.none_tuple t2 aa)
    | @lst m b ys es hb kl k =>
      show(G6,Z1.none_list t2.isList aa,ZP.none_list t2.isList aa,ZD.none_list t2.isList aa)
  | @bl n b1 =>
    intro m y e h2 A u v hu rx ry;show(ii,u=Ye _,rx);cases h2 with
    | @non  =>
      show(D9,Z1.bool_none _,ZP.bool_none _,ZD.bool_none _)
    | @bl _ b2 =>
      show(DL,Z1.bool_bool _ _,ZP.bool_bool _ _,ZD.bool_bool _ _)
    | @int _ b2 =>
      show(o5,Z1.bool_int _ _ _,ZP.bool_int _ _ _,ZD.bool_int _ _ _)
    | @str _ b2 =>
      show(o5,Z1.bool_str _ _ _,ZP.bool_str _ _ _,ZD.bool_str _ _ _)
    | @tup m b ys es hb kl k =>
      show(G5,Z1.bool_tuple _ t2 aa,ZP.bool_tuple _ t2 aa,ZD.bool_tuple _ t2 aa)
    | @lst m b ys es hb kl k =>
      show(G6,Z1.bool_list _ t2.isList aa,ZP.bool_list _ t2.isList aa,ZD.bool_list _ t2.isList aa)
  | @int n b1 =>
    intro m y e h2 A u v hu rx ry;obtain⟨_,rfl⟩:=rx;cases h2 with
    | @non  =>
      show(D9,Z1.int_none _ _,ZP.int_none _ _,ZD.int_none _ _)
    | @bl _ b2 =>
      show(DL,Z1.int_bool _ _ _,ZP.int_bool _ _ _,ZD.int_bool _ _ _)
    | @int _ b2 =>
      show(o5,Z1.int_int _ _ _ _,ZP.int_int _ _ _ _,ZD.int_int _ _ _ _)
    | @str _ b2 =>
      show(o5,Z1.int_str _ _ _ _,ZP.int_str _ _ _ _,ZD.int_str _ _ _ _)
    | @tup m b ys es hb kl k =>
      show(G5,Z1.int_tuple _ _ t2 aa,ZP.int_tuple _ _ t2 aa,ZD.int_tuple _ _ t2 aa)
    | @lst m b ys es hb kl k =>
      show(G6,Z1.int_list _ _ t2.isList aa,ZP.int_list _ _ t2.isList aa,ZD.int_list _ _ t2.isList aa)
  | @str n b1 =>
    intro m y e h2 A u v hu rx ry;obtain⟨_,rfl⟩:=rx;cases h2 with
    | @non  =>
      show(D9,Z1.str_none _ _,ZP.str_none _ _,ZD.str_none _ _)
    | @bl _ b2 =>
      show(DL,Z1.str_bool _ _ _,ZP.str_bool _ _ _,ZD.str_bool _ _ _)
    | @int _ b2 =>
      show(o5,Z1.str_int _ _ _ _,ZP.str_int _ _ _ _,ZD.str_int _ _ _ _)
    | @str _ b2 =>
      show(o5,Z1.str_str _ _ _ _,ZP.str_str _ _ _ _,ZD.str_str _ _ _ _)
    | @tup m b ys es hb kl k =>
      show(G5,Z1.str_tuple _ _ t2 aa,ZP.str_tuple _ _ t2 aa,ZD.str_tuple _ _ t2 aa)
    | @lst m b ys es hb kl k =>
      show(G6,Z1.str_list _ _ t2.isList aa,ZP.str_list _ _ t2.isList aa,ZD.str_list _ _ t2.isList aa)
  | @tup n a xs ds ha hl h ih =>
    intro m y e h2 A u v hu rx ry;show(zkx,I.tuple ha);cases h2 with
    | @non  =>
      show(D9,Z1.tuple_none t1 aa,ZP.tuple_none t1 aa,ZD.tuple_none t1 aa)
    | @bl _ b2 =>
      show(DL,Z1.tuple_bool _ t1 aa,ZP.tuple_bool _ t1 aa,ZD.tuple_bool _ t1 aa)
    | @int _ b2 =>
      show(o5,Z1.tuple_int _ _ t1 aa,ZP.tuple_int _ _ t1 aa,ZD.tuple_int _ _ t1 aa)
    | @str _ b2 =>
      show(o5,Z1.tuple_str _ _ t1 aa,ZP.tuple_str _ _ t1 aa,ZD.tuple_str _ _ t1 aa)
    | @tup m b ys es hb kl k =>
      show(Ny,I.tuple hb);ext R5;have step:(zhI,zjt (at2 dEq ds es j)):=fun j h1 h2=>by
        show(zfQ,ih j x _ hx (Zb j1) (k j y _ hy (Zb j2)) (A:=A.in1) zlA rx ry)
      have all:=zhe;have both:ZP A s (.ref a) (.ref b) (dEqs ds es)/\ZD A s (.ref a) (.ref b) (!dEqs ds es):=by
        show(ah,z1,ZP.tuples (A:=A) (e:=Eo) (zlm t1) ziL aa step,z2,ZD.tuples (A:=A) (e:=Eo) (zlm t1) ziL aa step);ext zgL
        rw[e1,e2,all] at z1 z2;ext aO z1 z2
      simp only[dEq];refine⟨?_,both⟩;by_cases q:a=b
      . subst q
        have ed:DV.tup ds=DV.tup es:=xkz I (Dv.tup ha hl h) (Dv.tup hb kl k);ext zhb
      . exact .of_refs q both.1
    | @lst m b ys es hb kl k =>
      show(G6,Z1.tuple_list t1 t2.isList aa,ZP.tuple_list t1 t2.isList aa,ZD.tuple_list t1 t2.isList aa)
  | @lst n a xs ds ha hl h ih =>
    intro m y e h2 A u v hu rx ry;show(zkx,I.list ha);cases h2 with
    | @non  =>
      show(D9,Z1.list_none t1.isList aa,ZP.list_none t1.isList aa,ZD.list_none t1.isList aa)
    | @bl _ b2 =>
      show(DL,Z1.list_bool _ t1.isList aa,ZP.list_bool _ t1.isList aa,ZD.list_bool _ t1.isList aa)
    | @int _ b2 =>
      show(o5,Z1.list_int _ _ t1.isList aa,ZP.list_int _ _ t1.isList aa,ZD.list_int _ _ t1.isList aa)
    | @str _ b2 =>
      show(o5,Z1.list_str _ _ t1.isList aa,ZP.list_str _ _ t1.isList aa,ZD.list_str _ _ t1.isList aa)
    | @tup m b ys es hb kl k =>
      show(G5,Z1.list_tuple t1.isList t2 aa,ZP.list_tuple t1.isList t2 aa,ZD.list_tuple t1.isList t2 aa)
    | @lst m b ys es hb kl k =>
      show(Ny,I.list hb);ext R5;have step:(zhI,zjt (at2 dEq ds es j)):=fun j h1 h2=>by
        show(zfQ,ih j x _ hx (Zb j1) (k j y _ hy (Zb j2)) (A:=A.in1) zlA rx ry)
      have all:=zhe;have both:ZP A s (.ref a) (.ref b) (dEqs ds es)/\ZD A s (.ref a) (.ref b) (!dEqs ds es):=by
        ext zgL
        show(ir,ds.length,es.length)
        . show(ah,z1,ZP.lists (A:=A) (e:=Eo) t1.isList t2.isList aa aa step,z2,ZD.lists (A:=A) (e:=Eo) t1.isList t2.isList aa aa step);have all':(Zu ds.length).all Eo=dEqs ds es:=by
            rw[<- all,c,Nat.min_self];simp
          rw[e1,all'] at z1 z2;ext aO z1 z2
        . rw[xl4 c]
          show(aO,ZP.lists_lengths (A:=A) t1.isList t2.isList zmY aa,ZD.lists_lengths (A:=A) t1.isList t2.isList zmY aa)
      simp only[dEq];refine⟨?_,both⟩;by_cases q:a=b
      . subst q
        have ed:DV.lst ds=DV.lst es:=xkz I (Dv.lst ha hl h) (Dv.lst hb kl k);ext zhb
      . exact .of_refs q both.1
#check _
theorem Same.seqL {K:Zd}{H H':Hp}{a:Addr}{xs:af} (s:bB) (h:qW):SqL K H' a xs:=by
 rcases h with (h|⟨ob,h⟩)|h
 .show(KN,s _ _ h)
 .show(E7,⟨ob,s _ _ h⟩)
 .ext eF h
inductive rEqV (K:Zd) (x:V) (y:V) (H:Hp) (Q:VK):Prop
 | mk (n m:Nat) (d e:DV) (e_:SX) (r_:Wy e Cl)
inductive rNeV (K:Zd) (x:V) (y:V) (H:Hp) (Q:VK):Prop
 | mk (n m:Nat) (d e:DV) (e_:SX) (r_:Wy e (! Cl))
inductive rInV (K:Zd) (neg:Bool) (x:V) (y:V) (H:Hp) (Q:VK):Prop
 | mk (n m:Nat) (d:DV) (es:oC) (e_:SX) (r_:Wy (.lst es) (if neg then ! zrW else zrW))
section
variable {X:Cx}
theorem xwa (hu:AG):OpR X (compareOp .Eq) (rEqV X.K):=by
 intro pins s Z H x y u v Q I rx ry h;obtain⟨n,m,d,e,h1,h2,hn,hm,q⟩:=h;exact (xik I h1 h2 (A:=X.A) aa rx ry).2.1 X.prog X.w X.xe _ (Fm lU I)
theorem xcu (hu:AG):OpR X (compareOp .NotEq) (rNeV X.K):=by
 intro pins s Z H x y u v Q I rx ry h;obtain⟨n,m,d,e,h1,h2,hn,hm,q⟩:=h;exact PySem.W.cmp_ofNotEq ((xik I h1 h2 (A:=X.A) aa rx ry).2.2 X.prog X.w X.xe _ (Fm lU I))
theorem xlh {α β:Type}{f:Uu}{g:β->Bool}:∀{xs:aP}{ys:List β},zsn->(∀(j:Nat) (x:α) (y:β),Lg->(cC ys y)->f x=g y)->xs.any f=ys.any g
 | [],[],_,_=>rfl
 | [],dc,h,_=>ft
 | dc,[],h,_=>ft
 | qE,nu,h,k=>by
  rw[Yx,Yx,k 0 x y rfl rfl,xlh (xs:=xs) (ys:=ys) yh fun j a b h1 h2=>k gH a b qP DT]
noncomputable def eOf (K:Zd) (H:Hp) (m:Nat) (d:DV) (z:V):Bool:=@dite Bool (∃ e,iW m z e) (Classical.propDecidable _) (fE,dEq h.choose d) fun _=>false
theorem xff {pins:bp}{Z:St}{H:Hp}{s:Shared} (I:ax) {m:Nat}{d e:DV}{z:V} (h:Dv X.K H m z e):eOf X.K H m d z=dEq e d:=by
 unfold eOf;rw[dif_pos ⟨e,h⟩];have ex:∃ e,Dv X.K H m z e:=⟨e,h⟩
 rw[xkz I ex.choose_spec h]
theorem xqh (hu:AG):qQ .In (rInV X.K false):=by
 intro pins s Z H x y v u Q I rx ry h;obtain⟨n,m,d,es,h1,h2,hn,hm,q⟩:=h;cases h2 with
 | @lst m a xs _ ha hl k =>
  cases ry;obtain⟨its,r,pl,hz⟩:63:=I.list ha;have get:∀ z∈xs,∃(j:Nat) (e:DV),xs[j]?=some z/\es[j]?=some e/\Dv X.K H m z e:=fun z hz=>by
   ext zgd
  show(zkX,eU Ix,aq w hw)
  .show(zgv,xik I he h1 (A:=X.A.in1) Xy m2 rx)
  .ext zfO
theorem xgo (hu:AG):qQ .NotIn (rInV X.K true):=by
 intro pins s Z H x y v u Q I rx ry h;obtain⟨n,m,d,es,h1,h2,hn,hm,q⟩:=h;cases h2 with
 | @lst m a xs _ ha hl k =>
  cases ry;obtain⟨its,r,pl,hz⟩:63:=I.list ha;have get:∀ z∈xs,∃(j:Nat) (e:DV),xs[j]?=some z/\es[j]?=some e/\Dv X.K H m z e:=fun z hz=>by
   ext zgd
  refine SeqAt.notIn_listAt (eU Ix) pl.isList (aq w hw) (aZ lU H I rfl ?_)
  .show(zgv,xik I he h1 (A:=X.A.in1) Xy m2 rx)
  .ext zfO
#check _
#check L2
namespace L2
open PySem PySem.Spec PyProof.Rows XL PySem.W
noncomputable def Tp (H H':Hp):Prop:=GS
theorem Same.tp {H H':Hp} (s:bB):Tp H H':=(jj,s b _ e)
theorem Tp.trans {H H' H'':Hp} (s:Tp H H') (r:Tp H' H''):Tp H H'':=(jj,r b xs (s b xs e))
theorem xqk {H:Hp}{l:Addr}{xs ys:af} (h:za):Tp H zeP:=fun b zs e=>by
 show(ip,(aj,by rw[z,h] at e; cases e),e)
section
variable {J:It}{n:Nat}{g:TG}{Z:St}{fr:List Nat}{tc:TT}{te:TE}{l:Addr}{H1:Hp}{Q:VK}
theorem xjj (len:Nat) (hlen:uF len) (hl:vM) (x:Nat->V) (hgo:∀ i H,i<len->Tq->J.go i H) (hy:∀ i H v H',(bb,i<len,Tq,J.yld i H v H',H'=H/\v=x i)) (hst:∀ H,Tq->J.stop len H)
    (p:Fg) (F:Mb) (stab:GE)
    (step:∀ i H2,i<len->kZ->∀(N:V->Hp->Prop) (M:Hp->Prop),(∀ y H',Same H2 H'->p i=true->F i y H'->N y H')->VF ->
      g (x i) Ke H2 U8)
    (fin:(Dq,((Zu len).filter p).length,(∀(j:Nat) (y:V) (i:Nat),A8 ((Zu len).filter p) i Lw))):xeh J n g Z fr tc te l H1 Q:=by
  refine xc8 len (zoH,((Zu i).filter p).length,∀(j:Nat) (y:V) (k:Nat),(A8,(Zu i).filter p,k,F k y H2)) ?_ ?_ ?_ ?_
  . refine(bW,wn,xk,rfl,fG j y k Bw)
    ext aD Ma e
  . rintro i ys H2 lt ⟨s,_⟩
    exact hgo i H2 lt s
  . rintro i ys H2 v H3 lt (⟨s,el,ly,f⟩:44) yl N hN
    show(d6,rfl,hy i H2 v H3 lt s yl);refine step i H3 lt s _ _ (bN y H' s' pt hf) (aI H' s' pf)
    . have el':=s' _ _ el
      have ylen:uF ys.length:=by
        rw[ly];refine Jz rP ?_;rw[ZW];omega
      refine⟨el',ylen,hN _ _ (bW,wn,xk,?_,bN j z k e1 e2)⟩
      . show(aD,Ma,s' _ _ rB)
      . rw[Yo,JR,Zr,Zr,ly,ZT pt]
        rfl
      . rw[Yo,JR,ZT pt] at e2
        by_cases c:j<ys.length
        . rw[Jc c] at e1
          show(bV,Jc aa,e2,stab _ _ _ _ ((Same.tp s').trans (xqk el')) (f j z k e1 e2))
        . rw[J0 aa] at e1 e2
          rw[<- ly] at e2;cases hj:j-ys.length with
          | zero =>
            rw[hj] at e1 e2;simp at e1 e2;subst e1 e2;exact stab _ _ _ _ (xqk el') hf
          | succ m =>
            rw[hj] at e1;simp at e1
    . refine hN _ _ (bW,s.trans s',s' _ _ el,?_,bN j z k e1 e2)
      . rw[Yo,JR,ZU (b6 pf)]
        simpa using ly
      . rw[Yo,JR,ZU (b6 pf)] at e2
        simp only[List.filter_nil,YV] at e2;exact stab _ _ _ _ (Same.tp s') (f j z k e1 e2)
  . rintro ys H2 (⟨s,el,ly,f⟩:44)
    show(aO,hst _ s,fin ys H2 s el ly f)
theorem xcy {K:Zd}{a:Addr}{xs:af} (hs:Ir) (hlen:Ii) (hl:vM) (p:Fg) (F:Mb) (stab:GE)
    (step:∀(i:Nat) (x:V) (H2:Hp),xs[i]?=some x->Same H1 H2->∀(N:V->Hp->Prop) (M:Hp->Prop),(∀ y H',Same H2 H'->p i=true->F i y H'->N y H')->VF ->
      g x Ke H2 U8)
    (fin:(Dq,((Zu xs.length).filter p).length,(∀(j:Nat) (y:V) (i:Nat),A8 ((Zu xs.length).filter p) i Lw))):xeh zx n g Z fr tc te l H1 Q:=by
  refine xjj xs.length hlen hl (oX,xs.getD i .non) (fun i H lt s=>(bQ,xs,xs[i],PR,ij)) (fun i H v H' lt s y=>?_) (fun H s=>⟨xs,PR,bv⟩) p F stab (fun i H2 lt s N M h1 h2=>?_) fin
  . ext tS f y
    have z:=f xs (Same.seqL s hs);show(dI,e,?_);simp[z]
  . show(kO,e,ba xs (xs.getD i .non),b6 ij,step i _ H2 e s N M h1 h2)
theorem xh5 {i:Nat}{x:V}{σ0:St}{H2:Hp}{N:wV}{M:LF}{g:TG}{te:TE} (h:g x σ0 H2 zcP):g x σ0 H2 fun σ' H3=>xeg σ' H3 fun b H4=>(cu,b,zfr,M H4):=by
 have e:(fun (σ':St) (H3:Hp)=>xeg σ' H3 fun b H4=>(cu,b,zfr,M H4))=zcP:=by
  funext σ' H3;show (cu,true,zfv,M H3)=zfv;rw[cp]
 ext aD e h
theorem filter_all (m:Nat):(Zu m).filter Kd=Zu m:=ap
theorem xbf {K:Zd}{a:Addr}{xs:af} (hs:Ir) (hlen:Ii) (hl:vM) (F:Mb) (stab:GE)
    (step:zmK (zit UH))
    (fin:Dq xs.length (O0 Lw)):xeh zx n g Z fr xeg te l H1 Q:=by
  refine xcy hs hlen hl Kd F stab (fun i x H2 hx s N M h1 h2=>xh5 (i:=i) (step i x H2 hx s N zlc)) (fun ys H2 s e ly f=>?_);rw[filter_all,ZW] at ly;refine fin ys H2 s e ly zoE;rw[filter_all,J8 (gO zD)]
#check _
theorem xdc {α:Type}{f:α->V}:∀{as:aP}{ys:af},(zS as.length)->(∀(i:Nat) (y:V) (a:α),TB->(ba as a)->y=f a)->ys=as.map f
 | [],[],_,_=>rfl
 | [],dc,h,_=>ft
 | dc,[],h,_=>ft
 | a::as,nu,h,k=>by
  rw[Zp,k 0 y a rfl rfl,xdc (as:=as) (ys:=ys) yh fun i y' a' h1 h2=>k aX y' a' qP DT]
theorem xm3 {α:Type} (q:Uu):∀(as:aP) (p:Fg),ziK->((Bx).filter p).filterMap (fun i=>as[i]?)=as.filter q
 | [],_,_=>rfl
 | a::as,p,h=>by
  have ih:=xm3 q as (fun i=>p aX) (fF,b,hb,h aX b vm);rw[Z6,Qi];have e:((Bx).map Nat.succ).filter p=((Bx).filter (fun i=>p aX)).map Nat.succ:=by
   rw[QX];rfl
  have h0:=h 0 a rfl;by_cases c:q a=true
  .rw [ZT (aA h0 c),ZT c,e,J9];simp only[List.getElem?_cons_zero,Q6];rw[<- ih];rfl
  .rw [ZU (aA h0 c),ZU c,e,Q6,<- ih];rfl
theorem xe0 {α:Type} (q:Uu) {as:aP}{p:Fg} (h:ziK):((Bx).filter p).length=(as.filter q).length/\∀ j i:Nat,(cC ((Bx).filter p) i)->as[i]?=(as.filter q)[j]?:=by
 rw[<- xm3 q as p h];have all:∀ i∈(Bx).filter p,∃ a,ba as a:=fun i hi=>by
  have:=ZJ.mp (qm hi);show(aO,as[i],Zb this)
 generalize (Bx).filter p=is at all
 induction is with
 | nil=>show(aO,rfl,gF j i Bw)
 | cons i is ih =>
  show(F9,ha,all i Zm);obtain⟨h1,h2⟩:=ih fun k hk=>all k (Zi _ hk)
  rw[J9,ha];show(dI,b6 h1,gZ j k);cases j with
  | zero =>
   ext BM;exact ha
  | succ m=>exact h2 m k vp
#check L2
namespace XL
open PySem PySem.MeetsSeq PySem.MeetsSeq2 PySem.MeetsSeq3 PySem.SeqAt
open AutoSeq1 (wpAny_loadPart')
theorem xnf (a:Addr) (zs:gL) (n:Nat) (y:Value) (f:zfe) (j:Nat) (lt:j<zs.size) (yes:f zs[j]=true) (few:cZ zs.size) (k:Nat) :
    ∀ i:Nat,j-i=k->i<=j->(∀ m (hm:m<zs.size),i<=m->m<j->f zs[m]=false)->Meets (Builtin.«list.remove.loop» (jT [bq,y,rawInt i]))
      (fun A R s=>(s.heap.get? a=some { cls:=.type "list",dict:=none,data:=.seq zs n,slots:=#[] })/\ziU /\
        zgt):=by
  induction k with
  | zero =>
    intro i ek le no prog w A R s g;ext Vl;show(ii,i=j,aa)
    wp_walk using
      YA at_
    show(zoA,b6 lt)
    rw[ix];refine Zg
      (eq _ (Array.getElem_mem lt) prog w _ _ ?_)
    rw[yes];have few':(zs.eraseIdxIfInBounds i).size<=sizeLine+1 :=
      ZK (size_erased zs _) (Nat.le_succ_of_le few)
    wp_walk using
      (wpAny_updateSeq at_ rfl (hz:=few) (_hz':=few')),YA at_
    simpa using g
  | succ k ih =>
    intro i ek le no prog w A R s g;ext Vl;have il:i<zs.size:=aa
    wp_walk using
      YA at_
    show(zoA,b6 il)
    have ic:(cL+1)=(gP aX):=aa
    rw[ix];refine Zg
      (eq _ (Array.getElem_mem il) prog w _ _ ?_)
    rw[no i il bv aa]
    wp_walk
    rw[ic];exact⟨zpC,YB entry_remove_loop (by
      show(aD,Ys plain_remove_loop _,ih aX aa aa (fun m hm h1 h2=>no m hm aa h2) prog w A R _ ⟨at_,eq,g⟩))⟩
theorem xxq (a:Addr) (zs:gL) (n:Nat) (y:Value) (f:zfe) (j:Nat) (lt:j<zs.size) (yes:f zs[j]=true) (no:∀ m (hm:m<zs.size),m<j->f zs[m]=false) (few:cZ zs.size) :
    Meets (Builtin.«list.remove» (jT [bq,y]))
      (fun A R s=>(s.heap.get? a=some { cls:=.type "list",dict:=none,data:=.seq zs n,slots:=#[] })/\ziU /\
        zgt):=by
  intro prog w A R s g;ext Vl
  wp_walk using
    YA at_
  exact⟨zpC,YB entry_remove_loop (by
    show(aD,Ys plain_remove_loop _,xnf a zs n y f j lt yes few _ 0 rfl iQ (fun m hm _ h2=>no m hm h2) prog w A R _ ⟨at_,eq,g⟩))⟩
#check XL
namespace L2
open PySem PySem.Spec PyProof.Rows XL PySem.W
noncomputable def xpp:Expr->Bool
 | .Starred _ _=>false
 | _=>true
theorem xnw {e:Expr}{es:kg}{env:Env} (h:xpp e=true):starEach nB env=(jA SU)::starEach es env:=by
 cases e<;>first|rfl|cases h
theorem xa7 {X:Cx}{e:Expr}{es:kg}{te:TE}{t:TA} (ha:tF) (hr:Tl) (hn:xpp e=true):PA X nB (xsn te t):=xa ha hr (xnw hn)
noncomputable def xjd (es:oC) (d:DV) (j:Nat):Prop:=(∃ e,(cC es e)/\dEq e d=true)/\∀(i:Nat) (e:DV),i<j->(ba es e)->dEq e d=false
noncomputable def xtd (K:Zd):IY:=fun x vs H Q=>∃(l:Addr) (xs:af) (y:V) (n m:Nat) (d:DV) (es:oC) (j:Nat),(ay,Lz,vs=[y],za,iW n y d,(ay,iW m mX (.lst es),n<=9,m<=9,xjd es d j,Q .non (zrc j)))
section
variable {X:Cx}
theorem xqq {pins:bp}{s:Shared}{Z:St}{H:Hp}{l:Addr}{xs:af}{its:aY}{y:V}{u:Value}{n m:Nat}{d:DV}{es:oC}{j:Nat} (hu:AG) (I:ax) (hH:za) (r:yL) (ru:gg) (h1:Dv X.K H n y d) (h2:Dv X.K H m mX (.lst es)) (hn:n<=9) (hm:m<=9) (fa:xjd es d j) :
    ∃(f:zfe) (lt:j<its.toArray.size),f its.toArray[j]=true/\(∀ k (hk:k<its.toArray.size),k<j->f its.toArray[k]=false)/\∀ z,z∈its.toArray->Z1 X.A.in1 s z u (f z):=by
  cases h2 with
  | @lst m _ zs _ ha hl k =>
    show(qG,I.list_inj ha (SqL.of hH));obtain⟨⟨e,he,ee⟩,no⟩:=fa;have len:=r.length;have jl:j<es.length:=gR he;have at_:∀(i:Nat) (h:i<its.toArray.size),∃(z:V) (e:DV),(ba es e)/\RelV z its.toArray[i]/\Dv X.K H m z e:=fun i h=>by
      show(ag,z,hz,rz,xfv r h);have il:i<es.length:=Er h
      exact⟨z,es[i],Zb il,rz,k i z _ hz (Zb il)⟩
    refine⟨eU Ix,iZ,?_,?_,?_⟩
    . obtain⟨z,e',h3,rz,dz⟩:83:=at_ j iZ
      rw[xho rz,xff I dz];ext uC he h3 ee
    . intro i hi lt
      obtain⟨z,e',h3,rz,dz⟩:83:=at_ i hi;show(cD,xho rz,xff I dz,no i e' lt h3)
    . intro z hz
      obtain⟨i,hi,rfl⟩:=Array.mem_iff_getElem.mp hz;obtain⟨z,e',h3,rz,dz⟩:83:=at_ i hi;show(cD,xho rz,xff I dz,(xik I dz h1 (A:=X.A.in1) Xy rz ru).1)
theorem xi4 (hu:AG):MtM X "list.remove" (xtd X.K):=by
 intro pins s Z H x vs v us Q I rx rv h;obtain⟨l,xs,y,n,⟨m,d,es,j,rfl,rfl,hH,h1,h2,hn,hm,fa,q⟩⟩:121:=h;ext NU
 obtain⟨z,its,n',r,hl,e⟩:=K3;obtain⟨f,lt,yes,no,eq⟩:=xqq hu I hH r ru h1 h2 hn hm fa;refine Wr F.slot_list_remove (dP e) F.entry_list_remove (F.args_list_remove_2 _ _)
  (xxq l its.toArray n' u f j lt yes no (lq ZA)) (eX e eq)
 refine(ug,.non,I.lset (its':=its.eraseIdx j) hH e ?_ (r.eraseIdx j) ?_,q)
 .show(zgT,j,its.eraseIdx j)
 .show(cy,xc6 xs j)
#check _
#check L2
namespace XL
open PySem L2
open PyProof.Rows (assign_Tuple)
#check XL
namespace L2
open PySem PySem.Spec PyProof.Rows XL PySem.W
#check L2
namespace L2
open PySem PySem.Spec PyProof.Rows XL PySem.W PySem.Builtin PySem.Builtin.Str
#check L2
namespace L2
open PySem PySem.Spec PyProof.Rows XL
open AutoSeq1 (wpAny_loadPart')
#check L2
namespace L2
open PySem PySem.Spec PyProof.Rows XL
noncomputable def Itkd (d:Addr) (o:Obj) (kvs:bD):It :=
 (znb,H'=H/\∃ k x,nU/\v=kV k)
theorem xok {P:Program}{w:World}{K:Zd}{tg:Expr} (d it:Addr) (o:Obj) (kvs:bD) (ep:Nat) (hep:∃ es,kT) :
    Turn P w K tg (Itkd d o kvs) sw it (dH,h,h.IsKeyIter it d i kvs.length ep) where
  mem:=ap
  obj:=fun i h st b hb=>by
    ext zny
  keep:=fun i h h' ⟨o1,e1,r⟩ k=>zoO
  item:=by
    intro X hP hw hK hc i pins s Z H E I hf st hg;ext i9;ext tS lt hg;ext NY;obtain⟨f0,f1,f2,f3,f4,f5⟩:46:=ku;ext zlR;rw[hl] at st;refine wpAny_pyNext_dict_item st da hv (bN key h' hkey hit' hs);show(zms,xhi (s:=nR) g2 c2 d2 au ?_,I.turned (t':=s.toks) (KJ,(hs.2 b hb).trans g) f0 f1 f3 f4 f5);rw[<- hl] at hit';exact⟨85,kV k,H,I1,xp0 hkey,(bY,bQ k x hx rfl),hit',Fd⟩
  done:=by
    intro X hP hw hK hc i pins s Z H E I hf st hg;ext i9;ext tS le hg;ext NY;obtain⟨f0,f1,f2,f3,f4,f5⟩:46:=ku;ext GJ;show(bV,hl,st,wpAny_pyNext_dict_end jM st da (BD zaQ) (Br,I.turned (t':=s.toks) va f0 f1 f3 f4 f5))
  self:=fun A i s Q E st h=>We st h
noncomputable def xym (to:TE):TI:=(MU,H1 d=some (.dK kvs),∀ ob,R (Itkd d ob kvs) xP)
section
variable {X:Cx}{o:Expr}{to:TE}{tg:Expr}
theorem xs3 (ho:K9):PI X tg o (xym to):=by
 intro pins s Z H R I h;show(jX,ho pins s Z H _ I h,fun v s1 ⟨x,H1,I1,r1,q1⟩=>?_);obtain⟨d,kvs,e1,e,q⟩:83:=q1;ext Sx;obtain⟨z,hd,⟨vs,rel,dd⟩⟩:43:=xg9 I1.hok e;obtain⟨ob,es,ep,g,ex,hdat,hk,hp,hn⟩:106:=id dd;have da:s1.heap.DictAt pG d vs ep:=⟨86,ob,es,g,ex,hdat,hk,hp,hn⟩
 refine wpAny_pyIter_dict hd da ?_;have I3:cT xP s1:=zgx RT;have I4:cT xP (zkt,#[ju,wx,zby,B5]) :=
  zou
 show(M0,⟨66,xP,rfl,I4,xok d _ ob kvs ep ⟨es,hdat⟩,?_,iC,q ob⟩)
 .ext GJ;show Heap.IsKeyIter _ _ d 0 kvs.length ep;rw[hl];show(gG,_,gq,rfl,rfl)
 .show(MR,s1.heap.objs.size)
#check _
#check L2
namespace L2
open PySem PySem.Spec PyProof.Rows XL
open AutoSeq1 (wpAny_loadPart')
#check L2
namespace L2
open PySem PySem.Spec PyProof.Rows XL
#check L2
namespace L2
open PySem PySem.Spec PyProof.Rows XL PySem.W PySem.Builtin PySem.Builtin.Str
section
variable {J:It}{n:Nat}{g:TG}{Z:St}{fr:List Nat}{tc:TT}{te:TE}{l:Addr}{H1:Hp}{Q:VK}
theorem xij {K:Zd}{a:Addr}{xs:af} (hs:Ir) (hlen:Ii) (hl:vM) (F:Nat->zG) (F0:∀ H,Tq->F 0 [] H) (stab:∀ i ys zs H H',(bb,vy l zs,o8 l,F i ys H,F i ys H'))
    (step:∀(i:Nat) (x:V) (ys:af) H2,(bg,tI,kZ,Ij l ys,F i ys H2,(zit,F aX (ys++[y]) H')))
    (fin:(Dq,xs.length,F xs.length ys H2)):xeh zx n g Z fr xeg te l H1 Q:=by
  refine xc8 xs.length (zoH,i,F i ys H2) ?_ ?_ ?_ ?_
  . have s0:Same H1 (sv H1 l):=fun b u e=>by
      ext aD Ma e
    exact(bW,s0,xk,rfl,F0 _ s0)
  . rintro i ys H2 lt ⟨s,_⟩
    exact(bQ,xs,xs[i],PR,ij)
  . rintro i ys H2 v H3 lt (⟨s,el,ly,f⟩:44) ⟨rfl,yv⟩ N hN
    have hv:=yv xs (Same.seqL s hs);refine xh5 (i:=i) (step i v ys H3 hv s el f _ (bX y H' s' f'));have el':=s' _ _ el;show(d9,el',aa,hN _ _ (bW,wn,xk,b6 ly,stab _ _ _ _ _ el' Cq f'))
    . show(aD,Ma,s' _ _ rB)
    . ext MJ
  . rintro ys H2 (⟨s,el,ly,f⟩:44)
    show(aO,⟨xs,PR,bv⟩,fin ys H2 s el ly f)
#check _
#check L2
namespace L2
open PySem PySem.Spec PyProof.Rows XL PySem.W
#check L2
namespace L2
open PySem PySem.Spec PyProof.Rows XL PySem.W PySem.Builtin PySem.Builtin.Str
#check L2
namespace L2
open PySem
noncomputable def th (a b:Int):Int:=reduceHash (Builtin.Tuple.tupleHashOf [hashInt a,hashInt b])
#check L2
namespace XL
open PySem PySem.Spec PyProof.Rows
noncomputable def xtm (acc:am) (x:Str):am:=if acc.any (· == x)=true then acc else Lo
#check XL
namespace L2
open PySem PySem.Spec PyProof.Rows XL
noncomputable def xy1 (xs:am):Nat:=(xs.foldl xtm []).length
#check L2
namespace XS
open PySem PySem.SetTable
noncomputable def Up (xs:dy):Prop:=∀ a b,a<b->b<xs.size->xs.getD a 0<xs.getD b 0
theorem xm0 {xs:dy}{k d e:Nat} (h:k<xs.size):xs.getD k d=xs.getD k e:=by
 simp[Qo,h]
theorem xh3 {xs:dy}{j:Nat} (up:Up xs):∀(fuel lo hi:Nat),hi-lo<=fuel->lo<=hi->hi<=xs.size->(∀ k,k<lo->zfu<j)->(zmS hi) ->
    (zmX WQ)
  | 0,lo,hi,hf,hl,hs,h1,h2=>by
    ext zrC
  | fuel+1,lo,hi,hf,hl,hs,h1,h2=>by
    unfold below.go;by_cases c:lo<hi
    . rw[jS]
      have ml:yI<hi:=aa
      have mg:lo<=yI:=aa
      show (let mid:=yI; _)<=_/\_;simp only[];by_cases d:xs.getD yI j<j
      . rw[aN d]
        refine xh3 up fuel _ hi aa aa hs (aq k hk) h2;rw[xm0 (e:=0) aa] at d;rcases Yp k yI with z|z
        . exact ZQ (up k _ z aa) d
        . have:k=yI:=aa
          ext aD this d
      . rw[az d]
        rw[xm0 (e:=0) aa] at d;refine xh3 up fuel lo _ aa aa aa h1 (aI k hk ks);rcases Yp yI k with z|z
        . exact JS (Jz (QK d) (up _ k z ks))
        . have:k=yI:=aa
          rw[this];exact QK d
    . rw[az c]
      ext zrC
theorem xi0 {xs:dy} (up:Up xs) (j:Nat):zmX Kv :=
 xh3 up xs.size 0 xs.size aa aa bv (fun k hk=>aa) zbK
theorem xrb {xs:dy} (up:Up xs) {j i:Nat} (h:ba xs j):below xs j=i:=by
 show(mN,hi,YN.mp h);have g:xs.getD i 0=j:=by simp[Qo,hi,e]
 show(jb,b1,b2,b3,xi0 up j);rcases Nat.lt_trichotomy Kv i with z|z|z
 .show(ui,b3 Kv bv aa,up _ i z hi)
 .exact z
 .show(cy,b2 i z)
theorem xj3 {t:SetTable} (up:Kx) {j i:Nat}:XV↔(ba t.place j):=by
 unfold slot;simp only[];constructor
 .intro h
  split at h
  .rename_i c
   cases h;exact Wk c
  .ext LQ h
 .intro h
  rw[xrb up h,aN (by rw[h]; exact beq_self_eq_true _)]
theorem xi3 {t:SetTable} (up:Kx) (dm:Rs) {j:Nat} (h:∀ i:Nat,t.place[i]?≠some j):pL j:=by
 unfold slot;simp only[];rw[az (me,h _ (Wk c)),dm,if_neg];unfold has;simp
theorem xub {t:SetTable} (up:Kx) (dm:Rs) (j:Nat):(pL j)\/∃ i,XV:=by
 by_cases c:∃ i:Nat,ba t.place j
 .obtain ⟨i,hi⟩:=c;show(rE,i,(xj3 up).mpr hi)
 .show(dR,(xi3 up dm (dH,z,c ⟨i,z⟩)))
structure Ps where
 j:Nat
 more:Nat
 i:Nat
 pt:Nat
noncomputable def adv (mask:Nat) (p:Ps):Ps:=if p.more>0 then { p with j:=p.j+1,more:=p.more-1 } else ⟨N2,(zj N2)-N2,N2,(leap mask p.i p.pt).2⟩
noncomputable def st0 (mask:Nat) (h:Int):Ps:=⟨mR,(zj mR)-mR,mR,Ai⟩
noncomputable def way (mask:Nat) (h:Int):Nat->Ps
 | 0=>st0 mask h
 | iX=>zeH
noncomputable def toP (p:Ps):Probe:=⟨p.j,p.more,p.i,p.pt,none⟩
theorem xp2 (t:SetTable) (p:Ps):t.advance (toP p)=toP (adv t.mask p):=by
 unfold advance adv;by_cases c:p.more>0
 .rw [aN (show (Aq).more>0 from c),jS];rfl
 .rw [az (show ¬ (Aq).more>0 from c),uu];rfl
noncomputable def rnd (mask:Nat) (h:Int):Nat->Nat × Nat
 | 0=>(mR,Ai)
 | r+1=>leap mask f8 AU
noncomputable def nAt (mask:Nat) (h:Int):Nat->Nat
 | 0=>0
 | r+1=>i4+At+1
theorem xie (mask i:Nat):i<=(zj i)/\(zj i)-i<=9:=by
 unfold runEnd;ext lB
theorem xjh {mask:Nat}{h:Int}{r:Nat} (e:znB) :
    ∀ k,k<=At->(wC (i4+k))=⟨f8+k,MC-f8-k,f8,AU⟩
  | 0,_=>e
  | cU,hk=>by
    show adv mask (wC (i4+k))=_;rw[xjh e k aa];unfold adv;rw[aN (fh,MC-f8-k>0)];show Ps.mk _ _ _ _=_
    congr 1
theorem xi6 (mask:Nat) (h:Int):∀ r,znB
 | 0=>rfl
 | r+1=>by
  have e:=xi6 mask h r;show adv mask (wC (i4+At))=_;rw[xjh e _ bv];unfold adv;rw[az (fh,¬ MC-f8-At>0)];rfl
theorem xqo (mask:Nat) (h:Int):∀ r,i4<=10*r
 | 0=>bv
 | r+1=>by
  have:=xqo mask h r;have:=xie mask f8;show i4+_+1<=_;omega
theorem xpq (mask:Nat) (h:Int) (r k:Nat) (hk:k<=At):(wC (i4+k)).j=f8+k:=by
 rw[xjh (xi6 mask h r) k hk]
theorem xsm (mask:Nat) (h:Int):∀ r,AU=Ai / 32 ^ r
 | 0=>(Nat.div_one _).symm
 | r+1=>by
  show AU / 32=_;rw[xsm mask h r,Nat.div_div_eq_div_mul,Nat.pow_succ]
theorem pt_0 (mask:Nat) (h:Int) (r:Nat) (hr:13<=r):AU=0:=by
 rw[xsm];refine Nat.div_eq_of_lt ?_;have b:Ai<qr:=by
  unfold bits;show(ui,Wu h (sP,m7<qr),Int.emod_nonneg h (sP,(cV qr)≠0))
 refine ZG b (ZK (sP,qr<=32 ^ 13) (Nat.pow_le_pow_right au hr))
noncomputable def lcg (mask:Nat):Cb Nat
 | 0,i=>i
 | m+1,i=>(lcg mask m i*5+1) % m6
theorem xjc (mask:Nat) (h:Int):∀ m,zqq=lcg mask m (rnd mask h 13).1
 | 0=>rfl
 | m+1=>by
  show (leap mask zqq (rnd mask h (13+m)).2).1=_;unfold leap;rw[pt_0 mask h (13+m) aa,xjc mask h m];rfl
noncomputable def MkOk (mask:Nat):Prop:=mask=7\/mask=31
theorem cov7:(znX,8,s<8,7):=aK
theorem xyb:(znX,32,s<32,31):=aK
theorem xvu (mask:Nat) (h:Int):∀ r,f8<m6
 | 0=>zlY
 | r+1=>zlY
theorem xm9 {mask:Nat} (mk:K7) (h:Int) (s:Nat) (hs:s<=mask):∃ r,r+1<E2/\f8=s:=by
 have l:=xvu mask h 13;rcases mk with rfl|rfl
 .show(fj,m,hm,e,cov7 _ l s aa);ext zkk
 .show(fj,m,hm,e,xyb _ l s aa);ext zkk
theorem xux {mask:Nat} (mk:K7) (h:Int) (s:Nat) (hs:s<=mask):∃ n,n<10*E2/\(oN).j=s:=by
 show(ag,r,hr,e,xm9 mk h s hs);have:=xqo mask h r;show(aE,i4,aa,aA xi6 e)
theorem xrc {t:SetTable}{hashAt:LB}{h:Int}{f:Nat}{p:Ps} (z:pL p.j):ae (D2 (f+1) Aq) (.empty p.j none):=by
 unfold probe.go;rw[LL (pL,(Aq).j)];rfl
theorem xs7 {t:SetTable}{hashAt:LB}{h:Int}{f i:Nat}{p:Ps} (z:AX p.j) (e:zdK):ae (D2 (f+1) Aq) (.candidate p.j i (toP (adv t.mask p))):=by
 unfold probe.go;show(LV,LL (AX,(Aq).j));rw[aN (by rw[e]; exact beq_self_eq_true _),xp2];rfl
theorem xum {t:SetTable}{hashAt:LB}{h:Int}{f i:Nat}{p:Ps} (z:AX p.j) (e:hashAt i≠h):(D2 (f+1) Aq)=(D2 f (toP (adv t.mask p))):=by
 conv=>lhs; unfold probe.go
 show(LV,LL (AX,(Aq).j));rw[az (fun q=>e (Wk q)),xp2]
theorem xkw {t:SetTable} (up:Kx) (dm:Rs) (hashAt:LB) (h:Int):∀(f n:Nat),(∃ m,n<=m/\m<n+f/\(pL oq)) ->
    ∃ m,n<=m/\(∀ k,n<=k->k<m->∃ i,(AX,(vX k).j)/\hashAt i≠h) /\
      (((ae (D2 f (toP (vX n))) (.empty oq none))/\(pL oq)) \/
        ∃ i,(ae (D2 f (toP (vX n))) (.candidate oq i (toP (vX (m+1)))))/\(AX oq)/\zdK)
  | 0,n,⟨m,a,b,_⟩=>aa
  | f+1,n,⟨m,a,b,c⟩=>by
    rcases xub up dm (vX n).j with z|⟨i,z⟩
    . show(gG,n,bv,zbK,.inl ⟨xrc z,z⟩)
    . by_cases e:zdK
      . show(gG,n,bv,zbK,.inr (bL,i,xs7 z e,z,e))
      . have ne:n≠m:=fun q=>by rw[<- q,z] at c; cases c
        show(bF,m',a',b',c',xkw up dm hashAt h f iX (bL m aa aa c));refine(bL,m',aa,aI k h1 h2,?_)
        . rcases Yp n k with y|y
          . exact b' k aa h2
          . ext FA k n;ext aE i z e
        . show(aD,xum z e,c')
noncomputable abbrev Row:=Nat × zen
structure Tab (t:SetTable) (es:wp) (L:LE):Prop where
 pl:t.place.toList=L.map (·.1)
 el:es.toList=L.map (·.2)
 srt:(L.map (·.1)).Pairwise (·<·)
 dm:Rs
 mok:MkOk t.mask
 bd:∀ e∈L,e.1<=t.mask
 rc:∀ e∈L,∃ n,(yP CZ n)=e.1/\∀ m,m<n->(yP CZ m)∈L.map (·.1)
variable {t:SetTable}{es:Array (Int × Value)}{L:List Row}
theorem Tab.size (T:mH):t.place.size=L.length/\es.size=L.length:=by
 constructor
 .rw [<- Jm,T.pl,Za]
 .rw [<- Jm,T.el,Za]
theorem Tab.at_ (T:mH) (i:Nat):t.place[i]?=(L[i]?).map (·.1):=by
 rw[<- Jv,T.pl,Zc]
theorem Tab.es_ (T:mH) (i:Nat):es[i]?=(L[i]?).map (·.2):=by
 rw[<- Jv,T.el,Zc]
theorem xha {xs:dy}{k:Nat}{v:Nat} (h:eY xs k v):xs.getD k 0=v:=by
 show(mN,hk,YN.mp h);simp[Qo,hk,e]
theorem Tab.up (T:mH):Kx:=by
 intro a b ab hb;rw[UA] at hb;have ha:a<L.length:=aa
 rw[xha (d7,T.at_,Zb ha),xha (d7,T.at_,Zb hb)];show(Al,Jj.mp T.srt a b (fV ha) (fV hb) ab)
theorem Tab.live (T:mH) {j i:Nat}:XV↔∃ e,(ba L e)/\e.1=j:=by
 rw[xj3 T.up,T.at_,Ze]
theorem Tab.free (T:mH) {j:Nat}:(pL j)↔j∉L.map (·.1):=by
 constructor
 .intro h z
  ext rN e he ej z;ext NZ;show(AW,T.live.mpr ⟨e,Iq,ej⟩,h)
 .intro h
  refine xi3 T.up T.dm (dH,z,h ?_);rw[T.at_,Ze] at z;ext ag e he ej z;exact Zf.mpr ⟨e,Zk he,ej⟩
theorem Tab.some_free (T:mH) (lt:zbw) (h:Int):∃ n,n<ON/\(pL,(vX n).j):=by
 refine J6 (cH c);have all:∀ s,s<=t.mask->s∈L.map (·.1):=fun s hs=>by
  refine J6 lG;show(ag,n,hn,e,xux T.mok h s hs);exact c ⟨n,hn,by rw[e]; exact T.free.mpr z⟩
 have:=Qr (n:=t.mask+1) |>.length_le_of_subset (l₂:=L.map (·.1)) (h8,all s (gO,ZJ.mp hs))
 rw[ZW,Za] at this;omega
theorem Tab.absent (T:mH) {h:Int}{m:Nat} (em:pL oq) {P:Value->Prop} (seen:∀ k,k<m->∀ i e,(bb,(AX,(vX k).j),ba L e,CZ=h,¬ P (b8 e))):∀ e∈L,CZ=h->¬ P (b8 e):=by
 intro e he eh p;show(ag,n,hn,hm,T.rc e he);rw[eh] at hn hm;have lt:n<m:=by
  rcases Nat.lt_trichotomy n m with z|z|z
  .exact z
  .rw [z] at hn;show(bV,hn,em,absurd (Zf.mpr (cE e he)) (T.free.mp em))
  .exact absurd (hm m z) (T.free.mp em)
 ext NZ;show(kO,li,ba L e,Iq,seen n lt i e (T.live.mpr ⟨e,li,hn.symm⟩) li eh p)
theorem xk4 {α:Type} (xs:Array α) (p:Nat) (x:α) (hp:p<=xs.size):(insertAt xs p x).toList=xs.toList.take p++x::xs.toList.drop p:=by
 unfold insertAt;simp[Array.toList_extract,List.extract];exact Ju ap
theorem Tab.add (T:mH) {h:Int}{x:Value}{m:Nat} (em:pL oq) (be:∀ k,k<m->(vX k).j∈L.map (·.1)) (jm:oq<=t.mask) :
    ∃ L',L'.Perm ((oq,h,x)::L)/\Tab (t.put oq).1 (insertAt es (t.put oq).2 (h,x)) L'/\(t.put oq).1.mask=t.mask:=by
  generalize hj:oq=j at *;have nj:=T.free.mp em;show(jb,b1,b2,b3,xi0 T.up j);have e2:(t.put j).2=zbQ:=rfl;have em':(t.put j).1.mask=t.mask:=rfl;rw[e2];generalize hp:zbQ=p at *;have pl:p<=L.length:=by ext bV UA b1 b1
  have lo:∀ e∈UE,e.1<j:=fun e he=>by
    ext NZ;rw[Jn] at hi;show(Ia,b2 i aa,zky List.getElem_take)
  have hi:∀ e∈UD,j<e.1:=fun e he=>by
    ext NZ;rw[List.length_drop] at hi;show(pR,b3 (p+i) aa (lq UA),zky List.getElem_drop);refine Nat.lt_of_le_of_ne this (aj,nj ?_);rw[z];exact Zf.mpr (cE,e,List.mem_of_mem_drop he)
  have pm:(zaG).Perm ((j,h,x)::L):=by
    have:=(Qq (a:=(j,h,x)) (l₁:=UE) (l₂:=UD))
    rwa [Yj] at this
  refine bL zaG pm ⟨?_,?_,?_,?_,T.mok,?_,?_⟩ em'
  . show (insertAt t.place zbQ j).toList=_
    rw[hp,xk4 _ _ _ b1,T.pl,Zt,Zp,Yv,Yw]
  . rw[xk4 _ _ _ (aA zn pl),T.el,Zt,Zp,Yv,Yw]
  . rw[Zt,Zp,List.pairwise_append,Yg]
    have sub1:((UE).map (·.1)).Pairwise (·<·):=by rw[Yv]; exact T.srt.sublist (QA _ _)
    have sub2:((UD).map (·.1)).Pairwise (·<·):=by rw[Yw]; exact T.srt.sublist (List.drop_sublist _ _)
    show(d9,sub1,⟨iC,sub2⟩,bX a ha b hb)
    . ext dW e he hb
      exact hi e he
    . ext dW e he ha
      rcases eJ hb with rfl|hb
      . exact lo e he
      . ext dW e' he' hb
        exact ZQ (lo e he) (hi e' he')
  . show (if has t.dummies j then eraseAt t.dummies (below t.dummies j) else t.dummies)=#[]
    rw[T.dm,if_neg];unfold has;simp
  . intro e he
    rcases zbc he with rfl|he
    . exact jm
    . exact T.bd e he
  . intro e he
    have more:∀ s,s∈L.map (·.1)->s∈(zaG).map (·.1):=fun s hs=>by
      ext dW e' he' hs;exact Zf.mpr (cE,e',pm.mem_iff.mpr (Zi _ he'))
    rcases zbc he with rfl|he
    . show(aE,m,hj,fun k hk=>more _ (be k hk))
    . show(ag,n,a,b,T.rc e he)
      show(aE,n,a,fun k hk=>more _ (b k hk))
#check XS
namespace XS
open PySem PySem.SetTable
noncomputable abbrev Own:=Array (Option Nat)
noncomputable def xcb (o:Own) (j:Nat):Bool:=(zaJ).isSome
theorem xkf (mask:Nat) (h:Int) (o:Own):∀(fuel r:Nat),(∃ r',r<=r'/\r'<r+fuel/\xcb o (rnd mask h r').1=false) ->
    ∃ n,(aR,i4<=n,(ae,layClean.free mask o fuel f8 AU,(oN).j),xcb o (oN).j=false,∀ m,i4<=m->m<n->(TX,(wC m).j))
  | 0,r,⟨r',a,b,_⟩=>aa
  | fuel+1,r,⟨r',a,b,c⟩=>by
    unfold layClean.free;have rl:=xie mask f8;cases hf:(PL).find? fun k=>(IP (f8+k)).isNone with
    | some k =>
      simp only[];obtain⟨hk,as,bs,e,nb⟩:=List.find?_eq_some_iff_append.mp hf;have kin:k∈PL:=ZC hf;have kl:=ZJ.mp kin;show(av,hw,∀ m,m<=k->(wC (i4+m)).j=f8+m,fun m hm=>xpq mask h r m aa,(jz,i4+k,aa,(eG,hw k bv),?_,aI m h1 h2))
      . rw[hw k bv]
        unfold xcb;revert hk;cases IP (f8+k)<;>simp
      . show(Et,d,∃ d,m=i4+d,m-i4)
        rw[hw d aa];have din:d∈as:=by
          have al:as.length=k:=by
            have g:eY PL as.length k:=lA e
            rw[J8] at g
            . exact ZO.inj g
            . show(HE,congrArg Yb e)
          have g:eY PL d d:=J8 aa;rw[e,Jc aa] at g;exact Zk g
        show(zjB,nb d din)
    | none =>
      simp only[];have all:=JA.mp hf;have run:∀ d,d<=At->(TX (f8+d)):=fun d hd=>by
        show(zjB,all d (ZJ.mpr aa))
      have ne:r≠r':=fun q=>by
        have:=run 0 iQ;rw[Nat.add_zero,q,c] at this;cases this
      obtain⟨n,a1,a2,a3,a4⟩:64:=xkf mask h o fuel (r+1) (bL r' aa aa c);show(lY,nx,nAt mask h (r+1),i4+At+1,rfl,(jz,n,aa,a2,a3,aI m h1 h2));rcases Yp m (nAt mask h (r+1)) with z|z
      . show(Et,d,∃ d,m=i4+d,m-i4)
        show(aD,xpq mask h r d aa,run d aa)
      . exact a4 m z h2
structure Lay (mask:Nat) (hs:dD) (k:Nat) (o:Own):Prop where
 sz:o.size=m6
 own:∀ j i:Nat,o[j]?=(oh i)->∃ h,i<k/\(ba hs h)/\∃ n,(oN).j=j/\∀ m,m<n->(TX,(wC m).j)
 has:∀ i:Nat,i<k->∃ j:Nat,o[j]?=(oh i)
 inj:∀ j j' i:Nat,o[j]?=(oh i)->o[j']?=(oh i)->j=j'
theorem xc7 {o:Own}{j:Nat} (h:j<o.size) (d:dG Nat):cC o (o.getD j d):=by
 rw[J7 h];simp[Qo,h]
theorem Lay.room {mask k:Nat}{hs:dD}{o:Own} (Y:Lay mask hs k o) (lt:k<=mask):∃ s,s<=mask/\xcb o s=false:=by
 refine J6 (cH c);have all:∀ s:Nat,s<m6->∃ i:Nat,o[s]?=(oh i):=fun s hs=>by
  have z:xcb o s≠false:=(aj,c ⟨s,aa,z⟩);have g:=xc7 (o:=o) (j:=s) (aA Y.sz hs) (some 0);unfold xcb at z;cases e:IP s with
  | none=>rw[e] at z; ext iP z
  | some i=>show(aO,i,bR g e)
 have nd:((Zu m6).map fun s=>(o.getD s none).getD 0).Nodup:=by
  rw[JH,ZZ];refine Je.imp_of_mem (P7,ne,ne ?_) Qr;obtain⟨i,hi⟩:=all a (ZJ.mp ha);obtain⟨i',hi'⟩:=all b (ZJ.mp hb);rw[Ds ha] at hi;rw[Ds hb] at hi';show(ah,e1,ZO.inj hi,e2,ZO.inj hi');rw[e1,e2] at e;ext tW i i' e;refine Y.inj a b i ?_ ?_
  .rw [Ds ha,e1]
  .rw [Ds hb,e2]
 have:=nd.length_le_of_subset (l₂:=Zu k) fun i hi=>by
  ext dW s hs' hi;obtain⟨i,hi⟩:=all s (ZJ.mp hs');obtain⟨_,ik,_⟩:62:=Y.own s i hi;rw[Ds hs'] at hi;rw[ZO.inj hi];exact ZJ.mpr ik
 rw[Za,ZW,ZW] at this;omega
theorem Lay.more {mask k:Nat}{hs:dD}{o:Own} (mk:K7) (Y:Lay mask hs k o) (lt:k<=mask) {h:Int} (hk:eY hs k h) :
    ∃ j,(ae,layClean.free mask o E2 mR Ai,j)/\Lay mask hs cU xQ:=by
  show(ag,s,sm,st,Y.room lt);show(ag,r,hr,e,xm9 mk h s sm);obtain⟨n,_,f1,f2,f3⟩:64:=xkf mask h o E2 0 (bL,r,iQ,aa,aA e st);generalize hj:(oN).j=j at *;have jl:j<o.size:=by
    refine J6 (cH c);unfold xcb at f2;show(cF,show ae zaJ 0 by simp[Qo,c],f2,f2)
  have oj:cC o none:=by
    rw[xc7 jl (some 0)];unfold xcb at f2;revert f2;cases zaJ<;>simp
  have new:xQ[j]?=(oh k):=b6 jl
  show(bj,old,∀ j':Nat,j'≠j->xQ[j']?=o[j']?,j',ne,Array.getElem?_setIfInBounds_ne (aj,ne z.symm));have sz:(xQ).size=o.size:=ap
  have tk:∀ s,(TX s)->xcb xQ s=true:=fun s hs=>by
    ext ir s j
    . subst c
      unfold xcb;show(ie,g,xc7 (o:=o.setIfInBounds s (some k)) (j:=s) (aA sz jl) (some 0),new);rw[<- ZO.inj g];rfl
    . unfold xcb at *
      rw[Q3,old s c,<- Q3];exact hs
  refine⟨j,f1,⟨aA sz Y.sz,aI j' i hi,Tb,bN a b i ha hb⟩⟩
  . ext ir j' j
    . subst c
      ext bG new hi hi;show(gG,h,QJ _,hk,⟨n,hj,fun m hm=>tk _ (f3 m iQ hm)⟩)
    . rw[old j' c] at hi
      obtain⟨h',a,b,⟨n',d,q⟩⟩:63:=Y.own j' i hi;show(gG,h',aa,b,⟨n',d,fun m hm=>tk _ (q m hm)⟩)
  . rcases Yp i k with z|z
    . obtain⟨j',hj'⟩:=Y.has i z
      have ne:j'≠j:=fun q=>by rw[q,oj] at hj'; cases hj'
      show(aO,j',(aA,old j' ne,hj'))
    . have:i=k:=aa
      ext xA;ext aO j new
  . have key:∀ j' i:Nat,j'≠j->xQ[j']?=(oh i)->i<k:=fun j' i ne hi=>by
      rw[old j' ne] at hi;obtain⟨_,a,_⟩:62:=Y.own j' i hi;exact a
    by_cases ca:a=j<;>by_cases cb:b=j
    . rw[ca,cb]
    . rw[ca,new] at ha
      cases ha;show(zq,key b k cb hb)
    . rw[cb,new] at hb
      cases hb;show(zq,key a k ca ha)
    . rw[old a ca] at ha
      show(bV,old b cb,hb,Y.inj a b i ha hb)
theorem Lay.nil {mask:Nat}{hs:dD}:Lay mask hs 0 (Array.replicate m6 none):=by
 refine⟨ap,aI j i h,(dH,h,absurd h (YS _)),bX a b i h⟩
 .show(hJ,Array.getElem?_replicate);split at h<;>simp at h
 .show(hJ,Array.getElem?_replicate);split at h<;>simp at h
theorem xuu {mask:Nat} (mk:K7) (hs:Array Int) (le:hs.size<=mask):∃ o,(ae,layClean mask hs,o)/\(zdU hs.size o):=by
  unfold layClean;rw[<- Array.foldl_toList];have key:∀(n:Nat) (l:dD) (k:Nat) (o:Own),hs.toList.drop k=l->(zdU k o)->k+l.length=hs.size->∃ o',l.foldl (fun acc h=>do
      let (owner,k) <- acc
      let j <- layClean.free mask owner E2 mR Ai
      pure (owner.setIfInBounds j (some k),cU)) (some (o,k))=some (o',hs.size)/\(zdU hs.size o'):=by
    intro _ l
    induction l with
    | nil =>
      intro k o _ Y e;rw[List.length_nil,Nat.add_zero] at e;ext cW;ext se o Y
    | cons h l ih =>
      intro k o d Y e;rw[Z6] at e;have hk:eY hs.toList k h:=by
        have:=congrArg (·[0]?) d;ext ET
      show(ag,j,f,Y',Y.more mk aa hk);show(ag,o',q,Y2,ih cU xQ (by rw[<- List.drop_drop,d]; rfl) Y' aa);show(d9,o',?_,Y2);rw[List.foldl_cons];rw[<- q]
      congr 1
      show (do let j <- layClean.free mask o E2 mR Ai; pure (xQ,cU))=_;rw[f];rfl
  show(ag,o,q,Y,key 0 hs.toList 0 _ rfl Lay.nil ap);show(aE,o,eS q,Y)
theorem xmj {mask i:Nat} (h:i<=mask):(zj i)<=mask:=by
 unfold runEnd;ext lB
theorem xmx (mask:Nat) (h:Int):∀ n,(oN).j+(oN).more<=mask
 | 0=>by
  show mR+((zj mR)-mR)<=mask;have:mR<m6:=Nat.mod_lt (bits h) (Nat.succ_pos mask);show(ui,xie mask mR,xmj (mask:=mask) (i:=mR) aa)
 | iX=>by
  have ih:=xmx mask h n;show (zeH).j+(zeH).more<=mask;unfold adv;split
  .show (oN).j+1+((oN).more-1)<=mask;omega
  .show GW+((zj GW)-GW)<=mask;have l:GW<m6:=Nat.mod_lt _ (Nat.succ_pos mask);generalize GW=i at *;show(ui,xmj (mask:=mask) (i:=i) aa,xie mask i)
theorem xpc (mask:Nat) (h:Int) (n:Nat):(oN).j<=mask:=by
 show(cy,xmx mask h n)
theorem xlb {α β:Type}{f:zeU}{g:α->β}:∀{l:aP},(∀ x∈l,f x=some (g x))->l.filterMap f=l.map g
 | [],_=>rfl
 | x::l,h=>by
  rw[J9,h x dJ,xlb zeQ];rfl
theorem xxk {mask:Nat} (mok:K7) (es:wp) (le:es.size<=mask) (finger moves:Nat) (led plain:Bool) :
    ∃ t' order L',laid mask finger moves led plain (es.map (·.1))=some (t',order)/\(L'.map (·.2)).Perm es.toList/\Tab t' (order.filterMap (es[·]?)) L'/\t'.mask=mask/\(bM,t'.led,led,t'.moves=moves,t'.plain=plain):=by
  obtain⟨o,eo,Y⟩:62:=xuu mok (es.map (·.1)) (aA Array.size_map le);rw[Array.size_map] at Y;have live_mem:∀ j k,(j,k)∈((Zu m6).filterMap fun j=>(Rq).map (j,·))↔o[j]?=(oh k):=fun j k=>by
    ext B9 JQ
    . ext nZ a ha e
      rw[Ze] at e;ext zU k' e;cases e2;rw[Ds ha,e1]
    . intro e
      have jl:j<m6:=by
        show(jp,Y.sz,(YN.mp e).1)
      refine(eX,j,ZJ.mpr jl);rw[xc7 (aA Y.sz jl) none] at e;rw[Uw];rfl
  have srt:(((Zu m6).filterMap fun j=>(Rq).map (j,·)).map (·.1)).Pairwise (·<·):=by
    rw[List.map_filterMap,List.pairwise_filterMap];refine List.pairwise_lt_range.imp fun {a b} ab x hx y hy=>?_;simp only[Option.map_map,Ze] at hx hy;show(IQ,62,hx);show(IQ,62,hy);exact ab
  have snd2:(((Zu m6).filterMap fun j=>(Rq).map (j,·)).map (·.2)).Nodup:=by
    rw[JH,ZZ];have p1:=ZZ.mp srt;refine Je.imp_of_mem (P7 lt ?_) p1;obtain⟨j,k⟩:=a;obtain⟨j',k'⟩:=b;ext tW k k' e;have:=Y.inj j j' k ((live_mem j k).mp ha) ((live_mem j' k).mp hb);have lt:j<j':=lt;omega
  generalize hl:((Zu m6).filterMap fun j=>(Rq).map (j,·))=live at *;have kl:∀ jk∈live,jk.2<es.size:=fun jk h=>by
    obtain⟨_,a,_⟩:62:=Y.own jk.1 jk.2 ((Xg).mp h);exact a
  refine⟨106,{ mask,place:=(live.map (·.1)).toArray,dummies:=#[],finger,led,moves,plain },(live.map (·.2)).toArray,ziE,?_,?_,?_,rfl,rfl,oy⟩
  . unfold laid
    rw[eo];show (ae,some _,_);rw[hl]
  . have pr:(live.map (·.2)).Perm (Zu es.size):=by
      refine (List.perm_ext_iff_of_nodup snd2 Qr).mpr (cH k);rw[ZJ,Zf];constructor
      . show(nZ,jk,h,rfl)
        exact kl jk h
      . intro h
        obtain⟨j,hj⟩:=Y.has k h;show(aE,(j,k),(live_mem j k).mpr hj,rfl)
    have e1:(ziE).map (·.2)=(live.map (·.2)).map zrU:=by
      rw[Z8,Z8];rfl
    have e2:es.toList=(Zu es.size).map zrU:=by
      ext zmh;have h3:i<es.size:=qP
      simp[Qo,h3]
    rw[e1,e2];exact pr.map _
  . refine⟨?_,?_,?_,rfl,mok,aq e he,aq e he⟩
    . rw[Z8]
      rfl
    . rw[Z8,Array.toList_filterMap,List.toList_toArray,Q6]
      have:∀ jk∈live,((es[·]?)∘fun x:Nat × Nat=>dk) jk=some (es.getD jk.2 Tz):=fun jk h=>by
        show es[jk.2]?=_;rw[J7 (kl jk h)];simp[Qo,kl jk h]
      rw[xlb this];rfl
    . ext aD Z8 srt
    . ext dW jk h he
      show(pR,(YN.mp ((Xg).mp h)).1,Y.sz);show jk.1<=mask;omega
    . ext dW jk h he
      obtain⟨hh,a,b,⟨n,c,d⟩⟩:63:=Y.own jk.1 jk.2 ((Xg).mp h);have eh:zpQ=hh:=by
        rw[Jv,Array.getElem?_map,J7 a] at b;have:=ZO.inj b;simp[Qo,a];exact this
      show ∃ n,(way mask zpQ n).j=jk.1/\_;rw[eh];show(d9,n,c,aq m hm);show(ah,tk,d m hm,wl,xpc mask hh m);show OM∈_;unfold xcb at tk;have g:=xc7 (o:=o) (j:=OM) (lq Y.sz) (some 0);cases e:IP OM with
      | none=>ext cF e tk tk
      | some k =>
        rw[e] at g;rw[Z8];exact Zf.mpr (cE,(OM,k),(live_mem _ _).mpr g)
#check XS
namespace XS
open PySem PySem.Spec PySem.SetTable
section
variable {prog:Program}{w:World}{K:Type} [DecidableEq K] {knd:KeyKind prog w K}{A:Around}{E:Value->Shared->Prop}{s:Shared}
theorem xl9 (n:Nat) {v:Value} (h:NX):ofAClassStatement n v=pure false:=by
 cases v with
 | ref a=>simp[carriedByValue] at h
 | _=>first|rfl|simp[ofAClassStatement]|(unfold ofAClassStatement; rfl)
theorem xj8 {ks:rV}{a:Addr}{Q:B1} (hk:p5 ks a) (h:Q false s):wpAny bz A (ofAClassStatement 8 bq) Q E s:=by
 have hT:=hk.typeIs;obtain⟨o,items,n,ho,hc,hd,hi⟩:104:=hk;unfold ofAClassStatement;show(cJ,wpAny_typeOf_ref ho ?_);rw[hc];show wpAny _ _ ((cu,"tuple" == "tuple",pure true,isSubtype (.type "tuple") (.type "tuple"))>>=_) _ _ s;rw[aN au];ext EE;ext yj Wp;ext zpl;simp only[];show(znv,wpAny _ _ (forIn items _ _) _ _ s,wpAny_forIn_list _ (zls,∀ v∈rest,NX) _ ?_ ?_ _ _ (eV rfl hi.byValue))
 .rintro v rest r s' (⟨hr,rfl,hall⟩:43);rw[xl9 _ (hall v Zm)];ext EE;ext vh;exact Zo (eV rfl zmc)
 .ext zgW
theorem xvd {ks:rV}{a:Addr}{Q:B1}{stored:aY} (hk:p5 ks a) (hs:∀ y∈stored,WR) (h:Q false s):wpAny bz A (searchCouldBeSeen (.ref a) stored) Q E s:=by
 unfold searchCouldBeSeen;ext F2;refine wpAny_forIn_list _ (zls,∀ y∈rest,WR) _ ?_ ?_ _ _ (eV rfl hs)
 .rintro y rest r s' (⟨hr,rfl,hall⟩:43);show(jN,ks',b,rfl,hb,hall _ Zm);show(bj,nx,∀ u∈rest,∃ ks' b,(cQ u b)/\(sV s'.heap ks' b),u,hu,hall u (Zi _ hu));simp only[];by_cases c:(Gb||carriedByValue (.ref a)&&carriedByValue (.ref b))=true
  .rw [jS];exact Zo (eV rfl nx)
  .ext d4 c;ext zlW hk;ext zlW hb;show(cJ,xj8 hk ?_);ext vh;show(cJ,xj8 hb ?_);ext vh;exact Zo (eV rfl nx)
 .ext zgW
#check _
section
variable {prog:Program}{w:World}{K:Type} [DecidableEq K] {knd:KeyKind prog w K}{A:Around}{E:Value->Shared->Prop}{s:Shared}
noncomputable def xf5 (es:wp) (i:Nat):Int:=(es[i]?.map (·.1)).getD 0
theorem xkx {d a:Addr}{o:Obj}{es:wp}{ep:Nat}{t:SetTable}{L:LE}{k:rV}{Q:eQ SetFound} (T:mH) (ho:sC) (hd:Hd) (hf:zqm)
    (hu:zds) (hk:p5 k a) (keys:zhT)
    {n0:Nat} (he:pL (yP hV n0)) (hn0:n0<ON)
    (yes:(∃ e∈L,∃ b,zdz/\(p5 k b))->Q (.there none) s)
    (no:∀ m,(pL (yP hV m))->(∀ i,i<m->Tj∈L.map (·.1))->(∀ e∈L,zqy)->Q (.free (yP hV m) false) s) :
    ∀(fuel n:Nat) (stand:dG Probe),n0-n<fuel->n<=n0->stand.getD (t.probeStart hV)=toP (way t.mask hV n)->(CK (U6 Tj)) ->
      wpAny bz A (setSearchFrom d bq hV true fuel stand) Q E s
  | 0,n,stand,h,_,_,_=>aa
  | fuel+1,n,stand,hfu,hn,hst,past=>by
    unfold setSearchFrom;ext RD hf;simp only[];have odd:t.gaveWay=false:=by
      unfold gaveWay;rcases T.mok with e|e<;>rw[e]<;>decide
    rw[odd];ext vh;show(bF,m,nm,pas,cse,xkw T.up T.dm (xf5 es) hV ON n (bL n0 hn aa he));have mn:m<=n0:=by
      refine QK lG;show(iB,i,e,pas n0 hn z);ext cF he e e
    have seen:F3 m (U6 Tj):=fun i hi=>by
      rcases Yp i n with z|z
      . exact past i z
      . show(zU,j,pas i z hi)
        show(ag,e,e3,e4,T.live.mp e1);refine(aZ,j,e,e1,e3,fun q=>absurd ?_ e2);unfold xf5;show(cD,T.es_,e3,q)
    have inL:∀ i,i<m->Tj∈L.map (·.1):=fun i hi=>by
      obtain⟨j,e,e1,e3,_⟩:83:=seen i hi;show(ag,e',e4,e5,T.live.mp e1);exact Zf.mpr ⟨e',Zk e4,e5⟩
    rw[hst];have pr:∀ met,(ae,probe.go t (xf5 es) hV ON (toP (way t.mask hV n)),met)->(ae,t.probe (xf5 es) hV (toP (way t.mask hV n)),met):=fun _ e=>e;rcases cse with⟨pe,emp⟩|⟨i,pc,liv,hi⟩
    . split
      . ext zjs pe;refine Zo (no m emp inL (bN e hel b eb isk));obtain⟨k',b',h1,h2,h3⟩:83:=keys e hel;have:k'=k:=by
          ext bG eb h2 h2;exact h3.inj isk
        ext xA;exact T.absent emp (P:=fun v=>∃ b,(cQ v b)/\(p5 k' b)) (fun i hi j e1 l1 l2 l3 ⟨b1,l4,l5⟩=>by
          obtain⟨j2,e2,x1,x2,x3⟩:83:=seen i hi;ext bG l1 x1 x1;ext bG l2 x2 x2;exact x3 l3 b1 l4 l5) e hel h1 ⟨b,eb,isk⟩
      . ext zqI pe
    . show(ag,e,le,ej,T.live.mp liv)
      obtain⟨k',b,h1,h2,h3⟩:83:=keys e (Zk le);obtain⟨pp,hv,v⟩:=e;have h2:cQ v b:=h2;subst h2;have ei:ba es (iU hv b):=d7 T.es_ le
      have sm:(ae,t.sameMemory t.moves t.mask,true):=by
        unfold sameMemory;rw[if_pos (beq_self_eq_true _)]
      show(kJ,mne,m,n0,sJ he liv)
      have nxt:k'≠k->∀ i',i'<m+1->(U6 (yP hV i')):=fun c i' hi'=>by
        rcases Yp i' m with z|z
        . exact seen i' z
        . ext FA i' m;refine(aZ,i,_,liv,le,fun _ b2 eb isk=>c ?_);have eb:Zs b=Zs b2:=eb;cases eb;exact h3.inj isk
      have stk:∀ y∈(List.map (fun x:zen=>x.snd) (Array.filter (mf,x.fst == hV) es).toList),WR:=fun y hy=>by
        ext dW x hx hy;rw[Array.toList_filter,T.el] at hx;show(dW,e',he',qm hx);obtain⟨k2,b2,_,x2,x3⟩:83:=keys e' he';exact bQ k2 b2 x2 x3
      split
      . ext zjs pc;show(zpR,Zg (xvd hk stk ?_),?_)
        . ext vh
          ext zgp
          . ext zgh
          . show(zfT,xkx T ho hd hf hu hk keys he hn0 yes no fuel (m+1) zkU aa aa rfl (nxt c))
        . skip
          ext zgp
          . ext zgh
          . show(zfT,xkx T ho hd hf hu hk keys he hn0 yes no fuel (m+1) zkU aa aa rfl (nxt c))
      . ext zqI pc
#check _
theorem Tab.plainly {t:SetTable}{es:wp}{L:LE} (T:mH) (b:Bool):Tab { t with plain:=b } es L:=⟨T.pl,T.el,T.srt,T.dm,T.mok,T.bd,T.rc⟩
theorem Tab.fits {t:SetTable}{es:wp}{L:LE} (T:mH) (le:zbw):zqm:=by
 unfold SetTable.fits fill;rw[UA,zn,T.dm];simp;exact le
section
variable {prog:Program}{w:World}{K:Type} [DecidableEq K] {knd:KeyKind prog w K}{A:Around}{E:Value->Shared->Prop}{s:Shared}
theorem xnj (n:Nat) {v:Value} (h:NX):∃ b,hashByValue n v=pure b:=by
 cases v with
 | ref a=>simp[carriedByValue] at h
 | _=>cases n<;>exact(eE,by unfold hashByValue; rfl)
theorem xla {ks:rV}{a:Addr}{Q:B1} (hk:p5 ks a) (h:∀ b,Q b s):wpAny bz A (hashByValue 8 bq) Q E s:=by
 have hT:=hk.typeIs;obtain⟨o,items,n,ho,hc,hd,hi⟩:104:=hk;unfold hashByValue;show(Ap,wpAny_specialOf hT F.slot_tuple_hash.lookup ?_,wpAny _ _ (seqItems? (.ref a)>>=_) _ _ s);ext zpl;show(znv,wpAny _ _ (forIn items _ _) _ _ s,wpAny_forIn_list _ (fun rest r s'=>s'=s/\∀ v∈rest,NX) _ ?_ ?_ _ _ (bY hi.byValue))
 .rintro v rest r s' ⟨rfl,hall⟩;show(F8,eb,xnj 7 (hall v Zm));rw[eb];ext EE;cases b with
  | true =>
   ext yj Wp;exact Zo (bY zmc)
  | false =>
   simp only[Bool.not_false,if_true];exact Zo (Zo (h _))
 .rintro ⟨r1,r2⟩ s' ⟨rfl,_⟩;cases r1 with
  | none=>exact Zo (h _)
  | some b=>exact Zo (h _)
theorem xjp {h h':Heap}{ks:rV}{a d:Addr}{o:Obj}{es ep t} (x:sV h ks a) (ho:AO) (hd:Hd) (hs:Jt d h h'):sV h' ks a:=by
 obtain⟨o',items,n,ho',hc,hd',hi⟩:104:=x;have hne:a≠d:=by
  rintro rfl;show(ii,o'=o,ZO.inj (ho'.symm.trans ho));show(bV,hd,hd',nomatch hd')
 exact⟨104,o',items,n,(hs.2 a hne).trans ho',hc,hd',hi⟩
noncomputable def SetT (knd:KeyKind prog w K) (h:Heap) (d:Addr) (xs:yx):Prop:=∃ o es ep t L,AO/\o.ExactSet/\Hd/\mH/\(L.map (·.2)).Perm (xs.map fun x=>(iU,zeB bn,dk))/\(∀ x∈xs,(sV h bn dk))/\((t.mask=7/\L.length<=4)\/(t.mask=31/\L.length<=18))
theorem SetT.nil {h:Heap}{d:Addr}{o:Obj}{ep fg mv:Nat}{led:Bool} (ho:AO) (hex:o.ExactSet) (hd:o.data=.set #[] ep (.fresh fg mv led)):wE h [] :=
 (iK,o,#[],ep,_,⟨66,[],ho,hex,hd,⟨rfl,rfl,Je.nil,rfl,fO,jJ,jJ⟩,y9,⟨jJ,.inl (bY iQ)⟩⟩)
theorem stored {h:Heap}{d:Addr}{o:Obj}{es:wp}{ep:Nat}{t:SetTable} (ho:AO) (hd:Hd) (es':wp) (t':SetTable) :
    (ae,(h.update d (QP es' t')).get? d,{ o with data:=.set es' (ep+1) t' }):=by
  show(Ia,Yk (QP es' t') ho (eS zrA),zrA)
theorem xp9 {d:Addr}{o:Obj}{es:wp}{ep:Nat}{t:SetTable}{L:LE}{Q:y0} (T:mH) (le:zbw) (l5:L.length=5) (ho:sC) (hd:Hd)
    (h:∀ es' t' L',(L'.map (·.2)).Perm (L.map (·.2))->(bb,Tab t' es' L',t'.mask=31,L'.length=5,Q () { s with heap:=s.heap.update d (QP es' t') })) :
    wpAny bz A (setRelay d (SetTable.grown 5)) Q E s:=by
  unfold setRelay;show(RD,T.fits le);simp only[];have sa:SetTable.sizeAbove (SetTable.grown 5)=32:=au
  rw[sa];have nl:¬ (32>sizeLine):=au
  rw[az nl];obtain⟨t',order,L',e1,pm,T',mk,_⟩:105:=xxk (mask:=31) wu es (by rw[zn,l5]; decide) t.finger (t.movedTo 31) t.led t.plain;have rl:t.relaid (es.map (·.1)) (SetTable.grown 5)=some (t',order):=by
    unfold relaid;ext aD sa e1
  rw[rl];have l':L'.length=5:=by
    ext zfJ;rw[Za,T.el,Za,l5] at this;exact this
  have sz:(order.filterMap (es[·]?)).size=es.size:=by rw[T'.size.2,zn,l',l5]
  ext F2;show wpAny _ _ (if (order.filterMap (es[·]?)).size != es.size then _ else _) _ _ _;rw[az (lA sz)];ext wD;have pm2:(L'.map (·.2)).Perm (L.map (·.2)):=by
    show(jp,T.el,pm)
  exact wpAny_storeSet_of ho hd (h _ _ L' pm2 T' mk l') (by rw[sz,zn,l5]; decide)
theorem add {d a:Addr}{k:rV}{xs:yx}{Q:B1} (hu:zds) (S:wE s.heap xs) (hk:p5 k a) (small:xs.length<18)
    (yes:k∈xs.map (·.1)->Q false s) (no:k∉xs.map (·.1)->∀ h',zcs->(wE h' zeV)->Q true nR) :
    wpAny bz A (setAddHashed d bq hV) Q E s:=by
  obtain⟨o,es,ep,t,⟨L,ho,hex,hd,T,pm,ks,cap⟩⟩:121:=S;have ll:L.length=xs.length:=by
    ext zfJ
    rwa [Za,Za] at this
  have le:L.length<=t.mask:=aa
  have lt:L.length<t.mask:=aa
  have hf:=T.fits le;unfold setAddHashed setAddHashedIn;refine J4 (Zg (YF ho hd hf ?_));simp only[];show(nD,nb,byScan (.ref a) es,rfl);rw[nb];ext vh;show(ag,n0,hn0,he,T.some_free le (tupleKeyHash knd k));have keys:zhT:=fun e hel=>by
    have m:=pm.mem_iff.mp (Zf.mpr (cE e hel));ext rN x hx ex m;refine(aZ,bn,dk,?_,?_,ks x hx)
    . rw[<- ex]
    . rw[<- ex]
  have n100:n0<100000:=by
    refine ZG hn0 ?_;unfold turns;rcases T.mok with e|e<;>rw[e]<;>decide
  show(cJ,(xkx T ho hd hf hu hk keys he hn0 (cH hy) (bX m em inL nk) 100000 0 none aa iQ rfl (dH,hi,absurd hi (YS _))))
  . simp only[]
    refine Zo (yes ?_);obtain⟨e,hel,⟨b,eb,isk⟩⟩:62:=hy;have mm:=pm.mem_iff.mp (Zf.mpr (cE e hel));ext rN x hx ex mm;have:dk=b:=by
      rw[<- ex] at eb;have eb:Zs dk=Zs b:=eb;injection eb
    show(ie,kx,ks x hx,this);rw[isk.inj kx];exact Zf.mpr Te
  . simp only[]
    have nin:k∉xs.map (·.1):=fun z=>by
      ext dW x hx z;have mm:=pm.mem_iff.mpr (Zf.mpr Te);ext rN e hel ee mm;exact nk e hel dk (eG ee) (ks x hx)
    ext RD hf;simp only[];show(bF,L',pm',T',mk',T.add (x:=bq) em inL (xpc _ _ _));generalize hput:t.put (yP hV m)=tp at *;obtain⟨t1,p1⟩:=tp;simp only[] at *;have l1:L'.length=L.length+1:=by
      have:=pm'.length_eq
      rwa [Z6] at this
    have pm2:(L'.map (·.2)).Perm ((zeV).map fun x=>(zeB bn,Zs dk)):=by
      rw[Zt];have q1:(L'.map (·.2)).Perm ((hV,Zs a)::L.map (·.2)):=pm'.map fun x:Row=>dk;exact q1.trans ((pm.cons _).trans (List.perm_append_singleton _ _).symm)
    have kk:∀ h',zcs->∀ x∈zeV,(sV h' bn dk):=fun h' sb x hx=>by
      rcases LA with hx|hx
      . exact xjp (ks x hx) ho hd sb
      . show(aD,Zn.mp hx,xjp hk ho hd sb)
    generalize hes1:insertAt es p1 (hV,Zs a)=es1 at *;have fin:∀ t2:SetTable,Tab t2 es1 L'->t2.mask=t.mask->wpAny bz A (do storeSet d es1 t2; if (! false&&t2.tooFull)=true then do setRelay d (grown (es.size+1)); pure true else pure true) Q E s:=fun t2 T2 m2=>by
      show(cJ,(wpAny_storeSet_of ho hd ?_ (aA,T2.size.2,ZK (aa:_<=1000) au)));show(ah,ho2,stored ho hd es1 t2,sb,Jt.update s.heap d (QP es1 t2));have fl:t2.fill=L'.length:=by
        unfold fill;rw[T2.size.1,T2.dm];rfl
      by_cases c:t2.tooFull=true
      . rw[c]
        simp only[Bool.not_false,Bool.and_self,if_true];have c2:=c;unfold tooFull at c2;rw[fl,m2] at c2;ext zfi c2;have l5:L'.length=5:=aa
        have e5:es.size+1=5:=lq zn
        rw[e5];show(cJ,xp9 T2 aa l5 ho2 rfl fun es' t' L2 p2 T3 m3 l3=>?_);have sb2:=sb.trans (Jt.update (s.heap.update d (QP es1 t2)) d (QP es' t'));exact Zo (no nin _ sb2 (fb 121 es' _ t' ⟨66,L2,stored ho2 rfl es' t',hex,rfl,T3,p2.trans pm2,⟨kk _ sb2,.inr (Ao m3)⟩⟩))
      . rw[Ja.mpr c]
        ext yj Q5;refine Zo (no nin _ sb (fb 121 es1 _ t2 ⟨66,L',ho2,hex,rfl,T2,pm2,(eW,kk _ sb)⟩));have c2:¬ (t2.fill*5>=t2.mask*3):=(aj,c (decide_eq_true z));rw[fl,m2] at c2;rw[m2];omega
    show(zpR,Zg (xla hk (cH b)),Zg (Zo ?_))
    . cases b with
      | true=>exact fin t1 T' mk'
      | false=>exact fin _ (T'.plainly false) mk'
    . exact fin t1 T' mk'
#check _
#check XS
namespace XS
open PySem PySem.Spec PyProof.Rows
section
variable {K:Type} [DecidableEq K]
noncomputable def oneT (acc:yx) (x:rV × Addr):yx:=if bn∈acc.map (·.1) then acc else Lo
noncomputable def xbn (ky:FK) (ad:B0) (i:Nat):yx:=((Zu i).map fun j=>(ky j,ad j)).foldl oneT []
theorem xd2 (ky:FK) (ad:B0) (i:Nat):xbn ky ad aX=oneT vL (ky i,ad i):=by
 unfold xbn;rw[Yo,Zt,Qe];rfl
theorem xft (ky:FK) (ad:B0):∀ i,∀ x∈vL,∃ j,j<i/\x=(ky j,ad j)
 | 0,x,h=>nomatch h
 | aX,x,h=>by
  rw[xd2] at h;unfold oneT at h;split at h
  .ext zku
  .rcases Zv.mp h with h|h
   .ext zku
   .exact ⟨i,aa,Zn.mp h⟩
theorem xiw (ky:FK) (ad:B0):∀ i,(vL).length<=i
 | 0=>bv
 | aX=>by
  have ih:=xiw ky ad i;rw[xd2];unfold oneT;split
  .omega
  .rw [Zr,ZX];omega
#check _
section
variable {pr:Program}{wd:World}{K:Type} [DecidableEq K] {knd:KeyKind pr wd K}
theorem SetT.move {h h':Heap}{d:Addr}{xs:yx} (S:wE h xs) (g:∀ o,AO->(ae,h'.get? d,o)) (ks:∀ x∈xs,(sV h' bn dk)):wE h' xs:=by
 obtain⟨o,es,ep,t,⟨L,ho,hex,hd,T,pm,_,cap⟩⟩:121:=S;exact iK o es ep t ⟨66,L,g o ho,hex,hd,T,pm,⟨ks,cap⟩⟩
theorem xh4 {h h':Heap}{k:rV}{a:Addr} (x:sV h k a) (g:∀ o,(kY o)->(IA o)):sV h' k a:=by
 obtain⟨o,items,n,ho,r⟩:102:=x;exact⟨102,o,items,n,g o ho,r⟩
variable {ar:Around}{R:Result->Shared->Prop}{it:Addr}{fp wr:List Addr}{G:Array GenState->Array GenState->Prop}{n:Nat}{P:Nat->Value->Prop}{St:Nat->Shared->Prop}
theorem xmg (wk:WalksS pr wd ar.in1 it fp wr G n P St) (d:Addr) (nd:d∉fp) (ky:FK) (ad:B0) (hv:∀ i v,P i v->v=zeM) (far:(CK,ad i∉d::wr)) (hu:ar.in1.units<cLine) (small:n<=18) :
    ∀(k i:Nat) (s:Shared),n-i=k->i<=n->St i s->(wE s.heap vL)->zln ->
      (∀ s2,Moved (d::wr) G s s2->(wE s2.heap (xbn ky ad n))->(zbF s2)) ->
      codeAny (model pr wd) ar (.builtin "set.update.loop" (jT,j4 ju it)) R s:=by
  have nw:d∉wr:=(aj,nd (wk.sub _ z));show(bj,more,∀ b∈wr,b∈d::wr,b,z,Zi _ z);have kmv:∀{s s2:Shared},Moved (d::wr) G s s2->zln->(V9 s2.heap):=fun mv ks j hj=>xh4 (ks j hj) (Am,mv.heap _ _ (far j hj) e);have smv:∀{s s2:Shared}{i:Nat},(bg,i<=n,Moved wr G s s2,V9 s2.heap,wE s.heap vL,wE s2.heap vL):=fun hi mv ks S=>S.move (Am,mv.heap d _ nw e) fun x hx=>by
    show(gU,j,a,xft ky ad _ x hx);exact ks j aa
  intro k
  induction k with
  | zero =>
    intro i s ek le st so ks fin;show(ii,i=n,aa)
    show(zgz,wk.done s _ _ st (aq s2 mv));exact Zo (fin s2 zdR (smv bv mv zpL so))
  | succ k ih =>
    intro i s ek le st so ks fin;have lt:f7:=aa
    show(zgz,wk.item i s _ _ lt st (bN v s2 pv st2 mv));show(qG,hv i v pv);show(ah,ks2,zpL,so2,smv le mv ks2 so);show wpAny _ ar.in1 (holding [Zs (ad i)] (setAdd d zeM)>>=_) _ _ s2;refine Zg (J4 ?_);unfold setAdd;refine J4 (Zg (wpAny_pyHash_tuple hu (ks2 i lt) ?_));show(cK,rm,(vL).length<18,(gO,xiw ky ad i),add (s:={ s2 with toks:=s2.toks+((ky i).length+1) }) hu so2 (ks2 i lt) rm (cH hin) (bX nin h2 sb so3))
    . have e1:xbn ky ad aX=vL:=by
        rw[xd2];exact if_pos hin
      refine Zo ⟨zmp,ih aX _ aa lt (wk.frame _ s2 _ _ st2 (Qp _ _) (fG b z o e)) (aA e1 so2) ks2 (aI s3 mv3 so5)⟩;exact fin s3 (Moved.trans wk.gtrans ((zdR).then_heap (Qp _ _) (nh z e)) mv3) so5
    . have e1:xbn ky ad aX=vL++[(ky i,ad i)]:=by
        rw[xd2];exact if_neg nin
      have ks3:V9 h2:=fun j hj=>xh4 (ks2 j hj) fun o e=>by
        show(aD,sb.2 _ (fun e2:ad j=d=>far j hj (e2▸Zm)),e)
      refine Zo ⟨zmp,ih aX _ aa lt (wk.frame _ s2 _ _ st2 (Qp _ _) (fG b z o ?_)) (aA e1 so3) ks3 (aI s3 mv3 so5)⟩
      . show(aD,sb.2 b (fun e2:b=d=>nd (e2▸z)),e)
      . refine fin s3 (Moved.trans wk.gtrans ((zdR).then_heap (Qp _ _) (nh z ?_)) mv3) so5
        show(aD,sb.2 b (fun e2:b=d=>z (e2▸Zm)),e)
#check _
#check XS
namespace XS
open PySem PySem.Spec PyProof.Rows XL
section
variable {pr:Program}{wd:World}{K:Type} [DecidableEq K] {knd:KeyKind pr wd K}{ar:Around}{E:Value->Shared->Prop}{s:Shared}
theorem xin {l:Addr}{its:gL} (ky:FK) (ad:B0) {Q:bA} (hd:ar.handled=none) (hu:ar.in1.in1.in1.units<cLine) (hl:s.heap.IsList l its) (hi:∀(i:Nat) (v:Value),(ba its v)->v=zeM) (hk:F3 its.size (p5 (ky i) (ad i))) (small:its.size<=18)
    (h:∀(h2:Heap) (tk:Nat),zhU->(zr (pI b) jH zax)->(kK s.heap.objs.size (sA h2))) :
    wpAny (model pr wd) ar (call (.type "set") [.ref l]) Q E s:=by
  show(Gy,c0,tl0,mro0,YQ.mro)
  show(ah,made0,YQ.made,sub0,YQ.sub);refine Wq (codeAny_of_tree ?_);show wpAny _ _ (callAny (.type "set") _) _ _ _;refine Zo ⟨Code.quiet_builtin _ aK,YB F.entry_type_call ?_⟩;rw[Around.under_plain (weight_type_call_type "set" [.ref l] []) rfl];have k1:=YQ.notType;show(ah,k2,YQ.canCreate,k3,F.typeCall_set_1 (.ref l))
  repeat (any_goals (first|ext dZ|wp_step))
  refine Q0 (code_set_new_1 mX (E:=E) (Q₁:=fun ob s1=>∃ led:Bool,(cQ ob s.heap.objs.size)/\s1=zsu) fun led=>cE led rfl) (aI r s1 hr);cases r with
  | error e=>exact hr
  | ok fl =>
    cases fl with
    | ret ob =>
      show(gU,led,rfl,hr);have g0:(ae,(Bd).get? s.heap.objs.size,UR):=gq;have ty0:Shared.TypeIs zsu uX "set":=dP g0
      show(ah,li0,YQ.init.lookup,bi0,YQ.init.bind (.ref s.heap.objs.size))
      repeat (any_goals (first|ext dZ|wp_step))
      refine Q0 (codeAny_call_builtin (R:=wants (fun r s2=>r=.none/\∃ h2 tk,bM s2 (sA h2) zhU (zr (pI b) jH zax)) E) YQ.init.plain F.entry_set_init (check_set_init_1 ty0 ?_)) (aI r2 s2 hr2)
      . obtain⟨ol,gl,cl,⟨nl,dl⟩⟩:63:=hl
        obtain⟨ocls,odict,odata,oslots⟩:=ol;simp only at cl dl;subst cl dl;have gl1:(ae,(Bd).get? l,(Xe,odict,.seq its nl,oslots)):=Zj _ gl;show(ah,a1,F.sub_list_set,a2,F.sub_list_frozenset);show(uL,a3,Value.type "list",Value.type "dict",au)
        have l1:(Bd).IsList l its:=(zP,gl1,lL nl)
        unfold Builtin.«set.__init__» noKeywords Builtin.Frozenset.updateFrom;generalize ePI:pyIter=PI
        wp_walk
        subst ePI;refine Q8 l1 (Zg (wpAny_runValue ?_));have ll:pI l:=Z0 gl;have h3:ar.in1.in1.in1.handled=none:=b6 hd
        have n1:l≠(Bd).objs.size:=by
          rw[YK];exact ZS (ZG ll (Wa _))
        have n2:s.heap.objs.size∉[(Bd).objs.size,l]:=by
          rw[YK];simp only[Zq,Yc,or_false,not_or];show(aO,ZS (QJ _),Q1 ll)
        have kl:F3 its.size (pI,ad i):=fun i hi'=>by
          obtain⟨o',_,_,ho',_⟩:102:=hk i hi';exact Z0 ho'
        refine xmg (knd:=knd) ((Walks.list h3 _ l n1 its).toS) s.heap.objs.size n2 ky ad hi (aq i hi') hu small (its.size-0) 0 _ aa iQ ⟨BF,(l1.push _)⟩ ?hS (fun j hj=>xh4 (hk j hj) (Am zdw)) ?hE
        . have:=kl i hi'
          rw[YK];simp only[Zq,Yc,or_false,not_or];show(aO,ZS this,ZS (ZG this (Wa _)))
        case hS =>
          have g1:(ae,((Bd).push (iY,"list_iterator",.fields #[mX,wx])).get? s.heap.objs.size,UR):=Zj _ g0;exact SetT.nil g1 RO rfl
        case hE =>
          intro s3 mv so;obtain⟨hp3,gn3,dr3,tk3,os3⟩:=s3;show(ii,gn3=s.gens,mv.gens);show(ii,dr3=s.drawn,mv.drawn);show(ii,os3=s.os,mv.os);refine Zo (Zo (bY,uP hp3 tk3 so (nh,lb,mv.heap b o ?_ zdw)));rw[YK];simp only[Zq,Yc,or_false,not_or];show(aO,ZS lb,ZS (ZG lb (Wa _)))
      . cases r2 with
        | error e=>exact hr2
        | ok fl2 =>
          cases fl2 with
          | ret r =>
            obtain⟨rfl,h2,tk,rfl,so,kp⟩:=hr2
            repeat (any_goals (first|ext dZ|wp_step))
            exact h _ _ so kp
          | _=>exact hr2.elim
    | _=>exact hr.elim
#check _
#check XS
namespace L2
open PySem PySem.Spec PyProof.Rows XL XS
section
variable {K:Type} [DecidableEq K]
noncomputable def oneK (acc:Bm) (x:rV):Bm:=if x∈acc then acc else Lo
noncomputable def xdw (xs:Bm):Nat:=(xs.foldl oneK []).length
theorem xle:∀(xs:yx) (acc:yx),(xs.foldl oneT acc).map (·.1)=(xs.map (·.1)).foldl oneK (acc.map (·.1))
 | [],acc=>rfl
 | x::r,acc=>by
  rw[List.foldl_cons,xle r,Zp,List.foldl_cons]
  congr 1
  unfold oneT oneK;split
  .rfl
  .rw [Zt];rfl
theorem xof (xs:Bm) (ad:B0):(zki).length=xdw xs:=by
 unfold xdw;rw[<- Za (f:=(·.1)),show (zki).map (·.1)=xs.foldl oneK [] from ?_];unfold xbn;rw[xle,Z8]
 congr 1
 ext zmh;simp[Zb h2]
theorem xmi:∀(xs acc:Bm),(xs.foldl oneK acc).length=acc.length+xs.length↔(∀ x∈xs,x∉acc)/\xs.Nodup
 | [],acc=>ap
 | x::r,acc=>by
  have le:∀(xs acc:Bm),(C0,xs.foldl oneK acc,acc.length+xs.length):=by
   intro xs
   induction xs with
   | nil=>intro acc; exact Zl _
   | cons x r ih =>
    intro acc;refine ZK (ih _) ?_;rw[Z6];unfold oneK;split
    .omega
    .rw [Zr,ZX];omega
  show ((r.foldl oneK (oneK acc x)).length=_)↔_;rw[Z6,Z5];by_cases hx:x∈acc
  .rw [show oneK acc x=acc from aN hx];constructor
   .intro z
    show(cy,le r acc)
   .intro z
    exact absurd hx (z.1 x dJ)
  .rw [show oneK acc x=Lo from az hx];have ih:=xmi r Lo;rw[Zr,ZX] at ih;rw[(fh,acc.length+(r.length+1)=acc.length+1+r.length),ih];constructor
   .rintro ⟨h1,h2⟩;show(d9,KR,(aj,h1 x z FV),h2);rcases FI with rfl|hy
    .exact hx
    .exact (aj,h1 y hy (ZH _ z))
   .rintro (⟨h1,h2,h3⟩:43);show(dI,aI y hy z,h3);rcases Zv.mp z with z|z
    .exact h1 y wG z
    .rw [FN] at hy;exact h2 hy
theorem xn4 {xs:Bm}:xdw xs=xs.length↔xs.Nodup:=by
 have:=xmi xs [];unfold xdw;ext ET
#check _
noncomputable def xr5 (K:Zd) (ta:TA):TE:=(kC,ta Z H fun vs H1=>∃(a:Addr) (qs:aw) (kss:List (List Key)),vs=j0/\(ay,SqL K H1 a vH,qs.length=kss.length,(zqG kss (ae,H1 q,.tup (ks.map kV))),qs.length<=18,Q (.int (cV,xdw kss)) H1))
section
variable {X:Cx}
theorem xnx {a:Expr}{ta:TA}{p p2 pos pos2:Pos} (hu:AG) (hc:mE) (hg:Gl X "len") (hm:zi "len") (hg2:Gl X "set") (hm2:zi "set") (ha:zeO)
    (hs:zat:=by rfl) (hs3:Bp [M9] [(jA,lD M9)]:=by rfl) :
    PE X (.Call (.Name "len" p) [M9] [] pos) (xr5 X.K ta):=by
  intro pins s Z H Q I h;refine Y6 (xd8 I hg hm PyProof.Rows.Boot.«len» ?_);refine PyProof.Rows.callWith_builtin1 ?_ (eS hs3) rfl;rw[hs3];show wpAny _ _ (spliced ((jA,lD M9)::backTo pos [])) _ _ s;refine Yh ?_;refine Call_ (xd8 I hg2 hm2 PyProof.Rows.Boot.«set» (JF (thn (ha pos2 pins s Z H _ I h) fun us s1 ⟨vs,H1,I1,r1,q1⟩=>?_) hs rfl));obtain⟨l,qs,kss,e,hq,hlen2,hks,hx,q⟩:106:=q1;ext zke;show(BU,rv,I1.list hq);show(ie,hlen,rv.length,Za);have sz:its.toArray.size=qs.length:=bR ZA hlen
  refine xin (knd:=pG) (oX,kss.getD i []) (oX,qs.getD i 0) jM ?hu pl.isList (gZ i v) Tb (aA sz hx) (bX h2 tk so kp)
  case hu =>
    show zft+1+1<cLine;omega
  . have e':ba its v:=vp
    have lt:i<qs.length:=by
      show(cy,gR e')
    show(ag,v',hv',rv',rv.get (i:=i) (x:=V.ref Dc) (d7 Zc ij));ext bG e' hv' hv';ext rW v Dc rv';simp[ij]
  . rw[sz] at hi
    have hi2:i<kss.length:=aa
    have:=xdl (P:=X.prog) (w:=X.w) I1.hok (hks i Dc kss[i] (Zb hi) (Zb hi2));have e1:kss.getD i []=kss[i]:=(b6,Zb hi2)
    have e2:qs.getD i 0=Dc:=(b6,Zb hi)
    show IsTupleKey pG s1.heap (kss.getD i []) (qs.getD i 0);ext cD e1 e2 this
  refine YH ?_;rw[sz,hlen2] at so;have I2:cT H1 { s1 with heap:=h2,toks:=tk }:=zey (wZ,kp b o (Z0 e) e);obtain⟨o,es,ep,t,⟨L,ho,hex,hd,T,pm,_,cap⟩⟩:121:=so;have ll:es.size=xdw kss:=by
    ext zfJ;rw[Za,Za,xof] at this;rw[zn,this]
  refine call_len_set ho hex hd (T.fits aa) ?_ (aZ,.int (cV,xdw kss),H1,I2.tok _,⟨tk+1,eG ll⟩,q);rw[zn];omega
#check _
#check L2
namespace L2
open PySem PySem.Spec PyProof.Rows
#check L2
namespace L2
open PySem PySem.Spec PyProof.Rows XL PySem.W
theorem xkk {prog:Program}{w:World}{A:Around}{E:bA}{s:Shared}{it d:Addr}{i ep:Nat}{o:Obj}{es:pD}{en:DictEntry}{ok ov:Value}{Q:FO}
    (st:IsItemIter s.heap it d i es.size ep ok ov) (hd:sC) (hdat:kT) (hi:SO)
    (h:∀ h',(bg,IsItemIterOut h' it d aX es.size ep en.key en.val s.heap.objs.size,(ae,h'.get? s.heap.objs.size,Rj HN),h'.objs.size=jK,Oj ya,Q (aB s.heap.objs.size) nR)):wpAny bz A vo Q E s:=by
  ext zfL;have il:it<hp.objs.size:=Z0 st;refine Zg <| Zo <| Zg <| Zg <| Zg <| Y4 hT <| Zo <| Zg <| wpAny_fieldsOf st rfl ?_
  simp only[show Builtin.Dict_items.ownsTuple "dict_itemiterator"=true from au,if_true];show wpAny _ _ (cu (Zs d == JG) _ _) _ _ _;rw[az (iN ZE)];refine Zg <| Zo <| Zg <| Jx hd hdat ?_
  rw[az ap];refine Zg <| Zo <| Zg <| JY hd hdat ?_
  rw[az ap];ext wD;have e1:ae (zaz cL) en:=by
    ext cD uc Qf hi
  simp only[e1];refine Zg <| Zg <| Y4 hT <| Zo <| Zg <| Y8 hT ?_
  show wpAny _ _ (setField FW 3 (rawInt (cL+1))>>=_) _ _ _;refine Zg <| YX st ap (aI h1 he1 hs1)
  have hs1:Jt it hp h1:=hs1;show(cK,T1,Shared.TypeIs ⟨h1,g,dr,tk,os⟩ FW "dict_itemiterator",dP he1,Zg <| J4 <| Zg <| Y8 T1 <| Zg <| Y8 T1 ?_)
  show wpAny _ _ (Builtin.Dict_items.pairFromOwner FW 6 en.key en.val) _ _ _;unfold Builtin.Dict_items.pairFromOwner;refine Zg <| wpAny_newTuple ?_
  have he2:=Zj (Rj HN) he1;have ht2:(ae,(GV).get? hp.objs.size,Rj HN):=by
    show(jp,hs1.1,gq)
  have hz2:(GV).objs.size=hp.objs.size+1:=bR YK hs1.1
  have hk2:∀ b ob,b≠it->(ae,hp.get? b,ob)->(ae,(GV).get? b,ob):=(fG,b,ob,nb,Zj _ (hs1.extBut b ob nb e));have z1:h1.objs.size=hp.objs.size:=hs1.1;show wpAny _ _ (Builtin.Dict_items.ownedTupleIsFree (.ref it)>>=_) _ _ ⟨GV,g,dr,tk,os⟩;rw[z1];revert he2 ht2 hz2 hk2;generalize GV=h2;intro he2 ht2 hz2 hk2;clear hs1 T1 he1 z1;unfold Builtin.Dict_items.ownedTupleIsFree;refine Zg <| Zg <| Q7 he2 rfl (x:=.none) rfl <| Zo ?_
  ext ID;refine Zg <| Q7 he2 rfl (x:=ok) rfl <| Zg <| Q7 he2 rfl (x:=ov) rfl ?_
  refine Zg <| YX he2 ap (aI h3 he3 hs3)
  refine Zg <| YX he3 ap (aI h4 he4 hs4)
  refine Zg <| YX he4 ap (aI h5 he5 hs5)
  refine Zg <| YX he5 ap (aI h6 he6 hs6)
  have n1:=Q1 il;refine Zg <| wpAny_letGo <| Zo <| Zo (cN,Zo (h h6 he6 ?_ ?_ (fG b ob nb ?_)))
  . exact hs6.extBut _ _ n1 (hs5.extBut _ _ n1 (hs4.extBut _ _ n1 (hs3.extBut _ _ n1 ht2)))
  . exact hs6.1.trans (hs5.1.trans (hs4.1.trans (hs3.1.trans hz2)))
  . exact hs6.extBut b ob nb (hs5.extBut b ob nb (hs4.extBut b ob nb (hs3.extBut b ob nb (hk2 b ob nb e))))
theorem xlw {prog:Program}{w:World}{A:Around}{E:bA}{s:Shared}{it d:Addr}{ep:Nat}{o:Obj}{es:pD}{ok ov:Value}{Q:FO}
    (hA:zcJ) (st:IsItemIter s.heap it d es.size es.size ep ok ov) (hd:sC) (hdat:kT)
    (h:zin):wpAny bz A vo Q E s:=by
  ext zfL;have st':=st;unfold IsItemIter at st';unfold Builtin.«dict_itemiterator.__next__»
  repeat (any_goals (first|ext dZ|(with_reducible refine Y4 hT ?_)|(with_reducible refine Y8 hT ?_)|(with_reducible ext A6)|(with_reducible ext A5)|wp_step))
  have e1:(if (es.size:Int)<0 then none else es[(es.size:Int).toNat]?)=none:=by
    rw[uc,Qf];simp
  rw[e1]
  repeat (any_goals (first|ext dZ|(with_reducible refine Y4 hT ?_)|(with_reducible refine Y8 hT ?_)|(with_reducible ext A6)|(with_reducible ext A5)|wp_step))
  ext zfP
theorem xoy {prog:Program}{w:World}{A:Around}{E:bA}{s:Shared}{v d:Addr}{ep:Nat}{o:Obj}{es:pD}{Q:bA}
    (hv:Rh v (iY,"dict_items",.fields #[ju])) (hd:sC) (hdat:kT)
    (h:M7 (Oo,"dict_itemiterator",#[.none,I0,ju,wx,PX,B5,.none,.none])):wpAny bz A (pyIter (.ref v)) Q E s:=by
  have ti:yE v "dict_items":=dP hv
  refine wpAny_pyIter_slot ti F.slot_dict_items_iter ?_;refine JP F.slot_dict_items_iter ti F.entry_dict_items_iter ?_ (F.args_dict_items_iter_1 _);ext AJ dr;unfold Builtin.«dict_items.__iter__»
  repeat (any_goals (first|ext dZ|(with_reducible ext A6)|(with_reducible ext A5)|wp_step))
  exact cN (aZ,_,_,dP gq,JU.lookup,h)
theorem xli {prog:Program}{w:World} (d:Addr) (hd:Bs d) :
    MeetsIn prog w (Builtin.«dict.items» (jT [ju])) (fun _ R s=>(yE d "dict") /\
      R (.ok (.ret (.ref s.heap.objs.size))) { s with heap:=(Oo,"dict_items",#[ju]) }) :=
  .of_wp fun A R s ⟨ti,h⟩=>by
    unfold Builtin.«dict.items» Builtin.Dict.noArgs Builtin.Dict.showsAll;refine Zg <| Zg <| Ql ti ?_
    show wpAny _ _ (pure d) _ _ s;ext wD;show(oO,aA hd ZE,Zg <| Zo <| Zg <| YG <| Zo (cN h))
theorem xor {H:Hp}:∀{kvs:dC}{xs:qZ}{i:Nat}{k:eD}{x:V},EM->nU->∃ q u,(ba xs (k,q,u))/\Ge/\ou
 | _,_,_,_,_,.nil,e=>Bw
 | _,(k',q,u)::_,0,k,x,.cons r _,e=>by
  ext BM;ext jb r1 r2 r3 r
  dsimp only at r1 r2 r3
  subst r1;exact aZ q u rfl r2 r3
 | _,_,aX,k,x,KU,e=>by
  obtain⟨q,u,h1,h2,h3⟩:83:=xor (i:=i) (k:=k) (x:=x) t vp;exact aZ q u qP h2 h3
section
variable {X:Cx}{pins:List (Addr × Obj)}{Z:St}{H:Hp}{s:Shared}
theorem xg7 {d:Addr}{o:Obj}{kvs:dC}{es:pD}{ep:Nat} (I:ax) (e:WJ) (hdat:kT) :
    (aR,sC,o.ExactDict,es.size=kvs.length,∀(i:Nat) k x,nU->∃ q en,(aR,SO,cQ en.key q,Ge,RelV x en.val)):=by
  obtain⟨g,_,_,⟨xs,rel,o',es',ep',g',ex,hdat',hes,hn⟩⟩:44:=I.hok d _ e;ext bG g g' g';ext bG hdat hdat' hdat';refine(bW,g,ex,?_,bX i k x hx)
  . rw[<- Jm,hes,Za]
    exact (YD rel).symm
  . obtain⟨q,u,h1,h2,h3⟩:83:=xor rel hx
    exact⟨84,q,_,by rw[<- Jv,hes,Zc,h1]; rfl,rfl,h2,h3⟩
theorem Inv.nofrzT {d:Addr}{kvs:dC} (I:ax) (e:yc d):xL:=fun o' u' z=>by
 ext zkH
#check _
noncomputable def Itkt (d:Addr) (o:Obj) (kvs:dC):It :=
 (znt,H'=H/\∃ k x q,nU/\Um/\Ge)
noncomputable def Itit (d:Addr) (o:Obj) (kvs:dC):It :=
 (znt,∃ p k x q,(ay,nU,Ge,cQ v p,rS,H'=(C6 [.ref q,x])))
theorem xn9 {P:Program}{w:World}{K:Zd}{tg:Expr} (d it:Addr) (o:Obj) (kvs:dC) (es:pD) (ep:Nat) (hdat:kT) :
    Turn P w K tg (Itkt d o kvs) sw it (dH,h,h.IsKeyIter it d i es.size ep) where
  mem:=ap
  obj:=fun i h st b hb=>by
    ext zny
  keep:=fun i h h' ⟨o1,e1,r⟩ k=>zoO
  item:=by
    intro X hP hw hK hc i pins s Z H E I hf st hg;ext i9;ext tS lt hg;ext NT;obtain⟨f0,f1,f2,f3,f4,f5⟩:46:=ku;ext UY
    obtain⟨qa,en,he,hk,hq,hr⟩:84:=f i k x hx;refine xgp st g ex hdat he (aI h' hit' hs);show(zms,xhi (s:=nR) g2 c2 d2 au ?_,I.turned (t':=s.toks) (KJ,(hs.2 b hb).trans g) f0 f1 f3 f4 f5);exact⟨85,.ref qa,H,I1,eS hk,bY ⟨103,k,x,qa,hx,rfl,hq⟩,hit',Fd⟩
  done:=by
    intro X hP hw hK hc i pins s Z H E I hf st hg;ext i9;ext d6 e hg;ext NT;obtain⟨f0,f1,f2,f3,f4,f5⟩:46:=ku;rw[<- sz] at st;exact xhu jM st g ex hdat (Br,I.turned (t':=s.toks) va f0 f1 f3 f4 f5)
  self:=fun A i s Q E st h=>We st h
theorem xme {P:Program}{w:World}{K:Zd}{elts:kg}{x1}{tpos:Pos} (d it:Addr) (o:Obj) (kvs:dC) (es:pD) (ep:Nat) (hdat:kT) :
    Turn P w K xV (Itit d o kvs) sw it (dH,h,∃ ok ov,IsItemIter h it d i es.size ep ok ov) where
  mem:=ap
  obj:=fun i h st b hb=>by
    ext sX;ext Ei;exact⟨_,st,fun v z=>by
      ext Nb⟩
  keep:=fun i h h' ⟨ok,ov,st⟩ k=>⟨ok,ov,RS⟩
  item:=by
    intro X hP hw hK hc i pins s Z H E I hf st hg;ext i9;ext Ei;ext tS lt hg;ext NT;obtain⟨f0,f1,f2,f3,f4,f5⟩:46:=ku;ext UY
    obtain⟨qa,en,he,hk,hq,hr⟩:84:=f i k x hx;refine xkk st g hdat he (bN h' hout ht hz hkp);ext tR zhQ;have kk:Oj zaf:=(KJ,(hsb.2 b hb).trans (hkp b o hb g));show(Aa,zrn,I.turned (t':=s.toks) kk f0 f1 f3 f4 f5);ext kq n0 nL nC nP VS;ext zhy;show(av,hp,VM HN,(hsb.2 _ pne).trans ht,⟨85,uX,zam [.ref qa,x],I1.adopt n0 I.sz nL nC nP (zaH,[en.key,en.val],.cons (eS hk) (.cons hr .nil)),rfl,⟨125,_,k,x,qa,hx,hq,rfl,n0,rfl⟩,cI _ hit',iC⟩);ext sX;ext As pne f0
  done:=by
    intro X hP hw hK hc i pins s Z H E I hf st hg;ext i9;ext Ei;ext d6 e hg;ext NT;obtain⟨f0,f1,f2,f3,f4,f5⟩:46:=ku;rw[<- sz] at st;exact xlw jM st g hdat (Br,I.turned (t':=s.toks) va f0 f1 f3 f4 f5)
  self:=zhz
noncomputable def xu2 (X:Cx) (to:TE):TI:=(MU,H1 d=some (.dT kvs),∀ ob,xL->R (Itkt d ob kvs) xO)
noncomputable def xuc (X:Cx) (to:TE):TI:=(MU,H1 d=some (.dT kvs),∀ ob,xL->R (Itit d ob kvs) xO)
section
variable {X:Cx}{o:Expr}{to:TE}{tg:Expr}{elts:List Expr}{x1:_}{tpos apos cpos:Pos}
theorem xrp (ho:K9):PI X tg o (xu2 X to):=by
 intro pins s Z H R I h;show(jX,ho pins s Z H _ I h,fun v s1 ⟨x,H1,I1,r1,q1⟩=>?_);obtain⟨d,kvs,e1,e,q⟩:83:=q1;ext Sx;obtain⟨z,hd,⟨xs,rel,ob,es,ep,g,ex,hdat,hes,hn⟩⟩:43:=RT;refine xl5 hd g ex hdat ?_;have I3:cT xO s1:=(zgx,(RT).stay PN (fun c q=>Oq) (Fp Oq));have I4:cT xO (zkt zcz) :=
  zou
 show(M0,⟨66,xO,rfl,I4,xn9 d _ ob kvs es ep hdat,BF,iC,q ob (I1.nofrzT e)⟩);show(MR,s1.heap.objs.size)
theorem xo4 (ho:K9) (hbase:GK "items":=by rfl) (hline:GL:=by rfl) :
    PI X xV (AA "items" []) (xuc X to):=by
  intro pins s Z H R I h;show(zlP,ho pins s Z H _ I h,fun v s1 ⟨x,H1,I1,r1,q1⟩=>?_);obtain⟨d,kvs,e1,e,q⟩:83:=q1;ext Sx;obtain⟨z,hd,⟨xs,rel,ob,es,ep,g,ex,hdat,hes,hn⟩⟩:43:=RT;show(av,ti,s1.TypeIs (.ref d) "dict",⟨ob,g,ex.1⟩,⟨86, "dict", "dict.items",JW,Qa,PySem.F.type_dict_items,ti,aq a e2,zli⟩)
  . cases e2
    show(aE,ob,g,bc ex)
  refine Qc Qa ti PySem.F.entry_dict_items zmQ (xli d hd) (eW ti);refine xoy (s:=MZ) gq (Zj _ g) hdat ?_;ext zfZ
  have I3:cT xO s2:=(zgu,(I2.hok d _ e).stay PN (fun c q=>Oq) (Fp Oq));have I4:cT xO (MQ,#[.none,I0,ju,wx,PX,B5,.none,.none]) :=
    zok
  have fin:PIE X pins Z xV R DH (MQ,#[.none,I0,ju,wx,PX,B5,.none,.none]):=by
    show(zkS,⟨66,xO,rfl,I4,xme d _ ob kvs es ep hdat,⟨.none,.none,gq⟩,iC,q ob (I1.nofrzT e)⟩);show(MR,s2.heap.objs.size)
  exact fin
noncomputable def xxo (X:Cx) (t:TS):TS:=(mO,t { D with nx:=(Ca,∃ d ob u,(gS d (.frz ob u))/\xL/\D.nx σ' (upd H' d u)) } Z H)
theorem xmy {st:Stmt}{t:TS} (h:Ta):PS X st (xxo X t):=by
 intro pins s Z H D I q;show(jX,h pins s Z H _ I q,aI fl s1 z);cases fl with
 | next =>
  obtain⟨σ',H',I',⟨d,ob,u,e,nf,r⟩⟩:82:=z;exact(bQ,σ',_,I'.thaw e nf,r)
 | _=>exact z
#check _
section
variable {d:Addr}{ob:Obj}{kvs:List (List Key × V)}{g:TG}{tb:TS}{D:Ends}{Z:St}{H:Hp}
theorem xoi (Pv:FL) (h0:Ls) (hl:zhc)
    (hs:∀ i k x q Z H,(bb,nU,Ge,tP,g (.ref q) Z H GH)) (hd:HD kvs.length) :
    ∃ W:Nat->Nat->St->Hp->Prop,(∃ m,W 0 m Z H)/\∀ i m Z H,Fe ->
      ((zdq).stop i H/\zo)\/((zdq).go i H/\(Dz (EX,(zdq).yld i H x H',Z,H',Du))):=by
  ext zgN;rintro i m Z H (⟨rfl,hi,p⟩:43);ext NL R4
  . ext zrO
    obtain⟨rfl,k,x',qa,e1,rfl,hr⟩:=y;exact hs i k x' qa Z H' e1 hr p
  . ext zjI
theorem xnn (Pv:FL) (h0:Ls) (hl:zhc)
    (hs:∀ i k x q p Z H,(bg,nU,Ge,rS,tP,g wS Z (C6 [.ref q,x]) GH)) (hd:HD kvs.length) :
    ∃ W:Nat->Nat->St->Hp->Prop,(∃ m,W 0 m Z H)/\∀ i m Z H,Fe ->
      ((zdp).stop i H/\zo)\/((zdp).go i H/\(Dz (EX,(zdp).yld i H x H',Z,H',Du))):=by
  ext zgN;rintro i m Z H (⟨rfl,hi,p⟩:43);ext NL R4
  . ext zrO
    obtain⟨pa,k,x',qa,e1,hr,rfl,hn,rfl⟩:125:=y;exact hs i k x' qa pa Z H e1 hr hn p
  . ext zjI
#check _
#check L2
namespace L2
open PySem PySem.Spec PyProof.Rows XL PySem.W PySem.MeetsSeq3
#check L2
namespace L2
open PySem PySem.Spec PyProof.Rows XL PySem.W
#check L2
namespace L2
section
variable {D:Ends}{Z:St}{H:Hp}{i:Nat}{v:V}{N:St->Hp->Prop}{wi:TI}{g:TG}{a b u:TS}{c:TT}
theorem sq2 {t1 t2:TS} (k:ym u2 t2 zbC):(tSeq t1 t2) D Z H:=k
theorem sq3 {t1 t2 t3:TS} (k:(jP,d,D,s,Z,X2 t3)):(tSeq t1 (tSeq t2 t3)) D Z H:=k
theorem sq4 {t1 t2 t3 t4:TS} (k:ym u4 t4 (X2,tSeq t3 u4)):(tSeq t1 (om t2 t3 t4)) D Z H:=k
theorem sq5 {t1 t2 t3 t4 t5:TS} (k:(jP,d,D,s,Z,zlI t5)):(tSeq t1 (tSeq t2 (om t3 t4 t5))) D Z H:=k
theorem sq6 {t1 t2 t3 t4 t5 t6:TS} (k:ym u6 t6 zca):(tSeq t1 (om t2 t3 (om t4 t5 t6))) D Z H:=k
theorem sq7 {t1 t2 t3 t4 t5 t6 t7:TS} (k:ym u7 t7 (jP,u6,tSeq t6 u7,u5,tSeq t5 u6,(jP,u4,tSeq t4 u5,u3,tSeq t3 u4,let u2:=tSeq t2 u3; zbC))):(tSeq t1 (WL t7)) D Z H:=k
theorem sq9 {t1 t2 t3 t4 t5 t6 t7 t8 t9:TS} (k:ym u9 t9 (jP,u8,tSeq t8 u9,u7,tSeq t7 u8,let u6:=tSeq t6 u7; zca)):(tSeq t1 (WL (om t7 t8 t9))) D Z H:=k
theorem sq10 {t1 t2 t3 t4 t5 t6 t7 t8 t9 t10:TS} (k:ym u10 t10 zgF):(tSeq t1 (om t2 t3 (om t4 t5 (om t6 t7 (om t8 t9 t10))))) D Z H:=k
theorem sq11 {t1 t2 t3 t4 t5 t6 t7 t8 t9 t10 t11:TS} (k:jP d D s Z (jP,u11,t11,u10,tSeq t10 u11,zgF)):(tSeq t1 (WL (om t7 t8 (om t9 t10 t11)))) D Z H:=k
theorem gn (k:N pk H):xcp i v Z H N:=k
theorem nx {n r x y} (k:n Z H):Ends.nx ⟨n,r,x,y⟩ Z H:=k
theorem gx {n r x y} (k:n pk H):xcp i v Z H (Ends.nx ⟨n,r,x,y⟩):=k
theorem fo (k:(ym,b,b,tFor wi g b d s H)):tFor wi g b D Z H:=k
theorem fq (k:(jP,s,Z,b,b,tFor wi g b Hq s H)):tSeq (tFor wi g b) u D Z H:=k
theorem wo (k:(ym,b,b,xgi c b d s H)):xgi c b D Z H:=k
theorem wq (k:(jP,s,Z,b,b,xgi c b Hq s H)):tSeq (xgi c b) u D Z H:=k
theorem io (k:jP d D s Z (jP,a,a,b,b,tIfS c a b d s H)):tIfS c a b D Z H:=k
theorem iq (k:let s:=Z; (jP,a,a,b,b,tIfS c a b Hq s H)):tSeq (tIfS c a b) u D Z H:=k
#check _
#check L2
namespace L2
open PySem PySem.Spec PyProof.Rows XL
section
variable {X:Cx}{x:Str}{e:Expr}{te:TE}{pos pos':Pos}
theorem pS (i:Nat) (hN:X.N.Nodup) (he:tF) (hi:sZ:=by rfl) (hx:AM:=by exact YI rfl) (hs:zmk:=by rfl) (hf:Az:=by first|ext wP|ext z0) :
    zjx:=xc4 hN hi hx he hs hf
theorem pN (i:Nat) (hN:X.N.Nodup) (hi:sZ:=by rfl) (hx:AM:=by exact YI rfl) (hf:Az:=by first|ext wP|ext z0):PG X sT (xcp i):=xg8 hN hi hx hf
#check _
section
variable {X:Cx}{x:Str}{pos:Pos}{scope:Scope}{zs ys:List Str}
theorem pO (i:Nat) {C:Addr}{ex:aw}{s:Shared}{H:Hp}{pn:bp} (nd:Bc) (ow:∀ x∈zs,(ae,(qO).names.lookup x,.local)) (hi:ba (zs++ys) x:=by rfl) (hz:x∈zs:=by simp):PG (X.blkG scope zs ys C ex s H pn) sT (xcp i):=xg8 nd hi (YI (ow _ hz)) (Qb (ow _ hz))
theorem pM (i:Nat) (hi:ba (zs++ys) x:=by rfl) (hz:x∈zs:=by simp):∀(C:Addr) (ex:aw) (s:Shared) (H:Hp) (pn:bp),(∀ x∈zs,(ae,(qO).names.lookup x,.local))->Bc->PG (X.blkG scope zs ys C ex s H pn) sT (xcp i):=fun _ _ _ _ _ ow nd=>pO i nd ow hi hz
#check _
section
variable {X:Cx}{k k':Nat}{f C:Addr}{fd:FuncData}{ps:List Str}{sp:Sp}{x m:Str}{p pos apos:Pos}{e o:Expr}{es:List Expr}{ta:TE}{t:TA}{q0:Bool}
theorem pC (F:FnOk q0 X.prog X.w X.K X.mg X.base (CXo X.prog X.w) k f fd ps sp) (hr:Room q0 k' X.A) (hm:KH f) (hk:zpj) (hb:x0 X.K fd ps []) (ha:BY) (hl:k<=k':=by decide) (hg:rL:=by rfl)
    (hdb:nQ:=by decide) (he:xM:=by rfl) (hpl:(yK).any (·.1)=false:=by rfl) :
    GQ (xsh sp [] (fun _ _ _ _=>False) t):=xtt F (hr.mono hl) hg hm hk hb .nil xq ha hdb he hpl
#check _
#check L2
namespace L2
open PySem PySem.Spec PyProof.Rows XL
variable {q0:Bool}
#check L2
namespace L2
open PySem PySem.Spec PyProof.Rows XL PySem.W
#check L2
namespace Geo
noncomputable def dn (y r:Int):Int:=(lz,y,r,1,-1)
noncomputable def upN (y r:Int):Nat:=(lz,y,r,gV r y,gV y r)
noncomputable def wayI (b:Bool):Int:=(vN,-1,1)
noncomputable def lvN (w x:Int) (b:Bool):Nat:=(vN,(x+1).toNat,(gV,w+2,x))
noncomputable def upL (x y r:Int):iz:=(Zu (upN y r)).map (uH,x,y+cL*dn y r)
noncomputable def lvL (w x:Int) (b:Bool) (r:Int):iz:=(Zu (lvN w x b)).map (uH,x+cL*wayI b,r)
noncomputable def cells (w x y:Int) (b:Bool) (r:Int):iz:=upL x y r++lvL w x b r
theorem xls {x y r u v:Int}:(LW,upL x y r,u=x/\VO):=by
 unfold upL upN dn;ext B9 Zf
 .ext Ve
  subst e1;refine tZ;split at hi
  .rename_i h
   rw[aN h] at e2;left; omega
  .rename_i h
   rw[az h] at e2;right; omega
 .rintro ⟨rfl,h|h⟩
  .refine (eX,gV v y,?_)
   .rw [ZJ,Mi]; omega
   .rw [aN aa];have:(cV,gV v y)=v-y:=aa
    ext S0; omega
  .refine (eX,gV y v,?_)
   .rw [ZJ,uc]; omega
   .ext d4 aa;have:(cV,gV y v)=y-v:=aa
    ext S0; omega
theorem xv0 {w x r u v:Int}{b:Bool} (h1:1<=x) (h2:x<=w):(LW,lvL w x b r,ziT):=by
 unfold lvL lvN wayI;rw[Zf];cases b with
 | true =>
  ext ID;constructor
  .ext Ve
   show(aE,e2.symm,aa,aa)
  .ext zqH x u;have:(cV,gV x u)=x-u:=aa
   ext S0; omega
 | false =>
  ext vh;constructor
  .ext Ve
   show(aE,e2.symm,aa,aa)
  .ext zqH u x;have:(cV,gV u x)=u-x:=aa
   ext S0; omega
theorem xfm {w x y r u v:Int}{b:Bool} (h1:1<=x) (h2:x<=w):(LW,kR x y b r,(u=x/\VO)\/ziT):=by
 unfold cells;rw[Zv,xls,xv0 h1 h2]
noncomputable def btw (v a b:Int):Prop:=min a b<=v/\v<=max a b
instance (v a b:Int):Decidable (btw v a b):=inferInstanceAs (Decidable (_/\_))
noncomputable def meet (l m:iz):dG gf:=znH
theorem xe3 {l m:iz}{p:Prop} [Decidable p] {d:gf} (h:∀ c,OX l m p d):meet l m=(Aj p d):=by
 unfold meet;by_cases hp:p
 .rw [aN hp];obtain⟨h1,h2⟩:=(h d).mpr (lL hp);cases e:znH with
  | none =>
   show(bV,JA,e,absurd (decide_eq_true h2) (e d h1))
  | some c =>
   show(ah,hm,YT e,hl,ZC e);rw[((h c).mp ⟨hl,vv hm⟩).2]
 .rw [az hp,JA];intro c hc hd;exact hp ((h c).mp ⟨hc,vv hd⟩).1
noncomputable def mir (w:Int) (c:gf):gf:=(w+1-c.1,c.2)
theorem xde (w:Int) (c:gf):mir w (mir w c)=c:=by
 unfold mir;rw[(fh,w+1-(w+1-c.1)=c.1)]
theorem xfh (w x y:Int) (b:Bool) (r:Int):(kR zA y (! b) r)=(kR x y b r).map (mir w):=by
 unfold cells upL lvL;rw[Zt,Z8,Z8]
 congr 1
 have e:lvN w zA (! b)=lvN w x b:=by
  cases b
  .show(F7,Int.toNat,(fh,zA+1=w+2-x))
  .show(F7,Int.toNat,(fh,w+2-zA=x+1))
 rw[e];refine JN fun i _=>?_;cases b
 .exact congrArg (·,r) (fh,zA+cL*-1=w+1-(x+cL*1))
 .exact congrArg (·,r) (fh,zA+cL*1=w+1-(x+cL*-1))
theorem xjo {w:Int}{l:iz}{c:gf}:c∈l.map (mir w)↔mir w c∈l:=by
 rw[Zf];show(aO,fun⟨d,h,e⟩=>by rw[<- e,xde]; exact h,fE (cI,h,xde w c))
theorem xlm {w xn yn rn xf yf rf:Int} (n1:1<=xn) (n2:xn<=w) (f1:1<=xf) (f2:xf<=w) (hr:LY) (hx:xn<xf) (c:gf) :
    OX (kR xn yn true rn) (kR xf yf true rf) IE LX:=by
  obtain⟨u,v⟩:=c;rw[xfm n1 n2,xfm f1 f2,Prod.mk.injEq];unfold btw;ext ID;constructor
  . rintro ⟨h|h,h'|h'⟩<;>omega
  . rintro (⟨h,rfl,rfl⟩:43)
    show(dI,?_,.inr (bY aa));by_cases e:v=rn
    . show(eF,Ao e)
    . show(dR,bY aa)
theorem xky {w xn yn rn xf yf rf:Int}{b:Bool} (n1:1<=xn) (n2:xn<=w) (f1:1<=xf) (f2:xf<=w) (hr:LY) (hx:zbp) (c:gf) :
    OX zbM zbL IE LX:=by
  cases b with
  | true=>exact xlm n1 n2 f1 f2 hr hx c
  | false =>
    have hx:xf<xn:=hx;have z:=xlm (w:=w) (yn:=yn) (yf:=yf) (xn:=w+1-xn) (xf:=w+1-xf) aa aa aa aa hr aa (mir w c);rw[(fR,kR (w+1-xn) yn true rn,_,xfh w xn yn false rn),(fR,kR (w+1-xf) yf true rf,_,xfh w xf yf false rf),xjo,xjo,xde] at z;rw[z];refine and_congr_right fun _=>⟨cH e,fun e=>ur⟩
    show(ie,e,congrArg (mir w) e,xde);exact e.trans (xde w LX)
theorem xpl {w xn yn rn xf yf rf:Int}{b:Bool} (n1:1<=xn) (n2:xn<=w) (f1:1<=xf) (f2:xf<=w) (hr:LY) (hx:zbp) :
    meet zbM zbL=(Aj IE LX):=xe3 (xky n1 n2 f1 f2 hr hx)
theorem xqs {w xn yn rn xf yf rf:Int}{b:Bool} (n1:1<=xn) (n2:xn<=w) (f1:1<=xf) (f2:xf<=w) (hr:LY) (hx:zbp) :
    meet zbL zbM=(Aj IE LX):=xe3 fun c=>(aA,and_comm,xky n1 n2 f1 f2 hr hx c)
theorem xjq {w x1 y1 r1 x2 y2 r2:Int} (a1:1<=x1) (a2:x1<=w) (b1:1<=x2) (b2:x2<=w) (hx:x1≠x2) :
    meet OA Hj=(lz x2 x1 (Es,vI,(x1,r2),Aj yC (x2,r1)) none):=by
  have mem2:∀ u v,(LW,Hj,(u=x2/\((y2<=v/\v<r2)\/(r2<v/\v<=y2)))\/(bM,v,r2,x2<=u,u<=w+1)):=fun u v=>by
    rw[xfm b1 b2]; simp
  have mem1:∀ u v,(LW,OA,(u=x1/\((y1<=v/\v<r1)\/(r1<v/\v<=y1)))\/(bM,v,r1,0<=u,u<=x1)):=fun u v=>by
    rw[xfm a1 a2]; simp
  by_cases hlt:x2<x1
  . rw[aN hlt]
    by_cases e:r1=r2
    . ext cW
      rw[aN (by unfold btw; omega)];unfold meet;show (RI++O1).find? _=_;rw[List.find?_append];have hn:(RI).find? (me,iO c (kR x2 y2 false r1))=none:=by
        rw[JA];rintro ⟨u,v⟩ hc hd;show(ah,h1,xls.mp hc,h2,(mem2 u v).mp (of_decide_eq_true hd));omega
      rw[hn];have hv:O1=(x1,r1)::(O1).tail:=by
        unfold lvL lvN;obtain⟨n,hn⟩:∃ n,(x1+1).toNat=iX:=Ao x1.toNat
        simp only[if_true,hn,Qi,Zp,List.tail_cons];simp
      rw[hv,Ya (by show(IC,(mem2 x1 r1).mpr (.inr SK)))];rfl
    . by_cases hb:vI
      . have key:∀ c,OX RI Hj True (x1,r2):=by
          ext zoT xls;unfold btw at hb;constructor
          . rintro ⟨h,h'|h'⟩<;>refine eW trivial<;>omega
          . rintro (⟨_,rfl,rfl⟩:43)
            show(aO,bY aa,.inr SK)
        have z:=xe3 key;rw[aN hb];unfold meet at z ⊢;show (RI++O1).find? _=_;rw[List.find?_append,z];rfl
      . rw[az hb]
        refine xe3 (p:=yC) (d:=(x2,r1)) ?_;ext zoT mem1;unfold btw at hb ⊢;constructor
        . rintro ⟨h|h,h'|h'⟩<;>omega
        . rintro (⟨h,rfl,rfl⟩:43)
          show(dI,.inr SK,.inl (bY aa))
  . rw[az hlt]
    have:=xe3 (l:=OA) (m:=Hj) (p:=False) (d:=(0,0)) (by
      rintro ⟨u,v⟩;rw[mem1,mem2];constructor
      . rintro ⟨h|h,h'|h'⟩<;>omega
      . rintro ⟨h,_⟩; exact h.elim)
    simpa using this
theorem xqz (w:Int) (l m:iz):meet (l.map (mir w)) (m.map (mir w))=(meet l m).map (mir w):=by
 unfold meet;rw[List.find?_map];refine congrArg (Ws (mir w)) (congrArg (List.find? · l) (funext fun c=>?_));show decide (mir w c∈m.map (mir w))=_;rw[decide_eq_decide,xjo,xde]
theorem xn0 {w x1 y1 r1 x2 y2 r2:Int} (a1:1<=x1) (a2:x1<=w) (b1:1<=x2) (b2:x2<=w) (hx:x1≠x2) :
    meet Hj OA=(lz x2 x1 (Es,yC,(x2,r1),Aj vI (x1,r2)) none):=by
  have z:=xjq (w:=w) (x1:=w+1-x2) (y1:=y2) (r1:=r2) (x2:=w+1-x1) (y2:=y1) (r2:=r1) aa aa aa aa aa;rw[(fR,kR (w+1-x2) y2 true r2,_,xfh w x2 y2 false r2),(fR,kR (w+1-x1) y1 false r1,_,xfh w x1 y1 true r1),xqz] at z;have z:=xH (Ws (mir w)) z;rw[Option.map_map,(fR,mir w∘mir w,id,funext (xde w)),Option.map_id_apply,Xj,Xj,Xj] at z;rw[z];by_cases h:x2<x1
  . rw[Mi,aN h]
    show (Es,yC,(mir w (mir w (x2,r1))),Aj vI (mir w (mir w (x1,r2))))=_;rw[xde,xde]
  . rw[uc,az h]
    rfl
theorem meet_at {l m:iz}{i:Nat}{c:gf} (hc:ba l c) (no:∀ d∈l.take i,d∉m) (hm:c∈m):(ae,meet l m,c):=by
 ext pQ h hi hc;have e:zmg=l:=by
  rw[<- hi,List.getElem_cons_drop,Yj]
 have hn:(l.take i).find? (me,iO c m)=none:=by
  ext ziw
 have z:(ae,(zmg).find? (me,iO c m),c):=by
  rw[List.find?_append,hn,Ya (by ext IC hm)];rfl
 ext bV e z z
theorem meet_no {l m:iz} (no:∀ d∈l,d∉m):meet l m=none:=by
 unfold meet;ext ziw
theorem erase_ok {ls:dD}{k:Nat}{y:Int} (nd:ls.Nodup) (h:eY ls k y):(aR,(zdv).Nodup,y∉zdv,(∀ z∈zdv,z∈ls),y∈ls):=by
 obtain⟨hk,hy⟩:=Zh.mp h;have e:ls.take k++y::ls.drop cU=ls:=by
  rw[<- hy,List.getElem_cons_drop,Yj]
 show(cG,e2,ls.eraseIdx k=ls.take k++ls.drop cU,Y0 ls k,nd2,nd);rw[<- e,ZB,Z5] at nd2;obtain⟨n1,⟨n2,n3⟩,n4⟩:43:=nd2;refine(bW,?_,?_,(uh,List.mem_of_mem_eraseIdx hz),hy▸JD hk)
 .rw [e2,ZB];show(aE,n1,n3,fun a ha b hb=>n4 a ha b MA)
 .rw [e2,Zv];rintro (z|z)
  .exact n4 _ z _ Zm rfl
  .exact n2 z
noncomputable def absI (a:Int):Int:=(lz,a,0,-a,a)
noncomputable def acr (w x:Int) (b:Bool):Int:=vN x zA
theorem tri {a b c:Int}:(eI a c)<=(eI a b)+(eI b c):=by
 ext zlH
theorem xfw {v a b:Int} (h:btw v a b):absI (a-b)=(eI a v)+(eI v b):=by
 unfold btw at h;ext zlH
theorem xm1 {cn cf yn rn yf rf:Int} (hc:cn<cf) (hr:LY) (h:IE) :
    zpZ<zqa\/(zpZ=zqa/\cn*(eI yn rn)+cf*(eI yf rf)<cn*(eI yn rf)+cf*(eI yf rn)):=by
  show(ah,e1,xfw h,e2,tri (a:=yf) (b:=rf) (c:=rn));by_cases c:absI (yf-rn)=(eI yf rf)+(eI rf rn)
  . show(Ax,eW aa)
    rw[c,e1,Int.mul_add,Int.mul_add];have p:0<(eI rf rn):=by
      unfold absI;ext lB
    show(cy,Int.mul_lt_mul_of_pos_right hc p)
  . ext dR aa
theorem xr7 (a b:Int):(eI a b)=absI (b-a):=by
 unfold absI;ext Pw
theorem ex_pair {w x1 y1 r1 x2 y2 r2:Int}{b1 b2:Bool} (a1:1<=x1) (a2:x1<=w) (c1:1<=x2) (c2:x2<=w) (hx:x1≠x2) (hs:(b1,r1)≠(b2,r2)) (hm:meet (kR x1 y1 b1 r1) (kR x2 y2 b2 r2)≠none) :
    ziM<(IZ+(eI y1 r1))+zoc \/
    (b1=b2/\ziM=(IZ+(eI y1 r1))+zoc /\
      IZ*(eI y1 r1)+acr w x2 b2*(eI y2 r2)<acr w x1 b2*(eI y1 r2)+Sv*(eI y2 r1)):=by
  by_cases hb:b1=b2
  . subst hb
    have hr:r1≠r2:=fun e=>hs Gj;by_cases hn:if b1 then x1<x2 else x2<x1
    . rw[xpl a1 a2 c1 c2 hr hn] at hm
      have hbt:vI:=by
        by_cases z:vI
        . exact z
        . ext DQ z
      have hc:IZ<Sv:=by
        ext znQ hn
      rcases xm1 (yf:=y2) hc hr hbt with z|⟨z,z2⟩
      . ext dR aa
      . show(eF,GC aa z2)
    . have hf:if b1 then x2<x1 else x1<x2:=by
        cases b1<;>simp at hn ⊢<;>omega
      rw[xqs c1 c2 a1 a2 (Z2 hr) hf] at hm;have hbt:yC:=by
        by_cases z:yC
        . exact z
        . ext DQ z
      have hc:Sv<IZ:=by
        ext znQ hf
      rcases xm1 (yf:=y1) hc (Z2 hr) hbt with z|⟨z,z2⟩
      . ext dR aa
      . ext eF SK
  . refine .inl ?_
    have t1:=tri (a:=y2) (b:=r2) (c:=r1);show(ah,t2,tri (a:=y1) (b:=r1) (c:=r2),n1,xr7 r2 r1);cases b1 with
    | true =>
      cases b2 with
      | true=>ext iP hb
      | false =>
        rw[xjq a1 a2 c1 c2 hx] at hm;by_cases z:x2<x1
        . rw[if_pos z] at hm
          have ht:btw r2 y1 r1\/btw r1 y2 r2:=by
            by_cases z1:vI
            . ext dR z1
            . ext zqj
              . ext eF z2
              . ext DQ z2
          unfold acr;simp only[if_true,ZI,if_false];rcases ht with u|u
          . show(cy,xfw u)
          . show(cy,xfw u)
        . ext DQ z
    | false =>
      cases b2 with
      | false=>ext iP hb
      | true =>
        rw[xn0 c1 c2 a1 a2 (Z2 hx)] at hm;by_cases z:x1<x2
        . rw[if_pos z] at hm
          have ht:btw r2 y1 r1\/btw r1 y2 r2:=by
            by_cases z1:vI
            . ext dR z1
            . ext zqj
              . ext eF z2
              . ext DQ z2
          unfold acr;simp only[if_true,ZI,if_false];rcases ht with u|u
          . show(cy,xfw u)
          . show(cy,xfw u)
        . ext DQ z
#check Geo
namespace Drw
variable {S:Type}
#check Drw
namespace Kp
noncomputable def pc (n:Nat):Nat:=if h:n=0 then 0 else n % 2+pc (n / 2)
termination_by n
decreasing_by omega
noncomputable def subs {α:Type}:aP->List (List α)
 | []=>[[]]
 | a::l=>subs l++(subs l).map (a::·)
theorem subs_mem {α:Type}:∀{l S:aP},S∈subs l->(∀ a∈S,a∈l)/\S.length<=l.length
 | [],S,h=>by
  rw[Zn.mp h];ext aO jJ bv
 | b::l,S,h=>by
  rcases Zv.mp h with h|h
  .have:=subs_mem h;show(aO,(zR,Zi _ (this.1 a ha)),Nat.le_succ_of_le this.2)
  .show(fj,S',hS,rfl,Zf.mp h);have:=subs_mem hS;show(dI,aq a ha,Nat.succ_le_succ this.2);rcases eJ ha with rfl|ha
   .exact dJ
   .exact Zi _ (this.1 a ha)
theorem subs_nd {α:Type}:∀{l S:aP},l.Nodup->S∈subs l->S.Nodup
 | [],S,_,h=>by
  show(aD,Zn.mp h,Yf)
 | b::l,S,nd,h=>by
  rw[Z5] at nd;rcases Zv.mp h with h|h
  .exact subs_nd gD h
  .show(fj,S',hS,rfl,Zf.mp h);exact Z5.mpr ⟨(aj,nd.1 ((subs_mem hS).1 _ z)),subs_nd gD hS⟩
theorem subs_all {α:Type} [yr]:∀{l:aP}{T:aP},T.Nodup->(∀ a∈T,a∈l)->∃ S∈subs l,S.Perm T
 | [],T,_,h=>by
  cases T with
  | nil=>show(aE,[],yV,y9)
  | cons a T=>exact nomatch h a dJ
 | b::l,T,nd,h=>by
  by_cases hb:b∈T
  .have p:=Wg hb;have nd':(b::T.erase b).Nodup:=p.nodup_iff.mp nd;rw[Z5] at nd';obtain⟨S,hS,pS⟩:62:=subs_all (l:=l) (T:=T.erase b) nd'.2 (fun a ha=>by
    rcases eJ (h a (JO ha)) with rfl|z
    .show(bZ,ha,nd'.1)
    .exact z)
   show(aE,b::S,Z4 _ (L7 S hS),(pS.cons b).trans p.symm)
  .obtain ⟨S,hS,pS⟩:62:=subs_all (l:=l) (T:=T) nd (fun a ha=>by
    rcases Zq.mp (h a ha) with rfl|z
    .ext bZ ha hb
    .exact z)
   show(aE,S,ZH _ hS,pS)
section
variable {N S:Type} [DecidableEq N] [DecidableEq S]
structure Mt (room:nX) (so:mJ) (ho:n8):Prop where
 iff:∀ n s,Bn↔(ae,ho s,n)
 rm:xG Bn IJ
theorem Mt.inj {room:nX}{so:mJ}{ho:n8} (m:Rx) {a b:N}{s:S} (ha:zdl) (hb:(ae,so b,s)):a=b:=by
 have x:=(m.iff a s).mp ha;show(bV,(m.iff b s).mp hb,x,(ZO.inj x).symm)
theorem xfe {so:mJ}:∀{T:uw},T.Nodup->(∀ a∈T,∀ b∈T,∀ s,zdl->(ae,so b,s)->a=b)->(zcy).Nodup
 | [],_,_=>Yf
 | a::T,nd,inj=>by
  rw[Z5] at nd;have ih:=xfe gD fun x hx y hy=>inj x (Zi _ hx) y wG;rw[J9];cases e:so a with
  | none=>exact ih
  | some s =>
   refine Z5.mpr ⟨lG,ih⟩;show(ag,b,hb,eb,JQ.mp z);rw[inj a dJ b MA s e eb] at nd;exact nd.1 hb
theorem xdm {so:mJ}:∀{T:uw},znP->(zcy).length=T.length
 | [],_=>rfl
 | a::T,h=>by
  rw[J9];cases e:so a with
  | none =>
   show(zcd,h a dJ)
  | some s =>
   show (s::zcy).length=_;rw[Z6,Z6,xdm zeE]
noncomputable def tog (room:nX) (T:uw) (s:S):Bool:=T.any fun n=>cP IJ
theorem hall {room:nX}{so:mJ}{ho:n8} (m:Rx) {ss:List S} (hr:N6) {T:uw} (nd:T.Nodup) (h:znP):T.length<=zpn:=by
 rw[YC,<- xdm h];show(zaU,xfe nd fun a _ b _ s ha hb=>m.inj ha hb,K1);show(ag,n,hn,e,JQ.mp hs);have r:=m.rm n s e;exact Zz.mpr ⟨hr n s r,zod hn⟩
structure Crowd (room:nX) (so:mJ) (name:N) (hs:uw):Prop where
 nd:(Cc).Nodup
 has:∀ h∈hs,(so h).isSome
 all:∀ c∈Cc,∀ s∈room c,∃ h∈hs,(ae,so h,s)
theorem Crowd.count {room:nX}{so:mJ}{ho:n8} (m:Rx) {name:N}{hs:uw} (c:Crowd room so name hs) {ss:List S} (nd:ss.Nodup) (hr:N6):ss.countP (tog room Cc)=hs.length:=by
 rw[YC];have ndh:=(Z5.mp c.nd).2;refine Nat.le_antisymm ?_ ?_
 .rw [<- xdm c.has];show(zaU,tJ nd,aq s hs');show(ag,n,hn,e,Jo.mp (Zz.mp hs').2);show(ag,h,hh,e',c.all n hn s zah);exact JQ.mpr ⟨h,hh,e'⟩
 .rw [<- xdm c.has];show(zaU,xfe ndh fun a _ b _ s ha hb=>m.inj ha hb,aq s hs');show(ag,n,hn,e,JQ.mp hs');have r:=m.rm n s e;exact Zz.mpr ⟨hr n s r,(zod,Zi _ hn)⟩
theorem tog_perm {room:nX}{T T':uw} (p:T.Perm T') (s:S):(Ch T)=(Ch T'):=by
 unfold tog;rw[Jk,Jo,Jo];constructor
 .ext nZ n h e;show(aE,n,p.mem_iff.mp h,e)
 .ext nZ n h e;show(aE,n,p.mem_iff.mpr h,e)
noncomputable def upd1 {α β:Type} [yr] (f:zeU) (a:α) (b:β):zeU:=aj (kf,z,a,some b,f z)
structure Hand (room:nX) (dom:N->Bool) (so:mJ) (ho:n8) (wait:S):Prop where
 iff:(xG,s≠wait,(Bn↔(ae,ho s,n)))
 rm:xG Bn IJ
 no:∀ n,so n≠some wait
 dm:∀ n,(so n).isSome=dom n
theorem Mt.hand {room:nX}{so:mJ}{ho:n8} (m:Rx) {s:S} (h:BK):zdE (fun n=>(so n).isSome) :=
 ⟨fun n s _=>m.iff n s,m.rm,fun n e=>(Gz,(m.iff n s).mp e,h),pV⟩
theorem Hand.step {room:nX}{dom:N->Bool}{so:mJ}{ho:n8}{s s1:S}{a:N} (g:zdE dom) (ra:CS) (e:(ae,so a,s1)):Hand room dom (upd1 so a s) (upd1 ho s a) s1:=by
 show(av,ne,s1≠s,(aj,g.no a (z▸e)),⟨Sc,Sc,aq n hx,cH n⟩)
 .unfold upd1;by_cases h1:n=a
  .ext zqS
   .rw [aN h2,h2];simp
   .ext d4 h2;constructor
    .ext NO h2
    .intro z
     show(pR,(g.iff n x h2).mpr z,e);show(bZ,(ZO.inj this).symm,hx)
  .ext d4 h1;by_cases h2:x=s
   .subst h2;ext B9 cp
    .ext zqD
    .ext NO h1
   .ext d4 h2;exact g.iff n x h2
 .ext Xq
  .ext zlN
  .exact g.rm n x hx
 .ext Xq
  .exact ne HL
  .rename_i h1
   have x1:=(g.iff n s1 ne).mp hx;rw[(g.iff a s1 ne).mp e] at x1;exact h1 (ZO.inj x1).symm
 .unfold upd1;split
  .rename_i h1
   rw[h1,<- g.dm a,e];rfl
  .exact g.dm n
theorem Hand.last {room:nX}{dom:N->Bool}{so:mJ}{ho:n8}{s:S}{a:N} (g:zdE dom) (ra:CS) (e:CL a):Mt room (upd1 so a s) (upd1 ho s a)/\∀ n,(upd1 so a s n).isSome=((dU n a)||dom n):=by
 show(dI,⟨aq n x,Sc⟩,cH n)
 .unfold upd1;by_cases h1:n=a
  .ext zqS
   .rw [aN h2,h2];simp
   .ext d4 h2;constructor
    .ext NO h2
    .intro z
     show(zcd,(g.iff n x h2).mpr z)
  .ext d4 h1;by_cases h2:x=s
   .subst h2;ext B9 cp
    .ext zqD
    .ext NO h1
   .ext d4 h2;exact g.iff n x h2
 .ext Xq
  .ext zlN
  .exact g.rm n x hx
 .unfold upd1;split
  .rename_i h1
   simp[h1]
  .rename_i h1
   rw[<- g.dm n];simp[h1]
#check _
inductive Rch {α:Type} (f:IX):bE α α
 | refl (a:α):Rch f a a
 | step {a b c:α}:K4->(ae,f b,c)->Tk
theorem Rch.trans {α:Type}{f:IX}{a b c:α} (h:K4) (g:Rch f b c):Tk:=by
 induction g with
 | refl=>exact h
 | step _ e ih=>exact .step ih e
theorem Rch.head {α:Type}{f:IX}{a b:α} (h:K4):a=b\/∃ d,(ae,f a,d)/\Rch f d b:=by
 induction h with
 | refl=>ext wP
 | step g e ih =>
  rcases ih with rfl|⟨d,e1,g1⟩
  .show(eF,cI e Ms)
  .show(eF,⟨d,e1,.step g1 e⟩)
theorem Rch.lin {α:Type}{f:IX}{a b c:α} (h:K4) (g:Tk):Rch f b c\/Rch f c b:=by
 induction h with
 | refl=>ext dR g
 | step h e ih =>
  rcases ih with z|z
  .rcases z.head with rfl|⟨d,e1,g1⟩
   .show(eF,.step (.refl _) e)
   .rw [e] at e1;cases e1;ext dR g1
  .show(eF,.step z e)
theorem Rch.det {α:Type}{f:IX}{a b c:α} (h:K4) (n1:f b=none) (g:Tk) (n2:f c=none):b=c:=by
 rcases h.lin g with z|z
 .rcases z.head with e|⟨d,e1,_⟩
  .exact e
  .ext Ak n1 e1
 .rcases z.head with e|⟨d,e1,_⟩
  .exact e.symm
  .ext Ak n2 e1
inductive KS (N S:Type) where
 | ask (crowd:uw) (asked:n8) (i j:Nat)
 | hand (so:mJ) (ho:n8) (asked:n8) (s:S)
 | out (crowd:uw)
 | fin (so:mJ) (ho:n8)
section
variable {N S:Type} [DecidableEq N] [DecidableEq S]
noncomputable def kstep (room:nX) (so:mJ) (ho:n8):KS N S->(dG (KS N S))
 | UF=>match crowd[i]? with
  | none=>some (.out crowd)
  | some a=>match uz[j]? with
   | none=>some (IL aX 0)
   | some s=>match iH with
    | some _=>some (IL i gH)
    | none=>match ho s with
     | none=>some zlD
     | some h=>some zlM
 | zdP=>match iH with
  | none=>none
  | some a=>match so1 a with
   | none=>some (.fin zej zek)
   | some l=>some zrD
 | .out _=>none
 | .fin _ _=>none
variable {room:N->List S}{so so1:N->Option S}{ho ho1 asked:S->Option N}{crowd:List N}{i j:Nat}{a h:N}{s l:S}
theorem k_end (e:crowd[i]?=none):(RG UF)=some (.out crowd):=by
 simp only[kstep,e]
theorem k_next (e:yA) (e2:uz[j]?=none):TR (IL aX 0):=by
 ext zcW
theorem k_old (e:yA) (e2:cC uz s) (e3:(ae,asked s,h)):TR (IL i gH):=by
 simp only[kstep,e,e2,e3]
theorem k_free (e:yA) (e2:cC uz s) (e3:Ic) (e4:BK):TR zlD:=by
 simp only[kstep,e,e2,e3,e4]
theorem k_grow (e:yA) (e2:cC uz s) (e3:Ic) (e4:Em):TR zlM:=by
 simp only[kstep,e,e2,e3,e4]
theorem k_hand (e:pq) (e2:(ae,so1 a,l)):ae (RG zdP) zrD:=by
 ext zcW
theorem k_fin (e:pq) (e2:so1 a=none):ae (RG zdP) (.fin zej zek):=by
 ext zcW
#check _
section
variable {α:Type} [DecidableEq α]
structure Rk (N:zw):Prop where
 mono:∀{S T:aP},(∀ x∈S,x∈T)->N S<=N T
 subm:∀{X Y U I:aP},(∀ x∈U,x∈X\/x∈Y)->(∀ x∈I,x∈X/\x∈Y)->N U+N I<=N X+N Y
noncomputable def okN (N:zw) (keep:aP) (nm:α):Bool:=(subs keep.reverse).all fun S=>cP (KD<=N (nm::S))
noncomputable def xer (N:zw) (keep:aP) (nm:α):aP:=(zpU,okN N keep nm)
noncomputable def keepN (N:zw) (ns:aP):aP:=ns.foldl (xer N) []
theorem xd3 (N:zw) (ns:aP) (nm:α):keepN N kB=xer N BR nm:=by
 unfold keepN;rw[Qe];rfl
theorem xgd {P:Ft} (h0:P []) (h1:∀ l a,P l->P (l++[a])):∀ l,P l:=fun l=>by
 rw[<- List.reverse_reverse l]
 induction l.reverse with
 | nil=>exact h0
 | cons a r ih =>
  show(aD,List.reverse_cons,h1 _ _ ih)
variable {N:List α->Nat}
theorem Rk.congr (h:Rk N) {S T:aP} (e:∀ x,x∈S↔x∈T):N S=N T:=Nat.le_antisymm (h.mono (dM,(e x).mp hx)) (h.mono (dM,(e x).mpr hx))
theorem xhc (h:Rk N) {keep:aP} (kd:keep.Nodup) {nm:α}:zeN↔(GI,x∈keep,KD,(nm::S)):=by
 unfold okN;ext B9 JE
 .intro k S nd hS
  show(ag,S',hS',p,subs_all (l:=keep.reverse) nd (dM,Y1.mpr (hS x hx)))
  show(B7,of_decide_eq_true (k S' hS'),p.length_eq);show(aD,h.congr (T:=nm::S') (mf,mh Zq Zq p.mem_iff),z)
 .intro k S hS
  show(IC,(k S (subs_nd ((zss).nodup_iff.mpr kd) hS) (dM,Y1.mp ((subs_mem hS).1 x hx))))
theorem xmn (h:Rk N) {keep:aP} (kd:keep.Nodup) {nm:α} (o:¬ zeN):∃ C:aP,C.Nodup/\(∀ x∈C,x∈keep)/\zbs:=by
 refine J6 (me,o ((xhc h kd).mpr (aI S nd hS)));refine J6 (aj,c (bL S nd hS aa))
theorem xgn (ns:aP):zsh:=by
 refine xgd (P:=fun ns=>zsh) (dM,nomatch hx) (bN l a ih x hx) ns;rw[xd3] at hx;unfold xer at hx;split at hx
 .rcases LA with hx|hx
  .exact ZH _ (ih x hx)
  .exact Z4 _ hx
 .exact ZH _ (ih x hx)
theorem keepN_nd {ns:aP} (nd:ns.Nodup):(BR).Nodup:=by
 show(Xc,ns.Nodup->(BR).Nodup,fun _=>Yf,bX l a ih nd);ext zy;rw[xd3];unfold xer;split
 .show(TM,S8,(zeo,(gD).2 x (xgn l x hx) y hy e))
 .exact ih jF
theorem xc6 {C:aP}{e:α} (he:e∈C):(C.erase e).length+1=C.length:=by
 rw[List.length_erase_of_mem he];show(cy,List.length_pos_of_mem he)
theorem xkd (h:Rk N) {ns:aP} (nd:ns.Nodup):zoo:=by
 show(Xc,ns.Nodup->zoo,fun _ S _ hS=>?_,fun l a ih nd S sn hS=>?_)
 .cases S with
  | nil=>exact ZV _
  | cons x r=>exact nomatch hS x dJ
 .rw [ZB] at nd;rw[xd3] at hS;unfold xer at hS;split at hS
  .rename_i ok
   by_cases ha:a∈S
   .have z:=(xhc h (keepN_nd jF)).mp ok (S.erase a) (sn.erase a) fun x hx=>by
     have x1:=JO hx;rcases Zv.mp (hS x x1) with y|y
     .exact y
     .rw [zB] at hx;show(bZ,hx,fun w=>((zeA sn).mp w).1 rfl)
    rw[xc6 ha] at z;exact ZK z (h.mono fun x hx=>by
     rcases zm with rfl|hx
     .exact ha
     .exact JO hx)
   .exact ih jF S sn fun x hx=>by
     rcases Zv.mp (hS x hx) with y|y
     .exact y
     .rw [zB] at hx;ext bZ hx ha
  .exact ih jF S sn hS
theorem xkh {A B:aP} (na:A.Nodup) (nb:B.Nodup):∃ U I:aP,(ay,U.Nodup,I.Nodup,U.length+I.length=A.length+B.length,(∀ x,x∈U↔x∈A\/x∈B),∀ x,x∈I↔x∈A/\x∈B):=by
 refine⟨85,A++B.filter fun x=>! R0,B.filter fun x=>R0,?_,tJ nb,?_,cH x,cH x⟩
 .rw [ZB];show(d9,na,tJ nb,bN x hx y hy e);have k:=(Zz.mp hy).2;rw[<- e] at k;simp[hx] at k
 .rw [Zr];have:∀ l:aP,(zfq (l.filter fun x=>! R0) (l.filter fun x=>R0))=l.length:=by
   intro l
   induction l with
   | nil=>rfl
   | cons a l ih =>
    by_cases c:a∈A
    .rw [Tg,ZT (b6 c),Z6,Z6];omega
    .rw [ZT (b6 c),Tg,Z6,Z6];omega
  show(cy,this B)
 .rw [Zv,Zz];by_cases c:x∈A<;>simp[c]
 .rw [Zz];by_cases c:x∈A<;>simp[c]
theorem xql (h:Rk N) {K:aP}{e nm:α}{C Ce:aP} (ok:GI xE KD (nm::S)) (ce1:Ce.Nodup) (ce2:∀ x∈Ce,xE) (ce3:zpr)
    (c1:C.Nodup) (c2:∀ x∈C,xE\/x=e) (he:e∈C) (c3:zbs) (ind:(GI,x∈C/\x≠e,KD,(e::S))):False:=by
  have a1:(C.erase e).Nodup:=c1.erase e;show(bj,a2,∀ x∈C.erase e,x∈C/\x≠e,x,hx,⟨JO hx,(aj,((zeA c1).mp hx).1 z)⟩)
  have al:=xc6 he;obtain⟨U,I,un,inn,ul,um,im⟩:85:=xkh ce1 a1;have k1:=ok U un fun x hx=>by
    rcases (um x).mp hx with y|y
    . exact ce2 x y
    . rcases c2 x (a2 x y).1 with z|z
      . exact z
      . show(bZ,z,(a2 x y).2)
  have k2:=ind I inn (dM,a2 x ((im x).mp hx).2);have sm:=h.subm (X:=e::Ce) (Y:=Dg) (U:=nm::U) (I:=e::I) (fun x hx=>by
    rcases zm with rfl|hx
    . ext eF dJ
    . rcases (um x).mp hx with y|y
      . show(dR,Zi _ y)
      . show(eF,Zi _ (a2 x y).1)) (fun x hx=>by
    rcases zm with rfl|hx
    . show(aO,dJ,Zi _ he)
    . show(aO,Zi _ ((im x).mp hx).1,Zi _ (a2 x ((im x).mp hx).2).1))
  omega
theorem xus (h:Rk N) {K:aP} (ind:GI xE S.length S) {e nm:α}{C Ce:aP} (ce1:Ce.Nodup) (ce2:∀ x∈Ce,xE) (ce3:zpr) (c1:C.Nodup) (c2:zeh) (c3:zbs) :
    ∃ U:aP,U.Nodup/\(∀ x∈U,xE)/\N (nm::e::U)<=U.length:=by
  obtain⟨U,I,un,inn,ul,um,im⟩:85:=xkh c1 ce1;show(av,uk,∀ x∈U,xE,(dM,((um x).mp hx).elim (c2 x) (ce2 x)),bL U un uk ?_);have k:=ind I inn (dM,c2 x ((im x).mp hx).1);have sm:=h.subm (X:=Dg) (Y:=e::Ce) (U:=nm::e::U) (I:=I) (fun x hx=>by
    rcases zm with rfl|hx
    . ext dR dJ
    . rcases zm with rfl|hx
      . ext eF dJ
      . exact ((um x).mp hx).imp (Zi _) (Zi _)) (dM ⟨Zi _ ((im x).mp hx).1,Zi _ ((im x).mp hx).2⟩)
  omega
structure More (N:zw) (K L:aP) (es:aP):Prop where
 le:es.length<=1
 cov:∀ x∈L,xE\/x∈es
 out:∀ e∈es,e∈L/\e∉K/\∃ C:aP,C.Nodup/\zeh/\N (e::C)<=C.length
theorem xb4 {keep:aP}{nm x:α}:x∈xer N keep nm↔x∈keep\/(x=nm/\zeN):=by
 unfold xer;split
 .rename_i ok
  simp[ok]
 .rename_i ok
  simp[ok]
theorem seat_more {N':zw}{T:zw} (h:Rk N) (h':Rk N') (e:∀ S,N' S=N S+T S) (t1:∀ S,T S<=1) (tm:∀{S R:aP},(∀ x∈S,x∈R)->T S<=T R) {ns:aP} (nd:ns.Nodup) :
    zlF/\zkz:=by
  show(Xc,ns.Nodup->zlF/\zkz,(fun _=>⟨jJ,[],iQ,jJ,jJ⟩),bX l nm ih nd);ext zy;obtain⟨sub,es,mo⟩:=S8;have nl:nm∉l:=(aj,(gD).2 nm z nm yV rfl);show(ah,kd,keepN_nd (N:=N) jF,kd',keepN_nd (N:=N') jF);show(ah,ind,xkd h jF,ind',xkd h' jF);show(ah,ks,xgn (N:=N) l,ks',xgn (N:=N') l);rw[xd3,xd3];generalize keepN N l=K at *;generalize keepN N' l=K' at *;have nk:nm∉K:=(aj,nl (ks nm z));have up:(Lf N K)->(Lf N' K'):=fun ok=>by
    rw[xhc h kd] at ok;refine J6 (cH no);show(bF,C,c1,c2,c3,xmn h' kd' no);rw[e] at c3;by_cases inK:zeh
    . show(cy,ok C c1 inK)
    . obtain⟨x,hx⟩:=Classical.not_forall.mp inK
      obtain⟨hx,hk⟩:=Classical.not_imp.mp hx;have xe:=(mo.cov x (c2 x hx)).resolve_left hk;have es1:∀ y∈es,y=x:=fun y hy=>by
        match es,mo.le,xe,hy with
        | [z],_,xe,hy=>rw[Zn.mp xe,Uh]
      obtain⟨_,_,⟨Ce,ce1,ce2,ce3⟩⟩:43:=mo.out x xe;show(bj,c2',∀ y∈C,y∈K\/y=x,y,hy,(mo.cov y (c2 y hy)).imp id (es1 y));show(ah,al,xc6 hx,t,t1 Dg);by_cases t0:T Dg=0
      . refine xql h ok ce1 ce2 ce3 c1 c2' hx aa (aI S sn hS)
        have k:=ind' (x::S) (Z5.mpr ⟨(aj,(hS x z).2 rfl),sn⟩) fun y hy=>by
          rcases FI with rfl|hy
          . exact c2 _ hx
          . exact c2 y (hS y hy).1
        rw[e,Z6] at k;have tz:=tm (S:=x::S) (R:=Dg) fun y hy=>by
          rcases FI with rfl|hy
          . exact Zi _ hx
          . exact Zi _ (hS y hy).1
        omega
      . have k:=ok (C.erase x) (c1.erase x) fun y hy=>by
          rcases c2' y (JO hy) with z|z
          . exact z
          . show(bZ,z,(aj,((zeA c1).mp hy).1 z))
        have m:=h.mono (S:=nm::C.erase x) (T:=Dg) fun y hy=>by
          rcases FI with rfl|hy
          . exact dJ
          . exact Zi _ (JO hy)
        omega
  refine eW rh
  . rcases xb4.mp hx with y|⟨rfl,ok⟩
    . exact xb4.mpr (.inl (sub x y))
    . exact xb4.mpr (.inr (bY,up ok))
  by_cases ok:Lf N K
  . refine⟨es,mo.le,rh,rg⟩
    . rcases xb4.mp hx with y|⟨rfl,_⟩
      . exact (mo.cov x y).imp (fun w=>xb4.mpr (.inl w)) id
      . show(dR,xb4.mpr (.inr (bY ok)))
    . obtain⟨a,b,⟨C,c1,c2,c3⟩⟩:43:=mo.out z hz
      show(d9,xb4.mpr (.inl a),cH w,bL C c1 (dM,xb4.mpr (.inl (c2 x hx))) c3);rcases xb4.mp w with y|⟨y,_⟩
      . exact b y
      . subst y
        exact nl (ks' _ a)
  . have eK:xer N K nm=K:=az ok
    rw[eK];show(bF,C,c1,c2,c3,xmn h kd ok);by_cases ok':Lf N' K'
    . have e0:es=[]:=by
        cases es with
        | nil=>rfl
        | cons z r =>
          exfalso;obtain⟨a,b,⟨Ce,ce1,ce2,ce3⟩⟩:43:=mo.out z dJ;show(bF,U,u1,u2,u3,xus h ind ce1 ce2 ce3 c1 c2 c3);have k:=(xhc h' kd').mp ok' (z::U) (Z5.mpr ⟨fun w=>b (u2 z w),u1⟩) fun x hx=>by
            rcases zm with rfl|hx
            . exact a
            . exact sub x (u2 x hx)
          rw[e,Z6] at k;show(cy,t1 (nm::z::U))
      subst e0;refine⟨[nm],bv,rh,rg⟩
      . rcases xb4.mp hx with y|⟨rfl,_⟩
        . exact .inl ((mo.cov x y).resolve_right fun w=>nomatch w)
        . exact .inr (Zn.mpr rfl)
      . rw[Zn.mp hz]
        show(aE,xb4.mpr (.inr (bY ok')),nk,bL C c1 c2 c3)
    . have eK':xer N' K' nm=K':=az ok'
      rw[eK'];ext aO es mo
#check _
theorem rk_tog {N S:Type} [DecidableEq N] [DecidableEq S] (room:nX) (ss:List S):Rk fun T=>zpn:=by
 have iff:∀(T:uw) (s:S),(CI T)↔∃ n∈T,IJ:=fun T s=>by
  unfold tog;ext znL
 refine⟨fun {T R} h=>?_,fun {X Y U I} hU hI=>?_⟩
 .refine List.countP_mono_left fun s _ hs=>?_;show(ag,n,hn,e,(iff T s).mp hs);exact (iff R s).mpr ⟨n,h n hn,e⟩
 .have key:∀ l:List S,(Pd U)+(Pd I)<=(Pd X)+(Pd Y):=by
   intro l
   induction l with
   | nil=>exact Zl _
   | cons s l ih =>
    rw[Qs,Qs,Qs,Qs];have a:(CI U)->(CI X)\/(CI Y):=fun z=>by
     show(ag,n,hn,e,(iff U s).mp z);rcases hU n hn with y|y
     .exact .inl ((iff X s).mpr ⟨n,y,e⟩)
     .exact .inr ((iff Y s).mpr ⟨n,y,e⟩)
    have b:(CI I)->(CI X)/\(CI Y):=fun z=>by
     show(ag,n,hn,e,(iff I s).mp z);show(aO,(iff X s).mpr ⟨n,(hI n hn).1,e⟩,(iff Y s).mpr ⟨n,(hI n hn).2,e⟩)
    cases hu:Ch U<;>cases hi:Ch I<;>cases hx:Ch X<;>cases hy:Ch Y<;>simp_all<;>omega
  exact key ss
#check Kp
namespace Geo
noncomputable def vr (v y r:Int):Prop:=VO
noncomputable def hz (b:Bool) (u x:Int):Prop:=(cu,b,u<=x,x<=u)
#check Geo
namespace S83
open PySem L2 XL
theorem hmm {j k A}(r:L2.Room true k A)(h:j<=k:=by decide):L2.Room true j A:=r.mono h
noncomputable def top (i:Nat):Stmt:=PySem.Challenge.pw_rimnotes_k83_whole_seats_that_stay.main.body.getD i (.Pass zdb)
noncomputable abbrev s_a7:Stmt:=jQ 19 0
noncomputable abbrev s_ao:Stmt:=jQ 20 1
noncomputable abbrev s_ai:Stmt:=jQ 20 2
noncomputable abbrev s_u:Stmt:=jQ 20 3
noncomputable abbrev s_ag:Stmt:=jQ 21 1
noncomputable abbrev s_ad:Stmt:=jQ 21 2
noncomputable abbrev s_p:Stmt:=jQ 21 3
noncomputable abbrev s_a6:Stmt:=top 22
noncomputable abbrev s_ba:Stmt:=top 24
noncomputable abbrev xfq:Stmt:=top 26
noncomputable abbrev xhj:Stmt:=top 27
noncomputable abbrev s_be:Stmt:=top 29
noncomputable abbrev xfp:Stmt:=top 31
noncomputable abbrev s_a0:Stmt:=top 32
noncomputable abbrev xec:Stmt:=top 33
noncomputable abbrev s_am:Stmt:=top 34
noncomputable abbrev xdj:Stmt:=top 35
noncomputable abbrev xfs:Stmt:=top 36
noncomputable abbrev s_ar:Stmt:=jQ 38 0
noncomputable abbrev s_o:Stmt:=jQ 38 1
noncomputable abbrev s_f:Stmt:=jQ 38 2
noncomputable abbrev xge:Stmt:=top 39
noncomputable abbrev xk0:Stmt:=top 40
noncomputable abbrev s_bi:Stmt:=top 41
noncomputable abbrev xgs:Stmt:=top 43
noncomputable abbrev s_ax:Stmt:=jQ 46 0
noncomputable abbrev s_ab:Stmt:=jQ 46 1
noncomputable abbrev s_z:Stmt:=jQ 46 2
noncomputable abbrev s_v:Stmt:=jQ 46 3
noncomputable abbrev s_i:Stmt:=jQ 46 4
noncomputable abbrev xhn:Stmt:=top 47
noncomputable abbrev xhz:Stmt:=top 49
noncomputable abbrev s_bb:Stmt:=top 50
noncomputable abbrev s_bh:Stmt:=qH 0
noncomputable abbrev s_g:Stmt:=qH 1
noncomputable abbrev s_bn:Stmt:=qH 2
noncomputable abbrev s_a1:Stmt:=qH 3
noncomputable abbrev s_a2:Stmt:=qH 4
noncomputable abbrev s_bj:Stmt:=qH 5
noncomputable abbrev s_av:Stmt:=qH 6
noncomputable abbrev s_ah:Stmt:=qH 7
noncomputable abbrev s_aw:Stmt:=qH 8
noncomputable abbrev s_a3:Stmt:=qH 9
noncomputable abbrev s_q:Stmt:=qH 10
noncomputable abbrev s_w:Stmt:=qH 11
noncomputable abbrev s_ay:Stmt:=top 53
noncomputable abbrev s_at:Stmt:=top 55
noncomputable abbrev s_bo:Stmt:=top 56
noncomputable abbrev s_as:Stmt:=jW 0
noncomputable abbrev s_b:Stmt:=jW 1
noncomputable abbrev s_ap:Stmt:=jW 2
noncomputable abbrev s_aq:Stmt:=jW 3
noncomputable abbrev s_j:Stmt:=jW 4
noncomputable abbrev s_r:Stmt:=jW 5
noncomputable abbrev s_h:Stmt:=jW 6
noncomputable abbrev s_n:Stmt:=jW 7
noncomputable abbrev s_m:Stmt:=jW 8
noncomputable abbrev s_aa:Stmt:=jW 9
noncomputable abbrev s_s:Stmt:=jW 10
noncomputable abbrev s_l:Stmt:=jW 11
noncomputable abbrev s_x:Stmt:=jW 12
noncomputable abbrev s_c:Stmt:=jW 15
noncomputable abbrev s_k:Stmt:=jW 16
noncomputable abbrev s_e:Stmt:=jW 17
noncomputable abbrev s_d:Stmt:=jW 18
noncomputable abbrev s_af:Stmt:=top 63
noncomputable abbrev s_ae:Stmt:=top 65
noncomputable abbrev s_bg:Stmt:=top 66
noncomputable abbrev s_bf:Stmt:=top 68
noncomputable abbrev s_az:Stmt:=top 69
noncomputable abbrev s_bl:Stmt:=top 70
noncomputable abbrev s_y:Stmt:=top 71
noncomputable abbrev s_aj:Stmt:=top 72
noncomputable abbrev s_a5:Stmt:=top 73
noncomputable abbrev s_bk:Stmt:=top 74
noncomputable abbrev s_a8:Stmt:=top 75
noncomputable abbrev s_a4:Stmt:=top 76
noncomputable abbrev s_bm:Stmt:=top 77
noncomputable abbrev s_a9:Stmt:=top 78
noncomputable abbrev s_bc:Stmt:=top 79
noncomputable abbrev s_bd:Stmt:=top 80
noncomputable abbrev xhe:Stmt:=top 81
set_option genInjectivity false in
set_option genSizeOf false in
set_option genInjectivity false in
set_option genSizeOf false in
structure Adr where
 f_a7:Addr
 d_a7:FuncData
 f_ao:Addr
 d_ao:FuncData
 f_ai:Addr
 d_ai:FuncData
 f_u:Addr
 d_u:FuncData
 f_ag:Addr
 d_ag:FuncData
 f_ad:Addr
 d_ad:FuncData
 f_p:Addr
 d_p:FuncData
 f_a6:Addr
 d_a6:FuncData
 f_ba:Addr
 d_ba:FuncData
 f_meeting:Addr
 d_meeting:FuncData
 f_total:Addr
 d_total:FuncData
 f_be:Addr
 d_be:FuncData
 f_upright:Addr
 d_upright:FuncData
 f_a0:Addr
 d_a0:FuncData
 f_exchangeable:Addr
 d_exchangeable:FuncData
 f_am:Addr
 d_am:FuncData
 f_exchanged:Addr
 d_exchanged:FuncData
 f_uncrossed:Addr
 d_uncrossed:FuncData
 f_ar:Addr
 d_ar:FuncData
 f_o:Addr
 d_o:FuncData
 f_f:Addr
 d_f:FuncData
 f_crowds:Addr
 d_crowds:FuncData
 f_fits:Addr
 d_fits:FuncData
 f_bi:Addr
 d_bi:FuncData
 f_kept:Addr
 d_kept:FuncData
 f_ax:Addr
 d_ax:FuncData
 f_ab:Addr
 d_ab:FuncData
 f_z:Addr
 d_z:FuncData
 f_v:Addr
 d_v:FuncData
 f_i:Addr
 d_i:FuncData
 f_least:Addr
 d_least:FuncData
 f_answer:Addr
 d_answer:FuncData
 f_bb:Addr
 d_bb:FuncData
 f_bh:Addr
 d_bh:FuncData
 f_g:Addr
 d_g:FuncData
 T_g:Addr
 f_bn:Addr
 d_bn:FuncData
 f_a1:Addr
 d_a1:FuncData
 f_a2:Addr
 d_a2:FuncData
 f_bj:Addr
 d_bj:FuncData
 f_av:Addr
 d_av:FuncData
 f_ah:Addr
 d_ah:FuncData
 f_aw:Addr
 d_aw:FuncData
 f_a3:Addr
 d_a3:FuncData
 f_q:Addr
 d_q:FuncData
 f_w:Addr
 d_w:FuncData
 f_ay:Addr
 d_ay:FuncData
 f_at:Addr
 d_at:FuncData
 f_bo:Addr
 d_bo:FuncData
 f_as:Addr
 d_as:FuncData
 f_b:Addr
 d_b:FuncData
 T_b:Addr
 f_ap:Addr
 d_ap:FuncData
 f_aq:Addr
 d_aq:FuncData
 f_j:Addr
 d_j:FuncData
 f_r:Addr
 d_r:FuncData
 f_h:Addr
 d_h:FuncData
 f_n:Addr
 d_n:FuncData
 f_m:Addr
 d_m:FuncData
 f_aa:Addr
 d_aa:FuncData
 f_s:Addr
 d_s:FuncData
 f_l:Addr
 d_l:FuncData
 f_x:Addr
 d_x:FuncData
 f_c:Addr
 d_c:FuncData
 f_k:Addr
 d_k:FuncData
 f_e:Addr
 d_e:FuncData
 f_d:Addr
 d_d:FuncData
 f_af:Addr
 d_af:FuncData
 f_ae:Addr
 d_ae:FuncData
 f_bg:Addr
 d_bg:FuncData
 f_bf:Addr
 d_bf:FuncData
 f_az:Addr
 d_az:FuncData
 f_bl:Addr
 d_bl:FuncData
 f_y:Addr
 d_y:FuncData
 f_aj:Addr
 d_aj:FuncData
 f_a5:Addr
 d_a5:FuncData
 f_bk:Addr
 d_bk:FuncData
 f_a8:Addr
 d_a8:FuncData
 f_a4:Addr
 d_a4:FuncData
 f_bm:Addr
 d_bm:FuncData
 f_a9:Addr
 d_a9:FuncData
 f_bc:Addr
 d_bc:FuncData
 f_bd:Addr
 d_bd:FuncData
 f_law:Addr
 d_law:FuncData
 C_b7:Addr
 C_an:Addr
 C_ac:Addr
 C_ak:Addr
 C_t:Addr
 C_au:Addr
 C_a:Addr
 D_al:Addr
structure Txt (w:World) (K:Zd) (mg:fH) (t:Adr):Prop where
 g_an:bK "LeftSide" t.C_an
 g_ac:bK "RightSide" t.C_ac
 g_ak:bK "Seating" t.C_ak
 g_t:bK "Prices" t.C_t
 g_au:bK "Hand" t.C_au
 g_a:bK "Picture" t.C_a
 F_a7:Fun K "__init__" "Side.__init__" s_a7 t.f_a7 t.d_a7
 b_a7:aV t.d_a7 OS
 F_ao:Fun K "rim" "LeftSide.rim" s_ao t.f_ao t.d_ao
 b_ao:nE t.d_ao
 F_ai:Fun K "way" "LeftSide.way" s_ai t.f_ai t.d_ai
 b_ai:nE t.d_ai
 F_u:Fun K "across" "LeftSide.across" s_u t.f_u t.d_u
 b_u:aV t.d_u yu
 F_ag:Fun K "rim" "RightSide.rim" s_ag t.f_ag t.d_ag
 b_ag:nE t.d_ag
 F_ad:Fun K "way" "RightSide.way" s_ad t.f_ad t.d_ad
 b_ad:nE t.d_ad
 F_p:Fun K "across" "RightSide.across" s_p t.f_p t.d_p
 b_p:aV t.d_p yu
 g_a6:bK "side_of" t.f_a6
 F_a6:Fun K "side_of" "side_of" s_a6 t.f_a6 t.d_a6
 b_a6:aV t.d_a6 ["word", "width"]
 g_ba:bK "cells_of" t.f_ba
 F_ba:Fun K "cells_of" "cells_of" s_ba t.f_ba t.d_ba
 b_ba:aV t.d_ba VH
 g_meeting:bK "meeting" t.f_meeting
 F_meeting:Fun K "meeting" "meeting" xfq t.f_meeting t.d_meeting
 b_meeting:aV t.d_meeting Dx
 g_total:bK "total_meets" t.f_total
 F_total:Fun K "total" "total" xhj t.f_total t.d_total
 b_total:aV t.d_total iy
 g_be:bK "is_giving" t.f_be
 F_be:Fun K "is_giving" "is_giving" s_be t.f_be t.d_be
 b_be:aV t.d_be VX
 g_upright:bK "upright" t.f_upright
 F_upright:Fun K "upright" "upright" xfp t.f_upright t.d_upright
 b_upright:aV t.d_upright iy
 g_a0:bK "upright_of" t.f_a0
 F_a0:Fun K "upright_of" "upright_of" s_a0 t.f_a0 t.d_a0
 b_a0:aV t.d_a0 zfg
 g_exchangeable:bK "exchangeable" t.f_exchangeable
 F_exchangeable:Fun K "exchangeable" "exchangeable" xec t.f_exchangeable t.d_exchangeable
 b_exchangeable:aV t.d_exchangeable iy
 g_am:bK "may_exchange" t.f_am
 F_am:Fun K "may_exchange" "may_exchange" s_am t.f_am t.d_am
 b_am:aV t.d_am Dx
 g_exchanged:bK "exchanged" t.f_exchanged
 F_exchanged:Fun K "exchanged" "exchanged" xdj t.f_exchanged t.d_exchanged
 b_exchanged:aV t.d_exchanged WA
 g_uncrossed:bK "uncrossed" t.f_uncrossed
 F_uncrossed:Fun K "uncrossed" "uncrossed" xfs t.f_uncrossed t.d_uncrossed
 b_uncrossed:aV t.d_uncrossed iy
 F_ar:Fun K "__init__" "Seating.__init__" s_ar t.f_ar t.d_ar
 b_ar:nE t.d_ar
 F_o:Fun K "hand_on" "Seating.hand_on" s_o t.f_o t.d_o
 b_o:aV t.d_o (jf "asked_by" "free_seat")
 F_f:Fun K "crowd_with" "Seating.crowd_with" s_f t.f_f t.d_f
 b_f:aV t.d_f (jf "name" "rooms")
 g_crowds:bK "crowds" t.f_crowds
 F_crowds:Fun K "crowds" "crowds" xge t.f_crowds t.d_crowds
 b_crowds:aV t.d_crowds pP
 g_fits:bK "fits" t.f_fits
 F_fits:Fun K "fits" "fits" xk0 t.f_fits t.d_fits
 b_fits:aV t.d_fits pP
 g_bi:bK "left_out_keeping" t.f_bi
 F_bi:Fun K "left_out" "left_out" s_bi t.f_bi t.d_bi
 b_bi:aV t.d_bi nY
 g_kept:bK "kept_keeping" t.f_kept
 F_kept:Fun K "kept" "kept" xgs t.f_kept t.d_kept
 b_kept:aV t.d_kept nY
 F_ax:Fun K "__init__" "Prices.__init__" s_ax t.f_ax t.d_ax
 b_ax:aV t.d_ax vb
 F_ab:Fun K "let_in" "Prices.let_in" s_ab t.f_ab t.d_ab
 b_ab:aV t.d_ab j6
 F_z:Fun K "ask_on" "Prices.ask_on" s_z t.f_z t.d_z
 b_z:zpo t.d_z
 F_v:Fun K "nearest" "Prices.nearest" s_v t.f_v t.d_v
 b_v:zpo t.d_v
 F_i:Fun K "shift_prices" "Prices.shift_prices" s_i t.f_i t.d_i
 b_i:aV t.d_i Vu
 g_least:bK "least" t.f_least
 F_least:Fun K "least" "least" xhn t.f_least t.d_least
 b_least:aV t.d_least pP
 g_answer:bK "answer" t.f_answer
 F_answer:Fun K "answer" "answer" xhz t.f_answer t.d_answer
 b_answer:aV t.d_answer nY
 g_bb:bK "is_answer" t.f_bb
 F_bb:Fun K "is_answer" "is_answer" s_bb t.f_bb t.d_bb
 b_bb:aV t.d_bb iy
 F_bh:Fun K "__init__" "Hand.__init__" s_bh t.f_bh t.d_bh
 b_bh:aV t.d_bh vb
 F_g:FunD K "come" "Hand.come" s_g t.T_g t.f_g t.d_g
 b_g:aV t.d_g ["self", "name", "x", "y", "sides", "low", "high"]
 F_bn:Fun K "go" "Hand.go" s_bn t.f_bn t.d_bn
 b_bn:aV t.d_bn j6
 F_a1:Fun K "shift" "Hand.shift" s_a1 t.f_a1 t.d_a1
 b_a1:aV t.d_a1 qL
 F_a2:Fun K "unbar" "Hand.unbar" s_a2 t.f_a2 t.d_a2
 b_a2:aV t.d_a2 pb
 F_bj:Fun K "bar" "Hand.bar" s_bj t.f_bj t.d_bj
 b_bj:aV t.d_bj pb
 F_av:Fun K "kept" "Hand.kept" s_av t.f_av t.d_av
 b_av:nE t.d_av
 F_ah:Fun K "left_out" "Hand.left_out" s_ah t.f_ah t.d_ah
 b_ah:nE t.d_ah
 F_aw:Fun K "pairs" "Hand.pairs" s_aw t.f_aw t.d_aw
 b_aw:nE t.d_aw
 F_a3:Fun K "total" "Hand.total" s_a3 t.f_a3 t.d_a3
 b_a3:nE t.d_a3
 F_q:Fun K "picture_now" "Hand.picture_now" s_q t.f_q t.d_q
 b_q:nE t.d_q
 F_w:Fun K "settled" "Hand.settled" s_w t.f_w t.d_w
 b_w:nE t.d_w
 g_ay:bK "moved_names" t.f_ay
 F_ay:Fun K "moved_names" "moved_names" s_ay t.f_ay t.d_ay
 b_ay:aV t.d_ay ["before", "now"]
 g_at:bK "is_whole" t.f_at
 F_at:Fun K "is_whole" "is_whole" s_at t.f_at t.d_at
 b_at:aV t.d_at NR
 g_bo:bK "is_name" t.f_bo
 F_bo:Fun K "is_name" "is_name" s_bo t.f_bo t.d_bo
 b_bo:aV t.d_bo Tv
 F_as:Fun K "__init__" "Picture.__init__" s_as t.f_as t.d_as
 b_as:aV t.d_as (jf "width" "height")
 F_b:FunD K "put" "Picture.put" s_b t.T_b t.f_b t.d_b
 b_b:aV t.d_b ["self", "name", "x", "y", "sides", "low", "high"]
 F_ap:Fun K "take" "Picture.take" s_ap t.f_ap t.d_ap
 b_ap:aV t.d_ap j6
 F_aq:Fun K "move" "Picture.move" s_aq t.f_aq t.d_aq
 b_aq:aV t.d_aq qL
 F_j:Fun K "open_seat" "Picture.open_seat" s_j t.f_j t.d_j
 b_j:aV t.d_j pb
 F_r:Fun K "shut_seat" "Picture.shut_seat" s_r t.f_r t.d_r
 b_r:aV t.d_r pb
 F_h:Fun K "points" "Picture.points" s_h t.f_h t.d_h
 b_h:nE t.d_h
 F_n:Fun K "seats" "Picture.seats" s_n t.f_n t.d_n
 b_n:nE t.d_n
 F_m:Fun K "place_of" "Picture.place_of" s_m t.f_m t.d_m
 b_m:aV t.d_m j6
 F_aa:Fun K "may" "Picture.may" s_aa t.f_aa t.d_aa
 b_aa:aV t.d_aa Dt
 F_s:Fun K "length" "Picture.length" s_s t.f_s t.d_s
 b_s:aV t.d_s Dt
 F_l:Fun K "seats_for" "Picture.seats_for" s_l t.f_l t.d_l
 b_l:aV t.d_l j6
 F_x:Fun K "copied" "Picture.copied" s_x t.f_x t.d_x
 b_x:nE t.d_x
 F_c:Fun K "check_name" "Picture.check_name" s_c t.f_c t.d_c
 b_c:aV t.d_c j6
 F_k:Fun K "check_cell" "Picture.check_cell" s_k t.f_k t.d_k
 b_k:aV t.d_k (jf "x" "y")
 F_e:Fun K "check_lines" "Picture.check_lines" s_e t.f_e t.d_e
 b_e:aV t.d_e qL
 F_d:Fun K "check_seat" "Picture.check_seat" s_d t.f_d t.d_d
 b_d:aV t.d_d pb
 g_af:bK "picture_with" t.f_af
 F_af:Fun K "picture_with" "picture_with" s_af t.f_af t.d_af
 b_af:aV t.d_af Vr
 g_ae:bK "_law_cell" t.f_ae
 F_ae:Fun K "_law_cell" "_law_cell" s_ae t.f_ae t.d_ae
 b_ae:aV t.d_ae ["_law_script", "_law_k"]
 g_bg:bK "_law_mix" t.f_bg
 F_bg:Fun K "_law_mix" "_law_mix" s_bg t.f_bg t.d_bg
 b_bg:aV t.d_bg ["_law_cell_here", "_law_k"]
 g_bf:bK "_law_names" t.f_bf
 F_bf:Fun K "_law_names" "_law_names" s_bf t.f_bf t.d_bf
 b_bf:aV t.d_bf ["_law_cell_here", "_law_many"]
 g_az:bK "_law_places" t.f_az
 F_az:Fun K "_law_places" "_law_places" s_az t.f_az t.d_az
 b_az:aV t.d_az U7
 g_bl:bK "_law_size" t.f_bl
 F_bl:Fun K "_law_size" "_law_size" s_bl t.f_bl t.d_bl
 b_bl:aV t.d_bl OF
 g_y:bK "_law_picture" t.f_y
 F_y:Fun K "_law_picture" "_law_picture" s_y t.f_y t.d_y
 b_y:aV t.d_y A4
 g_aj:bK "_law_lengths" t.f_aj
 F_aj:Fun K "_law_lengths" "_law_lengths" s_aj t.f_aj t.d_aj
 b_aj:aV t.d_aj Xz
 g_a5:bK "_law_giving" t.f_a5
 F_a5:Fun K "_law_giving" "_law_giving" s_a5 t.f_a5 t.d_a5
 b_a5:aV t.d_a5 U1
 g_bk:bK "_law_open" t.f_bk
 F_bk:Fun K "_law_open" "_law_open" s_bk t.f_bk t.d_bk
 b_bk:aV t.d_bk ["_law_picture_here", "_law_cell_here"]
 g_a8:bK "_law_free" t.f_a8
 F_a8:Fun K "_law_free" "_law_free" s_a8 t.f_a8 t.d_a8
 b_a8:aV t.d_a8 ["_law_picture_here", "_law_name"]
 g_a4:bK "_law_deed" t.f_a4
 F_a4:Fun K "_law_deed" "_law_deed" s_a4 t.f_a4 t.d_a4
 b_a4:aV t.d_a4 U4
 g_bm:bK "_law_done" t.f_bm
 F_bm:Fun K "_law_done" "_law_done" s_bm t.f_bm t.d_bm
 b_bm:aV t.d_bm ["_law_hand", "_law_deed_here"]
 g_a9:bK "_law_steps" t.f_a9
 F_a9:Fun K "_law_steps" "_law_steps" s_a9 t.f_a9 t.d_a9
 b_a9:aV t.d_a9 ["_law_lengths_here", "_law_pairs"]
 g_bc:bK "_law_apart" t.f_bc
 F_bc:Fun K "_law_apart" "_law_apart" s_bc t.f_bc t.d_bc
 b_bc:aV t.d_bc UZ
 g_bd:bK "_law_still" t.f_bd
 F_bd:Fun K "_law_still" "_law_still" s_bd t.f_bd t.d_bd
 b_bd:aV t.d_bd ["_law_hand", "_law_pairs"]
 g_law:bK "law" t.f_law
 F_law:Fun K "law" "law" xhe t.f_law t.d_law
 c_an:Cls K t.C_an
 k_an:Mk K t.C_an t.f_a7
 m_ao:Meth K t.C_an "rim" t.f_ao
 m_ai:Meth K t.C_an "way" t.f_ai
 m_u:Meth K t.C_an "across" t.f_u
 c_ac:Cls K t.C_ac
 k_ac:Mk K t.C_ac t.f_a7
 m_ag:Meth K t.C_ac "rim" t.f_ag
 m_ad:Meth K t.C_ac "way" t.f_ad
 m_p:Meth K t.C_ac "across" t.f_p
 c_ak:Cls K t.C_ak
 k_ak:Mk K t.C_ak t.f_ar
 m_o:Meth K t.C_ak "hand_on" t.f_o
 m_f:Meth K t.C_ak "crowd_with" t.f_f
 c_t:Cls K t.C_t
 k_t:Mk K t.C_t t.f_ax
 m_ab:Meth K t.C_t "let_in" t.f_ab
 m_z:Meth K t.C_t "ask_on" t.f_z
 m_v:Meth K t.C_t "nearest" t.f_v
 m_i:Meth K t.C_t "shift_prices" t.f_i
 c_au:Cls K t.C_au
 k_au:Mk K t.C_au t.f_bh
 m_g:qX "come" t.f_g
 m_bn:qX "go" t.f_bn
 m_a1:qX "shift" t.f_a1
 m_a2:qX "unbar" t.f_a2
 m_bj:qX "bar" t.f_bj
 m_av:qX "kept" t.f_av
 m_ah:qX "left_out" t.f_ah
 m_aw:qX "pairs" t.f_aw
 m_a3:qX "total" t.f_a3
 m_q:qX "picture_now" t.f_q
 m_w:qX "settled" t.f_w
 c_a:Cls K t.C_a
 k_a:Mk K t.C_a t.f_as
 m_b:j9 "put" t.f_b
 m_ap:j9 "take" t.f_ap
 m_aq:j9 "move" t.f_aq
 m_j:j9 "open_seat" t.f_j
 m_r:j9 "shut_seat" t.f_r
 m_h:j9 "points" t.f_h
 m_n:j9 "seats" t.f_n
 m_m:j9 "place_of" t.f_m
 m_aa:j9 "may" t.f_aa
 m_s:j9 "length" t.f_s
 m_l:j9 "seats_for" t.f_l
 m_x:j9 "copied" t.f_x
 m_c:j9 "check_name" t.f_c
 m_k:j9 "check_cell" t.f_k
 m_e:j9 "check_lines" t.f_e
 m_d:j9 "check_seat" t.f_d
 cg:Vi
 ct:UW
 n_bx:lM t.C_ac "width"
 n_bp:lM t.C_a "placed"
 n_bq:lM t.C_a "height"
 n_br:lM t.C_a "width"
 n_bu:lM t.C_a "opened"
 n_bt:lM t.C_ak "holder_of"
 n_bv:lM t.C_ak "seat_of"
 n_by:MG "lengths"
 n_b1:MG "own"
 n_b2:MG "rent"
 n_bw:MG "seating"
 n_bz:MG "picture"
 n_bs:lM t.C_au "picture"
 n_b0:lM t.C_au "given"
 n_b5:lM t.C_an "width"
 n_abs:lK "abs"
 n_all:lK "all"
 n_bool:lK "bool"
 n_dict:lK "dict"
 n_enumerate:lK "enumerate"
 n_int:lK "int"
 n_isinstance:lK "isinstance"
 n_len:lK "len"
 n_list:lK "list"
 n_min:lK "min"
 n_range:lK "range"
 n_set:lK "set"
 n_sorted:lK "sorted"
 n_str:lK "str"
 n_sum:lK "sum"
 v_b6:XM "MOST_ROWS" 16
 v_b3:XM "MOST_COLUMNS" 30
 v_b4:XM "MOST_POINTS" 12
 g_al:bK "MIRRORED_SIDES" t.D_al
 D_al:xnq w K t.D_al [MB "left" "right",MB "right" "left",MB "both" "both"]
@[elab_as_elim] theorem xxz {α:Type}{P:Ft}:GY 1 (∀ a0,P [a0])
 | [a0],_,h=>h a0
@[elab_as_elim] theorem xxg {α:Type}{P:Ft}:GY 2 (∀ a0 a1,P [a0,a1])
 | [a0,a1],_,h=>h a0 a1
@[elab_as_elim] theorem xx2 {α:Type}{P:Ft}:GY 3 (∀ a0 a1 a2,P SG)
 | SG,_,h=>h a0 a1 a2
@[elab_as_elim] theorem xx9 {α:Type}{P:Ft}:GY 4 (∀ a0 a1 a2 a3,P Rl)
 | Rl,_,h=>h a0 a1 a2 a3
@[elab_as_elim] theorem xsp {α:Type}{P:Ft}:GY 7 (∀ a0 a1 a2 a3 a4 a5 a6,P [a0,a1,a2,a3,a4,a5,a6])
 | [a0,a1,a2,a3,a4,a5,a6],_,h=>h a0 a1 a2 a3 a4 a5 a6
noncomputable def gI (K:Zd) (n:Str) (a:Addr):Prop:=(ae,QS K mainGlobals n,dN)
noncomputable def gN (K:Zd) (n:Str):Prop:=(ae,QS K mainGlobals n,none)
noncomputable def fN (K:Zd) (C:Addr) (n:Str):Prop:=lM C n
noncomputable def fI (K:Zd) (C:Addr) (n:Str) (a:Addr):Prop:=yo C n dN
noncomputable def fB (K:Zd) (C:Addr) (n:Str) (b:String):Prop:=yo C n (yw b)
theorem bi_1 {K:Zd}{x q:Str}{st:Stmt}{f:Addr}{fd:FuncData}{p0:Str} (F:Fun K x q st f fd) (h:∀(kV doc pm:Value) (an:iD) (cdv ct:Value) (a0:Value),NH (Jw x q qp lN kN .none kV doc pm an cdv ct) [a0] [p0]:=by intros; rfl):aV fd [p0]:=F.binds fun a b c d e f us hl=>xxz us hl (h a b c d e f)
theorem bi_2 {K:Zd}{x q:Str}{st:Stmt}{f:Addr}{fd:FuncData}{p0 p1:Str} (F:Fun K x q st f fd) (h:∀(kV doc pm:Value) (an:iD) (cdv ct:Value) (a0 a1:Value),NH (Jw x q qp lN kN .none kV doc pm an cdv ct) [a0,a1] [p0,p1]:=by intros; rfl):aV fd [p0,p1]:=F.binds fun a b c d e f us hl=>xxg us hl (h a b c d e f)
theorem bi_3 {K:Zd}{x q:Str}{st:Stmt}{f:Addr}{fd:FuncData}{p0 p1 p2:Str} (F:Fun K x q st f fd) (h:∀(kV doc pm:Value) (an:iD) (cdv ct:Value) (a0 a1 a2:Value),NH (Jw x q qp lN kN .none kV doc pm an cdv ct) SG [p0,p1,p2]:=by intros; rfl):aV fd [p0,p1,p2]:=F.binds fun a b c d e f us hl=>xx2 us hl (h a b c d e f)
theorem bi_4 {K:Zd}{x q:Str}{st:Stmt}{f:Addr}{fd:FuncData}{p0 p1 p2 p3:Str} (F:Fun K x q st f fd) (h:∀(kV doc pm:Value) (an:iD) (cdv ct:Value) (a0 a1 a2 a3:Value),NH (Jw x q qp lN kN .none kV doc pm an cdv ct) Rl [p0,p1,p2,p3]:=by intros; rfl):aV fd [p0,p1,p2,p3]:=F.binds fun a b c d e f us hl=>xx9 us hl (h a b c d e f)
theorem txt_mk {w:World}{K:Zd}{h:Heap}{mg:fH} (X:K.In h) (G:h.Ns mainGlobals mg) {C_b7 C_an C_ac C_ak C_t C_au C_a f_a7 f_ao f_ai f_u f_ag f_ad f_p f_a6 f_ba f_meeting f_total f_be f_upright f_a0 f_exchangeable f_am f_exchanged f_uncrossed f_ar f_o f_f f_crowds f_fits f_bi f_kept f_ax f_ab f_z f_v f_i f_least f_answer f_bb f_bh f_g T_g f_bn f_a1 f_a2 f_bj f_av f_ah f_aw f_a3 f_q f_w f_ay f_at f_bo f_as f_b T_b f_ap f_aq f_j f_r f_h f_n f_m f_aa f_s f_l f_x f_c f_k f_e f_d f_af f_ae f_bg f_bf f_az f_bl f_y f_aj f_a5 f_bk f_a8 f_a4 f_bm f_a9 f_bc f_bd f_law:Addr}{d_a7 d_ao d_ai d_u d_ag d_ad d_p d_a6 d_ba d_meeting d_total d_be d_upright d_a0 d_exchangeable d_am d_exchanged d_uncrossed d_ar d_o d_f d_crowds d_fits d_bi d_kept d_ax d_ab d_z d_v d_i d_least d_answer d_bb d_bh d_bn d_a1 d_a2 d_bj d_av d_ah d_aw d_a3 d_q d_w d_ay d_at d_bo d_as d_ap d_aq d_j d_r d_h d_n d_m d_aa d_s d_l d_x d_c d_k d_e d_d d_af d_ae d_bg d_bf d_az d_bl d_y d_aj d_a5 d_bk d_a8 d_a4 d_bm d_a9 d_bc d_bd d_law:FuncData}{oc_g kv_g dc_g pm_g cd_g ct_g:Value}{od_g an_g:iD}{sl_g:uZ}{oc_b kv_b dc_b pm_b cd_b ct_b:Value}{od_b an_b:iD}{sl_b:uZ}{tk0_g:Tok}{tk1_g:Tok}{tk0_b:Tok}{tk1_b:Tok}{toc_g:Value}{tod_g:iD}{tn_g:Nat}{tsl_g:uZ}{toc_b:Value}{tod_b:iD}{tn_b:Nat}{tsl_b:uZ}{tkc_b6:Tok}{tkc_b3:Tok}{tkc_b4:Tok}{D_al:Addr}{ta0_al tb0_al:Tok}{ta1_al tb1_al:Tok}{ta2_al tb2_al:Tok}{ep_al:Nat}
    (g_b7:gI K "Side" C_b7)
    (g_an:gI K "LeftSide" C_an)
    (g_ac:gI K "RightSide" C_ac)
    (g_ak:gI K "Seating" C_ak)
    (g_t:gI K "Prices" C_t)
    (g_au:gI K "Hand" C_au)
    (g_a:gI K "Picture" C_a)
    (a_a7:fI K C_b7 "__init__" f_a7)
    (F_a7:Fun K "__init__" "Side.__init__" s_a7 f_a7 d_a7)
    (i_a7:bJ f_a7)
    (a_ao:fI K C_an "rim" f_ao)
    (F_ao:Fun K "rim" "LeftSide.rim" s_ao f_ao d_ao)
    (i_ao:bJ f_ao)
    (a_ai:fI K C_an "way" f_ai)
    (F_ai:Fun K "way" "LeftSide.way" s_ai f_ai d_ai)
    (i_ai:bJ f_ai)
    (a_u:fI K C_an "across" f_u)
    (F_u:Fun K "across" "LeftSide.across" s_u f_u d_u)
    (i_u:bJ f_u)
    (a_ag:fI K C_ac "rim" f_ag)
    (F_ag:Fun K "rim" "RightSide.rim" s_ag f_ag d_ag)
    (i_ag:bJ f_ag)
    (a_ad:fI K C_ac "way" f_ad)
    (F_ad:Fun K "way" "RightSide.way" s_ad f_ad d_ad)
    (i_ad:bJ f_ad)
    (a_p:fI K C_ac "across" f_p)
    (F_p:Fun K "across" "RightSide.across" s_p f_p d_p)
    (i_p:bJ f_p)
    (a_a6:gI K "side_of" f_a6)
    (F_a6:Fun K "side_of" "side_of" s_a6 f_a6 d_a6)
    (a_ba:gI K "cells_of" f_ba)
    (F_ba:Fun K "cells_of" "cells_of" s_ba f_ba d_ba)
    (a_meeting:gI K "meeting" f_meeting)
    (F_meeting:Fun K "meeting" "meeting" xfq f_meeting d_meeting)
    (a_total:gI K "total_meets" f_total)
    (F_total:Fun K "total" "total" xhj f_total d_total)
    (a_be:gI K "is_giving" f_be)
    (F_be:Fun K "is_giving" "is_giving" s_be f_be d_be)
    (a_upright:gI K "upright" f_upright)
    (F_upright:Fun K "upright" "upright" xfp f_upright d_upright)
    (a_a0:gI K "upright_of" f_a0)
    (F_a0:Fun K "upright_of" "upright_of" s_a0 f_a0 d_a0)
    (a_exchangeable:gI K "exchangeable" f_exchangeable)
    (F_exchangeable:Fun K "exchangeable" "exchangeable" xec f_exchangeable d_exchangeable)
    (a_am:gI K "may_exchange" f_am)
    (F_am:Fun K "may_exchange" "may_exchange" s_am f_am d_am)
    (a_exchanged:gI K "exchanged" f_exchanged)
    (F_exchanged:Fun K "exchanged" "exchanged" xdj f_exchanged d_exchanged)
    (a_uncrossed:gI K "uncrossed" f_uncrossed)
    (F_uncrossed:Fun K "uncrossed" "uncrossed" xfs f_uncrossed d_uncrossed)
    (a_ar:fI K C_ak "__init__" f_ar)
    (F_ar:Fun K "__init__" "Seating.__init__" s_ar f_ar d_ar)
    (i_ar:bJ f_ar)
    (a_o:fI K C_ak "hand_on" f_o)
    (F_o:Fun K "hand_on" "Seating.hand_on" s_o f_o d_o)
    (i_o:bJ f_o)
    (a_f:fI K C_ak "crowd_with" f_f)
    (F_f:Fun K "crowd_with" "Seating.crowd_with" s_f f_f d_f)
    (i_f:bJ f_f)
    (a_crowds:gI K "crowds" f_crowds)
    (F_crowds:Fun K "crowds" "crowds" xge f_crowds d_crowds)
    (a_fits:gI K "fits" f_fits)
    (F_fits:Fun K "fits" "fits" xk0 f_fits d_fits)
    (a_bi:gI K "left_out_keeping" f_bi)
    (F_bi:Fun K "left_out" "left_out" s_bi f_bi d_bi)
    (a_kept:gI K "kept_keeping" f_kept)
    (F_kept:Fun K "kept" "kept" xgs f_kept d_kept)
    (a_ax:fI K C_t "__init__" f_ax)
    (F_ax:Fun K "__init__" "Prices.__init__" s_ax f_ax d_ax)
    (i_ax:bJ f_ax)
    (a_ab:fI K C_t "let_in" f_ab)
    (F_ab:Fun K "let_in" "Prices.let_in" s_ab f_ab d_ab)
    (i_ab:bJ f_ab)
    (a_z:fI K C_t "ask_on" f_z)
    (F_z:Fun K "ask_on" "Prices.ask_on" s_z f_z d_z)
    (i_z:bJ f_z)
    (a_v:fI K C_t "nearest" f_v)
    (F_v:Fun K "nearest" "Prices.nearest" s_v f_v d_v)
    (i_v:bJ f_v)
    (a_i:fI K C_t "shift_prices" f_i)
    (F_i:Fun K "shift_prices" "Prices.shift_prices" s_i f_i d_i)
    (i_i:bJ f_i)
    (a_least:gI K "least" f_least)
    (F_least:Fun K "least" "least" xhn f_least d_least)
    (a_answer:gI K "answer" f_answer)
    (F_answer:Fun K "answer" "answer" xhz f_answer d_answer)
    (a_bb:gI K "is_answer" f_bb)
    (F_bb:Fun K "is_answer" "is_answer" s_bb f_bb d_bb)
    (a_bh:qo "__init__" f_bh)
    (F_bh:Fun K "__init__" "Hand.__init__" s_bh f_bh d_bh)
    (i_bh:bJ f_bh)
    (a_g:qo "come" f_g)
    (l_g:(AT,f_g,oc_g,od_g,.func (Jw "come" "Hand.come" (xca s_g) (xbv s_g) (xm s_g) (.ref T_g) kv_g dc_g pm_g an_g cd_g ct_g),sl_g))
    (c_g:YJ K cd_g "Hand.come"=true)
    (k_g:mr f_g)
    (i_g:bJ f_g)
    (t_g:(AT,T_g,toc_g,tod_g,zrB tk0_g tk1_g tn_g,tsl_g))
    (a_bn:qo "go" f_bn)
    (F_bn:Fun K "go" "Hand.go" s_bn f_bn d_bn)
    (i_bn:bJ f_bn)
    (a_a1:qo "shift" f_a1)
    (F_a1:Fun K "shift" "Hand.shift" s_a1 f_a1 d_a1)
    (i_a1:bJ f_a1)
    (a_a2:qo "unbar" f_a2)
    (F_a2:Fun K "unbar" "Hand.unbar" s_a2 f_a2 d_a2)
    (i_a2:bJ f_a2)
    (a_bj:qo "bar" f_bj)
    (F_bj:Fun K "bar" "Hand.bar" s_bj f_bj d_bj)
    (i_bj:bJ f_bj)
    (a_av:qo "kept" f_av)
    (F_av:Fun K "kept" "Hand.kept" s_av f_av d_av)
    (i_av:bJ f_av)
    (a_ah:qo "left_out" f_ah)
    (F_ah:Fun K "left_out" "Hand.left_out" s_ah f_ah d_ah)
    (i_ah:bJ f_ah)
    (a_aw:qo "pairs" f_aw)
    (F_aw:Fun K "pairs" "Hand.pairs" s_aw f_aw d_aw)
    (i_aw:bJ f_aw)
    (a_a3:qo "total" f_a3)
    (F_a3:Fun K "total" "Hand.total" s_a3 f_a3 d_a3)
    (i_a3:bJ f_a3)
    (a_q:qo "picture_now" f_q)
    (F_q:Fun K "picture_now" "Hand.picture_now" s_q f_q d_q)
    (i_q:bJ f_q)
    (a_w:qo "settled" f_w)
    (F_w:Fun K "settled" "Hand.settled" s_w f_w d_w)
    (i_w:bJ f_w)
    (a_ay:gI K "moved_names" f_ay)
    (F_ay:Fun K "moved_names" "moved_names" s_ay f_ay d_ay)
    (a_at:gI K "is_whole" f_at)
    (F_at:Fun K "is_whole" "is_whole" s_at f_at d_at)
    (a_bo:gI K "is_name" f_bo)
    (F_bo:Fun K "is_name" "is_name" s_bo f_bo d_bo)
    (a_as:jU "__init__" f_as)
    (F_as:Fun K "__init__" "Picture.__init__" s_as f_as d_as)
    (i_as:bJ f_as)
    (a_b:jU "put" f_b)
    (l_b:(AT,f_b,oc_b,od_b,.func (Jw "put" "Picture.put" (xca s_b) (xbv s_b) (xm s_b) (.ref T_b) kv_b dc_b pm_b an_b cd_b ct_b),sl_b))
    (c_b:YJ K cd_b "Picture.put"=true)
    (k_b:mr f_b)
    (i_b:bJ f_b)
    (t_b:(AT,T_b,toc_b,tod_b,zrB tk0_b tk1_b tn_b,tsl_b))
    (a_ap:jU "take" f_ap)
    (F_ap:Fun K "take" "Picture.take" s_ap f_ap d_ap)
    (i_ap:bJ f_ap)
    (a_aq:jU "move" f_aq)
    (F_aq:Fun K "move" "Picture.move" s_aq f_aq d_aq)
    (i_aq:bJ f_aq)
    (a_j:jU "open_seat" f_j)
    (F_j:Fun K "open_seat" "Picture.open_seat" s_j f_j d_j)
    (i_j:bJ f_j)
    (a_r:jU "shut_seat" f_r)
    (F_r:Fun K "shut_seat" "Picture.shut_seat" s_r f_r d_r)
    (i_r:bJ f_r)
    (a_h:jU "points" f_h)
    (F_h:Fun K "points" "Picture.points" s_h f_h d_h)
    (i_h:bJ f_h)
    (a_n:jU "seats" f_n)
    (F_n:Fun K "seats" "Picture.seats" s_n f_n d_n)
    (i_n:bJ f_n)
    (a_m:jU "place_of" f_m)
    (F_m:Fun K "place_of" "Picture.place_of" s_m f_m d_m)
    (i_m:bJ f_m)
    (a_aa:jU "may" f_aa)
    (F_aa:Fun K "may" "Picture.may" s_aa f_aa d_aa)
    (i_aa:bJ f_aa)
    (a_s:jU "length" f_s)
    (F_s:Fun K "length" "Picture.length" s_s f_s d_s)
    (i_s:bJ f_s)
    (a_l:jU "seats_for" f_l)
    (F_l:Fun K "seats_for" "Picture.seats_for" s_l f_l d_l)
    (i_l:bJ f_l)
    (a_x:jU "copied" f_x)
    (F_x:Fun K "copied" "Picture.copied" s_x f_x d_x)
    (i_x:bJ f_x)
    (a_c:jU "check_name" f_c)
    (F_c:Fun K "check_name" "Picture.check_name" s_c f_c d_c)
    (i_c:bJ f_c)
    (a_k:jU "check_cell" f_k)
    (F_k:Fun K "check_cell" "Picture.check_cell" s_k f_k d_k)
    (i_k:bJ f_k)
    (a_e:jU "check_lines" f_e)
    (F_e:Fun K "check_lines" "Picture.check_lines" s_e f_e d_e)
    (i_e:bJ f_e)
    (a_d:jU "check_seat" f_d)
    (F_d:Fun K "check_seat" "Picture.check_seat" s_d f_d d_d)
    (i_d:bJ f_d)
    (a_af:gI K "picture_with" f_af)
    (F_af:Fun K "picture_with" "picture_with" s_af f_af d_af)
    (a_ae:gI K "_law_cell" f_ae)
    (F_ae:Fun K "_law_cell" "_law_cell" s_ae f_ae d_ae)
    (a_bg:gI K "_law_mix" f_bg)
    (F_bg:Fun K "_law_mix" "_law_mix" s_bg f_bg d_bg)
    (a_bf:gI K "_law_names" f_bf)
    (F_bf:Fun K "_law_names" "_law_names" s_bf f_bf d_bf)
    (a_az:gI K "_law_places" f_az)
    (F_az:Fun K "_law_places" "_law_places" s_az f_az d_az)
    (a_bl:gI K "_law_size" f_bl)
    (F_bl:Fun K "_law_size" "_law_size" s_bl f_bl d_bl)
    (a_y:gI K "_law_picture" f_y)
    (F_y:Fun K "_law_picture" "_law_picture" s_y f_y d_y)
    (a_aj:gI K "_law_lengths" f_aj)
    (F_aj:Fun K "_law_lengths" "_law_lengths" s_aj f_aj d_aj)
    (a_a5:gI K "_law_giving" f_a5)
    (F_a5:Fun K "_law_giving" "_law_giving" s_a5 f_a5 d_a5)
    (a_bk:gI K "_law_open" f_bk)
    (F_bk:Fun K "_law_open" "_law_open" s_bk f_bk d_bk)
    (a_a8:gI K "_law_free" f_a8)
    (F_a8:Fun K "_law_free" "_law_free" s_a8 f_a8 d_a8)
    (a_a4:gI K "_law_deed" f_a4)
    (F_a4:Fun K "_law_deed" "_law_deed" s_a4 f_a4 d_a4)
    (a_bm:gI K "_law_done" f_bm)
    (F_bm:Fun K "_law_done" "_law_done" s_bm f_bm d_bm)
    (a_a9:gI K "_law_steps" f_a9)
    (F_a9:Fun K "_law_steps" "_law_steps" s_a9 f_a9 d_a9)
    (a_bc:gI K "_law_apart" f_bc)
    (F_bc:Fun K "_law_apart" "_law_apart" s_bc f_bc d_bc)
    (a_bd:gI K "_law_still" f_bd)
    (F_bd:Fun K "_law_still" "_law_still" s_bd f_bd d_bd)
    (a_law:gI K "law" f_law)
    (F_law:Fun K "law" "law" xhe f_law d_law)
    (kc_an:mr C_an)
    (pg_an:BC C_an)
    (hd_an:wj C_an)
    (po_an:zg C_an)
    (sa_an:Dn C_an)
    (mk_an:zf C_an)
    (a_LeftSide_init:fI K C_an "__init__" f_a7)
    (kc_ac:mr C_ac)
    (pg_ac:BC C_ac)
    (hd_ac:wj C_ac)
    (po_ac:zg C_ac)
    (sa_ac:Dn C_ac)
    (mk_ac:zf C_ac)
    (a_RightSide_init:fI K C_ac "__init__" f_a7)
    (kc_ak:mr C_ak)
    (pg_ak:BC C_ak)
    (hd_ak:wj C_ak)
    (po_ak:zg C_ak)
    (sa_ak:Dn C_ak)
    (mk_ak:zf C_ak)
    (kc_t:mr C_t)
    (pg_t:BC C_t)
    (hd_t:wj C_t)
    (po_t:zg C_t)
    (sa_t:Dn C_t)
    (mk_t:zf C_t)
    (kc_au:mr C_au)
    (pg_au:BC C_au)
    (hd_au:wj C_au)
    (po_au:zg C_au)
    (sa_au:Dn C_au)
    (mk_au:zf C_au)
    (kc_a:mr C_a)
    (pg_a:BC C_a)
    (hd_a:wj C_a)
    (po_a:zg C_a)
    (sa_a:Dn C_a)
    (mk_a:zf C_a)
    (cg:Vi)
    (ct:UW)
    (n_bx:fN K C_ac "width")
    (n_bp:fN K C_a "placed")
    (n_bq:fN K C_a "height")
    (n_br:fN K C_a "width")
    (n_bu:fN K C_a "opened")
    (n_bt:fN K C_ak "holder_of")
    (n_bv:fN K C_ak "seat_of")
    (n_by:fN K C_t "lengths")
    (n_b1:fN K C_t "own")
    (n_b2:fN K C_t "rent")
    (n_bw:fN K C_t "seating")
    (n_bz:fN K C_t "picture")
    (n_bs:fN K C_au "picture")
    (n_b0:fN K C_au "given")
    (n_b5:fN K C_an "width")
    (n_abs:gN K "abs")
    (n_all:gN K "all")
    (n_bool:gN K "bool")
    (n_dict:gN K "dict")
    (n_enumerate:gN K "enumerate")
    (n_int:gN K "int")
    (n_isinstance:gN K "isinstance")
    (n_len:gN K "len")
    (n_list:gN K "list")
    (n_min:gN K "min")
    (n_range:gN K "range")
    (n_set:gN K "set")
    (n_sorted:gN K "sorted")
    (n_str:gN K "str")
    (n_sum:gN K "sum")
    (v_b6:Xb "MOST_ROWS" 16 tkc_b6)
    (v_b3:Xb "MOST_COLUMNS" 30 tkc_b3)
    (v_b4:Xb "MOST_POINTS" 12 tkc_b4)
    (g_al:gI K "MIRRORED_SIDES" D_al)
    (l_al:(AT,D_al,zeg,none,.dict #[⟨hashStr w "left",.str "left" ta0_al,.str "right" tb0_al⟩,⟨hashStr w "right",.str "right" ta1_al,.str "left" tb1_al⟩,⟨hashStr w "both",.str "both" ta2_al,.str "both" tb2_al⟩] ep_al,#[]))
    (ns_al:Bs D_al):∃ t,aL :=
  ⟨⟨f_a7,_,f_ao,_,f_ai,_,f_u,_,f_ag,_,f_ad,_,f_p,_,f_a6,_,f_ba,_,f_meeting,_,f_total,_,f_be,_,f_upright,_,f_a0,_,f_exchangeable,_,f_am,_,f_exchanged,_,f_uncrossed,_,f_ar,_,f_o,_,f_f,_,f_crowds,_,f_fits,_,f_bi,_,f_kept,_,f_ax,_,f_ab,_,f_z,_,f_v,_,f_i,_,f_least,_,f_answer,_,f_bb,_,f_bh,_,f_g,_,T_g,f_bn,_,f_a1,_,f_a2,_,f_bj,_,f_av,_,f_ah,_,f_aw,_,f_a3,_,f_q,_,f_w,_,f_ay,_,f_at,_,f_bo,_,f_as,_,f_b,_,T_b,f_ap,_,f_aq,_,f_j,_,f_r,_,f_h,_,f_n,_,f_m,_,f_aa,_,f_s,_,f_l,_,f_x,_,f_c,_,f_k,_,f_e,_,f_d,_,f_af,_,f_ae,_,f_bg,_,f_bf,_,f_az,_,f_bl,_,f_y,_,f_aj,_,f_a5,_,f_bk,_,f_a8,_,f_a4,_,f_bm,_,f_a9,_,f_bc,_,f_bd,_,f_law,_,C_b7,C_an,C_ac,C_ak,C_t,C_au,C_a,D_al⟩,⟨bI g_an,bI g_ac,bI g_ak,bI g_t,bI g_au,bI g_a,F_a7,bi_2 F_a7,F_ao,bi_1 F_ao,F_ai,bi_1 F_ai,F_u,bi_2 F_u,F_ag,bi_1 F_ag,F_ad,bi_1 F_ad,F_p,bi_2 F_p,bI a_a6,F_a6,bi_2 F_a6,bI a_ba,F_ba,bi_4 F_ba,bI a_meeting,F_meeting,bi_3 F_meeting,bI a_total,F_total,bi_2 F_total,bI a_be,F_be,bi_3 F_be,bI a_upright,F_upright,bi_2 F_upright,bI a_a0,F_a0,bi_2 F_a0,bI a_exchangeable,F_exchangeable,bi_2 F_exchangeable,bI a_am,F_am,bi_3 F_am,bI a_exchanged,F_exchanged,bi_3 F_exchanged,bI a_uncrossed,F_uncrossed,bi_2 F_uncrossed,F_ar,bi_1 F_ar,F_o,bi_3 F_o,F_f,bi_3 F_f,bI a_crowds,F_crowds,bi_2 F_crowds,bI a_fits,F_fits,bi_2 F_fits,bI a_bi,F_bi,bi_1 F_bi,bI a_kept,F_kept,bi_1 F_kept,F_ax,bi_2 F_ax,F_ab,bi_2 F_ab,F_z,bi_3 F_z,F_v,bi_3 F_v,F_i,bi_4 F_i,bI a_least,F_least,bi_2 F_least,bI a_answer,F_answer,bi_1 F_answer,bI a_bb,F_bb,bi_2 F_bb,F_bh,bi_2 F_bh,zns,(zns).binds t_g rfl 7 rfl zhn,F_bn,bi_2 F_bn,F_a1,bi_4 F_a1,F_a2,bi_3 F_a2,F_bj,bi_3 F_bj,F_av,bi_1 F_av,F_ah,bi_1 F_ah,F_aw,bi_1 F_aw,F_a3,bi_1 F_a3,F_q,bi_1 F_q,F_w,bi_1 F_w,bI a_ay,F_ay,bi_2 F_ay,bI a_at,F_at,bi_3 F_at,bI a_bo,F_bo,bi_1 F_bo,F_as,bi_3 F_as,znr,(znr).binds t_b rfl 7 rfl zhn,F_ap,bi_2 F_ap,F_aq,bi_4 F_aq,F_j,bi_3 F_j,F_r,bi_3 F_r,F_h,bi_1 F_h,F_n,bi_1 F_n,F_m,bi_2 F_m,F_aa,bi_4 F_aa,F_s,bi_4 F_s,F_l,bi_2 F_l,F_x,bi_1 F_x,F_c,bi_2 F_c,F_k,bi_3 F_k,F_e,bi_4 F_e,F_d,bi_3 F_d,bI a_af,F_af,bi_4 F_af,bI a_ae,F_ae,bi_2 F_ae,bI a_bg,F_bg,bi_2 F_bg,bI a_bf,F_bf,bi_2 F_bf,bI a_az,F_az,bi_3 F_az,bI a_bl,F_bl,bi_1 F_bl,bI a_y,F_y,bi_1 F_y,bI a_aj,F_aj,bi_1 F_aj,bI a_a5,F_a5,bi_3 F_a5,bI a_bk,F_bk,bi_2 F_bk,bI a_a8,F_a8,bi_2 F_a8,bI a_a4,F_a4,bi_3 F_a4,bI a_bm,F_bm,bi_2 F_bm,bI a_a9,F_a9,bi_2 F_a9,bI a_bc,F_bc,bi_3 F_bc,bI a_bd,F_bd,bi_2 F_bd,bI a_law,F_law,⟨pg_an,hd_an,po_an,sa_an⟩,⟨mk_an,a_LeftSide_init,i_a7,kc_an⟩,⟨a_ao,i_ao,F_ao.kp⟩,⟨a_ai,i_ai,F_ai.kp⟩,⟨a_u,i_u,F_u.kp⟩,⟨pg_ac,hd_ac,po_ac,sa_ac⟩,⟨mk_ac,a_RightSide_init,i_a7,kc_ac⟩,⟨a_ag,i_ag,F_ag.kp⟩,⟨a_ad,i_ad,F_ad.kp⟩,⟨a_p,i_p,F_p.kp⟩,⟨pg_ak,hd_ak,po_ak,sa_ak⟩,⟨mk_ak,a_ar,i_ar,kc_ak⟩,⟨a_o,i_o,F_o.kp⟩,⟨a_f,i_f,F_f.kp⟩,⟨pg_t,hd_t,po_t,sa_t⟩,⟨mk_t,a_ax,i_ax,kc_t⟩,⟨a_ab,i_ab,F_ab.kp⟩,⟨a_z,i_z,F_z.kp⟩,⟨a_v,i_v,F_v.kp⟩,⟨a_i,i_i,F_i.kp⟩,⟨pg_au,hd_au,po_au,sa_au⟩,⟨mk_au,a_bh,i_bh,kc_au⟩,⟨a_g,i_g,k_g⟩,⟨a_bn,i_bn,F_bn.kp⟩,⟨a_a1,i_a1,F_a1.kp⟩,⟨a_a2,i_a2,F_a2.kp⟩,⟨a_bj,i_bj,F_bj.kp⟩,⟨a_av,i_av,F_av.kp⟩,⟨a_ah,i_ah,F_ah.kp⟩,⟨a_aw,i_aw,F_aw.kp⟩,⟨a_a3,i_a3,F_a3.kp⟩,⟨a_q,i_q,F_q.kp⟩,⟨a_w,i_w,F_w.kp⟩,⟨pg_a,hd_a,po_a,sa_a⟩,⟨mk_a,a_as,i_as,kc_a⟩,⟨a_b,i_b,k_b⟩,⟨a_ap,i_ap,F_ap.kp⟩,⟨a_aq,i_aq,F_aq.kp⟩,⟨a_j,i_j,F_j.kp⟩,⟨a_r,i_r,F_r.kp⟩,⟨a_h,i_h,F_h.kp⟩,⟨a_n,i_n,F_n.kp⟩,⟨a_m,i_m,F_m.kp⟩,⟨a_aa,i_aa,F_aa.kp⟩,⟨a_s,i_s,F_s.kp⟩,⟨a_l,i_l,F_l.kp⟩,⟨a_x,i_x,F_x.kp⟩,⟨a_c,i_c,F_c.kp⟩,⟨a_k,i_k,F_k.kp⟩,⟨a_e,i_e,F_e.kp⟩,⟨a_d,i_d,F_d.kp⟩,cg,ct,n_bx,n_bp,n_bq,n_br,n_bu,n_bt,n_bv,n_by,n_b1,n_b2,n_bw,n_bz,n_bs,n_b0,n_b5,l9 n_abs,l9 n_all,l9 n_bool,l9 n_dict,l9 n_enumerate,l9 n_int,l9 n_isinstance,l9 n_len,l9 n_list,l9 n_min,l9 n_range,l9 n_set,l9 n_sorted,l9 n_str,l9 n_sum,(eE,bI v_b6),(eE,bI v_b3),(eE,bI v_b4),bI g_al,(fb,ns_al,_,l_al,zfy (zfy (zfy (.nil))),au)⟩⟩
theorem mkS {N P:am}{sc:Scope} (a:sc.kind=.function:=by rfl) (b:zrj:=by rfl) (c:zri:=by rfl) (d:N.Nodup:=by ext Ln) (e:zrK:=by rfl) (f:∀ x∈P,(Nr GR):=by ext Ln) (g:zkV:=by ext Ln):xt N P sc:=⟨a,b,c,d,e,f,g⟩
theorem sc_a7:bi OS OS s_a7:=mkS
theorem sc_ao:oA s_ao:=mkS
theorem sc_ai:oA s_ai:=mkS
theorem sc_u:bi yu yu s_u:=mkS
theorem sc_ag:oA s_ag:=mkS
theorem sc_ad:oA s_ad:=mkS
theorem sc_p:bi yu yu s_p:=mkS
theorem sc_a6:bi ["word", "width"] ["word", "width"] s_a6:=mkS
theorem sc_ba:bi ["picture", "name", "side", "row", "x", "y", "toward", "down", "upright", "level"] VH s_ba:=mkS
theorem xcc:bi ["picture", "one", "other", "name", "side", "row", "theirs", "cell"] Dx xfq:=mkS
theorem xr8:bi iy iy xhj:=mkS
theorem sc_be:bi M4 VX s_be:=mkS
theorem xn6:bi iy iy xfp:=mkS
theorem sc_a0:bi ["picture", "pair", "name", "side", "row", "x", "y"] zfg s_a0:=mkS
theorem xcl:bi (zbT "number" "one" "other" "cell") iy xec:=mkS
theorem sc_am:bi ["picture", "one", "other", "name", "side", "row", "other_name", "other_side", "other_row"] Dx s_am:=mkS
theorem xe2:bi Vc WA xdj:=mkS
theorem xb1:bi ["picture", "pairs", "now", "steps", "found", "name", "other", "cell"] iy xfs:=mkS
theorem sc_ar:oA s_ar:=mkS
theorem sc_o:bi ["self", "asked_by", "free_seat", "seat", "name", "left_behind"] (jf "asked_by" "free_seat") s_o:=mkS
theorem sc_f:bi ["self", "name", "rooms", "crowd", "asked_by", "number", "asker", "seat"] (jf "name" "rooms") s_f:=mkS
theorem xdv:bi ["picture", "names", "rooms", "seating", "found", "name", "crowd"] pP xge:=mkS
theorem xmr:bi ["picture", "names", "found"] pP xk0:=mkS
theorem sc_bi:bi pP nY s_bi:=mkS
theorem xms:bi (BX "out") nY xgs:=mkS
theorem sc_ax:bi vb vb s_ax:=mkS
theorem sc_ab:bi zil j6 s_ab:=mkS
theorem sc_z:zrQ zhv s_z:=mkS
theorem sc_v:zrQ ["self", "askers", "asked_by", "found", "asker", "seat", "length", "gap"] s_v:=mkS
theorem sc_i:bi zhv Vu s_i:=mkS
theorem xf4:bi zhl pP xhn:=mkS
theorem xdp:bi (zbT "own" "rent" "apart" "steps") nY xhz:=mkS
theorem sc_bb:bi (zbT "names" "shortest" "own" "rent") iy s_bb:=mkS
theorem sc_bh:bi vb vb s_bh:=mkS
theorem sc_g:bi ["self", "name", "x", "y", "sides", "low", "high"] ["self", "name", "x", "y", "sides", "low", "high"] s_g:=mkS
theorem sc_bn:ME s_bn:=mkS
theorem sc_a1:bi qL qL s_a1:=mkS
theorem sc_a2:MD s_a2:=mkS
theorem sc_bj:MD s_bj:=mkS
theorem sc_av:oA s_av:=mkS
theorem sc_ah:oA s_ah:=mkS
theorem sc_aw:oA s_aw:=mkS
theorem sc_a3:oA s_a3:=mkS
theorem sc_q:oA s_q:=mkS
theorem sc_w:bi zrX iF s_w:=mkS
theorem sc_ay:bi Wz ["before", "now"] s_ay:=mkS
theorem sc_at:bi NR NR s_at:=mkS
theorem sc_bo:bi Tv Tv s_bo:=mkS
theorem sc_as:bi zql (jf "width" "height") s_as:=mkS
theorem sc_b:bi ["self", "name", "x", "y", "sides", "low", "high", "highest"] ["self", "name", "x", "y", "sides", "low", "high"] s_b:=mkS
theorem sc_ap:ME s_ap:=mkS
theorem sc_aq:bi qL qL s_aq:=mkS
theorem sc_j:MD s_j:=mkS
theorem sc_r:MD s_r:=mkS
theorem sc_h:oA s_h:=mkS
theorem sc_n:oA s_n:=mkS
theorem sc_m:ME s_m:=mkS
theorem sc_aa:bi ["self", "name", "side", "row", "x", "y", "sides", "low", "high"] Dt s_aa:=mkS
theorem sc_s:bi ["self", "name", "side", "row", "x", "y"] Dt s_s:=mkS
theorem sc_l:ME s_l:=mkS
theorem sc_x:oA s_x:=mkS
theorem sc_c:ME s_c:=mkS
theorem sc_k:bi (jf "x" "y") (jf "x" "y") s_k:=mkS
theorem sc_e:bi zis qL s_e:=mkS
theorem sc_d:MD s_d:=mkS
theorem sc_af:bi ["width", "height", "points", "seats", "picture", "name", "x", "y", "sides", "low", "high", "side", "row"] Vr s_af:=mkS
theorem sc_ae:bi znM ["_law_script", "_law_k"] s_ae:=mkS
theorem sc_bg:bi ["_law_cell_here", "_law_k", "_law_number"] ["_law_cell_here", "_law_k"] s_bg:=mkS
theorem sc_bf:bi zgY ["_law_cell_here", "_law_many"] s_bf:=mkS
theorem sc_az:bi ["_law_cell_here", "_law_size_here", "_law_many", "_law_left", "_law_found", "_law_k"] U7 s_az:=mkS
theorem sc_bl:bi OF OF s_bl:=mkS
theorem sc_y:bi ["_law_script", "_law_width", "_law_height", "_law_most", "_law_many", "_law_names_here", "_law_xs", "_law_ys", "_law_picture_here", "_law_k", "_law_number", "_law_low", "_law_high", "_law_bar", "_law_row", "_law_side", "_law_place", "_law_is_open"] A4 s_y:=mkS
theorem sc_aj:bi ["_law_picture_here", "_law_found", "_law_name", "_law_x", "_law_y", "_law_sides", "_law_low", "_law_high", "_law_side", "_law_row", "_law_across"] Xz s_aj:=mkS
theorem sc_a5:bi UN U1 s_a5:=mkS
theorem sc_bk:bi zgj ["_law_picture_here", "_law_cell_here"] s_bk:=mkS
theorem sc_a8:bi ["_law_picture_here", "_law_name", "_law_columns", "_law_rows", "_law_one", "_law_x", "_law_y", "_law_sides", "_law_low", "_law_high"] ["_law_picture_here", "_law_name"] s_a8:=mkS
theorem sc_a4:bi ["_law_picture_here", "_law_cell_here", "_law_most", "_law_names_here", "_law_number", "_law_name", "_law_columns", "_law_rows", "_law_low", "_law_high", "_law_sides", "_law_x"] U4 s_a4:=mkS
theorem sc_bm:bi zlo ["_law_hand", "_law_deed_here"] s_bm:=mkS
theorem sc_a9:bi VE ["_law_lengths_here", "_law_pairs"] s_a9:=mkS
theorem sc_bc:bi ["_law_picture_here", "_law_lengths_here", "_law_pairs", "_law_k", "_law_j", "_law_one", "_law_other"] UZ s_bc:=mkS
theorem sc_bd:bi ["_law_hand", "_law_pairs", "_law_picture_here", "_law_lengths_here", "_law_names_here", "_law_best"] ["_law_hand", "_law_pairs"] s_bd:=mkS
theorem xd6:bi ["_law_script", "_law_hand", "_law_cell_here", "_law_before", "_law_names_here", "_law_deed_here", "_law_told", "_law_now", "_law_seats", "_law_due", "_law_still_here"] A4 xhe:=mkS
#check S83
namespace S83
open PySem L2 XL PyProof.Rows
theorem xef {K:Zd}{v:Value}:(ae,Wd K v v,true):=aN ap
theorem xw {H H':Hp}{p:Addr}{o:HO} (s:bB) (hp:H' p=none):gX (L2.upd H' p o):=fun b u z=>by
 have z':=s b u z;show(aD,fW z' hp,z')
theorem su_e {H H':Hp}{p:Addr}{o:HO} (hp:rS) (e:L2.upd H p o=H'):bB:=e▸(bP hp)
theorem ug_e {H H':Hp}{p:Addr}{o:HO} (e:L2.upd H p o=H'):gS p o:=e▸xk
theorem xb7 {n:Nat} (h:n<=1000):uF n:=Jz h au
theorem ne_f {H:Hp}{a b:Addr}{o u:HO} (h:Lu) (h':jd) (d:o≠u:=by exact dw):a≠b:=xdd h h' d
theorem leS0:cZ 0:=au
theorem leS1:1<=sizeLine:=au
theorem leS2:cZ 2:=au
theorem leS3:cZ 3:=au
theorem leS4:cZ 4:=au
theorem leS5:cZ 5:=au
theorem leS7:cZ 7:=au
theorem xse {H:Hp}{x dx:Addr}{a b c:HO} (hx:bu x) (hd:bu dx):gX (upd (upd (eO dx a) x b) x c):=fun y o e=>by
 rw[My,My,oZ hd];exact e
noncomputable def xao (b:Bool):Str:=vN "left" "right"
noncomputable def xe4 (t:Adr) (H:Hp) (p:Addr) (b:Bool) (w:Int):Prop:=∃ dx,aT p (lW (vN t.C_an t.C_ac) [SF w])
inductive xw1 (K:Zd) (vs:af) (H:Hp) (Q:VK) (_:XK):Prop
 | mk (p C dx:Addr) (n:Int) (e_:vs=(nN wS n)) (r_:(aR,aT p (lW C []),L5,xe5 K C "width",Q .non (eO p (lW C [SF n]))))
inductive sp1 (v:V) (vs:af) (H:Hp) (Q:VK) (_:XK):Prop
 | mk (p:V) (e_:vs=[p]) (r_:Q v H)
inductive xyy (vs:af) (H:Hp) (Q:VK) (_:XK):Prop
 | mk (p:V) (x:V) (e_:vs=[p,x]) (r_:Q x H)
inductive xxe (t:Adr) (vs:af) (H:Hp) (Q:VK) (_:XK):Prop
 | mk (p:Addr) (n:Int) (e_:vs=[.ref p]) (r_:xe4 t H p false n/\(mP iX))
inductive xx0 (t:Adr) (vs:af) (H:Hp) (Q:VK) (_:XK):Prop
 | mk (p:Addr) (n x:Int) (e_:vs=(nN wS x)) (r_:xe4 t H p false n/\(mP (n+1-x)))
inductive xre (t:Adr) (vs:af) (H:Hp) (Q:VK) (_:XK):Prop
 | mk (b:Bool) (n:Int) (e_:vs=(nN lS n)) (r_:∀ p H',(bb,rS,xe4 t H' p b n,bB,nF p))
section
variable {P:Program}{w:World}{K:Zd}{mg:Str->Option Value}{base:Heap}{t:Adr}
theorem ok_a7 (T:aL):FnOk true P w K mg base aH 1 t.f_a7 t.d_a7 OS (xw1 K):=by
 refine T.F_a7.okn (k:=0) sc_a7 (aM h) (fun cdv A outer s H vs Q E hr h=>?_)
 .obtain ⟨p,C,dx,n,rfl,_⟩:=h;rfl
 .obtain ⟨p,C,dx,n,rfl,h⟩:=h;show(lF,Eu bT);ext kq hp c na q h;exact⟨126,p,C,dx,[],rfl,hp,c,na,(kU 0),q⟩
theorem ok_ao (T:aL):FnOk true P w K mg base aH 1 t.f_ao t.d_ao iF (sp1 (.int 0)):=by
 refine T.F_ao.okn (k:=0) sc_ao (aM h) (fun cdv A outer s H vs Q E hr h=>?_)
 .ext Hu p
 .ext Io p;show(mV,xo);exact h
theorem ok_ai (T:aL):FnOk true P w K mg base aH 1 t.f_ai t.d_ai iF (sp1 (.int (-1))):=by
 refine T.F_ai.okn (k:=0) sc_ai (aM h) (fun cdv A outer s H vs Q E hr h=>?_)
 .ext Hu p
 .ext Io p;show(mV,xsi xop (xo));show(se,1,h)
theorem ok_u (T:aL):FnOk true P w K mg base aH 1 t.f_u t.d_u yu (xyy):=by
 refine T.F_u.okn (k:=0) sc_u (aM h) (fun cdv A outer s H vs Q E hr h=>?_)
 .ext xY p x
 .ext yq p x;show(lF,tw 1);exact h
theorem ok_ad (T:aL):FnOk true P w K mg base aH 1 t.f_ad t.d_ad iF (sp1 (.int 1)):=by
 refine T.F_ad.okn (k:=0) sc_ad (aM h) (fun cdv A outer s H vs Q E hr h=>?_)
 .ext Hu p
 .ext Io p;show(mV,xo);exact h
theorem ok_ag (T:aL):FnOk true P w K mg base aH 1 t.f_ag t.d_ag iF (xxe t):=by
 refine T.F_ag.okn (k:=0) sc_ag (aM h) (fun cdv A outer s H vs Q E hr h=>?_)
 .ext xY p n
 .ext yq p n;show(zpe,Ck,⟨p,t.C_ac,dx,_,_,rfl,zbg hp q⟩)
theorem ok_p (T:aL):FnOk true P w K mg base aH 1 t.f_p t.d_p yu (xx0 t):=by
 refine T.F_p.okn (k:=0) sc_p (aM h) (fun cdv A outer s H vs Q E hr h=>?_)
 .ext Py p n x
 .obtain ⟨p,n,x,rfl,h⟩:=h;show(zpe,jD xd7 Ck 1,⟨p,t.C_ac,dx,_,_,rfl,zbg hp q⟩)
theorem ok_a6 (T:aL):FnOk true P w K mg base aH 3 t.f_a6 t.d_a6 ["word", "width"] (xre t):=by
 refine T.F_a6.okn (k:=2) sc_a6 (aM h) (fun cdv A outer s H vs Q E hr h=>?_)
 .ext xY b n
 .ext yq b n;refine⟨_,xh (xar (xb3 zmz) (xh (jC (Km aQ) (db (xex T.k_an (ok_a7 T) aC rfl T.g_an T.b_a7 .nil xq ia)))
   (lu (Km aQ) (db (xex T.k_ac (ok_a7 T) aC rfl T.g_ac T.b_a7 .nil xq ia)))) (xad))
   mY,?_⟩
  refine sq2 ?_; intros; ext Bg; cases b with
  | true =>
   refine BN ⟨104,_,_,true,lO,rfl,xef,OP⟩;ext Ea; ext Bg; show(zhS,t.C_an,cA xk T.c_an T.n_b5 rfl znR)
  | false =>
   show(bw,BN ⟨104,_,_,true,lO,rfl,xef,OP⟩,je ?_);refine ifN aK ?_;show(zhS,t.C_ac,zbg xk znR)
noncomputable def isNm (x:Str):Bool:=(dU x.length 1)&&(zpT x.cps.toList)
inductive xx3 (vs:af) (H:Hp) (Q:VK) (_:XK):Prop
 | mk (i lo hi:Int) (e_:wY dY FQ hi) (r_:lo<=i/\i<=hi/\(rF true))
inductive xyf (vs:af) (H:Hp) (Q:VK) (_:XK):Prop
 | mk (x:Str) (e_:vs=[lR]) (r_:(og x)/\(rF true))
theorem xyj:(du "a").cps.toList=[97]:=aK
theorem xxn:(du "z").cps.toList=[122]:=aK
theorem ok_at (T:aL):FnOk true P w K mg base aH 1 t.f_at t.d_at NR (xx3):=by
 refine T.F_at.okn (k:=0) sc_at (aM h) (fun cdv A outer s H vs Q E hr h=>?_)
 .ext Py i lo hi
 .obtain ⟨i,lo,hi,rfl,h⟩:=h;show(mV,xdi (Wx "int" T.n_int boot_int) (xdi (xv4 (Wx "bool" T.n_bool boot_bool)) (xe9 (xh1 xg2 xg2 bT aQ gW))));ext oR c1 c2;refine BN ⟨104,_,_,true,dY,rfl,xef,OP⟩;show(bw,BN ⟨104,_,_,false,dY,rfl,jr,(Au,false,rfl,true,iteT ?_)⟩,wv)
  .refine ?_;show Q (T0 (i<=hi)) H;show(aD,yG c2,q)
  .exact absurd (decide_eq_true c1) c
theorem ok_bo (T:aL):FnOk true P w K mg base aH 1 t.f_bo t.d_bo Tv (xyf):=by
 refine T.F_bo.okn (k:=0) sc_bo (aM h) (fun cdv A outer s H vs Q E hr h=>?_)
 .ext Hu x
 .ext Io x;show(mV,xdi zmz (xdi (xdb xb0 (Ik xlj Af) (xo) gC) (xe9 (xh1 xkb xkb (xa4) aQ (xa4)))));ext hX hn h;unfold isNm at hn;simp only[Z7,decide_eq_true_eq,Qg,decide_eq_false_iff_not] at hn;ext jb l1 n1 n2 hn;show(bw,BN ⟨104,_,_,true,lR,rfl,xef,OP⟩,jw 64 rfl (vQ l1) wv)
  .refine (fP,_,rfl,C4 d)
   .refine su _ rfl;show(cD,xxn,qU n2,q)
   .rw [xyj,qU n1] at d;ext iP d
  .exact absurd (decide_eq_true (eS l1)) c
structure Pt where
 nm:Str
 x:Int
 y:Int
 sd:Str
 lo:Int
 hi:Int
noncomputable def ptV (p:Pt):af:=[.int p.x,.int p.y,.str p.sd,.int p.lo,.int p.hi]
inductive Pl (H:Hp):bE ao bD
 | nil:Pl H [] []
 | cons {p:Pt}{q:Addr}{ps:ao}{kvs:bD} (h:Pe p) (r:sS):Pl H (p::ps) ((iU Fk q)::kvs)
inductive PtsL (H:Hp):bE ao aw
 | nil:PtsL H [] []
 | cons {p:Pt}{q:Addr}{ps:ao}{qs:aw} (h:oY IU) (r:Ev):PtsL H (p::ps) rZ
theorem xsb {Z:L2.St}{H:Hp}{A B:LF} (h:A H):xeg Z H (fun b H4=>(cu,b,A H4,B H4)):=by
 show (cu,true,A H,B H)
 ext aD cp h
theorem xoc {i:Nat}{v:V}{Z:L2.St}{H:Hp}{A B:nG L2.St} (h:A pk H):xcp i v Z H (Ca,xeg σ' H' fun b H4=>(cu,b,A σ' H4,B σ' H4)):=by
 show (cu,true,A pk H,B pk H)
 ext aD cp h
noncomputable def Tups (H H':Hp):Prop:=GS
theorem Pl.keep {H H':Hp} (s:kh) {ps:ao}{kvs:bD} (h:sS):Pl H' ps kvs:=by
 induction h with
 | nil=>ext ig
 | cons h _ ih=>ext Ib
theorem PtsL.keep {H H':Hp} (s:kh) {ps:ao}{qs:aw} (h:Ev):PtsL H' ps qs:=by
 induction h with
 | nil=>ext ig
 | cons h _ ih=>ext Ib
theorem Pl.len {H:Hp}{ps:ao}{kvs:bD} (h:sS):zQ kvs.length:=by
 induction h with
 | nil=>rfl
 | cons _ _ ih=>simp[ih]
theorem PtsL.len {H:Hp}{ps:ao}{qs:aw} (h:Ev):zQ qs.length:=by
 induction h with
 | nil=>rfl
 | cons _ _ ih=>simp[ih]
theorem Pl.find {H:Hp}{ps:ao}{kvs:bD} (h:sS) {nm:Str}{pt:Pt} (e:E1):∃ q,zH=CY/\(Pe pt):=by
 induction h with
 | nil=>ext sr
 | @cons p q ps kvs h _ ih =>
  ext KM
  .rw [Ya jL] at e;cases e;show(aE,q,xbo (eG c),h)
  .rw [Qj jL] at e;show(ag,q',h1,h2,ih e);show(aE,q',(aA,xbh (aj,c (Jb.inj z)),h1),h2)
theorem Pl.no {H:Hp}{ps:ao}{kvs:bD} (h:sS) {nm:Str} (e:∀ p∈ps,wc):zH=none:=by
 induction h with
 | nil=>rfl
 | @cons p q ps kvs h _ ih =>
  rw[xbh (aj,e p Zm (Jb.inj z))];exact ih fun p' hp=>e p' (Zi _ hp)
theorem Pl.get {H:Hp}{ps:ao}{kvs:bD} (h:sS) {i:Nat}{k:Key}{x:V} (e:nU):∃ p q,(aR,Fj,k=.inr p.nm,cQ x q,Pe p):=by
 induction h generalizing i with
 | nil=>ext sr
 | @cons p q ps kvs h _ ih =>
  cases i with
  | zero =>
   simp at e;exact⟨84,p,q,rfl,e.1.symm,e.2.symm,h⟩
  | succ j=>ext wO
theorem PtsL.get {H:Hp}{ps:ao}{qs:aw} (h:Ev) {i:Nat}{q:Addr} (e:B4):∃ p,Fj/\(oY IU):=by
 induction h generalizing i with
 | nil=>ext sr
 | @cons p q' ps qs h _ ih =>
  cases i with
  | zero =>
   ext Lm p
  | succ j=>ext wO
theorem Pl.snoc {H:Hp}{ps:ao}{kvs:bD} (h:sS) {p:Pt}{q:Addr} (e:Pe p):Pl H FE (kvs++[iU Fk q]):=by
 induction h with
 | nil=>show(si,e,.nil)
 | cons h _ ih=>ext F1
theorem PtsL.snoc {H:Hp}{ps:ao}{qs:aw} (h:Ev) {p:Pt}{q:Addr} (e:oY IU):PtsL H FE (qs++[q]):=by
 induction h with
 | nil=>show(si,e,.nil)
 | cons h _ ih=>ext F1
noncomputable abbrev picF (w h:Int) (dp do_:Addr):i7:=[SF w,("height",.int h),iU "placed" dp,iU "opened" do_]
structure Pic (t:Adr) (H:Hp) (a dp do_:Addr) (w h:Int) (ps:ao):Prop where
 ins:∃ dx,aT a (lW t.C_a D5)
 pl:∃ kvs,(sF dp)/\sS
 w1:1<=w
 w2:kM
 h1:1<=h
 h2:jV
 len:ps.length<=12
theorem Same.tups {H H':Hp} (s:bB):kh:=(jj,s b _ e)
theorem Pic.same {t:Adr}{H H':Hp}{a dp do_:Addr}{w h:Int}{ps:ao} (s:bB) (p:Pic t H a dp do_ w h ps):Pic t H' a dp do_ w h ps :=
 ⟨let ⟨dx,e⟩:=p.ins; lT rB,let ⟨kvs,e,q⟩:=p.pl; ⟨kvs,rB,q.keep (Same.tups s)⟩,p.w1,p.w2,p.h1,p.h2,p.len⟩
theorem xan {w h:Int}{dp do_:Addr}{m:Str} (e:((["width", "height", "placed", "opened"]:am).all fun k=>S9)=true):(D5).lookup m=none:=by
 ext Ni;obtain⟨e1,e2,e3,e4,_⟩:45:=e;unfold picF;ext HZ e1 zni;show(HZ,e2,[Ov,DK]);show(HZ,e3,[DK]);rw[Zy,e4];rfl
theorem lkW {w h:Int}{dp do_:Addr}:(D5).lookup (du "width")=some (.int w):=by
 unfold picF;show(vg,"width")
theorem lkH {w h:Int}{dp do_:Addr}:(D5).lookup (du "height")=some (.int h):=by
 show(Vq,"height");show(vg,"height")
theorem lkP {w h:Int}{dp do_:Addr}:(D5).lookup (du "placed")=(aB dp):=by
 show(Vq,"placed");rw[Zy,Fn "placed" "height"];show Jf (du "placed") [Ov,DK]=_;show(vg,"placed")
inductive xtp (t:Adr) (vs:af) (H:Hp) (Q:VK) (_:XK):Prop
 | mk (p dx:Addr) (w h:Int) (e_:(wY,wS,.int w,h)) (r_:(aT p zdm)/\(ay,1<=w,kM,1<=h,jV,∀ H' dp do_,(bu dp)->(bg,Uy,o8 p,Pic t H' p dp do_ w h [],H' do_=some (.dT []),kn)))
inductive spCN (t:Adr) (vs:af) (H:Hp) (Q:VK) (_:XK):Prop
 | mk (a dp do_:Addr) (pw ph:Int) (ps:ao) (nm:Str) (pt:Pt) (e_:SL) (r_:(aR,Pic t H a dp do_ pw ph ps,Co,E1,Q .non H))
inductive spCC (t:Adr) (vs:af) (H:Hp) (Q:VK) (_:XK):Prop
 | mk (a dp do_:Addr) (pw ph:Int) (ps:ao) (x y:Int) (e_:wY bq qy y) (r_:Pic t H a dp do_ pw ph ps/\(ay,1<=x,x<=pw,1<=y,y<=ph,Q .non H))
inductive xys (t:Adr) (vs:af) (H:Hp) (Q:VK) (_:XK):Prop
 | mk (a dp do_:Addr) (pw ph:Int) (ps:ao) (e_:xC) (r_:Pic t H a dp do_ pw ph ps/\∀ H' l qs,(bb,bB,Lc,PtsL H' ps qs,nF l))
inductive spCL (t:Adr) (vs:af) (H:Hp) (Q:VK) (_:XK):Prop
 | mk (a dp do_:Addr) (pw ph:Int) (ps:ao) (nm:Str) (x y:Int) (e_:vs=[bq,mS,qy,rR]) (r_:Pic t H a dp do_ pw ph ps/\zjj/\∀ H',bB->kn)
inductive spCS (t:Adr) (vs:af) (H:Hp) (Q:VK) (_:XK):Prop
 | mk (a dp do_:Addr) (pw ph:Int) (ps:ao) (b:Bool) (r:Int) (e_:zdM) (r_:(aR,Pic t H a dp do_ pw ph ps,1<=r,r<=ph,∀ H',bB->kn))
inductive xxc (t:Adr) (vs:af) (H:Hp) (Q:VK) (_:XK):Prop
 | mk (a dp do_:Addr) (pw ph:Int) (ps:ao) (nm:Str) (x y:Int) (sd:Str) (lo hi:Int) (hv:V) (e_:vs=[bq,mS,qy,rR,zJ,FQ,hv]) (r_:Pic t H a dp do_ pw ph ps/\(ay,(hv=.non/\hi=ph)\/hv=.int hi,Co,1<=x,x<=pw,(ay,1<=y,y<=ph,(zcj,sd,sd="both"),1<=lo,(wg,lo<=hi,hi<=ph,Vo,RV,(o8 dp)->Pic t H' a dp do_ pw ph (ps++[He])->kn))))
inductive xxf (t:Adr) (vs:af) (H:Hp) (Q:VK) (_:XK):Prop
 | mk (a dp do_:Addr) (pw ph:Int) (ps:ao) (nm:Str) (pt:Pt) (e_:SL) (r_:(aR,Pic t H a dp do_ pw ph ps,Co,E1,∀ H' q,bB->(vt q (C2 pt.x pt.y))->(nF q)))
noncomputable def lenI (w x y:Int) (b:Bool) (r:Int):Int:=(vN x zA)+(lz,y-r,0,-(y-r),y-r)
inductive xya (t:Adr) (vs:af) (H:Hp) (Q:VK) (_:XK):Prop
 | mk (a dp do_:Addr) (pw ph:Int) (ps:ao) (nm:Str) (pt:Pt) (b:Bool) (r:Int) (e_:zqN) (r_:Pic t H a dp do_ pw ph ps/\(wg,Co,E1,1<=r,r<=ph,bB->(LM (lenI pw pt.x pt.y b r))))
theorem ok_as (T:aL):FnOk true P w K mg base aH 2 t.f_as t.d_as zql (xtp t):=by
 refine T.F_as.okn (k:=1) sc_as (aM h) (fun cdv A outer s H vs Q E hr h=>?_)
 .obtain ⟨p,dx,pw,ph,rfl,_⟩:=h;rfl
 .obtain ⟨p,dx,pw,ph,rfl,h⟩:=h;refine⟨_,xh (Sz (zde (pC Cy hr T.g_at T.F_at.kp T.b_at (qw 1 (xo) (zco 30 T.v_b3.choose_spec))) (pC Cy hr T.g_at T.F_at.kp T.b_at (qw 2 (xo) (zco 16 T.v_b6.choose_spec)))) mY)
   (xh (FX bT)
   (xh (FX gW)
   (xh Ug
   (Eu (xfb))))),?_⟩
  refine sq5 ?_; intros; obtain⟨hp,w1,w2,h1,h2,q⟩:46:=h;refine⟨pw,1,30,rfl,w1,w2,true,rfl,iteF ⟨ph,1,16,rfl,h1,h2,true,rfl,ue⟩⟩;show(bw,⟨126,p,_,dx,_,rfl,hp,T.c_a,T.n_br,(kU 0),?_⟩,⟨126,p,_,dx,_,rfl,xk,T.c_a,T.n_bq,(kU 1),?_⟩);rw[xez];refine aq dp hdp;show(av,n1,p≠dp,xi xk hdp,⟨126,p,_,dx,_,rfl,(cS n1 xk),T.c_a,T.n_bp,(kU 2),aq do_ hdo⟩);have n2:p≠do_:=xi xk hdo;show(av,n3,dp≠do_,xi (aA Cr xk) hdo,⟨126,p,_,dx,_,rfl,(cS n2 xk),T.c_a,T.n_bu,(kU 3),?_⟩);rw[Cr] at hdp;have hdo':Uy:=by
   have z:=hdo;rw[kP n2,kP n3,kP n2] at z;exact z
  refine q _ dp do_ hdp hdo' Cq ⟨FU,⟨[],?_,.nil⟩,w1,w2,h1,h2,iQ⟩ ?_
  .have c1:b≠dp:=xi e hdp;have c2:b≠do_:=fun z=>by
    subst z;rw[qF,xj c1,qF] at hdo;ext cF e hdo hdo
   rw[qF,xj c2,qF,xj c1,qF];exact e
  .rw [Cr,xj n3,Cr];exact xk
  .ext LR n2
theorem ok_c (T:aL):FnOk true P w K mg base aH 2 t.f_c t.d_c j6 (spCN t):=by
 refine T.F_c.okn (k:=1) sc_c (aM h) (fun cdv A outer s H vs Q E hr h=>?_)
 .obtain ⟨a,dp,do_,pw,ph,ps,nm,pt,rfl,_⟩:=h;rfl
 .obtain ⟨a,dp,do_,pw,ph,ps,nm,pt,rfl,h⟩:=h;show(lF,lu (PW.pt (xei (wK (pC (ok_bo T) hr T.g_bo T.F_bo.kp T.b_bo ia)) (xdh (xcj (xds fU bT bo))))) mY);ext kq pic hn hf q h;ext Do dx;show(iB,q0,e,pl.find hf);exact(zcb,iteF ⟨a,_,dx,_,_,rfl,AY ⟨dp,aB q0,rfl,(R7 e),false,rfl,iteF q⟩⟩)
theorem ok_k (T:aL):FnOk true P w K mg base aH 2 t.f_k t.d_k (jf "x" "y") (spCC t):=by
 refine T.F_k.okn (k:=1) sc_k (aM h) (fun cdv A outer s H vs Q E hr h=>?_)
 .obtain ⟨a,dp,do_,pw,ph,ps,x,y,rfl,_⟩:=h;rfl
 .obtain ⟨a,dp,do_,pw,ph,ps,x,y,rfl,h⟩:=h;show(lF,lu (PW.pt (zde (pC Cy hr T.g_at T.F_at.kp T.b_at (qw 1 (xo) bo)) (pC Cy hr T.g_at T.F_at.kp T.b_at (qw 2 (xo) bo)))) mY);obtain⟨pic,x1,x2,y1,y2,q⟩:46:=h;ext uV dx;exact⟨a,_,dx,_,_,rfl,PB ⟨x,1,pw,rfl,x1,x2,true,rfl,iteF ⟨a,_,dx,_,_,rfl,D7 ⟨y,1,ph,rfl,y1,y2,true,rfl,iteF q⟩⟩⟩⟩
theorem ok_h (T:aL):FnOk true P w K mg base aH 1 t.f_h t.d_h iF (xys t):=by
 refine T.F_h.okn (k:=0) sc_h (aM h) (fun cdv A outer s H vs Q E hr h=>?_)
 .obtain ⟨a,dp,do_,pw,ph,ps,rfl,_⟩:=h;rfl
 .obtain ⟨a,dp,do_,pw,ph,ps,rfl,h⟩:=h;show(lF,xl (xz (xtn (xa6 rfl (xay (zs:=["name", "rest"]) (ys:=[]) (fr:=[]) (N0:=iF) (sc0:=xm s_h) aK rfl rfl rfl) (xq4 bo) GD G1 eC (Vw bT)))));ext hX pic h;ext Do dx;refine⟨a,_,dx,_,_,rfl,AY (uP,dp,kvs,hk,bX ob nf l hl)⟩;have nl:l≠dp:=fun z=>by
   rw[z,xk] at hl;cases hl
  show(cK,hl0,oM,by rwa [xj nl] at hl,xc8 kvs.length (fF,xs,H2,∃ qs:aw,xs=qs.map V.ref/\(ay,qs.length<=i,rH dp OR,zbd dp,K8,PtsL H2 yZ qs)) ?_ ?_ ?_ ?_)
  .refine ⟨66,[],rfl,bv,?_,Cq,xk,by simpa using PtsL.nil⟩
   .ext LR nl
   .rw [oZ hl0,qF];exact e
  .rintro i xs H2 lt (⟨qs,_,_,hd,_⟩:64);ext aO hd lt
  .rintro i xs H2 v H3 lt (⟨qs,rfl,ql,hd,sm,hl2,pts⟩:66) ⟨p,k,x,hx,rfl,hpn,rfl⟩ N hN;obtain⟨pt,q0,hpt,rfl,rfl,hq0⟩:84:=pl.get hx;show(av,e0,rH q0 (.tup (ptV pt)),sm _ _ (ne_f hq0 hk) hq0,kW p xk);refine xsb ?_;show(av,n0,q0≠p,xi e0 hpn,⟨(iN leS1),fun p1 h1=>(Aw,p1,q0,_,ptV pt,⟨47,rfl,cm xk,cm ?_,ap,(HR,1+5),dw,fun _ p2 h2=>?_⟩)⟩)
   .rw [fW (cS n0 e0) h1,xj n0];exact e0
   have up:uI (ae,H2 b,u) (ae,(upd (fA XT p1 [gc]) p2 (.tup ([gc]++ptV pt))) b,u):=fun b u e=>by
    have c1:b≠p:=xi e hpn;have e1:qD H2 p (.tup (j4 gc q0)):=cS c1 e
    have c2:b≠p1:=xi e1 h1;have e2:qD XT p1 (.tup [gc]):=cS c2 e1
    show(aD,fW e2 h2,e2)
   have c3:l≠p2:=xi (show lJ XT p1 (.tup [gc]) l jI from by
    have c1:l≠p:=xi hl2 hpn;have e1:lJ H2 p (.tup (j4 gc q0)) l jI:=cS c1 hl2
    show(aD,fW e1 h1,e1)) h2
   have tk:ps.take aX=yZ++[pt]:=by
    rw[ZR,hpt];rfl
   show(av,ll,uF qs.length,zrJ pl.len qs.length,⟨up _ _ hl2,fV ll,hN _ _ ⟨66,qs++[p2],ap,iZ,?_,Cq,xk,?_⟩⟩)
   .show(cq,kP nl,up _ _ hd)
   .have e2:=up _ _ (sm b u nb e);show(aD,oZ hl0,e2)
   .rw [tk];refine PtsL.snoc (PtsL.keep Ld pts) ?_
    .have e2:=up _ _ e;show(aD,rJ e2 (up _ _ hl2),e2)
    .ext LR c3
  .rintro xs H2 (⟨qs,rfl,_,hd,sm,hl2,pts⟩:66);show(dI,⟨hd,bv⟩,⟨103,dp,ob,_,hd,nf,q _ l qs wn ?_ (PtsL.keep Ld (by show(uM,pl.len,Jg,pts,pts)))⟩)
   .ext ir b dp
    .subst c;ext uC hk e xk
    .show(cq,xj c,sm b u c e)
   .show(cq,xj nl,hl2)
   .show(cq,rJ e hd,e)
theorem ok_e (T:aL):FnOk true P w K mg base aH 2 t.f_e t.d_e qL (spCL t):=by
 refine T.F_e.okn (k:=1) sc_e (aM h) (fun cdv A outer s H vs Q E hr h=>?_)
 .obtain ⟨a,dp,do_,pw,ph,ps,nm,x,y,rfl,_⟩:=h;rfl
 .obtain ⟨a,dp,do_,pw,ph,ps,nm,x,y,rfl,h⟩:=h;refine⟨_,xh (xcn rfl (xay (zs:=["other"]) (ys:=["name"]) (fr:=[1]) (N0:=zis) (sc0:=xm s_e) aK rfl rfl rfl) (xaj (xal aQ T.c_a T.m_h CV aC T.b_h .nil xq)) jY jR (HY (xac xsl V3 bT gC)) vk (j:=4) rfl rM)
   (xh (ziI gW)
   (xl (ziI fZ))),?_⟩
  refine sq3 ?_; intros; ext oR pic no;ext Do dx;show(jo,⟨a,dx,_,rfl,hp,br,a,dp,do_,pw,ph,ps,rfl,pic,fun H1 l1 qs s1 hl1 pt1=>iw l1 hl1 l hl⟩,xc8 qs.length (fF,xs,H2,∃ os:aw,(ay,xs=os.map V.ref,os.length<=i,kZ,K8,∀ o∈os,∃ p∈ps,wc/\H1 o=some (.tup IU))) ?_ ?_ ?_ ?_)
  .exact ⟨65,[],rfl,bv,bP hl,xk,fun o z=>nomatch z⟩
  .rintro i xs H2 lt (⟨os,_,_,s2,_⟩:64);exact(bQ,_,.ref Dc,En,b6 lt)
  .rintro i xs H2 v H3 lt (⟨os,rfl,ol,s2,hl2,hos⟩:65) ⟨rfl,hv⟩ N hN;ext zdC En;ext mF o ho hv';show(ag,p,hpp,ep,pt1.get ho);refine jw o 0 _ (IM,cm (dF ep),wv)
   .have cn:wc:=fun z=>by
     rw[z] at c;simp at c
    refine⟨hl2,(fV,zrJ pt1.len os.length),hN _ _ ⟨65,os++[o],ap,iZ,?_,xk,?_⟩⟩
    .intro b u e
     by_cases cb:b=l
     .subst cb;ext cF e hl hl
     .rw [xj cb];exact s2 b u e
    .intro o' ho'
     rcases Zv.mp ho' with z|z
     .exact hos o' z
     .ext C8 FN;show(gG,p,Zk hpp,cn,ep)
   .exact hN _ _ ⟨65,os,rfl,aa,s2,hl2,hos⟩
  .rintro xs H2 (⟨os,rfl,ol,s2,hl2,hos⟩:65);show(dI,cI En ap,?_);ext sy; have loop:∀(o:Addr),o∈os->∃ p∈ps,wc/\H2 o=some (.tup IU):=fun o ho=>by
    show(bF,p,h1,h2,h3,hos o ho);show(gG,p,h1,h2,dF h3)
   refine(gB,l,(eE,aW hl2),xbp (xs:=os.map V.ref) (Pv:=zgO) LG zhB ?_ ?_)
   .rintro i v Z _ hv (⟨v5,rfl,rfl⟩:62);ext zhJ;refine jw o 1 _ (IM,cm m3,(cN,DR (aj,(no p m1 m2).1 (V.int.inj z)) LG))
   .ext zpI;refine nx ?_; refine fo ?_; intros; refine(gB,l,(eE,aW hl2),xbp (xs:=os.map V.ref) (Pv:=zgO) LG zhB ?_ ?_)
    .rintro i v Z _ hv (⟨v5,rfl,rfl⟩:62);ext zhJ;refine jw o 2 _ (IM,cm m3,(cN,DR (aj,(no p m1 m2).2 (V.int.inj z)) LG))
    .ext zpI;exact q _ i5
theorem ok_d (T:aL):FnOk true P w K mg base aH 4 t.f_d t.d_d pb (spCS t):=by
 refine T.F_d.okn (k:=3) sc_d (aM h) (fun cdv A outer s H vs Q E hr h=>?_)
 .obtain ⟨a,dp,do_,pw,ph,ps,b,r,rfl,_⟩:=h;rfl
 .obtain ⟨a,dp,do_,pw,ph,ps,b,r,rfl,h⟩:=h;refine⟨_,xh (xap (pC FP hr T.g_a6 T.F_a6.kp T.b_a6 (ja 1 bo)))
   (lu (wK (pC Cy hr T.g_at T.F_at.kp T.b_at (qw 2 (xo) bo))) mY),?_⟩
  refine sq2 ?_; intros; ext kq pic r1 r2 q h;ext uV dx;refine⟨a,_,dx,_,_,rfl,PB (mW,b,pw,bN p H1 hp1 sd1 s1)⟩;exact⟨a,_,dx,_,_,rfl,mU iG T.n_bq lkH ⟨r,1,ph,rfl,r1,r2,true,rfl,iteF (q H1 s1)⟩⟩
theorem ok_b (T:aL):FnOk true P w K mg base aH 3 t.f_b t.d_b ["self", "name", "x", "y", "sides", "low", "high"] (xxc t):=by
 refine T.F_b.okn (k:=2) sc_b (aM h) (fun cdv A outer s H vs Q E hr h=>?_)
 .obtain ⟨a,dp,do_,pw,ph,ps,nm,x,y,sd,lo,hi,hv,rfl,_⟩:=h;rfl
 .obtain ⟨a,dp,do_,pw,ph,ps,nm,x,y,sd,lo,hi,hv,rfl,h⟩:=h;refine⟨_,xh (pS 7 sc_b.nd (xia (on xl1 6 (xc0)) bo (pv 6)))
   (xh (jC (wK (pC (ok_bo T) hr T.g_bo T.F_bo.kp T.b_bo ia)) mY)
   (xh (xap (xae aQ T.c_a T.m_k (ok_k T) aC T.b_k .nil xq tM))
   (xh (jC (PW.pt (xei (wK (zjY (ja 4 (xf1 (v:=.ty "str") rfl T.n_str boot_str rfl)))) (xdh (xcj (xpj df rfl T.g_al T.D_al))))) mY)
   (xh (Sz (zde (pC Cy hr T.g_at T.F_at.kp T.b_at (qw 5 (xo) bo)) (pC Cy hr T.g_at T.F_at.kp T.b_at (lX 7 (ja 5 bo)))) mY)
   (xh (jC (xcj (xel fU bT bo)) mY)
   (xh (jC (xac xxw (Ik xpw LC) (zco 12 T.v_b4.choose_spec) gC) mY)
   (xh (xap (xae aQ T.c_a T.m_e (ok_e T) aC T.b_e .nil xq Ko))
   (xl (rD bo bT (xah (lX 2 (lX 3 (kG 4 5 7))))))))))))),?_⟩
  refine sq9 ?_; intros; obtain⟨pic,hhv,hn,x1,x2,y1,⟨y2,hsd,l1,l2,l3,no,len,q⟩⟩:47:=h;ext Do dx;have hsd':fL (valV ([(jB,Jb "left","right"),(jB,Jb "right","left"),(jB,Jb "both","both")]:bD) (Jb sd)):=by
   rcases hsd with rfl|rfl|rfl<;>decide +kernel
  rcases hhv with⟨rfl,e⟩|rfl
  .show(qG,e.symm);refine(je,ifP jr ⟨a,_,dx,_,_,rfl,D7 ?_⟩);show(bw,zcb ue,⟨a,dx,_,rfl,hp,br,a,dp,do_,pw,ph,ps,x,y,rfl,pic,x1,x2,y1,y2,?_⟩);show(zu,BN ⟨104,_,_,true,lO,rfl,xef,zhK⟩,⟨a,_,dx,_,_,rfl,D7 ⟨lo,1,ph,rfl,l1,aa,true,rfl,iteF ⟨a,_,dx,_,_,rfl,D7 ⟨ph,lo,ph,rfl,aa,aa,true,rfl,ue⟩⟩⟩⟩,⟨a,_,dx,_,_,rfl,AY ⟨dp,none,rfl,(R7 Nh),false,rfl,ue⟩⟩,⟨a,_,dx,_,_,rfl,zjR⟩);show(bw,⟨a,dx,_,rfl,hp,br,a,dp,do_,pw,ph,ps,nm,x,y,rfl,pic,fun p hp _=>So,qY⟩,h7 (iN leS5) q1 hq1);have hp1:lJ H1 q1 (.tup (Oi ph)) a zlv:=zrN
   show(lY,hk1,upd H1 q1 (.tup (Oi ph)) dp,Cf kvs,zrM,⟨a,_,dx,_,_,rfl,zgy⟩);rw[xcx (.ref q1) Nh];have nq:q1≠dp:=fun z=>by
    subst z;ext cF zL hq1 hq1
   refine q _ Cq ⟨eW dx,zlQ ⟨nm,x,y,sd,lo,ph⟩,pic.w1,pic.w2,pic.h1,pic.h2,(aA Zr len)⟩
   .rw [qF,fW kH hq1];exact kH
   .show(cq,rJ hp1 hk1,hp1)
   .ext zka
   .show(cq,xj nq,xk)
  .refine (je,ifN jr ?_);show(zu,zcb ue,⟨a,dx,_,rfl,hp,br,a,dp,do_,pw,ph,ps,x,y,rfl,pic,x1,x2,y1,y2,?_⟩,BN ⟨104,_,_,true,lO,rfl,xef,zhK⟩,⟨a,_,dx,_,_,rfl,D7 ⟨lo,1,ph,rfl,l1,aa,true,rfl,iteF ⟨a,_,dx,_,_,rfl,D7 ⟨hi,lo,ph,rfl,aa,aa,true,rfl,ue⟩⟩⟩⟩);show(bw,⟨a,_,dx,_,_,rfl,AY ⟨dp,none,rfl,(R7 Nh),false,rfl,ue⟩⟩,⟨a,_,dx,_,_,rfl,zjR⟩);show(bw,⟨a,dx,_,rfl,hp,br,a,dp,do_,pw,ph,ps,nm,x,y,rfl,pic,fun p hp _=>So,qY⟩,h7 (iN leS5) q1 hq1);have hp1:lJ H1 q1 (.tup (Oi hi)) a zlv:=zrN
   show(lY,hk1,upd H1 q1 (.tup (Oi hi)) dp,Cf kvs,zrM,⟨a,_,dx,_,_,rfl,zgy⟩);rw[xcx (.ref q1) Nh];have nq:q1≠dp:=fun z=>by
    subst z;ext cF zL hq1 hq1
   refine q _ Cq ⟨eW dx,zlQ He,pic.w1,pic.w2,pic.h1,pic.h2,(aA Zr len)⟩
   .rw [qF,fW kH hq1];exact kH
   .show(cq,rJ hp1 hk1,hp1)
   .ext zka
   .show(cq,xj nq,xk)
theorem ok_m (T:aL):FnOk true P w K mg base aH 3 t.f_m t.d_m j6 (xxf t):=by
 refine T.F_m.okn (k:=2) sc_m (aM h) (fun cdv A outer s H vs Q E hr h=>?_)
 .obtain ⟨a,dp,do_,pw,ph,ps,nm,pt,rfl,_⟩:=h;rfl
 .obtain ⟨a,dp,do_,pw,ph,ps,nm,pt,rfl,h⟩:=h;refine⟨_,xh (xap (xae aQ T.c_a T.m_c (ok_c T) aC T.b_c .nil xq ia))
   (db (xed xow (rG bo bT) xfz (xee (xo)))),?_⟩
  refine sq2 ?_; intros; ext kq pic hn hf q h;ext Do dx;ext OV e;refine⟨a,dx,_,rfl,hp,br,a,dp,do_,pw,ph,ps,nm,pt,rfl,pic,hn,hf,?_⟩;exact⟨a,_,dx,_,_,rfl,AY ⟨dp,FS,rfl,(R7 e),2,rfl,q0,ptV pt,rfl,cm hq0,(aj,absurd z.2 (by show ¬ ((2:Nat)=5); decide)),fun p hp'=>q _ p (bP hp') xk⟩⟩
theorem ok_s (T:aL):FnOk true P w K mg base aH 5 t.f_s t.d_s Dt (xya t):=by
 refine T.F_s.okn (k:=4) sc_s (aM h) (fun cdv A outer s H vs Q E hr h=>?_)
 .obtain ⟨a,dp,do_,pw,ph,ps,nm,pt,b,r,rfl,_⟩:=h;rfl
 .obtain ⟨a,dp,do_,pw,ph,ps,nm,pt,b,r,rfl,h⟩:=h;refine⟨_,xh (E9 (xae aQ T.c_a T.m_m (ok_m T) aC T.b_m .nil xq ia) (gJ 4 sc_s.nd 5))
   (xh (xap (xae aQ T.c_a T.m_d (ok_d T) aC T.b_d .nil xq tM))
   (db (xv xba (xgq (xae (pC FP hr T.g_a6 T.F_a6.kp T.b_a6 (ja 2 bo)) T.c_an T.m_u (ok_u T) aC T.b_u .nil xq (fD 4)) (xae (pC FP hr T.g_a6 T.F_a6.kp T.b_a6 (ja 2 bo)) T.c_ac T.m_p (ok_p T) aC T.b_p .nil xq (fD 4))) (Vn uR 3)))),?_⟩
  refine sq3 ?_; intros; obtain⟨pic,hn,hf,r1,r2,q⟩:46:=h;ext uV dx;show(bw,⟨a,dx,_,rfl,hp,br,a,dp,do_,pw,ph,ps,nm,pt,rfl,pic,hn,hf,zlO⟩,⟨a,dx,_,rfl,iG,br,a,dp,do_,pw,ph,ps,b,r,rfl,Cn,r1,r2,aq H2 s2⟩);cases b with
  | true =>
   refine .inl ⟨a,_,dx,_,_,rfl,Dl true⟩;ext Kn sd3;exact⟨p,ds,_,rfl,hs,Nq,_,_,rfl,_,rfl,q H3 ((i5).trans s3)⟩
  | false =>
   show(Ax,⟨a,_,dx,_,_,rfl,Dl false⟩);show(Kn,id sd3);exact⟨p,ds,_,rfl,hs,Nq,p,pw,_,rfl,sd3,_,rfl,q H3 ((i5).trans s3)⟩
inductive xa9 (H:Hp):bE iz aw
 | nil:xa9 H [] []
 | cons {c:gf}{q:Addr}{cs:iz}{qs:aw} (h:N7) (r:BH):xa9 H (c::cs) rZ
theorem xa9.keep {H H':Hp} (s:kh) {cs:iz}{qs:aw} (h:BH):xa9 H' cs qs:=by
 induction h with
 | nil=>ext ig
 | cons h _ ih=>ext Ib
theorem xa9.len {H:Hp}{cs:iz}{qs:aw} (h:BH):zaa:=by
 induction h with
 | nil=>rfl
 | cons _ _ ih=>simp[ih]
theorem xa9.get {H:Hp}{cs:iz}{qs:aw} (h:BH) {i:Nat}{q:Addr} (e:B4):∃ c,Tf/\N7:=by
 induction h generalizing i with
 | nil=>ext sr
 | @cons c q' cs qs h _ ih =>
  cases i with
  | zero =>
   ext Lm c
  | succ j=>ext wO
theorem xa9.append {H:Hp}{cs ds:iz}{qs rs:aw} (h:BH) (h':xa9 H ds rs):xa9 H (cs++ds) (qs++rs):=by
 induction h with
 | nil=>exact h'
 | cons h _ ih=>ext F1
theorem xa9.snoc {H:Hp}{cs:iz}{qs:aw} (h:BH) {c:gf}{q:Addr} (e:N7):xa9 H (cs++[c]) (qs++[q]):=h.append (.cons e .nil)
theorem xck {Z:L2.St}{fr:rp}{te:TE}{l:Addr}{H1:Hp}{Q:VK}{lo d:Int}{n:Nat} (f:Nat->gf) (hl:vM) (hn:n<1000)
    (hte:∀(i:Nat) (H2:Hp) (R:VK),f7->(zmV (iJ,H2,p,.int (f i).1,(f i).2))->te ((zeZ).set 0 (bH (lo+cL*d))) H2 R)
    (fin:∀(H2:Hp) (qs:aw),(bb,kZ,rH l jI,xa9 H2 ((Zu n).map f) qs,Li)):xeh zeD 1 (xcp 0) Z fr xeg te l H1 Q:=by
  refine xc8 n (fF,xs,H2,∃ qs:aw,(ay,xs=qs.map V.ref,qs.length<=i,kZ,K8,xa9 H2 ((Zu i).map f) qs)) ?_ ?_ ?_ ?_
  . exact⟨65,[],rfl,bv,bP hl,xk,.nil⟩
  . rintro i xs H2 lt _
    exact lt
  . rintro i xs H2 v H3 lt (⟨qs,rfl,ql,s2,hl2,cl⟩:65) ⟨rfl,rfl⟩ N hN
    refine xoc ?_;refine hte i _ _ lt (dX ⟨?_,?_,hN _ _ ⟨65,qs++[p],ap,iZ,?_,xk,?_⟩⟩)
    . show(aD,fW hl2 hp,hl2)
    . show(aD,Za,Jz ql (ZQ lt (ZG hn au)))
    . intro b u e
      have nb:b≠l:=xi e hl;show(cD,qF,fW CP hp,CP)
    . rw[Yo,Zt]
      refine xa9.snoc (xa9.keep Ld cl) ?_
      . show(cD,rJ e hl2,zE,e)
      . show(As,xi hl2 hp,xk)
  . rintro xs H2 (⟨qs,rfl,_,s2,hl2,cl⟩:65)
    show(aO,bv,fin H2 qs s2 hl2 cl)
inductive xuz (t:Adr) (vs:af) (H:Hp) (Q:VK) (_:XK):Prop
 | mk (a dp do_:Addr) (pw ph:Int) (ps:ao) (nm:Str) (pt:Pt) (b:Bool) (r:Int) (e_:zqN) (r_:Pic t H a dp do_ pw ph ps/\Co/\(ay,E1,1<=r,r<=ph,(aR,1<=pt.x,pt.x<=pw,1<=pt.y,pt.y<=ph),∀ H' l qs,(jt,bB,Lc,xa9 H' (Geo.cells pw pt.x pt.y b r) qs,qs.length<100,l)))
theorem lno {m:Str}{v:V} (h:F6 m (du "width")):([("width",v)]:i7).lookup m=none:=by
 rw[Zy,h];rfl
theorem ok_ba (T:aL):FnOk true P w K mg base aH 6 t.f_ba t.d_ba VH (xuz t):=by
 refine T.F_ba.okn (k:=5) sc_ba (aM h) (fun cdv A outer s H vs Q E hr h=>?_)
 .obtain ⟨a,dp,do_,pw,ph,ps,nm,pt,b,r,rfl,_⟩:=h;rfl
 .obtain ⟨a,dp,do_,pw,ph,ps,nm,pt,b,r,rfl,h⟩:=h;refine⟨_,xh (xap (xae aQ T.c_a T.m_s (ok_s T) aC T.b_s .nil xq Ko))
   (xh (E9 (xae aQ T.c_a T.m_m (ok_m T) aC T.b_m .nil xq ia) (xp (xg8 (i:=4) sc_ba.nd rfl (Qb rfl)) (xp (pN 5 sc_ba.nd) (xam))))
   (xh (pS 6 sc_ba.nd (pC FP hr T.g_a6 T.F_a6.kp T.b_a6 (ja 2 bo)))
   (xh (pS 7 sc_ba.nd (xia (on xf8 5 fZ) (xo) (xsi xop (xo))))
   (xh (xcn rfl (xay (zs:=["at"]) (ys:=["x"]) (fr:=[4]) (N0:=["picture", "name", "side", "row", "x", "y", "toward", "down", "upright", "level"]) (sc0:=xm s_ba) aK rfl rfl rfl) (xka rfl T.n_range (kG 5 3 7)) jY jR eC (pA (fC 1 0)) (j:=8) rfl rM)
   (xh (xcn rfl (xay (zs:=["at"]) (ys:=["row"]) (fr:=[3]) (N0:=["picture", "name", "side", "row", "x", "y", "toward", "down", "upright", "level"]) (sc0:=xm s_ba) aK rfl rfl rfl) (xka rfl T.n_range (qw 4 (xv xba (xgq (xal nI T.c_an T.m_ao (ok_ao T) aC T.b_ao .nil xq) (xal nI T.c_ac T.m_ag (ok_ag T) aC T.b_ag .nil xq)) (xgq (xal nI T.c_an T.m_ai (ok_ai T) aC T.b_ai .nil xq) (xal nI T.c_ac T.m_ad (ok_ad T) aC T.b_ad .nil xq))) (xgq (xal nI T.c_an T.m_ai (ok_ai T) aC T.b_ai .nil xq) (xal nI T.c_ac T.m_ad (ok_ad T) aC T.b_ad .nil xq)))) jY jR eC (pA p8) (j:=9) rfl rM)
   (db (jD xwu (pv 8) 9))))))),?_⟩
  refine sq7 ?_; intros; obtain⟨pic,hn,hf,r1,r2,⟨x1,x2,y1,y2⟩,q⟩:47:=h;obtain⟨⟨dx,hp⟩,_,w1,w2,h1,h2,_⟩:=uA;by_cases hd:pt.y<r<;>cases b
  .-- down right
   refine⟨a,dx,_,rfl,hp,br,a,dp,do_,pw,ph,ps,nm,pt,false,r,rfl,pic,hn,hf,r1,r2,qY⟩;show(zu,⟨a,dx,_,rfl,iG,br,a,dp,do_,pw,ph,ps,nm,pt,rfl,Cn,hn,hf,Np⟩,⟨a,_,dx,_,_,rfl,Dl false⟩,(cN,zan hd),⟨103,pt.y,r,1,rfl,ye,zqd⟩);show(ML,Sl,t.C_ac,false)
   show(Ax,⟨p,ds,_,rfl,hs4,qu,p,pw,rfl,sd4,.inr ⟨p,ds,_,rfl,hs4,qu,_,rfl,.inr ⟨p,ds,_,rfl,hs4,qu,_,rfl,pt.x,_,1,rfl,ye,zqc⟩⟩⟩);refine xck (fun i=>(Sm,r)) hl2 aa (Kl E5) (S1 hu5 cu5);have c1:xa9 H5 vc qs1:=by
    have e:vc=(Zu (gV r pt.y)).map (uH pt.x Sl):=(Ng,aN hd)
    ext NF
   have c2:xa9 H5 DD qs2:=by
    have e:DD=(Zu W8).map (uH Sm r):=by
     ext zgK
    ext aD e cu5
   show(ah,l1',c1.len,l2',c2.len);ext MP
   show(qj,b2,(DD).length<33,MX,MN 100 Sh,q _ p6 Ub (xw (((i5).trans s3).trans (s4.trans s5)) hp6) SQ ((RQ).keep (Same.tups (bP hp6))) L9)
  .-- down left
   refine⟨a,dx,_,rfl,hp,br,a,dp,do_,pw,ph,ps,nm,pt,true,r,rfl,pic,hn,hf,r1,r2,qY⟩;show(zu,⟨a,dx,_,rfl,iG,br,a,dp,do_,pw,ph,ps,nm,pt,rfl,Cn,hn,hf,Np⟩,⟨a,_,dx,_,_,rfl,Dl true⟩,(cN,zan hd),⟨103,pt.y,r,1,rfl,ye,zqd⟩);show(ML,Sl,t.C_an,true)
   refine (.inl ⟨p,ds,_,rfl,hs4,qu,_,rfl,.inl ⟨p,ds,_,rfl,hs4,qu,_,rfl,.inl ⟨p,ds,_,rfl,hs4,qu,_,rfl,pt.x,_,(-1),rfl,ye,zqe⟩⟩⟩);refine xck (fun i=>(PQ,r)) hl2 aa (Kl E5) (S1 hu5 cu5);have c1:xa9 H5 vc qs1:=by
    have e:vc=(Zu (gV r pt.y)).map (uH pt.x Sl):=(Ng,aN hd)
    ext NF
   have c2:xa9 H5 DG qs2:=by
    have e:DG=(zqi).map (uH PQ r):=by
     ext zge
    ext aD e cu5
   show(ah,l1',c1.len,l2',c2.len);ext MP
   show(qj,b2,(DG).length<33,MX,MN 100 Sh,q _ p6 Ub (xw (((i5).trans s3).trans (s4.trans s5)) hp6) SQ ((RQ).keep (Same.tups (bP hp6))) L9)
  .-- up right
   refine⟨a,dx,_,rfl,hp,br,a,dp,do_,pw,ph,ps,nm,pt,false,r,rfl,pic,hn,hf,r1,r2,qY⟩;show(zu,⟨a,dx,_,rfl,iG,br,a,dp,do_,pw,ph,ps,nm,pt,rfl,Cn,hn,hf,Np⟩,⟨a,_,dx,_,_,rfl,Dl false⟩,(cN,DR hd (eV 1 ?_)),⟨103,pt.y,r,(-1),rfl,ye,zqf⟩);show(ML,PP,t.C_ac,false)
   show(Ax,⟨p,ds,_,rfl,hs4,qu,p,pw,rfl,sd4,.inr ⟨p,ds,_,rfl,hs4,qu,_,rfl,.inr ⟨p,ds,_,rfl,hs4,qu,_,rfl,pt.x,_,1,rfl,ye,zqc⟩⟩⟩);refine xck (fun i=>(Sm,r)) hl2 aa (Kl E5) (S1 hu5 cu5);have c1:xa9 H5 vc qs1:=by
    have e:vc=(Zu (gV pt.y r)).map (uH pt.x PP):=(Ng,az hd)
    ext NF
   have c2:xa9 H5 DD qs2:=by
    have e:DD=(Zu W8).map (uH Sm r):=by
     ext zgK
    ext aD e cu5
   show(ah,l1',c1.len,l2',c2.len);ext MP
   show(qj,b2,(DD).length<33,MX,MN 100 Sh,q _ p6 Ub (xw (((i5).trans s3).trans (s4.trans s5)) hp6) SQ ((RQ).keep (Same.tups (bP hp6))) L9)
  .-- up left
   refine⟨a,dx,_,rfl,hp,br,a,dp,do_,pw,ph,ps,nm,pt,true,r,rfl,pic,hn,hf,r1,r2,qY⟩;show(zu,⟨a,dx,_,rfl,iG,br,a,dp,do_,pw,ph,ps,nm,pt,rfl,Cn,hn,hf,Np⟩,⟨a,_,dx,_,_,rfl,Dl true⟩,(cN,DR hd (eV 1 ?_)),⟨103,pt.y,r,(-1),rfl,ye,zqf⟩);show(ML,PP,t.C_an,true)
   refine (.inl ⟨p,ds,_,rfl,hs4,qu,_,rfl,.inl ⟨p,ds,_,rfl,hs4,qu,_,rfl,.inl ⟨p,ds,_,rfl,hs4,qu,_,rfl,pt.x,_,(-1),rfl,ye,zqe⟩⟩⟩);refine xck (fun i=>(PQ,r)) hl2 aa (Kl E5) (S1 hu5 cu5);have c1:xa9 H5 vc qs1:=by
    have e:vc=(Zu (gV pt.y r)).map (uH pt.x PP):=(Ng,az hd)
    ext NF
   have c2:xa9 H5 DG qs2:=by
    have e:DG=(zqi).map (uH PQ r):=by
     ext zge
    ext aD e cu5
   show(ah,l1',c1.len,l2',c2.len);ext MP
   show(qj,b2,(DG).length<33,MX,MN 100 Sh,q _ p6 Ub (xw (((i5).trans s3).trans (s4.trans s5)) hp6) SQ ((RQ).keep (Same.tups (bP hp6))) L9)
theorem xo7 {K:Zd}{Z:L2.St}{fr:rp}{te:TE}{l l1:Addr}{H1:Hp}{Q:VK}{qs:aw} (hl1:(ae,H1 l1,jI)) (hl:vM) (hn:qs.length<1000)
    (hte:∀(q:Addr) (H2:Hp) (R:VK),(zmV (fA H2 p [.ref q,.bl true]))->te ((zeZ).set 0 CY) H2 R)
    (fin:∀(H2:Hp) (ws:El),kZ->(rH l (.lst (ws.map PV)))->ws.map (·.2)=zjV->ziN->Li) :
    xeh (Itl K l1) 1 (xcp 0) Z fr xeg te l H1 Q:=by
  refine xc8 qs.length (fun i xs H2=>∃ ws:El,xs=ws.map (fun p=>V.ref aJ)/\ws.length<=i/\kZ/\K8/\ws.map (·.2)=(qs.take i).map (fun q=>(V.ref q,V.bl true))/\ziN) ?_ ?_ ?_ ?_
  . exact⟨66,[],rfl,bv,bP hl,xk,ap,fun p z=>nomatch z⟩
  . rintro i xs H2 lt (⟨ws,_,_,s2,_⟩:64)
    exact(bQ,_,.ref Dc,En,b6 lt)
  . rintro i xs H2 v H3 lt (⟨ws,rfl,wl,s2,hl2,he,hw⟩:66) ⟨rfl,hv⟩ N hN
    ext zdC En;ext mF q hq hv';refine xoc ?_;refine hte q _ _ (dX ⟨?_,?_,hN _ _ ⟨66,ws++[(p,.ref q,.bl true)],ap,iZ,?_,xk,?_,?_⟩⟩)
    . show(aD,fW hl2 hp,hl2)
    . show(aD,Za,Jz wl (ZQ lt (ZG hn au)))
    . intro b u e
      show(cD,Ma,fW CP hp,CP)
    . rw[ZR,hq,Zt,he]
      simp
    . intro p' hp'
      rcases Zv.mp hp' with z|z
      . have e:=hw p' z
        show(cD,rJ e hl2,zE,e)
      . ext C8 FN;show(As,xi hl2 hp,xk)
  . rintro xs H2 (⟨ws,rfl,_,s2,hl2,he,hw⟩:66)
    rw[Jg] at he;show(aO,cI En ap,fin H2 ws s2 hl2 he hw)
noncomputable abbrev ck (c:gf):eD:=[.inl c.1,.inl c.2]
theorem xvb {c d:gf} (h:ck c=ck d):c=d:=by
 ext F9 b c;obtain⟨a',b'⟩:=d;simp only[ck,QH.injEq,Qt.injEq,and_true] at h;rw[h.1,h.2]
theorem xmd {d:Addr}{H:Hp}{cs:iz}{qs:aw} (cl:BH) (hd:bu d):∀(kvs0:dC),kvs0.length+cs.length<1000 ->
    ∃ kvs,xep d (jn H d kvs0) zjV (jn H d kvs)/\∀ c:gf,(fL (valV kvs (ck c)))↔c∈cs\/(fL (valV kvs0 (ck c))):=by
  induction cl with
  | nil=>exact fun kvs0 _=>⟨kvs0,.nil,me ap⟩
  | @cons c q cs qs h _ ih =>
    intro kvs0 hl;have hq:(ae,upd H d (.dT kvs0) q,.tup ((ck c).map kV)):=by
      show(aD,fW h hd,h)
    have hp:=DPut.t (k:=ck c) (v:=.bl true) (xk (H:=H) (a:=d) (o:=.dT kvs0)) hq (ZQ (Er hl:kvs0.length<1000) au);rw[xez] at hp;have l2:=xbs kvs0 (ck c) (.bl true);show(ag,kvs,dp,mem,ih (putK kvs0 (ck c) (.bl true)) (Er hl));show(d9,kvs,.cons hp dp,cH c');rw[mem c',xcg];by_cases e:ck c'=ck c
    . show(C8,xvb e);simp
    . have ne:c'≠c:=(aj,e (eG z))
      rw[az e];simp[ne]
noncomputable def xsd (H:Hp) (o:dG gf) (v:V):Prop:=(TL,o,none,∃ c q,(ae o c)/\Um/\N7)
inductive xwk (t:Adr) (vs:af) (H:Hp) (Q:VK) (_:XK):Prop
 | mk (a dp do_:Addr) (pw ph:Int) (ps:ao) (o1 o2:Addr) (n1 n2:Str) (p1 p2:Pt) (b1 b2:Bool) (r1 r2:Int) (e_:vs=(rq bq o1 o2)) (r_:Pic t H a dp do_ pw ph ps/\(ay,(j8 o1 (Ci,n1,tU b1,r1)),(j8 o2 (Ci,n2,tU b2,r2)),(aR,og n1,No n1 p1,1<=r1,(ay,r1<=ph,1<=p1.x,p1.x<=pw,1<=p1.y,p1.y<=ph)),(aR,og n2,No n2 p2,1<=r2,(ay,r2<=ph,1<=p2.x,p2.x<=pw,1<=p2.y,p2.y<=ph)),∀ H' v,bB->xsd H' (Geo.meet zmd V0) v->CW))
theorem xii (T:aL):FnOk true P w K mg base aH 7 t.f_meeting t.d_meeting Dx (xwk t):=by
 refine T.F_meeting.okn (k:=6) xcc (aM h) (fun cdv A outer s H vs Q E hr h=>?_)
 .obtain ⟨a,dp,do_,pw,ph,ps,o1,o2,n1,n2,p1,p2,b1,b2,r1,r2,rfl,_⟩:=h;rfl
 .obtain ⟨a,dp,do_,pw,ph,ps,o1,o2,n1,n2,p1,p2,b1,b2,r1,r2,rfl,h⟩:=h;refine⟨_,xh (DB 2 3 xcc.nd zpq)
   (xh (pS 6 xcc.nd (Ay (xa6 rfl (xay (zs:=["cell"]) (ys:=[]) (fr:=[]) (N0:=["picture", "one", "other", "name", "side", "row", "theirs", "cell"]) (sc0:=xm xfq) aK rfl rfl rfl) (xaj (pC (ok_ba T) hr T.g_ba T.F_ba.kp T.b_ba (lX 0 (kG 3 4 5)))) jY jR eC (pA (ja 0 (xc2))))))
   (xh (DB 1 3 xcc.nd zpq)
   (xh (nW (xaj (pC (ok_ba T) hr T.g_ba T.F_ba.kp T.b_ba (lX 0 (kG 3 4 5)))) 7 xcc.nd (lu (xcj (xel fU (pv 7) (pv 6))) (tw 7)))
   (db (xc0))))),?_⟩
  refine sq5 ?_; intros; obtain⟨pic,ho1,ho2,⟨m1,f1,u1,v1,g1⟩,⟨m2,f2,u2,v2,g2⟩,q⟩:46:=h;show(m9,o2,ho2,⟨a,dp,do_,pw,ph,ps,n2,p2,b2,r2,rfl,⟨47,pic,m2,f2,u2,v2,g2,fun H1 l1 qs s1 hl1 cl1 ql1=>iw l1 hl1 l hl⟩⟩);refine xo7 hl1 hl aa (fun q H2 R k=>E5) fun H2 ws s2 hl2 he hw=>?_;refine Av l ws hl2 hw Tx;show(ag,kvs,dps,mem,xmd (cl1.keep (Same.tups s2)) hd [] (by have:=cl1.len; simp; omega));refine(aZ,.dT [],_,wu,aA he dps,?_);show(av,s3,gX (jn H2 d kvs),xw (s1.trans s2) hd,kW o1 (dS ho1));ext zqp; refine⟨a,dp,do_,pw,ph,ps,n1,p1,b1,r1,rfl,⟨47,pY s3,m1,f1,u1,v1,g1,fun H4 l4 qs4 s4 hl4 cl4 ql4=>nT l4 hl4⟩⟩;have hd4:H4 d=some (.dT kvs):=cO xk;refine xbp (xs:=qs4.map V.ref) (Pv:=fun i Z H5=>∃ v7:cc,Z=[dN,aB o1,aB o2,fM n1,some (tU b1),bH r1,qv,v7]/\H4=H5 /\
   ∀ c∈(zmd).take i,c∉V0) (gB _ rfl ap) (fun _ _ _ _ ⟨_,_,z,_⟩=>by rw[<- z]; exact SqL.of hl4) ?_ ?_
  .rintro i v Z _ hv (⟨v7,rfl,rfl,no⟩:63);ext NK; rw[Zc] at hv;ext mF q7 hq7 hv;show(ag,c,hc,hcq,cl4.get hq7);have mm:=mem c;refine⟨d,_,rfl,(Cg,ck c,hd4,hcq),_,rfl,ite2 lG lG⟩
   .have hm:c∈V0:=by
     rcases mm.mp z with y|y
     .exact y
     .simp [valV] at y
    exact (q _ _ Kb (.inr (kL,c,q7,Geo.meet_at hc no hm,hcq)))
   .refine (gB,_,rfl,aq c' hc');rw[ZR,hc] at hc';rcases Zv.mp hc' with y|y
    .exact no c' y
    .have:c'=c:=by simpa using y
     ext xA;exact fun y=>z (mm.mpr (.inl y))
  .rintro Z _ (⟨v7,rfl,rfl,no⟩:63);rw[Za,cl4.len,Jg] at no;exact q _ _ Kb (.inl (lL,Geo.meet_no no))
theorem lkO {w h:Int}{dp do_:Addr}:(D5).lookup (du "opened")=(aB do_):=by
 show(Vq,"opened");show(zmH,"height",[Ov,DK]);show(zmH,"placed",[DK]);show(vg,"opened")
noncomputable abbrev Seat:=Bool × Int
noncomputable def x8 (s:Seat):eD:=[.inr (xao s.1),.inl eB]
noncomputable def xat (s:Seat):af:=nN E3 eB
theorem xg0 {a b:Bool} (h:xao a=xao b):a=b:=by
 cases a<;>cases b<;>first|rfl|ext bZ h aK
theorem xem {s t:Seat} (h:eA=x8 t):s=t:=by
 simp only[x8,QH.injEq,Jb.injEq,Qt.injEq] at h;exact Prod.ext (xg0 h.1) (bc h)
noncomputable def Sts (H:Hp) (do_:Addr) (ss:ai):Prop:=∃ kvs:dC,(yc do_)/\kvs.map (·.1)=K2/\ss.Nodup/\ss.length<=32
theorem Sts.same {H H':Hp}{do_:Addr}{ss:ai} (s:bB) (h:qV):Sts H' do_ ss:=let ⟨k,e,r⟩:=h; ⟨k,rB,r⟩
theorem xol {kvs:dC}{ss:ai} (e:kvs.map (·.1)=K2) {s:Seat} (h:s∉ss):HU=none:=by
 cases z:HU with
 | none=>rfl
 | some v =>
  obtain⟨i,hi⟩:=xja z;have m:eA∈kvs.map (·.1):=Zf.mpr (dP,Zk hi);rw[e] at m;ext rN t ht et m;show(bZ,ht,(aA,xem et,h))
theorem xm8 {kvs:dC}{ss:ai} (e:kvs.map (·.1)=K2) {s:Seat} (h:rT):∃ v,ae HU v:=by
 cases z:HU with
 | some v=>show(aO,v,rfl)
 | none =>
  have m:eA∈kvs.map (·.1):=by rw[e]; exact Zf.mpr (cE s h)
  ext EW ep m;show(ie,a,xdn (x8 s) kvs,z);have:(kvs.any fun kv=>cP (iR=x8 s))=true:=Jo.mpr ⟨p,hp,by simpa using ep⟩;ext cF this a a
inductive xa8 (H:Hp):bE ai aw
 | nil:xa8 H [] []
 | cons {s:Seat}{q:Addr}{ss:ai}{qs:aw} (h:oY (xat s)) (r:EG):xa8 H (s::ss) rZ
theorem xa8.keep {H H':Hp} (k:kh) {ss:ai}{qs:aw} (h:EG):xa8 H' ss qs:=by
 induction h with
 | nil=>ext ig
 | cons h _ ih=>show(si,k _ _ h,ih)
theorem xa8.len {H:Hp}{ss:ai}{qs:aw} (h:EG):qs.length=ss.length:=by
 induction h with
 | nil=>rfl
 | cons _ _ ih=>simp[ih]
noncomputable def xbx (s t:Seat):Prop:=(s.1=true/\t.1=false)\/(s.1=t.1/\eB<t.2)
theorem xrr {s t:Seat} (h:lexK (x8 s) (x8 t)=true):xbx s t:=by
 ext F9 i s;ext F8 j t;unfold x8 at h;unfold lexK at h;by_cases e:xao a=xao b
 .show(hJ,CH e);unfold lexK at h;by_cases e2:i=j
  .show(hJ,CH e2);unfold lexK at h;cases h
  .show(hJ,az (aj,e2 (Qt.inj z)));show(rE,xg0 e,of_decide_eq_true h)
 .ext hJ zpB;cases a<;>cases b
  .ext iP e
  .show(bZ,h,(by show ¬ xdy (.inr (xao false)) (.inr (xao true))=true; ext Ln))
  .ext dR oy
  .ext iP e
noncomputable def unK:eD->Seat
 | [.inr s,.inl r]=>zfB s
 | _=>zl
theorem xlr (s:Seat):unK (x8 s)=s:=by
 ext F8 r s;cases b
 .show (zfB (du "right"))=_;rw[decide_eq_false aK]
 .show (zfB (du "left"))=_;rw[decide_eq_true rfl]
theorem xo9 {kvs:dC}{ss:ai} (e:kvs.map (·.1)=K2) {s:Seat}:(xcr kvs (x8 s)).map (·.1)=(ss.filter fun t=>cP (t≠s)).map x8:=by
 have h1:(xcr kvs (x8 s)).map (·.1)=(kvs.map (·.1)).filter fun k=>cP (k≠eA):=by
  unfold xcr;rw[QX];rfl
 rw[h1,e,QX]
 congr 1
 refine List.filter_congr fun t _=>?_;show rY (cP (x8 t≠eA)) (t≠s);ext ir t s
 .subst c;simp
 .have c':x8 t≠eA:=(aj,c (xem z));simp[c,c']
inductive xw0 (t:Adr) (vs:af) (H:Hp) (Q:VK) (_:XK):Prop
 | mk (a dp do_:Addr) (pw ph:Int) (ps:ao) (ss:ai) (b:Bool) (r:Int) (e_:zdM) (r_:Pic t H a dp do_ pw ph ps/\qV/\(wg,1<=r,r<=ph,LZ,zdT,(bb,zcF,Pic t H' a dp do_ pw ph ps,Sts H' do_ (ss++[jy]),kn)))
inductive xwg (t:Adr) (vs:af) (H:Hp) (Q:VK) (_:XK):Prop
 | mk (a dp do_:Addr) (pw ph:Int) (ps:ao) (ss:ai) (b:Bool) (r:Int) (e_:zdM) (r_:Pic t H a dp do_ pw ph ps/\(wg,qV,1<=r,r<=ph,jy∈ss,(bb,zcF,Pic t H' a dp do_ pw ph ps,Sts H' do_ (ss.filter fun s=>cP (s≠jy)),kn)))
inductive xug (t:Adr) (vs:af) (H:Hp) (Q:VK) (_:XK):Prop
 | mk (a dp do_:Addr) (pw ph:Int) (ps:ao) (ss:ai) (e_:xC) (r_:Pic t H a dp do_ pw ph ps/\qV/\∀(l:Addr) (ss':ai) (qs:aw),(bg,oM,xa8 H ss' qs,zeW,ss'.Pairwise xbx,kK l (eO l jI)))
theorem Pic.but {t:Adr}{H H':Hp}{a dp do_:Addr}{w h:Int}{ps:ao}{kvs:dC} (e:yc do_) (s:zcF) (p:Pic t H a dp do_ w h ps):Pic t H' a dp do_ w h ps :=
 ⟨let ⟨dx,x⟩:=p.ins; lT zap,let ⟨k,x,q⟩:=p.pl; ⟨k,zap,q.keep fun b xs x=>zap⟩,p.w1,p.w2,p.h1,p.h2,p.len⟩
theorem ok_j (T:aL):FnOk true P w K mg base aH 5 t.f_j t.d_j pb (xw0 t):=by
 refine T.F_j.okn (k:=4) sc_j (aM h) (fun cdv A outer s H vs Q E hr h=>?_)
 .obtain ⟨a,dp,do_,pw,ph,ps,ss,b,r,rfl,_⟩:=h;rfl
 .obtain ⟨a,dp,do_,pw,ph,ps,ss,b,r,rfl,h⟩:=h;refine⟨_,xh (xap (xae aQ T.c_a T.m_d (ok_d T) aC T.b_d .nil xq oz))
   (xh (jC (xcj (xel fU zZ bo)) mY)
   (xl (rD bo zZ (xc2)))),?_⟩
  refine sq3 ?_; intros; obtain⟨pic,st,r1,r2,no,len,q⟩:47:=h;ext uV dx;obtain⟨kvs,hk,ek,nd,l32⟩:64:=id st;show(zgM,⟨a,dx,_,rfl,hp,br,a,dp,do_,pw,ph,ps,b,r,rfl,pic,r1,r2,qY⟩);have n0:valV kvs (x8 jy)=none:=xol ek no;show(bw,⟨a,_,dx,_,_,rfl,HP ⟨do_,none,rfl,(cY n0 (Cg,x8 jy,hk2,g2)),false,rfl,ue⟩⟩,⟨a,_,dx,_,_,rfl,⟨46,hp2,T.c_a,T.n_bu,lkO,cR,Si⟩⟩);show(Hc,iJ H2 q3 lS r,hq3);have kl:kvs.length=ss.length:=by
   show(Al,uO ek)
  refine(su,do_,DPut.t (k:=x8 jy) (dS hk2) g3 (CF kvs.length 33));have bt:fJ do_ tQ (qC H3 do_ (.dT (putK kvs (x8 jy) (.bl true)))):=fun c u nc e=>by
   show(ip,nc,dS (dF kH))
  refine zry (fb 64 xk ?_ ?_ ?_)
  .rw [xcx _ n0,Zt,Zt,ek];rfl
  .show(TM,nd,fun x hx y hy=>(aA,Uh,fun e=>no (e▸hx)))
  .rw [Zr];show ss.length+1<=32;omega
theorem ok_r (T:aL):FnOk true P w K mg base aH 5 t.f_r t.d_r pb (xwg t):=by
 refine T.F_r.okn (k:=4) sc_r (aM h) (fun cdv A outer s H vs Q E hr h=>?_)
 .obtain ⟨a,dp,do_,pw,ph,ps,ss,b,r,rfl,_⟩:=h;rfl
 .obtain ⟨a,dp,do_,pw,ph,ps,ss,b,r,rfl,h⟩:=h;refine⟨_,xh (xap (xae aQ T.c_a T.m_d (ok_d T) aC T.b_d .nil xq oz))
   (xh (jC (xcj (xds fU zZ bo)) mY)
   (oP (xrd fU bo zZ HF))),?_⟩
  refine sq3 ?_; intros; obtain⟨pic,st,r1,r2,yes,q⟩:46:=h;ext uV dx;obtain⟨kvs,hk,ek,nd,l32⟩:64:=id st;obtain⟨v,hv⟩:=xm8 ek yes;show(zgM,⟨a,dx,_,rfl,hp,br,a,dp,do_,pw,ph,ps,b,r,rfl,pic,r1,r2,qY⟩);show(bw,⟨a,_,dx,_,_,rfl,HP ⟨do_,ut,rfl,(cY hv (Cg,x8 jy,hk2,g2)),false,rfl,ue⟩⟩,⟨a,_,dx,_,_,rfl,HP (jz,do_,rfl,.inr (eE,.inl hk2),cR,Si)⟩);show(Hc,iJ H2 q3 lS r,hq3);refine⟨125,kvs,x8 jy,q3,v,dS hk2,rfl,g3,hv,?_⟩;have bt:fJ do_ tQ (qC H3 do_ (.dT (xcr kvs (x8 jy)))):=fun c u nc e=>by
   show(ip,nc,dS (dF kH))
  refine zry (fb,64,xk,?_,nd.filter _,ZK rP l32);exact xo9 ek
theorem ok_n (T:aL):FnOk true P w K mg base aH 1 t.f_n t.d_n iF (xug t):=by
 refine T.F_n.okn (k:=0) sc_n (aM h) (fun cdv A outer s H vs Q E hr h=>?_)
 .obtain ⟨a,dp,do_,pw,ph,ps,ss,rfl,_⟩:=h;rfl
 .obtain ⟨a,dp,do_,pw,ph,ps,ss,rfl,h⟩:=h;show(mV,xaq (xlq rfl) rfl T.n_sorted PyProof.Rows.Boot.«sorted» (xa bo (xg)));ext oR pic st;ext uV dx;obtain⟨kvs,hk,ek,nd,l32⟩:64:=id st;have kl:kvs.length=ss.length:=by
   show(Al,uO ek)
  refine⟨a,_,dx,_,_,rfl,mU hp T.n_bu lkO ⟨do_,kvs,[false,true],rfl,hk,aa,SV,au,fun l ts fr tm pm pw'=>?_⟩⟩
  .have m:aJ∈kvs.map (·.1):=Zf.mpr (cE p hp');rw[ek] at m;show(BV,s,e,Zf.mp m);rw[<- e];rfl
  rw[ek] at pm;have back:∀ t∈ts,x8 (unK t.1)=t.1:=fun t ht=>by
   show(BV,s,e,Zf.mp (pm.mem_iff.mp (Zf.mpr (cE t ht))));rw[<- e,xlr]
  have z:=q l ((ts.map (·.1)).map unK) (ts.map (·.2)) fr ?_ ?_ ?_
  .rw [Z8] at z;exact z
  .clear pm pw'
   induction ts with
   | nil=>ext ig
   | cons t ts ih =>
    refine .cons ?_ (ih (dM,tm x (Zi _ hx)) (dM,back x (Zi _ hx)));have e:=tm t Zm;rw[<- back t Zm] at e;exact e
  .have z2:=pm.map unK;have e2:(K2).map unK=ss:=by
    rw[Z8,(fR,unK∘x8,id,funext xlr)];exact YY _
   ext bV e2 z2 z2
  .rw [ZZ] at pw';rw[Z8,ZZ];refine pw'.imp_of_mem fun {x y} hx hy hxy=>xrr ?_;show lexK (x8 (unK bn)) (x8 (unK y.1))=true;show(cD,back x hx,back y hy,hxy)
noncomputable def SsOk (h:Int) (ss:ai):Prop:=ss.Nodup/\Iw/\∀ s∈ss,(r8 eB eB h)
theorem xa8.get {H:Hp}{ss:ai}{qs:aw} (h:EG) {i:Nat}{q:Addr} (e:B4):∃ s,(ba ss s)/\Fs:=by
 induction h generalizing i with
 | nil=>ext sr
 | @cons s q' ss qs h _ ih =>
  cases i with
  | zero =>
   ext Lm s
  | succ j=>ext wO
theorem xv6 {α β:Type}{f:α->β} (inj:∀ a b,f a=f b->a=b) {l:aP} (h:l.Nodup):zbZ:=by
 rw[Jq,ZZ];exact h.imp fun hne e=>hne (inj _ _ e)
theorem xbz {α:Type}{R:bE α α} (as:∀ a b,R a b->¬ R b a):∀{l l':aP},(bb,l.Perm l',l.Pairwise R,l'.Pairwise R,l=l')
 | [],l',p,_,_=>(JB.nil_eq p)
 | a::t,[],p,_,_=>absurd p.symm (by intro z; exact absurd (JB.nil_eq z) ap)
 | a::t,b::t',p,h,h'=>by
  show(ah,h1,Yg.mp h,h2,Yg.mp h');by_cases e:a=b
  .ext cW;rw[xbz as ((List.perm_cons a).mp p) h1.2 h2.2]
  .have ma:a∈t':=by
    have:=p.mem_iff.mp (Zm (a:=a) (l:=t));rcases eJ this with z|z
    .ext bZ z e
    .exact z
   have mb:b∈t:=by
    have:=p.mem_iff.mpr (Zm (a:=b) (l:=t'));rcases eJ this with z|z
    .show(bZ,z.symm,e)
    .exact z
   show(bZ,h2.1 a ma,as _ _ (h1.1 b mb))
theorem xci (a b:Seat) (h:xbx a b):¬ xbx b a:=by
 rintro (⟨x,y⟩|⟨x,y⟩)<;>rcases h with⟨z,w⟩|⟨z,w⟩
 .ext Ak x w
 .rw [x,y] at z; cases z
 .rw [z,w] at x; cases x
 .omega
noncomputable def xb8 (s:Seat):DV:=.tup (nN E3 eB)
theorem xpt {s t:Seat}:xb8 s=xb8 t↔s=t:=by
 constructor
 .intro h
  unfold xb8 at h;simp only[DV.tup.injEq,QH.injEq,DV.str.injEq,DV.int.injEq,and_true] at h;exact Prod.ext (xg0 h.1) h.2
 .intro h
  rw[h]
theorem xe7 (s t:Seat):(rY,dEq (xb8 s) (xb8 t),s=t):=xhg rfl rfl xpt
theorem xf6 (ss:ai) (s:Seat):(rY,(ss.map xb8).any (aj,dEq z (xb8 s)),rT):=by
 ext Ow
 .ext nZ z hz e;ext dW t ht hz;show(uM,xe7,decide_eq_true_iff,e,e▸ht)
 .intro h
  exact(cI,L7 s h,xce _)
theorem xea {K:Zd}{H:Hp}{q:Addr}{s:Seat} (h:Fs):iW 1 (.ref q) (xb8 s):=by
 refine .tup (cm h) rfl (bN j x d h1 h2)
 match j,h1,h2 with
 | 0,h1,h2=>cases h1; cases h2; exact .str
 | 1,h1,h2=>cases h1; cases h2; exact .int
 | j+2,h1,h2=>simp[xat] at h1
theorem xa8.dv {K:Zd}{H:Hp}{ss:ai}{qs:aw} (h:EG) {l:Addr} (e:Fh):iW 2 mX (.lst (ss.map xb8)):=by
 ext zfS;ext bG hp hp' hp';exact xea e'
theorem xa8.pick {H:Hp}:zhC ai (∀(j:Nat) (y:V) (s:Seat),(A8,ss,s,∃ q,wy/\Fs)) zeL
 | [],[],_,_=>eV [] .nil
 | [],dc,h,_=>ft
 | dc,[],h,_=>ft
 | s::ss,nu,h,k=>by
  show(ag,q,e,hq,k 0 y s rfl rfl);show(ag,rs,e2,r,xa8.pick (ss:=ss) (ys:=ys) yh fun j y s h1 h2=>k gH y s qP DT)
  show(aE,q::rs,d7 e e2,.cons hq r)
theorem xih {α:Type} [yr]:∀{l m:aP},l.Nodup->(∀ x∈l,x∈m)->l.length<=m.length
 | [],m,_,_=>iQ
 | a::l,m,nd,sub=>by
  obtain⟨h1,h2⟩:=Z5.mp nd;show(ah,ha,sub a Zm,z,xih (l:=l) (m:=m.erase a) h2 (dM,(Wi (fun e:x=a=>h1 (e▸hx))).mpr (sub x (Zi _ hx))));rw[List.length_erase_of_mem ha] at z;have:=List.length_pos_of_mem ha;rw[Z6];omega
theorem xnt {h:Int}{ss:ai} (h16:jV) (o:SsOk h ss) (l:32<=ss.length) (s:Seat) (r1:1<=eB) (r2:eB<=h):rT:=by
 by_cases c:rT
 .exact c
 have all:∀ x∈s::ss,x∈((Zu 16).map fun i:Nat=>(true,cL+1))++(Zu 16).map fun i:Nat=>(jA,cL+1):=fun x hx=>by
  have b:r8 dk dk h:=by
   rcases zm with z|z
   .rw [z]; ext aO r1 r2
   .exact o.2.2 x z
  obtain⟨xb,xr⟩:=x;have i1:(xr-1).toNat∈Zu 16:=ZJ.mpr zol;have i2:(cV,(xr-1).toNat)+1=xr:=zol
  rw[Zv];cases xb
  .exact .inr (Zf.mpr (cI,i1,eG i2))
  .exact .inl (Zf.mpr (cI,i1,eG i2))
 have z:=xih (Z5.mpr ⟨c,o.1⟩) all;simp at z;omega
structure PtOk (w h:Int) (p:Pt):Prop where
 nm:og p.nm
 x1:1<=p.x
 x2:p.x<=w
 y1:1<=p.y
 y2:p.y<=h
 sd:(zcj,p.sd,p.sd="both")
 l1:1<=p.lo
 l2:p.lo<=p.hi
 l3:p.hi<=h
structure xbt (w h:Int) (ps:ao):Prop where
 ok:∀ p∈ps,PtOk w h p
 nn:(ps.map (·.nm)).Nodup
 nx:(ps.map (·.x)).Nodup
 ny:(ps.map (·.y)).Nodup
 le:ps.length<=12
theorem xc1 {α β:Type} (f:α->β) {ps:aP} (nd:(ps.map f).Nodup) {i:Nat} (hi:i<ps.length):∀ p∈yZ,f p≠f ps[i]:=fun p hp e=>by
 have z:=nd;rw[<- Yj i ps,Yl hi,Zt,Zp,ZB] at z;exact z.2.2 _ Le _ Zm e
theorem xje {α β γ:Type}{f:α->β}{g:α->γ}{k:β->γ} (e:∀ a,g a=k (f a)) (inj:Nt) {l:aP} (h:zbZ):(l.map g).Nodup:=by
 show(B7,xv6 inj h,Z8);show(aD,(fR,g,k∘f,funext e),z)
theorem xdu {ps:ao} (nd:(ps.map (·.nm)).Nodup) {p:Pt} (hp:zX):(ae,ps.find? (fun q=>dU q.nm p.nm),p):=by
 induction ps with
 | nil=>simp at hp
 | cons a ps ih =>
  ext vS;rcases FJ with z|z
  .subst z;rw[Ya ap]
  .have ne:¬ a.nm=p.nm:=fun y=>nd.1 (y▸Zf.mpr (cE p z));show(aD,Qj (by simpa using ne),ih gD z)
theorem xbt.filt {w h:Int}{ps:ao} (o:SJ) (f:Pt->Bool):xbt w h (ps.filter f) :=
 ⟨(dX,o.ok p (qm hp)),o.nn.sublist (Wm.map _),o.nx.sublist (Wm.map _),o.ny.sublist (Wm.map _),ZK rP o.le⟩
noncomputable def xa0 (p:Pt) (s:Seat):Bool:=((dU p.sd "both")||(cP (p.sd=xao s.1)))&&((cP (p.lo<=eB))&&(cP (eB<=p.hi)))
theorem xif (sd w:Str):inV (.str sd) [.str "both",.str w]=((dU sd "both")||(dU sd w)):=by
 have e:∀ a b:Str,rY Gb (b=a):=fun a b=>by
  ext A7 Jk beq_iff_eq;exact eq_comm
 show (((du "both") == sd)||((w == sd)||false))=_;rw[Bool.or_false,e,e]
noncomputable def xgt (s2:ai) (p:Pt) (i:Nat):Bool:=match s2[i]? with|some s=>tX|none=>false
theorem xgr {s2:ai}{p:Pt}{s:Seat}{i:Nat} (h:ba s2 s):xgt s2 p i=tX:=by
 unfold xgt;rw[h]
inductive xwm (t:Adr) (vs:af) (H:Hp) (Q:VK) (_:XK):Prop
 | mk (a dp do_:Addr) (pw ph:Int) (ps:ao) (ss:ai) (pt:Pt) (b:Bool) (i:Int) (e_:vs=[bq,gc,lS,dY]) (r_:Pic t H a dp do_ pw ph ps/\qV/\(Rf,og pt.nm,zdo,1<=i,i<=ph,((iO (b,i) ss)&&xa0 pt (b,i))))
inductive xv3 (t:Adr) (vs:af) (H:Hp) (Q:VK) (_:XK):Prop
 | mk (a dp do_:Addr) (pw ph:Int) (ps:ao) (ss:ai) (pt:Pt) (e_:vs=[bq,gc]) (r_:Pic t H a dp do_ pw ph ps/\(ay,qV,SsOk ph ss,og pt.nm,zdo,∀(H':Hp) (l:Addr) (srt:ai) (rs:aw),bB->oM->(jt,EH,HH,gS l zsr,xa8 H' zab rs,l)))
theorem ok_aa (T:aL):FnOk true P w K mg base aH 5 t.f_aa t.d_aa Dt (xwm t):=by
 refine T.F_aa.okn (k:=4) sc_aa (aM h) (fun cdv A outer s H vs Q E hr h=>?_)
 .obtain ⟨a,dp,do_,pw,ph,ps,ss,pt,b,i,rfl,_⟩:=h;rfl
 .obtain ⟨a,dp,do_,pw,ph,ps,ss,pt,b,i,rfl,h⟩:=h;refine⟨_,xh (xap (xae aQ T.c_a T.m_c (ok_c T) aC T.b_c .nil xq ia))
   (xh (xap (xae aQ T.c_a T.m_d (ok_d T) aC T.b_d .nil xq tM))
   (xh (OZ (rG bo bT) 4 sc_aa.nd (Bq 5 sc_aa.nd 6 (gJ 7 sc_aa.nd 8)))
   (db (xdi (xvp (xel fU (xah tM) bo)) (xdi (xdb xkj (pv 6) (xah (xa (xa4) (fD 2))) jr) (xe9 (xh1 xg2 xg2 (pv 7) fZ (pv 8)))))))),?_⟩
  refine sq4 ?_; intros; obtain⟨pic,st,hn,hf,i1,i2,q⟩:47:=h;ext Do dx0;show(bw,⟨a,dx0,_,rfl,hp,br,a,dp,do_,pw,ph,ps,pt.nm,pt,rfl,pic,hn,hf,?_⟩,⟨a,dx0,_,rfl,hp,br,a,dp,do_,pw,ph,ps,b,i,rfl,pic,i1,i2,qY⟩);ext OV e0;ext ah hp1 iG hk1 zL;show(bw,⟨a,_,_,_,_,rfl,mU hp1 T.n_bp lkP ⟨dp,FS,rfl,(cY,e0,Fz pX hk1),q0,_,rfl,cm (iT hq0),rfl,?_⟩⟩,h7 cR q1 hq1);show(Oe,iJ H1 q1 lS i,hq1);show(ah,hp2,dF hp1,s02,s1.trans s2);obtain⟨ko,hko,ek,nd,l32⟩:64:=id st;show(ah,hko2,s02 _ _ hko,qq,q);by_cases cin:(b,i)∈ss
  .obtain ⟨v,hv⟩:=xm8 ek cin;show(bw,⟨a,_,_,_,_,rfl,HP ⟨do_,ut,rfl,(cY hv (Cg,x8 (b,i),hko2,g2)),true,rfl,iteT ?_⟩⟩,h7 cR q3 hq3);generalize eu:fA H2 q3 [.str "both",lS]=H3;show(Ej,s3,hq3,g3,z,qq H3 (s02.trans s3));rw[yG cin,YE] at z;unfold xa0 at z;refine mW q3 _ (bW,.inr (SqT.of g3),rfl,rfl,wv)
   .ext zqb
    rw[c,YE] at z;show(tR,rK c2 c2)
    .rw [c2,YE] at z;exact z
    .rw [Ja.mpr c2,Qd] at z;exact z
   .ext zqb
    show(yY,Ja.mpr c,Qd)
  .have n0:valV ko (x8 (b,i))=none:=xol ek cin;have z:=qq H2 s02;rw[qU cin,Qd] at z;exact⟨a,_,_,_,_,rfl,HP ⟨do_,none,rfl,(cY n0 (Cg,x8 (b,i),hko2,g2)),false,rfl,iteF z⟩⟩
theorem ok_l (T:aL):FnOk true P w K mg base aH 6 t.f_l t.d_l j6 (xv3 t):=by
 refine T.F_l.okn (k:=5) sc_l (aM h) (fun cdv A outer s H vs Q E hr h=>?_)
 .obtain ⟨a,dp,do_,pw,ph,ps,ss,pt,rfl,_⟩:=h;rfl
 .obtain ⟨a,dp,do_,pw,ph,ps,ss,pt,rfl,h⟩:=h;refine⟨_,xh (xap (xae aQ T.c_a T.m_c (ok_c T) aC T.b_c .nil xq ia))
   (db (xa6 rfl (xay (zs:=["side", "row"]) (ys:=["name", "self"]) (fr:=[1,0]) (N0:=j6) (sc0:=xm s_l) aK rfl rfl rfl) (xaj (xal aQ T.c_a T.m_n Gm aC T.b_n .nil xq)) GD G1 (fun _ _ _ _ _=>xdq (xb3 (xae fZ T.c_a T.m_aa (ok_aa T) aC T.b_aa .nil xq (kG 2 0 1)))) (pA p8))),?_⟩
  refine sq2 ?_; intros; obtain⟨pic,st,sok,hn,hf,q⟩:46:=h;ext uV dx0;show(bw,⟨a,dx0,_,rfl,hp,br,a,dp,do_,pw,ph,ps,pt.nm,pt,rfl,pic,hn,hf,?_⟩,⟨a,dx0,_,rfl,hp,br,a,dp,do_,pw,ph,ps,ss,rfl,pic,st,fun l1 srt qs1 fr1 sl1 pm1 pw1=>?_⟩);show(Xr,l1,.lst (qs1.map V.ref),fr1);show(ah,sl1',sl1.keep (Same.tups s1),ql,sl1.len);show(qj,sl32,Id,(aA,pm1.length_eq,bc sok),iw l1 g1 l2 hl2,xcy (aW g1) (fV,CF qs1.length 33) hl2 (xgt srt pt) (uD,∃ s q,(ba srt s)/\wy/\Fs) (fun i y H H' tp ⟨s,q,e1,e2,e3⟩=>(aZ,s,q,e1,e2,iS e3)) (fun i x H4 hx s4 N M hN hM=>?_) (fun ys H4 s4 el4 ly f4=>?_))
  .ext Cd;ext yT;show(ag,s0,hs0,ep,sl1'.get ho);have s04:=s1.trans s4;have min:s0∈ss:=pm1.mem_iff.mp (Zk hs0);obtain⟨sr1,sr2⟩:=sok.2.2 s0 min;show(m9,o,cO ep,⟨a,dx0,_,rfl,s04 _ _ hp,br,a,dp,do_,pw,ph,ps,ss,pt,s0.1,s0.2,rfl,pY s04,st.same s04,hn,hf,sr1,sr2,aq H5 s5⟩)
   .refine wv
    .ext zja;ext h9 cR q6 hq6;exact hN _ _ (s5.trans (bP hq6)) (aA,xgr hs0,c) (kL s0 q6 hs0 xk)
    .ext zja;exact hM _ s5 (PJ,xgr hs0,c)
  .have fi:=xe0 (xa0 pt) (as:=srt) (p:=xgt srt pt) (fF,s,hs,xgr hs);rw[Za,ql] at ly f4;obtain⟨rs4,e4,sts4⟩:62:=xa8.pick (H:=H4) (ss:=zab) (ys:=ys) (bR ly fi.1) (fun j y s hy hs=>by
    have hj:j<((Zu srt.length).filter (xgt srt pt)).length:=by
     ext jp ly zD
    obtain⟨s',q',h1,h2,h3⟩:83:=f4 j y _ hy oQ;rw[fi.2 j _ oQ,hs] at h1;cases h1;ext aE q' h2 h3)
   subst e4;exact q H4 l2 srt rs4 (s1.trans s4) (s1.free hl2) pm1 pw1 el4 sts4
noncomputable def scD:V->DV
 | dY=>dY
 | uK=>uK
 | .str s=>.str s
 | _=>.non
noncomputable def scV:L8
 | qx=>true
 | lU=>true
 | lO=>true
 | .non=>true
 | _=>false
theorem xyq {K:Zd}{H:Hp}{v:V} (h:scV v=true):iW 0 v (scD v):=by
 cases v with
 | int i=>exact .int
 | bl b=>exact .bl
 | str s=>exact .str
 | non=>exact .non
 | _=>cases h
theorem xwt {K:Zd}{H:Hp}{xs:af} (f:xs.all scV=true) (j:Nat) (x:V) (d:DV) (h1:Lg) (h2:cC (xs.map scD) d):iW 0 x d:=by
 rw[Zc,h1] at h2;cases h2;exact xyq (JE.mp f x (Zk h1))
structure Dr (t:Adr) (H:Hp) (a dp do_:Addr) (w h:Nat) (ps:ao) (ss srt:ai):Prop where
 pic:Pic t H a dp do_ kI ib ps
 sts:qV
 ok:SsOk ib ss
 pm:EH
 lt:HH
 nm:∀ p∈ps,(og p.nm)
theorem Dr.same {t:Adr}{H H':Hp}{a dp do_:Addr}{w h:Nat}{ps:ao}{ss srt:ai} (d:Dr t H a dp do_ w h ps ss srt) (s:bB):Dr t H' a dp do_ w h ps ss srt:=⟨Pic.same s d.pic,d.sts.same s,d.ok,d.pm,d.lt,d.nm⟩
theorem Pl.drop {H:Hp}{ps:ao}{kvs:bD} (h:sS) (nm:Str):Pl H zmZ (xcr kvs (.inr nm)):=by
 induction h with
 | nil=>ext ig
 | @cons p q ps kvs h r ih =>
  unfold xcr at ih ⊢;ext KM
  .rw [Tg,Tg];exact ih
  .have c':¬ (Jb p.nm:Key)=Jb nm:=(aj,c (Jb.inj z));rw[ZT jL,ZT (by simpa using c')];ext F1
inductive xvz (t:Adr) (vs:af) (H:Hp) (Q:VK) (_:XK):Prop
 | mk (a dp do_:Addr) (pw ph:Int) (ps:ao) (nm:Str) (pt:Pt) (e_:SL) (r_:(aR,Pic t H a dp do_ pw ph ps,Co,E1,∀ H',(o8 dp)->Pic t H' a dp do_ pw ph zmZ->kn))
theorem ok_ap (T:aL):FnOk true P w K mg base aH 4 t.f_ap t.d_ap j6 (xvz t):=by
 refine T.F_ap.okn (k:=3) sc_ap (aM h) (fun cdv A outer s H vs Q E hr h=>?_)
 .obtain ⟨a,dp,do_,pw,ph,ps,nm,pt,rfl,_⟩:=h;rfl
 .obtain ⟨a,dp,do_,pw,ph,ps,nm,pt,rfl,h⟩:=h;refine⟨_,xh (xap (xae aQ T.c_a T.m_c (ok_c T) aC T.b_c .nil xq ia))
   (oP (xq2 bo bT HF)),?_⟩
  refine sq2 ?_; intros; ext kq pic hn hf q h;obtain⟨⟨dx,hp⟩,⟨kvs,hk,pl⟩,w1,w2,h1,h2,le⟩:=uA;ext OV e;show(bw,⟨a,dx,_,rfl,hp,br,a,dp,do_,pw,ph,ps,nm,pt,rfl,pic,hn,hf,?_⟩,⟨a,_,dx,_,_,rfl,AY (gB,dp,.inl (eE,.inl hk),⟨104,kvs,.inr nm,FS,hk,rfl,e,?_⟩)⟩);have bt:∀ b u,b≠dp->jd->(ae,upd H dp (.dK (xcr kvs (.inr nm))) b,u):=fun b u nb e=>by
   ext MJ
  refine q _ bt ⟨(lT,bt _ _ (ne_f hp hk) hp),(cI,xk,(pl.drop nm).keep (jj,bt _ _ (ne_f e hk) e)),w1,w2,h1,h2,ZK rP le⟩
noncomputable def mvP (nm:Str) (x y:Int) (p:Pt):Pt:=kf p.nm nm XN p
theorem Pl.mv {H H':Hp}{nm:Str}{x y:Int}{q1:Addr}{ps:ao}{kvs:bD} (h:sS) (tp:kh) (hq:∀ p∈ps,p.nm=nm->(gS q1 (.tup (ptV XN)))):Pl H' X5 (kvs.map (WV nm q1)):=by
 induction h with
 | nil=>ext ig
 | @cons p q ps kvs h r ih =>
  have ih':=ih fun p' hp'=>hq p' (Zi _ hp');rw[Zp,Zp];ext KM
  .rw [CH c,fR yy XN jS];show(si,hq p Zm c,ih')
  .rw [az (aj,c (Jb.inj z)),fR yy p uu];show(si,iS h,ih')
theorem xve {ps:ao} (nd:(ps.map (·.nm)).Nodup) {p q:Pt} (hp:zX) (hq:q∈ps) (e:p.nm=q.nm):p=q:=by
 induction ps with
 | nil=>exact (nomatch hp)
 | cons a ps ih =>
  ext vS;rcases FJ with z|z<;>rcases eJ hq with z2|z2
  .rw [z,z2]
  .ext zju
  .ext zkE
  .exact ih gD z z2
inductive xwi (t:Adr) (vs:af) (H:Hp) (Q:VK) (_:XK):Prop
 | mk (a dp do_:Addr) (pw ph:Int) (ps:ao) (pt:Pt) (i j:Int) (e_:vs=[bq,gc,dY,Gn]) (r_:Pic t H a dp do_ pw ph ps/\(ps.map (·.nm)).Nodup/\(aR,og pt.nm,zdo,1<=i,(wg,i<=pw,1<=j,j<=ph,(∀ p∈ps,p.nm≠pt.nm->p.x≠i/\p.y≠j),(o8 dp)->Pic t H' a dp do_ pw ph (ps.map (mvP pt.nm i j))->kn)))
theorem ok_aq (T:aL):FnOk true P w K mg base aH 4 t.f_aq t.d_aq qL (xwi t):=by
 refine T.F_aq.okn (k:=3) sc_aq (aM h) (fun cdv A outer s H vs Q E hr h=>?_)
 .obtain ⟨a,dp,do_,pw,ph,ps,pt,i,j,rfl,_⟩:=h;rfl
 .obtain ⟨a,dp,do_,pw,ph,ps,pt,i,j,rfl,h⟩:=h;refine⟨_,xh (xap (xae aQ T.c_a T.m_c (ok_c T) aC T.b_c .nil xq ia))
   (xh (xap (xae aQ T.c_a T.m_k (ok_k T) aC T.b_k .nil xq tM))
   (xh (xap (xae aQ T.c_a T.m_e (ok_e T) aC T.b_e .nil xq Ko))
   (xl (rD bo bT (xv xey (xah tM) (xed xow (rG bo bT) (xee (xo)) xfz)))))),?_⟩
  refine sq4 ?_; intros; obtain⟨pic,nd,hn,hf,i1,i2,⟨j1,j2,un,q⟩⟩:47:=h;obtain⟨⟨dx0,hp⟩,⟨kvs,hk,pl⟩,w1,w2,h1,h2,le⟩:=uA;have hpt:=ZC hf;refine⟨a,dx0,_,rfl,hp,br,a,dp,do_,pw,ph,ps,pt.nm,pt,rfl,pic,hn,hf,?_⟩;show(bw,⟨a,dx0,_,rfl,hp,br,a,dp,do_,pw,ph,ps,i,j,rfl,pic,i1,i2,j1,j2,?_⟩,⟨a,dx0,_,rfl,hp,br,a,dp,do_,pw,ph,ps,pt.nm,i,j,rfl,pic,un,qY⟩);ext OV e0;ext ah hp1 iG hk1 zL;ext h9 cR q1 hq1;generalize eu:iJ H1 q1 dY j=H2;show(Ej,s2,hq1,g2,hp2,dF hp1);show(w8,hk2,dF hk1,hq2,dF (iT hq0),⟨a,_,_,_,_,rfl,mU hp2 T.n_bp lkP ⟨dp,FS,rfl,(cY,e0,Fz pX hk2),2,rfl,q0,ptV pt,rfl,cm hq2,(aj,absurd z.1 (by show ¬ ((2:Nat)=0); decide)),Si⟩⟩);have s3:Same H2 zdh:=bP hq3;show(lY,g3,upd H2 q3 (.tup NC) q3,some (.tup NC),xk,Aw q1 q3 _ NC ⟨47,rfl,cm FH,cm g3,ap,(HR,2+3),dw,fun _ q4 hq4=>?_⟩);have s4:=s3.trans (xw (o:=Nf) i6 hq4);have g4:lJ zdh q4 Nf q4 Nf:=xk;change _ at g4;show(w8,hp4,cO hp2,hk4,cO hk2,⟨a,_,_,_,_,rfl,mU hp4 T.n_bp lkP (su,dp,zt pX hk4 (ZQ (zfs:kvs.length<13) au))⟩);have ek:(SE pX q4)=kvs.map (WV pt.nm q4):=by
   unfold putK;rw[xdn,e0];rfl
  rw[ek];have s04:=s1.trans (s2.trans s4);have bt:∀ b u,b≠dp->jd->(qD (upd zdh q4 Nf) dp (.dK (kvs.map (WV pt.nm q4)))):=fun b u nb e=>by
   show(ip,nb,s04 _ _ e)
  refine q _ bt ⟨⟨dx0,bt _ _ (ne_f hp hk) hp⟩,(cI,xk,pl.mv (jj,bt _ _ (ne_f e hk) e) (aI p hp' ep)),w1,w2,h1,h2,fV le⟩;show(cD,xve nd hp' hpt ep,kP (xi (dS hk2) hq4),g4)
inductive xwq (t:Adr) (vs:af) (H:Hp) (Q:VK) (_:XK):Prop
 | mk (w h:Int) (l m:Addr) (ps:ao) (qs:aw) (ss:ai) (rs:aw) (e_:vs=[.int w,.int h,mX,.ref m]) (r_:aR (aR,1<=w,kM,1<=h,jV) Fh Ev (ay,SJ,zsj m,zeL,SsOk h ss,∀ H' a dp do_,bB->(bu a)->(jt,bu dp,Uy,Pic t H' a dp do_ w h ps,Sts H' do_ ss,a)))
theorem ok_af (T:aL):FnOk true P w K mg base aH 6 t.f_af t.d_af Vr (xwq t):=by
 refine T.F_af.okn (k:=5) sc_af (aM h) (fun cdv A outer s H vs Q E hr h=>?_)
 .obtain ⟨w,ph,l,m,ps,qs,ss,rs,rfl,_⟩:=h;rfl
 .obtain ⟨w,ph,l,m,ps,qs,ss,rs,rfl,h⟩:=h;refine⟨_,xh (pS 4 sc_af.nd (xex T.k_a (ok_as T) aC rfl T.g_a T.b_as .nil xq p8))
   (xh (AS Gi (Bq 5 sc_af.nd 6 (Bq 7 sc_af.nd 8 (gJ 9 sc_af.nd 10))) (oP (xae df T.c_a T.m_b (ok_b T) aC T.b_b .nil xq (sK uR nI (sK (pv 7) (pv 8) (sK (pv 9) (pv 10) (xg)))))))
   (xh (AS (w4 3) (gJ 11 sc_af.nd 12) (oP (xae df T.c_a T.m_j (ok_j T) aC T.b_j .nil xq (fC 11 12))))
   (tw 4))),?_⟩
  refine sq4 ?_; intros; obtain⟨⟨w1,w2,h1,h2⟩,hl,pts,pok,hm,sts,⟨⟨snd,sle,srow⟩,q⟩⟩:47:=h;show(zgB,⟨46,xk,w1,w2,h1,h2,fun H5 dp do_ hdp5 hdo5 s6 pic5 hdt=>tZ⟩,Mg);have up:gY (wM (upd H dx (.own a)) a zdm b) dE:=fun b z=>by
   cases e:H b with
   | none=>rfl
   | some u=>ext zfz My
  show(ah,fdp,up _ hdp5,fdo,up _ hdo5);show(w8,pl,pts.len,sl,sts.len,nT l (k5 _ _ hl))
  show(Nn,zng (jx,Z,[CT,Cu,Ae,aB m,dN,v5,v6,v7,v8,v9,v10,v11,v12],ua,Pic t H2 a dp do_ w ph yZ,H2 do_=some (.dT [])))
  show(AD,vH,(iA ⟨124,_,_,_,_,rfl,k5,by simpa using pic5,hdt⟩),(fun _ _ _ _ ⟨_,_,_,_,_,_,_,_,_,z,_⟩=>aW (z _ _ hl)))
  .rintro i v Z H2 hv (⟨v5,v6,v7,v8,⟨v9,v10,v11,v12,rfl,s2,pic2,hd2⟩⟩:121);rw[Zc] at hv;ext mF z hz hv;show(ag,p,hp,ez,pts.get hz);ext pQ hi ep hp;have ok:=pok.ok p (Zk hp);obtain⟨⟨dx2,hp2⟩,⟨kvs,hk2,_⟩,_⟩:=id pic2;show(d8,ple,pok.le,kW z (dF ez));show(bw,⟨a,dx2,_,rfl,hp2,br,?_⟩,⟨a,dp,do_,w,ph,yZ,p.nm,p.x,p.y,p.sd,p.lo,p.hi,.int p.hi,rfl,⟨47,pic2,wu,ok.nm,ok.x1,ok.x2,ok.y1,⟨47,ok.y2,ok.sd,ok.l1,ok.l2,ok.l3,aq p' hp',⟨?_,aI H3 k3 pic3⟩⟩⟩⟩)
   .have e:=ep.symm;ext cW;show(aE,zfx pok.nn,zfx pok.nx,zfx pok.ny)
   .rw [Jn];omega
   .refine iA ⟨124,_,_,_,_,rfl,(qz,k3 b u (xi e fdp) (s2 b u e)),?_,k3 _ _ (ne_f hd2 hk2) hd2⟩;ext cD ZR hp pic3
  .rintro Z H2 (⟨v5,v6,v7,v8,⟨v9,v10,v11,v12,rfl,s2,pic2,hd2⟩⟩:121);ext zqp; rw[Za,pl,Jg] at pic2;refine nT m (dF hm)
   let Pv (i:Nat) (Z:L2.St) (H3:Hp):Prop:=zng (jx,Z,[CT,Cu,Ae,aB m,dN,v5,v6,v7,v8,v9,v10,v11,v12],gX H3,Pic t H3 a dp do_ w ph ps,Sts H3 do_ (ss.take i))
   show(AD,II,(iA ⟨124,_,_,_,_,rfl,s2,pic2,jz [] hd2 rfl Yf ap⟩),(fun _ _ _ _ ⟨_,_,_,_,_,_,_,_,_,z,_⟩=>aW (z _ _ hm)))
   .rintro i v Z H3 hv (⟨v5,v6,v7,v8,⟨v9,v10,v11,v12,rfl,s3,pic3,st3⟩⟩:121);rw[Zc] at hv;ext mF z hz hv;show(ag,s0,hs0,ez,sts.get hz);ext pQ hi es hs0;ext F8 r s0;obtain⟨r1,r2⟩:=srow _ (Zk hs0);obtain⟨⟨dx3,hp3⟩,_,_⟩:=id pic3;have nin:jy∉ss.take i:=fun hmem=>by
     have:=xc1 id (by simpa using snd) hi _ hmem;exact this (eG es)
    refine kW z (dS ez);show(bw,⟨a,dx3,_,rfl,hp3,br,?_⟩,⟨a,dp,do_,w,ph,ps,ss.take i,b,r,rfl,⟨47,pic3,st3,r1,r2,nin,?_,bX H4 k4 pic4 st4⟩⟩)
    .rw [Jn];omega
    .refine iA ⟨124,_,_,_,_,rfl,(C5,k4 c u (xi e fdo) (s3 c u e)),pic4,?_⟩;ext cD ZR hs0 st4
   .rintro Z H3 (⟨v5,v6,v7,v8,⟨v9,v10,v11,v12,rfl,s3,pic3,st3⟩⟩:121);rw[Za,sl,Jg] at st3;exact (q H3 a dp do_ s3 hx fdp fdo pic3 st3)
inductive xw5 (t:Adr) (f:bb Int Int Pt Pt) (g:Int->Seat->Seat) (vs:af) (H:Hp) (Q:VK) (_:XK):Prop
 | mk (a dp do_:Addr) (pw ph:Int) (ps:ao) (ss:ai) (e_:xC) (r_:(ay,Pic t H a dp do_ pw ph ps,qV,xbt pw ph ps,SsOk ph ss,∀(H':Hp) (a' dp' do':Addr) (ss':ai),bg bB (bu a') (bu dp') (bu do') (jt,zeW,ss'.Pairwise xbx,Pic t H' a' dp' do' pw ph (ps.map (f pw ph)),Sts H' do' (ss'.map (g ph)),a')))
theorem SsOk.perm {h:Int}{ss ss':ai} (p:zeW) (o:SsOk h ss):SsOk h ss':=⟨p.nodup_iff.mpr o.1,(aA,p.length_eq,bc o),(h8,o.2.2 s (p.mem_iff.mp hs))⟩
theorem ok_x (T:aL):FnOk true P w K mg base aH 7 t.f_x t.d_x iF (xw5 t (fun _ _ p=>p) (fun _ s=>s)):=by
 refine T.F_x.okn (k:=6) sc_x (aM h) (fun cdv A outer s H vs Q E hr h=>?_)
 .obtain ⟨a,dp,do_,pw,ph,ps,ss,rfl,_⟩:=h;rfl
 .obtain ⟨a,dp,do_,pw,ph,ps,ss,rfl,h⟩:=h;show(mV,pC (ok_af T) hr T.g_af T.F_af.kp T.b_af (xa bo (xa bo (hZ (xal aQ T.c_a T.m_h CV aC T.b_h .nil xq) (xal aQ T.c_a T.m_n Gm aC T.b_n .nil xq)))));obtain⟨pic,st,pok,sok,q⟩:45:=h;obtain⟨⟨dx,hp⟩,_,w1,w2,h1,h2,_⟩:=uA;show(bw,⟨a,_,dx,_,_,rfl,PB ⟨a,_,dx,_,_,rfl,hp,T.c_a,T.n_bq,lkH,a,dx,_,rfl,hp,br,a,dp,do_,pw,ph,ps,rfl,pic,fun H1 l1 qs s1 hl1 pt1=>?_⟩⟩,⟨a,dx,_,rfl,iG,br,a,dp,do_,pw,ph,ps,ss,rfl,Cn,st.same s1,fun l2 ss' rs fr sl pm pw'=>?_⟩);show(av,s2,Same H1 (upd H1 l2 (.lst (rs.map V.ref))),bP fr,⟨pw,ph,l1,l2,ps,qs,ss',rs,rfl,⟨47,bW w1 w2 h1 h2,dF hl1,pt1.keep (Same.tups s2),pok,xk,sl.keep (Same.tups s2),⟨sok.perm pm,fun H' a' dp' do' s3 f1 f2 f3 pic' st'=>?_⟩⟩⟩);exact q H' a' dp' do' ss' (s1.trans (s2.trans s3)) ((i5).free f1) ((i5).free f2) ((i5).free f3) pm pw' (zmm pic') (zmm st')
theorem xpx {x d:Int} (h:0<d) (h2:d<=4294967296):-qr<x % d/\x % d<qr:=by
 show(ah,a,Int.emod_nonneg x (fh,d≠0),b,Wu x h);ext aO aa aa
theorem xbd (x:Int) {d:Int} (h:0<d):0<=x % d/\x % d<d:=⟨Int.emod_nonneg _ aa,Wu _ h⟩
inductive xu4 (K:Zd) (vs:af) (H:Hp) (Q:VK) (_:XK):Prop
 | mk (a:Addr) (ns:dD) (k:Int) (e_:vs=(nN bq k)) (r_:(aR,RR,0<=k,k<iL,∀ c:Int,mP c))
inductive xxj (vs:af) (H:Hp) (Q:VK) (_:XK):Prop
 | mk (c k:Int) (e_:vs=(C2 c k)) (r_:∀ m:Int,0<=m->m<2147483587->(mP m))
noncomputable def abc:Str:="abcdefghijklmnopqrstuvwxyz"
theorem xtz:abc.cps.toList=(Zu 26).map (97+·):=aK
noncomputable def ltr (i:Int):Str:=⟨#[EZ]⟩
theorem xth {i:Int} (h0:0<=i) (h1:i<26):(ae,atI abc.cps.toList i,EZ):=by
 show(d6,j,Jy h0);have lt:j<26:=aa
 refine xb9 ?_;rw[xtz,Zc,J8 lt];rfl
theorem xur {i j:Int} (hi:0<=i) (hj:0<=j) (h:ltr i=ltr j):i=j:=by
 unfold ltr at h;show(HE,congrArg zoK h)
theorem xq3 {i:Int} (h0:0<=i) (h1:i<26):isNm (ltr i)=true:=by
 unfold isNm ltr;have g1:¬ ([EZ]<[97]):=by rw[List.cons_lt_cons_iff]; rintro (z|⟨_,z⟩); omega; cases z
 have g2:¬ ([122]<[EZ]):=by rw[List.cons_lt_cons_iff]; rintro (z|⟨_,z⟩); omega; cases z
 show ((dU 1 1)&&(zpT [EZ]))=true;rw[qU g1,qU g2];rfl
noncomputable def xew:dD:=[1,3,5,7,9,11,15,17,19,21,23,25]
theorem xtq (m:Int):∃ s:Int,atI (xew.map V.int) (m % 12)=(bH s)/\s∈xew:=by
 show(Xn,12);obtain⟨j,hj⟩:=Jy h0;rw[hj] at h1 ⊢;have lt:j<xew.length:=by show j<12; omega
 show(aE,xew[j],xb9 (d7 Zc ij),JD lt)
inductive xs0 (vs:af) (H:Hp) (Q:VK) (_:XK):Prop
 | mk (c:Int) (n:Nat) (e_:vs=(C2 c n)) (r_:n<=26/\∀(s:Int) (H':Hp) (l:Addr),(bb,s∈xew,bB,gS l (.lst ((Zu n).map zjF)),nF l))
inductive xrl (vs:af) (H:Hp) (Q:VK) (_:XK):Prop
 | mk (c sz:Int) (n:Nat) (e_:(wY,.int c,.int sz,n)) (r_:iM<=sz/\sz<=30/\∀(zs:dD) (H':Hp) (l:Addr),zs.length=n->(jt zs.Nodup zpG bB (gS l zad) l))
inductive xu9 (vs:af) (H:Hp) (Q:VK) (_:XK):Prop
 | mk (c:Int) (e_:vs=[.int c]) (r_:∀(w h:Int) (H':Hp) (p:Addr),1<=w->kM->(jt,1<=h,jV,bB,vt p (C2 w h),p))
theorem ok_ae (T:aL):FnOk true P w K mg base aH 1 t.f_ae t.d_ae znM (xu4 K):=by
 refine T.F_ae.okn (k:=0) sc_ae (aM h) (fun cdv A outer s H vs Q E hr h=>?_)
 .ext Py a ns k
 .obtain ⟨a,ns,k,rfl,h⟩:=h;refine⟨_,xh (jC (on xf8 1 (mG 0)) (db (xaf xa1 aQ bT gK)))
   (db (Gx (jD xdz (xo) 1))),?_⟩
  refine sq2 ?_; intros; ext Bg; ext kq hs k0 k1 q h;refine(fP,a,.inl hs,Cv);refine ite2 (cH c) (cH c)
  .have c':k<(cV ns.length):=jL
   show(d6,j,Jy k0);have lt:j<ns.length:=aa
   exact jw a _ _ (xJ,hs,xb9 (d7 Zc ij),q _)
  .exact ⟨.inl fK,q _⟩
theorem ok_bg (T:aL):FnOk true P w K mg base aH 1 t.f_bg t.d_bg ["_law_cell_here", "_law_k"] (xxj):=by
 refine T.F_bg.okn (k:=0) sc_bg (aM h) (fun cdv A outer s H vs Q E hr h=>?_)
 .ext xY c k
 .ext yq c k;refine⟨_,xh (pS 2 sc_bg.nd (oH (xv xdz (xv xba aQ (jD xdz (xo) 1)) (xo))))
   (xh (pS 2 sc_bg.nd (oH (jD xdz gW 2)))
   (db (oH (jD xba (xv xba (jD xdz gW 2) (jD xdz (xo) 2)) 1)))),?_⟩
  refine sq3 ?_; intros; refine(bW,.inl fK,.inr fK,j7 2147483647,?_);show(bw,(eX,.inl (xpx au au),j7 2147483629),(bW,.inl (xpx au au),.inl fK,j7 2147483587,?_));exact h _ (zk).1 (zk).2
theorem ok_bf (T:aL):FnOk true P w K mg base aH 1 t.f_bf t.d_bf ["_law_cell_here", "_law_many"] (xs0):=by
 refine T.F_bf.okn (k:=0) sc_bf (aM h) (fun cdv A outer s H vs Q E hr h=>?_)
 .ext xY c n
 .ext yq c n;refine⟨_,xh (ve 2 sc_bf.nd (xa4))
   (by
   with_reducible refine' xh ?a ?b
   case a =>
    with_reducible refine' xc4 (i:=3) ?n ?i ?x ?e ?s ?f
    case n=>exact sc_bf.nd
    case i=>rfl
    case x=>exact Qb rfl
    case f=>exact YI rfl
    case e =>
     with_reducible refine' xaf (r:=rIxL K) ?r ?l ?j ?p
     case r=>exact xa1
     case j=>exact oH (wL aQ)
     case p=>exact gK
     case l =>
      with_reducible refine' xb2 ?pa
      case pa =>
       with_reducible show(qI,?q1)
       case q1 =>
        with_reducible show(qI,?q2)
        case q2 =>
         with_reducible show(qI,?q3)
         case q3 =>
          with_reducible show(qI,?q4)
          case q4 =>
           with_reducible show(qI,?q5)
           case q5 =>
            with_reducible show(qI,?q6)
            case q6 =>
             with_reducible show(qI,?q7)
             case q7 =>
              with_reducible show(qI,?q8)
              case q8 =>
               with_reducible show(qI,?q9)
               case q9 =>
                with_reducible show(qI,?q10)
                case q10 =>
                 with_reducible show(qI,?q11)
                 case q11 =>
                  with_reducible show(qI,?q12)
                  case q12 =>
                   exact xg
    case s=>rfl
   case b =>
    exact (db (xa6 rfl (xay (zs:=["_law_k"]) (ys:=["_law_letters", "_law_cell_here", "_law_step"]) (fr:=[2,0,3]) (N0:=zgY) (sc0:=xm s_bf) aK rfl rfl rfl) (xdt rfl T.n_range ia) jY jR eC (fun _ _ _ _ _=>xaf xvg (pv 1) (oH (xv xba gW (jD xdz fZ 0))) gK)))),?_⟩
  refine sq3 ?_; intros; ext hX hn h;show(ag,s,es,ms,xtq (c / 26));show(bw,⟨(HR 12),fun q0 hq0=>⟨fK,(j7 12),q0,_,_,.int s,rfl,rfl,aW xk,es,?_⟩⟩,(jz,iM,rfl,aa,aa,aq l hl));show(cK,s1,gX (eO q0 (.lst (xew.map V.int))),bP hq0,xc8 n (fF,xs,H2,xs=(Zu i).map zjF/\ua/\K8) ?_ ?_ ?_ ?_)
  .exact (GC,xw s1 hl,xk)
  .rintro i xs H2 lt _;show i<(gP n).toNat;simpa using lt
  .rintro i xs H2 v H3 lt (⟨rfl,s2,hl2⟩:43) ⟨rfl,rfl⟩ N hN;refine xoc ?_;refine⟨.inl ?_,(j7 26),abc,_,_,rfl,rfl,aK,xth (zk).1 (zk).2,hl2,?_,?_⟩
   .have hs:∀ z∈xew,(r8 z z 25):=au
    have:=hs s ms;constructor<;>omega
   .rw [Za,ZW];exact ZQ (aa:i<27) au
   .refine hN _ _ ⟨?_,wn,xk⟩
    .rw [Yo,Zt];simp[ltr]
    .rw [fW kH hl];exact s2 b u e
  .rintro xs H2 (⟨rfl,s2,hl2⟩:43);show(aO,b6 Itr,q s H2 l ms s2 (by simpa using hl2))
theorem ok_az (T:aL):FnOk true P w K mg base aH 2 t.f_az t.d_az U7 (xrl):=by
 refine T.F_az.okn (k:=1) sc_az (aM h) (fun cdv A outer s H vs Q E hr h=>?_)
 .ext Py c sz n
 .obtain ⟨c,sz,n,rfl,h⟩:=h;refine⟨_,xh (pS 3 sc_az.nd (Vb (hZ (xo) (Gx bT))))
   (xh (pS 4 sc_az.nd (xb2 (xg)))
   (xh (Ho (fD 2) 5 sc_az.nd (oP (xev Jp Yz Yy xdr df (xa (xev Jp PySem.F.slot_list_pop PySem.F.type_list_pop xq5 fZ (xa (xv xa3 (pC (ok_bg T) hr T.g_bg T.F_bg.kp T.b_bg (fC 0 5)) (mG 3)) (xg))) (xg)))))
   (tw 4))),?_⟩
  refine sq4 ?_; intros; ext oR n1 n2;show(bw,(bQ,1,sz+1,rfl,dX ⟨105,p,1,sz+1,rfl,xk,HG,aa,aq lf hlf⟩),h7 WG fd hfd);ext sy; have hr0:rngL 1 (sz+1)=((Zu sz.toNat).map (wI,i,rQ+cL)).map V.int:=by
   unfold rngL;rw[Z8,(fR,(sz+1-1).toNat,sz.toNat,aa)];rfl
  rw[hr0] at hfd ⊢;show(av,nfd,fd≠lf,kQ xk hfd,jz iM rfl aa aa ?_);refine xc5 (Pv:=fun i Z H2=>∃(zs ls:dD) (v5:cc),Z=[wR,bH sz,bH n,aB lf,aB fd,v5]/\(rH lf (.lst (ls.map V.int)))/\(rH fd zad) /\
   zs.length=i/\(bM,ls.length+i,sz.toNat,zs.Nodup,(ay ls.Nodup (∀ z∈zs,z∉ls) zpG (∀ z∈ls,(r8 z z sz)) ua))) ?_ ?_ ?_
  .refine ⟨106,[],(Zu sz.toNat).map (wI,i,rQ+cL),_,rfl,?_,xk,rfl,ap,⟨46,Yf,?_,(fun z h=>nomatch h),(fun z h=>nomatch h),rg,xw (xw (bP hp) hlf) hfd⟩⟩
   .ext LR nfd
   .refine Je.map _ (aI a b h) Qr;intro z;apply h;omega
   .show(fj,i,hi,rfl,Zf.mp hz);rw[ZJ] at hi;omega
  .rintro i Z H2 hi (⟨zs,ls,v5,rfl,h1,h2,e1,e2,⟨d1,d2,d3,b1,b2,s2⟩⟩:106);have hi':f7:=Hy
   show(av,lp,0<ls.length,aa,(Aw,vA h2,vA h1,c,_,aI m m0 m1));have lp':m7<(zh zee):=zK
   obtain⟨k0,k1⟩:=xbd m lp';obtain⟨j,hj⟩:=Jy k0;have jl:j<ls.length:=by
    have z:=k1;rw[hj,Za] at z;omega
   show(lY,gy,zee[j]?,some (V.int ls[j]),(d7,Zc,Zb jl),⟨84,lf,_,rfl,gM h1,lp',iK lf _ _ j ⟨66,_,rfl,rfl,h1,aa,?_,⟨?_,gy,fd,zs.map V.int,_,rfl,rfl,?_,?_,?_⟩⟩⟩)
   .rw [Za] at k1;have:(cV ls.length)<Gk:=aa
    omega
   .rw [seqIndex_of k0 k1,hj];rfl
   .show(cq,xj nfd,h2)
   .rw [Za];exact ZQ (aa:zs.length<31) au
   .obtain ⟨a1,a2,a3,a4⟩:44:=Geo.erase_ok d2 (Zb jl);have em:(zee).eraseIdx j=(ls.eraseIdx j).map V.int:=by simp[Y0,Yv,Yw]
    have el:=List.length_eraseIdx_of_lt jl;refine⟨106,zs++[ls[j]],ls.eraseIdx j,_,rfl,?_,?_,?_,?_,⟨46,?_,a1,?_,?_,(uh,b2 z (a3 z hz)),?_⟩⟩
    .rw [kP nfd,xk,em]
    .rw [xk,Zt];rfl
    .rw [Zr,e1];rfl
    .omega
    .rw [ZB];exact⟨d1,by simp,fun a ha b hb=>by
      show(C8,Zn.mp hb);intro z;exact d3 a ha (z▸a4)⟩
    .intro z hz
     rcases Lx with y|y
     .exact fun k=>d3 z y (a3 z k)
     .ext C8 zB;exact a2
    .intro z hz
     rcases Lx with y|y
     .exact b1 z y
     .ext C8 zB;exact b2 _ a4
    .intro b u e
     have nb1:b≠lf:=fun z=>by
      subst z;rw[zE] at hlf;ext cF e hlf hlf
     have nb2:b≠fd:=fun z=>by
      subst z;rw[xj nb1,zE] at hfd;ext cF e hfd hfd
     rw[xj nb2,xj nb1];exact s2 b u e
  .rintro Z H2 (⟨zs,ls,v5,rfl,h1,h2,e1,e2,⟨d1,d2,d3,b1,b2,s2⟩⟩:106);exact (q zs H2 fd zaY d1 b1 s2 h2)
theorem ok_bl (T:aL):FnOk true P w K mg base aH 1 t.f_bl t.d_bl OF (xu9):=by
 refine T.F_bl.okn (k:=0) sc_bl (aM h) (fun cdv A outer s H vs Q E hr h=>?_)
 .ext Hu c
 .ext Io c;refine⟨_,xh (jC (HX aQ) (sW (hZ N5 N5)))
   (sW (hZ N5 N5)),?_⟩
  refine sq2 ?_; intros; ext Bg; refine(EF,8,rK d d)
  .refine ⟨46,fK,(j7 16),fK,(j7 10),cR,(dX,h _ _ _ p ?_ ?_ ?_ ?_ (bP hp) xk)⟩
   .show(On,8,16)
   .show(Om,8,16)
   .show(On,240,10)
   .show(Om,240,10)
  .refine ⟨46,fK,(j7 9),fK,(j7 7),cR,(dX,h _ _ _ p ?_ ?_ ?_ ?_ (bP hp) xk)⟩
   .show(On,8,9)
   .show(Om,8,9)
   .show(On,72,7)
   .show(Om,72,7)
noncomputable abbrev Pr:=Pt × Bool × Int
noncomputable def prV (p:Pr):af:=Ci aU CB dO
inductive PrsL (H:Hp):bE aF aw
 | nil:PrsL H [] []
 | cons {p:Pr}{q:Addr}{ps:aF}{qs:aw} (h:D0 p) (r:EA):PrsL H (p::ps) rZ
theorem PrsL.keep {H H':Hp} (s:kh) {ps:aF}{qs:aw} (h:EA):PrsL H' ps qs:=by
 induction h with
 | nil=>ext ig
 | cons h _ ih=>ext Ib
theorem PrsL.len {H:Hp}{ps:aF}{qs:aw} (h:EA):zQ qs.length:=by
 induction h with
 | nil=>rfl
 | cons _ _ ih=>simp[ih]
theorem PrsL.get {H:Hp}{ps:aF}{qs:aw} (h:EA) {i:Nat}{q:Addr} (e:B4):∃ p,Fj/\(D0 p):=by
 induction h generalizing i with
 | nil=>ext sr
 | @cons p q' ps qs h _ ih =>
  cases i with
  | zero =>
   ext Lm p
  | succ j=>ext wO
structure PrOk (ps:ao) (w h:Int) (p:Pr):Prop where
 nm:og aU
 fd:GZ aU aJ
 r1:1<=dO
 r2:dO<=h
 xy:(aR,1<=(aJ).x,(aJ).x<=w,1<=(aJ).y,(aJ).y<=h)
theorem xvn (qs:aw) (k:Nat):cutV (qs.map V.ref) (some (jq+1)) none=(qs.drop cU).map V.ref:=by
 show(zir,(fh,(jq+1)=(gP cU)))
 by_cases c:cU<=qs.length
 .rw [Nat.min_eq_left c,Ju ap]
 .rw [zsp,List.drop_length,List.drop_of_length_le aa];simp
theorem PrsL.drop {H:Hp}{ps:aF}{qs:aw} (h:EA) (k:Nat):PrsL H (ps.drop k) (qs.drop k):=by
 induction h generalizing k with
 | nil=>simpa using PrsL.nil
 | cons h r ih =>
  cases k with
  | zero=>ext si h r
  | succ k=>exact ih k
noncomputable def cel (w:Int) (p:Pr):iz:=Geo.cells w (aJ).x (aJ).y m5 dO
noncomputable abbrev Tr:=Str × Str × gf
noncomputable def xbq (w:Int) (p:Pr):Int:=lenI w (aJ).x (aJ).y m5 dO
theorem xrw {ps:ao}{w h:Int}{p:Pr} (o:Rn) (hw:kM) (hh:jV):(X7,xbq w p):=by
 obtain⟨_,_,r1,r2,x1,x2,y1,y2⟩:=o;unfold xbq lenI;ext Pw
inductive xui (t:Adr) (vs:af) (H:Hp) (Q:VK) (_:XK):Prop
 | mk (a dp do_ l:Addr) (pw ph:Int) (ps:ao) (prs:aF) (qs:aw) (e_:wz l) (r_:(znT,Pic t H a dp do_ pw ph ps,(prs.map (xbq pw)).sum))
theorem xfg (T:aL):FnOk true P w K mg base aH 6 t.f_total t.d_total iy (xui t):=by
 refine T.F_total.okn (k:=5) xr8 (aM h) (fun cdv A outer s H vs Q E hr h=>?_)
 .obtain ⟨a,dp,do_,l,pw,ph,ps,prs,qs,rfl,_⟩:=h;rfl
 .obtain ⟨a,dp,do_,l,pw,ph,ps,prs,qs,rfl,h⟩:=h;show(UX,xa6 rfl (xay (zs:=DC) (ys:=nY) (fr:=[0]) (N0:=iy) (sc0:=xm xhj) aK rfl rfl rfl) uq o4 qK eC (fun _ _ _ _ _=>xae fZ T.c_a T.m_s (ok_s T) aC T.b_s .nil xq (lX 0 oz)));obtain⟨pic,hl,pr,ok,len,q⟩:46:=h;obtain⟨⟨dx,hp⟩,_,w1,w2,h1,h2,_⟩:=uA;show(jo,zbl,xc8 qs.length (fF,zs,H2,zs=(((prs.take i).map (xbq pw)).map V.int)/\ua/\(Ij l1 zs)) ?_ ?_ ?_ ?_)
  .exact ⟨ap,bP hl1,xk⟩
  .rintro i zs H2 lt (⟨_,s2,_⟩:43);exact(bQ,_,.ref Dc,zdX,b6 lt)
  .rintro i zs H2 v H3 lt (⟨rfl,s2,hl2⟩:43) ⟨rfl,hv⟩ N hN;ext zdC zdX;ext mF o ho hv';show(ag,p,hpp,ep,pr.get ho);show(d8,okp,ok p (Zk hpp),kW o (dF ep));refine xsb ?_;show(bw,⟨a,dx,_,rfl,dF hp,br,a,dp,do_,pw,ph,ps,aU,aJ,m5,dO,rfl,pY s2,okp.nm,okp.fd,okp.r1,okp.r2,Kr⟩,⟨cO hl2,?_,hN _ _ ⟨?_,wn,xk⟩⟩)
   .rw [Za,Za,Jn];exact ZQ (aa:min i prs.length<13) au
   .rw [ZR,hpp,Zt,Zt];rfl
   .show(cq,oZ hl1,cO (s2 b u e))
  .rintro zs H2 (⟨rfl,s2,hl2⟩:43);rw[pr.len,Jg] at hl2;refine⟨cI zdX ap,l1,prs.map (xbq pw),rfl,aW hl2,zdI,q _ s2⟩;ext dW p hp' hn;exact xrw (ok p hp') w2 h2
noncomputable def acrI (w:Int) (p:Pr):Int:=if m5 then (aJ).x else w+1-(aJ).x
noncomputable def uprI (w:Int) (p:Pr):Int:=Ul*M3
theorem xu6 {a b:Int} (a0:0<=a) (a1:a<=1000) (b0:0<=b) (b1:b<=1000):(np,a*b,1000000):=by
 show(dI,Int.mul_nonneg a0 b0,?_);have h1:=Int.mul_le_mul_of_nonneg_right a1 b0;have h2:1000*b<=1000*1000:=Int.mul_le_mul_of_nonneg_left b1 au;exact Int.le_trans h1 h2
theorem xuy {ps:ao}{w h:Int}{p:Pr} (o:Rn) (hw:kM) (hh:jV):X7 Uk:=by
 obtain⟨_,_,r1,r2,x1,x2,y1,y2⟩:=o;have z:=xu6 (a:=Ul) (b:=M3) Ob Ob Tw Tw;unfold uprI;omega
inductive xue (t:Adr) (vs:af) (H:Hp) (Q:VK) (_:XK):Prop
 | mk (a dp do_ q0:Addr) (pw ph:Int) (ps:ao) (p:Pr) (e_:wz q0) (r_:(aR,Pic t H a dp do_ pw ph ps,zfh q0 p,PrOk ps pw ph p,∀ H',bB->(LM (uprI pw p))))
inductive xxd (t:Adr) (vs:af) (H:Hp) (Q:VK) (_:XK):Prop
 | mk (a dp do_ l:Addr) (pw ph:Int) (ps:ao) (prs:aF) (qs:aw) (e_:wz l) (r_:(znT,Pic t H a dp do_ pw ph ps,(prs.map (uprI pw)).sum))
noncomputable def mayB (ss:ai) (p:Pt) (s:Seat):Bool:=(cP rT)&&tX
noncomputable def excB (ss:ai) (p p':Pr):Bool:=zaF&&mayB ss p'.1 bO
inductive xtg (t:Adr) (vs:af) (H:Hp) (Q:VK) (_:XK):Prop
 | mk (a dp do_ o1 o2:Addr) (pw ph:Int) (ps:ao) (ss:ai) (p p':Pr) (e_:vs=(rq bq o1 o2)) (r_:Pic t H a dp do_ pw ph ps/\qV/\(Rf,zfh o1 p,zfh o2 p',PrOk ps pw ph p,PrOk ps pw ph p',excB ss p p'))
noncomputable def canO (w:Int) (ss:ai) (p p':Pr):dG gf:=if excB ss p p' then Geo.meet (cel w p) (cel w p') else none
noncomputable def canF (w:Int) (ss:ai) (p:Pr) (r:aF):List Tr:=r.filterMap fun p'=>(zcu).map fun c=>(aU,iu p',c)
noncomputable def cans (w:Int) (ss:ai):aF->List Tr
 | []=>[]
 | oS=>zoQ
theorem xpr {w:Int}{ss:ai}{p p':Pr}{r:aF}:canF w ss p (p'::r)=(match zcu with|some c=>[(aU,iu p',c)]|none=>[])++canF w ss p r:=by
 unfold canF;rw[J9];cases zcu<;>rfl
noncomputable def TrV (H:Hp) (o:dG Tr) (v:V):Prop:=(TL,o,none,∃ c q qc,aR (ae o c) Um (oY [.str c.1,.str (bc c),.ref qc]) (j8 qc (C2,bc c.2,(b8 c).2)))
inductive xwv (t:Adr) (vs:af) (H:Hp) (Q:VK) (_:XK):Prop
 | mk (a dp do_ l:Addr) (pw ph:Int) (ps:ao) (ss:ai) (prs:aF) (qs:aw) (e_:wz l) (r_:Pic t H a dp do_ pw ph ps/\(ay,qV,Fh,kX,AH pw ph,∀ H' v,bB->TrV H' (HW prs) v->CW))
theorem ok_a0 (T:aL):FnOk true P w K mg base aH 6 t.f_a0 t.d_a0 zfg (xue t):=by
 refine T.F_a0.okn (k:=5) sc_a0 (aM h) (fun cdv A outer s H vs Q E hr h=>?_)
 .obtain ⟨a,dp,do_,q0,pw,ph,ps,p,rfl,_⟩:=h;rfl
 .obtain ⟨a,dp,do_,q0,pw,ph,ps,p,rfl,h⟩:=h;refine⟨_,xh (DB 1 2 sc_a0.nd (gJ 3 sc_a0.nd 4))
   (xh (E9 (xae aQ T.c_a T.m_m (ok_m T) aC T.b_m .nil xq (fD 2)) (gJ 5 sc_a0.nd 6))
   (db (xv xdz (xgq (xae (pC FP hr T.g_a6 T.F_a6.kp T.b_a6 (ja 3 bo)) T.c_an T.m_u (ok_u T) aC T.b_u .nil xq (fD 5)) (xae (pC FP hr T.g_a6 T.F_a6.kp T.b_a6 (ja 3 bo)) T.c_ac T.m_p (ok_p T) aC T.b_p .nil xq (fD 5))) (Vn nI 4)))),?_⟩
  refine sq3 ?_; intros; ext kq pic hq0 ok q h;ext uV dx0;show(m9,q0,hq0,⟨a,dx0,_,rfl,hp,br,a,dp,do_,pw,ph,ps,aU,aJ,rfl,pic,ok.nm,ok.fd,zlO⟩);have hp1:=iG;obtain⟨_,_,r1,r2,x1,x2,y1,y2⟩:=id ok;show(ah,w2,pic.w2,h2,pic.h2);show(cG,sm,-qr<acrI pw p/\acrI pw p<qr,Ob,qq,q);unfold uprI acrI at qq;unfold acrI at sm;cases hb:m5 with
  | true =>
   rw[hb] at qq sm;refine .inl ⟨a,_,_,_,_,rfl,ziJ true⟩;ext Kn sd3;exact⟨p3,ds,_,rfl,hs,Nq,_,_,rfl,_,rfl,.inl sm,zsc⟩
  | false =>
   rw[hb] at qq sm;show(Ax,⟨a,_,_,_,_,rfl,ziJ false⟩);show(Kn,id sd3);exact⟨p3,ds,_,rfl,hs,Nq,p3,pw,_,rfl,sd3,_,rfl,.inl sm,zsc⟩
theorem xno (T:aL):FnOk true P w K mg base aH 7 t.f_upright t.d_upright iy (xxd t):=by
 refine T.F_upright.okn (k:=6) xn6 (aM h) (fun cdv A outer s H vs Q E hr h=>?_)
 .obtain ⟨a,dp,do_,l,pw,ph,ps,prs,qs,rfl,_⟩:=h;rfl
 .obtain ⟨a,dp,do_,l,pw,ph,ps,prs,qs,rfl,h⟩:=h;show(UX,xa6 rfl (xay (zs:=["pair"]) (ys:=nY) (fr:=[0]) (N0:=iy) (sc0:=xm xfp) aK rfl rfl rfl) uq jY jR eC (fun _ _ _ _ _=>pC (ok_a0 T) hr T.g_a0 T.F_a0.kp T.b_a0 (fC 1 0)));obtain⟨pic,hl,pr,ok,len,q⟩:46:=h;obtain⟨⟨dx,hp⟩,_,w1,w2,h1,h2,_⟩:=uA;refine zbl;have ql:=pr.len;refine xbf (aW hl) N4 hl1 (uD,∃ p,pU/\y=.int (uprI pw p)) (fun i y H H' tp h=>h) (fun i x H2 hx s2 N hN=>?_) (fun ys H2 s2 el ly f=>?_)
  .ext Cd;ext yT;show(ag,p,hpp,ep,pr.get ho);have okp:=ok p (Zk hpp);exact⟨a,dp,do_,o,pw,ph,ps,p,rfl,(bW,pY s2,dF ep,okp,fun H4 s4=>nM s4 (cE p hpp))⟩
  .have ey:ys=(prs.map (uprI pw)).map V.int:=by
    ext j5 ql ly;refine QB (cH i);by_cases c:i<ys.length
    .show(fj,p,h1,h2,f i _ (Zb c));rw[Zb c,Zc,Zc,h1,h2];rfl
    .rw [Jh aa,Jh iZ]
   subst ey;refine(Av,l1,prs.map (uprI pw),aW el,zdI,q _ s2);ext dW p hp' hn;exact xuy (ok p hp') w2 h2
theorem ok_am (T:aL):FnOk true P w K mg base aH 6 t.f_am t.d_am Dx (xtg t):=by
 refine T.F_am.okn (k:=5) sc_am (aM h) (fun cdv A outer s H vs Q E hr h=>?_)
 .obtain ⟨a,dp,do_,o1,o2,pw,ph,ps,ss,p,p',rfl,_⟩:=h;rfl
 .obtain ⟨a,dp,do_,o1,o2,pw,ph,ps,ss,p,p',rfl,h⟩:=h;refine⟨_,xh (DB 1 3 sc_am.nd (gJ 4 sc_am.nd 5))
   (xh (DB 2 6 sc_am.nd (gJ 7 sc_am.nd 8))
   (db (xdi (xae aQ T.c_a T.m_aa (ok_aa T) aC T.b_aa .nil xq (kG 3 7 8)) (xe9 (xae aQ T.c_a T.m_aa (ok_aa T) aC T.b_aa .nil xq (kG 6 4 5)))))),?_⟩
  refine sq3 ?_; intros; obtain⟨pic,st,e1,e2,k1,k2,q⟩:47:=h;ext uV dx0;show(m9,o1,e1,kW o2 e2);show(bw,⟨a,dx0,_,rfl,hp,br,a,dp,do_,pw,ph,ps,ss,aJ,bc p',b8 p',rfl,pic,st,k1.nm,k1.fd,k2.r1,k2.r2,qY⟩,wv)
  .refine ⟨a,dx0,_,rfl,iG,br,a,dp,do_,pw,ph,ps,ss,p'.1,m5,dO,rfl,Cn,st.same s1,k2.nm,k2.fd,k1.r1,k1.r2,aq H2 s2⟩;have z:=q H2 (s1.trans s2);unfold excB at z;show(yY,vP zaF c,YE)
  .have z:=q H1 s1;unfold excB at z;show(yY,show zaF=false from Ja.mpr c,Qd)
theorem xd1 (T:aL):FnOk true P w K mg base aH 8 t.f_exchangeable t.d_exchangeable iy (xwv t):=by
 refine T.F_exchangeable.okn (k:=7) xcl (aM h) (fun cdv A outer s H vs Q E hr h=>?_)
 .obtain ⟨a,dp,do_,l,pw,ph,ps,ss,prs,qs,rfl,_⟩:=h;rfl
 .obtain ⟨a,dp,do_,l,pw,ph,ps,ss,prs,qs,rfl,h⟩:=h;refine⟨_,xh (xbe ZF rfl (xl2 rfl T.n_enumerate ia) (xav rfl (gJ 2 xcl.nd 3)) (xl (xbe ZF rfl (xaj (xed xg3 (pv 1) (xee (xv xba gW (xo))) xfz)) (pN 4 xcl.nd) (xl (xar (xb3 (pC (ok_am T) hr T.g_am T.F_am.kp T.b_am (kG 0 3 4))) (xh (pS 5 xcl.nd (pC (xii T) hr T.g_meeting T.F_meeting.kp T.b_meeting (kG 0 3 4)))
   (lu (TQ 5) (sW (xa (yk 3) (xa (yk 4) (fD 5)))))) (xad))))))
   (db (xc0)),?_⟩
  refine sq2 ?_; intros; refine fq ?_; intros; obtain⟨pic,st,hl,pr,ok,q⟩:46:=h;refine(su,l,aW hl)
  show(Nn,∃(v2 v3 v4 v5:cc),(bM,Z,[dN,Ae,v2,v3,v4,v5],ua,cans pw ss (prs.drop i)=cans pw ss prs))
  refine xq1 (xs:=vH) (Pv:=Pv) ⟨123,_,_,_,_,rfl,i6,rfl⟩ (fun _ _ _ _ ⟨_,_,_,_,_,z,_⟩=>aW (z _ _ hl)) ?_ ?_
  .rintro i x p Z H2 hx hp (⟨v2,v3,v4,v5,rfl,s2,ea⟩:123);rw[Zc] at hx;ext yT;show(ag,P1,hP1,eP1,pr.get ho);have ok1:=ok P1 (Zk hP1);show(av,sp,Same H2 zrP,bP hp,kW p xk);refine fo ?_; intros; show(d9,cL+1,rfl,(fP,l,aW (sp _ _ (dF hl)),aq p4 hp4));rw[xvn];have s4:Same H2 (upd zrP p4 (.lst ((qs.drop aX).map V.ref))):=sp.trans (bP hp4);have pr2:=pr.drop aX;have ed:prs.drop i=P1::Kc:=by
    ext pQ h1 h2 hP1
    rw[Yl h1,h2]
   rw[ed] at ea;refine nT p4 xk
   let Pv (j:Nat) (Z:L2.St) (H5:Hp):Prop:=∃(v4 v5:cc),(jx,Z,[dN,Ae,bH i,aB o,v4,v5],Mg,(ae,H5 p4,.lst ((qs.drop aX).map V.ref)),canF pw ss P1 ((Kc).drop j)++cans pw ss (prs.drop aX)=cans pw ss prs)
   refine xbp (xs:=(qs.drop aX).map V.ref) (Pv:=Pv)
    ⟨84,_,_,rfl,s2.trans s4,xk,ea⟩ (fun _ _ _ _ ⟨_,_,_,_,z,_⟩=>aW z) ?_ ?_
   .rintro j x Z H5 hx (⟨v4,v5,rfl,s5,hp5,ea5⟩:84);ext NK; rw[Zc] at hx;ext mF o2 ho2 hx;show(ag,P2,hP2,eP2,pr2.get ho2);have ok2:=ok P2 (List.mem_of_mem_drop (Zk hP2));have ed2:(Kc).drop j=P2::(Kc).drop gH:=by
     ext pQ h1 h2 hP2;rw[Yl h1,h2]
    rw[ed2,xpr] at ea5;show(bw,⟨a,dp,do_,o,o2,pw,ph,ps,ss,P1,P2,rfl,⟨47,pY s5,st.same s5,cB eP1,cB eP2,ok1,ok2,aq H6 s6⟩⟩,C4 cx)
    .ext Ea; have s56:=s5.trans s6;refine⟨a,dp,do_,pw,ph,ps,o,o2,iu P1,iu P2,P1.1,P2.1,bc P1,bc P2,b8 P1,b8 P2,rfl,⟨46,pY s56,s56 _ _ eP1,s56 _ _ eP2,cA ok1.nm ok1.fd ok1.r1 ok1.r2 ok1.xy,cA ok2.nm ok2.fd ok2.r1 ok2.r2 ok2.xy,bX H7 v s7 mv⟩⟩;ext WP; have mv':xsd H7 (canO pw ss P1 P2) v:=by
      unfold canO;ext cD cx cp mv
     rcases mv' with⟨em,rfl⟩|⟨c,q6,em,rfl,hq6⟩
     .rw [em] at ea5;refine(je,ifN jr ?_);exact⟨84,_,_,rfl,s56.trans s7,oU (dL hp5),ea5⟩
     .rw [em] at ea5;refine(je,ifP jr ?_);have s57:=s56.trans s7;refine(jw,o,0,_,T4 (s57 _ _ eP1) ⟨o2,_,0,_,rfl,rfl,cm (s57 _ _ eP2),rfl,tG,aq p7 hp7⟩);show(cK,s8,Same H7 (fA H7 p7 [.str (iu P1),.str (iu P2),.ref q6]),bP hp7,q _ _ (s57.trans s8) (.inr ⟨104,(iu P1,iu P2,c),p7,q6,?_,rfl,xk,qJ hq6⟩));rw[<- ea5];rfl
    .have em:canO pw ss P1 P2=none:=by
      unfold canO;rw[az cx]
     rw[em] at ea5;exact⟨84,_,_,rfl,EJ,dL hp5,ea5⟩
   .rintro Z H5 (⟨v4,v5,rfl,s5,hp5,ea5⟩:84);refine⟨123,_,_,_,_,rfl,s5,?_⟩;show(j5,List.drop_of_length_le (l:=Kc) (by rw[pr2.len]; exact Zl _),ea5);exact ea5
  .rintro Z H2 (⟨v2,v3,v4,v5,rfl,s2,ea⟩:123);rw[Za,pr.len,List.drop_length] at ea;exact q _ _ s2 (.inl (lL,by rw[<- ea]; rfl))
noncomputable def exP (p1 p2 p:Pr):Pr:=(aJ,(kf,aU,jg,p2.2,kf aU jh p1.2 bO))
theorem xnm {p1 p2:Pr}{A:aF} (h:∀ p∈A,aU≠jg/\aU≠jh):A.map S6=A:=by
 induction A with
 | nil=>rfl
 | cons p A ih =>
  rw[Zp,ih fun p' hp=>h p' (Zi _ hp)]
  congr 1
  show(F9,b,h p Zm);unfold exP;rw[if_neg a,az b]
theorem xpf {prs A B C:aF}{p1 p2:Pr} (nd:(prs.map (·.1.nm)).Nodup) (e:prs=zqx):prs.map S6=zqg/\jg≠jh:=by
 ext cW;rw[Zt,ZB] at nd;obtain⟨_,n2,n3⟩:43:=nd;rw[Zp,Z5,Zt,Zp,ZB] at n2;obtain⟨m1,_,m3,m4⟩:44:=n2;rw[Z5] at m3;show(av,ne,jg≠jh,(aj,m1 (lA z)),⟨?_,ne⟩);rw[Zt,Zp,Zt,Zp];rw[xnm (A:=A),xnm (A:=B),xnm (A:=C)]
 .unfold exP;rw[cp,if_neg (Z2 ne),cp]
 .intro p hp
  show(dI,(aj,m1 ?_),(aj,m3.1 ?_))
  .rw [<- z];exact Z4 _ (Zi _ Le)
  .ext PD z
 .intro p hp
  show(dI,(aj,m1 ?_),(aj,m4 _ Le _ Zm z));show(jp,z,ZH _ Le)
 .intro p hp
  ext dI zrx zrx
theorem xjb {w:Int}{ss:ai}{tr:Tr}:∀{prs:aF},tr∈(Gu prs)->(zii,tr=(jg,jh,c))
 | [],h=>ft
 | oS,h=>by
  rcases Zv.mp h with z|z
  .show(fj,p',hp',e,JQ.mp z);show(ag,c,hc,e2,Ze.mp e);show(Gy,B,C,e3,List.append_of_mem hp');exact iK [] p B p' (aZ,C,c,eS e3,hc,e2.symm)
  .obtain ⟨A,p1,B,p2,⟨C,c,e,h1,h2⟩⟩:121:=xjb z;exact(iK,p::A,p1,B,p2,aZ C c ur h1 h2)
inductive Sd (H:Hp):bE aF bD
 | nil:Sd H [] []
 | cons {p:Pr}{t:Addr}{ps:aF}{kvs:bD} (h:Ty) (r:EK):Sd H (p::ps) ((iU,.inr aU,t)::kvs)
theorem Sd.keep {H H':Hp} (s:kh) {ps:aF}{kvs:bD} (h:EK):Sd H' ps kvs:=by
 induction h with
 | nil=>ext ig
 | cons h _ ih=>ext Ib
theorem Sd.len {H:Hp}{ps:aF}{kvs:bD} (h:EK):zQ kvs.length:=by
 induction h with
 | nil=>rfl
 | cons _ _ ih=>simp[ih]
theorem Sd.keys {H:Hp}{ps:aF}{kvs:bD} (h:EK):kvs.map (·.1)=ps.map (fun p=>Jb aU):=by
 induction h with
 | nil=>rfl
 | cons _ _ ih=>simp[ih]
theorem Sd.get {H:Hp}{ps:aF}{kvs:bD} (h:EK) {i:Nat}{k:Key}{x:V} (e:nU):∃ p,Fj/\k=.inr aU:=by
 induction h generalizing i with
 | nil=>ext sr
 | @cons p q ps kvs h _ ih =>
  cases i with
  | zero =>
   simp at e;show(se,p,e.1.symm)
  | succ j=>ext wO
theorem Sd.find {H:Hp}{ps:aF}{kvs:bD} (h:EK) (nd:(ps.map (·.1.nm)).Nodup) {p:Pr} (m:zX):∃ t,(ED aU)=(aB t)/\Ty:=by
 induction h with
 | nil=>cases m
 | @cons p' t ps kvs h _ ih =>
  ext vS;rcases eJ m with rfl|z
  .exact ⟨t,xbo rfl,h⟩
  .show(fj,t',h1,h2,ih gD z);show(d9,t',?_,h2);show(aD,xbh (fun e=>nd.1 (Zf.mpr ⟨p,z,(Jb.inj e).symm⟩)),h1)
theorem xh0 {k:Key}:∀{kvs:bD},k∉kvs.map (·.1)->zaI
 | [],_=>rfl
 | kv::r,h=>by
  ext F9 b kv;rw[xbh (fun e=>h (cY e Zm))];exact xh0 (aj,h (Zi _ z))
theorem xfl {d:Addr}{H:Hp}:∀{kvs kv0:bD},((kv0++kvs).map (·.1)).Nodup->(kv0++kvs).length<1000->xep d (fS H d kv0) (Rg (KQ,kv.2)) (fS H d (kv0++kvs))
 | [],kv0,_,_=>by
  show(aD,YV,.nil)
 | kv::kvs,kv0,nd,hl=>by
  have fr:valV kv0 iR=none:=xh0 fun z=>by
   show(uM,Zt,ZB,nd,(gD).2 _ z _ Zm rfl)
  have hp:=DPut.k (k:=iR) (v:=kv.2) (xk (H:=H) (a:=d) (o:=.dK kv0)) (ZQ (by rw[Zr] at hl; omega:kv0.length<1000) au);rw[xez,xcx _ fr] at hp;show(ie,ih,xfl (d:=d) (H:=H) (kvs:=kvs) (kv0:=kv0++[kv]) (aA QC nd) (aA QC hl),QC);ext si hp ih
theorem xkp {H:Hp}:∀{prs:aF}{ys:af},(zS prs.length)->(∀(i:Nat) (y:V) (p:Pr),TB->pU->∃ q t,wy/\(oY (C3 aU t))/\Ty) ->
    ∃(ws:El) (kvs:bD),ys=ws.map (fun p=>V.ref aJ)/\(∀ p∈ws,(j8 aJ [m5,dO]))/\ws.map (·.2)=(Rg (KQ,kv.2))/\Sd H prs kvs
  | [],[],_,_=>⟨84,[],[],rfl,fun p h=>(nomatch h),rfl,.nil⟩
  | [],dc,h,_=>ft
  | dc,[],h,_=>ft
  | p::prs,nu,hl,h=>by
    obtain⟨q,t,e1,e2,e3⟩:83:=h 0 y p rfl rfl;obtain⟨ws,kvs,a1,a2,a3,a4⟩:84:=xkp (prs:=prs) (ys:=ys) (Nat.succ.inj hl) fun i y' p' hy hp=>h aX y' p' hy hp
    refine⟨84,(q,.str aU,.ref t)::ws,(iU,.inr aU,t)::kvs,d7 e1 a1,aq p' hp',by rw[Zp,Zp,a3]; rfl,.cons e3 a4⟩;rcases eJ hp' with rfl|z
    . exact e2
    . exact a2 _ z
theorem PrsL.pick {H:Hp}:(zhC,aF,(∀(j:Nat) (y:V) (s:Pr),(A8,ss,s,∃ q,wy/\(D0 s))),PrsL H ss rs)
 | [],[],_,_=>eV [] .nil
 | [],dc,h,_=>ft
 | dc,[],h,_=>ft
 | s::ss,nu,hl,h=>by
  show(zU,q,h 0 y s rfl rfl);show(ag,rs,e3,e4,PrsL.pick (ss:=ss) (ys:=ys) (Nat.succ.inj hl) fun j y' s' hy hs=>h gH y' s' hy hs)
  show(aE,q::rs,d7 e1 e3,.cons e2 e4)
noncomputable def xkr (kvs:bD) (i:Nat):V:=match kvs[i]? with|some kv=>KQ|none=>.non
theorem xoh {Z:L2.St}{fr:rp}{te:TE}{l d:Addr}{H1:Hp}{Q:VK}{ob:Obj}{kvs:bD} (hd:(ae,H1 d,OR)) (hl:vM) (hn:HV) (F:Mb) (stab:GE)
    (step:∀(i:Nat) (k:Key) (x:V) (H2:Hp),nU->kZ->∀(N:wV),(∀ y H',KG->UH->N y H')->te ((zeZ).set 0 (some (kV k))) H2 N)
    (fin:Dq kvs.length (O0 Lw)):xeh (Itkd d ob kvs) 1 (xcp 0) Z fr xeg te l H1 Q:=by
  refine xjj kvs.length hn hl (xkr kvs) (fun i H lt s=>⟨s _ _ hd,lt⟩) (fun i H v H' lt s y=>?_) (fun H s=>⟨s _ _ hd,bv⟩) Kd F stab (fun i H2 lt s N M h1 h2=>?_) (fun ys H2 s e ly f=>?_)
  . obtain⟨e,k,x,hk,hv⟩:=y
    show(dI,e,?_);unfold xkr;rw[hk,hv]
  . obtain⟨⟨k,x⟩,hk⟩:∃ y,ba kvs y:=eE ij
    have ek:xkr kvs i=kV k:=by
      unfold xkr;rw[hk]
    show(aD,ek,xh5 (i:=i) (step i k x H2 hk s N zlc))
  . rw[L2.filter_all,ZW] at ly
    refine fin ys H2 s e ly zoE;rw[L2.filter_all,J8 (gO zD)]
inductive xyh (K:Zd) (vs:af) (H:Hp) (Q:VK) (_:XK):Prop
 | mk (l:Addr) (prs:aF) (qs:aw) (p1 p2:Pr) (e_:vs=[mX,.str jg,.str jh]) (r_:Fh/\kX/\(prs.map (·.1.nm)).Nodup/\(ay,qR,p1∈prs,p2∈prs,jg≠jh,∀ H' l' qs',(jt,bB,bu l',gS l' zrh,PrsL H' Op qs',l')))
theorem xk2 (T:aL):FnOk true P w K mg base aH 1 t.f_exchanged t.d_exchanged WA (xyh K):=by
 refine T.F_exchanged.okn (k:=0) xe2 (aM h) (fun cdv A outer s H vs Q E hr h=>?_)
 .obtain ⟨l,prs,qs,p1,p2,rfl,_⟩:=h;rfl
 .obtain ⟨l,prs,qs,p1,p2,rfl,h⟩:=h;refine⟨_,xh (ve 3 xe2.nd (Ay (xa6 rfl (xay (zs:=["each", "side", "row"]) (ys:=[]) (fr:=[]) (N0:=Vc) (sc0:=xm xdj) aK rfl rfl rfl) (w4 0) o4 qK eC V2)))
   (xh (ve 4 xe2.nd (xta (xln bT gW (xln gW bT (xu0))) rfl rfl ap au))
   (db (xa6 rfl (xay (zs:=["each"]) (ys:=["seats", "giver"]) (fr:=[3,4]) (N0:=Vc) (sc0:=xm xdj) aK rfl rfl rfl) (xs3 (pv 3)) jY jR eC (Vw (yO 1 (xlc fU gW aQ aQ HF)))))),?_⟩
  refine sq3 ?_; intros; obtain⟨hl,pr,nd,len,m1,m2,⟨ne,q⟩⟩:47:=h;show(d8,ql,pr.len,zbl);refine xbf (aW hl) N4 hl1 (VA pU) (fun i y H H' tp ⟨p,q,t,a1,a2,a3,a4⟩=>⟨104,p,q,t,a1,a2,iS a3,iS a4⟩) (fun i x H2 hx s2 N hN=>?_) (fun ys H1 s1 el1 ly f1=>?_)
  .ext Cd;ext yT;show(ag,p,hpp,ep,(pr.keep (Same.tups s2)).get ho);show(m9,o,ep,zbE zct);ext Xa X6;show(zcT,⟨104,p,q2,q1,hpp,rfl,xk,sb _ _ xk⟩)
  ext j5 ql ly;obtain⟨ws,kvs,rfl,w2,w3,sd1⟩:84:=xkp (H:=H1) (prs:=prs) (ys:=ys) ly fun i y p hy hp=>by
   obtain⟨p',q',t',a1,a2,a3,a4⟩:104:=f1 i y hy;ext zlq
  have kl:=sd1.len;have knd:(kvs.map (·.1)).Nodup:=by
   ext UT nd
  ext zgG;generalize eu:fS H1 d kvs=H2;ext Ej s2 hd g2 sd2 zpa;refine fun gd hgd=>⟨xk,gB W5 (by show 2<=15; decide) ?_⟩
  rw[xez];show(Hc,fS H2 gd (xfa [] W5),hgd);show(ah,g23,FH,sd3,sd2.keep (Same.tups s3));show(av,ngd,gd≠d,(aj,sJ g2 hgd),(uP,d,kvs,g23,aI ob l4 hl4));show(kJ,nl4,l4,d,sJ xk hl4)
  have hl43:H3 l4=none:=by rwa [xj nl4] at hl4
  show(rA,k4,d,(ae,H3 b,u),qD H3 d OR,Tm)
  show(cK,t4,Tups H3 (upd H3 d (.frz ob (.dK kvs))),(jj,k4 _ _ (ne_f e g23) e),xoh xk hl4 (CF kvs.length 13) (uD,∃ p q,pU/\wy/\(D0 IR)) (fun i y H H' tp ⟨p,q,a1,a2,a3⟩=>(aZ,p,q,a1,a2,iS a3)) (fun i k x H5 hk s5 N hN=>?_) (fun ys H5 s5 el5 ly5 f5=>?_))
  .show(fj,p,hpp,rfl,sd3.get hk);show(ah,mp,Zk hpp,sd5,(sd3.keep t4).keep (Same.tups s5));show(ah,gd5,cB (k4 _ _ ngd g3),d5,cB (xk (H:=H3) (a:=d) (o:=OR)));show(h9,iN leS1,q1,hq1);have s6:=Kg [.str aU] hq1;obtain⟨r,hr,ev,es⟩:∃ r∈prs,(valV (xfa [] W5) (Jb aU)).getD (.str aU)=V.str Ad/\(IR).2=r.2:=by
    show ∃ r∈prs,(valV (putK (putK [] (Jb jg) (V.str jh)) (Jb jh) (V.str jg)) (Jb aU)).getD (.str aU)=V.str Ad/\(IR).2=r.2;rw[xcg,xcg];unfold exP;by_cases c1:aU=jg
    .refine (bL,p2,m2,?_,aN c1);rw[az (aj,ne (c1.symm.trans (Jb.inj z))),CH c1];rfl
    .by_cases c2:aU=jh
     .refine (bL,p1,m1,?_,bR Mn Mj);rw[CH c2];rfl
     .refine (bL,p,mp,?_,bR Mn Mm);rw[az (aj,c2 (Jb.inj z)),az (aj,c1 (Jb.inj z))];rfl
   show(ag,t,ht1,ht2,(sd5.keep (Same.tups s6)).find nd hr);refine(gB,gd,.inl (eE,.inl (dL gd5)),⟨_,wU aU (dL gd5),d,.ref t,rfl,?_,q1,t,_,_,rfl,rfl,cm xk,cm ht2,ap,tG,G9,fun _ q2 hq2=>?_⟩)
   .rw [show kV (Jb aU)=V.str aU from rfl,ev];show(dR,(kL,kvs,.inr Ad,.inr ⟨ob,dL d5⟩,ht1.symm))
   .refine nM (s6.trans (bP hq2)) (kL p q2 hpp ?_);rw[xk];unfold prV;rw[(fR,(IR).1,aJ,rfl),(fR,(IR).2,r.2,es)];rfl
  .obtain ⟨rs5,rfl,pr5⟩:62:=PrsL.pick (H:=H5) (ss:=Op) (ys:=ys) (mh ly5 kl Za) fun j y s hy hs=>by
    obtain⟨p,q',a1,a2,a3⟩:83:=f5 j y hy;ext zfE a1;ext aE q' a2 a3
   have s03:=(i5).trans s3;refine q H5 l4 rs5 (qz,cB (k4 _ _ (xi kH hd) (s03 _ _ e))) (s03.free hl43) el5 pr5
noncomputable def totI (w:Int) (prs:aF):Int:=(prs.map (xbq w)).sum
noncomputable def upI (w:Int) (prs:aF):Int:=(prs.map (uprI w)).sum
noncomputable def nmF (n:Str) (p:Pr):Bool:=dU aU n
noncomputable def nxtP (w:Int) (ss:ai) (prs:aF):aF:=match zcG with
 | some tr=>match IN tr.1,IN (bc tr) with
  | some p1,some p2=>Op
  | _,_=>prs
 | none=>prs
noncomputable def itP (w:Int) (ss:ai) (prs:aF):Nat->aF
 | 0=>prs
 | cU=>Bv
noncomputable def trP (w:Int) (ss:ai) (prs:aF):Tr:=(zcG).getD ("", "",0,0)
noncomputable def stP (w:Int) (ss:ai) (prs:aF) (k:Nat):Tr × gf:=(trP w ss qS,totI w (itP w ss prs cU),upI w (itP w ss prs cU))
structure GPr (ps:ao) (w h:Int) (prs:aF):Prop where
 ok:AH w h
 nn:(prs.map (·.1.nm)).Nodup
 ns:(prs.map (·.2)).Nodup
 le:qR
theorem xhf {prs:aF} (nd:(prs.map (·.1.nm)).Nodup) {p:Pr} (h:p∈prs):ae (IN aU) p:=by
 induction prs with
 | nil=>cases h
 | cons q ps ih =>
  ext vS;rcases Zq.mp h with rfl|z
  .exact Ya (b6 nmF)
  .rw [Qj]
   .exact ih gD z
   .intro e
    exact nd.1 (Zf.mpr ⟨p,z,(zah).symm⟩)
theorem x_ne {ps:ao} (nx:(ps.map (·.x)).Nodup):∀{p q:Pt},(bb,zX,q∈ps,p.nm≠q.nm,p.x≠q.x):=by
 induction ps with
 | nil=>intro p q h; cases h
 | cons r ps ih =>
  intro p q hp hq hn e;rw[Zp,Z5] at nx;rcases FJ with rfl|z
  .rcases eJ hq with rfl|z2
   .exact hn rfl
   .exact nx.1 (Zf.mpr ⟨q,z2,e.symm⟩)
  .rcases eJ hq with rfl|z2
   .exact nx.1 (Zf.mpr ⟨p,z,e⟩)
   .exact ih nx.2 z z2 hn e
theorem xt2 {ps:ao}{w h:Int}{p:Pr} (o:Rn) (hw:kM) (hh:jV):(np,xbq w p,45):=by
 obtain⟨_,_,r1,r2,x1,x2,y1,y2⟩:=o;unfold xbq lenI;ext Pw
theorem xu7 {ps:ao}{w h:Int}{p:Pr} (o:Rn) (hw:kM) (hh:jV):np Uk 450:=by
 obtain⟨_,_,r1,r2,x1,x2,y1,y2⟩:=o;have a0:np Ul 30:=Ob
 have b0:np M3 15:=Tw
 unfold uprI;show(dI,Int.mul_nonneg a0.1 b0.1,?_);show(ah,h1,Int.mul_le_mul_of_nonneg_right a0.2 b0.1,h2,Int.mul_le_mul_of_nonneg_left b0.2 (sP,m7<=30));exact Int.le_trans h1 h2
theorem xoe {f:Pr->Int}{c:Int} (c0:0<=c):∀{prs:aF},(∀ p∈prs,(np,f p,c))->(np,(prs.map f).sum,c*(cV prs.length))
 | [],_=>ap
 | oS,h=>by
  show(ah,h1,h p Zm,h2,xoe c0 (prs:=r) fun q hq=>h q (Zi _ hq));rw[Zp,Jr,Z6];rw[(fh,(gP,r.length+1)=(cV r.length)+1),Int.mul_add,Int.mul_one];omega
theorem GPr.tot {ps:ao}{w h:Int}{prs:aF} (g:Ec) (hw:kM) (hh:jV):np sY 540:=by
 show(ah,z,xoe (f:=xbq w) (c:=45) au (dX,xt2 (g.ok p hp) hw hh),l,g.le);unfold totI;omega
theorem GPr.up {ps:ao}{w h:Int}{prs:aF} (g:Ec) (hw:kM) (hh:jV):np K5 5400:=by
 show(ah,z,xoe (f:=uprI w) (c:=450) au (dX,xu7 (g.ok p hp) hw hh),l,g.le);unfold upI;omega
theorem xk5 {ps:ao}{w h:Int}{ss:ai}{prs:aF}{tr:Tr} (nx:(ps.map (·.x)).Nodup) (g:Ec) (ht:ae zcG tr) :
    ∃ A p1 B p2 C c,prs=A++p1::(B++p2::C)/\canO w ss p1 p2=some c/\tr=(jg,jh,c)/\jg≠jh/\vD=prs.map S6/\vD=zqg/\GPr ps w h vD /\
      (totI w vD<sY\/(bM,bc p1,bc p2,totI w vD=sY,K5<upI w vD)):=by
  obtain⟨A,p1,B,p2,⟨C,c,e,hc,et⟩⟩:121:=xjb (List.mem_of_mem_head? ht);obtain⟨em,ne⟩:=xpf g.nn e;ext VW prs
  show(ah,o1,g.ok p1 m1,o2,g.ok p2 m2);have en:vD=prs.map S6:=by
    unfold nxtP;rw[ht];subst et;show (match IN jg,IN jh with
    | some p1,some p2=>Op
    | _,_=>prs)=_
    rw[xhf g.nn m1,xhf g.nn m2]
  have el:=en.trans em;have hm:Geo.meet (cel w p1) (cel w p2)≠none:=fun z=>by
    unfold canO at hc;rw[z] at hc;ext LQ hc
  have hx:p1.1.x≠p2.1.x:=x_ne nx (ZC o1.fd) (ZC o2.fd) ne;have hs:(bc p1,b8 p1)≠(bc p2,b8 p2):=fun z=>by
    have nn:=g.ns;rw[e,Zt,Zp,ZB,Z5] at nn;exact (bc nn).1 (lA,fR p1.2 p2.2 z)
  show(d8,key,Geo.ex_pair (y1:=p1.1.y) (y2:=p2.1.y) o1.xy.1 (bc o1.xy) o2.xy.1 (bc o2.xy) hx hs hm,iK A p1 B p2 ⟨86,C,c,e,hc,et,ne,en,eX el ⟨lv,?_,?_,?_⟩⟩)
  . rw[el] at hp
    have old:∀ q,q∈A\/q∈B\/q∈C->q∈prs:=fun q hq=>by
      rw[e];simp only[Zv,Zq];rcases hq with z|z|z
      . ext dR z
      . show(eF,.inr (.inl z))
      . show(TV,.inr (.inr z))
    simp only[Zv,Zq] at hp;rcases hp with z|rfl|z|rfl|z
    . exact g.ok p (old p (.inl z))
    . exact⟨o1.nm,o1.fd,o2.r1,o2.r2,o1.xy⟩
    . exact g.ok p (old p (.inr (.inl z)))
    . exact⟨o2.nm,o2.fd,o1.r1,o1.r2,o2.xy⟩
    . exact g.ok p (old p (.inr (.inr z)))
  . show(ie,nn,g.nn,e);rw[el];simpa using nn
  . show(ie,nn,g.ns,e);rw[el];refine (JB.nodup_iff ?_).mp nn;simp only[Zt,Zp];refine JB.append_left _ ?_;exact ((Qq.cons p1.2).trans (JB.swap _ _ _)).trans (Qq.symm.cons p2.2)
  . show(cD,en,Za,g.le)
  . have t0:sY=(RA A p1 (RA,B,p2,totI w C)):=by
      unfold totI;rw[e];simp
    have t1:totI w vD=(RA A EO (RA,B,EQ,totI w C)):=by
      unfold totI;rw[el];simp
    have u0:K5=upI w A+(uprI w p1+(upI w B+(uprI w p2+upI w C))):=by
      unfold upI;rw[e];simp
    have u1:upI w vD=upI w A+(uprI w EO+(upI w B+(uprI w EQ+upI w C))):=by
      unfold upI;rw[el];simp
    have key2:(zpX<zpY)\/(bM,bc p1,bc p2,zpX=zpY,uprI w p1+uprI w p2<uprI w EO+uprI w EQ):=key;rcases key2 with z|⟨z1,z2,z3⟩
    . ext dR aa
    . show(eF,⟨z1,aa,aa⟩)
noncomputable def muP (w:Int) (prs:aF):Nat:=(sY*6000+(6000-K5)).toNat
inductive StL (H:Hp):bE Ks aw
 | nil:StL H [] []
 | cons {p:Tr × gf}{t q:Addr}{ps:Ks}{ts:aw} (h:zhi) (hq:zlU) (r:Se):StL H (p::ps) (t::ts)
theorem StL.keep {H H':Hp} (s:kh) {ps:Ks}{ts:aw} (h:Se):StL H' ps ts:=by
 induction h with
 | nil=>ext ig
 | cons h hq _ ih=>exact .cons (s _ _ h) (s _ _ hq) ih
theorem StL.len {H:Hp}{ps:Ks}{ts:aw} (h:Se):zQ ts.length:=by
 induction h with
 | nil=>rfl
 | cons _ _ _ ih=>simp[ih]
theorem StL.snoc {H:Hp}{ps:Ks}{ts:aw} (h:Se) {p:Tr × gf}{t q:Addr} (e:zhi) (eq:zlU):StL H FE (ts++[t]):=by
 induction h with
 | nil=>exact .cons e eq .nil
 | cons h hq _ ih=>exact .cons h hq ih
inductive xxr (K:Zd) (t:Adr) (vs:af) (H:Hp) (Q:VK) (_:XK):Prop
 | mk (a dp do_ l:Addr) (pw ph:Int) (ps:ao) (ss:ai) (prs:aF) (qs:aw) (e_:wz l) (r_:Pic t H a dp do_ pw ph ps/\qV/\Fh/\kX/\GPr ps pw ph prs/\(ps.map (·.x)).Nodup/\∀(H':Hp) (tp ln ls:Addr) (n:Nat) (qs' sq:aw),bb bB (bu ln) (vt tp (j4 Mu ls)) (bg,gS ln zrh,PrsL H' (KL n) qs',gS ls zae,StL H' ((Zu n).map (stP pw ss prs)) sq,(jt,(∀ k<n,(HW oI)≠none),(∀ k,GPr ps pw ph oI),cans pw ss (KL n)=[],ln≠ls,tp)))
theorem xiz {ps:ao}{w h:Int}{ss:ai}{prs:aF} (nx:(ps.map (·.x)).Nodup) (g:Ec):∀ k,GPr ps w h qS
 | 0=>g
 | cU=>by
  have ih:=X9;show GPr ps w h Bv;cases e:(Gu qS).head? with
  | none =>
   unfold nxtP;ext aD e ih
  | some tr =>
   obtain⟨_,_,_,_,⟨_,_,_,_,_,_,_,_,g',_⟩⟩:121:=xk5 nx ih e;exact g'
theorem xlv (T:aL):FnOk true P w K mg base aH 9 t.f_uncrossed t.d_uncrossed iy (xxr K t):=by
 refine T.F_uncrossed.okn (k:=8) xb1 (aM h) (fun cdv A outer s H vs Q E hr h=>?_)
 .obtain ⟨a,dp,do_,l,pw,ph,ps,ss,prs,qs,rfl,_⟩:=h;rfl
 .obtain ⟨a,dp,do_,l,pw,ph,ps,ss,prs,qs,rfl,h⟩:=h;refine⟨_,xh (pS 2 xb1.nd (xbi xgw rfl T.n_list boot_list ia))
   (xh (pS 3 xb1.nd (xb2 (xg)))
   (xh (pS 4 xb1.nd (pC (xd1 T) hr T.g_exchangeable T.F_exchangeable.kp T.b_exchangeable Ly))
   (xh (xga ZF (TQ 4) (xh (DB 4 5 xb1.nd (gJ 6 xb1.nd 7))
   (xh (pS 2 xb1.nd (pC (xk2 T) hr T.g_exchanged T.F_exchanged.kp T.b_exchanged (kG 2 5 6)))
   (xh (xap (xev Jp Yz Yy xdr fZ (xa (xah (lX 5 (lX 6 (qw 7 (pC (xfg T) hr T.g_total T.F_total.kp T.b_total Ly) (pC (xno T) hr T.g_upright T.F_upright.kp T.b_upright Ly))))) (xg))))
   (xl (pS 4 xb1.nd (pC (xd1 T) hr T.g_exchangeable T.F_exchangeable.kp T.b_exchangeable Ly)))))))
   (sW tM)))),?_⟩
  refine sq5 ?_; intros; obtain⟨pic,st,hl,pr,g,nx,q⟩:47:=h;obtain⟨⟨dx0,hp⟩,_,w1,w2,h1,h2,_⟩:=uA;show(d8,gk,xiz (ss:=ss) nx g,(fP,l,gM hl,aq ln0 hln0));ext Xr ln0 jI hln0;ext h9 WG ls hls1;have fls:bu ls:=s1.free hls1;generalize eu:sv H1 ls=H2;ext uj s2 hls1;show(ah,g2,ug_e eu,s02,s1.trans s2);show(av,nls,ln0≠ls,xi g1 hls1,⟨a,dp,do_,ln0,pw,ph,ps,ss,prs,qs,rfl,⟨46,pY s02,st.same s02,FM,pr.keep (Same.tups s02),g.ok,bX H3 v s3 tv⟩⟩);ext zqv; ext O8;have mub:∀ k,muP pw oI<3300000:=fun k=>by
   show(ah,z1,(gk k).tot w2 h2,z2,(gk k).up w2 h2);unfold muP;omega
  refine(eX,fun m Z H5=>∃(k:Nat) (ln:Addr) (v v5 v6 v7:cc) (vf:V) (qs5 sq:aw),(jx,m,muP pw oI,k+m<=muP pw prs,Z=[dN,Ae,lH,aB ls,some vf,v5,v6,v7],(ay,Mg,bu ln,ln≠ls,(ae,H5 ln,zrg),(ay,PrsL H5 oI qs5,(ae,H5 ls,zae),StL H5 ((Zu k).map (stP pw ss prs)) sq,(∀ j<k,(HW (KL j))≠none),TrV H5 (HW oI) vf))),(fb,121,0,ln0,none,fb 121 _ _ v ⟨86,qs,[],rfl,(EU,0+muP pw prs,_),rfl,s03,hln0,⟨47,nls,dS FM,pr.keep (Same.tups s03),FH,.nil,fun j hj=>absurd hj (YS _),tv⟩⟩));rintro m Z H5 (⟨k,ln,_,v5,⟨v6,v7,vf,qs5,sq,rfl,km,rfl,s5,fln,nln,hln,pr5,hls5,st5,hk5,tv5⟩⟩:121);have sl:=st5.len;ext j5 ZW sl;have mb:=mub 0;rcases tv5 with⟨en,rfl⟩|⟨tr,qf,qc,et,rfl,hqf,hqc⟩
  .refine (je,ifN jr ?_);ext h9 cR tp htp;have s6:=Kg (j4 Mu ls) htp;exact q _ tp ln ls k qs5 sq EJ fln xk (dL hln) (pr5.keep (Same.tups s6)) (dL hls5) (st5.keep (Same.tups s6)) hk5 gk (List.head?_eq_none_iff.mp en) nln
  .refine (je,ifP jr ?_);obtain⟨A,p1,B,p2,⟨C,c,e,hc,et2,ne,en,el,g',dec⟩⟩:121:=xk5 nx (gk k) et;subst et2;ext VW oI
   have mlt:muP pw kD<muP pw oI:=by
    show(ah,z1,(gk k).tot w2 h2,z2,(gk k).up w2 h2);show(ah,z3,(Da).tot w2 h2,z4,(Da).up w2 h2);have dec':totI pw kD<totI pw oI\/(bM,bc p1,bc p2,totI pw kD=totI pw oI,upI pw oI<upI pw kD):=dec;unfold muP;omega
   let Pm (σ':L2.St) (H9:Hp):Prop:=∃(ln:Addr) (v5 v6 v7:cc) (vf:V) (qs5 sq:aw),(ay,σ'=[dN,Ae,lH,aB ls,some vf,v5,v6,v7],gX H9,bu ln,ln≠ls,(ay,(ae,H9 ln,zrg),PrsL H9 kD qs5,(ae,H9 ls,zae),StL H9 ((Zu cU).map (stP pw ss prs)) sq,TrV H9 (HW kD) vf))
   show(fX,Pm,?_)
   .rintro σ' H9 (⟨ln',v5,v6,v7,⟨vf,qs9,sq9,e1,e2,e3,e4,e5,e6,e7,e8,e9⟩⟩:121);refine cI mlt (iK,cU,ln',none,v5,iK v6 v7 vf qs9 ⟨66,sq9,rfl,aa,e1,e2,e3,⟨47,e4,e5,e6,e7,e8,aq j hj,e9⟩⟩);by_cases cj:j=k
    .subst cj;ext aD et dw
    .exact hk5 j aa
   refine sq4 ?_; intros; show(m9,qf,hqf,⟨ln,_,qs5,p1,p2,rfl,⟨47,hln,pr5,(gk k).nn,(gk k).le,m1,m2,⟨ne,fun H6 l6 qs6 s6 fl6 hl6 pr6=>?_⟩⟩⟩);rw[<- en] at pr6;have pr6':PrsL H6 kD qs6:=pr6;have s06:=s5.trans s6;have fl6':bu l6:=s5.free fl6;show(av,nl6,l6≠ls,(aj,sJ hls5 fl6),⟨vA (dL hls5),a,dp,do_,l6,pw,ph,ps,kD,qs6,rfl,pY s06,hl6,pr6',(Da).ok,(Da).le,aq H7 s7⟩);have s07:=s06.trans s7;show(bw,⟨a,dp,do_,l6,pw,ph,ps,kD,qs6,rfl,⟨46,pY s07,oU hl6,zoj,(Da).ok,(Da).le,aq H8 s8⟩⟩,h7 (iN leS5) p9 hp9);have s58:=(Sk).trans s8;show(w8,s9,Kg (VU,((kD).map (xbq pw)).sum,((kD).map (uprI pw)).sum) hp9,hls8,s9 _ _ (uN hls5),(Au,ls,_,_,xJ hls8 ?_ ?_))
   .rw [Za];exact ZQ (by have z:muP pw prs<3300000:=mb; omega:sq.length<3300000) au
   have np9:p9≠ls:=kQ (uN hls5) hp9;obtain⟨HA,eHA⟩:∃ HA,HA=(fw (fA H8 p9 (VU,((kD).map (xbq pw)).sum,((kD).map (uprI pw)).sum)) ls (sq.map V.ref++[.ref p9])):=eR
   have kA:pH ls (ae,H8 b,u) (ae,HA b,u):=fun b u nb e=>by
    show(cD,eHA,qF,s9 _ _ e)
   have tA:Tups H8 HA:=(jj,kA _ _ (ne_f e (uN hls5)) e);show(oW,s0A,gX HA,kA _ _ (xi e fls) (qJ (s07 _ _ e)));have gA:(ae,HA ls,.lst ((sq++[p9]).map V.ref)):=by
    rw[eHA,xk,Zt];rfl
   have gp:HA p9=some (.tup (VU,((kD).map (xbq pw)).sum,((kD).map (uprI pw)).sum)):=by
    show(cD,eHA,xj np9,xk)
   have hlA:=kA _ _ nl6 (qJ (oU hl6));show(ah,prA,((zoj).keep (Same.tups s8)).keep tA,stA,(st5.keep (Same.tups s58)).keep tA);rw[<- eHA];show(bw,⟨a,dp,do_,l6,pw,ph,ps,ss,kD,qs6,rfl,⟨46,pY s0A,st.same s0A,hlA,prA,(Da).ok,bX HB vB sB tvB⟩⟩,xI l6 _ ⟨106,vB,qs6,sq++[p9],rfl,s0A.trans sB,fl6',nl6,sB _ _ hlA,(bW,prA.keep (Same.tups sB),sB _ _ gA,?_,tvB)⟩);rw[Yo,Zt];refine StL.snoc (p:=stP pw ss prs k) (q:=qc) (stA.keep (Same.tups sB)) ?_ ?_
   .have etr:trP pw ss (itP pw ss prs k)=(p1.1.nm,p2.1.nm,c):=by
     unfold trP;rw[et];rfl
    unfold stP;rw[etr];exact sB _ _ gp
   .have etr:trP pw ss (itP pw ss prs k)=(p1.1.nm,p2.1.nm,c):=by
     unfold trP;rw[et];rfl
    unfold stP;rw[etr];exact sB _ _ (tA _ _ (uN hqc))
noncomputable abbrev seF (d1 d2:Addr):i7:=[iU "seat_of" d1,iU "holder_of" d2]
theorem lkSo {d1 d2:Addr}:(S5).lookup (du "seat_of")=(aB d1):=by
 unfold seF;show(vg,"seat_of")
theorem lkHo {d1 d2:Addr}:(S5).lookup (du "holder_of")=(aB d2):=by
 unfold seF;rw[Zy,Fn "holder_of" "seat_of"];show Jf (du "holder_of") [("holder_of",V.ref d2)]=_;show(vg,"holder_of")
theorem xll {d1 d2:Addr}{m:Str} (e:((["seat_of", "holder_of"]:am).all fun k=>S9)=true):(S5).lookup m=none:=by
 ext Ni;ext BW e1 e2 e;unfold seF;show(HZ,e1,[("holder_of",V.ref d2)]);rw[Zy,e2];rfl
noncomputable def SoD (H:Hp) (d:Addr) (n:Nat) (so:bC):Prop:=∃ kvs:bD,(sF d)/\kvs.length<=n/\∀ nm,((CL nm)->zH=none)/\∀ s,(ae,so nm,s)->∃ q,zH=CY/\Fs
noncomputable def HoD (H:Hp) (d:Addr) (n:Nat) (ho:aG):Prop:=∃ kvs:dC,(yc d)/\kvs.length<=n/\∀ s,HU=(ho s).map V.str
theorem SoD.keep {H H':Hp}{d:Addr}{n:Nat}{so:bC} (s:RL) (tp:kh) (h:Od d):SoD H' d n so:=by
 ext Ip;show(gG,kvs,h _ e,l,fun nm=>⟨(f nm).1,(h8,let ⟨q,a,b⟩:=(f nm).2 s hs; ⟨q,a,iS b⟩)⟩)
theorem HoD.keep {H H':Hp}{d:Addr}{n:Nat}{ho:aG} (s:RK) (h:Od d):HoD H' d n ho:=by
 ext ag kvs e r s;show(aE,kvs,h _ e,r)
theorem HoD.le {H:Hp}{d:Addr}{n k:Nat}{ho:aG} (s:RK) (h:n<=k):HoD H d k ho:=by
 ext zmw
theorem SoD.le {H:Hp}{d:Addr}{n k:Nat}{so:bC} (s:RL) (h:n<=k):SoD H d k so:=by
 ext zmw
theorem HoD.get {H:Hp}{d:Addr}{n:Nat}{ho:aG} (s:RK) {b:Addr}{c:Seat} (eb:mw b c):DGet H d uy ((ho c).map V.str):=by
 ext Ip;show(jp,f c,(Cg,x8 c,e,eb))
theorem HoD.put {H:Hp}{d:Addr}{n:Nat}{ho:aG} (s:RK) (hn:n<1000) {b:Addr}{c:Seat} (eb:mw b c) (x:Str) :
    (zgc,uy,lR,HoD H' d iX (Kp.upd1 ho c x)):=by
  ext Ip;refine⟨65,_,DPut.t (k:=x8 c) e eb (xb7 aa),bL _ xk ?_ lG,zno,zlu,zjL⟩
  . show(cy,xbs kvs (x8 c) (.str x))
  . ext zrb c
    . rw[CH zc,aN zc]
      rfl
    . rw[az (j3,zc (xem y)),az zc]
      exact f z
theorem SoD.put {H:Hp}{d:Addr}{n:Nat}{so:bC} (s:RL) (hn:n<1000) {b:Addr}{c:Seat} (eb:mw b c) (x:Str) :
    (zgc,lR,uy,SoD H' d iX (Kp.upd1 so x c)):=by
  ext Ip;show(av,tp,Tups H (fS H d (SE CU b)),zlu,⟨65,_,zt CU e (xb7 aa),bL _ xk ?_ lG,zno,tp,zjL⟩)
  . show(cy,xbs kvs CU (.ref b))
  . ext zrb x
    . subst zc
      rw[cp,cp];show(aO,Ig,h8 (eV,b,by cases hs; exact iS eb))
    . rw[az (j3,zc (Jb.inj y)),az zc]
      show(aO,(f z).1,(h8,let ⟨q,a1,a2⟩:=(f z).2 s hs; ⟨q,a1,iS a2⟩))
theorem SoD.get {H:Hp}{d:Addr}{n:Nat}{so:bC} (s:RL) (x:Str):((CL x)/\DGet H d lR none)\/∃ c q,(ae,so x,c)/\DGet H d lR CY/\(mw q c):=by
 ext Ip;have g:=wU x e;cases z:so x with
 | none =>
  rw[(f x).1 z] at g;show(dR,bY g)
 | some c =>
  show(zU,q,(f x).2 c z);rw[e1] at g;show(eF,uP c q g e2)
structure Sg (t:Adr) (H:Hp) (p d1 d2:Addr) (n:Nat) (so:bC) (ho:aG):Prop where
 ins:∃ dx,aT p (lW t.C_ak S5)
 so:SoD H d1 n so
 ho:HoD H d2 n ho
theorem Sg.keep {t:Adr}{H H':Hp}{p d1 d2:Addr}{n:Nat}{so:bC}{ho:aG} (g:Sg t H p d1 d2 n so ho) {d:Addr} (h1:p≠d) (h2:d1≠d) (h3:d2≠d) (tp:kh) (k:o8 d):Sg t H' p d1 d2 n so ho :=
 (znw,(lT,k _ _ h1 e),g.so.keep tp (ng,k _ _ h2 e),(ng,k _ _ h3 e))
theorem Sg.same {t:Adr}{H H':Hp}{p d1 d2:Addr}{n:Nat}{so:bC}{ho:aG} (g:Sg t H p d1 d2 n so ho) (s:bB):Sg t H' p d1 d2 n so ho :=
 (znw,lT rB,g.so.keep (Same.tups s) (ng rB),ng rB)
theorem Sg.le {t:Adr}{H:Hp}{p d1 d2:Addr}{n k:Nat}{so:bC}{ho:aG} (g:Sg t H p d1 d2 n so ho) (h:n<=k):Sg t H p d1 d2 k so ho:=⟨g.ins,g.so.le h,g.ho.le h⟩
noncomputable def KB (H H':Hp) (d1 d2:Addr):Prop:=∀ b u,(bb,b≠d1,b≠d2,jd,(ae,H' b,u))
inductive xra (t:Adr) (vs:af) (H:Hp) (Q:VK) (_:XK):Prop
 | mk (p dx:Addr) (e_:vs=[.ref p]) (r_:(aT p (lW t.C_ak []))/\∀ H' d1 d2,(bg,bu d1,bu d2,o8 p,Sg t H' p d1 d2 0 fe fe,kn))
structure xsk (room:gu) (so:bC) (asked:aG) (rk:Str->Nat) (name:Str):Prop where
 rm:∀ s a,pq->CS
 no:∀ s a,pq->(CL a)->a=name
 up:∀ s a,pq->∀ s1,(ae,so a,s1)->∃ a1,(ae,asked s1,a1)/\rk a1<rk a
 le:∀ s a,pq->rk a<=20
inductive xv7 (t:Adr) (vs:af) (H:Hp) (Q:VK) (_:XK):Prop
 | mk (p d1 d2 d3 q:Addr) (n m:Nat) (room:gu) (so:bC) (ho asked:aG) (rk:Str->Nat) (name a:Str) (s:Seat) (e_:vs=(rq wS d3 q)) (r_:Fs/\(ay,Sg t H p d1 d2 n so ho,HoD H d3 m asked,d3≠d2,n<=600,(ay,yg,BK,pq,xsk room so asked rk name,∀ H' so' ho',Rt->(gY dE BL)->(bg,Sg t H' p d1 d2 (n+30) so' ho',OG,Hm (IV||sM),yb sE (Fa so ho),kn))))
theorem ok_ar (T:aL):FnOk true P w K mg base aH 1 t.f_ar t.d_ar iF (xra t):=by
 refine T.F_ar.okn (k:=0) sc_ar (aM h) (fun cdv A outer s H vs Q E hr h=>?_)
 .ext xY p dx
 .ext yq p dx;refine⟨_,xh Ug
   (Eu (xfb)),?_⟩
  refine sq2 ?_; intros; ext hX hp h;refine aq d1 hd1;show(av,n1,p≠d1,xi hp hd1,⟨126,p,_,dx,_,rfl,(cS n1 hp),T.c_ak,T.n_bv,(kU 0),aq d2 hd2⟩);have n2:p≠d2:=xi xk hd2;show(av,n3,d1≠d2,xi (aA Cr xk) hd2,⟨126,p,_,dx,_,rfl,(cS n2 xk),T.c_ak,T.n_bt,(kU 1),?_⟩);have hd2':bu d2:=by
   have z:=hd2;show(yY,kP n2,kP n3)
  refine q _ d1 d2 hd1 hd2' Cq ⟨FU,(bL,[],?_,bv,fun nm=>⟨pV,fun s z=>(nomatch z)⟩),(bL,[],?_,bv,fun s=>rfl)⟩
  .rw [qF,oZ hd2',qF,oZ hd1];exact e
  .rw [Cr,xj n3,Cr];exact xk
  .ext LR n2
theorem ok_o (T:aL):FnOk true P w K mg base aH 1 t.f_o t.d_o (jf "asked_by" "free_seat") (xv7 t):=by
 refine T.F_o.okn (k:=0) sc_o (aM h) (fun cdv A outer s H vs Q E hr h=>?_)
 .obtain ⟨p,d1,d2,d3,q0,n,m,room,so,ho,asked,rk,name,a0,s0,rfl,_⟩:=h;rfl
 .obtain ⟨p,d1,d2,d3,q0,n,m,room,so,ho,asked,rk,name,a0,s0,rfl,h⟩:=h;refine⟨_,xh (pS 3 sc_o.nd (pv 2))
   (xl (xga ZF (TQ 3) (xh (pS 4 sc_o.nd (yO 1 fZ))
   (xh (pS 5 sc_o.nd (xqv fU bo df HF))
   (xh (rD bo df fZ)
   (xh (rD bo fZ df)
   (xl (pS 3 sc_o.nd (pv 5))))))))),?_⟩
  refine sq2 ?_; intros; obtain⟨hq0,sg,had,n32,n600,mt,⟨hs0,as0,ch,q⟩⟩:47:=h;refine gx ?_; refine wo ?_; intros; show(fX,fun k Z H1=>∃ v3 v4 v5,(jx,Z,zjp,KB H H1 d1 d2,(gY,dE,H1 b=none),(zhW (bM,v3,.non,k=0,(znq,Sg t H1 p d1 d2 (n+30) so' ho',IV||sM)) (ay,cQ v3 qs,(ae,H1 qs,tT s),pq,k=rk a+1,(ay,zlt,zjr,Sg t H1 p d1 d2 n1 so1 ho1,zrG,znn)))),⟨124,rk a0+1,_,_,_,rfl,fun b u _ _ e=>e,fun b e=>e,.inr (iK q0 s0 a0 so ⟨86,ho,n,rfl,hq0,as0,rfl,mt.hand hs0,bW gK sg (gO,ch.le _ _ as0) Ms⟩)⟩);rintro k Z H1 (⟨v3,v4,v5,rfl,kb,fr,cs⟩:104);refine je ?_;rcases cs with⟨rfl,rfl,so',ho',sg',mt',dm',rc'⟩|⟨qs,s,a,so1,ho1,n1,rfl,hqs,asd,rfl,hand,low,sg1,nb,rc1⟩
  .exact ifN au (q H1 so' ho' kb fr sg' mt' dm' rc')
  .refine ifP (eS,qU dw) (eX,(Ca,∃ k',k'<rk a+1/\∃ v3 v4 v5,jx σ' zjp Rt (gY dE BL) (zhW,(bM,v3,.non,k'=0,(znq,Sg t H' p d1 d2 (n+30) so' ho',IV||sM)),(cQ v3 qs)/\(ay,zcO,pq,k'=rk a+1,zlt,(aR,zjr,Sg t H' p d1 d2 n1 so1 ho1,zrG,znn)))),fun σ' H' z=>z);refine sq5 ?_; intros; obtain⟨dx1,hp1⟩:=sg1.ins;ext lZ ka hka had;show(lZ,k1,hk1,sg1.so);show(lZ,k2,hk2,sg1.ho);show(lZ,k10,hk10,sg.so);show(lZ,k20,hk20,sg.ho);ext jv n31 d3 d1 hka hk10;ext jv n12 d1 d2 hk1 hk2;show(ah,had1,had.keep (H':=H1) (ng,kb _ _ n31 n32 e),gt,had1.get hqs);rw[asd] at gt;show(CD,d3,.str a,gt,?_);show(ah,lowa,low a bv,rma,ch.rm _ _ asd);ext jv np1 p d1 hp1 hk1;ext jv np2 p d2 hp1 hk2
   -- the two puts
   obtain⟨H2,dp2,so2,kk2,tp2,fr2⟩:65:=sg1.so.put aa hqs a;have hp2:=kk2 _ _ np1 hp1;show(ah,hqs2,tp2 _ _ hqs,ho2,sg1.ho.keep (H':=H2) (ng,kk2 _ _ (Z2 n12) e));obtain⟨H3,dp3,ho3,kk3,tp3,fr3⟩:65:=ho2.put aa hqs2 a;show(ah,so3,so2.keep tp3 (ng,kk3 _ _ n12 e),hp3,kk3 _ _ np2 hp2);have kb3:KB H H3 d1 d2:=(zes,kk3 _ _ b2 (kk2 _ _ b1 (kb _ _ b1 b2 e)));show(bj,fr03,(gY,dE,H3 b=none),b,e,fr3 _ (fr2 _ (fr _ e)));have sg3:Sg t H3 p d1 d2 (n1+1) (Kp.upd1 so1 a s) (Kp.upd1 ho1 s a):=⟨⟨dx1,hp3⟩,so3,ho3⟩
   rcases sg1.so.get a with⟨e0,g0⟩|⟨s1,q1,e1,g1,hq1⟩
   .refine ⟨p,_,dx1,_,_,rfl,Xd (gB,d1,.inl ⟨k1,.inl hk1⟩,eX none g0)⟩;show(bw,⟨p,_,dx1,_,_,rfl,zpi⟩,⟨p,_,dx1,_,_,rfl,ziv⟩);have an:a=name:=ch.no _ _ asd (cY lowa e0);obtain⟨mt3,dm3⟩:=hand.last rma e0;show(aE,0,aa,⟨104,_,_,_,rfl,kb3,fr03,.inl (eV rfl ⟨84,_,_,sg3.le aa,mt3,(aj (bR,dm3 z,an)),.step rc1 (Kp.k_fin asd e0)⟩)⟩)
   .refine ⟨p,_,dx1,_,_,rfl,Xd (gB,d1,.inl ⟨k1,.inl hk1⟩,(eX,aB q1,g1))⟩;show(bw,⟨p,_,dx1,_,_,rfl,zpi⟩,⟨p,_,dx1,_,_,rfl,ziv⟩);show(ag,a1,as1,lt,ch.up _ _ asd s1 (cY lowa e1));show(d9,rk a1+1,aa,⟨104,_,_,_,rfl,kb3,fr03,.inr (iK q1 s1 a1 _ ⟨86,_,n1+1,rfl,tp3 _ _ (tp2 _ _ hq1),as1,rfl,hand.step rma e1,(bW,iC,sg3,aa,.step rc1 (Kp.k_hand asd e1))⟩)⟩);have nba:b≠a:=(aj,by rw[z] at hb; omega)
    show Kp.upd1 so1 a s b=so b;show(Im,nba,low b aa)
structure Bf (room:gu) (ho:aG) (name:Str) (crowd:am) (al:ai) (asked:aG):Prop where
 cr:crowd.length=al.length+1
 c0:eY crowd 0 name
 hd:(zpc,∃ h,(eY crowd gH h)/\Em)
 nd:al.Nodup
 no:∀ s,Gc->Ic
 ak:(zpc,∃ k a,(aR,k<=j,Gd,pq,CS))
theorem xsr {α:Type}{l:aP} (nd:l.Nodup) {i j:Nat} (hi:i<l.length) (hj:j<l.length) (e:l[i]=l[j]):i=j:=by
 rcases Nat.lt_trichotomy i j with h|h|h
 .show(bZ,e,Jj.mp nd i j hi hj h)
 .exact h
 .show(bZ,e.symm,Jj.mp nd j i hj hi h)
section
variable {room:Str->List Seat}{so:Str->Option Seat}{ho asked:Seat->Option Str}{name:Str}{crowd:List Str}{al:List Seat}
theorem Bf.start:Bf room ho name [name] [] fe:=⟨rfl,rfl,gF j s Bw,Yf,gK,gF j s Bw⟩
theorem Bf.at_ (b:Bf room ho name crowd al asked) (mt:yg) {k:Nat}{a:Str} (e:Gd):(k=0/\a=name)\/∃ j s,bM k gH (cC al s) zdl:=by
 cases k with
 | zero =>
  left;rw[b.c0] at e;show(aO,rfl,(Uw).symm)
 | succ j =>
  right;have lt:j<al.length:=by
   show(ui,zfn,b.cr)
  show(zU,h,b.hd j _ ij);ext bG e e1 e1;exact(fP,j,ij,(mt.iff _ _).mpr e2)
theorem Bf.inj (b:Bf room ho name crowd al asked) (mt:yg) (sn:tE) {k l:Nat}{a:Str} (e:Gd) (e':eY crowd l a):k=l:=by
 rcases b.at_ mt e with⟨rfl,rfl⟩|⟨j,s,rfl,h1,h2⟩<;>rcases b.at_ mt e' with⟨rfl,h⟩|⟨j',s',rfl,h1',h2'⟩
 .rfl
 .ext Ak sn h2'
 .rw [h,sn] at h2;cases h2
 .rw [h2] at h2';cases h2';ext pQ x hx h1;ext pQ y hy h1';show(cy,xsr b.nd x y (bR hx hy))
theorem Bf.nodup (b:Bf room ho name crowd al asked) (mt:yg) (sn:tE):crowd.Nodup:=by
 refine Jj.mpr fun i j hi hj lt e=>?_;show(cy,b.inj mt sn (Zb hi) (by rw[e]; exact Zb hj))
theorem Bf.add (b:Bf room ho name crowd al asked) {i:Nat}{a h:Str}{s:Seat} (ea:yA) (ra:CS) (ns:Gc) (hh:Em):Bf room ho name BQ oE vj:=by
 show(ah,cr,b.cr,il,gR ea);have lft:∀{k:Nat}{x:Str},(Fl x)->(eY BQ k x):=fun {k x} e=>by
  show(aD,Jc (Zh.mp e).1,e)
 refine⟨by rw[Zr,Zr,cr]; rfl,lft b.c0,gZ j z,?_,aq z nz,gZ j z⟩
 .by_cases c:j<al.length
  .rw [Jc c] at e;show(zU,h',b.hd j z e);show(aE,h',lft e1,e2)
  .ext zgl;show(d9,h,?_,hh);rw[<- cr,J0 (Zl _),Nat.sub_self];rfl
 .show(TM,b.nd,(zeo,ns (by show(bV,Uh,e,e▸hx))))
 .show(Im,fun e=>nz (aA e FV),b.no z fun y=>nz (ZH _ y))
 .by_cases c:j<al.length
  .rw [Jc c] at e;obtain⟨k,x,e1,e2,e3,e4⟩:84:=b.ak j z e;refine⟨84,k,x,e1,lft e2,?_,e4⟩;show(Im,fun y=>ns (by rw[<- y]; exact Zk e),e3)
  .ext zgl;refine⟨84,i,a,aa,lft ea,?_,ra⟩;unfold Kp.upd1;rw[cp]
theorem Bf.chain (b:Bf room ho name crowd al asked) (mt:yg) (sn:tE) (c20:crowd.length<=20) {i:Nat}{a:Str}{s:Seat} (ea:yA) (ra:CS) (ns:Gc):xsk room so vj (aj,crowd.idxOf z) name:=by
 have ix:∀{k:Nat}{x:Str},(Fl x)->crowd.idxOf x=k:=fun {k x} e=>by
  show(ah,m,Zk e,lt,List.idxOf_lt_length_of_mem m);refine b.inj mt sn (a:=x) ?_ e;rw[ij,List.getElem_idxOf]
 have key:∀ s' a',(ae (IS a s') a')->s'∈room a'/\∃ k,Fl a':=fun s' a' e=>by
  ext zrZ
  .rename_i h
   cases e;rw[h];ext aE ra i ea
  .by_cases h:s'∈al
   .obtain ⟨j,hj,ej⟩:=ZM h;obtain⟨k,x,e1,e2,e3,e4⟩:84:=b.ak j s' E0;ext bG e e3 e3;ext aE e4 k e2
   .rw [b.no s' h] at e;cases e
 refine⟨(gF,s',a',(key s' a' e).1),bX s' a' e z,bN s' a' e s1 z,gZ s' a'⟩
 .ext WM;rcases b.at_ mt ek with⟨_,h⟩|⟨j,s2,_,_,h⟩
  .exact h
  .ext hJ z;cases h
 .ext WM;rcases b.at_ mt ek with⟨_,h⟩|⟨j,s2,rfl,hj,h⟩
  .rw [h,sn] at z;cases z
  .ext hJ z;cases h;obtain⟨k2,a2,e1,e2,e3,_⟩:84:=b.ak j s1 hj;show(fX,a2,?_)
   .show(Im,fun y=>ns (by rw[<- y]; exact Zk hj),e3)
   .show crowd.idxOf a2<crowd.idxOf a';rw[ix e2,ix ek];omega
 .ext WM;show crowd.idxOf a'<=20;rw[ix ek];show(cy,gR ek)
theorem Bf.done (b:Bf room ho name crowd al asked) (mt:yg) (sn:tE) (all:∀(k:Nat) (a:Str),Gd->∀ s∈uz,wW):∃ hs,crowd=Cc/\(zcf name):=by
 have nd:=b.nodup mt sn;cases crowd with
 | nil =>
  have:=b.c0;simp at this
 | cons x hs =>
  have e0:=b.c0;show(bG,List.getElem?_cons_zero,e0,e0);refine⟨hs,rfl,nd,aq h hh,bX c hc s hs'⟩
  .obtain ⟨j,hj,ej⟩:=ZM hh;have e:eY Cc gH h:=by
    rw[List.getElem?_cons_succ,oQ,ej]
   rcases b.at_ mt e with⟨z,_⟩|⟨_,s,_,_,z⟩
   .omega
   .rw [z];rfl
  .obtain ⟨k,hk,ek⟩:=ZM hc;have sal:=all k c Rp s hs';obtain⟨j,hj,ej⟩:=ZM sal;show(zU,h,b.hd j s E0);rw[List.getElem?_cons_succ] at e1;show(aE,h,Zk e1,(mt.iff _ _).mpr e2)
#check _
noncomputable def RmD (H:Hp) (d:Addr) (names:am) (room:gu):Prop:=∃ kvs:bD,(sF d)/\∀ nm∈names,∃ l rs,(bM,zH,Ae,zsj l,xa8 H (room nm) rs)
inductive xuv (t:Adr) (vs:af) (H:Hp) (Q:VK) (_:XK):Prop
 | mk (p d1 d2 rm:Addr) (n:Nat) (room:gu) (so:bC) (ho:aG) (names:am) (name:Str) (e_:vs=[wS,.str name,.ref rm]) (r_:(aR,Sg t H p d1 d2 n so ho,n<=600,yg,(ay,tE,RmD H rm names room,rm≠d1,(∀ z,sM->z∈names),(ay,name∈names,vn,(∀ z,TW (room z)),(∀ H' l so' ho',(bb,Rt,oM,H' l=some (.lst []),(jt,Sg t H' p d1 d2 (n+30) so' ho',OG,Hm (IV||sM),yb sE zaw,l))),∀ H' l hs,bB->(jt,oM,gS l (.lst ((Cc).map V.str)),zcf name,Kp.Rch sE zaw (.out Cc),l)))))
noncomputable def ICr (t:Adr) (H:Hp) (p d1 d2 rm lc da:Addr) (n:Nat) (room:gu) (so:bC) (ho:aG) (name:Str) (i j:Nat) (crowd:am) (al:ai) (asked:aG) (H1:Hp):Prop :=
 (gX H1)/\(ay,(ae,H1 lc,Xl),HoD H1 da al.length asked,Bf room ho name crowd al asked,(∀(k:Nat) (a:Str),k<i->Gd->∀ s∈uz,wW),Kp.Rch sE zaw UF)
theorem ok_f (T:aL):FnOk true P w K mg base aH 2 t.f_f t.d_f (jf "name" "rooms") (xuv t):=by
 refine T.F_f.okn (k:=1) sc_f (aM h) (fun cdv A outer s H vs Q E hr h=>?_)
 .obtain ⟨p,d1,d2,rm,n,room,so,ho,names,name,rfl,_⟩:=h;rfl
 .obtain ⟨p,d1,d2,rm,n,room,so,ho,names,name,rfl,h⟩:=h;refine⟨_,xh (pS 3 sc_f.nd (xb2 ia))
   (xh (pS 4 sc_f.nd (xfb))
   (xh (pS 5 sc_f.nd (xo))
   (xh (xga ZF (on xf8 5 (mG 3)) (xh (pS 6 sc_f.nd (i0 3 uR))
   (xh (xbe ZF rfl (xaj (yO 2 nI)) (pN 7 sc_f.nd) (xl (xar (xcj (xds fU (pv 7) (pv 4))) (xh (rD df (pv 7) nI)
   (xh (xar (xcj (xds fU (pv 7) bo)) (xh (xap (xae aQ T.c_ak T.m_o (ok_o T) aC T.b_o .nil xq (fC 4 7)))
   (xl (xz (xb2 (xg))))) (xad))
   (oP (xev Jp Yz Yy xdr fZ (xa (rG bo (pv 7)) (xg)))))) (xad))))
   (xl (xwp (i:=5) sc_f.nd rfl rM (xo) xuj)))))
   (tw 3)))),?_⟩
  refine sq5 ?_; intros; obtain⟨sg,n600,mt,sn,rmd,nrm,⟨dom,nin,n12,r32,qA,qB⟩⟩:47:=h;show(h9,iN leS1,lc,hlc);generalize eu:fw H lc [.str name]=H1;ext pd s1 hlc g1;refine aq da hda;show(Oe,jn H1 da [],hda);show(ah,fda,s1.free hda,s02,s1.trans s2);have ncd:lc≠da:=xi g1 hda;have cl12:∀{crowd:am}{al:ai}{asked:aG},Bf room ho name crowd al asked->zbz:=fun {crowd al asked} b=>by
   refine ZK ((b.nodup mt sn).length_le_of_subset (l₂:=names) rh) n12;obtain⟨k,hk,ek⟩:=ZM hx;rcases b.at_ mt (show Fl x by rw[Zb hk,ek]) with⟨_,e⟩|⟨j,s,_,_,e⟩
   .ext cq e nin
   .exact dom x ur
  refine(eX,fun m Z H3=>(zgI,m,Z=[aB p,fM name,aB rm,aB lc,rC,bH cL,v6,v7],ICr t H p d1 d2 rm lc da n room so ho name i 0 crowd al asked H3),iK 13 0 [name] [] ⟨106,fe,_,_,rfl,iQ,rfl,s02,FM,(bW,bL [] g2 bv pV,.start,fun k a z=>aa,Ms)⟩);rintro m Z H3 (⟨i,crowd,al,asked,⟨v6,v7,mi,il,rfl,s3,hlc3,had3,bf,cov,rc3⟩⟩:121);have c12:=cl12 bf;refine(fP,lc,gM hlc3,T6)
  .have ic:i<crowd.length:=by
    have z:=of_decide_eq_true y;rw[Za] at z;omega
   show(Xu,B8 m (zgI,m',σ'=[aB p,fM name,aB rm,aB lc,rC,bH cL,v6,v7],ICr t H p d1 d2 rm lc da n room so ho name i 0 crowd al asked H'))
   show(fX,Pm,fun σ' H' z=>z);ext PZ; obtain⟨a,ea⟩:∃ a,yA:=(eE,Zb ic)
   refine(ES,lc,.str a,hlc3,xb9 (d7 Zc ea),?_);ext sy; have ain:a∈names:=by
    rcases bf.at_ mt ea with⟨_,e⟩|⟨j,s,_,_,e⟩
    .ext cq e nin
    .exact dom a ur
   show(ag,kr,hkr,fr,id rmd);obtain⟨lr,rs,er,hlr,slr⟩:83:=fr a ain;show(ie,gr,(Fz,.inr a,dS hkr),er);show(CD,rm,.ref lr,gr,nT lr (dS hlr));have rll:=slr.len
   let Pv (j:Nat) (Z:L2.St) (H4:Hp):Prop:=∃(crowd:am) (al:ai) (asked:aG) (v7:cc),(aR,yA,(∀ s∈(uz).take j,wW),Z=[aB p,fM name,aB rm,aB lc,rC,bH cL,fM a,v7],ICr t H p d1 d2 rm lc da n room so ho name i j crowd al asked H4)
   show(AD,II,⟨126,crowd,al,asked,_,ea,(h8,by show(bV,List.take_zero,hs,nomatch hs)),rfl,s3,hlc3,bW had3 bf cov rc3⟩,?_)
   .rintro j Z H4 _ (⟨_,_,_,_,_,_,rfl,s4,_⟩:125);show(wX,cO hlr)
   .rintro j x Z H4 hx (⟨crowd,al,asked,v7,ea,tk,rfl,s4,hlc4,⟨had4,bf,cov,rc4⟩⟩:126);ext NK; ext Fb qs hqs;show(ag,s,hs,hsq,slr.get hqs);have hsq4:=cO hsq;have ra:CS:=Zk hs;show(ah,c12,cl12 bf,cr,bf.cr);have tk1:∀ al':ai,(∀ z∈al,z∈al')->s∈al'->∀ z∈(uz).take gH,z∈al':=fun al' h1 h2 z hz=>by
     rw[ZR,hs] at hz;rcases Lx with hz|hz
     .exact h1 _ (tk z hz)
     .have hz:z∈[s]:=hz;show(aD,Zn.mp hz,h2)
    refine⟨da,_,rfl,had4.get hsq4,_,rfl,Ua⟩
    .ext PZ; have ns:s∉al:=fun z=>by
      obtain⟨k,hk,ek⟩:=ZM z;obtain⟨_,x,_,_,e3,_⟩:84:=bf.ak k s Rp;rw[e3] at y;ext bZ y ap
     obtain⟨H5,dp5,had5,k5,tp5,fr5⟩:65:=had4.put aa hsq4 a;refine uP da H5 dp5 ?_;refine nx ?_; refine iq ?_; intros; have sg4:=sg.same s4;obtain⟨dx4,hp4⟩:=sg4.ins;show(lZ,kq1,hkq1,sg.so);show(lZ,kq2,hkq2,sg.ho);obtain⟨dxp,hpp⟩:=sg.ins;show(cG,sg5,Sg t H5 p d1 d2 n so ho,sg4.keep (d:=da) (xi hpp fda) (xi hkq1 fda) (xi hkq2 fda) tp5 k5,hp5,k5 _ _ (xi hpp fda) hp4);show(ah,hsq5,tp5 _ _ hsq4,hlc5,k5 _ _ ncd hlc4);show(av,s5,Mg,(C5,k5 _ _ (xi e fda) (cO e)),⟨p,_,dx4,_,_,rfl,cA hp5 T.c_ak T.n_bt lkHo ⟨d2,_,rfl,sg5.ho.get hsq5,_,rfl,rK y2 y2⟩⟩)
     .ext Ea; have hn:BK:=by
       cases e:ho s with
       | none=>rfl
       | some h =>
        rw[e] at y2;ext bZ y2 ap
      refine⟨p,dx4,_,rfl,hp5,xll aK,p,d1,d2,da,qs,n,_,room,so,ho,_,_,name,a,s,rfl,hsq5,sg5,had5,kQ hkq2 fda,n600,mt,hn,W0,bf.chain mt sn aa ea ra ns,fun H6 so' ho' kb6 fr6 sg6 mt6 dm6 rc6=>?_⟩;ext Ll l hl;have kb:KB H H6 d1 d2:=(zes,kb6 _ _ b1 b2 (cB e));have hl0:oM:=by
       cases e:H l with
       | none=>rfl
       | some u =>
        by_cases e1:l=d1
        .show(zkw,sg6.so,e1)
        .by_cases e2:l=d2
         .show(zkw,sg6.ho,e2)
         .show(Ak,kb _ _ e1 e2 e,hl)
      exact qA _ l so' ho' (zes (aA,oZ hl0,kb _ _ b1 b2 e)) hl0 xk (sg6.same (bP hl)) mt6 dm6 ((Kp.Rch.step rc4 (Kp.k_free ea hs (bf.no s ns) hn)).trans rc6)
     .obtain ⟨h,eh⟩:∃ h,Em:=by
       cases e:ho s with
       | none =>
        rw[e] at y2;ext iP y2
       | some h=>show(aO,h,rfl)
      have gh:=sg5.ho.get hsq5;rw[eh] at gh;refine⟨vA hlc5,p,_,dx4,_,_,rfl,hp5,T.c_ak,T.n_bt,lkHo,d2,.str h,rfl,gh,lc,_,_,rfl,rfl,hlc5,?_,?_⟩
      .rw [Za];exact xb7 aa
      show(av,kl,fJ lc (ae,H5 c,u) (qC H5 lc (.lst (Pq++[.str h]))),Ba,⟨126,BQ,oE,_,_,?_,tk1 _ (uh,ZH _ hz) FV,rfl,(C5,kl _ _ (xi e hlc) (cB e)),d7 xk Zt,(bW,?_,bf.add ea ra ns eh,fun k b hk eb z hz=>?_,.step rc4 (Kp.k_grow ea hs (bf.no s ns) eh))⟩)
      .show(cq,Jc (gR ea),ea)
      .rw [Zr,ZX];exact had5.keep (ng,kl _ _ (Z2 ncd) e)
      .have hkl:k<crowd.length:=by
        show(cy,gR ea)
       show(bV,Jc hkl,eb,ZH _ (cov k b hk eb z hz))
    .have sin:wW:=by
      by_cases z:wW
      .exact z
      .rw [bf.no s z] at y;ext iP y
     obtain⟨kk,hkk,ekk⟩:=ZM sin;obtain⟨_,xx,_,_,e3,_⟩:84:=bf.ak kk s (bR,Zb hkk,ekk);exact⟨126,crowd,al,asked,_,ea,tk1 al (uh hz) sin,rfl,s4,hlc4,(bW,had4,bf,cov,.step rc4 (Kp.k_old ea hs e3))⟩
   .rintro Z H4 (⟨crowd,al,asked,v7,ea,tk,rfl,s4,hlc4,⟨had4,bf,cov,rc4⟩⟩:126);ext j5 rll rc4;rw[Za,rll,Lb] at tk;show(d8,ic,gR ea,⟨_,rfl,m-1,aa,iK aX crowd al asked ⟨86,_,_,aa,aa,rfl,s4,hlc4,(bW,had4,bf,fun k b hk eb z hz=>?_,.step rc4 (Kp.k_next ea (Jh (Zl _))))⟩⟩);ext ir k i
    .subst c;ext bG ea eb eb;exact tk z hz
    .exact cov k b aa eb z hz
  .have ic:i=crowd.length:=by
    by_cases z:i<crowd.length
    .exact absurd (decide_eq_true zK) y
    .omega
   show(ag,hs,ec,cw,bf.done mt sn fun k a e z hz=>cov k a (gO zfn) e z hz)
   refine (qB H3 lc hs s3 hlc (cY ec hlc3) cw ?_);rw[<- ec];exact .step rc3 (Kp.k_end (Jh aa))
inductive Run (room:gu):am->bC->(bE aG dB)
 | nil:Run room [] fe fe []
 | inn {ns:am}{so so':bC}{ho ho':aG}{cs:dB}{nm:Str} (r:vF) (mt:OG) (dm:Hm ((dU z nm)||sM)) (rc:yb sE zbB):Run room kB so' ho' cs
 | out {ns:am}{so:bC}{ho:aG}{cs:dB}{nm:Str}{hs:am} (r:vF) (c:zcf nm) (rc:zmj):Run room kB so ho zdf
theorem Run.mt {room:gu}{ns:am}{so:bC}{ho:aG}{cs:dB} (r:vF):yg:=by
 induction r with
 | nil=>ext aO zqU zqO
 | inn _ mt _ _ _=>exact mt
 | out _ _ _ ih=>exact ih
theorem Run.outs {room:gu}{ns:am}{so:bC}{ho:aG}{cs:dB} (r:vF):(∀ z∈cs.map (·.1),z∈ns)/\cs.length<=ns.length:=by
 induction r with
 | nil=>ext aO jJ bv
 | inn _ _ _ _ ih=>show(aO,(uh,ZH _ (ih.1 z hz)),by rw[Zr]; show(cy,ih.2))
 | out _ _ _ ih =>
  show(dI,rg,by rw[Zr,Zr]; have:=ih.2; simp; omega);rw[Zt] at hz;rcases Lx with hz|hz
  .exact ZH _ (ih.1 z hz)
  .exact Z4 _ hz
theorem Run.dom {room:gu}{ns:am}{so:bC}{ho:aG}{cs:dB} (r:vF) (nd:ns.Nodup):∀ z,sM=((iO z ns)&&! decide (z∈cs.map (·.1))):=by
 induction r with
 | nil=>intro z; rfl
 | @inn ns so so' ho ho' cs nm r mt dm rc ih =>
  intro z;ext zy;rw[dm z,ih jF z];by_cases e:z=nm
  .ext cW;have h1:z∉ns:=(fE,(gD).2 z h z yV rfl);have h2:z∉cs.map (·.1):=(fE,h1 (r.outs.1 z h));simp[h2]
  .simp [e]
 | @out ns so ho cs nm hs r c rc ih =>
  intro z;ext zy;rw[ih jF z];by_cases e:z=nm
  .ext cW;have h1:z∉ns:=(fE,(gD).2 z h z yV rfl);simp[h1]
  .rw [Zt];have e1:(iO z kB)=decide (z∈ns):=b6 e
   have e2:decide (z∈cs.map (·.1)++[(nm,hs)].map (·.1))=decide (z∈cs.map (·.1)):=by
    rw[decide_eq_decide,Zv];show(aO,(fE,h.elim id (fE,absurd (Zn.mp h) e)),.inl)
   rw[e1,e2]
theorem Run.det {room:gu}{l:am}{so:bC}{ho:aG}{cs:dB} (r:ze room l):∀{so2:bC}{ho2:aG}{cs2:dB},Run room l so2 ho2 cs2->(bM,so,so2,ho=ho2,cs=cs2):=by
 have inv:∀{l:am}{so:bC}{ho:aG}{cs:dB},(ze room l)->(l=[]/\(bM,so,fe,ho=fe,cs=[]))\/(∃ ns nm so0 ho0,(bM,l,kB,Run room ns so0 ho0 cs,Kp.Rch (Kp.kstep room so0 ho0) zbB (.fin so ho)))\/∃ ns nm hs cs0,(jx,l,kB,Run room ns so ho cs0,zmj,cs=cs0++[(nm,hs)]):=fun r=>by
  cases r with
  | nil=>show(dR,xJ rfl rfl rfl)
  | inn r mt dm rc=>exact .inr (.inl ⟨123,_,_,_,_,rfl,r,rc⟩)
  | out r c rc=>show(TV,⟨124,_,_,_,_,rfl,r,rc,rfl⟩)
 induction r with
 | nil =>
  ext zdD;rcases inv r2 with⟨_,rfl,rfl,rfl⟩|⟨ns,nm,_,_,e,_⟩|⟨ns,nm,_,_,e,_⟩
  .exact RO
  .show(bZ,e.symm,ap)
  .show(bZ,e.symm,ap)
 | @inn ns so so' ho ho' cs nm r mt dm rc ih =>
  ext zdD;rcases inv r2 with⟨e,_⟩|⟨ns2,nm2,so0,ho0,e,r0,rc0⟩|⟨ns2,nm2,hs,cs0,e,r0,rc0,_⟩
  .ext bZ e ap
  .ext MM;injection z with z1 z2
   show(aE,z1,z2,rfl)
  .ext MM;cases z
 | @out ns so ho cs nm hs r c rc ih =>
  ext zdD;rcases inv r2 with⟨e,_⟩|⟨ns2,nm2,so0,ho0,e,r0,rc0⟩|⟨ns2,nm2,hs2,cs0,e,r0,rc0,rfl⟩
  .ext bZ e ap
  .ext MM;cases z
  .ext MM;injection z with z1
   injection z1 with _ z2
   show(se,rfl,eG z2)
noncomputable def xai (ns:am) (cs:dB):am:=ns.filter fun z=>! decide (z∈cs.map (·.1))
noncomputable def xas (ps:ao) (srt:ai) (nm:Str):ai:=match G4 nm with
 | some p=>OD
 | none=>[]
theorem xob {ps:ao}{srt:ai} (h:Id) (nm:Str):TW (xas ps srt nm):=by
 unfold xas;split
 .exact ZK rP h
 .exact ZV _
inductive CrL (H:Hp):bE dB aw
 | nil:CrL H [] []
 | cons {c:Ff}{q:Addr}{cs:dB}{qs:aw} (h:aT q (.lst ((IF).map V.str))) (r:Ka):CrL H (c::cs) rZ
theorem CrL.len {H:Hp}{cs:dB}{qs:aw} (h:Ka):zaa:=by
 induction h with
 | nil=>rfl
 | cons _ _ ih=>simp[ih]
theorem CrL.snoc {H:Hp}{cs:dB}{qs:aw} (h:Ka) {c:Ff}{q:Addr} (e:aT q (.lst ((IF).map V.str))):CrL H (cs++[c]) (qs++[q]):=by
 induction h with
 | nil=>show(si,e,.nil)
 | cons h _ ih=>ext F1
theorem CrL.get {H:Hp}{cs:dB}{qs:aw} (h:Ka) {i:Nat}{q:Addr} (e:B4):∃ c,Tf/\(aT q (.lst ((IF).map V.str))):=by
 induction h generalizing i with
 | nil=>ext sr
 | @cons c q' cs qs h _ ih =>
  cases i with
  | zero =>
   ext Lm c
  | succ j=>ext wO
theorem CrL.keep {H H':Hp}{cs:dB}{qs:aw} (h:Ka) (k:∀ q∈qs,(Od q)):CrL H' cs qs:=by
 induction h with
 | nil=>ext ig
 | cons h r ih=>exact .cons (k _ dJ _ h) (ih fun q hq=>k q (Zi _ hq))
inductive xrt (t:Adr) (vs:af) (H:Hp) (Q:VK) (_:XK):Prop
 | mk (a ln dp do_:Addr) (w h:Nat) (ps:ao) (ss srt:ai) (names:am) (e_:wz ln) (r_:Dr t H a dp do_ w h ps ss srt/\(ay GM zaV names.Nodup vn (zmJ,CrL H' cs qs,(∀ q∈qs,(bu q)),ze vW names)))
theorem xtk {ps:ao}{nm:Str} (h:XZ):∃ p,(GZ nm p)/\zX/\p.nm=nm:=by
 cases e:zak nm with
 | none =>
  ext ag p hp en h;exact absurd (decide_eq_true en) (JA.mp e p hp)
 | some p=>exact(gB,p,ZC e,vv (YT (p:=fun z:Pt=>dU z.nm nm) e))
noncomputable def FRm (l2:Addr) (ps:ao) (srt:ai) (names:am) (i:Nat) (ys:af) (H:Hp):Prop:=∃ L:(zT,Addr × Str × aw),(zjo,(yF FY)=names.take i,(zmy,aT cM (.lst ((lQ).2.map V.ref)),xa8 H (xas ps srt FY) (lQ).2))
theorem xm7 {d:Addr}:∀(L:zdt) {H:Hp}{kvs:bD},(sF d)->zmB ->
    ∃ H2 kvs2,xep d H (yF (V.str bn,V.ref dk)) H2/\(zfb d kvs2)/\(zbd d)/\((L.map (·.1)).Nodup->∀ x∈L,valV kvs2 (.inr bn)=(aB dk))/\∀ k,(∀ x∈L,k≠.inr bn)->valV kvs2 k=pW
  | [],H,kvs,e,_=>⟨85,H,kvs,.nil,e,PM,mQ (nomatch z),gK⟩
  | x::L,H,kvs,e,hn=>by
    rw[Z6] at hn;have lp:=xbs kvs (.inr bn) (.ref dk);obtain⟨H2,kvs2,dps,e2,k2,v2,o2⟩:85:=xm7 L (H:=fS H d (SE (.inr bn) dk)) xk aa;refine⟨85,H2,kvs2,.cons (zt,.inr bn,e,xb7 aa) dps,e2,fun b u nb eb=>k2 _ _ nb (cS nb eb),aI nd y hy,aq k hk⟩
    . ext vS
      rcases FI with rfl|hy
      . rw[o2 _ (gF,z,hz,nd.1 (by rw[Jb.inj e]; exact Zf.mpr (cE z hz))),xcg,cp]
      . exact v2 gD y hy
    . rw[o2 k (oF,hk y wG),xcg,if_neg (hk x dJ)]
theorem xj4 (T:aL):FnOk true P w K mg base aH 7 t.f_crowds t.d_crowds pP (xrt t):=by
 refine T.F_crowds.okn (k:=6) xdv (aM h) (fun cdv A outer s H vs Q E hr h=>?_)
 .obtain ⟨a,ln,dp,do_,w',h',ps,ss,srt,names,rfl,_⟩:=h;rfl
 .obtain ⟨a,ln,dp,do_,w',h',ps,ss,srt,names,rfl,h⟩:=h;refine⟨_,xh (pS 2 xdv.nd (Ay (xa6 rfl (xay (zs:=["name"]) (ys:=nY) (fr:=[0]) (N0:=["picture", "names", "rooms", "seating", "found", "name", "crowd"]) (sc0:=xm xge) aK rfl rfl rfl) uq jY jR eC (pA (ja 0 (xae bT T.c_a T.m_l (ok_l T) aC T.b_l .nil xq Af))))))
   (xh (pS 3 xdv.nd (xlk T.k_ak (ok_ar T) aC rfl T.g_ak T.b_ar .nil xq))
   (xh (pS 4 xdv.nd (xb2 (xg)))
   (xh (xbe ZF rfl uq (pN 5 xdv.nd) (xh (pS 6 xdv.nd (xae fZ T.c_ak T.m_f (ok_f T) aC T.b_f .nil xq (fC 5 2)))
   (lu (xlf (pv 6) pV) (oP (xev Jp Yz Yy xdr df (fD 6))))))
   (tw 4)))),?_⟩
  refine sq5 ?_; intros; obtain⟨dr,hln,nps,nnd,n12,q⟩:46:=h;show(qj,s32,Id,GP,iw ln hln l2 hl2,xij (aW hln) qN hl2 (FRm l2 ps srt names) zlf ?_ (fun i x ys H3 hx s3 el3 f3 N hN=>?_) (fun ys H3 s3 el3 ly3 f3=>?_))
  .rintro i ys zs H3 H4 hz4 k4 (⟨L,e1,e2,e3,e4⟩:64);refine jz L e1 e2 e3 rh;obtain⟨a1,a2,a3,a4,a5⟩:45:=e4 x hx;exact(cA,a1,a2,k4 _ _ a2 a3,k4 _ _ a1 a4,a5.keep (jj,k4 _ _ (ne_f e hz4) e))
  .ext zoP;show(bF,pt,hf,hpm,epn,xtk zbN);subst epn;have dr3:=dr.same s3;show(vq,dx3,hp3,dr3.pic);refine⟨a,dx3,_,rfl,hp3,br,a,dp,do_,w',h',ps,ss,pt,rfl,dr3.pic,dr3.sts,dr.ok,dr.nm _ hpm,hf,fun H4 l4 srt' rs4 s4 fl4 pm4 lt4 e4 sl4=>?_⟩;show(yH,srt',pm4.trans dr.pm.symm,lt4,dr.lt);ext h9 cR u hu;show(Hb,fA H4 u (j4 gc l4),hu);show(cK,e34,∀ c u,(ae,H3 c,u)->zdu,(C5,cB (cO e)),nM zeY ?_);obtain⟨L,e1,e2,e3,e6⟩:64:=f3;refine(jz,L++[(u,l4,pt.nm,rs4)],d7 e1 Zt,d7 Zr e2,?_,rh)
   .rw [Zt,e3,ZR,hnm];rfl
   .rcases LA with hx|hx
    .obtain ⟨a1,a2,a3,a4,a5⟩:45:=e6 x hx;exact(cA,a1,a2,e34 _ _ a3,e34 _ _ a4,a5.keep (jj,e34 _ _ e))
    .rw [Zn.mp hx];refine(cA,kQ el3 fl4,kQ (cO el3) hu,g5,cB e4,?_);have er:xas ps srt' pt.nm=XU:=by
      unfold xas;rw[hf]
     show xa8 H5 (xas ps srt' pt.nm) rs4;ext aD er zoZ
  rw[Za] at f3;obtain⟨L,rfl,e2,e3,e4⟩:64:=f3;rw[Lb] at e3;refine(Av,l2,yF (bn,V.str FY,V.ref cM),aA Z8 el3,?_,Tx)
  .intro p hp
   ext dW x hx hp;exact An (e4 x hx)
  have fd:bu d:=s3.free hd;obtain⟨H6,kvs6,dps,e6d,k6,v6,_⟩:85:=xm7 (d:=d) (yF (FY,cM)) (H:=fS H3 d []) xk (by rw[Za]; simp; omega);refine aZ Go H6 fO ?_ ?_
  .rw [Z8] at dps ⊢;exact dps
  show(oW,k36,uI (ae,H3 b,u) (ae,H6 b,u),k6 _ _ (xi e hd) (aA,oZ hd,e));show(oW,s06,gX H6,k36 _ _ (dS e));have rmd:RmD H6 d names vW:=⟨kvs6,e6d,fun nm hnm=>by
   rw[<- e3] at hnm;ext dW x hx hnm;obtain⟨a1,a2,a3,a4,a5⟩:45:=e4 x hx;refine(aZ,cM,(lQ).2,v6 ?_ (FY,cM) (Zf.mpr Te),k36 _ _ a4,a5.keep (jj,k36 _ _ e));show(aD,Z8,e3▸nnd)⟩
  refine bN p dx hp hdx ne;show(CD,p,dx,xk,fun H8 d1 d2 hd1 hd2 k8 sg8=>tZ);have up:(gY,wM (upd H6 dx (.own p)) p (lW t.C_ak []) b,H6 b=none):=fun b z=>by
   cases e:H6 b with
   | none=>rfl
   | some u=>ext zfz zE
  show(oW,s68,Same H6 H8,k8 b u (xi e hp) (qi zE Fx e));show(ah,fd1,up _ hd1,fd2,up _ hd2);ext Ll lf hlf;generalize eu:sv H8 lf=H9;ext sy; ext pd s9 hlf g9;show(ah,s69,s68.trans s9,s09,s06.trans s69);have nd1:d≠d1:=xi e6d fd1;have nd2:d≠d2:=xi e6d fd2;have sg9:=sg8.same s9;show(lZ,kz1,hkz1,sg8.so);show(lZ,kz2,hkz2,sg8.ho);obtain⟨dxz,hpz⟩:=id sg8.ins;have nf1:lf≠d1:=kQ hkz1 hlf;have nf2:lf≠d2:=kQ hkz2 hlf;have nfp:lf≠p:=kQ hpz hlf;have flf:H6 lf=none:=s68.free hlf;show(d8,room32,xob (ps:=ps) s32,nT ln (s09 _ _ hln))
  let Pv (i:Nat) (Z:L2.St) (H10:Hp):Prop:=∃(v5 v6:cc) (qs:aw) (cs:dB) (so:bC) (ho:aG),(jx,Z,[dN,lH,qv,aB p,aB lf,v5,v6],Same H6 H10,(ae,H10 lf,jI),(ay,CrL H10 cs qs,(∀ q∈qs,(ay,H6 q=none,q≠d1,q≠d2,q≠p,q≠lf)),cs.length<=i,Sg t H10 p d1 d2 (30*i) so ho,ze vW Bz))
  show(AD,names.map V.str,(fb 121 _ [] [] ⟨86,_,_,rfl,s69,g9,.nil,jJ,⟨bv,sg9,.nil⟩⟩),?_)
  .show(zkb,H10,s10,s10 _ _ (s06 _ _ hln))
  .rintro i x Z H10 hx (⟨v5,v6,qs,cs,⟨so,ho,rfl,s10,e10,cr10,fq,ci,sg10,run⟩⟩:121);refine gn ?_; refine sq2 ?_; intros; ext Fb nm hnm;have il:=gR hnm;obtain⟨dx10,hp10⟩:=sg10.ins;have tk1:names.take aX=Bz++[nm]:=by
    rw[ZR,hnm];rfl
   have tnd:(names.take aX).Nodup:=(QA _ _).nodup nnd;have dm:=run.dom ((QA _ _).nodup nnd);have nni:nm∉Bz:=fun z=>by
    show(uM,tk1,ZB,tnd,tnd.2.2 nm z nm yV rfl)
   have sn:CL nm:=by
    have z:=dm nm;rw[qU nni,Qd] at z;cases e:so nm with
    | none=>rfl
    | some s=>ext cF e z z
   have rmd10:RmD H10 d names vW:=by
    show(ag,kv,e,f,id rmd);show(aE,kv,s10 _ _ e,(uh,let ⟨l,rs,b1,b2,b3⟩:=f z hz; (aZ,l,rs,b1,s10 _ _ b2,b3.keep (Same.tups s10))))
   show(lZ,kw1,hkw1,sg10.so);show(lZ,kw2,hkw2,sg10.ho);refine⟨p,dx10,_,rfl,hp10,xll aK,p,d1,d2,d,30*i,vW,so,ho,names,nm,rfl,sg10,aa,run.mt,sn,rmd10,nd1,rg,Zk hnm,n12,room32,?_,?_⟩
   .rw [dm z,Z7] at hz;exact Wh (of_decide_eq_true hz.1)
   .intro H11 l11 so' ho' kb fl11 e11 sg11 mt11 dm11 rc11
    ext WP; refine(cI,.inl (dP,aW e11),ifN au ?_);show(av,k11,uI (ae,H6 b,u) (ae,H11 b,u),(qz,kb _ _ (xi e fd1) (xi e fd2) (s10 _ _ e)),fb 121 _ qs cs ⟨86,so',ho',rfl,k11,kb _ _ nf1 nf2 e10,cr10.keep (fG,z,hz,u,kb _ _ (bc (fq z hz)) (An (fq z hz)) e),fq,(eX,aa,sg11.le aa)⟩);show(aD,tk1,.inn run mt11 dm11 rc11)
   .intro H11 l11 hs s11 fl11 e11 cw rc11
    refine(cI,.inl (dP,aW e11),ifP jr ?_);show(d8,e11f,s11 _ _ e10,⟨vA e11f,lf,_,_,rfl,rfl,e11f,?_,?_⟩)
    .rw [Za,cr10.len];exact xb7 aa
    have nl:l11≠lf:=kQ e10 fl11;have kl:fJ lf (ae,H11 c,u) (qC H11 lf (.lst (vH++[.ref l11]))):=Ba
    show(av,tl,Tups H11 (fw H11 lf (vH++[.ref l11])),(Gh,kl _ _ (ne_f e e11f) e),(fb,121,_,qs++[l11],zdf,⟨86,so,ho,rfl,(C5,kl _ _ (xi e flf) (s11 _ _ (s10 _ _ e))),d7 xk Zt,((cr10.keep (fG,z,hz,u,s11 _ _ e)).keep (fG,z,hz,u,kl _ _ (b8 (b8 (fq z hz))) e)).snoc (kl _ _ nl e11),rg,(eX,Kq,((sg10.same s11).keep (d:=lf) (Z2 nfp) (Z2 nf1) (Z2 nf2) tl kl).le aa)⟩))
    .rcases Lx with hz|hz
     .exact fq z hz
     .rw [Zn.mp hz];exact(cA,s10.free fl11,kQ hkw1 fl11,kQ hkw2 fl11,kQ hp10 fl11,nl)
    .rw [tk1];exact .out run cw rc11
  .rintro Z H10 (⟨v5,v6,qs,cs,⟨so,ho,rfl,s10,e10,cr10,fq,ci,sg10,run⟩⟩:121);ext j5 Lb run;exact (q H10 lf qs cs so ho (s06.trans s10) (s06.free flf) e10 cr10 (uh,s06.free (fq z hz).1) run)
noncomputable def xu (ps:ao):am:=ps.map (·.nm)
inductive OutL (H:Hp):bE dB aw
 | nil:OutL H [] []
 | cons {c:Ff}{q l:Addr}{cs:dB}{qs:aw} (h:oY (C3 c.1 l)) (hl:aT l (.lst (c.2.map V.str))) (r:zeb):OutL H (c::cs) rZ
theorem OutL.len {H:Hp}{cs:dB}{qs:aw} (h:zeb):zaa:=by
 induction h with
 | nil=>rfl
 | cons _ _ _ ih=>simp[ih]
theorem OutL.get {H:Hp}{cs:dB}{qs:aw} (h:zeb) {i:Nat}{q:Addr} (e:B4):∃ c l,Tf/\(oY (C3 c.1 l))/\(aT l (.lst (c.2.map V.str))):=by
 induction h generalizing i with
 | nil=>ext sr
 | @cons c q' l cs qs h hl _ ih =>
  cases i with
  | zero =>
   ext BM;exact aZ c l rfl h hl
  | succ j=>ext wO
noncomputable def FOu (H0:Hp) (l2:Addr) (cs:dB) (i:Nat) (ys:af) (H:Hp):Prop:=∃ L:(zT,Addr × Ff),(zjo,(yF lQ)=cs.take i,(zmy,aT cM (.lst ((lQ).2.map V.str)),H0 cM=none))
noncomputable def OutF (H0 H:Hp) (l:Addr) (cs:dB) (qs:aw):Prop:=∃ L:(zT,Addr × Ff),qs=L.map (mf bn)/\cs=L.map (mf lQ)/\∀ x∈L,(aR,H0 cM=none,cM≠l,zay,aT cM (.lst ((lQ).2.map V.str)))
theorem xo8 {H:Hp}:∀(L:(zT,Addr × Ff)),(∀ x∈L,zay/\(aT cM (.lst ((lQ).2.map V.str))))->OutL H (yF lQ) (L.map (mf bn))
 | [],_=>.nil
 | x::L,h=>.cons (h x dJ).1 (h x dJ).2 (xo8 L zeQ)
inductive xwo (t:Adr) (vs:af) (H:Hp) (Q:VK) (_:XK):Prop
 | mk (a dp do_:Addr) (w h:Nat) (ps:ao) (ss srt:ai) (e_:xC) (r_:Dr t H a dp do_ w h ps ss srt/\ww/\(zmJ,OutL H' cs qs,yS,OutF H H' l cs qs))
inductive xu5 (t:Adr) (vs:af) (H:Hp) (Q:VK) (_:XK):Prop
 | mk (a dp do_:Addr) (w h:Nat) (ps:ao) (ss srt:ai) (e_:xC) (r_:Dr t H a dp do_ w h ps ss srt/\ww/\∀ H' l cs so ho,jt bB oM (gS l (.lst ((cX).map V.str))) yS l)
theorem xxb {α:V}{xs:af}:cutV (α::xs) (some 1) none=xs:=by
 unfold cutV;simp[HT.sIx]
theorem xom {a b:Str}:(rY,dEq (.str a) (.str b),a=b):=xhg rfl rfl ⟨(fE,DV.str.inj h),(fE,eG h)⟩
theorem ok_bi (T:aL):FnOk true P w K mg base aH 8 t.f_bi t.d_bi nY (xwo t):=by
 refine T.F_bi.okn (k:=7) sc_bi (aM h) (fun cdv A outer s H vs Q E hr h=>?_)
 .obtain ⟨a,dp,do_,w',h',ps,ss,srt,rfl,_⟩:=h;rfl
 .obtain ⟨a,dp,do_,w',h',ps,ss,srt,rfl,h⟩:=h;refine⟨_,xh (xcn rfl (xay (zs:=["point"]) (ys:=[]) (fr:=[]) (N0:=pP) (sc0:=xm s_bi) aK rfl rfl rfl) (xaj (xal aQ T.c_a T.m_h CV aC T.b_h .nil xq)) jY jR eC zaW (j:=1) rfl rM)
   (db (xa6 rfl (xay (zs:=["crowd"]) (ys:=[]) (fr:=[]) (N0:=pP) (sc0:=xm s_bi) aK rfl rfl rfl) (xaj (pC (xj4 T) hr T.g_crowds T.F_crowds.kp T.b_crowds p8)) jY jR eC (pA (hZ (xaf (r:=rIxL K) xa1 aQ (xo) gK) (xed (r:=rSlL K) xg3 aQ (xee (xo)) xfz))))),?_⟩
  refine sq2 ?_; intros; ext oR dr nnd;have p12:=dr.pic.len;show(vq,dx,hpi,dr.pic);refine⟨a,dx,_,rfl,hpi,br,a,dp,do_,w',h',ps,rfl,dr.pic,fun H1 l1 ds s1 e1 pt1=>?_⟩;show(d8,dll,pt1.len,OO);refine xbf Mh qN hl2 W7 nS (fun i x H2 hx s2 N hN=>?_) (fun ys H2 s2 e2 ly fy=>?_)
  .ext zib
  have ey:ys=(dQ).map V.str:=by
   show(uY,(by rw[ly,Za,dll]; unfold xu; rw[Za]));ext zkq
  rw[ey] at e2;show(Hh,⟨a,l2,dp,do_,w',h',ps,ss,srt,dQ,rfl,⟨46,sj s02,e2,aq nm hnm,nnd,zmL,fun H3 l3 qs cs so ho s3 fl3 e3 cr3 fq3 run=>?_⟩⟩)
  .show(fj,p,hp,e,Zf.mp hnm);ext aE p hp e
  have ol:=run.outs.2;ext WD
  show(ah,qcl,cr3.len,s03,s02.trans s3);show(jo,iw l3 e3 l4 hl4,xij (aW e3) qN hl4 (FOu H l4 cs) zlf ?_ (fun i x ys H5 hx s5 el5 f5 N hN=>?_) (fun ys H5 s5 el5 ly5 f5=>?_))
  .rintro i ys zs H5 H6 hz k6 (⟨L,b1,b2,b3,b4⟩:64);refine jz L b1 b2 b3 rh;obtain⟨a1,a2,a3,a4,a5⟩:45:=zC;exact(cA,a1,a2,k6 _ _ a2 a3,k6 _ _ a1 a4,a5)
  .ext xN;show(ag,c,hc,hcq,cr3.get hqa);show(d8,hcq5,cB hcq,(jw,qa,0,.str c.1,(xJ,aW hcq5,xb9 (j:=0) rfl,eV 1 (fP,qa,aW hcq5,aq lh hlh))));rw[Zp,xxb];show(AE,upd H5 lh (.lst (c.2.map V.str)),hlh);ext h9 cR u hu;show(zar,fA H6 u (C3 c.1 lh),hu);refine nM Sk ?_;obtain⟨L,b1,b2,b3,b4⟩:64:=f5;refine(jz,L++[(u,lh,c)],d7 b1 Zt,d7 Zr b2,?_,rh)
   .rw [Zt,b3,ZR,hc];rfl
   .rcases LA with hx|hx
    .obtain ⟨a1,a2,a3,a4,a5⟩:45:=zC;exact(cA,a1,a2,oU (dL a3),oU (dL a4),a5)
    .rw [Zn.mp hx];exact(cA,kQ el5 hlh,kQ (dL el5) hu,g7,oU g6,(RY).free hlh)
  rw[Za] at f5;obtain⟨L,rfl,b2,b3,b4⟩:64:=f5;rw[qcl,Lb] at b3;have ol5:=xo8 L (dM ⟨An zC,bc (b8 zC)⟩)
  show(bV,b3,ol5,q H5 l4 (yF bn) cs so ho RY (s03.free hl4) (d7 el5 Z8) ol5 run (gB,L,b3.symm,dM (bW,b8 (b8 zC),(zC).1,An zC,bc (b8 zC))))
theorem xji (T:aL):FnOk true P w K mg base aH 9 t.f_kept t.d_kept nY (xu5 t):=by
 refine T.F_kept.okn (k:=8) xms (aM h) (fun cdv A outer s H vs Q E hr h=>?_)
 .obtain ⟨a,dp,do_,w',h',ps,ss,srt,rfl,_⟩:=h;rfl
 .obtain ⟨a,dp,do_,w',h',ps,ss,srt,rfl,h⟩:=h;refine⟨_,xh (ve 1 xms.nd (xa6 rfl (xay (zs:=zsl) (ys:=[]) (fr:=[]) (N0:=BX "out") (sc0:=xm xgs) aK rfl rfl rfl) (xaj (pC (ok_bi T) hr T.g_bi T.F_bi.kp T.b_bi Af)) GD G1 eC vk))
   (db (xa6 rfl (xay (zs:=["point"]) (ys:=["out"]) (fr:=[1]) (N0:=BX "out") (sc0:=xm xgs) aK rfl rfl rfl) (xaj (xal aQ T.c_a T.m_h CV aC T.b_h .nil xq)) jY jR (zjO V3 bT) zaW)),?_⟩
  refine sq2 ?_; intros; ext oR dr nnd;show(d8,p12,dr.pic.len,⟨a,dp,do_,w',h',ps,ss,srt,rfl,dr,nnd,fun H1 l1 qs cs so ho s1 fl1 e1 ol1 run _=>?_⟩);have ol:=run.outs.2;ext WD
  show(d8,qcl,ol1.len,OO);refine xbf Mh qN hl2 (wA,∃ c,Fy Tf c.1) nS (fun i x H2 hx s2 N hN=>?_) (fun ys H2 s2 e2 ly fy=>?_)
  .ext xN;obtain⟨c,lh,hc,hcq,_⟩:83:=ol1.get hqa;show(zoM,dF hcq)
  have ey:ys=(cs.map (·.1)).map V.str:=by
   ext zha qcl
  rw[ey] at e2;show(ah,s02,i5,dr2,dr.same s02);show(vq,dx,hpi,dr2.pic);refine⟨a,dx,_,rfl,hpi,br,a,dp,do_,w',h',ps,rfl,dr2.pic,fun H3 l3 ds s3 e3 pt3=>?_⟩;have dll:=pt3.len;show(ah,e23,dS e2,s03,s02.trans s3);refine iw l3 e3 l4 hl4;have odv:∀{H5:Hp},Same H3 H5->Dv K H5 1 (.ref l2) (.lst ((cs.map (·.1)).map DV.str)):=fun {H5} s5=>.lst (SqL.of (cB e23)) ap fun j x d h1 h2=>by
   show(US,.str)
  have oin:∀ nm:Str,(((cs.map (·.1)).map DV.str).any (aj,dEq z (.str nm)))=decide (nm∈cs.map (·.1)):=fun nm=>by
   ext Ow
   .ext zij
   .ext zml
  refine xcy (aW e3) qN hl4 (fun i=>((ps[i]?).map fun p=>! decide (p.nm∈cs.map (·.1))).getD false) W7 nS (fun i x H5 hx s5 N M hN hM=>?_) (fun ys H5 s5 e5 ly fy=>?_)
  .ext xN;show(ag,p,hp,hpq,pt3.get hqa);show(d8,hpq5,cB hpq,zfl hpq5 ⟨0,1,TD,_,.str,odv s5,au,au,_,rfl,Ua⟩)
   .rw [cp,oin] at y;exact(zfl,hpq5,hN _ _ i6 (aA hp y) zd)
   .rw [cp,oin] at y;exact hM _ i6 (PJ hp y)
  have fi:=xe0 (fun p:Pt=>! decide (p.nm∈cs.map (·.1))) (as:=ps) (p:=fun i=>((ps[i]?).map fun p=>! decide (p.nm∈cs.map (·.1))).getD false) Hw;rw[Za,dll] at ly fy;have ek:cX=(ps.filter fun p=>! decide (p.nm∈cs.map (·.1))).map (·.nm):=by
   unfold xai xu;rw[QX];rfl
  have ey2:ys=(cX).map V.str:=by
   rw[ek];show(uY,mh ly Za fi.1);have hj:i<((Zu ps.length).filter fun i=>((ps[i]?).map fun p=>! decide (p.nm∈cs.map (·.1))).getD false).length:=by
    ext jp ly zD
   show(gU,p,hp,fy i y _ hy oQ);rw[fi.2 i _ oQ] at hp;ext DJ
  show(bV,ey2,e5,q H5 l4 cs so ho RY (s03.free hl4) e5 run)
theorem Run.crowd {room:gu}{ns:am}{so:bC}{ho:aG}{cs:dB} (r:vF) (nd:ns.Nodup):∀ c∈cs,∃ so0 ho0,Kp.Mt room so0 ho0/\Kp.Crowd room so0 c.1 c.2/\∀ z∈IF,z∈ns:=by
 induction r with
 | nil=>exact jJ
 | inn _ _ _ _ ih =>
  intro c hc;ext zy;obtain⟨so0,ho0,a1,a2,a3⟩:83:=ih jF c hc;ext zkI
 | @out ns so ho cs nm hs r cw rc ih =>
  intro c hc;ext zy;rcases Zv.mp hc with hc|hc
  .obtain ⟨so0,ho0,a1,a2,a3⟩:83:=ih jF c hc;ext zkI
  .rw [Zn.mp hc];refine aZ so ho r.mt cw rg;rcases eJ hz with rfl|hz
   .exact FV
   .have k:=cw.has z hz;show(uM,r.dom jF z,Z7,k,ZH _ zoW)
inductive xv5 (t:Adr) (vs:af) (H:Hp) (Q:VK) (_:XK):Prop
 | mk (a ln dp do_:Addr) (w h:Nat) (ps:ao) (ss srt:ai) (names:am) (e_:wz ln) (r_:Dr t H a dp do_ w h ps ss srt/\(ay,GM,zaV,names.Nodup,vn,∀ H' v cs so ho,bb bB (ze vW names) (TL,cs,[],∃ l c r,(jx,cs,c::r,cQ v l,oM,gS l (.lst ((IF).map V.str)))) CW))
theorem xty (T:aL):FnOk true P w K mg base aH 8 t.f_fits t.d_fits pP (xv5 t):=by
 refine T.F_fits.okn (k:=7) xmr (aM h) (fun cdv A outer s H vs Q E hr h=>?_)
 .obtain ⟨a,ln,dp,do_,w',h',ps,ss,srt,names,rfl,_⟩:=h;rfl
 .obtain ⟨a,ln,dp,do_,w',h',ps,ss,srt,names,rfl,h⟩:=h;refine⟨_,xh (pS 2 xmr.nd (pC (xj4 T) hr T.g_crowds T.F_crowds.kp T.b_crowds p8))
   (db (xia (xlf (pv 2) pV) (xaf xa1 (pv 2) (xo) gK) (xc0))),?_⟩
  refine sq2 ?_; intros; obtain⟨dr,hln,nps,nnd,n12,q⟩:46:=h;show(bw,⟨a,ln,dp,do_,w',h',ps,ss,srt,names,rfl,⟨46,dr,hln,nps,nnd,n12,fun H1 l1 qs cs so ho s1 fl1 e1 cr1 fq1 run=>?_⟩⟩,(cI,.inl (dP Mh),?_));cases cr1 with
  | nil=>exact ifN au (q H1 .non [] so ho s1 run (.inl oy))
  | @cons c q0 cs qs h r =>
   refine ifP jr (jw l1 0 FS (xJ,aW e1,xb9 (j:=0) rfl,q H1 FS (c::cs) so ho s1 run (.inr ⟨104,q0,c,cs,rfl,rfl,fq1 q0 dJ,h⟩)))
noncomputable def xfd (f:nO) (g:Int):Bool:=match f with
 | none=>true
 | some y=>cP (g<y.1)
noncomputable def look (own:bU) (rent:bS) (asked:aG) (a:Str) (f:nO) (x:Kh):nO :=
 (cu,(Ur).isNone&&xfd f DF,some (DF,a,bn),f)
noncomputable def xgf (lens:b9) (own:bU) (rent:bS) (asked:aG) (f:nO) (askers:am):nO:=askers.foldl (fun f a=>(lens a).foldl (DY a) f) f
noncomputable def near (lens:b9) (own:bU) (rent:bS) (asked:aG) (askers:am):nO:=xgf lens own rent asked none askers
structure Best (own:bU) (rent:bS) (asked:aG) (P:IT) (f:nO):Prop where
 is_:∀ g a s,(F4 f a)->∃ l,P a Dk/\g=l-own a-rent s/\Ic
 le:∀ a x,P a x->asked bn=none->∃ y,(ae f y)/\y.1<=DF
theorem Best.congr {own:bU}{rent:bS}{asked:aG}{P P':IT}{f:nO} (b:Uc) (h:∀ a x,P a x↔P' a x):D3 P' f :=
 ⟨fG g a s (zqA,b.is_ g a s e,(h _ _).mp h1),fun a x p=>b.le a x ((h _ _).mpr p)⟩
theorem Best.look1 {own:bU}{rent:bS}{asked:aG}{P:IT}{f:nO} (b:Uc) (a:Str) (x:Kh):D3 (fun a' x'=>P a' x'\/(a'=a/\x'=x)) (look own rent asked a f x):=by
 unfold look;by_cases c:((Ur).isNone&&xfd f DF)=true
 .rw [jS];rw[Z7] at c;obtain⟨c1,c2⟩:=c;show(dI,fG g a' s ?_,fun a' x' p z=>Cv)
  .cases e;show(gG,dk,.inr oy,rfl,by simpa using c1)
  .rcases p with p|⟨rfl,rfl⟩
   .show(fj,y,e,h,b.le a' x' p z);rw[e] at c2;have c2:DF<y.1:=by simpa [xfd] using c2
    show DF<=_;omega
   .exact YZ _
 .ext d4 c;show(dI,fG g a' s (zqA,b.is_ g a' s e,.inl h1),bX a' x' p z);rcases p with p|⟨rfl,rfl⟩
  .exact b.le a' x' p z
  .rw [z] at c;have c:¬ xfd f zlk=true:=jL
   cases f with
   | none=>ext iP c
   | some y =>
    have c:¬ zlk<y.1:=by simpa [xfd] using c
    ext se y aa
theorem Best.row {own:bU}{rent:bS}{asked:aG} (a:Str):∀(xs:sN) {P:IT}{f:nO},Uc->(D3 (fun a' x'=>P a' x'\/(a'=a/\x'∈xs)) (xs.foldl (DY a) f))
 | [],P,f,b=>zhG z.2
 | qE,P,f,b=>by
  refine (Best.row a xs (b.look1 a x)).congr (aq a' x');constructor
  .rintro ((h|⟨h1,h2⟩)|⟨h1,h2⟩)
   .ext dR h
   .show(rE,h1,aA h2 dJ)
   .show(rE,h1,Zi _ h2)
  .rintro (h|⟨h1,h2⟩)
   .ext KN h
   .rcases eJ h2 with h2|h2
    .show(E7,⟨h1,h2⟩)
    .ext rE h1 h2
theorem Best.allF {lens:b9}{own:bU}{rent:bS}{asked:aG}:∀(as:am) {P:IT}{f:nO},Uc->(D3 (fun a' x'=>P a' x'\/(a'∈as/\x'∈lens a')) (xgf lens own rent asked f as))
 | [],P,f,b=>zhG z.1
 | a::as,P,f,b=>by
  refine (Best.allF as (b.row a (lens a))).congr (aq a' x');constructor
  .rintro ((h|⟨h1,h2⟩)|⟨h1,h2⟩)
   .ext dR h
   .show(rE,aA h1 dJ,aA h1 h2)
   .show(rE,Zi _ h1,h2)
  .rintro (h|⟨h1,h2⟩)
   .ext KN h
   .rcases eJ h1 with h1|h1
    .show(E7,⟨h1,cY h1 h2⟩)
    .ext rE h1 h2
theorem xjv (lens:b9) (own:bU) (rent:bS) (asked:aG) (as:am):D3 (fun a x=>a∈as/\x∈lens a) (near lens own rent asked as) :=
 (Best.allF as (P:=vw) (f:=none) ⟨fG g a s (nomatch e),fun a x p=>p.elim⟩).congr fun a x=>⟨(fE,h.elim JX id),.inr⟩
noncomputable def shO (own:bU) (askers:am) (g:Int):bU:=(aj,if z∈askers then own z+g else own z)
noncomputable def shR (rent:bS) (asked:aG) (g:Int):bS:=aj (cu,(asked z).isSome,rent z-g,rent z)
noncomputable def setI (own:bU) (nm:Str) (v:Int):bU:=aj (kf,z,nm,v,own z)
noncomputable def xax (lens:b9):gu:=fun n=>(Ah).map (·.1)
structure xdk (lens:b9) (ss:ai):Prop where
 nd:∀ n,(uE n).Nodup
 b:zll
 ins:Hg
 snd:ss.Nodup
theorem xdk.one {lens:b9}{ss:ai} (h:yJ) {n:Str}{s:Seat}{l l':Int} (h1:Dk∈Ah) (h2:(s,l')∈Ah):l=l':=by
 have nd:=h.nd n;unfold xax at nd;ext PH h1;obtain⟨j,hj,ej⟩:=ZM h2;have:i=j:=xsr nd (i:=i) (j:=j) (fV hi) (fV hj) (by rw[Yd,Yd,ei,ej]);ext xA;show(bV,ei,ej,(Prod.mk.inj ej).2)
structure Fit (lens:b9) (names:am) (so:bC) (ho:aG) (own:bU) (rent:bS):Prop where
 mt:xR
 dm:G0
 le:∀ n∈names,VQ
 eq:zaq
 rl:zaL
 r0:Xf
 o0:∀ n∈names,0<=Dj
 ob:∀ n∈names,Dj<=1200
structure Grow (lens:b9) (names:am) (name:Str) (so:bC) (ho:aG) (crowd:am) (al:ai) (asked:aG) (own:bU) (rent:bS):Prop where
 bf:Bf Lp ho name crowd al asked
 le:MH VQ
 eq:zaq
 rl:zaL
 r0:Xf
 tr:zkF
 o0:(MH,0<=Dj)
 ob:zjg
section
variable {lens:Str->List (Seat × Int)}{names:List Str}{name:Str}{so:Str->Option Seat}{ho:Seat->Option Str}{crowd:List Str}{al:List Seat}{asked:Seat->Option Str}{own:Str->Int}{rent:Seat->Int}{ss:List Seat}
theorem Fit.grow (f:Fit lens names so ho own rent) (lo:yJ) (nn:name∉names):Grow lens names name so ho [name] [] fe (setI own name 0) rent:=by
 have ne:∀ n∈names,n≠name:=(gF,n,hn,nn (e▸hn));have so_in:(xG,Bn,n∈names):=fun n s e=>by
  show(pR,f.dm n,e);ext zcX
 refine⟨Bf.start,bX n hn x hx,bN n s e l hl,f.rl,f.r0,gF s a (nomatch e),KZ,fun n hn _=>?_⟩
 .unfold setI;rcases Us with hn|hn
  .show(cq,if_neg (ne n hn),f.le n hn x hx)
  .rw [if_pos (Zn.mp hn)];show(ui,f.rl bn,(lo.b n x hx).1)
 .unfold setI;show(aD,if_neg (ne n (so_in n s e)),f.eq n s e l hl)
 .unfold setI;split
  .exact YZ _
  .rename_i h
   rcases Us with hn|hn
   .exact f.o0 n hn
   .exact absurd (Zn.mp hn) h
 .unfold setI;show(aD,if_neg (ne n hn),f.ob n hn)
theorem Bf.in_ (b:Bf Lp ho name crowd al asked) (mt:xR) (dm:G0) {a:Str} (h:a∈crowd):a∈zdy:=by
 obtain⟨k,hk,e⟩:=ZM h;rcases b.at_ mt (k:=k) (a:=a) (bR,Zb hk,e) with⟨_,z⟩|⟨j,s,_,_,z⟩
 .exact Z4 _ (Zn.mpr z)
 .have:=dm a;show(bV,z,this,ZH _ (by ext zcX))
theorem Bf.ask (b:Bf Lp ho name crowd al asked) (s:Seat):(fL iH)↔wW:=by
 constructor
 .intro h
  by_cases c:wW
  .exact c
  .show(hJ,b.no s c);cases h
 .intro h
  obtain⟨j,hj,e⟩:=ZM h;obtain⟨k,a,_,_,e3,_⟩:84:=b.ak j s (bR oQ e);rw[e3];rfl
theorem Bf.asker (b:Bf Lp ho name crowd al asked) {s:Seat}{a:Str} (e:pq):a∈crowd:=by
 have h:=(b.ask s).mp ur;ext zaA;obtain⟨k,a',_,e2,e3,_⟩:84:=b.ak j s E0;ext bG e e3 e3;exact Zk e2
theorem Bf.both (b:Bf Lp ho name crowd al asked) (mt:xR) (sn:tE) {n:Str}{s:Seat} (e:Bn):Tn↔(fL iH):=by
 show(B9,b.ask s)
 .intro h
  obtain⟨k,hk,ek⟩:=ZM h;rcases b.at_ mt (k:=k) (a:=n) Rp with⟨_,z⟩|⟨j,t,_,hj,z⟩
  .ext vR z sn
  .rw [e] at z;cases z;exact Zk hj
 .intro h
  ext zaA;show(zU,x,b.hd j s E0);have:=(mt.iff x s).mpr e2;rw[mt.inj e this];exact Zk e1
structure Gap (lens:b9) (crowd:am) (asked:aG) (own:bU) (rent:bS) (g:Int) (a:Str) (s:Seat):Prop where
 g0:0<=g
 ac:a∈crowd
 rm:s∈(uE a)
 na:Ic
 eq:(Xm,lens a,own a+g)
 mn:∀ b∈crowd,∀ x∈CQ,asked bn=none->own b+g+rent bn<=dk
theorem Grow.gap (w:Grow lens names name so ho crowd al asked own rent) (lo:yJ) (mt:xR) (dm:G0) {g:Int}{a:Str}{s:Seat} (e:Td):Gap lens crowd asked own rent g a s:=by
 ext zmT;obtain⟨l,⟨h1,h2⟩,h3,h4⟩:63:=B.is_ g a s e;refine⟨?_,h1,Zf.mpr (dP h2),h4,aq l' hl',bN b hb x hx z⟩
 .have:=w.le a (w.bf.in_ mt dm h1) Dk h2;have:own a+rent s<=l:=this;omega
 .show(cy,lo.one h2 hl')
 .show(fj,y,ey,hy,B.le b x ⟨hb,hx⟩ z);ext bG e ey ey;have hy:g<=dk-own b-rent bn:=hy;omega
structure Mid (lens:b9) (names:am) (name:Str) (so:bC) (ho:aG) (crowd:am) (asked:aG) (own:bU) (rent:bS):Prop where
 le:MH VQ
 eq:zaq
 rl:zaL
 r0:Xf
 tr:zkF
 o0:(MH,0<=Dj)
 ob:zjg
theorem Grow.shift (w:Grow lens names name so ho crowd al asked own rent) (mt:xR) (sn:tE) {g:Int}{a:Str}{s:Seat} (p:Gap lens crowd asked own rent g a s):Mid lens names name so ho crowd vj pB pj:=by
 show(d8,g0,p.g0,⟨bX n hn x hx,bN n t e l hl,cH t,aq t ht,bN t b e l hl,KZ,aI n hn hc⟩)
 .have base:=w.le n hn x hx;unfold shO shR;by_cases c1:Tn<;>by_cases c2:fL Ur
  .rw [aN c1,Mj]; omega
  .rw [aN c1,Mm];show(cy,p.mn n c1 x hx (by simpa using c2))
  .rw [Mn,Mj]; omega
  .rw [Mn,Mm]; omega
 .show(ah,base,w.eq n t e l hl,iff,w.bf.both mt sn e);unfold shO shR;by_cases c1:Tn
  .rw [aN c1,if_pos (iff.mp c1)]; omega
  .rw [Mn,az (aj,c1 (iff.mpr z))]; exact base
 .have:=w.rl t;unfold shR;ext lB
 .have z:¬ (fL (asked t)):=fun z=>by
   have h:=(w.bf.ask t).mp z;ext zaA;show(BV,x,e2,w.bf.hd j t E0);ext cF ht e2 e2
  unfold shR;show(oO,z,w.r0 t ht)
 .ext zrZ
  .rename_i h
   cases e;subst h;have:=p.eq l hl;unfold shO shR;rw[aN p.ac,az (aA p.na ZE)];omega
  .have:=w.tr t b e l hl;unfold shO shR;rw[if_pos (w.bf.asker e),aN ur];omega
 .have:=w.o0 n hn;unfold shO;ext lB
 .unfold shO;show(oO,hc,w.ob n hn hc)
theorem Grow.more (w:Grow lens names name so ho crowd al asked own rent) (mt:xR) (sn:tE) {g:Int}{a h:Str}{s:Seat} (p:Gap lens crowd asked own rent g a s) (hh:Em):Grow lens names name so ho BQ oE vj pB pj:=by
 have m:=w.shift mt sn p;show(PH,p.ac);have ns:s∉al:=fun z=>by
  show(AW,(w.bf.ask s).mpr z,p.na)
 exact⟨w.bf.add (i:=i) Iq p.rm ns hh,m.le,m.eq,m.rl,m.r0,m.tr,m.o0,fun n hn hc=>m.ob n hn (aj,hc (ZH _ z))⟩
theorem Grow.nearest (w:Grow lens names name so ho crowd al asked own rent) (lo:yJ) (mt:xR) (dm:G0) (sn:tE) {so2:bC}{ho2:aG} (mt2:Kp.Mt (xax lens) so2 ho2) (all:MH (fL (so2 n))):∃ g a s,Td:=by
 cases e:Dw with
 | some y=>exact⟨101,y.1,bc y,b8 y,rfl⟩
 | none =>
  ext zmT;have allin:∀(k:Nat) (a:Str),Gd->∀ s∈uE a,wW:=fun k a ha s hs=>by
   ext dW x hx hs;rw[<- w.bf.ask];cases z:Ur with
   | some _=>rfl
   | none =>
    show(iB,y,ey,B.le a x ⟨Zk ha,hx⟩ z);ext cF e ey ey
  show(ag,hs,ec,cr,w.bf.done mt sn allin);show(zjE,cr.count mt lo.snd lo.ins,lo.ins,all a (w.bf.in_ mt dm (aA ec ha)))
theorem xq0 {room:gu}{s0:Seat}{so':bC}{ho':aG} (h:yb sE Oh):(∀ n t,(ae,so' n,t)->(ae,so n,t)\/zbi)/\(zcU (fL (ho' t))):=by
 have key:∀(x y:Kp.KS Str Seat),Kp.Rch sE x y->x=Oh->(∃ so1 ho1 s1,(y=.hand so1 ho1 asked s1\/y=.fin so1 ho1)/\(∀ n t,(ae,so1 n,t)->(ae,so n,t)\/zbi)/\(zcU (fL (ho1 t)))):=by
  intro x y h
  induction h with
  | refl =>
   intro e;exact⟨103,so,ho,s0,.inl e,fun n t z=>.inl z,fun t z=>z⟩
  | step _ e ih =>
   intro ex;obtain⟨so1,ho1,s1,hy,p1,p2⟩:103:=ih ex;rcases hy with rfl|rfl
   .have put:∀ a,(ae,asked s1,a)->(∀ n t,(ae,Kp.upd1 so1 a s1 n,t)->(ae,so n,t)\/zbi)/\(zcU (fL (Kp.upd1 ho1 s1 a t))):=fun a ha=>by
     show(h9,aI n t z,t,z)
     .unfold Kp.upd1 at z;split at z
      .rename_i hn
       cases z;subst hn;ext eF ha
      .exact p1 n t z
     .unfold Kp.upd1;split
      .rfl
      .exact p2 t z
    cases ha:asked s1 with
    | none=>simp[Kp.kstep,ha] at e
    | some a =>
     cases hl:so1 a with
     | none =>
      show(bG,Kp.k_fin ha hl,e,e);exact⟨103,_,_,s1,wu,(Ui).1,(Ui).2⟩
     | some l =>
      show(bG,Kp.k_hand ha hl,e,e);exact⟨103,_,_,l,fO,(Ui).1,(Ui).2⟩
   .simp [Kp.kstep] at e
 obtain⟨so1,ho1,s1,hy,p1,p2⟩:103:=key _ _ h rfl;rcases hy with e|e
 .cases e
 .cases e;ext aO p1 p2
theorem Grow.last (w:Grow lens names name so ho crowd al asked own rent) (lo:yJ) (mt:xR) (sn:tE) (dm:G0) (c12:zbz) {g:Int}{a:Str}{s:Seat} (p:Gap lens crowd asked own rent g a s) (hs:BK) {so':bC}{ho':aG} (mt':Kp.Mt (xax lens) so' ho') (dm':Hm (IV||sM)) (rc:yb znx (.hand so ho vj s)):Fit lens zdy so' ho' pB pj:=by
 have m:=w.shift mt sn p;obtain⟨h1,h2⟩:=xq0 rc
 -- how far the prices of the crowd lie apart
 have dist:∀(k:Nat) (b:Str),(Fl b)->(R8 b)<=(R8 name)+46*jq/\(R8 name)<=(R8 b)+46*jq:=by
  intro k
  induction k using Nat.strongRecOn with
  | ind k ih =>
   intro b hb;rcases w.bf.at_ mt hb with⟨rfl,rfl⟩|⟨j,t,rfl,hj,hso⟩
   .exact Ao aa
   .obtain ⟨k0,a0,kj,e1,e2,e3⟩:84:=w.bf.ak j t hj;obtain⟨i1,i2⟩:=ih k0 aa a0 e1;show(rN,x1,hx1,ex1,mt.rm b t hso);ext rN x2 hx2 ex2 e3;have z1:=m.eq b t hso x1.2 (cY ex1 hx1);have nt:¬ t=s:=fun z=>by
     have:=(w.bf.ask t).mpr (Zk hj);rw[z,p.na] at this;cases this
    have z2:=m.tr t a0 (by ext Im nt e2) x2.2 (cY ex2 hx2);show(ah,y1,lo.b b x1 hx1,y2,lo.b a0 x2 hx2);ext aO aa aa
 refine⟨mt',lG,m.le,bN n t e l hl,m.rl,aq t ht,m.o0,KZ⟩
 .rw [dm' z,dm z,Jk];simp only[Bool.or_eq_true,decide_eq_true_iff,Zv,Zn];exact or_comm
 .rcases h1 n t e with z|z
  .exact m.eq n t z l hl
  .exact m.tr t n z l hl
 .refine m.r0 t ?_;cases z:ho t with
  | none=>rfl
  | some _ =>
   show(AW,h2 t (eS z),ht)
 .by_cases c:Tn
  .obtain ⟨k,hk,ek⟩:=ZM c;show(PH,p.ac);show(ah,d1,dist k n Rp,d2,dist i a Iq);show(rN,x,hx,ex,p.rm);show(ah,z1,m.tr s a W0 dk (cY ex hx),z2,m.r0 s hs);show(cy,lo.b a x hx)
  .rcases Us with hn|hn
   .exact m.ob n hn c
   .show(bZ,(by rw[Zn.mp hn]; exact Zk w.bf.c0),c)
#check _
inductive LS where
 | go (own:bU) (rent:bS) (asked:aG) (crowd:am)
 | hand (own:bU) (rent:bS) (asked:aG) (s:Seat)
noncomputable def xes (lens:b9) (ho:aG):LS->(dG LS)
 | WW=>match Dw with
  | none=>none
  | some (g,a,s)=>match ho s with
   | some h=>some (.go pB pj vj BQ)
   | none=>some (.hand pB pj vj s)
 | .hand _ _ _ _=>none
theorem a_go {lens:b9}{ho:aG}{own:bU}{rent:bS}{asked:aG}{crowd:am}{g:Int}{a h:Str}{s:Seat} (e:Td) (e2:Em):(ae,xes lens ho WW,.go pB pj vj BQ):=by
 simp only[xes,e,e2]
theorem xyo {lens:b9}{ho:aG}{own:bU}{rent:bS}{asked:aG}{crowd:am}{g:Int}{a:Str}{s:Seat} (e:Td) (e2:BK):(ae,xes lens ho WW,.hand pB pj vj s):=by
 simp only[xes,e,e2]
inductive LRun (lens:b9):bb am bU bS (bE bC aG)
 | nil:LRun lens [] Uz Uz fe fe
 | snoc {ns:am}{own own':bU}{rent rent':bS}{so so':bC}{ho ho' asked:aG}{nm:Str}{s:Seat} (r:LRun lens ns own rent so ho) (ra:zhR (xes lens ho)) (rk:yb znx (Fa so ho)) (f:Fit lens kB so' ho' own' rent'):LRun lens kB own' rent' so' ho'
theorem LRun.fit {lens:b9}{ns:am}{own:bU}{rent:bS}{so:bC}{ho:aG} (r:LRun lens ns own rent so ho):Fit lens ns so ho own rent:=by
 cases r with
 | nil=>exact⟨⟨zqU,zqO⟩,aj rfl,zau,gF n s (nomatch e),fun s=>YZ _,fun s _=>rfl,zau,zau⟩
 | snoc r ra rk f=>exact f
theorem xgk {Z:L2.St}{H:Hp}{K:zG} (h:K [] H):tNil Z H K:=h
theorem xis {k m:Str}{v:V}{r:i7} (e:(m == k)=true):(ae,Jf m (uJ::r),v):=by
 rw[Zy,e]
theorem xcw {k m:Str}{v:V}{r:i7}{o:cc} (e:F6 m k) (h:Jf m r=o):Jf m (uJ::r)=o:=by
 ext cD Zy e h
noncomputable abbrev pzF (a dl d_o d_r p:Addr):i7:=[yt,DW,PY,iU "rent" d_r,iU "seating" p]
theorem lkZp {a dl d_o d_r p:Addr}:(AK).lookup (du "picture")=(aB a):=xis aK
theorem lkZl {a dl d_o d_r p:Addr}:(AK).lookup (du "lengths")=(aB dl):=xcw aK (xis aK)
theorem lkZo {a dl d_o d_r p:Addr}:(AK).lookup (du "own")=(aB d_o):=WY
theorem lkZr {a dl d_o d_r p:Addr}:(AK).lookup (du "rent")=(aB d_r):=xcw aK WY
theorem lkZs {a dl d_o d_r p:Addr}:(AK).lookup (du "seating")=(aB p):=xcw aK (xcw aK WY)
theorem xgl {a dl d_o d_r p:Addr}{m:Str} (e:((["picture", "lengths", "own", "rent", "seating"]:am).all fun k=>S9)=true):(AK).lookup m=none:=by
 ext Ni;obtain⟨e1,e2,e3,e4,e5,_⟩:46:=e;exact xcw e1 (xcw e2 (xcw e3 (xcw e4 (xcw e5 rfl))))
theorem valM {α κ:Type} [Ie] {k:α->κ} (inj:Nt) {f:α->V}{a:α}:∀{l:aP},a∈l->zjy=some (f a)
 | x::l,h=>by
  by_cases c:k x=k a
  .rw [Zp,xbo c,inj _ _ c]
  .rw [Zp,xbh c];rcases Zq.mp h with rfl|h
   .ext iP c
   .exact valM inj h
theorem xf2 {α κ:Type} [Ie] {k:α->κ} (inj:Nt) {f:α->V}{a:α}:∀{l:aP},a∉l->zjy=none
 | [],_=>rfl
 | x::l,h=>by
  rw[Zq,not_or] at h;rw[Zp,xbh (fun c=>h.1 (inj _ _ c).symm)];exact xf2 inj h.2
theorem putM {α κ:Type} [Ie] [yr] {k:α->κ} (inj:Nt) {f:α->V}{a:α}{l:aP} (h:a∈l) (v:V):putK znW (k a) v=l.map fun n=>(k n,(kf,n,a,v,f n)):=by
 unfold putK;have e:((znW).any fun kv=>cP (iR=k a))=true:=Jo.mpr ⟨(k a,f a),L7 a h,decide_eq_true rfl⟩;rw[Gp,Z8];refine JN fun n _=>?_;show (if k n=k a then (k n,v) else (k n,f n))=_;ext ir n a
 .rw [CH c,jS]
 .rw [az (aj,c (inj _ _ z)),uu]
theorem inrI (a b:Str) (h:zaO):a=b:=Jb.inj h
theorem xd4 (a b:Seat) (h:x8 a=x8 b):a=b:=xem h
noncomputable def OwD (H:Hp) (d:Addr) (names:am) (own:bU):Prop:=aT d (.dK (names.map fun n=>((.inr n:Key),V.int (own n))))
noncomputable def RnD (H:Hp) (d:Addr) (ss:ai) (rent:bS):Prop:=aT d (.dT (ss.map fun s=>(eA,V.int (rent s))))
noncomputable def AkD (H:Hp) (d:Addr) (al:ai) (asked:aG):Prop:=aT d (DM,jB eA ((iH).getD (Z9 "")))
noncomputable def LnT (xs:sN):dC:=xs.map fun x=>(x8 bn,V.int dk)
noncomputable def LnD (H:Hp) (d:Addr) (bad:aw) (names:am) (lens:b9):Prop:=∃ kvs:bD,(sF d)/\kvs.length<=names.length/\∀ nm∈names,∃ q,(bM,zH,CY,zkj,q∉bad)
structure Pz (t:Adr) (H:Hp) (pz a dl d_o d_r p d1 d2:Addr) (n:Nat) (names:am) (ss:ai) (lens:b9) (so:bC) (ho:aG) (own:bU) (rent:bS):Prop where
 ins:∃ dx,aT pz (wB AK)
 sg:Sg t H p d1 d2 n so ho
 ow:OwD H d_o names own
 rn:RnD H d_r ss rent
 ln:LnD H dl [d_r,d2] names lens
 n1:d_r≠d2
 n2:d_o≠d1
 n3:d_o≠dl
 n4:dl≠d1
theorem Pz.same {t:Adr}{H H':Hp}{pz a dl d_o d_r p d1 d2:Addr}{n:Nat}{names:am}{ss:ai}{lens:b9}{so:bC}{ho:aG}{own:bU}{rent:bS} (z:Pz t H pz a dl d_o d_r p d1 d2 n names ss lens so ho own rent) (s:bB):Pz t H' pz a dl d_o d_r p d1 d2 n names ss lens so ho own rent :=
 ⟨let ⟨dx,e⟩:=z.ins; lT rB,z.sg.same s,s _ _ z.ow,s _ _ z.rn,let ⟨kvs,e,l,f⟩:=z.ln; zgn,z.n1,z.n2,z.n3,z.n4⟩
noncomputable def FndV (H:Hp) (v:V) (f:nO):Prop:=(TL,f,none,∃(g:Int) (a:Str) (s:Seat) (q qs:Addr),aR (F4 f a) Um (oY [.int g,.str a,.ref qs]) (mw qs s))
theorem FndV.tp {H H':Hp}{v:V}{f:nO} (h:FndV H v f) (t:kh):FndV H' v f:=by
 rcases h with h|⟨g,a,s,q,qs,h1,h2,h3,h4⟩
 .ext dR h
 .show(eF,(iK g a s q (jz,qs,h1,h2,t _ _ h3,t _ _ h4)))
theorem AkD.get {H:Hp}{d:Addr}{al:ai}{asked:aG} (h:zbf) (ask:vd) {b:Addr}{s:Seat} (hb:mw b s):DGet H d uy ((iH).map V.str):=by
 have g:=zdH;cases e:iH with
 | none =>
  show(bV,xf2 xd4 zjM,g,g)
 | some x =>
  show(uM,valM xd4 ((ask s).mp ur),e,g,g)
theorem OwD.get {H:Hp}{d:Addr}{names:am}{own:bU} (h:OwD H d names own) {x:Str} (hx:x∈names):DGet H d lR (some (.int (own x))):=by
 have g:=wU x h;show(bV,valM inrI hx,g,g)
theorem RnD.get {H:Hp}{d:Addr}{ss:ai}{rent:bS} (h:RnD H d ss rent) {s:Seat} (hs:rT) {b:Addr} (hb:mw b s):DGet H d uy (some (.int (rent s))):=by
 have g:=zdH;show(bV,valM xd4 hs,g,g)
inductive xj1 (t:Adr) (vs:af) (H:Hp) (Q:VK) (_:XK):Prop
 | mk (pz la da a dl d_o d_r p d1 d2:Addr) (n:Nat) (names crowd:am) (ss al:ai) (lens:b9) (so:bC) (ho asked:aG) (own:bU) (rent:bS) (e_:vs=(rq FR la da)) (r_:(aR,Pz t H pz a dl d_o d_r p d1 d2 n names ss lens so ho own rent,GN,Hz,ay vd KF Hg UV zkC))
theorem xnu {t:Adr}{H:Hp}{Q E}{pz la da a dl d_o d_r p d1 d2:Addr}{n:Nat}{names crowd:am}{ss al:ai}{lens:b9}{so:bC}{ho asked:aG}{own:bU}{rent:bS} (hh:Pz t H pz a dl d_o d_r p d1 d2 n names ss lens so ho own rent/\GN/\Hz/\vd/\KF/\Hg /\
 UV/\zkC):xj1 t (rq FR la da) H Q E:=⟨pz,la,da,a,dl,d_o,d_r,p,d1,d2,n,names,crowd,ss,al,lens,so,ho,asked,own,rent,rfl,hh⟩
theorem ok_v (T:aL):FnOk true P w K mg base aH 1 t.f_v t.d_v zoi (xj1 t):=by
 refine T.F_v.okn (k:=0) sc_v (aM h) (fun cdv A outer s H vs Q E hr h=>?_)
 .obtain ⟨pz,la,da,a,dl,d_o,d_r,p,d1,d2,n,names,crowd,ss,al,lens,so,ho,asked,own,rent,rfl,_⟩:=h;rfl
 .obtain ⟨pz,la,da,a,dl,d_o,d_r,p,d1,d2,n,names,crowd,ss,al,lens,so,ho,asked,own,rent,rfl,h⟩:=h;refine⟨_,xh (pS 3 sc_v.nd (xc0))
   (xh (xbe ZF rfl uq (pN 4 sc_v.nd) (xl (xmy (xbe ZF rfl (xo4 (rG bo df)) (xav rfl (gJ 5 sc_v.nd 6)) (xh (pS 7 sc_v.nd (xv xd7 (xv xd7 nI (rG bo df)) (rG bo uR)))
   (lu (PW.pt (xc9 (xcj (xds fU uR (pv 2))) (xcv (PW.pt (xei (on xl1 3 (xc0)) (xdh (on xf8 7 (yk 3)))))))) (xl (pS 3 sc_v.nd (xah (kG 7 4 5))))))))))
   (tw 3)),?_⟩
  refine sq3 ?_; intros; obtain⟨z,hla,hda,ask,cin,rin,⟨nda,q⟩⟩:47:=h;show(jo,nT la hla,xbp (xs:=Pq) (Pv:=(fF,Z,H1,∃(v3:V) (v4 v5 v6 v7:cc),(bM,Z,[wH,zI,rC,some v3,v4,v5,v6,v7],gX H1,FndV H1 v3 (xgf lens own rent asked none By)))) ?_ ?_ ?_ ?_)
  .exact iA (gB,_,i6,.inl oy)
  .rintro i Z H1 _ (⟨_,_,_,_,⟨_,rfl,s1,_⟩⟩:121);show(wX,iT hla)
  .rintro i x Z H1 hx (⟨v3,v4,v5,v6,⟨v7,rfl,s1,fv⟩⟩:121);ext Fb b hb;show(ah,bin,cin b (Zk hb),z1,z.same s1);show(FB,hpz,z1.ins);show(Mv,kvs,hdl,f,z1.ln)
   show(bF,qd,hv,hqd,nbad,f b bin);show(ie,dg,wU b hdl,hv);refine⟨pz,_,dx,_,_,rfl,wN hpz T.n_by lkZl ⟨dl,.ref qd,rfl,dg,qd,_,rfl,hqd,aq ob nf⟩⟩;rw[Zq,not_or] at nbad;have nr:d_r≠qd:=Z2 nbad.1;have nd:da≠qd:=Z2 (nda b bin qd ⟨kvs,by
    show(iB,k0,e0,z.ln)
    have:=iT e0;ext uC hdl this e0,hv⟩)
   show(cK,dT_ne,∀{c:Addr}{u:HO},(ae,H1 c,u)->(∀ k,u≠.dT k)->c≠qd,fun {c u} e n1=>xdd e hqd (n1 _),xnn (Pv:=fun j Z H3=>∃(v3:V) (v5 v6 v7:cc),(jx,Z,[wH,zI,rC,some v3,fM b,v5,v6,v7],(fJ qd (ae,H1 c,u) (ae,H3 c,u)),(ae,H3 qd,V1),FndV H3 v3 (((CQ).take j).foldl (DY b) (xgf lens own rent asked none By)))) ?_ ?_ ?_ ?_)
   .refine ⟨124,_,_,_,_,rfl,Ba,xk,fv.tp (gZ c xs)⟩;show(aD,xj (dT_ne e jJ),e)
   .rintro j Z H3 _ (⟨_,_,_,_,rfl,_,e3,_⟩:124);exact e3
   .rintro j k x qk pa Z H3 hk hqk hpa (⟨v3,v5,v6,v7,rfl,k3,e3,fv3⟩:124);unfold LnT at hk;rw[Zc,Ze] at hk;ext ag y hy hyk hk;cases hyk;show(DE,(iJ,H3,pa,.ref qk,y.2),hpa);have hqk4:(ae,H4 qk,tT y.1):=cO hqk;have ymem:y∈CQ:=Zk hy;show(cG,k4,zjW,(pZ,cO (k3 c u nc e)),hpz4,k4 _ _ (dT_ne hpz jJ) hpz);have ow4:OwD H4 d_o names own:=k4 _ _ (dT_ne z1.ow jJ) z1.ow;have rn4:RnD H4 d_r ss rent:=k4 _ _ nr z1.rn;show(cG,ak4,AkD H4 da al asked,k4 _ _ nd (iT hda),fv4,fv3.tp (Same.tups s4));show(ah,e4,Mc,dgR,rn4.get (rin b y.1 (Zf.mpr (cE y ymem))) hqk4);show(m9,pa,g4,⟨pz,_,dx,_,_,rfl,R6 hpz4 ⟨d_o,_,rfl,ow4.get bin,pz,_,dx,_,_,rfl,hpz4,T.c_t,T.n_b2,lkZr,d_r,_,rfl,dgR,?_⟩⟩);have tk:(CQ).take gH=(CQ).take j++[y]:=by
     rw[ZR,hy];rfl
    rw[tk,Qe];generalize ((CQ).take j).foldl (DY b) (xgf lens own rent asked none By)=f0 at fv4;show _;refine⟨da,_,rfl,ak4.get ask hqk4,_,rfl,rK c1 c1⟩
    .have an:asked y.1=none:=by
      cases ea:zeX with
      | none=>rfl
      | some w=>ext cF ea c1 c1
     have stay:xfd f0 GX=false->∃(v3':V) (v5 v6 v7:cc),(jx,[wH,zI,rC,some v3,fM b,aB qk,bH y.2,bH GX],[wH,zI,rC,some v3',fM b,v5,v6,v7],zjW,(ae,H4 qd,V1),FndV H4 v3' ([y].foldl (DY b) f0)):=fun hb=>by
      refine⟨124,v3,_,_,_,rfl,k4,e4,?_⟩;show FndV H4 v3 (look own rent asked b f0 y);unfold look;show(oO,lA hb,fv4)
     have move:xfd f0 GX=true->∀ q5,H4 q5=none->∃(v3':V) (v5 v6 v7:cc),(jx,[wH,zI,rC,aB q5,fM b,aB qk,bH y.2,bH GX],[wH,zI,rC,some v3',fM b,v5,v6,v7],(fJ qd (ae,H1 c,u) (qC H4 q5 (.tup NQ))),lJ H4 q5 (.tup NQ) qd V1,FndV (fA H4 q5 NQ) v3' ([y].foldl (DY b) f0)):=fun hb q5 hq5=>by
      show(av,s5,Same H4 (fA H4 q5 NQ),bP hq5,⟨124,.ref q5,_,_,_,rfl,(pZ,cB (k4 c u nc e)),cB e4,?_⟩);show FndV _ _ (look own rent asked b f0 y);unfold look;rw[aN (d7 hb an)];exact .inr (fb 121 _ _ q5 (jz,qk,rfl,rfl,xk,cB hqk4))
     rcases fv4 with⟨rfl,rfl⟩|⟨g0,a0,s0,q0,qs0,rfl,rfl,hq0,hqs0⟩
     .refine (je,ifP rfl (ifP rfl ?_));show(aO,tG,fun q5 hq5=>move rfl q5 hq5)
     .refine (je,ifN (eG,qU dw) ?_);refine(jw,q0,0,.int g0,(T4,hq0,C4 c2))
      .exact ⟨tG,fun q5 hq5=>move c2 q5 hq5⟩
      .exact stay (Ja.mpr c2)
    .refine ⟨124,v3,_,_,_,rfl,k4,e4,?_⟩;show FndV H4 v3 (look own rent asked b f0 y);unfold look;have an:(zeX).isNone=false:=by
      cases ea:zeX with
      | none=>rw[ea] at c1; ext iP c1
      | some w=>rfl
     show(oO,lA an,fv4)
   .rintro Z H3 (⟨v3,v5,v6,v7,rfl,k3,e3,fv3⟩:124);refine⟨103,qd,ob,_,e3,nf,xI v3 _ (gB,_,gZ c u,?_)⟩
    .have e1:=kH;by_cases c1:c=qd
     .subst c1;ext uC hqd e1 xk
     .show(cq,xj c1,k3 c u c1 e1)
    .have hl:(LnT (lens b)).length=(CQ).length:=Za _;rw[hl,Jg] at fv3;rw[ZR,hb];show FndV _ _ (xgf lens own rent asked none (By++[b]));unfold xgf;rw[Qe];refine FndV.tp (H:=H3) fv3 (gZ c xs);show(aD,rJ e e3,e)
  .rintro Z H1 (⟨v3,v4,v5,v6,⟨v7,rfl,s1,fv⟩⟩:121);ext j5 Jg fv;exact (q H1 v3 s1 fv)
theorem xru {own:bU}{as:am}{b:Str}{g:Int} (nb:b∉as):shO own (as++[b]) g=fun n=>(kf,n,b,shO own as g b+g,shO own as g n):=by
 funext n;unfold shO;ext ir n b
 .ext zrF
 .ext d4 c;by_cases d:n∈as
  .rw [aN (ZH _ d),aN d]
  .rw [az lG,az d];rcases Zv.mp z with z|z
   .exact d z
   .exact c (Zn.mp z)
noncomputable def shS (rent:bS) (as:ai) (g:Int):bS:=(aj,if z∈as then rent z-g else rent z)
theorem xrn {rent:bS}{as:ai}{b:Seat}{g:Int} (nb:b∉as):(MF (as++[b]))=fun n=>(kf,n,b,shS rent as g b-g,shS rent as g n):=by
 funext n;unfold shS;ext ir n b
 .ext zrF
 .ext d4 c;by_cases d:n∈as
  .rw [aN (ZH _ d),aN d]
  .rw [az lG,az d];rcases Zv.mp z with z|z
   .exact d z
   .exact c (Zn.mp z)
theorem xuk {rent:bS}{al:ai}{asked:aG}{g:Int} (ask:vd):(MF al)=pj:=by
 funext z;unfold shS shR;by_cases c:z∈al
 .rw [jS,if_pos ((ask z).mpr c)]
 .rw [uu,az (j3,c ((ask z).mp y))]
theorem xx6 {own:bU}{g:Int}:shO own [] g=own:=by
 funext z;unfold shO;rw[az Ig]
theorem xx5 {rent:bS}{g:Int}:(MF [])=rent:=by
 funext z;unfold shS;rw[az Ig]
section
variable {t:Adr}{H H':Hp}{pz a dl d_o d_r p d1 d2:Addr}{n:Nat}{names:List Str}{ss:List Seat}{lens:Str->List (Seat × Int)}{so:Str->Option Seat}{ho:Seat->Option Str}{own own':Str->Int}{rent rent':Seat->Int}
theorem Pz.move (z:Pz t H pz a dl d_o d_r p d1 d2 n names ss lens so ho own rent) (k:NN vE) (ow':OwD H' d_o names own') (rn':RnD H' d_r ss rent'):Pz t H' pz a dl d_o d_r p d1 d2 n names ss lens so ho own' rent':=by
 show(ah,o,z.ow,r,z.rn);unfold OwD at o;unfold RnD at r;have tp:kh:=(Gh,k _ _ (ne_f e o) (ne_f e r) e);ext Sw;obtain⟨dx2,hp⟩:=z.sg.ins;show(ag,k1,hk1,f1,z.sg.so)
 show(ag,k2,hk2,f2,z.sg.ho)
 show(bF,kl,hkl,ll,fl,z.ln)
 refine⟨(lT,k _ _ (ne_f hpz o) (ne_f hpz r) hpz),⟨⟨dx2,k _ _ (ne_f hp o) (ne_f hp r) hp⟩,SoD.keep ⟨k1,hk1,f1⟩ tp (ng,k _ _ (Z2 z.n2) (ne_f hk1 r) e),(TU,⟨k2,hk2,f2⟩,k _ _ (ne_f hk2 o) (Z2 z.n1) e)⟩,ow',rn',(Rz,kl,k _ _ (Z2 z.n3) (ne_f hkl r) hkl),z.n1,z.n2,z.n3,z.n4⟩;show(bF,q,e1,e2,e3,fl nm h);show(gG,q,e1,k _ _ (ne_f e2 o) (fun y=>e3 (aA y dJ)) e2,e3)
#check _
noncomputable def xfn (H:Hp) (dl da:Addr) (names:am):Prop:=UV
inductive xm6 (t:Adr) (vs:af) (H:Hp) (Q:VK) (_:XK):Prop
 | mk (pz la da a dl d_o d_r p d1 d2:Addr) (n:Nat) (names crowd:am) (ss al:ai) (lens:b9) (so:bC) (ho asked:aG) (own:bU) (rent:bS) (g:Int) (e_:vs=[FR,.ref la,.ref da,.int g]) (r_:(zkP,Pz t H pz a dl d_o d_r p d1 d2 n names ss lens so ho own rent,(wg,Ry,Iw,vn,Ue,(NN vE)->Pz t H' pz a dl d_o d_r p d1 d2 n names ss lens so ho pB pj->kn)))
theorem xq8 {t:Adr}{H:Hp}{Q E}{pz la da a dl d_o d_r p d1 d2:Addr}{n:Nat}{names crowd:am}{ss al:ai}{lens:b9}{so:bC}{ho asked:aG}{own:bU}{rent:bS}{g:Int} (h:Pz t H pz a dl d_o d_r p d1 d2 n names ss lens so ho own rent/\GN/\Hz/\vd/\KF/\crowd.Nodup/\al.Nodup/\Ry/\Iw/\vn/\Ue /\
 ∀ H',(NN vE)->Pz t H' pz a dl d_o d_r p d1 d2 n names ss lens so ho pB pj->kn):xm6 t [FR,.ref la,.ref da,.int g] H Q E:=⟨pz,la,da,a,dl,d_o,d_r,p,d1,d2,n,names,crowd,ss,al,lens,so,ho,asked,own,rent,g,rfl,h⟩
inductive xst (t:Adr) (vs:af) (H:Hp) (Q:VK) (_:XK):Prop
 | mk (pz la da a dl d_o d_r p d1 d2:Addr) (n:Nat) (names crowd:am) (ss al:ai) (lens:b9) (so:bC) (ho asked:aG) (own:bU) (rent:bS) (g:Int) (b:Str) (s:Seat) (e_:vs=(rq FR la da)) (r_:(ay,Pz t H pz a dl d_o d_r p d1 d2 n names ss lens so ho own rent,GN,Hz,vd,(ay KF crowd.Nodup al.Nodup Ry (ay Iw vn Ue Hg (ay,zaN,da≠d2,F4 Dw b,Gc,(zjc,Pz t H' pz a dl d_o d_r p d1 d2 n names ss lens so ho pB pj))))))
theorem xpm {t:Adr}{H:Hp}{Q E}{pz la da a dl d_o d_r p d1 d2:Addr}{n:Nat}{names crowd:am}{ss al:ai}{lens:b9}{so:bC}{ho asked:aG}{own:bU}{rent:bS}{g:Int}{b:Str}{s:Seat} (hh:Pz t H pz a dl d_o d_r p d1 d2 n names ss lens so ho own rent/\H la=some (.lst (crowd.map V.str))/\AkD H da al asked/\(∀ s,(asked s).isSome=true↔s∈al)/\(∀ b∈crowd,b∈names)/\crowd.Nodup/\al.Nodup/\Ry/\Iw/\vn/\Ue/\Hg/\zaN/\da≠d2/\(F4 Dw b)/\Gc /\
 (zjc,Pz t H' pz a dl d_o d_r p d1 d2 n names ss lens so ho pB pj)):xst t (rq FR la da) H Q E:=⟨pz,la,da,a,dl,d_o,d_r,p,d1,d2,n,names,crowd,ss,al,lens,so,ho,asked,own,rent,g,b,s,rfl,hh⟩
theorem AkD.add {H:Hp}{d:Addr}{al:ai}{asked:aG} (h:zbf) {s:Seat}{b:Str} (ns:Gc):(ae,upd H d (.dT (putK (IO,jB eA ((iH).getD (Z9 ""))) eA (.str b))) d,(.dT ((oE).map (aj (jB,x8 z,(IS b z).getD (Z9 "")))))):=by
 rw[xk,xcx _ (xf2 xd4 ns),Zt]
 congr 2
 have e1:(IO,jB eA ((iH).getD (Z9 "")))=al.map (aj (jB,x8 z,(IS b z).getD (Z9 ""))):=JN fun z hz=>by
  unfold Kp.upd1;rw[az (fun y:z=s=>ns (cY y hz))]
 rw[e1]
 congr 1
 show [(eA,V.str b)]=[jB eA ((Kp.upd1 asked s b s).getD (Z9 ""))]
 unfold Kp.upd1;rw[cp];rfl
theorem ok_i (T:aL):FnOk true P w K mg base aH 1 t.f_i t.d_i Vu (xm6 t):=by
 refine T.F_i.okn (k:=0) sc_i (aM h) (fun cdv A outer s H vs Q E hr h=>?_)
 .obtain ⟨pz,la,da,a,dl,d_o,d_r,p,d1,d2,n,names,crowd,ss,al,lens,so,ho,asked,own,rent,g,rfl,_⟩:=h;rfl
 .obtain ⟨pz,la,da,a,dl,d_o,d_r,p,d1,d2,n,names,crowd,ss,al,lens,so,ho,asked,own,rent,g,rfl,h⟩:=h;refine⟨_,xh (nW uq 4 sc_i.nd (xl (xm4 fU bo df fZ xw8 (by intros; rfl))))
   (xl (xmy (nW (xrp (pv 2)) 5 sc_i.nd (xl (xm4 fU bo uR fZ xw2 (by intros; rfl)))))),?_⟩
  refine sq2 ?_; intros; refine fq ?_; intros; obtain⟨z,hla,hda,ask,cin,cnd,⟨and_,ain,s32,n12,ndr,q⟩⟩:47:=h;show(ah,ow0,z.ow,rn0,z.rn);show(av,BIG,Nu,RZ,nT la hla);ext jv nla la d_o hla ow0;ext jv nda da d_o hda ow0;ext Sw;ext jv npo pz d_o hpz ow0;ext jv npr pz d_r hpz rn0;ext jv nro d_r d_o rn0 ow0
  let Pv (i:Nat) (Z:L2.St) (H1:Hp):Prop:=∃(v4 v5:cc),(bM,Z,zoC,(fJ d_o tQ (ae,H1 c,u)),OwD H1 d_o names (shO own By g))
  show(AD,Pq,?_,?_)
  .exact (fP,_,zcq,qi List.take_zero xx6 ow0)
  .rintro i Z H1 _ (⟨_,_,rfl,k1,_⟩:83);show(wX,k1 _ _ nla hla)
  .rintro i x Z H1 hx (⟨v4,v5,rfl,k1,ow1⟩:83);ext Fb b hb;have bin:=cin b (Zk hb);have nb:b∉By:=fun zz=>by
    ext pQ hi e hb;have:=xc1 id (ps:=crowd) (aA YY cnd) hi b zz;exact this e.symm
   refine⟨pz,_,dx,_,_,rfl,(R6,k1 _ _ npo hpz,(fP,d_o,ow1.get bin,⟨_,_,rfl,rfl,_,(zt,.inr b,ow1,qM),?_⟩))⟩;refine(su,_,pZ (cS,nc,k1 c u nc e));rw[ZR,hb];show OwD _ d_o names (shO own (By++[b]) g);rw[xru nb];unfold OwD;show(zsb,putM inrI bin)
   ext ir nn b
   .rw [jS,jS]
   .rw [uu,uu]
  .rintro Z H1 (⟨v4,v5,rfl,k1,ow1⟩:83);ext j5 Jg ow1;have hda1:(ae,H1 da,(DM,jB eA ((iH).getD (Z9 "")))):=k1 _ _ nda hda;show(av,rn1,RnD H1 d_r ss rent,k1 _ _ nro rn0,(fP,da,hda1,aq ob nf));ext jv npa pz da hpz hda;have noa:d_o≠da:=Z2 nda
   show(zpt,∃(v5:cc),(ay,Z=zoC,(VN (ae,H2 c,u)),(rH da (.frz ob (DM,jB eA ((iH).getD (Z9 ""))))),OwD H2 d_o names pB,RnD H2 d_r ss (MF (al.take j))))
   refine xoi (Pv:=Pv) ?_ ?_ ?_ ?_
   .refine ⟨65,_,rfl,fun c u n1 n2 n3 e=>(cS,n3,k1 c u n1 e),xk,?_,?_⟩
    .show upd H1 da _ d_o=_;ext ip noa ow1
    .rw [List.take_zero,xx5];show upd H1 da _ d_r=_;ext As ndr rn1
   .rintro j Z H2 _ (⟨_,rfl,_,e2,_⟩:64);exact e2
   .rintro j k x qk Z H2 hk hqk (⟨v5,rfl,k2,e2,ow2,rn2⟩:65);rw[Zc,Ze] at hk;ext ag s hs hsk hk;cases hsk;show(cG,hqk,rH qk (tT s),hqk,sin,ain s (Zk hs));have nb:s∉al.take j:=fun zz=>by
     ext pQ hi e hs;have:=xc1 id (ps:=al) (aA YY and_) hi s zz;exact this e.symm
    refine⟨pz,_,dx,_,_,rfl,(wN,k2 _ _ npo npr npa hpz,T.n_b2,lkZr,(fP,d_r,rn2.get sin hqk,⟨_,_,rfl,rfl,_,DPut.t (k:=eA) rn2 hqk qM,?_⟩))⟩;refine⟨65,_,rfl,fun c u n1 n2 n3 e=>(cS,n2,k2 c u n1 n2 n3 e),cS ndr e2,?_,?_⟩
    .show upd H2 d_r _ d_o=_;ext As nro ow2
    .rw [ZR,hs];show RnD _ d_r ss (MF (al.take j++[s]));rw[xrn nb];unfold RnD;show(zsb,putM xd4 sin)
     ext ir nn s
     .rw [jS,jS]
     .rw [uu,uu]
   .rintro Z H2 (⟨v5,rfl,k2,e2,ow2,rn2⟩:65);rw[Za,Jg,xuk ask] at rn2;refine⟨103,da,ob,_,e2,nf,?_⟩;have fr:NN (qC H2 da (DM,jB eA ((iH).getD (Z9 "")))):=fun c u n1 n2 e=>by
     by_cases c1:c=da
     .subst c1;ext uC hda e xk
     .show(cq,xj c1,k2 c u n1 n2 c1 e)
    refine q _ fr (z.move fr ?_ ?_)
    .show upd H2 da _ d_o=_;ext ip noa ow2
    .show upd H2 da _ d_r=_;ext As ndr rn2
theorem ok_z (T:aL):FnOk true P w K mg base aH 2 t.f_z t.d_z zoi (xst t):=by
 refine T.F_z.okn (k:=1) sc_z (aM h) (fun cdv A outer s H vs Q E hr h=>?_)
 .obtain ⟨pz,la,da,a,dl,d_o,d_r,p,d1,d2,n,names,crowd,ss,al,lens,so,ho,asked,own,rent,g,b,s0,rfl,_⟩:=h;rfl
 .obtain ⟨pz,la,da,a,dl,d_o,d_r,p,d1,d2,n,names,crowd,ss,al,lens,so,ho,asked,own,rent,g,b,s0,rfl,h⟩:=h;refine⟨_,xh (OZ (xae aQ T.c_t T.m_v (ok_v T) aC T.b_v .nil xq oz) 3 sc_z.nd (gJ 4 sc_z.nd 5))
   (xh (xap (xae aQ T.c_t T.m_i (ok_i T) aC T.b_i .nil xq Ko))
   (xh (rD gW uR df)
   (tw 5))),?_⟩
  refine sq4 ?_; intros; obtain⟨z,hla,hda,ask,cin,cnd,⟨and_,ain,s32,n12,ndr,rin,nln,nd2,nr,nal,q⟩⟩:47:=h;ext Sw;refine⟨pz,dx,_,rfl,hpz,xgl aK,?_⟩;ext LU;refine xnu ⟨47,z,hla,hda,ask,cin,rin,⟨nln,bX H1 v s1 fv⟩⟩;rw[nr] at fv;rcases fv with⟨e,_⟩|⟨g',b',s',q1,qs,e,rfl,hq1,hqs⟩
  .cases e
  cases e;show(m9,q1,hq1,⟨pz,dx,_,rfl,iT hpz,xgl aK,?_⟩);ext LU;refine xq8 ⟨47,z.same s1,iT hla,iT hda,ask,cin,cnd,⟨46,and_,ain,s32,n12,ndr,aI H2 k2 z2⟩⟩;show(ah,ow1,iT z.ow,rn1,iT z.rn);have hda1:(ae,H1 da,(DM,jB eA ((iH).getD (Z9 "")))):=iT hda;show(cG,hda2,AkD H2 da al asked,k2 _ _ (ne_f hda1 ow1) ndr hda1,hqs2,k2 _ _ (ne_f hqs ow1) (ne_f hqs rn1) hqs);show(av,al32,al.length<=32,ZK (xih and_ ain) s32,(su,da,DPut.t (k:=x8 s0) hda2 hqs2 qN));have hda2':(ae,H2 da,(DM,jB eA ((iH).getD (Z9 "")))):=hda2;have fr:VN (qC H2 da (.dT (putK (IO,jB eA ((iH).getD (Z9 ""))) (x8 s0) (.str b)))):=fun c u n1 n2 n3 e=>by
   show(ip,n3,k2 c u n1 n2 kH)
  refine q _ qs fr (aA,rJ hqs2 hda2',hqs2) ?_ (hda2.add nal)
  -- the dict of those who asked is none of the prices'
  have fr2:fJ da (ae,H2 c,u) (qC H2 da (.dT (putK (IO,jB eA ((iH).getD (Z9 ""))) (x8 s0) (.str b)))):=fun c u n3 e=>by
   ext ip n3 e
  obtain⟨dx2,hpz2⟩:=z2.ins;obtain⟨dx3,hp2⟩:=z2.sg.ins;show(ag,m1,hm1,f1,z2.sg.so)
  show(ag,m2,hm2,f2,z2.sg.ho)
  show(bF,ml,hml,ll,fl,z2.ln)
  show(ah,ow2,z2.ow,rn2,z2.rn);show(av,tp,Tups H2 (jn H2 da (putK (IO,jB eA ((iH).getD (Z9 ""))) (x8 s0) (.str b))),(Gh,fr2 _ _ (ne_f e hda2') e),⟨⟨dx2,Pc hpz2⟩,⟨⟨dx3,Pc hp2⟩,SoD.keep ⟨m1,hm1,f1⟩ tp (ng,fr2 _ _ (ne_f hm1 hda2') e),(TU,⟨m2,hm2,f2⟩,fr2 _ _ (Z2 nd2) e)⟩,Pc ow2,fr2 _ _ (Z2 ndr) rn2,(Rz,ml,Pc hml),z2.n1,z2.n2,z2.n3,z2.n4⟩);show(bF,qq,e1,e2,e3,fl nm h);refine(bL,qq,e1,fr2 _ _ ?_ e2,e3);show(iB,k0,hk0,z.ln)
  have hk2:=k2 _ _ (Z2 z.n3) (ne_f hk0 z.rn) (iT hk0);ext bG hml hk2 hk2;exact nln nm h qq ⟨ml,hk0,e1⟩
noncomputable def xab (w:Nat) (ps:ao) (srt:ai) (nm:Str):sN:=match G4 nm with
 | some p=>(OD).map fun s=>(s,G3)
 | none=>[]
theorem xf9 {w:Nat}{ps:ao}{srt:ai}:xax hW=vW:=by
 funext nm;unfold xax xab xas;cases G4 nm with
 | none=>rfl
 | some p =>
  show List.map _ (List.map _ _)=_;rw[Z8];exact YY _
theorem xhd {w h:Nat}{ps:ao}{ss srt:ai} (w30:kM) (h16:jV) (pok:mC) (sok:SsOk ib ss) (pm:EH):xdk hW srt:=by
 show(av,nd,srt.Nodup,pm.nodup_iff.mpr sok.1,⟨cH n,Sc,aI n s hs,nd⟩)
 .rw [xf9];unfold xas;split
  .exact tJ nd
  .exact Yf
 .unfold xab at hx;split at hx
  .rename_i p hf
   ext dW s hs hx;show(ah,pin,pok.ok p (ZC hf),sin,sok.2.2 s (pm.mem_iff.mp (qm hs)));have:=pin.x1;have:=pin.x2;have:=pin.y1;have:=pin.y2;have:=sin.1;have:=sin.2;show np G3 46;unfold lenI;ext Pw
  .exact nomatch hx
 .rw [xf9] at hs;unfold xas at hs;split at hs
  .exact qm hs
  .exact nomatch hs
theorem xjf {d:Addr}:∀(L:zT Kh) {H:Hp}{kvs:dC},(yc d)->zqF->(L.map (·.2.1)).Nodup->(∀ x∈L,valV kvs (x8 cM)=none)->zmB ->
    ∃ H2,xep d H znY H2/\H2 d=some (.dT (kvs++LnT (L.map (·.2))))/\(zbd d)
  | [],H,kvs,e,_,_,_,_=>(bL,H,.nil,by rw[e]; simp[LnT],PM)
  | x::L,H,kvs,e,f,nd,nv,hn=>by
    rw[Z6] at hn;ext vS;have hx:=f x dJ;have up:pH d jd (ae,upd H d (.dT Xi) b,u):=fun b u nb eb=>by
      ext ip nb eb
    have put:DPut H d (.ref bn) (.int lQ) (jn H d Xi):=by
      have z:=DPut.t (k:=x8 cM) (v:=.int lQ) e hx (xb7 aa);show(bV,xcx _ (nv x dJ),z,z)
    obtain⟨H2,dps,e2,k2⟩:63:=xjf L (H:=jn H d Xi) xk (oF,up _ _ (ne_f (f y wG) e) (f y wG)) gD (fun y hy=>by
      have nk:¬ x8 (bc y)=x8 cM:=(aj,nd.1 (Ht,xd4 _ _ z,cE y hy));have z:=xcg kvs (x8 cM) (x8 (bc y)) (.int lQ);rw[xcx _ (nv x dJ),az nk,nv y wG] at z;exact z) Kq
    refine(bL,H2,.cons put dps,?_,fun b u nb eb=>k2 _ _ nb (up _ _ nb eb));rw[e2,QC];rfl
theorem xhx {H:Hp}:∀{tgt:sN}{ys:af},(zS tgt.length)->(O0 (U2 tgt)) ->
    ∃(ps:El) (L:zT Kh),ys=ps.map PV/\WC/\ps.map (·.2)=znY/\L.map (·.2)=tgt/\zqF
  | [],[],_,_=>⟨85,[],[],rfl,Hr,rfl,rfl,Hr⟩
  | [],dc,h,_=>ft
  | dc,[],h,_=>ft
  | x::tgt,nu,h,f=>by
    obtain⟨q,qs,s,l,rfl,h1,h2,h3⟩:124:=f 0 y rfl;obtain⟨ps,L,e1,e2,e3,e4,e5⟩:85:=xhx (tgt:=tgt) (ys:=ys) yh (fun i y hy=>by
      obtain⟨q,qs,s,l,a1,a2,a3,a4⟩:124:=znf;exact⟨124,q,qs,s,l,a1,a2,a3,by simpa using a4⟩)
    show(lY,h3,x,Dk,by simpa using h3,⟨85,(q,.ref qs,.int l)::ps,(qs,s,l)::L,eS e1,lv,mh Zp Zp e3,mh Zp e4 h3,rg⟩)
    . rcases FJ with rfl|hp
      . exact h1
      . exact e2 p hp
    . rcases eJ hz with rfl|hz
      . exact h2
      . exact e5 z hz
inductive xrg (t:Adr) (vs:af) (H:Hp) (Q:VK) (_:XK):Prop
 | mk (pz dx a dp do_:Addr) (w h:Nat) (ps:ao) (st srt:ai) (lens:b9) (e_:vs=[.ref pz,bq]) (r_:(aT pz (wB []))/\Dr t H a dp do_ w h ps st srt/\∀ H' dl d_o d_r p d1 d2,bg (bu dl) (bu d_o) (bu d_r) rS (bg,bu d1,bu d2,o8 pz,Pz t H' pz a dl d_o d_r p d1 d2 0 [] srt lens fe fe Uz Uz,kn))
theorem ok_ax (T:aL):FnOk true P w K mg base aH 4 t.f_ax t.d_ax vb (xrg t):=by
 refine T.F_ax.okn (k:=3) sc_ax (aM h) (fun cdv A outer s H vs Q E hr h=>?_)
 .obtain ⟨pz,dx,a,dp,do_,w',h',ps,st,srt,lens,rfl,_⟩:=h;rfl
 .obtain ⟨pz,dx,a,dp,do_,w',h',ps,st,srt,lens,rfl,h⟩:=h;refine⟨_,xh (FX bT)
   (xh Ug
   (xh Ug
   (xh (FX (Ay (xa6 rfl (xay (zs:=["seat"]) (ys:=[]) (fr:=[]) (N0:=vb) (sc0:=xm s_ax) aK rfl rfl rfl) (xaj (xal bT T.c_a T.m_n Gm aC T.b_n .nil xq)) jY jR eC (pA ro))))
   (Eu (xlk T.k_ak (ok_ar T) aC rfl T.g_ak T.b_ar .nil xq))))),?_⟩
  refine sq5 ?_; intros; ext oR hpz dr;refine⟨126,pz,_,dx,_,rfl,hpz,T.c_t,T.n_bz,(kU 0),?_⟩;show(rA,k1,pz,jd,(ae,upd H pz Nd b,u),Tm)
  have hz1:(ae,upd H pz Nd pz,wB [yt]):=xk;have f1:(gY,upd H pz Nd b=none,dE):=fun b e=>by
   ext FZ
   .ext vR c xk
   .ext UI; exact e
  revert k1 hz1 f1;show bb _ _ _ _;generalize eO pz Nd=H1;intro k1 hz1 f1;refine aq dl hdl;show(av,s2,Same H1 Ek,bP hdl,⟨126,pz,_,dx,_,rfl,dF hz1,T.c_t,T.n_by,(kU 1),?_⟩);have npl:pz≠dl:=xi hz1 hdl;show(rA,k3,pz,(ae,H1 b,u),qD Ek pz G8,cS nb CP)
  have hz3:lJ Ek pz G8 pz (wB [yt,DW]):=xk;have gl3:upd Ek pz G8 dl=(Cf []):=(aA,kP npl,xk)
  have f3:(gY,wM Ek pz G8 b,H1 b=none):=fun b e=>by
   ext FZ
   .ext vR c xk
   .ext UI; exact s2.free e
  revert k3 hz3 gl3 f3;show bg _ _ _ _ _;generalize upd Ek pz G8=H3;intro k3 hz3 gl3 f3;refine aq d_o hdo;show(av,s4,Same H3 Ed,bP hdo,⟨126,pz,_,dx,_,rfl,cO hz3,T.c_t,T.n_b1,(kU 2),?_⟩);have npo:pz≠d_o:=xi hz3 hdo;have nol:d_o≠dl:=kQ gl3 hdo;show(rA,k5,pz,(ae,H3 b,u),qD Ed pz G7,(cS,nb,cO e))
  have hz5:lJ Ed pz G7 pz (wB [yt,DW,PY]):=xk;have go5:upd Ed pz G7 d_o=(Cf []):=(aA,kP npo,xk)
  have f5:(gY,wM Ed pz G7 b,H3 b=none):=fun b e=>by
   ext FZ
   .ext vR c xk
   .ext UI; exact s4.free e
  revert k5 hz5 go5 f5;show bg _ _ _ _ _;generalize upd Ed pz G7=H5;intro k5 hz5 go5 f5;have gl5:=k5 _ _ (Z2 npl) gl3;have k05:pH pz jd (ae,H5 b,u):=(tK,k5 _ _ nb (k3 _ _ nb zeT));obtain⟨⟨dxa,hpic⟩,⟨kp,hkp,plp⟩,w1,w2,h1,h2,le⟩:=Tu;show(ag,ko,hko,kr,id dr.sts);have nap:a≠pz:=fun z=>by
   rw[z,hpz] at hpic;have z2:=b8 (HO.ins.inj (ZO.inj hpic));exact nomatch z2
  have kt:Tups H H5:=(jj,k05 _ _ (ne_f e hpz) e);have pic5:Pic t H5 a dp do_ gz gQ ps:=⟨⟨dxa,k05 _ _ nap hpic⟩,⟨kp,k05 _ _ (ne_f hkp hpz) hkp,plp.keep kt⟩,w1,w2,h1,h2,le⟩
  show(av,sts5,Sts H5 do_ st,⟨ko,k05 _ _ (ne_f hko hpz) hko,kr⟩,⟨a,dxa,_,rfl,k05 _ _ nap hpic,br,a,dp,do_,w',h',ps,st,rfl,pic5,sts5,fun l6 ss6 us hl6 sl6 pm lt=>?_⟩);show(yH,ss6,pm.trans dr.pm.symm,lt,dr.lt);ext zgX;have s32:ss6.length<=32:=GP
  show(qj,snd,ss6.Nodup,dr.pm.nodup_iff.mpr dr.ok.1,iw l6 g6 l7 hl7,xbf (aW g6) qN hl7 (uD,U2 zoL) (fun _ _ _ _ tp ⟨q,qs,s,l,z1,z2,z3,z4⟩=>⟨124,q,qs,s,l,z1,iS z2,iS z3,z4⟩) (fun i x H7 hx s7 N hN=>?_) (fun ys H7 s7 e7 ly fy=>?_))
  .ext xN;show(ag,s,hs,hsq,sl6'.get hqa);ext h9 cR q5 hq5;show(kO,s8,Same H7 (iJ,H7,q5,.ref qa,0),UB,nM s8 ⟨124,q5,qa,s,0,rfl,xk,qJ (oU hsq),d7 Zc hs⟩)
  ext j5 usl ly;obtain⟨prs,L,rfl,hprs,ep,eL,hL⟩:85:=xhx (tgt:=zoL) (bR ly Za) fy;refine(Av,l7,prs,e7,hprs,aq d_r hdr);have L1:(L.map (·.2.1))=ss6:=by
   have:L.map (·.2.1)=(L.map (·.2)).map (·.1):=eS Z8
   rw[this,eL,Z8];exact YY _
  have ll:L.length=ss6.length:=by
   show(Ia,uO L1,Za)
  have s8:Same H7 (jn H7 d_r []):=bP hdr;show(bF,H8,dps,e8,k8,xjf (d:=d_r) L (H:=jn H7 d_r []) (kvs:=[]) xk (dM,qJ (hL x hx)) (aA L1 snd) gK iZ);refine(aZ,.dT [],H8,wu,aA ep dps,?_);rw[eL] at e8;have rn8:(ae,H8 d_r,(.dT (ss6.map fun s=>(eA,V.int 0)))):=by
   rw[e8];unfold LnT;rw[Z8];rfl
  show(oW,s78,Same H7 H8,k8 _ _ (xi e hdr) (s8 _ _ e));have s58:Same H5 H8:=(Sk).trans s78;show(av,fdr5,H5 d_r=none,(Sk).free hdr,⟨126,pz,_,dx,_,rfl,uN hz5,T.c_t,T.n_b2,(kU 3),?_⟩);show(rA,k9,pz,(ae,H8 b,u),qD H8 pz NI,Tm)
  have hz9:lJ H8 pz NI pz (wB znh):=xk;have f9:(gY,wM H8 pz NI b,H8 b=none):=fun b e=>by
   ext FZ
   .ext vR c xk
   .ext UI; exact e
  revert k9 hz9 f9;show bb _ _ _ _;generalize upd H8 pz NI=H9;intro k9 hz9 f9;have npr:pz≠d_r:=xi hz5 fdr5;have gl9:=k9 _ _ (Z2 npl) (uN gl5);show(ah,go9,k9 _ _ (Z2 npo) (uN go5),gr9,k9 _ _ (Z2 npr) rn8);refine bN p dx2 hp hdx ne;show(CD,p,dx2,xk,fun H10 d1 d2 hd1 hd2 k10 sg10=>tZ);have up:(gY,wM (upd H9 dx2 (.own p)) p (.ins t.C_ak dx2 []) b,H9 b=none):=fun b z=>by
   cases e:H9 b with
   | none=>rfl
   | some u=>ext zfz zE
  show(oW,s910,Same H9 H10,k10 _ _ (xi e hp) (qi zE Fx e));show(w8,h91,up _ hd1,h92,up _ hd2,⟨126,pz,_,dx,_,rfl,s910 _ _ hz9,T.c_t,T.n_bw,(kU 4),?_⟩);show(rA,kF,pz,(ae,H10 b,u),qD H10 pz zrI,Tm)
  have fr:(gY,H9 b=none,dE):=fun b e=>by
   cases z:H b with
   | none=>rfl
   | some u =>
    ext FZ
    .ext vR c hz9
    .rw [k9 _ _ c (uN (k05 _ _ c z))] at e; cases e
  have fr5:(gY,H5 b=none,dE):=fun b e=>by
   cases z:H b with
   | none=>rfl
   | some u =>
    ext FZ
    .ext vR c hz5
    .rw [k05 _ _ c z] at e; cases e
  obtain⟨dx3,hp10⟩:=sg10.ins;show(ag,m1,hm1,g1,sg10.so)
  show(ag,m2,hm2,g2,sg10.ho)
  have gz10:=s910 _ _ hz9;have tpF:Tups H10 (upd H10 pz zrI):=(jj,kF _ _ (ne_f e gz10) e);have npp:p≠pz:=kQ hz9 hp;refine q _ dl d_o d_r p d1 d2 (f1 _ hdl) (f1 _ (f3 _ hdo)) (fr5 _ fdr5) (fr _ hp) (fr _ h91) (fr _ h92) (tK,kF _ _ nb (s910 _ _ (k9 _ _ nb (uN (k05 _ _ nb e))))) ?_;exact⟨FU,⟨⟨dx3,kF _ _ npp hp10⟩,SoD.keep ⟨m1,hm1,g1⟩ tpF (ng,kF _ _ (ne_f hm1 gz10) e),(TU,⟨m2,hm2,g2⟩,kF _ _ (ne_f hm2 gz10) e)⟩,zbn npo go9,zbn npr gr9,(bL,[],zbn npl gl9,bv,Hr),(aj,sJ h92 gr9),(aj,sJ h91 go9),nol,(aj,sJ h91 gl9)⟩
section
variable {t:Adr}{H H':Hp}{pz a dl d_o d_r p d1 d2:Addr}{n:Nat}{names:List Str}{ss:List Seat}{lens:Str->List (Seat × Int)}{so so':Str->Option Seat}{ho ho':Seat->Option Str}{own own':Str->Int}{rent rent':Seat->Int}
theorem Pz.keep1 (z:Pz t H pz a dl d_o d_r p d1 d2 n names ss lens so ho own rent) {x:Addr} (k:fJ x tQ vE) (tp:kh) (e0:pz≠x) (e1:p≠x) (e2:d1≠x) (e3:d2≠x) (e4:d_o≠x) (e5:d_r≠x) (e6:dl≠x) (e7:xfn H dl x names):Pz t H' pz a dl d_o d_r p d1 d2 n names ss lens so ho own rent:=by
 show(zhp,⟨let ⟨dx,e⟩:=z.ins; (lT,k _ _ e0 e),z.sg.keep e1 e2 e3 tp k,k _ _ e4 z.ow,k _ _ e5 z.rn,(Rz,kl,k _ _ e6 hkl),z.n1,z.n2,z.n3,z.n4⟩,k _ _ (e7 nm h q ⟨kl,hkl,q1⟩) q2)
theorem Pz.keepL (z:Pz t H pz a dl d_o d_r p d1 d2 n names ss lens so ho own rent) {x:Addr}{xs:af} (hx:vy x xs) (k:fJ x tQ vE):Pz t H' pz a dl d_o d_r p d1 d2 n names ss lens so ho own rent:=by
 show(FB,hz,z.ins);obtain⟨dx2,hp⟩:=z.sg.ins;ext zkd
 show(bF,kl,hkl,ll,fl,id z.ln);exact z.keep1 k (Gh,k _ _ (ne_f e hx) e) (ne_f hz hx) (ne_f hp hx) (ne_f hk1 hx) (ne_f hk2 hx) (ne_f z.ow hx) (ne_f z.rn hx) (ne_f hkl hx) (fun nm h q ⟨kv,e1,e2⟩=>by
  show(tu,q',q1,q2,fl nm h);ext bG hkl e1 e1;ext bG q1 e2 e2;exact ne_f q2 hx)
theorem xfn.keep {da:Addr} (z:Pz t H pz a dl d_o d_r p d1 d2 n names ss lens so ho own rent) (h:zaN) (k:Od dl):xfn H' dl da names:=fun nm hn q ⟨kv,e1,e2⟩=>by
 show(iB,kl,hkl,z.ln)
 have:=k _ hkl;ext bG e1 this this;exact h nm hn q ⟨kv,hkl,e2⟩
theorem AkD.hod {d:Addr}{al:ai}{asked:aG} (h:zbf) (ask:vd):HoD H d al.length asked:=by
 refine(bL,_,h,by rw[Za]; exact Zl _,cH s);cases e:iH with
 | none=>exact xf2 xd4 zjM
 | some x =>
  rw[valM xd4 ((ask s).mp ur),e];rfl
theorem Pz.hand (z:Pz t H pz a dl d_o d_r p d1 d2 n names ss lens so ho own rent) (k:Rt) {m:Nat} (sg:Sg t H' p d1 d2 m so' ho'):Pz t H' pz a dl d_o d_r p d1 d2 m names ss lens so' ho' own rent:=by
 show(FB,hz,z.ins);ext zkd
 show(zhp,⟨(lT,k _ _ (ne_f hz hk1) (ne_f hz hk2) hz),sg,k _ _ z.n2 (ne_f z.ow hk2) z.ow,k _ _ (ne_f z.rn hk1) z.n1 z.rn,(Rz,kl,k _ _ z.n4 (ne_f hkl hk2) hkl),z.n1,z.n2,z.n3,z.n4⟩,k _ _ (ne_f q2 hk1) (fun y=>q3 (aA,y,Zi _ dJ)) q2)
#check _
noncomputable def F5 (H H':Hp) (dl d_o d_r d1 d2:Addr):Prop:=fJ dl CC (bg,c≠d_r,c≠d1,c≠d2,tQ,vE)
inductive xnd (t:Adr) (vs:af) (H:Hp) (Q:VK) (_:XK):Prop
 | mk (pz a dl d_o d_r p d1 d2 dp do_:Addr) (n w h:Nat) (ns:am) (ps:ao) (st srt:ai) (so:bC) (ho:aG) (own:bU) (rent:bS) (nm:Str) (e_:vs=[.ref pz,mS]) (r_:Pz t H pz a dl d_o d_r p d1 d2 n ns srt hW so ho own rent/\(ay,Dr t H a dp do_ w h ps st srt,mC,n<=500,ns.length<12,(ay,zps,nm∉ns,Fit hW ns so ho own rent,zgP,(zfW,F5 H H' dl d_o d_r d1 d2,Pz t H' pz a dl d_o d_r p d1 d2 (n+30) kB srt hW so' ho' own' rent',Fit hW kB so' ho' own' rent'))))
theorem xqw {t:Adr}{H:Hp}{Q E}{pz a dl d_o d_r p d1 d2 dp do_:Addr}{n w h:Nat}{ns:am}{ps:ao}{st srt:ai}{so:bC}{ho:aG}{own:bU}{rent:bS}{nm:Str} (hh:Pz t H pz a dl d_o d_r p d1 d2 n ns srt hW so ho own rent/\Dr t H a dp do_ w h ps st srt/\mC/\n<=500/\ns.length<12/\zps/\nm∉ns/\Fit hW ns so ho own rent/\zgP /\
 (zfW,F5 H H' dl d_o d_r d1 d2,Pz t H' pz a dl d_o d_r p d1 d2 (n+30) kB srt hW so' ho' own' rent',Fit hW kB so' ho' own' rent')):xnd t [.ref pz,mS] H Q E:=⟨pz,a,dl,d_o,d_r,p,d1,d2,dp,do_,n,w,h,ns,ps,st,srt,so,ho,own,rent,nm,rfl,hh⟩
theorem ok_ab (T:aL):FnOk true P w K mg base aH 7 t.f_ab t.d_ab j6 (xnd t):=by
 refine T.F_ab.okn (k:=6) sc_ab (aM h) (fun cdv A outer s H vs Q E hr h=>?_)
 .obtain ⟨pz,a,dl,d_o,d_r,p,d1,d2,dp,do_,n,w',h',ns,ps,st,srt,so,ho,own,rent,nm,rfl,_⟩:=h;rfl
 .obtain ⟨pz,a,dl,d_o,d_r,p,d1,d2,dp,do_,n,w',h',ns,ps,st,srt,so,ho,own,rent,nm,rfl,h⟩:=h;refine⟨_,xh (rD bo bT (Ay (xa6 rfl (xay (zs:=["side", "row"]) (ys:=["name", "self"]) (fr:=[1,0]) (N0:=zil) (sc0:=xm s_ab) aK rfl rfl rfl) (xaj (xae bo T.c_a T.m_l (ok_l T) aC T.b_l .nil xq ia)) GD G1 eC (pA (xa (xah p8) (xa (xae (zba,x9 (pv 3) rfl) T.c_a T.m_s (ok_s T) aC T.b_s .nil xq (kG 2 0 1)) (xg)))))))
   (xh (rD bo bT (xo))
   (xh (pS 2 sc_ab.nd (xb2 ia))
   (xh (pS 3 sc_ab.nd (xfb))
   (xh (pS 4 sc_ab.nd (xae aQ T.c_t T.m_z (ok_z T) aC T.b_z .nil xq tM))
   (xh (xga ZF (xcj (xel fU df (x9 bo rfl))) (xh (xap (xev Jp Yz Yy xdr gW (xa (rG (x9 bo rfl) df) (xg))))
   (xl (pS 4 sc_ab.nd (xae aQ T.c_t T.m_z (ok_z T) aC T.b_z .nil xq tM)))))
   (oP (xae bo T.c_ak T.m_o (ok_o T) aC T.b_o .nil xq (fC 3 4)))))))),?_⟩
  refine sq7 ?_; intros; obtain⟨z,dr,pok,n500,n12,⟨pt,ptin,pte⟩,⟨nnm,fit,⟨so2,ho2,mt2,all2⟩,q⟩⟩:47:=h;subst pte;have BIG:Nu:=RZ;have w30:w'<=30:=gO dr.pic.w2
  show(cG,h16,h'<=16,gO dr.pic.h2,lo,Nz);have s32:srt.length<=32:=GP
  ext Sw;show(vq,dxa,hpic,dr.pic);show(ah,hf,xdu pok.nn ptin,pnm,(pok.ok pt ptin).nm);have elen:xab w' ps srt pt.nm=(zab).map fun s=>(s,zmW):=by
   unfold xab;rw[hf]
  refine⟨pz,_,dx,_,_,rfl,wN hpz T.n_bz lkZp ⟨a,dxa,_,rfl,hpic,br,a,dp,do_,w',h',ps,st,pt,rfl,dr.pic,dr.sts,dr.ok,pnm,hf,fun H1 l1 srt' rs1 s1 fl1 pm1 lt1 e1 sl1=>?_⟩⟩;show(yH,srt',pm1.trans dr.pm.symm,lt1,dr.lt);have rl1:=sl1.len;show(qj,fl32,TW XU,ZK rP s32,OO,xbf Mh qM hl2 (uD,U2 XR) (fun _ _ _ _ tp ⟨q,qs,s,l,z1,z2,z3,z4⟩=>⟨124,q,qs,s,l,z1,iS z2,iS z3,z4⟩) (fun i x H2 hx s2 N hN=>?_) (fun ys H2 s2 e2 ly fy=>?_))
  .ext xN;show(ag,s,hs,hsq,sl1.get hqa);have sin:=dr.ok.2.2 s (dr.pm.mem_iff.mp (Zz.mp (Zk hs)).1);show(m9,qa,dF hsq,h7 cR q3 hq3);generalize eu:iJ H2 q3 E3 eB=H3;ext uj s3 hq3;show(ah,g3,ug_e eu,s03,(i5).trans s3);show(bw,⟨pz,_,dx,_,_,rfl,(wN,s03 _ _ hpz,T.n_bz,lkZp,⟨a,dxa,_,rfl,s03 _ _ hpic,br,a,dp,do_,w',h',ps,pt.nm,pt,s.1,eB,rfl,Pic.same s03 dr.pic,pnm,hf,sin.1,sin.2,Kr⟩)⟩,h7 cR q5 hq5);show(kO,s5,Same H4 (iJ,H4,q5,.ref q3,zmW),UB,nM ((Kb).trans s5) ⟨124,q5,q3,s,_,rfl,xk,cB (cO g3),by rw[elen,Zc,hs]; rfl⟩)
  ext j5 rl1 ly;have lenl:(XR).length=(XU).length:=bR elen Za
  obtain⟨prs,L,rfl,hprs,ep,eL,hL⟩:85:=xhx (tgt:=XR) (bR ly lenl) fy;refine(Av,l2,prs,e2,hprs,aq dq hdq);have L1:(L.map (·.2.1))=xax sI pt.nm:=by
   have:L.map (·.2.1)=(L.map (·.2)).map (·.1):=eS Z8
   rw[this,eL];rfl
  have ll:L.length<=32:=by
   show(pR,uO eL,Za);omega
  have s3:Same H2 (jn H2 dq []):=bP hdq;show(bF,H3,dps,e3,k3,xjf (d:=dq) L (H:=jn H2 dq []) (kvs:=[]) xk (dM,dS (hL x hx)) (by rw[L1]; exact lo.nd _) gK iZ);refine(aZ,.dT [],H3,wu,aA ep dps,?_);rw[eL,QW] at e3;show(oW,s23,Same H2 H3,k3 _ _ (xi e hdq) (dS e));have s03:gX H3:=(i5).trans s23;have fdq:bu dq:=(i5).free hdq;have z3:=z.same s03;show(bF,kl,hkl,lkl,fkl,z3.ln)
  show(d8,hz3,s03 _ _ hpz,⟨pz,_,dx,_,_,rfl,wN hz3 T.n_by lkZl (su,dl,zt pX hkl (BIG aa))⟩)
  -- the heap with the new lengths
  have k4:fJ dl (ae,H3 c,u) (qC H3 dl WB):=Ba
  have e4:upd H3 dl WB dl=(Cf XJ):=xk;have f4:∀ c,(wM H3 dl WB c)->H3 c=none:=fun c e=>by
   by_cases y:c=dl
   .ext vR y xk
   .rw [xj y] at e; exact e
  revert k4 e4 f4;generalize fS H3 dl XJ=H4;intro k4 e4 f4;have hz4:=k4 _ _ (ne_f hz3 hkl) hz3;show(av,ow4,OwD H4 d_o ns own,k4 _ _ z.n3 z3.ow,⟨pz,_,dx,_,_,rfl,R6 hz4 (su,d_o,zt pX ow4 qM)⟩);rw[xcx _ (xf2 inrI nnm)];have k5:fJ d_o (ae,H4 c,u) (qC H4 d_o (.dK MO)):=Ba
  have e5:OwD (fS H4 d_o MO) d_o sU O7:=by
   unfold OwD;rw[xk,Zt]
   congr 3
   .refine JN rh;unfold setI;rw[az (fun y:x=pt.nm=>nnm (cY y hx))]
   .show [((Jb pt.nm:Key),V.int 0)]=[(Jb pt.nm,V.int (setI own pt.nm 0 pt.nm))]
    unfold setI;rw[cp]
  have f5:∀ c,(wM H4 d_o (.dK MO) c)->H4 c=none:=fun c e=>by
   by_cases y:c=d_o
   .ext vR y xk
   .rw [xj y] at e; exact e
  revert k5 e5 f5;generalize fS H4 d_o MO=H5;intro k5 e5 f5
  -- the prices with the new one
  have rn3:=z3.rn;obtain⟨dx2,hp3⟩:=z3.sg.ins;show(ag,m1,hm1,g1,z3.sg.so)
  show(ag,m2,hm2,g2,z3.sg.ho)
  show(cG,k35,∀ c u,(bb,c≠dl,CC,(ae,H3 c,u),zdu),(zep,k5 _ _ n2 (k4 _ _ n1 e)),ow3,z3.ow);unfold OwD at ow3;have tp35:Tups H3 H5:=(Gh,k35 _ _ (ne_f e hkl) (ne_f e ow3) e);show(cG,hkl5,H5 dl=some (.dK XJ),k5 _ _ (Z2 z.n3) e4,edq5,G2 e3 e3);have ndq:dq∉[d_r,d2]:=fun y=>by
   rcases eJ y with y|y
   .rw [y,z.rn] at fdq; cases fdq
   .obtain ⟨m0,hm0,_⟩:62:=(z.sg.ho)
    rw[zB,hm0] at fdq;cases fdq
  have z5:Pz t H5 pz a dl d_o d_r p d1 d2 n sU srt' sI so ho O7 rent:=by
   refine⟨(lT,k5 _ _ (ne_f hz3 ow3) hz4),⟨⟨dx2,G2 hp3 hp3⟩,SoD.keep ⟨m1,hm1,g1⟩ tp35 (ng,k35 _ _ (Z2 z.n4) (Z2 z.n2) e),(TU,⟨m2,hm2,g2⟩,G2 hm2 e)⟩,e5,G2 rn3 rn3,bL _ hkl5 ?_ rh,z.n1,z.n2,z.n3,z.n4⟩
   .have:=xbs kl pX (.ref dq);rw[Zr,ZX];omega
   .rw [xcg];show(ir,x,pt.nm)
    .subst c;show(gG,dq,eG cp,edq5,ndq)
    .show(d4,(j3,c (Jb.inj y)));rcases LA with hx|hx
     .obtain ⟨qq,q1,q2,q3⟩:63:=fkl x hx;show(gG,qq,q1,G2 q2 q2,q3)
     .exact absurd (Zn.mp hx) c
  have fr5:∀ c u,(bb,c≠dl,CC,tQ,zdu):=(zep,k35 _ _ n1 n2 (s03 _ _ e));have lnin:∀ x∈sU,∀ qq,(∃ kvs,H5 dl=some (.dK kvs)/\(ED x)=(aB qq))->∃ u,(ae,H5 qq,u):=fun x hx qq ⟨kv,y1,y2⟩=>by
   show(Mv,kl5,hk5,f,z5.ln)
   show(tu,q',q1,q2,f x hx);ext bG hk5 y1 y1;ext bG q1 y2 y2;exact eE q2
  -- those who ask
  refine h7 (iN leS1) la hla;show(AE,fw H5 la [gc],hla);refine aq da hda;have nlda:la≠da:=xi g6 hda;show(zar,jn H6 da [],hda);show(ah,z7,z5.same (s6.trans s7),g67,oU g6);have NE:∀{c:Addr}{u:HO},(ae,H6 c,u)->c≠da:=fun {c u} e=>xi e hda;have ndr:da≠d_r:=Z2 (NE (dL z5.rn));have nd2:da≠d2:=by
   show(iB,m0,hm0,z5.sg.ho)
   exact Z2 (NE (dL hm0))
  have nln7:xfn H7 dl da sU:=fun x hx qq ⟨kv,y1,y2⟩=>by
   show(iB,kl5,hk5,z5.ln)
   have y3:=oU (dL hk5);ext bG y1 y3 y3;obtain⟨u,hu⟩:=lnin x hx qq ⟨kv,hk5,y2⟩;exact NE (dL hu)
  show(ah,mt,fit.mt,dm,fit.dm);have sn:CL pt.nm:=by
   show(pR,dm pt.nm,qU nnm);ext ET
  have nsl:Fi sU:=Kq
  have gw0:Grow sI ns pt.nm so ho [pt.nm] [] fe O7 rent:=fit.grow lo nnm
  -- one step of asking
  have STEP:∀{crowd:am}{al:ai}{asked:aG}{o1:bU}{r1:bS},Grow sI ns pt.nm so ho crowd al asked o1 r1->(zcn sU)/\(ay crowd.Nodup al.Nodup (∀ s∈al,s∈srt') vd zbz):=fun {crowd al asked o1 r1} gw=>by
   show(bj,c1,zcn sU,b,hb,gw.bf.in_ mt dm hb);show(d8,c2,gw.bf.nodup mt sn,⟨46,c1,c2,gw.bf.nd,K1,gw.bf.ask,ZK (xih c2 c1) nsl⟩);obtain⟨j,hj,ej⟩:=ZM hs;obtain⟨_,_,_,_,_,e4⟩:84:=gw.bf.ak j s E0;exact lo.ins _ _ e4
  obtain⟨c1,c2,c3,c4,c5,c6⟩:46:=STEP gw0;obtain⟨g0,b0,t0,nr0⟩:101:=gw0.nearest lo mt dm sn mt2 all2;have gp0:=gw0.gap lo mt dm nr0;show(BT,dx7,hz7,z7.ins,⟨pz,dx7,_,rfl,hz7,xgl aK,?_⟩);ext LU;refine xpm (crowd:=[pt.nm]) (al:=[]) (asked:=fe) ⟨47,z7,g67,g7,c5,c1,c2,⟨47,c3,c4,s32,nsl,ndr,lo.ins,(cA,nln7,nd2,nr0,Ig,fun H8 qs8 k8 hq8 z8 ak8=>?_)⟩⟩;ext zqv; show(jv,nlo,la,d_o,g67,z7.ow);show(jv,nlr,la,d_r,g67,z7.rn);show(iB,kl7,hk7,z7.ln)
  ext jv ndl dl da hk7 g7;ext jv ndla dl la hk7 g67;show(av,ndlr,dl≠d_r,ne_f hk7 z7.rn,(eX,fun m Z H9=>(zgm,Z=zlK/\(ay,(∀ c u,CC->(zje (ae,H9 c,u))),(ae,H9 qs,tT s),(ae,H9 la,Xl),AkD H9 da oE HC,(zga,Pz t H9 pz a dl d_o d_r p d1 d2 n sU srt' sI so ho (shO o1 crowd g) (shR r1 asked g),Grow sI ns pt.nm so ho crowd al asked o1 r1,m=zbS))),(fb,121,[pt.nm],[],_,fb 121 _ g0 b0 ⟨86,t0,qs8,rfl,fun c u n1 n2 n3 _ e=>k8 c u n1 n2 n3 e,hq8,k8 _ _ nlo nlr nlda g67,ak8,cA z8 gw0 Ms nr0 rfl⟩)));rintro m Z H9 (⟨crowd,al,asked,o1,⟨r1,g,b,s,qs,rfl,k9,hqs,hl9,ak9,z9,gw,rc,nr,rfl⟩⟩:121);obtain⟨dx9,hz9⟩:=z9.ins;obtain⟨dx9p,hp9⟩:=z9.sg.ins;show(ah,dgH,z9.sg.ho.get hqs,gp,gw.gap lo mt dm nr);have nal:s∉al:=fun y=>by
   show(AW,(gw.bf.ask s).mpr y,gp.na)
  obtain⟨x1,x2,x3,x4,x5,x6⟩:46:=STEP gw;refine⟨pz,_,dx9,_,_,rfl,wN hz9 T.n_bw lkZs ⟨p,_,dx9p,_,_,rfl,hp9,T.c_ak,T.n_bt,lkHo,d2,_,rfl,dgH,_,rfl,?_⟩⟩;cases hs:ho s with
  | some x =>
   rw[hs] at dgH;have gw2:=gw.more mt sn gp hs;obtain⟨y1,y2,y3,y4,y5,y6⟩:46:=STEP gw2;obtain⟨g2',b2,t2,nr2⟩:101:=gw2.nearest lo mt dm sn mt2 all2;have gp2:=gw2.gap lo mt dm nr2;refine ifP rfl (eX,(Ca,B8 zbS (zgm,σ'=zlK/\(ay,(∀ c u,CC->(zje vE)),zcO,gS la Xl,AkD H' da oE HC,(zga,Pz t H' pz a dl d_o d_r p d1 d2 n sU srt' sI so ho (shO o1 crowd g) (shR r1 asked g),Grow sI ns pt.nm so ho crowd al asked o1 r1,m'=zbS)))),fun σ' H' y=>y);ext Ea; refine⟨vA hl9,pz,_,dx9,_,_,rfl,hz9,T.c_t,T.n_bw,lkZs,p,_,dx9p,_,_,rfl,hp9,T.c_ak,T.n_bt,lkHo,d2,lR,rfl,dgH,la,_,_,rfl,rfl,hl9,qM,?_⟩;have k10:fJ la (ae,H9 c,u) (qC H9 la (.lst Ud)):=Ba
   show(cG,g10,lJ H9 la (.lst Ud) la (.lst ((SS).map V.str)),d7 xk Zt,z10,z9.keepL hl9 k10);have ak9':(ae,H9 da,(.dT ((oE).map (aj (jB,x8 z,(IS b z).getD (Z9 "")))))):=ak9;have ak10:AkD (fw H9 la Ud) da oE HC:=k10 _ _ (Z2 nlda) ak9;revert k10 g10 z10 ak10;generalize fw H9 la Ud=H10;intro k10 g10 z10 ak10;obtain⟨dx10,hz10⟩:=z10.ins;show(av,nln10,xfn H10 dl da sU,nln7.keep z7 (ng,k10 _ _ ndla (k9 _ _ (Z2 z.n3) ndlr ndl ndla e)),⟨pz,dx10,_,rfl,hz10,xgl aK,?_⟩);ext LU;refine xpm (crowd:=SS) (al:=oE) ⟨47,z10,g10,ak10,y5,y1,y2,⟨47,y3,y4,s32,nsl,ndr,lo.ins,⟨45,nln10,nd2,nr2,(fun y=>by
    show(AW,(gw2.bf.ask t2).mpr y,gp2.na)),fun H11 qs11 k11 hq11 z11 ak11=>?_⟩⟩⟩
   show(d9,20-(SS).length,Kq,(xI,SS,oE,fb 121 g2' b2 t2 ⟨66,qs11,rfl,fun c u n1 n2 n3 n4 e=>k11 _ _ n1 n2 n3 (k10 _ _ n4 (k9 _ _ n1 n2 n3 n4 e)),hq11,k11 _ _ nlo nlr nlda g10,ak11,(cA,z11,gw2,.step rc (a_go nr hs),nr2,rfl)⟩))
  | none =>
   rw[hs] at dgH;refine ifN rfl ?_;have ask2:∀ s',(fL (IS b s'))↔s'∈oE:=fun s'=>by
    unfold Kp.upd1;ext ir s' s
    .rw [jS];show(aO,fun _=>Z4 _ (Zn.mpr c),pV)
    .rw [uu,gw.bf.ask s',Zv];show(aO,.inl,(j3,y.elim id (j3,absurd (Zn.mp y) c)))
   show(PH,gp.ac);show(cG,ea,ba crowd b,Iq,chn,gw.bf.chain mt sn aa ea gp.rm nal);show(jo,⟨pz,_,dx9,_,_,rfl,wN hz9 T.n_bw lkZs ⟨p,dx9p,_,rfl,hp9,xll aK,p,d1,d2,da,qs,n,(oE).length,xax (xab w' ps srt'),so,ho,HC,fun zz=>crowd.idxOf zz,pt.nm,b,s,rfl,hqs,z9.sg,ak9.hod ask2,nd2,aa,mt,hs,W0,chn,fun H12 so' ho' kb fr12 sg' mt' dm' rk=>?_⟩⟩,q H12 _ _ so' ho' _ s (fun c u n1 n2 n3 n4 n5 e=>?_) (z9.hand kb sg') (.step rc (xyo nr hs)) rk (gw.last lo mt sn dm x6 gp hs mt' dm' rk));show(ah,e5,fr5 _ _ n1 n2 e,e6,dL e5);exact kb _ _ n4 n5 (k9 _ _ n2 n3 (NE e6) (xi e5 hla) (oU e6))
theorem Run.none {room:gu}{ss:ai} (snd:ss.Nodup) (hr:N6) {ns:am}{so:bC}{ho:aG}{cs:dB} (r:vF) (nd:ns.Nodup) {so2:bC}{ho2:aG} (mt2:Kp.Mt room so2 ho2) (all:∀ z∈ns,zei):cs=[]:=by
 cases cs with
 | nil=>rfl
 | cons c r' =>
  obtain⟨so0,ho0,mt0,cr,sub⟩:83:=r.crowd nd c dJ;show(zjE,cr.count mt0 snd hr,hr,all a (sub a ha))
theorem xot {H:Hp}{ps:ao}{so:bC}:∀{names:am}{ys:af},(zS names.length)->(O0,∃ q s pt,zkJ (ae,so pt.nm,s))->∃(prs:aF) (qs:aw),ys=qs.map V.ref/\kX/\prs.map (·.1.nm)=names/\(KE,aJ∈ps,Pg)
 | [],[],_,_=>⟨84,[],[],rfl,.nil,rfl,Hr⟩
 | [],dc,h,_=>ft
 | dc,[],h,_=>ft
 | nm::names,nu,h,f=>by
  obtain⟨q,s,pt,h1,h2,h3,rfl,h4⟩:105:=f 0 y rfl;obtain⟨prs,qs,e1,e2,e3,e4⟩:84:=xot (names:=names) (ys:=ys) yh (fun i y hy=>by
   obtain⟨q,s,pt,a1,a2,a3,a4,a5⟩:105:=znf;exact⟨105,q,s,pt,by simpa using a1,a2,a3,a4,a5⟩)
  show(lY,h1,nm,pt.nm,qP,⟨84,(pt,s)::prs,rZ,eS e1,.cons h4 e2,mh Zp e3 h1,lv⟩);rcases FJ with rfl|hp
  .exact ⟨h2,h3⟩
  .exact e4 p hp
inductive xtr (t:Adr) (vs:af) (H:Hp) (Q:VK) (_:XK):Prop
 | mk (a ln dp do_:Addr) (w h:Nat) (ps:ao) (st srt:ai) (names:am) (e_:wz ln) (r_:Dr t H a dp do_ w h ps st srt/\mC/\GM/\zaV/\names.Nodup/\vn/\(∃ so2 ho2,Kp.Mt vW so2 ho2/\∀ z∈names,zei)/\∀ H' tp lp d_o d_r qs prs own rent so' ho',bB->(vt tp (rq,.ref lp,d_o,d_r))->(gS lp jI)->PrsL H' prs qs->prs.map (·.1.nm)=names->(bg,(KE,aJ∈ps,(ae,so' aU,bO)),OwD H' d_o names own,RnD H' d_r srt rent,LRun hW names own rent so' ho',jt (bu lp) (bu d_o) (bu d_r) (bu tp) tp))
theorem xib (T:aL):FnOk true P w K mg base aH 9 t.f_least t.d_least pP (xtr t):=by
 refine T.F_least.okn (k:=8) xf4 (aM h) (fun cdv A outer s H vs Q E hr h=>?_)
 .obtain ⟨a,ln,dp,do_,w',h',ps,st,srt,names,rfl,_⟩:=h;rfl
 .obtain ⟨a,ln,dp,do_,w',h',ps,st,srt,names,rfl,h⟩:=h;refine⟨_,xh (pS 2 xf4.nd (pC (xty T) hr T.g_fits T.F_fits.kp T.b_fits p8))
   (xh (jC (TQ 2) mY)
   (xh (ve 3 xf4.nd (xex T.k_t (ok_ax T) aC rfl T.g_t T.b_ax .nil xq Af))
   (xh (nW uq 4 xf4.nd (oP (xae fZ T.c_t T.m_ab (ok_ab T) aC T.b_ab .nil xq (fD 4))))
   (xh (xcn rfl (xay (zs:=["name"]) (ys:=["prices"]) (fr:=[3]) (N0:=zhl) (sc0:=xm xhn) aK rfl rfl rfl) uq jY jR eC (Vw (rG (zba,x9 (zba,x9 (pv 1) rfl) rfl) aQ)) (j:=5) rfl rM)
   (sW (qw 5 (x9 (pv 3) rfl) (x9 (pv 3) rfl))))))),?_⟩
  refine sq6 ?_; intros; obtain⟨dr,pok,hln,nps,nnd,n12,⟨⟨so2,ho2,mt2,all2⟩,q⟩⟩:47:=h;show(zoI,srt.Nodup);have hr:(xG,s∈xas ps srt n,s∈srt):=fun n s hs=>by
   unfold xas at hs;split at hs
   .exact qm hs
   .exact nomatch hs
  refine⟨a,ln,dp,do_,w',h',ps,st,srt,names,rfl,⟨46,dr,hln,nps,nnd,n12,fun H1 v cs so ho s1 run alt=>?_⟩⟩;show(qG,run.none snd hr nnd mt2 all2);obtain rfl:v=.non:=by
   rcases alt with⟨_,e⟩|⟨_,_,_,e,_⟩
   .exact e
   .cases e
  show(jo,(je,ifN au ?_),bN pz dx hpz hdx ne);have s2:Same H1 (upd (upd H1 dx (.own pz)) pz (wB [])):=fun b u e=>by
   show(cD,oZ hpz,Fx,e)
  show(Hh,⟨pz,dx,a,dp,do_,w',h',ps,st,srt,mB,rfl,xk,sj s02,fun H2 dl d_o d_r p d1 d2 f1 f2 f3 f4 f5 f6 k2 z2=>tZ⟩);ext sy; show(oW,s12,kZ,k2 _ _ (xi e hpz) CP);have sH2:ua:=s1.trans s12;show(ah,g1,s02.free f1,g2,s02.free f2);show(ah,g3,s02.free f3,g5,s02.free f5);show(ah,g6,s02.free f6,hln2,sH2 _ _ hln);refine nT ln hln2
  let Pv (i:Nat) (Z:L2.St) (H3:Hp):Prop:=∃(v4 v5:cc) (so:bC) (ho:aG) (own:bU) (rent:bS),(jx,Z,[dN,lH,some .non,wH,v4,v5],gX H3,Pz t H3 pz a dl d_o d_r p d1 d2 (30*i) Bz srt mB so ho own rent,LRun mB Bz own rent so ho)
  show(AD,names.map V.str,?_,?_)
  .exact iA ⟨84,_,_,rfl,sH2,z2,.nil⟩
  .show(zkb,H3,s3,dS hln)
  .rintro i x Z H3 hx (⟨v4,v5,so3,ho3,⟨own,rent,rfl,s3,z3,r3⟩⟩:121);ext Fb nm hnm;ext pQ hi ei hnm;have nin:nm∉Bz:=fun y=>by
    have:=xc1 id (ps:=names) (aA YY nnd) hi nm y;exact this ei.symm
   have tk:names.take aX=Bz++[nm]:=by
    rw[ZR,hnm];rfl
   show(BT,dx3,hz3,z3.ins,⟨pz,dx3,_,rfl,hz3,xgl aK,?_⟩);ext LU;refine xqw ⟨47,z3,dr.same s3,pok,aa,lq Jn,zbN,(bW,nin,r3.fit,(bQ,so2,ho2,aA xf9 mt2,fun zz hzz=>all2 zz (by rw[<- tk] at hzz; exact Wh hzz)),fun H4 own' rent' so' ho' asked s k4 z4 ra rk fit=>?_)⟩;refine fb 121 _ so' ho' ⟨84,own',rent',rfl,(qz,k4 _ _ (xi e g1) (xi e g2) (xi e g3) (xi e g5) (xi e g6) (dS e)),?_,?_⟩
   .rw [tk,Nat.mul_succ];exact z4
   .show(cq,tk,.snoc r3 ra rk fit)
  .rintro Z H3 (⟨v4,v5,so3,ho3,⟨own,rent,rfl,s3,z3,r3⟩⟩:121);rw[Za,Jg] at z3 r3;have hln3:=dS hln;obtain⟨dx3,hz3⟩:=z3.ins;obtain⟨dx3p,hp3⟩:=z3.sg.ins;show(d8,fit,r3.fit,iw ln hln3 l4 hl4);refine xbf (aW hln3) qN hl4 (uD,∃(q:Addr) (s:Seat) (pt:Pt),zkJ (ae,so3 pt.nm,s)) (fun _ _ _ _ tp ⟨q,s,pt,x1,x2,x3,x4,x5⟩=>⟨105,q,s,pt,x1,x2,x3,x4,iS x5⟩) (fun i x H4 hx s4 N hN=>?_) (fun ys H4 s4 e4 ly fy=>?_)
   .ext zoP;ext gU pt ptin zbN;have sm:fL (so3 pt.nm):=(bR,fit.dm,decide_eq_true (Zk hnm))
    rcases (z3.sg.same s4).so.get pt.nm with⟨e0,_⟩|⟨c,qq,ec,dg,hqq⟩
    .ext Ak e0 sm
    show(h9,iN leS1,p1,h1);show(Hb,fA H4 p1 [gc],h1);have dg5:DGet H5 d1 gc (aB qq):=by
     show(Mv,kk,hk,fk,(z3.sg.same s4).so);show(ag,q',a1,a2,(fk pt.nm).2 c ec);show(ah,g,Fz pX (cB hk),g',Fz pX hk);rcases dg with⟨kv,k,r1,r2,r3⟩|⟨kv,k,b,_,r2,_⟩
     .have e1:k=.inr pt.nm:=by
       cases k with
       | inl i=>cases r2
       | inr x=>show(F7,Jb,(V.str.inj r2).symm)
      subst e1;rcases r1 with r1|⟨_,r1⟩
      .rw [hk] at r1;cases r1;ext aD r3 g
      .ext Ak hk r1
     .cases r2
    refine⟨pz,_,dx3,_,_,rfl,(wN,cB (cO hz3),T.n_bw,lkZs,⟨p,_,dx3p,_,_,rfl,cB (cO hp3),T.c_ak,T.n_bv,lkSo,d1,.ref qq,rfl,dg5,p1,qq,_,_,rfl,rfl,cm g5,cm (cB hqq),ap,(HR,1+2),dw,fun _ p2 h2=>?_⟩)⟩;exact nM (s5.trans (bP h2)) ⟨105,p2,c,pt,hnm,ptin,ec,rfl,xk⟩
   rw[Za] at ly;obtain⟨prs,qs,rfl,pl,en,al⟩:84:=xot ly fy;have z4:=z3.same s4;show(BT,dx4,hz4,z4.ins,⟨pz,_,dx4,_,_,rfl,R6 hz4 ⟨pz,_,dx4,_,_,rfl,hz4,T.c_t,T.n_b2,lkZr,tG,aq tp htp⟩⟩);show(Hb,fA H4 tp (rq,.ref l4,d_o,d_r),htp);exact q H5 tp l4 d_o d_r qs prs own rent so3 ho3 ((Kb).trans s5) g5 (cB e4) (pl.keep (Same.tups s5)) en al (cB z4.ow) (cB z4.rn) r3 (s3.free hl4) g2 g3 ((Kb).free htp)
theorem xcm {K:Zd}{H:Hp}{l:Addr}{nms:am} (e:aT l (.lst (nms.map V.str))):iW 1 mX (.lst (nms.map DV.str)):=.lst (SqL.of e) (bR Za Za) fun j x d h1 h2=>by
 show(US,.str)
theorem xi9:∀ l:am,pls (l.map DV.str)=true
 | []=>rfl
 | _::r=>by
  show (true&&pls (r.map DV.str))=true;rw[xi9 r];rfl
theorem xkq (as bs:am):(rY,dEq (.lst (as.map DV.str)) (.lst (bs.map DV.str)),as=bs):=xhg (x:=as) (y:=bs) (xi9 as) (xi9 bs) (by
 constructor
 .intro h
  injection h with h
  exact List.map_inj_right (gF,a,b,by injection e) |>.mp h
 .intro h
  rw[h])
noncomputable def prS (p:Pr):Seat:=(m5,dO)
noncomputable def gvB (ss:ai) (names:am) (prs:aF):Bool:=(cP NA)&&((cP ((IW).Nodup))&&prs.all fun p=>Nc)
inductive xq7 (t:Adr) (vs:af) (H:Hp) (Q:VK) (_:XK):Prop
 | mk (a ln lp dp do_:Addr) (w h:Nat) (ps:ao) (st ss:ai) (names:am) (prs:aF) (qs:aw) (e_:vs=(rq bq ln lp)) (r_:Dr t H a dp do_ w h ps st ss/\GM/\(Rf Kz kX qR (NA->∀ p∈prs,(aR,og aU,GZ aU aJ,1<=dO,dO<=ib)) O2))
theorem xr0 {l:ai}:(l.map x8).Nodup↔l.Nodup:=by
 rw[JH,ZZ];constructor
 .intro h
  exact h.imp fun ne e=>ne Gj
 .intro h
  exact Je.imp (fun ne e=>ne (xem e)) h
theorem xtc {H:Hp}:∀{ys:af}{prs:aF},(zS prs.length)->(∀(i:Nat) y,TB->zih)->∃ qs:aw,ys=qs.map V.ref/\qs.length=prs.length/\(zqG ((IW).map x8) (aT q (.tup (ks.map kV)))):=by
 intro ys
 induction ys with
 | nil=>exact fun l _=>(gB,[],l,fun i q ks h=>yB)
 | cons y ys ih =>
  intro prs l f;cases prs with
  | nil=>cases l
  | cons p prs =>
   obtain⟨qs,e,ql,k⟩:63:=ih (prs:=prs) (by simpa using l) (fun i y h=>by
    obtain⟨p',qa,a,b,c⟩:83:=f aX y yh;exact(aZ,p',qa,by simpa using a,b,c))
   obtain⟨p',qa,a,b,c⟩:83:=f 0 y rfl;have a:p=p':=by simpa using a
   subst a b;refine(bL,qa::qs,ur,b6 ql,bN i q ks h1 h2);cases i with
   | zero =>
    simp at h1 h2;subst h1 h2;exact c
   | succ j=>exact k j q ks qP DT
theorem ok_be (T:aL):FnOk true P w K mg base aH 6 t.f_be t.d_be VX (xq7 t):=by
 refine T.F_be.okn (k:=5) sc_be (aM h) (fun cdv A outer s H vs Q E hr h=>?_)
 .obtain ⟨a,ln,lp,dp,do_,w',h',ps,st,ss,names,prs,qs,rfl,_⟩:=h;rfl
 .obtain ⟨a,ln,lp,dp,do_,w',h',ps,st,ss,names,prs,qs,rfl,h⟩:=h;refine⟨_,xh (jC (xac vJ (xa6 rfl (xay (zs:=DC) (ys:=[]) (fr:=[]) (N0:=M4) (sc0:=xm s_be) aK rfl rfl rfl) Gi o4 qK eC vk) bT gC) qh)
   (xh (xcn rfl (xay (zs:=DC) (ys:=[]) (fr:=[]) (N0:=M4) (sc0:=xm s_be) aK rfl rfl rfl) Gi o4 qK eC (pA oz) (j:=3) rfl rM)
   (Xt (xnx (xbg hr) rfl rfl T.n_len rfl T.n_set (fD 3)) (mG 3) (xaq (xo1 rfl) rfl T.n_all PyProof.Rows.Boot.«all» (xa (xa6 rfl (xay (zs:=DC) (ys:=nY) (fr:=[0]) (N0:=M4) (sc0:=xm s_be) aK rfl rfl rfl) Gi o4 qK eC (fun _ _ _ _ _=>xae fZ T.c_a T.m_aa (ok_aa T) aC T.b_aa .nil xq (lX 0 oz))) (xg))))),?_⟩
  refine sq3 ?_; intros; ext Bg; obtain⟨dr,hln,hlp,pl,n12,ok,q⟩:47:=h;show(zgw,xbf (aW hlp) qM hl1 zqn nS (fun i x H2 hx s2 N hN=>?_) (fun ys H2 s2 e2 ly fy=>?_))
  .ext zlg
  have ey:ys=(Ep aU).map V.str:=by
   ext U5
  ext zgo
  .rw [xkq] at c;have c:¬ NA:=jL
   have g:O2=false:=by
    unfold gvB;rw[decide_eq_false c];rfl
   rw[g] at q;exact q _ s2
  .rw [xkq] at c;show(qj,c,NA,jL,iw lp hlp2 l3 hl3,xbf (aW hlp2) qM hl3 (uD zih) (fun _ _ _ _ tp ⟨p,qa,z1,z2,z3⟩=>zoz) (fun i x H3 hx s3 N hN=>?_) (fun ys3 H3 s3 e3 ly3 fy3=>?_))
   .ext zgE
   ext j5 qll ly3;show(bF,as,rfl,al,ak,xtc ly3 fy3);refine⟨106,l3,as,(IW).map x8,rfl,aW e3,mh Za Za al,ak,aa,⟨84,l3,_,rfl,gM e3,rfl,?_⟩⟩;have nde:(cP (V.int (cV,xdw ((IW).map x8))=V.int (zh (as.map V.ref))))=decide ((IW).Nodup):=by
    rw[Jk,decide_eq_true_iff,decide_eq_true_iff,<- xr0,<- xn4,Za,Za,Za,al];constructor
    .intro h
     injection h with h
     omega
    .intro h
     rw[h]
   rw[nde];show(ah,s03,s2.trans s3,hlp3,dS hlp2);show(tR,rK nd nd)
   .ext zfi nd;show(jo,iw lp hlp3 l5 hl5,xbf (aW hlp3) qM hl5 (wA,∃ p,pU/\y=.bl Nc) nS (fun i x H4 hx s4 N hN=>?_) (fun ys5 H5 s5 e5 ly5 fy5=>?_))
    .ext Nw;show(kq,k1,k2,k3,k4,ok c p (Zk hp));show(ah,s04,Ez,dr4,dr.same s04);show(vq,dx,hpi,dr4.pic);show(jo,⟨qa,_,rfl,cm (s04 _ _ hpq),rfl,a,dx,_,rfl,hpi,br,a,dp,do_,w',h',ps,st,aJ,m5,dO,rfl,dr4.pic,dr4.sts,k1,k2,k3,k4,aq H6 s6⟩,nM s6 (eX p hp));have e:(iO (m5,dO) st)=decide (prS p∈ss):=by
      ext A7 Jk decide_eq_true_iff;exact dr.pm.mem_iff.symm
     rw[e];rfl
    have ey5:ys5=(Ep Nc).map V.bl:=by
     show(uY,(by rw[ly5,Za,Za,qll]));show(gU,p,hp,fy5 i y hy);ext DJ
    rw[ey5] at e5;show(CD,l5,_,aW e5,?_);have g:O2=(Ep Nc).all id:=by
     unfold gvB;rw[decide_eq_true c,yG nd,List.all_map];rfl
    show(jp,g,q _ RY)
   .have g:O2=false:=by
     unfold gvB;rw[Ja.mpr nd];simp
    rw[g] at q;exact q _ s03
theorem xon {a b c:Seat} (h:xbx a b) (k:xbx b c):xbx a c:=by
 unfold xbx at *;rcases h with⟨h1,h2⟩|⟨h1,h2⟩<;>rcases k with⟨k1,k2⟩|⟨k1,k2⟩
 .ext C1 h1 k2
 .show(C1,h1,cY k1 h2)
 .show(C1,aA h1 k1,k2)
 .show(eF,(Ao,h1.trans k1))
theorem xng {a b:Seat} (h:a≠b):xbx a b\/xbx b a:=by
 obtain⟨a1,a2⟩:=a;obtain⟨b1,b2⟩:=b;unfold xbx;cases a1<;>cases b1
 .have:a2≠b2:=fun e=>h Gj;rcases zoX with z|z
  .show(E7,bY z)
  .show(TV,bY z)
 .exact .inr (.inl oy)
 .ext KN oy
 .have:a2≠b2:=fun e=>h Gj;rcases zoX with z|z
  .show(E7,bY z)
  .show(TV,bY z)
theorem xi5:∀{ss:ai}{x:Seat},ss.Pairwise xbx->x∉ss->∃ srt:ai,srt.Perm (x::ss)/\HH
 | [],x,_,_=>⟨[x],y9,List.pairwise_singleton _ _⟩
 | y::r,x,h,nx=>by
  rw[Yg] at h;rw[Zq,not_or] at nx;by_cases c:xbx x y
  .refine ⟨x::y::r,y9,Yg.mpr ⟨rg,Yg.mpr h⟩⟩;rcases eJ hz with rfl|hz
   .exact c
   .exact xon c (h.1 z hz)
  .show(fj,srt,pm,lt,xi5 h.2 nx.2);show(d9,y::srt,(pm.cons y).trans (JB.swap _ _ _),Yg.mpr ⟨rg,lt⟩);rcases zbc hz with rfl|hz
   .exact (xng nx.1).resolve_left c
   .exact h.1 z hz
theorem xgv:∀{st:ai},st.Nodup->∃ srt:ai,srt.Perm st/\HH
 | [],_=>⟨[],Ms,.nil⟩
 | x::r,h=>by
  obtain⟨h1,h2⟩:=Z5.mp h;show(ag,s1,p1,l1,xgv h2);show(ag,s2,p2,l2,xi5 l1 (aj,h1 (p1.mem_iff.mp z)));show(aE,s2,p2.trans (JB.cons _ p1),l2)
theorem xt8 {c s:Int} (h:s∈xew) {n:Nat} (hn:n<=12):((Zu n).map (wI,k,ltr ((c+s*jq) % 26))).Nodup:=by
 rw[Jq,ZZ];refine Je.imp_of_mem (fun {i j} hi hj hij e=>?_) (List.pairwise_lt_range (n:=n));rw[ZJ] at hi hj;have e':=xur (zk).1 (zk).1 e;have hj':j<12:=aa
 show(Et,d,∃ d,j=i+d,j-i)
 have hd:0<d/\d<12:=aa
 have hs:∀ z∈xew,z=1\/(MI 3 5 (MI 7 9 (MI 11 15 (MI 17 19 (MI,21,23,z=25))))):=au
 rw[Int.natCast_add,Int.mul_add] at e';rcases hs s h with rfl|rfl|rfl|rfl|rfl|rfl|rfl|rfl|rfl|rfl|rfl|rfl<;>omega
theorem xw4 (m:Int):(zhj,zel,V.str "right"):=by
 show(Xn,4);have:xD=0\/xD=1\/xD=2\/xD=3:=aa
 rcases this with e|e|e|e<;>rw[e]
 .exact eV "left" fO
 .ext ND
 .ext zoN
 .ext ND
inductive xt0 (K:Zd) (t:Adr) (vs:af) (H:Hp) (Q:VK) (_:XK):Prop
 | mk (sc:Addr) (ns:dD) (e_:vs=[.ref sc]) (r_:SqL K H sc IK/\∀(H':Hp) (a dp do_:Addr) (w h:Nat) (ps:ao) (st ss:ai),(bb,bB,Dr t H' a dp do_ w h ps st ss,mC,nF a))
theorem ok_y (T:aL):FnOk true P w K mg base aH 6 t.f_y t.d_y A4 (xt0 K t):=by
 refine T.F_y.okn (k:=5) sc_y (aM h) (fun cdv A outer s H vs Q E hr h=>?_)
 .ext xY sc ns
 .ext yq sc ns;refine⟨_,xh (E9 (pC (ok_bl T) hr T.g_bl T.F_bl.kp T.b_bl (xa (pC ub hr T.g_ae T.F_ae.kp T.b_ae ro) (xg))) (gJ 1 sc_y.nd 2))
   (xh (oB 3 (xaq (xqe rfl) rfl T.n_min boot_min (xa (xo) oz)))
   (xh (oB 4 (xv xba (xo) (jD xa3 (wL (pC ub hr T.g_ae T.F_ae.kp T.b_ae ro)) 3)))
   (xh (oB 5 (pC (ok_bf T) hr T.g_bf T.F_bf.kp T.b_bf (xa (pC ub hr T.g_ae T.F_ae.kp T.b_ae ro) (fD 4))))
   (xh (oB 6 (pC (ok_az T) hr T.g_az T.F_az.kp T.b_az (xa (pC ub hr T.g_ae T.F_ae.kp T.b_ae ro) (fC 1 4))))
   (xh (oB 7 (pC (ok_az T) hr T.g_az T.F_az.kp T.b_az (xa (wL (pC ub hr T.g_ae T.F_ae.kp T.b_ae ro)) (fC 2 4))))
   (xh (oB 8 (xex T.k_a (ok_as T) aC rfl T.g_a T.b_as .nil xq oz))
   (xh (xbe ZF rfl (xdt rfl T.n_range (fD 4)) (pN 9 sc_y.nd) (xh (oB 10 (pC (ok_bg T) hr T.g_bg T.F_bg.kp T.b_bg (xa (pC ub hr T.g_ae T.F_ae.kp T.b_ae ro) (fD 9))))
   (xh (oB 11 (xv xba (xo) (jD xa3 (wL (pv 10)) 2)))
   (xh (oB 12 (xv xba (pv 11) (wm (pv 10) (jD xd7 (Gx gW) 11))))
   (xh (xcd (xar (HX (pv 10)) (xh (oB 11 (xo))
   (xl (pS 12 sc_y.nd (pv 2)))) (xad)))
   (oP (xae (pv 8) T.c_a T.m_b (ok_b T) aC T.b_b .nil xq (sK (i0 5 (pv 9)) (i0 6 (pv 9)) (sK (i0 7 (pv 9)) (xaf xa1 zkh (oH (wL (pv 10))) gK) (sK (pv 11) (pv 12) (xg)))))))))))
   (xh (oB 13 (xv xba (xo) (oH (pC ub hr T.g_ae T.F_ae.kp T.b_ae ro))))
   (xh (xbe ZF rfl (xj0 rfl T.n_range (hZ (xo) (Gx gW))) (pN 14 sc_y.nd) (xl (xbe ZF rfl zpk (pN 15 sc_y.nd) (xh (oB 16 (xv xba (jD xdz (xo) 14) (xbi xqn rfl T.n_int boot_int (xa (xdb xb0 (pv 15) (xa4) gC) (xg)))))
   (xh (oB 17 (xdb xf8 (oH (pC (ok_bg T) hr T.g_bg T.F_bg.kp T.b_bg (xa (pC ub hr T.g_ae T.F_ae.kp T.b_ae ro) (fD 16)))) (pv 13) gC))
   (xh (yW (HX (pC ub hr T.g_ae T.F_ae.kp T.b_ae ro)) (xl (pS 17 sc_y.nd (xdb xb0 (xv xvi (jD xwz (pC ub hr T.g_ae T.F_ae.kp T.b_ae ro) 16) (xo)) (xo) gC))))
   (xl (xcd (jC (xb3 (pv 17)) (oP (xae (pv 8) T.c_a T.m_j (ok_j T) aC T.b_j .nil xq (fC 15 14))))))))))))
   (tw 8)))))))))),?_⟩
  refine sq11 ?_; intros; ext hX hs h;refine yi 0 hs c0 (eV,c0,fun w ph H1 p1 w1 w2 h1 h2 s1 hp1=>kW p1 hp1);show(d8,s2,s1,(jw,102,_,_,bN m m1 m2 m3 mo));show(av,mp,1<=m,by rcases mo with rfl|rfl|rfl<;>omega,(yi,1,s2.seqL hs,c1',eX fK (vV 0 m)));have bm:=xbd (c1' / 8) (fh,0<m);obtain⟨n,hn⟩:∃ n:Nat,OU=iM:=(Ao,(OU).toNat)
  show(av,n1,r8 n iM m,aa,(yi,1,s2.seqL hs,c1b,⟨c1b,n,(RB [V.int c1b,Uj]),aa,fun st H2 ln ms s3 hln=>?_⟩));show(bw,(yi,2,(Sq).seqL hs,c2,⟨c2,w,n,(RB [V.int c2,V.int w,Uj]),aa,aa,fun xs H3 lx lx2 ndx bx s4 hlx=>?_⟩),(yi,2,((Sq).trans s4).seqL hs,c2b,⟨fK,c2b / 7,ph,n,(RB [V.int (c2b / 7),V.int ph,Uj]),aa,aa,fun ys H4 ly ly2 ndy by_ s5 hly=>?_⟩));show(zgB,⟨46,xk,aa,aa,aa,aa,fun H5 dp do_ hdp5 hdo5 s6 pic5 hdt5=>tZ⟩,Same H4 H5);have s14:gX H4:=((Sq).trans s4).trans s5;have fr:∀ z,(wM (upd H4 dx (.own a)) a zdm z)->(bu z):=fun z hz=>by
   cases e:H z with
   | none=>rfl
   | some u =>
    have e4:=s14 _ _ e;rw[fW e4 hx,fW e4 hdx,e4] at hz;cases hz
  show(ah,fdp,fr _ hdp5,fdo,fr _ hdo5);have sAll:Mg:=s14.trans k5;obtain⟨nms,hnms⟩:∃ nms:am,nms=(Zu n).map (wI,k,ltr ((c1b+st*jq) % 26)):=eR
  have ln2:nms.length=n:=lA hnms
  have ndn:nms.Nodup:=(aA,hnms,xt8 ms aa)
  have isn:∀ z∈nms,(og z):=fun z hz=>by
   rw[hnms] at hz;show(BV,k,rfl,Zf.mp hz);exact xq3 (zk).1 (zk).2
  have hln':rH ln Of:=by
   rw[hln,hnms,Z8];rfl
  refine jz iM (RB [Uj]) aa aa ?_;refine xc5 (Pv:=fun i Z H6=>∃(v9 v10 v11 v12 v13 v14 v15 v16 v17:cc) (ps:ao),Z=[ud,CT,Cu,bH m,Me,lH,Mp,Mr,dN,v9,v10,v11,v12,v13,v14,v15,v16,v17]/\(gX H6)/\(ae,H6 ln,Of)/\(ae,H6 lx,.lst (xs.map V.int))/\(ae,H6 ly,.lst (ys.map V.int)) /\
   Pic t H6 a dp do_ w ph ps/\H6 do_=some (.dT [])/\ps.length=i/\ps.map (·.nm)=nms.take i/\ps.map (·.x)=xs.take i/\ps.map (·.y)=ys.take i/\(∀ p∈ps,PtOk w ph p)) ?_ ?_ ?_
  .exact (iA,iA ⟨86,_,[],rfl,sAll,k5 _ _ (cB (cO hln')),k5 _ _ (cB hlx),k5 _ _ hly,⟨47,pic5,hdt5,rfl,rfl,rfl,rfl,dX (nomatch hp)⟩⟩)
  .rintro i Z H6 hi (⟨v9,v10,v11,v12,⟨v13,v14,v15,v16,v17,ps,rfl,s7,g1,g2,g3,pic6,hdt6,pl,pn,px,py,pok⟩⟩:121);refine gn ?_; refine sq5 ?_; intros; have hi':f7:=Hy
   obtain⟨dx6,hp6⟩:=pic6.ins;show(bw,(yi,3,s7.seqL hs,c3,(mW,c3,0+cL,aI m0 m00 m01)),eX fK (vV 0 ph));have b1:=xbd (m0 / 6) (fh,0<ph);show(fX,fK,(vV,0,ph+1-Hv));have b2:=xbd (m0 / 128) (fh,0<ph+1-Hv)
   let Pm (Z:L2.St) (H7:Hp):Prop:=H6=H7/\∃ lo hi:Int,(aR,1<=lo,lo<=hi,hi<=ph,Z=[ud,CT,Cu,bH m,Me,lH,Mp,Mr,dN,bH (0+cL),bH m0,bH lo,bH hi,v13,v14,v15,v16,v17])
   show(fX,Pm,?_)
   .ext pE; refine EF 2 Ua
    .ext Ea; show(aO,rfl,⟨84,1,ph,aa,aa,aa,rfl⟩)
    .exact bY ⟨84,Hv,Hv+m0 / 128 % (ph+1-Hv),aa,aa,aa,rfl⟩
   rintro _ _ ⟨rfl,lo,hi,lo1,lohi,hih,rfl⟩;have at_:∀{α:Type} (zs:aP) (f:α->V) (hz:zs.length=n),atI (zs.map f) (0+cL)=some (f (zs[i]' aa)):=fun {α} zs f hz=>by
    ext Pb Df
   show(ag,sd,esd,hsd,xw4 (m0 / 2));have mem_:∀ p∈ps,p.nm≠nms[i]' aa/\p.x≠xs[i]' aa/\p.y≠ys[i]' aa:=fun p hp=>by
    have no:(zlS,zs.Nodup->∀ z∈zs.take i,z≠zs[i]):=fun {α}{zs} hz nd z hm e=>by
     show(ie,h1,Yj i zs,Yl hz);rw[<- h1,ZB] at nd;exact (gD).2 z hm _ Zm e
    refine⟨no _ ndn _ ?_,no _ ndx _ ?_,no _ ndy _ ?_⟩
    .ext PD pn
    .ext PD px
    .ext PD py
   show(w8,bxi,bx (xs[i]' aa) (JD _),byi,by_ (ys[i]' aa) (JD _),⟨a,dx6,_,rfl,hp6,br,ln,_,_,_,rfl,rfl,aW g1,at_ nms V.str ln2,lx,_,_,_,rfl,rfl,aW g2,at_ xs V.int lx2,ly,_,_,_,rfl,rfl,aW g3,at_ ys V.int ly2,(iN leS4),Si⟩);show(av,s8,Same H6 (fw H6 q3 [.str "left",Su,R1,Su]),bP hq3,⟨fK,(j7 4),q3,_,_,zJ,rfl,rfl,aW xk,esd,?_⟩);refine⟨a,dp,do_,w,ph,ps,nms[i]' aa,xs[i]' aa,ys[i]' aa,sd,lo,hi,qx,rfl,⟨47,Pic.same s8 pic6,wu,isn _ (JD _),bxi.1,bxi.2,byi.1,⟨47,byi.2,hsd,lo1,lohi,hih,mem_,⟨aa,aI H7 k7 pic7⟩⟩⟩⟩;show(iB,kvs,hk,pic6.pl)
   have tk:(zlS,zs.take aX=zs.take i++[zs[i]]):=fun {α}{zs} hz=>by
    rw[ZR,Zb hz];rfl
   refine(iA,iA ⟨86,_,_,rfl,(qz,k7 b u (xi e fdp) (qJ (s7 b u e))),OY g1,OY g2,OY g3,⟨47,pic7,OY hdt6,b6 pl,?_,?_,?_,lv⟩⟩)
   .rw [Zt,pn,tk aa]; rfl
   .rw [Zt,px,tk aa]; rfl
   .rw [Zt,py,tk aa]; rfl
   .rcases Zv.mp hp with z|z
    .exact pok p z
    .rw [FN];exact⟨isn _ (JD _),bxi.1,bxi.2,byi.1,byi.2,hsd,lo1,lohi,hih⟩
  .rintro Z H6 (⟨v9,v10,v11,v12,⟨v13,v14,v15,v16,v17,ps,rfl,s7,g1,g2,g3,pic6,hdt6,pl,pn,px,py,pok⟩⟩:121);have pl':ps.length=n:=by simpa using pl
   have tkn:∀{α:Type}{zs:aP},zs.length=n->zs.take ((iM).toNat)=zs:=fun {α}{zs} hz=>by
    rw[Ju aa]
   rw[tkn ln2] at pn;rw[tkn lx2] at px;rw[tkn ly2] at py;refine(yi,4,s7.seqL hs,c4,eW (j7 5));ext sy; refine(uP,1,ph+1,HG,?_);refine xc5 (Pv:=fun j Z H7=>∃(v14 v15 v16 v17:cc) (st:ai),Z=[ud,CT,Cu,bH m,Me,lH,Mp,Mr,dN,v9,v10,v11,v12,zaK,v14,v15,v16,v17]/\(gX H7)/\(ae,H7 ln,Of)/\(ae,H7 lx,.lst (xs.map V.int))/\(ae,H7 ly,.lst (ys.map V.int)) /\
    (aR,Pic t H7 a dp do_ w ph ps,Sts H7 do_ st,st.length<=2*j,∀ s∈st,(r8 eB eB uB))) ?_ ?_ ?_
   .exact iA ⟨66,[],rfl,s7,g1,g2,g3,(bW,pic6,jz [] hdt6 rfl Yf au,bv,h8 (nomatch hs))⟩
   .rintro j Z H7 hj (⟨v14,v15,v16,v17,⟨st,rfl,s7',g1',g2',g3',pic7,st7,sl7,sb7⟩⟩:121);ext zqu; show(av,hj',uB<ph,aa,h7 cR le hle);generalize eu:fw H7 le Vz=H8;ext pd s8 hle g8;refine nT le g8;refine xbp (xs:=Vz) (Pv:=fun i Z H9=>∃(v15 v16 v17:cc) (st:ai),Z=[ud,CT,Cu,bH m,Me,lH,Mp,Mr,dN,v9,v10,v11,v12,zaK,bH jZ,v15,v16,v17]/\(gX H9)/\(ae,H9 ln,Of)/\(ae,H9 lx,.lst (xs.map V.int))/\(ae,H9 ly,.lst (ys.map V.int))/\H9 le=some (.lst Vz) /\
     (aR,Pic t H9 a dp do_ w ph ps,Sts H9 do_ st,st.length<=2*j+i,zhX i)) ?_ ?_ ?_ ?_
    .exact ⟨126,_,_,_,st,rfl,s7'.trans s8,qJ g1',qJ g2',qJ g3',(cA,g8,Pic.same s8 pic7,st7.same s8,sl7,h8 ⟨(sb7 s hs).1,.inl (sb7 s hs).2⟩)⟩
    .rintro i Z H9 _ (⟨_,_,_,st,rfl,_,_,_,_,⟨e9,_⟩⟩:126);ext wX e9
    .rintro i x Z H9 hx (⟨v15,v16,v17,st,rfl,s9,e1,e2,e3,⟨e9,pic9,st9,sl9,sb9⟩⟩:126);ext zpD; have hi:i<2:=by
      show(Al,gR hx)
     obtain⟨sb,esb,isb⟩:∃ sb:Bool,x=(tU sb)/\(IB sb)=i:=by
      have:i=0\/i=1:=aa
      rcases this with e|e<;>subst e
      .exact cE true HL
      .exact cE false HL
     subst esb;obtain⟨dx9,hp9⟩:=pic9.ins;have up:zhX aX:=fun s hs=>⟨(sb9 s hs).1,by
      rcases (sb9 s hs).2 with z|⟨z1,z2⟩
      .ext dR z
      .show(rE,z1,Nat.lt_succ_of_lt z2)⟩
     refine(eV,.inl fK,.inr Cv);obtain⟨pl,hpl,pl0⟩:∃ pl:Int,pl=zhP/\0<=pl:=cN Tw
     show(bw,zeK c5 (mW,c5,_,fun mm _ _=>?_),eW (j7 6))
     let Pm (Z:L2.St) (H10:Hp):Prop:=H9=H10/\∃(v16:cc) (op:Bool),Z=[ud,CT,Cu,bH m,Me,lH,Mp,Mr,dN,v9,v10,v11,v12,zaK,bH jZ,some (tU sb),v16,some (.bl op)]
     show(fX,Pm,?_)
     .ext pE; refine(zeK,c6,EF 4 Ua)
      .refine (zeK,c7,eV (by show m7<=zhP; ext jp hpl pl0) ?_);exact zfD _
      .exact zfD _
     rintro _ _ ⟨rfl,v16',op,rfl⟩;refine(cI,?_,mQ z);ext pE; show(tR,uo y (j3 ⟨126,_,_,_,st,rfl,s9,e1,e2,e3,cA e9 pic9 st9 aa up⟩));have nin:(sb,jZ)∉st:=fun hm=>by
      rcases (sb9 _ hm).2 with z|⟨_,z⟩
      .have z:jZ<=uB:=z;omega
      .have z:(IB sb)<i:=z;omega
     ext lZ ko hko st9;show(bw,⟨a,dx9,_,rfl,hp9,br,a,dp,do_,w,ph,ps,st,sb,jZ,rfl,pic9,st9,aa,aa,nin,aa,bX H10 k10 pc10 st10⟩,⟨126,_,_,_,st++[(sb,jZ)],rfl,(C5,k10 _ _ (xi e fdo) (s9 _ _ e)),Rb e1,Rb e2,Rb e3,(cA,Rb e9,pc10,st10,Kq,K1)⟩);rcases Zv.mp hs with z|z
     .exact up s z
     .rw [FN];show(aO,EU rQ jZ,.inr (bY,vV (IB sb) aX))
    .rintro Z H9 (⟨v15,v16,v17,st,rfl,s9,e1,e2,e3,⟨e9,pic9,st9,sl9,sb9⟩⟩:126);refine iA ⟨66,st,rfl,s9,e1,e2,e3,(bW,pic9,st9,?_,h8 (eW,(sb9 s hs).1))⟩
     .have sl9:st.length<=2*j+2:=sl9;omega
     .rcases (sb9 s hs).2 with z|⟨z,_⟩<;>omega
   .rintro Z H7 (⟨v14,v15,v16,v17,⟨st,rfl,s7',g1',g2',g3',pic7,st7,sl7,sb7⟩⟩:121);show(d6,w',Jy (fh,0<=w));show(d6,h',Jy (fh,0<=ph));have nds:st.Nodup:=An st7.choose_spec;have l32:st.length<=32:=(b8 st7.choose_spec).2;show(ag,srt,pm,lt,xgv nds);refine (q H7 a dp do_ w' h' ps st srt s7' ⟨pic7,st7,⟨nds,l32,h8 (eW,(sb7 s hs).1)⟩,pm,lt,(dX,(pok p hp).nm)⟩ ⟨pok,aA pn ndn,aA px ndx,aA py ndy,aa⟩);show(cy,(sb7 s hs).2)
noncomputable def prD (p:Pr):DV:=.tup (Ci aU CB dO)
theorem xx7 {K:Zd}{H:Hp}{q:Addr}{p:Pr} (h:D0 p):iW 1 (.ref q) (prD p):=.tup (cm h) rfl (xwt (xs:=prV p) rfl)
theorem PrsL.dv {K:Zd}{H:Hp}{ps:aF}{qs:aw} (h:EA) {l:Addr} (e:vy l vH):iW 2 mX (.lst (ps.map prD)):=by
 ext zfS;ext bG hp hp' hp';exact xx7 e'
inductive xko (K:Zd) (vs:af) (H:Hp) (Q:VK) (_:XK):Prop
 | mk (a:Addr) (ns:dD) (e_:xC) (r_:RR/\ns.length<=63/\∀ H',Q (.bl true) H')
theorem xmm {ps:ao}{w h:Int}{ss:ai}{prs:aF} (nx:(ps.map (·.x)).Nodup) (g:Ec):∀ k,(qS).map (·.1)=prs.map (·.1)/\((qS).map (·.2)).Perm (prs.map (·.2))/\totI w qS<=sY
 | 0=>(GC,y9,YZ _)
 | cU=>by
  show(jb,i1,i2,i3,xmm (ss:=ss) nx g k);have gk:=X9;show (Bv).map (·.1)=_/\((Bv).map (·.2)).Perm _/\totI w Bv<=_;cases e:(Gu qS).head? with
  | none =>
   have en:Bv=qS:=by
    unfold nxtP;rw[e]
   rw[en];ext aE i1 i2 i3
  | some tr =>
   obtain⟨A,p1,B,p2,⟨C,c,e0,hc,et,ne,en,el,g',dec⟩⟩:121:=xk5 nx gk e;show(fX,?_,?_)
   .rw [<- i1,el,e0];simp
   .refine JB.trans ?_ i2;rw[el,e0];simp only[Zt,Zp];refine JB.append_left _ ?_;exact ((Qq.cons p2.2).trans (JB.swap _ _ _)).trans (Qq.symm.cons p1.2)
   .rcases dec with z|⟨_,z,_⟩<;>omega
theorem xir {ps:ao}{i:Nat}{p:Pt} (h:Fj):xu (ps.take aX)=xu (ps.take i)++[p.nm]:=by
 unfold xu;rw[ZR,h,Zt];rfl
noncomputable def LwD (H:Hp) (d:Addr) (names:am) (lens:b9):Prop:=LnD H d [] names lens
theorem LwD.same {H H':Hp}{d:Addr}{names:am}{lens:b9} (z:LwD H d names lens) (s:bB):LwD H' d names lens:=let ⟨kvs,e,l,f⟩:=z; zgn
theorem LwD.get {H:Hp}{d:Addr}{names:am}{lens:b9} (z:LwD H d names lens) {nm:Str} (h:nm∈names):∃ q,DGet H d mS CY/\zkj:=by
 ext Mv kvs e f z;show(tu,q,e1,e2,f nm h);show(ie,g,wU nm e,e1);ext aE q g e2
noncomputable def xcz (xs:sN) (s:Seat):jO:=(xs.find? fun x=>dU bn s).map (·.2)
theorem xjg:∀(xs:sN) (s:Seat),valV (LnT xs) eA=(T8).map V.int
 | [],_=>rfl
 | qE,s=>by
  show valV ((x8 bn,V.int dk)::LnT xs) (x8 s)=_;unfold xcz;ext ir bn s
  .rw [xbo (eG c),Ya jL];rfl
  .rw [xbh (aj,c (xd4 _ _ z)),Qj jL];exact xjg xs s
theorem xfc {xs:sN}{s:Seat}:(T8).isSome=decide (s∈xs.map (·.1)):=by
 unfold xcz;rw[Yq,Jk,List.find?_isSome,decide_eq_true_iff,Zf];constructor
 .ext nZ x h1 h2;show(aE,x,h1,vv h2)
 .ext nZ x h1 h2;show(aE,x,h1,yG h2)
theorem xfk {xs:sN}{s:Seat}{l:Int} (h:ae T8 l):Dk∈xs:=by
 unfold xcz at h;show(ag,x,h1,h2,Ze.mp h);have h3:=YT h1;have h3:bn=s:=vv h3;rw[<- h3,<- h2];exact ZC h1
inductive xws (t:Adr) (vs:af) (H:Hp) (Q:VK) (_:XK):Prop
 | mk (a dp do_:Addr) (w h:Nat) (ps:ao) (st srt:ai) (e_:xC) (r_:Dr t H a dp do_ w h ps st srt/\mC/\∀ H' d,(bb,bB,bu d,LwD H' d dQ hW,nF d))
theorem ok_aj (T:aL):FnOk true P w K mg base aH 4 t.f_aj t.d_aj Xz (xws t):=by
 refine T.F_aj.okn (k:=3) sc_aj (aM h) (fun cdv A outer s H vs Q E hr h=>?_)
 .obtain ⟨a,dp,do_,w',h',ps,st,srt,rfl,_⟩:=h;rfl
 .obtain ⟨a,dp,do_,w',h',ps,st,srt,rfl,h⟩:=h;refine⟨_,xh (pS 1 sc_aj.nd (xe8))
   (xh (xbe ZF rfl (xaj (xal aQ T.c_a T.m_h CV aC T.b_h .nil xq)) (xav rfl (Bq 2 sc_aj.nd 3 (Bq 4 sc_aj.nd 5 (gJ 6 sc_aj.nd 7)))) (xh (rD bT gW (xfb))
   (xl (xbe ZF rfl (xaj (xal aQ T.c_a T.m_n Gm aC T.b_n .nil xq)) (xav rfl (gJ 8 sc_aj.nd 9)) (xl (xcd (xar (PW.pt (xc9 (xac xkj (pv 5) (xb2 (xa (xa4) (fD 8))) jr) (xcv (xr3 xg2 xg2 nI (pv 9) (pv 7))))) (xh (pS 10 sc_aj.nd (pv 3))
   (xh (yW (on xb0 8 (xa4)) (xl (pS 10 sc_aj.nd (jD xd7 Ck 3))))
   (xl (rD (yO 1 gW) (xah (fC 8 9)) (jD xba (Vn df 9) 10))))) (xad))))))))
   (tw 1)),?_⟩
  refine sq3 ?_; intros; ext oR dr pok;have BIG:Nu:=RZ;show(cG,s32,Id,GP,ple,pok.le);refine Tx;generalize eu:fS H d []=H1;ext uj s1 hd;show(ah,g1,ug_e eu,dr1,dr.same s1);show(vq,dx,hpi,dr1.pic);show(bw,⟨a,dx,_,rfl,hpi,br,a,dp,do_,w',h',ps,rfl,dr1.pic,fun H2 lp qs s2 e2 pt2=>?_⟩,nT lp e2);ext jv nld lp d e2 FM;have pll:=pt2.len;refine xbp (xs:=vH) (Pv:=(fF,Z,H3,∃(v2 v3 v4 v5 v6 v7 v8 v9 v10:cc),(bM,Z,[dN,qv,v2,v3,v4,v5,v6,v7,v8,v9,v10],(fJ d (ae,H2 c,u) (ae,H3 c,u)),LwD H3 d (xu (ps.take i)) mB))) ?_ ?_ ?_ ?_
  .exact (iA,iA (gB,_,zcq,bL [] FM bv Hr))
  .rintro i Z H3 _ (⟨_,_,_,_,⟨_,_,_,_,_,rfl,k3,_⟩⟩:121);show(wX,k3 _ _ nld e2)
  .rintro i x Z H3 hx (⟨v2,v3,v4,v5,⟨v6,v7,v8,v9,v10,rfl,k3,kvs,hd3,lk3,f3⟩⟩:121);ext TJ;ext gU qa hqa hx;show(ag,p,hp,hpq,pt2.get hqa);have hf:=xdu pok.nn (Zk hp);have elen:xab w' ps srt p.nm=(OD).map Iu:=by
    unfold xab;rw[hf]
   show(qj,k13,fJ d (ae,H1 c,u) (ae,H3 c,u),(pZ,k3 _ _ nc CP),kW qa (k3 _ _ (ne_f hpq FM) hpq),aq dq hdq);have ndq:d≠dq:=xi hd3 hdq;show(DE,jn H3 dq [],hdq);refine(su,d,zt Fk (cO hd3) (BIG (by unfold xu at lk3; ext j5 Jn lk3; omega)));have k5:fJ d (ae,H4 c,u) (qC H4 d zmF):=Ba
   have e5:upd H4 d zmF d=(Cf SH):=xk;revert k5 e5;generalize fS H4 d SH=H5;intro k5 e5;have k15:fJ d (ae,H1 c,u) (ae,H5 c,u):=(pZ,k5 _ _ nc (cO (k13 _ _ nc e)))
   -- the picture is still there
   obtain⟨_,⟨kp,hkp,plp⟩,w1,w2,h1,h2,le⟩:=Tu;show(ag,ko,hko,kr,id dr.sts);have npd:dp≠d:=xi hkp hd;have pic5:Pic t H5 a dp do_ gz gQ ps:=⟨lT znp,⟨kp,k15 _ _ npd (iT hkp),plp.keep (Gh,k15 _ _ (xi e hd) kH)⟩,w1,w2,h1,h2,le⟩
   show(cG,sts5,Sts H5 do_ st,⟨ko,k15 _ _ (xi hko hd) (iT hko),kr⟩,hpi5,znp);show(zkl,⟨a,dx,_,rfl,hpi5,br,a,dp,do_,w',h',ps,st,rfl,pic5,sts5,fun l6 ss6 us hl6 sl6 pm6 lt6=>?_⟩);have g45:=k5 _ _ (Z2 ndq) g4;show(kJ,nl6,l6,dq,sJ g45 hl6)
   ext zgX;show(jo,nT l6 g6,xbp (xs:=us.map V.ref) (Pv:=fun j Z H7=>∃(v8 v9 v10:cc),(bM,Z,[dN,qv,fM p.nm,bH p.x,bH p.y,fM p.sd,bH p.lo,bH p.hi,v8,v9,v10],(fJ dq (ae,H6 c,u) (ae,H7 c,u)),H7 dq=some (.dT (LnT (((yU).filter (xa0 p)).map Iu))))) ?_ ?_ ?_ ?_)
   .exact ⟨103,_,_,_,rfl,zcq,dL g45⟩
   .rintro j Z H7 _ (⟨_,_,_,rfl,k7,_⟩:103);show(wX,k7 _ _ nl6 g6)
   .rintro j x Z H7 hx (⟨v8,v9,v10,rfl,k7,e7⟩:103);ext Fb qs_ hqs;show(ag,s,hs,hsq,sl6'.get hqs);have hsq7:=k7 _ _ (ne_f hsq (dL g45)) hsq;show(m9,qs_,hsq7,(cI,?_,mQ z));have tk:ss6.take gH=yU++[s]:=by
     rw[ZR,hs];rfl
    have no:tX=false->((ss6.take gH).filter (xa0 p))=(yU).filter (xa0 p):=fun e=>by
     rw[tk,JR,ZU (vQ e)];simp
    have yes:tX=true->((ss6.take gH).filter (xa0 p))=(yU).filter (xa0 p)++[s]:=fun e=>by
     rw[tk,JR,ZT e];rfl
    refine h7 cR l8 hl8;generalize eu:fw H7 l8 [.str (Z9 "both"),E3]=H8;ext pd s8 hl8 g8;show(cG,k8,fJ dq (ae,H6 c,u) (ae,H8 c,u),(pZ,qJ (k7 _ _ nc e)),e8,qJ e7);refine mW l8 _ (bW,gM g8,rfl,rfl,C4 y1)
    .rw [wF,xif] at y1;show(tR,rK y2 y2)
     .refine C4 y3
      .have wt:tX=true:=by
        unfold xa0;rw[y1,y2,y3];rfl
       refine(eX,fun Z H9=>H8=H9/\Z=[dN,qv,fM p.nm,bH p.x,bH p.y,fM p.sd,bH p.lo,bH p.hi,some E3,bH eB,bH zlp],?_)
       .show(d8,hpi8,k8 _ _ (ne_f hpi5 g45) (dL hpi5),(je,rK y4 y4))
        .have e4:s.1=false:=by
          cases hh:s.1 with
          | false=>rfl
          | true=>rw[hh] at y4; ext bZ y4 aK
         refine⟨a,_,_,_,_,rfl,⟨46,hpi8,T.c_a,T.n_br,lkW,rfl,?_⟩⟩;rw[e4];rfl
        .have e4:s.1=true:=by
          cases hh:s.1 with
          | true=>rfl
          | false=>rw[hh] at y4; ext bZ aK y4
         refine tZ;rw[e4];rfl
       rintro _ _ ⟨rfl,rfl⟩;have hd8:H8 d=some (.dK SH):=k8 _ _ ndq (dL e5);have dg:DGet H8 d TD (aB dq):=by
        have g:=wU p.nm hd8;ext uM xcg cp g g
       refine⟨_,rfl,d,.ref dq,rfl,dg,cR,aq q9 hq9⟩;generalize eu:iJ H8 q9 E3 eB=H9;show(Ej,s9,hq9,g9,e9,s9 _ _ e8);have new:valV (LnT (((yU).filter (xa0 p)).map Iu)) (x8 s)=none:=by
        rw[xjg];have z:¬ (fL (xcz (((yU).filter (xa0 p)).map Iu) s)):=by
         ext A7 xfc Z8;intro z;ext rN s' hs' ee z;have ee:s'=s:=ee;subst ee;ext pQ hj ej hs;show(zoI,ss6.Nodup);exact xc1 id (ps:=ss6) (aA YY snd) hj s' (qm hs') ej.symm
        cases hz:xcz (((yU).filter (xa0 p)).map Iu) s with
        | none=>rfl
        | some v=>rw[hz] at z; ext iP z
       show(av,fl,TW ((yU).filter (xa0 p)),ZK rP (lq Jn),(su,dq,DPut.t (k:=eA) e9 g9 (by unfold LnT; rw[Za,Za]; exact BIG aa)));refine⟨103,_,_,_,rfl,pZ (cS,nc,s9 _ _ (k8 _ _ nc e)),?_⟩;rw[xk,xcx _ new,yes wt];unfold LnT;rw[Zt,Zt];have ev:V.int zkv=V.int W2:=by
        unfold lenI;rw[Int.add_comm]
       show (zoJ zkv)=(zoJ W2);rw[ev]
      .have wf:tX=false:=by
        unfold xa0;rw[y1,y2,Ja.mpr y3];rfl
       exact⟨103,_,_,_,rfl,k8,zda⟩
     .have wf:tX=false:=by
       unfold xa0;rw[y1,Ja.mpr y2];rfl
      exact cN ⟨103,_,_,_,rfl,k8,zda⟩
    .rw [wF,xif] at y1;have wf:tX=false:=by
      unfold xa0;rw[Ja.mpr y1];rfl
     exact⟨103,_,_,_,rfl,k8,zda⟩
   .rintro Z H7 (⟨v8,v9,v10,rfl,k7,e7⟩:103);rw[Za,usl,Jg,<- elen] at e7;show(cG,k57,fJ dq (ae,H5 c,u) (ae,H7 c,u),(pZ,k7 _ _ nc (s6 _ _ e)),g45',g45);refine(iA,iA (gB,_,pZ ?_,(bL,SH,k57 _ _ ndq e5,?_,aq nm hn)))
    .have e3':=k3 _ _ nc e;exact k57 _ _ (xi e3' hdq) (k5 _ _ nc (cO e3'))
    .rw [xir hp,Zr,ZX];show(cy,xbs kvs Fk (.ref dq))
    .rw [xir hp] at hn;rw[xcg];show(ir,nm,p.nm)
     .subst c;show(gG,dq,eG cp,e7,dw)
     .show(d4,(j3,c (Jb.inj y)));rcases Us with hn|hn
      .obtain ⟨q0,a1,a2,a3⟩:63:=f3 nm hn;ext jv nq q0 d a2 hd3;show(gG,q0,a1,k57 _ _ (xi a2 hdq) (k5 _ _ nq (cO a2)),a3)
      .exact absurd (Zn.mp hn) c
  .rintro Z H3 (⟨v2,v3,v4,v5,⟨v6,v7,v8,v9,v10,rfl,k3,lw⟩⟩:121);rw[Za,pll,Jg] at lw;exact (q H3 d (C5,k3 _ _ (xi e hd) (dF kH)) hd lw)
theorem xm5 {α:Type}{r:Ct} (h:∀ a,r a<=0):∀ l:aP,zdn<=0
 | []=>YZ _
 | a::l=>by
  rw[Zp,Jr];show(ui,h a,xm5 h l)
theorem xsu {α:Type}{r:Ct}:∀ l:aP,(∀ a∈l,r a=0)->zdn=0
 | [],_=>rfl
 | a::l,h=>by
  rw[Zp,Jr,h a dJ,xsu l zeE];rfl
theorem xk8 {α:Type}{r:Ct}{l m:aP} (p:l.Perm m):zdn=(m.map r).sum:=by
 induction p with
 | nil=>rfl
 | cons x _ ih=>rw[Zp,Zp,Jr,Jr,ih]
 | swap x y l=>simp only[Zp,Jr]; omega
 | trans _ _ h1 h2=>rw[h1,h2]
theorem xmu {α:Type} [yr] {r:Ct} (h:∀ a,r a<=0):∀{T ss:aP},T.Nodup->(∀ a∈T,a∈ss)->(ss.map r).sum<=(T.map r).sum
 | [],ss,_,_=>xm5 h ss
 | x::T,ss,nd,sub=>by
  rw[Z5] at nd;have hx:=sub x dJ;rw[xk8 (Wg hx),Zp,Zp,Jr,Jr];show(cy,xmu h (T:=T) (ss:=ss.erase x) gD (zR,(Wi (fun e:a=x=>nd.1 (e▸ha))).mpr (sub a (Zi _ ha))))
theorem xps {α:Type} [yr] {r:Ct}:∀{T ss:aP},(bg,T.Nodup,ss.Nodup,(∀ a∈T,a∈ss),(∀ a∈ss,a∉T->r a=0),(ss.map r).sum=(T.map r).sum)
 | [],ss,_,_,_,z=>xsu ss (zR,z a ha Ig)
 | x::T,ss,nd,snd,sub,z=>by
  rw[Z5] at nd;have hx:=sub x dJ;show(ah,pm,Wg hx,nd2,pm.nodup_iff.mp snd);rw[Z5] at nd2;rw[xk8 pm,Zp,Zp,Jr,Jr];rw[xps (T:=T) (ss:=ss.erase x) gD nd2.2 (zR,(Wi (fun e:a=x=>nd.1 (e▸ha))).mpr (sub a (Zi _ ha))) (fun a ha na=>z a (JO ha) (fun y=>by
   rcases eJ y with y|y
   .rw [y] at ha; exact nd2.1 ha
   .exact na y))]
noncomputable def lenP (lens:b9) (p:Pr):Int:=(xcz (lens aU) bO).getD 0
noncomputable def xb6 (lens:b9) (prs:aF):Int:=(prs.map (lenP lens)).sum
noncomputable def gvL (lens:b9) (names:am) (prs:aF):Bool:=decide (prs.map (·.1.nm)=names)&&(decide ((prs.map (·.2)).Nodup)&&zkQ)
theorem xfy {lens:b9}{names:am}{prs:aF}:DN=true↔prs.map (·.1.nm)=names/\(prs.map (·.2)).Nodup/\∀ p∈prs,RP:=by
 unfold gvL;ext zjd;simp only[decide_eq_true_eq]
theorem xd5 {lens:b9}{n:Str}{s:Seat} (h:s∈(uE n)):∃ l,(ae,xcz (lens n) s,l):=by
 have:=xfc (xs:=Ah) (s:=s);rw[decide_eq_true (show s∈(Ah).map (·.1) from h)] at this;exact QD.mp this
theorem xpz {α:Type}{f g:Ct}:∀{l:aP},(∀ a∈l,f a<=g a)->(l.map f).sum<=(l.map g).sum
 | [],_=>YZ _
 | a::l,h=>by
  rw[Zp,Zp,Jr,Jr];show(ui,h a dJ,xpz (l:=l) zeE)
theorem xhw {α:Type}{f g:Ct}:∀ l:aP,(l.map fun a=>f a+g a).sum=(l.map f).sum+(l.map g).sum
 | []=>rfl
 | a::l=>by
  rw[Zp,Zp,Zp,Jr,Jr,Jr,xhw l];omega
section
variable {lens:Str->List (Seat × Int)}{names:List Str}{so:Str->Option Seat}{ho:Seat->Option Str}{own:Str->Int}{rent:Seat->Int}{ss:List Seat}
theorem xnb {prs:aF} (e:prs.map (·.1.nm)=names):(Ep,own aU).sum=Os:=by
 rw[<- e,Z8];rfl
theorem Fit.dual (f:Fit lens names so ho own rent) (lo:yJ) {prs:aF} (g:DN=true):Os+zaM<=Bt:=by
 show(jb,e,nd,al,xfy.mp g);have h1:zmE<=Bt:=xpz fun p hp=>by
  obtain⟨l,hl⟩:=xd5 (al p hp);have:=f.le aU (Ht e zd) (bO,l) (xfk hl);unfold lenP;ext aD hl this
 rw[xhw,xnb e] at h1;have h2:=xmu f.rl nd (fun s hs=>by
  ext dW p hp hs;exact lo.ins _ _ zF) (ss:=ss)
 rw[Z8] at h2;have h3:(prs.map (rent∘fun p=>bO)).sum=(Ep,rent bO).sum:=rfl;omega
theorem Fit.tight (f:Fit lens names so ho own rent) (lo:yJ) (nnd:names.Nodup) {prs:aF} (e:prs.map (·.1.nm)=names) (al:∀ p∈prs,Pg):DN=true/\xb6 lens prs=Os+zaM:=by
 have nd:(prs.map (·.2)).Nodup:=by
  ext zmr lt;rw[Yd,Yd] at z;show(ah,a1,al _ (JD hi),a2,al _ (JD hj));rw[z] at a1;have:=f.mt.inj a1 a2;rw[<- e] at nnd;exact absurd this (by
   have y:=Jj.mp nnd i j (fV hi) (fV hj) lt;ext uM Yd Yd y y)
 show(av,rm,∀ p∈prs,RP,(dX,f.mt.rm _ _ zF),(eW,xfy.mpr ⟨e,nd,rm⟩));have h1:Bt=zmE:=by
  unfold xb6
  congr 1
  refine JN lv;obtain⟨l,hl⟩:=xd5 (rm p hp);unfold lenP;show(aD,hl,(f.eq _ _ zF l (xfk hl)).symm)
 rw[h1,xhw,xnb e];have h2:=xps (r:=rent) nd lo.snd (fun s hs=>by
  ext dW p hp hs;exact lo.ins _ _ (rm p hp)) (fun s hs ns=>f.r0 s (by
  cases z:ho s with
  | none=>rfl
  | some n =>
   have y:=(f.mt.iff n s).mpr z;have nin:n∈names:=by
    show(pR,f.dm n,y);ext zcX
   rw[<- e] at nin;ext dW p hp nin;show(bV,zF,y,absurd (Zf.mpr ⟨p,hp,ZO.inj y⟩) ns)))
 rw[h2,Z8];rfl
#check _
theorem xs8 {prs:aF}{good:Pr->Bool} (f:∀(k:Nat) (p:Pr),RN->good p=true/\bO∉(prs.map (·.2)).take k):(decide ((prs.map (·.2)).Nodup)&&prs.all good)=true:=by
 have nd:(prs.map (·.2)).Nodup:=by
  ext zmr hij;have h2:=(f j prs[j] (Zb hj)).2;refine h2 (Yr.mpr (eX,i,LI Jn Za));rw[List.getElem_take,z,Yd]
 rw[yG nd,YE,JE];intro p hp;obtain⟨k,hk,rfl⟩:=Yr.mp hp;exact (f k _ (Zb hk)).1
theorem xkv {prs:aF}{good:Pr->Bool}{k:Nat}{p:Pr} (hp:RN) (f:good p=false\/bO∈(prs.map (·.2)).take k):(decide ((prs.map (·.2)).Nodup)&&prs.all good)=false:=by
 rw[Ja];intro h;rw[Z7,decide_eq_true_iff,JE] at h;obtain⟨nd,al⟩:=h;rcases f with f|f
 .show(AW,al p (Zk hp),f)
 .obtain ⟨hk,rfl⟩:=Zh.mp hp;have z:=nd;have hk':k<(prs.map (·.2)).length:=fV hk
  rw[<- Yj k (prs.map (·.2)),Yl hk',ZB] at z;exact z.2.2 _ f _ (Zm) (eG Yd)
theorem xwn (qs:aw) (k:Nat):cutV vH none (some (0+jq))=(qs.take k).map V.ref:=by
 ext zir Q2
 simp only[List.drop_zero,Nat.sub_zero];by_cases c:k<=qs.length
 .rw [Nat.min_eq_left c]
 .rw [zsp,Lb,Ju aa]
theorem xa8.take {H:Hp}{ss:ai}{qs:aw} (h:EG) (k:Nat):xa8 H (ss.take k) (qs.take k):=by
 induction h generalizing k with
 | nil=>show(cD,List.take_nil,List.take_nil,.nil)
 | cons h _ ih=>cases k with
  | zero=>ext ig
  | succ k=>exact .cons h (ih k)
theorem LnT.get {H:Hp}{q b:Addr}{xs:sN}{s:Seat} (h:aT q (.dT (LnT xs))) (hb:mw b s):DGet H q uy ((T8).map V.int):=by
 have g:=zdH;ext bV xjg g g
inductive xw3 (vs:af) (H:Hp) (Q:VK) (_:XK):Prop
 | mk (d ln lp:Addr) (alln names:am) (lens:b9) (prs:aF) (qs:aw) (e_:vs=(rq ju ln lp)) (r_:LwD H d alln lens/\GM/\(Rf (∀ x∈names,x∈alln) Kz kX qR DN))
inductive xro (vs:af) (H:Hp) (Q:VK) (_:XK):Prop
 | mk (d lp:Addr) (alln:am) (lens:b9) (prs:aF) (qs:aw) (e_:vs=(j4 ju lp)) (r_:LwD H d alln lens/\Kz/\(wg,kX,qR,(KE,aU∈alln,RP),zll,bB->(LM Bt)))
theorem ok_a5 (T:aL):FnOk true P w K mg base aH 5 t.f_a5 t.d_a5 U1 (xw3):=by
 refine T.F_a5.okn (k:=4) sc_a5 (aM h) (fun cdv A outer s H vs Q E hr h=>?_)
 .obtain ⟨d,ln,lp,alln,names,lens,prs,qs,rfl,_⟩:=h;rfl
 .obtain ⟨d,ln,lp,alln,names,lens,prs,qs,rfl,h⟩:=h;refine⟨_,xh (jC (xac vJ (xa6 rfl (xay (zs:=GG) (ys:=[]) (fr:=[]) (N0:=UN) (sc0:=xm s_a5) aK rfl rfl rfl) Gi o4 qK eC vk) bT gC) qh)
   (xh (xcn rfl (xay (zs:=GG) (ys:=[]) (fr:=[]) (N0:=UN) (sc0:=xm s_a5) aK rfl rfl rfl) Gi o4 qK eC (pA oz) (j:=3) rfl rM)
   (xh (Ho (xa (Ik xa2 ia) (xg)) 4 sc_a5.nd (lu (PW.pt (xei (xcj (xds fU (i0 3 df) (rG aQ (i0 1 df)))) (xdh (xac (xqh (xbg hr)) (i0 3 df) (xed xg3 (pv 3) xfz (xee (pv 4))) jr)))) qh))
   qh)),?_⟩
  refine sq4 ?_; intros; ext Bg; obtain⟨lw,hln,nin,hlp,pl,n12,q⟩:47:=h;show(zgw,xbf (aW hlp) qM hl1 (wA,∃ p:Pr,Fy pU aU) nS (fun i x H2 hx s2 N hN=>?_) (fun ys H2 s2 e2 ly fy=>?_))
  .ext zlg
  have ey:ys=(prs.map (·.1.nm)).map V.str:=by
   ext U5
  ext zgo
  .rw [xkq] at c;have c:¬ (prs.map (·.1.nm))=names:=jL
   have g:DN=false:=by
    unfold gvL;rw[decide_eq_false c];rfl
   rw[g] at q;exact q _ s2
  .rw [xkq] at c;have c:(prs.map (·.1.nm))=names:=jL
   have eg:DN=(decide ((prs.map (·.2)).Nodup)&&zkQ):=by
    unfold gvL;rw[decide_eq_true c];rfl
   rw[eg] at q;show(jo,iw lp hlp2 l3 hl3,xbf (aW hlp2) qM hl3 (uD,∃(p:Pr) (qa:Addr),pU/\(cQ y qa)/\(mw qa bO)) (fun _ _ _ _ tp ⟨p,qa,z1,z2,z3⟩=>zoz) (fun i x H3 hx s3 N hN=>?_) (fun ys3 H3 s3 e3 ly3 fy3=>?_))
   .ext zgE
   ext sy; ext j5 qll ly3;obtain⟨rs,rfl,sl3⟩:62:=xa8.pick (ss:=prs.map (·.2)) (H:=H3) (ys:=ys3) (bR ly3 Za) (fun j y s hy hs=>by
    obtain⟨p,qa,z1,z2,z3⟩:83:=fy3 j y hy;ext zfE z1;ext aE qa z2 z3)
   show(ie,rl,sl3.len,Za);show(ah,s03,s2.trans s3,hln3,s03 _ _ hln);show(lY,nlen,names.length,prs.length,by rw[<- c,Za],(fP,ln,gM hln3,zqL))
   let Pv (i:Nat) (Z:L2.St) (H4:Hp):Prop:=∃(v4:cc),Z=[qv,lH,aB lp,aB l3,v4]/\Same H3 H4/\∀(k:Nat) (p:Pr),k<i->RN->(BO RP)/\bO∉(prs.map (·.2)).take k
   show(OW,?_)
   .exact (gB,_,i6,fun k p z=>zbR)
   .rintro k Z H4 hk (⟨v4,rfl,s4,al⟩:63);ext NK; have hk':k<prs.length:=by simpa [nlen] using hk
    have s04:=s03.trans s4;have hpk:eY prs k Ag:=Zb hk';have at_n:atI (names.map V.str) (0+jq)=(fM Mf):=by
     rw[Q2];refine xb9 ?_;rw[<- c,Zc,Zc,hpk];rfl
    have hrk:eY rs k (rs[k]' aa):=Df;show(ag,s0,hs0,hsq,sl3.get hrk);rw[Zc,hpk] at hs0;have hs0:(Ag).2=s0:=ZO.inj hs0;subst hs0;have at_s:atI (rs.map V.ref) (0+jq)=(aB (rs[k]' aa)):=by
     ext Pb hrk
    have nin':Mf∈alln:=nin _ (Ht c (cE,Ag,JD hk'));show(ag,qd,dg,hqd,(lw.same s04).get nin');refine ES l3 _ Mc at_s ⟨ln,_,_,_,rfl,rfl,aW (s04 _ _ hln),at_n,d,.ref qd,rfl,dg,qd,_,rfl,LnT.get hqd (cO hsq),_,rfl,?_⟩;have ei:((xcz (lens Mf) (Ag).2).map V.int).isSome=decide ((Ag).2∈(uE Mf)):=by
     rw[Yq,xfc];rfl
    rw[ei];cases hB:(iO,(Ag).2,uE Mf) with
    | false =>
     refine ifP rfl ?_;show(bV,xkv hpk (.inl hB),q,q _ s04)
    | true =>
     refine ifN rfl ?_;refine(ES,l3,_,Mc,at_s,cN (fP,l3,aW Mc,aq l6 hl6));rw[xwn];show(AE,upd H4 l6 (.lst ((rs.take k).map V.ref)),hl6);refine⟨1,2,xb8 (Ag).2,_,xea (dL (cO hsq)),(tV,((sl3.take k).keep (Same.tups (s4.trans s6))).dv g6,T6)⟩
     .rw [wF,xf6] at y;show(bV,xkv hpk (.inr (of_decide_eq_true y)),q,q _ (s04.trans s6))
     .rw [wF,xf6] at y;refine(gB,_,s4.trans s6,bX j p hj hp);rcases Yp j k with z|z
      .exact al j p z hp
      .have:j=k:=aa
       ext xA;ext bG hpk hp hp;show(aO,hB,(aj,y (decide_eq_true z)))
   .rintro Z H4 (⟨v4,rfl,s4,al⟩:63);rw[xs8 (fun k p hp=>al k p (by
     have:=gR hp;rw[Za];omega) hp)] at q
    exact q _ Ez
theorem ok_a9 (T:aL):FnOk true P w K mg base aH 1 t.f_a9 t.d_a9 VE (xro):=by
 refine T.F_a9.okn (k:=0) sc_a9 (aM h) (fun cdv A outer s H vs Q E hr h=>?_)
 .obtain ⟨d,lp,alln,lens,prs,qs,rfl,_⟩:=h;rfl
 .obtain ⟨d,lp,alln,lens,prs,qs,rfl,h⟩:=h;show(UX,xa6 rfl (xay (zs:=GG) (ys:=["_law_lengths_here"]) (fr:=[0]) (N0:=VE) (sc0:=xm s_a9) aK rfl rfl rfl) uq o4 qK eC (fun _ _ _ _ _=>rG (yO 3 aQ) zZ));obtain⟨lw,hlp,pl,n12,al,bd,q⟩:47:=h;show(d8,qll,pl.len,iw lp hlp l1 hl1);refine xbf (aW hlp) qN hl1 (wA,∃ p:Pr,pU/\y=.int (lenP lens p)) nS (fun i x H2 hx s2 N hN=>?_) (fun ys H2 s2 e2 ly fy=>?_)
  .ext Nw;obtain⟨an,ar⟩:=al p (Zk hp);show(ag,qd,dg,hqd,(lw.same s2).get an);ext zfA ar;refine⟨qa,_,rfl,cm UG,rfl,d,.ref qd,rfl,dg,cR,zfm⟩;show(cG,s5,Same H2 (iJ H2 q5 CB dO),UB,dg2,LnT.get (s:=bO) (cB hqd) (b:=q5) xk);rw[hl] at dg2;show(CD,qd,.int l,dg2,nM s5 (eX p hp));unfold lenP;rw[hl];rfl
  have ey:ys=(prs.map (lenP lens)).map V.int:=by
   ext U5
  rw[ey] at e2;refine(fb,l1,rfl,aW e2,zdI,q _ s2);ext dW p hp hn;ext zfA zfo;have:=bd _ _ (xfk hl);unfold lenP;rw[hl];show X7 l;have:np l 46:=this;omega
structure GvF (lens:b9) (names:am) (f:Str->Seat):Prop where
 rm:∀ n∈names,f n∈(uE n)
 inj:∀ a∈names,∀ b∈names,f a=f b->a=b
noncomputable def xet (lens:b9) (names:am) (f:Str->Seat):Int:=(names.map fun n=>(xcz (lens n) (f n)).getD 0).sum
structure xdg (lens:b9) (names:am) (T:Int):Prop where
 has:∃ f,HJ/\HI=T
 le:∀ f,HJ->T<=HI
noncomputable def mkPr (f:Str->Seat) (n:Str):Pr:=(⟨n,0,0,n,0,0⟩,f n)
section
variable {lens lens':Str->List (Seat × Int)}{names names':List Str}{so:Str->Option Seat}{ho:Seat->Option Str}{own:Str->Int}{rent:Seat->Int}{ss:List Seat}{f:Str->Seat}{T T':Int}
theorem GvF.prs (g:HJ) (nnd:names.Nodup):gvL lens names (names.map (mkPr f))=true/\xb6 lens (names.map (mkPr f))=HI:=by
 show(dI,xfy.mpr ⟨?_,?_,lv⟩,?_)
 .rw [Z8];exact YY _
 .rw [Z8,Jq,ZZ];exact Je.imp_of_mem (P7,ne,ne (g.inj a ha b hb e)) nnd
 .show(fj,n,hn,rfl,Zf.mp hp);exact g.rm n hn
 .unfold xb6 xet;rw[Z8];rfl
theorem Fit.leastF (fit:Fit lens names so ho own rent) (lo:yJ) (nnd:names.Nodup) {prs:aF} (e:prs.map (·.1.nm)=names) (al:∀ p∈prs,Pg):(SC Bt)/\xb6 lens prs=Os+zaM/\∃ f,HJ/\HI=Bt/\∀ n∈names,f n∈prs.map (·.2):=by
 obtain⟨gv,tight⟩:=fit.tight lo nnd e al;have h1:∀ n∈names,∃ p∈prs,aU=n/\(ae,so n,bO):=fun n hn=>by
  rw[<- e] at hn;ext dW p hp hn;show(gG,p,hp,rfl,zF)
 have g:GvF lens names (fun n=>(so n).getD zl):=by
  show(dI,KZ,bN a ha b hb z)
  .obtain ⟨p,_,_,e1⟩:63:=h1 n hn;show (so n).getD zl∈_;show(aD,e1,fit.mt.rm _ _ e1)
  .obtain ⟨p,_,_,e1⟩:63:=h1 a ha;obtain⟨p',_,_,e2⟩:63:=h1 b hb;have z:(so a).getD zl=(so b).getD zl:=z;rw[e1,e2] at z;have z:bO=p'.2:=z;rw[z] at e1;exact fit.mt.inj e1 e2
 have c:xet lens names (fun n=>(so n).getD zl)=Bt:=by
  unfold xet xb6;rw[<- e,Z8];ext zpN;show (xcz (lens aU) ((so aU).getD zl)).getD 0=lenP lens p;rw[zF];rfl
 show(d9,(h7,cI g c,f2,g2),tight,bL _ g c KZ)
 .obtain ⟨y1,y2⟩:=g2.prs nnd;rw[tight,<- y2];exact fit.dual lo y1
 .obtain ⟨p,hp,_,e1⟩:63:=h1 n hn;show (so n).getD zl∈_;rw[e1];exact Zf.mpr zd
theorem xdg.le_of (a:SC T) (b:xdg lens' names' T') (h:∀ f,HJ->∃ g,GvF lens' names' g/\xet lens' names' g<=HI):T'<=T:=by
 show(ag,f,g,e,a.has)
 show(ag,f',g',le,h f g);show(cy,b.le f' g')
#check _
section
variable {w:Nat}{h:Int}{ps ps':List Pt}{srt srt':List Seat}{names names':List Str}{f:Str->Seat}{T T':Int}
theorem xsw (nd:(ps.map (·.nm)).Nodup) {p:Pt} (hp:zX):xab w ps srt p.nm=(OD).map fun s=>(s,G3):=by
 unfold xab;rw[xdu nd hp]
theorem xdo (nd:(ps.map (·.nm)).Nodup) {p:Pt} (hp:zX) {s:Seat}:s∈xax hW p.nm↔s∈srt/\tX=true:=by
 rw[xf9];unfold xas;show(aD,xdu nd hp,Zz)
theorem xvt (nd:(ps.map (·.nm)).Nodup) {p:Pt} (hp:zX) {s:Seat} (hs:s∈xax hW p.nm):(xcz (xab w ps srt p.nm) s).getD 0=G3:=by
 ext zfA hs;show(pR,xfk hl,xsw nd hp);show(BV,s',e,Zf.mp this);show(ah,e1,(Prod.mk.inj e).1,e2,(Prod.mk.inj e).2);rw[hl,<- e2,e1];rfl
#check _
noncomputable def MayA (srt:ai) (prs:aF):Prop:=(KE,bO∈srt,xa0 aJ bO=true)
theorem xqc {ps:ao}{w h:Int}{ss:ai}{prs:aF} (nx:(ps.map (·.x)).Nodup) (g:Ec) (m:MayA ss prs):∀ k,MayA ss qS
 | 0=>m
 | cU=>by
  show(ah,ih,xqc nx g m k,gk,X9);show MayA ss Bv;generalize qS=cur at *;unfold nxtP;split
  .rename_i tr ht
   obtain⟨A,p1,B,p2,⟨C,c,e,cn,et⟩⟩:121:=xjb (List.mem_of_head? ht);ext VW cur
   have ex:excB ss p1 p2=true:=by
    unfold canO at cn;split at cn
    .ext dZ
    .cases cn
   unfold excB mayB at ex;obtain⟨x1,x2⟩:=Z7 _ _▸ex;obtain⟨x3,x4⟩:=Z7 _ _▸x1;obtain⟨x5,x6⟩:=Z7 _ _▸x2;subst et;have f1:(ae,cur.find? (nmF jg),p1):=xhf gk.nn m1;have f2:(ae,cur.find? (nmF jh),p2):=xhf gk.nn m2;simp only[f1,f2];rw[(xpf gk.nn e).1];intro p hp;have mm:p∈A\/p=EO\/p∈B\/p=EQ\/p∈C:=zaX
   rcases mm with k|k|k|k|k
   .ext Xp
   .rw [k];show(aO,vv x3,x4)
   .ext Xp
   .rw [k];show(aO,vv x5,x6)
   .ext Xp
  .exact ih
theorem xfo {w:Nat}{h:Int}{ps:ao}{srt:ai}{prs:aF} (nd:(ps.map (·.nm)).Nodup) (ok:AH kI h) (m:EB):xb6 hW prs=sY:=by
 unfold xb6 totI;ext zpN;have mp:=ZC (ok p hp).fd;unfold lenP;rw[xvt nd mp ((xdo nd mp).mpr (m p hp))];rfl
inductive xyc (t:Adr) (vs:af) (H:Hp) (Q:VK) (_:XK):Prop
 | mk (a dp do_:Addr) (w h:Nat) (ps:ao) (ss srt:ai) (e_:xC) (r_:Dr t H a dp do_ w h ps ss srt/\mC/\kM/\jV/\∀ H' tp ln qs prs cs so ho,bB->(vt tp (nN Mu sY))->(gS ln jI)->PrsL H' prs qs->yS->xdg hW cX sY->prs.map (·.1.nm)=cX->(bb,zbo,EB,zcr=[],nF tp))
theorem xjm {ps:ao}{cs:dB}:∀ nm∈cX,XZ:=fun nm hn=>by
 show(EW,e,qm hn);ext aE p hp e
theorem xgz {room:gu}{ns:am}{so:bC}{ho:aG}{cs:dB} (r:vF) (nd:ns.Nodup):∀ z∈KW,(fL (so z)):=fun z hz=>by
 have hz2:=Zz.mp hz;rw[r.dom nd,decide_eq_true hz2.1,YE];exact hz2.2
theorem xgx {w h:Nat}{ps:ao}{ss srt:ai}{names:am}{prs:aF}{own:bU}{rent:bS}{so:bC}{ho:aG} (pok:mC) (sok:SsOk ib ss) (pm:EH) (en:prs.map (·.1.nm)=names) (nnd:names.Nodup) (n12:vn) (al:(KE,aJ∈ps,Pg)) (run:LRun hW names own rent so ho):zbo/\EB:=by
 have mt:=run.fit.mt;have my:EB:=fun p hp=>by
  obtain⟨a1,a2⟩:=zF;exact (xdo pok.nn a1).mp (mt.rm _ _ a2)
 refine⟨⟨lv,aA en nnd,?_,?_⟩,my⟩
 .obtain ⟨a1,a2⟩:=zF;show(ah,o,pok.ok _ a1,b,sok.2.2 bO (pm.mem_iff.mp (my p hp).1));exact⟨o.nm,xdu pok.nn a1,b.1,b.2,bW o.x1 o.x2 o.y1 o.y2⟩
 .rw [<- en] at nnd;rw[JH,ZZ] at nnd ⊢;exact nnd.imp_of_mem (P7,ne,ne (mt.inj (s:=b.2) (e▸(al a ha).2) (al b hb).2))
 .show(pR,uO en,Za);omega
theorem xke (T:aL):FnOk true P w K mg base aH 10 t.f_answer t.d_answer nY (xyc t):=by
 refine T.F_answer.okn (k:=9) xdp (aM h) (fun cdv A outer s H vs Q E hr h=>?_)
 .obtain ⟨a,dp,do_,w',h',ps,ss,srt,rfl,_⟩:=h;rfl
 .obtain ⟨a,dp,do_,w',h',ps,ss,srt,rfl,h⟩:=h;refine⟨_,xh (OZ (pC (xib T) hr T.g_least T.F_least.kp T.b_least (ja 0 (pC (xji T) hr T.g_kept T.F_kept.kp T.b_kept Af))) 1 xdp.nd (gJ 2 xdp.nd 3))
   (xh (E9 (pC (xlv T) hr T.g_uncrossed T.F_uncrossed.kp T.b_uncrossed p8) (gJ 4 xdp.nd 5))
   (sW (ja 4 (pC (xfg T) hr T.g_total T.F_total.kp T.b_total (fC 0 4))))),?_⟩
  refine sq3 ?_; intros; obtain⟨dr,pok,w30,h16,q⟩:45:=h;show(av,nnd,ww,pok.nn,⟨a,dp,do_,w',h',ps,ss,srt,rfl,dr,nnd,fun H1 l1 cs so ho s1 f1 e1 run=>?_⟩);have dr1:=dr.same s1;ext X0;have kl:Fi cX:=by
   ext VB
  refine⟨a,l1,dp,do_,w',h',ps,ss,srt,cX,rfl,⟨47,dr1,pok,e1,xjm,knd,kl,(VT,fun H2 tp lp d_o d_r qs prs own rent so' ho' s2 htp hlp pl en al ow rn run2 _ _ _ _=>?_)⟩⟩;refine Sf;have dr2:=dr1.same s2;obtain⟨gp,my⟩:=xgx pok dr.ok dr.pm en knd kl al run2;show(av,mys,MayA ss prs,dX ⟨dr.pm.mem_iff.mp (my p hp).1,(my p hp).2⟩,⟨a,dp,do_,lp,w',h',ps,ss,prs,qs,rfl,⟨47,dr2.pic,dr2.sts,hlp,pl,gp,pok.nx,fun H3 tp3 ln ls n qs3 sq s3 f3 g3 e3 pr3 est stl ne okk cn nls=>?_⟩⟩);refine kW tp3 g3;have dr3:=dr2.same s3;show(bw,⟨a,dp,do_,ln,w',h',ps,_,qs3,rfl,⟨46,dr3.pic,e3,pr3,(okk n).ok,(okk n).le,Kr⟩⟩,h7 cR qt hqt);have lo:=Nz;show(jb,k1,k2,k3,xmm (ss:=ss) pok.nx gp n);have myk:=xqc pok.nx gp mys n;show(bj,mykr,MayA srt D4,p,hp,⟨dr.pm.mem_iff.mpr (myk p hp).1,(myk p hp).2⟩)
  have enk:(D4).map (·.1.nm)=cX:=by
   rw[<- en];have z:=congrArg (List.map fun p:Pt=>p.nm) k1;ext yY Z8 Z8
  have gv:gvL mB cX D4=true:=xfy.mpr ⟨enk,k2.nodup_iff.mpr gp.ns,(dX,(xdo pok.nn (ZC ((okk n).ok p hp).fd)).mpr (mykr p hp))⟩;have dual:=run2.fit.dual lo gv;show(BW,lf,tight,zoS en);rw[xfo pok.nn (okk n).ok mykr] at dual;rw[xfo pok.nn gp.ok my] at lf tight;have et:totI w' D4=totI w' prs:=aa
  have sf:Same H3 (iJ H4 qt Mu (totI w' D4)):=s4.trans (bP hqt);refine q _ qt ln qs3 D4 cs so ho (((i5).trans s3).trans sf) xk (sf _ _ e3) (pr3.keep (Same.tups sf)) run ?_ enk (okk n) mykr cn;ext aD et lf
theorem xdg.one {lens:b9}{names:am}{T T':Int} (a:SC T) (b:SC T'):T=T':=by
 show(ah,h1,a.le_of b zoF,h2,b.le_of a zoF)
 omega
noncomputable def xd9 (w h:Nat) (ps:ao) (ss srt:ai) (prs:aF):Prop:=∃ cs so ho,yS/\prs.map (·.1.nm)=cX/\(aR,zbo,EB,zcr=[],xdg hW cX zeR)
noncomputable def nowP (ps:ao) (p:Pr):Pr:=((zak aU).getD aJ,bO)
theorem xhb {ps:ao} (p:Pr):(iu (nowP ps p))=aU:=by
 unfold nowP;cases e:zak aU with
 | none=>rfl
 | some z=>simpa using YT e
theorem PrsL.now {H:Hp}{ps:ao}{prs:aF}{qs:aw} (h:kX):PrsL H AL qs:=by
 induction h with
 | nil=>ext ig
 | @cons p q prs qs h _ ih =>
  ext zfC;unfold prV at h ⊢;ext aD xhb h
theorem xne {ps:ao} (nd:ww) {p:Pr} (h:aU∈dQ):(GZ,iu (nowP ps p),(nowP ps p).1):=by
 rw[xhb];ext rN z hz e h;show(ie,f,xdu nd hz,e);unfold nowP;rw[f];rfl
inductive xt4 (t:Adr) (vs:af) (H:Hp) (Q:VK) (_:XK):Prop
 | mk (a lp dp do_:Addr) (w h:Nat) (ps:ao) (ss srt:ai) (prs:aF) (qs:aw) (e_:wz lp) (r_:(ay,Dr t H a dp do_ w h ps ss srt,mC,kM,jV,ay Kz kX qR WH (WE (z6↔xd9 w h ps ss srt AL))))
noncomputable def mvB (prs0:aF) (p:Pr):Bool:=((zlC).map fun r=>!(dU r.2 bO)).getD false
inductive xrh (vs:af) (H:Hp) (Q:VK) (_:XK):Prop
 | mk (lb ln:Addr) (prs0 prs:aF) (qs0 qs:aw) (e_:vs=(j4,.ref lb,ln)) (r_:(aT lb (.lst (qs0.map V.ref)))/\PrsL H prs0 qs0/\(prs0.map (·.1.nm)).Nodup/\prs0.length<=12/\(aT ln jI)/\kX/\qR/\∀ H' l,bB->H' l=some (.lst (((Xx).map (·.1.nm)).map V.str))->(nF l))
theorem Sd.no {H:Hp}{prs:aF}{kvs:bD} (h:Sd H prs kvs) {nm:Str} (e:prs.find? (fun r=>dU Ad nm)=none):zH=none:=by
 have k:=h.keys;refine xh0 (cH m);rw[k] at m;ext EW ep m;have:=JA.mp e p hp;simp at this;exact this (Jb.inj ep)
theorem ok_bb (T:aL):FnOk true P w K mg base aH 10 t.f_bb t.d_bb iy (xt4 t):=by
 refine T.F_bb.okn (k:=9) sc_bb (aM h) (fun cdv A outer s H vs Q E hr h=>?_)
 .obtain ⟨a,lp,dp,do_,w',h',ps,ss,srt,prs0,qs,rfl,_⟩:=h;rfl
 .obtain ⟨a,lp,dp,do_,w',h',ps,ss,srt,prs0,qs,rfl,h⟩:=h;refine⟨_,xh (pS 2 sc_bb.nd (pC (xji T) hr T.g_kept T.F_kept.kp T.b_kept Af))
   (xh (jC (wK (pC (ok_be T) hr T.g_be T.F_be.kp T.b_be (kG 0 2 1))) qh)
   (xh (OZ (pC (xib T) hr T.g_least T.F_least.kp T.b_least Ly) 3 sc_bb.nd (gJ 4 sc_bb.nd 5))
   (Xt (pC (xfg T) hr T.g_total T.F_total.kp T.b_total p8) (pC (xfg T) hr T.g_total T.F_total.kp T.b_total (fC 0 3)) (xdb xl1 (pC (xd1 T) hr T.g_exchangeable T.F_exchangeable.kp T.b_exchangeable p8) (xc0) gC)))),?_⟩
  refine sq4 ?_; intros; obtain⟨dr,pok,w30,h16,hlp,pl0,⟨l12,rows,q⟩⟩:47:=h;have nnd:(xu ps).Nodup:=pok.nn;have pl:=pl0.now (ps:=ps);have prow:∀ p∈prs0.map (nowP ps),1<=p.2.2/\p.2.2<=(h':Int):=fun p hp=>by
   ext znV
  have pfd:∀ p∈prs0.map (nowP ps),p.1.nm∈xu ps->ps.find? (fun z=>decide (z.nm=p.1.nm))=some p.1:=fun p hp hn=>by
   ext zjC
  have l12:(prs0.map (nowP ps)).length<=12:=by rw[Za]; exact l12
  revert pl prow pfd l12 q;generalize prs0.map (nowP ps)=prs;intro q pl prow pfd l12;show(zpv,⟨a,dp,do_,w',h',ps,ss,srt,rfl,dr,nnd,fun H1 l1 cs so ho s1 f1 e1 run=>?_⟩); ext X0;have kl:Fi cX:=by
   ext VB
  have key:xd9 w' h' ps ss srt prs->zpW/\xdg mB cX (totI gz prs)/\cans gz ss prs=[]:=fun⟨cs2,so2,ho2,run2,en2,gp2,my2,cn2,lf2⟩=>by
   show(IQ,43,run.det run2);show(d9,?_,lf2,cn2);unfold gvB;ext zjd;show(aE,en2,gp2.ns,(dX,by rw[Z7,decide_eq_true_iff]; exact my2 p hp))
  have okp:prs.map (fun p=>aU)=cX->(AH gz gQ):=fun en p hp=>by
   have hn:aU∈dQ:=by
    ext zpM en
   ext zgb hn
  refine⟨a,l1,lp,dp,do_,w',h',ps,ss,srt,cX,prs,qs,rfl,⟨47,sj s1,e1,iT hlp,DZ s1,l12,aI en p hp,fun H2 s2=>(cN,ite2 (me,q _ false i5 ⟨dw,fun k=>(Gz,(key k).1,c)⟩) (cH c))⟩⟩
  .have o:=okp en p hp;exact bW o.nm o.fd o.r1 o.r2
  have gv:zpW:=jL
  unfold gvB at gv;rw[Z7,Z7,decide_eq_true_iff,decide_eq_true_iff,JE] at gv;ext jb g1 g2 g3 gv;have ok:=okp g1;have my:MayA srt prs:=fun p hp=>by
   have z:=g3 p hp;ext yY Z7 decide_eq_true_iff
  have gp:GPr ps (w':Int) (h':Int) prs:=⟨ok,by rw[g1]; exact knd,g2,l12⟩
  show(Hh,⟨a,l1,dp,do_,w',h',ps,ss,srt,cX,rfl,⟨47,sj s02,pok,dF e1,xjm,knd,kl,(VT,fun H3 tp lp2 d_o d_r qs2 prs2 own rent so' ho' s3 htp hlp2 pl2 en2 al ow rn run2 _ _ _ _=>Sf)⟩⟩);ext O8;obtain⟨gp2,my2⟩:=xgx pok dr.ok dr.pm en2 knd kl al run2;have lo:=Nz;obtain⟨lf,_,_⟩:43:=zoS en2;rw[xfo pok.nn gp2.ok my2] at lf;refine⟨a,dp,do_,lp,w',h',ps,prs,qs,rfl,⟨46,(sj s03).pic,s03 _ _ hlp,DZ s03,ok,l12,Kr⟩⟩;have s04:=s03.trans s4;refine⟨a,dp,do_,lp2,w',h',ps,prs2,qs2,rfl,⟨46,(sj s04).pic,cO hlp2,pl2.keep (Same.tups s4),gp2.ok,gp2.le,aq H5 s5⟩⟩;have s05:=s04.trans s5;refine(je,uo c (me,q _ false s05 ⟨dw,fun k=>absurd (decide_eq_true (congrArg V.int ((bc (key k)).one lf))) c⟩));show(lY,eT,totI gz prs,totI gz prs2,V.int.inj (of_decide_eq_true c),⟨a,dp,do_,lp,w',h',ps,ss,prs,qs,rfl,⟨46,(sj s05).pic,(sj s05).sts,s05 _ _ hlp,DZ s05,ok,bX H6 v s6 tv⟩⟩);have s06:=s05.trans s6;rw[<- eT] at lf;rcases tv with⟨e,rfl⟩|⟨c,q6,qc,e,rfl,_⟩
  .exact (bY,q _ _ s06 ⟨fun _=>⟨106,cs,so,ho,run,g1,gp,my,List.head?_eq_none_iff.mp e,lf⟩,fun _=>ap⟩)
  .refine (bY,q _ _ s06 ⟨(aj,by simp at z),cH k⟩);show(cF,b8 (key k),e,e)
theorem ok_ay (T:aL):FnOk true P w K mg base aH 1 t.f_ay t.d_ay ["before", "now"] (xrh):=by
 refine T.F_ay.okn (k:=0) sc_ay (aM h) (fun cdv A outer s H vs Q E hr h=>?_)
 .obtain ⟨lb,ln,prs0,prs,qs0,qs,rfl,_⟩:=h;rfl
 .obtain ⟨lb,ln,prs0,prs,qs0,qs,rfl,h⟩:=h;refine⟨_,xh (ve 2 sc_ay.nd (Ay (xa6 rfl (xay (zs:=DC) (ys:=[]) (fr:=[]) (N0:=Wz) (sc0:=xm s_ay) aK rfl rfl rfl) (w4 0) o4 qK eC V2)))
   (db (xa6 rfl (xay (zs:=DC) (ys:=["seats"]) (fr:=[2]) (N0:=Wz) (sc0:=xm s_ay) aK rfl rfl rfl) uq o4 (xbw (xaa au (xaa au (xaa au (xbl))))) (HY (xac (r:=rNeV K) vJ (xlc fU fZ aQ zZ HF) zZ gC)) vk)),?_⟩
  refine sq2 ?_; intros; obtain⟨hlb,pr0,nd,len,hln,pr,⟨len2,q⟩⟩:47:=h;show(ah,ql0,pr0.len,ql,pr.len);show(jo,iw lb hlb l1 hl1,xbf (aW hlb) (fV,CF qs0.length 13) hl1 (VA (ba prs0 p)) (fun i y H H' tp ⟨p,q,t,a1,a2,a3,a4⟩=>⟨104,p,q,t,a1,a2,iS a3,iS a4⟩) (fun i x H2 hx s2 N hN=>?_) (fun ys H1 s1 el1 ly f1=>?_))
  .ext Cd;ext yT;show(ag,p,hpp,ep,(pr0.keep (Same.tups s2)).get ho);show(m9,o,ep,zbE zct);ext Xa X6;show(zcT,⟨104,p,q2,q1,hpp,rfl,xk,sb _ _ xk⟩)
  ext j5 ql0 ly;obtain⟨ws,kvs,rfl,w2,w3,sd1⟩:84:=xkp (H:=H1) (prs:=prs0) (ys:=ys) ly fun i y p hy hp=>by
   obtain⟨p',q',t',a1,a2,a3,a4⟩:104:=f1 i y hy;ext zlq
  have kl:=sd1.len;have knd:(kvs.map (·.1)).Nodup:=by
   ext UT nd
  ext zgG;show(Oe,fS H1 d kvs,hd);show(ah,s02,s1.trans s2,hln2,s02 _ _ hln);show(jo,iw ln hln2 l3 hl3,xcy (aW hln2) N4 hl3 (fun i=>((prs[i]?).map (mvB prs0)).getD false) zqn nS (fun i x H3 hx s3 N M hN hM=>?_) (fun ys H3 s3 e3 ly3 fy3=>?_))
  rotate_left
  .rw [Za,ql] at ly3 fy3;have fi:=xe0 (mvB prs0) (as:=prs) (p:=fun i=>((prs[i]?).map (mvB prs0)).getD false) Hw;have ey:ys=((Xx).map (·.1.nm)).map V.str:=by
    show(uY,mh ly3 fi.1 Za);have hj:i<((Zu prs.length).filter fun i=>((prs[i]?).map (mvB prs0)).getD false).length:=by
     ext jp ly3 zD
    show(gU,p,hp,fy3 i y _ hy oQ);rw[fi.2 i _ oQ] at hp;ext DJ
   show(bV,ey,e3,q H3 l3 (s02.trans s3) e3)
  rw[Zc] at hx;ext yT;show(ag,p,hpp,ep,(pr.keep (Same.tups (s02.trans s3))).get ho);show(ah,g3,FH,sd3,(zpa).keep (Same.tups s3));show(m9,o,ep,(jz,d,rfl,.inl (eE,.inl g3),cR,aq q1 hq1));show(DE,iJ H3 q1 CB dO,hq1);have g4':(ae,H4 q1,tT bO):=g4;have dg:DGet H4 d (.str aU) (ED aU):=wU aU (cO g3);obtain⟨t1,s0,ht1,ev,em⟩:∃ t1 s0,(ae,H4 t1,tT s0)/\(cQ,(ED aU).getD (.ref q1),t1)/\mvB prs0 p=!(dU s0 bO):=by
   unfold mvB;cases ef:zlC with
   | none=>exact aZ q1 bO g4' (eS,sd3.no ef) ap
   | some r =>
    have er:Ad=aU:=(BD,YT ef)
    show(ag,t1,ht1,ht2,(sd3.keep (Same.tups s4)).find nd (ZC ef));rw[er] at ht1;exact(aZ,t1,r.2,ht2,eS ht1,rfl)
  refine(bL,_,dg,cR,aq q2 hq2);rw[ev];show(av,s5,Same H4 (iJ H4 q2 CB dO),bP hq2,⟨1,1,xb8 s0,xb8 bO,xea (cB ht1),(tV,xea (s:=bO) xk,wv)⟩)
  .ext zhL zeY
  .ext zjv zeY
theorem xvv {nm:Str}{x y:Int} (p:Pt):(yy).nm=p.nm:=by
 ext O9
theorem xxt {w h:Int}{ps:ao} (o:SJ) {nm:Str}{x y:Int} (x1:1<=x) (x2:x<=w) (y1:1<=y) (y2:y<=h) (no:zjj):xbt w h (ps.map EY):=by
 have pwn:(zaB,p.nm≠q.nm):=V4 o.nn
 have pwx:(zaB,p.x≠q.x):=V4 o.nx
 show(av,pwy,(zaB,p.y≠q.y),V4 o.ny,⟨lv,?_,?_,?_,fV o.le⟩)
 .show(fj,p',hp',rfl,Zf.mp hp);have k:=o.ok p' hp';unfold mvP;split
  .exact ⟨k.nm,x1,x2,y1,y2,k.sd,k.l1,k.l2,k.l3⟩
  .exact k
 .rw [Z8,(fR,((fun p:Pt=>p.nm)∘EY),fun p=>p.nm,funext xvv)];exact o.nn
 .rw [Z8,Jq,ZZ];refine (pwn.and pwx).imp_of_mem fun {p q} hp hq ⟨n1,n2⟩=>?_;show (yy).x≠(mvP nm x y q).x;unfold mvP;ext KM
  .show(zmA,(aj,(zkL).1 z.symm))
  .ext d4 c;by_cases c2:q.nm=nm
   .show(cq,Mj,(no p hp c).1)
   .ext cq Mm n2
 .rw [Z8,Jq,ZZ];refine (pwn.and pwy).imp_of_mem fun {p q} hp hq ⟨n1,n2⟩=>?_;show (yy).y≠(mvP nm x y q).y;unfold mvP;ext KM
  .show(zmA,(aj,(zkL).2 z.symm))
  .ext d4 c;by_cases c2:q.nm=nm
   .show(cq,Mj,(no p hp c).2)
   .ext cq Mm n2
theorem xbt.snoc {w h:Int}{ps:ao} (o:SJ) {p:Pt} (k:PtOk w h p) (n1:∀ q∈ps,q.nm≠p.nm) (n2:p.x∉ps.map (·.x)) (n3:p.y∉ps.map (·.y)) (l:RV):xbt w h FE:=by
 refine⟨aq q hq,?_,?_,?_,aA Zr l⟩
 .rcases Zv.mp hq with z|z
  .exact o.ok q z
  .ext cq FN k
 .show(V5,o.nn);ext dW q hq ha;ext zeu;exact n1 q hq e
 .show(V5,o.nx);ext zeu;exact n2 (e▸ha)
 .show(V5,o.ny);ext zeu;exact n3 (e▸ha)
noncomputable abbrev hnP (pa:Addr):i7:=[iU "picture" pa]
noncomputable abbrev hnF (pa lg:Addr):i7:=[iU "picture" pa,iU "given" lg]
theorem hlkP {pa lg:Addr}:(K0).lookup (du "picture")=(aB pa):=by
 unfold hnF;show(vg,"picture")
theorem hlkG {pa lg:Addr}:(K0).lookup (du "given")=(aB lg):=by
 unfold hnF;rw[Zy,Fn "given" "picture"];show Jf (du "given") [("given",V.ref lg)]=_;show(vg,"given")
theorem xbr {pa lg:Addr}{m:Str} (e:((BX "given":am).all fun k=>S9)=true):(K0).lookup m=none:=by
 ext Ni;ext BW e1 e2 e;unfold hnF;show(HZ,e1,[("given",V.ref lg)]);rw[Zy,e2];rfl
theorem xye {pa lg x:Addr}:putF (du "given") rO K0=hnF pa x:=jr
structure HnO (t:Adr) (H:Hp) (hd pa dp do_ lg:Addr) (w h:Nat) (ps:ao) (ss srt:ai):Prop where
 ins:∃ dx,aT hd (Fu K0)
 dr:Dr t H pa dp do_ w h ps ss srt
 pok:mC
 b:kM/\h<=16
 ne:pa≠hd
structure Gvn (H:Hp) (lg:Addr) (prs:aF) (qs:aw) (h:Nat):Prop where
 hl:aT lg jI
 pl:kX
 nn:(prs.map (·.1.nm)).Nodup
 le:qR
 rw:WH
noncomputable def Hn (t:Adr) (H:Hp) (hd pa dp do_ lg:Addr) (w h:Nat) (ps:ao) (ss srt:ai) (prs:aF) (qs:aw):Prop:=HnO t H hd pa dp do_ lg w h ps ss srt/\o9/\xd9 w h ps ss srt prs
theorem HnO.same {t:Adr}{H H':Hp}{hd pa dp do_ lg:Addr}{w h:Nat}{ps:ao}{ss srt:ai} (k:HnO t H hd pa dp do_ lg w h ps ss srt) (s:bB):HnO t H' hd pa dp do_ lg w h ps ss srt:=(zcB,let ⟨dx,e⟩:=k.ins; lT rB,k.dr.same s)
theorem Gvn.same {H H':Hp}{lg:Addr}{prs:aF}{qs:aw}{h:Nat} (k:o9) (s:bB):zfw H':=⟨s _ _ k.hl,k.pl.keep (Same.tups s),k.nn,k.le,k.rw⟩
theorem Hn.same {t:Adr}{H H':Hp}{hd pa dp do_ lg:Addr}{w h:Nat}{ps:ao}{ss srt:ai}{prs:aF}{qs:aw} (k:Hn t H hd pa dp do_ lg w h ps ss srt prs qs) (s:bB):Hn t H' hd pa dp do_ lg w h ps ss srt prs qs:=⟨k.1.same s,(bc k).same s,b8 k⟩
theorem xd9.gv {w h:Nat}{ps:ao}{ss srt:ai}{prs:aF} (a:xd9 w h ps ss srt prs) {H:Hp}{lg:Addr}{qs:aw} (hl:aT lg jI) (pl:kX):o9:=by
 obtain⟨cs,so,ho,_,_,gp,_⟩:104:=a;exact⟨hl,pl,gp.nn,gp.le,dX ⟨(gp.ok p hp).r1,(gp.ok p hp).r2⟩⟩
inductive xts (t:Adr) (vs:af) (H:Hp) (Q:VK) (_:XK):Prop
 | mk (hd pa dp do_ lg:Addr) (w h:Nat) (ps:ao) (ss srt:ai) (e_:Ew) (r_:HnO t H hd pa dp do_ lg w h ps ss srt/\∀ H' l cs so ho,bb bB (gS l (.lst ((cX).map V.str))) yS (nF l))
inductive xvf (t:Adr) (vs:af) (H:Hp) (Q:VK) (_:XK):Prop
 | mk (hd pa dp do_ lg:Addr) (w h:Nat) (ps:ao) (ss srt:ai) (e_:Ew) (r_:HnO t H hd pa dp do_ lg w h ps ss srt/\∀ H' l qs cs so ho,(jt,bB,Lc,OutL H' cs qs,yS,l))
inductive xq9 (t:Adr) (vs:af) (H:Hp) (Q:VK) (_:XK):Prop
 | mk (hd pa dp do_ lg:Addr) (w h:Nat) (ps:ao) (ss srt:ai) (qs:aw) (e_:Ew) (r_:HnO t H hd pa dp do_ lg w h ps ss srt/\(aT lg jI)/\∀ H' l,bB->Lc->(nF l))
inductive xr4 (t:Adr) (vs:af) (H:Hp) (Q:VK) (_:XK):Prop
 | mk (hd pa dp do_ lg:Addr) (w h:Nat) (ps:ao) (ss srt:ai) (prs:aF) (qs:aw) (e_:Ew) (r_:Hn t H hd pa dp do_ lg w h ps ss srt prs qs/\∀ H',bB->(LM zeR))
inductive xvj (t:Adr) (vs:af) (H:Hp) (Q:VK) (_:XK):Prop
 | mk (hd pa dp do_ lg:Addr) (w h:Nat) (ps:ao) (ss srt:ai) (e_:Ew) (r_:HnO t H hd pa dp do_ lg w h ps ss srt/\∀ H' a' dp' do',bB->(jt,bu a',bu dp',bu do',Dr t H' a' dp' do' w h ps srt srt,a'))
noncomputable def Told (H:Hp) (tp:Addr) (w:Nat) (ps:ao) (srt:ai) (prs0 prs:aF):Prop:=∃(lo lm:Addr) (cs:dB) (so:bC) (ho:aG),(j8 tp [.ref lo,.int zeR,.ref lm])/\H lo=some (.lst ((cs.map (·.1)).map V.str))/\H lm=some (.lst (((Xx).map (·.1.nm)).map V.str))/\yS
inductive xp4 (t:Adr) (vs:af) (H:Hp) (Q:VK) (_:XK):Prop
 | mk (hd pa dp do_ lg:Addr) (w h:Nat) (ps:ao) (ss srt:ai) (prs:aF) (qs:aw) (e_:Ew) (r_:HnO t H hd pa dp do_ lg w h ps ss srt/\o9/\∀ H' tp lg' prs' qs',(jt,o8 hd,Hn t H' hd pa dp do_ lg' w h ps ss srt prs' qs',Told H' tp w ps srt prs prs',(zcZ,xd9 w h ps ss srt AL,AL),tp))
inductive xs9 (t:Adr) (vs:af) (H:Hp) (Q:VK) (_:XK):Prop
 | mk (hd dx a dp0 do0:Addr) (w h:Nat) (ps:ao) (ss srt:ai) (e_:vs=[.ref hd,bq]) (r_:(aT hd (Fu []))/\(ay,Dr t H a dp0 do0 w h ps ss srt,mC,kM,jV,∀ H' pa dp do_ lg prs qs,(o8 hd)->(bg,bu pa,bu dp,Uy,Hn t H' hd pa dp do_ lg w h ps srt srt prs qs,kn)))
theorem Dr.but {t:Adr}{H H':Hp}{hd C dx a dp do_:Addr}{fs:i7}{w h:Nat}{ps:ao}{ss srt:ai} (d:Dr t H a dp do_ w h ps ss srt) (e:aT hd B6) (ne:a≠hd) (k:o8 hd):Dr t H' a dp do_ w h ps ss srt:=by
 show(av,tp,kh,fun b xs eb=>XH,⟨⟨let ⟨x,eb⟩:=d.pic.ins; ⟨x,k _ _ ne eb⟩,let ⟨kv,eb,q⟩:=d.pic.pl; ⟨kv,XH,q.keep tp⟩,d.pic.w1,d.pic.w2,d.pic.h1,d.pic.h2,d.pic.len⟩,?_,d.ok,d.pm,d.lt,d.nm⟩);show(ag,kv,eb,r,d.sts)
 ext aE kv XH r
theorem ok_av (T:aL):FnOk true P w K mg base aH 10 t.f_av t.d_av iF (xts t):=by
 refine T.F_av.okn (k:=9) sc_av (aM h) (fun cdv A outer s H vs Q E hr h=>?_)
 .obtain ⟨hd,pa,dp,do_,lg,w',h',ps,ss,srt,rfl,_⟩:=h;rfl
 .obtain ⟨hd,pa,dp,do_,lg,w',h',ps,ss,srt,rfl,h⟩:=h;show(mV,pC (xji T) hr T.g_kept T.F_kept.kp T.b_kept LC);ext hX k h;ext sQ;exact⟨hd,_,dx,_,_,rfl,sH ⟨pa,dp,do_,w',h',ps,ss,srt,rfl,k.dr,k.pok.nn,fun H1 l1 cs so ho s1 f1 e1 run=>q H1 l1 cs so ho s1 e1 run⟩⟩
theorem ok_ah (T:aL):FnOk true P w K mg base aH 9 t.f_ah t.d_ah iF (xvf t):=by
 refine T.F_ah.okn (k:=8) sc_ah (aM h) (fun cdv A outer s H vs Q E hr h=>?_)
 .obtain ⟨hd,pa,dp,do_,lg,w',h',ps,ss,srt,rfl,_⟩:=h;rfl
 .obtain ⟨hd,pa,dp,do_,lg,w',h',ps,ss,srt,rfl,h⟩:=h;show(mV,pC (ok_bi T) hr T.g_bi T.F_bi.kp T.b_bi LC);ext hX k h;ext sQ;exact⟨hd,_,dx,_,_,rfl,sH ⟨pa,dp,do_,w',h',ps,ss,srt,rfl,k.dr,k.pok.nn,fun H1 l1 qs cs so ho s1 f1 e1 ol run of=>q H1 l1 qs cs so ho s1 e1 ol run⟩⟩
theorem ok_aw (T:aL):FnOk true P w K mg base aH 1 t.f_aw t.d_aw iF (xq9 t):=by
 refine T.F_aw.okn (k:=0) sc_aw (aM h) (fun cdv A outer s H vs Q E hr h=>?_)
 .obtain ⟨hd,pa,dp,do_,lg,w',h',ps,ss,srt,qs,rfl,_⟩:=h;rfl
 .obtain ⟨hd,pa,dp,do_,lg,w',h',ps,ss,srt,qs,rfl,h⟩:=h;show(mV,zov xgw bo);ext oR k hl;ext sQ;exact⟨hd,_,dx,_,_,rfl,Ga hp T.n_b0 hlkG (fP,lg,gM hl,fun l1 hl1=>q _ l1 (bP hl1) xk)⟩
theorem ok_a3 (T:aL):FnOk true P w K mg base aH 7 t.f_a3 t.d_a3 iF (xr4 t):=by
 refine T.F_a3.okn (k:=6) sc_a3 (aM h) (fun cdv A outer s H vs Q E hr h=>?_)
 .obtain ⟨hd,pa,dp,do_,lg,w',h',ps,ss,srt,prs,qs,rfl,_⟩:=h;rfl
 .obtain ⟨hd,pa,dp,do_,lg,w',h',ps,ss,srt,prs,qs,rfl,h⟩:=h;show(mV,pC (xfg T) hr T.g_total T.F_total.kp T.b_total (hZ bo bo));obtain⟨⟨k,g,an⟩,q⟩:=h;ext sQ;obtain⟨cs,so,ho,_,_,gp,_⟩:104:=an;exact⟨hd,_,dx,_,_,rfl,sH ⟨hd,_,dx,_,_,rfl,hp,T.c_au,T.n_b0,hlkG,pa,dp,do_,lg,w',h',ps,prs,qs,rfl,k.dr.pic,g.hl,g.pl,gp.ok,gp.le,fun H1 s1=>q _ s1⟩⟩
theorem ok_q (T:aL):FnOk true P w K mg base aH 8 t.f_q t.d_q iF (xvj t):=by
 refine T.F_q.okn (k:=7) sc_q (aM h) (fun cdv A outer s H vs Q E hr h=>?_)
 .obtain ⟨hd,pa,dp,do_,lg,w',h',ps,ss,srt,rfl,_⟩:=h;rfl
 .obtain ⟨hd,pa,dp,do_,lg,w',h',ps,ss,srt,rfl,h⟩:=h;show(mV,xal bo T.c_a T.m_x (ok_x T) aC T.b_x .nil xq);ext hX k h;ext sQ;show(vq,dx2,hpa,k.dr.pic);refine⟨hd,_,dx,_,_,rfl,sH ⟨pa,dx2,_,rfl,hpa,br,pa,dp,do_,_,_,ps,ss,rfl,k.dr.pic,k.dr.sts,k.pok,k.dr.ok,fun H1 a' dp' do' ss' s1 f1 f2 f3 pm lt pic' st'=>?_⟩⟩;show(yH,ss',pm.trans k.dr.pm.symm,lt,k.dr.lt);rw[List.map_id'] at pic' st';exact q H1 a' dp' do' s1 f1 f2 f3 ⟨pic',st',k.dr.ok.perm pm,y9,lt,k.dr.nm⟩
theorem ok_w (T:aL):FnOk true P w K mg base aH 11 t.f_w t.d_w iF (xp4 t):=by
 refine T.F_w.okn (k:=10) sc_w (aM h) (fun cdv A outer s H vs Q E hr h=>?_)
 .obtain ⟨hd,pa,dp,do_,lg,w',h',ps,ss,srt,prs,qs,rfl,_⟩:=h;rfl
 .obtain ⟨hd,pa,dp,do_,lg,w',h',ps,ss,srt,prs,qs,rfl,h⟩:=h;refine⟨_,xh (pS 1 sc_w.nd bo)
   (xh (yW (wK (pC (ok_bb T) hr T.g_bb T.F_bb.kp T.b_bb (xa bo ia))) (Eu (KK (pC (xke T) hr T.g_answer T.F_answer.kp T.b_answer LC))))
   (xh (xcn rfl (xay (zs:=zsl) (ys:=[]) (fr:=[]) (N0:=zrX) (sc0:=xm s_w) aK rfl rfl rfl) (xaj (xal aQ T.c_au T.m_ah (ok_ah T) aC T.b_ah .nil xq)) GD G1 eC vk (j:=2) rfl rM)
   (sW (qw 2 (xal aQ T.c_au T.m_a3 (ok_a3 T) aC T.b_a3 .nil xq) (pC (ok_ay T) hr T.g_ay T.F_ay.kp T.b_ay (ja 1 bo)))))),?_⟩
  refine sq4 ?_; intros; ext oR k g;ext sQ;show(BT,w30,h16,k.b,⟨hd,_,dx,_,_,rfl,Ga hp T.n_b0 hlkG ?_⟩)
  show(Eh,∃ lg' prs' qs',(aR,o8 hd,Hn t H' hd pa dp do_ lg' w' h' ps ss srt prs' qs',(zcZ,xd9 w' h' ps ss srt AL,AL),σ'=[Cz,aB lg,none]))
  .ext pE; refine⟨hd,_,dx,_,_,rfl,sH ⟨pa,lg,dp,do_,w',h',ps,ss,srt,prs,qs,rfl,k.dr,k.pok,w30,h16,g.hl,g.pl,g.le,g.rw,fun H1 b s1 ans=>wv⟩⟩
   .refine ⟨hd,_,dx,_,_,rfl,Ga iG T.n_bs hlkP ⟨pa,dp,do_,w',h',ps,ss,srt,rfl,k.dr.same s1,k.pok,w30,h16,fun H2 tp ln qs2 prs2 cs so ho s2 htp hln pl2 run lf en gp my cn=>W6⟩⟩;show(ah,s02,s1.trans s2,hp2,s02 _ _ hp);refine⟨126,hd,_,dx,_,rfl,hp2,T.c_au,T.n_b0,(kU 2),?_⟩;rw[xye];have kp:∀ b u,b≠hd->(ae,H2 b,u)->(qD H2 hd (Fu (hnF pa ln))):=fun b u nb e=>by
     ext MJ
    have tp2:Tups H2 (upd H2 hd (Fu (hnF pa ln))):=(jj,kp _ _ (ne_f e hp2) e);have an:xd9 w' h' ps ss srt prs2:=⟨106,cs,so,ho,run,en,gp,my,cn,lf⟩
    exact⟨104,ln,prs2,qs2,(tK,kp _ _ nb (s02 _ _ e)),ziA (zcB,FU,(k.dr.same s02).but hp2 k.ne kp) hp2,fun k=>(Gz,ans.mpr k,c),rfl⟩
   .have b1:z6:=jL
    have an:=ans.mp b1;exact⟨104,lg,_,qs,fun b u _ e=>kH,⟨k.same s1,an.gv (iT g.hl) (g.pl.now.keep (Same.tups s1)),an⟩,fun _=>oy,rfl⟩
  rintro _ H1 (⟨lg',prs',qs',k1,hn,sty,rfl⟩:104);show(BT,dx1,hp1,hn.1.ins,⟨hd,dx1,_,rfl,hp1,gT,hd,pa,dp,do_,lg',w',h',ps,ss,srt,rfl,hn.1,fun H2 lo os cs so ho s2 e2 ol run=>iw lo e2 l3 hl3⟩);have oll:=ol.len;show(ah,cl,run.outs.2,p12,k.pok.le);ext WD
  refine xbf (aW e2) qN hl3 (fun j v _=>∃ c,(cC cs c)/\v=.str c.1) nS (fun j x H5 hx s5 N hN=>?_) (fun ys H3 s3 e3 ly fy=>?_)
  .ext xN;obtain⟨c,lc,hc,hq,_⟩:83:=ol.get hqa;show(zoM,cB hq)
  have ey:ys=(cs.map (·.1)).map V.str:=by
   ext zha oll
  subst ey;have s13:=s2.trans s3;show(ah,hn3,hn.same s13,hp3,s13 _ _ hp1);refine⟨hd,dx1,_,rfl,hp3,gT,hd,pa,dp,do_,lg',w',h',ps,ss,srt,prs',qs',rfl,hn3,Kr⟩;show(ah,s14,s13.trans s4,hn4,hn.same s14);ext jb ho1 ho2 ho3 hn4;have k4:pH hd jd (ae,H4 b,u):=(tK,s14 _ _ zeT);show(av,t4,Tups H H4,(jj,k4 _ _ (ne_f e hp) e),⟨hd,_,dx1,_,_,rfl,(Ga,cO hp3,T.n_b0,hlkG,⟨lg,lg',prs,prs',qs,qs',rfl,k4 _ _ (ne_f g.hl hp) g.hl,g.pl.keep t4,g.nn,g.le,ho2.hl,ho2.pl,ho2.le,fun H5 lm s5 e5=>h7 tG tp htp⟩)⟩);show(cG,s6,Same H5 (fA H5 tp [.ref l3,.int (totI gz prs'),.ref lm]),bP htp,s16,s14.trans (s5.trans s6));exact q _ tp lg' prs' qs' (tK,s16 _ _ zeT) (hn.same s16) (iK l3 lm cs so (jz,ho,xk,(s4.trans EJ) _ _ e3,dL e5,run)) sty
theorem ok_bh (T:aL):FnOk true P w K mg base aH 11 t.f_bh t.d_bh vb (xs9 t):=by
 refine T.F_bh.okn (k:=10) sc_bh (aM h) (fun cdv A outer s H vs Q E hr h=>?_)
 .obtain ⟨hd,dx,a,dp0,do0,w',h',ps,ss,srt,rfl,_⟩:=h;rfl
 .obtain ⟨hd,dx,a,dp0,do0,w',h',ps,ss,srt,rfl,h⟩:=h;refine⟨_,xh (FX (xal bT T.c_a T.m_x (ok_x T) aC T.b_x .nil xq))
   (Eu (KK (pC (xke T) hr T.g_answer T.F_answer.kp T.b_answer LC))),?_⟩
  refine sq2 ?_; intros; obtain⟨hp,dr,pok,w30,h16,q⟩:46:=h;show(vq,dx2,hpa,dr.pic);refine⟨a,dx2,_,rfl,hpa,br,a,dp0,do0,_,_,ps,ss,rfl,dr.pic,dr.sts,pok,dr.ok,fun H1 a' dp' do' ss' s1 f1 f2 f3 pm lt pic' st'=>?_⟩;show(yH,ss',pm.trans dr.pm.symm,lt,dr.lt);rw[List.map_id'] at pic' st';show(d8,hp1,iG,⟨126,hd,_,dx,_,rfl,hp1,T.c_au,T.n_bs,(kU 0),?_⟩);rw[show putF (du "picture") (.ref a') []=(hnP a') from rfl];show(kJ,na,a',hd,sJ hp f1)
  have dr1:Dr t H1 a' dp' do' w' h' ps ss' ss':=⟨pic',st',dr.ok.perm pm,y9,lt,dr.nm⟩
  have k2:∀ b u,b≠hd->(ae,H1 b,u)->(qD H1 hd NV):=fun b u nb e=>by
   ext MJ
  show(cG,g2,lJ H1 hd NV hd NV,xk,dr2,dr1.but hp1 na k2);revert k2 g2 dr2;generalize upd H1 hd NV=H2;intro k2 g2 dr2;refine⟨hd,_,dx,_,_,rfl,Ga g2 T.n_bs (show Jf (du "picture") (hnP a')=(aB a') by unfold hnP; show(vg,"picture")) ⟨a',dp',do',w',h',ps,ss',ss',rfl,dr2,pok,w30,h16,fun H3 tp ln qs2 prs2 cs so ho s3 htp hln pl2 run lf en gp my cn=>W6⟩⟩;show(d8,hp3,FH,⟨126,hd,_,dx,_,rfl,hp3,T.c_au,T.n_b0,(kU 1),?_⟩);rw[(fR,putF (du "given") Mu (hnP a'),hnF a' ln,rfl)];have kp:∀ b u,b≠hd->(ae,H3 b,u)->(qD H3 hd (Fu (hnF a' ln))):=fun b u nb e=>by
   ext MJ
  have tp2:Tups H3 (upd H3 hd (Fu (hnF a' ln))):=(jj,kp _ _ (ne_f e hp3) e);show(kO,an,xd9 w' h' ps ss' ss' prs2,⟨106,cs,so,ho,run,en,gp,my,cn,lf⟩,q _ a' dp' do' ln prs2 qs2 (tK,kp _ _ nb (dS (k2 _ _ nb kH))) f1 f2 f3 (ziA ⟨FU,(dr2.same s3).but hp3 na kp,pok,⟨w30,h16⟩,na⟩ hp3))
inductive Aft (ps:ao) (ss:ai):af->(bE ao ai)
 | come {nm:Str}{x y:Int}{sd:Str}{lo hi:Int}:Aft ps ss [zfk,mS,qy,rR,zJ,FQ,Mo] (ps++[He]) ss
 | go {nm:Str}{f:Pt->Bool}:Aft ps ss [.str "go",mS] (ps.filter f) ss
 | shift {nm:Str}{x y:Int}:Aft ps ss (zbD mS) X5 ss
 | unbar {b:Bool}{r:Int} (no:LZ):Aft ps ss zaR ps (ss++[jy])
 | bar {b:Bool}{r:Int}{f:Seat->Bool}:Aft ps ss zbU ps (ss.filter f)
noncomputable def DRes (t:Adr) (H:Hp) (hd pa dp do_:Addr) (w h:Nat) (ps:ao) (ss:ai) (prs:aF) (qs:aw) (xs:af) (Q:VK):Prop:=∀ H' tp ps' ss' srt' lg' prs' qs',(VG jd (ae,H' b,u))->(jt,Hn t H' hd pa dp do_ lg' w h ps' ss' srt' prs' qs',Told H' tp w ps' srt' prs prs',(zcZ,xd9 w h ps' ss' srt' (prs.map (nowP ps')),prs.map (nowP ps')),XI,tp)
section
variable {t:Adr}{H H1:Hp}{hd pa dp do_ lg:Addr}{w h:Nat}{ps ps1:List Pt}{ss ss1 srt:List Seat}{prs:List Pr}{qs:List Addr}
theorem HnO.pts (k:HnO t H hd pa dp do_ lg w h ps ss srt) (g:o9) (kc:pH dp jd (ae,H1 b,u)) (pic1:Pic t H1 pa dp do_ kI ib ps1) (pok1:xbt kI ib ps1):HnO t H1 hd pa dp do_ lg w h ps1 ss srt/\(zfw H1):=by
 show(iB,kd,hkd,k.dr.pic.pl)
 ext zpK
 exact⟨⟨(lT,kc _ _ (ne_f hp hkd) hp),⟨pic1,⟨ko,kc _ _ (ne_f hko hkd) hko,r⟩,k.dr.ok,k.dr.pm,k.dr.lt,(dX,(pok1.ok p hp).nm)⟩,pok1,k.b,k.ne⟩,kc _ _ (ne_f g.hl hkd) g.hl,znE hkd,g.nn,g.le,g.rw⟩
theorem HnO.sts (k:HnO t H hd pa dp do_ lg w h ps ss srt) (g:o9) (kc:pH do_ jd (ae,H1 b,u)) (pic1:Pic t H1 pa dp do_ kI ib ps) (st1:Sts H1 do_ ss1) (ok1:SsOk ib ss1):∃ srt1,HnO t H1 hd pa dp do_ lg w h ps ss1 srt1/\(zfw H1):=by
 ext zpK
 show(ag,srt1,pm,lt,xgv ok1.1);exact⟨srt1,zcB (lT,kc _ _ (ne_f hp hko) hp) ⟨pic1,st1,ok1,pm,lt,k.dr.nm⟩,kc _ _ (ne_f g.hl hko) g.hl,znE hko,g.nn,g.le,g.rw⟩
#check _
inductive xwy (t:Adr) (vs:af) (H:Hp) (Q:VK) (_:XK):Prop
 | mk (hd pa dp do_ lg:Addr) (w h:Nat) (ps:ao) (ss srt:ai) (prs:aF) (qs:aw) (nm:Str) (x y:Int) (sd:Str) (lo hi:Int) (e_:vs=[FT,mS,qy,rR,zJ,FQ,Mo]) (r_:HnO t H hd pa dp do_ lg w h ps ss srt/\(ay,o9,PtOk kI ib He,Vo,RV,DRes t H hd pa dp do_ w h ps ss prs qs [zfk,mS,qy,rR,zJ,FQ,Mo] Q))
inductive spGo (t:Adr) (vs:af) (H:Hp) (Q:VK) (_:XK):Prop
 | mk (hd pa dp do_ lg:Addr) (w h:Nat) (ps:ao) (ss srt:ai) (prs:aF) (qs:aw) (pt:Pt) (e_:vs=[.ref hd,gc]) (r_:(aR,HnO t H hd pa dp do_ lg w h ps ss srt,o9,Mx,DRes t H hd pa dp do_ w h ps ss prs qs [.str "go",gc] Q))
inductive xq6 (t:Adr) (vs:af) (H:Hp) (Q:VK) (_:XK):Prop
 | mk (hd pa dp do_ lg:Addr) (w h:Nat) (ps:ao) (ss srt:ai) (prs:aF) (qs:aw) (pt:Pt) (x y:Int) (e_:vs=[FT,gc,qy,rR]) (r_:(ay,HnO t H hd pa dp do_ lg w h ps ss srt,o9,Mx,1<=x,(ay,x<=kI,1<=y,y<=ib,zhO,DRes t H hd pa dp do_ w h ps ss prs qs (zbD gc) Q)))
inductive xuo (t:Adr) (vs:af) (H:Hp) (Q:VK) (_:XK):Prop
 | mk (hd pa dp do_ lg:Addr) (w h:Nat) (ps:ao) (ss srt:ai) (prs:aF) (qs:aw) (b:Bool) (r:Int) (e_:wY FT lS r) (r_:HnO t H hd pa dp do_ lg w h ps ss srt/\(ay,o9,1<=r,r<=ib,LZ,DRes t H hd pa dp do_ w h ps ss prs qs zaR Q))
inductive xx1 (t:Adr) (vs:af) (H:Hp) (Q:VK) (_:XK):Prop
 | mk (hd pa dp do_ lg:Addr) (w h:Nat) (ps:ao) (ss srt:ai) (prs:aF) (qs:aw) (b:Bool) (r:Int) (e_:wY FT lS r) (r_:(aR,HnO t H hd pa dp do_ lg w h ps ss srt,o9,jy∈ss,DRes t H hd pa dp do_ w h ps ss prs qs zbU Q))
inductive xch (w h:Nat) (ps:ao) (ss:ai):af->Prop
 | come (nm:Str) (x y:Int) (sd:Str) (lo hi:Int) (ok:PtOk kI ib He) (no:Vo) (le:RV):yQ [zfk,mS,qy,rR,zJ,FQ,Mo]
 | go (pt:Pt) (hp:Mx):yQ [.str "go",gc]
 | shift (pt:Pt) (x y:Int) (hp:Mx) (x1:1<=x) (x2:x<=kI) (y1:1<=y) (y2:y<=ib) (no:zhO):yQ (zbD gc)
 | unbar (b:Bool) (r:Int) (r1:1<=r) (r2:r<=ib) (no:LZ):yQ zaR
 | bar (b:Bool) (r:Int) (hm:jy∈ss):yQ zbU
inductive xww (t:Adr) (vs:af) (H:Hp) (Q:VK) (_:XK):Prop
 | mk (hd pa dp do_ lg qd:Addr) (w h:Nat) (ps:ao) (ss srt:ai) (prs:aF) (qs:aw) (xs:af) (e_:vs=(j4 FT qd)) (r_:(ay,HnO t H hd pa dp do_ lg w h ps ss srt,o9,j8 qd xs,yQ xs,DRes t H hd pa dp do_ w h ps ss prs qs xs Q))
theorem ok_g (T:aL):FnOk true P w K mg base aH 12 t.f_g t.d_g ["self", "name", "x", "y", "sides", "low", "high"] (xwy t):=by
 refine T.F_g.okn (k:=11) sc_g (aM h) (fun cdv A outer s H vs Q E hr h=>?_)
 .obtain ⟨hd,pa,dp,do_,lg,w',h',ps,ss,srt,prs,qs,nm,x,y,sd,lo,hi,rfl,_⟩:=h;rfl
 .obtain ⟨hd,pa,dp,do_,lg,w',h',ps,ss,srt,prs,qs,nm,x,y,sd,lo,hi,rfl,h⟩:=h;refine⟨_,xh (xap (xae bo T.c_a T.m_b (ok_b T) aC T.b_b .nil xq (xa7 bT (sK gW fZ (xa7 df (sK uR nI (xg)) rfl)) rfl)))
   (db (xal aQ T.c_au T.m_w (ok_w T) aC T.b_w .nil xq)),?_⟩
  refine sq2 ?_; intros; obtain⟨k,g,o,no,le,q⟩:46:=h;show(UL,⟨hd,_,dx,_,_,rfl,sH ⟨pa,dx2,_,rfl,hpa,br,pa,dp,do_,_,_,ps,nm,x,y,sd,lo,hi,Mo,rfl,k.dr.pic,wu,o.nm,o.x1,o.x2,o.y1,o.y2,o.sd,o.l1,o.l2,o.l3,no,le,zbO⟩⟩,(k.pok.snoc o (dX,(no p hp).1) (fun m=>by ext EW e m; exact (So).1 e) (fun m=>by ext EW e m; exact (So).2 e) le),⟨hd,dx,_,rfl,HQ hkd,gT,hd,pa,dp,do_,lg,w',h',_,ss,srt,prs,qs,rfl,k',g',fun H2 tp lg' prs' qs' k2 hn told sty=>q H2 tp _ _ _ lg' prs' qs' Vg hn told sty .come⟩)
theorem ok_bn (T:aL):FnOk true P w K mg base aH 12 t.f_bn t.d_bn j6 (spGo t):=by
 refine T.F_bn.okn (k:=11) sc_bn (aM h) (fun cdv A outer s H vs Q E hr h=>?_)
 .obtain ⟨hd,pa,dp,do_,lg,w',h',ps,ss,srt,prs,qs,pt,rfl,_⟩:=h;rfl
 .obtain ⟨hd,pa,dp,do_,lg,w',h',ps,ss,srt,prs,qs,pt,rfl,h⟩:=h;refine⟨_,xh (xap (xae bo T.c_a T.m_ap (ok_ap T) aC T.b_ap .nil xq ia))
   (db (xal aQ T.c_au T.m_w (ok_w T) aC T.b_w .nil xq)),?_⟩
  refine sq2 ?_; intros; ext kq k g hpt q h;show(UL,⟨hd,_,dx,_,_,rfl,sH ⟨pa,dx2,_,rfl,hpa,br,pa,dp,do_,_,_,ps,pt.nm,pt,rfl,k.dr.pic,zqW,xdu k.pok.nn hpt,zbO⟩⟩,k.pok.filt _,⟨hd,dx,_,rfl,HQ hkd,gT,hd,pa,dp,do_,lg,w',h',_,ss,srt,prs,qs,rfl,k',g',fun H2 tp lg' prs' qs' k2 hn told sty=>q H2 tp _ _ _ lg' prs' qs' Vg hn told sty .go⟩)
theorem ok_a1 (T:aL):FnOk true P w K mg base aH 12 t.f_a1 t.d_a1 qL (xq6 t):=by
 refine T.F_a1.okn (k:=11) sc_a1 (aM h) (fun cdv A outer s H vs Q E hr h=>?_)
 .obtain ⟨hd,pa,dp,do_,lg,w',h',ps,ss,srt,prs,qs,pt,x,y,rfl,_⟩:=h;rfl
 .obtain ⟨hd,pa,dp,do_,lg,w',h',ps,ss,srt,prs,qs,pt,x,y,rfl,h⟩:=h;refine⟨_,xh (xap (xae bo T.c_a T.m_aq (ok_aq T) aC T.b_aq .nil xq Ko))
   (db (xal aQ T.c_au T.m_w (ok_w T) aC T.b_w .nil xq)),?_⟩
  refine sq2 ?_; intros; obtain⟨k,g,hpt,x1,x2,y1,⟨y2,no,q⟩⟩:47:=h;show(UL,⟨hd,_,dx,_,_,rfl,sH ⟨pa,dx2,_,rfl,hpa,br,pa,dp,do_,_,_,ps,pt,x,y,rfl,k.dr.pic,k.pok.nn,zqW,xdu k.pok.nn hpt,x1,x2,y1,y2,no,zbO⟩⟩,xxt k.pok x1 x2 y1 y2 no,⟨hd,dx,_,rfl,HQ hkd,gT,hd,pa,dp,do_,lg,w',h',_,ss,srt,prs,qs,rfl,k',g',fun H2 tp lg' prs' qs' k2 hn told sty=>q H2 tp _ _ _ lg' prs' qs' Vg hn told sty .shift⟩)
theorem ok_a2 (T:aL):FnOk true P w K mg base aH 12 t.f_a2 t.d_a2 pb (xuo t):=by
 refine T.F_a2.okn (k:=11) sc_a2 (aM h) (fun cdv A outer s H vs Q E hr h=>?_)
 .obtain ⟨hd,pa,dp,do_,lg,w',h',ps,ss,srt,prs,qs,b,r,rfl,_⟩:=h;rfl
 .obtain ⟨hd,pa,dp,do_,lg,w',h',ps,ss,srt,prs,qs,b,r,rfl,h⟩:=h;refine⟨_,xh (xap (xae bo T.c_a T.m_j (ok_j T) aC T.b_j .nil xq oz))
   (db (xal aQ T.c_au T.m_w (ok_w T) aC T.b_w .nil xq)),?_⟩
  refine sq2 ?_; intros; obtain⟨k,g,r1,r2,nin,q⟩:46:=h;ext zix;obtain⟨w30,h16⟩:=k.b;have s32:=bc k.dr.ok;have hrow:zdT:=by
   by_cases c32:zdT
   .exact c32
   .show(bZ,xnt aa k.dr.ok aa jy r1 r2,nin)
  refine⟨hd,_,dx,_,_,rfl,sH ⟨pa,dx2,_,rfl,hpa,br,pa,dp,do_,_,_,ps,ss,b,r,rfl,k.dr.pic,k.dr.sts,r1,r2,nin,hrow,zrz⟩⟩;obtain⟨srt1,k',g'⟩:62:=k.sts g k1 pic1 st1 ⟨by
   rw[ZB];show(aE,k.dr.ok.1,ap,(zeo,nin (by show(bV,Uh,e,e▸hx)))),by
   rw[Zr];show ss.length+1<=32;omega,fun s hs=>by
   rcases Zv.mp hs with y|y
   .exact k.dr.ok.2.2 s y
   .rw [zB];ext aO r1 r2⟩
  exact⟨hd,dx,_,rfl,HQ hko,gT,hd,pa,dp,do_,lg,w',h',ps,_,srt1,prs,qs,rfl,k',g',fun H2 tp lg' prs' qs' k2 hn told sty=>q H2 tp _ _ _ lg' prs' qs' ziH hn told sty (.unbar nin)⟩
theorem ok_bj (T:aL):FnOk true P w K mg base aH 12 t.f_bj t.d_bj pb (xx1 t):=by
 refine T.F_bj.okn (k:=11) sc_bj (aM h) (fun cdv A outer s H vs Q E hr h=>?_)
 .obtain ⟨hd,pa,dp,do_,lg,w',h',ps,ss,srt,prs,qs,b,r,rfl,_⟩:=h;rfl
 .obtain ⟨hd,pa,dp,do_,lg,w',h',ps,ss,srt,prs,qs,b,r,rfl,h⟩:=h;refine⟨_,xh (xap (xae bo T.c_a T.m_r (ok_r T) aC T.b_r .nil xq oz))
   (db (xal aQ T.c_au T.m_w (ok_w T) aC T.b_w .nil xq)),?_⟩
  refine sq2 ?_; intros; ext kq k g hm q h;ext zix;show(BT,r1,r2,k.dr.ok.2.2 _ hm,⟨hd,_,dx,_,_,rfl,sH ⟨pa,dx2,_,rfl,hpa,br,pa,dp,do_,_,_,ps,ss,b,r,rfl,k.dr.pic,k.dr.sts,r1,r2,hm,zrz⟩⟩);show(ag,srt1,k',g',k.sts g k1 pic1 st1 ⟨k.dr.ok.1.filter _,ZK rP (bc k.dr.ok),(h8,k.dr.ok.2.2 s (qm hs))⟩);exact⟨hd,dx,_,rfl,HQ hko,gT,hd,pa,dp,do_,lg,w',h',ps,_,srt1,prs,qs,rfl,k',g',fun H2 tp lg' prs' qs' k2 hn told sty=>q H2 tp _ _ _ lg' prs' qs' ziH hn told sty .bar⟩
theorem ok_bm (T:aL):FnOk true P w K mg base aH 13 t.f_bm t.d_bm zlo (xww t):=by
 refine T.F_bm.okn (k:=12) sc_bm (aM h) (fun cdv A outer s H vs Q E hr h=>?_)
 .obtain ⟨hd,pa,dp,do_,lg,qd,w',h',ps,ss,srt,prs,qs,xs,rfl,_⟩:=h;rfl
 .obtain ⟨hd,pa,dp,do_,lg,qd,w',h',ps,ss,srt,prs,qs,xs,rfl,h⟩:=h;refine⟨_,xh (Ra (xae aQ T.c_au T.m_g (ok_g T) aC T.b_g .nil xq (xa7 lP (sK lP lP (xa7 lP (sK lP lP (xg)) rfl)) rfl)))
   (xh (Ra (xae aQ T.c_au T.m_bn (ok_bn T) aC T.b_bn .nil xq (xa lP (xg))))
   (xh (Ra (xae aQ T.c_au T.m_a1 (ok_a1 T) aC T.b_a1 .nil xq (xa lP (hZ lP lP))))
   (xh (Ra (xae aQ T.c_au T.m_a2 (ok_a2 T) aC T.b_a2 .nil xq (hZ lP lP)))
   (db (xae aQ T.c_au T.m_bj (ok_bj T) aC T.b_bj .nil xq (hZ lP lP)))))),?_⟩
  refine sq5 ?_; intros; ext Bg; obtain⟨k,g,hq,dt,q⟩:45:=h;ext sQ;cases dt with
  | come nm x y sd lo hi o no le =>
   refine Na;exact⟨hd,dx,_,rfl,hp,gT,qd,_,1,_,rfl,rfl,kE,rfl,qd,_,2,_,rfl,rfl,kE,rfl,qd,_,3,_,rfl,rfl,kE,rfl,qd,_,4,_,rfl,rfl,kE,rfl,qd,_,5,_,rfl,rfl,kE,rfl,qd,_,6,_,rfl,rfl,kE,rfl,hd,pa,dp,do_,lg,w',h',ps,ss,srt,prs,qs,nm,x,y,sd,lo,hi,rfl,k,g,o,no,le,q⟩
  | go pt hpt =>
   ext bw sx Na;exact⟨hd,dx,_,rfl,hp,gT,qd,_,1,_,rfl,rfl,kE,rfl,hd,pa,dp,do_,lg,w',h',ps,ss,srt,prs,qs,pt,rfl,k,g,hpt,q⟩
  | shift pt x y hpt x1 x2 y1 y2 no =>
   refine sx;ext bw sx Na;exact⟨hd,dx,_,rfl,hp,gT,qd,_,1,_,rfl,rfl,kE,rfl,qd,_,2,_,rfl,rfl,kE,rfl,qd,_,3,_,rfl,rfl,kE,rfl,hd,pa,dp,do_,lg,w',h',ps,ss,srt,prs,qs,pt,x,y,rfl,k,g,hpt,x1,x2,y1,y2,no,q⟩
  | unbar b r r1 r2 no =>
   ext zu sx sx sx Na;exact⟨hd,dx,_,rfl,hp,gT,qd,_,1,_,rfl,rfl,kE,rfl,qd,_,2,_,rfl,rfl,kE,rfl,hd,pa,dp,do_,lg,w',h',ps,ss,srt,prs,qs,b,r,rfl,k,g,r1,r2,no,q⟩
  | bar b r hm =>
   ext zu sx sx sx sx;exact⟨hd,dx,_,rfl,hp,gT,qd,_,1,_,rfl,rfl,kE,rfl,qd,_,2,_,rfl,rfl,kE,rfl,hd,pa,dp,do_,lg,w',h',ps,ss,srt,prs,qs,b,r,rfl,k,g,hm,q⟩
theorem xg6 {K:Zd}{H:Hp}{l:Addr}{zs:dD} (e:aT l zad):iW 1 mX (.lst (zs.map DV.int)):=.lst (SqL.of e) ap fun j x d h1 h2=>by
 show(US,.int)
theorem xgb {α:Type} (m:Int) {xs:aP} (h:xs≠[]):∃(j:Nat) (y:α),(ay,cC xs y,0<=m % Ee,m % Ee<xs.length,(ae,atI xs (m % Ee),y),0<Ee):=by
 have l0:0<xs.length:=List.length_pos_iff.mpr h;have lp:m7<Ee:=aa
 obtain⟨k0,k1⟩:=xbd m lp;obtain⟨j,hj⟩:=Jy k0;have jl:j<xs.length:=by
  ext B7 k1 hj;omega
 exact⟨85,j,Db,Zb jl,k0,k1,(aA,hj,xb9 (Zb jl)),lp⟩
theorem xo0 (nms:am) (nm:Str):rY ((nms.map DV.str).any (aj,dEq z (.str nm))) (nm∈nms):=by
 ext Ow
 .ext zij
 .ext zml
section
variable {n:Nat}{g:TG}{Z:L2.St}{fr:List Nat}{tc:TT}{te:TE}{l:Addr}{H1:Hp}{Q:VK}
theorem xo3 {x:Str} (hlen:uF x.cps.toList.length) (hl:vM) (p:Fg) (F:Mb) (stab:GE)
    (step:∀(i:Nat) c (H2:Hp),zso->kZ->∀(N:wV) (M:LF),(∀ y H',zla)->VF->g (sgn c) Ke H2 U8)
    (fin:(Dq,((zpF).filter p).length,(∀(j:Nat) (y:V) (i:Nat),A8 ((zpF).filter p) i Lw))):xeh (Its x) n g Z fr tc te l H1 Q:=by
  refine xjj x.cps.toList.length hlen hl (oX,sgn (x.cps.toList.getD i 0)) (fun i H lt s=>lt) (fun i H v H' lt s y=>?_) (fun H s=>bv) p F stab (fun i H2 lt s N M h1 h2=>?_) fin
  . obtain⟨e,c,hc,rfl⟩:=y
    show(dI,e,?_);show sgn c=sgn zqt
    congr 1
    rw[YM,hc];rfl
  . have e:ba x.cps.toList zqt:=by
      rw[YM,ij];rfl
    exact step i _ H2 e s N M h1 h2
#check _
theorem xo2 {α:Type} [yr] {l:aP} (nd:l.Nodup) (a:α):l.eraseIdx (l.idxOf a)=l.filter fun b=>cP (b≠a):=by
 induction l with
 | nil=>rfl
 | cons b r ih =>
  rw[Z5] at nd;ext ir b a
  .subst c;rw[ZU ap,List.idxOf_cons_self,List.eraseIdx_cons_zero,Wn.mpr (by intro x hx; simp; intro e; exact nd.1 (e▸hx))]
  .rw [ZT jL,List.idxOf_cons,T5 b a jL,cond_false,List.eraseIdx_cons_succ,ih gD]
theorem xju {zs:dD} (nd:zs.Nodup) {z:Int} (h:z∈zs):xjd (zs.map DV.int) (.int z) (zs.idxOf z):=by
 have lt:=List.idxOf_lt_length_of_mem h;show(av,e,(eY,zs,zs.idxOf z,z),bR ij List.getElem_idxOf,⟨⟨.int z,d7 Zc e,xce _⟩,bX i d lt hd⟩);rw[Zc] at hd;ext mF z' hz' hd;rw[xhg (d:=.int z') (e:=.int z) (x:=z') (y:=z) rfl rfl ap];refine decide_eq_false (cH c);subst c;ext pQ h1 h2 hz';obtain⟨h3,h4⟩:=Zh.mp e;exact absurd (h2.trans h4.symm) (Jj.mp nd i _ h1 h3 lt)
noncomputable def upTo (m:Nat):dD:=(Zu m).map (wI,i,rQ+cL)
theorem xpb (m:Nat):rngL 1 (Gq+1)=(upTo m).map V.int:=by
 unfold rngL upTo;rw[Z8,(fR,(Gq+1-1).toNat,m,aa)];rfl
theorem xmv (m:Nat):(upTo m).Nodup:=Je.map _ (fun a b h z=>h aa) Qr
theorem xm2 {m:Nat}{z:Int}:z∈upTo m↔(r8 z z Gq):=by
 unfold upTo;ext B9 Zf
 .show(nZ,i,hi,rfl);rw[ZJ] at hi;omega
 .intro h
  show(aE,(z-1).toNat,ZJ.mpr aa,aa)
theorem xsf {m:Nat} (h:0<m) {qs:aw}:HO.lst (qs.map V.ref)≠HO.lst ((upTo m).map V.int):=fun e=>by
 injection e with e
 show(Et,i,∃ i,m=aX,m-1)
 unfold upTo at e;rw[Qi] at e;cases qs with
 | nil=>cases e
 | cons a r =>
  injection e with e _
  cases e
noncomputable def Lft (m:Nat) (f:Pt->Int) (nm:Str) (ps:ao) (cs:dD):Prop:=cs.Nodup/\∀ z,z∈cs↔(r8 z z Gq)/\∀ p∈ps,wc->f p≠z
theorem Lft.skip {m:Nat}{f:Pt->Int}{nm:Str}{ps:ao}{cs:dD} (h:Lft m f nm ps cs) {p:Pt} (e:p.nm=nm):Lft m f nm FE cs:=⟨h.1,fun z=>by
 rw[h.2 z];refine and_congr_right fun _=>⟨bX k q hq hn,fun k q hq=>k q (ZH _ hq)⟩
 rcases Zv.mp hq with y|y
 .exact k q y hn
 .rw [zB] at hn;ext bZ e hn⟩
theorem Lft.rm {m:Nat}{f:Pt->Int}{nm:Str}{ps:ao}{cs:dD} (h:Lft m f nm ps cs) {p:Pt} (e:wc):Lft m f nm FE (WN,f p):=⟨h.1.filter _,fun z=>by
 show(A7,Zz,h.2 z);constructor
 .rintro ⟨⟨a,b⟩,c⟩;show(dI,a,aI q hq hn);rcases Zv.mp hq with y|y
  .exact b q y hn
  .show(cq,zB,(aj,c z.symm))
 .rintro ⟨a,b⟩;show(aO,(eZ,fun q hq hn=>b q (ZH _ hq) hn),(aj,b p FV e z.symm))⟩
theorem xp6 {cs:dD} (nd:cs.Nodup) (z:Int):(cs.map V.int).eraseIdx (cs.idxOf z)=(WN z).map V.int:=by
 rw[<- xo2 nd];simp[Y0,Yv,Yw]
inductive xtu (t:Adr) (vs:af) (H:Hp) (Q:VK) (_:XK):Prop
 | mk (a dp do_:Addr) (w h:Nat) (ps:ao) (nm:Str) (e_:SL) (r_:Pic t H a dp do_ kI ib ps/\mC/\∀ H' tp lc lr cs rs,bB->(vt tp (j4,.ref lc,lr))->(gS lc (.lst (cs.map V.int)))->(gS lr (.lst (rs.map V.int)))->Lft w (·.x) nm ps cs->Lft h (·.y) nm ps rs->(nF tp))
theorem ok_a8 (T:aL):FnOk true P w K mg base aH 2 t.f_a8 t.d_a8 ["_law_picture_here", "_law_name"] (xtu t):=by
 refine T.F_a8.okn (k:=1) sc_a8 (aM h) (fun cdv A outer s H vs Q E hr h=>?_)
 .obtain ⟨a,dp,do_,w',h',ps,nm,rfl,_⟩:=h;rfl
 .obtain ⟨a,dp,do_,w',h',ps,nm,rfl,h⟩:=h;refine⟨_,xh (pS 2 sc_a8.nd (Vb (hZ (xo) Ck)))
   (xh (pS 3 sc_a8.nd (Vb (hZ (xo) Ck)))
   (xh (xbe ZF rfl (xaj (xal aQ T.c_a T.m_h CV aC T.b_h .nil xq)) (xav rfl (Bq 4 sc_a8.nd 5 (Bq 6 sc_a8.nd 7 (gJ 8 sc_a8.nd 9)))) (xl (xar (on xsl 4 bT) (xh (xap (xev Jp PySem.F.slot_list_remove PySem.F.type_list_remove (xi4 (xbg hr)) gW (fD 5)))
   (oP (xev Jp PySem.F.slot_list_remove PySem.F.type_list_remove (xi4 (xbg hr)) fZ (fD 6)))) (xad))))
   (sW tM))),?_⟩
  refine sq4 ?_; intros; ext oR pic pok;obtain⟨⟨dx,hp⟩,_,w1,w2,h1,h2,_⟩:=uA;refine⟨a,_,_,_,_,rfl,PB (bQ,1,gz+1,rfl,aq p1 hp1)⟩;show(Xr,p1,.rng 1 (gz+1),hp1);refine⟨105,p1,1,gz+1,rfl,g1,HG,aa,aq lc hlc⟩;rw[xpb];generalize eu:upd H1 lc (.lst ((upTo w').map V.int))=H2;show(Ej,s2,hlc,g2,hp2,dF iG);refine⟨a,_,_,_,_,rfl,mU hp2 T.n_bq lkH (bQ,1,gQ+1,rfl,aq p3 hp3)⟩;show(Hc,upd H2 p3 (.rng 1 (gQ+1)),hp3);refine⟨105,p3,1,gQ+1,rfl,g3,HG,aa,aq lr hlr⟩;rw[xpb];show(DE,upd H3 lr (.lst ((upTo h').map V.int)),hlr);show(ah,s02,i5,s24,s3.trans s4);show(ah,s04,s02.trans s24,hp4,s04 _ _ hp);have flc:bu lc:=s1.free hlc;have flr:bu lr:=(s02.trans s3).free hlr;show(av,ncr,lc≠lr,xi FH hlr,⟨a,dx,_,rfl,hp4,br,a,dp,do_,_,_,ps,rfl,pY s04,fun H5 l5 qs s5 hl5 pt5=>nT l5 hl5⟩);have s05:=s04.trans s5;have nl5:(ae,H5 lc,.lst ((upTo w').map V.int)):=cB (s24 _ _ g2);have nr5:(ae,H5 lr,.lst ((upTo h').map V.int)):=Cs;have e5c:l5≠lc/\l5≠lr:=⟨xdd hl5 nl5 (xsf aa),xdd hl5 nr5 (xsf aa)⟩
  refine xbp (xs:=vH) (Pv:=fun i Z H6=>∃(cs rs:dD) (v4 v5 v6 v7 v8 v9:cc),Z=[dN,fM nm,aB lc,aB lr,v4,v5,v6,v7,v8,v9]/\(∀ b u,(bb,b≠lc,b≠lr,(ae,H5 b,u),(ae,H6 b,u)))/\(ae,H6 lc,.lst (cs.map V.int))/\(ae,H6 lr,.lst (rs.map V.int))/\Lft w' (·.x) nm yZ cs/\Lft h' (·.y) nm yZ rs) (xI,upTo w',upTo h',⟨126,_,_,_,_,rfl,fun b u _ _ e=>e,nl5,nr5,znD,znD⟩) ?_ ?_ ?_
  .rintro i Z H6 _ (⟨_,_,_,_,⟨_,_,_,_,rfl,k6,_⟩⟩:121);show(wX,k6 _ _ e5c.1 e5c.2 hl5)
  .rintro i x Z H6 hx (⟨cs,rs,v4,v5,⟨v6,v7,v8,v9,rfl,k6,hc6,hr6,lf1,lf2⟩⟩:121);ext TJ;ext gU qa hqa hx;show(ag,p,hpp,hq,pt5.get hqa);show(ah,mp,Zk hpp,po,pok.ok p mp);show(cG,tk,ps.take aX=yZ++[p],d7 ZR hpp,il,gR hpp);show(ah,pi,(Zh.mp hpp).2,hq6,k6 _ _ (ne_f hq nl5) (ne_f hq nr5) hq);show(m9,qa,hq6,(je,rK c c))
   .have c':p.nm≠nm:=jL
    have mx:p.x∈cs:=(lf1.2 p.x).mpr ⟨⟨po.x1,po.x2⟩,fun r hr _ e=>by
     show(znk,p.x,pok.nx)⟩
    have my:p.y∈rs:=(lf2.2 p.y).mpr ⟨⟨po.y1,po.y2⟩,fun r hr _ e=>by
     show(znk,p.y,pok.ny)⟩
    refine⟨vA hc6,(iK,lc,_,.int p.x,0,⟨126,1,.int p.x,cs.map DV.int,cs.idxOf p.x,rfl,rfl,hc6,.int,xg6 hc6,(bW,au,au,xju lf1.1 mx,?_)⟩)⟩;rw[xp6 lf1.1];show(av,hr7,lJ H6 lc (.lst ((WN p.x).map V.int)) lr (.lst (rs.map V.int)),(aA,kP ncr,hr6),⟨vA hr7,(iK,lr,_,.int p.y,0,⟨126,1,.int p.y,rs.map DV.int,rs.idxOf p.y,rfl,rfl,hr7,.int,xg6 hr7,(bW,au,au,xju lf2.1 my,?_)⟩)⟩);rw[xp6 lf2.1,tk];refine iA ⟨126,_,_,_,_,rfl,fun b u n1 n2 e=>(qi,xj n2,xj n1,k6 _ _ n1 n2 e),?_,xk,lf1.rm c',lf2.rm c'⟩;ext ip ncr xk
   .have c':p.nm=nm:=by
     ext Al c
    rw[tk];exact xI cs rs ⟨126,_,_,_,_,rfl,k6,hc6,hr6,lf1.skip c',lf2.skip c'⟩
  .rintro Z H6 (⟨cs,rs,v4,v5,⟨v6,v7,v8,v9,rfl,k6,hc6,hr6,lf1,lf2⟩⟩:121);rw[Za,pt5.len,Jg] at lf1 lf2;ext h9 cR tp htp;show(kO,s7,Same H6 (fA H6 tp (j4,.ref lc,lr)),bP htp,q _ tp lc lr cs rs (qz,oU (k6 _ _ (xi e flc) (xi e flr) (s05 _ _ e))) xk (oU hc6) (oU hr6) lf1 lf2)
theorem xo5 {α:Type}{l:aP} (h:l≠[]):l.isEmpty=false:=by
 cases l with
 | nil=>ext iP h
 | cons _ _=>rfl
inductive xt9 (t:Adr) (vs:af) (H:Hp) (Q:VK) (_:XK):Prop
 | mk (a dp do_:Addr) (w h:Nat) (ps:ao) (ss srt:ai) (c:Int) (e_:vs=(nN bq c)) (r_:Dr t H a dp do_ w h ps ss srt/\jV/\zig)
theorem xa8.app {H:Hp}{ss s2:ai}{rs r2:aw} (h:zeL) (k:xa8 H s2 r2):xa8 H (ss++s2) (rs++r2):=by
 induction h with
 | nil=>exact k
 | cons h _ ih=>ext F1
theorem ok_bk (T:aL):FnOk true P w K mg base aH 2 t.f_bk t.d_bk ["_law_picture_here", "_law_cell_here"] (xt9 t):=by
 refine T.F_bk.okn (k:=1) sc_bk (aM h) (fun cdv A outer s H vs Q E hr h=>?_)
 .obtain ⟨a,dp,do_,w',h',ps,ss,srt,c,rfl,_⟩:=h;rfl
 .obtain ⟨a,dp,do_,w',h',ps,ss,srt,c,rfl,h⟩:=h;refine⟨_,xh (pS 2 sc_bk.nd (xb2 (xg)))
   (xh (xbe ZF rfl (xj0 rfl T.n_range (hZ (xo) Ck)) (xg8 (i:=3) sc_bk.nd rfl (Qb rfl)) (oP (xev Jp PySem.F.slot_list_extend PySem.F.type_list_extend xoj gW (xa (xa6 rfl (xay (zs:=["_law_side"]) (ys:=["_law_row", "_law_picture_here"]) (fr:=[3,0]) (N0:=zgj) (sc0:=xm s_bk) aK rfl rfl rfl) zpk jY jR (zjO (xah p8) (xal gW T.c_a T.m_n Gm aC T.b_n .nil xq)) (pA p8)) (xg)))))
   (xh (pS 4 sc_bk.nd (xal aQ T.c_a T.m_n Gm aC T.b_n .nil xq))
   (xh (jC (PW.pt (xc9 (RE 4) (xcv (PW.pt (xei (HX bT) (xdh (on (xwa (xbg hr)) 2 (xb2 (xg))))))))) (db (xv xey (xah (xa (xa4) (xg))) (i0 4 (wm bT (mG 4))))))
   (db (xv xey (xah (xa (xa4) (xg))) (i0 2 (wm bT (mG 2)))))))),?_⟩
  refine sq5 ?_; intros; ext oR dr h16;obtain⟨⟨dx,hp⟩,_,w1,w2,h1,h2,_⟩:=Tu;show(av,s32,Id,GP,h7 WG ls hls);generalize eu:sv H ls=H1;ext sy; ext Ej s1 hls g1 hp1 iG;refine⟨a,_,_,_,_,rfl,mU hp1 T.n_bq lkH (uP,1,gQ+1,HG,?_)⟩;have keep:∀{H2:Hp},zjS->ua:=(fG,k,b,u,k _ _ (xi e hls) kH)
  show(zpt,∃(sh:ai) (rs:aw) (v3:cc),bM Z [dN,wR,aB ls,v3,none] zjS (ay,rH ls zsr,xa8 H2 sh rs,(∀ s∈sh,1<=eB/\eB<=gQ/\s∉srt),sh.length<=2*j,0<j->srt=[]->sh≠[]))
  show(OW,⟨106,[],[],_,rfl,fun b u _ e=>e,g1,.nil,h8 (nomatch hs),⟨iQ,(aj,absurd z au)⟩⟩)
  .rintro j Z H2 hj (⟨sh,rs,v3,rfl,k2,hl2,sl2,ok2,⟨le2,ne2⟩⟩:106);have hj':uB<gQ:=aa
   show(ah,s02,keep k2,rl2,sl2.len);show(d9,vA hl2,cR,aq e0 he0);show(Hc,fw H2 e0 [.str "left",R1],he0);refine iw e0 g3 l4 hl4;ext O8;refine xcy (xs:=[.str "left",R1]) (aW g3) au hl4 (fun i=>((sO[i]?).map fun b=>DX).getD false) (uD,∃ b q,(ba sO b)/\wy/\(mw q (b,jZ))) (fun i y H H' tp ⟨b,q,e0,e1,e2⟩=>(aZ,b,q,e0,e1,iS e2)) (fun i x H4 hx s4 N M hN hM=>?_) (fun ys H4 s4 e4 ly fy=>?_)
   .obtain ⟨b,hb,rfl⟩:∃ b,(ba sO b)/\x=lS:=by
     have:i=0\/i=1:=by
      show(HE,gR hx)
     rcases this with rfl|rfl
     .exact eV true HL
     .exact eV false HL
    ext h9 cR q5 hq5;show(Hb,iJ H4 q5 lS jZ,hq5);show(ah,s05,(Ez).trans s5,dr5,dr.same s05);show(zkl,⟨a,dx,_,rfl,s05 _ _ hp,br,a,dp,do_,_,_,_,_,rfl,dr5.pic,dr5.sts,fun l6 ss6 us6 hl6 sl6 pm6 lt6=>?_⟩);show(AE,upd H5 l6 (.lst (us6.map V.ref)),hl6);refine⟨1,2,xb8 (b,jZ),ss6.map xb8,xea (s:=(b,jZ)) (dL g5),(tV,(zpd).dv g6,T6)⟩
    .rw [cp,xf6] at y;show(dI,cR,fun u hu=>hN _ _ ((EJ).trans (bP hu)) (aA hb y) (kL b u hb xk))
    .rw [cp,xf6] at y;exact hM _ EJ (PJ hb y)
   have fi:=xe0 (fun b:Bool=>DX) (as:=sO) (p:=fun i=>((sO[i]?).map fun b=>DX).getD false) Hw;obtain⟨r4,rfl,sl4⟩:62:=xa8.pick (H:=H4) (ss:=((sO).filter fun b=>DX).map fun b=>(b,jZ)) (ys:=ys) (qi ly Za fi.1) (fun m y s hy hs=>by
    have hm:m<((Zu (sO).length).filter fun i=>((sO[i]?).map fun b=>DX).getD false).length:=by
     ext Ia zD ly
    obtain⟨b,q,hb,rfl,hq⟩:83:=fy m y _ hy (Zb hm);rw[fi.2 m _ (Zb hm)] at hb;ext zfE hb;ext se q hq)
   show(ah,r4l,sl4.len,f2,ZY (fun b:Bool=>DX) sO);rw[Za] at r4l;have l2:(sO).length=2:=rfl;show(d8,hl4',cO (dS hl2),(Aw,ls,l4,_,_,cA rfl hl4' e4 ?_ ?_))
   .rw [Za,Za];exact JS (xb7 aa)
   rw[<- Zt];have tL:Tups H4 (upd H4 ls (.lst ((rs++r4).map V.ref))):=fun b xs e=>by
    show(aD,rJ e hl4',e)
   refine⟨106,sh++_,rs++r4,_,rfl,tK (cS,nb,cO (dS (k2 _ _ nb e))),xk,((sl2.keep (Same.tups (s3.trans s4))).app sl4).keep tL,K1,⟨?_,fun _ e=>?_⟩⟩
   .rcases Zv.mp hs with y|y
    .exact ok2 s y
    .show(fj,b,hb,rfl,Zf.mp y);have:=(Zz.mp hb).2;show(aE,by show 1<=jZ; omega,EU jZ gQ,by ext ET)
   .rw [Zr,Za];omega
   .rw [e];simp
  .rintro Z H2 (⟨sh,rs,v3,rfl,k2,hl2,sl2,ok2,⟨le2,ne2⟩⟩:106);have s02:=keep k2;show(ah,dr2,dr.same s02,rl2,sl2.len);show(zpv,⟨a,dx,_,rfl,s02 _ _ hp,br,a,dp,do_,_,_,_,_,rfl,dr2.pic,dr2.sts,fun l4 ss4 us4 hl4 sl4 pm4 lt4=>?_⟩); show(yH,ss4,pm4.trans dr.pm.symm,lt4,dr.lt);have ul4:=sl4.len;show(DE,upd H2 l4 (.lst (us4.map V.ref)),hl4);show(ah,sl4,sl4.keep (Same.tups s4),sl2,sl2.keep (Same.tups s4));show(ah,hl2,cO hl2,s04,s02.trans s4);ext Ll e5 he5;ext VZ H4;show(ah,g5,ug_e eu,s05,s04.trans s5);refine⟨2,1,.lst (ss4.map xb8),Mz,(zoZ).dv Cs,(tV,Oz g5,Cv)⟩;have ed:(! dEq (.lst (ss4.map xb8)) (.lst []))=! ss4.isEmpty:=SD ss4
   have bar:ss4≠[]->∀{H6:Hp},Same H5 H6->∃(j:Nat) (u:Addr) (b:Bool) (r:Int),(ay,cC us4 u,atI (us4.map V.ref) (c / 3 % (zh zdr))=(aB u),0<(zh zdr),zrL,jy∈ss):=fun ne H6 s6=>by
    have un:zdr≠[]:=fun z=>ne (QN.mp (by
     ext zly ul4))
    obtain⟨j,v,gj,a1,a2,a3,a4⟩:85:=xgb (c / 3) un;show(zjK,sl4.get hu);exact⟨125,j,u,b,r,hu,a3,a4,dL (cB hsq),dr.pm.mem_iff.mp (Zk hs)⟩
   have unb:sh≠[]->∀{H6:Hp},Same H5 H6->∃(j:Nat) (u:Addr) (b:Bool) (r:Int),(cC rs u)/\atI (rs.map V.ref) (c / 3 % (zh II))=(aB u)/\(ay,0<(zh II),zrL,1<=r,r<=gQ,LZ):=fun ne H6 s6=>by
    have un:II≠[]:=fun z=>ne (QN.mp (by
     ext zly rl2))
    obtain⟨j,v,gj,a1,a2,a3,a4⟩:85:=xgb (c / 3) un;show(zjK,sl2.get hu);show(jb,o1,o2,o3,ok2 _ (Zk hs));exact⟨126,j,u,b,r,hu,a3,a4,dL (cB hsq),o1,⟨o2,fun m=>o3 (dr.pm.mem_iff.mpr m)⟩⟩
   by_cases ce:ss4=[]
   .refine ifN (d7 ed ce) ?_;ext OI;show(AE,fA H5 q6 [.str "unbar"],hq6);obtain⟨j,u,b,r,hu,at_,lp,hsq,o1,⟨o2,o3⟩⟩:126:=unb (ne2 aa ce) s6;show(LP,⟨84,ls,_,rfl,gM (dL Uv),lp,⟨ls,_,_,.ref u,rfl,rfl,aW (dL Uv),at_,q6,u,_,_,rfl,rfl,cm g6,Ux,ap,tG,G9,O3⟩⟩,q _ q7 _ ((Ey).trans (bP hq7)) xk zpf)
   .show(cK,e1,(! ss4.isEmpty)=true,(eS,xo5 ce),ifP (ed.trans e1) ?_);by_cases c3:c % 3=0
    .refine (EF,3,zan (xH V.int c3));ext OI;show(AE,fA H5 q6 [.str "bar"],hq6);obtain⟨j,u,b,r,hu,at_,lp,hsq,hm⟩:125:=bar ce s6;show(LP,⟨84,l4,_,rfl,gM (dL Cs),lp,⟨l4,_,_,.ref u,rfl,rfl,aW (dL Cs),at_,q6,u,_,_,rfl,rfl,cm g6,Ux,ap,tG,G9,O3⟩⟩,q _ q7 _ ((Ey).trans (bP hq7)) xk (xch.bar b r hm))
    .refine (EF,3,DR (aj,c3 (V.int.inj z)) ?_);ext Ll e8 he8;generalize eu:sv H5 e8=H8;ext uj s8 he8;show(ah,g8,ug_e eu,s58,s5.trans s8);refine⟨2,1,.lst (sh.map xb8),Mz,(sl2.keep (Same.tups s58)).dv (uN hl2),(tV,Oz g8,Cv)⟩;have es:dEq (.lst (sh.map xb8)) (.lst [])=sh.isEmpty:=SD sh
     by_cases cs:sh=[]
     .refine ifP (d7 es cs) ?_;ext OI;show(zgJ,"bar");obtain⟨j,u,b,r,hu,at_,lp,hsq,hm⟩:125:=bar ce s86;show(LP,⟨84,l4,_,rfl,gM (s86 _ _ Cs),lp,⟨l4,_,_,.ref u,rfl,rfl,aW (s86 _ _ Cs),at_,q6,u,_,_,rfl,rfl,cm g6,Ux,ap,tG,G9,O3⟩⟩,q _ q7 _ ((s05.trans s86).trans (bP hq7)) xk (xch.bar b r hm))
     .refine ifN (bR,es,xo5 cs) ?_;ext OI;show(zgJ,"unbar");obtain⟨j,u,b,r,hu,at_,lp,hsq,o1,⟨o2,o3⟩⟩:126:=unb cs s86;show(LP,⟨84,ls,_,rfl,gM (s86 _ _ Uv),lp,⟨ls,_,_,.ref u,rfl,rfl,aW (s86 _ _ Uv),at_,q6,u,_,_,rfl,rfl,cm g6,Ux,ap,tG,G9,O3⟩⟩,q _ q7 _ ((s05.trans s86).trans (bP hq7)) xk zpf)
theorem xox {α β:Type}{f:α->β}{l:aP} (nd:zbZ) {p q:α} (hp:p∈l) (hq:q∈l) (e:f p=f q):p=q:=by
 induction l with
 | nil=>exact nomatch hp
 | cons a r ih =>
  ext vS;rcases FJ with z|z<;>rcases eJ hq with z2|z2
  .rw [z,z2]
  .ext zju
  .ext zkE
  .exact ih gD z z2
theorem xun {α:Type} (f:Uu) (l:aP):(zfq (l.filter f) (l.filter fun a=>! f a))=l.length:=by
 induction l with
 | nil=>rfl
 | cons a r ih =>
  cases e:f a with
  | true =>
   rw[ZT e,ZU (b6 e),Z6,Z6];omega
  | false =>
   rw[ZU (b6 e),ZT (b6 e),Z6,Z6];omega
theorem xva:∀ c∈abc.cps.toList,(og ST):=aK
theorem xtv:abc.cps.toList.Nodup:=aK
theorem xqp {nms:am}:26<=(zpb zbk).length+nms.length:=by
 have z:=xun (me zbk) abc.cps.toList;have l26:abc.cps.toList.length=26:=aK
 have nd:((zpb,! zbk).map fun c=>S4 c).Nodup:=by
  rw[JH,ZZ];exact (tJ xtv).imp fun ne e=>ne (by
   have:=congrArg zoK e;exact List.head_eq_of_cons_eq this)
 have le:=nd.length_le_of_subset (l₂:=nms) fun s hs=>by
  ext dW c hc hs;simpa using (Zz.mp hc).2
 rw[Za] at le;omega
theorem xt6 {nm:Str} (h:Co):nm≠"":=fun e=>by
 rw[e] at h;ext bZ h aK
theorem xv9 (m:Int):(zhj,V.str "right",zel):=by
 show(Xn,4);have:xD=0\/xD=1\/xD=2\/xD=3:=aa
 rcases this with e|e|e|e<;>rw[e]
 .exact eV "left" fO
 .ext zoN
 .ext ND
 .ext ND
inductive xtj (t:Adr) (vs:af) (H:Hp) (Q:VK) (_:XK):Prop
 | mk (a dp do_:Addr) (w h:Nat) (ps:ao) (ss srt:ai) (c:Int) (e_:(wY,bq,.int c,6)) (r_:(ay,Dr t H a dp do_ w h ps ss srt,mC,kM,jV,zig))
theorem ok_a4 (T:aL):FnOk true P w K mg base aH 3 t.f_a4 t.d_a4 U4 (xtj t):=by
 refine T.F_a4.okn (k:=2) sc_a4 (aM h) (fun cdv A outer s H vs Q E hr h=>?_)
 .obtain ⟨a,dp,do_,w',h',ps,ss,srt,c,rfl,_⟩:=h;rfl
 .obtain ⟨a,dp,do_,w',h',ps,ss,srt,c,rfl,h⟩:=h;refine⟨_,xh (ve 3 sc_a4.nd (xa6 rfl (xay (zs:=["_law_row"]) (ys:=[]) (fr:=[]) (N0:=["_law_picture_here", "_law_cell_here", "_law_most", "_law_names_here", "_law_number", "_law_name", "_law_columns", "_law_rows", "_law_low", "_law_high", "_law_sides", "_law_x"]) (sc0:=xm s_a4) aK rfl rfl rfl) (xaj (xal aQ T.c_a T.m_h CV aC T.b_h .nil xq)) jY jR eC zaW))
   (xh (pS 4 sc_a4.nd (pC (ok_bg T) hr T.g_bg T.F_bg.kp T.b_bg (hZ (wL bT) (xo))))
   (xh ((by (with_reducible refine' xcd ?m38); (case m38=>((with_reducible refine' xar ?c1 ?a2 ?b3); (case c1=>exact PW.pt (xc9 (xac xf8 (oH bT) (xo) gC) (xcv (xac xf8 (mG 3) gW gC)))); (case a2=>((with_reducible refine' xh ?a4 ?b5); (case a4=>((show(Lk,5,(xaf xa1 (xa6 rfl (xay (zs:=["_law_letter"]) (ys:=["_law_names_here"]) (fr:=[3]) (N0:=["_law_picture_here", "_law_cell_here", "_law_most", "_law_names_here", "_law_number", "_law_name", "_law_columns", "_law_rows", "_law_low", "_law_high", "_law_sides", "_law_x"]) (sc0:=xm s_a4) aK rfl rfl rfl) (xwb (xa4)) jY jR (HY (xac (r:=rInV K true) (xgo (xbg hr)) aQ bT jr)) vk) (oH df) gK))))); (case b5=>((with_reducible refine' xh ?a6 ?b7); (case a6=>((exact xb5 (pC (ok_a8 T) hr T.g_a8 T.F_a8.kp T.b_a8 (ja 0 (xa4))) (xav rfl zna)))); (case b7=>((with_reducible refine' xl ?c8); (case c8=>((with_reducible refine' xcd ?m37); (case m37=>((with_reducible refine' xar ?c9 ?a10 ?b11); (case c9=>exact PW.pt (xc9 (RE 6) (xcv (RE 7)))); (case a10=>((with_reducible refine' xh ?a12 ?b13); (case a12=>((show(Lk,8,xv xba (xo) (wm df bo))))); (case b13=>((with_reducible refine' xh ?a14 ?b15); (case a14=>((show(Lk,9,xv xba (pv 8) (wm df (jD xd7 Ck 8)))))); (case b15=>((with_reducible refine' xh ?a16 ?b17); (case a16=>((show(Lk,10,xaf xa1 zkh (oH (wL df)) gK)))); (case b17=>((with_reducible refine' xh ?a18 ?b19); (case a18=>((show(Lk,11,i0 6 (wm df (mG 6)))))); (case b19=>((with_reducible refine' xl ?c20); (case c20=>((with_reducible refine' xz ?e21); (case e21=>((with_reducible refine' xah ?p22); (case p22=>((with_reducible show(zN,?e23,?q24)); (case e23=>((exact xa4))); (case q24=>((with_reducible show(zN,?e25,?q26)); (case e25=>((exact pv 5))); (case q26=>((with_reducible show(zN,?e27,?q28)); (case e27=>((exact pv 11))); (case q28=>((with_reducible show(zN,?e29,?q30)); (case e29=>((exact i0 7 (wm df (mG 7))))); (case q30=>((with_reducible show(zN,?e31,?q32)); (case e31=>((exact pv 10))); (case q32=>((with_reducible show(zN,?e33,?q34)); (case e33=>((exact pv 8))); (case q34=>((with_reducible show(zN,?e35,?q36)); (case e35=>((exact pv 9))); (case q36=>((exact xg))))))))))))))))))))))))))))))); (case b11=>((exact xad))))))))))))); (case b3=>((exact xad)))))))
   (xh (zkK (sW (hZ (xa4) znF)))
   (xh (xcd (xar (PW.pt (xc9 (xac xb0 (xv xa3 (pv 1) (xo)) (xo) (xag _)) (xcv (xac (xcu (xbg hr)) (pv 3) (xb2 (xg)) (xag _))))) (xh (pS 5 sc_a4.nd znF)
   (xh (E9 (pC (ok_a8 T) hr T.g_a8 T.F_a8.kp T.b_a8 (fC 0 5)) zna)
   (sW (xa (xa4) (qw 5 (i0 6 (wm df (mG 6))) (i0 7 (wm df (mG 7)))))))) (xad)))
   (db (pC (ok_bk T) hr T.g_bk T.F_bk.kp T.b_bk (fC 0 4))))))),?_⟩
  refine sq6 ?_; intros; obtain⟨dr,pok,w30,h16,q⟩:45:=h;obtain⟨⟨dx,hp⟩,_,w1,w2,h1,h2,_⟩:=Tu;show(cG,BIG,Nu,RZ,p12,pok.le);show(lY,nl,(dQ).length,ps.length,zsv,⟨a,dx,_,rfl,hp,br,a,dp,do_,_,_,ps,rfl,dr.pic,fun H1 l1 qs1 s1 e1 pt1=>OO⟩);have pl1:=pt1.len;refine xbf Mh qM hl2 W7 nS (fun i x H2 hx s2 N hN=>?_) (fun ys H2 s2 e2 ly fy=>?_)
  .ext zib
  have ey:ys=(dQ).map V.str:=by
   show(uY,(by rw[ly,Za,pl1,nl]));ext zkq
  subst ey;show(Hh,(Au,fK,c / 8,1,aI nb nb0 nb1))
  show(Vy,[dN,wR,bH 6,aB l2,bH nb,v5,v6,v7,v8,v9,v10,v11])
  .ext pE; show(bw,(mW,j7 8,_,GU c1 i6),(fP,l2,gM e2,(cN,GU c2 i6)));ext PZ; ext zfi c2;ext j5 nl c2;show(jo,(gB,abc,aK,aq l3 hl3),xo3 aK hl3 (fun i=>((abc.cps.toList[i]?).map fun ch=>zbj).getD false) (wA,∃ ch,(ba abc.cps.toList ch)/\y=.str Sr/\(S4 ch)∉dQ) nS (fun i ch H3 hc s3 N M hN hM=>?_) (fun ys3 H3 s3 e3 ly3 fy3=>?_))
   .refine ⟨0,1,.str Sr,_,.str,(tV,xcm (dS e2),T6)⟩
    .rw [cp,xo0] at y;exact (hN _ _ i6 (aA hc y) (bL,ch,hc,rfl,by simpa using y))
    .rw [cp,xo0] at y;exact hM _ i6 (PJ hc y)
   have y14:14<=ys3.length:=by
    have fi:=xe0 (fun ch=>zbj) (as:=abc.cps.toList) (p:=fun i=>((abc.cps.toList[i]?).map fun ch=>zbj).getD false) Hw;have:=xqp (nms:=dQ);rw[ly3,fi.1];omega
   have mb:=xbd nb (sP,m7<14);obtain⟨j,hj⟩:=Jy mb.1;show(cG,jl,j<ys3.length,aa,gj,Zb jl);show(bF,ch,hch,ev,nin,fy3 j _ _ gj (Zb (cY ly3 jl)));have at3:atI ys3 (nb % 14)=(fM Sr):=by
    rw[hj];exact xb9 (bR gj ev)
   have isn:=xva ch (Zk hch);obtain⟨nm,enm⟩:∃ nm:Str,nm=Sr:=eR
   rw[<- enm] at at3 isn nin;refine⟨(j7 14),l3,_,_,mS,rfl,rfl,aW e3,at3,?_⟩;have s03:=s02.trans s3;refine⟨a,dp,do_,w',h',ps, "",rfl,Pic.same s03 dr.pic,pok,fun H4 tp lc lr cs rs s4 htp hlc hlr lf1 lf2=>Sf⟩;have s24:=s3.trans s4;refine(cI,?_,mQ z);ext pE; ext Ll e5 he5;show(Hb,sv H4 e5,he5);show(bw,(Vt,xg6 (cB hlc),s24.trans s5),h7 (iN leS0) e6 he6);generalize eu:sv H5 e6=H6;ext uj s6 he6;show(ah,g6,ug_e eu,s46,s5.trans s6);refine⟨1,1,_,Mz,xg6 (s46 _ _ hlr),(tV,Oz g6,cN (GU,c4,s24.trans s46))⟩;refine sq5 ?_; intros; show(kJ,cn,cs,[],by rw[z] at c3; ext bZ c3 au)
   show(kJ,rn,rs,[],by rw[z] at c4; ext bZ c4 au)
   show(ah,s06,(Ez).trans s46,hp6,s06 _ _ hp);refine⟨fK,a,_,_,_,_,rfl,hp6,T.c_a,T.n_bq,lkH,(vV 0 gQ),?_⟩;have bl:=xbd (nb / 2800) (fh,0<gQ);obtain⟨lo,elo⟩:∃ lo,lo=1+nb / 2800 % gQ:=eR
   dsimp only [rI0,iV]
   rw[<- elo];ext zpD; refine⟨fK,a,_,_,_,_,rfl,hp6,T.c_a,T.n_bq,lkH,(vV,0,gQ+1-lo),?_⟩;have bh:=xbd (nb / 50000) (fh,0<gQ+1-lo);obtain⟨hi,ehi⟩:∃ hi,hi=lo+nb / 50000 % (gQ+1-lo):=eR
   dsimp only [rI0,iV]
   rw[<- ehi];show(ag,sd,esd,hsd,xv9 (nb / 700));show(h9,iN leS4,q7,hq7);show(zar,fw H6 q7 [.str "left",R1,Su,Su],hq7);refine⟨fK,(j7 4),q7,_,_,zJ,rfl,rfl,aW g7,esd,?_⟩;have s47:=s46.trans s7;obtain⟨j1,v1,gj1,_,_,at1,lp1⟩:85:=ziX 14;ext EN gj1 x hx;obtain⟨j2,v2,gj2,_,_,at2,lp2⟩:85:=ziY 420;ext EN gj2 y hy;obtain⟨⟨x1,x2⟩,nox⟩:=(lf1.2 x).mp (Zk hx);obtain⟨⟨y1,y2⟩,noy⟩:=(lf2.2 y).mp (Zk hy);show(ah,hlc7,s47 _ _ hlc,hlr7,s47 _ _ hlr);show(bw,⟨fK,⟨84,lc,_,rfl,gM hlc7,lp1,⟨lc,_,_,qy,rfl,rfl,aW hlc7,at1,?_⟩⟩⟩,⟨fK,⟨84,lr,_,rfl,gM hlr7,lp2,⟨lr,_,_,rR,rfl,rfl,aW hlr7,at2,(iN leS7),aq tp7 htp7⟩⟩⟩);refine q _ tp7 _ ((s06.trans s7).trans (bP htp7)) xk (xch.come nm x y sd lo hi ⟨isn,x1,x2,y1,y2,hsd,by show 1<=lo; omega,EU lo hi,EU hi gQ⟩ SV aa);have ne:=xt6 (pok.ok p hp').nm;show(aE,fun e=>nin (Zf.mpr ⟨p,hp',e⟩),nox p hp' ne,noy p hp' ne)
  rintro _ H3 (⟨v5,v6,v7,v8,⟨v9,v10,v11,s3,rfl⟩⟩:121);have name:ps≠[]->∃ pt∈ps,atI ((dQ).map V.str) (nb % (zh ((dQ).map V.str)))=(fM pt.nm)/\0<(zh ((dQ).map V.str)):=fun ne=>by
   obtain⟨j,v,gj,_,_,at_,lp⟩:85:=xgb nb (xs:=(dQ).map V.str) (fun z=>ne (by
    have:=uO z;ext j5 nl this;exact QN.mp this))
   ext EN gj z hz;show(gU,pt,hpt,Zf.mp (Zk hz));ext gG pt hpt at_ lp
  have nem:(! dEq (.lst ((dQ).map DV.str)) (.lst []))=true->ps≠[]:=fun k z=>by
   rw[z] at k;ext bZ k au
  show(Vy,[dN,wR,bH 6,aB l2,bH nb,v5,v6,v7,v8,v9,v10,v11])
  .ext zjq s3;ext VZ H3;show(ah,g5,ug_e eu,s25,s3.trans s5);refine(Vt,xcm SM,s25);ext znS;refine⟨84,l2,_,rfl,gM SM,lp,⟨l2,_,_,gc,rfl,rfl,aW (s25 _ _ e2),at_,cR,aq tp htp⟩⟩;exact q _ tp _ ((s02.trans s25).trans (bP htp)) xk (xch.go pt hpt)
  clear v5 v6 v7 v8 v9 v10 v11;rintro _ H4 (⟨v5,v6,v7,v8,⟨v9,v10,v11,s4,rfl⟩⟩:121)
  show(Vy,[dN,wR,bH 6,aB l2,bH nb,v5,v6,v7,v8,v9,v10,v11])
  .ext zjq s4;ext VZ H4;show(ah,g5,ug_e eu,s25,s4.trans s5);refine(Vt,xcm SM,s25);ext PZ; ext znS;show(d8,po,pok.ok pt hpt,⟨84,l2,_,rfl,gM SM,lp,⟨l2,_,_,gc,rfl,rfl,aW (s25 _ _ e2),at_,?_⟩⟩);have s05:=s02.trans s25;refine⟨a,dp,do_,w',h',ps,pt.nm,rfl,Pic.same s05 dr.pic,pok,fun H6 tp lc lr cs rs s6 htp hlc hlr lf1 lf2=>Sf⟩;have cn:cs≠[]:=List.ne_nil_of_mem ((lf1.2 pt.x).mpr ⟨⟨po.x1,po.x2⟩,zme pok.nx⟩);have rn:rs≠[]:=List.ne_nil_of_mem ((lf2.2 pt.y).mpr ⟨⟨po.y1,po.y2⟩,zme pok.ny⟩);obtain⟨j1,v1,gj1,_,_,at1,lp1⟩:85:=ziX 12;ext EN gj1 x hx;obtain⟨j2,v2,gj2,_,_,at2,lp2⟩:85:=ziY 360;ext EN gj2 y hy;obtain⟨⟨x1,x2⟩,nox⟩:=(lf1.2 x).mp (Zk hx);obtain⟨⟨y1,y2⟩,noy⟩:=(lf2.2 y).mp (Zk hy);show(LP,⟨84,lc,_,rfl,gM hlc,lp1,⟨lc,_,_,qy,rfl,rfl,aW hlc,at1,fK,lr,_,rfl,gM hlr,lp2,lr,_,_,rR,rfl,rfl,aW hlr,at2,(iN leS4),aq tp7 htp7⟩⟩,q _ tp7 _ ((Ey).trans (bP htp7)) xk (xch.shift pt x y hpt x1 x2 y1 y2 fun p hp' ne=>⟨nox p hp' ne,noy p hp' ne⟩))
  clear v5 v6 v7 v8 v9 v10 v11;rintro _ H5 (⟨v5,v6,v7,v8,⟨v9,v10,v11,s5,rfl⟩⟩:121);have s05:=s02.trans s5;exact⟨a,dp,do_,w',h',ps,ss,srt,nb,rfl,sj s05,h16,fun H6 tp xs s6 htp dt=>q _ tp xs Ey htp dt⟩
theorem xjz {w:Int}{ss:ai}:∀{prs:aF},(∀(i j:Nat) (p q:Pr),(bb,j<i,pU,cC prs q,canO w ss q p=none))->(Gu prs)=[]
 | [],_=>rfl
 | oS,h=>by
  show zoQ=[]
  rw[xjz (prs:=r) fun i j a b l ha hb=>h aX gH a b aa ha hb,YV];refine List.filterMap_eq_nil_iff.mpr (aq a ha);obtain⟨i,hi⟩:=Wj ha;rw[h aX 0 a p aa hi rfl];rfl
theorem xrf {l m:iz} (h:Geo.meet l m=none):Geo.meet m l=none:=Geo.meet_no fun c hc hl=>by
 have z:=JA.mp h c hl;simp at z;exact z hc
inductive xrk (t:Adr) (vs:af) (H:Hp) (Q:VK) (_:XK):Prop
 | mk (a d lp dp do_:Addr) (w h:Nat) (ps:ao) (s0 ss srt:ai) (prs:aF) (qs:aw) (e_:vs=[bq,ju,.ref lp]) (r_:(ay,Dr t H a dp do_ w h ps s0 srt,mC,LwD H d dQ hW,Kz,ay kX qR (AH kI ib) EH (WE (z6->zcr=[]))))
inductive xud (t:Adr) (vs:af) (H:Hp) (Q:VK) (_:XK):Prop
 | mk (hd pa dp do_ lg lb:Addr) (w h:Nat) (ps:ao) (ss srt:ai) (prs:aF) (qs:aw) (e_:vs=(j4 FT lb)) (r_:HnO t H hd pa dp do_ lg w h ps ss srt/\(ay (aT lb jI) kX qR WH (WE (z6->xd9 w h ps ss srt AL))))
theorem ok_bc (T:aL):FnOk true P w K mg base aH 8 t.f_bc t.d_bc UZ (xrk t):=by
 refine T.F_bc.okn (k:=7) sc_bc (aM h) (fun cdv A outer s H vs Q E hr h=>?_)
 .obtain ⟨a,d,lp,dp,do_,w',h',ps,s0,ss,srt,prs,qs,rfl,_⟩:=h;rfl
 .obtain ⟨a,d,lp,dp,do_,w',h',ps,s0,ss,srt,prs,qs,rfl,h⟩:=h;refine⟨_,xh (xbe ZF rfl (xdt rfl T.n_range (xa (mG 2) (xg))) (pN 3 sc_bc.nd) (xl (xbe ZF rfl (xdt rfl T.n_range (fD 3)) (pN 4 sc_bc.nd) (xh (pS 5 sc_bc.nd (xah (hZ zcH zcH)))
   (xh (pS 6 sc_bc.nd (xah (hZ zcI zcI)))
   (lu (PW.pt (xc9 (xcj (xel fU uR (yO 1 zcI))) (xcv (xcj (xel fU nI (yO 1 zcH)))))) (lu (xac xf0 (pC (xii T) hr T.g_meeting T.F_meeting.kp T.b_meeting (qw 0 (i0 2 fZ) (i0 2 df))) (xc0) gC) qh)))))))
   qh,?_⟩
  refine sq2 ?_; intros; refine fq ?_; intros; obtain⟨dr,pok,lw,hlp,pl,l12,⟨ok,pm,q⟩⟩:47:=h;show(d8,ql,pl.len,(fP,lp,gM hlp,zqL))
  show(Nn,∃ v3 v4 v5 v6:cc,(bM,Z,[dN,qv,aB lp,v3,v4,v5,v6],ua,∀(k j:Nat) (p q:Pr),(bg,j<k,k<i,RN,cC prs q,canO gz ss q p=none)))
  show(OW,⟨123,_,_,_,_,rfl,i6,fun _ _ _ _ _ z=>zbR⟩)
  .rintro k Z H2 hk (⟨v3,v4,v5,v6,rfl,s2,al⟩:123);ext zqu; have hk':k<prs.length:=by
    ext HE hk
   have hqk:eY qs k (qs[k]' aa):=Df;show(ag,Pk,hPk,ePk,pl.get hqk);obtain⟨ok1,ok2⟩:(np,0+jq,1000):=aa
   have okk:=ok Pk (Zk hPk);generalize qs[k]' aa=oK at hqk ePk;have atk:atI (qs.map V.ref) (0+jq)=(aB oK):=by
    ext Pb hqk
   refine fb 64 rfl aa aa ?_
   show(Nn,∃ v4 v5 v6:cc,(bM,Z,[dN,qv,aB lp,bH (0+jq),v4,v5,v6],ua,∀(j:Nat) (q:Pr),j<i->(cC prs q)->zpx))
   show(OW,⟨103,_,_,_,rfl,s2,mQ zbR⟩)
   .rintro j Z H3 hj (⟨v4,v5,v6,rfl,s3,al3⟩:103);refine gn ?_; refine sq3 ?_; intros; have hj':j<k:=by
     ext HE hj
    have hqj:cC qs (qs[j]' aa):=Df;show(ag,Pj,hPj,ePj,pl.get hqj);have okj:=ok Pj (Zk hPj);generalize qs[j]' aa=oJ at hqj ePj;have atj:atI (qs.map V.ref) (0+uB)=(aB oJ):=by
     ext Pb hqj
    show(ah,mj,ZC okj.fd,mk,ZC okk.fd);have nxt:canO gz ss Pj Pk=none->∀(i:Nat) (q:Pr),i<gH->(ba prs q)->zpx:=fun e i q hi hq=>by
     rcases Yp i j with z|z
     .exact al3 i q z hq
     .show(ii,i=j,aa)
      ext bG hPj hq hq;exact e
    have exb:zqK->Pk.2∈xax mB (iu Pj)/\Pj.2∈xax mB (iu Pk):=fun e=>by
     unfold excB mayB at e;simp only[Z7,decide_eq_true_iff] at e;show(aO,(xdo pok.nn mj).mpr ⟨pm.mem_iff.mpr e.1.1,e.1.2⟩,(xdo pok.nn mk).mpr ⟨pm.mem_iff.mpr CZ,b8 e⟩)
    have noc:¬ zqK->canO gz ss Pj Pk=none:=fun n=>by
     unfold canO;rw[az n]
    have hl3:=dS hlp;show(w8,e1,dS ePk,e2,dS ePj,zdd hl3 ⟨oK,_,1,_,rfl,rfl,cm e1,rfl,lp,_,_,.ref oK,rfl,rfl,aW hl3,atk,oK,_,2,_,rfl,rfl,cm e1,rfl,cR,aq q4 hq4⟩);show(DE,(iJ,H3,q4,tU (bc Pk),b8 Pk),hq4);show(w8,hl4,cO hl3,f2,cO e2,(ES,lp,.ref oJ,hl4,atj,⟨oJ,_,1,_,rfl,rfl,cm f2,rfl,lp,_,_,.ref oJ,rfl,rfl,aW hl4,atj,oJ,_,2,_,rfl,rfl,cm f2,rfl,cR,zfm⟩));generalize eu:(iJ,H4,q5,tU (bc Pj),b8 Pj)=H5;ext WP; ext uj s5 hq5;show(ah,g5,ug_e eu,s35,s4.trans s5);show(ah,s05,s3.trans s35,hl5,cB hl4);show(ah,b1,s35 _ _ e1,b2,s35 _ _ e2);have gk:(ae,H5 q4,tT Pk.2):=Cs;have gj:(ae,H5 q5,tT Pj.2):=g5;have nj:(iu Pj)∈dQ:=Zf.mpr (cE Pj.1 mj);have nk:(iu Pk)∈dQ:=Zf.mpr (cE Pk.1 mk);show(ag,qd,dg,hqd,(lw.same s05).get nj);show(ag,qe,dh,hqe,(lw.same s05).get nk);show(bw,(ES,lp,.ref oJ,hl5,atj,⟨oJ,_,0,_,rfl,rfl,cm b2,rfl,d,.ref qd,rfl,dg,qd,_,rfl,LnT.get hqd gk,_,rfl,uo c1 (fun c1=>⟨103,_,_,_,rfl,s05,nxt (noc fun e=>c1 (by ext A7 Yq xfc; exact (exb e).1))⟩)⟩),zdd hl5 ⟨oK,_,0,_,rfl,rfl,cm b1,rfl,d,.ref qe,rfl,dh,qe,_,rfl,LnT.get hqe gj,_,rfl,uo c2 (fun c2=>⟨103,_,_,_,rfl,s05,nxt (noc fun e=>c2 (by ext A7 Yq xfc; exact (exb e).2))⟩)⟩);ext pE; refine zdd hl5 ⟨lp,_,_,.ref oJ,rfl,rfl,aW hl5,atj,a,dp,do_,_,_,ps,oK,oJ,iu Pk,iu Pj,Pk.1,Pj.1,bc Pk,bc Pj,b8 Pk,b8 Pj,rfl,(sj s05).pic,b1,b2,cA okk.nm okk.fd okk.r1 okk.r2 okk.xy,cA okj.nm okj.fd okj.r1 okj.r2 okj.xy,bX H6 v s6 mv⟩;rcases mv with⟨em,rfl⟩|⟨c,q6,em,rfl,_⟩
    .refine (je,ifN jr ⟨103,_,_,_,rfl,Ey,nxt ?_⟩);unfold canO;rw[show Geo.meet (cel gz Pj) (cel gz Pk)=none from xrf em,ite_self]
    .exact (je,ifP jr (q _ false Ey dw))
   .rintro Z H3 (⟨v4,v5,v6,rfl,s3,al3⟩:103);refine⟨123,_,_,_,_,rfl,s3,fun i j p q hj hi hp hq=>?_⟩;rcases Yp i k with z|z
    .exact al i j p q hj z hp hq
    .show(ii,i=k,aa)
     ext bG hPk hp hp;exact al3 j q (by simpa using hj) hq
  .rintro Z H2 (⟨v3,v4,v5,v6,rfl,s2,al⟩:123);exact q H2 true s2 fun _=>xjz fun i j p q hj hp hq=>al i j p q hj (by
    have:=gR hp;rw[Za];omega) hp hq
theorem ok_bd (T:aL):FnOk true P w K mg base aH 12 t.f_bd t.d_bd ["_law_hand", "_law_pairs"] (xud t):=by
 refine T.F_bd.okn (k:=11) sc_bd (aM h) (fun cdv A outer s H vs Q E hr h=>?_)
 .obtain ⟨hd,pa,dp,do_,lg,lb,w',h',ps,ss,srt,prs0,qs,rfl,_⟩:=h;rfl
 .obtain ⟨hd,pa,dp,do_,lg,lb,w',h',ps,ss,srt,prs0,qs,rfl,h⟩:=h;refine⟨_,xh (pS 2 sc_bd.nd (xal aQ T.c_au T.m_q (ok_q T) aC T.b_q .nil xq))
   (xh (pS 3 sc_bd.nd (pC (ok_aj T) hr T.g_aj T.F_aj.kp T.b_aj (fD 2)))
   (xh (pS 4 sc_bd.nd (xal aQ T.c_au T.m_av Ml aC T.b_av .nil xq))
   (xh (yW (wK (pC (ok_a5 T) hr T.g_a5 T.F_a5.kp T.b_a5 (kG 3 4 1))) qh)
   (xh (pS 5 sc_bd.nd (pC (ok_a9 T) hr T.g_a9 T.F_a9.kp T.b_a9 (ja 3 (KK (pC (xib T) hr T.g_least T.F_least.kp T.b_least (fC 2 4))))))
   (Xt (pC (ok_a9 T) hr T.g_a9 T.F_a9.kp T.b_a9 (fC 3 1)) uR (pC (ok_bc T) hr T.g_bc T.F_bc.kp T.b_bc (kG 2 3 1))))))),?_⟩
  refine sq6 ?_; intros; obtain⟨ho_,hlb,pl0,l12,rows,q⟩:46:=h;show(FB,hp,ho_.ins);obtain⟨w30,h16⟩:=ho_.b;show(ah,pok,ho_.pok,dr,ho_.dr);have nnd:(xu ps).Nodup:=pok.nn;have pl:=pl0.now (ps:=ps);have prow:∀ p∈prs0.map (nowP ps),1<=p.2.2/\p.2.2<=(h':Int):=fun p hp=>by
   ext znV
  have pfd:∀ p∈prs0.map (nowP ps),p.1.nm∈xu ps->ps.find? (fun z=>decide (z.nm=p.1.nm))=some p.1:=fun p hp hn=>by
   ext zjC
  have l12:(prs0.map (nowP ps)).length<=12:=by rw[Za]; exact l12
  revert pl prow pfd l12 q;generalize prs0.map (nowP ps)=prs;intro q pl prow pfd l12;show(ah,lo,Nz,lb',fun n x=>lo.b n x);show(bw,⟨hd,dx,_,rfl,hp,gT,hd,pa,dp,do_,lg,w',h',ps,ss,srt,rfl,ho_,fun H1 a1 dp1 do1 s1 f1 f2 f3 dr1=>?_⟩,⟨a1,dp1,do1,w',h',ps,srt,srt,rfl,dr1,pok,fun H2 d s2 _ lw=>?_⟩);show(Hh,⟨hd,dx,_,rfl,s02 _ _ hp,gT,hd,pa,dp,do_,lg,w',h',ps,ss,srt,rfl,ho_.same s02,fun H3 ln cs so ho s3 e3 run=>?_⟩);ext O8;ext X0;have kl:Fi cX:=by
   ext VB
  show(Xu,Same H3 H'/\gvL mB cX prs=true/\σ'=[Cz,Mq,aB a1,qv,lH,none])
  show(fX,Pm,⟨d,ln,lb,dQ,cX,mB,prs,qs,rfl,⟨47,lw.same s3,e3,(dM,qm hx),s03 _ _ hlb,DZ s03,l12,fun H4 s4=>(cN,ite2 (me,q _ false Ez dw) (me,cE s4 jL))⟩⟩);rintro _ H4 (⟨s4,gv,rfl⟩:43);show(jb,g1,g2,g3,xfy.mp gv);have nin:∀ p∈prs,aU∈dQ:=fun p hp=>by
   ext zpM g1
  have ok:AH gz gQ:=fun p hp=>by
   show(zgb,nin p hp)
  show(zhh,(xdo pok.nn (ZC (ok p hp).fd)).mp (g3 p hp))
  show(ah,s04,Ez,s14,(Sq).trans s4);show(ah,dr4,dr1.same s14,lw4,(lw.same s3).same s4);refine⟨a1,ln,dp1,do1,w',h',ps,srt,srt,cX,rfl,⟨47,dr4,pok,Mc,xjm,knd,kl,(VT,fun H5 tp lp2 d_o d_r qs2 prs2 own rent so' ho' s5 htp hlp2 pl2 en2 al ow rn run4 _ _ _ _=>W6)⟩⟩;obtain⟨gp2,my2⟩:=xgx pok dr1.ok dr1.pm en2 knd kl al run4;obtain⟨lf,_,_⟩:43:=run4.fit.leastF lo knd en2 (dX zfo);refine⟨d,lp2,dQ,mB,prs2,qs2,rfl,⟨47,lw4.same s5,hlp2,pl2,gp2.le,lv,lb',aq H6 s6⟩⟩
  .have mp:=ZC (gp2.ok p hp).fd;show(aO,L7 aJ mp,(xdo pok.nn mp).mpr (my2 p hp))
  show(ah,s46,EJ,s06,s04.trans s46);refine⟨d,lb,dQ,mB,prs,qs,rfl,⟨47,lw4.same s46,s06 _ _ hlb,DZ s06,l12,dX ⟨nin p hp,g3 p hp⟩,lb',fun H7 s7=>tZ⟩⟩;show(ah,s07,s06.trans s7,s47,s46.trans s7);show(tR,uo c (me,q _ false s07 dw));have eT:xb6 mB prs=xb6 mB prs2:=V.int.inj (of_decide_eq_true c);rw[<- eT,xfo pok.nn ok my] at lf;exact⟨a1,d,lb,dp1,do1,w',h',ps,srt,ss,srt,prs,qs,rfl,⟨47,dr4.same s47,pok,lw4.same s47,s07 _ _ hlb,DZ s07,l12,⟨ok,dr.pm,fun H8 b s8 cn=>q _ b (s07.trans s8) (aj ⟨106,cs,so,ho,run,g1,gp,my,cn z,lf⟩)⟩⟩⟩
theorem xch.perm {w h:Nat}{ps:ao}{ss s2:ai}{xs:af} (p:s2.Perm ss) (d:xch w h ps s2 xs):yQ xs:=by
 cases d with
 | come nm x y sd lo hi ok no le=>exact .come nm x y sd lo hi ok no le
 | go pt hp=>exact .go pt hp
 | shift pt x y hp x1 x2 y1 y2 no=>exact .shift pt x y hp x1 x2 y1 y2 no
 | unbar b r r1 r2 no=>exact .unbar b r r1 r2 fun m=>no (p.mem_iff.mpr m)
 | bar b r hm=>exact .bar b r (p.mem_iff.mp hm)
theorem xuq (ns:dD):∃ ms:dD,cutV IK (some 5) (some 17)=ms.map V.int/\ms.length<=12:=by
 show(fX,(ns.drop (min 5 ns.length)).take (min 17 ns.length-min 5 ns.length),?_)
 .unfold cutV;simp only[HT.sIx,Za];rw[wF,wF,Yv,Yw];rfl
 .rw [Jn];omega
theorem xpe {ps:ao} (nm:Str) (x y:Int):xu (ps.map EY)=xu ps:=by
 unfold xu;rw[Z8]
 congr 1
 funext p;show (yy).nm=p.nm;ext O9
theorem xua {ps:ao} (ss:ai) (nm:Str) (x y:Int):xas (ps.map EY) ss=xas ps ss:=by
 funext n;unfold xas;have e:(X5).find? (fun p=>dU p.nm n)=(G4 n).map EY:=by
  rw[List.find?_map]
  congr 2
  funext p;show decide ((yy).nm=n)=_;ext O9
 rw[e];cases G4 n with
 | none=>rfl
 | some p =>
  show ss.filter (xa0 yy)=ss.filter (xa0 p)
  congr 1
  funext s;ext O9
noncomputable def okP (room:gu) (ss:ai) (keep:am) (nm:Str):Bool:=(Kp.subs keep.reverse).all fun S=>cP (KD<=zlh)
noncomputable def xgc (room:gu) (ss:ai) (keep:am) (nm:Str):am:=(zpU,okP room ss keep nm)
noncomputable def xhh (room:gu) (ss:ai) (ns:am):am:=ns.foldl (xgc room ss) []
theorem xgh (room:gu) (ss:ai) (ns:am) (nm:Str):xhh room ss kB=xgc room ss (xhh room ss ns) nm:=by
 unfold xhh;rw[Qe];rfl
theorem Run.keeps {room:gu}{ss:ai} (snd:ss.Nodup) (hr:N6) {ns:am}{so:bC}{ho:aG}{cs:dB} (r:vF) (nd:ns.Nodup):xai ns cs=xhh room ss ns:=by
 induction r with
 | nil=>rfl
 | @inn ns so so' ho ho' cs nm r mt dm rc ih =>
  ext zy;have h1:nm∉ns:=(fE,(gD).2 nm h nm yV rfl);have h2:nm∉cs.map (·.1):=(fE,h1 (r.outs.1 nm h));have e1:xai kB cs=KW++[nm]:=by
   unfold xai;rw[JR,ZT (eS,qU h2),List.filter_nil]
  rw[e1,xgh,<- S8];unfold xgc;rw[if_pos];unfold okP;rw[JE];intro S hS;have knd:(KW).reverse.Nodup:=(zss).nodup_iff.mpr (tJ jF);show(ah,sm,(Kp.subs_mem hS).1,snd',Kp.subs_nd knd hS);refine decide_eq_true (Kp.hall mt hr (T:=nm::S) (Z5.mpr ⟨lG,snd'⟩) (aq a ha))
  .have:=Y1.mp (sm nm z);exact h1 (qm this)
  .rw [dm a];rcases eJ ha with rfl|ha
   .simp
   .have k:=Zz.mp (Y1.mp (sm a ha));rw[r.dom jF a,decide_eq_true k.1,k.2];simp
 | @out ns so ho cs nm hs r c rc ih =>
  ext zy;have h1:nm∉ns:=(fE,(gD).2 nm h nm yV rfl);have e1:xai kB zdf=KW:=by
   unfold xai;rw[JR,ZU ap,List.filter_nil,YV];refine List.filter_congr rg;have:z≠nm:=fun e=>h1 (e▸hz);simp[this]
  rw[e1,xgh,<- S8];unfold xgc;rw[if_neg];intro ok;unfold okP at ok;rw[JE] at ok;obtain⟨S,hS,pS⟩:62:=Kp.subs_all (l:=(KW).reverse) (Z5.mp c.nd).2 (fun a ha=>by
   have k:=c.has a ha;rw[r.dom jF a,Z7] at k;exact Y1.mpr (Zz.mpr ⟨zoW,k.2⟩))
  have k:=of_decide_eq_true (ok S hS);have ec:zlh=ss.countP (Kp.tog room (nm::hs)):=by
   congr 1
   funext s;exact Kp.tog_perm (pS.cons nm) s
  rw[ec,c.count r.mt snd hr,pS.length_eq] at k;omega
noncomputable def xe1 (old new:am):Prop:=(∀ x∈old,x∈new)/\(zfI,!(iO z old)).length<2
theorem xeq {room:gu}{T:am}{s:Seat}:Kp.tog room T s=true↔∃ n∈T,IJ:=by
 unfold Kp.tog;ext znL
noncomputable abbrev rkOf (ps:ao) (ss:ai):am->Nat:=fun S=>ss.countP (Kp.tog (xas ps ss) S)
theorem xrq {K L es:am}{N:am->Nat} (ld:L.Nodup) (sub:∀ x∈K,x∈L) (mo:Kp.More N K L es):xe1 K L:=by
 show(dI,sub,?_);have:=JH.length_le_of_subset (tJ ld:(L.filter (aj,!(iO z K))).Nodup) (l₂:=es) fun x hx=>by
  have k:=Zz.mp hx;exact (mo.cov x k.1).resolve_left fun z=>by
   have k2:=k.2;show(bV,decide_eq_true z,k2,nomatch k2)
 have:=mo.le;omega
theorem xkg {ps:ao}{ss ss':ai}{n:Str}{s:Seat} (h:rT) (h':s∈ss'):s∈xas ps ss n↔s∈xas ps ss' n:=by
 unfold xas;split
 .rw [Zz,Zz];show(aO,aj ⟨h',z.2⟩,aj ⟨h,z.2⟩)
 .exact Iff.rfl
theorem xrs {ps:ao}{ss ss':ai}{t:Seat} (nd:ww) (pm:ss'.Perm (t::ss)):xe1 (Kp.keepN (rkOf ps ss) (xu ps)) (Kp.keepN (rkOf ps ss') dQ):=by
 have e:∀ S,rkOf ps ss' S=rkOf ps ss S+zjZ:=fun S=>by
  show ss'.countP _=ss.countP _+_;rw[pm.countP_eq,Qs]
  congr 1
  refine List.countP_congr K1;have hs':s∈ss':=pm.mem_iff.mpr (Zi _ hs);rw[xeq,xeq];constructor
  .ext nZ n hn k;show(aE,n,hn,(xkg hs hs').mpr k)
  .ext nZ n hn k;show(aE,n,hn,(xkg hs hs').mp k)
 obtain⟨sub,es,mo⟩:=Kp.seat_more (N:=rkOf ps ss) (N':=rkOf ps ss') (T:=fun S=>zjZ) (Kp.rk_tog _ _) (Kp.rk_tog _ _) e (fun S=>by
  show (Bk _)<=1;ext lB) (fun {S R} h=>by
  show (Bk _)<=(Bk _)
  by_cases c:Kp.tog (xas ps ss') S t=true
  .show(fj,n,hn,k,xeq.mp c);rw[jS,if_pos (xeq.mpr ⟨n,h n hn,k⟩)];exact Zl _
  .ext d4 c;exact ZV _) nd
 exact xrq (Kp.keepN_nd nd) sub mo
theorem xqx (ns:am) (x:Str):(rY,(ns.map DV.str).any (aj,dEq z (.str x)),x∈ns):=by
 ext Ow
 .ext nZ z hz e;ext dW y hy hz;have e:=xk6 (d:=.str y) (e:=lR) rfl rfl e;injection e with e
  exact e▸hy
 .intro h
  exact(cI,Zf.mpr (cE x h),xce _)
theorem xmt {ps:ao}{ss:ai}{n:Str}{s:Seat} (h:s∈xas ps ss n):rT:=by
 unfold xas at h;split at h
 .exact (Zz.mp h).1
 .exact nomatch h
theorem xn2 {ps:ao}{ss ss':ai}{t:Seat}{so so':bC}{ho ho':aG}{cs cs':dB} (nd:ww) (n1:ss.Nodup) (n2:ss'.Nodup) (pm:ss'.Perm (t::ss)) (r:ze (xas ps ss) dQ) (r':Run (xas ps ss') dQ so' ho' cs'):xe1 cX (xai (xu ps) cs'):=by
 rw[r.keeps n1 (mQ,xmt z) nd,r'.keeps n2 (mQ,xmt z) nd];exact xrs nd pm
theorem xe1.len {old new:am} (o:xe1 old new) (nd:new.Nodup):new.length<=old.length+1:=by
 show(ah,h1,JH.length_le_of_subset (tJ nd:(zfI,iO z old).Nodup) (l₂:=old) (dM (vv,(Zz.mp hx).2)),h2,List.length_eq_countP_add_countP (l:=new) (aj,iO z old));rw[YC,YC] at h2;have h3:=o.2;have h4:(zfI (cP,¬ (BO (z∈old))))=new.filter (aj,!(iO z old)):=List.filter_congr fun z _=>by by_cases c:z∈old<;>simp[c]
 rw[h4] at h2;omega
theorem Aft.word {ps ps':ao}{ss ss':ai}{xs:af} (a:XI):∃(wd:Str) (r:af),(bM,xs,.str wd::r,(wd="shift"->ss'=ss/\∃ nm x y,ps'=ps.map EY),(wd="unbar"->ps'=ps/\∃ s,ss'=ss++[s])):=by
 cases a with
 | come=>exact fP _ xZ xZ
 | go=>exact fP _ xZ xZ
 | shift=>exact(fP,_,fun _=>bY ⟨101,_,_,_,rfl⟩,xZ)
 | unbar no=>exact(fP,_,xZ,fun _=>cE rfl _)
 | bar=>exact fP _ xZ xZ
theorem xoz {w h:Nat}{ps ps':ao}{ss ss' srt srt':ai}{so so':bC}{ho ho':aG}{cs cs':dB}{xs:af} (nd:ww) (sd:ss.Nodup) (sd':ss'.Nodup) (pm:EH) (pm':srt'.Perm ss') (lt:HH) (lt':srt'.Pairwise xbx) (a:XI) (r:yS) (r':Run (xas ps' srt') (xu ps') so' ho' cs'):∃(wd:Str) (zs:af),(bM,xs,.str wd::zs,wd="shift"->zbq=cX,wd="unbar"->xe1 cX zbq):=by
 obtain⟨wd,zs,e,k1,k2⟩:83:=(a.word)
 refine aZ wd zs e lG lG
 .obtain ⟨rfl,nm,x,y,rfl⟩:=k1 z;show(yH,srt',pm'.trans pm.symm,lt',lt);rw[xua,xpe] at r';show(IQ,43,r.det r');rw[xpe]
 .obtain ⟨rfl,s,rfl⟩:=k2 z;refine xn2 (t:=s) nd (pm.nodup_iff.mpr sd) (pm'.nodup_iff.mpr sd') ?_ r r';refine pm'.trans ?_;refine List.perm_append_comm.trans ?_;exact (pm.symm.cons s)
theorem xv1 (T:aL):FnOk true P w K mg base aH 14 t.f_law t.d_law A4 (xko K):=by
 refine T.F_law.okn (k:=13) xd6 (aM h) (fun cdv A outer s H vs Q E hr h=>?_)
 .ext xY sc ns
 .ext yq sc ns;refine⟨_,xh (ve 1 xd6.nd (xex T.k_au (ok_bh T) aC rfl T.g_au T.b_bh .nil xq (xa (pC (ok_y T) hr T.g_y T.F_y.kp T.b_y Af) (xg))))
   (xh (xbe ZF rfl (xaj (xed xg3 aQ (xee (xo)) (xee (xo)))) (pN 2 xd6.nd) (xh (pS 3 xd6.nd (xal bT T.c_au T.m_aw (ok_aw T) aC T.b_aw .nil xq))
   (xh (pS 4 xd6.nd (xal bT T.c_au T.m_av Ml aC T.b_av .nil xq))
   (xh (pS 5 xd6.nd (pC (ok_a4 T) hr T.g_a4 T.F_a4.kp T.b_a4 (xa (xal bT T.c_au T.m_q (ok_q T) aC T.b_q .nil xq) (ja 2 (xo)))))
   (xh (pS 6 xd6.nd (pC (ok_bm T) hr T.g_bm T.F_bm.kp T.b_bm (fC 1 5)))
   (xh (pS 7 xd6.nd (xal bT T.c_au T.m_aw (ok_aw T) aC T.b_aw .nil xq))
   (xh (yW (PW.pt (xc9 (xb3 (pC (ok_bd T) hr T.g_bd T.F_bd.kp T.b_bd (fC 1 3))) (xcv (on vJ 7 fZ)))) qh)
   (xh (ve 8 xd6.nd (Ay (xa6 rfl (xay (zs:=GG) (ys:=[]) (fr:=[]) (N0:=["_law_script", "_law_hand", "_law_cell_here", "_law_before", "_law_names_here", "_law_deed_here", "_law_told", "_law_now", "_law_seats", "_law_due", "_law_still_here"]) (sc0:=xm xhe) aK rfl rfl rfl) (w4 3) o4 qK eC V2)))
   (xh (xcn rfl (xay (zs:=GG) (ys:=["_law_seats"]) (fr:=[8]) (N0:=["_law_script", "_law_hand", "_law_cell_here", "_law_before", "_law_names_here", "_law_deed_here", "_law_told", "_law_now", "_law_seats", "_law_due", "_law_still_here"]) (sc0:=xm xhe) aK rfl rfl rfl) (w4 7) o4 qK (fun _ _ _ _ _=>xdq (PW.pt (xc9 (xcj (xel fU aQ (pv 3))) (xcv (xac (r:=rNeV K) vJ (yO 3 aQ) zZ gC))))) vk (j:=9) rfl rM)
   (xh (yW (PW.pt (xei (xac vJ (yk 6) (pv 9) gC) (xdh (PW.pt (xc9 (Km (yk 5)) (xcv (xac vJ (xal bT T.c_au T.m_av Ml aC T.b_av .nil xq) df gC))))))) qh)
   (xl (xcd (xar (Km (yk 5)) (xh (xcn rfl (xay (zs:=["_law_name"]) (ys:=["_law_hand"]) (fr:=[1]) (N0:=["_law_script", "_law_hand", "_law_cell_here", "_law_before", "_law_names_here", "_law_deed_here", "_law_told", "_law_now", "_law_seats", "_law_due", "_law_still_here"]) (sc0:=xm xhe) aK rfl rfl rfl) (w4 4) jY jR (HY (xac (r:=rInV K false) (xqh (xbg hr)) aQ (xal bT T.c_au T.m_av Ml aC T.b_av .nil xq) jr)) vk (j:=10) rfl rM)
   (xl (xcd (Sz (xei (on vJ 10 df) (xdh (xac xyu (Ik xa2 (xa (xal bT T.c_au T.m_av Ml aC T.b_av .nil xq) (xg))) (Gx (mG 4)) gC))) qh)))) (xad))))))))))))))
   qh),?_⟩
  refine sq3 ?_; intros; ext oR hs n63;show(CD,sc,ns,hs,fun H1 a0 dp0 do0 w' h' ps0 st0 ss0 s1 dr pok=>?_);show(ah,w2,dr.pic.w2,h2,dr.pic.h2);refine bN hd dxh hx hdx ne;show(av,k1,uI (ae,H1 b,u) (qD (upd H1 dxh (.own hd)) hd (.ins t.C_au dxh [])),(qz,qi My Fx e),⟨hd,dxh,a0,dp0,do0,w',h',ps0,st0,ss0,rfl,xk,sj k1,pok,aa,aa,fun H2 pa dp do_ lg prs qs k2 f1 f2 f3 hn=>tZ⟩);ext sy; show(oW,s12,kZ,k2 _ _ (xi e hx) (k1 _ _ e));have s02:=s1.trans s12;show(ag,ms,em,m8,xuq ns);refine⟨5,rfl,17,rfl,sc,_,rfl,Same.seqL s02 hs,aq l4 hl4⟩;rw[em];generalize eu:upd H2 l4 (.lst (ms.map V.int))=H4;ext uj s4 hl4;show(ah,g4,ug_e eu,hn4,hn.same s4);obtain⟨dx4,hp4⟩:=hn4.1.ins;obtain⟨⟨kd,hkd,_⟩,_⟩:=(⟨hn4.1.dr.pic.pl,trivial⟩:_/\True)
  show(lZ,ko,hko,hn4.1.dr.sts);ext jv n1 l4 hd g4 hp4;ext jv n2 l4 dp g4 hkd;show(av,n3,l4≠do_,ne_f g4 hko,P9 l4 g4 ?_)
  let Pv (i:Nat) (Z:L2.St) (H5:Hp):Prop:=∃(lg:Addr) (ps:ao) (ss srt:ai) (prs:aF) (qs:aw) (v2 v3 v4 v5 v6 v7 v8 v9 v10:cc),(bM,Z,[ud,Cz,v2,v3,v4,v5,v6,v7,v8,v9,v10],(VG (ae,H4 b,u) (ae,H5 b,u)),Hn t H5 hd pa dp do_ lg w' h' ps ss srt prs qs)
  show(AD,ms.map V.int,⟨lg,ps0,_,_,prs,qs,_,_,_,_,_,_,_,_,_,rfl,fun b u _ _ _ e=>e,hn4⟩,?_)
  .rintro i Z H5 _ (⟨_,_,_,_,⟨_,_,_,_,_,_,_,_,_,_,_,rfl,k5,_⟩⟩:121);show(wX,k5 _ _ n1 n2 n3 g4)
  .rintro i x Z H5 hx (⟨lg,ps,ss,srt,⟨prs,qs,v2,v3,v4,v5,v6,v7,v8,v9,v10,rfl,k5,hn5⟩⟩:121);refine gn ?_; refine sq10 ?_; intros; ext TJ;show(BV,c,rfl,hx);obtain⟨dx5,hp5⟩:=(nA).ins;have gv5:=bc hn5;show(av,nnd,ww,(nA).pok.nn,⟨hd,dx5,_,rfl,hp5,gT,hd,pa,dp,do_,lg,w',h',ps,ss,srt,qs,rfl,nA,gv5.hl,bX H6 lb s6 e6⟩);refine⟨hd,dx5,_,rfl,dL hp5,gT,hd,pa,dp,do_,lg,w',h',ps,ss,srt,rfl,(nA).same s6,fun H7 ln cs so ho s7 e7 run=>?_⟩;have s57:=s6.trans s7;refine⟨hd,dx5,_,rfl,s57 _ _ hp5,gT,hd,pa,dp,do_,lg,w',h',ps,ss,srt,rfl,(nA).same s57,fun H8 a8 dp8 do8 s8 _ _ _ dr8=>⟨a8,dp8,do8,w',h',ps,srt,srt,c,rfl,dr8,(nA).pok,(nA).b.1,(nA).b.2,fun H9 tq xs s9 htq dt=>?_⟩⟩;have s59:=(s57.trans s8).trans s9;refine⟨hd,pa,dp,do_,lg,tq,w',h',ps,ss,srt,prs,qs,xs,rfl,(nA).same s59,gv5.same s59,htq,dt.perm (nA).dr.pm,fun H10 tp ps' ss' srt' lg' prs' qs' k10 hn10 told sty aft=>?_⟩;obtain⟨lo,lm,cs',so',⟨ho',e1,e2,e3,run'⟩⟩:121:=told;show(ah,hn9,hn5.same s59,hp9,s59 _ _ hp5);obtain⟨⟨kd9,hkd9,_⟩,_⟩:=(⟨hn9.1.dr.pic.pl,trivial⟩:_/\True)
   show(lZ,ko9,hko9,hn9.1.dr.sts);have kl:∀{b:Addr}{zs:af},H9 b=some (.lst zs)->H10 b=some (.lst zs):=fun {b zs} e=>k10 _ _ (ne_f e hp9) (ne_f e hkd9) (ne_f e hko9) e;have kt:Tups H9 H10:=(gF,b,zs,k10 _ _ (ne_f e hp9) (ne_f e hkd9) (ne_f e hko9) e);have lb10:=kl (((s7.trans s8).trans s9) _ _ e6);show(ah,ln10,kl ((s8.trans s9) _ _ e7),tq10,kt _ _ htq);have pl10:PrsL H10 prs qs:=(gv5.same s59).pl.keep kt;obtain⟨wd,zs,rfl,ksh,kun⟩:83:=xoz (w:=w') (h:=h') nnd (nA).dr.ok.1 (wT).dr.ok.1 (nA).dr.pm (wT).dr.pm (nA).dr.lt (wT).dr.lt aft run run';obtain⟨dx10,hp10⟩:=(wT).ins;have at0:atI (V.str wd::zs) wQ=(fM wd):=xb9 rfl;show(av,k510,VG (ae,H4 b,u) (ae,H10 b,u),fun b u m1 m2 m3 e=>k10 _ _ m1 m2 m3 (s59 _ _ (k5 _ _ m1 m2 m3 e)),⟨hd,dx10,_,rfl,hp10,gT,hd,pa,dp,do_,lg',w',h',ps',ss',srt',qs',rfl,wT,(bc hn10).hl,bX H11 lw s11 e11⟩)
   show(Eh,Same H11 H'/\σ'=[ud,Cz,wR,Mq,lH,aB tq,aB tp,aB lw,v8,v9,v10])
   .ext pE; refine⟨hd,pa,dp,do_,lg',lb,w',h',ps',ss',srt',prs,qs,rfl,(wT).same s11,s11 _ _ lb10,pl10.keep (Same.tups s11),gv5.le,gv5.rw,fun H12 b s12 st=>(cN,uo cb (fun cb=>lL s12))⟩;obtain⟨rfl,_⟩:=sty (st cb);exact⟨2,2,_,_,(zjA).dv (s12 _ _ e11),(zjA).dv ((s11.trans s12) _ _ lb10),au,au,_,rfl,ifN Uo (lL s12)⟩
   rintro _ H12 ⟨s12,rfl⟩;have s1c:=s11.trans s12;show(ah,lb12,s1c _ _ lb10,pl12,pl10.keep (Same.tups s1c));show(ah,ql0,pl10.len,le0,gv5.le);show(jo,(P9,lb,lb12,aq l1 hl1),xbf (aW lb12) N4 hl1 (VA pU) (fun i y H H' tp ⟨p,q,t,a1,a2,a3,a4⟩=>⟨p,q,t,a1,a2,iS a3,iS a4⟩) (fun i x H2 hx s2 N hN=>?_) (fun ys H13 s13 el1 ly f1=>?_))
   .ext Cd;ext yT;show(ag,p,hpp,ep,(pl12.keep (Same.tups s2)).get ho);show(m9,o,ep,zbE zct);ext Xa X6;show(zcT,⟨p,q2,q1,hpp,rfl,xk,sb _ _ xk⟩)
   ext j5 ql0 ly;obtain⟨ws,kvs,rfl,y2,y3,sd1⟩:84:=xkp (H:=H13) (prs:=prs) (ys:=ys) ly fun i y p hy hp=>by
    obtain⟨p',q',t',a1,a2,a3,a4⟩:104:=f1 i y hy;ext bG hp a1 a1;exact⟨q',t',a2,a3,a4⟩
   have kln:=sd1.len;have knd:(kvs.map (·.1)).Nodup:=by
    show(UT,gv5.nn)
   show(bw,(Av,l1,ws,el1,y2,aq d hdd),⟨Go,_,fO,(aA,y3,xfl (kv0:=[]) knd iZ),?_⟩);rw[QW];generalize eu:fS H13 d kvs=H14;ext pd s14 hdd g14;show(ah,s1e,s1c.trans (s13.trans s14),gv10,bc hn10);show(ah,pn,(gv10.same s1e).pl,lw14,(s12.trans (s13.trans s14)) _ _ e11);show(ah,qln,gv10.pl.len,len2,gv10.le);show(jo,(P9,lw,lw14,aq l3 hl3),xcy (aW lw14) (fV,CF qs'.length 13) hl3 (fun i=>((prs'[i]?).map (mvB prs)).getD false) (wA,∃ p,Fy (ba prs' p) aU) nS (fun i x H3 hx s3 N M hN hM=>?_) (fun ys H15 s15 e15 ly3 fy3=>?_))
   .ext Cd;ext yT;show(ag,p,hpp,ep,(pn.keep (Same.tups s3)).get ho);show(ah,g3,dS g14,sd3,(sd1.keep (Same.tups s14)).keep (Same.tups s3));show(av,dg,DGet H3 d (.str aU) (ED aU),wU aU g3,kW o ep);cases ef:prs.find? fun r=>dU Ad aU with
    | none =>
     rw[sd3.no ef] at dg;exact⟨d,none,rfl,dg,_,rfl,ifN au (hM _ i6 (by rw[hpp]; show mvB prs p=false; unfold mvB; rw[ef]; rfl))⟩
    | some r =>
     have er:Ad=aU:=(BD,YT ef)
     show(ag,t1,ht1,ht2,sd3.find gv5.nn (ZC ef));rw[er] at ht1;rw[ht1] at dg;have em:mvB prs p=!(dU r.2 bO):=by
      unfold mvB;rw[ef];rfl
     show(bw,⟨d,_,rfl,dg,_,rfl,ifP rfl ?_⟩,(fb,d,rfl,dg,cR,aq q2 hq2));show(av,s5,Same H3 (iJ H3 q2 CB dO),bP hq2,⟨1,1,xb8 r.2,xb8 bO,xea (cB ht2),xea (s:=bO) xk,au,au,_,rfl,rK c c⟩)
     .ext zhL s5
     .ext zjv s5
   obtain rfl:ys=((prs'.filter (mvB prs)).map (·.1.nm)).map V.str:=by
    rw[Za,qln] at ly3 fy3;have fi:=xe0 (mvB prs) (as:=prs') (p:=fun i=>((prs'[i]?).map (mvB prs)).getD false) Hw;show(uY,mh ly3 fi.1 Za);have hj:i<((Zu prs'.length).filter fun i=>((prs'[i]?).map (mvB prs)).getD false).length:=by
     ext jp ly3 zD
    show(gU,p,hp,fy3 i y _ hy oQ);rw[fi.2 i _ oQ] at hp;ext DJ
   have s1f:=s1e.trans s15
   show(Eh,Same H15 H'/\σ'=[ud,Cz,wR,Mq,lH,aB tq,aB tp,aB lw,qv,aB l3,v10])
   .ext pE; show(bw,⟨tp,_,2,.ref lm,rfl,rfl,cm (s1f _ _ e1),rfl,1,1,_,_,xcm (s1f _ _ e3),xcm e15,au,au,_,rfl,ifN Uo ?_⟩,⟨tq,_,0,.str wd,rfl,rfl,cm (s1f _ _ tq10),at0,rfl,_,rfl,uo cw (fun _=>lL i6)⟩);show(lY,cw,wd,"shift",V.str.inj (of_decide_eq_true cw),⟨hd,dx10,_,rfl,s1f _ _ hp10,gT,hd,pa,dp,do_,lg',w',h',ps',ss',srt',rfl,(wT).same s1f,fun H16 l16 cs2 so2 ho2 s16 e16 run2=>?_⟩);ext zbb;rw[ksh cw] at e16;exact⟨1,1,_,_,xcm e16,xcm ((s1f.trans s16) _ _ ln10),au,au,_,rfl,ifN Uo (lL s16)⟩
   rintro _ H16 ⟨s16,rfl⟩;have s1g:=s1f.trans s16
   show(Eh,Same H16 H'/\∃ v10,σ'=[ud,Cz,wR,Mq,lH,aB tq,aB tp,aB lw,qv,aB l3,v10])
   .ext pE; refine⟨tq,_,0,.str wd,rfl,rfl,cm (s1g _ _ tq10),at0,rfl,_,rfl,uo cw (fun _=>cE i6 _)⟩;ext Ea; have cw:wd="unbar":=V.str.inj (of_decide_eq_true cw);have one:=kun cw;show(ah,ln16,s1g _ _ ln10,hp16,s1g _ _ hp10);show(ah,hk16,(wT).same s1g,p12,(nA).pok.le);show(qj,k0l,Fi cX,ZK rP zmL,(P9,ln,ln16,aq l17 hl17),xcy (aW ln16) qN hl17 (oX true) (wA,∃ n,Fy (ba cX n) n) nS (fun i x H3 hx s3 N M hN hM=>?_) (fun ys H17 s17 e17 ly fy=>?_))
    .ext Cd;ext mF n hn hx;refine⟨hd,dx10,_,rfl,dS hp16,gT,hd,pa,dp,do_,lg',w',h',ps',ss',srt',rfl,hk16.same s3,fun H18 l18 cs2 so2 ho2 s18 e18 run2=>?_⟩;ext zbb;exact⟨0,1,_,_,.str,xcm e18,au,au,_,rfl,ifP (mh,wF,xqx,yG (one.1 n (Zk hn))) (hN _ _ s18 rfl (cE n hn))⟩
    obtain rfl:ys=(cX).map V.str:=by
     have fr:(Zu ((cX).map V.str).length).filter Kd=Zu ((cX).map V.str).length:=Wn.mpr gK;rw[fr] at ly fy;rw[ZW] at ly;show(uY,bR ly Za);have hi:=zD;show(gU,n,hn,fy i y i hy (J8 aa));ext bG hn hb hb;rfl
    show(Eh,Same H17 H'/\∃ v10,σ'=[ud,Cz,wR,Mq,lH,aB tq,aB tp,aB lw,qv,aB l3,v10])
    .ext pE; show(bw,⟨1,1,_,_,xcm e17,xcm (s17 _ _ ln16),au,au,_,rfl,ifN Uo ?_⟩,⟨hd,dx10,_,rfl,s17 _ _ hp16,gT,hd,pa,dp,do_,lg',w',h',ps',ss',srt',rfl,hk16.same s17,fun H18 l18 cs2 so2 ho2 s18 e18 run2=>?_⟩);ext zbb;have le:=one.len ((tJ,(wT).pok.nn):(zbq).Nodup);exact⟨l18,_,rfl,gM e18,ln,_,rfl,gM (s18 _ _ (s17 _ _ ln16)),_,rfl,ifN (by rw[Za,Za]; simp; omega) (cE s18 _)⟩
    rintro _ H18 ⟨s18,v10,rfl⟩;show(aE,s17.trans s18,_,rfl)
   rintro _ H17 ⟨s17,v11,rfl⟩;have s1h:=s1g.trans s17;exact⟨lg',ps',ss',srt',prs',qs',_,_,_,_,_,_,_,_,_,rfl,fun b u m1 m2 m3 e=>s1h _ _ (k510 _ _ m1 m2 m3 e),hn10.same s1h⟩
  .rintro Z H5 (⟨lg,ps,ss,srt,⟨prs,qs,v2,v3,v4,v5,v6,v7,v8,v9,v10,rfl,k5,hn5⟩⟩:121);exact q _
#check _
#check S83
-- the names of the twins of whole trees and heaps are xcb here,so that the head makes no such twins (they are what makes its compiled file large); see NOTE.md
namespace PySem.W.Fast
def tw1620712264068988904:=Nat
def tw1075103793242422477:=Nat
def tw7565983884861304430:=Nat
def tw6377985429836708456:=Nat
def tw5072078073923329470:=Nat
def tw17802423042919933000:=Nat
def tw2991041894112268203:=Nat
def tw5470678320657967238:=Nat
def tw309569552116929787:=Nat
def tw4408375671630638290:=Nat
def tw13633653112960200773:=Nat
def tw10353932689844015160:=Nat
def tw3298903810978443908:=Nat
def tw14192550941528701273:=Nat
def tw12908730258010384338:=Nat
def tw5297588806131935440:=Nat
def tw16640265671689887815:=Nat
def tw8460481271346735246:=Nat
def tw6519523461450000478:=Nat
def tw10052254479074009189:=Nat
def tw1543478151170005171:=Nat
def tw5819284024275474077:=Nat
def tw12883777524388806118:=Nat
def tw17864096989048233885:=Nat
def tw6263009881375710105:=Nat
def tw1286174751197779180:=Nat
def tw11157877026093587470:=Nat
def tw11739139036324656516:=Nat
def tw10101465936069202601:=Nat
def tw6114519810692625296:=Nat
def tw18019165133483458477:=Nat
def tw14168535908941497991:=Nat
def tw17851648146710675188:=Nat
def tw6157003103737809828:=Nat
def tw12795676998725013475:=Nat
def tw17245713947539895165:=Nat
def tw9053443949988630529:=Nat
def tw18370031706234885640:=Nat
def tw1844688524812123872:=Nat
def tw14817100383115897286:=Nat
def tw18436576050730121882:=Nat
def tw11654695901216355703:=Nat
def tw8601775511045316121:=Nat
def tw1397451261646371654:=Nat
def tw11747235327524188938:=Nat
def tw2171169712317976814:=Nat
def tw11763756737568562187:=Nat
def tw8960220041891760973:=Nat
def tw3529320611625014717:=Nat
def tw14352271001306806372:=Nat
def tw5766797126523625094:=Nat
def tw1460151282962684424:=Nat
def tw8902652511154339291:=Nat
def tw9226998864941597698:=Nat
def tw1811914218542380199:=Nat
def tw9936417030861828020:=Nat
def tw15021054354204130946:=Nat
def tw17933884479882005764:=Nat
def tw9014717571635793728:=Nat
def tw1159228247802466619:=Nat
def tw2097885167361054886:=Nat
def tw12418724940526396395:=Nat
def tw3837576962881527274:=Nat
def tw12432113399944618379:=Nat
def tw7313880895892734675:=Nat
def tw8487815046138649716:=Nat
def tw2633972109507684841:=Nat
def tw14942592958819286614:=Nat
def tw6305253810191616824:=Nat
def tw17226332432157720702:=Nat
def tw8489674813031737946:=Nat
def tw1389923932899706357:=Nat
def tw7366964211450332731:=Nat
def tw15007228491656001619:=Nat
def tw7294789268202863423:=Nat
def tw9849083265967789049:=Nat
def tw10054299296279465220:=Nat
def tw6799111767077367204:=Nat
def tw6619819758190394405:=Nat
def tw14782443303911968304:=Nat
def tw6292489523427866243:=Nat
def tw9874541273176192435:=Nat
def tw6466123298252399197:=Nat
def tw1231438763731408302:=Nat
def tw4930466295371309455:=Nat
def tw1210461693376861017:=Nat
def tw1663624336605171471:=Nat
def tw12738941383976084968:=Nat
def tw5973287975914091153:=Nat
def tw12838463547991847146:=Nat
def tw2182750057710387068:=Nat
def tw7816124592658305652:=Nat
def tw10046610686497409653:=Nat
def tw12840147934669266098:=Nat
def tw1935288266714660054:=Nat
def tw15548701908504571026:=Nat
def tw11188844822597157291:=Nat
def tw17708789688199494467:=Nat
def tw15651918767912954859:=Nat
def tw13266832357671049127:=Nat
def tw6725615307905887873:=Nat
def tw524204770819494771:=Nat
def tw2229369850758610931:=Nat
def tw5572824047438462333:=Nat
def tw6099568602318400673:=Nat
def tw13211525041340612398:=Nat
def tw17515071737808131177:=Nat
def tw16234988230114691047:=Nat
def tw18298664161499103181:=Nat
def tw4935407318940014492:=Nat
def tw4383615662010505091:=Nat
def tw5288717364424301026:=Nat
def tw12945769017147600703:=Nat
def tw17159758083861536151:=Nat
def tw4000663013601790100:=Nat
def tw12680603340854286681:=Nat
def tw14464096712472191869:=Nat
def tw18162011235267872429:=Nat
def tw2809789919816918822:=Nat
def tw5100258639434742986:=Nat
def tw9296866049547458040:=Nat
def tw16686021075835241749:=Nat
def tw18089539183499832132:=Nat
def tw9047111958429632270:=Nat
def tw6353442983831613043:=Nat
def tw10410465607849602984:=Nat
def tw1599190790151918541:=Nat
def tw10873368685088858885:=Nat
def tw6875686229886355892:=Nat
def tw11733452097154958091:=Nat
def tw9701165963957443162:=Nat
def tw17739524332201030850:=Nat
def tw4506687970908934514:=Nat
def tw5036210756010987633:=Nat
def tw6086992906286595244:=Nat
def tw17924084778950373538:=Nat
def tw9756977871159707508:=Nat
def tw7822067863853417636:=Nat
def tw14449868224037459147:=Nat
def tw11475536514271612055:=Nat
def tw7917682632433648685:=Nat
def tw2896287997221073270:=Nat
def tw8323368978113673151:=Nat
def tw5874633803076318635:=Nat
def tw4804017779551660605:=Nat
def tw15522792873964439977:=Nat
def tw8637962344478160355:=Nat
def tw9232329265840496948:=Nat
def tw2499710209719461273:=Nat
def tw9386249638341733486:=Nat
def tw300949421898662975:=Nat
def tw2917583141316439172:=Nat
def tw5643598149985191551:=Nat
def tw7033533459286369336:=Nat
def tw1149744203672176:=Nat
def tw8677601354972357153:=Nat
def tw5759537368233198358:=Nat
def tw8936505995487807342:=Nat
def tw5936356510963130252:=Nat
def tw15539579007319675317:=Nat
def tw16625953012009964419:=Nat
def tw452559972375785567:=Nat
def tw11486226888390021861:=Nat
def tw6411142227943938925:=Nat
def tw1019704718986328356:=Nat
def tw4687460352780458280:=Nat
def tw13080125338558127189:=Nat
def tw15972179378641234106:=Nat
def tw13967836874317221962:=Nat
def tw8737641951976921348:=Nat
def tw8896525868530268158:=Nat
def tw15295394427025652643:=Nat
def tw1345453243355208707:=Nat
def tw6687086126372738672:=Nat
def tw10930849717306979306:=Nat
def tw6869651394929128922:=Nat
def tw15754355339278362190:=Nat
def tw9737619087528985576:=Nat
def tw4732734205862080487:=Nat
def tw13279719166309066914:=Nat
def tw13829450525835524774:=Nat
def tw7168612154118038406:=Nat
def tw15267428690813884322:=Nat
def tw5567836034559917134:=Nat
def tw5179775114580121004:=Nat
def tw6132711328632330267:=Nat
def tw14213833205629676209:=Nat
def tw8946052008414737047:=Nat
def tw6380701397436704750:=Nat
def tw7909849018967440709:=Nat
def tw10093228480182356858:=Nat
def tw8914086078215878226:=Nat
def tw8562493370342202247:=Nat
def tw16071894348638729897:=Nat
def tw12699862075684900263:=Nat
def tw4568013497318915095:=Nat
def tw18141787564041486326:=Nat
def tw2789086430038260300:=Nat
def tw4285327331887001257:=Nat
def tw17286577325459639550:=Nat
def tw7726545093730140098:=Nat
def tw14620893909095575956:=Nat
def tw1259031380146026160:=Nat
def tw4914178859620893404:=Nat
def tw7851656897262840431:=Nat
def tw5758364868148657904:=Nat
def tw3456410227773009083:=Nat
def tw15036622822164549924:=Nat
def tw2864248237366590610:=Nat
def tw6369456615207168801:=Nat
def tw6770615677006798613:=Nat
def tw5368199658640255684:=Nat
def tw16663072322560419485:=Nat
def tw13758918989040888747:=Nat
def tw1759739008062855044:=Nat
def tw10269663846393490702:=Nat
def tw3849435451771688010:=Nat
def tw9330899741966985816:=Nat
def tw8483006519747465378:=Nat
def tw9483748580242804729:=Nat
def tw17870318336212724616:=Nat
def tw13539493261748387514:=Nat
def tw3809013352802523569:=Nat
def tw8976984847014915654:=Nat
def tw12628755063362049248:=Nat
def tw7831185719764782786:=Nat
def tw13554995300701586570:=Nat
def tw5287713866279898651:=Nat
def tw4223516127410054897:=Nat
def tw3861122362233712959:=Nat
def tw7473362359655905532:=Nat
def tw369357425018673244:=Nat
def tw9113038321061038713:=Nat
def tw187777434543957329:=Nat
def tw4296829178854364482:=Nat
def tw13436235565875311049:=Nat
def tw3315366589733137491:=Nat
def tw15103585921881715918:=Nat
def tw8032417098429731824:=Nat
def tw16435169430120882773:=Nat
def tw17782360730245970549:=Nat
def tw14671970793981301658:=Nat
def tw1748682936077704319:=Nat
def tw12456439473469825563:=Nat
def tw5331199001939736993:=Nat
def tw1229833287301863108:=Nat
def tw13710744253908684298:=Nat
def tw18307491065945423246:=Nat
def tw7518316565301345484:=Nat
def tw2060595983767483634:=Nat
def tw18044613295111421789:=Nat
def tw5339611176128490134:=Nat
def tw6895806349344309675:=Nat
def tw11978771192117936662:=Nat
def tw11533135558520473933:=Nat
def tw15768545639416717678:=Nat
def tw6625472193705133264:=Nat
def tw10899209912313774202:=Nat
def tw18270313400006861183:=Nat
def tw3418553144180543320:=Nat
def tw4167198215504301073:=Nat
def tw4206259442267612150:=Nat
def tw14643978713445950586:=Nat
def tw13045674851053991993:=Nat
def tw4746755144257366137:=Nat
def tw5488093900429254564:=Nat
def tw12970883750600421191:=Nat
def tw11778503759045362450:=Nat
def tw3422266930019691671:=Nat
def tw1577770462544421466:=Nat
def tw16842373325903591241:=Nat
def tw10508247399098750530:=Nat
def tw11809636234204555421:=Nat
def tw6037231528057075301:=Nat
def tw16475610023474836282:=Nat
def tw8985078056121152420:=Nat
def tw2070151205644986357:=Nat
def tw14615748457140770458:=Nat
def tw12319785872882365960:=Nat
def tw4774818587544575549:=Nat
def tw5969202790341915348:=Nat
def tw10137381583853387480:=Nat
def tw16520187840716058084:=Nat
def tw1584490328616729386:=Nat
def tw2936365698872820051:=Nat
def tw6391696877735628203:=Nat
def tw7772084829936571683:=Nat
def tw3510991419282603118:=Nat
def tw12716843605231200406:=Nat
def tw9856660513222997851:=Nat
def tw7177590081044621198:=Nat
def tw9688806453518614552:=Nat
def tw6716874886536695522:=Nat
def tw13237846633987526893:=Nat
def tw12898080793466129253:=Nat
def tw5152089478170625086:=Nat
def tw11250153632538021443:=Nat
def tw7574129444251812617:=Nat
def tw7327160655566284007:=Nat
def tw15888876920058607514:=Nat
def tw12368219849899451506:=Nat
def tw16489463977212347207:=Nat
def tw6025486389037162237:=Nat
def tw8325286661732662213:=Nat
def tw8634091187228551718:=Nat
def tw16144321787522169929:=Nat
def tw16958365927835697728:=Nat
def tw2869876480055043740:=Nat
def tw8992233184010255929:=Nat
def tw12966779543799038566:=Nat
def tw15574097575074212545:=Nat
def tw15649290150822902020:=Nat
def tw15214267663620141838:=Nat
def tw1907097942845727390:=Nat
def tw4894581228732796825:=Nat
def tw3880925012146459480:=Nat
def tw18429089490558865555:=Nat
def tw10428945144426564187:=Nat
def tw2923809652610524815:=Nat
def tw13236175632655079429:=Nat
def tw3600507763112353021:=Nat
def tw940544632316376444:=Nat
def tw8729494301176071369:=Nat
def tw18345078752772524365:=Nat
def tw12798067290864147613:=Nat
def tw16948033760737940399:=Nat
def tw3307261145150331101:=Nat
def tw1283232425108307630:=Nat
def tw8276673094298364871:=Nat
def tw14613742994153309358:=Nat
def tw9231905209220795465:=Nat
def tw11472354956635681752:=Nat
def tw14867757074208557376:=Nat
def tw15561125492867580124:=Nat
def tw7432181368563124160:=Nat
def tw13047499802711455060:=Nat
def tw1588826484261908234:=Nat
def tw14186850655665993633:=Nat
def tw15437141214091926093:=Nat
def tw11302906203962256959:=Nat
def tw13045671739273053295:=Nat
def tw16599822915076160773:=Nat
def tw6793643226854527553:=Nat
def tw8260313120316485002:=Nat
def tw8642000890288740415:=Nat
def tw9560400334382536751:=Nat
def tw10159373396984591074:=Nat
def tw4049827321068905353:=Nat
def tw7278150957673540158:=Nat
def tw8735563278862883869:=Nat
def tw9846287082198059681:=Nat
def tw7954286070871509085:=Nat
def tw2769850163905124863:=Nat
def tw14945343056440667477:=Nat
def tw4883184077190448398:=Nat
def tw12651242012322209534:=Nat
def tw17464303677899406195:=Nat
def tw12754930204560348185:=Nat
def tw13143192031875269616:=Nat
def tw18077739159010897114:=Nat
def tw16423029866223726106:=Nat
def tw7982455453101815899:=Nat
def tw8544363162918591337:=Nat
def tw4010610891774807331:=Nat
def tw6834854569540263088:=Nat
def tw7176885163653472661:=Nat
def tw2076692804772421488:=Nat
def tw9264609019702247050:=Nat
def tw9742234628131141095:=Nat
def tw2598080604165991663:=Nat
def tw6179200440012125139:=Nat
def tw8819099665819506709:=Nat
def tw12864866672299269260:=Nat
def tw4142122115435808627:=Nat
def tw6296724733276735294:=Nat
def tw14101989185334495604:=Nat
def tw13541733137914718726:=Nat
def tw5604898072136979945:=Nat
def tw7149686099908232437:=Nat
def tw15013896820211449089:=Nat
def tw11128499968286442296:=Nat
def tw14657438781009928433:=Nat
def tw8970643915627908688:=Nat
def tw11165770493886050803:=Nat
def tw10851237381278193756:=Nat
def tw15972997404250713561:=Nat
def tw1325363071294598986:=Nat
def tw13792753221929983564:=Nat
def tw1295235773924870444:=Nat
def tw8651243151729709733:=Nat
def tw15312097203075784474:=Nat
def tw16842127230068274065:=Nat
def tw9753234832016442097:=Nat
def tw6940661886517149627:=Nat
def tw10565808076637141456:=Nat
def tw4457688670297650955:=Nat
def tw1953536688158577826:=Nat
def tw3716580453783479985:=Nat
def tw15132228705574770183:=Nat
def tw9304563361793768443:=Nat
def tw6555449685588400707:=Nat
def tw1897006331292171268:=Nat
def tw1101278048588093829:=Nat
def tw6869664952426429608:=Nat
def tw4327004239845206926:=Nat
def tw11174842485433060242:=Nat
def tw5096540740964634253:=Nat
def tw4630786565004701874:=Nat
def tw14465661769602258658:=Nat
def tw3988074170896001569:=Nat
def tw1678448633508538767:=Nat
def tw17048542571532241587:=Nat
def tw4238236690964892748:=Nat
def tw12352666208696893954:=Nat
def tw13260128935882340646:=Nat
def tw12480820358165740357:=Nat
def tw8839330384280591590:=Nat
def tw867163352146592770:=Nat
def tw7713415822872262324:=Nat
def tw3677341783149730685:=Nat
def tw9731257053130840005:=Nat
def tw14425492427799794212:=Nat
def tw602305488865147310:=Nat
def tw16640089357743955975:=Nat
def tw14622357278611573630:=Nat
def tw14750657480301372409:=Nat
def tw15952537443708020821:=Nat
def tw11852890695506201110:=Nat
def tw16559670890637528054:=Nat
def tw12212027675583001587:=Nat
def tw6809862305070876510:=Nat
def tw583171335453859929:=Nat
def tw17986825615489662484:=Nat
def tw2548326749157127642:=Nat
def tw14172981548348118197:=Nat
def tw7891111715243459311:=Nat
def tw5552830235919529092:=Nat
def tw15613796445047888880:=Nat
def tw6667633060617231734:=Nat
def tw1683795242537614520:=Nat
def tw1386867619794218724:=Nat
def tw10026771277533468959:=Nat
def tw16561722460156547236:=Nat
def tw11228793177701654194:=Nat
def tw14444974031935214197:=Nat
def tw3478164020478853224:=Nat
def tw3307783120709050966:=Nat
def tw12038715429876598075:=Nat
def tw5195130632795059660:=Nat
def tw15328781578218604607:=Nat
def tw1786247031937966217:=Nat
def tw11999164825673693536:=Nat
def tw6286800627618605075:=Nat
def tw11590229662484676178:=Nat
def tw5030955755309748981:=Nat
def tw4196932998679159840:=Nat
def tw16976766763689326740:=Nat
def tw4894811793727505305:=Nat
def tw7572423724746590438:=Nat
def tw12554250811698213243:=Nat
def tw15240922982246074938:=Nat
def tw17314981438348367649:=Nat
def tw1892259756818891127:=Nat
def tw13228114084694851258:=Nat
def tw2657196914216197305:=Nat
def tw15106571232232942736:=Nat
def tw10645693492348188448:=Nat
def tw3586252946042723142:=Nat
def tw12367278130243854008:=Nat
def tw12658703209643890888:=Nat
def tw27490419887020407:=Nat
def tw10688110306200911289:=Nat
def tw2283304528783855950:=Nat
def tw2280580195806855802:=Nat
def tw5542788282126482445:=Nat
def tw10989459070969669208:=Nat
def tw8699954661219292740:=Nat
def tw3326184600438419175:=Nat
def tw12379564681770625478:=Nat
def tw12679852016895477418:=Nat
def tw14226136350989287837:=Nat
def tw11827842929521414605:=Nat
def tw16933750817908627097:=Nat
def tw16677346093002783378:=Nat
def tw16511930758277461661:=Nat
def tw3094312956489272066:=Nat
def tw16750232360501569841:=Nat
def tw7841150516699102740:=Nat
def tw2250066672202840800:=Nat
def tw2566675601697996901:=Nat
def tw10954112903479312457:=Nat
def tw54077119605343998:=Nat
def tw6740138554371598257:=Nat
def tw8501824452607025253:=Nat
def tw5832877040187186029:=Nat
def tw9139118548907110855:=Nat
def tw864204478257906437:=Nat
def tw2168729979445485321:=Nat
def tw16439200547346271196:=Nat
def tw8823097549283884962:=Nat
def tw3775605285594128572:=Nat
def tw13499528724299878987:=Nat
def tw18330146626390110416:=Nat
def tw6756564162314924966:=Nat
def tw1744895957047293612:=Nat
def tw53664931089093888:=Nat
def tw17935443567648687587:=Nat
def tw12533690964152980560:=Nat
def tw11649642561134120066:=Nat
def tw6544244133507720890:=Nat
def tw9627423977445814314:=Nat
def tw10533326384330350940:=Nat
def tw16284110350781910285:=Nat
def tw3839097828810406013:=Nat
def tw15498183619867314864:=Nat
def tw12761131912324939403:=Nat
def tw5266217965695601504:=Nat
def tw6064457211911543172:=Nat
def tw193094655373561748:=Nat
def tw15085158984431368224:=Nat
def tw12165927903708902826:=Nat
def tw13765259843235798570:=Nat
def tw16159383274850534040:=Nat
def tw11358048709035606278:=Nat
def tw5245366411485592038:=Nat
def tw182985819243905431:=Nat
def tw11657687957651058066:=Nat
def tw9450141537176688698:=Nat
def tw14936246881181466696:=Nat
def tw14567383092369466977:=Nat
def tw1498183190793461825:=Nat
def tw3667450067249484620:=Nat
def tw17047793828190212296:=Nat
def tw110160663004000474:=Nat
def tw17017062144073931877:=Nat
def tw10145259652992026998:=Nat
def tw8458553374503258600:=Nat
def tw742713279639085563:=Nat
def tw8474586769456121936:=Nat
def tw17435995640754498143:=Nat
def tw13218849473613386275:=Nat
def tw11075854281743477417:=Nat
def tw15045660125774247612:=Nat
def tw17354735375462114334:=Nat
def tw12479878872358882162:=Nat
def tw1832416635058620692:=Nat
def tw5224065135418732941:=Nat
def tw5555284964498147135:=Nat
def tw3810942893442772363:=Nat
def tw6728782058693910409:=Nat
def tw18116779549907846451:=Nat
def tw10087525518357197857:=Nat
def tw6129454319684293781:=Nat
def tw10064126803580290302:=Nat
def tw10791191403420805145:=Nat
def tw8202508537836365501:=Nat
def tw11722211473823559269:=Nat
def tw16945687418451076842:=Nat
def tw4899097939468456309:=Nat
def tw14851303094478672448:=Nat
def tw11008991414495092271:=Nat
def tw13280040603615021060:=Nat
def tw3154615167528062516:=Nat
def tw11725548390797269484:=Nat
def tw6586188631952840202:=Nat
def tw4221748864508719858:=Nat
def tw6682596097656331832:=Nat
def tw2614939316880259271:=Nat
def tw8374005974814741698:=Nat
def tw13827284378208685413:=Nat
def tw3863240342183944386:=Nat
def tw11583903391524966292:=Nat
def tw15703611252249082580:=Nat
def tw5595202858376345809:=Nat
def tw297341361352607556:=Nat
def tw4506434322365526491:=Nat
def tw2309936688961786470:=Nat
def tw9095235979032051441:=Nat
def tw5122922000565513337:=Nat
def tw15431948242519682967:=Nat
def tw1157913116850536055:=Nat
def tw1216150539530066078:=Nat
def tw2754963045640651729:=Nat
def tw9540255355338691923:=Nat
def tw15845815524034480112:=Nat
def tw13335939136756958467:=Nat
def tw5870221544350948576:=Nat
def tw13333492052953161081:=Nat
def tw9428635627196515408:=Nat
def tw8428266446373360326:=Nat
def tw4296274785131964543:=Nat
def tw10942174562833154878:=Nat
def tw2762660188377362475:=Nat
def tw5630265832099267307:=Nat
def tw442485448908131812:=Nat
def tw3642785287937353733:=Nat
def tw4871810649357290545:=Nat
def tw15533168142581375686:=Nat
def tw14786718419793814132:=Nat
def tw17923528018509014345:=Nat
def tw819766085838643482:=Nat
def tw13495017665617448434:=Nat
def tw1345188369549126463:=Nat
def tw5200214936657775419:=Nat
def tw12580289839957773256:=Nat
def tw2267402166971602087:=Nat
def tw7967610938074181914:=Nat
def tw7287846995917867638:=Nat
def tw11657283062818918367:=Nat
def tw10311853870480401180:=Nat
def tw4374473376999199302:=Nat
def tw10821812154493284051:=Nat
def tw12226413151310238863:=Nat
def tw10167705298453345098:=Nat
def tw5069390387702463452:=Nat
def tw16293880526891839423:=Nat
def tw7467799504595964418:=Nat
def tw3879609653892932099:=Nat
def tw16198245623866721913:=Nat
def tw7661612283110122405:=Nat
def tw6997795380050465832:=Nat
def tw4905044604989220278:=Nat
def tw17768506968655646196:=Nat
def tw7925769836504493178:=Nat
def tw10956904347688115750:=Nat
def tw11048531483776693768:=Nat
def tw13194048206699171474:=Nat
def tw14540693581375003460:=Nat
def tw7600171715399388161:=Nat
def tw13399410081435789014:=Nat
def tw5038558888630884212:=Nat
def tw16041789256858365057:=Nat
def tw1774964629857569317:=Nat
def tw17493895474937672697:=Nat
def tw15892845437199302167:=Nat
def tw5478077318989446768:=Nat
def tw17647682672175909734:=Nat
def tw17426429910265556205:=Nat
def tw6162810824118687612:=Nat
def tw5644585613137787696:=Nat
def tw13475989590376294532:=Nat
def tw13999156782661857915:=Nat
def tw16852370114404246034:=Nat
def tw2074266788796402318:=Nat
def tw2204306746215330768:=Nat
def tw10560991296871987534:=Nat
def tw14411020051592793607:=Nat
def tw8561813370791230344:=Nat
def tw13728567759284599903:=Nat
def tw200290999816195145:=Nat
def tw17965434123644847213:=Nat
def tw13701353679872967974:=Nat
def tw7780940432140810582:=Nat
def tw7000362131617744178:=Nat
def tw14186953426559985906:=Nat
def tw3747501843363385358:=Nat
def tw9677545217780550698:=Nat
def tw5090165424550292132:=Nat
def tw10407599587478006623:=Nat
def tw3437604802394551731:=Nat
def tw9134080587006556745:=Nat
def tw193910452335928922:=Nat
def tw12700073872432724225:=Nat
def tw7817433386860591089:=Nat
def tw9917818846442373447:=Nat
def tw14572922224609220508:=Nat
def tw1830375309478993433:=Nat
def tw12793158004490800651:=Nat
def tw6666042183837241922:=Nat
def tw2723717664730379279:=Nat
def tw3581085215419482284:=Nat
def tw17116724955670942937:=Nat
def tw12748374554119113412:=Nat
def tw4595054341051955240:=Nat
def tw13510602097188397290:=Nat
def tw6375759831670707244:=Nat
def tw810230104629758606:=Nat
def tw15473723208195079341:=Nat
def tw2908977648047516396:=Nat
def tw6786749607047467144:=Nat
def tw2225726101721566075:=Nat
def tw4998841573170893893:=Nat
def tw16281208349098453933:=Nat
def tw6803064810138435344:=Nat
def tw8719281132187223718:=Nat
def tw365331121632997323:=Nat
def tw9411227212973681424:=Nat
def tw8485888721413406177:=Nat
def tw1043529697863689853:=Nat
def tw11780439271511741238:=Nat
def tw8281922374557257303:=Nat
def tw4606729484492965583:=Nat
def tw11128880247011857589:=Nat
def tw15479207313107216125:=Nat
def tw12586729324768385461:=Nat
def tw6351211568774652155:=Nat
def tw3048189906896643916:=Nat
def tw83047345841069912:=Nat
def tw2010651911983492098:=Nat
def tw7254467880838642460:=Nat
def tw421503342421879852:=Nat
def tw17661085464713122571:=Nat
def tw597283857397176585:=Nat
def tw3386934332193597388:=Nat
def tw14542830318381899323:=Nat
def tw8201549853171971653:=Nat
def tw9874807430422680375:=Nat
def tw14336228351464613900:=Nat
def tw6340542444873097413:=Nat
def tw10248758658733717622:=Nat
def tw7585742462048685211:=Nat
def tw759721677571758970:=Nat
def tw12563685877909709231:=Nat
def tw424374159093213163:=Nat
def tw1305973209022955754:=Nat
def tw11421510691270521660:=Nat
def tw2118141548502789555:=Nat
def tw11105966193406273063:=Nat
def tw15056160949001587930:=Nat
def tw8694079700850414375:=Nat
def tw15578562054301764661:=Nat
def tw5085966491252165339:=Nat
def tw11716102067394626983:=Nat
def tw12753893709223392091:=Nat
def tw1922526497753029938:=Nat
def tw3927723376526050468:=Nat
def tw13077569506700398344:=Nat
def tw2781022839947424989:=Nat
def tw5468852834002624582:=Nat
def tw8091046318632949833:=Nat
def tw9372209453034077029:=Nat
def tw14577515907074655043:=Nat
def tw10311018068455211071:=Nat
def tw13815356283934328933:=Nat
def tw17683396507656584634:=Nat
def tw4408339123313390490:=Nat
def tw6253846977283029491:=Nat
def tw2512109346008023644:=Nat
def tw12924691353477953827:=Nat
def tw2978974906693184925:=Nat
def tw8746112285657857871:=Nat
def tw14857575141914992295:=Nat
def tw14577039817033814335:=Nat
def tw15219366919605175281:=Nat
def tw6342492632119849019:=Nat
def tw16623953244914463815:=Nat
def tw6872816683211051177:=Nat
def tw16989514199924801547:=Nat
def tw523325526090439769:=Nat
def tw3564811937654384780:=Nat
def tw12027105274993680889:=Nat
def tw11081149824549961687:=Nat
def tw3251800837146466521:=Nat
def tw7275536344040381317:=Nat
def tw16382780477658710672:=Nat
def tw12005233969209667234:=Nat
def tw733861196411836789:=Nat
def tw10988584399728182443:=Nat
def tw16636246435878604466:=Nat
def tw1546849297621549292:=Nat
def tw9452758624503644596:=Nat
def tw4116679359956472172:=Nat
def tw946196669601818450:=Nat
def tw10057062414541775929:=Nat
def tw3971715539037216235:=Nat
def tw3272265170020470914:=Nat
def tw541586136026449482:=Nat
def tw5940216818547587308:=Nat
def tw6917511071670254962:=Nat
def tw14795860324964245471:=Nat
def tw13975525472193598033:=Nat
def tw8147169490087771877:=Nat
def tw11429428324375898914:=Nat
def tw4547008632586513156:=Nat
def tw18409405588340059325:=Nat
def tw15297313069550357409:=Nat
def tw13494471698856941266:=Nat
def tw1448675923586173742:=Nat
def tw5033196844250157645:=Nat
def tw242073116983131310:=Nat
def tw3452167165458062822:=Nat
def tw15629889619915854294:=Nat
def tw10984936906151900378:=Nat
def tw3064626864948664741:=Nat
def tw1352025318420729455:=Nat
def tw12526257562369080597:=Nat
def tw5136759804547406805:=Nat
def tw13734961309295869387:=Nat
def tw8499203166272116968:=Nat
def tw226714643378079469:=Nat
def tw17841829826155624117:=Nat
def tw8465048716139900130:=Nat
def tw2633862288861700139:=Nat
def tw8264744565093802467:=Nat
def tw8319774460602678948:=Nat
def tw13776090102218596943:=Nat
def tw11156226546754288904:=Nat
def tw4129492912129791859:=Nat
def tw2736670269572864177:=Nat
def tw2346958116929382956:=Nat
def tw2310281937044997069:=Nat
def tw9119370597108001308:=Nat
def tw16489509419161975280:=Nat
def tw8414602149969239843:=Nat
def tw8662785425897446829:=Nat
def tw9979148190001944105:=Nat
def tw1359360551243231725:=Nat
def tw17951910059170526867:=Nat
def tw6226284110707055020:=Nat
def tw17715663993276192131:=Nat
def tw13968113599691625285:=Nat
def tw16076768251214016275:=Nat
def tw12172908780778640363:=Nat
def tw708958279261918241:=Nat
def tw17812487907532902035:=Nat
def tw15570724267339258766:=Nat
def tw16338734348683375561:=Nat
def tw8133009071435198813:=Nat
def tw13639370501943811729:=Nat
def tw7448741345722383812:=Nat
def tw335892897257160650:=Nat
def tw2276018726511659499:=Nat
def tw17450827744216560415:=Nat
def tw4555058945851463719:=Nat
def tw11909184812747723475:=Nat
def tw1475084285565771142:=Nat
def tw5597661920017624475:=Nat
def tw2293323859405042536:=Nat
def tw7523051228122638351:=Nat
def tw16750990104447711964:=Nat
def tw17139341039964943422:=Nat
def tw17562913985972434021:=Nat
def tw12344548151877521737:=Nat
def tw5704681789681385463:=Nat
def tw4225360739564633960:=Nat
def tw3850323410304137658:=Nat
def tw1968614685492081460:=Nat
def tw11793569680229768363:=Nat
def tw16423290934774609438:=Nat
def tw16554238833212697273:=Nat
def tw13224633524633321563:=Nat
def tw5572316433349960987:=Nat
def tw13178034313092439097:=Nat
def tw4256322764555921351:=Nat
def tw16461563831620245929:=Nat
def tw10689162528019640827:=Nat
def tw1264495331423814882:=Nat
def tw410945368688194585:=Nat
def tw5576686611112107564:=Nat
def tw7467025875395583430:=Nat
def tw13969869226671357817:=Nat
def tw13505679294272652815:=Nat
def tw9173777195343973017:=Nat
def tw11788206442811154881:=Nat
def tw6050082802382921662:=Nat
def tw1746989876239648242:=Nat
def tw2378299205506765740:=Nat
def tw13738006745296003881:=Nat
def tw809877003848895751:=Nat
def tw12009288374447672889:=Nat
def tw10165412176983870316:=Nat
def tw8350046840785124353:=Nat
def tw3481091363648520337:=Nat
def tw542412501863750295:=Nat
def tw15914742287329392556:=Nat
def tw13501210819923391993:=Nat
def tw2085453048915214589:=Nat
def tw18053570941154151335:=Nat
def tw3093785263153317082:=Nat
def tw1632918054399608563:=Nat
def tw3990360382614395543:=Nat
def tw2151833592525485183:=Nat
def tw16529179119131615226:=Nat
def tw3987691842710708452:=Nat
def tw1171293444492847782:=Nat
def tw17172795163152540644:=Nat
def tw11851568963848902884:=Nat
def tw7952667483285772714:=Nat
def tw7755765440015656487:=Nat
def tw5219194843315305529:=Nat
def tw13414153601909853856:=Nat
def tw8587358635160068269:=Nat
def tw9679701310783471108:=Nat
def tw5399611450494778468:=Nat
def tw7194212333049434775:=Nat
def tw16450375414114130544:=Nat
def tw12765801834480644824:=Nat
def tw11291681686118788500:=Nat
def tw1189175685556266425:=Nat
def tw224430275866871966:=Nat
def tw5023055778243766744:=Nat
def tw7966902919819697808:=Nat
def tw9786023976192157554:=Nat
def tw5965590969120533384:=Nat
def tw4678819864821574974:=Nat
def tw2098097536209126963:=Nat
def tw13704177053766763887:=Nat
def tw10010511561032622038:=Nat
def tw6113078305655920281:=Nat
def tw16707775213467922237:=Nat
def tw10169334602367932189:=Nat
def tw4486001739252820703:=Nat
def tw5795849484555588424:=Nat
def tw14835975148079959111:=Nat
def tw6979893878791842550:=Nat
def tw8341846017386676107:=Nat
def tw11933631797789756079:=Nat
def tw8753871822687040306:=Nat
def tw1791982036470562477:=Nat
def tw18211644242528089936:=Nat
def tw3674886215990232583:=Nat
def tw2907664952042353579:=Nat
def tw15839423264352382003:=Nat
def tw9892526290623811962:=Nat
def tw12780223020874971925:=Nat
def tw7740789609942435146:=Nat
def tw807477304470585732:=Nat
def tw16822969586440905103:=Nat
def tw3151333432005975242:=Nat
def tw1471065826914209636:=Nat
def tw3773915767543586543:=Nat
def tw8964856461097557083:=Nat
def tw5536086508494640103:=Nat
def tw9950403278944625146:=Nat
def tw1313860347291165493:=Nat
def tw7363080150301645780:=Nat
def tw11647798814873285813:=Nat
def tw6698606836839066316:=Nat
def tw15407201213122696294:=Nat
def tw13276690993788894372:=Nat
def tw97711041357994067:=Nat
def tw17677244156941575788:=Nat
def tw13665153312810338916:=Nat
def tw13456390177173460634:=Nat
def tw2911072172002656581:=Nat
def tw12058344748605602019:=Nat
def tw13395703556061917889:=Nat
def tw11415177663552618696:=Nat
def tw7187232125746693039:=Nat
def tw9102563783202270360:=Nat
def tw4743306973216864629:=Nat
def tw5104825343525095392:=Nat
def tw1683508260171794685:=Nat
def tw14297419163397529647:=Nat
def tw4147092267802528337:=Nat
def tw8586896883024468352:=Nat
def tw15135175575032687481:=Nat
def tw7989038651424436920:=Nat
def tw9032828247333017225:=Nat
def tw442461966609654168:=Nat
def tw4192233131221767882:=Nat
def tw7755579988494698299:=Nat
def tw13520844649714126374:=Nat
def tw11234173415981264902:=Nat
def tw2783789557956887004:=Nat
def tw8855509203722753264:=Nat
def tw17297885869575317169:=Nat
def tw2185611414333456528:=Nat
def tw17501125810036510404:=Nat
def tw6344849571179546648:=Nat
def tw17566069278612991096:=Nat
def tw12316861288181135099:=Nat
def tw3960005657275070535:=Nat
def tw613140554846321846:=Nat
def tw16902885463883661649:=Nat
def tw11751911060503193325:=Nat
def tw7715769288626705897:=Nat
def tw1641804931924826073:=Nat
def tw11816021866115422704:=Nat
def tw17925820671640987672:=Nat
def tw9725347849130999308:=Nat
def tw5908576374483965390:=Nat
def tw14533984727227263803:=Nat
def tw7927091633117140123:=Nat
def tw13569333746467559715:=Nat
def tw2987106684179348814:=Nat
def tw13675908069009206310:=Nat
def tw15395324594286183838:=Nat
def tw5193641385652765100:=Nat
def tw3755450044970249806:=Nat
def tw5079153187517776528:=Nat
def tw1631290626052379043:=Nat
def tw13306713416834392688:=Nat
def tw11256349091336840104:=Nat
def tw16673490546346266862:=Nat
def tw10213997338576732976:=Nat
def tw1030326073074055701:=Nat
def tw13835758158379025176:=Nat
def tw3598085707107338509:=Nat
def tw4807416568771561657:=Nat
def tw3010539534052600724:=Nat
def tw7749323717556479748:=Nat
def tw10274096861433667735:=Nat
def tw3278461417680598194:=Nat
def tw13203628064753131373:=Nat
def tw17524653506251926642:=Nat
def tw4236080763143334695:=Nat
def tw4387770975742425645:=Nat
def tw10092140208228828197:=Nat
def tw18445553841164430739:=Nat
def tw1118553993620348822:=Nat
def tw11885086643656428016:=Nat
def tw16696004744464222757:=Nat
def tw1678987295789944097:=Nat
def tw9903219705408335297:=Nat
def tw2333906924002789337:=Nat
#check PySem.W.Fast
namespace S83
open PySem L2 XL
theorem walk {l:PySem.W.OpenLaw}{q:Program}{loose:am}{XP:zdW}{YP:zbW}{d:DefRec}{K:Params->Zd} (hn:ae l.most 63) (hdf:XW)
    (hY:(zom,(vT).In h))
    (F:∀(w:World) (mg:Str->Option Value) (fa:Addr) (h:Heap),(vT).In h->h.Ns mainGlobals mg->zcC ->
      ∃ fd:FuncData,(Va "_law_script")/\(M5,(vT).In base,FnOk true l.prog w vT mg base zdS 14 fa fd A4 (xko (K w.params)))) :
    PySem.W.WalkO q loose XP YP l.row.toRowW d [] WF :=
  L2.walk_of (q0:=true) (n:=63) (k:=14) (x:="_law_script") (CX:=fun w=>zdS) (sp:=fun w=>xko (K w.params)) hn au hdf ⟨pV,au,au,rfl⟩ hY F (fun _ _ a ns hl _ hS=>Av a ns hS hl pV)
    fun w H s e s' z=>by obtain⟨_,_,_,_,_,_,_,_,_,_,_,_,_,_,q⟩:=z; exact q
theorem all_mk {l:PySem.W.OpenLaw}{w:World}{K:Zd}{h:Heap}{mg:fH}{fa:Addr} (hfa:bK "law" fa) (TT:∃ t,aL) :
    ∃ fd:FuncData,(∀(s:Shared) (v:Value),BindsTo s fd (jT [v]) [("_law_script",v)])/\(M5,K.In base,FnOk true l.prog w K mg base zdS 14 fa fd A4 (xko K)):=by
  obtain⟨t,T⟩:=TT;have e:=hfa.symm.trans T.g_law;cases e;show(d9,t.d_law,aq s v,fun base _ _=>xv1 T);obtain⟨oc,od,kV,doc,pm,an,cdv,ct,osl,e,lk,hcd⟩:=T.F_law.ex;rw[e];exact .of_eq rfl
#check S83
open PySem PySem.W PyProof.Rows
end
set_option maxRecDepth 100000 in
set_option maxHeartbeats 0 in
theorem PySem.Challenge.cw_rimnotes_k83_whole_seats_that_stay_holds : PySem.Challenge.rw_rimnotes_k83_whole_seats_that_stay.Holds := by
 w_on; o_law; k_head; (case hw=>w_witness2)
 k_fill
 refine S83.walk (l:=PySem.Challenge.rw_rimnotes_k83_whole_seats_that_stay) rfl rfl (fun w h Y=>PySem.W.kIn_of Y) ?F
 case F =>
  intro w mg fa h KX G hmg
  refine S83.all_mk (h:=h) hmg ?TT
  refine' S83.txt_mk (w:=w) KX G ?g_b7 ?g_an ?g_ac ?g_ak ?g_t ?g_au ?g_a ?a_a7 ?F_a7 ?i_a7 ?a_ao ?F_ao ?i_ao ?a_ai ?F_ai ?i_ai ?a_u ?F_u ?i_u ?a_ag ?F_ag ?i_ag ?a_ad ?F_ad ?i_ad ?a_p ?F_p ?i_p ?a_a6 ?F_a6 ?a_ba ?F_ba ?a_meeting ?F_meeting ?a_total ?F_total ?a_be ?F_be ?a_upright ?F_upright ?a_a0 ?F_a0 ?a_exchangeable ?F_exchangeable ?a_am ?F_am ?a_exchanged ?F_exchanged ?a_uncrossed ?F_uncrossed ?a_ar ?F_ar ?i_ar ?a_o ?F_o ?i_o ?a_f ?F_f ?i_f ?a_crowds ?F_crowds ?a_fits ?F_fits ?a_bi ?F_bi ?a_kept ?F_kept ?a_ax ?F_ax ?i_ax ?a_ab ?F_ab ?i_ab ?a_z ?F_z ?i_z ?a_v ?F_v ?i_v ?a_i ?F_i ?i_i ?a_least ?F_least ?a_answer ?F_answer ?a_bb ?F_bb ?a_bh ?F_bh ?i_bh ?a_g ?l_g ?c_g ?k_g ?i_g ?t_g ?a_bn ?F_bn ?i_bn ?a_a1 ?F_a1 ?i_a1 ?a_a2 ?F_a2 ?i_a2 ?a_bj ?F_bj ?i_bj ?a_av ?F_av ?i_av ?a_ah ?F_ah ?i_ah ?a_aw ?F_aw ?i_aw ?a_a3 ?F_a3 ?i_a3 ?a_q ?F_q ?i_q ?a_w ?F_w ?i_w ?a_ay ?F_ay ?a_at ?F_at ?a_bo ?F_bo ?a_as ?F_as ?i_as ?a_b ?l_b ?c_b ?k_b ?i_b ?t_b ?a_ap ?F_ap ?i_ap ?a_aq ?F_aq ?i_aq ?a_j ?F_j ?i_j ?a_r ?F_r ?i_r ?a_h ?F_h ?i_h ?a_n ?F_n ?i_n ?a_m ?F_m ?i_m ?a_aa ?F_aa ?i_aa ?a_s ?F_s ?i_s ?a_l ?F_l ?i_l ?a_x ?F_x ?i_x ?a_c ?F_c ?i_c ?a_k ?F_k ?i_k ?a_e ?F_e ?i_e ?a_d ?F_d ?i_d ?a_af ?F_af ?a_ae ?F_ae ?a_bg ?F_bg ?a_bf ?F_bf ?a_az ?F_az ?a_bl ?F_bl ?a_y ?F_y ?a_aj ?F_aj ?a_a5 ?F_a5 ?a_bk ?F_bk ?a_a8 ?F_a8 ?a_a4 ?F_a4 ?a_bm ?F_bm ?a_a9 ?F_a9 ?a_bc ?F_bc ?a_bd ?F_bd ?a_law ?F_law ?kc_an ?pg_an ?hd_an ?po_an ?sa_an ?mk_an ?a_LeftSide_init ?kc_ac ?pg_ac ?hd_ac ?po_ac ?sa_ac ?mk_ac ?a_RightSide_init ?kc_ak ?pg_ak ?hd_ak ?po_ak ?sa_ak ?mk_ak ?kc_t ?pg_t ?hd_t ?po_t ?sa_t ?mk_t ?kc_au ?pg_au ?hd_au ?po_au ?sa_au ?mk_au ?kc_a ?pg_a ?hd_a ?po_a ?sa_a ?mk_a ?cg ?ct ?n_bx ?n_bp ?n_bq ?n_br ?n_bu ?n_bt ?n_bv ?n_by ?n_b1 ?n_b2 ?n_bw ?n_bz ?n_bs ?n_b0 ?n_b5 ?n_abs ?n_all ?n_bool ?n_dict ?n_enumerate ?n_int ?n_isinstance ?n_len ?n_list ?n_min ?n_range ?n_set ?n_sorted ?n_str ?n_sum ?v_b6 ?v_b3 ?v_b4 ?g_al ?l_al ?ns_al
  case g_b7|g_an|g_ac|g_ak|g_t|g_au|g_a|a_a6|a_ba|a_meeting|a_total|a_be|a_upright|a_a0|a_exchangeable|a_am|a_exchanged|a_uncrossed|a_crowds|a_fits|a_bi|a_kept|a_least|a_answer|a_bb|a_ay|a_at|a_bo|a_af|a_ae|a_bg|a_bf|a_az|a_bl|a_y|a_aj|a_a5|a_bk|a_a8|a_a4|a_bm|a_a9|a_bc|a_bd|a_law|g_al=>delta S83.gI; k_is
  case a_a7|a_ao|a_ai|a_u|a_ag|a_ad|a_p|a_ar|a_o|a_f|a_ax|a_ab|a_z|a_v|a_i|a_bh|a_g|a_bn|a_a1|a_a2|a_bj|a_av|a_ah|a_aw|a_a3|a_q|a_w|a_as|a_b|a_ap|a_aq|a_j|a_r|a_h|a_n|a_m|a_aa|a_s|a_l|a_x|a_c|a_k|a_e|a_d|a_LeftSide_init|a_RightSide_init=>delta S83.fI; k_is
  case F_a7|F_ao|F_ai|F_u|F_ag|F_ad|F_p|F_a6|F_ba|F_meeting|F_total|F_be|F_upright|F_a0|F_exchangeable|F_am|F_exchanged|F_uncrossed|F_ar|F_o|F_f|F_crowds|F_fits|F_bi|F_kept|F_ax|F_ab|F_z|F_v|F_i|F_least|F_answer|F_bb|F_bh|F_bn|F_a1|F_a2|F_bj|F_av|F_ah|F_aw|F_a3|F_q|F_w|F_ay|F_at|F_bo|F_as|F_ap|F_aq|F_j|F_r|F_h|F_n|F_m|F_aa|F_s|F_l|F_x|F_c|F_k|F_e|F_d|F_af|F_ae|F_bg|F_bf|F_az|F_bl|F_y|F_aj|F_a5|F_bk|F_a8|F_a4|F_bm|F_a9|F_bc|F_bd|F_law=>exact L2.fun_mk (by k_is) (by k_is) (by k_is)
  case sa_an|sa_ac|sa_ak|sa_t|sa_au|sa_a=>delta S83.fB; k_is
  case n_bx|n_bp|n_bq|n_br|n_bu|n_bt|n_bv|n_by|n_b1|n_b2|n_bw|n_bz|n_bs|n_b0|n_b5=>delta S83.fN; k_is
  case n_abs|n_all|n_bool|n_dict|n_enumerate|n_int|n_isinstance|n_len|n_list|n_min|n_range|n_set|n_sorted|n_str|n_sum=>delta S83.gN; k_is
  case i_a7|i_ao|i_ai|i_u|i_ag|i_ad|i_p|i_ar|i_o|i_f|i_ax|i_ab|i_z|i_v|i_i|i_bh|l_g|c_g|k_g|i_g|t_g|i_bn|i_a1|i_a2|i_bj|i_av|i_ah|i_aw|i_a3|i_q|i_w|i_as|l_b|c_b|k_b|i_b|t_b|i_ap|i_aq|i_j|i_r|i_h|i_n|i_m|i_aa|i_s|i_l|i_x|i_c|i_k|i_e|i_d|kc_an|pg_an|hd_an|po_an|kc_ac|pg_ac|hd_ac|po_ac|kc_ak|pg_ak|hd_ak|po_ak|kc_t|pg_t|hd_t|po_t|kc_au|pg_au|hd_au|po_au|kc_a|pg_a|hd_a|po_a|cg|ct|v_b6|v_b3|v_b4=>k_is
  case mk_an|mk_ac|mk_ak|mk_t|mk_au|mk_a|l_al=>first|k_is|kernel_rfl
  case ns_al=>kernel_rfl
