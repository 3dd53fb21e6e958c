import PyProof.Rows.All
import Wide.All
import OpenK.AllK
import PySem.Challenge.RW_rimnotes_k82_whole_as_good_as_anew
set_option maxRecDepth 100000
set_option maxHeartbeats 4000000
set_option Elab.async false
set_option linter.all false
set_option genSizeOf false
set_option compiler.extract_closed false
open List renaming length_map→Za,getElem?_eq_getElem→Zb,getElem?_map→Zc,mem_map→Zg,getElem?_eq_some_iff→Zh,mem_of_getElem?→Zj,mem_cons_of_mem→Zl,mem_cons_self→Zm,map_cons→Zo,mem_singleton→Zp,length_append→Zr,map_append→Zs,mem_cons→Zt,range→Zu,lookup_cons→Zx,mem_append→Zy,map_map→Z4,size_toArray→Z5,mem_append_right→Z6,mem_of_find?_eq_some→Z7,nodup_cons→ZC,length_cons→ZD,mem_range→ZG,mem_filter→ZH,getElem_of_mem→ZJ,mem_append_left→ZO,nodup_append→ZP,take_add_one→ZR,length_range→ZT,length_singleton→ZU,pairwise_map→ZW,getElem?_append_left→ZY,length_filter_le→ZZ,filter_cons_of_pos→Jc,filter_cons_of_neg→Jd,lookup→Je,take_length→Jf,getElem?_eq_none→Jg,pairwise_iff_getElem→Ji,length_take→Jl,nodup_iff_pairwise_ne→Jn,sum_cons→Jo,take_of_length_le→Jr,Pairwise→Jt,getElem?_append_right→Jz,filterMap_cons→J6,find?_eq_none→J7,getElem_mem→J9,Perm→JG,map_congr_left→JI,getElem?_range→JJ,drop_eq_getElem_cons→JK,mem_filterMap→JM,find?_cons_of_pos→JV,length→JW,not_mem_nil→JY,getElem_map→JZ,any_eq_true→Ya,pairwise_cons→Yc,take_append_drop→Yf,range_succ→Yj,mem_iff_getElem→Yk,map_take→Yo,map_drop→Yp,any_cons→Yq,eraseIdx_eq_take_drop_succ→Yt,Nodup→Yx,filter_append→Y0,nodup_nil→YD,getD_eq_getElem?_getD→YG,all_cons→YM,find?_cons→YN,map_id→YR,range_succ_eq_map→YZ,find?_cons_of_neg→Qa,perm_middle→Qh,nodup_range→Qi,all_eq_true→Qj,getElem?_set_ne→Qo,find?_some→Qr,map_eq_nil_iff→Qs,filterMap_map→Qz,take_sublist→Q3,ext_getElem?→Q4,append_assoc→Q5,cons→QA,filter_cons→QE,append_inj'→QF,length_eq_zero_iff→QG,getElem?_replicate→QH,filter_map→QQ,append_nil→QR,length_replicate→QS,mem_of_mem_take→Wa,mem_erase_of_ne→Wb,filter_sublist→We
open PySem.W renaming Frag→Zd,mg_of→Zv,isFn→Z2,findIn→ZI,mg_none_of→ZX,keepIn→Jj,fnOf→Jv,kia_one→J4,plainGet→J8,hasDictIn→JD,emptyDict→JE,plainOver→JP,makesIn→Yh,instObj→Yi,codeIn→YC,nsIn→QL,lookIn→QW,kitOne→QX,plainGet_of→Wd,callWith_K→Wk
open Option renaming map_eq_some_iff→Ze,some→ZL,isSome_map→Y9,map_some→Qq,isSome_iff_exists→Q6,bind_some→QB,map→Wj
open PySem renaming wpAny_bind→Zf,wpAny_pure→Zn,Spec→ZK,wpAny_mono→Jh,wpAny_dictEntries→Jw,wpAny_holding→J0,wpAny_truthy_bool→JC,mem_of_lookup→JH,wpAny_call_entry→JL,wpAny_dictEpoch→JS,boot_len→JU,wpAny_callSpecial?_slot→Yu,wpAny_typeNameOfWhole_itemiter→Yv,wpAny_typeNameOfWhole_keyiter→Yw,wpAny_Call_Name_kw→Yy,tupleKind_room_in1→Yz,wpAny_isOneOf_itemiter→Y1,wpAny_passesOwn→Y3,wpAny_loadPart'→Y4,codeAny_builtin→Y5,wpAny_setState_of→Y7,wpAny_newObj_type→Y8,wpAny_setField_rec→YQ,call_meetsIn→YU,wpAny_notOrdered_dict→Qc,wpAny_isOneOf_keyiter→Qd,wpAny_attempt→Ql,plainId_quiet→Qm,codeAny_mono→Qt,wpAny_field→Q0,wpAny_pyIter_list→Q1,wpAny_Call_method→Q2,wpAny_typeOf→QJ,Within→QK,wpAny_execs_nil→QO,sizeLine_eq→QT,wpAny_pyIter_keyiter→QY,wpAny_call→Wh,call_meets→Wi
open PySem.Heap renaming get?_push_of_some→Zi,get?_push_size→Zw,lt_size→Zz,SameBut→Jq,get?_update_self→Yg,size_push→YE,get?_update_other→QN
open Nat renaming le_refl→Zk,lt_of_lt_of_le→ZB,le_trans→ZN,lt_trans→ZQ,ne_of_lt→ZS,zero_le→ZV,lt_of_le_of_lt→Jy,le_of_lt→JN,lt_irrefl→Yn,lt_or_ge→YJ,le_add_right→Qg,ne_of_gt→Qu,lt_succ_self→QC,le_of_not_lt→QD,not_lt_zero→QP,le_succ→QU
open PySem.Value renaming ref→Zq,none→JB,bool→Yb,int→YI,builtin→Qn,str→Q8
open PySem.SeqAt renaming EqAt→Z0,RcNeAt→Z8,RcAt→ZM
open Ne renaming symm→Z1
open PySem.Str renaming ofString→Z3,empty→Q9
open Bool renaming false_ne_true→Z9,and_eq_true→ZE,false_eq_true→ZF,eq_false_iff→Jb,eq_iff_iff→Js,true_and→JX,false_and→YV,not_eq_true'→YX,and_false→Qy,not_true→Wg
open PySem.PassesOwn renaming never→ZA
open Sum renaming inr→Ja,inl→Qk
open Array renaming length_toList→Jk,getElem?_toList→Ju,getElem?_eq_getElem→J5,getElem?_eq_some_iff→YH,getD→Qf,getD_eq_getD_getElem?→Qw,map→Qx
open PySem.F renaming plainAttrs_list→Jm,slot_dict_itemiterator_next→JO,plainAttrs_dict→JQ,slot_dict_keyiterator_next→JT,slot_dict_get→Ye,type_list_append→Yr,slot_list_append→Ys,called_set→YK,slot_dict_items→YT,entry_dict_get→YY,slot_dict_pop→Qe,slot_list_getattribute→Q7
open True renaming intro→Jp
open Int renaming eq_ofNat_of_zero_le→Jx,le_refl→YS,toNat_natCast→YW,zero_add→Qv,emod_lt_of_pos→Wl
open PyProof.Rows renaming callWith_type1→JA,slot_tuple_getitem→Qb,strKind→QZ
open PySem.Calls renaming callWith_builtin→JF,spliced_cons→Yd,spliced_nil→YA,evalArgs_plain→YF
open False renaming elim→JR
open PySem.Around renaming under_plainId→Yl
open PySem.Obj renaming mapSeq→Ym,putSet→QI
open PySem.Paired renaming length→Y6
open Or renaming inl→YB,inr→Qp
open Classical renaming byContradiction→YL
open ForInStep renaming yield→YO
open PyProof renaming noPylong_small→QM
open PySem.Data renaming fields→QV
open LawfulBEq renaming eq_of_beq→Wc
open PySem.NameKind renaming free→Wf
set_option hygiene false
namespace Ab
open Lean
abbrev Tb:=Std.HashMap Name (Array Name×Syntax)
def sub (p:Array Name) (a:Array Syntax) (b:Syntax):Syntax:=b.rewriteBottomUp fun s=>if s.isIdent then (match p.idxOf? s.getId with|some i=>a[i]!|none=>s) else s
def put (t:Tb) (n:Syntax) (a:Array Syntax):Option Syntax:=if n.isIdent then (match t.get? n.getId with|some (p,b)=>if p.size==a.size then some (sub p a b) else none|none=>none) else none
def par (b:Syntax):MacroM Syntax:=if b.isIdent then pure b else return (← `(($(⟨b⟩)))).raw
def tac (b:Syntax):MacroM Syntax:=match b.find? (·.isOfKind `Lean.Parser.Term.byTactic) with|some x=>return (← `(tactic|($(⟨x[1]⟩):tacticSeq))).raw|none=>return b
def pat (s:Syntax):Syntax:=if s.isOfKind `Lean.Parser.Tactic.rintroPat.one then s[0][0] else s
def step (t:Tb) (s:Syntax):MacroM Syntax:=do
 if s.isIdent then
  if let some b:=put t s #[] then return ←par b
  return s
 let k:=s.getKind
 if k==`Lean.Parser.Term.app then
  if let some b:=put t s[0] s[1].getArgs then return ←par b
 else if k==`Lean.Parser.Term.tuple then
  let a:=s[1]
  if let some b:=put t a[0] a[2].getSepArgs then return ←par b
 else if k==`Lean.Parser.Tactic.show then
  if (s[1].find? (·.isOfKind `Lean.Parser.Term.byTactic)).isSome&&(s[1].isOfKind `Lean.Parser.Term.paren||s[1].isOfKind `Lean.Parser.Term.byTactic) then return ←tac s[1]
 else if k==`Lean.Elab.Tactic.Ext.ext then
  let a:=s[1].getArgs.map pat
  if let some b:=a[0]? then
   if b.isIdent then
    if let some b:=put t b (a.extract 1 a.size) then return ←tac b
   else if (b.find? (·.isOfKind `Lean.Parser.Term.byTactic)).isSome then return ←tac b
 return s
def rp (p:Syntax):TSyntax `rintroPat:=⟨mkNode `Lean.Parser.Tactic.rintroPat.one #[if p[1].isNone&&p[0][0].getNumArgs==1 then p[0][0][0] else mkNode `Lean.Parser.Tactic.rcasesPat.paren #[mkAtom "(",p,mkAtom ")"]]⟩
def nm (c:String) (s:Syntax):Term:=mkIdent (.mkSimple (c++toString (s.isNatLit?.getD 0)))
def step2 (s:Syntax):MacroM Syntax:=do
 let k:=s.getKind
 if k==`Lean.Parser.Term.anonymousCtor then
  let a:=s[1].getSepArgs
  if let some n:=a[0]?.bind (·.isNatLit?) then
   if n>40 then
    let b:Array Term:=(a.extract 1 a.size).map (⟨·⟩)
    return (←`($(nm "n" a[0]!) $b*)).raw
 else if k==`Lean.Parser.Tactic.obtain then
  if (s[2][1].isNatLit?).isSome then
   let q:=s[1][0][0][0][1].getSepArgs.map rp
   let h:Term:=⟨s[3][1].getSepArgs[0]!⟩
   let f:=nm "i" s[2][1]
   return (←if h.raw.isIdent&&h.raw.getId.isAtomic then `(tactic|(revert $h:term;refine $f ?_;rintro $q*)) else `(tactic|(refine $f ?_ $h;rintro $q*))).raw
 else if k==`Lean.Parser.Tactic.rintro then
  let a:=s[1].getArgs
  if let some j:=a.findIdx? (fun p=>p.isOfKind `Lean.Parser.Tactic.rintroPat.binder&&(p[2][1].isNatLit?).isSome) then
   let f:=nm "i" a[j]![2][1]
   let q:=a[j]![1][0][0][1].getSepArgs.map rp++(a.extract (j+1) a.size).map (⟨·⟩)
   let p:Array (TSyntax `rintroPat):=(a.extract 0 j).map (⟨·⟩)
   return (←if j==0 then `(tactic|(refine $f ?_;rintro $q*)) else `(tactic|(rintro $p*;refine $f ?_;rintro $q*))).raw
 return s
end Ab
local macro_rules|`(mutual $cs* end)=>do
 let d:=cs[0]!.raw[1][3]
 unless d.isOfKind `Lean.Parser.Command.whereStructInst do Lean.Macro.throwUnsupported
 let mut t:Ab.Tb:={}
 let mut o:=#[]
 for f in d[1][0].getSepArgs do
  let f←f.rewriteBottomUpM (Ab.step t)
  t:=t.insert f[0][0].getId (f[1][0].getArgs.map (·.getId),f[1][2][2])
 for c in cs[1:] do
  if c.raw.isOfKind `Lean.Parser.Command.check then
   let e←if c.raw[1].isIdent then `(command|end $(⟨c.raw[1]⟩):ident) else `(command|end)
   o:=o.push e.raw
  else o:=o.push ((←(←c.raw.rewriteBottomUpM (Ab.step t)).rewriteBottomUpM Ab.step2).rewriteBottomUp (·.setInfo .none))
 return Lean.mkNullNode o
mutual
def a where
ae a b:=a=(some b)
aa:=by omega
cQ a:=(a:Int)
fS a b:=List (a × b)
aQ a b:=by rw[a];exact b
dB a:=Option a
ag a b c d:=by obtain⟨a,b,c⟩:62:=d
lH a b:=xa (pv a) b
az:=by decide
au a b:=fun a b=>?_
bA a b:=a->(b->Prop)
ah a b c d:=by have a:=b;have c:=d
aC a:=some (.ref a)
cD a b:=⟨_,a,b⟩
eZ a b c:=(ae,a[b]?,c)
KD:=by decide +kernel
ao a:=fun z=>a
aR a b:=(ae,H a,b)
aG:=by ext KD
aL:=p.1
aB a b:=by ext aQ a b
FT a b c:=Inv X pins a b c
ay a:=if_neg a
aq a b c d e:=a/\(b/\(c/\(d/\e)))
af:=List V
cP a b:=(FT Z a b)
cV a b c d e:=⟨a,b,c,d,rfl,e⟩
bg a:=((a).2).1
aj:=by simp
aT a:=if_pos a
ap:=List Str
ai:=List Seat
fc a:=(lH a xg)
bS a b c d:=⟨63,a,b,c,d⟩
aU a b:=(eZ a i b)
bL a b c d e:=fun a b c d e=>?_
m6 a:=(cP H a)
aW a:=SqL.of a
aH a b c:=by exact⟨a,b,c⟩
eP a b c:=fun a b e=>c
am:=List Pt
aw a b c d:=by have a:b:=c;refine d
bb:=.ref a
bo a:=(H a)=none
bX a:=((a).2).2
dA a:=decide a
av:=(m6 s)
bD a b c d e:=⟨83,a,b,c,d,e⟩
ax:=List Addr
cN a:=SqT.of a
bc a b c d e:=a->(b->(c->(d->e)))
br a b:=by refine a;refine b
gD a:=⟨_,a⟩
cL a b c d e:=⟨45,a,b,c,d,e⟩
aM:=pv 0
eW a:=(bA a Shared)
du a:=fun a=>?_
bR a b c d:=⟨44,a,b,c,d⟩
aK a b c:=fun a b c=>?_
aA:=hmm hr
aY:=i+1
hV:=fun _ _=>rfl
gX a:=Same H a
aP a b c d:=a/\(b/\(c/\d))
fM a b c d:=fun a b c e=>d
eO a b:=a=(.ref b)
aO a b:=xz K a b []
dZ a b:=by obtain⟨a,rfl⟩:=b
aE:=List Pr
aD:=CXo P w
cA a:=(cD rfl a)
aZ a b c:=xt a b (xm c)
aI:=Seat->(dB Str)
aS a b:=by exact⟨a,b⟩
aF:=Txt w K mg t
gm a b:=(lH a (fc b))
dE a:=a=false
aV:=(aL).nm
aJ a:=(bL vs H Q E a)
ba:=x.1
jv a:=by refine(cD a ?_)
cc a b c d e:=by obtain⟨a,b,c,d⟩:63:=e
eY a b:=by exact (absurd a b)
gB a:=by exact a
bz a:=some (.int a)
yY a:=(fS Addr a)
bv a b c d:=a->(b->(c->d))
mV a:=(bA a Hp)
jh a:=((a).1).nm
aX:=List Value
dD a:=(a:Str)
aN:=model X.prog X.w
cW a:=by have:=a;omega
jD a b:=by obtain rfl:a:=b
fX a:=xa a xg
iO a:=s1 _ _ a
dk a b c d e:=⟨121,a,b,c,d,e⟩
cR:=by subst e
fF a b:=Q (.ref a) b
bi:=x8 (pv 0) rfl
cp a:=⟨rfl,a⟩
cC a:=xl (xv a)
eA:=List Key
bj:=(yY Obj)
cU a:=a<=sizeLine
hR a b:={ cls:=.type a,data:=b }
dM a b:=⟨a,b,?_⟩
dy a:=s2 _ _ a
bO a b:=(aB,xj a,b)
bF:=(gX H')
bI a b c:=by rw[a] at b;cases c
bW a b:=by rw[a,b]
eK a b:=fun i a=>b
cO a b:=(eZ a j b)
dH a b:=⟨a,b,rfl⟩
dX a b:=by refine⟨a,b⟩
cJ:=k+1
bu:=Zk _
gT a b c:=(bS a rfl b c)
bq:=(eW Value)
lG a b:=.ins a dx b
bp:=model prog w
bJ:=p.2
pL a b c d e:=let a:=b; (let c:=d; e)
kh a b:=by rw[<- a];exact b
bn:=xan aG
cq a b c:=by rw[a,b];exact c
mG a b c:=⟨a,b,rfl,c⟩
iD:=["self"]
dO:=xag _
fA a b c:=upd a b (.tup c)
eJ a b:=(dA,a=b)
ku a b c:=by show(ag,a,b,rfl,c)
cy:=(bg x)
bV a b:=by rw[a] at b;cases b
bw:=(fS Key V)
cX:=x.2
cG a:=s5 _ _ a
bB:=Str->(dB Seat)
fY:=(rnd mask h r).1
bC a b c d e:=by have a:b:=(fun c d=>e)
bK a b c d:=⟨82,a,b,c,d⟩
bP a:=by refine (Zf a)
bG a b:=(mg a)=(aC b)
sI:=(fS Seat Int)
bE a:=Zv X G a
bZ:=List α
cH:=(cQ i)
eF a b c d:=(cV 83 a b c d)
gz:=xat hr
gO a:=eval a X.env
b6 a b c:=by rw[a] at b;exact c
bH a:=(Z2 K (.ref a))=true
bM a:=xw (Same.refl _) a
bT a b c d:=(a=b)/\(c/\d)
fw a b c:=upd a b (.lst c)
FX a b:=(dE,a == b)
iP a b:=(a,.ref b)
m7 a b:=[a,.int b]
eR a b:=(H a)=(some (.tup b))
cS:=(gB leS2)
d9:=s.2
lE:=(cQ 0)
b8:=(dB V)
FS a:=(gD (aW a))
bN:=Seat->Int
jw a b:=xai (top a) b
cI a:=by simp[a]
b9 a b c d:=fun a b c d=>?_
bY:=(aT rfl)
d6:=(bX p)
ju:=(gD rfl)
bQ:=Str->Int
FW a b:=ite2 (du a) b
fL a b c:=fun i a b=>c
eE a b:=by rw [a];exact b
iZ a b:=["self", a, b]
cm a:=s4 _ _ a
eD a:=by exact (.inl a)
fG a b c d:=(bD a b rfl c d)
eC:=x9 ps
cT a b:=by ext kh a b
rJ a b c:=by show(jD,a=(Zq b),c)
fU a:=by exact (.inr a)
cE a b:=by show(aQ,xj a,b)
bU:=Str->sI
mE a b c d:=(cL a T.c_a b c d)
rQ a b c:=(dk a b _ _ c)
lD:=(cQ w)
oA a:=(eP b u a)
oW a b c:=by show(ah,a,su_e b eu,c,ug_e eu)
eG a:=by rw[a]
eB a:=by rw[a];rfl
cu a b c d:=by have a:b:=c;refine d
cK a b c:=if (a=true) then b else c
ip a b:=[a,.ref b]
Bg a:=["picture", a]
kZ a b c d e:=(ae,upd a b c d,e)
iE a:=.str (xau a)
o8 a c d:=∀ b u,((b≠a)->(c->d))
im a b:=by refine(dM a b)
cF:=pv 1
fR a:=((a).isSome)=true
dC a:=Zt.mp a
cB a b c d e:=by have a:b:=c;have d:=e
iW a b c d:=by obtain⟨a,b,c⟩:43:=d
iy a b c:=by obtain⟨a,b,_⟩:62:=c
iL:=(cQ h)
gS a b:=(lH a (fX b))
eQ a b:=upd H a b
j7 a:=fun Z H Q=>a
gg:=.inl rfl
gP a b:=xa a (xa b xg)
ir:=s.1
eX a b:=⟨a,rfl,b⟩
um:=(cQ j)
dw:=pv 4
dF:=(ao,nomatch z)
cM:=_::_
d4 a b:=by rw[a,b];rfl
gM a:=(cQ (a:Nat))
dL a:=(cD a rfl)
eI a b:=absI (a-b)
kL a b:=(cV a _ rfl (cN b) ?_)
kB a:=xj (Z1 a)
IY a:=itP pw ss prs a
jR a:=by cases a;rfl
dU a b c:=show (a=b) from c
vw a b:=show (a=true) from b
fh:=fun _=>none
gV a b:=(a-b).toNat
om a:=xj (xi e a)
gq a b c:=upd a b (.dK c)
vX a:=way mask h a
cZ:=(bo b)
cY:=Array Nat
dS a:=fun p hp=>a
db a:=xa2 I q a
kQ a:=by rw[a];omega
df:=List Int
dc:=(fS eA V)
dQ:=i<n
iY:=(aR b u)
jS:=.lst (qs.map V.ref)
ub a b:=(FW a (du b))
mS:=e::es
iN:=kv.1
fK a:=s3 _ _ a
iH:=I.tok _
dJ:=(aC a)
dI:=.int i
d7:=x0 s
mD:=(mV St)
sR a b c:=IsTupleKey knd a b c
dN a b c:=by have a:=b;refine c
ij a b:=by by_cases c:(a=b)
gR a b:=(ae,H' a,b)
dP a:=s6 _ _ a
wJ a:=Vals a us
dG:=(fS Str ap)
gf:=Zw _ rfl
fe:=by cases rx
jN:=[bb]
uV:=by simpa using hb
dW:=by assumption
me:=by split<;>omega
dR:=fun _ _ _ _ _=>xa3
mO a b:=(dA,a∈b)
kY:=(cN hq)
iG:=asked s
fO:=Str->(dB Value)
fT a b c:=by show(dX,a,au b c)
dY a b c:=by show(ag,a,b,rfl,Zg.mp c)
xE a b c:=(ae,ZI K (.ref a) b,c)
uZ a:=xac xaq (pv a) xo hV
jQ a b c:=fun a=>(b,c)
gL a:=by ext cW a
d8 a:=by rw [(ay a)]
mL:=mask+1
kN:=Same.refl _
gQ:=(iO hp)
lO a b:=(aR,a,.tup (xas b))
vW a:=(lG t.C_t a)
kD a b c d:=cells w a b c d
gH a b c d:=(gT a (FS b) (au c d))
tP a b c:=by have e:(a=b):=c;ext cR
fQ:=⟨az,az⟩
fE a:=⟨a,?_⟩
ib a b c d e:=⟨64,a,b,c,d,e⟩
mC:=(cQ w')
fJ:=pv 3
f7:=Int × Int
zE:=(k,x)
tG a:=(fM b u nb a)
iM a:=(rQ _ _ a)
fP a b d:=∀ c u,((c≠a)->(b->d))
jT:=tupleKeyHash knd k
ff:=xbb (x9 ps) cs
fb b:=⟨a,b⟩
jB a:=⟨a,[]⟩
iF a b c:=⟨a,(au b c)⟩
gW a:=fun h=>a
wC a b c d:=⟨a,b,c,rfl,d⟩
kT a b c d:=if (a<b) then c else d
gY a c:=∀ b,(a->c)
eS a:=show a by omega
i9:=.ref d
f8 a:=some (.str a)
iK:=(cQ n)
jt:=(dB Int)
mT a b c:=by have a:(b=false):=c
eV:=(fS κ V)
rP a b c:=(bR rfl a b c)
ii:=Zb lt
iI a:=(eP b xs a)
i4:=(jh p2)
i0:=(jh p1)
h8 a:=(Zh.mp a).1
kW:=by ext dZ t rx
mz a b:=(bR a az az b)
ft:=by cases h
kH a b:=fun v a=>b
gU a b c:=by refine⟨a,b,c⟩
fW:=j+1
gF a b c d:=by exact(bS a b c d)
fH:=pv 2
jg:=ZV _
gC a:=(aB Za a)
fV:=P0 a
fD:=(fc 1)
fC:=xbi aG
xT a:=starEach a X.env
gu:=P0 a b
gc:=P0 a b c
fZ:=P0 a b c d
jM:=1+um
jV:=["self", "name"]
gb:=RelV y u
fj b:=fun⟨a,h⟩=>b
gK a b:=by obtain⟨a,q⟩:=b
jr a:=by rw[a];simp
wF:=by subst this
gE:=by cases ry
ut a:=a<sizeLine
h9 a b c:=by have a:=b;rw[c] at a
rH:=List K
i8:=(bg p)
ur a:=(eP b o a)
ul:=id pic
jb a:=by show(eY,rfl,a)
mN a c:=(fM b o a c)
iQ a b:=xac xay (pv a) b hV
iJ:=2 ^ 62
yw a:=runEnd mask a
oy:=(vX n)
iC:=by ext dZ t' ry
gG a b c:=xp (pN a b) (xp (pN c b) xam)
jP a:=fun y=>a
EV a b:=by obtain⟨dx,a⟩:=b
gZ a:=by rw [a] at h
hX a b c d:=by obtain ⟨a,b,c⟩:62:=d
qM a:=some (some a)
lJ a b:=hN _ _ a b
hW:=.str pt.nm
gJ:=Array Value
hJ a:=by ext jv a;refine (sq2 ?_);intros
j6 a:=(mG rfl _ a)
jW a:=by show (lE<a);decide
sZ:=(bA Hp VK)
kP:=Same H1 H2
lq a:=xbp (xbf a)
lF a:=⟨dx,a⟩
m5 a:=fun x=>a
mW a b:=fun a s'=>b
jq a b c d:=if (a=b) then c else d
js a b c d e:=by obtain⟨a,b,c,d⟩:82:=e
ig:=Zm ..
zm:=bits h
oh a:=xu xaz a xo
qi a b:=(fw a b [])
ie:=(b,r)
lK a b c:=Dv K H a b c
xI:=("picture",bb)
vE a:=way t.mask h a
hU:=xad w ps srt
wI a b:=congrArg a b
jo:=by simp;omega
wc a b:=fun (a:Nat)=>b
ia:=by exact .nil
jn:=s.heap.objs.size+1
yC:=s.toks+1
hZ:=(cQ h')
iB:=(dB Addr)
kg a b c:=(lH a (gm b c))
rS a b:=by exact (.cons a b)
jf:=P1 a
jA:=P1 a b
iX:=P1 a b c
iT:=P1 a b c d
jG a b c d:=by ext cc its a b c d
jj:=(ae,s.heap.get? b,o)
wn a:=xu xbj a xo
l9:=Q .non H'
og a:=fun b hb=>a
je a b c:=xu a b (pv c)
nJ a:=(false,(gO a))
nT:=(gm 1 2)
o7 a b c:=xa5 a (xa5 b c rfl) rfl
jI a b:=xao a b xab
h7 a:=fun s hs=>a
oU:=(iZ "side" "row")
mq a b:=by obtain⟨a,e⟩:=b
jF a b c d:=by have a:b:=c;exact d
j4 a b c d e:=by obtain⟨a,b,c,d⟩:44:=e
qD a:=show a by decide
i7:=(cQ k)
lC a b:=by show(aQ,ay a,b)
pD:=.inr pt.nm
jc a b c d e:=(a=b)/\(c/\(d/\e))
Ck a:=(cA (ub a a))
iR:=nAt mask h r
nO a:=(isNm a)=true
iw:=(fS Int Int)
i6 a b c d:=(fA a b (m7 c d))
nH a b c:=by show(ag,a,b,rfl,Ze.mp c)
iu:=(Bg "pairs")
rG:=(iE b)
yU a b:=by refine' (xa a b rfl)
sr a:=(H a)=(some (.dK kvs))
pG a b:=(sR s.heap a b)
kO:=valV kvs k
lu a b:=(xE a b none)
zt a:=by ext rJ u a rx
lW a:=.inl (SqL.of a)
jp:=I.ok.hd hc
iA:=(au b hb)
iz:=s1.trans s2
pK a b c:=xae a (pv b) c dO
nI:=X.pn++pins
ld a:=⟨a,rfl⟩
jz:=by rfl
uy a b c d e:=⟨102,a,b,c,d,e⟩
qZ a b:=by have a:=(su_e b eu)
jO a:=tp _ _ a
i5 a b c:=upd a b (.dT c)
iS:=(fS Str V)
lB:=(bX x)
j3 a b c d e:=(bc a b c d (fF e H'))
vd a b:=(H a)=(some (.lst b))
ja a b c d e:=by have a:(b≠c):=(ne_f d e)
jy:=(iO e)
wA:=s∈al
wz:=s∈ss
oH a b:=(bW,Zb a,b)
jd a b:=(a,V.str b)
tM:=(aR c u)
kq:=xm st
uq a:=xax lens a
kU:=(eO x a)
lA:=(uZ 1)
nE a b c d:=xbg ZA rfl a (pN b c) d
pE a:=Pic.same a pic
vK:=(dH p hp)
pF a:=(fM c u nc a)
O3 a b:=xak a rfl T.n_len JU b
j0:=KV kvs vs
iU:=by subst hP hw hK
FV a b:=⟨rfl,a,b⟩
uX:=by simpa using e
qS a:=fun _ _ z=>a
kI a:=by rw [(aT a)]
zT a:={ s with heap:=h',toks:=a }
zG a b:=∀ n s,(a->b)
jL:=pv 6
mK:=.str x
rF:=(bo p)
jJ a b:=by refine (thn a b)
mF a:=by show(jv,cC a)
jC a b:=fI K C_a a b
jH a:=(jw 62 a)
mM a:=fun u e=>a
jZ:=Tups H H'
jK:=pM 0
sD:=itP w ss prs k
zO:=by rw [Zc,Ze] at hx;ext ku qa hqa hx
jE:=h<=16
jx:=xbl az
XJ a b:=backTo a (starEach b X.env)
RU a b:=(cV 45 rfl a rfl b)
zqC:=xaa az (xaa az xbm)
kE:=nd.2
wm a:=ys.length=a
jU:=by simpa using c
lI a c d:=by have a:c:=(oA d)
BC a b:=DGet.k (k:=a) b
mj:=List Env
jY:=List Expr
kf a:=(mg a)=none
B3 a:=(so a)=none
mY:=P2 a
uj:=room a
oa:=xav P w
j9:=Str->ai
mJ:=P2 a b
nB:=xav X.prog X.w
mh:=P2 a b c
lY:=P2 a b c d
ki a b c d:=by have a:(b≠c):=(ao d)
ui:=(mV V)
kG a:=ZX X G a
mP a b:=(0<=a)/\(a<=b)
kC a b:=Z1 (xi a b)
jX a b:=Meth K t.C_a a b
j8:=(IY cJ)
kX:=(wJ xs)
wB a b c:=(bD a H b ju c)
kR a b:=xl (xao a b xab)
yW a b:=(bS _ a rfl b)
LO:=(yw fY)
kS:=(au p hp)
NX a b c:=(vW,putF (Z3 a) (.ref b) c)
kn:=w<=30
zN:=(ae,X.env.cells.lookup x,c)
An a:=by show(eY,vw false a,Z9)
nD a b:=KasT.kasWp cmp a b s
j5:=hf it aj
pQ a b c:=by ext cq a b c
Kb a b c:=show (FX a b) from c
K9 a:=show a from r
rL a c:=∀ b u,(a->c)
lz a b:=by refine a;refine b
nu:={ s with heap:=h' }
oC a:=by obtain rfl:=a
qp a:=s8 _ _ a
mR:=.bl _
lT:=X.calm=true
rR a b:=by show(aH,a,rfl,b)
lN:=by refine (io ?_);intros
Fw a b c d:=(cL a T.c_ao b c d)
qO:=(cC xck)
oF a:=(eK hi a)
mI:=xl xbw
kM b:=(ae,h.get? a,b)
kK a:=by show (a<1000);decide
mZ a b c:=by show(iy,a,b,id c)
lv:=xbx st
yp a b:=.Call a b [] pos
kJ:=o.data=(.dict es ep)
Hs a b:=(H2 a)=(some (.lst b))
sH:=(so z).isSome
lQ:=PrsL H prs qs
pk:=(aU kvs zE)
lU a:=(O3 xa1 (fc a))
Dl:=(iP "lengths" dl)
Ev:=xbe ps srt
rK a c:=∀ b o,(a->c)
pB:=fun _=>rfl
vV a:=∀ H',(bF->a)
mH:=.str _
mX a b c d e:=by have a:(b=c):=d;refine e
oG a b:=xj (xi a b)
tW:=.str nm
ou:=(bo l)
mU a:=(aO a iD)
tO a:=.tup (xas a)
lM a:=(Jj K (.ref a))=true
AE a:=(FX a sysModules)
n8:=iteF ?_
mf:=RelV v u
oq:=(IY k)
mw a:=Q (.int a) H
pR a:=Q (.bl a) H
vv:=(ur,Zi _ e)
Ia a:=valV kvs (.inr a)
mQ:=y::ys
va a b:=(H' a)=(some (.tup b))
qx a b:=OpR X (compareOp a) b
lP:=EP X pins Z Q
CC:=(s,l)
n6:=al++[s]
lS:=HOk P w H h
tK:=Pv i Z H
mB:=zm % mL
sL:=by show(EV,hp,k.ins)
lR:=xbv lD iL ps
lX:=Tab t es L
nA:=fun _ z=>(nomatch z)
lL:=fun _ _ _ _ _ z=>z
lZ:=N->(dB S)
mr a:=fun D Z H=>a
zqB a:=(cV qd _ 0 _ (RU kY (cA a)))
sM a b:=lt (g p a) (g p b)
zy a:=⟨a,aa⟩
qo a b:=by rw[a];refine b
DT a b c:=if a then (some b) else c
o9 a:=a<s.heap.objs.size
pq a b:=by have:=a;rw[b] at this
nG:=["picture"]
Ef:=by simpa using this
o4 a:=fun _ _ _ _ _=>(xal a)
nZ:=List DV
xK a:=some (.builtin a)
oO a:=s7 _ _ a
rE:=(cQ 1)
on:=.int _
nY:=(aC ln)
qU:=(aC da)
uh:=.int x
nX:=(ao ?_)
oN a:=(eO v a)
zl:=lens n
oz a:=xl (xap a)
BX:=c≠d_o
nS:=(cp rfl)
nh a:=by ext jv a;refine (sq3 ?_);intros
rO a b c:=(1<=a)/\(b<=c)
oI:=p::r
nW a b:=pS a sc_z.nd b
pP:=al p hp
oM a b:=by show(eE,xj a,b)
nK a b:=(gT a (FS b) ?_)
yT:=hf b hb
w4 a:=(H a)=(some (.dT kvs))
nF a b c:=by obtain⟨a,b⟩:=(Zh.mp c)
tJ:=RelV x v
nR:=RelV x u
A4:=(H' b)=none
vS:=(eO y q)
oB a c d:=(kZ a c d b u)
si:=Kp.kstep room so ho
np:=by rw[Za];exact (xb2 aa)
pJ:=ns++[nm]
Xm a:=(aR,a,.tup (k.map kV))
vJ:=p.nm≠nm
Eu:=Same H2 H'
zbY:=Addr × Value
nQ:=(vE m).j
qC:=SqL K H a xs
sU:=by ext tP b it uV
BB:=by show(im,Pm,?_)
ng:=(FX x (dD "__debug__"))
zk:=prs[k]
nN:=PE X a ta
nU a:=(aZ iD iD a)
oE a b:=by ext iW a b q h
oZ:=(ae,asked s,a)
xD a:=by simp only[a,ZF,if_false]
qQ a b c:=tSeq a (tSeq b c)
m9:=(dB,Int × (Str × Seat))
nM:=S->(dB N)
pb a b c d e:=by obtain⟨a,b⟩:=c;ext aS d e
vD a b:=by show (a<b);omega
rD a b c:=by subst a;ext bI b c c
FR a b c d:=by obtain⟨a,b,c⟩:81:=d
vt a c:=if b then a else c
uB a b c d:=by rw[a,b] at c;exact d
oR:={ s with toks:=yC }
Wv a:={ D with nx:=a,ct:=a,bk:=D.nx }
zF a b:=a=(decide b)
rg a b:=(ae,H2 a,b)
ug:=.ref b
rC:=.ref x
pY:=.ref l
qm:=pv 5
zJ a:=by refine (.inr a)
pX a b c:=(lH a (gP b c))
wy:=.int y
we a b c d:=by have a:(((b).length)=c):=d
qg:=xj nb
uF:=P3 a
rB:=(aT c)
qX a b c d e:=by ext aw a b c d;refine e
pZ a b c:=by show(br,kL a b,c)
pW:=lno aG
wu a b c d:=(cL a T.c_t b c d)
uf:=P3 a b
CB:=own n
tI:=P3 a b c
sY:=P3 a b c d
o6:=Array DictEntry
rA:=ZZ _ _
yS:=(iO hk)
vk:=(ae,H' c,u)
uz:=(k,v)
pT a b:=fI K C_ao a b
qh a:=(jw 52 a)
pV:=2 ^ 64
pj:=(Bg "names")
qT:=s _ _ e
pI:=A0->Prop
yR:=(kQ Za)
pU:=xb9 st
Bb a b:=xb6 (xao a b xab)
p8:=x::xs
p5 a b d:=(kZ a b d c u)
wH a c:=fun b a q=>c
BH a b c:=[a,.int b,.int c]
sC:=xad w' ps srt'
qj a:=by ext yU xo a
sj a:=(o8 a iY (ae,H' b,u))
pH:=(gm 0 1)
EA a b:=.hand a b asked s
o5:=shO own crowd g
yo:=(aB e Jp)
se:=es'.map (fun x=>(Zq cy))
qy:=by subst ex;ext zt a
Rh:=by have l2:=r2.length
Bx a:=Nat->(Nat->a)
yB:=D.nx Z H
oY:=Z.set i (some v)
Bt a b:=∃ m',((m'<a)/\b)
CZ a:=by let Pm (σ':L2.St) (H':Hp):Prop:=a
pd a:=(t.slot a)=.empty
pA:=(bA A0 A1)
oX:=shR rent asked g
oP a b c:=by obtain⟨_,rfl⟩:=ry;ext aH a b c
oQ:=A0->(A1->(bA A2 A3))
uP:=Geo.upL pt.x pt.y r
MI a:=by show(rJ,v,_,ry);ext cc its2 r2 t2 z2 a
oS:=Gvn H lg prs qs h
rT a:=dr.same a
sE a b:=by rw[z,a] at b;cases b
sT a:=by rw[a];decide
qw:=by simpa using h1
rX:=[it]
qN:=List Nat
Et:=(dB Value)
rq:=(aC d)
wb:=(aC pz)
EJ:=.str p.nm
qW a b c:=upd a b (.own c)
rp a b c d:=by show(ag,a,b,c,Zg.mp d)
rW a b:=(eP a b ?_)
Br:=.inr p.nm
vc:=(cU xs.length)
zcN:=Int × Value
rb a:=(ZH.mp a).1
ro:=YB rfl
Cj a b:=(m7,.int a,b)
CA:=Z[i]?
rV:=by simp at e
qY a b:=by show(fU,⟨a,b⟩)
FQ:=Zi _ q
qG a b:=Meth K t.C_ao a b
De:=I.hok.fresh (Zk _)
sA:=prs.length<=12
vR:=.int 0 0
tF:=(aU xs x)
ua a b:=(fG a _ b ?_)
EI a:=(eZ crowd k a)
rN:=g i j
qu:=by rw[Za];exact (BIG aa)
qP a b c:=[a,.ref b,.ref c]
Bw a:=fun σ' H'=>a
qL:=(gS 0 xo)
uD a:=(wI JW a)
tE:=xd2 scope
Fs a b:=ZQ (aa:a<b) az
MB a b:=(ae,ps.find? (fun p=>(eJ p.nm a)),b)
Bq:=(lG C fs)
tZ a:=fun z hz=>a
uo a:=(fL y H a)
ux a b:=(eF a H I b)
qJ:=k _ _ gg e
qR a c d f g:=by have a:(o8 c d f):=(tG g)
qI:=(fS eA zbY)
A5:=by simp at e;ext cR
rM:=q::qs
qv:=relabel scope X.env
qE:=N->(List S)
Ac a b c d e:=(ae,K.lookup a,⟨b,c,d,e⟩)
qH:=(au H1 s1)
uI:=es'.getD i ([],0,.none)
qF a:=(mG,_,_,.inl a)
rh:=Gl X x
re a b:=xbt gz a b hV
qV a b c:=xcw gz a b c rfl
HV a b:=.ask crowd asked a b
qK:=(l+r) / 2
qr:=["self", "name", "x", "y"]
qz:=Sts H do_ ss
FZ a:=xak xb7 rfl T.n_isinstance boot_isinstance a
N8:=1+((c1' / 8) % m)
VM a b:=envOfC qual a s.heap.objs.size f b
znW a:=#[(.int lo t),(.int hi u),(.int a v)]
Do a b c:=xcx (v:=(.ty a)) rfl b c rfl
sJ a:=decide_eq_false a
wj a:=a=ps.length
tN a b:=by obtain⟨e,a⟩:=b
sQ a b c d:=by obtain⟨a,b⟩:=c;refine d
tX a b c d:=by rw[a] at b;ext eY c d
wT a:=X.s₀.heap.objs.size<=a
wp a b:=by have:=a;ext cW b
rZ a:={ s with heap:=a,toks:=tk }
tf a b c d:=by obtain⟨a,b,c,_⟩:63:=d
uQ:=∀ s,((fR iG)↔wA)
uY a b c:=by obtain⟨⟨a,b⟩,_⟩:=(id c)
Fq a b:=(ae a (g,b,s))
wK a b c d:=(aU a b)/\(c/\d)
uC a:=s58 _ _ a
zr a:=by exact (SqL.of a)
wE a b c d e:=by ext ah a b c d;refine e
wa:=(aC sc)
yQ:=(aC la)
yu a:=(X.mg a)=none
ue:=(ay c)
tV:=(ay aa)
tU:=ok_af T
zj:=(fc 0)
ud:=some v
yF a b c d:=by ext br a b;ext br c d
vT a:=by refine(cD rfl a)
tT:=(gX H2)
tD:=(gB leS3)
vN a b c d:=(bv a b c (fF d H'))
tS:=(cp ?_)
su:=(ae,h.get? b,o)
zD:=.bl b
uE:=v::r
Si:=Zp.mpr rfl
uc:=(eB e)
tY a b c d:=(upd a b c d)=none
K2:=(om hdx)
sX:=(aU X.N x)
uA a b c d:=by show(mT,a,b == c,d)
wD:=by exact (Zz e)
sP:=ns++[pt.nm]
sO:=.Name x pos
sG:=xad w' ps srt
tz:=PE X e te
sW:=xaj (pv 1)
TK:=F i y H'
zcg a:=Run room a so ho cs
Ro a:=Run Ev a so ho cs
D1:=xde (xbk hr)
sV:=totI w prs
uG:=by refine (gx ?_);refine (fq ?_);intros
r8:=(ae,s.heap.get? d,o)
K8 a:=(eK,j,.int a)
Ci a b:=(BC,.inr a,b)
tw:=(B3 name)
tR:=Arr n p
sN:=Pl H ps kvs
uu:=by ext An hs
wW:=sIx items.size 0 lo
yP:=(Ia nm)
uw a b:=(wc i (a,b))
xQ:=putK kvs k v
sy:=(zqB,ifN aG ?_)
xG a:=∀ x c,(zN->(c≠a))
tu:=a.lt _ aa
tH:=(gm 2 3)
sS a:=xl (xv (xal a))
sF a b:=TyOf K H a (.type b)
uW:=pyNext (.ref it)
tQ:=xa0 p s
S9 a b:=(rP (cN a) rfl b)
sK:=[true,false]
tt a:=xl (xv (pv a))
Ab a:=by rw[Zc,a] at hb;ext jR hb
AB a b:=(t.slot a)=(.live b)
yV a b:=(wC sc ns a b)
vQ:=(Ck c)
CJ a:=s.heap.push (hR,"range",.fields (znW a))
sv a:=(Fw hp T.n_bt hlkP a)
wZ a b:=Kp.Rch a b (.fin so' ho')
Ee:=sp vs H Q E
xP:=btw r1 y2 r2
vo:=btw r2 y1 r1
rY:=fun _ _ _ _ _ ow nd=>(xar rfl (xp (pO 0 nd ow) (xp (pO 1 nd ow) (xp (pO 2 nd ow) xam))):PG _ _ (gTup K 3 _))
CQ:=near lens own rent asked crowd
sx:=A0->(bA A1 A2)
sw:=xby (xaa az zqC)
TZ:={ cls:=.type "set",dict:=none,data:=.set (#[]) 0 (.fresh 0 0 led) }
XU a:=by refine (xdt a (bL i y b hy hb))
K1 a b:=by rw[a,b];omega
vx a:=by show a;omega
zI a b c d e:=⟨a,b,rfl,c,d,e⟩
zH a b c:=by have a:=b;refine c
vb:=fun _ _=>False
vL a b c d e:=fun a b ⟨c,d,e⟩=>?_
uU:=fun _ _ _ _ _=>aM
yE a b c:=DPut.k (k:=a) b c
BG a b c:=DGet.t (k:=a) b c
FP:=.ref C
wx:=.ref p
Cg:=(aC q)
yO:=(aC hd)
zi:=(aC l)
vY:=by refine (Zn ?_)
yN:=(ay az)
zx a:=(bg,(a).2)
FO:=(bg e)
Fk:=(bg cX)
Fj:=.str sd
BA:=.inr rfl
Aw a b:=(H a)=(some (.own b))
Ae:=b≠X.env.locals
vM a:=(JD K a)=true
wG:=vs=jN
vP:=Array zcN
vI:=(mV Bool)
uL a:=by ext jv a;refine (sq5 ?_);intros
uK a:=by ext jv a;refine (sq4 ?_);intros
Kw:=rel.val k
uO:=["self", "picture"]
At:=(fS Str Value)
Ch a b:=by show(eD,⟨a,b⟩)
ww:=by show(eD,rfl)
v0:=(oA ?_)
xS a:=L.map (fun x=>a)
xR a b:=s.TypeIs (.ref a) b
Cz:=g p i
xC:=names.length<=12
W0 a b:=s1.heap.push (hR,a,.fields b)
w6 a b:=(j7,t Z H (fun a H1=>b))
Bp:=.int ep 0
zh:=YI i t
SY:=by rw[Zc,Ze] at hx
vH:=PE X o td
vC:=(cP H' s')
vj:=nxtP w ss prs
vh:=(fS κ Value)
vq:=(H1 l)=none
AZ:=(ho s)=none
Fp a b:=∀ i,((i<a)->b)
DS:=(ae,so n,s)
uT:=Kp.upd1 asked s a
ym:=(vd l xs)
vO a b:=xu xaz (wn a) b
vU b:=vs=(ip bb b)
zbX:=(X.fn x)=true
SV:=(fF l H2)
vG:=.cons r t
zV a:=by obtain⟨hp,g,a,tk,os⟩:=s
Es:=⟨cS,k⟩
Iw:=Seat × Int
vy a b:=by rw [a,b] at e;cases e
vn a b:=call (.builtin a) b
vZ a b:=SetT knd a d b
M8 a b:=(eF,.ref s.heap.objs.size,_,a,b)
vp:=xbo ky ad i
zg:=xdc ry
zf a b:=by have I1:(m6 a):=b
uS:=by simp only[ZF,if_false]
wv:=by exact (ih uX)
vm:=xcd lens prs
uM:=Array (Option Value)
vz:=by rw[Zo,ZC] at nd
ya a:=xci w h ps ss a
vA:=K w.params
LN a b:=(.inr a,.str b)
BF a:=fun i y _=>a
zC:=LO-fY
G3:=#[en.key,en.val]
uJ a:=by obtain⟨⟨a,hp⟩,_,_⟩:=ul
vF:=PE X b tb
Fi a:=xcg aM a rfl
OT:=(iP "own" d_o)
C8:=("opened",V.ref do_)
uH:=(qi H2 s2.heap.objs.size)
wg a:=ZB (Zz e) a
IX a:=xac xaq a xo hV
uR a:=by rw[Zx,(vw,(dD a) == a,aG)]
uN:=(mN,hb,eb b o hb e)
Nh a b c:=.lst (aW a) b (fun j x d h1 h2=>c)
wL:=∀ o' u',((X.H₀ d)≠(some (.frz o' u')))
vg a:=.inl (FV _ (aW a))
ve a:=fun i h st b hb=>a
Ds a b:=Best own rent asked a b
yA:=T.size.2
Ad:=(rnd mask h r).2
AQ a:=decide_eq_true a
xF a:=of_decide_eq_true a
DR a:=by simp at a;omega
zp a b:=by rw [a] at b;cases b
Iv a b:=if a then b else kv
zo a b:=((a).length)<=b
zq a:=by have:=a;ext Ef
Be a b c:=by obtain⟨a,b,_⟩:43:=c
xB:=by simpa using h
Bd a b c:=by rintro (⟨a,b,c⟩:62)
zaO a:=∀ b∈crowd,(b∈a)
ze:=List N
yt a:=(cQ,(a).length)
zB a b:=by show(aQ,kB a,b)
yk:=model P w
yj:=(eW Unit)
Cy:=Zb aa
FN:=P4 a b
yr a:=(JP K a)=true
yq a:=(Yh K a)=true
yM:=(cA ?_)
ES:=P4 a b c
Er:=P4 a b c d
yD a:=by show(eY,a,Yn _)
Cf:=(bz c)
yL:=(mV af)
Sq a:=(dD ⟨#[a]⟩)
yi:=ps.take i
Cw:=xbq e
zA:=xbh e
Dy:=(cU kvs.length)
wY:=(ae,h'.get? b,o)
Cv:=toP p
Dk b:=(ae,s.heap.get? a,b)
yc:=ss6.take j
xJ:=["self", "x"]
Ce:=Q v H'
zd:=by show(fU,rfl)
zb:=(gM 0)
yK:=(om hp)
zw a:=fun o e=>a
ER:=(eO y b)
xA:=Kp.Mt room so ho
yJ:=b4 x hx
xZ:=xeo I.hok e
xO:=qs.map V.ref
Co a:=y=(.int a)
yh a b:=by rw[a,b] at z;exact z
za:=(qM v)
yI:=(w+1)-x
xN:=by simp at h
HU:=ns.map V.int
y9:=p∈ps
zu a:=(eP c u a)
yX a:=(eP c xs a)
wS a:=(j7,ta Z H (fun x H1=>a))
SU:=Sem Value
wN:=upd H1 d (.frz ob (.dK kvs))
wM:=upd H1 d (.frz ob (.dT kvs))
As:=s.heap.push TZ
y8:=XC K C
wV:=(X.A.units+1)<cLine
EU a b:=by have:(a=b):=aa;ext wF
FM:=(AE a)
zn a b:=(DT a b none)
xY:=K.In s.heap
xM:=(aU crowd a)
yH:=Itl K a
A9:=crowd++[h]
BW:=vs++dvs
y0:=us++ds
yg:=(au x hx)
xX:=Vals xs its
yG:=(zcg ns)
xW:=(XJ pos es)
yy:=(true,0)
yZ a b:=by ext ag a e1 e2 b
ye:=(au z hz)
ST:=(aU ys y)
wO:=o.setIfInBounds j (some k)
AD a:=fun h' eb=>(cp a)
zbq:=(FT σ' H' s')
G9 a c d:=by ext XU a;show(ku,c,d,fy i y hy)
IB a:=by obtain⟨ds,hs⟩:=a
HH a:=if a then 0 else 1
xL:=(fS rH Addr)
yx:=xbd _ az
Bo:=(aU qs q)
D0:=eval a X.env
xV:=xdh lens ss
yb:=(gV hi lo)
A7 a b c d:=by show(jD,a=srt,xb4 xcy b c d)
Ag a:=(mE hp T.n_bq lkP a)
xU:=(lo+hi) / 2
Ed:=(p2.1,p1.2)
Ec:=(p1.1,p2.2)
wP:=(xT mS)=((nJ e)::(xT es))
CT a b c d:=by rw[Zx,(Kb (dD a) b aG)];show ((Je (dD c) d)=_)
zP:=sIx items.size items.size hi
AM:=xdf I.hok eb
wQ:=Kp.Mt (xax lens) so ho
Gh:=(y.2-(own b))-(rent y.1)
w8:=(bR aa aa aa aa)
yd a b c:=kas_place p k a b c
xH a b:=by obtain ⟨a,b,rfl,h⟩:=h
wX a b:=by obtain ⟨a,b,rfl,_⟩:=h;rfl
zS a b:=by generalize eu:a=H6;ext oW s6 b g6
wU:=.Tuple elts x1 tpos
IA a:=fun i H R _ k=>a
CU a b:=(FW,a,fun a=>(iM (uy _ _ _ b rfl)))
UC a:=.ListComp elt [⟨a,iter,ifs,0⟩] scope pos
wR:=BlkG X scope zs ys fr
Cu:=hn5.1
Eb a:=by simpa using a
Ba:=by by_cases e:(aL=k)
Bv a b c:=⟨a,b,hN _ _ c⟩
PD a b:=show (∃ t,(u=a)) from b
B2 a:=by by_cases hb:(b=a)
BE a c d:=∀ b o,(a->(c->d))
Cn a:=by have:=a;ext wF
Af a b:=by have:=a;ext bV b this
Ai:=["_law_script"]
HE:=∀ b∈fp,A4
HJ:=by simp only[if_true]
Hw a b:=by rw[a,b,decide_eq_true_iff]
Bc a b c:=by obtain⟨a,_,b⟩:62:=c
Ar:=(zs++ys).Nodup
C9 a b:=∀ p∈prs,(PrOk ps a b p)
Bn:=List Bool
Bm:=List Stmt
Fh:=.ref it
BD a:=some (.dK a)
FL:=(cQ m)
Bl:=JG.refl _
Fo:=by refine (Zf ?_)
BV:=ok_av T
Cd:=ok_h T
FK:=(aT e)
B1 a:=(aT (eG a))
BU:=(m6 s')
Au:=by refine (iq ?_);intros
Cc:=.inr x
Bk:=(eW Bool)
Ct:=Zb hj
Cb:=(bz w)
BT:=(bz ph)
Ep a:=(decide a)=true
FJ:=(jh r)
AL:=names.take i
AK:=crowd.take i
Ca:=s∈uj
B9:=(dy e)
K0:=(dy hpq)
BS:=α->Int
B8:=lens b
AJ:=Zu as.length
BR:=(cG g4)
HG b:=(ae,h'.get? a,b)
EK a b:=by have z:=a;rw[b] at z
Cs:=(b,o)
Bj:=Nat->Addr
BQ:=(kB n1)
B7:=xal nT
Cr:=qs[i]
AY:=prs.drop aY
Cq:=xs[j]
Bi:=xcs kvs k
BP:=(tG ?_)
Aa a b c:=xbg ZA rfl a (xar rfl b) c
B6:=b∉ch
Cm a:=by ext kW;exact a
AX:=xfb I.hok e
Fg:=(lF xk)
Ff:=.lst []
AI:=by simp at e
Bs a b:=fun a b=>(h a (Zl _ b))
BO:=(nO nm)
B5:=(sr a)
AW:=X.clo scope
KZ:=.int i t
BN:=ge i hi
DQ a:=prs.map (fun p=>a)
Ea a b c:=by rw[Zc,Ze] at a;ext ku b c a
z0:=(ae,h.get? d,o)
BM:=(pE s1)
BL:=(zT t')
B0 a:=(XJ cpos a)
EH:=(aR l jS)
AH:=nxtP w ss sD
Aq:=s.heap.push JE
RT a:=("width",.int a)
AV:=xa8 H cs qs
zZ:=(A.units+1)<cLine
Iu:=blk0 Z fr n
AU:=s5.trans s6
Ox:=crowd.map V.str
Cl a:=(fA H p a)
Bz:=(lO q s)
D2:=by refine (Zf (Zn ?_))
Ak:=by refine (Jw hd hdat ?_)
Aj:=by refine (JS hd hdat ?_)
AT:=Room q0 k A
Ap:=DecidableEq α
BK:=dEq d e
Wu:=lenI mC p.x p.y ir d9
BZ a:=fun x hx=>a
G8 a:=by show (cU a);decide
BY a b c d:=by refine⟨a,b,rfl,c,d⟩
AG:=vs=[.ref hd]
AF:=xu xa9 bi xo
zY:=Loc X.env.scope x
Bh:=PA X mS t
Cp:=gk cJ
Fe:=Z6 _ Si
KY:=.frz o u
RI:=xs.getD k 0
BJ:=(Ro eC)
AO a:=(J8 K a Q9)=true
RS a b:=putK kvs a (.ref b)
By:=name::hs
Am a b c:=(cO ys y)->((cO a b)->c)
zbW:=(eO (bX e) b)
Av a b:=by refine (Jh a b (qS z.elim))
BI:=t Z H Q
AN a:=(wB,.int a,iH,q)
TJ:=(HV i j)
Ax a:=∀ p,(rF->(fF p a))
FI a:=fun j hj=>a
Hu a:=∀ p∈nI,(aL≠a)
AS:=(yW gf rfl)
zU:=(X.A.units+20)<cLine
Az:=(VM scope cd)
Ay:=List (List K)
D9:=KT H kvs xs
z6:=by show(ag,u,rfl,rx,xc6 r)
D3 a b:=(wC (jW a) rfl _ b)
Ir a b:=xw (o:=(.tup a)) kN b
zR a b c:=by refine (xbr (xs:=a) (Pv:=Pv) b c ?_ ?_)
Ah:=xz X.K fd ps ds
B4:=xby zqC
zL:=zbX\/(ae,X.env.scope.names.lookup x,.local)
zmO a b:=∃ N:mD,((∀ σ' H',((N σ' H')->a))/\b)
Dh a b:=ifN (decide_eq_false a) b
zbV:=names++[name]
A6 a b:=xbt gz (pv a) b hV
AR:=Vals dvs ds
AC a b c d:=xp (pN a b) (xp (pN c b) d)
Sh:=start N vs
AA a b:=xct X (.builtin a) b
Al a b c d e:=by ext qZ a b;show(ah,c,ug_e eu,d,e)
zM a b:=.Call (.Attribute o a apos) b [] cpos
Bu a:=[a,rG,.int r]
NJ:=("placed",V.ref dp)
Ao:=(pF (bO nc e))
Wt a b:=(Q σ' H')/\((σ'.length=a)/\b)
WO:=by cases (show (u=(Zq b)) from ry)
PB a:=kstep room so ho a
zQ a:=by obtain⟨_,_,rfl⟩:43:=(run.det a)
Ez a b:=xb8 a (xar rfl b)
A8:=xeh CX X E
zX a b c:=xd1 (i:=a) b rfl (Qp rfl) c
HD:=eOf X.K H m d
zK:=fun _ _ _ _ _ ow nd=>(xar rfl (xp (pO 0 nd ow) (xp (pO 1 nd ow) xam)):PG _ _ (gTup K 2 _))
DP:=at2 dEq ds es
zjB a:=(pL,u3,a,u2,tSeq t2 u3,tSeq t1 u2 d s H)
zW:=pzF a dl d_o d_r p
Fv b c:=by obtain⟨a,b⟩:=c
Fu a c:=by obtain⟨b,a⟩:=c
Dj:=by simpa using h2
WZ:=by unfold x9;rw[Za]
ET a:=by rw[a];constructor
DF a:=s.heap.objs.size<=a
Iz a:=∃ σ' H',(zbq/\a)
Ej a b c d:=∀ x H',(a->(g x b c d))
EQ:=(eC).Nodup
IT a b:=∀ p∈prs,(a/\b)
Ei a b:=by rintro _ a ⟨b,rfl⟩
Fd:=.ref q0
C6:=.ref s2.heap.objs.size
Fc:=.ref pz
DE:=(cQ xs.length)
FH:=b=true
Fb:=(aC lp)
Ft a b:=by exact (congrArg a b)
Fa:=ok_a6 T
FG:=ok_n T
D8:=.str "both"
E9:=(cN b1)
Rg:=i<kvs.length
zcM:=.type "list"
E8:=(eW Et)
DO a:=assignEach a X.env
E7:=Zp.mp z
KW:=(cA rfl)
E6:=(dy g1)
EO a:=(lG t.C_ao a)
TH:=L.take p
TF:=L.drop p
FF:=(cI e)
FE:=2 ^ 63
EG:=Nat->Bool
E5:=Nat->mD
E4:=Nat->rH
FD:=(eG e)
D7 b:=(∃(a:A0),b)->C
Dd c:=(∃(a:A0) (b:A1),c)->C
CY d:=(∃(a:A0) (b:A1) (c:A2),d)->C
CK e:=(∃(a:A0) (b:A1) (c:A2) (d:A3),e)->C
E3:=(dC hp)
E2:=(fK g2)
OS:=.int es.size 0
E1:=(wJ vs)
Fl a b c:=(fG a _ (lW b) c)
FU a:=HT.sIx a a hi
LM:=(iI ?_)
EF:=Str × ap
Hr:=(ut xs.length)
EN a:=(j6,ifN a ?_)
DD:=srt.length<=32
Eo:=xaj (pv 2)
E0:=Zp.mp y
LL:=pt∈ps
LK:=(k-1)-i
Eh a b:=by show(ag,p,hp,a,Zg.mp b)
Kv:=Zg.mpr vK
D6:=Sd H ps kvs
Fn:=by ext rS h ih
Di:=fun kv=>(eJ iN k)
En:=turns mask
Ew a:=by exact (.inl (.inr a))
FC:=(w4 a)
Ku:=(gR l jS)
FB:=(Xm b)
FA:=(Xm q)
Dp:=by exact ((K9 False).elim)
C5:=Geo.lvL pw pt.x true r
C2:=Geo.lvL pw pt.x false r
D5:=frs X.stack
DZ:=fun _ _ q=>q
O2 a:=(hR,"tuple",.seq a)
Ey:=by ext dZ t r;rfl
EM:=(eQ a o)
Fz:=(EI a)
zaN a:=ty Z H1 (fun y H2=>a)
zdK:=te σ' H3 N
EE:=W i m Z H
Ow:=AllBare s'.gens
Hq:=x≠"__name__"
SS:=(cO xs x)
G7 a:=(aR,q,.tup (prV a))
Gd:=(ae,X.env.cells.lookup n,c)
DN:=cans w ss prs
Ex:=by ext nH o ho hx
Fy:=s∉al
EZ:=b::rest
Py a:=∃ p,((aU ps p)/\a)
IS:=s25 _ _ e2
DM:=(aW (dy hl1))
zdb a:=by show(mq,t,(K9,∃ t,(u=a)))
EB a b:=by ext SY;ext ku a b hx
Ge:=by ext zO;show(ag,p,hp,hpq,pl.get hqa)
Em:=(MB nm pt)
Dn a:=look own rent asked a
Sf:=⟨q,hq⟩
DU a b c:=by obtain⟨a,rfl⟩:b:=(zy c)
IR:=(zaO names)
EY:=ps++[p]
Fm:=by ext ij b pz
DL:=(ae,ho s,h)
DY:=MayA srt prs
ED:=(og,(yT).1)
Dg a:=by rw[(ay a)] at hm;ext jb hm
EX:=(UC tg)
Fx:=a == b
S8 a:=.bl (decide a)
K7 a:=Q (.int a) H'
D4:=xa7 H ss qs
HZ a:=o.getD a (some 0)
El:=below xs j
Dc:=gvL lens names prs
zaA a b c d:=(swapsWith a b c X.env)=(pure d)
DC:=(gq H3 d_o [])
Db a:=.dT (al.map (fun s=>a))
C1:=["name", "side", "row"]
G2:=bubble p k (k-m)
Ek:=97+i.toNat
EW a:=fun _ H Q=>a
GH a:=∀ z,(((so' z).isSome)=a)
C0 a b c d:=xb8 (pv a) (xar rfl (xp (pN b c) d))
EC:=PE X i ty
DK:=(yY,V × V)
DX:=PtsL H ps qs
EL:=Ord n lt
F8:=(aR,la,.lst (crowd.map V.str))
Dx a:=(mE hp T.n_br lkH a)
CO:=["self", "name", "side", "row"]
DJ:=(gq H1 dl [])
Hf a:=xae xb5 (oh a) xo dO
C7:=by cases (show (u=(Zq a)) from rx)
Dm:=!(mO (b,jM) srt)
DB:=GPr ps w h prs
CP:=fun σ2 H2=>(tb (Wv N) σ2 H2)
CS:=["picture", "one", "other"]
MY a b c d:=⟨(eK H a),fun i H b H'=>c,(eK H d)⟩
Mg:={ s1 with heap:=(W0,"dict_items",#[i9]) }
C4:=(cX-(own a))-(rent ba)
Dq a b:=probe.go t hashAt h a b
CN a:=xc9 (by rw[Y.sz];exact (ZG.mp a)) none
Eg a b:=by refine (Y3 hp (thn a b))
zlz a b:=∃ W:(Bx mD),((∃ m,a)/\(∀ i m Z H,b))
CW a:=(zmO (Bt,m,W aY m' σ' H') a)
Va:=xac (r:=(rIxT K)) xaq aM xo hV
zaz:=(zjB,tSeq t3 u4)
Dw a:=fun _ _ _ H _ I h=>a
DH a b c:=let d:=D; (pL s Z a b c)
Df a:=by obtain ⟨a,rfl,_⟩:=h;rfl
DG a:=by obtain ⟨a,rfl,h⟩:=h
Gv a b:=by generalize eu:a=H5;ext oW s5 b g5
C3 a b:=by generalize eu:a=H4;ext oW s4 b g4
Gq a b:=by exact(cV qa _ rfl (cN a) (lJ kN b))
CH a:=fB K a "__setattr__" "object.__setattr__"
So a:=(bS a aj jg h0)
GS:=Kp.upd1 asked s b
Go a b:=(mz (Nh,a,rfl,by simp at h1) b)
CV:=(dE,behindInMarks op b)
MM:=(BH,.str pt.sd,pt.lo,pt.hi)
DW a:=xl (xcg aM a rfl)
Nw:=.hand so ho asked s0
F3:=by have hl:(kvs.length=vs.length):=rel.length
GR:=AkD H da al asked
Dz a b c:=by show(jD,v=JB,ry);ext aH a b c
V5 a b:=∀ l,((CC∈a)->((b+(rent s))=l))
Du:=picF w h dp do_
DA:=Cmp n lt cmp s
Dt:=itP w' ss prs n
DI:=by ext FR ok ov st st
CD a:=(mE (dy gQ) T.n_bs lkW (mG a pw (bL p H3 hp3 sd3 s3)))
CG:=notedBy bp A env (mW,e,R (.error e) s')
CL a b:=∀ ys H2,(bc kP (Hs l ys) (wm a) b SV)
CI a:=by obtain⟨⟨a,hp⟩,⟨kvs,hk,pl⟩,_⟩:=ul
Da a b c:=by show(jD,v=(Yb _),ry);ext aH a b c
CF a:=xbn (xc5 rfl (xfk hr)) rfl T.n_dict boot_dict (fX a)
IQ:=run.outs.2
G1:=fun _ _ _=>False
MG:=∀ b∈fp,(FpOk X pins H b)
GQ:=by simpa using hi
Lb a:=by split at a<;>cases a
N7:=by simpa using hw
Rf:=(Kw).isSome_eq
LJ a b c d:=by obtain⟨a,b,_,c⟩:63:=d
LU a:=∀ n∈zbV,a
GU a:=∀(i:Nat) (y:V),(ST->a)
Ht a:=(way t.mask jT a).j
OI a:=fun _ _ _ _ _=>(xes a)
WL:=∃ p∈ps,(p.nm=nm)
He a:=(cans pw ss a).head?
Hv a b:=by unfold Kp.upd1;ext lC a b
KU:=List Row
Gy:=.ref s.heap.objs.size
LI:=.ref hd
LH:=.ref ln
zdJ:=X.A.units+1
LG:=.refl _
LF:=(aC ly)
LE:=(aC lx)
Le:=by refine (xf5 ?_)
LD:=(ay c1)
LC:=(ay c2)
LB:=ok_aj T
LA:=(aT c2)
Lz:=(aT aa)
Px a:=(ae,h'.get? b,a)
Ly:=(aW e1)
KR:=(fS V V)
Hj:=by refine (sq2 ?_);intros
Lx:=(gX H5)
Lw:=(bz N8)
Lv:=(mV It)
Lu:=(jh zk)
Ls:=xi e hl
Lr:=(fX bi)
KQ:=Nat->Int
Lq:=(cG e4)
LX:=by ext dZ t ru
TD:=(bM hq5)
Lp:=Nat->ui
Kt:=Jr (Zk _)
TC:=Hp->Prop
KP:=bZ->Prop
Lo:=(kQ Zr)
Kz a:=((a).length)<=12
KO:=(eO x l)
zdI:=(gL pl.len)
KN:=Zy.mp hz
KM:=(gm 0 2)
Ln:=(h8 hy)
Ld:=by ext kW;ext iC
HS:=rs.map V.ref
Hc:=(ut kvs.length)
Ho:=(jP,nomatch y)
Re:=.Name x pos'
IP:=(m5 x.snd)
Pg:=ss.length<=32
HR:=PrsL H ps qs
KL:=[.ref p]
KK:=F i y H2
LT a:=(lu t.C_t a)
HQ:=SqT K H a xs
Lm a b:=Zg.mpr (dH a b)
Iq:=s3.trans s4
Ll:=(zT tk)
Gj a b:=(ae,ps.find? (ao (eJ z.nm a)),b)
KJ:=(aR a o)
Ks:=(aR a Bq)
Kr:=PE X o to
LR a:=shS rent a g
IO:=(aR lp jS)
Lk:=.dK kvs
GM a b:=by rw[<- a];exact (Zg.mpr b)
Ka:=by subst ey;ext WO
Lj:=Cls K C
Ip:=CrL H cs qs
NI:=blk0 Z fr zs.length
HP:=s05.trans s6
Hm:=(asked s)=none
Hi:=by show(rS,s _ _ h,ih)
Kq:=(Hs l xs)
Ko:=MkOk mask
Kn:=(ae kO v)
I0 a:=by exact (.inl (.inl a))
Hl:=DecidableEq κ
LW:=by ext cE nb e
Gx:=lenI lD p.x p.y ir d9
IN:=.bool true
Io:=.bool false
KC a:=by ext A5;ext rR a h
zdH:=te σ' H4 N
Km:=upI w prs
K6 a:=canF w ss p a
KI:=Pv 0 Z H
G0:=GvF lens names f
GZ:=xel lens names f
Vu:=(aR,d,.frz o (.dK kvs))
Vt:=(aR,d,.frz o (.dT kvs))
Im:=acr w x1 b1
RH:=acr w x2 b1
Kl:=Rch f a b
IM:=V->(V->sZ)
Il:=V->(af->sZ)
HI a b:=by show(CZ,a/\(σ'=b));ext BB
Gp a b c:=by show(MI,I.list hb);ext Rh;ext aH a b c
Gn a b c:=by show(MI,I.tuple hb);ext Rh;ext aH a b c
Kk:=I.lstM hH
Kj:=ss.map x0
Ik:=srt.Perm ss
G6 a b c d e:=(aq a b c d (vV,Q (.bl e) H'))
HY a:=al.map (fun s=>a)
Li:=xs++[y]
K5 a:=(M8,a,q _ De)
G5 a:=k1 _ _ (ne_f hp a) hp
Ol:=setI own pt.nm 0
IL:=Up t.place
Ij:=α->(dB α)
Lc a:=by show(eE,kB a,xk)
GP:=(eX,true,iteT ?_)
Iy a:=(cV 102 _ _ _ a)
KH:=(sM k j)
GC:=(zG,s∈(uq n),wz)
IK a b:=xco (lq a) (xcm b)
GY:=(ZL.inj hx).symm
HX a:=prs.find? (nmF a)
SR:=(au d hd)
Gb:=(ae,sc.names.lookup x,.cell)
Hb:=valV kvs (x0 s)
IJ:=x=(.int i)
zdY a:=(Bb,PW.pt a,qO)
Ki:=hnF pa lg
HC:=IntsAre vs ns
Ii:=(jQ s s Wu)
Hz:=SqL K H1 a xs
IW a:=fun b o hb g=>a
Ky a:=fun x y H Q=>a
HN:=mvP nm x y p
Hy:=by ext cc kvs e l f s
KG:=X.wish E
Ve:=.builtin "object.__class__"
Ih:=prs.map prS
Hh a b:=by have:=a;ext b6 b this this
S7 a:=a=(.fields vs)
K4 a:=Int->(Int->a)
Kh:=(au n hn)
LQ a:=(aZ jV jV a)
Ig:=(eJ z name)
SQ:=(lO t bJ)
GI a b c d:=(nE,xdn rfl T.n_range a,b,c,d)
HW a:=fun c q=>(bO a q)
Se:=(lK n x d)
Kg:=PT X a tA
Gz a:=PE X (yp,.Name x p,mS) a
RR a b c:=(cV qa _ 0 a (S9 b c))
HM:=DGet H a y o
GL:=Value->(Value->SU)
II:=(kg 1 2 3)
Hd a:=fun c xs q=>(bO a q)
GE:=(kD x2 y2 false r2)
K3 b:=DGet H2 a y b
Pw a:=(pK,D1,a,xb1 xg)
Gm a b:=k35 _ _ (ne_f a hkl) (ne_f a ow3) b
Ix a:=(zlz,W 0 m Z H,a)
zag a:=Room q0 k (A.deeper a)
KF:=xax lens
Pu a:=if a then 1 else 0
Lh:=rn≠rf
GK:=fun _ h=>(nomatch h)
OA:=by refine (Zi _ (Zi _ ?_))
Lg:=(xn,rf)
HL:=c.1::c.2
Ie:=EJ::(ptV p)
GV a:=by have:=a;simp at this;omega
GJ:={ D with nx:=u D }
GT a:=∀ Z H,((Pv a Z H)->yB)
Lf a b:=((u,v)∈a)↔b
GD a b:=∀ w' s',(a->(b->(Q w' s')))
Gi a b:=(us:bZ)->(us.length=a)->(b->(P us))
IV a:=o.cls=(.type a)
IH:=(fS TE TE)
IG:=(fS Tr f7)
Kf:=.cons _ t
Ke:=(au y hy)
IF:=(au H4 s4)
Id:=(bA Str Iw)
Gt:=(ao,by simp[xas] at z)
KE:=acc++[x]
LP a:=(aZ oU oU a)
KA a b:=by exact (pS a sc_a3.nd b)
IU a:=(X.mg x)=(aC a)
SO:=(dH c hc)
La a b:=by ext dX fQ a;exact b
Kd:=kV kv.1
IZ:=by show(ij,p.nm,nm)
IE:=.Name y py
F7:=(aR,ln,.lst (names.map V.str))
LV a b c:=(z=a)\/((z=b)\/c)
ID:=(oH hi ei)
Hg a b:=by rw[Zx,a];show ((Je m b)=none)
OH a b c:=PS X (.Assign [a] b pos) c
GO:=relabel scope env
Kc:=Cls X.K C
F6:=(apos.endLine == cpos.line)=true
ML:=(hR,"list",.seq vs.toArray)
F2:=fun σ2 H2=>(tb (Wv,Pv aY) σ2 H2)
Gg:=(leap mask ((oy).i) ((oy).pt)).1
Hk:=canO w ss p p'
IC:=(K1 Zr ZU)
Gf:=h1.push (hR,"tuple",.seq G3)
Ga:=(aB dr.pm.length_eq (bg dr.ok))
G4 a:=(mE hp2 T.n_bv lkO a)
NU:=Kp.Mt room so' ho'
GX:=(bR az az aa aa)
GB:=(YC K cdv qual)=true
Nr a b c:=⟨1,1,_,_,xch a,(mz,xch b,c)⟩
Ic a b:=Kp.upd1 asked s a b
GG b:=show b from (I.hok a _ ea)
GW:=(mG rfl rfl rfl)
Pq a:=by show(bP,Y7 ho hd a ?_)
GA a b c d:=(cV,lp,_,_,.ref a,rP (aW b) c d)
O1 a:=fun w' s3 I3 rw'=>a
M4:=es.getD jk.2 (0,.none)
Gc:=∀ b xs,((eR b xs)->(va b xs))
Gk:=∀ z,(zF,sH,z∈names)
Gu a b:=by generalize eu:a=H3;ext oW s3 b g3
Hx a:=by obtain⟨l,hl⟩:=(xd5 a)
HK:=btw rf yn rn
MH a:=backToKw a (keywordEach [] X.env)
GN:=1+((m0 / 6) % ph)
NN a b d:=by ext zO;obtain⟨c,a,hc,b,_⟩:83:=d
Gs:=(NX "lengths" dl [xI])
Gr:=(NX "own" d_o [xI,Dl])
HF a:=fun i h h' st k=>a
Ib:=exP p1 p2 p
L8:=(Bw (Wt,Z.length,∀ i,((n<=i)->((σ'[i]?)=CA))))
F4 a:=(attributeBase o a X.env (gO o))=(gO o)
F9:=∀ f,(RelO (fs.lookup f) (mA f))
F1:=∀ vs H Q E,(Ee->(vs.length=ps.length))
FY:=∀ i y H H',((Tp H H')->((F i y H)->TK))
Ha:=(bv V jt jt sZ)
Kx a:=(pL d D s Z a)
Gw:=o.data=(.set es ep t)
GF a:=(Ac,f,oc,od,.func a,osl)
T8 a b:=by show(zJ,⟨a,Pv aY,fun σ' H' p'=>(ib,b-aY,aa,rfl,hlt,p'),(aK x H' y)⟩)
TB:=T.size.1
SN:=by ext me
RQ a:=by cases a<;>rfl
Mn a b:=∀(pins:bj) (s:Shared) (Z:St) (H:Hp) (Q:a),b
RG:=fun _=>true
Tz:=fun _=>0
VU a b c:={ cls:=zcM,dict:=a,data:=b,slots:=c }
TM:=by unfold KV at r
Oz:=by split<;>split<;>omega
N6:=fun _ _ _ _ _=>Va
Mu a:=by unfold Geo.upL Geo.upN Geo.dn;rw[a,a]
Me:=by unfold Geo.lvL Geo.lvN;rw[Za,ZT];ext me
No:=by unfold acrI;ext me
zbU:=∀ s∈al,wz
S6 a b:=(ae,h.get? a,b)
O0 a b:=(ae,s.heap.get? a,b)
Rn a:=by exact (decide_eq_true a)
RF:=.str "left"
Rc:=.str "right"
OU:=by refine (sq3 ?_);intros
Ty:=(bo do_)
Tx:=(cN hsq)
RE:=i<xs.length
SM:=id dr.pic
Nv:=X.env.cells.lookup n
SL:=(cA,Zn h)
NT:=Str->(dB NameKind)
NC a b:=by show(cW,(xbd (c / a) (qD,lE<b)).1)
NW a:=(fF s.heap.objs.size a)
OG a b:=by rw[a];exact (Jb.mpr b)
Oq a:=pl.keep (Same.tups a)
Sc:=I.pin p hp
Tw:=(cG hl2)
SK:=ns.take j
N5:=["self", "width"]
zdG:=(oA,Zi _ e)
Ov:=(gM,sIx n 0 lo)
Nu:=.lst (nms.map V.str)
SJ:=Same H1 H
Tv:=Zy.mp hn
Tu:=Zy.mp hx
Rb:=(gW,Jy h az)
Tt:=b∉X.fs
Pf:=Mt room so ho
N4:=.frz ob (.dK kvs)
RP a:=xd4 lens names a
Ts:=α->Bool
OR:=fun p=>(.ref aL)
Rm a b:=by rw[a,b] at z;exact (g_at z)
Tq:=asked ba
S5 a:=((a).length)<=32
SI:=PE X e ty
Sb:=(au p hp')
Pe:=TP X pins Z Q
Ra:=s03.trans s4
P9:=ns.length<=n
Sa:=⟨#[c]⟩
RD:=⟨#[ch]⟩
To:=Sem Bool
P8:=s03.trans s5
OQ:=(fS Key Value)
OP:=Same.seqL s hs
Sn a b:=(yp,.Name a p,b)
RC:=s2.trans s3
RO a:=(decide a)=false
SH:=n∈crowd
zjo:=(xK "getset_descriptor.__get__")
Tn:=acrI w p
Tm:=uprI w p
SG:=(bO nb e)
NS:=srt.filter (xa0 p)
Pd:=Room q0 k X.A
Rl a:=fr.map (fun i=>a)
R9:=crowd++[x]
MS:=by refine (gn ?_);refine (io ?_);intros
Tl:=V.int N8
RK:=by subst e1;cases r1
zbT:=fun _ _ q=>FQ
N3:=Vis X.env.scope x
SF:=PA X es t
zaM a:=tb Z H1 (fun y H2=>a)
P7:=I.cell x c e
Pc:=I.freeC x c e
RB:=putF f v fs
NH:=.Attribute o m apos
Op a:=(aR,q,.tup (ptV a))
RA:=pt.x+(cH*1)
Rz:=pt.y+(cH*1)
OO:=pt.x+(cH*(-1))
ON:=pt.y+(cH*(-1))
SX:=by refine (Yw ti ?_)
SW:=by refine (Qd ti ?_)
SE:=Rch f a c
zcL:=V.str "both"
Ou:=fs.length<=1000
PZ:=neC b o e hx
Nn:=I.base.there b o e hx
Tk:=(Fi xe0)
Ry:=(no p hp).2
R8:=fun _ q=>q
NR:=fun _ q=>(nomatch q)
R7:=(aB Zs xk)
OZ a:=kvs.map (fun kv=>a)
S4 a:=by exact (.inr (.inr a))
SD:=a.lt k hk
SC:=a.lt k aa
Tj:=hidT h H
Oj:=hidT s₁.heap H
zbp:=fun σ' H3=>zdK
Rx:=totI mC prs
Nj:=xu xa9 xo (oh (wn aM))
M7 a:=(rK (ae,X.base.get? b,o) a)
OF a:=by obtain⟨i,hi,ei⟩:=(ZJ a)
Ot:=⟨FP::us,kw⟩
Sm a:=xs.foldl oneK a
S3 a b:=HoD.keep a (mM b)
Rw:=s6.trans s7
Oi:=srt.Pairwise xb3
PY:=ps.length<12
NM a b c:=by show (nD a G);refine b;by_cases z:c
OY a:=∀ s',(a->(Q () s'))
SB:=(au s hs)
R6:=atKey xs k
PX:=SqL K H p xs
TL:=by rw [(xj c)] at e
Oh:=Rd H a (.dK kvs)
R5:=xdb q e dF
Pb:=KB H H' d1 d2
zae:=.ask [nm] fh 0 0
zdF:=(Zh.mp e).1
PV:=tupleKind nB
Pa:=t.dummies=(#[])
zcf:=by have hlen:=r'.length
PU:=bJ∈(uq aV)
VL:=I1.kept (t':=s1.toks) vv
My a:=Zf (m:=(Builtin.Tuple.tupleExact _)) a
S2 a:=(ae (PB TJ) a)
OE a b:=xct X a (fun xs H Q=>b)
Ti:=put a ha
NB a b:=by show(cW,(xbd (c / a) (qD,lE<b)).2)
NA a b:=(ae,findIn K (.ref C) a,b)
R4:=dEqs xs ys
O9:=a.lt (k-1) aa
RJ:=by show(EV,hpz,z.ins)
Nm:=HT.sIx xs.length 0 lo
zcK:=upd1 ho1 s a
S1 a:=(pK xfo a xc3)
R3:=valV kvs j
SA:=(Fq CQ a)
PR:=I1.hok d _ e
S0 a:=by ext zdb a;ext jR e
zda a:=by show(jG,r,pl,hz,I.list a)
Mf:=(rL (ae,h.get? b,u) (ae,h'.get? b,u))
PQ:=k it aj _ st
PP:=SqL K H a HU
zcJ:=upd1 so1 a s
MF:=∀{n:Nat},((n<=1000)->(ut n))
XI:=(pQ (om hx) K2 e)
Rk a:=shO own crowd g a
Nl:=fun h' dd' hs=>(h _ ?_)
US:=s.heap.push (hR,"dict",.dict (#[]))
zcZ a:=tupleKeyHash knd a
Sz:=ps.zip us
Sj:=by rw[this];congr 1
Nt:=fun _ _ h=>(nomatch h)
RN a b:=∀ i,(a->((i<m)->b))
Sy:=(au i hi)
R1:=(aU es en)
Th:=Ox++[mK]
R0:=vs=[bb,tW]
Nd:=(carriedByValue v)=true
OX a:=k10 _ _ (ne_f a hko) a
Sx:=(dH x hx)
PN:=(dH rfl rfl)
zcI:=(fR,so2 z)
O8:=o.getD j none
Sw:=PS X st t
RZ:=(FV aa aa)
Tg:=(Ds P f)
RY:=xbv w h ps
MU a:=(jI,xae xb5 lA xa6 dO,cC a)
MV:=hp.update a (Ym (m5,#[]))
Rv:=h.Ns1 dx mA
MK:=(prs.map (fun p=>aV))=names
NQ:=prs0.map (nowP ps)
RM a b:=xao (PW.pt a) b xab
O7:=(b9 b o e hx)
N2:=(gH l1 e1 l2 hl2)
OM:=fun c v _ q=>q
Od a b c d:=xb8 a (xar rfl (xp (pN b c) d))
PM:=c1.append c2
Pp a b c d:=SortSt.mk' general' a b c d
MD a:=(ae,sc.names.lookup x,.local)\/a
Po a:=by show (a=_);rw[hn]
Tf:=qs1++qs2
Sl a c:=fun b a q _ _ _=>c
OL:=fun _ _ _ e=>e
Sv:=!(m == k)
Wy a:=∃ xs,(a/\(k=(! xs.isEmpty)))
zaL a:=fun _ _ _ _ _ st h=>a
OW a:=∀{xs:af}{us:aX},a
M3:=by simp only[Z5]<;>omega
Ml a b:=∀ base:Heap,(a->((base.Ns mainGlobals mg)->b))
NG:=(names.map own).sum
OD a:=by rw [<- a];exact (Zg.mpr vK)
Mv:=pl.no (nm:=nm) (dS,(no p hp).1)
MA a:=by let Pv (i:Nat) (Z:L2.St) (H2:Hp):Prop:=a
Nq a:=∀ u,((aR a u)->(ae,H' a,u))
Ru:=(au q3 hq3)
zdE:=(au q5 hq5)
Rt:=(au p6 hp6)
PL:=(bA Int Int)
Mz:=(hR,"list",.seq its.toArray n)
Oo a:=fr2 _ _ (ne_f a hda2') a
Rj a:=(cT a (Ci nm hk))
Rs:=(kL tp htp)
Te:=(ub y y)
zbo:=(gR qs (tO s))
Td:=xc0 xs s
zoI:=(gY,zbW,¬ (pG k b))
RX:=eval e env
Tc:=y=(kV k)
MQ a b c:=(bindArgs a (jB b))=(pure (List.zip c b))
Rr:=StL H ps ts
Tb:=Itr lo n
Ta:=(Ck y)
zaK a b:=(a="left")\/((a="right")\/b)
OC a:=(mE hp T.n_bs lkW a)
MX a:=by intro z;show(eY,(ZL.inj z).symm,a)
Xi a:=(kT,a,0,none,es[((a).toNat)]?)
zaf a:=R (.ok (.ret .none)) a
Su:=(qx op r)
OK:=(zqB,ifP aG ?_)
O6:=PrOk ps w h p
Ri a b:=(wu a T.n_b2 lkZo b)
Pn a b c:=(totI w a)+((xbs w b)+c)
MO:=by show(aQ,e,cu4.keep (Same.tups s5))
zoH a b:=xbn a rfl T.n_list boot_list (fX b)
Os:=PI X tg iter wi
Ni:=(leap mask p.i p.pt).1
MP a:=fun Z H R=>(ta Z H (fun vs H1=>a))
Ss:=exP p1 p2
Og:=fun _ q7 hq7=>?_
PK:=SoD H d n so
PJ:=HoD H d n ho
RL a:=by exact(cD st (kH z a))
Ng:=by obtain⟨i,hi,ei⟩:=(Yk.mp he)
Rq:=(aK n x hx)
NV:=by show(fT,gB leS1,q6,hq6)
RW:=(RS Br dq)
Mh a:=by refine(rQ s1.heap.objs.size [s1.heap.objs.size] a)
N1:=10*(turns t.mask)
Ms:=.tup (ptV { pt with x:=i,y:=j })
Np a b c:=OpR X (binaryOp a) (rI b (K8 c))
Nc:=(eR q (Cj c.1 c.2))
MN:=by exact (eX,"both",.inr (.inr rfl))
Nb:=.Compare a [op] [b] pos
Oy:=by intro m e h;ext jR h
ME:=∀ a b,(((k a)=(k b))->(a=b))
Nz a:=∀ b o,((b≠it)->(jj->a))
On a:=by rw[Qv];exact (xcc (d4 Zc a))
Oc a:=k7 _ _ (ne_f a hk) (qp a)
Ma a b:=fun Z H R=>(to Z H (fun x H1=>(∃ d kvs,((eO x d)/\(a/\b)))))
Ph a b:=(bS a b ll (au nm h))
MW a:=∀ c u,(bv,BX,c≠d_r,tM,a)
Nk a b:=(zaA,a,some b,pos.line,false)
NZ:=(way mask hh m).j
Nf:=by show(ag,vs,rel,da,xin I e hep)
Sr:=seF d1 d2
SZ a:=∃ m,((m<n)/\a)
NL a b:=by obtain⟨a,rfl,b⟩:=q1;cases r1
VQ:=(((pw+1)+1)-pt.x).toNat
Ob a b d e:=((c∈a)/\(c∈b))↔(d/\(c=e))
RV:=[a0,a1,a2]
L6 a:={ s2 with heap:=s2.heap.push (hR,"dict_itemiterator",.fields a) }
OV c d:=fun {a b} ha hb c e=>d
M0:=["thing", "low", "high"]
OB a b c:=by obtain ⟨a,b,c,rfl,_⟩:=h;rfl
Sk a b:=(bL H5 qs2 s5 a b)
OJ:=Zu ((LO+1)-fY)
Mx a:=A.under (.builtin "type.__call__" a)
Na:=(eR ba (ip,.str Fk,cy))
PH:=(fL h h' aa)
Mm:=(d4 Zx (Kb (dD "across") "width" aG))
M6:=by ext fe;show(ag,u,rfl,ru,rv.one)
Of:=gvB ss names prs
NK a:=by have s02:=(s1.trans s2);refine a
Mr:=(vW,putF (Z3 "picture") bb [])
NP:=(aR,a,XO a C od)
Mb a:=by ext tP b a uV;exact (I1.fpOk (Zk _) (I1.hok.fresh (Zk _)))
MR:=(NX "rent" d_r [xI,Dl,OT])
NY:=(p,w)::(P.zip vs)
NO:=(kD x1 y1 true r1)
Mi:=(kT,((aL).y)-d6,0,-(((aL).y)-d6),((aL).y)-d6)
Mj:=["picture", "names", "pairs", "seats"]
VT a:=(cL hp1 T.c_al T.n_bw lkSo a)
Rp:=tOp r ta tb
Oe:=lvL w x1 true r1
Nx:=by show(we,nl,eC,ps.length,WZ)
MZ:=[.int Gh,.str b,.ref qk]
L9 b:=(j7,td Z H (fun x H1=>(∃ a,(kU/\((IsD H1 a)/\(zaN b))))))
O5:=shI i j hi hj
L3 a b:=(cV l1 l2 _ _ (cL,rfl,cG hu4,hu5,by rw[Za,Za];exact (JN (Fs,qs1.length+qs2.length,a)),b))
Mq:=(mO,prS p,ss)&&(xa0 aL (prS p))
M9:=.ins t.C_ao dx (hnP a')
Mp:=by have z':((QV _)=(Data.cell v)):=z;cases z'
PF:=upL x1 y1 r1
Oa a:=by refine (xc7 (Pv:=Pv) a ?_ ?_)
Om a:=fun b o _ _ hc e _=>a
Md:=fun j v _=>(∃ c,((cO cs c)/\(v=(.str c.1))))
zly:=[("height",V.int h),NJ,C8]
O4:=[a0,a1,a2,a3]
NF:=(way t.mask jT i).j
UU a:=∀ c u,(bc,BX,c≠d_r,c≠da,tM,a)
N9 a:=by show(ag,q0,a,hq0,pl.find hf)
ND:=prs.map (exP p1 p2)
L5:=by have b1:(((uP).length)<17):=(by unfold Geo.upL Geo.upN;rw[Za,ZT];ext me)
Ny a:=[uh,wy,Fj,.int lo,.int a]
L7 a:=by have eb:(b=a):=uV;subst eb;exact (I3.fpOk (Zk _) (I3.hok.fresh (Zk _)))
T6:=by obtain⟨⟨k,x⟩,q⟩:(∃ y,((kvs[i])=y)):=ju;have hx:pk:=(bW ii q)
Mc a b:=∃ t,((PSs a b t)/\(t { nx:=fun _ H'=>l9,rt:=Q } Sh H))
MC:=fun H2 q2 s2 hq2=>(kL q2 hq2)
Mw:=by simp only[YM,List.all_nil,ZE,YX] at e
L4:=(ns.map (fun n=>((.inr n:Key),V.int (own n))))++[(pD,.int 0)]
Mo:=.Call (.Name "set" p2) [a] [] pos2
M5:=by show(j4,g,ex,sz,f,xgu I e hdat)
MT a:=by have q:=(hl i Z H hi p);by_cases hlt:a
MJ:=xg1 w30 h16 pok dr.ok dr.pm
LZ:=by obtain ⟨rfl,e2⟩:=(QF e rfl);cases e2;show(iW,rfl,rfl,rfl,ih r0);have z:=(rc.det rfl rc0 rfl)
LY a b c:=by refine (xcn (jQ i pt.x a) hl1 aa (IA Es) (bL H4 qs1 s4 hu4 cu4));show(IB,id sd3);have hs4:(ae,H4 p,.ins b ds [(RT pw)]):=(cm hs);have sd4:(xeu t H4 p c pw):=⟨ds,hs4⟩
VJ:=by unfold Kp.upd1;rw[bY]
zcY:=by rw[list_sort_plain]
zbx:=by injection e with e1 _
zaJ a:=∃(its:aX) (n:Nat),a
zdX:=by have:=pm.length_eq
Wx a:={ s with heap:=a,toks:=t' }
UM a b:={ s with heap:=s.heap.push (hR,a,.fields b) }
zcX a:=I1.kept (t':=tk) a
zad:=by simpa using q
zbn:=(Zu n).toArray
XH:=by simpa using e1
zay:=(l.map f).Nodup
XG:=by simpa using hp
WK:={ s' with heap:=h2 }
Vn:=∀ p∈ps,(eR aL [i8,d6])
XF:=∀ nm∈names,WL
zbw:=by simpa using this.symm
zbm:=List DictEntry
XE a b:=by refine (Yx.length_le_of_subset a b)
zcH:=.type "dict"
zdD:=(eW Result)
Vs:=beq_eq_false_iff_ne.mpr h
zqA:=of_decide_eq_true e
zbl:=(cU ys.length)
Xh:=(ae,h2.get? b,o)
WY:=(ae,h''.get? b,o)
zdC a b:=(aR,a,.tup (prV b))
zbk:=Zu h.objs.size
zcG:=Zu bs.length
WX:=.lst (sq.map V.ref)
zaI a:=(List.of_mem_zip a).1
zbS:=(ae,H5 c,u)
zbR:=ls.eraseIdx k
zbQ:=(fS Str Addr)
zdB:=(Bg "pair")
zbP:=A.units<cLine
zdA:=o.dict=none
zbj:=A.handled=none
V4:=.lst (crowd.map V.str)
zac:=crowd.length<=12
zab:=.int vs.length 0
zax:=Jq.update _ _ _
zdz:=xgz I.hok e
zdy:=xkb I.hok e
zbO:=us4.map V.ref
zdx a b:=(H2 a)=(some (.dK b))
WW:=.lst (zs.map V.int)
zdw:=Value->Bool
XT a:=by ext hJ a;refine (fq ?_);intros
zcF:=ls.map V.int
WJ:=d.params.defaults=[]
XR a:=(o8 a iY (ae,H2 b,u))
zcE:=xkm (xbk hr)
Vz:=by refine (gx ?_);refine (io ?_);intros
zdv:=s4.trans s5
zdu:=(Zq jn)::us
zcD:=OutL H cs qs
zdt:=blk0 Z fr 1
zcC:=(fS eA Addr)
zds:=asked y.1
zdW a b c:=PE X (.BoolOp a b pos) c
zcB:=(xfc x)=true
zdV a:=(A.units+a)<cLine
zbN:=Itkt d ob kvs
zbM:=Itit d ob kvs
zcA:=(yu "range")
zdr:=ss'.Perm ss
zcz:=(aW (dy hl))
zdq:=xs++[(k,a)]
zbL:=(MB pt.nm pt)
zbK:=(l.map r).sum
zaw:=(bA World Heap)
zcy:=(bA fO Heap)
zdp:=α->(dB β)
Ws:=x.cps.toList.getD i 0
zdo:=k1 _ _ nb e
zdn:=I.hok b u e
zdm:=totI lD prs
V3:=(zG,s∈(room n),wz)
zbJ:=Zi _ (Zi _ e)
zcx:=SqT K H p xs
zaa:=Rd H a (.dT kvs)
zcw a b:=Lay mask hs.toList a b
Xg:=.ask [name] fh 0 0
XB:=(I.ok.bs b o e).1
X9:=L.length<=t.mask
X8:=(CJ d).objs.size
X7:=(CJ 1).objs.size
XQ a:=Zt.mp (pm.mem_iff.mp a)
zbI:=(lG t.C_a [])
znv:=sl6.keep (Same.tups s6)
WV:=srt.filter (xa0 pt)
WI:=srt'.filter (xa0 pt)
zcv:=Gl X "range"
zav:=List (Option V)
Xf:=List (Option Expr)
WH:=(fA H2 p (ip hW q0))
zbi:=(o[j]?)=(qM i)
Wr:=(vD,(zdJ+m)+n,cLine)
zdl:=(fw H l ys)
zbh:=(IX (iQ 2 dw))
zbg:=(IX (iQ 2 fJ))
zcW a:=bindL kindOf a m x
zcV a:=bindC kindOf a m x
XA a b:=PW X (.BoolOp .And a pos) b
X6 a b:=PW X (.BoolOp .Or a pos) b
W7 a:=s.heap.FunFrames X.base a
WU:=qs.length=cs.length
Xz:=(aa:vs.length<=i)
zau a b c d:=["picture", "pairs", a, b, c, d]
zbH:=(ae,so a,s)
Vy:=by refine (nx ?_);refine (fq ?_);intros
zdk:=adv mask oy
zcU a:=(lq (FZ (gS 4 a)))
XN a:=∀ H',((sj dp)->(a->l9))
zdj:=PA X [a] ta
zbf:=(fP do_ tM vk)
zbe:=p.getD (k-1) 0
zbd:=Room q0 cJ X.A
zcu:=xbo ky ad aY
Xl a:=ps.Pairwise (fun p q=>a)
Vx a:=Builtin.Range.rangeSize lo hi a
zbG:=cutV xs lo hi
zbv:=by simp only[kstep,e,e2]
zdi a b d e:=.ask a b (fun c=>(cK c d e))
Vd:=by rw[rangeSize_one];ext me
zct:=ss.length<32
zat:=20-crowd.length
zbF:=(ae l.most n)
zcs:=CXo l.prog w
zbE:=PE X value tv
zbc:=(bG d.name fa)
Wm a:=PySem.W.methodObj (.ref f) a
zaH a:=td Z H1 (fun x H2=>a)
zbD a b:=((a=none)/\(v=.non))\/b
zbb:=PrsL H' prs qs
zaG a:=Kp.Crowd room so a hs
Xe:=fun n h=>(nomatch h)
U5:=["picture", "names", "pairs"]
zdh:=.ref (ad i)
zdg:=xa7 H ss rs
Wq a b:=(yV 4 (mz,s9.seqL hs,fun a=>b))
Uf:=fun σ' H3=>(tc σ' H3 (fun b H4=>(cK,b,zdH,M H4)))
zce a b c:=by have a:(Fp es'.length b):=(oF c)
zaF:=by have s03:=(s02.trans s3)
Wp a b:=OpR X (binaryOp a) (rI0 (K8 b))
Xy:=(Ja a:Key)=(Ja b)
UT a:=(ae,h''.get? s.heap.objs.size,O2 a)
zdU a:=kas_desc f p cJ a
V2:=I.base.free b o e n hx
zcd:=by obtain⟨h1,h2⟩:=h
zbu a b c:=fun a b=>(cA,ifN az (ld c))
VI:=ts.map (fun t=>(Zq t.2))
X5:=FpOk X pins H' b
V1:=(gC (Fs qs.length 13))
Vi a:=by refine (Call_ (xd3 I hg hm boot_range a))
WG:=xad w' ps srt' pt.nm
Wo:=ObjM s.heap x dx C mA
zba a c:=⟨a,c,k.pok,k.b,k.ne⟩
UZ:=I.size_lt (Zk s.heap.objs.size)
W6 a:=ifP (decide_eq_true a) ?_
zbC:=(fA H2 q3 MM)
zaZ:=putK kvs aL bJ
zbB:=RelV (kV k) u
Xk:=by obtain⟨j,hj,ej⟩:=(ZJ h)
WF:=HOk X.prog X.w H' h'
VH:=xcz aG (xcz aG (xid aG))
zaY:=#[i9,vR,OS,Bp]
V9 a b c:=by generalize eu:(eQ a b)=H1;ext oW s1 c g1
WT:=xiq (ss:=ss) nx g k
Xx:=xe7 H dl da names
Ut:=(ae,PySem.W.specialIn K Ve "__get__",zjo)
T5:=(ae,PySem.W.takesIn K (.builtin "object.__class__"),true)
zcr:=mv.mono more
V0:=apply_ite (Wj (mir w))
zaX:=T.filterMap so
W5 a:=ps.find? (ao (eJ z.nm a))
zdf:=cX == .free
zcT:=by simp at hb;subst hb
zaW:=h.objs.size<=a
UY:={ cls:=.none,data:=.fields ps }
Uc:=∀ b∈ch,(aP,(b∈X.ex)\/(wT b),Ae,xG b,Hu b)
Uq a:=∀(i j:Int) (t u:Tok) (s:Shared) (Q:bq) (E:bq),a
UL:=∀ y∈scope.names,(y.2≠.cell)
Xw:=(ss.map rent).sum
Xv:=∀ s,((rent s)<=0)
UX:=∀ x∈zl,((CB+(rent ba))<=cX)
V8:=by unfold upd1 at hx;split at hx
WE:={ p with x:=x,y:=y }
zbt a:=∀ t,((fR,ho t)->a)
Vh a:=(ae,scope.names.lookup y.1,a)
zaV:=bs.getD i true
Xu:=(bz,1+(c4 % 5))
Xt:=(xs.all xfc)=true
W4 a:=(fA H s.heap.objs.size a)
zdT a:=by rw[Zc,a] at hs;cases hs
W3 a:=(j7,ty Z H (fun y H1=>a))
zde:=b∈([]:ax)
zcq:=(eZ prs k p)
zcS a b c:=by ext mT g a b;show(b6,g,q,q _ c)
zas a b:=(cV 45 a T.c_ad T.n_by b)
U1:=ps.find? (fun p=>(eJ p.nm nm))
zar:=below t.place j
zcp:=putK kvs k y
WN a:=by subst z;ext b6 a mu mu
zdd:=putF f y fs
X4:=(vt,xn<xf,xf<xn)
X3 a b:=PE X (.Constant a j pos) b
Xs:=o.getD j (some 0)
zco:=(EA so1 ho1)
zcn:=.str name tk
VG:=fun x y=>((lexK x y)=true)
Vr:=by show (cU 0);exact (ZV _)
X2 a b:=kF _ _ (Z1 a) (s910 _ _ b)
zaU:=(aK h' st' sb)
X1:=GPr ps lD iL prs
zcm:=IsPart vu hi
Um a:=by show(CZ,∃ v5 v6 v7 v8 v9 v10 v11:b8,(Eu/\(σ'=a)));ext BB
Vw a:=cs.filter (fun b=>(dA,b≠a))
Vq:=(BF (Py,y=(.str p.nm)))
VF:=.go own rent asked crowd
U6 a:=∃ o,(a/\(∀ v,(o.data≠(.cell v))))
UE:=h1.push (hR,"list",.seq ((se).toArray))
zaq:=GOk zs.length g
V7:=by exact (ih p (by rw[e];simp[k]))
VZ:=kvs++[(x0 cy,.int lB)]
U4 a b:=OpR X (compareOp a) (rI0 (eK j (S8 b)))
X0:=(gH l hl l1 hl1)
Vp:=fun f vs=>(PySem.call f vs)
Ud:=["_law_picture_here", "_law_cell_here", "_law_most"]
T7:=["_law_picture_here", "_law_lengths_here", "_law_pairs"]
WD:=(t.slot j)=(.live i)
VY:=k b o (ao,hc (cI z)) e
XZ:=!(mO (Sq c) nms)
XY:=!(mO (Sq ch) eC)
zaT:=(bD v H I r h)
zdS a:=⟨rfl,_,a,rfl⟩
XX:=(ae,asked t,n)
XW:=(ae,clsV c,cv)
zdR a:=xdk pok.nn (Z7 a)
WS a b:=by show(gK,t,PD a rx);cases q;exact b
zoG:=(eR q (ip,.str aV,t))
UK:=(kT,v,0,(v+iK).toNat,min v.toNat n)
Wn:=(xT [a])=[(false,D0)]
VE a b:=fun kv=>(Iv,iN=(.inr a),iP iN b)
Vg a:=∀ j,((j<n)->(sR,a,ky j,ad j))
Xj:=by ext Hw Js Ya;constructor
VD:=sliceBounds lo hi none n
Vm:=.dK (putK kl pD (.ref dq))
zoF:=A++(p1::(B++(p2::C)))
zcl:=IsPart vl lo
VC:=∃ u,(ae,h'.get? e,u)
UJ:=[.str (Z3 "left"),.str (Z3 "right")]
Vc c:=by rw [Zs,ZP];show(gU,c,aj,bL a ha b hb e)
Ue:=["_law_cell_here", "_law_size_here", "_law_many"]
zdQ:=by refine (.cons ?_ ih)
zbA:=(aK i hi hi2)
Xd a b:=Zf (Jh a b (fun _ _ h'=>h'))
WR a:=((-1000000)<=a)/\(a<=1000000)
zap a b:=(n<=j)->((a[j]?)=(b[j]?))
U9:=.frz ob (.dT (LnT (lens b)))
XV:=AkD H d al asked
zdc:=Itrs lo d n
zcR a:=fun b u b1 b2 e=>a
UA:=["width", "height", "points", "seats"]
Uu:=Dy/\(FM/\(∃ vs,(j0/\(h.DictOf oa a vs))))
zcQ a:=fun j y s hy hs=>a
TW b c:=by show(jF,he,∃ q,(HG q),let ⟨q,_,_,hq,_⟩:=dd'; Sf,xeb I yo hs he (xig b hd c dd'))
U8:=fun tk=>(eF,zD,H,I.tok tk,q)
zjX:=if ir then p.x else ((mC+1)-p.x)
zdP a:=((eJ a "left"),r)
zaE a:=by have:=a;ext bV e this
Xr a b:=⟨(G8 2),a,b,(yW hp ju)⟩
Uj a:=∀(s:Shared) (u:Value),(BindsTo s fd (jB [u]) [(a,u)])
TR a:=∀(cdv:Value) (A:Around) (outer:mj) (s:Shared) (H:Hp) (vs:af) (Q:VK) (E:XK),((zag (VM kq cdv))->a)
W2 a:=by simp only[shp,Zo,QA.injEq] at a
VB:=∃ ks' b,(ER/\(pG ks' b))
Vl:=["pairs", "name", "other"]
Vk:=["before", "now", "seats"]
Ub:=["_law_lengths_here", "_law_names_here", "_law_pairs"]
Uz:=["_law_name", "_law_side", "_law_row"]
WC a b:=∃ tk,(ae,mg a,.int b tk)
Xc a:=by unfold picF;show(CT,a,"width",a,zly)
Vv:=by obtain ⟨_,k,ek⟩:=(key s' a' e)
Xb a b:=by generalize eu:a=H7;ext oW s7 b g7
zck:=(hashAt i)=h
zao:=(aK H1 k1 pic1)
zcj:=(aZ N ps st)
Xq:=(fL p hp (eB hp))
zci:=(iF yR n hn)
zaS:=Jq d s.heap h'
WQ:=(cans lD ss prs)=[]
XM a:=(a:PE _ _ (tFld K _ _))
UD:=["self", "askers", "asked_by", "gap"]
zan:=nps nm (Zj hnm)
Xa:=(og,h b (Zl _ hb))
Xp:=TH++((j,h,x)::TF)
VX:=live_mem jk.1 jk.2
VS a b c:=(QL K mainGlobals a)=(qM,.int b c)
zbz:=⟨0,0,0,0⟩
zjW:=(Do "list" T.n_list boot_list)
zaR:=fun c u _ e=>e
WB:=putK kl pD (.ref dq)
zch:=(BG d7 h hb)
UQ a b c d:=⟨fun i _=>a,fun i H b H'=>((H'=H)/\c),fun i _=>d⟩
UP:=∀ H',(Eu->(((p i)=false)->(M H')))
VW:=∀ s,(AZ->((rent s)=0))
zam:=(kD xn yn b rn)
zal:=(kD xf yf b rf)
W1 a:=by show(oC,xi7 (by rw[ly,Za,a]) fy)
Xo:=mayB ss aL p'.2
zak:=fun k h1 h2=>aa
zdO a:=by rw[a,K2,e] at z;cases z
UO:=["picture", "name", "side", "row"]
zaD:=by show(ag,od,J,hl,I.look)
zbs:=by show(ag,m,hn,hl,I.loc)
WA:=k _ _ (ne_f eb e) eb
W9:=s _ _ (ne_f x e) x
zhR a b:=by show(br,a,iF cS q1 hq1);generalize eu:b=H2;ext oW s2 hq1 g2
Uy:=items.toList.drop (sIx items.size 0 lo)
Ww a:=∀ C ex s H pn,(PE a elt te)
V6 a:=∀ C ex s H pn,(PIf a ifs tc)
zby:=(aB,no wf,e8)
zaj:=hm b _ q (ao z)
W8:=(zG DS (V5 zl CB))
U3 a:=by have m1:(p1∈a):=(jr e);have m2:(p2∈a):=(jr e)
zlh a:=∀ k,((a<=k)->((k<xs.size)->(j<=RI)))
T4:=(dU,putF f v (zE::r),(jq,k,f,uz::r,zE::(putF f v r)),rfl)
zcc a:=by obtain⟨j,hj,ej⟩:=(ZJ a)
zcb a:=Hand room a so ho s
zaC a b c:=(zdY,xco a (xco b (xcm c)))
U2 a b:=[.str i0,.str i4,.ref qc,.int a,.int b]
Uw:=by show(js,σ',H',I,q,h);exact(bK σ' H' I.unwish q)
Us a b:=by have hb:((g == a)=true):=(beq_iff_eq.mpr h);simp only[Je,hb,b]
Vf:=by have knd:((ff).Nodup):=(Jt.filter _ nnd)
Ux:=∀ p∈ps,(vJ/\((p.x≠x)/\(p.y≠y)))
Vo:=(cV tp _ 0 _ (S9 htp ?_))
Ua a:=by show(mF,xak (xgb rfl) rfl T.n_sum (PyProof.Rows.Boot.«sum») (fX a))
Wz a b:=by refine(bD,.dT [],a,BA,aB b dps,?_)
zlx:=by exact(cD e1 (kH,k,by ext bV d1 k))
zaQ a:=fun c v hc a=>(k c v ?_ a)
Uk a:=(zoH,xej rfl,xbn xfg rfl T.n_range boot_range a)
VP:=seqObj "list" (#[]) (n+1)
zdN a:=.cons rfl ju ju a
WP:=by rw[<- Jk,hes,Za]
UN a c:=∀ b u,(bc,b≠hd,b≠dp,b≠do_,a,c)
VO:=[(LN i0 i4),(LN i4 i0)]
TY:={ s3 with heap:=s3.heap.push (hR,"slice",.fields (#[vl,vu,.none])) }
UH a:=I.laid (t':=s.toks) (o:=a) (wH ob FQ) bu ?_
zca:=by intro so2 ho2 cs2 r2
VN:=by simp only[Zt,JY,or_false] at hb
UG a:=∃ j e,((AB a j)/\((cO L e)/\((FO=jT)->zoI)))
Uh:=by rintro ⟨i,hi,e⟩;rw[ZG] at hi;injection e with e1 e2
zaP a b:=xg2 (v:=(.int a)) rfl b ju
Xn:=PIE X pins Z tg R
zcP a:=(aq P1 P2 P3 P4 a)
zaB a:=(cV nm rfl hn true a)
zdM a:=xc4 _ a hi p' hp'
zjn:=(bv,Eu,(p i)=true,TK,N y H')
WM a:=(pL,u5,a,u4,tSeq t4 u5,zaz)
zbZ a:=by show(h9,hv',hv _ a,Zc)
Ug a:=by ext sU;ext cc o e c d a;show(aH,o,e,(kH,z,by ext bV d z))
Uv:=by obtain⟨hp,gs,dr,tk,os⟩:=s;ext iW at_ eq g g
TV a:=(dA,((((a).length)+(([]:List Keyword).length))+(HH,([]:List Keyword).isEmpty))<30)
zdL a:=Gvn a lg prs qs h
VR:=by refine (Yy (xhc I hg hm ?_ hdb))
UI a b:=xak xho rfl T.n_abs boot_abs (fX (je xd6 a b))
U7:=Geo.cells pw p2.x p2.y b2 r2
Ul:=["pairs", "name", "other", "seats", "giver"]
Vj a b:=(aP,lK m y a,n<=9,m<=9,pR b)
UR:=by have e':(¬ (q.1=k)):=(ao,e (h1.trans z))
UB:=by show(G9,by rw[ly,Za,Za,qll],p,hp);ext Ab hp
UV:=((y<=v)/\(v<r))\/((r<v)/\(v<=y))
zai:=f KZ (.int j u)
zah:=(e=x)\/(Aw e x)
U0 a:=⟨(bK,so,ho,run.mt,xf9 run nnd),a⟩
UW:=s.heap.IsSliceOf sl vl vu .none
zcO a:=fun c u n1 n2 e=>a
zbr a:=by obtain⟨z,its,n,r,e⟩:=a
Ui:=∀ x,((foldedSetIterable iter X.env x)=(pure x))
Vb a:=by have:=a;ext uB Jn ZW this this
TU:=["_law_lengths_here", "_law_names_here", "_law_pairs", "_law_seats", "_law_k"]
UF a:=fun _ _ _ _ _=>(xu (r:=(xj9 K)) xer (xal zj) a)
T0:=∀ nm∈names,(∀ q,((∃ kvs,((sr dl)/\(yP=Cg)))->(q≠da)))
T9 a:=∃ q qs s l,(aP vS (eR q (m7,.ref qs,l)) (lO qs s) (aU a CC))
zgh a:=Kp.Rch a (.go (setI own nm 0) rent fh [nm]) (EA own' rent')
VA:=below.go xs j fuel lo hi
zlw:=[xI,Dl,OT,(iP "rent" d_r)]
Uo a b:=by refine (xnh lk hcd S len a);ext ag t h q b;show(aH,t,h.nox,q)
Ur:=fun b u n1 n2 _ e=>(k2 _ _ n1 (k1 _ _ n2 e))
TX a:=by rw[Zc,Ze] at h1 h2;ext ku z hz h1;ext ku z' hz' h2;ext bI hz hz' hz';exact a
TQ a b c:=by ext sL;obtain⟨⟨dx2,hpa⟩,⟨kd,hkd,_⟩,_⟩:=(id k.dr.pic);refine a;obtain⟨k',g'⟩:=(k.pts g k1 pic1 b);exact c
TN b:=codeAny b callerA (.call (.ref fa) (jB jN)) (mW r (aP,r=(.ok (.ret (.bool true))),OldK s₁.heap s'.heap,s'.os=s₁.os,Ow)) s₁
zpx d:=∃(a:A0) (b:A1) (c:A2),(gc/\d)
zlg e:=∃(a:A0) (b:A1) (c:A2) (d:A3),(fZ/\e)
zpw:=by simpa using I.len
zpv:={ s with heap:=h'' }
zqz:={ s with heap:=As }
zqy:={ s with heap:=US }
zhV a:=∀(pins:bj) (s:Shared) (Z:St) (H:Hp) (Q:VK),a
zpu a:=∃(o:Obj) (its:gJ) (n:Nat),a
zpt a b:=PySem.W.methodCall_KW (pl:=pl) a b
zjm a:=∀(w:World) (mg:fO) (fa:Addr) (h:Heap),a
zps:={ s1 with heap:=h' }
zkq a:=∀(j:Nat) (x y:DV),(SS->((cO ys y)->a))
zjV:=by unfold absI;split<;>split<;>split<;>omega
zmi a:=by unfold acr;cases b1<;>simp at a ⊢<;>omega
zmh:=∀ a∈T,((so a).isSome)
zlv a:=∃ v5 v6 v7 v8 v9 v10 v11 v12:b8,a
znV:=∀ z∈zs,(rO z z sz)
znu a:=∀(j:Nat) (s:Seat),((cO al s)->a)
zlf:=PySem.F.args_dict_items_1 _
zoE:=.type "BaseException"
zqx:=(dE sc.isCoroutine)
zqw:=(dE sc.isGenerator)
zkH:=PySem.F.args_tuple_add_2 _ _
zle:=PySem.F.args_dict_get_2 _ _
zld:=(ae,X.s₀.heap.get? b,o)
znU:=Zu x.cps.toList.length
zqv:=.lst (rs.map V.ref)
zpr:=.lst (qs'.map V.ref)
zpq:=.lst (qs5.map V.ref)
zqu:=I1.hok.fresh (Zk _)
zqt:=Nat.min_eq_right aa
zkp:=PySem.F.args_dict_get_3 _ _ _
znT:=x.cps.toList.length<=i
zpp:=scope.names.lookup y
zoD:=by refine (gx ?_);refine (wq ?_);intros
zlc:=(H1 s1.heap.objs.size)=none
zlb:=(FX x (dD "__classdict__"))
zpo:=A0->(A1->(A2->Prop))
zoC:=by refine (gn ?_);refine (fo ?_);intros
znS:=by refine (gn ?_);refine (sq5 ?_);intros
znR:=by refine (gn ?_);refine (sq4 ?_);intros
znt:=sl4.keep (Same.tups s5)
zns:=pl4.keep (Same.tups s5)
znr a:=abc.cps.toList.filter (fun c=>a)
ziG a:={ s1 with heap:=(W0 "dict_keyiterator" a) }
zpn a:=(ae,scope.names.lookup y,a)
znq:=sd1.keep (Same.tups s2)
zmN:=I3.kept (t':=s1.toks) vv
zmM a:=(ae,h'.get? s.heap.objs.size,a)
znQ:=Qm plain_remove_loop _
zkG:=Qm F.plain_set_update_loop _
znP:=(zG,DS,s∈(room n))
zgF:=(rL (ae,s.heap.get? b,u) (ae,h'.get? b,u))
zkF:=h.push (hR,"dict",.dict (#[]))
zoB a:=X.s₀.heap.FunFrames X.base a
ziq:=Qn "BaseException.__getattribute__"
zkE:=Qn "object.__getattribute__"
zqs:=xs.length=ys.length
zqr:=xs.length=ds.length
zqq:=["name", "holders"]
znp:=(ae,bootBuiltins x,u)
znO:=(ay (ao,e (Ja.inj z)))
zoA:=Yi C s.heap.objs.size
zoz:=(rnd mask h (13+m)).1
zqp:=standAt apos.atName
znN:=sysModules<h.objs.size
zqo a:=(aR,a,.lst (rs.map V.ref))
zlu:=(eP b ps ⟨#[],(jr e)⟩)
zqn:=(ae,K.lookup a,o)
zjU:=pyIter (.ref s.heap.objs.size)
znM:=ZN I.ok.bsz I.ok.above
zmL:=(xE C "__init__" (aC f))
znL:=by simp[valueAt,YN,e']
zpm:=by simp[atKey,YN,e']
zpl a:=(eQ,l,.lst (xs.eraseIdx a))
ziT:=∃ c,((aU cs c)/\(y=(.str c.1)))
zmg a:=s.heap.IsKeyIter it d a es.size ep
zqm:=b.hd j s (oH hj ej)
zql:=by simp only [h,if_false]<;>omega
zhG:=∀ p∈ps,(vJ->((p.x≠x)/\(p.y≠y)))
zgd:=∀ p∈ps,((p.nm≠pt.nm)->((p.x≠x)/\(p.y≠y)))
zjl:=(zaL,wpAny_pyIter_rangeiter st h)
zeB b c e:=by refine b;ext qy;show(Be,t1,t2,xim I1 d);ext im t1 t2;rw[m.trees];refine (JF rfl (YF (Yd (thn c e))));subst ey
zno:=Int.lt_or_gt_of_ne this
zqk:=keyKind' vs.toArray
zpk a:=by rw[xcf];unfold Kp.upd1;by_cases zc:(z=a)
zmf:=fun _ s'=>(Iz,Q σ' H')
zoy:=∀ n∈tE,(∃ c,Gd)
zko:=Nat.mod_lt _ (Nat.succ_pos _)
zqj:=(dC,I.stkSub b z)
zjT:=(IT,aL∈ps,(ae,so aV,bJ))
zio:=(fP qd (ae,H1 c,u) (ae,H4 c,u))
znn:=⟨H,iH,(aB,xih r,q)⟩
zmK:=s.heap.Ns X.env.locals m
zjS:=r.drop (HT.sIx xs.length 0 lo)
zmJ a b:=by refine (SeqAt.in_listAt a pl.isList b (ux mR ?_))
znm:=by cases rr;ext dZ t r;ext dZ t' r'
zmI a:=∀(N:ui) (M:TC),((∀ y H',zjn)->a)
znl a:=by rintro ⟨u,v⟩;rw[a,mem2,Prod.mk.injEq]
zqi:=.Subscript o i pos'
zjR:=.hand so ho (upd1 asked s a) s
zme a:=run2.fit.leastF lo knd a (dS,(pP).2)
zlt:=f aY y (by simpa using hy)
zpj:=isTrue e X.env whole
zgW:=(o8 e (ae,h.get? b,u) (ae,h'.get? b,u))
zpi a:=by refine (wpAny_notIn_of zg a dd.mapOf ?_)
zqh:=qq H3 (s1.trans s3)
znk:=InstAt s.heap x ox C od
znK a:=(ae,mroIn K C (.type a),true)
zin:=qs.map (fun q=>(V.ref q,V.bl true))
ziS:=Builtin.«list.sort» { pos:=jN }
zmH:=by rw[hj];simpa using ew
zkD a:=by rw[List.map_id''];exact a;exact pB
zph:=s.toks+(knd.draws k)
zkC:=by intro hm;exact(cD,Zg.mpr (dL hm),xcq _)
zmG a:=by show a;rw[List.eraseIdxIfInBounds_toArray]
zjk:=∃ sl,(Px { o with slots:=sl })
znJ a:=by refine a;refine (gx ?_);refine (iq ?_);intros
zhF a:={ s with heap:=s.heap.push (hR,"tuple",.seq a) }
zeR a:=∀(pins:bj) (s:Shared) (Z:St) (H:Hp) (x y:V) (v u:Value) (Q:VK),(bv av tJ gb a)
zpg a:=∀{H':Hp},(HE->(∀ b∈fp,a))
znI:=by simp only[Z5];omega
zjj:=∀ y∈sc.names,(y.2≠.free)
zmF a:=∀(w:World) (h:Heap),((YP w h)->a)
zgP a:=∀(kV doc pm:Value) (an:iB) (cdv ct:Value) (us:aX),a
zqg:=by unfold clsIn at hc;split at hc
zmE:=by dsimp only at b;omega
zmd a c d e:=∃ i xs H',(aP,Inv a [] NI H' c,tn i d,HE,e)
zmD:=I3.kept (t':=s2.toks) vv
zmc:=∀ x∈es',((shp ba)=sh)
zfW a:=∀(j:Nat) (h1:(j<its.toArray.size)) (h2:(j<its2.toArray.size)),a
zla a:=∀(i:Nat) (x:V) (H2:Hp),(tF->(kP->a))
zim:=["_law_lengths_here", "_law_pairs"]
zkn:=["_law_name", "_law_holders"]
zpf:=(k.pok.ok pt hpt).nm
zmb:=∀ p∈prs,(rO d6 d6 iL)
zpe:=(cans w ss sD).head?
zqf:=by unfold Kp.upd1 at e;split at e
zkZ a b c:=∀ H' l qs cs so ho,(bF->(ou->(j3 Ku a b c l)))
znH a:=by let Pv (j:Nat) (Z:L2.St) (H2:Hp):Prop:=a
znG:=∃ pt∈ps,(pt.nm=nm)
zqe a c:=(ae,s₁.heap.get? b,o)->(a->c)
zji:=some (toP (way t.mask jT (m+1)))
zma:=(cD,dd.mapOf,h _ _ iH ?_)
zox:=(t.fits es.size)=true
zmC:=pr6'.keep (Same.tups s7)
zls:=(ae,s₁.heap.get? a,ML)
zow:=(iZ "width" "height")
zmB:=(iZ "askers" "asked_by")
zqd:=(iZ "before" "out")
zpd:=(fE (cT r.length z))
zkY:=Obj.data_mapDictKeys hdat _
znj:=by rw [Zc,Ze] at hx;ext ku nm hnm hx
zjh:=PtOk lD iL ⟨nm,x,y,sd,lo,hi⟩
zjA a:=by rw[List.contains_cons,a,Bool.or_true]
zmA:=es'.map (fun x=>(ba,cy))
zkB:=(o4 (lH,0,xa (xal nT) xg))
zqc:=.Attribute o f pos'
zjQ:=p.map (fun i=>(vs.getD i .none))
zqb:=(mN,hb,kk b o uV e)
zov:=fun i=>(bs.getD i true)
zpc:=fun n s=>⟨dF,dF⟩
zjg:=ta Z H (fun x H1=>(zaM,R x y H2))
zkm a:=by show(bP,wpAny_eqIsQuiet_tuple a ?_);ext xD Wg
zqa:=(jQ,i,(uI).1,bg uI)
zlr:=fun k=>(es.getD k (0,.none))
zlZ:=l.find? (fun c=>(mO c m))
ziF a:=(w6,xs,vc/\(∀ p,(((H1 p)=none)->(fF p a))))
zjP:=by rw[(show (AB,(Cv).j,i) from z)];simp only[]
zlY:=by exact (Zg.mpr (dL,ZH.mpr ⟨hy,aj⟩))
ziR:=(Dk,seqObj "list" vs.toArray n)
zkl a:=(cV l3 _ _ _ (rP (aW (cm e3)) at_s a))
zou:=by rw[(ay z1)] at hm;by_cases z2:xP
zkk:=by refine (Zn (fE,Qm F.xl_plain_dict_loop _))
znF:=(gG 4 xca.nd 5)
zni:=⟨o1,k it aj _ e1,r⟩
zmz:=s3.toks+(([]:At).length)
zjf a:=by refine(rQ s2.heap.objs.size [s2.heap.objs.size] a)
zkX a:=decide_eq_true (pm.mem_iff.mp ((a).1))
znE a:=(aO a (iZ "askers" "asked_by"))
zpZ a b:=(aZ a (iZ "askers" "asked_by") b)
zlq:=.ins C s.heap.objs.size []
zot:=Zu (gV,pt.x,0+(-1))
zjz:=(eR q (Cj,zx aL,(bX aL).2))
zpY:=(fA H2 p (ip dI o))
zjO:=(vD,((A.units+1)+n)+m,cLine)
znh:=by exact (eX,"right",.inr (.inl rfl))
zkj:=.Compare a [op,op'] [b,c] pos
zng:=min xs.length ys.length
ziQ:=∀ s a,(oZ->(V5,lens a,own a))
zos a:=(cP (eQ s.heap.objs.size e) a)
ziE:=decide_eq_false (fun q=>(nomatch q))
zkW:=(q0=true)->(A.handled=none)
zlX:=(iQ,3,xu xaz dw (lU 3))
zmy:=(lq (FZ (gP (uZ 4) zjW)))
zmx:=(eR q (ip,.str c.1,l))
zmw:=fun kv=>(Iv,iN=k,(iN,y))
zjy:=∀ j,((j<n)->(pG,ky j,ad j))
zpb:=.Slice lo hi none p2
zhi:=by show(tP,i,xs.length,aa);show(Ch,⟨xs,q,bu⟩,hd Z H p)
zia:=by show(tP,i,kvs.length,aa);show(Ch,ld q,hd Z H p)
zkV:=.dK (putK kvs Br (.ref dq))
zor:=A++(Ec::(B++(Ed::C)))
zpX:=by show(T8,⟨q,hlt⟩,kvs.length)
zpW a b c:=.seq (#[(.str "both" a),(.int 1 b),.none]) c
zpV:=es.any (ao,dEq z d)
zlW a:=g.pl.keep (iI,kc _ _ (ne_f e a) e)
zil a:=(Wy a)\/(∃ kvs,((sr p)/\(k=(! kvs.isEmpty))))
zpa:=by subst h1;rw[bY];by_cases h2:(x=s)
zht:=∀ vs Z H Q,((t vs Z H Q)->(t vs Z H L8))
zkU:=(DQ,(own aV)+(rent bJ)).sum
zoq:=.inl (cp (au l1 hl1))
zop:=.inl (cp (au l2 hl2))
zoo:=.inr (cp (au l1 hl1))
zon:=.inr (cp (au l2 hl2))
zfV a:=by refine (Y5 F.xl_entry_dict_loop ?_);rw[(Yl F.xl_plain_dict_loop _)];show a
zpU:=by rw[ZC] at nd;have hx:=(sub x ig)
zgE:=(xE C "__setattr__" (xK "object.__setattr__"))
ziD:=∀ i Z H,((i<=xs.length)->(tK->qC))
zfq:=∀ i Z H,((i<=kvs.length)->(tK->(aR,d,.frz ob (.dT kvs))))
zlp a:=(MY,Vu/\Rg,v,a,Vu/\(kvs.length<=i))
zpT:=xfe pok.nn gp.ok my
zom:=by rw [yN,xh8] at c;dsimp only at z
zew:=by unfold Geo.lvL Geo.lvN Geo.wayI;ext xD if_true;rw[(dU,(pt.x+1).toNat,(gV,pt.x,0+(-1)),aa)]
zhh:=by exact (absurd (Zg.mpr ⟨q,z2,by rw[<- e,z]⟩) nd.1)
zmv:=(acr w x2 b2)+(eI y2 r2)
zhE:=(cU y.length)/\(k=((cQ y.length) != 0))
zik:=(cU y.size)/\(k=((cQ y.size) != 0))
zol:=(eI yn rn)+(eI yf rf)
zok:=(eI yn rf)+(eI yf rn)
zoj:=(xbs w p1)+(xbs w p2)
zoi:=(xbs w Ec)+(xbs w Ed)
zoZ a:=by obtain ⟨its,r',pl,hz⟩:63:=a;ext zcf
zhs a:=xfy (nb / a) (xs:=(rs.map V.int)) (ao,rn (Qs.mp z))
zhr a:=xfy (nb / a) (xs:=(cs.map V.int)) (ao,cn (Qs.mp z))
zfJ a:=by have hz:vc:=(cT,Y6 rel,z);show(cu,hl,(cU,(xQ).length),(gL,xbu kvs k v),a)
zeS a:=by have hz:(cU vs.length):=(cT rel.length z);show(cu,hl,(cU,(xQ).length),(gL,xbu kvs k v),a)
zmu:=z.sameBut hs (cne y c e)
zoY:=by rw[FK,(if_pos (h1.symm.trans e))]
zpS:=(ae,H6 u,tO ie)
zoX:=(ae,fs.lookup f,v)
zjN:=prs0.find? (fun r=>(eJ FJ aV))
zgO:=by rw[I.ok.glob];exact (I.mod.glob.keeps I.bk)
zmt a:=(ae,PySem.W.takerIn K C a,none)
zje:=by refine (ZN rA ?_);unfold x9;show(aQ,Za,pok.le)
zlo:=Qx (fun i=>(vs.getD i JB)) p
zjd:=prs.all (fun p=>(mO bJ (uq aV)))
zln:=ps.filter (fun p=>(dA vJ))
zoW:=fun n s z=>(nomatch z)
znf:=ss6.map (fun s=>(s,lE))
znD:=by show(bP,wpAny_seqItems ho hd ?_)
zfG b:=P (.done (.ret .none)) { s with heap:=sortedHeap s.heap a vs b }
zij:=(o8 ls (ae,H1 b,u) (ae,H2 b,u))
zlV:=⟨xmj _,(ao (jr xl9))⟩
zjc:=holding [ov] (getMethod ov m pl)
zfi:=∀ i,(dQ->((g (kas_rev p 0 k) i)=(if (i<k) then (g p LK) else Cz)))
zoV:=vs=[bb,tW,rG,.int r]
ziC a:=wpAny_loadName_cell I.ok.kind hk hc hcell a
zpR:=(ib _ rfl yR yR ?_)
zoU:=(jq,g,f,some u,mA g)
zhQ:=by show(NN,lc,hq,ol1.get hqa);show(Gq,s11 _ _ hq,SO)
zjM a:=(aP,Co i,a,(ae,atI xs i,v),Q v H)
zhg:=∀ d,((ae od d)->(∃ fs,(aR,d,XD d fs)))
zkA:=Kp.Rch si zae (.out (nm::hs))
zii:=(Ag (fG dp kvs hk (cA (Dh zdI ?_))))
ziB:=fun v s1 h1=>(thn h1 (aK itv s2 h2))
zfc:=∃ so2 ho2,((Kp.Mt (xax (xad w ps srt)) so2 ho2)/\(∀ z∈pJ,zcI))
zkT:=(es'.getD j ([],0,.none)).1
zfU a:=b.congr (fun a' x'=>⟨.inl,(gW,h.elim id (ao,nomatch a))⟩)
zpQ c:=∀(a:A0) (b:A1),(gu->(jA->c))
zlU:=(vX iR)=⟨fY,zC,fY,Ad⟩
ziA:=(SqL X.K H p ys)\/(SqT X.K H p ys)
zgn b c:=b\/(∃(qs:Addr) (s:Seat) (a:Str) (so1:bB) (ho1:aI) (n1:Nat),c)
zlm:=by rw[e1,e2];simpa using c
zoh a b:=by rw[xk,(putM a b)];congr 3;funext nn;dsimp only
zog:=if (i<0) then (-i) else i
zjx b:=show (s.heap.IsTuple a its.toArray) from b
zih:=∀ b o u,((aR b KY)->(ae,H' b,KY))
ziz a:=by refine a;show(A7,ss6,pm6.trans dr.pm.symm,lt6,dr.lt)
zhU a:=by have:=a;unfold xcb;revert this;cases (HZ,fY+d)<;>simp
zoT a:=by unfold frs;ext cq J6 hf a
zof a:=(!(dA,a<[97]))&&(!(dA,[122]<a))
zfC a:=∀(pins:bj) (s:Shared) (Z:St) (H:Hp) (D:Ends),(av->((t D Z H)->a))
zlT:=∃ xs,(qC/\(xs.length<=i))
zoe:=fun v _=>(v=(.bl true))
zne:=fun s:Str=>s.cps.toList
zkz a b:=by obtain ⟨_,_,⟨a,_,dd⟩⟩:43:=b;exact dd.typeIs
zfs:=xhx (xs:=ds) (ys:=es) (e:=DP) (fun j x y h1 h2=>(xij h1 h2))
zoS a:=by rename_i hm;exact ((hm _ (pr _ a)).elim)
zoR a b:=by rintro ⟨rfl,h⟩;show(im,gV a b,kQ ZG)
zoQ a b:=∀(i:Nat) q ks,(Bo->((aU a ks)->b))
zfB:=fun _ _ _ _ _ _ us hl=>(xrr us hl (fun _ _ _ _ _ _ _=>KW))
zhf:=∀ p∈ws,((H2 aL)=(some (.tup [i8,d6])))
zfP a b c:=∀{ss:a}{ys:af},((wm ss.length)->(b->(∃ rs:ax,((ys=(rs.map V.ref))/\c))))
zoP:=∀ x∈L,(lO ba cy)
zjw:=∀ n x,((x∈zl)->(mP cX 46))
zki a:=∀{α:Type}{zs:bZ} (hz:(i<zs.length)),a
znC:=xaj (xb1 (gP xa6 xa6))
zpP:=prs.map (lenP lens)
zms:=s9.trans (s10.trans s11)
zll a:=(a<=xs.size)/\((∀ k,((k<a)->(RI<j)))/\(zlh a))
zpO:=(N.take P.length)=P
znd a:=some (HO.dT (_++[(d7,V.int a)]))
ziy a c:=(aq a ym (vd b zs) (cU,xs.length+zs.length) c)
zky:=live.map (fun jk=>(jk.1,M4))
zix:=by show(aH,13+m,by unfold turns;omega,bW xjc e)
zkx:=by refine (List.ext_getElem aj (aK i h1 h2))
zod a b:=by refine (wpAny_ite_split (fun _=>a) (fun _=>b))
ziw:=(H q)=(some (.dT (LnT (lens nm))))
zpN:=(bO,xi yS hq1,yS)
zmr:=by rw[l];exact (rel.val k)
znc a:=by have snd:a:=(dr.pm.nodup_iff.mpr dr.ok.1)
zjv:=(x'.2-(own a'))-(rent x'.1)
zju:=(wc,m,xs[((cH+(FL*1)).toNat)]?)
zoO:=ZN (xhf xs lo hi) hz
zkS:=(kvs.length+L.length)<=1000
zpM a b:=ZQ (by show(wp,a,pic.len):b<13) az
zlS a:=by refine (wpAny_execs_cons (thn a (aK f s1 q)))
zpL:=(NX "seating" p zlw)
zkw:=(l.take i)++(c::(l.drop aY))
znB:=(Jj X.K (.ref f))=true
znb:=lenI mC pt.x pt.y ir d9
zlR:=by ext sU;ext cc o1 e1 c1 d1 st;ext zlx
zjt:=(dE,lastMarks [op,op'] [b,c])
zgm:=(fF l (eQ,l,.lst (ts.map (fun t=>(.ref t.2)))))
zmq a:=(wH ps ⟨#[],by rw[a,q];simp⟩)
zlQ:=Kp.kstep (xax lens) so ho
zgl:=SetT knd h2 s.heap.objs.size (xbo ky ad its.size)
ziv:=xb1 (xa xa6 (xa xa6 (gP xa6 xa6)))
zkR a:=by rw [rB,(ay (ao,n1 (c.trans z.symm)))];exact a
zpK:=Mod X.K X.mg X.base
zpJ:=storeName X.env x u
zna:=letOwnedTupleGo tg Fh u
zjs:=JF rfl (PySem.evalArgs_none ?_)
zmp:=(xS (V.ref ba,V.int lB))
zpI:=.hand zcJ zcK asked l
zgc:=by ext zO;show(ag,p,hp,hpq,pt1.get hqa);exact(RR EJ K0 (lJ kN vK))
zmo a b c:=(Fp,a,∀ s,(b->(∃ m,((m<a)/\((lcg c m i)=s)))))
zmZ a b:=(fL ys H2 (aP kP (Hs l ys) (wm a) b))
zpH:=by ext EU lo hi;ext aH hs h1 h2
zlP a b c:=⟨let ⟨dx,e⟩:=g.ins; a,b,g.ho.keep c⟩
zlO a b:=by ext Fo;show a;rw[<- Array.forIn_toList];refine b
zhZ:=Builtin.Slice.sliceAdjust lo hi 1 iK
zoN a b:=by show(br,a,iF cS q3 hq3);generalize eu:b=H3
zjb a:=(Bb,PW.pt (xeg (Hf cF) (xds (Pw 3))),a)
zgk:=⟨1,1,_,Ff,xch IS,(Go g5 (cA (CU c3 s25)))⟩
zhP:=xbo (fun i=>(xs.getD i [])) ad xs.length
zmn a:=(Ez a (gG 6 sc_a3.nd 7))
zkQ:=cellsFrom jn scope.names []
zmY:=fun f g=>⟨f,g,YS _⟩
zhe:=(FZ (gS 0 (Do "bool" T.n_bool boot_bool)))
zhD:=(FZ (gS 0 (Do "str" T.n_str boot_str)))
zmm:=l.map (fun n=>(k n,f n))
zkh:=by ext F3;ext T6;show(ag,u,hv,ru,rel.get hx)
zja:=fun a xs ea=>(bO,ne_f ea e,ea)
zjL:=(kT,v,0,max (v+iK) 0,min v iK)
zhY:=by show(fT,gB leS0,e5,he5);show(Gv,qi H4 e5,he5)
zlN a:=by show(G9,by rw[ly,Za,Za,a],c,hc);ext Ab hc
ziZ a:=wpAny_loadName_local I.ok.kind hk hn hm a
zhT a b c:=by obtain⟨k0,k1⟩:=(xbd m a);obtain⟨j,hj⟩:=(Jx k0);have jl:(j<b):=c
zfg:=by show(im,fun i m Z H=>(bT,m,xs.length-i,i<=xs.length,tK),So xs.length)
zfa:=by show(im,fun i m Z H=>(bT,m,kvs.length-i,i<=kvs.length,tK),So kvs.length)
zfp:=by rw[(show (es=ds) by injection ed with z;exact z.symm),xef];exact (Z0.same _)
zjK:=⟨z.1,ht _ _ (bg z),(bX z)⟩
ziP:=valV (l.map (jQ,n,k n,f n)) (k a)
zkg a:=(cD,xk,Pl.snoc (p:=a) (pl.keep LM) ?_)
zeY a:=by refine (Y5 F.entry_set_update_loop ?_);show(qo,Yl F.plain_set_update_loop _,Zf (m:=uW) a)
zhX:=(wc,k,V.str (ltr ((c+(s*i7)) % 26)))
zhO a:=Z0 A.in1 s (its.toArray[j]) (its2.toArray[j]) a
zjJ a:=by show(pq,uD z,Za);simp at this;rw[<- a,this];rfl
zlM a:=(MY,Vt/\Rg,v,a,Vt/\(i=kvs.length))
zeK:=(zaf { s with heap:=s.heap.update a (Ym (fun t=>(t.eraseIdxIfInBounds j))) })
ziO:=∀ H' v,(bF->((FndV H' v CQ)->Ce))
znA:=(VT (fG d1 H2 dp2 ?_))
ziY:=no q hq (jP,n1 (c.trans y.symm))
zpG:=putSet_of es' t' hd
zgD:=∀ h',((Heap.ExtBut it s.heap h')->(Q none nu))
zjI:=ts.Perm (es'.map (jQ x ba cy))
zkf a b:=by refine (wpAny_Call_method0_late hbase hline (thn a b))
zgt:=(bD,.int ys.length,H,iH,⟨yC,(bW Z5 hlen)⟩,q)
zoM a b:=by show(gZ,aT h1);have e:(a=j):=(ZL.inj h);exact b
zig a:=by have e1:((Xi (cQ es.size))=none):=a;rw[e1]
zee a:=by rw[(decide_eq_false c)];ext xD Qy;rw[sm];ext HJ;rw[liv];simp only[];rw[ei];simp only[];refine (Zf (wpAny_isSame_ref_self ?_));ext D2;ext HJ;exact a
zfr a b:=by obtain⟨its,_,t1,_⟩:63:=a;obtain⟨its2,_,t2,_⟩:63:=b;exact ((xjk t1 t2).elim)
zif a b:=(OI,xae (r:=(rInV K true)) (xf7 (xbk hr)) a b jz)
zkP:=(OH,Re,e,tAsg te (xcr i))
zke:=fun H1 q1 s1 hq1=>(kL q1 hq1)
zfF:=∃ d ob u,((rg,d,.frz ob u)/\(wL/\(Q v (upd H2 d u))))
ziN:=by ext h9 q Rf Y9;rw[<- q,<- l];exact (h _ iH)
zgb:=(typeLookup (.type T) "__getitem__")=(pure (xK id))
zgL:=(cL hp2 T.c_al T.n_bu lkHo (fG d2 H3 dp3 ?_))
zeQ:=(mE hp1 T.n_bq lkP (ua dp (yE,.inr nm,hk1,ZQ (zdI:kvs.length<12) az)))
zie:=[wa,(aC a0),yO,Cf,(aC tp),(aC l11)]
zgs a:=by exact (wpAny_pyNext_range_end jp st (by have:(n<=i):=hg;omega) (AD a))
zjH:=by show(js,σ7,H7,I7,n7,q7);exact (again I7 n7)
zhq a c:=a->(g v Iu H3 (fun σ' H3'=>(tc σ' H3' (fun b H4=>c))))
zhW a:=xc2 (FZ (gS 0 (Do "int" T.n_int boot_int))) a
zoc a b:=by obtain⟨sl,hL⟩:=(u.any ho I.free a);exact b
zgC:=by have il:(s.heap.IsList p its.toArray):=(bS o g c ⟨n,d⟩)
ziM b:=fun A R s=>((Dk (VU,none,.seq zs n,#[]))/\b)
zhd:=((acr w x1 b2)+(eI y1 r2))+(RH+(eI y2 r1))
zlk:=by obtain⟨_,_,_,q⟩:82:=hs;exact (JR q)
zhc:=show (s.heap.IsTuple b its2.toArray) from t2
zhC:=∀ x:Str,(Hq->((mb x)=(bootBuiltins x)))
zfw:=by have:(ae,X.env.scope.names.lookup x,.free):=hk;ext bV k this
zml:=by cases b<;>simp[behindInMarks,e1,e2]
zhm a:=∃ od,(a/\(∀ name,((QW name od)=(some (mA name)))))
zlj a:=∀ p,(((H2 p)=none)->(R (.ref p) a))
zfI a:=∀{P:ap}{vs:aX}{i:Nat}{m:fO},(bv P.Nodup (aU P x) (aU vs v) a)
zey a:=∀(pins:bj) (s:Shared) (Z:St) (H:Hp) (x:V) (xs:af) (v:Value) (us:aX) (Q:VK),(bv av tJ kX a)
zoL:=by obtain⟨cd,hc,_,_⟩:63:=c.mro
zmX d:=fun⟨a,b,c⟩=>⟨a,b,(FI d)⟩
zmW:=by obtain⟨⟨old,he⟩,h1⟩:=(id st)
zid a:={ heap:=a,gens:=g,drawn:=d,toks:=tk,os:=os }
zjG:=by rw[<- (ask s),e] at z;cases z
ziL a:=xg8 (v:=e.1) (by rw[T.at_,Cy,<- ei,a];rfl)
zhN a:=by rename_i met hm;cases (hm.symm.trans (pr _ a));simp only[]
zkd:=by rename_i h1;rw[h1,<- (ZL.inj hx)];exact ra
zfn:=["_law_cell_here", "_law_many", "_law_letters", "_law_step"]
zlL:=xg5 (st:=s_g) l_g c_g k_g
zlK:=xg5 (st:=s_b) l_b c_b k_b
zfO:=fun _ _ _ _ ⟨_,_,z⟩=>(by rw[<- z];exact (SqL.of hl2))
zgy a:=∃ A p1 B p2 C c,(bT prs zoF (ae,canO w ss p1 p2,c) a)
zoK a b:=let ⟨l,h1,h2⟩:=a; ⟨l,b,h2⟩
zlJ a b:=∃ so' ho',(aP a NU (GH b) (wZ si Nw))
zhB:=∀ n∈names,((n∉crowd)->(CB<=1200))
zga:=∃ p qa,(wK prs p (eO y qa) (eR,qa,xas (prS p)))
zhb:=∀ H' tp xs,(vN bF (va tp xs) (ya xs) tp)
zob:=kmv (mv.mono more) ks
zhA a:=by show(ag,w',hw,rw',RelO.some_of (v:=v) (o:=(valueAt vs k)) a)
zlI:=congrArg List.sum (JI kS)
zfZ a b:=(aq,a,b,o.data=(.seq its n),cU its.size,Vals xs its.toList)
zhM a b:=(aP,ys=(L.map (fun x=>(V.ref ba))),L.length=i,a,b)
zkv a:=(fM,p,hp',ne,ne (eG,xoj a hp' hpt e))
ziu:=by ext cR;show(ag,u,rfl,ru,xc6 r1);ext rJ u l ru
zlH:=k15 _ _ (ne_f hpi g1) hpi
zgr a:=(wj us.length)->((bindArgs a (jB us))=(pure (ps.zip us)))
zpF:=(b9 H1 k1 pic1 st1)
zit:=by show(iy,k1,hk1,z.sg.so);show(iy,k2,hk2,z.sg.ho)
zkc:=.ask A9 (upd1 asked s a) i fW
zoJ:=by intro z;exact (absurd z (g.no n))
zfE:=(cP H' { s with heap:=h',gens:=g',drawn:=d',toks:=t' })
zhL a:=by ext lN;show(br,D3 8 (CU c1 a),iF (gB leS0) e5 he5)
zgq a c:=(eF,.ref s1.heap.objs.size,a,I1.laid (t':=s1.toks) zdG bu ?_,c)
zoa:=by ext sL;show(ag,ko,hko,r,k.dr.sts)
zku a:=(uo,∃ p q t,(aP (aU a p) vS zoG SQ))
zic:=fun a ea=>(bO (ao (sE e ea)) ea)
zis a:=by rw[(Qo (Z1 hj))] at e2;ext ag u' r' q a;ext im u' r'
zkO:=PassesOwn aN X.A X.env X.xe
zpE:=by subst c;rw[(aT Fe),bY,(ay nb)]
zmV:=[wb,yQ,qU,(bz g),v4,v5]
zhK:=[(aC p),(aC d3),(aC q0),some v3,v4,v5]
zeZ:=by have e1:(its.toArray.size=ds.length):=jo;have e2:(its2.toArray.size=es.length):=jo
zhz a:=(bc,c≠d_r,c≠da,c≠la,(ae,H7 c,u),a)
zkN:=by ext cc kvs e l r s;ext gF kvs e aa r
zjF:=(lG,t.C_a,picF pw ph dp do_)
zkt:=Geo.cells pw p1.x p1.y b1 r1
zmU a:=by have ix:(eZ,zs,(gM i).toNat,zs[i]):=a
zpD:=by have hpk:(eZ prs k zk):=(Zb hk')
zlG:=fun a u na ea=>(bO na ea)
zfN a:=by refine (bS its.toList r a ?_);have e:=r.length;simp only[Jk] at e;omega
zgB:=["self", "name", "askers", "asked_by", "seat"]
ziK:=by ext bI ho ho' ho';exact(uy _ es' ep' hL r')
zlF:=fun b z=>(absurd z (noA b))
zlE:=Kp.Rch si Nw (EA so1 ho1)
zeH:=∀ i,(dQ->((g G2 i)=(jq,i,m,g p k,if ((m<i)/\(i<=k)) then (g p (i-1)) else Cz)))
zmT:=(O1 (bD v _ I3 rw' q2))
zjr:=by show(T8,(bK,xs,xs[i],q,cI hlt),xs.length)
znz a:=opI (fun i j _ _ _ _ _ hc q=>a)
zhl:=(v=r)/\(vt,mP u x,(x<=u)/\(u<=(w+1)))
zfe:=by show(cq,show ((its.toArray.any (eqU x))=(its.any (eqU x))) by simp,xi2 r fs,q)
zgK:=by show(fT,⟨o,e,ex.1⟩,a,e2);cases e2;show(aH,o,e,bg ex)
zmS:=(fL,y,hy,f i y i hy ?_)
zlD a b:=a/\(aq EH lQ (C9 pw ph) sA (vV (K7 b)))
zfA a:=sp (rC::BW) (upd a x (lG C [])) (kH,H2,(v=.non)/\(fF x H2)) (E Z)
zeX:=by unfold Geo.lvL Geo.lvN Geo.wayI;ext xD if_true;rw[(dU (gV,pw+2,pt.x) VQ aa)]
znZ:=small_one h1 h2 h3 h4
zhy:=by have e':=jy;show(cq,xj (ne_f e' yS),oG e' hq1,e')
ziJ a b:=by obtain ⟨kz,hkz,_⟩:62:=a;rw[<- b,hl] at hkz;cases hkz
zgJ a:=∀(N:ui),((∀ y H',(Eu->(a->(N y H'))))->(g x Iu H2 zbp))
zfT:=by show(ah,sa,Ir (m7 (iE i8) d6) hq1,sb,(Ir (ip,.str aV,q1) hq2))
zgp a c:=by have e':(q.1=k):=(h1.symm.trans e);have b:(ae a q.2):=c;ext cq Cw b h2
zhp:=(aP,(-iJ)<=i,i<iJ,(-iJ)<=j,j<iJ)
zmk:=by show(cc,pt,hpt,at_,lp,name (nem c3))
zny:=xci.unbar b r o1 o2 o3
zgI:=["self", "name", "x", "y", "others", "other"]
zmR:=(bD p qa z1 z2 (jO z3))
zfm:=by show(zS,upd H5 l6 (.lst (us.map V.ref)),hl6);show(ah,sl6',znv,usl,sl6.len)
zeW a:=by generalize eu:(fA H8 q6 [.str a])=H6;ext qZ s6 hq6;show(ah,g6,ug_e eu,s86,s8.trans s6)
zjE a:=fun rest r s'=>(bT,r.1,none,s'=s,a)
zhk:=by show(ag,w,ew,rw',r.get h2);show(ah,hl,r.length,hn,xfm)
zfv a c:=(aP a F8 GR (aq uQ IR crowd.Nodup al.Nodup (aq,zbU,Pg,xC,da≠d_r,c)))
zhx a:=by show(zhR,a,i6 H1 q1 rG r);show(ah,hk2,dy yS,hp2,dy gQ)
zeP b c:=wpAny_Dict_empty (M8,I.laid (a:=s.heap.objs.size) (o:=b) (t':=s.toks) zbT bu c,h _ De)
zel c:=by have both:((ZM A s bb ug (dEqs ds es))/\(Z8 A s bb ug (!(dEqs ds es)))):=c;simp only[dEq];show(dX,?_,both);by_cases q:(a=b)
ziI:=(kT,p.y-d9,0,-(p.y-d9),p.y-d9)+zjX
zhS:=by obtain⟨_,_,⟨_,_,o,_,_,e,_⟩⟩:43:=x;ext wD
zfh a:=by have r:=(m.rm n s e);exact (ZH.mpr ⟨hr n s r,Ya.mpr ⟨n,a,decide_eq_true r⟩⟩)
zli:=by have B:=(xje lens own rent asked crowd)
zeN a:=by have qll:=pl.len;show(qX,BIG,∀{n:Nat},((n<=12)->(ut n)),fun h=>(xb2 aa),gH lp hlp l1 hl1,a)
zeJ a:=by refine a;obtain⟨fs,hw⟩:=(hd d e);obtain⟨_,_,⟨o,_,_,go,_⟩,_⟩:=(xr1 I hw);ext aS o go
zeD:=∀ b ps,(((H b)=(some (.tbl ps)))->(∃ more,((H' b)=(some (.tbl (ps++more))))))
zhJ:=by have:(x≠n):=(by rintro rfl;exact (h v Zm));simp[this]
zgV a:=∀ v u s2 x y H2,(bc,cP H2 s2,tJ,gb,R x y H2,a)
zfS a b:=∀ whole,(a=(do let v <- whole; (standAt b); (holding [v] (truthy v))))
zkb:=by obtain⟨mA,O,r,_,_,_⟩:65:=(xhb I.hok e)
zlC:=by unfold mroIn;rw[h1,QB,(ay (sT b)),a]
zkM:=by simp only[Zt,JY,or_false,not_or] at hb
zfM:=fun _ _ _ _ _ ⟨ok,ov,st⟩ h=>(PySem.W.kcp_self st h)
zgU:=∀(j:Nat) (x:V) (d:DV),(SS->((cO ds d)->Se))
zha:=∀(i:Nat) (a:α),((aU as a)->((p i)=(q a)))
zgj:=∀ e∈L,(∃ k' b,(bT FO (zcZ k') zbW (pG k' b)))
zeC:=["_law_picture_here", "_law_cell_here", "_law_shut", "_law_row", "_law_some"]
zka:=[wb,(f8 pt.nm),yQ,qU,(aC qs)]
znY:=by rintro Z _ (⟨v5,rfl,rfl⟩:62)
zeV a b c:=∃(i:Nat) (crowd:ap) (al:ai) (asked:aI) (v6 v7:b8),(jc,a+i,13,i<=crowd.length,b,c)
zir a b c:=by rintro i Z a _ (⟨_,_,_,_,⟨_,_,rfl,b,_⟩⟩:121);ext zr c
zhw a:=∀ H' qs,(j3,UU vk,zbo,a,AkD H' da n6 GS,qs)
zek a b c:=∀ H' own' rent' so' ho' asked s,(a->(bc b (zgh,xep hU ho) (wZ,Kp.kstep (xax (xad w ps srt)) so ho,EA so ho) c l9))
zeF a:=∃(crowd:ap) (al:ai) (asked:aI) (o1:bQ) (r1:bN) (g:Int) (b:Str) (s:Seat) (qs:Addr),a
zgx a:=∀ s∈st,((1<=d9)/\((d9<=um)\/((d9=jM)/\((HH ir)<a))))
zho a b c:=by rintro i Z a _ (⟨_,_,_,_,⟨_,_,_,_,_,rfl,b,_⟩⟩:121);ext zr c
znX:=B.free y (B.ysf y my)
zgT b c d:=by show(ah,c1,b,c2,Kp.hall mt2 c cr.nd (fun a ha=>d));rw[c1,ZD] at c2;omega
zgH a b:=by have etr:((trP pw ss oq)=(i0,i4,c)):=a;unfold stP;show(aQ,etr,sB _ _ b)
zpC:=(ao,n3 _ Kv _ aj z)
zpB:=(aq P0 P1 P2 P3 P4)
zmQ:=(aq,fV,jf,mY,uF,P4 a)
zpA:=(aq gu jA mJ uf FN)
zpz:=(aq gc iX mh tI ES)
zpy:=(aq fZ iT lY sY Er)
zkL:=(aq,jf,mY,uF,P4 a,P5 a)
zlB:=(aq,jA,mJ,uf,FN,P5 a b)
zkK:=(aq,iX,mh,tI,ES,P5 a b c)
zjZ:=(aq,iT,lY,sY,Er,P5 a b c d)
ziX a:=(aq (aU names pt.nm) LL a vS (G7 (pt,s)))
zfR:=by show(dZ,t,PD zh rx);show(dZ,t',show (∃ t',(v=(YI j t'))) from ry)
zgw a:=by ext iW x1 x2 x3 a;simp only at x1 x2 x3 hdat;subst x1 x2 x3 hdat
zer a:=by ext gE;ext zda ha;show(bC,get,∀ z∈xs,(∃(j:Nat) (e:DV),((cO xs z)/\((cO es e)/\(Dv X.K H m z e)))),z,hz,a)
zks:=fun u hu'=>(hall u (Zl _ hu'))
zfu:=by ext kI h2;exact(wB,.int k,I.kept k',q k aa aa aa (.inr (.inr rfl)))
znx a b:=by ext mF a;obtain⟨⟨dx,hp⟩,q⟩:=h;exact b
zgS a:=by rw[(aT z)] at hm;have ht:(vo\/xP):=a;unfold acr;ext xD if_true
zgN:=by ext sL;show(uY,dx2,hpa,k.dr.pic);show(mZ,ko,hko,k.dr.sts)
ziW:=by exact(bD so0 ho0 a1 a2 (tZ,ZO _ (a3 z hz)))
zgv a:=te σ' H4 (fun y H5=>(((H5 l)=(some (.lst xs)))/\(Hr/\a)))
zft a:=by ext rD hj hi e1;show(bI,List.getElem?_set_self hiσ,e2,e2);ext aH u r a
zhj a:=(eK,h,IsRangeIter h it (lo+((i:Nat)*a)) (iK-(i:Nat)) a)
znw a:=tSeq t2 (qQ t3 t4 (qQ t5 t6 a))
zfY:=(eX,true,iteF ⟨.inr sd,rfl,false,(eB hsd'),n8⟩)
zgZ a:=(mE hp1 T.n_bs lkW (mG a pw (bL p3 H3 hp3 sd3 s3)))
zmj:=h x _ hx Fg (xrq hx hdx)
zjq a:=callWith pos f first (XJ pos a) (MH pos)
zhI a:=by rw[a];exact (xda (hG l aa lo (fun j hj hj2=>(hi j aa hj2))))
zgg:=wpAny_letOwnedTupleGo_items hout (aK h'' hit' hsb)
zeA:=by rw[(decide_eq_true c)];simp only[Bool.and_self,if_true];exact (Zn (yes (wC,_,Zj le,b,c▸h3)))
zdZ:=by have hT:(xR it "dict_itemiterator"):=(dL st);unfold pyNext;refine (Zf (Ql (Yu hT JO ?_)));refine (JL JO hT F.entry_dict_itemiterator_next ?_ (F.args_dict_itemiterator_next_1 _));ext zV dr
zfH:=["self", "askers", "asked_by", "gap", "asker", "seat"]
zjY a b:=q _ bt (Pic.but hk bt pic) (ib _ xk ?_ a b)
zhn:=∀ z,((z∈zs)->(EqAt A.in1 s z y (f z)))
zfz:=["picture", "names", "crowd", "prices", "name", "pairs"]
zgo a:=(nE,xaj (pv 4),5,sc_e.nd,(kR,xae xb5 (uZ 5) a dO,mI))
zfX:=by rw[Zc] at hv;ext nH o ho hv;show(cc,p,m1,m2,m3,loop o (Zj ho))
zei:=by obtain⟨j,hj⟩:=(List.getElem?_of_mem hz);have lt:(j<es.length):=(cT hl (h8 hj));exact(bD,j,es[j],hj,ii,k j z _ hj ii)
zej:=by ext bI e e' e';rw[d] at d';injection d' with d1 _;have:(its=its'):=(Eb (wI Array.toList d1));ext wF;exact (r.inj r')
zea:=by unfold pyNext;refine (Zf (Ql (Yu st.typeIs JT ?_)));refine (JL JT st.typeIs F.entry_dict_keyiterator_next ?_ (F.args_dict_keyiterator_next_1 _));have ti:=st.typeIs;ext zV dr
zgM:=by rw[J7];intro d hd z;exact (no d hd (of_decide_eq_true z))
zgR a b:=⟨a,an.gv (kp _ _ (ne_f hln b) hln) (pl2.keep tp2),an⟩
zfd:=by simp only at ci di;subst ci di;unfold Builtin.«dict_keyiterator.__next__»
zjD:=by ext bI hp a1 a1;exact(bD q' t' a2 a3 a4)
zen:=by have I2:(cP H1 Mg):=VL;generalize hs2:(Mg:Shared)=s2 at I2;have g2:(ae,s2.heap.get? d,ob):=(cT,hs2,Zi _ g)
zib a:=by ext Ea gj u hu;obtain⟨⟨b,r⟩,hs,hsq⟩:62:=a
zfL:=by have itlt:(o9 it):=(Zz st);have pne:(s.heap.objs.size≠it):=(Qu itlt)
zeu:=by obtain⟨h0,h1⟩:=(xbd m (qD,lE<4));have:(((m % 4)=0)\/(((m % 4)=1)\/(((m % 4)=2)\/((m % 4)=3)))):=aa
zhv:=⟨Yz hu,(bD,k,xs,AM,dd,h _ _ iH ?_)⟩
zfy:=⟨(dk oc od kV doc (dk pm an cdv ct (gT osl l c))),k⟩
zgA a:=⟨jg,beq_eq_false_iff_ne.mpr (Z1 (ZS hb)),[],.nil,a⟩
zgf:=(2*jM)+(Pu (Ep,(V.str (xau sb))=(V.str "left")))
zjp:=fun y H' s' f=>(h1 y H' s' rfl f)
zjC:=fun _ _=>(cV 64 [] rfl rfl nA)
zeq b c e:=∃ H',(aq,DPut H d b c H',e,∀ a u,((a≠d)->((aR a u)->(ae,H' a,u))),jZ,∀ a,((bo a)->((H' a)=none)))
zeg a:=∀(X:Cx),(bc,X.prog=P,X.w=w,X.K=K,lT,∀(i:Nat) (pins:bj) (s:Shared) (Z:St) (H:Hp) (E:bq),(bv,av,MG,tn i s.heap,a))
zgY:=∃ xs,(D9/\(h.DictOfH (tupleKind oa) a xs))
zkr:=by obtain⟨u,rfl,⟨t,rfl⟩⟩:62:=(xc6 r)
zgQ a:=∀{binds:At}{m:fO},((∀ v,((x,v)∉binds))->(a=(m x)))
zeU:=by simp only[sliceBounds,HT.sIx,Option.getD_none,(qD,rE>0),if_true];by_cases h:(i<0)
zfo:=by obtain⟨_,_,⟨_,_,o,_,_,e,ex,_⟩⟩:43:=(I.hok p _ hk);ext aH o e ex
zhu:=by rw [(AQ,show ((s0.1,s0.2)∈ss) from min),JX] at c
zgu a:=∃ ox vs,(aP,a,eO ox.cls C,ox.dict=od,S7 ox.data)
zeL a:=I2.write (t':=s2.toks) (x:=d) (e:=d) yo gg (fun b u _ q=>q) ⟨ob,g2⟩ ⟨g2,a⟩
zeO a:=I1.write (t':=s1.toks) (x:=d) (e:=d) yo gg (fun b u _ q=>q) ⟨ob,g⟩ ⟨g,a⟩
zfk:=by rintro ⟨r1,r2⟩ s' ⟨hr,rfl,_⟩;simp only at hr;subst hr;exact (Zn h)
ziV:=fun a _ b _ s ha hb=>(m.inj ha hb)
zep:=["_law_script", "_law_picture_here", "_law_hand", "_law_cell_here", "_law_told", "_law_gone"]
zgG a:=by unfold cutV;rw[a,HT.sIx_nat,HT.sIx_none,Za,<- Yp,<- Yo];congr 1
zfj a b:=∃ x:Str,(((atI [V.str "left",a,b,zcL] (m % 4))=(f8 x))/\(zaK,x,x="both"))
zgX:=fun b u n1 _ n3 e=>(k2 _ _ n1 (k1 _ _ n3 e))
zff:=by show(aQ,sd1.keys,xmo (f:=(fun p:Pr=>aV)) (k:=Ja) pB (fun _ _ e=>(Ja.inj e)) nd)
zef a:=by show(ag,x,hx,rx,xfl r1 h1);show(ag,y,hy,ry,xfl r2 h2);have j1:(j<ds.length):=(DR h1);have j2:(j<es.length):=(DR h2);show(aQ,xij (Zb j1) (Zb j2),(a).1)
zet:=(pL,u8,tSeq t8 u9,u7,tSeq t7 u8,(pL,u6,tSeq t6 u7,u5,tSeq t5 u6,let u4:=(tSeq t4 u5); zaz))
zfx:=(eR t [.str ((aL).1),.str (bg aL),.ref q,.int i8,.int d6])
zed:=by refine (wpAny_raiseNew_none hA ?_);show(bP,wpAny_isInstance (dL gf) isSubtype_stop (Zn (h _ (fM b o nb ?_))));ext OA;show(aQ,QN _ _ (Z1 nb),e)
zeI:=by show(js,σ3,H3,I3,n3,q3);show(ag,m',hm,w3,hN σ3 H3 n3);show(aH,m',hm,bK σ3 H3 I3 w3)
zeo a c d:=(aq,a,c,Kp.Rch (xep sC ho) (.go Ol rent fh [pt.nm]) (.go o1 r1 asked crowd),(Fq,near sC o1 r1 asked crowd,b),d)
zfQ:=(((gM wW) == 0)&&(rE == 1))&&((zP-wW) == items.size)
zge a b:=by show(zH,W,Walks.range (prog:=X.prog) (w:=X.w) jp it lo a n,b);ext dZ t hv
ziU:=by have q:=(I.base.frzs d o' u' z);ext bV e q
zlA a b:=by show(EK,xc4 (fun p:Pt=>a) b il r hr,pi);exact (z e)
zeT:=by ext Ge;refine(mG qa _ (bR (cN (fK K0)) rfl cS zdE));exact (lJ TD (eF p q5 hp xk))
zfK:=by rw[ey] at e2;show(wE,hln2,dy hln,hlp2,dy hlp,Nr e2 hln2 vQ)
zeE:=by have jl:=zdF;rw[Zr,ZU] at jl;show(EU,j,al.length);rw[(Jz (Zk _)),Nat.sub_self] at e;cases e
zkJ a b:=by show(cc,o2,g2,c2,d2,id hit');ext vT a;ext zf nu b
zez:=by rw[ei];simp only[];refine (Zf (J0 (wpAny_eqBool_tuple hu h3 hk ?_)));ext Pq hf;by_cases c:(k'=k)
zex a b:=forIn ifs true (fun c r=>(if (r=true) then do let ok <- (isTrue c a b); (pure (YO ok)) else (pure (YO r))))
zem:=(aq,(ae,s.heap.get? aL,bJ),bo aL,aL≠X.env.locals,aL∉X.fs,∀ v,(((bJ).data)≠(.cell v)))
zeM a:=by show(hX,z,m1,m2,xi8 r w N7);obtain⟨j,e,_,_,he⟩:83:=(get z m1);show(cq,xg6 m2,xe4 I he,(a).1)
zhH a:=by show(FR,i,t,rfl,z);exact (fun A Q E s _ q=>(QJ (T:=a) rfl q))
zgi a b:=by refine(j6 ?_);refine (ifP aG ?_);exact (fun x dx hx hdx ne=>(cV x a dx n b))
zfb:=(fL,Z,H3,∃ v5:b8,((Z=[dJ,(f8 nm),(bz x),(bz y),zi,v5])/\(H2=H3)))
zgz:=by ext Bd d hd e;ext dY z hz hd;rw[xp1] at e;ext kh zqA hz
zfD a b:=by show(cc,kl,hkl,ll,fl,z.ln);refine a;show(cc,q,q1,q2,q3,fl nm h);ext gF q q1 b q3
zkI a:=by rw[Yx,Ji];intro i j hi hj a z;rw[Za] at hi hj
zfl c d:=by refine (fun a dx hx hdx ne=>(cV a dx w ph c));ext uG;show(lI,k5,d,s6 b u (xi e hx) XI)
zeh a c:=by obtain⟨_,hd,⟨a,_,dd⟩⟩:43:=c;show(gU,dd.typeIs,au b q,hd);cases q;obtain⟨ob,_,_,h1,h2,_⟩:103:=dd;show(aH,ob,h1,bg h2)
zeG:=(bS,kvs,qT,l,fun nm h=>(let ⟨q,e1,e2,e3⟩:=(f nm h); (bS,q,e1,s _ _ e2,e3)))
zmP a:=by show(iy,o,g,T.obj 0 _ st2 b hb);exact (Zz a)
ziH:=by show(hX,j,a,b,xff ky ad i x h);ext aH j aa b
zes c d:=(aq,Kp.Hand room (ao sH) so1 ho1 s,(gY,(rk b)<=(rk a),(so1 b)=(so b)),c,(n1+(rk a))<=(n+20),d)
zec:=by rw [(show ((its.toArray.any (eU HD))=(its.any (eU HD))) by simp),(xle r),(xkf (g:=(ao,dEq z d)) hl (fun j z e g1 g2=>(xe4 I (k j z e g1 g2))))];exact q
zeb:=l.map (fun (m,k)=>(if (((k == Wf)&&(env.scope.kind == .function))&&((env.kindOf m) == (some .cell))) then (m,NameKind.cell) else (m,k)))
zev:=by show(br,zI l1 ws el1 w2 SR,(bD,.dK [],_,gg,(aB,w3,xga (kv0:=[]) knd jo),?_));rw[List.nil_append]
theorem n42  {P0 P1:Prop} (h0:P0) (h1:P1):P0/\P1:=⟨h0,h1⟩
theorem i42  {P0 P1:Prop}{C:Prop} (k:P0->P1->C):(P0/\P1)->C:=(gW,k h.1 h.2)
theorem n43  {P0 P1 P2:Prop} (h0:P0) (h1:P1) (h2:P2):P0/\P1/\P2:=⟨h0,n42 h1 h2⟩
theorem i43  {P0 P1 P2:Prop}{C:Prop} (k:bv P0 P1 P2 C):(P0/\P1/\P2)->C:=(gW,i42 (k h.1) h.2)
theorem n44  {P0 P1 P2 P3:Prop} (h0:P0) (h1:P1) (h2:P2) (h3:P3):aP P0 P1 P2 P3:=⟨h0,n43 h1 h2 h3⟩
theorem i44  {P0 P1 P2 P3:Prop}{C:Prop} (k:bc P0 P1 P2 P3 C):(aP P0 P1 P2 P3)->C:=(gW,i43 (k h.1) h.2)
theorem n45  {P0 P1 P2 P3 P4:Prop} (h0:P0) (h1:P1) (h2:P2) (h3:P3) (h4:P4):zpB:=⟨h0,n44 h1 h2 h3 h4⟩
theorem i45  {P0 P1 P2 P3 P4:Prop}{C:Prop} (k:P0->(bc P1 P2 P3 P4 C)):zpB->C:=(gW,i44 (k h.1) h.2)
theorem n46  {P0 P1 P2 P3 P4 P5:Prop} (h0:P0) (h1:P1) (h2:P2) (h3:P3) (h4:P4) (h5:P5):P0/\(zcP P5):=⟨h0,n45 h1 h2 h3 h4 h5⟩
theorem i46  {P0 P1 P2 P3 P4 P5:Prop}{C:Prop} (k:P0->P1->(bc P2 P3 P4 P5 C)):(P0/\(zcP P5))->C:=(gW,i45 (k h.1) h.2)
theorem n47  {P0 P1 P2 P3 P4 P5 P6:Prop} (h0:P0) (h1:P1) (h2:P2) (h3:P3) (h4:P4) (h5:P5) (h6:P6):P0/\P1/\(aq P2 P3 P4 P5 P6):=⟨h0,n46 h1 h2 h3 h4 h5 h6⟩
theorem i47  {P0 P1 P2 P3 P4 P5 P6:Prop}{C:Prop} (k:bv P0 P1 P2 (bc P3 P4 P5 P6 C)):(P0/\(zcP,P5/\P6))->C:=(gW,i46 (k h.1) h.2)
theorem n61 {A0:Type}{P0:pI} (a:A0) (h0:fV):∃(a:A0),fV:=fb h0
theorem i61 {A0:Type}{P0:pI}{C:Prop} (k:∀(a:A0),fV->C):D7 fV:=(fj,k a h)
theorem n62 {A0:Type}{P0 P1:pI} (a:A0) (h0:fV) (h1:jf):∃(a:A0),fV/\jf:=(fb,n42 h0 h1)
theorem i62 {A0:Type}{P0 P1:pI}{C:Prop} (k:∀(a:A0),fV->jf->C):(D7,fV/\jf):=(fj,i42 (k a) h)
theorem n63 {A0:Type}{P0 P1 P2:pI} (a:A0) (h0:fV) (h1:jf) (h2:mY):∃(a:A0),fV/\jf/\mY:=(fb,n43 h0 h1 h2)
theorem i63 {A0:Type}{P0 P1 P2:pI}{C:Prop} (k:∀(a:A0),bv fV jf mY C):(D7,fV/\jf/\mY):=(fj,i43 (k a) h)
theorem n64 {A0:Type}{P0 P1 P2 P3:pI} (a:A0) (h0:fV) (h1:jf) (h2:mY) (h3:uF):∃(a:A0),aP fV jf mY uF:=(fb,n44 h0 h1 h2 h3)
theorem i64 {A0:Type}{P0 P1 P2 P3:pI}{C:Prop} (k:∀(a:A0),bc fV jf mY uF C):(D7,aP fV jf mY uF):=(fj,i44 (k a) h)
theorem n65 {A0:Type}{P0 P1 P2 P3 P4:pI} (a:A0) (h0:fV) (h1:jf) (h2:mY) (h3:uF) (h4:P4 a):∃(a:A0),zmQ:=(fb,n45 h0 h1 h2 h3 h4)
theorem i65 {A0:Type}{P0 P1 P2 P3 P4:pI}{C:Prop} (k:∀(a:A0),fV->(bc,jf,mY,uF,P4 a,C)):D7 zmQ:=(fj,i45 (k a) h)
theorem n66 {A0:Type}{P0 P1 P2 P3 P4 P5:pI} (a:A0) (h0:fV) (h1:jf) (h2:mY) (h3:uF) (h4:P4 a) (h5:P5 a):∃(a:A0),fV/\zkL:=(fb,n46 h0 h1 h2 h3 h4 h5)
theorem i66 {A0:Type}{P0 P1 P2 P3 P4 P5:pI}{C:Prop} (k:∀(a:A0),fV->(bc,jf,mY,uF,P4 a,P5 a->C)):(D7,fV/\zkL):=(fj,i46 (k a) h)
theorem n81 {A0 A1:Type}{P0:pA} (a:A0) (b:A1) (h0:gu):∃(a:A0) (b:A1),gu:=(fb,n61 b h0)
theorem i81 {A0 A1:Type}{P0:pA}{C:Prop} (k:∀(a:A0) (b:A1),gu->C):Dd gu:=(fj,i61 (k a) h)
theorem n82 {A0 A1:Type}{P0 P1:pA} (a:A0) (b:A1) (h0:gu) (h1:jA):∃(a:A0) (b:A1),gu/\jA:=(fb,n62 b h0 h1)
theorem i82 {A0 A1:Type}{P0 P1:pA}{C:Prop} (k:∀(a:A0) (b:A1),gu->jA->C):(Dd,gu/\jA):=(fj,i62 (k a) h)
theorem n83 {A0 A1:Type}{P0 P1 P2:pA} (a:A0) (b:A1) (h0:gu) (h1:jA) (h2:mJ):∃(a:A0) (b:A1),gu/\jA/\mJ:=(fb,n63 b h0 h1 h2)
theorem i83 {A0 A1:Type}{P0 P1 P2:pA}{C:Prop} (k:(zpQ,mJ->C)):(Dd,gu/\jA/\mJ):=(fj,i63 (k a) h)
theorem n84 {A0 A1:Type}{P0 P1 P2 P3:pA} (a:A0) (b:A1) (h0:gu) (h1:jA) (h2:mJ) (h3:uf):∃(a:A0) (b:A1),aP gu jA mJ uf:=(fb,n64 b h0 h1 h2 h3)
theorem i84 {A0 A1:Type}{P0 P1 P2 P3:pA}{C:Prop} (k:∀(a:A0) (b:A1),bc gu jA mJ uf C):(Dd,aP gu jA mJ uf):=(fj,i64 (k a) h)
theorem n85 {A0 A1:Type}{P0 P1 P2 P3 P4:pA} (a:A0) (b:A1) (h0:gu) (h1:jA) (h2:mJ) (h3:uf) (h4:FN):∃(a:A0) (b:A1),zpA:=(fb,n65 b h0 h1 h2 h3 h4)
theorem i85 {A0 A1:Type}{P0 P1 P2 P3 P4:pA}{C:Prop} (k:∀(a:A0) (b:A1),gu->(bc jA mJ uf FN C)):Dd zpA:=(fj,i65 (k a) h)
theorem n86 {A0 A1:Type}{P0 P1 P2 P3 P4 P5:pA} (a:A0) (b:A1) (h0:gu) (h1:jA) (h2:mJ) (h3:uf) (h4:FN) (h5:P5 a b):∃(a:A0) (b:A1),gu/\zlB:=(fb,n66 b h0 h1 h2 h3 h4 h5)
theorem i86 {A0 A1:Type}{P0 P1 P2 P3 P4 P5:pA}{C:Prop} (k:zpQ (bc,mJ,uf,FN,P5 a b,C)):(Dd,gu/\zlB):=(fj,i66 (k a) h)
theorem n101 {A0 A1 A2:Type}{P0:sx} (a:A0) (b:A1) (c:A2) (h0:gc):∃(a:A0) (b:A1) (c:A2),gc:=(fb,n81 b c h0)
theorem i101 {A0 A1 A2:Type}{P0:sx}{C:Prop} (k:∀(a:A0) (b:A1) (c:A2),gc->C):CY gc:=(fj,i81 (k a) h)
theorem n102 {A0 A1 A2:Type}{P0 P1:zpo} (a:A0) (b:A1) (c:A2) (h0:gc) (h1:iX):zpx iX:=(fb,n82 b c h0 h1)
theorem i102 {A0 A1 A2:Type}{P0 P1:sx}{C:Prop} (k:∀(a:A0) (b:A1) (c:A2),gc->iX->C):(CY,gc/\iX):=(fj,i82 (k a) h)
theorem n103 {A0 A1 A2:Type}{P0 P1 P2:zpo} (a:A0) (b:A1) (c:A2) (h0:gc) (h1:iX) (h2:mh):∃(a:A0) (b:A1) (c:A2),gc/\iX/\mh:=(fb,n83 b c h0 h1 h2)
theorem i103 {A0 A1 A2:Type}{P0 P1 P2:sx}{C:Prop} (k:∀(a:A0) (b:A1) (c:A2),bv gc iX mh C):(CY,gc/\iX/\mh):=(fj,i83 (k a) h)
theorem n104 {A0 A1 A2:Type}{P0 P1 P2 P3:sx} (a:A0) (b:A1) (c:A2) (h0:gc) (h1:iX) (h2:mh) (h3:tI):∃(a:A0) (b:A1) (c:A2),aP gc iX mh tI:=(fb,n84 b c h0 h1 h2 h3)
theorem i104 {A0 A1 A2:Type}{P0 P1 P2 P3:sx}{C:Prop} (k:∀(a:A0) (b:A1) (c:A2),bc gc iX mh tI C):(CY,aP gc iX mh tI):=(fj,i84 (k a) h)
theorem n105 {A0 A1 A2:Type}{P0 P1 P2 P3 P4:sx} (a:A0) (b:A1) (c:A2) (h0:gc) (h1:iX) (h2:mh) (h3:tI) (h4:ES):∃(a:A0) (b:A1) (c:A2),zpz:=(fb,n85 b c h0 h1 h2 h3 h4)
theorem i105 {A0 A1 A2:Type}{P0 P1 P2 P3 P4:sx}{C:Prop} (k:∀(a:A0) (b:A1) (c:A2),gc->(bc iX mh tI ES C)):CY zpz:=(fj,i85 (k a) h)
theorem n106 {A0 A1 A2:Type}{P0 P1 P2 P3 P4 P5:sx} (a:A0) (b:A1) (c:A2) (h0:gc) (h1:iX) (h2:mh) (h3:tI) (h4:ES) (h5:P5 a b c):zpx zkK:=(fb,n86 b c h0 h1 h2 h3 h4 h5)
theorem i106 {A0 A1 A2:Type}{P0 P1 P2 P3 P4 P5:sx}{C:Prop} (k:∀(a:A0) (b:A1) (c:A2),gc->iX->(bc,mh,tI,ES,P5 a b c,C)):(CY,gc/\zkK):=(fj,i86 (k a) h)
theorem n121 {A0 A1 A2 A3:Type}{P0:oQ} (a:A0) (b:A1) (c:A2) (d:A3) (h0:fZ):∃(a:A0) (b:A1) (c:A2) (d:A3),fZ:=(fb,n101 b c d h0)
theorem i121 {A0 A1 A2 A3:Type}{P0:oQ}{C:Prop} (k:∀(a:A0) (b:A1) (c:A2) (d:A3),fZ->C):CK fZ:=(fj,i101 (k a) h)
theorem n122 {A0 A1 A2 A3:Type}{P0 P1:oQ} (a:A0) (b:A1) (c:A2) (d:A3) (h0:fZ) (h1:iT):zlg iT:=(fb,n102 b c d h0 h1)
theorem i122 {A0 A1 A2 A3:Type}{P0 P1:oQ}{C:Prop} (k:∀(a:A0) (b:A1) (c:A2) (d:A3),fZ->iT->C):(CK,fZ/\iT):=(fj,i102 (k a) h)
theorem n123 {A0 A1 A2 A3:Type}{P0 P1 P2:oQ} (a:A0) (b:A1) (c:A2) (d:A3) (h0:fZ) (h1:iT) (h2:lY):∃(a:A0) (b:A1) (c:A2) (d:A3),fZ/\iT/\lY:=(fb,n103 b c d h0 h1 h2)
theorem i123 {A0 A1 A2 A3:Type}{P0 P1 P2:oQ}{C:Prop} (k:∀(a:A0) (b:A1) (c:A2) (d:A3),bv fZ iT lY C):(CK,fZ/\iT/\lY):=(fj,i103 (k a) h)
theorem n124 {A0 A1 A2 A3:Type}{P0 P1 P2 P3:oQ} (a:A0) (b:A1) (c:A2) (d:A3) (h0:fZ) (h1:iT) (h2:lY) (h3:sY):∃(a:A0) (b:A1) (c:A2) (d:A3),aP fZ iT lY sY:=(fb,n104 b c d h0 h1 h2 h3)
theorem i124 {A0 A1 A2 A3:Type}{P0 P1 P2 P3:oQ}{C:Prop} (k:∀(a:A0) (b:A1) (c:A2) (d:A3),bc fZ iT lY sY C):(CK,aP fZ iT lY sY):=(fj,i104 (k a) h)
theorem n125 {A0 A1 A2 A3:Type}{P0 P1 P2 P3 P4:oQ} (a:A0) (b:A1) (c:A2) (d:A3) (h0:fZ) (h1:iT) (h2:lY) (h3:sY) (h4:Er):∃(a:A0) (b:A1) (c:A2) (d:A3),zpy:=(fb,n105 b c d h0 h1 h2 h3 h4)
theorem i125 {A0 A1 A2 A3:Type}{P0 P1 P2 P3 P4:oQ}{C:Prop} (k:∀(a:A0) (b:A1) (c:A2) (d:A3),fZ->(bc iT lY sY Er C)):CK zpy:=(fj,i105 (k a) h)
theorem n126 {A0 A1 A2 A3:Type}{P0 P1 P2 P3 P4 P5:oQ} (a:A0) (b:A1) (c:A2) (d:A3) (h0:fZ) (h1:iT) (h2:lY) (h3:sY) (h4:Er) (h5:P5 a b c d):zlg zjZ:=(fb,n106 b c d h0 h1 h2 h3 h4 h5)
theorem i126 {A0 A1 A2 A3:Type}{P0 P1 P2 P3 P4 P5:oQ}{C:Prop} (k:∀(a:A0) (b:A1) (c:A2) (d:A3),fZ->iT->(bc,lY,sY,Er,P5 a b c d,C)):(CK,fZ/\zjZ):=(fj,i106 (k a) h)
namespace L2
open PySem PySem.Spec PyProof.Rows
variable {q0:Bool}
noncomputable abbrev Key:=Sum Int Str
noncomputable def xfu:Key->Value->Bool
 | .inl k,v=>Value.isInt k v
 | Cc,v=>Value.isStrOf x v
noncomputable def keyH (w:World):Key->Int
 | .inl k=>hashInt k
 | Cc=>hashStr w x
theorem xbz:∀{k:Key}{v:Value},xfu k v=true->(∃ i t,k=Qk i/\v=zh)\/(∃ x t,k=Ja x/\v=Q8 x t)
 | .inl i,v,h=>by
  show(mq,t,Value.isInt_shape (k:=i) (v:=v) h);show(eD,bK i t rfl e)
 | Cc,v,h=>by
  show(mq,t,Value.isStrOf_shape (x:=x) (v:=v) h);show(fU,bK x t rfl e)
theorem xoa (i:Int) (t:Tok):xfu (.inl i) KZ=true:=by simp[xfu,Value.isInt]
theorem xo1 (x:Str) (t:Tok):xfu (.inr x) (.str x t)=true:=by simp[xfu,Value.isStrOf]
theorem xvy (a b:Int):decide ((Qk a:Key)=Qk b)=Fx:=by
 by_cases e:a=b
 .ext cR; simp
 .have h:¬ (Qk a:Key)=Qk b:=fun q=>e (Qk.inj q);show(aQ,decide_eq_false h,(beq_eq_false_iff_ne.mpr e).symm)
theorem xu6 (a b:Str):zF (dA Xy) (a=b):=by
 by_cases e:a=b
 .ext cR; simp
 .have h:¬ Xy:=fun q=>e (Ja.inj q);rw[decide_eq_false h,decide_eq_false e]
theorem xu0 (a:Int) (b:Str):RO ((Qk a:Key)=Ja b):=ziE
theorem xvr (a:Str) (b:Int):RO ((Ja a:Key)=Qk b):=ziE
noncomputable def xav (prog:Program) (w:World):PySem.KeyKind prog w Key where
 is:=xfu
 hash:=keyH w
 inj:=fun v a b ha hb=>by
  rcases xbz ha with⟨i,t,rfl,rfl⟩|⟨x,t,rfl,rfl⟩
  .rcases xbz hb with⟨j,u,rfl,e⟩|⟨y,u,rfl,e⟩
   .ext zbx; rw[e1]
   .exact nomatch e
  .rcases xbz hb with⟨j,u,rfl,e⟩|⟨y,u,rfl,e⟩
   .exact nomatch e
   .ext zbx; rw[e1]
 byValue:=fun k v h=>by
  rcases xbz h with⟨i,t,rfl,rfl⟩|⟨x,t,rfl,rfl⟩<;>rfl
 pyHash:=fun hv h=>by
  rcases xbz hv with⟨i,t,rfl,rfl⟩|⟨x,t,rfl,rfl⟩
  .exact wpAny_pyHash_int h
  .exact wpAny_pyHash_str h
 eqBool:=fun hu hv h=>by
  rcases xbz hu with⟨i,t,rfl,rfl⟩|⟨x,t,rfl,rfl⟩
  .rcases xbz hv with⟨j,u,rfl,rfl⟩|⟨y,u,rfl,rfl⟩
   .ext gZ xvy; exact wpAny_eqBool_int h
   .ext gZ xu0; exact Z0.int_str i t y u _ _ _ _ h
  .rcases xbz hv with⟨j,u,rfl,rfl⟩|⟨y,u,rfl,rfl⟩
   .ext gZ xvr; exact Z0.str_int x t j u _ _ _ _ h
   .ext gZ xu6; exact wpAny_eqBool_str h
 «strs»:=fun k x t v h=>by
  rcases xbz h with⟨i,u,rfl,e⟩|⟨y,u,rfl,e⟩
  .exact nomatch e
  .ext zbx
   subst e1;cases v<;>rfl
theorem xlv (prog:Program) (w:World) (i:Int) (t:Tok):(xav prog w).is (.inl i) KZ=true:=xoa i t
theorem xlz (prog:Program) (w:World) (x:Str) (t:Tok):(xav prog w).is (.inr x) (.str x t)=true:=xo1 x t
inductive V where
 | non|bl (b:Bool)|int (i:Int)|str (x:Str)|byt (b:Array UInt8)|flt (b:UInt64)|ref (a:Addr)|ty (n:String)
 deriving DecidableEq
noncomputable def RelV:bA V Value
 | .non,u=>u=JB
 | zD,u=>u=Yb b
 | dI,u=>∃ t,u=zh
 | mK,u=>∃ t,u=Q8 x t
 | .byt b,u=>∃ t,u=Value.bytes b t
 | .flt b,u=>∃ t,u=Value.float b t
 | bb,u=>u=Zq a
 | .ty n,u=>u=Value.type n
noncomputable abbrev Vals:bA af aX:=Paired RelV
theorem Vals.length {xs:af}{us:aX} (r:kX):xs.length=us.length:=Y6 r
theorem Vals.get:∀{xs:af}{us:aX}{i:Nat}{x:V},kX->tF->∃ u,(aU us u)/\nR
 | _,_,_,_,.nil,e=>AI
 | _,_,0,_,.cons r _,e=>by ext A5; exact cA r
 | _,_,aY,x,Kf,e=>by
  show(ag,u,h1,h2,Vals.get (i:=i) (x:=x) t uX);ext aH u qw h2
theorem Vals.append:∀{xs ys:af}{us ws:aX},kX->Vals ys ws->Vals (xs++ys) (us++ws)
 | _,_,_,_,.nil,s=>s
 | _,_,_,_,vG,s=>.cons r (Vals.append t s)
theorem Vals.take:∀{xs:af}{us:aX} (n:Nat),kX->Vals (xs.take n) (us.take n)
 | _,_,0,_=>.nil
 | _,_,_+1,.nil=>.nil
 | _,_,n+1,vG=>.cons r (Vals.take n t)
theorem Vals.drop:∀{xs:af}{us:aX} (n:Nat),kX->Vals (xs.drop n) (us.drop n)
 | _,_,0,r=>r
 | _,_,_+1,.nil=>.nil
 | _,_,n+1,Kf=>Vals.drop n t
noncomputable def RelO:bA b8 Et
 | ud,some u=>mf
 | none,none=>True
 | _,_=>False
noncomputable def KV {κ:Type}:bA eV vh:=Paired fun (p:κ × V) (q:κ × Value)=>aL=q.1/\RelV bJ q.2
noncomputable def kV:Key->V
 | .inl i=>dI
 | Cc=>mK
inductive HO where
 /-- a list -/
 | lst (xs:af)
 /-- a tuple (never changes) -/
 | tup (xs:af)
 /-- a dict whose keys are ints and texts; one whose keys are tuples of ints and texts (the empty one is both) -/
 | dK (kvs:bw)|dT (kvs:dc)
 /-- a set of ints: its members,its size -/
 | set (S:Int->Bool) (n:Nat)
 /-- an instance of the class at C,its dict at dx,its attributes -/
 | ins (C dx:Addr) (fs:iS)
 /-- the dict of the instance at x -/
 | own (x:Addr)
 /-- the dict of an exception -/
 | xd (fs:iS)
 /-- a bound method,f of x -/
 | met (f x:Addr)
 /-- a range object lo,lo+1,.. below hi -/
 | rng (lo hi:Int)
 /-- a thing that is known to the object (the script; a dict while a loop walks it): read,never written while it is so -/
 | frz (o:Obj) (u:HO)
 /-- a code object's table -/
 | tbl (ps:gJ)
 /-- any other thing,by what is true of its one object (a def of one's own: SetO a S n:=HO.ext fun h=>..) -/
 | ext (φ:Heap->Prop)
noncomputable abbrev Hp:=Addr->(dB HO)
noncomputable def upd (H:Hp) (a:Addr) (o:HO):Hp:=fun b=>(jq,b,a,some o,H b)
theorem xk {H:Hp}{a:Addr}{o:HO}:(ae,upd H a o a,o):=by unfold upd; rw[bY]
theorem xj {H:Hp}{a b:Addr}{o:HO} (h:b≠a):upd H a o b=H b:=by unfold upd; rw[ay h]
theorem xeq {H:Hp}{a:Addr}{o u:HO}:upd EM a u=(eQ a u):=by
 funext b; unfold upd; split<;>rfl
theorem xdb {H:Hp}{a b:Addr}{o u:HO} (h:KJ) (h':iY) (d:o≠u):a≠b:=by
 intro e; ext cR; rw[h] at h'; exact d (ZL.inj h')
theorem xi {H:Hp}{a b:Addr}{o:HO} (h:KJ) (h':cZ):a≠b:=by
 intro e; ext cR; ext bV h h'
section
variable (P:Program) (w:World)
noncomputable def xbc (H:Hp) (h:Heap) (a:Addr):HO->Prop
  | .lst xs=>vc/\(zaJ,xX/\(kM Mz))
  | .tup xs=>vc/\∃ its:aX,xX/\IsTup h a its.toArray
  | Lk=>Uu
  | .dT kvs=>Dy/\FM/\∃ xs:qI,
      Paired (fun (p:eA × V) (q:eA × zbY)=>(bT,aL,q.1,aR (bg q) (.tup ((aL).map kV)),RelV bJ (bX q))) kvs xs /\
      ∃ o es ep,(kM o)/\o.ExactDict/\kJ/\es.toList=xs.map (entryOfKey (tupleKind oa))/\(xs.map (·.1)).Nodup
  | .set S n=>h.SetOf (intKind P w) a S n
  | Bq=>(Aw dx a)/\Ou/\dx≠a/\(kM (Yi C dx)) /\
      ∃ mA,Rv/\F9/\QK mA (fs.map (·.1))
  | .own _=>∃ o,kM o
  | .xd fs=>∃ mA,h.Ns1 a mA/\F9
  | .rng lo hi=>∃ t u v,kM (hR,"range",.fields (znW 1))
  | KY=>(kM o)/\xbc H h a u
  | .tbl ps=>kM UY
  | .met f x=>kM (Wm rC)
  | .ext φ=>φ h/\(∃ o,kM o)/\∀ h1 h2:Heap,φ h1->(∀ o,(ae,h1.get? a,o)->(ae,h2.get? a,o))->φ h2
noncomputable def HOk (H:Hp) (h:Heap):Prop:=∀ a o,KJ->xbc P w H h a o
#check _
section
variable {P:Program}{w:World}{H H':Hp}{h h':Heap}{a:Addr}{o:HO}
theorem xbc.lt (x:xbc P w H h a o):a<h.objs.size:=by
 cases o with
 | lst xs=>obtain⟨_,_,_,_,e⟩:=x; ext wD
 | tup xs=>obtain⟨_,_,_,p⟩:=x; exact p.lt
 | dK kvs=>ext zhS
 | dT kvs=>ext zhS
 | set S n=>obtain⟨o,_,_,_,e,_⟩:122:=x; ext wD
 | ins C dx fs=>obtain⟨_,_,_,e,_⟩:45:=x; ext wD
 | own y=>obtain⟨_,e⟩:=x; ext wD
 | xd fs=>obtain⟨_,⟨_,_,_,e,_⟩,_⟩:62:=x; ext wD
 | rng lo hi=>obtain⟨_,_,_,e⟩:101:=x; ext wD
 | frz ob u=>obtain⟨e,_⟩:=x; ext wD
 | tbl ps=>exact Zz (show kM _ from x)
 | met f y=>exact Zz (show kM _ from x)
 | ext φ=>obtain⟨_,⟨_,e⟩,_⟩:43:=x; ext wD
theorem Paired.mapP {α β:Type}{F G:bA α β}:∀{l₁:bZ}{l₂:List β},Paired F l₁ l₂->(∀ a b,F a b->G a b)->Paired G l₁ l₂
 | _,_,.nil,_=>.nil
 | _,_,vG,f=>.cons (f _ _ r) (Paired.mapP t f)
theorem xbc.stay (x:xbc P w H h a o) (k:∀ b u,(b=a\/(Aw b a))->(ae,h.get? b,u)->(ae,h'.get? b,u))
    (ho:(gY,Aw b a,H' b=some (.own a))) (ht:Gc):xbc P w H' h' a o:=by
  induction o with
  | lst xs=>ext zbr x; show(aS,z,bK its n r qJ)
  | tup xs=>obtain⟨z,its,r,ob,e,c⟩:=x; exact⟨z,its,r,ob,qJ,c⟩
  | dK kvs=>obtain⟨z,y,⟨vs,r,ob,es,ep,e,c⟩⟩:43:=x; exact⟨z,y,vs,r,uy ob es ep qJ c⟩
  | dT kvs =>
    obtain⟨z,y,⟨xs,r,ob,es,ep,e,c⟩⟩:43:=x;exact⟨z,y,xs,Paired.mapP r fun p q z=>zjK,uy ob es ep qJ c⟩
  | set S n=>obtain⟨ob,es,ep,t,e,c⟩:122:=x; exact⟨122,ob,es,ep,t,qJ,c⟩
  | ins C dx fs =>
    obtain⟨d,z,ne,e,⟨mA,⟨od,es,ep,e2,c⟩,r⟩⟩:45:=x;exact(cL,ho _ d,z,ne,qJ,⟨mA,(uy,od,es,ep,k _ _ (.inr d) e2,c),r⟩)
  | own y=>ext mq ob x; ext aS ob qJ
  | xd fs=>obtain⟨mA,⟨od,es,ep,e,c⟩,r⟩:62:=x; show(aH,mA,uy od es ep qJ c,r)
  | rng lo hi=>obtain⟨t,u,v,e⟩:101:=x; exact⟨101,t,u,v,qJ⟩
  | frz ob u ih=>ext gK e x; show(aS,qJ,ih q)
  | tbl ps =>
    have e:kM UY:=x;show HG UY;exact k a _ gg e
  | met f y =>
    have e:kM (Wm (.ref y)):=x;show HG (Wm (.ref y));exact k a _ gg e
  | ext φ=>obtain⟨p,⟨o,e⟩,st⟩:43:=x; show(aH,st _ _ p fun o q=>k _ _ gg q,⟨o,qJ⟩,st)
theorem HOk.lt (x:lS) (e:KJ):a<h.objs.size:=(x a o e).lt
theorem HOk.fresh (x:lS) (e:zaW):bo a:=by
 cases q:H a with
 | none=>rfl
 | some u=>show(yD,ZB (x.lt q) e)
theorem HOk.kept (x:lS) (k:Mf):HOk P w H h':=fun a o e =>
 (x a o e).stay (fun b u _ q=>k b u q) R8 DZ
theorem HOk.laid (x:lS) (k:Mf) (hp:zaW) (new:xbc P w EM h' a o):HOk P w EM h':=fun b u e=>by
 have hn:=x.fresh hp;ext B2 a
 .ext rD hb xk e; exact new
 .rw [xj hb] at e;exact (x b u e).stay (fun c v _ q=>k c v q) (HW (xi q hn)) (Hd (xi q hn))
#check _
noncomputable def Rd (H:Hp) (a:Addr) (u:HO):Prop:=(aR a u)\/∃ o,aR a KY
theorem Rd.ok {P:Program}{w:World}{H:Hp}{h:Heap}{a:Addr}{u:HO} (r:Rd H a u) (x:lS):xbc P w H h a u:=by
 rcases r with r|⟨o,r⟩
 .exact x a u r
 .obtain ⟨_,q⟩:=x a _ r;exact q
noncomputable def Mut:(dB HO)->Prop
 | some (.lst _)=>True
 | BD _=>True
 | some (.dT _)=>True
 | some (.set _ _)=>True
 | some (.ins _ _ _)=>True
 | some (.ext _)=>True
 | _=>False
section
variable {P:Program}{w:World}{H:Hp}{h h':Heap}{x e:Addr}{o':HO}
theorem HOk.write (ok:lS) (mu:Mut (H x)) (he:zah) (k:zgW) (heo:VC)
    (new:xbc P w (eQ x o') h' x o'):HOk P w (eQ x o') h':=fun b u q=>by
  have nown:∀ c y,(Aw c y)->c≠x:=fun c y r z=>WN r
  have ntup:∀ c xs,(eR c xs)->c≠x:=fun c xs r z=>WN r
  ext B2 x
  . ext rD hb xk q; exact new
  . rw[xj hb] at q
    by_cases hbe:b=e
    . have q':Aw b x:=by
        rcases he with z|z
        . exact absurd (hbe.trans z) hb
        . ext aQ hbe z
      ext bI q q' q';show(pb,v,hv,heo,v,aB hbe hv)
    . refine (ok b u q).stay (zaQ r) (fun c r=>bO (nown c b r) r) fun c xs r=>bO (ntup c xs r) r
      rcases hc with rfl|hc
      . exact hbe
      . rintro rfl
        rcases he with z|z
        . exact nown c b hc z
        . ext bI hc z z; exact hb rfl
#check _
structure Un (fs ex:ax) (H H':Hp) (h h':Heap):Prop where
 keep:∀ b o,(bc,su,cZ,b∉fs,b∉ex,wY)
 slot:∀ b o,(bv,su,cZ,b∈fs,b∉ex->zjk)
 free:∀ b o,(bv,su,cZ,b∉ex,A4)
 there:(BE,su,b∉ex,∃ o',Px o')
 tups:Gc
 frzs:zih
 tbls:zeD
section
variable {fs fs' ex ex':List Addr}{H H1 H2:Hp}{h h1 h2 h':Heap}{a x e:Addr}{o:HO}
theorem Un.any (u:Un fs ex H H1 h h1) {b:Addr}{ob:Obj} (q:(ae,h.get? b,ob)) (n:cZ) (hx:b∉ex):∃ sl,(ae,h1.get? b,{ ob with slots:=sl }):=by
 by_cases hb:b∈fs
 .exact u.slot b ob q n hb hx
 .exact ⟨ob.slots,u.keep b ob q n hb hx⟩
theorem Un.kept (k:Mf):Un fs ex H H h h' :=
 ⟨(Sl,ob,k b ob q),Sl ob ⟨ob.slots,k b ob q⟩,fun _ _ _ n _=>n,fun b ob q _=>⟨ob,k b ob q⟩,DZ,fun _ _ _ q=>q,fun _ ps q=>⟨#[],jr q⟩⟩
theorem Un.refl:Un fs ex H H h h:=Un.kept DZ
theorem Un.laid (k:Mf) (hp:zaW) (hn:bo a):Un fs ex H EM h h' where
 keep:=(Sl,u,k b u q)
 slot:=Sl u ⟨u.slots,k b u q⟩
 free:=fun b u q n _=>(aB,xj (ZS (ZB (Zz q) hp)),n)
 there:=fun b u q _=>⟨u,k b u q⟩
 tups:=(wH,xs,bO (xi q hn) q)
 frzs:=fun b u xs q=>bO (xi q hn) q
 tbls:=(zmq,oG q hn)
theorem Un.write (mu:Mut (H x)) (he:zah) (k:zgW) (heo:VC):Un fs ex H (eQ x o) h h':=by
 have hx:(gY,cZ,b≠x):=fun b n z=>WN n
 have hb:(gY,cZ,b≠e):=fun b n z=>by
  subst z;rcases he with r|r
  .exact hx b n r
  .ext zp n r
 have hm:∀ b u,iY->¬ Mut (some u)->b≠x:=fun b u q nm z=>by subst z; rw[q] at mu; exact nm mu
 refine⟨fun b u q n _ _=>k b u (hb b n) q,fun b u q n _ _=>⟨u.slots,k b u (hb b n) q⟩,fun b u q n _=>bO (hx b n) n,fun b u q _=>?_,
  (wH,xs,bO zaj q),fun b u xs q=>bO zaj q,(zmq,xj zaj)⟩
 by_cases hbe:b=e
 .subst hbe; exact heo
 .exact ⟨u,k b u hbe q⟩
#check _
noncomputable def trk (h:Heap) (H:Hp):ax:=(zbk).filter fun a=>(H a).isSome
noncomputable def hidT (h:Heap) (H:Hp):Heap:=PySem.W.hideAll h (trk h H)
theorem xpp (h:Heap) (H:Hp):(Tj).objs.size=h.objs.size:=PySem.W.hideAll_size _ _
theorem xre {h:Heap}{H:Hp}{b:Addr}{o:Obj} (e:su) (n:cZ):(ae,(Tj).get? b,o) :=
 PySem.W.hideAll_get _ e fun hm=>by
  have q:fR (H b):=(ZH.mp hm).2;rw[n] at q; simp at q
theorem xtv {h:Heap}{H:Hp}{b:Addr}{o:Obj} (e:(ae,(Tj).get? b,o)):su/\cZ:=by
 show(aw,e',su,PySem.W.of_hideAll (trk h H) e,fE e');cases q:H b with
 | none=>rfl
 | some x =>
  have hm:b∈trk h H:=ZH.mpr ⟨ZG.mpr (Zz e'),cI q⟩;have z:(Tj).get? b=none:=PySem.W.hideAll_none (trk h H) hm;ext bV z e
noncomputable def xs0 (g h:Heap) (L:Addr):bj:=(zbk).filterMap fun a=>if a=L\/(fR (g.get? a)) then none else (h.get? a).map fun o=>(a,o)
noncomputable def rest (g h:Heap) (L d:Addr):bj:=(xs0 g h L).filter fun p=>dA (aL≠d)
structure Mod (K:Zd) (mg:fO) (base:Heap):Prop where
 kin:K.In base
 glob:base.Ns mainGlobals mg
 blt:∃ mb,base.Ns builtinsNs mb/\zhC
 nolimit:base.NoLimit
structure Cx where
 prog:Program
 w:World
 K:Zd
 mg:fO
 base:Heap
 A:Around
 N:ap
 s₀:Shared
 H₀:Hp
 env:Env
 outer:mj
 stack:mj
 ex:ax
 fn:Str->Bool
 calm:Bool
 pn:bj
 xe:bq
noncomputable def frs (l:mj):ax:=l.filterMap (·.frame)
noncomputable abbrev Cx.fs (X:Cx):ax:=frs X.outer
noncomputable def Vis (sc:Scope) (x:Str):Prop:=(MD,Gb\/(ae,sc.names.lookup x,.free))
noncomputable def Loc (sc:Scope) (x:Str):Prop:=MD Gb
noncomputable def Look (env:Env) (h:Heap) (m:fO) (x:Str) (u:Value):Prop :=
 ((ae,env.kindOf x,.local)/\(ae,m x,u))\/(((ae,env.kindOf x,.cell)\/(ae,env.kindOf x,.free))/\∃ c,(ae,env.cells.lookup x,c)/\h.IsCell c (some u))
structure Cx.Ok (X:Cx):Prop where
 mod:zpK
 kind:X.env.scope.kind=.function
 glob:X.env.globals=mainGlobals
 blt:X.env.builtins=builtinsNs
 above:wT X.env.locals
 inj:∀ x y c,zN->(ae,X.env.cells.lookup y,c)->x=y
 has:∀ x,((ae,X.env.kindOf x,.cell)\/(ae,X.env.kindOf x,.free))->∃ c,zN
 cab:∀ x c,zbX->zN->(wT c)
 hd:lT->X.A.handled=none
 frames:ae X.A.frames X.stack
 stk:X.stack=X.outer\/(X.stack=X.env::X.outer/\(ae X.env.frame X.env.locals))
 exf:∀ b∈X.ex,Ae/\(xG b)
 bs:(M7,zld/\X.H₀ b=none)
 bsz:X.base.objs.size<=X.s₀.heap.objs.size
 noex:(M7,b∉X.ex)
 exfs:∀ b∈X.ex,Tt
 funs:zoB X.outer
 frf:∀ b∈X.fs,X.H₀ b=none
structure Inv (X:Cx) (pins:bj) (Z:zav) (H:Hp) (s:Shared):Prop where
 ok:X.Ok
 os:s.os=X.s₀.os
 bare:AllBare s.gens
 base:Un X.fs X.ex X.H₀ H X.s₀.heap s.heap
 loc:∃ m,zmK/\∀(i:Nat) (x:Str) (v:V),(bv,sX,CA=(qM v),N3,∃ u,mf/\Look X.env s.heap m x u)
 cell:∀ x c,zN->∃ v,s.heap.IsCell c v
 free:bo X.env.locals
 freeC:∀ x c,zN->(bo c)
 pin:∀ p∈nI,zem
 hok:HOk X.prog X.w H s.heap
 len:Z.length=X.N.length
section
variable {X:Cx}{pins:List (Addr × Obj)}{Z:List (Option V)}{H H':Hp}{s:Shared}{h':Heap}
theorem Cx.Ok.nofr (ok:X.Ok) {b:Addr}{o:Obj} (e:(ae,X.base.get? b,o)):Tt:=fun hb=>by
 show(zaE,(ok.funs.mem hb).1)
theorem Inv.bs (I:av):(M7,jj/\cZ):=fun b o e =>
 ⟨I.base.keep b o XB (I.ok.bs b o e).2 (I.ok.nofr e) (I.ok.noex b o e),I.base.free b o XB (I.ok.bs b o e).2 (I.ok.noex b o e)⟩
theorem Inv.bk (I:av):M7 jj:=(ur,(I.bs b o e).1)
theorem Inv.mod (I:av):zpK:=I.ok.mod
theorem Inv.kIn (I:av):X.K.In s.heap:=I.ok.mod.kin.keeps I.bk
theorem Inv.fr (I:av):∃ m,Fr X.base X.env.locals s.heap m :=
 let ⟨m,hn,_⟩:=I.loc
 ⟨m,hn,I.bk,znM⟩
theorem Inv.lt (I:av):o9 X.env.locals:=let ⟨_,hn,_⟩:=I.loc; hn.lt
theorem Inv.sz (I:av):wT s.heap.objs.size:=ZN I.ok.above (JN I.lt)
theorem Inv.nofs (I:av) {a:Addr} (h:DF a):a∉X.fs:=fun hb=>by
 obtain⟨_,o,ho,_⟩:=I.ok.funs.mem hb;show(yD,ZB (Zz ho) (ZN I.sz h))
theorem Inv.cne (I:av):xG X.env.locals:=fun x c e z=>by
 ext js v o ho hd P7;obtain⟨m,⟨o',es,ep,ho',hd',_⟩,_⟩:62:=(I.loc)
 rw[z,ho'] at ho; cases ho; ext bV hd' hd
theorem Inv.funs (I:av):W7 X.outer:=by
 have all:∀(l:mj),(∀ b∈frs l,b∈X.fs)->(zoB l)->(W7 l):=by
  intro l
  induction l with
  | nil=>intro _ _; trivial
  | cons env r ih =>
   intro hs hl;obtain⟨hk,⟨L,o,hf,hn,ho,hd⟩,hr⟩:43:=hl;have hL:L∈X.fs:=hs L (zoT Zm);show(mq,sl,I.base.slot L o ho (I.ok.frf L hL) hL (ao,I.ok.exfs L z hL))
   show(aH,hk,⟨84,L,_,hf,hn,e,hd⟩,ih (og,hs b (zoT,Zl _ hb)) hr)
 exact all X.outer (fun _ hb=>hb) I.ok.funs
theorem Inv.stack (I:av):W7 X.stack:=by
 rcases I.ok.stk with e|⟨e,hf⟩
 .show(eE,e,I.funs)
 .rw [e];show(iy,m,hn,I.loc)
  refine .cons (sT I.ok.kind) hf hn ?_ I.funs;exact Heap.get?_none_of_le znM
theorem Inv.stkSub (I:av):∀ b∈D5,b∈X.env.locals::X.fs:=fun b hb=>by
 rcases I.ok.stk with e|⟨e,hf⟩
 .rw [e] at hb; exact Zl _ hb
 .rw [e] at hb;unfold frs at hb;ext uB J6 hf hb hb
theorem Inv.stkFree (I:av):∀ b∈D5,cZ:=fun b hb=>by
 rcases dC (I.stkSub b hb) with e|hb
 .show(eE,e,I.free)
 .obtain ⟨_,o,ho,_⟩:=I.ok.funs.mem hb;exact I.base.free b o ho (I.ok.frf b hb) (ao,I.ok.exfs b z hb)
theorem Inv.step {g':Array GenState}{t':Nat}{d':Drawn}{ch:ax} (I:av)
    (hch:Uc)
    (keep:rK Ae (bc Tt B6 jj cZ wY))
    (slot:rK Ae (bc,b∈X.fs,B6,jj,cZ,zjk)) (free:∀ b o,bv B6 jj cZ A4)
    (there:(BE,B6,jj,∃ o',Px o'))
    (tups:Gc) (frzs:zih) (tbls:zeD)
    (ns:∀ m,zmK->h'.Ns X.env.locals m) (hok:WF) (hg:AllBare g') :
    zfE:=by
  have neL:rK (ae,X.s₀.heap.get? b,o) Ae:=(ur,ZS (wg I.ok.above));have neC:(BE,zld,b∉X.ex,B6):=fun b o e hx hb=>by
    rcases (hch b hb).1 with z|z
    . exact hx z
    . show(yD,wg z)
  have cellK:∀ x c,zN->∀ v,s.heap.IsCell c v->h'.IsCell c v:=fun x c e v ⟨o,ho,hd⟩=>by
    have nch:c∉ch:=(ao,(bX (hch c z)).1 x c e rfl);by_cases hc:c∈X.fs
    . show(gK,sl,slot c o (I.cne x c e) hc nch ho Pc)
      exact cD q hd
    . show(aH,o,keep c o (I.cne x c e) hc nch ho Pc,hd)
  refine⟨I.ok,I.os,hg,⟨fun b o e n hb hx=>?_,fun b o e n hb hx=>?_,bL b o e n hx,O7,(iI,tups b xs (I.base.tups b xs e)),(mN,xs,frzs b o xs (I.base.frzs b o xs e)),eP b ps ?_⟩,?_,rW x c,?_,rW x c,kS,hok,I.len⟩
  . exact keep b o (neL b o e) hb PZ (I.base.keep b o e n hb hx) V2
  . obtain⟨sl,e1⟩:=I.base.slot b o e n hb hx
    show(pb,sl',e2,slot b _ (neL b o e) hb PZ e1 V2,sl',e2)
  . obtain⟨o',e1⟩:=Nn
    exact free b o' PZ e1 V2
  . obtain⟨o',e1⟩:=Nn
    exact there b o' PZ e1
  . obtain⟨m1,e1⟩:=I.base.tbls b ps e
    show(pb,m2,e2,tbls b _ e1,m1++m2,bW e2 Array.append_assoc)
  . ext zbs
    show(gU,m,ns m hn,fun i x v e1 e2 e3=>?_);show(ag,u,r,l,hl i x v e1 e2 e3);ext im u r;rcases l with l|⟨k,c,e,z⟩
    . ext eD l
    . show(fU,⟨k,c,e,cellK x c e _ z⟩)
  . show(pb,v,z,P7,v,cellK x c e v z)
  . obtain⟨m,⟨o,_,_,ho,_⟩,_⟩:62:=(I.loc)
    exact free _ o (ao,(hch _ z).2.1 rfl) ho I.free
  . ext js v o ho hd P7
    exact free c o (ao,(bX (hch c z)).1 x c e rfl) ho Pc
  . obtain⟨e,n,ne,nf,d⟩:45:=Sc
    have nch:aL∉ch:=(ao,(bX (hch aL z)).2 p hp rfl);exact(cL,keep aL bJ ne nf nch e n,free aL bJ nch e n,ne,nf,d)
theorem Inv.un {t':Nat} (I:av) (u:Un X.fs [] H H' s.heap h') (hok:WF):cP H' BL:=by
 obtain⟨m,⟨o,es,ep,ho,r⟩,_⟩:62:=id I.loc;obtain⟨sl,hL⟩:=u.any ho I.free aj;exact I.step (g':=s.gens) (d':=s.drawn) (ch:=[]) nA (fun b o _ hb _ e n=>u.keep b o e n hb aj) (fun b o _ hb _ e n=>u.slot b o e n hb aj) (fun b o _ e n=>u.free b o e n aj) (fun b o _ e=>u.there b o e aj) u.tups u.frzs u.tbls (fun m' hm=>by
  obtain⟨o',es',ep',ho',r'⟩:102:=hm;ext ziK) hok I.bare
theorem Inv.call {g':Array GenState}{t':Nat}{d':Drawn}{ch:ax} (I:av) (u:Un D5 ch H H' s.heap h') (hok:WF) (hg:AllBare g')
    (hch:Uc) :
    zfE:=by
  obtain⟨m,⟨o,es,ep,ho,r⟩,_⟩:62:=id I.loc;obtain⟨sl,hL⟩:=u.any ho I.free (ao,(hch _ z).2.1 rfl)
  exact I.step (ch:=ch) hch (fun b o hL hb hc e n=>u.keep b o e n (ao,(zqj).elim hL hb) hc) (fun b o _ _ hc e n=>u.any e n hc) (fun b o hc e n=>u.free b o e n hc) (mN,hc,u.there b o e hc) u.tups u.frzs u.tbls (fun m' hm=>by
    obtain⟨o',es',ep',ho',r'⟩:102:=hm;ext ziK) hok hg
theorem Inv.turned {t':Nat}{it:Addr} (I:av) (k:Nz wY) (hn:bo it) (hL:it≠X.env.locals)
    (h1:it∈X.ex\/(wT it)) (h2:xG it) (h3:Hu it):m6 BL:=by
  have nit:(rL,iY,b≠it):=fun b u e z=>by rw[z,hn] at e; cases e
  refine I.step (g':=s.gens) (d':=s.drawn) (ch:=rX) iA (Om VY) (Om ⟨o.slots,VY⟩) (fun _ _ _ _ n=>n)
    (mN hc ⟨o,VY⟩) (fun _ _ e=>e) OL zlu (au m hm) v0 I.bare
  . ext sU;exact bR h1 hL h2 h3
  . obtain⟨o,es,ep,ho,r⟩:102:=hm
    exact(uy,o,es,ep,k _ o (Z1 hL) ho,r)
  . refine (zdn).stay (zaQ q) R8 DZ
    rcases hc with z|z
    . show(aQ,z,nit b u e)
    . exact nit c _ z
theorem Inv.tok (I:av) (t:Nat):m6 { s with toks:=t }:=I.un (h':=s.heap) (t':=t) Un.refl I.hok
theorem Inv.kept {t':Nat} (I:av) (k:zgF):m6 BL:=I.un (Un.kept k) (I.hok.kept k)
theorem Inv.laid {a:Addr}{o:HO}{t':Nat} (I:av) (k:zgF) (hp:DF a) (new:xbc X.prog X.w EM h' a o) :
    cP EM BL:=I.un (Un.laid k hp (I.hok.fresh hp)) (I.hok.laid k hp new)
theorem Inv.write {x e:Addr}{o:HO}{t':Nat} (I:av) (mu:Mut (H x)) (he:zah) (k:o8 e (ae,s.heap.get? b,u) (ae,h'.get? b,u)) (heo:VC)
    (new:xbc X.prog X.w (eQ x o) h' x o):cP (eQ x o) BL:=I.un (Un.write mu he k heo) (I.hok.write mu he k heo new)
theorem Inv.weak {σ':zav} (I:av) (hl:σ'.length=Z.length) (w:∀(i:Nat) v,σ'[i]?=(qM v)->CA=za):FT σ' H s :=
 ⟨I.ok,I.os,I.bare,I.base,let ⟨m,hn,hl'⟩:=I.loc; ⟨m,hn,fun i x v e1 e2 e3=>hl' i x v e1 (w i v e2) e3⟩,I.cell,I.free,I.freeC,I.pin,I.hok,hl.trans I.len⟩
theorem Inv.pins_of {pins':bj} (I:av) (h:∀ p∈pins',zem):Inv X pins' Z H s :=
 ⟨I.ok,I.os,I.bare,I.base,I.loc,I.cell,I.free,I.freeC,(dS,(Zy.mp hp).elim (ao,I.pin p (ZO _ z)) (h p)),I.hok,I.len⟩
theorem xlt {N:ap} (hN:N.Nodup) {i j:Nat}{x:Str} (a:aU N x) (b:cO N x):i=j:=by
 obtain⟨h1,e1⟩:=Zh.mp a;obtain⟨h2,e2⟩:=Zh.mp b;exact (List.getElem_inj hN).mp (e1.trans e2.symm)
theorem xj5 {M:Model}{A:Around}{E:bq}{i:Nat}{x:Str}{v:V}{u:Value}{Q:yj} (I:av) (hN:X.N.Nodup) (hi:sX) (hx:zY) (r:mf)
    (h:∀ s',(FT oY H s')->(∃ a,Jq a s.heap s'.heap/\(a=X.env.locals\/(ae,X.env.cells.lookup x,a)))->Q () s') (hf:zL:=by first|ext ww|ext zd|ext dW):wpAny M A zpJ Q E s:=by
  show(ag,m,hn,hl,id I.loc);show(mT,hcls,X.env.scope.kind == .class||(X.env.scope.kind == .module&&X.env.locals != X.env.globals),eB I.ok.kind)
  show(cB,hiσ,i<Z.length,(aB,I.len,h8 hi),cne,I.cne);have tracked:∀{a:Addr}{h':Heap},(∃ o,(Dk o)/\(bo a))->Jq a s.heap h'->HOk X.prog X.w H h':=fun {a h'} ha hs b ob e=>by
    obtain⟨_,_,hfree⟩:62:=ha;refine (I.hok b ob e).stay (fun c w' hc q=>(hs.2 c ?_).trans q) R8 DZ;rintro rfl;rcases hc with rfl|hc
    . ext bV hfree e
    . ext bV hfree hc
  rcases hx with hk|hk
  . refine wpAny_storeName_local hk hn (aK h' hn' hs) hcls
    obtain⟨oL,_,_,hoL,_⟩:102:=id hn;refine h _ ⟨I.ok,I.os,I.bare,⟨fun b o e n hb hx=>?_,fun b o e n hb hx=>?_,I.base.free,O7,I.base.tups,I.base.frzs,I.base.tbls⟩,(cD,hn',fun j y v' e1 e2 e3=>?_),rW y c,I.free,I.freeC,kS,tracked ⟨oL,hoL,I.free⟩ hs,zpw⟩ (cD hs gg)
    . exact (hs.2 b (ZS (wg I.ok.above))).trans (I.base.keep b o e n hb hx)
    . show(pb,sl,e1,I.base.slot b o e n hb hx,sl,(hs.2 b (ZS (wg I.ok.above))).trans e1)
    . show(pb,o',e1,Nn,o',(hs.2 b (ZS (wg I.ok.above))).trans e1)
    . by_cases hj:j=i
      . show(zft,.inl ⟨hk,aj⟩)
      . show(zis,hl j y v' e1 e2 e3);rcases q with⟨k,e⟩|⟨k,c,e,z⟩
        . refine .inl (fE k)
          have:y≠x:=fun e=>hj (xlt hN e1 (e▸hi));simp[this,e]
        . show(fU,⟨k,c,e,zmu⟩)
    . show(pb,w',z,I.cell y c e,w',zmu)
    . obtain⟨e,n,ne,nf,d⟩:45:=Sc
      exact(cL,(hs.2 aL ne).trans e,n,ne,nf,d)
  . have hfn:zbX:=by
      rcases hf with z|z
      . exact z
      . ext bV z hk
    obtain⟨c,hc⟩:=I.ok.has x (.inl hk);obtain⟨w',z⟩:=I.cell x c hc;refine wpAny_storeName_cell I.ok.kind hk hc z (aK h' hc' hs);show(ag,oc,hoc,hocd,id z);refine h nu ⟨I.ok,I.os,I.bare,⟨fun b o e n hb hx=>?_,fun b o e n hb hx=>?_,I.base.free,O7,I.base.tups,I.base.frzs,I.base.tbls⟩,⟨m,hn.sameBut hs (Z1 (cne x c hc)),fun j y v' e1 e2 e3=>?_⟩,rW y c',I.free,I.freeC,kS,tracked ⟨oc,hoc,I.freeC x c hc⟩ hs,zpw⟩ ⟨c,hs,.inr hc⟩
    . exact (hs.2 b (ZS (wg (I.ok.cab x c hfn hc)))).trans (I.base.keep b o e n hb hx)
    . show(pb,sl,e1,I.base.slot b o e n hb hx,sl,(hs.2 b (ZS (wg (I.ok.cab x c hfn hc)))).trans e1)
    . show(pb,o',e1,Nn,o',(hs.2 b (ZS (wg (I.ok.cab x c hfn hc)))).trans e1)
    . by_cases hj:j=i
      . show(zft,.inr ⟨.inl hk,c,hc,hc'⟩)
      . show(zis,hl j y v' e1 e2 e3);rcases q with q|⟨k,c',e,z'⟩
        . ext eD q
        . show(zJ,⟨k,c',e,z'.sameBut hs ?_⟩)
          rintro rfl;exact hj (xlt hN e1 (I.ok.inj _ _ _ e hc▸hi))
    . by_cases hcc:c'=c
      . subst hcc; exact gD hc'
      . show(pb,w2,z2,I.cell y c' e,w2,z2.sameBut hs hcc)
    . obtain⟨e,n,ne,nf,d⟩:45:=Sc
      refine(cL,(hs.2 aL ?_).trans e,n,ne,nf,d);intro q;rw[q,hoc] at e;have q':oc=bJ:=ZL.inj e;exact d w' (cT q' hocd)
theorem xhk {M:Model}{A:Around}{E:bq}{i:Nat}{x:Str}{v:V}{u:Value}{Q:yj} (I:av) (hN:X.N.Nodup) (hi:sX) (hx:zY) (r:mf)
    (h:OY (FT oY H s')) (hf:zL:=by first|ext ww|ext zd|ext dW):wpAny M A zpJ Q E s :=
  xj5 I hN hi hx r (fun s' I' _=>h s' I') hf
theorem Inv.call' {s':Shared}{ch:ax} (I:av) (ho:s'.os=s.os) (u:Un D5 ch H H' s.heap s'.heap) (hok:HOk X.prog X.w H' s'.heap) (hg:Ow)
    (hch:Uc):vC:=by
  obtain⟨h',g',d',t',o'⟩:=s';show(tP,o',s.os,ho);exact I.call (g':=g') (t':=t') (d':=d') u hok hg hch
#check _
noncomputable abbrev XK:=Addr->(mV Addr)
noncomputable abbrev St:=zav
noncomputable abbrev VK:=ui
noncomputable abbrev TE:=St->sZ
noncomputable abbrev TT:=St->(bA Hp vI)
noncomputable abbrev TA:=St->(bA Hp yL)
structure Ends where
 nx:mD
 rt:VK
 bk:mD:=vb
 ct:mD:=vb
noncomputable abbrev TS:=Ends->mD
noncomputable def EP (X:Cx) (pins:bj) (Z:St) (Q:VK) (u:Value) (s':Shared):Prop:=∃ v H',vC/\mf/\Ce
noncomputable def TP (X:Cx) (pins:bj) (Z:St) (Q:vI) (b:Bool) (s':Shared):Prop:=∃ H',vC/\Q b H'
noncomputable def AP (X:Cx) (pins:bj) (Z:St) (Q:yL) (us:aX) (s':Shared):Prop:=∃ vs H',vC/\E1/\Q vs H'
noncomputable def SP (X:Cx) (pins:bj) (D:Ends) (f:Flow) (s':Shared):Prop :=
 match f with
 | .next=>(Iz,D.nx σ' H')
 | .brk=>(Iz,D.bk σ' H')
 | .cont=>(Iz,D.ct σ' H')
 | .ret u=>∃ v σ' H',zbq/\mf/\D.rt v H'
noncomputable def PE (X:Cx) (e:Expr) (t:TE):Prop :=
 (zhV,av->BI->wpAny aN X.A (gO e) lP X.xe s)
noncomputable def PT (X:Cx) (e:Expr) (t:TT):Prop :=
 (Mn,vI,av->BI->wpAny aN X.A (isTrue e X.env (gO e)) Pe X.xe s)
noncomputable def PW (X:Cx) (e:Expr) (t:TT):Prop :=
 ∀(whole:SU) (pins:bj) (s:Shared) (Z:St) (H:Hp) (Q:vI),av->BI->wpAny aN X.A zpj Pe X.xe s
theorem PW.pt {X:Cx}{e:Expr}{t:TT} (h:PW X e t):PT X e t:=h _
noncomputable def PA (X:Cx) (es:jY) (t:TA):Prop :=
 ∀(pos:Pos) (pins:bj) (s:Shared) (Z:St) (H:Hp) (Q:yL),av->BI->wpAny aN X.A (spliced xW) (AP X pins Z Q) X.xe s
noncomputable def PS (X:Cx) (st:Stmt) (t:TS):Prop :=
 (zfC,wpAny aN X.A (exec st X.env) (SP X pins D) X.xe s)
noncomputable def PSs (X:Cx) (st:Bm) (t:TS):Prop :=
 (zfC,wpAny aN X.A (execs st X.env) (SP X pins D) X.xe s)
theorem thn {α:Type}{t:Sem α}{Q Q':eW α}{M:Model}{A:Around}{E:bq}{s:Shared} (h:wpAny M A t Q E s) (hQ:∀ a s,Q a s->Q' a s):wpAny M A t Q' E s:=Jh h hQ fun _ _ x=>x
section
variable {X:Cx}
theorem bin {a b:Expr}{ta tb:TE} (ha:nN) (hb:vF) {pins:bj}{s:Shared}{Z:St}{H:Hp}{R:V->ui} (I:av) (h:zjg)
    {α:Type}{Q:eW α}{f:Value->Value->Sem α}
    (hf:(zgV,wpAny aN X.A (f v u) Q X.xe s2)) :
    wpAny aN X.A D0 (kH,s₁,wpAny aN X.A (gO b) (fun u s₂=>wpAny aN X.A (f v u) Q X.xe s₂) X.xe s₁) X.xe s:=by
  show(jJ,ha pins s Z H _ I h,fun v s1 ⟨x,H1,I1,r1,q1⟩=>?_);show(jJ,hb pins s1 Z H1 _ I1 q1,fun u s2 ⟨y,H2,I2,r2,q2⟩=>?_);exact hf v u s2 x y H2 I2 r1 r2 q2
@[reducible] def oV:(bA,Option (Option V),V->Prop)
 | za,k=>k v
 | _,_=>False
theorem xxm:∀{o:Option (Option V)}{k:V->Prop},oV o k->∃ v,o=za/\k v
 | za,_,h=>eX v h
@[reducible] def iV:V->(bA V PL)
 | dI,.int j,k=>k i j
 | _,_,_=>False
theorem xno {x y:V}{k:PL} (h:iV x y k):∃ i j,IJ/\(Co j)/\k i j:=by
 cases x with
 | int i =>
  cases y with
  | int j=>exact wC i j rfl h
  | _=>exact h.elim
 | _=>exact h.elim
@[reducible] def lV:bA af (bA V af)
 | uE,k=>k v r
 | [],_=>False
theorem xry:∀{l:af}{k:bA V af},lV l k->∃ v r,l=uE/\k v r
 | uE,_,h=>bK v r rfl h
@[reducible] def nV:bA af Prop
 | [],p=>p
 | cM,_=>False
theorem xru:∀{l:af}{p:Prop},nV l p->l=[]/\p
 | [],_,h=>cp h
@[reducible] def tVar (i:Nat) (Z:St) (H:Hp) (Q:VK):Prop:=oV CA fun v=>Q v H
@[reducible] def tC (v:V):TE:=(EW,Q v H)
theorem xuy {i:Nat}{x:Str}{pos:Pos} (hN:sX) (hv:N3) (hd:ng:=by decide) (hcd:zlb:=by decide):PE X sO (tVar i):=by
 intro pins s Z H Q I h;show(ag,v,e,h,xxm h);ext zbs
 show(ag,u,r,l,hl i x v hN e hv);have fin:EP X pins Z Q u s:=zaT
 rcases l with⟨hk,hm⟩|⟨hk,c,hc,hcell⟩
 .exact wpAny_Name (ziZ fin) hd
 .rcases hk with hk|hk
  .exact wpAny_Name (ziC fin) hd
  .exact wpAny_Name (wpAny_loadName_free I.ok.kind hk hc hcell fin hcd) hd
theorem xo {i j pos}:X3 dI (tC (.int i)):=(Dw,wpAny_Constant_int (wB dI iH h))
theorem xck {b j pos}:X3 (.bool b) (tC (.bl b)):=(Dw,Constant_bool (ux zD h))
theorem xc3 {j pos}:PE X (.Constant .none j pos) (tC .non):=(Dw,Constant_none (ux .non h))
theorem xa6 {x j pos}:X3 mK (tC (.str x)):=(Dw,Calls.Constant_str (wB mK iH h))
noncomputable def Gl (X:Cx) (x:Str):Prop:=(ae,X.env.kindOf x,.globalImplicit)
theorem xhc {E:bq}{pins:bj}{s:Shared}{Z:St}{H:Hp}{x:Str}{u:Value}{pos:Pos}{Q:bq} (I:av) (hg:rh) (hm:(ae,X.mg x,u)) (h:Q u s)
    (hd:ng:=by decide):wpAny aN X.A (gO sO) Q E s :=
  Calls.Name_function_global I.ok.kind hg (Calls.loadGlobal_global zgO hm h) hd
theorem xd3 {E:bq}{pins:bj}{s:Shared}{Z:St}{H:Hp}{x:Str}{u:Value}{pos:Pos}{Q:bq} (I:av) (hg:rh) (hm:yu x) (hv:znp) (h:Q u s)
    (hn:Hq:=by decide) (hd:ng:=by decide):wpAny aN X.A (gO sO) Q E s:=by
  show(ag,mb,h1,h2,I.mod.blt)
  exact Calls.Name_function_global I.ok.kind hg (Calls.loadGlobal_builtin zgO hm (by rw[I.ok.blt]; exact h1.keeps I.bk) ((h2 x hn).trans hv) h) hd
theorem xg2 {x:Str}{v:V}{u:Value}{pos:Pos} (hg:rh) (hm:(ae,X.mg x,u)) (r:mf) (hd:ng:=by decide):PE X sO (tC v) :=
 (Dw,xhc I hg hm zaT hd)
theorem xcx {x:Str}{v:V}{u:Value}{pos:Pos} (hg:rh) (hm:yu x) (hv:znp) (r:mf) (hn:Hq:=by decide) (hd:ng:=by decide):PE X sO (tC v) :=
 (Dw,xd3 I hg hm hv zaT hn hd)
variable {a b:Expr}{ta tb:TE}{pos:Pos}
noncomputable def PC (X:Cx) (op:CmpOp) (a b:Expr) (t:TE):Prop :=
 ∀(pins:List (Addr × Obj)) (s:Shared) (Z:St) (H:Hp) (Q:VK),av->BI ->
  wpAny aN X.A D0 (kH,s₁,wpAny aN X.A (gO b) (fun u s₂=>wpAny aN X.A (compareOp op v u) lP X.xe s₂) X.xe s₁) X.xe s
theorem xlo (b:Expr) {op:CmpOp} (h:op≠.In) (h2:op≠.NotIn):CV:=by
 show(uA,e1,op,CmpOp.In,by cases op<;>first|rfl|ext jb h)
 show(uA,e2,op,CmpOp.NotIn,by cases op<;>first|rfl|ext jb h2)
 ext zml
inductive tB_i (x:V) (H1:Hp) (Q:vI):Prop
 | mk (c) (e_:x=.bl c) (r_:Q c H1)
noncomputable def tB (t:TE):TT:=(j7,t Z H fun x H1=>tB_i x H1 Q)
theorem xvb {op:CmpOp}{t:TE} (h:PC X op a b t) (h1:CV:=by first|exact xlo _ az az|rfl):PE X Nb t:=fun pins s Z H Q I hw=>wpAny_Compare1 (h pins s Z H Q I hw) h1
theorem xcu {op:CmpOp}{t:TE} (h:PC X op a b t) (h1:CV:=by first|exact xlo _ az az|rfl):PT X Nb (tB t):=by
 intro pins s Z H Q I hw;refine wpAny_isTrue_Compare1 (thn (h pins s Z H _ I hw) fun v s1 h1=>thn h1 fun u s2 h2=>thn h2 fun c s3 ⟨x,H1,I1,r1,q1⟩=>?_) h1;ext NL d q;exact JC ⟨H1,I1,q⟩
theorem xbf {e:Expr}{t:TE} (h:PE X e t) (he:zfS zpj e.pos:=by intro _; rfl):PT X e (tB t):=by
 intro pins s Z H Q I hw;refine isTrue_plain (thn (h pins s Z H _ I hw) fun v s1 ⟨x,H1,I1,r1,q1⟩=>?_) (he _);ext NL d q;exact JC ⟨H1,I1,q⟩
variable {tA tB':TT}{rest:List Expr}
noncomputable def tAnd (t u:TT):TT:=w6 c (cK,c,u Z H1 Q,Q false H1)
noncomputable def tOr (t u:TT):TT:=w6 c (cK,c,Q true H1,u Z H1 Q)
noncomputable def tNot (t:TT):TT:=(w6,c,Q (! c) H1)
theorem xds (ha:Kg):XA [a] tA:=by
 intro wh pins s Z H Q I h;refine isTrue_and (thn (ha pins s Z H Q I h) (eP c s1 ?_));cases c with
 | true=>exact isTrue_and_nil e
 | false=>exact e
theorem xcm (ha:Kg):X6 [a] tA:=by
 intro wh pins s Z H Q I h;refine isTrue_or (thn (ha pins s Z H Q I h) (eP c s1 ?_));cases c with
 | false=>exact isTrue_or_nil e
 | true=>exact e
theorem xeg (ha:Kg) (hb:XA EZ tB'):XA (a::EZ) (tAnd tA tB'):=by
 intro wh pins s Z H Q I h;refine isTrue_and (thn (ha pins s Z H _ I h) (vL c s1 H1 I1 q1));cases c with
 | true=>exact hb wh pins s1 Z H1 Q I1 q1
 | false=>ext aH H1 I1 q1
theorem xco (ha:Kg) (hb:X6 EZ tB'):X6 (a::EZ) (tOr tA tB'):=by
 intro wh pins s Z H Q I h;refine isTrue_or (thn (ha pins s Z H _ I h) (vL c s1 H1 I1 q1));cases c with
 | true=>ext aH H1 I1 q1
 | false=>exact hb wh pins s1 Z H1 Q I1 q1
theorem xbp (ha:Kg):PT X (.UnaryOp .Not a pos) (tNot tA):=by
 intro pins s Z H Q I h;exact isTrue_not (ha pins s Z H (fun c H1=>Q (! c) H1) I h)
inductive xtp (tb:TE) (Z:St) (x:V) (H1:Hp) (Q:VK):Prop
 | mk (c) (e_:x=.bl c) (r_:(cK,c,tb Z H1 Q,Q (.bl false) H1))
noncomputable def xx4 (ta tb:TE):TE:=(wS,xtp tb Z x H1 Q)
inductive xsh (x:V) (H1:Hp) (Q:VK):Prop
 | mk (c) (e_:x=.bl c) (r_:Q (.bl (! c)) H1)
noncomputable def xxw (ta:TE):TE:=(wS,xsh x H1 Q)
theorem xei {op}{t:TE} (h:PE X a t):zdW op [a] t:=fun pins s Z H Q I hw=>BoolOp_one (h pins s Z H Q I hw)
theorem xc2 (ha:nN) (hb:zdW .And EZ tb):zdW .And (a::EZ) (xx4 ta tb):=by
 intro pins s Z H Q I h;refine BoolOp_and (thn (ha pins s Z H _ I h) fun v s1 ⟨x,H1,I1,r1,q1⟩=>?_);ext NL c q1;refine JC ?_;cases c with
 | true=>exact hb pins s1 Z H1 Q I1 q1
 | false=>exact(eF,.bl false,H1,I1,q1)
theorem xp2 (ha:nN):PE X (.UnaryOp .Not a pos) (xxw ta):=by
 intro pins s Z H Q I h;refine UnaryOp_ (thn (ha pins s Z H _ I h) fun v s1 ⟨x,H1,I1,r1,q1⟩=>?_);ext NL c q1;exact not_of (JC (eF,.bl (! c),H1,I1,q1))
noncomputable def tIf (t:TT) (ta tb:TE):TE:=w6 c (cK,c,ta Z H1 Q,tb Z H1 Q)
theorem xh1 {c:Expr} (hc:PT X c tA) (ha:nN) (hb:vF):PE X (.IfExp c a b pos) (tIf tA ta tb):=by
 intro pins s Z H Q I h;refine wpAny_IfExp (thn (hc pins s Z H _ I h) (vL d s1 H1 I1 q1));cases d with
 | true=>exact ha pins s1 Z H1 Q I1 q1
 | false=>exact hb pins s1 Z H1 Q I1 q1
#check _
noncomputable def SqL (K:Zd) (H:Hp) (a:Addr) (xs:af):Prop :=
 Rd H a (.lst xs) \/
  (zpu,zqn/\(zfZ (IV "list") zdA))
noncomputable def SqT (K:Zd) (H:Hp) (a:Addr) (xs:af):Prop :=
 Rd H a (.tup xs) \/
  (zpu,zfZ zqn (IV "tuple"))
noncomputable def absV:Value->(dB V)
 | .none=>some .non
 | .bool b=>some (.bl b)
 | .int i _=>bz i
 | .str x _=>f8 x
 | .bytes b _=>some (.byt b)
 | .float b _=>some (.flt b)
 | bb=>dJ
 | .type n=>some (.ty n)
 | _=>none
theorem RelV.abs {x:V}{u:Value} (r:nR):(ae,absV u,x):=by
 cases x with
 | non=>ext jR r
 | bl _=>ext jR r
 | int _=>ext Ey
 | str _=>ext Ey
 | byt _=>ext Ey
 | flt _=>ext Ey
 | ref _=>ext jR r
 | ty _=>ext jR r
theorem RelV.inj {x y:V}{u:Value} (r:nR) (q:gb):x=y:=ZL.inj (r.abs.symm.trans q.abs)
theorem Vals.inj:∀{xs ys:af}{us:aX},kX->(wJ ys)->xs=ys
 | _,_,_,.nil,.nil=>rfl
 | _,_,_,vG,.cons r' t'=>(bW,r.inj r',Vals.inj t t')
section
variable {X:Cx}{pins:List (Addr × Obj)}{Z:St}{H:Hp}{s:Shared}{a:Addr}{xs ys:List V}
theorem SqL.of {K:Zd} (h:vd a xs):qC:=.inl (.inl h)
theorem SqT.of {K:Zd} (h:eR a xs):HQ:=.inl (.inl h)
theorem Inv.list (I:av) (h:SqL X.K H a xs):∃ its:aX,xX/\PlainL s.heap a its.toArray/\vc:=by
 rcases h with h|⟨o,its,n,hk,hc,hd,hs,hz,r⟩
 .obtain ⟨z,its,n,r,e⟩:=h.ok I.hok;show(gF,its,r,⟨84,_,n,e,rfl,rfl,rfl⟩,z)
 .show(zfN,⟨84,o,n,I.kIn a o hk,hc,hd,by simpa using hs⟩)
theorem Inv.tuple (I:av) (h:SqT X.K H a xs):∃ its:aX,xX/\IsTup s.heap a its.toArray/\vc:=by
 rcases h with h|⟨o,its,n,hk,hc,hs,hz,r⟩
 .obtain ⟨z,its,r,p⟩:=h.ok I.hok;ext gF its r p z
 .show(zfN,(bS,o,I.kIn a o hk,hc,⟨n,by simpa using hs⟩))
theorem Inv.list_inj (I:av) (h:SqL X.K H a xs) (h':SqL X.K H a ys):xs=ys:=by
 obtain⟨its,r,⟨o,n,e,_,_,d⟩,_⟩:63:=I.list h;obtain⟨its',r',⟨o',n',e',_,_,d'⟩,_⟩:63:=I.list h';ext zej
theorem Inv.tuple_inj (I:av) (h:SqT X.K H a xs) (h':SqT X.K H a ys):xs=ys:=by
 obtain⟨its,r,⟨o,e,_,n,d⟩,_⟩:63:=I.tuple h;obtain⟨its',r',⟨o',e',_,n',d'⟩,_⟩:63:=I.tuple h';ext zej
#check _
noncomputable abbrev Cx.wish (X:Cx) (E:bq):Cx:={ X with xe:=E }
noncomputable abbrev Cx.nox (X:Cx):Cx:=X.wish vb
theorem Cx.Ok.wish {X:Cx} (ok:X.Ok) (E:bq):(KG).Ok :=
 ⟨ok.mod,ok.kind,ok.glob,ok.blt,ok.above,ok.inj,ok.has,ok.cab,ok.hd,ok.frames,ok.stk,ok.exf,ok.bs,ok.bsz,ok.noex,ok.exfs,ok.funs,ok.frf⟩
theorem Cx.Ok.unwish {X:Cx}{E:bq} (ok:(KG).Ok):X.Ok :=
 ⟨ok.mod,ok.kind,ok.glob,ok.blt,ok.above,ok.inj,ok.has,ok.cab,ok.hd,ok.frames,ok.stk,ok.exf,ok.bs,ok.bsz,ok.noex,ok.exfs,ok.funs,ok.frf⟩
section
variable {X:Cx}{pins:List (Addr × Obj)}{Z:St}{H:Hp}{s:Shared}{E:Value->Shared->Prop}
theorem Inv.wish (I:av) (E:bq):Inv KG pins Z H s:=⟨I.ok.wish E,I.os,I.bare,I.base,I.loc,I.cell,I.free,I.freeC,I.pin,I.hok,I.len⟩
theorem Inv.unwish (I:Inv KG pins Z H s):av:=⟨I.ok.unwish,I.os,I.bare,I.base,I.loc,I.cell,I.free,I.freeC,I.pin,I.hok,I.len⟩
theorem SP.unwish {D:Ends}{f:Flow}{s':Shared} (h:SP KG pins D f s'):SP X pins D f s':=by
 cases f with
 | next=>ext Uw
 | brk=>ext Uw
 | cont=>ext Uw
 | ret u=>obtain⟨v,σ',H',I,r,q⟩:103:=h; exact⟨103,v,σ',H',I.unwish,r,q⟩
theorem PSs.nox {st:Bm}{t:TS} (h:PSs X.nox st t):PSs X st t:=fun pins s Z H D I hw =>
 Jh (h pins s Z H D (I.wish _) hw) (fun _ _ q=>q.unwish) (qS,JR z)
#check _
section
variable {X:Cx}{st:Stmt}{rest:List Stmt}{t u:TS}{e:Expr}{te:TE}{pos:Pos}
noncomputable def xw2:TS:=mr yB
noncomputable def tSeq (t u:TS):TS:=(mr,t GJ Z H)
theorem xab:PSs X [] xw2:=fun _ _ Z H _ I h=>QO (bK Z H I h)
theorem xh (h1:Sw) (h2:PSs X rest u):PSs X (st::rest) (tSeq t u):=by
 intro pins s Z H D I h;show(zlS,h1 pins s Z H GJ I h);cases f with
 | next =>
  show(js,σ',H',I',q,q);exact h2 pins s1 σ' H' D I' q
 | ret v=>exact q
 | brk=>exact q
 | cont=>exact q
theorem xl (h1:Sw):PSs X [st] t:=by
 intro pins s Z H D I h;show(zlS,h1 pins s Z H D I h);cases f with
 | next=>exact QO q
 | ret v=>exact q
 | brk=>exact q
 | cont=>exact q
theorem Inv.quiet {pins:bj}{Z:St}{H:Hp}{s:Shared} (I:av):interactive X.env=false:=by simp[interactive,I.ok.kind]
noncomputable def xwo (te:TE):TS:=(mr,te Z H fun _ H1=>D.nx Z H1)
theorem xap (he:tz) (hs:zaA e none pos.line false:=by rfl):PS X (.Expr e pos) (xwo te):=by
 intro pins s Z H D I h;exact wpAny_Expr_any (thn (he pins s Z H _ I h) fun v s1 ⟨x,H1,I1,r1,q1⟩=>bK Z H1 I1 q1) I.quiet hs
noncomputable def tRet (te:TE):TS:=(mr,te Z H D.rt)
theorem xv (he:tz):PS X (.Return (some e) pos) (tRet te):=by
 intro pins s Z H D I h;exact wpAny_Return_some (thn (he pins s Z H _ I h) fun v s1 ⟨x,H1,I1,r1,q1⟩=>⟨103,x,Z,H1,I1,r1,q1⟩)
noncomputable def tIfS (c:TT) (t u:TS):TS:=(mr,c Z H fun b H1=>(cK,b,t D Z H1,u D Z H1))
theorem xao {c:Expr}{a b:Bm}{tc:TT} (hc:PT X c tc) (ha:PSs X a t) (hb:PSs X b u):PS X (.If c a b pos) (tIfS tc t u):=by
 intro pins s Z H D I h;refine wpAny_If (thn (hc pins s Z H _ I h) (vL d s1 H1 I1 q1));cases d with
 | true=>exact ha pins s1 Z H1 D I1 q1
 | false=>exact hb pins s1 Z H1 D I1 q1
noncomputable def xwf:TS:=G1
theorem xbw:PS X st xwf:=fun _ _ _ _ _ _ h=>h.elim
#check _
noncomputable abbrev TG:=V->St->(bA Hp mD)
noncomputable abbrev TGs:=af->St->(bA Hp mD)
noncomputable def PG (X:Cx) (target:Expr) (t:TG):Prop :=
 ∀(pins:bj) (s:Shared) (Z:St) (H:Hp) (v:V) (u:Value) (Q:mD),av->mf->t v Z H Q ->
  wpAny aN X.A (assign target X.env u) zmf X.xe s
noncomputable def PGs (X:Cx) (ts:jY) (t:TGs):Prop :=
 ∀(pins:bj) (s:Shared) (Z:St) (H:Hp) (vs:af) (us:aX) (Q:mD),av->E1->t vs Z H Q ->
  wpAny aN X.A (assignInOrder ((DO ts).map (·.2)) us) zmf X.xe s
noncomputable abbrev TIp:=IM
noncomputable def PIp (X:Cx) (op:Operator) (t:TIp):Prop :=
 ∀(pins:List (Addr × Obj)) (s:Shared) (Z:St) (H:Hp) (x y:V) (v u:Value) (Q:VK),Inv X pins Z H s->RelV x v->RelV y u->t x y H Q ->
  wpAny aN X.A (inplaceOp op v u) lP X.xe s
section
variable {X:Cx}{pos:Pos}
@[reducible] def xcr (i:Nat):TG:=fun v Z H Q=>Q oY H
theorem xgx {i:Nat}{x:Str} (hN:X.N.Nodup) (hi:sX) (hx:zY) (hf:zL:=by first|ext ww|ext zd|ext dW):PG X sO (xcr i):=by
 intro pins s Z H v u Q I r h;exact wpAny_assign_Name (xhk I hN hi hx r (fun s' I'=>bK _ H I' h) hf)
@[reducible] def gNil:TGs:=fun vs Z H Q=>nV vs (Q Z H)
@[reducible] def xm0 (t:TG) (u:TGs) (vs:af) (Z:St) (H:Hp) (Q:mD):Prop:=lV vs (kH,r,t v Z H (Bw,u r σ' H' Q))
theorem xam:PGs X [] gNil:=by
 intro pins s Z H vs us Q I r h;show(tN,h,xru h);ext cR;cases r;exact assignInOrder_nil (bK Z H I h)
theorem xp {e:Expr}{es:jY}{t:TG}{u:TGs} (h1:PG X e t) (h2:PGs X es u)
    (hs:(DO mS).map (·.2)=assign e X.env::(DO es).map (·.2):=by rfl):PGs X mS (xm0 t u):=by
  intro pins s Z H vs us Q I r h;show(js,v,vr,e1,h,xry h);subst e1;cases r with
  | cons r rr =>
    rw[hs];refine assignInOrder_cons (thn (h1 pins s Z H _ _ _ I r h) fun _ s1 ⟨σ1,H1,I1,q1⟩=>?_);exact h2 pins s1 σ1 H1 _ _ Q I1 rr q1
inductive gTup (K:Zd) (n:Nat) (t:TGs) (v:V) (Z:St) (H:Hp) (Q:mD):Prop
 | mk (a xs) (e_:oN a) (r_:HQ/\xs.length=n/\t xs Z H Q)
theorem xar {es:jY}{k:Nat}{t:TGs}{n:Nat} (hc:lT) (h:PGs X es t)
    (hn:(DO es).length=n:=by rfl) (hst:(DO es).findIdx? (·.1)=none:=by rfl):PG X (.Tuple es k pos) (gTup X.K n t):=by
  intro pins s Z H v u Q I r hw;obtain⟨a,xs,e1,hq,hl,hw⟩:=hw;subst e1;cases r;show(jG,rv,ht,hz,I.tuple hq);refine assign_Tuple_tuple jp ht (by simp[hn,<- hl,rv.length]) hst (au h' hx);show(jF,I1,m6 nu,I.kept (t':=s.toks) (ur,hx b o (ZS (Zz e)) e),h pins _ Z H xs _ Q I1 (by simpa using rv) hw)
noncomputable def tAsg (te:TE) (g:TG):TS:=(mr,te Z H fun x H1=>g x Z H1 D.nx)
theorem xb8 {tg e:Expr}{te:TE}{g:TG} (he:tz) (hg:PG X tg g) (hs:swapsWithSole [tg] e pos.line X.env=pure false:=by rfl) (hw:swappedStores [tg] e X.env=pure none:=by rfl)
    (h1:(DO [tg]).map (·.2)=[assign tg X.env]:=by rfl):OH tg e (tAsg te g):=by
  intro pins s Z H D I h;refine wpAny_Assign_stores (thn (he pins s Z H _ I h) fun v s1 ⟨x,H1,I1,r1,q1⟩=>?_) hs hw;show(aQ,h1,thn (hg pins s1 Z H1 x v _ I1 r1 q1) fun _ s2 q=>q)
theorem xd1 {i:Nat}{x:Str}{e:Expr}{te:TE}{pos':Pos} (hN:X.N.Nodup) (hi:sX) (hx:zY) (he:tz) (hs:Nk e Re:=by rfl) (hf:zL:=by first|ext ww|ext zd|ext dW) :
    zkP:=by
  intro pins s Z H D I h;refine wpAny_Assign_Name (thn (he pins s Z H _ I h) fun v s1 ⟨y,H1,I1,r1,q1⟩=>?_) hs;exact xhk I1 hN hi hx r1 (fun s2 I2=>bK _ H1 I2 q1) hf
noncomputable def tAug (i:Nat) (te:TE) (ti:TIp):TS:=(mr,∃ x,CA=(qM x)/\te Z H fun y H1=>ti x y H1 fun z H2=>D.nx (Z.set i (some z)) H2)
theorem xwd {i:Nat}{x:Str}{e:Expr}{te:TE}{op:Operator}{ti:TIp}{pos':Pos} (hN:X.N.Nodup) (hi:sX) (hx:zY) (he:tz) (ho:PIp X op ti) (hf:zL:=by first|ext ww|ext zd|ext dW) :
    PS X (.AugAssign Re op e pos) (tAug i te ti):=by
  intro pins s Z H D I h;ext ag v e1 h h;ext zbs
  have vis:N3:=by rcases hx with k|k; exact .inl k; exact .inr (.inl k)
  show(ag,u,r,l,hl i x v hi e1 vis);refine wpAny_AugAssign_Name ?_;have go:wpAny aN X.A (gO e) (fun w s₂=>wpAny aN X.A (inplaceOp op u w) (fun r s₃=>wpAny aN X.A (storeName X.env x r) (fun _=>SP X pins D .next) X.xe s₃) X.xe s₂) X.xe s:=by
    show(jJ,he pins s Z H _ I h,fun w s1 ⟨y,H1,I1,r1,q1⟩=>?_);show(jJ,ho pins s1 Z H1 v y u w _ I1 r r1 q1,fun z s2 ⟨zv,H2,I2,r2,q2⟩=>?_);exact xhk I2 hN hi hx r2 (fun s3 I3=>bK _ H2 I3 q2) hf
  rcases l with⟨hk,hm⟩|⟨hk,c,hc,hcell⟩
  . exact ziZ go
  . rcases hk with hk|hk
    . exact ziC go
    . rcases hx with k|k
      . ext zfw
      . ext zfw
#check _
section
variable {X:Cx}{pos:Pos}
noncomputable def xf6 (c:TT) (tb:TS):TS:=fun D Z H=>∃ W:E5,(∃ m,W m Z H)/\∀ m Z H,W m Z H ->
 c Z H fun b H1=>(cK,b,(zmO,(Bt,m,W m' σ' H'),tb (Wv N) Z H1),D.nx Z H1)
theorem xfz {c:Expr}{body:Bm}{tc:TT}{tb:TS} (hp:zkO) (hc:PT X c tc) (hb:PSs X body tb):PS X (.While c body [] pos) (xf6 tc tb):=by
 intro pins s Z H D I h;obtain⟨W,⟨m0,w0⟩,turn⟩:62:=h;refine wpAny_While (codeAny_whileLoop (mW n (Iz,W n σ' H')) ?_ m0 (bK Z H I w0));rintro n s1 (⟨σ1,H1,I1,w1⟩:82);show(Eg,hc pins s1 σ1 H1 _ I1 (turn n σ1 H1 w1),vL b s2 H2 I2 q2);cases b with
 | true =>
  ext ag N hN q2 q2;show(qo,bY,Y3 hp (thn (hb pins s2 σ1 H2 _ I2 q2) (aK f s3 q3)));cases f with
  | next =>
   ext zeI
  | cont =>
   ext zeI
  | brk=>exact q3
  | ret v=>exact q3
 | false =>
  rw[ay Z9];exact QO (bK σ1 H2 I2 q2)
#check _
structure It where
 go:mV Nat
 yld:Nat->Hp->ui
 stop:mV Nat
noncomputable def FpOk (X:Cx) (pins:bj) (H:Hp) (b:Addr):Prop :=
 cZ/\(aq Ae Tt (b∈X.ex\/(wT b)) (xG b) (Hu b))
theorem Inv.fpOk {X:Cx}{pins:bj}{Z:St}{H H':Hp}{s:Shared}{b:Addr} (I:av) (hb:DF b) (hn:A4):X5:=by
 refine⟨46,hn,Qu (ZB I.lt hb),I.nofs hb,.inr (ZN I.sz hb),b9 x c e z,aK p hp z⟩
 .obtain ⟨v,q⟩:=P7;show(yD,ZB q.lt (aB z hb))
 .show(yD,ZB (Zz (I.pin p hp).1) (aB z hb))
structure Turn (P:Program) (w:World) (K:Zd) (tg:Expr) (J:It) (fp:ax) (it:Addr) (tn:bA Nat Heap):Prop where
 mem:it∈fp
 obj:∀ i h,tn i h->∀ b∈fp,(U6 su)
 keep:∀ i h h',tn i h->(∀ b∈fp,∀ o,su->wY)->tn i h'
 item:∀(X:Cx),X.prog=P->X.w=w->X.K=K->X.calm=true->∀(i:Nat) (pins:List (Addr × Obj)) (s:Shared) (Z:St) (H:Hp) (E:Value->Shared->Prop),Inv X pins Z H s->(∀ b∈fp,FpOk X pins H b)->tn i s.heap->J.go i H ->
  wpAny yk X.A uW (fun r s1=>∃ u,(ae r u) /\
   wpAny yk X.A zna (fun _ s2=>∃ x H',(aq,cP H' s2,nR,J.yld i H x H',tn aY s2.heap,HE)) E s1) E s
 done:∀(X:Cx),X.prog=P->X.w=w->X.K=K->X.calm=true->∀(i:Nat) (pins:List (Addr × Obj)) (s:Shared) (Z:St) (H:Hp) (E:Value->Shared->Prop),Inv X pins Z H s->(∀ b∈fp,FpOk X pins H b)->tn i s.heap->J.stop i H ->
  wpAny yk X.A uW (fun r s1=>r=none/\(m6 s1)) E s
 self:∀(A:Around) (i:Nat) (s:Shared) (Q:bq) (E:bq),tn i s.heap->(fF it s)->wpAny yk A (pyIter (.ref it)) Q E s
noncomputable abbrev TI:=St->(bA Hp Lv)
noncomputable def PIE (X:Cx) (pins:bj) (Z:St) (tg:Expr) (R:Lv) (itv:Value) (s2:Shared):Prop :=
 ∃(it:Addr) (fp:ax) (tn:bA Nat Heap) (J:It) (H':Hp),(eO itv it)/\(aq,cP H' s2,Turn X.prog X.w X.K tg J fp it tn,tn 0 s2.heap,(∀ b∈fp,X5),R J H')
noncomputable def PI (X:Cx) (tg iter:Expr) (wi:TI):Prop :=
 ∀(pins:bj) (s:Shared) (Z:St) (H:Hp) (R:Lv),av->wi Z H R ->
  wpAny aN X.A (gO iter) (kH,s1,wpAny aN X.A (pyIter v) Xn X.xe s1) X.xe s
theorem xgv {M:Model}{A:Around}{E:bq}{s:Shared}{tg:Expr}{it:Addr}{u:Value}{o:Obj}{n:String}{vs:gJ}{Q:yj} (ho:(ae,s.heap.get? it,o)) (hc:IV n) (hd:S7 o.data)
    (hn:["enumerate", "zip", "dict_itemiterator", "dict_reverseitemiterator", "odict_iterator", "itertools.zip_longest", "itertools.pairwise"].contains n=false) (hQ:Q () s):wpAny M A zna Q E s:=by
  unfold letOwnedTupleGo;cases tg<;>first
    | exact Zn hQ
    | (cases u<;>first
        | exact Zn hQ
        | (show(bP,wpAny_load ho ?_)
           rw[hc,hd];show wpAny M A (cK (["enumerate", "zip", "dict_itemiterator", "dict_reverseitemiterator", "odict_iterator", "itertools.zip_longest", "itertools.pairwise"].contains n&&vs[0]? == some (rawInt _)) _ _) Q E s;rw[ay (by intro h; rw[hn,YV] at h; cases h)];exact Zn hQ))
noncomputable def Itl (K:Zd) (a:Addr):It :=
 (MY,∃ xs x,qC/\tF,x,H'=H/\∀ xs,qC->tF,zlT)
noncomputable def Itr (lo:Int) (n:Nat):It:=(UQ,dQ,x,x=.int (lo+i),n<=i)
theorem xoo {P:Program}{w:World}{K:Zd}{tg:Expr} (a it:Addr):Turn P w K tg yH rX it (eK,h,h.IsListIter it a i) where
 mem:=aj
 obj:=fun i h st b hb=>by
  ext Ug st
 keep:=(HF,st.at (zw,k it aj o e))
 item:=by
  intro X hP hw hK hc i pins s Z H E I hf st hg;ext iU;ext js xs x hq hx hg;show(jG,rv,p,hz,I.list hq);show(ag,u,hu,ru,rv.get hx);obtain⟨f0,f1,f2,f3,f4,f5⟩:46:=j5;refine wpAny_pyNext_list_item st p.isList (x:=u) (by simpa using hu) zaU;show(zf,nu,I.turned (t':=s.toks) (mN,hb,(sb.2 b hb).trans e) f0 f1 f3 f4 f5);show(cc,o,e,c,d,id st');show(rR,u,xgv (s:=nu) e c d az ⟨85,x,H,I1,ru,(cp,fun ys hy=>(aB,I.list_inj hy hq,hx)),st',ED⟩)
 done:=by
  intro X hP hw hK hc i pins s Z H E I hf st hg;ext iU;ext ag xs hq hx hg;show(jG,rv,p,hz,I.list hq);obtain⟨f0,f1,f2,f3,f4,f5⟩:46:=j5;have hl:=rv.length;exact wpAny_pyNext_list_end jp st p.isList jo (AD,I.turned (t':=s.toks) uN f0 f1 f3 f4 f5)
 self:=(zaL,wpAny_pyIter_listiter st h)
theorem xm5 {P:Program}{w:World}{K:Zd}{tg:Expr} (it:Addr) (lo:Int) (n:Nat):Turn P w K tg Tb rX it (zhj 1) where
 mem:=aj
 obj:=fun i h st b hb=>by
  ext sU;exact⟨_,st,fun v z=>by
   ext Mp⟩
 keep:=HF PQ
 item:=by
  intro X hP hw hK hc i pins s Z H E I hf st hg;ext iU;obtain⟨f0,f1,f2,f3,f4,f5⟩:46:=j5;show(zge,1,W.item i s _ _ hg st fun v h' tk hv st' kk=>?_);show(aw,I1,m6 Ll,I.turned zqb f0 f1 f3 f4 f5,(cA,xgv (s:=Ll) (n:="range_iterator") st' rfl rfl az ⟨85,.int (lo+i),H,I1,fE t,nS,st',ED⟩));rw[Int.mul_one]
 done:=by
  intro X hP hw hK hc i pins s Z H E I hf st hg;ext iU;obtain⟨f0,f1,f2,f3,f4,f5⟩:46:=j5;show(zgs,I.turned (t':=s.toks) uN f0 f1 f3 f4 f5)
 self:=zjl
section
variable {X:Cx}{tg:Expr}
noncomputable def xxb (K:Zd) (tl:TE):TI:=fun Z H R=>tl Z H fun x H1=>∃ a,kU/\(∃ xs,Hz)/\R yH H1
theorem xaj {l:Expr}{tl:TE} (hl:PE X l tl):PI X tg l (xxb X.K tl):=by
 intro pins s Z H R I h;show(jJ,hl pins s Z H _ I h,fun v s1 ⟨x,H1,I1,r1,q1⟩=>?_);obtain⟨a,e,⟨xs,hq⟩,q⟩:63:=q1;ext cR;cases r1;show(jG,rv,p,hz,I1.list hq);refine Q1 p.isList ?_;show(Mh,⟨66,H1,rfl,VL,xoo a _,AS,iA,q⟩);show(Mb,s1.heap.objs.size)
theorem xkz {pins:bj}{Z:St}{H:Hp}{s:Shared}{R:Lv}{E:bq}{lo hi:Int}{t u v:Tok}{tk:Nat} (I:av) (h1:-iJ<=lo) (h2:lo<iJ) (h3:-iJ<=hi) (h4:hi<iJ)
    (q:R (Itr lo yb) H):wpAny aN X.A zjU Xn E (rZ,CJ 1):=by
  refine wpAny_pyIter_range (IsRange.new ..) znZ ?_;have I1:m6 (rZ,CJ 1):=I.kept vv;refine⟨121,X7,[X7],_,_,⟨66,H,rfl,
    zcX vv,xm5 _ lo yb,?_,iA,q⟩⟩
  . have e1:lo+zb*1=lo:=aj
    have e2:(gM yb)-zb=(Vx 1):=Vd
    show IsRangeIter _ _ (lo+zb*1) ((gM yb)-zb) 1;ext cq e1 e2 gf
  . ext Mb X7
noncomputable def xxh (ta:TA):TI:=(MP,∃ j:Int,(jc,vs,[.int j],-iJ<=j,j<iJ,R (Itr 0 j.toNat) H1))
noncomputable def xxz (ta:TA):TI:=(MP,∃ i j:Int,vs=(m7 dI j)/\zhp/\R (Itr i (gV j i)) H1)
theorem xdn {a:Expr}{ta:TA}{p pos:Pos} (hg:zcv) (hm:zcA) (ha:zdj) (hs:Wn:=by rfl):PI X tg (Sn "range" [a]) (xxh ta):=by
 intro pins s Z H R I h;show(Vi,(JA (thn (ha pos pins s Z H _ I h) fun us s1 ⟨vs,H1,I1,r1,q1⟩=>?_) hs rfl));obtain⟨j,e,q1,q2,q⟩:64:=q1;ext cR;cases r1 with
 | cons r rr =>
  cases rr;ext dZ t r;exact call_range_1 (xkz I1 aa aa q1 q2 zad)
theorem xjn {a b:Expr}{ta:TA}{p pos:Pos} (hg:zcv) (hm:zcA) (ha:PA X [a,b] ta) (hs:(xT [a,b])=[(false,D0),nJ b]:=by rfl) (hs2:(xT [b])=[nJ b]:=by rfl) :
    PI X tg (Sn "range" [a,b]) (xxz ta):=by
  intro pins s Z H R I h;show(Vi,(JA (thn (ha pos pins s Z H _ I h) fun us s1 ⟨vs,H1,I1,r1,q1⟩=>?_) (bW hs hs2) (eB hs2)));obtain⟨i,j,e,⟨q1,q2,q3,q4⟩,q⟩:83:=q1;ext cR;cases r1 with
  | cons r rr =>
    cases rr with
    | cons r' rr =>
      ext znm;exact call_range_2 (xkz I1 q1 q2 q3 q4 q)
noncomputable def tFor (wi:TI) (g:TG) (tb:TS):TS:=fun D Z H=>wi Z H fun J H1=>∃ W:Nat->Nat->St->Hp->Prop,(∃ m,W 0 m Z H1)/\∀ i m Z H,EE ->
 (J.stop i H/\yB)\/(J.go i H/\(CW (Ej,J.yld i H x H',Z,H',CP)))
noncomputable def xgg (fp:ax) (h:Heap):bj:=fp.filterMap fun b=>(h.get? b).map fun o=>Cs
theorem xdx {fp:ax}{h:Heap}{b:Addr}{o:Obj} (hb:b∈fp) (e:su):Cs∈xgg fp h:=JM.mpr ⟨b,hb,uc⟩
theorem xoz {fp:ax}{h:Heap}{p:Addr × Obj} (hp:p∈xgg fp h):aL∈fp/\(ae,h.get? aL,bJ):=by
 show(ag,b,hb,e,JM.mp hp);cases q:h.get? b with
 | none=>ext bV q e
 | some o =>
  rw[q] at e;have e':Cs=p:=ZL.inj e;subst e';ext aS hb q
theorem Inv.pinned {pins:bj}{Z:St}{H:Hp}{s:Shared}{fp:ax} (I:av) (hf:MG) (ho:∀ b∈fp,(U6 jj)):Inv X (pins++xgg fp s.heap) Z H s :=
 I.pins_of fun p hp=>(Zy.mp hp).elim (ao,I.pin p (Z6 _ z)) fun z=>by
  show(mq,hb,xoz z);obtain⟨f0,f1,f2,_⟩:44:=hf aL hb;show(ag,o,e',d,ho aL hb);ext bI e e' e';exact cL e f0 f1 f2 d
theorem Inv.unpinned {pins pl:bj}{Z:St}{H:Hp}{s:Shared} (I:Inv X (pins++pl) Z H s):av:=I.pins_of (dS,I.pin p (Z6 _ (ZO _ hp)))
theorem xbg {iter:Expr}{body:Bm}{wi:TI}{g:TG}{tb:TS}{pos:Pos} (hp:zkO) (hc:lT) (hi:Os) (hg:PG X tg g) (hb:PSs X body tb)
    (hs:Ui:=by intro _; rfl):PS X (.For tg iter body [] pos) (tFor wi g tb):=by
  intro pins s Z H D I h;refine wpAny_For (thn (hi pins s Z H _ I h) ziB) hs;obtain⟨it,fp,tn,J,⟨H2,e,I2,T,st2,f2,W,⟨m0,w0⟩,turn⟩⟩:121:=h2;ext cR
  -- what stays true of the iterator's objects through the loop
  show(cu,stat,zpg X5,fun hn b hb=>⟨hn b hb,(f2 b hb).2⟩,codeAny_forLoop_any (mW,n,∃ i σ' H',(aP,zbq,tn i s'.heap,HE,W i n σ' H')) ?_ m0 ⟨104,0,Z,H2,I2,st2,(og,(f2 b hb).1),w0⟩);rintro n s3 (⟨i,σ3,H3,I3,st3,fr3,w3⟩:104);rcases turn i n σ3 H3 w3 with⟨stop,qn⟩|⟨go,N,hN,step⟩
  . show(Eg,T.done X rfl rfl rfl hc i pins s3 σ3 H3 X.xe I3 (stat fr3) st3 stop,fun r s4 ⟨hr,I4⟩=>?_)
    subst hr;exact QO (bK σ3 H3 I4 qn)
  . show(Eg,T.item X rfl rfl rfl hc i pins s3 σ3 H3 X.xe I3 (stat fr3) st3 go,vL r s4 u hr h4)
    subst hr;show(Eg,h4,fun _ s5 ⟨x,H5,I5,r5,y5,st5,fr5⟩=>?_);have I5':=I5.pinned (stat fr5) (T.obj _ _ st5);show(Eg,hg _ s5 σ3 H5 x u _ I5' r5 (step x H5 y5),fun _ s6 ⟨σ6,H6,I6,q6⟩=>?_);show(Eg,hb _ s6 σ6 H6 _ I6 q6,aK f s7 q7);have again:∀{σ7:St}{H7:Hp},Inv X (pins++xgg fp s5.heap) σ7 H7 s7->N σ7 H7->(SZ,∃ i σ' H',(aP,FT σ' H' s7,tn i s7.heap,HE,W i m σ' H')):=fun {σ7 H7} I7 n7=>by
      show(ag,m',hm,w7,hN σ7 H7 n7);show(gU,m',hm,⟨104,aY,σ7,H7,I7.unpinned,T.keep _ _ _ st5 (fM,b,hb,o,(I7.pin Cs (Z6 _ (Z6 _ (xdx hb e)))).1),iA,w7⟩);show(ag,o,e,d,T.obj _ _ st5 b hb);exact bg (I7.pin Cs (Z6 _ (Z6 _ (xdx hb e))))
    cases f with
    | next=>ext zjH
    | cont=>ext zjH
    | brk=>show(js,σ7,H7,I7,q7,q7); exact bK σ7 H7 I7.unpinned q7
    | ret v=>obtain⟨x7,σ7,H7,I7,r7,q7⟩:103:=q7; exact⟨103,x7,σ7,H7,I7.unpinned,r7,q7⟩
#check _
theorem xbr {K:Zd}{a:Addr}{xs:af}{g:TG}{tb:TS}{D:Ends}{Z:St}{H:Hp} (Pv:E5) (h0:KI) (hl:ziD)
    (hs:∀ i x Z H,tF->tK->g x Z H F2) (hd:GT xs.length) :
    ∃ W:Nat->Nat->St->Hp->Prop,(∃ m,W 0 m Z H)/\∀ i m Z H,EE ->
      ((yH).stop i H/\yB)\/((yH).go i H/\(CW (Ej,(yH).yld i H x H',Z,H',CP))):=by
  ext zfg;rintro i m Z H (⟨rfl,hi,p⟩:43);ext MT RE
  . ext zjr
    ext tN y y;ext cR;exact hs i x Z _ (y xs q) p
  . ext zhi
theorem xc7 {lo:Int}{n:Nat}{g:TG}{tb:TS}{D:Ends}{Z:St}{H:Hp} (Pv:E5) (h0:KI)
    (hs:∀ i Z H,dQ->tK->g (.int (lo+i)) Z H F2) (hd:GT n) :
    ∃ W:Nat->Nat->St->Hp->Prop,(∃ m,W 0 m Z H)/\∀ i m Z H,EE ->
      ((Tb).stop i H/\yB)\/((Tb).go i H/\(CW (Ej,(Tb).yld i H x H',Z,H',CP))):=by
  show(im,fun i m Z H=>(bT,m,n-i,i<=n,tK),So n);rintro i m Z H (⟨rfl,hi,p⟩:43);by_cases hlt:dQ
  . ext T8 hlt n
    ext tN y y;subst e y;exact hs i Z _ hlt p
  . ext tP i n aa;show(Ch,bu,hd Z H p)
noncomputable abbrev R2:=IM
noncomputable def OpR (X:Cx) (f:GL) (r:R2):Prop :=
 ∀(pins:List (Addr × Obj)) (s:Shared) (Z:St) (H:Hp) (x y:V) (v u:Value) (Q:VK),Inv X pins Z H s->RelV x v->RelV y u->r x y H Q ->
  wpAny aN X.A (f v u) lP X.xe s
noncomputable def UnR (X:Cx) (f:Value->SU) (r:V->sZ):Prop :=
 ∀(pins:bj) (s:Shared) (Z:St) (H:Hp) (x:V) (v:Value) (Q:VK),av->tJ->r x H Q ->
  wpAny aN X.A (f v) lP X.xe s
noncomputable def xct (X:Cx) (f:Value) (r:af->sZ):Prop :=
 ∀(pins:bj) (s:Shared) (Z:St) (H:Hp) (xs:af) (us:aX) (Q:VK),av->kX->r xs H Q ->
  wpAny aN X.A (call f us) lP X.xe s
noncomputable def TruR (X:Cx) (r:V->(bA Hp vI)):Prop :=
 ∀(pins:bj) (s:Shared) (Z:St) (H:Hp) (x:V) (v:Value) (Q:vI),av->tJ->r x H Q ->
  wpAny aN X.A (truthy v) Pe X.xe s
noncomputable def tOp (r:R2) (ta tb:TE):TE:=wS (zaM,r x y H2 Q)
noncomputable def tUn (r:V->sZ) (ta:TE):TE:=(wS,r x H1 Q)
@[reducible] def rI (C:PL) (g:K4 V) (x:V) (y:V) (H:Hp) (Q:VK):Prop:=iV x y (eK,j,C i j/\Q rN H)
@[reducible] def rI0 (g:K4 V) (x:V) (y:V) (H:Hp) (Q:VK):Prop:=iV x y (eK,j,Q rN H)
noncomputable def rU (g:Int->V):V->sZ:=fun x H Q=>∃ i,IJ/\Q (g i) H
section
variable {X:Cx}{a b c:Expr}{ta tb tc:TE}{pos:Pos}
theorem binT (ha:nN) (hb:vF) {pins:bj}{s:Shared}{Z:St}{H:Hp}{R:V->ui} (I:av)
    (h:zjg) {Q:bq}{f:GL}
    (hf:(zgV,wpAny aN X.A (f v u) Q X.xe s2)) :
    wpAny aN X.A D0 (kH,s₁,wpAny aN X.A (gO b) (fun u s₂=>wpAny aN X.A (f v u) Q X.xe s₂) X.xe s₁) X.xe s:=by
  show(jJ,ha pins s Z H _ I h,fun v s1 ⟨x,H1,I1,r1,q1⟩=>?_);show(jJ,hb pins s1 Z H1 _ I1 q1,fun u s2 ⟨y,H2,I2,r2,q2⟩=>?_);exact hf v u s2 x y H2 I2 r1 r2 q2
theorem xu {op:Operator}{r:R2} (ho:OpR X (binaryOp op) r) (ha:nN) (hb:vF):PE X (.BinOp a op b pos) Rp:=by
 intro pins s Z H Q I h;exact wpAny_BinOp (binT ha hb I h fun v u s2 x y H2 I2 rx ry q=>ho pins s2 Z H2 x y v u Q I2 rx ry q)
theorem xr8 {op:UnaryOp}{r:V->sZ} (ho:UnR X (unaryOp op) r) (ha:nN):PE X (.UnaryOp op a pos) (tUn r ta):=by
 intro pins s Z H Q I h;exact UnaryOp_ (thn (ha pins s Z H _ I h) fun v s1 ⟨x,H1,I1,r1,q1⟩=>ho pins s1 Z H1 x v Q I1 r1 q1)
theorem opI {f:GL}{C:PL}{g:K4 Int}
    (rule:(Uq,C i j->Q (.int rN s.toks) oR->wpAny aN X.A zai Q E s)) :
    OpR X f (rI C (K8 rN)):=by
  intro pins s Z H x y v u Q I rx ry h;obtain⟨i,j,rfl,rfl,hc,q⟩:84:=xno h;ext Ld;exact rule i j t t' s _ _ hc (AN rN)
theorem opI0 {f:GL}{g:K4 Int}
    (rule:(Uq,Q (.int rN s.toks) oR->wpAny aN X.A zai Q E s)) :
    OpR X f (rI0 (K8 rN)):=by
  intro pins s Z H x y v u Q I rx ry h;obtain⟨i,j,rfl,rfl,q⟩:83:=xno h;ext Ld;exact rule i j t t' s _ _ (AN rN)
theorem opB0 {f:GL}{g:K4 Bool}
    (rule:(Uq,Q (.bool rN) s->wpAny aN X.A zai Q E s)) :
    OpR X f (rI0 (eK,j,.bl rN)):=by
  intro pins s Z H x y v u Q I rx ry h;obtain⟨i,j,rfl,rfl,q⟩:83:=xno h;ext Ld;exact rule i j t t' s _ _ (ux,.bl rN,q)
noncomputable def CDiv (i j:Int):Prop:=0<j/\j<1073741824
noncomputable def CMul (i j:Int):Prop:=(-pV<i/\i<pV)\/(-pV<j/\j<pV)
theorem CMul.ok {i j:Int} (h:CMul i j):IntMulOk i j:=by
 rcases h with⟨h1,h2⟩|⟨h1,h2⟩
 .exact .of_left (intBits_le_64 h1 h2)
 .exact .of_right (intBits_le_64 h1 h2)
theorem xnx (k:Nat):lE<=2 ^ k:=by
 rw[two_pow_cast];exact Int.natCast_nonneg _
theorem xa9:Wp .Add (i+j):=opI0 fun _ _ _ _ _ _ _ q=>add_int q
theorem xd6:Wp .Sub (i-j):=opI0 fun _ _ _ _ _ _ _ q=>sub_int q
theorem xdv:Np .Mult CMul (i*j):=opI fun _ _ _ _ _ _ _ hc q=>mul_int q hc.ok
theorem xbj:Np .FloorDiv CDiv (i / j):=opI fun i j _ _ _ _ _ hc q=>by
 have h1:lE<j:=hc.1;have h2:j<1073741824:=hc.2;exact floordiv_int aa (aB,Int.fdiv_eq_ediv_of_nonneg i aa,q) (.inl (QM aa))
theorem xaz:Np .Mod (fun _ j=>0<j) (i % j):=opI fun i j _ _ _ _ _ hc q=>by
 have h1:lE<j:=hc;exact mod_int' aa (aB,Int.fmod_eq_emod_of_nonneg i aa,q)
theorem xu8:Np .RShift (fun _ j=>0<=j) (i / 2 ^ j.toNat):=opI fun i j _ _ _ _ _ hc q =>
 rshift_int hc (aB,Int.fdiv_eq_ediv_of_nonneg i (xnx _),q)
theorem xv8:Wp .BitAnd (Builtin.bitAnd i j):=opI0 fun _ _ _ _ _ _ _ q=>and_int q
theorem xs8:OpR X (inplaceOp .Add) (rI0 (K8 (i+j))):=opI0 fun _ _ _ _ _ _ _ q=>iadd_int q
theorem unI {f:Value->SU}{g:Int->Int}
    (rule:∀(i:Int) (t:Tok) (s:Shared) (Q:bq) (E:bq),Q (.int (g i) s.toks) oR->wpAny aN X.A (f KZ) Q E s) :
    UnR X f (rU fun i=>.int (g i)):=by
  intro pins s Z H x v Q I rx h;show(ag,i,rfl,q,h);show(Cm,rule i t s _ _ (wB,.int (g i),iH,q))
theorem xpx:UnR X (unaryOp .USub) (rU fun i=>.int (-i)):=unI fun _ _ _ _ _ q=>neg_int q
#check _
noncomputable def scal:V->V->Bool
 | .non,.non=>true|.non,on=>true|on,.non=>true|.non,mR=>true|mR,.non=>true|.non,mH=>true|mH,.non=>true
 | on,on=>true|mR,mR=>true|mH,mH=>true|.byt _,.byt _=>true
 | on,mH=>true|mH,on=>true|mR,mH=>true|mH,mR=>true
 | _,_=>false
noncomputable def rEq:R2:=(Ky,scal x y=true/\Q (S8 (x=y)) H)
noncomputable def rNe:R2:=(Ky,scal x y=true/\(pR (!(eJ x y))))
theorem xmk {i j:Int}:decide (V.int i=V.int j)=(i == j):=by
 rw[Js];simp
theorem xov {i j:Bool}:decide (V.bl i=V.bl j)=(i == j):=by
 rw[Js];simp
theorem xmq {i j:Str}:decide (V.str i=V.str j)=(i == j):=by
 rw[Js];simp
theorem xmv {i j:Array UInt8}:decide (V.byt i=V.byt j)=(i.toList == j.toList):=by
 rw[Js];cases i;cases j;simp
section
variable {X:Cx}{a b c:Expr}{ta tb tc:TE}{pos:Pos}
theorem xa2 {pins:bj}{Z:St}{H:Hp}{s:Shared}{Q:VK}{k k':Bool} (I:av) (q:pR k) (e:k=k'):EP X pins Z Q (.bool k') s:=by
 ext cR;exact(ux,.bl k,q)
theorem xb5:qx .Eq rEq:=by
 intro pins s Z H x y v u Q I rx ry h;ext gK hs h;cases x with
 | non =>
  ext fe;cases y with
  | non=>ext gE; exact PySem.EqNone.eq_none_none (db aj)
  | bl j=>ext gE; exact PySem.EqNone.eq_none_bool (db aj)
  | int j=>ext iC; exact PySem.EqNone.eq_none_int (db aj)
  | str j=>ext iC; exact PySem.EqNone.eq_none_str (db aj)
  | _=>ext uu
 | bl i =>
  ext fe;cases y with
  | non=>ext gE; exact PySem.EqNone.eq_bool_none (db aj)
  | bl j=>ext gE; exact eq_bool (db xov)
  | str j=>ext iC; exact PySem.EqMixed.eq_bool_str (db aj)
  | _=>ext uu
 | int i =>
  ext kW;cases y with
  | non=>ext gE; exact PySem.EqNone.eq_int_none (db aj)
  | int j=>ext iC; exact eq_int (db xmk)
  | str j=>ext iC; exact PySem.EqMixed.eq_int_str (db aj)
  | _=>ext uu
 | str i =>
  ext kW;cases y with
  | non=>ext gE; exact PySem.EqNone.eq_str_none (db aj)
  | bl j=>ext gE; exact PySem.EqMixed.eq_str_bool (db aj)
  | int j=>ext iC; exact PySem.EqMixed.eq_str_int (db aj)
  | str j=>ext iC; exact eq_str (db xmq)
  | _=>ext uu
 | byt i =>
  ext kW;cases y with
  | byt j=>ext iC; exact PySem.W.eq_bytes (db xmv)
  | _=>ext uu
 | _=>cases y<;>exact absurd (vw false hs) Z9
theorem xg0:qx .NotEq rNe:=by
 intro pins s Z H x y v u Q I rx ry h;ext gK hs h;cases x with
 | non =>
  ext fe;cases y with
  | non=>ext gE; exact PySem.EqNone.ne_none_none (db aj)
  | bl j=>ext gE; exact PySem.EqNone.ne_none_bool (db aj)
  | int j=>ext iC; exact PySem.EqNone.ne_none_int (db aj)
  | str j=>ext iC; exact PySem.EqNone.ne_none_str (db aj)
  | _=>ext uu
 | bl i =>
  ext fe;cases y with
  | non=>ext gE; exact PySem.EqNone.ne_bool_none (db aj)
  | bl j=>ext gE; exact ne_bool (db (wI not xov))
  | str j=>ext iC; exact PySem.EqMixed.ne_bool_str (db aj)
  | _=>ext uu
 | int i =>
  ext kW;cases y with
  | non=>ext gE; exact PySem.EqNone.ne_int_none (db aj)
  | int j=>ext iC; exact ne_int (db (wI not xmk))
  | str j=>ext iC; exact PySem.EqMixed.ne_int_str (db aj)
  | _=>ext uu
 | str i =>
  ext kW;cases y with
  | non=>ext gE; exact PySem.EqNone.ne_str_none (db aj)
  | bl j=>ext gE; exact PySem.EqMixed.ne_str_bool (db aj)
  | int j=>ext iC; exact PySem.EqMixed.ne_str_int (db aj)
  | str j=>ext iC; exact ne_str (db (wI not xmq))
  | _=>ext uu
 | byt i =>
  ext kW;cases y with
  | byt j=>ext iC; exact PySem.W.ne_bytes (db (wI not xmv))
  | _=>ext uu
 | _=>cases y<;>exact absurd (vw false hs) Z9
theorem xfv:U4 .Lt (i<j):=opB0 fun _ _ _ _ _ _ _ q=>lt_int q
theorem xgs:U4 .LtE (i<=j):=opB0 fun _ _ _ _ _ _ _ q=>le_int q
theorem xw6:U4 .GtE (j<=i):=opB0 fun _ _ _ _ _ _ _ q=>ge_int q
theorem xlm:qx .Is (Ky,y=.non/\Q (S8 (x=.non)) H):=by
 intro pins s Z H x y v u Q I rx ry h;show(gK,rfl,h);ext gE;refine is_none_gen (db ?_);cases x<;>first
  | (ext jR rx)
  | (ext kW; rfl)
theorem xfo:qx .IsNot (Ky,y=.non/\(pR (!(eJ x .non)))):=by
 intro pins s Z H x y v u Q I rx ry h;show(gK,rfl,h);ext gE;refine isnot_none_gen (db ?_);cases x<;>first
  | (ext jR rx)
  | (ext kW; rfl)
noncomputable def isObj:HO->Bool
 | .lst _=>true
 | .ins _ _ _=>true
 | _=>false
theorem xag (b:Expr) {op:CmpOp} (h:op≠.In:=by decide) (h2:op≠.NotIn:=by decide):CV:=by
 show(uA,e1,op,CmpOp.In,by cases op<;>first|rfl|ext jb h)
 show(uA,e2,op,CmpOp.NotIn,by cases op<;>first|rfl|ext jb h2)
 ext zml
theorem xcv {op:CmpOp}{r:R2} (ho:Su) (ha:nN) (hb:vF) (hm:CV):PE X Nb Rp:=by
 intro pins s Z H Q I h;exact wpAny_Compare1 (binT ha hb I h fun v u s2 x y H2 I2 rx ry q=>ho pins s2 Z H2 x y v u Q I2 rx ry q) hm
inductive xs5 (x:V) (H':Hp) (Q:vI):Prop
 | mk (k) (e_:x=.bl k) (r_:Q k H')
noncomputable def xr2 (t:TE):TT:=(j7,t Z H fun x H'=>xs5 x H' Q)
theorem xae {op:CmpOp}{r:R2} (ho:Su) (ha:nN) (hb:vF) (hm:CV):PT X Nb (xr2 Rp):=by
 intro pins s Z H Q I h;refine wpAny_isTrue_Compare1 (thn (ha pins s Z H _ I h) fun v s1 ⟨x,H1,I1,r1,q1⟩=>thn (hb pins s1 Z H1 _ I1 q1) fun u s2 ⟨y,H2,I2,r2,q2⟩ =>
  thn (ho pins s2 Z H2 x y v u _ I2 r1 r2 q2) fun c s3 ⟨z,H3,I3,r3,k,e,q3⟩=>?_) hm
 ext cR;cases r3;exact JC ⟨H3,I3,q3⟩
noncomputable def xpr (r r':R2) (ta tb tc:TE):TE:=fun Z H Q=>ta Z H fun x H1=>tb Z H1 fun y H2=>r x y H2 fun z H3=>∃ k,z=.bl k /\
 (cK,k,tc Z H3 fun w' H4=>r' y w' H4 Q,Q (.bl false) H3)
theorem xhz {op op':CmpOp}{r r':R2} (ho:Su) (ho':qx op' r') (ha:nN) (hb:vF) (hc:PE X c tc)
    (hm:zjt:=by with_unfolding_all rfl):PE X zkj (xpr r r' ta tb tc):=by
  intro pins s Z H Q I h;refine Compare_chain (thn (ha pins s Z H _ I h) fun v s1 ⟨x,H1,I1,r1,q1⟩=>chain_link (thn (hb pins s1 Z H1 _ I1 q1) fun u s2 ⟨y,H2,I2,r2,q2⟩ =>
    thn (ho pins s2 Z H2 x y v u _ I2 r1 r2 q2) fun d s3 ⟨z,H3,I3,r3,k,e,q3⟩=>?_)) hm
  ext cR;cases r3;refine JC ?_;cases k with
  | false=>exact ite_ff (eF,.bl false,H3,I3,q3)
  | true=>exact ite_tt (chain_last (thn (hc pins s3 Z H3 _ I3 q3) fun w' s4 ⟨z',H4,I4,r4,q4⟩=>ho' pins s4 Z H4 y z' u w' Q I4 r2 r4 q4))
theorem xqs {op op':CmpOp}{r r':R2} (ho:Su) (ho':qx op' r') (ha:nN) (hb:vF) (hc:PE X c tc)
    (hm:zjt:=by with_unfolding_all rfl):PT X zkj (xr2 (xpr r r' ta tb tc)):=by
  intro pins s Z H Q I h;refine isTrue_chain (thn (ha pins s Z H _ I h) fun v s1 ⟨x,H1,I1,r1,q1⟩=>test_link (thn (hb pins s1 Z H1 _ I1 q1) fun u s2 ⟨y,H2,I2,r2,q2⟩ =>
    thn (ho pins s2 Z H2 x y v u _ I2 r1 r2 q2) fun d s3 ⟨z,H3,I3,r3,k,e,q3⟩=>?_)) hm
  ext cR;cases r3;refine JC ?_;cases k with
  | false =>
    obtain⟨k',e',q'⟩:=q3;cases e';exact ite_ff ⟨H3,I3,q'⟩
  | true =>
    refine ite_tt (test_last (thn (hc pins s3 Z H3 _ I3 q3) fun w' s4 ⟨z',H4,I4,r4,q4⟩=>thn (ho' pins s4 Z H4 y z' u w' _ I4 r2 r4 q4) fun d' s5 ⟨z2,H5,I5,r5,k2,e2,q5⟩=>?_));subst e2;cases r5;exact JC ⟨H5,I5,q5⟩
noncomputable def TruV (K:Zd) (x:V) (H:Hp) (k:Bool):Prop :=
 match x with
 | .non=>dE k
 | zD=>k=b
 | dI=>k=(i != 0)
 | .str y=>zhE
 | .byt y=>zik
 | wx=>(Wy PX)\/(zil zcx)
 | _=>False
theorem xnl {κ:Type}{kvs:eV}{vs:vh} (r:j0):(! vs.isEmpty)=! kvs.isEmpty:=by
 cases r<;>rfl
theorem xih {xs:af}{its:aX} (r:xX):(! its.toArray.isEmpty)=! xs.isEmpty:=by
 cases r<;>simp
theorem xfm:(sizeLine:Nat)<FE:=sT QT
theorem xvg:TruR X (fun x H Q=>∃ k,TruV X.K x H k/\Q k H):=by
 intro pins s Z H x v Q I rx h;ext ag k e q h;have hl:=xfm;have hs:sizeLine=16777216:=QT;cases x with
 | non =>
  ext fe;ext mT e' k e;subst e';exact truthy_none ⟨H,I,q⟩
 | bl b =>
  ext fe;have e':k=b:=e;subst e';exact JC ⟨H,I,q⟩
 | int i =>
  ext kW;have e':k=(i != 0):=e;subst e';exact PySem.P.truthy_int ⟨H,I,q⟩
 | str y =>
  ext kW;obtain⟨hy,e'⟩:zhE:=e;subst e';exact PySem.P.truthy_str aa ⟨H,iH,q⟩
 | byt y =>
  ext kW;obtain⟨hy,e'⟩:zik:=e;subst e';exact PySem.W.truthy_bytes aa ⟨H,iH,q⟩
 | ref p =>
  ext fe;have e':(Wy,SqL X.K H p xs)\/(zil,SqT X.K H p xs):=e;rcases e' with⟨xs,hx,e'⟩|⟨xs,hx,e'⟩|⟨kvs,hx,e'⟩
  .subst e';ext zda hx;have hlen:=r.length;exact wpAny_truthy_list pl.isList znI znn
  .subst e';show(jG,r,pl,hz,I.tuple hx);have hlen:=r.length;exact truthy_tuple pl znI znn
  .subst e';obtain⟨hz,hS,vs,r,m⟩:Dy/\(AE p)/\∃ vs,j0/\s.heap.DictOf nB p vs:=I.hok p _ hx;have hlen:kvs.length=vs.length:=Y6 r;exact wpAny_truthy_dict hS m aa ⟨H,iH,(aB,xnl r,q)⟩
 | _=>exact (show False from e).elim
theorem xlr (ha:nN) (he:(zfS,isTrue a X.env whole,a.pos)) :
    PT X a (j7,ta Z H fun x H'=>∃ k,TruV X.K x H' k/\Q k H'):=by
  intro pins s Z H Q I h;exact isTrue_plain (thn (ha pins s Z H _ I h) fun v s1 ⟨x,H1,I1,r1,q1⟩=>xvg pins s1 Z H1 x v Q I1 r1 q1) (he _)
theorem xc6 {x:V}{us:aX} (r:wJ [x]):∃ u,us=[u]/\nR:=by
 cases r with
 | cons r1 r2=>cases r2; exact cA r1
theorem xm6 {x y:V}{us:aX} (r:wJ [x,y]):∃ u w',(bT,us,[u,w'],nR,RelV y w'):=by
 cases r with
 | cons r1 r2 =>
  cases r2 with
  | cons r3 r4=>cases r4; exact fG _ _ r1 r3
theorem xho:AA "abs" (fun xs H Q=>∃ i,xs=[dI]/\(mw zog)):=by
 intro pins s Z H xs us Q I r h;show(ag,i,rfl,q,h);ext zkr;exact call_abs_int fun u tk=>AN zog
theorem xoc:(OE,.type "int",(∃ i,xs=[dI]/\(mw i))\/∃ k,xs=[.bl k]/\(mw (Pu k))):=by
 intro pins s Z H xs us Q I r h;rcases h with⟨i,rfl,q⟩|⟨k,rfl,q⟩
 .obtain ⟨u,rfl,⟨t,rfl⟩⟩:62:=xc6 r;exact call_int_int (wB dI I q)
 .show(hX,u,rfl,r1,xc6 r);cases r1;exact call_int_bool (AN (Pu k))
#check _
structure ObjM (h:Heap) (x dx C:Addr) (mA:fO):Prop where
 obj:(ae,h.get? x,Yi C dx)
 ns:Rv
 ne:dx≠x
theorem xpo {h:Heap}{dx:Addr}{mA:fO} (n:Rv):zhm (S6 dx od):=by
 obtain⟨o,es,ep,ho,hd,hk,_,hm⟩:105:=n;show(gU,o,ho,du name);have e:=hm name;unfold nsFind findBy at e;rw[<- Array.find?_toList] at e;unfold QW;rw[hd]
 dsimp only
 split
 .rename_i y q
  rw[q] at e;ext Ft some e
 .rename_i q
  rw[q] at e;have a:es.toList.any (·.refKey)=false:=by
   rw[List.any_eq_false];intro y hy;show(FR,z,t,hkey,hk y (Array.mem_toList_iff.mp hy));simp[DictEntry.refKey,hkey]
  have a':¬ es.toList.any (·.refKey)=true:=aB a Z9
  show(lC,a',congrArg some e)
theorem ObjM.look {h:Heap}{x dx C:Addr}{mA:fO} (I:ObjM h x dx C mA):(zhm,PySem.W.InstAt h x (Yi C dx) C (some od)) :=
 let ⟨od,ho,hl⟩:=xpo I.ns
 ⟨od,mG I.obj rfl ho,hl⟩
section
variable {prog:Program}{w:World}{A:Around}{E:Value->Shared->Prop}{s:Shared}{K:Zd}{x dx C f:Addr}{mA:Str->Option Value}{name:Str}{v:Value}
theorem xsj {expr:Bool}{Q:bq} (X:xY) (I:Wo) (hg:J8 K C name=true) (hh:vM C)
    (ha:lu C name) (hv:(ae,mA name,v)) (hv':PySem.W.handedIn v=true) (h:Q v oR) :
    wpAny bp A (getAttr rC name expr) Q E s:=by
  ext zaD
  exact PySem.W.get_value X J (Wd hg).1 (PySem.W.findObj_own hh ha rfl (bW hl hv)) hv' h
theorem xrj {pl:To}{Q:(eW,Value × aX)} (X:xY) (I:Wo) (hg:J8 K C name=true)
    (hf:xE C name (aC f)) (ht:bH f) (hv:mA name=none) (h:Q (.ref f,[.ref x]) s) :
    wpAny bp A (getMethod rC name pl) Q E s:=by
  ext zaD
  exact PySem.W.method_fn X J (Wd hg).1 (Wd hg).2 hf (beq_iff_eq.mp ht) (by show (QW name od).map (·.isSome)=some false; rw[hl,hv]; rfl) h
theorem xsc {ns:ap}{Q:yj} (X:xY) (I:Wo)
    (hs:zgE) (hp:yr C) (ht:zmt name) (hh:vM C)
    (hw:QK mA ns) (hsz:cU ns.length)
    (h:∀ h',ObjM h' x dx C (jP (jq,y,name,ud,mA y))->Jq dx s.heap h'->Q () (zT,s.toks+2)) :
    wpAny bp A (setAttr rC name v) Q E s:=by
  ext zaD
  refine PySem.W.set_plain X J hs (PySem.W.osa_open (s:=oR) (r:=none) X J hp ht (du b));show(ag,cd,hc,hd',PySem.W.any_some hh);show(cu,hx,(ae,s.heap.get? x,⟨FP,some dx,.plain,#[]⟩),I.obj,Zf (Zn (Zf (Zf (wpAny_loadPart hx (Zf (PySem.W.Looks.here (s:=oR) (PySem.W.looks_clsIn X hc) ?_)))))));show(qo,hd',Zn (a:=some dx) (Zf (Zn (Zf ?_))));refine wpAny_nsSet1 (s:=oR) I.ns (aK h' hn2 hs2);obtain⟨oD,esD,epD,hoD,hdD,hcD⟩:103:=hn2.count (QK.cons name v hw);show(bP,wpAny_lookBehind hoD (by rw[hdD]; exact pastItsLine_dict (ZN hcD (kQ ZD))) ?_);exact Zn (h _ ⟨(hs2.2 _ (Z1 I.ne)).trans I.obj,hn2,I.ne⟩ hs2)
theorem xqu {R:zdD}{vs:aX}{kw:At} (X:xY) (hm:yq C)
    (hi:zmL) (hf:PySem.W.typeIn K (.ref f)=some (.type "function"))
    (h:codeAny bp (Mx ⟨FP::vs,kw⟩) (.call (.ref f) ⟨.ref jn::vs,kw⟩) (PySem.W.InitBack jn R)
      { s with heap:=(Aq).push (Yi C s.heap.objs.size) }) :
    codeAny bp A (.call (.ref C) ⟨vs,kw⟩) R s:=by
  obtain⟨hh,g,d,t,os⟩:=s;exact PySem.W.make_core (PySem.W.makes_of X hm) (PySem.W.looks_findIn X hi) (fun self=>PySem.W.bind_fn X self hf) gg h
#check _
noncomputable def putF (f:Str) (v:V):iS->iS
 | []=>[(f,v)]
 | (g,x)::r=>(jq,g,f,(g,v)::r,(g,x)::putF f v r)
theorem xhe (f g:Str) (v:V):∀ fs:iS,(RB).lookup g=(jq,g,f,ud,fs.lookup g)
 | []=>by
  show Je g [(f,v)]=_;by_cases h:g=f
  .show(Us,f,aT h)
  .ext uA hb g f Vs;simp only[Je,hb,ay h]
 | zE::r=>by
  have ih:=xhe f g v r;rw[T4];by_cases hk:k=f
  .ext kI hk;by_cases h:g=k
   .show(Us,k,if_pos (h.trans hk))
   .ext uA hb g k Vs;simp only[Je,hb,ay (fun e:g=f=>h (e.trans hk.symm))]
  .ext d8 hk;by_cases h:g=k
   .show(Us,k,ay (fun e:g=f=>hk (h.symm.trans e)))
   .ext uA hb g k Vs;simp only[Je,hb];exact ih
theorem xgk (f:Str) (v:V):∀ fs:iS,f∈(RB).map (·.1)/\∀ g,g∈fs.map (·.1)->g∈(RB).map (·.1)
 | []=>⟨cI putF,fun g h=>xN⟩
 | zE::r=>by
  obtain⟨i1,i2⟩:=xgk f v r;rw[T4];by_cases hk:k=f
  .ext kI hk;subst hk;show(aS,aj,fun g h=>xB)
  .ext d8 hk;show(fT,?_,g,h)
   .show(eE,Zo,Zl _ i1)
   .rw [Zo] at h ⊢;rcases Zt.mp h with e|e
    .exact Zt.mpr (.inl e)
    .exact Zl _ (i2 g e)
theorem xhg (f:Str) (v:V):∀ fs:iS,(zo,RB,fs.length+1)
 | []=>cI putF
 | zE::r=>by
  have ih:=xhg f v r;rw[T4];by_cases hk:k=f
  .rw [aT hk,ZD,ZD]; omega
  .rw [ay hk,ZD,ZD]; omega
theorem RelO.some_of {v:V}{o:Et} (r:RelO (some v) o):∃ u,(ae o u)/\mf:=by
 cases o with
 | none=>ext Dp
 | some u=>ext rR u r
theorem RelO.none_of {o:Et} (r:RelO none o):o=none:=by
 cases o with
 | none=>rfl
 | some u=>ext Dp
theorem xp0 {v:V}{u:Value} (r:mf):PySem.W.handedIn u=true:=by
 cases v with
 | non=>show(jR,dU u JB r)
 | bl b=>show(jR,(K9,u=Yb b))
 | int i=>ext S0 zh
 | str x=>show(S0,Q8 x t)
 | byt b=>show(S0,Value.bytes b t)
 | flt b=>show(S0,Value.float b t)
 | ref a=>show(jR,(K9,u=Zq a))
 | ty n=>show(jR,(K9,u=Value.type n))
section
variable {P:Program}{w:World}{H H':Hp}{h h':Heap}{a C dx:Addr}{fs fs':List (Str × V)}
theorem xhb (hok:lS) (e:Ks):∃ mA,ObjM h a dx C mA/\F9/\QK mA (fs.map (·.1))/\Ou/\(Aw dx a):=by
 obtain⟨d,z,ne,ob,⟨mA,n,r,q⟩⟩:45:=(show xbc P w H h a Bq from hok a _ e)
 exact⟨65,mA,⟨ob,n,ne⟩,r,q,z,d⟩
#check _
structure Cls (K:Zd) (C:Addr):Prop where
 pg:AO C
 hd:vM C
 po:yr C
 sa:zgE
theorem Cls.get {K:Zd}{C:Addr} (c:Lj) (f:Str):J8 K C f=true:=c.pg
noncomputable def xe1 (K:Zd) (C:Addr) (f:Str):Prop:=lu C f
theorem xe1.taker {K:Zd}{C:Addr}{f:Str} (n:xe1 K C f):zmt f:=by
 unfold PySem.W.takerIn;rw[show lu C f from n];rfl
structure Meth (K:Zd) (C:Addr) (m:Str) (f:Addr):Prop where
 at_:xE C m (aC f)
 fn:bH f
 kp:lM f
section
variable {X:Cx}{pins:List (Addr × Obj)}{Z:St}{H:Hp}{s:Shared}{a C dx:Addr}{fs:List (Str × V)}{f:Str}{v:V}{A:Around}{E:Value->Shared->Prop}
theorem xm3 {b:Bool}{Q:bq} (I:av) (e:Ks) (c:Kc) (n:xe1 X.K C f) (l:zoX)
    (h:∀ u s',BU->mf->Q u s'):wpAny aN A (getAttr bb f b) Q E s:=by
  ext zkb;show(ag,u,hu,ru,RelO.some_of (v:=v) (o:=mA f) (by rw[<- l]; exact r f));exact xsj I.kIn O (c.get f) c.hd n hu (xp0 ru) (h u _ iH ru)
theorem xiu {m:Str}{g:Addr}{pl:To}{Q:(eW,Value × aX)} (I:av) (e:Ks) (c:Kc) (k:Meth X.K C m g) (l:fs.lookup m=none)
    (h:Q (.ref g,jN) s):wpAny aN A (getMethod bb m pl) Q E s:=by
  ext zkb;have hn:mA m=none:=RelO.none_of (by rw[<- l]; exact r m);exact xrj I.kIn O (c.get m) k.at_ k.fn hn h
theorem xm7 {y:V}{u:Value}{Q:yj} (I:av) (e:Ks) (c:Kc) (n:xe1 X.K C f) (hl:fs.length<1000) (ry:gb)
    (h:OY (cP (eQ a (lG C zdd)) s')):wpAny aN A (setAttr bb f u) Q E s:=by
  obtain⟨mA,O,r,wi,_,ho⟩:65:=xhb I.hok e;have hz:(fs.map (·.1)).length<=sizeLine:=K1 Za QT
  refine xsc I.kIn O c.sa c.po n.taker c.hd wi hz fun h' O' sb=>h _ ?_;show(cu,hd,∃ o,(ae,h'.get? dx,o),let ⟨o,_,_,e',_⟩:=O'.ns; ⟨o,e'⟩,I.write (x:=a) (e:=dx) yo (.inr ho) (fun b q hb z=>(sb.2 b hb).trans z) hd ?_);refine(cL,bO O.ne ho,?_,O.ne,O'.obj,(bS,_,O'.ns,du g,au g hg))
  . show(cW,xhg f y fs)
  . show RelO ((zdd).lookup g) zoU
    rw[xhe];by_cases q:g=f
    . show(cq,aT q,aT q,ry)
    . rw[ay q,ay q]; exact r g
  . by_cases q:g=f
    . show(aQ,q,(xgk f y fs).1)
    . refine (xgk f y fs).2 g (wi g (ao,hg ?_))
      show zoU=none;ext lC q z
theorem Inv.made (I:av):Inv X pins Z (upd (qW H s.heap.objs.size jn) jn zlq)
    { s with heap:=(Aq).push (Yi C s.heap.objs.size) }:=by
  have e1:(ae,(Aq).get? s.heap.objs.size,JE):=Zw s.heap rfl;have e2:(ae,((Aq).push (Yi C s.heap.objs.size)).get? jn,zoA):=by
    have:=Zw Aq (o:=zoA) rfl
    rwa [YE] at this
  show(cB,e3,(Aq).Ns s.heap.objs.size fh,⟨104,JE,#[],_,e1,rfl,(fun e he=>absurd he aj),pB⟩,I1,I.laid (a:=s.heap.objs.size) (o:=.own jn) (h':=Aq) (t':=s.toks) (wH u FQ) bu (gD e1));refine I1.laid (a:=jn) (o:=zlq) (t':=s.toks) (wH u FQ) (Nat.le_of_eq (YE _ _)) ?_;show(aw,ne,s.heap.objs.size≠jn,ZS (QC _),cL (bW,xj ne,xk) jg ne e2 (bS,fh,(Heap.Ns1.of_empty e3).at fun o q=>FQ,fun _=>Jp,fun y hy=>absurd rfl hy))
theorem xtz {prog:Program}{w:World}{env:Env}{e:Expr}{f:Str}{pos:Pos}{s:Shared}{Q:bq} (hb:attributeBase e f env RX=RX)
    (h:wpAny bp A RX (fun o s₁=>wpAny bp A (getAttr o f true) Q E s₁) E s):wpAny bp A (eval (.Attribute e f pos) env) Q E s :=
  Attribute_any_ h (bW arm_eval_Attribute hb)
#check _
inductive xvq (K:Zd) (f:Str) (x:V) (H1:Hp) (Q:VK):Prop
 | mk (a C dx fs v) (e_:kU) (r_:(aq,(ae,H1 a,Bq),Lj,xe1 K C f,zoX,Q v H1))
noncomputable def tFld (K:Zd) (ta:TE) (f:Str):TE:=(wS,xvq K f x H1 Q)
noncomputable def sFld (K:Zd) (ta tv:TE) (f:Str):TS:=fun D Z H=>tv Z H fun y H1=>ta Z H1 fun x H2=>∃ a C dx fs,kU/\(ae,H2 a,Bq)/\Lj/\xe1 K C f/\fs.length<1000 /\
 D.nx Z (upd H2 a (lG C zdd))
noncomputable def InOp (X:Cx) (op:Operator) (rd:IM):Prop :=
 ∀(pins:bj) (s:Shared) (Z:St) (H:Hp) (x y:V) (u v:Value) (Q:VK),(bc,av,nR,RelV y v,rd x y H Q,wpAny aN X.A (inplaceOp op u v) lP X.xe s)
section
variable {X:Cx}{o e value:Expr}{f:Str}{pos pos' tpos:Pos}{ta tv:TE}
theorem x8 (he:PE X e ta) (hb:attributeBase e f X.env (gO e)=(gO e)):PE X (.Attribute e f pos) (tFld X.K ta f):=by
 intro pins s Z H Q I h;refine xtz hb (thn (he pins s Z H _ I h) fun u s1 ⟨x,H1,I1,rx,a,C,dx,fs,v,ex,ea,c,n,l,q⟩=>?_);ext qy;exact xm3 I1 ea c n l fun u' s2 I2 ru=>bD v H1 I2 ru q
theorem xcg (ha:PE X o ta) (hv:zbE) (hs:Nk value zqc):OH zqc value (sFld X.K ta tv f):=by
 intro pins s Z H D I h;refine plainObj_wpAny_Assign_Attribute (thn (hv pins s Z H _ I h) fun u s1 ⟨y,H1,I1,ry,q⟩=>thn (ha pins s1 Z H1 _ I1 q) fun ov s2 ⟨x,H2,I2,rx,a,C,dx,fs,ex,ea,c,n,l,q2⟩=>?_) hs;subst ex;ext rJ ov a rx;exact xm7 I2 ea c n l ry fun s3 I3=>bK Z _ I3 q2
inductive rAdd (x:V) (y:V) (H:Hp) (Q:VK):Prop
 | mk (i j) (e_:IJ) (r_:(Co j)/\(mw (i+j)))
inductive rSub (x:V) (y:V) (H:Hp) (Q:VK):Prop
 | mk (i j) (e_:IJ) (r_:(Co j)/\(mw (i-j)))
theorem xve:InOp X .Add rAdd:=by
 rintro pins s Z H x y u v Q I rx ry ⟨i,j,rfl,rfl,q⟩;ext zfR
 exact PyProof.Rows.iadd_int (AN (i+j))
theorem xut:InOp X .Sub rSub:=by
 rintro pins s Z H x y u v Q I rx ry ⟨i,j,rfl,rfl,q⟩;ext zfR
 exact PyProof.Rows.isub_int (AN (i-j))
#check _
section
variable {X:Cx}{pins:List (Addr × Obj)}{Z:St}{H:Hp}{s:Shared}{A:Around}{E:Value->Shared->Prop}{Q:Value->Shared->Prop}{c:Value}{b:Bool}
inductive TyOf (K:Zd) (H:Hp):bA V Value where
  | non:sF .non "NoneType"
  | bl (x:Bool):sF (.bl x) "bool"
  | int (i:Int):sF dI "int"
  | str (x:Str):sF mK "str"
  | flt (x:UInt64):sF (.flt x) "float"
  | lst {a:Addr}{xs:af} (e:vd a xs):sF bb "list"
  | frz {a:Addr}{o:Obj}{xs:af} (e:aR a (.frz o (.lst xs))):sF bb "list"
  | tup {a:Addr}{xs:af} (e:eR a xs):sF bb "tuple"
  | dK {a:Addr}{kvs:bw} (e:B5):sF bb "dict"
  | dT {a:Addr}{kvs:dc} (e:FC):sF bb "dict"
  | ins {a C dx:Addr}{fs:iS} (e:Ks) (cl:Lj) (ha:xE C "__class__" (xK "object.__class__"))
      (hn:Ut) (htk:T5)
      (hm:(ae,PySem.W.mroIn K C (.type "object"),true)):TyOf K H bb FP
theorem xom {x:V}{u t:Value} (I:av) (rx:nR) (ty:TyOf X.K H x t) (e:(ae,QX X.K t c,b)) (h:∀ tk,Q (.bool b) { s with toks:=tk }) :
    wpAny aN A (vn "isinstance" [u,c]) Q E s:=by
  cases ty with
  | non=>cases (dU u JB rx); exact J4 PySem.W.kitx_none I.kIn Jp e dF h
  | bl y=>cases (show u=Yb y from rx); exact J4 PySem.W.kitx_bool I.kIn Jp e dF h
  | int i=>show(WS,zh,J4 PySem.W.kitx_int I.kIn Jp e dF h)
  | str y=>show(WS,Q8 y t,J4 PySem.W.kitx_str I.kIn Jp e dF h)
  | flt y=>show(WS,Value.float y t,J4 PySem.W.kitx_float I.kIn Jp e dF h)
  | @lst a xs ea =>
    ext C7;obtain⟨_,_,n,_,h1⟩:=(GG,xbc X.prog X.w H s.heap a (.lst xs))
    exact J4 PySem.W.kitx_list I.kIn (dL h1) e dF h
  | @frz a ob xs ea =>
    ext C7;obtain⟨_,_,⟨_,n,_,h1⟩⟩:43:=(GG,xbc X.prog X.w H s.heap a (.frz ob (.lst xs)))
    exact J4 PySem.W.kitx_list I.kIn (dL h1) e dF h
  | @tup a xs ea =>
    ext C7;obtain⟨_,_,_,p⟩:=(GG,xbc X.prog X.w H s.heap a (.tup xs))
    ext tf o h1 h2 p;exact J4 PySem.W.kitx_tuple I.kIn ⟨o,h1,h2⟩ e dF h
  | @dK a kvs ea =>
    ext C7;obtain⟨_,_,⟨vs,_,p⟩⟩:43:=(GG,xbc X.prog X.w H s.heap a Lk)
    obtain⟨o,es,ep,h1,h2,_⟩:103:=p;exact J4 PySem.W.kitx_dict I.kIn ⟨o,h1,h2.1⟩ e dF h
  | @dT a kvs ea =>
    ext C7;obtain⟨_,_,⟨xs,_,o,es,ep,h1,h2,_⟩⟩:43:=(GG,xbc X.prog X.w H s.heap a (.dT kvs))
    exact J4 PySem.W.kitx_dict I.kIn ⟨o,h1,h2.1⟩ e dF h
  | @ins a C dx fs ea cl ha hn htk hm =>
    ext C7;show(iy,mA,O,xhb I.hok ea);show(iy,od,J,O.look)
    exact J4 (PySem.W.kitx_own (cl.get _) cl.hd ha hn htk hm) I.kIn J e dF h
#check _
structure Room (q0:Bool) (k:Nat) (A:Around):Prop where
 hd:zkW
 dp:A.depth+3*k+5<recursionLimit
 un:A.units+16*k+200<cLine
 gd:ae A.guards []
theorem Room.mono {j k:Nat}{A:Around} (r:AT) (h:j<=k):Room q0 j A:=⟨r.hd,gL r.dp,gL r.un,r.gd⟩
theorem Room.deeper {k:Nat}{A:Around} (r:Room q0 cJ A) (env:Env):zag env :=
 ⟨r.hd,by have:=r.dp; show A.depth+1+3*k+5<_; omega,by have:=r.un; show A.units+3+16*k+200<_; omega,r.gd⟩
theorem xnq {A:Around}{C:Addr}{us:aX}{kw:At}:(Mx Ot).depth=A.depth+1:=by
 first|rfl|simp[Around.under,Code.weight,Code.isCreation,Code.isGuard,Code.isCaller,Code.frames,Code.isFrame,guardIds]
theorem xny {A:Around}{C:Addr}{us:aX}{kw:At}:(Mx Ot).units=A.units+1:=by
 first|rfl|simp[Around.under,Code.cUnits,Code.frames,Code.isFrame]
theorem Room.make {k:Nat}{A:Around} (r:Room q0 cJ A) (C:Addr) (us:aX) (kw:At):Room q0 k (A.under (.builtin "type.__call__" Ot)) :=
 ⟨r.hd,by have:=r.dp; rw[xnq]; omega,by have:=r.un; rw[xny]; omega,by first|exact r.gd|(simpa [Around.under,Code.guards,Code.isGuard,guardIds,pushGuards] using r.gd)⟩
theorem Room.depth {k:Nat}{A:Around} (r:AT):A.depth<recursionLimit:=gL r.dp
theorem Room.units {k:Nat}{A:Around} (r:AT):zdV 64:=gL r.un
noncomputable def tNil:TA:=(EW,Q [] H)
@[reducible] def xrw (ta:TE) (tr:TA):TA:=(wS,tr Z H1 fun xs H2=>Q p8 H2)
section
variable {X:Cx}{e:Expr}{es:List Expr}{te:TE}{t:TA}{pos:Pos}
theorem xg:PA X [] tNil:=fun _ _ _ _ H Q I h=>YA (bD [] H I .nil h)
theorem xa (ha:tz) (hr:SF) (hs:wP:=by rfl):PA X mS (xrw te t):=by
 intro pos pins s Z H Q I h;rw[hs];show wpAny _ _ (spliced ((nJ e)::xW)) _ _ s;refine Yd (thn (ha pins s Z H _ I h) fun u s1 ⟨x,H1,I1,r1,q1⟩=>?_);exact thn (hr pos pins s1 Z H1 _ I1 q1) fun us s2 ⟨xs,H2,I2,r2,q2⟩=>(bD,p8,H2,I2,.cons r1 r2,q2)
noncomputable def tTup (t:TA):TE:=ziF (fA H1 p xs)
noncomputable def tLst (t:TA):TE:=ziF (fw H1 p xs)
theorem xal {x1} (h:SF):PE X (.Tuple es x1 pos) (tTup t):=by
 intro pins s Z H Q I hq;refine wpAny_Tuple_spliced (thn (h pos pins s Z H _ I hq) fun us s1 ⟨xs,H1,I1,r,z,q⟩=>zpd);show(aw,hf,zlc,zqu,(zgq,fA H1 s1.heap.objs.size xs,q _ hf));exact⟨z,us,r,yW gf ju⟩
theorem xb1 (h:SF):PE X (.List es pos) (tLst t):=by
 intro pins s Z H Q I hq;refine wpAny_List_spliced (thn (h pos pins s Z H _ I hq) fun us s1 ⟨xs,H1,I1,r,z,q⟩=>zpd);show(aw,hf,zlc,zqu,(zgq,fw H1 s1.heap.objs.size xs,q _ hf));show(aS,z,bK us 0 r gf)
#check _
noncomputable abbrev Sp:=af->Hp->(bA VK XK)
noncomputable abbrev CXT:=bc mj Hp Shared XK bq
structure Env0 (P:Program) (w:World) (K:Zd) (mg:fO) (base:Heap) (A:Around) (outer:mj) (s:Shared) (H:Hp):Prop where
 frames:ae A.frames outer
 mod:Mod K mg base
 bs:(rK,(ae,base.get? b,o),jj/\cZ)
 bsz:base.objs.size<=s.heap.objs.size
 funs:s.heap.FunFrames base outer
 frf:∀ b∈frs outer,cZ
 hok:HOk P w H s.heap
 bare:AllBare s.gens
noncomputable def CE (outer:mj) (P:Program) (w:World) (H:Hp) (s:Shared) (Q:VK) (u:Value) (s':Shared):Prop :=
 ∃ v H',s'.os=s.os/\(aq,Ow,Un (frs outer) [] H H' s.heap s'.heap,HOk P w H' s'.heap,mf,Ce)
noncomputable def CR (CX:CXT) (outer:mj) (P:Program) (w:World) (H:Hp) (s:Shared) (Q:VK) (E:XK) (r:Result) (s':Shared):Prop :=
 match r with
 | .ok (.ret u)=>CE outer P w H s Q u s'
 | .ok _=>False
 | .error e=>CX outer H s E e s'
structure FnOk (q0:Bool) (P:Program) (w:World) (K:Zd) (mg:fO) (base:Heap) (CX:CXT) (k:Nat) (f:Addr) (fd:FuncData) (ps:ap) (sp:Sp):Prop where
 len:F1
 run:∀(A:Around) (outer:mj) (s:Shared) (H:Hp) (args:Args) (us:aX) (vs:af) (Q:VK) (E:XK),AT->Env0 P w K mg base A outer s H->BindsTo s fd args Sz->E1->Ee ->
  codeAny yk A (.call (.ref f) args) (CR CX outer P w H s Q E) s
theorem Env0.make {P:Program}{w:World}{K:Zd}{mg:fO}{base:Heap}{A:Around}{outer:mj}{s:Shared}{H:Hp} (e:Env0 P w K mg base A outer s H) (C:Addr) (us:aX) (kw:At) :
    Env0 P w K mg base (Mx Ot) outer s H:=⟨by first|exact e.frames|(simpa [Around.under,Code.envs,Code.isFrame,pushEnvs] using e.frames),e.mod,e.bs,e.bsz,e.funs,e.frf,e.hok,e.bare⟩
section
variable {X:Cx}{pins:List (Addr × Obj)}{Z:St}{H:Hp}{s s':Shared}
theorem Inv.env0 (I:av):Env0 X.prog X.w X.K X.mg X.base X.A X.stack s H :=
 ⟨I.ok.frames,I.ok.mod,I.bs,ZN I.ok.bsz I.sz,I.stack,I.stkFree,I.hok,I.bare⟩
theorem Inv.after {Q:VK}{u:Value} (I:av) (h:CE X.stack X.prog X.w H s Q u s'):EP X pins Z Q u s':=by
 obtain⟨v,H',os,bare,un,hok,r,q⟩:86:=h;obtain⟨hh,g,d,t,os'⟩:=s';show(jD,os'=s.os,os);exact(bD,v,H',I.call (h':=hh) (g':=g) (d':=d) (t':=t) (ch:=[]) un hok bare (fun b z=>absurd z aj),r,q)
#check _
noncomputable def xr4 (sp:Sp) (dvs:af) (E:St->XK) (t:TA):TE:=(w6,vs,sp BW H1 Q (E Z))
inductive xt9 (C:Addr) (m:Str) (sp:Sp) (dvs:af) (E:St->XK) (t:TA) (Z:St) (x:V) (H1:Hp) (Q:VK):Prop
 | mk (a dx fs) (e_:kU) (r_:(ae,H1 a,Bq)/\fs.lookup m=none/\t Z H1 fun vs H2=>sp (x::BW) H2 Q (E Z))
noncomputable def xr6 (C:Addr) (m:Str) (sp:Sp) (dvs:af) (E:St->XK) (ta:TE) (t:TA):TE:=(wS,xt9 C m sp dvs E t Z x H1 Q)
noncomputable def xr0 (C:Addr) (sp:Sp) (dvs:af) (E:St->XK) (t:TA):TE:=fun Z H Q=>t Z H fun vs H1=>∀ x dx,H1 x=none->H1 dx=none->dx≠x ->
 (zfA (qW H1 dx x))
noncomputable def xz (K:Zd) (fd:FuncData) (ps:ap) (ds:aX):Prop :=
 ∀(s:Shared) (us:aX),xY->(wj,(y0).length)->BindsTo s fd (jB us) (ps.zip y0)
theorem xz.all {K:Zd}{fd:FuncData}{ps:ap} (h:∀ us:aX,zgr fd):aO fd ps:=fun s us _ hl=>by
 rw[QR] at hl ⊢;exact .of_eq (h us hl)
noncomputable def xeh (CX:CXT) (X:Cx) (E:St->XK):Prop:=∀(pins:bj) (Z:St) (H:Hp) (s:Shared) (e:Value) (s':Shared),av->CX X.stack H s (E Z) e s'->X.xe e s'
section
variable {X:Cx}{CX:CXT}{k:Nat}{f C:Addr}{fd:FuncData}{ps:List Str}{sp:Sp}{dvs:List V}{ds:List Value}{E:St->XK}{x m:Str}{p pos apos:Pos}{e o:Expr}{es:List Expr}{ta:TE}{t:TA}
theorem xkq {pins:bj}{Z:St}{H:Hp}{s:Shared}{Q:VK}{us:aX}{vs:af} (F:FnOk q0 X.prog X.w X.K X.mg X.base CX k f fd ps sp) (hr:Pd) (hb:Ah) (hd:AR) (hx:A8)
    (I:av) (r:E1) (h:sp BW H Q (E Z)):wpAny aN X.A (call (.ref f) us) lP X.xe s:=by
  have r2:Vals BW y0:=r.append hd;show(we,hl,y0,ps.length,(cT,r2.length,F.len _ _ _ _ h))
  refine Wh (Qt (F.run X.A X.stack s H (jB us) y0 BW Q (E Z) hr I.env0 (hb s us I.kIn hl) r2 h) (aK r s' hq));cases r with
  | error e=>exact hx pins Z H s e s' I hq
  | ok fl =>
    cases fl with
    | ret u=>exact I.after hq
    | next=>exact JR hq
    | brk=>exact JR hq
    | cont=>exact JR hq
theorem xsu (F:FnOk q0 X.prog X.w X.K X.mg X.base CX k f fd ps sp) (hr:Pd) (hg:rh) (hm:IU f) (hk:znB) (hb:Ah) (hd:AR) (hx:A8)
    (ha:Bh) (hdb:ng:=by decide) (he:wP:=by rfl) (hpl:(xW).any (·.1)=false:=by rfl) :
    Gz (xr4 sp dvs E t):=by
  intro pins s Z H Q I h;ext VR;refine Wk (h₀:=X.base) I.ok.mod.kin hk (thn (ha pos pins s Z H _ I h) fun us s1 ⟨vs,H1,I1,r,q⟩=>fE I1.kIn) he hpl;exact xkq F hr hb hd hx I1 r q
theorem xaf {pl:To} (he:PE X o ta) (c:Kc) (hm:Meth X.K C m f) (F:FnOk q0 X.prog X.w X.K X.mg X.base CX k f fd ps sp) (hr:Pd) (hb:Ah) (hd:AR) (hx:A8) (ha:Bh)
    (hst:wP:=by rfl) (hpl:(xW).any (·.1)=false:=by rfl)
    (ht:(gO (yp NH mS))=(do
      let ov <- gO o
      zqp
      let (f,first) <- zjc
      zjq mS):=by rfl) :
    PE X (yp NH mS) (xr6 C m sp dvs E ta t):=by
  intro pins s Z H Q I h;refine zpt (thn (he pins s Z H _ I h) fun u s1 ⟨x,H1,I1,rx,a,dx,fs,ex,ea,l,q⟩=>?_) ht;ext qy;refine xiu I1 ea c hm l ?_;refine Wk (first:=jN) (h₀:=X.base) I.ok.mod.kin hm.kp (thn (ha pos pins s1 Z H1 _ I1 q) fun us s2 ⟨vs,H2,I2,r,q2⟩=>fE I2.kIn) hst hpl;exact xkq (us:=bb::us) (vs:=bb::vs) F hr hb hd hx I2 (.cons rfl r) q2
theorem xah {pl:To} (he:PE X o ta) (c:Kc) (hm:Meth X.K C m f) (F:FnOk q0 X.prog X.w X.K X.mg X.base CX k f fd ps sp) (hr:Pd) (hb:Ah) (hd:AR) (hx:A8)
    (ht:(gO (yp NH []))=(do
      let ov <- gO o
      zqp
      let (f,first) <- zjc
      zjq []):=by rfl) :
    PE X (yp NH []) (xr6 C m sp dvs E ta tNil):=by
  intro pins s Z H Q I h;refine zpt (thn (he pins s Z H _ I h) fun u s1 ⟨x,H1,I1,rx,a,dx,fs,ex,ea,l,q⟩=>?_) ht;ext qy;refine xiu I1 ea c hm l ?_;exact PySem.W.callWith_K0 (first:=jN) I1.kIn hm.kp (xkq (us:=jN) (vs:=jN) F hr hb hd hx I1 (.cons rfl .nil) q)
structure Mk (K:Zd) (C f:Addr):Prop where
 makes:yq C
 init:zmL
 fn:bH f
 kp:lM C
theorem xln {pins:bj}{Z:St}{H:Hp}{s:Shared}{Q:VK}{us:aX}{vs:af} (M:Mk X.K C f) (F:FnOk q0 X.prog X.w X.K X.mg X.base CX k f fd ps sp) (hr:zbd) (hb:Ah) (hd:AR)
    (hx:A8) (I:av) (r:E1)
    (h:∀ x dx,(bv,bo x,bo dx,dx≠x,zfA (qW H dx x))) :
    wpAny aN X.A (call (.ref C) us) lP X.xe s:=by
  show(ah,hq,h jn s.heap.objs.size (I.hok.fresh (QU _)) De (ZS (QC _)),I2,Inv.made (C:=C) I);have r2:Vals (V.ref jn::BW) (Zq jn::y0):=.cons rfl (r.append hd);have hl:(zdu++ds).length=ps.length:=by
    have e:=r2.length;show(b6,F.len _ _ _ _ hq,e,e.symm)
  refine Wh (xqu (f:=f) I.kIn M.makes M.init (beq_iff_eq.mp M.fn) (Qt (F.run _ X.stack _ _ (jB zdu) (Zq jn::y0) _ _ (E Z) (hr.make C us [])
    (I2.env0.make C us []) (hb _ zdu I2.kIn hl) r2 hq) (aK r s' hq')))
  cases r with
  | error e=>exact hx pins Z _ _ e s' I2 hq'
  | ok fl =>
    cases fl with
    | ret u =>
      obtain⟨v,H',I3,rv,ev,q3⟩:84:=I2.after hq';subst ev;show(aS,rv,(eF,V.ref jn,H',I3,q3))
    | next=>exact JR hq'
    | brk=>exact JR hq'
    | cont=>exact JR hq'
theorem xd7 (M:Mk X.K C f) (F:FnOk q0 X.prog X.w X.K X.mg X.base CX k f fd ps sp) (hr:zbd) (hg:rh) (hm:IU C) (hb:Ah) (hd:AR) (hx:A8)
    (ha:Bh) (hdb:ng:=by decide) (he:wP:=by rfl) (hpl:(xW).any (·.1)=false:=by rfl) :
    Gz (xr0 C sp dvs E t):=by
  intro pins s Z H Q I h;ext VR;refine Wk (h₀:=X.base) I.ok.mod.kin M.kp (thn (ha pos pins s Z H _ I h) fun us s1 ⟨vs,H1,I1,r,q⟩=>fE I1.kIn) he hpl;exact xln M F hr hb hd hx I1 r q
theorem xk5 (M:Mk X.K C f) (F:FnOk q0 X.prog X.w X.K X.mg X.base CX k f fd ps sp) (hr:zbd) (hg:rh) (hm:IU C) (hb:Ah) (hd:AR) (hx:A8)
    (hdb:ng:=by decide):PE X (yp (.Name x p) []) (xr0 C sp dvs E tNil):=by
  intro pins s Z H Q I h;ext VR;exact PySem.W.callWith_K0 I.kIn M.kp (xln (us:=[]) M F hr hb hd hx I .nil h)
#check _
structure xt (N P:ap) (sc:Scope):Prop where
 kind:sc.kind=.function
 co:zqx
 gen:zqw
 nd:N.Nodup
 pre:zpO
 par:∀ x∈P,(MD Gb)
 nofree:zjj
theorem xjo {kindOf:NT}{x:Str}:zgQ (zcW binds)
 | [],_,_=>rfl
 | (n,v)::r,m,h=>by
  unfold bindL;rw[xjo (Bs w hw)];split
  .ext zhJ
  .rfl
theorem xjp {kindOf:NT}{x:Str}:zgQ (zcV binds)
 | [],_,_=>rfl
 | (n,v)::r,m,h=>by
  unfold bindC;rw[xjp (Bs w hw)];split
  .rfl
  .ext zhJ
theorem xjq {kindOf:NT}{x:Str}{v:Value}:∀{P:List Str}{vs:List Value}{i:Nat}{m:Str->Option Value},P.Nodup->P[i]?=some x->vs[i]?=some v->(ae,kindOf x,.local) ->
    (ae (zcW (P.zip vs)) v)
  | [],_,_,_,_,h,_,_=>xN
  | cM,[],_,_,_,_,h,_=>xN
  | p::P,w::vs,0,m,nd,h1,h2,hk=>by
    simp at h1 h2; subst h1; subst h2;show bindL kindOf NY m p=_;unfold bindL;rw[xjo (kH,hv,(ZC.mp nd).1 (zaI hv)),aT hk];simp
  | p::P,w::vs,aY,m,nd,h1,h2,hk=>by
    show (zcW NY)=_;unfold bindL;exact xjq (i:=i) (ZC.mp nd).2 qw Dj hk
theorem xj3 {kindOf:NT}{x:Str}{v:Value}:∀{P:List Str}{vs:List Value}{i:Nat}{m:Str->Option Value},P.Nodup->P[i]?=some x->vs[i]?=some v->kindOf x≠some .local ->
    (ae (zcV (P.zip vs)) v)
  | [],_,_,_,_,h,_,_=>xN
  | cM,[],_,_,_,_,h,_=>xN
  | p::P,w::vs,0,m,nd,h1,h2,hk=>by
    simp at h1 h2; subst h1; subst h2;show bindC kindOf NY m p=_;unfold bindC;rw[xjp (kH,hv,(ZC.mp nd).1 (zaI hv)),ay hk];simp
  | p::P,w::vs,aY,m,nd,h1,h2,hk=>by
    show (zcV NY)=_;unfold bindC;exact xj3 (i:=i) (ZC.mp nd).2 qw Dj hk
noncomputable def start (N:ap) (vs:af):St:=vs.map some++List.replicate (N.length-vs.length) none
noncomputable def cxOf (q0:Bool) (CX:CXT) (P:Program) (w:World) (K:Zd) (mg:fO) (base:Heap) (N:ap) (qual:Str) (scope:Scope) (f:Addr) (cd:Value) (A:Around) (outer:mj) (s:Shared) (H:Hp) (E:XK):Cx where
 prog:=P
 w:=w
 K:=K
 mg:=mg
 base:=base
 A:=A.deeper Az
 N:=N
 s₀:=s
 H₀:=H
 env:=Az
 outer:=outer
 stack:=Az::outer
 ex:=[]
 calm:=q0
 fn:=RG
 pn:=[]
 xe:=(mW,e,wpAny yk (A.deeper Az) (leaving Az e) (fun _ s''=>CX outer H s E e s'') (fun e' s''=>CX outer H s E e' s'') s')
theorem xko {sc:Scope}{n:Nat}{x:Str} (h:Gb):∃ c,(ae,(cellsFrom n sc.names []).lookup x,c):=by
 have q:=PySem.W.cellsFrom_some sc.names n [] (.inl h);exact Q6.mp q
theorem xpu {CX:CXT}{P:Program}{w:World}{K:Zd}{mg:fO}{base:Heap}{N ps:ap}{qual:Str}{scope:Scope}{f:Addr}{cd:Value}{A:Around}{outer:mj}{s s1:Shared}{H:Hp}{E:XK}{us:aX}{vs:af}
    (S:xt N ps scope) (hd:zkW) (e0:Env0 P w K mg base A outer s H) (hl:wj vs.length) (r:E1)
    (x:InCallC s s.heap.objs.size (bindL (Az).kindOf Sz fh) zkQ (bindC (Az).kindOf Sz fh) s1) :
    Inv (cxOf q0 CX P w K mg base N qual scope f cd A outer s H E) [] Sh H s1:=by
  have hpl:ps.length<=N.length:=by show(pq,uD S.pre,Jl); omega
  show(js,h1,tk,rfl,hk,x.done)
  have noA:∀ b:Addr,b∉(cxOf q0 CX P w K mg base N qual scope f cd A outer s H E).ex:=fun b z=>absurd (show zde from z) aj;refine⟨⟨e0.mod,S.kind,rfl,rfl,bu,bL y z c h1 h2,Ke,fun y c _ h=>?_,hd,Around.frames_deeper e0.frames,.inr nS,zlF,e0.bs,e0.bsz,fun b _ _=>noA b,zlF,e0.funs,e0.frf⟩,
    rfl,e0.bare,Un.kept hk,(cD,x.toInCall.ns,fun i y v h1 h2 h3=>?_),fun y c h=>(gD,x.cell y c h),e0.hok.fresh (Zk _),aK y c h,(dS,absurd (show p∈([]:bj) from hp) aj),e0.hok.kept hk,?_⟩
  . exact name_of_addr x.apart (JH h1) (JH h2)
  . have hy:(zpn .cell)\/(zpn .free):=hy
    rcases hy with hy|hy
    . exact xko hy
    . exact absurd rfl (S.nofree _ (JH hy))
  . exact JN (x.above y c (JH h))
  . have hi:i<vs.length:=by
      unfold start at h2;by_cases hi:i<vs.length
      . exact hi
      . rw[Jz GQ] at h2
        rw[QH] at h2;ext Lb h2
    have ha:aU vs v:=by
      unfold start at h2;rw[ZY GQ,Zc] at h2;cases e:vs[i]? with
      | none=>ext bV e h2
      | some a=>ext bI e h2 h2; rfl
    show(ag,u,hu,rv,r.get ha);have hp:aU ps y:=by
      rw[<- S.pre,List.getElem?_take_of_lt aa]; exact h1
    show(aw,ndP,ps.Nodup,by rw[<- S.pre]; exact S.nd.sublist (Q3 _ _),dM u rv);rcases S.par y (Zj hp) with k|k
    . show(Ch,k,xjq ndP hp hu k)
    . show(mq,c,xko (n:=jn) k)
      show(zJ,⟨.inl k,c,e,?_⟩);have q:=x.cell y c e;show(b6,xj3 ndP hp hu (by show zpp≠_; rw[k]; decide),q,q)
  . exact e0.hok.fresh (JN (x.above y c (JH h)))
  . unfold start
    show _=N.length;rw[Zr,Za,QS];omega
theorem xnh {CX:CXT}{P:Program}{w:World}{K:Zd}{mg:fO}{base:Heap}{k:Nat}{f:Addr}{name qual:Str}{params:Arguments}{body:Bm}{scope:Scope}{dV kV doc pm cdv ct oc:Value}{an od:iB}
    {osl:uM}{N ps:ap}{sp:Sp} (lk:GF (Jv name qual params body scope dV kV doc pm an cdv ct)) (hcd:GB) (S:xt N ps scope)
    (len:F1)
    (hbody:∀(A:Around) (outer:mj) (s:Shared) (H:Hp) (vs:af) (Q:VK) (E:XK),(zag (VM scope cdv))->Ee ->
      (Mc (cxOf q0 CX P w K mg base N qual scope f cdv A outer s H E) body)) :
    FnOk q0 P w K mg base CX cJ f (Jv name qual params body scope dV kV doc pm an cdv ct) ps sp:=by
  show(dX,len,fun A outer s H args us vs Q E hr e0 hb r hsp=>?_);have hl:=len _ _ _ _ hsp;have KX:xY:=e0.mod.kin.keeps (ur,(e0.bs b o e).1);have lim:s.heap.NoLimit:=e0.mod.nolimit.keeps (ur,(e0.bs b o e).1);have hkind:∀ y∈Sz,(Vh .local)\/((Vh .cell)/\(fR ((zkQ).lookup y.1))):=fun⟨n,v⟩ hy=>by
    rcases S.par n (zaI hy) with q|q
    . ext eD q
    . show(qY,q,PySem.W.cellsFrom_some _ _ _ (.inl q))
  refine codeAny_call_function hr.depth (KX _ _ lk) rfl S.co S.gen rfl (PySem.W.codeRec_of KX hcd) (hb _ _ _ _ ?_);refine wpAny_newFunctionEnv_cells S.kind hkind (b9 env he s1 x);subst he;show(dX,lim.keeps x.toInCall.keep,codeAny_func ?_);show(ag,t,ht,hq,hbody A outer s H vs Q E (hr.deeper _) hsp);have I:Inv (cxOf q0 CX P w K mg base N qual scope f cdv A outer s H E) [] Sh H s1:=xpu S hr.hd e0 hl r x;refine Jh (ht [] s1 Sh H _ I hq) (aK fl s' hs) fun e s' hs=>hs;have fin:∀{σ':St}{H':Hp}{v:V}{u:Value},(bv,Inv (cxOf q0 CX P w K mg base N qual scope f cdv A outer s H E) [] σ' H' s',mf,Ce,CE outer P w H s Q u s') :=
    fun {σ' H' v u} J rv q=>⟨86,v,H',J.os,J.bare,J.base,J.hok,rv,q⟩
  cases fl with
  | ret u =>
    obtain⟨v,σ',H',J,rv,q⟩:103:=hs;exact fin J rv q
  | next =>
    show(js,σ',H',J,q,hs);exact fin (v:=V.non) (u:=JB) J rfl q
  | brk =>
    ext zlk
  | cont =>
    ext zlk
section
variable {X:Cx}{x:Str}{p pos:Pos}{e:Expr}{es:List Expr}{t:TA}{id T:String}{r:List V->Hp->VK->Prop}
noncomputable def tCB (r:af->sZ) (t:TA):TE:=(w6,vs,r vs H1 Q)
theorem xak (hc:AA id r) (hg:rh) (hm:yu x) (hv:bootBuiltins x=some (.builtin id)) (ha:Bh) (hn:Hq:=by decide) (hdb:ng:=by decide)
    (he:wP:=by rfl) (hpl:(xW).any (·.1)=false:=by rfl):Gz (tCB r t):=by
  intro pins s Z H Q I h;refine Yy (xd3 I hg hm hv ?_ hn hdb);exact PyProof.Rows.callWith_builtin1 (thn (ha pos pins s Z H _ I h) fun us s1 ⟨vs,H1,I1,r1,q1⟩=>hc pins s1 Z H1 vs us Q I1 r1 q1) he hpl
theorem xbn (hc:xct X (.type T) r) (hg:rh) (hm:yu x) (hv:bootBuiltins x=some (.type T)) (ha:Bh) (hn:Hq:=by decide) (hdb:ng:=by decide)
    (he:wP:=by rfl) (hpl:(xW).any (·.1)=false:=by rfl):Gz (tCB r t):=by
  intro pins s Z H Q I h;refine Yy (xd3 I hg hm hv ?_ hn hdb);exact JA (thn (ha pos pins s Z H _ I h) fun us s1 ⟨vs,H1,I1,r1,q1⟩=>hc pins s1 Z H1 vs us Q I1 r1 q1) he hpl
#check _
#check L2
namespace HT
open PySem PyProof.Rows
section
variable {prog:Program}{w:World}{A:Around}{E:Value->Shared->Prop}{s:Shared}
theorem cat_tup {t b:Addr}{vs ws:aX}{Q:bq} (ht:IsTup s.heap t vs.toArray) (hb:IsTup s.heap b ws.toArray) (hv:vs≠[])
    (h1:ws=[]->(fF t s)) (h2:ws≠[]->(fF s.heap.objs.size (zhF,(vs++ws).toArray)))
    (hsz:(cU,vs.length+ws.length)):wpAny bp A (binaryOp .Add (.ref t) (.ref b)) Q E s:=by
  obtain⟨⟨cls,dd,data,sl⟩,ho,hc,⟨n,hd⟩⟩:63:=id ht;obtain⟨⟨cls2,dd2,data2,sl2⟩,ho2,hc2,⟨n2,hd2⟩⟩:63:=id hb;simp only at hc hd hc2 hd2;subst hc hd hc2 hd2;have e:vs.toArray++ws.toArray=(vs++ws).toArray:=aj
  by_cases hw:ws=[]
  . exact concat_meets (dL ho) (dL ho2) noFill_tuple_add seq_tuple_add PySem.F.slot_tuple_add PySem.F.entry_tuple_add zkH
      (tuple_addW1 t b vs.toArray ws.toArray n n2 dd dd2 sl sl2 (by simpa using hv) (cI hw)) ⟨ho,ho2,h1 hw⟩
  . refine concat_meets (dL ho) (dL ho2) noFill_tuple_add seq_tuple_add PySem.F.slot_tuple_add PySem.F.entry_tuple_add zkH
      (tuple_addW2 t b vs.toArray ws.toArray n n2 dd dd2 sl sl2 (by simpa using hv) N7 (pQ Z5 Z5 hsz)) (dM ho ho2)
    rw[e];exact h2 hw
noncomputable def sIx (n d:Nat):jt->Nat
 | none=>d
 | ud=>UK
theorem sIx_none (n d:Nat):sIx n d none=d:=rfl
theorem sIx_nat (n d k:Nat):sIx n d (some i7)=min k n:=by
 show (kT,i7,0,(i7+iK).toNat,min (i7).toNat n)=min k n;rw[tV,YW]
theorem xv4 (n d:Nat) (hd:d<=n) (o:jt):sIx n d o<=n:=by
 cases o with
 | none=>exact hd
 | some v =>
  show UK<=n;by_cases hv:v<0
  .ext kI hv; omega
  .show(eE,ay hv,Nat.min_le_right _ _)
theorem xms (v:Int) (n d:Nat):zjL=(gM,sIx n d (some v)):=by
 show zjL=(gM UK)
 by_cases hv:v<0
 .simp only [aT hv]; omega
 .simp only [ay hv]; omega
theorem xns (lo hi:jt) (n:Nat):zhZ=(Ov,(gM,sIx n n hi)):=by
 have h1:¬ (rE<0):=aa
 unfold Builtin.Slice.sliceAdjust;simp only[h1,if_false];refine Prod.ext ?_ ?_
 .cases lo with
  | none=>rfl
  | some v=>exact xms v n 0
 .cases hi with
  | none=>rfl
  | some v=>exact xms v n n
theorem xnc (i j:Nat):Builtin.Slice.slicePlaces cH um 1=j-i:=by
 unfold Builtin.Slice.slicePlaces;have h1:rE>0:=aa
 simp only[h1,if_true,Int.ediv_one];ext me
theorem xie {v:Value}{o:jt}{Q:eW jt} (p:IsPart v o) (h:Q o s):wpAny bp A (Builtin.Slice.slicePartIndex v) Q E s:=by
 cases p with
 | none=>exact slicePart_none h
 | int i t=>exact slicePart_int h
theorem xhu {sl:Addr}{vl vu:Value}{lo hi:jt}{n:Nat}{Q:(eW,Int × Int × Nat)} (hs:UW) (pl:zcl) (pu:zcm)
    (h:Q (Ov,1,sIx n n hi-sIx n 0 lo) s):wpAny bp A (Builtin.Slice.sliceApplied (.ref sl) (pure iK)) Q E s:=by
  show(cc,os,hos,hcs,hds,id hs);unfold Builtin.Slice.sliceApplied Builtin.Slice.sliceFields;refine Zf (Zf (Q0 hos hds (x:=vl) rfl (Zf (Q0 hos hds (x:=vu) rfl (Zf (Q0 hos hds (x:=.none) rfl (Zn ?_)))))));refine Zf (slicePart_none ?_);show wpAny _ _ (cK (rE == 0) _ _) _ _ s;rw[ay az];show(bP,xie pl (Zf (xie pu (Zf (Zn ?_)))));show wpAny _ _ (match zhZ with|(lo,hi)=>pure (lo,rE,Builtin.Slice.slicePlaces lo hi 1)) _ _ s;rw[xns lo hi n];show wpAny _ _ (pure (Ov,rE,Builtin.Slice.slicePlaces Ov (gM,sIx n n hi) 1)) _ _ s;rw[xnc];exact Zn h
theorem xqq (xs:gJ) (i k:Nat):((Zu k).filterMap zju).toArray=((xs.toList.drop i).take k).toArray:=by
 have e:zju=fun m=>xs[i+m]?:=by
  funext m;have:(cH+FL*1).toNat=i+m:=aa
  rw[this]
 rw[e];show(pq,pick_run xs i k,Qz);have e2:((m5,xs[x]?)∘(m5,i+x))=fun m=>xs[i+m]?:=rfl;rw[e2] at this;rw[this]
theorem getItem_tuple_cut {t sl:Addr}{items:gJ}{vl vu:Value}{lo hi:jt}{Q:bq} (ht:IsTup s.heap t items) (hs:UW) (pl:zcl) (pu:zcm)
    (hw:¬ (wW=0/\zP=items.size))
    (h:NW (zhF,((Uy).take (zP-wW)).toArray))
    (hsz:cU items.size):wpAny bp A (getItem (.ref t) (.ref sl)) Q E s:=by
  have htake:sizeOk (.seq ((Uy).take (zP-wW)).toArray):=by
    show (cU,((Uy).take (zP-wW)).toArray.size);rw[Z5,Jl,List.length_drop,Jk];omega
  have hj:zP<=items.size:=xv4 _ _ bu hi;show(cc,os,hos,hcs,hds,id hs);have hTs:xR sl "slice":=⟨os,hos,hcs⟩
  unfold getItem
  try with_reducible refine J0 ?_
  first|ext D2|skip
  show(bP,wpAny_sequenceKey ht.typeIs az ?_);refine Zf (Yu (name:=Z3 "__getitem__") ht.typeIs Qb
    (JL Qb ht.typeIs entry_tuple_getitem ?_ (args_tuple_getitem _ _)))
  show wpAny _ _ (Builtin.Tuple.tupleItemsOf (.ref t)>>=_) _ _ s;show(bP,tupleItemsOf_ ht ?_);show(bP,QJ hTs ?_);rw[aT az];show(bP,xhu hs pl pu ?_);have hno:¬ (zfQ=true):=by
    intro q;rw[ZE,ZE] at q;have q1:(gM wW)=0:=Wc q.1.1;have q2:zP-wW=items.size:=Wc q.2;exact hw (zy aa)
  show wpAny _ _ (cK zfQ _ _) _ _ s;rw[ay hno,xqq]
  first
    | exact My (Y8 (Zn SL) htake)
    | exact My (Y8 (Zf (Zn (Zn SL))) htake)
    | exact Zf (My (Y8 (Zn (Zn SL)) htake))
    | exact Zf (My (Y8 (Zn SL) htake))
#check _
#check HT
namespace L2
open PySem PySem.Spec PyProof.Rows
variable {q0:Bool}
noncomputable abbrev TO:=St->(bA Hp (mV jt))
noncomputable def PO (X:Cx) (e:dB Expr) (t:TO):Prop :=
 ∀(pins:List (Addr × Obj)) (s:Shared) (Z:St) (H:Hp) (Q:mV jt),av->BI ->
  wpAny aN X.A (evalPart e X.env) (mW,u,∃ o H',vC/\IsPart u o/\Q o H') X.xe s
noncomputable def xtu:TO:=(EW,Q none H)
noncomputable def xwx (t:TE):TO:=(j7,t Z H fun x H1=>∃ i,IJ/\Q (some i) H1)
theorem xnd {ns:df}:∀{us:aX},Vals (ns.map V.int) us->IntsAre us ns:=by
 induction ns with
 | nil=>intro us r; show(bI,List.map_nil,r,r); ext ia
 | cons n ns ih =>
  intro us r;rw[Zo] at r;cases r with
  | cons r1 r2 =>
   ext mq t r1;ext cR;exact .cons n t (ih r2)
section
variable {X:Cx}{e:Expr}{te:TE}{lo hi:Option Expr}{tl th:TO}{pos p2:Pos}
theorem xfp:PO X none xtu:=by
 intro pins s Z H Q I h;rw[evalPart_none];exact Zn (bD none H I .none h)
theorem xd9 (h:tz):PO X (some e) (xwx te):=by
 intro pins s Z H Q I hw;rw[evalPart_some];show(jJ,h pins s Z H _ I hw,fun u s1 ⟨x,H1,I1,r1,q1⟩=>?_);show(ag,i,rfl,q,q1);ext dZ t r1;exact(bD,some i,H1,I1,KZ,q)
noncomputable def SlR (X:Cx) (r:Ha):Prop :=
 ∀(pins:bj) (s:Shared) (Z:St) (H:Hp) (x:V) (v vl vu:Value) (lo hi:jt) (sl:Addr) (Q:VK),av->tJ->UW->zcl->zcm->r x lo hi H Q ->
  ∃ T id,zgb/\s.TypeIs v T/\wpAny aN X.A (getItem v (.ref sl)) lP X.xe s
noncomputable def tSl (r:Ha) (te:TE) (tl th:TO):TE:=(j7,te Z H fun x H1=>tl Z H1 fun l H2=>th Z H2 fun u H3=>r x l u H3 Q)
theorem xea {r:Ha} (hr:SlR X r) (he:tz) (hl:PO X lo tl) (hu:PO X hi th):PE X (.Subscript e zpb pos) (tSl r te tl th):=by
 intro pins s Z H Q I h;refine Subscript_ (thn (he pins s Z H _ I h) fun v s1 ⟨x,H1,I1,r1,q1⟩=>?_);refine wpAny_Slice (thn (hl pins s1 Z H1 _ I1 q1) fun vl s2 ⟨l,H2,I2,pl,q2⟩=>thn (hu pins s2 Z H2 _ I2 q2) fun vu s3 ⟨u,H3,I3,pu,q3⟩=>?_);rw[evalPart_none];ext vY;have I4:cP H3 TY:=I3.kept (t':=s3.toks) (wH ob FQ);obtain⟨T,id,hT,ht,hg⟩:83:=hr pins TY Z H3 x v vl vu l u s3.heap.objs.size Q I4 r1 (Heap.IsSliceOf.new ..) pl pu q3;show wpAny aN X.A (subscriptTail e zpb v (.ref s3.heap.objs.size)) lP X.xe TY;exact tail_any (ops:=[.ref s3.heap.objs.size,v]) ht hT hg (by with_unfolding_all rfl)
noncomputable def cutV (xs:af) (lo hi:jt):af:=(xs.drop (HT.sIx xs.length 0 lo)).take ((FU xs.length)-Nm)
theorem xhf (xs:af) (lo hi:jt):zo zbG xs.length:=by
 unfold cutV;rw[Jl,List.length_drop];omega
noncomputable def rSlT (K:Zd):Ha:=fun x lo hi H Q=>∃ a xs,kU/\HQ /\
 ¬ (Nm=0/\(FU xs.length)=xs.length)/\(Ax (Cl zbG))
theorem xo9:SlR X (rSlT X.K):=by
 intro pins s Z H x v vl vu lo hi sl Q I rx hs pl pu h;obtain⟨a,xs,rfl,hx,hw,q⟩:84:=h;ext fe;show(jG,r,ht,hz,I.tuple hx);have hlen:its.toArray.size=xs.length:=aB Z5 r.length.symm
 show(lz,⟨83, "tuple",_,Qb.lookup,ht.typeIs,?_⟩,HT.getItem_tuple_cut ht hs pl pu (aB hlen hw) ?_ (aB hlen hz));rw[hlen];refine K5 (UH,.tup (cutV xs lo hi));exact⟨zoO,_,(zjS).take ((FU xs.length)-Nm),IsTup.new _ _⟩
inductive xj9 (K:Zd) (x:V) (y:V) (H:Hp) (Q:VK):Prop
 | mk (a b xs ys) (e_:kU) (r_:ER/\HQ/\(aq,SqT K H b ys,xs≠[],(cU,xs.length+ys.length),ys=[]->(fF a H),ys≠[]->(Ax (Cl (xs++ys)))))
theorem Vals.nil_iff {xs:af}{us:aX} (r:kX):us=[]↔xs=[]:=by
 cases r with
 | nil=>simp
 | cons _ _=>simp
theorem xer:OpR X (binaryOp .Add) (xj9 X.K):=by
 intro pins s Z H x y v u Q I rx ry h;obtain⟨a,b,xs,ys,rfl,rfl,ha,hb,hx,hz,q1,q2⟩:=h;ext fe;ext gE;show(tf,its,r1,p1,I.tuple ha);show(tf,its2,r2,p2,I.tuple hb);refine HT.cat_tup p1 p2 (ao,hx (r1.nil_iff.mp z)) (ao (ux,bb,q1 (r2.nil_iff.mp z))) nX (by rw[<- r1.length,<- r2.length]; exact hz);refine(M8,(UH,.tup (xs++ys)),q2 (fun w=>z (r2.nil_iff.mpr w)) _ De);exact⟨aB Zr hz,_,r1.append r2,IsTup.new _ _⟩
#check _
noncomputable def ixN (n:Nat) (i:Int):dB Nat:=if 0<=i then (zn dQ i.toNat) else (zn,-iK<=i,(i+n).toNat)
noncomputable def atI {α:Type} (xs:bZ) (i:Int):dB α:=(ixN xs.length i).bind fun j=>xs[j]?
theorem xtg {n:Nat}{i:Int}{j:Nat} (h:(ae,ixN n i,j)):(aP,(ae,seqIndex? i n,j),j<n,-iK<=i,dQ):=by
 unfold ixN at h;by_cases h0:0<=i
 .show(gZ,aT h0);by_cases h1:dQ
  .show(zoM,i.toNat,bR (bW,seqIndex_of h0 h1,e) aa aa h1)
  .show(gZ,ay h1); cases h
 .show(gZ,ay h0);by_cases h1:-iK<=i
  .show(zoM,(i+n).toNat,bR (bW,seqIndex_neg aa h1,e) aa h1 aa)
  .show(gZ,ay h1); cases h
theorem xiw {α:Type}{xs:bZ}{i:Int}{v:α} (h:(ae,atI xs i,v)):∃ j,(aq,(ae,seqIndex? i xs.length,j),cO xs v,j<xs.length,-DE<=i,RE):=by
 unfold atI at h;cases e:ixN xs.length i with
 | none=>ext bV e h
 | some j =>
  rw[e] at h;show(j4,h1,h2,h3,h4,xtg e);exact⟨65,j,h1,h,h2,h3,h4⟩
theorem xcc {α:Type}{xs:bZ}{j:Nat}{v:α} (h:cO xs v):(ae,atI xs um,v):=by
 have hj:j<xs.length:=(Zh.mp h).1;have e:(ae,ixN xs.length um,j):=by
  unfold ixN;rw[Lz,Lz]; simp
 unfold atI; ext aQ e h
noncomputable def xts (b:Expr):Prop:=∀ o i,subscripted b false o i=operate [o,i] (getItem o i)
noncomputable def IxR (X:Cx) (r:R2):Prop :=
 ∀(value slice:Expr) (pins:bj) (s:Shared) (Z:St) (H:Hp) (x y:V) (v u:Value) (Q:VK),av->tJ->gb->r x y H Q ->
  subscripted slice false v u=operate [v,u] (getItem v u)->wpAny aN X.A (subscriptTail value slice v u) lP X.xe s
noncomputable def MtR (X:Cx) (id:String) (r:Il):Prop :=
 ∀(pins:List (Addr × Obj)) (s:Shared) (Z:St) (H:Hp) (x:V) (xs:List V) (v:Value) (us:List Value) (Q:VK),Inv X pins Z H s->RelV x v->Vals xs us->r x xs H Q ->
  wpAny aN X.A (vn id (v::us)) lP X.xe s
section
variable {X:Cx}{a b:Expr}{ta tb:TE}{pos:Pos}
theorem xac {r:R2} (hr:IxR X r) (ha:nN) (hb:vF) (hs:xts b):PE X (.Subscript a b pos) Rp:=by
 intro pins s Z H Q I h;exact Subscript_ (binT ha hb I h fun v u s2 x y H2 I2 rx ry q=>hr a b pins s2 Z H2 x y v u Q I2 rx ry q (hs _ _))
inductive rIxL (K:Zd) (x:V) (y:V) (H:Hp) (Q:VK):Prop
 | mk (p xs i v) (e_:eO x p) (r_:zjM PX)
inductive rIxT (K:Zd) (x:V) (y:V) (H:Hp) (Q:VK):Prop
 | mk (p xs i v) (e_:eO x p) (r_:zjM zcx)
inductive rIxS (x:V) (y:V) (H:Hp) (Q:VK):Prop
 | mk (z i c) (e_:x=.str z) (r_:(aP,Co i,cU z.length,(ae,atI z.cps.toList i,c),Q (.str Sa) H))
theorem xay:IxR X (rIxL X.K):=by
 intro value slice pins s Z H x y v u Q I rx ry h hs;obtain⟨p,xs,i,z,rfl,rfl,hq,he,q⟩:=h;ext fe;ext dZ t ry;ext zda hq;obtain⟨j,h1,h2,h3,h4,h5⟩:65:=xiw he;ext zhk;have fin:EP X pins Z Q w s:=bD z H I rw' q
 by_cases h0:0<=i
 .have hj:i.toNat=j:=by
   rw[seqIndex_of h0 h5] at h1;exact ZL.inj h1
  exact item_listR pl.isList h0 aa zmH fin hs
 .have hj:(i+(cQ its.toArray.size)).toNat=j:=by
   rw[seqIndex_neg aa h4] at h1;rw[Z5,<- hl];exact ZL.inj h1
  exact subscriptTail_builtinR (x:=w) pl.isList.typeIs slot_list_getitem.lookup
   (wpAny_getItem_list_neg (Q:=(mW,r,r=w/\EP X pins Z Q r s')) pl.isList aa (by rw[Z5]<;>omega) aa zmH (cp fin)) hs
theorem xaq:IxR X (rIxT X.K):=by
 intro value slice pins s Z H x y v u Q I rx ry h hs;obtain⟨p,xs,i,z,rfl,rfl,hq,he,q⟩:=h;ext fe;ext dZ t ry;show(jG,r,pl,hz,I.tuple hq);obtain⟨j,h1,h2,h3,h4,h5⟩:65:=xiw he;ext zhk;have fin:EP X pins Z Q w s:=bD z H I rw' q
 exact subscriptTail_builtinR (x:=w) pl.typeIs slot_tuple_getitem.lookup
  (getItem_tuple (j:=j) (Q:=(mW,r,r=w/\EP X pins Z Q r s')) pl aa aa (by rw[Z5,<- hl]; exact h1) (by simpa using ew) (cp fin)) hs
theorem xvt:IxR X rIxS:=by
 intro value slice pins s Z H x y v u Q I rx ry h hs;obtain⟨z,i,c,rfl,rfl,hz,he,q⟩:=h;ext Ld;obtain⟨j,h1,h2,h3,h4,h5⟩:65:=xiw he;have hl:z.cps.toList.length=z.length:=cI Str.length
 rw[hl] at h1 h4 h5;have hn:=xfm;exact tail_any (typeIs_str s z t) slot_str_getitem.lookup (getItem_str (c:=c) (by
  have e1:RO (i < -cQ FE):=decide_eq_false aa;have e2:RO (i>=FE):=decide_eq_false aa;rw[e1,e2,Bool.or_false]) (by rw[h1]; simpa using h2) (wB,.str Sa,iH,q)) hs
theorem Inv.lst {pins:bj}{Z:St}{H:Hp}{s:Shared}{p:Addr}{xs:af} (I:av) (h:vd p xs) :
    (zaJ,xX/\(O0 p Mz)/\vc):=by
  show(zbr,I.hok p _ h);exact bD its n r e z
theorem xlh (lo hi:jt) (n:Nat):(bT,(VD).1,(gM,HT.sIx n 0 lo),(bg VD)=(gM,FU n),(bX VD)=1):=by
 refine dH ?_ ?_
 .cases lo with
  | none=>simp[sliceBounds,HT.sIx]
  | some i =>
   ext zeU
   .simp only [h,if_true]<;>omega
   .ext zql
 .cases hi with
  | none=>simp[sliceBounds,HT.sIx]
  | some i =>
   ext zeU
   .simp only [h,if_true]<;>omega
   .ext zql
theorem xj7 (its:aX) (lo hi:jt):slicePick its.toArray lo hi none=((its.drop (HT.sIx its.length 0 lo)).take ((FU its.length)-HT.sIx its.length 0 lo)).toArray:=by
 show(iW,h1,h2,h3,xlh lo hi its.toArray.size);unfold slicePick;rw[h1,h2,h3];simp only[sliceRange_one,pick_run,Z5]<;>rfl
noncomputable def rSlL (K:Zd):Ha:=fun x lo hi H Q=>∃ a xs,kU/\qC/\(Ax (fw H p zbG))
theorem xg7:SlR X (rSlL X.K):=by
 intro pins s Z H x v vl vu lo hi sl Q I rx hs pl pu h;obtain⟨a,xs,rfl,hx,q⟩:83:=h;ext fe;show(jG,r,ht,hz,I.list hx);show(dN,hlen,r.length,⟨83, "list",_,slot_list_getitem.lookup,ht.isList.typeIs,?_⟩);refine wpAny_getItem_list_slice ht.isList hs pl pu .none aj ?_ (by rw[Z5]<;>omega);rw[xj7,<- hlen];refine K5 (UH,.lst (cutV xs lo hi));show(aS,zoO,(bK,_,0,(zjS).take ((FU xs.length)-Nm),gf))
noncomputable def xfc:V->Bool
 | .non=>true
 | mR=>true
 | on=>true
 | mH=>true
 | _=>false
noncomputable def eqV:V->V->Bool
 | .non,.non=>true
 | .bl a,zD=>Fx
 | .bl a,.int b=>(Pu a) == b
 | .int a,zD=>a == (vt 1 0)
 | .int a,.int b=>Fx
 | .str a,.str b=>Fx
 | _,_=>false
theorem xul {A:Around}{s:Shared}{y x:V}{u v:Value} (ry:gb) (rx:tJ) (fy:xfc y=true) (fx:zcB):Z0 A s u v (eqV y x):=by
 cases y with
 | non =>
  ext gE;cases x with
  | non=>ext fe; exact Z0.same _
  | bl b=>ext fe; exact Z0.none_bool b
  | int b=>ext kW; exact Z0.none_int b t
  | str b=>ext kW; exact Z0.none_str b t
  | _=>ext An fx
 | bl a =>
  ext gE;cases x with
  | non=>ext fe; exact Z0.bool_none a
  | bl b=>ext fe; exact Z0.bool_bool a b
  | int b=>show(Cm,Z0.bool_int a b t)
  | str b=>show(Cm,Z0.bool_str a b t)
  | _=>ext An fx
 | int a =>
  ext iC;cases x with
  | non=>ext fe; exact Z0.int_none a t'
  | bl b=>ext fe; exact Z0.int_bool a t' b
  | int b=>show(Cm,Z0.int_int a t' b t)
  | str b=>show(Cm,Z0.int_str a t' b t)
  | _=>ext An fx
 | str a =>
  ext iC;cases x with
  | non=>ext fe; exact Z0.str_none a t'
  | bl b=>ext fe; exact Z0.str_bool a t' b
  | int b=>show(Cm,Z0.str_int a t' b t)
  | str b=>show(Cm,Z0.str_str a t' b t)
  | _=>ext An fx
 | _=>ext An fy
noncomputable def eqU (x:V) (u:Value):Bool:=match u with
 | .none=>eqV .non x
 | .bool b=>eqV (.bl b) x
 | .int i _=>eqV (.int i) x
 | .str z _=>eqV (.str z) x
 | _=>false
theorem xpl {x y:V}{u:Value} (r:gb) (f:xfc y=true):eqU x u=eqV y x:=by
 cases y with
 | non=>ext jR r
 | bl b=>ext jR r
 | int i=>ext Ey
 | str z=>ext Ey
 | _=>ext An f
theorem xi2 {x:V}:(OW,kX->Xt->us.any (eqU x)=xs.any (jP,eqV y x))
 | _,_,.nil,_=>rfl
 | y::xs,u::us,vG,f=>by
  rw[YM,ZE] at f;rw[Yq,Yq,xpl r f.1,xi2 t f.2]
theorem xh0 {A:Around}{s:Shared}{x:V}{v:Value} (rx:tJ) (fx:zcB):(OW,kX->Xt->∀ u∈us,Z0 A s u v (eqU x u))
 | _,_,.nil,_=>fun u hu=>by cases hu
 | y::xs,u::us,vG,f=>fun u' hu=>by
  rw[YM,ZE] at f;rcases dC hu with rfl|hu
  .show(eE,xpl r f.1,xul r rx f.1 fx)
  .exact xh0 rx fx t f.2 u' hu
noncomputable def inV (x:V) (xs:af):Bool:=xs.any fun y=>eqV y x
inductive rIn (K:Zd) (neg:Bool) (x:V) (y:V) (H:Hp) (Q:VK):Prop
 | mk (p xs) (e_:eO y p) (r_:aP (PX\/zcx) zcB Xt (pR (if neg then ! inV x xs else inV x xs)))
theorem xji:qx .In (rIn X.K false):=by
 intro pins s Z H x y v u Q I rx ry h;obtain⟨p,xs,rfl,hq,fx,fs,q⟩:=h;ext gE;rcases hq with hq|hq
 .obtain ⟨its,r,pl,hz⟩:63:=I.list hq;show(zmJ,eqU x,fun w hw=>xh0 rx fx r fs w N7);ext zfe
 .obtain ⟨its,r,pl,hz⟩:63:=I.tuple hq;refine SeqAt.in_tupleAt (eqU x) pl (fun w hw=>xh0 rx fx r fs w N7) (ux mR ?_);ext zfe
theorem xa1:AA "len" (fun xs H Q=>∃ p ys,bT xs KL ziA (mw ys.length)):=by
 intro pins s Z H xs us Q I r h;obtain⟨p,ys,rfl,hq,q⟩:83:=h;ext z6;ext fe;have hn:=xfm;rcases hq with hq|hq
 .show(zoZ,I.list hq);exact Calls.call_len_list pl.isList M3 zgt
 .show(zoZ,I.tuple hq);exact len_tuple pl M3 zgt
theorem xkr:AA "len" (fun xs H Q=>∃ z,bT xs [.str z] (cU z.length) (mw z.length)):=by
 intro pins s Z H xs us Q I r h;show(cc,z,rfl,hz,q,h);ext zkr;have hn:=xfm;exact len_str aa (AN z.length)
theorem xgo:(OE,zcM,∃ p ys,(bT,xs,KL,ziA,∀ l,ou->(fF l zdl))):=by
  intro pins s Z H xs us Q I r h;obtain⟨p,ys,rfl,hq,q⟩:83:=h;ext z6;ext fe;have fin:∀(its:aX),Vals ys its->zbl->∀(h':Heap) (c':Nat),(∀ b o',(ae,s.heap.get? b,o')->(Px o')) ->
      (zmM (VU,none,.seq its.toArray c',#[]))->EP X pins Z Q Gy nu:=fun its r' hz h' c' kp e =>
    (K5,I.laid (t':=s.toks) kp bu (show xbc X.prog X.w _ h' _ (.lst ys) from ⟨hz,bK its c' r' e⟩))
  rcases hq with hq|hq
  . show(jG,r',pl,hz,I.list hq)
    ext zcf;obtain⟨o,ho,hc,⟨n,hd⟩⟩:63:=(pl.isList)
    exact call_list_seq p gg ho hc hd (fM,h',c',kp,fin its r' hz h' c' kp e) M3
  . show(jG,r',pl,hz,I.tuple hq)
    ext zcf;obtain⟨o,ho,hc,⟨n,hd⟩⟩:63:=pl;exact call_list_seq p BA ho hc hd (fM,h',c',kp,fin its r' hz h' c' kp e) M3
noncomputable def tyV (K:Zd) (T:String) (x:V) (H:Hp):Prop:=match x with
  | mH=>T="str"
  | on=>T="int"
  | wx=>(T="list"/\∃ xs,PX)\/(T="tuple"/\∃ o,(ae,K.lookup p,o)/\(IV "tuple")/\zdA) \/
      (T="dict"/\((∃ kvs,sr p)\/∃ kvs,w4 p))\/(T="set"/\∃ S n,aR p (.set S n))
  | _=>False
theorem xvp {pins:bj}{Z:St}{H:Hp}{s:Shared}{T:String}{x:V}{v:Value} (I:av) (r:tJ) (ty:tyV X.K T x H) :
    s.TypeIs v T/\∀ a,(oN a)->∃ ob,(Dk ob)/\ob.dict=none:=by
  cases x with
  | str z =>
    ext dZ t r;cases (dU T "str" ty);show(aS,typeIs_str s z t,fun _ e=>nomatch e)
  | int i =>
    ext dZ t r;cases (dU T "int" ty);show(aS,typeIs_int s i t,fun _ e=>nomatch e)
  | ref p =>
    cases r;rcases ty with⟨rfl,xs,hq⟩|⟨rfl,o,hk,hc,hd⟩|⟨rfl,hk⟩|⟨rfl,S,n,hk⟩
    . obtain⟨its,_,pl,_⟩:63:=I.list hq
      show(fT,pl.isList.typeIs,a,e);cases e;obtain⟨o,n,e,c,hd,_⟩:84:=pl;ext aH o e hd
    . show(fT,⟨o,I.kIn p o hk,hc⟩,a,e)
      cases e;show(aH,o,I.kIn _ o hk,hd)
    . have z:∃ o,(ae,s.heap.get? p,o)/\o.ExactDict:=by
        rcases hk with⟨kvs,hk⟩|⟨kvs,hk⟩
        . ext zfo
        . ext zfo
      ext ag o e ex z;ext zgK
    . obtain⟨o,_,_,_,e,ex,_⟩:123:=I.hok p _ hk
      ext zgK
  | _=>exact JR ty
noncomputable def tBM (K:Zd) (T:String) (r:Il) (to:TE) (t:TA):TE:=(j7,to Z H fun x H1=>tyV K T x H1/\t Z H1 fun xs H2=>r x xs H2 Q)
variable {o e:Expr}{es:List Expr}{to:TE}{t:TA}{name:Str}{apos cpos:Pos}{T id:String}{r:V->List V->Hp->VK->Prop}
theorem xek (pa:PlainAttrs T) (slot:Slot T name id) (hty:typeOf (.builtin id)=pure (.type "method_descriptor")) (hm:MtR X id r) (ho:Kr) (ha:Bh)
    (hbase:F4 name:=by rfl)
    (hfew:((B0 mS).all (fun x=>! ba)&&(MH cpos).all (fun x=>(ba).isSome)
      && (TV mS))=true:=by rfl)
    (hline:F6:=by rfl) (hs:wP:=by rfl) (hplain:(B0 es).any (·.1)=false:=by rfl) :
    PE X (zM name mS) (tBM X.K T r to t):=by
  intro pins s Z H Q I h;refine wpAny_Call_method_late hbase hfew hline rfl (thn (ho pins s Z H _ I h) fun v s1 ⟨x,H1,I1,r1,ty,q1⟩=>?_);show(sQ,h1,h2,xvp I1 r1 ty,⟨86,T,id,pa,slot,hty,h1,h2,?_⟩);have hA:=ha cpos pins s1 Z H1 _ I1 q1;rw[hs] at hA ⊢;refine JF (by show (false||(B0 es).any (·.1))=false; rw[hplain]<;>rfl) (YF ?_);exact thn hA fun us s2 ⟨vs,H2,I2,r2,q2⟩=>hm pins s2 Z H2 x vs v us Q I2 r1 r2 q2
#check _
noncomputable def MtM (X:Cx) (id:String) (r:Il):Prop :=
 ∀(pins:List (Addr × Obj)) (s:Shared) (Z:St) (H:Hp) (x:V) (xs:List V) (v:Value) (us:List Value) (Q:VK),Inv X pins Z H s->RelV x v->Vals xs us->r x xs H Q ->
  wpAny aN X.A (vn id (v::us)) lP X.xe s
theorem Vals.one {x:V}{us:aX} (h:wJ [x]):∃ u,us=[u]/\nR:=by
 cases h with
 | cons r q =>
  cases q;exact cA r
theorem Vals.eraseIdx:∀{xs:af}{us:aX} (i:Nat),kX->Vals (xs.eraseIdx i) (us.eraseIdx i)
 | _,_,_,.nil=>.nil
 | _,_,0,Kf=>t
 | _,_,aY,vG=>.cons r (Vals.eraseIdx i t)
theorem xf4 {α:Type}:∀(l:bZ) (i:Nat),zo (l.eraseIdx i) l.length
 | [],_=>bu
 | cM,0=>QU _
 | _::r,aY=>Nat.succ_le_succ (xf4 r i)
section
variable {X:Cx}{pins:List (Addr × Obj)}{Z:St}{H:Hp}{s:Shared}{l b:Addr}{xs ys zs:List V}
theorem Inv.lset {its its':aX}{n:Nat}{f:gJ->gJ}{t':Nat} (I:av) (hH:ym)
    (e:O0 l Mz) (hf:f its.toArray=its'.toArray) (hv:Vals ys its') (hz:zbl) :
    cP zdl (Wx,s.heap.update l (Ym f)):=by
  show(h9,q,PySem.IsL.update e f,hf);refine I.write (x:=l) (e:=l) (aB hH trivial) gg (fun b' u hb hu=>(QN s.heap (Ym f) (Z1 hb)).trans hu) (gD q) ?_;show(aS,hz,bK its' _ hv q)
theorem Inv.lnew {its:aX}{t':Nat} (I:av) (hv:Vals ys its) (hz:zbl) :
    cP (fw H s.heap.objs.size ys) (Wx,s.heap.push (hR,"list",.seq its.toArray)) :=
  I.laid zbT bu ⟨hz,bK its 0 hv gf⟩
theorem Inv.fresh (I:av):bo s.heap.objs.size:=De
theorem Inv.lstM (I:av) (hH:ym):vc/\(zaJ,xX/\xs.length=its.length/\(O0 l Mz)):=by
 show(zbr,I.hok l _ hH);show(aS,z,bD its n r r.length e)
theorem xql {n:Nat} (h:cU n):Builtin.List.listTooLong n=false:=by
 unfold Builtin.List.listTooLong;exact decide_eq_false aa
#check _
section
variable {X:Cx}
inductive xt3 (x:V) (vs:af) (H:Hp) (Q:VK):Prop
 | mk (l xs y) (e_:KO) (r_:(jc,vs,[y],ym,Hr,Q .non (fw H l Li)))
theorem xdq:MtM X "list.append" xt3:=by
 intro pins s Z H x vs v us Q I rx rv h;obtain⟨l,xs,y,rfl,rfl,hH,hz,q⟩:=h;ext M6
 obtain⟨z,its,n,r,hl,e⟩:=Kk;refine Wi F.slot_list_append (dL e) F.entry_list_append (F.args_list_append_2 _ _) (PySem.list_append l its.toArray n u (kQ Z5)) (fE e);refine(eF,.non,_,I.lset (its':=its++[u]) hH e aj (r.append (.cons ru .nil)) ?_,q);rw[Zr,ZU];omega
inductive xte (x:V) (vs:af) (H:Hp) (Q:VK):Prop
 | mk (l b xs zs) (e_:KO) (r_:(ziy,vs=[.ref b],Q .non (fw H l (xs++zs))))
theorem xo5:MtM X "list.extend" xte:=by
 intro pins s Z H x vs v us Q I rx rv h;obtain⟨l,b,xs,zs,rfl,rfl,hH,hB,hz,q⟩:=h;ext M6
 cases ru;obtain⟨z,its,n,r,hl,e⟩:=Kk;obtain⟨z2,its2,n2,r2,hl2,e2⟩:=I.lstM hB;have hsz:(cU,its.toArray.size+its2.toArray.size):=K1 Z5 Z5
 have hlong:¬ (! its.toArray.isEmpty&&Builtin.List.listTooLong (its.toArray.size+its2.toArray.size))=true:=by
  show(cq,xql hsz,Qy,Z9)
 refine Wi F.slot_list_extend (dL e) F.entry_list_extend (F.args_list_extend_2 _ _)
  (AutoSeq1.list_extend_list_list_0 l its.toArray n b its2.toArray n2 hlong (kQ Z5) aa) (dM e e2)
 refine(eF,.non,_,I.lset (its':=its++its2) hH e aj (r.append r2) ?_,q);rw[Zr];omega
noncomputable def xuu:Il:=fun x vs H Q=>∃ l xs i k y,(aP,KO,vs=[dI],ym,(aq,-FE<=i,i<FE,(ae,seqIndex? i xs.length,k),eZ xs k y,Q y (zpl k)))
theorem xrl:MtM X "list.pop" xuu:=by
 intro pins s Z H x vs v us Q I rx rv h;obtain⟨l,xs,i,k,⟨y,rfl,rfl,hH,h1,h2,hk,hy,q⟩⟩:121:=h;ext M6
 ext LX;obtain⟨z,its,n,r,hl,e⟩:=Kk;show(ag,w,hw,rw',r.get hy);refine Wi F.slot_list_pop (dL e) F.entry_list_pop (F.args_list_pop_2 _ _)
  (MeetsSeq.list_pop_at l its.toArray n i t k w (fitsIndex_both h1 h2) (by rw[Z5,<- hl]; exact hk) (cT Ju hw) (kQ Z5)) (fE e)
 refine(bD,y,_,I.lset (its':=its.eraseIdx k) hH e ?_ (r.eraseIdx k) ?_,rw',q)
 .show(zmG,its.toArray.eraseIdxIfInBounds k=(its.eraseIdx k).toArray)
 .show(cW,xf4 xs k)
inductive rCat (x:V) (y:V) (H:Hp) (Q:VK):Prop
 | mk (l b xs zs) (e_:KO) (r_:ziy ER (Ax (fw H p (xs++zs))))
theorem xur:OpR X (binaryOp .Add) rCat:=by
 intro pins s Z H x y v u Q I rx ry h;obtain⟨l,b,xs,zs,rfl,rfl,hH,hB,hz,q⟩:=h;ext fe;ext gE;obtain⟨z,its,n,r,hl,e⟩:=Kk;obtain⟨z2,its2,n2,r2,hl2,e2⟩:=I.lstM hB;refine PySem.P.add_list e e2 ?_ (K1 Z5 Z5);have ea:its.toArray++its2.toArray=(its++its2).toArray:=aj
 rw[ea];exact(eF,.ref _,_,I.lnew (t':=s.toks) (r.append r2) Lo,q _ I.fresh)
#check _
section
variable {κ:Type} [DecidableEq κ]
noncomputable def valV (kvs:eV) (k:κ):b8:=(kvs.find? fun kv=>eJ iN k).map (·.2)
noncomputable def putK (kvs:eV) (k:κ) (v:V):eV :=
 if (kvs.any Di)=true then OZ (Iv,iN=k,(iN,v)) else kvs++[uz]
noncomputable def xcs (kvs:eV) (k:κ):eV:=kvs.filter fun kv=>dA (iN≠k)
theorem xbq {p:κ × V}{r:eV}{k:κ} (e:aL=k):(ae,valV oI k,bJ):=by simp[valV,YN,e]
theorem xbh {p:κ × V}{r:eV}{k:κ} (e:¬ aL=k):valV oI k=valV r k:=by simp[valV,YN,e]
theorem xdj (k:κ):∀ kvs:eV,(kvs.any Di)=(kO).isSome
 | []=>rfl
 | oI=>by
  rw[Yq];ext Ba
  .simp only [Cw,decide_eq_true e,Bool.true_or,Option.isSome_some]
  .rw [zA,decide_eq_false e,Bool.false_or]; exact xdj k r
theorem xlc (k j:κ) (y:V):∀ kvs:eV,valV (kvs.map zmw) j=(R3).map (m5,if j=k then y else x)
 | []=>rfl
 | oI=>by
  have ih:=xlc k j y r;rw[Zo];by_cases h:aL=k
  .ext kI h;by_cases e:aL=j
   .rw [xbq (p:=(aL,y)) e,Cw,Qq,if_pos (e.symm.trans h)]
   .rw [xbh (p:=(aL,y)) e,zA,ih]
  .ext d8 h;by_cases e:aL=j
   .rw [xbq (p:=p) e,Cw,Qq,ay (ao,h (e.trans z))]
   .rw [xbh (p:=p) e,zA,ih]
theorem xjw (k j:κ) (y:V):∀ kvs:eV,kO=none->valV (kvs++[(k,y)]) j=(DT,j=k,y,R3)
 | [],_=>by
  by_cases e:k=j
  .show(eE,aT e.symm,xbq (p:=(k,y)) e)
  .show(eE,ay (ao,e z.symm),xbh (p:=(k,y)) e)
 | oI,hn=>by
  rw[List.cons_append];have hk:¬ aL=k:=(ao,by show(bV,xbq z,hn))
  rw[xbh hk] at hn;have ih:=xjw k j y r hn;by_cases e:aL=j
  .rw [Cw,Cw,ay (ao,hk (e.trans z))]
  .rw [zA,zA,ih]
theorem xcf (kvs:eV) (k j:κ) (y:V):valV zcp j=(DT,j=k,y,R3):=by
 unfold putK;by_cases a:(kvs.any Di)=true
 .rw [if_pos a,xlc];rw[xdj] at a;by_cases e:j=k
  .obtain ⟨x,hx⟩:=Q6.mp a;rw[FK,e,hx,Qq,bY]
  .ext d8 e;cases R3 with
   | none=>rfl
   | some x=>rw[Qq,ay e]
 .rw [if_neg a];refine xjw k j y kvs ?_;rw[xdj] at a;cases q:kO with
  | none=>rfl
  | some x=>show(b6,q,a,(a rfl).elim)
theorem xbu (kvs:eV) (k:κ) (v:V):(zo,xQ,kvs.length+1):=by
 unfold putK;split
 .rw [Za]; omega
 .rw [Zr,ZD,List.length_nil]; omega
theorem xc1 {kvs:eV}{k:κ} (v:V) (h:kO=none):xQ=kvs++[uz]:=by
 unfold putK;rw[xdj,h];exact if_neg az
theorem RelO.isSome_eq {o:b8}{u:Et} (r:RelO o u):o.isSome=u.isSome:=by
 cases o with
 | none=>cases u with
  | none=>rfl
  | some _=>ext Dp
 | some _=>cases u with
  | none=>ext Dp
  | some _=>rfl
theorem RelO.getD {o:b8}{u:Et}{d:V}{d':Value} (r:RelO o u) (rd:RelV d d'):RelV (o.getD d) (u.getD d'):=by
 cases o with
 | none=>cases u with
  | none=>exact rd
  | some _=>ext Dp
 | some _=>cases u with
  | none=>ext Dp
  | some _=>exact r
theorem KV.val {kvs:eV}{vs:vh} (r:j0) (k:κ):RelO kO (valueAt vs k):=by
 ext TM
 induction r with
 | nil=>exact Jp
 | @cons p q ps qs h t ih =>
  ext zcd;ext Ba
  .show(zgp,valueAt rM k,znL)
  .ext UR;have b:valueAt rM k=valueAt qs k:=znL
   ext cq zA b ih
theorem KV.any {kvs:eV}{vs:vh} (r:j0) (k:κ):(kvs.any fun kv=>eJ iN k)=vs.any Di:=by
 ext TM
 induction r with
 | nil=>rfl
 | cons h t ih=>rw[Yq,Yq,ih,h.1]
theorem KV.repl {kvs:eV}{vs:vh} (r:j0) (k:κ) {y:V}{u:Value} (ry:gb) :
    KV (kvs.map zmw) (vs.map fun kv=>(Iv,iN=k,(iN,u))):=by
  unfold KV at r ⊢
  induction r with
  | nil=>ext ia
  | @cons p q ps qs h t ih =>
    rw[Zo,Zo];ext zdQ;ext zcd;ext Ba
    . ext zoY; ext aS h1 ry
    . rw[ay e,ay (ao,e (h1.trans z))]; ext aS h1 h2
theorem KV.put {kvs:eV}{vs:vh} (r:j0) (k:κ) {y:V}{u:Value} (ry:gb):KV zcp (stored vs k u):=by
 unfold putK stored;rw[r.any k];by_cases e:(vs.any Di)=true
 .rw [FK,FK]; exact r.repl k ry
 .rw [ay e,ay e]; exact Paired.snoc r (cp ry)
theorem KV.drop {kvs:eV}{vs:vh} (r:j0) (k:κ):KV Bi (without vs k):=by
 unfold KV at r ⊢;unfold xcs without
 induction r with
 | nil=>ext ia
 | @cons p q ps qs h t ih =>
  ext zcd;rw[QE,QE];ext Ba
  .have a:¬ (Ep (aL≠k)):=FF
   have b:¬ (Ep (q.1≠k)):=(cI,h1.symm.trans e)
   show(cq,if_neg a,ay b,ih)
  .ext UR;have a:Ep (aL≠k):=FF
   have b:Ep (q.1≠k):=cI e'
   rw[if_pos a,aT b]; show(rS,⟨h1,h2⟩,ih)
theorem KV.keys {kvs:eV}{vs:vh} (r:j0):kvs.map (·.1)=vs.map (·.1):=by
 ext TM
 induction r with
 | nil=>rfl
 | cons h t ih=>rw[Zo,Zo,ih,h.1]
theorem KV.length {kvs:eV}{vs:vh} (r:j0):kvs.length=vs.length:=Y6 r
theorem xll (kvs:eV) (k:κ):zo Bi kvs.length:=rA
#check _
theorem xdc {P:Program}{w:World}{k:Key}{u:Value} (r:zbB):(oa).is k u=true:=by
 cases k with
 | inl i=>ext zdb zh; ext cR; exact xlv P w i t
 | inr x=>show(zdb,Q8 x t); ext cR; exact xlz P w x t
theorem xjh {P:Program}{w:World}:∀{ks:eA}{us:aX},Vals (ks.map kV) us->ItemsAre oa ks us
 | [],_,r=>by show(bI,List.map_nil,r,r); ext ia
 | k::ks,_,r=>by
  rw[Zo] at r;cases r with
  | cons h t=>exact .cons (xdc h) (xjh t)
noncomputable abbrev KT (H:Hp):bA dc qI:=Paired fun p q=>(bT,aL,q.1,aR (bg q) (.tup ((aL).map kV)),RelV bJ (bX q))
theorem KT.val {H:Hp}{kvs:dc}{xs:qI} (r:D9) (k:eA):RelO kO ((R6).map (·.2)):=by
 induction r with
 | nil=>exact Jp
 | @cons p q ps qs h t ih =>
  obtain⟨h1,_,h2⟩:43:=h;ext Ba
  .show(zgp,atKey rM k,zpm)
  .ext UR;have b:atKey rM k=atKey qs k:=zpm
   ext cq zA b ih
theorem KT.repl {H:Hp}{kvs:dc}{xs:qI} (r:D9) (k:eA) {y:V}{u:Value} (ry:gb) :
    KT H (OZ (Iv,iN=k,(iN,y))) (xs.map (putAt k u)):=by
  induction r with
  | nil=>ext ia
  | @cons p q ps qs h t ih =>
    rw[Zo,Zo];ext zdQ;ext iW h1 h2 h3 h;unfold putAt;ext Ba
    . ext zoY; ext aH h1 h2 ry
    . rw[ay e,ay (ao,e (h1.trans z))]; ext aH h1 h2 h3
theorem KT.put {H:Hp}{kvs:dc}{xs:qI} (r:D9) (k:eA) {b:Addr}{y:V}{u:Value} (hb:FB) (ry:gb) :
    KT H zcp (storedH xs k b u):=by
  have e:(kvs.any Di)=(R6).isSome:=by
    rw[xdj,(r.val k).isSome_eq,Y9]
  unfold putK storedH;rw[e];by_cases q:fR R6
  . rw[aT q,aT q]; exact r.repl k ry
  . rw[ay q,ay q]; exact Paired.snoc r (FV hb ry)
theorem KT.keeps {H H':Hp}{kvs:dc}{xs:qI} (r:D9) (ht:∀ b ys,(eR b ys)->(va b ys)):KT H' kvs xs :=
 Paired.mapP r (qS zjK)
section
variable {P:Program}{w:World}{H:Hp}{h:Heap}{a:Addr}
theorem xrv {u:HO} (ok:lS) (e:Rd H a u):xbc P w H h a u:=e.ok ok
theorem xeo {kvs:bw} (ok:lS) (e:Oh):Uu :=
 show xbc P w H h a Lk from xrv ok e
theorem xgz {kvs:bw} (ok:lS) (e:B5):Uu:=xeo ok (.inl e)
theorem xdf {ks:eA} (ok:lS) (e:aR a (.tup (ks.map kV))):(tupleKind oa).is h ks a:=by
 obtain⟨_,its,r,o,h1,h2,n,h3⟩:=(show xbc P w H h a (.tup (ks.map kV)) from ok a _ e)
 exact⟨104,o,its.toArray,n,h1,h2,h3,(Eb,xjh r)⟩
theorem xfb {kvs:dc} (ok:lS) (e:zaa):Dy/\FM /\
    zgY:=by
  obtain⟨z,y,⟨xs,r,o,es,ep,h1,h2,h3,h4,h5⟩⟩:43:=(show xbc P w H h a (.dT kvs) from xrv ok e)
  refine⟨z,y,xs,r,⟨106,o,es,ep,h1,h2,h3,h4,yg,h5⟩⟩;have all:∀{l:dc}{m:qI},KT H l m->∀ x∈m,(tupleKind oa).is h ba cy:=by
    intro l m q
    induction q with
    | nil=>intro x hx; exact nomatch hx
    | @cons p q ps qs hq t ih =>
      intro x hx;rcases dC hx with e|hx
      . ext cR
        exact xdf ok (cT,hq.1,bg hq)
      . exact ih x hx
  exact all r x hx
theorem xkb {kvs:dc} (ok:lS) (e:FC):Dy/\FM /\
    zgY:=xfb ok (.inl e)
#check _
noncomputable def DGet (H:Hp) (a:Addr) (y:V) (r:b8):Prop :=
 (∃ kvs k,Oh/\Tc/\r=kO)\/∃ kvs k b,(aP,zaa,ER,FB,r=kO)
noncomputable def DPut (H:Hp) (a:Addr) (y v:V) (H':Hp):Prop :=
 (∃ kvs k,(aP,B5,Tc,Hc,H'=(gq H a xQ))) \/
 ∃ kvs k b,(aq,FC,ER,FB,Hc,H'=(i5 H a xQ))
theorem DGet.k {H:Hp}{a:Addr}{kvs:bw}{k:Key} (e:B5):DGet H a (kV k) kO:=.inl (eF,kvs,k,.inl e,rfl)
theorem DGet.t {H:Hp}{a b:Addr}{kvs:dc}{k:eA} (e:FC) (eb:FB):DGet H a ug kO:=.inr ⟨104,kvs,k,b,.inl e,rfl,eb,rfl⟩
theorem DPut.k {H:Hp}{a:Addr}{kvs:bw}{k:Key}{v:V} (e:B5) (hl:Hc):DPut H a (kV k) v (gq H a xQ):=.inl ⟨84,kvs,k,e,rfl,hl,rfl⟩
theorem DPut.t {H:Hp}{a b:Addr}{kvs:dc}{k:eA}{v:V} (e:FC) (eb:FB) (hl:Hc) :
    DPut H a ug v (i5 H a xQ):=.inr ⟨105,kvs,k,b,e,rfl,eb,hl,rfl⟩
section
variable {X:Cx}{pins:List (Addr × Obj)}{Z:St}{H:Hp}{s:Shared}{a:Addr}{y v:V}{u r:Value}{o:Option V}{A:Around}{E:Value->Shared->Prop}
theorem Inv.big (I:av):o9 sysModules:=by
 have h:mainGlobals<s.heap.objs.size:=(I.mod.glob.keeps I.bk).lt;exact ZQ az h
theorem xjz {Q:bq} (hu:zZ) (I:av) (g:DGet H a y ud) (ry:gb) (h:(GD,BU,RelV v w')) :
    wpAny aN A (getItem (.ref a) u) Q E s:=by
  rcases g with⟨kvs,k,e,ey,l⟩|⟨kvs,k,b,e,ey,eb,l⟩
  . subst ey
    obtain⟨z,hd,⟨vs,rel,dd⟩⟩:43:=xZ;ext zhA zmr;exact wpAny_getItem_of zg dd.mapOf hw (h w' _ iH rw')
  . ext Ka;obtain⟨z,hd,⟨xs,rel,dd⟩⟩:43:=AX;obtain⟨w',hw,rw'⟩:62:=RelO.some_of (v:=v) (o:=(R6).map (·.2)) zmr;show(ag,p,hp,hp2,Ze.mp hw);refine wpAny_getItem_heap (Yz hu) AM dd hp ?_;show(aQ,hp2,h w' _ iH rw')
theorem d_in {Q:bq} (hu:zZ) (I:av) (g:HM) (ry:gb) (h:∀ s',BU->Q (.bool o.isSome) s') :
    wpAny aN A (compareOp .In u bb) Q E s:=by
  rcases g with⟨kvs,k,e,ey,l⟩|⟨kvs,k,b,e,ey,eb,l⟩
  . subst ey
    obtain⟨z,hd,⟨vs,rel,dd⟩⟩:43:=xZ;refine wpAny_in_of zg hd dd.mapOf ?_;rw[<- Rf,<- l];exact h _ iH
  . ext Ka;obtain⟨z,hd,⟨xs,rel,dd⟩⟩:43:=AX;refine wpAny_in_heap (Yz hu) AM hd dd ?_;ext ziN
theorem xtt {Q:bq} (hu:zZ) (I:av) (g:HM) (ry:gb) (h:∀ s',BU->Q (.bool (! o.isSome)) s') :
    wpAny aN A (compareOp .NotIn u bb) Q E s:=by
  rcases g with⟨kvs,k,e,ey,l⟩|⟨kvs,k,b,e,ey,eb,l⟩
  . subst ey
    obtain⟨z,hd,⟨vs,rel,dd⟩⟩:43:=xZ;ext zpi hd;rw[<- Rf,<- l];exact h _ iH
  . ext Ka;obtain⟨z,hd,⟨xs,rel,dd⟩⟩:43:=AX;refine wpAny_notIn_heap (Yz hu) AM hd dd ?_;ext ziN
theorem xeb {h':Heap}{t':Nat}{ob:HO} (I:av) (mu:Mut (H a)) (hs:Jq a s.heap h') (he:∃ q,HG q) (new:xbc X.prog X.w (eQ a ob) h' a ob) :
    cP (eQ a ob) BL :=
  I.write (x:=a) (e:=a) mu gg (fun b q hb z=>(hs.2 b hb).trans z) he new
theorem xig {P:Program}{w:World}{H':Hp}{h':Heap}{kvs:bw}{vs:OQ} (z:Dy) (hd:FM) (rel:j0) (dd:h'.DictOf oa a vs) :
    xbc P w H' h' a Lk:=⟨z,hd,vs,rel,dd⟩
theorem xjj {H':Hp}{Q:yj} (hu:zZ) (I:av) (g:DPut H a y v H') (ry:gb) (rv:RelV v r) (h:OY vC) :
    wpAny aN A (setItem bb u r) Q E s:=by
  rcases g with⟨kvs,k,e,ey,l,eH⟩|⟨kvs,k,b,e,ey,eb,l,eH⟩
  . subst ey eH
    obtain⟨z,hd,⟨vs,rel,dd⟩⟩:43:=zdz;show(zeS,wpAny_setItem_pairs (hsz:=hz) zg dd Nl);show(TW,hl,rel.put k rv)
  . subst ey eH
    ext WO;obtain⟨z,hd,⟨xs,rel,dd⟩⟩:43:=zdy;show(zfJ,wpAny_setItem_heap (hsz:=hz) (Yz hu) AM dd Nl);obtain⟨q,es,ep,hq,h2,h3,h4,_,h5⟩:106:=dd';refine xeb I yo hs Sf ⟨hl,hd,_,(rel.put k eb rv).keeps (aK c ys ec),⟨105,q,es,ep,hq,h2,h3,h4,h5⟩⟩;show(cE,xdb ec e dF,ec)
#check _
section
variable {X:Cx}{pins:List (Addr × Obj)}{Z:St}{H:Hp}{s:Shared}{a:Addr}{kvs:List (Key × V)}{k:Key}{u:Value}{A:Around}{E:Value->Shared->Prop}
theorem xxj {v:V}{more:aX}{Q:bq} (I:av) (e:B5) (ry:zbB) (l:Kn) (hm:more=[]\/∃ x,more=[x])
    (h:(GD,cP (gq H a Bi) s',RelV v w')):wpAny aN A (vn "dict.pop" (bb::u::more)) Q E s:=by
  obtain⟨z,hd,⟨vs,rel,dd⟩⟩:43:=zdz;show(zhA,(by rw[<- l]; exact rel.val k));have hp:fR (keyPart u):=by
    cases k with
    | inl i=>show(gK,t,PD zh ry); subst q; rfl
    | inr x=>show(gK,t,(PD,Q8 x t,ry)); subst q; rfl
  have ha:argsOk "dict.pop" (jB,bb::u::more):=by
    rcases hm with q|⟨x,q⟩
    . subst q; exact PySem.F.args_dict_pop_2 _ _
    . subst q; exact PySem.F.args_dict_pop_3 _ _ _
  refine YU Qe dd.typeIs PySem.F.entry_dict_pop ha (meets_dict_pop_there nB a zg more hm hp)
    ⟨84,vs,w',dd,cT rel.length z,hw,fun h' dd' hs=>h w' _ ?_ rw'⟩
  show(TW,ZN (xll kvs k) z,rel.drop k)
theorem xw7 {Q:bq} (I:av) (e:Oh) (h:∀ t s',BU->Q (.int kvs.length t) s'):wpAny aN A (vn "len" jN) Q E s:=by
 obtain⟨z,hd,⟨vs,rel,dd⟩⟩:43:=xZ;refine call_len_dict hd dd (by rw[<- rel.length]; rw[QT] at z; omega) ?_;show(kh,rel.length,h _ _ iH)
#check _
noncomputable def NoSl (i:Expr):Prop:=∀ ov iv,subscripted i false ov iv=operate [ov,iv] (getItem ov iv)
theorem xsz {prog:Program}{w:World}{A:Around}{E:bq}{s:Shared}{env:Env}{value slice:Expr}{pos:Pos}{T id:String}{Q:bq}
    (hl:zgb) (hs:NoSl slice)
    (h:wpAny bp A (eval value env) (fun o s₁=>wpAny bp A (eval slice env) (eK,s₂,s₂.TypeIs o T/\wpAny bp A (getItem o i) Q E s₂) E s₁) E s) :
    wpAny bp A (eval (.Subscript value slice pos) env) Q E s:=by
  refine Subscript_ (Jh h (fun o s₁ h₁=>Jh h₁ (aK i s₂ h₂) fun _ _ x=>x) fun _ _ x=>x);obtain⟨hT,h₂⟩:=h₂;unfold subscriptTail;ext Fo;rw[getitemInPython_of_ne hT.not_modules];show(bP,wpAny_specialOf hT hl ?_);have fin:wpAny bp A (subscripted slice false o i) (fun r s₃=>wpAny bp A (letTemporaryGo value o r>>=fun _=>pure r) Q E s₃) E s₂:=by
    rw[hs o i];exact wpAny_operating (Jh h₂ (fun r s₃ h₃=>Zf (wpAny_letTemporaryGo (Zn h₃))) fun _ _ x=>x)
  first
    | exact Zn (Zf fin)
    | exact Zf (Zn (Zf fin))
    | exact Zf fin
theorem xly {X:Cx}{pins:bj}{Z:St}{H:Hp}{s:Shared}{a:Addr}{y:V}{o:b8} (I:av) (g:HM):xR a "dict":=by
 rcases g with⟨kvs,k,e,_,_⟩|⟨kvs,k,b,e,_,_,_⟩
 .ext zkz vs xZ
 .ext zkz xs AX
inductive xtd (x y:V) (H2:Hp) (Q:VK):Prop
 | mk (a v) (e_:kU) (r_:(K3 ud)/\Q v H2)
noncomputable def xw3 (td ty:TE):TE:=(j7,td Z H fun x H1=>(zaN,xtd x y H2 Q))
inductive xu3 (x y:V) (H2:Hp) (Q:VK):Prop
 | mk (a o) (e_:kU) (r_:(K3 o)/\Q (.bl o.isSome) H2)
noncomputable def tDIn (ty td:TE):TE:=W3 (zaH,xu3 x y H2 Q)
inductive xn3 (x y:V) (H2:Hp) (Q:VK):Prop
 | mk (a o) (e_:kU) (r_:(K3 o)/\Q (.bl (! o.isSome)) H2)
noncomputable def xsn (ty td:TE):TE:=W3 (zaH,xn3 x y H2 Q)
noncomputable def xxu (td ty tv:TE):TS:=(mr,tv Z H fun v H1=>(zaH,ty Z H2 fun y H3=>∃ a H4,kU/\DPut H3 a y v H4/\D.nx Z H4))
noncomputable def xwn (td ty tv:TE) (rd:IM):TS:=fun D Z H=>td Z H fun x H1=>ty Z H1 fun y H2=>∃ a v,kU/\(K3 ud) /\
 tv Z H2 fun y2 H3=>rd v y2 H3 fun z H4=>∃ H5,DPut H4 a y z H5/\D.nx Z H5
section
variable {X:Cx}{o i e value:Expr}{pos pos' tpos:Pos}{td ty tv:TE}
theorem xbt (hu:wV) (ho:vH) (hi:EC) (hs:NoSl i):PE X (.Subscript o i pos) (xw3 td ty):=by
 intro pins s Z H Q I h;refine xsz PySem.F.slot_dict_getitem.lookup hs (thn (ho pins s Z H _ I h) fun u s1 ⟨x,H1,I1,rx,q1⟩=>thn (hi pins s1 Z H1 _ I1 q1) fun iv s2 ⟨y,H2,I2,ry,a,v,ex,g,q2⟩=>?_);ext qy;show(aS,xly I2 g,xjz hu I2 g ry (O1,bD v H2 I3 rw' q2))
theorem xet (hu:wV) (hi:EC) (ho:vH):PC X .In i o (tDIn ty td):=by
 intro pins s Z H Q I h;show(jJ,hi pins s Z H _ I h,fun iv s1 ⟨y,H1,I1,ry,q1⟩=>thn (ho pins s1 Z H1 _ I1 q1) fun u s2 ⟨x,H2,I2,rx,a,ov,ex,g,q2⟩=>?_);ext qy;exact d_in hu I2 g ry fun s3 I3=>(eF,.bl ov.isSome,H2,I3,q2)
theorem xdr (hu:wV) (hi:EC) (ho:vH):PC X .NotIn i o (xsn ty td):=by
 intro pins s Z H Q I h;show(jJ,hi pins s Z H _ I h,fun iv s1 ⟨y,H1,I1,ry,q1⟩=>thn (ho pins s1 Z H1 _ I1 q1) fun u s2 ⟨x,H2,I2,rx,a,ov,ex,g,q2⟩=>?_);ext qy;exact xtt hu I2 g ry fun s3 I3=>(eF,.bl (! ov.isSome),H2,I3,q2)
theorem xcw (hu:wV) (ho:vH) (hi:EC) (hv:zbE) (hs:Nk value zqi) :
    OH zqi value (xxu td ty tv):=by
  intro pins s Z H D I h;refine wpAny_Assign_Subscript (thn (hv pins s Z H _ I h) fun r s1 ⟨v,H1,I1,rv,q1⟩=>thn (ho pins s1 Z H1 _ I1 q1) fun u s2 ⟨x,H2,I2,rx,q2⟩=>thn (hi pins s2 Z H2 _ I2 q2) fun iv s3 ⟨y,H3,I3,ry,a,H4,ex,g,q3⟩=>?_) hs;ext qy;exact xjj hu I3 g ry rv fun s4 I4=>bK Z H4 I4 q3
theorem xmt {op:Operator}{rd:IM} (hu:wV) (ho:vH) (hi:EC) (hv:zbE) (hop:InOp X op rd)
    (ha:∀ ov iv new,augStore i ov iv new=(do holding [new,ov,iv] (setItem ov iv new); release [new,ov,iv] []; pure .next)):PS X (.AugAssign (.Subscript o i tpos) op value pos) (xwn td ty tv rd):=by
  intro pins s Z H D I h;refine wpAny_AugAssign_SubscriptAny (thn (ho pins s Z H _ I h) fun u s1 ⟨x,H1,I1,rx,q1⟩=>thn (hi pins s1 Z H1 _ I1 q1) fun iv s2 ⟨y,H2,I2,ry,a,v,ex,g,q2⟩=>?_) ha;ext qy;refine xjz hu I2 g ry (O1,thn (hv pins s3 Z H2 _ I3 q2) fun w2 s4 ⟨y2,H3,I4,ry2,q3⟩=>thn (hop pins s4 Z H3 v y2 w' w2 _ I4 rw' ry2 q3) fun w3 s5 ⟨z,H4,I5,rz,H5,g5,q4⟩=>?_);exact xjj hu I5 g5 ry rz fun s6 I6=>bK Z H5 I6 q4
#check _
theorem xhq {P:Program}{w:World}{H:Hp} (h:Heap) (hb:znN):xbc P w H zkF h.objs.size (.dK []) :=
 (zgA,Heap.DictOf.new h)
theorem xlu {P:Program}{w:World}{H:Hp} (h:Heap) (hb:znN):xbc P w H zkF h.objs.size (.dT []) :=
 zgA ⟨105,_,#[],0,gf,PN,rfl,rfl,YD⟩
noncomputable def xuo:TE:=(EW,Ax (gq H p []))
noncomputable def xv1:TE:=(EW,Ax (i5 H p []))
section
variable {X:Cx}{pos:Pos}
theorem xe0:PE X (.Dict [] [] pos) xuo:=fun pins s Z H Q I h =>
 (zeP,.dK [],xhq s.heap I.big)
theorem xex:PE X (.Dict [] [] pos) xv1:=fun pins s Z H Q I h =>
 (zeP,.dT [],xlu s.heap I.big)
#check _
noncomputable def xlj:IH->St->(bA Hp (mV KR))
 | [],_,H,Q=>Q [] H
 | (tk,tv)::r,Z,H,Q=>tk Z H fun x H1=>tv Z H1 fun y H2=>xlj r Z H2 fun ps H3=>Q ((x,y)::ps) H3
noncomputable abbrev VV:bA KR (fS Value Value):=Paired fun p q=>RelV aL q.1/\RelV bJ q.2
noncomputable def PPs (X:Cx) (pos:Pos) (keys:Xf) (values:jY) (trs:IH):Prop :=
 ∀(pins:List (Addr × Obj)) (s:Shared) (Z:St) (H:Hp) (Q:mV KR),av->xlj trs Z H Q ->
  wpAny aN X.A (evalPairs (pairTrees keys values X.env pos)) (mW,vs,∃ ps H',vC/\VV ps vs/\Q ps H') X.xe s
theorem xst {X:Cx}{pos:Pos}:PPs X pos [] [] []:=fun pins s Z H Q I h=>pairTrees_nil_walk (bD [] H I .nil h)
theorem xkv {X:Cx}{pos:Pos}{k v:Expr}{ks:Xf}{vs:jY}{tk tv:TE}{trs:IH} (hk:PE X k tk) (hv:PE X v tv) (hr:PPs X pos ks vs trs) :
    PPs X pos (some k::ks) (v::vs) ((tk,tv)::trs):=fun pins s Z H Q I h =>
  pairTrees_cons_walk (thn (hk pins s Z H _ I h) fun u s1 ⟨x,H1,I1,rx,q1⟩=>thn (hv pins s1 Z H1 _ I1 q1) fun w2 s2 ⟨y,H2,I2,ry,q2⟩ =>
    thn (hr pins s2 Z H2 _ I2 q2) fun ws s3 ⟨ps,H3,I3,rel,q3⟩=>(bD,(x,y)::ps,H3,I3,.cons ⟨rx,ry⟩ rel,q3))
noncomputable def xez (kvs more:bw):bw:=more.foldl (fun acc kv=>putK acc iN kv.2) kvs
theorem KV.merge:∀{more:bw}{rs:OQ}{kvs:bw}{vs:OQ},KV more rs->j0->KV (xez kvs more) (merged vs rs):=by
 intro more rs kvs vs r;ext TM
 induction r generalizing kvs vs with
 | nil=>intro q; exact q
 | @cons p q ps qs h t ih =>
  intro r0;have e:KV zaZ (stored vs q.1 q.2):=by
   have:=r0.put aL h.2;show(kh,h.1,this)
  exact ih e
theorem xf3:∀(more kvs:bw),(zo,xez kvs more,kvs.length+more.length)
 | [],kvs=>(vx,kvs.length<=kvs.length+0)
 | oI,kvs=>by
  show(ah,h1,xf3 r zaZ,h2,xbu kvs aL bJ);show zo (xez zaZ r) _;rw[ZD]; omega
theorem xif {P:Program}{w:World}:∀{kvs:bw}{ws:fS Value Value},VV (kvs.map (jQ kv Kd kv.2)) ws->∃ rs,Carries oa ws rs/\KV kvs rs
 | [],_,r=>by show(bI,List.map_nil,r,r); show(aH,[],Jp,.nil)
 | p::kvs,_,r=>by
  rw[Zo] at r;cases r with
  | @cons a b as bs h t =>
   show(ag,rs,c,q,xif (P:=P) (w:=w) t);obtain⟨b1,b2⟩:=b;show(aH,(aL,b2)::rs,(eX,xdc h.1,c),.cons (cp h.2) q)
noncomputable def xxc (trs:IH):TE:=(j7,∀ p,rF->xlj trs Z (gq H p []) fun ps H2=>(zdx p [])/\∃ kvs:bw,ps=kvs.map (jQ kv Kd kv.2)/\kvs.length<=15/\(fF p (gq H2 p (xez [] kvs))))
theorem xt4 {X:Cx}{pos:Pos}{keys:Xf}{values:jY}{trs:IH} (h:PPs X pos keys values trs) (hall:keys.all (·.isSome)=true) (hl:keys.length=values.length) (h0:keys≠[])
    (h15:keys.length<=15):PE X (.Dict keys values pos) (xxc trs):=by
  intro pins s Z H Q I q;show(ah,hn,I.hok.fresh (Zk s.heap.objs.size),I1,I.laid (a:=s.heap.objs.size) (o:=.dK []) (h':=US) (t':=s.toks) zbT bu (xhq s.heap I.big));refine wpAny_Dict_walk (knd:=nB) hall hl h0 h15 (thn (h pins _ Z _ _ I1 (q _ hn)) fun ws s2 ⟨ps,H2,I2,rel,e,kvs,ep,lk,q2⟩=>?_);subst ep;show(ag,rs,c,rk,xif (P:=X.prog) (w:=X.w) rel);obtain⟨z,hd,⟨vs0,r0,dd⟩⟩:43:=xgz I2.hok e;cases r0;refine(bS,rs,c,dd,fun h' dd' hs=>M8 ?_ q2);have hz:(cU,(xez [] kvs).length):=by
    show(h9,h1,xf3 kvs [],List.length_nil);rw[QT]; omega
  show(jF,he,∃ q,zmM q,let ⟨q,_,_,hq,_⟩:=dd'; Sf,xeb I2 yo hs he (xig hz hd (rk.merge .nil) dd'))
structure M1 (X:Cx) (o:Expr) (m:Str) (apos:Pos) (e:Expr) (cpos:Pos):Prop where
 base:F4 m
 few:((B0 [e]).all (fun x=>! ba)&&(MH cpos).all (fun x=>(ba).isSome)
  && (TV ([e]:jY)))=true
 line:F6
 trees:(B0 [e])=[nJ e]
structure M2 (X:Cx) (o:Expr) (m:Str) (apos:Pos) (e f:Expr) (cpos:Pos):Prop where
 base:F4 m
 few:((B0 [e,f]).all (fun x=>! ba)&&(MH cpos).all (fun x=>(ba).isSome)
  && (TV ([e,f]:jY)))=true
 line:F6
 trees:(B0 [e,f])=[nJ e,nJ f]
noncomputable def IsD (H:Hp) (a:Addr):Prop:=(∃ kvs,Oh)\/∃ kvs,zaa
theorem xim {X:Cx}{pins:bj}{Z:St}{H:Hp}{s:Shared}{a:Addr} (I:av) (d:IsD H a) :
    (xR a "dict")/\(gY,(eO,Zq a,b),∃ ob,(ae,s.heap.get? b,ob)/\ob.dict=none)/\FM:=by
  rcases d with⟨kvs,e⟩|⟨kvs,e⟩
  . ext zeh vs xZ
  . ext zeh xs AX
section
variable {X:Cx}{pins:List (Addr × Obj)}{Z:St}{H:Hp}{s:Shared}{a:Addr}{y d:V}{u r:Value}{o:Option V}{A:Around}{E:Value->Shared->Prop}
theorem xvh {Q:bq} (hu:zZ) (I:av) (g:HM) (ry:gb) (h:(GD,BU,RelV (o.getD .non) w')) :
    wpAny aN A (vn "dict.get" [bb,u]) Q E s:=by
  rcases g with⟨kvs,k,e,ey,l⟩|⟨kvs,k,b,e,ey,eb,l⟩
  . subst ey
    obtain⟨z,hd,⟨vs,rel,dd⟩⟩:43:=xZ;refine YU Ye dd.typeIs YY zle (meets_dict_get nB a zg hd) zma;rw[l];exact (Kw).getD rfl
  . ext Ka;obtain⟨z,hd,⟨xs,rel,dd⟩⟩:43:=AX;refine YU Ye dd.typeIs YY zle (meetsH_dict_get PV a b hd) zhv;rw[l];exact (Kw).getD rfl
theorem xu4 {Q:bq} (hu:zZ) (I:av) (g:HM) (ry:gb) (rd:RelV d r) (h:(GD,BU,RelV (o.getD d) w')) :
    wpAny aN A (vn "dict.get" [bb,u,r]) Q E s:=by
  rcases g with⟨kvs,k,e,ey,l⟩|⟨kvs,k,b,e,ey,eb,l⟩
  . subst ey
    obtain⟨z,hd,⟨vs,rel,dd⟩⟩:43:=xZ;refine YU Ye dd.typeIs YY zkp (meets_dict_get_default nB a zg hd r) zma;rw[l];exact (Kw).getD rd
  . ext Ka;obtain⟨z,hd,⟨xs,rel,dd⟩⟩:43:=AX;refine YU Ye dd.typeIs YY zkp (meetsH_dict_get_default PV a b hd r) zhv;rw[l];exact (Kw).getD rd
#check _
noncomputable def xvs (td ty:TE):TE:=(L9,∃ o,(K3 o)/\Q (o.getD .non) H2)
noncomputable def xv7 (td ty tx:TE):TE:=(L9,tx Z H2 fun z H3=>∃ o,DGet H3 a y o/\Q (o.getD z) H3)
noncomputable def xv5 (td ty:TE):TE:=(L9,∃ kvs k v,(aP,zdx a kvs,Tc,Kn,Q v (gq H2 a Bi)))
section
variable {X:Cx}{o e f:Expr}{apos cpos:Pos}{td ty tx:TE}
theorem xqb (hu:wV) (ho:vH) (he:SI) (m:M1 X o "get" apos e cpos):PE X (zM "get" [e]) (xvs td ty):=by
 intro pins s Z H Q I h;refine Q2 m.base m.few m.line JQ Ye PySem.F.type_dict_get (thn (ho pins s Z H _ I h) fun u s1 ⟨x,H1,I1,rx,a,ex,d,q1⟩=>?_);ext qy;show(Be,t1,t2,xim I1 d);ext im t1 t2;rw[m.trees];refine JF rfl (YF (Yd (thn (he pins s1 Z H1 _ I1 q1) fun iv s2 ⟨y,H2,I2,ry,ov,g,q2⟩=>YA ?_)));exact xvh hu I2 g ry (O1,bD _ H2 I3 rw' q2)
theorem xlb (hu:wV) (ho:vH) (he:SI) (hf:PE X f tx) (m:M2 X o "get" apos e f cpos):PE X (zM "get" [e,f]) (xv7 td ty tx):=by
 intro pins s Z H Q I h;refine Q2 m.base m.few m.line JQ Ye PySem.F.type_dict_get (thn (ho pins s Z H _ I h) fun u s1 ⟨x,H1,I1,rx,a,ex,d,q1⟩=>?_);ext qy;show(Be,t1,t2,xim I1 d);ext im t1 t2;rw[m.trees];refine JF rfl (YF (Yd (thn (he pins s1 Z H1 _ I1 q1) fun iv s2 ⟨y,H2,I2,ry,q2⟩ =>
  Yd (thn (hf pins s2 Z H2 _ I2 q2) fun fv s3 ⟨z,H3,I3,rz,ov,g,q3⟩=>YA ?_))))
 exact xu4 hu I3 g ry rz fun w' s4 I4 rw'=>bD _ H3 I4 rw' q3
theorem xqw (ho:vH) (he:SI) (m:M1 X o "pop" apos e cpos):PE X (zM "pop" [e]) (xv5 td ty):=by
 intro pins s Z H Q I h;show(zeB,Q2 m.base m.few m.line JQ Qe PySem.F.type_dict_pop (thn (ho pins s Z H _ I h) fun u s1 ⟨x,H1,I1,rx,a,ex,d,q1⟩=>?_),he pins s1 Z H1 _ I1 q1,fun iv s2 ⟨y,H2,I2,ry,kvs,k,v,ea,ey,l,q2⟩=>YA ?_);exact xxj I2 ea ry l gg zmT
#check _
#check L2
namespace Att
open PySem PySem.W PySem.Calls PyProof.Rows
theorem xic {P:Params}{h:Heap}:∀(ns:df) (vs:aX),WellAll P h vs (ns.map WData.int)->HC:=by
 intro ns
 induction ns with
 | nil =>
  intro vs w;show(bI,List.map_nil,w,w);ext ia
 | cons n ns ih =>
  intro vs w;rw[Zo] at w;cases w with
  | cons a b =>
   cases a;exact .cons _ _ (ih _ b)
theorem xn9 {l:OpenLaw}{n:Nat} (hn:zbF) {P:Params}{h:Heap}{args:List WData}{vals:aX}
    (hpre:l.row.toRowW.claim.pre args=true) (hwl:WellAll P h vals args) :
    ∃ a vs ns,(aq,vals=[Zq a],args=[WData.list (ns.map WData.int)],kM ML,HC,P9):=by
  have hsh:WShape.hasAll [] args [.list .int]=true:=(pre_splitW hpre).1;have hc:l.pre.holds [] { args:=args }=true:=(pre_splitW hpre).2;obtain⟨d,r,rfl,h1,h2⟩:83:=hasAllW_cons hsh;show(oC,hasAllW_nil h2);show(ag,xs,rfl,h3,hasW_list h1);show(dZ,ns,items_int h3);have hlen:P9:=by
    unfold OpenLaw.pre at hc;have h4:(WTm.not (.lt (.lit (.int iK)) (.len (.arg 0)))).holds [] { args:=[.list (ns.map .int)] }=true:=by
      have h4:=(holds_andW hc).1;ext b6 hn h4 h4
    have h5:=condW_of h4 (w_not (w_lt w_lit (w_len_list (w_arg rfl))));rw[Za] at h5;refine QD (du q);have q':iK<(gM ns.length):=aa
    first
      | (show(tX,AQ q',h5,h5,az))
      | (simp at h5; omega)
  cases hwl with
  | cons w1 w2 =>
    cases w2;cases w1 with
    | list ho hall=>exact⟨105,_,_,ns,rfl,rfl,ho,xic ns _ hall,hlen⟩
theorem xoh (l:OpenLaw) (args:List WData):l.row.toRowW.claim.post args IN args=true :=
 postW_of (r:=l.row.toRowW) (X:=(true == true))
  (show WShape.has [] IN .bool=true by first|rfl|decide|simp[WShape.has,WShape.arms,WShape.armsAll])
  (dU,(WTm.eq .res (.lit (.bool true))).value [] { args:=args,res:=some (.bool true),after:=args },some (.bool (true == true)),w_eq_bool (w_res rfl) w_lit) rfl
theorem attach_call {l:OpenLaw}{n:Nat}{q:Program}{loose:ap}{XP:zcy}{YP:zaw}{d:DefRec}
    (hn:zbF) (hdf:WJ)
    (call:∀(w:World) (s₀ s₁:Shared) (mg mb:fO) (fa:Addr) (o:Obj) (pm cd doc:Value) (a:Addr) (vs:aX) (ns:df),
      Ground q loose [] XP w s₀ mg mb s₁.heap->YP w s₁.heap ->
      (ae,s₁.heap.get? fa,o)->o.data=.func (docDef d.name d.params d.body d.scope pm cd doc)->s₁.heap.CodeRec cd d.name->zbc ->
      zls->HC->P9->s₁.gens=#[] ->
      (TN (model l.prog w))) :
    WalkO q loose XP YP l.row.toRowW d [] Vp:=by
  intro w s₀ s₁ mg mb G Y fa o pm cd doc dV kV ho hd hcd hD hmg hg args vals as hpre hlay hrd hwl hlo;show(jD,dV=.none,Dflts.none hD hdf);show(jD,kV=.none,Dflts.noKw hD);obtain⟨a,vs,ns,rfl,rfl,hobj,hints,hlen⟩:105:=xn9 hn hpre hwl;refine enter_call (Qt (call w s₀ s₁ mg mb fa o pm cd doc a vs ns G Y ho (fd_plain hd) hcd hmg hobj hints hlen hg) (aK r s' hq));show(j4,rfl,h2,h3,h4,hq);exact(bR,.inl ⟨105,IN,IN,[],rfl,pB,IN,xoh l _,fun _=>⟨Jt.nil,fun _ hm=>(nomatch hm)⟩⟩,h2,h3,h4)
section
variable {prog:Program}{w:World}{A:Around}{E:Value->Shared->Prop}{s:Shared}{K:Frag}
noncomputable def xyb (h:Heap) (L d:Addr):bj:=(zbk).filterMap fun a=>if a=L\/a=d then none else (h.get? a).map fun o=>(a,o)
#check _
#check Att
namespace L2
open PySem PySem.Spec PyProof.Rows
variable {q0:Bool}
theorem xjg:∀{vs:aX}{ns:df},HC->Vals (ns.map V.int) vs
 | _,_,.nil=>.nil
 | _,_,.cons n t h=>.cons (ld t) (xjg h)
noncomputable def Only (H:Hp):Prop:=∀ b,cZ\/∃ o xs,aR b (.frz o (.lst xs))
theorem xp8 {P:Program}{w:World}{K:Zd}{mg mb:fO}{CX:CXT}{k:Nat}{fa a:Addr}{fd:FuncData}{x:Str}{sp:Sp}{s₁:Shared}{vs:aX}{ns:df}
    (KX:K.In s₁.heap) (hns:s₁.heap.Ns mainGlobals mg) (hb:s₁.heap.Ns builtinsNs mb) (hbb:zhC) (hlim:s₁.heap.NoLimit) (hg:s₁.gens=#[])
    (ha:zls) (hi:HC) (hl:cU ns.length) (hr:Room q0 k callerA)
    (F:(Ml,K.In base,FnOk q0 P w K mg base CX k fa fd [x] sp)) (hbind:Uj x)
    (hsp:∀ H:Hp,Only H->PP->sp jN H zoe G1)
    (hCX:∀ H e s',CX [] H s₁ G1 e s'->False) :
    TN yk:=by
  show(ah,rv,xjg hi,lenV,hi.length)
  -- from an abstract heap in which nothing but the script may be tracked
  have core:∀ H:Hp,Only H->PP->HOk P w H s₁.heap->(∀ b,H b≠none->b=a)->(H a≠none->K.lookup a=none) ->
      (TN yk):=by
    intro H hO hS hok hA hK;show(bC,base_of,∀{b:Addr}{o:Obj},zqe cZ (ae,(Oj).get? b,o),e,n,xre e n);have noA:∀{b:Addr}{o:Obj}{es:o6}{ep:Nat},zqe kJ cZ:=fun {b o es ep} e d=>by
      cases q:H b with
      | none=>rfl
      | some u =>
        have e':b=a:=hA b (jr q);ext rD e' ha e;have d':Data.seq vs.toArray _=Data.dict es ep:=d;cases d'
    have nsK:∀{b:Addr}{m:fO},s₁.heap.Ns b m->(Oj).Ns b m:=fun {b m} ⟨o,es,ep,e,d,r⟩=>⟨103,o,es,ep,base_of e (noA e d),d,r⟩
    have hKb:K.In (hidT s₁.heap H):=fun b o e=>base_of (KX b o e) (by
      cases q:H b with
      | none=>rfl
      | some u =>
        have e':b=a:=hA b (jr q);subst e';show(bV,hK (jr q),e))
    have hM:Mod K mg Oj:=⟨hKb,nsK hns,⟨mb,nsK hb,hbb⟩,let ⟨mc,h1,h2⟩:=hlim; ⟨mc,nsK h1,h2⟩⟩
    have e0:Env0 P w K mg Oj callerA [] s₁ H:=⟨rfl,hM,(ur,xtv e),Nat.le_of_eq (xpp _ _),trivial,(og,absurd (show zde from hb) aj),hok,.of_eq hg⟩
    refine Qt ((F _ hKb (nsK hns)).run callerA [] s₁ H (jB jN) jN jN _ _ hr e0 (hbind s₁ bb) (.cons rfl .nil) (hsp H hO hS)) (aK r s' h);cases r with
    | error e=>exact (hCX H e s' h).elim
    | ok fl =>
      cases fl with
      | next=>exact JR h
      | brk=>exact JR h
      | cont=>exact JR h
      | ret u =>
        obtain⟨v,H',os,bare,un,hok',r',q⟩:86:=h;have q':v=.bl true:=q;subst q';show(jD,u=Yb true,r');refine(rP,OldK.of_keep (ur ?_),os,bare);cases q:H b with
        | none=>exact un.keep b o e q (by intro z; show(eY,show zde from z,aj)) aj
        | some u =>
          rcases hO b with z|⟨ob,xs,z⟩
          . ext bV q z
          . have z2:=un.frzs b ob _ z
            obtain⟨e1,_⟩:=hok b _ z;obtain⟨e2,_⟩:=hok' b _ z2;ext bI e e1 e1;exact e2
  cases hk:K.lookup a with
  | some o =>
    -- the script is one of the module's own objects
    have e:=KX a o hk;ext bI ha e e;refine core fh (fun _=>gg) (.inr ⟨106,_,vs.toArray,_,hk,rfl,rfl,rfl,pQ Z5 lenV hl,by simpa using rv⟩) (fun b u z=>by have z':ae (none:dB HO) u:=z; cases z') (fun b z=>absurd rfl z) (ao,absurd rfl z)
  | none =>
    refine core (fun b=>(jq,b,a,some (.frz ML (.lst (ns.map V.int))),none)) (du b) (.inl (.inr ⟨ML,bY⟩)) (aK b u z) (au b z) fun _=>hk
    . ext B2 a
      . show(fU,(cD,_,aT hb))
      . exact .inl (if_neg hb)
    . ext B2 a
      . have z':=(aT hb).symm.trans z
        cases z';subst hb;show(aH,ha,gC hl,bK vs _ rv ha)
      . have z':=(ay hb).symm.trans z
        cases z'
    . ext B2 a
      . exact hb
      . exact absurd (if_neg hb) z
noncomputable abbrev KOf {K:Zd}{h:Heap} (_:K.In h):Zd:=K
theorem walk_of {l:PySem.W.OpenLaw}{n k:Nat}{q:Program}{loose:ap}{XP:zcy}{YP:zaw}{d:DefRec}{K:Params->Zd}{CX:World->CXT}{sp:World->Sp}{x:Str}
    (hn:zbF) (hn2:cU n) (hdf:WJ) (hr:Room q0 k callerA)
    (hY:(zmF,(vA).In h))
    (F:∀(w:World) (mg:Str->Option Value) (fa:Addr) (h:Heap),(vA).In h->h.Ns mainGlobals mg->zbc ->
      ∃ fd:FuncData,(Uj x) /\
        (Ml,(vA).In base,FnOk q0 l.prog w vA mg base (CX w) k fa fd [x] (sp w)))
    (hsp:∀(w:World) (H:Hp) (a:Addr) (ns:df),(bv,P9,Only H,SqL vA H a HU,sp w jN H zoe G1))
    (hCX:∀(w:World) (H:Hp) (s:Shared) (e:Value) (s':Shared),CX w [] H s G1 e s'->False) :
    PySem.W.WalkO q loose XP YP l.row.toRowW d [] Vp:=by
  refine Att.attach_call hn hdf fun w s₀ s₁ mg mb fa o pm cd doc a vs ns G Y ho hd hcd hmg hobj hints hlen hg=>?_;have KX:=hY w _ Y;show(ag,fd,hb,hF,F w mg fa _ KX G.T.g hmg);exact xp8 KX G.T.g G.T.b G.T.builtins G.T.nolimit hg hobj hints (ZN hlen hn2) hr hF hb (fun H hO hS=>hsp w H a ns hlen hO hS) fun H e s'=>hCX w H s₁ e s'
noncomputable def xai (s:Stmt) (j:Nat):Stmt:=match s with
 | .ClassDef _ _ _ body _ _ _ _ _ _ _=>body.getD j (.Pass zbz)
 | _=>.Pass zbz
noncomputable def xb9 (s:Stmt):Arguments:=match s with
 | .FunctionDef _ a _ _ _ _ _ _ _ _=>a
 | _=>{ posonlyargs:=[],args:=[],vararg:=none,kwonlyargs:=[],kw_defaults:=[],kwarg:=none,defaults:=[] }
noncomputable def xbx (s:Stmt):Bm:=match s with
 | .FunctionDef _ _ b _ _ _ _ _ _ _=>b
 | _=>[]
noncomputable def xm (s:Stmt):Scope:=match s with
 | .FunctionDef _ _ _ _ _ _ sc _ _ _=>sc
 | _=>{ kind:=.function,names:=[],isGenerator:=false,isCoroutine:=false }
noncomputable abbrev CX0:CXT:=fun _ _ _ _ _ _=>False
structure Fun (K:Zd) (x qual:Str) (st:Stmt) (f:Addr) (fd:FuncData):Prop where
 ex:∃(oc:Value) (od:iB) (kV doc pm:Value) (an:iB) (cdv ct:Value) (osl:uM),
  (bT,fd,Jv x qual pU lv kq .none kV doc pm an cdv ct,GF fd,GB)
 kp:lM f
section
variable {P:Program}{w:World}{K:Zd}{mg:Str->Option Value}{base:Heap}
theorem Fun.ok {x qual:Str}{st:Stmt}{f:Addr}{fd:FuncData}{N ps:ap}{k:Nat}{sp:Sp} (F:Fun K x qual st f fd) (S:zcj) (len:F1)
    (hbody:∀(cdv:Value) (A:Around) (outer:List Env) (s:Shared) (H:Hp) (vs:List V) (Q:VK) (E:XK),Room q0 k (A.deeper (envOfC qual (xm st) s.heap.objs.size f cdv))->Ee ->
      (Mc,(cxOf q0 CX0 P w K mg base N qual kq f cdv A outer s H E).nox,lv)):FnOk q0 P w K mg base CX0 cJ f fd ps sp:=by
  obtain⟨oc,od,kV,doc,⟨pm,an,cdv,ct,osl,rfl,lk,hcd⟩⟩:121:=(F.ex)
  show(Uo,fun A outer s H vs Q E hr hsp=>?_,hbody cdv A outer s H vs Q E hr hsp)
theorem Fun.binds {x qual:Str}{st:Stmt}{f:Addr}{fd:FuncData}{ps:ap} (F:Fun K x qual st f fd)
    (h:(zgP,zgr (Jv x qual pU lv kq .none kV doc pm an cdv ct))):aO fd ps:=by
  obtain⟨oc,od,kV,doc,⟨pm,an,cdv,ct,osl,rfl,lk,hcd⟩⟩:121:=(F.ex)
  exact .all (h kV doc pm an cdv ct)
theorem fun_mk {x qual:Str}{st:Stmt}{f:Addr}{oc:Value}{od an:iB}{osl:uM}{kV doc pm cdv ct:Value} (l:GF (Jv x qual pU lv kq .none kV doc pm an cdv ct))
    (c:GB) (k:lM f):Fun K x qual st f (Jv x qual pU lv kq .none kV doc pm an cdv ct):=zfy
#check _
theorem xat {A:Around}{k:Nat} (hr:AT):zZ:=Jy (Nat.add_le_add_left (az:1<=64) _) hr.units
section
variable {X:Cx}
theorem pv (i:Nat) {x:Str}{pos:Pos} (hN:sX:=by rfl) (hv:N3:=by first|exact YB rfl|exact Qp (YB rfl)|exact Qp (Qp rfl)) (hd:ng:=by decide)
    (hcd:zlb:=by decide):PE X sO (tVar i):=xuy hN hv hd hcd
#check _
theorem iteF {A B:Prop} (h:B):cK false A B:=by
 ext lC Z9 h
theorem iteT {A B:Prop} (h:A):cK true A B:=by
 ext aQ bY h
theorem ite2 {c A B:Prop} [Decidable c] (h1:c->A) (h2:¬ c->B):if c then A else B:=by
 by_cases h:c
 .ext kI h;exact h1 h
 .ext d8 h;exact h2 h
noncomputable def Same (H H':Hp):Prop:=rK (aR b o) (ae,H' b,o)
theorem Same.refl (H:Hp):gX H:=fun _ _ h=>h
theorem Same.trans {H H1 H2:Hp} (a:gX H1) (b:kP):tT:=fun c o h=>b c o (a c o h)
theorem Same.free {H H':Hp} (e:bF) {l:Addr} (h:H' l=Option.none):H l=Option.none:=by
 cases q:H l with
 | none=>rfl
 | some o =>
  show(bV,e l o q,h)
theorem Same.seq {K:Zd}{H H':Hp}{a:Addr}{xs:af} (e:bF) (h:qC):SqL K H' a xs:=by
 rcases h with (h|⟨o,h⟩)|h
 .show(I0,e _ _ h)
 .show(Ew,⟨o,e _ _ h⟩)
 .ext fU h
#check L2
namespace Srt
open PySem PySem.W PyProof.Rows
noncomputable abbrev CM:=Bx (eW Bk)
noncomputable abbrev g (p:cY) (i:Nat):Nat:=p.getD i 0
structure Ord (n:Nat) (lt:Bx Bool):Prop where
 irr:∀ i,dQ->(dE,lt i i)
 tr:∀ i j k,dQ->(bc,j<n,k<n,lt i j=true,lt j k=true,lt i k=true)
 tot:∀ i j,(bc,dQ,j<n,i≠j,(dE,lt i j),lt j i=true)
noncomputable def Cmp (n:Nat) (lt:Bx Bool) (cmp:CM) (s:Shared):Prop:=∀ i j,dQ->j<n->∀ Q:Bk,Q (lt i j) s->cmp i j Q s
theorem xda {α:Type}{cmp:CM}{a:α}{Q:eW α}{s:Shared} (h:Q a s):nD (.ret a) Q:=h
theorem xge {α:Type}{cmp:CM}{i j:Nat}{k:Bool->KasT α}{Q:eW α}{s:Shared} (h:cmp i j (mW,c,KasT.kasWp cmp (k c) Q s') s):nD (.ask i j k) Q:=h
theorem xx0 {p:cY}{n:Nat}:kas_asc p 0 n=.ret n:=by unfold kas_asc; rfl
theorem xw0 {p:cY}{f n:Nat}:kas_asc p (f+1) n=(zdi,p.getD n 0,p.getD (n-1) 0,.ret n,kas_asc p f (n+1)):=eG kas_asc
theorem xws {p:cY}{k:Nat}:kas_bin 0 p k=.ret p:=by unfold kas_bin; rfl
theorem xwp {f:Nat}{p:cY}{k:Nat}:kas_bin (f+1) p k=(yd k 0 k).bind fun l=>kas_bin f (bubble p k (k-l)) cJ:=eG kas_bin
theorem xss {p:cY}{k l r:Nat}:(yd 0 l r)=.ret l:=by unfold kas_place; rfl
theorem xtb {p:cY}{k f l r:Nat}:(yd (f+1) l r)=if l>=r then .ret l else (zdi,p.getD k 0,p.getD qK 0,yd f l qK,yd f (qK+1) r):=eG kas_place
theorem xu1 {p:cY}{k l:Nat}:kas_desc 0 p k l=.ret (p,k,l):=by unfold kas_desc; rfl
theorem xvu {f:Nat}{p:cY}{k l:Nat}:kas_desc (f+1) p k l=(zdi,p.getD k 0,zbe,if l>0 then kas_desc f (kas_rev p (k-(l+1)) k) cJ 0 else zdU 0,.ask zbe (p.getD k 0) fun d=>(cK,d,.ret (p,k,l),zdU (l+1))):=eG kas_desc
section
variable {n:Nat}{lt:Nat->Nat->Bool}{cmp:CM}{s:Shared}
structure Arr (n:Nat) (p:cY):Prop where
 sz:p.size=n
 lt:∀ i,dQ->Cz<n
 inj:∀ i j,(bv,dQ,j<n,Cz=g p j,i=j)
 pm:p.Perm zbn
theorem g_at {p:cY}{i:Nat}{v:Nat} (h:aU p v):Cz=v:=by
 show p.getD i 0=v;rw[Qw,h];rfl
theorem Arr.at {p:cY} (a:tR) {i:Nat} (h:dQ):aU p Cz:=by
 have z:i<p.size:=aB a.sz h
 have e:(aU,p,p[i]):=J5 z;rw[e,g_at e]
noncomputable def Srtd (lt:Bx Bool) (p:cY) (m:Nat):Prop:=∀ i j,i<j->j<m->(sM i j)=true
theorem xmr (o:EL) {p:cY} (a:tR) {m:Nat} (hm:m<=n) (h:(RN,1<=i,(sM (i-1) i)=true)):Srtd lt p m:=by
 intro i j hij hj;show(DU,d,∃ d,j=aY+d,j-aY)
 induction d with
 | zero=>exact h aY aa hj
 | succ d ih =>
  show(ah,h1,ih aa aa,h2,h (aY+(d+1)) aa hj);exact o.tr _ _ _ tu tu tu h1 h2
theorem xkk (c:DA) {p:cY} (a:tR) {G:eW Nat}:∀(f k:Nat),1<=k->k+f<=n ->
    (∀ m,(bc,k<=m,m<=k+f,(RN,k<=i,dE (sM i (i-1))),m<k+f->(sM m (m-1))=true,G m s))->(nD (kas_asc p f k) G)
  | 0,k,h1,hf,hG=>by
    rw[xx0];exact xda (hG k bu aa PH (gW aa))
  | f+1,k,h1,hf,hG=>by
    rw[xw0];refine xge (c _ _ SC O9 _ ?_);cases e:sM k (k-1) with
    | true =>
      exact xda (hG k bu aa PH (fun _=>e))
    | false =>
      show(NM,kas_asc p f cJ,xkk c a f cJ aa aa fun m hm hm2 h3 h4=>hG m aa aa zbA (fun h=>h4 aa),i=k)
      . ext aQ z e
      . exact h3 i aa hi2
theorem xmh (o:EL) (c:DA) {p:cY} (a:tR) {G:(eW,cY × Nat × Nat)}:∀(f k:Nat),1<=k->k+f<=n ->
    (∀ m,(bv,k<=m,m<=k+f,(RN,k<=i,(sM i (i-1))=true),G (p,m,0) s))->(nD (kas_desc f p k 0) G)
  | 0,k,h1,hf,hG=>by
    rw[xu1];exact xda (hG k bu aa PH)
  | f+1,k,h1,hf,hG=>by
    rw[xvu];refine xge (c _ _ SC O9 _ ?_);cases e:sM k (k-1) with
    | true =>
      show(NM,zdU 0,xmh o c a f cJ aa aa fun m hm hm2 h3=>hG m aa aa zbA,i=k)
      . ext aQ z e
      . exact h3 i aa hi2
    | false =>
      refine xge (c _ _ O9 SC _ ?_);show(ki,ne,g p k,g p (k-1),(gL,a.inj _ _ aa aa z))
      rw[(vw,lt zbe (p.getD k 0),o.tot _ _ SC O9 ne e)];exact xda (hG k bu aa PH)
theorem Arr.rev {p:cY} (a:tR) {k:Nat} (hk:k<=n):Arr n (kas_rev p 0 k)/\zfi:=by
 have ge:zfi:=fun i hi=>by
  have z:=getElem?_mirror_all (xs:=p) (i:=0) (j:=k) (aB a.sz hk) i;by_cases c:i<k
  .ext kI c;rw[aT ⟨jg,c⟩,(eS,0+k-1-i=LK),a.at (eS,LK<n)] at z;exact g_at z
  .ext d8 c;show(Rm,ay (fun w=>c w.2),a.at hi)
 refine⟨⟨bW kas_rev_size a.sz,Sy,bL i j hi hj e,(mirror_perm _ _ _ _).trans a.pm⟩,ge⟩
 .rw [BN];split<;>exact tu
 .rw [BN,ge j hj] at e;split at e<;>split at e<;>have:=a.inj _ _ aa aa e<;>omega
theorem xqj (o:EL) (c:DA) {p:cY} (a:tR) (h2:2<=n) {G:(eW,Nat × cY)}
    (hG:∀ m p',(bc,1<=m,m<=n,Arr n p',Srtd lt p' m,G (m,p') s)):nD (kas_count n p) G:=by
  unfold kas_count;rw[KasT.kasWp_bind];have up:∀ q,Arr n q->∀ i,(bv,1<=i,dQ,(dE,lt (g q i) (g q (i-1))),lt (g q (i-1)) (g q i)=true):=fun q b i h1 hi e =>
    o.tot _ _ (b.lt i hi) (b.lt (i-1) aa) (ao (gL,b.inj _ _ hi aa z)) e
  refine xkk c a (n-1) 1 bu aa (bL m hm hm2 h3 h4);have sm:Srtd lt p m:=xmr o a aa (fL,hi,hi2,up p a i hi aa (h3 i hi hi2));show nD (cK (m == n) _ _) G;by_cases e1:m=n
  . rw[aT XH]
    exact xda (hG m p hm aa a sm)
  . rw[ay XH]
    by_cases e2:m>1
    . rw[aT e2]
      refine xge (c _ _ (a.lt 0 aa) (a.lt (m-1) aa) _ ?_);rw[(vw,lt (p.getD 0 0) (p.getD (m-1) 0),sm 0 (m-1) aa aa)];exact xda (hG m p hm aa a sm)
    . rw[ay e2]
      have m1:m=1:=aa
      subst m1;have d1:=h4 aa;unfold kas_descPart;show(qo,KasT.kasWp_bind,xmh o c a (n-(1+1)) (1+1) aa aa (b9 k hk hk2 h5));show nD (if (0:Nat)>0 then _ else kas_tail3 k n p) G;rw[if_neg (Yn 0)];unfold kas_tail3;rw[KasT.kasWp_bind];show(Fu,ge,a.rev (k:=k) aa);refine xkk c b (n-k) k aa aa fun m' hm' hm2' h6 _=>?_;refine xda (hG m' _ aa aa b (xmr o b aa zbA));by_cases ik:i<k
      . rw[ge i aa,ge (i-1) aa,aT ik,Lz]
        have e3:k-1-(i-1)-1=LK:=aa
        by_cases z:k-1-(i-1)=1
        . have z':LK=0:=aa
          ext cq z z' d1
        . show(Hh,h5 (k-1-(i-1)) aa aa,e3)
      . exact up _ b i hi aa (h6 i aa hi2)
theorem xhy (o:EL) (c:DA) {p:cY} (a:tR) {k:Nat} (hk:k<n) (sk:Srtd lt p k) {G:eW Nat}:∀(f l r:Nat),l<=r->r<=k->r-l<=f ->
    (∀ j,j<l->(dE KH))->(∀ j,r<=j->j<k->KH=true) ->
    (∀ m,(bv,m<=k,(∀ j,j<m->(dE KH)),(∀ j,m<=j->j<k->KH=true),G m s))->(nD (yd f l r) G)
  | 0,l,r,h1,h2,h3,lo,hi,hG=>by
    ext zhI xss
  | f+1,l,r,h1,h2,h3,lo,hi,hG=>by
    rw[xtb];by_cases e:l>=r
    . ext zhI FK
    . rw[ay e]
      have m1:qK<r:=aa
      have m2:l<=qK:=aa
      refine xge (c _ _ SD tu _ ?_);cases e2:sM k qK with
      | true =>
        show(NM,yd f l qK,xhy o c a hk sk f l _ m2 aa aa lo (aK j hj hj2) hG,j=qK)
        . ext aQ z e2
        . exact o.tr _ _ _ SD tu tu e2 (sk _ _ aa hj2)
      | false =>
        show(NM,yd f (qK+1) r,xhy o c a hk sk f _ r aa h2 aa (au j hj) hi hG,j=qK)
        . ext aQ z e2
        . cases e3:KH with
          | false=>rfl
          | true =>
            show(Af,o.tr _ _ _ SD tu tu e3 (sk j qK aa aa),e2)
theorem Arr.bub {p:cY} (a:tR) {k m:Nat} (hk:k<n) (hm:m<=k):Arr n G2/\zeH:=by
 have ge:zeH:=fun i hi=>by
  show(EK,getElem?_bubble (xs:=p) (src:=k) (aB a.sz hk) (k-m) aa i,(eS,k-(k-m)=m));ext ij i m
  .ext kI c;show(Rm,rB,a.at hk)
  .ext d8 c;rw[ue] at z;by_cases d:m<i/\i<=k
   .ext kI d;show(Rm,aT d,a.at (eS,i-1<n))
   .ext d8 d;show(Rm,ay d,a.at hi)
 refine⟨⟨bW bubble_size a.sz,Sy,bL i j hi hj e,(bubble_perm _ _ _).trans a.pm⟩,ge⟩
 .rw [BN];split
  .exact a.lt _ hk
  .split<;>exact tu
 .rw [BN,ge j hj] at e;split at e<;>(try split at e)<;>(try split at e)<;>(try split at e)<;>first|omega|(show(cW,a.inj _ _ aa aa e))
theorem xog (o:EL) (c:DA) {G:eW cY}:∀(f k:Nat) (p:cY),(bc,k+f=n,tR,Srtd lt p k,(∀ p',Arr n p'->Srtd lt p' n->G p' s),nD (kas_bin f p k) G)
 | 0,k,p,h,a,sk,hG=>by
  rw[xws];ext EU k n;exact xda (hG p a sk)
 | f+1,k,p,h,a,sk,hG=>by
  have hk:k<n:=aa
  rw[xwp,KasT.kasWp_bind];refine xhy o c a hk sk k 0 k jg bu aa (FI aa) (fun j hj hj2=>aa) (b9 m hm lo hi);show(Fu,ge,a.bub hk hm);refine xog o c f cJ _ aa b (b9 i j hij hj) hG;have inS:(Fp,m,(sM i k)=true):=(eK,hi',o.tot _ _ SD (a.lt i aa) (ao (gL,a.inj _ _ hk aa z)) (lo i hi'));have g1:∀ i,dQ->i=m->g G2 i=g p k:=fL hi z (bW,BN,aT z)
  have g2:∀ i,(bv,dQ,m<i,i<=k,g G2 i=g p (i-1)):=fun i hi z z2=>by rw[BN,tV,aT ⟨z,z2⟩]
  have g3:(RN,dQ,g G2 i=Cz):=(fL,hi,z,by rw[BN,tV,tV])
  by_cases j1:j=m
  .rw [g1 j aa j1,g3 i aa aa];exact inS i aa
  .by_cases i1:i=m
   .rw [g1 i aa i1,g2 j aa aa aa];exact hi (j-1) aa aa
   .by_cases j2:m<j
    .rw [g2 j aa j2 aa];by_cases i2:m<i
     .show(eE,g2 i aa i2 aa,sk _ _ aa aa)
     .rw [g3 i aa aa];by_cases z:i=j-1
      .omega
      .exact sk _ _ aa aa
    .rw [g3 j aa aa,g3 i aa aa];exact sk _ _ hij aa
theorem xo2:Arr n zbn:=by
 have e:∀ i,dQ->g zbn i=i:=(oF,g_at (bW,List.getElem?_toArray,JJ hi));exact⟨aj,oF (aB,e i hi,hi),fun i j hi hj z=>by show(yh,e i hi,e j hj),Array.Perm.refl _⟩
theorem sort_wp (o:EL) (c:DA) (h2:2<=n) {G:eW cY} (hG:∀ p,tR->Srtd lt p n->G p s):nD (kas_sort n) G:=by
 unfold kas_sort;show(qo,KasT.kasWp_bind,xqj o c xo2 h2 fun m p hm hm2 a sm=>?_);show nD (kT m n _ _) G;by_cases e:m<n
 .ext kI e;show nD (kas_bin (n-max m 1) p (max m 1)) G;show(aQ,Nat.max_eq_left hm,xog o c (n-m) m p aa a sm hG)
 .ext d8 e;ext EU m n;exact xda (hG p a sm)
#check _
#check Srt
namespace XL
open PySem
noncomputable def Xat (h:Heap) (e:Addr) (cls:Value) (od tb:iB):Prop :=
 ∃ oe vs,(S6 e oe)/\oe.cls=cls/\oe.dict=od/\(S7 oe.data)/\1<vs.size /\
  ((tb=none/\(eZ vs 1 JB))\/∃ T oT ts,(ae tb T)/\(aq,vs[1]?=(aC T),T≠e,S6 T oT,oT.data=.fields ts,eZ ts 3 JB))
#check XL
namespace XL
open PySem PySem.W PySem.Calls PyProof.Rows Builtin Builtin.ObjectAttr
noncomputable def vErr:aX:=[.type "ValueError",.type "Exception",zoE,.type "object"]
noncomputable def xgy:aX->Bool
 | []=>false
 | .ref c::r=>xgy r||((.ref c::r:aX) == vErr)
 | uE=>uE == vErr
noncomputable def xsk (K:Frag) (C:Addr):Bool:=(clsIn K C).any fun cd=>xgy cd.mro
theorem xh2:∀{l:aX},xgy l=true->l.contains (.type "object")=true/\l.contains (.type "BaseException")=true/\(dE l.isEmpty)
 | [],e=>by cases e
 | uE,e=>by
  have last:((uE:aX) == vErr)=true->(uE).contains (.type "object")=true/\(uE).contains (.type "BaseException")=true/\(dE,(uE).isEmpty):=fun z=>by
   rw[Wc z];show(aH,aG,aG,rfl)
  cases v with
  | ref c =>
   rcases Bool.or_eq_true_iff.mp e with z|z
   .obtain ⟨a,b,_⟩:43:=xh2 z;show(aH,zjA a,zjA b,rfl)
   .exact last z
  | _=>exact last e
structure XC (K:Frag) (C:Addr):Prop where
 over:xsk K C=true
 hd:hasDictIn K C=true
 sa:NA "__setattr__" (xK "object.__setattr__")
 ga:NA "__getattribute__" (xK "BaseException.__getattribute__")
 gh:NA "__getattr__" none
 ca:NA "__class__" (xK "object.__class__")
 cg:(ae,specialIn K Ve "__get__",zjo)
 ct:(ae,takesIn K (.builtin "object.__class__"),true)
section
variable {prog:Program}{w:World}{A:Around}{E:Value->Shared->Prop}{s:Shared}{K:Frag}{x C dx:Addr}{ox:Obj}{od:Option Obj}{name:Str}{v:Value}{R:Result->Shared->Prop}
theorem XC.mro (c:y8):∃ cd,(ae,clsIn K C,cd)/\xgy cd.mro=true/\cd.hasDict=true:=by
 show(ag,cd,h1,h2,any_some c.over);show(ag,cd',h3,h4,any_some c.hd);ext bI h1 h3 h3;ext gF cd h1 h2 h4
theorem XC.isObj (c:y8):znK "object":=by
 show(tf,cd,h1,h2,c.mro)
 obtain⟨a,_,b⟩:43:=xh2 h2;ext zlC
theorem XC.isExc (c:y8):znK "BaseException":=by
 show(tf,cd,h1,h2,c.mro)
 obtain⟨_,a,b⟩:43:=xh2 h2;ext zlC
theorem xua (v:Value):bindSpecial (.builtin "BaseException.__getattribute__") v=pure (.builtin "BaseException.__getattribute__",[v]):=by
 have f:=PySem.F.attr_ValueError.ga.bind v;exact f
theorem xqy:plainId "BaseException.__getattribute__"=true:=PySem.F.attr_ValueError.ga.plain
theorem xwh {Q:bq}{expr fill:Bool}{tk:Tok} (X:xY) (c:y8) (I:znk)
    (h:wpAny bp A.in1 (Builtin.«object.__getattribute__» (jB [rC,zcn]))
      (mW,fin,match fin with|.done (.ret v)=>wpAny bp A (handedOut v) Q E s'|_=>False) vb s) :
    wpAny bp A (getAttrBy rC zcn fill expr) Q E s:=by
  obtain⟨hh,g,d,t,os⟩:=s;have L0:=I.type (M:=bp);show(ah,L1,looks_findIn (M:=bp) X c.ga,L2,looks_findIn (M:=bp) X c.gh);have sub:Looks bp hh (isInstance (.ref x) zoE) true:=I.type.andThen (looks_mroIn X c.isExc);have f2:(onTheHeap (Zq C)&&ziq == zkE)=false:=by
    rw[Kb ziq zkE aG]; rfl
  show(mT,f3,expr&&onTheHeap (Qn "BaseException.__getattribute__"),RQ expr)
  unfold getAttrBy;refine J0 (Zf (L0.at (Zf (L1.at ?_))))
  dsimp only
  rw[f2];ext uS;unfold getAttrByItsOwn hookBefore;show(bP,L2.at (Zf (Ql (J0 ?_))));unfold callGetattribute;rw[f3];ext uS;unfold boundAndCalled;rw[xua];refine Zf (Zn (Wh (codeAny_call_builtin xqy PySem.F.entry_bexc_ga
    (@check_slot bp _ _ ⟨hh,g,d,t,os⟩ "BaseException.__getattribute__" "BaseException" "__getattribute__" rC [zcn] [] _ aG aG sub (PySem.F.args_bexc_ga _ _) ?_))))
  refine Jh h (aK fin s' z) fun e s' z=>z.elim;rcases fin with (_|_|_|_)|_<;>first|exact z|exact z.elim
theorem xqn {Q:E8} (X:xY) (c:y8) (I:znk) (h:Q (aC C) oR) :
    wpAny bp A (getAttr? (.ref x) "__class__") Q E s:=by
  show(LJ,cd,h1,h2,c.mro)
  have hf:(ae,findObj K C od "__class__",.bind (.builtin "getset_descriptor.__get__") Ve):=by
    unfold findObj;rw[h1,QB,c.ca,QB];simp[c.cg,c.ct]
  unfold getAttr? getAttrBy?;refine Zf (wpAny_mkText (Zf (Ql ?_)));refine xwh (s:=oR) X c I ?_;show(ah,L0,I.type (M:=bp),L1,looks_find (M:=bp) X I hf);show(bP,Zn (Zf (Zn (Zf (L0.here (s:=oR) (Zf (L1.here (s:=oR) ?_)))))));show wpAny _ _ (holding [_] (call _ [_,rC,.ref C])>>=ret) _ _ _;show(bP,J0 (Wh (class_get (s:=oR) (ox:=ox) (od:=od) X I c.isObj ?_)));ext vY;show wpAny _ _ (handedOut (.ref C)) _ _ _;exact Zn (Zn h)
#check _
#check XL
namespace XL
open PySem
#check XL
namespace L2
open PySem PySem.Spec PyProof.Rows XL
variable {q0:Bool}
noncomputable def XO (e C:Addr) (od:iB):HO:=.ext fun h=>zgu (S6 e ox)
noncomputable def XD (dx:Addr) (fs:iS):HO:=.ext fun h=>Ou/\∃ mA,Rv/\F9/\QK mA (fs.map (·.1))
noncomputable def CXo (P:Program) (w:World):CXT:=fun outer H s E u s'=>∃ e C od H' T,(eO u e)/\s'.os=s.os/\Ow/\Un (frs outer) [] H H' s.heap s'.heap/\HOk P w H' s'.heap /\
 (aq,Xat s'.heap e FP od (some T),gR e (XO e C od),DF T,H' T=none,E e C H')
section
variable {X:Cx}{pins:List (Addr × Obj)}{Z:St}{H:Hp}{s:Shared}{e C:Addr}{od tb:Option Addr}
theorem Inv.size_lt (I:av) {b:Addr} (h:DF b):aP cZ Ae (xG b) (Hu b):=by
 refine(bR,I.hok.fresh h,nX,b9 x c hc z,aK p hp z)
 .ext gZ z;exact absurd I.lt (Nat.not_lt.mpr h)
 .obtain ⟨v,o,ho,_⟩:82:=I.cell x c hc;show(b6,z,ho,absurd (Zz ho) (Nat.not_lt.mpr h))
 .have g:=(I.pin p hp).1;show(b6,z,g,absurd (Zz g) (Nat.not_lt.mpr h))
theorem xq:xeh (CXo X.prog X.w) X (fun _ _ _ _=>False):=fun pins Z H s u s' I h=>by
 obtain⟨e,C,od,H',⟨T,_,_,_,_,_,_,_,_,_,q⟩⟩:121:=h;exact q.elim
#check _
#check L2
namespace XL
open PySem PySem.W
#check XL
namespace L2
open PySem PySem.Spec PyProof.Rows XL
variable {q0:Bool}
section
variable {X:Cx}{pins:List (Addr × Obj)}{Z:St}{H:Hp}{s:Shared}{a C dx:Addr}{od:Option Addr}{fs:List (Str × V)}{f:Str}{v y:V}{u:Value}{A:Around}{E:Value->Shared->Prop}
theorem xxr (I:av) (e:NP):zgu (Dk ox):=(I.hok a _ e).1
theorem xr1 (I:av) (e:aR dx (XD dx fs)):Ou/\∃ mA,s.heap.Ns1 dx mA/\F9/\QK mA (fs.map (·.1)):=(I.hok dx _ e).1
theorem xlk {o:Obj}{vs:gJ} (d:S7 o.data):PySem.W.notCls o=true:=by
 unfold PySem.W.notCls;rw[d]
#check _
#check L2
namespace XL
open PySem PySem.W
#check XL
namespace L2
open PySem PySem.Spec PyProof.Rows XL
variable {q0:Bool}
#check L2
namespace XL
open PySem PySem.W
theorem xpv {K:Frag}{x C:Addr} (c:y8):KitX K rC FP (gW,∃ ox od,InstAt h x ox C od) where
 ty:=fun _ _ _ ⟨_,_,I⟩=>I.type
 it:=fun _ _ X _=>by
  ext zoL
  ext zqg
  .rename_i c' d' cd' sl' ho
   intro A' Q' E' s' k q;unfold isType loadHead;exact Zf (wpAny_loadPart (k _ _ (X _ _ ho)) (Zn q))
  .cases hc
 ne:=fun h tp dd its n sl X htp=>by
  ext zoL
  refine Jb.mpr (du q);show(tP,C,tp,Zq.inj (beq_iff_eq.mp q));ext zqg
  .rename_i c' d' cd' sl' ho
   have z:=(X _ _ ho).symm.trans htp;cases z
  .cases hc
 ca:=fun X ⟨ox,od,I⟩ k=>xqn X c I k
#check XL
namespace L2
open PySem PySem.Spec PyProof.Rows XL
variable {q0:Bool}
noncomputable def clsV:V->(dB Value)
 | .ty n=>some (.type n)
 | bb=>dJ
 | _=>none
theorem xhs {c:V}{u cv:Value} (e:XW) (r:RelV c u):u=cv:=by
 cases c<;>first|(cases e; exact r)|cases e
noncomputable def xnv:af->Option (List Value)
 | []=>some []
 | c::r=>(clsV c).bind fun a=>(xnv r).map (a::·)
theorem xju:∀{cs:af}{us cv:aX},(ae,xnv cs,cv)->(wJ cs)->us=cv
 | [],_,_,e,.nil=>by ext jR e
 | c::r,_,_,e,.cons rc rr=>by
  show(ag,a,e1,e2,Option.bind_eq_some_iff.mp e);ext nH b e3 e2;rw[xhs e1 rc,xju e3 rr]
section
variable {X:Cx}{pins:List (Addr × Obj)}{Z:St}{H:Hp}{s:Shared}{A:Around}{E:Value->Shared->Prop}{Q:Value->Shared->Prop}
theorem xmy {a C:Addr}{od:iB} (I:av) (h:NP) (hd:∀ d,(ae od d)->∃ o,r8):∃ ox odx,PySem.W.InstAt s.heap a ox C odx:=by
 obtain⟨ox,vs,g,ce,oo,de⟩:84:=xxr I h;cases e:od with
 | none=>exact⟨ox,none,g,ce,xlk de,by rw[oo,e]; trivial⟩
 | some d =>
  obtain⟨o,go⟩:=hd d e;exact⟨ox,some o,g,ce,xlk de,pQ oo e go⟩
#check _
inductive xxs (K:Zd) (xs:af) (H:Hp) (Q:VK):Prop
 | mk (x c) (e_:xs=[x,c]) (r_:((∃ t cv b,(aP,TyOf K H x t,XW,(ae,QX K t cv,b),pR b))\/(∃ a C od cv b,kU/\NP/\(aq zhg y8 XW (ae,QX K (.ref C) cv,b) (pR b)))\/(∃ a C od p cs cv b,aq kU NP zhg y8 (aq,eO c p,SqT K H p cs,(ae,xnv cs,cv),(ae,PySem.W.kitAny K (.ref C) cv,b),pR b))))
section
variable {X:Cx}
theorem xb7:xct X (.builtin "isinstance") (xxs X.K):=by
 intro pins s Z H us xs Q I r h;obtain⟨x,c,rfl,h⟩:=h;obtain⟨u,v,rfl,ru,rv⟩:83:=xm6 r;rcases h with⟨t,cv,b,ty,ec,ek,q⟩|⟨a,C,od,cv,b,rfl,ha,hd,xc,ec,ek,q⟩|⟨a,C,od,p,cs,cv,b,rfl,ha,hd,xc,rfl,hp,ec,ek,q⟩
 .show(oC,xhs ec rv);exact xom I ru ty ek U8
 .show(oC,xhs ec rv);ext rJ u a ru;show(zeJ,J4 (xpv xc) I.kIn (xmy I ha (au d e)) ek dF U8)
 .ext rJ u a ru;ext rJ v p rv;show(tf,its,vi,it,I.tuple hp);show(oC,xju ec vi);obtain⟨o,g,oc,⟨n,od'⟩⟩:63:=it;obtain⟨c1,d1,dt1,sl1⟩:=o
  dsimp only at oc od'
  subst oc od';show(zeJ,PySem.W.kia_tup (xpv xc) I.kIn (xmy I ha (au d e)) g ek dF U8)
#check _
noncomputable def xd2 (scope:Scope):ap:=(scope.names.filter fun x=>zdf).map (·.1)
noncomputable def Cx.clo (X:Cx) (scope:Scope):zbQ:=(tE).reverse.map fun n=>(n,(Nv).getD 0)
theorem xh3 {env:Env}{f:Str->Addr}:∀(l:fS Str NameKind) (acc:zbQ),(∀ x∈l,cX=.free->env.cells.lookup ba=some (f ba)) ->
    (forIn l acc fun x cs=>(if zdf then do let c <- cellOf env ba; pure (YO ((ba,c)::cs)) else pure (YO cs):Sem (ForInStep (List (Str × Addr))))) =
      pure ((((l.filter fun x=>zdf).map (·.1)).reverse.map (jQ,n,n,f n))++acc)
  | [],acc,_=>rfl
  | x::r,acc,h=>by
    have ih:=fun a=>xh3 r a (Bs y hy);rw[List.forIn_cons];by_cases q:cX=.free
    . have e:=h x Zm q
      have qb:(cX == Wf)=true:=eB q
      rw[aT qb,QE,aT qb];have ec:cellOf env ba=pure (f ba):=by unfold cellOf; rw[e]
      rw[ec];simp only[pure_bind];rw[ih];simp
    . ext uA qb cX Wf zad
      rw[ay (sT qb),QE,ay (sT qb)];simp only[pure_bind];rw[ih]
theorem xot {X:Cx}{scope:Scope} (h:zoy):closureFor scope X.env=pure (X.clo scope):=by
 unfold closureFor;have z:=xh3 (env:=X.env) (f:=fun n=>(Nv).getD 0) scope.names [] fun x hx hf=>by
  show(mq,c,h ba (Zg.mpr (dH,x,ZH.mpr ⟨hx,cI hf⟩)));rw[e];rfl
 rw[QR] at z;refine (bind_pure (m:=Sem) _).trans ?_;exact z
theorem xs4 {X:Cx}{scope:Scope}{n:Str}{c:Addr} (h:(ae,(AW).lookup n,c)):n∈tE/\c=(Nv).getD 0:=by
 have z:=JH h;unfold Cx.clo at z;ext rp y hy e z;injection e with e1 e2
 subst e1;show(aS,List.mem_reverse.mp hy,e2.symm)
theorem xe8 {f:Str->Addr}{n:Str}:∀{l:ap},n∈l->(l.map fun y=>(y,f y)).lookup n=some (f n)
 | [],h=>xN
 | y::r,h=>by
  rw[Zo,Zx];by_cases q:n=y
  .subst q;simp
  .rw [Kb n y zad];exact xe8 ((Zt.mp h).resolve_left q)
theorem xmn {X:Cx}{scope:Scope}{n:Str}{c:Addr} (hn:n∈tE) (h:Gd):(ae,(AW).lookup n,c):=by
 have z:=xe8 (f:=fun n=>(Nv).getD 0) (List.mem_reverse.mpr hn);unfold Cx.clo;rw[z,h];rfl
noncomputable def xed:TT:=(EW,Q true H)
noncomputable def PIf (X:Cx) (ifs:jY) (t:TT):Prop :=
 ∀(pins:List (Addr × Obj)) (s:Shared) (Z:St) (H:Hp) (Q:vI),av->BI ->
  wpAny aN X.A (zex X.env (gO c)) Pe X.xe s
theorem xa3 {X:Cx}:PIf X [] xed:=fun pins s Z H Q I h=>Zn ⟨H,I,h⟩
theorem xes {X:Cx}{c:Expr}{t:TT} (hc:PT X c t):PIf X [c] t:=fun pins s Z H Q I h=>by
 rw[List.forIn_cons];ext Fo;rw[bY];show(bP,(Jh (hc pins s Z H Q I h) (wH,s1,Zn ?_) (qS z)));exact Zn q
theorem xn2 {env:Env}{scope:Scope} (nc:UL) (n:Str) (h:(ae,(GO).names.lookup n,.cell)\/(ae,(GO).names.lookup n,.free)):n∈tE:=by
 have key:∀ k,(ae,(GO).names.lookup n,k)->(k=.cell\/k=.free)->n∈tE:=fun k e hk=>by
  show(ag,y,hy,ey,Zg.mp (JH e));obtain⟨m,j⟩:=y
  dsimp only at ey
  split at ey
  .rename_i q
   injection ey with e1 e2
   subst e1;have:j=.free:=by
    simp only[ZE,beq_iff_eq] at q;exact q.1.1
   ext wF;ext zlY
  .injection ey with e1 e2
   subst e1 e2;rcases hk with z|z
   .exact absurd z (nc _ hy)
   .subst z;ext zlY
 rcases h with h|h
 .exact key _ h (.inl rfl)
 .exact key _ h (.inr rfl)
theorem xnn {env:Env}{scope:Scope}{n:Str} (h:(ae,scope.names.lookup n,.free)):(ae,(GO).names.lookup n,.cell)\/(ae,(GO).names.lookup n,.free):=by
  have key:∀(l:fS Str NameKind),(ae,l.lookup n,.free)->(ae,(zeb).lookup n,.cell) \/
      (ae,(zeb).lookup n,.free):=fun l=>by
    induction l with
    | nil=>intro e; ext rV
    | cons y r ih =>
      intro e;obtain⟨m,k⟩:=y;rw[Zo];rw[Zx] at e;cases q:n == m with
      | true =>
        ext bI q e e
        dsimp only
        split
        . left; rw[Zx,q]
        . right; rw[Zx,q]
      | false =>
        rw[q] at e;have z:=ih e
        dsimp only
        split<;>(ext cq Zx q z)
  exact key _ h
section
variable {P:Program}{w:World}{K:Zd}{mg:Str->Option Value}{base:Heap}
theorem Fun.okn {x qual:Str}{st:Stmt}{f:Addr}{fd:FuncData}{N ps:ap}{k:Nat}{sp:Sp} (F:Fun K x qual st f fd) (S:zcj) (len:F1)
    (hbody:∀(cdv:Value) (A:Around) (outer:List Env) (s:Shared) (H:Hp) (vs:List V) (Q:VK) (E:XK),Room q0 k (A.deeper (envOfC qual (xm st) s.heap.objs.size f cdv))->Ee ->
      (Mc,(cxOf q0 aD P w K mg base N qual kq f cdv A outer s H E).nox,lv)):FnOk q0 P w K mg base aD cJ f fd ps sp:=by
  obtain⟨oc,od,kV,doc,⟨pm,an,cdv,ct,osl,rfl,lk,hcd⟩⟩:121:=(F.ex)
  show(Uo,fun A outer s H vs Q E hr hsp=>?_,hbody cdv A outer s H vs Q E hr hsp)
#check _
#check L2
namespace L2
open PySem PySem.Spec PyProof.Rows XL
theorem ifP {b:Bool}{A B:Prop} (h:FH) (q:A):cK b A B:=by
 show(aQ,aT h,q)
theorem ifN {b:Bool}{A B:Prop} (h:dE b) (q:B):cK b A B:=by
 show(lC,sT h,q)
noncomputable def sgn (c:Nat):V:=.str Sa
noncomputable def Its (x:Str):It:=(UQ,i<x.cps.toList.length,v,∃ c,(aU x.cps.toList c)/\v=sgn c,znT)
theorem xt2 {h h':Heap}{it:Addr}{ty:String}{x:Str}{t:Tok}{i:Nat} (y:h.IsStrIter it ty x t i) (k:∀ o,(ae,h.get? it,o)->(ae,h'.get? it,o)):h'.IsStrIter it ty x t i:=by
 ext ag o ho r y;show(aH,o,k o ho,r)
theorem xqx {P:Program}{w:World}{K:Zd}{tg:Expr}{x:Str} (t:Tok) (it:Addr):Turn P w K tg (Its x) rX it (eK,h,h.IsStrIter it "str_ascii_iterator" x t i) where
 mem:=aj
 obj:=fun i h st b hb=>by
  ext Ug st
 keep:=(HF,xt2 st (zw,k it aj o e))
 item:=by
  intro X hP hw hK hc i pins s Z H E I hf st hg;ext iU;have lt:i<x.cps.toList.length:=hg;have ex:aU x.cps (x.cps.toList[i]):=aj
  obtain⟨f0,f1,f2,f3,f4,f5⟩:46:=j5;refine wpAny_pyNext_ascii_item st ex zaU;show(zf,zT yC,I.turned (t':=yC) (mN,hb,(sb.2 b hb).trans e) f0 f1 f3 f4 f5);show(cc,o,e,c,d,id st');exact(cA,xgv (s:=zT yC) e c d az ⟨85,sgn (x.cps.toList[i]),H,I1,ju,zdS aj,st',ED⟩)
 done:=by
  intro X hP hw hK hc i pins s Z H E I hf st hg;ext iU;have ge:znT:=hg;obtain⟨f0,f1,f2,f3,f4,f5⟩:46:=j5;exact wpAny_pyNext_ascii_end jp st (by simpa using ge) (AD,I.turned (t':=s.toks) uN f0 f1 f3 f4 f5)
 self:=(zaL,wpAny_pyIter_striter_ascii st h)
noncomputable def iStr (tl:TE):TI:=fun Z H R=>tl Z H fun v H1=>∃ x:Str,v=.str x/\x.cps.all (·<128)=true/\R (Its x) H1
theorem xvc {X:Cx}{tg l:Expr}{tl:TE} (hl:PE X l tl):PI X tg l (iStr tl):=by
 intro pins s Z H R I h;show(jJ,hl pins s Z H _ I h,fun v s1 ⟨y,H1,I1,r1,x,e,ha,q⟩=>?_);ext cR;ext dZ t r1;refine wpAny_pyIter_ascii ha ?_;show(Mh,⟨66,H1,rfl,VL,xqx t _,AS,iA,q⟩);show(Mb,s1.heap.objs.size)
section
variable {X:Cx}
theorem xjv:qx .LtE (Ky,∃ i j,x=.str i/\y=.str j/\(pR (!(dA (j.cps.toList<i.cps.toList))))):=by
 intro pins s Z H x y v u Q I rx ry h;obtain⟨i,j,rfl,rfl,q⟩:83:=h;ext Ld;exact PySem.P.le_str (xa2 I q rfl)
theorem xfg:(OE,.type "range",∃ i j,xs=(m7 dI j)/\(Ax (eQ p (.rng i j)))):=by
 intro pins s Z H xs us Q I r h;show(js,i,j,rfl,q,h);obtain⟨u,w',rfl,⟨t,rfl⟩,⟨t',rfl⟩⟩:83:=xm6 r;refine call_range_2 (K5,I.laid (t':=yC) vv bu (show xbc X.prog X.w _ _ _ (.rng i j) from ⟨101,_,_,_,gf⟩))
#check _
#check L2
namespace L2
open PySem PySem.Spec PyProof.Rows
variable {q0:Bool}
section
variable {X:Cx}
theorem xl5:∀{us:aX}{ys:af},us.length=ys.length->(∀(j:Nat) (y:V) (u:Value),Am us u gb)->(wJ ys)
 | [],[],_,_=>.nil
 | u::us,mQ,hl,h=>.cons (h 0 y u rfl rfl) (xl5 (Nat.succ.inj hl) fun j y' u' e e'=>h fW y' u' e e')
noncomputable def rngL (lo hi:Int):af:=(Zu yb).map (wc,i,V.int (lo+cH))
theorem xej (hc:lT):xct X zcM (fun xs H Q=>∃ p lo hi,xs=KL/\(aR p (.rng lo hi))/\(aP,-iJ<=lo,lo<iJ,-iJ<=hi,hi<iJ)/\yb<=1000 /\
    ∀ l,ou->(fF l (fw H l (rngL lo hi)))):=by
  intro pins s Z H xs us Q I r h;obtain⟨p,lo,hi,rfl,hp,⟨h1,h2,h3,h4⟩,hn,q⟩:105:=h;ext z6;ext fe;obtain⟨t1,t2,t3,g⟩:101:=(show xbc X.prog X.w H s.heap p (.rng lo hi) from I.hok p _ hp)
  refine call_list_range jp g znZ (n:=yb) Vd (ZN hn az) fun h' tk acc' c' kp e it=>?_;show(mX,len,acc'.toList.length,(rngL lo hi).length,by rw[rngL,Za,ZT]; exact it.1,(K5,I.laid (t':=tk) kp bu (show xbc X.prog X.w _ h' _ (.lst (rngL lo hi)) from ⟨?_,(bK,acc'.toList,c',xl5 len (bL j y u ey eu),uX)⟩)))
  . rw[rngL,Za,ZT]
    exact ZN hn az
  . have eu':cO acc' u:=by simpa using eu
    obtain⟨t,e2⟩:=it.2 j u eu';have lt:j<yb:=by
      have:=h8 ey;simpa [rngL] using this
    rw[rngL,Zc,JJ lt] at ey;cases ey;show(aS,t,bW e2 Int.mul_one)
#check _
structure FunD (K:Zd) (x qual:Str) (st:Stmt) (T f:Addr) (fd:FuncData):Prop where
 ex:∃(oc:Value) (od:iB) (kV doc pm:Value) (an:iB) (cdv ct:Value) (osl:uM),
  (bT,fd,Jv x qual pU lv kq (.ref T) kV doc pm an cdv ct,GF fd,GB)
 kp:lM f
section
variable {P:Program}{w:World}{K:Zd}{mg:Str->Option Value}{base:Heap}
theorem FunD.okn {x qual:Str}{st:Stmt}{T f:Addr}{fd:FuncData}{N ps:ap}{k:Nat}{sp:Sp} (F:FunD K x qual st T f fd) (S:zcj) (len:F1)
    (hbody:∀(cdv:Value) (A:Around) (outer:List Env) (s:Shared) (H:Hp) (vs:List V) (Q:VK) (E:XK),Room q0 k (A.deeper (envOfC qual (xm st) s.heap.objs.size f cdv))->Ee ->
      (Mc,(cxOf q0 aD P w K mg base N qual kq f cdv A outer s H E).nox,lv)):FnOk q0 P w K mg base aD cJ f fd ps sp:=by
  obtain⟨oc,od,kV,doc,⟨pm,an,cdv,ct,osl,rfl,lk,hcd⟩⟩:121:=(F.ex)
  show(Uo,fun A outer s H vs Q E hr hsp=>?_,hbody cdv A outer s H vs Q E hr hsp)
theorem FunD.binds {x qual:Str}{st:Stmt}{T f:Addr}{fd:FuncData}{ps:ap}{o:Obj}{items:gJ}{n:Nat}{ds:aX} (F:FunD K x qual st T f fd) (ho:(ae,K.lookup T,o)) (hs:o.data=.seq items n) (m:Nat) (hm:(wj,m+ds.length))
    (h:∀(kV doc pm:Value) (an:Option Addr) (cdv ct:Value) (us:List Value),us.length=m ->
      ∃ k,bindArgs (Jv x qual pU lv kq (.ref T) kV doc pm an cdv ct) (jB us)=seqItems? (.ref T)>>=k/\k (some items)=pure (ps.zip y0)):xz K fd ps ds:=by
  obtain⟨oc,od,kV,doc,⟨pm,an,cdv,ct,osl,rfl,lk,hcd⟩⟩:121:=(F.ex)
  intro s us hK hl;rw[Zr] at hl;show(ag,k,h1,h2,h kV doc pm an cdv ct us aa);exact BindsTo.of_defaults rfl (hK _ _ ho) hs h1 h2
theorem xg5 {x qual:Str}{st:Stmt}{T f:Addr}{oc:Value}{od an:iB}{osl:uM}{kV doc pm cdv ct:Value} (l:GF (Jv x qual pU lv kq (.ref T) kV doc pm an cdv ct))
    (c:GB) (k:lM f):FunD K x qual st T f (Jv x qual pU lv kq (.ref T) kV doc pm an cdv ct):=zfy
#check _
#check L2
namespace L2
open PySem PySem.Spec PyProof.Rows XL
variable {q0:Bool}
noncomputable abbrev Cx.blkG (X:Cx) (scope:Scope) (zs:ap) (ys:ap) (C:Addr) (ex:ax) (s:Shared) (H:Hp) (pn:bj):Cx where
 prog:=X.prog
 w:=X.w
 K:=X.K
 mg:=X.mg
 base:=X.base
 A:=X.A
 N:=zs++ys
 s₀:=s
 H₀:=H
 env:=compEnvC scope AW C X.env
 outer:=X.stack
 stack:=X.stack
 ex:=ex
 fn:=fun _=>false
 calm:=X.calm
 pn:=pn
 xe:=vb
theorem xil {prog:Program}{w:World}{A:Around}{R:zdD}{s:Shared}{elt target iter:Expr}{ifs:jY}{scope:Scope}{pos:Pos}{it acc:Value}{env:Env} (I:eW Nat)
    (turn:∀ n s,I n s->wpAny bp A (pyNext it) (fun r s₁=>match r with
      | none=>R (.ok .next) s₁
      | ud=>wpAny bp A (letOwnedTupleGo target it v) (fun _ s₀=>wpAny bp A (assign target env v) (fun _ s₂ =>
          wpAny bp A (zex env (eval c env)) (fun ok s₃ =>
            if ok=true then wpAny bp A (eval elt env) (fun x s₄ =>
              wpAny bp A (vn "list.append" [acc,x]) (fun _ s₅=>(SZ,I m s₅)) CG s₄) CG s₃
            else (SZ,I m s₃)) CG s₂) CG s₀) CG s₁) CG s)
    (n:Nat) (h:I n s):codeAny bp A (.compLoop (UC target) 0 it acc env) R s:=by
  refine codeAny_loop rfl I (aK n s hI) n h;show wpAny _ A ((compTurn (UC target) 0 it acc env).onRaise (fun x=>do noteFrame x env; theTreesLotGoes x)) _ _ s;refine wpAny_noted ?_;rw[compTurn_list];show(bP,wpAny_standAt (Zf (Jh (turn n s hI) (aK r s₁ h₁) fun _ _ h'=>h')));cases r with
  | none=>exact Zn h₁
  | some v =>
    show(bP,Jh h₁ (fun _ s₀ h₀=>Xd h₀ (fun _ s₂ h₂=>Xd h₂ (aK ok s₃ h₃))) fun _ _ h'=>h');cases ok with
    | false=>exact Zn (cp h₃)
    | true =>
      exact Zf (Zf (Jh h₃ (fun x s₄ h₄=>Xd h₄ (fun _ s₅ h₅=>Zn (Zn (cp h₅)))) fun _ _ h'=>h'))
structure BlkG (X:Cx) (scope:Scope) (zs:ap) (ys:ap) (fr:qN):Prop where
 kind:scope.kind=.function
 own:∀ x∈zs,(ae,scope.names.lookup x,.local)
 ncell:UL
 names:∀ y∈scope.names,y.2=.local->(Vh .local)
 free:∀ n∈tE,(ae,X.env.scope.names.lookup n,.cell)
 has:∀ n,((ae,(qv).names.lookup n,.cell)\/(ae,(qv).names.lookup n,.free))->n∈tE
 slots:(Rl,X.N[i]?)=ys.map some
 ysf:∀ y∈ys,y∈tE
 ysc:∀ y∈ys,(ae,(qv).names.lookup y,.cell)\/(ae,(qv).names.lookup y,.free)
 nd:X.N.Nodup
 ndb:Ar
noncomputable def blk0 (Z:St) (fr:qN) (n:Nat):St:=List.replicate n none++(Rl,(CA).join)
section
variable {X:Cx}{pins:List (Addr × Obj)}{Z:St}{H:Hp}{s:Shared}{scope:Scope}{zs:List Str}{ys:List Str}{fr:List Nat}{fp:List Addr}
theorem BlkG.cells (B:wR) (I:av):zoy:=fun n hn=>I.ok.has n (.inl (B.free n hn))
theorem BlkG.sub (B:wR) (I:av) {n:Str}{c:Addr} (h:(ae,(AW).lookup n,c)):Gd:=by
 show(Fv,b,xs4 h);show(mq,d,B.cells I n a);rw[e] at b;rw[b,e];rfl
theorem Inv.blkG {h1:Heap}{m1:fO}{t':Nat} (B:wR) (I:av) (hf:MG) (hz:∀ b∈fp,(o9 b)) (n1:h1.Ns s.heap.objs.size m1) (k1:rK jj (ae,h1.get? b,o)) :
    Inv (X.blkG scope zs ys s.heap.objs.size fp s H nI) [] NI H (Wx h1):=by
  have sub:∀ n c,(ae,(AW).lookup n,c)->Gd:=fun n c h=>B.sub I h;have cz:∀ n c,Gd->(o9 c):=fun n c e=>by
    obtain⟨v,o,ho,_⟩:82:=I.cell n c e;exact Zz ho
  have nfs:∀ b∈fp,b∉D5:=fun b hb z=>(zqj).elim (bg yT) (zx yT);have fz:(gY,b∈D5,o9 b):=fun b hb=>by
    obtain⟨_,o,ho,_⟩:=I.stack.mem hb;exact Zz ho
  refine⟨⟨I.ok.mod,B.kind,I.ok.glob,I.ok.blt,bu,fun y z c h1 h2=>I.ok.inj y z c (sub y c h1) (sub z c h2),Ke,(fun y c hy _=>nomatch hy),I.ok.hd,I.ok.frames,gg,og ⟨?_,fun y c h=>(bX (bX yT)).1 y c (sub y c h)⟩,
      I.bs,ZN I.ok.bsz I.sz,b9 b o e hb,(og,nfs b hb),I.stack,I.stkFree⟩,
    rfl,I.bare,Un.kept k1,⟨m1,n1,fun i y v e1 e2 e3=>?_⟩,aK y c h,De,fun y c h=>I.freeC y c (sub y c h),kS,I.hok.kept k1,?_⟩
  . show(mq,c,B.cells I y (B.has y hy))
    show(aS,c,xmn (B.has y hy) e)
  . exact ZS (hz b hb)
  . rcases bg (bX yT) with z|z
    . exact I.ok.noex b o e z
    . show(yD,ZB (Zz XB) z)
  . show(we,ln,(List.replicate zs.length (none:b8)),zs.length,QS)
    by_cases lt:i<zs.length
    . have e2':NI[i]?=za:=e2
      unfold blk0 at e2';rw[ZY (aB ln lt),QH] at e2';ext Lb e2'
    . show(DU,k,∃ k,i=zs.length+k,i-zs.length)
      have e2':(Rl,(CA).join)[k]?=za:=by
        have z:NI[zs.length+k]?=za:=e2;unfold blk0 at z;rw[Jz (kQ ln),ln] at z;simpa using z
      have e1':eZ ys k y:=by
        have z:(eZ,zs++ys,zs.length+k,y):=e1;rw[Jz aa] at z;simpa using z
      rw[Zc] at e2';show(ag,j,hj,ej,Ze.mp e2');have ev:Z[j]?=za:=by
        cases q:Z[j]? with
        | none=>ext bV q ej
        | some w=>rw[q] at ej; ext Ft some ej
      have eN:cO X.N y:=by
        have z:=wI (fun l=>l[k]?) B.slots;simp only[Zc,hj,e1',Qq] at z;exact ZL.inj z
      have my:y∈ys:=Zj e1';show(Bc,m,lk,I.loc)
      show(ag,u,r,l,lk j y v eN ev (.inr (.inl znX)));show(gU,u,r,.inr (fE,B.ysc y my));rcases l with⟨kk,_⟩|⟨_,c,e,o,ho,hd⟩
      . have z:=znX
        show(bV,show (ae,X.env.scope.names.lookup y,.local) from kk,z)
      . exact⟨c,xmn (B.ysf y my) e,o,k1 c o ho,hd⟩
  . show(js,v,o,ho,hd,I.cell y c (sub y c h))
    exact(bK,v,o,k1 c o ho,hd)
  . have hp':p∈nI:=XG
    obtain⟨a1,a2,a3,a4,a5⟩:45:=I.pin p hp';exact(cL,k1 _ _ a1,a2,ZS (Zz a1),(ao,(dC (I.stkSub _ z)).elim a3 a4),a5)
  . have z:=uD B.slots
    simp only[Za] at z;simp[blk0,z]
#check _
section
variable {X:Cx}{pins:List (Addr × Obj)}{Z:St}{H:Hp}{s:Shared}{scope:Scope}{zs:List Str}{ys:List Str}{fr:List Nat}{fp:List Addr}
theorem Inv.unblkG {C:Addr}{s':Shared}{h2:Heap}{σ':St}{H':Hp}{pl:bj} (I:av) (hf:MG) (hC:DF C) (J:Inv (X.blkG scope zs ys C fp s H nI) pl σ' H' s') (sb:Jq C s'.heap h2) :
    cP H' WK:=by
  have kp:∀ b o,b≠C->(ae,s'.heap.get? b,o)->Xh:=fun b o nb g=>(sb.2 b nb).trans g;have old:(rK,jj,b≠C):=fun b o g=>ZS (ZB (Zz g) hC);have trk:(rL,(ae,H' b,u),b≠C):=fun b u hb z=>by
    have f:H' C=none:=J.free;rw[z,f] at hb;cases hb
  refine I.call' (s':=WK) J.os (ch:=fp) ⟨fun b o e n hb hx=>kp b o (old b o e) (J.base.keep b o e n hb hx),fun b o e n hb hx=>?_,fun b o e n hx=>J.base.free b o e n hx,O7,J.base.tups,J.base.frzs,J.base.tbls⟩ (aK b u hb) J.bare iA
  . show(gK,sl,J.base.slot b o e n hb hx)
    show(aS,sl,kp b _ (old b o e) q)
  . show(gK,o',J.base.there b o e hx)
    show(aS,o',kp b o' (old b o e) q)
  . refine (J.hok b u hb).stay (b9 c v hc q) (fun c q=>q) fun c xs q=>q
    rcases hc with rfl|hc
    . exact kp c v (trk c u hb) q
    . exact kp c v (trk c _ hc) q
  . obtain⟨_,a1,_,a3,a4,a5⟩:46:=yT
    exact bR a3 a1 a4 a5
#check _
noncomputable def GOk (n:Nat) (g:TG):Prop:=∀ v Z H Q,g v Z H Q->g v Z H L8
theorem xbl {i n:Nat} (h:dQ):GOk n (xcr i):=fun v Z H Q q=>⟨q,aj,FI (eG,Qo aa)⟩
noncomputable def xec (J:It) (n:Nat) (g:TG) (Z:St) (fr:qN) (tc:TT) (te:TE) (l:Addr) (H1:Hp) (Q:VK):Prop:=∃ W:Bx yL,(∃ m,W 0 m [] (qi H1 l))/\∀ i m xs H2,W i m xs H2 ->
 (J.stop i H2/\SV)\/(J.go i H2/\∀ v H3,J.yld i H2 v H3->g v (blk0 Z fr n) H3 fun σ' H3'=>tc σ' H3' fun b H4=>if FH then
  (zgv (Bt,m,W aY m' Li (fw H5 l Li))) else (Bt,m,W aY m' xs H4))
noncomputable def xk8 (wi:TI) (n:Nat) (g:TG) (fr:qN) (tc:TT) (te:TE):TE:=(j7,wi Z H fun J H1=>∀ l,vq->xec J n g Z fr tc te l H1 Q)
section
variable {X:Cx}{scope:Scope}{zs:List Str}{ys:List Str}{fr:List Nat}{elt iter tg:Expr}{g:TG}{ifs:List Expr}{px pos:Pos}{wi:TI}{tc:TT}{te:TE}
theorem xip {pins:bj}{s:Shared}{Z:St}{H:Hp}{Q:VK}{U:dB (Value->Sem Unit)}{R:bq} (hc:lT) (B:wR) (hi:Os) (hg:∀ C ex s H pn,(∀ x∈zs,(ae,(qv).names.lookup x,.local))->Ar->PG (X.blkG scope zs ys C ex s H pn) tg g) (gok:zaq)
    (hif:V6 (X.blkG scope zs ys C ex s H pn)) (he:Ww (X.blkG scope zs ys C ex s H pn)) (I:av) (h:xk8 wi zs.length g fr tc te Z H Q)
    (fin:∀ C l H' s' m,(aP,wT C,C≠X.env.locals,xG C,Hu C)->(bc,H' C=none,s'.heap.Ns C m,(∀ h2,Jq C s'.heap h2->(cP H' WK)),fF l H',compPost aN X.A X.xe U R pY C (.ok .next) s')) :
    wpAny aN X.A (gO iter) (fun v s1=>wpAny aN X.A (pyIter v) (fun it s2=>wpAny aN X.A (newList []) (fun acc s3 =>
      wpAny aN X.A (newFunctionEnv scope X.env.globals AW [] X.env.qual none .none (some X.env)) (fun cenv s4 =>
        codeAny aN X.A (.compStart EX 0 it acc { cenv with scope:=qv }) (compPost aN X.A X.xe U R acc cenv.locals) s4) X.xe s3) X.xe s2) X.xe s1) X.xe s:=by
  show(jJ,hi pins s Z H _ I h,ziB);obtain⟨it,fp,tn,J,⟨H2,rfl,I2,T,st2,f2,body⟩⟩:121:=h2;have hN:H2 s2.heap.objs.size=none:=I2.hok.fresh (Zk _);obtain⟨W,⟨m0,w0⟩,turn⟩:62:=body s2.heap.objs.size hN;refine Y8 ?_;generalize hs3:({ s2 with heap:=s2.heap.push (hR,"list",.seq ([]:aX).toArray) }:Shared)=s3;have k3:rK (ae,s2.heap.get? b,o) (ae,s3.heap.get? b,o):=fun b o g=>(cT,hs3,Zi _ g)
  have I3:cP uH s3:=by
    show(kh,hs3,I2.laid (t':=s2.toks) zdG bu ⟨jg,bK [] 0 .nil gf⟩)
  have z2:∀ b∈fp,b<s2.heap.objs.size:=fun b hb=>by
    ext zmP g
  have z3:∀ b∈fp,b<s3.heap.objs.size:=fun b hb=>by
    show(zmP,k3 b o g)
  show(bC,f3,∀ b∈fp,FpOk X pins uH b,b,hb,⟨(aB,xj (ZS (z2 b hb)),(f2 b hb).1),(f2 b hb).2⟩)
  show(cu,st3,tn 0 s3.heap,T.keep _ _ _ st2 fun b _ o g=>k3 b o g,wpAny_newFunctionEnv B.ncell (by intro y hy; simp at hy) (aK h1 n1 sb1) B.kind);show(cB,k4,rK (ae,s3.heap.get? b,o) (ae,h1.get? b,o),fun b o g=>sb1.extBut b o (ZS (Zz g)) (Zi _ g),I4,I3.blkG (t':=zmz) B f3 z3 n1 k4);have st4:tn 0 h1:=T.keep _ _ _ st3 fun b _ o g=>k4 b o g;show(bC,own',∀ x∈zs,(ae,(qv).names.lookup x,.local),x,hx,lookup_relabel_local (B.own x hx))
  -- the iterator's objects,through the loop
  have stat:(zpg,FpOk (X.blkG scope zs ys s3.heap.objs.size fp s3 uH nI) [] H' b):=fun hn b hb=>by
    obtain⟨_,a1,a2,a3,a4,a5⟩:46:=f3 b hb;exact⟨46,hn b hb,ZS (z3 b hb),(ao,(dC (I3.stkSub b z)).elim a1 a2),.inl hb,fun y c h=>a4 y c (B.sub I3 h),(dS,a5 p XG)⟩
  have loop:∀ s4:Shared,s4={ s3 with heap:=h1,toks:=zmz } ->
      codeAny aN X.A (.compLoop EX 0 Fh C6 (compEnvC scope AW s3.heap.objs.size X.env))
        (compPost aN X.A X.xe U R C6 s3.heap.objs.size) s4:=by
    rintro s4 rfl;refine xil (mW n (zmd,X.blkG scope zs ys s3.heap.objs.size fp s3 uH nI,s',s'.heap,W i n xs H')) ?_ m0
      ⟨104,0,[],_,I4,st4,(og,(f3 b hb).1),w0⟩
    rintro n s5 (⟨i,xs,H5,I5,st5,fr5,w5⟩:104);rcases turn i n xs H5 w5 with⟨stop,q⟩|⟨go,step⟩
    . show(Av,T.done (X.blkG scope zs ys s3.heap.objs.size fp s3 uH nI) rfl rfl rfl hc i [] s5 _ H5 vb I5 (stat fr5) st5 stop,(fun r s6 ⟨hr,I6⟩=>?_))
      subst hr;show(iy,m,hm,I6.loc)
      exact fin _ _ H5 s6 m ⟨I3.sz,(I3.size_lt (Zk _)).2⟩ I6.free hm (fun h2 sb=>I3.unblkG f3 bu I6 sb) q
    . show(Av,T.item (X.blkG scope zs ys s3.heap.objs.size fp s3 uH nI) rfl rfl rfl hc i [] s5 _ H5 vb I5 (stat fr5) st5 go,vL r s6 u hr h6)
      subst hr;show(Av,h6,(fun _ s7 ⟨y,H7,I7,r7,y7,st7,fr7⟩=>?_));have I7':=I7.pinned (stat fr7) (T.obj _ _ st7);show(Av,hg _ _ _ _ _ own' B.ndb _ s7 _ H7 y u _ I7' r7 (gok _ _ _ _ (step y H7 y7)),(fun _ s8 ⟨σ8,H8,I8,q8,l8,k8⟩=>?_));have back:∀{s9:Shared}{H9:Hp}{xs':af},Inv (X.blkG scope zs ys s3.heap.objs.size fp s3 uH nI) ([]++xgg fp s7.heap) σ8 H9 s9->(Bt,n,W aY m' xs' H9) ->
          (SZ (zmd,X.blkG scope zs ys s3.heap.objs.size fp s3 uH nI,s9,s9.heap,W i m xs H')):=fun {s9 H9 xs'} I9 ⟨m',lt,w9⟩=>by
        show(gU,m',lt,⟨104,aY,xs',H9,I9.unpinned.weak l8.symm (rW j v),T.keep _ _ _ st7 (fM,b,hb,o,(I9.pin Cs (Z6 _ (Z6 _ (xdx hb e)))).1),iA,w9⟩)
        . by_cases lj:j<zs.length
          . unfold blk0 at e
            rw[ZY (aB QS lj),QH] at e;ext Lb e
          . show(aQ,k8 j aa,e)
        show(ag,o,e,d,T.obj _ _ st7 b hb);exact bg (I9.pin Cs (Z6 _ (Z6 _ (xdx hb e))))
      show(Av,hif _ _ _ _ _ _ s8 _ H8 _ I8 q8,vL ok s9 H9 I9 q9);cases ok with
      | false =>
        rw[yN] at q9 ⊢;exact back I9 q9
      | true =>
        rw[bY] at q9 ⊢;show(Av,he _ _ _ _ _ _ s9 _ H9 _ I9 q9,(fun ev s10 ⟨yv,H10,I10,r10,hl,len,w10⟩=>?_));refine Jh (xdq (X:=X.blkG scope zs ys s3.heap.objs.size fp s3 uH nI) _ s10 _ H10 C6 [yv] C6 [ev] (kH,H',H'=(fw H10 s2.heap.objs.size (xs++[yv]))) I10 rfl (.cons r10 .nil) (wC,_,xs,yv,rP hl len rfl))
          (fun _ s11 ⟨_,H11,I11,_,e11⟩=>?_) (qS z.elim)
        subst e11;exact back I11 w10
  exact codeAny_compStart_list (loop _ rfl) (T.self _ 0 _ _ _ st4 (loop _ rfl))
theorem xa4 (hc:lT) (B:wR) (hi:Os) (hg:∀ C ex s H pn,(∀ x∈zs,(ae,(qv).names.lookup x,.local))->Ar->PG (X.blkG scope zs ys C ex s H pn) tg g) (gok:zaq) (hif:V6 (X.blkG scope zs ys C ex s H pn)) (he:Ww (X.blkG scope zs ys C ex s H pn))
    (hs:Ui:=by intro _; rfl):PE X EX (xk8 wi zs.length g fr tc te):=by
  intro pins s Z H Q I h;show(qo,eval_ListComp,wpAny_comprehension_free (use:=none) rfl hs (xot (B.cells I)) B.kind B.names (xip hc B hi hg gok hif he I h fun C l H' s' m _ _ hm iv q=>?_));show(aH,m,hm,fun h2 sb=>(eF,.ref l,H',iv h2 sb,q))
theorem xcp {j:Nat}{y:Str}{py spos:Pos} (hc:lT) (B:wR) (hi:Os) (hg:∀ C ex s H pn,(∀ x∈zs,(ae,(qv).names.lookup x,.local))->Ar->PG (X.blkG scope zs ys C ex s H pn) tg g) (gok:zaq) (hif:V6 (X.blkG scope zs ys C ex s H pn)) (he:Ww (X.blkG scope zs ys C ex s H pn))
    (hj:cO X.N y) (hy:Loc X.env.scope y) (hf:X.fn y=true\/(ae,X.env.scope.names.lookup y,.local):=by first|ext ww|ext zd|ext dW)
    (hsw:zaA EX (some IE) spos.line true:=by rfl)
    (hs:Ui:=by intro _; rfl):PS X (.Assign [IE] EX spos) (tAsg (xk8 wi zs.length g fr tc te) (xcr j)):=by
  intro pins s Z H D I h;rw[exec_Assign_Name_used _ _ _ _ hsw];show(bP,wpAny_standAt (Zf ?_));show wpAny _ _ (do let _ <- comprehension EX scope X.env _ (newList []) false (gO iter) (some (assign IE X.env))) _ _ s;refine Zf (Jh (wpAny_comprehension_free (use:=some (assign IE X.env)) (Q:=fun _ s'=>SP X pins D .next s') rfl hs (xot (B.cells I)) B.kind B.names
    (xip hc B hi hg gok hif he I h fun C l H' s' m hC hn hm iv q=>?_)) (fun _ s' z=>Zn (Zn z)) fun _ _ e=>e)
  show wpAny _ _ (assign IE X.env (.ref l)) _ _ _;have J:vC:=iv s'.heap (.refl ..);refine wpAny_assign_Name (xj5 (v:=V.ref l) J B.nd hj hy rfl (vL s2 J2 a sb ha) hf);have na:a≠C:=by
    rcases ha with z|z
    . rw[z]; exact Z1 (bg hC)
    . exact (bX hC).1 _ _ z
  refine⟨m,?_,au h2 s3⟩
  . obtain⟨o,es,ep,g,r⟩:102:=hm
    exact(uy,o,es,ep,(sb.2 C (Z1 na)).trans g,r)
  . exact(bK,_,H',J2.turned (t':=s2.toks) (fun b o nb g=>(s3.2 b nb).trans g) hn (bg hC) (.inr hC.1) (zx hC) (bX hC).2,q)
#check _
noncomputable def xls (scope sc0:Scope) (N0:ap) (zs:ap) (ys:ap) (fr:qN):Bool :=
 scope.kind == .function&&zs.all (fun x=>scope.names.lookup x == some .local)&&scope.names.all (fun y=>y.2 != .cell)&&scope.names.all (fun y=>y.2 != .local||scope.names.lookup y.1 == some .local) &&
 (tE).all (fun n=>sc0.names.lookup n == some .cell)&&(Rl,N0[i]?) == ys.map some&&ys.all (fun y=>zpp == some .free)&&(dA N0.Nodup)&&(dA Ar)
theorem xrb {X:Cx}{scope sc0:Scope}{N0:ap}{zs:ap}{ys:ap}{fr:qN} (chk:xls scope sc0 N0 zs ys fr=true) (es:X.env.scope=sc0) (eN:X.N=N0):wR:=by
 unfold xls at chk;simp only[ZE,beq_iff_eq,Qj,decide_eq_true_eq] at chk;obtain⟨⟨⟨⟨⟨⟨⟨⟨a1,a2⟩,a3⟩,a4⟩,a5⟩,a6⟩,a7⟩,a8⟩,a9⟩:=chk;show(aw,nc,UL,fun y hy=>(Eb,a3 y hy),⟨a1,a2,nc,aK y hy hl,fun n hn=>(aB,es,a5 n hn),fun n h=>xn2 nc n h,aB eN a6,Ke,fun y hy=>xnn (a7 y hy),aB eN a8,a9⟩)
 .show(EK,a4 y hy,hl);simpa using z
 .exact Zg.mpr (dH,(y,.free),ZH.mpr ⟨JH (a7 y hy),aj⟩)
theorem xaw {X:Cx}{scope sc0:Scope}{N0:ap}{zs:ap}{ys:ap}{fr:qN} (chk:xls scope sc0 N0 zs ys fr=true) (es:X.env.scope=sc0) (eN:X.N=N0) (_:X.stack=X.env::X.outer):wR:=xrb chk es eN
theorem xby {K:Zd}{m n:Nat}{t:TGs} (h:zht):GOk n (gTup K m t):=fun v Z H Q q=>by
 obtain⟨a,xs,e,hs,hl,q⟩:=q;exact⟨a,xs,e,hs,hl,h _ _ _ _ q⟩
theorem xbm {n:Nat}:∀ vs Z H Q,gNil vs Z H Q->gNil vs Z H L8:=fun vs Z H Q q=>by
 obtain⟨e,q⟩:=xru q;ext cR;ext rR q hV
theorem xaa {i n:Nat} (hi:dQ) {t:TGs} (h:zht) :
    ∀ vs Z H Q,xm0 (xcr i) t vs Z H Q->xm0 (xcr i) t vs Z H L8:=fun vs Z H Q q=>by
  show(js,v,r,rfl,q,xry q);have z:=h _ _ _ _ q;show(bC,e2,∀(j:Nat),zap oY Z,j,hj,(eG,Qo aa))
  show(we,e1,oY,Z.length,aj)
  have key:(Bw (Wt,(oY).length,∀ j,zap σ' oY))=(fun σ' (H':Hp)=>(Wt,Z.length,∀ j,zap σ' Z)):=by
    funext σ' H';rw[e1];refine propext ⟨(zmX,(c j hj).trans (e2 j hj)),(zmX,(c j hj).trans (e2 j hj).symm)⟩
  ext b6 key z z
theorem xc8 {J:It}{n:Nat}{g:TG}{Z:St}{fr:qN}{tc:TT}{te:TE}{l:Addr}{H1:Hp}{Q:VK} (len:Nat) (Pv:Nat->yL) (h0:Pv 0 [] (qi H1 l)) (hgo:∀ i xs H,i<len->Pv i xs H->J.go i H)
    (step:∀ i xs H2 v H3,i<len->Pv i xs H2->J.yld i H2 v H3->∀ N:yL,(∀ xs' H',Pv aY xs' H'->N xs' H')->g v (blk0 Z fr n) H3 fun σ' H3'=>tc σ' H3' fun b H4=>if FH then
      (zgv,N Li (fw H5 l Li)) else N xs H4)
    (fin:∀ xs H2,Pv len xs H2->J.stop len H2/\SV):xec J n g Z fr tc te l H1 Q:=by
  show(im,fun i m xs H=>(bT,m,len-i,i<=len,Pv i xs H),So len);rintro i m xs H2 (⟨rfl,hi,p⟩:43);by_cases lt:i<len
  . show(qY,hgo i xs H2 lt p,fun v H3 y=>step i xs H2 v H3 lt p y (fun xs' H'=>∃ m',(aP,m'<len-i,m'=len-aY,aY<=len,Pv aY xs' H')) fun xs' H' q=>ib _ aa rfl lt q)
  . ext tP i len aa;show(eD,fin xs H2 p)
section
variable {X:Cx}{pins:List (Addr × Obj)}{Z:St}{H:Hp}{s:Shared}
theorem Inv.adopt {p:Addr}{o:HO} (I:av) (n:rF) (h0:wT p) (hL:p≠X.env.locals) (hC:xG p) (hp:∀ q∈nI,q.1≠p)
    (new:xbc X.prog X.w (eQ p o) s.heap p o):cP (eQ p o) s:=by
  show(aw,ne,(rL,iY,b≠p),(oA,xi e n),⟨I.ok,I.os,I.bare,⟨I.base.keep,I.base.slot,bL b ob e hn hx,I.base.there,LM,fM b ob u ?_,eP b ps ?_⟩,I.loc,I.cell,?_,rW x c,au q hq,v0,I.len⟩)
  . show(aQ,xj (ZS (wg h0)),I.base.free b ob e hn hx)
  . have z:=I.base.tups b xs e
    show(cE,ne b _ z,z)
  . have z:=I.base.frzs b ob u e
    show(cE,ne b _ z,z)
  . show(pb,m,z,I.base.tbls b ps e,m,bO (ne b _ z) z)
  . show(zB,hL,I.free)
  . show(cE,hC x c e,Pc)
  . show(iW,a1,a2,a3,I.pin q hq)
    show(aH,a1,bO (hp q hq) a2,a3)
  . ext B2 p
    . ext rD hb xk e;exact new
    . rw[xj hb] at e
      exact (zdn).stay OM (HW (ne c _ q)) (Hd (ne c _ q))
theorem Inv.thaw {d:Addr}{o:Obj}{u:HO} (I:av) (e:aR d KY) (nf:wL):cP (eQ d u) s:=by
 have ne:∀ b v,(aR b v)->(∀ o' u',v≠.frz o' u')->b≠d:=fun b v h1 h2 z=>by
  subst z;ext bI e h1 h1;exact h2 _ _ rfl
 have ne0:(gY,cZ,b≠d):=fun b h1 z=>by
  subst z;ext bV e h1
 refine⟨I.ok,I.os,I.bare,⟨I.base.keep,I.base.slot,bL b ob q hn hx,I.base.there,aK b xs q,b9 b ob v q,aK b ps q⟩,I.loc,I.cell,?_,aK x c q,kS,aK b v q,I.len⟩
 .have z:=I.base.free b ob q hn hx;show(cE,ne0 b z,z)
 .have z:=I.base.tups b xs q;show(cE,ne b _ z Nt,z)
 .have z:=I.base.frzs b ob v q;have hb:b≠d:=fun w=>by
   subst w;exact nf _ _ q
  ext cE hb z
 .obtain ⟨m,z⟩:=I.base.tbls b ps q;show(aS,m,bO (ne b _ z Nt) z)
 .show(oM,ne0 _ I.free,I.free)
 .rw [xj (ne0 _ (I.freeC x c q))];exact I.freeC x c q
 .obtain ⟨a1,a2,a3⟩:43:=Sc;show(aH,a1,bO (ne0 _ a2) a2,a3)
 .have st:∀(a:Addr) (v:HO),xbc X.prog X.w H s.heap a v->xbc X.prog X.w (eQ d u) s.heap a v:=fun a v k =>
   k.stay OM (HW (ne c _ q Nt)) (Hd (ne c _ q Nt))
  ext B2 d
  .ext rD hb xk q;obtain⟨g,ok⟩:=I.hok b _ e;exact st _ _ ok
  .rw [xj hb] at q;exact st _ _ (I.hok b v q)
theorem Inv.nofrz {d:Addr}{kvs:bw} (I:av) (e:sr d):wL:=fun o' u' z=>by
 ext ziU
theorem KV.get:∀{kvs:bw}{vs:OQ}{i:Nat}{k:Key}{x:V},j0->pk->∃ u,(aU vs (k,u))/\nR
 | _,_,_,_,_,.nil,e=>AI
 | _,(_,_)::_,0,_,_,.cons r _,e=>by
  ext A5;obtain⟨r1,r2⟩:=r
  dsimp only at r1 r2
  subst r1;exact cA r2
 | _,_,aY,k,x,Kf,e=>by
  show(ag,u,h1,h2,KV.get (i:=i) (k:=k) (x:=x) t uX);ext aH u qw h2
theorem xpy {P:Program}{w:World}{k:Key}{u:Value} (h:(oa).is k u=true):zbB:=by
 rcases xbz (vw,xfu k u,h) with⟨i,t,rfl,rfl⟩|⟨x,t,rfl,rfl⟩
 .exact ld t
 .exact ld t
theorem xin {d:Addr}{o:Obj}{kvs:bw}{ep:Nat} (I:av) (e:Vu) (hep:∃ es,kJ):∃ vs,j0/\s.heap.DictAt nB d vs ep:=by
 obtain⟨g,_,_,⟨vs,rel,o',es',ep',g',ex,hdat,hk,hp,hn⟩⟩:44:=I.hok d _ e;ext bI g g' g';obtain⟨es,he⟩:=hep;ext bI he hdat hdat;show(aH,vs,rel,⟨86,o,_,g,ex,he,hk,hp,hn⟩)
#check _
noncomputable def Iti (d:Addr) (o:Obj) (kvs:bw):It :=
 (zlp,∃ p k x,(aP,pk,oN p,rF,H'=(Cl [kV k,x])))
theorem xmz {P:Program}{w:World}{K:Zd}{elts:jY}{x1}{tpos:Pos} (d it:Addr) (o:Obj) (kvs:bw) (ep:Nat) (hep:∃ es,kJ) :
    Turn P w K wU (Iti d o kvs) rX it (eK,h,∃ ok ov,IsItemIter h it d i kvs.length ep ok ov) where
  mem:=aj
  obj:=fun i h st b hb=>by
    ext sU;ext DI;exact⟨_,st,fun v z=>by
      ext Mp⟩
  keep:=fun i h h' ⟨ok,ov,st⟩ k=>⟨ok,ov,PQ⟩
  item:=by
    intro X hP hw hK hc i pins s Z H E I hf st hg;ext iU;ext DI;ext tN lt hg;ext Nf;obtain⟨f0,f1,f2,f3,f4,f5⟩:46:=j5;ext zkh;rw[hl] at st;refine wpAny_pyNext_items_item st da hv fun key h' hkey hout ht hz hkp=>?_;ext vT zgg;have kk:Nz WY:=(IW,(hsb.2 b hb).trans (hkp b o hb g));show(zf,zpv,I.turned (t':=s.toks) kk f0 f1 f3 f4 f5);ext j4 n0 nL nC nP UZ;ext zfL;show(aw,hp,(UT,#[key,u]),(hsb.2 _ pne).trans ht,⟨85,Gy,W4 [kV k,x],I1.adopt n0 I.sz nL nC nP (Xr,[key,u],.cons (xpy hkey) (.cons ru .nil)),rfl,⟨104,_,k,x,hx,rfl,n0,rfl⟩,?_,iA⟩)
    . rw[<- hl] at hit'
      exact cD _ hit'
    . ext sU;ext zB pne f0
  done:=by
    intro X hP hw hK hc i pins s Z H E I hf st hg;ext iU;ext DI;ext tN le hg;ext Nf;obtain⟨f0,f1,f2,f3,f4,f5⟩:46:=j5;ext F3;show(b6,hl,st,wpAny_pyNext_items_end jp st da (Eb Xz) (AD,I.turned (t':=s.toks) uN f0 f1 f3 f4 f5))
  self:=zfM
noncomputable def xuj (X:Cx) (to:TE):TI:=(Ma,H1 d=some (.dK kvs),∀ ob,wL->R (Iti d ob kvs) wN)
section
variable {X:Cx}{o:Expr}{to:TE}{elts:List Expr}{x1:_}{tpos apos cpos:Pos}
theorem xro (ho:Kr) (hbase:F4 "items":=by rfl) (hline:F6:=by rfl) :
    PI X wU (zM "items" []) (xuj X to):=by
  intro pins s Z H R I h;show(zkf,ho pins s Z H _ I h,fun v s1 ⟨x,H1,I1,r1,q1⟩=>?_);obtain⟨d,kvs,e1,e,q⟩:83:=q1;ext RK;obtain⟨z,hd,⟨vs,rel,dd⟩⟩:43:=xgz I1.hok e;obtain⟨ob,es,ep,g,ex,hdat,hk,hp,hn⟩:106:=id dd;refine⟨86, "dict", "dict.items",JQ,YT,PySem.F.type_dict_items,dd.typeIs,au a e2,zjs⟩
  . cases e2
    show(aH,ob,g,bg ex)
  refine YU YT dd.typeIs PySem.F.entry_dict_items zlf (meets_dict_items nB d hd) (fE ⟨vs,dd⟩);show(cu,da,(W0,"dict_items",#[i9]).DictAt nB d vs ep,⟨86,ob,es,Zi _ g,ex,hdat,hk,hp,hn⟩,wpAny_pyIter_items (s:=Mg) AS da ?_);ext zen
  have I3:cP wN s2:=(zeL,I2.hok d _ e);have I4:cP wN (L6,#[.none,Io,i9,vR,zab,Bp,.none,.none]) :=
    zmD
  have fin:PIE X pins Z wU R C6 (L6,#[.none,Io,i9,vR,zab,Bp,.none,.none]):=by
    show(zjf,⟨66,wN,rfl,I4,xmz d _ ob kvs ep ⟨es,hdat⟩,dM .none .none,iA,q ob (I1.nofrz e)⟩)
    . ext F3
      show IsItemIter _ _ d 0 kvs.length ep .none .none;ext aQ hl gf
    . show(L7,s2.heap.objs.size)
  exact fin
theorem xq6 {pins:bj}{Z:St}{Q:VK}{u:Value}{s:Shared} (h:EP X pins Z (kH H2 zfF) u s):EP X pins Z Q u s:=by
 obtain⟨v,H2,I2,r2,⟨d,ob,u',e,nf,q⟩⟩:83:=h;exact(bD,v,_,I2.thaw e nf,r2,q)
theorem xsx {e:Expr}{t:TE} (h:PE X e t):PE X e (j7,t Z H fun v H2=>zfF):=fun pins s Z H Q I q =>
 thn (h pins s Z H _ I q) (qS,xq6 z)
#check _
#check L2
namespace PySem.F
theorem xl_plain_dict_loop:plainId "dict.update.loop"=true:=aG
theorem xl_entry_dict_loop:(ae,entryFor table "dict.update.loop",Builtin.«dict.update.loop»):=entryFor_of_tree (by kernel_rfl)
theorem xl_list_nokeys:typeLookup (.type "list") "keys"=pure none:=by rw[typeLookup_type,builtinLookup_eq_fast]; kernel_rfl
#check PySem.F
namespace L2
open PySem PySem.Spec PyProof.Rows XL
variable {q0:Bool}
theorem xp5 {prog:Program}{w:World}{A:Around}{E:bq}{s:Shared}{a:Addr}{o:Obj}{xs:gJ}{k:Nat}{Q:E8}
    (hx:Dk o) (hc:IV "list") (hdat:o.data=.seq xs k) (hd:zdA) (hA:zbj)
    (h:∀ h' tk,(rK jj wY)->Q none Ll):wpAny bp A (getAttr? (.ref a) "keys") Q E s:=by
  obtain⟨c,dct,dat,sl⟩:=o;simp only at hc hdat hd;subst hc hdat hd;ext zV d;have hT:∀ tk',(⟨hp,g,d,tk',os⟩:Shared).TypeIs (.ref a) "list":=fun _=>dL hx
  show(ah,f1,sub_AttributeError,f3,Q7.lookup);show(ah,f4,Q7.bind (.ref a),f5,am_list_getattr_none);unfold getAttr? getAttrBy? getAttrBy
  repeat (any_goals (first|ext dW|exact hT _|((with_reducible show wpAny _ _ (call (Qn "list.__getattribute__") _ _) _ _ _); refine Wi Q7 (hT _) am_entry_list_getattribute (F.args_list_getattribute_2 _ _) (meets_getattribute_miss_list a xs k sl "keys" _ F.xl_list_nokeys aG (by size_fits)) ⟨hx,hA,b9 h' tk' e hx'⟩)|wp_step))
  show(FR,t',u',he,hx'.there)
  have hk:=hx'.of.keeps;show wpAny _ _ (getattributeRaised _ _ _ _ _ _ _) _ _ _;unfold getattributeRaised
  repeat (any_goals (first|ext dW|wp_step))
  exact h _ _ hk
section
variable {X:Cx}{pins:List (Addr × Obj)}{Z:St}{H:Hp}{s:Shared}{a:Addr}{y v:V}{u r:Value}{A:Around}{E:Value->Shared->Prop}
theorem xo4 {H':Hp}{Q:yj} (hu:zbP) (I:av) (g:DPut H a y v H') (ry:gb) (rv:RelV v r) (h:OY vC) :
    wpAny aN A (dictSet a u r) Q E s:=by
  rcases g with⟨kvs,k,e,ey,l,eH⟩|⟨kvs,k,b,e,ey,eb,l,eH⟩
  . subst ey eH
    obtain⟨z,hd,⟨vs,rel,dd⟩⟩:43:=zdz;show(zeS,wpAny_dictSet_pairs (hsz:=hz) zg dd Nl);show(TW,hl,rel.put k rv)
  . subst ey eH
    ext WO;obtain⟨z,hd,⟨xs,rel,dd⟩⟩:43:=zdy;show(zfJ,wpAny_dictSet_heap (hsz:=hz) (show (PV).room A from hu) AM dd Nl);obtain⟨q,es,ep,hq,h2,h3,h4,_,h5⟩:106:=dd';refine xeb I yo hs Sf ⟨hl,hd,_,(rel.put k eb rv).keeps (aK c ys ec),⟨105,q,es,ep,hq,h2,h3,h4,h5⟩⟩;show(cE,xdb ec e dF,ec)
theorem DPut.stay {d b:Addr}{H':Hp}{o:HO} (g:DPut H d y v H') (e:aR b o) (n1:∀ kvs,o≠Lk) (n2:∀ kvs,o≠.dT kvs):(ae,H' b,o):=by
 rcases g with⟨kvs,k,e2,_,_,rfl⟩|⟨kvs,k,b2,e2,_,_,_,rfl⟩
 .show(oM,xdb e e2 (n1 _),e)
 .show(oM,xdb e e2 (n2 _),e)
theorem DPut.free {d b:Addr}{H':Hp} (g:DPut H d y v H') (e:cZ):A4:=by
 rcases g with⟨kvs,k,e2,_,_,rfl⟩|⟨kvs,k,b2,e2,_,_,_,rfl⟩
 .show(eE,kB (xi e2 e),e)
 .show(eE,kB (xi e2 e),e)
#check _
inductive xem (d:Addr):Hp->(mV KR)
 | nil {H:Hp}:xem d H [] H
 | cons {H H1 H2:Hp}{y v:V}{r:KR}:DPut H d y v H1->xem d H1 r H2->xem d H ((y,v)::r) H2
theorem xhh {X:Cx}{pins:bj}{Z:St}{A:Around}{R:zdD} (hh:A.in1.handled=none) (hu:A.in1.units<cLine) {l it d:Addr} :
    ∀(ps:DK) (pre:af) (j:Int) (H H2:Hp) (s:Shared),av->(vd l (pre++ps.map fun p=>.ref aL))->Vn->xem d H (ps.map (·.2)) H2 ->
      s.heap.IsListIter it l pre.length->FpOk X pins H it->(∀ s',(cP H2 s')->(zaf s')) ->
      codeAny aN A (.builtin "dict.update.loop" (jB [i9,Fh,rawInt j,.none])) R s
  | [],pre,j,H,H2,s,I,hl,hp,dp,st,fo,fin=>by
    cases dp;obtain⟨z,its,n,r,hl2,e⟩:=I.lstM hl;obtain⟨f0,f1,f2,f3,f4,f5⟩:46:=fo;show(zfV,wpAny _ A.in1 (uW>>=_) _ _ s);show(bP,wpAny_pyNext_list_end hh st (yW e ju) (by simp at hl2 ⊢; omega) (au h' eb));show wpAny _ A.in1 (Builtin.Dict.addKeywords d []>>=_) _ _ _;exact Zf (Zn (Zn (fin _ (I.turned (t':=s.toks) uN f0 f1 f3 f4 f5))))
  | (a,y,v)::ps,pre,j,H,H2,s,I,hl,hp,dp,st,fo,fin=>by
    have fo':=fo;obtain⟨f0,f1,f2,f3,f4,f5⟩:46:=fo;cases dp with
    | @cons _ H1 _ _ _ _ g dp =>
    obtain⟨z,its,n,r,hl2,e⟩:=I.lstM hl;show(ag,u,hu1,ru,r.get (i:=pre.length) (x:=bb) aj);ext rJ u a ru;show(zfV,wpAny _ A.in1 (uW>>=_) _ _ s);show(bP,wpAny_pyNext_list_item st (yW e ju) (x:=bb) (by simpa using hu1) zaU);show(zf,nu,I.turned (t':=s.toks) (mN,hb,(sb.2 b hb).trans e) f0 f1 f3 f4 f5);obtain⟨z2,ts,rt,ot,et,ct,nt,dt⟩:=I1.hok a _ (hp _ Zm);obtain⟨uk,uv,rfl,rk,rv⟩:83:=xm6 rt;show wpAny _ A.in1 (holding jN _>>=_) _ _ _;refine Zf (J0 ?_);refine Zf (wpAny_tryCatch ?_);unfold Builtin.Dict.pairItems;show(bP,(QJ (T:="tuple") ⟨ot,et,ct⟩ ?_));rw[aT az];show(bP,wpAny_seqItems et dt (Zn ?_));show wpAny _ A.in1 (holding [uk,uv] (dictSet d uk uv)) _ _ _;have ob:∀ b∈rX,(U6 wY):=fun b hb=>by
      show(Ug,id st')
    have I1':=I1.pinned (fp:=rX) (fun b hb=>by
      ext sU;exact fo') ob
    refine J0 (xo4 hu I1' g rk rv (au s' I2));ext zkk;have fo2:FpOk X pins H1 it:=⟨46,g.free f0,f1,f2,f3,f4,f5⟩
    have st2:s'.heap.IsListIter it l (pre++[V.ref a]).length:=by
      rw[Zr];exact st'.at (zw,(I2.pin (it,o) (Z6 _ (Z6 _ (xdx aj e)))).1)
    refine xhh hh hu ps (pre++[V.ref a]) fW H1 H2 s' I2.unpinned ?_ Sb dp st2 fo2 fin
    . have z:=g.stay hl NR NR
      rw[z];simp
    . exact g.stay (hp p (Zl _ hp')) NR NR
inductive xtq (xs:af) (H:Hp) (Q:VK):Prop
 | mk (l:Addr) (ps:DK) (e_:xs=[.ref l]) (r_:(aR l (.lst (ps.map OR)))/\Vn/\∀ d,(bo d)->∃ e H2,(e=.dK []\/e=.dT [])/\xem d (eQ d e) (ps.map (·.2)) H2/\(fF d H2))
theorem xc5 {X:Cx} (hc:lT) (hu:X.A.units+3<cLine):xct X zcH xtq:=by
 intro pins s Z H xs us Q I r h;obtain⟨l,ps,rfl,hl,hp,q⟩:=h;ext z6;ext zt l;refine callType_codes (Q₁:=fun obj s₁=>(eO obj s.heap.objs.size)/\s₁=zqy) F.kt_called_dict (F.kt_typeCall_dict_1 _) F.entry_dict_init (kt_code_dict_new _ nS) ?_;rintro obj s₁ ⟨rfl,rfl⟩;obtain⟨e,H2,he,dps,q2⟩:83:=q s.heap.objs.size I.fresh;have I1:zos zqy:=by
  refine I.laid (t':=s.toks) zdG bu ?_;rcases he with rfl|rfl
  .exact xhq s.heap I.big
  .exact xlu s.heap I.big
 have hT:(Shared.mk US s.gens s.drawn s.toks s.os).TypeIs (.ref s.heap.objs.size) "dict":=dL gf
 have nl:l≠s.heap.objs.size:=fun z=>by
  rw[z,I.fresh] at hl;cases hl
 have hl1:(ae,upd H s.heap.objs.size e l,.lst (ps.map OR)):=bO nl hl
 obtain⟨z,its,n,rr,hll,el⟩:=I1.lstM hl1;show(im,hT,F.args_dict_init_2 _ _);unfold Builtin.«dict.__init__»;ext Fo;unfold Builtin.Dict.selfAndRest;show(bP,Qc hT ?_);show wpAny _ _ (pure (s.heap.objs.size,[Zq l])) _ _ _;ext vY;show wpAny _ _ (Builtin.Dict.updateFrom "dict.__init__" s.heap.objs.size pY [] .none) _ _ _;unfold Builtin.Dict.updateFrom;show(bP,QJ (T:="list") (dL el) ?_);rw[aT az];show(bP,xp5 el rfl rfl rfl jp (aK h' tk hk));have I2:=I1.kept (h':=h') (t':=tk) hk;show wpAny _ _ (rule _>>=_) _ _ _;refine Zf (wpAny_rule ?_);show(bP,(Q1 (yW,hk _ _ el,ju) ?_));ext zkk;show(cu,I3,zos _,I2.kept (t':=tk) (h':=h'.push (hR,"list_iterator",.fields #[pY,vR])) vv,xhh (A:=X.A.in1) jp (vD,zdJ+1,cLine) ps [] 0 _ H2 _ I3 (by simpa using hl1) Sb dps ?_ ?_ (au s' I'))
 .rw [oG (hp p hp') I.fresh];exact hp p hp'
 .exact AS
 .exact I2.fpOk (Zk _) (I2.hok.fresh (Zk _))
 .exact cp (eF,.ref _,H2,I',q2)
theorem xgp {X:Cx}{e:Expr}{t1 t2:TE} (h1:PE X e t1) (h2:PE X e t2):PE X e (j7,t1 Z H Q\/t2 Z H Q):=fun pins s Z H Q I h=>h.elim (h1 pins s Z H Q I) (h2 pins s Z H Q I)
noncomputable def Itrs (lo d:Int) (n:Nat):It:=(UQ,dQ,x,x=.int (lo+cH*d),n<=i)
theorem xl2 {P:Program}{w:World}{K:Zd}{tg:Expr} (it:Addr) (lo d:Int) (n:Nat):Turn P w K tg zdc rX it (zhj d) where
 mem:=aj
 obj:=fun i h st b hb=>by
  ext sU;exact⟨_,st,fun v z=>by
   ext Mp⟩
 keep:=HF PQ
 item:=by
  intro X hP hw hK hc i pins s Z H E I hf st hg;ext iU;obtain⟨f0,f1,f2,f3,f4,f5⟩:46:=j5;show(zge,d,W.item i s _ _ hg st fun v h' tk hv st' kk=>?_);show(zf,Ll,I.turned zqb f0 f1 f3 f4 f5);exact(cA,xgv (s:=Ll) (n:="range_iterator") st' rfl rfl az ⟨85,.int (lo+cH*d),H,I1,ld t,nS,st',ED⟩)
 done:=by
  intro X hP hw hK hc i pins s Z H E I hf st hg;ext iU;obtain⟨f0,f1,f2,f3,f4,f5⟩:46:=j5;show(zgs,I.turned (t':=s.toks) uN f0 f1 f3 f4 f5)
 self:=zjl
theorem xfq (a b:Int):Builtin.Range.rangeSize a b (-1)=(kT,b,a,a-b,0):=by
 unfold Builtin.Range.rangeSize;rw[ay az];simp only[Int.neg_neg,Int.ediv_one];ext me
theorem xni {a b:Int} (ha:-iJ<=a) (ha':a<iJ) (hb:-iJ<=b) (hb':b<iJ):Builtin.Range.small a b (-1)=true:=by
 unfold Builtin.Range.small;rw[xfq];simp only[Builtin.Range.rangeFitsLong,ZE,Bool.or_eq_true,decide_eq_true_eq,beq_iff_eq,(qD,¬ ((cQ,-1)>0)),if_false];ext me
section
variable {X:Cx}{tg:Expr}
theorem xjf {pins:bj}{Z:St}{H:Hp}{s:Shared}{R:Lv}{E:bq}{lo hi d:Int}{n:Nat}{t u v:Tok}{tk:Nat} (I:av) (sm:Builtin.Range.small lo hi d=true) (sz:(Vx d)=n)
    (q:R zdc H):wpAny aN X.A zjU Xn E (rZ,CJ d):=by
  refine wpAny_pyIter_range (IsRange.new ..) sm ?_;have I1:m6 (rZ,CJ d):=I.kept vv;refine⟨121,X8,[X8],_,_,⟨66,H,rfl,
    zcX vv,xl2 _ lo d n,?_,iA,q⟩⟩
  . have e1:lo+zb*d=lo:=aj
    have e2:(gM n)-zb=(Vx d):=jr sz
    show IsRangeIter _ _ (lo+zb*d) ((gM n)-zb) d;ext cq e1 e2 gf
  . ext Mb X8
noncomputable def xxk (ta:TA):TI:=(MP,∃ i j d:Int,vs=(BH dI j d)/\zhp/\((d=1/\R (Itrs i 1 (gV j i)) H1)\/(d=-1/\R (Itrs i (-1) (gV i j)) H1)))
theorem xj0 {a b c:Expr}{ta:TA}{p pos:Pos} (hg:zcv) (hm:zcA) (ha:PA X [a,b,c] ta) (hs:(xT [a,b,c])=[(false,D0),nJ b,nJ c]:=by rfl) (hs2:(xT [b,c])=[nJ b,nJ c]:=by rfl) :
    PI X tg (Sn "range" [a,b,c]) (xxk ta):=by
  intro pins s Z H R I h;show(Vi,(JA (thn (ha pos pins s Z H _ I h) fun us s1 ⟨vs,H1,I1,r1,q1⟩=>?_) (bW hs hs2) (eB hs2)));obtain⟨i,j,d,e,⟨q1,q2,q3,q4⟩,q⟩:103:=q1;ext cR;cases r1 with
  | cons r rr =>
    cases rr with
    | cons r' rr =>
      cases rr with
      | cons r'' rr =>
        ext znm;ext dZ t'' r'';rcases q with⟨rfl,q⟩|⟨rfl,q⟩
        . exact call_range_3 az (xjf I1 (small_one q1 q2 q3 q4) Vd q) (YB (QM az))
        . exact call_range_3 az (xjf I1 (xni q1 q2 q3 q4) (by rw[xfq]; ext me) q) (YB (QM az))
#check _
theorem xfl {xs:af}{us:aX} (r:kX) {j:Nat} (h:j<us.toArray.size):∃ x,SS/\RelV x us.toArray[j]:=by
 have hl:=r.length;have hj:j<xs.length:=DR h
 show(ag,u,h1,h2,r.get (x:=Cq) Ct);ext im Cq Ct;have:us.toArray[j]=u:=by
  have z:=Zh.mp h1;obtain⟨z1,z2⟩:=z;simpa using z2
 ext aQ this h2
theorem xfk {A:Around}{k:Nat} (hr:AT):zdV 3:=gL hr.un
theorem xbk {A:Around}{k:Nat} (hr:AT):zdV 20:=gL hr.un
theorem xpc {X:Cx}:AA "len" (fun xs H Q=>∃ a kvs,bT xs jN B5 (mw kvs.length)):=by
 intro pins s Z H xs us Q I r h;obtain⟨a,kvs,rfl,e,q⟩:83:=h;ext z6;ext zt a;exact xw7 I (.inl e) fun t s' I'=>(bD,on,H,I',ld t,q)
inductive Ents (w:World):bA zbm bw
 | nil:Ents w [] []
 | cons {k:Key}{x:V}{key val:Value}{h:Int}{es:zbm}{kvs:bw} (hh:h=keyH w k) (hk:RelV (kV k) key) (hv:RelV x val) (r:Ents w es kvs):Ents w (⟨h,key,val⟩::es) (zE::kvs)
noncomputable def xna (w:World) (K:Zd) (D:Addr) (kvs:bw):Prop:=(AE D)/\∃(es:o6) (ep:Nat),(Ac,D,zcH,none,.dict es ep,#[])/\Ents w es.toList kvs/\(kvs.map (·.1)).Nodup
theorem Ents.ok {P:Program}{w:World}{es:zbm}{kvs:bw} (h:Ents w es kvs):∃ vs,j0/\Pairs oa es vs/\∀ e∈es,∃ k,(oa).is k e.key=true/\e.hash=(oa).hash k:=by
 induction h with
 | nil=>show(gF,[],.nil,.nil,fun e z=>nomatch z)
 | @cons k x key val h es kvs hh hk hv _ ih =>
  ext cc vs a b c ih;refine(bS,(k,val)::vs,.cons (cp hv) a,.cons (xdc hk) rfl b,au e he);rcases dC he with rfl|z
  .exact ⟨k,xdc hk,hh⟩
  .exact c e z
section
variable {X:Cx}{pins:List (Addr × Obj)}{Z:St}{H:Hp}{s:Shared}{D:Addr}{kvs:List (Key × V)}
theorem xp7 (I:av) (g:xna X.w X.K D kvs):∃ vs,j0/\s.heap.DictOf nB D vs:=by
 obtain⟨_,es,ep,l,en,nd⟩:=g;show(cc,vs,a,b,c,en.ok (P:=X.prog));show(gU,vs,a,⟨106,_,es,ep,I.kIn _ _ l,PN,rfl,fun e he=>c e (by simpa using he),b,?_⟩);show(kh,a.keys,nd)
noncomputable def tGIn (kvs:bw) (neg:Bool) (ty:TE):TE:=(W3,∃ k:Key,Tc/\Q (.bl (if neg then !(kO).isSome else (kO).isSome)) H1)
theorem xpw {i:Expr}{ty:TE}{x:Str}{p:Pos} (hi:EC) (hg:rh) (hm:IU D) (g:xna X.w X.K D kvs) (hd:ng:=by decide):PC X .NotIn i (.Name x p) (tGIn kvs true ty):=by
 intro pins s Z H Q I h;show(jJ,hi pins s Z H _ I h,fun iv s1 ⟨y,H1,I1,ry,k,ey,q1⟩=>thn (xg2 (v:=.ref D) hg hm rfl hd pins s1 Z H1 (kH,H2,(oN D)/\H2=H1) I1 nS) fun u s2 ⟨x,H2,I2,rx,e1,e2⟩=>?_);subst ey e1 e2;ext zt D;show(ag,vs,rel,dd,xp7 I2 g);show(zpi,g.1);rw[<- Rf];exact(eF,mR,_,I2.tok _,q1)
#check _
theorem xhi {ns:df}{f:KQ} (h:∀ j (l:j<ns.length),f j=ns[j]):∀ j,j<=ns.length->preSum f j=(SK).sum:=by
 intro j
 induction j with
 | zero=>intro _; rfl
 | succ j ih =>
  intro l;have l':j<ns.length:=l;show preSum f j+f j=_;rw[ih (JN l'),h j l',ZR,Zb l',List.sum_append];simp
theorem xv6 {ns:df} (B:Int) (hb:∀ n∈ns,-B<=n/\n<=B) (h0:0<=B):-(ns.length*B)<=ns.sum/\ns.sum<=ns.length*B:=by
 induction ns with
 | nil=>simp
 | cons a r ih =>
  have:=ih fun n hn=>hb n (Zl _ hn);have:=hb a Zm;rw[Jo,ZD];have e:(gM,r.length+1)*B=r.length*B+B:=by rw[Int.natCast_add,Int.add_mul]; simp
  rw[e];omega
inductive xx7 (K:Zd) (xs:af) (H:Hp) (Q:VK):Prop
 | mk (p:Addr) (ns:df) (e_:xs=KL) (r_:SqL K H p HU/\(ns.length<=1000/\∀ n∈ns,-1000000<=n/\n<=1000000)/\(mw ns.sum))
theorem xgb {X:Cx} (hc:lT):xct X (.builtin "sum") (xx7 X.K):=by
 intro pins s Z H xs us Q I r h;obtain⟨p,ns,rfl,hs,⟨hlen,hb⟩,q⟩:=h;ext z6;ext zt p;obtain⟨its,vi,⟨o,n,g,c,_,d⟩,_⟩:63:=I.list hs;have hi:IntsAre its ns:=xnd vi;ext zgC
 show(mq,zs,hi.allInts.items);have en:ns=zs.toList.map (·.1):=by rw[<- hi.numsOf,<- nums_intItems,<- e]
 rw[e] at il;have sz:zs.size=ns.length:=by rw[en,Za,Jk]
 have hat:∀ j (l:j<ns.length),numAt zs j=ns[j]:=fun j l=>by
  rw[numAt_eq,<- en];simp[List.getD,l]
 have bd:∀ j,j<=ns.length->InLong (SK).sum:=fun j l=>by
  have:=xv6 1000000 (ns:=SK) (fun n hn=>hb n (Wa hn)) az;have hl:(SK).length<=1000:=kQ Jl
  unfold InLong;omega
 refine sum_intList jp il (FI,fE ?_) (b9 h' tk t' hk)
 .rw [hat j aa];have:=hb ns[j] (J9 _);unfold InLong;omega
 .show(eE,xhi hat fW aa,bd _ aa)
 .refine (bD,on,H,I.kept hk,ld t',?_);rw[sz,xhi hat _ bu,Jf];exact q
inductive xx1 (K:Zd) (xs:af) (H:Hp) (Q:VK):Prop
 | mk (p:Addr) (bs:Bn) (e_:xs=KL) (r_:SqL K H p (bs.map V.bl)/\Q (.bl (bs.all id)) H)
theorem xvi {bs:Bn}:∀{us:aX},Vals (bs.map V.bl) us->us=bs.map Yb:=by
 induction bs with
 | nil=>intro us h; ext jR h
 | cons b r ih =>
  intro us h;cases h with
  | cons h1 h2 =>
   show(Cn,ih h2);ext oC h1;rfl
theorem xpq {bs:Bn}:(zcG).all (fun i=>zaV)=bs.all id:=by
 have h:(zcG).map zov=bs:=by
  apply List.ext_getElem
  .simp
  .intro i h1 h2
   simp[List.getD,h2]
 calc _=((zcG).map (fun i=>zaV)).all id:=eB List.all_map
  _=_:=eG h
theorem xof {X:Cx} (hc:lT):xct X (.builtin "all") (xx1 X.K):=by
 intro pins s Z H xs us Q I r h;obtain⟨p,bs,rfl,hs,q⟩:=h;ext z6;ext zt p;obtain⟨its,vi,⟨o,n,g,c,_,d⟩,_⟩:63:=I.list hs;ext zgC
 show(oC,xvi vi);have hlt:o9 p:=Zz g;refine call_all_walk (Q1 il ?_);refine iM ⟨105,_,_,zov,rfl,Walks.list (A:=X.A.in1) jp _ p (ZS hlt) (bs.map Yb).toArray,⟨AS,il.push _⟩,?_,aK h' tk hk⟩
 .intro i v s' Q' E' hP hQ
  simp only[List.getElem?_toArray,Zc,Ze] at hP;ext ku b hb hP;have:zaV=b:=by simp[List.getD,hb]
  rw[<- this];exact Zn hQ
 .rw [Z5,Za,xpq];exact(eF,mR,H,I.kept (old_kept hk),q)
section
variable {X:Cx}{pins:List (Addr × Obj)}{Z:St}{H:Hp}{s:Shared}{h':Heap}
theorem Inv.turnedL {t':Nat}{ch:ax} (I:av) (k:BE B6 jj wY) (hf:∀ b∈ch,FpOk X pins H b):m6 BL:=by
 have nit:rL iY B6:=fun b u e z=>by
  have:=(hf b z).1;ext bV this e
 refine I.step (g':=s.gens) (d':=s.drawn) (ch:=ch) iA (Om,k b o hc e) (Om ⟨o.slots,k b o hc e⟩) (fun _ _ _ _ n=>n)
  (mN hc ⟨o,k b o hc e⟩) (fun _ _ e=>e) OL zlu (au m hm) v0 I.bare
 .obtain ⟨f0,f1,f2,f3,f4,f5⟩:46:=yT;exact bR f3 f1 f4 f5
 .obtain ⟨o,es,ep,ho,r⟩:102:=hm;exact(uy,o,es,ep,k _ o (ao,(hf _ z).2.1 rfl) ho,r)
 .refine (zdn).stay (zaQ q) R8 DZ;rcases hc with z|z
  .rw [z]; exact nit b u e
  .exact nit c _ z
#check _
theorem xv9 {a b:Nat} (h:a≠b):(a:Addr)≠(b:Addr):=h
noncomputable def Ite (K:Zd) (a:Addr):It :=
 (MY,∃ xs x,qC/\tF,v,∃ p x,(aP,(∀ xs,qC->tF),oN p,rF,H'=(Cl [dI,x])),zlT)
theorem xo8 {P:Program}{w:World}{K:Zd}{elts:jY}{x1}{tpos:Pos} (e it l:Addr) (hei:e≠it) :
    Turn P w K wU (Ite K l) [e,it] e (eK,h,(∃ old,IsEnum h e it i old)/\h.IsListIter it l i) where
  mem:=aj
  obj:=fun i h st b hb=>by
    obtain⟨⟨old,he⟩,⟨o1,e1,c1,d1⟩⟩:=st;ext VN;rcases hb with rfl|rfl
    . exact cD he (kH,k,by have k':QV _=Data.cell v:=k; cases k')
    . ext zlx
  keep:=fun i h h' ⟨⟨old,he⟩,h1⟩ k=>⟨⟨old,k e aj _ he⟩,h1.at fun o z=>k it aj o z⟩
  item:=by
    intro X hP hw hK hc i pins s Z H E I hf st hg;ext iU;ext js xs x hq hx hg;show(jG,rv,p,hz1,I.list hq);show(ag,u,hu,ru,rv.get hx);ext zmW;refine wpAny_pyNext_enum_item he h1 p.isList (x:=u) (by simpa using hu) hei fun h' ho hit' hT hsz hk=>?_;show(vT,wpAny_letOwnedTupleGo_enum (s:=zT yC) ho (aK h'' he' hs'));have elt:o9 e:=Zz he;have pne:s.heap.objs.size≠e:=Qu elt;have kk:(BE,b∉[e,it],jj,WY):=fun b o hb g=>by
      ext zkM;exact (hs'.2 b hb.1).trans (hk b o hb.1 hb.2 g)
    show(zf,{ s with heap:=h'',toks:=yC },I.turnedL kk hf);ext j4 n0 nL nC nP UZ;have hp:(UT,#[.int i s.toks,u]):=(hs'.2 _ pne).trans hT;refine⟨85,Gy,W4 [dI,x],I1.adopt n0 I.sz nL nC nP (Xr,[.int i s.toks,u],.cons ju (.cons ru .nil)),rfl,
      ⟨84,_,x,fun zs hz=>(aB,I.list_inj hz hq,hx),rfl,n0,rfl⟩,?_,iA⟩
    . show(aS,(gD,by simpa using he'),hit'.at fun o y=>(hs'.2 it (Z1 hei)).trans y)
    . obtain⟨o,ho⟩:∃ o,jj:=by
        ext cc o1 e1 c1 d1 h1;ext VN;rcases hb with rfl|rfl
        . exact gD he
        . exact gD e1
      show(cE,ZS (Zz ho),(yT).1)
  done:=by
    intro X hP hw hK hc i pins s Z H E I hf st hg;ext iU;ext ag xs hq hl hg;show(jG,rv,p,hz1,I.list hq);have e1:=rv.length;ext zmW;refine wpAny_pyNext_enum_end jp he h1 p.isList jo fun h' hx=>(cp,I.turnedL (t':=s.toks) (b9 b o hb g) hf)
    ext zkM;exact hx b o hb.2 g
  self:=fun _ _ _ _ _ ⟨gD st,_⟩ h=>wpAny_pyIter_enum st h
noncomputable def xxa (K:Zd) (ta:TA):TI:=(MP,∃ a xs,wG/\Hz/\R (Ite K a) H1)
section
variable {X:Cx}{elts:List Expr}{x1:_}{tpos:Pos}
theorem xkg {a:Expr}{ta:TA}{p pos:Pos} (hg:Gl X "enumerate") (hm:yu "enumerate") (ha:zdj) (hs:Wn:=by rfl) :
    PI X wU (Sn "enumerate" [a]) (xxa X.K ta):=by
  intro pins s Z H R I h;refine Call_ (xd3 I hg hm PyProof.Rows.Boot.«enumerate» (JA (thn (ha pos pins s Z H _ I h) fun us s1 ⟨vs,H1,I1,r1,q1⟩=>?_) hs rfl));obtain⟨l,xs,e,hq,q⟩:83:=q1;ext ziu;show(jG,rv,p1,hz1,I1.list hq);refine call_enumerate_list p1.isList (bL h' he h1 hsz hk);refine wpAny_pyIter_enum (s:=zps) he ?_;show(aw,I2,cP H1 zps,I1.kept (t':=s1.toks) hk,rQ _ [s1.heap.objs.size+1,s1.heap.objs.size] ⟨66,H1,rfl,I2,xo8 _ _ l (xv9 aa),⟨gD he,h1⟩,iA,q⟩);have hb':s1.heap.objs.size<=b:=by
    ext VN;rcases hb with rfl|rfl
    . exact Qg _ 1
    . exact Zk _
  exact I1.fpOk hb' (I1.hok.fresh hb')
#check _
theorem xq3 {K:Zd}{a:Addr}{xs:af}{g:TG}{tb:TS}{D:Ends}{Z:St}{H:Hp} (Pv:E5) (h0:KI) (hl:ziD)
    (hs:∀ i x p Z H,(bv,tF,rF,tK,g wx Z (Cl [dI,x]) F2)) (hd:GT xs.length) :
    ∃ W:Nat->Nat->St->Hp->Prop,(∃ m,W 0 m Z H)/\∀ i m Z H,EE ->
      ((Ite K a).stop i H/\yB)\/((Ite K a).go i H/\(CW (Ej,(Ite K a).yld i H x H',Z,H',CP))):=by
  ext zfg;rintro i m Z H (⟨rfl,hi,p⟩:43);ext MT RE
  . ext zjr
    obtain⟨r,x',e1,rfl,hr,rfl⟩:84:=y;exact hs i x' r Z H (e1 _ q) hr p
  . ext zhi
#check L2
namespace L2
open PySem PySem.Spec PyProof.Rows XL
noncomputable def tMid (t:TS):TS:=(mr,∃ Pv:mD,t { D with nx:=Pv } Z H/\∀ σ' H',Pv σ' H'->D.nx σ' H')
theorem xb6 {X:Cx}{st:Stmt}{t:TS} (h:Sw):PS X st (tMid t):=by
 intro pins s Z H D I q;ext ag Pv q1 q2 q;show(jJ,(h pins s Z H { D with nx:=Pv } I q1),aK fl s1 z);cases fl with
 | next =>
  show(js,σ',H',I',r,z);exact(bK,σ',H',I',q2 _ _ r)
 | _=>exact z
#check L2
namespace XL
open PySem PySem.W
#check XL
namespace L2
open PySem PySem.Spec PyProof.Rows XL
variable {q0:Bool}
#check L2
namespace L2
open PySem PySem.Spec PyProof.Rows XL
#check L2
namespace L2
open PySem PySem.Calls PyProof PyProof.Rows
theorem xxx {x y z:V}{us:aX} (r:wJ [x,y,z]):∃ u v w,(jc,us,[u,v,w],nR,RelV y v,RelV z w):=by
 cases r with
 | cons r1 r2 =>
  cases r2 with
  | cons r3 r4 =>
   cases r4 with
   | cons r5 r6=>cases r6; exact⟨104,_,_,_,rfl,r1,r3,r5⟩
theorem xp4 {X:Cx} (hc:lT):AA "min" (fun xs H Q=>∃ i j k:Int,xs=(BH dI j k)/\∀ m:Int,(bc,m<=i,m<=j,m<=k,m=i\/m=j\/m=k,mw m)):=by
 intro pins s Z H xs us Q I r h;obtain⟨i,j,k,rfl,q⟩:102:=h;obtain⟨u,v,w',rfl,⟨t,rfl⟩,⟨t',rfl⟩,⟨t2,rfl⟩⟩:104:=xxx r;refine min_three_ints (I.ok.hd hc) (aK h' tk k');by_cases h1:j<i
 .ext kI h1;by_cases h2:k<j
  .ext zfu
  .ext d8 h2;exact(wB,.int j,I.kept k',q j aa aa aa (.inr (.inl rfl)))
 .ext d8 h1;by_cases h2:k<i
  .ext zfu
  .ext d8 h2;exact(wB,dI,I.kept k',q i aa aa aa gg)
noncomputable def eU (e:V->Bool) (u:Value):Bool:=match absV u with|some y=>e y|none=>false
theorem xg6 {e:V->Bool}{y:V}{u:Value} (r:gb):eU e u=e y:=by unfold eU; rw[r.abs]
theorem xle {e:V->Bool}:(OW,kX->us.any (eU e)=xs.any e)
 | _,_,.nil=>rfl
 | y::xs,u::us,vG=>by rw[Yq,Yq,xg6 r,xle t]
theorem xi8:(OW,kX->∀ u∈us,∃ y∈xs,gb)
 | _,_,.nil=>fun u hu=>nomatch hu
 | y::xs,u::us,vG=>fun u' hu=>by
  rcases dC hu with rfl|hu
  .exact ⟨y,Zm,r⟩
  .show(hX,z,h1,h2,xi8 t u' hu);show(aH,z,Zl _ h1,h2)
#check L2
namespace PySem.F
#check PySem.F
namespace L2
open PySem PySem.Spec PyProof.Rows XL
variable {q0:Bool}
#check L2
namespace L2
open PySem PySem.Spec PyProof.Rows XL PySem.W
variable {q0:Bool}
theorem xiz {prog:Program}{w:World}{A:Around}{E:bq}{s:Shared}{a:Addr}{vs:aX}{n:Nat}{P:eW PySem.Fin}
    (h:ziR) (h2:2<=vs.length) (h64:vs.length<64)
    (hk:∀ s':Shared,s'.heap=(((s.heap.update a (Ym (m5,#[]))).push (seqObj "tuple" vs.toArray 0)).push (seqObj "list" #[] 0))->s'={ s with heap:=s'.heap } ->
      wpAny bp A zqk (fun κ s''=>s''=s'/\KasT.kasWp (kas_ask prog w A κ vs) (kas_sort vs.length) (fun p s3=>s3=s'/\(zfG zjQ)) s'') vb s') :
    wpAny bp A ziS P E s:=by
  ext zV d;ext zcY
  repeat (any_goals (first|ext dW|wp_step))
  have z:¬ vs.toArray.toList.toArray.size>sizeLine:=by
    simp;exact JN (ZQ h64 az)
  rw[ay z];generalize zqk=kk at hk ⊢
  repeat (any_goals (first|ext dW|wp_step))
  have hk':=hk (zid,((MV).push (seqObj "tuple" vs.toArray 0)).push (seqObj "list" #[] 0)) rfl rfl;show(Av,hk',aK κ s'' z);ext gK e z;ext cR;show wpAny _ _ (StateT.run (kT,vs.toArray.size,2,pure (),sortRuns') _>>=_) _ _ _;rw[ay jo];show(bP,(Jh (kat_run (E:=E) (Q:=(mW,st',∃ p:cY,(aq,p.size=vs.length,arrOf st'=Qx (kas_item (vs.toArray.zip vs.toArray)) p,failedOf st'=none,s'=_,P (.done (.ret .none)) (zid,sortedHeap hp a vs zjQ)))) rfl h2 h64 (fun p st' s' hp' e f q'=>⟨65,p,hp',e,f,q'.1,q'.2⟩) q) (aK r s' z) (qS z)));obtain⟨u,st⟩:=r;obtain⟨p,psz,e,f,rfl,q'⟩:65:=z;have al:a<hp.objs.size:=Zz h;have g1:(ae,(((MV).push (seqObj "tuple" vs.toArray 0)).push (seqObj "list" #[] 0)).get? a,VP):=by
    ext OA;rw[Yg _ h rfl];have z:((0:Nat) == vs.length)=false:=by
      cases vs with
      | nil=>simp at h2
      | cons=>rfl
    simp[Ym,z]
  have e2:(cK,(((fun x=>#[]) vs.toArray:gJ).size == vs.toArray.size),n,n+1)=n+1:=by
    rw[if_neg];simp;omega
  simp only[e2,f];have e3:Qx IP (arrOf st)=p.map fun i=>vs.getD i .none:=by
    rw[e,Array.map_map]
    congr 1
    funext i;show (kas_item (vs.toArray.zip vs.toArray) i).snd=_;unfold kas_item;by_cases c:i<vs.length
    . simp[Zb c,c]
    . simp[Jg Xz,c]
  simp only[e3]
  repeat (any_goals (first|ext dW|wp_step))
  have e4:(Ym (m5 zlo) VP).data.pastItsLine=none:=by
    show (if (zlo).size>sizeLine+1 then _ else none)=none;rw[if_neg];rw[Array.size_map,psz];have:ut vs.length:=ZQ h64 az;omega
  rw[e4];ext vY;rw[f];show wpAny _ _ (cK (n+1 != n+1) _ _) _ _ _;rw[ay aj];exact Zn q'
theorem xgl {prog:Program}{w:World}{A:Around}{E:bq}{s:Shared}{it d:Addr}{i ep:Nat}{o:Obj}{es:o6}{en:DictEntry}{Q:E8}
    (st:zmg i) (hd:r8) (hx:o.ExactDict) (hdat:kJ) (hi:R1)
    (h:∀ h',h'.IsKeyIter it d aY es.size ep->Jq it s.heap h'->Q (some en.key) nu):wpAny bp A uW Q E s:=by
  ext zea;obtain⟨⟨c,dct,dat,sl⟩,hit,ci,di⟩:63:=st;ext zfd
  repeat (any_goals (first|ext dW|(with_reducible ext SX)|(with_reducible ext SW)|(with_reducible ext Ak)|(with_reducible ext Aj)|wp_step))
  have e1:ae (Xi cH) en:=by
    ext cq tV YW hi
  rw[e1]
  repeat (any_goals (first|ext dW|(with_reducible ext SX)|(with_reducible ext SW)|(with_reducible ext Ak)|(with_reducible ext Aj)|wp_step))
  show(br,(cA,Zn (h _ ?_ zax)),(yW,Yg _ hit rfl,?_));rfl
theorem xhd {prog:Program}{w:World}{A:Around}{E:bq}{s:Shared}{it d:Addr}{ep:Nat}{o:Obj}{es:o6}{Q:E8}
    (hA:zbj) (st:zmg es.size) (hd:r8) (hx:o.ExactDict) (hdat:kJ)
    (h:zgD):wpAny bp A uW Q E s:=by
  ext zea;obtain⟨⟨c,dct,dat,sl⟩,hit,ci,di⟩:63:=st;ext zfd
  repeat (any_goals (first|ext dW|(with_reducible ext SX)|(with_reducible ext SW)|(with_reducible ext Ak)|(with_reducible ext Aj)|wp_step))
  have e1:(if (es.size:Int)<0 then none else es[(es.size:Int).toNat]?)=none:=by
    rw[tV,YW];simp
  rw[e1]
  repeat (any_goals (first|ext dW|(with_reducible ext SX)|(with_reducible ext SW)|(with_reducible ext Ak)|(with_reducible ext Aj)|wp_step))
  ext zed
theorem xk4 {prog:Program}{w:World}{A:Around}{E:bq}{s:Shared}{d:Addr}{ep:Nat}{o:Obj}{es:o6}{Q:bq}
    (hs:AE d) (hd:r8) (hx:o.ExactDict) (hdat:kJ)
    (h:NW (UM "dict_keyiterator" zaY)):wpAny bp A (pyIter (.ref d)) Q E s:=by
  have ti:xR d "dict":=⟨o,hd,hx.1⟩
  obtain⟨c,dct,dat,sl⟩:=o;ext zgw hx;refine wpAny_pyIter_slot ti F.slot_dict_iter ?_;refine JL F.slot_dict_iter ti F.entry_dict_iter ?_ (F.args_dict_iter_1 _);ext zV dr;unfold Builtin.«dict.__iter__»
  repeat (any_goals (first|ext dW|(with_reducible refine Qc ti ?_)|(with_reducible refine Jw hd rfl ?_)|(with_reducible refine JS hd rfl ?_)|wp_step))
  exact cA (bD,_,_,dL gf,JT.lookup,h)
theorem xs6 {prog:Program}{w:World}{d:Addr}{ep:Nat}{o:Obj}{es:o6} (hs:AE d) (hx:o.ExactDict) (hdat:kJ) :
    KdlSrc prog w "dict" d d es.size (eK,v,∃ en,R1/\v=en.key) (gW z0) where
  type:=fun s h=>⟨o,h,hx.1⟩
  there:=fun h e=>⟨Zz e,Zz e⟩
  keep:=fun h h' e k=>k d gg o e
  notList:=az
  notTuple:=az
  hint:=fun A E s Q h q=>kdl_hint_dict ⟨o,h,hx.1⟩ q
  iter:=fun A s hA h=>by
    have dl:=Zz h;refine⟨(hR,"dict_keyiterator",.fields zaY),(eK,h,h.IsKeyIter s.heap.objs.size d i es.size ep/\z0),fun E Q q=>xk4 hs h hx hdat q,?_,mG _ gf rfl,Zi _ h⟩;have dn:d≠s.heap.objs.size:=ZS dl;exact {
      sub:=fun b hb=>by
        have e:b=s.heap.objs.size:=uV
        rw[e];simp
      frame:=HF ⟨st.1.at (zw,k _ aj o e),k _ aj _ st.2⟩
      item:=fun i s' Q E hi st q=>by
        refine xgl st.1 st.2 hx hdat (J5 hi) fun h' st' sb=>q _ h' s'.toks (dL,J5 hi) ⟨st',(sb.2 d dn).trans st.2⟩ (mN hb ?_);exact (sb.2 b uV).trans e
      done:=fun s' Q E st q=>by
        refine xhd hA st.1 st.2 hx hdat fun h' eb=>q h' s'.toks (mN hb ?_);exact eb b o uV e
      self:=fun i s' Q E st q=>QY st.1 q }
noncomputable def xd0:Key->Key->Bool
 | .inl a,.inl b=>dA (a<b)
 | .inr a,.inr b=>dA (a.cps.toList<b.cps.toList)
 | _,_=>false
noncomputable def lexK:eA->eA->Bool
 | [],[]=>false
 | [],cM=>true
 | cM,[]=>false
 | p8,mQ=>(jq,x,y,lexK xs ys,xd0 x y)
noncomputable abbrev shp (k:eA):Bn:=k.map Sum.isLeft
theorem xsf {a b:Str} (h:a.cps.toList=b.cps.toList):a=b:=by
 cases a;cases b;simp at h;rw[h]
theorem xpa (x:Key):(dE,xd0 x x):=by
 cases x with
 | inl a=>simp[xd0]
 | inr a=>exact QZ.irrefl a.cps.toList
theorem xqa {x y z:Key} (h1:xd0 x y=true) (h2:xd0 y z=true):xd0 x z=true:=by
 cases x<;>cases y<;>cases z<;>simp only[xd0,ZF] at h1 h2
 .show(ah,a,xF h1,b,of_decide_eq_true h2);show(Rn,Int.lt_trans a b)
 .exact QZ.trans _ _ _ h1 h2
theorem xpj {x y:Key} (hs:x.isLeft=y.isLeft) (ne:x≠y) (h:(dE,xd0 x y)):xd0 y x=true:=by
 cases x with
 | inl a =>
  cases y with
  | inl b =>
   have h':¬ a<b:=of_decide_eq_false h;have n':a≠b:=fun e=>ne FD;show(Rn,(eS,b<a))
  | inr b=>cases hs
 | inr a =>
  cases y with
  | inl b=>cases hs
  | inr b =>
   cases e:xd0 (.inr b) (.inr a) with
   | true=>rfl
   | false=>show(eY,(eG,xsf (QZ.total _ _ h e)),ne)
theorem xkl:∀ x:eA,(dE,lexK x x)
 | []=>rfl
 | p8=>by
  unfold lexK;rw[bY];exact xkl xs
theorem xme:∀{x y z:eA},(bc,shp x=shp y,shp y=shp z,lexK x y=true,lexK y z=true,lexK x z=true)
 | [],[],_,_,_,h,_=>ft
 | [],cM,_,h,_,_,_=>ft
 | cM,[],_,h,_,_,_=>ft
 | cM,cM,[],_,h,_,_=>ft
 | p8,mQ,z::zs,h1,h2,h3,h4=>by
  simp only[shp,Zo,QA.injEq] at h1 h2;unfold lexK at h3 h4 ⊢;by_cases xy:x=y
  .subst xy;rw[bY] at h3;by_cases yz:x=z
   .rw [aT yz] at h4 ⊢;exact xme h1.2 h2.2 h3 h4
   .rw [ay yz] at h4 ⊢;exact h4
  .rw [ay xy] at h3;by_cases yz:y=z
   .subst yz;ext lC xy h3
   .rw [ay yz] at h4;have h5:=xqa h3 h4;show(lC,(fun e=>by rw[e,xpa] at h5; cases h5),h5)
theorem xku:∀{x y:eA},(bv,shp x=shp y,x≠y,(dE,lexK x y),lexK y x=true)
 | [],[],_,h,_=>absurd rfl h
 | [],cM,h,_,_=>ft
 | cM,[],h,_,_=>ft
 | p8,mQ,h1,h2,h3=>by
  ext W2 h1;unfold lexK at h3 ⊢;by_cases xy:x=y
  .subst xy;rw[bY] at h3 ⊢;exact xku h1.2 (fun e=>h2 FD) h3
  .rw [ay xy] at h3;show(lC,fun e=>xy e.symm,xpj h1.1 xy h3)
theorem xki {prog:Program}{w:World}{A:Around}{s:Shared}{b:Bool}{Q:Bk}:∀(xs ys:eA) (us vs:aX) (i:Nat),(bc,shp xs=shp ys,Vals (xs.map kV) us,Vals (ys.map kV) vs,Q (lexK xs ys) s,KatLex prog w A b false Q (us.zip vs) i s)
 | [],[],_,_,i,_,.nil,.nil,q=>kat_nil q
 | [],cM,_,_,_,h,_,_,_=>ft
 | cM,[],_,_,_,h,_,_,_=>ft
 | p8,mQ,_,_,i,h,.cons ru r,.cons rv r',q=>by
  ext W2 h;unfold lexK at q;cases x with
  | inl a =>
   cases y with
   | inr c=>cases h.1
   | inl c =>
    ext LX;ext dZ t' rv;refine kat_cons (wpAny_eqBool_int ?_);unfold KatGo;by_cases e:a=c
    .ext cR;rw[bY] at q;show(aQ,aT aj,xki xs ys _ _ aY h.2 r r' q)
    .rw [ay (ao,e (Qk.inj z))] at q;rw[ay uX];cases (b&&i == 0) with
     | true=>exact oneLt_int q
     | false=>exact kat_one _ _ (lt_int q)
  | inr a =>
   cases y with
   | inl c=>cases h.1
   | inr c =>
    ext LX;ext dZ t' rv;refine kat_cons (wpAny_eqBool_str ?_);unfold KatGo;by_cases e:a=c
    .ext cR;rw[bY] at q;show(aQ,aT aj,xki xs ys _ _ aY h.2 r r' q)
    .rw [znO] at q;rw[ay uX];cases (b&&i == 0) with
     | true=>exact oneLt_str q
     | false=>exact kat_one _ _ (lt_str q)
theorem xj8 {prog:Program}{w:World}{A:Around}{E:bq}{s:Shared}{a:Addr}{vs:aX}{n:Nat}{P:eW PySem.Fin}
    (h:ziR) (h2:vs.length<2) (q':zfG vs.toArray) :
    wpAny bp A ziS P E s:=by
  ext zV d;rcases vs with _|⟨v,_|⟨v',r⟩⟩
  . ext zcY
    repeat (any_goals (first|ext dW|wp_step))
    show wpAny _ _ (pure (PUnit.unit,(Pp,((#[]:gJ).zip #[]),#[],7,none))) _ _ _;ext vY;have e3:Qx IP (arrOf (Pp,((#[]:gJ).zip #[]),#[],7,none))=#[]:=by
      show Qx IP ((#[]:gJ).zip #[])=#[];simp
    simp only[e3];have g1:(ae,(((MV).push (seqObj "tuple" #[] 0)).push (seqObj "list" #[] 0)).get? a,seqObj "list" #[] (n)):=by
      ext OA;rw[Yg _ h rfl];rfl
    show wpAny _ _ (seqEpoch a>>=_) _ _ _
    repeat (any_goals (first|ext dW|wp_step))
  . ext zcY
    repeat (any_goals (first|ext dW|wp_step))
    show wpAny _ _ (pure (PUnit.unit,(Pp,((#[v]:gJ).zip #[v]),#[],7,none))) _ _ _;ext vY;have e3:Qx IP (arrOf (Pp,((#[v]:gJ).zip #[v]),#[],7,none))=#[v]:=by
      show Qx IP ((#[v]:gJ).zip #[v])=#[v];simp
    simp only[e3];have g1:(ae,(((MV).push (seqObj "tuple" #[v] 0)).push (seqObj "list" #[] 0)).get? a,VP):=by
      ext OA;rw[Yg _ h rfl];rfl
    show wpAny _ _ (seqEpoch a>>=_) _ _ _
    repeat (any_goals (first|ext dW|wp_step))
  . simp at h2
    omega
theorem xgn {α:Type} (f:α->Addr):∀(es:bZ),Vals (es.map (m5,V.ref (f x))) (es.map fun x=>Zq (f x))
 | []=>.nil
 | x::r=>.cons rfl (xgn f r)
theorem xow {H:Hp}{kvs:dc}{es:qI} (h:KT H kvs es):(∀ x∈es,(aR cy (.tup ((ba).map kV))))/\es.map (·.1)=kvs.map (·.1):=by
 induction h with
 | nil=>show(aS,nA,rfl)
 | @cons p x kvs es hp r ih =>
  ext Be e1 e2 hp;show(dX,Ke,by rw[Zo,Zo,ih.2,e1]);rcases dC hy with rfl|z
  .rw [<- e1];exact e2
  .exact ih.1 y z
theorem xon {P:Program}{w:World}{H:Hp}{h:Heap} (ok:lS) {b:Bool}{sh:Bn}:∀(es:qI),(∀ x∈es,(aR cy (.tup ((ba).map kV))))->(∀ x∈es,shp ba=b::sh) ->
    ∃ fs,KatTups h (es.map fun x=>Zq cy) fs/\fs.length=es.length/\∀ v∈fs,(cK,b,∃ i t,v=zh,∃ i t,v=Q8 i t)
  | [],_,_=>bS [] KatTups.nil rfl nA
  | x::es,h1,h2=>by
    show(cc,fs,k,l,m,xon ok es (fun y hy=>h1 y (Zl _ hy)) (fun y hy=>h2 y (Zl _ hy)));obtain⟨z2,ts,rt,ot,et,ct,nt,dt⟩:=ok cy _ (h1 x Zm);have s1:=h2 x Zm;obtain⟨k1,a1,v1⟩:=x;cases k1 with
    | nil=>cases s1
    | cons k0 kr =>
      ext W2 s1;simp only[Zo] at rt;cases rt with
      | @cons _ u _ us ru rr =>
        refine(bS,u::fs,KatTups.cons et ct dt aj k,cI l,au v hv);rcases dC hv with rfl|hv'
        . cases k0 with
          | inl i =>
            ext LX;rw[aT (vw b s1.1.symm)];show(aH,i,t,rfl)
          | inr i =>
            ext LX;rw[ay (show ¬ FH by rw[<- s1.1]; simp)];show(aH,i,t,rfl)
        . exact m v hv'
theorem xob {X:Cx}{pins:bj}{Z:St}{H:Hp}{s:Shared}{h1:Heap}{tk:Nat}{Q:VK}{sh:Bn} (es':qI) (I1:m6 (rZ h1))
    (hl:es'.length<64) (km:∀ x∈es',(aR cy (.tup ((ba).map kV)))) (shE:zmc) (hpos:0<sh.length) (hnd:(List.map (m5 x.fst) es').Nodup)
    (q:∀(l:Addr) (ts:zcC),ou->zjI->(ts.map (·.1)).Pairwise VG->zgm) :
    wpAny aN X.A.in1 (newList (es'.map fun x=>Zq cy)>>=fun l=>holding [l] (call (.builtin "list.sort") [l] [])>>=fun _=>ret l) (mW,fin,∃ v,fin=Fin.done (Flow.ret v)/\EP X pins Z Q v s') X.xe (rZ h1):=by
  have hz:cU es'.length:=JN (ZQ hl az);show(cB,vals,Vals (es'.map fun x=>V.ref cy) se,xgn (m5 cy) es',I2,I1.lnew (t':=tk) vals (gC hz));show(bP,wpAny_newList ?_ (gC hz));have fr:bo h1.objs.size:=I1.fresh;show(cu,gl,(ae,(UE).get? h1.objs.size,seqObj "list" (se).toArray 0),gf,Zf (J0 (JL slot_list_sort (dL gl) entry_list_sort ?_ (args_list_sort _))));show(ah,J1,I2.lset (l:=h1.objs.size) (its:=se) (its':=[]) (ys:=[]) (f:=fun _=>#[]) (t':=tk) xk gl rfl .nil jg,J2,J1.kept (t':=tk) (h':=(((UE).update h1.objs.size (Ym fun _=>#[])).push (seqObj "tuple" (se).toArray 0)).push (seqObj "list" #[] 0)) (oA zbJ));obtain⟨z9,its9,n9,r9,hl9,e9⟩:=J2.lstM xk;have done:∀(ts:zcC),zjI->(ts.map (·.1)).Pairwise VG ->
      EP X pins Z Q (.ref h1.objs.size) (rZ,sortedHeap UE h1.objs.size se (VI).toArray):=by
    intro ts pm pw;have tl:ts.length=es'.length:=bW pm.length_eq Za
    have J3:=J2.lset (l:=h1.objs.size) (its:=its9) (its':=VI) (ys:=ts.map fun t=>V.ref t.2) (f:=fun _=>(VI).toArray) (t':=tk) xk e9 rfl (xgn (fun t=>t.2) ts) (pQ Za tl hz);rw[xeq,xeq] at J3;exact(eF,.ref h1.objs.size,_,J3,q _ ts fr pm pw)
  by_cases few:es'.length<2
  . refine xj8 gl (gC few) (cA,Zn yM)
    have:=done zmA Bl ?_
    . ext b6 Z4 this this
    . match es',few with
      | [],_=>ext ia
      | [x],_=>exact List.pairwise_singleton _ _
      | _::cM,h=>ext eY h aj
  . refine xiz gl yR (gC hl) (aK s' es1 es2)
    obtain⟨b,sh0,rfl⟩:∃ b sh0,sh=b::sh0:=by
      cases sh with
      | nil=>simp at hpos
      | cons b r=>show(aH,b,r,rfl)
    rw[es1] at es2;subst es2;have km2:∀ x∈es',(kZ (eQ h1.objs.size (.lst (es'.map fun x=>V.ref cy))) h1.objs.size Ff cy (.tup ((ba).map kV))):=fun x hx=>by
      rw[oG (km x hx) fr,oG (km x hx) fr];exact km x hx
    show(cc,fs,kt,fl,fm,xon J2.hok es' km2 shE);show(cu,few',2<=es'.length,aa,kat_kind (T:=(cK,b,.type "int",.type "str")) kt aa (au v hv) (RQ b) tS)
    . have z:=fm v hv
      cases b with
      | true =>
        show(zhH,"int")
      | false =>
        show(zhH,"str")
    rw[Za];have eAt:∀ i,i<es'.length->(aU es' uI):=fun i hi=>by
      rw[YG,Zb hi];rfl
    show(zce,eM,uI∈es',Zj (eAt i hi));have vAt:∀ i,i<es'.length->(eO,(se).getD i .none,bg uI):=fun i hi=>by
      rw[YG,Zc,eAt i hi];rfl
    show(cu,shI,∀ i j,i<es'.length->j<es'.length->shp (uI).1=shp zkT,fun i j hi hj=>(bW,shE _ (eM i hi),shE _ (eM j hj)),Srt.sort_wp (lt:=(eK,j,lexK (uI).1 zkT)) ⟨(oF,xkl _),fun i j k hi hj hk=>xme O5 (shI j k hj hk),fun i j hi hj ne=>xku O5 fun e=>ne ?_⟩ (fun i j hi hj Q' q'=>?_) few' fun p arr srt=>(j6,Zn yM))
    . have e1:(es'.map (·.1))[i]?=(es'.map (·.1))[j]?:=by rw[Zc,Zc,eAt i hi,eAt j hj]; ext Ft some e
      exact (List.getElem?_inj (gC hi) hnd).mp e1
    . show wpAny _ _ (keyLt' _ ((se).getD i .none) ((se).getD j .none)) _ _ _
      rw[vAt i hi,vAt j hj];obtain⟨_,ti,ri,oi,ei,_,ni,di⟩:=J2.hok _ _ (km2 _ (eM i hi));obtain⟨_,tj,rj,oj,ej,_,nj,dj⟩:=J2.hok _ _ (km2 _ (eM j hj));have l1:=Vals.length ri;show(ah,l2,Vals.length rj,l3,uD O5);simp only[Za] at l1 l2 l3;refine kat_lt ei di ej dj ?_;show(aQ,sJ jo,xki _ _ _ _ 0 O5 ri rj q')
    have pl:∀ i∈p.toList,i<es'.length:=fun i hi=>by
      show(zq,(Array.Perm.mem_iff arr.pm).mp (Array.mem_toList_iff.mp hi))
    have:=done (p.toList.map fun i=>((uI).1,bg uI)) ?_ ?_
    . rw[Z4] at this
      have e2:(p.map fun i=>(se).getD i .none)=(p.toList.map ((fun t:eA × Addr=>Zq t.2)∘zqa)).toArray:=by
        rw[<- Array.toList_inj,Array.toList_map];exact JI (oF,vAt i (pl i hi))
      ext aQ e2 this
    . have e3:zmA=(Zu es'.length).map zqa:=by
        refine Q4 (du i);by_cases c:i<es'.length
        . rw[Zc,eAt i c,Zc,JJ c]
          rfl
        . rw[Jg yR,Jg jo]
      show(qo,e3,JG.map _ ?_);show(zq,Array.Perm.toList arr.pm)
    . rw[Z4,ZW,Ji]
      intro i j hi hj hij;have z:=srt i j hij (by rw[<- arr.sz]; simpa using hj);have gi:Srt.g p i=p.toList[i]:=Srt.g_at (by rw[<- Ju]; exact Zb hi);have gj:Srt.g p j=p.toList[j]:=Srt.g_at (by rw[<- Ju]; exact Zb hj);ext yh gi gj
inductive xrk (xs:af) (H:Hp) (Q:VK):Prop
 | mk (d:Addr) (kvs:dc) (sh:Bn) (e_:xs=[i9]) (r_:(w4 d)/\kvs.length<64/\(∀ p∈kvs,shp aL=sh)/\0<sh.length/\∀(l:Addr) (ts:zcC),ou->(∀ t∈ts,(aR t.2 (.tup (t.1.map kV))))->(ts.map (·.1)).Perm (kvs.map (·.1))->(ts.map (·.1)).Pairwise VG->zgm)
theorem xkt {X:Cx} (hc:lT):AA "sorted" xrk:=by
 intro pins s Z H xs us Q I r h;obtain⟨d,kvs,sh,rfl,hd,hl,hsh,hpos,q⟩:=h;show(ag,u,rfl,ru,xc6 r);ext rJ u d ru;obtain⟨z,hsys,⟨es',rel,dd⟩⟩:43:=xkb I.hok hd;obtain⟨o,es,ep,ho,hx,hdat,hes,hkk,hnd⟩:106:=dd;have ln:=Y6 rel;have esz:es.size=es'.length:=WP
 refine Calls.call_function_entry kind_sorted plain_sorted entry_sorted (args_sorted1 _) ?_;unfold Builtin.sorted;ext D2;show wpAny _ _ (collect (.ref d)>>=_) _ _ _;show(bP,(kdu_collect (xs6 hsys hx hdat) jp ho (by rw[esz,<- ln]; exact z) (bL h1 tk acc keep items)));have acl:acc.toList=es'.map fun x=>Zq cy:=by
  refine Q4 (du j);obtain⟨i1,i2⟩:=items;by_cases c:j<es'.length
  .have c':j<acc.size:=pQ i1 esz c
   have e:(cO,acc,acc[j]):=J5 c';show(ag,en,he,hv,i2 j acc[j] e);rw[Ju,e,hv];have he':cO es.toList en:=aB Ju he
   rw[hes,Zc,Zb c] at he';rw[Zc,Zb c];have:=ZL.inj he';rw[<- this];rfl
  .rw [Jg (by rw[Jk,i1,esz]; omega),Jg yR]
 rw[acl];have I1:m6 (rZ h1):=I.kept keep;obtain⟨km,ke⟩:=xow rel;have shE:zmc:=fun x hx=>by
  have m:ba∈kvs.map (·.1):=GM ke Sx
  ext Eh e m;rw[<- e];exact hsh p hp
 refine xob es' I1 (cT ln hl) km shE hpos hnd fun l ts fr pm pw=>q l ts fr (au t ht) ?_ pw
 .show(hX,x,hx,rfl,Zg.mp (pm.mem_iff.mp ht));exact km x hx
 .have:=pm.map (·.1);rw[Z4] at this;ext kh ke this
theorem xk3 {prog:Program}{w:World}{K:Type} [DecidableEq K] {knd:HeapKind prog w K}{A:Around}{E:bq}{s:Shared}{d a b:Addr}{xs:fS K zbY}{k:K}{v:Value}{i:Nat}{Q:eW (dB DictEntry)}
    (hr:knd.room A) (hk:knd.is s.heap k a) (dd:Heap.DictOfH knd s.heap d xs) (hi:aU xs (k,b,v)) (hz:vc)
    (h:∀ h',Heap.DictOfH knd h' d (xs.eraseIdx i)->zaS->Q (some (entryOfKey knd (k,b,v))) (zT zph)):wpAny bp A (Builtin.Dict.takeOut d bb) Q E s:=by
  obtain⟨o,es,ep,ho,hx,hdat,hes,hkk,hnd⟩:106:=dd;have esz:es.size=xs.length:=WP
  unfold Builtin.Dict.takeOut;refine J0 (Zf (knd.pyHash hr hk ?_));show(bP,(wpAny_dictFind_heap (s:={ s with toks:=zph }) hr hk ho hdat hes hkk hnd (fun no=>absurd hi (no i (b,v))) (aK j p hj)));have ji:j=i:=by
    have e1:(xs.map (·.1))[j]?=(xs.map (·.1))[i]?:=by rw[Zc,Zc,hj,hi]; rfl
    exact (List.getElem?_inj (gC,h8 hj) hnd).mp e1
  subst ji;show(bP,Jw ho hdat ?_);show(h9,e,entry_at hes j,hi);rw[e];show(bP,(wpAny_updateDictKeys ho hdat (Zn (h _ ?_ zax)) (aB esz hz) (gL,size_eraseIdxIfInBounds_le es j)));refine⟨106,_,_,_,Yg _ ho (Obj.isFreed_of_dict zkY),hx.mapDictKeys _,zkY,?_,au x hx',?_⟩
  . have e2:(es.eraseIdxIfInBounds j).toList=es.toList.eraseIdx j:=aj
    rw[e2,hes];simp[Yt,Yo,Yp]
  . exact knd.keeps (hkk x (List.mem_of_mem_eraseIdx hx')) ho hdat zax
  . exact Yx.sublist (List.Sublist.map _ (List.eraseIdx_sublist _ _)) hnd
theorem Paired.erase {α β:Type}{F:bA α β}{l₁:bZ}{l₂:List β} (h:Paired F l₁ l₂):∀ i,Paired F (l₁.eraseIdx i) (l₂.eraseIdx i):=by
 induction h with
 | nil=>exact fun i=>.nil
 | cons r t ih =>
  intro i;cases i with
  | zero=>exact t
  | succ i=>exact .cons r (ih i)
theorem Paired.at_ {α β:Type}{F:bA α β}{l₁:bZ}{l₂:List β} (h:Paired F l₁ l₂):∀{i:Nat}{x:α},(aU l₁ x)->∃ y,(aU l₂ y)/\F x y:=by
 induction h with
 | nil=>intro i x e; ext rV
 | @cons a b l₁ l₂ r t ih =>
  intro i x e;cases i with
  | zero =>
   ext A5;ext rR b r
  | succ i=>ext wv
theorem xii {κ:Type} [Hl]:∀{kvs:eV}{i:Nat}{k:κ}{v:V},(kvs.map (·.1)).Nodup->(aU kvs uz)->Bi=kvs.eraseIdx i
 | [],i,k,v,_,h=>xN
 | oI,0,k,v,nd,h=>by
  simp at h;subst h;ext vz;show List.filter _ _=r;rw[Jd aj];refine List.filter_eq_self.mpr (au q hq);have:q.1≠k:=fun e=>nd.1 (e▸(Lm q hq));ext Ef
 | oI,aY,k,v,nd,h=>by
  ext vz;have h':aU r uz:=xB
  have ne:aL≠k:=fun e=>nd.1 (by rw[e]; exact Zg.mpr (dH,uz,Zj h'));show List.filter _ _=p::r.eraseIdx i;rw[Jc (by simpa using ne)];have:=xii kE h';unfold xcs at this;rw[this]
theorem xi9 {κ:Type} [Hl]:∀{kvs:eV}{k:κ}{v:V},Kn->∃ i:Nat,aU kvs uz
 | [],k,v,h=>ft
 | oI,k,v,h=>by
  ext Ba
  .ext gZ Cw;cases h;show(aS,0,by simp[<- e])
  .ext gZ zA;show(pb,i,hi,xi9 h,aY,GQ)
theorem xwi {X:Cx}{pins:bj}{Z:St}{H:Hp}{s:Shared}{A:Around}{E:bq}{a b:Addr}{kvs:dc}{k:eA}{v:V}{Q:bq} (hu:A.in1.units<cLine) (I:av) (e:FC) (eb:FB) (l:Kn)
    (h:(GD,cP (i5 H a Bi) s',RelV v w')):wpAny aN A (vn "dict.pop" (ip bb b)) Q E s:=by
  obtain⟨z,hd,⟨xs,rel,dd⟩⟩:43:=zdy;obtain⟨km,ke⟩:=xow rel;have ln:=Y6 rel;obtain⟨i,hi⟩:=xi9 l;obtain⟨x,hx,rx⟩:∃ x,(aP,tF,(uz:eA × V).1=ba,Xm cy,RelV v lB):=L2.Paired.at_ rel hi;obtain⟨k',b',w'⟩:=x;obtain⟨ek,_,rw'⟩:43:=rx;simp only at ek;subst ek;have dd0:=dd;obtain⟨o,es,ep,ho,hxd,hdat,hes,hkk,hnd⟩:106:=dd;have ndk:(kvs.map (·.1)).Nodup:=cT ke hnd
  refine JL Qe ⟨o,ho,hxd.1⟩ PySem.F.entry_dict_pop ?_ (PySem.F.args_dict_pop_2 _ _);have ti:xR a "dict":=⟨o,ho,hxd.1⟩
  unfold Builtin.«dict.pop»;have esz:es.isEmpty=false:=by
    have:es.size=xs.length:=WP
    have:RE:=h8 hx;rw[Array.isEmpty_eq_false_iff_exists_mem];show(aS,es[i]' aa,aj)
  obtain⟨c0,d0,dat0,sl0⟩:=o;ext zgw hxd
  repeat (any_goals (first|ext dW|(with_reducible refine Qc ti ?_)|(with_reducible refine Jw ho rfl ?_)|((with_reducible show wpAny _ _ (Builtin.Dict.takeOut _ _) _ _ _); refine xk3 (show (PV).room A.in1 from hu) AM dd0 hx (cT ln z) (aK h' dd' hs))|wp_step))
  show(vT,h w' _ ?_ rw');have dd2:=dd';obtain⟨o',es',ep',ho',hx',hd',he',hk',hn'⟩:106:=dd2;refine xeb I yo hs ⟨o',ho'⟩ ?_;refine⟨ZN (xll kvs k) z,hd,xs.eraseIdx i,?_,⟨105,o',es',ep',ho',hx',hd',he',hn'⟩⟩;rw[xii ndk hi];refine Paired.mapP (L2.Paired.erase rel i) fun p q zz=>⟨zz.1,?_,bX zz⟩
  show(cE,xdb (bg zz) e dF,bg zz)
noncomputable def xuk (td ty:TE):TE:=(L9,∃ kvs k b v,(aq,H2 a=some (.dT kvs),ER,(ae,H2 b,.tup (k.map kV)),Kn,Q v (i5 H2 a Bi)))
section
variable {X:Cx}{o e:Expr}{td ty:TE}{apos cpos:Pos}
theorem xrd (hu:wV) (ho:vH) (he:SI) (m:M1 X o "pop" apos e cpos):PE X (zM "pop" [e]) (xuk td ty):=by
 intro pins s Z H Q I h;show(zeB,Q2 m.base m.few m.line JQ Qe PySem.F.type_dict_pop (thn (ho pins s Z H _ I h) fun u s1 ⟨x,H1,I1,rx,a,ex,d,q1⟩=>?_),he pins s1 Z H1 _ I1 q1,fun iv s2 ⟨y,H2,I2,ry,kvs,k,b,v,ea,ey,eb,l,q2⟩=>YA ?_);ext rJ iv b ry;exact xwi hu I2 ea eb l zmT
#check _
#check L2
namespace L2
open PySem PySem.Spec PyProof.Rows XL PySem.W
inductive DV where
 | non
 | bl (b:Bool)
 | int (i:Int)
 | str (x:Str)
 | tup (xs:nZ)
 | lst (xs:nZ)
mutual
def dEq:DV->DV->Bool
 | .non,.non=>true
 | .bl a,.bl b=>a == b
 | .bl a,.int b=>(if a then 1 else 0) == b
 | .int a,.bl b=>a == (if b then 1 else 0)
 | .int a,.int b=>a == b
 | .str a,.str b=>a == b
 | .tup xs,.tup ys=>dEqs xs ys
 | .lst xs,.lst ys=>dEqs xs ys
 | _,_=>false
def dEqs:List DV->List DV->Bool
 | [],[]=>true
 | x::xs,y::ys=>dEq x y&&dEqs xs ys
 | _,_=>false
end
mutual
theorem xcq:∀ d,dEq d d=true
 | .non=>rfl
 | .bl _=>by simp[dEq]
 | .int _=>by simp[dEq]
 | .str _=>by simp[dEq]
 | .tup xs=>by simp only[dEq]; exact xef xs
 | .lst xs=>by simp only[dEq]; exact xef xs
theorem xef:∀ xs,dEqs xs xs=true
 | []=>rfl
 | x::xs=>by simp only[dEqs,ZE]; exact⟨xcq x,xef xs⟩
end
mutual
def DV.pl:DV->Bool
 | .bl _=>false
 | .tup xs=>pls xs
 | .lst xs=>pls xs
 | _=>true
def pls:List DV->Bool
 | []=>true
 | x::xs=>x.pl&&pls xs
end
mutual
theorem xn8:∀{d e:DV},d.pl=true->e.pl=true->dEq d e=true->d=e
 | .non,.non,_,_,_=>rfl
 | .int a,.int b,_,_,h=>by simp only[dEq,beq_iff_eq] at h; rw[h]
 | .str a,.str b,_,_,h=>by simp only[dEq,beq_iff_eq] at h; rw[h]
 | .tup xs,.tup ys,p,q,h=>by
  simp only[dEq] at h;simp only[DV.pl] at p q;rw[xiy p q h]
 | .lst xs,.lst ys,p,q,h=>by
  simp only[dEq] at h;simp only[DV.pl] at p q;rw[xiy p q h]
 | .bl _,_,p,_,_=>by simp[DV.pl] at p
 | .non,.bl _,_,q,_=>by simp[DV.pl] at q
 | .int _,.bl _,_,q,_=>by simp[DV.pl] at q
 | .str _,.bl _,_,q,_=>by simp[DV.pl] at q
 | .tup _,.bl _,_,q,_=>by simp[DV.pl] at q
 | .lst _,.bl _,_,q,_=>by simp[DV.pl] at q
 | .non,.int _,_,_,h=>by simp[dEq] at h
 | .non,.str _,_,_,h=>by simp[dEq] at h
 | .non,.tup _,_,_,h=>by simp[dEq] at h
 | .non,.lst _,_,_,h=>by simp[dEq] at h
 | .int _,.non,_,_,h=>by simp[dEq] at h
 | .int _,.str _,_,_,h=>by simp[dEq] at h
 | .int _,.tup _,_,_,h=>by simp[dEq] at h
 | .int _,.lst _,_,_,h=>by simp[dEq] at h
 | .str _,.non,_,_,h=>by simp[dEq] at h
 | .str _,.int _,_,_,h=>by simp[dEq] at h
 | .str _,.tup _,_,_,h=>by simp[dEq] at h
 | .str _,.lst _,_,_,h=>by simp[dEq] at h
 | .tup _,.non,_,_,h=>by simp[dEq] at h
 | .tup _,.int _,_,_,h=>by simp[dEq] at h
 | .tup _,.str _,_,_,h=>by simp[dEq] at h
 | .tup _,.lst _,_,_,h=>by simp[dEq] at h
 | .lst _,.non,_,_,h=>by simp[dEq] at h
 | .lst _,.int _,_,_,h=>by simp[dEq] at h
 | .lst _,.str _,_,_,h=>by simp[dEq] at h
 | .lst _,.tup _,_,_,h=>by simp[dEq] at h
theorem xiy:∀{xs ys:List DV},pls xs=true->pls ys=true->dEqs xs ys=true->xs=ys
 | [],[],_,_,_=>rfl
 | x::xs,y::ys,p,q,h=>by
  simp only[pls,ZE] at p q;simp only[dEqs,ZE] at h;rw[xn8 p.1 q.1 h.1,xiy p.2 q.2 h.2]
 | [],_::_,_,_,h=>by simp[dEqs] at h
 | _::_,[],_,_,h=>by simp[dEqs] at h
end
theorem xg9 {d e:DV}{α:Type}{x y:α} [Ap] (p:d.pl=true) (q:e.pl=true) (f:d=e↔x=y):zF BK (x=y):=by
 ext ij x y
 .rw [decide_eq_true c,f.mpr c];exact xcq _
 .rw [decide_eq_false c];cases z:BK with
  | false=>rfl
  | true=>exact absurd (f.mp (xn8 p q z)) c
theorem xhx:∀{xs ys:nZ}{e:EG},(zkq,e j=dEq x y)->((Zu zng).all e&&xs.length == ys.length)=R4
 | [],[],_,_=>rfl
 | [],cM,_,_=>cI dEqs
 | cM,[],_,_=>cI dEqs
 | p8,mQ,e,h=>by
  show(ah,ih,xhx (xs:=xs) (ys:=ys) (e:=fun j=>e fW) (fun j a b ha hb=>h fW a b (by simpa using ha) uV),h0,h 0 x y rfl rfl);rw[ZD,ZD,(eS,min (xs.length+1) (ys.length+1)=zng+1),YZ,YM,List.all_map];show _=(dEq x y&&R4)
  rw[<- ih,h0];have z:((xs.length+1 == ys.length+1):Bool)=(xs.length == ys.length):=by
   rw[Js];simp
  rw[z,Bool.and_assoc];rfl
theorem xlg:∀{xs ys:nZ},xs.length≠ys.length->(dE R4)
 | [],[],h=>absurd rfl h
 | [],cM,_=>rfl
 | cM,[],_=>rfl
 | p8,mQ,h=>by
  show dE (dEq x y&&R4);rw[xlg (xs:=xs) (ys:=ys) (ao,h (cI z))];exact Qy _
inductive Dv (K:Zd) (H:Hp):Nat->(bA V DV)
 | non {n:Nat}:lK n .non .non
 | bl {n:Nat}{b:Bool}:lK n zD zD
 | int {n:Nat}{b:Int}:lK n (.int b) (.int b)
 | str {n:Nat}{b:Str}:lK n (.str b) (.str b)
 | tup {n:Nat}{a:Addr}{xs:af}{ds:nZ} (ha:HQ) (hl:zqr) (h:zgU):lK (n+1) bb (.tup ds)
 | lst {n:Nat}{a:Addr}{xs:af}{ds:nZ} (ha:qC) (hl:zqr) (h:zgU):lK (n+1) bb (.lst ds)
section
variable {X:Cx}{pins:List (Addr × Obj)}{Z:St}{H:Hp}{s:Shared}
theorem xjk {h:Heap}{a:Addr}{i j:gJ} (p:h.IsTuple a i) (q:PlainL h a j):False:=by
 ext tf o e c p;obtain⟨o',n,e',c',_⟩:83:=q;ext bI e e' e';ext tX c c' c' az
theorem xoy {xs ys:nZ} (h:zqs) (f:(zkq,x=y)):xs=ys:=by
 refine Q4 (du j);by_cases c:j<xs.length
 .rw [Zb c,Cy,f j _ _ (Zb c) Cy]
 .rw [Jg aa,Jg aa]
theorem xk0 (I:av) {n:Nat}{x:V}{d:DV} (h:Dv X.K H n x d):∀{m:Nat}{e:DV},Dv X.K H m x e->d=e:=by
 induction h with
 | non=>ext Oy
 | bl=>ext Oy
 | int=>ext Oy
 | str=>ext Oy
 | @tup n a xs ds ha hl h ih =>
  intro m e h2;cases h2 with
  | @tup m _ ys es hb kl k =>
   show(oC,I.tuple_inj ha hb);refine congrArg DV.tup (xoy aa (bL j d e h1 h2));have lt:j<xs.length:=by
    show(cW,h8 h1)
   exact ih j Cq d ii h1 (k j Cq e ii h2)
  | @lst m _ ys es hb kl k =>
   show(zfr,I.tuple ha,I.list hb)
 | @lst n a xs ds ha hl h ih =>
  intro m e h2;cases h2 with
  | @lst m _ ys es hb kl k =>
   show(oC,I.list_inj ha hb);refine congrArg DV.lst (xoy aa (bL j d e h1 h2));have lt:j<xs.length:=by
    show(cW,h8 h1)
   exact ih j Cq d ii h1 (k j Cq e ii h2)
  | @tup m _ ys es hb kl k =>
   show(zfr,I.tuple hb,I.list ha)
noncomputable def at2 (f:DV->DV->Bool) (ds es:nZ) (j:Nat):Bool:=match ds[j]?,es[j]? with|some d,some e=>f d e|_,_=>false
theorem xij {f:DV->DV->Bool}{ds es:nZ}{j:Nat}{d e:DV} (h:cO ds d) (h2:cO es e):at2 f ds es j=f d e:=by
 unfold at2;rw[h,h2]
theorem xir (I:av) {n:Nat}{x:V}{d:DV} (h:Dv X.K H n x d):∀{m:Nat}{y:V}{e:DV},Dv X.K H m y e->∀{A:Around}{u v:Value},A.units+n+m<cLine->nR->RelV y v ->
    Z0 A s u v BK/\ZM A s u v BK/\Z8 A s u v (! BK):=by
  induction h with
  | @non n =>
    intro m y e h2 A u v hu rx ry;show(jD,u=JB,rx);cases h2 with
    | @non  =>
      show(Dz,Z0.same _,ZM.none_none,Z8.none_none)
    | @bl _ b2 =>
      show(Da,Z0.none_bool _,ZM.none_bool _,Z8.none_bool _)
    | @int _ b2 =>
      show(oP,Z0.none_int _ _,ZM.none_int _ _,Z8.none_int _ _)
    | @str _ b2 =>
      show(oP,Z0.none_str _ _,ZM.none_str _ _,Z8.none_str _ _)
    | @tup m b ys es hb kl k =>
      show(Gn,Z0.none_tuple t2 aa,ZM.none_tuple t2 aa,Z8.none_tuple t2 aa)
    | @lst m b ys es hb kl k =>
      show(Gp,Z0.none_list t2.isList aa,ZM.none_list t2.isList aa,Z8.none_list t2.isList aa)
  | @bl n b1 =>
    intro m y e h2 A u v hu rx ry;show(jD,u=Yb _,rx);cases h2 with
    | @non  =>
      show(Dz,Z0.bool_none _,ZM.bool_none _,Z8.bool_none _)
    | @bl _ b2 =>
      show(Da,Z0.bool_bool _ _,ZM.bool_bool _ _,Z8.bool_bool _ _)
    | @int _ b2 =>
      show(oP,Z0.bool_int _ _ _,ZM.bool_int _ _ _,Z8.bool_int _ _ _)
    | @str _ b2 =>
      show(oP,Z0.bool_str _ _ _,ZM.bool_str _ _ _,Z8.bool_str _ _ _)
    | @tup m b ys es hb kl k =>
      show(Gn,Z0.bool_tuple _ t2 aa,ZM.bool_tuple _ t2 aa,Z8.bool_tuple _ t2 aa)
    | @lst m b ys es hb kl k =>
      show(Gp,Z0.bool_list _ t2.isList aa,ZM.bool_list _ t2.isList aa,Z8.bool_list _ t2.isList aa)
  | @int n b1 =>
    intro m y e h2 A u v hu rx ry;obtain⟨_,rfl⟩:=rx;cases h2 with
    | @non  =>
      show(Dz,Z0.int_none _ _,ZM.int_none _ _,Z8.int_none _ _)
    | @bl _ b2 =>
      show(Da,Z0.int_bool _ _ _,ZM.int_bool _ _ _,Z8.int_bool _ _ _)
    | @int _ b2 =>
      show(oP,Z0.int_int _ _ _ _,ZM.int_int _ _ _ _,Z8.int_int _ _ _ _)
    | @str _ b2 =>
      show(oP,Z0.int_str _ _ _ _,ZM.int_str _ _ _ _,Z8.int_str _ _ _ _)
    | @tup m b ys es hb kl k =>
      show(Gn,Z0.int_tuple _ _ t2 aa,ZM.int_tuple _ _ t2 aa,Z8.int_tuple _ _ t2 aa)
    | @lst m b ys es hb kl k =>
      show(Gp,Z0.int_list _ _ t2.isList aa,ZM.int_list _ _ t2.isList aa,Z8.int_list _ _ t2.isList aa)
  | @str n b1 =>
    intro m y e h2 A u v hu rx ry;obtain⟨_,rfl⟩:=rx;cases h2 with
    | @non  =>
      show(Dz,Z0.str_none _ _,ZM.str_none _ _,Z8.str_none _ _)
    | @bl _ b2 =>
      show(Da,Z0.str_bool _ _ _,ZM.str_bool _ _ _,Z8.str_bool _ _ _)
    | @int _ b2 =>
      show(oP,Z0.str_int _ _ _ _,ZM.str_int _ _ _ _,Z8.str_int _ _ _ _)
    | @str _ b2 =>
      show(oP,Z0.str_str _ _ _ _,ZM.str_str _ _ _ _,Z8.str_str _ _ _ _)
    | @tup m b ys es hb kl k =>
      show(Gn,Z0.str_tuple _ _ t2 aa,ZM.str_tuple _ _ t2 aa,Z8.str_tuple _ _ t2 aa)
    | @lst m b ys es hb kl k =>
      show(Gp,Z0.str_list _ _ t2.isList aa,ZM.str_list _ _ t2.isList aa,Z8.str_list _ _ t2.isList aa)
  | @tup n a xs ds ha hl h ih =>
    intro m y e h2 A u v hu rx ry;show(zt,_);show(jG,r1,t1,z1,I.tuple ha);have l1:=r1.length;cases h2 with
    | @non  =>
      show(Dz,Z0.tuple_none t1 aa,ZM.tuple_none t1 aa,Z8.tuple_none t1 aa)
    | @bl _ b2 =>
      show(Da,Z0.tuple_bool _ t1 aa,ZM.tuple_bool _ t1 aa,Z8.tuple_bool _ t1 aa)
    | @int _ b2 =>
      show(oP,Z0.tuple_int _ _ t1 aa,ZM.tuple_int _ _ t1 aa,Z8.tuple_int _ _ t1 aa)
    | @str _ b2 =>
      show(oP,Z0.tuple_str _ _ t1 aa,ZM.tuple_str _ _ t1 aa,Z8.tuple_str _ _ t1 aa)
    | @tup m b ys es hb kl k =>
      show(MI,I.tuple hb);ext Rh;have step:(zfW,zhO (at2 dEq ds es j)):=fun j h1 h2=>by
        show(zef,ih j x _ hx (Zb j1) (k j y _ hy (Zb j2)) (A:=A.in1) zjO rx ry)
      have all:=zfs;have both:ZM A s (.ref a) (.ref b) (dEqs ds es)/\Z8 A s (.ref a) (.ref b) (!dEqs ds es):=by
        show(ah,z1,ZM.tuples (A:=A) (e:=DP) (zjx t1) zhc aa step,z2,Z8.tuples (A:=A) (e:=DP) (zjx t1) zhc aa step);ext zeZ
        rw[e1,e2,all] at z1 z2;ext aS z1 z2
      simp only[dEq];refine⟨?_,both⟩;by_cases q:a=b
      . subst q
        have ed:DV.tup ds=DV.tup es:=xk0 I (Dv.tup ha hl h) (Dv.tup hb kl k);ext zfp
      . exact .of_refs q both.1
    | @lst m b ys es hb kl k =>
      show(Gp,Z0.tuple_list t1 t2.isList aa,ZM.tuple_list t1 t2.isList aa,Z8.tuple_list t1 t2.isList aa)
  | @lst n a xs ds ha hl h ih =>
    intro m y e h2 A u v hu rx ry;show(zt,_);show(jG,r1,t1,z1,I.list ha);have l1:=r1.length;cases h2 with
    | @non  =>
      show(Dz,Z0.list_none t1.isList aa,ZM.list_none t1.isList aa,Z8.list_none t1.isList aa)
    | @bl _ b2 =>
      show(Da,Z0.list_bool _ t1.isList aa,ZM.list_bool _ t1.isList aa,Z8.list_bool _ t1.isList aa)
    | @int _ b2 =>
      show(oP,Z0.list_int _ _ t1.isList aa,ZM.list_int _ _ t1.isList aa,Z8.list_int _ _ t1.isList aa)
    | @str _ b2 =>
      show(oP,Z0.list_str _ _ t1.isList aa,ZM.list_str _ _ t1.isList aa,Z8.list_str _ _ t1.isList aa)
    | @tup m b ys es hb kl k =>
      show(Gn,Z0.list_tuple t1.isList t2 aa,ZM.list_tuple t1.isList t2 aa,Z8.list_tuple t1.isList t2 aa)
    | @lst m b ys es hb kl k =>
      show(MI,I.list hb);ext Rh;have step:(zfW,zhO (at2 dEq ds es j)):=fun j h1 h2=>by
        show(zef,ih j x _ hx (Zb j1) (k j y _ hy (Zb j2)) (A:=A.in1) zjO rx ry)
      have all:=zfs;have both:ZM A s (.ref a) (.ref b) (dEqs ds es)/\Z8 A s (.ref a) (.ref b) (!dEqs ds es):=by
        ext zeZ
        show(ij,ds.length,es.length)
        . show(ah,z1,ZM.lists (A:=A) (e:=DP) t1.isList t2.isList aa aa step,z2,Z8.lists (A:=A) (e:=DP) t1.isList t2.isList aa aa step);have all':(Zu ds.length).all DP=dEqs ds es:=by
            rw[<- all,c,Nat.min_self];simp
          rw[e1,all'] at z1 z2;ext aS z1 z2
        . rw[xlg c]
          show(aS,ZM.lists_lengths (A:=A) t1.isList t2.isList zlm aa,Z8.lists_lengths (A:=A) t1.isList t2.isList zlm aa)
      simp only[dEq];refine⟨?_,both⟩;by_cases q:a=b
      . subst q
        have ed:DV.lst ds=DV.lst es:=xk0 I (Dv.lst ha hl h) (Dv.lst hb kl k);ext zfp
      . exact .of_refs q both.1
#check _
theorem Same.seqL {K:Zd}{H H':Hp}{a:Addr}{xs:af} (s:bF) (h:qC):SqL K H' a xs:=by
 rcases h with (h|⟨ob,h⟩)|h
 .show(I0,s _ _ h)
 .show(Ew,⟨ob,s _ _ h⟩)
 .ext fU h
inductive rEqV (K:Zd) (x:V) (y:V) (H:Hp) (Q:VK):Prop
 | mk (n m:Nat) (d e:DV) (e_:Se) (r_:Vj e BK)
inductive rNeV (K:Zd) (x:V) (y:V) (H:Hp) (Q:VK):Prop
 | mk (n m:Nat) (d e:DV) (e_:Se) (r_:Vj e (! BK))
inductive rInV (K:Zd) (neg:Bool) (x:V) (y:V) (H:Hp) (Q:VK):Prop
 | mk (n m:Nat) (d:DV) (es:nZ) (e_:Se) (r_:Vj (.lst es) (if neg then ! zpV else zpV))
section
variable {X:Cx}
theorem xkm (hu:zU):OpR X (compareOp .Eq) (rEqV X.K):=by
 intro pins s Z H x y u v Q I rx ry h;obtain⟨n,m,d,e,h1,h2,hn,hm,q⟩:=h;exact (xir I h1 h2 (A:=X.A) aa rx ry).2.1 X.prog X.w X.xe _ (ux mR q)
theorem xde (hu:zU):OpR X (compareOp .NotEq) (rNeV X.K):=by
 intro pins s Z H x y u v Q I rx ry h;obtain⟨n,m,d,e,h1,h2,hn,hm,q⟩:=h;exact PySem.W.cmp_ofNotEq ((xir I h1 h2 (A:=X.A) aa rx ry).2.2 X.prog X.w X.xe _ (ux mR q))
theorem xkf {α β:Type}{f:Ts}{g:β->Bool}:∀{xs:bZ}{ys:List β},zqs->(∀(j:Nat) (x:α) (y:β),SS->(cO ys y)->f x=g y)->xs.any f=ys.any g
 | [],[],_,_=>rfl
 | [],cM,h,_=>ft
 | cM,[],h,_=>ft
 | p8,mQ,h,k=>by
  rw[Yq,Yq,k 0 x y rfl rfl,xkf (xs:=xs) (ys:=ys) xB fun j a b h1 h2=>k fW a b qw Dj]
noncomputable def eOf (K:Zd) (H:Hp) (m:Nat) (d:DV) (z:V):Bool:=@dite Bool (∃ e,lK m z e) (Classical.propDecidable _) (gW,dEq h.choose d) fun _=>false
theorem xe4 {pins:bj}{Z:St}{H:Hp}{s:Shared} (I:av) {m:Nat}{d e:DV}{z:V} (h:Dv X.K H m z e):eOf X.K H m d z=dEq e d:=by
 unfold eOf;rw[dif_pos ⟨e,h⟩];have ex:∃ e,Dv X.K H m z e:=⟨e,h⟩
 rw[xk0 I ex.choose_spec h]
theorem xwk (hu:zU):qx .In (rInV X.K false):=by
 intro pins s Z H x y v u Q I rx ry h;obtain⟨n,m,d,es,h1,h2,hn,hm,q⟩:=h;cases h2 with
 | @lst m a xs _ ha hl k =>
  cases ry;obtain⟨its,r,pl,hz⟩:63:=I.list ha;have get:∀ z∈xs,∃(j:Nat) (e:DV),xs[j]?=some z/\es[j]?=some e/\Dv X.K H m z e:=fun z hz=>by
   ext zei
  show(zmJ,eU HD,au w hw)
  .show(zeM,xir I he h1 (A:=X.A.in1) Wr m2 rx)
  .ext zec
theorem xf7 (hu:zU):qx .NotIn (rInV X.K true):=by
 intro pins s Z H x y v u Q I rx ry h;obtain⟨n,m,d,es,h1,h2,hn,hm,q⟩:=h;cases h2 with
 | @lst m a xs _ ha hl k =>
  cases ry;obtain⟨its,r,pl,hz⟩:63:=I.list ha;have get:∀ z∈xs,∃(j:Nat) (e:DV),xs[j]?=some z/\es[j]?=some e/\Dv X.K H m z e:=fun z hz=>by
   ext zei
  refine SeqAt.notIn_listAt (eU HD) pl.isList (au w hw) (ux mR ?_)
  .show(zeM,xir I he h1 (A:=X.A.in1) Wr m2 rx)
  .ext zec
#check _
#check L2
namespace L2
open PySem PySem.Spec PyProof.Rows XL PySem.W
noncomputable def Tp (H H':Hp):Prop:=Gc
theorem Same.tp {H H':Hp} (s:bF):Tp H H':=(iI,s b _ e)
theorem Tp.trans {H H' H'':Hp} (s:Tp H H') (r:Tp H' H''):Tp H H'':=(iI,r b xs (s b xs e))
theorem xol {H:Hp}{l:Addr}{xs ys:af} (h:ym):Tp H zdl:=fun b zs e=>by
 show(cE,(ao,by rw[z,h] at e; cases e),e)
section
variable {J:It}{n:Nat}{g:TG}{Z:St}{fr:List Nat}{tc:TT}{te:TE}{l:Addr}{H1:Hp}{Q:VK}
theorem xi6 (len:Nat) (hlen:ut len) (hl:vq) (x:Nat->V) (hgo:∀ i H,i<len->SJ->J.go i H) (hy:∀ i H v H',(bv,i<len,SJ,J.yld i H v H',H'=H/\v=x i)) (hst:∀ H,SJ->J.stop len H)
    (p:EG) (F:Lp) (stab:FY)
    (step:∀ i H2,i<len->kP->∀(N:V->Hp->Prop) (M:Hp->Prop),(∀ y H',Same H2 H'->p i=true->F i y H'->N y H')->UP ->
      g (x i) Iu H2 Uf)
    (fin:(CL,((Zu len).filter p).length,(∀(j:Nat) (y:V) (i:Nat),Am ((Zu len).filter p) i KK))):xec J n g Z fr tc te l H1 Q:=by
  refine xc8 len (zmZ,((Zu i).filter p).length,∀(j:Nat) (y:V) (k:Nat),(Am,(Zu i).filter p,k,F k y H2)) ?_ ?_ ?_ ?_
  . refine(bR,v0,xk,rfl,fM j y k AI)
    ext cE Ls e
  . rintro i ys H2 lt ⟨s,_⟩
    exact hgo i H2 lt s
  . rintro i ys H2 v H3 lt (⟨s,el,ly,f⟩:44) yl N hN
    show(dZ,rfl,hy i H2 v H3 lt s yl);refine step i H3 lt s _ _ (bL y H' s' pt hf) (aK H' s' pf)
    . have el':=s' _ _ el
      have ylen:ut ys.length:=by
        rw[ly];refine Jy rA ?_;rw[ZT];omega
      refine Bv el' ylen (bR,v0,xk,?_,bL j z k e1 e2)
      . show(cE,Ls,s' _ _ qT)
      . rw[Yj,Y0,Zr,Zr,ly,Jc pt]
        rfl
      . rw[Yj,Y0,Jc pt] at e2
        by_cases c:j<ys.length
        . rw[ZY c] at e1
          show(b6,ZY aa,e2,stab _ _ _ _ ((Same.tp s').trans (xol el')) (f j z k e1 e2))
        . rw[Jz aa] at e1 e2
          rw[<- ly] at e2;cases hj:j-ys.length with
          | zero =>
            rw[hj] at e1 e2;simp at e1 e2;subst e1 e2;exact stab _ _ _ _ (xol el') hf
          | succ m =>
            rw[hj] at e1;simp at e1
    . refine hN _ _ (bR,s.trans s',s' _ _ el,?_,bL j z k e1 e2)
      . rw[Yj,Y0,Jd (cI pf)]
        simpa using ly
      . rw[Yj,Y0,Jd (cI pf)] at e2
        simp only[List.filter_nil,QR] at e2;exact stab _ _ _ _ (Same.tp s') (f j z k e1 e2)
  . rintro ys H2 (⟨s,el,ly,f⟩:44)
    show(aS,hst _ s,fin ys H2 s el ly f)
theorem xdw {K:Zd}{a:Addr}{xs:af} (hs:Hz) (hlen:Hr) (hl:vq) (p:EG) (F:Lp) (stab:FY)
    (step:∀(i:Nat) (x:V) (H2:Hp),xs[i]?=some x->Same H1 H2->∀(N:V->Hp->Prop) (M:Hp->Prop),(∀ y H',Same H2 H'->p i=true->F i y H'->N y H')->UP ->
      g x Iu H2 Uf)
    (fin:(CL,((Zu xs.length).filter p).length,(∀(j:Nat) (y:V) (i:Nat),Am ((Zu xs.length).filter p) i KK))):xec yH n g Z fr tc te l H1 Q:=by
  refine xi6 xs.length hlen hl (fun i=>xs.getD i .non) (fun i H lt s=>(bK,xs,xs[i],OP,ii)) (fun i H v H' lt s y=>?_) (fun H s=>⟨xs,OP,bu⟩) p F stab (fun i H2 lt s N M h1 h2=>?_) fin
  . ext tN f y
    have z:=f xs (Same.seqL s hs);show(dX,e,?_);simp[z]
  . show(jF,e,aU xs (xs.getD i .non),cI ii,step i _ H2 e s N M h1 h2)
theorem xht {i:Nat}{x:V}{σ0:St}{H2:Hp}{N:ui}{M:TC}{g:TG}{te:TE} (h:g x σ0 H2 zbp):g x σ0 H2 fun σ' H3=>xed σ' H3 fun b H4=>(cK,b,zdH,M H4):=by
 have e:(fun (σ':St) (H3:Hp)=>xed σ' H3 fun b H4=>(cK,b,zdH,M H4))=zbp:=by
  funext σ' H3;show (cK,true,zdK,M H3)=zdK;rw[bY]
 ext aQ e h
theorem filter_all (m:Nat):(Zu m).filter RG=Zu m:=aj
theorem xba {K:Zd}{a:Addr}{xs:af} (hs:Hz) (hlen:Hr) (hl:vq) (F:Lp) (stab:FY)
    (step:zla (zgJ TK))
    (fin:CL xs.length (GU KK)):xec yH n g Z fr xed te l H1 Q:=by
  refine xdw hs hlen hl RG F stab (fun i x H2 hx s N M h1 h2=>xht (i:=i) (step i x H2 hx s N zjp)) (fun ys H2 s e ly f=>?_);rw[filter_all,ZT] at ly;refine fin ys H2 s e ly zmS;rw[filter_all,JJ (gL Ln)]
#check _
theorem xdt {α:Type}{f:α->V}:∀{as:bZ}{ys:af},(wm as.length)->(∀(i:Nat) (y:V) (a:α),ST->(aU as a)->y=f a)->ys=as.map f
 | [],[],_,_=>rfl
 | [],cM,h,_=>ft
 | cM,[],h,_=>ft
 | a::as,mQ,h,k=>by
  rw[Zo,k 0 y a rfl rfl,xdt (as:=as) (ys:=ys) xB fun i y' a' h1 h2=>k aY y' a' qw Dj]
theorem xmi {α:Type} (q:Ts):∀(as:bZ) (p:EG),zha->((AJ).filter p).filterMap (fun i=>as[i]?)=as.filter q
 | [],_,_=>rfl
 | a::as,p,h=>by
  have ih:=xmi q as (fun i=>p aY) (fL,b,hb,h aY b uV);rw[ZD,YZ];have e:((AJ).map Nat.succ).filter p=((AJ).filter (fun i=>p aY)).map Nat.succ:=by
   rw[QQ];rfl
  have h0:=h 0 a rfl;by_cases c:q a=true
  .rw [Jc (aB h0 c),Jc c,e,J6];simp only[List.getElem?_cons_zero,Qz];rw[<- ih];rfl
  .rw [Jd (aB h0 c),Jd c,e,Qz,<- ih];rfl
theorem xgt {α:Type} (q:Ts) {as:bZ}{p:EG} (h:zha):((AJ).filter p).length=(as.filter q).length/\∀ j i:Nat,(cO ((AJ).filter p) i)->as[i]?=(as.filter q)[j]?:=by
 rw[<- xmi q as p h];have all:∀ i∈(AJ).filter p,∃ a,aU as a:=fun i hi=>by
  have:=ZG.mp (rb hi);show(aS,as[i],Zb this)
 generalize (AJ).filter p=is at all
 induction is with
 | nil=>show(aS,rfl,eP j i AI)
 | cons i is ih =>
  show(Fv,ha,all i Zm);obtain⟨h1,h2⟩:=ih fun k hk=>all k (Zl _ hk)
  rw[J6,ha];show(dX,cI h1,rW j k);cases j with
  | zero =>
   ext A5;exact ha
  | succ m=>exact h2 m k uX
#check L2
namespace XL
open PySem PySem.MeetsSeq PySem.MeetsSeq2 PySem.MeetsSeq3 PySem.SeqAt
open AutoSeq1 (wpAny_loadPart')
theorem xm8 (a:Addr) (zs:gJ) (n:Nat) (y:Value) (f:zdw) (j:Nat) (lt:j<zs.size) (yes:f zs[j]=true) (few:cU zs.size) (k:Nat) :
    ∀ i:Nat,j-i=k->i<=j->(∀ m (hm:m<zs.size),i<=m->m<j->f zs[m]=false)->Meets (Builtin.«list.remove.loop» (jB [bb,y,rawInt i]))
      (fun A R s=>(s.heap.get? a=some { cls:=.type "list",dict:=none,data:=.seq zs n,slots:=#[] })/\zhn /\
        zeK):=by
  induction k with
  | zero =>
    intro i ek le no prog w A R s g;ext Uv;show(jD,i=j,aa)
    wp_walk using
      Y4 at_
    show(zmU,cI lt)
    rw[ix];refine Zf
      (eq _ (Array.getElem_mem lt) prog w _ _ ?_)
    rw[yes];have few':(zs.eraseIdxIfInBounds i).size<=sizeLine+1 :=
      ZN (size_erased zs _) (Nat.le_succ_of_le few)
    wp_walk using
      (wpAny_updateSeq at_ rfl (hz:=few) (_hz':=few')),Y4 at_
    simpa using g
  | succ k ih =>
    intro i ek le no prog w A R s g;ext Uv;have il:i<zs.size:=aa
    wp_walk using
      Y4 at_
    show(zmU,cI il)
    have ic:(cH+1)=(gM aY):=aa
    rw[ix];refine Zf
      (eq _ (Array.getElem_mem il) prog w _ _ ?_)
    rw[no i il bu aa]
    wp_walk
    rw[ic];exact⟨znQ,Y5 entry_remove_loop (by
      show(aQ,Yl plain_remove_loop _,ih aY aa aa (fun m hm h1 h2=>no m hm aa h2) prog w A R _ ⟨at_,eq,g⟩))⟩
theorem xwu (a:Addr) (zs:gJ) (n:Nat) (y:Value) (f:zdw) (j:Nat) (lt:j<zs.size) (yes:f zs[j]=true) (no:∀ m (hm:m<zs.size),m<j->f zs[m]=false) (few:cU zs.size) :
    Meets (Builtin.«list.remove» (jB [bb,y]))
      (fun A R s=>(s.heap.get? a=some { cls:=.type "list",dict:=none,data:=.seq zs n,slots:=#[] })/\zhn /\
        zeK):=by
  intro prog w A R s g;ext Uv
  wp_walk using
    Y4 at_
  exact⟨znQ,Y5 entry_remove_loop (by
    show(aQ,Yl plain_remove_loop _,xm8 a zs n y f j lt yes few _ 0 rfl jg (fun m hm _ h2=>no m hm h2) prog w A R _ ⟨at_,eq,g⟩))⟩
#check XL
namespace L2
open PySem PySem.Spec PyProof.Rows XL PySem.W
noncomputable def xpg:Expr->Bool
 | .Starred _ _=>false
 | _=>true
theorem xm9 {e:Expr}{es:jY}{env:Env} (h:xpg e=true):starEach mS env=(false,RX)::starEach es env:=by
 cases e<;>first|rfl|cases h
theorem xa5 {X:Cx}{e:Expr}{es:jY}{te:TE}{t:TA} (ha:tz) (hr:SF) (hn:xpg e=true):PA X mS (xrw te t):=xa ha hr (xm9 hn)
noncomputable def xjd (es:nZ) (d:DV) (j:Nat):Prop:=(∃ e,(cO es e)/\dEq e d=true)/\∀(i:Nat) (e:DV),i<j->(aU es e)->(dE,dEq e d)
noncomputable def xti (K:Zd):Il:=fun x vs H Q=>∃(l:Addr) (xs:af) (y:V) (n m:Nat) (d:DV) (es:nZ) (j:Nat),(aq,KO,vs=[y],ym,lK n y d,(aq,lK m pY (.lst es),n<=9,m<=9,xjd es d j,Q .non (zpl j)))
section
variable {X:Cx}
theorem xqf {pins:bj}{s:Shared}{Z:St}{H:Hp}{l:Addr}{xs:af}{its:aX}{y:V}{u:Value}{n m:Nat}{d:DV}{es:nZ}{j:Nat} (hu:zU) (I:av) (hH:ym) (r:xX) (ru:gb) (h1:Dv X.K H n y d) (h2:Dv X.K H m pY (.lst es)) (hn:n<=9) (hm:m<=9) (fa:xjd es d j) :
    ∃(f:zdw) (lt:j<its.toArray.size),f its.toArray[j]=true/\(∀ k (hk:k<its.toArray.size),k<j->f its.toArray[k]=false)/\∀ z,z∈its.toArray->Z0 X.A.in1 s z u (f z):=by
  cases h2 with
  | @lst m _ zs _ ha hl k =>
    show(oC,I.list_inj ha (SqL.of hH));obtain⟨⟨e,he,ee⟩,no⟩:=fa;have len:=r.length;have jl:j<es.length:=h8 he;have at_:∀(i:Nat) (h:i<its.toArray.size),∃(z:V) (e:DV),(wK,es,e,RelV z its.toArray[i],Dv X.K H m z e):=fun i h=>by
      show(ag,z,hz,rz,xfl r h);have il:i<es.length:=DR h
      exact⟨z,es[i],Zb il,rz,k i z _ hz (Zb il)⟩
    refine⟨eU HD,jo,?_,?_,?_⟩
    . obtain⟨z,e',h3,rz,dz⟩:83:=at_ j jo
      rw[xg6 rz,xe4 I dz];ext bI he h3 h3;exact ee
    . intro i hi lt
      obtain⟨z,e',h3,rz,dz⟩:83:=at_ i hi;show(cq,xg6 rz,xe4 I dz,no i e' lt h3)
    . intro z hz
      obtain⟨i,hi,rfl⟩:=Array.mem_iff_getElem.mp hz;obtain⟨z,e',h3,rz,dz⟩:83:=at_ i hi;show(cq,xg6 rz,xe4 I dz,(xir I dz h1 (A:=X.A.in1) Wr rz ru).1)
theorem xis (hu:zU):MtM X "list.remove" (xti X.K):=by
 intro pins s Z H x vs v us Q I rx rv h;obtain⟨l,xs,y,n,⟨m,d,es,j,rfl,rfl,hH,h1,h2,hn,hm,fa,q⟩⟩:121:=h;ext M6
 obtain⟨z,its,n',r,hl,e⟩:=Kk;obtain⟨f,lt,yes,no,eq⟩:=xqf hu I hH r ru h1 h2 hn hm fa;refine Wi F.slot_list_remove (dL e) F.entry_list_remove (F.args_list_remove_2 _ _)
  (xwu l its.toArray n' u f j lt yes no (kQ Z5)) (dM e eq)
 refine(eF,.non,_,I.lset (its':=its.eraseIdx j) hH e ?_ (r.eraseIdx j) ?_,q)
 .show(zmG,its.toArray.eraseIdxIfInBounds j=(its.eraseIdx j).toArray)
 .show(cW,xf4 xs j)
#check _
#check L2
namespace XL
open PySem L2
open PyProof.Rows (assign_Tuple)
#check XL
namespace L2
open PySem PySem.Spec PyProof.Rows XL PySem.W
#check L2
namespace L2
open PySem PySem.Spec PyProof.Rows XL PySem.W PySem.Builtin PySem.Builtin.Str
#check L2
namespace L2
open PySem PySem.Spec PyProof.Rows XL
open AutoSeq1 (wpAny_loadPart')
#check L2
namespace L2
open PySem PySem.Spec PyProof.Rows XL
noncomputable def Itkd (d:Addr) (o:Obj) (kvs:bw):It :=
 (zlp,H'=H/\∃ k x,(aU kvs zE)/\v=kV k)
theorem xpk {P:Program}{w:World}{K:Zd}{tg:Expr} (d it:Addr) (o:Obj) (kvs:bw) (ep:Nat) (hep:∃ es,kJ) :
    Turn P w K tg (Itkd d o kvs) rX it (eK,h,h.IsKeyIter it d i kvs.length ep) where
  mem:=aj
  obj:=fun i h st b hb=>by
    ext zlR
  keep:=fun i h h' ⟨o1,e1,r⟩ k=>zni
  item:=by
    intro X hP hw hK hc i pins s Z H E I hf st hg;ext iU;ext tN lt hg;ext Nf;obtain⟨f0,f1,f2,f3,f4,f5⟩:46:=j5;ext zkh;rw[hl] at st;refine wpAny_pyNext_dict_item st da hv (bL key h' hkey hit' hs);show(zkJ,xgv (s:=nu) g2 c2 d2 az ?_,I.turned (t':=s.toks) (IW,(hs.2 b hb).trans g) f0 f1 f3 f4 f5);rw[<- hl] at hit';exact⟨85,kV k,H,I1,xpy hkey,(cp,bK k x hx rfl),hit',ED⟩
  done:=by
    intro X hP hw hK hc i pins s Z H E I hf st hg;ext iU;ext tN le hg;ext Nf;obtain⟨f0,f1,f2,f3,f4,f5⟩:46:=j5;ext F3;show(b6,hl,st,wpAny_pyNext_dict_end jp st da (Eb Xz) (AD,I.turned (t':=s.toks) uN f0 f1 f3 f4 f5))
  self:=fun A i s Q E st h=>QY st h
noncomputable def xx5 (to:TE):TI:=(Ma,H1 d=some (.dK kvs),∀ ob,R (Itkd d ob kvs) wN)
section
variable {X:Cx}{o:Expr}{to:TE}{tg:Expr}
theorem xsa (ho:Kr):PI X tg o (xx5 to):=by
 intro pins s Z H R I h;show(jJ,ho pins s Z H _ I h,fun v s1 ⟨x,H1,I1,r1,q1⟩=>?_);obtain⟨d,kvs,e1,e,q⟩:83:=q1;ext RK;obtain⟨z,hd,⟨vs,rel,dd⟩⟩:43:=xgz I1.hok e;obtain⟨ob,es,ep,g,ex,hdat,hk,hp,hn⟩:106:=id dd;have da:s1.heap.DictAt nB d vs ep:=⟨86,ob,es,g,ex,hdat,hk,hp,hn⟩
 refine wpAny_pyIter_dict hd da ?_;have I3:cP wN s1:=zeO PR;have I4:cP wN (ziG,#[i9,vR,zab,Bp]) :=
  zmN
 show(Mh,⟨66,wN,rfl,I4,xpk d _ ob kvs ep ⟨es,hdat⟩,?_,iA,q ob⟩)
 .ext F3;show Heap.IsKeyIter _ _ d 0 kvs.length ep;rw[hl];show(gF,_,gf,rfl,rfl)
 .show(L7,s1.heap.objs.size)
#check _
#check L2
namespace L2
open PySem PySem.Spec PyProof.Rows XL
open AutoSeq1 (wpAny_loadPart')
#check L2
namespace L2
open PySem PySem.Spec PyProof.Rows XL
#check L2
namespace L2
open PySem PySem.Spec PyProof.Rows XL PySem.W PySem.Builtin PySem.Builtin.Str
section
variable {J:It}{n:Nat}{g:TG}{Z:St}{fr:List Nat}{tc:TT}{te:TE}{l:Addr}{H1:Hp}{Q:VK}
theorem xh4 {K:Zd}{a:Addr}{xs:af} (hs:Hz) (hlen:Hr) (hl:vq) (F:Nat->yL) (F0:∀ H,SJ->F 0 [] H) (stab:∀ i ys zs H H',(bv,vd l zs,sj l,F i ys H,F i ys H'))
    (step:∀(i:Nat) (x:V) (ys:af) H2,(bc,tF,kP,Hs l ys,F i ys H2,(zgJ,F aY (ys++[y]) H')))
    (fin:(CL,xs.length,F xs.length ys H2)):xec yH n g Z fr xed te l H1 Q:=by
  refine xc8 xs.length (zmZ,i,F i ys H2) ?_ ?_ ?_ ?_
  . have s0:Same H1 (qi H1 l):=fun b u e=>by
      ext cE Ls e
    exact(bR,s0,xk,rfl,F0 _ s0)
  . rintro i ys H2 lt ⟨s,_⟩
    exact(bK,xs,xs[i],OP,ii)
  . rintro i ys H2 v H3 lt (⟨s,el,ly,f⟩:44) ⟨rfl,yv⟩ N hN
    show(zH,hv,yv xs (Same.seqL s hs),xht (i:=i) (step i v ys H3 hv s el f _ (b9 y H' s' f')));show(dN,el',s' _ _ el,Bv el' aa (bR,v0,xk,cI ly,stab _ _ _ _ _ el' BP f'))
    . show(cE,Ls,s' _ _ qT)
    . ext LW
  . rintro ys H2 (⟨s,el,ly,f⟩:44)
    show(aS,⟨xs,OP,bu⟩,fin ys H2 s el ly f)
#check _
#check L2
namespace L2
open PySem PySem.Spec PyProof.Rows XL PySem.W
#check L2
namespace L2
open PySem PySem.Spec PyProof.Rows XL PySem.W PySem.Builtin PySem.Builtin.Str
#check L2
namespace L2
open PySem
noncomputable def th (a b:Int):Int:=reduceHash (Builtin.Tuple.tupleHashOf [hashInt a,hashInt b])
#check L2
namespace XL
open PySem PySem.Spec PyProof.Rows
noncomputable def xtm (acc:ap) (x:Str):ap:=if acc.any (· == x)=true then acc else KE
#check XL
namespace L2
open PySem PySem.Spec PyProof.Rows XL
noncomputable def xya (xs:ap):Nat:=(xs.foldl xtm []).length
#check L2
namespace XS
open PySem PySem.SetTable
noncomputable def Up (xs:cY):Prop:=∀ a b,a<b->b<xs.size->xs.getD a 0<xs.getD b 0
theorem xmb {xs:cY}{k d e:Nat} (h:k<xs.size):xs.getD k d=xs.getD k e:=by
 simp[Qf,h]
theorem xhl {xs:cY}{j:Nat} (up:Up xs):∀(fuel lo hi:Nat),hi-lo<=fuel->lo<=hi->hi<=xs.size->(∀ k,k<lo->RI<j)->(zlh hi) ->
    (zll VA)
  | 0,lo,hi,hf,hl,hs,h1,h2=>by
    ext zpH
  | fuel+1,lo,hi,hf,hl,hs,h1,h2=>by
    unfold below.go;by_cases c:lo<hi
    . rw[rB]
      have ml:xU<hi:=aa
      have mg:lo<=xU:=aa
      show (let mid:=xU; _)<=_/\_;simp only[];by_cases d:xs.getD xU j<j
      . show(qo,aT d,xhl up fuel _ hi aa aa hs (au k hk) h2);rw[xmb (e:=0) aa] at d;rcases YJ k xU with z|z
        . exact ZQ (up k _ z aa) d
        . have:k=xU:=aa
          ext aQ this d
      . rw[ay d]
        rw[xmb (e:=0) aa] at d;refine xhl up fuel lo _ aa aa aa h1 (aK k hk ks);rcases YJ xU k with z|z
        . exact JN (Jy (QD d) (up _ k z ks))
        . have:k=xU:=aa
          rw[this];exact QD d
    . rw[ay c]
      ext zpH
theorem xik {xs:cY} (up:Up xs) (j:Nat):zll El :=
 xhl up xs.size 0 xs.size aa aa bu (fun k hk=>aa) zak
theorem xrf {xs:cY} (up:Up xs) {j i:Nat} (h:aU xs j):El=i:=by
 show(mq,hi,YH.mp h);have g:xs.getD i 0=j:=by simp[Qf,hi,e]
 show(iW,b1,b2,b3,xik up j);rcases Nat.lt_trichotomy El i with z|z|z
 .show(wp,b3 El bu aa,up _ i z hi)
 .exact z
 .show(cW,b2 i z)
theorem xjt {t:SetTable} (up:IL) {j i:Nat}:WD↔(aU t.place j):=by
 unfold slot;simp only[];constructor
 .intro h
  split at h
  .rename_i c
   cases h;exact Wc c
  .ext Lb h
 .intro h
  rw[xrf up h,aT (by rw[h]; exact beq_self_eq_true _)]
theorem xib {t:SetTable} (up:IL) (dm:Pa) {j:Nat} (h:∀ i:Nat,t.place[i]?≠some j):pd j:=by
 unfold slot;simp only[];rw[(ay,fun c=>h _ (Wc c)),dm,if_neg];unfold has;simp
theorem xtr {t:SetTable} (up:IL) (dm:Pa) (j:Nat):(pd j)\/∃ i,WD:=by
 by_cases c:∃ i:Nat,aU t.place j
 .obtain ⟨i,hi⟩:=c;show(qY,i,(xjt up).mpr hi)
 .show(eD,(xib up dm (eK,z,c ⟨i,z⟩)))
structure Ps where
 j:Nat
 more:Nat
 i:Nat
 pt:Nat
noncomputable def adv (mask:Nat) (p:Ps):Ps:=if p.more>0 then { p with j:=p.j+1,more:=p.more-1 } else ⟨Ni,(yw Ni)-Ni,Ni,(leap mask p.i p.pt).2⟩
noncomputable def st0 (mask:Nat) (h:Int):Ps:=⟨mB,(yw mB)-mB,mB,zm⟩
noncomputable def way (mask:Nat) (h:Int):Nat->Ps
 | 0=>st0 mask h
 | n+1=>zdk
noncomputable def toP (p:Ps):Probe:=⟨p.j,p.more,p.i,p.pt,none⟩
theorem xod (t:SetTable) (p:Ps):t.advance (toP p)=toP (adv t.mask p):=by
 unfold advance adv;by_cases c:p.more>0
 .rw [aT (show (Cv).more>0 from c),rB];rfl
 .rw [ay (show ¬ (Cv).more>0 from c),ue];rfl
noncomputable def rnd (mask:Nat) (h:Int):Nat->Nat × Nat
 | 0=>(mB,zm)
 | r+1=>leap mask fY Ad
noncomputable def nAt (mask:Nat) (h:Int):Nat->Nat
 | 0=>0
 | r+1=>iR+zC+1
theorem xio (mask i:Nat):i<=(yw i)/\(yw i)-i<=9:=by
 unfold runEnd;ext me
theorem xi5 {mask:Nat}{h:Int}{r:Nat} (e:zlU) :
    ∀ k,k<=zC->(vX (iR+k))=⟨fY+k,LO-fY-k,fY,Ad⟩
  | 0,_=>e
  | cJ,hk=>by
    show adv mask (vX (iR+k))=_;rw[xi5 e k aa];unfold adv;rw[aT (eS,LO-fY-k>0)];show Ps.mk _ _ _ _=_
    congr 1
theorem xi3 (mask:Nat) (h:Int):∀ r,zlU
 | 0=>rfl
 | r+1=>by
  have e:=xi3 mask h r;show adv mask (vX (iR+zC))=_;rw[xi5 e _ bu];unfold adv;rw[ay (eS,¬ LO-fY-zC>0)];rfl
theorem xo0 (mask:Nat) (h:Int):∀ r,iR<=10*r
 | 0=>bu
 | r+1=>by
  have:=xo0 mask h r;have:=xio mask fY;show iR+_+1<=_;omega
theorem xn6 (mask:Nat) (h:Int) (r k:Nat) (hk:k<=zC):(vX (iR+k)).j=fY+k:=by
 rw[xi5 (xi3 mask h r) k hk]
theorem xrz (mask:Nat) (h:Int):∀ r,Ad=zm / 32 ^ r
 | 0=>(Nat.div_one _).symm
 | r+1=>by
  show Ad / 32=_;rw[xrz mask h r,Nat.div_div_eq_div_mul,Nat.pow_succ]
theorem pt_0 (mask:Nat) (h:Int) (r:Nat) (hr:13<=r):Ad=0:=by
 rw[xrz];refine Nat.div_eq_of_lt ?_;have b:zm<pV:=by
  unfold bits;show(wp,Wl h (qD,lE<pV),Int.emod_nonneg h (qD,(cQ pV)≠0))
 refine ZB b (ZN (qD,pV<=32 ^ 13) (Nat.pow_le_pow_right az hr))
noncomputable def lcg (mask:Nat):Bx Nat
 | 0,i=>i
 | m+1,i=>(lcg mask m i*5+1) % mL
theorem xjc (mask:Nat) (h:Int):∀ m,zoz=lcg mask m (rnd mask h 13).1
 | 0=>rfl
 | m+1=>by
  show (leap mask zoz (rnd mask h (13+m)).2).1=_;unfold leap;rw[pt_0 mask h (13+m) aa,xjc mask h m];rfl
noncomputable def MkOk (mask:Nat):Prop:=mask=7\/mask=31
theorem cov7:(zmo,8,s<8,7):=aG
theorem xxl:(zmo,32,s<32,31):=aG
theorem xv0 (mask:Nat) (h:Int):∀ r,fY<mL
 | 0=>zko
 | r+1=>zko
theorem xl8 {mask:Nat} (mk:Ko) (h:Int) (s:Nat) (hs:s<=mask):∃ r,r+1<En/\fY=s:=by
 have l:=xv0 mask h 13;rcases mk with rfl|rfl
 .show(hX,m,hm,e,cov7 _ l s aa);ext zix
 .show(hX,m,hm,e,xxl _ l s aa);ext zix
theorem xs7 {mask:Nat} (mk:Ko) (h:Int) (s:Nat) (hs:s<=mask):∃ n,n<10*En/\(oy).j=s:=by
 show(ag,r,hr,e,xl8 mk h s hs);have:=xo0 mask h r;show(aH,iR,aa,aB xi3 e)
theorem xq0 {t:SetTable}{hashAt:KQ}{h:Int}{f:Nat}{p:Ps} (z:pd p.j):ae (Dq (f+1) Cv) (.empty p.j none):=by
 unfold probe.go;rw[show (pd,(Cv).j) from z];rfl
theorem xsp {t:SetTable}{hashAt:KQ}{h:Int}{f i:Nat}{p:Ps} (z:AB p.j i) (e:zck):ae (Dq (f+1) Cv) (.candidate p.j i (toP (adv t.mask p))):=by
 unfold probe.go;ext zjP;rw[aT (by rw[e]; exact beq_self_eq_true _),xod];rfl
theorem xr9 {t:SetTable}{hashAt:KQ}{h:Int}{f i:Nat}{p:Ps} (z:AB p.j i) (e:hashAt i≠h):(Dq (f+1) Cv)=(Dq f (toP (adv t.mask p))):=by
 conv=>lhs; unfold probe.go
 ext zjP;rw[ay (fun q=>e (Wc q)),xod]
theorem xkp {t:SetTable} (up:IL) (dm:Pa) (hashAt:KQ) (h:Int):∀(f n:Nat),(∃ m,n<=m/\m<n+f/\(pd nQ)) ->
    ∃ m,n<=m/\(∀ k,n<=k->k<m->∃ i,(AB,(vE k).j,i)/\hashAt i≠h) /\
      (((ae (Dq f (toP (vE n))) (.empty nQ none))/\(pd nQ)) \/
        ∃ i,(ae (Dq f (toP (vE n))) (.candidate nQ i (toP (vE (m+1)))))/\(AB nQ i)/\zck)
  | 0,n,⟨m,a,b,_⟩=>aa
  | f+1,n,⟨m,a,b,c⟩=>by
    rcases xtr up dm (vE n).j with z|⟨i,z⟩
    . show(gF,n,bu,zak,.inl ⟨xq0 z,z⟩)
    . by_cases e:zck
      . show(gF,n,bu,zak,.inr (bS,i,xsp z e,z,e))
      . have ne:n≠m:=fun q=>by rw[<- q,z] at c; cases c
        show(cc,m',a',b',c',xkp up dm hashAt h f (n+1) (bS m aa aa c));refine(bS,m',aa,aK k h1 h2,?_)
        . rcases YJ n k with y|y
          . exact b' k aa h2
          . ext EU k n;ext aH i z e
        . show(aQ,xr9 z e,c')
noncomputable abbrev Row:=Nat × zcN
structure Tab (t:SetTable) (es:vP) (L:KU):Prop where
 pl:t.place.toList=L.map (·.1)
 el:es.toList=L.map (·.2)
 srt:(L.map (·.1)).Pairwise (·<·)
 dm:Pa
 mok:MkOk t.mask
 bd:∀ e∈L,e.1<=t.mask
 rc:∀ e∈L,∃ n,(way t.mask FO n).j=e.1/\∀ m,m<n->(way t.mask FO m).j∈L.map (·.1)
variable {t:SetTable}{es:Array (Int × Value)}{L:List Row}
theorem Tab.size (T:lX):t.place.size=L.length/\es.size=L.length:=by
 constructor
 .rw [<- Jk,T.pl,Za]
 .rw [<- Jk,T.el,Za]
theorem Tab.at_ (T:lX) (i:Nat):t.place[i]?=(L[i]?).map (·.1):=by
 rw[<- Ju,T.pl,Zc]
theorem Tab.es_ (T:lX) (i:Nat):es[i]?=(L[i]?).map (·.2):=by
 rw[<- Ju,T.el,Zc]
theorem xg8 {xs:cY}{k:Nat}{v:Nat} (h:eZ xs k v):RI=v:=by
 show(mq,hk,YH.mp h);simp[Qf,hk,e]
theorem Tab.up (T:lX):IL:=by
 intro a b ab hb;rw[TB] at hb;have ha:a<L.length:=aa
 rw[xg8 (d4,T.at_,Zb ha),xg8 (d4,T.at_,Zb hb)];show(zq,Ji.mp T.srt a b (gC ha) (gC hb) ab)
theorem Tab.live (T:lX) {j i:Nat}:WD↔∃ e,(aU L e)/\e.1=j:=by
 rw[xjt T.up,T.at_,Ze]
theorem Tab.free (T:lX) {j:Nat}:(pd j)↔j∉L.map (·.1):=by
 constructor
 .intro h z
  ext rp e he ej z;ext Ng;show(Af,T.live.mpr ⟨e,ID,ej⟩,h)
 .intro h
  refine xib T.up T.dm (eK,z,h ?_);rw[T.at_,Ze] at z;ext ag e he ej z;exact Zg.mpr ⟨e,Zj he,ej⟩
theorem Tab.some_free (T:lX) (lt:X9) (h:Int):∃ n,n<N1/\(pd,(vE n).j):=by
 refine YL (du c);have all:∀ s,s<=t.mask->s∈L.map (·.1):=fun s hs=>by
  refine YL nX;show(ag,n,hn,e,xs7 T.mok h s hs);exact c ⟨n,hn,by rw[e]; exact T.free.mpr z⟩
 have:=Qi (n:=t.mask+1) |>.length_le_of_subset (l₂:=L.map (·.1)) (h7,all s (gL,ZG.mp hs))
 rw[ZT,Za] at this;omega
theorem Tab.absent (T:lX) {h:Int}{m:Nat} (em:pd nQ) {P:Value->Prop} (seen:∀ k,k<m->∀ i e,(bv,(AB,(vE k).j,i),aU L e,FO=h,¬ P (bX e))):∀ e∈L,FO=h->¬ P (bX e):=by
 intro e he eh p;show(ag,n,hn,hm,T.rc e he);rw[eh] at hn hm;have lt:n<m:=by
  rcases Nat.lt_trichotomy n m with z|z|z
  .exact z
  .rw [z] at hn;show(b6,hn,em,absurd (Zg.mpr (dH e he)) (T.free.mp em))
  .exact absurd (hm m z) (T.free.mp em)
 ext Ng;show(jF,li,aU L e,ID,seen n lt i e (T.live.mpr ⟨e,li,hn.symm⟩) li eh p)
theorem xk7 {α:Type} (xs:Array α) (p:Nat) (x:α) (hp:p<=xs.size):(insertAt xs p x).toList=xs.toList.take p++x::xs.toList.drop p:=by
 unfold insertAt;simp[Array.toList_extract,List.extract];exact Jr aj
theorem Tab.add (T:lX) {h:Int}{x:Value}{m:Nat} (em:pd nQ) (be:∀ k,k<m->(vE k).j∈L.map (·.1)) (jm:nQ<=t.mask) :
    ∃ L',L'.Perm ((nQ,h,x)::L)/\Tab (t.put nQ).1 (insertAt es (t.put nQ).2 (h,x)) L'/\(t.put nQ).1.mask=t.mask:=by
  generalize hj:nQ=j at *;have nj:=T.free.mp em;show(iW,b1,b2,b3,xik T.up j);have e2:(t.put j).2=zar:=rfl;have em':(t.put j).1.mask=t.mask:=rfl;rw[e2];generalize hp:zar=p at *;have pl:p<=L.length:=by ext b6 TB b1 b1
  have lo:∀ e∈TH,e.1<j:=fun e he=>by
    ext Ng;rw[Jl] at hi;show(Hh,b2 i aa,ziL List.getElem_take)
  have hi:∀ e∈TF,j<e.1:=fun e he=>by
    ext Ng;rw[List.length_drop] at hi;show(pq,b3 (p+i) aa (kQ TB),ziL List.getElem_drop);refine Nat.lt_of_le_of_ne this (ao,nj ?_);rw[z];exact Zg.mpr (dH,e,List.mem_of_mem_drop he)
  have pm:(Xp).Perm ((j,h,x)::L):=by
    have:=(Qh (a:=(j,h,x)) (l₁:=TH) (l₂:=TF))
    rwa [Yf] at this
  refine bS Xp pm ⟨?_,?_,?_,?_,T.mok,?_,?_⟩ em'
  . show (insertAt t.place zar j).toList=_
    rw[hp,xk7 _ _ _ b1,T.pl,Zs,Zo,Yo,Yp]
  . rw[xk7 _ _ _ (aB yA pl),T.el,Zs,Zo,Yo,Yp]
  . rw[Zs,Zo,List.pairwise_append,Yc]
    have sub1:((TH).map (·.1)).Pairwise (·<·):=by rw[Yo]; exact T.srt.sublist (Q3 _ _)
    have sub2:((TF).map (·.1)).Pairwise (·<·):=by rw[Yp]; exact T.srt.sublist (List.drop_sublist _ _)
    show(gU,sub1,⟨iA,sub2⟩,b9 a ha b hb)
    . ext dY e he hb
      exact hi e he
    . ext dY e he ha
      rcases dC hb with rfl|hb
      . exact lo e he
      . ext dY e' he' hb
        exact ZQ (lo e he) (hi e' he')
  . show (if has t.dummies j then eraseAt t.dummies (below t.dummies j) else t.dummies)=#[]
    rw[T.dm,if_neg];unfold has;simp
  . intro e he
    rcases XQ he with rfl|he
    . exact jm
    . exact T.bd e he
  . intro e he
    have more:∀ s,s∈L.map (·.1)->s∈(Xp).map (·.1):=fun s hs=>by
      ext dY e' he' hs;exact Zg.mpr (dH,e',pm.mem_iff.mpr (Zl _ he'))
    rcases XQ he with rfl|he
    . show(aH,m,hj,fun k hk=>more _ (be k hk))
    . show(ag,n,a,b,T.rc e he)
      show(aH,n,a,fun k hk=>more _ (b k hk))
#check XS
namespace XS
open PySem PySem.SetTable
noncomputable abbrev Own:=Array (Option Nat)
noncomputable def xcb (o:Own) (j:Nat):Bool:=(Xs).isSome
theorem xj4 (mask:Nat) (h:Int) (o:Own):∀(fuel r:Nat),(∃ r',r<=r'/\r'<r+fuel/\(dE,xcb o (rnd mask h r').1)) ->
    ∃ n,(aP,iR<=n,(ae,layClean.free mask o fuel fY Ad,(oy).j),(dE,xcb o (oy).j),∀ m,iR<=m->m<n->xcb o (vX m).j=true)
  | 0,r,⟨r',a,b,_⟩=>aa
  | fuel+1,r,⟨r',a,b,c⟩=>by
    unfold layClean.free;have rl:=xio mask fY;cases hf:(OJ).find? fun k=>(HZ (fY+k)).isNone with
    | some k =>
      simp only[];obtain⟨hk,as,bs,e,nb⟩:=List.find?_eq_some_iff_append.mp hf;have kin:k∈OJ:=Z7 hf;have kl:=ZG.mp kin;show(aw,hw,∀ m,m<=k->(vX (iR+m)).j=fY+m,fun m hm=>xn6 mask h r m aa,(ib,iR+k,aa,(eG,hw k bu),?_,aK m h1 h2))
      . rw[hw k bu]
        unfold xcb;revert hk;cases HZ (fY+k)<;>simp
      . show(DU,d,∃ d,m=iR+d,m-iR)
        rw[hw d aa];have din:d∈as:=by
          have al:as.length=k:=by
            have g:eZ OJ as.length k:=jr e
            rw[JJ] at g
            . exact ZL.inj g
            . show(GV,congrArg JW e)
          have g:eZ OJ d d:=JJ aa;rw[e,ZY aa] at g;exact Zj g
        show(zhU,nb d din)
    | none =>
      simp only[];have all:=J7.mp hf;have run:∀ d,d<=zC->xcb o (fY+d)=true:=fun d hd=>by
        show(zhU,all d (ZG.mpr aa))
      have ne:r≠r':=fun q=>by
        have:=run 0 jg;rw[Nat.add_zero,q,c] at this;cases this
      obtain⟨n,a1,a2,a3,a4⟩:64:=xj4 mask h o fuel (r+1) (bS r' aa aa c);show(mX,nx,nAt mask h (r+1),iR+zC+1,rfl,(ib,n,aa,a2,a3,aK m h1 h2));rcases YJ m (nAt mask h (r+1)) with z|z
      . show(DU,d,∃ d,m=iR+d,m-iR)
        show(aQ,xn6 mask h r d aa,run d aa)
      . exact a4 m z h2
structure Lay (mask:Nat) (hs:df) (k:Nat) (o:Own):Prop where
 sz:o.size=mL
 own:∀ j i:Nat,zbi->∃ h,i<k/\(aU hs h)/\∃ n,(oy).j=j/\∀ m,m<n->xcb o (vX m).j=true
 has:∀ i:Nat,i<k->∃ j:Nat,zbi
 inj:∀ j j' i:Nat,zbi->o[j']?=(qM i)->j=j'
theorem xc9 {o:Own}{j:Nat} (h:j<o.size) (d:dB Nat):cO o (o.getD j d):=by
 rw[J5 h];simp[Qf,h]
theorem Lay.room {mask k:Nat}{hs:df}{o:Own} (Y:Lay mask hs k o) (lt:k<=mask):∃ s,s<=mask/\(dE,xcb o s):=by
 refine YL (du c);have all:∀ s:Nat,s<mL->∃ i:Nat,o[s]?=(qM i):=fun s hs=>by
  have z:xcb o s≠false:=(ao,c ⟨s,aa,z⟩);have g:=xc9 (o:=o) (j:=s) (aB Y.sz hs) (some 0);unfold xcb at z;cases e:HZ s with
  | none=>rw[e] at z; ext jb z
  | some i=>show(aS,i,bW g e)
 have nd:((Zu mL).map fun s=>(o.getD s none).getD 0).Nodup:=by
  rw[Yx,ZW];refine Jt.imp_of_mem (OV,ne,ne ?_) Qi;obtain⟨i,hi⟩:=all a (ZG.mp ha);obtain⟨i',hi'⟩:=all b (ZG.mp hb);rw[CN ha] at hi;rw[CN hb] at hi';show(ah,e1,ZL.inj hi,e2,ZL.inj hi');rw[e1,e2] at e;ext tP i i' e;refine Y.inj a b i ?_ ?_
  .rw [CN ha,e1]
  .rw [CN hb,e2]
 have:=nd.length_le_of_subset (l₂:=Zu k) fun i hi=>by
  ext dY s hs' hi;obtain⟨i,hi⟩:=all s (ZG.mp hs');obtain⟨_,ik,_⟩:62:=Y.own s i hi;rw[CN hs'] at hi;rw[ZL.inj hi];exact ZG.mpr ik
 rw[Za,ZT,ZT] at this;omega
theorem Lay.more {mask k:Nat}{hs:df}{o:Own} (mk:Ko) (Y:Lay mask hs k o) (lt:k<=mask) {h:Int} (hk:eZ hs k h) :
    ∃ j,(ae,layClean.free mask o En mB zm,j)/\Lay mask hs cJ wO:=by
  show(ag,s,sm,st,Y.room lt);show(ag,r,hr,e,xl8 mk h s sm);obtain⟨n,_,f1,f2,f3⟩:64:=xj4 mask h o En 0 (bS,r,jg,aa,aB e st);generalize hj:(oy).j=j at *;have jl:j<o.size:=by
    refine YL (du c);unfold xcb at f2;show(bV,show ae Xs 0 by simp[Qf,c],f2)
  have oj:cO o none:=by
    rw[xc9 jl (some 0)];unfold xcb at f2;revert f2;cases Xs<;>simp
  have new:wO[j]?=(qM k):=cI jl
  show(bC,old,∀ j':Nat,j'≠j->wO[j']?=o[j']?,j',ne,Array.getElem?_setIfInBounds_ne (ao,ne z.symm));have sz:(wO).size=o.size:=aj
  have tk:∀ s,xcb o s=true->xcb wO s=true:=fun s hs=>by
    ext ij s j
    . subst c
      unfold xcb;show(h9,g,xc9 (o:=o.setIfInBounds s (some k)) (j:=s) (aB sz jl) (some 0),new);rw[<- ZL.inj g];rfl
    . unfold xcb at *
      rw[Qw,old s c,<- Qw];exact hs
  refine⟨j,f1,⟨aB sz Y.sz,aK j' i hi,Sy,bL a b i ha hb⟩⟩
  . ext ij j' j
    . ext rD c new hi;show(gF,h,QC _,hk,⟨n,hj,fun m hm=>tk _ (f3 m jg hm)⟩)
    . rw[old j' c] at hi
      obtain⟨h',a,b,⟨n',d,q⟩⟩:63:=Y.own j' i hi;show(gF,h',aa,b,⟨n',d,fun m hm=>tk _ (q m hm)⟩)
  . rcases YJ i k with z|z
    . obtain⟨j',hj'⟩:=Y.has i z
      have ne:j'≠j:=fun q=>by rw[q,oj] at hj'; cases hj'
      show(aS,j',(aB,old j' ne,hj'))
    . have:i=k:=aa
      ext wF;ext aS j new
  . have key:∀ j' i:Nat,j'≠j->wO[j']?=(qM i)->i<k:=fun j' i ne hi=>by
      rw[old j' ne] at hi;obtain⟨_,a,_⟩:62:=Y.own j' i hi;exact a
    by_cases ca:a=j<;>by_cases cb:b=j
    . rw[ca,cb]
    . rw[ca,new] at ha
      cases ha;show(yD,key b k cb hb)
    . rw[cb,new] at hb
      cases hb;show(yD,key a k ca ha)
    . rw[old a ca] at ha
      show(b6,old b cb,hb,Y.inj a b i ha hb)
theorem Lay.nil {mask:Nat}{hs:df}:Lay mask hs 0 (Array.replicate mL none):=by
 refine⟨aj,aK j i h,(eK,h,absurd h (QP _)),b9 a b i h⟩
 .show(gZ,Array.getElem?_replicate);split at h<;>simp at h
 .show(gZ,Array.getElem?_replicate);split at h<;>simp at h
theorem xta {mask:Nat} (mk:Ko) (hs:Array Int) (le:hs.size<=mask):∃ o,(ae,layClean mask hs,o)/\(zcw hs.size o):=by
  unfold layClean;rw[<- Array.foldl_toList];have key:∀(n:Nat) (l:df) (k:Nat) (o:Own),hs.toList.drop k=l->(zcw k o)->k+l.length=hs.size->∃ o',l.foldl (fun acc h=>do
      let (owner,k) <- acc
      let j <- layClean.free mask owner En mB zm
      pure (owner.setIfInBounds j (some k),cJ)) (some (o,k))=some (o',hs.size)/\(zcw hs.size o'):=by
    intro _ l
    induction l with
    | nil =>
      intro k o _ Y e;rw[List.length_nil,Nat.add_zero] at e;ext cR;ext rR o Y
    | cons h l ih =>
      intro k o d Y e;rw[ZD] at e;have hk:eZ hs.toList k h:=by
        have:=congrArg (·[0]?) d;ext Ef
      show(ag,j,f,Y',Y.more mk aa hk);show(ag,o',q,Y2,ih cJ wO (by rw[<- List.drop_drop,d]; rfl) Y' aa);show(gU,o',?_,Y2);rw[List.foldl_cons];rw[<- q]
      congr 1
      show (do let j <- layClean.free mask o En mB zm; pure (wO,cJ))=_;rw[f];rfl
  show(ag,o,q,Y,key 0 hs.toList 0 _ rfl Lay.nil aj);show(aH,o,eB q,Y)
theorem xmf {mask i:Nat} (h:i<=mask):(yw i)<=mask:=by
 unfold runEnd;ext me
theorem xmw (mask:Nat) (h:Int):∀ n,(oy).j+(oy).more<=mask
 | 0=>by
  show mB+((yw mB)-mB)<=mask;have:mB<mL:=Nat.mod_lt (bits h) (Nat.succ_pos mask);show(wp,xio mask mB,xmf (mask:=mask) (i:=mB) aa)
 | n+1=>by
  have ih:=xmw mask h n;show (zdk).j+(zdk).more<=mask;unfold adv;split
  .show (oy).j+1+((oy).more-1)<=mask;omega
  .show Gg+((yw Gg)-Gg)<=mask;have l:Gg<mL:=Nat.mod_lt _ (Nat.succ_pos mask);generalize Gg=i at *;show(wp,xmf (mask:=mask) (i:=i) aa,xio mask i)
theorem xpt (mask:Nat) (h:Int) (n:Nat):(oy).j<=mask:=by
 show(cW,xmw mask h n)
theorem xky {α β:Type}{f:zdp}{g:α->β}:∀{l:bZ},(∀ x∈l,f x=some (g x))->l.filterMap f=l.map g
 | [],_=>rfl
 | x::l,h=>by
  rw[J6,h x ig,xky (Bs y hy)];rfl
theorem xxt {mask:Nat} (mok:Ko) (es:vP) (le:es.size<=mask) (finger moves:Nat) (led plain:Bool) :
    ∃ t' order L',laid mask finger moves led plain (es.map (·.1))=some (t',order)/\(L'.map (·.2)).Perm es.toList/\Tab t' (order.filterMap (es[·]?)) L'/\t'.mask=mask/\(bT,t'.led,led,t'.moves=moves,t'.plain=plain):=by
  obtain⟨o,eo,Y⟩:62:=xta mok (es.map (·.1)) (aB Array.size_map le);rw[Array.size_map] at Y;have live_mem:∀ j k,(j,k)∈((Zu mL).filterMap fun j=>(O8).map (j,·))↔o[j]?=(qM k):=fun j k=>by
    ext ET JM
    . ext Bd a ha e
      rw[Ze] at e;ext yZ k' e;cases e2;rw[CN ha,e1]
    . intro e
      have jl:j<mL:=by
        show(kh,Y.sz,(YH.mp e).1)
      refine(dM,j,ZG.mpr jl);rw[xc9 (aB Y.sz jl) none] at e;rw[ZL.inj e];rfl
  have srt:(((Zu mL).filterMap fun j=>(O8).map (j,·)).map (·.1)).Pairwise (·<·):=by
    rw[List.map_filterMap,List.pairwise_filterMap];refine List.pairwise_lt_range.imp fun {a b} ab x hx y hy=>?_;simp only[Option.map_map,Ze] at hx hy;obtain⟨_,_,rfl⟩:62:=hx;obtain⟨_,_,rfl⟩:62:=hy;exact ab
  have snd2:(((Zu mL).filterMap fun j=>(O8).map (j,·)).map (·.2)).Nodup:=by
    rw[Yx,ZW];have p1:=ZW.mp srt;refine Jt.imp_of_mem (OV lt ?_) p1;obtain⟨j,k⟩:=a;obtain⟨j',k'⟩:=b;ext tP k k' e;have:=Y.inj j j' k ((live_mem j k).mp ha) ((live_mem j' k).mp hb);have lt:j<j':=lt;omega
  generalize hl:((Zu mL).filterMap fun j=>(O8).map (j,·))=live at *;have kl:∀ jk∈live,jk.2<es.size:=fun jk h=>by
    obtain⟨_,a,_⟩:62:=Y.own jk.1 jk.2 ((VX).mp h);exact a
  refine⟨106,{ mask,place:=(live.map (·.1)).toArray,dummies:=#[],finger,led,moves,plain },(live.map (·.2)).toArray,zky,?_,?_,?_,rfl,rfl,nS⟩
  . unfold laid
    rw[eo];show (ae,some _,_);rw[hl]
  . have pr:(live.map (·.2)).Perm (Zu es.size):=by
      refine (List.perm_ext_iff_of_nodup snd2 Qi).mpr (du k);rw[ZG,Zg];constructor
      . show(Bd,jk,h,rfl)
        exact kl jk h
      . intro h
        obtain⟨j,hj⟩:=Y.has k h;show(aH,(j,k),(live_mem j k).mpr hj,rfl)
    have e1:(zky).map (·.2)=(live.map (·.2)).map zlr:=by
      rw[Z4,Z4];rfl
    have e2:es.toList=(Zu es.size).map zlr:=by
      ext zkx;have h3:i<es.size:=qw
      simp[Qf,h3]
    rw[e1,e2];exact pr.map _
  . refine⟨?_,?_,?_,rfl,mok,au e he,au e he⟩
    . rw[Z4]
      rfl
    . rw[Z4,Array.toList_filterMap,List.toList_toArray,Qz]
      have:∀ jk∈live,((es[·]?)∘fun x:Nat × Nat=>cX) jk=some M4:=fun jk h=>by
        show es[jk.2]?=_;rw[J5 (kl jk h)];simp[Qf,kl jk h]
      rw[xky this];rfl
    . ext aQ Z4 srt
    . ext dY jk h he
      show(pq,(YH.mp ((VX).mp h)).1,Y.sz);show jk.1<=mask;omega
    . ext dY jk h he
      obtain⟨hh,a,b,⟨n,c,d⟩⟩:63:=Y.own jk.1 jk.2 ((VX).mp h);have eh:(M4).1=hh:=by
        rw[Ju,Array.getElem?_map,J5 a] at b;have:=ZL.inj b;simp[Qf,a];exact this
      show ∃ n,(way mask (M4).1 n).j=jk.1/\_;rw[eh];show(gU,n,c,au m hm);show(ah,tk,d m hm,wl,xpt mask hh m);show NZ∈_;unfold xcb at tk;have g:=xc9 (o:=o) (j:=NZ) (kQ Y.sz) (some 0);cases e:HZ NZ with
      | none=>ext bV e tk
      | some k =>
        rw[e] at g;rw[Z4];exact Zg.mpr (dH,(NZ,k),(live_mem _ _).mpr g)
#check XS
namespace XS
open PySem PySem.Spec PySem.SetTable
section
variable {prog:Program}{w:World}{K:Type} [DecidableEq K] {knd:KeyKind prog w K}{A:Around}{E:Value->Shared->Prop}{s:Shared}
theorem xl0 (n:Nat) {v:Value} (h:Nd):ofAClassStatement n v=pure false:=by
 cases v with
 | ref a=>simp[carriedByValue] at h
 | _=>first|rfl|simp[ofAClassStatement]|(unfold ofAClassStatement; rfl)
theorem xj1 {ks:rH}{a:Addr}{Q:Bk} (hk:pG ks a) (h:Q false s):wpAny bp A (ofAClassStatement 8 bb) Q E s:=by
 have hT:=hk.typeIs;obtain⟨o,items,n,ho,hc,hd,hi⟩:104:=hk;unfold ofAClassStatement;show(bP,wpAny_typeOf_ref ho ?_);rw[hc];show wpAny _ _ ((cK,"tuple" == "tuple",pure true,isSubtype (.type "tuple") (.type "tuple"))>>=_) _ _ s;rw[aT az];ext D2;ext xD Wg;ext znD;simp only[];show(zlO,wpAny _ _ (forIn items _ _) _ _ s,wpAny_forIn_list _ (zjE,∀ v∈rest,Nd) _ ?_ ?_ _ _ (eX rfl hi.byValue))
 .rintro v rest r s' (⟨hr,rfl,hall⟩:43);rw[xl0 _ (hall v Zm)];ext D2;ext uS;exact Zn (eX rfl zks)
 .ext zfk
theorem xwe {ks:rH}{a:Addr}{Q:Bk}{stored:aX} (hk:pG ks a) (hs:∀ y∈stored,VB) (h:Q false s):wpAny bp A (searchCouldBeSeen (.ref a) stored) Q E s:=by
 unfold searchCouldBeSeen;ext Fo;refine wpAny_forIn_list _ (zjE,∀ y∈rest,VB) _ ?_ ?_ _ _ (eX rfl hs)
 .rintro y rest r s' (⟨hr,rfl,hall⟩:43);show(js,ks',b,rfl,hb,hall _ Zm);show(bC,nx,∀ u∈rest,∃ ks' b,(eO u b)/\(sR s'.heap ks' b),u,hu,hall u (Zl _ hu));simp only[];by_cases c:(Fx||carriedByValue (.ref a)&&carriedByValue (.ref b))=true
  .ext kI c;exact Zn (eX rfl nx)
  .ext d8 c;ext zkm hk;ext zkm hb;show(bP,xj1 hk ?_);ext uS;show(bP,xj1 hb ?_);ext uS;exact Zn (eX rfl nx)
 .ext zfk
#check _
section
variable {prog:Program}{w:World}{K:Type} [DecidableEq K] {knd:KeyKind prog w K}{A:Around}{E:Value->Shared->Prop}{s:Shared}
noncomputable def xf1 (es:vP) (i:Nat):Int:=(es[i]?.map (·.1)).getD 0
theorem xla {d a:Addr}{o:Obj}{es:vP}{ep:Nat}{t:SetTable}{L:KU}{k:rH}{Q:eW SetFound} (T:lX) (ho:r8) (hd:Gw) (hf:zox)
    (hu:zbP) (hk:pG k a) (keys:zgj)
    {n0:Nat} (he:pd (Ht n0)) (hn0:n0<N1)
    (yes:(∃ e∈L,∃ b,zbW/\(pG k b))->Q (.there none) s)
    (no:∀ m,(pd (Ht m))->(∀ i,i<m->NF∈L.map (·.1))->(∀ e∈L,zoI)->Q (.free (Ht m) false) s) :
    ∀(fuel n:Nat) (stand:dB Probe),n0-n<fuel->n<=n0->stand.getD (t.probeStart jT)=toP (way t.mask jT n)->(∀ i,dQ->(UG NF)) ->
      wpAny bp A (setSearchFrom d bb jT true fuel stand) Q E s
  | 0,n,stand,h,_,_,_=>aa
  | fuel+1,n,stand,hfu,hn,hst,past=>by
    unfold setSearchFrom;ext Pq hf;simp only[];have odd:t.gaveWay=false:=by
      unfold gaveWay;rcases T.mok with e|e<;>rw[e]<;>decide
    rw[odd];ext uS;show(cc,m,nm,pas,cse,xkp T.up T.dm (xf1 es) jT N1 n (bS n0 hn aa he));have mn:m<=n0:=by
      refine QD nX;show(iy,i,e,pas n0 hn z);ext bV he e
    have seen:Fp m (UG NF):=fun i hi=>by
      rcases YJ i n with z|z
      . exact past i z
      . show(yZ,j,pas i z hi)
        show(ag,e,e3,e4,T.live.mp e1);refine(bD,j,e,e1,e3,fun q=>absurd ?_ e2);unfold xf1;show(cq,T.es_,e3,q)
    have inL:∀ i,i<m->NF∈L.map (·.1):=fun i hi=>by
      obtain⟨j,e,e1,e3,_⟩:83:=seen i hi;show(ag,e',e4,e5,T.live.mp e1);exact Zg.mpr ⟨e',Zj e4,e5⟩
    rw[hst];have pr:∀ met,(ae,probe.go t (xf1 es) jT N1 (toP (way t.mask jT n)),met)->(ae,t.probe (xf1 es) jT (toP (way t.mask jT n)),met):=fun _ e=>e;rcases cse with⟨pe,emp⟩|⟨i,pc,liv,hi⟩
    . split
      . ext zhN pe;refine Zn (no m emp inL (bL e hel b eb isk));obtain⟨k',b',h1,h2,h3⟩:83:=keys e hel;have:k'=k:=by
          ext bI eb h2 h2;exact h3.inj isk
        ext wF;exact T.absent emp (P:=fun v=>∃ b,(oN b)/\(pG k' b)) (fun i hi j e1 l1 l2 l3 ⟨b1,l4,l5⟩=>by
          obtain⟨j2,e2,x1,x2,x3⟩:83:=seen i hi;ext bI l1 x1 x1;ext bI l2 x2 x2;exact x3 l3 b1 l4 l5) e hel h1 ⟨b,eb,isk⟩
      . ext zoS pe
    . show(ag,e,le,ej,T.live.mp liv)
      obtain⟨k',b,h1,h2,h3⟩:83:=keys e (Zj le);obtain⟨pp,hv,v⟩:=e;have h2:oN b:=h2;subst h2;have ei:aU es (iP hv b):=d4 T.es_ le
      have sm:(ae,t.sameMemory t.moves t.mask,true):=by
        unfold sameMemory;rw[if_pos (beq_self_eq_true _)]
      show(ki,mne,m,n0,sE he liv)
      have nxt:k'≠k->∀ i',i'<m+1->(UG (Ht i')):=fun c i' hi'=>by
        rcases YJ i' m with z|z
        . exact seen i' z
        . ext EU i' m;refine(bD,i,_,liv,le,fun _ b2 eb isk=>c ?_);have eb:Zq b=Zq b2:=eb;cases eb;exact h3.inj isk
      have stk:∀ y∈(List.map (fun x:zcN=>x.snd) (Array.filter (m5,x.fst == jT) es).toList),VB:=fun y hy=>by
        ext dY x hx hy;rw[Array.toList_filter,T.el] at hx;show(dY,e',he',rb hx);obtain⟨k2,b2,_,x2,x3⟩:83:=keys e' he';exact bK k2 b2 x2 x3
      split
      . ext zhN pc;show(zod,Zf (xwe hk stk ?_),?_)
        . ext uS
          ext zez
          . ext zeA
          . show(zee,xla T ho hd hf hu hk keys he hn0 yes no fuel (m+1) zji aa aa rfl (nxt c))
        . skip
          ext zez
          . ext zeA
          . show(zee,xla T ho hd hf hu hk keys he hn0 yes no fuel (m+1) zji aa aa rfl (nxt c))
      . ext zoS pc
#check _
theorem Tab.plainly {t:SetTable}{es:vP}{L:KU} (T:lX) (b:Bool):Tab { t with plain:=b } es L:=⟨T.pl,T.el,T.srt,T.dm,T.mok,T.bd,T.rc⟩
theorem Tab.fits {t:SetTable}{es:vP}{L:KU} (T:lX) (le:X9):zox:=by
 unfold SetTable.fits fill;rw[TB,yA,T.dm];simp;exact le
section
variable {prog:Program}{w:World}{K:Type} [DecidableEq K] {knd:KeyKind prog w K}{A:Around}{E:Value->Shared->Prop}{s:Shared}
theorem xnm (n:Nat) {v:Value} (h:Nd):∃ b,hashByValue n v=pure b:=by
 cases v with
 | ref a=>simp[carriedByValue] at h
 | _=>cases n<;>exact(gD,by unfold hashByValue; rfl)
theorem xkj {ks:rH}{a:Addr}{Q:Bk} (hk:pG ks a) (h:∀ b,Q b s):wpAny bp A (hashByValue 8 bb) Q E s:=by
 have hT:=hk.typeIs;obtain⟨o,items,n,ho,hc,hd,hi⟩:104:=hk;unfold hashByValue;show(bP,wpAny_specialOf hT F.slot_tuple_hash.lookup ?_);show wpAny _ _ (seqItems? (.ref a)>>=_) _ _ s;ext znD;show(zlO,wpAny _ _ (forIn items _ _) _ _ s,wpAny_forIn_list _ (fun rest r s'=>s'=s/\∀ v∈rest,Nd) _ ?_ ?_ _ _ (cp hi.byValue))
 .rintro v rest r s' ⟨rfl,hall⟩;show(Fu,eb,xnm 7 (hall v Zm));rw[eb];ext D2;cases b with
  | true =>
   ext xD Wg;exact Zn (cp zks)
  | false =>
   simp only[Bool.not_false,if_true];exact Zn (Zn (h _))
 .rintro ⟨r1,r2⟩ s' ⟨rfl,_⟩;cases r1 with
  | none=>exact Zn (h _)
  | some b=>exact Zn (h _)
theorem xjx {h h':Heap}{ks:rH}{a d:Addr}{o:Obj}{es ep t} (x:sR h ks a) (ho:z0) (hd:Gw) (hs:Jq d h h'):sR h' ks a:=by
 obtain⟨o',items,n,ho',hc,hd',hi⟩:104:=x;have hne:a≠d:=by
  rintro rfl;show(jD,o'=o,ZL.inj (ho'.symm.trans ho));show(b6,hd,hd',nomatch hd')
 exact⟨104,o',items,n,(hs.2 a hne).trans ho',hc,hd',hi⟩
noncomputable def SetT (knd:KeyKind prog w K) (h:Heap) (d:Addr) (xs:xL):Prop:=∃ o es ep t L,z0/\o.ExactSet/\Gw/\lX/\(L.map (·.2)).Perm (xs.map fun x=>(iP,zcZ ba,cX))/\(∀ x∈xs,(sR h ba cX))/\((t.mask=7/\L.length<=4)\/(t.mask=31/\L.length<=18))
theorem SetT.nil {h:Heap}{d:Addr}{o:Obj}{ep fg mv:Nat}{led:Bool} (ho:z0) (hex:o.ExactSet) (hd:o.data=.set #[] ep (.fresh fg mv led)):vZ h [] :=
 (dk,o,#[],ep,_,⟨66,[],ho,hex,hd,⟨rfl,rfl,Jt.nil,rfl,gg,nA,nA⟩,Bl,⟨nA,.inl (cp jg)⟩⟩)
theorem stored {h:Heap}{d:Addr}{o:Obj}{es:vP}{ep:Nat}{t:SetTable} (ho:z0) (hd:Gw) (es':vP) (t':SetTable) :
    (ae,(h.update d (QI es' t')).get? d,{ o with data:=.set es' (ep+1) t' }):=by
  show(Hh,Yg (QI es' t') ho (eB zpG),zpG)
theorem xpi {d:Addr}{o:Obj}{es:vP}{ep:Nat}{t:SetTable}{L:KU}{Q:yj} (T:lX) (le:X9) (l5:L.length=5) (ho:r8) (hd:Gw)
    (h:∀ es' t' L',(L'.map (·.2)).Perm (L.map (·.2))->(bv,Tab t' es' L',t'.mask=31,L'.length=5,Q () { s with heap:=s.heap.update d (QI es' t') })) :
    wpAny bp A (setRelay d (SetTable.grown 5)) Q E s:=by
  unfold setRelay;show(Pq,T.fits le);simp only[];have sa:SetTable.sizeAbove (SetTable.grown 5)=32:=az
  rw[sa];have nl:¬ (32>sizeLine):=az
  rw[ay nl];obtain⟨t',order,L',e1,pm,T',mk,_⟩:105:=xxt (mask:=31) BA es (by rw[yA,l5]; decide) t.finger (t.movedTo 31) t.led t.plain;have rl:t.relaid (es.map (·.1)) (SetTable.grown 5)=some (t',order):=by
    unfold relaid;ext aQ sa e1
  rw[rl];have l':L'.length=5:=by
    ext zdX;rw[Za,T.el,Za,l5] at this;exact this
  have sz:(order.filterMap (es[·]?)).size=es.size:=by rw[T'.size.2,yA,l',l5]
  ext Fo;show wpAny _ _ (if (order.filterMap (es[·]?)).size != es.size then _ else _) _ _ _;rw[ay (jr sz)];ext vY;have pm2:(L'.map (·.2)).Perm (L.map (·.2)):=by
    show(kh,T.el,pm)
  exact wpAny_storeSet_of ho hd (h _ _ L' pm2 T' mk l') (by rw[sz,yA,l5]; decide)
theorem add {d a:Addr}{k:rH}{xs:xL}{Q:Bk} (hu:zbP) (S:vZ s.heap xs) (hk:pG k a) (small:xs.length<18)
    (yes:k∈xs.map (·.1)->Q false s) (no:k∉xs.map (·.1)->∀ h',zaS->(vZ h' zdq)->Q true nu) :
    wpAny bp A (setAddHashed d bb jT) Q E s:=by
  obtain⟨o,es,ep,t,⟨L,ho,hex,hd,T,pm,ks,cap⟩⟩:121:=S;have ll:L.length=xs.length:=by
    ext zdX
    rwa [Za,Za] at this
  have le:L.length<=t.mask:=aa
  have lt:L.length<t.mask:=aa
  have hf:=T.fits le;unfold setAddHashed setAddHashedIn;refine J0 (Zf (Y7 ho hd hf ?_));simp only[];show(mT,nb,byScan (.ref a) es,rfl);rw[nb];ext uS;show(ag,n0,hn0,he,T.some_free le (tupleKeyHash knd k));have keys:zgj:=fun e hel=>by
    have m:=pm.mem_iff.mp (Zg.mpr (dH e hel));ext rp x hx ex m;refine(bD,ba,cX,?_,?_,ks x hx)
    . rw[<- ex]
    . rw[<- ex]
  have n100:n0<100000:=by
    refine ZB hn0 ?_;unfold turns;rcases T.mok with e|e<;>rw[e]<;>decide
  show(bP,(xla T ho hd hf hu hk keys he hn0 (du hy) (b9 m em inL nk) 100000 0 none aa jg rfl (oF,absurd hi (QP _))))
  . simp only[]
    refine Zn (yes ?_);obtain⟨e,hel,⟨b,eb,isk⟩⟩:62:=hy;have mm:=pm.mem_iff.mp (Zg.mpr (dH e hel));ext rp x hx ex mm;have:cX=b:=by
      rw[<- ex] at eb;have eb:Zq cX=Zq b:=eb;injection eb
    show(h9,kx,ks x hx,this);rw[isk.inj kx];exact Zg.mpr Sx
  . simp only[]
    have nin:k∉xs.map (·.1):=fun z=>by
      ext dY x hx z;have mm:=pm.mem_iff.mpr (Zg.mpr Sx);ext rp e hel ee mm;exact nk e hel cX (eG ee) (ks x hx)
    ext Pq hf;simp only[];show(cc,L',pm',T',mk',T.add (x:=bb) em inL (xpt _ _ _));generalize hput:t.put (Ht m)=tp at *;obtain⟨t1,p1⟩:=tp;simp only[] at *;have l1:L'.length=L.length+1:=by
      have:=pm'.length_eq
      rwa [ZD] at this
    have pm2:(L'.map (·.2)).Perm ((zdq).map fun x=>(zcZ ba,Zq cX)):=by
      rw[Zs];have q1:(L'.map (·.2)).Perm ((jT,Zq a)::L.map (·.2)):=pm'.map fun x:Row=>cX;exact q1.trans ((pm.cons _).trans (List.perm_append_singleton _ _).symm)
    have kk:∀ h',zaS->∀ x∈zdq,(sR h' ba cX):=fun h' sb x hx=>by
      rcases Tu with hx|hx
      . exact xjx (ks x hx) ho hd sb
      . show(aQ,Zp.mp hx,xjx hk ho hd sb)
    generalize hes1:insertAt es p1 (jT,Zq a)=es1 at *;have fin:∀ t2:SetTable,Tab t2 es1 L'->t2.mask=t.mask->wpAny bp A (do storeSet d es1 t2; if (! false&&t2.tooFull)=true then do setRelay d (grown (es.size+1)); pure true else pure true) Q E s:=fun t2 T2 m2=>by
      show(bP,(wpAny_storeSet_of ho hd ?_ (aB,T2.size.2,ZN (aa:_<=1000) az)));show(ah,ho2,stored ho hd es1 t2,sb,Jq.update s.heap d (QI es1 t2));have fl:t2.fill=L'.length:=by
        unfold fill;rw[T2.size.1,T2.dm];rfl
      by_cases c:t2.tooFull=true
      . rw[c]
        simp only[Bool.not_false,Bool.and_self,if_true];have c2:=c;unfold tooFull at c2;rw[fl,m2] at c2;have c2:=of_decide_eq_true c2;have l5:L'.length=5:=aa
        have e5:es.size+1=5:=kQ yA
        rw[e5];show(bP,xpi T2 aa l5 ho2 rfl fun es' t' L2 p2 T3 m3 l3=>?_);have sb2:=sb.trans (Jq.update (s.heap.update d (QI es1 t2)) d (QI es' t'));exact Zn (no nin _ sb2 (dk _ es' _ t' ⟨66,L2,stored ho2 rfl es' t',hex,rfl,T3,p2.trans pm2,⟨kk _ sb2,.inr (zy m3)⟩⟩))
      . rw[Jb.mpr c]
        ext xD Qy;refine Zn (no nin _ sb (dk _ es1 _ t2 ⟨66,L',ho2,hex,rfl,T2,pm2,(fE,kk _ sb)⟩));have c2:¬ (t2.fill*5>=t2.mask*3):=(ao,c (decide_eq_true z));rw[fl,m2] at c2;rw[m2];omega
    show(zod,Zf (xkj hk (du b)),Zf (Zn ?_))
    . cases b with
      | true=>exact fin t1 T' mk'
      | false=>exact fin _ (T'.plainly false) mk'
    . exact fin t1 T' mk'
#check _
#check XS
namespace XS
open PySem PySem.Spec PyProof.Rows
section
variable {K:Type} [DecidableEq K]
noncomputable def oneT (acc:xL) (x:rH × Addr):xL:=if ba∈acc.map (·.1) then acc else KE
noncomputable def xbo (ky:E4) (ad:Bj) (i:Nat):xL:=((Zu i).map fun j=>(ky j,ad j)).foldl oneT []
theorem xdz (ky:E4) (ad:Bj) (i:Nat):zcu=oneT vp (ky i,ad i):=by
 unfold xbo;rw[Yj,Zs,List.foldl_append];rfl
theorem xff (ky:E4) (ad:Bj):∀ i,∀ x∈vp,∃ j,j<i/\x=(ky j,ad j)
 | 0,x,h=>nomatch h
 | aY,x,h=>by
  rw[xdz] at h;unfold oneT at h;split at h
  .ext ziH
  .rcases Zy.mp h with h|h
   .ext ziH
   .exact ⟨i,aa,Zp.mp h⟩
theorem xit (ky:E4) (ad:Bj):∀ i,(vp).length<=i
 | 0=>bu
 | aY=>by
  have ih:=xit ky ad i;rw[xdz];unfold oneT;split
  .omega
  .rw [Zr,ZU];omega
#check _
section
variable {pr:Program}{wd:World}{K:Type} [DecidableEq K] {knd:KeyKind pr wd K}
theorem SetT.move {h h':Heap}{d:Addr}{xs:xL} (S:vZ h xs) (g:∀ o,z0->(ae,h'.get? d,o)) (ks:∀ x∈xs,(sR h' ba cX)):vZ h' xs:=by
 obtain⟨o,es,ep,t,⟨L,ho,hex,hd,T,pm,_,cap⟩⟩:121:=S;exact dk o es ep t ⟨66,L,g o ho,hex,hd,T,pm,⟨ks,cap⟩⟩
theorem xhn {h h':Heap}{k:rH}{a:Addr} (x:sR h k a) (g:∀ o,(kM o)->(HG o)):sR h' k a:=by
 obtain⟨o,items,n,ho,r⟩:102:=x;exact(uy,o,items,n,g o ho,r)
variable {ar:Around}{R:Result->Shared->Prop}{it:Addr}{fp wr:List Addr}{G:Array GenState->Array GenState->Prop}{n:Nat}{P:Nat->Value->Prop}{St:Nat->Shared->Prop}
theorem xlw (wk:WalksS pr wd ar.in1 it fp wr G n P St) (d:Addr) (nd:d∉fp) (ky:E4) (ad:Bj) (hv:∀ i v,P i v->v=zdh) (far:∀ i,dQ->ad i∉d::wr) (hu:ar.in1.units<cLine) (small:n<=18) :
    ∀(k i:Nat) (s:Shared),n-i=k->i<=n->St i s->(vZ s.heap vp)->zjy ->
      (∀ s2,Moved (d::wr) G s s2->(vZ s2.heap (xbo ky ad n))->(zaf s2)) ->
      codeAny (model pr wd) ar (.builtin "set.update.loop" (jB,ip i9 it)) R s:=by
  have nw:d∉wr:=(ao,nd (wk.sub _ z));show(bC,more,∀ b∈wr,b∈d::wr,b,z,Zl _ z);have kmv:∀{s s2:Shared},Moved (d::wr) G s s2->zjy->(Vg s2.heap):=fun mv ks j hj=>xhn (ks j hj) (zw,mv.heap _ _ (far j hj) e);have smv:∀{s s2:Shared}{i:Nat},(bc,i<=n,Moved wr G s s2,Vg s2.heap,vZ s.heap vp,vZ s2.heap vp):=fun hi mv ks S=>S.move (zw,mv.heap d _ nw e) fun x hx=>by
    show(ku,j,a,xff ky ad _ x hx);exact ks j aa
  intro k
  induction k with
  | zero =>
    intro i s ek le st so ks fin;show(jD,i=n,aa)
    show(zeY,wk.done s _ _ st (au s2 mv));exact Zn (fin s2 zcr (smv bu mv zob so))
  | succ k ih =>
    intro i s ek le st so ks fin;have lt:dQ:=aa
    show(zeY,wk.item i s _ _ lt st (bL v s2 pv st2 mv));show(oC,hv i v pv);show(ah,ks2,zob,so2,smv le mv ks2 so);show wpAny _ ar.in1 (holding [Zq (ad i)] (setAdd d zdh)>>=_) _ _ s2;refine Zf (J0 ?_);unfold setAdd;refine J0 (Zf (wpAny_pyHash_tuple hu (ks2 i lt) ?_));show(cu,rm,(vp).length<18,(gL,xit ky ad i),add (s:={ s2 with toks:=s2.toks+((ky i).length+1) }) hu so2 (ks2 i lt) rm (du hin) (b9 nin h2 sb so3))
    . have e1:zcu=vp:=by
        rw[xdz];exact if_pos hin
      refine Zn ⟨zkG,ih aY _ aa lt (wk.frame _ s2 _ _ st2 (Qg _ _) (fM b z o e)) (aB e1 so2) ks2 (aK s3 mv3 so5)⟩;exact fin s3 (Moved.trans wk.gtrans ((zcr).then_heap (Qg _ _) (mN z e)) mv3) so5
    . have e1:zcu=vp++[(ky i,ad i)]:=by
        rw[xdz];exact if_neg nin
      have ks3:Vg h2:=fun j hj=>xhn (ks2 j hj) fun o e=>by
        show(aQ,sb.2 _ (fun e2:ad j=d=>far j hj (e2▸Zm)),e)
      refine Zn ⟨zkG,ih aY _ aa lt (wk.frame _ s2 _ _ st2 (Qg _ _) (fM b z o ?_)) (aB e1 so3) ks3 (aK s3 mv3 so5)⟩
      . show(aQ,sb.2 b (fun e2:b=d=>nd (e2▸z)),e)
      . refine fin s3 (Moved.trans wk.gtrans ((zcr).then_heap (Qg _ _) (mN z ?_)) mv3) so5
        show(aQ,sb.2 b (fun e2:b=d=>z (e2▸Zm)),e)
#check _
#check XS
namespace XS
open PySem PySem.Spec PyProof.Rows XL
section
variable {pr:Program}{wd:World}{K:Type} [DecidableEq K] {knd:KeyKind pr wd K}{ar:Around}{E:Value->Shared->Prop}{s:Shared}
theorem xh7 {l:Addr}{its:gJ} (ky:E4) (ad:Bj) {Q:bq} (hd:ar.handled=none) (hu:ar.in1.in1.in1.units<cLine) (hl:s.heap.IsList l its) (hi:∀(i:Nat) (v:Value),(aU its v)->v=zdh) (hk:Fp its.size (pG (ky i) (ad i))) (small:its.size<=18)
    (h:∀(h2:Heap) (tk:Nat),zgl->(BE (o9 b) jj Xh)->(NW (rZ h2))) :
    wpAny (model pr wd) ar (call (.type "set") [.ref l]) Q E s:=by
  show(FR,c0,tl0,mro0,YK.mro)
  show(ah,made0,YK.made,sub0,YK.sub);refine Wh (codeAny_of_tree ?_);show wpAny _ _ (callAny (.type "set") _) _ _ _;refine Zn ⟨Code.quiet_builtin _ aG,Y5 F.entry_type_call ?_⟩;rw[Around.under_plain (weight_type_call_type "set" [.ref l] []) rfl];show(ah,k1,YK.notType,k2,YK.canCreate);have k3:=F.typeCall_set_1 (.ref l)
  repeat (any_goals (first|ext dW|wp_step))
  refine Qt (code_set_new_1 pY (E:=E) (Q₁:=fun ob s1=>∃ led:Bool,(eO ob s.heap.objs.size)/\s1=zqz) fun led=>dH led rfl) (aK r s1 hr);cases r with
  | error e=>exact hr
  | ok fl =>
    cases fl with
    | ret ob =>
      show(ku,led,rfl,hr);have g0:(ae,(As).get? s.heap.objs.size,TZ):=gf;have ty0:Shared.TypeIs zqz Gy "set":=dL g0
      show(ah,li0,YK.init.lookup,bi0,YK.init.bind (.ref s.heap.objs.size))
      repeat (any_goals (first|ext dW|wp_step))
      refine Qt (codeAny_call_builtin (R:=wants (fun r s2=>r=.none/\∃ h2 tk,bT s2 (rZ h2) zgl (BE (o9 b) jj Xh)) E) YK.init.plain F.entry_set_init (check_set_init_1 ty0 ?_)) (aK r2 s2 hr2)
      . obtain⟨ol,gl,cl,⟨nl,dl⟩⟩:63:=hl
        obtain⟨ocls,odict,odata,oslots⟩:=ol;simp only at cl dl;subst cl dl;have gl1:(ae,(As).get? l,(VU,odict,.seq its nl,oslots)):=Zi _ gl;show(ah,a1,F.sub_list_set,a2,F.sub_list_frozenset);show(uA,a3,Value.type "list",Value.type "dict",az)
        have l1:(As).IsList l its:=(yW,gl1,ld nl)
        unfold Builtin.«set.__init__» noKeywords Builtin.Frozenset.updateFrom;generalize ePI:pyIter=PI
        wp_walk
        subst ePI;refine Q1 l1 (Zf (wpAny_runValue ?_));have ll:o9 l:=Zz gl;have h3:ar.in1.in1.in1.handled=none:=cI hd
        have n1:l≠(As).objs.size:=by
          rw[YE];exact ZS (ZB ll (QU _))
        have n2:s.heap.objs.size∉[(As).objs.size,l]:=by
          rw[YE];simp only[Zt,JY,or_false,not_or];show(aS,ZS (QC _),Qu ll)
        have kl:Fp its.size (o9,ad i):=fun i hi'=>by
          obtain⟨o',_,_,ho',_⟩:102:=hk i hi';exact Zz ho'
        refine xlw (knd:=knd) ((Walks.list h3 _ l n1 its).toS) s.heap.objs.size n2 ky ad hi (au i hi') hu small (its.size-0) 0 _ aa jg ⟨AS,(l1.push _)⟩ ?hS (FI,xhn (hk j hj) (zw zbJ)) ?hE
        . have:=kl i hi'
          rw[YE];simp only[Zt,JY,or_false,not_or];show(aS,ZS this,ZS (ZB this (QU _)))
        case hS =>
          have g1:(ae,((As).push (hR,"list_iterator",.fields #[pY,vR])).get? s.heap.objs.size,TZ):=Zi _ g0;exact SetT.nil g1 PN rfl
        case hE =>
          intro s3 mv so;obtain⟨hp3,gn3,dr3,tk3,os3⟩:=s3;show(jD,gn3=s.gens,mv.gens);show(jD,dr3=s.drawn,mv.drawn);show(jD,os3=s.os,mv.os);refine Zn (Zn (cp,fG hp3 tk3 so (mN,lb,mv.heap b o ?_ zbJ)));rw[YE];simp only[Zt,JY,or_false,not_or];show(aS,ZS lb,ZS (ZB lb (QU _)))
      . cases r2 with
        | error e=>exact hr2
        | ok fl2 =>
          cases fl2 with
          | ret r =>
            obtain⟨rfl,h2,tk,rfl,so,kp⟩:=hr2
            repeat (any_goals (first|ext dW|wp_step))
            exact h _ _ so kp
          | _=>exact hr2.elim
    | _=>exact hr.elim
#check _
#check XS
namespace L2
open PySem PySem.Spec PyProof.Rows XL XS
section
variable {K:Type} [DecidableEq K]
noncomputable def oneK (acc:Ay) (x:rH):Ay:=if x∈acc then acc else KE
noncomputable def xdl (xs:Ay):Nat:=(Sm []).length
theorem xlp:∀(xs:xL) (acc:xL),(xs.foldl oneT acc).map (·.1)=(xs.map (·.1)).foldl oneK (acc.map (·.1))
 | [],acc=>rfl
 | x::r,acc=>by
  rw[List.foldl_cons,xlp r,Zo,List.foldl_cons]
  congr 1
  unfold oneT oneK;split
  .rfl
  .rw [Zs];rfl
theorem xnk (xs:Ay) (ad:Bj):(zhP).length=xdl xs:=by
 unfold xdl;rw[<- Za (f:=(·.1)),show (zhP).map (·.1)=(Sm []) from ?_];unfold xbo;rw[xlp,Z4]
 congr 1
 ext zkx;simp[Zb h2]
theorem xl6:∀(xs acc:Ay),(Sm acc).length=acc.length+xs.length↔(∀ x∈xs,x∉acc)/\xs.Nodup
 | [],acc=>aj
 | x::r,acc=>by
  have le:∀(xs acc:Ay),(zo,Sm acc,acc.length+xs.length):=by
   intro xs
   induction xs with
   | nil=>intro acc; exact Zk _
   | cons x r ih =>
    intro acc;refine ZN (ih _) ?_;rw[ZD];unfold oneK;split
    .omega
    .rw [Zr,ZU];omega
  show ((r.foldl oneK (oneK acc x)).length=_)↔_;rw[ZD,ZC];by_cases hx:x∈acc
  .rw [(dU,oneK acc x,acc,aT hx)];constructor
   .intro z
    show(cW,le r acc)
   .intro z
    exact absurd hx (z.1 x ig)
  .rw [(dU,oneK acc x,KE,ay hx)];have ih:=xl6 r KE;rw[Zr,ZU] at ih;rw[(eS,acc.length+(r.length+1)=acc.length+1+r.length),ih];constructor
   .rintro ⟨h1,h2⟩;show(gU,Ke,(ao,h1 x z Fe),h2);rcases dC hy with rfl|hy
    .exact hx
    .exact (ao,h1 y hy (ZO _ z))
   .rintro (⟨h1,h2,h3⟩:43);show(dX,aK y hy z,h3);rcases Zy.mp z with z|z
    .exact h1 y (Zl _ hy) z
    .rw [E7] at hy;exact h2 hy
theorem xm4 {xs:Ay}:xdl xs=xs.length↔xs.Nodup:=by
 have:=xl6 xs [];unfold xdl;ext Ef
#check _
noncomputable def xrm (K:Zd) (ta:TA):TE:=(j7,ta Z H fun vs H1=>∃(a:Addr) (qs:ax) (kss:List (List Key)),vs=jN/\(aq,SqL K H1 a xO,qs.length=kss.length,(zoQ kss (ae,H1 q,.tup (ks.map kV))),qs.length<=18,Q (.int (cQ,xdl kss)) H1))
section
variable {X:Cx}
theorem xnb {a:Expr}{ta:TA}{p p2 pos pos2:Pos} (hu:zU) (hc:lT) (hg:Gl X "len") (hm:yu "len") (hg2:Gl X "set") (hm2:yu "set") (ha:zdj)
    (hs:Wn:=by rfl) (hs3:(xT [Mo])=[nJ Mo]:=by rfl) :
    PE X (yp (.Name "len" p) [Mo]) (xrm X.K ta):=by
  intro pins s Z H Q I h;refine Yy (xd3 I hg hm PyProof.Rows.Boot.«len» ?_);refine PyProof.Rows.callWith_builtin1 ?_ (eB hs3) rfl;rw[hs3];show wpAny _ _ (spliced ((nJ Mo)::backTo pos [])) _ _ s;refine Yd ?_;refine Call_ (xd3 I hg2 hm2 PyProof.Rows.Boot.«set» (JA (thn (ha pos2 pins s Z H _ I h) fun us s1 ⟨vs,H1,I1,r1,q1⟩=>?_) hs rfl));obtain⟨l,qs,kss,e,hq,hlen2,hks,hx,q⟩:106:=q1;ext ziu;show(jG,rv,pl,hz,I1.list hq);show(h9,hlen,rv.length,Za);have sz:its.toArray.size=qs.length:=bW Z5 hlen
  refine xh7 (knd:=nB) (fun i=>kss.getD i []) (fun i=>qs.getD i 0) jp ?hu pl.isList (rW i v) Sy (aB sz hx) (b9 h2 tk so kp)
  case hu =>
    show zdJ+1+1<cLine;omega
  . have e':aU its v:=uX
    have lt:i<qs.length:=by
      show(cW,h8 e')
    show(ag,v',hv',rv',rv.get (i:=i) (x:=V.ref Cr) (d4 Zc ii));ext bI e' hv' hv';ext rJ v Cr rv';simp[ii]
  . rw[sz] at hi
    have hi2:i<kss.length:=aa
    have:=xdf (P:=X.prog) (w:=X.w) I1.hok (hks i Cr kss[i] (Zb hi) (Zb hi2));have e1:kss.getD i []=kss[i]:=(cI,Zb hi2)
    have e2:qs.getD i 0=Cr:=(cI,Zb hi)
    show IsTupleKey nB s1.heap (kss.getD i []) (qs.getD i 0);ext cq e1 e2 this
  refine YA ?_;rw[sz,hlen2] at so;have I2:cP H1 { s1 with heap:=h2,toks:=tk }:=zcX (ur,kp b o (Zz e) e);obtain⟨o,es,ep,t,⟨L,ho,hex,hd,T,pm,_,cap⟩⟩:121:=so;have ll:es.size=xdl kss:=by
    ext zdX;rw[Za,Za,xnk] at this;rw[yA,this]
  refine call_len_set ho hex hd (T.fits aa) ?_ (bD,.int (cQ,xdl kss),H1,I2.tok _,⟨tk+1,eG ll⟩,q);rw[yA];omega
#check _
#check L2
namespace L2
open PySem PySem.Spec PyProof.Rows
#check L2
namespace L2
open PySem PySem.Spec PyProof.Rows XL PySem.W
theorem xj6 {prog:Program}{w:World}{A:Around}{E:bq}{s:Shared}{it d:Addr}{i ep:Nat}{o:Obj}{es:o6}{en:DictEntry}{ok ov:Value}{Q:E8}
    (st:IsItemIter s.heap it d i es.size ep ok ov) (hd:r8) (hdat:kJ) (hi:R1)
    (h:∀ h',(bc,IsItemIterOut h' it d aY es.size ep en.key en.val s.heap.objs.size,(ae,h'.get? s.heap.objs.size,O2 G3),h'.objs.size=jn,Nz wY,Q (aC s.heap.objs.size) nu)):wpAny bp A uW Q E s:=by
  ext zdZ;have il:it<hp.objs.size:=Zz st;refine Zf <| Zn <| Zf <| Zf <| Zf <| Yv hT <| Zn <| Zf <| wpAny_fieldsOf st rfl ?_
  simp only[show Builtin.Dict_items.ownsTuple "dict_itemiterator"=true from az,if_true];show wpAny _ _ (cK (Zq d == JB) _ _) _ _ _;rw[ay (gB Z9)];refine Zf <| Zn <| Zf <| Jw hd hdat ?_
  rw[ay aj];refine Zf <| Zn <| Zf <| JS hd hdat ?_
  rw[ay aj];ext vY;have e1:ae (Xi cH) en:=by
    ext cq tV YW hi
  simp only[e1];refine Zf <| Zf <| Yv hT <| Zn <| Zf <| Y1 hT ?_
  show wpAny _ _ (setField Fh 3 (rawInt (cH+1))>>=_) _ _ _;refine Zf <| YQ st aj (aK h1 he1 hs1)
  have hs1:Jq it hp h1:=hs1;show(cu,T1,Shared.TypeIs ⟨h1,g,dr,tk,os⟩ Fh "dict_itemiterator",dL he1,Zf <| J0 <| Zf <| Y1 T1 <| Zf <| Y1 T1 ?_)
  show wpAny _ _ (Builtin.Dict_items.pairFromOwner Fh 6 en.key en.val) _ _ _;unfold Builtin.Dict_items.pairFromOwner;refine Zf <| wpAny_newTuple ?_
  have he2:=Zi (O2 G3) he1;have ht2:(ae,(Gf).get? hp.objs.size,O2 G3):=by
    show(kh,hs1.1,gf)
  have hz2:(Gf).objs.size=hp.objs.size+1:=bW YE hs1.1
  have hk2:∀ b ob,b≠it->(ae,hp.get? b,ob)->(ae,(Gf).get? b,ob):=(fM,b,ob,nb,Zi _ (hs1.extBut b ob nb e));have z1:h1.objs.size=hp.objs.size:=hs1.1;show wpAny _ _ (Builtin.Dict_items.ownedTupleIsFree (.ref it)>>=_) _ _ ⟨Gf,g,dr,tk,os⟩;rw[z1];revert he2 ht2 hz2 hk2;generalize Gf=h2;intro he2 ht2 hz2 hk2;clear hs1 T1 he1 z1;unfold Builtin.Dict_items.ownedTupleIsFree;refine Zf <| Zf <| Q0 he2 rfl (x:=.none) rfl <| Zn ?_
  ext HJ;refine Zf <| Q0 he2 rfl (x:=ok) rfl <| Zf <| Q0 he2 rfl (x:=ov) rfl ?_
  refine Zf <| YQ he2 aj (aK h3 he3 hs3)
  refine Zf <| YQ he3 aj (aK h4 he4 hs4)
  refine Zf <| YQ he4 aj (aK h5 he5 hs5)
  refine Zf <| YQ he5 aj (aK h6 he6 hs6)
  have n1:=Qu il;refine Zf <| wpAny_letGo <| Zn <| Zn (cA,Zn (h h6 he6 ?_ ?_ (fM b ob nb ?_)))
  . exact hs6.extBut _ _ n1 (hs5.extBut _ _ n1 (hs4.extBut _ _ n1 (hs3.extBut _ _ n1 ht2)))
  . exact hs6.1.trans (hs5.1.trans (hs4.1.trans (hs3.1.trans hz2)))
  . exact hs6.extBut b ob nb (hs5.extBut b ob nb (hs4.extBut b ob nb (hs3.extBut b ob nb (hk2 b ob nb e))))
theorem xk2 {prog:Program}{w:World}{A:Around}{E:bq}{s:Shared}{it d:Addr}{ep:Nat}{o:Obj}{es:o6}{ok ov:Value}{Q:E8}
    (hA:zbj) (st:IsItemIter s.heap it d es.size es.size ep ok ov) (hd:r8) (hdat:kJ)
    (h:zgD):wpAny bp A uW Q E s:=by
  ext zdZ;have st':=st;unfold IsItemIter at st';unfold Builtin.«dict_itemiterator.__next__»
  repeat (any_goals (first|ext dW|(with_reducible refine Yv hT ?_)|(with_reducible refine Y1 hT ?_)|(with_reducible ext Ak)|(with_reducible ext Aj)|wp_step))
  have e1:(if (es.size:Int)<0 then none else es[(es.size:Int).toNat]?)=none:=by
    rw[tV,YW];simp
  rw[e1]
  repeat (any_goals (first|ext dW|(with_reducible refine Yv hT ?_)|(with_reducible refine Y1 hT ?_)|(with_reducible ext Ak)|(with_reducible ext Aj)|wp_step))
  ext zed
theorem xp3 {prog:Program}{w:World}{A:Around}{E:bq}{s:Shared}{v d:Addr}{ep:Nat}{o:Obj}{es:o6}{Q:bq}
    (hv:O0 v (hR,"dict_items",.fields #[i9])) (hd:r8) (hdat:kJ)
    (h:NW (UM,"dict_itemiterator",#[.none,Io,i9,vR,OS,Bp,.none,.none])):wpAny bp A (pyIter (.ref v)) Q E s:=by
  have ti:xR v "dict_items":=dL hv
  refine wpAny_pyIter_slot ti F.slot_dict_items_iter ?_;refine JL F.slot_dict_items_iter ti F.entry_dict_items_iter ?_ (F.args_dict_items_iter_1 _);ext zV dr;unfold Builtin.«dict_items.__iter__»
  repeat (any_goals (first|ext dW|(with_reducible ext Ak)|(with_reducible ext Aj)|wp_step))
  exact cA (bD,_,_,dL gf,JO.lookup,h)
theorem xk6 {prog:Program}{w:World} (d:Addr) (hd:AE d) :
    MeetsIn prog w (Builtin.«dict.items» (jB [i9])) (fun _ R s=>(xR d "dict") /\
      R (.ok (.ret (.ref s.heap.objs.size))) (UM,"dict_items",#[i9])) :=
  .of_wp fun A R s ⟨ti,h⟩=>by
    unfold Builtin.«dict.items» Builtin.Dict.noArgs Builtin.Dict.showsAll;refine Zf <| Zf <| Qc ti ?_
    show wpAny _ _ (pure d) _ _ s;ext vY;show(lC,aB hd Z9,Zf <| Zn <| Zf <| Y8 <| Zn (cA h))
theorem xor {H:Hp}:∀{kvs:dc}{xs:qI}{i:Nat}{k:eA}{x:V},D9->pk->∃ q u,wK xs (k,q,u) FA nR
 | _,_,_,_,_,.nil,e=>AI
 | _,(k',q,u)::_,0,k,x,.cons r _,e=>by
  ext A5;ext iW r1 r2 r3 r
  dsimp only at r1 r2 r3
  subst r1;exact fG q u r2 r3
 | _,_,aY,k,x,Kf,e=>by
  obtain⟨q,u,h1,h2,h3⟩:83:=xor (i:=i) (k:=k) (x:=x) t uX;exact bD q u qw h2 h3
section
variable {X:Cx}{pins:List (Addr × Obj)}{Z:St}{H:Hp}{s:Shared}
theorem xgu {d:Addr}{o:Obj}{kvs:dc}{es:o6}{ep:Nat} (I:av) (e:Vt) (hdat:kJ) :
    (aP,r8,o.ExactDict,es.size=kvs.length,∀(i:Nat) k x,pk->∃ q en,(aP,R1,eO en.key q,FA,RelV x en.val)):=by
  obtain⟨g,_,_,⟨xs,rel,o',es',ep',g',ex,hdat',hes,hn⟩⟩:44:=I.hok d _ e;ext bI g g' g';ext bI hdat hdat' hdat';refine(bR,g,ex,?_,b9 i k x hx)
  . rw[<- Jk,hes,Za]
    exact (Y6 rel).symm
  . obtain⟨q,u,h1,h2,h3⟩:83:=xor rel hx
    exact⟨84,q,_,by rw[<- Ju,hes,Zc,h1]; rfl,rfl,h2,h3⟩
theorem Inv.nofrzT {d:Addr}{kvs:dc} (I:av) (e:w4 d):wL:=fun o' u' z=>by
 ext ziU
#check _
noncomputable def Itkt (d:Addr) (o:Obj) (kvs:dc):It :=
 (zlM,H'=H/\∃ k x q,pk/\(oN q)/\FA)
noncomputable def Itit (d:Addr) (o:Obj) (kvs:dc):It :=
 (zlM,∃ p k x q,(aq,pk,FA,oN p,rF,H'=(Cl [.ref q,x])))
theorem xnt {P:Program}{w:World}{K:Zd}{tg:Expr} (d it:Addr) (o:Obj) (kvs:dc) (es:o6) (ep:Nat) (hdat:kJ) :
    Turn P w K tg (Itkt d o kvs) rX it (eK,h,h.IsKeyIter it d i es.size ep) where
  mem:=aj
  obj:=fun i h st b hb=>by
    ext zlR
  keep:=fun i h h' ⟨o1,e1,r⟩ k=>zni
  item:=by
    intro X hP hw hK hc i pins s Z H E I hf st hg;ext iU;ext tN lt hg;ext M5;obtain⟨f0,f1,f2,f3,f4,f5⟩:46:=j5;ext T6
    obtain⟨qa,en,he,hk,hq,hr⟩:84:=f i k x hx;refine xgl st g ex hdat he (aK h' hit' hs);show(zkJ,xgv (s:=nu) g2 c2 d2 az ?_,I.turned (t':=s.toks) (IW,(hs.2 b hb).trans g) f0 f1 f3 f4 f5);exact⟨85,.ref qa,H,I1,eB hk,cp ⟨103,k,x,qa,hx,rfl,hq⟩,hit',ED⟩
  done:=by
    intro X hP hw hK hc i pins s Z H E I hf st hg;ext iU;ext dZ e hg;ext M5;obtain⟨f0,f1,f2,f3,f4,f5⟩:46:=j5;rw[<- sz] at st;exact xhd jp st g ex hdat (AD,I.turned (t':=s.toks) uN f0 f1 f3 f4 f5)
  self:=fun A i s Q E st h=>QY st h
theorem xl1 {P:Program}{w:World}{K:Zd}{elts:jY}{x1}{tpos:Pos} (d it:Addr) (o:Obj) (kvs:dc) (es:o6) (ep:Nat) (hdat:kJ) :
    Turn P w K wU (Itit d o kvs) rX it (eK,h,∃ ok ov,IsItemIter h it d i es.size ep ok ov) where
  mem:=aj
  obj:=fun i h st b hb=>by
    ext sU;ext DI;exact⟨_,st,fun v z=>by
      ext Mp⟩
  keep:=fun i h h' ⟨ok,ov,st⟩ k=>⟨ok,ov,PQ⟩
  item:=by
    intro X hP hw hK hc i pins s Z H E I hf st hg;ext iU;ext DI;ext tN lt hg;ext M5;obtain⟨f0,f1,f2,f3,f4,f5⟩:46:=j5;ext T6
    obtain⟨qa,en,he,hk,hq,hr⟩:84:=f i k x hx;refine xj6 st g hdat he (bL h' hout ht hz hkp);ext vT zgg;have kk:Nz WY:=(IW,(hsb.2 b hb).trans (hkp b o hb g));show(zf,zpv,I.turned (t':=s.toks) kk f0 f1 f3 f4 f5);ext j4 n0 nL nC nP UZ;ext zfL;show(aw,hp,UT G3,(hsb.2 _ pne).trans ht,⟨85,Gy,W4 [.ref qa,x],I1.adopt n0 I.sz nL nC nP (Xr,[en.key,en.val],.cons (eB hk) (.cons hr .nil)),rfl,⟨125,_,k,x,qa,hx,hq,rfl,n0,rfl⟩,cD _ hit',iA⟩);ext sU;ext zB pne f0
  done:=by
    intro X hP hw hK hc i pins s Z H E I hf st hg;ext iU;ext DI;ext dZ e hg;ext M5;obtain⟨f0,f1,f2,f3,f4,f5⟩:46:=j5;rw[<- sz] at st;exact xk2 jp st g hdat (AD,I.turned (t':=s.toks) uN f0 f1 f3 f4 f5)
  self:=zfM
noncomputable def xwg (X:Cx) (to:TE):TI:=(Ma,H1 d=some (.dT kvs),∀ ob,wL->R (Itkt d ob kvs) wM)
noncomputable def xs3 (X:Cx) (to:TE):TI:=(Ma,H1 d=some (.dT kvs),∀ ob,wL->R (Itit d ob kvs) wM)
section
variable {X:Cx}{o:Expr}{to:TE}{tg:Expr}{elts:List Expr}{x1:_}{tpos apos cpos:Pos}
theorem xqe (ho:Kr):PI X tg o (xwg X to):=by
 intro pins s Z H R I h;show(jJ,ho pins s Z H _ I h,fun v s1 ⟨x,H1,I1,r1,q1⟩=>?_);obtain⟨d,kvs,e1,e,q⟩:83:=q1;ext RK;obtain⟨z,hd,⟨xs,rel,ob,es,ep,g,ex,hdat,hes,hn⟩⟩:43:=PR;refine xk4 hd g ex hdat ?_;have I3:cP wM s1:=(zeO,(PR).stay OM (HW R5) (Hd R5));have I4:cP wM (ziG zaY) :=
  zmN
 show(Mh,⟨66,wM,rfl,I4,xnt d _ ob kvs es ep hdat,AS,iA,q ob (I1.nofrzT e)⟩);show(L7,s1.heap.objs.size)
theorem xop (ho:Kr) (hbase:F4 "items":=by rfl) (hline:F6:=by rfl) :
    PI X wU (zM "items" []) (xs3 X to):=by
  intro pins s Z H R I h;show(zkf,ho pins s Z H _ I h,fun v s1 ⟨x,H1,I1,r1,q1⟩=>?_);obtain⟨d,kvs,e1,e,q⟩:83:=q1;ext RK;obtain⟨z,hd,⟨xs,rel,ob,es,ep,g,ex,hdat,hes,hn⟩⟩:43:=PR;show(aw,ti,s1.TypeIs (.ref d) "dict",⟨ob,g,ex.1⟩,⟨86, "dict", "dict.items",JQ,YT,PySem.F.type_dict_items,ti,au a e2,zjs⟩)
  . cases e2
    show(aH,ob,g,bg ex)
  refine YU YT ti PySem.F.entry_dict_items zlf (xk6 d hd) (fE ti);refine xp3 (s:=Mg) gf (Zi _ g) hdat ?_;ext zen
  have I3:cP wM s2:=(zeL,(I2.hok d _ e).stay OM (HW R5) (Hd R5));have I4:cP wM (L6,#[.none,Io,i9,vR,OS,Bp,.none,.none]) :=
    zmD
  have fin:PIE X pins Z wU R C6 (L6,#[.none,Io,i9,vR,OS,Bp,.none,.none]):=by
    show(zjf,⟨66,wM,rfl,I4,xl1 d _ ob kvs es ep hdat,⟨.none,.none,gf⟩,iA,q ob (I1.nofrzT e)⟩);show(L7,s2.heap.objs.size)
  exact fin
noncomputable def xx2 (X:Cx) (t:TS):TS:=(mr,t { D with nx:=(Bw,∃ d ob u,(gR d (.frz ob u))/\wL/\D.nx σ' (upd H' d u)) } Z H)
theorem xmu {st:Stmt}{t:TS} (h:Sw):PS X st (xx2 X t):=by
 intro pins s Z H D I q;show(jJ,h pins s Z H _ I q,aK fl s1 z);cases fl with
 | next =>
  obtain⟨σ',H',I',⟨d,ob,u,e,nf,r⟩⟩:82:=z;exact(bK,σ',_,I'.thaw e nf,r)
 | _=>exact z
#check _
section
variable {d:Addr}{ob:Obj}{kvs:List (List Key × V)}{g:TG}{tb:TS}{D:Ends}{Z:St}{H:Hp}
theorem xpf (Pv:E5) (h0:KI) (hl:zfq)
    (hs:∀ i k x q Z H,(bv,pk,FA,tK,g (.ref q) Z H F2)) (hd:GT kvs.length) :
    ∃ W:Nat->Nat->St->Hp->Prop,(∃ m,W 0 m Z H)/\∀ i m Z H,EE ->
      ((zbN).stop i H/\yB)\/((zbN).go i H/\(CW (Ej,(zbN).yld i H x H',Z,H',CP))):=by
  ext zfa;rintro i m Z H (⟨rfl,hi,p⟩:43);ext MT Rg
  . ext zpX
    obtain⟨rfl,k,x',qa,e1,rfl,hr⟩:=y;exact hs i k x' qa Z H' e1 hr p
  . ext zia
theorem xng (Pv:E5) (h0:KI) (hl:zfq)
    (hs:∀ i k x q p Z H,(bc,pk,FA,rF,tK,g wx Z (Cl [.ref q,x]) F2)) (hd:GT kvs.length) :
    ∃ W:Nat->Nat->St->Hp->Prop,(∃ m,W 0 m Z H)/\∀ i m Z H,EE ->
      ((zbM).stop i H/\yB)\/((zbM).go i H/\(CW (Ej,(zbM).yld i H x H',Z,H',CP))):=by
  ext zfa;rintro i m Z H (⟨rfl,hi,p⟩:43);ext MT Rg
  . ext zpX
    obtain⟨pa,k,x',qa,e1,hr,rfl,hn,rfl⟩:125:=y;exact hs i k x' qa pa Z H e1 hr hn p
  . ext zia
#check _
#check L2
namespace L2
open PySem PySem.Spec PyProof.Rows XL PySem.W PySem.MeetsSeq3
#check L2
namespace L2
open PySem PySem.Spec PyProof.Rows XL PySem.W
#check L2
namespace L2
section
variable {D:Ends}{Z:St}{H:Hp}{i:Nat}{v:V}{N:St->Hp->Prop}{wi:TI}{g:TG}{a b u:TS}{c:TT}
theorem sq2 {t1 t2:TS} (k:(DH,u2,t2,tSeq t1 u2 d s H)):(tSeq t1 t2) D Z H:=k
theorem sq3 {t1 t2 t3:TS} (k:(Kx,zjB t3)):(tSeq t1 (tSeq t2 t3)) D Z H:=k
theorem sq4 {t1 t2 t3 t4:TS} (k:(Kx,let u4:=t4; zaz)):(tSeq t1 (qQ t2 t3 t4)) D Z H:=k
theorem sq5 {t1 t2 t3 t4 t5:TS} (k:(Kx,WM t5)):(tSeq t1 (tSeq t2 (qQ t3 t4 t5))) D Z H:=k
theorem sq6 {t1 t2 t3 t4 t5 t6:TS} (k:DH u6 t6 (WM,tSeq t5 u6)):(tSeq t1 (qQ t2 t3 (qQ t4 t5 t6))) D Z H:=k
theorem sq7 {t1 t2 t3 t4 t5 t6 t7:TS} (k:Kx (pL,u7,t7,u6,tSeq t6 u7,(WM,tSeq t5 u6))):(tSeq t1 (znw t7)) D Z H:=k
theorem sq9 {t1 t2 t3 t4 t5 t6 t7 t8 t9:TS} (k:DH u9 t9 zet):(tSeq t1 (tSeq t2 (qQ t3 t4 (qQ t5 t6 (qQ t7 t8 t9))))) D Z H:=k
theorem sq11 {t1 t2 t3 t4 t5 t6 t7 t8 t9 t10 t11:TS} (k:DH u11 t11 (pL,u10,tSeq t10 u11,u9,tSeq t9 u10,zet)):(tSeq t1 (znw (qQ t7 t8 (qQ t9 t10 t11)))) D Z H:=k
theorem gn (k:N oY H):xcr i v Z H N:=k
theorem nx {n r x y} (k:n Z H):Ends.nx ⟨n,r,x,y⟩ Z H:=k
theorem gx {n r x y} (k:n oY H):xcr i v Z H (Ends.nx ⟨n,r,x,y⟩):=k
theorem fo (k:(DH,b,b,tFor wi g b d s H)):tFor wi g b D Z H:=k
theorem fq (k:(pL,s,Z,b,b,tFor wi g b GJ s H)):tSeq (tFor wi g b) u D Z H:=k
theorem wo (k:(DH,b,b,xf6 c b d s H)):xf6 c b D Z H:=k
theorem wq (k:(pL,s,Z,b,b,xf6 c b GJ s H)):tSeq (xf6 c b) u D Z H:=k
theorem io (k:Kx (pL,a,a,b,b,tIfS c a b d s H)):tIfS c a b D Z H:=k
theorem iq (k:let s:=Z; (pL,a,a,b,b,tIfS c a b GJ s H)):tSeq (tIfS c a b) u D Z H:=k
#check _
#check L2
namespace L2
open PySem PySem.Spec PyProof.Rows XL
section
variable {X:Cx}{x:Str}{e:Expr}{te:TE}{pos pos':Pos}
theorem pS (i:Nat) (hN:X.N.Nodup) (he:tz) (hi:sX:=by rfl) (hx:zY:=by exact YB rfl) (hs:Nk e Re:=by rfl) (hf:zL:=by first|ext ww|ext zd) :
    zkP:=xd1 hN hi hx he hs hf
theorem pN (i:Nat) (hN:X.N.Nodup) (hi:sX:=by rfl) (hx:zY:=by exact YB rfl) (hf:zL:=by first|ext ww|ext zd):PG X sO (xcr i):=xgx hN hi hx hf
#check _
section
variable {X:Cx}{x:Str}{pos:Pos}{scope:Scope}{zs ys:List Str}
theorem pO (i:Nat) {C:Addr}{ex:ax}{s:Shared}{H:Hp}{pn:bj} (nd:Ar) (ow:∀ x∈zs,(ae,(qv).names.lookup x,.local)) (hi:aU (zs++ys) x:=by rfl) (hz:x∈zs:=by simp):PG (X.blkG scope zs ys C ex s H pn) sO (xcr i):=xgx nd hi (YB (ow _ hz)) (Qp (ow _ hz))
theorem pM (i:Nat) (hi:aU (zs++ys) x:=by rfl) (hz:x∈zs:=by simp):∀(C:Addr) (ex:ax) (s:Shared) (H:Hp) (pn:bj),(∀ x∈zs,(ae,(qv).names.lookup x,.local))->Ar->PG (X.blkG scope zs ys C ex s H pn) sO (xcr i):=fun _ _ _ _ _ ow nd=>pO i nd ow hi hz
#check _
section
variable {X:Cx}{k k':Nat}{f C:Addr}{fd:FuncData}{ps:List Str}{sp:Sp}{x m:Str}{p pos apos:Pos}{e o:Expr}{es:List Expr}{ta:TE}{t:TA}{q0:Bool}
theorem pC (F:FnOk q0 X.prog X.w X.K X.mg X.base (CXo X.prog X.w) k f fd ps sp) (hr:Room q0 k' X.A) (hm:IU f) (hk:znB) (hb:xz X.K fd ps []) (ha:Bh) (hl:k<=k':=by decide) (hg:rh:=by rfl)
    (hdb:ng:=by decide) (he:wP:=by rfl) (hpl:(xW).any (·.1)=false:=by rfl) :
    Gz (xr4 sp [] (fun _ _ _ _=>False) t):=xsu F (hr.mono hl) hg hm hk hb .nil xq ha hdb he hpl
#check _
#check L2
namespace L2
open PySem PySem.Spec PyProof.Rows XL
variable {q0:Bool}
#check L2
namespace L2
open PySem PySem.Spec PyProof.Rows XL PySem.W
#check L2
namespace Geo
noncomputable def dn (y r:Int):Int:=(kT,y,r,1,-1)
noncomputable def upN (y r:Int):Nat:=(kT,y,r,gV r y,gV y r)
noncomputable def wayI (b:Bool):Int:=(vt,-1,1)
noncomputable def lvN (w x:Int) (b:Bool):Nat:=(vt,(x+1).toNat,(gV,w+2,x))
noncomputable def upL (x y r:Int):iw:=(Zu (upN y r)).map (uw,x,y+cH*dn y r)
noncomputable def lvL (w x:Int) (b:Bool) (r:Int):iw:=(Zu (lvN w x b)).map (uw,x+cH*wayI b,r)
noncomputable def cells (w x y:Int) (b:Bool) (r:Int):iw:=upL x y r++lvL w x b r
theorem xks {x y r u v:Int}:(Lf,upL x y r,u=x/\UV):=by
 unfold upL upN dn;ext ET Zg
 .ext Uh
  subst e1;refine tS;split at hi
  .rename_i h
   rw[aT h] at e2;left; omega
  .rename_i h
   rw[ay h] at e2;right; omega
 .rintro ⟨rfl,h|h⟩
  .refine (dM,gV v y,?_)
   .rw [ZG,Lz]; omega
   .ext kI aa;have:(cQ,gV v y)=v-y:=aa
    ext Sj; omega
  .refine (dM,gV y v,?_)
   .rw [ZG,tV]; omega
   .ext d8 aa;have:(cQ,gV y v)=y-v:=aa
    ext Sj; omega
theorem xue {w x r u v:Int}{b:Bool} (h1:1<=x) (h2:x<=w):(Lf,lvL w x b r,zhl):=by
 unfold lvL lvN wayI;rw[Zg];cases b with
 | true =>
  ext HJ;constructor
  .ext Uh
   show(aH,e2.symm,aa,aa)
  .ext zoR x u;have:(cQ,gV x u)=x-u:=aa
   ext Sj; omega
 | false =>
  ext uS;constructor
  .ext Uh
   show(aH,e2.symm,aa,aa)
  .ext zoR u x;have:(cQ,gV u x)=u-x:=aa
   ext Sj; omega
theorem xfa {w x y r u v:Int}{b:Bool} (h1:1<=x) (h2:x<=w):(Lf,kD x y b r,(u=x/\UV)\/zhl):=by
 unfold cells;rw[Zy,xks,xue h1 h2]
noncomputable def btw (v a b:Int):Prop:=min a b<=v/\v<=max a b
instance (v a b:Int):Decidable (btw v a b):=inferInstanceAs (Decidable (_/\_))
noncomputable def meet (l m:iw):dB f7:=zlZ
theorem xew {l m:iw}{p:Prop} [Decidable p] {d:f7} (h:∀ c,Ob l m p d):meet l m=(zn p d):=by
 unfold meet;by_cases hp:p
 .ext kI hp;obtain⟨h1,h2⟩:=(h d).mpr (ld hp);cases e:zlZ with
  | none =>
   show(b6,J7,e,absurd (decide_eq_true h2) (e d h1))
  | some c =>
   show(ah,hm,Qr e,hl,Z7 e);rw[((h c).mp ⟨hl,xF hm⟩).2]
 .rw [ay hp,J7];intro c hc hd;exact hp ((h c).mp ⟨hc,xF hd⟩).1
noncomputable def mir (w:Int) (c:f7):f7:=(w+1-c.1,c.2)
theorem xdd (w:Int) (c:f7):mir w (mir w c)=c:=by
 unfold mir;rw[(eS,w+1-(w+1-c.1)=c.1)]
theorem xfd (w x y:Int) (b:Bool) (r:Int):(kD yI y (! b) r)=(kD x y b r).map (mir w):=by
 unfold cells upL lvL;rw[Zs,Z4,Z4]
 congr 1
 have e:lvN w yI (! b)=lvN w x b:=by
  cases b
  .show(Ft,Int.toNat,(eS,yI+1=w+2-x))
  .show(Ft,Int.toNat,(eS,w+2-yI=x+1))
 rw[e];refine JI fun i _=>?_;cases b
 .exact congrArg (·,r) (eS,yI+cH*-1=w+1-(x+cH*1))
 .exact congrArg (·,r) (eS,yI+cH*1=w+1-(x+cH*-1))
theorem xi0 {w:Int}{l:iw}{c:f7}:c∈l.map (mir w)↔mir w c∈l:=by
 rw[Zg];show(aS,fun⟨d,h,e⟩=>by rw[<- e,xdd]; exact h,gW (cD,h,xdd w c))
theorem xkh {w xn yn rn xf yf rf:Int} (n1:1<=xn) (n2:xn<=w) (f1:1<=xf) (f2:xf<=w) (hr:Lh) (hx:xn<xf) (c:f7) :
    Ob (kD xn yn true rn) (kD xf yf true rf) HK Lg:=by
  obtain⟨u,v⟩:=c;rw[xfa n1 n2,xfa f1 f2,Prod.mk.injEq];unfold btw;ext HJ;constructor
  . rintro ⟨h|h,h'|h'⟩<;>omega
  . rintro ⟨h,rfl,rfl⟩
    show(dX,?_,.inr (cp aa));by_cases e:v=rn
    . show(fU,zy e)
    . show(eD,cp aa)
theorem xk1 {w xn yn rn xf yf rf:Int}{b:Bool} (n1:1<=xn) (n2:xn<=w) (f1:1<=xf) (f2:xf<=w) (hr:Lh) (hx:X4) (c:f7) :
    Ob zam zal HK Lg:=by
  cases b with
  | true=>exact xkh n1 n2 f1 f2 hr hx c
  | false =>
    have hx:xf<xn:=hx;have z:=xkh (w:=w) (yn:=yn) (yf:=yf) (xn:=w+1-xn) (xf:=w+1-xf) aa aa aa aa hr aa (mir w c);rw[(dU,kD (w+1-xn) yn true rn,_,xfd w xn yn false rn),(dU,kD (w+1-xf) yf true rf,_,xfd w xf yf false rf),xi0,xi0,xdd] at z;rw[z];refine and_congr_right fun _=>⟨du e,fun e=>uc⟩
    show(h9,e,congrArg (mir w) e,xdd);exact e.trans (xdd w Lg)
theorem xpm {w xn yn rn xf yf rf:Int}{b:Bool} (n1:1<=xn) (n2:xn<=w) (f1:1<=xf) (f2:xf<=w) (hr:Lh) (hx:X4) :
    meet zam zal=(zn HK Lg):=xew (xk1 n1 n2 f1 f2 hr hx)
theorem xq9 {w xn yn rn xf yf rf:Int}{b:Bool} (n1:1<=xn) (n2:xn<=w) (f1:1<=xf) (f2:xf<=w) (hr:Lh) (hx:X4) :
    meet zal zam=(zn HK Lg):=xew fun c=>(aB,and_comm,xk1 n1 n2 f1 f2 hr hx c)
theorem xjl {w x1 y1 r1 x2 y2 r2:Int} (a1:1<=x1) (a2:x1<=w) (b1:1<=x2) (b2:x2<=w) (hx:x1≠x2) :
    meet NO GE=(kT x2 x1 (DT,vo,(x1,r2),zn xP (x2,r1)) none):=by
  have mem2:∀ u v,(Lf,GE,(u=x2/\((y2<=v/\v<r2)\/(r2<v/\v<=y2)))\/(bT,v,r2,x2<=u,u<=w+1)):=fun u v=>by
    rw[xfa b1 b2]; simp
  have mem1:∀ u v,(Lf,NO,(u=x1/\((y1<=v/\v<r1)\/(r1<v/\v<=y1)))\/(bT,v,r1,0<=u,u<=x1)):=fun u v=>by
    rw[xfa a1 a2]; simp
  by_cases hlt:x2<x1
  . rw[aT hlt]
    by_cases e:r1=r2
    . ext cR
      rw[aT (by unfold btw; omega)];unfold meet;show (PF++Oe).find? _=_;rw[List.find?_append];have hn:(PF).find? (fun c=>mO c (kD x2 y2 false r1))=none:=by
        rw[J7];rintro ⟨u,v⟩ hc hd;show(ah,h1,xks.mp hc,h2,(mem2 u v).mp (of_decide_eq_true hd));omega
      rw[hn];have hv:Oe=(x1,r1)::(Oe).tail:=by
        unfold lvL lvN;obtain⟨n,hn⟩:∃ n,(x1+1).toNat=n+1:=zy x1.toNat
        simp only[if_true,hn,YZ,Zo,List.tail_cons];simp
      rw[hv,JV (by show(Rn,(mem2 x1 r1).mpr (.inr RZ)))];rfl
    . by_cases hb:vo
      . have key:∀ c,Ob PF GE True (x1,r2):=by
          ext znl xks;unfold btw at hb;constructor
          . rintro ⟨h,h'|h'⟩<;>refine fE trivial<;>omega
          . rintro ⟨_,rfl,rfl⟩
            show(aS,cp aa,.inr RZ)
        have z:=xew key;rw[aT hb];unfold meet at z ⊢;show (PF++Oe).find? _=_;rw[List.find?_append,z];rfl
      . rw[ay hb]
        refine xew (p:=xP) (d:=(x2,r1)) ?_;ext znl mem1;unfold btw at hb ⊢;constructor
        . rintro ⟨h|h,h'|h'⟩<;>omega
        . rintro ⟨h,rfl,rfl⟩
          show(dX,.inr RZ,.inl (cp aa))
  . rw[ay hlt]
    have:=xew (l:=NO) (m:=GE) (p:=False) (d:=(0,0)) (by
      rintro ⟨u,v⟩;rw[mem1,mem2];constructor
      . rintro ⟨h|h,h'|h'⟩<;>omega
      . rintro ⟨h,_⟩; exact h.elim)
    simpa using this
theorem xqt (w:Int) (l m:iw):meet (l.map (mir w)) (m.map (mir w))=(meet l m).map (mir w):=by
 unfold meet;rw[List.find?_map];refine congrArg (Wj (mir w)) (congrArg (List.find? · l) (funext fun c=>?_));show decide (mir w c∈m.map (mir w))=_;rw[decide_eq_decide,xi0,xdd]
theorem xnr {w x1 y1 r1 x2 y2 r2:Int} (a1:1<=x1) (a2:x1<=w) (b1:1<=x2) (b2:x2<=w) (hx:x1≠x2) :
    meet GE NO=(kT x2 x1 (DT,xP,(x2,r1),zn vo (x1,r2)) none):=by
  have z:=xjl (w:=w) (x1:=w+1-x2) (y1:=y2) (r1:=r2) (x2:=w+1-x1) (y2:=y1) (r2:=r1) aa aa aa aa aa;rw[(dU,kD (w+1-x2) y2 true r2,_,xfd w x2 y2 false r2),(dU,kD (w+1-x1) y1 false r1,_,xfd w x1 y1 true r1),xqt] at z;have z:=wI (Wj (mir w)) z;rw[Option.map_map,(dU,mir w∘mir w,id,funext (xdd w)),Option.map_id_apply,V0,V0,V0] at z;rw[z];by_cases h:x2<x1
  . rw[Lz,aT h]
    show (DT,xP,(mir w (mir w (x2,r1))),zn vo (mir w (mir w (x1,r2))))=_;rw[xdd,xdd]
  . rw[tV,ay h]
    rfl
theorem meet_at {l m:iw}{i:Nat}{c:f7} (hc:aU l c) (no:∀ d∈l.take i,d∉m) (hm:c∈m):(ae,meet l m,c):=by
 ext nF h hi hc;have e:zkw=l:=by
  rw[<- hi,List.getElem_cons_drop,Yf]
 have hn:(l.take i).find? (fun c=>mO c m)=none:=by
  ext zgM
 have z:(ae,(zkw).find? (fun c=>mO c m),c):=by
  rw[List.find?_append,hn,JV (by ext Rn hm)];rfl
 ext b6 e z z
theorem meet_no {l m:iw} (no:∀ d∈l,d∉m):meet l m=none:=by
 unfold meet;ext zgM
theorem erase_ok {ls:df}{k:Nat}{y:Int} (nd:ls.Nodup) (h:eZ ls k y):(aP,(zbR).Nodup,y∉zbR,(∀ z∈zbR,z∈ls),y∈ls):=by
 obtain⟨hk,hy⟩:=Zh.mp h;have e:ls.take k++y::ls.drop cJ=ls:=by
  rw[<- hy,List.getElem_cons_drop,Yf]
 show(cB,e2,ls.eraseIdx k=ls.take k++ls.drop cJ,Yt ls k,nd2,nd);rw[<- e,ZP,ZC] at nd2;obtain⟨n1,⟨n2,n3⟩,n4⟩:=nd2;refine⟨?_,?_,(tZ,List.mem_of_mem_eraseIdx hz),hy▸J9 hk⟩
 .rw [e2,ZP];show(aH,n1,n3,fun a ha b hb=>n4 a ha b (Zl _ hb))
 .rw [e2,Zy];rintro (z|z)
  .exact n4 _ z _ Zm rfl
  .exact n2 z
noncomputable def absI (a:Int):Int:=(kT,a,0,-a,a)
noncomputable def acr (w x:Int) (b:Bool):Int:=vt x yI
theorem tri {a b c:Int}:(eI a c)<=(eI a b)+(eI b c):=by
 ext zjV
theorem xfi {v a b:Int} (h:btw v a b):absI (a-b)=(eI a v)+(eI v b):=by
 unfold btw at h;ext zjV
theorem xmp {cn cf yn rn yf rf:Int} (hc:cn<cf) (hr:Lh) (h:HK) :
    zok<zol\/(zok=zol/\cn*(eI yn rn)+cf*(eI yf rf)<cn*(eI yn rf)+cf*(eI yf rn)):=by
  show(ah,e1,xfi h,e2,tri (a:=yf) (b:=rf) (c:=rn));by_cases c:absI (yf-rn)=(eI yf rf)+(eI rf rn)
  . show(zJ,fE aa)
    rw[c,e1,Int.mul_add,Int.mul_add];have p:0<(eI rf rn):=by
      unfold absI;ext me
    show(cW,Int.mul_lt_mul_of_pos_right hc p)
  . ext eD aa
theorem xqd (a b:Int):(eI a b)=absI (b-a):=by
 unfold absI;ext Oz
theorem ex_pair {w x1 y1 r1 x2 y2 r2:Int}{b1 b2:Bool} (a1:1<=x1) (a2:x1<=w) (c1:1<=x2) (c2:x2<=w) (hx:x1≠x2) (hs:(b1,r1)≠(b2,r2)) (hm:meet (kD x1 y1 b1 r1) (kD x2 y2 b2 r2)≠none) :
    zhd<(Im+(eI y1 r1))+zmv \/
    (b1=b2/\zhd=(Im+(eI y1 r1))+zmv /\
      Im*(eI y1 r1)+acr w x2 b2*(eI y2 r2)<acr w x1 b2*(eI y1 r2)+RH*(eI y2 r1)):=by
  by_cases hb:b1=b2
  . subst hb
    have hr:r1≠r2:=fun e=>hs FD;by_cases hn:if b1 then x1<x2 else x2<x1
    . rw[xpm a1 a2 c1 c2 hr hn] at hm
      have hbt:vo:=by
        by_cases z:vo
        . exact z
        . ext Dg z
      have hc:Im<RH:=by
        ext zmi hn
      rcases xmp (yf:=y2) hc hr hbt with z|⟨z,z2⟩
      . ext eD aa
      . show(fU,FV aa z2)
    . have hf:if b1 then x2<x1 else x1<x2:=by
        cases b1<;>simp at hn ⊢<;>omega
      rw[xq9 c1 c2 a1 a2 (Z1 hr) hf] at hm;have hbt:xP:=by
        by_cases z:xP
        . exact z
        . ext Dg z
      have hc:RH<Im:=by
        ext zmi hf
      rcases xmp (yf:=y1) hc (Z1 hr) hbt with z|⟨z,z2⟩
      . ext eD aa
      . ext fU RZ
  . refine .inl ?_
    have t1:=tri (a:=y2) (b:=r2) (c:=r1);show(ah,t2,tri (a:=y1) (b:=r1) (c:=r2),n1,xqd r2 r1);cases b1 with
    | true =>
      cases b2 with
      | true=>ext jb hb
      | false =>
        rw[xjl a1 a2 c1 c2 hx] at hm;by_cases z:x2<x1
        . rw[if_pos z] at hm
          have ht:btw r2 y1 r1\/btw r1 y2 r2:=by
            by_cases z1:vo
            . ext eD z1
            . ext zou
              . ext fU z2
              . ext Dg z2
          unfold acr;simp only[if_true,ZF,if_false];rcases ht with u|u
          . show(cW,xfi u)
          . show(cW,xfi u)
        . ext Dg z
    | false =>
      cases b2 with
      | false=>ext jb hb
      | true =>
        rw[xnr c1 c2 a1 a2 (Z1 hx)] at hm;by_cases z:x1<x2
        . rw[if_pos z] at hm
          have ht:btw r2 y1 r1\/btw r1 y2 r2:=by
            by_cases z1:vo
            . ext eD z1
            . ext zou
              . ext fU z2
              . ext Dg z2
          unfold acr;simp only[if_true,ZF,if_false];rcases ht with u|u
          . show(cW,xfi u)
          . show(cW,xfi u)
        . ext Dg z
#check Geo
namespace Drw
variable {S:Type}
#check Drw
namespace Kp
noncomputable def pc (n:Nat):Nat:=if h:n=0 then 0 else n % 2+pc (n / 2)
termination_by n
decreasing_by omega
section
variable {N S:Type} [DecidableEq N] [DecidableEq S]
structure Mt (room:qE) (so:lZ) (ho:nM):Prop where
 iff:∀ n s,DS↔(ae,ho s,n)
 rm:znP
theorem Mt.inj {room:qE}{so:lZ}{ho:nM} (m:Pf) {a b:N}{s:S} (ha:zbH) (hb:(ae,so b,s)):a=b:=by
 have x:=(m.iff a s).mp ha;show(b6,(m.iff b s).mp hb,x,(ZL.inj x).symm)
theorem xev {so:lZ}:∀{T:ze},T.Nodup->(∀ a∈T,∀ b∈T,∀ s,zbH->(ae,so b,s)->a=b)->(zaX).Nodup
 | [],_,_=>YD
 | a::T,nd,inj=>by
  rw[ZC] at nd;have ih:=xev kE fun x hx y hy=>inj x (Zl _ hx) y (Zl _ hy);rw[J6];cases e:so a with
  | none=>exact ih
  | some s =>
   refine ZC.mpr ⟨nX,ih⟩;show(ag,b,hb,eb,JM.mp z);rw[inj a ig b (Zl _ hb) s e eb] at nd;exact nd.1 hb
theorem xdi {so:lZ}:∀{T:ze},zmh->(zaX).length=T.length
 | [],_=>rfl
 | a::T,h=>by
  rw[J6];cases e:so a with
  | none =>
   show(zaE,h a ig)
  | some s =>
   show (s::zaX).length=_;rw[ZD,ZD,xdi Xa]
noncomputable def tog (room:qE) (T:ze) (s:S):Bool:=T.any fun n=>dA (s∈room n)
theorem hall {room:qE}{so:lZ}{ho:nM} (m:Pf) {ss:List S} (hr:V3) {T:ze} (nd:T.Nodup) (h:zmh):T.length<=ss.countP (tog room T):=by
 rw[List.countP_eq_length_filter,<- xdi h];show(XE,xev nd ziV,SB);show(ag,n,hn,e,JM.mp hs);ext zfh hn
structure Crowd (room:qE) (so:lZ) (name:N) (hs:ze):Prop where
 nd:(By).Nodup
 has:∀ h∈hs,(so h).isSome
 all:∀ c∈By,∀ s∈room c,∃ h∈hs,(ae,so h,s)
theorem Crowd.count {room:qE}{so:lZ}{ho:nM} (m:Pf) {name:N}{hs:ze} (c:Crowd room so name hs) {ss:List S} (nd:ss.Nodup) (hr:V3):ss.countP (tog room By)=hs.length:=by
 rw[List.countP_eq_length_filter];have ndh:=(ZC.mp c.nd).2;refine Nat.le_antisymm ?_ ?_
 .rw [<- xdi c.has];show(XE,Jt.filter _ nd,au s hs');show(ag,n,hn,e,Ya.mp (ZH.mp hs').2);show(ag,h,hh,e',c.all n hn s zqA);exact JM.mpr ⟨h,hh,e'⟩
 .rw [<- xdi c.has];show(XE,xev ndh ziV,au s hs');show(ag,n,hn,e,JM.mp hs');show(zfh,Zl _ hn)
noncomputable def upd1 {α β:Type} [Ap] (f:zdp) (a:α) (b:β):zdp:=ao (jq,z,a,some b,f z)
structure Hand (room:qE) (dom:N->Bool) (so:lZ) (ho:nM) (wait:S):Prop where
 iff:(zG,s≠wait,(DS↔(ae,ho s,n)))
 rm:znP
 no:∀ n,so n≠some wait
 dm:∀ n,(so n).isSome=dom n
theorem Mt.hand {room:qE}{so:lZ}{ho:nM} (m:Pf) {s:S} (h:AZ):zcb (fun n=>(so n).isSome) :=
 ⟨fun n s _=>m.iff n s,m.rm,fun n e=>(by show(bV,(m.iff n s).mp e,h)),pB⟩
theorem Hand.step {room:qE}{dom:N->Bool}{so:lZ}{ho:nM}{s s1:S}{a:N} (g:zcb dom) (ra:Ca) (e:(ae,so a,s1)):Hand room dom (upd1 so a s) (upd1 ho s a) s1:=by
 show(aw,ne,s1≠s,(ao,g.no a (z▸e)),⟨Rq,Rq,au n hx,du n⟩)
 .unfold upd1;by_cases h1:n=a
  .ext zpa
   .rw [aT h2,h2];simp
   .ext d8 h2;constructor
    .ext MX h2
    .intro z
     show(pq,(g.iff n x h2).mpr z,e);show(eY,(ZL.inj this).symm,hx)
  .ext d8 h1;by_cases h2:x=s
   .subst h2;ext ET bY
    .ext zoJ
    .ext MX h1
   .ext d8 h2;exact g.iff n x h2
 .ext V8
  .ext zkd
  .exact g.rm n x hx
 .ext V8
  .exact ne GY
  .rename_i h1
   have x1:=(g.iff n s1 ne).mp hx;rw[(g.iff a s1 ne).mp e] at x1;exact h1 (ZL.inj x1).symm
 .unfold upd1;split
  .rename_i h1
   rw[h1,<- g.dm a,e];rfl
  .exact g.dm n
theorem Hand.last {room:qE}{dom:N->Bool}{so:lZ}{ho:nM}{s:S}{a:N} (g:zcb dom) (ra:Ca) (e:B3 a):Mt room (upd1 so a s) (upd1 ho s a)/\∀ n,(upd1 so a s n).isSome=((eJ n a)||dom n):=by
 show(dX,⟨au n x,Rq⟩,du n)
 .unfold upd1;by_cases h1:n=a
  .ext zpa
   .rw [aT h2,h2];simp
   .ext d8 h2;constructor
    .ext MX h2
    .intro z
     show(zaE,(g.iff n x h2).mpr z)
  .ext d8 h1;by_cases h2:x=s
   .subst h2;ext ET bY
    .ext zoJ
    .ext MX h1
   .ext d8 h2;exact g.iff n x h2
 .ext V8
  .ext zkd
  .exact g.rm n x hx
 .unfold upd1;split
  .rename_i h1
   simp[h1]
  .rename_i h1
   rw[<- g.dm n];simp[h1]
#check _
inductive Rch {α:Type} (f:Ij):bA α α
 | refl (a:α):Rch f a a
 | step {a b c:α}:Kl->(ae,f b,c)->SE
theorem Rch.trans {α:Type}{f:Ij}{a b c:α} (h:Kl) (g:Rch f b c):SE:=by
 induction g with
 | refl=>exact h
 | step _ e ih=>exact .step ih e
theorem Rch.head {α:Type}{f:Ij}{a b:α} (h:Kl):a=b\/∃ d,(ae,f a,d)/\Rch f d b:=by
 induction h with
 | refl=>ext ww
 | step g e ih =>
  rcases ih with rfl|⟨d,e1,g1⟩
  .show(fU,cD e LG)
  .show(fU,⟨d,e1,.step g1 e⟩)
theorem Rch.lin {α:Type}{f:Ij}{a b c:α} (h:Kl) (g:SE):Rch f b c\/Rch f c b:=by
 induction h with
 | refl=>ext eD g
 | step h e ih =>
  rcases ih with z|z
  .rcases z.head with rfl|⟨d,e1,g1⟩
   .show(fU,.step (.refl _) e)
   .rw [e] at e1;cases e1;ext eD g1
  .show(fU,.step z e)
theorem Rch.det {α:Type}{f:Ij}{a b c:α} (h:Kl) (n1:f b=none) (g:SE) (n2:f c=none):b=c:=by
 rcases h.lin g with z|z
 .rcases z.head with e|⟨d,e1,_⟩
  .exact e
  .ext zp n1 e1
 .rcases z.head with e|⟨d,e1,_⟩
  .exact e.symm
  .ext zp n2 e1
inductive KS (N S:Type) where
 | ask (crowd:ze) (asked:nM) (i j:Nat)
 | hand (so:lZ) (ho:nM) (asked:nM) (s:S)
 | out (crowd:ze)
 | fin (so:lZ) (ho:nM)
section
variable {N S:Type} [DecidableEq N] [DecidableEq S]
noncomputable def kstep (room:qE) (so:lZ) (ho:nM):KS N S->(dB (KS N S))
 | TJ=>match crowd[i]? with
  | none=>some (.out crowd)
  | some a=>match uj[j]? with
   | none=>some (HV aY 0)
   | some s=>match iG with
    | some _=>some (HV i fW)
    | none=>match ho s with
     | none=>some zjR
     | some h=>some zkc
 | zco=>match iG with
  | none=>none
  | some a=>match so1 a with
   | none=>some (.fin zcJ zcK)
   | some l=>some zpI
 | .out _=>none
 | .fin _ _=>none
variable {room:N->List S}{so so1:N->Option S}{ho ho1 asked:S->Option N}{crowd:List N}{i j:Nat}{a h:N}{s l:S}
theorem k_end (e:crowd[i]?=none):(PB TJ)=some (.out crowd):=by
 simp only[kstep,e]
theorem k_next (e:xM) (e2:uj[j]?=none):S2 (HV aY 0):=by
 ext zbv
theorem k_old (e:xM) (e2:cO uj s) (e3:(ae,asked s,h)):S2 (HV i fW):=by
 simp only[kstep,e,e2,e3]
theorem k_free (e:xM) (e2:cO uj s) (e3:Hm) (e4:AZ):S2 zjR:=by
 simp only[kstep,e,e2,e3,e4]
theorem k_grow (e:xM) (e2:cO uj s) (e3:Hm) (e4:DL):S2 zkc:=by
 simp only[kstep,e,e2,e3,e4]
theorem k_hand (e:oZ) (e2:(ae,so1 a,l)):ae (PB zco) zpI:=by
 ext zbv
theorem k_fin (e:oZ) (e2:so1 a=none):ae (PB zco) (.fin zcJ zcK):=by
 ext zbv
#check _
#check Kp
namespace Geo
noncomputable def vr (v y r:Int):Prop:=UV
noncomputable def hz (b:Bool) (u x:Int):Prop:=(cK,b,u<=x,x<=u)
#check Geo
namespace S82
open PySem L2 XL
theorem hmm {j k A}(r:L2.Room true k A)(h:j<=k:=by decide):L2.Room true j A:=r.mono h
noncomputable def top (i:Nat):Stmt:=PySem.Challenge.pw_rimnotes_k82_whole_as_good_as_anew.main.body.getD i (.Pass zbz)
noncomputable abbrev s_a7:Stmt:=jw 19 0
noncomputable abbrev s_aq:Stmt:=jw 20 1
noncomputable abbrev s_ai:Stmt:=jw 20 2
noncomputable abbrev s_u:Stmt:=jw 20 3
noncomputable abbrev s_ah:Stmt:=jw 21 1
noncomputable abbrev s_ae:Stmt:=jw 21 2
noncomputable abbrev s_p:Stmt:=jw 21 3
noncomputable abbrev s_a6:Stmt:=top 22
noncomputable abbrev s_bb:Stmt:=top 24
noncomputable abbrev xe6:Stmt:=top 26
noncomputable abbrev xgr:Stmt:=top 27
noncomputable abbrev s_bg:Stmt:=top 29
noncomputable abbrev xe9:Stmt:=top 31
noncomputable abbrev s_az:Stmt:=top 32
noncomputable abbrev xd8:Stmt:=top 33
noncomputable abbrev s_an:Stmt:=top 34
noncomputable abbrev xdg:Stmt:=top 35
noncomputable abbrev xfh:Stmt:=top 36
noncomputable abbrev s_at:Stmt:=jw 38 0
noncomputable abbrev s_o:Stmt:=jw 38 1
noncomputable abbrev s_f:Stmt:=jw 38 2
noncomputable abbrev xf0:Stmt:=top 39
noncomputable abbrev xkx:Stmt:=top 40
noncomputable abbrev s_bj:Stmt:=top 41
noncomputable abbrev xgj:Stmt:=top 43
noncomputable abbrev s_aw:Stmt:=jw 46 0
noncomputable abbrev s_ac:Stmt:=jw 46 1
noncomputable abbrev s_aa:Stmt:=jw 46 2
noncomputable abbrev s_v:Stmt:=jw 46 3
noncomputable abbrev s_i:Stmt:=jw 46 4
noncomputable abbrev xg4:Stmt:=top 47
noncomputable abbrev xhw:Stmt:=top 49
noncomputable abbrev s_bc:Stmt:=top 50
noncomputable abbrev s_bd:Stmt:=qh 0
noncomputable abbrev s_g:Stmt:=qh 1
noncomputable abbrev s_bo:Stmt:=qh 2
noncomputable abbrev s_a0:Stmt:=qh 3
noncomputable abbrev s_a1:Stmt:=qh 4
noncomputable abbrev s_bk:Stmt:=qh 5
noncomputable abbrev s_a4:Stmt:=qh 6
noncomputable abbrev s_x:Stmt:=qh 7
noncomputable abbrev s_a2:Stmt:=qh 8
noncomputable abbrev s_aj:Stmt:=qh 9
noncomputable abbrev s_q:Stmt:=qh 10
noncomputable abbrev s_w:Stmt:=qh 11
noncomputable abbrev s_ax:Stmt:=top 53
noncomputable abbrev s_av:Stmt:=top 55
noncomputable abbrev s_bp:Stmt:=top 56
noncomputable abbrev s_au:Stmt:=jH 0
noncomputable abbrev s_b:Stmt:=jH 1
noncomputable abbrev s_ar:Stmt:=jH 2
noncomputable abbrev s_as:Stmt:=jH 3
noncomputable abbrev s_j:Stmt:=jH 4
noncomputable abbrev s_r:Stmt:=jH 5
noncomputable abbrev s_h:Stmt:=jH 6
noncomputable abbrev s_n:Stmt:=jH 7
noncomputable abbrev s_m:Stmt:=jH 8
noncomputable abbrev s_ab:Stmt:=jH 9
noncomputable abbrev s_s:Stmt:=jH 10
noncomputable abbrev s_l:Stmt:=jH 11
noncomputable abbrev s_y:Stmt:=jH 12
noncomputable abbrev s_c:Stmt:=jH 15
noncomputable abbrev s_k:Stmt:=jH 16
noncomputable abbrev s_e:Stmt:=jH 17
noncomputable abbrev s_d:Stmt:=jH 18
noncomputable abbrev s_ag:Stmt:=top 63
noncomputable abbrev s_af:Stmt:=top 65
noncomputable abbrev s_bi:Stmt:=top 66
noncomputable abbrev s_be:Stmt:=top 67
noncomputable abbrev s_bh:Stmt:=top 68
noncomputable abbrev s_ay:Stmt:=top 69
noncomputable abbrev s_bm:Stmt:=top 70
noncomputable abbrev s_z:Stmt:=top 71
noncomputable abbrev s_ak:Stmt:=top 72
noncomputable abbrev s_a5:Stmt:=top 73
noncomputable abbrev s_bl:Stmt:=top 74
noncomputable abbrev s_a8:Stmt:=top 75
noncomputable abbrev s_a3:Stmt:=top 76
noncomputable abbrev s_bn:Stmt:=top 77
noncomputable abbrev s_ba:Stmt:=top 78
noncomputable abbrev s_bf:Stmt:=top 79
noncomputable abbrev s_a9:Stmt:=top 80
noncomputable abbrev xka:Stmt:=top 81
set_option genInjectivity false in
set_option genSizeOf false in
set_option genInjectivity false in
set_option genSizeOf false in
structure Adr where
 f_a7:Addr
 d_a7:FuncData
 f_aq:Addr
 d_aq:FuncData
 f_ai:Addr
 d_ai:FuncData
 f_u:Addr
 d_u:FuncData
 f_ah:Addr
 d_ah:FuncData
 f_ae:Addr
 d_ae:FuncData
 f_p:Addr
 d_p:FuncData
 f_a6:Addr
 d_a6:FuncData
 f_bb:Addr
 d_bb:FuncData
 f_meeting:Addr
 d_meeting:FuncData
 f_total:Addr
 d_total:FuncData
 f_bg:Addr
 d_bg:FuncData
 f_upright:Addr
 d_upright:FuncData
 f_az:Addr
 d_az:FuncData
 f_exchangeable:Addr
 d_exchangeable:FuncData
 f_an:Addr
 d_an:FuncData
 f_exchanged:Addr
 d_exchanged:FuncData
 f_uncrossed:Addr
 d_uncrossed:FuncData
 f_at:Addr
 d_at:FuncData
 f_o:Addr
 d_o:FuncData
 f_f:Addr
 d_f:FuncData
 f_crowds:Addr
 d_crowds:FuncData
 f_fits:Addr
 d_fits:FuncData
 f_bj:Addr
 d_bj:FuncData
 f_kept:Addr
 d_kept:FuncData
 f_aw:Addr
 d_aw:FuncData
 f_ac:Addr
 d_ac:FuncData
 f_aa:Addr
 d_aa:FuncData
 f_v:Addr
 d_v:FuncData
 f_i:Addr
 d_i:FuncData
 f_least:Addr
 d_least:FuncData
 f_answer:Addr
 d_answer:FuncData
 f_bc:Addr
 d_bc:FuncData
 f_bd:Addr
 d_bd:FuncData
 f_g:Addr
 d_g:FuncData
 T_g:Addr
 f_bo:Addr
 d_bo:FuncData
 f_a0:Addr
 d_a0:FuncData
 f_a1:Addr
 d_a1:FuncData
 f_bk:Addr
 d_bk:FuncData
 f_a4:Addr
 d_a4:FuncData
 f_x:Addr
 d_x:FuncData
 f_a2:Addr
 d_a2:FuncData
 f_aj:Addr
 d_aj:FuncData
 f_q:Addr
 d_q:FuncData
 f_w:Addr
 d_w:FuncData
 f_ax:Addr
 d_ax:FuncData
 f_av:Addr
 d_av:FuncData
 f_bp:Addr
 d_bp:FuncData
 f_au:Addr
 d_au:FuncData
 f_b:Addr
 d_b:FuncData
 T_b:Addr
 f_ar:Addr
 d_ar:FuncData
 f_as:Addr
 d_as:FuncData
 f_j:Addr
 d_j:FuncData
 f_r:Addr
 d_r:FuncData
 f_h:Addr
 d_h:FuncData
 f_n:Addr
 d_n:FuncData
 f_m:Addr
 d_m:FuncData
 f_ab:Addr
 d_ab:FuncData
 f_s:Addr
 d_s:FuncData
 f_l:Addr
 d_l:FuncData
 f_y:Addr
 d_y:FuncData
 f_c:Addr
 d_c:FuncData
 f_k:Addr
 d_k:FuncData
 f_e:Addr
 d_e:FuncData
 f_d:Addr
 d_d:FuncData
 f_ag:Addr
 d_ag:FuncData
 f_af:Addr
 d_af:FuncData
 f_bi:Addr
 d_bi:FuncData
 f_be:Addr
 d_be:FuncData
 f_bh:Addr
 d_bh:FuncData
 f_ay:Addr
 d_ay:FuncData
 f_bm:Addr
 d_bm:FuncData
 f_z:Addr
 d_z:FuncData
 f_ak:Addr
 d_ak:FuncData
 f_a5:Addr
 d_a5:FuncData
 f_bl:Addr
 d_bl:FuncData
 f_a8:Addr
 d_a8:FuncData
 f_a3:Addr
 d_a3:FuncData
 f_bn:Addr
 d_bn:FuncData
 f_ba:Addr
 d_ba:FuncData
 f_bf:Addr
 d_bf:FuncData
 f_a9:Addr
 d_a9:FuncData
 f_law:Addr
 d_law:FuncData
 C_b8:Addr
 C_ap:Addr
 C_ad:Addr
 C_al:Addr
 C_t:Addr
 C_ao:Addr
 C_a:Addr
 D_am:Addr
structure Txt (w:World) (K:Zd) (mg:fO) (t:Adr):Prop where
 g_ap:bG "LeftSide" t.C_ap
 g_ad:bG "RightSide" t.C_ad
 g_al:bG "Seating" t.C_al
 g_t:bG "Prices" t.C_t
 g_ao:bG "Hand" t.C_ao
 g_a:bG "Picture" t.C_a
 F_a7:Fun K "__init__" "Side.__init__" s_a7 t.f_a7 t.d_a7
 b_a7:aO t.d_a7 N5
 F_aq:Fun K "rim" "LeftSide.rim" s_aq t.f_aq t.d_aq
 b_aq:mU t.d_aq
 F_ai:Fun K "way" "LeftSide.way" s_ai t.f_ai t.d_ai
 b_ai:mU t.d_ai
 F_u:Fun K "across" "LeftSide.across" s_u t.f_u t.d_u
 b_u:aO t.d_u xJ
 F_ah:Fun K "rim" "RightSide.rim" s_ah t.f_ah t.d_ah
 b_ah:mU t.d_ah
 F_ae:Fun K "way" "RightSide.way" s_ae t.f_ae t.d_ae
 b_ae:mU t.d_ae
 F_p:Fun K "across" "RightSide.across" s_p t.f_p t.d_p
 b_p:aO t.d_p xJ
 g_a6:bG "side_of" t.f_a6
 F_a6:Fun K "side_of" "side_of" s_a6 t.f_a6 t.d_a6
 b_a6:aO t.d_a6 ["word", "width"]
 g_bb:bG "cells_of" t.f_bb
 F_bb:Fun K "cells_of" "cells_of" s_bb t.f_bb t.d_bb
 b_bb:aO t.d_bb UO
 g_meeting:bG "meeting" t.f_meeting
 F_meeting:Fun K "meeting" "meeting" xe6 t.f_meeting t.d_meeting
 b_meeting:aO t.d_meeting CS
 g_total:bG "total_meets" t.f_total
 F_total:Fun K "total" "total" xgr t.f_total t.d_total
 b_total:aO t.d_total iu
 g_bg:bG "is_giving" t.f_bg
 F_bg:Fun K "is_giving" "is_giving" s_bg t.f_bg t.d_bg
 b_bg:aO t.d_bg U5
 g_upright:bG "upright" t.f_upright
 F_upright:Fun K "upright" "upright" xe9 t.f_upright t.d_upright
 b_upright:aO t.d_upright iu
 g_az:bG "upright_of" t.f_az
 F_az:Fun K "upright_of" "upright_of" s_az t.f_az t.d_az
 b_az:aO t.d_az zdB
 g_exchangeable:bG "exchangeable" t.f_exchangeable
 F_exchangeable:Fun K "exchangeable" "exchangeable" xd8 t.f_exchangeable t.d_exchangeable
 b_exchangeable:aO t.d_exchangeable iu
 g_an:bG "may_exchange" t.f_an
 F_an:Fun K "may_exchange" "may_exchange" s_an t.f_an t.d_an
 b_an:aO t.d_an CS
 g_exchanged:bG "exchanged" t.f_exchanged
 F_exchanged:Fun K "exchanged" "exchanged" xdg t.f_exchanged t.d_exchanged
 b_exchanged:aO t.d_exchanged Vl
 g_uncrossed:bG "uncrossed" t.f_uncrossed
 F_uncrossed:Fun K "uncrossed" "uncrossed" xfh t.f_uncrossed t.d_uncrossed
 b_uncrossed:aO t.d_uncrossed iu
 F_at:Fun K "__init__" "Seating.__init__" s_at t.f_at t.d_at
 b_at:mU t.d_at
 F_o:Fun K "hand_on" "Seating.hand_on" s_o t.f_o t.d_o
 b_o:aO t.d_o (iZ "asked_by" "free_seat")
 F_f:Fun K "crowd_with" "Seating.crowd_with" s_f t.f_f t.d_f
 b_f:aO t.d_f (iZ "name" "rooms")
 g_crowds:bG "crowds" t.f_crowds
 F_crowds:Fun K "crowds" "crowds" xf0 t.f_crowds t.d_crowds
 b_crowds:aO t.d_crowds pj
 g_fits:bG "fits" t.f_fits
 F_fits:Fun K "fits" "fits" xkx t.f_fits t.d_fits
 b_fits:aO t.d_fits pj
 g_bj:bG "left_out_keeping" t.f_bj
 F_bj:Fun K "left_out" "left_out" s_bj t.f_bj t.d_bj
 b_bj:aO t.d_bj nG
 g_kept:bG "kept_keeping" t.f_kept
 F_kept:Fun K "kept" "kept" xgj t.f_kept t.d_kept
 b_kept:aO t.d_kept nG
 F_aw:Fun K "__init__" "Prices.__init__" s_aw t.f_aw t.d_aw
 b_aw:aO t.d_aw uO
 F_ac:Fun K "let_in" "Prices.let_in" s_ac t.f_ac t.d_ac
 b_ac:aO t.d_ac jV
 F_aa:Fun K "ask_on" "Prices.ask_on" s_aa t.f_aa t.d_aa
 b_aa:znE t.d_aa
 F_v:Fun K "nearest" "Prices.nearest" s_v t.f_v t.d_v
 b_v:znE t.d_v
 F_i:Fun K "shift_prices" "Prices.shift_prices" s_i t.f_i t.d_i
 b_i:aO t.d_i UD
 g_least:bG "least" t.f_least
 F_least:Fun K "least" "least" xg4 t.f_least t.d_least
 b_least:aO t.d_least pj
 g_answer:bG "answer" t.f_answer
 F_answer:Fun K "answer" "answer" xhw t.f_answer t.d_answer
 b_answer:aO t.d_answer nG
 g_bc:bG "is_answer" t.f_bc
 F_bc:Fun K "is_answer" "is_answer" s_bc t.f_bc t.d_bc
 b_bc:aO t.d_bc iu
 F_bd:Fun K "__init__" "Hand.__init__" s_bd t.f_bd t.d_bd
 b_bd:aO t.d_bd uO
 F_g:FunD K "come" "Hand.come" s_g t.T_g t.f_g t.d_g
 b_g:aO t.d_g ["self", "name", "x", "y", "sides", "low", "high"]
 F_bo:Fun K "go" "Hand.go" s_bo t.f_bo t.d_bo
 b_bo:aO t.d_bo jV
 F_a0:Fun K "shift" "Hand.shift" s_a0 t.f_a0 t.d_a0
 b_a0:aO t.d_a0 qr
 F_a1:Fun K "unbar" "Hand.unbar" s_a1 t.f_a1 t.d_a1
 b_a1:aO t.d_a1 oU
 F_bk:Fun K "bar" "Hand.bar" s_bk t.f_bk t.d_bk
 b_bk:aO t.d_bk oU
 F_a4:Fun K "kept" "Hand.kept" s_a4 t.f_a4 t.d_a4
 b_a4:mU t.d_a4
 F_x:Fun K "left_out" "Hand.left_out" s_x t.f_x t.d_x
 b_x:mU t.d_x
 F_a2:Fun K "pairs" "Hand.pairs" s_a2 t.f_a2 t.d_a2
 b_a2:mU t.d_a2
 F_aj:Fun K "total" "Hand.total" s_aj t.f_aj t.d_aj
 b_aj:mU t.d_aj
 F_q:Fun K "picture_now" "Hand.picture_now" s_q t.f_q t.d_q
 b_q:mU t.d_q
 F_w:Fun K "settled" "Hand.settled" s_w t.f_w t.d_w
 b_w:mU t.d_w
 g_ax:bG "moved_names" t.f_ax
 F_ax:Fun K "moved_names" "moved_names" s_ax t.f_ax t.d_ax
 b_ax:aO t.d_ax ["before", "now"]
 g_av:bG "is_whole" t.f_av
 F_av:Fun K "is_whole" "is_whole" s_av t.f_av t.d_av
 b_av:aO t.d_av M0
 g_bp:bG "is_name" t.f_bp
 F_bp:Fun K "is_name" "is_name" s_bp t.f_bp t.d_bp
 b_bp:aO t.d_bp ["thing"]
 F_au:Fun K "__init__" "Picture.__init__" s_au t.f_au t.d_au
 b_au:aO t.d_au (iZ "width" "height")
 F_b:FunD K "put" "Picture.put" s_b t.T_b t.f_b t.d_b
 b_b:aO t.d_b ["self", "name", "x", "y", "sides", "low", "high"]
 F_ar:Fun K "take" "Picture.take" s_ar t.f_ar t.d_ar
 b_ar:aO t.d_ar jV
 F_as:Fun K "move" "Picture.move" s_as t.f_as t.d_as
 b_as:aO t.d_as qr
 F_j:Fun K "open_seat" "Picture.open_seat" s_j t.f_j t.d_j
 b_j:aO t.d_j oU
 F_r:Fun K "shut_seat" "Picture.shut_seat" s_r t.f_r t.d_r
 b_r:aO t.d_r oU
 F_h:Fun K "points" "Picture.points" s_h t.f_h t.d_h
 b_h:mU t.d_h
 F_n:Fun K "seats" "Picture.seats" s_n t.f_n t.d_n
 b_n:mU t.d_n
 F_m:Fun K "place_of" "Picture.place_of" s_m t.f_m t.d_m
 b_m:aO t.d_m jV
 F_ab:Fun K "may" "Picture.may" s_ab t.f_ab t.d_ab
 b_ab:aO t.d_ab CO
 F_s:Fun K "length" "Picture.length" s_s t.f_s t.d_s
 b_s:aO t.d_s CO
 F_l:Fun K "seats_for" "Picture.seats_for" s_l t.f_l t.d_l
 b_l:aO t.d_l jV
 F_y:Fun K "copied" "Picture.copied" s_y t.f_y t.d_y
 b_y:mU t.d_y
 F_c:Fun K "check_name" "Picture.check_name" s_c t.f_c t.d_c
 b_c:aO t.d_c jV
 F_k:Fun K "check_cell" "Picture.check_cell" s_k t.f_k t.d_k
 b_k:aO t.d_k (iZ "x" "y")
 F_e:Fun K "check_lines" "Picture.check_lines" s_e t.f_e t.d_e
 b_e:aO t.d_e qr
 F_d:Fun K "check_seat" "Picture.check_seat" s_d t.f_d t.d_d
 b_d:aO t.d_d oU
 g_ag:bG "picture_with" t.f_ag
 F_ag:Fun K "picture_with" "picture_with" s_ag t.f_ag t.d_ag
 b_ag:aO t.d_ag UA
 g_af:bG "_law_cell" t.f_af
 F_af:Fun K "_law_cell" "_law_cell" s_af t.f_af t.d_af
 b_af:aO t.d_af ["_law_script", "_law_k"]
 g_bi:bG "_law_mix" t.f_bi
 F_bi:Fun K "_law_mix" "_law_mix" s_bi t.f_bi t.d_bi
 b_bi:aO t.d_bi ["_law_cell_here", "_law_k"]
 g_be:bG "_law_whole" t.f_be
 F_be:Fun K "_law_whole" "_law_whole" s_be t.f_be t.d_be
 b_be:aO t.d_be ["_law_found"]
 g_bh:bG "_law_names" t.f_bh
 F_bh:Fun K "_law_names" "_law_names" s_bh t.f_bh t.d_bh
 b_bh:aO t.d_bh ["_law_cell_here", "_law_many"]
 g_ay:bG "_law_places" t.f_ay
 F_ay:Fun K "_law_places" "_law_places" s_ay t.f_ay t.d_ay
 b_ay:aO t.d_ay Ue
 g_bm:bG "_law_size" t.f_bm
 F_bm:Fun K "_law_size" "_law_size" s_bm t.f_bm t.d_bm
 b_bm:aO t.d_bm ["_law_cell_here"]
 g_z:bG "_law_picture" t.f_z
 F_z:Fun K "_law_picture" "_law_picture" s_z t.f_z t.d_z
 b_z:aO t.d_z Ai
 g_ak:bG "_law_lengths" t.f_ak
 F_ak:Fun K "_law_lengths" "_law_lengths" s_ak t.f_ak t.d_ak
 b_ak:aO t.d_ak ["_law_picture_here"]
 g_a5:bG "_law_giving" t.f_a5
 F_a5:Fun K "_law_giving" "_law_giving" s_a5 t.f_a5 t.d_a5
 b_a5:aO t.d_a5 Ub
 g_bl:bG "_law_open" t.f_bl
 F_bl:Fun K "_law_open" "_law_open" s_bl t.f_bl t.d_bl
 b_bl:aO t.d_bl ["_law_picture_here", "_law_cell_here"]
 g_a8:bG "_law_free" t.f_a8
 F_a8:Fun K "_law_free" "_law_free" s_a8 t.f_a8 t.d_a8
 b_a8:aO t.d_a8 ["_law_picture_here", "_law_name"]
 g_a3:bG "_law_deed" t.f_a3
 F_a3:Fun K "_law_deed" "_law_deed" s_a3 t.f_a3 t.d_a3
 b_a3:aO t.d_a3 Ud
 g_bn:bG "_law_done" t.f_bn
 F_bn:Fun K "_law_done" "_law_done" s_bn t.f_bn t.d_bn
 b_bn:aO t.d_bn ["_law_hand", "_law_deed_here"]
 g_ba:bG "_law_steps" t.f_ba
 F_ba:Fun K "_law_steps" "_law_steps" s_ba t.f_ba t.d_ba
 b_ba:aO t.d_ba ["_law_lengths_here", "_law_pairs"]
 g_bf:bG "_law_apart" t.f_bf
 F_bf:Fun K "_law_apart" "_law_apart" s_bf t.f_bf t.d_bf
 b_bf:aO t.d_bf T7
 g_a9:bG "_law_good" t.f_a9
 F_a9:Fun K "_law_good" "_law_good" s_a9 t.f_a9 t.d_a9
 b_a9:aO t.d_a9 ["_law_hand"]
 g_law:bG "law" t.f_law
 F_law:Fun K "law" "law" xka t.f_law t.d_law
 c_ap:Cls K t.C_ap
 k_ap:Mk K t.C_ap t.f_a7
 m_aq:Meth K t.C_ap "rim" t.f_aq
 m_ai:Meth K t.C_ap "way" t.f_ai
 m_u:Meth K t.C_ap "across" t.f_u
 c_ad:Cls K t.C_ad
 k_ad:Mk K t.C_ad t.f_a7
 m_ah:Meth K t.C_ad "rim" t.f_ah
 m_ae:Meth K t.C_ad "way" t.f_ae
 m_p:Meth K t.C_ad "across" t.f_p
 c_al:Cls K t.C_al
 k_al:Mk K t.C_al t.f_at
 m_o:Meth K t.C_al "hand_on" t.f_o
 m_f:Meth K t.C_al "crowd_with" t.f_f
 c_t:Cls K t.C_t
 k_t:Mk K t.C_t t.f_aw
 m_ac:Meth K t.C_t "let_in" t.f_ac
 m_aa:Meth K t.C_t "ask_on" t.f_aa
 m_v:Meth K t.C_t "nearest" t.f_v
 m_i:Meth K t.C_t "shift_prices" t.f_i
 c_ao:Cls K t.C_ao
 k_ao:Mk K t.C_ao t.f_bd
 m_g:qG "come" t.f_g
 m_bo:qG "go" t.f_bo
 m_a0:qG "shift" t.f_a0
 m_a1:qG "unbar" t.f_a1
 m_bk:qG "bar" t.f_bk
 m_a4:qG "kept" t.f_a4
 m_x:qG "left_out" t.f_x
 m_a2:qG "pairs" t.f_a2
 m_aj:qG "total" t.f_aj
 m_q:qG "picture_now" t.f_q
 m_w:qG "settled" t.f_w
 c_a:Cls K t.C_a
 k_a:Mk K t.C_a t.f_au
 m_b:jX "put" t.f_b
 m_ar:jX "take" t.f_ar
 m_as:jX "move" t.f_as
 m_j:jX "open_seat" t.f_j
 m_r:jX "shut_seat" t.f_r
 m_h:jX "points" t.f_h
 m_n:jX "seats" t.f_n
 m_m:jX "place_of" t.f_m
 m_ab:jX "may" t.f_ab
 m_s:jX "length" t.f_s
 m_l:jX "seats_for" t.f_l
 m_y:jX "copied" t.f_y
 m_c:jX "check_name" t.f_c
 m_k:jX "check_cell" t.f_k
 m_e:jX "check_lines" t.f_e
 m_d:jX "check_seat" t.f_d
 cg:Ut
 ct:T5
 n_by:lu t.C_ad "width"
 n_bq:lu t.C_a "placed"
 n_br:lu t.C_a "height"
 n_bs:lu t.C_a "width"
 n_bv:lu t.C_a "opened"
 n_bu:lu t.C_al "holder_of"
 n_bw:lu t.C_al "seat_of"
 n_bz:LT "lengths"
 n_b2:LT "own"
 n_b3:LT "rent"
 n_bx:LT "seating"
 n_b0:LT "picture"
 n_bt:lu t.C_ao "picture"
 n_b1:lu t.C_ao "given"
 n_b6:lu t.C_ap "width"
 n_abs:kf "abs"
 n_all:kf "all"
 n_bool:kf "bool"
 n_dict:kf "dict"
 n_enumerate:kf "enumerate"
 n_int:kf "int"
 n_isinstance:kf "isinstance"
 n_len:kf "len"
 n_list:kf "list"
 n_min:kf "min"
 n_range:kf "range"
 n_set:kf "set"
 n_sorted:kf "sorted"
 n_str:kf "str"
 n_sum:kf "sum"
 n_tuple:kf "tuple"
 v_b7:WC "MOST_ROWS" 16
 v_b4:WC "MOST_COLUMNS" 30
 v_b5:WC "MOST_POINTS" 12
 g_am:bG "MIRRORED_SIDES" t.D_am
 D_am:xna w K t.D_am [LN "left" "right",LN "right" "left",LN "both" "both"]
@[elab_as_elim] theorem xxq {α:Type}{P:KP}:Gi 1 (∀ a0,P [a0])
 | [a0],_,h=>h a0
@[elab_as_elim] theorem xxe {α:Type}{P:KP}:Gi 2 (∀ a0 a1,P [a0,a1])
 | [a0,a1],_,h=>h a0 a1
@[elab_as_elim] theorem xwz {α:Type}{P:KP}:Gi 3 (∀ a0 a1 a2,P RV)
 | RV,_,h=>h a0 a1 a2
@[elab_as_elim] theorem xw8 {α:Type}{P:KP}:Gi 4 (∀ a0 a1 a2 a3,P O4)
 | O4,_,h=>h a0 a1 a2 a3
@[elab_as_elim] theorem xrr {α:Type}{P:KP}:Gi 7 (∀ a0 a1 a2 a3 a4 a5 a6,P [a0,a1,a2,a3,a4,a5,a6])
 | [a0,a1,a2,a3,a4,a5,a6],_,h=>h a0 a1 a2 a3 a4 a5 a6
noncomputable def gI (K:Zd) (n:Str) (a:Addr):Prop:=(ae,QL K mainGlobals n,dJ)
noncomputable def gN (K:Zd) (n:Str):Prop:=(ae,QL K mainGlobals n,none)
noncomputable def fN (K:Zd) (C:Addr) (n:Str):Prop:=lu C n
noncomputable def fI (K:Zd) (C:Addr) (n:Str) (a:Addr):Prop:=xE C n dJ
noncomputable def fB (K:Zd) (C:Addr) (n:Str) (b:String):Prop:=xE C n (xK b)
theorem bi_1 {K:Zd}{x q:Str}{st:Stmt}{f:Addr}{fd:FuncData}{p0:Str} (F:Fun K x q st f fd) (h:∀(kV doc pm:Value) (an:iB) (cdv ct:Value) (a0:Value),MQ (Jv x q pU lv kq .none kV doc pm an cdv ct) [a0] [p0]:=by intros; rfl):aO fd [p0]:=F.binds fun a b c d e f us hl=>xxq us hl (h a b c d e f)
theorem bi_2 {K:Zd}{x q:Str}{st:Stmt}{f:Addr}{fd:FuncData}{p0 p1:Str} (F:Fun K x q st f fd) (h:∀(kV doc pm:Value) (an:iB) (cdv ct:Value) (a0 a1:Value),MQ (Jv x q pU lv kq .none kV doc pm an cdv ct) [a0,a1] [p0,p1]:=by intros; rfl):aO fd [p0,p1]:=F.binds fun a b c d e f us hl=>xxe us hl (h a b c d e f)
theorem bi_3 {K:Zd}{x q:Str}{st:Stmt}{f:Addr}{fd:FuncData}{p0 p1 p2:Str} (F:Fun K x q st f fd) (h:∀(kV doc pm:Value) (an:iB) (cdv ct:Value) (a0 a1 a2:Value),MQ (Jv x q pU lv kq .none kV doc pm an cdv ct) RV [p0,p1,p2]:=by intros; rfl):aO fd [p0,p1,p2]:=F.binds fun a b c d e f us hl=>xwz us hl (h a b c d e f)
theorem bi_4 {K:Zd}{x q:Str}{st:Stmt}{f:Addr}{fd:FuncData}{p0 p1 p2 p3:Str} (F:Fun K x q st f fd) (h:∀(kV doc pm:Value) (an:iB) (cdv ct:Value) (a0 a1 a2 a3:Value),MQ (Jv x q pU lv kq .none kV doc pm an cdv ct) O4 [p0,p1,p2,p3]:=by intros; rfl):aO fd [p0,p1,p2,p3]:=F.binds fun a b c d e f us hl=>xw8 us hl (h a b c d e f)
theorem txt_mk {w:World}{K:Zd}{h:Heap}{mg:fO} (X:K.In h) (G:h.Ns mainGlobals mg) {C_b8 C_ap C_ad C_al C_t C_ao C_a f_a7 f_aq f_ai f_u f_ah f_ae f_p f_a6 f_bb f_meeting f_total f_bg f_upright f_az f_exchangeable f_an f_exchanged f_uncrossed f_at f_o f_f f_crowds f_fits f_bj f_kept f_aw f_ac f_aa f_v f_i f_least f_answer f_bc f_bd f_g T_g f_bo f_a0 f_a1 f_bk f_a4 f_x f_a2 f_aj f_q f_w f_ax f_av f_bp f_au f_b T_b f_ar f_as f_j f_r f_h f_n f_m f_ab f_s f_l f_y f_c f_k f_e f_d f_ag f_af f_bi f_be f_bh f_ay f_bm f_z f_ak f_a5 f_bl f_a8 f_a3 f_bn f_ba f_bf f_a9 f_law:Addr}{d_a7 d_aq d_ai d_u d_ah d_ae d_p d_a6 d_bb d_meeting d_total d_bg d_upright d_az d_exchangeable d_an d_exchanged d_uncrossed d_at d_o d_f d_crowds d_fits d_bj d_kept d_aw d_ac d_aa d_v d_i d_least d_answer d_bc d_bd d_bo d_a0 d_a1 d_bk d_a4 d_x d_a2 d_aj d_q d_w d_ax d_av d_bp d_au d_ar d_as d_j d_r d_h d_n d_m d_ab d_s d_l d_y d_c d_k d_e d_d d_ag d_af d_bi d_be d_bh d_ay d_bm d_z d_ak d_a5 d_bl d_a8 d_a3 d_bn d_ba d_bf d_a9 d_law:FuncData}{oc_g kv_g dc_g pm_g cd_g ct_g:Value}{od_g an_g:iB}{sl_g:uM}{oc_b kv_b dc_b pm_b cd_b ct_b:Value}{od_b an_b:iB}{sl_b:uM}{tk0_g:Tok}{tk1_g:Tok}{tk0_b:Tok}{tk1_b:Tok}{toc_g:Value}{tod_g:iB}{tn_g:Nat}{tsl_g:uM}{toc_b:Value}{tod_b:iB}{tn_b:Nat}{tsl_b:uM}{tkc_b7:Tok}{tkc_b4:Tok}{tkc_b5:Tok}{D_am:Addr}{ta0_am tb0_am:Tok}{ta1_am tb1_am:Tok}{ta2_am tb2_am:Tok}{ep_am:Nat}
    (g_b8:gI K "Side" C_b8)
    (g_ap:gI K "LeftSide" C_ap)
    (g_ad:gI K "RightSide" C_ad)
    (g_al:gI K "Seating" C_al)
    (g_t:gI K "Prices" C_t)
    (g_ao:gI K "Hand" C_ao)
    (g_a:gI K "Picture" C_a)
    (a_a7:fI K C_b8 "__init__" f_a7)
    (F_a7:Fun K "__init__" "Side.__init__" s_a7 f_a7 d_a7)
    (i_a7:bH f_a7)
    (a_aq:fI K C_ap "rim" f_aq)
    (F_aq:Fun K "rim" "LeftSide.rim" s_aq f_aq d_aq)
    (i_aq:bH f_aq)
    (a_ai:fI K C_ap "way" f_ai)
    (F_ai:Fun K "way" "LeftSide.way" s_ai f_ai d_ai)
    (i_ai:bH f_ai)
    (a_u:fI K C_ap "across" f_u)
    (F_u:Fun K "across" "LeftSide.across" s_u f_u d_u)
    (i_u:bH f_u)
    (a_ah:fI K C_ad "rim" f_ah)
    (F_ah:Fun K "rim" "RightSide.rim" s_ah f_ah d_ah)
    (i_ah:bH f_ah)
    (a_ae:fI K C_ad "way" f_ae)
    (F_ae:Fun K "way" "RightSide.way" s_ae f_ae d_ae)
    (i_ae:bH f_ae)
    (a_p:fI K C_ad "across" f_p)
    (F_p:Fun K "across" "RightSide.across" s_p f_p d_p)
    (i_p:bH f_p)
    (a_a6:gI K "side_of" f_a6)
    (F_a6:Fun K "side_of" "side_of" s_a6 f_a6 d_a6)
    (a_bb:gI K "cells_of" f_bb)
    (F_bb:Fun K "cells_of" "cells_of" s_bb f_bb d_bb)
    (a_meeting:gI K "meeting" f_meeting)
    (F_meeting:Fun K "meeting" "meeting" xe6 f_meeting d_meeting)
    (a_total:gI K "total_meets" f_total)
    (F_total:Fun K "total" "total" xgr f_total d_total)
    (a_bg:gI K "is_giving" f_bg)
    (F_bg:Fun K "is_giving" "is_giving" s_bg f_bg d_bg)
    (a_upright:gI K "upright" f_upright)
    (F_upright:Fun K "upright" "upright" xe9 f_upright d_upright)
    (a_az:gI K "upright_of" f_az)
    (F_az:Fun K "upright_of" "upright_of" s_az f_az d_az)
    (a_exchangeable:gI K "exchangeable" f_exchangeable)
    (F_exchangeable:Fun K "exchangeable" "exchangeable" xd8 f_exchangeable d_exchangeable)
    (a_an:gI K "may_exchange" f_an)
    (F_an:Fun K "may_exchange" "may_exchange" s_an f_an d_an)
    (a_exchanged:gI K "exchanged" f_exchanged)
    (F_exchanged:Fun K "exchanged" "exchanged" xdg f_exchanged d_exchanged)
    (a_uncrossed:gI K "uncrossed" f_uncrossed)
    (F_uncrossed:Fun K "uncrossed" "uncrossed" xfh f_uncrossed d_uncrossed)
    (a_at:fI K C_al "__init__" f_at)
    (F_at:Fun K "__init__" "Seating.__init__" s_at f_at d_at)
    (i_at:bH f_at)
    (a_o:fI K C_al "hand_on" f_o)
    (F_o:Fun K "hand_on" "Seating.hand_on" s_o f_o d_o)
    (i_o:bH f_o)
    (a_f:fI K C_al "crowd_with" f_f)
    (F_f:Fun K "crowd_with" "Seating.crowd_with" s_f f_f d_f)
    (i_f:bH f_f)
    (a_crowds:gI K "crowds" f_crowds)
    (F_crowds:Fun K "crowds" "crowds" xf0 f_crowds d_crowds)
    (a_fits:gI K "fits" f_fits)
    (F_fits:Fun K "fits" "fits" xkx f_fits d_fits)
    (a_bj:gI K "left_out_keeping" f_bj)
    (F_bj:Fun K "left_out" "left_out" s_bj f_bj d_bj)
    (a_kept:gI K "kept_keeping" f_kept)
    (F_kept:Fun K "kept" "kept" xgj f_kept d_kept)
    (a_aw:fI K C_t "__init__" f_aw)
    (F_aw:Fun K "__init__" "Prices.__init__" s_aw f_aw d_aw)
    (i_aw:bH f_aw)
    (a_ac:fI K C_t "let_in" f_ac)
    (F_ac:Fun K "let_in" "Prices.let_in" s_ac f_ac d_ac)
    (i_ac:bH f_ac)
    (a_aa:fI K C_t "ask_on" f_aa)
    (F_aa:Fun K "ask_on" "Prices.ask_on" s_aa f_aa d_aa)
    (i_aa:bH f_aa)
    (a_v:fI K C_t "nearest" f_v)
    (F_v:Fun K "nearest" "Prices.nearest" s_v f_v d_v)
    (i_v:bH f_v)
    (a_i:fI K C_t "shift_prices" f_i)
    (F_i:Fun K "shift_prices" "Prices.shift_prices" s_i f_i d_i)
    (i_i:bH f_i)
    (a_least:gI K "least" f_least)
    (F_least:Fun K "least" "least" xg4 f_least d_least)
    (a_answer:gI K "answer" f_answer)
    (F_answer:Fun K "answer" "answer" xhw f_answer d_answer)
    (a_bc:gI K "is_answer" f_bc)
    (F_bc:Fun K "is_answer" "is_answer" s_bc f_bc d_bc)
    (a_bd:pT "__init__" f_bd)
    (F_bd:Fun K "__init__" "Hand.__init__" s_bd f_bd d_bd)
    (i_bd:bH f_bd)
    (a_g:pT "come" f_g)
    (l_g:(Ac,f_g,oc_g,od_g,.func (Jv "come" "Hand.come" (xb9 s_g) (xbx s_g) (xm s_g) (.ref T_g) kv_g dc_g pm_g an_g cd_g ct_g),sl_g))
    (c_g:YC K cd_g "Hand.come"=true)
    (k_g:lM f_g)
    (i_g:bH f_g)
    (t_g:(Ac,T_g,toc_g,tod_g,zpW tk0_g tk1_g tn_g,tsl_g))
    (a_bo:pT "go" f_bo)
    (F_bo:Fun K "go" "Hand.go" s_bo f_bo d_bo)
    (i_bo:bH f_bo)
    (a_a0:pT "shift" f_a0)
    (F_a0:Fun K "shift" "Hand.shift" s_a0 f_a0 d_a0)
    (i_a0:bH f_a0)
    (a_a1:pT "unbar" f_a1)
    (F_a1:Fun K "unbar" "Hand.unbar" s_a1 f_a1 d_a1)
    (i_a1:bH f_a1)
    (a_bk:pT "bar" f_bk)
    (F_bk:Fun K "bar" "Hand.bar" s_bk f_bk d_bk)
    (i_bk:bH f_bk)
    (a_a4:pT "kept" f_a4)
    (F_a4:Fun K "kept" "Hand.kept" s_a4 f_a4 d_a4)
    (i_a4:bH f_a4)
    (a_x:pT "left_out" f_x)
    (F_x:Fun K "left_out" "Hand.left_out" s_x f_x d_x)
    (i_x:bH f_x)
    (a_a2:pT "pairs" f_a2)
    (F_a2:Fun K "pairs" "Hand.pairs" s_a2 f_a2 d_a2)
    (i_a2:bH f_a2)
    (a_aj:pT "total" f_aj)
    (F_aj:Fun K "total" "Hand.total" s_aj f_aj d_aj)
    (i_aj:bH f_aj)
    (a_q:pT "picture_now" f_q)
    (F_q:Fun K "picture_now" "Hand.picture_now" s_q f_q d_q)
    (i_q:bH f_q)
    (a_w:pT "settled" f_w)
    (F_w:Fun K "settled" "Hand.settled" s_w f_w d_w)
    (i_w:bH f_w)
    (a_ax:gI K "moved_names" f_ax)
    (F_ax:Fun K "moved_names" "moved_names" s_ax f_ax d_ax)
    (a_av:gI K "is_whole" f_av)
    (F_av:Fun K "is_whole" "is_whole" s_av f_av d_av)
    (a_bp:gI K "is_name" f_bp)
    (F_bp:Fun K "is_name" "is_name" s_bp f_bp d_bp)
    (a_au:jC "__init__" f_au)
    (F_au:Fun K "__init__" "Picture.__init__" s_au f_au d_au)
    (i_au:bH f_au)
    (a_b:jC "put" f_b)
    (l_b:(Ac,f_b,oc_b,od_b,.func (Jv "put" "Picture.put" (xb9 s_b) (xbx s_b) (xm s_b) (.ref T_b) kv_b dc_b pm_b an_b cd_b ct_b),sl_b))
    (c_b:YC K cd_b "Picture.put"=true)
    (k_b:lM f_b)
    (i_b:bH f_b)
    (t_b:(Ac,T_b,toc_b,tod_b,zpW tk0_b tk1_b tn_b,tsl_b))
    (a_ar:jC "take" f_ar)
    (F_ar:Fun K "take" "Picture.take" s_ar f_ar d_ar)
    (i_ar:bH f_ar)
    (a_as:jC "move" f_as)
    (F_as:Fun K "move" "Picture.move" s_as f_as d_as)
    (i_as:bH f_as)
    (a_j:jC "open_seat" f_j)
    (F_j:Fun K "open_seat" "Picture.open_seat" s_j f_j d_j)
    (i_j:bH f_j)
    (a_r:jC "shut_seat" f_r)
    (F_r:Fun K "shut_seat" "Picture.shut_seat" s_r f_r d_r)
    (i_r:bH f_r)
    (a_h:jC "points" f_h)
    (F_h:Fun K "points" "Picture.points" s_h f_h d_h)
    (i_h:bH f_h)
    (a_n:jC "seats" f_n)
    (F_n:Fun K "seats" "Picture.seats" s_n f_n d_n)
    (i_n:bH f_n)
    (a_m:jC "place_of" f_m)
    (F_m:Fun K "place_of" "Picture.place_of" s_m f_m d_m)
    (i_m:bH f_m)
    (a_ab:jC "may" f_ab)
    (F_ab:Fun K "may" "Picture.may" s_ab f_ab d_ab)
    (i_ab:bH f_ab)
    (a_s:jC "length" f_s)
    (F_s:Fun K "length" "Picture.length" s_s f_s d_s)
    (i_s:bH f_s)
    (a_l:jC "seats_for" f_l)
    (F_l:Fun K "seats_for" "Picture.seats_for" s_l f_l d_l)
    (i_l:bH f_l)
    (a_y:jC "copied" f_y)
    (F_y:Fun K "copied" "Picture.copied" s_y f_y d_y)
    (i_y:bH f_y)
    (a_c:jC "check_name" f_c)
    (F_c:Fun K "check_name" "Picture.check_name" s_c f_c d_c)
    (i_c:bH f_c)
    (a_k:jC "check_cell" f_k)
    (F_k:Fun K "check_cell" "Picture.check_cell" s_k f_k d_k)
    (i_k:bH f_k)
    (a_e:jC "check_lines" f_e)
    (F_e:Fun K "check_lines" "Picture.check_lines" s_e f_e d_e)
    (i_e:bH f_e)
    (a_d:jC "check_seat" f_d)
    (F_d:Fun K "check_seat" "Picture.check_seat" s_d f_d d_d)
    (i_d:bH f_d)
    (a_ag:gI K "picture_with" f_ag)
    (F_ag:Fun K "picture_with" "picture_with" s_ag f_ag d_ag)
    (a_af:gI K "_law_cell" f_af)
    (F_af:Fun K "_law_cell" "_law_cell" s_af f_af d_af)
    (a_bi:gI K "_law_mix" f_bi)
    (F_bi:Fun K "_law_mix" "_law_mix" s_bi f_bi d_bi)
    (a_be:gI K "_law_whole" f_be)
    (F_be:Fun K "_law_whole" "_law_whole" s_be f_be d_be)
    (a_bh:gI K "_law_names" f_bh)
    (F_bh:Fun K "_law_names" "_law_names" s_bh f_bh d_bh)
    (a_ay:gI K "_law_places" f_ay)
    (F_ay:Fun K "_law_places" "_law_places" s_ay f_ay d_ay)
    (a_bm:gI K "_law_size" f_bm)
    (F_bm:Fun K "_law_size" "_law_size" s_bm f_bm d_bm)
    (a_z:gI K "_law_picture" f_z)
    (F_z:Fun K "_law_picture" "_law_picture" s_z f_z d_z)
    (a_ak:gI K "_law_lengths" f_ak)
    (F_ak:Fun K "_law_lengths" "_law_lengths" s_ak f_ak d_ak)
    (a_a5:gI K "_law_giving" f_a5)
    (F_a5:Fun K "_law_giving" "_law_giving" s_a5 f_a5 d_a5)
    (a_bl:gI K "_law_open" f_bl)
    (F_bl:Fun K "_law_open" "_law_open" s_bl f_bl d_bl)
    (a_a8:gI K "_law_free" f_a8)
    (F_a8:Fun K "_law_free" "_law_free" s_a8 f_a8 d_a8)
    (a_a3:gI K "_law_deed" f_a3)
    (F_a3:Fun K "_law_deed" "_law_deed" s_a3 f_a3 d_a3)
    (a_bn:gI K "_law_done" f_bn)
    (F_bn:Fun K "_law_done" "_law_done" s_bn f_bn d_bn)
    (a_ba:gI K "_law_steps" f_ba)
    (F_ba:Fun K "_law_steps" "_law_steps" s_ba f_ba d_ba)
    (a_bf:gI K "_law_apart" f_bf)
    (F_bf:Fun K "_law_apart" "_law_apart" s_bf f_bf d_bf)
    (a_a9:gI K "_law_good" f_a9)
    (F_a9:Fun K "_law_good" "_law_good" s_a9 f_a9 d_a9)
    (a_law:gI K "law" f_law)
    (F_law:Fun K "law" "law" xka f_law d_law)
    (kc_ap:lM C_ap)
    (pg_ap:AO C_ap)
    (hd_ap:vM C_ap)
    (po_ap:yr C_ap)
    (sa_ap:CH C_ap)
    (mk_ap:yq C_ap)
    (a_LeftSide_init:fI K C_ap "__init__" f_a7)
    (kc_ad:lM C_ad)
    (pg_ad:AO C_ad)
    (hd_ad:vM C_ad)
    (po_ad:yr C_ad)
    (sa_ad:CH C_ad)
    (mk_ad:yq C_ad)
    (a_RightSide_init:fI K C_ad "__init__" f_a7)
    (kc_al:lM C_al)
    (pg_al:AO C_al)
    (hd_al:vM C_al)
    (po_al:yr C_al)
    (sa_al:CH C_al)
    (mk_al:yq C_al)
    (kc_t:lM C_t)
    (pg_t:AO C_t)
    (hd_t:vM C_t)
    (po_t:yr C_t)
    (sa_t:CH C_t)
    (mk_t:yq C_t)
    (kc_ao:lM C_ao)
    (pg_ao:AO C_ao)
    (hd_ao:vM C_ao)
    (po_ao:yr C_ao)
    (sa_ao:CH C_ao)
    (mk_ao:yq C_ao)
    (kc_a:lM C_a)
    (pg_a:AO C_a)
    (hd_a:vM C_a)
    (po_a:yr C_a)
    (sa_a:CH C_a)
    (mk_a:yq C_a)
    (cg:Ut)
    (ct:T5)
    (n_by:fN K C_ad "width")
    (n_bq:fN K C_a "placed")
    (n_br:fN K C_a "height")
    (n_bs:fN K C_a "width")
    (n_bv:fN K C_a "opened")
    (n_bu:fN K C_al "holder_of")
    (n_bw:fN K C_al "seat_of")
    (n_bz:fN K C_t "lengths")
    (n_b2:fN K C_t "own")
    (n_b3:fN K C_t "rent")
    (n_bx:fN K C_t "seating")
    (n_b0:fN K C_t "picture")
    (n_bt:fN K C_ao "picture")
    (n_b1:fN K C_ao "given")
    (n_b6:fN K C_ap "width")
    (n_abs:gN K "abs")
    (n_all:gN K "all")
    (n_bool:gN K "bool")
    (n_dict:gN K "dict")
    (n_enumerate:gN K "enumerate")
    (n_int:gN K "int")
    (n_isinstance:gN K "isinstance")
    (n_len:gN K "len")
    (n_list:gN K "list")
    (n_min:gN K "min")
    (n_range:gN K "range")
    (n_set:gN K "set")
    (n_sorted:gN K "sorted")
    (n_str:gN K "str")
    (n_sum:gN K "sum")
    (n_tuple:gN K "tuple")
    (v_b7:VS "MOST_ROWS" 16 tkc_b7)
    (v_b4:VS "MOST_COLUMNS" 30 tkc_b4)
    (v_b5:VS "MOST_POINTS" 12 tkc_b5)
    (g_am:gI K "MIRRORED_SIDES" D_am)
    (l_am:(Ac,D_am,zcH,none,.dict #[⟨hashStr w "left",.str "left" ta0_am,.str "right" tb0_am⟩,⟨hashStr w "right",.str "right" ta1_am,.str "left" tb1_am⟩,⟨hashStr w "both",.str "both" ta2_am,.str "both" tb2_am⟩] ep_am,#[]))
    (ns_am:AE D_am):∃ t,aF :=
  ⟨⟨f_a7,_,f_aq,_,f_ai,_,f_u,_,f_ah,_,f_ae,_,f_p,_,f_a6,_,f_bb,_,f_meeting,_,f_total,_,f_bg,_,f_upright,_,f_az,_,f_exchangeable,_,f_an,_,f_exchanged,_,f_uncrossed,_,f_at,_,f_o,_,f_f,_,f_crowds,_,f_fits,_,f_bj,_,f_kept,_,f_aw,_,f_ac,_,f_aa,_,f_v,_,f_i,_,f_least,_,f_answer,_,f_bc,_,f_bd,_,f_g,_,T_g,f_bo,_,f_a0,_,f_a1,_,f_bk,_,f_a4,_,f_x,_,f_a2,_,f_aj,_,f_q,_,f_w,_,f_ax,_,f_av,_,f_bp,_,f_au,_,f_b,_,T_b,f_ar,_,f_as,_,f_j,_,f_r,_,f_h,_,f_n,_,f_m,_,f_ab,_,f_s,_,f_l,_,f_y,_,f_c,_,f_k,_,f_e,_,f_d,_,f_ag,_,f_af,_,f_bi,_,f_be,_,f_bh,_,f_ay,_,f_bm,_,f_z,_,f_ak,_,f_a5,_,f_bl,_,f_a8,_,f_a3,_,f_bn,_,f_ba,_,f_bf,_,f_a9,_,f_law,_,C_b8,C_ap,C_ad,C_al,C_t,C_ao,C_a,D_am⟩,⟨bE g_ap,bE g_ad,bE g_al,bE g_t,bE g_ao,bE g_a,F_a7,bi_2 F_a7,F_aq,bi_1 F_aq,F_ai,bi_1 F_ai,F_u,bi_2 F_u,F_ah,bi_1 F_ah,F_ae,bi_1 F_ae,F_p,bi_2 F_p,bE a_a6,F_a6,bi_2 F_a6,bE a_bb,F_bb,bi_4 F_bb,bE a_meeting,F_meeting,bi_3 F_meeting,bE a_total,F_total,bi_2 F_total,bE a_bg,F_bg,bi_3 F_bg,bE a_upright,F_upright,bi_2 F_upright,bE a_az,F_az,bi_2 F_az,bE a_exchangeable,F_exchangeable,bi_2 F_exchangeable,bE a_an,F_an,bi_3 F_an,bE a_exchanged,F_exchanged,bi_3 F_exchanged,bE a_uncrossed,F_uncrossed,bi_2 F_uncrossed,F_at,bi_1 F_at,F_o,bi_3 F_o,F_f,bi_3 F_f,bE a_crowds,F_crowds,bi_2 F_crowds,bE a_fits,F_fits,bi_2 F_fits,bE a_bj,F_bj,bi_1 F_bj,bE a_kept,F_kept,bi_1 F_kept,F_aw,bi_2 F_aw,F_ac,bi_2 F_ac,F_aa,bi_3 F_aa,F_v,bi_3 F_v,F_i,bi_4 F_i,bE a_least,F_least,bi_2 F_least,bE a_answer,F_answer,bi_1 F_answer,bE a_bc,F_bc,bi_2 F_bc,F_bd,bi_2 F_bd,zlL,(zlL).binds t_g rfl 7 rfl zfB,F_bo,bi_2 F_bo,F_a0,bi_4 F_a0,F_a1,bi_3 F_a1,F_bk,bi_3 F_bk,F_a4,bi_1 F_a4,F_x,bi_1 F_x,F_a2,bi_1 F_a2,F_aj,bi_1 F_aj,F_q,bi_1 F_q,F_w,bi_1 F_w,bE a_ax,F_ax,bi_2 F_ax,bE a_av,F_av,bi_3 F_av,bE a_bp,F_bp,bi_1 F_bp,F_au,bi_3 F_au,zlK,(zlK).binds t_b rfl 7 rfl zfB,F_ar,bi_2 F_ar,F_as,bi_4 F_as,F_j,bi_3 F_j,F_r,bi_3 F_r,F_h,bi_1 F_h,F_n,bi_1 F_n,F_m,bi_2 F_m,F_ab,bi_4 F_ab,F_s,bi_4 F_s,F_l,bi_2 F_l,F_y,bi_1 F_y,F_c,bi_2 F_c,F_k,bi_3 F_k,F_e,bi_4 F_e,F_d,bi_3 F_d,bE a_ag,F_ag,bi_4 F_ag,bE a_af,F_af,bi_2 F_af,bE a_bi,F_bi,bi_2 F_bi,bE a_be,F_be,bi_1 F_be,bE a_bh,F_bh,bi_2 F_bh,bE a_ay,F_ay,bi_3 F_ay,bE a_bm,F_bm,bi_1 F_bm,bE a_z,F_z,bi_1 F_z,bE a_ak,F_ak,bi_1 F_ak,bE a_a5,F_a5,bi_3 F_a5,bE a_bl,F_bl,bi_2 F_bl,bE a_a8,F_a8,bi_2 F_a8,bE a_a3,F_a3,bi_3 F_a3,bE a_bn,F_bn,bi_2 F_bn,bE a_ba,F_ba,bi_2 F_ba,bE a_bf,F_bf,bi_3 F_bf,bE a_a9,F_a9,bi_1 F_a9,bE a_law,F_law,⟨pg_ap,hd_ap,po_ap,sa_ap⟩,⟨mk_ap,a_LeftSide_init,i_a7,kc_ap⟩,⟨a_aq,i_aq,F_aq.kp⟩,⟨a_ai,i_ai,F_ai.kp⟩,⟨a_u,i_u,F_u.kp⟩,⟨pg_ad,hd_ad,po_ad,sa_ad⟩,⟨mk_ad,a_RightSide_init,i_a7,kc_ad⟩,⟨a_ah,i_ah,F_ah.kp⟩,⟨a_ae,i_ae,F_ae.kp⟩,⟨a_p,i_p,F_p.kp⟩,⟨pg_al,hd_al,po_al,sa_al⟩,⟨mk_al,a_at,i_at,kc_al⟩,⟨a_o,i_o,F_o.kp⟩,⟨a_f,i_f,F_f.kp⟩,⟨pg_t,hd_t,po_t,sa_t⟩,⟨mk_t,a_aw,i_aw,kc_t⟩,⟨a_ac,i_ac,F_ac.kp⟩,⟨a_aa,i_aa,F_aa.kp⟩,⟨a_v,i_v,F_v.kp⟩,⟨a_i,i_i,F_i.kp⟩,⟨pg_ao,hd_ao,po_ao,sa_ao⟩,⟨mk_ao,a_bd,i_bd,kc_ao⟩,⟨a_g,i_g,k_g⟩,⟨a_bo,i_bo,F_bo.kp⟩,⟨a_a0,i_a0,F_a0.kp⟩,⟨a_a1,i_a1,F_a1.kp⟩,⟨a_bk,i_bk,F_bk.kp⟩,⟨a_a4,i_a4,F_a4.kp⟩,⟨a_x,i_x,F_x.kp⟩,⟨a_a2,i_a2,F_a2.kp⟩,⟨a_aj,i_aj,F_aj.kp⟩,⟨a_q,i_q,F_q.kp⟩,⟨a_w,i_w,F_w.kp⟩,⟨pg_a,hd_a,po_a,sa_a⟩,⟨mk_a,a_au,i_au,kc_a⟩,⟨a_b,i_b,k_b⟩,⟨a_ar,i_ar,F_ar.kp⟩,⟨a_as,i_as,F_as.kp⟩,⟨a_j,i_j,F_j.kp⟩,⟨a_r,i_r,F_r.kp⟩,⟨a_h,i_h,F_h.kp⟩,⟨a_n,i_n,F_n.kp⟩,⟨a_m,i_m,F_m.kp⟩,⟨a_ab,i_ab,F_ab.kp⟩,⟨a_s,i_s,F_s.kp⟩,⟨a_l,i_l,F_l.kp⟩,⟨a_y,i_y,F_y.kp⟩,⟨a_c,i_c,F_c.kp⟩,⟨a_k,i_k,F_k.kp⟩,⟨a_e,i_e,F_e.kp⟩,⟨a_d,i_d,F_d.kp⟩,cg,ct,n_by,n_bq,n_br,n_bs,n_bv,n_bu,n_bw,n_bz,n_b2,n_b3,n_bx,n_b0,n_bt,n_b1,n_b6,kG n_abs,kG n_all,kG n_bool,kG n_dict,kG n_enumerate,kG n_int,kG n_isinstance,kG n_len,kG n_list,kG n_min,kG n_range,kG n_set,kG n_sorted,kG n_str,kG n_sum,kG n_tuple,(gD,bE v_b7),(gD,bE v_b4),(gD,bE v_b5),bE g_am,⟨ns_am,_,_,l_am,zdN (zdN (zdN (.nil))),az⟩⟩⟩
theorem mkS {N P:ap}{sc:Scope} (a:sc.kind=.function:=by rfl) (b:zqx:=by rfl) (c:zqw:=by rfl) (d:N.Nodup:=by ext KD) (e:zpO:=by rfl) (f:∀ x∈P,(MD Gb):=by ext KD) (g:zjj:=by ext KD):xt N P sc:=⟨a,b,c,d,e,f,g⟩
theorem sc_a7:aZ N5 N5 s_a7:=mkS
theorem sc_aq:nU s_aq:=mkS
theorem sc_ai:nU s_ai:=mkS
theorem sc_u:aZ xJ xJ s_u:=mkS
theorem sc_ah:nU s_ah:=mkS
theorem sc_ae:nU s_ae:=mkS
theorem sc_p:aZ xJ xJ s_p:=mkS
theorem sc_a6:aZ ["word", "width"] ["word", "width"] s_a6:=mkS
theorem sc_bb:aZ ["picture", "name", "side", "row", "x", "y", "toward", "down", "upright", "level"] UO s_bb:=mkS
theorem xca:aZ ["picture", "one", "other", "name", "side", "row", "theirs", "cell"] CS xe6:=mkS
theorem xqm:aZ iu iu xgr:=mkS
theorem sc_bg:aZ Mj U5 s_bg:=mkS
theorem xm2:aZ iu iu xe9:=mkS
theorem sc_az:aZ ["picture", "pair", "name", "side", "row", "x", "y"] zdB s_az:=mkS
theorem xcl:aZ (zau "number" "one" "other" "cell") iu xd8:=mkS
theorem sc_an:aZ ["picture", "one", "other", "name", "side", "row", "other_name", "other_side", "other_row"] CS s_an:=mkS
theorem xey:aZ Ul Vl xdg:=mkS
theorem xb0:aZ ["picture", "pairs", "now", "steps", "found", "name", "other", "cell"] iu xfh:=mkS
theorem sc_at:nU s_at:=mkS
theorem sc_o:aZ ["self", "asked_by", "free_seat", "seat", "name", "left_behind"] (iZ "asked_by" "free_seat") s_o:=mkS
theorem sc_f:aZ ["self", "name", "rooms", "crowd", "asked_by", "number", "asker", "seat"] (iZ "name" "rooms") s_f:=mkS
theorem xdp:aZ ["picture", "names", "rooms", "seating", "found", "name", "crowd"] pj xf0:=mkS
theorem xmm:aZ ["picture", "names", "found"] pj xkx:=mkS
theorem sc_bj:aZ pj nG s_bj:=mkS
theorem xmd:aZ (Bg "out") nG xgj:=mkS
theorem sc_aw:aZ uO uO s_aw:=mkS
theorem sc_ac:aZ zgB jV s_ac:=mkS
theorem sc_aa:zpZ zfH s_aa:=mkS
theorem sc_v:zpZ ["self", "askers", "asked_by", "found", "asker", "seat", "length", "gap"] s_v:=mkS
theorem sc_i:aZ zfH UD s_i:=mkS
theorem xfw:aZ zfz pj xg4:=mkS
theorem xdm:aZ (zau "own" "rent" "apart" "steps") nG xhw:=mkS
theorem sc_bc:aZ (zau "names" "shortest" "own" "rent") iu s_bc:=mkS
theorem sc_bd:aZ uO uO s_bd:=mkS
theorem sc_g:aZ ["self", "name", "x", "y", "sides", "low", "high"] ["self", "name", "x", "y", "sides", "low", "high"] s_g:=mkS
theorem sc_bo:LQ s_bo:=mkS
theorem sc_a0:aZ qr qr s_a0:=mkS
theorem sc_a1:LP s_a1:=mkS
theorem sc_bk:LP s_bk:=mkS
theorem sc_a4:nU s_a4:=mkS
theorem sc_x:nU s_x:=mkS
theorem sc_a2:nU s_a2:=mkS
theorem sc_aj:nU s_aj:=mkS
theorem sc_q:nU s_q:=mkS
theorem sc_w:aZ zqd iD s_w:=mkS
theorem sc_ax:aZ Vk ["before", "now"] s_ax:=mkS
theorem sc_av:aZ M0 M0 s_av:=mkS
theorem sc_bp:aZ ["thing"] ["thing"] s_bp:=mkS
theorem sc_au:aZ zow (iZ "width" "height") s_au:=mkS
theorem sc_b:aZ ["self", "name", "x", "y", "sides", "low", "high", "highest"] ["self", "name", "x", "y", "sides", "low", "high"] s_b:=mkS
theorem sc_ar:LQ s_ar:=mkS
theorem sc_as:aZ qr qr s_as:=mkS
theorem sc_j:LP s_j:=mkS
theorem sc_r:LP s_r:=mkS
theorem sc_h:nU s_h:=mkS
theorem sc_n:nU s_n:=mkS
theorem sc_m:LQ s_m:=mkS
theorem sc_ab:aZ ["self", "name", "side", "row", "x", "y", "sides", "low", "high"] CO s_ab:=mkS
theorem sc_s:aZ ["self", "name", "side", "row", "x", "y"] CO s_s:=mkS
theorem sc_l:LQ s_l:=mkS
theorem sc_y:nU s_y:=mkS
theorem sc_c:LQ s_c:=mkS
theorem sc_k:aZ (iZ "x" "y") (iZ "x" "y") s_k:=mkS
theorem sc_e:aZ zgI qr s_e:=mkS
theorem sc_d:LP s_d:=mkS
theorem sc_ag:aZ ["width", "height", "points", "seats", "picture", "name", "x", "y", "sides", "low", "high", "side", "row"] UA s_ag:=mkS
theorem sc_af:aZ ["_law_script", "_law_k"] ["_law_script", "_law_k"] s_af:=mkS
theorem sc_bi:aZ ["_law_cell_here", "_law_k", "_law_number"] ["_law_cell_here", "_law_k"] s_bi:=mkS
theorem sc_be:aZ ["_law_found"] ["_law_found"] s_be:=mkS
theorem sc_bh:aZ zfn ["_law_cell_here", "_law_many"] s_bh:=mkS
theorem sc_ay:aZ ["_law_cell_here", "_law_size_here", "_law_many", "_law_left", "_law_found", "_law_k"] Ue s_ay:=mkS
theorem sc_bm:aZ ["_law_cell_here"] ["_law_cell_here"] s_bm:=mkS
theorem sc_z:aZ ["_law_script", "_law_width", "_law_height", "_law_most", "_law_many", "_law_names_here", "_law_xs", "_law_ys", "_law_picture_here", "_law_k", "_law_number", "_law_low", "_law_high", "_law_bar", "_law_row", "_law_side", "_law_place", "_law_is_open"] Ai s_z:=mkS
theorem sc_ak:aZ ["_law_picture_here", "_law_found", "_law_name", "_law_x", "_law_y", "_law_sides", "_law_low", "_law_high", "_law_side", "_law_row", "_law_across"] ["_law_picture_here"] s_ak:=mkS
theorem sc_a5:aZ TU Ub s_a5:=mkS
theorem sc_bl:aZ zeC ["_law_picture_here", "_law_cell_here"] s_bl:=mkS
theorem sc_a8:aZ ["_law_picture_here", "_law_name", "_law_columns", "_law_rows", "_law_one", "_law_x", "_law_y", "_law_sides", "_law_low", "_law_high"] ["_law_picture_here", "_law_name"] s_a8:=mkS
theorem sc_a3:aZ ["_law_picture_here", "_law_cell_here", "_law_most", "_law_names_here", "_law_number", "_law_name", "_law_columns", "_law_rows", "_law_low", "_law_high", "_law_sides", "_law_x"] Ud s_a3:=mkS
theorem sc_bn:aZ ["_law_hand", "_law_deed_here"] ["_law_hand", "_law_deed_here"] s_bn:=mkS
theorem sc_ba:aZ ["_law_lengths_here", "_law_pairs"] ["_law_lengths_here", "_law_pairs"] s_ba:=mkS
theorem sc_bf:aZ ["_law_picture_here", "_law_lengths_here", "_law_pairs", "_law_k", "_law_j", "_law_one", "_law_other"] T7 s_bf:=mkS
theorem sc_a9:aZ ["_law_hand", "_law_picture_here", "_law_lengths_here", "_law_names_here", "_law_pairs", "_law_steps_here", "_law_anew", "_law_gone"] ["_law_hand"] s_a9:=mkS
theorem xgd:aZ zep Ai xka:=mkS
#check S82
namespace S82
open PySem L2 XL PyProof.Rows
theorem xce {K:Zd}{v:Value}:(ae,QX K v v,true):=aT aj
theorem xw {H H':Hp}{p:Addr}{o:HO} (s:bF) (hp:H' p=none):gX (L2.upd H' p o):=fun b u z=>by
 have z':=s b u z;show(cE,xi z' hp,z')
theorem su_e {H H':Hp}{p:Addr}{o:HO} (hp:rF) (e:L2.upd H p o=H'):bF:=e▸(bM hp)
theorem ug_e {H H':Hp}{p:Addr}{o:HO} (e:L2.upd H p o=H'):gR p o:=e▸xk
theorem xb2 {n:Nat} (h:n<=1000):ut n:=Jy h az
theorem ne_f {H:Hp}{a b:Addr}{o u:HO} (h:KJ) (h':iY) (d:o≠u:=by exact dF):a≠b:=xdb h h' d
theorem leS0:cU 0:=az
theorem leS1:1<=sizeLine:=az
theorem leS2:cU 2:=az
theorem leS3:cU 3:=az
theorem leS4:cU 4:=az
theorem leS5:cU 5:=az
theorem leS7:cU 7:=az
theorem xrq {H:Hp}{x dx:Addr}{a b c:HO} (hx:bo x) (hd:bo dx):gX (upd (upd (eQ dx a) x b) x c):=fun y o e=>by
 rw[om hx,om hx,om hd];exact e
noncomputable def xau (b:Bool):Str:=vt "left" "right"
noncomputable def xeu (t:Adr) (H:Hp) (p:Addr) (b:Bool) (w:Int):Prop:=∃ dx,aR p (lG (vt t.C_ap t.C_ad) [RT w])
inductive xwl (K:Zd) (vs:af) (H:Hp) (Q:VK) (_:XK):Prop
 | mk (p C dx:Addr) (n:Int) (e_:vs=(m7 wx n)) (r_:(aP,aR p (lG C []),Lj,xe1 K C "width",Q .non (eQ p (lG C [RT n]))))
inductive sp1 (v:V) (vs:af) (H:Hp) (Q:VK) (_:XK):Prop
 | mk (p:V) (e_:vs=[p]) (r_:Q v H)
inductive xxd (vs:af) (H:Hp) (Q:VK) (_:XK):Prop
 | mk (p:V) (x:V) (e_:vs=[p,x]) (r_:Q x H)
inductive xx6 (t:Adr) (vs:af) (H:Hp) (Q:VK) (_:XK):Prop
 | mk (p:Addr) (n:Int) (e_:vs=[.ref p]) (r_:xeu t H p false n/\(mw (n+1)))
inductive xxo (t:Adr) (vs:af) (H:Hp) (Q:VK) (_:XK):Prop
 | mk (p:Addr) (n x:Int) (e_:vs=(m7 wx x)) (r_:xeu t H p false n/\(mw (n+1-x)))
inductive xrc (t:Adr) (vs:af) (H:Hp) (Q:VK) (_:XK):Prop
 | mk (b:Bool) (n:Int) (e_:vs=(m7 rG n)) (r_:∀ p H',(vN,rF,xeu t H' p b n,bF,p))
section
variable {P:Program}{w:World}{K:Zd}{mg:Str->Option Value}{base:Heap}{t:Adr}
theorem ok_a7 (T:aF):FnOk true P w K mg base aD 1 t.f_a7 t.d_a7 N5 (xwl K):=by
 refine T.F_a7.okn (k:=0) sc_a7 (aJ h) (fun cdv A outer s H vs Q E hr h=>?_)
 .obtain ⟨p,C,dx,n,rfl,_⟩:=h;rfl
 .obtain ⟨p,C,dx,n,rfl,h⟩:=h;show(jv,DW cF);ext j4 hp c na q h;exact⟨126,p,C,dx,[],rfl,hp,c,na,(kK 0),q⟩
theorem ok_aq (T:aF):FnOk true P w K mg base aD 1 t.f_aq t.d_aq iD (sp1 (.int 0)):=by
 refine T.F_aq.okn (k:=0) sc_aq (aJ h) (fun cdv A outer s H vs Q E hr h=>?_)
 .ext Df p
 .ext DG p;show(mF,xo);exact h
theorem ok_ai (T:aF):FnOk true P w K mg base aD 1 t.f_ai t.d_ai iD (sp1 (.int (-1))):=by
 refine T.F_ai.okn (k:=0) sc_ai (aJ h) (fun cdv A outer s H vs Q E hr h=>?_)
 .ext Df p
 .ext DG p;show(mF,xr8 xpx (xo));show(rR,1,h)
theorem ok_u (T:aF):FnOk true P w K mg base aD 1 t.f_u t.d_u xJ (xxd):=by
 refine T.F_u.okn (k:=0) sc_u (aJ h) (fun cdv A outer s H vs Q E hr h=>?_)
 .ext wX p x
 .ext xH p x;show(jv,tt 1);exact h
theorem ok_ae (T:aF):FnOk true P w K mg base aD 1 t.f_ae t.d_ae iD (sp1 (.int 1)):=by
 refine T.F_ae.okn (k:=0) sc_ae (aJ h) (fun cdv A outer s H vs Q E hr h=>?_)
 .ext Df p
 .ext DG p;show(mF,xo);exact h
theorem ok_ah (T:aF):FnOk true P w K mg base aD 1 t.f_ah t.d_ah iD (xx6 t):=by
 refine T.F_ah.okn (k:=0) sc_ah (aJ h) (fun cdv A outer s H vs Q E hr h=>?_)
 .ext wX p n
 .ext xH p n;show(znx,AF,⟨p,t.C_ad,dx,_,_,rfl,zas hp q⟩)
theorem ok_p (T:aF):FnOk true P w K mg base aD 1 t.f_p t.d_p xJ (xxo t):=by
 refine T.F_p.okn (k:=0) sc_p (aJ h) (fun cdv A outer s H vs Q E hr h=>?_)
 .ext OB p n x
 .obtain ⟨p,n,x,rfl,h⟩:=h;show(znx,je xd6 AF 1,⟨p,t.C_ad,dx,_,_,rfl,zas hp q⟩)
theorem ok_a6 (T:aF):FnOk true P w K mg base aD 3 t.f_a6 t.d_a6 ["word", "width"] (xrc t):=by
 refine T.F_a6.okn (k:=2) sc_a6 (aJ h) (fun cdv A outer s H vs Q E hr h=>?_)
 .ext wX b n
 .ext xH b n;refine⟨_,xh (xao (xbf zhD) (xh (jI (xae xb5 aM (xa6) dO) (cC (xd7 T.k_ap (ok_a7 T) aA rfl T.g_ap T.b_a7 .nil xq fD)))
   (kR (xae xb5 aM (xa6) dO) (cC (xd7 T.k_ad (ok_a7 T) aA rfl T.g_ad T.b_a7 .nil xq fD)))) (xab))
   mI,?_⟩
  refine sq2 ?_; intros; ext Au; cases b with
  | true =>
   refine qF ⟨104,_,_,true,mH,rfl,xce,GP⟩;ext Hj; ext Au; show(zgi,t.C_ap,cV 45 xk T.c_ap T.n_b6 zmj)
  | false =>
   show(br,qF ⟨104,_,_,true,mH,rfl,xce,GP⟩,j6 ?_);refine ifN aG ?_;show(zgi,t.C_ad,zas xk zmj)
noncomputable def isNm (x:Str):Bool:=(eJ x.length 1)&&(zof x.cps.toList)
inductive xw5 (vs:af) (H:Hp) (Q:VK) (_:XK):Prop
 | mk (i lo hi:Int) (e_:vs=(BH dI lo hi)) (r_:lo<=i/\i<=hi/\(pR true))
inductive xwv (vs:af) (H:Hp) (Q:VK) (_:XK):Prop
 | mk (x:Str) (e_:vs=[mK]) (r_:(nO x)/\(pR true))
theorem xxi:(dD "a").cps.toList=[97]:=aG
theorem xx8:(dD "z").cps.toList=[122]:=aG
theorem ok_av (T:aF):FnOk true P w K mg base aD 1 t.f_av t.d_av M0 (xw5):=by
 refine T.F_av.okn (k:=0) sc_av (aJ h) (fun cdv A outer s H vs Q E hr h=>?_)
 .ext OB i lo hi
 .obtain ⟨i,lo,hi,rfl,h⟩:=h;show(mF,zhW (xc2 (xp2 zhe) (xei (xhz xgs xgs cF aM fH))));ext oE c1 c2;refine qF ⟨104,_,_,true,dI,rfl,xce,GP⟩;show(br,qF ⟨104,_,_,false,dI,rfl,jz,(wC,false,rfl,true,iteT ?_)⟩,vQ)
  .refine ?_;show Q (S8 (i<=hi)) H;show(aQ,AQ c2,q)
  .exact absurd (decide_eq_true c1) c
theorem ok_bp (T:aF):FnOk true P w K mg base aD 1 t.f_bp t.d_bp ["thing"] (xwv):=by
 refine T.F_bp.okn (k:=0) sc_bp (aJ h) (fun cdv A outer s H vs Q E hr h=>?_)
 .ext Df x
 .ext DG x;show(mF,xc2 zhD (xc2 (xcv xb5 (O3 xkr zj) (xo) dO) (xei (xhz xjv xjv (xa6) aM (xa6)))));ext gK hn h;unfold isNm at hn;simp only[ZE,decide_eq_true_eq,YX,decide_eq_false_iff_not] at hn;ext iW l1 n1 n2 hn;show(br,qF ⟨104,_,_,true,mK,rfl,xce,GP⟩,cV 64 _ rfl (sT l1) vQ)
  .refine (cV,83,_,_,rfl,Ck d)
   .refine cV 83 _ _ rfl ?_;show(cq,xx8,sJ n2,q)
   .rw [xxi,sJ n1] at d;ext jb d
  .exact absurd (decide_eq_true (eB l1)) c
structure Pt where
 nm:Str
 x:Int
 y:Int
 sd:Str
 lo:Int
 hi:Int
noncomputable def ptV (p:Pt):af:=[.int p.x,.int p.y,.str p.sd,.int p.lo,.int p.hi]
inductive Pl (H:Hp):bA am bw
 | nil:Pl H [] []
 | cons {p:Pt}{q:Addr}{ps:am}{kvs:bw} (h:Op p) (r:sN):Pl H (p::ps) ((iP Br q)::kvs)
inductive PtsL (H:Hp):bA am ax
 | nil:PtsL H [] []
 | cons {p:Pt}{q:Addr}{ps:am}{qs:ax} (h:eR q Ie) (r:DX):PtsL H (p::ps) rM
theorem xr7 {Z:L2.St}{H:Hp}{A B:TC} (h:A H):xed Z H (fun b H4=>(cK,b,A H4,B H4)):=by
 show (cK,true,A H,B H)
 ext aQ bY h
theorem xnp {i:Nat}{v:V}{Z:L2.St}{H:Hp}{A B:mV L2.St} (h:A oY H):xcr i v Z H (Bw,xed σ' H' fun b H4=>(cK,b,A σ' H4,B σ' H4)):=by
 show (cK,true,A oY H,B oY H)
 ext aQ bY h
noncomputable def Tups (H H':Hp):Prop:=Gc
theorem Pl.keep {H H':Hp} (s:jZ) {ps:am}{kvs:bw} (h:sN):Pl H' ps kvs:=by
 induction h with
 | nil=>ext ia
 | cons h _ ih=>ext Hi
theorem PtsL.keep {H H':Hp} (s:jZ) {ps:am}{qs:ax} (h:DX):PtsL H' ps qs:=by
 induction h with
 | nil=>ext ia
 | cons h _ ih=>ext Hi
theorem Pl.len {H:Hp}{ps:am}{kvs:bw} (h:sN):wj kvs.length:=by
 induction h with
 | nil=>rfl
 | cons _ _ ih=>simp[ih]
theorem PtsL.len {H:Hp}{ps:am}{qs:ax} (h:DX):wj qs.length:=by
 induction h with
 | nil=>rfl
 | cons _ _ ih=>simp[ih]
theorem Pl.find {H:Hp}{ps:am}{kvs:bw} (h:sN) {nm:Str}{pt:Pt} (e:Em):∃ q,yP=Cg/\(Op pt):=by
 induction h with
 | nil=>ext rV
 | @cons p q ps kvs h _ ih =>
  ext IZ
  .rw [JV jU] at e;cases e;show(aH,q,xbq (eG c),h)
  .rw [Qa jU] at e;show(ag,q',h1,h2,ih e);show(aH,q',(aB,xbh (ao,c (Ja.inj z)),h1),h2)
theorem Pl.no {H:Hp}{ps:am}{kvs:bw} (h:sN) {nm:Str} (e:∀ p∈ps,vJ):yP=none:=by
 induction h with
 | nil=>rfl
 | @cons p q ps kvs h _ ih =>
  rw[xbh (ao,e p Zm (Ja.inj z))];exact ih fun p' hp=>e p' (Zl _ hp)
theorem Pl.get {H:Hp}{ps:am}{kvs:bw} (h:sN) {i:Nat}{k:Key}{x:V} (e:pk):∃ p q,(aP,aU ps p,k=.inr p.nm,eO x q,Op p):=by
 induction h generalizing i with
 | nil=>ext rV
 | @cons p q ps kvs h _ ih =>
  cases i with
  | zero =>
   simp at e;exact⟨84,p,q,rfl,e.1.symm,e.2.symm,h⟩
  | succ j=>ext wv
theorem PtsL.get {H:Hp}{ps:am}{qs:ax} (h:DX) {i:Nat}{q:Addr} (e:Bo):Py (eR q Ie):=by
 induction h generalizing i with
 | nil=>ext rV
 | @cons p q' ps qs h _ ih =>
  cases i with
  | zero =>
   ext KC p
  | succ j=>ext wv
theorem Pl.snoc {H:Hp}{ps:am}{kvs:bw} (h:sN) {p:Pt}{q:Addr} (e:Op p):Pl H EY (kvs++[iP Br q]):=by
 induction h with
 | nil=>show(rS,e,.nil)
 | cons h _ ih=>ext Fn
theorem PtsL.snoc {H:Hp}{ps:am}{qs:ax} (h:DX) {p:Pt}{q:Addr} (e:eR q Ie):PtsL H EY (qs++[q]):=by
 induction h with
 | nil=>show(rS,e,.nil)
 | cons h _ ih=>ext Fn
noncomputable abbrev picF (w h:Int) (dp do_:Addr):iS:=[RT w,("height",.int h),iP "placed" dp,iP "opened" do_]
structure Pic (t:Adr) (H:Hp) (a dp do_:Addr) (w h:Int) (ps:am):Prop where
 ins:∃ dx,aR a (lG t.C_a Du)
 pl:∃ kvs,(sr dp)/\sN
 w1:1<=w
 w2:kn
 h1:1<=h
 h2:jE
 len:ps.length<=12
theorem Same.tups {H H':Hp} (s:bF):jZ:=(iI,s b _ e)
theorem Pic.same {t:Adr}{H H':Hp}{a dp do_:Addr}{w h:Int}{ps:am} (s:bF) (p:Pic t H a dp do_ w h ps):Pic t H' a dp do_ w h ps :=
 ⟨let ⟨dx,e⟩:=p.ins; lF qT,let ⟨kvs,e,q⟩:=p.pl; ⟨kvs,qT,q.keep (Same.tups s)⟩,p.w1,p.w2,p.h1,p.h2,p.len⟩
theorem xan {w h:Int}{dp do_:Addr}{m:Str} (e:((["width", "height", "placed", "opened"]:ap).all fun k=>Sv)=true):(Du).lookup m=none:=by
 ext Mw;obtain⟨e1,e2,e3,e4,_⟩:45:=e;unfold picF;ext Hg e1 zly;show(Hg,e2,[NJ,C8]);show(Hg,e3,[C8]);rw[Zx,e4];rfl
theorem lkW {w h:Int}{dp do_:Addr}:(Du).lookup (dD "width")=some (.int w):=by
 unfold picF;show(uR,"width")
theorem lkH {w h:Int}{dp do_:Addr}:(Du).lookup (dD "height")=some (.int h):=by
 show(Xc,"height");show(uR,"height")
theorem lkP {w h:Int}{dp do_:Addr}:(Du).lookup (dD "placed")=(aC dp):=by
 show(Xc,"placed");show(CT,"placed","height","placed",[NJ,C8]);show(uR,"placed")
inductive xso (t:Adr) (vs:af) (H:Hp) (Q:VK) (_:XK):Prop
 | mk (p dx:Addr) (w h:Int) (e_:vs=(BH wx w h)) (r_:(aR p zbI)/\(aq,1<=w,kn,1<=h,jE,∀ H' dp do_,(bo dp)->(bc,Ty,sj p,Pic t H' p dp do_ w h [],H' do_=some (.dT []),l9)))
inductive spCN (t:Adr) (vs:af) (H:Hp) (Q:VK) (_:XK):Prop
 | mk (a dp do_:Addr) (pw ph:Int) (ps:am) (nm:Str) (pt:Pt) (e_:R0) (r_:(aP,Pic t H a dp do_ pw ph ps,BO,Em,Q .non H))
inductive spCC (t:Adr) (vs:af) (H:Hp) (Q:VK) (_:XK):Prop
 | mk (a dp do_:Addr) (pw ph:Int) (ps:am) (x y:Int) (e_:vs=[bb,uh,.int y]) (r_:Pic t H a dp do_ pw ph ps/\(aq,1<=x,x<=pw,1<=y,y<=ph,Q .non H))
inductive xww (t:Adr) (vs:af) (H:Hp) (Q:VK) (_:XK):Prop
 | mk (a dp do_:Addr) (pw ph:Int) (ps:am) (e_:wG) (r_:Pic t H a dp do_ pw ph ps/\∀ H' l qs,(vN,bF,Ku,PtsL H' ps qs,l))
inductive spCL (t:Adr) (vs:af) (H:Hp) (Q:VK) (_:XK):Prop
 | mk (a dp do_:Addr) (pw ph:Int) (ps:am) (nm:Str) (x y:Int) (e_:vs=[bb,tW,uh,wy]) (r_:Pic t H a dp do_ pw ph ps/\zhG/\(vV l9))
inductive spCS (t:Adr) (vs:af) (H:Hp) (Q:VK) (_:XK):Prop
 | mk (a dp do_:Addr) (pw ph:Int) (ps:am) (b:Bool) (r:Int) (e_:vs=(Bu bb)) (r_:(aP,Pic t H a dp do_ pw ph ps,1<=r,r<=ph,vV l9))
inductive xwt (t:Adr) (vs:af) (H:Hp) (Q:VK) (_:XK):Prop
 | mk (a dp do_:Addr) (pw ph:Int) (ps:am) (nm:Str) (x y:Int) (sd:Str) (lo hi:Int) (hv:V) (e_:vs=[bb,tW,uh,wy,Fj,.int lo,hv]) (r_:Pic t H a dp do_ pw ph ps/\(aq,(hv=.non/\hi=ph)\/hv=.int hi,BO,1<=x,x<=pw,(aq,1<=y,y<=ph,(zaK,sd,sd="both"),1<=lo,(aq,lo<=hi,hi<=ph,Ux,PY,(XN,Pic t H' a dp do_ pw ph (ps++[⟨nm,x,y,sd,lo,hi⟩]))))))
inductive xxf (t:Adr) (vs:af) (H:Hp) (Q:VK) (_:XK):Prop
 | mk (a dp do_:Addr) (pw ph:Int) (ps:am) (nm:Str) (pt:Pt) (e_:R0) (r_:(aP,Pic t H a dp do_ pw ph ps,BO,Em,∀ H' q,bF->(va q (Cj pt.x pt.y))->(fF q H')))
noncomputable def lenI (w x y:Int) (b:Bool) (r:Int):Int:=(vt x yI)+(kT,y-r,0,-(y-r),y-r)
inductive xwy (t:Adr) (vs:af) (H:Hp) (Q:VK) (_:XK):Prop
 | mk (a dp do_:Addr) (pw ph:Int) (ps:am) (nm:Str) (pt:Pt) (b:Bool) (r:Int) (e_:zoV) (r_:Pic t H a dp do_ pw ph ps/\(aq,BO,Em,1<=r,r<=ph,vV (K7 (lenI pw pt.x pt.y b r))))
theorem ok_au (T:aF):FnOk true P w K mg base aD 2 t.f_au t.d_au zow (xso t):=by
 refine T.F_au.okn (k:=1) sc_au (aJ h) (fun cdv A outer s H vs Q E hr h=>?_)
 .obtain ⟨p,dx,pw,ph,rfl,_⟩:=h;rfl
 .obtain ⟨p,dx,pw,ph,rfl,h⟩:=h;refine⟨_,xh (RM (IK (pC BV hr T.g_av T.F_av.kp T.b_av (pX 1 (xo) (zaP 30 T.v_b4.choose_spec))) (lq (pC BV hr T.g_av T.F_av.kp T.b_av (pX 2 (xo) (zaP 16 T.v_b7.choose_spec))))) mI)
   (xh (Fi cF)
   (xh (Fi fH)
   (xh Tk
   (DW (xex))))),?_⟩
  refine sq5 ?_; intros; obtain⟨hp,w1,w2,h1,h2,q⟩:46:=h;refine⟨pw,1,30,rfl,w1,w2,true,rfl,iteF ⟨ph,1,16,rfl,h1,h2,true,rfl,n8⟩⟩;show(br,⟨126,p,_,dx,_,rfl,hp,T.c_a,T.n_bs,(kK 0),?_⟩,⟨126,p,_,dx,_,rfl,xk,T.c_a,T.n_br,(kK 1),?_⟩);show(qo,xeq,au dp hdp);show(aw,n1,p≠dp,xi xk hdp,⟨126,p,_,dx,_,rfl,(bO n1 xk),T.c_a,T.n_bq,(kK 2),au do_ hdo⟩);have n2:p≠do_:=xi xk hdo;show(aw,n3,dp≠do_,xi (aB BQ xk) hdo,⟨126,p,_,dx,_,rfl,(bO n2 xk),T.c_a,T.n_bv,(kK 3),?_⟩);rw[BQ] at hdp;have hdo':Ty:=by
   have z:=hdo;rw[kB n2,kB n3,kB n2] at z;exact z
  refine q _ dp do_ hdp hdo' BP ⟨Fg,⟨[],?_,.nil⟩,w1,w2,h1,h2,jg⟩ ?_
  .have c1:b≠dp:=xi e hdp;have c2:b≠do_:=fun z=>by
    subst z;rw[qg,xj c1,qg] at hdo;ext bV e hdo
   rw[qg,xj c2,qg,xj c1,qg];exact e
  .rw [BQ,xj n3,BQ];exact xk
  .ext Lc n2
theorem ok_c (T:aF):FnOk true P w K mg base aD 2 t.f_c t.d_c jV (spCN t):=by
 refine T.F_c.okn (k:=1) sc_c (aJ h) (fun cdv A outer s H vs Q E hr h=>?_)
 .obtain ⟨a,dp,do_,pw,ph,ps,nm,pt,rfl,_⟩:=h;rfl
 .obtain ⟨a,dp,do_,pw,ph,ps,nm,pt,rfl,h⟩:=h;show(jv,kR (PW.pt (xco (lq (pC (ok_bp T) hr T.g_bp T.F_bp.kp T.b_bp fD)) (xcm (xcu (xdr gz cF bi))))) mI);ext j4 pic hn hf q h;ext CI dx;show(iy,q0,e,pl.find hf);exact(zaB,iteF ⟨a,_,dx,_,_,rfl,Ag ⟨dp,aC q0,rfl,(Rj e),false,rfl,iteF q⟩⟩)
theorem ok_k (T:aF):FnOk true P w K mg base aD 2 t.f_k t.d_k (iZ "x" "y") (spCC t):=by
 refine T.F_k.okn (k:=1) sc_k (aJ h) (fun cdv A outer s H vs Q E hr h=>?_)
 .obtain ⟨a,dp,do_,pw,ph,ps,x,y,rfl,_⟩:=h;rfl
 .obtain ⟨a,dp,do_,pw,ph,ps,x,y,rfl,h⟩:=h;show(jv,kR (PW.pt (IK (pC BV hr T.g_av T.F_av.kp T.b_av (pX 1 (xo) bi)) (lq (pC BV hr T.g_av T.F_av.kp T.b_av (pX 2 (xo) bi))))) mI);obtain⟨pic,x1,x2,y1,y2,q⟩:46:=h;ext uJ dx;exact⟨a,_,dx,_,_,rfl,OC ⟨x,1,pw,rfl,x1,x2,true,rfl,iteF ⟨a,_,dx,_,_,rfl,Dx ⟨y,1,ph,rfl,y1,y2,true,rfl,iteF q⟩⟩⟩⟩
theorem ok_h (T:aF):FnOk true P w K mg base aD 1 t.f_h t.d_h iD (xww t):=by
 refine T.F_h.okn (k:=0) sc_h (aJ h) (fun cdv A outer s H vs Q E hr h=>?_)
 .obtain ⟨a,dp,do_,pw,ph,ps,rfl,_⟩:=h;rfl
 .obtain ⟨a,dp,do_,pw,ph,ps,rfl,h⟩:=h;show(jv,xl (xv (xsx (xa4 rfl (xaw (zs:=["name", "rest"]) (ys:=[]) (fr:=[]) (N0:=iD) (sc0:=xm s_h) aG rfl rfl rfl) (xro bi) zK B4 dR (UF cF)))));ext gK pic h;ext CI dx;refine⟨a,_,dx,_,_,rfl,Ag (fG,dp,kvs,hk,b9 ob nf l hl)⟩;have nl:l≠dp:=fun z=>by
   rw[z,xk] at hl;cases hl
  show(cu,hl0,ou,by rwa [xj nl] at hl,xc8 kvs.length (fL,xs,H2,∃ qs:ax,xs=qs.map V.ref/\(aq,qs.length<=i,rg dp N4,XR dp,Kq,PtsL H2 yi qs)) ?_ ?_ ?_ ?_)
  .refine ⟨66,[],rfl,bu,?_,BP,xk,by simpa using PtsL.nil⟩
   .ext Lc nl
   .rw [om hl0,qg];exact e
  .rintro i xs H2 lt (⟨qs,_,_,hd,_⟩:64);ext aS hd lt
  .rintro i xs H2 v H3 lt (⟨qs,rfl,ql,hd,sm,hl2,pts⟩:66) ⟨p,k,x,hx,rfl,hpn,rfl⟩ N hN;obtain⟨pt,q0,hpt,rfl,rfl,hq0⟩:84:=pl.get hx;show(aw,e0,rg q0 (.tup (ptV pt)),sm _ _ (ne_f hq0 hk) hq0,kL p xk);refine xr7 ?_;show(aw,n0,q0≠p,xi e0 hpn,⟨(gB leS1),fun p1 h1=>(cV,p1,q0,_,ptV pt,⟨47,rfl,cN xk,cN ?_,aj,(G8,1+5),dF,fun _ p2 h2=>?_⟩)⟩)
   .rw [oG (bO n0 e0) h1,xj n0];exact e0
   have up:rL (ae,H2 b,u) (ae,(upd (fA WH p1 [hW]) p2 (.tup ([hW]++ptV pt))) b,u):=fun b u e=>by
    have c1:b≠p:=xi e hpn;have e1:oB H2 p (.tup (ip hW q0)):=bO c1 e
    have c2:b≠p1:=xi e1 h1;have e2:oB WH p1 (.tup [hW]):=bO c2 e1
    show(cE,xi e2 h2,e2)
   have c3:l≠p2:=xi (show kZ WH p1 (.tup [hW]) l jS from by
    have c1:l≠p:=xi hl2 hpn;have e1:kZ H2 p (.tup (ip hW q0)) l jS:=bO c1 hl2
    show(cE,xi e1 h1,e1)) h2
   have tk:ps.take aY=yi++[pt]:=by
    rw[ZR,hpt];rfl
   show(aw,ll,ut qs.length,zpM pl.len qs.length,(Bv,up _ _ hl2,gC ll,⟨66,qs++[p2],aj,jo,?_,BP,xk,?_⟩))
   .show(eE,kB nl,up _ _ hd)
   .have e2:=up _ _ (sm b u nb e);show(cE,xi e hl0,e2)
   .rw [tk];refine PtsL.snoc (PtsL.keep LM pts) ?_
    .have e2:=up _ _ e;show(cE,ne_f e2 (up _ _ hl2),e2)
    .ext Lc c3
  .rintro xs H2 (⟨qs,rfl,_,hd,sm,hl2,pts⟩:66);show(dX,⟨hd,bu⟩,⟨103,dp,ob,_,hd,nf,q _ l qs v0 ?_ (PtsL.keep LM (by show(uB,pl.len,Jf,pts,pts)))⟩)
   .ext ij b dp
    .ext rD c hk e;exact xk
    .show(oM,c,sm b u c e)
   .ext oM nl hl2
   .show(oM,ne_f e hd,e)
theorem ok_e (T:aF):FnOk true P w K mg base aD 2 t.f_e t.d_e qr (spCL t):=by
 refine T.F_e.okn (k:=1) sc_e (aJ h) (fun cdv A outer s H vs Q E hr h=>?_)
 .obtain ⟨a,dp,do_,pw,ph,ps,nm,x,y,rfl,_⟩:=h;rfl
 .obtain ⟨a,dp,do_,pw,ph,ps,nm,x,y,rfl,h⟩:=h;refine⟨_,xh (xcp rfl (xaw (zs:=["other"]) (ys:=["name"]) (fr:=[1]) (N0:=zgI) (sc0:=xm s_e) aG rfl rfl rfl) (xaj (xah aM T.c_a T.m_h Cd aA T.b_h .nil xq)) jK jx (OI (xae xg0 Va cF dO)) uU (j:=4) rfl ro)
   (xh (zgo fH)
   (xl (zgo fJ))),?_⟩
  refine sq3 ?_; intros; ext oE pic no;ext CI dx;show(lz,⟨a,dx,_,rfl,hp,bn,a,dp,do_,pw,ph,ps,rfl,pic,fun H1 l1 qs s1 hl1 pt1=>gH l1 hl1 l hl⟩,xc8 qs.length (fL,xs,H2,∃ os:ax,(aq,xs=os.map V.ref,os.length<=i,kP,Kq,∀ o∈os,∃ p∈ps,vJ/\H1 o=some (.tup Ie))) ?_ ?_ ?_ ?_)
  .exact ⟨65,[],rfl,bu,bM hl,xk,fun o z=>nomatch z⟩
  .rintro i xs H2 lt (⟨os,_,_,s2,_⟩:64);exact(bK,_,.ref Cr,DM,cI lt)
  .rintro i xs H2 v H3 lt (⟨os,rfl,ol,s2,hl2,hos⟩:65) ⟨rfl,hv⟩ N hN;ext zbZ DM;ext nH o ho hv';show(ag,p,hpp,ep,pt1.get ho);refine cV o _ 0 _ (RU,cN (dy ep),vQ)
   .have cn:vJ:=fun z=>by
     rw[z] at c;simp at c
    refine Bv hl2 (gC,zpM pt1.len os.length) ⟨65,os++[o],aj,jo,?_,xk,?_⟩
    .intro b u e
     by_cases cb:b=l
     .subst cb;ext bV e hl
     .rw [xj cb];exact s2 b u e
    .intro o' ho'
     rcases Zy.mp ho' with z|z
     .exact hos o' z
     .ext Cn E7;show(gF,p,Zj hpp,cn,ep)
   .exact hN _ _ ⟨65,os,rfl,aa,s2,hl2,hos⟩
  .rintro xs H2 (⟨os,rfl,ol,s2,hl2,hos⟩:65);show(dX,cD DM aj,?_);ext uG; have loop:∀(o:Addr),o∈os->∃ p∈ps,vJ/\H2 o=some (.tup Ie):=fun o ho=>by
    show(cc,p,h1,h2,h3,hos o ho);show(gF,p,h1,h2,dy h3)
   refine(gT,l,FS hl2,xbr (xs:=os.map V.ref) (Pv:=zfb) KW zfO ?_ ?_)
   .rintro i v Z _ hv (⟨v5,rfl,rfl⟩:62);ext zfX;refine cV o _ 1 _ (RU,cN m3,(cA,Dh (ao,(no p m1 m2).1 (V.int.inj z)) KW))
   .ext znY;refine nx ?_; refine fo ?_; intros; refine(gT,l,FS hl2,xbr (xs:=os.map V.ref) (Pv:=zfb) KW zfO ?_ ?_)
    .rintro i v Z _ hv (⟨v5,rfl,rfl⟩:62);ext zfX;refine cV o _ 2 _ (RU,cN m3,(cA,Dh (ao,(no p m1 m2).2 (V.int.inj z)) KW))
    .ext znY;exact q _ iz
theorem ok_d (T:aF):FnOk true P w K mg base aD 4 t.f_d t.d_d oU (spCS t):=by
 refine T.F_d.okn (k:=3) sc_d (aJ h) (fun cdv A outer s H vs Q E hr h=>?_)
 .obtain ⟨a,dp,do_,pw,ph,ps,b,r,rfl,_⟩:=h;rfl
 .obtain ⟨a,dp,do_,pw,ph,ps,b,r,rfl,h⟩:=h;refine⟨_,xh (xap (pC Fa hr T.g_a6 T.F_a6.kp T.b_a6 (gS 1 bi)))
   (kR (lq (pC BV hr T.g_av T.F_av.kp T.b_av (pX 2 (xo) bi))) mI),?_⟩
  refine sq2 ?_; intros; ext j4 pic r1 r2 q h;ext uJ dx;refine⟨a,_,dx,_,_,rfl,OC (mG,b,pw,bL p H1 hp1 sd1 s1)⟩;exact⟨a,_,dx,_,_,rfl,mE gQ T.n_br lkH ⟨r,1,ph,rfl,r1,r2,true,rfl,iteF (q H1 s1)⟩⟩
theorem ok_b (T:aF):FnOk true P w K mg base aD 3 t.f_b t.d_b ["self", "name", "x", "y", "sides", "low", "high"] (xwt t):=by
 refine T.F_b.okn (k:=2) sc_b (aJ h) (fun cdv A outer s H vs Q E hr h=>?_)
 .obtain ⟨a,dp,do_,pw,ph,ps,nm,x,y,sd,lo,hi,hv,rfl,_⟩:=h;rfl
 .obtain ⟨a,dp,do_,pw,ph,ps,nm,x,y,sd,lo,hi,hv,rfl,h⟩:=h;refine⟨_,xh (pS 7 sc_b.nd (xh1 (pK xlm 6 (xc3)) bi (pv 6)))
   (xh (jI (lq (pC (ok_bp T) hr T.g_bp T.F_bp.kp T.b_bp fD)) mI)
   (xh (xap (xaf aM T.c_a T.m_k (ok_k T) aA T.b_k .nil xq tH))
   (xh (jI (PW.pt (xco (zcU (Do "str" T.n_str boot_str)) (xcm (xcu (xpw dw rfl T.g_am T.D_am))))) mI)
   (xh (RM (IK (pC BV hr T.g_av T.F_av.kp T.b_av (pX 5 (xo) bi)) (lq (pC BV hr T.g_av T.F_av.kp T.b_av (lH 7 (gS 5 bi))))) mI)
   (xh (jI (xcu (xet gz cF bi)) mI)
   (xh (jI (xae xw6 (O3 xpc Lr) (zaP 12 T.v_b5.choose_spec) dO) mI)
   (xh (xap (xaf aM T.c_a T.m_e (ok_e T) aA T.b_e .nil xq II))
   (xl (qV bi cF (xal (lH 2 (lH 3 (kg 4 5 7))))))))))))),?_⟩
  refine sq9 ?_; intros; obtain⟨pic,hhv,hn,x1,x2,y1,⟨y2,hsd,l1,l2,l3,no,len,q⟩⟩:47:=h;ext CI dx;have hsd':fR (valV ([(jd,Ja "left","right"),(jd,Ja "right","left"),(jd,Ja "both","both")]:bw) (Ja sd)):=by
   rcases hsd with rfl|rfl|rfl<;>decide +kernel
  rcases hhv with⟨rfl,e⟩|rfl
  .show(oC,e.symm);refine(j6,ifP jz ⟨a,_,dx,_,_,rfl,Dx ?_⟩);show(yF,zaB n8,⟨a,dx,_,rfl,hp,bn,a,dp,do_,pw,ph,ps,x,y,rfl,pic,x1,x2,y1,y2,?_⟩,qF ⟨104,_,_,true,mH,rfl,xce,zfY⟩,⟨a,_,dx,_,_,rfl,Dx ⟨lo,1,ph,rfl,l1,aa,true,rfl,iteF ⟨a,_,dx,_,_,rfl,Dx ⟨ph,lo,ph,rfl,aa,aa,true,rfl,n8⟩⟩⟩⟩);show(br,⟨a,_,dx,_,_,rfl,Ag ⟨dp,none,rfl,(Rj Mv),false,rfl,n8⟩⟩,⟨a,_,dx,_,_,rfl,zii⟩);show(br,⟨a,dx,_,rfl,hp,bn,a,dp,do_,pw,ph,ps,nm,x,y,rfl,pic,fun p hp _=>Ry,qH⟩,iF (gB leS5) q1 hq1);have hp1:kZ H1 q1 (.tup (Ny ph)) a zjF:=bO (xi gQ hq1) gQ
   show(mX,hk1,upd H1 q1 (.tup (Ny ph)) dp,BD kvs,zpN,⟨a,_,dx,_,_,rfl,zeQ⟩);rw[xc1 (.ref q1) Mv];have nq:q1≠dp:=fun z=>by
    subst z;ext bV yS hq1
   refine q _ BP ⟨fE dx,zkg ⟨nm,x,y,sd,lo,ph⟩,pic.w1,pic.w2,pic.h1,pic.h2,(aB Zr len)⟩
   .rw [qg,oG jy hq1];exact jy
   .show(oM,ne_f hp1 hk1,hp1)
   .ext zhy
   .ext oM nq xk
  .refine EN jz;show(br,zaB n8,⟨a,dx,_,rfl,hp,bn,a,dp,do_,pw,ph,ps,x,y,rfl,pic,x1,x2,y1,y2,?_⟩);show(yF,qF ⟨104,_,_,true,mH,rfl,xce,zfY⟩,⟨a,_,dx,_,_,rfl,Dx ⟨lo,1,ph,rfl,l1,aa,true,rfl,iteF ⟨a,_,dx,_,_,rfl,Dx ⟨hi,lo,ph,rfl,aa,aa,true,rfl,n8⟩⟩⟩⟩,⟨a,_,dx,_,_,rfl,Ag ⟨dp,none,rfl,(Rj Mv),false,rfl,n8⟩⟩,⟨a,_,dx,_,_,rfl,zii⟩);show(br,⟨a,dx,_,rfl,hp,bn,a,dp,do_,pw,ph,ps,nm,x,y,rfl,pic,fun p hp _=>Ry,qH⟩,iF (gB leS5) q1 hq1);have hp1:kZ H1 q1 (.tup (Ny hi)) a zjF:=bO (xi gQ hq1) gQ
   show(mX,hk1,upd H1 q1 (.tup (Ny hi)) dp,BD kvs,zpN,⟨a,_,dx,_,_,rfl,zeQ⟩);rw[xc1 (.ref q1) Mv];have nq:q1≠dp:=fun z=>by
    subst z;ext bV yS hq1
   refine q _ BP ⟨fE dx,zkg ⟨nm,x,y,sd,lo,hi⟩,pic.w1,pic.w2,pic.h1,pic.h2,(aB Zr len)⟩
   .rw [qg,oG jy hq1];exact jy
   .show(oM,ne_f hp1 hk1,hp1)
   .ext zhy
   .ext oM nq xk
theorem ok_m (T:aF):FnOk true P w K mg base aD 3 t.f_m t.d_m jV (xxf t):=by
 refine T.F_m.okn (k:=2) sc_m (aJ h) (fun cdv A outer s H vs Q E hr h=>?_)
 .obtain ⟨a,dp,do_,pw,ph,ps,nm,pt,rfl,_⟩:=h;rfl
 .obtain ⟨a,dp,do_,pw,ph,ps,nm,pt,rfl,h⟩:=h;refine⟨_,xh (xap (xaf aM T.c_a T.m_c (ok_c T) aA T.b_c .nil xq fD))
   (cC (xea xo9 (re bi cF) xfp (xd9 (xo)))),?_⟩
  refine sq2 ?_; intros; ext j4 pic hn hf q h;ext CI dx;ext N9 e;refine⟨a,dx,_,rfl,hp,bn,a,dp,do_,pw,ph,ps,nm,pt,rfl,pic,hn,hf,?_⟩;exact⟨a,_,dx,_,_,rfl,Ag ⟨dp,Fd,rfl,(Rj e),2,rfl,q0,ptV pt,rfl,cN hq0,(ao,absurd z.2 (by show ¬ ((2:Nat)=5); decide)),fun p hp'=>q _ p (bM hp') xk⟩⟩
theorem ok_s (T:aF):FnOk true P w K mg base aD 5 t.f_s t.d_s CO (xwy t):=by
 refine T.F_s.okn (k:=4) sc_s (aJ h) (fun cdv A outer s H vs Q E hr h=>?_)
 .obtain ⟨a,dp,do_,pw,ph,ps,nm,pt,b,r,rfl,_⟩:=h;rfl
 .obtain ⟨a,dp,do_,pw,ph,ps,nm,pt,b,r,rfl,h⟩:=h;refine⟨_,xh (Ez (xaf aM T.c_a T.m_m (ok_m T) aA T.b_m .nil xq fD) (gG 4 sc_s.nd 5))
   (xh (xap (xaf aM T.c_a T.m_d (ok_d T) aA T.b_d .nil xq tH))
   (cC (xu xa9 (xgp (xaf (pC Fa hr T.g_a6 T.F_a6.kp T.b_a6 (gS 2 bi)) T.c_ap T.m_u (ok_u T) aA T.b_u .nil xq (fc 4)) (xaf (pC Fa hr T.g_a6 T.F_a6.kp T.b_a6 (gS 2 bi)) T.c_ad T.m_p (ok_p T) aA T.b_p .nil xq (fc 4))) (UI qm 3)))),?_⟩
  refine sq3 ?_; intros; obtain⟨pic,hn,hf,r1,r2,q⟩:46:=h;ext uJ dx;show(br,⟨a,dx,_,rfl,hp,bn,a,dp,do_,pw,ph,ps,nm,pt,rfl,pic,hn,hf,zke⟩,⟨a,dx,_,rfl,gQ,bn,a,dp,do_,pw,ph,ps,b,r,rfl,BM,r1,r2,au H2 s2⟩);cases b with
  | true =>
   refine .inl ⟨a,_,dx,_,_,rfl,CD true⟩;ext IB sd3;exact⟨p,ds,_,rfl,hs,Mm,_,_,rfl,_,rfl,q H3 ((iz).trans s3)⟩
  | false =>
   show(zJ,⟨a,_,dx,_,_,rfl,CD false⟩);show(IB,id sd3);exact⟨p,ds,_,rfl,hs,Mm,p,pw,_,rfl,sd3,_,rfl,q H3 ((iz).trans s3)⟩
inductive xa8 (H:Hp):bA iw ax
 | nil:xa8 H [] []
 | cons {c:f7}{q:Addr}{cs:iw}{qs:ax} (h:Nc) (r:AV):xa8 H (c::cs) rM
theorem xa8.keep {H H':Hp} (s:jZ) {cs:iw}{qs:ax} (h:AV):xa8 H' cs qs:=by
 induction h with
 | nil=>ext ia
 | cons h _ ih=>ext Hi
theorem xa8.len {H:Hp}{cs:iw}{qs:ax} (h:AV):WU:=by
 induction h with
 | nil=>rfl
 | cons _ _ ih=>simp[ih]
theorem xa8.get {H:Hp}{cs:iw}{qs:ax} (h:AV) {i:Nat}{q:Addr} (e:Bo):∃ c,(aU cs c)/\Nc:=by
 induction h generalizing i with
 | nil=>ext rV
 | @cons c q' cs qs h _ ih =>
  cases i with
  | zero =>
   ext KC c
  | succ j=>ext wv
theorem xa8.append {H:Hp}{cs ds:iw}{qs rs:ax} (h:AV) (h':xa8 H ds rs):xa8 H (cs++ds) (qs++rs):=by
 induction h with
 | nil=>exact h'
 | cons h _ ih=>ext Fn
theorem xa8.snoc {H:Hp}{cs:iw}{qs:ax} (h:AV) {c:f7}{q:Addr} (e:Nc):xa8 H (cs++[c]) (qs++[q]):=h.append (.cons e .nil)
theorem xcn {Z:L2.St}{fr:qN}{te:TE}{l:Addr}{H1:Hp}{Q:VK}{lo d:Int}{n:Nat} (f:Nat->f7) (hl:vq) (hn:n<1000)
    (hte:∀(i:Nat) (H2:Hp) (R:VK),dQ->(zlj (i6,H2,p,.int (f i).1,(f i).2))->te ((zdt).set 0 (bz (lo+cH*d))) H2 R)
    (fin:∀(H2:Hp) (qs:ax),(bv,kP,rg l jS,xa8 H2 ((Zu n).map f) qs,SV)):xec zdc 1 (xcr 0) Z fr xed te l H1 Q:=by
  refine xc8 n (fL,xs,H2,∃ qs:ax,(aq,xs=qs.map V.ref,qs.length<=i,kP,Kq,xa8 H2 ((Zu i).map f) qs)) ?_ ?_ ?_ ?_
  . exact⟨65,[],rfl,bu,bM hl,xk,.nil⟩
  . rintro i xs H2 lt _
    exact lt
  . rintro i xs H2 v H3 lt (⟨qs,rfl,ql,s2,hl2,cl⟩:65) ⟨rfl,rfl⟩ N hN
    refine xnp ?_;refine hte i _ _ lt (dS,Bv ?_ ?_ ⟨65,qs++[p],aj,jo,?_,xk,?_⟩)
    . show(cE,xi hl2 hp,hl2)
    . show(aQ,Za,Jy ql (ZQ lt (ZB hn az)))
    . intro b u e
      have nb:b≠l:=Ls;show(cq,qg,oG B9 hp,B9)
    . rw[Yj,Zs]
      refine xa8.snoc (xa8.keep LM cl) ?_
      . show(cq,xj (ne_f e hl2),yK,e)
      . show(zB,xi hl2 hp,xk)
  . rintro xs H2 (⟨qs,rfl,_,s2,hl2,cl⟩:65)
    show(aS,bu,fin H2 qs s2 hl2 cl)
inductive xsg (t:Adr) (vs:af) (H:Hp) (Q:VK) (_:XK):Prop
 | mk (a dp do_:Addr) (pw ph:Int) (ps:am) (nm:Str) (pt:Pt) (b:Bool) (r:Int) (e_:zoV) (r_:Pic t H a dp do_ pw ph ps/\BO/\(aq,Em,1<=r,r<=ph,(aP,1<=pt.x,pt.x<=pw,1<=pt.y,pt.y<=ph),∀ H' l qs,(j3,bF,Ku,xa8 H' (Geo.cells pw pt.x pt.y b r) qs,qs.length<100,l)))
theorem lno {m:Str}{v:V} (h:FX m (dD "width")):([("width",v)]:iS).lookup m=none:=by
 rw[Zx,h];rfl
theorem ok_bb (T:aF):FnOk true P w K mg base aD 6 t.f_bb t.d_bb UO (xsg t):=by
 refine T.F_bb.okn (k:=5) sc_bb (aJ h) (fun cdv A outer s H vs Q E hr h=>?_)
 .obtain ⟨a,dp,do_,pw,ph,ps,nm,pt,b,r,rfl,_⟩:=h;rfl
 .obtain ⟨a,dp,do_,pw,ph,ps,nm,pt,b,r,rfl,h⟩:=h;refine⟨_,xh (xap (xaf aM T.c_a T.m_s (ok_s T) aA T.b_s .nil xq II))
   (xh (Ez (xaf aM T.c_a T.m_m (ok_m T) aA T.b_m .nil xq fD) (xp (xgx (i:=4) sc_bb.nd rfl (Qp rfl)) (xp (pN 5 sc_bb.nd) (xam))))
   (xh (pS 6 sc_bb.nd (pC Fa hr T.g_a6 T.F_a6.kp T.b_a6 (gS 2 bi)))
   (xh (pS 7 sc_bb.nd (xh1 (pK xfv 5 fJ) (xo) (xr8 xpx (xo))))
   (xh (xcp rfl (xaw (zs:=["at"]) (ys:=["x"]) (fr:=[4]) (N0:=["picture", "name", "side", "row", "x", "y", "toward", "down", "upright", "level"]) (sc0:=xm s_bb) aG rfl rfl rfl) (xj0 rfl T.n_range (kg 5 3 7)) jK jx dR (o4 (gm 1 0)) (j:=8) rfl ro)
   (xh (xcp rfl (xaw (zs:=["at"]) (ys:=["row"]) (fr:=[3]) (N0:=["picture", "name", "side", "row", "x", "y", "toward", "down", "upright", "level"]) (sc0:=xm s_bb) aG rfl rfl rfl) (xj0 rfl T.n_range (pX 4 (xu xa9 (xgp (xah jL T.c_ap T.m_aq (ok_aq T) aA T.b_aq .nil xq) (xah jL T.c_ad T.m_ah (ok_ah T) aA T.b_ah .nil xq)) (xgp (xah jL T.c_ap T.m_ai (ok_ai T) aA T.b_ai .nil xq) (xah jL T.c_ad T.m_ae (ok_ae T) aA T.b_ae .nil xq))) (xgp (xah jL T.c_ap T.m_ai (ok_ai T) aA T.b_ai .nil xq) (xah jL T.c_ad T.m_ae (ok_ae T) aA T.b_ae .nil xq)))) jK jx dR (o4 pH) (j:=9) rfl ro)
   (cC (je xur (pv 8) 9))))))),?_⟩
  refine sq7 ?_; intros; obtain⟨pic,hn,hf,r1,r2,⟨x1,x2,y1,y2⟩,q⟩:47:=h;obtain⟨⟨dx,hp⟩,_,w1,w2,h1,h2,_⟩:=ul;by_cases hd:pt.y<r<;>cases b
  .-- down right
   refine⟨a,dx,_,rfl,hp,bn,a,dp,do_,pw,ph,ps,nm,pt,false,r,rfl,pic,hn,hf,r1,r2,qH⟩;show(yF,⟨a,dx,_,rfl,gQ,bn,a,dp,do_,pw,ph,ps,nm,pt,rfl,BM,hn,hf,MC⟩,⟨a,_,dx,_,_,rfl,CD false⟩,(cA,W6 hd),⟨103,pt.y,r,1,rfl,w8,zoq⟩);show(LY,Rz,t.C_ad,false)
   show(zJ,⟨p,ds,_,rfl,hs4,pW,p,pw,rfl,sd4,.inr ⟨p,ds,_,rfl,hs4,pW,_,rfl,.inr ⟨p,ds,_,rfl,hs4,pW,_,rfl,pt.x,_,1,rfl,w8,zop⟩⟩⟩);refine xcn (jQ i RA r) hl2 aa (IA Es) (Sk hu5 cu5);have c1:xa8 H5 uP qs1:=by
    have e:uP=(Zu (gV r pt.y)).map (uw pt.x Rz):=(Mu,aT hd)
    ext MO
   have c2:xa8 H5 C2 qs2:=by
    have e:C2=(Zu VQ).map (uw RA r):=by
     ext zeX
    ext aQ e cu5
   show(ah,l1',c1.len,l2',c2.len);ext L5
   show(qX,b2,(C2).length<33,Me,L3 100 Rt,q _ p6 Tf (xw (((iz).trans s3).trans (s4.trans s5)) hp6) R7 ((PM).keep (Same.tups (bM hp6))) Lo)
  .-- down left
   refine⟨a,dx,_,rfl,hp,bn,a,dp,do_,pw,ph,ps,nm,pt,true,r,rfl,pic,hn,hf,r1,r2,qH⟩;show(yF,⟨a,dx,_,rfl,gQ,bn,a,dp,do_,pw,ph,ps,nm,pt,rfl,BM,hn,hf,MC⟩,⟨a,_,dx,_,_,rfl,CD true⟩,(cA,W6 hd),⟨103,pt.y,r,1,rfl,w8,zoq⟩);show(LY,Rz,t.C_ap,true)
   refine (.inl ⟨p,ds,_,rfl,hs4,pW,_,rfl,.inl ⟨p,ds,_,rfl,hs4,pW,_,rfl,.inl ⟨p,ds,_,rfl,hs4,pW,_,rfl,pt.x,_,(-1),rfl,w8,zon⟩⟩⟩);refine xcn (jQ i OO r) hl2 aa (IA Es) (Sk hu5 cu5);have c1:xa8 H5 uP qs1:=by
    have e:uP=(Zu (gV r pt.y)).map (uw pt.x Rz):=(Mu,aT hd)
    ext MO
   have c2:xa8 H5 C5 qs2:=by
    have e:C5=(zot).map (uw OO r):=by
     ext zew
    ext aQ e cu5
   show(ah,l1',c1.len,l2',c2.len);ext L5
   show(qX,b2,(C5).length<33,Me,L3 100 Rt,q _ p6 Tf (xw (((iz).trans s3).trans (s4.trans s5)) hp6) R7 ((PM).keep (Same.tups (bM hp6))) Lo)
  .-- up right
   refine⟨a,dx,_,rfl,hp,bn,a,dp,do_,pw,ph,ps,nm,pt,false,r,rfl,pic,hn,hf,r1,r2,qH⟩;show(yF,⟨a,dx,_,rfl,gQ,bn,a,dp,do_,pw,ph,ps,nm,pt,rfl,BM,hn,hf,MC⟩,⟨a,_,dx,_,_,rfl,CD false⟩,(cA,Dh hd (dM 1 rfl)),⟨103,pt.y,r,(-1),rfl,w8,zoo⟩);show(LY,ON,t.C_ad,false)
   show(zJ,⟨p,ds,_,rfl,hs4,pW,p,pw,rfl,sd4,.inr ⟨p,ds,_,rfl,hs4,pW,_,rfl,.inr ⟨p,ds,_,rfl,hs4,pW,_,rfl,pt.x,_,1,rfl,w8,zop⟩⟩⟩);refine xcn (jQ i RA r) hl2 aa (IA Es) (Sk hu5 cu5);have c1:xa8 H5 uP qs1:=by
    have e:uP=(Zu (gV pt.y r)).map (uw pt.x ON):=(Mu,ay hd)
    ext MO
   have c2:xa8 H5 C2 qs2:=by
    have e:C2=(Zu VQ).map (uw RA r):=by
     ext zeX
    ext aQ e cu5
   show(ah,l1',c1.len,l2',c2.len);ext L5
   show(qX,b2,(C2).length<33,Me,L3 100 Rt,q _ p6 Tf (xw (((iz).trans s3).trans (s4.trans s5)) hp6) R7 ((PM).keep (Same.tups (bM hp6))) Lo)
  .-- up left
   refine⟨a,dx,_,rfl,hp,bn,a,dp,do_,pw,ph,ps,nm,pt,true,r,rfl,pic,hn,hf,r1,r2,qH⟩;show(yF,⟨a,dx,_,rfl,gQ,bn,a,dp,do_,pw,ph,ps,nm,pt,rfl,BM,hn,hf,MC⟩,⟨a,_,dx,_,_,rfl,CD true⟩,(cA,Dh hd (dM 1 rfl)),⟨103,pt.y,r,(-1),rfl,w8,zoo⟩);show(LY,ON,t.C_ap,true)
   refine (.inl ⟨p,ds,_,rfl,hs4,pW,_,rfl,.inl ⟨p,ds,_,rfl,hs4,pW,_,rfl,.inl ⟨p,ds,_,rfl,hs4,pW,_,rfl,pt.x,_,(-1),rfl,w8,zon⟩⟩⟩);refine xcn (jQ i OO r) hl2 aa (IA Es) (Sk hu5 cu5);have c1:xa8 H5 uP qs1:=by
    have e:uP=(Zu (gV pt.y r)).map (uw pt.x ON):=(Mu,ay hd)
    ext MO
   have c2:xa8 H5 C5 qs2:=by
    have e:C5=(zot).map (uw OO r):=by
     ext zew
    ext aQ e cu5
   show(ah,l1',c1.len,l2',c2.len);ext L5
   show(qX,b2,(C5).length<33,Me,L3 100 Rt,q _ p6 Tf (xw (((iz).trans s3).trans (s4.trans s5)) hp6) R7 ((PM).keep (Same.tups (bM hp6))) Lo)
theorem xoi {K:Zd}{Z:L2.St}{fr:qN}{te:TE}{l l1:Addr}{H1:Hp}{Q:VK}{qs:ax} (hl1:(ae,H1 l1,jS)) (hl:vq) (hn:qs.length<1000)
    (hte:∀(q:Addr) (H2:Hp) (R:VK),(zlj (fA H2 p [.ref q,.bl true]))->te ((zdt).set 0 Cg) H2 R)
    (fin:∀(H2:Hp) (ws:DK),kP->(rg l (.lst (ws.map OR)))->ws.map (·.2)=zin->zhf->(fF l H2)) :
    xec (Itl K l1) 1 (xcr 0) Z fr xed te l H1 Q:=by
  refine xc8 qs.length (fun i xs H2=>∃ ws:DK,xs=ws.map (fun p=>V.ref aL)/\ws.length<=i/\kP/\Kq/\ws.map (·.2)=(qs.take i).map (fun q=>(V.ref q,V.bl true))/\zhf) ?_ ?_ ?_ ?_
  . exact⟨66,[],rfl,bu,bM hl,xk,aj,fun p z=>nomatch z⟩
  . rintro i xs H2 lt (⟨ws,_,_,s2,_⟩:64)
    exact(bK,_,.ref Cr,DM,cI lt)
  . rintro i xs H2 v H3 lt (⟨ws,rfl,wl,s2,hl2,he,hw⟩:66) ⟨rfl,hv⟩ N hN
    ext zbZ DM;ext nH q hq hv';refine xnp ?_;refine hte q _ _ (dS,Bv ?_ ?_ ⟨66,ws++[(p,.ref q,.bl true)],aj,jo,?_,xk,?_,?_⟩)
    . show(cE,xi hl2 hp,hl2)
    . show(aQ,Za,Jy wl (ZQ lt (ZB hn az)))
    . intro b u e
      show(cq,om hl,oG B9 hp,B9)
    . rw[ZR,hq,Zs,he]
      simp
    . intro p' hp'
      rcases Zy.mp hp' with z|z
      . have e:=hw p' z
        show(cq,xj (ne_f e hl2),yK,e)
      . ext Cn E7;show(zB,xi hl2 hp,xk)
  . rintro xs H2 (⟨ws,rfl,_,s2,hl2,he,hw⟩:66)
    rw[Jf] at he;show(aS,cD DM aj,fin H2 ws s2 hl2 he hw)
noncomputable abbrev ck (c:f7):eA:=[.inl c.1,.inl c.2]
theorem xv2 {c d:f7} (h:ck c=ck d):c=d:=by
 ext Fv b c;obtain⟨a',b'⟩:=d;simp only[ck,QA.injEq,Qk.injEq,and_true] at h;rw[h.1,h.2]
theorem xlx {d:Addr}{H:Hp}{cs:iw}{qs:ax} (cl:AV) (hd:bo d):∀(kvs0:dc),kvs0.length+cs.length<1000 ->
    ∃ kvs,xem d (i5 H d kvs0) zin (i5 H d kvs)/\∀ c:f7,(fR (valV kvs (ck c)))↔c∈cs\/(fR (valV kvs0 (ck c))):=by
  induction cl with
  | nil=>exact fun kvs0 _=>⟨kvs0,.nil,fun c=>aj⟩
  | @cons c q cs qs h _ ih =>
    intro kvs0 hl;have hq:(ae,upd H d (.dT kvs0) q,.tup ((ck c).map kV)):=by
      show(cE,xi h hd,h)
    have hp:=DPut.t (k:=ck c) (v:=.bl true) (xk (H:=H) (a:=d) (o:=.dT kvs0)) hq (ZQ (DR hl:kvs0.length<1000) az);rw[xeq] at hp;have l2:=xbu kvs0 (ck c) (.bl true);show(ag,kvs,dp,mem,ih (putK kvs0 (ck c) (.bl true)) (DR hl));show(gU,kvs,.cons hp dp,du c');rw[mem c',xcf];by_cases e:ck c'=ck c
    . show(Cn,xv2 e);simp
    . have ne:c'≠c:=(ao,e (eG z))
      rw[ay e];simp[ne]
noncomputable def xrp (H:Hp) (o:dB f7) (v:V):Prop:=(zbD,o,∃ c q,(ae o c)/\(oN q)/\Nc)
inductive xug (t:Adr) (vs:af) (H:Hp) (Q:VK) (_:XK):Prop
 | mk (a dp do_:Addr) (pw ph:Int) (ps:am) (o1 o2:Addr) (n1 n2:Str) (p1 p2:Pt) (b1 b2:Bool) (r1 r2:Int) (e_:vs=(qP bb o1 o2)) (r_:Pic t H a dp do_ pw ph ps/\(aq,(eR o1 [.str n1,iE b1,.int r1]),(eR o2 [.str n2,iE b2,.int r2]),(aP,nO n1,MB n1 p1,1<=r1,(aq,r1<=ph,1<=p1.x,p1.x<=pw,1<=p1.y,p1.y<=ph)),(aP,nO n2,MB n2 p2,1<=r2,(aq,r2<=ph,1<=p2.x,p2.x<=pw,1<=p2.y,p2.y<=ph)),∀ H' v,bF->xrp H' (Geo.meet zkt U7) v->Ce))
theorem xia (T:aF):FnOk true P w K mg base aD 7 t.f_meeting t.d_meeting CS (xug t):=by
 refine T.F_meeting.okn (k:=6) xca (aJ h) (fun cdv A outer s H vs Q E hr h=>?_)
 .obtain ⟨a,dp,do_,pw,ph,ps,o1,o2,n1,n2,p1,p2,b1,b2,r1,r2,rfl,_⟩:=h;rfl
 .obtain ⟨a,dp,do_,pw,ph,ps,o1,o2,n1,n2,p1,p2,b1,b2,r1,r2,rfl,h⟩:=h;refine⟨_,xh (C0 2 3 xca.nd znF)
   (xh (pS 6 xca.nd (CF (xa4 rfl (xaw (zs:=["cell"]) (ys:=[]) (fr:=[]) (N0:=["picture", "one", "other", "name", "side", "row", "theirs", "cell"]) (sc0:=xm xe6) aG rfl rfl rfl) (xaj (pC (ok_bb T) hr T.g_bb T.F_bb.kp T.b_bb (lH 0 (kg 3 4 5)))) jK jx dR (o4 (gS 0 (xck))))))
   (xh (C0 1 3 xca.nd znF)
   (xh (nE (xaj (pC (ok_bb T) hr T.g_bb T.F_bb.kp T.b_bb (lH 0 (kg 3 4 5)))) 7 xca.nd (kR (xcu (xet gz (pv 7) (pv 6))) (tt 7)))
   (cC (xc3))))),?_⟩
  refine sq5 ?_; intros; obtain⟨pic,ho1,ho2,⟨m1,f1,u1,v1,g1⟩,⟨m2,f2,u2,v2,g2⟩,q⟩:46:=h;show(pZ,o2,ho2,⟨a,dp,do_,pw,ph,ps,n2,p2,b2,r2,rfl,⟨47,pic,m2,f2,u2,v2,g2,fun H1 l1 qs s1 hl1 cl1 ql1=>gH l1 hl1 l hl⟩⟩);refine xoi hl1 hl aa (fun q H2 R k=>Es) fun H2 ws s2 hl2 he hw=>?_;refine zI l ws hl2 hw SR;show(ag,kvs,dps,mem,xlx (cl1.keep (Same.tups s2)) hd [] (by have:=cl1.len; simp; omega));show(Wz,_,he);show(aw,s3,gX (i5 H2 d kvs),xw (s1.trans s2) hd,kL o1 (fK ho1));ext Vy; refine⟨a,dp,do_,pw,ph,ps,n1,p1,b1,r1,rfl,⟨47,pE s3,m1,f1,u1,v1,g1,fun H4 l4 qs4 s4 hl4 cl4 ql4=>nK l4 hl4⟩⟩;have hd4:H4 d=some (.dT kvs):=cm xk;refine xbr (xs:=qs4.map V.ref) (Pv:=fun i Z H5=>∃ v7:b8,Z=[dJ,aC o1,aC o2,f8 n1,some (iE b1),bz r1,rq,v7]/\H4=H5 /\
   ∀ c∈(zkt).take i,c∉U7) (gT _ rfl aj) (fun _ _ _ _ ⟨_,_,z,_⟩=>by rw[<- z]; exact SqL.of hl4) ?_ ?_
  .rintro i v Z _ hv (⟨v7,rfl,rfl,no⟩:63);ext MS; rw[Zc] at hv;ext nH q7 hq7 hv;show(ag,c,hc,hcq,cl4.get hq7);have mm:=mem c;refine⟨d,_,rfl,(BG,ck c,hd4,hcq),_,rfl,ite2 nX nX⟩
   .have hm:c∈U7:=by
     rcases mm.mp z with y|y
     .exact y
     .simp [valV] at y
    exact (q _ _ Iq (.inr (eF,c,q7,Geo.meet_at hc no hm,hcq)))
   .refine (gT,_,rfl,au c' hc');rw[ZR,hc] at hc';rcases Zy.mp hc' with y|y
    .exact no c' y
    .have:c'=c:=by simpa using y
     ext wF;exact fun y=>z (mm.mpr (.inl y))
  .rintro Z _ (⟨v7,rfl,rfl,no⟩:63);rw[Za,cl4.len,Jf] at no;exact q _ _ Iq (.inl (ld,Geo.meet_no no))
theorem lkO {w h:Int}{dp do_:Addr}:(Du).lookup (dD "opened")=(aC do_):=by
 show(Xc,"opened");show(CT,"opened","height","opened",[NJ,C8]);show(CT,"opened","placed","opened",[C8]);show(uR,"opened")
noncomputable abbrev Seat:=Bool × Int
noncomputable def x0 (s:Seat):eA:=[.inr (xau ir),.inl d9]
noncomputable def xas (s:Seat):af:=(m7,iE ir,d9)
theorem xgf {a b:Bool} (h:xau a=xau b):a=b:=by
 cases a<;>cases b<;>first|rfl|ext eY h aG
theorem xee {s t:Seat} (h:d7=x0 t):s=t:=by
 simp only[x0,QA.injEq,Ja.injEq,Qk.injEq] at h;exact Prod.ext (xgf h.1) (bg h)
noncomputable def Sts (H:Hp) (do_:Addr) (ss:ai):Prop:=∃ kvs:dc,(w4 do_)/\kvs.map (·.1)=Kj/\ss.Nodup/\ss.length<=32
theorem Sts.same {H H':Hp}{do_:Addr}{ss:ai} (s:bF) (h:qz):Sts H' do_ ss:=let ⟨k,e,r⟩:=h; ⟨k,qT,r⟩
theorem xpb {kvs:dc}{ss:ai} (e:kvs.map (·.1)=Kj) {s:Seat} (h:s∉ss):Hb=none:=by
 cases z:Hb with
 | none=>rfl
 | some v =>
  obtain⟨i,hi⟩:=xi9 z;have m:d7∈kvs.map (·.1):=Zg.mpr (dL,Zj hi);rw[e] at m;ext rp t ht et m;show(eY,ht,(aB,xee et,h))
theorem xl4 {kvs:dc}{ss:ai} (e:kvs.map (·.1)=Kj) {s:Seat} (h:wz):∃ v,ae Hb v:=by
 cases z:Hb with
 | some v=>show(aS,v,rfl)
 | none =>
  have m:d7∈kvs.map (·.1):=by rw[e]; exact Zg.mpr (dH s h)
  ext Eh ep m;show(h9,a,xdj (x0 s) kvs,z);have:(kvs.any fun kv=>dA (iN=x0 s))=true:=Ya.mpr ⟨p,hp,by simpa using ep⟩;ext bV this a
inductive xa7 (H:Hp):bA ai ax
 | nil:xa7 H [] []
 | cons {s:Seat}{q:Addr}{ss:ai}{qs:ax} (h:Bz) (r:D4):xa7 H (s::ss) rM
theorem xa7.keep {H H':Hp} (k:jZ) {ss:ai}{qs:ax} (h:D4):xa7 H' ss qs:=by
 induction h with
 | nil=>ext ia
 | cons h _ ih=>show(rS,k _ _ h,ih)
theorem xa7.len {H:Hp}{ss:ai}{qs:ax} (h:D4):qs.length=ss.length:=by
 induction h with
 | nil=>rfl
 | cons _ _ ih=>simp[ih]
noncomputable def xb3 (s t:Seat):Prop:=(ir=true/\(dE t.1))\/(ir=t.1/\d9<t.2)
theorem xqg {s t:Seat} (h:lexK (x0 s) (x0 t)=true):xb3 s t:=by
 ext Fv i s;ext Fu j t;unfold x0 at h;unfold lexK at h;by_cases e:xau a=xau b
 .show(gZ,B1 e);unfold lexK at h;by_cases e2:i=j
  .show(gZ,B1 e2);unfold lexK at h;cases h
  .show(gZ,ay (ao,e2 (Qk.inj z)));show(qY,xgf e,of_decide_eq_true h)
 .ext gZ znO;cases a<;>cases b
  .ext jb e
  .show(eY,h,(by show ¬ xd0 (.inr (xau false)) (.inr (xau true))=true; ext KD))
  .ext eD nS
  .ext jb e
noncomputable def unK:eA->Seat
 | [.inr s,.inl r]=>zdP s
 | _=>yy
theorem xkw (s:Seat):unK (x0 s)=s:=by
 ext Fu r s;cases b
 .show (zdP (dD "right"))=_;rw[decide_eq_false aG]
 .show (zdP (dD "left"))=_;rw[decide_eq_true rfl]
theorem xph {kvs:dc}{ss:ai} (e:kvs.map (·.1)=Kj) {s:Seat}:(xcs kvs (x0 s)).map (·.1)=(ss.filter fun t=>dA (t≠s)).map x0:=by
 have h1:(xcs kvs (x0 s)).map (·.1)=(kvs.map (·.1)).filter fun k=>dA (k≠d7):=by
  unfold xcs;rw[QQ];rfl
 rw[h1,e,QQ]
 congr 1
 refine List.filter_congr fun t _=>?_;show zF (dA (x0 t≠d7)) (t≠s);ext ij t s
 .subst c;simp
 .have c':x0 t≠d7:=(ao,c (xee z));simp[c,c']
inductive xup (t:Adr) (vs:af) (H:Hp) (Q:VK) (_:XK):Prop
 | mk (a dp do_:Addr) (pw ph:Int) (ps:am) (ss:ai) (b:Bool) (r:Int) (e_:vs=(Bu bb)) (r_:Pic t H a dp do_ pw ph ps/\qz/\(aq,1<=r,r<=ph,ie∉ss,zct,∀ H',(bv,zbf,Pic t H' a dp do_ pw ph ps,Sts H' do_ (ss++[ie]),l9)))
inductive xus (t:Adr) (vs:af) (H:Hp) (Q:VK) (_:XK):Prop
 | mk (a dp do_:Addr) (pw ph:Int) (ps:am) (ss:ai) (b:Bool) (r:Int) (e_:vs=(Bu bb)) (r_:Pic t H a dp do_ pw ph ps/\(aq,qz,1<=r,r<=ph,ie∈ss,∀ H',(bv,zbf,Pic t H' a dp do_ pw ph ps,Sts H' do_ (ss.filter fun s=>dA (s≠ie)),l9)))
inductive xs2 (t:Adr) (vs:af) (H:Hp) (Q:VK) (_:XK):Prop
 | mk (a dp do_:Addr) (pw ph:Int) (ps:am) (ss:ai) (e_:wG) (r_:Pic t H a dp do_ pw ph ps/\qz/\∀(l:Addr) (ss':ai) (qs:ax),(bc,ou,xa7 H ss' qs,zdr,ss'.Pairwise xb3,fF l (eQ l jS)))
theorem Pic.but {t:Adr}{H H':Hp}{a dp do_:Addr}{w h:Int}{ps:am}{kvs:dc} (e:w4 do_) (s:zbf) (p:Pic t H a dp do_ w h ps):Pic t H' a dp do_ w h ps :=
 ⟨let ⟨dx,x⟩:=p.ins; lF W9,let ⟨k,x,q⟩:=p.pl; ⟨k,W9,q.keep fun b xs x=>W9⟩,p.w1,p.w2,p.h1,p.h2,p.len⟩
theorem ok_j (T:aF):FnOk true P w K mg base aD 5 t.f_j t.d_j oU (xup t):=by
 refine T.F_j.okn (k:=4) sc_j (aJ h) (fun cdv A outer s H vs Q E hr h=>?_)
 .obtain ⟨a,dp,do_,pw,ph,ps,ss,b,r,rfl,_⟩:=h;rfl
 .obtain ⟨a,dp,do_,pw,ph,ps,ss,b,r,rfl,h⟩:=h;refine⟨_,xh (xap (xaf aM T.c_a T.m_d (ok_d T) aA T.b_d .nil xq nT))
   (xh (jI (xcu (xet gz B7 bi)) mI)
   (xl (qV bi B7 (xck)))),?_⟩
  refine sq3 ?_; intros; obtain⟨pic,st,r1,r2,no,len,q⟩:47:=h;ext uJ dx;obtain⟨kvs,hk,ek,nd,l32⟩:64:=id st;show(zhx,⟨a,dx,_,rfl,hp,bn,a,dp,do_,pw,ph,ps,b,r,rfl,pic,r1,r2,qH⟩);have n0:valV kvs (x0 ie)=none:=xpb ek no;show(br,⟨a,_,dx,_,_,rfl,G4 ⟨do_,none,rfl,(cT n0 (BG,x0 ie,hk2,g2)),false,rfl,n8⟩⟩,⟨a,_,dx,_,_,rfl,⟨46,hp2,T.c_a,T.n_bv,lkO,cS,Ru⟩⟩);show(Gu,i6 H2 q3 rG r,hq3);have kl:kvs.length=ss.length:=by
   show(zq,uD ek)
  refine(ua,do_,DPut.t (k:=x0 ie) (fK hk2) g3 (Fs kvs.length 33));have bt:fP do_ tM (p5 H3 do_ (.dT (putK kvs (x0 ie) (.bl true)))):=fun c u nc e=>by
   show(cE,nc,fK (dy jy))
  refine zjY ?_ ?_
  .rw [xc1 _ n0,Zs,Zs,ek];rfl
  .rw [ZP];show(aH,nd,aj,fun x hx y hy=>(aB,Zp.mp hy,fun e=>no (e▸hx)))
  .rw [Zr];show ss.length+1<=32;omega
theorem ok_r (T:aF):FnOk true P w K mg base aD 5 t.f_r t.d_r oU (xus t):=by
 refine T.F_r.okn (k:=4) sc_r (aJ h) (fun cdv A outer s H vs Q E hr h=>?_)
 .obtain ⟨a,dp,do_,pw,ph,ps,ss,b,r,rfl,_⟩:=h;rfl
 .obtain ⟨a,dp,do_,pw,ph,ps,ss,b,r,rfl,h⟩:=h;refine⟨_,xh (xap (xaf aM T.c_a T.m_d (ok_d T) aA T.b_d .nil xq nT))
   (xh (jI (xcu (xdr gz B7 bi)) mI)
   (oz (xrd gz bi B7 GW))),?_⟩
  refine sq3 ?_; intros; obtain⟨pic,st,r1,r2,yes,q⟩:46:=h;ext uJ dx;obtain⟨kvs,hk,ek,nd,l32⟩:64:=id st;obtain⟨v,hv⟩:=xl4 ek yes;show(zhx,⟨a,dx,_,rfl,hp,bn,a,dp,do_,pw,ph,ps,b,r,rfl,pic,r1,r2,qH⟩);show(br,⟨a,_,dx,_,_,rfl,G4 ⟨do_,ud,rfl,(cT hv (BG,x0 ie,hk2,g2)),false,rfl,n8⟩⟩,⟨a,_,dx,_,_,rfl,G4 (ib,do_,rfl,.inr (gD,.inl hk2),cS,Ru)⟩);show(Gu,i6 H2 q3 rG r,hq3);refine⟨125,kvs,x0 ie,q3,v,fK hk2,rfl,g3,hv,?_⟩;have bt:fP do_ tM (p5 H3 do_ (.dT (xcs kvs (x0 ie)))):=fun c u nc e=>by
   show(cE,nc,fK (dy jy))
  refine (zjY,nd.filter _,ZN rA l32);exact xph ek
theorem ok_n (T:aF):FnOk true P w K mg base aD 1 t.f_n t.d_n iD (xs2 t):=by
 refine T.F_n.okn (k:=0) sc_n (aJ h) (fun cdv A outer s H vs Q E hr h=>?_)
 .obtain ⟨a,dp,do_,pw,ph,ps,ss,rfl,_⟩:=h;rfl
 .obtain ⟨a,dp,do_,pw,ph,ps,ss,rfl,h⟩:=h;show(mF,xak (xkt rfl) rfl T.n_sorted PyProof.Rows.Boot.«sorted» (fX bi));ext oE pic st;ext uJ dx;obtain⟨kvs,hk,ek,nd,l32⟩:64:=id st;have kl:kvs.length=ss.length:=by
   show(zq,uD ek)
  refine⟨a,_,dx,_,_,rfl,mE hp T.n_bv lkO ⟨do_,kvs,[false,true],rfl,hk,aa,Sb,az,fun l ts fr tm pm pw'=>?_⟩⟩
  .have m:aL∈kvs.map (·.1):=Zg.mpr (dH p hp');rw[ek] at m;show(Bc,s,e,Zg.mp m);rw[<- e];rfl
  rw[ek] at pm;have back:∀ t∈ts,x0 (unK t.1)=t.1:=fun t ht=>by
   show(Bc,s,e,Zg.mp (pm.mem_iff.mp (Zg.mpr (dH t ht))));rw[<- e,xkw]
  have z:=q l ((ts.map (·.1)).map unK) (ts.map (·.2)) fr ?_ ?_ ?_
  .rw [Z4] at z;exact z
  .clear pm pw'
   induction ts with
   | nil=>ext ia
   | cons t ts ih =>
    refine .cons ?_ (ih (fun x hx=>tm x (Zl _ hx)) fun x hx=>back x (Zl _ hx));have e:=tm t Zm;rw[<- back t Zm] at e;exact e
  .have z2:=pm.map unK;have e2:(Kj).map unK=ss:=by
    rw[Z4,(dU,unK∘x0,id,funext xkw)];exact YR _
   ext b6 e2 z2 z2
  .rw [ZW] at pw';rw[Z4,ZW];refine pw'.imp_of_mem fun {x y} hx hy hxy=>xqg ?_;show lexK (x0 (unK ba)) (x0 (unK y.1))=true;show(cq,back x hx,back y hy,hxy)
noncomputable def SsOk (h:Int) (ss:ai):Prop:=ss.Nodup/\Pg/\∀ s∈ss,(rO d9 d9 h)
theorem xa7.get {H:Hp}{ss:ai}{qs:ax} (h:D4) {i:Nat}{q:Addr} (e:Bo):∃ s,(aU ss s)/\Bz:=by
 induction h generalizing i with
 | nil=>ext rV
 | @cons s q' ss qs h _ ih =>
  cases i with
  | zero =>
   ext KC s
  | succ j=>ext wv
theorem xvl {α β:Type}{f:α->β} (inj:∀ a b,f a=f b->a=b) {l:bZ} (h:l.Nodup):zay:=by
 rw[Jn,ZW];exact h.imp fun hne e=>hne (inj _ _ e)
theorem xb4 {α:Type}{R:bA α α} (as:∀ a b,R a b->¬ R b a):∀{l l':bZ},(bv,l.Perm l',l.Pairwise R,l'.Pairwise R,l=l')
 | [],l',p,_,_=>(JG.nil_eq p)
 | a::t,[],p,_,_=>absurd p.symm (by intro z; exact absurd (JG.nil_eq z) aj)
 | a::t,b::t',p,h,h'=>by
  show(ah,h1,Yc.mp h,h2,Yc.mp h');by_cases e:a=b
  .ext cR;rw[xb4 as ((List.perm_cons a).mp p) h1.2 h2.2]
  .have ma:a∈t':=by
    have:=p.mem_iff.mp (Zm (a:=a) (l:=t));rcases dC this with z|z
    .ext eY z e
    .exact z
   have mb:b∈t:=by
    have:=p.mem_iff.mpr (Zm (a:=b) (l:=t'));rcases dC this with z|z
    .show(eY,z.symm,e)
    .exact z
   show(eY,h2.1 a ma,as _ _ (h1.1 b mb))
theorem xcy (a b:Seat) (h:xb3 a b):¬ xb3 b a:=by
 rintro (⟨x,y⟩|⟨x,y⟩)<;>rcases h with⟨z,w⟩|⟨z,w⟩
 .ext zp x w
 .rw [x,y] at z; cases z
 .rw [z,w] at x; cases x
 .omega
noncomputable def xcj (s:Seat):DV:=.tup (m7,iE ir,d9)
theorem xos {s t:Seat}:xcj s=xcj t↔s=t:=by
 constructor
 .intro h
  unfold xcj at h;simp only[DV.tup.injEq,QA.injEq,DV.str.injEq,DV.int.injEq,and_true] at h;exact Prod.ext (xgf h.1) h.2
 .intro h
  rw[h]
theorem xhj (s t:Seat):(zF,dEq (xcj s) (xcj t),s=t):=xg9 rfl rfl xos
theorem xft (ss:ai) (s:Seat):(ss.map xcj).any (ao,dEq z (xcj s))=decide wz:=by
 ext Xj
 .ext Bd z hz e;ext dY t ht hz;show(uB,xhj,decide_eq_true_iff,e,e▸ht)
 .intro h
  exact(cD,Lm s h,xcq _)
theorem xfn {K:Zd}{H:Hp}{q:Addr}{s:Seat} (h:Bz):lK 1 (.ref q) (xcj s):=by
 refine .tup (cN h) rfl (bL j x d h1 h2)
 match j,h1,h2 with
 | 0,h1,h2=>cases h1; cases h2; exact .str
 | 1,h1,h2=>cases h1; cases h2; exact .int
 | j+2,h1,h2=>simp[xas] at h1
theorem xa7.dv {K:Zd}{H:Hp}{ss:ai}{qs:ax} (h:D4) {l:Addr} (e:EH):lK 2 pY (.lst (ss.map xcj)):=by
 refine .lst (aW e) (by rw[Za,Za,h.len]) (bL j x d h1 h2);rw[Zc] at h1 h2;ext nH q hq h1;ext nH p hp h2;show(ag,p',hp',e',h.get hq);ext bI hp hp' hp';exact xfn e'
theorem xa7.pick {H:Hp}:zfP ai (∀(j:Nat) (y:V) (s:Seat),(Am,ss,s,∃ q,vS/\Bz)) zdg
 | [],[],_,_=>eX [] .nil
 | [],cM,h,_=>ft
 | cM,[],h,_=>ft
 | s::ss,mQ,h,k=>by
  show(ag,q,e,hq,k 0 y s rfl rfl);show(ag,rs,e2,r,xa7.pick (ss:=ss) (ys:=ys) xB fun j y s h1 h2=>k fW y s qw Dj)
  show(aH,q::rs,d4 e e2,.cons hq r)
theorem xh5 {α:Type} [Ap]:∀{l m:bZ},l.Nodup->(∀ x∈l,x∈m)->l.length<=m.length
 | [],m,_,_=>jg
 | a::l,m,nd,sub=>by
  obtain⟨h1,h2⟩:=ZC.mp nd;show(ah,ha,sub a Zm,z,xh5 (l:=l) (m:=m.erase a) h2 (BZ,(Wb (fun e:x=a=>h1 (e▸hx))).mpr (sub x (Zl _ hx))));rw[List.length_erase_of_mem ha] at z;have:=List.length_pos_of_mem ha;rw[ZD];omega
theorem xm1 {h:Int}{ss:ai} (h16:jE) (o:SsOk h ss) (l:32<=ss.length) (s:Seat) (r1:1<=d9) (r2:d9<=h):wz:=by
 by_cases c:wz
 .exact c
 have all:∀ x∈s::ss,x∈((Zu 16).map fun i:Nat=>(true,cH+1))++(Zu 16).map fun i:Nat=>(false,cH+1):=fun x hx=>by
  have b:rO cX cX h:=by
   rcases dC hx with z|z
   .rw [z]; ext aS r1 r2
   .exact o.2.2 x z
  obtain⟨xb,xr⟩:=x;have i1:(xr-1).toNat∈Zu 16:=ZG.mpr zmE;have i2:(cQ,(xr-1).toNat)+1=xr:=zmE
  rw[Zy];cases xb
  .exact .inr (Zg.mpr (cD,i1,eG i2))
  .exact .inl (Zg.mpr (cD,i1,eG i2))
 have z:=xh5 (ZC.mpr ⟨c,o.1⟩) all;simp at z;omega
structure PtOk (w h:Int) (p:Pt):Prop where
 nm:nO p.nm
 x1:1<=p.x
 x2:p.x<=w
 y1:1<=p.y
 y2:p.y<=h
 sd:(zaK,p.sd,p.sd="both")
 l1:1<=p.lo
 l2:p.lo<=p.hi
 l3:p.hi<=h
structure xbv (w h:Int) (ps:am):Prop where
 ok:∀ p∈ps,PtOk w h p
 nn:(ps.map (·.nm)).Nodup
 nx:(ps.map (·.x)).Nodup
 ny:(ps.map (·.y)).Nodup
 le:ps.length<=12
theorem xc4 {α β:Type} (f:α->β) {ps:bZ} (nd:(ps.map f).Nodup) {i:Nat} (hi:i<ps.length):∀ p∈yi,f p≠f ps[i]:=fun p hp e=>by
 have z:=nd;rw[<- Yf i ps,JK hi,Zs,Zo,ZP] at z;exact z.2.2 _ Kv _ Zm e
theorem xmo {α β γ:Type}{f:α->β}{g:α->γ}{k:β->γ} (e:∀ a,g a=k (f a)) (inj:ME) {l:bZ} (h:zay):(l.map g).Nodup:=by
 show(EK,xvl inj h,Z4);show(aQ,(dU,g,k∘f,funext e),z)
theorem xdo {ps:am} (nd:(ps.map (·.nm)).Nodup) {p:Pt} (hp:y9):(ae,ps.find? (fun q=>eJ q.nm p.nm),p):=by
 induction ps with
 | nil=>simp at hp
 | cons a ps ih =>
  ext vz;rcases E3 with z|z
  .subst z;rw[JV aj]
  .have ne:¬ a.nm=p.nm:=fun y=>nd.1 (y▸Zg.mpr (dH p z));show(aQ,Qa (by simpa using ne),ih kE z)
theorem xbv.filt {w h:Int}{ps:am} (o:RY) (f:Pt->Bool):xbv w h (ps.filter f) :=
 ⟨(dS,o.ok p (rb hp)),o.nn.sublist (We.map _),o.nx.sublist (We.map _),o.ny.sublist (We.map _),ZN rA o.le⟩
noncomputable def xa0 (p:Pt) (s:Seat):Bool:=((eJ p.sd "both")||(dA (p.sd=xau ir)))&&((dA (p.lo<=d9))&&(dA (d9<=p.hi)))
theorem xh8 (sd w:Str):inV (.str sd) [D8,.str w]=((eJ sd "both")||(eJ sd w)):=by
 have e:∀ a b:Str,zF Fx (b=a):=fun a b=>by
  ext Hw Js beq_iff_eq;exact eq_comm
 show (((dD "both") == sd)||((w == sd)||false))=_;rw[Bool.or_false,e,e]
noncomputable def xgh (s2:ai) (p:Pt) (i:Nat):Bool:=match s2[i]? with|some s=>tQ|none=>false
theorem xgc {s2:ai}{p:Pt}{s:Seat}{i:Nat} (h:aU s2 s):xgh s2 p i=tQ:=by
 unfold xgh;rw[h]
inductive xvj (t:Adr) (vs:af) (H:Hp) (Q:VK) (_:XK):Prop
 | mk (a dp do_:Addr) (pw ph:Int) (ps:am) (ss:ai) (pt:Pt) (b:Bool) (i:Int) (e_:vs=[bb,hW,rG,dI]) (r_:Pic t H a dp do_ pw ph ps/\qz/\(G6,nO pt.nm,zbL,1<=i,i<=ph,((mO (b,i) ss)&&xa0 pt (b,i))))
inductive xux (t:Adr) (vs:af) (H:Hp) (Q:VK) (_:XK):Prop
 | mk (a dp do_:Addr) (pw ph:Int) (ps:am) (ss:ai) (pt:Pt) (e_:vs=[bb,hW]) (r_:Pic t H a dp do_ pw ph ps/\(aq,qz,SsOk ph ss,nO pt.nm,zbL,∀(H':Hp) (l:Addr) (srt:ai) (rs:ax),bF->ou->(j3,Ik,Oi,gR l zqv,xa7 H' WV rs,l)))
theorem ok_ab (T:aF):FnOk true P w K mg base aD 5 t.f_ab t.d_ab CO (xvj t):=by
 refine T.F_ab.okn (k:=4) sc_ab (aJ h) (fun cdv A outer s H vs Q E hr h=>?_)
 .obtain ⟨a,dp,do_,pw,ph,ps,ss,pt,b,i,rfl,_⟩:=h;rfl
 .obtain ⟨a,dp,do_,pw,ph,ps,ss,pt,b,i,rfl,h⟩:=h;refine⟨_,xh (xap (xaf aM T.c_a T.m_c (ok_c T) aA T.b_c .nil xq fD))
   (xh (xap (xaf aM T.c_a T.m_d (ok_d T) aA T.b_d .nil xq tH))
   (xh (Od (re bi cF) 4 sc_ab.nd (AC 5 sc_ab.nd 6 (gG 7 sc_ab.nd 8)))
   (cC (xc2 (xvb (xet gz (xal tH) bi)) (xc2 (xcv xji (pv 6) (xal (xa (xa6) (fc 2))) jz) (xei (xhz xgs xgs (pv 7) fJ (pv 8)))))))),?_⟩
  refine sq4 ?_; intros; obtain⟨pic,st,hn,hf,i1,i2,q⟩:47:=h;ext CI dx0;show(br,⟨a,dx0,_,rfl,hp,bn,a,dp,do_,pw,ph,ps,pt.nm,pt,rfl,pic,hn,hf,?_⟩,⟨a,dx0,_,rfl,hp,bn,a,dp,do_,pw,ph,ps,b,i,rfl,pic,i1,i2,qH⟩);ext N9 e0;ext ah hp1 gQ hk1 yS;show(zhR,⟨a,_,_,_,_,rfl,mE hp1 T.n_bq lkP ⟨dp,Fd,rfl,(cT,e0,BC pD hk1),q0,_,rfl,cN (iO hq0),rfl,?_⟩⟩,i6 H1 q1 rG i);show(ah,hp2,dy hp1,s02,s1.trans s2);obtain⟨ko,hko,ek,nd,l32⟩:64:=id st;show(ah,hko2,s02 _ _ hko,qq,q);by_cases cin:(b,i)∈ss
  .obtain ⟨v,hv⟩:=xl4 ek cin;show(zoN,⟨a,_,_,_,_,rfl,G4 ⟨do_,ud,rfl,(cT hv (BG,x0 (b,i),hko2,g2)),true,rfl,iteT ?_⟩⟩,fA H2 q3 [D8,rG]);show(Al,s3,hq3,g3,z,qq H3 (s02.trans s3));rw[AQ cin,JX] at z;unfold xa0 at z;refine mG q3 _ (bR,.inr (SqT.of g3),rfl,rfl,vQ)
   .ext zom
    rw[c,JX] at z;show(vT,ub c2 c2)
    .rw [c2,JX] at z;exact z
    .rw [Jb.mpr c2,YV] at z;exact z
   .ext zom
    show(yh,Jb.mpr c,YV)
  .have n0:valV ko (x0 (b,i))=none:=xpb ek cin;have z:=qq H2 s02;rw[sJ cin,YV] at z;exact⟨a,_,_,_,_,rfl,G4 ⟨do_,none,rfl,(cT n0 (BG,x0 (b,i),hko2,g2)),false,rfl,iteF z⟩⟩
theorem ok_l (T:aF):FnOk true P w K mg base aD 6 t.f_l t.d_l jV (xux t):=by
 refine T.F_l.okn (k:=5) sc_l (aJ h) (fun cdv A outer s H vs Q E hr h=>?_)
 .obtain ⟨a,dp,do_,pw,ph,ps,ss,pt,rfl,_⟩:=h;rfl
 .obtain ⟨a,dp,do_,pw,ph,ps,ss,pt,rfl,h⟩:=h;refine⟨_,xh (xap (xaf aM T.c_a T.m_c (ok_c T) aA T.b_c .nil xq fD))
   (cC (xa4 rfl (xaw (zs:=["side", "row"]) (ys:=["name", "self"]) (fr:=[1,0]) (N0:=jV) (sc0:=xm s_l) aG rfl rfl rfl) (xaj (xah aM T.c_a T.m_n FG aA T.b_n .nil xq)) zK B4 (fun _ _ _ _ _=>xes (xbf (xaf fJ T.c_a T.m_ab (ok_ab T) aA T.b_ab .nil xq (kg 2 0 1)))) (o4 pH))),?_⟩
  refine sq2 ?_; intros; obtain⟨pic,st,sok,hn,hf,q⟩:46:=h;ext uJ dx0;show(br,⟨a,dx0,_,rfl,hp,bn,a,dp,do_,pw,ph,ps,pt.nm,pt,rfl,pic,hn,hf,?_⟩,⟨a,dx0,_,rfl,hp,bn,a,dp,do_,pw,ph,ps,ss,rfl,pic,st,fun l1 srt qs1 fr1 sl1 pm1 pw1=>?_⟩);show(V9,l1,.lst (qs1.map V.ref),fr1);show(ah,sl1',sl1.keep (Same.tups s1),ql,sl1.len);show(qX,sl32,DD,(aB,pm1.length_eq,bg sok),gH l1 g1 l2 hl2,xdw (aW g1) (gC,Fs qs1.length 33) hl2 (xgh srt pt) (uo,∃ s q,wK srt s vS Bz) (fun i y H H' tp ⟨s,q,e1,e2,e3⟩=>(bD,s,q,e1,e2,jO e3)) (fun i x H4 hx s4 N M hN hM=>?_) (fun ys H4 s4 el4 ly f4=>?_))
  .rw [Zc] at hx;ext Ex;show(ag,s0,hs0,ep,sl1'.get ho);have s04:=s1.trans s4;have min:s0∈ss:=pm1.mem_iff.mp (Zj hs0);obtain⟨sr1,sr2⟩:=sok.2.2 s0 min;show(pZ,o,cm ep,⟨a,dx0,_,rfl,s04 _ _ hp,bn,a,dp,do_,pw,ph,ps,ss,pt,s0.1,s0.2,rfl,pE s04,st.same s04,hn,hf,sr1,sr2,au H5 s5⟩)
   .refine vQ
    .ext zhu;ext fT cS q6 hq6;exact hN _ _ (s5.trans (bM hq6)) (aB,xgc hs0,c) (eF s0 q6 hs0 xk)
    .ext zhu;exact hM _ s5 (OG,xgc hs0,c)
  .have fi:=xgt (xa0 pt) (as:=srt) (p:=xgh srt pt) (fL,s,hs,xgc hs);rw[Za,ql] at ly f4;obtain⟨rs4,e4,sts4⟩:62:=xa7.pick (H:=H4) (ss:=WV) (ys:=ys) (bW ly fi.1) (fun j y s hy hs=>by
    have hj:j<((Zu srt.length).filter (xgh srt pt)).length:=by
     ext kh ly Ln
    obtain⟨s',q',h1,h2,h3⟩:83:=f4 j y _ hy Ct;rw[fi.2 j _ Ct,hs] at h1;cases h1;ext aH q' h2 h3)
   subst e4;exact q H4 l2 srt rs4 (s1.trans s4) (s1.free hl2) pm1 pw1 el4 sts4
structure Dr (t:Adr) (H:Hp) (a dp do_:Addr) (w h:Nat) (ps:am) (ss srt:ai):Prop where
 pic:Pic t H a dp do_ lD iL ps
 sts:qz
 ok:SsOk iL ss
 pm:Ik
 lt:Oi
 nm:∀ p∈ps,(nO p.nm)
theorem Dr.same {t:Adr}{H H':Hp}{a dp do_:Addr}{w h:Nat}{ps:am}{ss srt:ai} (d:Dr t H a dp do_ w h ps ss srt) (s:bF):Dr t H' a dp do_ w h ps ss srt:=⟨Pic.same s d.pic,d.sts.same s,d.ok,d.pm,d.lt,d.nm⟩
theorem Pl.drop {H:Hp}{ps:am}{kvs:bw} (h:sN) (nm:Str):Pl H zln (xcs kvs (.inr nm)):=by
 induction h with
 | nil=>ext ia
 | @cons p q ps kvs h r ih =>
  unfold xcs at ih ⊢;ext IZ
  .rw [Jd (cI c),Jd (cI c)];exact ih
  .have c':¬ (Ja p.nm:Key)=Ja nm:=(ao,c (Ja.inj z));rw[Jc jU,Jc (by simpa using c')];ext Fn
inductive xuh (t:Adr) (vs:af) (H:Hp) (Q:VK) (_:XK):Prop
 | mk (a dp do_:Addr) (pw ph:Int) (ps:am) (nm:Str) (pt:Pt) (e_:R0) (r_:(aP,Pic t H a dp do_ pw ph ps,BO,Em,(XN,Pic t H' a dp do_ pw ph zln)))
theorem ok_ar (T:aF):FnOk true P w K mg base aD 4 t.f_ar t.d_ar jV (xuh t):=by
 refine T.F_ar.okn (k:=3) sc_ar (aJ h) (fun cdv A outer s H vs Q E hr h=>?_)
 .obtain ⟨a,dp,do_,pw,ph,ps,nm,pt,rfl,_⟩:=h;rfl
 .obtain ⟨a,dp,do_,pw,ph,ps,nm,pt,rfl,h⟩:=h;refine⟨_,xh (xap (xaf aM T.c_a T.m_c (ok_c T) aA T.b_c .nil xq fD))
   (oz (xqw bi cF GW)),?_⟩
  refine sq2 ?_; intros; ext j4 pic hn hf q h;obtain⟨⟨dx,hp⟩,⟨kvs,hk,pl⟩,w1,w2,h1,h2,le⟩:=ul;ext N9 e;show(br,⟨a,dx,_,rfl,hp,bn,a,dp,do_,pw,ph,ps,nm,pt,rfl,pic,hn,hf,?_⟩,⟨a,_,dx,_,_,rfl,Ag (gT,dp,.inl (gD,.inl hk),⟨104,kvs,.inr nm,Fd,hk,rfl,e,?_⟩)⟩);have bt:∀ b u,b≠dp->iY->(ae,upd H dp (.dK (xcs kvs (.inr nm))) b,u):=fun b u nb e=>by
   ext LW
  refine q _ bt ⟨(lF,bt _ _ (ne_f hp hk) hp),(cD,xk,(pl.drop nm).keep (iI,bt _ _ (ne_f e hk) e)),w1,w2,h1,h2,ZN rA le⟩
noncomputable def mvP (nm:Str) (x y:Int) (p:Pt):Pt:=jq p.nm nm WE p
theorem Pl.mv {H H':Hp}{nm:Str}{x y:Int}{q1:Addr}{ps:am}{kvs:bw} (h:sN) (tp:jZ) (hq:∀ p∈ps,p.nm=nm->(gR q1 (.tup (ptV WE)))):Pl H' (ps.map (mvP nm x y)) (kvs.map (VE nm q1)):=by
 induction h with
 | nil=>ext ia
 | @cons p q ps kvs h r ih =>
  have ih':=ih fun p' hp'=>hq p' (Zl _ hp');rw[Zo,Zo];ext IZ
  .rw [B1 c,dU HN WE rB];show(rS,hq p Zm c,ih')
  .rw [ay (ao,c (Ja.inj z)),dU HN p ue];show(rS,jO h,ih')
theorem xvk {ps:am} (nd:(ps.map (·.nm)).Nodup) {p q:Pt} (hp:y9) (hq:q∈ps) (e:p.nm=q.nm):p=q:=by
 induction ps with
 | nil=>exact (nomatch hp)
 | cons a ps ih =>
  ext vz;rcases E3 with z|z<;>rcases dC hq with z2|z2
  .rw [z,z2]
  .ext zhh
  .exact absurd (Zg.mpr ⟨p,z,bW e z2⟩) nd.1
  .exact ih kE z z2
inductive xu5 (t:Adr) (vs:af) (H:Hp) (Q:VK) (_:XK):Prop
 | mk (a dp do_:Addr) (pw ph:Int) (ps:am) (pt:Pt) (i j:Int) (e_:vs=[bb,hW,dI,.int j]) (r_:Pic t H a dp do_ pw ph ps/\(ps.map (·.nm)).Nodup/\(aP,nO pt.nm,zbL,1<=i,(aq,i<=pw,1<=j,j<=ph,(∀ p∈ps,p.nm≠pt.nm->p.x≠i/\p.y≠j),(XN,Pic t H' a dp do_ pw ph (ps.map (mvP pt.nm i j))))))
theorem ok_as (T:aF):FnOk true P w K mg base aD 4 t.f_as t.d_as qr (xu5 t):=by
 refine T.F_as.okn (k:=3) sc_as (aJ h) (fun cdv A outer s H vs Q E hr h=>?_)
 .obtain ⟨a,dp,do_,pw,ph,ps,pt,i,j,rfl,_⟩:=h;rfl
 .obtain ⟨a,dp,do_,pw,ph,ps,pt,i,j,rfl,h⟩:=h;refine⟨_,xh (xap (xaf aM T.c_a T.m_c (ok_c T) aA T.b_c .nil xq fD))
   (xh (xap (xaf aM T.c_a T.m_k (ok_k T) aA T.b_k .nil xq tH))
   (xh (xap (xaf aM T.c_a T.m_e (ok_e T) aA T.b_e .nil xq II))
   (xl (qV bi cF (xu xer (xal tH) (xea xo9 (re bi cF) (xd9 (xo)) xfp)))))),?_⟩
  refine sq4 ?_; intros; obtain⟨pic,nd,hn,hf,i1,i2,⟨j1,j2,un,q⟩⟩:47:=h;obtain⟨⟨dx0,hp⟩,⟨kvs,hk,pl⟩,w1,w2,h1,h2,le⟩:=ul;have hpt:=Z7 hf;refine⟨a,dx0,_,rfl,hp,bn,a,dp,do_,pw,ph,ps,pt.nm,pt,rfl,pic,hn,hf,?_⟩;show(br,⟨a,dx0,_,rfl,hp,bn,a,dp,do_,pw,ph,ps,i,j,rfl,pic,i1,i2,j1,j2,?_⟩,⟨a,dx0,_,rfl,hp,bn,a,dp,do_,pw,ph,ps,pt.nm,i,j,rfl,pic,un,qH⟩);ext N9 e0;ext ah hp1 gQ hk1 yS;ext fT cS q1 hq1;generalize eu:i6 H1 q1 dI j=H2;show(Al,s2,hq1,g2,hp2,dy hp1);show(wE,hk2,dy hk1,hq2,dy (iO hq0),⟨a,_,_,_,_,rfl,mE hp2 T.n_bq lkP ⟨dp,Fd,rfl,(cT,e0,BC pD hk2),2,rfl,q0,ptV pt,rfl,cN hq2,(ao,absurd z.1 (by show ¬ ((2:Nat)=0); decide)),Ru⟩⟩);have s3:Same H2 zbC:=bM hq3;show(mX,g3,upd H2 q3 (.tup MM) q3,some (.tup MM),xk,cV q1 q3 _ MM ⟨47,rfl,cN E2,cN g3,aj,(G8,2+3),dF,fun _ q4 hq4=>?_⟩);have s4:=s3.trans (xw (o:=Ms) kN hq4);have g4:kZ zbC q4 Ms q4 Ms:=xk;change _ at g4;show(wE,hp4,cm hp2,hk4,cm hk2,⟨a,_,_,_,_,rfl,mE hp4 T.n_bq lkP (ua,dp,yE pD hk4 (ZQ (zdI:kvs.length<13) az))⟩);have ek:(RS pD q4)=kvs.map (VE pt.nm q4):=by
   unfold putK;rw[xdj,e0];rfl
  rw[ek];have s04:=s1.trans (s2.trans s4);have bt:∀ b u,b≠dp->iY->(oB (upd zbC q4 Ms) dp (.dK (kvs.map (VE pt.nm q4)))):=fun b u nb e=>by
   show(cE,nb,s04 _ _ e)
  refine q _ bt ⟨⟨dx0,bt _ _ (ne_f hp hk) hp⟩,(cD,xk,pl.mv (iI,bt _ _ (ne_f e hk) e) (aK p hp' ep)),w1,w2,h1,h2,gC le⟩;show(cq,xvk nd hp' hpt ep,kB (xi (fK hk2) hq4),g4)
inductive xu2 (t:Adr) (vs:af) (H:Hp) (Q:VK) (_:XK):Prop
 | mk (w h:Int) (l m:Addr) (ps:am) (qs:ax) (ss:ai) (rs:ax) (e_:vs=[.int w,.int h,pY,.ref m]) (r_:aP (aP,1<=w,kn,1<=h,jE) EH DX (aq,RY,zqo m,zdg,SsOk h ss,∀ H' a dp do_,bF->(bo a)->(j3,bo dp,Ty,Pic t H' a dp do_ w h ps,Sts H' do_ ss,a)))
theorem ok_ag (T:aF):FnOk true P w K mg base aD 6 t.f_ag t.d_ag UA (xu2 t):=by
 refine T.F_ag.okn (k:=5) sc_ag (aJ h) (fun cdv A outer s H vs Q E hr h=>?_)
 .obtain ⟨w,ph,l,m,ps,qs,ss,rs,rfl,_⟩:=h;rfl
 .obtain ⟨w,ph,l,m,ps,qs,ss,rs,rfl,h⟩:=h;refine⟨_,xh (pS 4 sc_ag.nd (xd7 T.k_a (ok_au T) aA rfl T.g_a T.b_au .nil xq pH))
   (xh (Aa Eo (AC 5 sc_ag.nd 6 (AC 7 sc_ag.nd 8 (gG 9 sc_ag.nd 10))) (oz (xaf dw T.c_a T.m_b (ok_b T) aA T.b_b .nil xq (o7 qm jL (o7 (pv 7) (pv 8) (o7 (pv 9) (pv 10) (xg)))))))
   (xh (Aa (xaj (pv 3)) (gG 11 sc_ag.nd 12) (oz (xaf dw T.c_a T.m_j (ok_j T) aA T.b_j .nil xq (gm 11 12))))
   (tt 4))),?_⟩
  refine sq4 ?_; intros; obtain⟨⟨w1,w2,h1,h2⟩,hl,pts,pok,hm,sts,⟨⟨snd,sle,srow⟩,q⟩⟩:47:=h;show(zfl,⟨46,xk,w1,w2,h1,h2,fun H5 dp do_ hdp5 hdo5 s6 pic5 hdt=>tS⟩,Lx);have up:gY (tY (qW H dx a) a zbI b) cZ:=fun b z=>by
   cases e:H b with
   | none=>rfl
   | some u=>show(zdO,om hx)
  show(ah,fdp,up _ hdp5,fdo,up _ hdo5);show(wE,pl,pts.len,sl,sts.len,nK l (k5 _ _ hl))
  show(MA,zlv (jc,Z,[Cb,BT,zi,aC m,dJ,v5,v6,v7,v8,v9,v10,v11,v12],tT,Pic t H2 a dp do_ w ph yi,H2 do_=some (.dT [])))
  show(zR,xO,(iM ⟨124,_,_,_,_,rfl,k5,by simpa using pic5,hdt⟩),(fun _ _ _ _ ⟨_,_,_,_,_,_,_,_,_,z,_⟩=>aW (z _ _ hl)))
  .rintro i v Z H2 hv (⟨v5,v6,v7,v8,⟨v9,v10,v11,v12,rfl,s2,pic2,hd2⟩⟩:121);rw[Zc] at hv;ext nH z hz hv;show(ag,p,hp,ez,pts.get hz);ext nF hi ep hp;have ok:=pok.ok p (Zj hp);obtain⟨⟨dx2,hp2⟩,⟨kvs,hk2,_⟩,_⟩:=id pic2;show(dN,ple,pok.le,kL z (dy ez));show(br,⟨a,dx2,_,rfl,hp2,bn,?_⟩,⟨a,dp,do_,w,ph,yi,p.nm,p.x,p.y,p.sd,p.lo,p.hi,.int p.hi,rfl,⟨47,pic2,BA,ok.nm,ok.x1,ok.x2,ok.y1,⟨47,ok.y2,ok.sd,ok.l1,ok.l2,ok.l3,au p' hp',⟨?_,aK H3 k3 pic3⟩⟩⟩⟩)
   .have e:=ep.symm;ext cR;show(aH,zdM pok.nn,zdM pok.nx,zdM pok.ny)
   .rw [Jl];omega
   .refine iM ⟨124,_,_,_,_,rfl,(oA,k3 b u (xi e fdp) (s2 b u e)),?_,k3 _ _ (ne_f hd2 hk2) hd2⟩;ext cq ZR hp pic3
  .rintro Z H2 (⟨v5,v6,v7,v8,⟨v9,v10,v11,v12,rfl,s2,pic2,hd2⟩⟩:121);ext Vy; rw[Za,pl,Jf] at pic2;refine nK m (dy hm)
   let Pv (i:Nat) (Z:L2.St) (H3:Hp):Prop:=zlv (jc,Z,[Cb,BT,zi,aC m,dJ,v5,v6,v7,v8,v9,v10,v11,v12],gX H3,Pic t H3 a dp do_ w ph ps,Sts H3 do_ (ss.take i))
   show(zR,HS,(iM ⟨124,_,_,_,_,rfl,s2,pic2,ib [] hd2 rfl YD aj⟩),(fun _ _ _ _ ⟨_,_,_,_,_,_,_,_,_,z,_⟩=>aW (z _ _ hm)))
   .rintro i v Z H3 hv (⟨v5,v6,v7,v8,⟨v9,v10,v11,v12,rfl,s3,pic3,st3⟩⟩:121);rw[Zc] at hv;ext nH z hz hv;show(ag,s0,hs0,ez,sts.get hz);ext nF hi es hs0;ext Fu r s0;obtain⟨r1,r2⟩:=srow _ (Zj hs0);obtain⟨⟨dx3,hp3⟩,_,_⟩:=id pic3;have nin:ie∉ss.take i:=fun hmem=>by
     have:=xc4 id (by simpa using snd) hi _ hmem;exact this (eG es)
    refine kL z (fK ez);show(br,⟨a,dx3,_,rfl,hp3,bn,?_⟩,⟨a,dp,do_,w,ph,ps,ss.take i,b,r,rfl,⟨47,pic3,st3,r1,r2,nin,?_,b9 H4 k4 pic4 st4⟩⟩)
    .rw [Jl];omega
    .refine iM ⟨124,_,_,_,_,rfl,(zu,k4 c u (xi e fdo) (s3 c u e)),pic4,?_⟩;ext cq ZR hs0 st4
   .rintro Z H3 (⟨v5,v6,v7,v8,⟨v9,v10,v11,v12,rfl,s3,pic3,st3⟩⟩:121);rw[Za,sl,Jf] at st3;exact (q H3 a dp do_ s3 hx fdp fdo pic3 st3)
inductive xuz (t:Adr) (f:bv Int Int Pt Pt) (g:Int->Seat->Seat) (vs:af) (H:Hp) (Q:VK) (_:XK):Prop
 | mk (a dp do_:Addr) (pw ph:Int) (ps:am) (ss:ai) (e_:wG) (r_:(aq,Pic t H a dp do_ pw ph ps,qz,xbv pw ph ps,SsOk ph ss,∀(H':Hp) (a' dp' do':Addr) (ss':ai),bc bF (bo a') (bo dp') (bo do') (j3,zdr,ss'.Pairwise xb3,Pic t H' a' dp' do' pw ph (ps.map (f pw ph)),Sts H' do' (ss'.map (g ph)),a')))
theorem SsOk.perm {h:Int}{ss ss':ai} (p:zdr) (o:SsOk h ss):SsOk h ss':=⟨p.nodup_iff.mpr o.1,(aB,p.length_eq,bg o),(h7,o.2.2 s (p.mem_iff.mp hs))⟩
theorem ok_y (T:aF):FnOk true P w K mg base aD 7 t.f_y t.d_y iD (xuz t (fun _ _ p=>p) (fun _ s=>s)):=by
 refine T.F_y.okn (k:=6) sc_y (aJ h) (fun cdv A outer s H vs Q E hr h=>?_)
 .obtain ⟨a,dp,do_,pw,ph,ps,ss,rfl,_⟩:=h;rfl
 .obtain ⟨a,dp,do_,pw,ph,ps,ss,rfl,h⟩:=h;show(mF,pC (ok_ag T) hr T.g_ag T.F_ag.kp T.b_ag (xa bi (xa bi (gP (xah aM T.c_a T.m_h Cd aA T.b_h .nil xq) (xah aM T.c_a T.m_n FG aA T.b_n .nil xq)))));obtain⟨pic,st,pok,sok,q⟩:45:=h;obtain⟨⟨dx,hp⟩,_,w1,w2,h1,h2,_⟩:=ul;show(br,⟨a,_,dx,_,_,rfl,OC ⟨a,_,dx,_,_,rfl,hp,T.c_a,T.n_br,lkH,a,dx,_,rfl,hp,bn,a,dp,do_,pw,ph,ps,rfl,pic,fun H1 l1 qs s1 hl1 pt1=>?_⟩⟩,⟨a,dx,_,rfl,gQ,bn,a,dp,do_,pw,ph,ps,ss,rfl,BM,st.same s1,fun l2 ss' rs fr sl pm pw'=>?_⟩);show(aw,s2,Same H1 (upd H1 l2 (.lst (rs.map V.ref))),bM fr,⟨pw,ph,l1,l2,ps,qs,ss',rs,rfl,⟨47,bR w1 w2 h1 h2,dy hl1,pt1.keep (Same.tups s2),pok,xk,sl.keep (Same.tups s2),⟨sok.perm pm,fun H' a' dp' do' s3 f1 f2 f3 pic' st'=>?_⟩⟩⟩);exact q H' a' dp' do' ss' (s1.trans (s2.trans s3)) ((iz).free f1) ((iz).free f2) ((iz).free f3) pm pw' (zkD pic') (zkD st')
theorem xn5 {x d:Int} (h:0<d) (h2:d<=4294967296):-pV<x % d/\x % d<pV:=by
 show(ah,a,Int.emod_nonneg x (eS,d≠0),b,Wl x h);ext aS aa aa
theorem xbd (x:Int) {d:Int} (h:0<d):0<=x % d/\x % d<d:=⟨Int.emod_nonneg _ aa,Wl _ h⟩
inductive xuf (K:Zd) (vs:af) (H:Hp) (Q:VK) (_:XK):Prop
 | mk (a:Addr) (ns:df) (k:Int) (e_:vs=(m7 bb k)) (r_:(aP,PP,0<=k,k<iJ,∀ c:Int,mw c))
inductive xx9 (vs:af) (H:Hp) (Q:VK) (_:XK):Prop
 | mk (c k:Int) (e_:vs=(Cj c k)) (r_:∀ m:Int,0<=m->m<2147483587->(mw m))
inductive xtc (vs:af) (H:Hp) (Q:VK) (_:XK):Prop
 | mk (i:Int) (e_:vs=[dI]) (r_:pR true)
noncomputable def abc:Str:="abcdefghijklmnopqrstuvwxyz"
theorem xtk:abc.cps.toList=(Zu 26).map (97+·):=aG
noncomputable def ltr (i:Int):Str:=⟨#[Ek]⟩
theorem xuc {i:Int} (h0:0<=i) (h1:i<26):(ae,atI abc.cps.toList i,Ek):=by
 show(dZ,j,Jx h0);have lt:j<26:=aa
 refine xcc ?_;rw[xtk,Zc,JJ lt];rfl
theorem xsw {i j:Int} (hi:0<=i) (hj:0<=j) (h:ltr i=ltr j):i=j:=by
 unfold ltr at h;show(GV,congrArg zne h)
theorem xqh {i:Int} (h0:0<=i) (h1:i<26):isNm (ltr i)=true:=by
 unfold isNm ltr;have g1:¬ ([Ek]<[97]):=by rw[List.cons_lt_cons_iff]; rintro (z|⟨_,z⟩); omega; cases z
 have g2:¬ ([122]<[Ek]):=by rw[List.cons_lt_cons_iff]; rintro (z|⟨_,z⟩); omega; cases z
 show ((eJ 1 1)&&(zof [Ek]))=true;rw[sJ g1,sJ g2];rfl
noncomputable def xen:df:=[1,3,5,7,9,11,15,17,19,21,23,25]
theorem xsd (m:Int):∃ s:Int,atI (xen.map V.int) (m % 12)=(bz s)/\s∈xen:=by
 obtain⟨h0,h1⟩:=xbd m (qD,lE<12);obtain⟨j,hj⟩:=Jx h0;rw[hj] at h1 ⊢;have lt:j<xen.length:=(vx,j<12)
 show(aH,xen[j],xcc (d4 Zc ii),J9 lt)
inductive xsb (vs:af) (H:Hp) (Q:VK) (_:XK):Prop
 | mk (c:Int) (n:Nat) (e_:vs=(Cj c n)) (r_:n<=26/\∀(s:Int) (H':Hp) (l:Addr),(vN,s∈xen,bF,gR l (.lst ((Zu n).map zhX)),l))
inductive xq1 (vs:af) (H:Hp) (Q:VK) (_:XK):Prop
 | mk (c sz:Int) (n:Nat) (e_:vs=(BH,.int c,sz,n)) (r_:iK<=sz/\sz<=30/\∀(zs:df) (H':Hp) (l:Addr),zs.length=n->(j3 zs.Nodup znV bF (gR l WW) l))
inductive xvf (vs:af) (H:Hp) (Q:VK) (_:XK):Prop
 | mk (c:Int) (e_:vs=[.int c]) (r_:∀(w h:Int) (H':Hp) (p:Addr),1<=w->kn->(j3,1<=h,jE,bF,va p (Cj w h),p))
theorem ok_af (T:aF):FnOk true P w K mg base aD 1 t.f_af t.d_af ["_law_script", "_law_k"] (xuf K):=by
 refine T.F_af.okn (k:=0) sc_af (aJ h) (fun cdv A outer s H vs Q E hr h=>?_)
 .ext OB a ns k
 .obtain ⟨a,ns,k,rfl,h⟩:=h;refine⟨_,xh (jI (pK xfv 1 (lU 0)) (cC (xac xay aM cF hV)))
   (cC (xu xa9 (je xdv (xo) 1) (xo))),?_⟩
  refine sq2 ?_; intros; ext Au; ext j4 hs k0 k1 q h;refine(fG,a,_,.inl hs,yM);refine ite2 (du c) (du c)
  .have c':k<(cQ ns.length):=jU
   show(dZ,j,Jx k0);have lt:j<ns.length:=aa
   exact cV a _ _ _ (rP,hs,xcc (d4 Zc ii),q _)
  .exact ⟨.inl fQ,q _⟩
theorem ok_bi (T:aF):FnOk true P w K mg base aD 1 t.f_bi t.d_bi ["_law_cell_here", "_law_k"] (xx9):=by
 refine T.F_bi.okn (k:=0) sc_bi (aJ h) (fun cdv A outer s H vs Q E hr h=>?_)
 .ext wX c k
 .ext xH c k;refine⟨_,xh (pS 2 sc_bi.nd (oh (xu xdv (xu xa9 aM (je xdv (xo) 1)) (xo))))
   (xh (pS 2 sc_bi.nd (oh (je xdv fH 2)))
   (cC (oh (je xa9 (xu xa9 (je xdv fH 2) (je xdv (xo) 2)) 1)))),?_⟩
  refine sq3 ?_; intros; refine(bR,.inl fQ,.inr fQ,jW 2147483647,?_);show(br,(dM,.inl (xn5 az az),jW 2147483629),(bR,.inl (xn5 az az),.inl fQ,jW 2147483587,?_));exact h _ (yx).1 (yx).2
theorem ok_be (T:aF):FnOk true P w K mg base aD 1 t.f_be t.d_be ["_law_found"] (xtc):=by
 refine T.F_be.okn (k:=0) sc_be (aJ h) (fun cdv A outer s H vs Q E hr h=>?_)
 .ext Df i
 .ext DG i;show(br,(cD,cC (zhW (xei (xp2 zhe))),?_),qF ⟨104,_,_,true,dI,rfl,xce,GP⟩);exact qF ⟨104,_,_,false,dI,rfl,jz,eX false h⟩
theorem ok_bh (T:aF):FnOk true P w K mg base aD 1 t.f_bh t.d_bh ["_law_cell_here", "_law_many"] (xsb):=by
 refine T.F_bh.okn (k:=0) sc_bh (aJ h) (fun cdv A outer s H vs Q E hr h=>?_)
 .ext wX c n
 .ext xH c n;refine⟨_,xh (zX 2 sc_bh.nd (xa6))
   (by
   with_reducible refine' xh ?a ?b
   case a =>
    with_reducible refine' xd1 (i:=3) ?n ?i ?x ?e ?s ?f
    case n=>exact sc_bh.nd
    case i=>rfl
    case x=>exact Qp rfl
    case f=>exact YB rfl
    case e =>
     with_reducible refine' xac (r:=rIxL K) ?r ?l ?j ?p
     case r=>exact xay
     case j=>exact oh (wn aM)
     case p=>exact hV
     case l =>
      with_reducible refine' xb1 ?pa
      case pa =>
       with_reducible show(qj,?q1)
       case q1 =>
        with_reducible show(qj,?q2)
        case q2 =>
         with_reducible show(qj,?q3)
         case q3 =>
          with_reducible show(qj,?q4)
          case q4 =>
           with_reducible show(qj,?q5)
           case q5 =>
            with_reducible show(qj,?q6)
            case q6 =>
             with_reducible show(qj,?q7)
             case q7 =>
              with_reducible show(qj,?q8)
              case q8 =>
               with_reducible show(qj,?q9)
               case q9 =>
                with_reducible show(qj,?q10)
                case q10 =>
                 with_reducible show(qj,?q11)
                 case q11 =>
                  with_reducible show(qj,?q12)
                  case q12 =>
                   exact xg
    case s=>rfl
   case b =>
    exact (cC (xa4 rfl (xaw (zs:=["_law_k"]) (ys:=["_law_letters", "_law_cell_here", "_law_step"]) (fr:=[2,0,3]) (N0:=zfn) (sc0:=xm s_bh) aG rfl rfl rfl) (xdn rfl T.n_range fD) jK jx dR (fun _ _ _ _ _=>xac xvt (pv 1) (oh (xu xa9 fH (je xdv fJ 0))) hV)))),?_⟩
  refine sq3 ?_; intros; ext gK hn h;show(ag,s,es,ms,xsd (c / 26));show(br,⟨(G8 12),fun q0 hq0=>⟨fQ,(jW 12),q0,_,_,.int s,rfl,rfl,aW xk,es,?_⟩⟩,(ib,iK,rfl,aa,aa,au l hl));show(cu,s1,gX (eQ q0 (.lst (xen.map V.int))),bM hq0,xc8 n (fL,xs,H2,xs=(Zu i).map zhX/\tT/\Kq) ?_ ?_ ?_ ?_)
  .exact (FV,xw s1 hl,xk)
  .rintro i xs H2 lt _;show i<(gM n).toNat;simpa using lt
  .rintro i xs H2 v H3 lt (⟨rfl,s2,hl2⟩:43) ⟨rfl,rfl⟩ N hN;refine xnp ?_;refine⟨.inl ?_,(jW 26),abc,_,_,rfl,rfl,aG,xuc (yx).1 (yx).2,hl2,?_,?_⟩
   .have hs:∀ z∈xen,(rO z z 25):=az
    have:=hs s ms;constructor<;>omega
   .rw [Za,ZT];exact ZQ (aa:i<27) az
   .refine hN _ _ ⟨?_,v0,xk⟩
    .rw [Yj,Zs];simp[ltr]
    .rw [oG jy hl];exact s2 b u e
  .rintro xs H2 (⟨rfl,s2,hl2⟩:43);show(aS,cI Itr,q s H2 l ms s2 (by simpa using hl2))
theorem ok_ay (T:aF):FnOk true P w K mg base aD 2 t.f_ay t.d_ay Ue (xq1):=by
 refine T.F_ay.okn (k:=1) sc_ay (aJ h) (fun cdv A outer s H vs Q E hr h=>?_)
 .ext OB c sz n
 .obtain ⟨c,sz,n,rfl,h⟩:=h;refine⟨_,xh (pS 3 sc_ay.nd (Uk (gP (xo) (xu xa9 cF (xo)))))
   (xh (pS 4 sc_ay.nd (xb1 (xg)))
   (xh (GI (fc 2) 5 sc_ay.nd (oz (xek Jm Ys Yr xdq dw (fX (xek Jm PySem.F.slot_list_pop PySem.F.type_list_pop xrl fJ (fX (xu xaz (pC (ok_bi T) hr T.g_bi T.F_bi.kp T.b_bi (gm 0 5)) (lU 3))))))))
   (tt 4))),?_⟩
  refine sq4 ?_; intros; ext oE n1 n2;show(br,(bK,1,sz+1,rfl,dS ⟨105,p,1,sz+1,rfl,xk,GX,aa,au lf hlf⟩),iF Vr fd hfd);ext uG; have hr0:rngL 1 (sz+1)=((Zu sz.toNat).map (wc,i,rE+cH)).map V.int:=by
   unfold rngL;rw[Z4,(dU,(sz+1-1).toNat,sz.toNat,aa)];rfl
  rw[hr0] at hfd ⊢;show(aw,nfd,fd≠lf,kC xk hfd,ib iK rfl aa aa ?_);refine xc7 (Pv:=fun i Z H2=>∃(zs ls:df) (v5:b8),Z=[Cf,bz sz,bz n,aC lf,aC fd,v5]/\(rg lf (.lst (ls.map V.int)))/\(rg fd WW) /\
   zs.length=i/\(bT,ls.length+i,sz.toNat,zs.Nodup,(aq ls.Nodup (∀ z∈zs,z∉ls) znV (∀ z∈ls,(rO z z sz)) tT))) ?_ ?_ ?_
  .refine ⟨106,[],(Zu sz.toNat).map (wc,i,rE+cH),_,rfl,?_,xk,rfl,aj,⟨46,YD,?_,(fun z h=>nomatch h),(fun z h=>nomatch h),ye,xw (xw (bM hp) hlf) hfd⟩⟩
   .ext Lc nfd
   .refine Jt.map _ (aK a b h) Qi;intro z;apply h;omega
   .show(hX,i,hi,rfl,Zg.mp hz);rw[ZG] at hi;omega
  .rintro i Z H2 hi (⟨zs,ls,v5,rfl,h1,h2,e1,e2,⟨d1,d2,d3,b1,b2,s2⟩⟩:106);have hi':dQ:=GQ
   show(aw,lp,0<ls.length,aa,(cV,vg h2,vg h1,c,_,aK m m0 m1));have lp':lE<(yt zcF):=yR
   obtain⟨k0,k1⟩:=xbd m lp';obtain⟨j,hj⟩:=Jx k0;have jl:j<ls.length:=by
    have z:=k1;rw[hj,Za] at z;omega
   show(mX,gy,zcF[j]?,some (V.int ls[j]),(d4,Zc,Zb jl),⟨84,lf,_,rfl,lW h1,lp',dk lf _ _ j ⟨66,_,rfl,rfl,h1,aa,?_,⟨?_,gy,fd,zs.map V.int,_,rfl,rfl,?_,?_,?_⟩⟩⟩)
   .rw [Za] at k1;have:(cQ ls.length)<FE:=aa
    omega
   .rw [seqIndex_of k0 k1,hj];rfl
   .ext oM nfd h2
   .rw [Za];exact ZQ (aa:zs.length<31) az
   .obtain ⟨a1,a2,a3,a4⟩:44:=Geo.erase_ok d2 (Zb jl);have em:(zcF).eraseIdx j=(ls.eraseIdx j).map V.int:=by simp[Yt,Yo,Yp]
    have el:=List.length_eraseIdx_of_lt jl;refine⟨106,zs++[ls[j]],ls.eraseIdx j,_,rfl,?_,?_,?_,?_,⟨46,?_,a1,?_,?_,(tZ,b2 z (a3 z hz)),?_⟩⟩
    .rw [kB nfd,xk,em]
    .rw [xk,Zs];rfl
    .rw [Zr,e1];rfl
    .omega
    .rw [ZP];exact⟨d1,aj,fun a ha b hb=>by
      show(Cn,Zp.mp hb);intro z;exact d3 a ha (z▸a4)⟩
    .intro z hz
     rcases KN with y|y
     .exact fun k=>d3 z y (a3 z k)
     .ext Cn E0;exact a2
    .intro z hz
     rcases KN with y|y
     .exact b1 z y
     .ext Cn E0;exact b2 _ a4
    .intro b u e
     have nb1:b≠lf:=fun z=>by
      subst z;rw[yK] at hlf;ext bV e hlf
     have nb2:b≠fd:=fun z=>by
      subst z;rw[xj nb1,yK] at hfd;ext bV e hfd
     rw[xj nb2,xj nb1];exact s2 b u e
  .rintro Z H2 (⟨zs,ls,v5,rfl,h1,h2,e1,e2,⟨d1,d2,d3,b1,b2,s2⟩⟩:106);exact (q zs H2 fd XH d1 b1 s2 h2)
theorem ok_bm (T:aF):FnOk true P w K mg base aD 1 t.f_bm t.d_bm ["_law_cell_here"] (xvf):=by
 refine T.F_bm.okn (k:=0) sc_bm (aJ h) (fun cdv A outer s H vs Q E hr h=>?_)
 .ext Df c
 .ext DG c;refine⟨_,xh (jI (Hf aM) (sS (gP Nj Nj)))
   (sS (gP Nj Nj)),?_⟩
  refine sq2 ?_; intros; ext Au; refine(D3,8,ub d d)
  .refine ⟨46,fQ,(jW 16),fQ,(jW 10),cS,(dS,h _ _ _ p ?_ ?_ ?_ ?_ (bM hp) xk)⟩
   .show(NC,8,16)
   .show(NB,8,16)
   .show(NC,240,10)
   .show(NB,240,10)
  .refine ⟨46,fQ,(jW 9),fQ,(jW 7),cS,(dS,h _ _ _ p ?_ ?_ ?_ ?_ (bM hp) xk)⟩
   .show(NC,8,9)
   .show(NB,8,9)
   .show(NC,72,7)
   .show(NB,72,7)
noncomputable abbrev Pr:=Pt × Bool × Int
noncomputable def prV (p:Pr):af:=[.str aV,iE i8,.int d6]
inductive PrsL (H:Hp):bA aE ax
 | nil:PrsL H [] []
 | cons {p:Pr}{q:Addr}{ps:aE}{qs:ax} (h:G7 p) (r:HR):PrsL H (p::ps) rM
theorem PrsL.keep {H H':Hp} (s:jZ) {ps:aE}{qs:ax} (h:HR):PrsL H' ps qs:=by
 induction h with
 | nil=>ext ia
 | cons h _ ih=>ext Hi
theorem PrsL.len {H:Hp}{ps:aE}{qs:ax} (h:HR):wj qs.length:=by
 induction h with
 | nil=>rfl
 | cons _ _ ih=>simp[ih]
theorem PrsL.get {H:Hp}{ps:aE}{qs:ax} (h:HR) {i:Nat}{q:Addr} (e:Bo):Py (G7 p):=by
 induction h generalizing i with
 | nil=>ext rV
 | @cons p q' ps qs h _ ih =>
  cases i with
  | zero =>
   ext KC p
  | succ j=>ext wv
structure PrOk (ps:am) (w h:Int) (p:Pr):Prop where
 nm:nO aV
 fd:Gj aV aL
 r1:1<=d6
 r2:d6<=h
 xy:(aP,1<=(aL).x,(aL).x<=w,1<=(aL).y,(aL).y<=h)
theorem xv3 (qs:ax) (k:Nat):cutV (qs.map V.ref) (some (i7+1)) none=(qs.drop cJ).map V.ref:=by
 show(zgG,(eS,(i7+1)=(gM cJ)))
 by_cases c:cJ<=qs.length
 .rw [Nat.min_eq_left c,Jr aj]
 .rw [zqt,List.drop_length,List.drop_of_length_le aa];simp
theorem PrsL.drop {H:Hp}{ps:aE}{qs:ax} (h:HR) (k:Nat):PrsL H (ps.drop k) (qs.drop k):=by
 induction h generalizing k with
 | nil=>simpa using PrsL.nil
 | cons h r ih =>
  cases k with
  | zero=>ext rS h r
  | succ k=>exact ih k
noncomputable def cel (w:Int) (p:Pr):iw:=Geo.cells w (aL).x (aL).y i8 d6
noncomputable abbrev Tr:=Str × Str × f7
noncomputable def xbs (w:Int) (p:Pr):Int:=lenI w (aL).x (aL).y i8 d6
theorem xq5 {ps:am}{w h:Int}{p:Pr} (o:O6) (hw:kn) (hh:jE):(WR,xbs w p):=by
 obtain⟨_,_,r1,r2,x1,x2,y1,y2⟩:=o;unfold xbs lenI;ext Oz
inductive xs9 (t:Adr) (vs:af) (H:Hp) (Q:VK) (_:XK):Prop
 | mk (a dp do_ l:Addr) (pw ph:Int) (ps:am) (prs:aE) (qs:ax) (e_:vU l) (r_:(zlD,Pic t H a dp do_ pw ph ps,(prs.map (xbs pw)).sum))
theorem xe2 (T:aF):FnOk true P w K mg base aD 6 t.f_total t.d_total iu (xs9 t):=by
 refine T.F_total.okn (k:=5) xqm (aJ h) (fun cdv A outer s H vs Q E hr h=>?_)
 .obtain ⟨a,dp,do_,l,pw,ph,ps,prs,qs,rfl,_⟩:=h;rfl
 .obtain ⟨a,dp,do_,l,pw,ph,ps,prs,qs,rfl,h⟩:=h;show(Ua,xa4 rfl (xaw (zs:=C1) (ys:=nG) (fr:=[0]) (N0:=iu) (sc0:=xm xgr) aG rfl rfl rfl) sW rY sw dR (fun _ _ _ _ _=>xaf fJ T.c_a T.m_s (ok_s T) aA T.b_s .nil xq (lH 0 nT)));obtain⟨pic,hl,pr,ok,len,q⟩:46:=h;obtain⟨⟨dx,hp⟩,_,w1,w2,h1,h2,_⟩:=ul;show(lz,X0,xc8 qs.length (fL,zs,H2,zs=(((prs.take i).map (xbs pw)).map V.int)/\tT/\(Hs l1 zs)) ?_ ?_ ?_ ?_)
  .exact ⟨aj,bM hl1,xk⟩
  .rintro i zs H2 lt (⟨_,s2,_⟩:43);exact(bK,_,.ref Cr,zcz,cI lt)
  .rintro i zs H2 v H3 lt (⟨rfl,s2,hl2⟩:43) ⟨rfl,hv⟩ N hN;ext zbZ zcz;ext nH o ho hv';show(ag,p,hpp,ep,pr.get ho);show(dN,okp,ok p (Zj hpp),kL o (dy ep));refine xr7 ?_;show(br,⟨a,dx,_,rfl,dy hp,bn,a,dp,do_,pw,ph,ps,aV,aL,i8,d6,rfl,pE s2,okp.nm,okp.fd,okp.r1,okp.r2,IF⟩,(Bv,cm hl2,?_,⟨?_,v0,xk⟩))
   .rw [Za,Za,Jl];exact ZQ (aa:min i prs.length<13) az
   .rw [ZR,hpp,Zs,Zs];rfl
   .show(eE,om hl1,cm (s2 b u e))
  .rintro zs H2 (⟨rfl,s2,hl2⟩:43);rw[pr.len,Jf] at hl2;refine⟨cD zcz aj,l1,prs.map (xbs pw),rfl,aW hl2,zci,q _ s2⟩;ext dY p hp' hn;exact xq5 (ok p hp') w2 h2
noncomputable def acrI (w:Int) (p:Pr):Int:=if i8 then (aL).x else w+1-(aL).x
noncomputable def uprI (w:Int) (p:Pr):Int:=Tn*Mi
theorem xvn {a b:Int} (a0:0<=a) (a1:a<=1000) (b0:0<=b) (b1:b<=1000):(mP,a*b,1000000):=by
 show(dX,Int.mul_nonneg a0 b0,?_);have h1:=Int.mul_le_mul_of_nonneg_right a1 b0;have h2:1000*b<=1000*1000:=Int.mul_le_mul_of_nonneg_left b1 az;exact Int.le_trans h1 h2
theorem xsl {ps:am}{w h:Int}{p:Pr} (o:O6) (hw:kn) (hh:jE):WR Tm:=by
 obtain⟨_,_,r1,r2,x1,x2,y1,y2⟩:=o;have z:=xvn (a:=Tn) (b:=Mi) No No SN SN;unfold uprI;omega
inductive xsm (t:Adr) (vs:af) (H:Hp) (Q:VK) (_:XK):Prop
 | mk (a dp do_ q0:Addr) (pw ph:Int) (ps:am) (p:Pr) (e_:vU q0) (r_:(aP,Pic t H a dp do_ pw ph ps,zdC q0 p,PrOk ps pw ph p,vV (K7 (uprI pw p))))
inductive xw1 (t:Adr) (vs:af) (H:Hp) (Q:VK) (_:XK):Prop
 | mk (a dp do_ l:Addr) (pw ph:Int) (ps:am) (prs:aE) (qs:ax) (e_:vU l) (r_:(zlD,Pic t H a dp do_ pw ph ps,(prs.map (uprI pw)).sum))
noncomputable def mayB (ss:ai) (p:Pt) (s:Seat):Bool:=(dA wz)&&tQ
noncomputable def excB (ss:ai) (p p':Pr):Bool:=Xo&&mayB ss p'.1 bJ
inductive xt1 (t:Adr) (vs:af) (H:Hp) (Q:VK) (_:XK):Prop
 | mk (a dp do_ o1 o2:Addr) (pw ph:Int) (ps:am) (ss:ai) (p p':Pr) (e_:vs=(qP bb o1 o2)) (r_:Pic t H a dp do_ pw ph ps/\qz/\(G6,zdC o1 p,zdC o2 p',PrOk ps pw ph p,PrOk ps pw ph p',excB ss p p'))
noncomputable def canO (w:Int) (ss:ai) (p p':Pr):dB f7:=if excB ss p p' then Geo.meet (cel w p) (cel w p') else none
noncomputable def canF (w:Int) (ss:ai) (p:Pr) (r:aE):List Tr:=r.filterMap fun p'=>(Hk).map fun c=>(aV,jh p',c)
noncomputable def cans (w:Int) (ss:ai):aE->List Tr
 | []=>[]
 | oI=>(K6 r)++cans w ss r
theorem xpd {w:Int}{ss:ai}{p p':Pr}{r:aE}:(K6 (p'::r))=(match Hk with|some c=>[(aV,jh p',c)]|none=>[])++(K6 r):=by
 unfold canF;rw[J6];cases Hk<;>rfl
noncomputable def TrV (H:Hp) (o:dB Tr) (v:V):Prop:=(zbD,o,∃ c q qc,aP (ae o c) (oN q) (eR q [.str c.1,.str (bg c),.ref qc]) (eR qc (Cj,bg c.2,(bX c).2)))
inductive xwm (t:Adr) (vs:af) (H:Hp) (Q:VK) (_:XK):Prop
 | mk (a dp do_ l:Addr) (pw ph:Int) (ps:am) (ss:ai) (prs:aE) (qs:ax) (e_:vU l) (r_:Pic t H a dp do_ pw ph ps/\(aq,qz,EH,lQ,C9 pw ph,∀ H' v,bF->TrV H' (He prs) v->Ce))
theorem ok_az (T:aF):FnOk true P w K mg base aD 6 t.f_az t.d_az zdB (xsm t):=by
 refine T.F_az.okn (k:=5) sc_az (aJ h) (fun cdv A outer s H vs Q E hr h=>?_)
 .obtain ⟨a,dp,do_,q0,pw,ph,ps,p,rfl,_⟩:=h;rfl
 .obtain ⟨a,dp,do_,q0,pw,ph,ps,p,rfl,h⟩:=h;refine⟨_,xh (C0 1 2 sc_az.nd (gG 3 sc_az.nd 4))
   (xh (Ez (xaf aM T.c_a T.m_m (ok_m T) aA T.b_m .nil xq (fc 2)) (gG 5 sc_az.nd 6))
   (cC (xu xdv (xgp (xaf (pC Fa hr T.g_a6 T.F_a6.kp T.b_a6 (gS 3 bi)) T.c_ap T.m_u (ok_u T) aA T.b_u .nil xq (fc 5)) (xaf (pC Fa hr T.g_a6 T.F_a6.kp T.b_a6 (gS 3 bi)) T.c_ad T.m_p (ok_p T) aA T.b_p .nil xq (fc 5))) (UI jL 4)))),?_⟩
  refine sq3 ?_; intros; ext j4 pic hq0 ok q h;ext uJ dx0;show(pZ,q0,hq0,⟨a,dx0,_,rfl,hp,bn,a,dp,do_,pw,ph,ps,aV,aL,rfl,pic,ok.nm,ok.fd,zke⟩);have hp1:=gQ;obtain⟨_,_,r1,r2,x1,x2,y1,y2⟩:=id ok;show(ah,w2,pic.w2,h2,pic.h2);show(cB,sm,-pV<acrI pw p/\acrI pw p<pV,No,qq,q);unfold uprI acrI at qq;unfold acrI at sm;cases hb:i8 with
  | true =>
   rw[hb] at qq sm;refine .inl ⟨a,_,_,_,_,rfl,zgZ true⟩;ext IB sd3;exact⟨p3,ds,_,rfl,hs,Mm,_,_,rfl,_,rfl,.inl sm,zqh⟩
  | false =>
   rw[hb] at qq sm;show(zJ,⟨a,_,_,_,_,rfl,zgZ false⟩);show(IB,id sd3);exact⟨p3,ds,_,rfl,hs,Mm,p3,pw,_,rfl,sd3,_,rfl,.inl sm,zqh⟩
theorem xne (T:aF):FnOk true P w K mg base aD 7 t.f_upright t.d_upright iu (xw1 t):=by
 refine T.F_upright.okn (k:=6) xm2 (aJ h) (fun cdv A outer s H vs Q E hr h=>?_)
 .obtain ⟨a,dp,do_,l,pw,ph,ps,prs,qs,rfl,_⟩:=h;rfl
 .obtain ⟨a,dp,do_,l,pw,ph,ps,prs,qs,rfl,h⟩:=h;show(Ua,xa4 rfl (xaw (zs:=["pair"]) (ys:=nG) (fr:=[0]) (N0:=iu) (sc0:=xm xe9) aG rfl rfl rfl) sW jK jx dR (fun _ _ _ _ _=>pC (ok_az T) hr T.g_az T.F_az.kp T.b_az (gm 1 0)));obtain⟨pic,hl,pr,ok,len,q⟩:46:=h;obtain⟨⟨dx,hp⟩,_,w1,w2,h1,h2,_⟩:=ul;refine X0;show(zH,ql,pr.len,xba (aW hl) V1 hl1 (uo,∃ p,(aU prs p)/\(Co (uprI pw p))) (fun i y H H' tp h=>h) (fun i x H2 hx s2 N hN=>?_) (fun ys H2 s2 el ly f=>?_))
  .rw [Zc] at hx;ext Ex;show(ag,p,hpp,ep,pr.get ho);have okp:=ok p (Zj hpp);exact⟨a,dp,do_,o,pw,ph,ps,p,rfl,(bR,pE s2,dy ep,okp,fun H4 s4=>lJ s4 (dH p hpp))⟩
  .have ey:ys=(prs.map (uprI pw)).map V.int:=by
    rw[Za,ql] at ly;refine Q4 (du i);by_cases c:i<ys.length
    .show(hX,p,h1,h2,f i _ (Zb c));rw[Zb c,Zc,Zc,h1,h2];rfl
    .rw [Jg aa,Jg jo]
   subst ey;refine(zI,l1,prs.map (uprI pw),aW el,zci,q _ s2);ext dY p hp' hn;exact xsl (ok p hp') w2 h2
theorem ok_an (T:aF):FnOk true P w K mg base aD 6 t.f_an t.d_an CS (xt1 t):=by
 refine T.F_an.okn (k:=5) sc_an (aJ h) (fun cdv A outer s H vs Q E hr h=>?_)
 .obtain ⟨a,dp,do_,o1,o2,pw,ph,ps,ss,p,p',rfl,_⟩:=h;rfl
 .obtain ⟨a,dp,do_,o1,o2,pw,ph,ps,ss,p,p',rfl,h⟩:=h;refine⟨_,xh (C0 1 3 sc_an.nd (gG 4 sc_an.nd 5))
   (xh (C0 2 6 sc_an.nd (gG 7 sc_an.nd 8))
   (cC (xc2 (xaf aM T.c_a T.m_ab (ok_ab T) aA T.b_ab .nil xq (kg 3 7 8)) (xei (xaf aM T.c_a T.m_ab (ok_ab T) aA T.b_ab .nil xq (kg 6 4 5)))))),?_⟩
  refine sq3 ?_; intros; obtain⟨pic,st,e1,e2,k1,k2,q⟩:47:=h;ext uJ dx0;show(pZ,o1,e1,kL o2 e2);show(br,⟨a,dx0,_,rfl,hp,bn,a,dp,do_,pw,ph,ps,ss,aL,bg p',bX p',rfl,pic,st,k1.nm,k1.fd,k2.r1,k2.r2,qH⟩,vQ)
  .refine ⟨a,dx0,_,rfl,gQ,bn,a,dp,do_,pw,ph,ps,ss,p'.1,i8,d6,rfl,BM,st.same s1,k2.nm,k2.fd,k1.r1,k1.r2,au H2 s2⟩;have z:=q H2 (s1.trans s2);unfold excB at z;show(yh,vw Xo c,JX)
  .have z:=q H1 s1;unfold excB at z;show(yh,show dE Xo from Jb.mpr c,YV)
theorem xdy (T:aF):FnOk true P w K mg base aD 8 t.f_exchangeable t.d_exchangeable iu (xwm t):=by
 refine T.F_exchangeable.okn (k:=7) xcl (aJ h) (fun cdv A outer s H vs Q E hr h=>?_)
 .obtain ⟨a,dp,do_,l,pw,ph,ps,ss,prs,qs,rfl,_⟩:=h;rfl
 .obtain ⟨a,dp,do_,l,pw,ph,ps,ss,prs,qs,rfl,h⟩:=h;refine⟨_,xh (xbg ZA rfl (xkg rfl T.n_enumerate fD) (xar rfl (gG 2 xcl.nd 3)) (xl (xbg ZA rfl (xaj (xea xg7 (pv 1) (xd9 (xu xa9 fH (xo))) xfp)) (pN 4 xcl.nd) (xl (xao (xbf (pC (ok_an T) hr T.g_an T.F_an.kp T.b_an (kg 0 3 4))) (xh (pS 5 xcl.nd (pC (xia T) hr T.g_meeting T.F_meeting.kp T.b_meeting (kg 0 3 4)))
   (kR (S1 5) (sS (xa (uZ 3) (xa (uZ 4) (fc 5)))))) (xab))))))
   (cC (xc3)),?_⟩
  refine sq2 ?_; intros; refine fq ?_; intros; obtain⟨pic,st,hl,pr,ok,q⟩:46:=h;refine(ua,l,aW hl)
  show(MA,∃(v2 v3 v4 v5:b8),(bT,Z,[dJ,zi,v2,v3,v4,v5],tT,cans pw ss (prs.drop i)=cans pw ss prs))
  refine xq3 (xs:=xO) (Pv:=Pv) ⟨123,_,_,_,_,rfl,kN,rfl⟩ (fun _ _ _ _ ⟨_,_,_,_,_,z,_⟩=>aW (z _ _ hl)) ?_ ?_
  .rintro i x p Z H2 hx hp (⟨v2,v3,v4,v5,rfl,s2,ea⟩:123);rw[Zc] at hx;ext Ex;show(ag,P1,hP1,eP1,pr.get ho);have ok1:=ok P1 (Zj hP1);show(aw,sp,Same H2 zpY,bM hp,kL p xk);refine fo ?_; intros; refine(eX,cH+1,(fG,l,_,aW (sp _ _ (dy hl)),au p4 hp4));rw[xv3];have s4:Same H2 (upd zpY p4 (.lst ((qs.drop aY).map V.ref))):=sp.trans (bM hp4);have pr2:=pr.drop aY;have ed:prs.drop i=P1::AY:=by
    ext nF h1 h2 hP1
    rw[JK h1,h2]
   rw[ed] at ea;refine nK p4 xk
   let Pv (j:Nat) (Z:L2.St) (H5:Hp):Prop:=∃(v4 v5:b8),(jc,Z,[dJ,zi,bz i,aC o,v4,v5],Lx,(ae,H5 p4,.lst ((qs.drop aY).map V.ref)),canF pw ss P1 ((AY).drop j)++cans pw ss (prs.drop aY)=cans pw ss prs)
   refine xbr (xs:=(qs.drop aY).map V.ref) (Pv:=Pv)
    ⟨84,_,_,rfl,s2.trans s4,xk,ea⟩ (fun _ _ _ _ ⟨_,_,_,_,z,_⟩=>aW z) ?_ ?_
   .rintro j x Z H5 hx (⟨v4,v5,rfl,s5,hp5,ea5⟩:84);ext MS; rw[Zc] at hx;ext nH o2 ho2 hx;show(ag,P2,hP2,eP2,pr2.get ho2);have ok2:=ok P2 (List.mem_of_mem_drop (Zj hP2));have ed2:(AY).drop j=P2::(AY).drop fW:=by
     ext nF h1 h2 hP2;rw[JK h1,h2]
    rw[ed2,xpd] at ea5;show(br,⟨a,dp,do_,o,o2,pw,ph,ps,ss,P1,P2,rfl,⟨47,pE s5,st.same s5,cG eP1,cG eP2,ok1,ok2,au H6 s6⟩⟩,Ck cx)
    .ext Hj; have s56:=s5.trans s6;refine⟨a,dp,do_,pw,ph,ps,o,o2,jh P1,jh P2,P1.1,P2.1,bg P1,bg P2,bX P1,bX P2,rfl,⟨46,pE s56,s56 _ _ eP1,s56 _ _ eP2,cL ok1.nm ok1.fd ok1.r1 ok1.r2 ok1.xy,cL ok2.nm ok2.fd ok2.r1 ok2.r2 ok2.xy,b9 H7 v s7 mv⟩⟩;ext Vz; have mv':xrp H7 (canO pw ss P1 P2) v:=by
      unfold canO;ext cq cx bY mv
     rcases mv' with⟨em,rfl⟩|⟨c,q6,em,rfl,hq6⟩
     .rw [em] at ea5;refine EN jz;exact⟨84,_,_,rfl,s56.trans s7,oO (dP hp5),ea5⟩
     .rw [em] at ea5;refine(j6,ifP jz ?_);have s57:=s56.trans s7;refine(cV,o,_,0,_,S9 (s57 _ _ eP1) ⟨o2,_,0,_,rfl,rfl,cN (s57 _ _ eP2),rfl,tD,au p7 hp7⟩);show(cu,s8,Same H7 (fA H7 p7 [.str (jh P1),.str (jh P2),.ref q6]),bM hp7,q _ _ (s57.trans s8) (.inr ⟨104,(jh P1,jh P2,c),p7,q6,?_,rfl,xk,qp hq6⟩));rw[<- ea5];rfl
    .have em:canO pw ss P1 P2=none:=by
      unfold canO;rw[ay cx]
     rw[em] at ea5;exact⟨84,_,_,rfl,AU,dP hp5,ea5⟩
   .rintro Z H5 (⟨v4,v5,rfl,s5,hp5,ea5⟩:84);refine⟨123,_,_,_,_,rfl,s5,?_⟩;rw[Za,List.drop_of_length_le (l:=AY) (by rw[pr2.len]; exact Zk _)] at ea5;exact ea5
  .rintro Z H2 (⟨v2,v3,v4,v5,rfl,s2,ea⟩:123);rw[Za,pr.len,List.drop_length] at ea;exact q _ _ s2 (.inl (ld,by rw[<- ea]; rfl))
noncomputable def exP (p1 p2 p:Pr):Pr:=(aL,(jq,aV,i0,p2.2,jq aV i4 p1.2 bJ))
theorem xnu {p1 p2:Pr}{A:aE} (h:∀ p∈A,aV≠i0/\aV≠i4):A.map Ss=A:=by
 induction A with
 | nil=>rfl
 | cons p A ih =>
  rw[Zo,ih (Bs p' hp)]
  congr 1
  show(Fv,b,h p Zm);unfold exP;rw[if_neg a,ay b]
theorem xn1 {prs A B C:aE}{p1 p2:Pr} (nd:(prs.map (·.1.nm)).Nodup) (e:prs=zoF):prs.map Ss=zor/\i0≠i4:=by
 ext cR;rw[Zs,ZP] at nd;obtain⟨_,n2,n3⟩:43:=nd;rw[Zo,ZC,Zs,Zo,ZP] at n2;obtain⟨m1,_,m3,m4⟩:44:=n2;rw[ZC] at m3;show(aw,ne,i0≠i4,(ao,m1 (jr z)),⟨?_,ne⟩);rw[Zs,Zo,Zs,Zo];rw[xnu (A:=A),xnu (A:=B),xnu (A:=C)]
 .unfold exP;rw[bY,if_neg (Z1 ne),bY]
 .intro p hp
  show(dX,(ao,m1 ?_),(ao,m3.1 ?_))
  .rw [<- z];exact Z6 _ (Zl _ Kv)
  .ext OD z
 .intro p hp
  show(dX,(ao,m1 ?_),(ao,m4 _ Kv _ Zm z));show(kh,z,ZO _ Kv)
 .intro p hp
  ext dX zpC zpC
theorem xiv {w:Int}{ss:ai}{tr:Tr}:∀{prs:aE},tr∈DN->(zgy,tr=(i0,i4,c))
 | [],h=>ft
 | oI,h=>by
  rcases Zy.mp h with z|z
  .show(hX,p',hp',e,JM.mp z);show(ag,c,hc,e2,Ze.mp e);show(FR,B,C,e3,List.append_of_mem hp');exact dk [] p B p' (bD,C,c,eB e3,hc,e2.symm)
  .obtain ⟨A,p1,B,p2,⟨C,c,e,h1,h2⟩⟩:121:=xiv z;exact(dk,p::A,p1,B,p2,bD C c uc h1 h2)
inductive Sd (H:Hp):bA aE bw
 | nil:Sd H [] []
 | cons {p:Pr}{t:Addr}{ps:aE}{kvs:bw} (h:SQ) (r:D6):Sd H (p::ps) ((iP,.inr aV,t)::kvs)
theorem Sd.keep {H H':Hp} (s:jZ) {ps:aE}{kvs:bw} (h:D6):Sd H' ps kvs:=by
 induction h with
 | nil=>ext ia
 | cons h _ ih=>ext Hi
theorem Sd.len {H:Hp}{ps:aE}{kvs:bw} (h:D6):wj kvs.length:=by
 induction h with
 | nil=>rfl
 | cons _ _ ih=>simp[ih]
theorem Sd.keys {H:Hp}{ps:aE}{kvs:bw} (h:D6):kvs.map (·.1)=ps.map (fun p=>Ja aV):=by
 induction h with
 | nil=>rfl
 | cons _ _ ih=>simp[ih]
theorem Sd.get {H:Hp}{ps:aE}{kvs:bw} (h:D6) {i:Nat}{k:Key}{x:V} (e:pk):(Py,k=.inr aV):=by
 induction h generalizing i with
 | nil=>ext rV
 | @cons p q ps kvs h _ ih =>
  cases i with
  | zero =>
   simp at e;show(rR,p,e.1.symm)
  | succ j=>ext wv
theorem Sd.find {H:Hp}{ps:aE}{kvs:bw} (h:D6) (nd:(ps.map (·.1.nm)).Nodup) {p:Pr} (m:y9):∃ t,(Ia aV)=(aC t)/\SQ:=by
 induction h with
 | nil=>cases m
 | @cons p' t ps kvs h _ ih =>
  ext vz;rcases dC m with rfl|z
  .exact ⟨t,xbq rfl,h⟩
  .show(hX,t',h1,h2,ih kE z);show(gU,t',?_,h2);show(aQ,xbh (fun e=>nd.1 (Zg.mpr ⟨p,z,(Ja.inj e).symm⟩)),h1)
theorem xhr {k:Key}:∀{kvs:bw},k∉kvs.map (·.1)->kO=none
 | [],_=>rfl
 | kv::r,h=>by
  ext Fv b kv;rw[xbh (fun e=>h (cT e Zm))];exact xhr (ao,h (Zl _ z))
theorem xga {d:Addr}{H:Hp}:∀{kvs kv0:bw},((kv0++kvs).map (·.1)).Nodup->(kv0++kvs).length<1000->xem d (gq H d kv0) (OZ (Kd,kv.2)) (gq H d (kv0++kvs))
 | [],kv0,_,_=>by
  show(aQ,QR,.nil)
 | kv::kvs,kv0,nd,hl=>by
  have fr:valV kv0 iN=none:=xhr fun z=>by
   show(uB,Zs,ZP,nd,(kE).2 _ z _ Zm rfl)
  have hp:=DPut.k (k:=iN) (v:=kv.2) (xk (H:=H) (a:=d) (o:=.dK kv0)) (ZQ (by rw[Zr] at hl; omega:kv0.length<1000) az);rw[xeq,xc1 _ fr] at hp;show(h9,ih,xga (d:=d) (H:=H) (kvs:=kvs) (kv0:=kv0++[kv]) (aB Q5 nd) (aB Q5 hl),Q5);ext rS hp ih
theorem xnf {H:Hp}:∀{prs:aE}{ys:af},(wm prs.length)->(∀(i:Nat) (y:V) (p:Pr),ST->(aU prs p)->∃ q t,vS/\zoG/\SQ) ->
    ∃(ws:DK) (kvs:bw),ys=ws.map (fun p=>V.ref aL)/\(∀ p∈ws,(eR aL [i8,d6]))/\ws.map (·.2)=(OZ (Kd,kv.2))/\Sd H prs kvs
  | [],[],_,_=>⟨84,[],[],rfl,fun p h=>(nomatch h),rfl,.nil⟩
  | [],cM,h,_=>ft
  | cM,[],h,_=>ft
  | p::prs,mQ,hl,h=>by
    obtain⟨q,t,e1,e2,e3⟩:83:=h 0 y p rfl rfl;obtain⟨ws,kvs,a1,a2,a3,a4⟩:84:=xnf (prs:=prs) (ys:=ys) (Nat.succ.inj hl) fun i y' p' hy hp=>h aY y' p' hy hp
    refine⟨84,(q,.str aV,.ref t)::ws,(iP,.inr aV,t)::kvs,d4 e1 a1,au p' hp',by rw[Zo,Zo,a3]; rfl,.cons e3 a4⟩;rcases dC hp' with rfl|z
    . exact e2
    . exact a2 _ z
theorem PrsL.pick {H:Hp}:(zfP,aE,(∀(j:Nat) (y:V) (s:Pr),(Am,ss,s,∃ q,vS/\(G7 s))),PrsL H ss rs)
 | [],[],_,_=>eX [] .nil
 | [],cM,h,_=>ft
 | cM,[],h,_=>ft
 | s::ss,mQ,hl,h=>by
  show(yZ,q,h 0 y s rfl rfl);show(ag,rs,e3,e4,PrsL.pick (ss:=ss) (ys:=ys) (Nat.succ.inj hl) fun j y' s' hy hs=>h fW y' s' hy hs)
  show(aH,q::rs,d4 e1 e3,.cons e2 e4)
noncomputable def xkd (kvs:bw) (i:Nat):V:=match kvs[i]? with|some kv=>Kd|none=>.non
theorem xo6 {Z:L2.St}{fr:qN}{te:TE}{l d:Addr}{H1:Hp}{Q:VK}{ob:Obj}{kvs:bw} (hd:(ae,H1 d,N4)) (hl:vq) (hn:Hc) (F:Lp) (stab:FY)
    (step:∀(i:Nat) (k:Key) (x:V) (H2:Hp),pk->kP->∀(N:ui),(∀ y H',Eu->TK->N y H')->te ((zdt).set 0 (some (kV k))) H2 N)
    (fin:CL kvs.length (GU KK)):xec (Itkd d ob kvs) 1 (xcr 0) Z fr xed te l H1 Q:=by
  refine xi6 kvs.length hn hl (xkd kvs) (fun i H lt s=>⟨s _ _ hd,lt⟩) (fun i H v H' lt s y=>?_) (fun H s=>⟨s _ _ hd,bu⟩) RG F stab (fun i H2 lt s N M h1 h2=>?_) (fun ys H2 s e ly f=>?_)
  . obtain⟨e,k,x,hk,hv⟩:=y
    show(dX,e,?_);unfold xkd;rw[hk,hv]
  . obtain⟨⟨k,x⟩,hk⟩:∃ y,aU kvs y:=gD ii
    have ek:xkd kvs i=kV k:=by
      unfold xkd;rw[hk]
    show(aQ,ek,xht (i:=i) (step i k x H2 hk s N zjp))
  . rw[L2.filter_all,ZT] at ly
    refine fin ys H2 s e ly zmS;rw[L2.filter_all,JJ (gL Ln)]
inductive xwr (K:Zd) (vs:af) (H:Hp) (Q:VK) (_:XK):Prop
 | mk (l:Addr) (prs:aE) (qs:ax) (p1 p2:Pr) (e_:vs=[pY,.str i0,.str i4]) (r_:EH/\lQ/\(prs.map (·.1.nm)).Nodup/\(aq,sA,p1∈prs,p2∈prs,i0≠i4,∀ H' l' qs',(j3,bF,bo l',gR l' zpr,PrsL H' ND qs',l')))
theorem xkn (T:aF):FnOk true P w K mg base aD 1 t.f_exchanged t.d_exchanged Vl (xwr K):=by
 refine T.F_exchanged.okn (k:=0) xey (aJ h) (fun cdv A outer s H vs Q E hr h=>?_)
 .obtain ⟨l,prs,qs,p1,p2,rfl,_⟩:=h;rfl
 .obtain ⟨l,prs,qs,p1,p2,rfl,h⟩:=h;refine⟨_,xh (zX 3 xey.nd (CF (xa4 rfl (xaw (zs:=["each", "side", "row"]) (ys:=[]) (fr:=[]) (N0:=Ul) (sc0:=xm xdg) aG rfl rfl rfl) (xaj (pv 0)) rY sw dR zkB)))
   (xh (zX 4 xey.nd (xt4 (xkv cF fH (xkv fH cF (xst))) rfl rfl aj az))
   (cC (xa4 rfl (xaw (zs:=["each"]) (ys:=["seats", "giver"]) (fr:=[3,4]) (N0:=Ul) (sc0:=xm xdg) aG rfl rfl rfl) (xsa (pv 3)) jK jx dR (UF (A6 1 (xlb gz fH aM aM GW)))))),?_⟩
  refine sq3 ?_; intros; obtain⟨hl,pr,nd,len,m1,m2,⟨ne,q⟩⟩:47:=h;show(dN,ql,pr.len,X0);refine xba (aW hl) V1 hl1 (zku prs) (fun i y H H' tp ⟨p,q,t,a1,a2,a3,a4⟩=>⟨104,p,q,t,a1,a2,jO a3,jO a4⟩) (fun i x H2 hx s2 N hN=>?_) (fun ys H1 s1 el1 ly f1=>?_)
  .rw [Zc] at hx;ext Ex;show(ag,p,hpp,ep,(pr.keep (Same.tups s2)).get ho);show(pZ,o,ep,⟨cS,fun q1 hq1=>iF cS q2 hq2⟩);ext zfT;exact lJ (sa.trans sb) ⟨104,p,q2,q1,hpp,rfl,xk,sb _ _ xk⟩
  rw[Za,ql] at ly;obtain⟨ws,kvs,rfl,w2,w3,sd1⟩:84:=xnf (H:=H1) (prs:=prs) (ys:=ys) ly fun i y p hy hp=>by
   obtain⟨p',q',t',a1,a2,a3,a4⟩:104:=f1 i y hy;ext zjD
  have kl:=sd1.len;have knd:(kvs.map (·.1)).Nodup:=by
   ext zff
  ext zev;generalize eu:gq H1 d kvs=H2;ext Al s2 hd g2 sd2 znq;refine fun gd hgd=>⟨xk,gT VO (by show 2<=15; decide) ?_⟩
  rw[xeq];show(Gu,gq H2 gd (xez [] VO),hgd);show(ah,g23,E2,sd3,sd2.keep (Same.tups s3));show(aw,ngd,gd≠d,(ao,sE g2 hgd),(fG,d,kvs,g23,aK ob l4 hl4));show(ki,nl4,l4,d,sE xk hl4)
  have hl43:H3 l4=none:=by rwa [xj nl4] at hl4
  show(qR,k4,d,(ae,H3 b,u),oB H3 d N4,SG)
  show(cu,t4,Tups H3 (upd H3 d (.frz ob (.dK kvs))),(iI,k4 _ _ (ne_f e g23) e),xo6 xk hl4 (Fs kvs.length 13) (uo,∃ p q,wK prs p vS (G7 Ib)) (fun i y H H' tp ⟨p,q,a1,a2,a3⟩=>(bD,p,q,a1,a2,jO a3)) (fun i k x H5 hk s5 N hN=>?_) (fun ys H5 s5 el5 ly5 f5=>?_))
  .show(hX,p,hpp,rfl,sd3.get hk);show(ah,mp,Zj hpp,sd5,(sd3.keep t4).keep (Same.tups s5));show(ah,gd5,cG (k4 _ _ ngd g3),d5,cG (xk (H:=H3) (a:=d) (o:=N4)));show(fT,gB leS1,q1,hq1);have s6:=Ir [.str aV] hq1;obtain⟨r,hr,ev,es⟩:∃ r∈prs,(valV (xez [] VO) (Ja aV)).getD (.str aV)=V.str FJ/\(Ib).2=r.2:=by
    show ∃ r∈prs,(valV (putK (putK [] (Ja i0) (V.str i4)) (Ja i4) (V.str i0)) (Ja aV)).getD (.str aV)=V.str FJ/\(Ib).2=r.2;rw[xcf,xcf];unfold exP;by_cases c1:aV=i0
    .refine (bS,p2,m2,?_,aT c1);rw[ay (ao,ne (c1.symm.trans (Ja.inj z))),B1 c1];rfl
    .by_cases c2:aV=i4
     .refine (bS,p1,m1,?_,bW LD LA);rw[B1 c2];rfl
     .refine (bS,p,mp,?_,bW LD LC);rw[ay (ao,c2 (Ja.inj z)),ay (ao,c1 (Ja.inj z))];rfl
   show(ag,t,ht1,ht2,(sd5.keep (Same.tups s6)).find nd hr);refine(gT,gd,.inl (gD,.inl (dP gd5)),⟨_,Ci aV (dP gd5),d,.ref t,rfl,?_,q1,t,_,_,rfl,rfl,cN xk,cN ht2,aj,tD,Gt,fun _ q2 hq2=>?_⟩)
   .rw [show kV (Ja aV)=V.str aV from rfl,ev];show(eD,(eF,kvs,.inr FJ,.inr ⟨ob,dP d5⟩,ht1.symm))
   .refine lJ (s6.trans (bM hq2)) (eF p q2 hpp ?_);rw[xk];unfold prV;rw[(dU,(Ib).1,aL,rfl),(dU,(Ib).2,r.2,es)];rfl
  .obtain ⟨rs5,rfl,pr5⟩:62:=PrsL.pick (H:=H5) (ss:=ND) (ys:=ys) (by rw[ly5,kl,Za]) fun j y s hy hs=>by
    obtain⟨p,q',a1,a2,a3⟩:83:=f5 j y hy;ext zdT a1;ext aH q' a2 a3
   have s03:=(iz).trans s3;refine q H5 l4 rs5 (oA,cG (k4 _ _ (xi jy hd) (s03 _ _ e))) (s03.free hl43) el5 pr5
noncomputable def totI (w:Int) (prs:aE):Int:=(prs.map (xbs w)).sum
noncomputable def upI (w:Int) (prs:aE):Int:=(prs.map (uprI w)).sum
noncomputable def nmF (n:Str) (p:Pr):Bool:=eJ aV n
noncomputable def nxtP (w:Int) (ss:ai) (prs:aE):aE:=match (DN).head? with
 | some tr=>match HX tr.1,HX (bg tr) with
  | some p1,some p2=>ND
  | _,_=>prs
 | none=>prs
noncomputable def itP (w:Int) (ss:ai) (prs:aE):Nat->aE
 | 0=>prs
 | cJ=>AH
noncomputable def trP (w:Int) (ss:ai) (prs:aE):Tr:=((DN).head?).getD ("", "",0,0)
noncomputable def stP (w:Int) (ss:ai) (prs:aE) (k:Nat):Tr × f7:=(trP w ss sD,totI w (itP w ss prs cJ),upI w (itP w ss prs cJ))
structure GPr (ps:am) (w h:Int) (prs:aE):Prop where
 ok:C9 w h
 nn:(prs.map (·.1.nm)).Nodup
 ns:(prs.map (·.2)).Nodup
 le:sA
theorem xha {prs:aE} (nd:(prs.map (·.1.nm)).Nodup) {p:Pr} (h:p∈prs):ae (HX aV) p:=by
 induction prs with
 | nil=>cases h
 | cons q ps ih =>
  ext vz;rcases Zt.mp h with rfl|z
  .exact JV (cI nmF)
  .rw [Qa]
   .exact ih kE z
   .intro e
    exact nd.1 (Zg.mpr ⟨p,z,(of_decide_eq_true e).symm⟩)
theorem x_ne {ps:am} (nx:(ps.map (·.x)).Nodup):∀{p q:Pt},(bv,y9,q∈ps,p.nm≠q.nm,p.x≠q.x):=by
 induction ps with
 | nil=>intro p q h; cases h
 | cons r ps ih =>
  intro p q hp hq hn e;rw[Zo,ZC] at nx;rcases E3 with rfl|z
  .rcases dC hq with rfl|z2
   .exact hn rfl
   .exact nx.1 (Zg.mpr ⟨q,z2,e.symm⟩)
  .rcases dC hq with rfl|z2
   .exact nx.1 (Zg.mpr ⟨p,z,e⟩)
   .exact ih nx.2 z z2 hn e
theorem xub {ps:am}{w h:Int}{p:Pr} (o:O6) (hw:kn) (hh:jE):(mP,xbs w p,45):=by
 obtain⟨_,_,r1,r2,x1,x2,y1,y2⟩:=o;unfold xbs lenI;ext Oz
theorem xvd {ps:am}{w h:Int}{p:Pr} (o:O6) (hw:kn) (hh:jE):mP Tm 450:=by
 obtain⟨_,_,r1,r2,x1,x2,y1,y2⟩:=o;have a0:mP Tn 30:=No
 have b0:mP Mi 15:=SN
 unfold uprI;show(dX,Int.mul_nonneg a0.1 b0.1,?_);show(ah,h1,Int.mul_le_mul_of_nonneg_right a0.2 b0.1,h2,Int.mul_le_mul_of_nonneg_left b0.2 (qD,lE<=30));exact Int.le_trans h1 h2
theorem xnw {f:Pr->Int}{c:Int} (c0:0<=c):∀{prs:aE},(∀ p∈prs,(mP,f p,c))->(mP,(prs.map f).sum,c*(cQ prs.length))
 | [],_=>aj
 | oI,h=>by
  show(ah,h1,h p Zm,h2,xnw c0 (prs:=r) (Bs q hq));rw[Zo,Jo,ZD];rw[(eS,(gM,r.length+1)=(cQ r.length)+1),Int.mul_add,Int.mul_one];omega
theorem GPr.tot {ps:am}{w h:Int}{prs:aE} (g:DB) (hw:kn) (hh:jE):mP sV 540:=by
 show(ah,z,xnw (f:=xbs w) (c:=45) az (dS,xub (g.ok p hp) hw hh),l,g.le);unfold totI;omega
theorem GPr.up {ps:am}{w h:Int}{prs:aE} (g:DB) (hw:kn) (hh:jE):mP Km 5400:=by
 show(ah,z,xnw (f:=uprI w) (c:=450) az (dS,xvd (g.ok p hp) hw hh),l,g.le);unfold upI;omega
theorem xld {ps:am}{w h:Int}{ss:ai}{prs:aE}{tr:Tr} (nx:(ps.map (·.x)).Nodup) (g:DB) (ht:(ae,(DN).head?,tr)) :
    ∃ A p1 B p2 C c,prs=A++p1::(B++p2::C)/\canO w ss p1 p2=some c/\tr=(i0,i4,c)/\i0≠i4/\vj=prs.map Ss/\vj=zor/\GPr ps w h vj /\
      (totI w vj<sV\/(bT,bg p1,bg p2,totI w vj=sV,Km<upI w vj)):=by
  obtain⟨A,p1,B,p2,⟨C,c,e,hc,et⟩⟩:121:=xiv (List.mem_of_mem_head? ht);obtain⟨em,ne⟩:=xn1 g.nn e;ext U3 prs
  show(ah,o1,g.ok p1 m1,o2,g.ok p2 m2);have en:vj=prs.map Ss:=by
    unfold nxtP;rw[ht];subst et;show (match HX i0,HX i4 with
    | some p1,some p2=>ND
    | _,_=>prs)=_
    rw[xha g.nn m1,xha g.nn m2]
  have el:=en.trans em;have hm:Geo.meet (cel w p1) (cel w p2)≠none:=fun z=>by
    unfold canO at hc;rw[z] at hc;ext Lb hc
  have hx:p1.1.x≠p2.1.x:=x_ne nx (Z7 o1.fd) (Z7 o2.fd) ne;have hs:(bg p1,bX p1)≠(bg p2,bX p2):=fun z=>by
    have nn:=g.ns;rw[e,Zs,Zo,ZP,ZC] at nn;exact (bg nn).1 (jr,dU p1.2 p2.2 z)
  show(dN,key,Geo.ex_pair (y1:=p1.1.y) (y2:=p2.1.y) o1.xy.1 (bg o1.xy) o2.xy.1 (bg o2.xy) hx hs hm,dk A p1 B p2 ⟨86,C,c,e,hc,et,ne,en,dM el ⟨kS,?_,?_,?_⟩⟩)
  . rw[el] at hp
    have old:∀ q,q∈A\/q∈B\/q∈C->q∈prs:=fun q hq=>by
      rw[e];simp only[Zy,Zt];rcases hq with z|z|z
      . ext eD z
      . show(fU,.inr (.inl z))
      . show(S4,.inr (.inr z))
    simp only[Zy,Zt] at hp;rcases hp with z|rfl|z|rfl|z
    . exact g.ok p (old p (.inl z))
    . exact⟨o1.nm,o1.fd,o2.r1,o2.r2,o1.xy⟩
    . exact g.ok p (old p (.inr (.inl z)))
    . exact⟨o2.nm,o2.fd,o1.r1,o1.r2,o2.xy⟩
    . exact g.ok p (old p (.inr (.inr z)))
  . show(h9,nn,g.nn,e);rw[el];simpa using nn
  . show(h9,nn,g.ns,e);rw[el];refine (JG.nodup_iff ?_).mp nn;simp only[Zs,Zo];refine JG.append_left _ ?_;exact ((Qh.cons p1.2).trans (JG.swap _ _ _)).trans (Qh.symm.cons p2.2)
  . show(cq,en,Za,g.le)
  . have t0:sV=(Pn A p1 (Pn,B,p2,totI w C)):=by
      unfold totI;rw[e];simp
    have t1:totI w vj=(Pn A Ec (Pn,B,Ed,totI w C)):=by
      unfold totI;rw[el];simp
    have u0:Km=upI w A+(uprI w p1+(upI w B+(uprI w p2+upI w C))):=by
      unfold upI;rw[e];simp
    have u1:upI w vj=upI w A+(uprI w Ec+(upI w B+(uprI w Ed+upI w C))):=by
      unfold upI;rw[el];simp
    have key2:(zoi<zoj)\/(bT,bg p1,bg p2,zoi=zoj,uprI w p1+uprI w p2<uprI w Ec+uprI w Ed):=key;rcases key2 with z|⟨z1,z2,z3⟩
    . ext eD aa
    . show(fU,⟨z1,aa,aa⟩)
noncomputable def muP (w:Int) (prs:aE):Nat:=(sV*6000+(6000-Km)).toNat
inductive StL (H:Hp):bA IG ax
 | nil:StL H [] []
 | cons {p:Tr × f7}{t q:Addr}{ps:IG}{ts:ax} (h:zfx) (hq:zjz) (r:Rr):StL H (p::ps) (t::ts)
theorem StL.keep {H H':Hp} (s:jZ) {ps:IG}{ts:ax} (h:Rr):StL H' ps ts:=by
 induction h with
 | nil=>ext ia
 | cons h hq _ ih=>exact .cons (s _ _ h) (s _ _ hq) ih
theorem StL.len {H:Hp}{ps:IG}{ts:ax} (h:Rr):wj ts.length:=by
 induction h with
 | nil=>rfl
 | cons _ _ _ ih=>simp[ih]
theorem StL.snoc {H:Hp}{ps:IG}{ts:ax} (h:Rr) {p:Tr × f7}{t q:Addr} (e:zfx) (eq:zjz):StL H EY (ts++[t]):=by
 induction h with
 | nil=>exact .cons e eq .nil
 | cons h hq _ ih=>exact .cons h hq ih
inductive xxg (K:Zd) (t:Adr) (vs:af) (H:Hp) (Q:VK) (_:XK):Prop
 | mk (a dp do_ l:Addr) (pw ph:Int) (ps:am) (ss:ai) (prs:aE) (qs:ax) (e_:vU l) (r_:Pic t H a dp do_ pw ph ps/\qz/\EH/\lQ/\GPr ps pw ph prs/\(ps.map (·.x)).Nodup/\∀(H':Hp) (tp ln ls:Addr) (n:Nat) (qs' sq:ax),bv bF (bo ln) (va tp (ip LH ls)) (bc,gR ln zpr,PrsL H' (IY n) qs',gR ls WX,StL H' ((Zu n).map (stP pw ss prs)) sq,(j3,(∀ k<n,(He oq)≠none),(∀ k,GPr ps pw ph oq),cans pw ss (IY n)=[],ln≠ls,tp)))
theorem xiq {ps:am}{w h:Int}{ss:ai}{prs:aE} (nx:(ps.map (·.x)).Nodup) (g:DB):∀ k,GPr ps w h sD
 | 0=>g
 | cJ=>by
  have ih:=WT;show GPr ps w h AH;cases e:zpe with
  | none =>
   unfold nxtP;ext aQ e ih
  | some tr =>
   obtain⟨_,_,_,_,⟨_,_,_,_,_,_,_,_,g',_⟩⟩:121:=xld nx ih e;exact g'
theorem xlf (T:aF):FnOk true P w K mg base aD 9 t.f_uncrossed t.d_uncrossed iu (xxg K t):=by
 refine T.F_uncrossed.okn (k:=8) xb0 (aJ h) (fun cdv A outer s H vs Q E hr h=>?_)
 .obtain ⟨a,dp,do_,l,pw,ph,ps,ss,prs,qs,rfl,_⟩:=h;rfl
 .obtain ⟨a,dp,do_,l,pw,ph,ps,ss,prs,qs,rfl,h⟩:=h;refine⟨_,xh (pS 2 xb0.nd (xbn xgo rfl T.n_list boot_list fD))
   (xh (pS 3 xb0.nd (xb1 (xg)))
   (xh (pS 4 xb0.nd (pC (xdy T) hr T.g_exchangeable T.F_exchangeable.kp T.b_exchangeable KM))
   (xh (xfz ZA (S1 4) (xh (C0 4 5 xb0.nd (gG 6 xb0.nd 7))
   (xh (pS 2 xb0.nd (pC (xkn T) hr T.g_exchanged T.F_exchanged.kp T.b_exchanged (kg 2 5 6)))
   (xh (xap (xek Jm Ys Yr xdq fJ (xa (xal (lH 5 (lH 6 (pX 7 (pC (xe2 T) hr T.g_total T.F_total.kp T.b_total KM) (pC (xne T) hr T.g_upright T.F_upright.kp T.b_upright KM))))) (xg))))
   (xl (pS 4 xb0.nd (pC (xdy T) hr T.g_exchangeable T.F_exchangeable.kp T.b_exchangeable KM)))))))
   (sS tH)))),?_⟩
  refine sq5 ?_; intros; obtain⟨pic,st,hl,pr,g,nx,q⟩:47:=h;obtain⟨⟨dx0,hp⟩,_,w1,w2,h1,h2,_⟩:=ul;show(dN,gk,xiq (ss:=ss) nx g,(Fl,l,hl,au ln0 hln0));ext V9 ln0 jS hln0;ext fT Vr ls hls1;have fls:bo ls:=s1.free hls1;generalize eu:qi H1 ls=H2;ext qZ s2 hls1;show(ah,g2,ug_e eu,s02,s1.trans s2);show(aw,nls,ln0≠ls,xi g1 hls1,⟨a,dp,do_,ln0,pw,ph,ps,ss,prs,qs,rfl,⟨46,pE s02,st.same s02,E6,pr.keep (Same.tups s02),g.ok,b9 H3 v s3 tv⟩⟩);ext zoD; ext zaF;have mub:∀ k,muP pw oq<3300000:=fun k=>by
   show(ah,z1,(gk k).tot w2 h2,z2,(gk k).up w2 h2);unfold muP;omega
  refine(dM,fun m Z H5=>∃(k:Nat) (ln:Addr) (v v5 v6 v7:b8) (vf:V) (qs5 sq:ax),(jc,m,muP pw oq,k+m<=muP pw prs,Z=[dJ,zi,nY,aC ls,some vf,v5,v6,v7],(aq,Lx,bo ln,ln≠ls,(ae,H5 ln,zpq),(aq,PrsL H5 oq qs5,(ae,H5 ls,WX),StL H5 ((Zu k).map (stP pw ss prs)) sq,(∀ j<k,(He (IY j))≠none),TrV H5 (He oq) vf))),(dk,_,0,ln0,none,dk _ _ _ v ⟨86,qs,[],rfl,(vx,0+muP pw prs<=_),rfl,s03,hln0,⟨47,nls,fK E6,pr.keep (Same.tups s03),E2,.nil,(FI,absurd hj (QP _)),tv⟩⟩));rintro m Z H5 (⟨k,ln,_,v5,⟨v6,v7,vf,qs5,sq,rfl,km,rfl,s5,fln,nln,hln,pr5,hls5,st5,hk5,tv5⟩⟩:121);have sl:=st5.len;rw[Za,ZT] at sl;have mb:=mub 0;rcases tv5 with⟨en,rfl⟩|⟨tr,qf,qc,et,rfl,hqf,hqc⟩
  .refine EN jz;ext fT cS tp htp;have s6:=Ir (ip LH ls) htp;exact q _ tp ln ls k qs5 sq AU fln xk (dP hln) (pr5.keep (Same.tups s6)) (dP hls5) (st5.keep (Same.tups s6)) hk5 gk (List.head?_eq_none_iff.mp en) nln
  .refine (j6,ifP jz ?_);obtain⟨A,p1,B,p2,⟨C,c,e,hc,et2,ne,en,el,g',dec⟩⟩:121:=xld nx (gk k) et;subst et2;ext U3 oq
   have mlt:muP pw j8<muP pw oq:=by
    show(ah,z1,(gk k).tot w2 h2,z2,(gk k).up w2 h2);show(ah,z3,(Cp).tot w2 h2,z4,(Cp).up w2 h2);have dec':totI pw j8<totI pw oq\/(bT,bg p1,bg p2,totI pw j8=totI pw oq,upI pw oq<upI pw j8):=dec;unfold muP;omega
   let Pm (σ':L2.St) (H9:Hp):Prop:=∃(ln:Addr) (v5 v6 v7:b8) (vf:V) (qs5 sq:ax),(aq,σ'=[dJ,zi,nY,aC ls,some vf,v5,v6,v7],gX H9,bo ln,ln≠ls,(aq,(ae,H9 ln,zpq),PrsL H9 j8 qs5,(ae,H9 ls,WX),StL H9 ((Zu cJ).map (stP pw ss prs)) sq,TrV H9 (He j8) vf))
   ext BB
   .rintro σ' H9 (⟨ln',v5,v6,v7,⟨vf,qs9,sq9,e1,e2,e3,e4,e5,e6,e7,e8,e9⟩⟩:121);refine cD mlt (dk,cJ,ln',none,v5,dk v6 v7 vf qs9 ⟨66,sq9,rfl,aa,e1,e2,e3,⟨47,e4,e5,e6,e7,e8,au j hj,e9⟩⟩);by_cases cj:j=k
    .subst cj;ext aQ et dF
    .exact hk5 j aa
   refine sq4 ?_; intros; show(pZ,qf,hqf,⟨ln,_,qs5,p1,p2,rfl,⟨47,hln,pr5,(gk k).nn,(gk k).le,m1,m2,⟨ne,fun H6 l6 qs6 s6 fl6 hl6 pr6=>?_⟩⟩⟩);rw[<- en] at pr6;have pr6':PrsL H6 j8 qs6:=pr6;have s06:=s5.trans s6;have fl6':bo l6:=s5.free fl6;show(aw,nl6,l6≠ls,(ao,sE hls5 fl6),⟨vg (dP hls5),a,dp,do_,l6,pw,ph,ps,j8,qs6,rfl,pE s06,hl6,pr6',(Cp).ok,(Cp).le,au H7 s7⟩);have s07:=s06.trans s7;show(br,⟨a,dp,do_,l6,pw,ph,ps,j8,qs6,rfl,⟨46,pE s07,oO hl6,zmC,(Cp).ok,(Cp).le,au H8 s8⟩⟩,iF (gB leS5) p9 hp9);have s58:=(Rw).trans s8;show(wE,s9,Ir (U2,((j8).map (xbs pw)).sum,((j8).map (uprI pw)).sum) hp9,hls8,s9 _ _ (uC hls5),(wC,ls,_,_,rP hls8 ?_ ?_))
   .rw [Za];exact ZQ (by have z:muP pw prs<3300000:=mb; omega:sq.length<3300000) az
   have np9:p9≠ls:=kC (uC hls5) hp9;obtain⟨HA,eHA⟩:∃ HA,HA=(fw (fA H8 p9 (U2,((j8).map (xbs pw)).sum,((j8).map (uprI pw)).sum)) ls (sq.map V.ref++[.ref p9])):=ju
   have kA:o8 ls (ae,H8 b,u) (ae,HA b,u):=fun b u nb e=>by
    show(cq,eHA,qg,s9 _ _ e)
   have tA:Tups H8 HA:=(iI,kA _ _ (ne_f e (uC hls5)) e);show(lI,s0A,gX HA,kA _ _ (xi e fls) (qp (s07 _ _ e)));have gA:(ae,HA ls,.lst ((sq++[p9]).map V.ref)):=by
    rw[eHA,xk,Zs];rfl
   have gp:HA p9=some (.tup (U2,((j8).map (xbs pw)).sum,((j8).map (uprI pw)).sum)):=by
    show(cq,eHA,xj np9,xk)
   have hlA:=kA _ _ nl6 (qp (oO hl6));show(ah,prA,((zmC).keep (Same.tups s8)).keep tA,stA,(st5.keep (Same.tups s58)).keep tA);rw[<- eHA];show(br,⟨a,dp,do_,l6,pw,ph,ps,ss,j8,qs6,rfl,⟨46,pE s0A,st.same s0A,hlA,prA,(Cp).ok,b9 HB vB sB tvB⟩⟩,rQ l6 _ ⟨106,vB,qs6,sq++[p9],rfl,s0A.trans sB,fl6',nl6,sB _ _ hlA,(bR,prA.keep (Same.tups sB),sB _ _ gA,?_,tvB)⟩);rw[Yj,Zs];refine StL.snoc (p:=stP pw ss prs k) (q:=qc) (stA.keep (Same.tups sB)) ?_ ?_
   .have etr:trP pw ss (itP pw ss prs k)=(p1.1.nm,p2.1.nm,c):=by
     unfold trP;rw[et];rfl
    unfold stP;rw[etr];exact sB _ _ gp
   .have etr:trP pw ss (itP pw ss prs k)=(p1.1.nm,p2.1.nm,c):=by
     unfold trP;rw[et];rfl
    unfold stP;rw[etr];exact sB _ _ (tA _ _ (uC hqc))
noncomputable abbrev seF (d1 d2:Addr):iS:=[iP "seat_of" d1,iP "holder_of" d2]
theorem lkSo {d1 d2:Addr}:(Sr).lookup (dD "seat_of")=(aC d1):=by
 unfold seF;show(uR,"seat_of")
theorem lkHo {d1 d2:Addr}:(Sr).lookup (dD "holder_of")=(aC d2):=by
 unfold seF;show(CT,"holder_of","seat_of","holder_of",[("holder_of",V.ref d2)]);show(uR,"holder_of")
theorem xk9 {d1 d2:Addr}{m:Str} (e:((["seat_of", "holder_of"]:ap).all fun k=>Sv)=true):(Sr).lookup m=none:=by
 ext Mw;ext Be e1 e2 e;unfold seF;show(Hg,e1,[("holder_of",V.ref d2)]);rw[Zx,e2];rfl
noncomputable def SoD (H:Hp) (d:Addr) (n:Nat) (so:bB):Prop:=∃ kvs:bw,(sr d)/\kvs.length<=n/\∀ nm,((B3 nm)->yP=none)/\∀ s,(ae,so nm,s)->∃ q,yP=Cg/\Bz
noncomputable def HoD (H:Hp) (d:Addr) (n:Nat) (ho:aI):Prop:=∃ kvs:dc,(w4 d)/\kvs.length<=n/\∀ s,Hb=(ho s).map V.str
theorem SoD.keep {H H':Hp}{d:Addr}{n:Nat}{so:bB} (s:PK) (tp:jZ) (h:Nq d):SoD H' d n so:=by
 ext Hy;show(gF,kvs,h _ e,l,fun nm=>⟨(f nm).1,(h7,let ⟨q,a,b⟩:=(f nm).2 s hs; ⟨q,a,jO b⟩)⟩)
theorem HoD.keep {H H':Hp}{d:Addr}{n:Nat}{ho:aI} (s:PJ) (h:Nq d):HoD H' d n ho:=by
 ext ag kvs e r s;show(aH,kvs,h _ e,r)
theorem HoD.le {H:Hp}{d:Addr}{n k:Nat}{ho:aI} (s:PJ) (h:n<=k):HoD H d k ho:=by
 ext zkN
theorem SoD.le {H:Hp}{d:Addr}{n k:Nat}{so:bB} (s:PK) (h:n<=k):SoD H d k so:=by
 ext zkN
theorem HoD.get {H:Hp}{d:Addr}{n:Nat}{ho:aI} (s:PJ) {b:Addr}{c:Seat} (eb:lO b c):DGet H d ug ((ho c).map V.str):=by
 ext Hy;show(kh,f c,(BG,x0 c,e,eb))
theorem HoD.put {H:Hp}{d:Addr}{n:Nat}{ho:aI} (s:PJ) (hn:n<1000) {b:Addr}{c:Seat} (eb:lO b c) (x:Str) :
    (zeq,ug,mK,HoD H' d (n+1) (Kp.upd1 ho c x)):=by
  ext Hy;refine⟨65,_,DPut.t (k:=x0 c) e eb (xb2 aa),bS _ xk ?_ nX,zlG,zja,zic⟩
  . show(cW,xbu kvs (x0 c) (.str x))
  . ext zpk c
    . rw[B1 zc,aT zc]
      rfl
    . rw[ay (jP,zc (xee y)),ay zc]
      exact f z
theorem SoD.put {H:Hp}{d:Addr}{n:Nat}{so:bB} (s:PK) (hn:n<1000) {b:Addr}{c:Seat} (eb:lO b c) (x:Str) :
    (zeq,mK,ug,SoD H' d (n+1) (Kp.upd1 so x c)):=by
  ext Hy;show(aw,tp,Tups H (gq H d (RS Cc b)),zja,⟨65,_,yE Cc e (xb2 aa),bS _ xk ?_ nX,zlG,tp,zic⟩)
  . show(cW,xbu kvs Cc (.ref b))
  . ext zpk x
    . subst zc
      rw[bY,bY];show(aS,Ho,h7 (eX,b,by cases hs; exact jO eb))
    . rw[ay (jP,zc (Ja.inj y)),ay zc]
      show(aS,(f z).1,(h7,let ⟨q,a1,a2⟩:=(f z).2 s hs; ⟨q,a1,jO a2⟩))
theorem SoD.get {H:Hp}{d:Addr}{n:Nat}{so:bB} (s:PK) (x:Str):((B3 x)/\DGet H d mK none)\/∃ c q,(ae,so x,c)/\DGet H d mK Cg/\(lO q c):=by
 ext Hy;have g:=Ci x e;cases z:so x with
 | none =>
  rw[(f x).1 z] at g;show(eD,cp g)
 | some c =>
  show(yZ,q,(f x).2 c z);rw[e1] at g;show(fU,fG c q g e2)
structure Sg (t:Adr) (H:Hp) (p d1 d2:Addr) (n:Nat) (so:bB) (ho:aI):Prop where
 ins:∃ dx,aR p (lG t.C_al Sr)
 so:SoD H d1 n so
 ho:HoD H d2 n ho
theorem Sg.keep {t:Adr}{H H':Hp}{p d1 d2:Addr}{n:Nat}{so:bB}{ho:aI} (g:Sg t H p d1 d2 n so ho) {d:Addr} (h1:p≠d) (h2:d1≠d) (h3:d2≠d) (tp:jZ) (k:sj d):Sg t H' p d1 d2 n so ho :=
 (zlP,(lF,k _ _ h1 e),g.so.keep tp (mM,k _ _ h2 e),(mM,k _ _ h3 e))
theorem Sg.same {t:Adr}{H H':Hp}{p d1 d2:Addr}{n:Nat}{so:bB}{ho:aI} (g:Sg t H p d1 d2 n so ho) (s:bF):Sg t H' p d1 d2 n so ho :=
 (zlP,lF qT,g.so.keep (Same.tups s) (mM qT),mM qT)
theorem Sg.le {t:Adr}{H:Hp}{p d1 d2:Addr}{n k:Nat}{so:bB}{ho:aI} (g:Sg t H p d1 d2 n so ho) (h:n<=k):Sg t H p d1 d2 k so ho:=⟨g.ins,g.so.le h,g.ho.le h⟩
noncomputable def KB (H H':Hp) (d1 d2:Addr):Prop:=∀ b u,(bv,b≠d1,b≠d2,iY,(ae,H' b,u))
inductive xqz (t:Adr) (vs:af) (H:Hp) (Q:VK) (_:XK):Prop
 | mk (p dx:Addr) (e_:vs=[.ref p]) (r_:(aR p (lG t.C_al []))/\∀ H' d1 d2,(bc,bo d1,bo d2,sj p,Sg t H' p d1 d2 0 fh fh,l9))
structure xrs (room:j9) (so:bB) (asked:aI) (rk:Str->Nat) (name:Str):Prop where
 rm:∀ s a,oZ->Ca
 no:∀ s a,oZ->(B3 a)->a=name
 up:∀ s a,oZ->∀ s1,(ae,so a,s1)->∃ a1,(ae,asked s1,a1)/\rk a1<rk a
 le:∀ s a,oZ->rk a<=20
inductive xuw (t:Adr) (vs:af) (H:Hp) (Q:VK) (_:XK):Prop
 | mk (p d1 d2 d3 q:Addr) (n m:Nat) (room:j9) (so:bB) (ho asked:aI) (rk:Str->Nat) (name a:Str) (s:Seat) (e_:vs=(qP wx d3 q)) (r_:Bz/\(aq,Sg t H p d1 d2 n so ho,HoD H d3 m asked,d3≠d2,n<=600,(aq,xA,AZ,oZ,xrs room so asked rk name,∀ H' so' ho',Pb->(gY cZ A4)->(bc,Sg t H' p d1 d2 (n+30) so' ho',NU,GH (Ig||sH),wZ si (EA so ho),l9))))
theorem ok_at (T:aF):FnOk true P w K mg base aD 1 t.f_at t.d_at iD (xqz t):=by
 refine T.F_at.okn (k:=0) sc_at (aJ h) (fun cdv A outer s H vs Q E hr h=>?_)
 .ext wX p dx
 .ext xH p dx;refine⟨_,xh Tk
   (DW (xex)),?_⟩
  refine sq2 ?_; intros; ext gK hp h;refine au d1 hd1;show(aw,n1,p≠d1,xi hp hd1,⟨126,p,_,dx,_,rfl,(bO n1 hp),T.c_al,T.n_bw,(kK 0),au d2 hd2⟩);have n2:p≠d2:=xi xk hd2;show(aw,n3,d1≠d2,xi (aB BQ xk) hd2,⟨126,p,_,dx,_,rfl,(bO n2 xk),T.c_al,T.n_bu,(kK 1),?_⟩);have hd2':bo d2:=by
   have z:=hd2;show(yh,kB n2,kB n3)
  refine q _ d1 d2 hd1 hd2' BP ⟨Fg,(bS,[],?_,bu,fun nm=>⟨pB,fun s z=>(nomatch z)⟩),(bS,[],?_,bu,fun s=>rfl)⟩
  .rw [qg,om hd2',qg,om hd1];exact e
  .rw [BQ,xj n3,BQ];exact xk
  .ext Lc n2
theorem ok_o (T:aF):FnOk true P w K mg base aD 1 t.f_o t.d_o (iZ "asked_by" "free_seat") (xuw t):=by
 refine T.F_o.okn (k:=0) sc_o (aJ h) (fun cdv A outer s H vs Q E hr h=>?_)
 .obtain ⟨p,d1,d2,d3,q0,n,m,room,so,ho,asked,rk,name,a0,s0,rfl,_⟩:=h;rfl
 .obtain ⟨p,d1,d2,d3,q0,n,m,room,so,ho,asked,rk,name,a0,s0,rfl,h⟩:=h;refine⟨_,xh (pS 3 sc_o.nd (pv 2))
   (xl (xfz ZA (S1 3) (xh (pS 4 sc_o.nd (A6 1 fJ))
   (xh (pS 5 sc_o.nd (xqb gz bi dw GW))
   (xh (qV bi dw fJ)
   (xh (qV bi fJ dw)
   (xl (pS 3 sc_o.nd (pv 5))))))))),?_⟩
  refine sq2 ?_; intros; obtain⟨hq0,sg,had,n32,n600,mt,⟨hs0,as0,ch,q⟩⟩:47:=h;refine gx ?_; refine wo ?_; intros; show(im,fun k Z H1=>∃ v3 v4 v5,(jc,Z,zhK,KB H H1 d1 d2,(gY,cZ,H1 b=none),(zgn (bT,v3,.non,k=0,(zlJ,Sg t H1 p d1 d2 (n+30) so' ho',Ig||sH)) (aq,eO v3 qs,(ae,H1 qs,tO s),oZ,k=rk a+1,(zes,Sg t H1 p d1 d2 n1 so1 ho1,zlE)))),⟨124,rk a0+1,_,_,_,rfl,fun b u _ _ e=>e,fun b e=>e,.inr (dk q0 s0 a0 so ⟨86,ho,n,rfl,hq0,as0,rfl,mt.hand hs0,bR hV sg (gL,ch.le _ _ as0) LG⟩)⟩);rintro k Z H1 (⟨v3,v4,v5,rfl,kb,fr,cs⟩:104);refine j6 ?_;rcases cs with⟨rfl,rfl,so',ho',sg',mt',dm',rc'⟩|⟨qs,s,a,so1,ho1,n1,rfl,hqs,asd,rfl,hand,low,sg1,nb,rc1⟩
  .exact ifN az (q H1 so' ho' kb fr sg' mt' dm' rc')
  .refine ifP (eB,sJ dF) (dM,(Bw,∃ k',k'<rk a+1/\∃ v3 v4 v5,jc σ' zhK Pb (gY cZ A4) (zgn (bT,v3,.non,k'=0,(zlJ,Sg t H' p d1 d2 (n+30) so' ho',Ig||sH)) (aq,eO v3 qs,zbo,oZ,k'=rk a+1,(zes,Sg t H' p d1 d2 n1 so1 ho1,zlE)))),fun σ' H' z=>z);refine sq5 ?_; intros; obtain⟨dx1,hp1⟩:=sg1.ins;ext mZ ka hka had;show(mZ,k1,hk1,sg1.so);show(mZ,k2,hk2,sg1.ho);show(mZ,k10,hk10,sg.so);show(mZ,k20,hk20,sg.ho);ext ja n31 d3 d1 hka hk10;ext ja n12 d1 d2 hk1 hk2;show(ah,had1,had.keep (H':=H1) (mM,kb _ _ n31 n32 e),gt,had1.get hqs);rw[asd] at gt;show(BY,d3,.str a,gt,?_);show(ah,lowa,low a bu,rma,ch.rm _ _ asd);ext ja np1 p d1 hp1 hk1;ext ja np2 p d2 hp1 hk2
   -- the two puts
   obtain⟨H2,dp2,so2,kk2,tp2,fr2⟩:65:=sg1.so.put aa hqs a;have hp2:=kk2 _ _ np1 hp1;show(ah,hqs2,tp2 _ _ hqs,ho2,sg1.ho.keep (H':=H2) (mM,kk2 _ _ (Z1 n12) e));obtain⟨H3,dp3,ho3,kk3,tp3,fr3⟩:65:=ho2.put aa hqs2 a;show(ah,so3,so2.keep tp3 (mM,kk3 _ _ n12 e),hp3,kk3 _ _ np2 hp2);have kb3:KB H H3 d1 d2:=(zcR,kk3 _ _ b2 (kk2 _ _ b1 (kb _ _ b1 b2 e)));show(bC,fr03,(gY,cZ,H3 b=none),b,e,fr3 _ (fr2 _ (fr _ e)));have sg3:Sg t H3 p d1 d2 (n1+1) (Kp.upd1 so1 a s) (Kp.upd1 ho1 s a):=⟨⟨dx1,hp3⟩,so3,ho3⟩
   rcases sg1.so.get a with⟨e0,g0⟩|⟨s1,q1,e1,g1,hq1⟩
   .refine ⟨p,_,dx1,_,_,rfl,VT (gT,d1,.inl ⟨k1,.inl hk1⟩,dM none g0)⟩;show(br,⟨p,_,dx1,_,_,rfl,znA⟩,⟨p,_,dx1,_,_,rfl,zgL⟩);have an:a=name:=ch.no _ _ asd (cT lowa e0);obtain⟨mt3,dm3⟩:=hand.last rma e0;show(aH,0,aa,⟨104,_,_,_,rfl,kb3,fr03,.inl (eX rfl ⟨84,_,_,sg3.le aa,mt3,(ao (bW,dm3 z,an)),.step rc1 (Kp.k_fin asd e0)⟩)⟩)
   .refine ⟨p,_,dx1,_,_,rfl,VT (gT,d1,.inl ⟨k1,.inl hk1⟩,(dM,aC q1,g1))⟩;show(br,⟨p,_,dx1,_,_,rfl,znA⟩,⟨p,_,dx1,_,_,rfl,zgL⟩);show(ag,a1,as1,lt,ch.up _ _ asd s1 (cT lowa e1));show(gU,rk a1+1,aa,⟨104,_,_,_,rfl,kb3,fr03,.inr (dk q1 s1 a1 _ ⟨86,_,n1+1,rfl,tp3 _ _ (tp2 _ _ hq1),as1,rfl,hand.step rma e1,(bR,iA,sg3,aa,.step rc1 (Kp.k_hand asd e1))⟩)⟩);have nba:b≠a:=(ao,by rw[z] at hb; omega)
    show Kp.upd1 so1 a s b=so b;show(Hv,nba,low b aa)
structure Bf (room:j9) (ho:aI) (name:Str) (crowd:ap) (al:ai) (asked:aI):Prop where
 cr:crowd.length=al.length+1
 c0:eZ crowd 0 name
 hd:(znu,∃ h,(eZ crowd fW h)/\DL)
 nd:al.Nodup
 no:∀ s,Fy->Hm
 ak:(znu,∃ k a,(aP,k<=j,Fz,oZ,Ca))
theorem xr3 {α:Type}{l:bZ} (nd:l.Nodup) {i j:Nat} (hi:i<l.length) (hj:j<l.length) (e:l[i]=l[j]):i=j:=by
 rcases Nat.lt_trichotomy i j with h|h|h
 .show(eY,e,Ji.mp nd i j hi hj h)
 .exact h
 .show(eY,e.symm,Ji.mp nd j i hj hi h)
section
variable {room:Str->List Seat}{so:Str->Option Seat}{ho asked:Seat->Option Str}{name:Str}{crowd:List Str}{al:List Seat}
theorem Bf.start:Bf room ho name [name] [] fh:=⟨rfl,rfl,eP j s AI,YD,hV,eP j s AI⟩
theorem Bf.at_ (b:Bf room ho name crowd al asked) (mt:xA) {k:Nat}{a:Str} (e:Fz):(k=0/\a=name)\/∃ j s,bT k fW (cO al s) zbH:=by
 cases k with
 | zero =>
  left;rw[b.c0] at e;show(aS,rfl,(ZL.inj e).symm)
 | succ j =>
  right;have lt:j<al.length:=by
   show(wp,zdF,b.cr)
  show(yZ,h,b.hd j _ ii);ext bI e e1 e1;exact(fG,j,_,ii,(mt.iff _ _).mpr e2)
theorem Bf.inj (b:Bf room ho name crowd al asked) (mt:xA) (sn:tw) {k l:Nat}{a:Str} (e:Fz) (e':eZ crowd l a):k=l:=by
 rcases b.at_ mt e with⟨rfl,rfl⟩|⟨j,s,rfl,h1,h2⟩<;>rcases b.at_ mt e' with⟨rfl,h⟩|⟨j',s',rfl,h1',h2'⟩
 .rfl
 .ext zp sn h2'
 .rw [h,sn] at h2;cases h2
 .rw [h2] at h2';cases h2';ext nF x hx h1;ext nF y hy h1';show(cW,xr3 b.nd x y (bW hx hy))
theorem Bf.nodup (b:Bf room ho name crowd al asked) (mt:xA) (sn:tw):crowd.Nodup:=by
 refine Ji.mpr fun i j hi hj lt e=>?_;show(cW,b.inj mt sn (Zb hi) (by rw[e]; exact Zb hj))
theorem Bf.add (b:Bf room ho name crowd al asked) {i:Nat}{a h:Str}{s:Seat} (ea:xM) (ra:Ca) (ns:Fy) (hh:DL):Bf room ho name A9 n6 uT:=by
 show(ah,cr,b.cr,il,h8 ea);have lft:∀{k:Nat}{x:Str},(EI x)->(eZ A9 k x):=fun {k x} e=>by
  show(aQ,ZY (Zh.mp e).1,e)
 refine⟨by rw[Zr,Zr,cr]; rfl,lft b.c0,rW j z,?_,au z nz,rW j z⟩
 .by_cases c:j<al.length
  .rw [ZY c] at e;show(yZ,h',b.hd j z e);show(aH,h',lft e1,e2)
  .ext zeE;show(gU,h,?_,hh);rw[<- cr,Jz (Zk _),Nat.sub_self];rfl
 .rw [ZP];show(aH,b.nd,aj,fun x hx y hy e=>ns (by show(b6,Zp.mp hy,e,e▸hx)))
 .show(Hv,fun e=>nz (aB e Fe),b.no z fun y=>nz (ZO _ y))
 .by_cases c:j<al.length
  .rw [ZY c] at e;obtain⟨k,x,e1,e2,e3,e4⟩:84:=b.ak j z e;refine⟨84,k,x,e1,lft e2,?_,e4⟩;show(Hv,fun y=>ns (by rw[<- y]; exact Zj e),e3)
  .ext zeE;refine⟨84,i,a,aa,lft ea,?_,ra⟩;unfold Kp.upd1;rw[bY]
theorem Bf.chain (b:Bf room ho name crowd al asked) (mt:xA) (sn:tw) (c20:crowd.length<=20) {i:Nat}{a:Str}{s:Seat} (ea:xM) (ra:Ca) (ns:Fy):xrs room so uT (ao,crowd.idxOf z) name:=by
 have ix:∀{k:Nat}{x:Str},(EI x)->crowd.idxOf x=k:=fun {k x} e=>by
  show(ah,m,Zj e,lt,List.idxOf_lt_length_of_mem m);refine b.inj mt sn (a:=x) ?_ e;rw[ii,List.getElem_idxOf]
 have key:∀ s' a',(ae (Ic a s') a')->s'∈room a'/\∃ k,EI a':=fun s' a' e=>by
  ext zqf
  .rename_i h
   cases e;rw[h];ext aH ra i ea
  .by_cases h:s'∈al
   .obtain ⟨j,hj,ej⟩:=ZJ h;obtain⟨k,x,e1,e2,e3,e4⟩:84:=b.ak j s' (oH hj ej);ext bI e e3 e3;ext aH e4 k e2
   .rw [b.no s' h] at e;cases e
 refine⟨(eP,s',a',(key s' a' e).1),b9 s' a' e z,bL s' a' e s1 z,rW s' a'⟩
 .ext Vv;rcases b.at_ mt ek with⟨_,h⟩|⟨j,s2,_,_,h⟩
  .exact h
  .ext gZ z;cases h
 .ext Vv;rcases b.at_ mt ek with⟨_,h⟩|⟨j,s2,rfl,hj,h⟩
  .rw [h,sn] at z;cases z
  .ext gZ z;cases h;obtain⟨k2,a2,e1,e2,e3,_⟩:84:=b.ak j s1 hj;show(im,a2,?_)
   .show(Hv,fun y=>ns (by rw[<- y]; exact Zj hj),e3)
   .show crowd.idxOf a2<crowd.idxOf a';rw[ix e2,ix ek];omega
 .ext Vv;show crowd.idxOf a'<=20;rw[ix ek];show(cW,h8 ek)
theorem Bf.done (b:Bf room ho name crowd al asked) (mt:xA) (sn:tw) (all:∀(k:Nat) (a:Str),Fz->∀ s∈uj,wA):∃ hs,crowd=By/\(zaG name):=by
 have nd:=b.nodup mt sn;cases crowd with
 | nil =>
  have:=b.c0;simp at this
 | cons x hs =>
  have e0:=b.c0;show(bI,List.getElem?_cons_zero,e0,e0);refine⟨hs,rfl,nd,au h hh,b9 c hc s hs'⟩
  .obtain ⟨j,hj,ej⟩:=ZJ hh;have e:eZ By fW h:=by
    rw[List.getElem?_cons_succ,Ct,ej]
   rcases b.at_ mt e with⟨z,_⟩|⟨_,s,_,_,z⟩
   .omega
   .rw [z];rfl
  .obtain ⟨k,hk,ek⟩:=ZJ hc;have sal:=all k c (oH hk ek) s hs';ext zcc sal;ext yZ h zqm;rw[List.getElem?_cons_succ] at e1;show(aH,h,Zj e1,(mt.iff _ _).mpr e2)
#check _
noncomputable def RmD (H:Hp) (d:Addr) (names:ap) (room:j9):Prop:=∃ kvs:bw,(sr d)/\∀ nm∈names,∃ l rs,(bT,yP,zi,zqo l,xa7 H (room nm) rs)
inductive xsr (t:Adr) (vs:af) (H:Hp) (Q:VK) (_:XK):Prop
 | mk (p d1 d2 rm:Addr) (n:Nat) (room:j9) (so:bB) (ho:aI) (names:ap) (name:Str) (e_:vs=[wx,.str name,.ref rm]) (r_:(aP,Sg t H p d1 d2 n so ho,n<=600,xA,(aq,tw,RmD H rm names room,rm≠d1,(∀ z,sH->z∈names),(aq,name∈names,xC,(∀ z,S5 (room z)),(∀ H' l so' ho',(bv,Pb,ou,H' l=some (.lst []),(j3,Sg t H' p d1 d2 (n+30) so' ho',NU,GH (Ig||sH),wZ si Xg,l))),∀ H' l hs,bF->(j3,ou,gR l (.lst ((By).map V.str)),zaG name,Kp.Rch si Xg (.out By),l)))))
noncomputable def ICr (t:Adr) (H:Hp) (p d1 d2 rm lc da:Addr) (n:Nat) (room:j9) (so:bB) (ho:aI) (name:Str) (i j:Nat) (crowd:ap) (al:ai) (asked:aI) (H1:Hp):Prop :=
 (gX H1)/\(aq,(ae,H1 lc,V4),HoD H1 da al.length asked,Bf room ho name crowd al asked,(∀(k:Nat) (a:Str),k<i->Fz->∀ s∈uj,wA),Kp.Rch si Xg TJ)
theorem ok_f (T:aF):FnOk true P w K mg base aD 2 t.f_f t.d_f (iZ "name" "rooms") (xsr t):=by
 refine T.F_f.okn (k:=1) sc_f (aJ h) (fun cdv A outer s H vs Q E hr h=>?_)
 .obtain ⟨p,d1,d2,rm,n,room,so,ho,names,name,rfl,_⟩:=h;rfl
 .obtain ⟨p,d1,d2,rm,n,room,so,ho,names,name,rfl,h⟩:=h;refine⟨_,xh (pS 3 sc_f.nd (xb1 fD))
   (xh (pS 4 sc_f.nd (xex))
   (xh (pS 5 sc_f.nd (xo))
   (xh (xfz ZA (pK xfv 5 (lU 3)) (xh (pS 6 sc_f.nd (iQ 3 qm))
   (xh (xbg ZA rfl (xaj (A6 2 jL)) (pN 7 sc_f.nd) (xl (xao (xcu (xdr gz (pv 7) (pv 4))) (xh (qV dw (pv 7) jL)
   (xh (xao (xcu (xdr gz (pv 7) bi)) (xh (xap (xaf aM T.c_al T.m_o (ok_o T) aA T.b_o .nil xq (gm 4 7)))
   (xl (xv (xb1 (xg))))) (xab))
   (oz (xek Jm Ys Yr xdq fJ (fX (re bi (pv 7))))))) (xab))))
   (xl (xwd (i:=5) sc_f.nd rfl ro (xo) xs8)))))
   (tt 3)))),?_⟩
  refine sq5 ?_; intros; obtain⟨sg,n600,mt,sn,rmd,nrm,⟨dom,nin,n12,r32,qA,qB⟩⟩:47:=h;show(fT,gB leS1,lc,hlc);generalize eu:fw H lc [.str name]=H1;ext oW s1 hlc g1;refine au da hda;generalize eu:i5 H1 da []=H2;ext qZ s2 hda;show(ah,g2,ug_e eu,fda,s1.free hda);have s02:=s1.trans s2;have ncd:lc≠da:=xi g1 hda;have cl12:∀{crowd:ap}{al:ai}{asked:aI},Bf room ho name crowd al asked->zac:=fun {crowd al asked} b=>by
   refine ZN ((b.nodup mt sn).length_le_of_subset (l₂:=names) yg) n12;obtain⟨k,hk,ek⟩:=ZJ hx;rcases b.at_ mt (show EI x by rw[Zb hk,ek]) with⟨_,e⟩|⟨j,s,_,_,e⟩
   .ext eE e nin
   .exact dom x uc
  refine(dM,fun m Z H3=>(zeV,m,Z=[aC p,f8 name,aC rm,aC lc,qU,bz cH,v6,v7],ICr t H p d1 d2 rm lc da n room so ho name i 0 crowd al asked H3),dk 13 0 [name] [] ⟨106,fh,_,_,rfl,jg,rfl,s02,E6,(bR,bS [] g2 bu pB,.start,fun k a z=>aa,LG)⟩);rintro m Z H3 (⟨i,crowd,al,asked,⟨v6,v7,mi,il,rfl,s3,hlc3,had3,bf,cov,rc3⟩⟩:121);have c12:=cl12 bf;refine Fl lc hlc3 Ta
  .have ic:i<crowd.length:=by
    have z:=of_decide_eq_true y;rw[Za] at z;omega
   show(CZ,Bt m (zeV,m',σ'=[aC p,f8 name,aC rm,aC lc,qU,bz cH,v6,v7],ICr t H p d1 d2 rm lc da n room so ho name i 0 crowd al asked H'))
   show(im,Pm,fun σ' H' z=>z);ext OU; obtain⟨a,ea⟩:∃ a,xM:=(gD,Zb ic)
   refine(cV,lc,_,_,.str a,(rP,aW hlc3,xcc (d4 Zc ea),?_));ext uG; have ain:a∈names:=by
    rcases bf.at_ mt ea with⟨_,e⟩|⟨j,s,_,_,e⟩
    .ext eE e nin
    .exact dom a uc
   show(ag,kr,hkr,fr,id rmd);obtain⟨lr,rs,er,hlr,slr⟩:83:=fr a ain;show(h9,gr,(BC,.inr a,fK hkr),er);show(BY,rm,.ref lr,gr,nK lr (fK hlr));have rll:=slr.len
   let Pv (j:Nat) (Z:L2.St) (H4:Hp):Prop:=∃(crowd:ap) (al:ai) (asked:aI) (v7:b8),(aP,xM,(∀ s∈(uj).take j,wA),Z=[aC p,f8 name,aC rm,aC lc,qU,bz cH,f8 a,v7],ICr t H p d1 d2 rm lc da n room so ho name i j crowd al asked H4)
   show(zR,HS,⟨126,crowd,al,asked,_,ea,(h7,by show(b6,List.take_zero,hs,nomatch hs)),rfl,s3,hlc3,bR had3 bf cov rc3⟩,?_)
   .rintro j Z H4 _ (⟨_,_,_,_,_,_,rfl,s4,_⟩:125);show(zr,cm hlr)
   .rintro j x Z H4 hx (⟨crowd,al,asked,v7,ea,tk,rfl,s4,hlc4,⟨had4,bf,cov,rc4⟩⟩:126);ext MS; ext EB qs hqs;show(ag,s,hs,hsq,slr.get hqs);have hsq4:=cm hsq;have ra:Ca:=Zj hs;show(ah,c12,cl12 bf,cr,bf.cr);have tk1:∀ al':ai,(∀ z∈al,z∈al')->s∈al'->∀ z∈(uj).take fW,z∈al':=fun al' h1 h2 z hz=>by
     rw[ZR,hs] at hz;rcases KN with hz|hz
     .exact h1 _ (tk z hz)
     .have hz:z∈[s]:=hz;show(aQ,Zp.mp hz,h2)
    refine⟨da,_,rfl,had4.get hsq4,_,rfl,Te⟩
    .ext OU; have ns:s∉al:=fun z=>by
      obtain⟨k,hk,ek⟩:=ZJ z;obtain⟨_,x,_,_,e3,_⟩:84:=bf.ak k s (oH hk ek);ext tX e3 y y aj
     obtain⟨H5,dp5,had5,k5,tp5,fr5⟩:65:=had4.put aa hsq4 a;refine fG da H5 dp5 ?_;refine nx ?_; refine iq ?_; intros; have sg4:=sg.same s4;obtain⟨dx4,hp4⟩:=sg4.ins;show(mZ,kq1,hkq1,sg.so);show(mZ,kq2,hkq2,sg.ho);obtain⟨dxp,hpp⟩:=sg.ins;show(cB,sg5,Sg t H5 p d1 d2 n so ho,sg4.keep (d:=da) (xi hpp fda) (xi hkq1 fda) (xi hkq2 fda) tp5 k5,hp5,k5 _ _ (xi hpp fda) hp4);show(ah,hsq5,tp5 _ _ hsq4,hlc5,k5 _ _ ncd hlc4);show(aw,s5,Lx,(zu,k5 _ _ (xi e fda) (cm e)),⟨p,_,dx4,_,_,rfl,cL hp5 T.c_al T.n_bu lkHo ⟨d2,_,rfl,sg5.ho.get hsq5,_,rfl,ub y2 y2⟩⟩)
     .ext Hj; have hn:AZ:=by
       cases e:ho s with
       | none=>rfl
       | some h =>
        ext tX e y2 y2 aj
      refine⟨p,dx4,_,rfl,hp5,xk9 aG,p,d1,d2,da,qs,n,_,room,so,ho,_,_,name,a,s,rfl,hsq5,sg5,had5,kC hkq2 fda,n600,mt,hn,VJ,bf.chain mt sn aa ea ra ns,fun H6 so' ho' kb6 fr6 sg6 mt6 dm6 rc6=>?_⟩;show(fT,gB leS0,l,hl);have kb:KB H H6 d1 d2:=(zcR,kb6 _ _ b1 b2 (cG e));have hl0:ou:=by
       cases e:H l with
       | none=>rfl
       | some u =>
        by_cases e1:l=d1
        .show(ziJ,sg6.so,e1)
        .by_cases e2:l=d2
         .show(ziJ,sg6.ho,e2)
         .show(zp,kb _ _ e1 e2 e,hl)
      exact qA _ l so' ho' (zcR (bO,xi e hl0,kb _ _ b1 b2 e)) hl0 xk (sg6.same (bM hl)) mt6 dm6 ((Kp.Rch.step rc4 (Kp.k_free ea hs (bf.no s ns) hn)).trans rc6)
     .obtain ⟨h,eh⟩:∃ h,DL:=by
       cases e:ho s with
       | none =>
        rw[e] at y2;ext jb y2
       | some h=>show(aS,h,rfl)
      have gh:=sg5.ho.get hsq5;rw[eh] at gh;refine⟨vg hlc5,p,_,dx4,_,_,rfl,hp5,T.c_al,T.n_bu,lkHo,d2,.str h,rfl,gh,lc,_,_,rfl,rfl,hlc5,?_,?_⟩
      .rw [Za];exact xb2 aa
      show(aw,kl,fP lc (ae,H5 c,u) (p5 H5 lc (.lst (Ox++[.str h]))),Ao,⟨126,A9,n6,_,_,?_,tk1 _ (tZ,ZO _ hz) Fe,rfl,(zu,kl _ _ (xi e hlc) (cG e)),d4 xk Zs,(bR,?_,bf.add ea ra ns eh,fun k b hk eb z hz=>?_,.step rc4 (Kp.k_grow ea hs (bf.no s ns) eh))⟩)
      .show(eE,ZY (h8 ea),ea)
      .rw [Zr,ZU];exact had5.keep (mM,kl _ _ (Z1 ncd) e)
      .have hkl:k<crowd.length:=by
        show(cW,h8 ea)
       show(b6,ZY hkl,eb,ZO _ (cov k b hk eb z hz))
    .have sin:wA:=by
      by_cases z:wA
      .exact z
      .rw [bf.no s z] at y;ext jb y
     obtain⟨kk,hkk,ekk⟩:=ZJ sin;obtain⟨_,xx,_,_,e3,_⟩:84:=bf.ak kk s (oH hkk ekk);exact⟨126,crowd,al,asked,_,ea,tk1 al (tZ hz) sin,rfl,s4,hlc4,(bR,had4,bf,cov,.step rc4 (Kp.k_old ea hs e3))⟩
   .rintro Z H4 (⟨crowd,al,asked,v7,ea,tk,rfl,s4,hlc4,⟨had4,bf,cov,rc4⟩⟩:126);rw[Za,rll] at rc4;rw[Za,rll,Kt] at tk;show(dN,ic,h8 ea,⟨_,rfl,m-1,aa,dk aY crowd al asked ⟨86,_,_,aa,aa,rfl,s4,hlc4,(bR,had4,bf,fun k b hk eb z hz=>?_,.step rc4 (Kp.k_next ea (Jg (Zk _))))⟩⟩);ext ij k i
    .ext rD c ea eb;exact tk z hz
    .exact cov k b aa eb z hz
  .have ic:i=crowd.length:=by
    by_cases z:i<crowd.length
    .exact absurd (decide_eq_true yR) y
    .omega
   show(ag,hs,ec,cw,bf.done mt sn fun k a e z hz=>cov k a (gL zdF) e z hz)
   refine (qB H3 lc hs s3 hlc (cT ec hlc3) cw ?_);rw[<- ec];exact .step rc3 (Kp.k_end (Jg aa))
inductive Run (room:j9):ap->bB->(bA aI dG)
 | nil:Run room [] fh fh []
 | inn {ns:ap}{so so':bB}{ho ho':aI}{cs:dG}{nm:Str} (r:yG) (mt:NU) (dm:GH ((eJ z nm)||sH)) (rc:wZ si zae):Run room pJ so' ho' cs
 | out {ns:ap}{so:bB}{ho:aI}{cs:dG}{nm:Str}{hs:ap} (r:yG) (c:zaG nm) (rc:zkA):Run room pJ so ho (cs++[(nm,hs)])
theorem Run.mt {room:j9}{ns:ap}{so:bB}{ho:aI}{cs:dG} (r:yG):xA:=by
 induction r with
 | nil=>ext aS zpc zoW
 | inn _ mt _ _ _=>exact mt
 | out _ _ _ ih=>exact ih
theorem Run.outs {room:j9}{ns:ap}{so:bB}{ho:aI}{cs:dG} (r:yG):(∀ z∈cs.map (·.1),z∈ns)/\cs.length<=ns.length:=by
 induction r with
 | nil=>ext aS nA bu
 | inn _ _ _ _ ih=>show(aS,(tZ,ZO _ (ih.1 z hz)),by rw[Zr]; show(cW,ih.2))
 | out _ _ _ ih =>
  show(dX,ye,by rw[Zr,Zr]; have:=ih.2; simp; omega);rw[Zs] at hz;rcases KN with hz|hz
  .exact ZO _ (ih.1 z hz)
  .exact Z6 _ hz
theorem Run.dom {room:j9}{ns:ap}{so:bB}{ho:aI}{cs:dG} (r:yG) (nd:ns.Nodup):∀ z,sH=((mO z ns)&&! decide (z∈cs.map (·.1))):=by
 induction r with
 | nil=>intro z; rfl
 | @inn ns so so' ho ho' cs nm r mt dm rc ih =>
  intro z;rw[ZP] at nd;rw[dm z,ih nd.1 z];by_cases e:z=nm
  .ext cR;have h1:z∉ns:=(gW,(kE).2 z h z Si rfl);have h2:z∉cs.map (·.1):=(gW,h1 (r.outs.1 z h));simp[h2]
  .simp [e]
 | @out ns so ho cs nm hs r c rc ih =>
  intro z;rw[ZP] at nd;rw[ih nd.1 z];by_cases e:z=nm
  .ext cR;have h1:z∉ns:=(gW,(kE).2 z h z Si rfl);simp[h1]
  .rw [Zs];have e1:(mO z pJ)=decide (z∈ns):=FF
   have e2:decide (z∈cs.map (·.1)++[(nm,hs)].map (·.1))=decide (z∈cs.map (·.1)):=by
    rw[decide_eq_decide,Zy];show(aS,(gW,h.elim id (gW,absurd (Zp.mp h) e)),.inl)
   rw[e1,e2]
theorem Run.det {room:j9}{l:ap}{so:bB}{ho:aI}{cs:dG} (r:zcg l):∀{so2:bB}{ho2:aI}{cs2:dG},Run room l so2 ho2 cs2->(bT,so,so2,ho=ho2,cs=cs2):=by
 have inv:∀{l:ap}{so:bB}{ho:aI}{cs:dG},(zcg l)->(l=[]/\(bT,so,fh,ho=fh,cs=[]))\/(∃ ns nm so0 ho0,(bT,l,pJ,Run room ns so0 ho0 cs,Kp.Rch (Kp.kstep room so0 ho0) zae (.fin so ho)))\/∃ ns nm hs cs0,(jc,l,pJ,Run room ns so ho cs0,zkA,cs=cs0++[(nm,hs)]):=fun r=>by
  cases r with
  | nil=>show(eD,rP rfl rfl rfl)
  | inn r mt dm rc=>exact .inr (.inl ⟨123,_,_,_,_,rfl,r,rc⟩)
  | out r c rc=>show(S4,⟨124,_,_,_,_,rfl,r,rc,rfl⟩)
 induction r with
 | nil =>
  ext zca;rcases inv r2 with⟨_,rfl,rfl,rfl⟩|⟨ns,nm,_,_,e,_⟩|⟨ns,nm,_,_,e,_⟩
  .exact PN
  .show(eY,e.symm,aj)
  .show(eY,e.symm,aj)
 | @inn ns so so' ho ho' cs nm r mt dm rc ih =>
  ext zca;rcases inv r2 with⟨e,_⟩|⟨ns2,nm2,so0,ho0,e,r0,rc0⟩|⟨ns2,nm2,hs,cs0,e,r0,rc0,_⟩
  .ext eY e aj
  .ext LZ;injection z with z1 z2
   show(aH,z1,z2,rfl)
  .ext LZ;cases z
 | @out ns so ho cs nm hs r c rc ih =>
  ext zca;rcases inv r2 with⟨e,_⟩|⟨ns2,nm2,so0,ho0,e,r0,rc0⟩|⟨ns2,nm2,hs2,cs0,e,r0,rc0,rfl⟩
  .ext eY e aj
  .ext LZ;cases z
  .ext LZ;injection z with z1
   injection z1 with _ z2
   show(rR,rfl,eG z2)
noncomputable def xbb (ns:ap) (cs:dG):ap:=ns.filter fun z=>! decide (z∈cs.map (·.1))
noncomputable def xbe (ps:am) (srt:ai) (nm:Str):ai:=match U1 with
 | some p=>NS
 | none=>[]
theorem xn0 {ps:am}{srt:ai} (h:DD) (nm:Str):S5 (xbe ps srt nm):=by
 unfold xbe;split
 .exact ZN rA h
 .exact ZV _
inductive CrL (H:Hp):bA dG ax
 | nil:CrL H [] []
 | cons {c:EF}{q:Addr}{cs:dG}{qs:ax} (h:aR q (.lst ((HL).map V.str))) (r:Ip):CrL H (c::cs) rM
theorem CrL.len {H:Hp}{cs:dG}{qs:ax} (h:Ip):WU:=by
 induction h with
 | nil=>rfl
 | cons _ _ ih=>simp[ih]
theorem CrL.snoc {H:Hp}{cs:dG}{qs:ax} (h:Ip) {c:EF}{q:Addr} (e:aR q (.lst ((HL).map V.str))):CrL H (cs++[c]) (qs++[q]):=by
 induction h with
 | nil=>show(rS,e,.nil)
 | cons h _ ih=>ext Fn
theorem CrL.get {H:Hp}{cs:dG}{qs:ax} (h:Ip) {i:Nat}{q:Addr} (e:Bo):∃ c,(aU cs c)/\(aR q (.lst ((HL).map V.str))):=by
 induction h generalizing i with
 | nil=>ext rV
 | @cons c q' cs qs h _ ih =>
  cases i with
  | zero =>
   ext KC c
  | succ j=>ext wv
theorem CrL.keep {H H':Hp}{cs:dG}{qs:ax} (h:Ip) (k:∀ q∈qs,(Nq q)):CrL H' cs qs:=by
 induction h with
 | nil=>ext ia
 | cons h r ih=>exact .cons (k _ ig _ h) (ih fun q hq=>k q (Zl _ hq))
inductive xqp (t:Adr) (vs:af) (H:Hp) (Q:VK) (_:XK):Prop
 | mk (a ln dp do_:Addr) (w h:Nat) (ps:am) (ss srt:ai) (names:ap) (e_:vU ln) (r_:Dr t H a dp do_ w h ps ss srt/\(aq F7 XF names.Nodup xC (zkZ,CrL H' cs qs,(∀ q∈qs,(bo q)),Ro names)))
theorem xt6 {ps:am}{nm:Str} (h:WL):∃ p,(Gj nm p)/\y9/\p.nm=nm:=by
 cases e:W5 nm with
 | none =>
  ext ag p hp en h;exact absurd (decide_eq_true en) (J7.mp e p hp)
 | some p=>exact(gT,p,Z7 e,xF (Qr (p:=fun z:Pt=>eJ z.nm nm) e))
noncomputable def FRm (l2:Addr) (ps:am) (srt:ai) (names:ap) (i:Nat) (ys:af) (H:Hp):Prop:=∃ L:(yY,Addr × Str × ax),(zhM,(xS Fk)=names.take i,∀ x∈L,(aP,cy≠l2,ba≠l2,Na,(aR cy (.lst ((lB).2.map V.ref)))/\xa7 H (xbe ps srt Fk) (lB).2))
theorem xmx {d:Addr}:∀(L:zbQ) {H:Hp}{kvs:bw},(sr d)->zkS ->
    ∃ H2 kvs2,xem d H (xS (V.str ba,V.ref cX)) H2/\(zdx d kvs2)/\(XR d)/\((L.map (·.1)).Nodup->∀ x∈L,valV kvs2 (.inr ba)=(aC cX))/\∀ k,(∀ x∈L,k≠.inr ba)->valV kvs2 k=kO
  | [],H,kvs,e,_=>⟨85,H,kvs,.nil,e,OL,qS (nomatch z),hV⟩
  | x::L,H,kvs,e,hn=>by
    rw[ZD] at hn;have lp:=xbu kvs (.inr ba) (.ref cX);obtain⟨H2,kvs2,dps,e2,k2,v2,o2⟩:85:=xmx L (H:=gq H d (RS (.inr ba) cX)) xk aa;refine⟨85,H2,kvs2,.cons (yE,.inr ba,e,xb2 aa) dps,e2,fun b u nb eb=>k2 _ _ nb (bO nb eb),aK nd y hy,au k hk⟩
    . ext vz
      rcases dC hy with rfl|hy
      . rw[o2 _ (eP,z,hz,nd.1 (by rw[Ja.inj e]; exact Zg.mpr (dH z hz))),xcf,bY]
      . exact v2 kE y hy
    . rw[o2 k fun y hy=>hk y (Zl _ hy),xcf,ay (hk x ig)]
theorem xjy (T:aF):FnOk true P w K mg base aD 7 t.f_crowds t.d_crowds pj (xqp t):=by
 refine T.F_crowds.okn (k:=6) xdp (aJ h) (fun cdv A outer s H vs Q E hr h=>?_)
 .obtain ⟨a,ln,dp,do_,w',h',ps,ss,srt,names,rfl,_⟩:=h;rfl
 .obtain ⟨a,ln,dp,do_,w',h',ps,ss,srt,names,rfl,h⟩:=h;refine⟨_,xh (pS 2 xdp.nd (CF (xa4 rfl (xaw (zs:=["name"]) (ys:=nG) (fr:=[0]) (N0:=["picture", "names", "rooms", "seating", "found", "name", "crowd"]) (sc0:=xm xf0) aG rfl rfl rfl) sW jK jx dR (o4 (gS 0 (xaf cF T.c_a T.m_l (ok_l T) aA T.b_l .nil xq zj))))))
   (xh (pS 3 xdp.nd (xk5 T.k_al (ok_at T) aA rfl T.g_al T.b_at .nil xq))
   (xh (pS 4 xdp.nd (xb1 (xg)))
   (xh (xbg ZA rfl sW (pN 5 xdp.nd) (xh (pS 6 xdp.nd (xaf fJ T.c_al T.m_f (ok_f T) aA T.b_f .nil xq (gm 5 2)))
   (kR (xlr (pv 6) pB) (oz (xek Jm Ys Yr xdq dw (fc 6))))))
   (tt 4)))),?_⟩
  refine sq5 ?_; intros; obtain⟨dr,hln,nps,nnd,n12,q⟩:46:=h;show(qX,s32,DD,Ga,gH ln hln l2 hl2,xh4 (aW hln) np hl2 (FRm l2 ps srt names) zjC ?_ (fun i x ys H3 hx s3 el3 f3 N hN=>?_) (fun ys H3 s3 el3 ly3 f3=>?_))
  .rintro i ys zs H3 H4 hz4 k4 (⟨L,e1,e2,e3,e4⟩:64);refine ib L e1 e2 e3 yg;obtain⟨a1,a2,a3,a4,a5⟩:45:=e4 x hx;exact(cL,a1,a2,k4 _ _ a2 a3,k4 _ _ a1 a4,a5.keep (iI,k4 _ _ (ne_f e hz4) e))
  .ext znj;show(cc,pt,hf,hpm,epn,xt6 zan);subst epn;have dr3:=dr.same s3;show(uY,dx3,hp3,dr3.pic);refine⟨a,dx3,_,rfl,hp3,bn,a,dp,do_,w',h',ps,ss,pt,rfl,dr3.pic,dr3.sts,dr.ok,dr.nm _ hpm,hf,fun H4 l4 srt' rs4 s4 fl4 pm4 lt4 e4 sl4=>?_⟩;show(A7,srt',pm4.trans dr.pm.symm,lt4,dr.lt);ext fT cS u hu;show(Gv,fA H4 u (ip hW l4),hu);show(cu,e34,∀ c u,(ae,H3 c,u)->zbS,(zu,cG (cm e)),lJ zdv ?_);obtain⟨L,e1,e2,e3,e6⟩:64:=f3;refine(ib,L++[(u,l4,pt.nm,rs4)],d4 e1 Zs,d4 Zr e2,?_,yg)
   .rw [Zs,e3,ZR,hnm];rfl
   .rcases Tu with hx|hx
    .obtain ⟨a1,a2,a3,a4,a5⟩:45:=e6 x hx;exact(cL,a1,a2,e34 _ _ a3,e34 _ _ a4,a5.keep (iI,e34 _ _ e))
    .rw [Zp.mp hx];refine(cL,kC el3 fl4,kC (cm el3) hu,g5,Lq,?_);have er:xbe ps srt' pt.nm=WI:=by
      unfold xbe;rw[hf]
     show xa7 H5 (xbe ps srt' pt.nm) rs4;ext aQ er znt
  rw[Za] at f3;obtain⟨L,rfl,e2,e3,e4⟩:64:=f3;rw[Kt] at e3;refine(zI,l2,xS (ba,V.str Fk,V.ref cy),aB Z4 el3,?_,SR)
  .intro p hp
   ext dY x hx hp;exact zx (e4 x hx)
  have fd:bo d:=s3.free hd;obtain⟨H6,kvs6,dps,e6d,k6,v6,_⟩:85:=xmx (d:=d) (xS (Fk,cy)) (H:=gq H3 d []) xk (by rw[Za]; simp; omega);refine(bD,.dK [],H6,gg,?_,?_)
  .rw [Z4] at dps ⊢;exact dps
  show(lI,k36,rL (ae,H3 b,u) (ae,H6 b,u),k6 _ _ (xi e hd) (bO (xi e hd) e));show(lI,s06,gX H6,k36 _ _ (s3 _ _ e));have rmd:RmD H6 d names Ev:=⟨kvs6,e6d,fun nm hnm=>by
   rw[<- e3] at hnm;ext dY x hx hnm;obtain⟨a1,a2,a3,a4,a5⟩:45:=e4 x hx;refine(bD,cy,(lB).2,v6 ?_ (Fk,cy) (Zg.mpr Sx),k36 _ _ a4,a5.keep (iI,k36 _ _ e));show(aQ,Z4,e3▸nnd)⟩
  refine bL p dx hp hdx ne;show(BY,p,dx,xk,fun H8 d1 d2 hd1 hd2 k8 sg8=>tS);have up:(gY,tY (qW H6 dx p) p (lG t.C_al []) b,H6 b=none):=fun b z=>by
   cases e:H6 b with
   | none=>rfl
   | some u=>ext zdO yK
  show(lI,s68,Same H6 H8,k8 b u (xi e hp) (pQ yK K2 e));show(ah,fd1,up _ hd1,fd2,up _ hd2);show(fT,gB leS0,lf,hlf);generalize eu:qi H8 lf=H9;ext uG; ext oW s9 hlf g9;show(ah,s69,s68.trans s9,s09,s06.trans s69);have nd1:d≠d1:=xi e6d fd1;have nd2:d≠d2:=xi e6d fd2;have sg9:=sg8.same s9;show(mZ,kz1,hkz1,sg8.so);show(mZ,kz2,hkz2,sg8.ho);obtain⟨dxz,hpz⟩:=id sg8.ins;have nf1:lf≠d1:=kC hkz1 hlf;have nf2:lf≠d2:=kC hkz2 hlf;have nfp:lf≠p:=kC hpz hlf;have flf:H6 lf=none:=s68.free hlf;show(dN,room32,xn0 (ps:=ps) s32,nK ln (s09 _ _ hln))
  let Pv (i:Nat) (Z:L2.St) (H10:Hp):Prop:=∃(v5 v6:b8) (qs:ax) (cs:dG) (so:bB) (ho:aI),(jc,Z,[dJ,nY,rq,aC p,aC lf,v5,v6],Same H6 H10,(ae,H10 lf,jS),(aq,CrL H10 cs qs,(∀ q∈qs,(aq,H6 q=none,q≠d1,q≠d2,q≠p,q≠lf)),cs.length<=i,Sg t H10 p d1 d2 (30*i) so ho,Ro AL))
  show(zR,names.map V.str,(dk _ _ [] [] ⟨86,_,_,rfl,s69,g9,.nil,nA,⟨bu,sg9,.nil⟩⟩),?_)
  .show(zir,H10,s10,s10 _ _ (s06 _ _ hln))
  .rintro i x Z H10 hx (⟨v5,v6,qs,cs,⟨so,ho,rfl,s10,e10,cr10,fq,ci,sg10,run⟩⟩:121);refine gn ?_; refine sq2 ?_; intros; ext EB nm hnm;have il:=h8 hnm;obtain⟨dx10,hp10⟩:=sg10.ins;have tk1:names.take aY=AL++[nm]:=by
    rw[ZR,hnm];rfl
   have tnd:(names.take aY).Nodup:=(Q3 _ _).nodup nnd;have dm:=run.dom ((Q3 _ _).nodup nnd);have nni:nm∉AL:=fun z=>by
    show(uB,tk1,ZP,tnd,tnd.2.2 nm z nm Si rfl)
   have sn:B3 nm:=by
    have z:=dm nm;rw[sJ nni,YV] at z;cases e:so nm with
    | none=>rfl
    | some s=>ext bV e z
   have rmd10:RmD H10 d names Ev:=by
    show(ag,kv,e,f,id rmd);show(aH,kv,s10 _ _ e,(tZ,let ⟨l,rs,b1,b2,b3⟩:=f z hz; (bD,l,rs,b1,s10 _ _ b2,b3.keep (Same.tups s10))))
   show(mZ,kw1,hkw1,sg10.so);show(mZ,kw2,hkw2,sg10.ho);refine⟨p,dx10,_,rfl,hp10,xk9 aG,p,d1,d2,d,30*i,Ev,so,ho,names,nm,rfl,sg10,aa,run.mt,sn,rmd10,nd1,ye,Zj hnm,n12,room32,?_,?_⟩
   .rw [dm z,ZE] at hz;exact Wa (of_decide_eq_true hz.1)
   .intro H11 l11 so' ho' kb fl11 e11 sg11 mt11 dm11 rc11
    ext Vz; refine(cD,.inl (dL,aW e11),ifN az ?_);show(aw,k11,rL (ae,H6 b,u) (ae,H11 b,u),(oA,kb _ _ (xi e fd1) (xi e fd2) (s10 _ _ e)),dk _ _ qs cs ⟨86,so',ho',rfl,k11,kb _ _ nf1 nf2 e10,cr10.keep (fM,z,hz,u,kb _ _ (bg (fq z hz)) (zx (fq z hz)) e),fq,(dM,aa,sg11.le aa)⟩);show(aQ,tk1,.inn run mt11 dm11 rc11)
   .intro H11 l11 hs s11 fl11 e11 cw rc11
    refine(cD,.inl (dL,aW e11),ifP jz ?_);show(dN,e11f,s11 _ _ e10,⟨vg e11f,lf,_,_,rfl,rfl,e11f,?_,?_⟩)
    .rw [Za,cr10.len];exact xb2 aa
    have nl:l11≠lf:=kC e10 fl11;have kl:fP lf (ae,H11 c,u) (p5 H11 lf (.lst (xO++[.ref l11]))):=Ao
    show(aw,tl,Tups H11 (fw H11 lf (xO++[.ref l11])),(yX,kl _ _ (ne_f e e11f) e),(dk,_,_,qs++[l11],cs++[(nm,hs)],⟨86,so,ho,rfl,(zu,kl _ _ (xi e flf) (s11 _ _ (s10 _ _ e))),d4 xk Zs,((cr10.keep (fM,z,hz,u,s11 _ _ e)).keep (fM,z,hz,u,kl _ _ (bX (bX (fq z hz))) e)).snoc (kl _ _ nl e11),ye,(dM,IC,((sg10.same s11).keep (d:=lf) (Z1 nfp) (Z1 nf1) (Z1 nf2) tl kl).le aa)⟩))
    .rcases KN with hz|hz
     .exact fq z hz
     .rw [Zp.mp hz];exact(cL,s10.free fl11,kC hkw1 fl11,kC hkw2 fl11,kC hp10 fl11,nl)
    .rw [tk1];exact .out run cw rc11
  .rintro Z H10 (⟨v5,v6,qs,cs,⟨so,ho,rfl,s10,e10,cr10,fq,ci,sg10,run⟩⟩:121);rw[Za,Kt] at run;exact (q H10 lf qs cs so ho (s06.trans s10) (s06.free flf) e10 cr10 (tZ,s06.free (fq z hz).1) run)
noncomputable def x9 (ps:am):ap:=ps.map (·.nm)
inductive OutL (H:Hp):bA dG ax
 | nil:OutL H [] []
 | cons {c:EF}{q l:Addr}{cs:dG}{qs:ax} (h:zmx) (hl:aR l (.lst (c.2.map V.str))) (r:zcD):OutL H (c::cs) rM
theorem OutL.len {H:Hp}{cs:dG}{qs:ax} (h:zcD):WU:=by
 induction h with
 | nil=>rfl
 | cons _ _ _ ih=>simp[ih]
theorem OutL.get {H:Hp}{cs:dG}{qs:ax} (h:zcD) {i:Nat}{q:Addr} (e:Bo):∃ c l,wK cs c zmx (aR l (.lst (c.2.map V.str))):=by
 induction h generalizing i with
 | nil=>ext rV
 | @cons c q' l cs qs h hl _ ih =>
  cases i with
  | zero =>
   ext A5;exact fG c l h hl
  | succ j=>ext wv
noncomputable def FOu (H0:Hp) (l2:Addr) (cs:dG) (i:Nat) (ys:af) (H:Hp):Prop:=∃ L:(yY,Addr × EF),(zhM,(xS lB)=cs.take i,∀ x∈L,(aq,cy≠l2,ba≠l2,Na,aR cy (.lst ((lB).2.map V.str)),H0 cy=none))
noncomputable def OutF (H0 H:Hp) (l:Addr) (cs:dG) (qs:ax):Prop:=∃ L:(yY,Addr × EF),qs=L.map (m5 ba)/\cs=L.map (m5 lB)/\∀ x∈L,(aP,H0 cy=none,cy≠l,Na,aR cy (.lst ((lB).2.map V.str)))
theorem xp6 {H:Hp}:∀(L:(yY,Addr × EF)),(∀ x∈L,Na/\(aR cy (.lst ((lB).2.map V.str))))->OutL H (xS lB) (L.map (m5 ba))
 | [],_=>.nil
 | x::L,h=>.cons (h x ig).1 (h x ig).2 (xp6 L (Bs y hy))
inductive xun (t:Adr) (vs:af) (H:Hp) (Q:VK) (_:XK):Prop
 | mk (a dp do_:Addr) (w h:Nat) (ps:am) (ss srt:ai) (e_:wG) (r_:Dr t H a dp do_ w h ps ss srt/\EQ/\(zkZ,OutL H' cs qs,BJ,OutF H H' l cs qs))
inductive xvm (t:Adr) (vs:af) (H:Hp) (Q:VK) (_:XK):Prop
 | mk (a dp do_:Addr) (w h:Nat) (ps:am) (ss srt:ai) (e_:wG) (r_:Dr t H a dp do_ w h ps ss srt/\EQ/\∀ H' l cs so ho,j3 bF ou (gR l (.lst ((ff).map V.str))) BJ l)
theorem xxp {α:V}{xs:af}:cutV (α::xs) (some 1) none=xs:=by
 unfold cutV;simp[HT.sIx]
theorem xp1 {a b:Str}:(zF,dEq (.str a) (.str b),a=b):=xg9 rfl rfl ⟨(gW,DV.str.inj h),(gW,eG h)⟩
theorem ok_bj (T:aF):FnOk true P w K mg base aD 8 t.f_bj t.d_bj nG (xun t):=by
 refine T.F_bj.okn (k:=7) sc_bj (aJ h) (fun cdv A outer s H vs Q E hr h=>?_)
 .obtain ⟨a,dp,do_,w',h',ps,ss,srt,rfl,_⟩:=h;rfl
 .obtain ⟨a,dp,do_,w',h',ps,ss,srt,rfl,h⟩:=h;refine⟨_,xh (xcp rfl (xaw (zs:=["point"]) (ys:=[]) (fr:=[]) (N0:=pj) (sc0:=xm s_bj) aG rfl rfl rfl) (xaj (xah aM T.c_a T.m_h Cd aA T.b_h .nil xq)) jK jx dR N6 (j:=1) rfl ro)
   (cC (xa4 rfl (xaw (zs:=["crowd"]) (ys:=[]) (fr:=[]) (N0:=pj) (sc0:=xm s_bj) aG rfl rfl rfl) (xaj (pC (xjy T) hr T.g_crowds T.F_crowds.kp T.b_crowds pH)) jK jx dR (o4 (gP (xac (r:=rIxL K) xay aM (xo) hV) (xea (r:=rSlL K) xg7 aM (xd9 (xo)) xfp))))),?_⟩
  refine sq2 ?_; intros; ext oE dr nnd;have p12:=dr.pic.len;show(uY,dx,hpi,dr.pic);refine⟨a,dx,_,rfl,hpi,bn,a,dp,do_,w',h',ps,rfl,dr.pic,fun H1 l1 ds s1 e1 pt1=>?_⟩;show(dN,dll,pt1.len,N2);refine xba Ly np hl2 Vq lL (fun i x H2 hx s2 N hN=>?_) (fun ys H2 s2 e2 ly fy=>?_)
  .ext zgc
  have ey:ys=(eC).map V.str:=by
   show(G9,(by rw[ly,Za,dll]; unfold x9; rw[Za]),p,hp);unfold x9 at hb;ext Ab hp
  rw[ey] at e2;show(NK,⟨a,l2,dp,do_,w',h',ps,ss,srt,eC,rfl,⟨46,rT s02,e2,au nm hnm,nnd,by unfold x9; ext aQ Za p12,fun H3 l3 qs cs so ho s3 fl3 e3 cr3 fq3 run=>?_⟩⟩)
  .show(hX,p,hp,e,Zg.mp hnm);ext aH p hp e
  have ol:=IQ;ext Nx
  show(ah,qcl,cr3.len,s03,s02.trans s3);show(lz,gH l3 e3 l4 hl4,xh4 (aW e3) np hl4 (FOu H l4 cs) zjC ?_ (fun i x ys H5 hx s5 el5 f5 N hN=>?_) (fun ys H5 s5 el5 ly5 f5=>?_))
  .rintro i ys zs H5 H6 hz k6 (⟨L,b1,b2,b3,b4⟩:64);refine ib L b1 b2 b3 yg;obtain⟨a1,a2,a3,a4,a5⟩:45:=yJ;exact(cL,a1,a2,k6 _ _ a2 a3,k6 _ _ a1 a4,a5)
  .ext zO;show(ag,c,hc,hcq,cr3.get hqa);show(dN,hcq5,cG hcq,(cV,qa,_,0,.str c.1,(rP,aW hcq5,xcc (j:=0) rfl,eX 1 (fG,qa,_,aW hcq5,au lh hlh))));rw[Zo,xxp];show(zS,upd H5 lh (.lst (c.2.map V.str)),hlh);ext fT cS u hu;show(Xb,fA H6 u (ip,.str c.1,lh),hu);refine lJ Rw ?_;obtain⟨L,b1,b2,b3,b4⟩:64:=f5;refine(ib,L++[(u,lh,c)],d4 b1 Zs,d4 Zr b2,?_,yg)
   .rw [Zs,b3,ZR,hc];rfl
   .rcases Tu with hx|hx
    .obtain ⟨a1,a2,a3,a4,a5⟩:45:=yJ;exact(cL,a1,a2,oO (dP a3),oO (dP a4),a5)
    .rw [Zp.mp hx];exact(cL,kC el5 hlh,kC (dP el5) hu,g7,oO g6,(P8).free hlh)
  rw[Za] at f5;obtain⟨L,rfl,b2,b3,b4⟩:64:=f5;rw[qcl,Kt] at b3;have ol5:=xp6 L (BZ ⟨zx yJ,bg (bX yJ)⟩)
  show(b6,b3,ol5,q H5 l4 (xS ba) cs so ho P8 (s03.free hl4) (d4 el5 Z4) ol5 run (gT,L,b3.symm,BZ (bR,bX (bX yJ),(yJ).1,zx yJ,bg (bX yJ))))
theorem xg3 (T:aF):FnOk true P w K mg base aD 9 t.f_kept t.d_kept nG (xvm t):=by
 refine T.F_kept.okn (k:=8) xmd (aJ h) (fun cdv A outer s H vs Q E hr h=>?_)
 .obtain ⟨a,dp,do_,w',h',ps,ss,srt,rfl,_⟩:=h;rfl
 .obtain ⟨a,dp,do_,w',h',ps,ss,srt,rfl,h⟩:=h;refine⟨_,xh (zX 1 xmd.nd (xa4 rfl (xaw (zs:=zqq) (ys:=[]) (fr:=[]) (N0:=Bg "out") (sc0:=xm xgj) aG rfl rfl rfl) (xaj (pC (ok_bj T) hr T.g_bj T.F_bj.kp T.b_bj zj)) zK B4 dR uU))
   (cC (xa4 rfl (xaw (zs:=["point"]) (ys:=["out"]) (fr:=[1]) (N0:=Bg "out") (sc0:=xm xgj) aG rfl rfl rfl) (xaj (xah aM T.c_a T.m_h Cd aA T.b_h .nil xq)) jK jx (zif Va cF) N6)),?_⟩
  refine sq2 ?_; intros; ext oE dr nnd;show(dN,p12,dr.pic.len,⟨a,dp,do_,w',h',ps,ss,srt,rfl,dr,nnd,fun H1 l1 qs cs so ho s1 fl1 e1 ol1 run _=>?_⟩);have ol:=IQ;ext Nx
  show(dN,qcl,ol1.len,N2);refine xba Ly np hl2 (BF ziT) lL (fun i x H2 hx s2 N hN=>?_) (fun ys H2 s2 e2 ly fy=>?_)
  .show(NN,lh,hcq,ol1.get hqa);show(Gq,dy hcq,SO)
  have ey:ys=(cs.map (·.1)).map V.str:=by
   ext zlN qcl
  rw[ey] at e2;show(ah,s02,iz,dr2,dr.same s02);show(uY,dx,hpi,dr2.pic);refine⟨a,dx,_,rfl,hpi,bn,a,dp,do_,w',h',ps,rfl,dr2.pic,fun H3 l3 ds s3 e3 pt3=>?_⟩;have dll:=pt3.len;show(ah,e23,fK e2,s03,s02.trans s3);refine gH l3 e3 l4 hl4;have odv:∀{H5:Hp},Same H3 H5->Dv K H5 1 (.ref l2) (.lst ((cs.map (·.1)).map DV.str)):=fun {H5} s5=>.lst (SqL.of (cG e23)) aj fun j x d h1 h2=>by
   show(TX,.str)
  have oin:∀ nm:Str,(((cs.map (·.1)).map DV.str).any (ao,dEq z (.str nm)))=decide (nm∈cs.map (·.1)):=fun nm=>by
   ext Xj
   .ext zgz
   .ext zkC
  refine xdw (aW e3) np hl4 (fun i=>((ps[i]?).map fun p=>! decide (p.nm∈cs.map (·.1))).getD false) Vq lL (fun i x H5 hx s5 N M hN hM=>?_) (fun ys H5 s5 e5 ly fy=>?_)
  .ext zO;show(ag,p,hp,hpq,pt3.get hqa);show(dN,hpq5,cG hpq,RR EJ hpq5 ⟨0,1,EJ,_,.str,odv s5,az,az,_,rfl,Te⟩)
   .rw [bY,oin] at y;exact(RR,EJ,hpq5,hN _ _ kN (aB hp y) vK)
   .rw [bY,oin] at y;exact hM _ kN (OG hp y)
  have fi:=xgt (fun p:Pt=>! decide (p.nm∈cs.map (·.1))) (as:=ps) (p:=fun i=>((ps[i]?).map fun p=>! decide (p.nm∈cs.map (·.1))).getD false) Xq;rw[Za,dll] at ly fy;have ek:ff=(ps.filter fun p=>! decide (p.nm∈cs.map (·.1))).map (·.nm):=by
   unfold xbb x9;rw[QQ];rfl
  have ey2:ys=(ff).map V.str:=by
   rw[ek];show(XU,(by rw[ly,Za,fi.1]));have hj:i<((Zu ps.length).filter fun i=>((ps[i]?).map fun p=>! decide (p.nm∈cs.map (·.1))).getD false).length:=by
    ext kh ly Ln
   show(ku,p,hp,fy i y _ hy Ct);rw[fi.2 i _ Ct] at hp;ext Ab hp
  show(b6,ey2,e5,q H5 l4 cs so ho P8 (s03.free hl4) e5 run)
theorem Run.crowd {room:j9}{ns:ap}{so:bB}{ho:aI}{cs:dG} (r:yG) (nd:ns.Nodup):∀ c∈cs,∃ so0 ho0,Kp.Mt room so0 ho0/\Kp.Crowd room so0 c.1 c.2/\∀ z∈HL,z∈ns:=by
 induction r with
 | nil=>exact nA
 | inn _ _ _ _ ih =>
  intro c hc;rw[ZP] at nd;obtain⟨so0,ho0,a1,a2,a3⟩:83:=ih nd.1 c hc;ext ziW
 | @out ns so ho cs nm hs r cw rc ih =>
  intro c hc;rw[ZP] at nd;rcases Zy.mp hc with hc|hc
  .obtain ⟨so0,ho0,a1,a2,a3⟩:83:=ih nd.1 c hc;ext ziW
  .rw [Zp.mp hc];refine bD so ho r.mt cw ye;rcases dC hz with rfl|hz
   .exact Fe
   .have k:=cw.has z hz;show(uB,r.dom nd.1 z,ZE,k,ZO _ (of_decide_eq_true k.1))
inductive xu7 (t:Adr) (vs:af) (H:Hp) (Q:VK) (_:XK):Prop
 | mk (a ln dp do_:Addr) (w h:Nat) (ps:am) (ss srt:ai) (names:ap) (e_:vU ln) (r_:Dr t H a dp do_ w h ps ss srt/\(aq,F7,XF,names.Nodup,xC,∀ H' v cs so ho,bv bF (Ro names) ((cs=[]/\v=.non)\/∃ l c r,(jc,cs,c::r,oN l,ou,gR l (.lst ((HL).map V.str)))) Ce))
theorem xsi (T:aF):FnOk true P w K mg base aD 8 t.f_fits t.d_fits pj (xu7 t):=by
 refine T.F_fits.okn (k:=7) xmm (aJ h) (fun cdv A outer s H vs Q E hr h=>?_)
 .obtain ⟨a,ln,dp,do_,w',h',ps,ss,srt,names,rfl,_⟩:=h;rfl
 .obtain ⟨a,ln,dp,do_,w',h',ps,ss,srt,names,rfl,h⟩:=h;refine⟨_,xh (pS 2 xmm.nd (pC (xjy T) hr T.g_crowds T.F_crowds.kp T.b_crowds pH))
   (cC (xh1 (xlr (pv 2) pB) (xac xay (pv 2) (xo) hV) (xc3))),?_⟩
  refine sq2 ?_; intros; obtain⟨dr,hln,nps,nnd,n12,q⟩:46:=h;show(br,⟨a,ln,dp,do_,w',h',ps,ss,srt,names,rfl,⟨46,dr,hln,nps,nnd,n12,fun H1 l1 qs cs so ho s1 fl1 e1 cr1 fq1 run=>?_⟩⟩,(cD,.inl (dL Ly),?_));cases cr1 with
  | nil=>exact ifN az (q H1 .non [] so ho s1 run (.inl nS))
  | @cons c q0 cs qs h r =>
   refine ifP jz (cV l1 _ 0 Fd (rP,aW e1,xcc (j:=0) rfl,q H1 Fd (c::cs) so ho s1 run (.inr ⟨104,q0,c,cs,rfl,rfl,fq1 q0 ig,h⟩)))
noncomputable def xe3 (f:m9) (g:Int):Bool:=match f with
 | none=>true
 | some y=>dA (g<y.1)
noncomputable def look (own:bQ) (rent:bN) (asked:aI) (a:Str) (f:m9) (x:Iw):m9 :=
 (cK,(Tq).isNone&&xe3 f C4,some (C4,a,ba),f)
noncomputable def xf2 (lens:bU) (own:bQ) (rent:bN) (asked:aI) (f:m9) (askers:ap):m9:=askers.foldl (fun f a=>(lens a).foldl (Dn a) f) f
noncomputable def near (lens:bU) (own:bQ) (rent:bN) (asked:aI) (askers:ap):m9:=xf2 lens own rent asked none askers
structure Best (own:bQ) (rent:bN) (asked:aI) (P:Id) (f:m9):Prop where
 is_:∀ g a s,(Fq f a)->∃ l,P a CC/\g=l-own a-rent s/\Hm
 le:∀ a x,P a x->asked ba=none->∃ y,(ae f y)/\y.1<=C4
theorem Best.congr {own:bQ}{rent:bN}{asked:aI}{P P':Id}{f:m9} (b:Tg) (h:∀ a x,P a x↔P' a x):Ds P' f :=
 ⟨fM g a s (zoK,b.is_ g a s e,(h _ _).mp h1),fun a x p=>b.le a x ((h _ _).mpr p)⟩
theorem Best.look1 {own:bQ}{rent:bN}{asked:aI}{P:Id}{f:m9} (b:Tg) (a:Str) (x:Iw):Ds (fun a' x'=>P a' x'\/(a'=a/\x'=x)) (look own rent asked a f x):=by
 unfold look;by_cases c:((Tq).isNone&&xe3 f C4)=true
 .ext kI c;rw[ZE] at c;obtain⟨c1,c2⟩:=c;show(dX,fM g a' s ?_,fun a' x' p z=>yM)
  .cases e;show(gF,cX,.inr nS,rfl,by simpa using c1)
  .rcases p with p|⟨rfl,rfl⟩
   .show(hX,y,e,h,b.le a' x' p z);rw[e] at c2;have c2:C4<y.1:=by simpa [xe3] using c2
    show C4<=_;omega
   .exact YS _
 .ext d8 c;show(dX,fM g a' s (zoK,b.is_ g a' s e,.inl h1),b9 a' x' p z);rcases p with p|⟨rfl,rfl⟩
  .exact b.le a' x' p z
  .rw [z] at c;have c:¬ xe3 f zjv=true:=jU
   cases f with
   | none=>ext jb c
   | some y =>
    have c:¬ zjv<y.1:=by simpa [xe3] using c
    ext rR y aa
theorem Best.row {own:bQ}{rent:bN}{asked:aI} (a:Str):∀(xs:sI) {P:Id}{f:m9},Tg->(Ds (fun a' x'=>P a' x'\/(a'=a/\x'∈xs)) (xs.foldl (Dn a) f))
 | [],P,f,b=>zfU z.2
 | p8,P,f,b=>by
  refine (Best.row a xs (b.look1 a x)).congr (au a' x');constructor
  .rintro ((h|⟨h1,h2⟩)|⟨h1,h2⟩)
   .ext eD h
   .show(qY,h1,aB h2 ig)
   .show(qY,h1,Zl _ h2)
  .rintro (h|⟨h1,h2⟩)
   .ext I0 h
   .rcases dC h2 with h2|h2
    .show(Ew,⟨h1,h2⟩)
    .ext qY h1 h2
theorem Best.allF {lens:bU}{own:bQ}{rent:bN}{asked:aI}:∀(as:ap) {P:Id}{f:m9},Tg->(Ds (fun a' x'=>P a' x'\/(a'∈as/\x'∈lens a')) (xf2 lens own rent asked f as))
 | [],P,f,b=>zfU z.1
 | a::as,P,f,b=>by
  refine (Best.allF as (b.row a (lens a))).congr (au a' x');constructor
  .rintro ((h|⟨h1,h2⟩)|⟨h1,h2⟩)
   .ext eD h
   .show(qY,aB h1 ig,aB h1 h2)
   .show(qY,Zl _ h1,h2)
  .rintro (h|⟨h1,h2⟩)
   .ext I0 h
   .rcases dC h1 with h1|h1
    .show(Ew,⟨h1,cT h1 h2⟩)
    .ext qY h1 h2
theorem xje (lens:bU) (own:bQ) (rent:bN) (asked:aI) (as:ap):Ds (fun a x=>a∈as/\x∈lens a) (near lens own rent asked as) :=
 (Best.allF as (P:=vb) (f:=none) ⟨fM g a s (nomatch e),fun a x p=>p.elim⟩).congr fun a x=>⟨(gW,h.elim JR id),.inr⟩
noncomputable def shO (own:bQ) (askers:ap) (g:Int):bQ:=(ao,if z∈askers then own z+g else own z)
noncomputable def shR (rent:bN) (asked:aI) (g:Int):bN:=ao (cK,(asked z).isSome,rent z-g,rent z)
noncomputable def setI (own:bQ) (nm:Str) (v:Int):bQ:=ao (jq,z,nm,v,own z)
noncomputable def xax (lens:bU):j9:=fun n=>(zl).map (·.1)
structure xdh (lens:bU) (ss:ai):Prop where
 nd:∀ n,(uq n).Nodup
 b:zjw
 ins:GC
 snd:ss.Nodup
theorem xdh.one {lens:bU}{ss:ai} (h:xV) {n:Str}{s:Seat}{l l':Int} (h1:CC∈zl) (h2:(s,l')∈zl):l=l':=by
 have nd:=h.nd n;unfold xax at nd;ext OF h1;ext zcc h2;have:i=j:=xr3 nd (i:=i) (j:=j) (gC hi) (gC hj) (by rw[JZ,JZ,ei,ej]);ext wF;show(b6,ei,ej,(Prod.mk.inj ej).2)
structure Fit (lens:bU) (names:ap) (so:bB) (ho:aI) (own:bQ) (rent:bN):Prop where
 mt:wQ
 dm:Gk
 le:∀ n∈names,UX
 eq:W8
 rl:Xv
 r0:VW
 o0:∀ n∈names,0<=CB
 ob:∀ n∈names,CB<=1200
structure Grow (lens:bU) (names:ap) (name:Str) (so:bB) (ho:aI) (crowd:ap) (al:ai) (asked:aI) (own:bQ) (rent:bN):Prop where
 bf:Bf KF ho name crowd al asked
 le:LU UX
 eq:W8
 rl:Xv
 r0:VW
 tr:ziQ
 o0:(LU,0<=CB)
 ob:zhB
section
variable {lens:Str->List (Seat × Int)}{names:List Str}{name:Str}{so:Str->Option Seat}{ho:Seat->Option Str}{crowd:List Str}{al:List Seat}{asked:Seat->Option Str}{own:Str->Int}{rent:Seat->Int}{ss:List Seat}
theorem Fit.grow (f:Fit lens names so ho own rent) (lo:xV) (nn:name∉names):Grow lens names name so ho [name] [] fh (setI own name 0) rent:=by
 have ne:∀ n∈names,n≠name:=(eP,n,hn,nn (e▸hn));have so_in:(zG,DS,n∈names):=fun n s e=>by
  show(pq,f.dm n,e);ext zbw
 refine⟨Bf.start,b9 n hn x hx,bL n s e l hl,f.rl,f.r0,eP s a (nomatch e),Kh,fun n hn _=>?_⟩
 .unfold setI;rcases Tv with hn|hn
  .show(eE,ay (ne n hn),f.le n hn x hx)
  .rw [if_pos (Zp.mp hn)];show(wp,f.rl ba,(lo.b n x hx).1)
 .unfold setI;show(lC,ne n (so_in n s e),f.eq n s e l hl)
 .unfold setI;split
  .exact YS _
  .rename_i h
   rcases Tv with hn|hn
   .exact f.o0 n hn
   .exact absurd (Zp.mp hn) h
 .unfold setI;show(lC,ne n hn,f.ob n hn)
theorem Bf.in_ (b:Bf KF ho name crowd al asked) (mt:wQ) (dm:Gk) {a:Str} (h:a∈crowd):a∈zbV:=by
 obtain⟨k,hk,e⟩:=ZJ h;rcases b.at_ mt (k:=k) (a:=a) (oH hk e) with⟨_,z⟩|⟨j,s,_,_,z⟩
 .exact Z6 _ (Zp.mpr z)
 .have:=dm a;show(b6,z,this,ZO _ (by ext zbw))
theorem Bf.ask (b:Bf KF ho name crowd al asked) (s:Seat):(fR iG)↔wA:=by
 constructor
 .intro h
  by_cases c:wA
  .exact c
  .show(gZ,b.no s c);cases h
 .intro h
  obtain⟨j,hj,e⟩:=ZJ h;obtain⟨k,a,_,_,e3,_⟩:84:=b.ak j s (oH hj e);rw[e3];rfl
theorem Bf.asker (b:Bf KF ho name crowd al asked) {s:Seat}{a:Str} (e:oZ):a∈crowd:=by
 have h:=(b.ask s).mp uc;ext Xk;obtain⟨k,a',_,e2,e3,_⟩:84:=b.ak j s (oH hj ej);ext bI e e3 e3;exact Zj e2
theorem Bf.both (b:Bf KF ho name crowd al asked) (mt:wQ) (sn:tw) {n:Str}{s:Seat} (e:DS):SH↔(fR iG):=by
 show(ET,b.ask s)
 .intro h
  obtain⟨k,hk,ek⟩:=ZJ h;rcases b.at_ mt (k:=k) (a:=n) (oH hk ek) with⟨_,z⟩|⟨j,t,_,hj,z⟩
  .ext vy z sn
  .rw [e] at z;cases z;exact Zj hj
 .intro h
  ext Xk;ext yZ x zqm;have:=(mt.iff x s).mpr e2;rw[mt.inj e this];exact Zj e1
structure Gap (lens:bU) (crowd:ap) (asked:aI) (own:bQ) (rent:bN) (g:Int) (a:Str) (s:Seat):Prop where
 g0:0<=g
 ac:a∈crowd
 rm:s∈(uq a)
 na:Hm
 eq:(V5,lens a,own a+g)
 mn:∀ b∈crowd,∀ x∈B8,asked ba=none->own b+g+rent ba<=cX
theorem Grow.gap (w:Grow lens names name so ho crowd al asked own rent) (lo:xV) (mt:wQ) (dm:Gk) {g:Int}{a:Str}{s:Seat} (e:SA):Gap lens crowd asked own rent g a s:=by
 ext zli;obtain⟨l,⟨h1,h2⟩,h3,h4⟩:63:=B.is_ g a s e;refine⟨?_,h1,Zg.mpr (dL h2),h4,au l' hl',bL b hb x hx z⟩
 .have:=w.le a (w.bf.in_ mt dm h1) CC h2;have:own a+rent s<=l:=this;omega
 .show(cW,lo.one h2 hl')
 .show(hX,y,ey,hy,B.le b x ⟨hb,hx⟩ z);ext bI e ey ey;have hy:g<=cX-own b-rent ba:=hy;omega
structure Mid (lens:bU) (names:ap) (name:Str) (so:bB) (ho:aI) (crowd:ap) (asked:aI) (own:bQ) (rent:bN):Prop where
 le:LU UX
 eq:W8
 rl:Xv
 r0:VW
 tr:ziQ
 o0:(LU,0<=CB)
 ob:zhB
theorem Grow.shift (w:Grow lens names name so ho crowd al asked own rent) (mt:wQ) (sn:tw) {g:Int}{a:Str}{s:Seat} (p:Gap lens crowd asked own rent g a s):Mid lens names name so ho crowd uT o5 oX:=by
 show(dN,g0,p.g0,⟨b9 n hn x hx,bL n t e l hl,du t,au t ht,bL t b e l hl,Kh,aK n hn hc⟩)
 .have base:=w.le n hn x hx;unfold shO shR;by_cases c1:SH<;>by_cases c2:fR Tq
  .rw [aT c1,LA]; omega
  .rw [aT c1,LC];show(cW,p.mn n c1 x hx (by simpa using c2))
  .rw [LD,LA]; omega
  .rw [LD,LC]; omega
 .show(ah,base,w.eq n t e l hl,iff,w.bf.both mt sn e);unfold shO shR;by_cases c1:SH
  .rw [aT c1,if_pos (iff.mp c1)]; omega
  .rw [LD,ay (ao,c1 (iff.mpr z))]; exact base
 .have:=w.rl t;unfold shR;ext me
 .have z:¬ (fR (asked t)):=fun z=>by
   have h:=(w.bf.ask t).mp z;ext Xk;show(Bc,x,e2,w.bf.hd j t (oH hj ej));ext bV ht e2
  unfold shR;show(lC,z,w.r0 t ht)
 .ext zqf
  .rename_i h
   cases e;subst h;have:=p.eq l hl;unfold shO shR;rw[aT p.ac,ay (aB p.na Z9)];omega
  .have:=w.tr t b e l hl;unfold shO shR;rw[if_pos (w.bf.asker e),aT uc];omega
 .have:=w.o0 n hn;unfold shO;ext me
 .unfold shO;show(lC,hc,w.ob n hn hc)
theorem Grow.more (w:Grow lens names name so ho crowd al asked own rent) (mt:wQ) (sn:tw) {g:Int}{a h:Str}{s:Seat} (p:Gap lens crowd asked own rent g a s) (hh:DL):Grow lens names name so ho A9 n6 uT o5 oX:=by
 have m:=w.shift mt sn p;show(OF,p.ac);have ns:s∉al:=fun z=>by
  show(Af,(w.bf.ask s).mpr z,p.na)
 exact⟨w.bf.add (i:=i) ID p.rm ns hh,m.le,m.eq,m.rl,m.r0,m.tr,m.o0,fun n hn hc=>m.ob n hn (ao,hc (ZO _ z))⟩
theorem Grow.nearest (w:Grow lens names name so ho crowd al asked own rent) (lo:xV) (mt:wQ) (dm:Gk) (sn:tw) {so2:bB}{ho2:aI} (mt2:Kp.Mt (xax lens) so2 ho2) (all:LU (fR (so2 n))):∃ g a s,SA:=by
 cases e:CQ with
 | some y=>exact⟨101,y.1,bg y,bX y,rfl⟩
 | none =>
  ext zli;have allin:∀(k:Nat) (a:Str),Fz->∀ s∈uq a,wA:=fun k a ha s hs=>by
   ext dY x hx hs;rw[<- w.bf.ask];cases z:Tq with
   | some _=>rfl
   | none =>
    show(iy,y,ey,B.le a x ⟨Zj ha,hx⟩ z);ext bV e ey
  show(ag,hs,ec,cr,w.bf.done mt sn allin);show(zgT,cr.count mt lo.snd lo.ins,lo.ins,all a (w.bf.in_ mt dm (aB ec ha)))
theorem xqi {room:j9}{s0:Seat}{so':bB}{ho':aI} (h:wZ si Nw):(∀ n t,(ae,so' n,t)->(ae,so n,t)\/XX)/\(zbt (fR (ho' t))):=by
 have key:∀(x y:Kp.KS Str Seat),Kp.Rch si x y->x=Nw->(∃ so1 ho1 s1,(y=.hand so1 ho1 asked s1\/y=.fin so1 ho1)/\(∀ n t,(ae,so1 n,t)->(ae,so n,t)\/XX)/\(zbt (fR (ho1 t)))):=by
  intro x y h
  induction h with
  | refl =>
   intro e;exact⟨103,so,ho,s0,.inl e,fun n t z=>.inl z,fun t z=>z⟩
  | step _ e ih =>
   intro ex;obtain⟨so1,ho1,s1,hy,p1,p2⟩:103:=ih ex;rcases hy with rfl|rfl
   .have put:∀ a,(ae,asked s1,a)->(∀ n t,(ae,Kp.upd1 so1 a s1 n,t)->(ae,so n,t)\/XX)/\(zbt (fR (Kp.upd1 ho1 s1 a t))):=fun a ha=>by
     show(fT,aK n t z,t,z)
     .unfold Kp.upd1 at z;split at z
      .rename_i hn
       cases z;subst hn;ext fU ha
      .exact p1 n t z
     .unfold Kp.upd1;split
      .rfl
      .exact p2 t z
    cases ha:asked s1 with
    | none=>simp[Kp.kstep,ha] at e
    | some a =>
     cases hl:so1 a with
     | none =>
      show(bI,Kp.k_fin ha hl,e,e);exact⟨103,_,_,s1,BA,(Ti).1,(Ti).2⟩
     | some l =>
      show(bI,Kp.k_hand ha hl,e,e);exact⟨103,_,_,l,gg,(Ti).1,(Ti).2⟩
   .simp [Kp.kstep] at e
 obtain⟨so1,ho1,s1,hy,p1,p2⟩:103:=key _ _ h rfl;rcases hy with e|e
 .cases e
 .cases e;ext aS p1 p2
theorem Grow.last (w:Grow lens names name so ho crowd al asked own rent) (lo:xV) (mt:wQ) (sn:tw) (dm:Gk) (c12:zac) {g:Int}{a:Str}{s:Seat} (p:Gap lens crowd asked own rent g a s) (hs:AZ) {so':bB}{ho':aI} (mt':Kp.Mt (xax lens) so' ho') (dm':GH (Ig||sH)) (rc:wZ zlQ (.hand so ho uT s)):Fit lens zbV so' ho' o5 oX:=by
 have m:=w.shift mt sn p;obtain⟨h1,h2⟩:=xqi rc
 -- how far the prices of the crowd lie apart
 have dist:∀(k:Nat) (b:Str),(EI b)->(Rk b)<=(Rk name)+46*i7/\(Rk name)<=(Rk b)+46*i7:=by
  intro k
  induction k using Nat.strongRecOn with
  | ind k ih =>
   intro b hb;rcases w.bf.at_ mt hb with⟨rfl,rfl⟩|⟨j,t,rfl,hj,hso⟩
   .exact zy aa
   .obtain ⟨k0,a0,kj,e1,e2,e3⟩:84:=w.bf.ak j t hj;obtain⟨i1,i2⟩:=ih k0 aa a0 e1;show(rp,x1,hx1,ex1,mt.rm b t hso);ext rp x2 hx2 ex2 e3;have z1:=m.eq b t hso x1.2 (cT ex1 hx1);have nt:¬ t=s:=fun z=>by
     have:=(w.bf.ask t).mpr (Zj hj);rw[z,p.na] at this;cases this
    have z2:=m.tr t a0 (by ext Hv nt e2) x2.2 (cT ex2 hx2);show(ah,y1,lo.b b x1 hx1,y2,lo.b a0 x2 hx2);ext aS aa aa
 refine⟨mt',nX,m.le,bL n t e l hl,m.rl,au t ht,m.o0,Kh⟩
 .rw [dm' z,dm z,Js];simp only[Bool.or_eq_true,decide_eq_true_iff,Zy,Zp];exact or_comm
 .rcases h1 n t e with z|z
  .exact m.eq n t z l hl
  .exact m.tr t n z l hl
 .refine m.r0 t ?_;cases z:ho t with
  | none=>rfl
  | some _ =>
   show(Af,h2 t (eB z),ht)
 .by_cases c:SH
  .obtain ⟨k,hk,ek⟩:=ZJ c;show(OF,p.ac);show(ah,d1,dist k n (oH hk ek),d2,dist i a ID);show(rp,x,hx,ex,p.rm);show(ah,z1,m.tr s a VJ cX (cT ex hx),z2,m.r0 s hs);show(cW,lo.b a x hx)
  .rcases Tv with hn|hn
   .exact m.ob n hn c
   .show(eY,(by rw[Zp.mp hn]; exact Zj w.bf.c0),c)
#check _
inductive LS where
 | go (own:bQ) (rent:bN) (asked:aI) (crowd:ap)
 | hand (own:bQ) (rent:bN) (asked:aI) (s:Seat)
noncomputable def xep (lens:bU) (ho:aI):LS->(dB LS)
 | VF=>match CQ with
  | none=>none
  | some (g,a,s)=>match ho s with
   | some h=>some (.go o5 oX uT A9)
   | none=>some (.hand o5 oX uT s)
 | .hand _ _ _ _=>none
theorem a_go {lens:bU}{ho:aI}{own:bQ}{rent:bN}{asked:aI}{crowd:ap}{g:Int}{a h:Str}{s:Seat} (e:SA) (e2:DL):(ae,xep lens ho VF,.go o5 oX uT A9):=by
 simp only[xep,e,e2]
theorem xxn {lens:bU}{ho:aI}{own:bQ}{rent:bN}{asked:aI}{crowd:ap}{g:Int}{a:Str}{s:Seat} (e:SA) (e2:AZ):(ae,xep lens ho VF,.hand o5 oX uT s):=by
 simp only[xep,e,e2]
inductive LRun (lens:bU):bv ap bQ bN (bA bB aI)
 | nil:LRun lens [] Tz Tz fh fh
 | snoc {ns:ap}{own own':bQ}{rent rent':bN}{so so':bB}{ho ho' asked:aI}{nm:Str}{s:Seat} (r:LRun lens ns own rent so ho) (ra:zgh (xep lens ho)) (rk:wZ zlQ (EA so ho)) (f:Fit lens pJ so' ho' own' rent'):LRun lens pJ own' rent' so' ho'
theorem LRun.fit {lens:bU}{ns:ap}{own:bQ}{rent:bN}{so:bB}{ho:aI} (r:LRun lens ns own rent so ho):Fit lens ns so ho own rent:=by
 cases r with
 | nil=>exact⟨⟨zpc,zoW⟩,ao rfl,Xe,eP n s (nomatch e),fun s=>YS _,fun s _=>rfl,Xe,Xe⟩
 | snoc r ra rk f=>exact f
theorem xf5 {Z:L2.St}{H:Hp}{K:yL} (h:K [] H):tNil Z H K:=h
theorem xid {k m:Str}{v:V}{r:iS} (e:(m == k)=true):(ae,Je m (uz::r),v):=by
 rw[Zx,e]
theorem xcz {k m:Str}{v:V}{r:iS}{o:b8} (e:FX m k) (h:Je m r=o):Je m (uz::r)=o:=by
 ext cq Zx e h
noncomputable abbrev pzF (a dl d_o d_r p:Addr):iS:=[xI,Dl,OT,iP "rent" d_r,iP "seating" p]
theorem lkZp {a dl d_o d_r p:Addr}:(zW).lookup (dD "picture")=(aC a):=xid aG
theorem lkZl {a dl d_o d_r p:Addr}:(zW).lookup (dD "lengths")=(aC dl):=xcz aG (xid aG)
theorem lkZo {a dl d_o d_r p:Addr}:(zW).lookup (dD "own")=(aC d_o):=VH
theorem lkZr {a dl d_o d_r p:Addr}:(zW).lookup (dD "rent")=(aC d_r):=xcz aG VH
theorem lkZs {a dl d_o d_r p:Addr}:(zW).lookup (dD "seating")=(aC p):=xcz aG (xcz aG VH)
theorem xgi {a dl d_o d_r p:Addr}{m:Str} (e:((["picture", "lengths", "own", "rent", "seating"]:ap).all fun k=>Sv)=true):(zW).lookup m=none:=by
 ext Mw;obtain⟨e1,e2,e3,e4,e5,_⟩:46:=e;exact xcz e1 (xcz e2 (xcz e3 (xcz e4 (xcz e5 rfl))))
theorem valM {α κ:Type} [Hl] {k:α->κ} (inj:ME) {f:α->V}{a:α}:∀{l:bZ},a∈l->ziP=some (f a)
 | x::l,h=>by
  by_cases c:k x=k a
  .rw [Zo,xbq c,inj _ _ c]
  .rw [Zo,xbh c];rcases Zt.mp h with rfl|h
   .ext jb c
   .exact valM inj h
theorem xfr {α κ:Type} [Hl] {k:α->κ} (inj:ME) {f:α->V}{a:α}:∀{l:bZ},a∉l->ziP=none
 | [],_=>rfl
 | x::l,h=>by
  rw[Zt,not_or] at h;rw[Zo,xbh (fun c=>h.1 (inj _ _ c).symm)];exact xfr inj h.2
theorem putM {α κ:Type} [Hl] [Ap] {k:α->κ} (inj:ME) {f:α->V}{a:α}{l:bZ} (h:a∈l) (v:V):putK zmm (k a) v=l.map (jQ,n,k n,(jq,n,a,v,f n)):=by
 unfold putK;have e:((zmm).any fun kv=>dA (iN=k a))=true:=Ya.mpr ⟨(k a,f a),Lm a h,decide_eq_true rfl⟩;rw[FK,Z4];refine JI fun n _=>?_;show (if k n=k a then (k n,v) else (k n,f n))=_;ext ij n a
 .rw [B1 c,rB]
 .rw [ay (ao,c (inj _ _ z)),ue]
theorem inrI (a b:Str) (h:Xy):a=b:=Ja.inj h
theorem xdu (a b:Seat) (h:x0 a=x0 b):a=b:=xee h
noncomputable def OwD (H:Hp) (d:Addr) (names:ap) (own:bQ):Prop:=aR d (.dK (names.map (jQ,n,(.inr n:Key),V.int (own n))))
noncomputable def RnD (H:Hp) (d:Addr) (ss:ai) (rent:bN):Prop:=aR d (.dT (ss.map (jQ,s,d7,V.int (rent s))))
noncomputable def AkD (H:Hp) (d:Addr) (al:ai) (asked:aI):Prop:=aR d (Db,jd d7 ((iG).getD (Z3 "")))
noncomputable def LnT (xs:sI):dc:=xs.map fun x=>(x0 ba,V.int cX)
noncomputable def LnD (H:Hp) (d:Addr) (bad:ax) (names:ap) (lens:bU):Prop:=∃ kvs:bw,(sr d)/\kvs.length<=names.length/\∀ nm∈names,∃ q,(bT,yP,Cg,ziw,q∉bad)
structure Pz (t:Adr) (H:Hp) (pz a dl d_o d_r p d1 d2:Addr) (n:Nat) (names:ap) (ss:ai) (lens:bU) (so:bB) (ho:aI) (own:bQ) (rent:bN):Prop where
 ins:∃ dx,aR pz (vW zW)
 sg:Sg t H p d1 d2 n so ho
 ow:OwD H d_o names own
 rn:RnD H d_r ss rent
 ln:LnD H dl [d_r,d2] names lens
 n1:d_r≠d2
 n2:d_o≠d1
 n3:d_o≠dl
 n4:dl≠d1
theorem Pz.same {t:Adr}{H H':Hp}{pz a dl d_o d_r p d1 d2:Addr}{n:Nat}{names:ap}{ss:ai}{lens:bU}{so:bB}{ho:aI}{own:bQ}{rent:bN} (z:Pz t H pz a dl d_o d_r p d1 d2 n names ss lens so ho own rent) (s:bF):Pz t H' pz a dl d_o d_r p d1 d2 n names ss lens so ho own rent :=
 ⟨let ⟨dx,e⟩:=z.ins; lF qT,z.sg.same s,s _ _ z.ow,s _ _ z.rn,let ⟨kvs,e,l,f⟩:=z.ln; zeG,z.n1,z.n2,z.n3,z.n4⟩
noncomputable def FndV (H:Hp) (v:V) (f:m9):Prop:=(zbD,f,∃(g:Int) (a:Str) (s:Seat) (q qs:Addr),aP (Fq f a) (oN q) (eR q [.int g,.str a,.ref qs]) (lO qs s))
theorem FndV.tp {H H':Hp}{v:V}{f:m9} (h:FndV H v f) (t:jZ):FndV H' v f:=by
 rcases h with h|⟨g,a,s,q,qs,h1,h2,h3,h4⟩
 .ext eD h
 .show(fU,(dk g a s q (ib,qs,h1,h2,t _ _ h3,t _ _ h4)))
theorem AkD.get {H:Hp}{d:Addr}{al:ai}{asked:aI} (h:XV) (ask:uQ) {b:Addr}{s:Seat} (hb:lO b s):DGet H d ug ((iG).map V.str):=by
 have g:=zch;cases e:iG with
 | none =>
  show(b6,xfr xdu (ao zjG),g,g)
 | some x =>
  show(uB,valM xdu ((ask s).mp uc),e,g,g)
theorem OwD.get {H:Hp}{d:Addr}{names:ap}{own:bQ} (h:OwD H d names own) {x:Str} (hx:x∈names):DGet H d mK (some (.int (own x))):=by
 have g:=Ci x h;show(b6,valM inrI hx,g,g)
theorem RnD.get {H:Hp}{d:Addr}{ss:ai}{rent:bN} (h:RnD H d ss rent) {s:Seat} (hs:wz) {b:Addr} (hb:lO b s):DGet H d ug (some (.int (rent s))):=by
 have g:=zch;show(b6,valM xdu hs,g,g)
inductive xjr (t:Adr) (vs:af) (H:Hp) (Q:VK) (_:XK):Prop
 | mk (pz la da a dl d_o d_r p d1 d2:Addr) (n:Nat) (names crowd:ap) (ss al:ai) (lens:bU) (so:bB) (ho asked:aI) (own:bQ) (rent:bN) (e_:vs=(qP Fc la da)) (r_:(aP,Pz t H pz a dl d_o d_r p d1 d2 n names ss lens so ho own rent,F8,GR,aq uQ IR GC T0 ziO))
theorem xnj {t:Adr}{H:Hp}{Q E}{pz la da a dl d_o d_r p d1 d2:Addr}{n:Nat}{names crowd:ap}{ss al:ai}{lens:bU}{so:bB}{ho asked:aI}{own:bQ}{rent:bN} (hh:Pz t H pz a dl d_o d_r p d1 d2 n names ss lens so ho own rent/\F8/\GR/\uQ/\IR/\GC /\
 T0/\ziO):xjr t (qP Fc la da) H Q E:=⟨pz,la,da,a,dl,d_o,d_r,p,d1,d2,n,names,crowd,ss,al,lens,so,ho,asked,own,rent,rfl,hh⟩
theorem ok_v (T:aF):FnOk true P w K mg base aD 1 t.f_v t.d_v zmB (xjr t):=by
 refine T.F_v.okn (k:=0) sc_v (aJ h) (fun cdv A outer s H vs Q E hr h=>?_)
 .obtain ⟨pz,la,da,a,dl,d_o,d_r,p,d1,d2,n,names,crowd,ss,al,lens,so,ho,asked,own,rent,rfl,_⟩:=h;rfl
 .obtain ⟨pz,la,da,a,dl,d_o,d_r,p,d1,d2,n,names,crowd,ss,al,lens,so,ho,asked,own,rent,rfl,h⟩:=h;refine⟨_,xh (pS 3 sc_v.nd (xc3))
   (xh (xbg ZA rfl sW (pN 4 sc_v.nd) (xl (xmu (xbg ZA rfl (xop (re bi dw)) (xar rfl (gG 5 sc_v.nd 6)) (xh (pS 7 sc_v.nd (xu xd6 (xu xd6 jL (re bi dw)) (re bi qm)))
   (kR (PW.pt (xeg (xcu (xdr gz qm (pv 2))) (xds (PW.pt (xco (pK xlm 3 (xc3)) (xcm (pK xfv 7 (uZ 3)))))))) (xl (pS 3 sc_v.nd (xal (kg 7 4 5))))))))))
   (tt 3)),?_⟩
  refine sq3 ?_; intros; obtain⟨z,hla,hda,ask,cin,rin,⟨nda,q⟩⟩:47:=h;show(lz,nK la hla,xbr (xs:=Ox) (Pv:=(fL,Z,H1,∃(v3:V) (v4 v5 v6 v7:b8),(bT,Z,[wb,yQ,qU,some v3,v4,v5,v6,v7],gX H1,FndV H1 v3 (xf2 lens own rent asked none AK)))) ?_ ?_ ?_ ?_)
  .exact iM (gT,_,kN,.inl nS)
  .rintro i Z H1 _ (⟨_,_,_,_,⟨_,rfl,s1,_⟩⟩:121);show(zr,iO hla)
  .rintro i x Z H1 hx (⟨v3,v4,v5,v6,⟨v7,rfl,s1,fv⟩⟩:121);ext EB b hb;show(ah,bin,cin b (Zj hb),z1,z.same s1);show(EV,hpz,z1.ins);show(LJ,kvs,hdl,f,z1.ln)
   show(cc,qd,hv,hqd,nbad,f b bin);show(h9,dg,Ci b hdl,hv);refine⟨pz,_,dx,_,_,rfl,wu hpz T.n_bz lkZl ⟨dl,.ref qd,rfl,dg,qd,_,rfl,hqd,au ob nf⟩⟩;rw[Zt,not_or] at nbad;have nr:d_r≠qd:=Z1 nbad.1;have nd:da≠qd:=Z1 (nda b bin qd ⟨kvs,by
    show(iy,k0,e0,z.ln)
    have:=iO e0;ext bI hdl this this;exact e0,hv⟩)
   show(cu,dT_ne,∀{c:Addr}{u:HO},(ae,H1 c,u)->(∀ k,u≠.dT k)->c≠qd,fun {c u} e n1=>xdb e hqd (n1 _),xng (Pv:=fun j Z H3=>∃(v3:V) (v5 v6 v7:b8),(jc,Z,[wb,yQ,qU,some v3,f8 b,v5,v6,v7],(fP qd (ae,H1 c,u) (ae,H3 c,u)),(ae,H3 qd,U9),FndV H3 v3 (((B8).take j).foldl (Dn b) (xf2 lens own rent asked none AK)))) ?_ ?_ ?_ ?_)
   .refine ⟨124,_,_,_,_,rfl,Ao,xk,fv.tp (yX ?_)⟩;show(cE,dT_ne e nA,e)
   .rintro j Z H3 _ (⟨_,_,_,_,rfl,_,e3,_⟩:124);exact e3
   .rintro j k x qk pa Z H3 hk hqk hpa (⟨v3,v5,v6,v7,rfl,k3,e3,fv3⟩:124);unfold LnT at hk;rw[Zc,Ze] at hk;ext ag y hy hyk hk;cases hyk;show(C3,(i6,H3,pa,.ref qk,y.2),hpa);have hqk4:(ae,H4 qk,tO y.1):=cm hqk;have ymem:y∈B8:=Zj hy;show(cB,k4,zio,(pF,cm (k3 c u nc e)),hpz4,k4 _ _ (dT_ne hpz nA) hpz);have ow4:OwD H4 d_o names own:=k4 _ _ (dT_ne z1.ow nA) z1.ow;have rn4:RnD H4 d_r ss rent:=k4 _ _ nr z1.rn;show(cB,ak4,AkD H4 da al asked,k4 _ _ nd (iO hda),fv4,fv3.tp (Same.tups s4));show(ah,e4,cm e3,dgR,rn4.get (rin b y.1 (Zg.mpr (dH y ymem))) hqk4);show(pZ,pa,g4,⟨pz,_,dx,_,_,rfl,Ri hpz4 ⟨d_o,_,rfl,ow4.get bin,pz,_,dx,_,_,rfl,hpz4,T.c_t,T.n_b3,lkZr,d_r,_,rfl,dgR,?_⟩⟩);have tk:(B8).take fW=(B8).take j++[y]:=by
     rw[ZR,hy];rfl
    rw[tk,List.foldl_append];generalize ((B8).take j).foldl (Dn b) (xf2 lens own rent asked none AK)=f0 at fv4;show _;refine⟨da,_,rfl,ak4.get ask hqk4,_,rfl,ub c1 c1⟩
    .have an:asked y.1=none:=by
      cases ea:zds with
      | none=>rfl
      | some w=>ext bV ea c1
     have stay:(dE,xe3 f0 Gh)->∃(v3':V) (v5 v6 v7:b8),(jc,[wb,yQ,qU,some v3,f8 b,aC qk,bz y.2,bz Gh],[wb,yQ,qU,some v3',f8 b,v5,v6,v7],zio,(ae,H4 qd,U9),FndV H4 v3' ([y].foldl (Dn b) f0)):=fun hb=>by
      refine⟨124,v3,_,_,_,rfl,k4,e4,?_⟩;show FndV H4 v3 (look own rent asked b f0 y);unfold look;show(lC,jr hb,fv4)
     have move:xe3 f0 Gh=true->∀ q5,H4 q5=none->∃(v3':V) (v5 v6 v7:b8),(jc,[wb,yQ,qU,aC q5,f8 b,aC qk,bz y.2,bz Gh],[wb,yQ,qU,some v3',f8 b,v5,v6,v7],(fP qd (ae,H1 c,u) (p5 H4 q5 (.tup MZ))),kZ H4 q5 (.tup MZ) qd U9,FndV (fA H4 q5 MZ) v3' ([y].foldl (Dn b) f0)):=fun hb q5 hq5=>by
      show(aw,s5,Same H4 (fA H4 q5 MZ),bM hq5,⟨124,.ref q5,_,_,_,rfl,(pF,cG (k4 c u nc e)),Lq,?_⟩);show FndV _ _ (look own rent asked b f0 y);unfold look;rw[aT (d4 hb an)];exact .inr (dk _ _ _ q5 (ib,qk,rfl,rfl,xk,cG hqk4))
     rcases fv4 with⟨rfl,rfl⟩|⟨g0,a0,s0,q0,qs0,rfl,rfl,hq0,hqs0⟩
     .refine (j6,ifP rfl (ifP rfl ?_));show(aS,tD,fun q5 hq5=>move rfl q5 hq5)
     .refine EN (eG,sJ dF);refine(cV,q0,_,0,.int g0,(S9,hq0,Ck c2))
      .exact ⟨tD,fun q5 hq5=>move c2 q5 hq5⟩
      .exact stay (Jb.mpr c2)
    .refine ⟨124,v3,_,_,_,rfl,k4,e4,?_⟩;show FndV H4 v3 (look own rent asked b f0 y);unfold look;have an:(zds).isNone=false:=by
      cases ea:zds with
      | none=>rw[ea] at c1; ext jb c1
      | some w=>rfl
     show(lC,jr an,fv4)
   .rintro Z H3 (⟨v3,v5,v6,v7,rfl,k3,e3,fv3⟩:124);refine⟨103,qd,ob,_,e3,nf,rQ v3 _ (gT,_,zu ?_,?_)⟩
    .have e1:=jy;by_cases c1:c=qd
     .ext rD c1 hqd e1;exact xk
     .show(oM,c1,k3 c u c1 e1)
    .show(we,hl,LnT (lens b),(B8).length,Za _);rw[hl,Jf] at fv3;rw[ZR,hb];show FndV _ _ (xf2 lens own rent asked none (AK++[b]));unfold xf2;show(qo,List.foldl_append,FndV.tp (H:=H3) fv3 (yX ?_));show(cE,ne_f e e3,e)
  .rintro Z H1 (⟨v3,v4,v5,v6,⟨v7,rfl,s1,fv⟩⟩:121);rw[Za,Jf] at fv;exact (q H1 v3 s1 fv)
theorem xq8 {own:bQ}{as:ap}{b:Str}{g:Int} (nb:b∉as):shO own (as++[b]) g=fun n=>(jq,n,b,shO own as g b+g,shO own as g n):=by
 funext n;unfold shO;ext ij n b
 .ext zpE
 .ext d8 c;by_cases d:n∈as
  .rw [aT (ZO _ d),aT d]
  .rw [ay nX,ay d];rcases Zy.mp z with z|z
   .exact d z
   .exact c (Zp.mp z)
noncomputable def shS (rent:bN) (as:ai) (g:Int):bN:=(ao,if z∈as then rent z-g else rent z)
theorem xq4 {rent:bN}{as:ai}{b:Seat}{g:Int} (nb:b∉as):(LR (as++[b]))=fun n=>(jq,n,b,shS rent as g b-g,shS rent as g n):=by
 funext n;unfold shS;ext ij n b
 .ext zpE
 .ext d8 c;by_cases d:n∈as
  .rw [aT (ZO _ d),aT d]
  .rw [ay nX,ay d];rcases Zy.mp z with z|z
   .exact d z
   .exact c (Zp.mp z)
theorem xse {rent:bN}{al:ai}{asked:aI}{g:Int} (ask:uQ):(LR al)=oX:=by
 funext z;unfold shS shR;by_cases c:z∈al
 .rw [rB,if_pos ((ask z).mpr c)]
 .rw [ue,ay (jP,c ((ask z).mp y))]
theorem xwq {own:bQ}{g:Int}:shO own [] g=own:=by
 funext z;unfold shO;rw[ay Ho]
theorem xxv {rent:bN}{g:Int}:(LR [])=rent:=by
 funext z;unfold shS;rw[ay Ho]
section
variable {t:Adr}{H H':Hp}{pz a dl d_o d_r p d1 d2:Addr}{n:Nat}{names:List Str}{ss:List Seat}{lens:Str->List (Seat × Int)}{so:Str->Option Seat}{ho:Seat->Option Str}{own own':Str->Int}{rent rent':Seat->Int}
theorem Pz.move (z:Pz t H pz a dl d_o d_r p d1 d2 n names ss lens so ho own rent) (k:MW vk) (ow':OwD H' d_o names own') (rn':RnD H' d_r ss rent'):Pz t H' pz a dl d_o d_r p d1 d2 n names ss lens so ho own' rent':=by
 show(ah,o,z.ow,r,z.rn);unfold OwD at o;unfold RnD at r;have tp:jZ:=(yX,k _ _ (ne_f e o) (ne_f e r) e);ext RJ;obtain⟨dx2,hp⟩:=z.sg.ins;show(ag,k1,hk1,f1,z.sg.so)
 show(ag,k2,hk2,f2,z.sg.ho)
 show(cc,kl,hkl,ll,fl,z.ln)
 refine⟨(lF,k _ _ (ne_f hpz o) (ne_f hpz r) hpz),⟨⟨dx2,k _ _ (ne_f hp o) (ne_f hp r) hp⟩,SoD.keep ⟨k1,hk1,f1⟩ tp (mM,k _ _ (Z1 z.n2) (ne_f hk1 r) e),(S3,⟨k2,hk2,f2⟩,k _ _ (ne_f hk2 o) (Z1 z.n1) e)⟩,ow',rn',(Ph,kl,k _ _ (Z1 z.n3) (ne_f hkl r) hkl),z.n1,z.n2,z.n3,z.n4⟩;show(cc,q,e1,e2,e3,fl nm h);show(gF,q,e1,k _ _ (ne_f e2 o) (fun y=>e3 (aB y ig)) e2,e3)
#check _
noncomputable def xe7 (H:Hp) (dl da:Addr) (names:ap):Prop:=T0
inductive xl7 (t:Adr) (vs:af) (H:Hp) (Q:VK) (_:XK):Prop
 | mk (pz la da a dl d_o d_r p d1 d2:Addr) (n:Nat) (names crowd:ap) (ss al:ai) (lens:bU) (so:bB) (ho asked:aI) (own:bQ) (rent:bN) (g:Int) (e_:vs=[Fc,.ref la,.ref da,.int g]) (r_:(zfv,Pz t H pz a dl d_o d_r p d1 d2 n names ss lens so ho own rent,∀ H',(MW vk)->Pz t H' pz a dl d_o d_r p d1 d2 n names ss lens so ho o5 oX->l9))
theorem xq7 {t:Adr}{H:Hp}{Q E}{pz la da a dl d_o d_r p d1 d2:Addr}{n:Nat}{names crowd:ap}{ss al:ai}{lens:bU}{so:bB}{ho asked:aI}{own:bQ}{rent:bN}{g:Int} (h:Pz t H pz a dl d_o d_r p d1 d2 n names ss lens so ho own rent/\F8/\GR/\uQ/\IR/\crowd.Nodup/\al.Nodup/\zbU/\Pg/\xC/\da≠d_r /\
 ∀ H',(MW vk)->Pz t H' pz a dl d_o d_r p d1 d2 n names ss lens so ho o5 oX->l9):xl7 t [Fc,.ref la,.ref da,.int g] H Q E:=⟨pz,la,da,a,dl,d_o,d_r,p,d1,d2,n,names,crowd,ss,al,lens,so,ho,asked,own,rent,g,rfl,h⟩
inductive xrt (t:Adr) (vs:af) (H:Hp) (Q:VK) (_:XK):Prop
 | mk (pz la da a dl d_o d_r p d1 d2:Addr) (n:Nat) (names crowd:ap) (ss al:ai) (lens:bU) (so:bB) (ho asked:aI) (own:bQ) (rent:bN) (g:Int) (b:Str) (s:Seat) (e_:vs=(qP Fc la da)) (r_:(aq,Pz t H pz a dl d_o d_r p d1 d2 n names ss lens so ho own rent,F8,GR,uQ,(aq IR crowd.Nodup al.Nodup zbU (aq,Pg,xC,da≠d_r,GC,(aq,Xx,da≠d2,Fq CQ b,Fy,(zhw,Pz t H' pz a dl d_o d_r p d1 d2 n names ss lens so ho o5 oX))))))
theorem xou {t:Adr}{H:Hp}{Q E}{pz la da a dl d_o d_r p d1 d2:Addr}{n:Nat}{names crowd:ap}{ss al:ai}{lens:bU}{so:bB}{ho asked:aI}{own:bQ}{rent:bN}{g:Int}{b:Str}{s:Seat} (hh:Pz t H pz a dl d_o d_r p d1 d2 n names ss lens so ho own rent/\H la=some (.lst (crowd.map V.str))/\AkD H da al asked/\(∀ s,(asked s).isSome=true↔s∈al)/\(∀ b∈crowd,b∈names)/\crowd.Nodup/\al.Nodup/\(∀ s∈al,s∈ss)/\ss.length<=32/\names.length<=12/\da≠d_r/\GC/\Xx/\da≠d2/\(Fq CQ b)/\Fy /\
 (zhw,Pz t H' pz a dl d_o d_r p d1 d2 n names ss lens so ho o5 oX)):xrt t (qP Fc la da) H Q E:=⟨pz,la,da,a,dl,d_o,d_r,p,d1,d2,n,names,crowd,ss,al,lens,so,ho,asked,own,rent,g,b,s,rfl,hh⟩
theorem AkD.add {H:Hp}{d:Addr}{al:ai}{asked:aI} (h:XV) {s:Seat}{b:Str} (ns:Fy):(ae,upd H d (.dT (putK (HY,jd d7 ((iG).getD (Z3 ""))) d7 (.str b))) d,(.dT ((n6).map (ao (jd,x0 z,(Ic b z).getD (Z3 "")))))):=by
 rw[xk,xc1 _ (xfr xdu ns),Zs]
 congr 2
 have e1:(HY,jd d7 ((iG).getD (Z3 "")))=al.map (ao (jd,x0 z,(Ic b z).getD (Z3 ""))):=JI fun z hz=>by
  unfold Kp.upd1;rw[ay (fun y:z=s=>ns (cT y hz))]
 rw[e1]
 congr 1
 show [(d7,V.str b)]=[jd d7 ((Kp.upd1 asked s b s).getD (Z3 ""))]
 unfold Kp.upd1;rw[bY];rfl
theorem ok_i (T:aF):FnOk true P w K mg base aD 1 t.f_i t.d_i UD (xl7 t):=by
 refine T.F_i.okn (k:=0) sc_i (aJ h) (fun cdv A outer s H vs Q E hr h=>?_)
 .obtain ⟨pz,la,da,a,dl,d_o,d_r,p,d1,d2,n,names,crowd,ss,al,lens,so,ho,asked,own,rent,g,rfl,_⟩:=h;rfl
 .obtain ⟨pz,la,da,a,dl,d_o,d_r,p,d1,d2,n,names,crowd,ss,al,lens,so,ho,asked,own,rent,g,rfl,h⟩:=h;refine⟨_,xh (nE sW 4 sc_i.nd (xl (xmt gz bi dw fJ xve (by intros; rfl))))
   (xl (xmu (nE (xqe (pv 2)) 5 sc_i.nd (xl (xmt gz bi qm fJ xut (by intros; rfl)))))),?_⟩
  refine sq2 ?_; intros; refine fq ?_; intros; obtain⟨z,hla,hda,ask,cin,cnd,⟨and_,ain,s32,n12,ndr,q⟩⟩:47:=h;show(ah,ow0,z.ow,rn0,z.rn);show(aw,BIG,MF,Rb,nK la hla);ext ja nla la d_o hla ow0;ext ja nda da d_o hda ow0;ext RJ;ext ja npo pz d_o hpz ow0;ext ja npr pz d_r hpz rn0;ext ja nro d_r d_o rn0 ow0
  let Pv (i:Nat) (Z:L2.St) (H1:Hp):Prop:=∃(v4 v5:b8),(bT,Z,zmV,(fP d_o tM (ae,H1 c,u)),OwD H1 d_o names (shO own AK g))
  show(zR,Ox,?_,?_)
  .exact (fG,_,_,zaR,pQ List.take_zero xwq ow0)
  .rintro i Z H1 _ (⟨_,_,rfl,k1,_⟩:83);show(zr,k1 _ _ nla hla)
  .rintro i x Z H1 hx (⟨v4,v5,rfl,k1,ow1⟩:83);ext EB b hb;have bin:=cin b (Zj hb);have nb:b∉AK:=fun zz=>by
    ext nF hi e hb;have:=xc4 id (ps:=crowd) (aB YR cnd) hi b zz;exact this e.symm
   refine⟨pz,_,dx,_,_,rfl,(Ri,k1 _ _ npo hpz,(fG,d_o,_,ow1.get bin,⟨_,_,rfl,rfl,_,(yE,.inr b,ow1,qu),?_⟩))⟩;refine(ua,_,pF (bO,nc,k1 c u nc e));rw[ZR,hb];show OwD _ d_o names (shO own (AK++[b]) g);rw[xq8 nb];unfold OwD;ext zoh inrI bin
   ext ij nn b
   .rw [rB,rB]
   .rw [ue,ue]
  .rintro Z H1 (⟨v4,v5,rfl,k1,ow1⟩:83);rw[Za,Jf] at ow1;have hda1:(ae,H1 da,(Db,jd d7 ((iG).getD (Z3 "")))):=k1 _ _ nda hda;show(aw,rn1,RnD H1 d_r ss rent,k1 _ _ nro rn0,(fG,da,_,hda1,au ob nf));ext ja npa pz da hpz hda;have noa:d_o≠da:=Z1 nda
   show(znH,∃(v5:b8),(aq,Z=zmV,(UU (ae,H2 c,u)),(rg da (.frz ob (Db,jd d7 ((iG).getD (Z3 ""))))),OwD H2 d_o names o5,RnD H2 d_r ss (LR (al.take j))))
   refine xpf (Pv:=Pv) ?_ ?_ ?_ ?_
   .refine ⟨65,_,rfl,fun c u n1 n2 n3 e=>(bO,n3,k1 c u n1 e),xk,?_,?_⟩
    .show upd H1 da _ d_o=_;ext cE noa ow1
    .rw [List.take_zero,xxv];show upd H1 da _ d_r=_;ext zB ndr rn1
   .rintro j Z H2 _ (⟨_,rfl,_,e2,_⟩:64);exact e2
   .rintro j k x qk Z H2 hk hqk (⟨v5,rfl,k2,e2,ow2,rn2⟩:65);rw[Zc,Ze] at hk;ext ag s hs hsk hk;cases hsk;show(cB,hqk,rg qk (tO s),hqk,sin,ain s (Zj hs));have nb:s∉al.take j:=fun zz=>by
     ext nF hi e hs;have:=xc4 id (ps:=al) (aB YR and_) hi s zz;exact this e.symm
    refine⟨pz,_,dx,_,_,rfl,(wu,k2 _ _ npo npr npa hpz,T.n_b3,lkZr,(fG,d_r,_,rn2.get sin hqk,⟨_,_,rfl,rfl,_,DPut.t (k:=d7) rn2 hqk qu,?_⟩))⟩;refine⟨65,_,rfl,fun c u n1 n2 n3 e=>(bO,n2,k2 c u n1 n2 n3 e),bO ndr e2,?_,?_⟩
    .show upd H2 d_r _ d_o=_;ext zB nro ow2
    .rw [ZR,hs];show RnD _ d_r ss (LR (al.take j++[s]));rw[xq4 nb];unfold RnD;ext zoh xdu sin
     ext ij nn s
     .rw [rB,rB]
     .rw [ue,ue]
   .rintro Z H2 (⟨v5,rfl,k2,e2,ow2,rn2⟩:65);rw[Za,Jf,xse ask] at rn2;refine⟨103,da,ob,_,e2,nf,?_⟩;have fr:MW (p5 H2 da (Db,jd d7 ((iG).getD (Z3 "")))):=fun c u n1 n2 e=>by
     by_cases c1:c=da
     .ext rD c1 hda e;exact xk
     .show(oM,c1,k2 c u n1 n2 c1 e)
    refine q _ fr (z.move fr ?_ ?_)
    .show upd H2 da _ d_o=_;ext cE noa ow2
    .show upd H2 da _ d_r=_;ext zB ndr rn2
theorem ok_aa (T:aF):FnOk true P w K mg base aD 2 t.f_aa t.d_aa zmB (xrt t):=by
 refine T.F_aa.okn (k:=1) sc_aa (aJ h) (fun cdv A outer s H vs Q E hr h=>?_)
 .obtain ⟨pz,la,da,a,dl,d_o,d_r,p,d1,d2,n,names,crowd,ss,al,lens,so,ho,asked,own,rent,g,b,s0,rfl,_⟩:=h;rfl
 .obtain ⟨pz,la,da,a,dl,d_o,d_r,p,d1,d2,n,names,crowd,ss,al,lens,so,ho,asked,own,rent,g,b,s0,rfl,h⟩:=h;refine⟨_,xh (Od (xaf aM T.c_t T.m_v (ok_v T) aA T.b_v .nil xq nT) 3 sc_aa.nd (gG 4 sc_aa.nd 5))
   (xh (xap (xaf aM T.c_t T.m_i (ok_i T) aA T.b_i .nil xq II))
   (xh (qV fH qm dw)
   (tt 5))),?_⟩
  refine sq4 ?_; intros; obtain⟨z,hla,hda,ask,cin,cnd,⟨and_,ain,s32,n12,ndr,rin,nln,nd2,nr,nal,q⟩⟩:47:=h;ext RJ;refine⟨pz,dx,_,rfl,hpz,xgi aG,?_⟩;ext Le;refine xnj ⟨47,z,hla,hda,ask,cin,rin,⟨nln,b9 H1 v s1 fv⟩⟩;rw[nr] at fv;rcases fv with⟨e,_⟩|⟨g',b',s',q1,qs,e,rfl,hq1,hqs⟩
  .cases e
  cases e;show(pZ,q1,hq1,⟨pz,dx,_,rfl,iO hpz,xgi aG,?_⟩);ext Le;refine xq7 ⟨47,z.same s1,iO hla,iO hda,ask,cin,cnd,⟨46,and_,ain,s32,n12,ndr,aK H2 k2 z2⟩⟩;show(ah,ow1,iO z.ow,rn1,iO z.rn);have hda1:(ae,H1 da,(Db,jd d7 ((iG).getD (Z3 "")))):=iO hda;show(cB,hda2,AkD H2 da al asked,k2 _ _ (ne_f hda1 ow1) ndr hda1,hqs2,k2 _ _ (ne_f hqs ow1) (ne_f hqs rn1) hqs);show(aw,al32,al.length<=32,ZN (xh5 and_ ain) s32,(ua,da,DPut.t (k:=x0 s0) hda2 hqs2 np));have hda2':(ae,H2 da,(Db,jd d7 ((iG).getD (Z3 "")))):=hda2;have fr:UU (p5 H2 da (.dT (putK (HY,jd d7 ((iG).getD (Z3 ""))) (x0 s0) (.str b)))):=fun c u n1 n2 n3 e=>by
   show(cE,n3,k2 c u n1 n2 jy)
  refine q _ qs fr (bO (ne_f hqs2 hda2') hqs2) ?_ (hda2.add nal)
  -- the dict of those who asked is none of the prices'
  have fr2:fP da (ae,H2 c,u) (p5 H2 da (.dT (putK (HY,jd d7 ((iG).getD (Z3 ""))) (x0 s0) (.str b)))):=fun c u n3 e=>by
   ext cE n3 e
  obtain⟨dx2,hpz2⟩:=z2.ins;obtain⟨dx3,hp2⟩:=z2.sg.ins;show(ag,m1,hm1,f1,z2.sg.so)
  show(ag,m2,hm2,f2,z2.sg.ho)
  show(cc,ml,hml,ll,fl,z2.ln)
  show(ah,ow2,z2.ow,rn2,z2.rn);show(aw,tp,Tups H2 (i5 H2 da (putK (HY,jd d7 ((iG).getD (Z3 ""))) (x0 s0) (.str b))),(yX,fr2 _ _ (ne_f e hda2') e),⟨⟨dx2,Oo hpz2⟩,⟨⟨dx3,Oo hp2⟩,SoD.keep ⟨m1,hm1,f1⟩ tp (mM,fr2 _ _ (ne_f hm1 hda2') e),(S3,⟨m2,hm2,f2⟩,fr2 _ _ (Z1 nd2) e)⟩,Oo ow2,fr2 _ _ (Z1 ndr) rn2,(Ph,ml,Oo hml),z2.n1,z2.n2,z2.n3,z2.n4⟩);show(cc,qq,e1,e2,e3,fl nm h);refine(bS,qq,e1,fr2 _ _ ?_ e2,e3);show(iy,k0,hk0,z.ln)
  have hk2:=k2 _ _ (Z1 z.n3) (ne_f hk0 z.rn) (iO hk0);ext bI hml hk2 hk2;exact nln nm h qq ⟨ml,hk0,e1⟩
noncomputable def xad (w:Nat) (ps:am) (srt:ai) (nm:Str):sI:=match U1 with
 | some p=>(NS).map fun s=>(s,Gx)
 | none=>[]
theorem xfx {w:Nat}{ps:am}{srt:ai}:xax hU=Ev:=by
 funext nm;unfold xax xad xbe;cases U1 with
 | none=>rfl
 | some p =>
  show List.map _ (List.map _ _)=_;rw[Z4];exact YR _
theorem xg1 {w h:Nat}{ps:am}{ss srt:ai} (w30:kn) (h16:jE) (pok:lR) (sok:SsOk iL ss) (pm:Ik):xdh hU srt:=by
 show(aw,nd,srt.Nodup,pm.nodup_iff.mpr sok.1,⟨du n,Rq,aK n s hs,nd⟩)
 .rw [xfx];unfold xbe;split
  .exact Jt.filter _ nd
  .exact YD
 .unfold xad at hx;split at hx
  .rename_i p hf
   ext dY s hs hx;show(ah,pin,pok.ok p (Z7 hf),sin,sok.2.2 s (pm.mem_iff.mp (rb hs)));have:=pin.x1;have:=pin.x2;have:=pin.y1;have:=pin.y2;have:=sin.1;have:=sin.2;show mP Gx 46;unfold lenI;ext Oz
  .exact nomatch hx
 .rw [xfx] at hs;unfold xbe at hs;split at hs
  .exact rb hs
  .exact nomatch hs
theorem xix {d:Addr}:∀(L:yY Iw) {H:Hp}{kvs:dc},(w4 d)->zoP->(L.map (·.2.1)).Nodup->(∀ x∈L,valV kvs (x0 cy)=none)->zkS ->
    ∃ H2,xem d H zmp H2/\H2 d=some (.dT (kvs++LnT (L.map (·.2))))/\(XR d)
  | [],H,kvs,e,_,_,_,_=>(bS,H,.nil,by rw[e]; simp[LnT],OL)
  | x::L,H,kvs,e,f,nd,nv,hn=>by
    rw[ZD] at hn;ext vz;have hx:=f x ig;have up:o8 d iY (ae,upd H d (.dT VZ) b,u):=fun b u nb eb=>by
      ext cE nb eb
    have put:DPut H d (.ref ba) (.int lB) (i5 H d VZ):=by
      have z:=DPut.t (k:=x0 cy) (v:=.int lB) e hx (xb2 aa);show(b6,xc1 _ (nv x ig),z,z)
    obtain⟨H2,dps,e2,k2⟩:63:=xix L (H:=i5 H d VZ) xk (fun y hy=>up _ _ (ne_f (f y (Zl _ hy)) e) (f y (Zl _ hy))) kE (fun y hy=>by
      have nk:¬ x0 (bg y)=x0 cy:=(ao,nd.1 (GM,xdu _ _ z,dH y hy));have z:=xcf kvs (x0 cy) (x0 (bg y)) (.int lB);rw[xc1 _ (nv x ig),ay nk,nv y (Zl _ hy)] at z;exact z) IC
    refine(bS,H2,.cons put dps,?_,fun b u nb eb=>k2 _ _ nb (up _ _ nb eb));rw[e2,Q5];rfl
theorem xhm {H:Hp}:∀{tgt:sI}{ys:af},(wm tgt.length)->(GU (T9 tgt)) ->
    ∃(ps:DK) (L:yY Iw),ys=ps.map OR/\Vn/\ps.map (·.2)=zmp/\L.map (·.2)=tgt/\zoP
  | [],[],_,_=>⟨85,[],[],rfl,GK,rfl,rfl,GK⟩
  | [],cM,h,_=>ft
  | cM,[],h,_=>ft
  | x::tgt,mQ,h,f=>by
    obtain⟨q,qs,s,l,rfl,h1,h2,h3⟩:124:=f 0 y rfl;obtain⟨ps,L,e1,e2,e3,e4,e5⟩:85:=xhm (tgt:=tgt) (ys:=ys) xB (fun i y hy=>by
      obtain⟨q,qs,s,l,a1,a2,a3,a4⟩:124:=zlt;exact⟨124,q,qs,s,l,a1,a2,a3,by simpa using a4⟩)
    show(mX,h3,x,CC,by simpa using h3,⟨85,(q,.ref qs,.int l)::ps,(qs,s,l)::L,eB e1,kS,by rw[Zo,Zo,e3],by rw[Zo,e4,h3],ye⟩)
    . rcases E3 with rfl|hp
      . exact h1
      . exact e2 p hp
    . rcases dC hz with rfl|hz
      . exact h2
      . exact e5 z hz
inductive xqo (t:Adr) (vs:af) (H:Hp) (Q:VK) (_:XK):Prop
 | mk (pz dx a dp do_:Addr) (w h:Nat) (ps:am) (st srt:ai) (lens:bU) (e_:vs=[.ref pz,bb]) (r_:(aR pz (vW []))/\Dr t H a dp do_ w h ps st srt/\∀ H' dl d_o d_r p d1 d2,bc (bo dl) (bo d_o) (bo d_r) rF (bc,bo d1,bo d2,sj pz,Pz t H' pz a dl d_o d_r p d1 d2 0 [] srt lens fh fh Tz Tz,l9))
theorem ok_aw (T:aF):FnOk true P w K mg base aD 4 t.f_aw t.d_aw uO (xqo t):=by
 refine T.F_aw.okn (k:=3) sc_aw (aJ h) (fun cdv A outer s H vs Q E hr h=>?_)
 .obtain ⟨pz,dx,a,dp,do_,w',h',ps,st,srt,lens,rfl,_⟩:=h;rfl
 .obtain ⟨pz,dx,a,dp,do_,w',h',ps,st,srt,lens,rfl,h⟩:=h;refine⟨_,xh (Fi cF)
   (xh Tk
   (xh Tk
   (xh (Fi (CF (xa4 rfl (xaw (zs:=["seat"]) (ys:=[]) (fr:=[]) (N0:=uO) (sc0:=xm s_aw) aG rfl rfl rfl) (xaj (xah cF T.c_a T.m_n FG aA T.b_n .nil xq)) jK jx dR (o4 qL))))
   (DW (xk5 T.k_al (ok_at T) aA rfl T.g_al T.b_at .nil xq))))),?_⟩
  refine sq5 ?_; intros; ext oE hpz dr;refine⟨126,pz,_,dx,_,rfl,hpz,T.c_t,T.n_b0,(kK 0),?_⟩;show(qR,k1,pz,iY,(ae,upd H pz Mr b,u),SG)
  have hz1:(ae,upd H pz Mr pz,vW [xI]):=xk;have f1:(gY,upd H pz Mr b=none,cZ):=fun b e=>by
   ext Fm
   .ext vy c xk
   .ext TL; exact e
  revert k1 hz1 f1;show bv _ _ _ _;generalize eQ pz Mr=H1;intro k1 hz1 f1;refine au dl hdl;show(aw,s2,Same H1 DJ,bM hdl,⟨126,pz,_,dx,_,rfl,dy hz1,T.c_t,T.n_bz,(kK 1),?_⟩);have npl:pz≠dl:=xi hz1 hdl;show(qR,k3,pz,(ae,H1 b,u),oB DJ pz Gs,bO nb B9)
  have hz3:kZ DJ pz Gs pz (vW [xI,Dl]):=xk;have gl3:upd DJ pz Gs dl=(BD []):=(aB,kB npl,xk)
  have f3:(gY,tY DJ pz Gs b,H1 b=none):=fun b e=>by
   ext Fm
   .ext vy c xk
   .ext TL; exact s2.free e
  revert k3 hz3 gl3 f3;show bc _ _ _ _ _;generalize upd DJ pz Gs=H3;intro k3 hz3 gl3 f3;refine au d_o hdo;show(aw,s4,Same H3 DC,bM hdo,⟨126,pz,_,dx,_,rfl,cm hz3,T.c_t,T.n_b2,(kK 2),?_⟩);have npo:pz≠d_o:=xi hz3 hdo;have nol:d_o≠dl:=kC gl3 hdo;show(qR,k5,pz,(ae,H3 b,u),oB DC pz Gr,(bO,nb,cm e))
  have hz5:kZ DC pz Gr pz (vW [xI,Dl,OT]):=xk;have go5:upd DC pz Gr d_o=(BD []):=(aB,kB npo,xk)
  have f5:(gY,tY DC pz Gr b,H3 b=none):=fun b e=>by
   ext Fm
   .ext vy c xk
   .ext TL; exact s4.free e
  revert k5 hz5 go5 f5;show bc _ _ _ _ _;generalize upd DC pz Gr=H5;intro k5 hz5 go5 f5;have gl5:=k5 _ _ (Z1 npl) gl3;have k05:o8 pz iY (ae,H5 b,u):=(tG,k5 _ _ nb (k3 _ _ nb zdo));obtain⟨⟨dxa,hpic⟩,⟨kp,hkp,plp⟩,w1,w2,h1,h2,le⟩:=SM;show(ag,ko,hko,kr,id dr.sts);have nap:a≠pz:=fun z=>by
   rw[z,hpz] at hpic;have z2:=bX (HO.ins.inj (ZL.inj hpic));exact nomatch z2
  have kt:Tups H H5:=(iI,k05 _ _ (ne_f e hpz) e);have pic5:Pic t H5 a dp do_ mC hZ ps:=⟨⟨dxa,k05 _ _ nap hpic⟩,⟨kp,k05 _ _ (ne_f hkp hpz) hkp,plp.keep kt⟩,w1,w2,h1,h2,le⟩
  show(aw,sts5,Sts H5 do_ st,⟨ko,k05 _ _ (ne_f hko hpz) hko,kr⟩,⟨a,dxa,_,rfl,k05 _ _ nap hpic,bn,a,dp,do_,w',h',ps,st,rfl,pic5,sts5,fun l6 ss6 us hl6 sl6 pm lt=>?_⟩);show(A7,ss6,pm.trans dr.pm.symm,lt,dr.lt);ext zfm;have s32:ss6.length<=32:=Ga
  show(qX,snd,ss6.Nodup,dr.pm.nodup_iff.mpr dr.ok.1,gH l6 g6 l7 hl7,xba (aW g6) np hl7 (uo,T9 znf) (fun _ _ _ _ tp ⟨q,qs,s,l,z1,z2,z3,z4⟩=>⟨124,q,qs,s,l,z1,jO z2,jO z3,z4⟩) (fun i x H7 hx s7 N hN=>?_) (fun ys H7 s7 e7 ly fy=>?_))
  .ext zO;show(ag,s,hs,hsq,sl6'.get hqa);ext fT cS q5 hq5;show(jF,s8,Same H7 (i6,H7,q5,.ref qa,0),TD,lJ s8 ⟨124,q5,qa,s,0,rfl,xk,qp (oO hsq),d4 Zc hs⟩)
  rw[Za,usl] at ly;obtain⟨prs,L,rfl,hprs,ep,eL,hL⟩:85:=xhm (tgt:=znf) (bW ly Za) fy;refine(zI,l7,prs,e7,hprs,au d_r hdr);have L1:(L.map (·.2.1))=ss6:=by
   have:L.map (·.2.1)=(L.map (·.2)).map (·.1):=eB Z4
   rw[this,eL,Z4];exact YR _
  have ll:L.length=ss6.length:=by
   show(Hh,uD L1,Za)
  have s8:Same H7 (i5 H7 d_r []):=bM hdr;show(cc,H8,dps,e8,k8,xix (d:=d_r) L (H:=i5 H7 d_r []) (kvs:=[]) xk (BZ,qp (hL x hx)) (aB L1 snd) hV jo);ext Wz H8 ep;rw[eL] at e8;have rn8:(ae,H8 d_r,(.dT (ss6.map fun s=>(d7,V.int 0)))):=by
   rw[e8];unfold LnT;rw[Z4];rfl
  show(lI,s78,Same H7 H8,k8 _ _ (xi e hdr) (s8 _ _ e));have s58:Same H5 H8:=(Rw).trans s78;show(aw,fdr5,H5 d_r=none,(Rw).free hdr,⟨126,pz,_,dx,_,rfl,uC hz5,T.c_t,T.n_b3,(kK 3),?_⟩);show(qR,k9,pz,(ae,H8 b,u),oB H8 pz MR,SG)
  have hz9:kZ H8 pz MR pz (vW zlw):=xk;have f9:(gY,tY H8 pz MR b,H8 b=none):=fun b e=>by
   ext Fm
   .ext vy c xk
   .ext TL; exact e
  revert k9 hz9 f9;show bv _ _ _ _;generalize upd H8 pz MR=H9;intro k9 hz9 f9;have npr:pz≠d_r:=xi hz5 fdr5;have gl9:=k9 _ _ (Z1 npl) (uC gl5);show(ah,go9,k9 _ _ (Z1 npo) (uC go5),gr9,k9 _ _ (Z1 npr) rn8);refine bL p dx2 hp hdx ne;show(BY,p,dx2,xk,fun H10 d1 d2 hd1 hd2 k10 sg10=>tS);have up:(gY,tY (qW H9 dx2 p) p (.ins t.C_al dx2 []) b,H9 b=none):=fun b z=>by
   cases e:H9 b with
   | none=>rfl
   | some u=>ext zdO yK
  show(lI,s910,Same H9 H10,k10 _ _ (xi e hp) (pQ yK K2 e));show(wE,h91,up _ hd1,h92,up _ hd2,⟨126,pz,_,dx,_,rfl,s910 _ _ hz9,T.c_t,T.n_bx,(kK 4),?_⟩);show(qR,kF,pz,(ae,H10 b,u),oB H10 pz zpL,SG)
  have fr:(gY,H9 b=none,cZ):=fun b e=>by
   cases z:H b with
   | none=>rfl
   | some u =>
    ext Fm
    .ext vy c hz9
    .rw [k9 _ _ c (uC (k05 _ _ c z))] at e; cases e
  have fr5:(gY,H5 b=none,cZ):=fun b e=>by
   cases z:H b with
   | none=>rfl
   | some u =>
    ext Fm
    .ext vy c hz5
    .rw [k05 _ _ c z] at e; cases e
  obtain⟨dx3,hp10⟩:=sg10.ins;show(ag,m1,hm1,g1,sg10.so)
  show(ag,m2,hm2,g2,sg10.ho)
  have gz10:=s910 _ _ hz9;have tpF:Tups H10 (upd H10 pz zpL):=(iI,kF _ _ (ne_f e gz10) e);have npp:p≠pz:=kC hz9 hp;refine q _ dl d_o d_r p d1 d2 (f1 _ hdl) (f1 _ (f3 _ hdo)) (fr5 _ fdr5) (fr _ hp) (fr _ h91) (fr _ h92) (tG,kF _ _ nb (s910 _ _ (k9 _ _ nb (uC (k05 _ _ nb e))))) ?_;exact⟨Fg,⟨⟨dx3,kF _ _ npp hp10⟩,SoD.keep ⟨m1,hm1,g1⟩ tpF (mM,kF _ _ (ne_f hm1 gz10) e),(S3,⟨m2,hm2,g2⟩,kF _ _ (ne_f hm2 gz10) e)⟩,X2 npo go9,X2 npr gr9,(bS,[],X2 npl gl9,bu,GK),(ao,sE h92 gr9),(ao,sE h91 go9),nol,(ao,sE h91 gl9)⟩
section
variable {t:Adr}{H H':Hp}{pz a dl d_o d_r p d1 d2:Addr}{n:Nat}{names:List Str}{ss:List Seat}{lens:Str->List (Seat × Int)}{so so':Str->Option Seat}{ho ho':Seat->Option Str}{own own':Str->Int}{rent rent':Seat->Int}
theorem Pz.keep1 (z:Pz t H pz a dl d_o d_r p d1 d2 n names ss lens so ho own rent) {x:Addr} (k:fP x tM vk) (tp:jZ) (e0:pz≠x) (e1:p≠x) (e2:d1≠x) (e3:d2≠x) (e4:d_o≠x) (e5:d_r≠x) (e6:dl≠x) (e7:xe7 H dl x names):Pz t H' pz a dl d_o d_r p d1 d2 n names ss lens so ho own rent:=by
 show(zfD,⟨let ⟨dx,e⟩:=z.ins; (lF,k _ _ e0 e),z.sg.keep e1 e2 e3 tp k,k _ _ e4 z.ow,k _ _ e5 z.rn,(Ph,kl,k _ _ e6 hkl),z.n1,z.n2,z.n3,z.n4⟩,k _ _ (e7 nm h q ⟨kl,hkl,q1⟩) q2)
theorem Pz.keepL (z:Pz t H pz a dl d_o d_r p d1 d2 n names ss lens so ho own rent) {x:Addr}{xs:af} (hx:vd x xs) (k:fP x tM vk):Pz t H' pz a dl d_o d_r p d1 d2 n names ss lens so ho own rent:=by
 show(EV,hz,z.ins);obtain⟨dx2,hp⟩:=z.sg.ins;ext zit
 show(cc,kl,hkl,ll,fl,id z.ln);exact z.keep1 k (yX,k _ _ (ne_f e hx) e) (ne_f hz hx) (ne_f hp hx) (ne_f hk1 hx) (ne_f hk2 hx) (ne_f z.ow hx) (ne_f z.rn hx) (ne_f hkl hx) (fun nm h q ⟨kv,e1,e2⟩=>by
  show(tf,q',q1,q2,fl nm h);ext bI hkl e1 e1;ext bI q1 e2 e2;exact ne_f q2 hx)
theorem xe7.keep {da:Addr} (z:Pz t H pz a dl d_o d_r p d1 d2 n names ss lens so ho own rent) (h:Xx) (k:Nq dl):xe7 H' dl da names:=fun nm hn q ⟨kv,e1,e2⟩=>by
 show(iy,kl,hkl,z.ln)
 have:=k _ hkl;ext bI e1 this this;exact h nm hn q ⟨kv,hkl,e2⟩
theorem AkD.hod {d:Addr}{al:ai}{asked:aI} (h:XV) (ask:uQ):HoD H d al.length asked:=by
 refine(bS,_,h,by rw[Za]; exact Zk _,du s);cases e:iG with
 | none=>exact xfr xdu (ao zjG)
 | some x =>
  rw[valM xdu ((ask s).mp uc),e];rfl
theorem Pz.hand (z:Pz t H pz a dl d_o d_r p d1 d2 n names ss lens so ho own rent) (k:Pb) {m:Nat} (sg:Sg t H' p d1 d2 m so' ho'):Pz t H' pz a dl d_o d_r p d1 d2 m names ss lens so' ho' own rent:=by
 show(EV,hz,z.ins);ext zit
 show(zfD,⟨(lF,k _ _ (ne_f hz hk1) (ne_f hz hk2) hz),sg,k _ _ z.n2 (ne_f z.ow hk2) z.ow,k _ _ (ne_f z.rn hk1) z.n1 z.rn,(Ph,kl,k _ _ z.n4 (ne_f hkl hk2) hkl),z.n1,z.n2,z.n3,z.n4⟩,k _ _ (ne_f q2 hk1) (fun y=>q3 (aB,y,Zl _ ig)) q2)
#check _
noncomputable def F5 (H H':Hp) (dl d_o d_r d1 d2:Addr):Prop:=fP dl BX (bc,c≠d_r,c≠d1,c≠d2,tM,vk)
inductive xmg (t:Adr) (vs:af) (H:Hp) (Q:VK) (_:XK):Prop
 | mk (pz a dl d_o d_r p d1 d2 dp do_:Addr) (n w h:Nat) (ns:ap) (ps:am) (st srt:ai) (so:bB) (ho:aI) (own:bQ) (rent:bN) (nm:Str) (e_:vs=[.ref pz,tW]) (r_:Pz t H pz a dl d_o d_r p d1 d2 n ns srt hU so ho own rent/\(aq,Dr t H a dp do_ w h ps st srt,lR,n<=500,ns.length<12,(aq,znG,nm∉ns,Fit hU ns so ho own rent,zfc,(zek,F5 H H' dl d_o d_r d1 d2,Pz t H' pz a dl d_o d_r p d1 d2 (n+30) pJ srt hU so' ho' own' rent',Fit hU pJ so' ho' own' rent'))))
theorem xra {t:Adr}{H:Hp}{Q E}{pz a dl d_o d_r p d1 d2 dp do_:Addr}{n w h:Nat}{ns:ap}{ps:am}{st srt:ai}{so:bB}{ho:aI}{own:bQ}{rent:bN}{nm:Str} (hh:Pz t H pz a dl d_o d_r p d1 d2 n ns srt hU so ho own rent/\Dr t H a dp do_ w h ps st srt/\lR/\n<=500/\ns.length<12/\znG/\nm∉ns/\Fit hU ns so ho own rent/\zfc /\
 (zek,F5 H H' dl d_o d_r d1 d2,Pz t H' pz a dl d_o d_r p d1 d2 (n+30) pJ srt hU so' ho' own' rent',Fit hU pJ so' ho' own' rent')):xmg t [.ref pz,tW] H Q E:=⟨pz,a,dl,d_o,d_r,p,d1,d2,dp,do_,n,w,h,ns,ps,st,srt,so,ho,own,rent,nm,rfl,hh⟩
theorem ok_ac (T:aF):FnOk true P w K mg base aD 7 t.f_ac t.d_ac jV (xmg t):=by
 refine T.F_ac.okn (k:=6) sc_ac (aJ h) (fun cdv A outer s H vs Q E hr h=>?_)
 .obtain ⟨pz,a,dl,d_o,d_r,p,d1,d2,dp,do_,n,w',h',ns,ps,st,srt,so,ho,own,rent,nm,rfl,_⟩:=h;rfl
 .obtain ⟨pz,a,dl,d_o,d_r,p,d1,d2,dp,do_,n,w',h',ns,ps,st,srt,so,ho,own,rent,nm,rfl,h⟩:=h;refine⟨_,xh (qV bi cF (CF (xa4 rfl (xaw (zs:=["side", "row"]) (ys:=["name", "self"]) (fr:=[1,0]) (N0:=zgB) (sc0:=xm s_ac) aG rfl rfl rfl) (xaj (xaf bi T.c_a T.m_l (ok_l T) aA T.b_l .nil xq fD)) zK B4 dR (o4 (xa (xal pH) (fX (xaf (XM,x8 (pv 3) rfl) T.c_a T.m_s (ok_s T) aA T.b_s .nil xq (kg 2 0 1))))))))
   (xh (qV bi cF (xo))
   (xh (pS 2 sc_ac.nd (xb1 fD))
   (xh (pS 3 sc_ac.nd (xex))
   (xh (pS 4 sc_ac.nd (xaf aM T.c_t T.m_aa (ok_aa T) aA T.b_aa .nil xq tH))
   (xh (xfz ZA (xcu (xet gz dw (x8 bi rfl))) (xh (xap (xek Jm Ys Yr xdq fH (fX (re (x8 bi rfl) dw))))
   (xl (pS 4 sc_ac.nd (xaf aM T.c_t T.m_aa (ok_aa T) aA T.b_aa .nil xq tH)))))
   (oz (xaf bi T.c_al T.m_o (ok_o T) aA T.b_o .nil xq (gm 3 4)))))))),?_⟩
  refine sq7 ?_; intros; obtain⟨z,dr,pok,n500,n12,⟨pt,ptin,pte⟩,⟨nnm,fit,⟨so2,ho2,mt2,all2⟩,q⟩⟩:47:=h;subst pte;have BIG:MF:=Rb;have w30:w'<=30:=gL dr.pic.w2
  show(cB,h16,h'<=16,gL dr.pic.h2,lo,MJ);have s32:DD:=Ga
  ext RJ;show(uY,dxa,hpic,dr.pic);show(ah,hf,xdo pok.nn ptin,pnm,(pok.ok pt ptin).nm);have elen:xad w' ps srt pt.nm=(WV).map (jQ s s znb):=by
   unfold xad;rw[hf]
  refine⟨pz,_,dx,_,_,rfl,wu hpz T.n_b0 lkZp ⟨a,dxa,_,rfl,hpic,bn,a,dp,do_,w',h',ps,st,pt,rfl,dr.pic,dr.sts,dr.ok,pnm,hf,fun H1 l1 srt' rs1 s1 fl1 pm1 lt1 e1 sl1=>?_⟩⟩;show(A7,srt',pm1.trans dr.pm.symm,lt1,dr.lt);have rl1:=sl1.len;show(qX,fl32,S5 WI,ZN rA s32,N2,xba Ly qu hl2 (uo,T9 WG) (fun _ _ _ _ tp ⟨q,qs,s,l,z1,z2,z3,z4⟩=>⟨124,q,qs,s,l,z1,jO z2,jO z3,z4⟩) (fun i x H2 hx s2 N hN=>?_) (fun ys H2 s2 e2 ly fy=>?_))
  .ext zO;show(ag,s,hs,hsq,sl1.get hqa);have sin:=dr.ok.2.2 s (dr.pm.mem_iff.mp (ZH.mp (Zj hs)).1);show(zoN,kL qa (dy hsq),(i6,H2,q3,iE ir,d9));ext qZ s3 hq3;show(ah,g3,ug_e eu,s03,(iz).trans s3);show(br,⟨pz,_,dx,_,_,rfl,(wu,s03 _ _ hpz,T.n_b0,lkZp,⟨a,dxa,_,rfl,s03 _ _ hpic,bn,a,dp,do_,w',h',ps,pt.nm,pt,ir,d9,rfl,Pic.same s03 dr.pic,pnm,hf,sin.1,sin.2,IF⟩)⟩,iF cS q5 hq5);show(jF,s5,Same H4 (i6,H4,q5,.ref q3,znb),TD,lJ ((Iq).trans s5) ⟨124,q5,q3,s,_,rfl,xk,cG (cm g3),by rw[elen,Zc,hs]; rfl⟩)
  rw[Za,rl1] at ly;show(we,lenl,WG,(WI).length,bW elen Za)
  obtain⟨prs,L,rfl,hprs,ep,eL,hL⟩:85:=xhm (tgt:=WG) (bW ly lenl) fy;refine(zI,l2,prs,e2,hprs,au dq hdq);have L1:(L.map (·.2.1))=xax sC pt.nm:=by
   have:L.map (·.2.1)=(L.map (·.2)).map (·.1):=eB Z4
   rw[this,eL];rfl
  have ll:L.length<=32:=by
   show(pq,uD eL,Za);omega
  have s3:Same H2 (i5 H2 dq []):=bM hdq;show(cc,H3,dps,e3,k3,xix (d:=dq) L (H:=i5 H2 dq []) (kvs:=[]) xk (BZ,fK (hL x hx)) (by rw[L1]; exact lo.nd _) hV jo);ext Wz H3 ep;rw[eL,List.nil_append] at e3;show(lI,s23,Same H2 H3,k3 _ _ (xi e hdq) (s3 _ _ e));have s03:gX H3:=(iz).trans s23;have fdq:bo dq:=(iz).free hdq;have z3:=z.same s03;show(cc,kl,hkl,lkl,fkl,z3.ln)
  show(dN,hz3,s03 _ _ hpz,⟨pz,_,dx,_,_,rfl,wu hz3 T.n_bz lkZl (ua,dl,yE pD hkl (BIG aa))⟩)
  -- the heap with the new lengths
  have k4:fP dl (ae,H3 c,u) (p5 H3 dl Vm):=Ao
  have e4:upd H3 dl Vm dl=(BD WB):=xk;have f4:∀ c,(tY H3 dl Vm c)->H3 c=none:=fun c e=>by
   by_cases y:c=dl
   .ext vy y xk
   .rw [xj y] at e; exact e
  revert k4 e4 f4;generalize gq H3 dl WB=H4;intro k4 e4 f4;have hz4:=k4 _ _ (ne_f hz3 hkl) hz3;show(aw,ow4,OwD H4 d_o ns own,k4 _ _ z.n3 z3.ow,⟨pz,_,dx,_,_,rfl,Ri hz4 (ua,d_o,yE pD ow4 qu)⟩);rw[xc1 _ (xfr inrI nnm)];have k5:fP d_o (ae,H4 c,u) (p5 H4 d_o (.dK L4)):=Ao
  have e5:OwD (gq H4 d_o L4) d_o sP Ol:=by
   unfold OwD;rw[xk,Zs]
   congr 3
   .refine JI yg;unfold setI;rw[ay (fun y:x=pt.nm=>nnm (cT y hx))]
   .show [((Ja pt.nm:Key),V.int 0)]=[(Ja pt.nm,V.int (setI own pt.nm 0 pt.nm))]
    unfold setI;rw[bY]
  have f5:∀ c,(tY H4 d_o (.dK L4) c)->H4 c=none:=fun c e=>by
   by_cases y:c=d_o
   .ext vy y xk
   .rw [xj y] at e; exact e
  revert k5 e5 f5;generalize gq H4 d_o L4=H5;intro k5 e5 f5
  -- the prices with the new one
  have rn3:=z3.rn;obtain⟨dx2,hp3⟩:=z3.sg.ins;show(ag,m1,hm1,g1,z3.sg.so)
  show(ag,m2,hm2,g2,z3.sg.ho)
  show(cB,k35,∀ c u,(bv,c≠dl,BX,(ae,H3 c,u),zbS),(zcO,k5 _ _ n2 (k4 _ _ n1 e)),ow3,z3.ow);unfold OwD at ow3;have tp35:Tups H3 H5:=(yX,k35 _ _ (ne_f e hkl) (ne_f e ow3) e);show(cB,hkl5,H5 dl=some (.dK WB),k5 _ _ (Z1 z.n3) e4,edq5,Gm e3 e3);have ndq:dq∉[d_r,d2]:=fun y=>by
   rcases dC y with y|y
   .rw [y,z.rn] at fdq; cases fdq
   .obtain ⟨m0,hm0,_⟩:62:=(z.sg.ho)
    rw[E0,hm0] at fdq;cases fdq
  have z5:Pz t H5 pz a dl d_o d_r p d1 d2 n sP srt' sC so ho Ol rent:=by
   refine⟨(lF,k5 _ _ (ne_f hz3 ow3) hz4),⟨⟨dx2,Gm hp3 hp3⟩,SoD.keep ⟨m1,hm1,g1⟩ tp35 (mM,k35 _ _ (Z1 z.n4) (Z1 z.n2) e),(S3,⟨m2,hm2,g2⟩,Gm hm2 e)⟩,e5,Gm rn3 rn3,bS _ hkl5 ?_ yg,z.n1,z.n2,z.n3,z.n4⟩
   .have:=xbu kl pD (.ref dq);rw[Zr,ZU];omega
   .rw [xcf];show(ij,x,pt.nm)
    .subst c;show(gF,dq,eG bY,edq5,ndq)
    .show(d8,(jP,c (Ja.inj y)));rcases Tu with hx|hx
     .obtain ⟨qq,q1,q2,q3⟩:63:=fkl x hx;show(gF,qq,q1,Gm q2 q2,q3)
     .exact absurd (Zp.mp hx) c
  have fr5:∀ c u,(bv,c≠dl,BX,tM,zbS):=(zcO,k35 _ _ n1 n2 (s03 _ _ e));have lnin:∀ x∈sP,∀ qq,(∃ kvs,H5 dl=some (.dK kvs)/\(Ia x)=(aC qq))->∃ u,(ae,H5 qq,u):=fun x hx qq ⟨kv,y1,y2⟩=>by
   show(LJ,kl5,hk5,f,z5.ln)
   show(tf,q',q1,q2,f x hx);ext bI hk5 y1 y1;ext bI q1 y2 y2;exact gD q2
  -- those who ask
  refine iF (gB leS1) la hla;show(zS,fw H5 la [hW],hla);refine au da hda;have nlda:la≠da:=xi g6 hda;show(Xb,i5 H6 da [],hda);show(ah,z7,z5.same (s6.trans s7),g67,oO g6);have NE:∀{c:Addr}{u:HO},(ae,H6 c,u)->c≠da:=fun {c u} e=>xi e hda;have ndr:da≠d_r:=Z1 (NE (dP z5.rn));have nd2:da≠d2:=by
   show(iy,m0,hm0,z5.sg.ho)
   exact Z1 (NE (dP hm0))
  have nln7:xe7 H7 dl da sP:=fun x hx qq ⟨kv,y1,y2⟩=>by
   show(iy,kl5,hk5,z5.ln)
   have y3:=oO (dP hk5);ext bI y1 y3 y3;obtain⟨u,hu⟩:=lnin x hx qq ⟨kv,hk5,y2⟩;exact NE (dP hu)
  show(ah,mt,fit.mt,dm,fit.dm);have sn:B3 pt.nm:=by
   show(pq,dm pt.nm,sJ nnm);ext Ef
  have nsl:Kz sP:=IC
  have gw0:Grow sC ns pt.nm so ho [pt.nm] [] fh Ol rent:=fit.grow lo nnm
  -- one step of asking
  have STEP:∀{crowd:ap}{al:ai}{asked:aI}{o1:bQ}{r1:bN},Grow sC ns pt.nm so ho crowd al asked o1 r1->(zaO sP)/\(aq crowd.Nodup al.Nodup (∀ s∈al,s∈srt') uQ zac):=fun {crowd al asked o1 r1} gw=>by
   show(bC,c1,zaO sP,b,hb,gw.bf.in_ mt dm hb);show(dN,c2,gw.bf.nodup mt sn,⟨46,c1,c2,gw.bf.nd,SB,gw.bf.ask,ZN (xh5 c2 c1) nsl⟩);ext zcc hs;obtain⟨_,_,_,_,_,e4⟩:84:=gw.bf.ak j s (oH hj ej);exact lo.ins _ _ e4
  obtain⟨c1,c2,c3,c4,c5,c6⟩:46:=STEP gw0;obtain⟨g0,b0,t0,nr0⟩:101:=gw0.nearest lo mt dm sn mt2 all2;have gp0:=gw0.gap lo mt dm nr0;show(sQ,dx7,hz7,z7.ins,⟨pz,dx7,_,rfl,hz7,xgi aG,?_⟩);ext Le;refine xou (crowd:=[pt.nm]) (al:=[]) (asked:=fh) ⟨47,z7,g67,g7,c5,c1,c2,⟨47,c3,c4,s32,nsl,ndr,lo.ins,(cL,nln7,nd2,nr0,Ho,fun H8 qs8 k8 hq8 z8 ak8=>?_)⟩⟩;ext zoD; show(ja,nlo,la,d_o,g67,z7.ow);show(ja,nlr,la,d_r,g67,z7.rn);show(iy,kl7,hk7,z7.ln)
  ext ja ndl dl da hk7 g7;ext ja ndla dl la hk7 g67;show(aw,ndlr,dl≠d_r,ne_f hk7 z7.rn,(dM,fun m Z H9=>(zeF,Z=zka/\(aq,(∀ c u,BX->(zhz (ae,H9 c,u))),(ae,H9 qs,tO s),(ae,H9 la,V4),AkD H9 da n6 GS,(zeo,Pz t H9 pz a dl d_o d_r p d1 d2 n sP srt' sC so ho (shO o1 crowd g) (shR r1 asked g),Grow sC ns pt.nm so ho crowd al asked o1 r1,m=zat))),(dk,_,[pt.nm],[],_,dk _ _ g0 b0 ⟨86,t0,qs8,rfl,fun c u n1 n2 n3 _ e=>k8 c u n1 n2 n3 e,hq8,k8 _ _ nlo nlr nlda g67,ak8,cL z8 gw0 LG nr0 rfl⟩)));rintro m Z H9 (⟨crowd,al,asked,o1,⟨r1,g,b,s,qs,rfl,k9,hqs,hl9,ak9,z9,gw,rc,nr,rfl⟩⟩:121);obtain⟨dx9,hz9⟩:=z9.ins;obtain⟨dx9p,hp9⟩:=z9.sg.ins;show(ah,dgH,z9.sg.ho.get hqs,gp,gw.gap lo mt dm nr);have nal:s∉al:=fun y=>by
   show(Af,(gw.bf.ask s).mpr y,gp.na)
  obtain⟨x1,x2,x3,x4,x5,x6⟩:46:=STEP gw;refine⟨pz,_,dx9,_,_,rfl,wu hz9 T.n_bx lkZs ⟨p,_,dx9p,_,_,rfl,hp9,T.c_al,T.n_bu,lkHo,d2,_,rfl,dgH,_,rfl,?_⟩⟩;cases hs:ho s with
  | some x =>
   rw[hs] at dgH;have gw2:=gw.more mt sn gp hs;obtain⟨y1,y2,y3,y4,y5,y6⟩:46:=STEP gw2;obtain⟨g2',b2,t2,nr2⟩:101:=gw2.nearest lo mt dm sn mt2 all2;have gp2:=gw2.gap lo mt dm nr2;refine ifP rfl (dM,(Bw,Bt zat (zeF,σ'=zka/\(aq,(∀ c u,BX->(zhz vk)),zbo,gR la V4,AkD H' da n6 GS,(zeo,Pz t H' pz a dl d_o d_r p d1 d2 n sP srt' sC so ho (shO o1 crowd g) (shR r1 asked g),Grow sC ns pt.nm so ho crowd al asked o1 r1,m'=zat)))),fun σ' H' y=>y);ext Hj; refine⟨vg hl9,pz,_,dx9,_,_,rfl,hz9,T.c_t,T.n_bx,lkZs,p,_,dx9p,_,_,rfl,hp9,T.c_al,T.n_bu,lkHo,d2,mK,rfl,dgH,la,_,_,rfl,rfl,hl9,qu,?_⟩;have k10:fP la (ae,H9 c,u) (p5 H9 la (.lst Th)):=Ao
   show(cB,g10,kZ H9 la (.lst Th) la (.lst ((R9).map V.str)),d4 xk Zs,z10,z9.keepL hl9 k10);have ak9':(ae,H9 da,(.dT ((n6).map (ao (jd,x0 z,(Ic b z).getD (Z3 "")))))):=ak9;have ak10:AkD (fw H9 la Th) da n6 GS:=k10 _ _ (Z1 nlda) ak9;revert k10 g10 z10 ak10;generalize fw H9 la Th=H10;intro k10 g10 z10 ak10;obtain⟨dx10,hz10⟩:=z10.ins;show(aw,nln10,xe7 H10 dl da sP,nln7.keep z7 (mM,k10 _ _ ndla (k9 _ _ (Z1 z.n3) ndlr ndl ndla e)),⟨pz,dx10,_,rfl,hz10,xgi aG,?_⟩);ext Le;refine xou (crowd:=R9) (al:=n6) ⟨47,z10,g10,ak10,y5,y1,y2,⟨47,y3,y4,s32,nsl,ndr,lo.ins,⟨45,nln10,nd2,nr2,(fun y=>by
    show(Af,(gw2.bf.ask t2).mpr y,gp2.na)),fun H11 qs11 k11 hq11 z11 ak11=>?_⟩⟩⟩
   show(gU,20-(R9).length,IC,(rQ,R9,n6,dk _ g2' b2 t2 ⟨66,qs11,rfl,fun c u n1 n2 n3 n4 e=>k11 _ _ n1 n2 n3 (k10 _ _ n4 (k9 _ _ n1 n2 n3 n4 e)),hq11,k11 _ _ nlo nlr nlda g10,ak11,(cL,z11,gw2,.step rc (a_go nr hs),nr2,rfl)⟩))
  | none =>
   rw[hs] at dgH;refine ifN rfl ?_;have ask2:∀ s',(fR (Ic b s'))↔s'∈n6:=fun s'=>by
    unfold Kp.upd1;ext ij s' s
    .ext kI c;show(aS,fun _=>Z6 _ (Zp.mpr c),pB)
    .rw [ue,gw.bf.ask s',Zy];show(aS,.inl,(jP,y.elim id (jP,absurd (Zp.mp y) c)))
   show(OF,gp.ac);show(cB,ea,aU crowd b,ID,chn,gw.bf.chain mt sn aa ea gp.rm nal);show(lz,⟨pz,_,dx9,_,_,rfl,wu hz9 T.n_bx lkZs ⟨p,dx9p,_,rfl,hp9,xk9 aG,p,d1,d2,da,qs,n,(n6).length,xax (xad w' ps srt'),so,ho,GS,fun zz=>crowd.idxOf zz,pt.nm,b,s,rfl,hqs,z9.sg,ak9.hod ask2,nd2,aa,mt,hs,VJ,chn,fun H12 so' ho' kb fr12 sg' mt' dm' rk=>?_⟩⟩,q H12 _ _ so' ho' _ s (fun c u n1 n2 n3 n4 n5 e=>?_) (z9.hand kb sg') (.step rc (xxn nr hs)) rk (gw.last lo mt sn dm x6 gp hs mt' dm' rk));show(ah,e5,fr5 _ _ n1 n2 e,e6,dP e5);exact kb _ _ n4 n5 (k9 _ _ n2 n3 (NE e6) (xi e5 hla) (oO e6))
theorem Run.none {room:j9}{ss:ai} (snd:ss.Nodup) (hr:V3) {ns:ap}{so:bB}{ho:aI}{cs:dG} (r:yG) (nd:ns.Nodup) {so2:bB}{ho2:aI} (mt2:Kp.Mt room so2 ho2) (all:∀ z∈ns,zcI):cs=[]:=by
 cases cs with
 | nil=>rfl
 | cons c r' =>
  obtain⟨so0,ho0,mt0,cr,sub⟩:83:=r.crowd nd c ig;show(zgT,cr.count mt0 snd hr,hr,all a (sub a ha))
theorem xpe {H:Hp}{ps:am}{so:bB}:∀{names:ap}{ys:af},(wm names.length)->(GU,∃ q s pt,ziX (ae,so pt.nm,s))->∃(prs:aE) (qs:ax),ys=qs.map V.ref/\lQ/\prs.map (·.1.nm)=names/\zjT
 | [],[],_,_=>⟨84,[],[],rfl,.nil,rfl,GK⟩
 | [],cM,h,_=>ft
 | cM,[],h,_=>ft
 | nm::names,mQ,h,f=>by
  obtain⟨q,s,pt,h1,h2,h3,rfl,h4⟩:105:=f 0 y rfl;obtain⟨prs,qs,e1,e2,e3,e4⟩:84:=xpe (names:=names) (ys:=ys) xB (fun i y hy=>by
   obtain⟨q,s,pt,a1,a2,a3,a4,a5⟩:105:=zlt;exact⟨105,q,s,pt,by simpa using a1,a2,a3,a4,a5⟩)
  show(mX,h1,nm,pt.nm,qw,⟨84,(pt,s)::prs,rM,eB e1,.cons h4 e2,by rw[Zo,e3,h1],kS⟩);rcases E3 with rfl|hp
  .exact ⟨h2,h3⟩
  .exact e4 p hp
inductive xto (t:Adr) (vs:af) (H:Hp) (Q:VK) (_:XK):Prop
 | mk (a ln dp do_:Addr) (w h:Nat) (ps:am) (st srt:ai) (names:ap) (e_:vU ln) (r_:Dr t H a dp do_ w h ps st srt/\lR/\F7/\XF/\names.Nodup/\xC/\(∃ so2 ho2,Kp.Mt Ev so2 ho2/\∀ z∈names,zcI)/\∀ H' tp lp d_o d_r qs prs own rent so' ho',bF->(va tp (qP,.ref lp,d_o,d_r))->(gR lp jS)->zbb->prs.map (·.1.nm)=names->(bc,(IT,aL∈ps,(ae,so' aV,bJ)),OwD H' d_o names own,RnD H' d_r srt rent,LRun hU names own rent so' ho',j3 (bo lp) (bo d_o) (bo d_r) (bo tp) tp))
theorem xhp (T:aF):FnOk true P w K mg base aD 9 t.f_least t.d_least pj (xto t):=by
 refine T.F_least.okn (k:=8) xfw (aJ h) (fun cdv A outer s H vs Q E hr h=>?_)
 .obtain ⟨a,ln,dp,do_,w',h',ps,st,srt,names,rfl,_⟩:=h;rfl
 .obtain ⟨a,ln,dp,do_,w',h',ps,st,srt,names,rfl,h⟩:=h;refine⟨_,xh (pS 2 xfw.nd (pC (xsi T) hr T.g_fits T.F_fits.kp T.b_fits pH))
   (xh (jI (S1 2) mI)
   (xh (zX 3 xfw.nd (xd7 T.k_t (ok_aw T) aA rfl T.g_t T.b_aw .nil xq zj))
   (xh (nE sW 4 xfw.nd (oz (xaf fJ T.c_t T.m_ac (ok_ac T) aA T.b_ac .nil xq (fc 4))))
   (xh (xcp rfl (xaw (zs:=["name"]) (ys:=["prices"]) (fr:=[3]) (N0:=zfz) (sc0:=xm xg4) aG rfl rfl rfl) sW jK jx dR (UF (re (XM,x8 (XM,x8 (pv 1) rfl) rfl) aM)) (j:=5) rfl ro)
   (sS (pX 5 (x8 (pv 3) rfl) (x8 (pv 3) rfl))))))),?_⟩
  refine sq6 ?_; intros; obtain⟨dr,pok,hln,nps,nnd,n12,⟨⟨so2,ho2,mt2,all2⟩,q⟩⟩:47:=h;show(znc,srt.Nodup);have hr:(zG,s∈xbe ps srt n,s∈srt):=fun n s hs=>by
   unfold xbe at hs;split at hs
   .exact rb hs
   .exact nomatch hs
  refine⟨a,ln,dp,do_,w',h',ps,st,srt,names,rfl,⟨46,dr,hln,nps,nnd,n12,fun H1 v cs so ho s1 run alt=>?_⟩⟩;show(oC,run.none snd hr nnd mt2 all2);obtain rfl:v=.non:=by
   rcases alt with⟨_,e⟩|⟨_,_,_,e,_⟩
   .exact e
   .cases e
  show(lz,EN az,bL pz dx hpz hdx ne);have s2:Same H1 (upd (qW H1 dx pz) pz (vW [])):=fun b u e=>by
   show(cq,om hpz,K2,e)
  show(NK,⟨pz,dx,a,dp,do_,w',h',ps,st,srt,sG,rfl,xk,rT s02,fun H2 dl d_o d_r p d1 d2 f1 f2 f3 f4 f5 f6 k2 z2=>tS⟩);ext uG; show(lI,s12,kP,k2 _ _ (xi e hpz) B9);have sH2:tT:=s1.trans s12;show(ah,g1,s02.free f1,g2,s02.free f2);show(ah,g3,s02.free f3,g5,s02.free f5);show(ah,g6,s02.free f6,hln2,sH2 _ _ hln);refine nK ln hln2
  let Pv (i:Nat) (Z:L2.St) (H3:Hp):Prop:=∃(v4 v5:b8) (so:bB) (ho:aI) (own:bQ) (rent:bN),(jc,Z,[dJ,nY,some .non,wb,v4,v5],gX H3,Pz t H3 pz a dl d_o d_r p d1 d2 (30*i) AL srt sG so ho own rent,LRun sG AL own rent so ho)
  show(zR,names.map V.str,?_,?_)
  .exact iM ⟨84,_,_,rfl,sH2,z2,.nil⟩
  .show(zir,H3,s3,fK hln)
  .rintro i x Z H3 hx (⟨v4,v5,so3,ho3,⟨own,rent,rfl,s3,z3,r3⟩⟩:121);ext EB nm hnm;ext nF hi ei hnm;have nin:nm∉AL:=fun y=>by
    have:=xc4 id (ps:=names) (aB YR nnd) hi nm y;exact this ei.symm
   have tk:names.take aY=AL++[nm]:=by
    rw[ZR,hnm];rfl
   show(sQ,dx3,hz3,z3.ins,⟨pz,dx3,_,rfl,hz3,xgi aG,?_⟩);ext Le;refine xra ⟨47,z3,dr.same s3,pok,aa,kQ Jl,zan,(bR,nin,r3.fit,(bK,so2,ho2,aB xfx mt2,fun zz hzz=>all2 zz (by rw[<- tk] at hzz; exact Wa hzz)),fun H4 own' rent' so' ho' asked s k4 z4 ra rk fit=>?_)⟩;refine dk _ _ so' ho' ⟨84,own',rent',rfl,(oA,k4 _ _ (xi e g1) (xi e g2) (xi e g3) (xi e g5) (xi e g6) (s3 _ _ e)),?_,?_⟩
   .rw [tk,Nat.mul_succ];exact z4
   .show(eE,tk,.snoc r3 ra rk fit)
  .rintro Z H3 (⟨v4,v5,so3,ho3,⟨own,rent,rfl,s3,z3,r3⟩⟩:121);rw[Za,Jf] at z3 r3;have hln3:=fK hln;obtain⟨dx3,hz3⟩:=z3.ins;obtain⟨dx3p,hp3⟩:=z3.sg.ins;show(dN,fit,r3.fit,gH ln hln3 l4 hl4);refine xba (aW hln3) np hl4 (uo,∃(q:Addr) (s:Seat) (pt:Pt),ziX (ae,so3 pt.nm,s)) (fun _ _ _ _ tp ⟨q,s,pt,x1,x2,x3,x4,x5⟩=>⟨105,q,s,pt,x1,x2,x3,x4,jO x5⟩) (fun i x H4 hx s4 N hN=>?_) (fun ys H4 s4 e4 ly fy=>?_)
   .ext znj;ext ku pt ptin zan;have sm:fR (so3 pt.nm):=(bW,fit.dm,decide_eq_true (Zj hnm))
    rcases (z3.sg.same s4).so.get pt.nm with⟨e0,_⟩|⟨c,qq,ec,dg,hqq⟩
    .ext zp e0 sm
    show(fT,gB leS1,p1,h1);show(Gv,fA H4 p1 [hW],h1);have dg5:DGet H5 d1 hW (aC qq):=by
     show(LJ,kk,hk,fk,(z3.sg.same s4).so);show(ag,q',a1,a2,(fk pt.nm).2 c ec);show(ah,g,BC pD (cG hk),g',BC pD hk);rcases dg with⟨kv,k,r1,r2,r3⟩|⟨kv,k,b,_,r2,_⟩
     .have e1:k=.inr pt.nm:=by
       cases k with
       | inl i=>cases r2
       | inr x=>show(Ft,Ja,(V.str.inj r2).symm)
      subst e1;rcases r1 with r1|⟨_,r1⟩
      .rw [hk] at r1;cases r1;ext aQ r3 g
      .ext zp hk r1
     .cases r2
    refine⟨pz,_,dx3,_,_,rfl,(wu,cG (cm hz3),T.n_bx,lkZs,⟨p,_,dx3p,_,_,rfl,cG (cm hp3),T.c_al,T.n_bw,lkSo,d1,.ref qq,rfl,dg5,p1,qq,_,_,rfl,rfl,cN g5,cN (cG hqq),aj,(G8,1+2),dF,fun _ p2 h2=>?_⟩)⟩;exact lJ (s5.trans (bM h2)) ⟨105,p2,c,pt,hnm,ptin,ec,rfl,xk⟩
   rw[Za] at ly;obtain⟨prs,qs,rfl,pl,en,al⟩:84:=xpe ly fy;have z4:=z3.same s4;show(sQ,dx4,hz4,z4.ins,⟨pz,_,dx4,_,_,rfl,Ri hz4 ⟨pz,_,dx4,_,_,rfl,hz4,T.c_t,T.n_b3,lkZr,tD,au tp htp⟩⟩);show(Gv,fA H4 tp (qP,.ref l4,d_o,d_r),htp);exact q H5 tp l4 d_o d_r qs prs own rent so3 ho3 ((Iq).trans s5) g5 Lq (pl.keep (Same.tups s5)) en al (cG z4.ow) (cG z4.rn) r3 (s3.free hl4) g2 g3 ((Iq).free htp)
theorem xch {K:Zd}{H:Hp}{l:Addr}{nms:ap} (e:aR l (.lst (nms.map V.str))):lK 1 pY (.lst (nms.map DV.str)):=.lst (SqL.of e) (bW Za Za) fun j x d h1 h2=>by
 show(TX,.str)
theorem xi4:∀ l:ap,pls (l.map DV.str)=true
 | []=>rfl
 | _::r=>by
  show (true&&pls (r.map DV.str))=true;rw[xi4 r];rfl
theorem xke (as bs:ap):(zF,dEq (.lst (as.map DV.str)) (.lst (bs.map DV.str)),as=bs):=xg9 (x:=as) (y:=bs) (xi4 as) (xi4 bs) (by
 constructor
 .intro h
  injection h with h
  exact List.map_inj_right (eP,a,b,by injection e) |>.mp h
 .intro h
  rw[h])
noncomputable def prS (p:Pr):Seat:=(i8,d6)
noncomputable def gvB (ss:ai) (names:ap) (prs:aE):Bool:=(dA MK)&&((dA ((Ih).Nodup))&&prs.all fun p=>Mq)
inductive xrh (t:Adr) (vs:af) (H:Hp) (Q:VK) (_:XK):Prop
 | mk (a ln lp dp do_:Addr) (w h:Nat) (ps:am) (st ss:ai) (names:ap) (prs:aE) (qs:ax) (e_:vs=(qP bb ln lp)) (r_:Dr t H a dp do_ w h ps st ss/\F7/\(G6 IO lQ sA (MK->∀ p∈prs,(aP,nO aV,Gj aV aL,1<=d6,d6<=iL)) Of))
theorem xqr {l:ai}:(l.map x0).Nodup↔l.Nodup:=by
 rw[Yx,ZW];constructor
 .intro h
  exact h.imp fun ne e=>ne FD
 .intro h
  exact Jt.imp (fun ne e=>ne (xee e)) h
theorem xtn {H:Hp}:∀{ys:af}{prs:aE},(wm prs.length)->(∀(i:Nat) y,ST->zga)->∃ qs:ax,ys=qs.map V.ref/\qs.length=prs.length/\(zoQ ((Ih).map x0) (aR q (.tup (ks.map kV)))):=by
 intro ys
 induction ys with
 | nil=>exact fun l _=>⟨[],rfl,l,fun i q ks h=>xN⟩
 | cons y ys ih =>
  intro prs l f;cases prs with
  | nil=>cases l
  | cons p prs =>
   obtain⟨qs,e,ql,k⟩:=ih (prs:=prs) (by simpa using l) (fun i y h=>by
    obtain⟨p',qa,a,b,c⟩:=f aY y xB;exact⟨p',qa,by simpa using a,b,c⟩)
   obtain⟨p',qa,a,b,c⟩:=f 0 y rfl;have a:p=p':=by simpa using a
   subst a b;refine⟨qa::qs,uc,cI ql,bL i q ks h1 h2⟩;cases i with
   | zero =>
    simp at h1 h2;subst h1 h2;exact c
   | succ j=>exact k j q ks qw Dj
theorem ok_bg (T:aF):FnOk true P w K mg base aD 6 t.f_bg t.d_bg U5 (xrh t):=by
 refine T.F_bg.okn (k:=5) sc_bg (aJ h) (fun cdv A outer s H vs Q E hr h=>?_)
 .obtain ⟨a,ln,lp,dp,do_,w',h',ps,st,ss,names,prs,qs,rfl,_⟩:=h;rfl
 .obtain ⟨a,ln,lp,dp,do_,w',h',ps,st,ss,names,prs,qs,rfl,h⟩:=h;refine⟨_,xh (jI (xae D1 (xa4 rfl (xaw (zs:=C1) (ys:=[]) (fr:=[]) (N0:=Mj) (sc0:=xm s_bg) aG rfl rfl rfl) Eo rY sw dR uU) cF dO) qO)
   (xh (xcp rfl (xaw (zs:=C1) (ys:=[]) (fr:=[]) (N0:=Mj) (sc0:=xm s_bg) aG rfl rfl rfl) Eo rY sw dR (o4 nT) (j:=3) rfl ro)
   (cC (xc2 (xcv xb5 (xnb (xbk hr) rfl rfl T.n_len rfl T.n_set (fc 3)) (lU 3) dO) (xei (xak (xof rfl) rfl T.n_all PyProof.Rows.Boot.«all» (fX (xa4 rfl (xaw (zs:=C1) (ys:=nG) (fr:=[0]) (N0:=Mj) (sc0:=xm s_bg) aG rfl rfl rfl) Eo rY sw dR (fun _ _ _ _ _=>xaf fJ T.c_a T.m_ab (ok_ab T) aA T.b_ab .nil xq (lH 0 nT))))))))),?_⟩
  refine sq3 ?_; intros; ext Au; obtain⟨dr,hln,hlp,pl,n12,ok,q⟩:47:=h;show(zeN,xba (aW hlp) qu hl1 (BF,∃ p,(aU prs p)/\y=.str aV) lL (fun i x H2 hx s2 N hN=>?_) (fun ys H2 s2 e2 ly fy=>?_))
  .ext Ge;ext Gq K0 vK
  have ey:ys=(DQ aV).map V.str:=by
   ext UB
  ext zfK
  .rw [xke] at c;have c:¬ MK:=jU
   have g:Of=false:=by
    unfold gvB;rw[decide_eq_false c];rfl
   rw[g] at q;exact q _ s2
  .rw [xke] at c;show(qX,c,MK,jU,gH lp hlp2 l3 hl3,xba (aW hlp2) qu hl3 (uo zga) (fun _ _ _ _ tp ⟨p,qa,z1,z2,z3⟩=>zmR) (fun i x H3 hx s3 N hN=>?_) (fun ys3 H3 s3 e3 ly3 fy3=>?_))
   .ext zeT
   rw[Za,qll] at ly3;show(cc,as,rfl,al,ak,xtn ly3 fy3);refine⟨106,l3,as,(Ih).map x0,rfl,aW e3,by rw[Za,Za,al],ak,aa,⟨84,l3,_,rfl,lW e3,rfl,?_⟩⟩;have nde:(dA (V.int (cQ,xdl ((Ih).map x0))=V.int (yt (as.map V.ref))))=decide ((Ih).Nodup):=by
    rw[Js,decide_eq_true_iff,decide_eq_true_iff,<- xqr,<- xm4,Za,Za,Za,al];constructor
    .intro h
     injection h with h
     omega
    .intro h
     rw[h]
   rw[nde];show(ah,s03,s2.trans s3,hlp3,fK hlp2);show(vT,ub nd nd)
   .have nd:=of_decide_eq_true nd;refine gH lp hlp3 l5 hl5;refine xba (aW hlp3) qu hl5 (BF,∃ p,(aU prs p)/\y=.bl Mq) lL (fun i x H4 hx s4 N hN=>?_) (fun ys5 H5 s5 e5 ly5 fy5=>?_)
    .ext Ge;show(j4,k1,k2,k3,k4,ok c p (Zj hp));show(ah,s04,Ra,dr4,dr.same s04);show(uY,dx,hpi,dr4.pic);show(lz,⟨qa,_,rfl,cN (s04 _ _ hpq),rfl,a,dx,_,rfl,hpi,bn,a,dp,do_,w',h',ps,st,aL,i8,d6,rfl,dr4.pic,dr4.sts,k1,k2,k3,k4,au H6 s6⟩,lJ s6 (dM p hp));have e:(mO (i8,d6) st)=decide (prS p∈ss):=by
      ext Hw Js decide_eq_true_iff;exact dr.pm.mem_iff.symm
     rw[e];rfl
    have ey5:ys5=(DQ Mq).map V.bl:=by
     show(XU,(by rw[ly5,Za,Za,qll]));show(ku,p,hp,fy5 i y hy);ext Ab hp
    rw[ey5] at e5;show(BY,l5,_,aW e5,?_);have g:Of=(DQ Mq).all id:=by
     unfold gvB;rw[decide_eq_true c,AQ nd,List.all_map];rfl
    show(kh,g,q _ P8)
   .have g:Of=false:=by
     unfold gvB;rw[Jb.mpr nd];simp
    rw[g] at q;exact q _ s03
theorem xo3 {a b c:Seat} (h:xb3 a b) (k:xb3 b c):xb3 a c:=by
 unfold xb3 at *;rcases h with⟨h1,h2⟩|⟨h1,h2⟩<;>rcases k with⟨k1,k2⟩|⟨k1,k2⟩
 .ext Ch h1 k2
 .show(Ch,h1,cT k1 h2)
 .show(Ch,aB h1 k1,k2)
 .show(fU,(zy,h1.trans k1))
theorem xnz {a b:Seat} (h:a≠b):xb3 a b\/xb3 b a:=by
 obtain⟨a1,a2⟩:=a;obtain⟨b1,b2⟩:=b;unfold xb3;cases a1<;>cases b1
 .have:a2≠b2:=fun e=>h FD;rcases zno with z|z
  .show(Ew,cp z)
  .show(S4,cp z)
 .exact .inr (.inl nS)
 .ext I0 nS
 .have:a2≠b2:=fun e=>h FD;rcases zno with z|z
  .show(Ew,cp z)
  .show(S4,cp z)
theorem xh6:∀{ss:ai}{x:Seat},ss.Pairwise xb3->x∉ss->∃ srt:ai,srt.Perm (x::ss)/\Oi
 | [],x,_,_=>⟨[x],Bl,List.pairwise_singleton _ _⟩
 | y::r,x,h,nx=>by
  rw[Yc] at h;rw[Zt,not_or] at nx;by_cases c:xb3 x y
  .refine ⟨x::y::r,Bl,Yc.mpr ⟨ye,Yc.mpr h⟩⟩;rcases dC hz with rfl|hz
   .exact c
   .exact xo3 c (h.1 z hz)
  .show(hX,srt,pm,lt,xh6 h.2 nx.2);show(gU,y::srt,(pm.cons y).trans (JG.swap _ _ _),Yc.mpr ⟨ye,lt⟩);rcases XQ hz with rfl|hz
   .exact (xnz nx.1).resolve_left c
   .exact h.1 z hz
theorem xgm:∀{st:ai},st.Nodup->∃ srt:ai,srt.Perm st/\Oi
 | [],_=>⟨[],LG,.nil⟩
 | x::r,h=>by
  obtain⟨h1,h2⟩:=ZC.mp h;show(ag,s1,p1,l1,xgm h2);show(ag,s2,p2,l2,xh6 l1 (ao,h1 (p1.mem_iff.mp z)));show(aH,s2,p2.trans (JG.cons _ p1),l2)
theorem xsy {c s:Int} (h:s∈xen) {n:Nat} (hn:n<=12):((Zu n).map (wc,k,ltr ((c+s*i7) % 26))).Nodup:=by
 rw[Jn,ZW];refine Jt.imp_of_mem (fun {i j} hi hj hij e=>?_) (List.pairwise_lt_range (n:=n));rw[ZG] at hi hj;have e':=xsw (yx).1 (yx).1 e;have hj':j<12:=aa
 show(DU,d,∃ d,j=i+d,j-i)
 have hd:0<d/\d<12:=aa
 have hs:∀ z∈xen,z=1\/(LV 3 5 (LV 7 9 (LV 11 15 (LV 17 19 (LV,21,23,z=25))))):=az
 rw[Int.natCast_add,Int.mul_add] at e';rcases hs s h with rfl|rfl|rfl|rfl|rfl|rfl|rfl|rfl|rfl|rfl|rfl|rfl<;>omega
theorem xuv (m:Int):(zfj,zcL,V.str "right"):=by
 ext zeu
 rcases this with e|e|e|e<;>rw[e]
 .exact eX "left" gg
 .ext MN
 .ext znh
 .ext MN
inductive xty (K:Zd) (t:Adr) (vs:af) (H:Hp) (Q:VK) (_:XK):Prop
 | mk (sc:Addr) (ns:df) (e_:vs=[.ref sc]) (r_:SqL K H sc HU/\∀(H':Hp) (a dp do_:Addr) (w h:Nat) (ps:am) (st ss:ai),(vN,bF,Dr t H' a dp do_ w h ps st ss,lR,a))
theorem ok_z (T:aF):FnOk true P w K mg base aD 6 t.f_z t.d_z Ai (xty K t):=by
 refine T.F_z.okn (k:=5) sc_z (aJ h) (fun cdv A outer s H vs Q E hr h=>?_)
 .ext wX sc ns
 .ext xH sc ns;refine⟨_,xh (Ez (pC (ok_bm T) hr T.g_bm T.F_bm.kp T.b_bm (fX (pC tU hr T.g_af T.F_af.kp T.b_af qL))) (gG 1 sc_z.nd 2))
   (xh (nW 3 (xak (xp4 rfl) rfl T.n_min boot_min (xa (xo) nT)))
   (xh (nW 4 (xu xa9 (xo) (je xaz (wn (pC tU hr T.g_af T.F_af.kp T.b_af qL)) 3)))
   (xh (nW 5 (pC (ok_bh T) hr T.g_bh T.F_bh.kp T.b_bh (xa (pC tU hr T.g_af T.F_af.kp T.b_af qL) (fc 4))))
   (xh (nW 6 (pC (ok_ay T) hr T.g_ay T.F_ay.kp T.b_ay (xa (pC tU hr T.g_af T.F_af.kp T.b_af qL) (gm 1 4))))
   (xh (nW 7 (pC (ok_ay T) hr T.g_ay T.F_ay.kp T.b_ay (xa (wn (pC tU hr T.g_af T.F_af.kp T.b_af qL)) (gm 2 4))))
   (xh (nW 8 (xd7 T.k_a (ok_au T) aA rfl T.g_a T.b_au .nil xq nT))
   (xh (xbg ZA rfl (xdn rfl T.n_range (fc 4)) (pN 9 sc_z.nd) (xh (nW 10 (pC (ok_bi T) hr T.g_bi T.F_bi.kp T.b_bi (xa (pC tU hr T.g_af T.F_af.kp T.b_af qL) (fc 9))))
   (xh (nW 11 (xu xa9 (xo) (je xaz (wn (pv 10)) 2)))
   (xh (nW 12 (xu xa9 (pv 11) (vO (pv 10) (je xd6 (xu xa9 fH (xo)) 11))))
   (xh (xb6 (xao (Hf (pv 10)) (xh (nW 11 (xo))
   (xl (pS 12 sc_z.nd (pv 2)))) (xab)))
   (oz (xaf (pv 8) T.c_a T.m_b (ok_b T) aA T.b_b .nil xq (o7 (iQ 5 (pv 9)) (iQ 6 (pv 9)) (o7 (iQ 7 (pv 9)) (xac xay ziv (oh (wn (pv 10))) hV) (o7 (pv 11) (pv 12) (xg)))))))))))
   (xh (nW 13 (xu xa9 (xo) (oh (pC tU hr T.g_af T.F_af.kp T.b_af qL))))
   (xh (xbg ZA rfl (xjn rfl T.n_range (gP (xo) (xu xa9 fH (xo)))) (pN 14 sc_z.nd) (xl (xbg ZA rfl znC (pN 15 sc_z.nd) (xh (nW 16 (xu xa9 (je xdv (xo) 14) (xbn xoc rfl T.n_int boot_int (fX (xcv xb5 (pv 15) (xa6) dO)))))
   (xh (nW 17 (xcv xfv (oh (pC (ok_bi T) hr T.g_bi T.F_bi.kp T.b_bi (xa (pC tU hr T.g_af T.F_af.kp T.b_af qL) (fc 16)))) (pv 13) dO))
   (xh (Bb (Hf (pC tU hr T.g_af T.F_af.kp T.b_af qL)) (xl (pS 17 sc_z.nd (xcv xb5 (xu xv8 (je xu8 (pC tU hr T.g_af T.F_af.kp T.b_af qL) 16) (xo)) (xo) dO))))
   (xl (xb6 (jI (xbf (pv 17)) (oz (xaf (pv 8) T.c_a T.m_j (ok_j T) aA T.b_j .nil xq (gm 15 14))))))))))))
   (tt 8)))))))))),?_⟩
  refine sq11 ?_; intros; ext gK hs h;refine yV 0 (mz,hs,fun c0=>(eX,c0,fun w ph H1 p1 w1 w2 h1 h2 s1 hp1=>kL p1 hp1));show(dN,s2,s1,(Iy,bL m m1 m2 m3 mo));show(aw,mp,1<=m,by rcases mo with rfl|rfl|rfl<;>omega,yV 1 (mz,s2.seqL hs,fun c1'=>dM fQ (vD 0 m)));have bm:=xbd (c1' / 8) (eS,0<m);obtain⟨n,hn⟩:∃ n:Nat,N8=iK:=(zy,(N8).toNat)
  show(aw,n1,rO n iK m,aa,yV 1 (mz,s2.seqL hs,fun c1b=>⟨c1b,n,(Po [V.int c1b,Tl]),aa,fun st H2 ln ms s3 hln=>?_⟩));show(br,yV 2 (mz,(RC).seqL hs,fun c2=>⟨c2,w,n,(Po [V.int c2,V.int w,Tl]),aa,aa,fun xs H3 lx lx2 ndx bx s4 hlx=>?_⟩),yV 2 (mz,((RC).trans s4).seqL hs,fun c2b=>⟨fQ,c2b / 7,ph,n,(Po [V.int (c2b / 7),V.int ph,Tl]),aa,aa,fun ys H4 ly ly2 ndy by_ s5 hly=>?_⟩));show(zfl,⟨46,xk,aa,aa,aa,aa,fun H5 dp do_ hdp5 hdo5 s6 pic5 hdt5=>tS⟩,Same H4 H5);have s14:gX H4:=((RC).trans s4).trans s5;have fr:∀ z,(tY (qW H4 dx a) a zbI z)->(bo z):=fun z hz=>by
   cases e:H z with
   | none=>rfl
   | some u =>
    have e4:=s14 _ _ e;rw[oG e4 hx,oG e4 hdx,e4] at hz;cases hz
  show(ah,fdp,fr _ hdp5,fdo,fr _ hdo5);have sAll:Lx:=s14.trans k5;obtain⟨nms,hnms⟩:∃ nms:ap,nms=(Zu n).map (wc,k,ltr ((c1b+st*i7) % 26)):=ju
  have ln2:nms.length=n:=jr hnms
  have ndn:nms.Nodup:=(aB,hnms,xsy ms aa)
  have isn:∀ z∈nms,(nO z):=fun z hz=>by
   rw[hnms] at hz;show(Bc,k,rfl,Zg.mp hz);exact xqh (yx).1 (yx).2
  have hln':rg ln Nu:=by
   rw[hln,hnms,Z4];rfl
  refine ib iK (Po [Tl]) aa aa ?_;refine xc7 (Pv:=fun i Z H6=>∃(v9 v10 v11 v12 v13 v14 v15 v16 v17:b8) (ps:am),Z=[wa,Cb,BT,bz m,Lw,nY,LE,LF,dJ,v9,v10,v11,v12,v13,v14,v15,v16,v17]/\(gX H6)/\(ae,H6 ln,Nu)/\(ae,H6 lx,.lst (xs.map V.int))/\(ae,H6 ly,.lst (ys.map V.int)) /\
   Pic t H6 a dp do_ w ph ps/\H6 do_=some (.dT [])/\ps.length=i/\ps.map (·.nm)=nms.take i/\ps.map (·.x)=xs.take i/\ps.map (·.y)=ys.take i/\(∀ p∈ps,PtOk w ph p)) ?_ ?_ ?_
  .exact (iM,iM ⟨86,_,[],rfl,sAll,k5 _ _ (cG (cm hln')),k5 _ _ (cG hlx),k5 _ _ hly,⟨47,pic5,hdt5,rfl,rfl,rfl,rfl,dS (nomatch hp)⟩⟩)
  .rintro i Z H6 hi (⟨v9,v10,v11,v12,⟨v13,v14,v15,v16,v17,ps,rfl,s7,g1,g2,g3,pic6,hdt6,pl,pn,px,py,pok⟩⟩:121);ext znS; have hi':dQ:=GQ
   obtain⟨dx6,hp6⟩:=pic6.ins;show(br,yV 3 (mz,s7.seqL hs,fun c3=>(mG,c3,0+cH,aK m0 m00 m01)),dM fQ (vD 0 ph));have b1:=xbd (m0 / 6) (eS,0<ph);show(im,fQ,(vD,0,ph+1-GN));have b2:=xbd (m0 / 128) (eS,0<ph+1-GN)
   let Pm (Z:L2.St) (H7:Hp):Prop:=H6=H7/\∃ lo hi:Int,(aP,1<=lo,lo<=hi,hi<=ph,Z=[wa,Cb,BT,bz m,Lw,nY,LE,LF,dJ,bz (0+cH),bz m0,bz lo,bz hi,v13,v14,v15,v16,v17])
   ext BB
   .ext lN; refine D3 2 Te
    .ext Hj; show(aS,rfl,⟨84,1,ph,aa,aa,aa,rfl⟩)
    .exact cp ⟨84,GN,GN+m0 / 128 % (ph+1-GN),aa,aa,aa,rfl⟩
   rintro _ _ ⟨rfl,lo,hi,lo1,lohi,hih,rfl⟩;have at_:∀{α:Type} (zs:bZ) (f:α->V) (hz:zs.length=n),atI (zs.map f) (0+cH)=some (f (zs[i]' aa)):=fun {α} zs f hz=>by
    ext On Cy
   show(ag,sd,esd,hsd,xuv (m0 / 2));have mem_:∀ p∈ps,p.nm≠nms[i]' aa/\p.x≠xs[i]' aa/\p.y≠ys[i]' aa:=fun p hp=>by
    have no:(zki,zs.Nodup->∀ z∈zs.take i,z≠zs[i]):=fun {α}{zs} hz nd z hm e=>by
     show(h9,h1,Yf i zs,JK hz);rw[<- h1,ZP] at nd;exact (kE).2 z hm _ Zm e
    refine⟨no _ ndn _ ?_,no _ ndx _ ?_,no _ ndy _ ?_⟩
    .ext OD pn
    .ext OD px
    .ext OD py
   show(wE,bxi,bx (xs[i]' aa) (J9 _),byi,by_ (ys[i]' aa) (J9 _),⟨a,dx6,_,rfl,hp6,bn,ln,_,_,_,rfl,rfl,aW g1,at_ nms V.str ln2,lx,_,_,_,rfl,rfl,aW g2,at_ xs V.int lx2,ly,_,_,_,rfl,rfl,aW g3,at_ ys V.int ly2,(gB leS4),Ru⟩);show(aw,s8,Same H6 (fw H6 q3 [RF,D8,Rc,D8]),bM hq3,⟨fQ,(jW 4),q3,_,_,Fj,rfl,rfl,aW xk,esd,?_⟩);refine⟨a,dp,do_,w,ph,ps,nms[i]' aa,xs[i]' aa,ys[i]' aa,sd,lo,hi,on,rfl,⟨47,Pic.same s8 pic6,BA,isn _ (J9 _),bxi.1,bxi.2,byi.1,⟨47,byi.2,hsd,lo1,lohi,hih,mem_,⟨aa,aK H7 k7 pic7⟩⟩⟩⟩;show(iy,kvs,hk,pic6.pl)
   have tk:(zki,zs.take aY=zs.take i++[zs[i]]):=fun {α}{zs} hz=>by
    rw[ZR,Zb hz];rfl
   refine(iM,iM ⟨86,_,_,rfl,(oA,k7 b u (xi e fdp) (qp (s7 b u e))),Oc g1,Oc g2,Oc g3,⟨47,pic7,Oc hdt6,cI pl,?_,?_,?_,kS⟩⟩)
   .rw [Zs,pn,tk aa]; rfl
   .rw [Zs,px,tk aa]; rfl
   .rw [Zs,py,tk aa]; rfl
   .rcases Zy.mp hp with z|z
    .exact pok p z
    .rw [E7];exact⟨isn _ (J9 _),bxi.1,bxi.2,byi.1,byi.2,hsd,lo1,lohi,hih⟩
  .rintro Z H6 (⟨v9,v10,v11,v12,⟨v13,v14,v15,v16,v17,ps,rfl,s7,g1,g2,g3,pic6,hdt6,pl,pn,px,py,pok⟩⟩:121);have pl':ps.length=n:=by simpa using pl
   have tkn:∀{α:Type}{zs:bZ},zs.length=n->zs.take ((iK).toNat)=zs:=fun {α}{zs} hz=>by
    rw[Jr aa]
   rw[tkn ln2] at pn;rw[tkn lx2] at px;rw[tkn ly2] at py;refine yV 4 (mz,s7.seqL hs,fun c4=>fE (jW 5));ext uG; refine(fG,1,ph+1,GX,?_);refine xc7 (Pv:=fun j Z H7=>∃(v14 v15 v16 v17:b8) (st:ai),Z=[wa,Cb,BT,bz m,Lw,nY,LE,LF,dJ,v9,v10,v11,v12,Xu,v14,v15,v16,v17]/\(gX H7)/\(ae,H7 ln,Nu)/\(ae,H7 lx,.lst (xs.map V.int))/\(ae,H7 ly,.lst (ys.map V.int)) /\
    (aP,Pic t H7 a dp do_ w ph ps,Sts H7 do_ st,st.length<=2*j,∀ s∈st,(rO d9 d9 um))) ?_ ?_ ?_
   .exact iM ⟨66,[],rfl,s7,g1,g2,g3,(bR,pic6,ib [] hdt6 rfl YD az,bu,h7 (nomatch hs))⟩
   .rintro j Z H7 hj (⟨v14,v15,v16,v17,⟨st,rfl,s7',g1',g2',g3',pic7,st7,sl7,sb7⟩⟩:121);ext zoC; show(aw,hj',um<ph,aa,iF cS le hle);generalize eu:fw H7 le UJ=H8;ext oW s8 hle g8;refine nK le g8;refine xbr (xs:=UJ) (Pv:=fun i Z H9=>∃(v15 v16 v17:b8) (st:ai),Z=[wa,Cb,BT,bz m,Lw,nY,LE,LF,dJ,v9,v10,v11,v12,Xu,bz jM,v15,v16,v17]/\(gX H9)/\(ae,H9 ln,Nu)/\(ae,H9 lx,.lst (xs.map V.int))/\(ae,H9 ly,.lst (ys.map V.int))/\H9 le=some (.lst UJ) /\
     (aP,Pic t H9 a dp do_ w ph ps,Sts H9 do_ st,st.length<=2*j+i,zgx i)) ?_ ?_ ?_ ?_
    .exact ⟨126,_,_,_,st,rfl,s7'.trans s8,qp g1',qp g2',qp g3',(cL,g8,Pic.same s8 pic7,st7.same s8,sl7,h7 ⟨(sb7 s hs).1,.inl (sb7 s hs).2⟩)⟩
    .rintro i Z H9 _ (⟨_,_,_,st,rfl,_,_,_,_,⟨e9,_⟩⟩:126);ext zr e9
    .rintro i x Z H9 hx (⟨v15,v16,v17,st,rfl,s9,e1,e2,e3,⟨e9,pic9,st9,sl9,sb9⟩⟩:126);ext znR; have hi:i<2:=by
      show(zq,h8 hx)
     obtain⟨sb,esb,isb⟩:∃ sb:Bool,x=(iE sb)/\(HH sb)=i:=by
      have:i=0\/i=1:=aa
      rcases this with e|e<;>subst e
      .exact dH true GY
      .exact dH false GY
     subst esb;obtain⟨dx9,hp9⟩:=pic9.ins;have up:zgx aY:=fun s hs=>⟨(sb9 s hs).1,by
      rcases (sb9 s hs).2 with z|⟨z1,z2⟩
      .ext eD z
      .show(qY,z1,Nat.lt_succ_of_lt z2)⟩
     refine(eX,.inl fQ,.inr yM);obtain⟨pl,hpl,pl0⟩:∃ pl:Int,pl=zgf/\0<=pl:=cA SN
     show(br,Wq c5 (mG,c5,_,fun mm _ _=>?_),fE (jW 6))
     let Pm (Z:L2.St) (H10:Hp):Prop:=H9=H10/\∃(v16:b8) (op:Bool),Z=[wa,Cb,BT,bz m,Lw,nY,LE,LF,dJ,v9,v10,v11,v12,Xu,bz jM,some (iE sb),v16,some (.bl op)]
     ext BB
     .ext lN; refine(Wq,c6,D3 4 Te)
      .refine (Wq,c7,dM (by show lE<=zgf; ext kh hpl pl0) rfl);exact zdS _
      .exact zdS _
     rintro _ _ ⟨rfl,v16',op,rfl⟩;refine(cD,?_,qS z);ext lN; show(vT,FW y (jP ⟨126,_,_,_,st,rfl,s9,e1,e2,e3,cL e9 pic9 st9 aa up⟩));have nin:(sb,jM)∉st:=fun hm=>by
      rcases (sb9 _ hm).2 with z|⟨_,z⟩
      .have z:jM<=um:=z;omega
      .have z:(HH sb)<i:=z;omega
     ext mZ ko hko st9;show(br,⟨a,dx9,_,rfl,hp9,bn,a,dp,do_,w,ph,ps,st,sb,jM,rfl,pic9,st9,aa,aa,nin,aa,b9 H10 k10 pc10 st10⟩,⟨126,_,_,_,st++[(sb,jM)],rfl,(zu,k10 _ _ (xi e fdo) (s9 _ _ e)),OX e1,OX e2,OX e3,(cL,OX e9,pc10,st10,IC,SB)⟩);rcases Zy.mp hs with z|z
     .exact up s z
     .rw [E7];show(aS,(vx,rE<=jM),.inr (cp,vD (HH sb) aY))
    .rintro Z H9 (⟨v15,v16,v17,st,rfl,s9,e1,e2,e3,⟨e9,pic9,st9,sl9,sb9⟩⟩:126);refine iM ⟨66,st,rfl,s9,e1,e2,e3,(bR,pic9,st9,?_,h7 (fE,(sb9 s hs).1))⟩
     .have sl9:st.length<=2*j+2:=sl9;omega
     .rcases (sb9 s hs).2 with z|⟨z,_⟩<;>omega
   .rintro Z H7 (⟨v14,v15,v16,v17,⟨st,rfl,s7',g1',g2',g3',pic7,st7,sl7,sb7⟩⟩:121);show(dZ,w',Jx (eS,0<=w));show(dZ,h',Jx (eS,0<=ph));have nds:st.Nodup:=zx st7.choose_spec;have l32:st.length<=32:=(bX st7.choose_spec).2;show(ag,srt,pm,lt,xgm nds);refine (q H7 a dp do_ w' h' ps st srt s7' ⟨pic7,st7,⟨nds,l32,h7 (fE,(sb7 s hs).1)⟩,pm,lt,(dS,(pok p hp).nm)⟩ ⟨pok,aB pn ndn,aB px ndx,aB py ndy,aa⟩);show(cW,(sb7 s hs).2)
inductive xkc (K:Zd) (vs:af) (H:Hp) (Q:VK) (_:XK):Prop
 | mk (a:Addr) (ns:df) (e_:wG) (r_:PP/\ns.length<=63/\∀ H',Q (.bl true) H')
theorem xmc {ps:am}{w h:Int}{ss:ai}{prs:aE} (nx:(ps.map (·.x)).Nodup) (g:DB):∀ k,(sD).map (·.1)=prs.map (·.1)/\((sD).map (·.2)).Perm (prs.map (·.2))/\totI w sD<=sV
 | 0=>(FV,Bl,YS _)
 | cJ=>by
  show(iW,i1,i2,i3,xmc (ss:=ss) nx g k);have gk:=WT;show (AH).map (·.1)=_/\((AH).map (·.2)).Perm _/\totI w AH<=_;cases e:zpe with
  | none =>
   have en:AH=sD:=by
    unfold nxtP;rw[e]
   rw[en];ext aH i1 i2 i3
  | some tr =>
   obtain⟨A,p1,B,p2,⟨C,c,e0,hc,et,ne,en,el,g',dec⟩⟩:121:=xld nx gk e;show(im,?_,?_)
   .rw [<- i1,el,e0];simp
   .refine JG.trans ?_ i2;rw[el,e0];simp only[Zs,Zo];refine JG.append_left _ ?_;exact ((Qh.cons p2.2).trans (JG.swap _ _ _)).trans (Qh.symm.cons p1.2)
   .rcases dec with z|⟨_,z,_⟩<;>omega
theorem xh9 {ps:am}{i:Nat}{p:Pt} (h:aU ps p):x9 (ps.take aY)=x9 (ps.take i)++[p.nm]:=by
 unfold x9;rw[ZR,h,Zs];rfl
noncomputable def LwD (H:Hp) (d:Addr) (names:ap) (lens:bU):Prop:=LnD H d [] names lens
theorem LwD.same {H H':Hp}{d:Addr}{names:ap}{lens:bU} (z:LwD H d names lens) (s:bF):LwD H' d names lens:=let ⟨kvs,e,l,f⟩:=z; zeG
theorem LwD.get {H:Hp}{d:Addr}{names:ap}{lens:bU} (z:LwD H d names lens) {nm:Str} (h:nm∈names):∃ q,DGet H d tW Cg/\ziw:=by
 ext LJ kvs e f z;show(tf,q,e1,e2,f nm h);show(h9,g,Ci nm e,e1);ext aH q g e2
noncomputable def xc0 (xs:sI) (s:Seat):jt:=(xs.find? fun x=>eJ ba s).map (·.2)
theorem xja:∀(xs:sI) (s:Seat),valV (LnT xs) d7=(Td).map V.int
 | [],_=>rfl
 | p8,s=>by
  show valV ((x0 ba,V.int cX)::LnT xs) (x0 s)=_;unfold xc0;ext ij ba s
  .rw [xbq (eG c),JV jU];rfl
  .rw [xbh (ao,c (xdu _ _ z)),Qa jU];exact xja xs s
theorem xfs {xs:sI}{s:Seat}:(Td).isSome=decide (s∈xs.map (·.1)):=by
 unfold xc0;rw[Y9,Js,List.find?_isSome,decide_eq_true_iff,Zg];constructor
 .ext Bd x h1 h2;show(aH,x,h1,xF h2)
 .ext Bd x h1 h2;show(aH,x,h1,AQ h2)
theorem xe5 {xs:sI}{s:Seat}{l:Int} (h:ae Td l):CC∈xs:=by
 unfold xc0 at h;show(ag,x,h1,h2,Ze.mp h);have h3:=Qr h1;have h3:ba=s:=xF h3;rw[<- h3,<- h2];exact Z7 h1
inductive xvz (t:Adr) (vs:af) (H:Hp) (Q:VK) (_:XK):Prop
 | mk (a dp do_:Addr) (w h:Nat) (ps:am) (st srt:ai) (e_:wG) (r_:Dr t H a dp do_ w h ps st srt/\lR/\∀ H' d,(vN,bF,bo d,LwD H' d eC hU,d))
theorem ok_ak (T:aF):FnOk true P w K mg base aD 4 t.f_ak t.d_ak ["_law_picture_here"] (xvz t):=by
 refine T.F_ak.okn (k:=3) sc_ak (aJ h) (fun cdv A outer s H vs Q E hr h=>?_)
 .obtain ⟨a,dp,do_,w',h',ps,st,srt,rfl,_⟩:=h;rfl
 .obtain ⟨a,dp,do_,w',h',ps,st,srt,rfl,h⟩:=h;refine⟨_,xh (pS 1 sc_ak.nd (xe0))
   (xh (xbg ZA rfl (xaj (xah aM T.c_a T.m_h Cd aA T.b_h .nil xq)) (xar rfl (AC 2 sc_ak.nd 3 (AC 4 sc_ak.nd 5 (gG 6 sc_ak.nd 7)))) (xh (qV cF fH (xex))
   (xl (xbg ZA rfl (xaj (xah aM T.c_a T.m_n FG aA T.b_n .nil xq)) (xar rfl (gG 8 sc_ak.nd 9)) (xl (xb6 (xao (PW.pt (xeg (xae xji (pv 5) (xb1 (xa (xa6) (fc 8))) jz) (xds (xqs xgs xgs jL (pv 9) (pv 7))))) (xh (pS 10 sc_ak.nd (pv 3))
   (xh (Bb (pK xb5 8 (xa6)) (xl (pS 10 sc_ak.nd (je xd6 AF 3))))
   (xl (qV (A6 1 fH) (xal (gm 8 9)) (je xa9 (UI dw 9) 10))))) (xab))))))))
   (tt 1)),?_⟩
  refine sq3 ?_; intros; ext oE dr pok;have BIG:MF:=Rb;show(cB,s32,DD,Ga,ple,pok.le);refine SR;generalize eu:gq H d []=H1;ext qZ s1 hd;show(ah,g1,ug_e eu,dr1,dr.same s1);show(uY,dx,hpi,dr1.pic);show(br,⟨a,dx,_,rfl,hpi,bn,a,dp,do_,w',h',ps,rfl,dr1.pic,fun H2 lp qs s2 e2 pt2=>?_⟩,nK lp e2);ext ja nld lp d e2 E6;show(zH,pll,pt2.len,xbr (xs:=xO) (Pv:=(fL,Z,H3,∃(v2 v3 v4 v5 v6 v7 v8 v9 v10:b8),(bT,Z,[dJ,rq,v2,v3,v4,v5,v6,v7,v8,v9,v10],(fP d (ae,H2 c,u) (ae,H3 c,u)),LwD H3 d (x9 (ps.take i)) sG))) ?_ ?_ ?_ ?_)
  .exact (iM,iM (gT,_,zaR,bS [] E6 bu GK))
  .show(zho,H3,k3,k3 _ _ nld e2)
  .rintro i x Z H3 hx (⟨v2,v3,v4,v5,⟨v6,v7,v8,v9,v10,rfl,k3,kvs,hd3,lk3,f3⟩⟩:121);ext SY;ext ku qa hqa hx;show(ag,p,hp,hpq,pt2.get hqa);have hf:=xdo pok.nn (Zj hp);have elen:xad w' ps srt p.nm=(NS).map Ii:=by
    unfold xad;rw[hf]
   show(qX,k13,fP d (ae,H1 c,u) (ae,H3 c,u),(pF,k3 _ _ nc B9),kL qa (k3 _ _ (ne_f hpq E6) hpq),au dq hdq);have ndq:d≠dq:=xi hd3 hdq;show(C3,i5 H3 dq [],hdq);refine(ua,d,yE Br (cm hd3) (BIG (by unfold x9 at lk3; rw[Za,Jl] at lk3; omega)));have k5:fP d (ae,H4 c,u) (p5 H4 d zkV):=Ao
   have e5:upd H4 d zkV d=(BD RW):=xk;revert k5 e5;generalize gq H4 d RW=H5;intro k5 e5;have k15:fP d (ae,H1 c,u) (ae,H5 c,u):=(pF,k5 _ _ nc (cm (k13 _ _ nc e)))
   -- the picture is still there
   obtain⟨_,⟨kp,hkp,plp⟩,w1,w2,h1,h2,le⟩:=SM;show(ag,ko,hko,kr,id dr.sts);have npd:dp≠d:=xi hkp hd;have pic5:Pic t H5 a dp do_ mC hZ ps:=⟨lF zlH,⟨kp,k15 _ _ npd (iO hkp),plp.keep (yX,k15 _ _ (xi e hd) jy)⟩,w1,w2,h1,h2,le⟩
   show(cB,sts5,Sts H5 do_ st,⟨ko,k15 _ _ (xi hko hd) (iO hko),kr⟩,hpi5,zlH);show(ziz,⟨a,dx,_,rfl,hpi5,bn,a,dp,do_,w',h',ps,st,rfl,pic5,sts5,fun l6 ss6 us hl6 sl6 pm6 lt6=>?_⟩);have g45:=k5 _ _ (Z1 ndq) g4;show(ki,nl6,l6,dq,sE g45 hl6)
   ext zfm;show(lz,nK l6 g6,xbr (xs:=us.map V.ref) (Pv:=fun j Z H7=>∃(v8 v9 v10:b8),(bT,Z,[dJ,rq,f8 p.nm,bz p.x,bz p.y,f8 p.sd,bz p.lo,bz p.hi,v8,v9,v10],(fP dq (ae,H6 c,u) (ae,H7 c,u)),H7 dq=some (.dT (LnT (((yc).filter (xa0 p)).map Ii))))) ?_ ?_ ?_ ?_)
   .exact ⟨103,_,_,_,rfl,zaR,dP g45⟩
   .rintro j Z H7 _ (⟨_,_,_,rfl,k7,_⟩:103);show(zr,k7 _ _ nl6 g6)
   .rintro j x Z H7 hx (⟨v8,v9,v10,rfl,k7,e7⟩:103);ext EB qs_ hqs;show(ag,s,hs,hsq,sl6'.get hqs);have hsq7:=k7 _ _ (ne_f hsq (dP g45)) hsq;show(pZ,qs_,hsq7,(cD,?_,qS z));have tk:ss6.take fW=yc++[s]:=by
     rw[ZR,hs];rfl
    have no:(dE tQ)->((ss6.take fW).filter (xa0 p))=(yc).filter (xa0 p):=fun e=>by
     rw[tk,Y0,Jd (sT e)];simp
    have yes:tQ=true->((ss6.take fW).filter (xa0 p))=(yc).filter (xa0 p)++[s]:=fun e=>by
     rw[tk,Y0,Jc e];rfl
    refine iF cS l8 hl8;generalize eu:fw H7 l8 [.str (Z3 "both"),iE ir]=H8;ext oW s8 hl8 g8;show(cB,k8,fP dq (ae,H6 c,u) (ae,H8 c,u),(pF,qp (k7 _ _ nc e)),e8,qp e7);refine mG l8 _ (bR,lW g8,rfl,rfl,Ck y1)
    .rw [yN,xh8] at y1;show(vT,ub y2 y2)
     .refine Ck y3
      .have wt:tQ=true:=by
        unfold xa0;rw[y1,y2,y3];rfl
       refine(dM,fun Z H9=>H8=H9/\Z=[dJ,rq,f8 p.nm,bz p.x,bz p.y,f8 p.sd,bz p.lo,bz p.hi,some (iE ir),bz d9,bz zjX],?_)
       .show(dN,hpi8,k8 _ _ (ne_f hpi5 g45) (dP hpi5),(j6,ub y4 y4))
        .have e4:ir=false:=by
          cases hh:ir with
          | false=>rfl
          | true=>ext tX hh y4 y4 aG
         refine⟨a,_,_,_,_,rfl,⟨46,hpi8,T.c_a,T.n_bs,lkW,rfl,?_⟩⟩;rw[e4];rfl
        .have e4:ir=true:=by
          cases hh:ir with
          | true=>rfl
          | false=>ext tX hh y4 aG y4
         refine tS;rw[e4];rfl
       rintro _ _ ⟨rfl,rfl⟩;have hd8:H8 d=some (.dK RW):=k8 _ _ ndq (dP e5);have dg:DGet H8 d EJ (aC dq):=by
        have g:=BC Br hd8;ext uB xcf bY g g
       refine⟨_,rfl,d,.ref dq,rfl,dg,cS,au q9 hq9⟩;generalize eu:(i6,H8,q9,iE ir,d9)=H9;show(Al,s9,hq9,g9,e9,s9 _ _ e8);have new:valV (LnT (((yc).filter (xa0 p)).map Ii)) (x0 s)=none:=by
        rw[xja];have z:¬ (fR (xc0 (((yc).filter (xa0 p)).map Ii) s)):=by
         ext Hw xfs Z4;intro z;ext rp s' hs' ee z;have ee:s'=s:=ee;subst ee;ext nF hj ej hs;show(znc,ss6.Nodup);exact xc4 id (ps:=ss6) (aB YR snd) hj s' (rb hs') ej.symm
        cases hz:xc0 (((yc).filter (xa0 p)).map Ii) s with
        | none=>rfl
        | some v=>rw[hz] at z; ext jb z
       show(aw,fl,S5 ((yc).filter (xa0 p)),ZN rA (kQ Jl),(ua,dq,DPut.t (k:=d7) e9 g9 (by unfold LnT; rw[Za,Za]; exact BIG aa)));refine⟨103,_,_,_,rfl,pF (bO,nc,s9 _ _ (k8 _ _ nc e)),?_⟩;rw[xk,xc1 _ new,yes wt];unfold LnT;rw[Zs,Zs];have ev:V.int ziI=V.int Wu:=by
        unfold lenI;rw[Int.add_comm]
       show (znd ziI)=(znd Wu);rw[ev]
      .have wf:tQ=false:=by
        unfold xa0;rw[y1,y2,Jb.mpr y3];rfl
       exact⟨103,_,_,_,rfl,k8,zby⟩
     .have wf:tQ=false:=by
       unfold xa0;rw[y1,Jb.mpr y2];rfl
      exact cA ⟨103,_,_,_,rfl,k8,zby⟩
    .rw [yN,xh8] at y1;have wf:tQ=false:=by
      unfold xa0;rw[Jb.mpr y1];rfl
     exact⟨103,_,_,_,rfl,k8,zby⟩
   .rintro Z H7 (⟨v8,v9,v10,rfl,k7,e7⟩:103);rw[Za,usl,Jf,<- elen] at e7;show(cB,k57,fP dq (ae,H5 c,u) (ae,H7 c,u),(pF,k7 _ _ nc (s6 _ _ e)),g45',g45);refine(iM,iM (gT,_,pF ?_,(bS,RW,k57 _ _ ndq e5,?_,au nm hn)))
    .have e3':=k3 _ _ nc e;exact k57 _ _ (xi e3' hdq) (k5 _ _ nc (cm e3'))
    .rw [xh9 hp,Zr,ZU];show(cW,xbu kvs Br (.ref dq))
    .rw [xh9 hp] at hn;rw[xcf];show(ij,nm,p.nm)
     .subst c;show(gF,dq,eG bY,e7,dF)
     .show(d8,(jP,c (Ja.inj y)));rcases Tv with hn|hn
      .obtain ⟨q0,a1,a2,a3⟩:63:=f3 nm hn;ext ja nq q0 d a2 hd3;show(gF,q0,a1,k57 _ _ (xi a2 hdq) (k5 _ _ nq (cm a2)),a3)
      .exact absurd (Zp.mp hn) c
  .rintro Z H3 (⟨v2,v3,v4,v5,⟨v6,v7,v8,v9,v10,rfl,k3,lw⟩⟩:121);rw[Za,pll,Jf] at lw;exact (q H3 d (zu,k3 _ _ (xi e hd) (dy jy)) hd lw)
theorem xml {α:Type}{r:BS} (h:∀ a,r a<=0):∀ l:bZ,zbK<=0
 | []=>YS _
 | a::l=>by
  rw[Zo,Jo];show(wp,h a,xml h l)
theorem xrx {α:Type}{r:BS}:∀ l:bZ,(∀ a∈l,r a=0)->zbK=0
 | [],_=>rfl
 | a::l,h=>by
  rw[Zo,Jo,h a ig,xrx l Xa];rfl
theorem xli {α:Type}{r:BS}{l m:bZ} (p:l.Perm m):zbK=(m.map r).sum:=by
 induction p with
 | nil=>rfl
 | cons x _ ih=>rw[Zo,Zo,Jo,Jo,ih]
 | swap x y l=>simp only[Zo,Jo]; omega
 | trans _ _ h1 h2=>rw[h1,h2]
theorem xma {α:Type} [Ap] {r:BS} (h:∀ a,r a<=0):∀{T ss:bZ},T.Nodup->(∀ a∈T,a∈ss)->(ss.map r).sum<=(T.map r).sum
 | [],ss,_,_=>xml h ss
 | x::T,ss,nd,sub=>by
  ext zpU;rw[xli (List.perm_cons_erase hx),Zo,Zo,Jo,Jo];show(cW,xma h (T:=T) (ss:=ss.erase x) kE (fun a ha=>(Wb (fun e:a=x=>nd.1 (e▸ha))).mpr (sub a (Zl _ ha))))
theorem xpn {α:Type} [Ap] {r:BS}:∀{T ss:bZ},(bc,T.Nodup,ss.Nodup,(∀ a∈T,a∈ss),(∀ a∈ss,a∉T->r a=0),(ss.map r).sum=(T.map r).sum)
 | [],ss,_,_,_,z=>xrx ss fun a ha=>z a ha Ho
 | x::T,ss,nd,snd,sub,z=>by
  ext zpU;show(ah,pm,List.perm_cons_erase hx,nd2,pm.nodup_iff.mp snd);rw[ZC] at nd2;rw[xli pm,Zo,Zo,Jo,Jo];rw[xpn (T:=T) (ss:=ss.erase x) kE nd2.2 (fun a ha=>(Wb (fun e:a=x=>nd.1 (e▸ha))).mpr (sub a (Zl _ ha))) (fun a ha na=>z a (List.mem_of_mem_erase ha) (fun y=>by
   rcases dC y with y|y
   .rw [y] at ha; exact nd2.1 ha
   .exact na y))]
noncomputable def lenP (lens:bU) (p:Pr):Int:=(xc0 (lens aV) bJ).getD 0
noncomputable def xcd (lens:bU) (prs:aE):Int:=(zpP).sum
noncomputable def gvL (lens:bU) (names:ap) (prs:aE):Bool:=decide (prs.map (·.1.nm)=names)&&(decide ((prs.map (·.2)).Nodup)&&zjd)
theorem xfj {lens:bU}{names:ap}{prs:aE}:Dc=true↔prs.map (·.1.nm)=names/\(prs.map (·.2)).Nodup/\∀ p∈prs,PU:=by
 unfold gvL;rw[ZE,ZE,decide_eq_true_iff,decide_eq_true_iff,Qj];simp only[decide_eq_true_eq]
theorem xd5 {lens:bU}{n:Str}{s:Seat} (h:s∈(uq n)):∃ l,(ae,xc0 (lens n) s,l):=by
 have:=xfs (xs:=zl) (s:=s);rw[decide_eq_true (show s∈(zl).map (·.1) from h)] at this;exact Q6.mp this
theorem xok {α:Type}{f g:BS}:∀{l:bZ},(∀ a∈l,f a<=g a)->(l.map f).sum<=(l.map g).sum
 | [],_=>YS _
 | a::l,h=>by
  rw[Zo,Zo,Jo,Jo];show(wp,h a ig,xok (l:=l) Xa)
theorem xhv {α:Type}{f g:BS}:∀ l:bZ,(l.map fun a=>f a+g a).sum=(l.map f).sum+(l.map g).sum
 | []=>rfl
 | a::l=>by
  rw[Zo,Zo,Zo,Jo,Jo,Jo,xhv l];omega
section
variable {lens:Str->List (Seat × Int)}{names:List Str}{so:Str->Option Seat}{ho:Seat->Option Str}{own:Str->Int}{rent:Seat->Int}{ss:List Seat}
theorem xl3 {prs:aE} (e:prs.map (·.1.nm)=names):(DQ,own aV).sum=NG:=by
 rw[<- e,Z4];rfl
theorem Fit.dual (f:Fit lens names so ho own rent) (lo:xV) {prs:aE} (g:Dc=true):NG+Xw<=vm:=by
 show(iW,e,nd,al,xfj.mp g);have h1:zkU<=vm:=xok fun p hp=>by
  ext Hx pP;have:=f.le aV (GM e vK) (bJ,l) (xe5 hl);unfold lenP;ext aQ hl this
 rw[xhv,xl3 e] at h1;have h2:=xma f.rl nd (fun s hs=>by
  ext dY p hp hs;exact lo.ins _ _ pP) (ss:=ss)
 rw[Z4] at h2;have h3:(prs.map (rent∘fun p=>bJ)).sum=(DQ,rent bJ).sum:=rfl;omega
theorem Fit.tight (f:Fit lens names so ho own rent) (lo:xV) (nnd:names.Nodup) {prs:aE} (e:prs.map (·.1.nm)=names) (al:∀ p∈prs,(ae,so aV,bJ)):Dc=true/\vm=NG+Xw:=by
 have nd:(prs.map (·.2)).Nodup:=by
  ext zkI lt;rw[JZ,JZ] at z;show(ah,a1,al _ (J9 hi),a2,al _ (J9 hj));rw[z] at a1;have:=f.mt.inj a1 a2;rw[<- e] at nnd;exact absurd this (by
   have y:=Ji.mp nnd i j (gC hi) (gC hj) lt;ext uB JZ JZ y y)
 show(aw,rm,∀ p∈prs,PU,(dS,f.mt.rm _ _ pP),(fE,xfj.mpr ⟨e,nd,rm⟩));have h1:vm=zkU:=by
  unfold xcd
  congr 1
  refine JI kS;show(Hx,rm p hp);unfold lenP;show(aQ,hl,(f.eq _ _ pP l (xe5 hl)).symm)
 rw[h1,xhv,xl3 e];have h2:=xpn (r:=rent) nd lo.snd (fun s hs=>by
  ext dY p hp hs;exact lo.ins _ _ (rm p hp)) (fun s hs ns=>f.r0 s (by
  cases z:ho s with
  | none=>rfl
  | some n =>
   have y:=(f.mt.iff n s).mpr z;have nin:n∈names:=by
    show(pq,f.dm n,y);ext zbw
   rw[<- e] at nin;ext dY p hp nin;show(b6,pP,y,absurd (Zg.mpr ⟨p,hp,ZL.inj y⟩) ns)))
 rw[h2,Z4];rfl
#check _
theorem xtx {prs:aE}{good:Pr->Bool} (f:∀(k:Nat) (p:Pr),zcq->good p=true/\bJ∉(prs.map (·.2)).take k):(decide ((prs.map (·.2)).Nodup)&&prs.all good)=true:=by
 have nd:(prs.map (·.2)).Nodup:=by
  ext zkI hij;have h2:=(f j prs[j] (Zb hj)).2;refine h2 (Yk.mpr (dM,i,K1 Jl Za));rw[List.getElem_take,z,JZ]
 rw[AQ nd,JX,Qj];intro p hp;obtain⟨k,hk,rfl⟩:=Yk.mp hp;exact (f k _ (Zb hk)).1
theorem xlq {prs:aE}{good:Pr->Bool}{k:Nat}{p:Pr} (hp:zcq) (f:good p=false\/bJ∈(prs.map (·.2)).take k):(decide ((prs.map (·.2)).Nodup)&&prs.all good)=false:=by
 rw[Jb];intro h;rw[ZE,decide_eq_true_iff,Qj] at h;obtain⟨nd,al⟩:=h;rcases f with f|f
 .show(Af,al p (Zj hp),f)
 .obtain ⟨hk,rfl⟩:=Zh.mp hp;have z:=nd;have hk':k<(prs.map (·.2)).length:=gC hk
  rw[<- Yf k (prs.map (·.2)),JK hk',ZP] at z;exact z.2.2 _ f _ (Zm) (eG JZ)
theorem xvv (qs:ax) (k:Nat):cutV xO none (some (0+i7))=(qs.take k).map V.ref:=by
 ext zgG Qv
 simp only[List.drop_zero,Nat.sub_zero];by_cases c:k<=qs.length
 .rw [Nat.min_eq_left c]
 .rw [zqt,Kt,Jr aa]
theorem xa7.take {H:Hp}{ss:ai}{qs:ax} (h:D4) (k:Nat):xa7 H (ss.take k) (qs.take k):=by
 induction h generalizing k with
 | nil=>show(cq,List.take_nil,List.take_nil,.nil)
 | cons h _ ih=>cases k with
  | zero=>ext ia
  | succ k=>exact .cons h (ih k)
theorem LnT.get {H:Hp}{q b:Addr}{xs:sI}{s:Seat} (h:aR q (.dT (LnT xs))) (hb:lO b s):DGet H q ug ((Td).map V.int):=by
 have g:=zch;ext b6 xja g g
inductive xuq (vs:af) (H:Hp) (Q:VK) (_:XK):Prop
 | mk (d ln lp:Addr) (alln names:ap) (lens:bU) (prs:aE) (qs:ax) (e_:vs=(qP i9 ln lp)) (r_:LwD H d alln lens/\F7/\(G6 (∀ x∈names,x∈alln) IO lQ sA Dc))
inductive xqv (vs:af) (H:Hp) (Q:VK) (_:XK):Prop
 | mk (d lp:Addr) (alln:ap) (lens:bU) (prs:aE) (qs:ax) (e_:vs=(ip i9 lp)) (r_:LwD H d alln lens/\IO/\(aq lQ sA (IT,aV∈alln,PU) zjw (vV (K7 vm))))
theorem ok_a5 (T:aF):FnOk true P w K mg base aD 5 t.f_a5 t.d_a5 Ub (xuq):=by
 refine T.F_a5.okn (k:=4) sc_a5 (aJ h) (fun cdv A outer s H vs Q E hr h=>?_)
 .obtain ⟨d,ln,lp,alln,names,lens,prs,qs,rfl,_⟩:=h;rfl
 .obtain ⟨d,ln,lp,alln,names,lens,prs,qs,rfl,h⟩:=h;refine⟨_,xh (jI (xae D1 (xa4 rfl (xaw (zs:=Uz) (ys:=[]) (fr:=[]) (N0:=TU) (sc0:=xm s_a5) aG rfl rfl rfl) Eo rY sw dR uU) cF dO) qO)
   (xh (xcp rfl (xaw (zs:=Uz) (ys:=[]) (fr:=[]) (N0:=TU) (sc0:=xm s_a5) aG rfl rfl rfl) Eo rY sw dR (o4 nT) (j:=3) rfl ro)
   (xh (GI (fX (O3 xa1 fD)) 4 sc_a5.nd (kR (PW.pt (xco (xcu (xdr gz (iQ 3 dw) (re aM (iQ 1 dw)))) (xcm (xae (xwk (xbk hr)) (iQ 3 dw) (xea xg7 (pv 3) xfp (xd9 (pv 4))) jz)))) qO))
   qO)),?_⟩
  refine sq4 ?_; intros; ext Au; obtain⟨lw,hln,nin,hlp,pl,n12,q⟩:47:=h;show(zeN,xba (aW hlp) qu hl1 (BF,∃ p:Pr,(aU prs p)/\y=.str aV) lL (fun i x H2 hx s2 N hN=>?_) (fun ys H2 s2 e2 ly fy=>?_))
  .ext Ge;ext Gq K0 vK
  have ey:ys=(prs.map (·.1.nm)).map V.str:=by
   ext UB
  ext zfK
  .rw [xke] at c;have c:¬ (prs.map (·.1.nm))=names:=jU
   have g:Dc=false:=by
    unfold gvL;rw[decide_eq_false c];rfl
   rw[g] at q;exact q _ s2
  .rw [xke] at c;have c:(prs.map (·.1.nm))=names:=jU
   have eg:Dc=(decide ((prs.map (·.2)).Nodup)&&zjd):=by
    unfold gvL;rw[decide_eq_true c];rfl
   rw[eg] at q;show(lz,gH lp hlp2 l3 hl3,xba (aW hlp2) qu hl3 (uo,∃(p:Pr) (qa:Addr),wK prs p (eO y qa) (lO qa bJ)) (fun _ _ _ _ tp ⟨p,qa,z1,z2,z3⟩=>zmR) (fun i x H3 hx s3 N hN=>?_) (fun ys3 H3 s3 e3 ly3 fy3=>?_))
   .ext zeT
   ext uG; rw[Za,qll] at ly3;obtain⟨rs,rfl,sl3⟩:62:=xa7.pick (ss:=prs.map (·.2)) (H:=H3) (ys:=ys3) (bW ly3 Za) (fun j y s hy hs=>by
    obtain⟨p,qa,z1,z2,z3⟩:83:=fy3 j y hy;ext zdT z1;ext aH qa z2 z3)
   show(h9,rl,sl3.len,Za);show(ah,s03,s2.trans s3,hln3,s03 _ _ hln);show(mX,nlen,names.length,prs.length,by rw[<- c,Za],Fl ln hln3 zpR)
   let Pv (i:Nat) (Z:L2.St) (H4:Hp):Prop:=∃(v4:b8),Z=[rq,nY,Fb,aC l3,v4]/\Same H3 H4/\∀(k:Nat) (p:Pr),k<i->zcq->(Ep PU)/\bJ∉(prs.map (·.2)).take k
   show(Oa,?_)
   .exact (gT,_,kN,fun k p z=>absurd z (QP _))
   .rintro k Z H4 hk (⟨v4,rfl,s4,al⟩:63);ext MS; have hk':k<prs.length:=by simpa [nlen] using hk
    have s04:=s03.trans s4;ext zpD;have at_n:atI (names.map V.str) (0+i7)=(f8 Lu):=by
     rw[Qv];refine xcc ?_;rw[<- c,Zc,Zc,hpk];rfl
    have hrk:eZ rs k (rs[k]' aa):=Cy;show(ag,s0,hs0,hsq,sl3.get hrk);rw[Zc,hpk] at hs0;have hs0:(zk).2=s0:=ZL.inj hs0;subst hs0;have at_s:atI (rs.map V.ref) (0+i7)=(aC (rs[k]' aa)):=by
     ext On hrk
    have nin':Lu∈alln:=nin _ (GM c (dH,zk,J9 hk'));show(ag,qd,dg,hqd,(lw.same s04).get nin');refine zkl ⟨ln,_,_,_,rfl,rfl,aW (s04 _ _ hln),at_n,d,.ref qd,rfl,dg,qd,_,rfl,LnT.get hqd (cm hsq),_,rfl,?_⟩;have ei:((xc0 (lens Lu) (zk).2).map V.int).isSome=decide ((zk).2∈(uq Lu)):=by
     rw[Y9,xfs];rfl
    rw[ei];cases hB:(mO,(zk).2,uq Lu) with
    | false =>
     refine ifP rfl ?_;show(b6,xlq hpk (.inl hB),q,q _ s04)
    | true =>
     refine ifN rfl ?_;refine(zkl,cA (fG,l3,_,aW (cm e3),au l6 hl6));rw[xvv];show(zS,upd H4 l6 (.lst ((rs.take k).map V.ref)),hl6);refine⟨1,2,xcj (zk).2,_,xfn (dP (cm hsq)),(mz,((sl3.take k).keep (Same.tups (s4.trans s6))).dv g6,Ta)⟩
     .rw [yN,xft] at y;show(b6,xlq hpk (.inr (of_decide_eq_true y)),q,q _ (s04.trans s6))
     .rw [yN,xft] at y;refine(gT,_,s4.trans s6,b9 j p hj hp);rcases YJ j k with z|z
      .exact al j p z hp
      .have:j=k:=aa
       ext wF;ext bI hpk hp hp;show(aS,hB,(ao,y (decide_eq_true z)))
   .rintro Z H4 (⟨v4,rfl,s4,al⟩:63);rw[xtx (fun k p hp=>al k p (by
     have:=h8 hp;rw[Za];omega) hp)] at q
    exact q _ Ra
theorem ok_ba (T:aF):FnOk true P w K mg base aD 1 t.f_ba t.d_ba zim (xqv):=by
 refine T.F_ba.okn (k:=0) sc_ba (aJ h) (fun cdv A outer s H vs Q E hr h=>?_)
 .obtain ⟨d,lp,alln,lens,prs,qs,rfl,_⟩:=h;rfl
 .obtain ⟨d,lp,alln,lens,prs,qs,rfl,h⟩:=h;show(Ua,xa4 rfl (xaw (zs:=Uz) (ys:=["_law_lengths_here"]) (fr:=[0]) (N0:=zim) (sc0:=xm s_ba) aG rfl rfl rfl) sW rY sw dR (fun _ _ _ _ _=>re (A6 3 aM) B7));obtain⟨lw,hlp,pl,n12,al,bd,q⟩:47:=h;show(dN,qll,pl.len,gH lp hlp l1 hl1);refine xba (aW hlp) np hl1 (BF,∃ p:Pr,(aU prs p)/\(Co (lenP lens p))) lL (fun i x H2 hx s2 N hN=>?_) (fun ys H2 s2 e2 ly fy=>?_)
  .ext Ge;obtain⟨an,ar⟩:=al p (Zj hp);show(ag,qd,dg,hqd,(lw.same s2).get an);ext Hx ar;refine⟨qa,_,rfl,cN K0,rfl,d,.ref qd,rfl,dg,cS,zdE⟩;show(cB,s5,Same H2 (i6,H2,q5,iE i8,d6),TD,dg2,LnT.get (s:=bJ) (cG hqd) (b:=q5) xk);rw[hl] at dg2;show(BY,qd,.int l,dg2,lJ s5 (dM p hp));unfold lenP;rw[hl];rfl
  have ey:ys=(zpP).map V.int:=by
   ext UB
  rw[ey] at e2;refine(zI,l1,_,aW e2,zci,q _ s2);ext dY p hp hn;show(Hx,(pP).2);have:=bd _ _ (xe5 hl);unfold lenP;rw[hl];show WR l;have:mP l 46:=this;omega
structure GvF (lens:bU) (names:ap) (f:Str->Seat):Prop where
 rm:∀ n∈names,f n∈(uq n)
 inj:∀ a∈names,∀ b∈names,f a=f b->a=b
noncomputable def xel (lens:bU) (names:ap) (f:Str->Seat):Int:=(names.map fun n=>(xc0 (lens n) (f n)).getD 0).sum
structure xd4 (lens:bU) (names:ap) (T:Int):Prop where
 has:∃ f,G0/\GZ=T
 le:∀ f,G0->T<=GZ
noncomputable def mkPr (f:Str->Seat) (n:Str):Pr:=(⟨n,0,0,n,0,0⟩,f n)
section
variable {lens lens':Str->List (Seat × Int)}{names names':List Str}{so:Str->Option Seat}{ho:Seat->Option Str}{own:Str->Int}{rent:Seat->Int}{ss:List Seat}{f:Str->Seat}{T T':Int}
theorem GvF.prs (g:G0) (nnd:names.Nodup):gvL lens names (names.map (mkPr f))=true/\xcd lens (names.map (mkPr f))=GZ:=by
 show(dX,xfj.mpr ⟨?_,?_,kS⟩,?_)
 .rw [Z4];exact YR _
 .rw [Z4,Jn,ZW];exact Jt.imp_of_mem (OV,ne,ne (g.inj a ha b hb e)) nnd
 .show(hX,n,hn,rfl,Zg.mp hp);exact g.rm n hn
 .unfold xcd xel;rw[Z4];rfl
theorem Fit.leastF (fit:Fit lens names so ho own rent) (lo:xV) (nnd:names.Nodup) {prs:aE} (e:prs.map (·.1.nm)=names) (al:∀ p∈prs,(ae,so aV,bJ)):(RP vm)/\vm=NG+Xw/\∃ f,G0/\GZ=vm/\∀ n∈names,f n∈prs.map (·.2):=by
 obtain⟨gv,tight⟩:=fit.tight lo nnd e al;have h1:∀ n∈names,∃ p∈prs,aV=n/\(ae,so n,bJ):=fun n hn=>by
  rw[<- e] at hn;ext dY p hp hn;show(gF,p,hp,rfl,pP)
 have g:GvF lens names (fun n=>(so n).getD yy):=by
  show(dX,Kh,bL a ha b hb z)
  .obtain ⟨p,_,_,e1⟩:63:=h1 n hn;show (so n).getD yy∈_;show(aQ,e1,fit.mt.rm _ _ e1)
  .obtain ⟨p,_,_,e1⟩:63:=h1 a ha;obtain⟨p',_,_,e2⟩:63:=h1 b hb;have z:(so a).getD yy=(so b).getD yy:=z;rw[e1,e2] at z;have z:bJ=p'.2:=z;rw[z] at e1;exact fit.mt.inj e1 e2
 have c:xel lens names (fun n=>(so n).getD yy)=vm:=by
  unfold xel xcd;rw[<- e,Z4];refine zlI;show (xc0 (lens aV) ((so aV).getD yy)).getD 0=lenP lens p;rw[pP];rfl
 show(gU,(iF,cD g c,f2,g2),tight,bS _ g c Kh)
 .obtain ⟨y1,y2⟩:=g2.prs nnd;rw[tight,<- y2];exact fit.dual lo y1
 .obtain ⟨p,hp,_,e1⟩:63:=h1 n hn;show (so n).getD yy∈_;rw[e1];exact Zg.mpr vK
theorem xd4.le_of (a:RP T) (b:xd4 lens' names' T') (h:∀ f,G0->∃ g,GvF lens' names' g/\xel lens' names' g<=GZ):T'<=T:=by
 show(ag,f,g,e,a.has)
 show(ag,f',g',le,h f g);show(cW,b.le f' g')
#check _
section
variable {w:Nat}{h:Int}{ps ps':List Pt}{srt srt':List Seat}{names names':List Str}{f:Str->Seat}{T T':Int}
theorem xtf (nd:(ps.map (·.nm)).Nodup) {p:Pt} (hp:y9):xad w ps srt p.nm=(NS).map (jQ s s Gx):=by
 unfold xad;rw[xdo nd hp]
theorem xdk (nd:(ps.map (·.nm)).Nodup) {p:Pt} (hp:y9) {s:Seat}:s∈xax hU p.nm↔s∈srt/\tQ=true:=by
 rw[xfx];unfold xbe;show(aQ,xdo nd hp,ZH)
theorem xvw (nd:(ps.map (·.nm)).Nodup) {p:Pt} (hp:y9) {s:Seat} (hs:s∈xax hU p.nm):(xc0 (xad w ps srt p.nm) s).getD 0=Gx:=by
 ext Hx hs;show(pq,xe5 hl,xtf nd hp);show(Bc,s',e,Zg.mp this);show(ah,e1,(Prod.mk.inj e).1,e2,(Prod.mk.inj e).2);rw[hl,<- e2,e1];rfl
#check _
noncomputable def MayA (srt:ai) (prs:aE):Prop:=(IT,bJ∈srt,xa0 aL bJ=true)
theorem xpz {ps:am}{w h:Int}{ss:ai}{prs:aE} (nx:(ps.map (·.x)).Nodup) (g:DB) (m:MayA ss prs):∀ k,MayA ss sD
 | 0=>m
 | cJ=>by
  show(ah,ih,xpz nx g m k,gk,WT);show MayA ss AH;generalize sD=cur at *;unfold nxtP;split
  .rename_i tr ht
   obtain⟨A,p1,B,p2,⟨C,c,e,cn,et⟩⟩:121:=xiv (List.mem_of_head? ht);ext U3 cur
   have ex:excB ss p1 p2=true:=by
    unfold canO at cn;split at cn
    .ext dW
    .cases cn
   unfold excB mayB at ex;obtain⟨x1,x2⟩:=ZE _ _▸ex;obtain⟨x3,x4⟩:=ZE _ _▸x1;obtain⟨x5,x6⟩:=ZE _ _▸x2;subst et;have f1:(ae,cur.find? (nmF i0),p1):=xha gk.nn m1;have f2:(ae,cur.find? (nmF i4),p2):=xha gk.nn m2;simp only[f1,f2];rw[(xn1 gk.nn e).1];intro p hp;have mm:p∈A\/p=Ec\/p∈B\/p=Ed\/p∈C:=XG
   rcases mm with k|k|k|k|k
   .ext V7
   .rw [k];show(aS,xF x3,x4)
   .ext V7
   .rw [k];show(aS,xF x5,x6)
   .ext V7
  .exact ih
theorem xfe {w:Nat}{h:Int}{ps:am}{srt:ai}{prs:aE} (nd:(ps.map (·.nm)).Nodup) (ok:C9 lD h) (m:DY):xcd hU prs=sV:=by
 unfold xcd totI;refine zlI;have mp:=Z7 (ok p hp).fd;unfold lenP;rw[xvw nd mp ((xdk nd mp).mpr (m p hp))];rfl
inductive xw9 (t:Adr) (vs:af) (H:Hp) (Q:VK) (_:XK):Prop
 | mk (a dp do_:Addr) (w h:Nat) (ps:am) (ss srt:ai) (e_:wG) (r_:Dr t H a dp do_ w h ps ss srt/\lR/\kn/\jE/\∀ H' tp ln qs prs cs so ho,bF->(va tp (m7 LH sV))->(gR ln jS)->zbb->BJ->xd4 hU ff sV->prs.map (·.1.nm)=ff->(vN X1 DY WQ tp))
theorem xi1 {ps:am}{cs:dG}:∀ nm∈ff,WL:=fun nm hn=>by
 show(Eh,e,rb hn);ext aH p hp e
theorem xf9 {room:j9}{ns:ap}{so:bB}{ho:aI}{cs:dG} (r:yG) (nd:ns.Nodup):∀ z∈xbb ns cs,(fR (so z)):=fun z hz=>by
 have hz2:=ZH.mp hz;rw[r.dom nd,decide_eq_true hz2.1,JX];exact hz2.2
theorem xf8 {w h:Nat}{ps:am}{ss srt:ai}{names:ap}{prs:aE}{own:bQ}{rent:bN}{so:bB}{ho:aI} (pok:lR) (sok:SsOk iL ss) (pm:Ik) (en:prs.map (·.1.nm)=names) (nnd:names.Nodup) (n12:xC) (al:zjT) (run:LRun hU names own rent so ho):X1/\DY:=by
 have mt:=run.fit.mt;have my:DY:=fun p hp=>by
  obtain⟨a1,a2⟩:=pP;exact (xdk pok.nn a1).mp (mt.rm _ _ a2)
 refine⟨⟨kS,aB en nnd,?_,?_⟩,my⟩
 .obtain ⟨a1,a2⟩:=pP;show(ah,o,pok.ok _ a1,b,sok.2.2 bJ (pm.mem_iff.mp (my p hp).1));exact⟨o.nm,xdo pok.nn a1,b.1,b.2,bR o.x1 o.x2 o.y1 o.y2⟩
 .rw [<- en] at nnd;rw[Yx,ZW] at nnd ⊢;exact nnd.imp_of_mem (OV,ne,ne (mt.inj (s:=b.2) (e▸(al a ha).2) (al b hb).2))
 .show(pq,uD en,Za);omega
theorem xj2 (T:aF):FnOk true P w K mg base aD 10 t.f_answer t.d_answer nG (xw9 t):=by
 refine T.F_answer.okn (k:=9) xdm (aJ h) (fun cdv A outer s H vs Q E hr h=>?_)
 .obtain ⟨a,dp,do_,w',h',ps,ss,srt,rfl,_⟩:=h;rfl
 .obtain ⟨a,dp,do_,w',h',ps,ss,srt,rfl,h⟩:=h;refine⟨_,xh (Od (pC (xhp T) hr T.g_least T.F_least.kp T.b_least (gS 0 (pC (xg3 T) hr T.g_kept T.F_kept.kp T.b_kept zj))) 1 xdm.nd (gG 2 xdm.nd 3))
   (xh (Ez (pC (xlf T) hr T.g_uncrossed T.F_uncrossed.kp T.b_uncrossed pH) (gG 4 xdm.nd 5))
   (sS (gS 4 (pC (xe2 T) hr T.g_total T.F_total.kp T.b_total (gm 0 4))))),?_⟩
  refine sq3 ?_; intros; obtain⟨dr,pok,w30,h16,q⟩:45:=h;show(aw,nnd,EQ,pok.nn,⟨a,dp,do_,w',h',ps,ss,srt,rfl,dr,nnd,fun H1 l1 cs so ho s1 f1 e1 run=>?_⟩);have dr1:=dr.same s1;ext Vf;have kl:Kz ff:=by
   ext zje
  refine⟨a,l1,dp,do_,w',h',ps,ss,srt,ff,rfl,⟨47,dr1,pok,e1,xi1,knd,kl,(U0,fun H2 tp lp d_o d_r qs prs own rent so' ho' s2 htp hlp pl en al ow rn run2 _ _ _ _=>?_)⟩⟩;refine Rs;have dr2:=dr1.same s2;obtain⟨gp,my⟩:=xf8 pok dr.ok dr.pm en knd kl al run2;show(aw,mys,MayA ss prs,dS ⟨dr.pm.mem_iff.mp (my p hp).1,(my p hp).2⟩,⟨a,dp,do_,lp,w',h',ps,ss,prs,qs,rfl,⟨47,dr2.pic,dr2.sts,hlp,pl,gp,pok.nx,fun H3 tp3 ln ls n qs3 sq s3 f3 g3 e3 pr3 est stl ne okk cn nls=>?_⟩⟩);refine kL tp3 g3;have dr3:=dr2.same s3;show(br,⟨a,dp,do_,ln,w',h',ps,_,qs3,rfl,⟨46,dr3.pic,e3,pr3,(okk n).ok,(okk n).le,IF⟩⟩,iF cS qt hqt);have lo:=MJ;show(iW,k1,k2,k3,xmc (ss:=ss) pok.nx gp n);have myk:=xpz pok.nx gp mys n;show(bC,mykr,MayA srt Dt,p,hp,⟨dr.pm.mem_iff.mpr (myk p hp).1,(myk p hp).2⟩)
  have enk:(Dt).map (·.1.nm)=ff:=by
   rw[<- en];have z:=congrArg (List.map fun p:Pt=>p.nm) k1;ext yh Z4 Z4
  have gv:gvL sG ff Dt=true:=xfj.mpr ⟨enk,k2.nodup_iff.mpr gp.ns,(dS,(zdR,((okk n).ok p hp).fd).mpr (mykr p hp))⟩;have dual:=run2.fit.dual lo gv;show(Be,lf,tight,zme en);rw[xfe pok.nn (okk n).ok mykr] at dual;rw[zpT] at lf tight;have et:totI w' Dt=totI w' prs:=aa
  have sf:Same H3 (i6 H4 qt LH (totI w' Dt)):=s4.trans (bM hqt);refine q _ qt ln qs3 Dt cs so ho (((iz).trans s3).trans sf) xk (sf _ _ e3) (pr3.keep (Same.tups sf)) run ?_ enk (okk n) mykr cn;ext aQ et lf
noncomputable def xgq (w h:Nat) (ps:am) (ss srt:ai) (prs:aE):Prop:=∃ cs so ho,BJ/\prs.map (·.1.nm)=ff/\(aP,X1,DY,WQ,xd4 hU ff zdm)
noncomputable def nowP (ps:am) (p:Pr):Pr:=((W5 aV).getD aL,bJ)
theorem xjb {ps:am} (p:Pr):(jh (nowP ps p))=aV:=by
 unfold nowP;cases e:W5 aV with
 | none=>rfl
 | some z=>simpa using Qr e
theorem PrsL.now {H:Hp}{ps:am}{prs:aE}{qs:ax} (h:lQ):PrsL H (prs.map (nowP ps)) qs:=by
 induction h with
 | nil=>ext ia
 | @cons p q prs qs h _ ih =>
  ext zdQ;unfold prV at h ⊢;ext aQ xjb h
theorem xth {ps:am} (nd:EQ) {p:Pr} (h:aV∈eC):(Gj,jh (nowP ps p),(nowP ps p).1):=by
 rw[xjb];ext rp z hz e h;show(h9,f,xdo nd hz,e);unfold nowP;rw[f];rfl
inductive xsv (t:Adr) (vs:af) (H:Hp) (Q:VK) (_:XK):Prop
 | mk (a lp dp do_:Addr) (w h:Nat) (ps:am) (ss srt:ai) (prs:aE) (qs:ax) (e_:vU lp) (r_:(aq,Dr t H a dp do_ w h ps ss srt,lR,kn,jE,(aq,IO,lQ,sA,zmb,∀ H' b,bF->(FH->∃ prs,zbb/\xgq w h ps ss srt prs)->Q (.bl b) H')))
noncomputable def mvB (prs0:aE) (p:Pr):Bool:=((zjN).map fun r=>!(eJ r.2 bJ)).getD false
inductive xq2 (vs:af) (H:Hp) (Q:VK) (_:XK):Prop
 | mk (lb ln:Addr) (prs0 prs:aE) (qs0 qs:ax) (e_:vs=(ip,.ref lb,ln)) (r_:(aR lb (.lst (qs0.map V.ref)))/\PrsL H prs0 qs0/\(prs0.map (·.1.nm)).Nodup/\(aq,prs0.length<=12,aR ln jS,lQ,sA,∀ H' l ys,bF->H' l=some (.lst ys)->(fF l H')))
theorem Sd.no {H:Hp}{prs:aE}{kvs:bw} (h:Sd H prs kvs) {nm:Str} (e:prs.find? (fun r=>eJ FJ nm)=none):yP=none:=by
 have k:=h.keys;refine xhr (du m);rw[k] at m;ext Eh ep m;have:=J7.mp e p hp;simp at this;exact this (Ja.inj ep)
theorem ok_bc (T:aF):FnOk true P w K mg base aD 10 t.f_bc t.d_bc iu (xsv t):=by
 refine T.F_bc.okn (k:=9) sc_bc (aJ h) (fun cdv A outer s H vs Q E hr h=>?_)
 .obtain ⟨a,lp,dp,do_,w',h',ps,ss,srt,prs0,qs,rfl,_⟩:=h;rfl
 .obtain ⟨a,lp,dp,do_,w',h',ps,ss,srt,prs0,qs,rfl,h⟩:=h;refine⟨_,xh (pS 2 sc_bc.nd (pC (xg3 T) hr T.g_kept T.F_kept.kp T.b_kept zj))
   (xh (jI (lq (pC (ok_bg T) hr T.g_bg T.F_bg.kp T.b_bg (kg 0 2 1))) qO)
   (xh (Od (pC (xhp T) hr T.g_least T.F_least.kp T.b_least KM) 3 sc_bc.nd (gG 4 sc_bc.nd 5))
   (cC (xc2 (xcv xb5 (pC (xe2 T) hr T.g_total T.F_total.kp T.b_total pH) (pC (xe2 T) hr T.g_total T.F_total.kp T.b_total (gm 0 3)) dO) (xei (xcv xlm (pC (xdy T) hr T.g_exchangeable T.F_exchangeable.kp T.b_exchangeable pH) (xc3) dO)))))),?_⟩
  refine sq4 ?_; intros; obtain⟨dr,pok,w30,h16,hlp,pl0,⟨l12,rows,q⟩⟩:47:=h;show(cB,nnd,EQ,pok.nn,pl,pl0.now (ps:=ps));have prow:∀ p∈NQ,(rO d6 d6 hZ):=fun p hp=>by
   ext dY p0 hp0 hp;exact rows p0 hp0
  have pfd:∀ p∈NQ,aV∈eC->(Gj aV aL):=fun p hp hn=>by
   ext dY p0 hp0 hp;rw[xjb] at hn;exact xth nnd hn
  have l12:Kz NQ:=gC l12
  revert pl prow pfd l12;generalize NQ=prs;intro pl prow pfd l12;show(znJ,⟨a,dp,do_,w',h',ps,ss,srt,rfl,dr,nnd,fun H1 l1 cs so ho s1 f1 e1 run=>?_⟩); ext Vf;have kl:Kz ff:=by
   ext zje
  have okp:prs.map (fun p=>aV)=ff->(C9 mC hZ):=fun en p hp=>by
   have hn:aV∈eC:=by
    have:aV∈ff:=GM en vK
    exact rb this
   show(ah,f,pfd p hp hn,o,pok.ok _ (Z7 f));exact⟨o.nm,f,(prow p hp).1,(prow p hp).2,bR o.x1 o.x2 o.y1 o.y2⟩
  refine⟨a,l1,lp,dp,do_,w',h',ps,ss,srt,ff,prs,qs,rfl,⟨47,rT s1,e1,iO hlp,Oq s1,l12,aK en p hp,fun H2 s2=>(cA,ite2 (fun c=>q _ false iz dF) (du c))⟩⟩
  .have o:=okp en p hp;exact bR o.nm o.fd o.r1 o.r2
  have gv:gvB srt ff prs=true:=jU
  unfold gvB at gv;rw[ZE,ZE,decide_eq_true_iff,decide_eq_true_iff,Qj] at gv;ext iW g1 g2 g3 gv;have ok:=okp g1;have my:DY:=fun p hp=>by
   have z:=g3 p hp;ext yh ZE decide_eq_true_iff
  have gp:GPr ps mC hZ prs:=⟨ok,aB g1 knd,g2,l12⟩
  show(NK,⟨a,l1,dp,do_,w',h',ps,ss,srt,ff,rfl,⟨47,rT s02,pok,dy e1,xi1,knd,kl,(U0,fun H3 tp lp2 d_o d_r qs2 prs2 own rent so' ho' s3 htp hlp2 pl2 en2 al ow rn run2 _ _ _ _=>Rs)⟩⟩);ext zaF;show(sQ,gp2,my2,xf8 pok dr.ok dr.pm en2 knd kl al run2,⟨a,dp,do_,lp,w',h',ps,prs,qs,rfl,⟨46,(rT s03).pic,s03 _ _ hlp,Oq s03,ok,l12,IF⟩⟩);have s04:=s03.trans s4;refine⟨a,dp,do_,lp2,w',h',ps,prs2,qs2,rfl,⟨46,(rT s04).pic,cm hlp2,pl2.keep (Same.tups s4),gp2.ok,gp2.le,au H5 s5⟩⟩;have s05:=s04.trans s5;refine(j6,FW c (fun c=>q _ false s05 dF));show(mX,eT,Rx,totI mC prs2,V.int.inj (of_decide_eq_true c),⟨a,dp,do_,lp,w',h',ps,ss,prs,qs,rfl,⟨46,(rT s05).pic,(rT s05).sts,s05 _ _ hlp,Oq s05,ok,b9 H6 v s6 tv⟩⟩);show(ah,s06,s05.trans s6,lo,MJ);obtain⟨lf,_,_⟩:43:=zme en2;rw[xfe pok.nn gp2.ok my2,<- eT] at lf;rcases tv with⟨e,rfl⟩|⟨c,q6,qc,e,rfl,_⟩
  .refine (cp,q _ _ s06 fun _=>⟨prs,Oq s06,⟨106,cs,so,ho,run,g1,gp,my,?_,lf⟩⟩);exact List.head?_eq_none_iff.mp e
  .refine (cp,q _ _ s06 nX);simp at z
theorem ok_ax (T:aF):FnOk true P w K mg base aD 1 t.f_ax t.d_ax ["before", "now"] (xq2):=by
 refine T.F_ax.okn (k:=0) sc_ax (aJ h) (fun cdv A outer s H vs Q E hr h=>?_)
 .obtain ⟨lb,ln,prs0,prs,qs0,qs,rfl,_⟩:=h;rfl
 .obtain ⟨lb,ln,prs0,prs,qs0,qs,rfl,h⟩:=h;refine⟨_,xh (zX 2 sc_ax.nd (CF (xa4 rfl (xaw (zs:=C1) (ys:=[]) (fr:=[]) (N0:=Vk) (sc0:=xm s_ax) aG rfl rfl rfl) (xaj (pv 0)) rY sw dR zkB)))
   (cC (xa4 rfl (xaw (zs:=C1) (ys:=["seats"]) (fr:=[2]) (N0:=Vk) (sc0:=xm s_ax) aG rfl rfl rfl) sW rY sw (OI (xae (r:=rNeV K) D1 (xlb gz fJ aM B7 GW) B7 dO)) uU)),?_⟩
  refine sq2 ?_; intros; obtain⟨hlb,pr0,nd,len,hln,pr,⟨len2,q⟩⟩:47:=h;show(ah,ql0,pr0.len,ql,pr.len);show(lz,gH lb hlb l1 hl1,xba (aW hlb) (gC,Fs qs0.length 13) hl1 (zku prs0) (fun i y H H' tp ⟨p,q,t,a1,a2,a3,a4⟩=>⟨104,p,q,t,a1,a2,jO a3,jO a4⟩) (fun i x H2 hx s2 N hN=>?_) (fun ys H1 s1 el1 ly f1=>?_))
  .rw [Zc] at hx;ext Ex;show(ag,p,hpp,ep,(pr0.keep (Same.tups s2)).get ho);show(pZ,o,ep,⟨cS,fun q1 hq1=>iF cS q2 hq2⟩);ext zfT;exact lJ (sa.trans sb) ⟨104,p,q2,q1,hpp,rfl,xk,sb _ _ xk⟩
  rw[Za,ql0] at ly;obtain⟨ws,kvs,rfl,w2,w3,sd1⟩:84:=xnf (H:=H1) (prs:=prs0) (ys:=ys) ly fun i y p hy hp=>by
   obtain⟨p',q',t',a1,a2,a3,a4⟩:104:=f1 i y hy;ext zjD
  have kl:=sd1.len;have knd:(kvs.map (·.1)).Nodup:=by
   ext zff
  ext zev;generalize eu:gq H1 d kvs=H2;ext oW s2 hd g2;show(ah,s02,s1.trans s2,hln2,s02 _ _ hln);show(lz,gH ln hln2 l3 hl3,xdw (aW hln2) V1 hl3 (fun i=>((prs[i]?).map (mvB prs0)).getD false) (fun _ _ _=>True) lL (fun i x H3 hx s3 N M hN hM=>?_) (fun ys H3 s3 e3 _ _=>q H3 l3 ys (s02.trans s3) e3));rw[Zc] at hx;ext Ex;show(ag,p,hpp,ep,(pr.keep (Same.tups (s02.trans s3))).get ho);show(ah,g3,E2,sd3,(znq).keep (Same.tups s3));show(pZ,o,ep,(ib,d,rfl,.inl (gD,.inl g3),cS,au q1 hq1));show(C3,(i6,H3,q1,iE i8,d6),hq1);have g4':(ae,H4 q1,tO bJ):=g4;have dg:DGet H4 d (.str aV) (Ia aV):=Ci aV (cm g3);obtain⟨t1,s0,ht1,ev,em⟩:∃ t1 s0,(ae,H4 t1,tO s0)/\(eO,(Ia aV).getD (.ref q1),t1)/\mvB prs0 p=!(eJ s0 bJ):=by
   unfold mvB;cases ef:zjN with
   | none=>exact bD q1 bJ g4' (eB,sd3.no ef) aj
   | some r =>
    have er:FJ=aV:=(Eb,Qr ef)
    show(ag,t1,ht1,ht2,(sd3.keep (Same.tups s4)).find nd (Z7 ef));rw[er] at ht1;exact(bD,t1,r.2,ht2,eB ht1,rfl)
  refine(bS,_,dg,cS,au q2 hq2);rw[ev];show(aw,s5,Same H4 (i6,H4,q2,iE i8,d6),bM hq2,⟨1,1,xcj s0,xcj bJ,xfn (cG ht1),(mz,xfn (s:=bJ) xk,vQ)⟩)
  .rw [xhj] at c;exact (hN _ _ zdv (by rw[hpp]; exact em.trans c) trivial)
  .rw [xhj] at c;exact hM _ zdv (aB,hpp,em.trans (Jb.mpr c))
theorem xvo {nm:Str}{x y:Int} (p:Pt):(HN).nm=p.nm:=by
 unfold mvP;split<;>rfl
theorem xxy {w h:Int}{ps:am} (o:RY) {nm:Str}{x y:Int} (x1:1<=x) (x2:x<=w) (y1:1<=y) (y2:y<=h) (no:zhG):xbv w h (ps.map (mvP nm x y)):=by
 have pwn:(Xl,p.nm≠q.nm):=Vb o.nn
 have pwx:(Xl,p.x≠q.x):=Vb o.nx
 show(aw,pwy,(Xl,p.y≠q.y),Vb o.ny,⟨kS,?_,?_,?_,gC o.le⟩)
 .show(hX,p',hp',rfl,Zg.mp hp);have k:=o.ok p' hp';unfold mvP;split
  .exact ⟨k.nm,x1,x2,y1,y2,k.sd,k.l1,k.l2,k.l3⟩
  .exact k
 .rw [Z4,(dU,((fun p:Pt=>p.nm)∘mvP nm x y),fun p=>p.nm,funext xvo)];exact o.nn
 .rw [Z4,Jn,ZW];refine (pwn.and pwx).imp_of_mem fun {p q} hp hq ⟨n1,n2⟩=>?_;show (HN).x≠(mvP nm x y q).x;unfold mvP;ext IZ
  .show(zkR,(ao,(ziY).1 z.symm))
  .ext d8 c;by_cases c2:q.nm=nm
   .show(eE,LA,(no p hp c).1)
   .ext eE LC n2
 .rw [Z4,Jn,ZW];refine (pwn.and pwy).imp_of_mem fun {p q} hp hq ⟨n1,n2⟩=>?_;show (HN).y≠(mvP nm x y q).y;unfold mvP;ext IZ
  .show(zkR,(ao,(ziY).2 z.symm))
  .ext d8 c;by_cases c2:q.nm=nm
   .show(eE,LA,(no p hp c).2)
   .ext eE LC n2
theorem xbv.snoc {w h:Int}{ps:am} (o:RY) {p:Pt} (k:PtOk w h p) (n1:∀ q∈ps,q.nm≠p.nm) (n2:p.x∉ps.map (·.x)) (n3:p.y∉ps.map (·.y)) (l:PY):xbv w h EY:=by
 refine⟨au q hq,?_,?_,?_,aB Zr l⟩
 .rcases Zy.mp hq with z|z
  .exact o.ok q z
  .ext eE E7 k
 .show(Vc,o.nn);ext dY q hq ha;ext zcT;exact n1 q hq e
 .show(Vc,o.nx);ext zcT;exact n2 (e▸ha)
 .show(Vc,o.ny);ext zcT;exact n3 (e▸ha)
noncomputable abbrev hnP (pa:Addr):iS:=[iP "picture" pa]
noncomputable abbrev hnF (pa lg:Addr):iS:=[iP "picture" pa,iP "given" lg]
theorem hlkP {pa lg:Addr}:(Ki).lookup (dD "picture")=(aC pa):=by
 unfold hnF;show(uR,"picture")
theorem hlkG {pa lg:Addr}:(Ki).lookup (dD "given")=(aC lg):=by
 unfold hnF;show(CT,"given","picture","given",[("given",V.ref lg)]);show(uR,"given")
theorem xbi {pa lg:Addr}{m:Str} (e:((Bg "given":ap).all fun k=>Sv)=true):(Ki).lookup m=none:=by
 ext Mw;ext Be e1 e2 e;unfold hnF;show(Hg,e1,[("given",V.ref lg)]);rw[Zx,e2];rfl
theorem xw4 {pa lg x:Addr}:putF (dD "given") rC Ki=hnF pa x:=jz
structure HnO (t:Adr) (H:Hp) (hd pa dp do_ lg:Addr) (w h:Nat) (ps:am) (ss srt:ai):Prop where
 ins:∃ dx,aR hd (EO Ki)
 dr:Dr t H pa dp do_ w h ps ss srt
 pok:lR
 b:kn/\h<=16
 ne:pa≠hd
structure Gvn (H:Hp) (lg:Addr) (prs:aE) (qs:ax) (h:Nat):Prop where
 hl:aR lg jS
 pl:lQ
 nn:(prs.map (·.1.nm)).Nodup
 le:sA
 rw:zmb
noncomputable def Hn (t:Adr) (H:Hp) (hd pa dp do_ lg:Addr) (w h:Nat) (ps:am) (ss srt:ai) (prs:aE) (qs:ax):Prop:=HnO t H hd pa dp do_ lg w h ps ss srt/\oS/\xgq w h ps ss srt prs
theorem HnO.same {t:Adr}{H H':Hp}{hd pa dp do_ lg:Addr}{w h:Nat}{ps:am}{ss srt:ai} (k:HnO t H hd pa dp do_ lg w h ps ss srt) (s:bF):HnO t H' hd pa dp do_ lg w h ps ss srt:=(zba,let ⟨dx,e⟩:=k.ins; lF qT,k.dr.same s)
theorem Gvn.same {H H':Hp}{lg:Addr}{prs:aE}{qs:ax}{h:Nat} (k:oS) (s:bF):zdL H':=⟨s _ _ k.hl,k.pl.keep (Same.tups s),k.nn,k.le,k.rw⟩
theorem Hn.same {t:Adr}{H H':Hp}{hd pa dp do_ lg:Addr}{w h:Nat}{ps:am}{ss srt:ai}{prs:aE}{qs:ax} (k:Hn t H hd pa dp do_ lg w h ps ss srt prs qs) (s:bF):Hn t H' hd pa dp do_ lg w h ps ss srt prs qs:=⟨k.1.same s,(bg k).same s,bX k⟩
theorem xgq.gv {w h:Nat}{ps:am}{ss srt:ai}{prs:aE} (a:xgq w h ps ss srt prs) {H:Hp}{lg:Addr}{qs:ax} (hl:aR lg jS) (pl:lQ):oS:=by
 obtain⟨cs,so,ho,_,_,gp,_⟩:104:=a;exact⟨hl,pl,gp.nn,gp.le,dS ⟨(gp.ok p hp).r1,(gp.ok p hp).r2⟩⟩
inductive xt8 (t:Adr) (vs:af) (H:Hp) (Q:VK) (_:XK):Prop
 | mk (hd pa dp do_ lg:Addr) (w h:Nat) (ps:am) (ss srt:ai) (e_:AG) (r_:HnO t H hd pa dp do_ lg w h ps ss srt/\∀ H' l cs so ho,vN bF (gR l (.lst ((ff).map V.str))) BJ l)
inductive xu9 (t:Adr) (vs:af) (H:Hp) (Q:VK) (_:XK):Prop
 | mk (hd pa dp do_ lg:Addr) (w h:Nat) (ps:am) (ss srt:ai) (e_:AG) (r_:HnO t H hd pa dp do_ lg w h ps ss srt/\∀ H' l qs cs so ho,(j3,bF,Ku,OutL H' cs qs,BJ,l))
inductive xrg (t:Adr) (vs:af) (H:Hp) (Q:VK) (_:XK):Prop
 | mk (hd pa dp do_ lg:Addr) (w h:Nat) (ps:am) (ss srt:ai) (qs:ax) (e_:AG) (r_:HnO t H hd pa dp do_ lg w h ps ss srt/\(aR lg jS)/\∀ H' l,bF->Ku->(fF l H'))
inductive xri (t:Adr) (vs:af) (H:Hp) (Q:VK) (_:XK):Prop
 | mk (hd pa dp do_ lg:Addr) (w h:Nat) (ps:am) (ss srt:ai) (prs:aE) (qs:ax) (e_:AG) (r_:Hn t H hd pa dp do_ lg w h ps ss srt prs qs/\(vV (K7 zdm)))
inductive xwc (t:Adr) (vs:af) (H:Hp) (Q:VK) (_:XK):Prop
 | mk (hd pa dp do_ lg:Addr) (w h:Nat) (ps:am) (ss srt:ai) (e_:AG) (r_:HnO t H hd pa dp do_ lg w h ps ss srt/\∀ H' a' dp' do',bF->(j3,bo a',bo dp',bo do',Dr t H' a' dp' do' w h ps srt srt,a'))
noncomputable def Told (H:Hp) (tp:Addr) (w:Nat) (ps:am) (srt:ai) (prs:aE):Prop:=∃(lo lm:Addr) (ys:af) (cs:dG) (so:bB) (ho:aI),(eR tp [.ref lo,.int zdm,.ref lm])/\H lo=some (.lst ((cs.map (·.1)).map V.str))/\(vd lm ys)/\BJ
inductive xoq (t:Adr) (vs:af) (H:Hp) (Q:VK) (_:XK):Prop
 | mk (hd pa dp do_ lg:Addr) (w h:Nat) (ps:am) (ss srt:ai) (prs:aE) (qs:ax) (e_:AG) (r_:HnO t H hd pa dp do_ lg w h ps ss srt/\oS/\∀ H' tp lg' prs' qs',(vN,sj hd,Hn t H' hd pa dp do_ lg' w h ps ss srt prs' qs',Told H' tp w ps srt prs',tp))
inductive xs1 (t:Adr) (vs:af) (H:Hp) (Q:VK) (_:XK):Prop
 | mk (hd dx a dp0 do0:Addr) (w h:Nat) (ps:am) (ss srt:ai) (e_:vs=[.ref hd,bb]) (r_:(aR hd (EO []))/\(aq,Dr t H a dp0 do0 w h ps ss srt,lR,kn,jE,∀ H' pa dp do_ lg prs qs,(sj hd)->(bc,bo pa,bo dp,Ty,Hn t H' hd pa dp do_ lg w h ps srt srt prs qs,l9)))
theorem Dr.but {t:Adr}{H H':Hp}{hd C dx a dp do_:Addr}{fs:iS}{w h:Nat}{ps:am}{ss srt:ai} (d:Dr t H a dp do_ w h ps ss srt) (e:aR hd Bq) (ne:a≠hd) (k:sj hd):Dr t H' a dp do_ w h ps ss srt:=by
 show(aw,tp,jZ,fun b xs eb=>WA,⟨⟨let ⟨x,eb⟩:=d.pic.ins; ⟨x,k _ _ ne eb⟩,let ⟨kv,eb,q⟩:=d.pic.pl; ⟨kv,WA,q.keep tp⟩,d.pic.w1,d.pic.w2,d.pic.h1,d.pic.h2,d.pic.len⟩,?_,d.ok,d.pm,d.lt,d.nm⟩);show(ag,kv,eb,r,d.sts)
 ext aH kv WA r
theorem ok_a4 (T:aF):FnOk true P w K mg base aD 10 t.f_a4 t.d_a4 iD (xt8 t):=by
 refine T.F_a4.okn (k:=9) sc_a4 (aJ h) (fun cdv A outer s H vs Q E hr h=>?_)
 .obtain ⟨hd,pa,dp,do_,lg,w',h',ps,ss,srt,rfl,_⟩:=h;rfl
 .obtain ⟨hd,pa,dp,do_,lg,w',h',ps,ss,srt,rfl,h⟩:=h;show(mF,pC (xg3 T) hr T.g_kept T.F_kept.kp T.b_kept Lr);ext gK k h;ext sL;exact⟨hd,_,dx,_,_,rfl,sv ⟨pa,dp,do_,w',h',ps,ss,srt,rfl,k.dr,k.pok.nn,fun H1 l1 cs so ho s1 f1 e1 run=>q H1 l1 cs so ho s1 e1 run⟩⟩
theorem ok_x (T:aF):FnOk true P w K mg base aD 9 t.f_x t.d_x iD (xu9 t):=by
 refine T.F_x.okn (k:=8) sc_x (aJ h) (fun cdv A outer s H vs Q E hr h=>?_)
 .obtain ⟨hd,pa,dp,do_,lg,w',h',ps,ss,srt,rfl,_⟩:=h;rfl
 .obtain ⟨hd,pa,dp,do_,lg,w',h',ps,ss,srt,rfl,h⟩:=h;show(mF,pC (ok_bj T) hr T.g_bj T.F_bj.kp T.b_bj Lr);ext gK k h;ext sL;exact⟨hd,_,dx,_,_,rfl,sv ⟨pa,dp,do_,w',h',ps,ss,srt,rfl,k.dr,k.pok.nn,fun H1 l1 qs cs so ho s1 f1 e1 ol run of=>q H1 l1 qs cs so ho s1 e1 ol run⟩⟩
theorem ok_a2 (T:aF):FnOk true P w K mg base aD 1 t.f_a2 t.d_a2 iD (xrg t):=by
 refine T.F_a2.okn (k:=0) sc_a2 (aJ h) (fun cdv A outer s H vs Q E hr h=>?_)
 .obtain ⟨hd,pa,dp,do_,lg,w',h',ps,ss,srt,qs,rfl,_⟩:=h;rfl
 .obtain ⟨hd,pa,dp,do_,lg,w',h',ps,ss,srt,qs,rfl,h⟩:=h;show(mF,zoH xgo bi);ext oE k hl;ext sL;exact⟨hd,_,dx,_,_,rfl,Fw hp T.n_b1 hlkG (Fl,lg,hl,fun l1 hl1=>q _ l1 (bM hl1) xk)⟩
theorem ok_aj (T:aF):FnOk true P w K mg base aD 7 t.f_aj t.d_aj iD (xri t):=by
 refine T.F_aj.okn (k:=6) sc_aj (aJ h) (fun cdv A outer s H vs Q E hr h=>?_)
 .obtain ⟨hd,pa,dp,do_,lg,w',h',ps,ss,srt,prs,qs,rfl,_⟩:=h;rfl
 .obtain ⟨hd,pa,dp,do_,lg,w',h',ps,ss,srt,prs,qs,rfl,h⟩:=h;show(mF,pC (xe2 T) hr T.g_total T.F_total.kp T.b_total (gP bi bi));obtain⟨⟨k,g,an⟩,q⟩:=h;ext sL;obtain⟨cs,so,ho,_,_,gp,_⟩:104:=an;exact⟨hd,_,dx,_,_,rfl,sv ⟨hd,_,dx,_,_,rfl,hp,T.c_ao,T.n_b1,hlkG,pa,dp,do_,lg,w',h',ps,prs,qs,rfl,k.dr.pic,g.hl,g.pl,gp.ok,gp.le,fun H1 s1=>q _ s1⟩⟩
theorem ok_q (T:aF):FnOk true P w K mg base aD 8 t.f_q t.d_q iD (xwc t):=by
 refine T.F_q.okn (k:=7) sc_q (aJ h) (fun cdv A outer s H vs Q E hr h=>?_)
 .obtain ⟨hd,pa,dp,do_,lg,w',h',ps,ss,srt,rfl,_⟩:=h;rfl
 .obtain ⟨hd,pa,dp,do_,lg,w',h',ps,ss,srt,rfl,h⟩:=h;show(mF,xah bi T.c_a T.m_y (ok_y T) aA T.b_y .nil xq);ext gK k h;ext sL;show(uY,dx2,hpa,k.dr.pic);refine⟨hd,_,dx,_,_,rfl,sv ⟨pa,dx2,_,rfl,hpa,bn,pa,dp,do_,_,_,ps,ss,rfl,k.dr.pic,k.dr.sts,k.pok,k.dr.ok,fun H1 a' dp' do' ss' s1 f1 f2 f3 pm lt pic' st'=>?_⟩⟩;show(A7,ss',pm.trans k.dr.pm.symm,lt,k.dr.lt);rw[List.map_id'] at pic' st';exact q H1 a' dp' do' s1 f1 f2 f3 ⟨pic',st',k.dr.ok.perm pm,Bl,lt,k.dr.nm⟩
theorem ok_w (T:aF):FnOk true P w K mg base aD 11 t.f_w t.d_w iD (xoq t):=by
 refine T.F_w.okn (k:=10) sc_w (aJ h) (fun cdv A outer s H vs Q E hr h=>?_)
 .obtain ⟨hd,pa,dp,do_,lg,w',h',ps,ss,srt,prs,qs,rfl,_⟩:=h;rfl
 .obtain ⟨hd,pa,dp,do_,lg,w',h',ps,ss,srt,prs,qs,rfl,h⟩:=h;refine⟨_,xh (pS 1 sc_w.nd bi)
   (xh (Bb (lq (pC (ok_bc T) hr T.g_bc T.F_bc.kp T.b_bc (xa bi fD))) (DW (IX (pC (xj2 T) hr T.g_answer T.F_answer.kp T.b_answer Lr))))
   (xh (xcp rfl (xaw (zs:=zqq) (ys:=[]) (fr:=[]) (N0:=zqd) (sc0:=xm s_w) aG rfl rfl rfl) (xaj (xah aM T.c_ao T.m_x (ok_x T) aA T.b_x .nil xq)) zK B4 dR uU (j:=2) rfl ro)
   (sS (pX 2 (xah aM T.c_ao T.m_aj LB aA T.b_aj .nil xq) (pC (ok_ax T) hr T.g_ax T.F_ax.kp T.b_ax (gS 1 bi)))))),?_⟩
  refine sq4 ?_; intros; ext oE k g;ext sL;show(sQ,w30,h16,k.b,⟨hd,_,dx,_,_,rfl,Fw hp T.n_b1 hlkG ?_⟩)
  show(CZ,∃ lg' prs' qs',(sj hd)/\Hn t H' hd pa dp do_ lg' w' h' ps ss srt prs' qs'/\σ'=[yO,aC lg,none])
  ext BB
  .ext lN; refine⟨hd,_,dx,_,_,rfl,sv ⟨pa,lg,dp,do_,w',h',ps,ss,srt,prs,qs,rfl,k.dr,k.pok,w30,h16,g.hl,g.pl,g.le,g.rw,fun H1 b s1 ans=>vQ⟩⟩
   .refine ⟨hd,_,dx,_,_,rfl,Fw gQ T.n_bt hlkP ⟨pa,dp,do_,w',h',ps,ss,srt,rfl,k.dr.same s1,k.pok,w30,h16,fun H2 tp ln qs2 prs2 cs so ho s2 htp hln pl2 run lf en gp my cn=>Vo⟩⟩;show(ah,s02,s1.trans s2,hp2,s02 _ _ hp);refine⟨126,hd,_,dx,_,rfl,hp2,T.c_ao,T.n_b1,(kK 2),?_⟩;rw[xw4];have kp:∀ b u,b≠hd->(ae,H2 b,u)->(oB H2 hd (EO (hnF pa ln))):=fun b u nb e=>by
     ext LW
    have tp2:Tups H2 (upd H2 hd (EO (hnF pa ln))):=(iI,kp _ _ (ne_f e hp2) e);have an:xgq w' h' ps ss srt prs2:=⟨106,cs,so,ho,run,en,gp,my,cn,lf⟩
    exact⟨103,ln,prs2,qs2,(tG,kp _ _ nb (s02 _ _ e)),zgR (zba,Fg,(k.dr.same s02).but hp2 k.ne kp) hp2,rfl⟩
   .have b1:FH:=jU
    show(ag,prs',pl',an,ans b1);exact⟨103,lg,prs',qs,fun b u _ e=>jy,⟨k.same s1,an.gv (iO g.hl) pl',an⟩,rfl⟩
  rintro _ H1 (⟨lg',prs',qs',k1,hn,rfl⟩:103);show(sQ,dx1,hp1,hn.1.ins,⟨hd,dx1,_,rfl,hp1,fC,hd,pa,dp,do_,lg',w',h',ps,ss,srt,rfl,hn.1,fun H2 lo os cs so ho s2 e2 ol run=>gH lo e2 l3 hl3⟩);have oll:=ol.len;show(ah,cl,IQ,p12,k.pok.le);ext Nx
  refine xba (aW e2) np hl3 Md lL (fun j x H5 hx s5 N hN=>?_) (fun ys H3 s3 e3 ly fy=>?_)
  .show(NN,lc,hq,ol.get hqa);show(Gq,cG hq,SO)
  have ey:ys=(cs.map (·.1)).map V.str:=by
   ext zlN oll
  subst ey;have s13:=s2.trans s3;show(ah,hn3,hn.same s13,hp3,s13 _ _ hp1);refine⟨hd,dx1,_,rfl,hp3,fC,hd,pa,dp,do_,lg',w',h',ps,ss,srt,prs',qs',rfl,hn3,IF⟩;show(ah,s14,s13.trans s4,hn4,hn.same s14);ext iW ho1 ho2 ho3 hn4;have k4:o8 hd iY (ae,H4 b,u):=(tG,s14 _ _ zdo);show(aw,t4,Tups H H4,(iI,k4 _ _ (ne_f e hp) e),⟨hd,_,dx1,_,_,rfl,(Fw,cm hp3,T.n_b1,hlkG,⟨lg,lg',prs,prs',qs,qs',rfl,k4 _ _ (ne_f g.hl hp) g.hl,g.pl.keep t4,g.nn,g.le,ho2.hl,ho2.pl,ho2.le,fun H5 lm ys s5 e5=>iF tD tp htp⟩)⟩);show(cB,s6,Same H5 (fA H5 tp [.ref l3,.int (totI mC prs'),.ref lm]),bM htp,s16,s14.trans (s5.trans s6));exact q _ tp lg' prs' qs' (tG,s16 _ _ zdo) (hn.same s16) (dk l3 lm ys cs ⟨84,so,ho,xk,(s4.trans AU) _ _ e3,dP e5,run⟩)
theorem ok_bd (T:aF):FnOk true P w K mg base aD 11 t.f_bd t.d_bd uO (xs1 t):=by
 refine T.F_bd.okn (k:=10) sc_bd (aJ h) (fun cdv A outer s H vs Q E hr h=>?_)
 .obtain ⟨hd,dx,a,dp0,do0,w',h',ps,ss,srt,rfl,_⟩:=h;rfl
 .obtain ⟨hd,dx,a,dp0,do0,w',h',ps,ss,srt,rfl,h⟩:=h;refine⟨_,xh (Fi (xah cF T.c_a T.m_y (ok_y T) aA T.b_y .nil xq))
   (DW (IX (pC (xj2 T) hr T.g_answer T.F_answer.kp T.b_answer Lr))),?_⟩
  refine sq2 ?_; intros; obtain⟨hp,dr,pok,w30,h16,q⟩:46:=h;show(uY,dx2,hpa,dr.pic);refine⟨a,dx2,_,rfl,hpa,bn,a,dp0,do0,_,_,ps,ss,rfl,dr.pic,dr.sts,pok,dr.ok,fun H1 a' dp' do' ss' s1 f1 f2 f3 pm lt pic' st'=>?_⟩;show(A7,ss',pm.trans dr.pm.symm,lt,dr.lt);rw[List.map_id'] at pic' st';show(dN,hp1,gQ,⟨126,hd,_,dx,_,rfl,hp1,T.c_ao,T.n_bt,(kK 0),?_⟩);rw[show putF (dD "picture") (.ref a') []=(hnP a') from rfl];show(ki,na,a',hd,sE hp f1)
  have dr1:Dr t H1 a' dp' do' w' h' ps ss' ss':=⟨pic',st',dr.ok.perm pm,Bl,lt,dr.nm⟩
  have k2:∀ b u,b≠hd->(ae,H1 b,u)->(oB H1 hd M9):=fun b u nb e=>by
   ext LW
  show(cB,g2,kZ H1 hd M9 hd M9,xk,dr2,dr1.but hp1 na k2);revert k2 g2 dr2;generalize upd H1 hd M9=H2;intro k2 g2 dr2;refine⟨hd,_,dx,_,_,rfl,Fw g2 T.n_bt (show Je (dD "picture") (hnP a')=(aC a') by unfold hnP; show(uR,"picture")) ⟨a',dp',do',w',h',ps,ss',ss',rfl,dr2,pok,w30,h16,fun H3 tp ln qs2 prs2 cs so ho s3 htp hln pl2 run lf en gp my cn=>Vo⟩⟩;show(dN,hp3,E2,⟨126,hd,_,dx,_,rfl,hp3,T.c_ao,T.n_b1,(kK 1),?_⟩);rw[(dU,putF (dD "given") LH (hnP a'),hnF a' ln,rfl)];have kp:∀ b u,b≠hd->(ae,H3 b,u)->(oB H3 hd (EO (hnF a' ln))):=fun b u nb e=>by
   ext LW
  have tp2:Tups H3 (upd H3 hd (EO (hnF a' ln))):=(iI,kp _ _ (ne_f e hp3) e);show(jF,an,xgq w' h' ps ss' ss' prs2,⟨106,cs,so,ho,run,en,gp,my,cn,lf⟩,q _ a' dp' do' ln prs2 qs2 (tG,kp _ _ nb (fK (k2 _ _ nb jy))) f1 f2 f3 (zgR ⟨Fg,(dr2.same s3).but hp3 na kp,pok,⟨w30,h16⟩,na⟩ hp3))
noncomputable def DRes (t:Adr) (H:Hp) (hd pa dp do_:Addr) (w h:Nat) (Q:VK):Prop:=∀ H' tp ps' ss' srt' lg' prs' qs',(UN iY (ae,H' b,u))->Hn t H' hd pa dp do_ lg' w h ps' ss' srt' prs' qs'->Told H' tp w ps' srt' prs'->(fF tp H')
section
variable {t:Adr}{H H1:Hp}{hd pa dp do_ lg:Addr}{w h:Nat}{ps ps1:List Pt}{ss ss1 srt:List Seat}{prs:List Pr}{qs:List Addr}
theorem HnO.pts (k:HnO t H hd pa dp do_ lg w h ps ss srt) (g:oS) (kc:o8 dp iY (ae,H1 b,u)) (pic1:Pic t H1 pa dp do_ lD iL ps1) (pok1:xbv lD iL ps1):HnO t H1 hd pa dp do_ lg w h ps1 ss srt/\(zdL H1):=by
 show(iy,kd,hkd,k.dr.pic.pl)
 ext zoa
 exact⟨⟨(lF,kc _ _ (ne_f hp hkd) hp),⟨pic1,⟨ko,kc _ _ (ne_f hko hkd) hko,r⟩,k.dr.ok,k.dr.pm,k.dr.lt,(dS,(pok1.ok p hp).nm)⟩,pok1,k.b,k.ne⟩,kc _ _ (ne_f g.hl hkd) g.hl,zlW hkd,g.nn,g.le,g.rw⟩
theorem HnO.sts (k:HnO t H hd pa dp do_ lg w h ps ss srt) (g:oS) (kc:o8 do_ iY (ae,H1 b,u)) (pic1:Pic t H1 pa dp do_ lD iL ps) (st1:Sts H1 do_ ss1) (ok1:SsOk iL ss1):∃ srt1,HnO t H1 hd pa dp do_ lg w h ps ss1 srt1/\(zdL H1):=by
 ext zoa
 show(ag,srt1,pm,lt,xgm ok1.1);exact⟨srt1,zba (lF,kc _ _ (ne_f hp hko) hp) ⟨pic1,st1,ok1,pm,lt,k.dr.nm⟩,kc _ _ (ne_f g.hl hko) g.hl,zlW hko,g.nn,g.le,g.rw⟩
#check _
inductive xui (t:Adr) (vs:af) (H:Hp) (Q:VK) (_:XK):Prop
 | mk (hd pa dp do_ lg:Addr) (w h:Nat) (ps:am) (ss srt:ai) (prs:aE) (qs:ax) (nm:Str) (x y:Int) (sd:Str) (lo hi:Int) (e_:vs=[LI,tW,uh,wy,Fj,.int lo,.int hi]) (r_:HnO t H hd pa dp do_ lg w h ps ss srt/\(aq,oS,zjh,Ux,PY,DRes t H hd pa dp do_ w h Q))
inductive spGo (t:Adr) (vs:af) (H:Hp) (Q:VK) (_:XK):Prop
 | mk (hd pa dp do_ lg:Addr) (w h:Nat) (ps:am) (ss srt:ai) (prs:aE) (qs:ax) (pt:Pt) (e_:vs=[.ref hd,hW]) (r_:(aP,HnO t H hd pa dp do_ lg w h ps ss srt,oS,LL,DRes t H hd pa dp do_ w h Q))
inductive xrn (t:Adr) (vs:af) (H:Hp) (Q:VK) (_:XK):Prop
 | mk (hd pa dp do_ lg:Addr) (w h:Nat) (ps:am) (ss srt:ai) (prs:aE) (qs:ax) (pt:Pt) (x y:Int) (e_:vs=[LI,hW,uh,wy]) (r_:(aq,HnO t H hd pa dp do_ lg w h ps ss srt,oS,LL,1<=x,(aq,x<=lD,1<=y,y<=iL,zgd,DRes t H hd pa dp do_ w h Q)))
inductive xud (t:Adr) (vs:af) (H:Hp) (Q:VK) (_:XK):Prop
 | mk (hd pa dp do_ lg:Addr) (w h:Nat) (ps:am) (ss srt:ai) (prs:aE) (qs:ax) (b:Bool) (r:Int) (e_:vs=(Bu LI)) (r_:HnO t H hd pa dp do_ lg w h ps ss srt/\(aq,oS,1<=r,r<=iL,ie∉ss,DRes t H hd pa dp do_ w h Q))
inductive xx3 (t:Adr) (vs:af) (H:Hp) (Q:VK) (_:XK):Prop
 | mk (hd pa dp do_ lg:Addr) (w h:Nat) (ps:am) (ss srt:ai) (prs:aE) (qs:ax) (b:Bool) (r:Int) (e_:vs=(Bu LI)) (r_:(aP,HnO t H hd pa dp do_ lg w h ps ss srt,oS,ie∈ss,DRes t H hd pa dp do_ w h Q))
inductive xci (w h:Nat) (ps:am) (ss:ai):af->Prop
 | come (nm:Str) (x y:Int) (sd:Str) (lo hi:Int) (ok:zjh) (no:Ux) (le:PY):ya [.str "come",tW,uh,wy,Fj,.int lo,.int hi]
 | go (pt:Pt) (hp:LL):ya [.str "go",hW]
 | shift (pt:Pt) (x y:Int) (hp:LL) (x1:1<=x) (x2:x<=lD) (y1:1<=y) (y2:y<=iL) (no:zgd):ya [.str "shift",hW,uh,wy]
 | unbar (b:Bool) (r:Int) (r1:1<=r) (r2:r<=iL) (no:ie∉ss):ya (Bu,.str "unbar")
 | bar (b:Bool) (r:Int) (hm:ie∈ss):ya (Bu,.str "bar")
inductive xum (t:Adr) (vs:af) (H:Hp) (Q:VK) (_:XK):Prop
 | mk (hd pa dp do_ lg qd:Addr) (w h:Nat) (ps:am) (ss srt:ai) (prs:aE) (qs:ax) (xs:af) (e_:vs=(ip LI qd)) (r_:(aq,HnO t H hd pa dp do_ lg w h ps ss srt,oS,eR qd xs,ya xs,DRes t H hd pa dp do_ w h Q))
theorem ok_g (T:aF):FnOk true P w K mg base aD 12 t.f_g t.d_g ["self", "name", "x", "y", "sides", "low", "high"] (xui t):=by
 refine T.F_g.okn (k:=11) sc_g (aJ h) (fun cdv A outer s H vs Q E hr h=>?_)
 .obtain ⟨hd,pa,dp,do_,lg,w',h',ps,ss,srt,prs,qs,nm,x,y,sd,lo,hi,rfl,_⟩:=h;rfl
 .obtain ⟨hd,pa,dp,do_,lg,w',h',ps,ss,srt,prs,qs,nm,x,y,sd,lo,hi,rfl,h⟩:=h;refine⟨_,xh (xap (xaf bi T.c_a T.m_b (ok_b T) aA T.b_b .nil xq (o7 cF fH (o7 fJ dw (o7 qm jL (xg))))))
   (cC (xah aM T.c_ao T.m_w (ok_w T) aA T.b_w .nil xq)),?_⟩
  refine sq2 ?_; intros; obtain⟨k,g,o,no,le,q⟩:46:=h;show(TQ,⟨hd,_,dx,_,_,rfl,sv ⟨pa,dx2,_,rfl,hpa,bn,pa,dp,do_,_,_,ps,nm,x,y,sd,lo,hi,.int hi,rfl,k.dr.pic,BA,o.nm,o.x1,o.x2,o.y1,o.y2,o.sd,o.l1,o.l2,o.l3,no,le,zao⟩⟩,(k.pok.snoc o (dS,(no p hp).1) (fun m=>by ext Eh e m; exact (Ry).1 e) (fun m=>by ext Eh e m; exact (Ry).2 e) le),⟨hd,dx,_,rfl,G5 hkd,fC,hd,pa,dp,do_,lg,w',h',_,ss,srt,prs,qs,rfl,k',g',fun H2 tp lg' prs' qs' k2 hn told=>q H2 tp _ _ _ lg' prs' qs' Ur hn told⟩)
theorem ok_bo (T:aF):FnOk true P w K mg base aD 12 t.f_bo t.d_bo jV (spGo t):=by
 refine T.F_bo.okn (k:=11) sc_bo (aJ h) (fun cdv A outer s H vs Q E hr h=>?_)
 .obtain ⟨hd,pa,dp,do_,lg,w',h',ps,ss,srt,prs,qs,pt,rfl,_⟩:=h;rfl
 .obtain ⟨hd,pa,dp,do_,lg,w',h',ps,ss,srt,prs,qs,pt,rfl,h⟩:=h;refine⟨_,xh (xap (xaf bi T.c_a T.m_ar (ok_ar T) aA T.b_ar .nil xq fD))
   (cC (xah aM T.c_ao T.m_w (ok_w T) aA T.b_w .nil xq)),?_⟩
  refine sq2 ?_; intros; ext j4 k g hpt q h;show(TQ,⟨hd,_,dx,_,_,rfl,sv ⟨pa,dx2,_,rfl,hpa,bn,pa,dp,do_,_,_,ps,pt.nm,pt,rfl,k.dr.pic,zpf,xdo k.pok.nn hpt,zao⟩⟩,k.pok.filt _,⟨hd,dx,_,rfl,G5 hkd,fC,hd,pa,dp,do_,lg,w',h',_,ss,srt,prs,qs,rfl,k',g',fun H2 tp lg' prs' qs' k2 hn told=>q H2 tp _ _ _ lg' prs' qs' Ur hn told⟩)
theorem ok_a0 (T:aF):FnOk true P w K mg base aD 12 t.f_a0 t.d_a0 qr (xrn t):=by
 refine T.F_a0.okn (k:=11) sc_a0 (aJ h) (fun cdv A outer s H vs Q E hr h=>?_)
 .obtain ⟨hd,pa,dp,do_,lg,w',h',ps,ss,srt,prs,qs,pt,x,y,rfl,_⟩:=h;rfl
 .obtain ⟨hd,pa,dp,do_,lg,w',h',ps,ss,srt,prs,qs,pt,x,y,rfl,h⟩:=h;refine⟨_,xh (xap (xaf bi T.c_a T.m_as (ok_as T) aA T.b_as .nil xq II))
   (cC (xah aM T.c_ao T.m_w (ok_w T) aA T.b_w .nil xq)),?_⟩
  refine sq2 ?_; intros; obtain⟨k,g,hpt,x1,x2,y1,⟨y2,no,q⟩⟩:47:=h;show(TQ,⟨hd,_,dx,_,_,rfl,sv ⟨pa,dx2,_,rfl,hpa,bn,pa,dp,do_,_,_,ps,pt,x,y,rfl,k.dr.pic,k.pok.nn,zpf,xdo k.pok.nn hpt,x1,x2,y1,y2,no,zao⟩⟩,xxy k.pok x1 x2 y1 y2 no,⟨hd,dx,_,rfl,G5 hkd,fC,hd,pa,dp,do_,lg,w',h',_,ss,srt,prs,qs,rfl,k',g',fun H2 tp lg' prs' qs' k2 hn told=>q H2 tp _ _ _ lg' prs' qs' Ur hn told⟩)
theorem ok_a1 (T:aF):FnOk true P w K mg base aD 12 t.f_a1 t.d_a1 oU (xud t):=by
 refine T.F_a1.okn (k:=11) sc_a1 (aJ h) (fun cdv A outer s H vs Q E hr h=>?_)
 .obtain ⟨hd,pa,dp,do_,lg,w',h',ps,ss,srt,prs,qs,b,r,rfl,_⟩:=h;rfl
 .obtain ⟨hd,pa,dp,do_,lg,w',h',ps,ss,srt,prs,qs,b,r,rfl,h⟩:=h;refine⟨_,xh (xap (xaf bi T.c_a T.m_j (ok_j T) aA T.b_j .nil xq nT))
   (cC (xah aM T.c_ao T.m_w (ok_w T) aA T.b_w .nil xq)),?_⟩
  refine sq2 ?_; intros; obtain⟨k,g,r1,r2,nin,q⟩:46:=h;ext zgN;obtain⟨w30,h16⟩:=k.b;have s32:=bg k.dr.ok;have hrow:zct:=by
   by_cases c32:zct
   .exact c32
   .show(eY,xm1 aa k.dr.ok aa ie r1 r2,nin)
  refine⟨hd,_,dx,_,_,rfl,sv ⟨pa,dx2,_,rfl,hpa,bn,pa,dp,do_,_,_,ps,ss,b,r,rfl,k.dr.pic,k.dr.sts,r1,r2,nin,hrow,zpF⟩⟩;obtain⟨srt1,k',g'⟩:62:=k.sts g k1 pic1 st1 ⟨by
   rw[ZP];show(aH,k.dr.ok.1,aj,fun x hx y hy e=>nin (by show(b6,Zp.mp hy,e,e▸hx))),by
   rw[Zr];show ss.length+1<=32;omega,fun s hs=>by
   rcases Zy.mp hs with y|y
   .exact k.dr.ok.2.2 s y
   .rw [E0];ext aS r1 r2⟩
  exact⟨hd,dx,_,rfl,G5 hko,fC,hd,pa,dp,do_,lg,w',h',ps,_,srt1,prs,qs,rfl,k',g',fun H2 tp lg' prs' qs' k2 hn told=>q H2 tp _ _ _ lg' prs' qs' zgX hn told⟩
theorem ok_bk (T:aF):FnOk true P w K mg base aD 12 t.f_bk t.d_bk oU (xx3 t):=by
 refine T.F_bk.okn (k:=11) sc_bk (aJ h) (fun cdv A outer s H vs Q E hr h=>?_)
 .obtain ⟨hd,pa,dp,do_,lg,w',h',ps,ss,srt,prs,qs,b,r,rfl,_⟩:=h;rfl
 .obtain ⟨hd,pa,dp,do_,lg,w',h',ps,ss,srt,prs,qs,b,r,rfl,h⟩:=h;refine⟨_,xh (xap (xaf bi T.c_a T.m_r (ok_r T) aA T.b_r .nil xq nT))
   (cC (xah aM T.c_ao T.m_w (ok_w T) aA T.b_w .nil xq)),?_⟩
  refine sq2 ?_; intros; ext j4 k g hm q h;ext zgN;show(sQ,r1,r2,k.dr.ok.2.2 _ hm,⟨hd,_,dx,_,_,rfl,sv ⟨pa,dx2,_,rfl,hpa,bn,pa,dp,do_,_,_,ps,ss,b,r,rfl,k.dr.pic,k.dr.sts,r1,r2,hm,zpF⟩⟩);show(ag,srt1,k',g',k.sts g k1 pic1 st1 ⟨k.dr.ok.1.filter _,ZN rA (bg k.dr.ok),(h7,k.dr.ok.2.2 s (rb hs))⟩);exact⟨hd,dx,_,rfl,G5 hko,fC,hd,pa,dp,do_,lg,w',h',ps,_,srt1,prs,qs,rfl,k',g',fun H2 tp lg' prs' qs' k2 hn told=>q H2 tp _ _ _ lg' prs' qs' zgX hn told⟩
theorem ok_bn (T:aF):FnOk true P w K mg base aD 13 t.f_bn t.d_bn ["_law_hand", "_law_deed_here"] (xum t):=by
 refine T.F_bn.okn (k:=12) sc_bn (aJ h) (fun cdv A outer s H vs Q E hr h=>?_)
 .obtain ⟨hd,pa,dp,do_,lg,qd,w',h',ps,ss,srt,prs,qs,xs,rfl,_⟩:=h;rfl
 .obtain ⟨hd,pa,dp,do_,lg,qd,w',h',ps,ss,srt,prs,qs,xs,rfl,h⟩:=h;refine⟨_,xh (MU (xaf aM T.c_ao T.m_g (ok_g T) aA T.b_g .nil xq (o7 lA lA (o7 lA lA (o7 lA lA (xg))))))
   (xh (MU (xaf aM T.c_ao T.m_bo (ok_bo T) aA T.b_bo .nil xq (fX lA)))
   (xh (MU (xaf aM T.c_ao T.m_a0 (ok_a0 T) aA T.b_a0 .nil xq (xa lA (gP lA lA))))
   (xh (MU (xaf aM T.c_ao T.m_a1 (ok_a1 T) aA T.b_a1 .nil xq (gP lA lA)))
   (cC (xaf aM T.c_ao T.m_bk (ok_bk T) aA T.b_bk .nil xq (gP lA lA)))))),?_⟩
  refine sq5 ?_; intros; ext Au; obtain⟨k,g,hq,dt,q⟩:45:=h;ext sL;cases dt with
  | come nm x y sd lo hi o no le =>
   refine OK;exact⟨hd,dx,_,rfl,hp,fC,qd,_,1,_,rfl,rfl,kY,rfl,qd,_,2,_,rfl,rfl,kY,rfl,qd,_,3,_,rfl,rfl,kY,rfl,qd,_,4,_,rfl,rfl,kY,rfl,qd,_,5,_,rfl,rfl,kY,rfl,qd,_,6,_,rfl,rfl,kY,rfl,hd,pa,dp,do_,lg,w',h',ps,ss,srt,prs,qs,nm,x,y,sd,lo,hi,rfl,k,g,o,no,le,q⟩
  | go pt hpt =>
   ext br sy OK;exact⟨hd,dx,_,rfl,hp,fC,qd,_,1,_,rfl,rfl,kY,rfl,hd,pa,dp,do_,lg,w',h',ps,ss,srt,prs,qs,pt,rfl,k,g,hpt,q⟩
  | shift pt x y hpt x1 x2 y1 y2 no =>
   refine sy;ext br sy OK;exact⟨hd,dx,_,rfl,hp,fC,qd,_,1,_,rfl,rfl,kY,rfl,qd,_,2,_,rfl,rfl,kY,rfl,qd,_,3,_,rfl,rfl,kY,rfl,hd,pa,dp,do_,lg,w',h',ps,ss,srt,prs,qs,pt,x,y,rfl,k,g,hpt,x1,x2,y1,y2,no,q⟩
  | unbar b r r1 r2 no =>
   ext yF sy sy sy OK;exact⟨hd,dx,_,rfl,hp,fC,qd,_,1,_,rfl,rfl,kY,rfl,qd,_,2,_,rfl,rfl,kY,rfl,hd,pa,dp,do_,lg,w',h',ps,ss,srt,prs,qs,b,r,rfl,k,g,r1,r2,no,q⟩
  | bar b r hm =>
   ext yF sy sy sy sy;exact⟨hd,dx,_,rfl,hp,fC,qd,_,1,_,rfl,rfl,kY,rfl,qd,_,2,_,rfl,rfl,kY,rfl,hd,pa,dp,do_,lg,w',h',ps,ss,srt,prs,qs,b,r,rfl,k,g,hm,q⟩
theorem xgw {K:Zd}{H:Hp}{l:Addr}{zs:df} (e:aR l WW):lK 1 pY (.lst (zs.map DV.int)):=.lst (SqL.of e) aj fun j x d h1 h2=>by
 show(TX,.int)
theorem xfy {α:Type} (m:Int) {xs:bZ} (h:xs≠[]):∃(j:Nat) (y:α),(aq,cO xs y,0<=m % DE,m % DE<xs.length,(ae,atI xs (m % DE),y),0<DE):=by
 have l0:0<xs.length:=List.length_pos_iff.mpr h;have lp:lE<DE:=aa
 obtain⟨k0,k1⟩:=xbd m lp;obtain⟨j,hj⟩:=Jx k0;have jl:j<xs.length:=by
  ext EK k1 hj;omega
 exact⟨85,j,Cq,Zb jl,k0,k1,(aB,hj,xcc (Zb jl)),lp⟩
theorem xn7 (nms:ap) (nm:Str):((nms.map DV.str).any (ao,dEq z (.str nm)))=decide (nm∈nms):=by
 ext Xj
 .ext zgz
 .ext zkC
section
variable {n:Nat}{g:TG}{Z:L2.St}{fr:List Nat}{tc:TT}{te:TE}{l:Addr}{H1:Hp}{Q:VK}
theorem xoe {x:Str} (hlen:ut x.cps.toList.length) (hl:vq) (p:EG) (F:Lp) (stab:FY)
    (step:∀(i:Nat) c (H2:Hp),(aU x.cps.toList c)->kP->∀(N:ui) (M:TC),(∀ y H',zjn)->UP->g (sgn c) Iu H2 Uf)
    (fin:(CL,((znU).filter p).length,(∀(j:Nat) (y:V) (i:Nat),Am ((znU).filter p) i KK))):xec (Its x) n g Z fr tc te l H1 Q:=by
  refine xi6 x.cps.toList.length hlen hl (fun i=>sgn Ws) (fun i H lt s=>lt) (fun i H v H' lt s y=>?_) (fun H s=>bu) p F stab (fun i H2 lt s N M h1 h2=>?_) fin
  . obtain⟨e,c,hc,rfl⟩:=y
    show(dX,e,?_);show sgn c=sgn Ws
    congr 1
    rw[YG,hc];rfl
  . have e:aU x.cps.toList Ws:=by
      rw[YG,ii];rfl
    exact step i _ H2 e s N M h1 h2
#check _
theorem xox {α:Type} [Ap] {l:bZ} (nd:l.Nodup) (a:α):l.eraseIdx (l.idxOf a)=l.filter fun b=>dA (b≠a):=by
 induction l with
 | nil=>rfl
 | cons b r ih =>
  rw[ZC] at nd;ext ij b a
  .subst c;rw[Jd aj,List.idxOf_cons_self,List.eraseIdx_cons_zero,List.filter_eq_self.mpr (by intro x hx; simp; intro e; exact nd.1 (e▸hx))]
  .rw [Jc jU,List.idxOf_cons,Kb b a jU,cond_false,List.eraseIdx_cons_succ,ih kE]
theorem xjs {zs:df} (nd:zs.Nodup) {z:Int} (h:z∈zs):xjd (zs.map DV.int) (.int z) (zs.idxOf z):=by
 have lt:=List.idxOf_lt_length_of_mem h;show(aw,e,(eZ,zs,zs.idxOf z,z),bW ii List.getElem_idxOf,⟨⟨.int z,d4 Zc e,xcq _⟩,b9 i d lt hd⟩);rw[Zc] at hd;ext nH z' hz' hd;rw[xg9 (d:=.int z') (e:=.int z) (x:=z') (y:=z) rfl rfl aj];refine decide_eq_false (du c);subst c;ext nF h1 h2 hz';obtain⟨h3,h4⟩:=Zh.mp e;exact absurd (h2.trans h4.symm) (Ji.mp nd i _ h1 h3 lt)
noncomputable def upTo (m:Nat):df:=(Zu m).map (wc,i,rE+cH)
theorem xo7 (m:Nat):rngL 1 (FL+1)=(upTo m).map V.int:=by
 unfold rngL upTo;rw[Z4,(dU,(FL+1-1).toNat,m,aa)];rfl
theorem xmj (m:Nat):(upTo m).Nodup:=Jt.map _ (fun a b h z=>h aa) Qi
theorem xl9 {m:Nat}{z:Int}:z∈upTo m↔(rO z z FL):=by
 unfold upTo;ext ET Zg
 .show(Bd,i,hi,rfl);rw[ZG] at hi;omega
 .intro h
  show(aH,(z-1).toNat,ZG.mpr aa,aa)
theorem xr5 {m:Nat} (h:0<m) {qs:ax}:HO.lst (qs.map V.ref)≠HO.lst ((upTo m).map V.int):=fun e=>by
 injection e with e
 show(DU,i,∃ i,m=aY,m-1)
 unfold upTo at e;rw[YZ] at e;cases qs with
 | nil=>cases e
 | cons a r =>
  injection e with e _
  cases e
noncomputable def Lft (m:Nat) (f:Pt->Int) (nm:Str) (ps:am) (cs:df):Prop:=cs.Nodup/\∀ z,z∈cs↔(rO z z FL)/\∀ p∈ps,vJ->f p≠z
theorem Lft.skip {m:Nat}{f:Pt->Int}{nm:Str}{ps:am}{cs:df} (h:Lft m f nm ps cs) {p:Pt} (e:p.nm=nm):Lft m f nm EY cs:=⟨h.1,fun z=>by
 rw[h.2 z];refine and_congr_right fun _=>⟨b9 k q hq hn,fun k q hq=>k q (ZO _ hq)⟩
 rcases Zy.mp hq with y|y
 .exact k q y hn
 .rw [E0] at hn;ext eY e hn⟩
theorem Lft.rm {m:Nat}{f:Pt->Int}{nm:Str}{ps:am}{cs:df} (h:Lft m f nm ps cs) {p:Pt} (e:vJ):Lft m f nm EY (Vw,f p):=⟨h.1.filter _,fun z=>by
 show(Hw,ZH,h.2 z);constructor
 .rintro ⟨⟨a,b⟩,c⟩;show(dX,a,aK q hq hn);rcases Zy.mp hq with y|y
  .exact b q y hn
  .show(eE,E0,(ao,c z.symm))
 .rintro ⟨a,b⟩;show(aS,(fb,fun q hq hn=>b q (ZO _ hq) hn),(ao,b p Fe e z.symm))⟩
theorem xn4 {cs:df} (nd:cs.Nodup) (z:Int):(cs.map V.int).eraseIdx (cs.idxOf z)=(Vw z).map V.int:=by
 rw[<- xox nd];simp[Yt,Yo,Yp]
inductive xt7 (t:Adr) (vs:af) (H:Hp) (Q:VK) (_:XK):Prop
 | mk (a dp do_:Addr) (w h:Nat) (ps:am) (nm:Str) (e_:R0) (r_:Pic t H a dp do_ lD iL ps/\lR/\∀ H' tp lc lr cs rs,bF->(va tp (ip,.ref lc,lr))->(gR lc (.lst (cs.map V.int)))->(gR lr (.lst (rs.map V.int)))->Lft w (·.x) nm ps cs->Lft h (·.y) nm ps rs->(fF tp H'))
theorem ok_a8 (T:aF):FnOk true P w K mg base aD 2 t.f_a8 t.d_a8 ["_law_picture_here", "_law_name"] (xt7 t):=by
 refine T.F_a8.okn (k:=1) sc_a8 (aJ h) (fun cdv A outer s H vs Q E hr h=>?_)
 .obtain ⟨a,dp,do_,w',h',ps,nm,rfl,_⟩:=h;rfl
 .obtain ⟨a,dp,do_,w',h',ps,nm,rfl,h⟩:=h;refine⟨_,xh (pS 2 sc_a8.nd (Uk (gP (xo) AF)))
   (xh (pS 3 sc_a8.nd (Uk (gP (xo) AF)))
   (xh (xbg ZA rfl (xaj (xah aM T.c_a T.m_h Cd aA T.b_h .nil xq)) (xar rfl (AC 4 sc_a8.nd 5 (AC 6 sc_a8.nd 7 (gG 8 sc_a8.nd 9)))) (xl (xao (pK xg0 4 cF) (xh (xap (xek Jm PySem.F.slot_list_remove PySem.F.type_list_remove (xis (xbk hr)) fH (fc 5)))
   (oz (xek Jm PySem.F.slot_list_remove PySem.F.type_list_remove (xis (xbk hr)) fJ (fc 6)))) (xab))))
   (sS tH))),?_⟩
  refine sq4 ?_; intros; ext oE pic pok;obtain⟨⟨dx,hp⟩,_,w1,w2,h1,h2,_⟩:=ul;refine⟨a,_,_,_,_,rfl,OC (bK,1,mC+1,rfl,au p1 hp1)⟩;show(V9,p1,.rng 1 (mC+1),hp1);refine⟨105,p1,1,mC+1,rfl,g1,GX,aa,au lc hlc⟩;rw[xo7];generalize eu:upd H1 lc (.lst ((upTo w').map V.int))=H2;show(Al,s2,hlc,g2,hp2,dy gQ);refine⟨a,_,_,_,_,rfl,mE hp2 T.n_br lkH (bK,1,hZ+1,rfl,au p3 hp3)⟩;show(Gu,upd H2 p3 (.rng 1 (hZ+1)),hp3);refine⟨105,p3,1,hZ+1,rfl,g3,GX,aa,au lr hlr⟩;rw[xo7];show(C3,upd H3 lr (.lst ((upTo h').map V.int)),hlr);show(ah,s02,iz,s24,s3.trans s4);show(ah,s04,s02.trans s24,hp4,s04 _ _ hp);have flc:bo lc:=s1.free hlc;have flr:bo lr:=(s02.trans s3).free hlr;show(aw,ncr,lc≠lr,xi E2 hlr,⟨a,dx,_,rfl,hp4,bn,a,dp,do_,_,_,ps,rfl,pE s04,fun H5 l5 qs s5 hl5 pt5=>nK l5 hl5⟩);have s05:=s04.trans s5;have nl5:(ae,H5 lc,.lst ((upTo w').map V.int)):=cG (s24 _ _ g2);have nr5:(ae,H5 lr,.lst ((upTo h').map V.int)):=BR;have e5c:l5≠lc/\l5≠lr:=⟨xdb hl5 nl5 (xr5 aa),xdb hl5 nr5 (xr5 aa)⟩
  refine xbr (xs:=xO) (Pv:=fun i Z H6=>∃(cs rs:df) (v4 v5 v6 v7 v8 v9:b8),Z=[dJ,f8 nm,aC lc,aC lr,v4,v5,v6,v7,v8,v9]/\(∀ b u,(bv,b≠lc,b≠lr,(ae,H5 b,u),(ae,H6 b,u)))/\(ae,H6 lc,.lst (cs.map V.int))/\(ae,H6 lr,.lst (rs.map V.int))/\Lft w' (·.x) nm yi cs/\Lft h' (·.y) nm yi rs) (rQ,upTo w',upTo h',⟨126,_,_,_,_,rfl,fun b u _ _ e=>e,nl5,nr5,zlV,zlV⟩) ?_ ?_ ?_
  .rintro i Z H6 _ (⟨_,_,_,_,⟨_,_,_,_,rfl,k6,_⟩⟩:121);show(zr,k6 _ _ e5c.1 e5c.2 hl5)
  .rintro i x Z H6 hx (⟨cs,rs,v4,v5,⟨v6,v7,v8,v9,rfl,k6,hc6,hr6,lf1,lf2⟩⟩:121);ext SY;ext ku qa hqa hx;show(ag,p,hpp,hq,pt5.get hqa);show(ah,mp,Zj hpp,po,pok.ok p mp);show(cB,tk,ps.take aY=yi++[p],d4 ZR hpp,il,h8 hpp);show(ah,pi,(Zh.mp hpp).2,hq6,k6 _ _ (ne_f hq nl5) (ne_f hq nr5) hq);show(pZ,qa,hq6,(j6,ub c c))
   .have c':p.nm≠nm:=jU
    have mx:p.x∈cs:=(lf1.2 p.x).mpr ⟨⟨po.x1,po.x2⟩,fun r hr _ e=>by
     show(zlA,p.x,pok.nx)⟩
    have my:p.y∈rs:=(lf2.2 p.y).mpr ⟨⟨po.y1,po.y2⟩,fun r hr _ e=>by
     show(zlA,p.y,pok.ny)⟩
    refine⟨vg hc6,(dk,lc,_,.int p.x,0,⟨126,1,.int p.x,cs.map DV.int,cs.idxOf p.x,rfl,rfl,hc6,.int,xgw hc6,(bR,az,az,xjs lf1.1 mx,?_)⟩)⟩;rw[xn4 lf1.1];show(aw,hr7,kZ H6 lc (.lst ((Vw p.x).map V.int)) lr (.lst (rs.map V.int)),(aB,kB ncr,hr6),⟨vg hr7,(dk,lr,_,.int p.y,0,⟨126,1,.int p.y,rs.map DV.int,rs.idxOf p.y,rfl,rfl,hr7,.int,xgw hr7,(bR,az,az,xjs lf2.1 my,?_)⟩)⟩);rw[xn4 lf2.1,tk];refine iM ⟨126,_,_,_,_,rfl,fun b u n1 n2 e=>(pQ,xj n2,xj n1,k6 _ _ n1 n2 e),?_,xk,lf1.rm c',lf2.rm c'⟩;ext cE ncr xk
   .have c':p.nm=nm:=by
     ext zq c
    rw[tk];exact rQ cs rs ⟨126,_,_,_,_,rfl,k6,hc6,hr6,lf1.skip c',lf2.skip c'⟩
  .rintro Z H6 (⟨cs,rs,v4,v5,⟨v6,v7,v8,v9,rfl,k6,hc6,hr6,lf1,lf2⟩⟩:121);rw[Za,pt5.len,Jf] at lf1 lf2;ext fT cS tp htp;show(jF,s7,Same H6 (fA H6 tp (ip,.ref lc,lr)),bM htp,q _ tp lc lr cs rs (oA,oO (k6 _ _ (xi e flc) (xi e flr) (s05 _ _ e))) xk (oO hc6) (oO hr6) lf1 lf2)
theorem xps {α:Type}{l:bZ} (h:l≠[]):dE l.isEmpty:=by
 cases l with
 | nil=>ext jb h
 | cons _ _=>rfl
inductive xt0 (t:Adr) (vs:af) (H:Hp) (Q:VK) (_:XK):Prop
 | mk (a dp do_:Addr) (w h:Nat) (ps:am) (ss srt:ai) (c:Int) (e_:vs=(m7 bb c)) (r_:Dr t H a dp do_ w h ps ss srt/\jE/\zhb)
theorem xa7.app {H:Hp}{ss s2:ai}{rs r2:ax} (h:zdg) (k:xa7 H s2 r2):xa7 H (ss++s2) (rs++r2):=by
 induction h with
 | nil=>exact k
 | cons h _ ih=>ext Fn
theorem ok_bl (T:aF):FnOk true P w K mg base aD 2 t.f_bl t.d_bl ["_law_picture_here", "_law_cell_here"] (xt0 t):=by
 refine T.F_bl.okn (k:=1) sc_bl (aJ h) (fun cdv A outer s H vs Q E hr h=>?_)
 .obtain ⟨a,dp,do_,w',h',ps,ss,srt,c,rfl,_⟩:=h;rfl
 .obtain ⟨a,dp,do_,w',h',ps,ss,srt,c,rfl,h⟩:=h;refine⟨_,xh (pS 2 sc_bl.nd (xb1 (xg)))
   (xh (xbg ZA rfl (xjn rfl T.n_range (gP (xo) AF)) (xgx (i:=3) sc_bl.nd rfl (Qp rfl)) (oz (xek Jm PySem.F.slot_list_extend PySem.F.type_list_extend xo5 fH (fX (xa4 rfl (xaw (zs:=["_law_side"]) (ys:=["_law_row", "_law_picture_here"]) (fr:=[3,0]) (N0:=zeC) (sc0:=xm s_bl) aG rfl rfl rfl) znC jK jx (zif (xal pH) (xah fH T.c_a T.m_n FG aA T.b_n .nil xq)) (o4 pH))))))
   (xh (pS 4 sc_bl.nd (xah aM T.c_a T.m_n FG aA T.b_n .nil xq))
   (xh (jI (PW.pt (xeg (Pw 4) (xds (PW.pt (xco (Hf cF) (xcm (pK zcE 2 (xb1 (xg))))))))) (cC (xu xer (xal (fX (xa6))) (iQ 4 (vO cF (lU 4))))))
   (cC (xu xer (xal (fX (xa6))) (iQ 2 (vO cF (lU 2)))))))),?_⟩
  refine sq5 ?_; intros; ext oE dr h16;obtain⟨⟨dx,hp⟩,_,w1,w2,h1,h2,_⟩:=SM;show(aw,s32,DD,Ga,iF Vr ls hls);generalize eu:qi H ls=H1;ext uG; ext Al s1 hls g1 hp1 gQ;refine⟨a,_,_,_,_,rfl,mE hp1 T.n_br lkH (fG,1,hZ+1,GX,?_)⟩;have keep:∀{H2:Hp},zij->tT:=(fM,k,b,u,k _ _ (xi e hls) jy)
  show(znH,∃(sh:ai) (rs:ax) (v3:b8),bT Z [dJ,Cf,aC ls,v3,none] zij (aq,rg ls zqv,xa7 H2 sh rs,(∀ s∈sh,1<=d9/\d9<=hZ/\s∉srt),sh.length<=2*j,0<j->srt=[]->sh≠[]))
  show(Oa,⟨106,[],[],_,rfl,fun b u _ e=>e,g1,.nil,h7 (nomatch hs),⟨jg,(ao,absurd z az)⟩⟩)
  .rintro j Z H2 hj (⟨sh,rs,v3,rfl,k2,hl2,sl2,ok2,⟨le2,ne2⟩⟩:106);have hj':um<hZ:=aa
   show(ah,s02,keep k2,rl2,sl2.len);show(gU,vg hl2,cS,au e0 he0);show(Gu,fw H2 e0 [RF,Rc],he0);refine gH e0 g3 l4 hl4;ext zaF;refine xdw (xs:=[RF,Rc]) (aW g3) az hl4 (fun i=>((sK[i]?).map fun b=>Dm).getD false) (uo,∃ b q,wK sK b vS (lO q (b,jM))) (fun i y H H' tp ⟨b,q,e0,e1,e2⟩=>(bD,b,q,e0,e1,jO e2)) (fun i x H4 hx s4 N M hN hM=>?_) (fun ys H4 s4 e4 ly fy=>?_)
   .obtain ⟨b,hb,rfl⟩:∃ b,(aU sK b)/\x=rG:=by
     have:i=0\/i=1:=by
      show(GV,h8 hx)
     rcases this with rfl|rfl
     .exact eX true GY
     .exact eX false GY
    ext fT cS q5 hq5;show(Gv,i6 H4 q5 rG jM,hq5);show(ah,s05,(Ra).trans s5,dr5,dr.same s05);show(ziz,⟨a,dx,_,rfl,s05 _ _ hp,bn,a,dp,do_,_,_,_,_,rfl,dr5.pic,dr5.sts,fun l6 ss6 us6 hl6 sl6 pm6 lt6=>?_⟩);show(zS,upd H5 l6 (.lst (us6.map V.ref)),hl6);refine⟨1,2,xcj (b,jM),ss6.map xcj,xfn (s:=(b,jM)) (dP g5),(mz,(znv).dv g6,Ta)⟩
    .rw [bY,xft] at y;show(dX,cS,fun u hu=>hN _ _ ((AU).trans (bM hu)) (aB hb y) (eF b u hb xk))
    .rw [bY,xft] at y;exact hM _ AU (OG hb y)
   have fi:=xgt (fun b:Bool=>Dm) (as:=sK) (p:=fun i=>((sK[i]?).map fun b=>Dm).getD false) Xq;obtain⟨r4,rfl,sl4⟩:62:=xa7.pick (H:=H4) (ss:=((sK).filter fun b=>Dm).map fun b=>(b,jM)) (ys:=ys) (pQ ly Za fi.1) (fun m y s hy hs=>by
    have hm:m<((Zu (sK).length).filter fun i=>((sK[i]?).map fun b=>Dm).getD false).length:=by
     ext Hh Ln ly
    obtain⟨b,q,hb,rfl,hq⟩:83:=fy m y _ hy (Zb hm);rw[fi.2 m _ (Zb hm)] at hb;ext zdT hb;ext rR q hq)
   show(ah,r4l,sl4.len,f2,ZZ (fun b:Bool=>Dm) sK);rw[Za] at r4l;show(we,l2,sK,2,rfl);show(dN,hl4',cm (fK hl2),(cV,ls,l4,_,_,cL rfl hl4' e4 ?_ ?_))
   .rw [Za,Za];exact JN (xb2 aa)
   rw[<- Zs];have tL:Tups H4 (upd H4 ls (.lst ((rs++r4).map V.ref))):=fun b xs e=>by
    show(cE,ne_f e hl4',e)
   refine⟨106,sh++_,rs++r4,_,rfl,tG (bO,nb,cm (fK (k2 _ _ nb e))),xk,((sl2.keep (Same.tups (s3.trans s4))).app sl4).keep tL,SB,⟨?_,fun _ e=>?_⟩⟩
   .rcases Zy.mp hs with y|y
    .exact ok2 s y
    .show(hX,b,hb,rfl,Zg.mp y);have:=(ZH.mp hb).2;show(aH,(vx,1<=jM),(vx,jM<=hZ),by ext Ef)
   .rw [Zr,Za];omega
   .rw [e];simp
  .rintro Z H2 (⟨sh,rs,v3,rfl,k2,hl2,sl2,ok2,⟨le2,ne2⟩⟩:106);have s02:=keep k2;show(ah,dr2,dr.same s02,rl2,sl2.len);show(znJ,⟨a,dx,_,rfl,s02 _ _ hp,bn,a,dp,do_,_,_,_,_,rfl,dr2.pic,dr2.sts,fun l4 ss4 us4 hl4 sl4 pm4 lt4=>?_⟩); show(A7,ss4,pm4.trans dr.pm.symm,lt4,dr.lt);have ul4:=sl4.len;show(C3,upd H2 l4 (.lst (us4.map V.ref)),hl4);show(ah,sl4,sl4.keep (Same.tups s4),sl2,sl2.keep (Same.tups s4));show(ah,hl2,cm hl2,s04,s02.trans s4);ext zhY;have s05:=s04.trans s5;refine⟨2,1,.lst (ss4.map xcj),Ff,(znt).dv BR,Go g5 yM⟩;have ed:(! dEq (.lst (ss4.map xcj)) (.lst []))=! ss4.isEmpty:=RQ ss4
   have bar:ss4≠[]->∀{H6:Hp},Same H5 H6->∃(j:Nat) (u:Addr) (b:Bool) (r:Int),(aq,cO us4 u,atI (us4.map V.ref) (c / 3 % (yt zbO))=(aC u),0<(yt zbO),zpS,ie∈ss):=fun ne H6 s6=>by
    have un:zbO≠[]:=fun z=>ne (QG.mp (by
     ext zjJ ul4))
    obtain⟨j,v,gj,a1,a2,a3,a4⟩:85:=xfy (c / 3) un;show(zib,sl4.get hu);exact⟨125,j,u,b,r,hu,a3,a4,dP (cG hsq),dr.pm.mem_iff.mp (Zj hs)⟩
   have unb:sh≠[]->∀{H6:Hp},Same H5 H6->∃(j:Nat) (u:Addr) (b:Bool) (r:Int),(cO rs u)/\atI (rs.map V.ref) (c / 3 % (yt HS))=(aC u)/\(aq,0<(yt HS),zpS,1<=r,r<=hZ,ie∉ss):=fun ne H6 s6=>by
    have un:HS≠[]:=fun z=>ne (QG.mp (by
     ext zjJ rl2))
    obtain⟨j,v,gj,a1,a2,a3,a4⟩:85:=xfy (c / 3) un;show(zib,sl2.get hu);show(iW,o1,o2,o3,ok2 _ (Zj hs));exact⟨126,j,u,b,r,hu,a3,a4,dP (cG hsq),o1,⟨o2,fun m=>o3 (dr.pm.mem_iff.mpr m)⟩⟩
   by_cases ce:ss4=[]
   .refine ifN (d4 ed ce) ?_;ext NV;show(zS,fA H5 q6 [.str "unbar"],hq6);obtain⟨j,u,b,r,hu,at_,lp,hsq,o1,⟨o2,o3⟩⟩:126:=unb (ne2 aa ce) s6;show(La,⟨84,ls,_,rfl,lW (dP Tw),lp,⟨ls,_,_,.ref u,rfl,rfl,aW (dP Tw),at_,q6,u,_,_,rfl,rfl,cN g6,Tx,aj,tD,Gt,Og⟩⟩,q _ q7 _ ((HP).trans (bM hq7)) xk zny)
   .show(cu,e1,(! ss4.isEmpty)=true,(eB,xps ce),ifP (ed.trans e1) ?_);by_cases c3:c % 3=0
    .refine (D3,3,W6 (wI V.int c3));ext NV;show(zS,fA H5 q6 [.str "bar"],hq6);obtain⟨j,u,b,r,hu,at_,lp,hsq,hm⟩:125:=bar ce s6;show(La,⟨84,l4,_,rfl,lW (dP BR),lp,⟨l4,_,_,.ref u,rfl,rfl,aW (dP BR),at_,q6,u,_,_,rfl,rfl,cN g6,Tx,aj,tD,Gt,Og⟩⟩,q _ q7 _ ((HP).trans (bM hq7)) xk (xci.bar b r hm))
    .refine (D3,3,Dh (ao,c3 (V.int.inj z)) ?_);show(fT,gB leS0,e8,he8);generalize eu:qi H5 e8=H8;ext qZ s8 he8;show(ah,g8,ug_e eu,s58,s5.trans s8);refine⟨2,1,.lst (sh.map xcj),Ff,(sl2.keep (Same.tups s58)).dv (uC hl2),Go g8 yM⟩;have es:dEq (.lst (sh.map xcj)) (.lst [])=sh.isEmpty:=RQ sh
     by_cases cs:sh=[]
     .refine ifP (d4 es cs) ?_;ext NV;show(zeW,"bar");obtain⟨j,u,b,r,hu,at_,lp,hsq,hm⟩:125:=bar ce s86;show(La,⟨84,l4,_,rfl,lW (s86 _ _ BR),lp,⟨l4,_,_,.ref u,rfl,rfl,aW (s86 _ _ BR),at_,q6,u,_,_,rfl,rfl,cN g6,Tx,aj,tD,Gt,Og⟩⟩,q _ q7 _ ((s05.trans s86).trans (bM hq7)) xk (xci.bar b r hm))
     .refine ifN (bW,es,xps cs) ?_;ext NV;show(zeW,"unbar");obtain⟨j,u,b,r,hu,at_,lp,hsq,o1,⟨o2,o3⟩⟩:126:=unb cs s86;show(La,⟨84,ls,_,rfl,lW (s86 _ _ Tw),lp,⟨ls,_,_,.ref u,rfl,rfl,aW (s86 _ _ Tw),at_,q6,u,_,_,rfl,rfl,cN g6,Tx,aj,tD,Gt,Og⟩⟩,q _ q7 _ ((s05.trans s86).trans (bM hq7)) xk zny)
theorem xoj {α β:Type}{f:α->β}{l:bZ} (nd:zay) {p q:α} (hp:p∈l) (hq:q∈l) (e:f p=f q):p=q:=by
 induction l with
 | nil=>exact nomatch hp
 | cons a r ih =>
  ext vz;rcases E3 with z|z<;>rcases dC hq with z2|z2
  .rw [z,z2]
  .ext zhh
  .exact absurd (Zg.mpr ⟨p,z,bW e z2⟩) nd.1
  .exact ih kE z z2
theorem xtl {α:Type} (f:Ts) (l:bZ):(l.filter f).length+(l.filter fun a=>! f a).length=l.length:=by
 induction l with
 | nil=>rfl
 | cons a r ih =>
  cases e:f a with
  | true =>
   rw[Jc e,Jd FF,ZD,ZD];omega
  | false =>
   rw[Jd FF,Jc FF,ZD,ZD];omega
theorem xwa:∀ c∈abc.cps.toList,(nO Sa):=aG
theorem xt5:abc.cps.toList.Nodup:=aG
theorem xqk {nms:ap}:26<=(znr XZ).length+nms.length:=by
 have z:=xtl (fun c=>XZ) abc.cps.toList;have l26:abc.cps.toList.length=26:=aG
 have nd:((znr,! XZ).map fun c=>Sq c).Nodup:=by
  rw[Yx,ZW];exact (Jt.filter _ xt5).imp fun ne e=>ne (by
   have:=congrArg zne e;exact List.head_eq_of_cons_eq this)
 have le:=nd.length_le_of_subset (l₂:=nms) fun s hs=>by
  ext dY c hc hs;simpa using (ZH.mp hc).2
 rw[Za] at le;omega
theorem xtj {nm:Str} (h:BO):nm≠"":=fun e=>by
 ext tX e h h aG
theorem xwb (m:Int):(zfj,V.str "right",zcL):=by
 ext zeu
 rcases this with e|e|e|e<;>rw[e]
 .exact eX "left" gg
 .ext znh
 .ext MN
 .ext MN
inductive xsq (t:Adr) (vs:af) (H:Hp) (Q:VK) (_:XK):Prop
 | mk (a dp do_:Addr) (w h:Nat) (ps:am) (ss srt:ai) (c:Int) (e_:vs=(BH bb c 6)) (r_:(aq,Dr t H a dp do_ w h ps ss srt,lR,kn,jE,zhb))
theorem ok_a3 (T:aF):FnOk true P w K mg base aD 3 t.f_a3 t.d_a3 Ud (xsq t):=by
 refine T.F_a3.okn (k:=2) sc_a3 (aJ h) (fun cdv A outer s H vs Q E hr h=>?_)
 .obtain ⟨a,dp,do_,w',h',ps,ss,srt,c,rfl,_⟩:=h;rfl
 .obtain ⟨a,dp,do_,w',h',ps,ss,srt,c,rfl,h⟩:=h;refine⟨_,xh (zX 3 sc_a3.nd (xa4 rfl (xaw (zs:=["_law_row"]) (ys:=[]) (fr:=[]) (N0:=["_law_picture_here", "_law_cell_here", "_law_most", "_law_names_here", "_law_number", "_law_name", "_law_columns", "_law_rows", "_law_low", "_law_high", "_law_sides", "_law_x"]) (sc0:=xm s_a3) aG rfl rfl rfl) (xaj (xah aM T.c_a T.m_h Cd aA T.b_h .nil xq)) jK jx dR N6))
   (xh (pS 4 sc_a3.nd (pC (ok_bi T) hr T.g_bi T.F_bi.kp T.b_bi (gP (wn cF) (xo))))
   (xh ((by (with_reducible refine' xb6 ?m38); (case m38=>((with_reducible refine' xao ?c1 ?a2 ?b3); (case c1=>exact PW.pt (xeg (xae xfv (oh cF) (xo) dO) (xds (xae xfv (lU 3) fH dO)))); (case a2=>((with_reducible refine' xh ?a4 ?b5); (case a4=>((show(KA,5,(xac xay (xa4 rfl (xaw (zs:=["_law_letter"]) (ys:=["_law_names_here"]) (fr:=[3]) (N0:=["_law_picture_here", "_law_cell_here", "_law_most", "_law_names_here", "_law_number", "_law_name", "_law_columns", "_law_rows", "_law_low", "_law_high", "_law_sides", "_law_x"]) (sc0:=xm s_a3) aG rfl rfl rfl) (xvc (xa6)) jK jx (OI (xae (r:=rInV K true) (xf7 (xbk hr)) aM cF jz)) uU) (oh dw) hV))))); (case b5=>((with_reducible refine' xh ?a6 ?b7); (case a6=>((exact zmn (pC (ok_a8 T) hr T.g_a8 T.F_a8.kp T.b_a8 (gS 0 (xa6)))))); (case b7=>((with_reducible refine' xl ?c8); (case c8=>((with_reducible refine' xb6 ?m37); (case m37=>((with_reducible refine' xao ?c9 ?a10 ?b11); (case c9=>exact PW.pt (xeg (Pw 6) (xds (Pw 7)))); (case a10=>((with_reducible refine' xh ?a12 ?b13); (case a12=>((show(KA,8,xu xa9 (xo) (vO dw bi))))); (case b13=>((with_reducible refine' xh ?a14 ?b15); (case a14=>((show(KA,9,xu xa9 (pv 8) (vO dw (je xd6 AF 8)))))); (case b15=>((with_reducible refine' xh ?a16 ?b17); (case a16=>((show(KA,10,xac xay ziv (oh (wn dw)) hV)))); (case b17=>((with_reducible refine' xh ?a18 ?b19); (case a18=>((show(KA,11,iQ 6 (vO dw (lU 6)))))); (case b19=>((with_reducible refine' xl ?c20); (case c20=>((with_reducible refine' xv ?e21); (case e21=>((with_reducible refine' xal ?p22); (case p22=>((with_reducible show(yU,?e23,?q24)); (case e23=>((exact xa6))); (case q24=>((with_reducible show(yU,?e25,?q26)); (case e25=>((exact pv 5))); (case q26=>((with_reducible show(yU,?e27,?q28)); (case e27=>((exact pv 11))); (case q28=>((with_reducible show(yU,?e29,?q30)); (case e29=>((exact iQ 7 (vO dw (lU 7))))); (case q30=>((with_reducible show(yU,?e31,?q32)); (case e31=>((exact pv 10))); (case q32=>((with_reducible show(yU,?e33,?q34)); (case e33=>((exact pv 8))); (case q34=>((with_reducible show(yU,?e35,?q36)); (case e35=>((exact pv 9))); (case q36=>((exact xg))))))))))))))))))))))))))))))); (case b11=>((exact xab))))))))))))); (case b3=>((exact xab)))))))
   (xh (zjb (sS (gP (xa6) zlX)))
   (xh (xb6 (xao (PW.pt (xeg (xae xb5 (xu xaz (pv 1) (xo)) (xo) (xag _)) (xds (xae (xde (xbk hr)) (pv 3) (xb1 (xg)) (xag _))))) (xh (pS 5 sc_a3.nd zlX)
   (xh (zmn (pC (ok_a8 T) hr T.g_a8 T.F_a8.kp T.b_a8 (gm 0 5)))
   (sS (xa (xa6) (pX 5 (iQ 6 (vO dw (lU 6))) (iQ 7 (vO dw (lU 7)))))))) (xab)))
   (cC (pC (ok_bl T) hr T.g_bl T.F_bl.kp T.b_bl (gm 0 4))))))),?_⟩
  refine sq6 ?_; intros; obtain⟨dr,pok,w30,h16,q⟩:45:=h;obtain⟨⟨dx,hp⟩,_,w1,w2,h1,h2,_⟩:=SM;show(cB,BIG,MF,Rb,p12,pok.le);show(mX,nl,(eC).length,ps.length,WZ,⟨a,dx,_,rfl,hp,bn,a,dp,do_,_,_,ps,rfl,dr.pic,fun H1 l1 qs1 s1 e1 pt1=>N2⟩);show(zH,pl1,pt1.len,xba Ly qu hl2 Vq lL (fun i x H2 hx s2 N hN=>?_) (fun ys H2 s2 e2 ly fy=>?_))
  .ext zgc
  have ey:ys=(eC).map V.str:=by
   show(G9,(by rw[ly,Za,pl1,nl]),p,hp);unfold x9 at hb;ext Ab hp
  subst ey;show(NK,(wC,fQ,c / 8,1,aK nb nb0 nb1))
  show(Um,[dJ,Cf,bz 6,aC l2,bz nb,v5,v6,v7,v8,v9,v10,v11])
  .ext lN; show(br,(mG,jW 8,_,CU c1 kN),Fl l2 e2 (cA,CU c2 kN));ext OU; have c2:=of_decide_eq_true c2;rw[Za,nl] at c2;show(lz,(gT,abc,aG,au l3 hl3),xoe aG hl3 (fun i=>((abc.cps.toList[i]?).map fun ch=>XY).getD false) (BF,∃ ch,(wK,abc.cps.toList,ch,y=.str RD,(Sq ch)∉eC)) lL (fun i ch H3 hc s3 N M hN hM=>?_) (fun ys3 H3 s3 e3 ly3 fy3=>?_))
   .refine ⟨0,1,.str RD,_,.str,(mz,xch (fK e2),Ta)⟩
    .rw [bY,xn7] at y;exact (hN _ _ kN (aB hc y) (bS,ch,hc,rfl,by simpa using y))
    .rw [bY,xn7] at y;exact hM _ kN (OG hc y)
   have y14:14<=ys3.length:=by
    have fi:=xgt (fun ch=>XY) (as:=abc.cps.toList) (p:=fun i=>((abc.cps.toList[i]?).map fun ch=>XY).getD false) Xq;have:=xqk (nms:=eC);rw[ly3,fi.1];omega
   have mb:=xbd nb (qD,lE<14);obtain⟨j,hj⟩:=Jx mb.1;have jl:j<ys3.length:=aa
   have gj:=Zb jl;show(cc,ch,hch,ev,nin,fy3 j _ _ gj (Zb (cT ly3 jl)));have at3:atI ys3 (nb % 14)=(f8 RD):=by
    rw[hj];exact xcc (bW gj ev)
   have isn:=xwa ch (Zj hch);obtain⟨nm,enm⟩:∃ nm:Str,nm=RD:=ju
   rw[<- enm] at at3 isn nin;refine⟨(jW 14),l3,_,_,tW,rfl,rfl,aW e3,at3,?_⟩;have s03:=s02.trans s3;refine⟨a,dp,do_,w',h',ps, "",rfl,Pic.same s03 dr.pic,pok,fun H4 tp lc lr cs rs s4 htp hlc hlr lf1 lf2=>Rs⟩;have s24:=s3.trans s4;refine(cD,?_,qS z);ext lN; ext zhY;show(br,⟨1,1,_,Ff,xgw (cG hlc),(Go,g5,cA (CU,c3,s24.trans s5))⟩,iF (gB leS0) e6 he6);generalize eu:qi H5 e6=H6;ext qZ s6 he6;show(ah,g6,ug_e eu,s46,s5.trans s6);refine⟨1,1,_,Ff,xgw (s46 _ _ hlr),(Go,g6,cA (CU,c4,s24.trans s46))⟩;refine sq5 ?_; intros; show(ki,cn,cs,[],by ext tX z c3 c3 az)
   show(ki,rn,rs,[],by ext tX z c4 c4 az)
   show(ah,s06,(Ra).trans s46,hp6,s06 _ _ hp);refine⟨fQ,a,_,_,_,_,rfl,hp6,T.c_a,T.n_br,lkH,(vD 0 hZ),?_⟩;have bl:=xbd (nb / 2800) (eS,0<hZ);obtain⟨lo,elo⟩:∃ lo,lo=1+nb / 2800 % hZ:=ju
   dsimp only [rI0,iV]
   rw[<- elo];ext znR; refine⟨fQ,a,_,_,_,_,rfl,hp6,T.c_a,T.n_br,lkH,(vD,0,hZ+1-lo),?_⟩;have bh:=xbd (nb / 50000) (eS,0<hZ+1-lo);obtain⟨hi,ehi⟩:∃ hi,hi=lo+nb / 50000 % (hZ+1-lo):=ju
   dsimp only [rI0,iV]
   rw[<- ehi];show(ag,sd,esd,hsd,xwb (nb / 700));show(fT,gB leS4,q7,hq7);show(Xb,fw H6 q7 [RF,Rc,D8,D8],hq7);refine⟨fQ,(jW 4),q7,_,_,Fj,rfl,rfl,aW g7,esd,?_⟩;have s47:=s46.trans s7;obtain⟨j1,v1,gj1,_,_,at1,lp1⟩:85:=zhr 14;ext Ea gj1 x hx;obtain⟨j2,v2,gj2,_,_,at2,lp2⟩:85:=zhs 420;ext Ea gj2 y hy;obtain⟨⟨x1,x2⟩,nox⟩:=(lf1.2 x).mp (Zj hx);obtain⟨⟨y1,y2⟩,noy⟩:=(lf2.2 y).mp (Zj hy);show(ah,hlc7,s47 _ _ hlc,hlr7,s47 _ _ hlr);show(br,⟨fQ,⟨84,lc,_,rfl,lW hlc7,lp1,⟨lc,_,_,uh,rfl,rfl,aW hlc7,at1,?_⟩⟩⟩,⟨fQ,⟨84,lr,_,rfl,lW hlr7,lp2,⟨lr,_,_,wy,rfl,rfl,aW hlr7,at2,(gB leS7),au tp7 htp7⟩⟩⟩);refine q _ tp7 _ ((s06.trans s7).trans (bM htp7)) xk (xci.come nm x y sd lo hi ⟨isn,x1,x2,y1,y2,hsd,(vx,1<=lo),(vx,lo<=hi),(vx,hi<=hZ)⟩ Sb aa);have ne:=xtj (pok.ok p hp').nm;show(aH,fun e=>nin (Zg.mpr ⟨p,hp',e⟩),nox p hp' ne,noy p hp' ne)
  rintro _ H3 (⟨v5,v6,v7,v8,⟨v9,v10,v11,s3,rfl⟩⟩:121);have name:ps≠[]->∃ pt∈ps,atI ((eC).map V.str) (nb % (yt ((eC).map V.str)))=(f8 pt.nm)/\0<(yt ((eC).map V.str)):=fun ne=>by
   obtain⟨j,v,gj,_,_,at_,lp⟩:85:=xfy nb (xs:=(eC).map V.str) (fun z=>ne (by
    have:=uD z;rw[Za,nl] at this;exact QG.mp this))
   ext Ea gj z hz;show(ku,pt,hpt,Zg.mp (Zj hz));ext gF pt hpt at_ lp
  have nem:(! dEq (.lst ((eC).map DV.str)) (.lst []))=true->ps≠[]:=fun k z=>by
   ext tX z k k az
  show(Um,[dJ,Cf,bz 6,aC l2,bz nb,v5,v6,v7,v8,v9,v10,v11])
  .ext zhL s3;generalize eu:qi H3 e5=H5;ext qZ s5 he5;show(ah,g5,ug_e eu,s25,s3.trans s5);refine zgk;ext zmk;refine⟨84,l2,_,rfl,lW IS,lp,⟨l2,_,_,hW,rfl,rfl,aW IS,at_,cS,au tp htp⟩⟩;exact q _ tp _ ((s02.trans s25).trans (bM htp)) xk (xci.go pt hpt)
  clear v5 v6 v7 v8 v9 v10 v11;rintro _ H4 (⟨v5,v6,v7,v8,⟨v9,v10,v11,s4,rfl⟩⟩:121)
  show(Um,[dJ,Cf,bz 6,aC l2,bz nb,v5,v6,v7,v8,v9,v10,v11])
  .ext zhL s4;generalize eu:qi H4 e5=H5;ext qZ s5 he5;show(ah,g5,ug_e eu,s25,s4.trans s5);refine zgk;ext OU; ext zmk;show(dN,po,pok.ok pt hpt,⟨84,l2,_,rfl,lW IS,lp,⟨l2,_,_,hW,rfl,rfl,aW IS,at_,?_⟩⟩);have s05:=s02.trans s25;refine⟨a,dp,do_,w',h',ps,pt.nm,rfl,Pic.same s05 dr.pic,pok,fun H6 tp lc lr cs rs s6 htp hlc hlr lf1 lf2=>Rs⟩;have cn:cs≠[]:=List.ne_nil_of_mem ((lf1.2 pt.x).mpr ⟨⟨po.x1,po.x2⟩,zkv pok.nx⟩);have rn:rs≠[]:=List.ne_nil_of_mem ((lf2.2 pt.y).mpr ⟨⟨po.y1,po.y2⟩,zkv pok.ny⟩);obtain⟨j1,v1,gj1,_,_,at1,lp1⟩:85:=zhr 12;ext Ea gj1 x hx;obtain⟨j2,v2,gj2,_,_,at2,lp2⟩:85:=zhs 360;ext Ea gj2 y hy;obtain⟨⟨x1,x2⟩,nox⟩:=(lf1.2 x).mp (Zj hx);obtain⟨⟨y1,y2⟩,noy⟩:=(lf2.2 y).mp (Zj hy);show(La,⟨84,lc,_,rfl,lW hlc,lp1,⟨lc,_,_,uh,rfl,rfl,aW hlc,at1,fQ,lr,_,rfl,lW hlr,lp2,lr,_,_,wy,rfl,rfl,aW hlr,at2,(gB leS4),au tp7 htp7⟩⟩,q _ tp7 _ ((HP).trans (bM htp7)) xk (xci.shift pt x y hpt x1 x2 y1 y2 fun p hp' ne=>⟨nox p hp' ne,noy p hp' ne⟩))
  clear v5 v6 v7 v8 v9 v10 v11;rintro _ H5 (⟨v5,v6,v7,v8,⟨v9,v10,v11,s5,rfl⟩⟩:121);have s05:=s02.trans s5;exact⟨a,dp,do_,w',h',ps,ss,srt,nb,rfl,rT s05,h16,fun H6 tp xs s6 htp dt=>q _ tp xs HP htp dt⟩
theorem xjm {w:Int}{ss:ai}:∀{prs:aE},DN=[]->∀ k,cans w ss (prs.drop k)=[]
 | [],_,k=>eB List.drop_nil
 | cM,h,0=>h
 | oI,h,cJ=>xjm (prs:=r) (List.append_eq_nil_iff.mp (dU,(K6 r)++cans w ss r,[],h)).2 k
theorem xwj {w:Int}{ss:ai}{prs:aE} (h:DN=[]) {i j:Nat}{p p':Pr} (h1:aU prs p) (h2:cO AY p'):Hk=none:=by
 have z:=xjm h i;ext nF l1 l2 h1;rw[JK l1,l2] at z;show(ah,y,(List.append_eq_nil_iff.mp (dU,(K6 AY)++cans w ss (prs.drop aY),[],z)).1,x,List.filterMap_eq_nil_iff.mp y p' (Zj h2));cases e:Hk with
 | none=>rfl
 | some c =>
  ext bV e x
theorem xd4.one {lens:bU}{names:ap}{T T':Int} (a:RP T) (b:RP T'):T=T':=by
 show(ah,h1,a.le_of b zmY,h2,b.le_of a zmY)
 omega
theorem xqc {l m:iw} (h:Geo.meet l m=none):Geo.meet m l=none:=Geo.meet_no fun c hc hl=>by
 have z:=J7.mp h c hl;simp at z;exact z hc
inductive xp9 (t:Adr) (vs:af) (H:Hp) (Q:VK) (_:XK):Prop
 | mk (a d lp dp do_:Addr) (w h:Nat) (ps:am) (s0 ss srt:ai) (prs:aE) (qs:ax) (e_:vs=[bb,i9,.ref lp]) (r_:Dr t H a dp do_ w h ps s0 srt/\(aq,lR,LwD H d eC hU,IO,lQ,G6 sA (C9 lD iL) Ik WQ true))
inductive xva (t:Adr) (vs:af) (H:Hp) (Q:VK) (_:XK):Prop
 | mk (hd pa dp do_ lg:Addr) (w h:Nat) (ps:am) (ss srt:ai) (prs:aE) (qs:ax) (e_:AG) (r_:Hn t H hd pa dp do_ lg w h ps ss srt prs qs/\(vV,Q (.bl true) H'))
theorem xi7 {ys:af}{cs:dG} (ly:wm cs.length) (fy:GU ziT):ys=(cs.map (·.1)).map V.str:=by
 show(G9,bW ly Za,c,hc);ext Ab hc
theorem xci.perm {w h:Nat}{ps:am}{ss s2:ai}{xs:af} (p:s2.Perm ss) (d:xci w h ps s2 xs):ya xs:=by
 cases d with
 | come nm x y sd lo hi ok no le=>exact .come nm x y sd lo hi ok no le
 | go pt hp=>exact .go pt hp
 | shift pt x y hp x1 x2 y1 y2 no=>exact .shift pt x y hp x1 x2 y1 y2 no
 | unbar b r r1 r2 no=>exact .unbar b r r1 r2 fun m=>no (p.mem_iff.mpr m)
 | bar b r hm=>exact .bar b r (p.mem_iff.mp hm)
theorem xtw (ns:df):∃ ms:df,cutV HU (some 5) (some 13)=ms.map V.int/\ms.length<=8:=by
 show(im,(ns.drop (min 5 ns.length)).take (min 13 ns.length-min 5 ns.length),?_)
 .unfold cutV;simp only[HT.sIx,Za];rw[yN,yN,Yo,Yp];rfl
 .rw [Jl];omega
theorem ok_bf (T:aF):FnOk true P w K mg base aD 8 t.f_bf t.d_bf T7 (xp9 t):=by
 refine T.F_bf.okn (k:=7) sc_bf (aJ h) (fun cdv A outer s H vs Q E hr h=>?_)
 .obtain ⟨a,d,lp,dp,do_,w',h',ps,s0,ss,srt,prs,qs,rfl,_⟩:=h;rfl
 .obtain ⟨a,d,lp,dp,do_,w',h',ps,s0,ss,srt,prs,qs,rfl,h⟩:=h;refine⟨_,xh (xbg ZA rfl (xdn rfl T.n_range (fX (lU 2))) (pN 3 sc_bf.nd) (xl (xbg ZA rfl (xdn rfl T.n_range (fc 3)) (pN 4 sc_bf.nd) (xh (pS 5 sc_bf.nd (xal (gP zbg zbg)))
   (xh (pS 6 sc_bf.nd (xal (gP zbh zbh)))
   (kR (PW.pt (xeg (xcu (xet gz qm (A6 1 zbh))) (xds (xcu (xet gz jL (A6 1 zbg)))))) (kR (xae xfo (pC (xia T) hr T.g_meeting T.F_meeting.kp T.b_meeting (pX 0 (iQ 2 fJ) (iQ 2 dw))) (xc3) dO) qO)))))))
   qO,?_⟩
  refine sq2 ?_; intros; refine fq ?_; intros; obtain⟨dr,pok,lw,hlp,pl,l12,⟨ok,pm,cn,q⟩⟩:47:=h;show(dN,ql,pl.len,Fl lp hlp zpR)
  show(MA,∃ v3 v4 v5 v6:b8,Z=[dJ,rq,Fb,v3,v4,v5,v6]/\tT)
  show(Oa,⟨122,_,_,_,_,rfl,kN⟩)
  .rintro k Z H2 hk (⟨v3,v4,v5,v6,rfl,s2⟩:122);ext zoC; have hk':k<prs.length:=by
    ext GV hk
   ext zpD;have hqk:eZ qs k (qs[k]' aa):=Cy;show(ag,Pk,hPk,ePk,pl.get hqk);obtain⟨ok1,ok2⟩:(mP,0+i7,1000):=aa
   have okk:=ok Pk (Zj hPk);generalize qs[k]' aa=oK at hqk ePk;have atk:atI (qs.map V.ref) (0+i7)=(aC oK):=by
    ext On hqk
   refine ib _ rfl aa aa ?_
   show(MA,∃ v4 v5 v6:b8,Z=[dJ,rq,Fb,bz (0+i7),v4,v5,v6]/\tT)
   show(Oa,Iy s2)
   .rintro j Z H3 hj (⟨v4,v5,v6,rfl,s3⟩:102);refine gn ?_; refine sq3 ?_; intros; have hj':j<k:=by
     ext GV hj
    have hqj:cO qs (qs[j]' aa):=Cy;show(ag,Pj,hPj,ePj,pl.get hqj);have okj:=ok Pj (Zj hPj);generalize qs[j]' aa=oJ at hqj ePj;have atj:atI (qs.map V.ref) (0+um)=(aC oJ):=by
     ext On hqj
    show(ah,no,xwj cn hPj (j:=k-fW) (p':=Pk) (pQ List.getElem?_drop (eS,fW+(k-fW)=k) hPk),hl3,fK hlp);show(wE,e1,fK ePk,e2,fK ePj,GA oK hl3 atk ⟨oK,_,1,_,rfl,rfl,cN e1,rfl,lp,_,_,.ref oK,rfl,rfl,aW hl3,atk,oK,_,2,_,rfl,rfl,cN e1,rfl,cS,au q4 hq4⟩);show(C3,(i6,H3,q4,iE (bg Pk),bX Pk),hq4);show(wE,hl4,cm hl3,f2,cm e2,GA oJ hl4 atj ⟨oJ,_,1,_,rfl,rfl,cN f2,rfl,lp,_,_,.ref oJ,rfl,rfl,aW hl4,atj,oJ,_,2,_,rfl,rfl,cN f2,rfl,cS,zdE⟩);generalize eu:(i6,H4,q5,iE (bg Pj),bX Pj)=H5;ext Vz; ext qZ s5 hq5;show(ah,g5,ug_e eu,s35,s4.trans s5);show(ah,s05,s3.trans s35,hl5,cG hl4);show(ah,b1,s35 _ _ e1,b2,s35 _ _ e2);have gk:(ae,H5 q4,tO Pk.2):=BR;have gj:(ae,H5 q5,tO Pj.2):=g5;have nj:(jh Pj)∈eC:=Zg.mpr (dH,Pj.1,Z7 okj.fd);have nk:(jh Pk)∈eC:=Zg.mpr (dH,Pk.1,Z7 okk.fd);show(ag,qd,dg,hqd,(lw.same s05).get nj);show(ag,qe,dh,hqe,(lw.same s05).get nk);show(br,GA oJ hl5 atj ⟨oJ,_,0,_,rfl,rfl,cN b2,rfl,d,.ref qd,rfl,dg,qd,_,rfl,LnT.get hqd gk,_,rfl,FW c1 (fun c1=>Iy s05)⟩,GA oK hl5 atk ⟨oK,_,0,_,rfl,rfl,E9,rfl,d,.ref qe,rfl,dh,qe,_,rfl,LnT.get hqe gj,_,rfl,FW c2 (fun c2=>Iy s05)⟩);ext lN; refine GA oK hl5 atk ⟨lp,_,_,.ref oJ,rfl,rfl,aW hl5,atj,a,dp,do_,_,_,ps,oK,oJ,jh Pk,jh Pj,Pk.1,Pj.1,bg Pk,bg Pj,bX Pk,bX Pj,rfl,(rT s05).pic,b1,b2,cL okk.nm okk.fd okk.r1 okk.r2 okk.xy,cL okj.nm okj.fd okj.r1 okj.r2 okj.xy,b9 H6 v s6 mv⟩;rw[Y9,xfs,decide_eq_true_iff] at c1 c2;show(ah,m1,(zdR okj.fd).mp c1,m2,(zdR okk.fd).mp c2);have ex:excB ss Pj Pk=true:=by
     unfold excB mayB;rw[zkX m1,zkX m2,JX,JX,m1.2,m2.2];rfl
    unfold canO at no;rw[ex,bY] at no;have no:=xqc no;unfold cel at no;rw[no] at mv;rcases mv with⟨_,rfl⟩|⟨c,q6,em,_⟩
    .exact (j6,ifN jz (Iy HP))
    .cases em
   .rintro Z H3 (⟨v4,v5,v6,rfl,s3⟩:102);exact⟨122,_,_,_,_,rfl,s3⟩
  .rintro Z H2 (⟨v3,v4,v5,v6,rfl,s2⟩:122);exact q H2 s2
theorem ok_a9 (T:aF):FnOk true P w K mg base aD 13 t.f_a9 t.d_a9 ["_law_hand"] (xva t):=by
 refine T.F_a9.okn (k:=12) sc_a9 (aJ h) (fun cdv A outer s H vs Q E hr h=>?_)
 .obtain ⟨hd,pa,dp,do_,lg,w',h',ps,ss,srt,prs,qs,rfl,_⟩:=h;rfl
 .obtain ⟨hd,pa,dp,do_,lg,w',h',ps,ss,srt,prs,qs,rfl,h⟩:=h;refine⟨_,xh (pS 1 sc_a9.nd (xah aM T.c_ao T.m_q (ok_q T) aA T.b_q .nil xq))
   (xh (pS 2 sc_a9.nd (pC (ok_ak T) hr T.g_ak T.F_ak.kp T.b_ak fD))
   (xh (pS 3 sc_a9.nd (pC (xg3 T) hr T.g_kept T.F_kept.kp T.b_kept fD))
   (xh (pS 4 sc_a9.nd (xah aM T.c_ao T.m_a2 (ok_a2 T) aA T.b_a2 .nil xq))
   (xh (zaC (zcU zjW) (xae D1 (xah aM T.c_ao T.m_a4 (ok_a4 T) aA T.b_a4 .nil xq) fJ dO) (lq (pC (ok_a5 T) hr T.g_a5 T.F_a5.kp T.b_a5 (kg 2 3 4))))
   (xh (pS 5 sc_a9.nd (pC (ok_ba T) hr T.g_ba T.F_ba.kp T.b_ba (gm 2 4)))
   (xh (zdY (IK (pC (ok_be T) hr T.g_be T.F_be.kp T.b_be (fX (xah aM T.c_ao T.m_aj LB aA T.b_aj .nil xq))) (xae xg0 (xah aM T.c_ao T.m_aj LB aA T.b_aj .nil xq) qm dO)))
   (xh (zdY (xco (pK xg0 5 (pC (ok_ba T) hr T.g_ba T.F_ba.kp T.b_ba (gS 2 (IX (pC (xhp T) hr T.g_least T.F_least.kp T.b_least (gm 1 3)))))) (xcm (lq (pC (ok_bf T) hr T.g_bf T.F_bf.kp T.b_bf (kg 1 2 4))))))
   (xh (pS 6 sc_a9.nd (xd7 T.k_ao (ok_bd T) aA rfl T.g_ao T.b_bd .nil xq fD))
   (xh (xcp rfl (xaw (zs:=zkn) (ys:=[]) (fr:=[]) (N0:=["_law_hand", "_law_picture_here", "_law_lengths_here", "_law_names_here", "_law_pairs", "_law_steps_here", "_law_anew", "_law_gone"]) (sc0:=xm s_a9) aG rfl rfl rfl) (xaj (xah aM T.c_ao T.m_x (ok_x T) aA T.b_x .nil xq)) zK B4 dR uU (j:=7) rfl ro)
   (cC (xc2 (xcv zcE (xah jL T.c_ao T.m_a4 (ok_a4 T) aA T.b_a4 .nil xq) fJ dO) (xc2 (xcv xb5 (xah jL T.c_ao T.m_aj LB aA T.b_aj .nil xq) qm dO) (xei (xcv zcE (xa4 rfl (xaw (zs:=["_law_row"]) (ys:=[]) (fr:=[]) (N0:=["_law_hand", "_law_picture_here", "_law_lengths_here", "_law_names_here", "_law_pairs", "_law_steps_here", "_law_anew", "_law_gone"]) (sc0:=xm s_a9) aG rfl rfl rfl) (xaj (xah jL T.c_ao T.m_x (ok_x T) aA T.b_x .nil xq)) jK jx dR N6) (pv 7) dO)))))))))))))),?_⟩
  refine sq11 ?_; intros; ext gK hn h;show(iW,ho_,gv,an,id hn);show(EV,hp,ho_.ins);obtain⟨cs,so,ho,run,en,gp,my,cn,lf⟩:106:=an;obtain⟨w30,h16⟩:=ho_.b;show(ah,pok,ho_.pok,dr,ho_.dr);show(cB,nnd,EQ,pok.nn,p12,pok.le);ext Nx
  ext Vf;show(cB,kl,Kz ff,ZN rA aa,lo,MJ);ext ah st zpT cl IQ;have rms:(IT,aV∈eC,bJ∈xax sG aV):=fun p hp=>by
   have mp:=Z7 (gp.ok p hp).fd;show(aS,Lm aL mp,(xdk pok.nn mp).mpr (my p hp))
  refine⟨hd,dx,_,rfl,hp,fC,hd,pa,dp,do_,lg,w',h',ps,ss,srt,rfl,ho_,fun H1 a1 dp1 do1 s1 f1 f2 f3 dr1=>?_⟩;show(br,⟨a1,dp1,do1,w',h',ps,srt,srt,rfl,dr1,pok,fun H2 d s2 _ lw=>?_⟩,⟨a1,dp1,do1,w',h',ps,srt,srt,rfl,dr1.same s2,nnd,fun H3 ln cs2 so2 ho2 s3 _ e3 run2=>?_⟩);ext zQ run2;have s03:=(iz).trans s3;refine⟨hd,dx,_,rfl,s03 _ _ hp,fC,hd,pa,dp,do_,lg,w',h',ps,ss,srt,qs,rfl,ho_.same s03,s03 _ _ gv.hl,b9 H4 lp s4 e4⟩;show(ah,s04,s03.trans s4,e34,cm e3);show(ah,lw4,(lw.same s3).same s4,pl4,gv.pl.keep (Same.tups s04));have g_true:gvL sG ff prs=true:=xfj.mpr ⟨en,gp.ns,(dS,(rms p hp).2)⟩
  show(HI,Same H4 H',[yO,aC a1,rq,nY,Fb,none,none,none])
  .ext lN; show(br,qF ⟨104,_,_,true,.lst e4,rfl,xce,eX true n8⟩,⟨hd,dx,_,rfl,s04 _ _ hp,fC,hd,pa,dp,do_,lg,w',h',ps,ss,srt,rfl,ho_.same s04,fun H5 l5 cs3 so3 ho3 s5 e5 run3=>?_⟩);ext zQ run3;refine Nr e5 (cG e34) (cA,ifN (sT xcq) ?_);exact⟨d,ln,lp,eC,ff,sG,prs,qs,rfl,⟨47,lw4.same s5,cG e34,(BZ,rb hx),Lq,zns,gp.le,fun H6 s6=>(cA,ifN (eB g_true) (ld AU))⟩⟩
  ext Ei H5 s5;show(dN,lb,fun n x=>lo.b n x,⟨d,lp,eC,sG,prs,qs,rfl,⟨47,lw4.same s5,Lq,zns,gp.le,rms,lb,au H6 s6⟩⟩);rw[st];show(ah,s46,AU,s06,s04.trans s46)
  show(HI,Same H6 H',[yO,aC a1,rq,nY,Fb,bz Rx,none,none])
  .ext lN; refine⟨hd,dx,_,rfl,s06 _ _ hp,fC,hd,pa,dp,do_,lg,w',h',ps,ss,srt,prs,qs,rfl,hn.same s06,fun H7 s7=>(wC,_,rfl,_,ifN az ?_)⟩;exact⟨hd,dx,_,rfl,(s06.trans s7) _ _ hp,fC,hd,pa,dp,do_,lg,w',h',ps,ss,srt,prs,qs,rfl,hn.same (s06.trans s7),fun H8 s8=>(j6,ifN aj (ld,s7.trans s8))⟩
  ext Ei H7 s7;show(ah,s47,s46.trans s7,s17,((RC).trans s4).trans s47)
  show(ah,dr7,dr1.same s17,lw7,lw4.same s47)
  show(HI,Same H7 H',[yO,aC a1,rq,nY,Fb,bz Rx,none,none])
  .ext lN; refine⟨a1,ln,dp1,do1,w',h',ps,srt,srt,ff,rfl,⟨47,dr7,pok,s47 _ _ e34,xi1,knd,kl,(U0,fun H8 tp lp2 d_o d_r qs2 prs2 own rent so' ho' s8 htp hlp2 pl2 en2 al ow rn run4 _ _ _ _=>Vo)⟩⟩;obtain⟨gp2,my2⟩:=xf8 pok dr1.ok dr1.pm en2 knd kl al run4;obtain⟨lf2,_,_⟩:43:=run4.fit.leastF lo knd en2 (dS,(pP).2);have eT:=lf2.one lf;refine⟨d,lp2,eC,sG,prs2,qs2,rfl,⟨47,lw7.same s8,hlp2,pl2,gp2.le,kS,lb,fun H9 s9=>EN (jr eT)⟩⟩
   .have mp:=Z7 (gp2.ok p hp).fd;show(aS,Lm aL mp,(xdk pok.nn mp).mpr (my2 p hp))
   have s79:=s8.trans s9;exact⟨a1,d,lp,dp1,do1,w',h',ps,srt,ss,srt,prs,qs,rfl,⟨47,dr7.same s79,pok,lw7.same s79,(s47.trans s79) _ _ e4,pl4.keep (Same.tups (s47.trans s79)),gp.le,bR gp.ok dr.pm cn (zbu,H10,s10,s79.trans s10)⟩⟩
  ext Ei H8 s8;have s48:=s47.trans s8;show(ah,s08,s04.trans s48,dr8,dr7.same s8);refine (bL h2 dx2 hx hdx ne);show(aw,k9,rL (ae,H8 b,u) (oB (qW H8 dx2 h2) h2 (.ins t.C_ao dx2 [])),oA XI,⟨h2,dx2,a1,dp1,do1,w',h',ps,srt,srt,rfl,⟨46,xk,dr8.same k9,pok,w30,h16,fun H9 pa2 dp2 do2 lg2 prs3 qs3 k10 _ _ _ hn2=>tS⟩⟩);show(lI,s9,Same H8 H9,k10 _ _ (xi e hx) (k9 _ _ e));have s09:=s08.trans s9;refine⟨hd,dx,_,rfl,s09 _ _ hp,fC,hd,pa,dp,do_,lg,w',h',ps,ss,srt,rfl,ho_.same s09,fun H10 lo1 os1 cs4 so4 ho4 s10 e10 ol1 run5=>gH lo1 e10 l11 hl11⟩;ext zQ run5;show(zH,oll,ol1.len,xba (aW e10) np hl11 Md lL (fun j x H11 hx s11 N hN=>?_) (fun ys H11 s11 e11 ly fy=>?_))
  .ext zhQ
  ext W1 oll;have hn3:=hn2.same (s10.trans s11);obtain⟨dx3,hp3⟩:=hn3.1.ins;show(ah,s8b,zms,s0b,s08.trans s8b);refine⟨h2,dx3,_,rfl,hp3,fC,h2,pa2,dp2,do2,lg2,w',h',ps,srt,srt,rfl,hn3.1,fun H12 l12 cs5 so5 ho5 s12 e12 run6=>?_⟩;ext zQ run6;refine Nr e12 ((s48.trans s8b).trans s12 _ _ e34) yM;rw[xcq];refine iteT ?_;refine⟨h2,dx3,_,rfl,s12 _ _ hp3,fC,h2,pa2,dp2,do2,lg2,w',h',ps,srt,srt,prs3,qs3,rfl,hn3.same s12,au H13 s13⟩;have eT:totI mC prs3=Rx:=by
   obtain⟨cs6,so6,ho6,run7,_,_,_,_,lf6⟩:106:=(bX hn3)
   ext zQ run7;exact lf6.one lf
  rw[eT];refine(j6,ifP aj ?_);have s1b:=s12.trans s13;refine⟨h2,dx3,_,rfl,s1b _ _ hp3,fC,h2,pa2,dp2,do2,lg2,w',h',ps,srt,srt,rfl,hn3.1.same s1b,fun H14 lo2 os2 cs7 so7 ho7 s14 e14 ol2 run8=>gH lo2 e14 l15 hl15⟩;ext zQ run8;show(zH,oll2,ol2.len,xba (aW e14) np hl15 Md lL (fun j x H15 hx s15 N hN=>?_) (fun ys H15 s15 e15 ly fy=>?_))
  .show(NN,lc,hq,ol2.get hqa);exact(RR,.str c.1,s15 _ _ hq,lJ kN SO)
  ext W1 oll2;show(dN,s1f,s1b.trans (s14.trans s15),Nr e15 (s1f _ _ e11) ?_);show(aQ,xcq,q _ (s0b.trans s1f))
theorem xvx (T:aF):FnOk true P w K mg base aD 14 t.f_law t.d_law Ai (xkc K):=by
 refine T.F_law.okn (k:=13) xgd (aJ h) (fun cdv A outer s H vs Q E hr h=>?_)
 .ext wX sc ns
 .ext xH sc ns;refine⟨_,xh (pS 1 xgd.nd (pC (ok_z T) hr T.g_z T.F_z.kp T.b_z zj))
   (xh (pS 2 xgd.nd (xd7 T.k_ao (ok_bd T) aA rfl T.g_ao T.b_bd .nil xq fD))
   (xh (Bb (lq (pC (ok_a9 T) hr T.g_a9 T.F_a9.kp T.b_a9 (fc 2))) qO)
   (xh (xbg ZA rfl (xaj (xea xg7 aM (xd9 (xo)) (xd9 (xo)))) (pN 3 xgd.nd) (xh (pS 4 xgd.nd (pC (ok_bn T) hr T.g_bn T.F_bn.kp T.b_bn (gS 2 (pC (ok_a3 T) hr T.g_a3 T.F_a3.kp T.b_a3 (xa (xah fH T.c_ao T.m_q (ok_q T) aA T.b_q .nil xq) (gS 3 (xo)))))))
   (xh (zaC (zcU (Do "tuple" T.n_tuple boot_tuple)) (xae xg0 (lU 4) (xo) dO) (lq (pC (ok_a9 T) hr T.g_a9 T.F_a9.kp T.b_a9 (fc 2))))
   (xh (xcp rfl (xaw (zs:=zkn) (ys:=[]) (fr:=[]) (N0:=zep) (sc0:=xm xka) aG rfl rfl rfl) (xaj (xah fH T.c_ao T.m_x (ok_x T) aA T.b_x .nil xq)) zK B4 dR uU (j:=5) rfl ro)
   (xh (zaC zmy (xae D1 (uZ 4) qm dO) zmy)
   (xl (xb6 (RM (IK (pC (ok_be T) hr T.g_be T.F_be.kp T.b_be (fX (uZ 4))) (xae xg0 (uZ 4) (xah fH T.c_ao T.m_aj LB aA T.b_aj .nil xq) dO)) qO))))))))
   qO))),?_⟩
  refine sq5 ?_; intros; ext oE hs n63;show(BY,sc,ns,hs,fun H1 a0 dp0 do0 w' h' ps0 st0 ss0 s1 dr pok=>?_);show(ah,w2,dr.pic.w2,h2,dr.pic.h2);refine (bL hd dxh hx hdx ne);show(lI,k1,rL (ae,H1 b,u) (oB (qW H1 dxh hd) hd (.ins t.C_ao dxh [])),XI)
  have fr:∀{b:Addr},(tY (qW H1 dxh hd) hd (.ins t.C_ao dxh []) b)->cZ:=fun {b} z=>by
   cases e:H b with
   | none=>rfl
   | some u =>
    show(bV,k1 _ _ jy,z)
  refine⟨hd,dxh,a0,dp0,do0,w',h',ps0,st0,ss0,rfl,xk,rT k1,pok,aa,aa,fun H2 pa dp do_ lg prs qs k2 f1 f2 f3 hn=>tS⟩;show(lI,s12,kP,k2 _ _ (xi e hx) (k1 _ _ e));have s02:=s1.trans s12;have fd:bo hd:=s1.free hx;show(ah,fp,fr f2,fo,fr f3)
  show(CZ,Eu/\σ'=[wa,aC a0,yO,none,none,none])
  show(im,Pm,⟨hd,pa,dp,do_,lg,w',h',ps0,_,_,prs,qs,rfl,hn,zbu H3 s3 s3⟩);ext Ei H3 s3;ext Vy; show(ag,ms,em,m8,xtw ns);have s03:=s02.trans s3;refine⟨5,rfl,13,rfl,sc,_,rfl,Same.seqL s03 hs,au l4 hl4⟩;rw[em];generalize eu:upd H3 l4 (.lst (ms.map V.int))=H4;show(Al,s4,hl4,g4,hn4,hn.same (s3.trans s4));obtain⟨dx4,hp4⟩:=hn4.1.ins;obtain⟨⟨kd,hkd,_⟩,_⟩:=(⟨hn4.1.dr.pic.pl,trivial⟩:_/\True)
  show(mZ,ko,hko,hn4.1.dr.sts);ext ja n1 l4 hd g4 hp4;ext ja n2 l4 dp g4 hkd;show(aw,n3,l4≠do_,ne_f g4 hko,⟨l4,rfl,FS g4,?_⟩)
  let Pv (i:Nat) (Z:L2.St) (H5:Hp):Prop:=∃(lg:Addr) (ps:am) (ss srt:ai) (prs:aE) (qs:ax) (v3 v4 v5:b8),(bT,Z,[wa,aC a0,yO,v3,v4,v5],(UN (ae,H4 b,u) (ae,H5 b,u)),Hn t H5 hd pa dp do_ lg w' h' ps ss srt prs qs)
  show(zR,ms.map V.int,⟨lg,ps0,_,_,prs,qs,_,_,_,rfl,fun b u _ _ _ e=>e,hn4⟩,?_)
  .show(zho,H5,k5,k5 _ _ n1 n2 n3 g4)
  .rintro i x Z H5 hx (⟨lg,ps,ss,srt,⟨prs,qs,v3,v4,v5,rfl,k5,hn5⟩⟩:121);ext znS; ext SY;show(Bc,c,rfl,hx);show(sQ,dx5,hp5,(Cu).ins,⟨hd,dx5,_,rfl,hp5,fC,hd,pa,dp,do_,lg,w',h',ps,ss,srt,rfl,Cu,fun H6 a6 dp6 do6 s6 _ _ _ dr6=>⟨a6,dp6,do6,w',h',ps,srt,srt,c,rfl,dr6,(Cu).pok,(Cu).b.1,(Cu).b.2,fun H7 tq xs s7 htq dt=>?_⟩⟩);have s57:=s6.trans s7;refine⟨hd,pa,dp,do_,lg,tq,w',h',ps,ss,srt,prs,qs,xs,rfl,(Cu).same s57,(bg hn5).same s57,htq,dt.perm (Cu).dr.pm,fun H8 tp ps' ss' srt' lg' prs' qs' k8 hn8 told=>?_⟩;obtain⟨lo,lm,ys,cs,⟨so,ho,e1,e2,e3,run⟩⟩:121:=told;show(ah,p12,hn8.1.pok.le,cl,IQ);show(we,nl,x9 ps',ps'.length,WZ)
   show(HI,Same H8 H',[wa,aC a0,yO,Cf,aC tp,v5])
   .ext lN; show(br,qF ⟨_,_,true,.tup e1,rfl,xce,true,rfl,n8⟩,⟨tp,_,rfl,.inr (SqT.of e1),rfl,_,rfl,ifN aj ?_⟩);exact⟨hd,pa,dp,do_,lg',w',h',ps',ss',srt',prs',qs',rfl,hn8,zbu H9 s9 s9⟩
   ext Ei H9 s9;have hn9:=hn8.same s9;show(sQ,dx9,hp9,hn9.1.ins,⟨hd,dx9,_,rfl,hp9,fC,hd,pa,dp,do_,lg',w',h',ps',ss',srt',rfl,hn9.1,fun H10 lo1 os1 cs1 so1 ho1 s10 e10 ol1 run1=>⟨lo1,rfl,FS e10,au l11 hl11⟩⟩);ext zQ run1;show(zH,oll,ol1.len,xba (aW e10) np hl11 Md lL (fun j x H11 hx s11 N hN=>?_) (fun ys H11 s11 e11 ly fy=>?_))
   .ext zhQ
   ext W1 oll;show(ah,s8b,zms,b1,s8b _ _ e1)
   show(CZ,H11=H'/\σ'=zie)
   ext BB
   .ext lN; show(br,⟨tp,_,0,.ref lo,rfl,rfl,E9,rfl,_,_,rfl,.inl ⟨_,_,true,.lst (s8b _ _ e2),rfl,xce,true,rfl,n8⟩⟩,⟨tp,_,0,.ref lo,rfl,rfl,E9,rfl,1,1,_,_,xch (s8b _ _ e2),xch e11,az,az,_,rfl,ifN (sT xcq) ?_⟩);exact⟨tp,_,2,.ref lm,rfl,rfl,E9,rfl,_,_,rfl,.inl ⟨_,_,true,.lst (s8b _ _ e3),rfl,xce,true,rfl,ifN az nS⟩⟩
   rintro _ _ ⟨rfl,rfl⟩;have hn11:=hn8.same s8b;obtain⟨dx11,hp11⟩:=hn11.1.ins;have k58:UN (ae,H4 b,u) (ae,H11 b,u):=fun b u m1 m2 m3 e=>s8b _ _ (k8 _ _ m1 m2 m3 (s57 _ _ (k5 _ _ m1 m2 m3 e)))
   show(HI,Same H11 H',zie)
   .ext lN; refine⟨tp,_,1,on,rfl,rfl,E9,rfl,_,rfl,_,rfl,ifN az ?_⟩;exact⟨tp,_,1,on,rfl,rfl,E9,rfl,hd,dx11,_,rfl,hp11,fC,hd,pa,dp,do_,lg',w',h',ps',ss',srt',prs',qs',rfl,hn11,fun H12 s12=>(j6,ifN aj (ld s12))⟩
   ext Ei H12 s12;exact⟨lg',ps',ss',srt',prs',qs',_,_,_,rfl,fun b u m1 m2 m3 e=>s12 _ _ (k58 _ _ m1 m2 m3 e),hn11.same s12⟩
  .rintro Z H5 (⟨lg,ps,ss,srt,⟨prs,qs,v3,v4,v5,rfl,k5,hn5⟩⟩:121);exact q _
#check _
#check S82
-- the names of the twins of whole trees and heaps are xcb here,so that the head makes no such twins (they are what makes its compiled file large); see NOTE.md
namespace PySem.W.Fast
def tw16552389627397862055:=Nat
def tw15614409087855046320:=Nat
def tw14269651113555086806:=Nat
def tw5905172211012667583:=Nat
def tw12823962146556500354:=Nat
def tw13541287080471411165:=Nat
def tw17316541985012615096:=Nat
def tw6719261880085641870:=Nat
def tw18099553386405281191:=Nat
def tw9741906824587344455:=Nat
def tw8493995304506268484:=Nat
def tw6404998950277559079:=Nat
def tw9002883912391873892:=Nat
def tw12184586886365130115:=Nat
def tw15412711273804908319:=Nat
def tw635445915764890060:=Nat
def tw3994458329286968347:=Nat
def tw8021351718502956313:=Nat
def tw17505793759977304647:=Nat
def tw10914138969004502464:=Nat
def tw5170552065159392416:=Nat
def tw11789046833863484207:=Nat
def tw7191189622935109348:=Nat
def tw12293829460137910366:=Nat
def tw5818581024769094465:=Nat
def tw3405117396310569366:=Nat
def tw411760814596597565:=Nat
def tw1827812895570795726:=Nat
def tw954862808566919561:=Nat
def tw16475923207369000706:=Nat
def tw16256649932822728573:=Nat
def tw15825553400772438769:=Nat
def tw14991885473596831579:=Nat
def tw12363086269136405968:=Nat
def tw17821248228083890518:=Nat
def tw12662415153943427177:=Nat
def tw14091365894242218279:=Nat
def tw1406898050149578847:=Nat
def tw1342559556418938124:=Nat
def tw8363788088639472722:=Nat
def tw9941816829518751142:=Nat
def tw13751931925105704398:=Nat
def tw3812641842916924553:=Nat
def tw1410983836775886815:=Nat
def tw9528476942325683076:=Nat
def tw6995460158430729081:=Nat
def tw10209025255391513087:=Nat
def tw13072140108162553787:=Nat
def tw14294547122955380647:=Nat
def tw13704425071926836789:=Nat
def tw13412653208517894348:=Nat
def tw1777691759385275176:=Nat
def tw14349537568508281448:=Nat
def tw12091769113447623329:=Nat
def tw7086443274866338256:=Nat
def tw3145870455928410248:=Nat
def tw4657925628674985706:=Nat
def tw15388282503426892084:=Nat
def tw13084774442391572886:=Nat
def tw14742451472834168999:=Nat
def tw14576347389826442232:=Nat
def tw889921324704623711:=Nat
def tw6825368400631055510:=Nat
def tw1132785580585687042:=Nat
def tw1968917557006186013:=Nat
def tw14624736394662153358:=Nat
def tw1149594396378915231:=Nat
def tw620933521090203746:=Nat
def tw2407428434620774155:=Nat
def tw11380743036658209397:=Nat
def tw1280831772834041671:=Nat
def tw14266357731175788606:=Nat
def tw17768536064542546583:=Nat
def tw3945905176064607827:=Nat
def tw15490802501442436056:=Nat
def tw11877014846132964818:=Nat
def tw4897385746921642844:=Nat
def tw17196138578060743755:=Nat
def tw2078003486685581245:=Nat
def tw13748693304083686477:=Nat
def tw4326510086153359501:=Nat
def tw11234172705741856729:=Nat
def tw7538277994590118765:=Nat
def tw4891598257041735535:=Nat
def tw10903416648207869803:=Nat
def tw2800229645897207624:=Nat
def tw6240813362891680382:=Nat
def tw17261865498683176453:=Nat
def tw2697352154479089247:=Nat
def tw6248052522696367554:=Nat
def tw3833785619041706365:=Nat
def tw12593876253729897757:=Nat
def tw14395534960392135287:=Nat
def tw13843086922272582825:=Nat
def tw15715900045068327685:=Nat
def tw247547295693950368:=Nat
def tw12630454795798278122:=Nat
def tw12341047484617396178:=Nat
def tw7553505377453258549:=Nat
def tw5295602861690083886:=Nat
def tw14704133986474042019:=Nat
def tw18273291962853403638:=Nat
def tw4212231063853488018:=Nat
def tw10880781216732310935:=Nat
def tw16903349608139538537:=Nat
def tw6997829333792586000:=Nat
def tw5210378812504723246:=Nat
def tw17163737980283568336:=Nat
def tw11250027646874702990:=Nat
def tw306057012769431897:=Nat
def tw6976847123564691736:=Nat
def tw18182536764732963076:=Nat
def tw13711206057928847721:=Nat
def tw3560497606301961082:=Nat
def tw8713325361110710969:=Nat
def tw385306359132840352:=Nat
def tw3070331847839176098:=Nat
def tw16654181248951763766:=Nat
def tw11576177031566662157:=Nat
def tw6162062039710857256:=Nat
def tw12847276838946034627:=Nat
def tw11120530759658434576:=Nat
def tw16497427169949762374:=Nat
def tw14256740080502693428:=Nat
def tw4183513189742053402:=Nat
def tw6680749930660616385:=Nat
def tw4018191212666820709:=Nat
def tw947155967203863897:=Nat
def tw1766138376918173939:=Nat
def tw789577914570226468:=Nat
def tw7972074761948205976:=Nat
def tw15376952221431022523:=Nat
def tw9558302807508854737:=Nat
def tw9788930180623092876:=Nat
def tw14993836576734601913:=Nat
def tw13726089100005845038:=Nat
def tw3478515156578039780:=Nat
def tw3606329564042280223:=Nat
def tw2163483325348046962:=Nat
def tw591407616809284890:=Nat
def tw15451074614508447193:=Nat
def tw18358576631656093831:=Nat
def tw14669398506531721700:=Nat
def tw17533080092109404995:=Nat
def tw8563445019291320458:=Nat
def tw18236256264300649778:=Nat
def tw699083989269243069:=Nat
def tw3454615151705532493:=Nat
def tw13527174433756286749:=Nat
def tw15054209625597708231:=Nat
def tw5747307759171522796:=Nat
def tw10733050532785939130:=Nat
def tw10600259089255978823:=Nat
def tw14906523130387660537:=Nat
def tw9216419038625349508:=Nat
def tw13874897486548325614:=Nat
def tw11356986171401032265:=Nat
def tw1448269043625993585:=Nat
def tw10177020450819879895:=Nat
def tw4671103170872173118:=Nat
def tw1221421670028980515:=Nat
def tw13487053154264214962:=Nat
def tw11548038969505456911:=Nat
def tw5829565757110957669:=Nat
def tw10873768498957039872:=Nat
def tw8591976700393923758:=Nat
def tw261435360728240610:=Nat
def tw1375371916561486978:=Nat
def tw15056977694875701937:=Nat
def tw17403695829009556439:=Nat
def tw11301853261418229714:=Nat
def tw10403951941891138631:=Nat
def tw9189970667548339050:=Nat
def tw9933407764832567535:=Nat
def tw13986884203807185114:=Nat
def tw6262202878363363806:=Nat
def tw556510677567686922:=Nat
def tw10546592596578604288:=Nat
def tw3209624778867611854:=Nat
def tw12772090773798214338:=Nat
def tw2499321726716433755:=Nat
def tw17059300271052577955:=Nat
def tw16686039318298915528:=Nat
def tw8184804904002813250:=Nat
def tw2761851644934873119:=Nat
def tw16117345015097872961:=Nat
def tw8586255621838180578:=Nat
def tw7785271223138720653:=Nat
def tw14163947740508833639:=Nat
def tw10723979253184284510:=Nat
def tw17823833625045968603:=Nat
def tw17353763961963755069:=Nat
def tw10643885631412185469:=Nat
def tw12261900598018102303:=Nat
def tw16739195731270334332:=Nat
def tw8127139295638235889:=Nat
def tw9659727507301040294:=Nat
def tw17674658194448365075:=Nat
def tw12568370268927403422:=Nat
def tw10221951286681829925:=Nat
def tw6917821833497167734:=Nat
def tw5621538062116783113:=Nat
def tw1668614482245123416:=Nat
def tw13027119640140827772:=Nat
def tw4382928153276377056:=Nat
def tw5944134851179593270:=Nat
def tw263755726470651627:=Nat
def tw15268998150577120089:=Nat
def tw11320797629820906716:=Nat
def tw4188202288338143822:=Nat
def tw2752292234943078505:=Nat
def tw10745562708631731426:=Nat
def tw15198318754393156053:=Nat
def tw12870468352796802557:=Nat
def tw8535759499570655485:=Nat
def tw12930980735350566330:=Nat
def tw13926131122071653103:=Nat
def tw6849497507075075175:=Nat
def tw3924810579023176864:=Nat
def tw16596928481655284614:=Nat
def tw6296938102952714725:=Nat
def tw12137245845178563959:=Nat
def tw9581731137098633217:=Nat
def tw11676069588770418167:=Nat
def tw3242163307660685995:=Nat
def tw17852530966706718282:=Nat
def tw2886968995449200605:=Nat
def tw17931772866230873060:=Nat
def tw10695209413714917404:=Nat
def tw5703099276143143181:=Nat
def tw14170471942545927372:=Nat
def tw1315743629410768867:=Nat
def tw2344251456250426285:=Nat
def tw15330228723933586896:=Nat
def tw7453740414317573374:=Nat
def tw17231419426512818917:=Nat
def tw3634516338652098981:=Nat
def tw6673095538643877247:=Nat
def tw12751191317177509208:=Nat
def tw10895533472894351946:=Nat
def tw15111996746110552559:=Nat
def tw601333617749707812:=Nat
def tw381666812538466202:=Nat
def tw677908656475699474:=Nat
def tw1747398549784336702:=Nat
def tw240804200611536427:=Nat
def tw10158751992114733542:=Nat
def tw9673079168796880720:=Nat
def tw1101621900451201642:=Nat
def tw5217764002320236087:=Nat
def tw15901755783836567633:=Nat
def tw7054862664406367661:=Nat
def tw114182534616697753:=Nat
def tw3640267055146164127:=Nat
def tw11209392019988169889:=Nat
def tw11082038415284206726:=Nat
def tw13506418556944394776:=Nat
def tw14989812181810154855:=Nat
def tw3664409960715830402:=Nat
def tw3229331460916701797:=Nat
def tw13067362208611027422:=Nat
def tw8501079782853030089:=Nat
def tw17010095858488400481:=Nat
def tw16281631137053703634:=Nat
def tw348760700007914587:=Nat
def tw17468094493839947597:=Nat
def tw2256602979184819525:=Nat
def tw734456780599400040:=Nat
def tw10239869112759013084:=Nat
def tw13776292078448406034:=Nat
def tw15655298672986451921:=Nat
def tw6849782889502518514:=Nat
def tw18025136289168493001:=Nat
def tw7586653833623563162:=Nat
def tw7626153132937607057:=Nat
def tw9027775572657174822:=Nat
def tw17486278276832873174:=Nat
def tw17499775812212337443:=Nat
def tw9600113248858099333:=Nat
def tw12492536352729882115:=Nat
def tw6688505017564413517:=Nat
def tw5962108477166444433:=Nat
def tw4958139778801747614:=Nat
def tw1477867540402754781:=Nat
def tw9097381069909118899:=Nat
def tw5329986155928594616:=Nat
def tw7101623325490197151:=Nat
def tw956260920325066101:=Nat
def tw15321375533401126032:=Nat
def tw312950121616098850:=Nat
def tw10705998397056387161:=Nat
def tw9556976821317293367:=Nat
def tw5136785562315478403:=Nat
def tw3249770904078947847:=Nat
def tw13368649011030239175:=Nat
def tw5283564345688571323:=Nat
def tw9483216520240200980:=Nat
def tw13667172702127900218:=Nat
def tw10510442144973613260:=Nat
def tw2201007263649761412:=Nat
def tw10992790753234975364:=Nat
def tw1426312370250734533:=Nat
def tw7321601758402994404:=Nat
def tw10479435148811333000:=Nat
def tw12998165547226414730:=Nat
def tw2509072744023932156:=Nat
def tw15371607375772822212:=Nat
def tw2556994187502252587:=Nat
def tw15459571904804376696:=Nat
def tw14845875227239925269:=Nat
def tw9475947568677494950:=Nat
def tw2925621723252943792:=Nat
def tw1761308777623087535:=Nat
def tw6751899721439998972:=Nat
def tw14282627622312112513:=Nat
def tw11096952272702346194:=Nat
def tw8380754114484724865:=Nat
def tw5694108490107477241:=Nat
def tw261979754303839562:=Nat
def tw12396606152748157910:=Nat
def tw5915087719523007625:=Nat
def tw4273248050790428665:=Nat
def tw15862002939295196437:=Nat
def tw17603856675115185899:=Nat
def tw1517689897786628280:=Nat
def tw2969537633636798332:=Nat
def tw947300185514459890:=Nat
def tw9970211199688559235:=Nat
def tw16873348321091632015:=Nat
def tw17018220951511406993:=Nat
def tw4410937856646351410:=Nat
def tw16502444763899871603:=Nat
def tw963714568514188748:=Nat
def tw7536794168890699664:=Nat
def tw18034255963303701394:=Nat
def tw2387424424003811675:=Nat
def tw9357834955694415265:=Nat
def tw17728875565946439499:=Nat
def tw4911443031937401283:=Nat
def tw7549845063065699751:=Nat
def tw6186360069057826953:=Nat
def tw9320628532529784837:=Nat
def tw17352762977588091207:=Nat
def tw11826144086928186595:=Nat
def tw1117290706634098928:=Nat
def tw152444747915126546:=Nat
def tw16272681327984002126:=Nat
def tw7972311461475750390:=Nat
def tw2032920536643304097:=Nat
def tw12240067379027585525:=Nat
def tw9363067302162268838:=Nat
def tw17633258979946220875:=Nat
def tw18030010316240506098:=Nat
def tw541454556568084101:=Nat
def tw15874433762734903608:=Nat
def tw2035965200812327185:=Nat
def tw13229324964258844721:=Nat
def tw8671271040524218353:=Nat
def tw4528431628078477446:=Nat
def tw11954299582077736186:=Nat
def tw6333734232759640526:=Nat
def tw12106915945688705495:=Nat
def tw4659744767084553206:=Nat
def tw14394256699946245683:=Nat
def tw7228210592773354365:=Nat
def tw17235591005759309714:=Nat
def tw10003195226850859823:=Nat
def tw9179895227120660147:=Nat
def tw17004712676610562788:=Nat
def tw15106349209219403626:=Nat
def tw1953779096895782708:=Nat
def tw18416653042655329792:=Nat
def tw10534096170234132290:=Nat
def tw15598428086923178974:=Nat
def tw5333387214876390913:=Nat
def tw16647468595129131242:=Nat
def tw7893134213583102803:=Nat
def tw7325290893696168832:=Nat
def tw15948414339891266762:=Nat
def tw4784801180463708656:=Nat
def tw4295703916071630576:=Nat
def tw9719351563135572992:=Nat
def tw8948530102656522007:=Nat
def tw17500069591000591056:=Nat
def tw6713137264940018305:=Nat
def tw16453566175970934873:=Nat
def tw13957215174383627277:=Nat
def tw6617981632823809214:=Nat
def tw8005557597250203104:=Nat
def tw13750575750288327128:=Nat
def tw6661057116830491828:=Nat
def tw15063897223292203008:=Nat
def tw12960343200362186236:=Nat
def tw4843090616218989625:=Nat
def tw17135543167068705790:=Nat
def tw15886281903355087647:=Nat
def tw3187430857452301186:=Nat
def tw5682661382060837735:=Nat
def tw8228918890001146694:=Nat
def tw5673895031015876775:=Nat
def tw16771011901548261168:=Nat
def tw7310629875423230409:=Nat
def tw11147781752543445205:=Nat
def tw8547623744820119148:=Nat
def tw1300653101567588435:=Nat
def tw17261111755294376242:=Nat
def tw9062298516171896257:=Nat
def tw14373467125586428503:=Nat
def tw4113950469901301417:=Nat
def tw7706105334840160509:=Nat
def tw6157763481716954807:=Nat
def tw11760000472905564942:=Nat
def tw10572384544052749137:=Nat
def tw3676121188512510547:=Nat
def tw3620870511125683305:=Nat
def tw16576361695640503293:=Nat
def tw18249166415053960989:=Nat
def tw9175750285571467834:=Nat
def tw13335957246120494303:=Nat
def tw15536361103576718904:=Nat
def tw9017833736458313795:=Nat
def tw786088277015473499:=Nat
def tw2232407081949998139:=Nat
def tw18060712908359836302:=Nat
def tw15238286402820070363:=Nat
def tw15437983387843935136:=Nat
def tw7407432259584379353:=Nat
def tw3271649754217122642:=Nat
def tw10499753077526611065:=Nat
def tw15623812528119604484:=Nat
def tw8854548264388817265:=Nat
def tw2651379502182899354:=Nat
def tw16544230101197709081:=Nat
def tw3158451518357111076:=Nat
def tw205680950940520781:=Nat
def tw12469442466552423499:=Nat
def tw2980670766699710794:=Nat
def tw7413791679783858421:=Nat
def tw15732416570326433495:=Nat
def tw763816069608409407:=Nat
def tw16714693651877861318:=Nat
def tw4599766444614705863:=Nat
def tw10833026241340751945:=Nat
def tw5036008534937002600:=Nat
def tw16536812056364397631:=Nat
def tw17440649317158897268:=Nat
def tw2512566560575487966:=Nat
def tw12640378863112297548:=Nat
def tw10801096971405354644:=Nat
def tw12647560824938812106:=Nat
def tw13340272574964095128:=Nat
def tw18170383694268904695:=Nat
def tw12193631777387450316:=Nat
def tw2772545671760534575:=Nat
def tw3203017244020803:=Nat
def tw10966214241349731730:=Nat
def tw5598556257186538485:=Nat
def tw11406965326937085350:=Nat
def tw3048907802098524999:=Nat
def tw6101224017038645089:=Nat
def tw5405155581690386967:=Nat
def tw17051897565335374168:=Nat
def tw11160682510154276882:=Nat
def tw11340505401963193277:=Nat
def tw13804609785838892859:=Nat
def tw9328852241036925542:=Nat
def tw14060782030556098839:=Nat
def tw7210188926027583512:=Nat
def tw2558907573990047648:=Nat
def tw9758271933427287440:=Nat
def tw18158850411303758485:=Nat
def tw11800347167683682222:=Nat
def tw13203359853655469881:=Nat
def tw5682126776443822346:=Nat
def tw11225880663189909252:=Nat
def tw17535562798882088882:=Nat
def tw17645102234987280631:=Nat
def tw4327469356227875420:=Nat
def tw13015441782783255128:=Nat
def tw11189172360807055977:=Nat
def tw8950082784836422305:=Nat
def tw12907764739194307276:=Nat
def tw18385724962257301888:=Nat
def tw9391609936238260583:=Nat
def tw8573039110002803772:=Nat
def tw7634801171568802100:=Nat
def tw15097490748367405776:=Nat
def tw3834855096711883588:=Nat
def tw8747870555605566021:=Nat
def tw15380251881711633634:=Nat
def tw3782229647066036016:=Nat
def tw15407471809790749202:=Nat
def tw8255049626408811941:=Nat
def tw13910216736201048464:=Nat
def tw6557227730013584895:=Nat
def tw14322143057699790358:=Nat
def tw10917368802710344777:=Nat
def tw6191650481060793002:=Nat
def tw16143116208322533575:=Nat
def tw14907753100972859938:=Nat
def tw12143208500339230976:=Nat
def tw9443595583698926350:=Nat
def tw3653176424135678852:=Nat
def tw11677810062137395446:=Nat
def tw183547930377795187:=Nat
def tw2151705679875785834:=Nat
def tw1642894975528030102:=Nat
def tw8691532159805156321:=Nat
def tw4862916970830808647:=Nat
def tw909855881255296734:=Nat
def tw3833862857762630619:=Nat
def tw16303250549748261178:=Nat
def tw5290067532048436459:=Nat
def tw15428040013921658310:=Nat
def tw6514063034503634137:=Nat
def tw8980257303408461975:=Nat
def tw13950583348593778632:=Nat
def tw1957817167392567899:=Nat
def tw6516906131131239135:=Nat
def tw1231291564295123107:=Nat
def tw5926439301618826997:=Nat
def tw4829544308216130055:=Nat
def tw1927606464254685966:=Nat
def tw4980889150889142645:=Nat
def tw6302499882996154627:=Nat
def tw14526382581987788930:=Nat
def tw16088536461800293792:=Nat
def tw2685571355774954128:=Nat
def tw4118024616177566899:=Nat
def tw12988274763103507399:=Nat
def tw8225987732226965062:=Nat
def tw15621209618562391694:=Nat
def tw7317809238868907756:=Nat
def tw18071735775086759933:=Nat
def tw12018975462736672348:=Nat
def tw16428123099344362216:=Nat
def tw5185351989120274275:=Nat
def tw7022984746483314280:=Nat
def tw10707839510999990144:=Nat
def tw837427260799467177:=Nat
def tw9831746440646076306:=Nat
def tw11853253684198378867:=Nat
def tw46713098414296849:=Nat
def tw5860488337959525394:=Nat
def tw1861980202350660712:=Nat
def tw11784480324384804967:=Nat
def tw3201380592730870821:=Nat
def tw7711420886596610580:=Nat
def tw4534593755058824759:=Nat
def tw5136088633431833877:=Nat
def tw3349322371943648366:=Nat
def tw593969146757527068:=Nat
def tw5499438857065865063:=Nat
def tw16668210705733819807:=Nat
def tw11464513842335153657:=Nat
def tw7851822653073273224:=Nat
def tw14770102902489876215:=Nat
def tw10614945316248259074:=Nat
def tw10162721215894024832:=Nat
def tw9268965253298790053:=Nat
def tw14921992414128856358:=Nat
def tw13470891157613446365:=Nat
def tw6794327205104828651:=Nat
def tw1565560710097675762:=Nat
def tw6454145879498451375:=Nat
def tw6905213332969856301:=Nat
def tw1436539676147126039:=Nat
def tw13384157442309750724:=Nat
def tw15141969105260551596:=Nat
def tw17275676238679603901:=Nat
def tw14049564409961615158:=Nat
def tw5401600984836769527:=Nat
def tw2409086972828443106:=Nat
def tw18069489470431113179:=Nat
def tw5370484875058823263:=Nat
def tw17033134281811609635:=Nat
def tw7111647675305692049:=Nat
def tw6123413131368183919:=Nat
def tw7321770917062399332:=Nat
def tw7931721486610807570:=Nat
def tw10641185834929558471:=Nat
def tw3093638779061003054:=Nat
def tw5701490090115158421:=Nat
def tw1520782052509069545:=Nat
def tw16553696120161591945:=Nat
def tw10325820338430989222:=Nat
def tw14778397519250745297:=Nat
def tw4351708169514665024:=Nat
def tw7062696218219796772:=Nat
def tw11407091204636770225:=Nat
def tw16959610738275069078:=Nat
def tw5936675320066595103:=Nat
def tw14865752498811700185:=Nat
def tw12254154883761226737:=Nat
def tw12068888227761180996:=Nat
def tw4167925189283265926:=Nat
def tw10007312656990964868:=Nat
def tw11509807018603505503:=Nat
def tw11738119256764448737:=Nat
def tw12660755335097834535:=Nat
def tw5550682846225862786:=Nat
def tw10663515200734844915:=Nat
def tw8906908984715668083:=Nat
def tw1043324482897119593:=Nat
def tw18050410837724094063:=Nat
def tw11119263914233659313:=Nat
def tw4899267723873489494:=Nat
def tw1507613070887179901:=Nat
def tw5348856069126084708:=Nat
def tw2454191171555142691:=Nat
def tw11395188363225098798:=Nat
def tw17824877514345012839:=Nat
def tw5732072918679198004:=Nat
def tw3834318653883406213:=Nat
def tw7302071119033314111:=Nat
def tw6977691608510947296:=Nat
def tw6284219768924113590:=Nat
def tw3843144325163986235:=Nat
def tw13402757890939456124:=Nat
def tw1084905168767290051:=Nat
def tw11232577458246004533:=Nat
def tw4583044111735188024:=Nat
def tw10397674278116966860:=Nat
def tw5638884734908605895:=Nat
def tw3799732261620602782:=Nat
def tw12488242258217879122:=Nat
def tw14171556826505028530:=Nat
def tw13348287606778948402:=Nat
def tw681924520749287346:=Nat
def tw3152905886228983032:=Nat
def tw1020036348597712060:=Nat
def tw11084415645640650165:=Nat
def tw16011821695489368158:=Nat
def tw15306508269964445218:=Nat
def tw14648437132487189489:=Nat
def tw7097584399714285119:=Nat
def tw14144767392779466910:=Nat
def tw10938349284527780117:=Nat
def tw18356652261814412325:=Nat
def tw16415283167646248217:=Nat
def tw15001658265104976434:=Nat
def tw783432579496789863:=Nat
def tw4294202930781224008:=Nat
def tw4260229416398160574:=Nat
def tw2410486484967493638:=Nat
def tw9691629675808271809:=Nat
def tw11014667053317934339:=Nat
def tw17103296355264989423:=Nat
def tw2475666043926017993:=Nat
def tw11929206469774484808:=Nat
def tw8223823741097098615:=Nat
def tw647364437162119581:=Nat
def tw3117677295668900677:=Nat
def tw4935694045774275566:=Nat
def tw8584964071676750331:=Nat
def tw11617896327563332170:=Nat
def tw5741540469463662651:=Nat
def tw17469650385477824070:=Nat
def tw16679596962408233071:=Nat
def tw13770366026825287373:=Nat
def tw1326112819755605735:=Nat
def tw15015070130170873761:=Nat
def tw358204367855517658:=Nat
def tw6892497395376248795:=Nat
def tw6916252843635726662:=Nat
def tw6297818670287431749:=Nat
def tw2899330445011682653:=Nat
def tw2995778127672641412:=Nat
def tw2737688584427385521:=Nat
def tw15399920581323977935:=Nat
def tw1210723852588927187:=Nat
def tw3218404377268529274:=Nat
def tw17355649629817867475:=Nat
def tw6911767693295893989:=Nat
def tw16102865565518737381:=Nat
def tw12245559067196930262:=Nat
def tw5893195877756395050:=Nat
def tw15202317624686242970:=Nat
def tw6708337480318312898:=Nat
def tw10588296330093263768:=Nat
def tw890385532561894008:=Nat
def tw9509078162862154578:=Nat
def tw17449309293319316870:=Nat
def tw12008368270734770111:=Nat
def tw18062689183069891996:=Nat
def tw16858585027661864905:=Nat
def tw17415366648122673035:=Nat
def tw10694163932815182352:=Nat
def tw3857823680509789497:=Nat
def tw3361065349452438996:=Nat
def tw10441491838591089297:=Nat
def tw8269681458536584755:=Nat
def tw5110920167779130482:=Nat
def tw4051908425594282033:=Nat
def tw9734995821573620014:=Nat
def tw8635437063820301856:=Nat
def tw1769938258178496624:=Nat
def tw18361878884134494740:=Nat
def tw7770274134366710303:=Nat
def tw12555388578235997109:=Nat
def tw13937923606116627524:=Nat
def tw403356683048895632:=Nat
def tw3051995952764541598:=Nat
def tw4098204690255122219:=Nat
def tw6109469279110890013:=Nat
def tw5451056960084525039:=Nat
def tw5660585428104309712:=Nat
def tw18437259282536386021:=Nat
def tw17683148275473377594:=Nat
def tw2658828299730346302:=Nat
def tw18158668775965279973:=Nat
def tw2465913249350862187:=Nat
def tw1664931342913979522:=Nat
def tw13910056468248717672:=Nat
def tw2390353839146567043:=Nat
def tw8357983701217337569:=Nat
def tw16446743642513791079:=Nat
def tw13656928224330333595:=Nat
def tw11108002278494835135:=Nat
def tw2386766356444014112:=Nat
def tw5410548409927564769:=Nat
def tw7106514408344008763:=Nat
def tw15148828426058570737:=Nat
def tw9611643803313436588:=Nat
def tw14583475520604100259:=Nat
def tw14677953968345031419:=Nat
def tw13413736753273913341:=Nat
def tw6289007795681458345:=Nat
def tw11324581555374574644:=Nat
def tw8321151852470327665:=Nat
def tw15376891342869982734:=Nat
def tw12154259112982521339:=Nat
def tw14841970684456249942:=Nat
def tw16648937778890626949:=Nat
def tw5259465966036223142:=Nat
def tw17461459939752039268:=Nat
def tw8649976243183706179:=Nat
def tw9583257504706890447:=Nat
def tw14957304128551616414:=Nat
def tw4917035739197956714:=Nat
def tw681898361462028233:=Nat
def tw385094991945074183:=Nat
def tw18359629759390820998:=Nat
def tw943449937633787918:=Nat
def tw6159100158041871773:=Nat
def tw13743353980943583631:=Nat
def tw5177694965863496453:=Nat
def tw17699236273664469531:=Nat
def tw7593139335165775537:=Nat
def tw10208119502047549408:=Nat
def tw17955851233174098612:=Nat
def tw9659419020143132827:=Nat
def tw16001768642695902740:=Nat
def tw8123652912911361302:=Nat
def tw254249085586628144:=Nat
def tw3981032114723472021:=Nat
def tw8187836871352984308:=Nat
def tw16503400133613957360:=Nat
def tw12499776465750765516:=Nat
def tw4941258276503300366:=Nat
def tw3979925745899928862:=Nat
def tw10884437459474696123:=Nat
def tw15178308492868860378:=Nat
def tw18129181184208261889:=Nat
def tw52238888818142869:=Nat
def tw5299662113937072805:=Nat
def tw17381360622439836326:=Nat
def tw15613508328814349474:=Nat
def tw17070413154569795579:=Nat
def tw1641757318480651966:=Nat
def tw8435693966311717069:=Nat
def tw15126961707154404194:=Nat
def tw11006494016844501288:=Nat
def tw9768721330750275123:=Nat
def tw6682540929890692701:=Nat
def tw1220360917649678968:=Nat
def tw443726010984296790:=Nat
def tw2110792656825635518:=Nat
def tw15551861198404783288:=Nat
def tw8851809735888809066:=Nat
def tw4520258180382544397:=Nat
def tw9128450409112361482:=Nat
def tw8499819985238598487:=Nat
def tw1457211619313324927:=Nat
def tw11109775102180553217:=Nat
def tw9051918811737820589:=Nat
def tw14207291311397722799:=Nat
def tw14850818663510766783:=Nat
def tw17824923241845933763:=Nat
def tw16945686933734310436:=Nat
def tw12609060204371563397:=Nat
def tw3192981498398716169:=Nat
def tw9539400604749450659:=Nat
def tw2147537917821882351:=Nat
def tw16911918978320191272:=Nat
def tw7128449198540370923:=Nat
def tw711085443496450133:=Nat
def tw5875283872360772837:=Nat
def tw15450110954622119624:=Nat
def tw9593121978445114577:=Nat
def tw17950943270130240293:=Nat
def tw2937868498721428017:=Nat
def tw4681240465840789976:=Nat
def tw14013526903935828310:=Nat
def tw4666357893802606849:=Nat
def tw7219986709473406309:=Nat
def tw1260757353670036772:=Nat
def tw15491355564370767257:=Nat
def tw9522790852909657991:=Nat
def tw5811899634226490118:=Nat
def tw3773695591154327889:=Nat
def tw1425680053708781501:=Nat
def tw3726048509437110718:=Nat
def tw7110433882447821658:=Nat
def tw6425145453128404464:=Nat
def tw12395575378763923239:=Nat
def tw16302474278449127793:=Nat
def tw7445674915165523137:=Nat
def tw12467512114749064754:=Nat
def tw5089863759636875085:=Nat
def tw11462793904852014279:=Nat
def tw17114260708191159425:=Nat
def tw5124913996690197569:=Nat
def tw5853033284050812472:=Nat
def tw7486472817268132633:=Nat
def tw2940611169113499084:=Nat
def tw1444111551213623270:=Nat
def tw6708997259343611116:=Nat
def tw4757569365640350260:=Nat
def tw5911482303286964623:=Nat
def tw1447223189530876134:=Nat
def tw16691110601311414979:=Nat
def tw18345197546949992756:=Nat
def tw15058605595244862885:=Nat
def tw14435839570861506259:=Nat
def tw11633276892613540549:=Nat
def tw8503475041010574978:=Nat
def tw12536658393025155954:=Nat
def tw5572097355458083696:=Nat
def tw12204428363777667670:=Nat
def tw1156669687564088988:=Nat
def tw6763576361798343782:=Nat
def tw2210401682089807995:=Nat
def tw14383726329063387983:=Nat
def tw109822423400940522:=Nat
def tw12623881713225149850:=Nat
def tw3173421361840322303:=Nat
def tw14702624678240490252:=Nat
def tw9351228088541145063:=Nat
def tw4705368331019518152:=Nat
def tw10047988067830179480:=Nat
def tw1413446772942995330:=Nat
def tw17407787068368183721:=Nat
def tw1228275329216201625:=Nat
def tw10455740691416932926:=Nat
def tw12812871813560135383:=Nat
def tw9285599879178657744:=Nat
def tw14019802029617173168:=Nat
def tw2876663137051739352:=Nat
def tw13580525301971190493:=Nat
def tw6033344600888447347:=Nat
def tw13106939743610819696:=Nat
def tw2946738073227120377:=Nat
def tw15800167312056297061:=Nat
def tw13256133426499343253:=Nat
def tw9833979744276241287:=Nat
def tw9489142455042342300:=Nat
def tw9210770139638930353:=Nat
def tw15385441502706149542:=Nat
def tw4582182104454401242:=Nat
def tw6802795999003779047:=Nat
def tw8807936299338871814:=Nat
def tw8184684968291764452:=Nat
def tw4835803304111074844:=Nat
def tw5867189745697454034:=Nat
def tw8269053284150171758:=Nat
def tw6308968568050848781:=Nat
def tw7000348745458864322:=Nat
def tw3665468724699741649:=Nat
def tw7734321024684194657:=Nat
def tw4007536465208137196:=Nat
def tw928605704686620122:=Nat
def tw1125227093562206578:=Nat
def tw4814807691140697168:=Nat
def tw12615162535060242577:=Nat
def tw14732372328714968884:=Nat
def tw1938773565385451200:=Nat
def tw12868875330118625489:=Nat
def tw17777391105420489184:=Nat
def tw15050759133375103793:=Nat
def tw10199614118402047099:=Nat
def tw14900809572532376763:=Nat
def tw10176868915045615792:=Nat
def tw7776494702275704968:=Nat
def tw6433247268889828444:=Nat
def tw5209672483638407177:=Nat
def tw13115412777299985947:=Nat
def tw837347643517229864:=Nat
def tw539715742622185970:=Nat
def tw5876416179276327619:=Nat
def tw10858455791939462220:=Nat
def tw9622383002405597590:=Nat
def tw17894552530717688057:=Nat
def tw2353681371986410878:=Nat
def tw4541779397513581737:=Nat
def tw16192223705529510:=Nat
def tw12661315450268997836:=Nat
def tw12153454048977463674:=Nat
def tw1982355056317459170:=Nat
def tw10155997090236873334:=Nat
def tw9866636677212456083:=Nat
def tw9441996845139356657:=Nat
def tw304266797653988347:=Nat
def tw16908699517275831743:=Nat
def tw2722421798961476512:=Nat
def tw17902963305503297292:=Nat
def tw1546525019472469091:=Nat
def tw7393790761238017029:=Nat
def tw5539376975884948720:=Nat
def tw63863174788692526:=Nat
def tw5556759714004041632:=Nat
def tw2983024418667565530:=Nat
def tw14368447852662923717:=Nat
def tw4397324540586193890:=Nat
def tw3297738859418851073:=Nat
def tw11769485108343272494:=Nat
def tw16802065470005757831:=Nat
def tw7657866321868157073:=Nat
def tw7497538776463952274:=Nat
def tw9485282673574099757:=Nat
def tw8112412394928805176:=Nat
def tw11519273375449550748:=Nat
def tw15070293663800255456:=Nat
def tw3762910531540913395:=Nat
def tw1117448607408884022:=Nat
def tw7587112090665629174:=Nat
def tw3217638518021271450:=Nat
def tw13174746672818384306:=Nat
def tw410337003435711991:=Nat
def tw3644115181388131180:=Nat
def tw14451110870516698327:=Nat
def tw11350231781405893107:=Nat
def tw12299685781935162477:=Nat
def tw5483635558107511687:=Nat
def tw1501666308829333728:=Nat
def tw620886290181985021:=Nat
def tw10324159755292851547:=Nat
def tw7361828501573449948:=Nat
def tw14877296475452895722:=Nat
def tw2111203871449773003:=Nat
def tw3362293125487838988:=Nat
def tw17510395395757971182:=Nat
def tw11329493652236965723:=Nat
def tw5300122000125355935:=Nat
def tw11098122852090576250:=Nat
def tw16871243074637951812:=Nat
def tw6690870843980847100:=Nat
def tw8589308075703573255:=Nat
def tw4750916632208828420:=Nat
def tw9509617550287386851:=Nat
def tw16732107466925345614:=Nat
def tw14200981358277325284:=Nat
def tw16814826170176493912:=Nat
def tw12879158452665301912:=Nat
def tw12458835215608039865:=Nat
def tw16334147821776490364:=Nat
def tw269041716444970478:=Nat
def tw2161875606287436736:=Nat
def tw15760569558011052198:=Nat
def tw8297424138218702808:=Nat
def tw4438344314814740076:=Nat
def tw16047076421572295293:=Nat
def tw14675113497459395084:=Nat
def tw4285926559106619618:=Nat
def tw11867889828258961212:=Nat
def tw4717148548313124639:=Nat
def tw2460379625128510813:=Nat
def tw14579001949751251044:=Nat
def tw15882128477744736711:=Nat
def tw8009895774522818733:=Nat
def tw2706294796365575131:=Nat
def tw18122518847896155000:=Nat
def tw18217156014221858585:=Nat
def tw7238958703064581352:=Nat
def tw6412635635791664123:=Nat
def tw13628229914200504690:=Nat
def tw6735677742578268259:=Nat
def tw17059663531863131934:=Nat
def tw6108831318115023698:=Nat
def tw12493766639010488934:=Nat
def tw2950583658545687287:=Nat
def tw15962623938179167990:=Nat
def tw1174895085888939701:=Nat
def tw827960465702284382:=Nat
def tw443966308184672411:=Nat
def tw9887740641378222781:=Nat
def tw6529864920064613478:=Nat
def tw11093197294513547099:=Nat
def tw17362432622127716350:=Nat
def tw7798853196573169746:=Nat
def tw14616515155614755636:=Nat
def tw17664676063658919129:=Nat
def tw9620631598002018666:=Nat
def tw5383234179135770122:=Nat
#check PySem.W.Fast
namespace S82
open PySem L2 XL
theorem walk {l:PySem.W.OpenLaw}{q:Program}{loose:ap}{XP:zcy}{YP:zaw}{d:DefRec}{K:Params->Zd} (hn:ae l.most 63) (hdf:WJ)
    (hY:(zmF,(vA).In h))
    (F:∀(w:World) (mg:Str->Option Value) (fa:Addr) (h:Heap),(vA).In h->h.Ns mainGlobals mg->zbc ->
      ∃ fd:FuncData,(Uj "_law_script")/\(Ml,(vA).In base,FnOk true l.prog w vA mg base zcs 14 fa fd Ai (xkc (K w.params)))) :
    PySem.W.WalkO q loose XP YP l.row.toRowW d [] Vp :=
  L2.walk_of (q0:=true) (n:=63) (k:=14) (x:="_law_script") (CX:=fun w=>zcs) (sp:=fun w=>xkc (K w.params)) hn az hdf ⟨pB,az,az,rfl⟩ hY F (fun _ _ a ns hl _ hS=>zI a ns hS hl pB)
    fun w H s e s' z=>by obtain⟨_,_,_,_,_,_,_,_,_,_,_,_,_,_,q⟩:=z; exact q
theorem all_mk {l:PySem.W.OpenLaw}{w:World}{K:Zd}{h:Heap}{mg:fO}{fa:Addr} (hfa:bG "law" fa) (TT:∃ t,aF) :
    ∃ fd:FuncData,(∀(s:Shared) (v:Value),BindsTo s fd (jB [v]) [("_law_script",v)])/\(Ml,K.In base,FnOk true l.prog w K mg base zcs 14 fa fd Ai (xkc K)):=by
  obtain⟨t,T⟩:=TT;have e:=hfa.symm.trans T.g_law;cases e;show(gU,t.d_law,au s v,fun base _ _=>xvx T);obtain⟨oc,od,kV,doc,pm,an,cdv,ct,osl,e,lk,hcd⟩:=T.F_law.ex;rw[e];exact .of_eq rfl
#check S82
open PySem PySem.W PyProof.Rows
end
set_option maxRecDepth 100000 in
set_option maxHeartbeats 0 in
theorem PySem.Challenge.cw_rimnotes_k82_whole_as_good_as_anew_holds : PySem.Challenge.rw_rimnotes_k82_whole_as_good_as_anew.Holds := by
 w_on; o_law; k_head; (case hw=>w_witness2)
 k_fill
 refine S82.walk (l:=PySem.Challenge.rw_rimnotes_k82_whole_as_good_as_anew) rfl rfl (fun w h Y=>PySem.W.kIn_of Y) ?F
 case F =>
  intro w mg fa h KX G hmg
  refine S82.all_mk (h:=h) hmg ?TT
  refine' S82.txt_mk (w:=w) KX G ?g_b8 ?g_ap ?g_ad ?g_al ?g_t ?g_ao ?g_a ?a_a7 ?F_a7 ?i_a7 ?a_aq ?F_aq ?i_aq ?a_ai ?F_ai ?i_ai ?a_u ?F_u ?i_u ?a_ah ?F_ah ?i_ah ?a_ae ?F_ae ?i_ae ?a_p ?F_p ?i_p ?a_a6 ?F_a6 ?a_bb ?F_bb ?a_meeting ?F_meeting ?a_total ?F_total ?a_bg ?F_bg ?a_upright ?F_upright ?a_az ?F_az ?a_exchangeable ?F_exchangeable ?a_an ?F_an ?a_exchanged ?F_exchanged ?a_uncrossed ?F_uncrossed ?a_at ?F_at ?i_at ?a_o ?F_o ?i_o ?a_f ?F_f ?i_f ?a_crowds ?F_crowds ?a_fits ?F_fits ?a_bj ?F_bj ?a_kept ?F_kept ?a_aw ?F_aw ?i_aw ?a_ac ?F_ac ?i_ac ?a_aa ?F_aa ?i_aa ?a_v ?F_v ?i_v ?a_i ?F_i ?i_i ?a_least ?F_least ?a_answer ?F_answer ?a_bc ?F_bc ?a_bd ?F_bd ?i_bd ?a_g ?l_g ?c_g ?k_g ?i_g ?t_g ?a_bo ?F_bo ?i_bo ?a_a0 ?F_a0 ?i_a0 ?a_a1 ?F_a1 ?i_a1 ?a_bk ?F_bk ?i_bk ?a_a4 ?F_a4 ?i_a4 ?a_x ?F_x ?i_x ?a_a2 ?F_a2 ?i_a2 ?a_aj ?F_aj ?i_aj ?a_q ?F_q ?i_q ?a_w ?F_w ?i_w ?a_ax ?F_ax ?a_av ?F_av ?a_bp ?F_bp ?a_au ?F_au ?i_au ?a_b ?l_b ?c_b ?k_b ?i_b ?t_b ?a_ar ?F_ar ?i_ar ?a_as ?F_as ?i_as ?a_j ?F_j ?i_j ?a_r ?F_r ?i_r ?a_h ?F_h ?i_h ?a_n ?F_n ?i_n ?a_m ?F_m ?i_m ?a_ab ?F_ab ?i_ab ?a_s ?F_s ?i_s ?a_l ?F_l ?i_l ?a_y ?F_y ?i_y ?a_c ?F_c ?i_c ?a_k ?F_k ?i_k ?a_e ?F_e ?i_e ?a_d ?F_d ?i_d ?a_ag ?F_ag ?a_af ?F_af ?a_bi ?F_bi ?a_be ?F_be ?a_bh ?F_bh ?a_ay ?F_ay ?a_bm ?F_bm ?a_z ?F_z ?a_ak ?F_ak ?a_a5 ?F_a5 ?a_bl ?F_bl ?a_a8 ?F_a8 ?a_a3 ?F_a3 ?a_bn ?F_bn ?a_ba ?F_ba ?a_bf ?F_bf ?a_a9 ?F_a9 ?a_law ?F_law ?kc_ap ?pg_ap ?hd_ap ?po_ap ?sa_ap ?mk_ap ?a_LeftSide_init ?kc_ad ?pg_ad ?hd_ad ?po_ad ?sa_ad ?mk_ad ?a_RightSide_init ?kc_al ?pg_al ?hd_al ?po_al ?sa_al ?mk_al ?kc_t ?pg_t ?hd_t ?po_t ?sa_t ?mk_t ?kc_ao ?pg_ao ?hd_ao ?po_ao ?sa_ao ?mk_ao ?kc_a ?pg_a ?hd_a ?po_a ?sa_a ?mk_a ?cg ?ct ?n_by ?n_bq ?n_br ?n_bs ?n_bv ?n_bu ?n_bw ?n_bz ?n_b2 ?n_b3 ?n_bx ?n_b0 ?n_bt ?n_b1 ?n_b6 ?n_abs ?n_all ?n_bool ?n_dict ?n_enumerate ?n_int ?n_isinstance ?n_len ?n_list ?n_min ?n_range ?n_set ?n_sorted ?n_str ?n_sum ?n_tuple ?v_b7 ?v_b4 ?v_b5 ?g_am ?l_am ?ns_am
  case g_b8|g_ap|g_ad|g_al|g_t|g_ao|g_a|a_a6|a_bb|a_meeting|a_total|a_bg|a_upright|a_az|a_exchangeable|a_an|a_exchanged|a_uncrossed|a_crowds|a_fits|a_bj|a_kept|a_least|a_answer|a_bc|a_ax|a_av|a_bp|a_ag|a_af|a_bi|a_be|a_bh|a_ay|a_bm|a_z|a_ak|a_a5|a_bl|a_a8|a_a3|a_bn|a_ba|a_bf|a_a9|a_law|g_am=>delta S82.gI; k_is
  case a_a7|a_aq|a_ai|a_u|a_ah|a_ae|a_p|a_at|a_o|a_f|a_aw|a_ac|a_aa|a_v|a_i|a_bd|a_g|a_bo|a_a0|a_a1|a_bk|a_a4|a_x|a_a2|a_aj|a_q|a_w|a_au|a_b|a_ar|a_as|a_j|a_r|a_h|a_n|a_m|a_ab|a_s|a_l|a_y|a_c|a_k|a_e|a_d|a_LeftSide_init|a_RightSide_init=>delta S82.fI; k_is
  case F_a7|F_aq|F_ai|F_u|F_ah|F_ae|F_p|F_a6|F_bb|F_meeting|F_total|F_bg|F_upright|F_az|F_exchangeable|F_an|F_exchanged|F_uncrossed|F_at|F_o|F_f|F_crowds|F_fits|F_bj|F_kept|F_aw|F_ac|F_aa|F_v|F_i|F_least|F_answer|F_bc|F_bd|F_bo|F_a0|F_a1|F_bk|F_a4|F_x|F_a2|F_aj|F_q|F_w|F_ax|F_av|F_bp|F_au|F_ar|F_as|F_j|F_r|F_h|F_n|F_m|F_ab|F_s|F_l|F_y|F_c|F_k|F_e|F_d|F_ag|F_af|F_bi|F_be|F_bh|F_ay|F_bm|F_z|F_ak|F_a5|F_bl|F_a8|F_a3|F_bn|F_ba|F_bf|F_a9|F_law=>exact L2.fun_mk (by k_is) (by k_is) (by k_is)
  case sa_ap|sa_ad|sa_al|sa_t|sa_ao|sa_a=>delta S82.fB; k_is
  case n_by|n_bq|n_br|n_bs|n_bv|n_bu|n_bw|n_bz|n_b2|n_b3|n_bx|n_b0|n_bt|n_b1|n_b6=>delta S82.fN; k_is
  case n_abs|n_all|n_bool|n_dict|n_enumerate|n_int|n_isinstance|n_len|n_list|n_min|n_range|n_set|n_sorted|n_str|n_sum|n_tuple=>delta S82.gN; k_is
  case i_a7|i_aq|i_ai|i_u|i_ah|i_ae|i_p|i_at|i_o|i_f|i_aw|i_ac|i_aa|i_v|i_i|i_bd|l_g|c_g|k_g|i_g|t_g|i_bo|i_a0|i_a1|i_bk|i_a4|i_x|i_a2|i_aj|i_q|i_w|i_au|l_b|c_b|k_b|i_b|t_b|i_ar|i_as|i_j|i_r|i_h|i_n|i_m|i_ab|i_s|i_l|i_y|i_c|i_k|i_e|i_d|kc_ap|pg_ap|hd_ap|po_ap|kc_ad|pg_ad|hd_ad|po_ad|kc_al|pg_al|hd_al|po_al|kc_t|pg_t|hd_t|po_t|kc_ao|pg_ao|hd_ao|po_ao|kc_a|pg_a|hd_a|po_a|cg|ct|v_b7|v_b4|v_b5=>k_is
  case mk_ap|mk_ad|mk_al|mk_t|mk_ao|mk_a|l_am=>first|k_is|kernel_rfl
  case ns_am=>kernel_rfl
